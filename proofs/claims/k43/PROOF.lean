import PyProof.Rows.All
import Wide.All
import OpenK.AllK
import Wide.FinOn
import Lean
import PyProof.EqAt
import PyProof.EqKinds
import PyProof.TupleCall
import PySem.Challenge.RW_renamehall_k43_whole_nothing_laid_over
import KE.IntTextLaws
import KE.KIsAll
import PyProof.ExcArgsOwn
import PyProof.ExcBaseAll.ValueError
import PyProof.ExcClass2
import PyProof.ExcInit
import PyProof.InstStore
import PyProof.Rows.CatchBare
import PyProof.Rows.CatchOwn
import PyProof.StationsW
import PyProof.SumWalk
import PyProof.ReprRoads
set_option Elab.async false
set_option linter.all false
set_option maxRecDepth 100000
open Array renaming getElem?_eq_getElem→Em,length_toList→Fe,getElem?_toList→Iq,getElem?_eq_none→Lc,getD_eq_getD_getElem?→Nf,forIn_toList→Nh,perm_iff_toList_perm→Np,toList_map→Ow,append_assoc→Rz
open Array.Perm renaming refl→Ul
open Bool renaming false_eq_true→Ax,false_ne_true→Bd,not_true→Eg,and_eq_true→Lk,eq_iff_iff→Ma,not_false→My,and_self→Nq,and_eq_true_iff→Ri,or_false→Rm
open Int renaming toNat_natCast→Ek,emod_lt_of_pos→Kb,emod_nonneg→Me,le_refl→Pz
open List renaming length_map→Ab,mem_map→Ac,getElem?_map→Ae,map_append→Af,mem_of_getElem?→Ag,mem_singleton→Ai,getElem?_eq_some_iff→Aj,length_append→Al,mem_append→Am,mem_cons_of_mem→An,map_map→Ap,mem_cons_self→At,map_cons→Aw,mem_cons→Ay,size_toArray→Az,mem_iff_getElem?→Ba,take_length→Bb,take_add_one→Bc,getLast?_eq_some_getLast→Bh,mem_append_right→Bk,length_take→Bm,nodup_cons→Bp,length_dropLast→Bq,length_pos_iff→Bu,getElem?_eq_getElem→Bx,length_cons→By,getElem?_append_left→Cc,dropLast_concat→Cf,mem_append_left→Ch,mem_filter→Cp,length_filter_le→Cr,map_congr_left→Cs,filter_cons_of_neg→Ct,filter_cons_of_pos→Cu,length_drop→Dd,nodup_append→Dj,filter_append→Dl,not_mem_nil→Dn,getLast?_eq_getElem?→Dq,length_singleton→Dx,getLastD_concat→Ee,getElem?_append_right→Ef,take_of_length_le→Ei,append_nil→El,getLastD_eq_getLast?→En,append_assoc→Fx,dropLast_concat_getLast→Gh,take_zero→Gj,find?_cons→Gq,getLast?_map→Gy,mem_of_mem_take→Hb,mem_of_getLast?→Hd,filterMap_cons→Hw,length_eq_zero_iff→Hy,length_nil→Ib,eq_nil_iff_forall_not_mem→Id,getElem?_inj→Io,lookup_cons→Jb,map_drop→Jg,map_take→Jh,getD_eq_getElem?_getD→Ji,perm_append_singleton→Jj,perm_ext_iff_of_nodup→Jk,getElem?_eq_none_iff→Jn,mem_filterMap→Jv,zip_cons_cons→Ke,pairwise_cons→Kh,sublist_append_left→Kj,drop_zero→Ko,getElem?_cons_succ→Kr,take_sublist→Ks,mapM_toArray→Kw,any_cons→Lg,mem_of_mem_drop→Mn,dropLast_subset→Mq,take_append_of_le_length→Ms,replicate_succ→Mt,mem_range→Mw,take_succ→Mz,getElem?_drop→Nl,take_nil→Nr,flatten_cons→Nv,pairwise_map→Ny,foldl_append→Nz,ext_getElem?→Oa,mem_of_find?_eq_some→Oi,all_eq_true→Ot,drop_length→Oz,length_erase_of_mem→Pa,nil_sublist→Pb,any_eq_true→Pc,pairwise_singleton→Pi,of_mem_zip→Pk,forIn_cons→Pl,any_append→Po,getElem?_set_self→Pp,length_pos_of_mem→Qh,length_replicate→Ql,dropLast_eq_take→Qq,getElem?_toArray→Qt,mem_of_mem_head?→Qw,getElem?_set_ne→Qx,mem_erase_of_ne→Rg,mem_of_mem_tail→Rh,map_eq_nil_iff→Rt,filter_sublist→Ru,filterMap_map→Sd,zip_nil_right→Si,getElem?_take→Sm,getLast?_cons→So,any_eq_false→Sr,reverse_cons→Su,zip_nil_left→Sz,drop_sublist→Td,map_id→Th,filter_cons→Tr,zipIdx_cons→Tv,getElem_mem→Tx,map_reverse→Ty,foldl_cons→Ug,nil_append→Um,find?_some→Us
open List.Pairwise renaming imp_of_mem→Pd
open List.Perm renaming append_right→Le
open List.Sublist renaming refl→Ky,append→Mu
open Nat renaming le_refl→Aq,ne_of_lt→Bf,zero_le→Bl,lt_of_lt_of_le→Bt,le_trans→Bz,ne_of_gt→Et,lt_irrefl→Eu,le_succ_of_le→Fa,lt_succ_self→Gf,le_of_lt→Gm,succ_le_succ→Hm,le_succ→Ig,lt_succ_of_lt→Im,sub_zero→Iy,le_of_eq→Jw,lt_of_le_of_lt→Ka,add_le_add_left→Rp,min_self→Sg,lt_or_ge→Sk,sub_self→Sn,min_eq_left→Uo,not_lt→Ur
open Ne renaming symm→Er
open Option renaming map_some→Jo,isSome_map→Ku,map_eq_some_iff→Lb,isSome_iff_exists→Op,getD_none→To
open Option.some renaming inj→Bj
open Prod renaming ext→Tm
open Prod.mk renaming inj→Ti
open PyProof.Rows renaming lo1→Bw,wpS_bind→Cg,slot_tuple_getitem→Dk,wpS_pure→Do,get?_update_seq→Dz,callWith_type1→Eb,seqObj→Hq,SortSt→Ia,envOfC→Jy,SortKind→Kc,wpS_forRange→Kd,listItems_at→Kg,up1→Ln,AllBare→Lo,mirror→Mi,collect_list→Og,pendingOf→Pn,subscriptTail_builtinR→Pu,mirror_perm→Qa,wpS_reverse→Qb,wpS_get→Qp,Constant_none→Rj,listUpdate_at→Rn,lt_str→Rq,args_tuple_getitem→Se,tuples'→Sq,seqEpoch_at→Tg,failedOf→Tt,wpS_mono→Tu,keyKind'→Tw,Subscript_→Ud,wpS_modify→Uk
open PySem renaming wpAny_bind→Aa,wpAny_pure→Ad,starEach→Bg,wpAny_call_entry→Bo,wpAny_newObj_type→Br,wpAny_callSpecial?_slot→Bs,wpAny_holding→Ca,wpAny_field→Cb,wpAny_dictEntries→Cj,boot_len→Ck,compareOp→Cl,sysModules→Cm,wpAny_truthy_bool→Cn,wpAny_setField_rec→Co,wpAny_mono→Cq,Builtin→Cy,wpAny_seqItems→Cz,codeAny_builtin→Da,plainId_quiet→Db,mainGlobals→Dm,rawInt→Ds,wpAny_attempt→Dw,wpAny_dictEpoch→Ea,tupleKind_room_in1→Ec,wpAny_isInstance→Ed,sizeLine_eq→Ev,codeAny→Ew,wpAny_updateSeq→Fb,mem_of_lookup→Ff,backTo→Fi,wpAny_typeOf→Fj,wpAny_rule→Fk,wpAny_notOrdered_dict→Fn,wpAny_letGo→Fr,bootBuiltins→Ft,compEnvC→Fv,wpAny_typeNameOfWhole_itemiter→Fw,attributeBase→Fy,wpAny_typeNameOfWhole_keyiter→Fz,wpAny_typeNameOfWhole_valiter→Ga,pyNext→Gb,binaryOp→Ge,wpAny_forIn_list→Gg,wpAny_of_eq→Gk,wpAny_passesOwn→Gp,builtinLookup_eq_fast→Gr,argBest→Gu,behindInMarks→Gv,wpAny_standAt→Gw,wpAny_typeNameOf_itemiter→Ha,tupleKind→He,strIterType→Hh,codeAny_mono→Hj,wpAny_comprehension_free→Hn,wpAny_typeNameOf_keyiter→Ho,tupleKeyHash→Hu,wpAny_typeNameOf_valiter→Hv,wpAny_Call_Name_kw→Hz,keywordEach→Ie,foldedSetIterable→Il,isSubtype_stop→Ir,isSubtype_type→Iv,wpAny_setField→Iw,wpAny_fieldsOf→Ix,entryOfKey→Iz,assignEach→Ja,find?_eq_fast→Jf,holding→Jl,sliceBounds→Jm,wpAny_specialOf→Jp,typeLookup_type→Jq,importedModules→Jr,swapsWith→Jt,pyIter→Ju,call_meets→Kk,firstArgMember→Kl,wpAny_tryCatch→Kn,wpAny_pyIter_list→Kt,wpAny_pyIter_slot→Kv,IsPair→La,wpAny_isOneOf_itemiter→Ld,backToKw→Li,checkBuiltinCall→Ll,updateSeq→Lq,isSubtype_tuple_tuple→Ls,wpAny_isOneOf_valiter→Lu,wpAny_execs_nil→Lx,letOwnedTupleGo→Ly,wpAny_updateSeq_pair→Mc,codeAny_call_builtin→Mg,wpAny_newTuple→Mx,getMethod→Nb,wpAny_tupleItemsOf→Ng,wpAny_richCompare_same_room→Ni,wpAny_onRaise→Nn,wpAny_handled→No,wpAny_assign_Name→Nt,standAt→Oj,callerA→Ol,Within→Om,wpAny_execs_cons→On,noFill_tuple_add→Oq,call_meetsIn→Ou,wpAny_pyNext_list_item→Pq,subscripted→Ps,wpAny_Assign_Subscript→Px,wpAny_throw→Py,richCompare→Qd,wpAny_isTrue_Compare1→Qi,wpAny_pyNext_list_end→Qj,BindsTo→Qk,exec_Assign_Name_used→Qm,wpAny_isOneOf_keyiter→Qo,wpAny_loadName_local→Qy,wpAny_call→Qz,typeLookup→Ra,typeIs_str→Rb,wpAny_newFunctionEnv→Rc,entryFor→Re,seq_tuple_add→Rl,wpAny_loadName_cell→Ro,concat_meets→Sc,wpAny_setItem_heap→Sf,eqIsQuiet→Sj,treeTable→Sl,wpAny_sequenceKey→Ss,wpAny_pyIter_strU→Sw,wpAny_pyIter_enum→Sx,wpAny_Call_method→Sy,eqIsQuiet_byValue→Tc,seqIndex_of→Tf,callWith→Tk,wpAny_Name→Tz,wpAny_load→Ua,typeIs_int→Uf,call→Ui,closureFor→Uj
open PySem.Around renaming under_plainId→Ci,under→Oo
open PySem.AutoSeq1 renaming wpAny_loadPart'→Mm,sub_list_list→Qe
open PySem.Builtin.Builtins renaming bindParams→Nj
open PySem.Builtin.Dict renaming showsAll→Gs,pendingCount→Of,dictSlotArgs→Oh,samePairs→Qg,noArgs→Rs
open PySem.Builtin.Dict_items renaming ownsTuple→Dy,ownedTupleFields→Km,newIterator→Mj,dictOf→Oe
open PySem.Builtin.List renaming listItems→Eh,listExtendWith→Go,listSameRef→Hr,listTooLong→Os
open PySem.Builtin.Slice renaming slicePlaces→Gz,sliceAdjust→Oc
open PySem.Builtin.SmallTypes renaming nextOf→Od
open PySem.Builtin.Str renaming occurrences→Pe
open PySem.Builtin.Tuple renaming tupleHashOf→Hc,tupleItemsOf→Je
open PySem.Calls renaming callWith_builtin→Ih,spliced_cons→Jx,evalArgs_plain→Mb,Name_function_global→Nm,spliced_nil→Nu
open PySem.Code renaming isFrame→Sa
open PySem.F renaming plainAttrs_list→Cv,slot_list_append→Dg,type_list_append→Dh,plainAttrs_str→Ej,slot_dict_valueiterator_next→Ep,slot_dict_itemiterator_next→Es,slot_dict_keyiterator_next→Ez,plain_extend_loop→Fg,slot_dict_get→Fm,plain_min_loop→Gi,plainAttrs_dict→Hx,entry_dict_get→Ii,slot_str_lower→Ij,type_str_lower→Ik,slot_enumerate_next→Iu,slot_list_reversed→Jc,args_tuple_add_2→Jz,slot_list_getattribute→Ki,entry_tuple_add→Kp,slot_tuple_hash→Kx,slot_tuple_add→Kz,args_dict_valueiterator_next_1→Lm,args_dict_itemiterator_next_1→Lv,entry_dict_valueiterator_next→Lw,slot_zip_next→Md,args_dict_keyiterator_next_1→Mh,entry_dict_itemiterator_next→Ml,slot_tuple_eq→Mo,slot_list_lt→Mp,entry_dict_keyiterator_next→Mr,entry_min_loop→Oy,args_enumerate_next_1→Pf,args_dict_get_2→Pg,args_dict_get_3→Ph,slot_dict_values_iter→Pj,entry_enumerate_next→Pw,slot_dict_items_iter→Qc,args_list_lt_2→Qf,type_dict_get→Qn,slot_dict_len→Qr,entry_list_lt→Qs,slot_str_join→Qu,type_str_join→Qv,slot_dict_ne→Rf,entry_extend_loop→Rr,args_zip_next_1→Sv,plain_list_iadd→Tb,entry_zip_next→Tq,slot_dict_iter→Ts,slot_int_rmul→Uh
open PySem.Heap renaming get?_push_of_some→Ah,get?_push_size→Ar,lt_size→Au,get?_update_other→Ce,size_push→Ex,SameBut→Fh,get?_update_self→Fl,ExtBut→Na
open PySem.Heap.SameBut renaming update→Du,refl→Nx
open PySem.Obj renaming mapSeq→Cw,data_mapFields→Gn,mapFields→Lh,isFreed_of_fields→Lp,cls_mapFields→Nw
open PySem.Paired renaming length→Dv
open PySem.PassesOwn renaming never→Bi
open PySem.PyData renaming canLayAll0→Cd,depthAll→Eo,eqv→Ey,depthAll→Fp,canLay0→Fq,eqvAll→Gx,depth→Ht,canLay0→Jd,canLayAll0→Kq,depth→Nd,strOk→Sh
open PySem.SeqAt renaming EqAt→Di,eqAt_reads→Ov
open PySem.SeqAt.EqAt renaming str_str→Nc,int_str→Rx,str_int→Ry,same→Ue
open PySem.Str renaming ofString→Ao
open PySem.Txt renaming lower→Ic,slice→Pm,join→Tp,upper→Uq
open PySem.W renaming Frag→Ak,findIn→Fu,emptyDict→Hf,kia_one→Hg,keepIn→Hi,fnOf→Ip,instObj→Js,codeIn→Lj,Frag→Lz,plainGet→Ob,hasDictIn→Pr,plainGet_of→Rk,callWith_K→Sb,plainOver→Te,lookIn→Tj,cellsFrom_some→Tl,isFn→Ub,methodCall_KW→Uc,takerIn→Ut,makesIn→Uu
namespace L2
open PySem PySem.Spec PyProof.Rows
abbrev Key:=Sum Int Str
def keyIs:Key->Value->Bool
 |.inl k,v=>Value.isInt k v
 |.inr x,v=>Value.isStrOf x v
def keyH(w:World):Key->Int
 |.inl k=>hashInt k
 |.inr x=>hashStr w x
theorem q1h:∀{k:Key} {v:Value},keyIs k v=true->(∃i t,k=Sum.inl i/\v=Value.int i t)\/(∃x t,k=Sum.inr x/\v=Value.str x t)
 |.inl i,v,h=>by
  obtain⟨t,e⟩:=Value.isInt_shape (k:=i) (v:=v) h;exact .inl ⟨i,t,rfl,e⟩
 |.inr x,v,h=>by
  obtain⟨t,e⟩:=Value.isStrOf_shape h;exact .inr ⟨x,t,rfl,e⟩
theorem z5c(i:Int)(t:Tok):keyIs (.inl i) (.int i t)=true:=by simp[keyIs,Value.isInt]
theorem z5d(x:Str)(t:Tok):keyIs (.inr x) (.str x t)=true:=by simp[keyIs,Value.isStrOf]
theorem key_ll(a b:Int):decide ((Sum.inl a:Key)=Sum.inl b)=(a==b):=by grind
theorem key_rr(a b:Str):decide ((Sum.inr a:Key)=Sum.inr b)=decide (a=b):=by grind
theorem key_lr(a:Int)(b:Str):decide ((Sum.inl a:Key)=Sum.inr b)=false:=decide_eq_false (fun q=>nomatch q)
theorem key_rl(a:Str)(b:Int):decide ((Sum.inr a:Key)=Sum.inl b)=false:=decide_eq_false (fun q=>nomatch q)
def mixKind(prog:Program)(w:World):PySem.KeyKind prog w Key where
 is:=keyIs
 hash:=keyH w
 inj:=fun v a b ha hb=>by
  rcases q1h ha with⟨i,t,rfl,rfl⟩|⟨x,t,rfl,rfl⟩
  ·rcases q1h hb with⟨j,u,rfl,e⟩|⟨y,u,rfl,e⟩
   ·injection e with e1 _;rw[e1]
   ·exact nomatch e
  ·rcases q1h hb with⟨j,u,rfl,e⟩|⟨y,u,rfl,e⟩
   ·exact nomatch e
   ·injection e with e1 _;rw[e1]
 byValue:=fun k v h=>by
  rcases q1h h with⟨i,t,rfl,rfl⟩|⟨x,t,rfl,rfl⟩<;>rfl
 pyHash:=fun hv h=>by
  rcases q1h hv with⟨i,t,rfl,rfl⟩|⟨x,t,rfl,rfl⟩
  ·exact wpAny_pyHash_int h
  ·exact wpAny_pyHash_str h
 eqBool:=fun hu hv h=>by
  rcases q1h hu with⟨i,t,rfl,rfl⟩|⟨x,t,rfl,rfl⟩
  ·rcases q1h hv with⟨j,u,rfl,rfl⟩|⟨y,u,rfl,rfl⟩
   ·rw[key_ll] at h;exact wpAny_eqBool_int h
   ·rw[key_lr] at h;exact Rx i t y u _ _ _ _ h
  ·rcases q1h hv with⟨j,u,rfl,rfl⟩|⟨y,u,rfl,rfl⟩
   ·rw[key_rl] at h;exact Ry x t j u _ _ _ _ h
   ·rw[key_rr] at h;exact wpAny_eqBool_str h
 «strs» := fun k x t v h=>by
  rcases q1h h with⟨i,u,rfl,e⟩|⟨y,u,rfl,e⟩
  ·exact nomatch e
  ·injection e with e1 _
   subst e1
   cases v<;>rfl
theorem z1n(prog:Program)(w:World)(i:Int)(t:Tok):(mixKind prog w).is (.inl i) (.int i t)=true:=z5c i t
theorem z1o(prog:Program)(w:World)(x:Str)(t:Tok):(mixKind prog w).is (.inr x) (.str x t)=true:=z5d x t
inductive V where
 |non|bl (b:Bool)|int (i:Int)|str (x:Str)|byt (b:Array UInt8)|flt (b:UInt64)|ref (a:Addr)|ty (n:String)
 deriving DecidableEq
def RelV:V->Value->Prop
 |.non,u=>u=Value.none
 |.bl b,u=>u=Value.bool b
 |.int i,u=>∃t,u=Value.int i t
 |.str x,u=>∃t,u=Value.str x t
 |.byt b,u=>∃t,u=Value.bytes b t
 |.flt b,u=>∃t,u=Value.float b t
 |.ref a,u=>u=Value.ref a
 |.ty n,u=>u=Value.type n
abbrev Vals:List V->List Value->Prop:=Paired RelV
theorem Vals.length(r:Vals xs us):xs.length=us.length:=Dv r
theorem Vals.get:∀{xs:List V} {us:List Value} {i:Nat} {x:V},Vals xs us->xs[i]?=some x->∃u,us[i]?=some u/\RelV x u
 |_,_,_,_,.nil,e=>by simp at e
 |_,_,0,_,.cons r _,e=>by simp at e;subst e;exact⟨_,rfl,r⟩
 |_,_,i+1,x,.cons _ t,e=>by
  obtain⟨u,h1,h2⟩:=Vals.get (i:=i) (x:=x) t (by simpa using e);exact⟨u,by simpa using h1,h2⟩
theorem Vals.set{x:V}{u:Value}(r:RelV x u):∀{xs:List V} {us:List Value} (i:Nat),Vals xs us->Vals (xs.set i x) (us.set i u)
 |_,_,_,.nil=>.nil
 |_,_,0,.cons _ t=>.cons r t
 |_,_,i+1,.cons q t=>.cons q (Vals.set r i t)
theorem Vals.append:∀{xs ys:List V} {us ws:List Value},Vals xs us->Vals ys ws->Vals (xs++ys) (us++ws)
 |_,_,_,_,.nil,s=>s
 |_,_,_,_,.cons r t,s=>.cons r (Vals.append t s)
theorem Vals.take:∀{xs:List V} {us:List Value} (n:Nat),Vals xs us->Vals (xs.take n) (us.take n)
 |_,_,0,_=>.nil
 |_,_,_+1,.nil=>.nil
 |_,_,n+1,.cons r t=>.cons r (Vals.take n t)
theorem Vals.drop:∀{xs:List V} {us:List Value} (n:Nat),Vals xs us->Vals (xs.drop n) (us.drop n)
 |_,_,0,r=>r
 |_,_,_+1,.nil=>.nil
 |_,_,n+1,.cons _ t=>Vals.drop n t
theorem Vals.none_of:∀{xs:List V} {us:List Value} {i:Nat},Vals xs us->xs[i]?=none->us[i]?=none:=fun{xs us i} r e=>by
 have h1:=r.length;have h2:=Jn.mp e;exact Jn.mpr (by lia)
def RelO:Option V->Option Value->Prop
 |some v,some u=>RelV v u
 |none,none=>True
 |_,_=>False
def KV{κ:Type}:List (κ×V)->List (κ×Value)->Prop:=Paired fun(p:κ×V) (q:κ×Value)=>p.1=q.1/\RelV p.2 q.2
def kV:Key->V
 |.inl i=>.int i
 |.inr x=>.str x
inductive HO where
 |lst (xs:List V)
 |tup (xs:List V)
 |dK (kvs:List (Key×V))|dT (kvs:List (List Key×V))
 |set (S:Int->Bool) (n:Nat)
 |ins (C dx:Addr) (fs:List (Str×V))
 |own (x:Addr)
 |xd (fs:List (Str×V))
 |met (f x:Addr)
 |rng (lo hi:Int)
 |frz (o:Obj) (u:HO)
 |tbl (ps:Array Value)
 |ext (φ:Heap->Prop)
abbrev Hp:=Addr->Option HO
def upd(H:Hp)(a:Addr)(o:HO):Hp:=fun b=>if b=a then some o else H b
theorem q0b:upd H a o a=some o:=by unfold upd;rw[if_pos rfl]
theorem q0c(h:b≠a):upd H a o b=H b:=by unfold upd;rw[if_neg h]
theorem x1t:upd (upd H a o) a u=upd H a u:=by
 funext b;unfold upd;split<;>rfl
theorem z5e{H:Hp}(h:H a=some o)(h':H b=some u)(d:o≠u):a≠b:=by grind
theorem q0i{H:Hp}(h:H a=some o)(h':H b=none):a≠b:=by
 intro e;subst e;rw[h] at h';cases h'
section
variable(P:Program)(w:World)
def ObjOk(H:Hp)(h:Heap)(a:Addr):HO->Prop
 |.lst xs=>xs.length<=sizeLine/\∃(its:List Value) (n:Nat),Vals xs its/\h.get? a=some { cls:=.type "list",data:=.seq its.toArray n }
 |.tup xs=>xs.length<=sizeLine/\∃its:List Value,Vals xs its/\IsTup h a its.toArray
 |.dK kvs=>kvs.length<=sizeLine/\(a==Cm)=false/\∃vs,KV kvs vs/\h.DictOf (mixKind P w) a vs
 |.dT kvs=>kvs.length<=sizeLine/\(a==Cm)=false/\∃xs:List (List Key×Addr×Value),
   Paired (fun(p:List Key×V) (q:List Key×Addr×Value)=>p.1=q.1/\H q.2.1=some (.tup (p.1.map kV))/\RelV p.2 q.2.2) kvs xs /\
   ∃o es ep,h.get? a=some o/\o.ExactDict/\o.data=.dict es ep/\es.toList=xs.map (Iz (He (mixKind P w)))/\(xs.map (·.1)).Nodup
 |.set S n=>h.SetOf (intKind P w) a S n
 |.ins C dx fs=>H dx=some (.own a)/\fs.length<=1000/\dx≠a/\h.get? a=some (Js C dx) /\
   ∃mA,h.Ns1 dx mA/\(∀f,RelO (fs.lookup f) (mA f))/\Om mA (fs.map (·.1))
 |.own _=>∃o,h.get? a=some o
 |.xd fs=>∃mA,h.Ns1 a mA/\∀f,RelO (fs.lookup f) (mA f)
 |.rng lo hi=>∃t u v,h.get? a=some { cls:=.type "range",data:=.fields #[.int lo t,.int hi u,.int 1 v] }
 |.frz o u=>h.get? a=some o/\ObjOk H h a u
 |.tbl ps=>h.get? a=some { cls:=.none,data:=.fields ps }
 |.met f x=>h.get? a=some (W.methodObj (.ref f) (.ref x))
 |.ext φ=>φ h/\(∃o,h.get? a=some o)/\∀h1 h2:Heap,φ h1->(∀o,h1.get? a=some o->h2.get? a=some o)->φ h2
def HOk(H:Hp)(h:Heap):Prop:=∀a o,H a=some o->ObjOk P w H h a o
end
section
variable{P:Program}{w:World}{H H':Hp}{h h':Heap}{a:Addr}{o:HO}
theorem ObjOk.lt(x:ObjOk P w H h a o):a<h.objs.size:=by
 cases o with
 |lst xs=>obtain⟨_,_,_,_,e⟩:=x;exact Au e
 |tup xs=>obtain⟨_,_,_,p⟩:=x;exact p.lt
 |dK kvs=>obtain⟨_,_,_,_,o,_,_,e,_⟩:=x;exact Au e
 |dT kvs=>obtain⟨_,_,_,_,o,_,_,e,_⟩:=x;exact Au e
 |set S n=>obtain⟨o,_,_,_,e,_⟩:=x;exact Au e
 |ins C dx fs=>obtain⟨_,_,_,e,_⟩:=x;exact Au e
 |own y=>obtain⟨_,e⟩:=x;exact Au e
 |xd fs=>obtain⟨_,⟨_,_,_,e,_⟩,_⟩:=x;exact Au e
 |rng lo hi=>obtain⟨_,_,_,e⟩:=x;exact Au e
 |frz ob u=>obtain⟨e,_⟩:=x;exact Au e
 |tbl ps=>exact Au (show h.get? a=some _ from x)
 |met f y=>exact Au (show h.get? a=some _ from x)
 |ext φ=>obtain⟨_,⟨_,e⟩,_⟩:=x;exact Au e
theorem Paired.mapP{α β:Type}{F G:α->β->Prop}:∀{l₁:List α} {l₂:List β},Paired F l₁ l₂->(∀a b,F a b->G a b)->Paired G l₁ l₂
 |_,_,.nil,_=>.nil
 |_,_,.cons r t,f=>.cons (f _ _ r) (Paired.mapP t f)
theorem Paired.imp'{F G:α->β->Prop}(f:∀a b,F a b->G a b){l₁:List α}{l₂:List β}(r:Paired F l₁ l₂):Paired G l₁ l₂:=Paired.mapP r f
theorem ObjOk.stay(x:ObjOk P w H h a o)(k:∀b u,(b=a\/H b=some (.own a))->h.get? b=some u->h'.get? b=some u)(ho:∀b,H b=some (.own a)->H' b=some (.own a))(ht:∀b xs,H b=some (.tup xs)->H' b=some (.tup xs)):ObjOk P w H' h' a o:=by
 induction o with
 |lst xs=>obtain⟨z,its,n,r,e⟩:=x;exact⟨z,its,n,r,k _ _ (.inl rfl) e⟩
 |tup xs=>obtain⟨z,its,r,ob,e,c⟩:=x;exact⟨z,its,r,ob,k _ _ (.inl rfl) e,c⟩
 |dK kvs=>obtain⟨z,y,vs,r,ob,es,ep,e,c⟩:=x;exact⟨z,y,vs,r,ob,es,ep,k _ _ (.inl rfl) e,c⟩
 |dT kvs =>
  obtain⟨z,y,xs,r,ob,es,ep,e,c⟩:=x;exact⟨z,y,xs,Paired.mapP r fun p q z=>⟨z.1,ht _ _ z.2.1,z.2.2⟩,ob,es,ep,k _ _ (.inl rfl) e,c⟩
 |set S n=>obtain⟨ob,es,ep,t,e,c⟩:=x;exact⟨ob,es,ep,t,k _ _ (.inl rfl) e,c⟩
 |ins C dx fs =>
  obtain⟨d,z,ne,e,mA,⟨od,es,ep,e2,c⟩,r⟩:=x;exact⟨ho _ d,z,ne,k _ _ (.inl rfl) e,mA,⟨od,es,ep,k _ _ (.inr d) e2,c⟩,r⟩
 |own y=>obtain⟨ob,e⟩:=x;exact⟨ob,k _ _ (.inl rfl) e⟩
 |xd fs=>obtain⟨mA,⟨od,es,ep,e,c⟩,r⟩:=x;exact⟨mA,⟨od,es,ep,k _ _ (.inl rfl) e,c⟩,r⟩
 |rng lo hi=>obtain⟨t,u,v,e⟩:=x;exact⟨t,u,v,k _ _ (.inl rfl) e⟩
 |frz ob u ih=>obtain⟨e,q⟩:=x;exact⟨k _ _ (.inl rfl) e,ih q⟩
 |tbl ps =>
  have e:h.get? a=some { cls:=.none,data:=.fields ps }:=x;exact k a _ (.inl rfl) e
 |met f y =>
  have e:=x;exact k a _ (.inl rfl) e
 |ext φ=>obtain⟨p,⟨o,e⟩,st⟩:=x;exact⟨st _ _ p fun o q=>k _ _ (.inl rfl) q,⟨o,k _ _ (.inl rfl) e⟩,st⟩
theorem HOk.lt(x:HOk P w H h)(e:H a=some o):a<h.objs.size:=(x a o e).lt
theorem HOk.fresh(x:HOk P w H h)(e:h.objs.size<=a):H a=none:=by
 cases q:H a with
 |none=>rfl
 |some u=>exact absurd (Bt (x.lt q) e) (Eu _)
theorem HOk.kept(x:HOk P w H h)(k:∀b u,h.get? b=some u->h'.get? b=some u):HOk P w H h':=fun a o e =>
 (x a o e).stay (fun b u _ q=>k b u q) (fun _ q=>q) fun _ _ q=>q
theorem HOk.laid(x:HOk P w H h)(k:∀b u,h.get? b=some u->h'.get? b=some u)(hp:h.objs.size<=a)(new:ObjOk P w (upd H a o) h' a o):HOk P w (upd H a o) h':=fun b u e=>by
 have hn:=x.fresh hp;by_cases hb:b=a
 ·subst hb;rw[q0b] at e;cases e;exact new
 ·rw[q0c hb] at e;exact(x b u e).stay (fun c v _ q=>k c v q) (fun c q=>by rw[q0c (q0i q hn)];exact q) fun c xs q=>by rw[q0c (q0i q hn)];exact q
end
def Rd(H:Hp)(a:Addr)(u:HO):Prop:=H a=some u\/∃o,H a=some (.frz o u)
theorem Rd.of(h:H a=some u):Rd H a u:=.inl h
theorem Rd.ok(r:Rd H a u)(x:HOk P w H h):ObjOk P w H h a u:=by
 rcases r with r|⟨o,r⟩
 ·exact x a u r
 ·obtain⟨_,q⟩:=x a _ r;exact q
def Mut:Option HO->Prop
 |some (.lst _)=>True
 |some (.dK _)=>True
 |some (.dT _)=>True
 |some (.set _ _)=>True
 |some (.ins _ _ _)=>True
 |some (.ext _)=>True
 |_=>False
section
variable{P:Program}{w:World}{H:Hp}{h h':Heap}{x e:Addr}{o':HO}
theorem HOk.write(ok:HOk P w H h)(mu:Mut (H x))(he:e=x\/H e=some (.own x))(k:∀b u,b≠e->h.get? b=some u->h'.get? b=some u)(heo:∃u,h'.get? e=some u)(new:ObjOk P w (upd H x o') h' x o'):HOk P w (upd H x o') h':=fun b u q=>by
 have nown:∀c y,H c=some (.own y)->c≠x:=fun c y r z=>by subst z;rw[r] at mu;exact mu
 have ntup:∀c xs,H c=some (.tup xs)->c≠x:=fun c xs r z=>by subst z;rw[r] at mu;exact mu
 by_cases hb:b=x
 ·subst hb;rw[q0b] at q;cases q;exact new
 ·rw[q0c hb] at q;by_cases hbe:b=e
  ·have q':H b=some (.own x):=by
    rcases he with z|z
    ·grind
    ·rw[hbe];exact z
   rw[q] at q';cases q';obtain⟨v,hv⟩:=heo;exact⟨v,by rw[hbe];exact hv⟩
  ·refine(ok b u q).stay (fun c v hc r=>k c v ?_ r) (fun c r=>by rw[q0c (nown c b r)];exact r) fun c xs r=>by rw[q0c (ntup c xs r)];exact r
   rcases hc with rfl|hc
   ·exact hbe
   ·grind
end
structure Un (fs ex:List Addr) (H H':Hp) (h h':Heap):Prop where
 keep:∀b o,h.get? b=some o->H b=none->b∉fs->b∉ex->h'.get? b=some o
 slot:∀b o,h.get? b=some o->H b=none->b∈fs->b∉ex->∃sl,h'.get? b=some { o with slots:=sl }
 free:∀b o,h.get? b=some o->H b=none->b∉ex->H' b=none
 there:∀b o,h.get? b=some o->b∉ex->∃o',h'.get? b=some o'
 tups:∀b xs,H b=some (.tup xs)->H' b=some (.tup xs)
 frzs:∀b o u,H b=some (.frz o u)->H' b=some (.frz o u)
 tbls:∀b ps,H b=some (.tbl ps)->∃more,H' b=some (.tbl (ps++more))
section
variable{fs fs' ex ex':List Addr}{H H1 H2:Hp}{h h1 h2 h':Heap}{a x e:Addr}{o:HO}
theorem Un.any(u:Un fs ex H H1 h h1)(q:h.get? b=some ob)(n:H b=none)(hx:b∉ex):∃sl,h1.get? b=some { ob with slots:=sl }:=by
 by_cases hb:b∈fs
 ·exact u.slot b ob q n hb hx
 ·exact⟨ob.slots,u.keep b ob q n hb hx⟩
theorem Un.trans(a:Un fs ex H H1 h h1)(b:Un fs ex H1 H2 h1 h2):Un fs ex H H2 h h2 where
 keep:=fun c ob q n hc hx=>b.keep c ob (a.keep c ob q n hc hx) (a.free c ob q n hx) hc hx
 slot:=fun c ob q n hc hx=>by
  obtain⟨sl,e1⟩:=a.slot c ob q n hc hx;obtain⟨sl',e2⟩:=b.slot c _ e1 (a.free c ob q n hx) hc hx;exact⟨sl',e2⟩
 free:=fun c ob q n hx=>by
  obtain⟨o',e1⟩:=a.there c ob q hx;exact b.free c o' e1 (a.free c ob q n hx) hx
 there:=fun c ob q hx=>by
  obtain⟨o',e1⟩:=a.there c ob q hx;exact b.there c o' e1 hx
 tups:=fun c xs q=>b.tups c xs (a.tups c xs q)
 frzs:=fun c ob xs q=>b.frzs c ob xs (a.frzs c ob xs q)
 tbls:=fun c ps q=>by
  obtain⟨m1,e1⟩:=a.tbls c ps q;obtain⟨m2,e2⟩:=b.tbls c _ e1;exact⟨m1++m2,by rw[e2,Rz]⟩
theorem Un.kept(k:∀b u,h.get? b=some u->h'.get? b=some u):Un fs ex H H h h' :=
 ⟨fun b ob q _ _ _=>k b ob q,fun b ob q _ _ _=>⟨ob.slots,k b ob q⟩,fun _ _ _ n _=>n,fun b ob q _=>⟨ob,k b ob q⟩,fun _ _ q=>q,fun _ _ _ q=>q,fun _ ps q=>⟨#[],by rw[q];simp⟩⟩
theorem Un.refl:Un fs ex H H h h:=Un.kept fun _ _ q=>q
theorem Un.laid(k:∀b u,h.get? b=some u->h'.get? b=some u)(hp:h.objs.size<=a)(hn:H a=none):Un fs ex H (upd H a o) h h' where
 keep:=fun b u q _ _ _=>k b u q
 slot:=fun b u q _ _ _=>⟨u.slots,k b u q⟩
 free:=fun b u q n _=>by rw[q0c (Bf (Bt (Au q) hp))];exact n
 there:=fun b u q _=>⟨u,k b u q⟩
 tups:=fun b xs q=>by rw[q0c (q0i q hn)];exact q
 frzs:=fun b u xs q=>by rw[q0c (q0i q hn)];exact q
 tbls:=fun b ps q=>⟨#[],by rw[q0c (q0i q hn),q];simp⟩
theorem Un.write(mu:Mut (H x))(he:e=x\/H e=some (.own x))(k:∀b u,b≠e->h.get? b=some u->h'.get? b=some u)(heo:∃u,h'.get? e=some u):Un fs ex H (upd H x o) h h':=by
 have hx:∀b,H b=none->b≠x:=fun b n z=>by subst z;rw[n] at mu;exact mu
 have hb:∀b,H b=none->b≠e:=fun b n z=>by
  subst z;rcases he with r|r
  ·exact hx b n r
  ·rw[n] at r;cases r
 have hm:∀b u,H b=some u->¬Mut (some u)->b≠x:=fun b u q nm z=>by subst z;rw[q] at mu;exact nm mu
 refine⟨fun b u q n _ _=>k b u (hb b n) q,fun b u q n _ _=>⟨u.slots,k b u (hb b n) q⟩,fun b u q n _=>by rw[q0c (hx b n)];exact n,fun b u q _=>?_,
  fun b xs q=>by rw[q0c (hm b _ q fun z=>z)];exact q,fun b u xs q=>by rw[q0c (hm b _ q fun z=>z)];exact q,fun b ps q=>⟨#[],by rw[q0c (hm b _ q fun z=>z),q];simp⟩⟩
 by_cases hbe:b=e
 ·subst hbe;exact heo
 ·grind
theorem Un.mono(u:Un fs ex H H1 h h1)(hs:∀b∈fs,b∈fs')(hx:∀b∈ex,b∈ex'):Un fs' ex' H H1 h h1 :=
 ⟨fun b ob q n hb he=>u.keep b ob q n (fun z=>hb (hs b z)) fun z=>he (hx b z),fun _ _ q n _ he=>u.any q n fun z=>he (hx _ z),fun b ob q n he=>u.free b ob q n fun z=>he (hx b z),fun b ob q he=>u.there b ob q fun z=>he (hx b z),u.tups,u.frzs,u.tbls⟩
end
def trk(h:Heap)(H:Hp):List Addr:=(List.range h.objs.size).filter fun a=>(H a).isSome
def hidT(h:Heap)(H:Hp):Heap:=W.hideAll h (trk h H)
theorem z5f(h:Heap)(H:Hp):(hidT h H).objs.size=h.objs.size:=W.hideAll_size _ _
theorem z8o(e:h.get? b=some o)(n:H b=none):(hidT h H).get? b=some o :=
 W.hideAll_get _ e fun hm=>by
  have q:=(Cp.mp hm).2;rw[n] at q;simp at q
theorem x1u(e:(hidT h H).get? b=some o):h.get? b=some o/\H b=none:=by
 have e':=W.of_hideAll (trk h H) e;refine⟨e',?_⟩;cases q:H b with
 |none=>rfl
 |some x =>
  have hm:b∈trk h H:=Cp.mpr ⟨Mw.mpr (Au e'),by simp[q]⟩;have z:(hidT h H).get? b=none:=W.hideAll_none (trk h H) hm;rw[z] at e;cases e
def allNews(g h:Heap)(L:Addr):List (Addr×Obj):=(List.range h.objs.size).filterMap fun a=>if a=L\/(g.get? a).isSome=true then none else(h.get? a).map fun o=>(a,o)
def rest(g h:Heap)(L d:Addr):List (Addr×Obj):=(allNews g h L).filter fun p=>decide (p.1≠d)
open PySem PySem.Spec PyProof.Rows
structure Mod (K:Ak) (mg:Str->Option Value) (base:Heap):Prop where
 kin:K.In base
 glob:base.Ns Dm mg
 blt:∃mb,base.Ns builtinsNs mb/\∀x:Str,x ≠ "__name__" -> mb x=Ft x
 nolimit:base.NoLimit
structure Cx where
 prog:Program
 w:World
 K:Ak
 mg:Str->Option Value
 base:Heap
 A:Around
 N:List Str
 s₀:Shared
 H₀:Hp
 env:Env
 outer:List Env
 stack:List Env
 ex:List Addr
 fn:Str->Bool
 calm:Bool
 pn:List (Addr×Obj)
 xe:Value->Shared->Prop
def frs(l:List Env):List Addr:=l.filterMap (·.frame)
abbrev Cx.fs(X:Cx):List Addr:=frs X.outer
def Vis(sc:Scope)(x:Str):Prop:=sc.names.lookup x=some .local\/sc.names.lookup x=some .cell\/sc.names.lookup x=some .free
def Loc(sc:Scope)(x:Str):Prop:=sc.names.lookup x=some .local\/sc.names.lookup x=some .cell
def Look(env:Env)(h:Heap)(m:Str->Option Value)(x:Str)(u:Value):Prop :=
 (env.kindOf x=some .local/\m x=some u)\/((env.kindOf x=some .cell\/env.kindOf x=some .free)/\∃c,env.cells.lookup x=some c/\h.IsCell c (some u))
structure Cx.Ok (X:Cx):Prop where
 mod:Mod X.K X.mg X.base
 kind:X.env.scope.kind=.function
 glob:X.env.globals=Dm
 blt:X.env.builtins=builtinsNs
 above:X.s₀.heap.objs.size<=X.env.locals
 inj:∀x y c,X.env.cells.lookup x=some c->X.env.cells.lookup y=some c->x=y
 has:∀x,(X.env.kindOf x=some .cell\/X.env.kindOf x=some .free)->∃c,X.env.cells.lookup x=some c
 cab:∀x c,X.fn x=true->X.env.cells.lookup x=some c->X.s₀.heap.objs.size<=c
 hd:X.calm=true->X.A.handled=none
 frames:X.A.frames=some X.stack
 stk:X.stack=X.outer\/(X.stack=X.env::X.outer/\X.env.frame=some X.env.locals)
 exf:∀b∈X.ex,b≠X.env.locals/\∀x c,X.env.cells.lookup x=some c->c≠b
 bs:∀b o,X.base.get? b=some o->X.s₀.heap.get? b=some o/\X.H₀ b=none
 bsz:X.base.objs.size<=X.s₀.heap.objs.size
 noex:∀b o,X.base.get? b=some o->b∉X.ex
 exfs:∀b∈X.ex,b∉X.fs
 funs:X.s₀.heap.FunFrames X.base X.outer
 frf:∀b∈X.fs,X.H₀ b=none
structure Inv (X:Cx) (pins:List (Addr×Obj)) (σ:List (Option V)) (H:Hp) (s:Shared):Prop where
 ok:X.Ok
 os:s.os=X.s₀.os
 bare:Lo s.gens
 base:Un X.fs X.ex X.H₀ H X.s₀.heap s.heap
 loc:∃m,s.heap.Ns X.env.locals m/\∀(i:Nat) (x:Str) (v:V),X.N[i]?=some x->σ[i]?=some (some v)->Vis X.env.scope x->∃u,RelV v u/\Look X.env s.heap m x u
 cell:∀x c,X.env.cells.lookup x=some c->∃v,s.heap.IsCell c v
 free:H X.env.locals=none
 freeC:∀x c,X.env.cells.lookup x=some c->H c=none
 pin:∀p∈X.pn++pins,s.heap.get? p.1=some p.2/\H p.1=none/\p.1≠X.env.locals/\p.1∉X.fs/\∀v,p.2.data≠.cell v
 hok:HOk X.prog X.w H s.heap
 len:σ.length=X.N.length
section
variable{X:Cx}{pins:List (Addr×Obj)}{σ:List (Option V)}{H H':Hp}{s:Shared}{h':Heap}
theorem Cx.Ok.nofr(ok:X.Ok)(e:X.base.get? b=some o):b∉X.fs:=fun hb=>by
 have:=(ok.funs.mem hb).1;rw[e] at this;cases this
theorem Inv.bs(I:Inv X pins σ H s):∀b o,X.base.get? b=some o->s.heap.get? b=some o/\H b=none:=fun b o e =>
 ⟨I.base.keep b o (I.ok.bs b o e).1 (I.ok.bs b o e).2 (I.ok.nofr e) (I.ok.noex b o e),I.base.free b o (I.ok.bs b o e).1 (I.ok.bs b o e).2 (I.ok.noex b o e)⟩
theorem Inv.bk(I:Inv X pins σ H s):∀b o,X.base.get? b=some o->s.heap.get? b=some o:=fun b o e=>(I.bs b o e).1
theorem Inv.mod(I:Inv X pins σ H s):Mod X.K X.mg X.base:=I.ok.mod
theorem Inv.kIn(I:Inv X pins σ H s):X.K.In s.heap:=I.ok.mod.kin.keeps I.bk
theorem Inv.nolimit(I:Inv X pins σ H s):s.heap.NoLimit:=I.ok.mod.nolimit.keeps I.bk
theorem Inv.lt(I:Inv X pins σ H s):X.env.locals<s.heap.objs.size:=let ⟨_,hn,_⟩:=I.loc;hn.lt
theorem Inv.sz(I:Inv X pins σ H s):X.s₀.heap.objs.size<=s.heap.objs.size:=Bz I.ok.above (Gm I.lt)
theorem Inv.nofs(I:Inv X pins σ H s){a:Addr}(h:s.heap.objs.size<=a):a∉X.fs:=fun hb=>by
 obtain⟨_,o,ho,_⟩:=I.ok.funs.mem hb;exact absurd (Bt (Au ho) (Bz I.sz h)) (Eu _)
theorem Inv.cne(I:Inv X pins σ H s):∀x c,X.env.cells.lookup x=some c->c≠X.env.locals:=fun x c e z=>by
 obtain⟨v,o,ho,hd⟩:=I.cell x c e;obtain⟨m,⟨o',es,ep,ho',hd',_⟩,_⟩:=I.loc;rw[z,ho'] at ho;cases ho;rw[hd'] at hd;cases hd
theorem Inv.funs(I:Inv X pins σ H s):s.heap.FunFrames X.base X.outer:=by
 have all:∀(l:List Env),(∀b∈frs l,b∈X.fs)->X.s₀.heap.FunFrames X.base l->s.heap.FunFrames X.base l:=by
  intro l;induction l with
  |nil=>intro _ _;trivial
  |cons env r ih =>
   intro hs hl;obtain⟨hk,⟨L,o,hf,hn,ho,hd⟩,hr⟩:=hl;have hL:=hs L (by unfold frs;rw[Hw,hf];exact At);obtain⟨sl,e⟩:=I.base.slot L o ho (I.ok.frf L hL) hL fun z=>I.ok.exfs L z hL;exact⟨hk,⟨L,_,hf,hn,e,hd⟩,ih (fun b hb=>hs b (by unfold frs;rw[Hw,hf];exact An _ hb)) hr⟩
 exact all X.outer (fun _ hb=>hb) I.ok.funs
theorem Inv.stack(I:Inv X pins σ H s):s.heap.FunFrames X.base X.stack:=by
 rcases I.ok.stk with e|⟨e,hf⟩
 ·rw[e];exact I.funs
 ·rw[e];obtain⟨m,hn,_⟩:=I.loc;refine .cons (by rw[I.ok.kind];decide) hf hn ?_ I.funs;exact Heap.get?_none_of_le (Bz I.ok.bsz I.ok.above)
theorem Inv.stkSub(I:Inv X pins σ H s):∀b∈frs X.stack,b∈X.env.locals::X.fs:=fun b hb=>by
 rcases I.ok.stk with e|⟨e,hf⟩
 ·grind
 ·rw[e] at hb;unfold frs at hb;rw[Hw,hf] at hb;exact hb
theorem Inv.stkFree(I:Inv X pins σ H s):∀b∈frs X.stack,H b=none:=fun b hb=>by
 rcases Ay.mp (I.stkSub b hb) with e|hb
 ·rw[e];exact I.free
 ·obtain⟨_,o,ho,_⟩:=I.ok.funs.mem hb;exact I.base.free b o ho (I.ok.frf b hb) fun z=>I.ok.exfs b z hb
theorem Inv.step{ch:List Addr}(I:Inv X pins σ H s)(hch:∀b∈ch,(b∈X.ex\/X.s₀.heap.objs.size<=b)/\b≠X.env.locals/\(∀x c,X.env.cells.lookup x=some c->c≠b)/\∀p∈X.pn++pins,p.1≠b)(keep:∀b o,b≠X.env.locals->b∉X.fs->b∉ch->s.heap.get? b=some o->H b=none->h'.get? b=some o)(slot:∀b o,b≠X.env.locals->b∈X.fs->b∉ch->s.heap.get? b=some o->H b=none->∃sl,h'.get? b=some { o with slots:=sl })(free:∀b o,b∉ch->s.heap.get? b=some o->H b=none->H' b=none)(there:∀b o,b∉ch->s.heap.get? b=some o->∃o',h'.get? b=some o')(tups:∀b xs,H b=some (.tup xs)->H' b=some (.tup xs))(frzs:∀b o u,H b=some (.frz o u)->H' b=some (.frz o u))(tbls:∀b ps,H b=some (.tbl ps)->∃more,H' b=some (.tbl (ps++more)))(ns:∀m,s.heap.Ns X.env.locals m->h'.Ns X.env.locals m)(hok:HOk X.prog X.w H' h')(hg:Lo g'):
  Inv X pins σ H' { s with heap:=h',gens:=g',drawn:=d',toks:=t' }:=by
 have neL:∀b o,X.s₀.heap.get? b=some o->b≠X.env.locals:=fun b o e=>Bf (Bt (Au e) I.ok.above);have neC:∀b o,X.s₀.heap.get? b=some o->b∉X.ex->b∉ch:=fun b o e hx hb=>by
  rcases(hch b hb).1 with z|z
  ·exact hx z
  ·exact absurd (Bt (Au e) z) (Eu _)
 have cellK:∀x c,X.env.cells.lookup x=some c->∀v,s.heap.IsCell c v->h'.IsCell c v:=fun x c e v ⟨o,ho,hd⟩=>by
  have nch:=fun z=>(hch c z).2.2.1 x c e rfl;by_cases hc:c∈X.fs
  ·obtain⟨sl,q⟩:=slot c o (I.cne x c e) hc nch ho (I.freeC x c e);exact⟨_,q,hd⟩
  ·exact⟨o,keep c o (I.cne x c e) hc nch ho (I.freeC x c e),hd⟩
 refine⟨I.ok,I.os,hg,⟨fun b o e n hb hx=>?_,fun b o e n hb hx=>?_,fun b o e n hx=>?_,fun b o e hx=>?_,fun b xs e=>tups b xs (I.base.tups b xs e),fun b o xs e=>frzs b o xs (I.base.frzs b o xs e),fun b ps e=>?_⟩,?_,fun x c e=>?_,?_,fun x c e=>?_,fun p hp=>?_,hok,I.len⟩
 ·exact keep b o (neL b o e) hb (neC b o e hx) (I.base.keep b o e n hb hx) (I.base.free b o e n hx)
 ·obtain⟨sl,e1⟩:=I.base.slot b o e n hb hx;obtain⟨sl',e2⟩:=slot b _ (neL b o e) hb (neC b o e hx) e1 (I.base.free b o e n hx);exact⟨sl',e2⟩
 ·obtain⟨o',e1⟩:=I.base.there b o e hx;exact free b o' (neC b o e hx) e1 (I.base.free b o e n hx)
 ·obtain⟨o',e1⟩:=I.base.there b o e hx;exact there b o' (neC b o e hx) e1
 ·obtain⟨m1,e1⟩:=I.base.tbls b ps e;obtain⟨m2,e2⟩:=tbls b _ e1;exact⟨m1++m2,by rw[e2,Rz]⟩
 ·obtain⟨m,hn,hl⟩:=I.loc;refine⟨m,ns m hn,fun i x v e1 e2 e3=>?_⟩;obtain⟨u,r,l⟩:=hl i x v e1 e2 e3;refine⟨u,r,?_⟩;rcases l with l|⟨k,c,e,z⟩
  ·exact .inl l
  ·exact .inr ⟨k,c,e,cellK x c e _ z⟩
 ·obtain⟨v,z⟩:=I.cell x c e;exact⟨v,cellK x c e v z⟩
 ·obtain⟨m,⟨o,_,_,ho,_⟩,_⟩:=I.loc;exact free _ o (fun z=>(hch _ z).2.1 rfl) ho I.free
 ·obtain⟨v,o,ho,hd⟩:=I.cell x c e;exact free c o (fun z=>(hch c z).2.2.1 x c e rfl) ho (I.freeC x c e)
 ·obtain⟨e,n,ne,nf,d⟩:=I.pin p hp;have nch:=fun z=>(hch p.1 z).2.2.2 p hp rfl
  exact⟨keep p.1 p.2 ne nf nch e n,free p.1 p.2 nch e n,ne,nf,d⟩
theorem Inv.un(I:Inv X pins σ H s)(u:Un X.fs [] H H' s.heap h')(hok:HOk X.prog X.w H' h'):Inv X pins σ H' { s with heap:=h',toks:=t' }:=by
 obtain⟨m,⟨o,es,ep,ho,r⟩,_⟩:=id I.loc;obtain⟨sl,hL⟩:=u.any ho I.free (by simp);exact I.step (g':=s.gens) (d':=s.drawn) (ch:=[]) (fun _ z=>nomatch z) (fun b o _ hb _ e n=>u.keep b o e n hb (by simp)) (fun b o _ hb _ e n=>u.slot b o e n hb (by simp)) (fun b o _ e n=>u.free b o e n (by simp)) (fun b o _ e=>u.there b o e (by simp)) u.tups u.frzs u.tbls (fun m' hm=>by
  obtain⟨o',es',ep',ho',r'⟩:=hm;rw[ho] at ho';cases ho';exact⟨_,es',ep',hL,r'⟩) hok I.bare
theorem Inv.call(I:Inv X pins σ H s)(u:Un (frs X.stack) ch H H' s.heap h')(hok:HOk X.prog X.w H' h')(hg:Lo g')(hch:∀b∈ch,(b∈X.ex\/X.s₀.heap.objs.size<=b)/\b≠X.env.locals/\(∀x c,X.env.cells.lookup x=some c->c≠b)/\∀p∈X.pn++pins,p.1≠b):
  Inv X pins σ H' { s with heap:=h',gens:=g',drawn:=d',toks:=t' }:=by
 obtain⟨m,⟨o,es,ep,ho,r⟩,_⟩:=id I.loc;obtain⟨sl,hL⟩:=u.any ho I.free fun z=>(hch _ z).2.1 rfl
 exact I.step hch (fun b o hL hb hc e n=>u.keep b o e n (fun z=>(Ay.mp (I.stkSub b z)).elim hL hb) hc) (fun b o _ _ hc e n=>u.any e n hc) (fun b o hc e n=>u.free b o e n hc) (fun b o hc e=>u.there b o e hc) u.tups u.frzs u.tbls (fun m' hm=>by
  obtain⟨o',es',ep',ho',r'⟩:=hm;rw[ho] at ho';cases ho';exact⟨_,es',ep',hL,r'⟩) hok hg
theorem Inv.turned(I:Inv X pins σ H s)(k:∀b o,b≠it->s.heap.get? b=some o->h'.get? b=some o)(hn:H it=none)(hL:it≠X.env.locals)(h1:it∈X.ex\/X.s₀.heap.objs.size<=it)(h2:∀x c,X.env.cells.lookup x=some c->c≠it)(h3:∀p∈X.pn++pins,p.1≠it):Inv X pins σ H { s with heap:=h',toks:=t' }:=by
 have nit:∀b u,H b=some u->b≠it:=fun b u e z=>by rw[z,hn] at e;cases e
 refine I.step (g':=s.gens) (d':=s.drawn) (ch:=[it]) (fun b hb=>?_) (fun b o _ _ hc e _=>k b o (fun z=>hc (by simp[z])) e) (fun b o _ _ hc e _=>⟨o.slots,k b o (fun z=>hc (by simp[z])) e⟩) (fun _ _ _ _ n=>n)
  (fun b o hc e=>⟨o,k b o (fun z=>hc (by simp[z])) e⟩) (fun _ _ e=>e) (fun _ _ _ e=>e) (fun b ps e=>⟨#[],by rw[e];simp⟩) (fun m hm=>?_) (fun b u e=>?_) I.bare
 ·have e:b=it:=by simpa using hb
  subst e;exact⟨h1,hL,h2,h3⟩
 ·obtain⟨o,es,ep,ho,r⟩:=hm;exact⟨o,es,ep,k _ o (Er hL) ho,r⟩
 ·refine(I.hok b u e).stay (fun c v hc q=>k c v ?_ q) (fun _ q=>q) fun _ _ q=>q;rcases hc with z|z
  ·rw[z];exact nit b u e
  ·exact nit c _ z
theorem Inv.tok(I:Inv X pins σ H s)(t:Nat):Inv X pins σ H { s with toks:=t }:=I.un (h':=s.heap) (t':=t) Un.refl I.hok
theorem Inv.kept(I:Inv X pins σ H s)(k:∀b u,s.heap.get? b=some u->h'.get? b=some u):Inv X pins σ H { s with heap:=h',toks:=t' }:=I.un (Un.kept k) (I.hok.kept k)
theorem Inv.laid{a:Addr}(I:Inv X pins σ H s)(k:∀b u,s.heap.get? b=some u->h'.get? b=some u)(hp:s.heap.objs.size<=a)(new:ObjOk X.prog X.w (upd H a o) h' a o):
  Inv X pins σ (upd H a o) { s with heap:=h',toks:=t' }:=I.un (Un.laid k hp (I.hok.fresh hp)) (I.hok.laid k hp new)
theorem Inv.write(I:Inv X pins σ H s)(mu:Mut (H x))(he:e=x\/H e=some (.own x))(k:∀b u,b≠e->s.heap.get? b=some u->h'.get? b=some u)(heo:∃u,h'.get? e=some u)(new:ObjOk X.prog X.w (upd H x o) h' x o):Inv X pins σ (upd H x o) { s with heap:=h',toks:=t' }:=I.un (Un.write mu he k heo) (I.hok.write mu he k heo new)
theorem Inv.weak(I:Inv X pins σ H s)(hl:σ'.length=σ.length)(w:∀(i:Nat) v,σ'[i]?=some (some v)->σ[i]?=some (some v)):Inv X pins σ' H s :=
 ⟨I.ok,I.os,I.bare,I.base,let ⟨m,hn,hl'⟩:=I.loc;⟨m,hn,fun i x v e1 e2 e3=>hl' i x v e1 (w i v e2) e3⟩,I.cell,I.free,I.freeC,I.pin,I.hok,hl.trans I.len⟩
theorem Inv.pins_of(I:Inv X pins σ H s)(h:∀p∈pins',s.heap.get? p.1=some p.2/\H p.1=none/\p.1≠X.env.locals/\p.1∉X.fs/\∀v,p.2.data≠.cell v):Inv X pins' σ H s :=
 ⟨I.ok,I.os,I.bare,I.base,I.loc,I.cell,I.free,I.freeC,fun p hp=>(Am.mp hp).elim (fun z=>I.pin p (Ch _ z)) (h p),I.hok,I.len⟩
theorem z2u{N:List Str}(hN:N.Nodup){j:Nat}(a:N[i]?=some x)(b:N[j]?=some x):i=j:=by
 obtain⟨h1,e1⟩:=Aj.mp a;obtain⟨h2,e2⟩:=Aj.mp b;exact(List.getElem_inj hN).mp (e1.trans e2.symm)
theorem q6d(I:Inv X pins σ H s)(hN:X.N.Nodup)(hi:X.N[i]?=some x)(hx:Loc X.env.scope x)(r:RelV v u)(h:∀s',Inv X pins (σ.set i (some v)) H s'->(∃a,Fh a s.heap s'.heap/\(a=X.env.locals\/X.env.cells.lookup x=some a))->Q () s')(hf:X.fn x=true\/X.env.scope.names.lookup x=some .local:=by first|exact .inl rfl|exact .inr rfl|assumption):wpAny M A (storeName X.env x u) Q E s:=by
 obtain⟨m,hn,hl⟩:=id I.loc;have hcls:(X.env.scope.kind==.class||(X.env.scope.kind==.module&&X.env.locals != X.env.globals))=false:=by rw[I.ok.kind];rfl
 have hiσ:i<σ.length:=by rw[I.len];exact(Aj.mp hi).1
 have cne:=I.cne;have tracked:∀{a:Addr} {h':Heap},(∃o,s.heap.get? a=some o/\H a=none)->Fh a s.heap h'->HOk X.prog X.w H h':=fun{a h'} ha hs b ob e=>by
  obtain⟨_,_,hfree⟩:=ha;refine(I.hok b ob e).stay (fun c w' hc q=>(hs.2 c ?_).trans q) (fun _ q=>q) fun _ _ q=>q
  rcases hc with rfl|hc
  ·grind
  ·grind
 rcases hx with hk|hk
 ·refine wpAny_storeName_local hk hn (fun h' hn' hs=>?_) hcls;obtain⟨oL,_,_,hoL,_⟩:=id hn;refine h _ ⟨I.ok,I.os,I.bare,⟨fun b o e n hb hx=>?_,fun b o e n hb hx=>?_,I.base.free,fun b o e hx=>?_,I.base.tups,I.base.frzs,I.base.tbls⟩,⟨_,hn',fun j y v' e1 e2 e3=>?_⟩,fun y c e=>?_,I.free,I.freeC,fun p hp=>?_,tracked ⟨oL,hoL,I.free⟩ hs,by simpa using I.len⟩ ⟨_,hs,.inl rfl⟩
  ·exact(hs.2 b (Bf (Bt (Au e) I.ok.above))).trans (I.base.keep b o e n hb hx)
  ·obtain⟨sl,e1⟩:=I.base.slot b o e n hb hx;exact⟨sl,(hs.2 b (Bf (Bt (Au e) I.ok.above))).trans e1⟩
  ·obtain⟨o',e1⟩:=I.base.there b o e hx;exact⟨o',(hs.2 b (Bf (Bt (Au e) I.ok.above))).trans e1⟩
  ·by_cases hj:j=i
   ·subst hj;rw[hi] at e1;cases e1;rw[Pp hiσ] at e2;cases e2;exact⟨u,r,.inl ⟨hk,by simp⟩⟩
   ·rw[Qx (Er hj)] at e2;obtain⟨u',r',q⟩:=hl j y v' e1 e2 e3;refine⟨u',r',?_⟩;rcases q with⟨k,e⟩|⟨k,c,e,z⟩
    ·refine .inl ⟨k,?_⟩;have:y≠x:=fun e=>hj (z2u hN e1 (e▸hi));simp[this,e]
    ·exact .inr ⟨k,c,e,z.sameBut hs (cne y c e)⟩
  ·obtain⟨w',z⟩:=I.cell y c e;exact⟨w',z.sameBut hs (cne y c e)⟩
  ·obtain⟨e,n,ne,nf,d⟩:=I.pin p hp;exact⟨(hs.2 p.1 ne).trans e,n,ne,nf,d⟩
 ·have hfn:X.fn x=true:=by
   rcases hf with z|z
   ·exact z
   ·grind
  obtain⟨c,hc⟩:=I.ok.has x (.inl hk);obtain⟨w',z⟩:=I.cell x c hc;refine wpAny_storeName_cell I.ok.kind hk hc z (fun h' hc' hs=>?_);obtain⟨oc,hoc,hocd⟩:=id z;refine h { s with heap:=h' } ⟨I.ok,I.os,I.bare,⟨fun b o e n hb hx=>?_,fun b o e n hb hx=>?_,I.base.free,fun b o e hx=>?_,I.base.tups,I.base.frzs,I.base.tbls⟩,⟨m,hn.sameBut hs (Er (cne x c hc)),fun j y v' e1 e2 e3=>?_⟩,fun y c' e=>?_,I.free,I.freeC,fun p hp=>?_,tracked ⟨oc,hoc,I.freeC x c hc⟩ hs,by simpa using I.len⟩ ⟨c,hs,.inr hc⟩
  ·exact(hs.2 b (Bf (Bt (Au e) (I.ok.cab x c hfn hc)))).trans (I.base.keep b o e n hb hx)
  ·obtain⟨sl,e1⟩:=I.base.slot b o e n hb hx;exact⟨sl,(hs.2 b (Bf (Bt (Au e) (I.ok.cab x c hfn hc)))).trans e1⟩
  ·obtain⟨o',e1⟩:=I.base.there b o e hx;exact⟨o',(hs.2 b (Bf (Bt (Au e) (I.ok.cab x c hfn hc)))).trans e1⟩
  ·by_cases hj:j=i
   ·subst hj;rw[hi] at e1;cases e1;rw[Pp hiσ] at e2;cases e2;exact⟨u,r,.inr ⟨.inl hk,c,hc,hc'⟩⟩
   ·rw[Qx (Er hj)] at e2;obtain⟨u',r',q⟩:=hl j y v' e1 e2 e3;refine⟨u',r',?_⟩;rcases q with q|⟨k,c',e,z'⟩
    ·exact .inl q
    ·refine .inr ⟨k,c',e,z'.sameBut hs ?_⟩;rintro rfl;exact hj (z2u hN e1 (I.ok.inj _ _ _ e hc▸hi))
  ·by_cases hcc:c'=c
   ·grind
   ·obtain⟨w2,z2⟩:=I.cell y c' e;exact⟨w2,z2.sameBut hs hcc⟩
  ·obtain⟨e,n,ne,nf,d⟩:=I.pin p hp;refine⟨(hs.2 p.1 ?_).trans e,n,ne,nf,d⟩;intro q;rw[q,hoc] at e;have q':=Bj e;exact d w' (by rw[<- q'];exact hocd)
theorem q8p(I:Inv X pins σ H s)(hN:X.N.Nodup)(hi:X.N[i]?=some x)(hx:Loc X.env.scope x)(r:RelV v u)(h:∀s',Inv X pins (σ.set i (some v)) H s'->Q () s')(hf:X.fn x=true\/X.env.scope.names.lookup x=some .local:=by first|exact .inl rfl|exact .inr rfl|assumption):wpAny M A (storeName X.env x u) Q E s :=
 q6d I hN hi hx r (fun s' I' _=>h s' I') hf
theorem Inv.call'(I:Inv X pins σ H s)(ho:s'.os=s.os)(u:Un (frs X.stack) ch H H' s.heap s'.heap)(hok:HOk X.prog X.w H' s'.heap)(hg:Lo s'.gens)(hch:∀b∈ch,(b∈X.ex\/X.s₀.heap.objs.size<=b)/\b≠X.env.locals/\(∀x c,X.env.cells.lookup x=some c->c≠b)/\∀p∈X.pn++pins,p.1≠b):Inv X pins σ H' s':=by
 obtain⟨h',g',d',t',o'⟩:=s';have e:=ho;subst e;exact I.call (g':=g') (t':=t') (d':=d') u hok hg hch
end
abbrev XK:=Value->Option Addr->Hp->Prop
abbrev St:=List (Option V)
abbrev VK:=V->Hp->Prop
abbrev TE:=St->Hp->VK->Prop
abbrev TT:=St->Hp->(Bool->Hp->Prop)->Prop
abbrev TA:=St->Hp->(List V->Hp->Prop)->Prop
structure Ends where
 nx:St->Hp->Prop
 rt:VK
 bk:St->Hp->Prop:=fun _ _=>False
 ct:St->Hp->Prop:=fun _ _=>False
abbrev TS:=Ends->St->Hp->Prop
def EP(X:Cx)(pins:List (Addr×Obj))(σ:St)(Q:VK)(u:Value)(s':Shared):Prop:=∃v H',Inv X pins σ H' s'/\RelV v u/\Q v H'
def TP(X:Cx)(pins:List (Addr×Obj))(σ:St)(Q:Bool->Hp->Prop)(b:Bool)(s':Shared):Prop:=∃H',Inv X pins σ H' s'/\Q b H'
def AP(X:Cx)(pins:List (Addr×Obj))(σ:St)(Q:List V->Hp->Prop)(us:List Value)(s':Shared):Prop:=∃vs H',Inv X pins σ H' s'/\Vals vs us/\Q vs H'
def SP(X:Cx)(pins:List (Addr×Obj))(D:Ends)(f:Flow)(s':Shared):Prop :=
 match f with
 |.next=>∃σ' H',Inv X pins σ' H' s'/\D.nx σ' H'
 |.brk=>∃σ' H',Inv X pins σ' H' s'/\D.bk σ' H'
 |.cont=>∃σ' H',Inv X pins σ' H' s'/\D.ct σ' H'
 |.ret u=>∃v σ' H',Inv X pins σ' H' s'/\RelV v u/\D.rt v H'
def PE(X:Cx)(e:Expr)(t:TE):Prop :=
 ∀(pins:List (Addr×Obj)) (s:Shared) (σ:St) (H:Hp) (Q:VK),Inv X pins σ H s->t σ H Q->wpAny (model X.prog X.w) X.A (eval e X.env) (EP X pins σ Q) X.xe s
def PT(X:Cx)(e:Expr)(t:TT):Prop :=
 ∀(pins:List (Addr×Obj)) (s:Shared) (σ:St) (H:Hp) (Q:Bool->Hp->Prop),Inv X pins σ H s->t σ H Q->wpAny (model X.prog X.w) X.A (isTrue e X.env (eval e X.env)) (TP X pins σ Q) X.xe s
def PW(X:Cx)(e:Expr)(t:TT):Prop :=
 ∀(whole:Sem Value) (pins:List (Addr×Obj)) (s:Shared) (σ:St) (H:Hp) (Q:Bool->Hp->Prop),Inv X pins σ H s->t σ H Q->wpAny (model X.prog X.w) X.A (isTrue e X.env whole) (TP X pins σ Q) X.xe s
theorem PW.pt{X:Cx}{e:Expr}{t:TT}(h:PW X e t):PT X e t:=h _
def PA(X:Cx)(es:List Expr)(t:TA):Prop :=
 ∀(pos:Pos) (pins:List (Addr×Obj)) (s:Shared) (σ:St) (H:Hp) (Q:List V->Hp->Prop),Inv X pins σ H s->t σ H Q->wpAny (model X.prog X.w) X.A (spliced (Fi pos (Bg es X.env))) (AP X pins σ Q) X.xe s
def PS(X:Cx)(st:Stmt)(t:TS):Prop :=
 ∀(pins:List (Addr×Obj)) (s:Shared) (σ:St) (H:Hp) (D:Ends),Inv X pins σ H s->t D σ H->wpAny (model X.prog X.w) X.A (exec st X.env) (SP X pins D) X.xe s
def PSs(X:Cx)(st:List Stmt)(t:TS):Prop :=
 ∀(pins:List (Addr×Obj)) (s:Shared) (σ:St) (H:Hp) (D:Ends),Inv X pins σ H s->t D σ H->wpAny (model X.prog X.w) X.A (execs st X.env) (SP X pins D) X.xe s
theorem thn{t:Sem α}{Q Q':α->Shared->Prop}(h:wpAny M A t Q E s)(hQ:∀a s,Q a s->Q' a s):wpAny M A t Q' E s:=Cq h hQ fun _ _ x=>x
open PySem PySem.Spec PyProof.Rows
section
variable{X:Cx}
def tVar(i:Nat):TE:=fun σ H Q=>∃v,σ[i]?=some (some v)/\Q v H
def tC(v:V):TE:=fun _ H Q=>Q v H
theorem pe_var{pos:Pos}(hN:X.N[i]?=some x)(hv:Vis X.env.scope x)(hd:(x==("__debug__" : Str))=false:=by decide)(hcd:(x==("__classdict__" : Str))=false:=by decide):PE X (.Name x pos) (tVar i):=by
 intro pins s σ H Q I h;obtain⟨v,e,h⟩:=h;obtain⟨m,hn,hl⟩:=I.loc;obtain⟨u,r,l⟩:=hl i x v hN e hv;have fin:EP X pins σ Q u s:=⟨v,H,I,r,h⟩
 rcases l with⟨hk,hm⟩|⟨hk,c,hc,hcell⟩
 ·exact Tz (Qy I.ok.kind hk hn hm fin) hd
 ·rcases hk with hk|hk
  ·exact Tz (Ro I.ok.kind hk hc hcell fin) hd
  ·exact Tz (wpAny_loadName_free I.ok.kind hk hc hcell fin hcd) hd
theorem q0g{i j pos}:PE X (.Constant (.int i) j pos) (tC (.int i)):=fun _ _ _ H _ I h=>wpAny_Constant_int ⟨.int i,H,I.tok _,⟨_,rfl⟩,h⟩
theorem q4e{b j pos}:PE X (.Constant (.bool b) j pos) (tC (.bl b)):=fun _ _ _ H _ I h=>Constant_bool ⟨.bl b,H,I,rfl,h⟩
theorem q5q{j pos}:PE X (.Constant .none j pos) (tC .non):=fun _ _ _ H _ I h=>Rj ⟨.non,H,I,rfl,h⟩
theorem q4h{x j pos}:PE X (.Constant (.str x) j pos) (tC (.str x)):=fun _ _ _ H _ I h=>Calls.Constant_str ⟨.str x,H,I.tok _,⟨_,rfl⟩,h⟩
def Gl(X:Cx)(x:Str):Prop:=X.env.kindOf x=some .globalImplicit
theorem z1p{σ:St}(I:Inv X pins σ H s)(hg:Gl X x)(hm:X.mg x=some u)(h:Q u s)(hd:(x==("__debug__" : Str))=false:=by decide):wpAny (model X.prog X.w) X.A (eval (.Name x pos) X.env) Q E s :=
 Nm I.ok.kind hg (Calls.loadGlobal_global (by rw[I.ok.glob];exact I.mod.glob.keeps I.bk) hm h) hd
theorem q5r{E:Value->Shared->Prop}{σ:St}{pos:Pos}(I:Inv X pins σ H s)(hg:Gl X x)(hm:X.mg x=none)(hv:Ft x=some u)(h:Q u s)(hn:x ≠ "__name__" := by decide)(hd:(x==("__debug__" : Str))=false:=by decide):wpAny (model X.prog X.w) X.A (eval (.Name x pos) X.env) Q E s:=by
 obtain⟨mb,h1,h2⟩:=I.mod.blt;exact Nm I.ok.kind hg (Calls.loadGlobal_builtin (by rw[I.ok.glob];exact I.mod.glob.keeps I.bk) hm (by rw[I.ok.blt];exact h1.keeps I.bk) ((h2 x hn).trans hv) h) hd
theorem z1q{x:Str}{v:V}{u:Value}{pos:Pos}(hg:Gl X x)(hm:X.mg x=none)(hv:Ft x=some u)(r:RelV v u)(hn:x ≠ "__name__" := by decide)(hd:(x==("__debug__" : Str))=false:=by decide):PE X (.Name x pos) (tC v) :=
 fun _ _ _ H _ I h=>q5r I hg hm hv ⟨v,H,I,r,h⟩ hn hd
variable{a b:Expr}{ta tb:TE}{pos:Pos}
def PC(X:Cx)(op:CmpOp)(a b:Expr)(t:TE):Prop :=
 ∀(pins:List (Addr×Obj)) (s:Shared) (σ:St) (H:Hp) (Q:VK),Inv X pins σ H s->t σ H Q ->
  wpAny (model X.prog X.w) X.A (eval a X.env) (fun v s₁=>wpAny (model X.prog X.w) X.A (eval b X.env) (fun u s₂=>wpAny (model X.prog X.w) X.A (Cl op v u) (EP X pins σ Q) X.xe s₂) X.xe s₁) X.xe s
theorem nobehind(b:Expr)(h:op≠.In)(h2:op≠.NotIn):Gv op b=false:=by
 have e1:(op==CmpOp.In)=false:=by grind
 have e2:(op==CmpOp.NotIn)=false:=by grind
 cases b<;>simp[Gv,e1,e2]
def tIsN(ta:TE):TE:=fun σ H Q=>ta σ H fun x H1=>Q (.bl (decide (x=.non))) H1
def tNotN(ta:TE):TE:=fun σ H Q=>ta σ H fun x H1=>Q (.bl (!decide (x=.non))) H1
theorem RelV.none_iff(r:RelV x v):(v==Value.none)=decide (x=.non):=by
 cases x with
 |non=>cases r;rfl
 |bl _=>cases r;rfl
 |int _=>obtain⟨t,rfl⟩:=r;rfl
 |str _=>obtain⟨t,rfl⟩:=r;rfl
 |byt _=>obtain⟨t,rfl⟩:=r;rfl
 |flt _=>obtain⟨t,rfl⟩:=r;rfl
 |ref _=>cases r;rfl
 |ty _=>cases r;rfl
theorem q5s{j pos'}(ha:PE X a ta):PC X .Is a (.Constant .none j pos') (tIsN ta):=by
 intro pins s σ H Q I h;refine thn (ha pins s σ H _ I h) fun v s1 ⟨x,H1,I1,r1,q1⟩=>?_;exact Rj (is_none_gen ⟨.bl _,H1,I1,by rw[r1.none_iff];rfl,q1⟩)
theorem q6e{j pos'}(ha:PE X a ta):PC X .IsNot a (.Constant .none j pos') (tNotN ta):=by
 intro pins s σ H Q I h;refine thn (ha pins s σ H _ I h) fun v s1 ⟨x,H1,I1,r1,q1⟩=>?_;exact Rj (isnot_none_gen ⟨.bl _,H1,I1,by rw[r1.none_iff];rfl,q1⟩)
def tB(t:TE):TT:=fun σ H Q=>t σ H fun x H1=>∃c,x=.bl c/\Q c H1
theorem x0u{op:CmpOp}{t:TE}(h:PC X op a b t)(h1:Gv op b=false:=by first|exact nobehind _ (by decide) (by decide)|rfl):PE X (.Compare a [op] [b] pos) t:=fun pins s σ H Q I hw=>wpAny_Compare1 (h pins s σ H Q I hw) h1
theorem q2a{op:CmpOp}{t:TE}(h:PC X op a b t)(h1:Gv op b=false:=by first|exact nobehind _ (by decide) (by decide)|rfl):PT X (.Compare a [op] [b] pos) (tB t):=by
 intro pins s σ H Q I hw;refine Qi (thn (h pins s σ H _ I hw) fun v s1 h1=>thn h1 fun u s2 h2=>thn h2 fun c s3 ⟨x,H1,I1,r1,q1⟩=>?_) h1;obtain⟨d,rfl,q⟩:=q1;cases r1;exact Cn ⟨H1,I1,q⟩
variable{tA tB':TT}{rest:List Expr}
def tAnd(t u:TT):TT:=fun σ H Q=>t σ H fun c H1=>if c=true then u σ H1 Q else Q false H1
def tOr(t u:TT):TT:=fun σ H Q=>t σ H fun c H1=>if c=true then Q true H1 else u σ H1 Q
def tNot(t:TT):TT:=fun σ H Q=>t σ H fun c H1=>Q (!c) H1
theorem q1u(ha:PT X a tA):PW X (.BoolOp .And [a] pos) tA:=by
 intro wh pins s σ H Q I h;refine isTrue_and (thn (ha pins s σ H Q I h) fun c s1 e=>?_);cases c with
 |true=>exact isTrue_and_nil e
 |false=>exact e
theorem q7k(ha:PT X a tA):PW X (.BoolOp .Or [a] pos) tA:=by
 intro wh pins s σ H Q I h;refine isTrue_or (thn (ha pins s σ H Q I h) fun c s1 e=>?_);cases c with
 |false=>exact isTrue_or_nil e
 |true=>exact e
theorem q2s(ha:PT X a tA)(hb:PW X (.BoolOp .And (b::rest) pos) tB'):PW X (.BoolOp .And (a::b::rest) pos) (tAnd tA tB'):=by
 intro wh pins s σ H Q I h;refine isTrue_and (thn (ha pins s σ H _ I h) fun c s1 ⟨H1,I1,q1⟩=>?_);cases c with
 |true=>exact hb wh pins s1 σ H1 Q I1 q1
 |false=>exact⟨H1,I1,q1⟩
theorem q9u(ha:PT X a tA)(hb:PW X (.BoolOp .Or (b::rest) pos) tB'):PW X (.BoolOp .Or (a::b::rest) pos) (tOr tA tB'):=by
 intro wh pins s σ H Q I h;refine isTrue_or (thn (ha pins s σ H _ I h) fun c s1 ⟨H1,I1,q1⟩=>?_);cases c with
 |true=>exact⟨H1,I1,q1⟩
 |false=>exact hb wh pins s1 σ H1 Q I1 q1
theorem q6f(ha:PT X a tA):PT X (.UnaryOp .Not a pos) (tNot tA):=by
 intro pins s σ H Q I h;exact isTrue_not (ha pins s σ H (fun c H1=>Q (!c) H1) I h)
def tAndV(ta tb:TE):TE:=fun σ H Q=>ta σ H fun x H1=>∃c,x=.bl c/\if c=true then tb σ H1 Q else Q (.bl false) H1
def tOrV(ta tb:TE):TE:=fun σ H Q=>ta σ H fun x H1=>∃c,x=.bl c/\if c=true then Q (.bl true) H1 else tb σ H1 Q
def tNotV(ta:TE):TE:=fun σ H Q=>ta σ H fun x H1=>∃c,x=.bl c/\Q (.bl (!c)) H1
theorem z5g{op}{t:TE}(h:PE X a t):PE X (.BoolOp op [a] pos) t:=fun pins s σ H Q I hw=>BoolOp_one (h pins s σ H Q I hw)
theorem pe_and(ha:PE X a ta)(hb:PE X (.BoolOp .And (b::rest) pos) tb):PE X (.BoolOp .And (a::b::rest) pos) (tAndV ta tb):=by
 intro pins s σ H Q I h;refine BoolOp_and (thn (ha pins s σ H _ I h) fun v s1 ⟨x,H1,I1,r1,q1⟩=>?_);obtain⟨c,rfl,q1⟩:=q1;cases r1;refine Cn ?_;cases c with
 |true=>exact hb pins s1 σ H1 Q I1 q1
 |false=>exact⟨.bl false,H1,I1,rfl,q1⟩
theorem pe_or(ha:PE X a ta)(hb:PE X (.BoolOp .Or (b::rest) pos) tb):PE X (.BoolOp .Or (a::b::rest) pos) (tOrV ta tb):=by
 intro pins s σ H Q I h;refine BoolOp_or (thn (ha pins s σ H _ I h) fun v s1 ⟨x,H1,I1,r1,q1⟩=>?_);obtain⟨c,rfl,q1⟩:=q1;cases r1;refine Cn ?_;cases c with
 |false=>exact hb pins s1 σ H1 Q I1 q1
 |true=>exact⟨.bl true,H1,I1,rfl,q1⟩
theorem pe_not(ha:PE X a ta):PE X (.UnaryOp .Not a pos) (tNotV ta):=by
 intro pins s σ H Q I h;refine UnaryOp_ (thn (ha pins s σ H _ I h) fun v s1 ⟨x,H1,I1,r1,q1⟩=>?_);obtain⟨c,rfl,q1⟩:=q1;cases r1;exact not_of (Cn ⟨.bl (!c),H1,I1,rfl,q1⟩)
def tIf(t:TT)(ta tb:TE):TE:=fun σ H Q=>t σ H fun c H1=>if c=true then ta σ H1 Q else tb σ H1 Q
theorem z8p{c:Expr}(hc:PT X c tA)(ha:PE X a ta)(hb:PE X b tb):PE X (.IfExp c a b pos) (tIf tA ta tb):=by
 intro pins s σ H Q I h;refine wpAny_IfExp (thn (hc pins s σ H _ I h) fun d s1 ⟨H1,I1,q1⟩=>?_);cases d with
 |true=>exact ha pins s1 σ H1 Q I1 q1
 |false=>exact hb pins s1 σ H1 Q I1 q1
end
open PySem PySem.Spec PyProof.Rows
def SqL(K:Ak)(H:Hp)(a:Addr)(xs:List V):Prop :=
 Rd H a (.lst xs) \/
  ∃(o:Obj) (its:Array Value) (n:Nat),K.lookup a=some o/\o.cls=.type "list" /\ o.dict=none/\o.data=.seq its n/\its.size<=sizeLine/\Vals xs its.toList
def SqT(K:Ak)(H:Hp)(a:Addr)(xs:List V):Prop :=
 Rd H a (.tup xs) \/
  ∃(o:Obj) (its:Array Value) (n:Nat),K.lookup a=some o/\o.cls=.type "tuple" /\ o.data=.seq its n/\its.size<=sizeLine/\Vals xs its.toList
def absV:Value->Option V
 |.none=>some .non
 |.bool b=>some (.bl b)
 |.int i _=>some (.int i)
 |.str x _=>some (.str x)
 |.bytes b _=>some (.byt b)
 |.float b _=>some (.flt b)
 |.ref a=>some (.ref a)
 |.type n=>some (.ty n)
 |_=>none
theorem RelV.abs(r:RelV x u):absV u=some x:=by
 cases x with
 |non=>cases r;rfl
 |bl _=>cases r;rfl
 |int _=>obtain⟨t,rfl⟩:=r;rfl
 |str _=>obtain⟨t,rfl⟩:=r;rfl
 |byt _=>obtain⟨t,rfl⟩:=r;rfl
 |flt _=>obtain⟨t,rfl⟩:=r;rfl
 |ref _=>cases r;rfl
 |ty _=>cases r;rfl
theorem RelV.inj(r:RelV x u)(q:RelV y u):x=y:=Bj (r.abs.symm.trans q.abs)
theorem Vals.inj:∀{xs ys:List V} {us:List Value},Vals xs us->Vals ys us->xs=ys
 |_,_,_,.nil,.nil=>rfl
 |_,_,_,.cons r t,.cons r' t'=>by rw[r.inj r',Vals.inj t t']
section
variable{X:Cx}{pins:List (Addr×Obj)}{σ:St}{H:Hp}{s:Shared}{a:Addr}{xs ys:List V}
theorem SqL.of{K:Ak}(h:H a=some (.lst xs)):SqL K H a xs:=.inl (.inl h)
theorem SqT.of{K:Ak}(h:H a=some (.tup xs)):SqT K H a xs:=.inl (.inl h)
theorem Inv.list(I:Inv X pins σ H s)(h:SqL X.K H a xs):∃its:List Value,Vals xs its/\PlainL s.heap a its.toArray/\xs.length<=sizeLine:=by
 rcases h with h|⟨o,its,n,hk,hc,hd,hs,hz,r⟩
 ·obtain⟨z,its,n,r,e⟩:=h.ok I.hok;exact⟨its,r,⟨_,n,e,rfl,rfl,rfl⟩,z⟩
 ·refine⟨its.toList,r,⟨o,n,I.kIn a o hk,hc,hd,by simpa using hs⟩,?_⟩;have e:=r.length;simp only[Fe] at e;lia
theorem Inv.tuple(I:Inv X pins σ H s)(h:SqT X.K H a xs):∃its:List Value,Vals xs its/\IsTup s.heap a its.toArray/\xs.length<=sizeLine:=by
 rcases h with h|⟨o,its,n,hk,hc,hs,hz,r⟩
 ·obtain⟨z,its,r,p⟩:=h.ok I.hok;exact⟨its,r,p,z⟩
 ·refine⟨its.toList,r,⟨o,I.kIn a o hk,hc,n,by simpa using hs⟩,?_⟩;have e:=r.length;simp only[Fe] at e;lia
theorem Inv.list_inj(I:Inv X pins σ H s)(h:SqL X.K H a xs)(h':SqL X.K H a ys):xs=ys:=by
 obtain⟨its,r,⟨o,n,e,_,_,d⟩,_⟩:=I.list h;obtain⟨its',r',⟨o',n',e',_,_,d'⟩,_⟩:=I.list h';have:its=its':=by grind
 subst this;exact r.inj r'
theorem Inv.tuple_inj(I:Inv X pins σ H s)(h:SqT X.K H a xs)(h':SqT X.K H a ys):xs=ys:=by
 obtain⟨its,r,⟨o,e,_,n,d⟩,_⟩:=I.tuple h;obtain⟨its',r',⟨o',e',_,n',d'⟩,_⟩:=I.tuple h';have:its=its':=by grind
 subst this;exact r.inj r'
end
abbrev Cx.wish(X:Cx)(E:Value->Shared->Prop):Cx:={ X with xe:=E }
abbrev Cx.nox(X:Cx):Cx:=X.wish fun _ _=>False
theorem Cx.Ok.wish{X:Cx}(ok:X.Ok)(E:Value->Shared->Prop):(X.wish E).Ok :=
 ⟨ok.mod,ok.kind,ok.glob,ok.blt,ok.above,ok.inj,ok.has,ok.cab,ok.hd,ok.frames,ok.stk,ok.exf,ok.bs,ok.bsz,ok.noex,ok.exfs,ok.funs,ok.frf⟩
theorem Cx.Ok.unwish{X:Cx}(ok:(X.wish E).Ok):X.Ok :=
 ⟨ok.mod,ok.kind,ok.glob,ok.blt,ok.above,ok.inj,ok.has,ok.cab,ok.hd,ok.frames,ok.stk,ok.exf,ok.bs,ok.bsz,ok.noex,ok.exfs,ok.funs,ok.frf⟩
section
variable{X:Cx}{pins:List (Addr×Obj)}{σ:St}{H:Hp}{s:Shared}{E:Value->Shared->Prop}
theorem Inv.wish(I:Inv X pins σ H s)(E:Value->Shared->Prop):Inv (X.wish E) pins σ H s:=⟨I.ok.wish E,I.os,I.bare,I.base,I.loc,I.cell,I.free,I.freeC,I.pin,I.hok,I.len⟩
theorem Inv.unwish(I:Inv (X.wish E) pins σ H s):Inv X pins σ H s:=⟨I.ok.unwish,I.os,I.bare,I.base,I.loc,I.cell,I.free,I.freeC,I.pin,I.hok,I.len⟩
theorem SP.unwish(h:SP (X.wish E) pins D f s'):SP X pins D f s':=by
 cases f with
 |next=>obtain⟨σ',H',I,q⟩:=h;exact⟨σ',H',I.unwish,q⟩
 |brk=>obtain⟨σ',H',I,q⟩:=h;exact⟨σ',H',I.unwish,q⟩
 |cont=>obtain⟨σ',H',I,q⟩:=h;exact⟨σ',H',I.unwish,q⟩
 |ret u=>obtain⟨v,σ',H',I,r,q⟩:=h;exact⟨v,σ',H',I.unwish,r,q⟩
theorem PE.nox(h:PE X.nox e t):PE X e t:=fun pins s σ H Q I hw =>
 Cq (h pins s σ H Q (I.wish _) hw) (fun _ _ ⟨v,H',I',r,q⟩=>⟨v,H',I'.unwish,r,q⟩) fun _ _ z=>False.elim z
theorem PT.nox(h:PT X.nox e t):PT X e t:=fun pins s σ H Q I hw =>
 Cq (h pins s σ H Q (I.wish _) hw) (fun _ _ ⟨H',I',q⟩=>⟨H',I'.unwish,q⟩) fun _ _ z=>False.elim z
theorem PSs.nox{st:List Stmt}(h:PSs X.nox st t):PSs X st t:=fun pins s σ H D I hw =>
 Cq (h pins s σ H D (I.wish _) hw) (fun _ _ q=>q.unwish) fun _ _ z=>False.elim z
end
section
variable{X:Cx}{st:Stmt}{rest:List Stmt}{t u:TS}{e:Expr}{te:TE}{pos:Pos}
def tNext:TS:=fun D σ H=>D.nx σ H
def tSeq(t u:TS):TS:=fun D σ H=>t { D with nx:=u D } σ H
theorem q0n:PSs X [] tNext:=fun _ _ σ H _ I h=>Lx ⟨σ,H,I,h⟩
theorem q0d(h1:PS X st t)(h2:PSs X rest u):PSs X (st::rest) (tSeq t u):=by
 intro pins s σ H D I h;refine On (thn (h1 pins s σ H { D with nx:=u D } I h) fun f s1 q=>?_);cases f with
 |next =>
  obtain⟨σ',H',I',q⟩:=q;exact h2 pins s1 σ' H' D I' q
 |ret v=>exact q
 |brk=>exact q
 |cont=>exact q
theorem q0f(h1:PS X st t):PSs X [st] t:=by
 intro pins s σ H D I h;refine On (thn (h1 pins s σ H D I h) fun f s1 q=>?_);cases f with
 |next=>exact Lx q
 |ret v=>exact q
 |brk=>exact q
 |cont=>exact q
theorem Inv.quiet{σ:St}(I:Inv X pins σ H s):interactive X.env=false:=by simp[interactive,I.ok.kind]
def tDrop(te:TE):TS:=fun D σ H=>te σ H fun _ H1=>D.nx σ H1
theorem q2b(he:PE X e te)(hs:Jt e none pos.line X.env=pure false:=by rfl):PS X (.Expr e pos) (tDrop te):=by
 intro pins s σ H D I h;exact wpAny_Expr_any (thn (he pins s σ H _ I h) fun v s1 ⟨x,H1,I1,r1,q1⟩=>⟨σ,H1,I1,q1⟩) I.quiet hs
def tRet(te:TE):TS:=fun D σ H=>te σ H D.rt
theorem q0l(he:PE X e te):PS X (.Return (some e) pos) (tRet te):=by
 intro pins s σ H D I h;exact wpAny_Return_some (thn (he pins s σ H _ I h) fun v s1 ⟨x,H1,I1,r1,q1⟩=>⟨x,σ,H1,I1,r1,q1⟩)
def tIfS(c:TT)(t u:TS):TS:=fun D σ H=>c σ H fun b H1=>if b=true then t D σ H1 else u D σ H1
theorem q1e{c:Expr}{a b:List Stmt}{tc:TT}(hc:PT X c tc)(ha:PSs X a t)(hb:PSs X b u):PS X (.If c a b pos) (tIfS tc t u):=by
 intro pins s σ H D I h;refine wpAny_If (thn (hc pins s σ H _ I h) fun d s1 ⟨H1,I1,q1⟩=>?_);cases d with
 |true=>exact ha pins s1 σ H1 D I1 q1
 |false=>exact hb pins s1 σ H1 D I1 q1
def tNever:TS:=fun _ _ _=>False
theorem q5y:PS X st tNever:=fun _ _ _ _ _ _ h=>h.elim
end
abbrev TG:=V->St->Hp->(St->Hp->Prop)->Prop
abbrev TGs:=List V->St->Hp->(St->Hp->Prop)->Prop
def PG(X:Cx)(target:Expr)(t:TG):Prop :=
 ∀(pins:List (Addr×Obj)) (s:Shared) (σ:St) (H:Hp) (v:V) (u:Value) (Q:St->Hp->Prop),Inv X pins σ H s->RelV v u->t v σ H Q ->
  wpAny (model X.prog X.w) X.A (assign target X.env u) (fun _ s'=>∃σ' H',Inv X pins σ' H' s'/\Q σ' H') X.xe s
def PGs(X:Cx)(ts:List Expr)(t:TGs):Prop :=
 ∀(pins:List (Addr×Obj)) (s:Shared) (σ:St) (H:Hp) (vs:List V) (us:List Value) (Q:St->Hp->Prop),Inv X pins σ H s->Vals vs us->t vs σ H Q ->
  wpAny (model X.prog X.w) X.A (assignInOrder ((Ja ts X.env).map (·.2)) us) (fun _ s'=>∃σ' H',Inv X pins σ' H' s'/\Q σ' H') X.xe s
abbrev TSet:=V->V->V->Hp->(Hp->Prop)->Prop
def PSet(X:Cx)(t:TSet):Prop :=
 ∀(pins:List (Addr×Obj)) (s:Shared) (σ:St) (H:Hp) (o i v:V) (ov iv u:Value) (Q:Hp->Prop),Inv X pins σ H s->RelV o ov->RelV i iv->RelV v u->t o i v H Q ->
  wpAny (model X.prog X.w) X.A (setItem ov iv u) (fun _ s'=>∃H',Inv X pins σ H' s'/\Q H') X.xe s
abbrev TIp:=V->V->Hp->VK->Prop
def PIp(X:Cx)(op:Operator)(t:TIp):Prop :=
 ∀(pins:List (Addr×Obj)) (s:Shared) (σ:St) (H:Hp) (x y:V) (v u:Value) (Q:VK),Inv X pins σ H s->RelV x v->RelV y u->t x y H Q ->
  wpAny (model X.prog X.w) X.A (inplaceOp op v u) (EP X pins σ Q) X.xe s
section
variable{X:Cx}{pos:Pos}
def gName(i:Nat):TG:=fun v σ H Q=>Q (σ.set i (some v)) H
theorem q0h{i:Nat}{x:Str}(hN:X.N.Nodup)(hi:X.N[i]?=some x)(hx:Loc X.env.scope x)(hf:X.fn x=true\/X.env.scope.names.lookup x=some .local:=by first|exact .inl rfl|exact .inr rfl|assumption):PG X (.Name x pos) (gName i):=by
 intro pins s σ H v u Q I r h;exact Nt (q8p I hN hi hx r (fun s' I'=>⟨_,H,I',h⟩) hf)
def gNil:TGs:=fun vs σ H Q=>vs=[]/\Q σ H
def gCons(t:TG)(u:TGs):TGs:=fun vs σ H Q=>∃v r,vs=v::r/\t v σ H fun σ' H'=>u r σ' H' Q
theorem q1v:PGs X [] gNil:=by
 intro pins s σ H vs us Q I r h;obtain⟨e,h⟩:=h;exact assignInOrder_nil ⟨σ,H,I,h⟩
theorem q0o{e:Expr}{es:List Expr}{t:TG}{u:TGs}(h1:PG X e t)(h2:PGs X es u)(hs:(Ja (e::es) X.env).map (·.2)=assign e X.env::(Ja es X.env).map (·.2):=by rfl):PGs X (e::es) (gCons t u):=by
 intro pins s σ H vs us Q I r h;obtain⟨v,vr,e1,h⟩:=h;subst e1;cases r with
 |cons r rr =>
  rw[hs];refine assignInOrder_cons (thn (h1 pins s σ H _ _ _ I r h) fun _ s1 ⟨σ1,H1,I1,q1⟩=>?_);exact h2 pins s1 σ1 H1 _ _ Q I1 rr q1
def gTup(K:Ak)(n:Nat)(t:TGs):TG:=fun v σ H Q=>∃a xs,v=.ref a/\SqT K H a xs/\xs.length=n/\t xs σ H Q
theorem pg_tup{k:Nat}(hc:X.calm=true)(h:PGs X es t)(hn:(Ja es X.env).length=n:=by rfl)(hst:(Ja es X.env).findIdx? (·.1)=none:=by rfl):PG X (.Tuple es k pos) (gTup X.K n t):=by
 intro pins s σ H v u Q I r hw;obtain⟨a,xs,e1,hq,hl,hw⟩:=hw;subst e1;cases r;obtain⟨its,rv,ht,hz⟩:=I.tuple hq;refine assign_Tuple_tuple (I.ok.hd hc) ht (by simp[hn,<- hl,rv.length]) hst fun h' hx=>?_;have I1:Inv X pins σ H { s with heap:=h' }:=I.kept (t':=s.toks) fun b o e=>hx b o (Bf (Au e)) e;exact h pins _ σ H xs _ Q I1 (by simpa using rv) hw
def gSub(to ti:TE)(t:TSet):TG:=fun v σ H Q=>to σ H fun o H1=>ti σ H1 fun i H2=>t o i v H2 fun H3=>Q σ H3
theorem z5h{o i:Expr}{to ti:TE}{t:TSet}(ho:PE X o to)(hi:PE X i ti)(hs:PSet X t)(ha:∀v,assign (.Subscript o i pos) X.env v=(do
   let ov<-Jl [v] (eval o X.env);let iv<-Jl [v,ov] (eval i X.env)
   Oj pos
   Jl [v,ov,iv] (setItem ov iv v)
   release [v,ov,iv] []):=by intro _;rfl):PG X (.Subscript o i pos) (gSub to ti t):=by
 intro pins s σ H v u Q I r h;refine Aa (Ca (thn (ho pins s σ H _ I h) fun ov s1 ⟨x,H1,I1,r1,q1⟩=>?_));refine Aa (Ca (thn (hi pins s1 σ H1 _ I1 q1) fun iv s2 ⟨y,H2,I2,r2,q2⟩=>?_));refine Aa (Gw (Aa (Ca (thn (hs pins s2 σ H2 x y v ov iv u _ I2 r1 r2 r q2) fun _ s3 ⟨H3,I3,q3⟩=>?_))));exact wpAny_release ⟨σ,H3,I3,q3⟩
def tAsg(te:TE)(g:TG):TS:=fun D σ H=>te σ H fun x H1=>g x σ H1 D.nx
theorem q7l{tg e:Expr}{te:TE}{g:TG}(he:PE X e te)(hg:PG X tg g)(hs:swapsWithSole [tg] e pos.line X.env=pure false:=by rfl)(hw:swappedStores [tg] e X.env=pure none:=by rfl)(h1:(Ja [tg] X.env).map (·.2)=[assign tg X.env]:=by rfl):PS X (.Assign [tg] e pos) (tAsg te g):=by
 intro pins s σ H D I h;refine wpAny_Assign_stores (thn (he pins s σ H _ I h) fun v s1 ⟨x,H1,I1,r1,q1⟩=>?_) hs hw;rw[h1];exact thn (hg pins s1 σ H1 x v _ I1 r1 q1) fun _ s2 q=>q
theorem q0j{i:Nat}{x:Str}{e:Expr}{te:TE}{pos':Pos}(hN:X.N.Nodup)(hi:X.N[i]?=some x)(hx:Loc X.env.scope x)(he:PE X e te)(hs:Jt e (some (.Name x pos')) pos.line X.env=pure false:=by rfl)(hf:X.fn x=true\/X.env.scope.names.lookup x=some .local:=by first|exact .inl rfl|exact .inr rfl|assumption):
  PS X (.Assign [.Name x pos'] e pos) (tAsg te (gName i)):=by
 intro pins s σ H D I h;refine wpAny_Assign_Name (thn (he pins s σ H _ I h) fun v s1 ⟨y,H1,I1,r1,q1⟩=>?_) hs;exact q8p I1 hN hi hx r1 (fun s2 I2=>⟨_,H1,I2,q1⟩) hf
def tAug(i:Nat)(te:TE)(ti:TIp):TS:=fun D σ H=>∃x,σ[i]?=some (some x)/\te σ H fun y H1=>ti x y H1 fun z H2=>D.nx (σ.set i (some z)) H2
theorem ps_aug{i:Nat}{x:Str}{e:Expr}{te:TE}{op:Operator}{ti:TIp}{pos':Pos}(hN:X.N.Nodup)(hi:X.N[i]?=some x)(hx:Loc X.env.scope x)(he:PE X e te)(ho:PIp X op ti)(hf:X.fn x=true\/X.env.scope.names.lookup x=some .local:=by first|exact .inl rfl|exact .inr rfl|assumption):
  PS X (.AugAssign (.Name x pos') op e pos) (tAug i te ti):=by
 intro pins s σ H D I h;obtain⟨v,e1,h⟩:=h;obtain⟨m,hn,hl⟩:=I.loc;have vis:Vis X.env.scope x:=by rcases hx with k|k;exact .inl k;exact .inr (.inl k)
 obtain⟨u,r,l⟩:=hl i x v hi e1 vis;refine wpAny_AugAssign_Name ?_;have go:wpAny (model X.prog X.w) X.A (eval e X.env) (fun w s₂=>wpAny (model X.prog X.w) X.A (inplaceOp op u w) (fun r s₃=>wpAny (model X.prog X.w) X.A (storeName X.env x r) (fun _=>SP X pins D .next) X.xe s₃) X.xe s₂) X.xe s:=by
  refine thn (he pins s σ H _ I h) fun w s1 ⟨y,H1,I1,r1,q1⟩=>?_;refine thn (ho pins s1 σ H1 v y u w _ I1 r r1 q1) fun z s2 ⟨zv,H2,I2,r2,q2⟩=>?_;exact q8p I2 hN hi hx r2 (fun s3 I3=>⟨_,H2,I3,q2⟩) hf
 rcases l with⟨hk,hm⟩|⟨hk,c,hc,hcell⟩
 ·exact Qy I.ok.kind hk hn hm go
 ·rcases hk with hk|hk
  ·exact Ro I.ok.kind hk hc hcell go
  ·rcases hx with k|k
   ·have:X.env.scope.names.lookup x=some .free:=hk;rw[k] at this;cases this
   ·have:X.env.scope.names.lookup x=some .free:=hk;rw[k] at this;cases this
end
section
variable{X:Cx}{pos:Pos}
def tWhile(c:TT)(tb:TS):TS:=fun D σ H=>∃W:Nat->St->Hp->Prop,(∃m,W m σ H)/\∀m σ H,W m σ H ->
 c σ H fun b H1=>if b=true then ∃N:St->Hp->Prop,(∀σ' H',N σ' H'->∃m',m'<m/\W m' σ' H')/\tb { D with nx:=N,ct:=N,bk:=D.nx } σ H1 else D.nx σ H1
theorem q8q{c:Expr}{body:List Stmt}{tc:TT}{tb:TS}(hp:PassesOwn (model X.prog X.w) X.A X.env X.xe)(hc:PT X c tc)(hb:PSs X body tb):PS X (.While c body [] pos) (tWhile tc tb):=by
 intro pins s σ H D I h;obtain⟨W,⟨m0,w0⟩,turn⟩:=h;refine wpAny_While (codeAny_whileLoop (fun n s'=>∃σ' H',Inv X pins σ' H' s'/\W n σ' H') ?_ m0 ⟨σ,H,I,w0⟩);rintro n s1 ⟨σ1,H1,I1,w1⟩;refine Gp hp (thn (hc pins s1 σ1 H1 _ I1 (turn n σ1 H1 w1)) fun b s2 ⟨H2,I2,q2⟩=>?_);cases b with
 |true =>
  obtain⟨N,hN,q2⟩:=q2;refine Gp hp (thn (hb pins s2 σ1 H2 _ I2 q2) fun f s3 q3=>?_);cases f with
  |next =>
   obtain⟨σ3,H3,I3,n3⟩:=q3;obtain⟨m',hm,w3⟩:=hN σ3 H3 n3;exact⟨m',hm,σ3,H3,I3,w3⟩
  |cont =>
   obtain⟨σ3,H3,I3,n3⟩:=q3;obtain⟨m',hm,w3⟩:=hN σ3 H3 n3;exact⟨m',hm,σ3,H3,I3,w3⟩
  |brk=>exact q3
  |ret v=>exact q3
 |false =>
  exact Lx ⟨σ1,H2,I2,q2⟩
end
structure It where
 go:Nat->Hp->Prop
 yld:Nat->Hp->V->Hp->Prop
 stop:Nat->Hp->Prop
def FpOk(X:Cx)(pins:List (Addr×Obj))(H:Hp)(b:Addr):Prop :=
 H b=none/\b≠X.env.locals/\b∉X.fs/\(b∈X.ex\/X.s₀.heap.objs.size<=b)/\(∀x c,X.env.cells.lookup x=some c->c≠b)/\∀p∈X.pn++pins,p.1≠b
theorem Inv.fpOk{σ:St}{b:Addr}(I:Inv X pins σ H s)(hb:s.heap.objs.size<=b)(hn:H' b=none):FpOk X pins H' b:=by
 refine⟨hn,Et (Bt I.lt hb),I.nofs hb,.inr (Bz I.sz hb),fun x c e z=>?_,fun p hp z=>?_⟩
 ·obtain⟨v,q⟩:=I.cell x c e;exact absurd (Bt q.lt (by rw[z];exact hb)) (Eu _)
 ·exact absurd (Bt (Au (I.pin p hp).1) (by rw[z];exact hb)) (Eu _)
structure Turn (P:Program) (w:World) (K:Ak) (tg:Expr) (J:It) (fp:List Addr) (it:Addr) (tn:Nat->Heap->Prop):Prop where
 mem:it∈fp
 obj:∀i h,tn i h->∀b∈fp,∃o,h.get? b=some o/\∀v,o.data≠.cell v
 keep:∀i h h',tn i h->(∀b∈fp,∀o,h.get? b=some o->h'.get? b=some o)->tn i h'
 item:∀(X:Cx),X.prog=P->X.w=w->X.K=K->X.calm=true->∀(i:Nat) (pins:List (Addr×Obj)) (s:Shared) (σ:St) (H:Hp) (E:Value->Shared->Prop),Inv X pins σ H s->(∀b∈fp,FpOk X pins H b)->tn i s.heap->J.go i H ->
  wpAny (model P w) X.A (Gb (.ref it)) (fun r s1=>∃u,r=some u /\
   wpAny (model P w) X.A (Ly tg (.ref it) u) (fun _ s2=>∃x H',Inv X pins σ H' s2/\RelV x u/\J.yld i H x H'/\tn (i+1) s2.heap/\∀b∈fp,H' b=none) E s1) E s
 done:∀(X:Cx),X.prog=P->X.w=w->X.K=K->X.calm=true->∀(i:Nat) (pins:List (Addr×Obj)) (s:Shared) (σ:St) (H:Hp) (E:Value->Shared->Prop),Inv X pins σ H s->(∀b∈fp,FpOk X pins H b)->tn i s.heap->J.stop i H ->
  wpAny (model P w) X.A (Gb (.ref it)) (fun r s1=>r=none/\Inv X pins σ H s1) E s
 self:∀(A:Around) (i:Nat) (s:Shared) (Q:Value->Shared->Prop) (E:Value->Shared->Prop),tn i s.heap->Q (.ref it) s->wpAny (model P w) A (Ju (.ref it)) Q E s
abbrev TI:=St->Hp->(It->Hp->Prop)->Prop
def PIE(X:Cx)(pins:List (Addr×Obj))(σ:St)(tg:Expr)(R:It->Hp->Prop)(itv:Value)(s2:Shared):Prop :=
 ∃(it:Addr) (fp:List Addr) (tn:Nat->Heap->Prop) (J:It) (H':Hp),itv=.ref it/\Inv X pins σ H' s2/\Turn X.prog X.w X.K tg J fp it tn/\tn 0 s2.heap/\(∀b∈fp,FpOk X pins H' b)/\R J H'
def PI(X:Cx)(tg iter:Expr)(wi:TI):Prop :=
 ∀(pins:List (Addr×Obj)) (s:Shared) (σ:St) (H:Hp) (R:It->Hp->Prop),Inv X pins σ H s->wi σ H R ->
  wpAny (model X.prog X.w) X.A (eval iter X.env) (fun v s1=>wpAny (model X.prog X.w) X.A (Ju v) (PIE X pins σ tg R) X.xe s1) X.xe s
theorem z1r (ho : s.heap.get? it = some o) (hc : o.cls = .type n) (hd : o.data = .fields vs)
    (hn : ["enumerate", "zip", "dict_itemiterator", "dict_reverseitemiterator", "odict_iterator", "itertools.zip_longest", "itertools.pairwise"].contains n = false) (hQ : Q () s) : wpAny M A (Ly tg (.ref it) u) Q E s := by
  cases tg <;> first
    | exact Ad hQ
    | (cases u <;> first
        | exact Ad hQ
        | (refine Aa (Ua ho ?_)
           rw [hc, hd]
           show wpAny M A (if (["enumerate", "zip", "dict_itemiterator", "dict_reverseitemiterator", "odict_iterator", "itertools.zip_longest", "itertools.pairwise"].contains n && vs[0]? == some (Ds _)) = true then _ else _) Q E s
           rw [if_neg (by intro h; rw [hn, Bool.false_and] at h; cases h)]
           exact Ad hQ))
def Itl(K:Ak)(a:Addr):It :=
 ⟨fun i H=>∃xs x,SqL K H a xs/\xs[i]?=some x,fun i H x H'=>H'=H/\∀xs,SqL K H a xs->xs[i]?=some x,fun i H=>∃xs,SqL K H a xs/\xs.length<=i⟩
def Itt(K:Ak)(a:Addr):It :=
 ⟨fun i H=>∃xs x,SqT K H a xs/\xs[i]?=some x,fun i H x H'=>H'=H/\∀xs,SqT K H a xs->xs[i]?=some x,fun i H=>∃xs,SqT K H a xs/\xs.length<=i⟩
def Itr(lo:Int)(n:Nat):It:=⟨fun i _=>i<n,fun i H x H'=>H'=H/\x=.int (lo+i),fun i _=>n<=i⟩
theorem z5i{K:Ak}(a it:Addr):Turn P w K tg (Itl K a) [it] it (fun i h=>h.IsListIter it a i) where
 mem:=by simp
 obj:=fun i h st b hb=>by
  have e:b=it:=by grind
  subst e;obtain⟨o,e,c,d⟩:=st;exact⟨o,e,fun v z=>by rw[d] at z;cases z⟩
 keep:=fun i h h' st k=>st.at fun o e=>k it (by simp) o e
 item:=by
  intro X hP hw hK hc i pins s σ H E I hf st hg;subst hP hw hK;obtain⟨xs,x,hq,hx⟩:=hg;obtain⟨its,rv,p,hz⟩:=I.list hq;obtain⟨u,hu,ru⟩:=rv.get hx;obtain⟨f0,f1,f2,f3,f4,f5⟩:=hf it (by simp);refine Pq st p.isList (by simpa using hu) fun h' st' sb=>?_;have I1:Inv X pins σ H { s with heap:=h' }:=I.turned (t':=s.toks) (fun b o hb e=>(sb.2 b hb).trans e) f0 f1 f3 f4 f5;obtain⟨o,e,c,d⟩:=id st';exact⟨u,rfl,z1r e c d (by decide) ⟨x,H,I1,ru,⟨rfl,fun ys hy=>by rw[I.list_inj hy hq];exact hx⟩,st',fun b hb=>(hf b hb).1⟩⟩
 done:=by
  intro X hP hw hK hc i pins s σ H E I hf st hg;subst hP hw hK;obtain⟨xs,hq,hx⟩:=hg;obtain⟨its,rv,p,hz⟩:=I.list hq;obtain⟨f0,f1,f2,f3,f4,f5⟩:=hf it (by simp);have hl:=rv.length;exact Qj (I.ok.hd hc) st p.isList (by simp;lia) fun h' eb=>⟨rfl,I.turned (t':=s.toks) (fun b o hb e=>eb b o hb e) f0 f1 f3 f4 f5⟩
 self:=fun _ _ _ _ _ st h=>wpAny_pyIter_listiter st h
theorem z3w{K:Ak}(a it:Addr):Turn P w K tg (Itt K a) [it] it (fun i h=>h.IsTupleIter it a i) where
 mem:=by simp
 obj:=fun i h st b hb=>by
  have e:b=it:=by grind
  subst e;obtain⟨o,e,c,d⟩:=st;exact⟨o,e,fun v z=>by rw[d] at z;cases z⟩
 keep:=fun i h h' st k=>st.at fun o e=>k it (by simp) o e
 item:=by
  intro X hP hw hK hc i pins s σ H E I hf st hg;subst hP hw hK;obtain⟨xs,x,hq,hx⟩:=hg;obtain⟨its,rv,p,hz⟩:=I.tuple hq;obtain⟨u,hu,ru⟩:=rv.get hx;obtain⟨f0,f1,f2,f3,f4,f5⟩:=hf it (by simp);refine wpAny_pyNext_tuple_item st (show s.heap.IsTuple a its.toArray from p) (by simpa using hu) fun h' st' sb=>?_;have I1:Inv X pins σ H { s with heap:=h' }:=I.turned (t':=s.toks) (fun b o hb e=>(sb.2 b hb).trans e) f0 f1 f3 f4 f5;obtain⟨o,e,c,d⟩:=id st';exact⟨u,rfl,z1r e c d (by decide) ⟨x,H,I1,ru,⟨rfl,fun ys hy=>by rw[I.tuple_inj hy hq];exact hx⟩,st',fun b hb=>(hf b hb).1⟩⟩
 done:=by
  intro X hP hw hK hc i pins s σ H E I hf st hg;subst hP hw hK;obtain⟨xs,hq,hx⟩:=hg;obtain⟨its,rv,p,hz⟩:=I.tuple hq;obtain⟨f0,f1,f2,f3,f4,f5⟩:=hf it (by simp);have hl:=rv.length;exact wpAny_pyNext_tuple_end (I.ok.hd hc) st (show s.heap.IsTuple a its.toArray from p) (by simp;lia) fun h' eb=>⟨rfl,I.turned (t':=s.toks) (fun b o hb e=>eb b o hb e) f0 f1 f3 f4 f5⟩
 self:=fun _ _ _ _ _ st h=>wpAny_pyIter_tupleiter st h
theorem z3x{K:Lz}(it:Addr)(lo:Int)(n:Nat):Turn P w K tg (Itr lo n) [it] it (fun i h=>IsRangeIter h it (lo+(i:Nat)*1) ((n:Int)-(i:Nat)) 1) where
 mem:=by simp
 obj:=fun i h st b hb=>by
  have e:b=it:=by grind
  subst e;exact⟨_,st,fun v z=>by
   have z':=z;cases z'⟩
 keep:=fun i h h' st k=>k it (by simp) _ st
 item:=by
  intro X hP hw hK hc i pins s σ H E I hf st hg;subst hP hw hK;obtain⟨f0,f1,f2,f3,f4,f5⟩:=hf it (by simp);have W:=Walks.range (prog:=X.prog) (w:=X.w) (I.ok.hd hc) it lo 1 n;refine W.item i s _ _ hg st fun v h' tk hv st' kk=>?_;obtain⟨t,rfl⟩:=hv;have I1:Inv X pins σ H { s with heap:=h',toks:=tk }:=I.turned (fun b o hb e=>kk b o (by simpa using hb) e) f0 f1 f3 f4 f5;refine⟨_,rfl,z1r st' rfl rfl (by decide) ⟨.int (lo+i),H,I1,⟨t,?_⟩,⟨rfl,rfl⟩,st',fun b hb=>(hf b hb).1⟩⟩;rw[Int.mul_one]
 done:=by
  intro X hP hw hK hc i pins s σ H E I hf st hg;obtain⟨f0,f1,f2,f3,f4,f5⟩:=hf it (by simp);exact wpAny_pyNext_range_end (I.ok.hd hc) st (by have:n<=i:=hg;lia) fun h' eb=>⟨rfl,I.turned (t':=s.toks) (fun b o hb e=>eb b o hb e) f0 f1 f3 f4 f5⟩
 self:=fun _ _ _ _ _ st h=>wpAny_pyIter_rangeiter st h
open PySem PySem.Spec PyProof.Rows
section
variable{X:Cx}{tg:Expr}
theorem z8q{σ:St}{lo:Int}(I:Inv X pins σ H s)(h1 : -(2^62)<=lo)(h2:lo<2^62)(h3 : -(2^62)<=hi)(h4:hi<2^62)(q:R (Itr lo (hi-lo).toNat) H):wpAny (model X.prog X.w) X.A (Ju (.ref s.heap.objs.size)) (PIE X pins σ tg R) E { s with heap:=s.heap.push { cls:=.type "range",data:=.fields #[.int lo t,.int hi u,.int 1 v] },toks:=tk }:=by
 refine wpAny_pyIter_range (IsRange.new ..) (small_one h1 h2 h3 h4) ?_;have I1:Inv X pins σ H { s with heap:=s.heap.push { cls:=.type "range",data:=.fields #[.int lo t,.int hi u,.int 1 v] },toks:=tk }:=I.kept fun b o e=>Ah _ e;refine⟨(s.heap.push { cls:=.type "range",data:=.fields #[.int lo t,.int hi u,.int 1 v] }).objs.size,[(s.heap.push { cls:=.type "range",data:=.fields #[.int lo t,.int hi u,.int 1 v] }).objs.size],_,_,H,rfl,
  I1.kept (t':=tk) fun b o e=>Ah _ e,z3x _ lo (hi-lo).toNat,?_,fun b hb=>?_,q⟩
 ·have e1:lo+((0:Nat):Int)*1=lo:=by simp
  have e2:(((hi-lo).toNat:Nat):Int)-((0:Nat):Int)=Cy.Range.rangeSize lo hi 1:=by rw[rangeSize_one];split<;>lia
  rw[e1,e2];exact Ar _ rfl
 ·have e:b=(s.heap.push { cls:=.type "range",data:=.fields #[.int lo t,.int hi u,.int 1 v] }).objs.size:=by simpa using hb
  subst e;exact I1.fpOk (Aq _) (I1.hok.fresh (Aq _))
def iRng1(ta:TA):TI:=fun σ H R=>ta σ H fun vs H1=>∃j:Int,vs=[.int j] /\ -(2^62)<=j/\j<2^62/\R (Itr 0 j.toNat) H1
theorem q3o{a:Expr}{ta:TA}{p pos:Pos}(hg:Gl X "range")(hm:X.mg "range" = none)(ha:PA X [a] ta)(hs:Bg [a] X.env=[(false,eval a X.env)]:=by rfl):PI X tg (.Call (.Name "range" p) [a] [] pos) (iRng1 ta):=by
 intro pins s σ H R I h;refine Call_ (q5r I hg hm boot_range (Eb (thn (ha pos pins s σ H _ I h) fun us s1 ⟨vs,H1,I1,r1,q1⟩=>?_) hs rfl));obtain⟨j,e,q1,q2,q⟩:=q1;subst e;cases r1 with
 |cons r rr =>
  cases rr;obtain⟨t,rfl⟩:=r;exact call_range_1 (z8q I1 (by lia) (by lia) q1 q2 (by simpa using q))
def tFor(wi:TI)(g:TG)(tb:TS):TS:=fun D σ H=>wi σ H fun J H1=>∃W:Nat->Nat->St->Hp->Prop,(∃m,W 0 m σ H1)/\∀i m σ H,W i m σ H ->
 (J.stop i H/\D.nx σ H)\/(J.go i H/\∃N:St->Hp->Prop,(∀σ' H',N σ' H'->∃m',m'<m/\W (i+1) m' σ' H')/\∀x H',J.yld i H x H'->g x σ H' fun σ2 H2=>tb { D with nx:=N,ct:=N,bk:=D.nx } σ2 H2)
def pinsAt(fp:List Addr)(h:Heap):List (Addr×Obj):=fp.filterMap fun b=>(h.get? b).map fun o=>(b,o)
theorem q2k(hb:b∈fp)(e:h.get? b=some o):(b,o)∈pinsAt fp h:=Jv.mpr ⟨b,hb,by rw[e];rfl⟩
theorem z5j(hp:p∈pinsAt fp h):p.1∈fp/\h.get? p.1=some p.2:=by
 obtain⟨b,hb,e⟩:=Jv.mp hp;cases q:h.get? b with
 |none=>rw[q] at e;cases e
 |some o =>
  rw[q] at e;have e':=Bj e;subst e';exact⟨hb,q⟩
theorem Inv.pinned{σ:St}(I:Inv X pins σ H s)(hf:∀b∈fp,FpOk X pins H b)(ho:∀b∈fp,∃o,s.heap.get? b=some o/\∀v,o.data≠.cell v):Inv X (pins++pinsAt fp s.heap) σ H s :=
 I.pins_of fun p hp=>(Am.mp hp).elim (fun z=>I.pin p (Bk _ z)) fun z=>by
  obtain⟨hb,e⟩:=z5j z;obtain⟨f0,f1,f2,_⟩:=hf p.1 hb;obtain⟨o,e',d⟩:=ho p.1 hb;rw[e] at e';cases e';exact⟨e,f0,f1,f2,d⟩
theorem Inv.unpinned{σ:St}(I:Inv X (pins++pl) σ H s):Inv X pins σ H s:=I.pins_of fun p hp=>I.pin p (Bk _ (Ch _ hp))
theorem q1f{iter:Expr}{body:List Stmt}{wi:TI}{g:TG}{tb:TS}{pos:Pos}(hp:PassesOwn (model X.prog X.w) X.A X.env X.xe)(hc:X.calm=true)(hi:PI X tg iter wi)(hg:PG X tg g)(hb:PSs X body tb)(hs:∀x,Il iter X.env x=pure x:=by intro _;rfl):PS X (.For tg iter body [] pos) (tFor wi g tb):=by
 intro pins s σ H D I h;refine wpAny_For (thn (hi pins s σ H _ I h) fun v s1 h1=>thn h1 fun itv s2 h2=>?_) hs;obtain⟨it,fp,tn,J,H2,e,I2,T,st2,f2,W,⟨m0,w0⟩,turn⟩:=h2;subst e;have stat:∀{H':Hp},(∀b∈fp,H' b=none)->∀b∈fp,FpOk X pins H' b:=fun hn b hb=>⟨hn b hb,(f2 b hb).2⟩
 refine codeAny_forLoop_any (fun n s'=>∃i σ' H',Inv X pins σ' H' s'/\tn i s'.heap/\(∀b∈fp,H' b=none)/\W i n σ' H') ?_ m0 ⟨0,σ,H2,I2,st2,fun b hb=>(f2 b hb).1,w0⟩;rintro n s3 ⟨i,σ3,H3,I3,st3,fr3,w3⟩;rcases turn i n σ3 H3 w3 with⟨stop,qn⟩|⟨go,N,hN,step⟩
 ·refine Gp hp (thn (T.done X rfl rfl rfl hc i pins s3 σ3 H3 X.xe I3 (stat fr3) st3 stop) fun r s4 ⟨hr,I4⟩=>?_);subst hr;exact Lx ⟨σ3,H3,I4,qn⟩
 ·refine Gp hp (thn (T.item X rfl rfl rfl hc i pins s3 σ3 H3 X.xe I3 (stat fr3) st3 go) fun r s4 ⟨u,hr,h4⟩=>?_);subst hr;refine Gp hp (thn h4 fun _ s5 ⟨x,H5,I5,r5,y5,st5,fr5⟩=>?_);have I5':=I5.pinned (stat fr5) (T.obj _ _ st5);refine Gp hp (thn (hg _ s5 σ3 H5 x u _ I5' r5 (step x H5 y5)) fun _ s6 ⟨σ6,H6,I6,q6⟩=>?_);refine Gp hp (thn (hb _ s6 σ6 H6 _ I6 q6) fun f s7 q7=>?_);have again:∀{σ7:St} {H7:Hp},Inv X (pins++pinsAt fp s5.heap) σ7 H7 s7->N σ7 H7->∃m,m<n/\∃i σ' H',Inv X pins σ' H' s7/\tn i s7.heap/\(∀b∈fp,H' b=none)/\W i m σ' H':=fun{σ7 H7} I7 n7=>by
   obtain⟨m',hm,w7⟩:=hN σ7 H7 n7;refine⟨m',hm,i+1,σ7,H7,I7.unpinned,T.keep _ _ _ st5 fun b hb o e=>(I7.pin (b,o) (Bk _ (Bk _ (q2k hb e)))).1,fun b hb=>?_,w7⟩;obtain⟨o,e,d⟩:=T.obj _ _ st5 b hb;exact(I7.pin (b,o) (Bk _ (Bk _ (q2k hb e)))).2.1
  cases f with
  |next=>obtain⟨σ7,H7,I7,n7⟩:=q7;exact again I7 n7
  |cont=>obtain⟨σ7,H7,I7,n7⟩:=q7;exact again I7 n7
  |brk=>obtain⟨σ7,H7,I7,q7⟩:=q7;exact⟨σ7,H7,I7.unpinned,q7⟩
  |ret v=>obtain⟨x7,σ7,H7,I7,r7,q7⟩:=q7;exact⟨x7,σ7,H7,I7.unpinned,r7,q7⟩
end
theorem q2j{K:Lz}{g:TG}{tb:TS}{D:Ends}(Pv:Nat->St->Hp->Prop)(h0:Pv 0 σ H)(hl:∀i σ H,i<=xs.length->Pv i σ H->SqL K H a xs)(hs:∀i x σ H,xs[i]?=some x->Pv i σ H->g x σ H fun σ2 H2=>tb { D with nx:=Pv (i+1),ct:=Pv (i+1),bk:=D.nx } σ2 H2)(hd:∀σ H,Pv xs.length σ H->D.nx σ H):
  ∃W:Nat->Nat->St->Hp->Prop,(∃m,W 0 m σ H)/\∀i m σ H,W i m σ H ->
   ((Itl K a).stop i H/\D.nx σ H)\/((Itl K a).go i H/\∃N:St->Hp->Prop,(∀σ' H',N σ' H'->∃m',m'<m/\W (i+1) m' σ' H')/\∀x H',(Itl K a).yld i H x H'->g x σ H' fun σ2 H2=>tb { D with nx:=N,ct:=N,bk:=D.nx } σ2 H2):=by
 refine⟨fun i m σ H=>m=xs.length-i/\i<=xs.length/\Pv i σ H,⟨xs.length,by simp,Bl _,h0⟩,?_⟩;rintro i m σ H ⟨rfl,hi,p⟩;have q:=hl i σ H hi p;by_cases hlt:i<xs.length
 ·refine .inr ⟨⟨xs,xs[i],q,by simp[hlt]⟩,Pv (i+1),fun σ' H' p'=>⟨xs.length-(i+1),by lia,rfl,hlt,p'⟩,fun x H' y=>?_⟩;obtain⟨e,y⟩:=y;subst e;exact hs i x σ _ (y xs q) p
 ·have e:i=xs.length:=by lia
  subst e;exact .inl ⟨⟨xs,q,Aq _⟩,hd σ H p⟩
theorem q4r{lo:Int}{g:TG}{tb:TS}{D:Ends}(Pv:Nat->St->Hp->Prop)(h0:Pv 0 σ H)(hs:∀i σ H,i<n->Pv i σ H->g (.int (lo+i)) σ H fun σ2 H2=>tb { D with nx:=Pv (i+1),ct:=Pv (i+1),bk:=D.nx } σ2 H2)(hd:∀σ H,Pv n σ H->D.nx σ H):
  ∃W:Nat->Nat->St->Hp->Prop,(∃m,W 0 m σ H)/\∀i m σ H,W i m σ H ->
   ((Itr lo n).stop i H/\D.nx σ H)\/((Itr lo n).go i H/\∃N:St->Hp->Prop,(∀σ' H',N σ' H'->∃m',m'<m/\W (i+1) m' σ' H')/\∀x H',(Itr lo n).yld i H x H'->g x σ H' fun σ2 H2=>tb { D with nx:=N,ct:=N,bk:=D.nx } σ2 H2):=by
 refine⟨fun i m σ H=>m=n-i/\i<=n/\Pv i σ H,⟨n,by simp,Bl _,h0⟩,?_⟩;rintro i m σ H ⟨rfl,hi,p⟩;by_cases hlt:i<n
 ·refine .inr ⟨hlt,Pv (i+1),fun σ' H' p'=>⟨n-(i+1),by lia,rfl,hlt,p'⟩,fun x H' y=>?_⟩;obtain⟨e,y⟩:=y;subst e y;exact hs i σ _ hlt p
 ·have e:i=n:=by lia
  subst e;exact .inl ⟨Aq _,hd σ H p⟩
theorem q8r(Pv:St->Hp->Prop)(μ:St->Hp->Nat)(h0:Pv σ H)(hs:∀σ H,Pv σ H->c σ H fun b H1=>if b=true then tb { D with nx:=fun σ' H'=>Pv σ' H'/\μ σ' H'<μ σ H,ct:=fun σ' H'=>Pv σ' H'/\μ σ' H'<μ σ H,bk:=D.nx } σ H1 else D.nx σ H1)(mono:∀σ H Q Q',(∀b H1,Q b H1->Q' b H1)->c σ H Q->c σ H Q'):tWhile c tb D σ H:=by
 refine⟨fun m σ H=>m=μ σ H/\Pv σ H,⟨_,rfl,h0⟩,?_⟩;rintro m σ H ⟨rfl,p⟩;refine mono σ H _ _ (fun b H1 q=>?_) (hs σ H p);cases b with
 |true=>exact⟨_,fun σ' H' ⟨p',l⟩=>⟨_,l,rfl,p'⟩,q⟩
 |false=>exact q
open PySem PySem.Spec PyProof.Rows
abbrev R2:=V->V->Hp->VK->Prop
def OpR(X:Cx)(f:Value->Value->Sem Value)(r:R2):Prop :=
 ∀(pins:List (Addr×Obj)) (s:Shared) (σ:St) (H:Hp) (x y:V) (v u:Value) (Q:VK),Inv X pins σ H s->RelV x v->RelV y u->r x y H Q ->
  wpAny (model X.prog X.w) X.A (f v u) (EP X pins σ Q) X.xe s
def UnR(X:Cx)(f:Value->Sem Value)(r:V->Hp->VK->Prop):Prop :=
 ∀(pins:List (Addr×Obj)) (s:Shared) (σ:St) (H:Hp) (x:V) (v:Value) (Q:VK),Inv X pins σ H s->RelV x v->r x H Q ->
  wpAny (model X.prog X.w) X.A (f v) (EP X pins σ Q) X.xe s
def CallR(X:Cx)(f:Value)(r:List V->Hp->VK->Prop):Prop :=
 ∀(pins:List (Addr×Obj)) (s:Shared) (σ:St) (H:Hp) (xs:List V) (us:List Value) (Q:VK),Inv X pins σ H s->Vals xs us->r xs H Q ->
  wpAny (model X.prog X.w) X.A (call f us) (EP X pins σ Q) X.xe s
def TruR(X:Cx)(r:V->Hp->(Bool->Hp->Prop)->Prop):Prop :=
 ∀(pins:List (Addr×Obj)) (s:Shared) (σ:St) (H:Hp) (x:V) (v:Value) (Q:Bool->Hp->Prop),Inv X pins σ H s->RelV x v->r x H Q ->
  wpAny (model X.prog X.w) X.A (truthy v) (TP X pins σ Q) X.xe s
def tOp(r:R2)(ta tb:TE):TE:=fun σ H Q=>ta σ H fun x H1=>tb σ H1 fun y H2=>r x y H2 Q
def tUn(r:V->Hp->VK->Prop)(ta:TE):TE:=fun σ H Q=>ta σ H fun x H1=>r x H1 Q
def rI(C:Int->Int->Prop)(g:Int->Int->V):R2:=fun x y H Q=>∃i j,x=.int i/\y=.int j/\C i j/\Q (g i j) H
def rI0(g:Int->Int->V):R2:=fun x y H Q=>∃i j,x=.int i/\y=.int j/\Q (g i j) H
def rU(g:Int->V):V->Hp->VK->Prop:=fun x H Q=>∃i,x=.int i/\Q (g i) H
section
variable{X:Cx}{a b c:Expr}{ta tb tc:TE}{pos:Pos}
theorem binT(ha:PE X a ta)(hb:PE X b tb){σ:St}{R:V->V->Hp->Prop}(I:Inv X pins σ H s)(h:ta σ H fun x H1=>tb σ H1 fun y H2=>R x y H2){f:Value->Value->Sem Value}(hf:∀v u s2 x y H2,Inv X pins σ H2 s2->RelV x v->RelV y u->R x y H2->wpAny (model X.prog X.w) X.A (f v u) Q X.xe s2):
  wpAny (model X.prog X.w) X.A (eval a X.env) (fun v s₁=>wpAny (model X.prog X.w) X.A (eval b X.env) (fun u s₂=>wpAny (model X.prog X.w) X.A (f v u) Q X.xe s₂) X.xe s₁) X.xe s:=by
 refine thn (ha pins s σ H _ I h) fun v s1 ⟨x,H1,I1,r1,q1⟩=>?_;refine thn (hb pins s1 σ H1 _ I1 q1) fun u s2 ⟨y,H2,I2,r2,q2⟩=>?_;exact hf v u s2 x y H2 I2 r1 r2 q2
theorem q1j{op:Operator}{r:R2}(ho:OpR X (Ge op) r)(ha:PE X a ta)(hb:PE X b tb):PE X (.BinOp a op b pos) (tOp r ta tb):=by
 intro pins s σ H Q I h;exact wpAny_BinOp (binT ha hb I h fun v u s2 x y H2 I2 rx ry q=>ho pins s2 σ H2 x y v u Q I2 rx ry q)
theorem q1l{op:UnaryOp}{r:V->Hp->VK->Prop}(ho:UnR X (unaryOp op) r)(ha:PE X a ta):PE X (.UnaryOp op a pos) (tUn r ta):=by
 intro pins s σ H Q I h;exact UnaryOp_ (thn (ha pins s σ H _ I h) fun v s1 ⟨x,H1,I1,r1,q1⟩=>ho pins s1 σ H1 x v Q I1 r1 q1)
theorem opI{g:Int->Int->Int}(rule:∀(i j:Int) (t u:Tok) (s:Shared) (Q:Value->Shared->Prop) (E:Value->Shared->Prop),C i j->Q (.int (g i j) s.toks) { s with toks:=s.toks+1 }->wpAny (model X.prog X.w) X.A (f (.int i t) (.int j u)) Q E s):
  OpR X f (rI C fun i j=>.int (g i j)):=by
 intro pins s σ H x y v u Q I rx ry h;obtain⟨i,j,rfl,rfl,hc,q⟩:=h;obtain⟨t,rfl⟩:=rx;obtain⟨t',rfl⟩:=ry;exact rule i j t t' s _ _ hc ⟨.int (g i j),H,I.tok _,⟨_,rfl⟩,q⟩
theorem opI0{g:Int->Int->Int}(rule:∀(i j:Int) (t u:Tok) (s:Shared) (Q:Value->Shared->Prop) (E:Value->Shared->Prop),Q (.int (g i j) s.toks) { s with toks:=s.toks+1 }->wpAny (model X.prog X.w) X.A (f (.int i t) (.int j u)) Q E s):
  OpR X f (rI0 fun i j=>.int (g i j)):=by
 intro pins s σ H x y v u Q I rx ry h;obtain⟨i,j,rfl,rfl,q⟩:=h;obtain⟨t,rfl⟩:=rx;obtain⟨t',rfl⟩:=ry;exact rule i j t t' s _ _ ⟨.int (g i j),H,I.tok _,⟨_,rfl⟩,q⟩
theorem opB0{g:Int->Int->Bool}(rule:∀(i j:Int) (t u:Tok) (s:Shared) (Q:Value->Shared->Prop) (E:Value->Shared->Prop),Q (.bool (g i j)) s->wpAny (model X.prog X.w) X.A (f (.int i t) (.int j u)) Q E s):
  OpR X f (rI0 fun i j=>.bl (g i j)):=by
 intro pins s σ H x y v u Q I rx ry h;obtain⟨i,j,rfl,rfl,q⟩:=h;obtain⟨t,rfl⟩:=rx;obtain⟨t',rfl⟩:=ry;exact rule i j t t' s _ _ ⟨.bl (g i j),H,I,rfl,q⟩
def CDiv(i j:Int):Prop:=0<j/\j<1073741824
def CPow(i j:Int):Prop:=0<=j/\j<=1000000/\i.natAbs<2^64
def CMul(i j:Int):Prop:=(-(2^64)<i/\i<2^64)\/(-(2^64)<j/\j<2^64)
theorem CMul.ok(h:CMul i j):IntMulOk i j:=by
 rcases h with⟨h1,h2⟩|⟨h1,h2⟩
 ·exact .of_left (intBits_le_64 h1 h2)
 ·exact .of_right (intBits_le_64 h1 h2)
theorem op_add:OpR X (Ge .Add) (rI0 fun i j=>.int (i+j)):=opI0 fun _ _ _ _ _ _ _ q=>add_int q
theorem op_mul:OpR X (Ge .Mult) (rI CMul fun i j=>.int (i*j)):=opI fun _ _ _ _ _ _ _ hc q=>mul_int q hc.ok
theorem z5k:OpR X (Ge .FloorDiv) (rI CDiv fun i j=>.int (i / j)):=opI fun i j _ _ _ _ _ hc q=>by
 have h1:=hc.1;have h2:=hc.2;exact floordiv_int (by lia) (by rw[Int.fdiv_eq_ediv_of_nonneg i (by lia)];exact q) (.inl (PyProof.noPylong_small (by lia)))
theorem q7m:OpR X (Ge .Mod) (rI (fun _ j=>0<j) fun i j=>.int (i%j)):=opI fun i j _ _ _ _ _ hc q=>by
 exact mod_int' (by lia) (by rw[Int.fmod_eq_emod_of_nonneg i (by lia)];exact q)
theorem x0v:OpR X (Ge .Pow) (rI CPow fun i j=>.int (i^j.toNat)):=opI fun _ _ _ _ _ _ _ hc q=>pow_int_small hc.1 hc.2.1 hc.2.2 q
theorem x1v:OpR X (inplaceOp .Add) (rI0 fun i j=>.int (i+j)):=opI0 fun _ _ _ _ _ _ _ q=>iadd_int q
theorem unI{g:Int->Int}(rule:∀(i:Int) (t:Tok) (s:Shared) (Q:Value->Shared->Prop) (E:Value->Shared->Prop),Q (.int (g i) s.toks) { s with toks:=s.toks+1 }->wpAny (model X.prog X.w) X.A (f (.int i t)) Q E s):
  UnR X f (rU fun i=>.int (g i)):=by
 intro pins s σ H x v Q I rx h;obtain⟨i,rfl,q⟩:=h;obtain⟨t,rfl⟩:=rx;exact rule i t s _ _ ⟨.int (g i),H,I.tok _,⟨_,rfl⟩,q⟩
theorem q0s:UnR X (unaryOp .USub) (rU fun i=>.int (-i)):=unI fun _ _ _ _ _ q=>neg_int q
end
def scal:V->V->Bool
 |.non,.non=>true|.non,.int _=>true|.int _,.non=>true|.non,.bl _=>true|.bl _,.non=>true|.non,.str _=>true|.str _,.non=>true
 |.int _,.int _=>true|.bl _,.bl _=>true|.str _,.str _=>true|.byt _,.byt _=>true
 |.int _,.str _=>true|.str _,.int _=>true|.bl _,.str _=>true|.str _,.bl _=>true
 |_,_=>false
def rEq:R2:=fun x y H Q=>scal x y=true/\Q (.bl (decide (x=y))) H
def rNe:R2:=fun x y H Q=>scal x y=true/\Q (.bl (!decide (x=y))) H
theorem z5l:decide (V.int i=V.int j)=(i==j):=by
 rw[Ma];simp
theorem x0w:decide (V.bl i=V.bl j)=(i==j):=by
 rw[Ma];simp
theorem dec_str:decide (V.str i=V.str j)=(i==j):=by
 rw[Ma];simp
theorem z5m:decide (V.byt i=V.byt j)=(i.toList==j.toList):=by
 rw[Ma];cases i;cases j;simp
section
variable{X:Cx}{a b c:Expr}{ta tb tc:TE}{pos:Pos}
theorem q0v{σ:St}(I:Inv X pins σ H s)(q:Q (.bl k) H)(e:k=k'):EP X pins σ Q (.bool k') s:=by
 subst e;exact⟨.bl k,H,I,rfl,q⟩
theorem op_eq:OpR X (Cl .Eq) rEq:=by
 intro pins s σ H x y v u Q I rx ry h;obtain⟨hs,q⟩:=h;cases x with
 |non =>
  cases rx;cases y with
  |non=>cases ry;exact PySem.EqNone.eq_none_none (q0v I q (by simp))
  |bl j=>cases ry;exact PySem.EqNone.eq_none_bool (q0v I q (by simp))
  |int j=>obtain⟨t',rfl⟩:=ry;exact PySem.EqNone.eq_none_int (q0v I q (by simp))
  |str j=>obtain⟨t',rfl⟩:=ry;exact PySem.EqNone.eq_none_str (q0v I q (by simp))
  |_=>exact absurd (show false=true from hs) Bd
 |bl i =>
  cases rx;cases y with
  |non=>cases ry;exact PySem.EqNone.eq_bool_none (q0v I q (by simp))
  |bl j=>cases ry;exact eq_bool (q0v I q x0w)
  |str j=>obtain⟨t',rfl⟩:=ry;exact PySem.EqMixed.eq_bool_str (q0v I q (by simp))
  |_=>exact absurd (show false=true from hs) Bd
 |int i =>
  obtain⟨t,rfl⟩:=rx;cases y with
  |non=>cases ry;exact PySem.EqNone.eq_int_none (q0v I q (by simp))
  |int j=>obtain⟨t',rfl⟩:=ry;exact eq_int (q0v I q z5l)
  |str j=>obtain⟨t',rfl⟩:=ry;exact PySem.EqMixed.eq_int_str (q0v I q (by simp))
  |_=>exact absurd (show false=true from hs) Bd
 |str i =>
  obtain⟨t,rfl⟩:=rx;cases y with
  |non=>cases ry;exact PySem.EqNone.eq_str_none (q0v I q (by simp))
  |bl j=>cases ry;exact PySem.EqMixed.eq_str_bool (q0v I q (by simp))
  |int j=>obtain⟨t',rfl⟩:=ry;exact PySem.EqMixed.eq_str_int (q0v I q (by simp))
  |str j=>obtain⟨t',rfl⟩:=ry;exact eq_str (q0v I q dec_str)
  |_=>exact absurd (show false=true from hs) Bd
 |byt i =>
  obtain⟨t,rfl⟩:=rx;cases y with
  |byt j=>obtain⟨t',rfl⟩:=ry;exact W.eq_bytes (q0v I q z5m)
  |_=>exact absurd (show false=true from hs) Bd
 |_=>cases y<;>exact absurd (show false=true from hs) Bd
theorem op_ne:OpR X (Cl .NotEq) rNe:=by
 intro pins s σ H x y v u Q I rx ry h;obtain⟨hs,q⟩:=h;cases x with
 |non =>
  cases rx;cases y with
  |non=>cases ry;exact PySem.EqNone.ne_none_none (q0v I q (by simp))
  |bl j=>cases ry;exact PySem.EqNone.ne_none_bool (q0v I q (by simp))
  |int j=>obtain⟨t',rfl⟩:=ry;exact PySem.EqNone.ne_none_int (q0v I q (by simp))
  |str j=>obtain⟨t',rfl⟩:=ry;exact PySem.EqNone.ne_none_str (q0v I q (by simp))
  |_=>exact absurd (show false=true from hs) Bd
 |bl i =>
  cases rx;cases y with
  |non=>cases ry;exact PySem.EqNone.ne_bool_none (q0v I q (by simp))
  |bl j=>cases ry;exact ne_bool (q0v I q (congrArg not x0w))
  |str j=>obtain⟨t',rfl⟩:=ry;exact PySem.EqMixed.ne_bool_str (q0v I q (by simp))
  |_=>exact absurd (show false=true from hs) Bd
 |int i =>
  obtain⟨t,rfl⟩:=rx;cases y with
  |non=>cases ry;exact PySem.EqNone.ne_int_none (q0v I q (by simp))
  |int j=>obtain⟨t',rfl⟩:=ry;exact ne_int (q0v I q (congrArg not z5l))
  |str j=>obtain⟨t',rfl⟩:=ry;exact PySem.EqMixed.ne_int_str (q0v I q (by simp))
  |_=>exact absurd (show false=true from hs) Bd
 |str i =>
  obtain⟨t,rfl⟩:=rx;cases y with
  |non=>cases ry;exact PySem.EqNone.ne_str_none (q0v I q (by simp))
  |bl j=>cases ry;exact PySem.EqMixed.ne_str_bool (q0v I q (by simp))
  |int j=>obtain⟨t',rfl⟩:=ry;exact PySem.EqMixed.ne_str_int (q0v I q (by simp))
  |str j=>obtain⟨t',rfl⟩:=ry;exact ne_str (q0v I q (congrArg not dec_str))
  |_=>exact absurd (show false=true from hs) Bd
 |byt i =>
  obtain⟨t,rfl⟩:=rx;cases y with
  |byt j=>obtain⟨t',rfl⟩:=ry;exact W.ne_bytes (q0v I q (congrArg not z5m))
  |_=>exact absurd (show false=true from hs) Bd
 |_=>cases y<;>exact absurd (show false=true from hs) Bd
theorem z8r:OpR X (Cl .Lt) (rI0 fun i j=>.bl (decide (i<j))):=opB0 fun _ _ _ _ _ _ _ q=>lt_int q
theorem op_gt:OpR X (Cl .Gt) (rI0 fun i j=>.bl (decide (j<i))):=opB0 fun _ _ _ _ _ _ _ q=>gt_int q
theorem op_in_str:OpR X (Cl .In) (fun x y H Q=>∃i j,x=.str i/\y=.str j/\Q (.bl (!(Pe j i 0 j.length 1).isEmpty)) H):=by
 intro pins s σ H x y v u Q I rx ry h;obtain⟨i,j,rfl,rfl,q⟩:=h;obtain⟨t,rfl⟩:=rx;obtain⟨t',rfl⟩:=ry;exact in_str (q0v I q rfl)
theorem OpR.or(h:OpR X f r)(h':OpR X f r'):OpR X f (fun x y H Q=>r x y H Q\/r' x y H Q):=by
 intro pins s σ H x y v u Q I rx ry q;rcases q with q|q
 ·exact h pins s σ H x y v u Q I rx ry q
 ·exact h' pins s σ H x y v u Q I rx ry q
theorem nomark(b:Expr)(h:op≠.In:=by decide)(h2:op≠.NotIn:=by decide):Gv op b=false:=by
 have e1:(op==CmpOp.In)=false:=by grind
 have e2:(op==CmpOp.NotIn)=false:=by grind
 cases b<;>simp[Gv,e1,e2]
theorem q5d{op:CmpOp}{r:R2}(ho:OpR X (Cl op) r)(ha:PE X a ta)(hb:PE X b tb)(hm:Gv op b=false):PE X (.Compare a [op] [b] pos) (tOp r ta tb):=by
 intro pins s σ H Q I h;exact wpAny_Compare1 (binT ha hb I h fun v u s2 x y H2 I2 rx ry q=>ho pins s2 σ H2 x y v u Q I2 rx ry q) hm
def tTest(t:TE):TT:=fun σ H Q=>t σ H fun x H'=>∃k,x=.bl k/\Q k H'
theorem q0k{op:CmpOp}{r:R2}(ho:OpR X (Cl op) r)(ha:PE X a ta)(hb:PE X b tb)(hm:Gv op b=false):PT X (.Compare a [op] [b] pos) (tTest (tOp r ta tb)):=by
 intro pins s σ H Q I h;refine Qi (thn (ha pins s σ H _ I h) fun v s1 ⟨x,H1,I1,r1,q1⟩=>thn (hb pins s1 σ H1 _ I1 q1) fun u s2 ⟨y,H2,I2,r2,q2⟩ =>
  thn (ho pins s2 σ H2 x y v u _ I2 r1 r2 q2) fun c s3 ⟨z,H3,I3,r3,k,e,q3⟩=>?_) hm
 subst e;cases r3;exact Cn ⟨H3,I3,q3⟩
def TruV(K:Ak)(x:V)(H:Hp)(k:Bool):Prop :=
 match x with
 |.non=>k=false
 |.bl b=>k=b
 |.int i=>k=(i != 0)
 |.str y=>y.length<=sizeLine/\k=((y.length:Int) != 0)
 |.byt y=>y.size<=sizeLine/\k=((y.size:Int) != 0)
 |.ref p=>(∃xs,SqL K H p xs/\k = !xs.isEmpty)\/(∃xs,SqT K H p xs/\k = !xs.isEmpty)\/∃kvs,H p=some (.dK kvs)/\k = !kvs.isEmpty
 |_=>False
theorem z3y{kvs:List (κ×V)}{vs:List (κ×Value)}(r:KV kvs vs):(!vs.isEmpty) = !kvs.isEmpty:=by
 cases r<;>rfl
theorem q7n(r:Vals xs its):(!its.toArray.isEmpty) = !xs.isEmpty:=by
 cases r<;>simp
theorem line63:(sizeLine:Nat)<2^63:=by rw[Ev];decide
theorem tru_ok:TruR X (fun x H Q=>∃k,TruV X.K x H k/\Q k H):=by
 intro pins s σ H x v Q I rx h;obtain⟨k,e,q⟩:=h;have hs:=Ev;cases x with
 |non =>
  cases rx;have e':=e;subst e';exact truthy_none ⟨H,I,q⟩
 |bl b =>
  cases rx;have e':=e;subst e';exact Cn ⟨H,I,q⟩
 |int i =>
  obtain⟨t,rfl⟩:=rx;have e':=e;subst e';exact PySem.P.truthy_int ⟨H,I,q⟩
 |str y =>
  obtain⟨t,rfl⟩:=rx;obtain⟨hy,e'⟩:y.length<=sizeLine/\k=((y.length:Int) != 0):=e;subst e';exact PySem.P.truthy_str (by lia) ⟨H,I.tok _,q⟩
 |byt y =>
  obtain⟨t,rfl⟩:=rx;obtain⟨hy,e'⟩:y.size<=sizeLine/\k=((y.size:Int) != 0):=e;subst e';exact W.truthy_bytes (by lia) ⟨H,I.tok _,q⟩
 |ref p =>
  cases rx;have e':=e;rcases e' with⟨xs,hx,e'⟩|⟨xs,hx,e'⟩|⟨kvs,hx,e'⟩
  ·subst e';obtain⟨its,r,pl,hz⟩:=I.list hx;have hlen:=r.length;exact wpAny_truthy_list pl.isList (by simp only[Az];lia) ⟨H,I.tok _,by rw[q7n r];exact q⟩
  ·subst e';obtain⟨its,r,pl,hz⟩:=I.tuple hx;have hlen:=r.length;exact truthy_tuple pl (by simp only[Az];lia) ⟨H,I.tok _,by rw[q7n r];exact q⟩
  ·subst e';obtain⟨hz,hS,vs,r,m⟩:kvs.length<=sizeLine/\(p==Cm)=false/\∃vs,KV kvs vs/\s.heap.DictOf (mixKind X.prog X.w) p vs:=I.hok p _ hx;have hlen:=Dv r;exact wpAny_truthy_dict hS m (by lia) ⟨H,I.tok _,by rw[z3y r];exact q⟩
 |_=>exact(show False from e).elim
theorem z8s(ha:PE X a ta)(he:∀whole,isTrue a X.env whole=(do let v<-whole;Oj a.pos;Jl [v] (truthy v))):
  PT X a (fun σ H Q=>ta σ H fun x H'=>∃k,TruV X.K x H' k/\Q k H'):=by
 intro pins s σ H Q I h;exact isTrue_plain (thn (ha pins s σ H _ I h) fun v s1 ⟨x,H1,I1,r1,q1⟩=>tru_ok pins s1 σ H1 x v Q I1 r1 q1) (he _)
theorem op_add_str:OpR X (Ge .Add) (fun x y H Q=>∃i j,x=.str i/\y=.str j/\i.length+j.length<=sizeLine/\Q (.str (i++j)) H):=by
 intro pins s σ H x y v u Q I rx ry h;obtain⟨i,j,rfl,rfl,hz,q⟩:=h;obtain⟨t,rfl⟩:=rx;obtain⟨t',rfl⟩:=ry;exact add_str (fun t' tk=>⟨.str (i++j),H,I.tok _,⟨_,rfl⟩,q⟩) hz
theorem vals1(r:Vals [x] us):∃u,us=[u]/\RelV x u:=by
 cases r with
 |cons r1 r2=>cases r2;exact⟨_,rfl,r1⟩
theorem vals2(r:Vals [x,y] us):∃u w',us=[u,w']/\RelV x u/\RelV y w':=by
 cases r with
 |cons r1 r2 =>
  cases r2 with
  |cons r3 r4=>cases r4;exact⟨_,_,rfl,r1,r3⟩
theorem z5n(hc:X.calm=true):CallR X (.builtin "max") (fun xs H Q=>∃i j,xs=[.int i,.int j]/\Q (.int (if j>i then j else i)) H):=by
 intro pins s σ H xs us Q I r h;obtain⟨i,j,rfl,q⟩:=h;obtain⟨u,w',rfl,⟨t,rfl⟩,⟨t',rfl⟩⟩:=vals2 r;refine max_two_ints (I.ok.hd hc) fun h' tk k=>⟨_,H,I.kept k,?_,q⟩
 by_cases hj:j>i
 ·rw[if_pos hj,if_pos hj];exact⟨_,rfl⟩
 ·rw[if_neg hj,if_neg hj];exact⟨_,rfl⟩
theorem z5o(hc:X.calm=true):CallR X (.builtin "min") (fun xs H Q=>∃i j,xs=[.int i,.int j]/\Q (.int (if j<i then j else i)) H):=by
 intro pins s σ H xs us Q I r h;obtain⟨i,j,rfl,q⟩:=h;obtain⟨u,w',rfl,⟨t,rfl⟩,⟨t',rfl⟩⟩:=vals2 r;refine min_two_ints (I.ok.hd hc) fun h' tk k=>⟨_,H,I.kept k,?_,q⟩
 by_cases hj:j<i
 ·rw[if_pos hj,if_pos hj];exact⟨_,rfl⟩
 ·rw[if_neg hj,if_neg hj];exact⟨_,rfl⟩
def LenV(K:Ak)(x:V)(H:Hp)(n:Nat):Prop :=
 match x with
 |.str y=>y.length<=sizeLine/\n=y.length
 |.byt y=>y.size<=sizeLine/\n=y.size
 |.ref p=>(∃xs,SqL K H p xs/\n=xs.length)\/∃xs,SqT K H p xs/\n=xs.length
 |_=>False
theorem z8t:CallR X (.builtin "len") (fun xs H Q=>∃x n,xs=[x]/\LenV X.K x H n/\Q (.int n) H):=by
 intro pins s σ H xs us Q I r h;obtain⟨x,n,rfl,e,q⟩:=h;obtain⟨u,rfl,rx⟩:=vals1 r;have hs:=Ev;cases x with
 |str y =>
  obtain⟨t,rfl⟩:=rx;obtain⟨hy,e'⟩:y.length<=sizeLine/\n=y.length:=e;subst e';exact len_str (by lia) ⟨.int _,H,I.tok _,⟨_,rfl⟩,q⟩
 |byt y =>
  obtain⟨t,rfl⟩:=rx;obtain⟨hy,e'⟩:y.size<=sizeLine/\n=y.size:=e;subst e';exact W.len_bytes (by lia) ⟨.int _,H,I.tok _,⟨_,rfl⟩,q⟩
 |ref p =>
  cases rx;have e':=e;rcases e' with⟨xs,hx,e'⟩|⟨xs,hx,e'⟩
  ·subst e';obtain⟨its,r',pl,hz⟩:=I.list hx;have hlen:=r'.length;exact Calls.call_len_list pl.isList (by simp only[Az];lia) ⟨.int xs.length,H,I.tok _,⟨_,by simp only[Az];rw[hlen]⟩,q⟩
  ·subst e';obtain⟨its,r',pl,hz⟩:=I.tuple hx;have hlen:=r'.length;exact len_tuple pl (by simp only[Az];lia) ⟨.int xs.length,H,I.tok _,⟨_,by simp only[Az];rw[hlen]⟩,q⟩
 |_=>exact(show False from e).elim
end
open PySem PySem.Spec PyProof.Rows
structure ObjM (h:Heap) (x dx C:Addr) (mA:Str->Option Value):Prop where
 obj:h.get? x=some (Js C dx)
 ns:h.Ns1 dx mA
 ne:dx≠x
theorem z5p{h:Heap}(n:h.Ns1 dx mA):∃od,h.get? dx=some od/\∀name,Tj name od=some (mA name):=by
 obtain⟨o,es,ep,ho,hd,hk,_,hm⟩:=n;refine⟨o,ho,fun name=>?_⟩;have e:=hm name;unfold nsFind findBy at e;rw[<- Array.find?_toList] at e;unfold Tj;rw[hd];dsimp only;split
 ·grind
 ·rename_i q;rw[q] at e;have a:es.toList.any (·.refKey)=false:=by
   rw[Sr];intro y hy;obtain⟨z,t,hkey⟩:=hk y (Array.mem_toList_iff.mp hy);simp[DictEntry.refKey,hkey]
  have a':¬es.toList.any (·.refKey)=true:=by grind
  rw[if_neg a'];exact congrArg some e
theorem ObjM.look(I:ObjM h x dx C mA):∃od,W.InstAt h x (Js C dx) C (some od)/\∀name,Tj name od=some (mA name) :=
 let ⟨od,ho,hl⟩:=z5p I.ns
 ⟨od,⟨I.obj,rfl,rfl,ho⟩,hl⟩
section
variable{prog:Program}{w:World}{A:Around}{E:Value->Shared->Prop}{s:Shared}{K:Ak}{x dx C f:Addr}{mA:Str->Option Value}{name:Str}{v:Value}
theorem x1w(X:K.In s.heap)(I:ObjM s.heap x dx C mA)(hg:Ob K C name=true)(hh:Pr K C=true)(ha:Fu K (.ref C) name=some none)(hv:mA name=some v)(hv':W.handedIn v=true)(h:Q v { s with toks:=s.toks+1 }):
  wpAny (model prog w) A (getAttr (.ref x) name expr) Q E s:=by
 obtain⟨od,J,hl⟩:=I.look;exact W.get_value X J (Rk hg).1 (W.findObj_own hh ha rfl (by rw[hl,hv])) hv' h
theorem z8u(X:K.In s.heap)(I:ObjM s.heap x dx C mA)(hg:Ob K C name=true)(hf:Fu K (.ref C) name=some (some (.ref f)))(ht:Ub K (.ref f)=true)(hv:mA name=none)(h:Q (.ref f,[.ref x]) s):
  wpAny (model prog w) A (Nb (.ref x) name pl) Q E s:=by
 obtain⟨od,J,hl⟩:=I.look;exact W.method_fn X J (Rk hg).1 (Rk hg).2 hf (beq_iff_eq.mp ht) (by show(Tj name od).map (·.isSome)=some false;rw[hl,hv];rfl) h
theorem x1x(X:K.In s.heap)(I:ObjM s.heap x dx C mA)(hs:Fu K (.ref C) "__setattr__" = some (some (.builtin "object.__setattr__")))(hp:Te K C=true)(ht:Ut K C name=some none)(hh:Pr K C=true)(hw:Om mA ns)(hsz:ns.length<=sizeLine)(h:∀h',ObjM h' x dx C (fun y=>if y=name then some v else mA y)->Fh dx s.heap h'->Q () { s with heap:=h',toks:=s.toks+2 }):
  wpAny (model prog w) A (setAttr (.ref x) name v) Q E s:=by
 obtain⟨od,J,hl⟩:=I.look;refine W.set_plain X J hs (W.osa_open X J hp ht fun b=>?_);obtain⟨cd,hc,hd'⟩:=W.any_some hh;have hx:=I.obj;refine Aa (Ad (Aa (Aa (wpAny_loadPart hx (Aa (W.Looks.here (W.looks_clsIn X hc) ?_))))));rw[hd'];refine Ad (Aa (Ad (Aa ?_)));refine wpAny_nsSet1 I.ns fun h' hn2 hs2=>?_
 obtain⟨oD,esD,epD,hoD,hdD,hcD⟩:=hn2.count (Om.cons name v hw);refine Aa (wpAny_lookBehind hoD (by rw[hdD];exact pastItsLine_dict (Bz hcD (by rw[By];lia))) ?_);exact Ad (h _ ⟨(hs2.2 _ (Er I.ne)).trans I.obj,hn2,I.ne⟩ hs2)
theorem z8v(X:K.In s.heap)(hm:Uu K C=true)(hi:Fu K (.ref C) "__init__" = some (some (.ref f)))(hf:W.typeIn K (.ref f)=some (.type "function"))(h:Ew (model prog w) (A.under (.builtin "type.__call__" ⟨.ref C::vs,kw⟩)) (.call (.ref f) ⟨.ref (s.heap.objs.size+1)::vs,kw⟩) (W.InitBack (s.heap.objs.size+1) R)
   { s with heap:=(s.heap.push Hf).push (Js C s.heap.objs.size) }):
  Ew (model prog w) A (.call (.ref C) ⟨vs,kw⟩) R s:=by
 exact W.make_core (W.makes_of X hm) (W.looks_findIn X hi) (fun self=>W.bind_fn X self hf) (.inl rfl) h
end
def putF(f:Str)(v:V):List (Str×V)->List (Str×V)
 |[]=>[(f,v)]
 |(g,x)::r=>if g=f then(g,v)::r else(g,x)::putF f v r
theorem q6g(f g:Str)(v:V):∀fs:List (Str×V),(putF f v fs).lookup g=if g=f then some v else fs.lookup g
 |[]=>by
  show List.lookup g [(f,v)]=_;by_cases h:g=f
  ·have hb:(g==f)=true:=beq_iff_eq.mpr h;simp only[List.lookup,hb,if_pos h]
  ·simp_all
 |(k,x)::r=>by
  have ih:=q6g f g v r;rw[show putF f v ((k,x)::r)=(if k=f then(k,v)::r else(k,x)::putF f v r) from rfl];by_cases hk:k=f
  ·rw[if_pos hk];by_cases h:g=k
   ·simp_all
   ·have hb:(g==k)=false:=beq_eq_false_iff_ne.mpr h;simp only[List.lookup,hb,if_neg (fun e:g=f=>h (e.trans hk.symm))]
  ·rw[if_neg hk];by_cases h:g=k
   ·simp_all
   ·have hb:(g==k)=false:=beq_eq_false_iff_ne.mpr h;simp only[List.lookup,hb];exact ih
theorem q6h(f:Str)(v:V):∀fs:List (Str×V),f∈(putF f v fs).map (·.1)/\∀g,g∈fs.map (·.1)->g∈(putF f v fs).map (·.1)
 |[]=>⟨by simp[putF],fun g h=>by simp at h⟩
 |(k,x)::r=>by
  obtain⟨i1,i2⟩:=q6h f v r;rw[show putF f v ((k,x)::r)=(if k=f then(k,v)::r else(k,x)::putF f v r) from rfl];by_cases hk:k=f
  ·grind
  ·grind
theorem q6i(f:Str)(v:V):∀fs:List (Str×V),(putF f v fs).length<=fs.length+1
 |[]=>by simp[putF]
 |(k,x)::r=>by
  have ih:=q6i f v r;rw[show putF f v ((k,x)::r)=(if k=f then(k,v)::r else(k,x)::putF f v r) from rfl];by_cases hk:k=f
  ·grind
  ·grind
theorem RelO.some_of(r:RelO (some v) o):∃u,o=some u/\RelV v u:=by
 cases o with
 |none=>exact(show False from r).elim
 |some u=>exact⟨u,rfl,r⟩
theorem RelO.none_of(r:RelO none o):o=none:=by
 cases o with
 |none=>rfl
 |some u=>exact(show False from r).elim
theorem z5q(r:RelV v u):W.handedIn u=true:=by
 cases v with
 |non=>cases(show u=Value.none from r);rfl
 |bl b=>cases(show u=Value.bool b from r);rfl
 |int i=>obtain⟨t,e⟩:=(show ∃t,u=Value.int i t from r);cases e;rfl
 |str x=>obtain⟨t,e⟩:=(show ∃t,u=Value.str x t from r);cases e;rfl
 |byt b=>obtain⟨t,e⟩:=(show ∃t,u=Value.bytes b t from r);cases e;rfl
 |flt b=>obtain⟨t,e⟩:=(show ∃t,u=Value.float b t from r);cases e;rfl
 |ref a=>cases(show u=Value.ref a from r);rfl
 |ty n=>cases(show u=Value.type n from r);rfl
section
variable{P:Program}{w:World}{H H':Hp}{h h':Heap}{a C dx:Addr}{fs fs':List (Str×V)}
theorem q8s(hok:HOk P w H h)(e:H a=some (.ins C dx fs)):∃mA,ObjM h a dx C mA/\(∀f,RelO (fs.lookup f) (mA f))/\Om mA (fs.map (·.1))/\fs.length<=1000/\H dx=some (.own a):=by
 obtain⟨d,z,ne,ob,mA,n,r,q⟩:=(show ObjOk P w H h a (.ins C dx fs) from hok a _ e)
 exact⟨mA,⟨ob,n,ne⟩,r,q,z,d⟩
end
structure Cls (K:Ak) (C:Addr):Prop where
 pg:Ob K C Str.empty=true
 hd:Pr K C=true
 po:Te K C=true
 sa:Fu K (.ref C) "__setattr__" = some (some (.builtin "object.__setattr__"))
theorem Cls.get{K:Ak}(c:Cls K C)(f:Str):Ob K C f=true:=c.pg
def NoAttr(K:Ak)(C:Addr)(f:Str):Prop:=Fu K (.ref C) f=some none
theorem NoAttr.taker{K:Ak}(n:NoAttr K C f):Ut K C f=some none:=by
 unfold Ut;rw[show Fu K (.ref C) f=some none from n];rfl
structure Meth (K:Ak) (C:Addr) (m:Str) (f:Addr):Prop where
 at_:Fu K (.ref C) m=some (some (.ref f))
 fn:Ub K (.ref f)=true
 kp:Hi K (.ref f)=true
section
variable{X:Cx}{pins:List (Addr×Obj)}{σ:St}{H:Hp}{s:Shared}{a C dx:Addr}{fs:List (Str×V)}{f:Str}{v:V}{A:Around}{E:Value->Shared->Prop}
theorem z3z(I:Inv X pins σ H s)(e:H a=some (.ins C dx fs))(c:Cls X.K C)(n:NoAttr X.K C f)(l:fs.lookup f=some v)(h:∀u s',Inv X pins σ H s'->RelV v u->Q u s'):wpAny (model X.prog X.w) A (getAttr (.ref a) f b) Q E s:=by
 obtain⟨mA,O,r,_,_,_⟩:=q8s I.hok e;obtain⟨u,hu,ru⟩:=RelO.some_of (by rw[<- l];exact r f);exact x1w I.kIn O (c.get f) c.hd n hu (z5q ru) (h u _ (I.tok _) ru)
theorem q7o(I:Inv X pins σ H s)(e:H a=some (.ins C dx fs))(c:Cls X.K C)(k:Meth X.K C m g)(l:fs.lookup m=none)(h:Q (.ref g,[.ref a]) s):wpAny (model X.prog X.w) A (Nb (.ref a) m pl) Q E s:=by
 obtain⟨mA,O,r,_,_,_⟩:=q8s I.hok e;have hn:=RelO.none_of (by rw[<- l];exact r m);exact z8u I.kIn O (c.get m) k.at_ k.fn hn h
theorem z4a(I:Inv X pins σ H s)(e:H a=some (.ins C dx fs))(c:Cls X.K C)(n:NoAttr X.K C f)(hl:fs.length<1000)(ry:RelV y u)(h:∀s',Inv X pins σ (upd H a (.ins C dx (putF f y fs))) s'->Q () s'):wpAny (model X.prog X.w) A (setAttr (.ref a) f u) Q E s:=by
 obtain⟨mA,O,r,wi,_,ho⟩:=q8s I.hok e;have hz:(fs.map (·.1)).length<=sizeLine:=by rw[Ab,Ev];lia
 refine x1x I.kIn O c.sa c.po n.taker c.hd wi hz fun h' O' sb=>h _ ?_;have hd:∃o,h'.get? dx=some o:=let ⟨o,_,_,e',_⟩:=O'.ns;⟨o,e'⟩;refine I.write (by rw[e];exact True.intro) (.inr ho) (fun b q hb z=>(sb.2 b hb).trans z) hd ?_;refine⟨by rw[q0c O.ne];exact ho,?_,O.ne,O'.obj,_,O'.ns,fun g=>?_,fun g hg=>?_⟩
 ·have:=q6i f y fs;lia
 ·show RelO ((putF f y fs).lookup g) (if g=f then some u else mA g);rw[q6g];by_cases q:g=f
  ·rw[if_pos q,if_pos q];exact ry
  ·grind
 ·by_cases q:g=f
  ·rw[q];exact(q6h f y fs).1
  ·refine(q6h f y fs).2 g (wi g fun z=>hg ?_);show(if g=f then some u else mA g)=none;rw[if_neg q];exact z
theorem Inv.made(I:Inv X pins σ H s):Inv X pins σ (upd (upd H s.heap.objs.size (.own (s.heap.objs.size+1))) (s.heap.objs.size+1) (.ins C s.heap.objs.size []))
  { s with heap:=(s.heap.push Hf).push (Js C s.heap.objs.size) }:=by
 have e1:(s.heap.push Hf).get? s.heap.objs.size=some Hf:=Ar s.heap rfl;have e2:((s.heap.push Hf).push (Js C s.heap.objs.size)).get? (s.heap.objs.size+1)=some (Js C s.heap.objs.size):=by
  have:=Ar (s.heap.push Hf) (o:=Js C s.heap.objs.size) rfl
  rwa [Ex] at this
 have e3:(s.heap.push Hf).Ns s.heap.objs.size (fun _=>none):=⟨Hf,#[],_,e1,rfl,(fun e he=>absurd he (by simp)),fun _=>rfl⟩
 have I1:=I.laid (o:=.own (s.heap.objs.size+1)) (h':=s.heap.push Hf) (t':=s.toks) (fun b u q=>Ah _ q) (Aq _) ⟨_,e1⟩;refine I1.laid (t':=s.toks) (fun b u q=>Ah _ q) (Jw (Ex _ _)) ?_;have ne:s.heap.objs.size≠s.heap.objs.size+1:=Bf (Gf _);refine⟨by rw[q0c ne,q0b],Bl _,ne,e2,fun _=>none,(Heap.Ns1.of_empty e3).at fun o q=>Ah _ q,fun _=>True.intro,fun y hy=>absurd rfl hy⟩
theorem x1y(hb:Fy e f env (eval e env)=eval e env)(h:wpAny (model prog w) A (eval e env) (fun o s₁=>wpAny (model prog w) A (getAttr o f true) Q E s₁) E s):wpAny (model prog w) A (eval (.Attribute e f pos) env) Q E s :=
 Attribute_any_ h (by rw[arm_eval_Attribute,hb])
end
def tFld(K:Ak)(ta:TE)(f:Str):TE:=fun σ H Q=>ta σ H fun x H1=>∃a C dx fs v,x=.ref a/\H1 a=some (.ins C dx fs)/\Cls K C/\NoAttr K C f/\fs.lookup f=some v/\Q v H1
def sFld(K:Ak)(ta tv:TE)(f:Str):TS:=fun D σ H=>tv σ H fun y H1=>ta σ H1 fun x H2=>∃a C dx fs,x=.ref a/\H2 a=some (.ins C dx fs)/\Cls K C/\NoAttr K C f/\fs.length<1000 /\
 D.nx σ (upd H2 a (.ins C dx (putF f y fs)))
section
variable{X:Cx}{o e value:Expr}{f:Str}{pos pos' tpos:Pos}{ta tv:TE}
theorem pe_fld(he:PE X e ta)(hb:Fy e f X.env (eval e X.env)=eval e X.env):PE X (.Attribute e f pos) (tFld X.K ta f):=by
 intro pins s σ H Q I h;refine x1y hb (thn (he pins s σ H _ I h) fun u s1 ⟨x,H1,I1,rx,a,C,dx,fs,v,ex,ea,c,n,l,q⟩=>?_);subst ex;obtain rfl:u=Value.ref a:=rx;exact z3z I1 ea c n l fun u' s2 I2 ru=>⟨v,H1,I2,ru,q⟩
theorem ps_fld(ha:PE X o ta)(hv:PE X value tv)(hs:Jt value (some (.Attribute o f pos')) pos.line X.env=pure false):PS X (.Assign [.Attribute o f pos'] value pos) (sFld X.K ta tv f):=by
 intro pins s σ H D I h;refine plainObj_wpAny_Assign_Attribute (thn (hv pins s σ H _ I h) fun u s1 ⟨y,H1,I1,ry,q⟩=>thn (ha pins s1 σ H1 _ I1 q) fun ov s2 ⟨x,H2,I2,rx,a,C,dx,fs,ex,ea,c,n,l,q2⟩=>?_) hs;subst ex;obtain rfl:ov=Value.ref a:=rx;exact z4a I2 ea c n l ry fun s3 I3=>⟨σ,_,I3,q2⟩
end
section
variable{X:Cx}{pins:List (Addr×Obj)}{σ:St}{H:Hp}{s:Shared}{A:Around}{E:Value->Shared->Prop}{Q:Value->Shared->Prop}{c:Value}{b:Bool}
inductive TyOf (K:Ak) (H:Hp):V->Value->Prop where
 |non:TyOf K H .non (.type "NoneType")
 |bl (x:Bool):TyOf K H (.bl x) (.type "bool")
 |int (i:Int):TyOf K H (.int i) (.type "int")
 |str (x:Str):TyOf K H (.str x) (.type "str")
 |flt (x:UInt64):TyOf K H (.flt x) (.type "float")
 |lst {a:Addr} {xs:List V} (e:H a=some (.lst xs)):TyOf K H (.ref a) (.type "list")
 |frz {a:Addr} {o:Obj} {xs:List V} (e:H a=some (.frz o (.lst xs))):TyOf K H (.ref a) (.type "list")
 |tup {a:Addr} {xs:List V} (e:H a=some (.tup xs)):TyOf K H (.ref a) (.type "tuple")
 |dK {a:Addr} {kvs:List (Key×V)} (e:H a=some (.dK kvs)):TyOf K H (.ref a) (.type "dict")
 |dT {a:Addr} {kvs:List (List Key×V)} (e:H a=some (.dT kvs)):TyOf K H (.ref a) (.type "dict")
 |ins {a C dx:Addr} {fs:List (Str×V)} (e:H a=some (.ins C dx fs)) (cl:Cls K C) (ha:Fu K (.ref C) "__class__" = some (some (.builtin "object.__class__")))
   (hn:W.specialIn K (.builtin "object.__class__") "__get__" = some (some (.builtin "getset_descriptor.__get__"))) (htk:W.takesIn K (.builtin "object.__class__")=some true)
   (hm:W.mroIn K C (.type "object")=some true):TyOf K H (.ref a) (.ref C)
theorem z5r(I:Inv X pins σ H s)(rx:RelV x u)(ty:TyOf X.K H x t)(e:W.kitOne X.K t c=some b)(h:∀tk,Q (.bool b) { s with toks:=tk }):
  wpAny (model X.prog X.w) A (call (.builtin "isinstance") [u,c]) Q E s:=by
 cases ty with
 |non=>cases(show u=Value.none from rx);exact Hg W.kitx_none I.kIn True.intro e (fun z=>nomatch z) h
 |bl y=>cases(show u=Value.bool y from rx);exact Hg W.kitx_bool I.kIn True.intro e (fun z=>nomatch z) h
 |int i=>obtain⟨t,q⟩:=(show ∃t,u=Value.int i t from rx);cases q;exact Hg W.kitx_int I.kIn True.intro e (fun z=>nomatch z) h
 |str y=>obtain⟨t,q⟩:=(show ∃t,u=Value.str y t from rx);cases q;exact Hg W.kitx_str I.kIn True.intro e (fun z=>nomatch z) h
 |flt y=>obtain⟨t,q⟩:=(show ∃t,u=Value.float y t from rx);cases q;exact Hg W.kitx_float I.kIn True.intro e (fun z=>nomatch z) h
 | @lst a xs ea =>
  cases(show u=Value.ref a from rx);obtain⟨_,_,n,_,h1⟩:=(show ObjOk X.prog X.w H s.heap a (.lst xs) from I.hok a _ ea)
  exact Hg W.kitx_list I.kIn ⟨_,h1,rfl⟩ e (fun z=>nomatch z) h
 | @frz a ob xs ea =>
  cases(show u=Value.ref a from rx);obtain⟨_,_,_,n,_,h1⟩:=(show ObjOk X.prog X.w H s.heap a (.frz ob (.lst xs)) from I.hok a _ ea)
  exact Hg W.kitx_list I.kIn ⟨_,h1,rfl⟩ e (fun z=>nomatch z) h
 | @tup a xs ea =>
  cases(show u=Value.ref a from rx);obtain⟨_,_,_,p⟩:=(show ObjOk X.prog X.w H s.heap a (.tup xs) from I.hok a _ ea)
  obtain⟨o,h1,h2,_⟩:=p;exact Hg W.kitx_tuple I.kIn ⟨o,h1,h2⟩ e (fun z=>nomatch z) h
 | @dK a kvs ea =>
  cases(show u=Value.ref a from rx);obtain⟨_,_,vs,_,p⟩:=(show ObjOk X.prog X.w H s.heap a (.dK kvs) from I.hok a _ ea)
  obtain⟨o,es,ep,h1,h2,_⟩:=p;exact Hg W.kitx_dict I.kIn ⟨o,h1,h2.1⟩ e (fun z=>nomatch z) h
 | @dT a kvs ea =>
  cases(show u=Value.ref a from rx);obtain⟨_,_,xs,_,o,es,ep,h1,h2,_⟩:=(show ObjOk X.prog X.w H s.heap a (.dT kvs) from I.hok a _ ea)
  exact Hg W.kitx_dict I.kIn ⟨o,h1,h2.1⟩ e (fun z=>nomatch z) h
 | @ins a C dx fs ea cl ha hn htk hm =>
  cases(show u=Value.ref a from rx);obtain⟨mA,O,_⟩:=q8s I.hok ea;obtain⟨od,J,_⟩:=O.look;exact Hg (W.kitx_own (cl.get _) cl.hd ha hn htk hm) I.kIn J e (fun z=>nomatch z) h
end
open PySem PySem.Spec PyProof.Rows
structure Room (k:Nat) (A:Around):Prop where
 hd:A.handled=none
 dp:A.depth+3*k+5<recursionLimit
 un:A.units+16*k+200<cLine
 gd:A.guards=some []
theorem Room.mono(r:Room k A)(h:j<=k):Room j A:=⟨r.hd,by have:=r.dp;lia,by have:=r.un;lia,r.gd⟩
theorem Room.deeper(r:Room (k+1) A)(env:Env):Room k (A.deeper env) :=
 ⟨r.hd,by have:=r.dp;show A.depth+1+3*k+5<_;lia,by have:=r.un;show A.units+3+16*k+200<_;lia,r.gd⟩
theorem Room.in1(r:Room (k+1) A):Room k A.in1 :=
 ⟨r.hd,by have:=r.dp;show A.depth+3*k+5<_;lia,by have:=r.un;show A.units+1+16*k+200<_;lia,r.gd⟩
theorem z4b{A:Around}:(A.under (.builtin "type.__call__" ⟨.ref C::us,kw⟩)).depth=A.depth+1:=by
 first|rfl|simp[Oo,Code.weight,Code.isCreation,Code.isGuard,Code.isCaller,Code.frames,Sa,guardIds]
theorem z4c{A:Around}:(A.under (.builtin "type.__call__" ⟨.ref C::us,kw⟩)).units=A.units+1:=by
 first|rfl|simp[Oo,Code.cUnits,Code.frames,Sa]
theorem make_guards{A:Around}:(A.under (.builtin "type.__call__" ⟨.ref C::us,kw⟩)).guards=A.guards:=by
 have:(Code.builtin "type.__call__" ⟨.ref C::us,kw⟩).guards=[]:=by simp[Code.guards,Code.isGuard,guardIds]
 unfold Oo;rw[this];cases e:A.guards<;>simp[pushGuards,e]
theorem Room.make(r:Room (k+1) A)(C:Addr)(us:List Value)(kw:List (Str×Value)):Room k (A.under (.builtin "type.__call__" ⟨.ref C::us,kw⟩)) :=
 ⟨r.hd,by have:=r.dp;rw[z4b];lia,by have:=r.un;rw[z4c];lia,make_guards.trans r.gd⟩
theorem Room.depth(r:Room k A):A.depth<recursionLimit:=by have:=r.dp;lia
theorem Room.units(r:Room k A):A.units+64<cLine:=by have:=r.un;lia
def tNil:TA:=fun _ H Q=>Q [] H
def tCons(ta:TE)(tr:TA):TA:=fun σ H Q=>ta σ H fun x H1=>tr σ H1 fun xs H2=>Q (x::xs) H2
section
variable{X:Cx}{e:Expr}{es:List Expr}{te:TE}{t:TA}{pos:Pos}
theorem q0e:PA X [] tNil:=fun _ _ _ _ H Q I h=>Nu ⟨[],H,I,.nil,h⟩
theorem q0a(ha:PE X e te)(hr:PA X es t)(hs:Bg (e::es) X.env=(false,eval e X.env)::Bg es X.env:=by rfl):PA X (e::es) (tCons te t):=by
 intro pos pins s σ H Q I h;rw[hs];refine Jx (thn (ha pins s σ H _ I h) fun u s1 ⟨x,H1,I1,r1,q1⟩=>?_);exact thn (hr pos pins s1 σ H1 _ I1 q1) fun us s2 ⟨xs,H2,I2,r2,q2⟩=>⟨x::xs,H2,I2,.cons r1 r2,q2⟩
def tTup(t:TA):TE:=fun σ H Q=>t σ H fun xs H1=>xs.length<=sizeLine/\∀p,H1 p=none->Q (.ref p) (upd H1 p (.tup xs))
def tLst(t:TA):TE:=fun σ H Q=>t σ H fun xs H1=>xs.length<=sizeLine/\∀p,H1 p=none->Q (.ref p) (upd H1 p (.lst xs))
theorem q1g{x1}(h:PA X es t):PE X (.Tuple es x1 pos) (tTup t):=by
 intro pins s σ H Q I hq;refine wpAny_Tuple_spliced (thn (h pos pins s σ H _ I hq) fun us s1 ⟨xs,H1,I1,r,z,q⟩=>⟨by rw[<- r.length];exact z,?_⟩);have hf:=I1.hok.fresh (Aq _);refine⟨.ref s1.heap.objs.size,upd H1 s1.heap.objs.size (.tup xs),I1.laid (t':=s1.toks) (fun b u e=>Ah _ e) (Aq _) ?_,rfl,q _ hf⟩;exact⟨z,us,r,⟨_,Ar _ rfl,rfl,_,rfl⟩⟩
theorem q1t(h:PA X es t):PE X (.List es pos) (tLst t):=by
 intro pins s σ H Q I hq;refine wpAny_List_spliced (thn (h pos pins s σ H _ I hq) fun us s1 ⟨xs,H1,I1,r,z,q⟩=>⟨by rw[<- r.length];exact z,?_⟩);have hf:=I1.hok.fresh (Aq _);refine⟨.ref s1.heap.objs.size,upd H1 s1.heap.objs.size (.lst xs),I1.laid (t':=s1.toks) (fun b u e=>Ah _ e) (Aq _) ?_,rfl,q _ hf⟩;exact⟨z,us,0,r,Ar _ rfl⟩
end
abbrev Sp:=List V->Hp->VK->XK->Prop
abbrev CXT:=List Env->Hp->Shared->XK->Value->Shared->Prop
structure Env0 (P:Program) (w:World) (K:Ak) (mg:Str->Option Value) (base:Heap) (A:Around) (outer:List Env) (s:Shared) (H:Hp):Prop where
 frames:A.frames=some outer
 mod:Mod K mg base
 bs:∀b o,base.get? b=some o->s.heap.get? b=some o/\H b=none
 bsz:base.objs.size<=s.heap.objs.size
 funs:s.heap.FunFrames base outer
 frf:∀b∈frs outer,H b=none
 hok:HOk P w H s.heap
 bare:Lo s.gens
def CE(outer:List Env)(P:Program)(w:World)(H:Hp)(s:Shared)(Q:VK)(u:Value)(s':Shared):Prop :=
 ∃v H',s'.os=s.os/\Lo s'.gens/\Un (frs outer) [] H H' s.heap s'.heap/\HOk P w H' s'.heap/\RelV v u/\Q v H'
def CR(CX:CXT)(outer:List Env)(P:Program)(w:World)(H:Hp)(s:Shared)(Q:VK)(E:XK)(r:Result)(s':Shared):Prop :=
 match r with
 |.ok (.ret u)=>CE outer P w H s Q u s'
 |.ok _=>False
 |.error e=>CX outer H s E e s'
structure FnOk (P:Program) (w:World) (K:Ak) (mg:Str->Option Value) (base:Heap) (CX:CXT) (k:Nat) (f:Addr) (fd:FuncData) (ps:List Str) (sp:Sp):Prop where
 len:∀vs H Q E,sp vs H Q E->vs.length=ps.length
 run:∀(A:Around) (outer:List Env) (s:Shared) (H:Hp) (args:Args) (us:List Value) (vs:List V) (Q:VK) (E:XK),Room k A->Env0 P w K mg base A outer s H->Qk s fd args (ps.zip us)->Vals vs us->sp vs H Q E ->
  Ew (model P w) A (.call (.ref f) args) (CR CX outer P w H s Q E) s
theorem FnOk.mono{K:Ak}(F:FnOk P w K mg base CX j f fd ps sp)(h:j<=k):
  FnOk P w K mg base CX k f fd ps sp:=⟨F.len,fun A outer s H args us vs Q E hr=>F.run A outer s H args us vs Q E (hr.mono h)⟩
theorem FnOk.imp{K:Ak}(F:FnOk P w K mg base CX k f fd ps sp)(h:∀vs H Q E,sp' vs H Q E->sp vs H Q E):FnOk P w K mg base CX k f fd ps sp' :=
 ⟨fun vs H Q E q=>F.len vs H Q E (h _ _ _ _ q),fun A outer s H args us vs Q E hr he hb hv hs=>F.run A outer s H args us vs Q E hr he hb hv (h _ _ _ _ hs)⟩
theorem Env0.make{K:Ak}(e:Env0 P w K mg base A outer s H)(C:Addr)(us:List Value)(kw:List (Str×Value)):
  Env0 P w K mg base (A.under (.builtin "type.__call__" ⟨.ref C::us,kw⟩)) outer s H:=⟨by first|exact e.frames|(simpa[Oo,Code.envs,Sa,pushEnvs] using e.frames),e.mod,e.bs,e.bsz,e.funs,e.frf,e.hok,e.bare⟩
theorem Env0.in1{K:Ak}(e:Env0 P w K mg base A outer s H):
  Env0 P w K mg base A.in1 outer s H:=⟨e.frames,e.mod,e.bs,e.bsz,e.funs,e.frf,e.hok,e.bare⟩
section
variable{X:Cx}{pins:List (Addr×Obj)}{σ:St}{H:Hp}{s s':Shared}
theorem Inv.env0(I:Inv X pins σ H s):Env0 X.prog X.w X.K X.mg X.base X.A X.stack s H :=
 ⟨I.ok.frames,I.ok.mod,I.bs,Bz I.ok.bsz I.sz,I.stack,I.stkFree,I.hok,I.bare⟩
theorem Inv.after(I:Inv X pins σ H s)(h:CE X.stack X.prog X.w H s Q u s'):EP X pins σ Q u s':=by
 obtain⟨v,H',os,bare,un,hok,r,q⟩:=h;obtain⟨hh,g,d,t,os'⟩:=s';obtain rfl:os'=s.os:=os;exact⟨v,H',I.call (h':=hh) (g':=g) (d':=d) (t':=t) un hok bare (fun b z=>absurd z (by simp)),r,q⟩
end
def tCall(sp:Sp)(dvs:List V)(E:XK)(t:TA):TE:=fun σ H Q=>t σ H fun vs H1=>sp (vs++dvs) H1 Q E
def tMeth(C:Addr)(m:Str)(sp:Sp)(dvs:List V)(E:XK)(ta:TE)(t:TA):TE:=fun σ H Q=>ta σ H fun x H1=>∃a dx fs,x=.ref a/\H1 a=some (.ins C dx fs)/\fs.lookup m=none /\
 t σ H1 fun vs H2=>sp (x::(vs++dvs)) H2 Q E
def tMake(C:Addr)(sp:Sp)(dvs:List V)(E:XK)(t:TA):TE:=fun σ H Q=>t σ H fun vs H1=>∀x dx,H1 x=none->H1 dx=none->dx≠x ->
 sp (.ref x::(vs++dvs)) (upd (upd H1 dx (.own x)) x (.ins C dx [])) (fun v H2=>v=.non/\Q (.ref x) H2) E
def Binds(K:Ak)(fd:FuncData)(ps:List Str)(ds:List Value):Prop :=
 ∀(s:Shared) (us:List Value),K.In s.heap->(us++ds).length=ps.length->Qk s fd ⟨us,[]⟩ (ps.zip (us++ds))
theorem Binds.all{K:Ak}(h:∀us:List Value,us.length=ps.length->bindArgs fd ⟨us,[]⟩=pure (ps.zip us)):Binds K fd ps []:=fun s us _ hl=>by
 rw[El] at hl ⊢;exact .of_eq (h us hl)
def Passes(CX:CXT)(X:Cx)(E:XK):Prop:=∀(pins:List (Addr×Obj)) (σ:St) (H:Hp) (s:Shared) (e:Value) (s':Shared),Inv X pins σ H s->CX X.stack H s E e s'->X.xe e s'
section
variable{X:Cx}{CX:CXT}{k:Nat}{f C:Addr}{fd:FuncData}{ps:List Str}{sp:Sp}{dvs:List V}{ds:List Value}{E:XK}{x m:Str}{p pos apos:Pos}{e o:Expr}{es:List Expr}{ta:TE}{t:TA}
theorem z2v{σ:St}(F:FnOk X.prog X.w X.K X.mg X.base CX k f fd ps sp)(hr:Room k X.A)(hb:Binds X.K fd ps ds)(hd:Vals dvs ds)(hx:Passes CX X E)(I:Inv X pins σ H s)(r:Vals vs us)(h:sp (vs++dvs) H Q E):wpAny (model X.prog X.w) X.A (call (.ref f) us) (EP X pins σ Q) X.xe s:=by
 have r2:=r.append hd;have hl:(us++ds).length=ps.length:=by rw[<- r2.length];exact F.len _ _ _ _ h
 refine Qz (Hj (F.run X.A X.stack s H ⟨us,[]⟩ (us++ds) (vs++dvs) Q E hr I.env0 (hb s us I.kIn hl) r2 h) fun r s' hq=>?_);cases r with
 |error e=>exact hx pins σ H s e s' I hq
 |ok fl =>
  cases fl with
  |ret u=>exact I.after hq
  |next=>exact False.elim hq
  |brk=>exact False.elim hq
  |cont=>exact False.elim hq
theorem x1z(F:FnOk X.prog X.w X.K X.mg X.base CX k f fd ps sp)(hr:Room k X.A)(hg:Gl X x)(hm:X.mg x=some (.ref f))(hk:Hi X.K (.ref f)=true)(hb:Binds X.K fd ps ds)(hd:Vals dvs ds)(hx:Passes CX X E)(ha:PA X (e::es) t)(hdb:(x==("__debug__" : Str))=false:=by decide)(he:Bg (e::es) X.env=(false,eval e X.env)::Bg es X.env:=by rfl)(hpl:(Fi pos (Bg es X.env)).any (·.1)=false:=by rfl):
  PE X (.Call (.Name x p) (e::es) [] pos) (tCall sp dvs E t):=by
 intro pins s σ H Q I h;refine Hz (z1p I hg hm ?_ hdb);refine Sb I.ok.mod.kin hk (thn (ha pos pins s σ H _ I h) fun us s1 ⟨vs,H1,I1,r,q⟩=>⟨I1.kIn,?_⟩) he hpl;exact z2v F hr hb hd hx I1 r q
theorem z8w(F:FnOk X.prog X.w X.K X.mg X.base CX k f fd ps sp)(hr:Room k X.A)(hg:Gl X x)(hm:X.mg x=some (.ref f))(hk:Hi X.K (.ref f)=true)(hb:Binds X.K fd ps ds)(hd:Vals dvs ds)(hx:Passes CX X E)(hdb:(x==("__debug__" : Str))=false:=by decide):PE X (.Call (.Name x p) [] [] pos) (tCall sp dvs E tNil):=by
 intro pins s σ H Q I h;refine Hz (z1p I hg hm ?_ hdb);exact W.callWith_K0 I.kIn hk (z2v F hr hb hd hx I .nil h)
theorem x2a{pl:Sem Bool}(he:PE X o ta)(c:Cls X.K C)(hm:Meth X.K C m f)(F:FnOk X.prog X.w X.K X.mg X.base CX k f fd ps sp)(hr:Room k X.A)(hb:Binds X.K fd ps ds)(hd:Vals dvs ds)(hx:Passes CX X E)(ha:PA X (e::es) t)(hst:Bg (e::es) X.env=(false,eval e X.env)::Bg es X.env:=by rfl)(hpl:(Fi pos (Bg es X.env)).any (·.1)=false:=by rfl)(ht:eval (.Call (.Attribute o m apos) (e::es) [] pos) X.env=(do
   let ov<-eval o X.env
   Oj apos.atName
   let (f,first)<-Jl [ov] (Nb ov m pl)
   Tk pos f first (Fi pos (Bg (e::es) X.env)) (Li pos (Ie [] X.env))):=by rfl):
  PE X (.Call (.Attribute o m apos) (e::es) [] pos) (tMeth C m sp dvs E ta t):=by
 intro pins s σ H Q I h;refine Uc (thn (he pins s σ H _ I h) fun u s1 ⟨x,H1,I1,rx,a,dx,fs,ex,ea,l,q⟩=>?_) ht;subst ex;obtain rfl:u=Value.ref a:=rx;refine q7o I1 ea c hm l ?_;refine Sb I.ok.mod.kin hm.kp (thn (ha pos pins s1 σ H1 _ I1 q) fun us s2 ⟨vs,H2,I2,r,q2⟩=>⟨I2.kIn,?_⟩) hst hpl;exact z2v (vs:=.ref a::vs) F hr hb hd hx I2 (.cons rfl r) q2
theorem z8x(he:PE X o ta)(c:Cls X.K C)(hm:Meth X.K C m f)(F:FnOk X.prog X.w X.K X.mg X.base CX k f fd ps sp)(hr:Room k X.A)(hb:Binds X.K fd ps ds)(hd:Vals dvs ds)(hx:Passes CX X E)(ht:eval (.Call (.Attribute o m apos) [] [] pos) X.env=(do
   let ov<-eval o X.env
   Oj apos.atName
   let (f,first)<-Jl [ov] (Nb ov m pl)
   Tk pos f first (Fi pos (Bg [] X.env)) (Li pos (Ie [] X.env))):=by rfl):
  PE X (.Call (.Attribute o m apos) [] [] pos) (tMeth C m sp dvs E ta tNil):=by
 intro pins s σ H Q I h;refine Uc (thn (he pins s σ H _ I h) fun u s1 ⟨x,H1,I1,rx,a,dx,fs,ex,ea,l,q⟩=>?_) ht;subst ex;obtain rfl:u=Value.ref a:=rx;refine q7o I1 ea c hm l ?_;exact W.callWith_K0 I1.kIn hm.kp (z2v (vs:=[.ref a]) F hr hb hd hx I1 (.cons rfl .nil) q)
structure Mk (K:Ak) (C f:Addr):Prop where
 makes:Uu K C=true
 init:Fu K (.ref C) "__init__" = some (some (.ref f))
 fn:Ub K (.ref f)=true
 kp:Hi K (.ref C)=true
theorem z8y{σ:St}(M:Mk X.K C f)(F:FnOk X.prog X.w X.K X.mg X.base CX k f fd ps sp)(hr:Room (k+1) X.A)(hb:Binds X.K fd ps ds)(hd:Vals dvs ds)(hx:Passes CX X E)(I:Inv X pins σ H s)(r:Vals vs us)(h:∀x dx,H x=none->H dx=none->dx≠x->sp (.ref x::(vs++dvs)) (upd (upd H dx (.own x)) x (.ins C dx [])) (fun v H2=>v=.non/\Q (.ref x) H2) E):
  wpAny (model X.prog X.w) X.A (call (.ref C) us) (EP X pins σ Q) X.xe s:=by
 have hq:=h (s.heap.objs.size+1) s.heap.objs.size (I.hok.fresh (Ig _)) (I.hok.fresh (Aq _)) (Bf (Gf _));have I2:=Inv.made (C:=C) I;have r2:Vals (V.ref (s.heap.objs.size+1)::(vs++dvs)) (Value.ref (s.heap.objs.size+1)::(us++ds)):=.cons rfl (r.append hd);have hl:(Value.ref (s.heap.objs.size+1)::us++ds).length=ps.length:=by
  have e:=r2.length;rw[F.len _ _ _ _ hq] at e;exact e.symm
 refine Qz (z8v I.kIn M.makes M.init (beq_iff_eq.mp M.fn) (Hj (F.run _ X.stack _ _ ⟨Value.ref (s.heap.objs.size+1)::us,[]⟩ (Value.ref (s.heap.objs.size+1)::(us++ds)) _ _ E (hr.make C us [])
  (I2.env0.make C us []) (hb _ (Value.ref (s.heap.objs.size+1)::us) I2.kIn hl) r2 hq) fun r s' hq'=>?_))
 cases r with
 |error e=>exact hx pins σ _ _ e s' I2 hq'
 |ok fl =>
  cases fl with
  |ret u =>
   obtain⟨v,H',I3,rv,ev,q3⟩:=I2.after hq';subst ev;exact⟨rv,⟨V.ref (s.heap.objs.size+1),H',I3,rfl,q3⟩⟩
  |next=>exact False.elim hq'
  |brk=>exact False.elim hq'
  |cont=>exact False.elim hq'
theorem x2b(M:Mk X.K C f)(F:FnOk X.prog X.w X.K X.mg X.base CX k f fd ps sp)(hr:Room (k+1) X.A)(hg:Gl X x)(hm:X.mg x=some (.ref C))(hb:Binds X.K fd ps ds)(hd:Vals dvs ds)(hx:Passes CX X E)(ha:PA X (e::es) t)(hdb:(x==("__debug__" : Str))=false:=by decide)(he:Bg (e::es) X.env=(false,eval e X.env)::Bg es X.env:=by rfl)(hpl:(Fi pos (Bg es X.env)).any (·.1)=false:=by rfl):
  PE X (.Call (.Name x p) (e::es) [] pos) (tMake C sp dvs E t):=by
 intro pins s σ H Q I h;refine Hz (z1p I hg hm ?_ hdb);refine Sb I.ok.mod.kin M.kp (thn (ha pos pins s σ H _ I h) fun us s1 ⟨vs,H1,I1,r,q⟩=>⟨I1.kIn,?_⟩) he hpl;exact z8y M F hr hb hd hx I1 r q
end
structure FnScope (N P:List Str) (sc:Scope):Prop where
 kind:sc.kind=.function
 co:sc.isCoroutine=false
 gen:sc.isGenerator=false
 nd:N.Nodup
 pre:N.take P.length=P
 par:∀x∈P,sc.names.lookup x=some .local\/sc.names.lookup x=some .cell
 nofree:∀y∈sc.names,y.2≠.free
theorem q9v{kindOf:Str->Option NameKind}:∀{binds:List (Str×Value)} {m:Str->Option Value},(∀v,(x,v)∉binds)->bindL kindOf binds m x=m x
 |[],_,_=>rfl
 |(n,v)::r,m,h=>by
  unfold bindL;rw[q9v fun w hw=>h w (An _ hw)];split
  ·have:x≠n:=by rintro rfl;exact h v At
   simp[this]
  ·rfl
theorem q9w{kindOf:Str->Option NameKind}:∀{binds:List (Str×Value)} {m:Str->Option Value},(∀v,(x,v)∉binds)->bindC kindOf binds m x=m x
 |[],_,_=>rfl
 |(n,v)::r,m,h=>by
  unfold bindC;rw[q9w fun w hw=>h w (An _ hw)];split
  ·rfl
  ·have:x≠n:=by rintro rfl;exact h v At
   simp[this]
theorem q9x{kindOf:Str->Option NameKind}{x:Str}{v:Value}:∀{P:List Str} {vs:List Value} {i:Nat} {m:Str->Option Value},P.Nodup->P[i]?=some x->vs[i]?=some v->kindOf x=some .local ->
  bindL kindOf (P.zip vs) m x=some v
 |[],_,_,_,_,h,_,_=>by simp at h
 |_::_,[],_,_,_,_,h,_=>by simp at h
 |p::P,w::vs,0,m,nd,h1,h2,hk=>by
  simp at h1 h2;subst h1;subst h2;show bindL kindOf ((p,w)::P.zip vs) m p=_;unfold bindL;rw[q9v fun v hv=>(Bp.mp nd).1 (Pk hv).1,if_pos hk];simp
 |p::P,w::vs,i+1,m,nd,h1,h2,hk=>by
  show bindL kindOf ((p,w)::P.zip vs) m x=_;unfold bindL;exact q9x (i:=i) (Bp.mp nd).2 (by simpa using h1) (by simpa using h2) hk
theorem q9y{kindOf:Str->Option NameKind}{x:Str}{v:Value}:∀{P:List Str} {vs:List Value} {i:Nat} {m:Str->Option Value},P.Nodup->P[i]?=some x->vs[i]?=some v->kindOf x≠some .local ->
  bindC kindOf (P.zip vs) m x=some v
 |[],_,_,_,_,h,_,_=>by simp at h
 |_::_,[],_,_,_,_,h,_=>by simp at h
 |p::P,w::vs,0,m,nd,h1,h2,hk=>by
  simp at h1 h2;subst h1;subst h2;show bindC kindOf ((p,w)::P.zip vs) m p=_;unfold bindC;rw[q9w fun v hv=>(Bp.mp nd).1 (Pk hv).1,if_neg hk];simp
 |p::P,w::vs,i+1,m,nd,h1,h2,hk=>by
  show bindC kindOf ((p,w)::P.zip vs) m x=_;unfold bindC;exact q9y (i:=i) (Bp.mp nd).2 (by simpa using h1) (by simpa using h2) hk
def start(N:List Str)(vs:List V):St:=vs.map some++List.replicate (N.length-vs.length) none
def cxOf(CX:CXT)(P:Program)(w:World)(K:Ak)(mg:Str->Option Value)(base:Heap)(N:List Str)(qual:Str)(scope:Scope)(f:Addr)(cd:Value)(A:Around)(outer:List Env)(s:Shared)(H:Hp)(E:XK):Cx where
 prog:=P
 w:=w
 K:=K
 mg:=mg
 base:=base
 A:=A.deeper (Jy qual scope s.heap.objs.size f cd)
 N:=N
 s₀:=s
 H₀:=H
 env:=Jy qual scope s.heap.objs.size f cd
 outer:=outer
 stack:=Jy qual scope s.heap.objs.size f cd::outer
 ex:=[]
 calm:=true
 fn:=fun _=>true
 pn:=[]
 xe:=fun e s'=>wpAny (model P w) (A.deeper (Jy qual scope s.heap.objs.size f cd)) (leaving (Jy qual scope s.heap.objs.size f cd) e) (fun _ s''=>CX outer H s E e s'') (fun e' s''=>CX outer H s E e' s'') s'
theorem z2w{sc:Scope}(h:sc.names.lookup x=some .cell):∃c,(cellsFrom n sc.names []).lookup x=some c:=by
 have q:=Tl sc.names n [] (.inl h);exact Op.mp q
theorem z5s{K:Ak}(S:FnScope N ps scope)(hd:A.handled=none)(e0:Env0 P w K mg base A outer s H)(hl:vs.length=ps.length)(r:Vals vs us)(x:InCallC s s.heap.objs.size (bindL (Jy qual scope s.heap.objs.size f cd).kindOf (ps.zip us) fun _=>none) (cellsFrom (s.heap.objs.size+1) scope.names []) (bindC (Jy qual scope s.heap.objs.size f cd).kindOf (ps.zip us) fun _=>none) s1):
  Inv (cxOf CX P w K mg base N qual scope f cd A outer s H E) [] (start N vs) H s1:=by
 have hpl:ps.length<=N.length:=by have:=congrArg List.length S.pre;rw[Bm] at this;lia
 obtain⟨h1,tk,rfl,hk⟩:=x.done;have noA:∀b:Addr,b∉(cxOf CX P w K mg base N qual scope f cd A outer s H E).ex:=fun b z=>absurd (show b∈([]:List Addr) from z) (by simp)
 refine⟨⟨e0.mod,S.kind,rfl,rfl,Aq _,fun y z c h1 h2=>?_,fun y hy=>?_,fun y c _ h=>?_,fun _=>hd,Around.frames_deeper e0.frames,.inr ⟨rfl,rfl⟩,fun b z=>absurd z (noA b),e0.bs,e0.bsz,fun b _ _=>noA b,fun b z=>absurd z (noA b),e0.funs,e0.frf⟩,
  rfl,e0.bare,Un.kept hk,⟨_,x.toInCall.ns,fun i y v h1 h2 h3=>?_⟩,fun y c h=>⟨_,x.cell y c h⟩,e0.hok.fresh (Aq _),fun y c h=>?_,fun p hp=>absurd (show p∈([]:List (Addr×Obj)) from hp) (by simp),e0.hok.kept hk,?_⟩
 ·exact name_of_addr x.apart (Ff h1) (Ff h2)
 ·have hy:scope.names.lookup y=some .cell\/scope.names.lookup y=some .free:=hy;rcases hy with hy|hy
  ·exact z2w hy
  ·exact absurd rfl (S.nofree _ (Ff hy))
 ·exact Gm (x.above y c (Ff h))
 ·have hi:i<vs.length:=by
   unfold start at h2;by_cases hi:i<vs.length
   ·exact hi
   ·rw[Ef (by simpa using hi)] at h2;rw[List.getElem?_replicate] at h2;split at h2<;>cases h2
  have ha:vs[i]?=some v:=by
   unfold start at h2;rw[Cc (by simpa using hi),Ae] at h2;cases e:vs[i]? with
   |none=>simp_all
   |some a=>grind
  obtain⟨u,hu,rv⟩:=r.get ha;have hp:ps[i]?=some y:=by
   rw[<- S.pre,List.getElem?_take_of_lt (by lia)];exact h1
  have ndP:ps.Nodup:=by rw[<- S.pre];exact S.nd.sublist (Ks _ _)
  refine⟨u,rv,?_⟩;rcases S.par y (Ag hp) with k|k
  ·exact .inl ⟨k,q9x ndP hp hu k⟩
  ·obtain⟨c,e⟩:=z2w k;refine .inr ⟨.inl k,c,e,?_⟩;have q:=x.cell y c e;rw[q9y ndP hp hu (by show scope.names.lookup y≠_;rw[k];decide)] at q;exact q
 ·exact e0.hok.fresh (Gm (x.above y c (Ff h)))
 ·unfold start;show _=N.length;rw[Al,Ab,Ql];lia
theorem fn_of{K:Ak}{kV:Value}(lk:K.lookup f=some ⟨oc,od,.func (Ip name qual params body scope dV kV doc pm an cdv ct),osl⟩)(hcd:Lj K cdv qual=true)(S:FnScope N ps scope)(len:∀vs H Q E,sp vs H Q E->vs.length=ps.length)(hbody:∀(A:Around) (outer:List Env) (s:Shared) (H:Hp) (vs:List V) (Q:VK) (E:XK),Room k (A.deeper (Jy qual scope s.heap.objs.size f cdv))->sp vs H Q E ->
   ∃t,PSs (cxOf CX P w K mg base N qual scope f cdv A outer s H E) body t/\t { nx:=fun _ H'=>Q .non H',rt:=Q } (start N vs) H):
  FnOk P w K mg base CX (k+1) f (Ip name qual params body scope dV kV doc pm an cdv ct) ps sp:=by
 refine⟨len,fun A outer s H args us vs Q E hr e0 hb r hsp=>?_⟩;have hl:=len _ _ _ _ hsp;have KX:=e0.mod.kin.keeps fun b o e=>(e0.bs b o e).1;have lim:=e0.mod.nolimit.keeps fun b o e=>(e0.bs b o e).1;have hkind:∀y∈ps.zip us,scope.names.lookup y.1=some .local\/(scope.names.lookup y.1=some .cell/\((cellsFrom (s.heap.objs.size+1) scope.names []).lookup y.1).isSome=true):=fun⟨n,v⟩ hy=>by
  rcases S.par n (Pk hy).1 with q|q
  ·exact .inl q
  ·exact .inr ⟨q,Tl _ _ _ (.inl q)⟩
 refine codeAny_call_function hr.depth (KX _ _ lk) rfl S.co S.gen rfl (W.codeRec_of KX hcd) (hb _ _ _ _ ?_);refine wpAny_newFunctionEnv_cells S.kind hkind fun env he s1 x=>?_;subst he;refine⟨lim.keeps x.toInCall.keep,codeAny_func ?_⟩;obtain⟨t,ht,hq⟩:=hbody A outer s H vs Q E (hr.deeper _) hsp;have I:Inv (cxOf CX P w K mg base N qual scope f cdv A outer s H E) [] (start N vs) H s1:=z5s S hr.hd e0 hl r x;refine Cq (ht [] s1 (start N vs) H _ I hq) (fun fl s' hs=>?_) fun e s' hs=>hs;have fin:∀{σ':St} {H':Hp} {v:V} {u:Value},Inv (cxOf CX P w K mg base N qual scope f cdv A outer s H E) [] σ' H' s'->RelV v u->Q v H'->CE outer P w H s Q u s' :=
  fun{σ' H' v u} J rv q=>⟨v,H',J.os,J.bare,J.base,J.hok,rv,q⟩
 cases fl with
 |ret u =>
  obtain⟨v,σ',H',J,rv,q⟩:=hs;exact fin J rv q
 |next =>
  obtain⟨σ',H',J,q⟩:=hs;exact fin (v:=V.non) J rfl q
 |brk =>
  obtain⟨_,_,_,q⟩:=hs;exact False.elim q
 |cont =>
  obtain⟨_,_,_,q⟩:=hs;exact False.elim q
open PySem PySem.Spec PyProof.Rows
section
variable{X:Cx}{x:Str}{p pos:Pos}{e:Expr}{es:List Expr}{t:TA}{id T:String}{r:List V->Hp->VK->Prop}
def tCB(r:List V->Hp->VK->Prop)(t:TA):TE:=fun σ H Q=>t σ H fun vs H1=>r vs H1 Q
theorem q0m(hc:CallR X (.builtin id) r)(hg:Gl X x)(hm:X.mg x=none)(hv:Ft x=some (.builtin id))(ha:PA X (e::es) t)(hn:x ≠ "__name__" := by decide)(hdb:(x==("__debug__" : Str))=false:=by decide)(he:Bg (e::es) X.env=(false,eval e X.env)::Bg es X.env:=by rfl)(hpl:(Fi pos (Bg es X.env)).any (·.1)=false:=by rfl):PE X (.Call (.Name x p) (e::es) [] pos) (tCB r t):=by
 intro pins s σ H Q I h;refine Hz (q5r I hg hm hv ?_ hn hdb);exact PyProof.Rows.callWith_builtin1 (thn (ha pos pins s σ H _ I h) fun us s1 ⟨vs,H1,I1,r1,q1⟩=>hc pins s1 σ H1 vs us Q I1 r1 q1) he hpl
theorem q2l(hc:CallR X (.type T) r)(hg:Gl X x)(hm:X.mg x=none)(hv:Ft x=some (.type T))(ha:PA X (e::es) t)(hn:x ≠ "__name__" := by decide)(hdb:(x==("__debug__" : Str))=false:=by decide)(he:Bg (e::es) X.env=(false,eval e X.env)::Bg es X.env:=by rfl)(hpl:(Fi pos (Bg es X.env)).any (·.1)=false:=by rfl):PE X (.Call (.Name x p) (e::es) [] pos) (tCB r t):=by
 intro pins s σ H Q I h;refine Hz (q5r I hg hm hv ?_ hn hdb);exact Eb (thn (ha pos pins s σ H _ I h) fun us s1 ⟨vs,H1,I1,r1,q1⟩=>hc pins s1 σ H1 vs us Q I1 r1 q1) he hpl
end
end L2
namespace HT
open PySem PyProof.Rows
section
variable{prog:Program}{w:World}{A:Around}{E:Value->Shared->Prop}{s:Shared}
theorem cat_tup(ht:IsTup s.heap t vs.toArray)(hb:IsTup s.heap b ws.toArray)(hv:vs≠[])(h1:ws=[]->Q (.ref t) s)(h2:ws≠[]->Q (.ref s.heap.objs.size) { s with heap:=s.heap.push { cls:=.type "tuple",data:=.seq (vs++ws).toArray } })(hsz:vs.length+ws.length<=sizeLine):wpAny (model prog w) A (Ge .Add (.ref t) (.ref b)) Q E s:=by
 obtain⟨⟨cls,dd,data,sl⟩,ho,hc,n,hd⟩:=id ht;obtain⟨⟨cls2,dd2,data2,sl2⟩,ho2,hc2,n2,hd2⟩:=id hb;subst hc hd hc2 hd2;have e:vs.toArray++ws.toArray=(vs++ws).toArray:=by simp
 by_cases hw:ws=[]
 ·exact Sc ⟨_,ho,rfl⟩ ⟨_,ho2,rfl⟩ Oq Rl Kz Kp (Jz _ _)
   (tuple_addW1 t b vs.toArray ws.toArray n n2 dd dd2 sl sl2 (by simpa using hv) (by simp[hw])) ⟨ho,ho2,h1 hw⟩
 ·refine Sc ⟨_,ho,rfl⟩ ⟨_,ho2,rfl⟩ Oq Rl Kz Kp (Jz _ _)
   (tuple_addW2 t b vs.toArray ws.toArray n n2 dd dd2 sl sl2 (by simpa using hv) (by simpa using hw) (by rw[Az,Az];exact hsz)) ⟨ho,ho2,?_⟩
  rw[e];exact h2 hw
def sIx(n d:Nat):Option Int->Nat
 |none=>d
 |some v=>if v<0 then(v+(n:Int)).toNat else min v.toNat n
theorem z5t(v:Int)(n d:Nat):(if v<0 then max (v+(n:Int)) 0 else min v (n:Int))=((sIx n d (some v):Nat):Int):=by
 show(if v<0 then max (v+(n:Int)) 0 else min v (n:Int))=(((if v<0 then(v+(n:Int)).toNat else min v.toNat n):Nat):Int)
 by_cases hv:v<0
 ·grind
 ·grind
theorem z4d(lo hi:Option Int)(n:Nat):Oc lo hi 1 (n:Int)=(((sIx n 0 lo:Nat):Int),((sIx n n hi:Nat):Int)):=by
 refine Tm ?_ ?_
 ·cases lo with
  |none=>rfl
  |some v=>exact z5t v n 0
 ·cases hi with
  |none=>rfl
  |some v=>exact z5t v n n
theorem z4e(i j:Nat):Gz (i:Int) (j:Int) 1=j-i:=by
 unfold Gz;have h1:(1:Int)>0:=by lia
 simp only[h1,if_true,Int.ediv_one];split<;>lia
theorem q7p(p:IsPart v o)(h:Q o s):wpAny (model prog w) A (Cy.Slice.slicePartIndex v) Q E s:=by
 cases p with
 |none=>exact slicePart_none h
 |int i t=>exact slicePart_int h
theorem q3n{lo:Option Int}{n:Nat}(hs:s.heap.IsSliceOf sl vl vu .none)(pl:IsPart vl lo)(pu:IsPart vu hi)(h:Q (((sIx n 0 lo:Nat):Int),1,sIx n n hi-sIx n 0 lo) s):wpAny (model prog w) A (Cy.Slice.sliceApplied (.ref sl) (pure (n:Int))) Q E s:=by
 obtain⟨os,hos,hcs,hds⟩:=id hs;refine Aa (Aa (Cb hos hds rfl (Aa (Cb hos hds rfl (Aa (Cb hos hds rfl (Ad ?_)))))));refine Aa (slicePart_none ?_);refine Aa (q7p pl (Aa (q7p pu (Aa (Ad ?_)))));show wpAny _ _ (match Oc lo hi 1 (n:Int) with|(lo,hi)=>pure (lo,(1:Int),Gz lo hi 1)) _ _ s;rw[z4d lo hi n];show wpAny _ _ (pure (((sIx n 0 lo:Nat):Int),(1:Int),Gz ((sIx n 0 lo:Nat):Int) ((sIx n n hi:Nat):Int) 1)) _ _ s;rw[z4e];exact Ad h
theorem z8z(xs:Array Value)(i k:Nat):((List.range k).filterMap fun(m:Nat)=>xs[((i:Int)+(m:Int)*1).toNat]?).toArray=((xs.toList.drop i).take k).toArray:=by
 have e:(fun(m:Nat)=>xs[((i:Int)+(m:Int)*1).toNat]?)=fun m=>xs[i+m]?:=by grind
 rw[e];have:=pick_run xs i k;rw[Sd] at this;have e2:((fun x=>xs[x]?)∘fun x=>i+x)=fun m=>xs[i+m]?:=rfl;rw[e2] at this;rw[this]
theorem getItem_tuple_cut{lo:Option Int}(ht:IsTup s.heap t items)(hs:s.heap.IsSliceOf sl vl vu .none)(pl:IsPart vl lo)(pu:IsPart vu hi)(hw:¬(sIx items.size 0 lo=0/\sIx items.size items.size hi=items.size))(h:Q (.ref s.heap.objs.size) { s with heap:=s.heap.push { cls:=.type "tuple",data:=.seq ((items.toList.drop (sIx items.size 0 lo)).take (sIx items.size items.size hi-sIx items.size 0 lo)).toArray } })(hsz:items.size<=sizeLine):wpAny (model prog w) A (getItem (.ref t) (.ref sl)) Q E s:=by
 have htake:sizeOk (.seq ((items.toList.drop (sIx items.size 0 lo)).take (sIx items.size items.size hi-sIx items.size 0 lo)).toArray):=by
  show((items.toList.drop (sIx items.size 0 lo)).take (sIx items.size items.size hi-sIx items.size 0 lo)).toArray.size<=sizeLine;rw[Az,Bm,Dd,Fe];lia
 obtain⟨os,hos,hcs,hds⟩:=id hs;have hTs:s.TypeIs (.ref sl) "slice" := ⟨os,hos,hcs⟩
 unfold getItem;try with_reducible refine Ca ?_
 refine Aa (Ss ht.typeIs (by decide) ?_);refine Aa (Bs ht.typeIs Dk
  (Bo Dk ht.typeIs entry_tuple_getitem ?_ (Se _ _)))
 show wpAny _ _ (Je (.ref t) >>= _) _ _ s;refine Aa (tupleItemsOf_ ht ?_);refine Aa (Fj hTs ?_);refine Aa (q3n hs pl pu ?_);have hno:¬((((sIx items.size 0 lo:Nat):Int)==0&&(1:Int)==1&&(sIx items.size items.size hi-sIx items.size 0 lo)==items.size)=true):=by grind
 show wpAny _ _ (if (((sIx items.size 0 lo:Nat):Int)==0&&(1:Int)==1&&(sIx items.size items.size hi-sIx items.size 0 lo)==items.size)=true then _ else _) _ _ s;rw[if_neg hno,z8z];first
  |exact Aa (Br (Ad ⟨_,rfl,Ad h⟩) htake)
  |exact Aa (Br (Aa (Ad (Ad ⟨_,rfl,Ad h⟩))) htake)
  |exact Aa (Aa (Br (Ad (Ad ⟨_,rfl,Ad h⟩)) htake))
  |exact Aa (Aa (Br (Ad ⟨_,rfl,Ad h⟩) htake))
end
end HT
namespace L2
open PySem PySem.Spec PyProof.Rows
abbrev TO:=St->Hp->(Option Int->Hp->Prop)->Prop
def PO(X:Cx)(e:Option Expr)(t:TO):Prop :=
 ∀(pins:List (Addr×Obj)) (s:Shared) (σ:St) (H:Hp) (Q:Option Int->Hp->Prop),Inv X pins σ H s->t σ H Q ->
  wpAny (model X.prog X.w) X.A (evalPart e X.env) (fun u s'=>∃o H',Inv X pins σ H' s'/\IsPart u o/\Q o H') X.xe s
def tNoPart:TO:=fun _ H Q=>Q none H
def tPart(t:TE):TO:=fun σ H Q=>t σ H fun x H1=>∃i,x=.int i/\Q (some i) H1
section
variable{X:Cx}{e:Expr}{te:TE}{lo hi:Option Expr}{tl th:TO}{pos p2:Pos}
theorem q0q:PO X none tNoPart:=by
 intro pins s σ H Q I h;exact Ad ⟨none,H,I,.none,h⟩
theorem q0r(h:PE X e te):PO X (some e) (tPart te):=by
 intro pins s σ H Q I hw;refine thn (h pins s σ H _ I hw) fun u s1 ⟨x,H1,I1,r1,q1⟩=>?_;obtain⟨i,rfl,q⟩:=q1;obtain⟨t,rfl⟩:=r1;exact⟨some i,H1,I1,.int i t,q⟩
def SlR(X:Cx)(r:V->Option Int->Option Int->Hp->VK->Prop):Prop :=
 ∀(pins:List (Addr×Obj)) (s:Shared) (σ:St) (H:Hp) (x:V) (v vl vu:Value) (lo hi:Option Int) (sl:Addr) (Q:VK),Inv X pins σ H s->RelV x v->s.heap.IsSliceOf sl vl vu .none->IsPart vl lo->IsPart vu hi->r x lo hi H Q ->
  ∃T id,Ra (.type T) "__getitem__" = pure (some (.builtin id))/\s.TypeIs v T/\wpAny (model X.prog X.w) X.A (getItem v (.ref sl)) (EP X pins σ Q) X.xe s
theorem SlR.or(h:SlR X r)(h':SlR X r'):SlR X (fun x lo hi H Q=>r x lo hi H Q\/r' x lo hi H Q):=by
 intro pins s σ H x v vl vu lo hi sl Q I rx hs pl pu q;rcases q with q|q
 ·exact h pins s σ H x v vl vu lo hi sl Q I rx hs pl pu q
 ·exact h' pins s σ H x v vl vu lo hi sl Q I rx hs pl pu q
def tSl(r:V->Option Int->Option Int->Hp->VK->Prop)(te:TE)(tl th:TO):TE:=fun σ H Q=>te σ H fun x H1=>tl σ H1 fun l H2=>th σ H2 fun u H3=>r x l u H3 Q
theorem q0p{r:V->Option Int->Option Int->Hp->VK->Prop}(hr:SlR X r)(he:PE X e te)(hl:PO X lo tl)(hu:PO X hi th):PE X (.Subscript e (.Slice lo hi none p2) pos) (tSl r te tl th):=by
 intro pins s σ H Q I h;refine Ud (thn (he pins s σ H _ I h) fun v s1 ⟨x,H1,I1,r1,q1⟩=>?_);refine wpAny_Slice (thn (hl pins s1 σ H1 _ I1 q1) fun vl s2 ⟨l,H2,I2,pl,q2⟩=>thn (hu pins s2 σ H2 _ I2 q2) fun vu s3 ⟨u,H3,I3,pu,q3⟩=>?_);refine Ad ?_;have I4:Inv X pins σ H3 { s3 with heap:=s3.heap.push { cls:=.type "slice",data:=.fields #[vl,vu,.none] } }:=I3.kept (t':=s3.toks) fun b ob q=>Ah _ q;obtain⟨T,id,hT,ht,hg⟩:=hr pins { s3 with heap:=s3.heap.push { cls:=.type "slice",data:=.fields #[vl,vu,.none] } } σ H3 x v vl vu l u s3.heap.objs.size Q I4 r1 (Heap.IsSliceOf.new ..) pl pu q3;exact tail_any ht hT hg (by with_unfolding_all rfl)
def cutV(xs:List V)(lo hi:Option Int):List V:=(xs.drop (HT.sIx xs.length 0 lo)).take (HT.sIx xs.length xs.length hi-HT.sIx xs.length 0 lo)
theorem q6j(xs:List V)(lo hi:Option Int):(cutV xs lo hi).length<=xs.length:=by
 unfold cutV;rw[Bm,Dd];lia
def rSlT(K:Ak):V->Option Int->Option Int->Hp->VK->Prop:=fun x lo hi H Q=>∃a xs,x=.ref a/\SqT K H a xs /\
 ¬(HT.sIx xs.length 0 lo=0/\HT.sIx xs.length xs.length hi=xs.length)/\∀p,H p=none->Q (.ref p) (upd H p (.tup (cutV xs lo hi)))
theorem x0x:SlR X (rSlT X.K):=by
 intro pins s σ H x v vl vu lo hi sl Q I rx hs pl pu h;obtain⟨a,xs,rfl,hx,hw,q⟩:=h;cases rx;obtain⟨its,r,ht,hz⟩:=I.tuple hx;have hlen:its.toArray.size=xs.length:=by rw[Az];exact r.length.symm
 refine⟨"tuple",_,Dk.lookup,ht.typeIs,?_⟩;refine HT.getItem_tuple_cut ht hs pl pu (by rw[hlen];exact hw) ?_ (by rw[hlen];exact hz);rw[hlen];refine⟨.ref s.heap.objs.size,_,I.laid (t':=s.toks) (fun b ob q=>Ah _ q) (Aq _) ?_,rfl,q _ (I.hok.fresh (Aq _))⟩;exact⟨Bz (q6j xs lo hi) hz,_,(r.drop (HT.sIx xs.length 0 lo)).take (HT.sIx xs.length xs.length hi-HT.sIx xs.length 0 lo),IsTup.new _ _⟩
theorem Vals.nil_iff(r:Vals xs us):us=[]↔xs=[]:=by
 cases r with
 |nil=>simp
 |cons _ _=>simp
end
open PySem PySem.Spec PyProof.Rows
def ixN(n:Nat)(i:Int):Option Nat:=if 0<=i then(if i<n then some i.toNat else none) else if -(n:Int)<=i then some (i+n).toNat else none
def atI{α:Type}(xs:List α)(i:Int):Option α:=(ixN xs.length i).bind fun j=>xs[j]?
theorem z5u(h:ixN n i=some j):seqIndex? i n=some j/\j<n /\ -(n:Int)<=i/\i<n:=by
 unfold ixN at h;by_cases h0:0<=i
 ·rw[if_pos h0] at h;by_cases h1:i<n
  ·rw[if_pos h1] at h;have e:=Bj h;exact⟨by rw[Tf h0 h1,e],by lia,by lia,h1⟩
  ·grind
 ·rw[if_neg h0] at h;by_cases h1 : -(n:Int)<=i
  ·rw[if_pos h1] at h;have e:=Bj h;exact⟨by rw[seqIndex_neg (by lia) h1,e],by lia,h1,by lia⟩
  ·grind
theorem q8t{xs:List α}{v:α}(h:atI xs i=some v):∃j,seqIndex? i xs.length=some j/\xs[j]?=some v/\j<xs.length /\ -(xs.length:Int)<=i/\i<xs.length:=by
 unfold atI at h;cases e:ixN xs.length i with
 |none=>rw[e] at h;cases h
 |some j =>
  rw[e] at h;obtain⟨h1,h2,h3,h4⟩:=z5u e;exact⟨j,h1,h,h2,h3,h4⟩
def PlainIx(b:Expr):Prop:=∀o i,Ps b false o i=operate [o,i] (getItem o i)
def IxR(X:Cx)(r:R2):Prop :=
 ∀(value slice:Expr) (pins:List (Addr×Obj)) (s:Shared) (σ:St) (H:Hp) (x y:V) (v u:Value) (Q:VK),Inv X pins σ H s->RelV x v->RelV y u->r x y H Q ->
  Ps slice false v u=operate [v,u] (getItem v u)->wpAny (model X.prog X.w) X.A (subscriptTail value slice v u) (EP X pins σ Q) X.xe s
def MtR(X:Cx)(id:String)(r:V->List V->Hp->VK->Prop):Prop :=
 ∀(pins:List (Addr×Obj)) (s:Shared) (σ:St) (H:Hp) (x:V) (xs:List V) (v:Value) (us:List Value) (Q:VK),Inv X pins σ H s->RelV x v->Vals xs us->r x xs H Q ->
  wpAny (model X.prog X.w) X.A (call (.builtin id) (v::us)) (EP X pins σ Q) X.xe s
section
variable{X:Cx}{a b:Expr}{ta tb:TE}{pos:Pos}
theorem IxR.or(h:IxR X r)(h':IxR X r'):IxR X (fun x y H Q=>r x y H Q\/r' x y H Q):=by
 intro value slice pins s σ H x y v u Q I rx ry q hs;rcases q with q|q
 ·exact h value slice pins s σ H x y v u Q I rx ry q hs
 ·exact h' value slice pins s σ H x y v u Q I rx ry q hs
theorem MtR.or{id:String}(h:MtR X id r)(h':MtR X id r'):MtR X id (fun x xs H Q=>r x xs H Q\/r' x xs H Q):=by
 intro pins s σ H x xs v us Q I rx rs q;rcases q with q|q
 ·exact h pins s σ H x xs v us Q I rx rs q
 ·exact h' pins s σ H x xs v us Q I rx rs q
theorem q1m{r:R2}(hr:IxR X r)(ha:PE X a ta)(hb:PE X b tb)(hs:PlainIx b):PE X (.Subscript a b pos) (tOp r ta tb):=by
 intro pins s σ H Q I h;exact Ud (binT ha hb I h fun v u s2 x y H2 I2 rx ry q=>hr a b pins s2 σ H2 x y v u Q I2 rx ry q (hs _ _))
def rIxL(K:Ak):R2:=fun x y H Q=>∃p xs i v,x=.ref p/\y=.int i/\SqL K H p xs/\atI xs i=some v/\Q v H
def rIxT(K:Ak):R2:=fun x y H Q=>∃p xs i v,x=.ref p/\y=.int i/\SqT K H p xs/\atI xs i=some v/\Q v H
def rIxS:R2:=fun x y H Q=>∃z i c,x=.str z/\y=.int i/\z.length<=sizeLine/\atI z.cps.toList i=some c/\Q (.str ⟨#[c]⟩) H
theorem ix_list:IxR X (rIxL X.K):=by
 intro value slice pins s σ H x y v u Q I rx ry h hs;obtain⟨p,xs,i,z,rfl,rfl,hq,he,q⟩:=h;cases rx;obtain⟨t,rfl⟩:=ry;obtain⟨its,r,pl,hz⟩:=I.list hq;obtain⟨j,h1,h2,h3,h4,h5⟩:=q8t he;obtain⟨w,ew,rw'⟩:=r.get h2;have hl:=r.length;have hn:=line63;have fin:EP X pins σ Q w s:=⟨z,H,I,rw',q⟩
 by_cases h0:0<=i
 ·have hj:i.toNat=j:=by
   rw[Tf h0 h5] at h1;exact Bj h1
  exact item_listR pl.isList h0 (by lia) (by rw[hj];simpa using ew) fin hs
 ·have hj:(i+(its.toArray.size:Int)).toNat=j:=by
   rw[seqIndex_neg (by lia) h4] at h1;rw[Az,<- hl];exact Bj h1
  exact Pu pl.isList.typeIs slot_list_getitem.lookup
   (wpAny_getItem_list_neg pl.isList (by lia) (by rw[Az]<;>lia) (by lia) (by rw[hj];simpa using ew) ⟨rfl,fin⟩) hs
theorem ix_tup:IxR X (rIxT X.K):=by
 intro value slice pins s σ H x y v u Q I rx ry h hs;obtain⟨p,xs,i,z,rfl,rfl,hq,he,q⟩:=h;cases rx;obtain⟨t,rfl⟩:=ry;obtain⟨its,r,pl,hz⟩:=I.tuple hq;obtain⟨j,h1,h2,h3,h4,h5⟩:=q8t he;obtain⟨w,ew,rw'⟩:=r.get h2;have hl:=r.length;have hn:=line63;have fin:EP X pins σ Q w s:=⟨z,H,I,rw',q⟩
 exact Pu pl.typeIs slot_tuple_getitem.lookup
  (getItem_tuple pl (by lia) (by lia) (by rw[Az,<- hl];exact h1) (by simpa using ew) ⟨rfl,fin⟩) hs
theorem ix_str:IxR X rIxS:=by
 intro value slice pins s σ H x y v u Q I rx ry h hs;obtain⟨z,i,c,rfl,rfl,hz,he,q⟩:=h;obtain⟨t,rfl⟩:=rx;obtain⟨t',rfl⟩:=ry;obtain⟨j,h1,h2,h3,h4,h5⟩:=q8t he;have hl:z.cps.toList.length=z.length:=by simp[Str.length]
 rw[hl] at h1 h4 h5;have hn:=line63;exact tail_any (Rb s z t) slot_str_getitem.lookup (getItem_str (by
  have e1:decide (i < -(2^63:Int))=false:=decide_eq_false (by lia);have e2:decide (i>=2^63)=false:=decide_eq_false (by lia);rw[e1,e2,Rm]) (by rw[h1];simpa using h2) ⟨.str ⟨#[c]⟩,H,I.tok _,⟨_,rfl⟩,q⟩) hs
def rIx(K:Ak):R2:=fun x y H Q=>rIxL K x y H Q\/rIxT K x y H Q\/rIxS x y H Q
theorem ix_seq:IxR X (rIx X.K):=ix_list.or (ix_tup.or ix_str)
theorem z4f(its:List Value)(n j:Nat)(u:Value):Cw (·.setIfInBounds j u) { cls:=.type "list",data:=.seq its.toArray n }={ cls:=.type "list",data:=.seq (its.set j u).toArray n }:=by
 simp[Cw]
theorem Inv.lst{pins:List (Addr×Obj)}{σ:St}{H:Hp}{s:Shared}{p:Addr}{xs:List V}(I:Inv X pins σ H s)(h:H p=some (.lst xs)):
  ∃(its:List Value) (n:Nat),Vals xs its/\s.heap.get? p=some { cls:=.type "list",data:=.seq its.toArray n }/\xs.length<=sizeLine:=by
 obtain⟨z,its,n,r,e⟩:=I.hok p _ h;exact⟨its,n,r,e,z⟩
theorem Inv.lstUpd{σ:St}{its:List Value}(I:Inv X pins σ H s)(h:H p=some (.lst xs))(ho:s.heap.get? p=some { cls:=.type "list",data:=.seq its.toArray n })(hf:f { cls:=.type "list",data:=.seq its.toArray n }={ cls:=.type "list",data:=.seq its'.toArray n' })(r:Vals ys its')(hz:ys.length<=sizeLine)(t:Nat):
  Inv X pins σ (upd H p (.lst ys)) { s with heap:=s.heap.update p f,toks:=t }:=by
 have e:(s.heap.update p f).get? p=some { cls:=.type "list",data:=.seq its'.toArray n' }:=by
  rw[Fl f ho (by rw[hf]<;>rfl),hf]
 refine I.write (by rw[h];trivial) (.inl rfl) (fun b u hb q=>(Ce _ _ (Er hb)).trans q) ⟨_,e⟩ ?_;exact⟨hz,its',n',r,e⟩
def rSetL:V->V->V->Hp->(Hp->Prop)->Prop:=fun o i v H Q=>∃p xs k j,o=.ref p/\i=.int k/\H p=some (.lst xs)/\ixN xs.length k=some j/\Q (upd H p (.lst (xs.set j v)))
theorem q8u:PSet X rSetL:=by
 intro pins s σ H o i v ov iv u Q I ro ri rv h;obtain⟨p,xs,k,j,rfl,rfl,hp,hj,q⟩:=h;cases ro;obtain⟨t,rfl⟩:=ri;obtain⟨its,n,r,ho,hz⟩:=I.lst hp;obtain⟨h1,h2,h3,h4⟩:=z5u hj;have hl:=r.length;have hn:=line63;have I':Inv X pins σ (upd H p (.lst (xs.set j v))) { s with heap:=s.heap.update p (Cw (·.setIfInBounds j u)) } :=
  I.lstUpd hp ho (z4f its n j u) (r.set rv j) (by rw[List.length_set];exact hz) s.toks
 by_cases h0:0<=k
 ·have hk:k.toNat=j:=by
   rw[Tf h0 h4] at h1;exact Bj h1
  exact W.ki_setAt ho h0 (by lia) (by rw[Az,<- hl];exact h4) (by rw[hk];exact⟨_,I',q⟩)
 ·have hk:(k+(its.toArray.size:Int)).toNat=j:=by
   rw[seqIndex_neg (by lia) h3] at h1;rw[Az,<- hl];exact Bj h1
  exact W.ki_setBack ho (by lia) (by rw[Az,<- hl];exact h3) (by lia) (by rw[hk];exact⟨_,I',q⟩)
theorem q9z(lo hi:Option Int)(n:Nat):(Jm lo hi none n).1=((HT.sIx n 0 lo:Nat):Int)/\(Jm lo hi none n).2.1=((HT.sIx n n hi:Nat):Int)/\(Jm lo hi none n).2.2=1:=by
 refine⟨?_,?_,rfl⟩
 ·cases lo with
  |none=>simp[Jm,HT.sIx]
  |some i =>
   simp only[Jm,HT.sIx,To,show(1:Int)>0 by decide,if_true];by_cases h:i<0
   ·simp only[h,if_true]<;>lia
   ·simp only[h,if_false]<;>lia
 ·cases hi with
  |none=>simp[Jm,HT.sIx]
  |some i =>
   simp only[Jm,HT.sIx,To,show(1:Int)>0 by decide,if_true];by_cases h:i<0
   ·simp only[h,if_true]<;>lia
   ·simp only[h,if_false]<;>lia
theorem q8v(its:List Value)(lo hi:Option Int):slicePick its.toArray lo hi none=((its.drop (HT.sIx its.length 0 lo)).take (HT.sIx its.length its.length hi-HT.sIx its.length 0 lo)).toArray:=by
 obtain⟨h1,h2,h3⟩:=q9z lo hi its.toArray.size;unfold slicePick;rw[h1,h2,h3];simp only[sliceRange_one,pick_run,Az]<;>rfl
def rSlL(K:Ak):V->Option Int->Option Int->Hp->VK->Prop:=fun x lo hi H Q=>∃a xs,x=.ref a/\SqL K H a xs/\∀p,H p=none->Q (.ref p) (upd H p (.lst (cutV xs lo hi)))
theorem sl_list:SlR X (rSlL X.K):=by
 intro pins s σ H x v vl vu lo hi sl Q I rx hs pl pu h;obtain⟨a,xs,rfl,hx,q⟩:=h;cases rx;obtain⟨its,r,ht,hz⟩:=I.list hx;have hlen:=r.length;refine⟨"list",_,slot_list_getitem.lookup,ht.isList.typeIs,?_⟩;refine wpAny_getItem_list_slice ht.isList hs pl pu .none (by simp) ?_ (by rw[Az]<;>lia);rw[q8v,<- hlen];refine⟨.ref s.heap.objs.size,_,I.laid (t':=s.toks) (fun b ob q=>Ah _ q) (Aq _) ?_,rfl,q _ (I.hok.fresh (Aq _))⟩;exact⟨Bz (q6j xs lo hi) hz,_,0,(r.drop (HT.sIx xs.length 0 lo)).take (HT.sIx xs.length xs.length hi-HT.sIx xs.length 0 lo),Ar _ rfl⟩
def flatV:V->Bool
 |.non=>true
 |.bl _=>true
 |.int _=>true
 |.str _=>true
 |_=>false
def eqV:V->V->Bool
 |.non,.non=>true
 |.bl a,.bl b=>a==b
 |.bl a,.int b=>(if a then 1 else 0)==b
 |.int a,.bl b=>a==(if b then 1 else 0)
 |.int a,.int b=>a==b
 |.str a,.str b=>a==b
 |_,_=>false
theorem eqAt_V(ry:RelV y u)(rx:RelV x v)(fy:flatV y=true)(fx:flatV x=true):Di A s u v (eqV y x):=by
 cases y with
 |non =>
  cases ry;cases x with
  |non=>cases rx;exact Ue _
  |bl b=>cases rx;exact Di.none_bool b
  |int b=>obtain⟨t,rfl⟩:=rx;exact Di.none_int b t
  |str b=>obtain⟨t,rfl⟩:=rx;exact Di.none_str b t
  |_=>exact absurd (show false=true from fx) Bd
 |bl a =>
  cases ry;cases x with
  |non=>cases rx;exact Di.bool_none a
  |bl b=>cases rx;exact Di.bool_bool a b
  |int b=>obtain⟨t,rfl⟩:=rx;exact Di.bool_int a b t
  |str b=>obtain⟨t,rfl⟩:=rx;exact Di.bool_str a b t
  |_=>exact absurd (show false=true from fx) Bd
 |int a =>
  obtain⟨t',rfl⟩:=ry;cases x with
  |non=>cases rx;exact Di.int_none a t'
  |bl b=>cases rx;exact Di.int_bool a t' b
  |int b=>obtain⟨t,rfl⟩:=rx;exact Di.int_int a t' b t
  |str b=>obtain⟨t,rfl⟩:=rx;exact Rx a t' b t
  |_=>exact absurd (show false=true from fx) Bd
 |str a =>
  obtain⟨t',rfl⟩:=ry;cases x with
  |non=>cases rx;exact Di.str_none a t'
  |bl b=>cases rx;exact Di.str_bool a t' b
  |int b=>obtain⟨t,rfl⟩:=rx;exact Ry a t' b t
  |str b=>obtain⟨t,rfl⟩:=rx;exact Nc a t' b t
  |_=>exact absurd (show false=true from fx) Bd
 |_=>exact absurd (show false=true from fy) Bd
def eqU(x:V)(u:Value):Bool:=match u with
 |.none=>eqV .non x
 |.bool b=>eqV (.bl b) x
 |.int i _=>eqV (.int i) x
 |.str z _=>eqV (.str z) x
 |_=>false
theorem x0y(r:RelV y u)(f:flatV y=true):eqU x u=eqV y x:=by
 cases y with
 |non=>cases r;rfl
 |bl b=>cases r;rfl
 |int i=>obtain⟨t,rfl⟩:=r;rfl
 |str z=>obtain⟨t,rfl⟩:=r;rfl
 |_=>exact absurd (show false=true from f) Bd
theorem z1s{x:V}:∀{xs:List V} {us:List Value},Vals xs us->xs.all flatV=true->us.any (eqU x)=xs.any fun y=>eqV y x
 |_,_,.nil,_=>rfl
 |y::xs,u::us,.cons r t,f=>by
  rw[List.all_cons,Lk] at f;rw[Lg,Lg,x0y r f.1,z1s t f.2]
theorem q8w{A:Around}{s:Shared}{x:V}{v:Value}(rx:RelV x v)(fx:flatV x=true):∀{xs:List V} {us:List Value},Vals xs us->xs.all flatV=true->∀u∈us,Di A s u v (eqU x u)
 |_,_,.nil,_=>fun u hu=>by cases hu
 |y::xs,u::us,.cons r t,f=>fun u' hu=>by
  rw[List.all_cons,Lk] at f;rcases Ay.mp hu with rfl|hu
  ·rw[x0y r f.1];exact eqAt_V r rx f.1 fx
  ·exact q8w rx fx t f.2 u' hu
def inV(x:V)(xs:List V):Bool:=xs.any fun y=>eqV y x
def rIn(K:Ak)(neg:Bool):R2:=fun x y H Q=>∃p xs,y=.ref p/\(SqL K H p xs\/SqT K H p xs)/\flatV x=true/\xs.all flatV=true/\Q (.bl (if neg then !inV x xs else inV x xs)) H
theorem z5v:OpR X (Cl .In) (rIn X.K false):=by
 intro pins s σ H x y v u Q I rx ry h;obtain⟨p,xs,rfl,hq,fx,fs,q⟩:=h;cases ry;rcases hq with hq|hq
 ·obtain⟨its,r,pl,hz⟩:=I.list hq;refine SeqAt.in_listAt (eqU x) pl.isList (fun w hw=>q8w rx fx r fs w (by simpa using hw)) ⟨.bl _,H,I,rfl,?_⟩;rw[show its.toArray.any (eqU x)=its.any (eqU x) by simp,z1s r fs];exact q
 ·obtain⟨its,r,pl,hz⟩:=I.tuple hq;refine SeqAt.in_tupleAt (eqU x) pl (fun w hw=>q8w rx fx r fs w (by simpa using hw)) ⟨.bl _,H,I,rfl,?_⟩;rw[show its.toArray.any (eqU x)=its.any (eqU x) by simp,z1s r fs];exact q
theorem CallR.or(h:CallR X f r)(h':CallR X f r'):CallR X f (fun xs H Q=>r xs H Q\/r' xs H Q):=by
 intro pins s σ H xs us Q I rs q;rcases q with q|q
 ·exact h pins s σ H xs us Q I rs q
 ·exact h' pins s σ H xs us Q I rs q
theorem z0a:CallR X (.type "list") (fun xs H Q=>∃p ys,xs=[.ref p]/\(SqL X.K H p ys\/SqT X.K H p ys)/\∀l,H l=none->Q (.ref l) (upd H l (.lst ys))):=by
 intro pins s σ H xs us Q I r h;obtain⟨p,ys,rfl,hq,q⟩:=h;obtain⟨u,rfl,rx⟩:=vals1 r;cases rx;have fin:∀(its:List Value),Vals ys its->ys.length<=sizeLine->∀(h':Heap) (c':Nat),(∀b o',s.heap.get? b=some o'->h'.get? b=some o') ->
   h'.get? s.heap.objs.size=some { cls:=.type "list",dict:=none,data:=.seq its.toArray c',slots:=#[] }->EP X pins σ Q (.ref s.heap.objs.size) { s with heap:=h' }:=fun its r' hz h' c' kp e =>
  ⟨.ref s.heap.objs.size,_,I.laid (t':=s.toks) kp (Aq _) (show ObjOk X.prog X.w _ h' _ (.lst ys) from⟨hz,its,c',r',e⟩),rfl,q _ (I.hok.fresh (Aq _))⟩
 rcases hq with hq|hq
 ·obtain⟨its,r',pl,hz⟩:=I.list hq;have hlen:=r'.length;obtain⟨o,ho,hc,n,hd⟩:=pl.isList;exact call_list_seq p (.inl rfl) ho hc hd (fun h' c' kp e=>fin its r' hz h' c' kp e) (by simp only[Az]<;>lia)
 ·obtain⟨its,r',pl,hz⟩:=I.tuple hq;have hlen:=r'.length;obtain⟨o,ho,hc,n,hd⟩:=pl;exact call_list_seq p (.inr rfl) ho hc hd (fun h' c' kp e=>fin its r' hz h' c' kp e) (by simp only[Az]<;>lia)
def tyV(K:Ak)(T:String)(x:V)(H:Hp):Prop:=match x with
 |.str _=>T = "str"
 |.int _=>T = "int"
 |.ref p=>(T = "list" /\ ∃xs,SqL K H p xs)\/(T = "tuple" /\ ∃o,K.lookup p=some o/\o.cls=.type "tuple" /\ o.dict=none) \/
   (T = "dict" /\ ((∃kvs,H p=some (.dK kvs))\/∃kvs,H p=some (.dT kvs)))\/(T = "set" /\ ∃S n,H p=some (.set S n))
 |_=>False
theorem x0z{σ:St}(I:Inv X pins σ H s)(r:RelV x v)(ty:tyV X.K T x H):
  s.TypeIs v T/\∀a,v=.ref a->∃ob,s.heap.get? a=some ob/\ob.dict=none:=by
 cases x with
 |str z =>
  obtain⟨t,rfl⟩:=r;cases(show T = "str" from ty);exact⟨Rb s z t,fun _ e=>nomatch e⟩
 |int i =>
  obtain⟨t,rfl⟩:=r;cases(show T = "int" from ty);exact⟨Uf s i t,fun _ e=>nomatch e⟩
 |ref p =>
  cases r;rcases ty with⟨rfl,xs,hq⟩|⟨rfl,o,hk,hc,hd⟩|⟨rfl,hk⟩|⟨rfl,S,n,hk⟩
  ·obtain⟨its,_,pl,_⟩:=I.list hq;refine⟨pl.isList.typeIs,fun a e=>?_⟩;cases e;obtain⟨o,n,e,c,hd,_⟩:=pl;exact⟨o,e,hd⟩
  ·refine⟨⟨o,I.kIn p o hk,hc⟩,fun a e=>?_⟩;cases e;exact⟨o,I.kIn _ o hk,hd⟩
  ·have z:∃o,s.heap.get? p=some o/\o.ExactDict:=by
    rcases hk with⟨kvs,hk⟩|⟨kvs,hk⟩
    ·obtain⟨_,_,_,_,o,_,_,e,ex,_⟩:=I.hok p _ hk;exact⟨o,e,ex⟩
    ·obtain⟨_,_,_,_,o,_,_,e,ex,_⟩:=I.hok p _ hk;exact⟨o,e,ex⟩
   obtain⟨o,e,ex⟩:=z;refine⟨⟨o,e,ex.1⟩,fun a e2=>?_⟩;cases e2;exact⟨o,e,ex.2.1⟩
  ·obtain⟨o,_,_,_,e,ex,_⟩:=I.hok p _ hk;refine⟨⟨o,e,ex.1⟩,fun a e2=>?_⟩;cases e2;exact⟨o,e,ex.2.1⟩
 |_=>exact False.elim ty
def tBM0(K:Ak)(T:String)(r:V->List V->Hp->VK->Prop)(to:TE):TE:=fun σ H Q=>to σ H fun x H1=>tyV K T x H1/\r x [] H1 Q
def tBM(K:Ak)(T:String)(r:V->List V->Hp->VK->Prop)(to:TE)(t:TA):TE:=fun σ H Q=>to σ H fun x H1=>tyV K T x H1/\t σ H1 fun xs H2=>r x xs H2 Q
variable{o e:Expr}{es:List Expr}{to:TE}{t:TA}{name:Str}{apos cpos:Pos}{T id:String}{r:V->List V->Hp->VK->Prop}
theorem pe_bm0(pa:PlainAttrs T)(slot:Slot T name id)(hty:typeOf (.builtin id)=pure (.type "method_descriptor"))(hm:MtR X id r)(ho:PE X o to)(hbase:Fy o name X.env (eval o X.env)=eval o X.env:=by rfl)(hline:(apos.endLine==cpos.line)=true:=by rfl):PE X (.Call (.Attribute o name apos) [] [] cpos) (tBM0 X.K T r to):=by
 intro pins s σ H Q I h;refine wpAny_Call_method0_late hbase hline (thn (ho pins s σ H _ I h) fun v s1 ⟨x,H1,I1,r1,ty,q1⟩=>?_);obtain⟨h1,h2⟩:=x0z I1 r1 ty;exact⟨T,id,pa,slot,hty,h1,h2,Ih rfl (PySem.evalArgs_none (hm pins s1 σ H1 x [] v [] Q I1 r1 .nil q1))⟩
theorem pe_bm(pa:PlainAttrs T)(slot:Slot T name id)(hty:typeOf (.builtin id)=pure (.type "method_descriptor"))(hm:MtR X id r)(ho:PE X o to)(ha:PA X (e::es) t)(hbase:Fy o name X.env (eval o X.env)=eval o X.env:=by rfl)(hfew:((Fi cpos (Bg (e::es) X.env)).all (fun x => !x.1)&&(Li cpos (Ie [] X.env)).all (fun x=>x.1.isSome)
   && decide ((e::es).length+([]:List Keyword).length+(if ([]:List Keyword).isEmpty then 0 else 1)<30))=true:=by rfl)(hline:(apos.endLine==cpos.line)=true:=by rfl)(hs:Bg (e::es) X.env=(false,eval e X.env)::Bg es X.env:=by rfl)(hplain:(Fi cpos (Bg es X.env)).any (·.1)=false:=by rfl):
  PE X (.Call (.Attribute o name apos) (e::es) [] cpos) (tBM X.K T r to t):=by
 intro pins s σ H Q I h;refine wpAny_Call_method_late hbase hfew hline rfl (thn (ho pins s σ H _ I h) fun v s1 ⟨x,H1,I1,r1,ty,q1⟩=>?_);obtain⟨h1,h2⟩:=x0z I1 r1 ty;refine⟨T,id,pa,slot,hty,h1,h2,?_⟩;have hA:=ha cpos pins s1 σ H1 _ I1 q1;rw[hs] at hA ⊢;refine Ih (by show(false||(Fi cpos (Bg es X.env)).any (·.1))=false;rw[hplain]<;>rfl) (Mb ?_);exact thn hA fun us s2 ⟨vs,H2,I2,r2,q2⟩=>hm pins s2 σ H2 x vs v us Q I2 r1 r2 q2
end
open PySem PySem.Spec PyProof.Rows
def MtM(X:Cx)(id:String)(r:V->List V->Hp->VK->Prop):Prop :=
 ∀(pins:List (Addr×Obj)) (s:Shared) (σ:St) (H:Hp) (x:V) (xs:List V) (v:Value) (us:List Value) (Q:VK),Inv X pins σ H s->RelV x v->Vals xs us->r x xs H Q ->
  wpAny (model X.prog X.w) X.A (call (.builtin id) (v::us)) (EP X pins σ Q) X.xe s
theorem Vals.one:∀{x:V} {us:List Value},Vals [x] us->∃u,us=[u]/\RelV x u
 |_,_,.cons r .nil=>⟨_,rfl,r⟩
theorem Vals.two:∀{x y:V} {us:List Value},Vals [x,y] us->∃u v,us=[u,v]/\RelV x u/\RelV y v
 |_,_,_,.cons r (.cons q .nil)=>⟨_,_,rfl,r,q⟩
theorem Vals.zero:∀{us:List Value},Vals [] us->us=[]
 |_,.nil=>rfl
theorem Vals.dropLast(h:Vals xs us):Vals xs.dropLast us.dropLast:=by
 induction h with
 |nil=>exact .nil
 |cons r t ih =>
  cases t with
  |nil=>exact .nil
  |cons q t'=>exact .cons r ih
theorem Vals.eraseIdx:∀{xs:List V} {us:List Value} (i:Nat),Vals xs us->Vals (xs.eraseIdx i) (us.eraseIdx i)
 |_,_,_,.nil=>.nil
 |_,_,0,.cons _ t=>t
 |_,_,i+1,.cons r t=>.cons r (Vals.eraseIdx i t)
theorem Vals.reverse(h:Vals xs us):Vals xs.reverse us.reverse:=by
 induction h with
 |nil=>exact .nil
 |cons r t ih=>rw[Su,Su];exact Vals.append ih (.cons r .nil)
theorem Vals.rep{xs:List V}{us:List Value}(h:Vals xs us):∀k:Nat,Vals (List.replicate k xs).flatten (List.replicate k us).flatten
 |0=>.nil
 |k+1=>by
  rw[Mt,Mt,Nv,Nv];exact Vals.append h (Vals.rep h k)
theorem z0b{α:Type}:∀(l:List α) (i:Nat),(l.eraseIdx i).length<=l.length
 |[],_=>Aq _
 |_::_,0=>Ig _
 |_::r,i+1=>Hm (z0b r i)
theorem z0c(its:List Value):∀(k:Nat) (acc:List Value),
  List.foldl (fun x1 x2=>x1++x2) acc.toArray (List.replicate k its.toArray)=(acc++(List.replicate k its).flatten).toArray
 |0,acc=>by simp
 |k+1,acc=>by
  have e:acc.toArray++its.toArray=(acc++its).toArray:=by simp
  have e2:(acc++its)++(List.replicate k its).flatten=acc++(List.replicate (k+1) its).flatten:=by grind
  rw[<- e2,<- z0c its k (acc++its),<- e,Mt,Ug]
section
variable{X:Cx}{pins:List (Addr×Obj)}{σ:St}{H:Hp}{s:Shared}{l b:Addr}{xs ys zs:List V}
theorem Inv.lset{its:List Value}(I:Inv X pins σ H s)(hH:H l=some (.lst xs))(e:s.heap.get? l=some { cls:=.type "list",data:=.seq its.toArray n })(hf:f its.toArray=its'.toArray)(hv:Vals ys its')(hz:ys.length<=sizeLine):
  Inv X pins σ (upd H l (.lst ys)) { s with heap:=s.heap.update l (Cw f),toks:=t' }:=by
 have q:=PySem.IsL.update e f;rw[hf] at q;refine I.write (by rw[hH];exact trivial) (.inl rfl) (fun b' u hb hu=>(Ce s.heap (Cw f) (Er hb)).trans hu) ⟨_,q⟩ ?_;exact⟨hz,its',_,hv,q⟩
theorem Inv.lnew(I:Inv X pins σ H s)(hv:Vals ys its)(hz:ys.length<=sizeLine):
  Inv X pins σ (upd H s.heap.objs.size (.lst ys)) { s with heap:=s.heap.push { cls:=.type "list",data:=.seq its.toArray },toks:=t' } :=
 I.laid (fun _ _ q=>Ah _ q) (Aq _) ⟨hz,its,0,hv,Ar _ rfl⟩
theorem Inv.fresh(I:Inv X pins σ H s):H s.heap.objs.size=none:=I.hok.fresh (Aq _)
theorem Inv.lstM(I:Inv X pins σ H s)(hH:H l=some (.lst xs)):xs.length<=sizeLine/\∃(its:List Value) (n:Nat),Vals xs its/\xs.length=its.length/\s.heap.get? l=some { cls:=.type "list",data:=.seq its.toArray n }:=by
 obtain⟨z,its,n,r,e⟩:=I.hok l _ hH;exact⟨z,its,n,r,r.length,e⟩
theorem notLongL(h:n<=sizeLine):Os n=false:=by
 exact decide_eq_false (by lia)
end
section
variable{X:Cx}
def rAppend:V->List V->Hp->VK->Prop:=fun x vs H Q=>∃l xs y,x=.ref l/\vs=[y]/\H l=some (.lst xs)/\xs.length<sizeLine/\Q .non (upd H l (.lst (xs++[y])))
theorem q1w:MtM X "list.append" rAppend:=by
 intro pins s σ H x vs v us Q I rx rv h;obtain⟨l,xs,y,rfl,rfl,hH,hz,q⟩:=h;cases rx;obtain⟨u,rfl,ru⟩:=rv.one;obtain⟨z,its,n,r,hl,e⟩:=I.lstM hH;refine Kk F.slot_list_append ⟨_,e,rfl⟩ F.entry_list_append (F.args_list_append_2 _ _) (PySem.list_append l its.toArray n u (by rw[Az];lia)) ⟨e,?_⟩;refine⟨.non,_,I.lset (its':=its++[u]) hH e (by simp) (r.append (.cons ru .nil)) ?_,rfl,q⟩;rw[Al,Dx];lia
def rPopAt:V->List V->Hp->VK->Prop:=fun x vs H Q=>∃l xs i k y,x=.ref l/\vs=[.int i]/\H l=some (.lst xs) /\ -(2^63)<=i/\i<2^63/\seqIndex? i xs.length=some k/\xs[k]?=some y/\Q y (upd H l (.lst (xs.eraseIdx k)))
theorem z9a:MtM X "list.pop" rPopAt:=by
 intro pins s σ H x vs v us Q I rx rv h;obtain⟨l,xs,i,k,y,rfl,rfl,hH,h1,h2,hk,hy,q⟩:=h;cases rx;obtain⟨u,rfl,ru⟩:=rv.one;obtain⟨t,rfl⟩:=ru;obtain⟨z,its,n,r,hl,e⟩:=I.lstM hH;obtain⟨w,hw,rw'⟩:=r.get hy;refine Kk F.slot_list_pop ⟨_,e,rfl⟩ F.entry_list_pop (F.args_list_pop_2 _ _)
  (MeetsSeq.list_pop_at l its.toArray n i t k w (fitsIndex_both h1 h2) (by rw[Az,<- hl];exact hk) (by rw[<- Iq];exact hw) (by rw[Az];lia)) ⟨e,?_⟩
 refine⟨y,_,I.lset (its':=its.eraseIdx k) hH e ?_ (r.eraseIdx k) ?_,rw',q⟩
 ·simp_all
 ·have:=z0b xs k;lia
def rCat:R2:=fun x y H Q=>∃l b xs zs,x=.ref l/\y=.ref b/\H l=some (.lst xs)/\H b=some (.lst zs)/\xs.length+zs.length<=sizeLine/\∀p,H p=none->Q (.ref p) (upd H p (.lst (xs++zs)))
theorem op_cat:OpR X (Ge .Add) rCat:=by
 intro pins s σ H x y v u Q I rx ry h;obtain⟨l,b,xs,zs,rfl,rfl,hH,hB,hz,q⟩:=h;cases rx;cases ry;obtain⟨z,its,n,r,hl,e⟩:=I.lstM hH;obtain⟨z2,its2,n2,r2,hl2,e2⟩:=I.lstM hB;refine PySem.P.add_list e e2 ?_ (by rw[Az,Az];lia);have ea:its.toArray++its2.toArray=(its++its2).toArray:=by simp
 rw[ea];exact⟨.ref _,_,I.lnew (t':=s.toks) (r.append r2) (by rw[Al];lia),rfl,q _ I.fresh⟩
def rRep:R2:=fun x y H Q=>∃l k xs,x=.ref l/\y=.int k/\H l=some (.lst xs) /\ -(2^63)<=k/\k<2^63/\xs.length*k.toNat<=sizeLine /\
 ∀p,H p=none->Q (.ref p) (upd H p (.lst (List.replicate k.toNat xs).flatten))
theorem x2c{α:Type}(xs:List α)(k:Nat):(List.replicate k xs).flatten.length=k*xs.length:=by simp_all
theorem op_rep:OpR X (Ge .Mult) rRep:=by
 intro pins s σ H x y v u Q I rx ry h;obtain⟨l,k,xs,rfl,rfl,hH,h1,h2,hz,q⟩:=h;cases rx;obtain⟨t,rfl⟩:=ry;obtain⟨z,its,n,r,hl,e⟩:=I.lstM hH;have hlen:its.toArray.size*k.toNat<=sizeLine:=by simp_all
 have hcap:¬its.toArray.size*k.toNat>(2^63-1) / 8:=by
  have:(sizeLine:Nat)<=(2^63-1) / 8:=by decide
  lia
 have hfit:¬(!Builtin.List.listFitsIndex k)=true:=by
  rw[fitsIndex_both h1 h2];exact Bd
 have hlong:¬Os (its.toArray.size*k.toNat)=true:=by
  rw[notLongL hlen];exact Bd
 have hnew:List.foldl (fun x1 x2=>x1++x2) #[] (List.replicate (if its.toArray.isEmpty=true then 0 else k.toNat) its.toArray)=(List.replicate k.toNat its).flatten.toArray:=by
  have f0:∀m:Nat,List.foldl (fun x1 x2=>x1++x2) #[] (List.replicate m its.toArray)=(List.replicate m its).flatten.toArray:=fun m=>by
   have:=z0c its m [];exact this
  cases its with
  |nil=>simp
  |cons a r'=>grind
 refine wpAny_binaryOp_repeat_ref (by decide) ⟨_,e,rfl⟩ (fun s'=>Uf s' k t) noFill_list_mul F.fills_int_mul Uh repeat_list F.slot_int_index.lookup
  (Kk Uh (Uf s k t) F.entry_int_rmul (F.args_int_rmul_2 _ _) (int___rmul___int_list k t l its.toArray n)
   ⟨e,rfl,⟨_,e,rfl⟩,Kk F.slot_list_mul ⟨_,e,rfl⟩ F.entry_list_mul (F.args_list_mul_2 _ _) (AutoListH.list___mul___list_int_3 l its.toArray n k t hfit hcap hlong) ⟨e,?_⟩⟩)
 rw[hnew];exact⟨.ref _,_,I.lnew (t':=s.toks) (r.rep k.toNat) (by rw[x2c,Nat.mul_comm];exact hz),rfl,q _ I.fresh⟩
end
end L2
namespace Att
open PySem PySem.W PySem.Calls PyProof.Rows
theorem q6k:∀(ns:List Int) (vs:List Value),WellAll P h vs (ns.map WData.int)->IntsAre vs ns:=by
 intro ns;induction ns with
 |nil =>
  intro vs w;cases w;exact .nil
 |cons n ns ih =>
  intro vs w;cases w with
  |cons a b =>
   cases a;exact .cons _ _ (ih _ b)
theorem z5w{l:OpenLaw}(hn:l.most=some n)(hpre:l.row.toRowW.claim.pre args=true)(hwl:WellAll P h vals args):
  ∃a vs ns,vals=[Value.ref a]/\args=[WData.list (ns.map WData.int)]/\h.get? a=some { cls:=.type "list",data:=.seq vs.toArray }/\IntsAre vs ns/\ns.length<=n:=by
 have hsh:=(pre_splitW hpre).1;have hc:l.pre.holds [] { args:=args }=true:=(pre_splitW hpre).2;obtain⟨d,r,rfl,h1,h2⟩:=hasAllW_cons hsh;obtain rfl:=hasAllW_nil h2;obtain⟨xs,rfl,h3⟩:=hasW_list h1;obtain⟨ns,rfl⟩:=items_int h3;have hlen:ns.length<=n:=by
  have h4:(WTm.not (.lt (.lit (.int (n:Int))) (.len (.arg 0)))).holds [] { args:=[.list (ns.map .int)] }=true:=by
   have h4:=(holds_andW hc).1;rw[hn] at h4;exact h4
  have h5:=condW_of h4 (w_not (w_lt w_lit (w_len_list (w_arg rfl))));first
   |(rw[decide_eq_true q'] at h5;exact absurd h5 (by decide))
   |(simp at h5;lia)
 cases hwl with
 |cons w1 w2 =>
  cases w2;cases w1 with
  |list ho hall=>exact⟨_,_,ns,rfl,rfl,ho,q6k ns _ hall,hlen⟩
theorem z5x(l:OpenLaw)(args:List WData):l.row.toRowW.claim.post args (.bool true) args=true :=
 postW_of
  (show WShape.has [] (.bool true) .bool=true by first|rfl|decide|simp[WShape.has,WShape.arms,WShape.armsAll])
  (show(WTm.eq .res (.lit (.bool true))).value [] { args:=args,res:=some (.bool true),after:=args }=some (.bool (true==true)) from w_eq_bool (w_res rfl) w_lit) rfl
theorem attach_call{l:OpenLaw}(hn:l.most=some n)(hdf:d.params.defaults=[])(call:∀(w:World) (s₀ s₁:Shared) (mg mb:Str->Option Value) (fa:Addr) (o:Obj) (pm cd doc:Value) (a:Addr) (vs:List Value) (ns:List Int),
   Ground q loose [] XP w s₀ mg mb s₁.heap->YP w s₁.heap ->
   s₁.heap.get? fa=some o->o.data=.func (docDef d.name d.params d.body d.scope pm cd doc)->s₁.heap.CodeRec cd d.name->mg d.name=some (.ref fa) ->
   s₁.heap.get? a=some { cls:=.type "list",data:=.seq vs.toArray }->IntsAre vs ns->ns.length<=n->s₁.gens=#[] ->
   Ew (model l.prog w) Ol (.call (.ref fa) ⟨[.ref a],[]⟩) (fun r s'=>r=.ok (.ret (.bool true))/\OldK s₁.heap s'.heap/\s'.os=s₁.os/\Lo s'.gens) s₁):
  WalkO q loose XP YP l.row.toRowW d [] (fun f vs=>Ui f vs):=by
 intro w s₀ s₁ mg mb G Y fa o pm cd doc dV kV ho hd hcd hD hmg hg args vals as hpre hlay hrd hwl hlo;obtain rfl:dV=.none:=Dflts.none hD hdf;obtain rfl:kV=.none:=Dflts.noKw hD;obtain⟨a,vs,ns,rfl,rfl,hobj,hints,hlen⟩:=z5w hn hpre hwl;refine enter_call (Hj (call w s₀ s₁ mg mb fa o pm cd doc a vs ns G Y ho (fd_plain hd) hcd hmg hobj hints hlen hg) fun r s' hq=>?_);obtain⟨rfl,h2,h3,h4⟩:=hq;exact⟨.inl ⟨.bool true,.bool true,[],rfl,fun _=>rfl,.bool true,z5x l _,fun _=>⟨List.Pairwise.nil,fun _ hm=>(nomatch hm)⟩⟩,h2,h3,h4⟩
end Att
namespace L2
open PySem PySem.Spec PyProof.Rows
theorem z0d:∀{vs:List Value} {ns:List Int},IntsAre vs ns->Vals (ns.map V.int) vs
 |_,_,.nil=>.nil
 |_,_,.cons n t h=>.cons ⟨t,rfl⟩ (z0d h)
def Only(H:Hp):Prop:=∀b,H b=none\/∃o xs,H b=some (.frz o (.lst xs))
theorem z9b{K:Ak}(KX:K.In s₁.heap)(hns:s₁.heap.Ns Dm mg)(hb:s₁.heap.Ns builtinsNs mb)(hbb:∀x:Str,x ≠ "__name__" -> mb x=Ft x)(hlim:s₁.heap.NoLimit)(hg:s₁.gens=#[])(ha:s₁.heap.get? a=some { cls:=.type "list",data:=.seq vs.toArray })(hi:IntsAre vs ns)(hl:ns.length<=sizeLine)(hr:Room k Ol)(F:∀base:Heap,K.In base->base.Ns Dm mg->FnOk P w K mg base CX k fa fd [x] sp)(hbind:∀(s:Shared) (u:Value),Qk s fd ⟨[u],[]⟩ [(x,u)])(hsp:∀H:Hp,Only H->SqL K H a (ns.map V.int)->sp [.ref a] H (fun v _=>v=.bl true) fun _ _ _=>False)(hCX:∀H e s',CX [] H s₁ (fun _ _ _=>False) e s'->False):
  Ew (model P w) Ol (.call (.ref fa) ⟨[.ref a],[]⟩) (fun r s'=>r=.ok (.ret (.bool true))/\OldK s₁.heap s'.heap/\s'.os=s₁.os/\Lo s'.gens) s₁:=by
 have rv:=z0d hi;have lenV:=hi.length;have core:∀H:Hp,Only H->SqL K H a (ns.map V.int)->HOk P w H s₁.heap->(∀b,H b≠none->b=a)->(H a≠none->K.lookup a=none) ->
   Ew (model P w) Ol (.call (.ref fa) ⟨[.ref a],[]⟩) (fun r s'=>r=.ok (.ret (.bool true))/\OldK s₁.heap s'.heap/\s'.os=s₁.os/\Lo s'.gens) s₁:=by
  intro H hO hS hok hA hK;have base_of:∀{b:Addr} {o:Obj},s₁.heap.get? b=some o->H b=none->(hidT s₁.heap H).get? b=some o:=fun e n=>z8o e n;have noA:∀{b:Addr} {o:Obj} {es:Array DictEntry} {ep:Nat},s₁.heap.get? b=some o->o.data=.dict es ep->H b=none:=fun{b o es ep} e d=>by
   cases q:H b with
   |none=>rfl
   |some u =>
    have e':=hA b (by rw[q];simp);subst e';rw[ha] at e;cases e;have d':=d;cases d'
  have nsK:∀{b:Addr} {m:Str->Option Value},s₁.heap.Ns b m->(hidT s₁.heap H).Ns b m:=fun{b m} ⟨o,es,ep,e,d,r⟩=>⟨o,es,ep,base_of e (noA e d),d,r⟩
  have hKb:=fun b o e=>base_of (KX b o e) (by
   cases q:H b with
   |none=>rfl
   |some u =>
    have e':=hA b (by rw[q];simp);subst e';rw[hK (by rw[q];simp)] at e;cases e)
  have hM:Mod K mg (hidT s₁.heap H):=⟨hKb,nsK hns,⟨mb,nsK hb,hbb⟩,let ⟨mc,h1,h2⟩:=hlim;⟨mc,nsK h1,h2⟩⟩
  have e0:Env0 P w K mg (hidT s₁.heap H) Ol [] s₁ H:=⟨rfl,hM,fun b o e=>x1u e,Jw (z5f _ _),trivial,fun b hb=>absurd (show b∈([]:List Addr) from hb) (by simp),hok,.of_eq hg⟩
  refine Hj ((F _ hKb (nsK hns)).run Ol [] s₁ H ⟨[.ref a],[]⟩ [.ref a] [.ref a] _ _ hr e0 (hbind s₁ (.ref a)) (.cons rfl .nil) (hsp H hO hS)) fun r s' h=>?_;cases r with
  |error e=>exact(hCX H e s' h).elim
  |ok fl =>
   cases fl with
   |next=>exact False.elim h
   |brk=>exact False.elim h
   |cont=>exact False.elim h
   |ret u =>
    obtain⟨v,H',os,bare,un,hok',r',q⟩:=h;have q':=q;subst q';obtain rfl:u=Value.bool true:=r';refine⟨rfl,OldK.of_keep fun b o e=>?_,os,bare⟩;cases q:H b with
    |none=>exact un.keep b o e q (by intro z;exact absurd (show b∈([]:List Addr) from z) (by simp)) (by simp)
    |some u =>
     rcases hO b with z|⟨ob,xs,z⟩
     ·grind
     ·have z2:=un.frzs b ob _ z;obtain⟨e1,_⟩:=hok b _ z;obtain⟨e2,_⟩:=hok' b _ z2;rw[e] at e1;cases e1;exact e2
 cases hk:K.lookup a with
 |some o =>
  have e:=KX a o hk;rw[ha] at e;cases e;refine core (fun _=>none) (fun _=>.inl rfl) (.inr ⟨_,vs.toArray,_,hk,rfl,rfl,rfl,by rw[Az,lenV];exact hl,by simpa using rv⟩) (fun b u z=>by have z':(none:Option HO)=some u:=z;cases z') (fun b z=>absurd rfl z) fun z=>absurd rfl z
 |none =>
  refine core (fun b=>if b=a then some (.frz { cls:=.type "list",data:=.seq vs.toArray } (.lst (ns.map V.int))) else none) (fun b=>?_) (.inl (.inr ⟨{ cls:=.type "list",data:=.seq vs.toArray },if_pos rfl⟩)) (fun b u z=>?_) (fun b z=>?_) fun _=>hk
  ·by_cases hb:b=a
   ·simp_all
   ·simp_all
  ·by_cases hb:b=a
   ·have z':=(if_pos hb).symm.trans z;cases z';subst hb;exact⟨ha,by rw[Ab];exact hl,vs,_,rv,ha⟩
   ·grind
  ·grind
theorem walk_of{l:W.OpenLaw}{K:Params->Ak}{CX:World->CXT}{sp:World->Sp}(hn:l.most=some n)(hn2:n<=sizeLine)(hdf:d.params.defaults=[])(hr:Room k Ol)(hY:∀(w:World) (h:Heap),YP w h->(K w.params).In h)(F:∀(w:World) (mg:Str->Option Value) (fa:Addr) (h:Heap),(K w.params).In h->h.Ns Dm mg->mg d.name=some (.ref fa) ->
   ∃fd:FuncData,(∀(s:Shared) (u:Value),Qk s fd ⟨[u],[]⟩ [(x,u)]) /\
    ∀base:Heap,(K w.params).In base->base.Ns Dm mg->FnOk l.prog w (K w.params) mg base (CX w) k fa fd [x] (sp w))(hsp:∀(w:World) (H:Hp) (a:Addr) (ns:List Int),ns.length<=n->Only H->SqL (K w.params) H a (ns.map V.int)->sp w [.ref a] H (fun v _=>v=.bl true) fun _ _ _=>False)(hCX:∀(w:World) (H:Hp) (s:Shared) (e:Value) (s':Shared),CX w [] H s (fun _ _ _=>False) e s'->False):
  W.WalkO q loose XP YP l.row.toRowW d [] (fun f vs=>Ui f vs):=by
 refine Att.attach_call hn hdf fun w s₀ s₁ mg mb fa o pm cd doc a vs ns G Y ho hd hcd hmg hobj hints hlen hg=>?_;have KX:=hY w _ Y;obtain⟨fd,hb,hF⟩:=F w mg fa _ KX G.T.g hmg;exact z9b KX G.T.g G.T.b G.T.builtins G.T.nolimit hg hobj hints (Bz hlen hn2) hr hF hb (fun H hO hS=>hsp w H a ns hlen hO hS) fun H e s'=>hCX w H s₁ e s'
def inClass(s:Stmt)(j:Nat):Stmt:=match s with
 |.ClassDef _ _ _ body _ _ _ _ _ _ _=>body.getD j (.Pass ⟨0,0,0,0⟩)
 |_=>.Pass ⟨0,0,0,0⟩
def defArgs(s:Stmt):Arguments:=match s with
 |.FunctionDef _ a _ _ _ _ _ _ _ _=>a
 |_=>{ posonlyargs:=[],args:=[],vararg:=none,kwonlyargs:=[],kw_defaults:=[],kwarg:=none,defaults:=[] }
def defBody(s:Stmt):List Stmt:=match s with
 |.FunctionDef _ _ b _ _ _ _ _ _ _=>b
 |_=>[]
def defScope(s:Stmt):Scope:=match s with
 |.FunctionDef _ _ _ _ _ _ sc _ _ _=>sc
 |_=>{ kind:=.function,names:=[],isGenerator:=false,isCoroutine:=false }
abbrev CX0:CXT:=fun _ _ _ _ _ _=>False
abbrev E0:XK:=fun _ _ _=>False
theorem pass0:Passes CX0 X E0:=fun _ _ _ _ _ _ _ h=>h.elim
structure Fun (K:Ak) (x qual:Str) (st:Stmt) (f:Addr) (fd:FuncData):Prop where
 ex:∃(oc:Value) (od:Option Addr) (kV doc pm:Value) (an:Option Addr) (cdv ct:Value) (osl:Array (Option Value)),
  fd=Ip x qual (defArgs st) (defBody st) (defScope st) .none kV doc pm an cdv ct/\K.lookup f=some ⟨oc,od,.func fd,osl⟩/\Lj K cdv qual=true
 kp:Hi K (.ref f)=true
section
variable{P:Program}{w:World}{K:Ak}{mg:Str->Option Value}{base:Heap}
theorem Fun.ok{st:Stmt}(F:Fun K x qual st f fd)(S:FnScope N ps (defScope st))(len:∀vs H Q E,sp vs H Q E->vs.length=ps.length)(hbody:∀(cdv:Value) (A:Around) (outer:List Env) (s:Shared) (H:Hp) (vs:List V) (Q:VK) (E:XK),Room k (A.deeper (Jy qual (defScope st) s.heap.objs.size f cdv))->sp vs H Q E ->
   ∃t,PSs (cxOf CX0 P w K mg base N qual (defScope st) f cdv A outer s H E).nox (defBody st) t/\t { nx:=fun _ H'=>Q .non H',rt:=Q } (start N vs) H):FnOk P w K mg base CX0 (k+1) f fd ps sp:=by
 obtain⟨oc,od,kV,doc,pm,an,cdv,ct,osl,rfl,lk,hcd⟩:=F.ex;refine fn_of lk hcd S len fun A outer s H vs Q E hr hsp=>?_
 obtain⟨t,h,q⟩:=hbody cdv A outer s H vs Q E hr hsp;exact⟨t,h.nox,q⟩
theorem Fun.binds{st:Stmt}(F:Fun K x qual st f fd)(h:∀(kV doc pm:Value) (an:Option Addr) (cdv ct:Value) (us:List Value),us.length=ps.length->bindArgs (Ip x qual (defArgs st) (defBody st) (defScope st) .none kV doc pm an cdv ct) ⟨us,[]⟩=pure (ps.zip us)):Binds K fd ps []:=by
 obtain⟨oc,od,kV,doc,pm,an,cdv,ct,osl,rfl,lk,hcd⟩:=F.ex;exact .all (h kV doc pm an cdv ct)
theorem z0e{st:Stmt}{kV:Value}(l:K.lookup f=some ⟨oc,od,.func (Ip x qual (defArgs st) (defBody st) (defScope st) .none kV doc pm an cdv ct),osl⟩)(c:Lj K cdv qual=true)(k:Hi K (.ref f)=true):Fun K x qual st f (Ip x qual (defArgs st) (defBody st) (defScope st) .none kV doc pm an cdv ct):=⟨⟨oc,od,kV,doc,pm,an,cdv,ct,osl,rfl,l,c⟩,k⟩
end
theorem q1c(hr:Room k A):A.units+1<cLine:=Ka (Rp (by decide:1<=64) _) hr.units
section
variable{X:Cx}
theorem pv(i:Nat){x:Str}{pos:Pos}(hN:X.N[i]?=some x:=by rfl)(hv:Vis X.env.scope x:=by first|exact Or.inl rfl|exact Or.inr (Or.inl rfl)|exact Or.inr (Or.inr rfl))(hd:(x==("__debug__" : Str))=false:=by decide)(hcd:(x==("__classdict__" : Str))=false:=by decide):PE X (.Name x pos) (tVar i):=pe_var hN hv hd hcd
end
theorem iteF{B:Prop}(h:B):if false=true then A else B:=by
 exact h
theorem iteT{B:Prop}(h:A):if true=true then A else B:=by
 exact h
theorem ite2{B:Prop}[Decidable c](h1:c->A)(h2:¬c->B):if c then A else B:=by grind
def Same(H H':Hp):Prop:=∀b o,H b=some o->H' b=some o
theorem Same.refl(H:Hp):Same H H:=fun _ _ h=>h
theorem Same.trans(a:Same H H1)(b:Same H1 H2):Same H H2:=fun c o h=>b c o (a c o h)
theorem Same.free(e:Same H H')(h:H' l=Option.none):H l=Option.none:=by
 cases q:H l with
 |none=>rfl
 |some o =>
  rw[e l o q] at h;cases h
theorem Same.seq{K:Ak}(e:Same H H')(h:SqL K H a xs):SqL K H' a xs:=by
 rcases h with(h|⟨o,h⟩)|h
 ·exact .inl (.inl (e _ _ h))
 ·exact .inl (.inr ⟨o,e _ _ h⟩)
 ·exact .inr h
open PySem PySem.Spec PyProof.Rows
abbrev Caps:=List (Str×Nat)
def capV(σ:St):Caps->St
 |[]=>[]
 |(_,i)::r=>(σ[i]?).join::capV σ r
def CapOk(X:Cx)(scope:Scope):Caps->Prop
 |[]=>True
 |(x,i)::r=>(X.N[i]?=some x/\scope.names.lookup x=some .free/\(X.env.scope.names.lookup x=some .cell\/X.env.scope.names.lookup x=some .free))/\CapOk X scope r
def cxComp(X:Cx)(N:List Str)(scope:Scope)(cl:List (Str×Addr))(C:Addr)(fp:List Addr)(s:Shared)(H:Hp):Cx where
 prog:=X.prog
 w:=X.w
 K:=X.K
 mg:=X.mg
 base:=X.base
 A:=X.A
 N:=N
 s₀:=s
 H₀:=H
 env:=Fv scope cl C X.env
 outer:=X.stack
 stack:=X.stack
 ex:=fp
 fn:=fun _=>false
 calm:=X.calm
 pn:=[]
 xe:=fun _ _=>False
theorem z4g(names:List (Str×NameKind))(hh:∀x,(x,NameKind.free)∈names->∃c,env.cells.lookup x=some c):∀acc:List (Str×Addr),
  ∃cl,(forIn names acc (fun(x:Str×NameKind) (r:List (Str×Addr))=>match x with
   |(name,kind)=>if (kind==NameKind.free)=true then do let a<-cellOf env name;pure (ForInStep.yield ((name,a)::r)) else pure (ForInStep.yield r)):Sem (List (Str×Addr)))=pure cl /\
   (∀x c,(x,c)∈cl->(x,c)∈acc\/env.cells.lookup x=some c)/\(∀x,((x,NameKind.free)∈names\/∃c,(x,c)∈acc)->∃c,(x,c)∈cl):=by
 induction names with
 |nil=>intro acc;exact⟨acc,rfl,fun x c h=>.inl h,fun x h=>h.elim (fun z=>nomatch z) id⟩
 |cons n r ih =>
  intro acc;obtain⟨name,kind⟩:=n;by_cases hk:kind=NameKind.free
  ·subst hk;obtain⟨c,hc⟩:=hh name At;obtain⟨cl,e,h1,h2⟩:=ih (fun x hx=>hh x (An _ hx)) ((name,c)::acc);refine⟨cl,?_,fun x d hd=>?_,fun x hx=>?_⟩
   ·rw[Pl];have:cellOf env name=pure c:=by unfold cellOf;rw[hc]
    simp only[beq_self_eq_true,if_true,this];exact e
   ·rcases h1 x d hd with z|z
    ·rcases Ay.mp z with z|z
     ·cases z;exact .inr hc
     ·exact .inl z
    ·exact .inr z
   ·refine h2 x ?_;rcases hx with hx|⟨d,hd⟩
    ·rcases Ay.mp hx with z|z
     ·simp_all
     ·exact .inl z
    ·grind
  ·obtain⟨cl,e,h1,h2⟩:=ih (fun x hx=>hh x (An _ hx)) acc;refine⟨cl,?_,h1,fun x hx=>h2 x ?_⟩
   ·simp_all
   ·grind
theorem q8x{cl:List (Str×Addr)}(h:(x,c)∈cl):∃d,cl.lookup x=some d:=by
 induction cl with
 |nil=>cases h
 |cons y r ih =>
  obtain⟨n,a⟩:=y;cases e:x==n with
  |true=>simp_all
  |false =>
   rcases Ay.mp h with z|z
   ·cases z;simp at e
   ·obtain⟨d,hd⟩:=ih z;exact⟨d,by simp only[Jb,e];exact hd⟩
theorem z4h(hh:∀x,(x,NameKind.free)∈scope.names->∃c,env.cells.lookup x=some c):
  ∃cl,Uj scope env=pure cl/\(∀x c,cl.lookup x=some c->env.cells.lookup x=some c)/\∀x,(x,NameKind.free)∈scope.names->∃c,cl.lookup x=some c:=by
 obtain⟨cl,e,h1,h2⟩:=z4g scope.names hh [];refine⟨cl,?_,fun x c h=>?_,fun x hx=>?_⟩
 ·unfold Uj;have e2:=congrArg (fun m:Sem (List (Str×Addr))=>m >>= fun cs=>(pure cs:Sem _)) e;exact e2
 ·rcases h1 x c (Ff h) with z|z
  ·cases z
  ·exact z
 ·obtain⟨c,hc⟩:=h2 x (.inl hx);exact q8x hc
theorem q4i{env:Env}{k:NameKind}(hk:k=.cell\/k=.free):∀{names:List (Str×NameKind)} {x:Str},(∀y∈names,y.2≠.cell) ->
  (names.map fun(n,k)=>if (k==NameKind.free&&env.scope.kind==.function&&env.kindOf n==some .cell) then(n,NameKind.cell) else(n,k)).lookup x=some k->(x,NameKind.free)∈names
 |[],_,_,h=>by simp at h
 |(n,k')::r,x,hc,h=>by
  have ih:=@q4i env k hk r x fun y hy=>hc y (An _ hy);by_cases c:(k'==NameKind.free&&env.scope.kind==.function&&env.kindOf n==some .cell)=true
  ·have h':((n,NameKind.cell)::r.map fun(n,k)=>if (k==NameKind.free&&env.scope.kind==.function&&env.kindOf n==some .cell) then(n,NameKind.cell) else(n,k)).lookup x=some k:=by
    have e:(if (k'==NameKind.free&&env.scope.kind==.function&&env.kindOf n==some .cell)=true then(n,NameKind.cell) else(n,k'))=(n,NameKind.cell):=if_pos c;rw[<- e];exact h
   cases e:x==n with
   |true =>simp_all
   |false=>exact An _ (ih (by simp only[Jb,e] at h';exact h'))
  ·have h':((n,k')::r.map fun(n,k)=>if (k==NameKind.free&&env.scope.kind==.function&&env.kindOf n==some .cell) then(n,NameKind.cell) else(n,k)).lookup x=some k:=by
    have e:(if (k'==NameKind.free&&env.scope.kind==.function&&env.kindOf n==some .cell)=true then(n,NameKind.cell) else(n,k'))=(n,k'):=if_neg c;rw[<- e];exact h
   cases e:x==n with
   |true =>simp_all
   |false=>exact An _ (ih (by simp only[Jb,e] at h';exact h'))
theorem q5t{env:Env}:∀{names:List (Str×NameKind)} {x:Str},names.lookup x=some .free ->
    ((names.map fun(n,k)=>if (k==NameKind.free&&env.scope.kind==.function&&env.kindOf n==some .cell) then(n,NameKind.cell) else(n,k)).lookup x=some .cell \/
     (names.map fun(n,k)=>if (k==NameKind.free&&env.scope.kind==.function&&env.kindOf n==some .cell) then(n,NameKind.cell) else(n,k)).lookup x=some .free)
  |[],_,h=>by simp at h
  |(n,k')::r,x,h=>by
    have ih:=@q5t env r x;by_cases c:(k'==NameKind.free&&env.scope.kind==.function&&env.kindOf n==some .cell)=true
    · have e:(if (k'==NameKind.free&&env.scope.kind==.function&&env.kindOf n==some .cell)=true then(n,NameKind.cell) else(n,k'))=(n,NameKind.cell):=if_pos c;show(List.lookup x ((if (k'==NameKind.free&&env.scope.kind==.function&&env.kindOf n==some .cell)=true then(n,NameKind.cell) else(n,k'))::_)=_\/List.lookup x ((if (k'==NameKind.free&&env.scope.kind==.function&&env.kindOf n==some .cell)=true then(n,NameKind.cell) else(n,k'))::_)=_);rw[e];cases ex:x==n with
      |true=>simp_all
      |false =>
        simp only[Jb,ex] at h ⊢;exact ih h
    · have e:(if (k'==NameKind.free&&env.scope.kind==.function&&env.kindOf n==some .cell)=true then(n,NameKind.cell) else(n,k'))=(n,k'):=if_neg c;show(List.lookup x ((if (k'==NameKind.free&&env.scope.kind==.function&&env.kindOf n==some .cell)=true then(n,NameKind.cell) else(n,k'))::_)=_\/List.lookup x ((if (k'==NameKind.free&&env.scope.kind==.function&&env.kindOf n==some .cell)=true then(n,NameKind.cell) else(n,k'))::_)=_);rw[e];cases ex:x==n with
      |true =>simp_all
      |false =>
        simp only[Jb,ex] at h ⊢;exact ih h
theorem q6l(σ:St):∀caps:Caps,(capV σ caps).length=caps.length
 |[]=>rfl
 |(_,_)::r=>congrArg (· + 1) (q6l σ r)
theorem z2x:∀{caps:Caps} {j:Nat} {x:Str} {v:V},CapOk X scope caps->(caps.map (·.1))[j]?=some x->(capV σ caps)[j]?=some (some v) ->
  ∃i:Nat,X.N[i]?=some x/\σ[i]?=some (some v)/\scope.names.lookup x=some .free/\(X.env.scope.names.lookup x=some .cell\/X.env.scope.names.lookup x=some .free)
 |[],_,_,_,_,h,_=>by simp at h
 |(y,i)::r,0,x,v,hc,h1,h2=>by
  simp at h1;subst h1;have e:(σ[i]?).join=some v:=by simpa[capV] using h2
  refine⟨i,hc.1.1,?_,hc.1.2⟩;cases q:σ[i]? with
  |none=>rw[q] at e;cases e
  |some z=>simp_all
 |(y,i)::r,j+1,x,v,hc,h1,h2=>z2x hc.2 (by simpa using h1) (by simpa[capV] using h2)
def tg0(tg:List Str)(σ:St)(caps:Caps):St:=tg.map (fun _=>none)++capV σ caps
theorem Inv.ofcomp{σ:St}{C:Addr}(tg:List Str)(I:Inv X pins σ H s)(hkind:scope.kind=.function)(hnc:∀y∈scope.names,y.2≠.cell)(hc1:∀x c,cl.lookup x=some c->X.env.cells.lookup x=some c)(hc2:∀x,(x,NameKind.free)∈scope.names->∃c,cl.lookup x=some c)(hf:∀b∈fp,FpOk X pins H b)(hfo:∀b∈fp,∃o,s.heap.get? b=some o)(hC:s.heap.objs.size<=C)(hns:h₁.Ns C m)(hk:∀b o,s.heap.get? b=some o->h₁.get? b=some o)(co:CapOk X scope caps):
  Inv (cxComp X (tg++caps.map (·.1)) scope cl C fp s H) [] (tg0 tg σ caps) H { s with heap:=h₁,toks:=tk }:=by
 have hfs:∀b∈fp,b∉frs X.stack:=fun b hb hx=>by
  rcases Ay.mp (I.stkSub b hx) with z|z
  ·exact(hf b hb).2.1 z
  ·exact(hf b hb).2.2.1 z
 have ok:(cxComp X (tg++caps.map (·.1)) scope cl C fp s H).Ok:=by
  refine⟨I.ok.mod,hkind,I.ok.glob,I.ok.blt,hC,fun x y c h1 h2=>I.ok.inj x y c (hc1 x c h1) (hc1 y c h2),fun x hx=>?_,fun x c h=>(nomatch h),I.ok.hd,I.ok.frames,.inl rfl,fun b hb=>⟨?_,fun x c h=>(hf b hb).2.2.2.2.1 x c (hc1 x c h)⟩,
   I.bs,Bz I.ok.bsz I.sz,fun b o e hb=>?_,hfs,I.stack,I.stkFree⟩
  ·rcases hx with hx|hx
   ·exact hc2 x (q4i (.inl rfl) hnc hx)
   ·exact hc2 x (q4i (.inr rfl) hnc hx)
  ·obtain⟨o,e⟩:=hfo b hb;exact Bf (Bt (Au e) hC)
  ·rcases(hf b hb).2.2.2.1 with z|z
   ·exact I.ok.noex b o e z
   ·exact absurd (Bt (Au (I.ok.bs b o e).1) z) (Eu _)
 refine⟨ok,rfl,I.bare,Un.kept hk,⟨m,hns,fun j x v h1 h2 h3=>?_⟩,fun x c h=>?_,I.hok.fresh hC,fun x c h=>I.freeC x c (hc1 x c h),fun p hp=>(nomatch hp),I.hok.kept hk,?_⟩
 ·have h1':(tg++caps.map (·.1))[j]?=some x:=h1;have h2':(tg.map (fun _=>none)++capV σ caps)[j]?=some (some v):=h2;by_cases hj:j<tg.length
  ·rw[Cc (by simpa using hj),Ae] at h2';cases e:tg[j]? with
   |none=>grind
   |some z=>simp_all
  ·rw[Ef (by simpa using hj)] at h2' h1';rw[Ab] at h2';obtain⟨i,e1,e2,e3,e4⟩:=z2x co h1' h2';obtain⟨mX,hn,hl⟩:=I.loc;obtain⟨u,r,l⟩:=hl i x v e1 e2 (.inr e4);refine⟨u,r,?_⟩;have key:∃c,X.env.cells.lookup x=some c/\s.heap.IsCell c (some u):=by
    rcases l with⟨k,_⟩|⟨_,c,e,z⟩
    ·have k':X.env.scope.names.lookup x=some .local:=k;rcases e4 with e4|e4 <;> · rw[e4] at k';cases k'
    ·exact⟨c,e,z⟩
   obtain⟨c,ec,o,ho,hd⟩:=key;obtain⟨d,ed⟩:=hc2 x (Ff e3);have hdc:=Bj ((hc1 x d ed).symm.trans ec);subst hdc;exact .inr ⟨q5t e3,d,ed,o,hk _ o ho,hd⟩
 ·obtain⟨v,o,ho,hd⟩:=I.cell x c (hc1 x c h);exact⟨v,o,hk _ o ho,hd⟩
 ·show(tg.map (fun _=>(none:Option V))++capV σ caps).length=(tg++caps.map (·.1)).length;rw[Al,Al,Ab,Ab,q6l]
def PIfs(X:Cx)(ifs:List Expr)(t:TT):Prop :=
 ∀(pins:List (Addr×Obj)) (s:Shared) (σ:St) (H:Hp) (Q:Bool->Hp->Prop),Inv X pins σ H s->t σ H Q ->
  wpAny (model X.prog X.w) X.A (forIn ifs true fun c r=>if r=true then do let ok<-isTrue c X.env (eval c X.env);pure (ForInStep.yield ok) else pure (ForInStep.yield r)) (TP X pins σ Q) X.xe s
def tIf0:TT:=fun _ H Q=>Q true H
theorem q5e:PIfs X [] tIf0:=fun pins s σ H Q I h=>wpAny_tests_nil ⟨H,I,h⟩
theorem q3p{X:Cx}{c:Expr}{t:TT}(h:PT X c t):PIfs X [c] t:=fun pins s σ H Q I q=>wpAny_tests_one (h pins s σ H Q I q)
def Keeps0(σ0 σ2:St):Prop:=σ0.length=σ2.length/\∀(i:Nat) v,σ0[i]?=some (some v)->σ2[i]?=some (some v)
def CompW(J:It)(g:TG)(tt:TT)(te:TE)(σ0:St)(D:Addr)(Fin:List V->Hp->Prop)(H1:Hp):Prop :=
 ∃W:Nat->Nat->List V->Hp->Prop,(∃m,W 0 m [] (upd H1 D (.lst [])))/\∀i m ys H,W i m ys H->H D=some (.lst ys) /\
  ((J.stop i H/\Fin ys H)\/(J.go i H/\∃N:List V->Hp->Prop,(∀zs H',N zs H'->∃m',m'<m/\W (i+1) m' zs H')/\∀x H',J.yld i H x H'->g x σ0 H' fun σ2 H2=>Keeps0 σ0 σ2/\tt σ2 H2 fun b H3 =>
   if b=true then te σ2 H3 fun v H4=>H4 D=some (.lst ys)/\ys.length<sizeLine/\N (ys++[v]) (upd H4 D (.lst (ys++[v])))
   else N ys H3))
theorem z2y{σ:St}{Fin:Addr->List V->Hp->Prop}{RR:Value->Addr->Result->Shared->Prop}(hc:X.calm=true)(hkind:scope.kind=.function)(hnc:∀y∈scope.names,y.2≠.cell)(hc1:∀x c,cl.lookup x=some c->X.env.cells.lookup x=some c)(hc2:∀x,(x,NameKind.free)∈scope.names->∃c,cl.lookup x=some c)(co:CapOk X scope caps)(hg:∀C s H,PG (cxComp X (tg++caps.map (·.1)) scope cl C fp s H) target g)(ht:∀C s H,PIfs (cxComp X (tg++caps.map (·.1)) scope cl C fp s H) ifs tt)(he:∀C s H,PE (cxComp X (tg++caps.map (·.1)) scope cl C fp s H) elt te)(I2:Inv X pins σ H1 s₂)(T:Turn X.prog X.w X.K target J fp it tn)(st:tn 0 s₂.heap)(hf:∀b∈fp,FpOk X pins H1 b)(hw:∀D,H1 D=none->CompW J g tt te (tg0 tg σ caps) D (Fin D) H1)(hRR:∀D C ys H' s',H1 D=none->Inv X pins σ H' s'->(∃m,s'.heap.Ns C m)->FpOk X pins H' C->Fin D ys H'->RR (.ref D) C (.ok .next) s'):
  wpAny (model X.prog X.w) X.A (newList []) (fun acc s₃=>wpAny (model X.prog X.w) X.A (newFunctionEnv scope X.env.globals cl [] X.env.qual none .none (some X.env)) (fun cenv s₄ =>
   Ew (model X.prog X.w) X.A (.compStart (.ListComp elt [⟨target,iter,ifs,0⟩] scope pos) 0 (.ref it) acc { cenv with scope:=relabel scope X.env }) (RR acc cenv.locals) s₄) E s₃) E s₂:=by
 have I3:Inv X pins σ (upd H1 s₂.heap.objs.size (.lst [])) { s₂ with heap:=s₂.heap.push { cls:=.type "list",dict:=none,data:=.seq ([]:List Value).toArray },toks:=s₂.toks }:=I2.lnew .nil (Bl _);have hD0:=I2.fresh;refine Br (Rc hnc (by intro y hy;simp at hy) (fun h₁ hns₁ hsb₁=>?_) hkind);dsimp only at hns₁ hsb₁ ⊢;generalize hDd:s₂.heap.objs.size=D at I3 hD0 hns₁ hsb₁ ⊢;generalize hs3:({ s₂ with heap:=s₂.heap.push { cls:=.type "list",dict:=none,data:=.seq ([]:List Value).toArray } }:Shared)=s₃ at I3 hns₁ hsb₁ ⊢;have e3:s₂.heap.push { cls:=.type "list",dict:=none,data:=.seq ([]:List Value).toArray }=s₃.heap:=by grind
 have o3:({ s₂ with heap:=h₁,toks:=s₂.toks+([]:List (Str×Value)).length }:Shared)={ s₃ with heap:=h₁,toks:=s₂.toks }:=by grind
 have size3:s₃.heap.objs.size=D+1:=by rw[<- e3,Ex,hDd]
 rw[e3] at hns₁ hsb₁ ⊢;have old3:∀b o,s₂.heap.get? b=some o->s₃.heap.get? b=some o:=fun b o e=>by rw[<- e3];exact Ah _ e
 generalize hCd:s₃.heap.objs.size=C at hns₁ hsb₁ ⊢;have hk:=fun b o e=>hsb₁.extBut b o (by rw[<- hCd];exact Bf (Au e)) (Ah _ e);have fpo:∀b∈fp,∃o,s₂.heap.get? b=some o:=fun b hb=>by obtain⟨o,e,_⟩:=T.obj 0 _ st b hb;exact⟨o,e⟩
 have fpne:∀b∈fp,b≠D:=fun b hb=>by obtain⟨o,e⟩:=fpo b hb;rw[<- hDd];exact Bf (Au e)
 have hf3:∀b∈fp,FpOk X pins (upd H1 D (.lst [])) b:=fun b hb=>⟨by rw[q0c (fpne b hb)];exact(hf b hb).1,(hf b hb).2⟩
 have IY:=Inv.ofcomp (tk:=s₂.toks) tg I3 hkind hnc hc1 hc2 hf3 (fun b hb=>let ⟨o,e⟩:=fpo b hb;⟨o,old3 b o e⟩) (Jw hCd) hns₁ hk co;have FC:FpOk X pins H1 C:=by
  have z:=I3.fpOk (H':=H1) (Jw hCd) (I2.hok.fresh (by rw[hDd,<- hCd,size3];exact Ig _));exact z
 generalize hY:cxComp X (tg++caps.map (·.1)) scope cl C fp s₃ (upd H1 D (.lst []))=Y at IY;have hgY:PG Y target g:=by grind
 have htY:PIfs Y ifs tt:=by grind
 have heY:PE Y elt te:=by grind
 have hYp:Y.prog=X.prog:=by rw[<- hY];rfl
 have hYw:Y.w=X.w:=by rw[<- hY];rfl
 have hYK:Y.K=X.K:=by rw[<- hY];rfl
 have hYA:Y.A=X.A:=by rw[<- hY];rfl
 have hYe:Y.env=Fv scope cl C X.env:=by rw[<- hY];rfl
 have hYx:Y.ex=fp:=by rw[<- hY];rfl
 have hYn:Y.pn=[]:=by rw[<- hY];rfl
 have hYc:Y.calm=true:=by rw[<- hY];exact hc
 have hYxe:Y.xe=fun _ _=>False:=by rw[<- hY];rfl
 have fpY:∀{H':Hp},(∀b∈fp,H' b=none)->∀b∈fp,FpOk Y [] H' b:=fun{H'} hn b hb=>by
  refine⟨hn b hb,?_,?_,.inl (by rw[hYx];exact hb),fun x c e=>?_,fun p hp=>?_⟩
  ·have:=(IY.ok.exf b (by rw[hYx];exact hb)).1;exact this
  ·exact IY.ok.exfs b (by rw[hYx];exact hb)
  ·exact(IY.ok.exf b (by rw[hYx];exact hb)).2 x c e
  ·grind
 obtain⟨W,⟨m0,w0⟩,turn⟩:=hw D hD0;have stY:=T.keep 0 _ _ st fun b hb o e=>hk b o (old3 b o e)
 have back:∀{H':Hp} {s':Shared} {σ':St},Inv Y [] σ' H' s'->Inv X pins σ H' s':=fun{H' s' σ'} IE=>by
  have hun:=IE.base;have hos:=IE.os;rw[<- hY] at hun hos;exact I3.call' hos hun (by have z:=IE.hok;rw[hYp,hYw] at z;exact z) IE.bare fun b hb=>⟨(hf b hb).2.2.2.1,(hf b hb).2.1,(hf b hb).2.2.2.2.1,(hf b hb).2.2.2.2.2⟩
 have gY:∀pins s σ H v u Q (E':Value->Shared->Prop),Inv Y pins σ H s->RelV v u->g v σ H Q->wpAny (model X.prog X.w) X.A (assign target (Fv scope cl C X.env) u) (fun _ s'=>∃σ' H',Inv Y pins σ' H' s'/\Q σ' H') E' s:=fun pins s σ H v u Q E' IE r q=>by
  have z:=hgY pins s σ H v u Q IE r q;rw[hYp,hYw,hYA,hYe,hYxe] at z;exact Cq z (fun _ _ x=>x) fun _ _ f=>f.elim
 have tY:∀pins s σ H Q (E':Value->Shared->Prop),Inv Y pins σ H s->tt σ H Q->wpAny (model X.prog X.w) X.A (forIn ifs true fun c r=>if r=true then do let ok<-isTrue c (Fv scope cl C X.env) (eval c (Fv scope cl C X.env));pure (ForInStep.yield ok) else pure (ForInStep.yield r)) (TP Y pins σ Q) E' s:=fun pins s σ H Q E' IE q=>by
  have z:=htY pins s σ H Q IE q;rw[hYp,hYw,hYA,hYe,hYxe] at z;exact Cq z (fun _ _ x=>x) fun _ _ f=>f.elim
 have eY:∀pins s σ H Q (E':Value->Shared->Prop),Inv Y pins σ H s->te σ H Q->wpAny (model X.prog X.w) X.A (eval elt (Fv scope cl C X.env)) (EP Y pins σ Q) E' s:=fun pins s σ H Q E' IE q=>by
  have z:=heY pins s σ H Q IE q;rw[hYp,hYw,hYA,hYe,hYxe] at z;exact Cq z (fun _ _ x=>x) fun _ _ f=>f.elim
 have aY:∀pins s σ H ys v u Q (E':Value->Shared->Prop),Inv Y pins σ H s->RelV v u->H D=some (.lst ys)->ys.length<sizeLine->Q .non (upd H D (.lst (ys++[v])))->wpAny (model X.prog X.w) X.A (call (.builtin "list.append") [.ref D,u]) (EP Y pins σ Q) E' s:=fun pins s σ H ys v u Q E' IE r hH hz q=>by
  have z:=q1w pins s σ H (.ref D) [v] (.ref D) [u] Q IE rfl (.cons r .nil) ⟨D,ys,v,rfl,rfl,hH,hz,q⟩;rw[hYp,hYw,hYA,hYxe] at z;exact Cq z (fun _ _ x=>x) fun _ _ f=>f.elim
 have tiY:∀i pins s σ H (E':Value->Shared->Prop),Inv Y pins σ H s->(∀b∈fp,FpOk Y pins H b)->tn i s.heap->J.go i H ->
   wpAny (model X.prog X.w) X.A (Gb (.ref it)) (fun r s1=>∃u,r=some u /\
    wpAny (model X.prog X.w) X.A (Ly target (.ref it) u) (fun _ s2=>∃x H',Inv Y pins σ H' s2/\RelV x u/\J.yld i H x H'/\tn (i+1) s2.heap/\∀b∈fp,H' b=none) E' s1) E' s:=fun i pins s σ H E' IE hfy st go=>by
  have z:=T.item Y hYp hYw hYK hYc i pins s σ H E' IE hfy st go;rw[hYA] at z;exact z
 have tdY:∀i pins s σ H (E':Value->Shared->Prop),Inv Y pins σ H s->(∀b∈fp,FpOk Y pins H b)->tn i s.heap->J.stop i H ->
   wpAny (model X.prog X.w) X.A (Gb (.ref it)) (fun r s1=>r=none/\Inv Y pins σ H s1) E' s:=fun i pins s σ H E' IE hfy st go=>by
  have z:=T.done Y hYp hYw hYK hYc i pins s σ H E' IE hfy st go;rw[hYA] at z;exact z
 have loop:Ew (model X.prog X.w) X.A (.compLoop (.ListComp elt [⟨target,iter,ifs,0⟩] scope pos) 0 (.ref it) (.ref D) (Fv scope cl C X.env)) (RR (.ref D) C) { s₃ with heap:=h₁,toks:=s₂.toks }:=by
  refine codeAny_loop rfl (fun n s'=>∃i ys H',Inv Y [] (tg0 tg σ caps) H' s'/\tn i s'.heap/\(∀b∈fp,H' b=none)/\W i n ys H') ?_ m0 ⟨0,[],_,IY,stY,fun b hb=>(hf3 b hb).1,w0⟩;rintro n s4 ⟨i,ys,H4,I4,st4,fr4,w4⟩;refine wpAny_noted ?_;obtain⟨hHD,alt⟩:=turn i n ys H4 w4;rcases alt with⟨stop,fin⟩|⟨go,N,hN,step⟩
  ·refine Aa (Gw (Aa (thn (tdY i [] s4 _ H4 _ I4 (fpY fr4) st4 stop) fun r s5 ⟨hr,I5⟩=>?_)));subst hr;refine Ad (hRR D C ys H4 s5 hD0 (back I5) ?_ ⟨?_,FC.2⟩ fin)
   ·obtain⟨m,hm,_⟩:=I5.loc;rw[hYe] at hm;exact⟨m,hm⟩
   ·have z:=I5.free;rw[hYe] at z;exact z
  ·refine Aa (Gw (Aa (thn (tiY i [] s4 _ H4 _ I4 (fpY fr4) st4 go) fun r s5 ⟨u,hr,h5⟩=>?_)));subst hr;refine Aa (thn h5 fun _ s6 ⟨x,H6,I6,r6,y6,st6,fr6⟩=>?_);have I6':=I6.pinned (fpY fr6) (T.obj _ _ st6);refine Aa (thn (gY _ s6 _ H6 x u _ _ I6' r6 (step x H6 y6)) fun _ s7 ⟨σ7,H7,I7,kp,q7⟩=>?_);refine Aa (thn (tY _ s7 σ7 H7 _ _ I7 q7) fun b s8 ⟨H8,I8,q8⟩=>?_);have again:∀{H9:Hp} {s9:Shared} {zs:List V} {m':Nat},Inv Y ([]++pinsAt fp s6.heap) σ7 H9 s9->m'<n->W (i+1) m' zs H9->∃m,m<n/\∃i ys H',Inv Y [] (tg0 tg σ caps) H' s9/\tn i s9.heap/\(∀b∈fp,H' b=none)/\W i m ys H':=fun{H9 s9 zs m'} I9 hm w9=>by
    refine⟨m',hm,i+1,zs,H9,I9.unpinned.weak kp.1 kp.2,T.keep _ _ _ st6 fun b hb o e=>(I9.pin (b,o) (Bk _ (Bk _ (q2k hb e)))).1,fun b hb=>?_,w9⟩;obtain⟨o,e,d⟩:=T.obj _ _ st6 b hb;exact(I9.pin (b,o) (Bk _ (Bk _ (q2k hb e)))).2.1
   cases b with
   |true =>
    refine Aa (Aa (thn (eY _ s8 σ7 H8 _ _ I8 q8) fun v s9 ⟨vv,H9,I9,r9,hH9,hz9,n9⟩=>?_));obtain⟨m',hm',w9⟩:=hN _ _ n9;refine Aa (thn (aY _ s9 σ7 H9 ys vv v (fun _ H10=>W (i+1) m' (ys++[vv]) H10) _ I9 r9 hH9 hz9 w9) fun _ s10 ⟨_,H10,I10,_,w10⟩=>?_);exact Ad (Ad ⟨rfl,again I10 hm' w10⟩)
   |false =>
    obtain⟨m',hm',w8⟩:=hN _ _ q8;exact Ad ⟨rfl,again I8 hm' w8⟩
 rw[o3];exact codeAny_compStart_list loop (T.self _ 0 _ _ _ stY loop)
def isCF(k:Option NameKind):Bool:=k==some .cell||k==some .free
def capChk(N:List Str)(names outer:List (Str×NameKind)):Caps->Bool
 |[]=>true
 |(x,i)::r=>decide (N[i]?=some x)&&(names.lookup x==some .free)&&isCF (outer.lookup x)&&capChk N names outer r
def compChk(N:List Str)(outer scope:Scope)(caps:Caps):Bool :=
 (scope.kind==.function)&&(scope.names.all fun y=>y.2 != .cell&&(y.2 != .local||scope.names.lookup y.1==some .local)&&(y.2 != .free||isCF (outer.names.lookup y.1)))&&capChk N scope.names outer.names caps
theorem z5y(h:isCF k=true):k=some .cell\/k=some .free:=by
 unfold isCF at h;simpa using h
theorem z0f:∀{caps:Caps},capChk X.N scope.names X.env.scope.names caps=true->CapOk X scope caps
 |[],_=>trivial
 |(x,i)::r,h=>by
  unfold capChk at h;simp only[Lk] at h;obtain⟨⟨⟨h1,h2⟩,h3⟩,h4⟩:=h;exact⟨⟨of_decide_eq_true h1,by simpa using h2,z5y h3⟩,z0f h4⟩
theorem q4a(h:compChk X.N X.env.scope scope caps=true):
  scope.kind=.function/\(∀y∈scope.names,y.2≠.cell)/\(∀y∈scope.names,y.2=.local->scope.names.lookup y.1=some .local)/\(∀x,(x,NameKind.free)∈scope.names->X.env.scope.names.lookup x=some .cell\/X.env.scope.names.lookup x=some .free)/\CapOk X scope caps:=by
 unfold compChk at h;simp only[Lk,Ot] at h;obtain⟨⟨h1,h2⟩,h3⟩:=h;refine⟨by simpa using h1,fun y hy e=>?_,fun y hy e=>?_,fun x hx=>?_,z0f h3⟩
 ·have z:=(h2 y hy).1.1;rw[e] at z;simp at z
 ·have z:=(h2 y hy).1.2;rw[e] at z;simpa using z
 ·have z:=(h2 _ hx).2;exact z5y (by simpa using z)
def tComp(wi:TI)(g:TG)(tt:TT)(te:TE)(tg:List Str)(caps:Caps):TE:=fun σ H Q=>wi σ H fun J H1=>∀D,H1 D=none->CompW J g tt te (tg0 tg σ caps) D (fun _ H'=>Q (.ref D) H') H1
section
variable{X:Cx}{iter target elt:Expr}{ifs:List Expr}{scope:Scope}{pos:Pos}{wi:TI}{g:TG}{tt:TT}{te:TE}
theorem q8y{σ:St}(I:Inv X pins σ H s)(hfree:∀x,(x,NameKind.free)∈scope.names->X.env.scope.names.lookup x=some .cell\/X.env.scope.names.lookup x=some .free):
  ∃cl,Uj scope X.env=pure cl/\(∀x c,cl.lookup x=some c->X.env.cells.lookup x=some c)/\∀x,(x,NameKind.free)∈scope.names->∃c,cl.lookup x=some c :=
 z4h fun x hx=>I.ok.has x (hfree x hx)
theorem q3c(tg:List Str)(caps:Caps)(hc:X.calm=true)(hi:PI X target iter wi)(hg:∀cl C fp s H,PG (cxComp X (tg++caps.map (·.1)) scope cl C fp s H) target g)(ht:∀cl C fp s H,PIfs (cxComp X (tg++caps.map (·.1)) scope cl C fp s H) ifs tt)(he:∀cl C fp s H,PE (cxComp X (tg++caps.map (·.1)) scope cl C fp s H) elt te)(hk:compChk X.N X.env.scope scope caps=true:=by rfl)(hs:∀x,Il iter X.env x=pure x:=by intro _;rfl):
  PE X (.ListComp elt [⟨target,iter,ifs,0⟩] scope pos) (tComp wi g tt te tg caps):=by
 intro pins s σ H Q I h;obtain⟨hkind,hnc,hnames,hfree,co⟩:=q4a hk;obtain⟨cl,hclos,hc1,hc2⟩:=q8y I hfree;refine Hn rfl hs hclos hkind hnames (thn (hi pins s σ H _ I h) fun v s1 h1=>thn h1 fun itv s2 h2=>?_);obtain⟨it,fp,tn,J,H2,e,I2,T,st2,f2,hw⟩:=h2;subst e;refine z2y hc hkind hnc hc1 hc2 co (fun C s H=>hg cl C fp s H) (fun C s H=>ht cl C fp s H) (fun C s H=>he cl C fp s H) I2 T st2 f2 hw ?_;intro D C ys H' s' hD I' hm F fin;obtain⟨m,hm⟩:=hm;refine⟨m,hm,fun h' hsb=>⟨.ref D,H',I'.turned (t':=s'.toks) (fun b o hb e=>(hsb.2 b hb).trans e) F.1 F.2.1 F.2.2.2.1 F.2.2.2.2.1 F.2.2.2.2.2,rfl,fin⟩⟩
def tSetC(wi:TI)(g:TG)(tt:TT)(te:TE)(tg:List Str)(caps:Caps)(i:Nat):TS:=fun D' σ H=>wi σ H fun J H1=>∀D,H1 D=none->CompW J g tt te (tg0 tg σ caps) D (fun _ H'=>D'.nx (σ.set i (some (.ref D))) H') H1
theorem q6m{i:Nat}{y:Str}{py spos:Pos}(tg:List Str)(caps:Caps)(hN:X.N.Nodup)(hiN:X.N[i]?=some y)(hx:Loc X.env.scope y)(hc:X.calm=true)(hi:PI X target iter wi)(hg:∀cl C fp s H,PG (cxComp X (tg++caps.map (·.1)) scope cl C fp s H) target g)(ht:∀cl C fp s H,PIfs (cxComp X (tg++caps.map (·.1)) scope cl C fp s H) ifs tt)(he:∀cl C fp s H,PE (cxComp X (tg++caps.map (·.1)) scope cl C fp s H) elt te)(hk:compChk X.N X.env.scope scope caps=true:=by rfl)(hs:∀x,Il iter X.env x=pure x:=by intro _;rfl)(hsw:Jt (.ListComp elt [⟨target,iter,ifs,0⟩] scope pos) (some (.Name y py)) spos.line X.env=pure true:=by rfl)(hf:X.fn y=true\/X.env.scope.names.lookup y=some .local:=by first|exact .inl rfl|exact .inr rfl|assumption):
  PS X (.Assign [.Name y py] (.ListComp elt [⟨target,iter,ifs,0⟩] scope pos) spos) (tSetC wi g tt te tg caps i):=by
 intro pins s σ H D' I h;obtain⟨hkind,hnc,hnames,hfree,co⟩:=q4a hk;obtain⟨cl,hclos,hc1,hc2⟩:=q8y I hfree;rw[Qm _ _ _ _ hsw];refine Aa (Gw (Aa ?_));refine Aa (Cq (Hn (use:=some (assign (.Name y py) X.env)) rfl hs hclos hkind hnames
  (thn (hi pins s σ H _ I h) fun v s1 h1=>thn h1 fun itv s2 h2=>?_)) (fun _ s' hq=>Ad (Ad hq)) fun _ _ e=>e)
 obtain⟨it,fp,tn,J,H2,e,I2,T,st2,f2,hw⟩:=h2;subst e;refine z2y (RR:=fun acc C=>compPost (model X.prog X.w) X.A X.xe (some (assign (.Name y py) X.env)) (fun _ s'=>SP X pins D' .next s') acc C) (Fin:=fun D _ H'=>D'.nx (σ.set i (some (.ref D))) H') hc hkind hnc hc1 hc2 co (fun C s H=>hg cl C fp s H) (fun C s H=>ht cl C fp s H) (fun C s H=>he cl C fp s H) I2 T st2 f2 hw ?_;intro D C ys H' s' hD I' hm F fin;obtain⟨m,hm⟩:=hm;refine Nt (q6d (v:=.ref D) I' hN hiN hx rfl (fun s'' I'' hsb=>?_) hf);obtain⟨a,sb,ha⟩:=hsb;have hCa:C≠a:=by
  rcases ha with ha|ha
  ·rw[ha];exact F.2.1
  ·exact fun z=>F.2.2.2.2.1 y a ha z.symm
 refine⟨m,hm.sameBut sb hCa,fun h' hs'=>?_⟩;exact⟨_,H',I''.turned (t':=s''.toks) (fun b o hb e=>(hs'.2 b hb).trans e) F.1 F.2.1 F.2.2.2.1 F.2.2.2.2.1 F.2.2.2.2.2,fin⟩
end
theorem q5f{Fin:List V->Hp->Prop}(Pv:Nat->List V->Hp->Prop)(h0:Pv 0 [] (upd H1 D (.lst [])))(hl:∀i ys H,Pv i ys H->H D=some (.lst ys))(hgo:∀i ys H,i<n->Pv i ys H->J.go i H)(hstop:∀ys H,Pv n ys H->J.stop n H)(hs:∀i ys H x H',i<n->Pv i ys H->J.yld i H x H'->g x σ0 H' fun σ2 H2=>Keeps0 σ0 σ2/\tt σ2 H2 fun b H3 =>
   if b=true then te σ2 H3 fun v H4=>H4 D=some (.lst ys)/\ys.length<sizeLine/\Pv (i+1) (ys++[v]) (upd H4 D (.lst (ys++[v]))) else Pv (i+1) ys H3)(hd:∀ys H,Pv n ys H->Fin ys H):CompW J g tt te σ0 D Fin H1:=by
 refine⟨fun i m ys H=>m=n-i/\i<=n/\Pv i ys H,⟨n,by simp,Bl _,h0⟩,?_⟩;rintro i m ys H ⟨rfl,hi,p⟩;refine⟨hl i ys H p,?_⟩;by_cases hlt:i<n
 ·exact .inr ⟨hgo i ys H hlt p,Pv (i+1),fun zs H' q=>⟨n-(i+1),by lia,rfl,hlt,q⟩,fun x H' y=>hs i ys H x H' hlt p y⟩
 ·grind
theorem z4i{lo:Int}{Fin:List V->Hp->Prop}(Pv:Nat->List V->Hp->Prop)(h0:Pv 0 [] (upd H1 D (.lst [])))(hl:∀i ys H,Pv i ys H->H D=some (.lst ys))(hs:∀i ys H,i<n->Pv i ys H->g (.int (lo+i)) σ0 H fun σ2 H2=>Keeps0 σ0 σ2/\tt σ2 H2 fun b H3 =>
   if b=true then te σ2 H3 fun v H4=>H4 D=some (.lst ys)/\ys.length<sizeLine/\Pv (i+1) (ys++[v]) (upd H4 D (.lst (ys++[v]))) else Pv (i+1) ys H3)(hd:∀ys H,Pv n ys H->Fin ys H):CompW (Itr lo n) g tt te σ0 D Fin H1 :=
 q5f Pv h0 hl (fun i ys H h _=>h) (fun ys H _=>Aq _) (fun i ys H x H' h p y=>by obtain⟨e,y⟩:=y;subst e y;exact hs i ys _ h p) hd
theorem q2m{K:Ak}{Fin:List V->Hp->Prop}(Pv:Nat->List V->Hp->Prop)(h0:Pv 0 [] (upd H1 D (.lst [])))(hl:∀i ys H,Pv i ys H->H D=some (.lst ys)/\SqL K H a xs)(hs:∀i ys H x,xs[i]?=some x->Pv i ys H->g x σ0 H fun σ2 H2=>Keeps0 σ0 σ2/\tt σ2 H2 fun b H3 =>
   if b=true then te σ2 H3 fun v H4=>H4 D=some (.lst ys)/\ys.length<sizeLine/\Pv (i+1) (ys++[v]) (upd H4 D (.lst (ys++[v]))) else Pv (i+1) ys H3)(hd:∀ys H,Pv xs.length ys H->Fin ys H):CompW (Itl K a) g tt te σ0 D Fin H1 :=
 q5f Pv h0 (fun i ys H p=>(hl i ys H p).1) (fun i ys H h p=>⟨xs,xs[i],(hl i ys H p).2,by simp[h]⟩) (fun ys H p=>⟨xs,(hl _ ys H p).2,Aq _⟩)
  (fun i ys H x H' h p y=>by obtain⟨e,y⟩:=y;subst e;exact hs i ys _ x (y xs (hl i ys _ p).2) p) hd
theorem z9c{K:Ak}{Fin:List V->Hp->Prop}(Pv:Nat->List V->Hp->Prop)(h0:Pv 0 [] (upd H1 D (.lst [])))(hl:∀i ys H,Pv i ys H->H D=some (.lst ys)/\SqT K H a xs)(hs:∀i ys H x,xs[i]?=some x->Pv i ys H->g x σ0 H fun σ2 H2=>Keeps0 σ0 σ2/\tt σ2 H2 fun b H3 =>
   if b=true then te σ2 H3 fun v H4=>H4 D=some (.lst ys)/\ys.length<sizeLine/\Pv (i+1) (ys++[v]) (upd H4 D (.lst (ys++[v]))) else Pv (i+1) ys H3)(hd:∀ys H,Pv xs.length ys H->Fin ys H):CompW (Itt K a) g tt te σ0 D Fin H1 :=
 q5f Pv h0 (fun i ys H p=>(hl i ys H p).1) (fun i ys H h p=>⟨xs,xs[i],(hl i ys H p).2,by simp[h]⟩) (fun ys H p=>⟨xs,(hl _ ys H p).2,Aq _⟩)
  (fun i ys H x H' h p y=>by obtain⟨e,y⟩:=y;subst e;exact hs i ys _ x (y xs (hl i ys _ p).2) p) hd
theorem q0u{r:St}:Keeps0 (none::r) (v::r):=⟨rfl,fun i w h=>by
 cases i with
 |zero=>cases h
 |succ i=>exact h⟩
theorem q7q{r:St}:Keeps0 (none::none::r) (v::w::r):=⟨rfl,fun i u h=>by
 cases i with
 |zero=>cases h
 |succ i=>cases i with
  |zero=>cases h
  |succ i=>exact h⟩
open PySem PySem.Spec PyProof.Rows
section
variable{X:Cx}
def rSlS:V->Option Int->Option Int->Hp->VK->Prop:=fun x lo hi H Q=>∃z,x=.str z/\z.length<=sizeLine/\Q (.str (Pm z lo hi)) H
theorem q6n(h:IsPart v o):∃p:Option (Int×Tok),v=partValue p/\o=p.map (·.1):=by
 cases h with
 |none=>exact⟨none,rfl,rfl⟩
 |int i t=>exact⟨some (i,t),rfl,rfl⟩
theorem sl_str:SlR X rSlS:=by
 intro pins s σ H x v vl vu lo hi sl Q I rx hs pl pu h;obtain⟨z,rfl,hz,q⟩:=h;obtain⟨t,rfl⟩:=rx;obtain⟨p1,rfl,rfl⟩:=q6n pl;obtain⟨p2,rfl,rfl⟩:=q6n pu;refine⟨"str",_,F.slot_str_getitem.lookup,Rb _ _ _,wpAny_getItem_str_slice (st:=none) hs rfl
  (post_val_or_str ⟨Bz (Txt.slice_le z _ _) hz,fun t' k=>⟨.str (Pm z (p1.map (·.1)) (p2.map (·.1))),H,I.tok _,⟨t',rfl⟩,q⟩⟩)⟩
def rLower:V->List V->Hp->VK->Prop:=fun x vs H Q=>∃z,x=.str z/\vs=[]/\3*z.length<=sizeLine/\Q (.str (Txt.lower z)) H
theorem fit3(h:n<=3*m)(h2:3*m<=sizeLine):Cy.Str.tooLong n=false:=by
 exact decide_eq_false (by lia)
theorem q5z:MtM X "str.lower" rLower:=by
 intro pins s σ H x vs v us Q I rx rv h;obtain⟨z,rfl,rfl,hz,q⟩:=h;obtain⟨t,rfl⟩:=rx;cases rv.zero;exact SC.lower (fit3 (len_lower z) hz) ⟨.str _,H,I.tok _,⟨_,rfl⟩,q⟩
def rUpper:V->List V->Hp->VK->Prop:=fun x vs H Q=>∃z,x=.str z/\vs=[]/\3*z.length<=sizeLine/\Q (.str (Txt.upper z)) H
theorem z9d:MtM X "str.upper" rUpper:=by
 intro pins s σ H x vs v us Q I rx rv h;obtain⟨z,rfl,rfl,hz,q⟩:=h;obtain⟨t,rfl⟩:=rx;cases rv.zero;exact SC.upper (fit3 (len_upper z) hz) ⟨.str _,H,I.tok _,⟨_,rfl⟩,q⟩
theorem q5g:∀{ys:List Str} {us:List Value},Vals (ys.map V.str) us->StrsAre us ys
 |[],_,.nil=>.nil
 |y::ys,_,.cons r t=>by obtain⟨k,rfl⟩:=r;exact .cons y k (q5g t)
def rJoin(K:Ak):V->List V->Hp->VK->Prop:=fun x vs H Q=>∃(z:Str) (p:Addr) (ys:List Str),x=.str z/\vs=[.ref p]/\(SqL K H p (ys.map V.str)\/SqT K H p (ys.map V.str))/\(ys.map (·.length)).sum+ys.length*z.length<=16777216/\Q (.str (Tp z ys)) H
theorem x2d:MtM X "str.join" (rJoin X.K):=by
 intro pins s σ H x vs v us Q I rx rv h;obtain⟨z,p,ys,rfl,rfl,hq,hz,q⟩:=h;obtain⟨t,rfl⟩:=rx;obtain⟨u,rfl,ru⟩:=rv.one;cases ru;rcases hq with hq|hq
 ·obtain⟨its,r,pl,_⟩:=I.list hq;exact join_list pl.isList (q5g (by simpa using r)) hz fun t' k=>⟨.str _,H,I.tok _,⟨_,rfl⟩,q⟩
 ·obtain⟨its,r,pl,_⟩:=I.tuple hq;exact join_tuple pl (q5g (by simpa using r)) hz fun t' k=>⟨.str _,H,I.tok _,⟨_,rfl⟩,q⟩
def rMulS:R2:=fun x y H Q=>∃z n,x=.str z/\y=.int n/\MulOk z n/\Q (.str (Txt.mul z n)) H
theorem op_mulS:OpR X (Ge .Mult) rMulS:=by
 intro pins s σ H x y v u Q I rx ry h;obtain⟨z,n,rfl,rfl,hm,q⟩:=h;obtain⟨t,rfl⟩:=rx;obtain⟨t',rfl⟩:=ry;exact SB.mul hm fun t2 k=>⟨.str _,H,I.tok _,⟨_,rfl⟩,q⟩
theorem q6o:∀{bs:List Bool} {us:List Value},Vals (bs.map V.bl) us->LSm.BoolsAre us bs
 |[],_,.nil=>.nil
 |b::bs,_,.cons r t=>by cases r;exact .cons b (q6o t)
theorem z9e(hc:X.calm=true):CallR X (.builtin "all") (fun xs H Q=>∃(p:Addr) (bs:List Bool),xs=[.ref p]/\SqL X.K H p (bs.map V.bl)/\Q (.bl (bs.all id)) H):=by
 intro pins s σ H xs us Q I r h;obtain⟨p,bs,rfl,hq,q⟩:=h;obtain⟨u,rfl,rx⟩:=vals1 r;cases rx;obtain⟨its,r',pl,hz⟩:=I.list hq;have hb:=q6o r';have hlt:p<s.heap.objs.size:=by obtain⟨_,e,_⟩:=pl.isList;exact Au e
 refine call_all_walk (Kt pl.isList ?_);refine⟨s.heap.objs.size,[s.heap.objs.size,p],[s.heap.objs.size],its.toArray.size,_,_,fun i=>(bs[i]?).getD true,rfl,Walks.list (A:=X.A.in1) (I.ok.hd hc) _ p (Bf hlt) its.toArray,
  ⟨⟨_,Ar _ rfl,rfl,rfl⟩,pl.isList.push _⟩,fun i v s' Q' E' hP hQ=>?_,fun h' tk hk=>?_⟩
 ·obtain⟨b,e,rfl⟩:=hb.get i v (by simpa using hP);simp only[e,Option.getD_some] at hQ;exact Cn hQ
 ·have e:((List.range its.toArray.size).all fun i=>(bs[i]?).getD true)=bs.all id:=by
   rw[Az,hb.length];exact LSm.range_all bs
  rw[e];exact⟨.bl _,H,I.kept (t':=tk) (LSm.kept_iter hk),rfl,q⟩
theorem z1t:CallR X (.builtin "isinstance") (fun xs H Q=>∃x c t b,xs=[x,.ty c]/\TyOf X.K H x t/\W.kitOne X.K t (.type c)=some b/\Q (.bl b) H):=by
 intro pins s σ H xs us Q I r h;obtain⟨x,c,t,b,rfl,ty,e,q⟩:=h;obtain⟨u,v,rfl,ru,rv⟩:=r.two;cases rv;exact z5r I ru ty e fun tk=>⟨.bl b,H,I.tok _,rfl,q⟩
def Its(z:Str):It:=⟨fun i _=>i<z.length,fun i H x H'=>H'=H/\∃c,z.cps[i]?=some c/\x=.str ⟨#[c]⟩,fun i _=>z.length<=i⟩
end
theorem z5z{K:Ak}(it:Addr)(z:Str)(t:Tok):Turn P w K tg (Its z) [it] it (fun i h=>i<=z.length/\h.IsStrIter it "str_ascii_iterator" z t i) where
 mem:=by simp
 obj:=fun i h st b hb=>by
  have e:b=it:=by grind
  subst e;obtain⟨_,o,e,c,d⟩:=st;exact⟨o,e,fun v z=>by rw[d] at z;cases z⟩
 keep:=fun i h h' st k=>⟨st.1,let ⟨o,e,c,d⟩:=st.2;⟨o,k it (by simp) o e,c,d⟩⟩
 item:=by
  intro X hP hw hK hc i pins s σ H E I hf st hg;obtain⟨f0,f1,f2,f3,f4,f5⟩:=hf it (by simp);have hi:i<z.cps.size:=hg;refine wpAny_pyNext_ascii_item st.2 (c:=z.cps[i]) (by simp[hi]) fun h' hit' hs'=>?_;have I1:Inv X pins σ H { s with heap:=h',toks:=s.toks+1 }:=I.turned (fun b o hb e=>(hs'.2 b hb).trans e) f0 f1 f3 f4 f5;obtain⟨o,e,c,d⟩:=id hit';exact⟨_,rfl,z1r e c d (by decide) ⟨.str ⟨#[z.cps[i]]⟩,H,I1,⟨_,rfl⟩,⟨rfl,_,by simp[hi],rfl⟩,⟨hg,hit'⟩,fun b hb=>(hf b hb).1⟩⟩
 done:=by
  intro X hP hw hK hc i pins s σ H E I hf st hg;obtain⟨f0,f1,f2,f3,f4,f5⟩:=hf it (by simp);have hi:z.cps.size<=i:=hg;exact wpAny_pyNext_ascii_end (I.ok.hd hc) st.2 (by simp;lia) fun h' eb=>⟨rfl,I.turned (t':=s.toks) (fun b o hb e=>eb b o hb e) f0 f1 f3 f4 f5⟩
 self:=fun _ _ _ _ _ st h=>wpAny_pyIter_striter_ascii st.2 h
theorem z6a{K:Ak}(it:Addr)(z:Str)(t:Tok):Turn P w K tg (Its z) [it] it (fun i h=>i<=z.length/\h.IsStrIter it "str_iterator" z t i) where
 mem:=by simp
 obj:=fun i h st b hb=>by
  have e:b=it:=by grind
  subst e;obtain⟨_,o,e,c,d⟩:=st;exact⟨o,e,fun v z=>by rw[d] at z;cases z⟩
 keep:=fun i h h' st k=>⟨st.1,let ⟨o,e,c,d⟩:=st.2;⟨o,k it (by simp) o e,c,d⟩⟩
 item:=by
  intro X hP hw hK hc i pins s σ H E I hf st hg;obtain⟨f0,f1,f2,f3,f4,f5⟩:=hf it (by simp);have hi:i<z.cps.size:=hg;refine wpAny_pyNext_wide_item st.2 (c:=z.cps[i]) (by simp[hi]) fun h' hit' hs'=>?_;have I1:Inv X pins σ H { s with heap:=h',toks:=s.toks+1 }:=I.turned (fun b o hb e=>(hs'.2 b hb).trans e) f0 f1 f3 f4 f5;obtain⟨o,e,c,d⟩:=id hit';exact⟨_,rfl,z1r e c d (by decide) ⟨.str ⟨#[z.cps[i]]⟩,H,I1,⟨_,rfl⟩,⟨rfl,_,by simp[hi],rfl⟩,⟨hg,hit'⟩,fun b hb=>(hf b hb).1⟩⟩
 done:=by
  intro X hP hw hK hc i pins s σ H E I hf st hg;obtain⟨f0,f1,f2,f3,f4,f5⟩:=hf it (by simp);have hi:z.cps.size<=i:=hg;exact wpAny_pyNext_wide_end (I.ok.hd hc) st.2 (by simp;lia) fun h' eb=>⟨rfl,I.turned (t':=s.toks) (fun b o hb e=>eb b o hb e) f0 f1 f3 f4 f5⟩
 self:=fun _ _ _ _ _ st h=>wpAny_pyIter_striter_wide st.2 h
theorem z9f{Fin:List V->Hp->Prop}(Pv:Nat->List V->Hp->Prop)(h0:Pv 0 [] (upd H1 D (.lst [])))(hl:∀i ys H,Pv i ys H->H D=some (.lst ys))(hs:∀i ys H c,z.cps[i]?=some c->Pv i ys H->g (.str ⟨#[c]⟩) σ0 H fun σ2 H2=>Keeps0 σ0 σ2/\tt σ2 H2 fun b H3 =>
   if b=true then te σ2 H3 fun v H4=>H4 D=some (.lst ys)/\ys.length<sizeLine/\Pv (i+1) (ys++[v]) (upd H4 D (.lst (ys++[v]))) else Pv (i+1) ys H3)(hd:∀ys H,Pv z.length ys H->Fin ys H):CompW (Its z) g tt te σ0 D Fin H1 :=
 q5f Pv h0 hl (fun i ys H h _=>h) (fun ys H _=>Aq _) (fun i ys H x H' h p y=>by obtain⟨e,c,hc,y⟩:=y;subst e y;exact hs i ys _ c hc p) hd
open PySem PySem.Spec PyProof.Rows
structure Vw (K:Ak) (H:Hp) (h:Heap):Prop where
 lst:∀a xs,SqL K H a xs->∃its:List Value,Vals xs its/\h.IsList a its.toArray
 tup:∀a xs,SqT K H a xs->∃its:List Value,Vals xs its/\h.IsTuple a its.toArray
theorem SqL.ne{K:Ak}(h:SqL K H a xs)(hb:H b=none)(hk:K.lookup b=none):a≠b:=by
 rintro rfl;rcases h with(h|⟨o,h⟩)|⟨o,_,_,h,_⟩
 ·rw[hb] at h;cases h
 ·rw[hb] at h;cases h
 ·rw[hk] at h;cases h
theorem SqT.ne{K:Ak}(h:SqT K H a xs)(hb:H b=none)(hk:K.lookup b=none):a≠b:=by
 rintro rfl;rcases h with(h|⟨o,h⟩)|⟨o,_,_,h,_⟩
 ·rw[hb] at h;cases h
 ·rw[hb] at h;cases h
 ·rw[hk] at h;cases h
theorem Vw.but{K:Ak}(v:Vw K H h)(hb:H b=none)(hk:K.lookup b=none)(k:∀c o,c≠b->h.get? c=some o->h'.get? c=some o):Vw K H h' :=
 ⟨fun a xs q=>let ⟨its,r,l⟩:=v.lst a xs q;⟨its,r,l.at fun o e=>k a o (q.ne hb hk) e⟩,fun a xs q=>let ⟨its,r,l⟩:=v.tup a xs q;⟨its,r,by
  obtain⟨o,e,z⟩:=l;exact⟨o,k a o (q.ne hb hk) e,z⟩⟩⟩
theorem Vw.linj{K:Ak}(v:Vw K H h)(p:SqL K H a xs)(q:SqL K H a ys):xs=ys:=by
 obtain⟨its,r,o,e,_,n,d⟩:=v.lst a xs p;obtain⟨its',r',o',e',_,n',d'⟩:=v.lst a ys q;have:its=its':=by grind
 subst this;exact r.inj r'
theorem Inv.vw{σ:St}(I:Inv X pins σ H s):Vw X.K H s.heap :=
 ⟨fun a xs q=>let ⟨its,r,l,_⟩:=I.list q;⟨its,r,l.isList⟩,fun a xs q=>let ⟨its,r,l,_⟩:=I.tuple q;⟨its,r,l⟩⟩
structure Srce (P:Program) (w:World) (K:Ak) (J:It) (it:Addr) (st:Nat->Heap->Prop):Prop where
 obj:∀i h,st i h->∃o,h.get? it=some o/\∀v,o.data≠.cell v
 keep:∀i h h',st i h->(∀o,h.get? it=some o->h'.get? it=some o)->st i h'
 item:∀(A:Around) (i:Nat) (s:Shared) (H:Hp) (Q:Value->Shared->Prop) (E:Value->Shared->Prop),A.handled=none->Vw K H s.heap->H it=none->K.lookup it=none->st i s.heap->J.go i H ->
  (∀u x h' tk,RelV x u->J.yld i H x H->st (i+1) h'->Fh it s.heap h'->Q u { s with heap:=h',toks:=tk })->wpAny (model P w) A (Od (.ref it)) Q E s
 done:∀(A:Around) (i:Nat) (s:Shared) (H:Hp) (Q:Value->Shared->Prop) (E:Value->Shared->Prop),A.handled=none->Vw K H s.heap->H it=none->K.lookup it=none->st i s.heap->J.stop i H ->
  (∀h' e,Na it s.heap h'->(∃o,h'.get? e=some o/\o.cls=.type "StopIteration")->E (.ref e) { s with heap:=h' })->wpAny (model P w) A (Od (.ref it)) Q E s
theorem q6p{K:Ak}(a it:Addr):Srce P w K (Itl K a) it (fun i h=>h.IsListIter it a i) where
 obj:=fun i h st=>by obtain⟨o,e,c,d⟩:=st;exact⟨o,e,fun v z=>by rw[d] at z;cases z⟩
 keep:=fun i h h' st k=>st.at fun o e=>k o e
 item:=fun A i s H Q E hh vw hn hk st go hQ=>by
  obtain⟨xs,x,hq,hx⟩:=go;obtain⟨its,rv,p⟩:=vw.lst a xs hq;obtain⟨u,hu,ru⟩:=rv.get hx;refine wpAny_nextOf_list_item st p (by simpa using hu) fun h' st' sb=>?_
  exact hQ u x h' s.toks ru ⟨rfl,fun ys hy=>by rw[vw.linj hy hq];exact hx⟩ st' sb
 done:=fun A i s H Q E hh vw hn hk st stop hE=>by
  obtain⟨xs,hq,hx⟩:=stop;obtain⟨its,rv,p⟩:=vw.lst a xs hq;have hl:=rv.length;exact wpAny_nextOf_list_end hh st p (by simp;lia) hE
def stStr(it:Addr)(z:Str)(t:Tok)(i:Nat)(h:Heap):Prop:=h.IsStrIter it (Hh z) z t i
theorem q8z{K:Ak}(it:Addr)(z:Str)(t:Tok):Srce P w K (Its z) it (stStr it z t) where
 obj:=fun i h st=>by obtain⟨o,e,c,d⟩:=st;exact⟨o,e,fun v z=>by rw[d] at z;cases z⟩
 keep:=fun i h h' st k=>by obtain⟨o,e,r⟩:=st;exact⟨o,k o e,r⟩
 item:=fun A i s H Q E hh vw hn hk st go hQ=>by
  have hi:i<z.cps.size:=go;unfold stStr Hh at st;cases ha:z.cps.all (· < 128)
  ·rw[ha] at st;refine wpAny_nextOf_wide_item st (c:=z.cps[i]) (by simp[hi]) fun h' hit' hs'=>?_;exact hQ _ (.str ⟨#[z.cps[i]]⟩) h' (s.toks+1) ⟨_,rfl⟩ ⟨rfl,_,by simp[hi],rfl⟩ (by unfold stStr Hh;rw[ha];exact hit') hs'
  ·rw[ha] at st;refine wpAny_nextOf_ascii_item st (c:=z.cps[i]) (by simp[hi]) fun h' hit' hs'=>?_;exact hQ _ (.str ⟨#[z.cps[i]]⟩) h' (s.toks+1) ⟨_,rfl⟩ ⟨rfl,_,by simp[hi],rfl⟩ (by unfold stStr Hh;rw[ha];exact hit') hs'
 done:=fun A i s H Q E hh vw hn hk st stop hE=>by
  have hi:z.cps.size<=i:=stop;unfold stStr Hh at st;cases ha:z.cps.all (· < 128)
  ·rw[ha] at st;exact wpAny_nextOf_wide_end hh st (by simp;lia) hE
  ·rw[ha] at st;exact wpAny_nextOf_ascii_end hh st (by simp;lia) hE
theorem Inv.turnedL{σ:St}{ch:List Addr}(I:Inv X pins σ H s)(k:∀b o,b∉ch->s.heap.get? b=some o->h'.get? b=some o)(hf:∀b∈ch,FpOk X pins H b):Inv X pins σ H { s with heap:=h',toks:=t' }:=by
 have nit:∀b u,H b=some u->b∉ch:=fun b u e z=>by rw[(hf b z).1] at e;cases e
 refine I.step (g':=s.gens) (d':=s.drawn) (fun b hb=>?_) (fun b o _ _ hc e _=>k b o hc e) (fun b o _ _ hc e _=>⟨o.slots,k b o hc e⟩) (fun _ _ _ _ n=>n)
  (fun b o hc e=>?_) (fun _ _ e=>e) (fun _ _ _ e=>e) (fun b ps e=>⟨#[],by rw[e];simp⟩) (fun m hm=>?_) (fun b u e=>?_) I.bare
 ·exact⟨(hf b hb).2.2.2.1,(hf b hb).2.1,(hf b hb).2.2.2.2.1,(hf b hb).2.2.2.2.2⟩
 ·exact⟨o,k b o hc e⟩
 ·obtain⟨o,es,ep,ho,r⟩:=hm;exact⟨o,es,ep,k _ o (fun z=>(hf _ z).2.1 rfl) ho,r⟩
 ·refine(I.hok b u e).stay (fun c v hc q=>k c v ?_ q) (fun _ q=>q) fun _ _ q=>q;rcases hc with z|z
  ·rw[z];exact nit b u e
  ·exact nit c _ z
theorem Inv.track{σ:St}{T:Addr}(I:Inv X pins σ H s)(hT:X.s₀.heap.objs.size<=T)(hF:FpOk X pins H T)(new:ObjOk X.prog X.w (upd H T o) s.heap T o):Inv X pins σ (upd H T o) s:=by
 have hn:=hF.1;refine⟨I.ok,I.os,I.bare,⟨I.base.keep,I.base.slot,fun b ob e n hx=>?_,I.base.there,fun b xs e=>?_,fun b ob u e=>?_,fun b ps e=>?_⟩,I.loc,I.cell,?_,fun x c e=>?_,fun p hp=>?_,fun b u e=>?_,I.len⟩
 ·rw[q0c (Bf (Bt (Au e) hT))];exact I.base.free b ob e n hx
 ·have z:=I.base.tups b xs e;rw[q0c (q0i z hn)];exact z
 ·have z:=I.base.frzs b ob u e;rw[q0c (q0i z hn)];exact z
 ·obtain⟨m,z⟩:=I.base.tbls b ps e;exact⟨m,by rw[q0c (q0i z hn)];exact z⟩
 ·rw[q0c (Er hF.2.1)];exact I.free
 ·rw[q0c (hF.2.2.2.2.1 x c e)];exact I.freeC x c e
 ·obtain⟨e,n,ne,nf,d⟩:=I.pin p hp;exact⟨e,by rw[q0c (hF.2.2.2.2.2 p hp)];exact n,ne,nf,d⟩
 ·by_cases hb:b=T
  ·subst hb;rw[q0b] at e;cases e;exact new
  ·rw[q0c hb] at e;exact(I.hok b u e).stay (fun _ _ _ q=>q) (fun c q=>by rw[q0c (q0i q hn)];exact q) fun c xs q=>by rw[q0c (q0i q hn)];exact q
theorem FpOk.noK{σ:St}(I:Inv X pins σ H' s)(f:FpOk X pins H b):X.K.lookup b=none:=by
 cases e:X.K.lookup b with
 |none=>rfl
 |some o =>
  have e1:=I.ok.mod.kin b o e;rcases f.2.2.2.1 with z|z
  ·exact absurd z (I.ok.noex b o e1)
  ·exact absurd (Bt (Au (I.ok.bs b o e1).1) z) (Eu _)
structure ZipA (z TI TO i1 i2:Addr):Prop where
 TIz:TI≠z
 TOz:TO≠z
 i1z:i1≠z
 i2z:i2≠z
 TITO:TI≠TO
 TIi1:TI≠i1
 TIi2:TI≠i2
 TOi1:TO≠i1
 TOi2:TO≠i2
 i12:i1≠i2
section
variable{prog:Program}{w:World}{K:Ak}{A:Around}{E:Value->Shared->Prop}{s:Shared}{J1 J2:It}{t1 t2:Nat->Heap->Prop}{z TI TO i1 i2:Addr}{H:Hp}
theorem z6b{Q:Value->Shared->Prop}(D:ZipA z TI TO i1 i2)(S1:Srce prog w K J1 i1 t1)(S2:Srce prog w K J2 i2 t2)(hh:A.handled=none)(vw:Vw K H s.heap)(nH:∀b∈[z,TI,TO,i1,i2],H b=none)(nK:∀b∈[z,TI,TO,i1,i2],K.lookup b=none)(hz:IsZip s.heap z TI TO .none)(hTI:La s.heap TI (.ref i1) (.ref i2))(hTO:La s.heap TO a b)(h1:t1 i s.heap)(h2:t2 i s.heap)(g1:J1.go i H)(g2:J2.go i H)(hQ:∀u v x y h' tk,RelV x u->RelV y v->J1.yld i H x H->J2.yld i H y H->IsZip h' z TI TO (Ds s.heap.objs.size)->La h' TO u v->t1 (i+1) h'->t2 (i+1) h'->La h' s.heap.objs.size u v->h'.objs.size=s.heap.objs.size+1 ->
   (∀c o,c≠z->c≠TO->c≠i1->c≠i2->s.heap.get? c=some o->h'.get? c=some o)->Q (.ref s.heap.objs.size) { s with heap:=h',toks:=tk }):
  wpAny (model prog w) A (Cy.«zip.__next__» ⟨[.ref z],[]⟩) (fun fin s'=>∃v,fin=.done (.ret v)/\Q v s') E s:=by
 show wpAny _ _ (field (.ref z) 2 >>= _) _ _ _;refine Aa (Cb hz rfl rfl ?_);refine Aa (Cb hz rfl rfl ?_);refine Aa (Cz hTI rfl ?_);refine Aa ?_;refine Aa (Cb hz rfl rfl (Ad ?_));refine Aa (Fk ?_);refine Aa (Cb hz rfl rfl ?_);refine Aa (Co hz (by simp) fun h₁ hz₁ hs₁=>?_);replace hz₁:IsZip h₁ z TI TO .ellipsis:=hz₁;have vw₁:=vw.but (nH z (by simp)) (nK z (by simp)) fun c o hc e=>hs₁.extBut _ _ hc e;refine Aa ?_;refine Aa (Aa (Nn ?_));refine Aa (S1.item _ i _ H _ _ hh vw₁ (nH i1 (by simp)) (nK i1 (by simp)) (S1.keep _ _ _ h1 fun o e=>hs₁.extBut _ _ D.i1z e) g1 fun u x h₂ tk₂ rx yx h1₂ hs₂=>Ad ?_);have hTO₂:=hs₂.extBut _ _ D.TOi1 (hs₁.extBut _ _ D.TOz hTO);refine Aa (Cz hTO₂ rfl ?_);refine Aa (Mc hTO₂ fun h₃ hTO₃ hs₃=>?_);have vw₃:=(vw₁.but (nH i1 (by simp)) (nK i1 (by simp)) fun c o hc e=>hs₂.extBut _ _ hc e).but (nH TO (by simp)) (nK TO (by simp)) fun c o hc e=>hs₃.extBut _ _ hc e;refine Aa (Fr (Ad ?_));refine Aa (Aa (Nn ?_));refine Aa (S2.item _ i _ H _ _ hh vw₃ (nH i2 (by simp)) (nK i2 (by simp)) (S2.keep _ _ _ h2 fun o e=>hs₃.extBut _ _ D.TOi2.symm (hs₂.extBut _ _ D.i12.symm (hs₁.extBut _ _ D.i2z e))) g2 fun v y h₄ tk₄ ry yy h2₄ hs₄=>Ad ?_);have hTO₄:=hs₄.extBut _ _ D.TOi2 hTO₃;refine Aa (Cz hTO₄ rfl ?_);refine Aa (Mc hTO₄ fun h₅ hTO₅ hs₅=>?_);replace hTO₅:La h₅ TO u v:=hTO₅;refine Aa (Fr (Ad (Ad ?_)));refine Aa (Cz hTO₅ rfl ?_);refine Aa (Mx ?_);have hsz:h₅.objs.size=s.heap.objs.size:=by rw[hs₅.1,hs₄.1,hs₃.1,hs₂.1,hs₁.1]
 have hz₅:=hs₅.extBut _ _ D.TOz.symm (hs₄.extBut _ _ D.i2z.symm (hs₃.extBut _ _ D.TOz.symm (hs₂.extBut _ _ D.i1z.symm hz₁)));have hk₅:∀c o,c≠z->c≠TO->c≠i1->c≠i2->s.heap.get? c=some o->h₅.get? c=some o:=fun c o c1 c2 c3 c4 e =>
  hs₅.extBut _ _ c2 (hs₄.extBut _ _ c4 (hs₃.extBut _ _ c2 (hs₂.extBut _ _ c3 (hs₁.extBut _ _ c1 e))))
 have h1₅:=S1.keep _ _ _ h1₂ fun o e=>hs₅.extBut _ _ D.TOi1.symm (hs₄.extBut _ _ D.i12 (hs₃.extBut _ _ D.TOi1.symm e));have h2₅:=S2.keep _ _ _ h2₄ fun o e=>hs₅.extBut _ _ D.TOi2.symm e;have hzlt:=Au hz₅;refine Aa ?_;have hz₆:IsZip (h₅.push { cls:=.type "tuple",data:=.seq #[u,v] }) z TI TO .ellipsis:=Ah _ hz₅;refine Aa (Co hz₆ (by simp) fun h₇ hz₇ hs₇=>?_);refine Co hz₇ (by simp) fun h₈ hz₈ hs₈=>?_;have up:∀c o,c≠z->h₅.get? c=some o->h₈.get? c=some o:=fun c o c1 e=>hs₈.extBut _ _ c1 (hs₇.extBut _ _ c1 (Ah _ e));have hT₈:=hs₈.extBut _ _ (Et hzlt) (hs₇.extBut _ _ (Et hzlt) (Ar _ rfl));have hz8:h₈.objs.size=h₅.objs.size+1:=by rw[hs₈.1,hs₇.1,Ex]
 rw[hsz] at hz₈ hT₈ hz8;refine Ad ⟨_,rfl,?_⟩;rw[hsz];exact hQ u v x y h₈ tk₄ rx ry yx yy hz₈ (up _ _ D.TOz hTO₅) (S1.keep _ _ _ h1₅ fun o e=>up _ o D.i1z e) (S2.keep _ _ _ h2₅ fun o e=>up _ o D.i2z e) hT₈ hz8 fun c o c1 c2 c3 c4 e=>up c o c1 (hk₅ c o c1 c2 c3 c4 e)
theorem z9g(D:ZipA z TI TO i1 i2)(S1:Srce prog w K J1 i1 t1)(S2:Srce prog w K J2 i2 t2)(hh:A.handled=none)(vw:Vw K H s.heap)(nH:∀b∈[z,TI,TO,i1,i2],H b=none)(nK:∀b∈[z,TI,TO,i1,i2],K.lookup b=none)(hz:IsZip s.heap z TI TO .none)(hTI:La s.heap TI (.ref i1) (.ref i2))(hTO:La s.heap TO a b)(h1:t1 i s.heap)(h2:t2 i s.heap)(hend:J1.stop i H\/(J1.go i H/\J2.stop i H))(hE:∀h' e tk,(∀c o,c≠z->c≠TO->c≠i1->c≠i2->s.heap.get? c=some o->h'.get? c=some o)->(∃o,h'.get? e=some o/\o.cls=.type "StopIteration")->E (.ref e) { s with heap:=h',toks:=tk }):
  wpAny (model prog w) A (Cy.«zip.__next__» ⟨[.ref z],[]⟩) Q E s:=by
 show wpAny _ _ (field (.ref z) 2 >>= _) _ _ _;refine Aa (Cb hz rfl rfl ?_);refine Aa (Cb hz rfl rfl ?_);refine Aa (Cz hTI rfl ?_);refine Aa ?_;refine Aa (Cb hz rfl rfl (Ad ?_));refine Aa (Fk ?_);refine Aa (Cb hz rfl rfl ?_);refine Aa (Co hz (by simp) fun h₁ hz₁ hs₁=>?_);have vw₁:=vw.but (nH z (by simp)) (nK z (by simp)) fun c o hc e=>hs₁.extBut _ _ hc e;refine Aa ?_;refine Aa (Aa (Nn ?_));rcases hend with st|⟨g1,st⟩
 ·refine Aa (S1.done _ i _ H _ _ hh vw₁ (nH i1 (by simp)) (nK i1 (by simp)) (S1.keep _ _ _ h1 fun o e=>hs₁.extBut _ _ D.i1z e) st fun h₂ e hs₂ he=>?_);obtain⟨oe,hoe,hce⟩:=he;have hz₂:=hs₂ _ _ D.i1z.symm hz₁;have hez:e≠z:=fun x=>by subst x;rw[hz₂] at hoe;cases hoe;simp at hce
  refine Co hz₂ (by simp) fun h₃ _ hs₃=>hE h₃ e _ (fun c o c1 _ c3 _ x=>hs₃.extBut _ _ c1 (hs₂ _ _ c3 (hs₁.extBut _ _ c1 x))) ⟨oe,hs₃.extBut _ _ hez hoe,hce⟩
 ·refine Aa (S1.item _ i _ H _ _ hh vw₁ (nH i1 (by simp)) (nK i1 (by simp)) (S1.keep _ _ _ h1 fun o e=>hs₁.extBut _ _ D.i1z e) g1 fun u x h₂ tk₂ rx yx h1₂ hs₂=>Ad ?_);have hTO₂:=hs₂.extBut _ _ D.TOi1 (hs₁.extBut _ _ D.TOz hTO);refine Aa (Cz hTO₂ rfl ?_);refine Aa (Mc hTO₂ fun h₃ hTO₃ hs₃=>?_);have vw₃:=(vw₁.but (nH i1 (by simp)) (nK i1 (by simp)) fun c o hc e=>hs₂.extBut _ _ hc e).but (nH TO (by simp)) (nK TO (by simp)) fun c o hc e=>hs₃.extBut _ _ hc e;refine Aa (Fr (Ad ?_));refine Aa (Aa (Nn ?_));refine Aa (S2.done _ i _ H _ _ hh vw₃ (nH i2 (by simp)) (nK i2 (by simp)) (S2.keep _ _ _ h2 fun o e=>hs₃.extBut _ _ D.TOi2.symm (hs₂.extBut _ _ D.i12.symm (hs₁.extBut _ _ D.i2z e))) st fun h₄ e hs₄ he=>?_);obtain⟨oe,hoe,hce⟩:=he;have hz₄:=hs₄ _ _ D.i2z.symm (hs₃.extBut _ _ D.TOz.symm (hs₂.extBut _ _ D.i1z.symm hz₁));have hez:e≠z:=fun x=>by subst x;rw[hz₄] at hoe;cases hoe;simp at hce
  refine Co hz₄ (by simp) fun h₅ _ hs₅=>hE h₅ e _ (fun c o c1 c2 c3 c4 x=>hs₅.extBut _ _ c1 (hs₄ _ _ c4 (hs₃.extBut _ _ c2 (hs₂.extBut _ _ c3 (hs₁.extBut _ _ c1 x))))) ⟨oe,hs₅.extBut _ _ hez hoe,hce⟩
end
def Itz(J1 J2:It):It:=⟨fun i H=>J1.go i H/\J2.go i H,fun i H x H'=>∃T x1 x2,H T=none/\J1.yld i H x1 H/\J2.yld i H x2 H/\x=.ref T/\H'=upd H T (.tup [x1,x2]),fun i H=>J1.stop i H\/(J1.go i H/\J2.stop i H)⟩
def tnZip(z TI TO i1 i2:Addr)(t1 t2:Nat->Heap->Prop)(i:Nat)(h:Heap):Prop:=IsZip h z TI TO .none/\La h TI (.ref i1) (.ref i2)/\(∃a b,La h TO a b)/\t1 i h/\t2 i h
theorem z9h{K:Ak}{TI TO:Addr}(D:ZipA z TI TO i1 i2)(S1:Srce P w K J1 i1 t1)(S2:Srce P w K J2 i2 t2):
  Turn P w K (.Tuple elts kk pos) (Itz J1 J2) [z,TI,TO,i1,i2] z (tnZip z TI TO i1 i2 t1 t2) where
 mem:=by simp
 obj:=fun i h st b hb=>by
  obtain⟨hz,hTI,⟨a,c,hTO⟩,h1,h2⟩:=st;simp only[Ay,Dn,or_false] at hb;rcases hb with rfl|rfl|rfl|rfl|rfl
  ·simp_all
  ·grind
  ·grind
  ·exact S1.obj i h h1
  ·exact S2.obj i h h2
 keep:=fun i h h' st k=>by
  obtain⟨hz,hTI,⟨a,c,hTO⟩,h1,h2⟩:=st;exact⟨k z (by simp) _ hz,k TI (by simp) _ hTI,⟨a,c,k TO (by simp) _ hTO⟩,S1.keep _ _ _ h1 fun o e=>k i1 (by simp) o e,S2.keep _ _ _ h2 fun o e=>k i2 (by simp) o e⟩
 item:=by
  intro X hP hw hK hc i pins s σ H E I hf st hg;subst hP hw hK;obtain⟨hz,hTI,⟨a,c,hTO⟩,h1,h2⟩:=st;have hT:s.TypeIs (.ref z) "zip" := ⟨_,hz,rfl⟩
  refine Aa (Dw (Bs hT Md
   (Bo Md hT Tq
    (z6b D S1 S2 (I.ok.hd hc) I.vw (fun b hb=>(hf b hb).1) (fun b hb=>(hf b hb).noK I) hz hTI hTO h1 h2 hg.1 hg.2 fun u v x y h' tk rx ry yx yy a1 a2 a3 a4 a5 a6 a7=>Ad ?_) (Sv _))))
  refine⟨_,rfl,?_⟩;refine wpAny_letOwnedTupleGo_zip a1 fun h2' hz2 hs2=>?_;have k2:∀c o,c∉[z,TI,TO,i1,i2]->s.heap.get? c=some o->h2'.get? c=some o:=fun c o hcn e=>by
   simp only[Ay,Dn,or_false,not_or] at hcn;exact hs2.extBut _ _ hcn.1 (a7 c o hcn.1 hcn.2.2.1 hcn.2.2.2.1 hcn.2.2.2.2 e)
  have zlt:=Au hz;have I1:Inv X pins σ H { s with heap:=h2',toks:=tk }:=I.turnedL k2 hf;have FT:=I.fpOk (Aq _) I.fresh;have hT2:=hs2.extBut _ _ (Et zlt) a5;have I2:Inv X pins σ (upd H s.heap.objs.size (.tup [x,y])) { s with heap:=h2',toks:=tk } :=
   I1.track I.sz FT ⟨by show 2<=sizeLine;decide,[u,v],.cons rx (.cons ry .nil),⟨_,hT2,rfl,_,rfl⟩⟩
  refine⟨.ref s.heap.objs.size,_,I2,rfl,⟨_,x,y,I.fresh,yx,yy,rfl,rfl⟩,⟨hz2,?_,⟨_,_,hs2.extBut _ _ D.TOz a2⟩,S1.keep _ _ _ a3 fun o e=>hs2.extBut _ _ D.i1z e,S2.keep _ _ _ a4 fun o e=>hs2.extBut _ _ D.i2z e⟩,fun b hb=>?_⟩
  ·exact hs2.extBut _ _ D.TIz (a7 _ _ D.TIz D.TITO D.TIi1 D.TIi2 hTI)
  ·have hb2:=(hf b hb).1;rw[q0c]
   ·exact hb2
   ·have:∃o,s.heap.get? b=some o:=by
     simp only[Ay,Dn,or_false] at hb;rcases hb with rfl|rfl|rfl|rfl|rfl
     ·exact⟨_,hz⟩
     ·grind
     ·grind
     ·obtain⟨o,e,_⟩:=S1.obj _ _ h1;exact⟨o,e⟩
     ·obtain⟨o,e,_⟩:=S2.obj _ _ h2;exact⟨o,e⟩
    obtain⟨o,e⟩:=this;exact Bf (Au e)
 done:=by
  intro X hP hw hK hc i pins s σ H E I hf st hg;subst hP hw hK;obtain⟨hz,hTI,⟨a,c,hTO⟩,h1,h2⟩:=st;have hT:s.TypeIs (.ref z) "zip" := ⟨_,hz,rfl⟩
  refine Aa (Dw (Bs hT Md
   (Bo Md hT Tq
    (z9g D S1 S2 (I.ok.hd hc) I.vw (fun b hb=>(hf b hb).1) (fun b hb=>(hf b hb).noK I) hz hTI hTO h1 h2 hg fun h' e tk hk he=>?_) (Sv _))))
  obtain⟨o,ho,hcl⟩:=he;refine Aa (Ed ⟨o,ho,hcl⟩ Ir ?_);refine Ad ⟨rfl,I.turnedL (fun c o hcn e=>?_) hf⟩;simp only[Ay,Dn,or_false,not_or] at hcn;exact hk c o hcn.1 hcn.2.2.1 hcn.2.2.2.1 hcn.2.2.2.2 e
 self:=fun _ _ _ _ _ st h=>wpAny_pyIter_zip st.1 h
open PySem PySem.Spec PyProof.Rows
abbrev zs1(h:Heap)(x:Str)(t:Tok):Heap:=h.push { cls:=.type (Hh x),data:=.fields #[.str x t,.int 0 0] }
abbrev zs2(h:Heap)(x y:Str)(t u:Tok):Heap:=(zs1 h x t).push { cls:=.type (Hh y),data:=.fields #[.str y u,.int 0 0] }
abbrev zs3(h:Heap)(x y:Str)(t u:Tok):Heap:=(zs2 h x y t u).push { cls:=.type "tuple",data:=.seq #[.ref h.objs.size,.ref (zs1 h x t).objs.size] }
abbrev zs4(h:Heap)(x y:Str)(t u:Tok):Heap:=(zs3 h x y t u).push { cls:=.type "tuple",data:=.seq #[.none,.none] }
abbrev zs5(h:Heap)(x y:Str)(t u:Tok):Heap:=(zs4 h x y t u).push { cls:=.type "zip",data:=.fields #[.none,.bool false,.bool false,.ref (zs2 h x y t u).objs.size,.ref (zs3 h x y t u).objs.size] }
set_option maxHeartbeats 4000000 in
theorem z1u(x y:Str)(t u:Tok):
  Meets (Cy.«zip.__new__» ⟨[.type "zip",.str x t,.str y u],[]⟩) (fun _ R s=>R (.ok (.ret (.ref (zs4 s.heap x y t u).objs.size))) { s with heap:=zs5 s.heap x y t u }) :=
 .of_wp fun prog w A R s h=>by
  obtain⟨hp,g,d,tk,os⟩:=s;have hsub:=sub_zip;have i1:∀{A:Around} {E:Value->Shared->Prop} {Q:Value->Shared->Prop},Q (.ref hp.objs.size) ⟨zs1 hp x t,g,d,tk,os⟩->wpAny (model prog w) A (Ju (.str x t)) Q E ⟨hp,g,d,tk,os⟩:=fun q=>Sw q
  have i2:∀{A:Around} {E:Value->Shared->Prop} {Q:Value->Shared->Prop},Q (.ref (zs1 hp x t).objs.size) ⟨zs2 hp x y t u,g,d,tk,os⟩->wpAny (model prog w) A (Ju (.str y u)) Q E ⟨zs1 hp x t,g,d,tk,os⟩:=fun q=>Sw q
  wp_walk using i1,i2
  exact⟨_,rfl,h⟩
theorem z6c(n:Nat):ZipA (n+4) (n+2) (n+3) n (n+1):=by
 constructor<;>(show(_:Nat)≠_;lia)
section
variable{X:Cx}{elts:List Expr}{kk:Nat}{tpos:Pos}
theorem z2z{σ:St}(I:Inv X pins σ H s)(S1:Srce X.prog X.w X.K J1 s.heap.objs.size t1)(S2:Srce X.prog X.w X.K J2 (s.heap.objs.size+1) t2)(hz:IsZip h' (s.heap.objs.size+4) (s.heap.objs.size+2) (s.heap.objs.size+3) .none)(hTI:La h' (s.heap.objs.size+2) (.ref s.heap.objs.size) (.ref (s.heap.objs.size+1)))(hTO:La h' (s.heap.objs.size+3) .none .none)(h1:t1 0 h')(h2:t2 0 h')(hk:∀c o,s.heap.get? c=some o->h'.get? c=some o)(q:R (Itz J1 J2) H):
  wpAny (model X.prog X.w) X.A (Ju (.ref (s.heap.objs.size+4))) (PIE X pins σ (.Tuple elts kk tpos) R) E { s with heap:=h' }:=by
 refine wpAny_pyIter_zip hz ?_;refine⟨_,_,_,_,H,rfl,I.kept (t':=s.toks) hk,z9h (z6c s.heap.objs.size) S1 S2,⟨hz,hTI,⟨_,_,hTO⟩,h1,h2⟩,fun b hb=>?_,q⟩;have hb':s.heap.objs.size<=b:=by grind
 exact I.fpOk hb' (I.hok.fresh hb')
def iZipS(ta:TA):TI:=fun σ H R=>ta σ H fun vs H1=>∃x y,vs=[.str x,.str y]/\R (Itz (Its x) (Its y)) H1
theorem x2e{p pos:Pos}(hg:Gl X "zip")(hm:X.mg "zip" = none)(ha:PA X [a,b] ta)(hs:Bg [a,b] X.env=[(false,eval a X.env),(false,eval b X.env)]:=by rfl)(hs2:Bg [b] X.env=[(false,eval b X.env)]:=by rfl):
  PI X (.Tuple elts kk tpos) (.Call (.Name "zip" p) [a,b] [] pos) (iZipS ta):=by
 intro pins s σ H R I h;refine Call_ (q5r I hg hm (by decide +kernel:Ft "zip" = some (.type "zip")) (Eb (thn (ha pos pins s σ H _ I h) fun us s1 ⟨vs,H1,I1,r1,q1⟩=>?_) (by rw[hs,hs2]) (by rw[hs2];rfl)));obtain⟨x,y,e,q⟩:=q1;subst e;obtain⟨u,v,rfl,⟨t,rfl⟩,⟨t',rfl⟩⟩:=r1.two;refine callType_new F.called_zip (by decide) (F.typeCall_zip_2 _ _) (F.newCall_zip_2 _ _) (fun obj=>F.args_object_init_3 obj _ _) F.entry_zip_new (z1u x y t t') ?_;have z1:(zs1 s1.heap x t).objs.size=s1.heap.objs.size+1:=Ex ..;have z2:(zs2 s1.heap x y t t').objs.size=s1.heap.objs.size+2:=by simp_all
 have z3:(zs3 s1.heap x y t t').objs.size=s1.heap.objs.size+3:=by simp_all
 have z4:(zs4 s1.heap x y t t').objs.size=s1.heap.objs.size+4:=by simp_all
 have k1:∀c o,s1.heap.get? c=some o->(zs1 s1.heap x t).get? c=some o:=fun c o e=>Ah _ e;have k2:∀c o,(zs1 s1.heap x t).get? c=some o->(zs2 s1.heap x y t t').get? c=some o:=fun c o e=>Ah _ e;have k3:∀c o,(zs2 s1.heap x y t t').get? c=some o->(zs3 s1.heap x y t t').get? c=some o:=fun c o e=>Ah _ e;have k4:∀c o,(zs3 s1.heap x y t t').get? c=some o->(zs4 s1.heap x y t t').get? c=some o:=fun c o e=>Ah _ e;have k5:∀c o,(zs4 s1.heap x y t t').get? c=some o->(zs5 s1.heap x y t t').get? c=some o:=fun c o e=>Ah _ e;have g1:(zs1 s1.heap x t).get? s1.heap.objs.size=some { cls:=.type (Hh x),data:=.fields #[.str x t,.int 0 0] }:=Ar _ rfl;have g2:(zs2 s1.heap x y t t').get? (zs1 s1.heap x t).objs.size=some { cls:=.type (Hh y),data:=.fields #[.str y t',.int 0 0] }:=Ar _ rfl;have g3:(zs3 s1.heap x y t t').get? (zs2 s1.heap x y t t').objs.size=some { cls:=.type "tuple",data:=.seq #[.ref s1.heap.objs.size,.ref (zs1 s1.heap x t).objs.size] }:=Ar _ rfl;have g4:(zs4 s1.heap x y t t').get? (zs3 s1.heap x y t t').objs.size=some { cls:=.type "tuple",data:=.seq #[.none,.none] }:=Ar _ rfl;have g5:(zs5 s1.heap x y t t').get? (zs4 s1.heap x y t t').objs.size=some { cls:=.type "zip",data:=.fields #[.none,.bool false,.bool false,.ref (zs2 s1.heap x y t t').objs.size,.ref (zs3 s1.heap x y t t').objs.size] }:=Ar _ rfl;rw[z1] at g2;rw[z2,z1] at g3;rw[z3] at g4;rw[z4,z2,z3] at g5;rw[z4];exact⟨⟨_,g5,rfl⟩,z2z I1 (q8z _ x t) (q8z _ y t') g5 (k5 _ _ (k4 _ _ g3)) (k5 _ _ g4) ⟨_,k5 _ _ (k4 _ _ (k3 _ _ (k2 _ _ g1))),rfl,rfl⟩ ⟨_,k5 _ _ (k4 _ _ (k3 _ _ g2)),rfl,rfl⟩ (fun c o e=>k5 _ _ (k4 _ _ (k3 _ _ (k2 _ _ (k1 _ _ e))))) q⟩
def iZipL(K:Ak)(ta:TA):TI:=fun σ H R=>ta σ H fun vs H1=>∃a b xs ys,vs=[.ref a,.ref b]/\SqL K H1 a xs/\SqL K H1 b ys/\R (Itz (Itl K a) (Itl K b)) H1
theorem x2f{p pos:Pos}(hg:Gl X "zip")(hm:X.mg "zip" = none)(ha:PA X [a,b] ta)(hs:Bg [a,b] X.env=[(false,eval a X.env),(false,eval b X.env)]:=by rfl)(hs2:Bg [b] X.env=[(false,eval b X.env)]:=by rfl):
  PI X (.Tuple elts kk tpos) (.Call (.Name "zip" p) [a,b] [] pos) (iZipL X.K ta):=by
 intro pins s σ H R I h;refine Call_ (q5r I hg hm (by decide +kernel:Ft "zip" = some (.type "zip")) (Eb (thn (ha pos pins s σ H _ I h) fun us s1 ⟨vs,H1,I1,r1,q1⟩=>?_) (by rw[hs,hs2]) (by rw[hs2];rfl)));obtain⟨l1,l2,xs,ys,e,hx,hy,q⟩:=q1;subst e;obtain⟨u,v,rfl,r1,r2⟩:=r1.two;cases r1;cases r2;obtain⟨its,rv,pl,_⟩:=I1.list hx;obtain⟨its2,rv2,pl2,_⟩:=I1.list hy;exact call_zip_2 pl.isList pl2.isList fun h' a1 a2 a3 a4 a5 a6 a7=>z2z I1 (q6p l1 _) (q6p l2 _) a1 a2 a3 a4 a5 a7 q
theorem z3a{J:It}{g:TG}{tb:TS}{D:Ends}(Pv:Nat->St->Hp->Prop)(h0:Pv 0 σ H)(hgo:∀i σ H,i<n->Pv i σ H->J.go i H)(hstop:∀σ H,Pv n σ H->J.stop n H)(hs:∀i x σ H H',i<n->Pv i σ H->J.yld i H x H'->g x σ H' fun σ2 H2=>tb { D with nx:=Pv (i+1),ct:=Pv (i+1),bk:=D.nx } σ2 H2)(hd:∀σ H,Pv n σ H->D.nx σ H):
  ∃W:Nat->Nat->St->Hp->Prop,(∃m,W 0 m σ H)/\∀i m σ H,W i m σ H ->
   (J.stop i H/\D.nx σ H)\/(J.go i H/\∃N:St->Hp->Prop,(∀σ' H',N σ' H'->∃m',m'<m/\W (i+1) m' σ' H')/\∀x H',J.yld i H x H'->g x σ H' fun σ2 H2=>tb { D with nx:=N,ct:=N,bk:=D.nx } σ2 H2):=by
 refine⟨fun i m σ H=>m=n-i/\i<=n/\Pv i σ H,⟨n,by simp,Bl _,h0⟩,?_⟩;rintro i m σ H ⟨rfl,hi,p⟩;by_cases hlt:i<n
 ·exact .inr ⟨hgo i σ H hlt p,Pv (i+1),fun σ' H' p'=>⟨n-(i+1),by lia,rfl,hlt,p'⟩,fun x H' y=>hs i x σ H H' hlt p y⟩
 ·grind
theorem z9i{K:Lz}{g:TG}{tb:TS}{D:Ends}(Pv:Nat->St->Hp->Prop)(h0:Pv 0 σ H)(hl:∀i σ H,Pv i σ H->SqL K H a xs/\SqL K H b ys)(hs:∀i x y T σ H,xs[i]?=some x->ys[i]?=some y->Pv i σ H->H T=none->g (.ref T) σ (upd H T (.tup [x,y])) fun σ2 H2=>tb { D with nx:=Pv (i+1),ct:=Pv (i+1),bk:=D.nx } σ2 H2)(hd:∀σ H,Pv (min xs.length ys.length) σ H->D.nx σ H):
  ∃W:Nat->Nat->St->Hp->Prop,(∃m,W 0 m σ H)/\∀i m σ H,W i m σ H ->
   ((Itz (Itl K a) (Itl K b)).stop i H/\D.nx σ H)\/((Itz (Itl K a) (Itl K b)).go i H/\∃N:St->Hp->Prop,(∀σ' H',N σ' H'->∃m',m'<m/\W (i+1) m' σ' H')/\∀v H',(Itz (Itl K a) (Itl K b)).yld i H v H'->g v σ H' fun σ2 H2=>tb { D with nx:=N,ct:=N,bk:=D.nx } σ2 H2):=by
 refine z3a Pv h0 (fun i σ H h p=>⟨?_,?_⟩) (fun σ H p=>?_) (fun i v σ H H' h p yl=>?_) hd
 ·exact⟨xs,xs[i]'(by lia),(hl i σ H p).1,by simp⟩
 ·exact⟨ys,ys[i]'(by lia),(hl i σ H p).2,by simp⟩
 ·by_cases hxy:xs.length<=ys.length
  ·exact .inl ⟨xs,(hl _ σ H p).1,by lia⟩
  ·exact .inr ⟨⟨xs,xs[min xs.length ys.length]'(by lia),(hl _ σ H p).1,by simp⟩,ys,(hl _ σ H p).2,by lia⟩
 ·obtain⟨T,x1,x2,hT,⟨_,y1⟩,⟨_,y2⟩,rfl,rfl⟩:=yl;exact hs i x1 x2 T σ H (y1 xs (hl i σ H p).1) (y2 ys (hl i σ H p).2) p hT
end
open PySem PySem.Spec PyProof.Rows
structure Cal (P:Program) (w:World) (K:Ak) (mg:Str->Option Value) (base:Heap) (x:Str) (k:Nat) (ps:List Str) (sp:Sp):Prop where
 ex:∃f fd,FnOk P w K mg base CX0 k f fd ps sp/\mg x=some (.ref f)/\Hi K (.ref f)=true/\Binds K fd ps []
structure Df (K:Ak) (mg:Str->Option Value) (x:Str) (st:Stmt) (ps:List Str):Prop where
 ex:∃f fd,Fun K x x st f fd/\mg x=some (.ref f)/\Binds K fd ps []
theorem Df.cal{K:Ak}{st:Stmt}(D:Df K mg x st ps)(S:FnScope N ps (defScope st))(len:∀vs H Q E,sp vs H Q E->vs.length=ps.length)(hbody:∀(f:Addr) (cdv:Value) (A:Around) (outer:List Env) (s:Shared) (H:Hp) (vs:List V) (Q:VK) (E:XK),Room k (A.deeper (Jy x (defScope st) s.heap.objs.size f cdv))->sp vs H Q E ->
   ∃t,PSs (cxOf CX0 P w K mg base N x (defScope st) f cdv A outer s H E).nox (defBody st) t/\t { nx:=fun _ H'=>Q .non H',rt:=Q } (start N vs) H):Cal P w K mg base x (k+1) ps sp:=by
 obtain⟨f,fd,F,hm,hb⟩:=D.ex;exact⟨f,fd,F.ok S len fun cdv A outer s H vs Q E hr h=>hbody f cdv A outer s H vs Q E hr h,hm,F.kp,hb⟩
theorem Cal.imp{K:Ak}(C:Cal P w K mg base x k ps sp)(h:∀vs H Q E,sp' vs H Q E->sp vs H Q E):Cal P w K mg base x k ps sp':=by
 obtain⟨f,fd,F,r⟩:=C.ex;exact⟨f,fd,F.imp h,r⟩
section
variable{X:Cx}{x:Str}{k j:Nat}{ps:List Str}{sp:Sp}{p pos:Pos}{e:Expr}{es:List Expr}{t:TA}
theorem pe_c(C:Cal X.prog X.w X.K X.mg X.base x k ps sp)(hr:Room j X.A)(ha:PA X (e::es) t)(hjk:k<=j:=by decide)(hg:Gl X x:=by rfl)(hdb:(x==("__debug__" : Str))=false:=by decide)(he:Bg (e::es) X.env=(false,eval e X.env)::Bg es X.env:=by rfl)(hpl:(Fi pos (Bg es X.env)).any (·.1)=false:=by rfl):
  PE X (.Call (.Name x p) (e::es) [] pos) (tCall sp [] E0 t):=by
 obtain⟨f,fd,F,hm,hk,hb⟩:=C.ex;exact x1z F (hr.mono hjk) hg hm hk hb .nil pass0 ha hdb he hpl
theorem pe_c0(C:Cal X.prog X.w X.K X.mg X.base x k ps sp)(hr:Room j X.A)(hjk:k<=j:=by decide)(hg:Gl X x:=by rfl)(hdb:(x==("__debug__" : Str))=false:=by decide):
  PE X (.Call (.Name x p) [] [] pos) (tCall sp [] E0 tNil):=by
 obtain⟨f,fd,F,hm,hk,hb⟩:=C.ex;exact z8w F (hr.mono hjk) hg hm hk hb .nil pass0 hdb
end
theorem PI.or(h1:PI X tg l w1)(h2:PI X tg l w2):PI X tg l (fun σ H R=>w1 σ H R\/w2 σ H R):=by
 intro pins s σ H R I h;rcases h with h|h
 ·exact h1 pins s σ H R I h
 ·exact h2 pins s σ H R I h
structure FeedAt (H:Hp) (a b:Addr):Prop where
 fa:∃i j:Int,H a=some (.lst [.ref b,.int i,.int j])
 fb:∃ns:List Int,H b=some (.lst (ns.map V.int))
structure Fd (a b:Addr) (H H':Hp):Prop where
 feed:FeedAt H' a b
 keep:∀c o,H c=some o->c≠a->H' c=some o
theorem FeedAt.ne(F:FeedAt H a b):b≠a:=by
 obtain⟨⟨i,j,h⟩,ns,h'⟩:=F;refine z5e h' h ?_;intro z;cases ns with
 |nil=>cases z
 |cons n r=>simp at z
theorem Fd.refl(F:FeedAt H a b):Fd a b H H:=⟨F,fun _ _ h _=>h⟩
theorem Fd.trans(x:Fd a b H H1)(y:Fd a b H1 H2):Fd a b H H2:=⟨y.feed,fun c o h hc=>y.keep c o (x.keep c o h hc) hc⟩
theorem Fd.free(x:Fd a b H H')(h:H' p=none):H p=none:=by
 cases e:H p with
 |none=>rfl
 |some o =>
  by_cases hp:p=a
  ·subst hp;obtain⟨i,j,q⟩:=x.feed.fa;rw[h] at q;cases q
  ·rw[x.keep p o e hp] at h;cases h
theorem FeedAt.upd(F:FeedAt H a b)(ha:a≠p)(hb:b≠p):FeedAt (upd H p o) a b :=
 ⟨let ⟨i,j,h⟩:=F.fa;⟨i,j,by rw[q0c ha];exact h⟩,let ⟨ns,h⟩:=F.fb;⟨ns,by rw[q0c hb];exact h⟩⟩
theorem FeedAt.na(F:FeedAt H a b)(h:H p=none):a≠p:=by obtain⟨i,j,q⟩:=F.fa;exact q0i q h
theorem FeedAt.nb(F:FeedAt H a b)(h:H p=none):b≠p:=by obtain⟨ns,q⟩:=F.fb;exact q0i q h
theorem Fd.put(x:Fd a b H H')(F:FeedAt H a b)(h:H p=none):Fd a b H (upd H' p o) :=
 ⟨x.feed.upd (F.na h) (F.nb h),fun c u e hc=>by rw[q0c (q0i e h)];exact x.keep c u e hc⟩
theorem Fd.new(x:Fd a b H H')(h:H' p=none):Fd a b H (upd H' p o) :=
 ⟨x.feed.upd (x.feed.na h) (x.feed.nb h),fun c u e hc=>by rw[q0c (q0i (x.keep c u e hc) h)];exact x.keep c u e hc⟩
theorem Fd.at(x:Fd a b H H')(h:H c=some o)(hc:c≠a):H' c=some o:=x.keep c o h hc
theorem Fd.same(x:Fd a b H H')(s:Same H' H2):Fd a b H H2 :=
 ⟨⟨let ⟨i,j,h⟩:=x.feed.fa;⟨i,j,s _ _ h⟩,let ⟨ns,h⟩:=x.feed.fb;⟨ns,s _ _ h⟩⟩,fun c o e hc=>s _ _ (x.keep c o e hc)⟩
theorem Same.new(s:Same H H')(h:H' p=none):Same H (upd H' p o):=fun c u e=>by rw[q0c (q0i (s c u e) h)];exact s c u e
theorem Same.put(s:Same H H')(h:H p=none):Same H (upd H' p o):=fun c u e=>by rw[q0c (q0i e h)];exact s c u e
def spDraw:Sp:=fun vs H Q _=>∃a b m,vs=[.ref a,.int m]/\FeedAt H a b/\0<m/\m<1073741824/\∀(r:Int) H',0<=r->r<m->Fd a b H H'->Q (.int r) H'
def spConst(x:Str):Sp:=fun vs H Q _=>vs=[]/\Q (.str x) H
theorem x2g{xs:List α}(i:Int)(h:xs≠[]):∃x,x∈xs/\atI xs (i%(xs.length:Int))=some x:=by
 have hl:0<(xs.length:Int):=by
  cases xs with
  |nil=>exact absurd rfl h
  |cons a r=>grind
 have h0:=Me i (show(xs.length:Int)≠0 by lia);have h1:=Kb i hl;have hn:(i%(xs.length:Int)).toNat<xs.length:=by lia
 unfold atI ixN;rw[if_pos h0,if_pos h1];simp[hn]
theorem q7r{xs:List α}(h0:0<=i)(h1:i<(xs.length:Int)):∃x,xs[i.toNat]?=some x/\atI xs i=some x:=by
 have hn:i.toNat<xs.length:=by lia
 unfold atI ixN;rw[if_pos h0,if_pos h1];simp[hn]
open PySem PySem.Spec PyProof.Rows
mutual
inductive Dt (K : Ak) (H : Hp) : V → PyData → Prop
  | non : Dt K H .non .none
  | bl (b : Bool) : Dt K H (.bl b) (.bool b)
  | int (i : Int) : Dt K H (.int i) (.int i)
  | str (x : Str) : Dt K H (.str x) (.str x)
  | lst {a : Addr} {xs : List V} {ds : List PyData} : SqL K H a xs → Dts K H xs ds → Dt K H (.ref a) (.list ds)
  | tup {a : Addr} {xs : List V} {ds : List PyData} : SqT K H a xs → Dts K H xs ds → Dt K H (.ref a) (.tuple ds)
inductive Dts (K : Ak) (H : Hp) : List V → List PyData → Prop
  | nil : Dts K H [] []
  | cons {x : V} {xs : List V} {d : PyData} {ds : List PyData} : Dt K H x d → Dts K H xs ds → Dts K H (x :: xs) (d :: ds)
end
section
variable{X:Cx}{pins:List (Addr×Obj)}{σ:St}{H:Hp}{s:Shared}
mutual
theorem Dt.reads (I : Inv X pins σ H s) : ∀ {x : V} {d : PyData} {u : Value}, Dt X.K H x d → RelV x u → ∃ as, Reads s.heap u d as
  | _, _, _, .non, r => by cases r; exact ⟨_, .none⟩
  | _, _, _, .bl b, r => by cases r; exact ⟨_, .bool b⟩
  | _, _, _, .int i, r => by obtain ⟨t, rfl⟩ := r; exact ⟨_, .int i t⟩
  | _, _, _, .str x, r => by obtain ⟨t, rfl⟩ := r; exact ⟨_, .str x t⟩
  | _, _, _, .lst q ds, r => by
    cases r
    obtain ⟨its, rv, ⟨o, n, e, c, _, d⟩, _⟩ := I.list q
    obtain ⟨as, h⟩ := Dts.reads I ds rv
    exact ⟨_, .list e c d (by simpa using h)⟩
  | _, _, _, .tup q ds, r => by
    cases r
    obtain ⟨its, rv, ⟨o, e, c, n, d⟩, _⟩ := I.tuple q
    obtain ⟨as, h⟩ := Dts.reads I ds rv
    exact ⟨_, .tuple e c d (by simpa using h)⟩
theorem Dts.reads (I : Inv X pins σ H s) : ∀ {xs : List V} {ds : List PyData} {us : List Value}, Dts X.K H xs ds → Vals xs us → ∃ as, ReadsAll s.heap us ds as
  | _, _, _, .nil, .nil => ⟨_, .nil⟩
  | _, _, _, .cons d ds, .cons r rs => by
    obtain ⟨as, h⟩ := Dt.reads I d r
    obtain ⟨bs, h'⟩ := Dts.reads I ds rs
    exact ⟨_, .cons h h'⟩
end
end
section
variable{X:Cx}{k:Nat}
def rEqD(K:Ak):R2:=fun x y H Q=>∃d e,Dt K H x d/\Dt K H y e/\d.canLay0=true/\e.canLay0=true/\min d.depth e.depth<=100/\Q (.bl (Ey d e)) H
def rNeD(K:Ak):R2:=fun x y H Q=>∃d e,Dt K H x d/\Dt K H y e/\d.canLay0=true/\e.canLay0=true/\min d.depth e.depth<=100/\Q (.bl (!PyData.eqv d e)) H
theorem op_eqD(hr:Room k X.A):OpR X (Cl .Eq) (rEqD X.K):=by
 intro pins s σ H x y v u Q I rx ry h;obtain⟨d,e,hd,he,cd,ce,hm,q⟩:=h;obtain⟨as,r1⟩:=hd.reads I rx;obtain⟨bs,r2⟩:=he.reads I ry;have hu:=hr.un;exact SeqAt.rcAt_reads r1 r2 cd ce (by lia) X.prog X.w X.xe _ ⟨.bl _,H,I,rfl,q⟩
theorem op_neD(hr:Room k X.A):OpR X (Cl .NotEq) (rNeD X.K):=by
 intro pins s σ H x y v u Q I rx ry h;obtain⟨d,e,hd,he,cd,ce,hm,q⟩:=h;obtain⟨as,r1⟩:=hd.reads I rx;obtain⟨bs,r2⟩:=he.reads I ry;have hu:=hr.un;exact SeqAt.rcNeAt_reads r1 r2 cd ce (by lia) X.prog X.w X.xe _ ⟨.bl _,H,I,rfl,q⟩
def rAddU:R2:=fun x y H Q=>(∃i j,x=.int i/\y=.int j/\Q (.int (i+j)) H)\/(∃i j,x=.str i/\y=.str j/\i.length+j.length<=sizeLine/\Q (.str (i++j)) H)\/rCat x y H Q
theorem q1q:OpR X (Ge .Add) rAddU:=op_add.or (op_add_str.or op_cat)
def rMulU:R2:=fun x y H Q=>(∃i j,x=.int i/\y=.int j/\CMul i j/\Q (.int (i*j)) H)\/rMulS x y H Q\/rRep x y H Q
theorem z1v:OpR X (Ge .Mult) rMulU:=op_mul.or (op_mulS.or op_rep)
def rEqU(K:Ak):R2:=fun x y H Q=>rEq x y H Q\/rEqD K x y H Q
theorem op_eqU(hr:Room k X.A):OpR X (Cl .Eq) (rEqU X.K):=op_eq.or (op_eqD hr)
def rNeU(K:Ak):R2:=fun x y H Q=>rNe x y H Q\/rNeD K x y H Q
theorem op_neU(hr:Room k X.A):OpR X (Cl .NotEq) (rNeU X.K):=op_ne.or (op_neD hr)
def rInU(K:Ak):R2:=fun x y H Q=>(∃i j,x=.str i/\y=.str j/\Q (.bl (!(Pe j i 0 j.length 1).isEmpty)) H)\/rIn K false x y H Q
theorem op_inU:OpR X (Cl .In) (rInU X.K):=op_in_str.or z5v
def rSlU(K:Ak):V->Option Int->Option Int->Hp->VK->Prop:=fun x lo hi H Q=>rSlS x lo hi H Q\/rSlL K x lo hi H Q\/rSlT K x lo hi H Q
theorem sl_U:SlR X (rSlU X.K):=sl_str.or (sl_list.or x0x)
def iAny(K:Ak)(tl:TE):TI:=fun σ H R=>tl σ H fun x H1=>(∃a,x=.ref a/\(∃xs,SqL K H1 a xs)/\R (Itl K a) H1)\/(∃a,x=.ref a/\(∃xs,SqT K H1 a xs)/\R (Itt K a) H1)\/∃z,x=.str z/\R (Its z) H1
theorem pi_any(hl:PE X l tl):PI X tg l (iAny X.K tl):=by
 intro pins s σ H R I h;refine thn (hl pins s σ H _ I h) fun v s1 ⟨x,H1,I1,r1,q1⟩=>?_;have fp:∀b∈[s1.heap.objs.size],FpOk X pins H1 b:=fun b hb=>by
  have e:b=s1.heap.objs.size:=by grind
  subst e;exact I1.fpOk (Aq _) (I1.hok.fresh (Aq _))
 rcases q1 with⟨a,e,⟨xs,hq⟩,q⟩|⟨a,e,⟨xs,hq⟩,q⟩|⟨z,e,q⟩
 ·subst e;cases r1;obtain⟨its,rv,p,hz⟩:=I1.list hq;exact Kt p.isList ⟨s1.heap.objs.size,[s1.heap.objs.size],_,_,H1,rfl,I1.kept (t':=s1.toks) fun b o e=>Ah _ e,z5i a _,⟨_,Ar _ rfl,rfl,rfl⟩,fp,q⟩
 ·subst e;cases r1;obtain⟨its,rv,p,hz⟩:=I1.tuple hq;exact wpAny_pyIter_tuple (show s1.heap.IsTuple a its.toArray from p) ⟨s1.heap.objs.size,[s1.heap.objs.size],_,_,H1,rfl,I1.kept (t':=s1.toks) fun b o e=>Ah _ e,z3w a _,⟨_,Ar _ rfl,rfl,rfl⟩,fp,q⟩
 ·subst e;obtain⟨t,rfl⟩:=r1;cases ha:z.cps.all (· < 128)
  ·exact wpAny_pyIter_wide ha ⟨s1.heap.objs.size,[s1.heap.objs.size],_,_,H1,rfl,I1.kept (t':=s1.toks) fun b o e=>Ah _ e,z6a _ z t,⟨Bl _,_,Ar _ rfl,rfl,rfl⟩,fp,q⟩
  ·exact wpAny_pyIter_ascii ha ⟨s1.heap.objs.size,[s1.heap.objs.size],_,_,H1,rfl,I1.kept (t':=s1.toks) fun b o e=>Ah _ e,z5z _ z t,⟨Bl _,_,Ar _ rfl,rfl,rfl⟩,fp,q⟩
def iZip(K:Ak)(ta:TA):TI:=fun σ H R=>iZipS ta σ H R\/iZipL K ta σ H R
theorem pi_zip{elts:List Expr}{kk:Nat}{tpos:Pos}{p pos:Pos}(hg:Gl X "zip")(hm:X.mg "zip" = none)(ha:PA X [a,b] ta)(hs:Bg [a,b] X.env=[(false,eval a X.env),(false,eval b X.env)]:=by rfl)(hs2:Bg [b] X.env=[(false,eval b X.env)]:=by rfl):
  PI X (.Tuple elts kk tpos) (.Call (.Name "zip" p) [a,b] [] pos) (iZip X.K ta):=(x2e hg hm ha hs hs2).or (x2f hg hm ha hs hs2)
end
open PySem PySem.Spec PyProof.Rows
section
variable{X:Cx}{a b o e l:Expr}{es:List Expr}{ta tb to te tl:TE}{t:TA}{pos p2 apos cpos:Pos}{k:Nat}{name:Str}{T idn:String}{r:V->List V->Hp->VK->Prop}
theorem ix_k(K:Ak)(hK:X.K=K):IxR X (rIx K):=by subst hK;exact ix_seq
theorem q4f(K:Ak)(hK:X.K=K):CallR X (.builtin "len") (fun xs H Q=>∃x n,xs=[x]/\LenV K x H n/\Q (.int n) H):=by subst hK;exact z8t
theorem eq_k(K:Ak)(hK:X.K=K)(hr:Room k X.A):OpR X (Cl .Eq) (rEqU K):=by subst hK;exact op_eqU hr
theorem ne_k(K:Ak)(hK:X.K=K)(hr:Room k X.A):OpR X (Cl .NotEq) (rNeU K):=by subst hK;exact op_neU hr
theorem in_k(K:Ak)(hK:X.K=K):OpR X (Cl .In) (rInU K):=by subst hK;exact op_inU
theorem sl_k(K:Ak)(hK:X.K=K):SlR X (rSlU K):=by subst hK;exact sl_U
theorem q3a{tg:Expr}(K:Ak)(hK:X.K=K)(hl:PE X l tl):PI X tg l (iAny K tl):=by subst hK;exact pi_any hl
theorem zip_k{elts:List Expr}{kk:Nat}{tpos:Pos}{p:Pos}(K:Ak)(hK:X.K=K)(hg:Gl X "zip")(hm:X.mg "zip" = none)(ha:PA X [a,b] t)(hs:Bg [a,b] X.env=[(false,eval a X.env),(false,eval b X.env)]:=by rfl)(hs2:Bg [b] X.env=[(false,eval b X.env)]:=by rfl):
  PI X (.Tuple elts kk tpos) (.Call (.Name "zip" p) [a,b] [] pos) (iZip K t):=by subst hK;exact pi_zip hg hm ha hs hs2
theorem all_k(K:Ak)(hK:X.K=K)(hc:X.calm=true):CallR X (.builtin "all") (fun xs H Q=>∃(p:Addr) (bs:List Bool),xs=[.ref p]/\SqL K H p (bs.map V.bl)/\Q (.bl (bs.all id)) H):=by subst hK;exact z9e hc
theorem x2h(K:Ak)(hK:X.K=K):CallR X (.builtin "isinstance") (fun xs H Q=>∃x c t b,xs=[x,.ty c]/\TyOf K H x t/\W.kitOne K t (.type c)=some b/\Q (.bl b) H):=by subst hK;exact z1t
theorem x1a(K:Ak)(hK:X.K=K):CallR X (.type "list") (fun xs H Q=>∃p ys,xs=[.ref p]/\(SqL K H p ys\/SqT K H p ys)/\∀l,H l=none->Q (.ref l) (upd H l (.lst ys))):=by subst hK;exact z0a
theorem x1b(K:Ak)(hK:X.K=K):MtM X "str.join" (rJoin K):=by subst hK;exact x2d
theorem q2t{kk n:Nat}{u:TGs}(K:Ak)(hK:X.K=K)(hc:X.calm=true)(h:PGs X es u)(hn:(Ja es X.env).length=n:=by rfl)(hst:(Ja es X.env).findIdx? (·.1)=none:=by rfl):PG X (.Tuple es kk pos) (gTup K n u):=by subst hK;exact pg_tup hc h hn hst
theorem bm_k(K:Ak)(hK:X.K=K)(pa:PlainAttrs T)(slot:Slot T name idn)(hty:typeOf (.builtin idn)=pure (.type "method_descriptor"))(hm:MtR X idn r)(ho:PE X o to)(ha:PA X (e::es) t)(hbase:Fy o name X.env (eval o X.env)=eval o X.env:=by rfl)(hfew:((Fi cpos (Bg (e::es) X.env)).all (fun x => !x.1)&&(Li cpos (Ie [] X.env)).all (fun x=>x.1.isSome)
   && decide ((e::es).length+([]:List Keyword).length+(if ([]:List Keyword).isEmpty then 0 else 1)<30))=true:=by rfl)(hline:(apos.endLine==cpos.line)=true:=by rfl)(hs:Bg (e::es) X.env=(false,eval e X.env)::Bg es X.env:=by rfl)(hplain:(Fi cpos (Bg es X.env)).any (·.1)=false:=by rfl):
  PE X (.Call (.Attribute o name apos) (e::es) [] cpos) (tBM K T r to t):=by subst hK;exact pe_bm pa slot hty hm ho ha hbase hfew hline hs hplain
theorem z1w(K:Ak)(hK:X.K=K)(pa:PlainAttrs T)(slot:Slot T name idn)(hty:typeOf (.builtin idn)=pure (.type "method_descriptor"))(hm:MtR X idn r)(ho:PE X o to)(hbase:Fy o name X.env (eval o X.env)=eval o X.env:=by rfl)(hline:(apos.endLine==cpos.line)=true:=by rfl):PE X (.Call (.Attribute o name apos) [] [] cpos) (tBM0 K T r to):=by subst hK;exact pe_bm0 pa slot hty hm ho hbase hline
theorem q5x(K:Ak)(hK:X.K=K)(ha:PE X a ta)(he:∀whole,isTrue a X.env whole=(do let v<-whole;Oj a.pos;Jl [v] (truthy v))):
  PT X a (fun σ H Q=>ta σ H fun x H'=>∃k,TruV K x H' k/\Q k H'):=by subst hK;exact z8s ha he
end
theorem z1x{lo:Int}{r:St}{Fin:List V->Hp->Prop}(Pv:Nat->List V->Hp->Prop)(h0:Pv 0 [] (upd H1 D (.lst [])))(hl:∀i ys H,Pv i ys H->H D=some (.lst ys))(hs:∀i ys H,i<n->Pv i ys H->te (some (.int (lo+i))::r) H fun v H4=>H4 D=some (.lst ys)/\ys.length<sizeLine/\Pv (i+1) (ys++[v]) (upd H4 D (.lst (ys++[v]))))(hd:∀ys H,Pv n ys H->Fin ys H):CompW (Itr lo n) (gName 0) tIf0 te (none::r) D Fin H1 :=
 z4i Pv h0 hl (fun i ys H h p=>(⟨q0u,iteT (hs i ys H h p)⟩:Keeps0 (none::r) (some (.int (lo+i))::r)/\if true=true then te (some (.int (lo+i))::r) H fun v H4=>H4 D=some (.lst ys)/\ys.length<sizeLine/\Pv (i+1) (ys++[v]) (upd H4 D (.lst (ys++[v]))) else Pv (i+1) ys H)) hd
theorem z6d{r:St}{Fin:List V->Hp->Prop}(Pv:Nat->List V->Hp->Prop)(h0:Pv 0 [] (upd H1 D (.lst [])))(hl:∀i ys H,Pv i ys H->H D=some (.lst ys))(hs:∀i ys H c,z.cps[i]?=some c->Pv i ys H->te (some (.str ⟨#[c]⟩)::r) H fun v H4=>H4 D=some (.lst ys)/\ys.length<sizeLine/\Pv (i+1) (ys++[v]) (upd H4 D (.lst (ys++[v]))))(hd:∀ys H,Pv z.length ys H->Fin ys H):CompW (Its z) (gName 0) tIf0 te (none::r) D Fin H1 :=
 z9f Pv h0 hl (fun i ys H c h p=>(⟨q0u,iteT (hs i ys H c h p)⟩:Keeps0 (none::r) (some (.str ⟨#[c]⟩)::r)/\if true=true then te (some (.str ⟨#[c]⟩)::r) H fun v H4=>H4 D=some (.lst ys)/\ys.length<sizeLine/\Pv (i+1) (ys++[v]) (upd H4 D (.lst (ys++[v]))) else Pv (i+1) ys H)) hd
theorem z4j{K:Ak}{r:St}{Fin:List V->Hp->Prop}(Pv:Nat->List V->Hp->Prop)(h0:Pv 0 [] (upd H1 D (.lst [])))(hl:∀i ys H,Pv i ys H->H D=some (.lst ys)/\SqL K H a xs)(hs:∀i ys H x,xs[i]?=some x->Pv i ys H->te (some x::r) H fun v H4=>H4 D=some (.lst ys)/\ys.length<sizeLine/\Pv (i+1) (ys++[v]) (upd H4 D (.lst (ys++[v]))))(hd:∀ys H,Pv xs.length ys H->Fin ys H):CompW (Itl K a) (gName 0) tIf0 te (none::r) D Fin H1 :=
 q2m Pv h0 hl (fun i ys H x h p=>(⟨q0u,iteT (hs i ys H x h p)⟩:Keeps0 (none::r) (some x::r)/\if true=true then te (some x::r) H fun v H4=>H4 D=some (.lst ys)/\ys.length<sizeLine/\Pv (i+1) (ys++[v]) (upd H4 D (.lst (ys++[v]))) else Pv (i+1) ys H)) hd
theorem z6e{K:Ak}{r:St}{Fin:List V->Hp->Prop}(Pv:Nat->List V->Hp->Prop)(h0:Pv 0 [] (upd H1 D (.lst [])))(hl:∀i ys H,Pv i ys H->H D=some (.lst ys)/\SqT K H a xs)(hs:∀i ys H x,xs[i]?=some x->Pv i ys H->te (some x::r) H fun v H4=>H4 D=some (.lst ys)/\ys.length<sizeLine/\Pv (i+1) (ys++[v]) (upd H4 D (.lst (ys++[v]))))(hd:∀ys H,Pv xs.length ys H->Fin ys H):CompW (Itt K a) (gName 0) tIf0 te (none::r) D Fin H1 :=
 z9c Pv h0 hl (fun i ys H x h p=>(⟨q0u,iteT (hs i ys H x h p)⟩:Keeps0 (none::r) (some x::r)/\if true=true then te (some x::r) H fun v H4=>H4 D=some (.lst ys)/\ys.length<sizeLine/\Pv (i+1) (ys++[v]) (upd H4 D (.lst (ys++[v]))) else Pv (i+1) ys H)) hd
def tSeqJ(t u:TS):TS:=fun D σ H=>∃J:St->Hp->Prop,(∀σ' H',J σ' H'->u D σ' H')/\t { D with nx:=J } σ H
theorem q3b{X:Cx}{st:Stmt}{rest:List Stmt}{t u:TS}(h1:PS X st t)(h2:PSs X rest u):PSs X (st::rest) (tSeqJ t u):=by
 intro pins s σ H D I h;obtain⟨J,hJ,h⟩:=h;refine On (thn (h1 pins s σ H { D with nx:=J } I h) fun f s1 q=>?_);cases f with
 |next =>
  obtain⟨σ',H',I',q⟩:=q;exact h2 pins s1 σ' H' D I' (hJ σ' H' q)
 |ret v=>exact q
 |brk=>exact q
 |cont=>exact q
def tVJ(t:TE):TE:=fun σ H Q=>∃J:VK,(∀v H',J v H'->Q v H')/\t σ H J
theorem pe_j{X:Cx}{e:Expr}{t:TE}(h:PE X e t):PE X e (tVJ t):=by
 intro pins s σ H Q I hw;obtain⟨J,hJ,hw⟩:=hw;exact thn (h pins s σ H J I hw) fun u s' ⟨v,H',I',r,q⟩=>⟨v,H',I',r,hJ v H' q⟩
def tTJ(t:TT):TT:=fun σ H Q=>∃J:Bool->Hp->Prop,(∀b H',J b H'->Q b H')/\t σ H J
theorem pt_j{X:Cx}{e:Expr}{t:TT}(h:PT X e t):PT X e (tTJ t):=by
 intro pins s σ H Q I hw;obtain⟨J,hJ,hw⟩:=hw;exact thn (h pins s σ H J I hw) fun u s' ⟨H',I',q⟩=>⟨H',I',hJ u H' q⟩
theorem iteB{B:Prop}(hA:c=true->A)(hB:c=false->B):if c=true then A else B:=by grind
end L2
namespace TX
open PySem PySem.Spec PyProof.Rows L2
abbrev tl(x:Str):List Nat:=x.cps.toList
abbrev mk(l:List Nat):Str:=⟨l.toArray⟩
theorem q2w(l:List Nat):tl (mk l)=l:=by simp[tl,mk]
theorem z6f(x:Str):mk (tl x)=x:=by simp[tl,mk]
theorem ext(h:tl x=tl y):x=y:=ext_toList h
theorem len(x:Str):x.length=(tl x).length:=by simp[tl,Str.length]
theorem z6g(x y:Str):tl (x++y)=tl x++tl y:=by
 show(x.cps++y.cps).toList=_;simp[tl]
theorem get{i:Nat}(h:x.cps[i]?=some c):(tl x)[i]?=some c:=by simpa[tl] using h
theorem x2i(z:Str)(ts:List Str):Tp z ts=Str.join z ts:=StrLaws.glued_eq_join z ts
theorem x2j:∀ts:List Str,tl (Tp (Ao "") ts)=(ts.map tl).flatten:=by
 intro ts;rw[x2i];induction ts with
 |nil=>rfl
 |cons a r ih =>
  cases r with
  |nil=>simp[Str.join]
  |cons b r =>
   show tl (a++Ao "" ++ Str.join (Ao "") (b::r))=_;rw[z6g,z6g,ih];have e:tl (Ao "")=[]:=by decide +kernel
   rw[e];simp
theorem z0g(cs:List Nat):Tp (Ao "") (cs.map fun c=>(⟨#[c]⟩:Str))=mk cs:=by
 apply ext;rw[x2j,q2w,Ap];induction cs with
 |nil=>rfl
 |cons c r ih=>rw[Aw,Nv,ih];rfl
theorem z3b(cs:List Nat):((cs.map fun c=>(⟨#[c]⟩:Str)).map (·.length)).sum=cs.length:=by
 induction cs with
 |nil=>rfl
 |cons c r ih=>rw[Aw,Aw,List.sum_cons,ih,By];show 1+_=_;lia
theorem lower(h:∀c∈tl x,c<128):tl (Txt.lower x)=(tl x).map lo1:=by
 rw[lower_ascii h];simp[tl]
theorem small(h:n<=1000000):n<=sizeLine:=by rw[Ev];lia
theorem small'(h:n<=1000000):n<sizeLine:=by rw[Ev];lia
end TX
namespace L2
open PySem PySem.Spec PyProof.Rows TX
def spText:Sp:=fun vs H Q _=>∃a b g n,vs=[.ref a,.str g,.int n]/\FeedAt H a b/\0<g.length/\g.length<=1000/\0<=n/\n<=1000 /\
 ∀(t:List Nat) H',t.length=n.toNat->(∀c∈t,c∈tl g)->Fd a b H H'->Q (.str (mk t)) H'
open PySem PySem.Spec PyProof.Rows
section
variable{prog:Program}{w:World}{K:Ak}{A:Around}{E:Value->Shared->Prop}{s:Shared}{J:It}{st:Nat->Heap->Prop}{e it:Addr}{H:Hp}
theorem z4k{i:Nat}{Q:Value->Shared->Prop}(S:Srce prog w K J it st)(hh:A.handled=none)(vw:Vw K H s.heap)(nH:H it=none)(nK:K.lookup it=none)(he:IsEnum s.heap e it i old)(hst:st i s.heap)(go:J.go i H)(hne:e≠it)(hQ:∀u x h' tk,RelV x u->J.yld i H x H->IsEnumOut h' e it ((i:Int)+1) u s.heap.objs.size->st (i+1) h'->h'.get? s.heap.objs.size=some { cls:=.type "tuple",data:=.seq #[.int i tk,u] }->h'.objs.size=s.heap.objs.size+1 ->
   (∀b o,b≠e->b≠it->s.heap.get? b=some o->h'.get? b=some o)->Q (.ref s.heap.objs.size) { s with heap:=h',toks:=tk+1 }):
  wpAny (model prog w) A (Cy.«enumerate.__next__» ⟨[.ref e],[]⟩) (fun fin s'=>∃v,fin=.done (.ret v)/\Q v s') E s:=by
 obtain⟨hp,g,d,tk₀,os⟩:=s;show wpAny _ _ (field (.ref e) 2 >>= _) _ _ _;refine Aa (Cb he rfl rfl ?_);refine Aa (S.item _ i _ H _ _ hh vw nH nK hst go fun u x h₁ tk rx yx st₁ hs₁=>?_);have he₁:=(hs₁.2 e hne).trans he;refine Aa (Cb he₁ rfl rfl ?_);refine Aa (Cb he₁ rfl rfl ?_);refine Aa (wpAny_mkInt ?_);refine Aa (Co he₁ (by simp) fun h₂ he₂ hs₂=>?_);refine Aa (Co he₂ (by simp) fun h₃ he₃ hs₃=>?_);refine Aa (Mx ?_);have he₄:IsEnum (h₃.push { cls:=.type "tuple",data:=.seq #[.int i tk,u] }) e it ((i:Int)+1) old:=Ah _ he₃;generalize hh₄:h₃.push { cls:=.type "tuple",data:=.seq #[.int i tk,u] }=h₄ at he₄;have hsz:h₃.objs.size=hp.objs.size:=by rw[hs₃.1,hs₂.1,hs₁.1]
 have hel:=Au he;have ht₄:h₄.get? hp.objs.size=some { cls:=.type "tuple",data:=.seq #[.int i tk,u] }:=by rw[<- hh₄,<- hsz];exact Ar _ rfl
 have hz₄:h₄.objs.size=hp.objs.size+1:=by rw[<- hh₄,Ex,hsz]
 have hk₄:∀b o,b≠e->b≠it->hp.get? b=some o->h₄.get? b=some o:=fun b o hbe hbi hb=>by
  rw[<- hh₄];exact Ah _ (hs₃.extBut b o hbe (hs₂.extBut b o hbe (hs₁.extBut b o hbi hb)))
 have hit₄:st (i+1) h₄:=S.keep _ _ _ st₁ fun o y=>by
  rw[<- hh₄];exact Ah _ (hs₃.extBut it o hne.symm (hs₂.extBut it o hne.symm y))
 rw[hsz];refine Aa ?_;refine Aa (Cb he₄ rfl rfl (Ad ?_));refine Aa (Fk ?_);refine Aa (Cb he₄ rfl rfl ?_);refine Aa (Co he₄ (by simp) fun h₅ he₅ hs₅=>?_);refine Aa ?_;refine Aa (Co he₅ (by simp) fun h₆ he₆ hs₆=>?_);refine Co he₆ (by simp) fun h₇ he₇ hs₇=>?_;have up:=fun b o hb y=>hs₇.extBut b o hb (hs₆.extBut b o hb (hs₅.extBut b o hb y));refine Aa (Fr (Ad ⟨_,rfl,hQ u x h₇ tk rx yx he₇ (S.keep _ _ _ hit₄ fun o y=>up _ o hne.symm y) (up _ _ (Et hel) ht₄) ?_ fun b o hbe hbi hb=>up b o hbe (hk₄ b o hbe hbi hb)⟩));rw[hs₇.1,hs₆.1,hs₅.1,hz₄]
end
def Ite(J:It):It:=⟨fun i H=>J.go i H,fun i H x H'=>∃T y,H T=none/\J.yld i H y H/\x=.ref T/\H'=upd H T (.tup [.int i,y]),fun i H=>J.stop i H⟩
theorem z6h{K:Ak}{st:Nat->Heap->Prop}(hne:e≠it)(S:Srce P w K J it st):
  Turn P w K (.Tuple elts kk pos) (Ite J) [e,it] e (fun i h=>(∃old,IsEnum h e it i old)/\st i h) where
 mem:=by simp
 obj:=fun i h hs b hb=>by
  obtain⟨⟨old,he⟩,h1⟩:=hs;simp only[Ay,Dn,or_false] at hb;rcases hb with rfl|rfl
  ·grind
  ·exact S.obj i h h1
 keep:=fun i h h' hs k=>by
  obtain⟨⟨old,he⟩,h1⟩:=hs;exact⟨⟨old,k e (by simp) _ he⟩,S.keep _ _ _ h1 fun o y=>k it (by simp) o y⟩
 item:=by
  intro X hP hw hK hc i pins s σ H E I hf hs hg;subst hP hw hK;obtain⟨⟨old,he⟩,h1⟩:=hs;have hT:s.TypeIs (.ref e) "enumerate" := ⟨_,he,rfl⟩
  refine Aa (Dw (Bs hT Iu
   (Bo Iu hT Pw
    (z4k S (I.ok.hd hc) I.vw (hf it (by simp)).1 ((hf it (by simp)).noK I) he h1 hg hne fun u x h' tk rx yx a1 a2 a3 a4 a5=>Ad ?_) (Pf _))))
  refine⟨_,rfl,?_⟩;refine wpAny_letOwnedTupleGo_enum a1 fun h2 he2 hs2=>?_;have k2:∀c o,c∉[e,it]->s.heap.get? c=some o->h2.get? c=some o:=fun c o hcn y=>by
   simp only[Ay,Dn,or_false,not_or] at hcn;exact hs2.extBut _ _ hcn.1 (a5 c o hcn.1 hcn.2 y)
  have elt:=Au he;have ilt:it<s.heap.objs.size:=by obtain⟨o,y,_⟩:=S.obj _ _ h1;exact Au y
  have I1:Inv X pins σ H { s with heap:=h2,toks:=tk+1 }:=I.turnedL k2 hf;have FT:=I.fpOk (Aq _) I.fresh;have hT2:h2.get? s.heap.objs.size=some { cls:=.type "tuple",data:=.seq #[.int i tk,u] }:=hs2.extBut _ _ (Et elt) a3;have I2:Inv X pins σ (upd H s.heap.objs.size (.tup [.int i,x])) { s with heap:=h2,toks:=tk+1 } :=
   I1.track I.sz FT ⟨by show 2<=sizeLine;decide,[.int i tk,u],.cons ⟨_,rfl⟩ (.cons rx .nil),⟨_,hT2,rfl,_,rfl⟩⟩
  refine⟨.ref s.heap.objs.size,_,I2,rfl,⟨_,x,I.fresh,yx,rfl,rfl⟩,⟨⟨u,by simpa using he2⟩,S.keep _ _ _ a2 fun o y=>hs2.extBut _ _ hne.symm y⟩,fun b hb=>?_⟩;have hb2:=(hf b hb).1;rw[q0c]
  ·exact hb2
  ·grind
 done:=by
  intro X hP hw hK hc i pins s σ H E I hf hs hg;subst hP hw hK;obtain⟨⟨old,he⟩,h1⟩:=hs;have hT:s.TypeIs (.ref e) "enumerate" := ⟨_,he,rfl⟩
  refine Aa (Dw (Bs hT Iu
   (Bo Iu hT Pw ?_ (Pf _))))
  show wpAny _ _ (field (.ref e) 2 >>= _) _ _ _;refine Aa (Cb he rfl rfl ?_);refine Aa (S.done _ i _ H _ _ (I.ok.hd hc) I.vw (hf it (by simp)).1 ((hf it (by simp)).noK I) h1 hg fun h' x he' hx'=>?_);obtain⟨o,ho,hcl⟩:=hx';refine Aa (Ed ⟨o,ho,hcl⟩ Ir ?_);refine Ad ⟨rfl,I.turnedL (t':=s.toks) (fun c o hcn y=>?_) hf⟩;simp only[Ay,Dn,or_false,not_or] at hcn;exact he' c o hcn.2 y
 self:=fun _ _ _ _ _ hs h=>by
  obtain⟨⟨old,he⟩,_⟩:=hs;exact Sx he h
section
variable{X:Cx}{elts:List Expr}{kk:Nat}{tpos:Pos}
theorem z0h{σ:St}{st:Nat->Heap->Prop}(I:Inv X pins σ H s)(S:Srce X.prog X.w X.K J s.heap.objs.size st)(he:IsEnum h' (s.heap.objs.size+1) s.heap.objs.size 0 .none)(h1:st 0 h')(hk:∀c o,s.heap.get? c=some o->h'.get? c=some o)(q:R (Ite J) H):
  wpAny (model X.prog X.w) X.A (Ju (.ref (s.heap.objs.size+1))) (PIE X pins σ (.Tuple elts kk tpos) R) E { s with heap:=h' }:=by
 refine Sx he ?_;refine⟨_,_,_,_,H,rfl,I.kept (t':=s.toks) hk,z6h (show(s.heap.objs.size+1:Nat)≠s.heap.objs.size by lia) S,⟨⟨_,he⟩,h1⟩,fun b hb=>?_,q⟩;have hb':s.heap.objs.size<=b:=by
  simp only[Ay,Dn,or_false] at hb;rcases hb with rfl|rfl
  ·exact Ig _
  ·exact Aq _
 exact I.fpOk hb' (I.hok.fresh hb')
def iEnum(K:Ak)(ta:TA):TI:=fun σ H R=>ta σ H fun vs H1=>(∃z,vs=[.str z]/\R (Ite (Its z)) H1)\/∃a xs,vs=[.ref a]/\SqL K H1 a xs/\R (Ite (Itl K a)) H1
theorem x2k(hg:Gl X "enumerate")(hm:X.mg "enumerate" = none)(ha:PA X [a] ta)(hs:Bg [a] X.env=[(false,eval a X.env)]:=by rfl):
  PI X (.Tuple elts kk tpos) (.Call (.Name "enumerate" p) [a] [] pos) (iEnum X.K ta):=by
 intro pins s σ H R I h;refine Call_ (q5r I hg hm (by decide +kernel:Ft "enumerate" = some (.type "enumerate")) (Eb (thn (ha pos pins s σ H _ I h) fun us s1 ⟨vs,H1,I1,r1,q1⟩=>?_) hs rfl));rcases q1 with⟨z,e,q⟩|⟨l,xs,e,hq,q⟩
 ·subst e;obtain⟨u,rfl,t,rfl⟩:=vals1 r1;exact call_enumerate_str fun h' he hi hz hk=>z0h I1 (q8z _ z t) he hi hk q
 ·subst e;obtain⟨u,rfl,r⟩:=vals1 r1;cases r;obtain⟨its,rv,pl,_⟩:=I1.list hq;exact call_enumerate_list pl.isList fun h' he hi hz hk=>z0h I1 (q6p l _) he hi hk q
theorem z6i{a:Expr}{ta:TA}{p pos:Pos}(K:Ak)(hK:X.K=K)(hg:Gl X "enumerate")(hm:X.mg "enumerate" = none)(ha:PA X [a] ta)(hs:Bg [a] X.env=[(false,eval a X.env)]:=by rfl):
  PI X (.Tuple elts kk tpos) (.Call (.Name "enumerate" p) [a] [] pos) (iEnum K ta):=by subst hK;exact x2k hg hm ha hs
end
end L2
namespace K
open PySem L2 TX
def NSs:Str:=Ao "abcdefghijklmnopqrstuvwxyzABCDEFGHIJKLMNOPQRSTUVWXYZ0123456789-_."
def GSs:Str:=Ao "?*#@"
abbrev NS:List Nat:=tl NSs
abbrev GS:List Nat:=tl GSs
inductive Pt where
 |tx (l:List Nat)
 |gp (c:Nat)
namespace Pt
def fl:Pt->List Nat
 |tx l=>l
 |gp c=>[c]
def isG:Pt->Bool
 |tx _=>false
 |gp _=>true
def ok:Pt->Prop
 |tx l=>l≠[]/\∀c∈l,c∈NS
 |gp c=>c∈GS
def word:Pt->Str
 |tx _=>Ao "text"
 |gp _=>Ao "gap"
def vs(p:Pt):List V:=[.str p.word,.str (mk p.fl)]
def dat(p:Pt):PyData:=.tuple [.str p.word,.str (mk p.fl)]
end Pt
def flat(ps:List Pt):List Nat:=(ps.map Pt.fl).flatten
def TKeep(H H':Hp):Prop:=∀T xs,H T=some (.tup xs)->H' T=some (.tup xs)
theorem TKeep.refl(H:Hp):TKeep H H:=fun _ _ h=>h
theorem TKeep.trans(a:TKeep H H1)(b:TKeep H1 H2):TKeep H H2:=fun T xs h=>b T xs (a T xs h)
theorem TKeep.new(k:TKeep H H')(h:H' p=none):TKeep H (upd H' p o):=fun T xs e=>by rw[q0c (q0i (k T xs e) h)];exact k T xs e
theorem TKeep.lst{H H':Hp}{p:Addr}{ys zs:List V}(k:TKeep H H')(h:H' p=some (.lst ys)):TKeep H (upd H' p (.lst zs)):=fun T xs e=>by
 rw[q0c (z5e (k T xs e) h (by intro z;cases z))];exact k T xs e
theorem Fd.tk(F:FeedAt H a b)(x:Fd a b H H'):TKeep H H':=fun T xs e=>by
 obtain⟨i,j,h⟩:=F.fa;exact x.at e (z5e e h (by intro z;cases z))
theorem Same.tk(s:Same H H'):TKeep H H':=fun T xs e=>s _ _ e
theorem Pt.dt{p:Pt}(h:H T=some (.tup p.vs)):Dt K H (.ref T) p.dat :=
 .tup (SqT.of h) (.cons (.str _) (.cons (.str _) .nil))
end K
namespace L2
open PySem PySem.Spec PyProof.Rows
section
variable{κ:Type}[DecidableEq κ]
def valV(kvs:List (κ×V))(k:κ):Option V:=(kvs.find? fun kv=>decide (kv.1=k)).map (·.2)
def putK(kvs:List (κ×V))(k:κ)(v:V):List (κ×V) :=
 if (kvs.any fun kv=>decide (kv.1=k))=true then kvs.map (fun kv=>if kv.1=k then(kv.1,v) else kv) else kvs++[(k,v)]
def dropK(kvs:List (κ×V))(k:κ):List (κ×V):=kvs.filter fun kv=>decide (kv.1≠k)
theorem q1p{p:κ×V}(e:p.1=k):valV (p::r) k=some p.2:=by simp[valV,Gq,e]
theorem q1n{p:κ×V}(e:¬p.1=k):valV (p::r) k=valV r k:=by simp[valV,Gq,e]
theorem q4s(k:κ):∀kvs:List (κ×V),(kvs.any fun kv=>decide (kv.1=k))=(valV kvs k).isSome
 |[]=>rfl
 |p::r=>by
  rw[Lg];by_cases e:p.1=k
  ·simp only[q1p e,decide_eq_true e,Bool.true_or,Option.isSome_some]
  ·rw[q1n e,decide_eq_false e,Bool.false_or];exact q4s k r
theorem z3c(k j:κ)(y:V):∀kvs:List (κ×V),valV (kvs.map fun kv=>if kv.1=k then(kv.1,y) else kv) j=(valV kvs j).map fun x=>if j=k then y else x
 |[]=>rfl
 |p::r=>by
  have ih:=z3c k j y r;rw[Aw];by_cases h:p.1=k
  ·rw[if_pos h];by_cases e:p.1=j
   ·rw[q1p (p:=(p.1,y)) e,q1p e,Jo,if_pos (e.symm.trans h)]
   ·rw[q1n (p:=(p.1,y)) e,q1n e,ih]
  ·rw[if_neg h];by_cases e:p.1=j
   ·rw[q1p e,q1p e,Jo,if_neg (fun z=>h (e.trans z))]
   ·rw[q1n e,q1n e,ih]
theorem z0i(k j:κ)(y:V):∀kvs:List (κ×V),valV kvs k=none->valV (kvs++[(k,y)]) j=if j=k then some y else valV kvs j
 |[],_=>by
  by_cases e:k=j
  ·rw[if_pos e.symm];exact q1p (p:=(k,y)) e
  ·rw[if_neg (fun z=>e z.symm)];exact q1n (p:=(k,y)) e
 |p::r,hn=>by
  rw[List.cons_append];have hk:¬p.1=k:=fun z=>by rw[q1p z] at hn;cases hn
  rw[q1n hk] at hn;have ih:=z0i k j y r hn;by_cases e:p.1=j
  ·rw[q1p e,q1p e,if_neg (fun z=>hk (e.trans z))]
  ·rw[q1n e,q1n e,ih]
theorem z9j(kvs:List (κ×V))(k j:κ)(y:V):valV (putK kvs k y) j=if j=k then some y else valV kvs j:=by
 unfold putK;by_cases a:(kvs.any fun kv=>decide (kv.1=k))=true
 ·rw[if_pos a,z3c];rw[q4s] at a;by_cases e:j=k
  ·obtain⟨x,hx⟩:=Op.mp a;rw[if_pos e,e,hx,Jo,if_pos rfl]
  ·simp_all
 ·rw[if_neg a];refine z0i k j y kvs ?_;rw[q4s] at a;cases q:valV kvs k with
  |none=>rfl
  |some x=>grind
theorem q2n(kvs:List (κ×V))(k:κ)(v:V):(putK kvs k v).length<=kvs.length+1:=by
 unfold putK;split
 ·grind
 ·grind
theorem z9k{kvs:List (κ×V)}(v:V)(h:valV kvs k=none):putK kvs k v=kvs++[(k,v)]:=by
 unfold putK;rw[q4s,h];exact if_neg (by decide)
theorem RelO.isSome_eq(r:RelO o u):o.isSome=u.isSome:=by
 cases o with
 |none=>cases u with
  |none=>rfl
  |some _=>exact(show False from r).elim
 |some _=>cases u with
  |none=>exact(show False from r).elim
  |some _=>rfl
theorem RelO.getD(r:RelO o u)(rd:RelV d d'):RelV (o.getD d) (u.getD d'):=by
 cases o with
 |none=>cases u with
  |none=>exact rd
  |some _=>exact(show False from r).elim
 |some _=>cases u with
  |none=>exact(show False from r).elim
  |some _=>exact r
theorem KV.val(r:KV kvs vs)(k:κ):RelO (valV kvs k) (valueAt vs k):=by
 induction r with
 |nil=>exact True.intro
 | @cons p q ps qs h t ih =>
  obtain⟨h1,h2⟩:=h;by_cases e:p.1=k
  ·have e':q.1=k:=h1.symm.trans e;have b:valueAt (q::qs) k=some q.2:=by simp[valueAt,Gq,e']
   rw[q1p e,b];exact h2
  ·have e':¬q.1=k:=fun z=>e (h1.trans z);have b:valueAt (q::qs) k=valueAt qs k:=by simp[valueAt,Gq,e']
   rw[q1n e,b];exact ih
theorem KV.any(r:KV kvs vs)(k:κ):(kvs.any fun kv=>decide (kv.1=k))=vs.any fun kv=>decide (kv.1=k):=by
 induction r with
 |nil=>rfl
 |cons h t ih=>simp_all
theorem KV.repl(r:KV kvs vs)(k:κ)(ry:RelV y u):
  KV (kvs.map fun kv=>if kv.1=k then(kv.1,y) else kv) (vs.map fun kv=>if kv.1=k then(kv.1,u) else kv):=by
 induction r with
 |nil=>exact .nil
 | @cons p q ps qs h t ih =>
  refine .cons ?_ ih;by_cases e:p.1=k
  ·simp_all
  ·simp_all
theorem KV.put(r:KV kvs vs)(k:κ)(ry:RelV y u):KV (putK kvs k y) (stored vs k u):=by
 unfold putK stored;rw[r.any k];by_cases e:(vs.any fun kv=>decide (kv.1=k))=true
 ·rw[if_pos e,if_pos e];exact r.repl k ry
 ·rw[if_neg e,if_neg e];exact Paired.snoc r ⟨rfl,ry⟩
theorem KV.drop(r:KV kvs vs)(k:κ):KV (dropK kvs k) (without vs k):=by
 unfold dropK without;induction r with
 |nil=>exact .nil
 | @cons p q ps qs h t ih =>
  obtain⟨h1,h2⟩:=h;rw[Tr,Tr];by_cases e:p.1=k
  ·simp_all
  ·have e':¬q.1=k:=fun z=>e (h1.trans z);have a:decide (p.1≠k)=true:=by simp[e]
   have b:decide (q.1≠k)=true:=by simp[e']
   rw[if_pos a,if_pos b];exact .cons ⟨h1,h2⟩ ih
theorem KV.keys{kvs:List (κ×V)}(r:KV kvs vs):kvs.map (·.1)=vs.map (·.1):=by
 induction r with
 |nil=>rfl
 |cons h t ih=>grind
theorem KV.length{kvs:List (κ×V)}(r:KV kvs vs):kvs.length=vs.length:=Dv r
end
theorem z0j(r:RelV (kV k) u):(mixKind P w).is k u=true:=by
 cases k with
 |inl i=>obtain⟨t,e⟩:=(show ∃t,u=Value.int i t from r);subst e;exact z1n P w i t
 |inr x=>obtain⟨t,e⟩:=(show ∃t,u=Value.str x t from r);subst e;exact z1o P w x t
theorem z0k{P:Program}{w:World}:∀{ks:List Key} {us:List Value},Vals (ks.map kV) us->ItemsAre (mixKind P w) ks us
 |[],_,r=>by rw[List.map_nil] at r;cases r;exact .nil
 |k::ks,_,r=>by
  rw[Aw] at r;cases r with
  |cons h t=>exact .cons (z0j h) (z0k t)
abbrev KT(H:Hp):List (List Key×V)->List (List Key×Addr×Value)->Prop:=Paired fun p q=>p.1=q.1/\H q.2.1=some (.tup (p.1.map kV))/\RelV p.2 q.2.2
theorem KT.val(r:KT H kvs xs)(k:List Key):RelO (valV kvs k) ((atKey xs k).map (·.2)):=by
 induction r with
 |nil=>exact True.intro
 | @cons p q ps qs h t ih =>
  obtain⟨h1,_,h2⟩:=h;by_cases e:p.1=k
  ·have e':q.1=k:=h1.symm.trans e;have b:atKey (q::qs) k=some q.2:=by simp[atKey,Gq,e']
   rw[q1p e,b];exact h2
  ·have e':¬q.1=k:=fun z=>e (h1.trans z);have b:atKey (q::qs) k=atKey qs k:=by simp[atKey,Gq,e']
   rw[q1n e,b];exact ih
theorem KT.repl(r:KT H kvs xs)(k:List Key)(ry:RelV y u):
  KT H (kvs.map fun kv=>if kv.1=k then(kv.1,y) else kv) (xs.map (putAt k u)):=by
 induction r with
 |nil=>exact .nil
 | @cons p q ps qs h t ih =>
  refine .cons ?_ ih;unfold putAt;by_cases e:p.1=k
  ·simp_all
  ·simp_all
theorem KT.put(r:KT H kvs xs)(k:List Key)(hb:H b=some (.tup (k.map kV)))(ry:RelV y u):
  KT H (putK kvs k y) (storedH xs k b u):=by
 have e:(kvs.any fun kv=>decide (kv.1=k))=(atKey xs k).isSome:=by
  rw[q4s,(r.val k).isSome_eq,Ku]
 unfold putK storedH;rw[e];by_cases q:(atKey xs k).isSome=true
 ·rw[if_pos q,if_pos q];exact r.repl k ry
 ·rw[if_neg q,if_neg q];exact Paired.snoc r ⟨rfl,hb,ry⟩
theorem KT.keeps(r:KT H kvs xs)(ht:∀b ys,H b=some (.tup ys)->H' b=some (.tup ys)):KT H' kvs xs :=
 Paired.mapP r fun _ _ z=>⟨z.1,ht _ _ z.2.1,z.2.2⟩
section
variable{P:Program}{w:World}{H:Hp}{h:Heap}{a:Addr}
theorem rd_of(ok:HOk P w H h)(e:Rd H a u):ObjOk P w H h a u:=e.ok ok
theorem z0l(ok:HOk P w H h)(e:Rd H a (.dK kvs)):kvs.length<=sizeLine/\(a==Cm)=false/\∃vs,KV kvs vs/\h.DictOf (mixKind P w) a vs :=
 show ObjOk P w H h a (.dK kvs) from rd_of ok e
theorem dk_of(ok:HOk P w H h)(e:H a=some (.dK kvs)):kvs.length<=sizeLine/\(a==Cm)=false/\∃vs,KV kvs vs/\h.DictOf (mixKind P w) a vs:=z0l ok (.inl e)
theorem q4t(ok:HOk P w H h)(e:H a=some (.tup (ks.map kV))):(He (mixKind P w)).is h ks a:=by
 obtain⟨_,its,r,o,h1,h2,n,h3⟩:=(show ObjOk P w H h a (.tup (ks.map kV)) from ok a _ e)
 exact⟨o,its.toArray,n,h1,h2,h3,by simpa using z0k r⟩
theorem q7g(ok:HOk P w H h)(e:Rd H a (.dT kvs)):kvs.length<=sizeLine/\(a==Cm)=false /\
  ∃xs,KT H kvs xs/\h.DictOfH (He (mixKind P w)) a xs:=by
 obtain⟨z,y,xs,r,o,es,ep,h1,h2,h3,h4,h5⟩:=(show ObjOk P w H h a (.dT kvs) from rd_of ok e)
 refine⟨z,y,xs,r,o,es,ep,h1,h2,h3,h4,fun x hx=>?_,h5⟩;have all:∀{l:List (List Key×V)} {m:List (List Key×Addr×Value)},KT H l m->∀x∈m,(He (mixKind P w)).is h x.1 x.2.1:=by
  intro l m q;induction q with
  |nil=>grind
  | @cons p q ps qs hq t ih =>
   intro x hx;rcases Ay.mp hx with e|hx
   ·subst e;exact q4t ok (by rw[<- hq.1];exact hq.2.1)
   ·exact ih x hx
 exact all r x hx
theorem x2l(ok:HOk P w H h)(e:H a=some (.dT kvs)):kvs.length<=sizeLine/\(a==Cm)=false /\
  ∃xs,KT H kvs xs/\h.DictOfH (He (mixKind P w)) a xs:=q7g ok (.inl e)
end
def DGet(H:Hp)(a:Addr)(y:V)(r:Option V):Prop :=
 (∃kvs k,Rd H a (.dK kvs)/\y=kV k/\r=valV kvs k)\/∃kvs k b,Rd H a (.dT kvs)/\y=.ref b/\H b=some (.tup (k.map kV))/\r=valV kvs k
def DPut(H:Hp)(a:Addr)(y v:V)(H':Hp):Prop :=
 (∃kvs k,H a=some (.dK kvs)/\y=kV k/\kvs.length<sizeLine/\H'=upd H a (.dK (putK kvs k v))) \/
 ∃kvs k b,H a=some (.dT kvs)/\y=.ref b/\H b=some (.tup (k.map kV))/\kvs.length<sizeLine/\H'=upd H a (.dT (putK kvs k v))
theorem DGet.k{k:Key}(e:H a=some (.dK kvs)):DGet H a (kV k) (valV kvs k):=.inl ⟨kvs,k,.inl e,rfl,rfl⟩
theorem DGet.t{k:List Key}(e:H a=some (.dT kvs))(eb:H b=some (.tup (k.map kV))):DGet H a (.ref b) (valV kvs k):=.inr ⟨kvs,k,b,.inl e,rfl,eb,rfl⟩
theorem DPut.k{k:Key}(e:H a=some (.dK kvs))(hl:kvs.length<sizeLine):DPut H a (kV k) v (upd H a (.dK (putK kvs k v))):=.inl ⟨kvs,k,e,rfl,hl,rfl⟩
theorem DPut.t{k:List Key}(e:H a=some (.dT kvs))(eb:H b=some (.tup (k.map kV)))(hl:kvs.length<sizeLine):
  DPut H a (.ref b) v (upd H a (.dT (putK kvs k v))):=.inr ⟨kvs,k,b,e,rfl,eb,hl,rfl⟩
section
variable{X:Cx}{pins:List (Addr×Obj)}{σ:St}{H:Hp}{s:Shared}{a:Addr}{y v:V}{u r:Value}{o:Option V}{A:Around}{E:Value->Shared->Prop}
theorem Inv.big(I:Inv X pins σ H s):Cm<s.heap.objs.size:=by
 have h:=(I.mod.glob.keeps I.bk).lt;exact Nat.lt_trans (by decide) h
theorem z6j(hu:A.units+1<cLine)(I:Inv X pins σ H s)(g:DGet H a y (some v))(ry:RelV y u)(h:∀w' s',Inv X pins σ H s'->RelV v w'->Q w' s'):
  wpAny (model X.prog X.w) A (getItem (.ref a) u) Q E s:=by
 rcases g with⟨kvs,k,e,ey,l⟩|⟨kvs,k,b,e,ey,eb,l⟩
 ·subst ey;obtain⟨z,hd,vs,rel,dd⟩:=z0l I.hok e;obtain⟨w',hw,rw'⟩:=RelO.some_of (by rw[l];exact rel.val k);exact wpAny_getItem_of (z0j ry) dd.mapOf hw (h w' _ (I.tok _) rw')
 ·subst ey;cases(show u=Value.ref b from ry);obtain⟨z,hd,xs,rel,dd⟩:=q7g I.hok e;obtain⟨w',hw,rw'⟩:=RelO.some_of (by rw[l];exact rel.val k);obtain⟨p,hp,hp2⟩:=Lb.mp hw;refine wpAny_getItem_heap (Ec hu) (q4t I.hok eb) dd hp ?_;rw[hp2];exact h w' _ (I.tok _) rw'
theorem d_in(hu:A.units+1<cLine)(I:Inv X pins σ H s)(g:DGet H a y o)(ry:RelV y u)(h:∀s',Inv X pins σ H s'->Q (.bool o.isSome) s'):
  wpAny (model X.prog X.w) A (Cl .In u (.ref a)) Q E s:=by
 rcases g with⟨kvs,k,e,ey,l⟩|⟨kvs,k,b,e,ey,eb,l⟩
 ·subst ey;obtain⟨z,hd,vs,rel,dd⟩:=z0l I.hok e;refine wpAny_in_of (z0j ry) hd dd.mapOf ?_;rw[<- (rel.val k).isSome_eq,<- l];exact h _ (I.tok _)
 ·subst ey;cases(show u=Value.ref b from ry);obtain⟨z,hd,xs,rel,dd⟩:=q7g I.hok e;refine wpAny_in_heap (Ec hu) (q4t I.hok eb) hd dd ?_;have q:=(rel.val k).isSome_eq;rw[Ku] at q;rw[<- q,<- l];exact h _ (I.tok _)
theorem x2m(hu:A.units+1<cLine)(I:Inv X pins σ H s)(g:DGet H a y o)(ry:RelV y u)(h:∀s',Inv X pins σ H s'->Q (.bool (!o.isSome)) s'):
  wpAny (model X.prog X.w) A (Cl .NotIn u (.ref a)) Q E s:=by
 rcases g with⟨kvs,k,e,ey,l⟩|⟨kvs,k,b,e,ey,eb,l⟩
 ·subst ey;obtain⟨z,hd,vs,rel,dd⟩:=z0l I.hok e;refine wpAny_notIn_of (z0j ry) hd dd.mapOf ?_;rw[<- (rel.val k).isSome_eq,<- l];exact h _ (I.tok _)
 ·subst ey;cases(show u=Value.ref b from ry);obtain⟨z,hd,xs,rel,dd⟩:=q7g I.hok e;refine wpAny_notIn_heap (Ec hu) (q4t I.hok eb) hd dd ?_;have q:=(rel.val k).isSome_eq;rw[Ku] at q;rw[<- q,<- l];exact h _ (I.tok _)
theorem z1y(I:Inv X pins σ H s)(mu:Mut (H a))(hs:Fh a s.heap h')(he:∃q,h'.get? a=some q)(new:ObjOk X.prog X.w (upd H a ob) h' a ob):
  Inv X pins σ (upd H a ob) { s with heap:=h',toks:=t' } :=
 I.write mu (.inl rfl) (fun b q hb z=>(hs.2 b hb).trans z) he new
theorem dk_new(z:kvs.length<=sizeLine)(hd:(a==Cm)=false)(rel:KV kvs vs)(dd:h'.DictOf (mixKind P w) a vs):
  ObjOk P w H' h' a (.dK kvs):=⟨z,hd,vs,rel,dd⟩
theorem z6k(hu:A.units+1<cLine)(I:Inv X pins σ H s)(g:DPut H a y v H')(ry:RelV y u)(rv:RelV v r)(h:∀s',Inv X pins σ H' s'->Q () s'):
  wpAny (model X.prog X.w) A (setItem (.ref a) u r) Q E s:=by
 rcases g with⟨kvs,k,e,ey,l,eH⟩|⟨kvs,k,b,e,ey,eb,l,eH⟩
 ·subst ey eH;obtain⟨z,hd,vs,rel,dd⟩:=dk_of I.hok e;have hz:vs.length<=sizeLine:=by rw[<- rel.length];exact z
  have hl:(putK kvs k v).length<=sizeLine:=by have:=q2n kvs k v;lia
  refine wpAny_setItem_pairs (z0j ry) dd fun h' dd' hs=>h _ ?_;have he:∃q,h'.get? a=some q:=let ⟨q,_,_,hq,_⟩:=dd';⟨q,hq⟩;exact z1y I (by rw[e];exact True.intro) hs he (dk_new hl hd (rel.put k rv) dd')
 ·subst ey eH;cases(show u=Value.ref b from ry);obtain⟨z,hd,xs,rel,dd⟩:=x2l I.hok e;have hz:xs.length<=sizeLine:=by rw[<- Dv rel];exact z
  have hl:(putK kvs k v).length<=sizeLine:=by have:=q2n kvs k v;lia
  refine Sf (Ec hu) (q4t I.hok eb) dd fun h' dd' hs=>h _ ?_;obtain⟨q,es,ep,hq,h2,h3,h4,_,h5⟩:=dd';refine z1y I (by rw[e];exact True.intro) hs ⟨q,hq⟩ ⟨hl,hd,_,(rel.put k eb rv).keeps fun c ys ec=>?_,q,es,ep,hq,h2,h3,h4,h5⟩;rw[q0c (z5e ec e (fun z=>nomatch z))];exact ec
end
def NoSl(i:Expr):Prop:=∀ov iv,Ps i false ov iv=operate [ov,iv] (getItem ov iv)
theorem x2n{id:String}(hl:Ra (.type T) "__getitem__" = pure (some (.builtin id)))(hs:NoSl slice)(h:wpAny (model prog w) A (eval value env) (fun o s₁=>wpAny (model prog w) A (eval slice env) (fun i s₂=>s₂.TypeIs o T/\wpAny (model prog w) A (getItem o i) Q E s₂) E s₁) E s):
  wpAny (model prog w) A (eval (.Subscript value slice pos) env) Q E s:=by
 refine Ud (Cq h (fun o s₁ h₁=>Cq h₁ (fun i s₂ h₂=>?_) fun _ _ x=>x) fun _ _ x=>x);obtain⟨hT,h₂⟩:=h₂;refine Aa ?_;refine Aa (Jp hT hl ?_);have fin:wpAny (model prog w) A (Ps slice false o i) (fun r s₃=>wpAny (model prog w) A (letTemporaryGo value o r >>= fun _=>pure r) Q E s₃) E s₂:=by
  rw[hs o i];exact wpAny_operating (Cq h₂ (fun r s₃ h₃=>Aa (wpAny_letTemporaryGo (Ad h₃))) fun _ _ x=>x)
 first
  |exact Ad (Aa fin)
  |exact Aa (Ad (Aa fin))
  |exact Aa fin
theorem z1z{σ:St}(I:Inv X pins σ H s)(g:DGet H a y o):s.TypeIs (.ref a) "dict" := by
 rcases g with⟨kvs,k,e,_,_⟩|⟨kvs,k,b,e,_,_,_⟩
 ·obtain⟨_,_,vs,_,dd⟩:=z0l I.hok e;exact dd.typeIs
 ·obtain⟨_,_,xs,_,dd⟩:=q7g I.hok e;exact dd.typeIs
def tDGet(td ty:TE):TE:=fun σ H Q=>td σ H fun x H1=>ty σ H1 fun y H2=>∃a v,x=.ref a/\DGet H2 a y (some v)/\Q v H2
def tDIn(ty td:TE):TE:=fun σ H Q=>ty σ H fun y H1=>td σ H1 fun x H2=>∃a o,x=.ref a/\DGet H2 a y o/\Q (.bl o.isSome) H2
def tDNotIn(ty td:TE):TE:=fun σ H Q=>ty σ H fun y H1=>td σ H1 fun x H2=>∃a o,x=.ref a/\DGet H2 a y o/\Q (.bl (!o.isSome)) H2
def sDPut(td ty tv:TE):TS:=fun D σ H=>tv σ H fun v H1=>td σ H1 fun x H2=>ty σ H2 fun y H3=>∃a H4,x=.ref a/\DPut H3 a y v H4/\D.nx σ H4
section
variable{X:Cx}{o i e value:Expr}{pos pos' tpos:Pos}{td ty tv:TE}
theorem q0w(hu:X.A.units+1<cLine)(ho:PE X o td)(hi:PE X i ty)(hs:NoSl i):PE X (.Subscript o i pos) (tDGet td ty):=by
 intro pins s σ H Q I h;refine x2n PySem.F.slot_dict_getitem.lookup hs (thn (ho pins s σ H _ I h) fun u s1 ⟨x,H1,I1,rx,q1⟩=>thn (hi pins s1 σ H1 _ I1 q1) fun iv s2 ⟨y,H2,I2,ry,a,v,ex,g,q2⟩=>?_);subst ex;obtain rfl:u=Value.ref a:=rx;exact⟨z1z I2 g,z6j hu I2 g ry fun w' s3 I3 rw'=>⟨v,H2,I3,rw',q2⟩⟩
theorem z6l(hu:X.A.units+1<cLine)(hi:PE X i ty)(ho:PE X o td):PC X .In i o (tDIn ty td):=by
 intro pins s σ H Q I h;refine thn (hi pins s σ H _ I h) fun iv s1 ⟨y,H1,I1,ry,q1⟩=>thn (ho pins s1 σ H1 _ I1 q1) fun u s2 ⟨x,H2,I2,rx,a,ov,ex,g,q2⟩=>?_;subst ex;obtain rfl:u=Value.ref a:=rx;exact d_in hu I2 g ry fun s3 I3=>⟨.bl ov.isSome,H2,I3,rfl,q2⟩
theorem z0m(hu:X.A.units+1<cLine)(hi:PE X i ty)(ho:PE X o td):PC X .NotIn i o (tDNotIn ty td):=by
 intro pins s σ H Q I h;refine thn (hi pins s σ H _ I h) fun iv s1 ⟨y,H1,I1,ry,q1⟩=>thn (ho pins s1 σ H1 _ I1 q1) fun u s2 ⟨x,H2,I2,rx,a,ov,ex,g,q2⟩=>?_;subst ex;obtain rfl:u=Value.ref a:=rx;exact x2m hu I2 g ry fun s3 I3=>⟨.bl (!ov.isSome),H2,I3,rfl,q2⟩
theorem q3q(hu:X.A.units+1<cLine)(ho:PE X o td)(hi:PE X i ty)(hv:PE X value tv)(hs:Jt value (some (.Subscript o i pos')) pos.line X.env=pure false):
  PS X (.Assign [.Subscript o i pos'] value pos) (sDPut td ty tv):=by
 intro pins s σ H D I h;refine Px (thn (hv pins s σ H _ I h) fun r s1 ⟨v,H1,I1,rv,q1⟩=>thn (ho pins s1 σ H1 _ I1 q1) fun u s2 ⟨x,H2,I2,rx,q2⟩=>thn (hi pins s2 σ H2 _ I2 q2) fun iv s3 ⟨y,H3,I3,ry,a,H4,ex,g,q3⟩=>?_) hs;subst ex;obtain rfl:u=Value.ref a:=rx;exact z6k hu I3 g ry rv fun s4 I4=>⟨σ,H4,I4,q3⟩
end
theorem q9a(h:Heap)(hb:Cm<h.objs.size):ObjOk P w H (h.push { cls:=.type "dict",data:=.dict #[] }) h.objs.size (.dT []) :=
 ⟨Bl _,beq_eq_false_iff_ne.mpr (Er (Bf hb)),[],.nil,_,#[],0,Ar _ rfl,⟨rfl,rfl,rfl⟩,rfl,rfl,List.nodup_nil⟩
def tDNewT:TE:=fun _ H Q=>∀p,H p=none->Q (.ref p) (upd H p (.dT []))
section
variable{X:Cx}{pos:Pos}
theorem q3d:PE X (.Dict [] [] pos) tDNewT:=fun pins s σ H Q I h =>
 wpAny_Dict_empty ⟨.ref s.heap.objs.size,_,I.laid (t':=s.toks) (fun _ _ q=>Ah _ q) (Aq _) (q9a s.heap I.big),rfl,h _ (I.hok.fresh (Aq _))⟩
end
structure M1 (X:Cx) (o:Expr) (m:Str) (apos:Pos) (e:Expr) (cpos:Pos):Prop where
 base:Fy o m X.env (eval o X.env)=eval o X.env
 few:((Fi cpos (Bg [e] X.env)).all (fun x => !x.1)&&(Li cpos (Ie [] X.env)).all (fun x=>x.1.isSome)
  && decide (([e]:List Expr).length+([]:List Keyword).length+(if ([]:List Keyword).isEmpty then 0 else 1)<30))=true
 line:(apos.endLine==cpos.line)=true
 trees:Fi cpos (Bg [e] X.env)=[(false,eval e X.env)]
structure M2 (X:Cx) (o:Expr) (m:Str) (apos:Pos) (e f:Expr) (cpos:Pos):Prop where
 base:Fy o m X.env (eval o X.env)=eval o X.env
 few:((Fi cpos (Bg [e,f] X.env)).all (fun x => !x.1)&&(Li cpos (Ie [] X.env)).all (fun x=>x.1.isSome)
  && decide (([e,f]:List Expr).length+([]:List Keyword).length+(if ([]:List Keyword).isEmpty then 0 else 1)<30))=true
 line:(apos.endLine==cpos.line)=true
 trees:Fi cpos (Bg [e,f] X.env)=[(false,eval e X.env),(false,eval f X.env)]
def IsD(H:Hp)(a:Addr):Prop:=(∃kvs,Rd H a (.dK kvs))\/∃kvs,Rd H a (.dT kvs)
theorem x1c{σ:St}(I:Inv X pins σ H s)(d:IsD H a):
  s.TypeIs (.ref a) "dict" /\ (∀b,Value.ref a=.ref b->∃ob,s.heap.get? b=some ob/\ob.dict=none)/\(a==Cm)=false:=by
 rcases d with⟨kvs,e⟩|⟨kvs,e⟩
 ·obtain⟨_,hd,vs,_,dd⟩:=z0l I.hok e;refine⟨dd.typeIs,fun b q=>?_,hd⟩;cases q;obtain⟨ob,_,_,h1,h2,_⟩:=dd;exact⟨ob,h1,h2.2.1⟩
 ·obtain⟨_,hd,xs,_,dd⟩:=q7g I.hok e;refine⟨dd.typeIs,fun b q=>?_,hd⟩;cases q;obtain⟨ob,_,_,h1,h2,_⟩:=dd;exact⟨ob,h1,h2.2.1⟩
section
variable{X:Cx}{pins:List (Addr×Obj)}{σ:St}{H:Hp}{s:Shared}{a:Addr}{y d:V}{u r:Value}{o:Option V}{A:Around}{E:Value->Shared->Prop}
theorem d_get1(hu:A.units+1<cLine)(I:Inv X pins σ H s)(g:DGet H a y o)(ry:RelV y u)(h:∀w' s',Inv X pins σ H s'->RelV (o.getD .non) w'->Q w' s'):
  wpAny (model X.prog X.w) A (call (.builtin "dict.get") [.ref a,u]) Q E s:=by
 rcases g with⟨kvs,k,e,ey,l⟩|⟨kvs,k,b,e,ey,eb,l⟩
 ·subst ey;obtain⟨z,hd,vs,rel,dd⟩:=z0l I.hok e;refine Ou Fm dd.typeIs Ii (Pg _ _) (meets_dict_get (mixKind X.prog X.w) a (z0j ry) hd) ⟨_,dd.mapOf,h _ _ (I.tok _) ?_⟩;rw[l];exact(rel.val k).getD rfl
 ·subst ey;cases(show u=Value.ref b from ry);obtain⟨z,hd,xs,rel,dd⟩:=q7g I.hok e;refine Ou Fm dd.typeIs Ii (Pg _ _) (meetsH_dict_get (He (mixKind X.prog X.w)) a b hd) ⟨Ec hu,k,xs,q4t I.hok eb,dd,h _ _ (I.tok _) ?_⟩;rw[l];exact(rel.val k).getD rfl
theorem d_get2(hu:A.units+1<cLine)(I:Inv X pins σ H s)(g:DGet H a y o)(ry:RelV y u)(rd:RelV d r)(h:∀w' s',Inv X pins σ H s'->RelV (o.getD d) w'->Q w' s'):
  wpAny (model X.prog X.w) A (call (.builtin "dict.get") [.ref a,u,r]) Q E s:=by
 rcases g with⟨kvs,k,e,ey,l⟩|⟨kvs,k,b,e,ey,eb,l⟩
 ·subst ey;obtain⟨z,hd,vs,rel,dd⟩:=z0l I.hok e;refine Ou Fm dd.typeIs Ii (Ph _ _ _) (meets_dict_get_default (mixKind X.prog X.w) a (z0j ry) hd r) ⟨_,dd.mapOf,h _ _ (I.tok _) ?_⟩;rw[l];exact(rel.val k).getD rd
 ·subst ey;cases(show u=Value.ref b from ry);obtain⟨z,hd,xs,rel,dd⟩:=q7g I.hok e;refine Ou Fm dd.typeIs Ii (Ph _ _ _) (meetsH_dict_get_default (He (mixKind X.prog X.w)) a b hd r) ⟨Ec hu,k,xs,q4t I.hok eb,dd,h _ _ (I.tok _) ?_⟩;rw[l];exact(rel.val k).getD rd
end
def tDGet1(td ty:TE):TE:=fun σ H Q=>td σ H fun x H1=>∃a,x=.ref a/\IsD H1 a/\ty σ H1 fun y H2=>∃o,DGet H2 a y o/\Q (o.getD .non) H2
def tDGet2(td ty tx:TE):TE:=fun σ H Q=>td σ H fun x H1=>∃a,x=.ref a/\IsD H1 a/\ty σ H1 fun y H2=>tx σ H2 fun z H3=>∃o,DGet H3 a y o/\Q (o.getD z) H3
section
variable{X:Cx}{o e f:Expr}{apos cpos:Pos}{td ty tx:TE}
theorem z9l(hu:X.A.units+1<cLine)(ho:PE X o td)(he:PE X e ty)(m:M1 X o "get" apos e cpos):PE X (.Call (.Attribute o "get" apos) [e] [] cpos) (tDGet1 td ty):=by
 intro pins s σ H Q I h;refine Sy m.base m.few m.line Hx Fm Qn (thn (ho pins s σ H _ I h) fun u s1 ⟨x,H1,I1,rx,a,ex,d,q1⟩=>?_);subst ex;obtain rfl:u=Value.ref a:=rx;obtain⟨t1,t2,_⟩:=x1c I1 d;refine⟨t1,t2,?_⟩;rw[m.trees];refine Ih rfl (Mb (Jx (thn (he pins s1 σ H1 _ I1 q1) fun iv s2 ⟨y,H2,I2,ry,ov,g,q2⟩=>Nu ?_)));exact d_get1 hu I2 g ry fun w' s3 I3 rw'=>⟨_,H2,I3,rw',q2⟩
theorem z3d(hu:X.A.units+1<cLine)(ho:PE X o td)(he:PE X e ty)(hf:PE X f tx)(m:M2 X o "get" apos e f cpos):PE X (.Call (.Attribute o "get" apos) [e,f] [] cpos) (tDGet2 td ty tx):=by
 intro pins s σ H Q I h;refine Sy m.base m.few m.line Hx Fm Qn (thn (ho pins s σ H _ I h) fun u s1 ⟨x,H1,I1,rx,a,ex,d,q1⟩=>?_);subst ex;obtain rfl:u=Value.ref a:=rx;obtain⟨t1,t2,_⟩:=x1c I1 d;refine⟨t1,t2,?_⟩;rw[m.trees];refine Ih rfl (Mb (Jx (thn (he pins s1 σ H1 _ I1 q1) fun iv s2 ⟨y,H2,I2,ry,q2⟩ =>
  Jx (thn (hf pins s2 σ H2 _ I2 q2) fun fv s3 ⟨z,H3,I3,rz,ov,g,q3⟩=>Nu ?_))))
 exact d_get2 hu I3 g ry rz fun w' s4 I4 rw'=>⟨_,H3,I4,rw',q3⟩
end
end L2
namespace K
open PySem L2 TX
def FIs:Str:=Ao "0123456789"
def LEs:Str:=Ao "abcdefghijklmnopqrstuvwxyzABCDEFGHIJKLMNOPQRSTUVWXYZ"
abbrev FI:List Nat:=tl FIs
abbrev LE:List Nat:=tl LEs
def allOf(t s:List Nat):Bool:=decide (t≠[])&&t.all fun c=>decide (c∈s)
def gapTakes(c:Nat)(t:List Nat):Bool:=if c=63 then decide (t.length=1) else if c=35 then allOf t FI else if c=64 then allOf t LE else true
def Pt.takes:Pt->List Nat->Bool
 |.tx l,t=>decide (t=l)
 |.gp c,t=>gapTakes c t
def cut(n:List Nat)(b e:Nat):List Nat:=(n.drop b).take (e-b)
def farTo(p:Pt)(n:List Nat)(L:Nat->Bool)(b k:Nat):Option Nat:=((List.range' b k).filter fun e=>L e&&p.takes (cut n b e)).getLast?
def far(p:Pt)(n:List Nat)(L:Nat->Bool)(b:Nat):Option Nat:=if b<=n.length then farTo p n L b (n.length+1-b) else none
def fits(n:List Nat):List Pt->Nat->Bool
 |[],b=>decide (b=n.length)
 |p::ps,b=>(far p n (fits n ps) b).isSome
def rd(n:List Nat):List Pt->Nat->List (List Nat)
 |[],_=>[]
 |p::ps,b=>(if p.isG then[cut n b ((far p n (fits n ps) b).getD 0)] else[])++rd n ps ((far p n (fits n ps) b).getD 0)
structure DF (H:Hp) (a:Addr) (f:Nat->Option Nat):Prop where
 ex:∃kvs:List (Key×V),H a=some (.dK kvs)/\kvs.length<=5000/\∀b:Nat,valV kvs (Sum.inl (b:Int))=(f b).map fun e=>V.int (e:Nat)
theorem DF.same(h:DF H a f)(sm:Same H H'):DF H' a f:=let ⟨kvs,h1,h2,h3⟩:=h.ex;⟨kvs,sm _ _ h1,h2,h3⟩
theorem DF.get(h:DF H a f)(b:Nat):DGet H a (.int (b:Int)) ((f b).map fun e=>V.int (e:Nat)):=by
 obtain⟨kvs,h1,h2,h3⟩:=h.ex;have:=DGet.k (k:=Sum.inl (b:Int)) h1;rw[h3] at this;exact this
theorem DF.new(h:DF H a f)(hb:H b=none):DF (upd H b o) a f:=h.same ((Same.refl H).new hb)
inductive DS (H:Hp) (n:List Nat):List Addr->List Pt->Prop
 |nil:DS H n [] []
 |cons {d:Addr} {p:Pt} {ds:List Addr} {ps:List Pt}:DF H d (far p n (fits n ps))->DS H n ds ps->DS H n (d::ds) (p::ps)
theorem DS.same(h:DS H n ds ps)(sm:Same H H'):DS H' n ds ps:=by
 induction h with
 |nil=>exact .nil
 |cons a _ ih=>exact .cons (a.same sm) ih
theorem DS.len(h:DS H n ds ps):ds.length=ps.length:=by
 induction h with
 |nil=>rfl
 |cons _ _ ih=>simp[ih]
theorem DS.get(h:DS H n ds ps):∀{i:Nat} {d:Addr},ds[i]?=some d->∃p,ps[i]?=some p/\DF H d (far p n (fits n (ps.drop (i+1)))):=by
 induction h with
 |nil=>simp_all
 | @cons d0 p ds ps a _ ih =>
  intro i d h;cases i with
  |zero=>simp_all
  |succ i =>simp_all
theorem z0n(l:List Nat):(mk l).length=l.length:=by rw[len,q2w]
theorem mk_inj:mk a=mk b↔a=b:=by grind
theorem dec_str(a b:List Nat):decide (V.str (mk a)=V.str (mk b))=decide (a=b):=by simp_all
end K
namespace PySem.Rv
open Sem (wp)
namespace F
theorem q5u:mroOf (.type "reversed")=pure [.type "reversed",.type "object"]:=by rw[mroOf_type];kernel_rfl
theorem q4j:Ra (.type "reversed") "__new__" = pure (some (.builtin "reversed.__new__")):=by rw[Jq,Gr];kernel_rfl
theorem q4u:Slot "reversed" "__init__" "object.__init__" :=
 .of (owner := "object") (n := "__init__") (by rw[Jq,Gr];kernel_rfl) (by decide +kernel) (by decide +kernel) (by decide +kernel)
  (by first|exact .inl (by rw[Jf];kernel_rfl)|exact .inr (by rw[Jf];kernel_rfl)) (by rw[Iv];kernel_rfl)
theorem called_reversed:TypeCalled "reversed" "reversed.__new__" "object.__init__" :=
 ⟨by decide +kernel,by decide +kernel,⟨_,_,q5u⟩,madeBy_type q5u q4j (by decide +kernel),by decide +kernel,by rw[Iv];kernel_rfl,q4u⟩
theorem typeCall_reversed_1(a:Value):checkTypeCall "reversed" ⟨[a],[]⟩=pure ():=by kernel_rfl
theorem newCall_reversed_1(a:Value):Ll "reversed.__new__" ⟨[.type "reversed",a],[]⟩=pure ():=by kernel_rfl
theorem entry_reversed_new:Re table "reversed.__new__" = some Cy.«reversed.__new__» := entryFor_of_tree (by kernel_rfl)
theorem slot_lrev_next:Slot "list_reverseiterator" "__next__" "list_reverseiterator.__next__" :=
 .of (owner := "list_reverseiterator") (n := "__next__") (by rw[Jq,Gr];kernel_rfl) (by decide +kernel) (by decide +kernel) (by decide +kernel)
  (by first|exact .inl (by rw[Jf];kernel_rfl)|exact .inr (by rw[Jf];kernel_rfl)) (by rw[Iv];kernel_rfl)
theorem entry_lrev_next:Re table "list_reverseiterator.__next__" = some Cy.«list_reverseiterator.__next__» := entryFor_of_tree (by kernel_rfl)
theorem slot_lrev_iter:Slot "list_reverseiterator" "__iter__" "list_reverseiterator.__iter__" :=
 .of (owner := "list_reverseiterator") (n := "__iter__") (by rw[Jq,Gr];kernel_rfl) (by decide +kernel) (by decide +kernel) (by decide +kernel)
  (by first|exact .inl (by rw[Jf];kernel_rfl)|exact .inr (by rw[Jf];kernel_rfl)) (by rw[Iv];kernel_rfl)
theorem entry_lrev_iter:Re table "list_reverseiterator.__iter__" = some Cy.«dict_keyiterator.__iter__» :=
 entryFor_alias (id' := "dict_keyiterator.__iter__") (by kernel_rfl) (by first|rfl|decide +kernel|(unfold String.splitOn;simp +decide [String.splitOnAux])) (by decide +kernel) (by kernel_rfl)
theorem q7s:Manifest.owners.lookup (String.ofList ['r', 'o', 't', 'a', 'r', 'e', 't', 'i', 'e', 's', 'r', 'e', 'v', 'e', 'r', '_', 't', 's', 'i', 'l'].reverse)=some Manifest.sig_list_reverseiterator:=by kernel_rfl
theorem args_lrev_next_1(a:Value):argsOk "list_reverseiterator.__next__" ⟨[a],[]⟩:=by
 unfold argsOk;rw[signature?_of (n:=['_', '_', 't', 'x', 'e', 'n', '_', '_']) (by kernel_rfl) q7s];kernel_rfl
theorem args_lrev_iter_1(a:Value):argsOk "list_reverseiterator.__iter__" ⟨[a],[]⟩:=by
 unfold argsOk;rw[signature?_of (n:=['_', '_', 'r', 'e', 't', 'i', '_', '_']) (by kernel_rfl) q7s];kernel_rfl
theorem sub_reversed:isSubtype (.type "reversed") (.type "reversed")=pure true:=by rw[Iv];kernel_rfl
theorem sub_lrev:isSubtype (.type "list_reverseiterator") (.type "reversed")=pure false:=by rw[Iv];kernel_rfl
end F
open Sem (wp)
def IsRevIter(h:Heap)(it l:Addr)(k:Int):Prop:=∃o,h.get? it=some o/\o.cls=.type "list_reverseiterator" /\ o.data=.fields #[.ref l,.int k 0]
section
variable{prog:Program}{w:World}{A:Around}{E:Value->Shared->Prop}{s:Shared}
theorem wpAny_pyNext_rev_item{k:Nat}{items}(hit:IsRevIter s.heap it l k)(hl:s.heap.IsList l items)(hx:items[k]?=some x)(hQ:∀h',IsRevIter h' it l ((k:Int)-1)->Fh it s.heap h'->Q (some x) { s with heap:=h' }):wpAny (model prog w) A (Gb (.ref it)) Q E s:=by
 obtain⟨o,ho,hc,hd⟩:=id hit;obtain⟨ol,hol,_,nl,hdl⟩:=hl;have hT:s.TypeIs (.ref it) "list_reverseiterator" := ⟨o,ho,hc⟩
 refine Aa (Dw (Bs hT F.slot_lrev_next
  (Bo F.slot_lrev_next hT F.entry_lrev_next ?_ (F.args_lrev_next_1 _))))
 show wpAny _ _ (field (.ref it) 1 >>= _) _ _ s;refine Aa (Cb ho hd rfl ?_);refine Aa (Cb ho hd rfl ?_);refine Aa (Cz hol hdl ?_);simp only[Ek,hx];refine Aa (Iw ho hd (by simp) (Ad ⟨x,rfl,Ad (hQ _ ?_ (Du ..))⟩));exact⟨_,Fl _ ho (Lp (Gn hd _)),(Nw ..).trans hc,by
  rw[Gn hd];simp[Ds]⟩
theorem wpAny_pyNext_rev_end(hh:A.handled=none)(hit:IsRevIter s.heap it l k)(hk:k<0)(hQ:∀h',Na it s.heap h'->Q none { s with heap:=h' }):wpAny (model prog w) A (Gb (.ref it)) Q E s:=by
 obtain⟨o,ho,hc,hd⟩:=id hit;have hT:s.TypeIs (.ref it) "list_reverseiterator" := ⟨o,ho,hc⟩
 refine Aa (Dw (Bs hT F.slot_lrev_next
  (Bo F.slot_lrev_next hT F.entry_lrev_next ?_ (F.args_lrev_next_1 _))))
 show wpAny _ _ (field (.ref it) 1 >>= _) _ _ s;refine Aa (Cb ho hd rfl ?_);show wpAny _ _ (if (k<0) then _ else _) _ _ s;rw[if_pos hk];refine Aa (Fk (Aa ?_));refine Aa ?_;refine Aa (Br ?_ (by size_fits));refine Aa (Gk (by first|rfl|(simp only[Kl];rfl)) ?_);refine Br ?_ (by size_fits);refine Aa (No ?_);rw[show A.in1.handled=none from hh];refine Aa (Ad (Py ?_));refine Aa (Ed ⟨_,Ar _ rfl,rfl⟩ Ir ?_);exact Ad (hQ _ (fun b o _ e=>Ah _ (Ah _ e)))
theorem wpAny_pyIter_rev(hit:IsRevIter s.heap it l k)(h:Q (.ref it) s):wpAny (model prog w) A (Ju (.ref it)) Q E s:=by
 obtain⟨o,ho,hc,hd⟩:=id hit;have hT:s.TypeIs (.ref it) "list_reverseiterator" := ⟨o,ho,hc⟩
 refine Kv hT F.slot_lrev_iter (Bo F.slot_lrev_iter hT F.entry_lrev_iter ?_ (F.args_lrev_iter_1 _));exact Ad ⟨_,rfl, "list_reverseiterator",_,hT,F.slot_lrev_next.lookup,h⟩
theorem q4k(l:Addr)(items:Array Value)(n:Nat):
  Meets (Cy.«reversed.__new__» ⟨[.type "reversed",.ref l],[]⟩) (fun _ R s=>s.heap.get? l=some { cls:=.type "list",dict:=none,data:=.seq items n,slots:=#[] } /\
   R (.ok (.ret (.ref s.heap.objs.size))) { s with heap:=s.heap.push { cls:=.type "list_reverseiterator",data:=.fields #[.ref l,Ds (((items.size:Nat):Int)-1)] } }) :=
 .of_wp fun prog w A R s h=>by
  obtain⟨hp,g,d,tk,os⟩:=s;obtain⟨hl,h⟩:=h;have hT:Shared.TypeIs ⟨hp,g,d,tk,os⟩ (.ref l) "list" := ⟨_,hl,rfl⟩
  wp_walk
  refine Gk F.sub_reversed ?_
  wp_walk
  refine Gk Jc.lookup ?_
  wp_walk
  refine Gk (Jc.bind (Value.ref l)) ?_
  wp_walk
  have key:Ew (model prog w) A.in1 (Code.call (.builtin "list.__reversed__") ⟨[.ref l],[]⟩) (fun r s'=>r=.ok (.ret (.ref hp.objs.size))/\s'=(⟨hp.push { cls:=.type "list_reverseiterator",data:=.fields #[.ref l,Ds (((items.size:Nat):Int)-1)] },g,d,tk,os⟩:Shared)) ⟨hp,g,d,tk,os⟩ :=
   Mg Jc.plain F.entry_list_reversed (Jc.check _ _ _ _ _ _ _ _ hT (F.args_list_reversed_1 _) (AutoListH.list___reversed___list_0 l items n prog w A.in1 (fun r s'=>r=.ok (.ret (.ref hp.objs.size))/\s'=(⟨hp.push { cls:=.type "list_reverseiterator",data:=.fields #[.ref l,Ds (((items.size:Nat):Int)-1)] },g,d,tk,os⟩:Shared)) ⟨hp,g,d,tk,os⟩ ⟨hl,rfl,rfl⟩))
  refine Hj key fun r s' hr=>?_;obtain⟨rfl,rfl⟩:=hr;exact Ad ⟨_,rfl,h⟩
theorem q7h(ft:TypeCalled T newId initId)(hsubU:isSubtype (.type U) (.type T)=pure false)(hct:checkTypeCall T ⟨args,[]⟩=pure ())(hcn:Ll newId ⟨.type T::args,[]⟩=pure ())(entryN:Re table newId=some Bn)(g:Meets (Bn ⟨.type T::args,[]⟩) S)(h:S A.in1 (wants (fun obj s₁=>s₁.TypeIs obj U/\Q obj s₁) E) s):wpAny (model prog w) A (call (.type T) args) Q E s:=by
 obtain⟨c,tl,hmro⟩:=ft.mro;have hmade:=ft.made;refine Qz (codeAny_of_tree ?_);refine Ad ⟨Code.quiet_builtin _ (by decide +kernel),Da F.entry_type_call ?_⟩;have h1:=ft.notType;have h2:=ft.canCreate;repeat (any_goals (first|assumption|wp_step))
 refine Hj (Mg ft.plain entryN (Gk hcn (g prog w A.in1 _ s h))) fun r s₁ hr=>?_;cases r with
 |error e=>exact hr
 |ok fl =>
  cases fl with
  |ret obj =>
   obtain⟨hT,hq⟩:=hr;repeat (any_goals (first|assumption|wp_step))
  |_=>exact hr.elim
theorem call_reversed_list(hl:s.heap.get? l=some { cls:=.type "list",dict:=none,data:=.seq items n,slots:=#[] })(h:Q (.ref s.heap.objs.size) { s with heap:=s.heap.push { cls:=.type "list_reverseiterator",data:=.fields #[.ref l,Ds (((items.size:Nat):Int)-1)] } }):
  wpAny (model prog w) A (call (.type "reversed") [.ref l]) Q E s :=
 q7h F.called_reversed F.sub_lrev (F.typeCall_reversed_1 _) (F.newCall_reversed_1 _) F.entry_reversed_new (q4k l items n) ⟨hl,⟨_,Ar _ rfl,rfl⟩,h⟩
end
end PySem.Rv
namespace L2
open PySem PySem.Spec PyProof.Rows
def Itv(K:Ak)(a:Addr)(n:Nat):It :=
 ⟨fun i H=>∃xs x,SqL K H a xs/\xs.length=n/\xs.reverse[i]?=some x,fun i H x H'=>H'=H/\∀xs,SqL K H a xs->xs.reverse[i]?=some x,fun i _=>n<=i⟩
theorem z4l(x:PySem.Rv.IsRevIter h it l k)(e:∀o,h.get? it=some o->h'.get? it=some o):PySem.Rv.IsRevIter h' it l k:=let ⟨o,ho,r⟩:=x;⟨o,e _ ho,r⟩
theorem z9m{K:Ak}(a it:Addr)(n:Nat):Turn P w K tg (Itv K a n) [it] it (fun i h=>PySem.Rv.IsRevIter h it a ((n:Int)-1-i)) where
 mem:=by simp
 obj:=fun i h st b hb=>by
  have e:b=it:=by grind
  subst e;obtain⟨o,e,c,d⟩:=st;exact⟨o,e,fun v z=>by rw[d] at z;cases z⟩
 keep:=fun i h h' st k=>z4l st fun o e=>k it (by simp) o e
 item:=by
  intro X hP hw hK hc i pins s σ H E I hf st hg;subst hP hw hK;obtain⟨xs,x,hq,hn,hx⟩:=hg;obtain⟨its,rv,p,hz⟩:=I.list hq;have hi:i<xs.length:=by have:=(Aj.mp hx).1;simpa using this
  have hx':xs[xs.length-1-i]?=some x:=by grind
  obtain⟨u,hu,ru⟩:=rv.get hx';obtain⟨f0,f1,f2,f3,f4,f5⟩:=hf it (by simp);have est:((n:Int)-1-(i:Int))=((xs.length-1-i:Nat):Int):=by lia
  have st1:PySem.Rv.IsRevIter s.heap it a ((xs.length-1-i:Nat):Int):=by simp_all
  refine PySem.Rv.wpAny_pyNext_rev_item st1 p.isList (by simpa using hu) fun h' st' sb=>?_;have I1:Inv X pins σ H { s with heap:=h' }:=I.turned (t':=s.toks) (fun b o hb e=>(sb.2 b hb).trans e) f0 f1 f3 f4 f5;obtain⟨o,e,c,d⟩:=id st';refine⟨u,rfl,z1r e c d (by decide) ⟨x,H,I1,ru,⟨rfl,fun ys hy=>by rw[I.list_inj hy hq];exact hx⟩,?_,fun b hb=>(hf b hb).1⟩⟩;have e2:((n:Int)-1-((i+1:Nat):Int))=((xs.length-1-i:Nat):Int)-1:=by lia
  rw[e2];exact st'
 done:=by
  intro X hP hw hK hc i pins s σ H E I hf st hg;obtain⟨f0,f1,f2,f3,f4,f5⟩:=hf it (by simp);have hle:n<=i:=hg;exact PySem.Rv.wpAny_pyNext_rev_end (I.ok.hd hc) st (by lia) fun h' eb=>⟨rfl,I.turned (t':=s.toks) (fun b o hb e=>eb b o hb e) f0 f1 f3 f4 f5⟩
 self:=fun _ _ _ _ _ st h=>PySem.Rv.wpAny_pyIter_rev st h
section
variable{X:Cx}{tg:Expr}
def iRev(K:Ak)(ta:TA):TI:=fun σ H R=>ta σ H fun vs H1=>∃a xs,vs=[.ref a]/\H1 a=some (.lst xs)/\R (Itv K a xs.length) H1
theorem pi_rev(hg:Gl X "reversed")(hm:X.mg "reversed" = none)(ha:PA X [a] ta)(hs:Bg [a] X.env=[(false,eval a X.env)]:=by rfl):
  PI X tg (.Call (.Name "reversed" p) [a] [] pos) (iRev X.K ta):=by
 intro pins s σ H R I h;refine Call_ (q5r I hg hm (by decide +kernel:Ft "reversed" = some (.type "reversed")) (Eb (thn (ha pos pins s σ H _ I h) fun us s1 ⟨vs,H1,I1,r1,q1⟩=>?_) hs rfl));obtain⟨l,xs,e,hq,q⟩:=q1;subst e;obtain⟨u,rfl,r⟩:=vals1 r1;cases r;obtain⟨z,its,n,rv,hl,e⟩:=I1.lstM hq;refine PySem.Rv.call_reversed_list e ?_;have hit:PySem.Rv.IsRevIter (s1.heap.push { cls:=.type "list_reverseiterator",data:=.fields #[.ref l,Ds (((its.toArray.size:Nat):Int)-1)] }) s1.heap.objs.size l ((xs.length:Int)-1-((0:Nat):Int)):=by
  refine⟨_,Ar _ rfl,rfl,?_⟩;rw[Az,<- hl];simp[Ds]
 refine PySem.Rv.wpAny_pyIter_rev hit ?_;refine⟨s1.heap.objs.size,[s1.heap.objs.size],_,_,H1,rfl,I1.kept (t':=s1.toks) fun b o e=>Ah _ e,z9m l _ xs.length,hit,fun b hb=>?_,q⟩;have e:b=s1.heap.objs.size:=by grind
 subst e;exact I1.fpOk (Aq _) (I1.hok.fresh (Aq _))
theorem rev_k{a:Expr}{ta:TA}{p pos:Pos}(K:Ak)(hK:X.K=K)(hg:Gl X "reversed")(hm:X.mg "reversed" = none)(ha:PA X [a] ta)(hs:Bg [a] X.env=[(false,eval a X.env)]:=by rfl):
  PI X tg (.Call (.Name "reversed" p) [a] [] pos) (iRev K ta):=by subst hK;exact pi_rev hg hm ha hs
theorem z6m{K:Lz}{g:TG}{tb:TS}{D:Ends}(Pv:Nat->St->Hp->Prop)(h0:Pv 0 σ H)(hl:∀i σ H,Pv i σ H->SqL K H a xs)(hs:∀i x σ H,xs.reverse[i]?=some x->Pv i σ H->g x σ H fun σ2 H2=>tb { D with nx:=Pv (i+1),ct:=Pv (i+1),bk:=D.nx } σ2 H2)(hd:∀σ H,Pv xs.length σ H->D.nx σ H):
  ∃W:Nat->Nat->St->Hp->Prop,(∃m,W 0 m σ H)/\∀i m σ H,W i m σ H ->
   ((Itv K a xs.length).stop i H/\D.nx σ H)\/((Itv K a xs.length).go i H/\∃N:St->Hp->Prop,(∀σ' H',N σ' H'->∃m',m'<m/\W (i+1) m' σ' H')/\∀x H',(Itv K a xs.length).yld i H x H'->g x σ H' fun σ2 H2=>tb { D with nx:=N,ct:=N,bk:=D.nx } σ2 H2):=by
 refine z3a Pv h0 (fun i σ H h p=>⟨xs,xs.reverse[i]'(by simpa using h),hl i σ H p,rfl,Bx _⟩) (fun σ H _=>Aq _) (fun i v σ H H' h p yl=>?_) hd;obtain⟨rfl,y⟩:=yl;exact hs i v σ _ (y xs (hl i σ _ p)) p
end
theorem Inv.freezeK{σ:St}(I:Inv X pins σ H s)(hd:H d=some u)(ho:s.heap.get? d=some ob)(hu:(∃kvs,u=.dK kvs)\/∃kvs,u=.dT kvs):Inv X pins σ (upd H d (.frz ob u)) s:=by
 have no:∀{v:HO} {b:Addr},H b=some v->((∀kvs,v≠.dK kvs)/\∀kvs,v≠.dT kvs)->b≠d:=fun{v b} z hv y=>by
  subst y;rw[hd] at z;cases z;rcases hu with⟨kvs,rfl⟩|⟨kvs,rfl⟩
  ·exact hv.1 _ rfl
  ·exact hv.2 _ rfl
 have nn:∀{b:Addr},H b=none->b≠d:=fun{b} z y=>by subst y;rw[hd] at z;cases z
 refine⟨I.ok,I.os,I.bare,⟨I.base.keep,I.base.slot,fun b o e n hx=>?_,I.base.there,fun b xs e=>?_,fun b o v e=>?_,fun b ps e=>?_⟩,I.loc,I.cell,?_,fun x c e=>?_,fun p hp=>?_,fun b v e=>?_,I.len⟩
 ·have z:=I.base.free b o e n hx;rw[q0c (nn z)];exact z
 ·have z:=I.base.tups b xs e;rw[q0c (no z ⟨fun _ y=>(by cases y),fun _ y=>(by cases y)⟩)];exact z
 ·have z:=I.base.frzs b o v e;rw[q0c (no z ⟨fun _ y=>(by cases y),fun _ y=>(by cases y)⟩)];exact z
 ·obtain⟨m,z⟩:=I.base.tbls b ps e;exact⟨m,by rw[q0c (no z ⟨fun _ y=>(by cases y),fun _ y=>(by cases y)⟩)];exact z⟩
 ·rw[q0c (nn I.free)];exact I.free
 ·rw[q0c (nn (I.freeC x c e))];exact I.freeC x c e
 ·obtain⟨e,n,ne,nf',dd⟩:=I.pin p hp;exact⟨e,by rw[q0c (nn n)];exact n,ne,nf',dd⟩
 ·have st:∀{b:Addr} {v:HO},ObjOk X.prog X.w H s.heap b v->ObjOk X.prog X.w (upd H d (.frz ob u)) s.heap b v:=fun x =>
   x.stay (fun _ _ _ q=>q) (fun c q=>by rw[q0c (no q ⟨fun _ y=>(by cases y),fun _ y=>(by cases y)⟩)];exact q) fun c xs q=>by rw[q0c (no q ⟨fun _ y=>(by cases y),fun _ y=>(by cases y)⟩)];exact q
  by_cases hb:b=d
  ·subst hb;rw[q0b] at e;cases e;exact⟨ho,st (I.hok b u hd)⟩
  ·rw[q0c hb] at e;exact st (I.hok b v e)
theorem KV.at'(r:KV kvs vs):∀{i:Nat} {k:Key} {v:V},kvs[i]?=some (k,v)->∃u,vs[i]?=some (k,u):=by
 induction r with
 |nil=>simp_all
 | @cons p q ps qs h t ih =>
  intro i k v hx;cases i with
  |zero=>simp at hx;subst hx;obtain⟨q1,q2⟩:=q;have:=h.1;simp at this;subst this;exact⟨q2,rfl⟩
  |succ i=>simp_all
end L2
namespace K
open PySem L2 TX
def dg(m:Nat):List Nat:=tl (Ao (toString (m:Int)))
theorem dg_mk(m:Nat):Ao (toString (m:Int))=mk (dg m):=(z6f _).symm
theorem z9n(m:Nat):dg m=(Nat.toDigits 10 m).map Char.toNat:=W.KIN.signs_num m
theorem q4v(h:m<10):dg m=[48+m]:=by
 rw[z9n,Nat.toDigits_of_lt_base h];exact(by decide:∀m:Nat,m<10->[Nat.digitChar m].map Char.toNat=[48+m]) m h
theorem z2a(h:10<=m):dg m=dg (m / 10)++[48+m%10]:=by
 have hm:m%10<10:=Nat.mod_lt m (by decide);have t:Nat.toDigits 10 (m / 10)++Nat.toDigits 10 (m%10)=Nat.toDigits 10 (10*(m / 10)+m%10):=Nat.toDigits_append_toDigits (by decide) (by lia) hm;rw[Nat.div_add_mod] at t;rw[z9n,z9n,<- t,Af];congr 1;exact(z9n (m%10)).symm.trans (q4v hm)
theorem z6n(m:Nat):∀c∈dg m,c∈FI:=by
 have hf:∀d:Nat,d<10->48+d∈FI:=by decide +kernel
 induction m using Nat.strongRecOn with
 |_ m ih =>
  by_cases h:m<10
  ·rw[q4v h];intro c hc;rw[Ai.mp hc];exact hf m h
  ·rw[z2a (by lia)];intro c hc;rcases Am.mp hc with z|z
   ·grind
   ·rw[Ai.mp z];exact hf _ (Nat.mod_lt m (by decide))
theorem x2o(m:Nat):∃d r,dg m=(48+d)::r/\d<10/\(d=0->m=0/\r=[]):=by
 induction m using Nat.strongRecOn with
 |_ m ih =>
  by_cases h:m<10
  ·exact⟨m,[],q4v h,h,fun z=>⟨z,rfl⟩⟩
  ·obtain⟨d,r,h1,h2,h3⟩:=ih (m / 10) (by lia);refine⟨d,r++[48+m%10],by rw[z2a (by lia),h1];rfl,h2,fun z=>?_⟩;have:=(h3 z).1;lia
theorem x1d:∀(k m:Nat),m<10^(k+1)->(dg m).length<=k+1
 |0,m,h=>by rw[q4v (by simpa using h)];exact Aq _
 |k+1,m,h=>by
  by_cases hz:m<10
  ·rw[q4v hz];simp
  ·rw[z2a (by lia),Al,Dx];have:=x1d k (m / 10) (by rw[Nat.pow_succ] at h;lia);lia
theorem dg_pos(m:Nat):1<=(dg m).length:=by obtain⟨d,r,h,_⟩:=x2o m;rw[h];simp
theorem z6o(h:m<10^10):PySem.intText? (mk (dg m))=some (m:Int):=by
 exact W.KIN.num_reads (by lia) (by lia)
end K
namespace L2
open PySem PySem.Spec PyProof.Rows
theorem Inv.thaw{σ:St}(I:Inv X pins σ H s)(hd:H d=some (.frz ob u))(h0:∀o v,X.H₀ d≠some (.frz o v)):Inv X pins σ (upd H d u) s:=by
 have no:∀{v:HO} {b:Addr},H b=some v->(∀o z,v≠.frz o z)->b≠d:=fun{v b} z hv y=>by
  subst y;rw[hd] at z;cases z;exact hv _ _ rfl
 have nn:∀{b:Addr},H b=none->b≠d:=fun{b} z y=>by subst y;rw[hd] at z;cases z
 refine⟨I.ok,I.os,I.bare,⟨I.base.keep,I.base.slot,fun b o e n hx=>?_,I.base.there,fun b xs e=>?_,fun b o v e=>?_,fun b ps e=>?_⟩,I.loc,I.cell,?_,fun x c e=>?_,fun p hp=>?_,fun b v e=>?_,I.len⟩
 ·have z:=I.base.free b o e n hx;rw[q0c (nn z)];exact z
 ·have z:=I.base.tups b xs e;rw[q0c (no z fun _ _ y=>(by cases y))];exact z
 ·have z:=I.base.frzs b o v e;rw[q0c (fun y=>by subst y;exact h0 _ _ e)];exact z
 ·obtain⟨m,z⟩:=I.base.tbls b ps e;exact⟨m,by rw[q0c (no z fun _ _ y=>(by cases y))];exact z⟩
 ·rw[q0c (nn I.free)];exact I.free
 ·rw[q0c (nn (I.freeC x c e))];exact I.freeC x c e
 ·obtain⟨e,n,ne,nf',dd⟩:=I.pin p hp;exact⟨e,by rw[q0c (nn n)];exact n,ne,nf',dd⟩
 ·have st:∀{b:Addr} {v:HO},ObjOk X.prog X.w H s.heap b v->ObjOk X.prog X.w (upd H d u) s.heap b v:=fun x =>
   x.stay (fun _ _ _ q=>q) (fun c q=>by rw[q0c (no q fun _ _ y=>(by cases y))];exact q) fun c xs q=>by rw[q0c (no q fun _ _ y=>(by cases y))];exact q
  by_cases hb:b=d
  ·subst hb;rw[q0b] at e;cases e;exact st (I.hok b _ hd).2
  ·rw[q0c hb] at e;exact st (I.hok b v e)
def Ends.thaw(D:Ends)(d:Addr):Ends where
 nx:=fun σ H=>∃ob u,H d=some (.frz ob u)/\D.nx σ (upd H d u)
 rt:=fun v H=>∃ob u,H d=some (.frz ob u)/\D.rt v (upd H d u)
 bk:=fun σ H=>∃ob u,H d=some (.frz ob u)/\D.bk σ (upd H d u)
 ct:=fun σ H=>∃ob u,H d=some (.frz ob u)/\D.ct σ (upd H d u)
def tThaw(h₀:Hp)(t:TS):TS:=fun D σ H=>∃d,(∀o v,h₀ d≠some (.frz o v))/\t (D.thaw d) σ H
theorem q3r{X:Cx}{st:Stmt}{t:TS}(h₀:Hp)(hH:X.H₀=h₀)(h:PS X st t):PS X st (tThaw h₀ t):=by
 subst hH;intro pins s σ H D I q;obtain⟨d,hd,q⟩:=q;refine Cq (h pins s σ H _ I q) (fun f s' z=>?_) fun _ _ z=>z;cases f with
 |next=>obtain⟨σ',H',I',ob,u,e,n⟩:=z;exact⟨σ',_,I'.thaw e hd,n⟩
 |brk=>obtain⟨σ',H',I',ob,u,e,n⟩:=z;exact⟨σ',_,I'.thaw e hd,n⟩
 |cont=>obtain⟨σ',H',I',ob,u,e,n⟩:=z;exact⟨σ',_,I'.thaw e hd,n⟩
 |ret v=>obtain⟨x,σ',H',I',r,ob,u,e,n⟩:=z;exact⟨x,σ',_,I'.thaw e hd,r,n⟩
end L2
namespace PySem.Rv
open Sem (wp)
section
variable{prog:Program}{w:World}{A:Around}{E:Value->Shared->Prop}{s:Shared}{it d:Addr}{i ep:Nat}{dob:Obj}{ens:Array DictEntry}
theorem keys_iter(hsys:(d==Cm)=false)(hT:s.TypeIs (.ref d) "dict")(hdo:s.heap.get? d=some dob)(hda:dob.data=.dict ens ep)(hQ:Q (.ref s.heap.objs.size) { s with heap:=s.heap.push { cls:=.type "dict_keyiterator",data:=.fields #[.ref d,.int 0 0,.int ens.size 0,.int ep 0] } }):
  wpAny (model prog w) A (Ju (.ref d)) Q E s:=by
 refine Kv hT Ts (Bo Ts hT F.entry_dict_iter ?_ (F.args_dict_iter_1 _));refine Aa (Aa (Fn hT (Ad ?_)));show wpAny _ _ (Gs d >>= _) _ _ s;unfold Gs;rw[if_neg (by rw[hsys];decide)];refine Aa (Ad (Aa (Cj hdo hda (Aa (Ea hdo hda ?_)))));refine Aa (Br (Ad ⟨_,rfl, "dict_keyiterator",_,⟨_,Ar _ rfl,rfl⟩,Ez.lookup,?_⟩));simpa[Ds] using hQ
theorem keys_item(hki:s.heap.IsKeyIter it d i ens.size ep)(hdo:s.heap.get? d=some dob)(hda:dob.data=.dict ens ep)(hlt:i<ens.size)(hQ:∀h',h'.IsKeyIter it d (i+1) ens.size ep->Fh it s.heap h'->Q (some ens[i].key) { s with heap:=h' }):wpAny (model prog w) A (Gb (.ref it)) Q E s:=by
 obtain⟨io,hio,hic,hid⟩:=id hki;refine Aa (Dw (Bs hki.typeIs Ez
  (Bo Ez hki.typeIs Mr ?_ (Mh _))))
 refine Aa (Ad (Aa (Aa ?_)));first|refine Aa (Fz hki.typeIs (Ad ?_))|refine Aa (Ho hki.typeIs (Ad ?_))
 refine Aa (Ix hio hid ?_);refine Aa (Ad (Aa (Cj hdo hda ?_)));rw[if_neg (by simp)];refine Aa (Ad (Aa (Ea hdo hda ?_)));rw[if_neg (by simp)];refine Ad ?_;simp only[show ¬((i:Int)<0) from by lia,if_false,Ek,Em hlt];refine Aa ?_;first|refine Aa (Fz hki.typeIs (Ad ?_))|refine Aa (Ho hki.typeIs (Ad ?_))
 refine Aa (Qo hki.typeIs ?_);show wpAny _ _ (setField (.ref it) 1 (Ds ((i:Int)+1)) >>= _) _ _ s;refine Aa (Iw hio hid (by simp) ?_);have hki2:(s.heap.update it (Lh (·.setIfInBounds 1 (Ds ((i:Int)+1))))).IsKeyIter it d (i+1) ens.size ep :=
  ⟨_,Fl _ hio (Lp (Gn hid _)),(Nw ..).trans hic,by rw[Gn hid];simp[Ds]⟩
 refine Aa (Ca (Aa (Qo (s:={ s with heap:=s.heap.update it (Lh (·.setIfInBounds 1 (Ds ((i:Int)+1)))) }) hki2.typeIs ?_)));exact Ad (Ad ⟨_,rfl,Ad (hQ _ hki2 (Du ..))⟩)
theorem keys_end(hh:A.handled=none)(hki:s.heap.IsKeyIter it d i ens.size ep)(hdo:s.heap.get? d=some dob)(hda:dob.data=.dict ens ep)(hge:ens.size<=i)(hQ:∀h',Na it s.heap h'->Q none { s with heap:=h' }):wpAny (model prog w) A (Gb (.ref it)) Q E s:=by
 obtain⟨io,hio,hic,hid⟩:=id hki;refine Aa (Dw (Bs hki.typeIs Ez
  (Bo Ez hki.typeIs Mr ?_ (Mh _))))
 refine Aa (Ad (Aa (Aa ?_)));first|refine Aa (Fz hki.typeIs (Ad ?_))|refine Aa (Ho hki.typeIs (Ad ?_))
 refine Aa (Ix hio hid ?_);refine Aa (Ad (Aa (Cj hdo hda ?_)));rw[if_neg (by simp)];refine Aa (Ad (Aa (Ea hdo hda ?_)));rw[if_neg (by simp)];refine Ad ?_;simp only[show ¬((i:Int)<0) from by lia,if_false,Ek,Lc hge];refine Aa ?_;first|refine Aa (Fz hki.typeIs (Ad ?_))|refine Aa (Ho hki.typeIs (Ad ?_))
 show wpAny _ _ (setField (.ref it) 0 .none >>= _) _ _ s;refine Aa (Iw hio hid (by simp) ?_);refine Aa ?_;refine Aa (Br ?_ (by size_fits));refine Aa (Gk (by first|rfl|(simp only[Kl];rfl)) ?_);refine Br ?_ (by size_fits);refine Aa (No ?_);rw[show A.in1.handled=none from hh];refine Aa (Ad (Py ?_));refine Aa (Ed ⟨_,Ar _ rfl,rfl⟩ Ir ?_);exact Ad (hQ _ (((Du ..).extBut.push _).push _))
end
end PySem.Rv
namespace L2
open PySem PySem.Spec PyProof.Rows
def Itk(d:Addr)(ob:Obj)(kvs:List (List Key×V)):It :=
 ⟨fun i H=>H d=some (.frz ob (.dT kvs))/\i<kvs.length,fun i H x H'=>H'=H/\∃k v b,kvs[i]?=some (k,v)/\H b=some (.tup (k.map kV))/\x=.ref b,fun i H=>H d=some (.frz ob (.dT kvs))/\kvs.length<=i⟩
theorem Paired.at'{F:α->β->Prop}:∀{l:List α} {m:List β} {i:Nat} {p:α},Paired F l m->l[i]?=some p->∃q,m[i]?=some q/\F p q
 |_,_,0,_,.cons h t,e=>by simp at e;subst e;exact⟨_,rfl,h⟩
 |_,_,i+1,_,.cons h t,e=>by
  obtain⟨q,h1,h2⟩:=Paired.at' t (by simpa using e);exact⟨q,by simpa using h1,h2⟩
theorem z6p(ok:HOk P w H h)(hfz:H d=some (.frz ob (.dT kvs)))(hob:ob.data=.dict ens ep):
  h.get? d=some ob/\ens.size=kvs.length/\∀{i:Nat} {k:List Key} {v:V} (hlt:i<ens.size),kvs[i]?=some (k,v)->∃b,ens[i].key=.ref b/\H b=some (.tup (k.map kV)):=by
 obtain⟨hget,z,hsys,xs,hp,o,es,ep',h1,h2,h3,h4,h5⟩:=(show ObjOk P w H h d (.frz ob (.dT kvs)) from ok d _ hfz)
 rw[hget] at h1;cases h1;rw[hob] at h3;cases h3;have hl:=Dv hp;have hz:ens.size=xs.length:=by rw[<- Fe,h4,Ab]
 refine⟨hget,by lia,fun{i k v} hlt hk=>?_⟩;obtain⟨q,hq,e1,e2,e3⟩:=Paired.at' hp hk;refine⟨q.2.1,?_,e2⟩;have:ens.toList[i]?=some (Iz (He (mixKind P w)) q):=by simp_all
 rw[Iq,Em hlt] at this;injection this with this;rw[this];rfl
theorem z4m{K:Ak}(d it:Addr)(ob:Obj)(kvs:List (List Key×V))(ens:Array DictEntry)(ep:Nat)(hob:ob.data=.dict ens ep):
  Turn P w K tg (Itk d ob kvs) [it] it (fun i h=>h.IsKeyIter it d i ens.size ep) where
 mem:=by simp
 obj:=fun i h st b hb=>by
  have e:b=it:=by grind
  subst e;obtain⟨o,e,c,dd⟩:=st;exact⟨o,e,fun v z=>by rw[dd] at z;cases z⟩
 keep:=fun i h h' st k=>st.at fun o e=>k it (by simp) o e
 item:=by
  intro X hP hw hK hc i pins s σ H E I hf st hg;obtain⟨hfz,hi⟩:=hg;obtain⟨hget,hsz,hkey⟩:=z6p I.hok hfz hob;obtain⟨f0,f1,f2,f3,f4,f5⟩:=hf it (by simp);obtain⟨⟨k,v⟩,hkv⟩:∃p,kvs[i]?=some p:=⟨kvs[i],by simp[hi]⟩
  have hlt:i<ens.size:=by lia
  obtain⟨b,hb1,hb2⟩:=hkey hlt hkv;refine PySem.Rv.keys_item st hget hob hlt fun h' st' sb=>?_
  rw[hb1];have I1:Inv X pins σ H { s with heap:=h' }:=I.turned (t':=s.toks) (fun b o hb e=>(sb.2 b hb).trans e) f0 f1 f3 f4 f5;obtain⟨o,e,c,dd⟩:=id st';exact⟨.ref b,rfl,z1r e c dd (by decide) ⟨.ref b,H,I1,rfl,⟨rfl,k,v,b,hkv,hb2,rfl⟩,st',fun b hb=>(hf b hb).1⟩⟩
 done:=by
  intro X hP hw hK hc i pins s σ H E I hf st hg;obtain⟨hfz,hi⟩:=hg;obtain⟨hget,hsz,hkey⟩:=z6p I.hok hfz hob;obtain⟨f0,f1,f2,f3,f4,f5⟩:=hf it (by simp);exact PySem.Rv.keys_end (I.ok.hd hc) st hget hob (by lia) fun h' eb=>⟨rfl,I.turned (t':=s.toks) (fun b o hb e=>eb b o hb e) f0 f1 f3 f4 f5⟩
 self:=fun _ _ _ _ _ st h=>wpAny_pyIter_keyiter st h
section
variable{X:Cx}{tg l:Expr}{tl:TE}
def iDictT(tl:TE):TI:=fun σ H R=>tl σ H fun x H1=>∃d kvs,x=.ref d/\H1 d=some (.dT kvs)/\∀ob,R (Itk d ob kvs) (upd H1 d (.frz ob (.dT kvs)))
theorem z9o(hl:PE X l tl):PI X tg l (iDictT tl):=by
 intro pins s σ H R I h;refine thn (hl pins s σ H _ I h) fun v s1 ⟨x,H1,I1,r1,q1⟩=>?_;obtain⟨d,kvs,e,hd,q⟩:=q1;subst e;cases r1;obtain⟨z,hsys,xs,hp,ob,ens,ep,ho,hex,hob,h4,h5⟩:=(show ObjOk X.prog X.w H1 s1.heap d (.dT kvs) from I1.hok d _ hd)
 refine PySem.Rv.keys_iter hsys ⟨ob,ho,hex.1⟩ ho hob ?_;have hne:=Bf (Au ho);have I2:=(I1.freezeK hd ho (.inr ⟨_,rfl⟩)).kept (t':=s1.toks) (h':=s1.heap.push { cls:=.type "dict_keyiterator",data:=.fields #[.ref d,.int 0 0,.int ens.size 0,.int ep 0] }) fun b o e=>Ah _ e;refine⟨s1.heap.objs.size,[s1.heap.objs.size],_,_,_,rfl,I2,z4m d _ ob kvs ens ep hob,⟨_,Ar _ rfl,rfl,rfl⟩,fun b hb=>?_,q ob⟩;have e:b=s1.heap.objs.size:=by grind
 subst e;exact I1.fpOk (Aq _) (by rw[q0c (Er hne)];exact I1.hok.fresh (Aq _))
theorem q4w(K:Ak)(hK:X.K=K)(hl:PE X l tl):PI X tg l (iDictT tl):=z9o hl
theorem q2o{g:TG}{tb:TS}{D:Ends}(Pv:Nat->St->Hp->Prop)(h0:Pv 0 σ H)(hl:∀i σ H,Pv i σ H->H d=some (.frz ob (.dT kvs)))(hs:∀i k v b σ H,kvs[i]?=some (k,v)->H b=some (.tup (k.map kV))->Pv i σ H->g (.ref b) σ H fun σ2 H2=>tb { D with nx:=Pv (i+1),ct:=Pv (i+1),bk:=D.nx } σ2 H2)(hd:∀σ H,Pv kvs.length σ H->D.nx σ H):
  ∃W:Nat->Nat->St->Hp->Prop,(∃m,W 0 m σ H)/\∀i m σ H,W i m σ H ->
   ((Itk d ob kvs).stop i H/\D.nx σ H)\/((Itk d ob kvs).go i H/\∃N:St->Hp->Prop,(∀σ' H',N σ' H'->∃m',m'<m/\W (i+1) m' σ' H')/\∀x H',(Itk d ob kvs).yld i H x H'->g x σ H' fun σ2 H2=>tb { D with nx:=N,ct:=N,bk:=D.nx } σ2 H2):=by
 refine z3a Pv h0 (fun i σ H h p=>⟨hl i σ H p,h⟩) (fun σ H p=>⟨hl _ σ H p,Aq _⟩) (fun i x σ H H' h p yl=>?_) hd;obtain⟨rfl,k,v,b,hk,hb,rfl⟩:=yl;exact hs i k v b σ _ hk hb p
end
end L2
namespace SB
open PySem PyProof.Rows
section
variable{prog:Program}{w:World}{A:Around}{E:Value->Shared->Prop}{s:Shared}
def Tells(prog:Program)(w:World)(A:Around)(s:Shared)(kd:Kc)(S:Value->Prop)(r:Value->Int):Prop :=
 ∀(E:Value->Shared->Prop) (x y:Value) (Q:Bool->Shared->Prop),S x->S y->Q (decide (r x<r y)) s->wpAny (model prog w) A (keyLt' kd x y) Q E s
def rk(r:Value->Int)(xs:Array Keyed)(i:Nat):Int:=((xs[i]?).map fun p=>r p.1).getD 0
theorem x2p(h:xs[i]?=ys[j]?):rk r xs i=rk r ys j:=by unfold rk;rw[h]
theorem rk_if[Decidable c](h:xs[i]?=if c then ys[a]? else ys[b]?):rk r xs i=if c then rk r ys a else rk r ys b:=by
 by_cases hc:c
 ·rw[if_pos hc] at h ⊢;exact x2p h
 ·rw[if_neg hc] at h ⊢;exact x2p h
theorem z6q(hj:j<=xs.size)(k:Nat):rk r (Mi xs i j ((j-i) / 2)) k=if i<=k/\k<j then rk r xs (i+j-1-k) else rk r xs k:=rk_if (getElem?_mirror_all hj k)
theorem x1e(hn:n<xs.size)(hd:d<=n)(k:Nat):rk r (bubble xs n d) k=if k=n-d then rk r xs n else if n-d<k/\k<=n then rk r xs (k-1) else rk r xs k:=by
 have e:=getElem?_bubble hn d hd k;by_cases h:k=n-d
 ·rw[if_pos h] at e ⊢;exact x2p e
 ·rw[if_neg h] at e ⊢;exact rk_if e
structure Mid (kd:Kc) (a₀:Array Keyed) (st:Ia):Prop where
 pm:(arrOf st).Perm a₀
 kn:kindOf st=kd
 fl:Tt st=none
 pd:Pn st=#[]
variable{kd:Kc}{S:Value->Prop}{r:Value->Int}{a₀:Array Keyed}
theorem Mid.sz{st:Ia}(h:Mid kd a₀ st):(arrOf st).size=a₀.size:=h.pm.size_eq
theorem Mid.put{st:Ia}(h:Mid kd a₀ st)(p:xs.Perm (arrOf st)):Mid kd a₀ (setArr st xs):=⟨p.trans h.pm,h.kn,h.fl,h.pd⟩
theorem z6r{st:Ia}(T:Tells prog w A s kd S r)(hS:∀p∈a₀.toList,S p.1)(m:Mid kd a₀ st)(hi:i<a₀.size)(hj:j<a₀.size)(h:Q (some (decide (rk r (arrOf st) i<rk r (arrOf st) j))) st):wpS (model prog w) A E s (ltAt' i j) Q st:=by
 have get:∀{k:Nat},k<a₀.size->∃p,(arrOf st)[k]?=some p/\S p.1/\rk r (arrOf st) k=r p.1:=fun{k} hk=>by
  have hk':k<(arrOf st).size:=by rw[m.sz];exact hk
  have e:(arrOf st)[k]?=some (arrOf st)[k]:=getElem?_pos _ k hk';refine⟨_,e,hS _ ((Np.mp m.pm).mem_iff.mp (by simp)),?_⟩;unfold rk;rw[e];rfl
 obtain⟨p,e1,s1,r1⟩:=get hi;obtain⟨q,e2,s2,r2⟩:=get hj;rw[r1,r2] at h;refine Cg (Qp ?_);show wpS _ _ _ _ (elem' (arrOf st) i >>= fun x=>elem' (arrOf st) j >>= fun y=>lt' x y) Q st;rw[elem'_eq,elem'_eq,e1,e2];refine Cg (Do (Cg (Do ?_)));rw[lt'_eq];refine Cg (Qp ?_);rw[m.kn];exact Cg (wpS_lift (Dw (T _ p.1 q.1 _ s1 s2 ⟨rfl,Do h⟩)))
def Up(r:Value->Int)(xs:Array Keyed)(n:Nat):Prop:=∀i j,i<=j->j<n->rk r xs i<=rk r xs j
def Down(r:Value->Int)(xs:Array Keyed)(n:Nat):Prop:=∀i j,i<=j->j<n->rk r xs j<=rk r xs i
theorem Up.one:Up r xs 1:=fun i j h1 h2=>by rw[show i=j by lia];exact Pz _
theorem Up.more(h:Up r xs n)(h1:1<=n)(e:rk r xs (n-1)<=rk r xs n):Up r xs (n+1):=fun i j a b=>by
 by_cases z:j<n
 ·exact h i j a z
 ·have hj:j=n:=by lia
  subst hj;by_cases y:i=j
  ·grind
  ·have:=h i (j-1) (by lia) (by lia);lia
theorem Down.more(h:Down r xs n)(h1:1<=n)(e:rk r xs n<=rk r xs (n-1)):Down r xs (n+1):=fun i j a b=>by
 by_cases z:j<n
 ·exact h i j a z
 ·have hj:j=n:=by lia
  subst hj;by_cases y:i=j
  ·grind
  ·have:=h i (j-1) (by lia) (by lia);lia
theorem Down.mir(h:Down r xs n)(hn:n<=xs.size):Up r (Mi xs 0 n ((n-0) / 2)) n:=fun i j a b=>by
 rw[z6q hn,z6q hn,if_pos (by lia),if_pos (by lia)];exact h _ _ (by lia) (by lia)
theorem q6q(hj:j<=xs.size)(h:∀k,i<=k->k<j->rk r xs k=rk r xs (j-1))(k:Nat):rk r (Mi xs i j ((j-i) / 2)) k=rk r xs k:=by
 rw[z6q hj];by_cases z:i<=k/\k<j
 ·grind
 ·rw[if_neg z]
theorem x1f{st:Ia}(T:Tells prog w A s kd S r)(hS:∀p∈a₀.toList,S p.1)(m:Mid kd a₀ st)(hn:n<=a₀.size)(h1:1<=a)(han:a<=n)(u:Up r (arrOf st) a)(h:∀k,a<=k->k<=n->Up r (arrOf st) k->(k=n\/rk r (arrOf st) k<rk r (arrOf st) (k-1))->Q (none,k) st):wpS (model prog w) A E s (ascLoop a n) Q st:=by
 refine Kd (fun x c t=>t=st/\c=(none,x)/\Up r (arrOf st) x) (fun x c t hx hxn ⟨et,ec,ux⟩=>?_) (fun c t ⟨et,ec,ux⟩=>?_) ⟨rfl,rfl,u⟩
 ·subst et ec;refine Cg (z6r T hS m (by lia) (by lia) ?_);by_cases z:rk r (arrOf t) x<rk r (arrOf t) (x-1)
  ·simp only[decide_eq_true z,if_true];exact Do (h x hx (by lia) ux (.inr z))
  ·simp only[decide_eq_false z,Ax,if_false];exact Do ⟨rfl,rfl,ux.more (by lia) (by lia)⟩
 ·grind
theorem z6s{st:Ia}(T:Tells prog w A s kd S r)(hS:∀p∈a₀.toList,S p.1)(m:Mid kd a₀ st)(hn:n<=a₀.size)(h1:1<=k)(hkn:k<=n)(d:Down r (arrOf st) k)(h:∀j t,Mid kd a₀ t->1<=j->j<=n->Up r (arrOf t) j->Q (some j) t):wpS (model prog w) A E s (tail3 k n) Q st:=by
 have m2:=m.put (Qa (arrOf st) 0 k ((k-0) / 2));refine Cg (Qb (Cg (x1f T hS m2 hn h1 hkn (d.mir (by rw[m.sz];lia)) fun j a b u _=>Do (h j _ m2 (by lia) b u))))
theorem x2q{st:Ia}(T:Tells prog w A s kd S r)(hS:∀p∈a₀.toList,S p.1)(m:Mid kd a₀ st)(hn:n<=a₀.size)(h1:1<=k)(hkn:k<=n)(d:Down r (arrOf st) k)(h:∀j q t,Mid kd a₀ t->k<=j->j<=n->Down r (arrOf t) j->q+1<=j->(∀i,j-(q+1)<=i->i<j->rk r (arrOf t) i=rk r (arrOf t) (j-1))->Q (none,j,q) t):wpS (model prog w) A E s (descLoop k n) Q st:=by
 refine Kd (fun x c t=>∃q,c=(none,x,q)/\Mid kd a₀ t/\Down r (arrOf t) x/\q+1<=x/\∀i,x-(q+1)<=i->i<x->rk r (arrOf t) i=rk r (arrOf t) (x-1))
  (fun x c t hx hxn ⟨q,ec,mt,dx,hq,eq⟩=>?_) (fun c t ⟨q,ec,mt,dx,hq,eq⟩=>?_) ⟨0,rfl,m,d,by lia,fun i a b=>by rw[show i=k-1 by lia]⟩
 ·subst ec;have zs:x<=(arrOf t).size:=by rw[mt.sz];lia
  dsimp only;refine Cg (z6r T hS mt (by lia) (by lia) ?_);by_cases z:rk r (arrOf t) x<rk r (arrOf t) (x-1)
  ·simp only[decide_eq_true z,if_true];by_cases y:q>0
   ·rw[if_pos y];have em:=fun k=>q6q zs eq k;have d2:Down r (Mi (arrOf t) (x-(q+1)) x ((x-(x-(q+1))) / 2)) x:=fun i j a b=>by rw[em,em];exact dx i j a b
    exact Cg (Qb (Do ⟨0,rfl,mt.put (Qa _ _ _ _),d2.more (by lia) (by rw[em,em];lia),by lia,fun i a b=>by rw[show i=x+1-1 by lia]⟩))
   ·rw[if_neg y];exact Do ⟨0,rfl,mt,dx.more (by lia) (by lia),by lia,fun i a b=>by rw[show i=x+1-1 by lia]⟩
  ·simp only[decide_eq_false z,Ax,if_false];refine Cg (z6r T hS mt (by lia) (by lia) ?_);by_cases y:rk r (arrOf t) (x-1)<rk r (arrOf t) x
   ·simp only[decide_eq_true y,if_true];exact Do (h x q t mt hx (by lia) dx hq eq)
   ·simp only[decide_eq_false y,Ax,if_false];have ex:rk r (arrOf t) x=rk r (arrOf t) (x-1):=by lia
    refine Do ⟨q+1,rfl,mt,dx.more (by lia) (by lia),by lia,fun i a b=>?_⟩;rw[show x+1-1=x by lia,ex];by_cases c:i=x
    ·rw[c,ex]
    ·grind
 ·grind
theorem z6t{st:Ia}(T:Tells prog w A s kd S r)(hS:∀p∈a₀.toList,S p.1)(m:Mid kd a₀ st)(hn:n<=a₀.size)(hkn:k+1<=n)(d:Down r (arrOf st) (k+1))(h:∀j t,Mid kd a₀ t->1<=j->j<=n->Up r (arrOf t) j->Q (some j) t):wpS (model prog w) A E s (descPart k n) Q st:=by
 refine Cg (wpS_lift (Fk ⟨rfl,Cg (x2q T hS m hn (by lia) hkn d fun j q t mt a b dt hq eq=>?_)⟩));have zs:j<=(arrOf t).size:=by rw[mt.sz];lia
 dsimp only;by_cases y:q>0
 ·rw[if_pos y];exact Cg (Qb (z6s T hS (mt.put (Qa _ _ _ _)) hn (by lia) b (fun i i' a' b'=>by show rk r (Mi _ _ _ _) i'<=rk r (Mi _ _ _ _) i;rw[q6q zs eq,q6q zs eq];exact dt i i' a' b') h))
 ·rw[if_neg y];exact z6s T hS mt hn (by lia) b dt h
theorem run_ok{st:Ia}(T:Tells prog w A s kd S r)(hS:∀p∈a₀.toList,S p.1)(m:Mid kd a₀ st)(hn:n<=a₀.size)(h1:1<=n)(h:∀j t,Mid kd a₀ t->1<=j->j<=n->Up r (arrOf t) j->Q (some j) t):wpS (model prog w) A E s (countRun' 0 n) Q st:=by
 rw[countRun0_eq];refine Cg (x1f T hS m hn (Aq 1) h1 Up.one fun k a b u o=>?_);have zs:k<=(arrOf st).size:=by rw[m.sz];lia
 dsimp only;by_cases e:k=n
 ·rw[if_pos (by simpa using e)];exact Do (h k st m a b u)
 rw[if_neg (by simpa using e)];by_cases g:k>1
 ·rw[if_pos g];refine Cg (z6r T hS m (by lia) (by lia) ?_);by_cases z:rk r (arrOf st) 0<rk r (arrOf st) (k-1)
  ·simp only[decide_eq_true z,if_true];exact Do (h k st m a b u)
  ·simp only[decide_eq_false z,Ax,if_false];have al:∀i,0<=i->i<k->rk r (arrOf st) i=rk r (arrOf st) (k-1):=fun i _ hi=>by
    have u1:=u 0 i (by lia) hi;have u2:=u i (k-1) (by lia) (by lia);lia
   refine Cg (Qb (z6t T hS (m.put (Qa _ _ _ _)) hn (by lia) (Down.more (fun i j a' b'=>?_) (by lia) ?_) h))
   ·show rk r (Mi _ _ _ _) j<=rk r (Mi _ _ _ _) i;rw[q6q zs al,q6q zs al,al i (by lia) (by lia),al j (by lia) (by lia)];exact Pz _
   ·show rk r (Mi _ _ _ _) k<=rk r (Mi _ _ _ _) (k-1);rw[q6q zs al,q6q zs al];lia
 ·rw[if_neg g];exact z6t T hS m hn (by lia) (Down.more (fun i j a' b'=>by rw[show i=j by lia];exact Pz _) (by lia) (by lia)) h
theorem ins_ok{st:Ia}(T:Tells prog w A s kd S r)(hS:∀p∈a₀.toList,S p.1)(m:Mid kd a₀ st)(hn:n<=a₀.size)(hk:k<=n)(u:Up r (arrOf st) k)(h:∀t,Mid kd a₀ t->Up r (arrOf t) n->Q true t):wpS (model prog w) A E s (binarySort' 0 n k) Q st:=by
 rw[binarySort'_eq];simp only[Nat.zero_add];refine Cg (Tu (Kd (fun j c t=>c=(none,())/\Mid kd a₀ t/\Up r (arrOf t) (min j n)) (Q:=fun c t=>c=(none,())/\Mid kd a₀ t/\Up r (arrOf t) n) ?step ?fin ⟨rfl,m,?init⟩) ?post)
 case step =>
  rintro j c t hj hjn ⟨rfl,mt,ut⟩;refine Cg (Tu (Kd (fun x c t'=>t'=t/\∃lo hi,c=(none,lo,hi)/\lo<=hi/\hi<=j/\hi-lo<=j-x/\(∀i,i<lo->rk r (arrOf t) i<=rk r (arrOf t) j)/\∀i,hi<=i->i<j->rk r (arrOf t) j<rk r (arrOf t) i)
   (Q:=fun c t'=>t'=t/\∃lo hi,c=(none,lo,hi)/\lo<=j/\(∀i,i<lo->rk r (arrOf t) i<=rk r (arrOf t) j)/\∀i,lo<=i->i<j->rk r (arrOf t) j<rk r (arrOf t) i)
   ?st2 ?fi2 ⟨rfl,0,j,rfl,by lia,by lia,by lia,fun i z=>by lia,fun i z y=>by lia⟩) ?po2)
  case st2 =>
   rintro x c t' hx hxj ⟨rfl,lo,hi,rfl,a1,a2,a3,a4,a5⟩;dsimp only;by_cases z:lo>=hi
   ·rw[if_pos z];exact Do ⟨rfl,lo,hi,rfl,by lia,a4,fun i b c=>a5 i (by lia) c⟩
   ·rw[if_neg z];refine Cg (z6r T hS mt (by lia) (by lia) ?_);by_cases y:rk r (arrOf t') j<rk r (arrOf t') ((lo+hi) / 2)
    ·simp only[decide_eq_true y,if_true];refine Do ⟨rfl,lo,(lo+hi) / 2,rfl,by lia,by lia,by lia,a4,fun i b c=>?_⟩;have:=ut ((lo+hi) / 2) i b (by lia);lia
    ·simp only[decide_eq_false y,Ax,if_false];refine Do ⟨rfl,(lo+hi) / 2+1,hi,rfl,by lia,a2,by lia,fun i b=>?_,a5⟩;have:=ut i ((lo+hi) / 2) (by lia) (by lia);lia
  case fi2 =>
   rintro c t' ⟨rfl,lo,hi,rfl,a1,a2,a3,a4,a5⟩;exact⟨rfl,lo,hi,rfl,by lia,a4,fun i b c=>a5 i (by lia) c⟩
  case po2 =>
   rintro c t' ⟨rfl,lo,hi,rfl,a1,a4,a5⟩;rw[moveDown'_eq];have zs:j<(arrOf t').size:=by rw[mt.sz];lia
   refine Cg (Uk (Do ⟨rfl,mt.put (bubble_perm _ _ _),fun i i' b c=>?_⟩));have e1:j-(j-lo)=lo:=by lia
   rw[x1e zs (by lia),x1e zs (by lia),e1];by_cases b1:i=lo
   ·grind
   ·rw[if_neg b1];by_cases b2:i'=lo
    ·grind
    ·rw[if_neg b2];by_cases b3:lo<i/\i<=j
     ·rw[if_pos b3,if_pos (by lia)];exact ut _ _ (by lia) (by lia)
     ·rw[if_neg b3];by_cases b4:lo<i'/\i'<=j
      ·grind
      ·rw[if_neg b4];exact ut _ _ b (by lia)
 case fin =>
  rintro c t ⟨ec,mt,ut⟩;have e:min (max (max k 1) n) n=n:=by lia
  rw[e] at ut;exact⟨ec,mt,ut⟩
 case init =>
  intro i j a b;by_cases z:k=0
  ·grind
  ·exact u i j a (by lia)
 case post =>
  rintro c t ⟨rfl,mt,ut⟩;exact Do (h t mt ut)
structure Fin' (a₀:Array Keyed) (r:Value->Int) (st:Ia):Prop where
 pm:(arrOf st).Perm a₀
 fl:Tt st=none
 pd:Pn st=#[(0,a₀.size,0)]
 up:Up r (arrOf st) a₀.size
theorem x2r{st:Ia}(T:Tells prog w A s kd S r)(hS:∀p∈a₀.toList,S p.1)(m:Mid kd a₀ st)(h2:2<=a₀.size)(h64:a₀.size<64)(h:∀t,(arrOf t).Perm a₀->Tt t=none->Up r (arrOf t) a₀.size->Q () t):wpS (model prog w) A E s sortRuns' Q st:=by
 rw[sortRuns'_eq];have em:minRun' a₀.size a₀.size 0=a₀.size:=by
  cases z:a₀.size with
  |zero=>rfl
  |succ f=>rw[minRun'_succ,if_pos (by lia)]
 have fin:∀{t:Ia},Mid kd a₀ t->Up r (arrOf t) a₀.size->Fin' a₀ r (setPending t ((Pn t).push (0,a₀.size,0))):=fun{t} mt ut=>⟨mt.pm,mt.fl,by show(Pn t).push _=_;rw[mt.pd];rfl,ut⟩
 have none_back:∀{t:Ia},Mid kd a₀ t->(Pn t).back?=none:=fun{t} mt=>by rw[mt.pd];rfl
 refine Cg (Qp ?_);simp only[m.sz,em];refine Cg (Tu (Kd (fun x c t=>(x=0/\c=(none,0)/\Mid kd a₀ t)\/(1<=x/\c=(none,a₀.size)/\Fin' a₀ r t)) (Q:=fun c t=>c=(none,a₀.size)/\Fin' a₀ r t) ?st1 ?fi1 (.inl ⟨rfl,rfl,m⟩)) ?po1)
 case st1 =>
  intro x c t _ hx o;rcases o with⟨rfl,rfl,mt⟩|⟨x1,rfl,f⟩
  ·dsimp only;rw[if_neg (by lia)];simp only[Iy,Sg,Nat.zero_add];refine Cg (run_ok T hS mt (Aq _) (by lia) fun j t' mt' j1 j2 ut'=>?_);dsimp only;by_cases z:j<a₀.size
   ·rw[if_pos z];refine Cg (wpS_lift (Fk ⟨rfl,Cg (ins_ok T hS mt' (Aq _) j2 ut' fun t2 mt2 ut2=>?_)⟩));refine Cg (Qp ?_);rw[none_back mt2];exact Cg (Uk (Do (.inr ⟨by lia,rfl,fin mt2 ut2⟩)))
   ·rw[if_neg z];have ej:j=a₀.size:=by lia
    subst ej;refine Cg (Qp ?_);rw[none_back mt'];exact Cg (Uk (Do (.inr ⟨by lia,rfl,fin mt' ut'⟩)))
  ·dsimp only;rw[if_pos (Aq _)];exact Do ⟨rfl,f⟩
 case fi1 =>
  intro c t o;rcases o with⟨z,_⟩|⟨_,ec,f⟩
  ·lia
  ·exact⟨ec,f⟩
 case po1 =>
  rintro c t ⟨rfl,f⟩;refine Cg (Tu (Kd (fun _ c t'=>t'=t/\c=(none,())) (Q:=fun c t'=>t'=t/\c=(none,())) ?st3 (fun _ _ z=>z) ⟨rfl,rfl⟩) ?po3)
  case st3 =>
   rintro x c t' _ _ ⟨rfl,rfl⟩;refine Cg (Qp ?_);rw[if_pos (by rw[f.pd];exact Aq 1)];exact Do ⟨rfl,rfl⟩
  case po3 =>
   rintro c t' ⟨rfl,rfl⟩;exact Do (h _ f.pm f.fl f.up)
end
end SB
namespace PySem.Rv
open Sem (wp)
abbrev itemObj(d:Addr)(i n ep:Nat)(f0 f1 ok ov:Value):Obj:={ cls:=.type "dict_itemiterator",dict:=none,data:=.fields #[f0,f1,.ref d,.int i 0,.int n 0,.int ep 0,ok,ov],slots:=#[] }
def ItemIt(h:Heap)(it d:Addr)(i n ep:Nat):Prop:=∃f0 f1 ok ov,h.get? it=some (itemObj d i n ep f0 f1 ok ov)/\(f0=.none\/∃a:Addr,f0=Ds a)
theorem ItemIt.typeIs{s:Shared}(x:ItemIt s.heap it d i n ep):s.TypeIs (.ref it) "dict_itemiterator" := by
 obtain⟨f0,f1,ok,ov,e,_⟩:=x;exact⟨_,e,rfl⟩
theorem ItemIt.lt(x:ItemIt h it d i n ep):it<h.objs.size:=by
 obtain⟨f0,f1,ok,ov,e,_⟩:=x;exact Au e
theorem ItemIt.keep(x:ItemIt h it d i n ep)(k:∀o,h.get? it=some o->h'.get? it=some o):ItemIt h' it d i n ep:=by
 obtain⟨f0,f1,ok,ov,e,z⟩:=x;exact⟨f0,f1,ok,ov,k _ e,z⟩
section
variable{prog:Program}{w:World}{A:Around}{E:Value->Shared->Prop}{s:Shared}{it d v:Addr}{i ep:Nat}{dob:Obj}{ens:Array DictEntry}
theorem items_iter(hv:s.heap.IsItemsView v d)(hdo:s.heap.get? d=some dob)(hda:dob.data=.dict ens ep)(hQ:Q (.ref s.heap.objs.size) { s with heap:=s.heap.push (itemObj d 0 ens.size ep .none (.bool false) .none .none) }):wpAny (model prog w) A (Ju (.ref v)) Q E s:=by
 obtain⟨o,ho,hc,hf⟩:=id hv;refine Kv hv.typeIs Qc (Bo Qc hv.typeIs F.entry_dict_items_iter ?_ (F.args_dict_items_iter_1 _));unfold Cy.«dict_items.__iter__»;refine Aa (Ad (Aa ?_));unfold Oe;refine Aa (Cb ho hf rfl (Ad (Aa ?_)));unfold Mj;refine Aa (Cj hdo hda (Aa (Ea hdo hda ?_)));simp only[show Dy "dict_itemiterator" = true from by decide,if_true];refine Br (Ad ⟨_,rfl, "dict_itemiterator",_,⟨_,Ar _ rfl,rfl⟩,Es.lookup,?_⟩) (by simp[sizeOk,Km,Ev]);simpa[Ds,itemObj,Km] using hQ
theorem q7t(e:s.heap.get? it=some (itemObj d i n ep f0 f1 ok ov))(hk:k<8)(hQ:∀h',h'.get? it=some { cls:=.type "dict_itemiterator",dict:=none,data:=.fields ((#[f0,f1,.ref d,.int i 0,.int n 0,.int ep 0,ok,ov]:Array Value).setIfInBounds k x),slots:=#[] }->Fh it s.heap h'->Q () { s with heap:=h' }):
  wpAny (model prog w) A (setField (.ref it) k x) Q E s:=Co e (by simpa using hk) hQ
theorem owned(x:ItemIt s.heap it d i n ep)(hQ:∀b h',ItemIt h' it d i n ep->Fh it s.heap h'->Q b { s with heap:=h' }):
  wpAny (model prog w) A (Cy.Dict_items.ownedTupleIsFree (.ref it)) Q E s:=by
 obtain⟨f0,f1,ok,ov,e,z⟩:=id x;refine Aa (Cb e rfl rfl ?_);rcases z with rfl|⟨a,rfl⟩
 ·exact Ad (hQ true s.heap x (Nx _ _))
 ·show wpAny _ _ (loadIfAlive (Int.toNat (a:Int)) >>= _) _ _ _;have al:∀{Q':Option Obj->Shared->Prop},Q' (s.heap.get? (Int.toNat (a:Int))) s->wpAny (model prog w) A (loadIfAlive (Int.toNat (a:Int))) Q' E s:=fun h' _ _ _=>h';refine Aa (al ?_);by_cases hn:(s.heap.get? (Int.toNat (a:Int))).isNone=true
  ·rw[if_pos hn];exact Ad (hQ true s.heap x (Nx _ _))
  ·rw[if_neg hn];refine Aa (Cb e rfl (x:=f1) rfl ?_);by_cases hb:(f1 != Value.bool true)=true
   ·rw[if_pos hb];refine Aa (q7t e (by decide) fun h' e' sb=>Ad (hQ false h' ⟨_,_,_,_,e',.inr ⟨a,rfl⟩⟩ sb))
   ·rw[if_neg hb];exact Ad (hQ false s.heap x (Nx _ _))
theorem items_item(x:ItemIt s.heap it d i ens.size ep)(hdo:s.heap.get? d=some dob)(hda:dob.data=.dict ens ep)(hlt:i<ens.size)(hQ:∀h',ItemIt h' it d (i+1) ens.size ep->h'.get? s.heap.objs.size=some { cls:=.type "tuple",data:=.seq #[ens[i].key,ens[i].val] }->h'.objs.size=s.heap.objs.size+1 ->
   (∀b o,b≠it->s.heap.get? b=some o->h'.get? b=some o)->Q (some (.ref s.heap.objs.size)) { s with heap:=h' }):wpAny (model prog w) A (Gb (.ref it)) Q E s:=by
 obtain⟨f0,f1,ok,ov,e,z⟩:=id x;have hT:=x.typeIs;refine Aa (Dw (Bs hT Es (Bo Es hT Ml ?_ (Lv _))));refine Aa (Ad (Aa (Aa ?_)));first|refine Aa (Fw hT (Ad ?_))|refine Aa (Ha hT (Ad ?_))
 refine Aa (Ix e rfl ?_);simp only[show Dy "dict_itemiterator" = true from by decide,if_true];refine Aa (Ad (Aa (Cj hdo hda ?_)));rw[if_neg (by simp)];refine Aa (Ad (Aa (Ea hdo hda ?_)));rw[if_neg (by simp)];refine Ad ?_;simp only[show ¬((i:Int)<0) from by lia,if_false,Ek,Em hlt];refine Aa ?_;first|refine Aa (Fw hT (Ad ?_))|refine Aa (Ha hT (Ad ?_))
 refine Aa (Ld hT ?_);show wpAny _ _ (setField (.ref it) 3 (Ds ((i:Int)+1)) >>= _) _ _ s;refine Aa (q7t e (by decide) fun h₁ e₁ sb₁=>?_);have x₁:ItemIt h₁ it d (i+1) ens.size ep:=⟨f0,f1,ok,ov,by rw[e₁];simp[itemObj,Ds],z⟩
 refine Aa (Ca ?_);refine Aa (Ld x₁.typeIs (Aa (Ld x₁.typeIs ?_)));have z₁:=sb₁.1;have hil:=Bf x.lt;refine Aa (Mx ?_);refine Aa (owned (x₁.keep fun o q=>Ah _ q) fun b h₂ x₂ sb₂=>?_);have t₂:h₂.get? s.heap.objs.size=some { cls:=.type "tuple",data:=.seq #[ens[i].key,ens[i].val] }:=by
  rw[sb₂.2 _ (Er hil),<- z₁];exact Ar _ rfl
 have n₂:h₂.objs.size=s.heap.objs.size+1:=by rw[sb₂.1];show(h₁.push _).objs.size=_;rw[Ex,z₁]
 have k₂:∀b o,b≠it->s.heap.get? b=some o->h₂.get? b=some o:=fun b o hb q=>by
  rw[sb₂.2 b hb];exact Ah _ ((sb₁.2 b hb).trans q)
 have ez:(Value.ref h₁.objs.size)=.ref s.heap.objs.size:=by rw[z₁]
 cases b with
 |false =>
  refine Ad (Ad ⟨_,rfl,Ad ?_⟩);rw[ez];exact hQ h₂ x₂ t₂ n₂ k₂
 |true =>
  obtain⟨g0,g1,ok2,ov2,e₂,_⟩:=x₂;refine Aa (Cb e₂ rfl rfl (Aa (Cb e₂ rfl rfl ?_)));refine Aa (q7t e₂ (by decide) fun h₃ e₃ sb₃=>?_);refine Aa (q7t e₃ (by decide) fun h₄ e₄ sb₄=>?_);refine Aa (q7t e₄ (by decide) fun h₅ e₅ sb₅=>?_);refine Aa (q7t e₅ (by decide) fun h₆ e₆ sb₆=>?_);have kk:∀b o,b≠it->h₂.get? b=some o->h₆.get? b=some o:=fun b o hb q=>(sb₆.2 b hb).trans ((sb₅.2 b hb).trans ((sb₄.2 b hb).trans ((sb₃.2 b hb).trans q)))
  refine Aa (Fr (Ad (Ad ⟨_,rfl,Ad ?_⟩)));rw[ez];refine hQ h₆ ⟨_,_,_,_,e₆,.inr ⟨_,rfl⟩⟩ (kk _ _ (Er hil) t₂) ?_ fun b o hb q=>kk b o hb (k₂ b o hb q);rw[sb₆.1];rw[sb₅.1];rw[sb₄.1];rw[sb₃.1];exact n₂
theorem items_end(hh:A.handled=none)(x:ItemIt s.heap it d i ens.size ep)(hdo:s.heap.get? d=some dob)(hda:dob.data=.dict ens ep)(hge:ens.size<=i)(hQ:∀h',Na it s.heap h'->Q none { s with heap:=h' }):wpAny (model prog w) A (Gb (.ref it)) Q E s:=by
 obtain⟨f0,f1,ok,ov,e,z⟩:=id x;have hT:=x.typeIs;refine Aa (Dw (Bs hT Es (Bo Es hT Ml ?_ (Lv _))));refine Aa (Ad (Aa (Aa ?_)));first|refine Aa (Fw hT (Ad ?_))|refine Aa (Ha hT (Ad ?_))
 refine Aa (Ix e rfl ?_);simp only[show Dy "dict_itemiterator" = true from by decide,if_true];refine Aa (Ad (Aa (Cj hdo hda ?_)));rw[if_neg (by simp)];refine Aa (Ad (Aa (Ea hdo hda ?_)));rw[if_neg (by simp)];refine Ad ?_;simp only[show ¬((i:Int)<0) from by lia,if_false,Ek,Lc hge];refine Aa ?_;first|refine Aa (Fw hT (Ad ?_))|refine Aa (Ha hT (Ad ?_))
 show wpAny _ _ (setField (.ref it) 2 .none >>= _) _ _ s;refine Aa (Iw e rfl (by simp) ?_);show wpAny _ _ (newExc (.type "StopIteration") [] >>= _) _ _ _;refine Aa ?_;refine Aa (Br (Aa (Gk (by first|rfl|(simp only[Kl];rfl)) ?_)) (by size_fits));refine Br ?_ (by size_fits);refine Aa (No ?_);rw[show A.in1.handled=none from hh];refine Aa (Ad (Py ?_));refine Aa (Ed ⟨_,Ar _ rfl,rfl⟩ Ir ?_);exact Ad (hQ _ (((Du ..).extBut.push _).push _))
end
end PySem.Rv
namespace SB
open PySem PyProof.Rows TX
abbrev Pth:=List (List Nat)
def pLt:Pth->Pth->Bool
 |[],[]=>false
 |[],_::_=>true
 |_::_,[]=>false
 |a::r,b::t=>if a=b then pLt r t else decide (a<b)
theorem q4x(a b:List Nat)(r t:Pth):pLt (a::r) (b::t)=if a=b then pLt r t else decide (a<b):=rfl
theorem q1k:∀p:Pth,pLt p p=false
 |[]=>rfl
 |a::r=>by rw[q4x,if_pos rfl];exact q1k r
theorem z0o{c:List Nat}(h:a<b)(h':b<c):a<c:=List.lt_trans h h'
theorem x2s{b:List Nat}(h:¬a<b)(h':¬b<a):a=b:=List.le_antisymm (List.not_lt.mp h') (List.not_lt.mp h)
theorem q3s:∀{p q t:Pth},pLt p q=true->pLt q t=true->pLt p t=true
 |[],[],_,h,_=>by cases h
 |_::_,[],_,h,_=>by cases h
 |_,_::_,[],_,h=>by cases h
 |[],_::_,_::_,_,_=>rfl
 |a::p,b::q,c::t,h,h'=>by
  rw[q4x] at h h' ⊢;by_cases e1:a=b
  ·subst e1;rw[if_pos rfl] at h;by_cases e2:a=c
   ·rw[if_pos e2] at h' ⊢;exact q3s h h'
   ·rw[if_neg e2] at h' ⊢;exact h'
  ·rw[if_neg e1] at h;by_cases e2:b=c
   ·subst e2;rw[if_neg e1];exact h
   ·rw[if_neg e2] at h';have h1:=of_decide_eq_true h;have h2:=of_decide_eq_true h';have h3:=z0o h1 h2;rw[if_neg (fun e=>by subst e;exact absurd (z0o h1 h2) (List.lt_irrefl _))];exact decide_eq_true h3
theorem q5h:∀{p q:Pth},pLt p q=false->pLt q p=false->p=q
 |[],[],_,_=>rfl
 |[],_::_,h,_=>by cases h
 |_::_,[],_,h=>by cases h
 |a::p,b::q,h,h'=>by
  rw[q4x] at h h';by_cases e:a=b
  ·subst e;rw[if_pos rfl] at h h';rw[q5h h h']
  ·rw[if_neg e] at h;rw[if_neg (Er e)] at h';exact absurd (x2s (of_decide_eq_false h) (of_decide_eq_false h')) e
def pRank(ps:List Pth)(p:Pth):Nat:=(ps.filter fun q=>pLt q p).length
theorem z0p{α:Type}{f g:α->Bool}:∀(l:List α),(∀x∈l,f x=true->g x=true)->(l.filter f).length<=(l.filter g).length
 |[],_=>Aq _
 |x::r,h=>by
  have ih:=z0p r fun y hy=>h y (An _ hy);by_cases hf:f x=true
  ·simp_all
  ·rw[Ct hf];by_cases hg:g x=true
   ·rw[Cu hg];exact Fa ih
   ·simp_all
theorem z0q{α:Type}{f g:α->Bool}{y:α}:∀(l:List α),(∀x∈l,f x=true->g x=true)->y∈l->f y=false->g y=true->(l.filter f).length<(l.filter g).length
 |[],_,hy,_,_=>by cases hy
 |x::r,h,hy,h1,h2=>by
  rcases Ay.mp hy with e|hy
  ·subst e;rw[Ct (by rw[h1];decide),Cu h2];exact Nat.lt_succ_of_le (z0p r fun z hz=>h z (An _ hz))
  ·have ih:=z0q r (fun z hz=>h z (An _ hz)) hy h1 h2;by_cases hf:f x=true
   ·simp_all
   ·rw[Ct hf];by_cases hg:g x=true
    ·rw[Cu hg];exact Im ih
    ·simp_all
theorem q7u(hp:p∈ps)(h:pLt p q=true):pRank ps p<pRank ps q :=
 z0q ps (fun x _ hx=>q3s hx h) hp (q1k p) h
theorem q9b(hp:p∈ps)(hq:q∈ps):pLt p q=decide ((pRank ps p:Int)<(pRank ps q:Int)):=by
 cases h:pLt p q with
 |true=>have:=q7u hp h;exact(decide_eq_true (by lia)).symm
 |false =>
  cases h':pLt q p with
  |true=>have:=q7u hq h';exact(decide_eq_false (by lia)).symm
  |false=>rw[q5h h h'];exact(decide_eq_false (by lia)).symm
def PathAt(h:Heap)(v:Value)(p:Pth):Prop:=∃a its,v=.ref a/\IsTup h a its/\StrsAre its.toList (p.map mk)
theorem mk_inj(h:mk a=mk b):a=b:=by have:=congrArg tl h;rwa [q2w,q2w] at this
theorem q6r:∀{vs:List Value} {ss ts:List Str},StrsAre vs ss->StrsAre vs ts->ss=ts
 |_,_,_,.nil,.nil=>rfl
 |_,_,_,.cons y t h,.cons _ _ h'=>by rw[q6r h h']
theorem q7v:∀{p q:Pth},p.map mk=q.map mk->p=q
 |[],[],_=>rfl
 |[],_::_,h=>by simp at h
 |_::_,[],h=>by simp at h
 |a::p,b::q,h=>by
  rw[Aw,Aw] at h;injection h with h1 h2;rw[mk_inj h1,q7v h2]
theorem q2p:∀{vs:List Value} {p:Pth},StrsAre vs (p.map mk)->vs.length=p.length
 |_,[],.nil=>rfl
 |vs,n::p,h=>by
  rw[Aw] at h;cases h with
  |cons _ _ h'=>rw[By,By,q2p h']
theorem IsTup.inj(h1:IsTup h a x)(h2:IsTup h a y):x=y:=by
 obtain⟨o,e,_,n,d⟩:=h1;obtain⟨o',e',_,n',d'⟩:=h2;rw[e] at e';cases e';rw[d] at d';cases d';rfl
theorem PathAt.inj(h1:PathAt h v p)(h2:PathAt h v q):p=q:=by
 obtain⟨a,its,rfl,t,s⟩:=h1;obtain⟨a',its',e,t',s'⟩:=h2;cases e;rw[IsTup.inj t t'] at s;exact q7v (q6r s s')
theorem IsTup.keep(t:IsTup h a x)(k:∀o,h.get? a=some o->h'.get? a=some o):IsTup h' a x:=let ⟨o,e,r⟩:=t;⟨o,k o e,r⟩
theorem PathAt.keep(x:PathAt h v p)(k:∀b o,h.get? b=some o->h'.get? b=some o):PathAt h' v p:=let ⟨a,its,e,t,s⟩:=x;⟨a,its,e,IsTup.keep t fun o=>k a o,s⟩
def dP(p:Pth):List PyData:=p.map fun n=>PyData.str (mk n)
def Low(p:Pth):Prop:=∀n∈p,∀c∈n,c<128
theorem q7w:∀{p:Pth} {vs:List Value},StrsAre vs (p.map mk)->∃as,ReadsAll h vs (dP p) as
 |[],_,.nil=>⟨_,.nil⟩
 |n::p,vs,x=>by
  rw[Aw] at x;cases x with
  |cons y t s =>
   obtain⟨as,h'⟩:=q7w s;exact⟨_,.cons (.str _ t) h'⟩
theorem PathAt.reads(x:PathAt h v p):∃as,Reads h v (.tuple (dP p)) as:=by
 obtain⟨a,its,rfl,⟨o,e,c,n,d⟩,s⟩:=x;obtain⟨as,r⟩:=q7w s;exact⟨_,.tuple e c d r⟩
theorem z6u(h:∀c∈l,c<128):Sh (mk l)=true:=by
 unfold Sh;simp only[mk,List.all_toArray,Ot];intro c hc;have:=h c hc;simp;lia
theorem q7x:∀{p:Pth},Low p->Kq (dP p)=true
 |[],_=>rfl
 |n::r,h=>by
  have h1:=z6u (h n At);have ih:=q7x fun x hx=>h x (An _ hx);show Kq (PyData.str (mk n)::dP r)=true;simp only[Kq,Jd,h1,ih,Nq]
theorem q4y:∀p:Pth,Fp (dP p)<=1
 |[]=>by simp[dP,Fp]
 |n::r=>by
  have ih:=q4y r;show Fp (PyData.str (mk n)::dP r)<=1;simp only[Fp,Nd];lia
theorem q6s:∀p q:Pth,Gx (dP p) (dP q)=decide (p=q)
 |[],[]=>rfl
 |[],_::_=>rfl
 |_::_,[]=>rfl
 |a::p,b::q=>by
  show Gx (PyData.str (mk a)::dP p) (PyData.str (mk b)::dP q)=_;have e:Gx (PyData.str (mk a)::dP p) (PyData.str (mk b)::dP q)=(Ey (PyData.str (mk a)) (PyData.str (mk b))&&Gx (dP p) (dP q)):=by simp only[Gx]
  have e2:Ey (PyData.str (mk a)) (PyData.str (mk b))=(mk a==mk b):=by simp only[Ey]
  rw[e,e2,q6s p q];by_cases h:a=b
  ·subst h;simp
  ·grind
section
variable{prog:Program}{w:World}{A:Around}{E:Value->Shared->Prop}{s:Shared}{x y:Value}{p q:Pth}
theorem z3e(hx:PathAt s.heap x p)(hy:PathAt s.heap y q)(lp:Low p)(lq:Low q)(hu:A.units+2<cLine):Di A s x y (decide (p=q)):=by
 obtain⟨as,r1⟩:=hx.reads;obtain⟨bs,r2⟩:=hy.reads;have h:=Ov (.tuple (dP p)) (.tuple (dP q)) A s x y as bs r1 r2 (by simp only[Jd,q7x lp]) (by simp only[Jd,q7x lq]) (by
  have h1:(PyData.tuple (dP p)).depth=Fp (dP p)+1:=by simp only[Nd]
  have:=q4y p;lia)
 have e:Ey (.tuple (dP p)) (.tuple (dP q))=decide (p=q):=by simp only[Ey,q6s]
 rwa [e] at h
theorem z0r(l b:Addr)(items items2:Array Value)(n n2:Nat)(dd dd2:Option Addr)(sl sl2:Array (Option Value))(p q:Pth)(hi:StrsAre items.toList (p.map mk))(hj:StrsAre items2.toList (q.map mk)):
  Meets (Cy.«tuple.__lt__» ⟨[.ref l,.ref b],[]⟩)
   (fun _ R s=>s.heap.get? l=some { cls:=.type "tuple",dict:=dd,data:=.seq items n,slots:=sl }/\s.heap.get? b=some { cls:=.type "tuple",dict:=dd2,data:=.seq items2 n2,slots:=sl2 } /\
    R (.ok (.ret (.bool (pLt p q)))) s) :=
 .of_wp fun prog w A R s h=>by
  obtain⟨hp,g,d,tk,os⟩:=s;obtain⟨hl,hb,h⟩:=h;have f2:=AutoSeq1.sub_tuple_tuple;have z1:items.size=p.length:=by have:=q2p hi;simpa using this
  have z2:items2.size=q.length:=by have:=q2p hj;simpa using this
  wp_walk using Mm hl,Mm hb,Gg _ (fun rest c s'=>c.1=none/\s'=⟨hp,g,d,tk,os⟩/\∃(vs ws:List Value) (p' q':Pth),rest=vs.zip ws /\
   StrsAre vs (p'.map mk)/\StrsAre ws (q'.map mk)/\p'.length+items2.size=q'.length+items.size/\R (.ok (.ret (.bool (pLt p' q')))) ⟨hp,g,d,tk,os⟩) _
  case turn =>
   rintro⟨y,x⟩ rest c s' ⟨hb',rfl,vs,ws,p',q',hz,hvi,hwi,hlen,hR⟩;cases p' with
   |nil=>cases hvi;rw[Sz] at hz;cases hz
   |cons m p' =>
    cases q' with
    |nil=>cases hwi;rw[Si] at hz;cases hz
    |cons m' q' =>
     rw[Aw] at hvi hwi;cases hvi with
     |cons _ t hvi' =>
      cases hwi with
      |cons _ u hwi' =>
       rw[Ke] at hz;injection hz with hyx hrest;injection hyx with hy hx;subst hy hx;rw[q4x] at hR;simp only[By] at hlen;refine Aa (Nc (mk m) t (mk m') u (A:=A.in1) (s:=⟨hp,g,d,tk,os⟩) prog w _ _ ?_);by_cases e:m=m'
       ·subst e;rw[if_pos rfl] at hR;rw[beq_self_eq_true]
        wp_walk
        exact⟨rfl,rfl,_,_,_,_,hrest,hvi',hwi',by lia,hR⟩
       ·rw[if_neg e] at hR;have e2:(mk m==mk m')=false:=beq_eq_false_iff_ne.mpr fun z=>e (mk_inj z);rw[e2];have hri:∀(E:Value->Shared->Prop) (Q:Value->Shared->Prop),Q (.bool (decide (m<m'))) ⟨hp,g,d,tk,os⟩->wpAny (model prog w) A.in1 (Qd .Lt (.str (mk m) t) (.str (mk m') u)) Q E ⟨hp,g,d,tk,os⟩:=fun E Q hq =>
         (Rq (by
          have e3:(mk m).cps.toList=m:=q2w m;have e4:(mk m').cps.toList=m':=q2w m';rw[e3,e4];exact hq):wpAny (model prog w) A.in1 (Cl .Lt (.str (mk m) t) (.str (mk m') u)) Q E ⟨hp,g,d,tk,os⟩)
        wp_walk using hri
        exact⟨_,rfl,by simpa using hR⟩
  case fin =>
   rintro⟨b1,b2⟩ s' ⟨hb',rfl,vs,ws,p',q',hz,hvi,hwi,hlen,hR⟩;simp only at hb';subst hb';have hv:pLt p' q'=decide (items.size<items2.size):=by
    cases p' with
    |nil =>
     cases q' with
     |nil=>exact(decide_eq_false (by simp only[Ib] at hlen;lia)).symm
     |cons m' q'=>exact(decide_eq_true (by simp only[Ib,By] at hlen;lia)).symm
    |cons m p' =>
     cases q' with
     |nil=>exact(decide_eq_false (by simp only[Ib,By] at hlen;lia)).symm
     |cons m' q' =>
      rw[Aw] at hvi hwi;cases hvi with
      |cons _ t _=>cases hwi with|cons _ u _=>rw[Ke] at hz;cases hz
   rw[hv] at hR
   wp_walk
   exact⟨_,rfl,by simpa[Cy.Tuple.tupleCompareSizes] using hR⟩
  case h =>
   exact⟨rfl,rfl,items.toList,items2.toList,p,q,rfl,hi,hj,by lia,h⟩
theorem q9c{Q:Value->Shared->Prop}(hx:PathAt s.heap x p)(hy:PathAt s.heap y q)(hu:A.units<cLine)(h:Q (.bool (pLt p q)) s):wpAny (model prog w) A (Cl .Lt x y) Q E s:=by
 obtain⟨l,items,rfl,hl,hi⟩:=hx;obtain⟨b,items2,rfl,hb,hj⟩:=hy;obtain⟨⟨cls,dd,data,sl⟩,ho,hc,n,hd⟩:=id hl;obtain⟨⟨cls2,dd2,data2,sl2⟩,ho2,hc2,n2,hd2⟩:=id hb;simp only at hc hd hc2 hd2;subst hc hd hc2 hd2;exact richCompare_meets_room (op:=.Lt) ⟨_,ho,rfl⟩ ⟨_,ho2,rfl⟩ PySem.F.slot_tuple_lt PySem.F.entry_tuple_lt (PySem.F.args_tuple_lt_2 _ _) (z0r l b items items2 n n2 dd dd2 sl sl2 p q hi hj)
  ⟨ho,ho2,show Value.bool (pLt p q)≠Value.notImplemented/\Q (.bool (pLt p q)) s from⟨(fun x=>nomatch x),h⟩⟩ hu
theorem x2t{b:Bool}{m m':List Nat}{t u:Tok}{Q:Bool->Shared->Prop}(h:Q (decide (m<m')) s):wpAny (model prog w) A (oneLt' b (.str (mk m) t) (.str (mk m') u)) Q E s:=by
 have e3:(mk m).cps.toList=m:=q2w m;have e4:(mk m').cps.toList=m':=q2w m';cases b with
 |true=>exact oneLt_str (by rw[e3,e4];exact h)
 |false =>
  rw[oneLt'_eq];simp only[Ax,if_false];exact Aa ((Rq (by rw[e3,e4];exact Cn h):wpAny (model prog w) A (Cl .Lt (.str (mk m) t) (.str (mk m') u)) _ E s))
theorem z9p{Q:Bool->Shared->Prop}(hx:PathAt s.heap x p)(hy:PathAt s.heap y q)(hu:A.units<cLine)(h:Q (pLt p q) s):wpAny (model prog w) A (oneLt' false x y) Q E s:=by
 rw[oneLt'_eq];simp only[Ax,if_false];exact Aa (q9c hx hy hu (Cn h):wpAny (model prog w) A (Cl .Lt x y) _ E s)
theorem z6v{b:Bool}{Q:Bool->Shared->Prop}(hx:PathAt s.heap x p)(hy:PathAt s.heap y q)(h:Q (pLt p q) s):wpAny (model prog w) A (keyLt' (Sq b) x y) Q E s:=by
 obtain⟨l,items,rfl,⟨o,ho,hc,n,hd⟩,hi⟩:=hx;obtain⟨m,items2,rfl,⟨o2,ho2,hc2,n2,hd2⟩,hj⟩:=hy;refine Aa (m:=Eh (.ref l)) (Kg ho hd (Aa (m:=Eh (.ref m)) (Kg ho2 hd2 ?_)));have z1:items.size=p.length:=by have:=q2p hi;simpa using this
 have z2:items2.size=q.length:=by have:=q2p hj;simpa using this
 refine Aa (Gg _ (fun rest c s'=>c=(none,())/\s'=s/\∃(vs ws:List Value) (p' q':Pth) (k:Nat),rest=(vs.zip ws).zipIdx k/\StrsAre vs (p'.map mk)/\StrsAre ws (q'.map mk) /\
   p'.length+items2.size=q'.length+items.size/\Q (pLt p' q') s) (fun c s'=>match c.1 with|some r=>Q r s'|none=>c.1=none/\Q (decide (items.size<items2.size)) s') ?turn ?fin _ _ ?h0|>fun z=>Cq z ?post fun _ _ e=>e)
 case post =>
  rintro⟨c,⟨⟩⟩ s' hc;cases c with
  |none=>exact Ad hc.2
  |some r=>exact Ad hc
 case h0=>exact⟨rfl,rfl,items.toList,items2.toList,p,q,0,rfl,hi,hj,by lia,h⟩
 case fin =>
  rintro c s' ⟨rfl,rfl,vs,ws,p',q',k,hz,hv,hw,hl,hQ⟩;have e:pLt p' q'=decide (items.size<items2.size):=by
   cases p' with
   |nil =>
    cases q' with
    |nil=>exact(decide_eq_false (by simp only[Ib] at hl;lia)).symm
    |cons m' q'=>exact(decide_eq_true (by simp only[Ib,By] at hl;lia)).symm
   |cons m p' =>
    cases q' with
    |nil=>exact(decide_eq_false (by simp only[Ib,By] at hl;lia)).symm
    |cons m' q' =>
     rw[Aw] at hv hw;cases hv with
     |cons _ t _=>cases hw with|cons _ u _=>rw[Ke,Tv] at hz;cases hz
  rw[e] at hQ;exact⟨rfl,hQ⟩
 case turn =>
  rintro⟨⟨y,x⟩,i⟩ rest c s' ⟨rfl,rfl,vs,ws,p',q',k,hz,hv,hw,hl,hQ⟩;cases p' with
  |nil=>cases hv;rw[Sz] at hz;cases hz
  |cons m p' =>
   cases q' with
   |nil=>cases hw;rw[Si] at hz;cases hz
   |cons m' q' =>
    rw[Aw] at hv hw;cases hv with
    |cons _ t hv' =>
     cases hw with
     |cons _ u hw' =>
      rw[Ke,Tv] at hz;injection hz with h1 h2;injection h1 with h1 h3;injection h1 with h4 h5;subst h4 h5 h3;rw[q4x] at hQ;simp only[By] at hl;refine Aa (Nc (mk m) t (mk m') u (A:=A) (s:=s') prog w _ _ ?_);by_cases e:m=m'
      ·subst e;rw[if_pos rfl] at hQ;rw[beq_self_eq_true];simp only[Eg,Ax,if_false];exact Ad ⟨rfl,rfl,_,_,_,_,_,h2,hv',hw',by lia,hQ⟩
      ·rw[if_neg e] at hQ;have e2:(mk m==mk m')=false:=beq_eq_false_iff_ne.mpr fun z=>e (mk_inj z);rw[e2];simp only[My,if_true];exact Aa (x2t (b:=b&&i==0) (Ad hQ))
def PairAt(h:Heap)(v:Value)(p:Pth)(m:Value):Prop:=∃a k,v=.ref a/\IsTup h a #[k,m]/\PathAt h k p
theorem PairAt.keep{h h':Heap}{v m:Value}{p:Pth}(x:PairAt h v p m)(k:∀b o,h.get? b=some o->h'.get? b=some o):PairAt h' v p m:=let ⟨a,z,e,t,s⟩:=x;⟨a,z,e,IsTup.keep t fun o=>k a o,s.keep k⟩
theorem z6w{m m':Value}{Q:Bool->Shared->Prop}(hx:PairAt s.heap x p m)(hy:PairAt s.heap y q m')(hxy:p=q->x=y)(lp:Low p)(lq:Low q)(hu:A.units+2<cLine)(h:Q (pLt p q) s):wpAny (model prog w) A (keyLt' (Sq false) x y) Q E s:=by
 obtain⟨l,k,rfl,hl,hk⟩:=hx;obtain⟨l2,k2,rfl,hl2,hk2⟩:=hy;obtain⟨o,ho,hc,n,hd⟩:=id hl;obtain⟨o2,ho2,hc2,n2,hd2⟩:=id hl2;refine Aa (m:=Eh (.ref l)) (Kg ho hd (Aa (m:=Eh (.ref l2)) (Kg ho2 hd2 ?_)));show wpAny (model prog w) A (forIn [((k,k2),0),((m,m'),1)] ((none,()):Option Bool×Unit) _ >>= _) Q E s;rw[Pl];refine Aa (Aa (Aa (z3e hk hk2 lp lq hu prog w _ _ ?_)));by_cases e:p=q
 ·have e1:=hxy e;cases e1;have e2:=IsTup.inj hl hl2;have e3:k=k2/\m=m':=by
   have:=congrArg Array.toList e2;simpa using this
  obtain⟨rfl,rfl⟩:=e3;subst e;rw[decide_eq_true rfl];simp only[Eg,Ax,if_false];refine Ad ?_;dsimp only;rw[Pl];refine Aa (Aa (Ue m (A:=A) (s:=s) prog w _ _ ?_));simp only[Eg,Ax,if_false];refine Ad ?_;dsimp only;rw[List.forIn_nil];refine Ad (Ad ?_);rw[q1k] at h;simpa using h
 ·rw[decide_eq_false e];simp only[My,if_true,Bool.false_and];refine Aa (z9p hk hk2 (by lia) (Ad ?_));exact Ad (Ad h)
theorem q6t{α β:Type}{f:α->Sem β}{g:α->β}:∀(l:List α) {Q:List β->Shared->Prop},(∀a∈l,∀(Q':β->Shared->Prop),Q' (g a) s->wpAny (model prog w) A (f a) Q' E s)->Q (l.map g) s->wpAny (model prog w) A (l.mapM f) Q E s
 |[],Q,_,h=>by rw[List.mapM_nil];exact Ad h
 |a::l,Q,hf,h=>by
  rw[List.mapM_cons];refine Aa (hf a At _ (Aa (q6t l (fun b hb=>hf b (An _ hb)) (Ad h))))
theorem z9q{a:Addr}{its:Array Value}{Q:Option Value->Shared->Prop}(t:IsTup s.heap a its)(h:Q its[0]? s):wpAny (model prog w) A (firstOfTuple' (.ref a)) Q E s:=by
 obtain⟨o,ho,hc,n,hd⟩:=t;refine Aa (m:=typeOf (.ref a)) (Fj (T := "tuple") ⟨o,ho,hc⟩ ?_);have e:(Value.type "tuple" != Value.type "tuple")=false:=by decide
 rw[e];simp only[Ax,if_false];exact Aa (m:=Eh (.ref a)) (Kg ho hd (Ad h))
theorem z6x{T:String}{vs:List Value}{fs:Value->Value}{Q:Kc->Shared->Prop}(hne:vs≠[])(hf:∀v∈vs,∃a its,v=.ref a/\IsTup s.heap a its/\its[0]?=some (fs v))(hT:∀v∈vs,s.TypeIs (fs v) T)(h:Q (Sq (Value.type T != Value.type "tuple")) s):wpAny (model prog w) A (Tw vs.toArray) Q E s:=by
 rw[keyKind'_eq,Kw];refine Aa (Aa (q6t (g:=fun v=>some (fs v)) vs (fun v hv Q' h'=>?_) (Ad ?_)))
 ·obtain⟨a,its,rfl,t,e⟩:=hf v hv;exact z9q t (by rw[e];exact h')
 ·have hall:((vs.map fun v=>some (fs v)).toArray.all fun x=>x.isSome)=true:=by simp
  rw[if_pos (by simpa using hall)];refine Aa (Fk ?_);rw[oneTypeOnly'_eq];have e:Array.filterMap id (vs.map fun v=>some (fs v)).toArray=(vs.map fs).toArray:=by
   simp[Sd]
  rw[e,Kw];refine Aa (Aa (Aa (q6t (g:=fun _=>Value.type T) (vs.map fs) (fun x hx Q' h'=>?_) (Ad ?_))))
  ·obtain⟨v,hv,rfl⟩:=Ac.mp hx;exact Fj (hT v hv) h'
  ·cases vs with
   |nil=>exact absurd rfl hne
   |cons v vs =>
    have e0:(((v::vs).map fs).map fun _=>Value.type T).toArray[0]?=some (Value.type T):=by simp
    have ea:((((v::vs).map fs).map fun _=>Value.type T).toArray.all fun x=>x==Value.type T)=true:=by simp
    rw[e0];dsimp only;rw[ea];simp only[if_true];exact Ad (Ad (by simpa using h))
end
open PySem PyProof.Rows TX
section
variable{prog:Program}{w:World}{A:Around}{E:Value->Shared->Prop}{s:Shared}{kd:Kc}{S:Value->Prop}{r:Value->Int}{vs:List Value}
def KeptBut(a:Addr)(h h':Heap):Prop:=∀b o,b≠a->h.get? b=some o->h'.get? b=some o
structure Sorted (r:Value->Int) (vs:List Value) (out:Array Value):Prop where
 perm:out.toList.Perm vs
 rise:out.toList.Pairwise fun x y=>r x<=r y
theorem z9r{xs:Array Keyed}(hp:xs.Perm (pairsOf vs)):(∀p∈xs.toList,p.1=p.2)/\(xs.map (·.2)).toList.Perm vs:=by
 have hl:xs.toList.Perm (vs.zip vs):=by rw[<- pairsOf_toList];exact Np.mp hp
 refine⟨fun p hp'=>(mem_zip_self (hl.mem_iff.mp hp')).1,?_⟩;rw[Ow];have:=hl.map (·.2)
 rwa [List.map_snd_zip (Aq _)] at this
theorem z0s{st:Ia}(hp:(arrOf st).Perm (pairsOf vs))(u:Up r (arrOf st) (pairsOf vs).size):Sorted r vs ((arrOf st).map (·.2)):=by
 obtain⟨h1,h2⟩:=z9r hp;refine⟨h2,?_⟩;rw[List.pairwise_iff_getElem];intro i j hi hj hij;have hi':i<(arrOf st).size:=by simp_all
 have hj':j<(arrOf st).size:=by simp_all
 have e:=u i j (Gm hij) (by rw[<- hp.size_eq];exact hj');have k:∀{n:Nat} (hn:n<(arrOf st).size),rk r (arrOf st) n=r (arrOf st)[n].2:=fun{n} hn=>by
  unfold rk;rw[getElem?_pos (arrOf st) n hn];show r (arrOf st)[n].1=_;rw[h1 (arrOf st)[n] (by simp)]
 rw[k hi',k hj'] at e;simpa using e
theorem z6y(ho:s.heap.get? a=some (Hq "list" vs.toArray n))(h64:vs.length<64)(hS:∀v∈vs,S v)(hk:2<=vs.length->∀s' (E:Value->Shared->Prop) (Q:Kc->Shared->Prop),KeptBut a s.heap s'.heap->Q kd s'->wpAny (model prog w) A (Tw vs.toArray) Q E s')(T:∀s',KeptBut a s.heap s'.heap->Tells prog w A s' kd S r)(h:∀out,Sorted r vs out->P (.done (.ret .none)) { s with heap:=sortedHeap s.heap a vs out }):
  wpAny (model prog w) A (Cy.«list.sort» ⟨[.ref a],[]⟩) P E s:=by
 have hz2:=pairsOf_size vs;have hz3:vs.length<=sizeLine:=by rw[Ev];lia
 rw[list_sort_plain];refine Aa (Kg ho rfl (Aa (Rn ho rfl ?_)));have o1:=get?_update_seq ho (fun _=>#[]);refine Aa (Tg o1 rfl (Aa (Mx (Aa (wpAny_newList (Ca ?_))))));generalize hg:(((s.heap.update a (Cw fun _=>#[])).push (Hq "tuple" vs.toArray 0)).push (Hq "list" #[] 0))=g;have kg:KeptBut a s.heap g:=fun b o hb e=>by
  rw[<- hg];exact Ah _ (Ah _ ((Ce _ _ (Er hb)).trans e))
 have og:=Ah (Hq "list" #[] 0) (Ah (Hq "tuple" vs.toArray 0) o1);rw[hg] at og;have fin:∀out,Sorted r vs out->P (.done (.ret .none)) { s with heap:=g.update a (Cw fun _=>out) }:=fun out so=>by
  have:=h out so;unfold sortedHeap at this
  rwa [hg] at this
 by_cases h2:vs.length<2
 ·have h2':vs.toArray.size<2:=by simpa using h2
  simp only[if_pos h2'];refine Aa (Ad ?_);refine Aa (Ad (Aa (Tg og rfl (Aa (Rn og rfl ?_ (hsz2:=by show((pairsOf vs).map _).size<=_;rw[Array.size_map];lia))))));simp only[bne_self_eq_false,Ax,if_false];exact Ad (fin _ (z0s (Ul _) fun i j a' b'=>by rw[show i=j by lia];exact Pz _))
 ·have h2':¬vs.toArray.size<2:=by simpa using h2
  simp only[if_neg h2'];refine Aa (hk (by lia) _ _ _ kg ?_);refine Aa (Cq (x2r (a₀:=pairsOf vs) (Q:=fun _ t=>(arrOf t).Perm (pairsOf vs)/\Tt t=none/\Up r (arrOf t) (pairsOf vs).size) (T _ kg) (fun p hp=>hS _ ?_)
   ⟨Ul _,rfl,rfl,rfl⟩ (by lia) (by lia) fun t a1 a2 a3=>⟨a1,a2,a3⟩) ?_ fun _ _ e=>e)
  ·rw[pairsOf_toList] at hp;exact(mem_zip_self hp).2
  ·rintro⟨⟨⟩,t⟩ s' ⟨rfl,pm,fl,up⟩;refine Aa (Tg og rfl (Aa (Rn og rfl ?_ (hsz2:=by show((arrOf t).map _).size<=_;rw[Array.size_map,pm.size_eq];lia))));rw[fl];simp only[bne_self_eq_false,Ax,if_false];exact Ad (fin _ (z0s pm up))
end
section
variable{prog:Program}{w:World}{A:Around}{E:Value->Shared->Prop}{s:Shared}
structure Ready (prog:Program) (w:World) (A:Around) (vs:List Value) (h:Heap) (kd:Kc) (S:Value->Prop) (r:Value->Int):Prop where
 few:vs.length<64
 all:∀v∈vs,S v
 kind:2<=vs.length->∀A' s' (E:Value->Shared->Prop) (Q:Kc->Shared->Prop),A'.units<=A.units+9->(∀b o,h.get? b=some o->s'.heap.get? b=some o)->Q kd s'->wpAny (model prog w) A' (Tw vs.toArray) Q E s'
 tells:∀A' s',A'.units<=A.units+9->(∀b o,h.get? b=some o->s'.heap.get? b=some o)->Tells prog w A' s' kd S r
theorem sorted_ok
  (hc:∀{Q':List Value->Shared->Prop},(∀vs h tk kd S r,Ready prog w A vs h kd S r ->
    (∀h' out,Sorted r vs out->(∀b o,h.get? b=some o->h'.get? b=some o)->(∃e,h'.get? h.objs.size=some (Hq "list" out e))->Q (.ref h.objs.size) { s with heap:=h',toks:=tk })->Q' vs { s with heap:=h,toks:=tk }) ->
   wpAny (model prog w) A.in1 (collect x) Q' E s):wpAny (model prog w) A (call (.builtin "sorted") [x]) Q E s:=by
 refine Calls.call_function_entry kind_sorted plain_sorted entry_sorted (args_sorted1 _) ?_;refine Aa (Ad (Aa (hc fun vs h tk kd S r rd hQ=>?_)));have hz3:vs.length<=sizeLine:=by have:=rd.few;rw[Ev];lia
 refine Aa (wpAny_newList ?_);have ho:(h.push (Hq "list" vs.toArray 0)).get? h.objs.size=some (Hq "list" vs.toArray 0):=Ar _ rfl;have kb:∀{g:Heap},KeptBut h.objs.size (h.push (Hq "list" vs.toArray 0)) g->∀b o,h.get? b=some o->g.get? b=some o:=fun kg b o e=>kg b o (Bf (Au e)) (Ah _ e);refine Aa (Ca (Bo slot_list_sort ⟨_,ho,rfl⟩ entry_list_sort (z6y ho rd.few rd.all (fun h2 s' E Q kg q=>rd.kind h2 _ s' E Q (by show A.units+1+1<=_;lia) (kb kg) q) (fun s' kg=>rd.tells _ s' (by show A.units+1+1<=_;lia) (kb kg)) fun out so=>⟨_,rfl,?_⟩) (args_list_sort _)));refine Ad ⟨_,rfl,hQ _ out so (fun b o e=>?_) (sortedHeap_at ho)⟩;have:=sortedHeap_old (vs:=vs) (out:=out) (h:=h.push (Hq "list" vs.toArray 0)) (Bf (Au e)) (by rw[size_push'];exact Im (Au e));rw[this];exact Ah _ e
theorem perm_map_inv {α β : Type} {g : α → β} : ∀ {l m : List β}, l.Perm m → ∀ {zs : List α}, m = zs.map g → ∃ zs' : List α, zs'.Perm zs ∧ l = zs'.map g := by
  intro l m h;induction h with
  | nil => simp_all
  | cons x h ih => intro zs e; cases zs with
    | nil => cases e
    | cons z zs =>
      injection e with e1 e2;obtain ⟨zs', h1, h2⟩ := ih e2;exact ⟨z :: zs', h1.cons z, by rw [Aw, ← h2, e1]⟩
  | swap x y l => intro zs e; cases zs with
    | nil => cases e
    | cons z zs => cases zs with
      | nil => cases e
      | cons z2 zs =>
        injection e with e1 e2;injection e2 with e2 e3;exact ⟨z2 :: z :: zs, List.Perm.swap _ _ _, by rw [Aw, Aw, ← e1, ← e2, ← e3]⟩
  | trans h1 h2 ih1 ih2 => intro zs e
                           obtain ⟨zs', p1, e1⟩ := ih2 e;obtain ⟨zs2, p2, e2⟩ := ih1 e1;exact ⟨zs2, p2.trans p1, e2⟩
open Classical in
noncomputable def keyBy (K:Value->Pth->Prop) (v:Value):Pth:=if h:∃p,K v p then choose h else[]
theorem q2u{K:Value->Pth->Prop}(hK:∀v p q,K v p->K v q->p=q){v:Value}{p:Pth}(h:K v p):keyBy K v=p:=by
 unfold keyBy;have hx:∃p,K v p:=⟨p,h⟩
 rw[dif_pos hx];exact hK v _ _ (Classical.choose_spec hx) h
theorem rise_paths{K:Value->Pth->Prop}(hK:∀v p q,K v p->K v q->p=q){α:Type}{g:α->Value}{f:α->Pth}:∀{zs:List α},(∀z∈zs,K (g z) (f z)/\f z∈ps)->(zs.map g).Pairwise (fun x y=>(pRank ps (keyBy K x):Int)<=(pRank ps (keyBy K y):Int))->(zs.map f).Pairwise fun a b=>pLt b a=false
 |[],_,_=>.nil
 |z::zs,hz,h=>by
  rw[Aw] at h ⊢;obtain⟨h1,h2⟩:=Kh.mp h;refine Kh.mpr ⟨fun b hb=>?_,rise_paths hK (fun y hy=>hz y (An _ hy)) h2⟩;obtain⟨y,hy,rfl⟩:=Ac.mp hb;obtain⟨k1,m1⟩:=hz z At;obtain⟨k2,m2⟩:=hz y (An _ hy);have:=h1 (g y) (Ac.mpr ⟨y,hy,rfl⟩);rw[q2u hK k1,q2u hK k2] at this;rw[q9b m2 m1];exact decide_eq_false (by lia)
theorem ready_paths(few:vs.length<64)(hp:∀v∈vs,∃p∈ps,p≠[]/\PathAt h v p):
  Ready prog w A vs h (Sq true) (fun v=>∃p∈ps,PathAt h v p) (fun v=>(pRank ps (keyBy (PathAt h) v):Int)) where
 few:=few
 all:=fun v hv=>let ⟨p,a,_,b⟩:=hp v hv;⟨p,a,b⟩
 kind:=fun h2 A' s' E Q _ k q=>by
  have hne:vs≠[]:=fun z=>by rw[z] at h2;simp at h2
  have ex:∀v∈vs,∃a its n p t,v=.ref a/\IsTup s'.heap a its/\its[0]?=some (.str (mk n) t):=fun v hv=>by
   obtain⟨p,_,hne,x⟩:=hp v hv;obtain⟨a,its,rfl,tt,st⟩:=x.keep k;cases p with
   |nil=>exact absurd rfl hne
   |cons n p =>
    obtain⟨l⟩:=its;cases st with
    |cons _ t st'=>exact⟨a,_,n,p,t,rfl,tt,rfl⟩
  refine z6x (fs:=fun v=>(match v with|.ref a=>(match s'.heap.get? a with|some o=>(match o.data with|.seq its _=>its.getD 0 .none|_=>.none)|none=>.none)|_=>.none)) hne (fun v hv=>?_) (fun v hv=>?_) (by rw[show(Value.type "str" != Value.type "tuple")=true from by decide];exact q)
  ·obtain⟨a,its,n,p,t,rfl,tt,e⟩:=ex v hv;refine⟨a,its,rfl,tt,?_⟩;obtain⟨o,e1,e2,m,e3⟩:=tt;simp only[e1,e3];rw[e,Nf,e];rfl
  ·obtain⟨a,its,n,p,t,rfl,tt,e⟩:=ex v hv;obtain⟨o,e1,e2,m,e3⟩:=tt;simp only[e1,e3];rw[Nf,e];exact Rb _ _ _
 tells:=fun A' s' _ k E x y Q ⟨p,hp1,x1⟩ ⟨q,hq1,y1⟩ h'=>by
  refine z6v (x1.keep k) (y1.keep k) ?_;have hK:∀v p q,PathAt h v p->PathAt h v q->p=q:=fun _ _ _ a b=>a.inj b;have e1:=q2u hK x1;have e2:=q2u hK y1;rw[q9b hp1 hq1,<- e1,<- e2];exact h'
theorem PairAt.inj(h1:PairAt h v p m)(h2:PairAt h v q m'):p=q:=by
 obtain⟨a,k,rfl,t,s⟩:=h1;obtain⟨a',k',e,t',s'⟩:=h2;cases e;have e:=congrArg Array.toList (IsTup.inj t t');have e2:k=k':=by grind
 subst e2;exact s.inj s'
theorem ready_pairs(few:vs.length<64)(hp:∀v∈vs,∃p∈ps,∃m,Low p/\PairAt h v p m)(hi:∀u∈vs,∀v∈vs,∀p m m',PairAt h u p m->PairAt h v p m'->u=v)(hu:A.units+12<cLine):
  Ready prog w A vs h (Sq false) (fun v=>v∈vs) (fun v=>(pRank ps (keyBy (fun v p=>∃m,PairAt h v p m) v):Int)) where
 few:=few
 all:=fun v hv=>hv
 kind:=fun h2 A' s' E Q _ k q=>by
  have hne:vs≠[]:=fun z=>by rw[z] at h2;simp at h2
  have ex:∀v∈vs,∃a b its m,v=.ref a/\IsTup s'.heap a #[.ref b,m]/\IsTup s'.heap b its:=fun v hv=>by
   obtain⟨p,_,m,_,x⟩:=hp v hv;obtain⟨a,z,rfl,tt,b,its,rfl,t2,_⟩:=x.keep k;exact⟨a,b,its,m,rfl,tt,t2⟩
  refine z6x (fs:=fun v=>(match v with|.ref a=>(match s'.heap.get? a with|some o=>(match o.data with|.seq its _=>its.getD 0 .none|_=>.none)|none=>.none)|_=>.none)) hne (fun v hv=>?_) (fun v hv=>?_) (by rw[show(Value.type "tuple" != Value.type "tuple")=false from by decide];exact q)
  ·obtain⟨a,b,its,m,rfl,tt,_⟩:=ex v hv;refine⟨a,_,rfl,tt,?_⟩;obtain⟨o,e1,e2,n,e3⟩:=tt;simp only[e1,e3];rfl
  ·obtain⟨a,b,its,m,rfl,tt,t2⟩:=ex v hv;obtain⟨o,e1,e2,n,e3⟩:=tt;simp only[e1,e3];obtain⟨o2,f1,f2,_⟩:=t2;exact⟨o2,f1,f2⟩
 tells:=fun A' s' hA k E x y Q hx hy h'=>by
  obtain⟨p,hp1,m,lp,x1⟩:=hp x hx;obtain⟨q,hq1,m',lq,y1⟩:=hp y hy;refine z6w (x1.keep k) (y1.keep k) (fun e=>by subst e;exact hi x hx y hy _ _ _ x1 y1) lp lq (by lia) ?_;have hK:∀v p q,(∃m,PairAt h v p m)->(∃m,PairAt h v q m)->p=q:=fun v p q ⟨_,a⟩ ⟨_,b⟩=>PairAt.inj a b
  have e1:=q2u hK ⟨m,x1⟩;have e2:=q2u hK ⟨m',y1⟩;rw[q9b hp1 hq1,<- e1,<- e2];exact h'
end
end SB
namespace PySem.Rv
open Sem (wp)
structure Runs (prog:Program) (w:World) (A:Around) (S I:Addr) (n:Nat) (Fc:List Value->Heap->Prop) (It:Nat->Heap->Prop):Prop where
 keepF:∀acc h h',Fc acc h->(∀b o,b≠S->b≠I->h.get? b=some o->h'.get? b=some o)->Fc acc h'
 keepI:∀i h h',It i h->(∀b o,b≠S->h.get? b=some o->h'.get? b=some o)->It i h'
 item:∀acc (s:Shared) (Q:Option Value->Shared->Prop) (E:Value->Shared->Prop),acc.length<n->Fc acc s.heap->It acc.length s.heap ->
  (∀v h',Fc (acc++[v]) h'->It (acc.length+1) h'->(∀b o,b≠I->s.heap.get? b=some o->h'.get? b=some o)->Q (some v) { s with heap:=h' })->wpAny (model prog w) A.in1 (Gb (.ref I)) Q E s
 done:∀(s:Shared) (Q:Option Value->Shared->Prop) (E:Value->Shared->Prop),It n s.heap->(∀h',(∀b o,b≠I->s.heap.get? b=some o->h'.get? b=some o)->Q none { s with heap:=h' })->wpAny (model prog w) A.in1 (Gb (.ref I)) Q E s
section
variable{prog:Program}{w:World}{A:Around}{E:Value->Shared->Prop}{S I:Addr}{n:Nat}{Fc:List Value->Heap->Prop}{It:Nat->Heap->Prop}
theorem grow(W:Runs prog w A S I n Fc It)(hSI:S≠I)(hn:n<=sizeLine)(res:Value):∀(k:Nat) (acc:List Value) (s:Shared) (c:Nat),n-acc.length=k->acc.length<=n->Fc acc s.heap->It acc.length s.heap ->
  s.heap.get? S=some { cls:=.type "list",data:=.seq acc.toArray c } ->
  (∀acc' h' c',acc'.length=n->Fc acc' h'->(∀b o,b≠S->b≠I->s.heap.get? b=some o->h'.get? b=some o)->h'.get? S=some { cls:=.type "list",data:=.seq acc'.toArray c' }->R (.ok (.ret res)) { s with heap:=h' }) ->
  Ew (model prog w) A (.builtin "list.extend.loop" ⟨[.ref S,.ref I,res],[]⟩) R s:=by
 intro k;induction k with
 |zero =>
  intro acc s c hk hl f i hS hR;refine Da Rr ?_;rw[Ci Fg _];have e:acc.length=n:=by lia
  refine Aa (W.done s _ _ (by rw[<- e];exact i) fun h' kp=>Ad ?_);exact hR acc h' c e (W.keepF _ _ _ f fun b o _ hb q=>kp b o hb q) (fun b o _ hb q=>kp b o hb q) (kp S _ hSI hS)
 |succ k ih =>
  intro acc s c hk hl f i hS hR;refine Da Rr ?_;rw[Ci Fg _];refine Aa (W.item acc s _ _ (by lia) f i fun v h' f' i' kp=>?_);have hS':=kp S _ hSI hS;have oth:∀b o,b≠S->h'.get? b=some o->(h'.update S (Cw (·.push v))).get? b=some o:=fun b o hb q=>(Ce _ _ (Er hb)).trans q;have hS2:(h'.update S (Cw (·.push v))).get? S=some { cls:=.type "list",data:=.seq (acc++[v]).toArray (c+1) }:=by
   have:=Dz hS' (fun x=>x.push v);rw[this];simp
  refine Aa (Fb hS' rfl (Ad ⟨Db Fg _,ih (acc++[v]) _ (c+1) (by rw[Al,Dx];lia) (by rw[Al,Dx];lia)
   (W.keepF _ _ _ f' fun b o hb _ q=>oth b o hb q) (by rw[Al,Dx];exact W.keepI _ _ _ i' oth) hS2 fun acc' h2 c' e2 f2 k2 s2=>hR acc' h2 c' e2 f2 (fun b o hb hb' q=>k2 b o hb hb' (oth b o hb (kp b o hb' q))) s2⟩) (by rw[Az];lia) (by simp;lia))
theorem collect_runs(hT:∀h,(∀b o,s.heap.get? b=some o->h.get? b=some o)->(⟨h,s.gens,s.drawn,s.toks,s.os⟩:Shared).TypeIs (.ref v) T)(hv:v<s.heap.objs.size)(h1:(Value.type T==Value.type "list")=false)(h2:(Value.type T==Value.type "tuple")=false)(hint:∀(A:Around) (E:Value->Shared->Prop) (s':Shared) (Q:Bool->Shared->Prop),s'.TypeIs (.ref v) T->Q false s'->wpAny (model prog w) A (Cy.List.listLengthHint (.ref v)) Q E s')(iter:∀(A:Around) (E:Value->Shared->Prop) (h:Heap) (Q:Value->Shared->Prop),(∀b o,s.heap.get? b=some o->h.get? b=some o)->Q (.ref h.objs.size) { s with heap:=h.push oI }->wpAny (model prog w) A (Ju (.ref v)) Q E { s with heap:=h })(hoI:∀h:Heap,(h.push oI).get? h.objs.size=some oI)(W:Runs prog w A s.heap.objs.size (s.heap.objs.size+1) n Fc It)(hn:n<=sizeLine)(h0:∀h,(∀b o,s.heap.get? b=some o->h.get? b=some o)->h.get? (s.heap.objs.size+1)=some oI->Fc [] h/\It 0 h)(hQ:∀acc h,acc.length=n->Fc acc h->s.heap.objs.size<=h.objs.size->(∀b o,s.heap.get? b=some o->h.get? b=some o)->Q acc { s with heap:=h }):wpAny (model prog w) A (collect (.ref v)) Q E s:=by
 refine Aa (wpAny_runValue (Da F.entry_proto_collect ?_));rw[Ci F.plain_proto_collect _];refine Aa (Br (Ad ⟨Db Tb _,Da F.entry_list_iadd ?_⟩));rw[Ci Tb _];show wpAny _ A.in1 (Go (.ref s.heap.objs.size) (.ref v) (.ref s.heap.objs.size)) _ _ { s with heap:=s.heap.push { cls:=.type "list",data:=.seq ([]:List Value).toArray } };generalize hg:s.heap.push { cls:=.type "list",data:=.seq ([]:List Value).toArray }=g;have kg:∀b o,s.heap.get? b=some o->g.get? b=some o:=fun b o q=>by rw[<- hg];exact Ah _ q
 have gz:g.objs.size=s.heap.objs.size+1:=by rw[<- hg];exact Ex _ _
 have gS:g.get? s.heap.objs.size=some { cls:=.type "list",data:=.seq ([]:List Value).toArray }:=by rw[<- hg];exact Ar _ rfl
 refine Aa (Fj (hT g kg) ?_);have hs:Hr (.ref s.heap.objs.size) (.ref v)=false:=by simp[Hr,Et hv]
 simp only[hs,h1,h2,Rm,Ax,if_false];refine Aa (iter _ _ g _ kg ?_);rw[gz];have kI:∀b o,g.get? b=some o->(g.push oI).get? b=some o:=fun b o q=>Ah _ q;have hS₁:=kI _ _ gS;have put:∀(h:Heap) (c:Nat),(∀b o,b≠s.heap.objs.size->(g.push oI).get? b=some o->h.get? b=some o)->h.get? s.heap.objs.size=some { cls:=.type "list",data:=.seq ([]:List Value).toArray c }->h.get? (s.heap.objs.size+1)=some oI ->
   Ew (model prog w) A (.builtin "list.extend.loop" ⟨[.ref s.heap.objs.size,.ref (s.heap.objs.size+1),.ref s.heap.objs.size],[]⟩) (fun r s'=>∃acc c',r=.ok (.ret (.ref s.heap.objs.size))/\s'.heap.get? s.heap.objs.size=some { cls:=.type "list",data:=.seq acc c' }/\Q acc.toList s') { s with heap:=h }:=by
  intro h c kh hh hi;obtain⟨f,i⟩:=h0 h (fun b o q=>kh b o (Bf (Au q)) (kI b o (kg b o q))) hi;refine grow W (Bf (Gf _)) hn _ n [] _ c (by simp) (Bl _) f i hh fun acc h' c' e f' k' s'=>⟨acc.toArray,c',rfl,s',?_⟩
  have:=hQ acc h' e f' (Gm (Au s')) fun b o q=>k' b o (Bf (Au q)) (Bf (Im (Au q))) (kh b o (Bf (Au q)) (kI b o (kg b o q)));simpa using this
 have gI:(g.push oI).get? (s.heap.objs.size+1)=some oI:=by grind
 refine Aa (Ca (hint _ _ _ _ (hT (g.push oI) fun b o q=>kI b o (kg b o q)) ?_));have last:∀(h:Heap) (c:Nat),(∀b o,b≠s.heap.objs.size->(g.push oI).get? b=some o->h.get? b=some o)->h.get? s.heap.objs.size=some { cls:=.type "list",data:=.seq ([]:List Value).toArray c }->h.get? (s.heap.objs.size+1)=some oI->∀{R:Result->Shared->Prop},
   (∀s' acc c',s'.heap.get? s.heap.objs.size=some { cls:=.type "list",data:=.seq acc c' }->Q acc.toList s'->R (.ok (.ret (.ref s.heap.objs.size))) s')->Ew (model prog w) A (.builtin "list.extend.loop" ⟨[.ref s.heap.objs.size,.ref (s.heap.objs.size+1),.ref s.heap.objs.size],[]⟩) R { s with heap:=h }:=by
  intro h c kh hh hi R hR;refine Hj (put h c kh hh hi) fun r s' z=>?_;obtain⟨acc,c',rfl,e,q⟩:=z;exact hR s' acc c' e q
 refine wpAny_ite_split (fun _=>?_) (fun _=>?_)
 ·refine Aa (Fk (Aa ?_));show wpAny _ _ (Lq s.heap.objs.size (·.push .none) >>= fun _=>Lq s.heap.objs.size (·.pop)) _ _ _;refine Aa (Fb hS₁ rfl ?_);have hS₂:=Dz hS₁ (fun x=>x.push Value.none);refine Fb hS₂ rfl ?_;have hS₃:=Dz hS₂ (fun x=>x.pop);have oth:∀b o,b≠s.heap.objs.size->(g.push oI).get? b=some o->(((g.push oI).update s.heap.objs.size (Cw fun x=>x.push Value.none)).update s.heap.objs.size (Cw fun x=>x.pop)).get? b=some o :=
   fun b o hb q=>(Ce _ _ (Er hb)).trans ((Ce _ _ (Er hb)).trans q)
  refine Ad ⟨Db Fg _,last _ _ oth hS₃ (oth _ _ (Et (Gf _)) gI) fun s' acc c' e q=>?_⟩;exact Aa (Ua e (Ad q))
 ·refine Ad ⟨Db Fg _,last _ _ (fun b o _ q=>q) hS₁ gI fun s' acc c' e q=>?_⟩;exact Aa (Ua e (Ad q))
end
end PySem.Rv
namespace L2
open PySem PySem.Spec PyProof.Rows SB TX
def kP(p:Pth):List Key:=p.map fun n=>Sum.inr (mk n)
abbrev vP(p:Pth):List V:=p.map fun n=>V.str (mk n)
theorem q1x(p:Pth):(kP p).map kV=vP p:=by unfold kP;rw[Ap];rfl
abbrev HRow:=Pth×V
abbrev dR(rows:List HRow):HO:=.dT (rows.map fun r=>(kP r.1,r.2))
theorem z0t:∀{p:Pth} {us:List Value},Vals (vP p) us->StrsAre us (p.map mk)
 |[],_,.nil=>.nil
 |n::p,us,h=>by
  cases h with
  |cons r t =>
   obtain⟨k,rfl⟩:=r;exact .cons _ k (z0t t)
section
variable{X:Cx}{pins:List (Addr×Obj)}{σ:St}{H:Hp}{s:Shared}
theorem Inv.path(I:Inv X pins σ H s)(h:H b=some (.tup (vP p))):PathAt s.heap (.ref b) p:=by
 obtain⟨z,its,r,t⟩:=I.hok b _ h;exact⟨b,its.toArray,rfl,t,by simpa using z0t r⟩
theorem Inv.rows(I:Inv X pins σ H s){rows:List HRow}(hd:H d=some (dR rows)):(d==Cm)=false/\rows.length<=sizeLine/\∃ob es ep,s.heap.get? d=some ob/\ob.ExactDict/\ob.data=.dict es ep/\(rows.map (·.1)).Nodup /\
  ∃zs:List (Addr×Value×HRow),zs.map (·.2.2)=rows/\es.toList.map (fun e=>(e.key,e.val))=zs.map (fun z=>(Value.ref z.1,z.2.1))/\∀z∈zs,H z.1=some (.tup (vP z.2.2.1))/\RelV z.2.2.2 z.2.1:=by
 obtain⟨z,hsys,xs,hp,ob,es,ep,ho,hex,hob,h4,h5⟩:=(show ObjOk X.prog X.w H s.heap d (dR rows) from I.hok d _ hd)
 rw[Ab] at z;have go:∀(rows:List HRow) (xs:List (List Key×Addr×Value)),Paired (fun(p:List Key×V) (q:List Key×Addr×Value)=>p.1=q.1/\H q.2.1=some (.tup (p.1.map kV))/\RelV p.2 q.2.2) (rows.map fun r=>(kP r.1,r.2)) xs ->
   xs.map (·.1)=rows.map (fun r=>kP r.1)/\∃zs:List (Addr×Value×HRow),zs.map (·.2.2)=rows/\(xs.map (Iz (He (mixKind X.prog X.w)))).map (fun e=>(e.key,e.val))=zs.map (fun z=>(Value.ref z.1,z.2.1))/\∀z∈zs,H z.1=some (.tup (vP z.2.2.1))/\RelV z.2.2.2 z.2.1:=by
  intro rows;induction rows with
  |nil=>intro xs h;cases h;exact⟨rfl,[],rfl,rfl,fun _ h=>nomatch h⟩
  |cons r rows ih =>
   intro xs h;cases h with
   |cons hq t =>
    rename_i q ys;obtain⟨e1,e2,e3⟩:=hq;obtain⟨i0,zs,i1,i2,i3⟩:=ih ys t;refine⟨by rw[Aw,Aw,i0,<- e1],(q.2.1,q.2.2,r)::zs,by rw[Aw,i1],by rw[Aw,Aw,Aw,i2];rfl,fun z hz=>?_⟩;rcases Ay.mp hz with rfl|hz
    ·exact⟨by rw[<- q1x];exact e2,e3⟩
    ·exact i3 z hz
 obtain⟨g0,zs,g1,g2,g3⟩:=go rows xs hp;refine⟨hsys,z,ob,es,ep,ho,hex,hob,?_,zs,g1,by rw[h4];exact g2,g3⟩;rw[g0] at h5;have e:rows.map (fun r=>kP r.1)=(rows.map (·.1)).map kP:=by simp_all
 rw[e] at h5;exact(Ny.mp h5).imp fun hne z=>hne (by rw[z])
end
abbrev PTs(H:Hp):List Addr->List Pth->Prop:=Paired fun b p=>H b=some (.tup (vP p))
def rSortD:List V->Hp->VK->Prop:=fun vs H Q=>∃d rows,vs=[.ref d]/\H d=some (dR rows)/\rows.length<64/\(∀r∈rows,r.1≠[]) /\
 ∀L bs ps,H L=none->ps.Perm (rows.map (·.1))->ps.Pairwise (fun a b=>pLt b a=false)->PTs H bs ps->Q (.ref L) (upd H L (.lst (bs.map V.ref)))
theorem q6u:∀(bs:List Addr),Vals (bs.map V.ref) (bs.map Value.ref)
 |[]=>.nil
 |b::bs=>.cons rfl (q6u bs)
theorem x1g{H:Hp}{α:Type}{f:α->Addr}{g:α->Pth}:∀{zs:List α},(∀z∈zs,H (f z)=some (.tup (vP (g z))))->PTs H (zs.map f) (zs.map g)
 |[],_=>.nil
 |z::zs,h=>.cons (h z At) (x1g fun y hy=>h y (An _ hy))
theorem q4b(hr:Room k X.A):CallR X (.builtin "sorted") rSortD:=by
 intro pins s σ H xs us Q I rv h;obtain⟨d,rows,rfl,hd,few,hne,q⟩:=h;obtain⟨u,rfl,ru⟩:=rv.one;cases ru;obtain⟨hsys,hz,ob,es,ep,ho,hex,hob,nd,zs,z1,z2,z3⟩:=I.rows hd;have hlen:es.size=rows.length:=by
  have:=congrArg List.length z2;rw[Ab,Ab,Fe] at this;rw[this,<- z1,Ab]
 have hkeys:∀{i:Nat} (hi:i<es.size),∃z∈zs,zs[i]?=some z/\es[i].key=.ref z.1:=fun{i} hi=>by
  have e:=congrArg (fun l=>l[i]?) z2;simp only[Ae,Iq,Em hi,Jo] at e;cases hzi:zs[i]? with
  |none=>simp_all
  |some z =>
   rw[hzi] at e;injection e with e;injection e with e1 e2;exact⟨z,Ag hzi,rfl,e1⟩
 have hdL:=Au ho;refine SB.sorted_ok fun{Q'} kk=>?_;refine PySem.Rv.collect_runs (n:=es.size) (Fc:=fun acc _=>acc=(zs.take acc.length).map fun z=>Value.ref z.1)
  (It:=fun i h=>h.IsKeyIter (s.heap.objs.size+1) d i es.size ep/\h.get? d=some ob) (fun h kh=>⟨ob,kh _ _ ho,hex.1⟩) hdL (by decide) (by decide) (fun A E s' Q hT hq=>W.kdl_hint_dict hT hq)
  (fun A E h Q kh hq=>PySem.Rv.keys_iter hsys ⟨ob,kh _ _ ho,hex.1⟩ (kh _ _ ho) hob hq) (fun h=>Ar _ rfl) ⟨fun acc h h' f _=>f,fun i h h' ⟨f1,f2⟩ kp=>⟨f1.at fun o e=>kp _ _ (Et (Gf _)) e,kp _ _ (Bf hdL) f2⟩,?_,?_⟩ (by lia)
  (fun h kh ki=>⟨rfl,⟨_,ki,rfl,rfl⟩,kh _ _ ho⟩) (fun acc h el f hz2 kh=>?_)
 ·intro acc s' Q E hl f ⟨i1,i2⟩ hq;refine PySem.Rv.keys_item i1 i2 hob hl fun h' j1 sb=>?_;obtain⟨z,hzm,hzi,hzk⟩:=hkeys hl;rw[hzk];refine hq _ h' ?_ ⟨j1,(sb.2 d (Bf (Im hdL))).trans i2⟩ fun b o hb e=>(sb.2 b hb).trans e;rw[Al,Dx,Mz,hzi,Af,<- f];rfl
 ·intro s' Q E ⟨i1,i2⟩ hq;exact PySem.Rv.keys_end hr.hd i1 i2 hob (Aq _) fun h' eb=>hq h' fun b o hb e=>eb b o hb e
 ·have hzl:zs.length=es.size:=by rw[hlen,<- z1,Ab]
  have ea:acc=zs.map fun z=>Value.ref z.1:=by grind
  have hpa:∀v∈acc,∃p∈rows.map (·.1),p≠[]/\PathAt h v p:=fun v hv=>by
   rw[ea] at hv;obtain⟨z,hzm,rfl⟩:=Ac.mp hv;have hm:z.2.2∈rows:=by grind
   exact⟨z.2.2.1,Ac.mpr ⟨_,hm,rfl⟩,hne _ hm,(I.path (z3 z hzm).1).keep kh⟩
  refine kk acc h s.toks _ _ _ (SB.ready_paths (by lia) hpa) fun h' out so kh' ⟨e,he⟩=>?_;have pm:=so.perm;rw[ea] at pm;obtain⟨zs',p1,p2⟩:=SB.perm_map_inv pm rfl;have hrise:=so.rise;rw[p2] at hrise;have hps:=SB.rise_paths (fun _ _ _ a b=>a.inj b) (fun z hz=>by
   have hzm:=p1.mem_iff.mp hz;have hm:z.2.2∈rows:=by grind
   exact⟨(I.path (z3 z hzm).1).keep kh,Ac.mpr ⟨_,hm,rfl⟩⟩) hrise
  have keep:=fun b o z=>kh' b o (kh b o z);have hfr:=I.hok.fresh hz2;have eo:out.toList=(zs'.map (·.1)).map Value.ref:=by rw[p2,Ap];rfl
  have el2:(zs'.map (·.1)).length=es.size:=by rw[Ab,p1.length_eq,hzl]
  refine⟨.ref h.objs.size,upd H h.objs.size (.lst ((zs'.map (·.1)).map V.ref)),I.laid (t':=s.toks) keep hz2 ⟨by rw[Ab,el2];lia,_,e,q6u _,?_⟩,rfl,?_⟩
  ·rw[he,<- eo]
  ·refine q _ (zs'.map (·.1)) (zs'.map fun z=>z.2.2.1) hfr ?_ hps (x1g fun z hz=>(z3 z (p1.mem_iff.mp hz)).1);have:=p1.map fun z:Addr×Value×HRow=>z.2.2.1;have e3:zs.map (fun z=>z.2.2.1)=rows.map (·.1):=by rw[<- z1,Ap];rfl
   rwa [e3] at this
def vwO(v d:Addr):HO:=.ext fun h=>h.IsItemsView v d
def rItems:V->List V->Hp->VK->Prop:=fun x vs H Q=>∃d rows,x=.ref d/\vs=[]/\H d=some (dR rows)/\∀v,H v=none->Q (.ref v) (upd H v (vwO v d))
theorem z9s:MtR X "dict.items" rItems:=by
 intro pins s σ H x vs v us Q I rx rv h;obtain⟨d,rows,rfl,rfl,hd,q⟩:=h;cases rx;have hus:=rv.zero;subst hus;obtain⟨hsys,hz,ob,es,ep,ho,hex,hob,_⟩:=I.rows hd;refine Bo F.slot_dict_items ⟨ob,ho,hex.1⟩ F.entry_dict_items ?_ (F.args_dict_items_1 _);refine Aa ?_;unfold Rs;refine Aa (Fn ⟨ob,ho,hex.1⟩ ?_);show wpAny _ _ (pure d) _ _ s;refine Ad ?_;unfold Gs;rw[if_neg (by rw[hsys];exact Bd)];refine Aa (Ad (Aa (Br (Ad ⟨_,rfl,.ref s.heap.objs.size,_,I.laid (t':=s.toks) (fun b u e=>Ah _ e) (Aq _) ?_,rfl,q _ I.fresh⟩))));exact⟨⟨_,Ar _ rfl,rfl,rfl⟩,⟨_,Ar _ rfl⟩,fun h1 h2 ⟨o,e,c,dd⟩ k=>⟨o,k o e,c,dd⟩⟩
def PR(H:Hp)(a:Addr)(r:HRow):Prop:=∃b,H a=some (.tup [.ref b,r.2])/\H b=some (.tup (vP r.1))
abbrev PRs(H:Hp):List Addr->List HRow->Prop:=Paired (PR H)
def rSortV:List V->Hp->VK->Prop:=fun vs H Q=>∃v d rows,vs=[.ref v]/\H v=some (vwO v d)/\H d=some (dR rows)/\rows.length<64/\(∀r∈rows,Low r.1) /\
 ∀L as rs H',H L=none->rs.Perm rows->(rs.map (·.1)).Pairwise (fun a b=>pLt b a=false)->Same H H'->H' L=some (.lst (as.map V.ref))->PRs H' as rs->Q (.ref L) H'
theorem Inv.tracks{σ:St}:∀{zs:List (Addr×List V)} {H:Hp},Inv X pins σ H s->X.s₀.heap.objs.size<=n->(zs.map (·.1)).Nodup ->
  (∀z∈zs,n<=z.1/\FpOk X pins H z.1/\z.2.length<=sizeLine/\∃its,Vals z.2 its/\IsTup s.heap z.1 its.toArray)->∃H',Inv X pins σ H' s/\Same H H'/\(∀z∈zs,H' z.1=some (.tup z.2))/\∀b,(∀z∈zs,z.1≠b)->H' b=H b:=by
 intro zs;induction zs with
 |nil=>intro H I _ _ _;exact⟨H,I,Same.refl H,(fun _ h=>nomatch h),fun _ _=>rfl⟩
 |cons z zs ih =>
  intro H I hn nd hz;obtain⟨h1,h2,h3,its,h4,h5⟩:=hz z At;rw[Aw,Bp] at nd;have I2:=I.track (o:=.tup z.2) (Bz hn h1) h2 ⟨h3,its,h4,h5⟩;obtain⟨H',J,sm,ht,ho⟩:=ih I2 hn nd.2 (fun y hy=>by
   obtain⟨g1,g2,g3,g4⟩:=hz y (An _ hy);exact⟨g1,⟨by rw[q0c (fun e=>nd.1 (by rw[<- e];exact Ac.mpr ⟨y,hy,rfl⟩))];exact g2.1,g2.2⟩,g3,g4⟩)
  refine⟨H',J,((Same.refl H).new h2.1).trans sm,fun y hy=>?_,fun b hb'=>?_⟩
  ·rcases Ay.mp hy with rfl|hy
   ·exact sm _ _ q0b
   ·exact ht y hy
  ·rw[ho b fun y hy=>hb' y (An _ hy),q0c (Er (hb' z At))]
theorem q0t{α β:Type}{f:α->β}:∀{l:List α},(l.map f).Nodup->∀{x y:α},x∈l->y∈l->f x=f y->x=y
 |[],_,_,_,h,_,_=>nomatch h
 |a::l,nd,x,y,hx,hy,e=>by
  rw[Aw,Bp] at nd;rcases Ay.mp hx with ex|hx1
  ·rcases Ay.mp hy with ey|hy1
   ·rw[ex,ey]
   ·exact absurd (by rw[<- ex,e];exact Ac.mpr ⟨y,hy1,rfl⟩) nd.1
  ·rcases Ay.mp hy with ey|hy1
   ·exact absurd (by rw[<- ey,<- e];exact Ac.mpr ⟨x,hx1,rfl⟩) nd.1
   ·exact q0t nd.2 hx1 hy1 e
abbrev Zt:=Addr×Value×HRow
structure Made (h:Heap) (lo:Nat) (ws:List (Addr×Zt)):Prop where
 rise:(ws.map (·.1)).Pairwise fun a b:Nat=>a<b
 low:∀x∈ws,lo<=(show Nat from x.1)
 at_:∀x∈ws,IsTup h x.1 #[.ref x.2.1,x.2.2.1]
theorem Made.keep{lo:Nat}(m:Made h lo ws)(k:∀(a:Nat) o,lo<=a->h.get? a=some o->h'.get? a=some o):Made h' lo ws :=
 ⟨m.rise,m.low,fun x hx=>SB.IsTup.keep (m.at_ x hx) fun o e=>k _ o (m.low x hx) e⟩
theorem z6z{H:Hp}{α:Type}{f:α->Addr}{g:α->HRow}:∀{zs:List α},(∀z∈zs,PR H (f z) (g z))->PRs H (zs.map f) (zs.map g)
 |[],_=>.nil
 |z::zs,h=>.cons (h z At) (z6z fun y hy=>h y (An _ hy))
theorem z4n(hr:Room k X.A):CallR X (.builtin "sorted") rSortV:=by
 intro pins s σ H xs us Q I rv h;obtain⟨v,d,rows,rfl,hv,hd,few,hlow,q⟩:=h;obtain⟨u,rfl,ru⟩:=rv.one;cases ru;obtain⟨hsys,hz,ob,es,ep,ho,hex,hob,nd,zs,z1,z2,z3⟩:=I.rows hd;obtain⟨vo,vho,vc,vd⟩:s.heap.IsItemsView v d:=(I.hok v _ hv).1;have hlen:es.size=rows.length:=by
  have:=congrArg List.length z2;rw[Ab,Ab,Fe] at this;rw[this,<- z1,Ab]
 have hkeys:∀{i:Nat} (hi:i<es.size),∃z∈zs,zs[i]?=some z/\es[i].key=.ref z.1/\es[i].val=z.2.1:=fun{i} hi=>by
  have e:=congrArg (fun l=>l[i]?) z2;simp only[Ae,Iq,Em hi,Jo] at e;cases hzi:zs[i]? with
  |none=>simp_all
  |some z =>
   rw[hzi] at e;injection e with e;injection e with e1 e2;exact⟨z,Ag hzi,rfl,e1,e2⟩
 have hzl:zs.length=es.size:=by grind
 have hdL:=Au ho;have hu:=hr.un;refine SB.sorted_ok fun{Q'} kk=>?_;refine PySem.Rv.collect_runs (n:=es.size) (oI:=PySem.Rv.itemObj d 0 es.size ep .none (.bool false) .none .none) (Fc:=fun acc h=>∃ws,acc=ws.map (fun x=>Value.ref x.1)/\ws.map (·.2)=zs.take acc.length/\Made h (s.heap.objs.size+2) ws)
  (It:=fun i h=>PySem.Rv.ItemIt h (s.heap.objs.size+1) d i es.size ep/\h.get? d=some ob) (fun h kh=>⟨vo,kh _ _ vho,vc⟩) (Au vho) (by decide) (by decide) (fun A E s' Q hT hq=>W.kdx_hint hT hq)
  (fun A E h Q kh hq=>PySem.Rv.items_iter ⟨vo,kh _ _ vho,vc,vd⟩ (kh _ _ ho) hob hq) (fun h=>Ar _ rfl) ⟨?_,fun i h h' ⟨f1,f2⟩ kp=>⟨f1.keep fun o e=>kp _ _ (Et (Gf _)) e,kp _ _ (Bf hdL) f2⟩,?_,?_⟩ (by lia)
  (fun h kh ki=>⟨⟨[],rfl,rfl,.nil,(fun _ z=>nomatch z),(fun _ z=>nomatch z)⟩,⟨_,_,_,_,ki,.inl rfl⟩,kh _ _ ho⟩) (fun acc h el f hz2 kh=>?_)
 ·rintro acc h h' ⟨ws,e1,e2,m⟩ kp;refine⟨ws,e1,e2,m.keep fun a o ha e=>kp a o (fun z=>?_) (fun z=>?_) e⟩
  ·rw[z] at ha;exact absurd ha (by lia)
  ·grind
 ·rintro acc s' Q E hl ⟨ws,e1,e2,m⟩ ⟨i1,i2⟩ hq;refine PySem.Rv.items_item i1 i2 hob hl fun h' j1 j2 j3 j4=>?_;obtain⟨z,hzm,hzi,hzk,hzv⟩:=hkeys hl;have lo:=i1.lt;have ni:∀{a:Nat},s.heap.objs.size+2<=a->a≠s.heap.objs.size+1:=fun h=>by lia
  refine hq _ h' ⟨ws++[(s'.heap.objs.size,z)],by rw[e1,Af];rfl,?_,?_⟩ ⟨j1,j4 d ob (Bf (Im hdL)) i2⟩ j4
  ·rw[Af,e2,Al,Dx,Mz,hzi];rfl
  ·have m':=m.keep (h':=h') fun a o ha e=>j4 a o (ni ha) e;refine⟨?_,fun x hx=>?_,fun x hx=>?_⟩
   ·rw[Af];refine List.pairwise_append.mpr ⟨m.rise,Pi _ _,fun a ha b hb=>?_⟩;obtain⟨x,hx,rfl⟩:=Ac.mp ha;have hb':b=s'.heap.objs.size:=by simpa using hb
    rw[hb'];obtain⟨o,eo,_⟩:=m.at_ x hx;exact Au eo
   ·rcases Am.mp hx with hx|hx
    ·exact m.low x hx
    ·rw[Ai.mp hx];exact lo
   ·rcases Am.mp hx with hx|hx
    ·exact m'.at_ x hx
    ·rw[Ai.mp hx];refine⟨_,j2,rfl,0,?_⟩;rw[hzk,hzv]
 ·rintro s' Q E ⟨i1,i2⟩ hq;exact PySem.Rv.items_end hr.hd i1 i2 hob (Aq _) fun h' eb=>hq h' fun b o hb e=>eb b o hb e
 ·obtain⟨ws,e1,e2,m⟩:=f;rw[el,<- hzl,Bb] at e2;have hwz:∀{x:Addr×Zt},x∈ws->x.2∈zs:=fun{x} hx=>by rw[<- e2];exact Ac.mpr ⟨x,hx,rfl⟩
  have hrow:∀{x:Addr×Zt},x∈ws->x.2.2.2∈rows:=fun{x} hx=>by rw[<- z1];exact Ac.mpr ⟨_,hwz hx,rfl⟩
  have hpa:∀{x:Addr×Zt},x∈ws->PairAt h (.ref x.1) x.2.2.2.1 x.2.2.1:=fun{x} hx=>⟨x.1,.ref x.2.1,rfl,m.at_ x hx,(I.path (z3 _ (hwz hx)).1).keep kh⟩
  have hnd:(ws.map fun x=>x.2.2.2.1).Nodup:=by grind
  have hacc:∀{w:Value},w∈acc->∃x∈ws,w=.ref x.1:=fun{w} hw=>by
   rw[e1] at hw;obtain⟨x,hx,rfl⟩:=Ac.mp hw;exact⟨x,hx,rfl⟩
  refine kk acc h s.toks _ _ _ (SB.ready_pairs (ps:=rows.map (·.1)) (by lia) (fun w hw=>?_) (fun w hw y hy p mm mm' hp1 hp2=>?_) (by lia)) fun h' out so kh' ⟨e,he⟩=>?_
  ·grind
  ·obtain⟨x,hx,rfl⟩:=hacc hw;obtain⟨x2,hx2,rfl⟩:=hacc hy;have q1:=SB.PairAt.inj hp1 (hpa hx);have q2:=SB.PairAt.inj hp2 (hpa hx2);rw[q0t hnd hx hx2 (q1.symm.trans q2)]
  ·have pm:=so.perm;rw[e1] at pm;obtain⟨ws',p1,p2⟩:=SB.perm_map_inv pm rfl;have hrise:=so.rise;rw[p2] at hrise;have hps:=SB.rise_paths (fun w a b ⟨_,x⟩ ⟨_,y⟩=>SB.PairAt.inj x y) (fun x hx=>by
    have hxm:=p1.mem_iff.mp hx;exact⟨⟨_,hpa hxm⟩,Ac.mpr ⟨_,hrow hxm,rfl⟩⟩) hrise
   have keep:=fun b o z=>kh' b o (kh b o z);have I1:=I.kept (t':=s.toks) keep;have hlo:=fun{x} hx=>Bz (Nat.le_add_right _ 2) (m.low x (p1.mem_iff.mp hx));have ndA:(ws'.map (·.1)).Nodup:=by
    have:(ws.map (·.1)).Nodup:=m.rise.imp fun h e=>by subst e;exact absurd h (Eu _)
    exact(p1.map (·.1)).nodup_iff.mpr this
   obtain⟨H1,J,sm,ht,hot⟩:=I1.tracks (zs:=ws'.map fun x=>(x.1,[V.ref x.2.1,x.2.2.2.2])) I.sz (by rw[Ap];exact ndA) (fun z hz=>by
    obtain⟨x,hx,rfl⟩:=Ac.mp hz;refine⟨hlo hx,I.fpOk (hlo hx) (I.hok.fresh (hlo hx)),by show 2<=sizeLine;decide,[.ref x.2.1,x.2.2.1],.cons rfl (.cons (z3 _ (hwz (p1.mem_iff.mp hx))).2 .nil),?_⟩;exact SB.IsTup.keep (m.at_ x (p1.mem_iff.mp hx)) fun o e=>kh' _ o e)
   have hL1:H1 h.objs.size=none:=by
    rw[hot _ fun z hz e=>?_]
    ·exact I.hok.fresh hz2
    ·obtain⟨x,hx,rfl⟩:=Ac.mp hz;obtain⟨o,eo,_⟩:=m.at_ x (p1.mem_iff.mp hx);exact absurd (Au eo) (by rw[show x.1=h.objs.size from e];exact Eu _)
   have el2:(ws'.map (·.1)).length=es.size:=by rw[Ab,p1.length_eq,<- hzl,<- e2,Ab]
   have eo:out.toList=(ws'.map (·.1)).map Value.ref:=by rw[p2,Ap];rfl
   have J2:=J.track (o:=.lst ((ws'.map (·.1)).map V.ref)) (Bz I.sz hz2) (I.fpOk hz2 hL1) ⟨by rw[Ab,el2];lia,_,e,q6u _,by rw[<- eo];exact he⟩;have sm2:Same H (upd H1 h.objs.size (.lst ((ws'.map (·.1)).map V.ref))):=sm.trans ((Same.refl H1).new hL1);refine⟨.ref h.objs.size,_,J2,rfl,q _ (ws'.map (·.1)) (ws'.map fun x=>x.2.2.2) _ (I.hok.fresh hz2) ?_ (by rw[Ap];exact hps) sm2 q0b (z6z fun x hx=>?_)⟩
   ·have e3:ws.map (fun x=>x.2.2.2)=rows:=by rw[<- z1,<- e2,Ap];rfl
    rw[<- e3];exact p1.map _
   ·refine⟨x.2.1,?_,sm2 _ _ (z3 _ (hwz (p1.mem_iff.mp hx))).1⟩;exact(Same.refl H1).new hL1 _ _ (ht _ (Ac.mpr ⟨x,hx,rfl⟩))
open PySem PySem.Spec PyProof.Rows
theorem d_set{σ:St}(hu:A.units+1<cLine)(I:Inv X pins σ H s)(e:H a=some (.dT kvs))(eb:H b=some (.tup (k.map kV)))(l:kvs.length<sizeLine)(rv:RelV v r)(h:∀s',Inv X pins σ (upd H a (.dT (putK kvs k v))) s'->(∀b o,b≠a->s.heap.get? b=some o->s'.heap.get? b=some o)->Q () s'):wpAny (model X.prog X.w) A (dictSet a (.ref b) r) Q E s:=by
 obtain⟨z,hd,xs,rel,dd⟩:=x2l I.hok e;have hz:xs.length<=sizeLine:=by rw[<- Dv rel];exact z
 have hl:(putK kvs k v).length<=sizeLine:=by have:=q2n kvs k v;lia
 refine wpAny_dictSet_heap (show(He (mixKind X.prog X.w)).room A from Nat.lt_of_succ_lt hu) (q4t I.hok eb) dd fun h' dd' hs=>h _ ?_ fun b o hb e=>(hs.2 b hb).trans e;obtain⟨q,es,ep,hq,h2,h3,h4,_,h5⟩:=dd';refine z1y I (by rw[e];exact True.intro) hs ⟨q,hq⟩ ⟨hl,hd,_,(rel.put k eb rv).keeps fun c ys ec=>?_,q,es,ep,hq,h2,h3,h4,h5⟩;rw[q0c (z5e ec e (fun z=>nomatch z))];exact ec
def CompWD(J:It)(g:TG)(tt:TT)(tk tv:TE)(σ0:St)(D:Addr)(Fin:List (List Key×V)->Hp->Prop)(H1:Hp):Prop :=
 ∃W:Nat->Nat->List (List Key×V)->Hp->Prop,(∃m,W 0 m [] (upd H1 D (.dT [])))/\∀i m ys H,W i m ys H->H D=some (.dT ys) /\
  ((J.stop i H/\Fin ys H)\/(J.go i H/\∃N:List (List Key×V)->Hp->Prop,(∀zs H',N zs H'->∃m',m'<m/\W (i+1) m' zs H')/\∀x H',J.yld i H x H'->g x σ0 H' fun σ2 H2=>Keeps0 σ0 σ2/\tt σ2 H2 fun b H3 =>
   if b=true then tk σ2 H3 fun y H4=>tv σ2 H4 fun v H5=>∃k c,y=.ref c/\H5 c=some (.tup (k.map kV))/\H5 D=some (.dT ys)/\ys.length<sizeLine/\N (putK ys k v) (upd H5 D (.dT (putK ys k v)))
   else N ys H3))
theorem z0u{σ:St}{Fin:Addr->List (List Key×V)->Hp->Prop}{RR:Value->Addr->Result->Shared->Prop}(hc:X.calm=true)(hkind:scope.kind=.function)(hnc:∀y∈scope.names,y.2≠.cell)(hc1:∀x c,cl.lookup x=some c->X.env.cells.lookup x=some c)(hc2:∀x,(x,NameKind.free)∈scope.names->∃c,cl.lookup x=some c)(co:CapOk X scope caps)(hg:∀C s H,PG (cxComp X (tg++caps.map (·.1)) scope cl C fp s H) target g)(ht:∀C s H,PIfs (cxComp X (tg++caps.map (·.1)) scope cl C fp s H) ifs tt)(he:∀C s H,PE (cxComp X (tg++caps.map (·.1)) scope cl C fp s H) kx tk)(hv:∀C s H,PE (cxComp X (tg++caps.map (·.1)) scope cl C fp s H) vx tv)(hu:X.A.units+1<cLine)(I2:Inv X pins σ H1 s₂)(T:Turn X.prog X.w X.K target J fp it tn)(st:tn 0 s₂.heap)(hf:∀b∈fp,FpOk X pins H1 b)(hw:∀D,H1 D=none->CompWD J g tt tk tv (tg0 tg σ caps) D (Fin D) H1)(hRR:∀D C ys H' s',H1 D=none->Inv X pins σ H' s'->(∃m,s'.heap.Ns C m)->FpOk X pins H' C->Fin D ys H'->RR (.ref D) C (.ok .next) s'):
  wpAny (model X.prog X.w) X.A newDict (fun acc s₃=>wpAny (model X.prog X.w) X.A (newFunctionEnv scope X.env.globals cl [] X.env.qual none .none (some X.env)) (fun cenv s₄ =>
   Ew (model X.prog X.w) X.A (.compStart (.DictComp kx vx [⟨target,iter,ifs,0⟩] scope pos) 0 (.ref it) acc { cenv with scope:=relabel scope X.env }) (RR acc cenv.locals) s₄) E s₃) E s₂:=by
 have I3:Inv X pins σ (upd H1 s₂.heap.objs.size (.dT [])) { s₂ with heap:=s₂.heap.push { cls:=.type "dict",dict:=none,data:=.dict #[] },toks:=s₂.toks }:=I2.laid (fun _ _ q=>Ah _ q) (Aq _) (q9a s₂.heap I2.big);have hD0:=I2.fresh;refine Br (Rc hnc (by intro y hy;simp at hy) (fun h₁ hns₁ hsb₁=>?_) hkind);dsimp only at hns₁ hsb₁ ⊢;generalize hDd:s₂.heap.objs.size=D at I3 hD0 hns₁ hsb₁ ⊢;generalize hs3:({ s₂ with heap:=s₂.heap.push { cls:=.type "dict",dict:=none,data:=.dict #[] } }:Shared)=s₃ at I3 hns₁ hsb₁ ⊢;have e3:s₂.heap.push { cls:=.type "dict",dict:=none,data:=.dict #[] }=s₃.heap:=by grind
 have o3:({ s₂ with heap:=h₁,toks:=s₂.toks+([]:List (Str×Value)).length }:Shared)={ s₃ with heap:=h₁,toks:=s₂.toks }:=by grind
 have size3:s₃.heap.objs.size=D+1:=by rw[<- e3,Ex,hDd]
 rw[e3] at hns₁ hsb₁ ⊢;have old3:∀b o,s₂.heap.get? b=some o->s₃.heap.get? b=some o:=fun b o e=>by rw[<- e3];exact Ah _ e
 generalize hCd:s₃.heap.objs.size=C at hns₁ hsb₁ ⊢;have hk:=fun b o e=>hsb₁.extBut b o (by rw[<- hCd];exact Bf (Au e)) (Ah _ e);have fpo:∀b∈fp,∃o,s₂.heap.get? b=some o:=fun b hb=>by obtain⟨o,e,_⟩:=T.obj 0 _ st b hb;exact⟨o,e⟩
 have fpne:∀b∈fp,b≠D:=fun b hb=>by obtain⟨o,e⟩:=fpo b hb;rw[<- hDd];exact Bf (Au e)
 have hf3:∀b∈fp,FpOk X pins (upd H1 D (.dT [])) b:=fun b hb=>⟨by rw[q0c (fpne b hb)];exact(hf b hb).1,(hf b hb).2⟩
 have IY:=Inv.ofcomp (tk:=s₂.toks) tg I3 hkind hnc hc1 hc2 hf3 (fun b hb=>let ⟨o,e⟩:=fpo b hb;⟨o,old3 b o e⟩) (Jw hCd) hns₁ hk co;have FC:FpOk X pins H1 C:=by
  have z:=I3.fpOk (H':=H1) (Jw hCd) (I2.hok.fresh (by rw[hDd,<- hCd,size3];exact Ig _));exact z
 generalize hY:cxComp X (tg++caps.map (·.1)) scope cl C fp s₃ (upd H1 D (.dT []))=Y at IY;have hgY:PG Y target g:=by grind
 have htY:PIfs Y ifs tt:=by grind
 have heY:PE Y kx tk:=by grind
 have hvY:PE Y vx tv:=by grind
 have hYp:Y.prog=X.prog:=by rw[<- hY];rfl
 have hYw:Y.w=X.w:=by rw[<- hY];rfl
 have hYK:Y.K=X.K:=by rw[<- hY];rfl
 have hYA:Y.A=X.A:=by rw[<- hY];rfl
 have hYe:Y.env=Fv scope cl C X.env:=by rw[<- hY];rfl
 have hYx:Y.ex=fp:=by rw[<- hY];rfl
 have hYn:Y.pn=[]:=by rw[<- hY];rfl
 have hYc:Y.calm=true:=by rw[<- hY];exact hc
 have hYxe:Y.xe=fun _ _=>False:=by rw[<- hY];rfl
 have fpY:∀{H':Hp},(∀b∈fp,H' b=none)->∀b∈fp,FpOk Y [] H' b:=fun{H'} hn b hb=>by
  refine⟨hn b hb,?_,?_,.inl (by rw[hYx];exact hb),fun x c e=>?_,fun p hp=>?_⟩
  ·have:=(IY.ok.exf b (by rw[hYx];exact hb)).1;exact this
  ·exact IY.ok.exfs b (by rw[hYx];exact hb)
  ·exact(IY.ok.exf b (by rw[hYx];exact hb)).2 x c e
  ·grind
 obtain⟨W,⟨m0,w0⟩,turn⟩:=hw D hD0;have stY:=T.keep 0 _ _ st fun b hb o e=>hk b o (old3 b o e)
 have back:∀{H':Hp} {s':Shared} {σ':St},Inv Y [] σ' H' s'->Inv X pins σ H' s':=fun{H' s' σ'} IE=>by
  have hun:=IE.base;have hos:=IE.os;rw[<- hY] at hun hos;exact I3.call' hos hun (by have z:=IE.hok;rw[hYp,hYw] at z;exact z) IE.bare fun b hb=>⟨(hf b hb).2.2.2.1,(hf b hb).2.1,(hf b hb).2.2.2.2.1,(hf b hb).2.2.2.2.2⟩
 have gY:∀pins s σ H v u Q (E':Value->Shared->Prop),Inv Y pins σ H s->RelV v u->g v σ H Q->wpAny (model X.prog X.w) X.A (assign target (Fv scope cl C X.env) u) (fun _ s'=>∃σ' H',Inv Y pins σ' H' s'/\Q σ' H') E' s:=fun pins s σ H v u Q E' IE r q=>by
  have z:=hgY pins s σ H v u Q IE r q;rw[hYp,hYw,hYA,hYe,hYxe] at z;exact Cq z (fun _ _ x=>x) fun _ _ f=>f.elim
 have tY:∀pins s σ H Q (E':Value->Shared->Prop),Inv Y pins σ H s->tt σ H Q->wpAny (model X.prog X.w) X.A (forIn ifs true fun c r=>if r=true then do let ok<-isTrue c (Fv scope cl C X.env) (eval c (Fv scope cl C X.env));pure (ForInStep.yield ok) else pure (ForInStep.yield r)) (TP Y pins σ Q) E' s:=fun pins s σ H Q E' IE q=>by
  have z:=htY pins s σ H Q IE q;rw[hYp,hYw,hYA,hYe,hYxe] at z;exact Cq z (fun _ _ x=>x) fun _ _ f=>f.elim
 have eY:∀pins s σ H Q (E':Value->Shared->Prop),Inv Y pins σ H s->tk σ H Q->wpAny (model X.prog X.w) X.A (eval kx (Fv scope cl C X.env)) (EP Y pins σ Q) E' s:=fun pins s σ H Q E' IE q=>by
  have z:=heY pins s σ H Q IE q;rw[hYp,hYw,hYA,hYe,hYxe] at z;exact Cq z (fun _ _ x=>x) fun _ _ f=>f.elim
 have vY:∀pins s σ H Q (E':Value->Shared->Prop),Inv Y pins σ H s->tv σ H Q->wpAny (model X.prog X.w) X.A (eval vx (Fv scope cl C X.env)) (EP Y pins σ Q) E' s:=fun pins s σ H Q E' IE q=>by
  have z:=hvY pins s σ H Q IE q;rw[hYp,hYw,hYA,hYe,hYxe] at z;exact Cq z (fun _ _ x=>x) fun _ _ f=>f.elim
 have tiY:∀i pins s σ H (E':Value->Shared->Prop),Inv Y pins σ H s->(∀b∈fp,FpOk Y pins H b)->tn i s.heap->J.go i H ->
   wpAny (model X.prog X.w) X.A (Gb (.ref it)) (fun r s1=>∃u,r=some u /\
    wpAny (model X.prog X.w) X.A (Ly target (.ref it) u) (fun _ s2=>∃x H',Inv Y pins σ H' s2/\RelV x u/\J.yld i H x H'/\tn (i+1) s2.heap/\∀b∈fp,H' b=none) E' s1) E' s:=fun i pins s σ H E' IE hfy st go=>by
  have z:=T.item Y hYp hYw hYK hYc i pins s σ H E' IE hfy st go;rw[hYA] at z;exact z
 have tdY:∀i pins s σ H (E':Value->Shared->Prop),Inv Y pins σ H s->(∀b∈fp,FpOk Y pins H b)->tn i s.heap->J.stop i H ->
   wpAny (model X.prog X.w) X.A (Gb (.ref it)) (fun r s1=>r=none/\Inv Y pins σ H s1) E' s:=fun i pins s σ H E' IE hfy st go=>by
  have z:=T.done Y hYp hYw hYK hYc i pins s σ H E' IE hfy st go;rw[hYA] at z;exact z
 have loop:Ew (model X.prog X.w) X.A (.compLoop (.DictComp kx vx [⟨target,iter,ifs,0⟩] scope pos) 0 (.ref it) (.ref D) (Fv scope cl C X.env)) (RR (.ref D) C) { s₃ with heap:=h₁,toks:=s₂.toks }:=by
  refine codeAny_loop rfl (fun n s'=>∃i ys H',Inv Y [] (tg0 tg σ caps) H' s'/\tn i s'.heap/\(∀b∈fp,H' b=none)/\W i n ys H') ?_ m0 ⟨0,[],_,IY,stY,fun b hb=>(hf3 b hb).1,w0⟩;rintro n s4 ⟨i,ys,H4,I4,st4,fr4,w4⟩;refine wpAny_noted ?_;obtain⟨hHD,alt⟩:=turn i n ys H4 w4;rcases alt with⟨stop,fin⟩|⟨go,N,hN,step⟩
  ·refine Aa (Gw (Aa (thn (tdY i [] s4 _ H4 _ I4 (fpY fr4) st4 stop) fun r s5 ⟨hr,I5⟩=>?_)));subst hr;refine Ad (hRR D C ys H4 s5 hD0 (back I5) ?_ ⟨?_,FC.2⟩ fin)
   ·obtain⟨m,hm,_⟩:=I5.loc;rw[hYe] at hm;exact⟨m,hm⟩
   ·have z:=I5.free;rw[hYe] at z;exact z
  ·refine Aa (Gw (Aa (thn (tiY i [] s4 _ H4 _ I4 (fpY fr4) st4 go) fun r s5 ⟨u,hr,h5⟩=>?_)));subst hr;refine Aa (thn h5 fun _ s6 ⟨x,H6,I6,r6,y6,st6,fr6⟩=>?_);have I6':=I6.pinned (fpY fr6) (T.obj _ _ st6);refine Aa (thn (gY _ s6 _ H6 x u _ _ I6' r6 (step x H6 y6)) fun _ s7 ⟨σ7,H7,I7,kp,q7⟩=>?_);refine Aa (thn (tY _ s7 σ7 H7 _ _ I7 q7) fun b s8 ⟨H8,I8,q8⟩=>?_);have again:∀{H9:Hp} {s9:Shared} {zs:List (List Key×V)} {m':Nat},Inv Y ([]++pinsAt fp s6.heap) σ7 H9 s9->m'<n->W (i+1) m' zs H9->∃m,m<n/\∃i ys H',Inv Y [] (tg0 tg σ caps) H' s9/\tn i s9.heap/\(∀b∈fp,H' b=none)/\W i m ys H':=fun{H9 s9 zs m'} I9 hm w9=>by
    refine⟨m',hm,i+1,zs,H9,I9.unpinned.weak kp.1 kp.2,T.keep _ _ _ st6 fun b hb o e=>(I9.pin (b,o) (Bk _ (Bk _ (q2k hb e)))).1,fun b hb=>?_,w9⟩;obtain⟨o,e,d⟩:=T.obj _ _ st6 b hb;exact(I9.pin (b,o) (Bk _ (Bk _ (q2k hb e)))).2.1
   cases b with
   |true =>
    refine Aa (Aa (thn (eY _ s8 σ7 H8 _ _ I8 q8) fun kv s9 ⟨yy,H9,I9,r9,q9⟩=>?_));refine Aa (Ca (thn (vY _ s9 σ7 H9 _ _ I9 q9) fun vv s10 ⟨v,H10,I10,r10,kk,bb,ey,hbb,hH10,hz10,n10⟩=>?_));subst ey;cases r9;obtain⟨m',hm',w10⟩:=hN _ _ n10;refine Aa (Gw (Ca ?_));have z:=d_set (E:=notedBy (model X.prog X.w) X.A (Fv scope cl C X.env) fun e s'=>RR (.ref D) C (.error e) s') (Q:=fun _ s'=>Inv Y ([]++pinsAt fp s6.heap) σ7 (upd H10 D (.dT (putK ys kk v))) s') hu I10 hH10 hbb hz10 r10 fun s' I' _=>I';rw[hYp,hYw] at z;exact thn z fun _ s11 I11=>Ad ⟨rfl,again I11 hm' w10⟩
   |false =>
    obtain⟨m',hm',w8⟩:=hN _ _ q8;exact Ad ⟨rfl,again I8 hm' w8⟩
 rw[o3];exact codeAny_compStart_dict loop (T.self _ 0 _ _ _ stY loop)
def tCompD(wi:TI)(g:TG)(tt:TT)(tk tv:TE)(tg:List Str)(caps:Caps):TE:=fun σ H Q=>wi σ H fun J H1=>∀D,H1 D=none->CompWD J g tt tk tv (tg0 tg σ caps) D (fun _ H'=>Q (.ref D) H') H1
section
variable{X:Cx}{iter target kx vx:Expr}{ifs:List Expr}{scope:Scope}{pos:Pos}{wi:TI}{g:TG}{tt:TT}{tk tv:TE}
theorem z9t(tg:List Str)(caps:Caps)(hc:X.calm=true)(hi:PI X target iter wi)(hg:∀cl C fp s H,PG (cxComp X (tg++caps.map (·.1)) scope cl C fp s H) target g)(ht:∀cl C fp s H,PIfs (cxComp X (tg++caps.map (·.1)) scope cl C fp s H) ifs tt)(he:∀cl C fp s H,PE (cxComp X (tg++caps.map (·.1)) scope cl C fp s H) kx tk)(hv:∀cl C fp s H,PE (cxComp X (tg++caps.map (·.1)) scope cl C fp s H) vx tv)(hu:X.A.units+1<cLine)(hk:compChk X.N X.env.scope scope caps=true:=by rfl)(hs:∀x,Il iter X.env x=pure x:=by intro _;rfl):
  PE X (.DictComp kx vx [⟨target,iter,ifs,0⟩] scope pos) (tCompD wi g tt tk tv tg caps):=by
 intro pins s σ H Q I h;obtain⟨hkind,hnc,hnames,hfree,co⟩:=q4a hk;obtain⟨cl,hclos,hc1,hc2⟩:=q8y I hfree;refine Hn rfl hs hclos hkind hnames (thn (hi pins s σ H _ I h) fun v s1 h1=>thn h1 fun itv s2 h2=>?_);obtain⟨it,fp,tn,J,H2,e,I2,T,st2,f2,hw⟩:=h2;subst e;refine z0u hc hkind hnc hc1 hc2 co (fun C s H=>hg cl C fp s H) (fun C s H=>ht cl C fp s H) (fun C s H=>he cl C fp s H) (fun C s H=>hv cl C fp s H) hu I2 T st2 f2 hw ?_;intro D C ys H' s' hD I' hm F fin;obtain⟨m,hm⟩:=hm;refine⟨m,hm,fun h' hsb=>⟨.ref D,H',I'.turned (t':=s'.toks) (fun b o hb e=>(hsb.2 b hb).trans e) F.1 F.2.1 F.2.2.2.1 F.2.2.2.2.1 F.2.2.2.2.2,rfl,fin⟩⟩
def tSetDC(wi:TI)(g:TG)(tt:TT)(tk tv:TE)(tg:List Str)(caps:Caps)(i:Nat):TS:=fun D' σ H=>wi σ H fun J H1=>∀D,H1 D=none->CompWD J g tt tk tv (tg0 tg σ caps) D (fun _ H'=>D'.nx (σ.set i (some (.ref D))) H') H1
theorem z9u{i:Nat}{y:Str}{py spos:Pos}(tg:List Str)(caps:Caps)(hN:X.N.Nodup)(hiN:X.N[i]?=some y)(hx:Loc X.env.scope y)(hc:X.calm=true)(hi:PI X target iter wi)(hg:∀cl C fp s H,PG (cxComp X (tg++caps.map (·.1)) scope cl C fp s H) target g)(ht:∀cl C fp s H,PIfs (cxComp X (tg++caps.map (·.1)) scope cl C fp s H) ifs tt)(he:∀cl C fp s H,PE (cxComp X (tg++caps.map (·.1)) scope cl C fp s H) kx tk)(hv:∀cl C fp s H,PE (cxComp X (tg++caps.map (·.1)) scope cl C fp s H) vx tv)(hu:X.A.units+1<cLine)(hk:compChk X.N X.env.scope scope caps=true:=by rfl)(hs:∀x,Il iter X.env x=pure x:=by intro _;rfl)(hsw:Jt (.DictComp kx vx [⟨target,iter,ifs,0⟩] scope pos) (some (.Name y py)) spos.line X.env=pure true:=by rfl)(hf:X.fn y=true\/X.env.scope.names.lookup y=some .local:=by first|exact .inl rfl|exact .inr rfl|assumption):
  PS X (.Assign [.Name y py] (.DictComp kx vx [⟨target,iter,ifs,0⟩] scope pos) spos) (tSetDC wi g tt tk tv tg caps i):=by
 intro pins s σ H D' I h;obtain⟨hkind,hnc,hnames,hfree,co⟩:=q4a hk;obtain⟨cl,hclos,hc1,hc2⟩:=q8y I hfree;rw[Qm _ _ _ _ hsw];refine Aa (Gw (Aa ?_));refine Aa (Cq (Hn (use:=some (assign (.Name y py) X.env)) rfl hs hclos hkind hnames
  (thn (hi pins s σ H _ I h) fun v s1 h1=>thn h1 fun itv s2 h2=>?_)) (fun _ s' hq=>Ad (Ad hq)) fun _ _ e=>e)
 obtain⟨it,fp,tn,J,H2,e,I2,T,st2,f2,hw⟩:=h2;subst e;refine z0u (RR:=fun acc C=>compPost (model X.prog X.w) X.A X.xe (some (assign (.Name y py) X.env)) (fun _ s'=>SP X pins D' .next s') acc C) (Fin:=fun D _ H'=>D'.nx (σ.set i (some (.ref D))) H') hc hkind hnc hc1 hc2 co (fun C s H=>hg cl C fp s H) (fun C s H=>ht cl C fp s H) (fun C s H=>he cl C fp s H) (fun C s H=>hv cl C fp s H) hu I2 T st2 f2 hw ?_;intro D C ys H' s' hD I' hm F fin;obtain⟨m,hm⟩:=hm;refine Nt (q6d (v:=.ref D) I' hN hiN hx rfl (fun s'' I'' hsb=>?_) hf);obtain⟨a,sb,ha⟩:=hsb;have hCa:C≠a:=by
  rcases ha with ha|ha
  ·rw[ha];exact F.2.1
  ·exact fun z=>F.2.2.2.2.1 y a ha z.symm
 refine⟨m,hm.sameBut sb hCa,fun h' hs'=>?_⟩;exact⟨_,H',I''.turned (t':=s''.toks) (fun b o hb e=>(hs'.2 b hb).trans e) F.1 F.2.1 F.2.2.2.1 F.2.2.2.2.1 F.2.2.2.2.2,fin⟩
end
theorem z9v{Fin:List (List Key×V)->Hp->Prop}(Pv:Nat->List (List Key×V)->Hp->Prop)(h0:Pv 0 [] (upd H1 D (.dT [])))(hl:∀i ys H,Pv i ys H->H D=some (.dT ys))(hgo:∀i ys H,i<n->Pv i ys H->J.go i H)(hstop:∀ys H,Pv n ys H->J.stop n H)(hs:∀i ys H x H',i<n->Pv i ys H->J.yld i H x H'->g x σ0 H' fun σ2 H2=>Keeps0 σ0 σ2/\tt σ2 H2 fun b H3 =>
   if b=true then tk σ2 H3 fun y H4=>tv σ2 H4 fun v H5=>∃k c,y=.ref c/\H5 c=some (.tup (k.map kV))/\H5 D=some (.dT ys)/\ys.length<sizeLine/\Pv (i+1) (putK ys k v) (upd H5 D (.dT (putK ys k v))) else Pv (i+1) ys H3)(hd:∀ys H,Pv n ys H->Fin ys H):CompWD J g tt tk tv σ0 D Fin H1:=by
 refine⟨fun i m ys H=>m=n-i/\i<=n/\Pv i ys H,⟨n,by simp,Bl _,h0⟩,?_⟩;rintro i m ys H ⟨rfl,hi,p⟩;refine⟨hl i ys H p,?_⟩;by_cases hlt:i<n
 ·exact .inr ⟨hgo i ys H hlt p,Pv (i+1),fun zs H' q=>⟨n-(i+1),by lia,rfl,hlt,q⟩,fun x H' y=>hs i ys H x H' hlt p y⟩
 ·have e:i=n:=by lia
  subst e;exact .inl ⟨hstop ys H p,hd ys H p⟩
theorem q7y{K:Ak}{Fin:List (List Key×V)->Hp->Prop}(Pv:Nat->List (List Key×V)->Hp->Prop)(h0:Pv 0 [] (upd H1 D (.dT [])))(hl:∀i ys H,Pv i ys H->H D=some (.dT ys)/\SqL K H a xs)(hs:∀i ys H x,xs[i]?=some x->Pv i ys H->g x σ0 H fun σ2 H2=>Keeps0 σ0 σ2/\tt σ2 H2 fun b H3 =>
   if b=true then tk σ2 H3 fun y H4=>tv σ2 H4 fun v H5=>∃k c,y=.ref c/\H5 c=some (.tup (k.map kV))/\H5 D=some (.dT ys)/\ys.length<sizeLine/\Pv (i+1) (putK ys k v) (upd H5 D (.dT (putK ys k v))) else Pv (i+1) ys H3)(hd:∀ys H,Pv xs.length ys H->Fin ys H):CompWD (Itl K a) g tt tk tv σ0 D Fin H1 :=
 z9v Pv h0 (fun i ys H p=>(hl i ys H p).1) (fun i ys H h p=>⟨xs,xs[i],(hl i ys H p).2,by simp[h]⟩) (fun ys H p=>⟨xs,(hl _ ys H p).2,Aq _⟩)
  (fun i ys H x H' h p y=>by obtain⟨e,y⟩:=y;subst e;exact hs i ys _ x (y xs (hl i ys _ p).2) p) hd
end L2
namespace PySem.Rv
open Sem (wp)
section
variable{prog:Program}{w:World}{A:Around}{E:Value->Shared->Prop}{s:Shared}
theorem q7i:Ra (.type "list") "keys" = pure none:=by rw[Jq,Gr];kernel_rfl
theorem no_keys(hx:s.heap.get? a=some { cls:=.type "list",dict:=none,data:=.seq xs k,slots:=#[] })(hA:A.handled=none)(h:∀h' tk,(∀b o,s.heap.get? b=some o->h'.get? b=some o)->Q none { s with heap:=h',toks:=tk }):wpAny (model prog w) A (getAttr? (.ref a) "keys") Q E s:=by
 obtain⟨hp,g,d,tk,os⟩:=s;have hT:∀tk',(⟨hp,g,d,tk',os⟩:Shared).TypeIs (.ref a) "list" := fun _=>⟨_,hx,rfl⟩
 have f1:=sub_AttributeError;have f3:=Ki.lookup;have f4:=Ki.bind (.ref a);have f5:=am_list_getattr_none;repeat (any_goals (first|assumption|exact hT _|((with_reducible show wpAny _ _ (call (Value.builtin "list.__getattribute__") _ _) _ _ _);refine Kk Ki (hT _) am_entry_list_getattribute (F.args_list_getattribute_2 _ _) (meets_getattribute_miss_list a xs k #[] "keys" _ q7i (by decide +kernel) (by decide +kernel)) ⟨hx,hA,fun h' tk' e hx'=>?_⟩)|wp_step))
 obtain⟨t',u',he⟩:=hx'.there;show wpAny _ _ (getattributeRaised _ _ _ _ _ _ _) _ _ _;repeat (any_goals (first|assumption|wp_step))
 exact h _ _ hx'.keeps
end
theorem plain_upd:plainId "dict.update.loop" = true:=by decide +kernel
theorem entry_upd:Re table "dict.update.loop" = some Cy.«dict.update.loop» := entryFor_of_fast (by kernel_rfl)
end PySem.Rv
namespace L2
open PySem PySem.Spec PyProof.Rows SB TX
def putR(acc:List (List Key×V))(r:HRow):List (List Key×V):=putK acc (kP r.1) r.2
theorem z3f:∀(rows:List HRow) (acc:List (List Key×V)),(rows.foldl putR acc).length<=acc.length+rows.length
 |[],acc=>Aq _
 |r::rows,acc=>by
  have h1:=z3f rows (putR acc r);have h2:=q2n acc (kP r.1) r.2;rw[Ug,By];unfold putR at h1 ⊢;lia
section
variable{X:Cx}{pins:List (Addr×Obj)}{σ:St}
theorem q5i(I:Inv X pins σ H s)(h:H L=some (.lst xs)):∃its,Vals xs its/\s.heap.IsList L its.toArray:=by
 obtain⟨z,its,n,r,e⟩:=I.hok L _ h;exact⟨its,r,_,e,rfl,n,rfl⟩
theorem z7a(hh:A.handled=none)(hu:A.units+3<cLine)(few:rows.length<sizeLine):∀(k i:Nat) (H:Hp) (s:Shared),rows.length-i=k->i<=rows.length->Inv X pins σ H s->H L=some (.lst (as.map V.ref))->PRs H as rows ->
  H D=some (.dT ((rows.take i).foldl putR []))->s.heap.IsListIter it L i->FpOk X pins H it->(∀H' s',Inv X pins σ H' s'->H' D=some (.dT (rows.foldl putR []))->(∀b,b≠D->H' b=H b)->R (.ok (.ret .none)) s') ->
  Ew (model X.prog X.w) A (.builtin "dict.update.loop" ⟨[.ref D,.ref it,Ds i,.none],[]⟩) R s:=by
 intro k;induction k with
 |zero =>
  intro i H s hk hi I hL hp hD hit hf hR;have ei:i=rows.length:=by lia
  subst ei;rw[Bb] at hD;obtain⟨its,rv,hl⟩:=q5i I hL;have hlen:its.length=rows.length:=by rw[<- rv.length,Ab];exact Dv hp
  refine Da PySem.Rv.entry_upd ?_;rw[Ci PySem.Rv.plain_upd _];refine Aa (Qj hh hit hl (by simp[hlen]) fun h' eb=>?_);exact Aa (Ad (Ad (hR H _ (I.turned (t':=s.toks) (fun b o hb e=>eb b o hb e) hf.1 hf.2.1 hf.2.2.2.1 hf.2.2.2.2.1 hf.2.2.2.2.2) hD fun _ _=>rfl)))
 |succ k ih =>
  intro i H s hk hi I hL hp hD hit hf hR;obtain⟨its,rv,hl⟩:=q5i I hL;have hil:i<rows.length:=by lia
  obtain⟨a,ha⟩:∃a,as[i]?=some a:=⟨as[i]'(by rw[Dv hp];exact hil),by simp[Dv hp,hil]⟩
  obtain⟨r,hr,b,hpa,hpb⟩:=Paired.at' hp ha;obtain⟨u,hu1,hu2⟩:=rv.get (by rw[Ae,ha];rfl);cases hu2;refine Da PySem.Rv.entry_upd ?_;rw[Ci PySem.Rv.plain_upd _];refine Aa (Pq hit hl (by simpa using hu1) fun h' hit' sb=>?_);have I1:Inv X pins σ H { s with heap:=h' }:=I.turned (t':=s.toks) (fun b o hb e=>(sb.2 b hb).trans e) hf.1 hf.2.1 hf.2.2.2.1 hf.2.2.2.2.1 hf.2.2.2.2.2;obtain⟨z,pits,pr,o,po,pc,pn,pd⟩:=I1.hok a _ hpa;obtain⟨u1,u2,e12,r1,r2⟩:=pr.two;subst e12;cases r1;refine Aa (Ca ?_);refine Aa (Kn ?_);refine Aa (Fj ⟨o,po,pc⟩ ?_);refine Aa (Cz po pd (Ad ?_));have elen:((rows.take i).foldl putR []).length<sizeLine:=by
   have h1:=z3f (rows.take i) [];rw[Bm] at h1;have h2:([]:List (List Key×V)).length=0:=rfl;lia
  refine Ca (d_set (by show A.units+1+1<cLine;lia) I1 hD (by rw[q1x];exact hpb) elen r2 fun s' I' kp=>?_);refine Ad ⟨Db PySem.Rv.plain_upd _,?_⟩;have hLD:L≠D:=fun z=>by rw[z,hD] at hL;cases hL
  have hitD:it≠D:=fun z=>by have y:=hf.1;rw[z,hD] at y;cases y
  have hnt:∀{T:Addr} {xs:List V},H T=some (.tup xs)->T≠D:=fun{T xs} e z=>by rw[z,hD] at e;cases e
  have et:(rows.take (i+1)).foldl putR []=putK ((rows.take i).foldl putR []) (kP r.1) r.2:=by
   rw[Mz,hr];rw[Nz];rfl
  have hit2:=hit'.at fun o e=>kp _ _ hitD e;refine ih (i+1) _ s' (by lia) hil I' (by rw[q0c hLD];exact hL) (Paired.imp' (fun a r ⟨b,h1,h2⟩=>⟨b,by rw[q0c (hnt h1)];exact h1,by rw[q0c (hnt h2)];exact h2⟩) hp) (by rw[q0b,et]) hit2 ⟨by rw[q0c hitD];exact hf.1,hf.2⟩ fun H' s'' J j1 j2=>?_;exact hR H' s'' J j1 fun b hb=>by rw[j2 b hb,q0c hb]
end
def rDictL:List V->Hp->VK->Prop:=fun vs H Q=>∃L as rows,vs=[.ref L]/\H L=some (.lst (as.map V.ref))/\PRs H as rows/\rows.length<1000/\∀D,H D=none->Q (.ref D) (upd H D (.dT (rows.foldl putR [])))
theorem q7z(hr:Room k X.A):CallR X (.type "dict") rDictL:=by
 intro pins s σ H xs us Q I rv h;obtain⟨L,as,rows,rfl,hL,hp,few,q⟩:=h;obtain⟨u,rfl,ru⟩:=rv.one;cases ru;have hu:=hr.un;have hh:=hr.hd;refine callType_codes (Q₁:=fun obj s₁=>obj=.ref s.heap.objs.size/\s₁={ s with heap:=s.heap.push { cls:=.type "dict",data:=.dict #[] } }) F.kt_called_dict (F.kt_typeCall_dict_1 _) F.entry_dict_init (kt_code_dict_new _ ⟨rfl,rfl⟩) fun obj s₁ h₁=>?_;obtain⟨rfl,rfl⟩:=h₁;have hDf:=I.fresh;have I1:Inv X pins σ (upd H s.heap.objs.size (.dT [])) { s with heap:=s.heap.push { cls:=.type "dict",data:=.dict #[] } }:=I.laid (t':=s.toks) (fun _ _ e=>Ah _ e) (Aq _) (q9a s.heap I.big);have hD1:(s.heap.push { cls:=.type "dict",data:=.dict #[] }).get? s.heap.objs.size=some { cls:=.type "dict",data:=.dict #[] }:=Ar _ rfl;have hLD:=q0i hL hDf;have hL1:upd H s.heap.objs.size (.dT []) L=some (.lst (as.map V.ref)):=by rw[q0c hLD];exact hL
 have sm:=(Same.refl H).new (o:=.dT []) hDf;have hp1:PRs (upd H s.heap.objs.size (.dT [])) as rows:=Paired.imp' (fun a r ⟨b,h1,h2⟩=>⟨b,sm _ _ h1,sm _ _ h2⟩) hp;obtain⟨z,its,n,r1,e1⟩:=I1.hok L _ hL1;refine⟨⟨_,hD1,rfl⟩,F.args_dict_init_2 _ _,?_⟩;refine Aa ?_;unfold Cy.Dict.selfAndRest;refine Aa (Fn ⟨_,hD1,rfl⟩ ?_);show wpAny _ _ (pure (s.heap.objs.size,[Value.ref L])) _ _ _;refine Ad ?_;refine Aa (Fj ⟨_,e1,rfl⟩ ?_);refine Aa (PySem.Rv.no_keys e1 hh fun h' tk kp=>?_);have I2:=I1.kept (t':=tk) kp;refine Aa (Fk ?_);have e2:=kp _ _ e1;refine Aa (Kt ⟨_,e2,rfl,n,rfl⟩ ?_);have hsz:=Au (kp _ _ hD1);have I3:Inv X pins σ (upd H s.heap.objs.size (.dT [])) { s with heap:=h'.push { cls:=.type "list_iterator",data:=.fields #[.ref L,.int 0 0] },toks:=tk }:=I2.kept (t':=tk) fun _ _ e=>Ah _ e;refine Ad ⟨Db PySem.Rv.plain_upd _,?_⟩;refine z7a (A:=X.A.in1) hh (by show X.A.units+1+3<cLine;lia) (TX.small' (by lia)) rows.length 0 _ _ (by lia) (Bl _) I3 hL1 hp1 q0b ⟨_,Ar _ rfl,rfl,rfl⟩ ?_ fun H' s' J j1 j2=>?_
 ·exact I2.fpOk (Aq _) (by rw[q0c (Et hsz)];exact I.hok.fresh (Gm hsz))
 ·have eH:H'=upd H s.heap.objs.size (.dT (rows.foldl putR [])):=by
   funext b;by_cases hb:b=s.heap.objs.size
   ·rw[hb,j1,q0b]
   ·rw[j2 b hb,q0c hb,q0c hb]
  rw[eH] at J;exact⟨rfl,.ref s.heap.objs.size,_,J,rfl,q _ hDf⟩
open PySem PySem.Spec PyProof.Rows
structure Mf (K:Ak) (C:Addr) (m qual:Str) (st:Stmt) (ps:List Str):Prop where
 ex:∃f fd,Fun K m qual st f fd/\Meth K C m f/\Binds K fd ps []
structure MCal (P:Program) (w:World) (K:Ak) (mg:Str->Option Value) (base:Heap) (C:Addr) (m:Str) (k:Nat) (ps:List Str) (sp:Sp):Prop where
 ex:∃f fd,FnOk P w K mg base CX0 k f fd ps sp/\Meth K C m f/\Binds K fd ps []
 cl:Cls K C
theorem Mf.cal{K:Ak}{st:Stmt}(D:Mf K C m qual st ps)(cl:Cls K C)(S:FnScope N ps (defScope st))(len:∀vs H Q E,sp vs H Q E->vs.length=ps.length)(hbody:∀(f:Addr) (cdv:Value) (A:Around) (outer:List Env) (s:Shared) (H:Hp) (vs:List V) (Q:VK) (E:XK),Room k (A.deeper (Jy qual (defScope st) s.heap.objs.size f cdv))->sp vs H Q E ->
   ∃t,PSs (cxOf CX0 P w K mg base N qual (defScope st) f cdv A outer s H E).nox (defBody st) t/\t { nx:=fun _ H'=>Q .non H',rt:=Q } (start N vs) H):MCal P w K mg base C m (k+1) ps sp:=by
 obtain⟨f,fd,F,hm,hb⟩:=D.ex;exact⟨⟨f,fd,F.ok S len fun cdv A outer s H vs Q E hr h=>hbody f cdv A outer s H vs Q E hr h,hm,hb⟩,cl⟩
theorem MCal.imp{K:Ak}(M:MCal P w K mg base C m k ps sp)(h:∀vs H Q E,sp' vs H Q E->sp vs H Q E):MCal P w K mg base C m k ps sp':=by
 obtain⟨f,fd,F,r⟩:=M.ex;exact⟨⟨f,fd,F.imp h,r⟩,M.cl⟩
section
variable{X:Cx}{C:Addr}{x m:Str}{k j:Nat}{ps:List Str}{sp:Sp}{p pos apos:Pos}{o e:Expr}{es:List Expr}{ta:TE}{t:TA}
theorem pe_m{pl:Sem Bool}(M:MCal X.prog X.w X.K X.mg X.base C m k ps sp)(hr:Room j X.A)(he:PE X o ta)(ha:PA X (e::es) t)(hjk:k<=j:=by decide)(hst:Bg (e::es) X.env=(false,eval e X.env)::Bg es X.env:=by rfl)(hpl:(Fi pos (Bg es X.env)).any (·.1)=false:=by rfl)(ht:eval (.Call (.Attribute o m apos) (e::es) [] pos) X.env=(do
   let ov<-eval o X.env
   Oj apos.atName
   let (f,first)<-Jl [ov] (Nb ov m pl)
   Tk pos f first (Fi pos (Bg (e::es) X.env)) (Li pos (Ie [] X.env))):=by rfl):PE X (.Call (.Attribute o m apos) (e::es) [] pos) (tMeth C m sp [] E0 ta t):=by
 obtain⟨f,fd,F,hm,hb⟩:=M.ex;exact x2a he M.cl hm F (hr.mono hjk) hb .nil pass0 ha hst hpl ht
theorem pe_m0{pl:Sem Bool}(M:MCal X.prog X.w X.K X.mg X.base C m k ps sp)(hr:Room j X.A)(he:PE X o ta)(hjk:k<=j:=by decide)(ht:eval (.Call (.Attribute o m apos) [] [] pos) X.env=(do
   let ov<-eval o X.env
   Oj apos.atName
   let (f,first)<-Jl [ov] (Nb ov m pl)
   Tk pos f first (Fi pos (Bg [] X.env)) (Li pos (Ie [] X.env))):=by rfl):PE X (.Call (.Attribute o m apos) [] [] pos) (tMeth C m sp [] E0 ta tNil):=by
 obtain⟨f,fd,F,hm,hb⟩:=M.ex;exact z8x he M.cl hm F (hr.mono hjk) hb .nil pass0 ht
end
structure Kf (K:Ak) (mg:Str->Option Value) (C:Addr) (x qual:Str) (st:Stmt) (ps:List Str):Prop where
 ex:∃(f:Addr) (fd:FuncData) (oc:Value) (od:Option Addr) (dV kV doc pm:Value) (an:Option Addr) (cdv ct:Value) (osl:Array (Option Value)),fd=Ip "__init__" qual (defArgs st) (defBody st) (defScope st) dV kV doc pm an cdv ct /\
  K.lookup f=some ⟨oc,od,.func fd,osl⟩/\Lj K cdv qual=true/\Mk K C f/\Binds K fd ps []/\Binds K fd ps [.bool false]
 at_:mg x=some (.ref C)
 cl:Cls K C
structure KCal (P:Program) (w:World) (K:Ak) (mg:Str->Option Value) (base:Heap) (C:Addr) (x:Str) (k:Nat) (ps:List Str) (sp:Sp):Prop where
 ex:∃f fd,FnOk P w K mg base CX0 k f fd ps sp/\Mk K C f/\Binds K fd ps []/\Binds K fd ps [.bool false]
 at_:mg x=some (.ref C)
 cl:Cls K C
theorem Kf.cal{K:Ak}{st:Stmt}(D:Kf K mg C x qual st ps)(S:FnScope N ps (defScope st))(len:∀vs H Q E,sp vs H Q E->vs.length=ps.length)(hbody:∀(f:Addr) (cdv:Value) (A:Around) (outer:List Env) (s:Shared) (H:Hp) (vs:List V) (Q:VK) (E:XK),Room k (A.deeper (Jy qual (defScope st) s.heap.objs.size f cdv))->sp vs H Q E ->
   ∃t,PSs (cxOf CX0 P w K mg base N qual (defScope st) f cdv A outer s H E).nox (defBody st) t/\t { nx:=fun _ H'=>Q .non H',rt:=Q } (start N vs) H):KCal P w K mg base C x (k+1) ps sp:=by
 obtain⟨f,fd,oc,od,dV,kV,doc,pm,an,cdv,ct,osl,rfl,lk,hcd,M,b1,b2⟩:=D.ex;refine⟨⟨f,_,fn_of lk hcd S len fun A outer s H vs Q E hr hsp=>?_,M,b1,b2⟩,D.at_,D.cl⟩;obtain⟨t,h,q⟩:=hbody f cdv A outer s H vs Q E hr hsp;exact⟨t,h.nox,q⟩
section
variable{X:Cx}{C:Addr}{x:Str}{k j:Nat}{ps:List Str}{sp:Sp}{p pos:Pos}{e:Expr}{es:List Expr}{t:TA}
theorem pe_k(M:KCal X.prog X.w X.K X.mg X.base C x k ps sp)(hr:Room j X.A)(ha:PA X (e::es) t)(hjk:k+1<=j:=by decide)(hg:Gl X x:=by rfl)(hdb:(x==("__debug__" : Str))=false:=by decide)(he:Bg (e::es) X.env=(false,eval e X.env)::Bg es X.env:=by rfl)(hpl:(Fi pos (Bg es X.env)).any (·.1)=false:=by rfl):PE X (.Call (.Name x p) (e::es) [] pos) (tMake C sp [] E0 t):=by
 obtain⟨f,fd,F,m,b1,_⟩:=M.ex;exact x2b m F (hr.mono hjk) hg M.at_ b1 .nil pass0 ha hdb he hpl
end
theorem q6v{K:Lz}{g:TG}{tb:TS}{D:Ends}(Pv:Nat->St->Hp->Prop)(h0:Pv 0 σ H)(hl:∀i σ H,Pv i σ H->SqL K H a xs)(hs:∀i x T σ H,xs[i]?=some x->Pv i σ H->H T=none->g (.ref T) σ (upd H T (.tup [.int i,x])) fun σ2 H2=>tb { D with nx:=Pv (i+1),ct:=Pv (i+1),bk:=D.nx } σ2 H2)(hd:∀σ H,Pv xs.length σ H->D.nx σ H):
  ∃W:Nat->Nat->St->Hp->Prop,(∃m,W 0 m σ H)/\∀i m σ H,W i m σ H ->
   ((Ite (Itl K a)).stop i H/\D.nx σ H)\/((Ite (Itl K a)).go i H/\∃N:St->Hp->Prop,(∀σ' H',N σ' H'->∃m',m'<m/\W (i+1) m' σ' H')/\∀v H',(Ite (Itl K a)).yld i H v H'->g v σ H' fun σ2 H2=>tb { D with nx:=N,ct:=N,bk:=D.nx } σ2 H2):=by
 refine z3a Pv h0 (fun i σ H h p=>⟨xs,xs[i],hl i σ H p,by simp[h]⟩) (fun σ H p=>⟨xs,hl _ σ H p,Aq _⟩) (fun i v σ H H' h p yl=>?_) hd;obtain⟨T,y,hT,⟨_,hy⟩,rfl,rfl⟩:=yl;exact hs i y T σ H (hy xs (hl i σ H p)) p hT
open PySem PySem.Spec PyProof.Rows
def rCatP:R2:=fun x y H Q=>∃a b xs ys,x=.ref a/\y=.ref b/\H a=some (.tup xs)/\H b=some (.tup ys)/\xs.length+ys.length<=sizeLine/\∀p H',Same H H'->H' p=some (.tup (xs++ys))->(∀c,c≠p->H' c=H c)->Q (.ref p) H'
theorem q3e:OpR X (Ge .Add) rCatP:=by
 intro pins s σ H x y v u Q I rx ry h;obtain⟨a,b,xs,ys,rfl,rfl,ha,hb,hz,q⟩:=h;cases rx;cases ry;obtain⟨za,its,r1,p1⟩:=I.hok a _ ha;obtain⟨zb,its2,r2,p2⟩:=I.hok b _ hb;by_cases hx:its=[]
 ·have hx':xs=[]:=r1.nil_iff.mp hx;obtain⟨⟨cls,dd,data,sl⟩,ho,hc,n,hd⟩:=id p1;obtain⟨⟨cls2,dd2,data2,sl2⟩,ho2,hc2,n2,hd2⟩:=id p2;subst hc hd hc2 hd2;refine Sc ⟨_,ho,rfl⟩ ⟨_,ho2,rfl⟩ Oq Rl Kz Kp (Jz _ _) (tuple_addW0 a b its.toArray its2.toArray n n2 dd dd2 sl sl2 (by simp[hx])) ⟨ho,ho2,?_⟩;exact⟨.ref b,H,I,rfl,q b H (Same.refl H) (by rw[hx',Um];exact hb) fun _ _=>rfl⟩
 ·refine HT.cat_tup p1 p2 hx (fun z=>?_) (fun z=>?_) (by rw[<- r1.length,<- r2.length];exact hz)
  ·have hy:ys=[]:=r2.nil_iff.mp z;exact⟨.ref a,H,I,rfl,q a H (Same.refl H) (by rw[hy,El];exact ha) fun _ _=>rfl⟩
  ·refine⟨.ref s.heap.objs.size,_,I.laid (t':=s.toks) (fun b ob q=>Ah _ q) (Aq _) ?_,rfl,q _ _ ((Same.refl H).new I.fresh) q0b fun c hc=>q0c hc⟩;exact⟨by rw[Al];exact hz,_,r1.append r2,IsTup.new _ _⟩
theorem z4o{X:Cx}{e:Expr}{f:Str}{pos:Pos}{ta:TE}(K:Ak)(hK:X.K=K)(he:PE X e ta)(hb:Fy e f X.env (eval e X.env)=eval e X.env:=by rfl):PE X (.Attribute e f pos) (tFld K ta f):=by subst hK;exact pe_fld he hb
theorem x1h{X:Cx}{o value:Expr}{f:Str}{pos pos':Pos}{ta tv:TE}(K:Ak)(hK:X.K=K)(ha:PE X o ta)(hv:PE X value tv)(hs:Jt value (some (.Attribute o f pos')) pos.line X.env=pure false:=by rfl):PS X (.Assign [.Attribute o f pos'] value pos) (sFld K ta tv f):=by subst hK;exact ps_fld ha hv hs
end L2
namespace HM
open PySem PySem.Spec PyProof.Rows L2 TX SB
def NSs:Str:=Ao "abcdefghijklmnopqrstuvwxyzABCDEFGHIJKLMNOPQRSTUVWXYZ0123456789-_."
abbrev NS:List Nat:=tl NSs
theorem x1i:∀c∈NS,c<128:=by decide +kernel
structure okN (n:List Nat):Prop where
 one:1<=n.length
 few:n.length<=12
 all:∀c∈n,c∈NS
theorem okN.low(h:okN n):∀c∈n,c<128:=fun c hc=>x1i c (h.all c hc)
structure okP (p:Pth):Prop where
 ne:p≠[]
 few:p.length<=6
 all:∀n∈p,okN n
theorem okP.low(h:okP p):Low p:=fun n hn=>(h.all n hn).low
abbrev Rw:=Pth×Option Int
def mV:Option Int->V
 |none=>.non
 |some i=>.int i
def rR(r:Rw):HRow:=(r.1,mV r.2)
theorem mV_inj(h:mV a=mV b):a=b:=by
 cases a with
 |none=>cases b with
  |none=>rfl
  |some j=>cases h
 |some i=>cases b with
  |none=>cases h
  |some j=>cases h;rfl
theorem mV_none:mV a=.non↔a=none:=⟨fun h=>mV_inj (b:=none) h,fun h=>by rw[h];rfl⟩
def lowN(n:List Nat):List Nat:=n.map lo1
def fold(bl:Bool)(p:Pth):Pth:=if bl then p.dropLast++[lowN (p.getLastD [])] else p
theorem x1j(p:Pth):fold false p=p:=rfl
theorem x1k(p:Pth):fold true p=p.dropLast++[lowN (p.getLastD [])]:=rfl
theorem q6w{p:Pth}(h:p≠[]):p=p.dropLast++[p.getLastD []]:=by
 have e:=Gh h;have e2:p.getLastD []=p.getLast h:=by rw[En,Bh h];rfl
 rw[e2];exact e.symm
theorem q5j{p q:Pth}(hp:p≠[])(hq:q≠[]):fold bl p=fold bl q↔p.dropLast=q.dropLast/\(if bl then lowN (p.getLastD [])=lowN (q.getLastD []) else p.getLastD []=q.getLastD []):=by
 cases bl with
 |true =>
  rw[x1k,x1k];constructor
  ·simp_all
  ·simp_all
 |false =>
  rw[x1j,x1j];constructor
  ·grind
  ·rintro⟨h1,h2⟩;rw[q6w hp,q6w hq,h1,h2]
structure Hl (bl:Bool) (rows:List Rw):Prop where
 ok:∀r∈rows,okP r.1
 nd:(rows.map fun r=>fold bl r.1).Nodup
 dr:∀r∈rows,r.1.dropLast=[]\/(r.1.dropLast,none)∈rows
theorem Hl.perm(h:Hl bl rows)(p:rows'.Perm rows):Hl bl rows' :=
 ⟨fun r hr=>h.ok r (p.mem_iff.mp hr),(p.map _).nodup_iff.mpr h.nd,fun r hr=>(h.dr r (p.mem_iff.mp hr)).imp id fun z=>p.mem_iff.mpr z⟩
theorem Hl.nil(bl:Bool):Hl bl []:=⟨(fun _ h=>nomatch h),.nil,(fun _ h=>nomatch h)⟩
theorem q2e{α β:Type}{f:α->β}:∀{l:List α},(l.map f).Nodup->l.Nodup
 |[],_=>.nil
 |a::l,h=>by
  rw[Aw,Bp] at h;exact Bp.mpr ⟨fun z=>h.1 (Ac.mpr ⟨a,z,rfl⟩),q2e h.2⟩
theorem Hl.paths(h:Hl bl rows):(rows.map (·.1)).Nodup:=by
 have e:rows.map (fun r=>fold bl r.1)=(rows.map (·.1)).map (fold bl):=by simp_all
 have:=h.nd;rw[e] at this;exact q2e this
abbrev Zr:=Addr×Rw
structure RL (H:Hp) (L:Addr) (zs:List Zr):Prop where
 at_:H L=some (.lst (zs.map fun z=>V.ref z.1))
 pr:∀z∈zs,PR H z.1 (rR z.2)
theorem PR.same(h:PR H a r)(k:∀T xs,H T=some (.tup xs)->H' T=some (.tup xs)):PR H' a r:=let ⟨b,h1,h2⟩:=h;⟨b,k _ _ h1,k _ _ h2⟩
theorem RL.same(h:RL H L zs)(s:Same H H'):RL H' L zs:=⟨s _ _ h.at_,fun z hz=>PR.same (h.pr z hz) fun T xs e=>s _ _ e⟩
theorem tupFd(F:FeedAt H a b)(fd:Fd a b H H'):∀T xs,H T=some (.tup xs)->H' T=some (.tup xs):=fun T xs e=>fd.at e fun z=>by
 subst z;obtain⟨i,j,q⟩:=F.fa;rw[q] at e;cases e
theorem RL.fd(h:RL H L zs)(F:FeedAt H a b)(fd:Fd a b H H')(hL:L≠a):RL H' L zs:=⟨fd.at h.at_ hL,fun z hz=>PR.same (h.pr z hz) (tupFd F fd)⟩
theorem x1l{zs:List Zr}(h:∀z∈zs,PR H z.1 (rR z.2)):PRs H (zs.map (·.1)) (zs.map fun z=>rR z.2):=z6z h
theorem zs_of:∀{as:List Addr} {rs:List HRow} {rows:List Rw},PRs H as rs->rs=rows.map rR->∃zs:List Zr,zs.map (·.1)=as/\zs.map (·.2)=rows/\∀z∈zs,PR H z.1 (rR z.2)
 |_,_,[],.nil,_=>⟨[],rfl,rfl,(fun _ h=>nomatch h)⟩
 |_,_,_::_,.nil,e=>by cases e
 |_,_,[],.cons _ _,e=>by cases e
 |a::as,_,r::rows,.cons h t,e=>by
  rw[Aw] at e;injection e with e1 e2;obtain⟨zs,z1,z2,z3⟩:=zs_of t e2;refine⟨(a,r)::zs,by rw[Aw,z1],by rw[Aw,z2],fun z hz=>?_⟩;rcases Ay.mp hz with rfl|hz
  ·rw[<- e1];exact h
  ·exact z3 z hz
theorem q4l:∀{l m:List Pth},l.Perm m->l.Nodup->l.Pairwise (fun a b=>pLt b a=false)->m.Pairwise (fun a b=>pLt b a=false)->l=m
 |[],m,p,_,_,_=>(List.perm_nil.mp p.symm).symm
 |a::l,[],p,_,_,_=>absurd (p.length_eq) (by simp)
 |a::l,b::m,p,nd,h1,h2=>by
  obtain⟨n1,n2⟩:=Bp.mp nd;obtain⟨a1,a2⟩:=Kh.mp h1;obtain⟨b1,b2⟩:=Kh.mp h2;have e:a=b:=by
   have ha:=p.mem_iff.mp At;have hb:=p.mem_iff.mpr At;rcases Ay.mp ha with e|ha
   ·exact e
   ·rcases Ay.mp hb with e|hb
    ·exact e.symm
    ·exact q5h (b1 a ha) (a1 b hb)
  subst e;rw[q4l ((List.perm_cons a).mp p) n2 a2 b2]
def dMk:Option Int->PyData
 |none=>.none
 |some i=>.int i
def dRw(r:Rw):PyData:=.tuple [.tuple (dP r.1),dMk r.2]
theorem x2u{K:Ak}(m:Option Int):Dt K H (mV m) (dMk m):=by
 cases m with
 |none=>exact .non
 |some i=>exact .int i
theorem z3g{K:Ak}{H:Hp}:∀p:Pth,Dts K H (vP p) (dP p)
 |[]=>.nil
 |n::p=>.cons (.str _) (z3g p)
theorem q1y{K:Ak}(h:H a=some (.tup (vP p))):Dt K H (.ref a) (.tuple (dP p)):=.tup (SqT.of h) (z3g p)
theorem dt_row{K:Ak}(h:PR H a (rR r)):Dt K H (.ref a) (dRw r):=by
 obtain⟨b,h1,h2⟩:=h;exact .tup (SqT.of h1) (.cons (q1y h2) (.cons (x2u _) .nil))
theorem z3h{K:Ak}{H:Hp}:∀{zs:List Zr},(∀z∈zs,PR H z.1 (rR z.2))->Dts K H (zs.map fun z=>V.ref z.1) (zs.map fun z=>dRw z.2)
 |[],_=>.nil
 |z::zs,h=>.cons (dt_row (h z At)) (z3h fun x hx=>h x (An _ hx))
theorem RL.dt{K:Ak}(h:RL H L zs):Dt K H (.ref L) (.list (zs.map fun z=>dRw z.2)):=.lst (SqL.of h.at_) (z3h h.pr)
theorem x2v(m:Option Int):(dMk m).canLay0=true:=by cases m<;>simp[dMk,Fq]
theorem q2g(h:Low p):(PyData.tuple (dP p)).canLay0=true:=by simp only[Jd,q7x h]
theorem x2w(h:Low r.1):(dRw r).canLay0=true:=by
 have:=q2g h;simp only[dRw,Fq,Cd] at this ⊢;rw[this,x2v];rfl
theorem z3i:∀{rows:List Rw},(∀r∈rows,Low r.1)->Cd (rows.map dRw)=true
 |[],_=>by simp[Cd]
 |r::rows,h=>by
  simp only[Aw,Cd];rw[x2w (h r At),z3i fun x hx=>h x (An _ hx)];rfl
theorem z7b{rows:List Rw}(h:∀r∈rows,Low r.1):(PyData.list (rows.map dRw)).canLay0=true:=by simp only[Fq];exact z3i h
theorem z7c(m:Option Int):(dMk m).depth<=1:=by cases m<;>simp[dMk,Ht]
theorem q3t(p:Pth):(PyData.tuple (dP p)).depth<=2:=by
 have h1:(PyData.tuple (dP p)).depth=Fp (dP p)+1:=by simp only[Nd]
 have:=q4y p;lia
theorem z7d(r:Rw):(dRw r).depth<=3:=by
 have h1:=q3t r.1;have h2:=z7c r.2;have e:(dRw r).depth=max (PyData.tuple (dP r.1)).depth (max (dMk r.2).depth 0)+1:=by simp only[dRw,Ht,Eo]
 lia
theorem q8a:∀rows:List Rw,Eo (rows.map dRw)<=3
 |[]=>by simp[Eo]
 |r::rows=>by
  have h1:=z7d r;have h2:=q8a rows;simp only[Aw,Eo];lia
theorem z9w(rows:List Rw):(PyData.list (rows.map dRw)).depth<=100:=by
 have:=q8a rows;simp only[Ht];lia
theorem q4z(p q:Pth):Ey (.tuple (dP p)) (.tuple (dP q))=decide (p=q):=by simp only[Ey,q6s]
theorem q8b(zs:List Zr):zs.map (fun z=>dRw z.2)=(zs.map (·.2)).map dRw:=by rw[Ap];rfl
theorem q2v{K:Ak}(ha:H a=some (.tup (vP p)))(hb:H b=some (.tup (vP q)))(lp:Low p)(lq:Low q)(k:Q (.bl (!decide (p=q))) H):rNeU K (.ref a) (.ref b) H Q:=by
 refine .inr ⟨_,_,q1y ha,q1y hb,q2g lp,q2g lq,by have:=q3t p;lia,?_⟩;rw[q4z];exact k
theorem x2x{K:Ak}(ha:RL H a zs)(hb:RL H b zs')(e:zs.map (·.2)=zs'.map (·.2))(l:∀r∈zs.map (·.2),Low r.1)(k:Q (.bl false) H):rNeU K (.ref a) (.ref b) H Q:=by
 refine .inr ⟨_,_,ha.dt,hb.dt,?_,?_,?_,?_⟩
 ·rw[q8b];exact z7b l
 ·rw[q8b,<- e];exact z7b l
 ·rw[q8b,q8b];have:=z9w (zs.map (·.2));lia
 ·rw[q8b,q8b,<- e,SeqAt.eqv_refl _ (z7b l)];exact k
end HM
namespace L2
open PySem PySem.Spec PyProof.Rows SB
abbrev Zp:=Addr×Pth
theorem ers_map{α β:Type}(f:α->β):∀(l:List α) (k:Nat),(l.map f).eraseIdx k=(l.eraseIdx k).map f
 |[],_=>rfl
 |_::_,0=>rfl
 |a::l,k+1=>by show f a::(l.map f).eraseIdx k=f a::(l.eraseIdx k).map f;rw[ers_map f l k]
def tThawV(h₀:Hp)(t:TE):TE:=fun σ H Q=>∃d,(∀o v,h₀ d≠some (.frz o v))/\t σ H fun x H'=>∃ob u,H' d=some (.frz ob u)/\Q x (upd H' d u)
theorem x2y{X:Cx}{e:Expr}{t:TE}(h₀:Hp)(hH:X.H₀=h₀)(h:PE X e t):PE X e (tThawV h₀ t):=by
 subst hH;intro pins s σ H Q I q;obtain⟨d,hd,q⟩:=q;exact thn (h pins s σ H _ I q) fun v s1 ⟨x,H1,I1,r1,ob,u,e1,q1⟩=>⟨x,_,I1.thaw e1 hd,r1,q1⟩
theorem Paired.ers{α β:Type}{F:α->β->Prop}:∀{l:List α} {m:List β} (j:Nat),Paired F l m->Paired F (l.eraseIdx j) (m.eraseIdx j)
 |_,_,_,.nil=>.nil
 |_,_,0,.cons _ t=>t
 |_,_,j+1,.cons h t=>.cons h (Paired.ers j t)
end L2
namespace HM
open PySem PySem.Spec PyProof.Rows L2 TX SB
def carry(p q x:Pth):Pth:=if x.take p.length=p then q++x.drop p.length else x
def cR(p q:Pth)(r:Rw):Rw:=(carry p q r.1,r.2)
def mvR(p q:Pth)(r:Rw):Rw:=if r.1=p then(q,r.2) else r
theorem Hl.anc(h:Hl bl rows):∀(n:Nat) (r:Rw),r∈rows->r.1.length<=n->∀k,1<=k->k<r.1.length->(r.1.take k,none)∈rows
 |0,r,_,hl,k,_,hk=>absurd hk (by lia)
 |n+1,r,hr,hl,k,h1,hk=>by
  have hd:r.1.dropLast=r.1.take (r.1.length-1):=Qq;have hne:r.1.dropLast≠[]:=fun z=>by
   have:=congrArg List.length z;simp at this;lia
  have hm:=(h.dr r hr).resolve_left hne;by_cases e:k=r.1.length-1
  ·grind
  ·have:=h.anc n (r.1.dropLast,none) hm (by rw[Bq];lia) k h1 (by rw[Bq];lia);rw[show((r.1.dropLast,(none:Option Int)):Rw).1=r.1.dropLast from rfl,hd,List.take_take,Uo (by lia)] at this;exact this
theorem Hl.one(h:Hl bl rows)(h1:(p,a)∈rows)(h2:(p,b)∈rows):a=b:=by
 have:=q0t h.paths h1 h2 rfl;cases this;rfl
theorem Hl.slip(h:Hl bl rows)(hp:(p,some m)∈rows)(hr:r∈rows)(ht:r.1.take p.length=p):r.1=p:=by
 by_cases hl:p.length<r.1.length
 ·have h0:=Bu.mpr (h.ok _ hp).ne;have:=h.anc _ r hr (Aq _) p.length h0 hl;rw[ht] at this;cases h.one hp this
 ·grind
theorem Hl.carry(h:Hl bl rows)(hp:(p,some m)∈rows):rows.map (cR p q)=rows.map (mvR p q):=by
 refine Cs fun r hr=>?_;unfold cR mvR HM.carry;by_cases e:r.1=p
 ·simp_all
 ·rw[if_neg e,if_neg fun z=>e (h.slip hp hr z)]
structure Free (bl:Bool) (rows:List Rw) (p q:Pth):Prop where
 ok:okP q
 dr:q.dropLast=[]\/(q.dropLast,none)∈rows
 un:∀r∈rows,fold bl r.1=fold bl q->r.1=p
theorem q5v{α β:Type}{f:α->β}:∀{l:List α},l.Nodup->(∀x∈l,∀y∈l,f x=f y->x=y)->(l.map f).Nodup
 |[],_,_=>.nil
 |a::l,nd,h=>by
  rw[Bp] at nd;rw[Aw,Bp];refine⟨fun z=>?_,q5v nd.2 fun x hx y hy=>h x (An _ hx) y (An _ hy)⟩;obtain⟨y,hy,e⟩:=Ac.mp z;exact nd.1 (by rw[<- h y (An _ hy) a At e];exact hy)
theorem Hl.nodup(h:Hl bl rows):rows.Nodup:=q2e h.nd
theorem Hl.eq(h:Hl bl rows)(hr:r∈rows)(hs:s∈rows)(e:fold bl r.1=fold bl s.1):r=s:=q0t (f:=fun r:Rw=>fold bl r.1) h.nd hr hs e
theorem Hl.eqP(h:Hl bl rows)(hr:r∈rows)(hs:s∈rows)(e:r.1=s.1):r=s:=h.eq hr hs (by rw[e])
theorem z9x(h:r.1=p):mvR p q r=(q,r.2):=if_pos h
theorem z2b(h:r.1≠p):mvR p q r=r:=if_neg h
theorem Hl.moved(h:Hl bl rows)(hp:(p,some m)∈rows)(f:Free bl rows p q):Hl bl (rows.map (mvR p q)):=by
 have dk:∀x:Pth,(x,(none:Option Int))∈rows->(x,none)∈rows.map (mvR p q):=fun x hx=>Ac.mpr ⟨_,hx,z2b fun e=>by
  subst e;cases h.one hp hx⟩
 refine⟨fun r hr=>?_,?_,fun r hr=>?_⟩
 ·obtain⟨x,hx,rfl⟩:=Ac.mp hr;by_cases e:x.1=p
  ·rw[z9x e];exact f.ok
  ·rw[z2b e];exact h.ok x hx
 ·rw[Ap];refine q5v h.nodup fun x hx y hy e=>?_;replace e:fold bl (mvR p q x).1=fold bl (mvR p q y).1:=e;by_cases ex:x.1=p
  ·by_cases ey:y.1=p
   ·exact h.eqP hx hy (ex.trans ey.symm)
   ·rw[z9x ex,z2b ey] at e;exact absurd (f.un y hy e.symm) ey
  ·by_cases ey:y.1=p
   ·rw[z2b ex,z9x ey] at e;exact absurd (f.un x hx e) ex
   ·rw[z2b ex,z2b ey] at e;exact h.eq hx hy e
 ·obtain⟨x,hx,rfl⟩:=Ac.mp hr;by_cases e:x.1=p
  ·rw[z9x e];exact f.dr.imp id (dk _)
  ·rw[z2b e];exact(h.dr x hx).imp id (dk _)
theorem ns_lo:∀c∈NS,lo1 c∈NS:=by decide +kernel
theorem okN.lo(h:okN n):okN (lowN n):=⟨by unfold lowN;rw[Ab];exact h.one,by unfold lowN;rw[Ab];exact h.few,fun c hc=>by
 obtain⟨x,hx,rfl⟩:=Ac.mp hc;exact ns_lo x (h.all x hx)⟩
theorem okP.snoc{q:Pth}(h:q=[]\/okP q)(hl:q.length<6)(hn:okN n):okP (q++[n]):=by
 refine⟨by simp,by rw[Al];show _+1<=6;lia,fun x hx=>?_⟩;rcases Am.mp hx with hx|hx
 ·rcases h with e|h
  ·rw[e] at hx;cases hx
  ·exact h.all x hx
 ·grind
theorem z0v{K:Ak}{H:Hp}:∀{zs:List Zp},(∀z∈zs,H z.1=some (.tup (vP z.2)))->Dts K H (zs.map fun z=>V.ref z.1) (zs.map fun z=>PyData.tuple (dP z.2))
 |[],_=>.nil
 |z::zs,h=>.cons (q1y (h z At)) (z0v fun x hx=>h x (An _ hx))
theorem z0w:∀{zs:List Zp},(∀z∈zs,Low z.2)->Cd (zs.map fun z=>PyData.tuple (dP z.2))=true
 |[],_=>by simp[Cd]
 |z::zs,h=>by
  simp only[Aw,Cd];rw[q2g (h z At),z0w fun x hx=>h x (An _ hx)];rfl
theorem z3j{K:Ak}{zs:List Zp}(ha:H a=some (.lst (zs.map fun z=>V.ref z.1)))(hz:∀z∈zs,H z.1=some (.tup (vP z.2)))(hb:H b=some (.lst []))(l:∀z∈zs,Low z.2)(k:Q (.bl (!decide (zs=[]))) H):rNeU K (.ref a) (.ref b) H Q:=by
 refine .inr ⟨_,_,.lst (SqL.of ha) (z0v hz),.lst (SqL.of hb) .nil,by simp only[Fq];exact z0w l,by simp[Fq,Cd],?_,?_⟩
 ·have:(PyData.list []).depth<=100:=by simp[Ht,Eo]
  lia
 ·have e:Ey (.list (zs.map fun z=>PyData.tuple (dP z.2))) (.list [])=decide (zs=[]):=by cases zs<;>simp[Ey,Gx]
  rw[e];exact k
theorem q0y{K:Ak}(ha:H a=some (.tup (vP p)))(hb:H b=some (.tup (vP q)))(lp:Low p)(lq:Low q)(k:Q (.bl (decide (p=q))) H):rEqU K (.ref a) (.ref b) H Q:=by
 refine .inr ⟨_,_,q1y ha,q1y hb,q2g lp,q2g lq,by have:=q3t p;lia,?_⟩;rw[q4z];exact k
def uppN(n:List Nat):List Nat:=n.map up1
theorem ns_up:∀c∈NS,up1 c∈NS:=by decide +kernel
theorem okN.up(h:okN n):okN (uppN n):=⟨by unfold uppN;rw[Ab];exact h.one,by unfold uppN;rw[Ab];exact h.few,fun c hc=>by
 obtain⟨x,hx,rfl⟩:=Ac.mp hc;exact ns_up x (h.all x hx)⟩
theorem z9y(h:∀c∈n,c<128):Uq (mk n)=mk (uppN n):=by
 rw[upper_ascii (by show ∀c∈tl (mk n),c<128;exact h)];apply ext;rw[q2w];rw[Ow];rfl
theorem q3u(e:H a=some (dR rs))(eb:H b=some (.tup (vP p))):DGet H a (.ref b) (valV (rs.map fun r=>(kP r.1,r.2)) (kP p)) :=
 .inr ⟨_,kP p,b,.inl e,rfl,by rw[q1x];exact eb,rfl⟩
end HM
namespace HT
open PySem PyProof.Rows
section
variable{prog:Program}{w:World}{A:Around}{E:Value->Shared->Prop}{s:Shared}
theorem getItem_tuple_whole{lo:Option Int}(ht:IsTup s.heap t items)(hs:s.heap.IsSliceOf sl vl vu .none)(pl:IsPart vl lo)(pu:IsPart vu hi)(hw:sIx items.size 0 lo=0/\sIx items.size items.size hi=items.size)(h:Q (.ref t) s):wpAny (model prog w) A (getItem (.ref t) (.ref sl)) Q E s:=by
 obtain⟨os,hos,hcs,hds⟩:=id hs;have hTs:s.TypeIs (.ref sl) "slice" := ⟨os,hos,hcs⟩
 unfold getItem;try with_reducible refine Ca ?_
 refine Aa (Ss ht.typeIs (by decide) ?_);refine Aa (Bs ht.typeIs Dk
  (Bo Dk ht.typeIs entry_tuple_getitem ?_ (Se _ _)))
 show wpAny _ _ (Je (.ref t) >>= _) _ _ s;refine Aa (tupleItemsOf_ ht ?_);refine Aa (Fj hTs ?_);refine Aa (q3n hs pl pu ?_);show wpAny _ _ (if (((sIx items.size 0 lo:Nat):Int)==0&&(1:Int)==1&&(sIx items.size items.size hi-sIx items.size 0 lo)==items.size)=true then _ else _) _ _ s;rw[if_pos (by rw[hw.1,hw.2];simp)];refine Aa (Aa (Fj ht.typeIs (Ad ?_)));exact Aa (Fk (Ad ⟨_,rfl,Ad h⟩))
end
end HT
namespace L2
open PySem PySem.Spec PyProof.Rows
def rSlP:V->Option Int->Option Int->Hp->VK->Prop:=fun x lo hi H Q=>∃a xs,x=.ref a/\H a=some (.tup xs)/\∀c H',Same H H'->H' c=some (.tup (cutV xs lo hi))->Q (.ref c) H'
theorem sl_P:SlR X rSlP:=by
 intro pins s σ H x v vl vu lo hi sl Q I rx hs pl pu h;obtain⟨a,xs,rfl,hx,q⟩:=h;by_cases hw:HT.sIx xs.length 0 lo=0/\HT.sIx xs.length xs.length hi=xs.length
 ·cases rx;obtain⟨its,r,ht,hz⟩:=I.tuple (SqT.of hx);have hlen:its.toArray.size=xs.length:=by rw[Az];exact r.length.symm
  refine⟨"tuple",_,Dk.lookup,ht.typeIs,?_⟩;refine HT.getItem_tuple_whole ht hs pl pu (by rw[hlen];exact hw) ⟨.ref a,H,I,rfl,q a H (Same.refl H) ?_⟩;unfold cutV;rw[hw.1,hw.2,Ko,Iy,Bb];exact hx
 ·exact x0x pins s σ H _ v vl vu lo hi sl Q I rx hs pl pu ⟨a,xs,rfl,SqT.of hx,hw,fun p hp=>q p _ ((Same.refl H).new hp) q0b⟩
end L2
namespace HM
open PySem PySem.Spec PyProof.Rows L2 TX SB
theorem z7e(p q a:Pth):carry p q (p++a)=q++a:=by unfold carry;rw[if_pos (by simp),List.drop_left]
theorem q9d(h:x.take p.length≠p):carry p q x=x:=if_neg h
end HM
namespace L2
open PySem PySem.Spec PyProof.Rows
section
variable{X:Cx}{pins:List (Addr×Obj)}{σ:St}{H:Hp}{s:Shared}
abbrev Cx.pinned(X:Cx)(pn:List (Addr×Obj)):Cx:={ X with pn:=pn }
theorem Cx.Ok.pinned{pn:List (Addr×Obj)}(ok:X.Ok):(X.pinned pn).Ok:=⟨ok.mod,ok.kind,ok.glob,ok.blt,ok.above,ok.inj,ok.has,ok.cab,ok.hd,ok.frames,ok.stk,ok.exf,ok.bs,ok.bsz,ok.noex,ok.exfs,ok.funs,ok.frf⟩
end
open PySem PySem.Spec PyProof.Rows
theorem q8c:∀{cs:List Addr} {us:List Value},Vals (cs.map V.ref) us->us=cs.map Value.ref
 |[],_,.nil=>rfl
 |c::cs,_,.cons r t=>by
  have h:_=Value.ref c:=r;rw[h,q8c t,Aw]
section
variable{X:Cx}
theorem z0x:CallR X (.type "str") (fun xs H Q=>∃n:Nat,xs=[.int (n:Int)]/\n<=10^14/\Q (.str (Ao (toString (n:Int)))) H):=by
 intro pins s σ H xs us Q I r h;obtain⟨n,rfl,h1,q⟩:=h;obtain⟨u,rfl,t,rfl⟩:=vals1 r;refine PySem.P.str_of_int ?_ ⟨.str (Ao (toString (n:Int))),H,I.tok _,⟨_,rfl⟩,q⟩;rw[Int.natAbs_natCast];have h2:n<2^50:=Ka h1 (by decide);have:n.log2<50:=by
  by_cases hz:n=0
  ·rw[hz];decide
  ·exact(Nat.log2_lt hz).mpr h2
 lia
end
end L2
namespace HM
open PySem PySem.Spec PyProof.Rows L2 TX SB
def inP(H:Hp)(q:Pth)(a:Addr):Bool:=match H a with|some (.tup xs)=>decide (xs=vP q)|_=>false
theorem vP_inj(h:vP p=vP q):p=q:=by
 have e:(vP p).map (fun v=>match v with|.str s=>tl s|_=>[])=(vP q).map (fun v=>match v with|.str s=>tl s|_=>[]):=by rw[h]
 have f:∀x:Pth,(vP x).map (fun v=>match v with|.str s=>tl s|_=>[])=x:=fun x=>by
  rw[Ap];refine Eq.trans (Cs fun n _=>q2w n) (Th x)
 rw[f,f] at e;exact e
theorem z7f(h:H a=some (.tup (vP r))):inP H q a=decide (r=q):=by
 unfold inP;rw[h];exact decide_eq_decide.mpr ⟨vP_inj,fun z=>by rw[z]⟩
def rInP(neg:Bool):R2:=fun x y H Q=>∃(p L:Addr) (bs:List Addr) (q:Pth),x=.ref p/\y=.ref L/\H L=some (.lst (bs.map V.ref))/\H p=some (.tup (vP q))/\Low q/\(∀b∈bs,∃r,H b=some (.tup (vP r))/\Low r)/\Q (.bl (if neg then !bs.any (inP H q) else bs.any (inP H q))) H
section
variable{X:Cx}{k:Nat}
def eR(H:Hp)(q:Pth):Value->Bool|.ref a=>inP H q a|_=>false
theorem any_eR(bs:List Addr):(bs.map Value.ref).toArray.any (eR H q)=bs.any (inP H q):=by
 rw[show(bs.map Value.ref).toArray.any (eR H q)=(bs.map Value.ref).any (eR H q) by simp,List.any_map];rfl
theorem z7g(hr:Room k X.A){σ:L2.St}(I:Inv X pins σ H s){bs:List Addr}(hp:H p=some (.tup (vP q)))(lq:Low q)(hb:∀b∈bs,∃r,H b=some (.tup (vP r))/\Low r):
  ∀w∈(bs.map Value.ref).toArray,Di X.A.in1 s w (.ref p) (eR H q w):=fun w hw=>by
 obtain⟨b,hbm,rfl⟩:∃b∈bs,w=.ref b:=by
  have:w∈bs.map Value.ref:=by grind
  obtain⟨b,h1,h2⟩:=Ac.mp this;exact⟨b,h1,h2.symm⟩
 obtain⟨r,hr1,lr⟩:=hb b hbm;obtain⟨as,r1⟩:=(q1y hr1).reads I rfl;obtain⟨as2,r2⟩:=(q1y hp).reads I rfl;have hd:=q3t r;have hu:=hr.un;have e:=Ov _ _ X.A.in1 s _ _ _ _ r1 r2 (q2g lr) (q2g lq) (by show X.A.units+1+_<_;lia);rw[q4z] at e;show Di X.A.in1 s (.ref b) (.ref p) (inP H q b);rw[z7f hr1];exact e
theorem nin_P(hr:Room k X.A):OpR X (Cl .NotIn) (rInP true):=by
 intro pins s σ H x y v u Q I rx ry h;obtain⟨p,L,bs,q,rfl,rfl,hL,hp,lq,hb,qq⟩:=h;cases rx;cases ry;obtain⟨its,r,pl,hz⟩:=I.list (SqL.of hL);obtain rfl:=q8c r;exact SeqAt.notIn_listAt (eR H q) pl.isList (z7g hr I hp lq hb) ⟨.bl _,H,I,rfl,by rw[any_eR];exact qq⟩
end
open PySem PySem.Spec PyProof.Rows L2 TX SB
abbrev Mv:=Pth×Pth
def wk:List Rw->List Mv->List Rw
 |rows,[]=>rows
 |rows,m::r=>wk (rows.map (cR m.1 m.2)) r
section
variable{bl:Bool}
def tb(ms:List Mv):List Mv:=ms.reverse.map fun m=>(m.2,m.1)
end
def MT(H:Hp)(T:Addr)(m:Mv):Prop:=∃A B,H T=some (.tup [.ref A,.ref B])/\H A=some (.tup (vP m.1))/\H B=some (.tup (vP m.2))
abbrev Zm:=Addr×Mv
structure ML (H:Hp) (L:Addr) (zs:List Zm):Prop where
 at_:H L=some (.lst (zs.map fun z=>V.ref z.1))
 pr:∀z∈zs,MT H z.1 z.2
theorem MT.keep(h:MT H T m)(k:∀T xs,H T=some (.tup xs)->H' T=some (.tup xs)):MT H' T m:=let ⟨A,B,h1,h2,h3⟩:=h;⟨A,B,k _ _ h1,k _ _ h2,k _ _ h3⟩
theorem ML.same(h:ML H L zs)(s:Same H H'):ML H' L zs:=⟨s _ _ h.at_,fun z hz=>(h.pr z hz).keep fun T xs e=>s _ _ e⟩
theorem ML.fd(h:ML H L zs)(F:FeedAt H a b)(fd:Fd a b H H')(hL:L≠a):ML H' L zs:=⟨fd.at h.at_ hL,fun z hz=>(h.pr z hz).keep (tupFd F fd)⟩
theorem ML.nil(h:H L=some (.lst [])):ML H L []:=⟨h,fun _ z=>nomatch z⟩
theorem ML.cut(h:ML H L zs)(hL:H L'=none)(n:Nat):ML (upd H L' (.lst ((zs.map fun z=>V.ref z.1).drop n))) L' (zs.drop n) :=
 ⟨by rw[q0b,Jg],fun z hz=>(h.pr z (Mn hz)).keep fun T xs e=>by rw[q0c (q0i e hL)];exact e⟩
theorem ML.pre(h:ML H L zs)(hL:H L'=none)(n:Nat):ML (upd H L' (.lst ((zs.map fun z=>V.ref z.1).take n))) L' (zs.take n) :=
 ⟨by rw[q0b,Jh],fun z hz=>(h.pr z (Hb hz)).keep fun T xs e=>by rw[q0c (q0i e hL)];exact e⟩
end HM
namespace L2
open PySem PySem.Spec PyProof.Rows
theorem q9e(ho:s.heap.get? a=some o)(hc:o.ExactDict)(hd:o.data=.dict es ep)(hs:(a==Cm)=false)(hz:es.size<=sizeLine)(h:∀t t',Q (.int es.size t) { s with toks:=t' }):wpAny (model prog w) A (call (.builtin "len") [.ref a]) Q E s:=by
  have hT:s.TypeIs (.ref a) "dict" := ⟨o,ho,hc.1⟩
  have hz63:¬((es.size:Nat):Int)>=2^63:=by rw[Ev] at hz;lia
  refine Qz (Mg (by decide +kernel) entry_len ?_);have hck:Ll "len" ⟨[.ref a],[]⟩=pure ():=by
    first
      |exact checkBuiltinCall_of_none (by decide +kernel) (by decide +kernel) _
      |rfl
      |(unfold Ll;rfl)
  refine Gk hck ?_;refine Aa ?_;refine Ad (Aa (Bs hT Qr (Bo Qr hT PySem.F.entry_dict_len ?_ (PySem.F.args_dict_len_1 _))));refine Aa (Aa (Fn hT ?_));refine Ad ?_;show wpAny _ _ (do
      let __do_lift<-dictSize a;let __do_lift_1<-Of a
      retInt (↑__do_lift + ↑__do_lift_1)) _ _ _
  unfold dictSize Of;rw[hs];refine Aa (Aa (Cj ho hd (Ad ?_)));refine Aa (Ad ?_);have e0:((es.size:Nat):Int)+((0:Nat):Int)=es.size:=by lia
  rw[e0]
  wp_walk
  refine⟨_,rfl,?_⟩;have hn:¬((es.size:Nat):Int)<0:=by lia
  refine Aa (Ca ?_);refine Ad (Aa (Fr ?_));rw[if_neg hn,if_neg hz63]
  wp_walk
  exact h _ _
theorem z7h:CallR X (.builtin "len") (fun xs H Q=>∃d kvs,xs=[V.ref d]/\H d=some (.dT kvs)/\Q (.int kvs.length) H):=by
 intro pins s σ H xs us Q I r h;obtain⟨d,kvs,rfl,e,q⟩:=h;obtain⟨u,rfl,ru⟩:=vals1 r;cases ru;obtain⟨z,hd,xs,rel,dd⟩:=x2l I.hok e;obtain⟨o',es,ep,ho',hc,hdd,he,his,hn⟩:=dd;have hlen:es.size=kvs.length:=by
  have:=congrArg List.length he;rw[Ab,Fe] at this;rw[this,Dv rel]
 refine q9e ho' hc hdd hd (by rw[hlen];exact z) fun t t'=>⟨.int kvs.length,H,I.tok _,⟨t,by rw[hlen]⟩,q⟩
section
variable{P:Program}{w:World}
def IsPairKey(P:Program)(w:World)(h:Heap)(k:List Key×Key)(a:Addr):Prop:=∃o n b v,h.get? a=some o/\o.cls=.type "tuple" /\ o.data=.seq #[.ref b,v] n/\IsTupleKey (mixKind P w) h k.1 b/\(mixKind P w).is k.2 v=true
theorem IsPairKey.typeIs{s:Shared}{k:List Key×Key}{a:Addr}(x:IsPairKey P w s.heap k a):s.TypeIs (.ref a) "tuple" := let ⟨o,_,_,_,ho,hc,_⟩:=x;⟨o,ho,hc⟩
theorem IsPairKey.inj{h:Heap}{a:Addr}{x y:List Key×Key}(hx:IsPairKey P w h x a)(hy:IsPairKey P w h y a):x=y:=by
 obtain⟨o,n,b,v,ho,_,hd,h1,h2⟩:=hx;obtain⟨o',n',b',v',ho',_,hd',h1',h2'⟩:=hy;obtain rfl:o=o':=Bj (ho.symm.trans ho');rw[hd] at hd';injection hd' with e1 _;have e2:=congrArg Array.toList e1;injection e2 with e3 e4;injection e3 with e3;injection e4 with e4 _;subst e3 e4;exact Tm (h1.inj h1') ((mixKind P w).inj _ _ _ h2 h2')
theorem IsPairKey.keeps{h h':Heap}{k:List Key×Key}{a d:Addr}{o:Obj}{es ep}(x:IsPairKey P w h k a)(ho:h.get? d=some o)(hd:o.data=.dict es ep)(hs:Fh d h h'):IsPairKey P w h' k a:=by
 obtain⟨o',n,b,v,ho',hc,hd',h1,h2⟩:=x;have hne:a≠d:=by
  rintro rfl;obtain rfl:o'=o:=Bj (ho'.symm.trans ho);rw[hd] at hd';exact nomatch hd'
 exact⟨o',n,b,v,(hs.2 a hne).trans ho',hc,hd',h1.keeps ho hd hs,h2⟩
def pairHash(P:Program)(w:World)(k:List Key×Key):Int:=reduceHash (Hc [Hu (mixKind P w) k.1,(mixKind P w).hash k.2])
variable{A:Around}{E:Value->Shared->Prop}{s:Shared}
theorem z7i{k:List Key×Key}{a:Addr}{Q:Int->Shared->Prop}(hu:A.units+1<cLine)(hk:IsPairKey P w s.heap k a)(h:Q (pairHash P w k) { s with toks:=s.toks+(k.1.length+3) }):
  wpAny (model P w) A (pyHash (.ref a)) Q E s:=by
 have hT:=hk.typeIs;obtain⟨o,n,b,v,ho,_,hd,h1,h2⟩:=hk;unfold pyHash;first|unfold pyHashByItsType|skip
 first|refine Aa (wpAny_cRoomFor_or (.inr (by lia)) ?_)|skip
 refine Aa (Jp hT Kx.lookup ?_);show wpAny _ _ (if (some (Value.builtin "tuple.__hash__")==some Value.none)=true then _ else _) Q E s;rw[if_neg (by rw[beq_builtin_none];exact Bd)];refine Aa (Jp hT Kx.lookup ?_);show wpAny _ _ (callSpecialIfBoundUnlessNone? (.ref a) "__hash__" _ >>= _) Q E s;refine Aa (wpAny_callSpecialIfBoundUnlessNone?_slot hT Kx (Bo Kx hT F.entry_tuple_hash ?_ (F.args_tuple_hash_1 _)));show wpAny _ _ (Je (.ref a) >>= _) _ _ s;refine Aa (Ng ho hd ?_);refine Aa ?_;rw[<- Nh];refine Gg _
  (fun rest (c:Array Int) s'=>(rest=[.ref b,v]/\c.toList=[]/\s'=s)\/(rest=[v]/\c.toList=[Hu (mixKind P w) k.1]/\s'={ s with toks:=s.toks+(k.1.length+1) }) \/
   (rest=[]/\c.toList=[Hu (mixKind P w) k.1,(mixKind P w).hash k.2]/\s'={ s with toks:=s.toks+(k.1.length+2) }))
  _ ?_ ?_ _ _ (.inl ⟨rfl,rfl,rfl⟩)
 ·rintro x rest c s' (⟨e,hc,rfl⟩|⟨e,hc,rfl⟩|⟨e,_⟩)
  ·cases e;refine Aa (wpAny_pyHash_tuple (Ec (knd:=mixKind P w) hu) h1 ?_);have q:∀{x:Array Int},x=c.push (Hu (mixKind P w) k.1)->x.toList=[Hu (mixKind P w) k.1]:=fun e=>by rw[e];simp[hc]
   first
    |exact Ad (.inr (.inl ⟨rfl,q rfl,rfl⟩))
    |exact Aa (Ad (Ad (.inr (.inl ⟨rfl,q rfl,rfl⟩))))
  ·cases e;refine Aa ((mixKind P w).pyHash h2 ?_);have q:∀{x:Array Int},x=c.push ((mixKind P w).hash k.2)->x.toList=[Hu (mixKind P w) k.1,(mixKind P w).hash k.2]:=fun e=>by rw[e];simp[hc]
   first
    |exact Ad (.inr (.inr ⟨rfl,q rfl,rfl⟩))
    |exact Aa (Ad (Ad (.inr (.inr ⟨rfl,q rfl,rfl⟩))))
  ·cases e
 ·rintro c s' (⟨e,_⟩|⟨e,_⟩|⟨_,hc,rfl⟩)
  ·cases e
  ·cases e
  show wpAny _ _ (retInt (Hc c.toList)) _ _ _;rw[hc];refine wpAny_ret_mkInt ?_;show wpAny _ _ (if (decide (-(2:Int)^63<=Hc [Hu (mixKind P w) k.1,(mixKind P w).hash k.2])&&decide (Hc [Hu (mixKind P w) k.1,(mixKind P w).hash k.2]<2^63))=true then _ else _) Q E _;unfold pairHash reduceHash at h;split
  ·rename_i hr;rw[if_pos hr] at h;exact Ad h
  ·rename_i hr;rw[if_neg hr] at h;exact Aa (Fk (Ad h))
theorem z0y{x y:List Key×Key}{a b:Addr}{R:Fin->Shared->Prop}(hu:A.units<cLine)(hx:IsPairKey P w s.heap x a)(hy:IsPairKey P w s.heap y b)(h:R (.done (.ret (.bool (decide (x=y))))) s):
  wpAny (model P w) A (Cy.«tuple.__eq__» ⟨[.ref a,.ref b],[]⟩) R E s:=by
 have hTb:=hy.typeIs;obtain⟨oa,na,a1,v1,hoa,_,hda,ha1,hv1⟩:=hx;obtain⟨ob,nb,b1,v2,hob,_,hdb,hb1,hv2⟩:=hy;show wpAny _ _ (isInstance (.ref b) (.type "tuple") >>= _) _ _ s;refine Aa (Ed hTb Ls ?_);simp only[Eg,Ax,if_false];refine Aa (Ng hoa hda ?_);refine Aa (Ng hob hdb ?_);refine Aa ?_;refine Gg _
  (fun rest r s'=>r.1=none/\s'=s/\((rest=[(.ref a1,.ref b1),(v1,v2)])\/(rest=[(v1,v2)]/\x.1=y.1)\/(rest=[]/\x=y)))
  _ ?_ ?_ _ _ ⟨rfl,rfl,.inl rfl⟩
 ·rintro⟨u,v⟩ rest r s' ⟨hr,rfl,e|⟨e,e1⟩|⟨e,_⟩⟩
  ·cases e;refine Aa (wpAny_eqBool_tuple hu ha1 hb1 ?_);by_cases hk:x.1=y.1
   ·rw[decide_eq_true hk];simp only[Eg,Ax,if_false];exact Ad ⟨rfl,rfl,.inr (.inl ⟨by trivial,hk⟩)⟩
   ·rw[decide_eq_false hk];simp only[My,if_true];have hf:decide (x=y)=false:=decide_eq_false fun z=>hk (by rw[z]);rw[hf] at h;exact Aa (Ad (Ad (Ad h)))
  ·cases e;refine Aa ((mixKind P w).eqBool (a:=x.2) (b:=y.2) hv1 hv2 ?_);by_cases hk:x.2=y.2
   ·rw[decide_eq_true hk];simp only[Eg,Ax,if_false];exact Ad ⟨rfl,rfl,.inr (.inr ⟨by trivial,Tm e1 hk⟩)⟩
   ·rw[decide_eq_false hk];simp only[My,if_true];have hf:decide (x=y)=false:=decide_eq_false fun z=>hk (by rw[z]);rw[hf] at h;exact Aa (Ad (Ad (Ad h)))
  ·cases e
 ·rintro⟨r1,r2⟩ s' ⟨hr,rfl,e|⟨e,_⟩|⟨_,e⟩⟩
  ·cases e
  ·cases e
  simp only at hr;subst hr;refine Ad ?_;rw[decide_eq_true e] at h;exact h
theorem x2z{x y:List Key×Key}{a b:Addr}{Q:Bool->Shared->Prop}(hu:A.units+1<cLine)(hx:IsPairKey P w s.heap x a)(hy:IsPairKey P w s.heap y b)(h:Q (decide (x=y)) s):
  wpAny (model P w) A (eqBool (.ref a) (.ref b)) Q E s:=by
 unfold eqBool;try with_reducible refine Ca ?_
 show wpAny _ _ (if (Value.ref a==Value.ref b)=true then _ else _) Q E s;by_cases hab:(Value.ref a==Value.ref b)=true
 ·rw[if_pos hab];have e:a=b:=by have:=eq_of_beq hab;injection this
  subst e;obtain rfl:=hx.inj hy;exact Aa (Fk (Ad (by simpa using h)))
 ·rw[if_neg hab];exact Aa (Ni (op:=.Eq) hx.typeIs hy.typeIs Mo
   (Bo Mo hx.typeIs F.entry_tuple_eq (z0y (Ec (knd:=mixKind P w) hu) hx hy ⟨_,rfl,(fun e=>nomatch e),Cn h⟩) (F.args_tuple_eq_2 _ _)) (by lia))
theorem z2c{n:Nat}{ks:List Key}{a:Addr}{Q:Bool->Shared->Prop}(hk:IsTupleKey (mixKind P w) s.heap ks a)(h:Q true s):wpAny (model P w) A (Sj (n+1) (.ref a)) Q E s:=by
 have hT:=hk.typeIs;obtain⟨o,items,m,ho,_,hd,hi⟩:=hk;unfold Sj;refine Aa (Jp hT Mo.lookup ?_);show wpAny _ _ (isInstance (.ref a) (.type "tuple") >>= _) _ _ s;refine Aa (Ed hT Ls ?_);simp only[Eg,Ax,if_false];refine Aa (Cz ho hd ?_);refine Aa ?_;show wpAny _ _ (forIn items _ _) _ _ s;rw[<- Nh];refine Gg _ (fun rest r s'=>r.1=none/\s'=s/\∀v∈rest,carriedByValue v=true) _ ?_ ?_ _ _ ⟨rfl,rfl,hi.byValue⟩
 ·rintro v rest r s' ⟨hr,rfl,hall⟩;rw[Tc _ (hall v At)];refine Aa (Ad ?_);simp only[Eg,Ax,if_false];exact Ad ⟨rfl,rfl,fun u hu'=>hall u (An _ hu')⟩
 ·rintro⟨r1,r2⟩ s' ⟨hr,rfl,_⟩;simp only at hr;subst hr;exact Ad h
theorem z4p{k:List Key×Key}{a:Addr}{Q:Bool->Shared->Prop}(hk:IsPairKey P w s.heap k a)(h:Q true s):wpAny (model P w) A (Sj 8 (.ref a)) Q E s:=by
 have hT:=hk.typeIs;obtain⟨o,m,b,v,ho,_,hd,h1,h2⟩:=hk;unfold Sj;refine Aa (Jp hT Mo.lookup ?_);show wpAny _ _ (isInstance (.ref a) (.type "tuple") >>= _) _ _ s;refine Aa (Ed hT Ls ?_);simp only[Eg,Ax,if_false];refine Aa (Cz ho hd ?_);refine Aa ?_;show wpAny _ _ (forIn #[Value.ref b,v] _ _) _ _ s;rw[<- Nh];refine Gg _ (fun rest r s'=>r.1=none/\s'=s/\(rest=[.ref b,v]\/rest=[v]\/rest=[])) _ ?_ ?_ _ _ ⟨rfl,rfl,.inl rfl⟩
 ·rintro u rest r s' ⟨hr,rfl,e|e|e⟩
  ·cases e;refine Aa (z2c h1 ?_);simp only[Eg,Ax,if_false];exact Ad ⟨rfl,rfl,.inr (.inl (by trivial))⟩
  ·cases e;rw[Tc _ ((mixKind P w).byValue _ _ h2)];refine Aa (Ad ?_);simp only[Eg,Ax,if_false];exact Ad ⟨rfl,rfl,.inr (.inr (by trivial))⟩
  ·cases e
 ·rintro⟨r1,r2⟩ s' ⟨hr,rfl,_⟩;simp only at hr;subst hr;exact Ad h
def pairKind(P:Program)(w:World):HeapKind P w (List Key×Key) where
 is:=IsPairKey P w
 hash:=pairHash P w
 draws:=fun k=>k.1.length+3
 room:=fun A=>A.units+1<cLine
 inj:=fun hx hy=>hx.inj hy
 keeps:=fun x ho hd hs=>x.keeps ho hd hs
 pyHash:=fun hu hk h=>z7i hu hk h
 eqBool:=fun hu hx hy h=>x2z hu hx hy h
 quiet:=fun hk h=>z4p hk h
end
open PySem PySem.Spec PyProof.Rows
abbrev PKey:=List Key×Key
def hasP(ks:List (PKey×Addr))(k:PKey):Bool:=ks.any fun x=>decide (x.1=k)
def entP(ks:List (PKey×Addr)):List (PKey×Addr×Value):=ks.map fun x=>(x.1,x.2,.bool true)
def PdO(P:Program)(w:World)(d:Addr)(ks:List (PKey×Addr)):HO:=.ext fun h=>∃o es ep,h.get? d=some o/\o.ExactDict/\o.data=.dict es ep/\es.toList=(entP ks).map (Iz (pairKind P w))/\((entP ks).map (·.1)).Nodup
def PrK(H:Hp)(k:PKey)(a:Addr):Prop:=∃c,H a=some (.tup [.ref c,kV k.2])/\H c=some (.tup (k.1.map kV))
structure DPr (P:Program) (w:World) (H:Hp) (d:Addr) (ks:List (PKey×Addr)):Prop where
 at_:H d=some (PdO P w d ks)
 sys:(d==Cm)=false
 len:ks.length<=sizeLine
 pk:∀x∈ks,PrK H x.1 x.2
section
variable{P:Program}{w:World}{H:Hp}{h:Heap}{d a:Addr}{ks:List (PKey×Addr)}{k:PKey}
theorem PrK.of(ok:HOk P w H h)(e:PrK H k a):(pairKind P w).is h k a:=by
 obtain⟨c,e1,e2⟩:=e;obtain⟨_,its,r,o,h1,h2,n,h3⟩:=(show ObjOk P w H h a (.tup [.ref c,kV k.2]) from ok a _ e1)
 cases r with
 |cons r1 r =>
 cases r with
 |cons r2 r =>
 cases r;cases(show _=Value.ref c from r1);exact⟨o,n,c,_,h1,h2,h3,q4t ok e2,z0j r2⟩
theorem DPr.of(x:DPr P w H d ks)(ok:HOk P w H h):h.DictOfH (pairKind P w) d (entP ks):=by
 obtain⟨⟨o,es,ep,h1,h2,h3,h4,h5⟩,_⟩:=(show ObjOk P w H h d (PdO P w d ks) from ok d _ x.at_)
 refine⟨o,es,ep,h1,h2,h3,h4,fun y hy=>?_,h5⟩;obtain⟨z,hz,rfl⟩:=Ac.mp hy;exact(x.pk z hz).of ok
theorem q8d:(atKey (entP ks) k).isSome=hasP ks k:=by
 unfold atKey entP hasP;rw[Ku];induction ks with
 |nil=>rfl
 |cons x xs ih =>
  rw[Aw,Gq,Lg];cases e:decide (x.1=k)
  ·rw[<- ih];simp[e]
  ·simp[e]
end
theorem PrK.same{H H':Hp}{k:PKey}{a:Addr}(h:PrK H k a)(s:Same H H'):PrK H' k a:=let ⟨c,e1,e2⟩:=h;⟨c,s _ _ e1,s _ _ e2⟩
theorem DPr.same{P:Program}{w:World}{H H':Hp}{d:Addr}{ks:List (PKey×Addr)}(x:DPr P w H d ks)(s:Same H H'):DPr P w H' d ks:=⟨s _ _ x.at_,x.sys,x.len,fun y hy=>(x.pk y hy).same s⟩
theorem DPr.put{P:Program}{w:World}{H:Hp}{d b:Addr}{ks:List (PKey×Addr)}{k:PKey}(x:DPr P w H d ks)(e:PrK H k b)(l:ks.length<sizeLine):DPr P w (upd H d (PdO P w d (ks++[(k,b)]))) d (ks++[(k,b)]):=by
 have nt:∀{c:Addr} {ys:List V},H c=some (.tup ys)->upd H d (PdO P w d (ks++[(k,b)])) c=some (.tup ys):=fun{c ys} e=>by
  rw[q0c (fun z=>by rw[z,x.at_] at e;cases e)];exact e
 have pk:∀{k':PKey} {a:Addr},PrK H k' a->PrK (upd H d (PdO P w d (ks++[(k,b)]))) k' a:=fun⟨c,e1,e2⟩=>⟨c,nt e1,nt e2⟩
 refine⟨q0b,x.sys,by rw[Al];exact l,fun y hy=>?_⟩;rcases Am.mp hy with hy|hy
 ·exact pk (x.pk y hy)
 ·rw[Ai.mp hy];exact pk e
section
variable{X:Cx}
def tDNewP(P:Program)(w:World):TE:=fun _ H Q=>∀p,H p=none->(p==Cm)=false->Q (.ref p) (upd H p (PdO P w p []))
theorem z3k{pos:Pos}(P:Program)(w:World)(hP:X.prog=P)(hw:X.w=w):PE X (.Dict [] [] pos) (tDNewP P w):=fun pins s σ H Q I h=>by
 subst hP hw;have hb:=I.big;have hs:(s.heap.objs.size==Cm)=false:=by rw[beq_eq_false_iff_ne];exact Et hb
 refine wpAny_Dict_empty ⟨.ref s.heap.objs.size,_,I.laid (o:=PdO X.prog X.w s.heap.objs.size []) (t':=s.toks) (fun _ _ q=>Ah _ q) (Aq _) ⟨⟨_,#[],0,Ar _ rfl,⟨rfl,rfl,rfl⟩,rfl,rfl,List.nodup_nil⟩,⟨_,Ar _ rfl⟩,fun h1 h2 ⟨o,es,ep,q1,q⟩ k=>⟨o,es,ep,k _ q1,q⟩⟩,rfl,h _ (I.hok.fresh (Aq _)) hs⟩
def tPNotIn(P:Program)(w:World)(ty td:TE):TE:=fun σ H Q=>ty σ H fun y H1=>td σ H1 fun x H2=>∃d ks b k,x=.ref d/\y=.ref b/\DPr P w H2 d ks/\PrK H2 k b/\Q (.bl (!hasP ks k)) H2
theorem z0z{i o:Expr}{ty td:TE}(P:Program)(w:World)(hP:X.prog=P)(hw:X.w=w)(hu:X.A.units+2<cLine)(hi:PE X i ty)(ho:PE X o td):PC X .NotIn i o (tPNotIn P w ty td):=by
 subst hP hw;intro pins s σ H Q I h;refine thn (hi pins s σ H _ I h) fun iv s1 ⟨y,H1,I1,ry,q1⟩=>thn (ho pins s1 σ H1 _ I1 q1) fun u s2 ⟨x,H2,I2,rx,d,ks,b,k,ex,ey,dp,pk,q2⟩=>?_;subst ex ey;obtain rfl:u=Value.ref d:=rx;obtain rfl:iv=Value.ref b:=ry;refine wpAny_notIn_heap (knd:=pairKind X.prog X.w) hu (pk.of I2.hok) dp.sys (dp.of I2.hok) ?_;rw[q8d];exact⟨.bl (!hasP ks k),H2,I2.tok _,rfl,q2⟩
def sPPut(P:Program)(w:World)(td ty tv:TE):TS:=fun D σ H=>tv σ H fun v H1=>td σ H1 fun x H2=>ty σ H2 fun y H3=>∃d ks b k,x=.ref d/\y=.ref b/\v=.bl true/\DPr P w H3 d ks/\PrK H3 k b/\hasP ks k=false/\ks.length<sizeLine/\D.nx σ (upd H3 d (PdO P w d (ks++[(k,b)])))
theorem z2d{i o value:Expr}{td ty tv:TE}{pos pos':Pos}(P:Program)(w:World)(hP:X.prog=P)(hw:X.w=w)(hu:X.A.units+2<cLine)(ho:PE X o td)(hi:PE X i ty)(hv:PE X value tv)(hs:Jt value (some (.Subscript o i pos')) pos.line X.env=pure false):
  PS X (.Assign [.Subscript o i pos'] value pos) (sPPut P w td ty tv):=by
 subst hP hw;intro pins s σ H D I h;refine Px (thn (hv pins s σ H _ I h) fun r s1 ⟨v,H1,I1,rv,q1⟩=>thn (ho pins s1 σ H1 _ I1 q1) fun u s2 ⟨x,H2,I2,rx,q2⟩=>thn (hi pins s2 σ H2 _ I2 q2) fun iv s3 ⟨y,H3,I3,ry,d,ks,b,k,ex,ey,ev,dp,pk,nk,lk,q3⟩=>?_) hs;subst ex ey ev;obtain rfl:u=Value.ref d:=rx;obtain rfl:iv=Value.ref b:=ry;obtain rfl:r=Value.bool true:=rv;refine Sf (knd:=pairKind X.prog X.w) hu (pk.of I3.hok) (dp.of I3.hok) (fun h' dd hs=>?_) (by unfold entP;rw[Ab];exact Gm lk);have hn:atKey (entP ks) k=none:=by
  have:=q8d (ks:=ks) (k:=k);rw[nk] at this;cases e:atKey (entP ks) k with
  |none=>rfl
  |some _=>rw[e] at this;cases this
 rw[storedH_new hn] at dd;have ee:entP ks++[(k,b,Value.bool true)]=entP (ks++[(k,b)]):=by unfold entP;rw[Af];rfl
 rw[ee] at dd;obtain⟨o,es,ep,e1,e2,e3,e4,_,e5⟩:=dd;refine⟨σ,_,I3.write (x:=d) (e:=d) (o:=PdO X.prog X.w d (ks++[(k,b)])) (by rw[dp.at_];exact True.intro) (.inl rfl) (fun c q hc z=>(hs.2 c hc).trans z) ⟨o,e1⟩ ⟨⟨o,es,ep,e1,e2,e3,e4,e5⟩,⟨o,e1⟩,fun h1 h2 ⟨o,es,ep,q1,q⟩ k=>⟨o,es,ep,k _ q1,q⟩⟩,q3⟩
end
theorem z1a{k:Nat}{A:Around}(hr:Room k A):A.units+2<cLine:=Ka (Rp (by decide:2<=64) _) hr.units
open PySem PySem.Spec PyProof.Rows SB
abbrev Zq:=Addr×HRow
def rSortR:List V->Hp->VK->Prop:=fun vs H Q=>∃l,∃zs:List Zq,vs=[.ref l]/\H l=some (.lst (zs.map fun z=>V.ref z.1))/\zs.length<64/\(∀z∈zs,PR H z.1 z.2/\Low z.2.1)/\(zs.map (·.2.1)).Nodup /\
 ∀(L:Addr) (zs':List Zq),H L=none->zs'.Perm zs->(zs'.map (·.2.1)).Pairwise (fun a b=>pLt b a=false)->Q (.ref L) (upd H L (.lst (zs'.map fun z=>V.ref z.1)))
theorem z7j:∀{zs:List Zq} {us:List Value},Vals (zs.map fun z=>V.ref z.1) us->us=zs.map fun z=>Value.ref z.1
 |[],_,.nil=>rfl
 |z::zs,_,.cons r t=>by cases r;rw[z7j t];rfl
theorem q8e:∀(zs:List Zq),Vals (zs.map fun z=>V.ref z.1) (zs.map fun z=>Value.ref z.1)
 |[]=>.nil
 |z::zs=>.cons rfl (q8e zs)
theorem z4q(hr:Room k X.A):CallR X (.builtin "sorted") rSortR:=by
 intro pins s σ H xs us Q I rv h;obtain⟨l,zs,rfl,hl,few,hz,nd,q⟩:=h;obtain⟨u,rfl,ru⟩:=rv.one;cases ru;obtain⟨its,rv2,hil⟩:=q5i I hl;have e1:=z7j rv2;subst e1;refine SB.sorted_ok fun{Q'} kk=>?_;refine Og hil ?_;have kh:∀b o,s.heap.get? b=some o->((s.heap.push (Hq "list" #[] 0)).update s.heap.objs.size (Cw (· ++ (zs.map fun z=>Value.ref z.1).toArray))).get? b=some o:=fun b o e=>by
  rw[(Du ..).2 b (Bf (Au e))];exact Ah _ e
 have hz2:s.heap.objs.size<=((s.heap.push (Hq "list" #[] 0)).update s.heap.objs.size (Cw (· ++ (zs.map fun z=>Value.ref z.1).toArray))).objs.size:=by simp_all
 generalize (s.heap.push (Hq "list" #[] 0)).update s.heap.objs.size (Cw (· ++ (zs.map fun z=>Value.ref z.1).toArray))=h at kh hz2;have hpa:∀{z:Zq},z∈zs->∃m,PairAt h (.ref z.1) z.2.1 m:=fun{z} hzm=>by
  obtain⟨b,h1,h2⟩:=(hz z hzm).1;obtain⟨_,its,r,ht⟩:=(show ObjOk X.prog X.w H s.heap z.1 (.tup [.ref b,z.2.2]) from I.hok _ _ h1)
  cases r with
  |cons r1 r =>
  cases r with
  |cons r2 r =>
  cases r;cases(show _=Value.ref b from r1);exact⟨_,z.1,.ref b,rfl,SB.IsTup.keep ht fun o e=>kh _ o e,(I.path h2).keep kh⟩
 have hacc:∀{w:Value},w∈zs.map (fun z=>Value.ref z.1)->∃x∈zs,w=.ref x.1:=fun{w} hw=>by
  obtain⟨x,hx,rfl⟩:=Ac.mp hw;exact⟨x,hx,rfl⟩
 refine kk (zs.map fun z=>Value.ref z.1) h s.toks _ _ _ (SB.ready_pairs (ps:=zs.map (·.2.1)) (by rw[Ab];exact few) (fun w hw=>?_) (fun w hw y hy p mm mm' hp1 hp2=>?_) (by have:=hr.un;lia)) fun h' out so kh' ⟨e,he⟩=>?_
 ·obtain⟨x,hx,rfl⟩:=hacc hw;obtain⟨m,hm⟩:=hpa hx;exact⟨_,Ac.mpr ⟨x,hx,rfl⟩,m,(hz x hx).2,hm⟩
 ·obtain⟨x,hx,rfl⟩:=hacc hw;obtain⟨x2,hx2,rfl⟩:=hacc hy;obtain⟨m,hm⟩:=hpa hx;obtain⟨m2,hm2⟩:=hpa hx2;have q1:=SB.PairAt.inj hp1 hm;have q2:=SB.PairAt.inj hp2 hm2;rw[q0t nd hx hx2 (q1.symm.trans q2)]
 obtain⟨zs',p1,p2⟩:=SB.perm_map_inv so.perm rfl;have hrise:=so.rise;rw[p2] at hrise;have hps:=SB.rise_paths (fun w a b ⟨_,x⟩ ⟨_,y⟩=>SB.PairAt.inj x y) (fun z hzz=>by
  have hzm:=p1.mem_iff.mp hzz;exact⟨hpa hzm,Ac.mpr ⟨_,hzm,rfl⟩⟩) hrise
 have keep:=fun b o z=>kh' b o (kh b o z);have hfr:=I.hok.fresh hz2;refine⟨.ref h.objs.size,upd H h.objs.size (.lst (zs'.map fun z=>V.ref z.1)),I.laid (t':=s.toks) keep hz2 ⟨by rw[Ab,p1.length_eq,Ev];lia,_,e,q8e _,?_⟩,rfl,q _ zs' hfr p1 hps⟩;rw[he,<- p2]
end L2
namespace SB
open PySem PyProof.Rows PySem.SeqAt
open AutoSeq1 (wpAny_loadPart')
open MeetsSeq MeetsSeq2 MeetsSeq3
theorem z9z(l:Addr)(items:Array Value)(n:Nat)(dd:Option Addr)(sl:Array (Option Value))(k:Nat):
  ∀i:Nat,items.size-i=k->Meets (Cy.«list.__eq__.loop» ⟨[.ref l,.ref l,Ds i,Ds 0],[]⟩)
   (fun _ R s=>s.heap.get? l=some { cls:=.type "list",dict:=dd,data:=.seq items n,slots:=sl }/\R (.ok (.ret (.bool false))) s):=by
 induction k with
 |zero =>
  intro i hk prog w A R s h;obtain⟨hp,g,d,tk,os⟩:=s;obtain⟨hl,h⟩:=h
  wp_walk using wpAny_loadPart' hl
  have hi1:items[((i:Nat):Int).toNat]?=none:=by simp;lia
  rw[hi1]
  wp_walk using wpAny_loadPart' hl
  show R (.ok (.ret (.bool (decide (items.size<items.size))))) _;simpa using h
 |succ k ih =>
  intro i hk prog w A R s h;obtain⟨hp,g,d,tk,os⟩:=s;obtain⟨hl,h⟩:=h
  wp_walk using wpAny_loadPart' hl
  have hlt:i<items.size:=by lia
  have hi1:items[((i:Nat):Int).toNat]?=some items[i]:=by simp[hlt]
  have hc:((i:Int)+1)=((i+1:Nat):Int):=by push_cast;rfl
  rw[hi1];refine Aa (EqAt.same items[i] prog w _ _ ?_)
  wp_walk
  rw[hc];exact⟨Db plain_eq_loop _,Da entry_eq_loop (by
   rw[Ci plain_eq_loop _];exact ih (i+1) (by lia) prog w A R _ ⟨hl,h⟩)⟩
theorem x0a (l : Addr) (items : Array Value) (n : Nat) (dd : Option Addr) (sl : Array (Option Value)) : Meets (Cy.«list.__lt__» ⟨[.ref l, .ref l], []⟩)
      (fun _ R s => s.heap.get? l = some { cls := .type "list", dict := dd, data := .seq items n, slots := sl } ∧ R (.ok (.ret (.bool false))) s) := by
  intro prog w A R s h;obtain ⟨hp, g, d, tk, os⟩ := s; obtain ⟨hl, h⟩ := h;have f3 := Qe
  wp_walk using wpAny_loadPart' hl
  exact ⟨Db plain_eq_loop _, Da entry_eq_loop (by
    rw [Ci plain_eq_loop _];exact z9z l items n dd sl _ 0 rfl prog w A R _ ⟨hl, h⟩)⟩
theorem x0b (l b : Addr) (items items2 : Array Value) (n n2 : Nat) (dd dd2 : Option Addr) (sl sl2 : Array (Option Value)) {x y : Value} (hx : items[0]? = some x) (hy : items2[0]? = some y) (r : Bool) : Meets (Cy.«list.__lt__» ⟨[.ref l, .ref b], []⟩)
      (fun A R s => s.heap.get? l = some { cls := .type "list", dict := dd, data := .seq items n, slots := sl } ∧ s.heap.get? b = some { cls := .type "list", dict := dd2, data := .seq items2 n2, slots := sl2 } ∧ EqAt A.in1 s x y false ∧
        (∀ (prog : Program) (w : World) (E : Value → Shared → Prop) (Q : Value → Shared → Prop), Q (.bool r) s → wpAny (model prog w) A.in1 (Qd .Lt x y) Q E s) ∧ R (.ok (.ret (.bool r))) s) := by
  intro prog w A R s h;obtain ⟨hp, g, d, tk, os⟩ := s; obtain ⟨hl, hb, he, hc, h⟩ := h;have f3 := Qe
  wp_walk using wpAny_loadPart' hl, wpAny_loadPart' hb
  refine ⟨Db plain_eq_loop _, Da entry_eq_loop ?_⟩;rw [Ci plain_eq_loop _];have go : ∀ i : Nat, i = 0 → wpAny (model prog w) A.in1 (Cy.«list.__eq__.loop» ⟨[.ref l, .ref b, Ds i, Ds 0], []⟩) (fun fin s' => match fin with | .done f => R (.ok f) s' | .again c' => c'.quiet = true ∧ Ew (model prog w) A c' R s') (fun e s' => R (.error e) s') ⟨hp, g, d, tk, os⟩ := fun i e0 => by
    wp_walk using wpAny_loadPart' hl, wpAny_loadPart' hb
    have hi1 : items[((i : Nat) : Int).toNat]? = some x := by rw [e0]; simpa using hx
    have hi2 : items2[((i : Nat) : Int).toNat]? = some y := by rw [e0]; simpa using hy
    rw [hi1, hi2];refine Aa (he prog w _ _ ?_)
    wp_walk using wpAny_loadPart' hl, wpAny_loadPart' hb
    rw [hi1, hi2];refine Aa (hc prog w _ _ ?_)
    wp_walk
    exact h
  exact go 0 rfl
section
variable{prog:Program}{w:World}{A:Around}{E:Value->Shared->Prop}{s:Shared}{x y:Value}{p q:Pth}
def HeadAt(h:Heap)(v:Value)(p:Pth):Prop:=∃a its k,v=.ref a/\h.IsList a its/\its[0]?=some k/\PathAt h k p
theorem HeadAt.keep{h h':Heap}{v:Value}{p:Pth}(x:HeadAt h v p)(k:∀b o,h.get? b=some o->h'.get? b=some o):HeadAt h' v p:=let ⟨a,its,z,e,⟨o,ho,r⟩,i,s⟩:=x;⟨a,its,z,e,⟨o,k _ _ ho,r⟩,i,s.keep k⟩
theorem HeadAt.inj{h:Heap}{v:Value}(h1:HeadAt h v p)(h2:HeadAt h v q):p=q:=by
 obtain⟨a,its,k,rfl,⟨o,ho,_,n,hd⟩,i1,s1⟩:=h1;obtain⟨a',its',k',e,⟨o',ho',_,n',hd'⟩,i2,s2⟩:=h2;cases e;obtain rfl:o=o':=Bj (ho.symm.trans ho');rw[hd] at hd';injection hd' with e1 _;subst e1;obtain rfl:k=k':=Bj (i1.symm.trans i2);exact s1.inj s2
theorem z7k{Q:Bool->Shared->Prop}(hx:HeadAt s.heap x p)(hy:HeadAt s.heap y q)(hxy:p=q->x=y)(lp:Low p)(lq:Low q)(hu:A.units+4<cLine)(h:Q (pLt p q) s):wpAny (model prog w) A (keyLt' oneType' x y) Q E s:=by
 obtain⟨l,its,k,rfl,hl,hk0,hk⟩:=hx;obtain⟨l2,its2,k2,rfl,hl2,hk02,hk2⟩:=hy;obtain⟨⟨cls,dd,data,sl⟩,ho,hc,n,hd⟩:=id hl;obtain⟨⟨cls2,dd2,data2,sl2⟩,ho2,hc2,n2,hd2⟩:=id hl2;simp only at hc hd hc2 hd2;subst hc hd hc2 hd2;rw[keyLt'_oneType,oneLt'_eq];simp only[if_true];refine Aa (wpAny_cRoomFor (by lia) ?_);refine Aa (wpAny_callSpecialIfBound?_slot (T := "list") ⟨_,ho,rfl⟩ Mp ?_);by_cases e:p=q
 ·have e1:=hxy e;cases e1;subst e;rw[q1k] at h;exact Kk Mp ⟨_,ho,rfl⟩ Qs (Qf _ _) (x0a l its n dd sl) ⟨ho,show wpAny _ _ _ _ _ _ from Cn h⟩
 ·refine Kk Mp ⟨_,ho,rfl⟩ Qs (Qf _ _) (x0b l l2 its its2 n n2 dd dd2 sl sl2 hk0 hk02 (pLt p q)) ⟨ho,ho2,?_,fun prog w E Q h'=>?_,show wpAny _ _ _ _ _ _ from Cn h⟩
  ·have:=z3e (A:=A.in1) hk hk2 lp lq (by show A.units+1+2<_;lia)
   rwa [decide_eq_false e] at this
  ·exact q9c hk hk2 (by show A.units+1<_;lia) h'
theorem z4r{vs:List Value}{Q:Kc->Shared->Prop}(h2:2<=vs.length)(hf:∀v∈vs,∃a,v=.ref a/\s.TypeIs v "list")(h:Q oneType' s):wpAny (model prog w) A (Tw vs.toArray) Q E s:=by
 rw[keyKind'_eq,Kw];refine Aa (Aa (q6t (g:=fun _=>none) vs (fun v hv Q' h'=>?_) (Ad ?_)))
 ·obtain⟨a,rfl,hT⟩:=hf v hv;refine Aa (m:=typeOf (.ref a)) (Fj (T := "list") hT ?_);have e:(Value.type "list" != Value.type "tuple")=true:=by decide
  rw[e];simp only[if_true];exact Ad h'
 ·cases vs with
  |nil=>simp at h2
  |cons v vs =>
   rw[if_neg (by simp),if_neg (by simp)];rw[oneTypeOnly'_eq,Kw];refine Aa (Aa (Aa (q6t (g:=fun _=>Value.type "list") (v::vs) (fun x hx Q' h'=>?_) (Ad ?_))))
   ·obtain⟨a,rfl,hT⟩:=hf x hx;exact Fj (T := "list") hT h'
   ·have e0:((v::vs).map fun _=>Value.type "list").toArray[0]?=some (Value.type "list"):=by simp
    have ea:(((v::vs).map fun _=>Value.type "list").toArray.all fun x=>x==Value.type "list")=true:=by simp
    rw[e0];dsimp only;rw[ea];simp only[if_true];exact Ad (Ad (by simpa using h))
theorem ready_lists{ps:List Pth}{vs:List Value}{h:Heap}(few:vs.length<64)(hp:∀v∈vs,∃p∈ps,Low p/\HeadAt h v p)(hi:∀u∈vs,∀v∈vs,∀p,HeadAt h u p->HeadAt h v p->u=v)(hu:A.units+16<cLine):
  Ready prog w A vs h oneType' (fun v=>v∈vs) (fun v=>(pRank ps (keyBy (HeadAt h) v):Int)) where
 few:=few
 all:=fun v hv=>hv
 kind:=fun h2 A' s' E Q _ k q=>by
  refine z4r h2 (fun v hv=>?_) q;obtain⟨p,_,_,x⟩:=hp v hv;obtain⟨a,its,z,rfl,⟨o,ho,hc,n,hd⟩,_,_⟩:=x.keep k;exact⟨a,rfl,o,ho,hc⟩
 tells:=fun A' s' hA k E x y Q hx hy h'=>by
  obtain⟨p,hp1,lp,x1⟩:=hp x hx;obtain⟨q,hq1,lq,y1⟩:=hp y hy;refine z7k (x1.keep k) (y1.keep k) (fun e=>by subst e;exact hi x hx y hy _ x1 y1) lp lq (by lia) ?_;have hK:∀v p q,HeadAt h v p->HeadAt h v q->p=q:=fun v p q a b=>a.inj b
  have e1:=q2u hK x1;have e2:=q2u hK y1;rw[q9b hp1 hq1,<- e1,<- e2];exact h'
end
open PySem PyProof.Rows
section
variable{prog:Program}{w:World}{A:Around}{R:Result->Shared->Prop}{I:Addr}{fp wr:List Addr}{n:Nat}{P:Nat->Value->Prop}{St:Nat->Heap->Prop}
abbrev bestO(vb:Value)(c:Nat):Obj:={ cls:=.type "list",dict:=none,data:=.seq #[vb,vb] c,slots:=#[] }
theorem minLoopName:(toString "min" ++ toString ".loop" : String) = "min.loop" := by decide
structure MinC (prog:Program) (w:World) (A:Around) (P:Nat->Value->Prop) (bt:Nat->Nat->Bool) (h0:Heap) (wr:List Addr) (S:Addr):Prop where
 old:∀b∈wr,h0.get? b=none
 best:h0.get? S=none
 cmp:∀i j vi vj (s:Shared) (Q:Value->Shared->Prop) (E:Value->Shared->Prop),(∀b o,h0.get? b=some o->s.heap.get? b=some o)->P i vi->P j vj->Q (.bool (bt i j)) s->wpAny (model prog w) A.in1 (Qd .Lt vi vj) Q E s
theorem MinC.keep{bt:Nat->Nat->Bool}{h0 h h':Heap}{S:Addr}(M:MinC prog w A P bt h0 wr S)(k0:∀b o,h0.get? b=some o->h.get? b=some o)(k:∀b o,b∉wr->h.get? b=some o->h'.get? b=some o):∀b o,h0.get? b=some o->h'.get? b=some o :=
 fun b o e=>k b o (fun m=>by rw[M.old b m] at e;cases e) (k0 b o e)
theorem MinC.put{bt:Nat->Nat->Bool}{h0 h:Heap}{S:Addr}{f:Obj->Obj}(M:MinC prog w A P bt h0 wr S)(k0:∀b o,h0.get? b=some o->h.get? b=some o):∀b o,h0.get? b=some o->(h.update S f).get? b=some o :=
 fun b o e=>(Ce _ _ (fun z:S=b=>by subst z;rw[M.best] at e;cases e)).trans (k0 b o e)
theorem min_go{bt:Nat->Nat->Bool}{h0:Heap}{S:Addr}(W:Walks prog w A.in1 I fp wr n P St)(M:MinC prog w A P bt h0 wr S)(hSf:S∉fp):
  ∀(k j:Nat) (s:Shared) (vb:Value) (c:Nat),n-(j+1)=k->j+1<=n->St (j+1) s.heap->P (Gu bt j) vb->s.heap.get? S=some (bestO vb c)->(∀b o,h0.get? b=some o->s.heap.get? b=some o) ->
  (∀v h' tk,P (Gu bt (n-1)) v->(∀b o,h0.get? b=some o->h'.get? b=some o)->R (.ok (.ret v)) { s with heap:=h',toks:=tk })->Ew (model prog w) A (.builtin "min.loop" ⟨[.ref I,.none,.ref S],[]⟩) R s:=by
 have hSw:S∉wr:=fun h=>hSf (W.sub _ h);intro k;induction k with
 |zero =>
  intro j s vb c hk hj hst hPb hS k0 hR;have hin:j+1=n:=by lia
  refine Da Oy ?_;rw[Ci Gi _];show wpAny _ A.in1 (seqItems? (.ref S) >>= _) _ _ s;refine Aa (Cz hS rfl ?_);show wpAny _ A.in1 (tryCatch (Gb (.ref I)) _ >>= _) _ _ s;refine Aa (Kn (W.done s _ _ (hin▸hst) fun h' tk hk'=>?_));have hS':=hk' S _ hSw hS;show wpAny _ A.in1 (Lq S (fun _=>#[]) >>= _) _ _ _;refine Aa ?_;refine Fb hS' rfl (Aa (Fr (Ad (hR vb _ tk (by rw[<- hin];exact hPb) (M.put (M.keep k0 hk'))))))
 |succ k ih =>
  intro j s vb c hk hj hst hPb hS k0 hR;have hlt:j+1<n:=by lia
  refine Da Oy ?_;rw[Ci Gi _];show wpAny _ A.in1 (seqItems? (.ref S) >>= _) _ _ s;refine Aa (Cz hS rfl ?_);show wpAny _ A.in1 (tryCatch (Gb (.ref I)) _ >>= _) _ _ s;refine Aa (Kn (W.item (j+1) s _ _ hlt hst fun v h' tk hP hst' hk'=>?_));have hS':=hk' S _ hSw hS;have k1:=M.keep k0 hk';show wpAny _ A.in1 (tryCatch (Jl [v,v] (Qd .Lt v vb >>= _)) _ >>= _) _ _ _;refine Aa (Kn (Ca (Aa (M.cmp (j+1) (Gu bt j) v vb _ _ _ k1 hP hPb ?_))));refine Aa (Ca (Cn (Aa (Fr (Ad ?_)))));cases hb:bt (j+1) (Gu bt j) with
  |true =>
   simp only[if_true];refine Aa ?_;refine Fb hS' rfl (Aa (Fr ?_));rw[minLoopName];refine Ad ⟨Db Gi _,ih (j+1) _ v _ (by lia) hlt (W.frame _ _ _ hst' fun b hbf o e=>?_) (by simp only[Gu,hb,if_true];exact hP) (Fl _ hS' rfl) (M.put k1) hR⟩;exact(Ce _ _ (fun h:S=b=>hSf (by rw[h];exact hbf))).trans e
  |false =>
   simp only[Ax,if_false];refine Aa (Fr ?_);rw[minLoopName];exact Ad ⟨Db Gi _,ih (j+1) _ vb c (by lia) hlt hst' (by simp only[Gu,hb,Ax,if_false];exact hPb) hS' k1 hR⟩
theorem x3a{bt:Nat->Nat->Bool}{h0:Heap}{S:Addr}(W:Walks prog w A.in1 I fp wr n P St)(M:MinC prog w A P bt h0 wr S)(hSf:S∉fp)(hn:0<n){s:Shared}{c:Nat}(hst:St 0 s.heap)(hS:s.heap.get? S=some { cls:=.type "list",dict:=none,data:=.seq #[] c,slots:=#[] })(k0:∀b o,h0.get? b=some o->s.heap.get? b=some o)(hR:∀v h' tk,P (Gu bt (n-1)) v->(∀b o,h0.get? b=some o->h'.get? b=some o)->R (.ok (.ret v)) { s with heap:=h',toks:=tk }):
  Ew (model prog w) A (.builtin "min.loop" ⟨[.ref I,.none,.ref S],[]⟩) R s:=by
 have hSw:S∉wr:=fun h=>hSf (W.sub _ h);refine Da Oy ?_;rw[Ci Gi _];show wpAny _ A.in1 (seqItems? (.ref S) >>= _) _ _ s;refine Aa (Cz hS rfl ?_);show wpAny _ A.in1 (tryCatch (Gb (.ref I)) _ >>= _) _ _ s;refine Aa (Kn (W.item 0 s _ _ hn hst fun v h' tk hP hst' hk'=>?_));have hS':=hk' S _ hSw hS;show wpAny _ A.in1 (Lq S (fun _=>#[v,v]) >>= _) _ _ _;refine Aa ?_;refine Fb hS' rfl ?_;rw[minLoopName];refine Ad ⟨Db Gi _,min_go W M hSf _ 0 _ v _ rfl hn (W.frame _ _ _ hst' fun b hbf o e=>?_) hP (Fl _ hS' rfl) (M.put (M.keep k0 hk')) hR⟩;exact(Ce _ _ (fun h:S=b=>hSf (by rw[h];exact hbf))).trans e
end
theorem z1b{a b c:Pth}(h1:pLt b a=false)(h2:pLt c b=false):pLt c a=false:=by
 cases e:pLt c a with
 |false=>rfl
 |true =>
  by_cases hb:a=b
  ·subst hb;rw[h2] at e;cases e
  ·cases e2:pLt a b with
   |false=>exact absurd (q5h e2 h1) hb
   |true=>have:=q3s e e2;rw[h2] at this;cases this
theorem q8f{f:Nat->Pth}:∀k,Gu (fun i j=>pLt (f i) (f j)) k<=k/\∀i,i<=k->pLt (f i) (f (Gu (fun i j=>pLt (f i) (f j)) k))=false
 |0=>⟨Aq _,fun i h=>by
   have e:i=0:=Nat.le_zero.mp h;subst e;exact q1k _⟩
 |k+1=>by
  obtain⟨h1,h2⟩:=q8f (f:=f) k;cases e:pLt (f (k+1)) (f (Gu (fun i j=>pLt (f i) (f j)) k)) with
  |true =>
   simp only[Gu,e,if_true];refine⟨Aq _,fun i hi=>?_⟩;by_cases hik:i=k+1
   ·rw[hik];exact q1k _
   ·refine z1b (b:=f (Gu (fun i j=>pLt (f i) (f j)) k)) ?_ (h2 i (by lia));cases e2:pLt (f (Gu (fun i j=>pLt (f i) (f j)) k)) (f (k+1)) with
    |false=>rfl
    |true=>have:=q3s e e2;rw[q1k] at this;cases this
  |false =>
   simp only[Gu,e,Ax,if_false];refine⟨by lia,fun i hi=>?_⟩;by_cases hik:i=k+1
   ·rw[hik];exact e
   ·exact h2 i (by lia)
end SB
namespace L2
open PySem PySem.Spec PyProof.Rows SB
def rMinP:List V->Hp->VK->Prop:=fun vs H Q=>∃l,∃zs:List Zp,vs=[.ref l]/\H l=some (.lst (zs.map fun z=>V.ref z.1))/\zs≠[]/\zs.length<=sizeLine/\(∀z∈zs,H z.1=some (.tup (vP z.2))) /\
 ∀z∈zs,(∀y∈zs,pLt y.2 z.2=false)->Q (.ref z.1) H
theorem x1m{h:Heap}{b:Addr}(e:h.objs.size<=b):h.get? b=none:=by
 cases q:h.get? b with
 |none=>rfl
 |some o=>exact absurd (Bt (Au q) e) (Eu _)
theorem z7l:∀{zs:List Zp} {us:List Value},Vals (zs.map fun z=>V.ref z.1) us->us=zs.map fun z=>Value.ref z.1
 |[],_,.nil=>rfl
 |z::zs,_,.cons r t=>by cases r;rw[z7l t];rfl
theorem z7m(hc:X.calm=true)(hr:Room k X.A):CallR X (.builtin "min") rMinP:=by
 intro pins s σ H xs us Q I rv h;obtain⟨l,zs,rfl,hl,hne,few,hz,q⟩:=h;obtain⟨u,rfl,ru⟩:=rv.one;cases ru;obtain⟨its,rv2,hil⟩:=q5i I hl;have e1:=z7l rv2;subst e1;have hlt:l<s.heap.objs.size:=by obtain⟨_,e,_⟩:=hil;exact Au e
 have hpos:0<zs.length:=Bu.mpr hne;refine call_function_tree F.kind_min F.plain_min F.entry_min (F.args_min1 _) ?_;show wpAny _ X.A.in1 (Nj "min" ["key", "default"] 0 ⟨[],[]⟩ >>= _) _ _ s;refine Aa (Gk (show Nj "min" ["key", "default"] 0 ⟨[],[]⟩=pure [none,none] from rfl) (Aa (Ad ?_)));refine Aa (Kt hil (Aa (Br ?_)));rw[minLoopName];have hsz:((zs.map fun z=>Value.ref z.1).toArray).size=zs.length:=by simp
 refine Ad ⟨Db Gi _,x3a (I:=s.heap.objs.size) (fp:=[s.heap.objs.size,l]) (wr:=[s.heap.objs.size]) (h0:=s.heap) (bt:=fun i j=>pLt ((zs.map (·.2)).getD i []) ((zs.map (·.2)).getD j [])) (Walks.list (A:=X.A.in1) (I.ok.hd hc) s.heap.objs.size l (Bf hlt) (zs.map fun z=>Value.ref z.1).toArray) ⟨?_,?_,?_⟩ ?_ (by rw[hsz];exact hpos) ?_ (Ar _ rfl) ?_ ?_⟩
 ·intro b hb;rw[Ai.mp hb];exact x1m (Aq _)
 ·exact x1m (by simp)
 ·intro i j vi vj s' Q' E' kh hi hj hq;have hz':∀{i:Nat} {v:Value},(zs.map fun z=>Value.ref z.1).toArray[i]?=some v->PathAt s'.heap v ((zs.map (·.2)).getD i []):=fun{i v} hv=>by
   rw[Qt,Ae] at hv;cases e:zs[i]? with
   |none=>rw[e] at hv;cases hv
   |some z =>
    rw[e] at hv;cases hv;have:=(I.path (hz z (Ag e))).keep kh;rw[Ji,Ae,e];exact this
  exact q9c (hz' hi) (hz' hj) (by have:=hr.un;show X.A.units+1<_;lia) hq
 ·intro hm;have e2:(s.heap.push { cls:=Value.type "list_iterator",data:=.fields #[.ref l,.int 0 0] }).objs.size=s.heap.objs.size+1:=size_push' _ _;rcases Ay.mp hm with e|e
  ·have e:(s.heap.push { cls:=Value.type "list_iterator",data:=.fields #[.ref l,.int 0 0] }).objs.size=s.heap.objs.size:=e;lia
  ·have e:(s.heap.push { cls:=Value.type "list_iterator",data:=.fields #[.ref l,.int 0 0] }).objs.size=l:=Ai.mp e;rw[<- e,e2] at hlt;exact absurd hlt (Ur.mpr (Ig _))
 ·exact⟨⟨_,Ah _ (Ar _ rfl),rfl,rfl⟩,(hil.push _).push _⟩
 ·exact fun b o e=>Ah _ (Ah _ e)
 ·intro v h' tk hP kh;rw[hsz] at hP;obtain⟨b1,b2⟩:=q8f (f:=fun i=>(zs.map (·.2)).getD i []) (zs.length-1);generalize Gu (fun i j=>pLt ((zs.map (·.2)).getD i []) ((zs.map (·.2)).getD j [])) (zs.length-1)=m at hP b1 b2;have hv:(zs.map fun z=>Value.ref z.1).toArray[m]?=some v:=hP;rw[Qt,Ae] at hv;cases e:zs[m]? with
  |none=>rw[e] at hv;cases hv
  |some z =>
   rw[e] at hv;cases hv;have ez:(zs.map (·.2)).getD m []=z.2:=by rw[Ji,Ae,e];rfl
   refine⟨.ref z.1,H,I.kept (t':=tk) kh,rfl,q z (Ag e) fun y hy=>?_⟩;obtain⟨i,hi,ey⟩:=List.mem_iff_getElem.mp hy;have:=b2 i (by lia);rw[ez] at this;have ey2:(zs.map (·.2)).getD i []=y.2:=by rw[Ji,Ae,Bx hi,ey];rfl
   have t2:pLt ((zs.map (·.2)).getD i []) z.2=false:=this
   rwa [ey2] at t2
def HdL(H:Hp)(a:Addr)(p:Pth):Prop:=∃b rest,H a=some (.lst (.ref b::rest))/\H b=some (.tup (vP p))
def rSortH:List V->Hp->VK->Prop:=fun vs H Q=>∃(α:Type) (f:α->Pth) (l:Addr) (zs:List (Addr×α)),vs=[.ref l]/\H l=some (.lst (zs.map fun z=>V.ref z.1))/\zs.length<64/\(∀z∈zs,HdL H z.1 (f z.2)/\Low (f z.2))/\(zs.map fun z=>f z.2).Nodup /\
 ∀(L:Addr) (zs':List (Addr×α)),H L=none->zs'.Perm zs->(zs'.map fun z=>f z.2).Pairwise (fun a b=>pLt b a=false)->Q (.ref L) (upd H L (.lst (zs'.map fun z=>V.ref z.1)))
theorem z7n{α:Type}:∀{zs:List (Addr×α)} {us:List Value},Vals (zs.map fun z=>V.ref z.1) us->us=zs.map fun z=>Value.ref z.1
 |[],_,.nil=>rfl
 |z::zs,_,.cons r t=>by cases r;rw[z7n t];rfl
theorem q8g{α:Type}:∀(zs:List (Addr×α)),Vals (zs.map fun z=>V.ref z.1) (zs.map fun z=>Value.ref z.1)
 |[]=>.nil
 |z::zs=>.cons rfl (q8g zs)
theorem q8h(hr:Room k X.A):CallR X (.builtin "sorted") rSortH:=by
 intro pins s σ H xs us Q I rv h;obtain⟨α,f,l,zs,rfl,hl,few,hz,nd,q⟩:=h;obtain⟨u,rfl,ru⟩:=rv.one;cases ru;obtain⟨its,rv2,hil⟩:=q5i I hl;have e1:=z7n rv2;subst e1;refine SB.sorted_ok fun{Q'} kk=>?_;refine Og hil ?_;have kh:∀b o,s.heap.get? b=some o->((s.heap.push (Hq "list" #[] 0)).update s.heap.objs.size (Cw (· ++ (zs.map fun z=>Value.ref z.1).toArray))).get? b=some o:=fun b o e=>by
  rw[(Du ..).2 b (Bf (Au e))];exact Ah _ e
 have hz2:s.heap.objs.size<=((s.heap.push (Hq "list" #[] 0)).update s.heap.objs.size (Cw (· ++ (zs.map fun z=>Value.ref z.1).toArray))).objs.size:=by simp_all
 generalize (s.heap.push (Hq "list" #[] 0)).update s.heap.objs.size (Cw (· ++ (zs.map fun z=>Value.ref z.1).toArray))=h at kh hz2;have hpa:∀{z:Addr×α},z∈zs->HeadAt h (.ref z.1) (f z.2):=fun{z} hzm=>by
  obtain⟨b,rest,h1,h2⟩:=(hz z hzm).1;obtain⟨its2,r,ht⟩:=q5i I h1;cases r with
  |cons r1 r =>
  cases(show _=Value.ref b from r1);obtain⟨o,ho,hrest⟩:=ht;exact⟨z.1,_,.ref b,rfl,⟨o,kh _ _ ho,hrest⟩,rfl,(I.path h2).keep kh⟩
 have hacc:∀{w:Value},w∈zs.map (fun z=>Value.ref z.1)->∃x∈zs,w=.ref x.1:=fun{w} hw=>by
  obtain⟨x,hx,rfl⟩:=Ac.mp hw;exact⟨x,hx,rfl⟩
 refine kk (zs.map fun z=>Value.ref z.1) h s.toks _ _ _ (SB.ready_lists (ps:=zs.map fun z=>f z.2) (by rw[Ab];exact few) (fun w hw=>?_) (fun w hw y hy p hp1 hp2=>?_) (by have:=hr.un;lia)) fun h' out so kh' ⟨e,he⟩=>?_
 ·obtain⟨x,hx,rfl⟩:=hacc hw;exact⟨_,Ac.mpr ⟨x,hx,rfl⟩,(hz x hx).2,hpa hx⟩
 ·obtain⟨x,hx,rfl⟩:=hacc hw;obtain⟨x2,hx2,rfl⟩:=hacc hy;rw[q0t (f:=fun z=>f z.2) nd hx hx2 ((hp1.inj (hpa hx)).symm.trans (hp2.inj (hpa hx2)))]
 obtain⟨zs',p1,p2⟩:=SB.perm_map_inv so.perm rfl;have hrise:=so.rise;rw[p2] at hrise;have hps:=SB.rise_paths (K:=HeadAt h) (f:=fun z:Addr×α=>f z.2) (fun w a b x y=>SB.HeadAt.inj x y) (fun z hzz=>by
  have hzm:=p1.mem_iff.mp hzz;exact⟨hpa hzm,Ac.mpr ⟨_,hzm,rfl⟩⟩) hrise
 have keep:=fun b o z=>kh' b o (kh b o z);have hfr:=I.hok.fresh hz2;refine⟨.ref h.objs.size,upd H h.objs.size (.lst (zs'.map fun z=>V.ref z.1)),I.laid (t':=s.toks) keep hz2 ⟨by rw[Ab,p1.length_eq,Ev];lia,_,e,q8g _,?_⟩,rfl,q _ zs' hfr p1 hps⟩;rw[he,<- p2]
abbrev PVal:=PKey×Addr×Addr
end L2
namespace PySem.Rv
open Sem (wp)
section
variable{prog:Program}{w:World}{A:Around}{E:Value->Shared->Prop}{s:Shared}{it d v:Addr}{i ep:Nat}{dob:Obj}{ens:Array DictEntry}
abbrev valObj(d:Addr)(n ep:Nat):Obj:={ cls:=.type "dict_valueiterator",data:=.fields #[.ref d,.int 0 0,.int n 0,.int ep 0] }
theorem z2e(hv:s.heap.IsValuesView v d)(hdo:s.heap.get? d=some dob)(hda:dob.data=.dict ens ep)(hQ:Q (.ref s.heap.objs.size) { s with heap:=s.heap.push (valObj d ens.size ep) }):wpAny (model prog w) A (Ju (.ref v)) Q E s:=by
 obtain⟨ov,hov,hcv,hdv⟩:=id hv;refine Kv hv.typeIs Pj (Bo Pj hv.typeIs F.entry_dict_values_iter ?_ (F.args_dict_values_iter_1 _));unfold Cy.«dict_values.__iter__»;refine Aa (Ad (Aa ?_));unfold Oe;refine Aa (Cb hov hdv (x:=.ref d) rfl (Ad (Aa ?_)));unfold Mj;refine Aa (Cj hdo hda (Aa (Ea hdo hda ?_)));simp only[show Dy "dict_valueiterator" = false from by decide,Ax,if_false];refine Br (Ad ⟨_,rfl, "dict_valueiterator",_,⟨_,Ar _ rfl,rfl⟩,Ep.lookup,?_⟩);simpa[Ds,valObj] using hQ
theorem z2f(x:s.heap.IsValIter it d i ens.size ep)(hdo:s.heap.get? d=some dob)(hda:dob.data=.dict ens ep)(hlt:i<ens.size)(hQ:∀h',h'.IsValIter it d (i+1) ens.size ep->Fh it s.heap h'->Q (some ens[i].val) { s with heap:=h' }):wpAny (model prog w) A (Gb (.ref it)) Q E s:=by
 obtain⟨o,ho,hc,hd⟩:=id x;refine Aa (Dw (Bs (name:=Ao "__next__") x.typeIs Ep (Bo Ep x.typeIs Lw ?_ (Lm _))));refine Aa (Ad (Aa (Aa ?_)));first|refine Aa (Ga x.typeIs (Ad ?_))|refine Aa (Hv x.typeIs (Ad ?_))
 refine Aa (Ix ho hd ?_);simp only[show Dy "dict_valueiterator" = false from by decide,Ax,if_false];show wpAny _ _ (if (Value.ref d==Value.none)=true then _ else _) _ _ s;rw[if_neg (show ¬((Value.ref d==Value.none)=true) from Bd)];refine Aa (Ad (Aa (Cj hdo hda ?_)));rw[if_neg (by simp)];refine Aa (Ad (Aa (Ea hdo hda ?_)));rw[if_neg (by simp)];refine Ad ?_;simp only[show ¬((i:Int)<0) from by lia,if_false,Ek,Em hlt];refine Aa ?_;first|refine Aa (Ga x.typeIs (Ad ?_))|refine Aa (Hv x.typeIs (Ad ?_))
 refine Aa (Lu x.typeIs ?_);show wpAny _ _ (setField (.ref it) 1 (Ds ((i:Int)+1)) >>= _) _ _ s;refine Aa (Iw ho hd (by simp) ?_);have x':(s.heap.update it (Lh (·.setIfInBounds 1 (Ds ((i:Int)+1))))).IsValIter it d (i+1) ens.size ep:=⟨_,Fl _ ho (Lp (Gn hd _)),(Nw ..).trans hc,by rw[Gn hd];simp[Ds]⟩
 refine Aa (Ca (Aa (Lu (s:={ s with heap:=s.heap.update it (Lh (·.setIfInBounds 1 (Ds ((i:Int)+1)))) }) x'.typeIs ?_)));refine Aa (Lu (s:={ s with heap:=s.heap.update it (Lh (·.setIfInBounds 1 (Ds ((i:Int)+1)))) }) x'.typeIs ?_);exact Ad (Ad ⟨_,rfl,Ad (hQ _ x' (Du ..))⟩)
theorem z4s(hh:A.handled=none)(x:s.heap.IsValIter it d i ens.size ep)(hdo:s.heap.get? d=some dob)(hda:dob.data=.dict ens ep)(hge:ens.size<=i)(hQ:∀h',Na it s.heap h'->Q none { s with heap:=h' }):wpAny (model prog w) A (Gb (.ref it)) Q E s:=by
 obtain⟨o,ho,hc,hd⟩:=id x;refine Aa (Dw (Bs (name:=Ao "__next__") x.typeIs Ep (Bo Ep x.typeIs Lw ?_ (Lm _))));refine Aa (Ad (Aa (Aa ?_)));first|refine Aa (Ga x.typeIs (Ad ?_))|refine Aa (Hv x.typeIs (Ad ?_))
 refine Aa (Ix ho hd ?_);simp only[show Dy "dict_valueiterator" = false from by decide,Ax,if_false];show wpAny _ _ (if (Value.ref d==Value.none)=true then _ else _) _ _ s;rw[if_neg (show ¬((Value.ref d==Value.none)=true) from Bd)];refine Aa (Ad (Aa (Cj hdo hda ?_)));rw[if_neg (by simp)];refine Aa (Ad (Aa (Ea hdo hda ?_)));rw[if_neg (by simp)];refine Ad ?_;simp only[show ¬((i:Int)<0) from by lia,if_false,Ek,Lc hge];refine Aa ?_;first|refine Aa (Ga x.typeIs (Ad ?_))|refine Aa (Hv x.typeIs (Ad ?_))
 show wpAny _ _ (setField (.ref it) 0 .none >>= _) _ _ s;refine Aa (Iw ho hd (by simp) ?_);show wpAny _ _ (newExc (.type "StopIteration") [] >>= _) _ _ _;refine Aa ?_;simp only[newExc,newTuple];refine Aa (Br (Aa (m:=Kl _ _) (Gk (a:=Value.none) (by first|rfl|(simp only[Kl];rfl)) ?_)) (by size_fits));refine Br ?_ (by size_fits);simp only[raiseNew];refine Aa (No ?_);rw[show A.in1.handled=none from hh];refine Aa (Ad (Py ?_));refine Aa (Ed (T := "StopIteration") (b:=true) ⟨_,Ar _ rfl,rfl⟩ Ir ?_);exact Ad (hQ _ (((Du ..).extBut.push _).push _))
theorem list_values(hh:A.handled=none)(hv:s.heap.IsValuesView v d)(hdo:s.heap.get? d=some dob)(hda:dob.data=.dict ens ep)(hn:ens.size<=1000)(hQ:∀h' c',(∀b o,s.heap.get? b=some o->h'.get? b=some o)->h'.get? s.heap.objs.size=some { cls:=.type "list",data:=.seq (ens.map (·.val)) c' }->Q (.ref s.heap.objs.size) { s with heap:=h' }):
  wpAny (model prog w) A (call (.type "list") [.ref v]) Q E s:=by
 refine callType_codes (Q₁:=fun obj s₁=>obj=.ref s.heap.objs.size/\s₁={ s with heap:=s.heap.push { cls:=.type "list",data:=.seq #[] } }) F.called_list (F.typeCall_list_1 _) F.entry_list_init (code_list_new _ ⟨rfl,rfl⟩) fun obj s₁ h₁=>?_;obtain⟨rfl,rfl⟩:=h₁;generalize hS0:s.heap.objs.size=S at hQ;have hg:(s.heap.push { cls:=.type "list",data:=.seq #[] }).get? S=some { cls:=.type "list",data:=.seq #[] }:=by rw[<- hS0];exact Ar _ rfl
 have kg:∀b o,s.heap.get? b=some o->(s.heap.push { cls:=.type "list",data:=.seq #[] }).get? b=some o:=fun b o e=>Ah _ e;have gz:(s.heap.push { cls:=.type "list",data:=.seq #[] }).objs.size=S+1:=by rw[<- hS0];exact Ex _ _
 generalize s.heap.push { cls:=.type "list",data:=.seq #[] }=g at hg kg gz;refine⟨⟨_,hg,rfl⟩,F.args_list_init_2 _ _,?_⟩;show wpAny _ _ (do let old<-Eh (.ref S);Cy.List.listUpdate (.ref S) (fun _=>#[]);letGo old.toList.reverse;Go (.ref S) (.ref v) .none) _ _ _;refine Aa ?_;unfold Eh;refine Aa (Cz hg rfl (Ad ?_));show wpAny _ _ (Lq S (fun _=>#[]) >>= fun _=>letGo (#[]:Array Value).toList.reverse >>= fun _=>Go (.ref S) (.ref v) .none) _ _ _;refine Aa (Fb hg rfl (Aa (Fr ?_)));have old:∀{b:Addr} {o:Obj},s.heap.get? b=some o->b≠S:=fun{b o} e=>by rw[<- hS0];exact Bf (Au e)
 have hg2:=Dz hg (fun _=>(#[]:Array Value));have kg2:∀b o,s.heap.get? b=some o->(g.update S (Cw fun _=>(#[]:Array Value))).get? b=some o:=fun b o e=>(Ce _ _ (Er (old e))).trans (kg b o e);have gz2:(g.update S (Cw fun _=>(#[]:Array Value))).objs.size=S+1:=by rw[(Du ..).1];exact gz
 generalize g.update S (Cw fun _=>(#[]:Array Value))=g2 at hg2 kg2 gz2;obtain⟨ov,hov,hcv,hdv⟩:=id hv;unfold Go;refine Aa (Fj (T := "dict_values") ⟨ov,kg2 _ _ hov,hcv⟩ ?_);have h1:Hr (.ref S) (.ref v)=false:=by simp[Hr,(old hov).symm]
 simp only[h1,show(Value.type "dict_values" == Value.type "list")=false from by decide,show(Value.type "dict_values" == Value.type "tuple")=false from by decide,Rm,Ax,if_false];refine Aa (z2e ⟨ov,kg2 _ _ hov,hcv,hdv⟩ (kg2 _ _ hdo) hda ?_);rw[gz2];have kI:∀b o,g2.get? b=some o->(g2.push (valObj d ens.size ep)).get? b=some o:=fun b o q=>Ah _ q;have gI:(g2.push (valObj d ens.size ep)).get? (S+1)=some (valObj d ens.size ep):=by rw[<- gz2];exact Ar _ rfl
 have hS1:=kI _ _ hg2;have nS:S≠S+1:=Bf (Gf _);refine Aa (Ca (PySem.W.kdl_hint_values (s:={ s with heap:=g2.push (valObj d ens.size ep) }) ⟨ov,kI _ _ (kg2 _ _ hov),hcv⟩ ?_));have W:Runs prog w A.in1 S (S+1) ens.size (fun acc _=>acc=(ens.map (·.val)).toList.take acc.length) (fun i h=>h.IsValIter (S+1) d i ens.size ep/\h.get? d=some dob):=by
  have dS:d≠S:=old hdo;have dI:d≠S+1:=fun e=>by have:=Au hdo;rw[hS0,e] at this;exact absurd this (Ur.mpr (Ig _))
  refine⟨fun acc h h' f _=>f,fun i h h' ⟨⟨o,e1,e2⟩,f2⟩ kp=>⟨⟨o,kp _ _ nS.symm e1,e2⟩,kp _ _ dS f2⟩,fun acc s' Q' E' hl f ⟨i1,i2⟩ hq=>?_,fun s' Q' E' ⟨i1,i2⟩ hq=>?_⟩
  ·refine z2f i1 i2 hda hl fun h' j1 j2=>hq _ h' ?_ ⟨j1,(j2.2 _ dI).trans i2⟩ fun b o hb e=>(j2.2 b hb).trans e;have hl':acc.length<(ens.map (·.val)).toList.length:=by simpa using hl
   rw[Al,Dx,Mz,<- f,Bx hl'];simp
  ·exact z4s hh i1 i2 hda (Aq _) fun h' eb=>hq h' fun b o hb e=>eb b o hb e
 have fin:∀(h:Heap) (c:Nat),(∀b o,b≠S->(g2.push (valObj d ens.size ep)).get? b=some o->h.get? b=some o)->h.get? S=some { cls:=.type "list",data:=.seq ([]:List Value).toArray c } ->
   Ew (model prog w) A.in1 (.builtin "list.extend.loop" ⟨[.ref S,.ref (S+1),.none],[]⟩) (fun r s'=>r=.ok (.ret .none)/\Q (.ref S) s') { s with heap:=h }:=fun h c kh hh2=>by
  refine grow W nS (by rw[Ev];lia) _ ens.size [] _ c (by simp) (Bl _) rfl ⟨⟨_,kh _ _ nS.symm gI,rfl,rfl⟩,kh _ _ (old hdo) (kI _ _ (kg2 _ _ hdo))⟩ hh2 fun acc h' c' e f' k' s'=>⟨rfl,hQ h' c' (fun b o q=>k' b o (old q) (fun e2=>by have:=Au q;rw[hS0,e2] at this;exact absurd this (Ur.mpr (Ig _))) (kh b o (old q) (kI _ _ (kg2 _ _ q)))) ?_⟩
  rw[s'];have e2:acc=(ens.map (·.val)).toList:=by rw[f',e];exact Ei (by simp)
  rw[e2]
 have last:∀(h:Heap) (c:Nat),(∀b o,b≠S->(g2.push (valObj d ens.size ep)).get? b=some o->h.get? b=some o)->h.get? S=some { cls:=.type "list",data:=.seq ([]:List Value).toArray c }->∀{R:Result->Shared->Prop},(∀s',Q (.ref S) s'->R (.ok (.ret .none)) s') ->
   Ew (model prog w) A.in1 (.builtin "list.extend.loop" ⟨[.ref S,.ref (S+1),.none],[]⟩) R { s with heap:=h }:=fun h c kh hh2 {R} hR=>Hj (fin h c kh hh2) fun r s' ⟨e,q⟩=>by rw[e];exact hR s' q
 refine wpAny_ite_split (fun _=>?_) (fun _=>Ad ⟨Db Fg _,last _ _ (fun b o _ q=>q) hS1 fun s' q=>⟨rfl,q⟩⟩);refine Aa (Fk (Aa ?_));show wpAny _ _ (Lq S (·.push .none) >>= fun _=>Lq S (·.pop)) _ _ _;refine Aa (Fb hS1 rfl ?_);have hS2:=Dz hS1 (fun x=>x.push Value.none);refine Fb hS2 rfl ?_;have hS3:=Dz hS2 (fun x=>x.pop);exact Ad ⟨Db Fg _,last _ _ (fun b o hb q=>(Ce _ _ (Er hb)).trans ((Ce _ _ (Er hb)).trans q)) hS3 fun s' q=>⟨rfl,q⟩⟩
end
end PySem.Rv
namespace L2
open PySem PySem.Spec PyProof.Rows SB
def vlO(v d:Addr):HO:=.ext fun h=>h.IsValuesView v d
def rValues:V->List V->Hp->VK->Prop:=fun x vs H Q=>∃d rows,x=.ref d/\vs=[]/\H d=some (dR rows)/\∀v,H v=none->Q (.ref v) (upd H v (vlO v d))
theorem z7o:MtR X "dict.values" rValues:=by
 intro pins s σ H x vs v us Q I rx rv h;obtain⟨d,rows,rfl,rfl,hd,q⟩:=h;cases rx;have hus:=rv.zero;subst hus;obtain⟨hsys,hz,ob,es,ep,ho,hex,hob,_⟩:=I.rows hd;refine Bo F.slot_dict_values ⟨ob,ho,hex.1⟩ F.entry_dict_values ?_ (F.args_dict_values_1 _);refine Aa ?_;unfold Rs;refine Aa (Fn ⟨ob,ho,hex.1⟩ ?_);show wpAny _ _ (pure d) _ _ s;refine Ad ?_;unfold Gs;rw[if_neg (by rw[hsys];exact Bd)];refine Aa (Ad (Aa (Br (Ad ⟨_,rfl,.ref s.heap.objs.size,_,I.laid (t':=s.toks) (fun b u e=>Ah _ e) (Aq _) ?_,rfl,q _ I.fresh⟩))));exact⟨⟨_,Ar _ rfl,rfl,rfl⟩,⟨_,Ar _ rfl⟩,fun h1 h2 ⟨o,e,c,dd⟩ k=>⟨o,k o e,c,dd⟩⟩
def rListV:List V->Hp->VK->Prop:=fun vs H Q=>∃v d,∃rows:List HRow,vs=[.ref v]/\H v=some (vlO v d)/\H d=some (dR rows)/\rows.length<=60/\∀L,H L=none->Q (.ref L) (upd H L (.lst (rows.map (·.2))))
theorem z4t(hc:X.calm=true):CallR X (.type "list") rListV:=by
 intro pins s σ H xs us Q I rv h;obtain⟨v,d,rows,rfl,hv,hd,few,q⟩:=h;obtain⟨u,rfl,ru⟩:=rv.one;cases ru;obtain⟨hsys,hz,ob,es,ep,ho,hex,hob,nd,zs,z1,z2,z3⟩:=I.rows hd;obtain⟨hvv,_⟩:=(show ObjOk X.prog X.w H s.heap v (vlO v d) from I.hok v _ hv)
 have hv2:∀{l:List (Addr×Value×HRow)},(∀z∈l,RelV z.2.2.2 z.2.1)->Vals ((l.map (·.2.2)).map (·.2)) (l.map (·.2.1)):=fun{l}=>by
  induction l with
  |nil=>exact fun _=>.nil
  |cons z l ih=>exact fun h=>.cons (h z At) (ih fun y hy=>h y (An _ hy))
 have ee:(es.map (·.val)).toList=zs.map (·.2.1):=by
  have:=congrArg (List.map (·.2)) z2;rw[Ap,Ap] at this;rw[Ow];exact this
 have esz:es.size<=1000:=by
  have e1:=congrArg List.length z2;have e2:=congrArg List.length z1;rw[Ab,Ab] at e1;rw[Ab] at e2;have:es.toList.length=es.size:=rfl;lia
 refine PySem.Rv.list_values (I.ok.hd hc) hvv ho hob esz fun h' c' kp e=>⟨.ref s.heap.objs.size,_,I.laid (t':=s.toks) kp (Aq _) (show ObjOk X.prog X.w _ h' _ (.lst (rows.map (·.2))) from⟨by rw[Ab];exact hz,zs.map (·.2.1),c',?_,?_⟩),rfl,q _ (I.hok.fresh (Aq _))⟩
 ·rw[<- z1];exact hv2 fun z hz=>(z3 z hz).2
 ·rw[e,<- ee]
end L2
namespace PySem.Rv
open PySem
section
variable{prog:Program}{w:World}{K:Type}[DecidableEq K]{knd:HeapKind prog w K}{A:Around}{E:Value->Shared->Prop}{s:Shared}
theorem z2g{nm:String}{a b:Addr}{xa xb:List (K×Addr×Value)}{Q:Bool->Shared->Prop}(hu:knd.room A)(ha:(a==Cm)=false)(hb:(b==Cm)=false)(da:s.heap.DictOfH knd a xa)(db:s.heap.DictOfH knd b xb)(hlen:xa.length=xb.length)(hits:∀x∈xa,∃y∈xb,y.1=x.1/\Di A s x.2.2 y.2.2 true)(h:Q true s):wpAny (model prog w) A (Qg nm a b) Q E s:=by
 obtain⟨oa,es,ep,hoa,_,hda,hea,hia,hna⟩:=da;obtain⟨ob,es',ep',hob,_,hdb,heb,hib,hnb⟩:=db;have hla:es.size=xa.length:=size_of_entries hea;have hlb:es'.size=xb.length:=size_of_entries heb;unfold Qg Gs;rw[if_neg (show ¬(a==Cm)=true by rw[ha];exact Bd),if_neg (show ¬(b==Cm)=true by rw[hb];exact Bd)];refine Aa (Ad (Aa (Ad (Aa (Cj hoa hda ?_)))));dsimp only;refine Aa (Cj hob hdb ?_);rw[if_neg (by rw[hla,hlb,hlen];simp)];refine Aa (Ea hoa hda (Aa ?_));rw[Std.Legacy.Range.forIn_eq_forIn_range'];simp only[Std.Legacy.Range.size,Iy,Nat.add_sub_cancel,Nat.div_one];refine Gg _ (fun rest q s'=>s'=s/\q=(none,())/\∃i,rest=List.range' i (es.size-i)/\i<=es.size) _ ?_ ?_ _ _ ⟨rfl,rfl,0,by simp,Bl _⟩
 ·rintro x rest q s' ⟨rfl,rfl,i,hr,hi⟩;have hlt:i<es.size:=by
   rcases Sk i es.size with h|h
   ·exact h
   ·rw[Nat.sub_eq_zero_of_le h] at hr;simp at hr
  obtain⟨rfl,hrest⟩:x=i/\rest=List.range' (i+1) (es.size-(i+1)):=by
   rw[show es.size-i=(es.size-(i+1))+1 by lia,List.range'_succ] at hr;injection hr with h1 h2;exact⟨h1,h2⟩
  have hx2:x<xa.length:=by rw[<- hla];exact hlt
  have hent:es[x]?=some (Iz knd xa[x]):=by rw[entry_at hea x,Bx hx2];rfl
  refine Aa (Cj hoa hda ?_);rw[hent];obtain⟨y,hy,ek,he⟩:=hits xa[x] (Tx hx2);show wpAny _ _ (Jl [(Iz knd xa[x]).key,(Iz knd xa[x]).val] _ >>= _) _ _ _;refine Aa (Ca (Aa (wpAny_dictFind_heap hu (hia _ (Tx hx2)) hob hdb heb hib hnb (fun hno=>?_) (fun j p hj=>?_))))
  ·obtain⟨j,hj⟩:=Ba.mp hy;exact absurd (by rw[hj,<- ek]) (hno j y.2)
  ·have hj2:es'[j]?=some (Iz knd (xa[x].1,p)):=by rw[entry_at heb j,hj];rfl
   have ey:y=(xa[x].1,p):=by
    obtain⟨j2,hj3⟩:=Ba.mp hy;have e1:(xb.map (·.1))[j]?=some xa[x].1:=by rw[Ae,hj];rfl
    have e2:(xb.map (·.1))[j2]?=some xa[x].1:=by rw[Ae,hj3,<- ek];rfl
    have:=(Io (Aj.mp e1).1 hnb).mp (e1.trans e2.symm);subst this;rw[hj] at hj3;exact(Bj hj3).symm
   refine Aa (Cj hob hdb ?_);rw[hj2];rw[ey] at he;refine Ca (he prog w _ _ ?_);show wpAny _ _ (if (!true)=true then _ else _) _ _ _;rw[if_neg (by decide)];refine Aa (Ea hoa hda ?_);rw[if_neg (by simp)];exact Ad ⟨rfl,rfl,x+1,hrest,hlt⟩
 ·rintro q s' ⟨rfl,rfl,i,hr,hi⟩;exact Ad h
theorem dict_neH{a b:Addr}{xa xb:List (K×Addr×Value)}{Q:Value->Shared->Prop}(hu:knd.room A.in1)(hu2:A.units<cLine)(ha:(a==Cm)=false)(hb:(b==Cm)=false)(da:s.heap.DictOfH knd a xa)(db:s.heap.DictOfH knd b xb)(hlen:xa.length=xb.length)(hits:∀x∈xa,∃y∈xb,y.1=x.1/\Di A.in1 s x.2.2 y.2.2 true)(h:Q (.bool false) s):wpAny (model prog w) A (Cl .NotEq (.ref a) (.ref b)) Q E s:=by
 refine Ni (op:=.NotEq) da.typeIs db.typeIs Rf (Bo Rf da.typeIs PySem.F.entry_dict_ne ?_ (PySem.F.args_dict_ne_2 _ _)) hu2;show wpAny _ _ (Oh "__ne__" ⟨[.ref a,.ref b],[]⟩ >>= _) _ _ s;refine Aa ?_;unfold Oh;refine Aa (Fn da.typeIs ?_);show wpAny _ _ (pure (Value.ref a,Value.ref b)) _ _ s;refine Ad (Aa (Ed (T := "dict") db.typeIs PySem.F.sub_dict_dict ?_));simp only[Eg,Ax,if_false];refine Aa (Ad (Aa (Ad (Aa (z2g hu ha hb da db hlen hits ?_)))));exact Ad ⟨_,rfl,(fun x=>nomatch x),by simpa using h⟩
end
end PySem.Rv
namespace HM
open PySem PySem.Spec PyProof.Rows L2 TX SB
def rNeDD:R2:=fun x y H Q=>∃(a b:Addr) (ra rb:List HRow),x=.ref a/\y=.ref b/\H a=some (dR ra)/\H b=some (dR rb)/\ra.length=rb.length/\(∀r∈ra,∃r'∈rb,r'.1=r.1/\∃(e e':Addr) (p:Pth),r.2=.ref e/\r'.2=.ref e'/\H e=some (.tup (vP p))/\H e'=some (.tup (vP p))/\Low p)/\Q (.bl false) H
theorem z1c{α β:Type}{R:α->β->Prop}:∀{l:List α} {m:List β},Paired R l m->∀b∈m,∃a∈l,R a b
 |_,_,.nil,b,h=>nomatch h
 |_,_,.cons r t,b,h=>by
  rcases Ay.mp h with rfl|h
  ·exact⟨_,At,r⟩
  ·obtain⟨a,ha,hr⟩:=z1c t b h;exact⟨a,An _ ha,hr⟩
theorem q8i{α β:Type}{R:α->β->Prop}:∀{l:List α} {m:List β},Paired R l m->∀a∈l,∃b∈m,R a b
 |_,_,.nil,b,h=>nomatch h
 |_,_,.cons r t,b,h=>by
  rcases Ay.mp h with rfl|h
  ·exact⟨_,At,r⟩
  ·obtain⟨a,ha,hr⟩:=q8i t b h;exact⟨a,An _ ha,hr⟩
section
variable{X:Cx}{k:Nat}
theorem ne_DD(hr:Room k X.A):OpR X (Cl .NotEq) rNeDD:=by
 intro pins s σ H x y v u Q I rx ry h;obtain⟨a,b,ra,rb,rfl,rfl,hA,hB,hlen,hall,q⟩:=h;cases rx;cases ry;obtain⟨_,hsa,xa,kta,da⟩:=q7g I.hok (.inl hA);obtain⟨_,hsb,xb,ktb,db⟩:=q7g I.hok (.inl hB);have hu:=hr.un;refine PySem.Rv.dict_neH (knd:=He (mixKind X.prog X.w)) (Ec (by lia)) (by lia) hsa hsb da db (by rw[<- Dv kta,<- Dv ktb,Ab,Ab];exact hlen) (fun z hz=>?_) ⟨.bl false,H,I,rfl,q⟩;obtain⟨p,hp,e1,_,rv⟩:=z1c kta z hz;obtain⟨r,hr',rfl⟩:=Ac.mp hp;obtain⟨r',hr2,ek,e,e',pp,v1,v2,he,he',lp⟩:=hall r hr';obtain⟨z2,hz2,f1,_,rv2⟩:=q8i ktb (kP r'.1,r'.2) (Ac.mpr ⟨r',hr2,rfl⟩);refine⟨z2,hz2,?_,?_⟩
 ·rw[<- f1,<- e1];show kP r'.1=kP r.1;rw[ek]
 ·have g1:z.2.2=Value.ref e:=by have:=rv;rw[show(kP r.1,r.2).2=V.ref e from v1] at this;exact this
  have g2:z2.2.2=Value.ref e':=by have:=rv2;rw[show(kP r'.1,r'.2).2=V.ref e' from v2] at this;exact this
  rw[g1,g2];obtain⟨as,r1⟩:=(q1y (K:=X.K) he).reads I rfl;obtain⟨as2,r2⟩:=(q1y (K:=X.K) he').reads I rfl;have hd:=q3t pp;have e9:=Ov _ _ X.A.in1 s _ _ _ _ r1 r2 (q2g lp) (q2g lp) (by show X.A.units+1+_<_;lia);rw[q4z,decide_eq_true rfl] at e9;exact e9
end
end HM
namespace HD
open PySem PySem.W PyProof.Rows
theorem end0:(∃f,endAt 0 t=some f)/\through t=true\/endAt 0 t=none/\through t=false:=by
 unfold endAt through;obtain⟨cur,code,pos,stack⟩:=t;cases stack with
 |cons a r=>exact .inr ⟨by cases cur<;>rfl,rfl⟩
 |nil =>
  cases cur with
  |pure f =>
   cases f with
   |done f=>simp_all
   |_=>simp_all
  |_=>exact .inr ⟨rfl,rfl⟩
theorem z3l{tb:String->Option Cy}{p:Program}{w:World}{n₀:Nat}{ann:Option Value}:∀{n:Nat} {s s':Shared} {t:Thread} {f:Flow} {c:Code} {q:Pos},segRun tb p w n₀ ann 0 n s t=some (f,s',c,q)->topRun tb p w n₀ ann n s t=some s'
 |0,_,_,_,_,_,_,h=>by cases h
 |n+1,s,s',t,f,c,q,h=>by
  unfold segRun at h;unfold topRun;rcases end0 (t:=t) with⟨⟨f',e⟩,th⟩|⟨e,th⟩
  ·rw[e] at h;rw[th];cases h;rfl
  ·rw[e] at h;rw[th];dsimp only at h ⊢;cases ok:stepOk n₀ ann t with
   |false=>rw[ok] at h;cases h
   |true =>
    rw[ok] at h;dsimp only at h ⊢;cases st:step (denote tb) p w s t with
    |go s1 t1=>rw[st] at h;exact z3l h
    |halt _ _=>rw[st] at h;cases h
def mkT(l:List Obj):BT:=(l.foldl (fun(a:BT×Nat) o=>(a.1.ins a.2 o,a.2+1)) (BT.nil,0)).1
noncomputable def bootT (P:Params) (os:OsState):SharedT:=⟨mkT (boot_heap P).objs.toList,11,(boot_heap P).life,#[],boot_drawn,boot_toks,os⟩
theorem x0c(P:Params)(os:OsState):(bootT P os).abs=⟨boot_heap P,#[],boot_drawn,boot_toks,os⟩:=by kernel_rfl
theorem z7p(P:Params):((boot_heap P).isNs Dm&&(#[]:Array GenState).size==0,(boot_heap P).objs.size,(boot_heap P).nsMap Dm "__annotations__")=(true,11,some (.ref 6)):=by kernel_rfl
theorem left{Yf:Shared->α}{Ya:World->α}(e:opening p=plainProg p.main.scope.names)(hN:Nat.ble 600 N=true)(f:∀s,fenceModules? p s=some s)(h:∀(w:World) (os:OsState),(segRunT Sl p w 11 (some (.ref 6)) 0 N (bootT w.params os) (topStub p)).map (fun r=>((staticsOk (Jr p.main.body) (boot_heap w.params) r.2.1.abs.heap&&namesBound p r.2.1.abs.heap&&gensDone r.2.1.abs&&laidKept (boot_heap w.params) r.2.1.abs.heap),
   openSeen q loose (Jr p.main.body) Xt true r.2.1.abs,Yf r.2.1.abs))=some (true,openGood q loose,Ya w)):LeftO p q loose Xt Yf Ya N:=fun w=>by
 obtain⟨⟨hp,gs,d,k,os⟩,e1,e2⟩:=Lb.mp (boot_open e hN f w);obtain⟨rfl,rfl,rfl,rfl⟩:hp=boot_heap w.params/\gs=#[]/\d=boot_drawn/\k=boot_toks:=by simpa using e2
 obtain⟨z1,z2,z3⟩:_/\_/\_:=by simpa only[Prod.mk.injEq] using z7p w.params
 obtain⟨⟨fl,st,c,ps⟩,r1,r2⟩:=Lb.mp (h w os);obtain⟨l1,l2,l3⟩:_/\_/\_:=by simpa only[Prod.mk.injEq] using r2
 have r:=z3l (segRun_of r1);rw[x0c] at r;have t:topFrom Sl p w N ⟨boot_heap w.params,#[],boot_drawn,boot_toks,os⟩=some st.abs:=by
  unfold topFrom;rw[z1,z2,z3,r];show(match staticsOk (Jr p.main.body) (boot_heap w.params) st.abs.heap&&namesBound p st.abs.heap&&gensDone st.abs&&laidKept (boot_heap w.params) st.abs.heap with|true=>_|false=>_)=_;rw[l1]
 unfold openEnds;rw[e1];show(topFrom Sl p w N _).map _=_;rw[t];exact congrArg some (Tm l2 l3)
end HD
set_option maxHeartbeats 4000000
namespace K
open PySem L2 TX SB HM
def top(i:Nat):Stmt:=PySem.Challenge.pw_renamehall_k43_whole_nothing_laid_over.main.body.getD i (.Pass ⟨0,0,0,0⟩)
structure Txt (mg:Str->Option Value):Prop where
 b_all:mg "all" = none
 b_dict:mg "dict" = none
 b_enumerate:mg "enumerate" = none
 b_isinstance:mg "isinstance" = none
 b_len:mg "len" = none
 b_list:mg "list" = none
 b_max:mg "max" = none
 b_min:mg "min" = none
 b_range:mg "range" = none
 b_reversed:mg "reversed" = none
 b_sorted:mg "sorted" = none
 b_str:mg "str" = none
 b_tuple:mg "tuple" = none
 b_zip:mg "zip" = none
structure Calls (P:Program) (w:World) (K:Ak) (mg:Str->Option Value) (base:Heap):Prop where
 draw:Cal P w K mg base "_law_draw" 1 ["_law_feed", "_law_many"] spDraw
section
variable{P:Program}{w:World}{K:Ak}{mg:Str->Option Value}{base:Heap}
abbrev z2h:Stmt:=top 34
theorem sc_draw:FnScope ["_law_feed", "_law_many", "_law_cell", "_law_number", "_law_found"] ["_law_feed", "_law_many"] (defScope z2h):=⟨rfl,rfl,rfl,by decide +kernel,rfl,by decide +kernel,by decide +kernel⟩
theorem x3b (D : Df K mg "_law_draw" z2h ["_law_feed", "_law_many"]) (T : Txt mg) : Cal P w K mg base "_law_draw" 1 ["_law_feed", "_law_many"] spDraw := by
  refine D.cal sc_draw (fun vs H Q E h => ?_) (fun f cdv A outer s H vs Q E hr h => ?_)
  · obtain ⟨a, b, m, rfl, _⟩ := h; rfl
  · obtain ⟨a, b, m, rfl, ⟨⟨i, j, ha⟩, ns, hb⟩, hm0, hm1, k⟩ := h;refine ⟨_, (q0d (q7l (q1j q1q (q1m (ix_k K rfl) (pv 0) q0g (fun _ _ => rfl)) q0g) (z5h (pv 0) q0g q8u)) (q0d (q1e (q0k (eq_k K rfl hr) (q1m (ix_k K rfl) (pv 0) q0g (fun _ _ => rfl)) q0g (nomark _)) (q0d (q0j (i := 2) sc_draw.nd rfl (by first | exact Or.inl rfl | exact Or.inr rfl) (q1m (ix_k K rfl) (pv 0) q0g (fun _ _ => rfl))) (q0d (q1e (q0k op_gt (q0m (q4f K rfl) (by rfl) T.b_len Ck (q0a (q1m (ix_k K rfl) (pv 0) q0g (fun _ _ => rfl)) q0e)) q0g (nomark _)) (q0f (q0j (i := 2) sc_draw.nd rfl (by first | exact Or.inl rfl | exact Or.inr rfl) (q1m (ix_k K rfl) (q1m (ix_k K rfl) (pv 0) q0g (fun _ _ => rfl)) (q1j q7m (q1m (ix_k K rfl) (pv 0) q0g (fun _ _ => rfl)) (q0m (q4f K rfl) (by rfl) T.b_len Ck (q0a (q1m (ix_k K rfl) (pv 0) q0g (fun _ _ => rfl)) q0e))) (fun _ _ => rfl)))) q0n) (q0d (q1e (q0k z8r (pv 2) (q1j x0v q0g q0g) (nomark _)) (q0d (q0j (i := 3) sc_draw.nd rfl (by first | exact Or.inl rfl | exact Or.inr rfl) (q1j q7m (q1j z1v (q1j q1q (q1j q1q (q1j q7m (pv 2) q0g) (q1j z1v q0g (q1m (ix_k K rfl) (pv 0) q0g (fun _ _ => rfl)))) q0g) q0g) q0g)) (q0d (q0j (i := 3) sc_draw.nd rfl (by first | exact Or.inl rfl | exact Or.inr rfl) (q1j q7m (q1j z1v (pv 3) (q1j q1q (pv 3) q0g)) q0g)) (q0f (q0l (q1j q7m (q1j z5k (pv 3) q0g) (pv 1)))))) q0n) (q0f (q7l (pv 2) (z5h (pv 0) q0g q8u)))))) q0n) (q0d (q0j (i := 4) sc_draw.nd rfl (by first | exact Or.inl rfl | exact Or.inr rfl) (q1j q7m (q1m (ix_k K rfl) (pv 0) q0g (fun _ _ => rfl)) (pv 1))) (q0d (q7l (q1j z5k (q1m (ix_k K rfl) (pv 0) q0g (fun _ _ => rfl)) (pv 1)) (z5h (pv 0) q0g q8u)) (q0f (q0l (pv 4))))))), ?_⟩;have nba : b ≠ a := FeedAt.ne ⟨⟨i, j, ha⟩, ns, hb⟩;refine ⟨_, rfl, .inl ⟨a, _, 1, _, rfl, rfl, SqL.of ha, rfl, .inl ⟨_, _, rfl, rfl, _, rfl, a, _, 1, 1, rfl, rfl, ha, rfl, ?_⟩⟩⟩;generalize hH1 : upd H a _ = H1;have ha1 : H1 a = some (.lst [.ref b, .int (i + 1), .int j]) := by rw [← hH1]; exact q0b
    have hb1 : H1 b = some (.lst (ns.map V.int)) := by rw [← hH1, q0c nba]; exact hb
    have fd : ∀ (x y : Int), Fd a b H (upd H1 a (.lst [.ref b, .int x, .int y])) := fun x y => ⟨⟨⟨x, y, q0b⟩, ns, by rw [q0c nba]; exact hb1⟩, fun c o e hc => by rw [q0c hc, ← hH1, q0c hc]; exact e⟩
    have fd1 : Fd a b H H1 := ⟨⟨⟨_, _, ha1⟩, ns, hb1⟩, fun c o e hc => by rw [← hH1, q0c hc]; exact e⟩
    refine ⟨_, rfl, .inl ⟨a, _, 2, _, rfl, rfl, SqL.of ha1, rfl, .inl ⟨rfl, _, rfl, ?_⟩⟩⟩;have last : ∀ (H2 : Hp) (σ2 : St) (y : Int), H2 a = some (.lst [.ref b, .int (i + 1), .int y]) → (∀ x y : Int, Fd a b H (upd H2 a (.lst [.ref b, .int x, .int y]))) → σ2[0]? = some (some (.ref a)) → σ2[1]? = some (some (.int m)) → σ2.length = 5 →
        tSeq (tAsg (tOp (rI (fun _ j => 0 < j) fun i j => .int (i % j)) (tOp (rIx K) (tVar 0) (tC (.int 2))) (tVar 1)) (gName 4)) (tSeq (tAsg (tOp (rI CDiv fun i j => .int (i / j)) (tOp (rIx K) (tVar 0) (tC (.int 2))) (tVar 1)) (gSub (tVar 0) (tC (.int 2)) rSetL)) (tRet (tVar 4))) { nx := fun _ H' => Q .non H', rt := Q } σ2 H2 := by
      intro H2 σ2 y h2 f2 e0 e1 el;match σ2, e0, e1, el with
      | [x0, x1, x2, x3, x4], e0, e1, _ =>
        cases e0;cases e1;refine ⟨_, rfl, .inl ⟨a, _, 2, _, rfl, rfl, SqL.of h2, rfl, _, rfl, _, _, rfl, rfl, hm0, ?_⟩⟩;refine ⟨_, rfl, .inl ⟨a, _, 2, _, rfl, rfl, SqL.of h2, rfl, _, rfl, _, _, rfl, rfl, ⟨hm0, hm1⟩, _, rfl, a, _, 2, 2, rfl, rfl, h2, rfl, _, rfl, ?_⟩⟩;exact k _ _ (Me _ (by lia)) (Kb _ hm0) (f2 _ _)
    refine ite2 (fun _ => ?_) (fun _ => last H1 _ j ha1 fd rfl rfl rfl);refine ⟨_, rfl, .inl ⟨a, _, 1, _, rfl, rfl, SqL.of ha1, rfl, ?_⟩⟩;refine ⟨_, rfl, .inl ⟨a, _, 0, _, rfl, rfl, SqL.of ha1, rfl, ⟨_, _, rfl, .inl ⟨_, SqL.of hb1, rfl⟩, ⟨_, _, rfl, rfl, _, rfl, ?_⟩⟩⟩⟩
    have rest : ∀ cell : Int, tSeq (tIfS (tTest (tOp (rI0 fun i j => .bl (decide (i < j))) (tVar 2) (tOp (rI CPow fun i j => .int (i ^ j.toNat)) (tC (.int 10)) (tC (.int 18)))))
          (tSeq (tAsg (tOp (rI (fun _ j => 0 < j) fun i j => .int (i % j)) (tOp rMulU (tOp rAddU (tOp rAddU (tOp (rI (fun _ j => 0 < j) fun i j => .int (i % j)) (tVar 2) (tC (.int 2147483647))) (tOp rMulU (tC (.int 613)) (tOp (rIx K) (tVar 0) (tC (.int 1))))) (tC (.int 7))) (tC (.int 48271))) (tC (.int 2147483647))) (gName 3))
            (tSeq (tAsg (tOp (rI (fun _ j => 0 < j) fun i j => .int (i % j)) (tOp rMulU (tVar 3) (tOp rAddU (tVar 3) (tC (.int 69621)))) (tC (.int 2147483629))) (gName 3))
              (tRet (tOp (rI (fun _ j => 0 < j) fun i j => .int (i % j)) (tOp (rI CDiv fun i j => .int (i / j)) (tVar 3) (tC (.int 64))) (tVar 1))))) tNext)
          (tAsg (tVar 2) (gSub (tVar 0) (tC (.int 2)) rSetL))
        { nx := fun σ2 H2 => tSeq (tAsg (tOp (rI (fun _ j => 0 < j) fun i j => .int (i % j)) (tOp (rIx K) (tVar 0) (tC (.int 2))) (tVar 1)) (gName 4)) (tSeq (tAsg (tOp (rI CDiv fun i j => .int (i / j)) (tOp (rIx K) (tVar 0) (tC (.int 2))) (tVar 1)) (gSub (tVar 0) (tC (.int 2)) rSetL)) (tRet (tVar 4))) { nx := fun _ H' => Q .non H', rt := Q } σ2 H2, rt := Q }
        [some (.ref a), some (.int m), some (.int cell), none, none] H1 := by
      intro cell;refine ⟨_, rfl, _, _, rfl, rfl, ⟨by decide, by decide, by decide⟩, _, _, rfl, rfl, _, rfl, ?_⟩;refine ite2 (fun _ => ?_) (fun _ => ?_)
      · refine ⟨_, rfl, _, _, rfl, rfl, (by show (0 : Int) < 2147483647; decide), ?_⟩;refine ⟨_, rfl, .inl ⟨a, _, 1, _, rfl, rfl, SqL.of ha1, rfl, .inl ⟨_, _, rfl, rfl, .inl ⟨by decide, by decide⟩, .inl ⟨_, _, rfl, rfl, .inl ⟨_, _, rfl, rfl, .inl ⟨_, _, rfl, rfl, .inr ⟨by decide, by decide⟩, _, _, rfl, rfl, (by show (0 : Int) < 2147483647; decide), ?_⟩⟩⟩⟩⟩⟩;generalize hn : ((cell % 2147483647 + 613 * (i + 1) + 7) * 48271) % 2147483647 = n;have n0 : 0 ≤ n := by rw [← hn]; exact Me _ (by decide)
        have n1 : n < 2147483647 := by rw [← hn]; exact Kb _ (by decide)
        refine ⟨_, rfl, _, rfl, .inl ⟨_, _, rfl, rfl, .inl ⟨_, _, rfl, rfl, .inl ⟨by lia, by lia⟩, _, _, rfl, rfl, (by show (0 : Int) < 2147483629; decide), ?_⟩⟩⟩;refine ⟨_, rfl, _, _, rfl, rfl, ⟨by decide, by decide⟩, _, rfl, _, _, rfl, rfl, hm0, ?_⟩;exact k _ _ (Me _ (by lia)) (Kb _ hm0) fd1
      · refine ⟨_, rfl, _, rfl, a, _, 2, 2, rfl, rfl, ha1, rfl, ?_⟩;refine last _ _ cell q0b (fun x y => ?_) rfl rfl rfl;have := fd x y;rw [x1t];exact this
    refine ite2 (fun hl => ?_) (fun _ => rest _);have hne : ns.map V.int ≠ [] := by
      intro z;rw [z] at hl;simp at hl
    obtain ⟨x, hx, ex⟩ := x2g (i + 1) hne;obtain ⟨c, rfl⟩ : ∃ c, x = V.int c := by
      obtain ⟨c, _, e⟩ := Ac.mp hx;exact ⟨c, e.symm⟩
    refine ⟨_, rfl, .inl ⟨a, _, 0, _, rfl, rfl, SqL.of ha1, rfl, ⟨_, rfl, .inl ⟨a, _, 1, _, rfl, rfl, SqL.of ha1, rfl, ⟨_, rfl, .inl ⟨a, _, 0, _, rfl, rfl, SqL.of ha1, rfl, ⟨_, _, rfl, .inl ⟨_, SqL.of hb1, rfl⟩, _, _, rfl, rfl, ?_, ?_⟩⟩⟩⟩⟩⟩⟩
    · have : 0 < (ns.map V.int).length := by
        cases e : ns.map V.int with
        | nil => exact absurd e hne
        | cons _ _ => simp
      show (0 : Int) < ((ns.map V.int).length : Int);lia
    · exact .inl ⟨b, _, _, _, rfl, rfl, SqL.of hb1, ex, rest c⟩
abbrev z2i:Stmt:=top 37
theorem x3c:FnScope ["_law_feed", "_law_signs", "_law_size"] ["_law_feed", "_law_signs", "_law_size"] (defScope z2i):=⟨rfl,rfl,rfl,by decide +kernel,rfl,by decide +kernel,by decide +kernel⟩
theorem x3d(D:Df K mg "_law_text" z2i ["_law_feed", "_law_signs", "_law_size"])(T:Txt mg)(draw:Cal P w K mg base "_law_draw" 1 ["_law_feed", "_law_many"] spDraw):Cal P w K mg base "_law_text" 2 ["_law_feed", "_law_signs", "_law_size"] spText:=by
 refine D.cal x3c (fun vs H Q E h=>?_) (fun f cdv A outer s H vs Q E hr h=>?_)
 ·obtain⟨a,b,g,n,rfl,_⟩:=h;rfl
 ·obtain⟨a,b,g,n,rfl,F,hg0,hg1,hn0,hn1,k⟩:=h;have C:Calls P w K mg base:=⟨draw⟩
  refine⟨_,(q0f (q0l (@bm_k _ _ _ _ _ _ _ _ _ _ _ _ K rfl Ej Qu Qv (x1b K rfl) q4h (q0a (q3c ["_law_k"] [("_law_signs",1),("_law_feed",0)] rfl (q3o rfl T.b_range (q0a (pv 2) q0e)) (fun _ _ _ _ _=>(q0h (i:=0) (show(["_law_k", "_law_signs", "_law_feed"]:List Str).Nodup by decide +kernel) rfl (by first|exact Or.inl rfl|exact Or.inr rfl))) (fun _ _ _ _ _=>q5e) (fun _ _ _ _ _=>(q1m (ix_k K rfl) (pv 1) (pe_c C.draw hr (q0a (pv 2) (q0a (q0m (q4f K rfl) (by rfl) T.b_len Ck (q0a (pv 1) q0e)) q0e))) (fun _ _=>rfl)))) q0e) (by rfl) (by rfl) (by rfl) (by rfl) (by rfl)))),?_⟩;refine⟨rfl,_,rfl,n,rfl,by lia,by lia,fun D hD=>?_⟩;refine z1x (n:=n.toNat) (fun i ys H'=>∃cs:List Nat,ys=cs.map (fun c=>V.str ⟨#[c]⟩)/\cs.length=i/\i<=n.toNat/\(∀c∈cs,c∈tl g)/\Fd a b H H'/\H' D=some (.lst ys)) ⟨[],rfl,rfl,Bl _,fun _ h=>(nomatch h),(Fd.refl F).new hD,q0b⟩ (fun i ys H' ⟨cs,_,_,_,_,_,h⟩=>h) ?_ ?_
  ·rintro i ys H' hi ⟨cs,rfl,hl,_,hc,fd,hHD⟩;refine⟨_,rfl,_,rfl,_,rfl,_,_,rfl,⟨small (by lia),rfl⟩,a,b,_,rfl,fd.feed,by lia,by lia,fun r H2 r0 r1 fd2=>?_⟩;have hl2:(tl g).length=g.length:=(len g).symm;obtain⟨c,hc1,hc2⟩:=q7r (xs:=tl g) r0 (by lia);refine .inr (.inr ⟨g,r,c,rfl,rfl,small (by lia),hc2,?_⟩);have hDa:D≠a:=fun z=>by subst z;exact F.na hD rfl
   refine⟨fd2.at hHD hDa,small' (by rw[Ab];lia),cs++[c],by rw[Af];rfl,by rw[Al,hl];rfl,by lia,fun d hd=>?_,(fd.trans fd2).put F hD,q0b⟩;rcases Am.mp hd with z|z
   ·exact hc d z
   ·rw[Ai.mp z];exact Ag hc1
  ·rintro ys H' ⟨cs,rfl,hl,_,hc,fd,hHD⟩;have e:cs.map (fun c=>V.str ⟨#[c]⟩)=(cs.map fun c=>(⟨#[c]⟩:Str)).map V.str:=by rw[Ap];rfl
   refine⟨_,D,cs.map fun c=>⟨#[c]⟩,rfl,rfl,.inl (SqL.of (by rw[<- e];exact hHD)),?_,?_⟩
   ·rw[z3b,Ab];have:(Ao "").length=0:=by decide +kernel
    rw[this];lia
   ·have z:=z0g cs;rw[z];exact k cs H' hl hc fd
theorem q0z(p:Pth):(vP p).length=p.length:=Ab _
theorem q1a{q:Pth}(h:q≠[]):cutV (vP q) none (some (-1))=vP q.dropLast/\¬(HT.sIx (vP q).length 0 none=0/\HT.sIx (vP q).length (vP q).length (some (-1))=(vP q).length):=by
 have hl:=Bu.mpr h;have e:HT.sIx (vP q).length (vP q).length (some (-1))=q.length-1:=by
  show(if (-1:Int)<0 then((-1:Int)+((vP q).length:Int)).toNat else min (-1:Int).toNat (vP q).length)=_;rw[if_pos (by decide),q0z];lia
 refine⟨?_,fun z=>by rw[e,q0z] at z;lia⟩;unfold cutV;rw[e];show((vP q).drop 0).take _=_;rw[Ko];show(vP q).take (q.length-1-0)=_;rw[Iy,<- Jh,<- Qq]
theorem q2x{q:Pth}(h:q≠[]):atI (vP q) (-1)=some (.str (mk (q.getLastD []))):=by
 have hl:=Bu.mpr h;unfold atI ixN;rw[if_neg (by decide),if_pos (by rw[q0z];lia)];have e:((-1:Int)+((vP q).length:Int)).toNat=q.length-1:=by rw[q0z];lia
 show(vP q)[((-1:Int)+((vP q).length:Int)).toNat]?=_;rw[e,Ae,<- Dq,En,Bh h];rfl
theorem q2q{q:Pth}(h:okP q):okN (q.getLastD []):=by
 rw[En,Bh h.ne];exact h.all _ (List.getLast_mem h.ne)
theorem z3m{n:List Nat}(h:∀c∈n,c<128):Ic (mk n)=mk (lowN n):=by
 apply ext;rw[TX.lower (by rw[q2w];exact h),q2w,q2w];rfl
abbrev q3f:Stmt:=top 35
theorem q9f:FnScope [] [] (defScope q3f):=⟨rfl,rfl,rfl,by decide +kernel,rfl,by decide +kernel,by decide +kernel⟩
theorem q9g(D:Df K mg "_law_name_signs" q3f []):Cal P w K mg base "_law_name_signs" 1 [] (spConst HM.NSs):=by
 refine D.cal q9f (fun vs H Q E h=>?_) (fun f cdv A outer s H vs Q E hr h=>?_)
 ·obtain⟨rfl,_⟩:=h;rfl
 ·obtain⟨rfl,k⟩:=h;refine⟨_,(q0f (q0l q4h)),?_⟩;exact k
structure CallsAN (P:Program) (w:World) (K:Ak) (mg:Str->Option Value) (base:Heap):Prop where
 draw:Cal P w K mg base "_law_draw" 1 ["_law_feed", "_law_many"] spDraw
 text:Cal P w K mg base "_law_text" 2 ["_law_feed", "_law_signs", "_law_size"] spText
 name_signs:Cal P w K mg base "_law_name_signs" 1 [] (spConst HM.NSs)
def spName:Sp:=fun vs H Q _=>∃a b,vs=[.ref a]/\FeedAt H a b/\∀(t:List Nat) H',okN t->Fd a b H H'->Q (.str (mk t)) H'
theorem fig_in:∀c∈tl (Ao "0123456789"),c∈HM.NS:=by decide +kernel
abbrev q6x:Stmt:=top 38
theorem sc_a_name:FnScope ["_law_feed", "_law_way"] ["_law_feed"] (defScope q6x):=⟨rfl,rfl,rfl,by decide +kernel,rfl,by decide +kernel,by decide +kernel⟩
theorem z7q(D:Df K mg "_law_a_name" q6x ["_law_feed"])(T:Txt mg)(C:CallsAN P w K mg base):Cal P w K mg base "_law_a_name" 3 ["_law_feed"] spName:=by
 refine D.cal sc_a_name (fun vs H Q E h=>?_) (fun f cdv A outer s H vs Q E hr h=>?_)
 ·obtain⟨a,b,rfl,_⟩:=h;rfl
 ·obtain⟨a,b,rfl,F,k⟩:=h;refine⟨_,(q0d (q0j (i:=1) sc_a_name.nd rfl (by first|exact Or.inl rfl|exact Or.inr rfl) (pe_c C.draw hr (q0a (pv 0) (q0a q0g q0e)))) (q0d (q1e (q0k (eq_k K rfl hr) (pv 1) q0g (nomark _)) (q0f (q0l (pe_c C.text hr (q0a (pv 0) (q0a (pe_c0 C.name_signs hr) (q0a (q1j q1q q0g (pe_c C.draw hr (q0a (pv 0) (q0a q0g q0e)))) q0e)))))) q0n) (q0d (q1e (q0k (eq_k K rfl hr) (pv 1) q0g (nomark _)) (q0f (q0l (q1j q1q (q1m (ix_k K rfl) (q1t (q0a q4h (q0a q4h (q0a q4h q0e)))) (pe_c C.draw hr (q0a (pv 0) (q0a q0g q0e))) (fun _ _=>rfl)) (pe_c C.text hr (q0a (pv 0) (q0a q4h (q0a (q1j q1q q0g (pe_c C.draw hr (q0a (pv 0) (q0a q0g q0e)))) q0e))))))) q0n) (q0f (q0l (pe_c C.text hr (q0a (pv 0) (q0a (q0p (sl_k K rfl) q4h q0q (q0r (q1j q1q q0g (pe_c C.draw hr (q0a (pv 0) (q0a q0g q0e)))))) (q0a (q1j q1q q0g (pe_c C.draw hr (q0a (pv 0) (q0a q0g q0e)))) q0e))))))))),?_⟩;refine⟨_,rfl,a,b,_,rfl,F,by decide,by decide,fun r1 H1 r10 r11 fd1=>?_⟩;have kN:∀{g:Str} {n:Int} {H2:Hp},Fd a b H H2->(∀c∈tl g,c∈HM.NS)->1<=n->n<=12->∀(t:List Nat) H',t.length=n.toNat->(∀c∈t,c∈tl g)->Fd a b H2 H'->Q (.str (mk t)) H':=fun{g n H2} fd hg n1 n2 t H' l hc fd'=>k t H' ⟨by lia,by lia,fun c h=>hg c (hc c h)⟩ (fd.trans fd')
  refine⟨_,rfl,.inl ⟨rfl,_,rfl,ite2 (fun h=>?_) (fun h=>?_)⟩⟩
  ·refine⟨_,rfl,rfl,_,rfl,a,b,_,rfl,fd1.feed,by decide,by decide,fun r2 H2 r20 r21 fd2=>.inl ⟨_,_,rfl,rfl,?_⟩⟩;exact⟨a,b,HM.NSs,_,rfl,(fd1.trans fd2).feed,by decide +kernel,by decide +kernel,by lia,by lia,kN (fd1.trans fd2) (fun c h=>h) (by lia) (by lia)⟩
  refine⟨_,rfl,.inl ⟨rfl,_,rfl,ite2 (fun h=>?_) (fun h=>?_)⟩⟩
  ·refine⟨by show 3<=sizeLine;decide,fun M hM=>?_⟩;have fdM:=fd1.new (o:=.lst [.str (Ao "img"),.str (Ao "IMG"),.str (Ao "a")]) hM;have hMa:M≠a:=(fd1.feed.na hM).symm;refine⟨_,rfl,a,b,_,rfl,fdM.feed,by decide,by decide,fun r2 H2 r20 r21 fd2=>?_⟩;have hat:∃g:List Nat,atI [V.str (Ao "img"),V.str (Ao "IMG"),V.str (Ao "a")] r2=some (.str (mk g))/\g.length<=3/\∀c∈g,c∈HM.NS:=by
    have e:r2=0\/r2=1\/r2=2:=by lia
    rcases e with rfl|rfl|rfl
    ·exact⟨tl (Ao "img"),by rw[z6f];rfl,by decide +kernel,by decide +kernel⟩
    ·exact⟨tl (Ao "IMG"),by rw[z6f];rfl,by decide +kernel,by decide +kernel⟩
    ·exact⟨tl (Ao "a"),by rw[z6f];rfl,by decide +kernel,by decide +kernel⟩
   obtain⟨g,hat,hg1,hg2⟩:=hat;refine .inl ⟨M,_,r2,_,rfl,rfl,SqL.of (fd2.at q0b hMa),hat,?_⟩;have fd2':=fdM.trans fd2;refine⟨_,rfl,_,rfl,a,b,_,rfl,fd2'.feed,by decide,by decide,fun r3 H3 r30 r31 fd3=>.inl ⟨_,_,rfl,rfl,?_⟩⟩;have fd3':=fd2'.trans fd3;refine⟨a,b,Ao "0123456789",_,rfl,fd3'.feed,by decide +kernel,by decide +kernel,by lia,by lia,fun t H4 l hc fd4=>.inr (.inl ⟨_,_,rfl,rfl,?_,?_⟩)⟩
   ·rw[z0n,z0n];exact small (by lia)
   ·have e:mk g++mk t=mk (g++t):=by rw[<- z6f (mk g++mk t),z6g,q2w,q2w]
    rw[e];refine k (g++t) H4 ⟨by rw[Al];lia,by rw[Al];lia,fun c h=>?_⟩ (fd3'.trans fd4);rcases Am.mp h with h|h
    ·exact hg2 c h
    ·exact fig_in c (hc c h)
  ·refine⟨_,rfl,_,rfl,a,b,_,rfl,fd1.feed,by decide,by decide,fun r2 H2 r20 r21 fd2=>.inl ⟨_,_,rfl,rfl,?_⟩⟩;have fd2':=fd1.trans fd2;have hs:0<(Pm (Ao "aAbB-") none (some (2+r2))).length/\(Pm (Ao "aAbB-") none (some (2+r2))).length<=1000/\∀c∈tl (Pm (Ao "aAbB-") none (some (2+r2))),c∈HM.NS:=by
    have e:r2=0\/r2=1\/r2=2\/r2=3:=by lia
    rcases e with rfl|rfl|rfl|rfl<;>decide +kernel
   refine⟨_,rfl,.inl ⟨_,rfl,by decide +kernel,_,rfl,a,b,_,rfl,fd2'.feed,by decide,by decide,fun r3 H3 r30 r31 fd3=>.inl ⟨_,_,rfl,rfl,?_⟩⟩⟩;exact⟨a,b,_,_,rfl,(fd2'.trans fd3).feed,hs.1,hs.2.1,by lia,by lia,kN (fd2'.trans fd3) hs.2.2 (by lia) (by lia)⟩
def spFold:Sp:=fun vs H Q _=>∃(t:List Nat) (bl:Bool),vs=[.str (mk t),.bl bl]/\okN t/\Q (.str (mk (if bl then lowN t else t))) H
abbrev z2j:Stmt:=top 39
theorem x3e:FnScope ["_law_name", "_law_blind"] ["_law_name", "_law_blind"] (defScope z2j):=⟨rfl,rfl,rfl,by decide +kernel,rfl,by decide +kernel,by decide +kernel⟩
theorem x3f(D:Df K mg "_law_fold" z2j ["_law_name", "_law_blind"])(T:Txt mg):Cal P w K mg base "_law_fold" 1 ["_law_name", "_law_blind"] spFold:=by
 refine D.cal x3e (fun vs H Q E h=>?_) (fun f cdv A outer s H vs Q E hr h=>?_)
 ·obtain⟨t,bl,rfl,_⟩:=h;rfl
 ·obtain⟨t,bl,rfl,ok,k⟩:=h;refine⟨_,(q0f (q0l (pe_j (z8p (@q5x _ _ _ K rfl (pv 1) (fun _=>rfl)) (@z1w _ _ _ _ _ _ _ _ _ K rfl Ej Ij Ik q5z (pv 0) (by rfl) (by rfl)) (pv 0))))),?_⟩;refine⟨fun v H'=>v=.str (mk (if bl then lowN t else t))/\H'=H,fun v H' ⟨e1,e2⟩=>by rw[e1,e2];exact k,?_⟩;refine⟨_,rfl,bl,rfl,?_⟩;cases bl with
  |true =>
   refine iteT ⟨_,rfl,rfl,_,rfl,rfl,small (by rw[z0n];have:=ok.few;lia),?_,rfl⟩;exact congrArg V.str (z3m ok.low)
  |false=>exact iteF ⟨_,rfl,rfl,rfl⟩
end
end K
set_option maxHeartbeats 4000000
namespace K
open PySem L2 TX SB HM
section
variable{P:Program}{w:World}{K:Ak}{mg:Str->Option Value}{base:Heap}
theorem q8j:∀{p q:Pth},kP p=kP q->p=q
 |[],[],_=>rfl
 |[],_::_,h=>by cases h
 |_::_,[],h=>by cases h
 |a::p,b::q,h=>by
  unfold kP at h;rw[Aw,Aw] at h;injection h with h1 h2;injection h1 with h1;rw[SB.mk_inj h1,q8j h2]
theorem q6y{rs:List HRow}{p:Pth}(h:∀r∈rs,r.1≠p):valV (rs.map fun r=>(kP r.1,r.2)) (kP p)=none:=by
 induction rs with
 |nil=>rfl
 |cons r rs ih =>
  rw[Aw,q1n (fun z=>h r At (q8j z))];exact ih fun x hx=>h x (An _ hx)
theorem q5a{rs:List HRow}{r:HRow}(hr:r∈rs)(nd:(rs.map (·.1)).Nodup):valV (rs.map fun r=>(kP r.1,r.2)) (kP r.1)=some r.2:=by
 induction rs with
 |nil=>cases hr
 |cons x rs ih =>
  rw[Aw,Bp] at nd;rcases Ay.mp hr with rfl|hr
  ·rw[Aw];exact q1p rfl
  ·rw[Aw,q1n (fun z=>nd.1 (by rw[q8j z];exact Ac.mpr ⟨r,hr,rfl⟩))];exact ih hr nd.2
theorem q2d{rs:List HRow}{p:Pth}{v:V}(h:∀r∈rs,r.1≠p):putK (rs.map fun r=>(kP r.1,r.2)) (kP p) v=(rs++[(p,v)]).map fun r=>(kP r.1,r.2):=by
 rw[z9k v (q6y h),Af];rfl
def keyO(bl:Bool)(p:Pth):PKey:=(kP p.dropLast,.inr (mk (if bl then lowN (p.getLastD []) else p.getLastD [])))
theorem q9h{bl:Bool}{p q:Pth}(hp:p≠[])(hq:q≠[])(h:fold bl p=fold bl q):keyO bl p=keyO bl q:=by
 obtain⟨h1,h2⟩:=(q5j hp hq).mp h;unfold keyO;cases bl with
 |true=>rw[if_pos rfl] at h2;rw[if_pos rfl,if_pos rfl,h1,h2]
 |false=>rw[if_neg (by decide)] at h2;rw[if_neg (by decide),if_neg (by decide),h1,h2]
theorem q6a{ks:List (PKey×Addr)}{k k':PKey}{b:Addr}(h:hasP ks k=true):hasP (ks++[(k',b)]) k=true:=by
 unfold hasP at *;rw[Po,h,Bool.true_or]
theorem q9i{ks:List (PKey×Addr)}{k:PKey}{b:Addr}:hasP (ks++[(k,b)]) k=true:=by
 unfold hasP;rw[Po,Lg];simp
structure RwI (P:Program) (w:World) (H:Hp) (a b L Dr d:Addr) (bl:Bool) (i:Nat) (H':Hp) (zs:List Zr) (ds:List (Addr×Pth)) (ks:List (PKey×Addr)):Prop where
 fd:Fd a b H H'
 rl:RL H' L zs
 hl:Hl bl (zs.map (·.2))
 len:zs.length<=i
 da:H' Dr=some (.lst (ds.map fun z=>V.ref z.1))
 dt:∀z∈ds,H' z.1=some (.tup (vP z.2))/\(z.2=[]\/((z.2,none)∈zs.map (·.2)))
 dn:ds≠[]
 dl:ds.length<=i+1
 hd:DPr P w H' d ks
 kl:ks.length<=i
 hk:∀z∈zs,hasP ks (keyO bl z.2.1)=true
theorem DPr.fd{P:Program}{w:World}{H H':Hp}{a b d:Addr}{ks:List (PKey×Addr)}(x:DPr P w H d ks)(F:FeedAt H a b)(fd:Fd a b H H')(hd:d≠a):DPr P w H' d ks :=
 ⟨fd.at x.at_ hd,x.sys,x.len,fun y hy=>by obtain⟨c,e1,e2⟩:=x.pk y hy;exact⟨c,tupFd F fd _ _ e1,tupFd F fd _ _ e2⟩⟩
section
variable{H:Hp}{a b L Dr d:Addr}{bl:Bool}{i:Nat}{H' H2:Hp}{zs:List Zr}{ds:List (Addr×Pth)}{ks:List (PKey×Addr)}
theorem RwI.go(x:RwI P w H a b L Dr d bl i H' zs ds ks)(fd:Fd a b H' H2)(hL:L≠a)(hD:Dr≠a)(hd:d≠a):RwI P w H a b L Dr d bl i H2 zs ds ks :=
 ⟨x.fd.trans fd,x.rl.fd x.fd.feed fd hL,x.hl,x.len,fd.at x.da hD,fun z hz=>⟨tupFd x.fd.feed fd _ _ (x.dt z hz).1,(x.dt z hz).2⟩,x.dn,x.dl,DPr.fd x.hd x.fd.feed fd hd,x.kl,x.hk⟩
theorem RwI.sm(x:RwI P w H a b L Dr d bl i H' zs ds ks)(s:Same H' H2):RwI P w H a b L Dr d bl i H2 zs ds ks :=
 ⟨x.fd.same s,x.rl.same s,x.hl,x.len,s _ _ x.da,fun z hz=>⟨s _ _ (x.dt z hz).1,(x.dt z hz).2⟩,x.dn,x.dl,x.hd.same s,x.kl,x.hk⟩
theorem RwI.dput{k:PKey}{e:Addr}(x:RwI P w H a b L Dr d bl i H' zs ds ks)(F:FeedAt H a b)(hd:H d=none)(pk:PrK H' k e)(l:ks.length<sizeLine)(nLd:L≠d)(nDd:Dr≠d):RwI P w H a b L Dr d bl (i+1) (upd H' d (PdO P w d (ks++[(k,e)]))) zs ds (ks++[(k,e)]):=by
 have tk:∀S xs,H' S=some (.tup xs)->upd H' d (PdO P w d (ks++[(k,e)])) S=some (.tup xs):=fun S xs e=>by rw[q0c (fun z=>by rw[z,x.hd.at_] at e;cases e)];exact e
 exact⟨x.fd.put F hd,⟨by rw[q0c nLd];exact x.rl.at_,fun z hz=>PR.same (x.rl.pr z hz) tk⟩,x.hl,Fa x.len,by rw[q0c nDd];exact x.da,fun z hz=>⟨tk _ _ (x.dt z hz).1,(x.dt z hz).2⟩,x.dn,Fa x.dl,x.hd.put pk l,by rw[Al];exact Hm x.kl,fun z hz=>q6a (x.hk z hz)⟩
theorem PR.put{T:Addr}{r:Rw}{ys xs:List V}(h:PR H' T (rR r))(hL:H' L=some (.lst xs)):PR (upd H' L (.lst ys)) T (rR r):=PR.same h fun S xs e=>by rw[q0c (fun z=>by rw[z,hL] at e;cases e)];exact e
theorem RwI.rput{T p:Addr}{q:Pth}{m:Option Int}(x:RwI P w H a b L Dr d bl (i+1) H' zs ds ks)(F:FeedAt H a b)(hL:H L=none)(nLd:L≠d)(nDL:Dr≠L)(hz:zs.length<=i)(hT:H' T=some (.tup [.ref p,mV m]))(hp:H' p=some (.tup (vP q)))(ok:okP q)(hnew:∀z∈zs,fold bl z.2.1≠fold bl q)(hq:q.dropLast=[]\/(q.dropLast,none)∈zs.map (·.2))(hk:hasP ks (keyO bl q)=true):RwI P w H a b L Dr d bl (i+1) (upd H' L (.lst (zs.map (fun z=>V.ref z.1)++[.ref T]))) (zs++[(T,(q,m))]) ds ks:=by
 have tk:∀S xs,H' S=some (.tup xs)->upd H' L (.lst (zs.map (fun z=>V.ref z.1)++[.ref T])) S=some (.tup xs):=fun S xs e=>by rw[q0c (fun z=>by rw[z,x.rl.at_] at e;cases e)];exact e
 have em:(zs++[(T,(q,m))]).map (·.2)=zs.map (·.2)++[(q,m)]:=by rw[Af];rfl
 refine⟨x.fd.put F hL,⟨by rw[q0b,Af];rfl,fun z hz=>?_⟩,?_,by rw[Al];exact Hm hz,by rw[q0c nDL];exact x.da,fun z hz=>⟨tk _ _ (x.dt z hz).1,(x.dt z hz).2.imp id fun y=>by rw[em];exact Ch _ y⟩,x.dn,x.dl,⟨by rw[q0c nLd.symm];exact x.hd.at_,x.hd.sys,x.hd.len,fun y hy=>by obtain⟨c,e1,e2⟩:=x.hd.pk y hy;exact⟨c,tk _ _ e1,tk _ _ e2⟩⟩,x.kl,fun z hz=>?_⟩
 ·rcases Am.mp hz with hz|hz
  ·exact PR.same (x.rl.pr z hz) tk
  ·rw[Ai.mp hz];exact⟨p,tk _ _ hT,tk _ _ hp⟩
 ·rw[em];refine⟨fun r hr=>?_,?_,fun r hr=>?_⟩
  ·rcases Am.mp hr with hr|hr
   ·exact x.hl.ok r hr
   ·rw[Ai.mp hr];exact ok
  ·rw[Af];refine Dj.mpr ⟨x.hl.nd,(Pi _ _),fun y hy y' hy'=>?_⟩;rw[Ai.mp hy'];obtain⟨r,hr,rfl⟩:=Ac.mp hy;obtain⟨z,hz,rfl⟩:=Ac.mp hr;exact hnew z hz
  ·rcases Am.mp hr with hr|hr
   ·exact(x.hl.dr r hr).imp id fun z=>Ch _ z
   ·rw[Ai.mp hr];exact hq.imp id fun z=>Ch _ z
 ·rcases Am.mp hz with hz|hz
  ·exact x.hk z hz
  ·rw[Ai.mp hz];exact hk
theorem RwI.draw{p:Addr}{q:Pth}(x:RwI P w H a b L Dr d bl (i+1) H' zs ds ks)(F:FeedAt H a b)(hD:H Dr=none)(nDL:Dr≠L)(nDd:Dr≠d)(hl:ds.length<=i+1)(hp:H' p=some (.tup (vP q)))(hq:(q,none)∈zs.map (·.2)):RwI P w H a b L Dr d bl (i+1) (upd H' Dr (.lst (ds.map (fun z=>V.ref z.1)++[.ref p]))) zs (ds++[(p,q)]) ks:=by
 have tk:∀S xs,H' S=some (.tup xs)->upd H' Dr (.lst (ds.map (fun z=>V.ref z.1)++[.ref p])) S=some (.tup xs):=fun S xs e=>by rw[q0c (fun z=>by rw[z,x.da] at e;cases e)];exact e
 refine⟨x.fd.put F hD,⟨by rw[q0c nDL.symm];exact x.rl.at_,fun z hz=>PR.same (x.rl.pr z hz) tk⟩,x.hl,x.len,by rw[q0b,Af];rfl,fun z hz=>?_,by simp,by rw[Al];exact Hm hl,⟨by rw[q0c nDd.symm];exact x.hd.at_,x.hd.sys,x.hd.len,fun y hy=>by obtain⟨c,e1,e2⟩:=x.hd.pk y hy;exact⟨c,tk _ _ e1,tk _ _ e2⟩⟩,x.kl,x.hk⟩;rcases Am.mp hz with hz|hz
 ·exact⟨tk _ _ (x.dt z hz).1,(x.dt z hz).2⟩
 ·rw[Ai.mp hz];exact⟨tk _ _ hp,.inr hq⟩
end
structure CallsN (P:Program) (w:World) (K:Ak) (mg:Str->Option Value) (base:Heap):Prop where
 draw:Cal P w K mg base "_law_draw" 1 ["_law_feed", "_law_many"] spDraw
 a_name:Cal P w K mg base "_law_a_name" 3 ["_law_feed"] spName
 fold:Cal P w K mg base "_law_fold" 1 ["_law_name", "_law_blind"] spFold
def spRows:Sp:=fun vs H Q _=>∃a b bl m,vs=[.ref a,.bl bl,.int m]/\FeedAt H a b/\0<=m/\m<=60/\∀L zs H',Fd a b H H'->H L=none->RL H' L zs->Hl bl (zs.map (·.2))->zs.length<=m.toNat->Q (.ref L) H'
abbrev z2k:Stmt:=top 40
theorem sc_rows:FnScope ["_law_feed", "_law_blind", "_law_most", "_law_rows_here", "_law_drawers", "_law_there", "_law_k", "_law_drawer", "_law_name", "_law_mark"] ["_law_feed", "_law_blind", "_law_most"] (defScope z2k):=⟨rfl,rfl,rfl,by decide +kernel,rfl,by decide +kernel,by decide +kernel⟩
theorem x3g(D:Df K mg "_law_rows" z2k ["_law_feed", "_law_blind", "_law_most"])(T:Txt mg)(C:CallsN P w K mg base):Cal P w K mg base "_law_rows" 4 ["_law_feed", "_law_blind", "_law_most"] spRows:=by
 refine D.cal sc_rows (fun vs H Q E h=>?_) (fun f cdv A outer s H vs Q E hr h=>?_)
 ·obtain⟨a,b,bl,m,rfl,_⟩:=h;rfl
 ·obtain⟨a,b,bl,m,rfl,F,hm0,hm1,k⟩:=h;refine⟨_,(q0d (q0j (i:=3) sc_rows.nd rfl (by first|exact Or.inl rfl|exact Or.inr rfl) (q1t q0e)) (q0d (q0j (i:=4) sc_rows.nd rfl (by first|exact Or.inl rfl|exact Or.inr rfl) (q1t (q0a (q1g q0e) q0e))) (q0d (q0j (i:=5) sc_rows.nd rfl (by first|exact Or.inl rfl|exact Or.inr rfl) (z3k P w rfl rfl)) (q0d (q1f Bi rfl (q3o rfl T.b_range (q0a (pe_c C.draw hr (q0a (pv 0) (q0a (q1j q1q (pv 2) q0g) q0e))) q0e)) (q0h (i:=6) sc_rows.nd rfl (by first|exact Or.inl rfl|exact Or.inr rfl)) (q0d (q0j (i:=7) sc_rows.nd rfl (by first|exact Or.inl rfl|exact Or.inr rfl) (q1m (ix_k K rfl) (pv 4) (pe_c C.draw hr (q0a (pv 0) (q0a (q0m (q4f K rfl) (by rfl) T.b_len Ck (q0a (pv 4) q0e)) q0e))) (fun _ _=>rfl))) (q0d (q0j (i:=8) sc_rows.nd rfl (by first|exact Or.inl rfl|exact Or.inr rfl) (pe_c C.a_name hr (q0a (pv 0) q0e))) (q0d (q0j (i:=9) sc_rows.nd rfl (by first|exact Or.inl rfl|exact Or.inr rfl) (q1m (ix_k K rfl) (q1t (q0a q5q (q0a q0g (q0a (pe_c C.draw hr (q0a (pv 0) (q0a q0g q0e))) (q0a (pe_c C.draw hr (q0a (pv 0) (q0a (q1j q1q (q1j x0v q0g q0g) q0g) q0e))) q0e))))) (pe_c C.draw hr (q0a (pv 0) (q0a q0g q0e))) (fun _ _=>rfl))) (q0f (q1e (pt_j (@PW.pt _ _ _ (q2s (q0k z8r (q0m (q4f K rfl) (by rfl) T.b_len Ck (q0a (pv 7) q0e)) q0g (nomark _)) (q1u (q2a (z0z P w rfl rfl (z1a hr) (q1g (q0a (pv 7) (q0a (pe_c C.fold hr (q0a (pv 8) (q0a (pv 1) q0e))) q0e))) (pv 5))))))) (q0d (z2d P w rfl rfl (z1a hr) (pv 5) (q1g (q0a (pv 7) (q0a (pe_c C.fold hr (q0a (pv 8) (q0a (pv 1) q0e))) q0e))) q4e rfl) (q0d (q2b (@bm_k _ _ _ _ _ _ _ _ _ _ _ _ K rfl Cv Dg Dh q1w (pv 3) (q0a (q1g (q0a (q1j q3e (pv 7) (q1g (q0a (pv 8) q0e))) (q0a (pv 9) q0e))) q0e) (by rfl) (by rfl) (by rfl) (by rfl) (by rfl))) (q0f (q1e (q2a (q5s (pv 9))) (q0f (q2b (@bm_k _ _ _ _ _ _ _ _ _ _ _ _ K rfl Cv Dg Dh q1w (pv 4) (q0a (q1j q3e (pv 7) (q1g (q0a (pv 8) q0e))) q0e) (by rfl) (by rfl) (by rfl) (by rfl) (by rfl)))) q0n)))) q0n)))))) (q0f (q0l (pv 3))))))),?_⟩;refine⟨by show 0<=sizeLine;decide,fun L hL=>⟨by show 0<=sizeLine;decide,fun p0 hp0=>⟨by show 1<=sizeLine;decide,fun Dr hDr=>?_⟩⟩⟩;intro d hd hsys;have hLa:L≠a:=(q0i F.fa.choose_spec.choose_spec hL).symm;have s1:=(Same.refl H).new (o:=.lst []) hL;have s2:=s1.new (o:=.tup []) hp0;have s3:=s2.new (o:=.lst [.ref p0]) hDr;have s4:=s3.new (o:=PdO P w d []) hd;have hDrH:H Dr=none:=s2.free hDr;have hdH:H d=none:=s3.free hd;have hDa:Dr≠a:=(q0i F.fa.choose_spec.choose_spec hDrH).symm;have hda:d≠a:=(q0i F.fa.choose_spec.choose_spec hdH).symm;have hLp:p0≠L:=fun z=>by rw[z,q0b] at hp0;cases hp0
  have hLDr:Dr≠L:=fun z=>by rw[z,q0c hLp.symm,q0b] at hDr;cases hDr
  have hpDr:Dr≠p0:=fun z=>by rw[z,q0b] at hDr;cases hDr
  have hLd:d≠L:=fun z=>by rw[z,q0c hLDr.symm,q0c hLp.symm,q0b] at hd;cases hd
  have hDd:d≠Dr:=fun z=>by rw[z,q0b] at hd;cases hd
  have hpd:d≠p0:=fun z=>by rw[z,q0c hpDr.symm,q0b] at hd;cases hd
  have I0:RwI P w H a b L Dr d bl 0 (upd (upd (upd (upd H L (.lst [])) p0 (.tup [])) Dr (.lst [.ref p0])) d (PdO P w d [])) [] [(p0,[])] []:=by
   refine⟨(Fd.refl F).same s4,⟨?_,(fun _ h=>nomatch h)⟩,Hl.nil bl,Aq _,?_,fun z hz=>?_,by simp,Aq _,⟨q0b,hsys,Bl _,(fun _ h=>nomatch h)⟩,Aq _,(fun _ h=>nomatch h)⟩
   ·rw[q0c hLd.symm,q0c hLDr.symm,q0c hLp.symm];exact q0b
   ·rw[q0c hDd.symm];exact q0b
   ·rw[Ai.mp hz];exact⟨by rw[q0c hpd.symm,q0c hpDr.symm];exact q0b,.inl rfl⟩
  refine⟨_,rfl,_,rfl,.inl ⟨_,_,rfl,rfl,a,b,_,rfl,I0.fd.feed,by lia,by lia,fun r0 H1 r00 r01 fd1=>?_⟩⟩;have I1:=I0.go fd1 hLa hDa hda;refine⟨r0,rfl,by lia,by lia,q4r (n:=r0.toNat) (fun i σ' H'=>∃zs ds ks x6 x7 x8 x9,σ'=[some (.ref a),some (.bl bl),some (.int m),some (.ref L),some (.ref Dr),some (.ref d),x6,x7,x8,x9]/\RwI P w H a b L Dr d bl i H' zs ds ks/\i<=r0.toNat) ⟨[],_,_,none,none,none,none,rfl,I1,Bl _⟩ ?_ ?_⟩
  ·rintro i σ' H' hi ⟨zs,ds,ks,x6,x7,x8,x9,rfl,I2,_⟩;have hdl:=I2.dl;have hdn:0<ds.length:=Bu.mpr I2.dn;refine⟨_,rfl,_,rfl,_,rfl,_,_,rfl,.inl ⟨_,SqL.of I2.da,rfl⟩,a,b,_,rfl,I2.fd.feed,by rw[Ab];lia,by rw[Ab];lia,fun r1 H2 r10 r11 fd2=>?_⟩;have I3:=I2.go fd2 hLa hDa hda;rw[Ab] at r11;obtain⟨v,hv1,hv2⟩:=q7r (xs:=ds.map fun z=>V.ref z.1) r10 (by rw[Ab];exact r11);obtain⟨z,hz,rfl⟩:∃z∈ds,v=V.ref z.1:=by
    rw[Ae] at hv1;cases e:ds[r1.toNat]? with
    |none=>rw[e] at hv1;cases hv1
    |some z=>rw[e] at hv1;cases hv1;exact⟨z,Ag e,rfl⟩
   refine .inl ⟨Dr,_,r1,_,rfl,rfl,SqL.of I3.da,hv2,?_⟩;refine⟨_,rfl,a,b,rfl,I3.fd.feed,fun t H3 okt fd3=>?_⟩;have I4:=I3.go fd3 hLa hDa hda;refine⟨_,rfl,a,b,_,rfl,I4.fd.feed,by decide,by decide,fun m1 H5 m10 m11 fd5=>?_⟩;have I5:=I4.go fd5 hLa hDa hda;refine⟨_,rfl,_,_,rfl,rfl,⟨by decide,by decide,by decide⟩,.inl ⟨_,_,rfl,rfl,a,b,_,rfl,I5.fd.feed,by decide,by decide,fun m2 H6 m20 m21 fd6=>⟨by show 4<=sizeLine;decide,fun M hM=>?_⟩⟩⟩;have I6:=I5.go fd6 hLa hDa hda;have hMa:M≠a:=(I6.fd.feed.na hM).symm;have I7:=I6.sm ((Same.refl H6).new (o:=.lst [.non,.int 0,.int m1,.int m2]) hM);refine⟨_,rfl,a,b,_,rfl,I7.fd.feed,by decide,by decide,fun m3 H8 m30 m31 fd8=>?_⟩;have I8:=I7.go fd8 hLa hDa hda;have hat:∃mk0:Option Int,atI [V.non,V.int 0,V.int m1,V.int m2] m3=some (mV mk0):=by
    have e:m3=0\/m3=1\/m3=2\/m3=3:=by lia
    rcases e with rfl|rfl|rfl|rfl
    ·exact⟨none,rfl⟩
    ·exact⟨some 0,rfl⟩
    ·exact⟨some m1,rfl⟩
    ·exact⟨some m2,rfl⟩
   obtain⟨mk0,hat⟩:=hat;refine .inl ⟨M,_,m3,_,rfl,rfl,SqL.of (fd8.at q0b hMa),hat,?_⟩;clear hat I7 I6 I5 I4 I3 fd2 fd3 fd5 fd6 hv1 hv2 hMa;obtain⟨zt,zd⟩:=I8.dt z hz;have hqne:z.2++[t]≠[]:=by simp
   have hk2:keyO bl (z.2++[t])=(kP z.2,.inr (mk (if bl then lowN t else t))):=by
    unfold keyO;rw[Cf,Ee]
   have pk:∀{H9:Hp} {p:Addr},H9 z.1=some (.tup (vP z.2))->H9 p=some (.tup [.ref z.1,.str (mk (if bl then lowN t else t))])->PrK H9 (keyO bl (z.2++[t])) p:=fun{H9 p} e1 e2=>by
    rw[hk2];exact⟨z.1,e2,by rw[q1x];exact e1⟩
   refine⟨fun bb H9=>RwI P w H a b L Dr d bl i H9 zs ds ks/\(bb=true->z.2.length<6/\hasP ks (keyO bl (z.2++[t]))=false),?_,?_⟩;rotate_left
   ·refine⟨_,rfl,_,_,rfl,.inr ⟨_,SqT.of zt,rfl⟩,_,_,rfl,rfl,_,rfl,?_⟩;refine iteB (fun hb=>?_) (fun hb=>⟨I8,(fun z=>by cases z)⟩);have hb':z.2.length<6:=by
     have e:=of_decide_eq_true hb;rw[q0z] at e;lia
    refine⟨_,rfl,_,rfl,_,rfl,t,bl,rfl,okt,by show 2<=sizeLine;decide,fun p2 hp2=>?_⟩;have s9:=(Same.refl H8).new (o:=.tup [.ref z.1,.str (mk (if bl then lowN t else t))]) hp2;exact⟨_,rfl,d,ks,p2,keyO bl (z.2++[t]),rfl,rfl,(I8.sm s9).hd,pk (s9 _ _ zt) q0b,_,rfl,I8.sm s9,fun e=>⟨hb',by simpa using e⟩⟩
   rintro bb H9 ⟨I9,hbb⟩;refine ite2 (fun hb=>?_) (fun hb=>⟨zs,ds,ks,_,_,_,_,rfl,⟨I9.fd,I9.rl,I9.hl,Fa I9.len,I9.da,I9.dt,I9.dn,Fa I9.dl,I9.hd,Fa I9.kl,I9.hk⟩,hi⟩);obtain⟨h6,hno⟩:=hbb hb;obtain⟨zt9,_⟩:=I9.dt z hz;refine⟨_,rfl,_,rfl,_,rfl,_,rfl,t,bl,rfl,okt,by show 2<=sizeLine;decide,fun p3 hp3=>?_⟩;have sA:=(Same.refl H9).new (o:=.tup [.ref z.1,.str (mk (if bl then lowN t else t))]) hp3;have IA:=I9.sm sA;have pkA:=pk (sA _ _ zt9) (p:=p3) q0b;have ksl:ks.length<sizeLine:=by have:=I9.kl;exact small' (by lia)
   refine⟨d,ks,p3,keyO bl (z.2++[t]),rfl,rfl,rfl,IA.hd,pkA,hno,ksl,?_⟩;have IB:=IA.dput F hdH pkA ksl hLd.symm hDd.symm;have hl9:zs.length<=i:=I9.len;have hnew:∀y∈zs,fold bl y.2.1≠fold bl (z.2++[t]):=fun y hy e=>by
    have h1:=I9.hk y hy;rw[q9h (I9.hl.ok _ (Ac.mpr ⟨y,hy,rfl⟩)).ne hqne e] at h1;rw[h1] at hno;cases hno
   have okp:okP (z.2++[t]):=by
    refine⟨by simp,by rw[Al];show _+1<=6;lia,fun n hn=>?_⟩;rcases Am.mp hn with hn|hn
    ·rcases zd with e|e
     ·rw[e] at hn;cases hn
     ·exact(I9.hl.ok _ e).all n hn
    ·rw[Ai.mp hn];exact okt
   have hqd:(z.2++[t]).dropLast=[]\/((z.2++[t]).dropLast,none)∈zs.map (·.2):=by rw[Cf];exact zd
   have hkB:hasP (ks++[(keyO bl (z.2++[t]),p3)]) (keyO bl (z.2++[t]))=true:=q9i;clear IA I8 zt zt9 pkA pk hno hbb I9 sA;generalize upd (upd H9 p3 (.tup [.ref z.1,.str (mk (if bl then lowN t else t))])) d _=HB at IB;generalize ks++[(keyO bl (z.2++[t]),p3)]=ks2 at IB hkB;obtain⟨ztB,_⟩:=IB.dt z hz;refine⟨_,rfl,.inl ⟨rfl,_,SqL.of IB.rl.at_⟩,_,rfl,_,rfl,by show 1<=sizeLine;decide,fun p4 hp4=>?_⟩;have s5:=(Same.refl HB).new (o:=.tup [.str (mk t)]) hp4;refine⟨z.1,p4,_,_,rfl,rfl,s5 _ _ ztB,q0b,by rw[q0z];exact small (by show _+1<=_;lia),fun p5 HC sC hp5 _=>?_⟩;have hp5':HC p5=some (.tup (vP (z.2++[t]))):=by rw[hp5];show _=some (HO.tup ((z.2++[t]).map _));rw[Af];rfl
   have IC:=IB.sm (s5.trans sC);refine⟨_,rfl,by show 2<=sizeLine;decide,fun T1 hT1=>?_⟩;have sD:=(Same.refl HC).new (o:=.tup [.ref p5,mV mk0]) hT1;have ID:=IC.sm sD;refine⟨L,_,_,rfl,rfl,ID.rl.at_,by rw[Ab];exact small' (by lia),?_⟩;have IE:=ID.rput (m:=mk0) F hL hLd.symm hLDr hl9 q0b (sD _ _ hp5') okp hnew hqd hkB;have zE:=(IE.dt z hz).1;generalize upd (upd HC T1 (.tup [.ref p5,mV mk0])) L _=HE at IE zE;refine⟨_,rfl,_,rfl,?_⟩;cases mk0 with
   |some x=>exact iteF ⟨_,_,_,_,_,_,_,rfl,IE,hi⟩
   |none =>
    refine iteT ⟨_,rfl,.inl ⟨rfl,_,SqL.of IE.da⟩,_,rfl,_,rfl,by show 1<=sizeLine;decide,fun p6 hp6=>?_⟩;have s6:=(Same.refl HE).new (o:=.tup [.str (mk t)]) hp6;refine⟨z.1,p6,_,_,rfl,rfl,s6 _ _ zE,q0b,by rw[q0z];exact small (by show _+1<=_;lia),fun p7 HF sF hp7 _=>?_⟩;have hp7':HF p7=some (.tup (vP (z.2++[t]))):=by rw[hp7];show _=some (HO.tup ((z.2++[t]).map _));rw[Af];rfl
    have IF:=IE.sm (s6.trans sF);refine⟨Dr,_,_,rfl,rfl,IF.da,by rw[Ab];exact small' (by lia),?_⟩;exact⟨_,_,_,_,_,_,_,rfl,IF.draw F hDrH hLDr hDd.symm hdl hp7' (by simp),hi⟩
  ·rintro σ' H' ⟨zs,ds,ks,x6,x7,x8,x9,rfl,I2,_⟩;exact⟨_,rfl,k L zs H' I2.fd hL I2.rl I2.hl (by have:=I2.len;lia)⟩
end
end K
set_option maxHeartbeats 4000000
namespace K
open PySem L2 TX SB HM
section
variable{P:Program}{w:World}{K:Ak}{mg:Str->Option Value}{base:Heap}
structure Hk (K:Ak) (c:Addr):Prop where
 cl:Cls K c
 b:NoAttr K c "blind"
 m:NoAttr K c "marks"
abbrev hF(bl:Bool)(d:Addr):List (Str×V):=[("blind",.bl bl),("marks",.ref d)]
structure HallAt (c:Addr) (H:Hp) (h d:Addr) (bl:Bool) (rows:List Rw):Prop where
 i:∃dx,H h=some (.ins c dx (hF bl d))
 d:H d=some (dR (rows.map rR))
theorem HallAt.same{c:Addr}{H H':Hp}{h d:Addr}{bl:Bool}{rows:List Rw}(x:HallAt c H h d bl rows)(s:Same H H'):HallAt c H' h d bl rows:=⟨x.i.imp fun dx e=>s _ _ e,s _ _ x.d⟩
def spAlike:Sp:=fun vs H Q _=>∃x y,vs=[.str x,.str y]/\(∀c∈tl x,c<128)/\(∀c∈tl y,c<128)/\x.length<=1000/\y.length<=1000/\Q (.bl (decide ((tl x).map Bw=(tl y).map Bw))) H
abbrev q9j:Stmt:=top 11
theorem x0d:FnScope ["one", "other"] ["one", "other"] (defScope q9j):=⟨rfl,rfl,rfl,by decide +kernel,rfl,by decide +kernel,by decide +kernel⟩
theorem x0e(D:Df K mg "alike" q9j ["one", "other"])(T:Txt mg):Cal P w K mg base "alike" 1 ["one", "other"] spAlike:=by
 refine D.cal x0d (fun vs H Q E h=>?_) (fun f cdv A outer s H vs Q E hr h=>?_)
 ·obtain⟨x,y,rfl,_⟩:=h;rfl
 ·obtain⟨x,y,rfl,ax,ay,lx,ly,k⟩:=h;refine⟨_,(q0f (q0l (q5d (eq_k K rfl hr) (@z1w _ _ _ _ _ _ _ _ _ K rfl Ej Ij Ik q5z (pv 0) (by rfl) (by rfl)) (@z1w _ _ _ _ _ _ _ _ _ K rfl Ej Ij Ik q5z (pv 1) (by rfl) (by rfl)) (nomark _)))),?_⟩;refine⟨_,rfl,rfl,_,rfl,rfl,small (by lia),⟨_,rfl,rfl,_,rfl,rfl,small (by lia),.inl ⟨rfl,?_⟩⟩⟩;have e:decide ((V.str (Ic x))=V.str (Ic y))=decide ((tl x).map Bw=(tl y).map Bw):=by
   rw[<- TX.lower ax,<- TX.lower ay];by_cases h:Ic x=Ic y
   ·rw[h];simp
   ·rw[decide_eq_false (fun z=>h (V.str.inj z)),decide_eq_false (fun z=>h (TX.ext z))]
  rw[e];exact k
structure CallsH (P:Program) (w:World) (K:Ak) (mg:Str->Option Value) (base:Heap):Prop where
 alike:Cal P w K mg base "alike" 1 ["one", "other"] spAlike
theorem q1i{p:Pth}(h:Low p):Low p.dropLast:=fun n hn=>h n (Mq _ hn)
def spOneP(c:Addr):Sp:=fun vs H Q _=>∃h p q bl dx fs one other,vs=[.ref h,.ref p,.ref q]/\H h=some (.ins c dx fs)/\fs.lookup ("blind" : Str)=some (V.bl bl)/\H p=some (.tup (vP one))/\H q=some (.tup (vP other))/\okP one/\okP other /\
 ∀H',Same H H'->Q (.bl (decide (fold bl one=fold bl other))) H'
abbrev q1r:Stmt:=inClass (top 14) 3
theorem q4g:FnScope ["self", "one", "other"] ["self", "one", "other"] (defScope q1r):=⟨rfl,rfl,rfl,by decide +kernel,rfl,by decide +kernel,by decide +kernel⟩
theorem z1d{c:Addr}(D:Mf K c "is_one_place" "Hall.is_one_place" q1r ["self", "one", "other"])(hk:Hk K c)(T:Txt mg)(C:CallsH P w K mg base):MCal P w K mg base c "is_one_place" 2 ["self", "one", "other"] (spOneP c):=by
 refine D.cal hk.cl q4g (fun vs H Q E h=>?_) (fun f cdv A outer s H vs Q E hr h=>?_)
 ·obtain⟨h,p,q,bl,dx,fs,one,other,rfl,_⟩:=h;rfl
 ·obtain⟨h,p,q,bl,dx,fs,one,other,rfl,hh,hb,hp,hq,ok1,ok2,k⟩:=h;refine⟨_,(q0d (q1e (q0k (ne_k K rfl hr) (q0p (sl_k K rfl) (pv 1) q0q (q0r (q1l q0s q0g))) (q0p (sl_k K rfl) (pv 2) q0q (q0r (q1l q0s q0g))) (nomark _)) (q0f (q0l q4e)) q0n) (q0d (q1e (@q5x _ _ _ K rfl (@z4o _ _ _ _ _ K rfl (pv 0) (by rfl)) (fun _=>rfl)) (q0f (q0l (pe_c C.alike hr (q0a (q1m (ix_k K rfl) (pv 1) (q1l q0s q0g) (fun _ _=>rfl)) (q0a (q1m (ix_k K rfl) (pv 2) (q1l q0s q0g) (fun _ _=>rfl)) q0e))))) q0n) (q0f (q0l (q5d (eq_k K rfl hr) (q1m (ix_k K rfl) (pv 1) (q1l q0s q0g) (fun _ _=>rfl)) (q1m (ix_k K rfl) (pv 2) (q1l q0s q0g) (fun _ _=>rfl)) (nomark _)))))),?_⟩;obtain⟨c1,c2⟩:=q1a ok1.ne;obtain⟨d1,d2⟩:=q1a ok2.ne;refine⟨_,rfl,_,rfl,_,rfl,.inr (.inr ⟨p,_,rfl,SqT.of hp,c2,fun p1 hp1=>?_⟩)⟩;rw[c1];have s1:=(Same.refl H).new (o:=.tup (vP one.dropLast)) hp1;refine⟨_,rfl,_,rfl,_,rfl,.inr (.inr ⟨q,_,rfl,SqT.of (s1 _ _ hq),d2,fun p2 hp2=>?_⟩)⟩;rw[d1];have s2:=s1.new (o:=.tup (vP other.dropLast)) hp2;have hp1':upd (upd H p1 (.tup (vP one.dropLast))) p2 (.tup (vP other.dropLast)) p1=some (.tup (vP one.dropLast)):=by
   rw[q0c (fun z=>by rw[<- z,q0b] at hp2;cases hp2)];exact q0b
  generalize hH2:upd (upd H p1 (.tup (vP one.dropLast))) p2 (.tup (vP other.dropLast))=H2 at s2 hp1';have hp2':H2 p2=some (.tup (vP other.dropLast)):=by rw[<- hH2];exact q0b
  have fe:=q5j (bl:=bl) ok1.ne ok2.ne;refine q2v hp1' hp2' (q1i ok1.low) (q1i ok2.low) ⟨_,rfl,ite2 (fun hne=>?_) (fun hne=>?_)⟩
  ·have hne':one.dropLast≠other.dropLast:=by simpa using hne
   have e:decide (fold bl one=fold bl other)=false:=decide_eq_false fun z=>hne' (fe.mp z).1;refine(?_:Q _ _);rw[<- e];exact k _ s2
  ·have heq:one.dropLast=other.dropLast:=by simpa using hne
   refine⟨_,rfl,h,c,dx,fs,_,rfl,s2 _ _ hh,hk.cl,hk.b,hb,_,rfl,?_⟩;have l1:=q2q ok1;have l2:=q2q ok2;cases bl with
   |true =>
    refine iteT ⟨_,rfl,_,rfl,.inr (.inl ⟨p,_,-1,_,rfl,rfl,SqT.of (s2 _ _ hp),q2x ok1.ne,?_⟩)⟩;refine⟨_,rfl,_,rfl,.inr (.inl ⟨q,_,-1,_,rfl,rfl,SqT.of (s2 _ _ hq),q2x ok2.ne,?_⟩)⟩;refine⟨_,_,rfl,by rw[q2w];exact l1.low,by rw[q2w];exact l2.low,by rw[z0n];have:=l1.few;lia,by rw[z0n];have:=l2.few;lia,?_⟩;rw[q2w,q2w];have e:decide (fold true one=fold true other)=decide (lowN (one.getLastD [])=lowN (other.getLastD [])):=by
     refine decide_eq_decide.mpr (fe.trans ⟨fun z=>by simpa using z.2,fun z=>⟨heq,by simpa using z⟩⟩)
    have:=k _ s2;rw[e] at this;exact this
   |false =>
    refine iteF ⟨_,rfl,_,rfl,.inr (.inl ⟨p,_,-1,_,rfl,rfl,SqT.of (s2 _ _ hp),q2x ok1.ne,?_⟩)⟩;refine⟨_,rfl,_,rfl,.inr (.inl ⟨q,_,-1,_,rfl,rfl,SqT.of (s2 _ _ hq),q2x ok2.ne,?_⟩)⟩;refine .inl ⟨rfl,?_⟩;have e:decide (fold false one=fold false other)=decide (V.str (mk (one.getLastD []))=V.str (mk (other.getLastD []))):=by
     refine decide_eq_decide.mpr (fe.trans ⟨fun z=>?_,fun z=>⟨heq,?_⟩⟩)
     ·have:=z.2;simp only[Ax,if_false] at this;rw[this]
     ·simp only[Ax,if_false];exact SB.mk_inj (V.str.inj z)
    have:=k _ s2;rw[e] at this;exact this
def spThere(c:Addr):Sp:=fun vs H Q _=>∃h d p bl rows place,vs=[.ref h,.ref p]/\HallAt c H h d bl rows/\H p=some (.tup (vP place))/\okP place/\(∀r∈rows,okP r.1) /\
 (∀H',Same H H'->(∀r∈rows,fold bl r.1≠fold bl place)->Q .non H')/\∀H' b r,Same H H'->r∈rows->fold bl r.1=fold bl place->H' b=some (.tup (vP r.1))->Q (.ref b) H'
structure CallsI (P:Program) (w:World) (K:Ak) (mg:Str->Option Value) (base:Heap) (c:Addr):Prop where
 m_is_one_place:MCal P w K mg base c "is_one_place" 2 ["self", "one", "other"] (spOneP c)
theorem q2f{H H':Hp}{d:Addr}{o:HO}(hd:H d=some o)(k:∀a u,a≠d->H a=some u->H' a=some u):Same H (upd H' d o):=fun a u e=>by
 by_cases z:a=d
 ·subst z;rw[q0b,<- hd];exact e
 ·rw[q0c z];exact k a u z e
abbrev q3g:Stmt:=inClass (top 14) 4
theorem sc_Hall_there:FnScope ["self", "place", "path"] ["self", "place"] (defScope q3g):=⟨rfl,rfl,rfl,by decide +kernel,rfl,by decide +kernel,by decide +kernel⟩
theorem x0f{c:Addr}(D:Mf K c "there" "Hall.there" q3g ["self", "place"])(hk:Hk K c)(T:Txt mg)(C:CallsI P w K mg base c):MCal P w K mg base c "there" 3 ["self", "place"] (spThere c):=by
 refine D.cal hk.cl sc_Hall_there (fun vs H Q E h=>?_) (fun f cdv A outer s H vs Q E hr h=>?_)
 ·obtain⟨h,d,p,bl,rows,place,rfl,_⟩:=h;rfl
 ·obtain⟨h,d,p,bl,rows,place,rfl,hh,hp,ok,oks,k1,k2⟩:=h;refine⟨_,(q0d (q3r H rfl (q1f Bi rfl (@q4w _ _ _ _ K rfl (@z4o _ _ _ _ _ K rfl (pv 0) (by rfl))) (q0h (i:=2) sc_Hall_there.nd rfl (by first|exact Or.inl rfl|exact Or.inr rfl)) (q0f (q1e (@q5x _ _ _ K rfl (pe_m C.m_is_one_place hr (pv 0) (q0a (pv 2) (q0a (pv 1) q0e))) (fun _=>rfl)) (q0f (q0l (pv 2))) q0n)))) (q0f (q0l q5q))),?_⟩;obtain⟨dx,hi⟩:=hh.i;have hd:=hh.d;have hhd:h≠d:=fun z=>by rw[z,hd] at hi;cases hi
  have hpd:p≠d:=fun z=>by rw[z,hd] at hp;cases hp
  refine⟨d,(fun o v e=>by rw[hd] at e;cases e),?_⟩;refine⟨_,rfl,h,c,dx,_,_,rfl,hi,hk.cl,hk.m,rfl,d,_,rfl,hd,fun ob=>?_⟩;refine q2o (fun i σ' H'=>(∃x,σ'=[some (.ref h),some (.ref p),x])/\H' d=some (.frz ob (dR (rows.map rR)))/\(∀a u,a≠d->H a=some u->H' a=some u)/\∀r∈rows.take i,fold bl r.1≠fold bl place)
   ⟨⟨none,rfl⟩,q0b,fun a u n e=>by rw[q0c n];exact e,fun r hr=>by rw[Gj] at hr;cases hr⟩ (fun i σ' H' x=>x.2.1) ?_ ?_
  ·rintro i ky v b σ' H' hk' hb ⟨⟨x,rfl⟩,hfz,kp,hno⟩;obtain⟨r,hr,rfl,rfl⟩:∃r,rows[i]?=some r/\ky=kP r.1/\v=mV r.2:=by
    rw[Ae,Ae] at hk';cases e:rows[i]? with
    |none=>rw[e] at hk';cases hk'
    |some r=>rw[e] at hk';cases hk';exact⟨r,rfl,rfl,rfl⟩
   have hrm:=Ag hr;rw[q1x] at hb;refine⟨_,rfl,h,dx,_,rfl,kp _ _ hhd hi,rfl,_,rfl,_,rfl,h,b,p,bl,dx,_,r.1,place,rfl,kp _ _ hhd hi,rfl,hb,kp _ _ hpd hp,oks r hrm,ok,fun H2 s2=>⟨_,rfl,?_⟩⟩;have kp2:∀a u,a≠d->H a=some u->H2 a=some u:=fun a u n e=>s2 _ _ (kp a u n e);refine iteB (fun he=>?_) (fun he=>?_)
   ·refine⟨_,rfl,ob,_,s2 _ _ hfz,k2 _ b r (q2f hd kp2) hrm (of_decide_eq_true he) ?_⟩;rw[q0c (fun z=>by rw[z,hfz] at hb;cases hb)];exact s2 _ _ hb
   ·refine⟨⟨_,rfl⟩,s2 _ _ hfz,kp2,fun y hy=>?_⟩;rw[Bc,hr] at hy;rcases Am.mp hy with hy|hy
    ·exact hno y hy
    ·cases Ai.mp hy;exact of_decide_eq_false he
  ·rintro σ' H' ⟨⟨x,rfl⟩,hfz,kp,hno⟩;refine⟨ob,_,hfz,k1 _ (q2f hd kp) fun r hr=>hno r ?_⟩;rw[Ab,Ab,Bb];exact hr
def spHRows(c:Addr):Sp:=fun vs H Q _=>∃h d bl rows,vs=[.ref h]/\HallAt c H h d bl rows/\rows.length<64/\(∀r∈rows,Low r.1) /\
 ∀L zs H',H L=none->Same H H'->RL H' L zs->(zs.map (·.2)).Perm rows->(zs.map (·.2.1)).Pairwise (fun a b=>pLt b a=false)->Q (.ref L) H'
abbrev q3v:Stmt:=inClass (top 14) 1
theorem z1e:FnScope ["self"] ["self"] (defScope q3v):=⟨rfl,rfl,rfl,by decide +kernel,rfl,by decide +kernel,by decide +kernel⟩
theorem x0g{c:Addr}(D:Mf K c "rows" "Hall.rows" q3v ["self"])(hk:Hk K c)(T:Txt mg):MCal P w K mg base c "rows" 2 ["self"] (spHRows c):=by
 refine D.cal hk.cl z1e (fun vs H Q E h=>?_) (fun f cdv A outer s H vs Q E hr h=>?_)
 ·obtain⟨h,d,bl,rows,rfl,_⟩:=h;rfl
 ·obtain⟨h,d,bl,rows,rfl,hh,h64,hlow,k⟩:=h;refine⟨_,(q0f (q0l (q0m (z4n hr) (by rfl) T.b_sorted (by decide +kernel) (q0a (@z1w _ _ _ _ _ _ _ _ _ K rfl Hx PySem.F.slot_dict_items PySem.F.type_dict_items z9s (@z4o _ _ _ _ _ K rfl (pv 0) (by rfl)) (by rfl) (by rfl)) q0e)))),?_⟩;obtain⟨dx,hi⟩:=hh.i;refine⟨_,rfl,h,c,dx,_,_,rfl,hi,hk.cl,hk.m,rfl,.inr (.inr (.inl ⟨rfl,.inr ⟨_,hh.d⟩⟩)),d,_,rfl,rfl,hh.d,fun v hv=>?_⟩;have s1:=(Same.refl H).new (o:=vwO v d) hv;refine⟨v,d,rows.map rR,rfl,q0b,s1 _ _ hh.d,by rw[Ab];exact h64,fun r hr=>?_,fun L as rs H' hL hp hs sm hLL prs=>?_⟩
  ·obtain⟨x,hx,rfl⟩:=Ac.mp hr;exact hlow x hx
  ·obtain⟨rows',p',rfl⟩:=perm_map_inv hp rfl;obtain⟨zs,z1,z2,z3⟩:=zs_of prs rfl;refine k L zs H' (s1.free hL) (s1.trans sm) ⟨?_,z3⟩ (by rw[z2];exact p') ?_
   ·rw[hLL,<- z1,Ap];rfl
   ·have e:zs.map (·.2.1)=(rows'.map rR).map (·.1):=by rw[<- z2,Ap,Ap];rfl
    rw[e];exact hs
theorem z3n{α:Type}:∀{l:List α} {i:Nat} {r:α},l[i]?=some r->l=l.take i++r::l.drop (i+1)
 |[],_,_,h=>by cases h
 |a::l,0,_,h=>by cases h;rfl
 |a::l,i+1,r,h=>by show a::l=a::(l.take i++r::l.drop (i+1));rw[<- z3n (l:=l) (i:=i) h]
theorem q3w{α β:Type}{f:α->β}{l:List α}{i:Nat}{r r':α}(nd:(l.map f).Nodup)(hr:l[i]?=some r)(hr':r'∈l.take i):f r'≠f r:=by
 rw[z3n hr,Af,Aw] at nd;exact fun z=>(Dj.mp nd).2.2 _ (Ac.mpr ⟨r',hr',rfl⟩) _ At z
structure InInv (c:Addr) (H:Hp) (x dx d Dr:Addr) (bl:Bool) (rows:List Rw) (ys:List (List Key×V)) (i:Nat) (H':Hp):Prop where
 ins:H' x=some (.ins c dx (hF bl d))
 d:H' d=some (dR ((rows.take i).map rR))
 r:H' Dr=some (.dT ys)
 k:∀a u,a≠x->H a=some u->H' a=some u
theorem InInv.same{c:Addr}{H H' H2:Hp}{x dx d Dr:Addr}{bl:Bool}{rows:List Rw}{ys:List (List Key×V)}{i:Nat}(v:InInv c H x dx d Dr bl rows ys i H')(s:Same H' H2):InInv c H x dx d Dr bl rows ys i H2:=⟨s _ _ v.ins,s _ _ v.d,s _ _ v.r,fun a u n e=>s _ _ (v.k a u n e)⟩
def spInit(c:Addr):Sp:=fun vs H Q _=>∃x dx L bl zs,vs=[.ref x,.ref L,.bl bl]/\H x=some (.ins c dx [])/\RL H L zs/\Hl bl (zs.map (·.2))/\zs.length<=60 /\
 ∀d H',H d=none->H' x=some (.ins c dx (hF bl d))->H' d=some (dR ((zs.map (·.2)).map rR))->(∀a u,a≠x->H a=some u->H' a=some u)->Q .non H'
structure CallsK (P:Program) (w:World) (K:Ak) (mg:Str->Option Value) (base:Heap) (c:Addr):Prop where
 m_there:MCal P w K mg base c "there" 3 ["self", "place"] (spThere c)
abbrev q0x:Stmt:=inClass (top 14) 0
theorem sc_Hall___init__:FnScope ["self", "rows", "blind", "drawers", "at", "path", "mark", "drawer"] ["self", "rows", "blind"] (defScope q0x):=⟨rfl,rfl,rfl,by decide +kernel,rfl,by decide +kernel,by decide +kernel⟩
theorem x3h{c:Addr}(D:Kf K mg c "Hall" "Hall.__init__" q0x ["self", "rows", "blind"])(hk:Hk K c)(T:Txt mg)(C:CallsK P w K mg base c):KCal P w K mg base c "Hall" 4 ["self", "rows", "blind"] (spInit c):=by
 refine D.cal sc_Hall___init__ (fun vs H Q E h=>?_) (fun f cdv A outer s H vs Q E hr h=>?_)
 ·obtain⟨x,dx,L,bl,zs,rfl,_⟩:=h;rfl
 ·obtain⟨x,dx,L,bl,zs,rfl,hx,hl,hH,h60,k⟩:=h;refine⟨_,(q0d (@x1h _ _ _ _ _ _ _ _ K rfl (pv 0) (pv 2) (by rfl)) (q0d (@x1h _ _ _ _ _ _ _ _ K rfl (pv 0) q3d (by rfl)) (q0d (z9u (i:=3) ["path", "mark"] [] sc_Hall___init__.nd rfl (by first|exact Or.inl rfl|exact Or.inr rfl) rfl (@q3a _ _ _ _ K rfl (pv 1)) (fun _ _ _ _ _=>(@q2t _ _ _ _ (2) _ K rfl rfl (q0o (q0h (i:=0) (show(["path", "mark"]:List Str).Nodup by decide +kernel) rfl (by first|exact Or.inl rfl|exact Or.inr rfl)) (q0o (q0h (i:=1) (show(["path", "mark"]:List Str).Nodup by decide +kernel) rfl (by first|exact Or.inl rfl|exact Or.inr rfl)) q1v)) (by rfl) (by rfl))) (fun _ _ _ _ _=>(q3p (q2a (q5s (pv 1))))) (fun _ _ _ _ _=>(pv 0)) (fun _ _ _ _ _=>q4e) (q1c hr)) (q0f (q1f Bi rfl (@z6i _ _ _ _ _ _ _ _ K rfl rfl T.b_enumerate (q0a (pv 1) q0e) (by rfl)) (@q2t _ _ _ _ (2) _ K rfl rfl (q0o (q0h (i:=4) sc_Hall___init__.nd rfl (by first|exact Or.inl rfl|exact Or.inr rfl)) (q0o (@q2t _ _ _ _ (2) _ K rfl rfl (q0o (q0h (i:=5) sc_Hall___init__.nd rfl (by first|exact Or.inl rfl|exact Or.inr rfl)) (q0o (q0h (i:=6) sc_Hall___init__.nd rfl (by first|exact Or.inl rfl|exact Or.inr rfl)) q1v)) (by rfl) (by rfl)) q1v)) (by rfl) (by rfl)) (q0d (q0j (i:=7) sc_Hall___init__.nd rfl (by first|exact Or.inl rfl|exact Or.inr rfl) (q0p (sl_k K rfl) (pv 5) q0q (q0r (q1l q0s q0g)))) (q0d (q1e (pt_j (@PW.pt _ _ _ (q2s (q0k (ne_k K rfl hr) (pv 7) (q1g q0e) (nomark _)) (q1u (q2a (z0m (q1c hr) (pv 7) (pv 3))))))) (q0f q5y) q0n) (q0d (q1e (q2a (q6e (pe_m C.m_there hr (pv 0) (q0a (pv 5) q0e)))) (q0f q5y) q0n) (q0f (q3q (q1c hr) (@z4o _ _ _ _ _ K rfl (pv 0) (by rfl)) (pv 5) (pv 6) rfl)))))))))),?_⟩;have hLx:L≠x:=fun z=>by have e:=hl.at_;rw[z,hx] at e;cases e
  refine⟨_,rfl,_,rfl,x,c,dx,_,rfl,hx,hk.cl,hk.b,by decide,?_⟩;intro d hd;have hdx:d≠x:=fun z=>by rw[z,q0b] at hd;cases hd
  have hdH:H d=none:=by rw[q0c hdx] at hd;exact hd
  refine⟨_,rfl,x,c,dx,_,rfl,by rw[q0c hdx.symm];exact q0b,hk.cl,hk.m,by show 1<1000;decide,?_⟩;have pf:putF ("marks" : Str) (V.ref d) (putF ("blind" : Str) (V.bl bl) [])=hF bl d:=rfl;generalize hH3:upd (upd (upd H x (.ins c dx (putF ("blind" : Str) (.bl bl) []))) d (.dT [])) x (.ins c dx (putF ("marks" : Str) (.ref d) (putF ("blind" : Str) (.bl bl) [])))=H3;have k3:∀a u,a≠x->H a=some u->H3 a=some u:=fun a u n e=>by
   rw[<- hH3,q0c n,q0c (fun z=>by rw[z,hdH] at e;cases e),q0c n];exact e
  have i3:H3 x=some (.ins c dx (hF bl d)):=by rw[<- hH3,<- pf];exact q0b
  have d3:H3 d=some (.dT []):=by rw[<- hH3,q0c hdx];exact q0b
  have hl3:∀{H':Hp},(∀a u,a≠x->H a=some u->H' a=some u)->RL H' L zs:=fun{H'} kk=>⟨kk _ _ hLx hl.at_,fun z hz=>PR.same (hl.pr z hz) fun T' xs e=>kk _ _ (fun y=>by rw[y,hx] at e;cases e) e⟩
  refine⟨_,rfl,.inl ⟨L,rfl,⟨_,SqL.of (hl3 k3).at_⟩,fun Dr hDr=>?_⟩⟩;refine q7y (fun i ys H'=>H' Dr=some (.dT ys)/\Same H3 H'/\ys.length<=i/\i<=zs.length/\∀p,(p,none)∈(zs.take i).map (·.2)->(valV ys (kP p)).isSome=true) ⟨q0b,(Same.refl H3).new hDr,Aq _,Bl _,fun p hp=>by rw[Gj] at hp;cases hp⟩ (fun i ys H' h=>⟨h.1,SqL.of (h.2.1 _ _ (hl3 k3).at_)⟩) ?_ ?_
  ·rintro i ys H' v hv ⟨hD',s',hlen,_,hsome⟩;obtain⟨z,hz,rfl⟩:∃z,zs[i]?=some z/\v=.ref z.1:=by
    rw[Ae] at hv;cases e:zs[i]? with
    |none=>rw[e] at hv;cases hv
    |some z=>rw[e] at hv;cases hv;exact⟨z,rfl,rfl⟩
   have hi:i<zs.length:=(Aj.mp hz).1;obtain⟨b,h1,h2⟩:=((hl3 k3).same s').pr z (Ag hz);refine⟨z.1,_,rfl,SqT.of h1,rfl,_,_,rfl,_,_,rfl,rfl,q7q,?_⟩;refine⟨_,rfl,_,rfl,?_⟩;refine iteB (fun hm=>?_) (fun hm=>?_)
   ·refine⟨_,rfl,kP z.2.1,b,rfl,by rw[q1x];exact h2,hD',small' (by lia),q0b,fun a u e=>?_,?_,hi,fun p hp=>?_⟩
    ·rw[q0c (fun y=>by rw[y] at e;rw[hDr] at e;cases e)];exact s' _ _ e
    ·have:=q2n ys (kP z.2.1) (.bl true);lia
    ·rw[z9j];by_cases e:kP p=kP z.2.1
     ·rw[if_pos e];rfl
     ·rw[if_neg e];rw[Bc,hz,Af] at hp;rcases Am.mp hp with hp|hp
      ·exact hsome p hp
      ·exfalso;have e2:(p,none)=z.2:=Ai.mp hp;exact e (by rw[<- e2])
   ·refine⟨hD',s',by lia,hi,fun p hp=>?_⟩;rw[Bc,hz,Af] at hp;rcases Am.mp hp with hp|hp
    ·exact hsome p hp
    ·exfalso;have e:(p,none)=z.2:=Ai.mp hp;refine of_decide_eq_false hm ?_;show mV z.2.2=_;rw[<- e];rfl
  ·rintro ys H' ⟨hD',s',hlen,_,hsome⟩;rw[Ab,Bb] at hsome;have I0:InInv c H x dx d Dr bl (zs.map (·.2)) ys 0 H':=⟨s' _ _ i3,s' _ _ d3,hD',fun a u n e=>s' _ _ (k3 a u n e)⟩
   have hDx:Dr≠x:=fun z=>by rw[z,i3] at hDr;cases hDr
   have hDd:Dr≠d:=fun z=>by rw[z,d3] at hDr;cases hDr
   refine⟨_,rfl,.inr ⟨L,_,rfl,SqL.of (hl3 I0.k).at_,?_⟩⟩;refine q6v (fun i σ' H2=>∃x4 x5 x6 x7,σ'=[some (.ref x),some (.ref L),some (.bl bl),some (.ref Dr),x4,x5,x6,x7]/\InInv c H x dx d Dr bl (zs.map (·.2)) ys i H2) ⟨none,none,none,none,rfl,I0⟩ (fun i σ' H2 h=>by obtain⟨_,_,_,_,_,h⟩:=h;exact SqL.of (hl3 h.k).at_) ?_ ?_
   ·rintro i v T' σ' H2 hv ⟨x4,x5,x6,x7,rfl,I⟩ hT;obtain⟨z,hz,rfl⟩:∃z,zs[i]?=some z/\v=.ref z.1:=by
     rw[Ae] at hv;cases e:zs[i]? with
     |none=>rw[e] at hv;cases hv
     |some z=>rw[e] at hv;cases hv;exact⟨z,rfl,rfl⟩
    have hi:i<zs.length:=(Aj.mp hz).1;have hzr:(zs.map (·.2))[i]?=some z.2:=by rw[Ae,hz];rfl
    have hzm:=Ag hzr;have okz:=hH.ok _ hzm;have sT:=(Same.refl H2).new (o:=.tup [.int i,.ref z.1]) hT;have I1:=I.same sT;obtain⟨b,h1,h2⟩:=(hl3 I1.k).pr z (Ag hz);refine⟨T',_,rfl,SqT.of q0b,rfl,_,_,rfl,_,_,rfl,z.1,_,rfl,SqT.of h1,rfl,_,_,rfl,_,_,rfl,rfl,rfl,?_⟩;generalize upd H2 T' (.tup [.int i,.ref z.1])=H4 at sT I1 h1 h2;replace h1:H4 z.1=some (.tup [.ref b,mV z.2.2]):=h1;replace h2:H4 b=some (.tup (vP z.2.1)):=h2;obtain⟨c1,c2⟩:=q1a okz.ne;refine⟨_,rfl,_,rfl,_,rfl,.inr (.inr ⟨b,_,rfl,SqT.of (xs:=vP z.2.1) h2,c2,fun p1 hp1=>?_⟩)⟩;rw[c1];have s5:=(Same.refl H4).new (o:=.tup (vP z.2.1.dropLast)) hp1;have I2:=I1.same s5;have h2':=s5 _ _ h2;have hp1':upd H4 p1 (.tup (vP z.2.1.dropLast)) p1=some (.tup (vP z.2.1.dropLast)):=q0b;generalize upd H4 p1 (.tup (vP z.2.1.dropLast))=H5 at s5 I2 h2' hp1';refine⟨fun bb H6=>bb=false/\Same H5 H6,?_,?_⟩
    ·rintro bb H6 ⟨rfl,s6⟩;refine iteF ?_;have I3:=I2.same s6;refine⟨_,rfl,x,dx,_,rfl,I3.ins,rfl,_,rfl,x,d,b,bl,_,z.2.1,rfl,⟨⟨dx,I3.ins⟩,I3.d⟩,s6 _ _ h2',okz,fun r hr=>hH.ok r (Hb hr),fun H7 s7 _=>?_,fun H7 b' r s7 hr e _=>absurd e (q3w (f:=fun r:Rw=>fold bl r.1) hH.nd hzr hr)⟩;refine⟨_,rfl,iteF ?_⟩;have I4:=I3.same s7;refine⟨_,rfl,_,rfl,x,c,dx,_,_,rfl,I4.ins,hk.cl,hk.m,rfl,_,rfl,d,_,rfl,DPut.t (k:=kP z.2.1) I4.d (by rw[q1x];exact s7 _ _ (s6 _ _ h2')) (by rw[Ab,Ab,Bm,Ab];exact small' (by lia)),?_⟩;have hnew:∀r∈((zs.map (·.2)).take i).map rR,r.1≠z.2.1:=fun r hr=>by
      obtain⟨y,hy,rfl⟩:=Ac.mp hr;exact q3w (f:=fun r:Rw=>r.1) hH.paths hzr hy
     rw[q2d hnew];refine⟨_,_,_,_,rfl,?_,?_,?_,fun a u n e=>?_⟩
     ·rw[q0c hdx.symm];exact I4.ins
     ·have e:((zs.map (·.2)).take (i+1)).map rR=((zs.map (·.2)).take i).map rR++[(z.2.1,mV z.2.2)]:=by rw[Bc,hzr,Af];rfl
      rw[e];exact q0b
     ·rw[q0c hDd];exact I4.r
     ·rw[q0c (fun y=>by rw[y,hdH] at e;cases e)];exact I4.k a u n e
    ·refine⟨_,rfl,by show 0<=sizeLine;decide,fun e0 he0=>?_⟩;have s6:=(Same.refl H5).new (o:=.tup []) he0;refine q2v (q:=[]) (s6 _ _ hp1') q0b (q1i okz.low) (fun _ h=>nomatch h) ⟨_,rfl,?_⟩;refine iteB (fun hne=>?_) (fun hne=>?_)
     ·have hne':z.2.1.dropLast≠[]:=by simpa using hne
      have hin:=hsome _ ((hH.dr _ hzm).resolve_left hne');refine⟨_,rfl,_,rfl,Dr,_,rfl,DGet.t (k:=kP z.2.1.dropLast) (I2.same s6).r (by rw[q1x];exact s6 _ _ hp1'),_,rfl,?_,s6⟩;cases e:valV ys (kP z.2.1.dropLast) with
      |none=>rw[e] at hin;cases hin
      |some v=>rfl
     ·exact⟨rfl,s6⟩
   ·rintro σ' H2 ⟨x4,x5,x6,x7,rfl,I⟩;have hd2:=I.d;rw[Ab,<- Ab (f:=fun z:Zr=>z.2),Bb] at hd2;exact k d H2 hdH I.ins hd2 I.k
end
end K
set_option maxHeartbeats 4000000
namespace K
open PySem L2 TX SB HM
section
variable{P:Program}{w:World}{K:Ak}{mg:Str->Option Value}{base:Heap}
theorem z7r(p q:Pth):vP (p++q)=vP p++vP q:=Af
theorem x1n(x:Pth)(n:Nat):cutV (vP x) none (some (n:Int))=vP (x.take n):=by
 unfold cutV;have e0:HT.sIx (vP x).length 0 none=0:=rfl;have e1:HT.sIx (vP x).length (vP x).length (some (n:Int))=min n x.length:=by
  show(if (n:Int)<0 then((n:Int)+((vP x).length:Int)).toNat else min ((n:Int)).toNat (vP x).length)=_;rw[if_neg (by lia),q0z,Ek]
 rw[e0,e1,Ko,Iy,<- Jh];rw[<- List.take_take,Bb]
theorem z3o(x:Pth)(n:Nat):cutV (vP x) (some (n:Int)) none=vP (x.drop n):=by
 unfold cutV;have e0:HT.sIx (vP x).length 0 (some (n:Int))=min n x.length:=by
  show(if (n:Int)<0 then((n:Int)+((vP x).length:Int)).toNat else min ((n:Int)).toNat (vP x).length)=_;rw[if_neg (by lia),q0z,Ek]
 have e1:HT.sIx (vP x).length (vP x).length none=x.length:=q0z x;rw[e0,e1,<- Jg,<- Jh];congr 1;rcases Sk n x.length with h|h
 ·rw[Uo (Gm h)];exact Ei (by rw[Dd];lia)
 ·rw[Nat.min_eq_right h,Oz,List.drop_of_length_le h];exact Nr
theorem x0h{rs:List HRow}{p:Pth}{v:V}(h:valV (rs.map fun r=>(kP r.1,r.2)) (kP p)=some v):(p,v)∈rs:=by
 induction rs with
 |nil=>cases h
 |cons r rs ih =>
  rw[Aw] at h;by_cases e:kP r.1=kP p
  ·rw[q1p e] at h;cases h;rw[<- q8j e];exact At
  ·rw[q1n e] at h;exact An _ (ih h)
theorem q3h{rows:List Rw}(nd:(rows.map (·.1)).Nodup){p:Pth}{m:Option Int}(h:(p,m)∈rows):valV ((rows.map rR).map fun r=>(kP r.1,r.2)) (kP p)=some (mV m) :=
 q5a (rs:=rows.map rR) (r:=rR (p,m)) (Ac.mpr ⟨_,h,rfl⟩) (by rw[Ap];exact nd)
theorem z1f{rows:List Rw}{p:Pth}{v:V}(h:valV ((rows.map rR).map fun r=>(kP r.1,r.2)) (kP p)=some v):∃m,v=mV m/\(p,m)∈rows:=by
 obtain⟨r,hr,e⟩:=Ac.mp (x0h h);cases e;exact⟨r.2,rfl,hr⟩
def spIsDrawer(c:Addr):Sp:=fun vs H Q _=>∃h d p bl rows q,vs=[.ref h,.ref p]/\HallAt c H h d bl rows/\H p=some (.tup (vP q))/\Low q/\(rows.map (·.1)).Nodup/\∀H' bb,Same H H'->(bb=true↔q=[]\/(q,none)∈rows)->Q (.bl bb) H'
abbrev q2c:Stmt:=inClass (top 14) 6
theorem q5k:FnScope ["self", "path"] ["self", "path"] (defScope q2c):=⟨rfl,rfl,rfl,by decide +kernel,rfl,by decide +kernel,by decide +kernel⟩
theorem z1g{c:Addr}(D:Mf K c "is_drawer" "Hall.is_drawer" q2c ["self", "path"])(hk:Hk K c)(T:Txt mg):MCal P w K mg base c "is_drawer" 1 ["self", "path"] (spIsDrawer c):=by
 refine D.cal hk.cl q5k (fun vs H Q E h=>?_) (fun f cdv A outer s H vs Q E hr h=>?_)
 ·obtain⟨h,d,p,bl,rows,q,rfl,_⟩:=h;rfl
 ·obtain⟨h,d,p,bl,rows,q,rfl,hh,hp,lq,nd,k⟩:=h;refine⟨_,(q0f (q0l (pe_j (pe_or (q5d (eq_k K rfl hr) (pv 1) (q1g q0e) (nomark _)) (z5g (pe_j (pe_and (x0u (z6l (q1c hr) (pv 1) (@z4o _ _ _ _ _ K rfl (pv 0) (by rfl)))) (z5g (x0u (q5s (q0w (q1c hr) (@z4o _ _ _ _ _ K rfl (pv 0) (by rfl)) (pv 1) (fun _ _=>rfl)))))))))))),?_⟩;obtain⟨dx,hi⟩:=hh.i;refine⟨fun v H'=>∃bb,v=.bl bb/\Same H H'/\(bb=true↔q=[]\/(q,none)∈rows),fun v H' x=>?_,?_⟩
  ·obtain⟨bb,rfl,s1,e⟩:=x;exact k H' bb s1 e
  refine⟨_,rfl,by show 0<=sizeLine;decide,fun e0 he0=>?_⟩;have s1:=(Same.refl H).new (o:=.tup []) he0;refine q0y (q:=[]) (s1 _ _ hp) q0b lq (fun _ h=>nomatch h) ⟨_,rfl,?_⟩;refine iteB (fun he=>?_) (fun he=>?_)
  ·exact⟨true,rfl,s1,⟨fun _=>.inl (of_decide_eq_true he),fun _=>rfl⟩⟩
  have he:=of_decide_eq_false he;refine⟨fun v H'=>∃bb,v=.bl bb/\Same H H'/\(bb=true↔q=[]\/(q,none)∈rows),fun v H' x=>x,?_⟩;refine⟨_,rfl,_,rfl,h,c,dx,_,_,rfl,s1 _ _ hi,hk.cl,hk.m,rfl,d,_,rfl,q3u (s1 _ _ hh.d) (s1 _ _ hp),_,rfl,?_⟩;cases hv:valV ((rows.map rR).map fun r=>(kP r.1,r.2)) (kP q) with
  |none =>
   refine iteF ⟨false,rfl,s1,⟨(fun z=>by cases z),fun z=>?_⟩⟩;exfalso;rw[q3h nd (z.resolve_left he)] at hv;cases hv
  |some v =>
   obtain⟨m,rfl,hm⟩:=z1f hv;refine iteT ⟨_,rfl,h,c,dx,_,_,rfl,s1 _ _ hi,hk.cl,hk.m,rfl,_,rfl,d,mV m,rfl,?_,_,rfl,s1,?_⟩
   ·rw[<- hv];exact q3u (s1 _ _ hh.d) (s1 _ _ hp)
   ·rw[decide_eq_true_iff];refine⟨fun z=>.inr (by rw[mV_none.mp z] at hm;exact hm),fun z=>mV_none.mpr ?_⟩;have:=q0t (f:=fun r:Rw=>r.1) nd hm (z.resolve_left he) rfl;cases this;rfl
def spThere1(c:Addr):Sp:=fun vs H Q _=>∃h d p bl rows place,vs=[.ref h,.ref p]/\HallAt c H h d bl rows/\H p=some (.tup (vP place))/\okP place/\(∀r∈rows,okP r.1) /\
 ∀H' v,Same H H'->(v=.non/\(∀r∈rows,fold bl r.1≠fold bl place)\/∃b r,v=.ref b/\r∈rows/\fold bl r.1=fold bl place/\H' b=some (.tup (vP r.1)))->Q v H'
theorem there1{c:Addr}(M:MCal P w K mg base c "there" 3 ["self", "place"] (spThere c)):MCal P w K mg base c "there" 3 ["self", "place"] (spThere1 c) :=
 M.imp fun vs H Q E h=>by
  obtain⟨h,d,p,bl,rows,place,e,hh,hp,ok,oks,k⟩:=h;exact⟨h,d,p,bl,rows,place,e,hh,hp,ok,oks,fun H' s1 n=>k H' _ s1 (.inl ⟨rfl,n⟩),fun H' b r s1 hr e hb=>k H' _ s1 (.inr ⟨b,r,rfl,hr,e,hb⟩)⟩
end
end K
set_option maxHeartbeats 4000000
namespace K
open PySem L2 TX SB HM
section
variable{P:Program}{w:World}{K:Ak}{mg:Str->Option Value}{base:Heap}
theorem z7s{σ:St}{H:Hp}{Q:Bool->Hp->Prop}(h:Q true H):tIf0 σ H Q:=h
def IsD(rows:List Rw)(q:Pth):Prop:=q=[]\/(q,none)∈rows
def plc:List Mv->Pth->Pth
 |[],p=>p
 |m::ms,p=>if m.1=p then m.2 else plc ms p
structure Wsh (rows:List Rw) (m:Mv):Prop where
 th:∃k,(m.1,k)∈rows/\(m.2.dropLast=m.1.dropLast\/k≠none)
 ok:okP m.2
 dr:IsD rows m.2.dropLast
structure GoodW (rows:List Rw) (ms:List Mv):Prop where
 all:∀m∈ms,Wsh rows m
 nd:(ms.map (·.1)).Nodup
structure PDt (H:Hp) (d:Addr) (ps:List (Addr×Mv)):Prop where
 at_:H d=some (dR (ps.map fun x=>(x.2.1,.ref x.1)))
 pr:∀x∈ps,H x.1=some (.tup (vP x.2.2))
theorem PDt.same{H H':Hp}{d:Addr}{ps:List (Addr×Mv)}(h:PDt H d ps)(s:Same H H'):PDt H' d ps:=⟨s _ _ h.at_,fun x hx=>s _ _ (h.pr x hx)⟩
structure CallsIW (P:Program) (w:World) (K:Ak) (mg:Str->Option Value) (base:Heap) (c:Addr):Prop where
 m_there:MCal P w K mg base c "there" 3 ["self", "place"] (spThere1 c)
 m_is_drawer:MCal P w K mg base c "is_drawer" 1 ["self", "path"] (spIsDrawer c)
def spIsWish(c:Addr):Sp:=fun vs H Q _=>∃h d a b e bl rows m ps,vs=[.ref h,.ref a,.ref b,.ref e]/\HallAt c H h d bl rows/\Hl bl rows/\H a=some (.tup (vP m.1))/\H b=some (.tup (vP m.2))/\Wsh rows m/\PDt H e ps/\m.1∉ps.map (·.2.1)/\∀H',Same H H'->Q (.bl true) H'
abbrev q5l:Stmt:=top 16
theorem z4u:FnScope ["hall", "path", "place", "places"] ["hall", "path", "place", "places"] (defScope q5l):=⟨rfl,rfl,rfl,by decide +kernel,rfl,by decide +kernel,by decide +kernel⟩
theorem z4v{c:Addr}(D:Df K mg "is_wish" q5l ["hall", "path", "place", "places"])(T:Txt mg)(C:CallsIW P w K mg base c):Cal P w K mg base "is_wish" 4 ["hall", "path", "place", "places"] (spIsWish c):=by
 refine D.cal z4u (fun vs H Q E h=>?_) (fun f cdv A outer s H vs Q E hr h=>?_)
 ·obtain⟨h,d,a,b,e,bl,rows,m,ps,rfl,_⟩:=h;rfl
 ·obtain⟨h,d,a,b,e,bl,rows,m,ps,rfl,hh,hl,ha,hb,wsh,pd,hno,k⟩:=h;refine⟨_,(q0d (q1e (pt_j (@PW.pt _ _ _ (q9u (q0k (ne_k K rfl hr) (pe_m C.m_there hr (pv 0) (q0a (pv 1) q0e)) (pv 1) (nomark _)) (q7k (q2a (z6l (q1c hr) (pv 1) (pv 3))))))) (q0f (q0l q4e)) q0n) (q0d (q1e (q6f (@q5x _ _ _ K rfl (pe_m C.m_is_drawer hr (pv 0) (q0a (q0p (sl_k K rfl) (pv 2) q0q (q0r (q1l q0s q0g))) q0e)) (fun _=>rfl))) (q0f (q0l q4e)) q0n) (q0f (q0l (pe_j (pe_or (q5d (eq_k K rfl hr) (q0p (sl_k K rfl) (pv 2) q0q (q0r (q1l q0s q0g))) (q0p (sl_k K rfl) (pv 1) q0q (q0r (q1l q0s q0g))) (nomark _)) (z5g (pe_not (pe_m C.m_is_drawer hr (pv 0) (q0a (pv 1) q0e)))))))))),?_⟩;obtain⟨mk0,hin,hor⟩:=wsh.th;have okp:=hl.ok _ hin;have okq:=wsh.ok;obtain⟨dx,hi⟩:=hh.i;obtain⟨c1,c2⟩:=q1a okq.ne;obtain⟨c3,c4⟩:=q1a okp.ne;refine⟨fun bb H1=>bb=false/\Same H H1,?_,?_⟩;rotate_left
  ·refine⟨_,rfl,h,dx,_,rfl,hi,rfl,_,rfl,h,d,a,bl,rows,m.1,rfl,hh,ha,okp,hl.ok,fun H1 ov s1 hov=>?_⟩;rcases hov with⟨_,no⟩|⟨e1,r,rfl,hr,hf,he⟩
   ·exact absurd rfl (no _ hin)
   have er:r.1=m.1:=congrArg Prod.fst (hl.eq hr hin hf);rw[er] at he;refine⟨_,rfl,q2v he (s1 _ _ ha) okp.low okp.low ⟨_,rfl,?_⟩⟩;rw[decide_eq_true rfl];have hv:valV ((ps.map fun x=>((x.2.1,.ref x.1):HRow)).map fun r=>(kP r.1,r.2)) (kP m.1)=none:=q6y fun r hr z=>by
    obtain⟨x,hx,rfl⟩:=Ac.mp hr;exact hno (Ac.mpr ⟨x,hx,z⟩)
   refine iteF ⟨_,rfl,_,rfl,e,_,rfl,q3u (rs:=ps.map fun x=>(x.2.1,.ref x.1)) (pd.same s1).at_ (s1 _ _ ha),_,rfl,?_,s1⟩;rw[hv];rfl
  rintro bb H1 ⟨rfl,s1⟩;refine iteF ?_;refine⟨_,rfl,h,dx,_,rfl,s1 _ _ hi,rfl,_,rfl,_,rfl,_,rfl,.inr (.inr ⟨b,_,rfl,SqT.of (s1 _ _ hb),c2,fun t1 ht1=>?_⟩)⟩;rw[c1];have s2:=s1.new (o:=.tup (vP m.2.dropLast)) ht1;refine⟨h,d,t1,bl,rows,m.2.dropLast,rfl,hh.same s2,q0b,q1i okq.low,hl.paths,fun H3 bb s3 hbb=>⟨bb,rfl,?_⟩⟩;have s23:=s2.trans s3;rw[hbb.mpr wsh.dr];refine iteF ⟨fun v H4=>v=.bl true/\Same H H4,fun v H4 x=>by rw[x.1];exact k _ x.2,?_⟩;refine⟨_,rfl,_,rfl,_,rfl,.inr (.inr ⟨b,_,rfl,SqT.of (s23 _ _ hb),c2,fun t2 ht2=>?_⟩)⟩;rw[c1];have s4:=s23.new (o:=.tup (vP m.2.dropLast)) ht2;have e2:upd H3 t2 (.tup (vP m.2.dropLast)) t2=some (.tup (vP m.2.dropLast)):=q0b;generalize upd H3 t2 (.tup (vP m.2.dropLast))=H4 at s4 e2;refine⟨_,rfl,_,rfl,_,rfl,.inr (.inr ⟨a,_,rfl,SqT.of (s4 _ _ ha),c4,fun t3 ht3=>?_⟩)⟩;rw[c3];have s5':=(Same.refl H4).new (o:=.tup (vP m.1.dropLast)) ht3;have s5:=s4.trans s5';refine q0y (s5' _ _ e2) q0b (q1i okq.low) (q1i okp.low) ⟨_,rfl,iteB (fun e=>⟨rfl,s5⟩) (fun e=>?_)⟩;have e:=of_decide_eq_false e;have hk0:mk0≠none:=hor.resolve_left e;refine⟨_,rfl,h,dx,_,rfl,s5 _ _ hi,rfl,_,rfl,h,d,a,bl,rows,m.1,rfl,hh.same s5,s5 _ _ ha,okp.low,hl.paths,fun H6 bb s6 hbb=>⟨bb,rfl,?_,s5.trans s6⟩⟩;cases bb with
  |false=>rfl
  |true =>
   rcases hbb.mp rfl with z|z
   ·exact absurd z okp.ne
   ·exact absurd (hl.one hin z) hk0
structure CallsWP (P:Program) (w:World) (K:Ak) (mg:Str->Option Value) (base:Heap) (c:Addr):Prop where
 is_wish:Cal P w K mg base "is_wish" 4 ["hall", "path", "place", "places"] (spIsWish c)
def spWishedP(c:Addr):Sp:=fun vs H Q _=>∃h d L bl rows zs,vs=[.ref h,.ref L]/\HallAt c H h d bl rows/\Hl bl rows/\ML H L zs/\GoodW rows (zs.map (·.2))/\zs.length<=60 /\
 ∀D ps H',H D=none->Same H H'->PDt H' D ps->ps.map (·.2)=zs.map (·.2)->Q (.ref D) H'
abbrev q2h:Stmt:=top 17
theorem sc_wished_places:FnScope ["hall", "wishes", "places", "at", "path", "place"] ["hall", "wishes"] (defScope q2h):=⟨rfl,rfl,rfl,by decide +kernel,rfl,by decide +kernel,by decide +kernel⟩
theorem z4w{c:Addr}(D:Df K mg "wished_places" q2h ["hall", "wishes"])(T:Txt mg)(C:CallsWP P w K mg base c):Cal P w K mg base "wished_places" 5 ["hall", "wishes"] (spWishedP c):=by
 refine D.cal sc_wished_places (fun vs H Q E h=>?_) (fun f cdv A outer s H vs Q E hr h=>?_)
 ·obtain⟨h,d,L,bl,rows,zs,rfl,_⟩:=h;rfl
 ·obtain⟨h,d,L,bl,rows,zs,rfl,hh,hl,ml,gw,few,k⟩:=h;refine⟨_,(q0d (q0j (i:=2) sc_wished_places.nd rfl (by first|exact Or.inl rfl|exact Or.inr rfl) q3d) (q0d (q1f Bi rfl (@z6i _ _ _ _ _ _ _ _ K rfl rfl T.b_enumerate (q0a (pv 1) q0e) (by rfl)) (@q2t _ _ _ _ (2) _ K rfl rfl (q0o (q0h (i:=3) sc_wished_places.nd rfl (by first|exact Or.inl rfl|exact Or.inr rfl)) (q0o (@q2t _ _ _ _ (2) _ K rfl rfl (q0o (q0h (i:=4) sc_wished_places.nd rfl (by first|exact Or.inl rfl|exact Or.inr rfl)) (q0o (q0h (i:=5) sc_wished_places.nd rfl (by first|exact Or.inl rfl|exact Or.inr rfl)) q1v)) (by rfl) (by rfl)) q1v)) (by rfl) (by rfl)) (q0d (q1e (q6f (@q5x _ _ _ K rfl (pe_c C.is_wish hr (q0a (pv 0) (q0a (pv 4) (q0a (pv 5) (q0a (pv 2) q0e))))) (fun _=>rfl))) (q0f q5y) q0n) (q0f (q3q (q1c hr) (pv 2) (pv 4) (pv 5) rfl)))) (q0f (q0l (pv 2))))),?_⟩;intro D hD;have s0:=(Same.refl H).new (o:=.dT []) hD;refine⟨_,rfl,.inr ⟨L,_,rfl,SqL.of (s0 _ _ ml.at_),?_⟩⟩;refine q6v (fun i σ' H2=>∃ps x3 x4 x5,σ'=[some (.ref h),some (.ref L),some (.ref D),x3,x4,x5]/\Same H H2/\PDt H2 D ps/\ps.map (·.2)=(zs.map (·.2)).take i) ⟨[],none,none,none,rfl,s0,⟨q0b,(fun _ h=>nomatch h)⟩,rfl⟩ (fun i σ' H2 h=>by obtain⟨_,_,_,_,_,s2,_⟩:=h;exact SqL.of (s2 _ _ ml.at_)) ?_ ?_
  ·rintro i v T' σ' H2 hv ⟨ps,x3,x4,x5,rfl,s2,pd,eps⟩ hT;obtain⟨z,hz,rfl⟩:∃z,zs[i]?=some z/\v=.ref z.1:=by
    rw[Ae] at hv;cases e:zs[i]? with
    |none=>rw[e] at hv;cases hv
    |some z=>rw[e] at hv;cases hv;exact⟨z,rfl,rfl⟩
   have sT:=(Same.refl H2).new (o:=.tup [.int i,.ref z.1]) hT;obtain⟨A1,B1,g1,g2,g3⟩:=((ml.same s2).same sT).pr z (Ag hz);have hzr:(zs.map (·.2))[i]?=some z.2:=by rw[Ae,hz];rfl
   have e1:(zs.map (·.2)).take (i+1)=(zs.map (·.2)).take i++[z.2]:=by rw[Bc,hzr];rfl
   have hno:z.2.1∉ps.map (·.2.1):=fun hin=>by
    have e2:ps.map (·.2.1)=((zs.map (·.2)).take i).map (·.1):=by rw[<- eps,Ap];rfl
    rw[e2] at hin;have nd:=gw.nd;have e3:((zs.map (·.2)).take (i+1)).map (·.1)=((zs.map (·.2)).take i).map (·.1)++[z.2.1]:=by rw[e1,Af];rfl
    have nd2:(((zs.map (·.2)).take (i+1)).map (·.1)).Nodup:=by rw[Jh];exact nd.sublist (Ks _ _)
    rw[e3] at nd2;exact(Dj.mp nd2).2.2 _ hin _ (Ai.mpr rfl) rfl
   refine⟨T',_,rfl,SqT.of q0b,rfl,_,_,rfl,_,_,rfl,z.1,_,rfl,SqT.of g1,rfl,_,_,rfl,_,_,rfl,rfl,rfl,?_⟩;have s3:=s2.trans sT;refine⟨_,rfl,_,rfl,_,rfl,_,rfl,h,d,A1,B1,D,bl,rows,z.2,ps,rfl,hh.same s3,hl,g2,g3,gw.all z.2 (Ag hzr),pd.same sT,hno,fun H4 s4=>⟨true,rfl,iteF ?_⟩⟩;have s34:=s3.trans s4;have pd4:=(pd.same sT).same s4;have pl:ps.length<=60:=by
    have:=congrArg List.length eps;rw[Ab,Bm,Ab] at this;lia
   refine⟨_,rfl,_,rfl,_,rfl,D,_,rfl,DPut.t (k:=kP z.2.1) pd4.at_ (by rw[q1x];exact s4 _ _ g2) (by rw[Ab,Ab];exact small' (by lia)),?_⟩;rw[q2d (p:=z.2.1) (v:=.ref B1) fun r hr z'=>by
    obtain⟨x,hx,rfl⟩:=Ac.mp hr;exact hno (Ac.mpr ⟨x,hx,z'⟩)]
   have nD:∀(x:Addr) (u:HO),H4 x=some u->(∀kvs,u≠.dT kvs)->upd H4 D (dR ((ps.map fun x=>((x.2.1,.ref x.1):HRow))++[(z.2.1,.ref B1)])) x=some u:=fun x u e n=>by
    rw[q0c (fun y=>by rw[y,pd4.at_] at e;cases e;exact n _ rfl)];exact e
   have em:(ps++[(B1,z.2)]).map (fun x=>((x.2.1,.ref x.1):HRow))=(ps.map fun x=>((x.2.1,.ref x.1):HRow))++[(z.2.1,.ref B1)]:=by rw[Af];rfl
   refine⟨ps++[(B1,z.2)],_,_,_,rfl,fun x u e=>?_,⟨by rw[q0b,em],fun x hx=>?_⟩,by rw[e1,Af,eps];rfl⟩
   ·rw[q0c (fun y=>by rw[y,hD] at e;cases e)];exact s34 _ _ e
   ·rcases Am.mp hx with hx|hx
    ·exact nD _ _ (pd4.pr x hx) (fun _ y=>by cases y)
    ·rw[Ai.mp hx];exact nD _ _ (s4 _ _ g3) (fun _ y=>by cases y)
  ·rintro σ' H2 ⟨ps,x3,x4,x5,rfl,s2,pd,eps⟩;rw[Ab,<- Ab (f:=fun z:Zm=>z.2),Bb] at eps;exact⟨_,rfl,k D ps H2 hD s2 pd eps⟩
theorem val_ps{ps:List (Addr×Mv)}{p:Pth}(h:p∉ps.map (·.2.1)):valV ((ps.map fun x=>((x.2.1,.ref x.1):HRow)).map fun r=>(kP r.1,r.2)) (kP p)=none:=q6y fun r hr z=>by
 obtain⟨x,hx,rfl⟩:=Ac.mp hr;exact h (Ac.mpr ⟨x,hx,z⟩)
theorem q5b{ms:List Mv}{p:Pth}(h:p∉ms.map (·.1)):plc ms p=p:=by
 induction ms with
 |nil=>rfl
 |cons m ms ih =>
  rw[Aw,Ay,not_or] at h;unfold plc;rw[if_neg (fun z=>h.1 z.symm)];exact ih h.2
theorem q8k{ms:List Mv}{m:Mv}(nd:(ms.map (·.1)).Nodup)(h:m∈ms):plc ms m.1=m.2:=by
 induction ms with
 |nil=>cases h
 |cons x ms ih =>
  rw[Aw,Bp] at nd;unfold plc;rcases Ay.mp h with rfl|h
  ·rw[if_pos rfl]
  ·rw[if_neg (fun z=>nd.1 (Ac.mpr ⟨m,h,z.symm⟩))];exact ih nd.2 h
theorem PDt.get{H:Hp}{d b:Addr}{ps:List (Addr×Mv)}{p:Pth}(x:PDt H d ps)(nd:((ps.map (·.2)).map (·.1)).Nodup)(hb:H b=some (.tup (vP p))):(p∉(ps.map (·.2)).map (·.1)/\DGet H d (.ref b) none)\/∃y∈ps,y.2.1=p/\DGet H d (.ref b) (some (.ref y.1))/\H y.1=some (.tup (vP (plc (ps.map (·.2)) p))):=by
 have em:(ps.map (·.2)).map (·.1)=ps.map (·.2.1):=by rw[Ap];rfl
 by_cases h:p∈ps.map (·.2.1)
 ·obtain⟨y,hy,rfl⟩:=Ac.mp h;refine .inr ⟨y,hy,rfl,?_,?_⟩
  ·have e:=q5a (rs:=ps.map fun x=>((x.2.1,.ref x.1):HRow)) (r:=(y.2.1,.ref y.1)) (Ac.mpr ⟨y,hy,rfl⟩) (by rw[Ap];rw[em] at nd;exact nd);rw[<- e];exact q3u x.at_ hb
  ·rw[q8k nd (Ac.mpr ⟨y,hy,rfl⟩)];exact x.pr y hy
 ·refine .inl ⟨by rw[em];exact h,?_⟩;rw[<- val_ps h];exact q3u x.at_ hb
structure CallsAP (P:Program) (w:World) (K:Ak) (mg:Str->Option Value) (base:Heap) (c:Addr):Prop where
 wished_places:Cal P w K mg base "wished_places" 5 ["hall", "wishes"] (spWishedP c)
 m_rows:MCal P w K mg base c "rows" 2 ["self"] (spHRows c)
def spAllP(c:Addr):Sp:=fun vs H Q _=>∃h d L bl rows zs,vs=[.ref h,.ref L]/\HallAt c H h d bl rows/\Hl bl rows/\rows.length<=60/\ML H L zs/\GoodW rows (zs.map (·.2))/\zs.length<=60 /\
 ∀D ps (rs:List Rw) H',H D=none->Same H H'->PDt H' D ps->rs.Perm rows->(rs.map (·.1)).Pairwise (fun a b=>pLt b a=false)->ps.map (·.2)=rs.map (fun r=>(r.1,plc (zs.map (·.2)) r.1))->Q (.ref D) H'
abbrev q3i:Stmt:=top 18
theorem sc_all_places:FnScope ["hall", "wishes", "places"] ["hall", "wishes"] (defScope q3i):=⟨rfl,rfl,rfl,by decide +kernel,rfl,by decide +kernel,by decide +kernel⟩
theorem x3i{c:Addr}(D:Df K mg "all_places" q3i ["hall", "wishes"])(T:Txt mg)(C:CallsAP P w K mg base c):Cal P w K mg base "all_places" 6 ["hall", "wishes"] (spAllP c):=by
 refine D.cal sc_all_places (fun vs H Q E h=>?_) (fun f cdv A outer s H vs Q E hr h=>?_)
 ·obtain⟨h,d,L,bl,rows,zs,rfl,_⟩:=h;rfl
 ·obtain⟨h,d,L,bl,rows,zs,rfl,hh,hl,h60,ml,gw,few,k⟩:=h;refine⟨_,(q0d (q0j (i:=2) sc_all_places.nd rfl (by first|exact Or.inl rfl|exact Or.inr rfl) (pe_c C.wished_places hr (q0a (pv 0) (q0a (pv 1) q0e)))) (q0f (q0l (z9t ["path", "mark"] [("places",2)] rfl (@q3a _ _ _ _ K rfl (pe_m0 C.m_rows hr (pv 0))) (fun _ _ _ _ _=>(@q2t _ _ _ _ (2) _ K rfl rfl (q0o (q0h (i:=0) (show(["path", "mark", "places"]:List Str).Nodup by decide +kernel) rfl (by first|exact Or.inl rfl|exact Or.inr rfl)) (q0o (q0h (i:=1) (show(["path", "mark", "places"]:List Str).Nodup by decide +kernel) rfl (by first|exact Or.inl rfl|exact Or.inr rfl)) q1v)) (by rfl) (by rfl))) (fun _ _ _ _ _=>q5e) (fun _ _ _ _ _=>(pv 0)) (fun _ _ _ _ _=>(z3d (q1c hr) (pv 2) (pv 0) (pv 0) ⟨rfl,rfl,rfl,rfl⟩)) (q1c hr))))),?_⟩;refine⟨_,rfl,_,rfl,h,d,L,bl,rows,zs,rfl,hh,hl,ml,gw,few,fun D0 ps0 H1 hD0 s1 pd0 e0=>?_⟩;obtain⟨dx,hi⟩:=hh.i;have nd0:((ps0.map (·.2)).map (·.1)).Nodup:=by rw[e0];exact gw.nd
  refine⟨_,rfl,h,dx,_,rfl,s1 _ _ hi,rfl,h,d,bl,rows,rfl,hh.same s1,by lia,fun r hr=>(hl.ok r hr).low,fun L2 zs2 H2 hL2 s2 rl2 pm2 pw2=>?_⟩;refine .inl ⟨L2,rfl,⟨_,SqL.of rl2.at_⟩,fun D1 hD1=>?_⟩;have ndz:((zs2.map (·.2)).map (·.1)).Nodup:=(hl.perm pm2).paths;have l2:zs2.length<=60:=by have:=pm2.length_eq;rw[Ab] at this;lia
  refine q7y (fun i ys H'=>∃ps,ys=((ps.map fun x=>((x.2.1,.ref x.1):HRow)).map fun r=>(kP r.1,r.2))/\PDt H' D1 ps/\Same H2 H'/\ps.map (·.2)=((zs2.map (·.2)).take i).map (fun r=>(r.1,plc (zs.map (·.2)) r.1))) ⟨[],rfl,⟨q0b,(fun _ h=>nomatch h)⟩,(Same.refl H2).new hD1,rfl⟩ (fun i ys H' h=>by obtain⟨ps,e,pd,s',_⟩:=h;exact⟨by rw[e];exact pd.at_,SqL.of (s' _ _ rl2.at_)⟩) ?_ ?_
  ·rintro i ys H' v hv ⟨ps,rfl,pd,s',eps⟩;obtain⟨z,hz,rfl⟩:∃z,zs2[i]?=some z/\v=.ref z.1:=by
    rw[Ae] at hv;cases e:zs2[i]? with
    |none=>rw[e] at hv;cases hv
    |some z=>rw[e] at hv;cases hv;exact⟨z,rfl,rfl⟩
   have hzr:(zs2.map (·.2))[i]?=some z.2:=by rw[Ae,hz];rfl
   have e1:(zs2.map (·.2)).take (i+1)=(zs2.map (·.2)).take i++[z.2]:=by rw[Bc,hzr];rfl
   have hil:i<zs2.length:=(Aj.mp hz).1;have pl:ps.length<=60:=by
    have:=congrArg List.length eps;rw[Ab,Ab,Bm,Ab] at this;lia
   obtain⟨b,h1,h2⟩:=(rl2.same s').pr z (Ag hz);have hno:z.2.1∉ps.map (·.2.1):=fun hin=>by
    have e2:ps.map (·.2.1)=((zs2.map (·.2)).take i).map (·.1):=by
     have:ps.map (·.2.1)=(ps.map (·.2)).map (·.1):=by rw[Ap];rfl
     rw[this,eps,Ap];rfl
    rw[e2] at hin;have e3:((zs2.map (·.2)).take (i+1)).map (·.1)=((zs2.map (·.2)).take i).map (·.1)++[z.2.1]:=by rw[e1,Af];rfl
    have nd2:(((zs2.map (·.2)).take (i+1)).map (·.1)).Nodup:=by rw[Jh];exact ndz.sublist (Ks _ _)
    rw[e3] at nd2;exact(Dj.mp nd2).2.2 _ hin _ (Ai.mpr rfl) rfl
   refine⟨z.1,_,rfl,SqT.of h1,rfl,_,_,rfl,_,_,rfl,rfl,q7q,?_⟩;refine z7s (iteT ?_);refine⟨_,rfl,_,rfl,D0,rfl,.inr ⟨_,.inl ((s2.trans s') _ _ pd0.at_)⟩,_,rfl,_,rfl,?_⟩;have put:∀(e:Addr),H' e=some (.tup (vP (plc (zs.map (·.2)) z.2.1)))->∃k c,V.ref b=.ref c/\H' c=some (.tup (k.map kV))/\H' D1=some (.dT ((ps.map fun x=>((x.2.1,.ref x.1):HRow)).map fun r=>(kP r.1,r.2)))/\((ps.map fun x=>((x.2.1,.ref x.1):HRow)).map fun r=>(kP r.1,r.2)).length<sizeLine /\
     ∃ps',putK ((ps.map fun x=>((x.2.1,.ref x.1):HRow)).map fun r=>(kP r.1,r.2)) k (.ref e)=((ps'.map fun x=>((x.2.1,.ref x.1):HRow)).map fun r=>(kP r.1,r.2))/\PDt (upd H' D1 (.dT (putK ((ps.map fun x=>((x.2.1,.ref x.1):HRow)).map fun r=>(kP r.1,r.2)) k (.ref e)))) D1 ps'/\Same H2 (upd H' D1 (.dT (putK ((ps.map fun x=>((x.2.1,.ref x.1):HRow)).map fun r=>(kP r.1,r.2)) k (.ref e))))/\ps'.map (·.2)=((zs2.map (·.2)).take (i+1)).map (fun r=>(r.1,plc (zs.map (·.2)) r.1)):=fun e he=>by
    refine⟨kP z.2.1,b,rfl,by rw[q1x];exact h2,pd.at_,by rw[Ab,Ab];exact small' (by lia),ps++[(e,(z.2.1,plc (zs.map (·.2)) z.2.1))],?_⟩;have em:(ps++[(e,(z.2.1,plc (zs.map (·.2)) z.2.1))]).map (fun x=>((x.2.1,.ref x.1):HRow))=(ps.map fun x=>((x.2.1,.ref x.1):HRow))++[(z.2.1,.ref e)]:=by rw[Af];rfl
    rw[q2d (p:=z.2.1) (v:=.ref e) fun r hr z'=>by
     obtain⟨x,hx,rfl⟩:=Ac.mp hr;exact hno (Ac.mpr ⟨x,hx,z'⟩),em]
    refine⟨rfl,⟨by rw[q0b,em],fun x hx=>?_⟩,fun x u eu=>?_,by rw[e1,Af,Af,eps];rfl⟩
    ·have nD:∀(x:Addr) (xs:List V),H' x=some (.tup xs)->upd H' D1 (dR ((ps.map fun x=>((x.2.1,.ref x.1):HRow))++[(z.2.1,.ref e)])) x=some (.tup xs):=fun x xs e=>by
      rw[q0c (fun y=>by rw[y,pd.at_] at e;cases e)];exact e
     rcases Am.mp hx with hx|hx
     ·exact nD _ _ (pd.pr x hx)
     ·rw[Ai.mp hx];exact nD _ _ he
    ·rw[q0c (fun y=>by rw[y,hD1] at eu;cases eu)];exact s' _ _ eu
   rcases(pd0.same (s2.trans s')).get nd0 h2 with⟨hn,dg⟩|⟨y,hy,ey,dg,hy2⟩
   ·refine⟨none,dg,put b ?_⟩;rw[q5b (by rw[<- e0];exact hn)];exact h2
   ·refine⟨some (.ref y.1),dg,put y.1 ?_⟩;rw[<- e0];exact hy2
  ·rintro ys H' ⟨ps,rfl,pd,s',eps⟩;rw[Ab,<- Ab (f:=fun z:Zr=>z.2),Bb] at eps;exact k D1 ps (zs2.map (·.2)) H' ((s1.trans s2).free hD1) ((s1.trans s2).trans s') pd pm2 (by rw[Ap];exact pw2) eps
end
end K
set_option maxHeartbeats 4000000
namespace K
open PySem L2 TX SB HM
section
variable{P:Program}{w:World}{K:Ak}{mg:Str->Option Value}{base:Heap}
theorem z1h{xs:List V}{i:Int}(h0:0<=i)(h1:i<=xs.length):cutV xs (some i) none=xs.drop i.toNat:=by
 have e1:HT.sIx xs.length 0 (some i)=i.toNat:=by
  show(if i<0 then(i+(xs.length:Int)).toNat else min i.toNat xs.length)=_;rw[if_neg (by lia)];lia
 have e2:HT.sIx xs.length xs.length none=xs.length:=rfl;unfold cutV;rw[e1,e2];exact Ei (by rw[Dd];exact Aq _)
abbrev Tri:=Pth×Pth×Pth
def rowT(bl:Bool)(f:Pth->Pth)(ps:List Pth)(i:Nat):List Tri:=match ps[i]? with
 |none=>[]
 |some p=>((ps.drop (i+1)).filter fun q=>decide (fold bl (f p)=fold bl (f q))).map fun q=>(p,q,f p)
def accT(bl:Bool)(f:Pth->Pth)(ps:List Pth)(i:Nat):List Tri:=(List.range i).flatMap (rowT bl f ps)
theorem z1i{bl:Bool}{f:Pth->Pth}{ps:List Pth}{i:Nat}:accT bl f ps (i+1)=accT bl f ps i++rowT bl f ps i:=by
 unfold accT;rw[List.range_succ,List.flatMap_append];simp
theorem x0i{bl:Bool}{f:Pth->Pth}{ps:List Pth}{i:Nat}:(rowT bl f ps i).length<=ps.length:=by
 unfold rowT;split
 ·exact Bl _
 ·rw[Ab];refine Bz (Cr _ _) ?_;rw[Dd];lia
theorem z3p{bl:Bool}{f:Pth->Pth}{ps:List Pth}:∀i,(accT bl f ps i).length<=i*ps.length
 |0=>by simp[accT]
 |i+1=>by
  rw[z1i,Al,Nat.succ_mul];have:=z3p (bl:=bl) (f:=f) (ps:=ps) i;have:=x0i (bl:=bl) (f:=f) (ps:=ps) (i:=i);lia
abbrev Zt:=Addr×Tri
def TT3(H:Hp)(T:Addr)(t:Tri):Prop:=∃A B C,H T=some (.tup [.ref A,.ref B,.ref C])/\H A=some (.tup (vP t.1))/\H B=some (.tup (vP t.2.1))/\H C=some (.tup (vP t.2.2))
structure TL (H:Hp) (L:Addr) (ts:List Zt):Prop where
 at_:H L=some (.lst (ts.map fun z=>V.ref z.1))
 pr:∀z∈ts,TT3 H z.1 z.2
theorem TT3.keep{H H':Hp}{T:Addr}{t:Tri}(h:TT3 H T t)(k:∀T xs,H T=some (.tup xs)->H' T=some (.tup xs)):TT3 H' T t:=let ⟨A,B,C,h1,h2,h3,h4⟩:=h;⟨A,B,C,k _ _ h1,k _ _ h2,k _ _ h3,k _ _ h4⟩
theorem TL.same{H H':Hp}{L:Addr}{ts:List Zt}(h:TL H L ts)(s:Same H H'):TL H' L ts:=⟨s _ _ h.at_,fun z hz=>(h.pr z hz).keep fun _ _ e=>s _ _ e⟩
theorem TL.put{H:Hp}{L T:Addr}{ts:List Zt}{t:Tri}(h:TL H L ts)(ht:TT3 H T t):TL (upd H L (.lst (ts.map (fun z=>V.ref z.1)++[.ref T]))) L (ts++[(T,t)]):=by
 have tk:∀S xs,H S=some (.tup xs)->upd H L (.lst (ts.map (fun z=>V.ref z.1)++[.ref T])) S=some (.tup xs):=fun S xs e=>by rw[q0c (fun z=>by rw[z,h.at_] at e;cases e)];exact e
 refine⟨by rw[q0b,Af];rfl,fun z hz=>?_⟩;rcases Am.mp hz with hz|hz
 ·exact(h.pr z hz).keep tk
 ·rw[Ai.mp hz];exact ht.keep tk
theorem x3j{ms:List Mv}{rs:List Rw}{p:Pth}(h:p∈rs.map (·.1)):plc (rs.map fun r=>(r.1,plc ms r.1)) p=plc ms p:=by
 induction rs with
 |nil=>cases h
 |cons r rs ih =>
  rw[Aw];show(if r.1=p then plc ms r.1 else plc (rs.map fun r=>(r.1,plc ms r.1)) p)=_;by_cases e:r.1=p
  ·rw[if_pos e,e]
  ·rw[if_neg e];rw[Aw] at h;exact ih ((Ay.mp h).resolve_left fun z=>e z.symm)
theorem q1o{ms:List Mv}{rows:List Rw}{p:Pth}{bl:Bool}(hl:Hl bl rows)(gw:GoodW rows ms)(hp:p∈rows.map (·.1)):okP (plc ms p):=by
 by_cases h:p∈ms.map (·.1)
 ·obtain⟨m,hm,rfl⟩:=Ac.mp h;rw[q8k gw.nd hm];exact(gw.all m hm).ok
 ·rw[q5b h];obtain⟨r,hr,rfl⟩:=Ac.mp hp;exact hl.ok r hr
theorem x0j{H:Hp}:∀{bs:List Addr} {ps:List Pth},Paired (fun b p=>H b=some (.tup (vP p))) bs ps->∃zs:List (Addr×Pth),bs.map V.ref=zs.map (fun z=>V.ref z.1)/\zs.map (·.2)=ps/\∀z∈zs,H z.1=some (.tup (vP z.2))
 |_,_,.nil=>⟨[],rfl,rfl,fun _ h=>nomatch h⟩
 |b::bs,p::ps,.cons h t=>by
  obtain⟨zs,z1,z2,z3⟩:=x0j t;refine⟨(b,p)::zs,by rw[Aw,z1];rfl,by rw[Aw,z2],fun z hz=>?_⟩;rcases Ay.mp hz with rfl|hz
  ·exact h
  ·exact z3 z hz
structure CallsMe (P:Program) (w:World) (K:Ak) (mg:Str->Option Value) (base:Heap) (c:Addr):Prop where
 all_places:Cal P w K mg base "all_places" 6 ["hall", "wishes"] (spAllP c)
 m_is_one_place:MCal P w K mg base c "is_one_place" 2 ["self", "one", "other"] (spOneP c)
def spMeet(c:Addr):Sp:=fun vs H Q _=>∃h d L bl rows zs,vs=[.ref h,.ref L]/\HallAt c H h d bl rows/\Hl bl rows/\rows.length<=30/\ML H L zs/\GoodW rows (zs.map (·.2))/\zs.length<=60 /\
 ∀L' ts ps H',H L'=none->Same H H'->TL H' L' ts->ps.Perm (rows.map (·.1))->ps.Pairwise (fun a b=>pLt b a=false)->ts.map (·.2)=accT bl (plc (zs.map (·.2))) ps ps.length->Q (.ref L') H'
abbrev q4m:Stmt:=top 19
theorem sc_meetings:FnScope ["hall", "wishes", "places", "paths", "told", "at", "one", "other"] ["hall", "wishes"] (defScope q4m):=⟨rfl,rfl,rfl,by decide +kernel,rfl,by decide +kernel,by decide +kernel⟩
theorem x3k{c:Addr}(D:Df K mg "meetings" q4m ["hall", "wishes"])(T:Txt mg)(C:CallsMe P w K mg base c):Cal P w K mg base "meetings" 7 ["hall", "wishes"] (spMeet c):=by
 refine D.cal sc_meetings (fun vs H Q E h=>?_) (fun f cdv A outer s H vs Q E hr h=>?_)
 ·obtain⟨h,d,L,bl,rows,zs,rfl,_⟩:=h;rfl
 ·obtain⟨h,d,L,bl,rows,zs,rfl,hh,hl,h30,ml,gw,few,k⟩:=h;refine⟨_,(q0d (q0j (i:=2) sc_meetings.nd rfl (by first|exact Or.inl rfl|exact Or.inr rfl) (pe_c C.all_places hr (q0a (pv 0) (q0a (pv 1) q0e)))) (q0d (q0j (i:=3) sc_meetings.nd rfl (by first|exact Or.inl rfl|exact Or.inr rfl) (q0m (q4b hr) (by rfl) T.b_sorted (by decide +kernel) (q0a (pv 2) q0e))) (q0d (q0j (i:=4) sc_meetings.nd rfl (by first|exact Or.inl rfl|exact Or.inr rfl) (q1t q0e)) (q0d (q1f Bi rfl (@z6i _ _ _ _ _ _ _ _ K rfl rfl T.b_enumerate (q0a (pv 3) q0e) (by rfl)) (@q2t _ _ _ _ (2) _ K rfl rfl (q0o (q0h (i:=5) sc_meetings.nd rfl (by first|exact Or.inl rfl|exact Or.inr rfl)) (q0o (q0h (i:=6) sc_meetings.nd rfl (by first|exact Or.inl rfl|exact Or.inr rfl)) q1v)) (by rfl) (by rfl)) (q0f (q1f Bi rfl (@q3a _ _ _ _ K rfl (q0p (sl_k K rfl) (pv 3) (q0r (q1j q1q (pv 5) q0g)) q0q)) (q0h (i:=7) sc_meetings.nd rfl (by first|exact Or.inl rfl|exact Or.inr rfl)) (q0f (q1e (@q5x _ _ _ K rfl (pe_m C.m_is_one_place hr (pv 0) (q0a (q0w (q1c hr) (pv 2) (pv 6) (fun _ _=>rfl)) (q0a (q0w (q1c hr) (pv 2) (pv 7) (fun _ _=>rfl)) q0e))) (fun _=>rfl)) (q0f (q2b (@bm_k _ _ _ _ _ _ _ _ _ _ _ _ K rfl Cv Dg Dh q1w (pv 4) (q0a (q1g (q0a (pv 6) (q0a (pv 7) (q0a (q0w (q1c hr) (pv 2) (pv 6) (fun _ _=>rfl)) q0e)))) q0e) (by rfl) (by rfl) (by rfl) (by rfl) (by rfl)))) q0n))))) (q0f (q0l (pv 4))))))),?_⟩;obtain⟨dx,hi⟩:=hh.i;refine⟨_,rfl,_,rfl,h,d,L,bl,rows,zs,rfl,hh,hl,by lia,ml,gw,few,fun D0 ps0 rs H1 hD0 s1 pd0 pm0 pw0 e0=>?_⟩;have hks:(ps0.map fun x=>((x.2.1,.ref x.1):HRow)).map (·.1)=rs.map (·.1):=by
   have:(ps0.map fun x=>((x.2.1,.ref x.1):HRow)).map (·.1)=(ps0.map (·.2)).map (·.1):=by rw[Ap,Ap];rfl
   rw[this,e0,Ap];rfl
  have hrl:rs.length=rows.length:=pm0.length_eq;have hpl:ps0.length=rs.length:=by have:=congrArg List.length e0;rw[Ab,Ab] at this;exact this
  have nd0:((ps0.map (·.2)).map (·.1)).Nodup:=by
   have e:(ps0.map (·.2)).map (·.1)=rs.map (·.1):=by rw[e0,Ap];rfl
   rw[e];exact(hl.perm pm0).paths
  refine⟨_,rfl,D0,_,rfl,pd0.at_,by rw[Ab];lia,fun r hr=>?_,fun L2 bs ps hL2 hp2 hs2 pts=>?_⟩
  ·have hr1:r.1∈rs.map (·.1):=by rw[<- hks];exact Ac.mpr ⟨r,hr,rfl⟩
   obtain⟨y,hy,e⟩:=Ac.mp hr1;rw[<- e];exact(hl.ok y (pm0.mem_iff.mp hy)).ne
  rw[hks] at hp2;obtain⟨xs,x1,x2,x3⟩:=x0j pts;rw[x1];have hpp:ps.Perm (rows.map (·.1)):=hp2.trans (pm0.map _);have xl:xs.length<=30:=by
   have e1:=congrArg List.length x2;have e2:=hpp.length_eq;rw[Ab] at e1 e2;lia
  have s2:=(Same.refl H1).new (o:=.lst (xs.map fun z=>V.ref z.1)) hL2;have hLL:upd H1 L2 (.lst (xs.map fun z=>V.ref z.1)) L2=some (.lst (xs.map fun z=>V.ref z.1)):=q0b;have hx2:∀z∈xs,upd H1 L2 (.lst (xs.map fun z=>V.ref z.1)) z.1=some (.tup (vP z.2)):=fun z hz=>s2 _ _ (x3 z hz);have s12:=s1.trans s2;have pd2:=pd0.same s2;generalize upd H1 L2 (.lst (xs.map fun z=>V.ref z.1))=H2 at s2 hLL hx2 s12 pd2;clear x3 pts x1 s2 pd0;have hds:ps.length=xs.length:=by rw[<- x2,Ab]
  have hmem:∀z∈xs,z.2∈rows.map (·.1):=fun z hz=>hpp.mem_iff.mp (by rw[<- x2];exact Ac.mpr ⟨z,hz,rfl⟩);have get:∀{H':Hp} (z:Addr×Pth),z∈xs->Same H2 H'->∃e,DGet H' D0 (.ref z.1) (some (.ref e))/\H' e=some (.tup (vP (plc (zs.map (·.2)) z.2))):=fun{H'} z hz s'=>by
   have hin:z.2∈rs.map (·.1):=(pm0.map _).mem_iff.mpr (hmem z hz);rcases(pd2.same s').get nd0 (s' _ _ (hx2 z hz)) with⟨hn,_⟩|⟨y,hy,ey,dg,hy2⟩
   ·exact absurd (by rw[e0,Ap];exact hin) hn
   ·refine⟨y.1,dg,?_⟩;rw[e0,x3j hin] at hy2;exact hy2
  have okz:∀z∈xs,okP (plc (zs.map (·.2)) z.2):=fun z hz=>q1o hl gw (hmem z hz);generalize hf:plc (zs.map (·.2))=f at get okz k;have hi2:=s12 _ _ hi;refine⟨by show 0<=sizeLine;decide,fun L3 hL3=>?_⟩;have s3:=(Same.refl H2).new (o:=.lst []) hL3;refine⟨_,rfl,.inr ⟨L2,_,rfl,SqL.of (s3 _ _ hLL),?_⟩⟩;refine q6v (fun i σ' H'=>∃ts x5 x6 x7,σ'=[some (.ref h),some (.ref L),some (.ref D0),some (.ref L2),some (.ref L3),x5,x6,x7]/\Same H2 H'/\TL H' L3 ts/\ts.map (·.2)=accT bl f ps i) ⟨[],none,none,none,rfl,s3,⟨q0b,(fun _ h=>nomatch h)⟩,rfl⟩ (fun i σ' H' x=>by obtain⟨_,_,_,_,_,s',_⟩:=x;exact SqL.of (s' _ _ hLL)) ?_ ?_
  ·rintro i v T' σ' H4 hv ⟨ts,x5,x6,x7,rfl,s4,tl4,ets⟩ hT;obtain⟨z,hz,rfl⟩:∃z,xs[i]?=some z/\v=.ref z.1:=by
    rw[Ae] at hv;cases e:xs[i]? with
    |none=>rw[e] at hv;cases hv
    |some z=>rw[e] at hv;cases hv;exact⟨z,rfl,rfl⟩
   have hzx:=Ag hz;have hil:i<xs.length:=(Aj.mp hz).1;have hpi:ps[i]?=some z.2:=by rw[<- x2,Ae,hz];rfl
   have sT:=(Same.refl H4).new (o:=.tup [.int i,.ref z.1]) hT;refine⟨T',_,rfl,SqT.of q0b,rfl,_,_,rfl,_,_,rfl,rfl,?_⟩;have s5:=s4.trans sT;have tl5:=tl4.same sT;refine⟨_,rfl,_,rfl,.inl ⟨_,_,rfl,rfl,_,rfl,.inr (.inl ⟨L2,_,rfl,SqL.of (s5 _ _ hLL),fun L5 hL5=>?_⟩)⟩⟩;have ec:cutV (xs.map fun z=>V.ref z.1) (some ((i:Int)+1)) none=(xs.drop (i+1)).map fun z=>V.ref z.1:=by
    rw[z1h (by lia) (by rw[Ab];lia),Jg];congr 1
   rw[ec];have s6':=(Same.refl (upd H4 T' (.tup [.int i,.ref z.1]))).new (o:=.lst ((xs.drop (i+1)).map fun z=>V.ref z.1)) hL5;have s6:=s5.trans s6';have tl6:=tl5.same s6';have hL6:upd (upd H4 T' (.tup [.int i,.ref z.1])) L5 (.lst ((xs.drop (i+1)).map fun z=>V.ref z.1)) L5=some (.lst ((xs.drop (i+1)).map fun z=>V.ref z.1)):=q0b;have hL53:L5≠L3:=fun y=>by rw[y,tl5.at_] at hL5;cases hL5
   generalize upd (upd H4 T' (.tup [.int i,.ref z.1])) L5 (.lst ((xs.drop (i+1)).map fun z=>V.ref z.1))=H6 at s6' s6 tl6 hL6;refine .inl ⟨L5,rfl,⟨_,SqL.of hL6⟩,?_⟩;refine q2j (xs:=(xs.drop (i+1)).map fun z=>V.ref z.1) (fun j σ' H'=>∃ts x7,σ'=[some (.ref h),some (.ref L),some (.ref D0),some (.ref L2),some (.ref L3),some (.int (i:Int)),some (.ref z.1),x7]/\Same H2 H'/\TL H' L3 ts/\H' L5=some (.lst ((xs.drop (i+1)).map fun z=>V.ref z.1))/\ts.map (·.2)=accT bl f ps i++(((ps.drop (i+1)).take j).filter fun q=>decide (fold bl (f z.2)=fold bl (f q))).map fun q=>(z.2,q,f z.2))
    ⟨ts,x7,rfl,s6,tl6,hL6,by rw[ets];simp⟩ (fun j σ' H' _ x=>by obtain⟨_,_,_,_,_,h5,_⟩:=x;exact SqL.of h5) ?_ ?_
   ·rintro j v σ' H7 hv ⟨ts,x7,rfl,s7,tl7,hL7,ets7⟩;obtain⟨y,hy,rfl⟩:∃y,(xs.drop (i+1))[j]?=some y/\v=.ref y.1:=by
     rw[Ae] at hv;cases e:(xs.drop (i+1))[j]? with
     |none=>rw[e] at hv;cases hv
     |some y=>rw[e] at hv;cases hv;exact⟨y,rfl,rfl⟩
    have hyx:y∈xs:=Mn (Ag hy);have hpj:(ps.drop (i+1))[j]?=some y.2:=by rw[<- x2,<- Jg,Ae,hy];rfl
    have e1:(ps.drop (i+1)).take (j+1)=(ps.drop (i+1)).take j++[y.2]:=by rw[Bc,hpj];rfl
    obtain⟨ez,dz,hz7⟩:=get z hzx s7;obtain⟨ey,dy,hy7⟩:=get y hyx s7;refine⟨_,rfl,h,dx,_,rfl,s7 _ _ hi2,rfl,_,rfl,_,rfl,D0,_,rfl,dz,_,rfl,_,rfl,D0,_,rfl,dy,h,ez,ey,bl,dx,_,f z.2,f y.2,rfl,s7 _ _ hi2,rfl,hz7,hy7,okz z hzx,okz y hyx,fun H8 s8=>⟨_,rfl,?_⟩⟩;have s78:=s7.trans s8;have tl8:=tl7.same s8;have hlen:ts.length<=930:=by
     have e2:=congrArg List.length ets7;rw[Ab,Al,Ab] at e2;have e3:=z3p (bl:=bl) (f:=f) (ps:=ps) i;have e4:((((ps.drop (i+1)).take j).filter fun q=>decide (fold bl (f z.2)=fold bl (f q)))).length<=ps.length:=by
      refine Bz (Cr _ _) ?_;rw[Bm,Dd];lia
     have e5:i*ps.length<=30*30:=Nat.mul_le_mul (by lia) (by lia);lia
    refine iteB (fun hc=>?_) (fun hc=>?_)
    ·obtain⟨ez',dz',hz8⟩:=get z hzx s78;refine⟨_,rfl,.inl ⟨rfl,_,SqL.of tl8.at_⟩,_,rfl,_,rfl,_,rfl,_,rfl,D0,_,rfl,dz',by show 3<=sizeLine;decide,fun T1 hT1=>?_⟩;have s9':=(Same.refl H8).new (o:=.tup [.ref z.1,.ref y.1,.ref ez']) hT1;have s9:=s78.trans s9';have tl9:=tl8.same s9';have tt:TT3 (upd H8 T1 (.tup [.ref z.1,.ref y.1,.ref ez'])) T1 (z.2,y.2,f z.2):=⟨z.1,y.1,ez',q0b,s9 _ _ (hx2 z hzx),s9 _ _ (hx2 y hyx),s9' _ _ hz8⟩
     refine⟨L3,_,_,rfl,rfl,tl9.at_,by rw[Ab];exact small' (by lia),?_⟩;refine⟨ts++[(T1,(z.2,y.2,f z.2))],_,rfl,fun x u e=>by rw[q0c (fun w'=>by rw[w',hL3] at e;cases e)];exact s9 _ _ e,tl9.put tt,by rw[q0c hL53];exact s9' _ _ (s8 _ _ hL7),?_⟩;rw[Af,ets7,e1,Dl,Cu (by simpa using hc),Af,<- Fx];rfl
    ·refine⟨ts,_,rfl,s78,tl8,s8 _ _ hL7,?_⟩;rw[ets7,e1,Dl,Ct (by simpa using hc)];simp
   ·rintro σ' H7 ⟨ts,x7,rfl,s7,tl7,hL7,ets7⟩;refine⟨ts,_,_,_,rfl,s7,tl7,?_⟩;rw[z1i,ets7];congr 1;unfold rowT;rw[hpi];have e2:(ps.drop (i+1)).take ((xs.drop (i+1)).map fun z=>V.ref z.1).length=ps.drop (i+1):=Ei (by rw[Ab,Dd,Dd];lia);rw[e2]
  ·rintro σ' H4 ⟨ts,x5,x6,x7,rfl,s4,tl4,ets⟩;refine⟨_,rfl,k L3 ts ps H4 (s12.free hL3) (s12.trans s4) tl4 hpp hs2 ?_⟩;rw[ets,Ab,hds]
end
end K
set_option maxHeartbeats 4000000
namespace K
open PySem L2 TX SB HM
section
variable{P:Program}{w:World}{K:Ak}{mg:Str->Option Value}{base:Heap}
structure PL (H:Hp) (L:Addr) (zs:List (Addr×Pth)):Prop where
 at_:H L=some (.lst (zs.map fun z=>V.ref z.1))
 pr:∀z∈zs,H z.1=some (.tup (vP z.2))/\okP z.2
theorem PL.same{H H':Hp}{L:Addr}{zs:List (Addr×Pth)}(h:PL H L zs)(s:Same H H'):PL H' L zs:=⟨s _ _ h.at_,fun z hz=>⟨s _ _ (h.pr z hz).1,(h.pr z hz).2⟩⟩
theorem PL.fd{a b L:Addr}{H H':Hp}{zs:List (Addr×Pth)}(h:PL H L zs)(F:FeedAt H a b)(fd:Fd a b H H')(hL:L≠a):PL H' L zs:=⟨fd.at h.at_ hL,fun z hz=>⟨tupFd F fd _ _ (h.pr z hz).1,(h.pr z hz).2⟩⟩
theorem PL.get{H:Hp}{L:Addr}{zs:List (Addr×Pth)}(h:PL H L zs){r:Int}(r0:0<=r)(r1:r<zs.length):∃z∈zs,atI (zs.map fun z=>V.ref z.1) r=some (.ref z.1):=by
 obtain⟨v,hv1,hv2⟩:=q7r (xs:=zs.map fun z=>V.ref z.1) r0 (by rw[Ab];exact r1);rw[Ae] at hv1;cases e:zs[r.toNat]? with
 |none=>rw[e] at hv1;cases hv1
 |some z=>rw[e] at hv1;cases hv1;exact⟨z,Ag e,hv2⟩
theorem x3l:∀c∈HM.NS,Bw (Ln c)=Bw c:=by decide +kernel
theorem x3m:∀c∈HM.NS,Bw (Bw c)=Bw c:=by decide +kernel
structure CallsOC (P:Program) (w:World) (K:Ak) (mg:Str->Option Value) (base:Heap):Prop where
 draw:Cal P w K mg base "_law_draw" 1 ["_law_feed", "_law_many"] spDraw
def spOther:Sp:=fun vs H Q _=>∃a b n,vs=[.ref a,.str (mk n)]/\FeedAt H a b/\okN n/\∀n' H',okN n'->lowN n'=lowN n->Fd a b H H'->Q (.str (mk n')) H'
abbrev q3j:Stmt:=top 41
theorem q9k:FnScope ["_law_feed", "_law_name"] ["_law_feed", "_law_name"] (defScope q3j):=⟨rfl,rfl,rfl,by decide +kernel,rfl,by decide +kernel,by decide +kernel⟩
theorem q9l(D:Df K mg "_law_other_case" q3j ["_law_feed", "_law_name"])(T:Txt mg)(C:CallsOC P w K mg base):Cal P w K mg base "_law_other_case" 2 ["_law_feed", "_law_name"] spOther:=by
 refine D.cal q9k (fun vs H Q E h=>?_) (fun f cdv A outer s H vs Q E hr h=>?_)
 ·obtain⟨a,b,n,rfl,_⟩:=h;rfl
 ·obtain⟨a,b,n,rfl,F,ok,k⟩:=h;refine⟨_,(q0f (q0l (@bm_k _ _ _ _ _ _ _ _ _ _ _ _ K rfl Ej Qu Qv (x1b K rfl) q4h (q0a (q3c ["_law_sign"] [("_law_feed",0)] rfl (@q3a _ _ _ _ K rfl (pv 1)) (fun _ _ _ _ _=>(q0h (i:=0) (show(["_law_sign", "_law_feed"]:List Str).Nodup by decide +kernel) rfl (by first|exact Or.inl rfl|exact Or.inr rfl))) (fun _ _ _ _ _=>q5e) (fun _ _ _ _ _=>(q1m (ix_k K rfl) (q1t (q0a (pv 0) (q0a (@z1w _ _ _ _ _ _ _ _ _ K rfl Ej PySem.F.slot_str_upper PySem.F.type_str_upper z9d (pv 0) (by rfl) (by rfl)) (q0a (@z1w _ _ _ _ _ _ _ _ _ K rfl Ej Ij Ik q5z (pv 0) (by rfl) (by rfl)) q0e)))) (pe_c C.draw hr (q0a (pv 1) (q0a q0g q0e))) (fun _ _=>rfl)))) q0e) (by rfl) (by rfl) (by rfl) (by rfl) (by rfl)))),?_⟩;have hlen:(mk n).length=n.length:=by rw[len,q2w]
  have hfew:=ok.few;refine⟨rfl,_,rfl,.inr (.inr ⟨_,rfl,fun D hD=>?_⟩)⟩;refine z6d (fun i ys H'=>∃cs:List Nat,ys=cs.map (fun c=>V.str ⟨#[c]⟩)/\cs.length=i/\i<=n.length/\(∀c∈cs,c∈HM.NS)/\Fd a b H H'/\H' D=some (.lst ys)/\cs.map Bw=(n.take i).map Bw) ⟨[],rfl,rfl,Bl _,fun _ h=>(nomatch h),(Fd.refl F).new hD,q0b,rfl⟩ (fun i ys H' ⟨cs,_,_,_,_,_,h,_⟩=>h) ?_ ?_
  ·rintro i ys H' c hc ⟨cs,rfl,hl',_,hcs,fd,hHD,elo⟩;have hci:n[i]?=some c:=by have:=get hc;rw[q2w] at this;exact this
   have hi:i<n.length:=(Aj.mp hci).1;have hcn:=ok.all c (Ag hci);have hlow:∀x∈[c],x<128:=fun x hx=>by rw[Ai.mp hx];exact x1i c hcn
   have eu:Uq (⟨#[c]⟩:Str)=⟨#[Ln c]⟩:=z9y (n:=[c]) hlow;have el:Ic (⟨#[c]⟩:Str)=⟨#[Bw c]⟩:=z3m (n:=[c]) hlow;refine⟨_,rfl,_,rfl,rfl,_,rfl,rfl,by show 3*1<=sizeLine;decide,?_⟩;rw[eu];refine⟨_,rfl,rfl,_,rfl,rfl,by show 3*1<=sizeLine;decide,?_⟩;rw[el];refine⟨by show 3<=sizeLine;decide,fun M hM=>?_⟩;have hMa:M≠a:=(fd.feed.na hM).symm;have fdM:=fd.new (o:=.lst [.str ⟨#[c]⟩,.str ⟨#[Ln c]⟩,.str ⟨#[Bw c]⟩]) hM;have hDM:D≠M:=fun y=>by rw[<- y,hHD] at hM;cases hM
   have hDa:D≠a:=(F.na hD).symm;refine⟨_,rfl,a,b,_,rfl,fdM.feed,by decide,by decide,fun r H2 r0 r1 fd2=>?_⟩;have hat:∃c',atI [V.str ⟨#[c]⟩,V.str ⟨#[Ln c]⟩,V.str ⟨#[Bw c]⟩] r=some (.str ⟨#[c']⟩)/\c'∈HM.NS/\Bw c'=Bw c:=by
    have e:r=0\/r=1\/r=2:=by lia
    rcases e with rfl|rfl|rfl
    ·exact⟨c,rfl,hcn,rfl⟩
    ·exact⟨_,rfl,ns_up c hcn,x3l c hcn⟩
    ·exact⟨_,rfl,ns_lo c hcn,x3m c hcn⟩
   obtain⟨c',hat,hc',hlo⟩:=hat;refine .inl ⟨M,_,r,_,rfl,rfl,SqL.of (fd2.at q0b hMa),hat,?_⟩;refine⟨fd2.at (by rw[q0c hDM];exact hHD) hDa,small' (by rw[Ab];lia),cs++[c'],by rw[Af];rfl,by rw[Al,hl'];rfl,hi,fun x hx=>?_,(fdM.trans fd2).put F hD,q0b,by rw[Af,elo,Bc,hci,Af];show _++[Bw c']=_;rw[hlo];rfl⟩;rcases Am.mp hx with y|y
   ·exact hcs x y
   ·rw[Ai.mp y];exact hc'
  ·rintro ys H2 ⟨cs,rfl,hl',_,hcs,fd,hHD,elo⟩;rw[hlen] at hl';have e:cs.map (fun c=>V.str ⟨#[c]⟩)=(cs.map fun c=>(⟨#[c]⟩:Str)).map V.str:=by rw[Ap];rfl
   refine⟨_,D,cs.map fun c=>⟨#[c]⟩,rfl,rfl,.inl (SqL.of (by rw[<- e];exact hHD)),?_,?_⟩
   ·rw[z3b,Ab];have:(Ao "").length=0:=by decide +kernel
    rw[this,hl'];exact small (by lia)
   ·have z:=z0g cs;rw[z];have:=ok.one;exact k cs H2 ⟨by lia,by lia,hcs⟩ (by unfold lowN;rw[elo,hlen,Bb]) fd
def lenAt(L:Addr)(H:Hp):Nat:=match H L with|some (.lst xs)=>xs.length|_=>0
theorem q4c{L:Addr}{H:Hp}{xs:List V}(h:H L=some (.lst xs)):lenAt L H=xs.length:=by unfold lenAt;rw[h]
theorem ers_map{α β:Type}(f:α->β):∀(l:List α) (k:Nat),(l.map f).eraseIdx k=(l.eraseIdx k).map f
 |[],_=>rfl
 |_::_,0=>rfl
 |a::l,k+1=>by show f a::(l.map f).eraseIdx k=f a::(l.eraseIdx k).map f;rw[ers_map f l k]
theorem z3q{α:Type}{z:α}:∀{l:List α} {k:Nat},l[k]?=some z->l.Perm (z::l.eraseIdx k)
 |[],_,h=>by cases h
 |a::l,0,h=>by cases h;exact List.Perm.refl _
 |a::l,k+1,h=>by
  show(a::l).Perm (z::a::l.eraseIdx k);exact((z3q (l:=l) (k:=k) h).cons a).trans (List.Perm.swap _ _ _)
structure GG (K:Ak) {α:Type} (G:Hp->Addr->α->Prop):Prop where
 keep:∀{H H':Hp} {T:Addr} {t:α},G H T t->(∀T xs,H T=some (.tup xs)->H' T=some (.tup xs))->G H' T t
 dat:∀{H:Hp} {T:Addr} {t:α},G H T t->∃d,Dt K H (.ref T) d/\d.canLay0=true
structure GL {α:Type} (G:Hp->Addr->α->Prop) (H:Hp) (L:Addr) (zs:List (Addr×α)):Prop where
 at_:H L=some (.lst (zs.map fun z=>V.ref z.1))
 pr:∀z∈zs,G H z.1 z.2
section
variable{α:Type}{G:Hp->Addr->α->Prop}
theorem GL.same{H H':Hp}{L:Addr}{zs:List (Addr×α)}(g:GG K G)(h:GL G H L zs)(s:Same H H'):GL G H' L zs:=⟨s _ _ h.at_,fun z hz=>g.keep (h.pr z hz) fun T xs e=>s _ _ e⟩
theorem GL.fd{a b L:Addr}{H H':Hp}{zs:List (Addr×α)}(g:GG K G)(h:GL G H L zs)(F:FeedAt H a b)(fd:Fd a b H H')(hL:L≠a):GL G H' L zs:=⟨fd.at h.at_ hL,fun z hz=>g.keep (h.pr z hz) fun T xs e=>tupFd F fd _ _ e⟩
theorem dts_G{H:Hp}(g:GG K G):∀{zs:List (Addr×α)},(∀z∈zs,G H z.1 z.2)->∃ds,Dts K H (zs.map fun z=>V.ref z.1) ds/\Cd ds=true/\(ds=[]↔zs=[])
 |[],_=>⟨[],.nil,by simp[Cd],by simp⟩
 |z::zs,h=>by
  obtain⟨ds,h1,h2,_⟩:=dts_G g fun y hy=>h y (An _ hy)
  obtain⟨d,h3,h4⟩:=g.dat (h z At);exact⟨d::ds,.cons h3 h1,by simp only[Cd,h4,h2,Nq],by simp⟩
theorem ne_noG{H:Hp}{L E:Addr}{zs:List (Addr×α)}{Q:VK}(g:GG K G)(h:GL G H L zs)(he:H E=some (.lst []))(k:Q (.bl (!zs.isEmpty)) H):rNeU K (.ref L) (.ref E) H Q:=by
 obtain⟨ds,h1,h2,h3⟩:=dts_G g h.pr;refine .inr ⟨_,_,.lst (SqL.of h.at_) h1,.lst (SqL.of he) .nil,by simp only[Fq];exact h2,by simp[Fq,Cd],?_,?_⟩
 ·have:(PyData.list []).depth<=100:=by simp[Ht,Eo]
  lia
 ·have e:Ey (.list ds) (.list [])=zs.isEmpty:=by
   cases ds with
   |nil=>rw[h3.mp rfl];simp[Ey,Gx]
   |cons d ds =>
    cases zs with
    |nil=>cases h3.mpr rfl
    |cons _ _=>simp[Ey,Gx]
  rw[e];exact k
end
structure SmI {α:Type} (G:Hp->Addr->α->Prop) (H:Hp) (a b Lf M:Addr) (zs:List (Addr×α)) (H':Hp) (zl zf:List (Addr×α)):Prop where
 fd:Fd a b H H'
 l:GL G H' Lf zl
 m:GL G H' M zf
 p:(zl++zf).Perm zs
section
variable{α:Type}{G:Hp->Addr->α->Prop}{H:Hp}{a b Lf M:Addr}{zs:List (Addr×α)}{H' H2:Hp}{zl zf:List (Addr×α)}
theorem SmI.go(g:GG K G)(x:SmI G H a b Lf M zs H' zl zf)(fd:Fd a b H' H2)(hL:Lf≠a)(hM:M≠a):SmI G H a b Lf M zs H2 zl zf:=⟨x.fd.trans fd,x.l.fd g x.fd.feed fd hL,x.m.fd g x.fd.feed fd hM,x.p⟩
theorem SmI.mv{k:Nat}{z:Addr×α}(g:GG K G)(x:SmI G H a b Lf M zs H' zl zf)(F:FeedAt H a b)(hL:H Lf=none)(hM:H M=none)(n:M≠Lf)(hz:zl[k]?=some z):
  SmI G H a b Lf M zs (upd (upd H' Lf (.lst ((zl.map fun z=>V.ref z.1).eraseIdx k))) M (.lst (zf.map (fun z=>V.ref z.1)++[.ref z.1]))) (zl.eraseIdx k) (zf++[z]):=by
 have tk:∀S xs,H' S=some (.tup xs)->upd (upd H' Lf (.lst ((zl.map fun z=>V.ref z.1).eraseIdx k))) M (.lst (zf.map (fun z=>V.ref z.1)++[.ref z.1])) S=some (.tup xs):=fun S xs e=>by
  rw[q0c (fun z=>by rw[z,x.m.at_] at e;cases e),q0c (fun z=>by rw[z,x.l.at_] at e;cases e)];exact e
 refine⟨(x.fd.put F hL).put F hM,⟨?_,fun y hy=>g.keep (x.l.pr y (List.mem_of_mem_eraseIdx hy)) tk⟩,⟨by rw[q0b,Af];rfl,fun y hy=>?_⟩,?_⟩
 ·rw[q0c n.symm,q0b,ers_map]
 ·rcases Am.mp hy with hy|hy
  ·exact g.keep (x.m.pr y hy) tk
  ·rw[Ai.mp hy];exact g.keep (x.l.pr z (Ag hz)) tk
 ·refine List.Perm.trans ?_ x.p;have e:zl.Perm (z::zl.eraseIdx k):=z3q hz;have e2:(zl.eraseIdx k++(zf++[z])).Perm (z::(zl.eraseIdx k++zf)):=by
   rw[<- Fx];exact Jj _ _
  exact e2.trans (Le zf e.symm)
end
def spSome(K:Ak):Sp:=fun vs H Q _=>∃(α:Type) (G:Hp->Addr->α->Prop) (a b L:Addr) (zs:List (Addr×α)) (n:Int),GG K G/\vs=[.ref a,.ref L,.int n]/\FeedAt H a b/\GL G H L zs/\zs.length<=60/\∀M zf zr H',Fd a b H H'->H M=none->GL G H' M zf->(zr++zf).Perm zs->(n<=zf.length\/zr=[])->Q (.ref M) H'
abbrev q5m:Stmt:=top 42
theorem sc_some_of:FnScope ["_law_feed", "_law_things", "_law_many", "_law_left", "_law_found"] ["_law_feed", "_law_things", "_law_many"] (defScope q5m):=⟨rfl,rfl,rfl,by decide +kernel,rfl,by decide +kernel,by decide +kernel⟩
theorem z4x(D:Df K mg "_law_some_of" q5m ["_law_feed", "_law_things", "_law_many"])(T:Txt mg)(C:CallsOC P w K mg base):Cal P w K mg base "_law_some_of" 2 ["_law_feed", "_law_things", "_law_many"] (spSome K):=by
 refine D.cal sc_some_of (fun vs H Q E h=>?_) (fun f cdv A outer s H vs Q E hr h=>?_)
 ·obtain⟨α,G,a,b,L,zs,n,g,rfl,_⟩:=h;rfl
 ·obtain⟨α,G,a,b,L,zs,n,g,rfl,F,hl,h60,k⟩:=h;refine⟨_,(q0d (q0j (i:=3) sc_some_of.nd rfl (by first|exact Or.inl rfl|exact Or.inr rfl) (q2l (x1a K rfl) (by rfl) T.b_list (by decide +kernel) (q0a (pv 1) q0e))) (q0d (q0j (i:=4) sc_some_of.nd rfl (by first|exact Or.inl rfl|exact Or.inr rfl) (q1t q0e)) (q0d (q8q Bi (pt_j (@PW.pt _ _ _ (q2s (q0k z8r (q0m (q4f K rfl) (by rfl) T.b_len Ck (q0a (pv 4) q0e)) (pv 2) (nomark _)) (q1u (q0k (ne_k K rfl hr) (pv 3) (q1t q0e) (nomark _)))))) (q0f (q2b (@bm_k _ _ _ _ _ _ _ _ _ _ _ _ K rfl Cv Dg Dh q1w (pv 4) (q0a (@bm_k _ _ _ _ _ _ _ _ _ _ _ _ K rfl Cv PySem.F.slot_list_pop PySem.F.type_list_pop z9a (pv 3) (q0a (pe_c C.draw hr (q0a (pv 0) (q0a (q0m (q4f K rfl) (by rfl) T.b_len Ck (q0a (pv 3) q0e)) q0e))) q0e) (by rfl) (by rfl) (by rfl) (by rfl) (by rfl)) q0e) (by rfl) (by rfl) (by rfl) (by rfl) (by rfl))))) (q0f (q0l (pv 4)))))),?_⟩;refine⟨_,rfl,L,_,rfl,.inl (SqL.of hl.at_),fun Lf hLf=>⟨by show 0<=sizeLine;decide,fun M hM=>?_⟩⟩;have s1:=(Same.refl H).new (o:=.lst (zs.map fun z=>V.ref z.1)) hLf;have s2:=s1.new (o:=.lst []) hM;have hML:M≠Lf:=fun z=>by rw[z,q0b] at hM;cases hM
  have hMH:H M=none:=s1.free hM;have hLa:Lf≠a:=(F.na hLf).symm;have hMa:M≠a:=(F.na hMH).symm;have I0:SmI G H a b Lf M zs (upd (upd H Lf (.lst (zs.map fun z=>V.ref z.1))) M (.lst [])) zs [] :=
   ⟨(Fd.refl F).same s2,⟨by rw[q0c hML.symm];exact q0b,(hl.same g s2).pr⟩,⟨q0b,(fun _ h=>nomatch h)⟩,by rw[El]⟩
  refine q8r (fun σ3 H3=>∃zl zf,σ3=[some (.ref a),some (.ref L),some (.int n),some (.ref Lf),some (.ref M)]/\SmI G H a b Lf M zs H3 zl zf) (fun _ H3=>lenAt Lf H3) ⟨zs,[],rfl,I0⟩ ?_ ?_
  ·rintro σ3 H3 ⟨zl,zf,rfl,I⟩;have hlen:zl.length+zf.length=zs.length:=by rw[<- Al];exact I.p.length_eq
   refine⟨fun bb H4=>SmI G H a b Lf M zs H4 zl zf/\lenAt Lf H4=lenAt Lf H3/\(bb=true->zl≠[])/\(bb=false->n<=zf.length\/zl=[]),?_,?_⟩
   ·rintro bb H4 ⟨I1,el,hb,hbf⟩;refine ite2 (fun h=>?_) (fun h=>⟨_,rfl,k M zf zl _ I1.fd hMH I1.m I1.p (hbf (by simpa using h))⟩);have hne:=hb h;have hpos:=Bu.mpr hne;refine⟨_,rfl,.inl ⟨rfl,_,SqL.of I1.m.at_⟩,_,rfl,.inl ⟨rfl,_,SqL.of I1.l.at_⟩,_,rfl,_,rfl,_,_,rfl,.inl ⟨_,SqL.of I1.l.at_,rfl⟩,a,b,_,rfl,I1.fd.feed,by rw[Ab];lia,by rw[Ab];lia,fun r H5 r0 r1 fd5=>?_⟩;rw[Ab] at r1;have I2:=I1.go g fd5 hLa hMa;obtain⟨v,hv1,hv2⟩:=q7r (xs:=zl) r0 r1;obtain⟨j,hj1,hj2,hj3,_,_⟩:=q8t hv2;refine⟨Lf,_,r,j,.ref v.1,rfl,rfl,I2.l.at_,by lia,by lia,by rw[Ab];exact hj1,by rw[Ae,hj2];rfl,?_⟩;refine⟨M,_,_,rfl,rfl,by rw[q0c hML];exact I2.m.at_,by rw[Ab];exact small' (by lia),?_⟩;have I3:=I2.mv g F hLf hMH hML hj2;refine⟨⟨_,_,rfl,I3⟩,?_⟩;rw[<- el,q4c I3.l.at_,q4c I1.l.at_,Ab,Ab,List.length_eraseIdx,if_pos hj3];lia
   ·refine⟨_,rfl,_,_,rfl,.inl ⟨_,SqL.of I.m.at_,rfl⟩,_,rfl,_,_,rfl,rfl,_,rfl,?_⟩;refine iteB (fun e=>?_) (fun e=>⟨I,rfl,(fun z=>by cases z),fun _=>.inl ?_⟩)
    ·refine⟨_,rfl,by show 0<=sizeLine;decide,fun E hE=>?_⟩;have sE:=(Same.refl H3).new (o:=.lst []) hE;have I1:SmI G H a b Lf M zs (upd H3 E (.lst [])) zl zf:=⟨I.fd.same sE,I.l.same g sE,I.m.same g sE,I.p⟩
     refine ne_noG g I1.l q0b ⟨_,rfl,I1,by rw[q4c I1.l.at_,q4c I.l.at_],fun h=>by simpa using h,fun h=>.inr (by simpa using h)⟩
    ·have:=of_decide_eq_false e;rw[Ab] at this;lia
  ·intro σ3 H3 Q1 Q2 hq h;obtain⟨R,h1,h2⟩:=h;exact⟨R,fun b H1 r=>hq _ _ (h1 b H1 r),h2⟩
end
end K
set_option maxHeartbeats 4000000
namespace K
open PySem L2 TX SB HM
section
variable{P:Program}{w:World}{K:Ak}{mg:Str->Option Value}{base:Heap}
theorem foldR:∀{rs acc:List HRow},((acc++rs).map (·.1)).Nodup->rs.foldl putR (acc.map fun r=>(kP r.1,r.2))=(acc++rs).map fun r=>(kP r.1,r.2)
 |[],acc,_=>by rw[El];rfl
 |r::rs,acc,nd=>by
  have e:acc++r::rs=(acc++[r])++rs:=by rw[Fx];rfl
  show rs.foldl putR (putK (acc.map fun r=>(kP r.1,r.2)) (kP r.1) r.2)=_;rw[q2d (p:=r.1) (v:=r.2) fun x hx z=>by
   rw[Af,Aw] at nd;exact(Dj.mp nd).2.2 _ (Ac.mpr ⟨x,hx,rfl⟩) _ At z]
  rw[e] at nd ⊢;exact foldR nd
theorem z1j{bl:Bool}{zs:List Zr}(hl:Hl bl (zs.map (·.2))):HO.dT ((zs.map fun z=>rR z.2).foldl putR [])=dR ((zs.map (·.2)).map rR):=by
 have er:(zs.map fun z=>rR z.2)=(zs.map (·.2)).map rR:=by rw[Ap];rfl
 have nd2:(((zs.map (·.2)).map rR).map (·.1)).Nodup:=by rw[Ap];exact hl.paths
 rw[er];exact congrArg HO.dT (foldR (acc:=[]) nd2)
theorem z7t{c x dx d:Addr}{H1 H':Hp}(hx:H1 x=none)(hdx:H1 dx=none)(hd:upd (upd H1 dx (.own x)) x (.ins c dx []) d=none)(k:∀a u,a≠x->upd (upd H1 dx (.own x)) x (.ins c dx []) a=some u->H' a=some u):Same H1 H'/\H1 d=none:=by
 refine⟨fun a u e=>k a u (fun z=>by rw[z,hx] at e;cases e) ?_,?_⟩
 ·rw[q0c (fun z=>by rw[z,hx] at e;cases e),q0c (fun z=>by rw[z,hdx] at e;cases e)];exact e
 ·have h1:d≠x:=fun z=>by rw[z,q0b] at hd;cases hd
  rw[q0c h1] at hd;have h2:d≠dx:=fun z=>by rw[z,q0b] at hd;cases hd
  rw[q0c h2] at hd;exact hd
theorem x3n{c x dx L:Addr}{H1:Hp}{zs:List Zr}(h:RL H1 L zs)(hx:H1 x=none)(hdx:H1 dx=none):RL (upd (upd H1 dx (.own x)) x (.ins c dx [])) L zs:=h.same fun a u e=>by
 rw[q0c (fun z=>by rw[z,hx] at e;cases e),q0c (fun z=>by rw[z,hdx] at e;cases e)];exact e
theorem z7u{c a b h d:Addr}{bl:Bool}{rows:List Rw}{H H':Hp}(x:HallAt c H h d bl rows)(F:FeedAt H a b)(fd:Fd a b H H'):HallAt c H' h d bl rows:=by
 obtain⟨i,j,q⟩:=F.fa;exact⟨x.i.imp fun dx e=>fd.at e fun z=>by(rw[z,q] at e;cases e),fd.at x.d fun z=>by have e:=x.d;rw[z,q] at e;cases e⟩
theorem x3o{a b m:Addr}{rs:List HRow}{H H':Hp}(x:H m=some (dR rs))(F:FeedAt H a b)(fd:Fd a b H H'):H' m=some (dR rs):=by
 obtain⟨i,j,q⟩:=F.fa;exact fd.at x fun z=>by rw[z,q] at x;cases x
structure CallsAs (P:Program) (w:World) (K:Ak) (mg:Str->Option Value) (base:Heap) (c:Addr):Prop where
 meetings:Cal P w K mg base "meetings" 7 ["hall", "wishes"] (spMeet c)
theorem x3p{bl:Bool}{f:Pth->Pth}{ps:List Pth}{n:Nat}(nd:(ps.map fun p=>fold bl (f p)).Nodup):accT bl f ps n=[]:=by
 refine Id.mpr fun t h=>?_;obtain⟨i,_,h⟩:=List.mem_flatMap.mp h;unfold rowT at h;cases e:ps[i]? with
 |none=>rw[e] at h;cases h
 |some p =>
  rw[e] at h;obtain⟨q,hq,rfl⟩:=Ac.mp h;obtain⟨h1,h2⟩:=Cp.mp hq;obtain⟨j,hj⟩:=Ba.mp h1;rw[Nl] at hj;have a1:(ps.map fun p=>fold bl (f p))[i]?=some (fold bl (f p)):=by rw[Ae,e];rfl
  have a2:(ps.map fun p=>fold bl (f p))[i+1+j]?=some (fold bl (f q)):=by rw[Ae,hj];rfl
  rw[<- of_decide_eq_true h2] at a2;have:=(Io (Aj.mp a1).1 nd).mp (a1.trans a2.symm);lia
def Apart(bl:Bool)(rows:List Rw)(f:Pth->Pth):Prop:=((rows.map (·.1)).map fun p=>fold bl (f p)).Nodup
def spAsk(c:Addr):Sp:=fun vs H Q _=>∃h d L bl rows zs,vs=[.ref h,.ref L]/\HallAt c H h d bl rows/\Hl bl rows/\rows.length<=30/\ML H L zs/\GoodW rows (zs.map (·.2))/\zs.length<=60/\Apart bl rows (plc (zs.map (·.2))) /\
 ∀H',Same H H'->Q (.bl true) H'
abbrev q3k:Stmt:=top 20
theorem sc_ask_wishes:FnScope ["hall", "wishes", "met", "one", "other", "place"] ["hall", "wishes"] (defScope q3k):=⟨rfl,rfl,rfl,by decide +kernel,rfl,by decide +kernel,by decide +kernel⟩
theorem q9m{c:Addr}(D:Df K mg "ask_wishes" q3k ["hall", "wishes"])(T:Txt mg)(C:CallsAs P w K mg base c):Cal P w K mg base "ask_wishes" 8 ["hall", "wishes"] (spAsk c):=by
 refine D.cal sc_ask_wishes (fun vs H Q E h=>?_) (fun f cdv A outer s H vs Q E hr h=>?_)
 ·obtain⟨h,d,L,bl,rows,zs,rfl,_⟩:=h;rfl
 ·obtain⟨h,d,L,bl,rows,zs,rfl,hh,hl,h30,ml,gw,few,ap,k⟩:=h;refine⟨_,(q0d (q0j (i:=2) sc_ask_wishes.nd rfl (by first|exact Or.inl rfl|exact Or.inr rfl) (pe_c C.meetings hr (q0a (pv 0) (q0a (pv 1) q0e)))) (q0d (q1e (q0k (ne_k K rfl hr) (pv 2) (q1t q0e) (nomark _)) (q0d (q7l (q1m (ix_k K rfl) (pv 2) q0g (fun _ _=>rfl)) (@q2t _ _ _ _ (3) _ K rfl rfl (q0o (q0h (i:=3) sc_ask_wishes.nd rfl (by first|exact Or.inl rfl|exact Or.inr rfl)) (q0o (q0h (i:=4) sc_ask_wishes.nd rfl (by first|exact Or.inl rfl|exact Or.inr rfl)) (q0o (q0h (i:=5) sc_ask_wishes.nd rfl (by first|exact Or.inl rfl|exact Or.inr rfl)) q1v))) (by rfl) (by rfl))) (q0f q5y)) q0n) (q0f (q0l q4e)))),?_⟩;refine⟨_,rfl,_,rfl,h,d,L,bl,rows,zs,rfl,hh,hl,h30,ml,gw,few,fun G ts ps H1 hG s1 tl pm pw ets=>?_⟩;have no:ts=[]:=by
   have:ts.map (·.2)=[]:=by
    rw[ets];exact x3p ((pm.map _).nodup_iff.mpr ap)
   exact Rt.mp this
  subst no;refine⟨_,rfl,by show 0<=sizeLine;decide,fun E1 hE1=>?_⟩;have s2:=(Same.refl H1).new (o:=.lst []) hE1;refine z3j (zs:=[]) (s2 _ _ tl.at_) (fun _ h=>nomatch h) q0b (fun _ h=>nomatch h) ⟨_,rfl,iteF ?_⟩;exact k _ (s1.trans s2)
def thenP(f:Pth->Pth):Nat->Pth->Pth
 |0,_=>[]
 |n+1,p=>if p=[] then[] else thenP f n (f p).dropLast++[(f p).getLastD []]
def M6(rows:List Rw)(k:Nat)(p:Pth):Prop:=p=[]\/((p,none)∈rows/\p.length<=k)\/(p∈rows.map (·.1)/\6<=k)
theorem M6.zero{bl:Bool}{rows:List Rw}{p:Pth}(hl:Hl bl rows)(h:M6 rows 0 p):p=[]:=by
 rcases h with h|⟨h,l⟩|⟨_,h⟩
 ·exact h
 ·exact Hy.mp (by lia)
 ·lia
theorem M6.in_{rows:List Rw}{k:Nat}{p:Pth}(h:M6 rows k p)(hp:p≠[]):p∈rows.map (·.1):=by
 rcases h with h|⟨h,_⟩|⟨h,_⟩
 ·exact absurd h hp
 ·exact Ac.mpr ⟨_,h,rfl⟩
 ·exact h
theorem q1d{bl:Bool}{rows:List Rw}{ms:List Mv}{p:Pth}(hl:Hl bl rows)(gw:GoodW rows ms)(hp:p∈rows.map (·.1)):IsD rows (plc ms p).dropLast/\((p,none)∈rows->(plc ms p).dropLast=p.dropLast):=by
 by_cases h:p∈ms.map (·.1)
 ·obtain⟨m,hm,rfl⟩:=Ac.mp h;rw[q8k gw.nd hm];have W:=gw.all m hm;refine⟨W.dr,fun hn=>?_⟩;obtain⟨kk,hk,hor⟩:=W.th;exact hor.resolve_right fun z=>z (hl.one hk hn)
 ·rw[q5b h];obtain⟨r,hr,rfl⟩:=Ac.mp hp;exact⟨hl.dr r hr,fun _=>rfl⟩
theorem M6.step{bl:Bool}{rows:List Rw}{ms:List Mv}{k:Nat}{p:Pth}(hl:Hl bl rows)(gw:GoodW rows ms)(h:M6 rows (k+1) p)(hp:p≠[]):M6 rows k (plc ms p).dropLast:=by
 have hin:=h.in_ hp;obtain⟨d1,d2⟩:=q1d hl gw hin;rcases h with h|⟨h,l⟩|⟨_,l⟩
 ·exact absurd h hp
 ·rw[d2 h] at d1 ⊢;rcases d1 with d1|d1
  ·exact .inl d1
  ·exact .inr (.inl ⟨d1,by rw[Bq];lia⟩)
 ·have ok:=q1o hl gw hin;have f6:(plc ms p).length<=6:=ok.few;rcases d1 with d1|d1
  ·exact .inl d1
  ·exact .inr (.inl ⟨d1,by rw[Bq];lia⟩)
theorem q6z{bl:Bool}{rows:List Rw}{ms:List Mv}(hl:Hl bl rows)(gw:GoodW rows ms):∀{k:Nat} {p:Pth},M6 rows k p->Low (thenP (plc ms) (k+1) p)/\(thenP (plc ms) (k+1) p).length<=k+1
 |0,p,h=>by
  have e:=h.zero hl;subst e;exact⟨(fun _ h=>nomatch h),Bl _⟩
 |k+1,p,h=>by
  unfold thenP;by_cases e:p=[]
  ·rw[if_pos e];exact⟨(fun _ h=>nomatch h),Bl _⟩
  ·rw[if_neg e];obtain⟨h1,h2⟩:=q6z hl gw (h.step hl gw e);refine⟨fun n hn=>?_,by rw[Al];exact Nat.add_le_add_right h2 1⟩;rcases Am.mp hn with hn|hn
   ·exact h1 n hn
   ·rw[Ai.mp hn];exact(q2q (q1o hl gw (h.in_ e))).low
theorem q5c{bl:Bool}{rows:List Rw}{ms:List Mv}(hl:Hl bl rows)(gw:GoodW rows ms)(ap:Apart bl rows (plc ms)):∀{k:Nat} {p q:Pth},M6 rows k p->M6 rows k q->thenP (plc ms) (k+1) p=thenP (plc ms) (k+1) q->p=q
 |0,p,q,h,g,_=>by rw[h.zero hl,g.zero hl]
 |k+1,p,q,h,g,e=>by
  unfold thenP at e;by_cases hp:p=[]
  ·by_cases hq:q=[]
   ·rw[hp,hq]
   ·rw[if_pos hp,if_neg hq] at e;simp at e
  ·by_cases hq:q=[]
   ·rw[if_neg hp,if_pos hq] at e;simp at e
   ·rw[if_neg hp,if_neg hq] at e;obtain⟨e1,e2⟩:=List.append_inj' e rfl;have e3:=q5c hl gw ap (h.step hl gw hp) (g.step hl gw hq) e1;have ip:=h.in_ hp;have iq:=g.in_ hq;have e4:plc ms p=plc ms q:=by
     have o1:=(q1o hl gw ip).ne;have o2:=(q1o hl gw iq).ne;rw[<- Gh o1,<- Gh o2,e3];congr 1;rw[En,En,Bh o1,Bh o2] at e2;exact e2
    have ap':((rows.map (·.1)).map fun p=>fold bl (plc ms p)).Nodup:=ap;exact q0t ap' ip iq (by show fold bl (plc ms p)=fold bl (plc ms q);rw[e4])
structure AllP (H:Hp) (D:Addr) (ps:List (Addr×Mv)) (rows:List Rw) (ms:List Mv):Prop where
 rd:Rd H D (dR (ps.map fun x=>(x.2.1,.ref x.1)))
 pr:∀x∈ps,H x.1=some (.tup (vP x.2.2))
 pm:(ps.map (·.2)).Perm (rows.map fun r=>(r.1,plc ms r.1))
theorem AllP.of{H:Hp}{D:Addr}{ps:List (Addr×Mv)}{rows:List Rw}{ms:List Mv}(x:PDt H D ps)(p:(ps.map (·.2)).Perm (rows.map fun r=>(r.1,plc ms r.1))):AllP H D ps rows ms:=⟨.inl x.at_,x.pr,p⟩
theorem AllP.same{H H':Hp}{D:Addr}{ps:List (Addr×Mv)}{rows:List Rw}{ms:List Mv}(x:AllP H D ps rows ms)(s:Same H H'):AllP H' D ps rows ms:=⟨x.rd.imp (fun h=>s _ _ h) (fun⟨o,h⟩=>⟨o,s _ _ h⟩),fun y hy=>s _ _ (x.pr y hy),x.pm⟩
theorem AllP.get{H:Hp}{D b:Addr}{ps:List (Addr×Mv)}{rows:List Rw}{ms:List Mv}{bl:Bool}{p:Pth}(x:AllP H D ps rows ms)(hl:Hl bl rows)(hp:p∈rows.map (·.1))(hb:H b=some (.tup (vP p))):∃e,DGet H D (.ref b) (some (.ref e))/\H e=some (.tup (vP (plc ms p))):=by
 have e1:((rows.map fun r=>(r.1,plc ms r.1)):List Mv).map (·.1)=rows.map (·.1):=by rw[Ap];rfl
 have p1:((ps.map (·.2)).map (·.1)).Perm (rows.map (·.1)):=by rw[<- e1];exact x.pm.map _
 have nd:((ps.map (·.2)).map (·.1)).Nodup:=p1.nodup_iff.mpr hl.paths;have em:(ps.map (·.2)).map (·.1)=ps.map (·.2.1):=by rw[Ap];rfl
 have hin:p∈ps.map (·.2.1):=by rw[<- em];exact p1.mem_iff.mpr hp
 obtain⟨y,hy,ey⟩:=Ac.mp hin;refine⟨y.1,?_,?_⟩
 ·have e:=q5a (rs:=ps.map fun x=>((x.2.1,.ref x.1):HRow)) (r:=(y.2.1,.ref y.1)) (Ac.mpr ⟨y,hy,rfl⟩) (by rw[Ap];rw[em] at nd;exact nd);rw[<- e];exact .inr ⟨_,kP y.2.1,b,x.rd,rfl,by rw[q1x,ey];exact hb,rfl⟩
 ·have hm:y.2∈rows.map fun r=>(r.1,plc ms r.1):=x.pm.mem_iff.mp (Ac.mpr ⟨y,hy,rfl⟩);obtain⟨r,_,e⟩:=Ac.mp hm;have hy2:=x.pr y hy;rw[<- e] at hy2;have e3:r.1=p:=by rw[<- ey,<- e]
  rw[<- e3];exact hy2
end
end K
set_option maxHeartbeats 4000000
namespace K
open PySem L2 TX SB HM
section
variable{P:Program}{w:World}{K:Ak}{mg:Str->Option Value}{base:Heap}
structure DL (rows:List Rw) (H:Hp) (L:Addr) (ds:List (Addr×Pth)):Prop where
 at_:H L=some (.lst (ds.map fun z=>V.ref z.1))
 pr:∀z∈ds,H z.1=some (.tup (vP z.2))/\IsD rows z.2/\z.2.length<6
theorem DL.same{rows:List Rw}{H H':Hp}{L:Addr}{ds:List (Addr×Pth)}(h:DL rows H L ds)(s:Same H H'):DL rows H' L ds:=⟨s _ _ h.at_,fun z hz=>⟨s _ _ (h.pr z hz).1,(h.pr z hz).2⟩⟩
theorem DL.fd{rows:List Rw}{a b L:Addr}{H H':Hp}{ds:List (Addr×Pth)}(h:DL rows H L ds)(F:FeedAt H a b)(fd:Fd a b H H')(hL:L≠a):DL rows H' L ds:=⟨fd.at h.at_ hL,fun z hz=>⟨tupFd F fd _ _ (h.pr z hz).1,(h.pr z hz).2⟩⟩
theorem x0k{bl:Bool}{p q:Pth}(hp:p≠[])(hq:q≠[])(h:keyO bl p=keyO bl q):fold bl p=fold bl q:=by
 unfold keyO at h;have h1:=q8j (Ti h).1;have h2:=SB.mk_inj (Sum.inr.inj (Ti h).2);refine(q5j hp hq).mpr ⟨h1,?_⟩;cases bl with
 |true=>exact h2
 |false=>exact h2
structure CallsFP (P:Program) (w:World) (K:Ak) (mg:Str->Option Value) (base:Heap):Prop where
 draw:Cal P w K mg base "_law_draw" 1 ["_law_feed", "_law_many"] spDraw
 a_name:Cal P w K mg base "_law_a_name" 3 ["_law_feed"] spName
 fold:Cal P w K mg base "_law_fold" 1 ["_law_name", "_law_blind"] spFold
def spFree(P:Program)(w:World):Sp:=fun vs H Q _=>∃a b m p t bl rows q k0 ks,vs=[.ref a,.ref m,.ref p,.ref t,.bl bl]/\FeedAt H a b/\H m=some (dR (rows.map rR))/\Hl bl rows/\rows.length<=30/\H p=some (.tup (vP q))/\(q,k0)∈rows/\DPr P w H t ks/\t≠a/\ks.length<=100 /\
 (∀H',Fd a b H H'->Q .non H') /\
 ∀e place kb H1 H',Fd a b H H1->hasP ks (keyO bl place)=false->PrK H1 (keyO bl place) kb->okP place->IsD rows place.dropLast->(place.dropLast=q.dropLast\/k0≠none)->Same (upd H1 t (PdO P w t (ks++[(keyO bl place,kb)]))) H'->H' e=some (.tup (vP place))->Q (.ref e) H'
abbrev q3l:Stmt:=top 43
theorem sc_free_place:FnScope ["_law_feed", "_law_marks", "_law_path", "_law_taken", "_law_blind", "_law_drawer", "_law_drawers", "_law_k", "_law_name"] ["_law_feed", "_law_marks", "_law_path", "_law_taken", "_law_blind"] (defScope q3l):=⟨rfl,rfl,rfl,by decide +kernel,rfl,by decide +kernel,by decide +kernel⟩
theorem x3q(D:Df K mg "_law_free_place" q3l ["_law_feed", "_law_marks", "_law_path", "_law_taken", "_law_blind"])(T:Txt mg)(C:CallsFP P w K mg base):Cal P w K mg base "_law_free_place" 4 ["_law_feed", "_law_marks", "_law_path", "_law_taken", "_law_blind"] (spFree P w):=by
 refine D.cal sc_free_place (fun vs H Q E h=>?_) (fun f cdv A outer s H vs Q E hr h=>?_)
 ·obtain⟨a,b,m,p,t,bl,rows,q,k0,ks,rfl,_⟩:=h;rfl
 ·obtain⟨a,b,m,p,t,bl,rows,q,k0,ks,rfl,F,hm,hl,h30,hp,hq,dp0,hta,ksl,kN,kS⟩:=h;refine⟨_,(q0d (q0j (i:=5) sc_free_place.nd rfl (by first|exact Or.inl rfl|exact Or.inr rfl) (q0p (sl_k K rfl) (pv 2) q0q (q0r (q1l q0s q0g)))) (q0d (q0j (i:=6) sc_free_place.nd rfl (by first|exact Or.inl rfl|exact Or.inr rfl) (q1j q1q (q1t (q0a (q1g q0e) q0e)) (q3c ["_law_one"] [("_law_marks",1)] rfl (@q3a _ _ _ _ K rfl (q0m (q4b hr) (by rfl) T.b_sorted (by decide +kernel) (q0a (pv 1) q0e))) (fun _ _ _ _ _=>(q0h (i:=0) (show(["_law_one", "_law_marks"]:List Str).Nodup by decide +kernel) rfl (by first|exact Or.inl rfl|exact Or.inr rfl))) (fun _ _ _ _ _=>(q3p (pt_j (@PW.pt _ _ _ (q2s (q2a (q5s (q0w (q1c hr) (pv 1) (pv 0) (fun _ _=>rfl)))) (q1u (q0k z8r (q0m (q4f K rfl) (by rfl) T.b_len Ck (q0a (pv 0) q0e)) q0g (nomark _)))))))) (fun _ _ _ _ _=>(pv 0))))) (q3b (q1e (pt_j (@PW.pt _ _ _ (q2s (q2a (q6e (q0w (q1c hr) (pv 1) (pv 2) (fun _ _=>rfl)))) (q1u (q0k (eq_k K rfl hr) (pe_c C.draw hr (q0a (pv 0) (q0a q0g q0e))) q0g (nomark _)))))) (q0f (q0j (i:=5) sc_free_place.nd rfl (by first|exact Or.inl rfl|exact Or.inr rfl) (q1m (ix_k K rfl) (pv 6) (pe_c C.draw hr (q0a (pv 0) (q0a (q0m (q4f K rfl) (by rfl) T.b_len Ck (q0a (pv 6) q0e)) q0e))) (fun _ _=>rfl)))) q0n) (q0d (q1f Bi rfl (q3o rfl T.b_range (q0a q0g q0e)) (q0h (i:=7) sc_free_place.nd rfl (by first|exact Or.inl rfl|exact Or.inr rfl)) (q0d (q0j (i:=8) sc_free_place.nd rfl (by first|exact Or.inl rfl|exact Or.inr rfl) (pe_c C.a_name hr (q0a (pv 0) q0e))) (q0f (q1e (q2a (z0z P w rfl rfl (z1a hr) (q1g (q0a (pv 5) (q0a (pe_c C.fold hr (q0a (pv 8) (q0a (pv 4) q0e))) q0e))) (pv 3))) (q0d (z2d P w rfl rfl (z1a hr) (pv 3) (q1g (q0a (pv 5) (q0a (pe_c C.fold hr (q0a (pv 8) (q0a (pv 4) q0e))) q0e))) q4e rfl) (q0f (q0l (q1j q3e (pv 5) (q1g (q0a (pv 8) q0e)))))) q0n)))) (q0f (q0l q5q)))))),?_⟩;have oks:=hl.ok;have okq:=oks _ hq;obtain⟨c1,c2⟩:=q1a okq.ne;refine⟨_,rfl,_,rfl,_,rfl,.inr (.inr ⟨p,_,rfl,SqT.of hp,c2,fun t1 ht1=>?_⟩)⟩;rw[c1];have s1:=(Same.refl H).new (o:=.tup (vP q.dropLast)) ht1;have ht1':upd H t1 (.tup (vP q.dropLast)) t1=some (.tup (vP q.dropLast)):=q0b;generalize upd H t1 (.tup (vP q.dropLast))=H1 at s1 ht1';refine⟨by show 0<=sizeLine;decide,fun p0 hp0=>⟨by show 1<=sizeLine;decide,fun D1 hD1=>?_⟩⟩;have s2:=((Same.refl H1).new (o:=.tup []) hp0).new (o:=.lst [.ref p0]) hD1;have n01:p0≠D1:=fun z=>by rw[<- z,q0b] at hD1;cases hD1
  have hp2:upd (upd H1 p0 (.tup [])) D1 (.lst [.ref p0]) p0=some (.tup (vP [])):=by rw[q0c n01];exact q0b
  have hD2:upd (upd H1 p0 (.tup [])) D1 (.lst [.ref p0]) D1=some (.lst [.ref p0]):=q0b;generalize upd (upd H1 p0 (.tup [])) D1 (.lst [.ref p0])=H2 at s2 hp2 hD2;have s12:=s1.trans s2;have hm2:=s12 _ _ hm;refine⟨_,rfl,m,_,rfl,hm2,by rw[Ab];lia,fun r hr=>?_,fun L3 bs ps hL3 hp3 hs3 pts=>?_⟩
  ·obtain⟨y,hy,rfl⟩:=Ac.mp hr;exact(oks y hy).ne
  obtain⟨ys,y1,y2,y3⟩:=x0j pts;have hkey:(rows.map rR).map (·.1)=rows.map (·.1):=by rw[Ap];rfl
  rw[hkey] at hp3;rw[y1];have s4:=(Same.refl H2).new (o:=.lst (ys.map fun z=>V.ref z.1)) hL3;have yin:∀y∈ys,∃k,(y.2,k)∈rows:=fun y hy=>by
   have hy2:y.2∈ps:=by rw[<- y2];exact Ac.mpr ⟨y,hy,rfl⟩
   obtain⟨r,hr,e⟩:=Ac.mp (hp3.mem_iff.mp hy2);exact⟨r.2,by rw[<- e];exact hr⟩
  have ylen:ys.length<=30:=by
   have e1:=congrArg List.length y2;have e2:=hp3.length_eq;rw[Ab] at e1 e2;lia
  have hL4:upd H2 L3 (.lst (ys.map fun z=>V.ref z.1)) L3=some (.lst (ys.map fun z=>V.ref z.1)):=q0b;have hy4:∀y∈ys,upd H2 L3 (.lst (ys.map fun z=>V.ref z.1)) y.1=some (.tup (vP y.2)):=fun y hy=>s4 _ _ (y3 y hy);generalize upd H2 L3 (.lst (ys.map fun z=>V.ref z.1))=H4 at s4 hL4 hy4;clear y3 pts y1 hp3 hs3;have hm4:=s4 _ _ hm2;refine .inl ⟨L3,rfl,⟨_,SqL.of hL4⟩,fun Dc hDc=>?_⟩;refine q2m (fun i vs H'=>∃ds:List (Addr×Pth),vs=ds.map (fun z=>V.ref z.1)/\Same H4 H'/\H' Dc=some (.lst vs)/\ds.length<=i/\i<=ys.length/\∀z∈ds,H' z.1=some (.tup (vP z.2))/\IsD rows z.2/\z.2.length<6) ⟨[],rfl,(Same.refl H4).new hDc,q0b,Aq _,Bl _,(fun _ h=>nomatch h)⟩ (fun i vs H' h=>by obtain⟨ds,_,s',h',_⟩:=h;exact⟨h',SqL.of (s' _ _ hL4)⟩) ?_ ?_
  ·rintro i vs H5 v hv ⟨ds,rfl,s5,hHD,hle,_,hds⟩;obtain⟨y,hy,rfl⟩:∃y,ys[i]?=some y/\v=.ref y.1:=by
    rw[Ae] at hv;cases e:ys[i]? with
    |none=>rw[e] at hv;cases hv
    |some y=>rw[e] at hv;cases hv;exact⟨y,rfl,rfl⟩
   have hi:i<ys.length:=(Aj.mp hy).1;have hym:=Ag hy;obtain⟨mk0,hyr⟩:=yin y hym;have hy5:=s5 _ _ (hy4 y hym);refine⟨q0u,fun bb H6=>H6=H5/\(bb=true->mk0=none/\y.2.length<6),?_,?_⟩
   ·rintro bb H6 ⟨rfl,hb⟩;refine ite2 (fun hb1=>?_) (fun hb1=>⟨ds,rfl,s5,hHD,Fa hle,hi,hds⟩);obtain⟨hn,h6⟩:=hb hb1;have nt:∀{x:Addr} {xs:List V},H6 x=some (.tup xs)->upd H6 Dc (.lst (ds.map (fun z=>V.ref z.1)++[.ref y.1])) x=some (.tup xs):=fun{x xs} e=>by rw[q0c (fun y=>by rw[y,hHD] at e;cases e)];exact e
    refine⟨_,rfl,hHD,small' (by rw[Ab];lia),ds++[(y.1,y.2)],by rw[Af];rfl,s5.put hDc,q0b,by rw[Al];exact Hm hle,hi,fun x hx=>?_⟩;rcases Am.mp hx with hx|hx
    ·exact⟨nt (hds x hx).1,(hds x hx).2⟩
    ·rw[Ai.mp hx];exact⟨nt hy5,.inr (by rw[<- hn];exact hyr),h6⟩
   ·refine⟨_,rfl,_,rfl,m,mV mk0,rfl,?_,_,rfl,?_⟩
    ·rw[<- q3h hl.paths hyr];exact q3u (s5 _ _ hm4) hy5
    refine iteB (fun hb=>?_) (fun hb=>⟨rfl,(fun z=>by cases z)⟩);refine⟨_,rfl,_,_,rfl,.inr ⟨_,SqT.of hy5,rfl⟩,_,_,rfl,rfl,_,rfl,rfl,fun e6=>⟨mV_none.mp (of_decide_eq_true hb),?_⟩⟩;have e7:=of_decide_eq_true e6;rw[q0z] at e7;have e8:(y.2.length:Int)<6:=e7;lia
  rintro vs H5 ⟨ds,rfl,s5,hHD,hle,_,hds⟩;have hle':ds.length<=30:=by rw[Ab] at hle;lia
  refine .inr (.inr ⟨D1,Dc,_,_,rfl,rfl,s5 _ _ (s4 _ _ hD2),hHD,small (by rw[Ab];show 1+_<=_;lia),fun Dr hDr=>?_⟩);have s6:=(Same.refl H5).new (o:=.lst ([V.ref p0]++ds.map fun z=>V.ref z.1)) hDr;have dl6:DL rows (upd H5 Dr (.lst ([V.ref p0]++ds.map fun z=>V.ref z.1))) Dr ((p0,[])::ds):=⟨q0b,fun z hz=>by
   rcases Ay.mp hz with rfl|hz
   ·exact⟨s6 _ _ (s5 _ _ (s4 _ _ hp2)),.inl rfl,by show 0<6;decide⟩
   ·exact⟨s6 _ _ (hds z hz).1,(hds z hz).2⟩⟩
  have s26:=(s4.trans s5).trans s6;have s06:=s12.trans s26;have hDrH:H Dr=none:=((s12.trans s4).trans s5).free hDr;have hDra:Dr≠a:=(F.na hDrH).symm;have ht6:=s26 _ _ (s2 _ _ ht1');generalize hH4:upd H5 Dr (.lst ([V.ref p0]++ds.map fun z=>V.ref z.1))=H6 at s6 dl6 s26 s06 ht6;generalize hdd:(p0,([]:Pth))::ds=dd at dl6;have hdl:dd.length<=31:=by rw[<- hdd,By];lia
  have hdn:0<dd.length:=by rw[<- hdd,By];lia
  have fd6:=(Fd.refl F).same s06;have hdz:IsD rows q.dropLast:=hl.dr _ hq;have h6:q.dropLast.length<6:=by rw[Bq];have f6:q.length<=6:=okq.few;have p6:0<q.length:=Bu.mpr okq.ne;lia
  clear hds hHD hp2 hD2 s2 s4 s5 hy4 hL4 hm4 hm2 s12 yin ylen y2 hL3 hDc hD1 hp0 n01 hle hle' s26 hH4 s6 hdd hDr;refine⟨fun σ' H3=>∃dA dp x7 x8,σ'=[some (.ref a),some (.ref m),some (.ref p),some (.ref t),some (.bl bl),some (.ref dA),some (.ref Dr),x7,x8]/\Fd a b H H3/\H3 dA=some (.tup (vP dp))/\IsD rows dp/\dp.length<6/\(dp=q.dropLast\/k0≠none),?_,?_⟩;rotate_left
  ·refine⟨fun bb H3=>Fd a b H6 H3/\(bb=true->k0≠none),?_,?_⟩
   ·rintro bb H3 ⟨fd,hb⟩;refine ite2 (fun e=>?_) (fun e=>⟨t1,q.dropLast,_,_,rfl,fd6.trans fd,tupFd fd6.feed fd _ _ ht6,hdz,h6,.inl rfl⟩);have dl3:=dl6.fd fd6.feed fd hDra;refine⟨_,rfl,_,rfl,_,rfl,_,_,rfl,.inl ⟨_,SqL.of dl3.at_,rfl⟩,a,b,_,rfl,fd.feed,by rw[Ab];lia,by rw[Ab];lia,fun r1 H4 r10 r11 fd4=>?_⟩;rw[Ab] at r11;have dl4:=dl3.fd fd.feed fd4 hDra;obtain⟨v,hv1,hv2⟩:=q7r (xs:=dd.map fun z=>V.ref z.1) r10 (by rw[Ab];exact r11);obtain⟨y,hy,rfl⟩:∃y∈dd,v=V.ref y.1:=by
     rw[Ae] at hv1;cases e:dd[r1.toNat]? with
     |none=>rw[e] at hv1;cases hv1
     |some z=>rw[e] at hv1;cases hv1;exact⟨z,Ag e,rfl⟩
    refine .inl ⟨Dr,_,r1,_,rfl,rfl,SqL.of dl4.at_,hv2,?_⟩;obtain⟨y1,y2,y3⟩:=dl4.pr y hy;exact⟨y.1,y.2,_,_,rfl,(fd6.trans fd).trans fd4,y1,y2,y3,.inr (hb e)⟩
   ·refine⟨_,rfl,_,rfl,m,mV k0,rfl,?_,_,rfl,?_⟩
    ·rw[<- q3h hl.paths hq];exact q3u (s06 _ _ hm) (s06 _ _ hp)
    refine iteB (fun e=>?_) (fun e=>⟨Fd.refl fd6.feed,(fun z=>by cases z)⟩);have hn:k0≠none:=fun y=>by rw[y] at e;cases e
    exact⟨_,rfl,a,b,_,rfl,fd6.feed,by decide,by decide,fun r1 H3 _ _ fd3=>.inl ⟨rfl,_,rfl,fd3,fun _=>hn⟩⟩
  rintro σ' H3 ⟨dA,dp,x7,x8,rfl,fd3,hd3,hdp,h6p,hor⟩;have okdp:∀n∈dp,okN n:=fun n hn=>by
   rcases hdp with e|e
   ·rw[e] at hn;cases hn
   ·exact(oks _ e).all n hn
  refine⟨4,rfl,by decide,by decide,q4r (n:=4) (fun i σ' H'=>∃x7 x8,σ'=[some (.ref a),some (.ref m),some (.ref p),some (.ref t),some (.bl bl),some (.ref dA),some (.ref Dr),x7,x8]/\Fd a b H H'/\H' dA=some (.tup (vP dp))) ⟨_,_,rfl,fd3,hd3⟩ ?_ ?_⟩
  ·rintro i σ' H4 hi ⟨x7,x8,rfl,fd4,hd4⟩;refine⟨_,rfl,a,b,rfl,fd4.feed,fun n H5 okn fd5=>?_⟩;have fd5':=fd4.trans fd5;have hd5:=tupFd fd4.feed fd5 _ _ hd4;have dp5:=DPr.fd dp0 F fd5' hta;have hk2:keyO bl (dp++[n])=(kP dp,.inr (mk (if bl then lowN n else n))):=by
    unfold keyO;rw[Cf,Ee]
   have pk:∀{H9:Hp} {p:Addr},H9 dA=some (.tup (vP dp))->H9 p=some (.tup [.ref dA,.str (mk (if bl then lowN n else n))])->PrK H9 (keyO bl (dp++[n])) p:=fun{H9 p} e1 e2=>by
    rw[hk2];exact⟨dA,e2,by rw[q1x];exact e1⟩
   refine⟨_,rfl,_,rfl,_,rfl,n,bl,rfl,okn,by show 2<=sizeLine;decide,fun p2 hp2=>?_⟩;have s9:=(Same.refl H5).new (o:=.tup [.ref dA,.str (mk (if bl then lowN n else n))]) hp2;refine⟨_,rfl,t,ks,p2,keyO bl (dp++[n]),rfl,rfl,dp5.same s9,pk (s9 _ _ hd5) q0b,_,rfl,?_⟩;have hd9:=s9 _ _ hd5;have dp9:=dp5.same s9;have fd9:=fd5'.same s9;generalize upd H5 p2 (.tup [.ref dA,.str (mk (if bl then lowN n else n))])=H9 at s9 hd9 dp9 fd9;refine ite2 (fun hb=>?_) (fun hb=>⟨_,_,rfl,fd9,hd9⟩);have hno:hasP ks (keyO bl (dp++[n]))=false:=by simpa using hb
   refine⟨_,rfl,_,rfl,_,rfl,_,rfl,n,bl,rfl,okn,by show 2<=sizeLine;decide,fun p3 hp3=>?_⟩;have sA:=(Same.refl H9).new (o:=.tup [.ref dA,.str (mk (if bl then lowN n else n))]) hp3;have pkA:=pk (sA _ _ hd9) (p:=p3) q0b;have hdA:=sA _ _ hd9;have dpA:=dp9.same sA;have fdA:=fd9.same sA;generalize upd H9 p3 (.tup [.ref dA,.str (mk (if bl then lowN n else n))])=HA at sA pkA hdA dpA fdA;refine⟨t,ks,p3,keyO bl (dp++[n]),rfl,rfl,rfl,dpA,pkA,hno,small' (by lia),?_⟩;have hdB:upd HA t (PdO P w t (ks++[(keyO bl (dp++[n]),p3)])) dA=some (.tup (vP dp)):=by
    rw[q0c (fun z=>by rw[z,dpA.at_] at hdA;cases hdA)];exact hdA
   refine⟨_,rfl,_,rfl,by show 1<=sizeLine;decide,fun p4 hp4=>?_⟩;have sC:=(Same.refl (upd HA t (PdO P w t (ks++[(keyO bl (dp++[n]),p3)])))).new (o:=.tup [.str (mk n)]) hp4;refine⟨dA,p4,_,_,rfl,rfl,sC _ _ hdB,q0b,by rw[q0z];exact small (by show _+1<=_;lia),fun e HE sE he _=>?_⟩;refine kS e (dp++[n]) p3 HA HE fdA hno pkA ?_ (by rw[Cf];exact hdp) (by rw[Cf];exact hor) (sC.trans sE) ?_
   ·refine⟨by simp,by rw[Al];show _+1<=6;lia,fun x hx=>?_⟩;rcases Am.mp hx with hx|hx
    ·exact okdp x hx
    ·rw[Ai.mp hx];exact okn
   ·rw[he];show _=some (HO.tup ((dp++[n]).map _));rw[Af];rfl
  ·rintro σ' H4 ⟨x7,x8,rfl,fd4,hd4⟩;exact kN _ fd4
end
end K
set_option maxHeartbeats 4000000
namespace K
open PySem L2 TX SB HM
section
variable{P:Program}{w:World}{K:Ak}{mg:Str->Option Value}{base:Heap}
theorem x3r{l:List Pth}:∀{m:List Pth},l.Nodup->(∀x∈l,x∈m)->l.length<=m.length:=by
 induction l with
 |nil=>intro m _ _;exact Bl _
 |cons a l ih =>
  intro m nd h;rw[Bp] at nd;have ha:=h a At;have h1:=ih (m:=m.erase a) nd.2 fun x hx=>(Rg fun z=>nd.1 (by rw[<- z];exact hx)).mpr (h x (An _ hx));rw[Pa ha] at h1;have:=Qh ha;rw[By];lia
theorem GoodW.len{rows:List Rw}{ms:List Mv}(g:GoodW rows ms):ms.length<=rows.length:=by
 have:=x3r (m:=rows.map (·.1)) g.nd fun x hx=>by
  obtain⟨m,hm,rfl⟩:=Ac.mp hx;obtain⟨k,hk,_⟩:=(g.all m hm).th;exact Ac.mpr ⟨_,hk,rfl⟩
 rw[Ab,Ab] at this;exact this
theorem z7v{ms nw:List Mv}{p:Pth}:plc (ms++nw) p=if p∈ms.map (·.1) then plc ms p else plc nw p:=by
 induction ms with
 |nil=>simp
 |cons m ms ih =>
  show(if m.1=p then m.2 else plc (ms++nw) p)=if p∈m.1::ms.map (·.1) then(if m.1=p then m.2 else plc ms p) else plc nw p
  by_cases e:m.1=p
  ·rw[if_pos e,if_pos (by rw[e];exact At),if_pos e]
  ·rw[if_neg e,if_neg e,ih];by_cases c:p∈ms.map (·.1)
   ·rw[if_pos c,if_pos (An _ c)]
   ·rw[if_neg c,if_neg fun z=>(Ay.mp z).elim (fun y=>e y.symm) c]
structure Turn1 (bl:Bool) (rows:List Rw) (ms nw:List Mv) (zf:List Pth) (last:Pth):Prop where
 ne:zf≠[]
 nd:zf.Nodup
 un:∀z∈zf,z∈rows.map (·.1)/\z∉ms.map (·.1)
 ky:nw.map (·.1)=zf
 vl:nw.map (fun m=>(m.2.dropLast,fold bl m.2))=(zf.tail++[last]).map (fun p=>(p.dropLast,fold bl p))
 ok:∀m∈nw,okP m.2
 pl:∀(i:Nat) (one q:Pth),zf[i]?=some one->(zf.tail++[last])[i]?=some q->IsD rows q.dropLast/\∃k,(one,k)∈rows/\(q.dropLast=one.dropLast\/k≠none)
section
variable{bl:Bool}{rows:List Rw}{ms nw:List Mv}{zf:List Pth}{last:Pth}
theorem Turn1.good(t:Turn1 bl rows ms nw zf last)(gw:GoodW rows ms):GoodW rows (ms++nw):=by
 refine⟨fun m hm=>?_,?_⟩
 ·rcases Am.mp hm with hm|hm
  ·exact gw.all m hm
  ·obtain⟨i,hi⟩:=Ba.mp hm;have h1:zf[i]?=some m.1:=by rw[<- t.ky,Ae,hi];rfl
   have h2:((zf.tail++[last]).map (fun p=>(p.dropLast,fold bl p)))[i]?=some (m.2.dropLast,fold bl m.2):=by rw[<- t.vl,Ae,hi];rfl
   rw[Ae] at h2;cases e:(zf.tail++[last])[i]? with
   |none=>rw[e] at h2;cases h2
   |some q =>
    rw[e] at h2;have e1:q.dropLast=m.2.dropLast:=(Ti (Bj h2)).1;obtain⟨d,k,hk,hor⟩:=t.pl i _ _ h1 e;rw[e1] at d hor;exact⟨⟨k,hk,hor⟩,t.ok m hm,d⟩
 ·rw[Af,t.ky];exact Dj.mpr ⟨gw.nd,t.nd,fun x hx y hy z=>(t.un y hy).2 (by rw[<- z];exact hx)⟩
theorem Turn1.folds(t:Turn1 bl rows ms nw zf last):zf.map (fun p=>fold bl (plc (ms++nw) p))=(zf.tail++[last]).map (fold bl):=by
 have e1:zf.map (fun p=>fold bl (plc (ms++nw) p))=nw.map (fun m=>fold bl m.2):=by
  have e2:zf.map (fun p=>fold bl (plc (ms++nw) p))=nw.map (fun m=>fold bl (plc (ms++nw) m.1)):=by
   conv=>lhs;rw[<- t.ky]
   rw[Ap];rfl
  rw[e2];refine Cs fun m hm=>?_;have hz:m.1∈zf:=by rw[<- t.ky];exact Ac.mpr ⟨m,hm,rfl⟩
  rw[z7v,if_neg (t.un _ hz).2,q8k (by rw[t.ky];exact t.nd) hm]
 have e3:=congrArg (List.map Prod.snd) t.vl;rw[Ap,Ap] at e3;rw[e1];exact e3
theorem Turn1.out(t:Turn1 bl rows ms nw zf last){p:Pth}(h:p∉zf):plc (ms++nw) p=plc ms p:=by
 rw[z7v];by_cases c:p∈ms.map (·.1)
 ·rw[if_pos c]
 ·rw[if_neg c,q5b c,q5b (by rw[t.ky];exact h)]
theorem Turn1.self(t:Turn1 bl rows ms nw zf last){p:Pth}(h:p∈zf):plc ms p=p:=q5b (t.un p h).2
theorem Turn1.split(t:Turn1 bl rows ms nw zf last)(nd:(rows.map (·.1)).Nodup):(rows.map (·.1)).Perm (zf++(rows.map (·.1)).filter fun p=>decide (p∉zf)):=by
 refine(Jk nd ?_).mpr fun p=>?_
 ·refine Dj.mpr ⟨t.nd,nd.filter _,fun x hx y hy z=>?_⟩;have:=(Cp.mp hy).2;exact(of_decide_eq_true this) (by rw[<- z];exact hx)
 ·rw[Am,Cp];refine⟨fun h=>?_,fun h=>?_⟩
  ·by_cases c:p∈zf
   ·exact .inl c
   ·exact .inr ⟨h,decide_eq_true c⟩
  ·rcases h with h|h
   ·exact(t.un p h).1
   ·exact h.1
theorem Turn1.perm(t:Turn1 bl rows ms nw zf last)(nd:(rows.map (·.1)).Nodup):∃rest:List Pth,((rows.map (·.1)).map fun p=>fold bl (plc ms p)).Perm (zf.map (fold bl)++rest)/\((rows.map (·.1)).map fun p=>fold bl (plc (ms++nw) p)).Perm ((zf.tail++[last]).map (fold bl)++rest):=by
 have sp:=t.split nd;refine⟨((rows.map (·.1)).filter fun p=>decide (p∉zf)).map fun p=>fold bl (plc ms p),?_,?_⟩
 ·have h1:=sp.map fun p=>fold bl (plc ms p);rw[Af] at h1;have e:zf.map (fun p=>fold bl (plc ms p))=zf.map (fold bl):=Cs fun p hp=>by rw[t.self hp]
  rw[e] at h1;exact h1
 ·have h1:=sp.map fun p=>fold bl (plc (ms++nw) p);rw[Af,t.folds] at h1;have e:((rows.map (·.1)).filter fun p=>decide (p∉zf)).map (fun p=>fold bl (plc (ms++nw) p))=((rows.map (·.1)).filter fun p=>decide (p∉zf)).map (fun p=>fold bl (plc ms p)):=Cs fun p hp=>by rw[t.out (of_decide_eq_true (Cp.mp hp).2)]
  rw[e] at h1;exact h1
theorem Turn1.ring(t:Turn1 bl rows ms nw zf last)(nd:(rows.map (·.1)).Nodup)(ap:Apart bl rows (plc ms))(h:zf.head?=some last):Apart bl rows (plc (ms++nw)):=by
 obtain⟨rest,p1,p2⟩:=t.perm nd;refine p2.nodup_iff.mpr ?_;have n1:=p1.nodup_iff.mp ap;cases zf with
 |nil=>cases h
 |cons z zf =>
  cases h;have e:((zf++[last]).map (fold bl)++rest).Perm ((last::zf).map (fold bl)++rest):=by
   refine Le rest (List.Perm.map _ ?_);exact Jj _ _
  exact e.nodup_iff.mpr n1
theorem Turn1.chain(t:Turn1 bl rows ms nw zf last)(nd:(rows.map (·.1)).Nodup)(ap:Apart bl rows (plc ms))(h:∀p∈rows.map (·.1),fold bl (plc ms p)≠fold bl last):Apart bl rows (plc (ms++nw)):=by
 obtain⟨rest,p1,p2⟩:=t.perm nd;refine p2.nodup_iff.mpr ?_;have n1:=p1.nodup_iff.mp ap;have hno:fold bl last∉zf.map (fold bl)++rest:=fun z=>by
  obtain⟨p,hp,e⟩:=Ac.mp (p1.mem_iff.mpr z);exact h p hp e
 have ne:=t.ne;cases zf with
 |nil=>exact absurd rfl ne
 |cons z zf =>
  have e:((zf++[last]).map (fold bl)++rest).Perm (fold bl last::(zf.map (fold bl)++rest)):=by
   rw[Af];show((zf.map (fold bl)++[fold bl last])++rest).Perm _;exact Le rest (Jj (fold bl last) (zf.map (fold bl)))
  refine e.nodup_iff.mpr (Bp.mpr ⟨fun y=>hno (An _ y),?_⟩);exact(Bp.mp n1).2
theorem Turn1.cov{ks ks':List (PKey×Addr)}(t:Turn1 bl rows ms nw zf last)(hl:Hl bl rows)(gw:GoodW rows ms)(hk:∀{k},hasP ks k=true->hasP ks' k=true)(org:∀p∈rows.map (·.1),hasP ks (keyO bl p)=true)(cv:∀p∈rows.map (·.1),hasP ks (keyO bl (plc ms p))=true)(hn:last≠[])(hlast:hasP ks' (keyO bl last)=true):∀p∈rows.map (·.1),hasP ks' (keyO bl (plc (ms++nw) p))=true:=fun p hp=>by
 by_cases c:p∈zf
 ·have g:=t.good gw;have h1:fold bl (plc (ms++nw) p)∈(zf.tail++[last]).map (fold bl):=by
   rw[<- t.folds];exact Ac.mpr ⟨p,c,rfl⟩
  obtain⟨q,hq,e⟩:=Ac.mp h1;have ok:=(q1o hl g hp).ne;rcases Am.mp hq with hq|hq
  ·have hqz:q∈zf:=Rh hq;obtain⟨r,hr,e2⟩:=Ac.mp (t.un q hqz).1;have qne:q≠[]:=by rw[<- e2];exact(hl.ok r hr).ne
   rw[<- q9h qne ok e];exact hk (org q (t.un q hqz).1)
  ·rw[Ai.mp hq] at e;rw[<- q9h hn ok e];exact hlast
 ·rw[t.out c];exact hk (cv p hp)
end
end
end K
set_option maxHeartbeats 4000000
namespace K
open PySem L2 TX SB HM
section
variable{P:Program}{w:World}{K:Ak}{mg:Str->Option Value}{base:Heap}
theorem PDt.fd{a b:Addr}{H H':Hp}{d:Addr}{ps:List (Addr×Mv)}(x:PDt H d ps)(F:FeedAt H a b)(fd:Fd a b H H'):PDt H' d ps:=⟨x3o x.at_ F fd,fun y hy=>tupFd F fd _ _ (x.pr y hy)⟩
structure GWI (P:Program) (w:World) (H:Hp) (a b m W t:Addr) (bl:Bool) (rows:List Rw) (i:Nat) (H':Hp) (ps:List (Addr×Mv)) (ks:List (PKey×Addr)):Prop where
 fd:Fd a b H H'
 m:H' m=some (dR (rows.map rR))
 wd:PDt H' W ps
 tk:DPr P w H' t ks
 kl:ks.length<=30+i
 gw:GoodW rows (ps.map (·.2))
 ap:Apart bl rows (plc (ps.map (·.2)))
 og:∀p∈rows.map (·.1),hasP ks (keyO bl p)=true
 cv:∀p∈rows.map (·.1),hasP ks (keyO bl (plc (ps.map (·.2)) p))=true
section
variable{H:Hp}{a b m W t:Addr}{bl:Bool}{rows:List Rw}{i:Nat}{H' H2:Hp}{ps:List (Addr×Mv)}{ks:List (PKey×Addr)}
theorem GWI.go(x:GWI P w H a b m W t bl rows i H' ps ks)(fd:Fd a b H' H2)(ht:t≠a):GWI P w H a b m W t bl rows i H2 ps ks:=⟨x.fd.trans fd,x3o x.m x.fd.feed fd,x.wd.fd x.fd.feed fd,DPr.fd x.tk x.fd.feed fd ht,x.kl,x.gw,x.ap,x.og,x.cv⟩
theorem GWI.same(x:GWI P w H a b m W t bl rows i H' ps ks)(s:Same H' H2):GWI P w H a b m W t bl rows i H2 ps ks:=⟨x.fd.same s,s _ _ x.m,x.wd.same s,x.tk.same s,x.kl,x.gw,x.ap,x.og,x.cv⟩
theorem GWI.up(x:GWI P w H a b m W t bl rows i H' ps ks):GWI P w H a b m W t bl rows (i+1) H' ps ks:=⟨x.fd,x.m,x.wd,x.tk,Fa x.kl,x.gw,x.ap,x.og,x.cv⟩
end
structure SomeOk (rows:List Rw) (ms:List Mv) (l:List Pth):Prop where
 nd:l.Nodup
 un:∀z∈l,z∈rows.map (·.1)/\z∉ms.map (·.1)
 go:(∀z∈l,∃k,(z,k)∈rows/\k≠none)\/∃d,∀z∈l,z.dropLast=d
theorem SomeOk.sub{rows:List Rw}{ms:List Mv}{l l' r:List Pth}(x:SomeOk rows ms l)(p:(r++l').Perm l):SomeOk rows ms l':=by
 have hin:∀z∈l',z∈l:=fun z hz=>p.mem_iff.mp (Bk _ hz);exact⟨(Dj.mp (p.nodup_iff.mpr x.nd)).2.1,fun z hz=>x.un z (hin z hz),x.go.imp (fun h z hz=>h z (hin z hz)) (fun⟨d,h⟩=>⟨d,fun z hz=>h z (hin z hz)⟩)⟩
def GP(H:Hp)(T:Addr)(p:Pth):Prop:=H T=some (.tup (vP p))/\okP p
theorem gg_P:GG K GP:=⟨fun h k=>⟨k _ _ h.1,h.2⟩,fun h=>⟨_,q1y h.1,q2g h.2.low⟩⟩
theorem q9n{xs:List V}{v:V}(h:xs.getLast?=some v):atI xs (-1)=some v:=by
 have hne:xs≠[]:=fun z=>by rw[z] at h;cases h
 have hl:=Bu.mpr hne;unfold atI ixN;rw[if_neg (by decide),if_pos (by lia)];rw[Dq] at h;rw[<- h];have e:((-1:Int)+(xs.length:Int)).toNat=xs.length-1:=by lia
 show xs[((-1:Int)+(xs.length:Int)).toNat]?=_;rw[e]
structure LastOk (bl:Bool) (rows:List Rw) (ms:List Mv) (ks:List (PKey×Addr)) (zf:List Pth) (q:Pth):Prop where
 ok:okP q
 kq:hasP ks (keyO bl q)=true
 or:zf.head?=some q\/((∀p∈rows.map (·.1),fold bl (plc ms p)≠fold bl q)/\IsD rows q.dropLast/\∀one,zf.getLast?=some one->∃k,(one,k)∈rows/\(q.dropLast=one.dropLast\/k≠none))
theorem GWI.take{H:Hp}{a b m W t e:Addr}{bl:Bool}{rows:List Rw}{i:Nat}{H':Hp}{ps:List (Addr×Mv)}{ks:List (PKey×Addr)}{kk:PKey}(x:GWI P w H a b m W t bl rows i H' ps ks)(F:FeedAt H a b)(htH:H t=none)(hi:i<=30)(pk:PrK H' kk e):GWI P w H a b m W t bl rows (i+1) (upd H' t (PdO P w t (ks++[(kk,e)]))) ps (ks++[(kk,e)]):=by
 have nt:∀{c:Addr} {u:HO},H' c=some u->(∀f,u≠.ext f)->upd H' t (PdO P w t (ks++[(kk,e)])) c=some u:=fun{c u} e n=>by
  rw[q0c (fun z=>by rw[z,x.tk.at_] at e;cases e;exact n _ rfl)];exact e
 refine⟨x.fd.put F htH,nt x.m (fun _ z=>by cases z),⟨nt x.wd.at_ (fun _ z=>by cases z),fun y hy=>nt (x.wd.pr y hy) (fun _ z=>by cases z)⟩,x.tk.put pk (by have:=x.kl;exact small' (by lia)),by rw[Al];have:=x.kl;show _+1<=_;lia,x.gw,x.ap,fun p hp=>q6a (x.og p hp),fun p hp=>q6a (x.cv p hp)⟩
structure ZI (P:Program) (w:World) (H:Hp) (a b m W t M L7:Addr) (bl:Bool) (rows:List Rw) (zf pls:List (Addr×Pth)) (ps:List (Addr×Mv)) (ks:List (PKey×Addr)) (j:Nat) (H':Hp) (nw:List (Addr×Mv)):Prop where
 fd:Fd a b H H'
 m:H' m=some (dR (rows.map rR))
 wd:PDt H' W (ps++nw)
 tk:DPr P w H' t ks
 pz:PL H' M zf
 l7:H' L7=some (.lst (pls.map fun z=>V.ref z.1))
 pp:∀x∈pls,H' x.1=some (.tup (vP x.2))/\okP x.2
 ky:nw.map (·.2.1)=(zf.map (·.2)).take j
 vl:nw.map (fun y=>(y.2.2.dropLast,fold bl y.2.2))=((pls.map (·.2)).take j).map (fun p=>(p.dropLast,fold bl p))
 ok:∀y∈nw,okP y.2.2
section
variable{H:Hp}{a b m W t M L7:Addr}{bl:Bool}{rows:List Rw}{zf pls:List (Addr×Pth)}{ps nw:List (Addr×Mv)}{ks:List (PKey×Addr)}{j:Nat}{H' H2:Hp}
theorem ZI.go(x:ZI P w H a b m W t M L7 bl rows zf pls ps ks j H' nw)(fd:Fd a b H' H2)(ht:t≠a)(hM:M≠a)(hL:L7≠a):ZI P w H a b m W t M L7 bl rows zf pls ps ks j H2 nw :=
 ⟨x.fd.trans fd,x3o x.m x.fd.feed fd,x.wd.fd x.fd.feed fd,DPr.fd x.tk x.fd.feed fd ht,x.pz.fd x.fd.feed fd hM,fd.at x.l7 hL,fun y hy=>⟨tupFd x.fd.feed fd _ _ (x.pp y hy).1,(x.pp y hy).2⟩,x.ky,x.vl,x.ok⟩
theorem ZI.same(x:ZI P w H a b m W t M L7 bl rows zf pls ps ks j H' nw)(s:Same H' H2):ZI P w H a b m W t M L7 bl rows zf pls ps ks j H2 nw :=
 ⟨x.fd.same s,s _ _ x.m,x.wd.same s,x.tk.same s,x.pz.same s,s _ _ x.l7,fun y hy=>⟨s _ _ (x.pp y hy).1,(x.pp y hy).2⟩,x.ky,x.vl,x.ok⟩
theorem ZI.put{e:Addr}{one pl:Pth}{z y:Addr×Pth}(x:ZI P w H a b m W t M L7 bl rows zf pls ps ks j H' nw)(F:FeedAt H a b)(hW:H W=none)(hmW:m≠W)(hz:zf[j]?=some z)(hy:pls[j]?=some y)(he:H' e=some (.tup (vP pl)))(okp:okP pl)(h1:pl.dropLast=y.2.dropLast)(h2:fold bl pl=fold bl y.2):
  ZI P w H a b m W t M L7 bl rows zf pls ps ks (j+1) (upd H' W (dR (((ps++nw).map fun x=>((x.2.1,.ref x.1):HRow))++[(z.2,.ref e)]))) (nw++[(e,(z.2,pl))]):=by
 have nt:∀{c:Addr} {u:HO},H' c=some u->(∀kvs,u≠.dT kvs)->upd H' W (dR (((ps++nw).map fun x=>((x.2.1,.ref x.1):HRow))++[(z.2,.ref e)])) c=some u:=fun{c u} e n=>by
  rw[q0c (fun z=>by rw[z,x.wd.at_] at e;cases e;exact n _ rfl)];exact e
 have tt:∀{c:Addr} {xs:List V},H' c=some (.tup xs)->upd H' W (dR (((ps++nw).map fun x=>((x.2.1,.ref x.1):HRow))++[(z.2,.ref e)])) c=some (.tup xs):=fun h=>nt h (fun _ z=>by cases z);have hz2:(zf.map (·.2))[j]?=some z.2:=by rw[Ae,hz];rfl
 have hy2:(pls.map (·.2))[j]?=some y.2:=by rw[Ae,hy];rfl
 refine⟨x.fd.put F hW,by rw[q0c hmW];exact x.m,⟨?_,fun u hu=>?_⟩,⟨nt x.tk.at_ (fun _ z=>by cases z),x.tk.sys,x.tk.len,fun u hu=>by obtain⟨c,e1,e2⟩:=x.tk.pk u hu;exact⟨c,tt e1,tt e2⟩⟩,⟨nt x.pz.at_ (fun _ z=>by cases z),fun u hu=>⟨tt (x.pz.pr u hu).1,(x.pz.pr u hu).2⟩⟩,nt x.l7 (fun _ z=>by cases z),fun u hu=>⟨tt (x.pp u hu).1,(x.pp u hu).2⟩,?_,?_,fun u hu=>?_⟩
 ·rw[q0b,<- Fx,Af (l₁:=ps++nw)];rfl
 ·rw[<- Fx] at hu;rcases Am.mp hu with hu|hu
  ·exact tt (x.wd.pr u hu)
  ·rw[Ai.mp hu];exact tt he
 ·rw[Af,x.ky,Bc,hz2];rfl
 ·rw[Af,x.vl,Bc,hy2,Af];show _++[(pl.dropLast,fold bl pl)]=_;rw[h1,h2];rfl
 ·rcases Am.mp hu with hu|hu
  ·exact x.ok u hu
  ·rw[Ai.mp hu];exact okp
end
structure CallsGW (P:Program) (w:World) (K:Ak) (mg:Str->Option Value) (base:Heap):Prop where
 draw:Cal P w K mg base "_law_draw" 1 ["_law_feed", "_law_many"] spDraw
 fold:Cal P w K mg base "_law_fold" 1 ["_law_name", "_law_blind"] spFold
 free_place:Cal P w K mg base "_law_free_place" 4 ["_law_feed", "_law_marks", "_law_path", "_law_taken", "_law_blind"] (spFree P w)
 other_case:Cal P w K mg base "_law_other_case" 2 ["_law_feed", "_law_name"] spOther
 some_of:Cal P w K mg base "_law_some_of" 2 ["_law_feed", "_law_things", "_law_many"] (spSome K)
def spGoodW(P:Program)(w:World):Sp:=fun vs H Q _=>∃a b L bl n zs,vs=[.ref a,.ref L,.bl bl,.int n]/\FeedAt H a b/\RL H L zs/\Hl bl (zs.map (·.2))/\zs.length<=30/\L≠a/\0<n/\n<=20 /\
 ∀W ps H',Fd a b H H'->H W=none->PDt H' W ps->GoodW (zs.map (·.2)) (ps.map (·.2))->Apart bl (zs.map (·.2)) (plc (ps.map (·.2)))->Q (.ref W) H'
abbrev q2y:Stmt:=top 44
theorem sc_good_wishes:FnScope ["_law_feed", "_law_rows_here", "_law_blind", "_law_most", "_law_marks", "_law_wishes", "_law_taken", "_law_path", "_law_turn", "_law_left", "_law_some", "_law_drawer", "_law_way", "_law_last", "_law_one", "_law_place", "_law_name"] ["_law_feed", "_law_rows_here", "_law_blind", "_law_most"] (defScope q2y):=⟨rfl,rfl,rfl,by decide +kernel,rfl,by decide +kernel,by decide +kernel⟩
theorem q7j(D:Df K mg "_law_good_wishes" q2y ["_law_feed", "_law_rows_here", "_law_blind", "_law_most"])(T:Txt mg)(C:CallsGW P w K mg base):Cal P w K mg base "_law_good_wishes" 5 ["_law_feed", "_law_rows_here", "_law_blind", "_law_most"] (spGoodW P w):=by
 refine D.cal sc_good_wishes (fun vs H Q E h=>?_) (fun f cdv A outer s H vs Q E hr h=>?_)
 ·obtain⟨a,b,L,bl,n,zs,rfl,_⟩:=h;rfl
 ·obtain⟨a,b,L,bl,n,zs,rfl,F,rl,hl,h30,hLa,n0,n20,k⟩:=h;refine⟨_,(q0d (q0j (i:=4) sc_good_wishes.nd rfl (by first|exact Or.inl rfl|exact Or.inr rfl) (q2l (q7z hr) (by rfl) T.b_dict (by decide +kernel) (q0a (pv 1) q0e))) (q0d (q0j (i:=5) sc_good_wishes.nd rfl (by first|exact Or.inl rfl|exact Or.inr rfl) q3d) (q0d (q0j (i:=6) sc_good_wishes.nd rfl (by first|exact Or.inl rfl|exact Or.inr rfl) (z3k P w rfl rfl)) (q0d (q3r H rfl (q1f Bi rfl (@q4w _ _ _ _ K rfl (pv 4)) (q0h (i:=7) sc_good_wishes.nd rfl (by first|exact Or.inl rfl|exact Or.inr rfl)) (q0f (z2d P w rfl rfl (z1a hr) (pv 6) (q1g (q0a (q0p (sl_k K rfl) (pv 7) q0q (q0r (q1l q0s q0g))) (q0a (pe_c C.fold hr (q0a (q1m (ix_k K rfl) (pv 7) (q1l q0s q0g) (fun _ _=>rfl)) (q0a (pv 2) q0e))) q0e))) q4e rfl)))) (q0d (q1f Bi rfl (q3o rfl T.b_range (q0a (q1j q1q q0g (pe_c C.draw hr (q0a (pv 0) (q0a (pv 3) q0e)))) q0e)) (q0h (i:=8) sc_good_wishes.nd rfl (by first|exact Or.inl rfl|exact Or.inr rfl)) (q0d (q6m (i:=9) ["_law_path"] [("_law_wishes",5)] sc_good_wishes.nd rfl (by first|exact Or.inl rfl|exact Or.inr rfl) rfl (@q3a _ _ _ _ K rfl (q0m (q4b hr) (by rfl) T.b_sorted (by decide +kernel) (q0a (pv 4) q0e))) (fun _ _ _ _ _=>(q0h (i:=0) (show(["_law_path", "_law_wishes"]:List Str).Nodup by decide +kernel) rfl (by first|exact Or.inl rfl|exact Or.inr rfl))) (fun _ _ _ _ _=>(q3p (q2a (z0m (q1c hr) (pv 0) (pv 1))))) (fun _ _ _ _ _=>(pv 0))) (q0d (q6m (i:=10) ["_law_path"] [("_law_marks",4)] sc_good_wishes.nd rfl (by first|exact Or.inl rfl|exact Or.inr rfl) rfl (@q3a _ _ _ _ K rfl (pv 9)) (fun _ _ _ _ _=>(q0h (i:=0) (show(["_law_path", "_law_marks"]:List Str).Nodup by decide +kernel) rfl (by first|exact Or.inl rfl|exact Or.inr rfl))) (fun _ _ _ _ _=>(q3p (q2a (q6e (q0w (q1c hr) (pv 1) (pv 0) (fun _ _=>rfl)))))) (fun _ _ _ _ _=>(pv 0))) (q3b (q1e (pt_j (@PW.pt _ _ _ (q2s (q0k (ne_k K rfl hr) (pv 9) (q1t q0e) (nomark _)) (q1u (q0k (eq_k K rfl hr) (pe_c C.draw hr (q0a (pv 0) (q0a q0g q0e))) q0g (nomark _)))))) (q0d (q0j (i:=11) sc_good_wishes.nd rfl (by first|exact Or.inl rfl|exact Or.inr rfl) (q0p (sl_k K rfl) (q1m (ix_k K rfl) (pv 9) (pe_c C.draw hr (q0a (pv 0) (q0a (q0m (q4f K rfl) (by rfl) T.b_len Ck (q0a (pv 9) q0e)) q0e))) (fun _ _=>rfl)) q0q (q0r (q1l q0s q0g)))) (q0f (q6m (i:=10) ["_law_path"] [("_law_drawer",11)] sc_good_wishes.nd rfl (by first|exact Or.inl rfl|exact Or.inr rfl) rfl (@q3a _ _ _ _ K rfl (pv 9)) (fun _ _ _ _ _=>(q0h (i:=0) (show(["_law_path", "_law_drawer"]:List Str).Nodup by decide +kernel) rfl (by first|exact Or.inl rfl|exact Or.inr rfl))) (fun _ _ _ _ _=>(q3p (q0k (eq_k K rfl hr) (q0p (sl_k K rfl) (pv 0) q0q (q0r (q1l q0s q0g))) (pv 1) (nomark _)))) (fun _ _ _ _ _=>(pv 0))))) q0n) (q0d (q0j (i:=10) sc_good_wishes.nd rfl (by first|exact Or.inl rfl|exact Or.inr rfl) (pe_c C.some_of hr (q0a (pv 0) (q0a (pv 10) (q0a (q1j q1q q0g (pe_c C.draw hr (q0a (pv 0) (q0a q0g q0e)))) q0e))))) (q0d (q0j (i:=12) sc_good_wishes.nd rfl (by first|exact Or.inl rfl|exact Or.inr rfl) (pe_c C.draw hr (q0a (pv 0) (q0a q0g q0e)))) (q0d (q0j (i:=13) sc_good_wishes.nd rfl (by first|exact Or.inl rfl|exact Or.inr rfl) q5q) (q3b (q1e (pt_j (@PW.pt _ _ _ (q2s (q0k (ne_k K rfl hr) (pv 10) (q1t q0e) (nomark _)) (q1u (q0k (eq_k K rfl hr) (pv 12) q0g (nomark _)))))) (q0f (q0j (i:=13) sc_good_wishes.nd rfl (by first|exact Or.inl rfl|exact Or.inr rfl) (q1m (ix_k K rfl) (pv 10) q0g (fun _ _=>rfl)))) q0n) (q3b (q1e (pt_j (@PW.pt _ _ _ (q2s (q0k (ne_k K rfl hr) (pv 10) (q1t q0e) (nomark _)) (q1u (q0k op_gt (pv 12) q0g (nomark _)))))) (q0f (q0j (i:=13) sc_good_wishes.nd rfl (by first|exact Or.inl rfl|exact Or.inr rfl) (pe_c C.free_place hr (q0a (pv 0) (q0a (pv 4) (q0a (q1m (ix_k K rfl) (pv 10) (q1l q0s q0g) (fun _ _=>rfl)) (q0a (pv 6) (q0a (pv 2) q0e)))))))) q0n) (q0f (q1e (q2a (q6e (pv 13))) (q0f (q1f Bi rfl (@zip_k _ _ _ _ _ _ _ _ _ K rfl rfl T.b_zip (q0a (pv 10) (q0a (q1j q1q (q0p (sl_k K rfl) (pv 10) (q0r q0g) q0q) (q1t (q0a (pv 13) q0e))) q0e)) (by rfl) (by rfl)) (@q2t _ _ _ _ (2) _ K rfl rfl (q0o (q0h (i:=14) sc_good_wishes.nd rfl (by first|exact Or.inl rfl|exact Or.inr rfl)) (q0o (q0h (i:=15) sc_good_wishes.nd rfl (by first|exact Or.inl rfl|exact Or.inr rfl)) q1v)) (by rfl) (by rfl)) (q0d (q0j (i:=16) sc_good_wishes.nd rfl (by first|exact Or.inl rfl|exact Or.inr rfl) (q1m (ix_k K rfl) (pv 15) (q1l q0s q0g) (fun _ _=>rfl))) (q3b (q1e (@q5x _ _ _ K rfl (pv 2) (fun _=>rfl)) (q0f (q0j (i:=16) sc_good_wishes.nd rfl (by first|exact Or.inl rfl|exact Or.inr rfl) (pe_c C.other_case hr (q0a (pv 0) (q0a (pv 16) q0e))))) q0n) (q0f (q3q (q1c hr) (pv 5) (pv 14) (q1j q3e (q0p (sl_k K rfl) (pv 15) q0q (q0r (q1l q0s q0g))) (q1g (q0a (pv 16) q0e))) rfl)))))) q0n))))))))))) (q0f (q0l (pv 5)))))))),?_⟩;refine⟨_,rfl,L,zs.map (·.1),zs.map (fun z=>rR z.2),rfl,by rw[Ap];exact rl.at_,x1l rl.pr,by rw[Ab];lia,fun m hm=>?_⟩;rw[z1j hl];have s1:=(Same.refl H).new (o:=dR ((zs.map (·.2)).map rR)) hm;have hm1:upd H m (dR ((zs.map (·.2)).map rR)) m=some (dR ((zs.map (·.2)).map rR)):=q0b;generalize upd H m (dR ((zs.map (·.2)).map rR))=H1 at s1 hm1;generalize hrows:zs.map (·.2)=rows at hl hm1 k;have hrl:rows.length<=30:=by rw[<- hrows,Ab];exact h30
  have oks:=hl.ok;intro W hW;have s2:=s1.new (o:=.dT []) hW;have hm2:=(Same.refl H1).new (o:=.dT []) hW _ _ hm1;have hW2:upd H1 W (.dT []) W=some (.dT []):=q0b;have hWH:H W=none:=s1.free hW;have hmW:m≠W:=fun z=>by rw[<- z,hm1] at hW;cases hW
  generalize upd H1 W (.dT [])=H2 at s2 hm2 hW2;intro t ht hsys;have s3':=(Same.refl H2).new (o:=PdO P w t []) ht;have s3:=s2.trans s3';have hm3:=s3' _ _ hm2;have hW3:=s3' _ _ hW2;have htH:H t=none:=s2.free ht;have hta:t≠a:=(F.na htH).symm;have dp3:DPr P w (upd H2 t (PdO P w t [])) t []:=⟨q0b,hsys,Bl _,(fun _ h=>nomatch h)⟩
  have hmt:m≠t:=fun z=>by rw[<- z,hm2] at ht;cases ht
  generalize upd H2 t (PdO P w t [])=H3 at s3' s3 hm3 hW3 dp3;refine⟨m,(fun o v e=>by rw[hm] at e;cases e),?_⟩;refine⟨_,rfl,m,_,rfl,hm3,fun ob=>?_⟩;refine q2o (fun i σ' H'=>∃ks x7 x8 x9 x10 x11 x12 x13 x14 x15 x16,σ'=[some (.ref a),some (.ref L),some (.bl bl),some (.int n),some (.ref m),some (.ref W),some (.ref t),x7,x8,x9,x10,x11,x12,x13,x14,x15,x16]/\H' m=some (.frz ob (dR (rows.map rR)))/\DPr P w H' t ks/\(∀c u,c≠m->c≠t->H3 c=some u->H' c=some u)/\ks.length<=i/\(∀r∈rows.take i,hasP ks (keyO bl r.1)=true)/\(∀kk,hasP ks kk=true->∃r∈rows.take i,kk=keyO bl r.1))
   ⟨[],none,none,none,none,none,none,none,none,none,none,rfl,q0b,⟨by rw[q0c hmt.symm];exact dp3.at_,hsys,Bl _,(fun _ h=>nomatch h)⟩,fun c u hc _ e=>by rw[q0c hc];exact e,Aq _,(fun r hr=>by rw[Gj] at hr;cases hr),(fun kk h=>by cases h)⟩ (fun i σ' H' x=>by obtain⟨_,_,_,_,_,_,_,_,_,_,_,_,h,_⟩:=x;exact h) ?_ ?_
  ·rintro i ky v pb σ' H4 hk' hb ⟨ks,x7,x8,x9,x10,x11,x12,x13,x14,x15,x16,rfl,hfz,dp4,kp,kl,h1,h2⟩;obtain⟨r,hr,rfl,rfl⟩:∃r,rows[i]?=some r/\ky=kP r.1/\v=mV r.2:=by
    rw[Ae,Ae] at hk';cases e:rows[i]? with
    |none=>rw[e] at hk';cases hk'
    |some r=>rw[e] at hk';cases hk';exact⟨r,rfl,rfl,rfl⟩
   rw[q1x] at hb;have okr:=oks r (Ag hr);have hil:i<rows.length:=(Aj.mp hr).1;obtain⟨c1,c2⟩:=q1a okr.ne;refine⟨_,rfl,_,rfl,_,rfl,_,rfl,.inr (.inr ⟨pb,_,rfl,SqT.of hb,c2,fun t1 ht1=>?_⟩)⟩;rw[c1];have s5:=(Same.refl H4).new (o:=.tup (vP r.1.dropLast)) ht1;have ht5:upd H4 t1 (.tup (vP r.1.dropLast)) t1=some (.tup (vP r.1.dropLast)):=q0b;generalize upd H4 t1 (.tup (vP r.1.dropLast))=H5 at s5 ht5;refine⟨_,rfl,_,rfl,.inr (.inl ⟨pb,_,-1,_,rfl,rfl,SqT.of (s5 _ _ hb),q2x okr.ne,?_⟩)⟩;refine⟨_,rfl,_,bl,rfl,q2q okr,by show 2<=sizeLine;decide,fun p3 hp3=>?_⟩;have s6:=(Same.refl H5).new (o:=.tup [.ref t1,.str (mk (if bl then lowN (r.1.getLastD []) else r.1.getLastD []))]) hp3;have pk:PrK (upd H5 p3 (.tup [.ref t1,.str (mk (if bl then lowN (r.1.getLastD []) else r.1.getLastD []))])) (keyO bl r.1) p3:=⟨t1,q0b,by show _=some (HO.tup ((kP r.1.dropLast).map kV));rw[q1x];exact s6 _ _ ht5⟩
   have s46:=s5.trans s6;generalize upd H5 p3 (.tup [.ref t1,.str (mk (if bl then lowN (r.1.getLastD []) else r.1.getLastD []))])=H6 at s6 pk s46;have hno:hasP ks (keyO bl r.1)=false:=by
    cases e:hasP ks (keyO bl r.1) with
    |false=>rfl
    |true =>
     obtain⟨r',hr',e2⟩:=h2 _ e;obtain⟨j,hj⟩:=Ba.mp hr';have hj2:j<i:=by
      have:=(Aj.mp hj).1;rw[Bm] at this;lia
     rw[Sm,if_pos hj2] at hj;have hf:=x0k okr.ne (oks r' (Ag hj)).ne e2;have a1:(rows.map fun r=>fold bl r.1)[i]?=some (fold bl r.1):=by rw[Ae,hr];rfl
     have a2:(rows.map fun r=>fold bl r.1)[j]?=some (fold bl r.1):=by rw[Ae,hj,hf];rfl
     have:=(Io (Aj.mp a1).1 hl.nd).mp (a1.trans a2.symm);lia
   have dp6:=dp4.same s46;have ksl:ks.length<sizeLine:=small' (by lia);refine⟨t,ks,p3,keyO bl r.1,rfl,rfl,rfl,dp6,pk,hno,ksl,?_⟩;have etk:rows.take (i+1)=rows.take i++[r]:=by rw[Bc,hr];rfl
   refine⟨ks++[(keyO bl r.1,p3)],_,_,_,_,_,_,_,_,_,_,rfl,by rw[q0c hmt];exact s46 _ _ hfz,dp6.put pk ksl,fun c u hc ht' e=>by rw[q0c ht'];exact s46 _ _ (kp c u hc ht' e),by rw[Al];exact Hm kl,fun r' hr'=>?_,fun kk hkk=>?_⟩
   ·rw[etk] at hr';rcases Am.mp hr' with hr'|hr'
    ·exact q6a (h1 r' hr')
    ·rw[Ai.mp hr'];exact q9i
   ·rw[etk];unfold hasP at hkk;rw[Po,Bool.or_eq_true] at hkk;rcases hkk with hkk|hkk
    ·obtain⟨r',hr',e⟩:=h2 kk hkk;exact⟨r',Ch _ hr',e⟩
    ·refine⟨r,Bk _ (Ai.mpr rfl),?_⟩;simp at hkk;exact hkk.symm
  rintro σ' H4 ⟨ks,x7,x8,x9,x10,x11,x12,x13,x14,x15,x16,rfl,hfz,dp4,kp,kl,h1,h2⟩;rw[Ab,Ab,Bb] at h1;rw[Ab,Ab] at kl;refine⟨ob,_,hfz,?_⟩;have I0:GWI P w H a b m W t bl rows 0 (upd H4 m (dR (rows.map rR))) [] ks:=by
   have hWm:W≠m:=fun z=>by rw[z,hm1] at hW;cases hW
   have hWt:W≠t:=fun z=>by rw[<- z,hW2] at ht;cases ht
   have kp':∀c u,c≠m->c≠t->H3 c=some u->upd H4 m (dR (rows.map rR)) c=some u:=fun c u h1 h2 e=>by rw[q0c h1];exact kp c u h1 h2 e
   have sF:Same H (upd H4 m (dR (rows.map rR))):=fun c u e=>kp' c u (q0i e hm) (q0i e htH) (s3 _ _ e);have tk4:∀{c:Addr} {xs:List V},H4 c=some (.tup xs)->upd H4 m (dR (rows.map rR)) c=some (.tup xs):=fun{c xs} e=>by rw[q0c (fun z=>by rw[z,hfz] at e;cases e)];exact e
   have og:∀p∈rows.map (·.1),hasP ks (keyO bl p)=true:=fun p hp=>by
    obtain⟨r,hr,rfl⟩:=Ac.mp hp;exact h1 r hr
   refine⟨(Fd.refl F).same sF,q0b,⟨kp' W _ hWm hWt hW3,(fun _ h=>nomatch h)⟩,⟨by rw[q0c hmt.symm];exact dp4.at_,hsys,dp4.len,fun y hy=>?_⟩,by lia,⟨(fun _ h=>nomatch h),.nil⟩,?_,og,og⟩
   ·obtain⟨c,e1,e2⟩:=dp4.pk y hy;exact⟨c,tk4 e1,tk4 e2⟩
   ·show((rows.map (·.1)).map fun p=>fold bl p).Nodup;rw[Ap];exact hl.nd
  generalize upd H4 m (dR (rows.map rR))=H5 at I0;clear hfz dp4 kp kl h1 h2 hm3 hW3 dp3 s3' s3 hW2 hm2 s2 hm1 s1 rl;refine⟨_,rfl,_,rfl,a,b,_,rfl,I0.fd.feed,by lia,by lia,fun r0 H6 r00 r01 fd6=>.inl ⟨_,_,rfl,rfl,?_⟩⟩;have I1:=I0.go fd6 hta;refine⟨1+r0,rfl,by lia,by lia,q4r (n:=(1+r0).toNat) (fun i σ' H'=>∃ps ks x7 x8 x9 x10 x11 x12 x13 x14 x15 x16,σ'=[some (.ref a),some (.ref L),some (.bl bl),some (.int n),some (.ref m),some (.ref W),some (.ref t),x7,x8,x9,x10,x11,x12,x13,x14,x15,x16]/\GWI P w H a b m W t bl rows i H' ps ks/\i<=(1+r0).toNat) ⟨[],ks,_,_,_,_,_,_,_,_,_,_,rfl,I1,Bl _⟩ ?_ ?_⟩
  ·clear I1 I0 fd6;rintro i σ' H1 hi ⟨ps,ks,x7,x8,x9,x10,x11,x12,x13,x14,x15,x16,rfl,I1,_⟩;refine⟨_,rfl,m,_,rfl,I1.m,by rw[Ab];lia,fun r hr=>?_,fun L2 bs qs hL2 hp2 hs2 pts=>?_⟩
   ·obtain⟨y,hy,rfl⟩:=Ac.mp hr;exact(oks y hy).ne
   obtain⟨ys,y1,y2,y3⟩:=x0j pts;have hkey:(rows.map rR).map (·.1)=rows.map (·.1):=by rw[Ap];rfl
   rw[hkey] at hp2;rw[y1];have s2:=(Same.refl H1).new (o:=.lst (ys.map fun z=>V.ref z.1)) hL2;have yin:∀y∈ys,y.2∈rows.map (·.1):=fun y hy=>hp2.mem_iff.mp (by rw[<- y2];exact Ac.mpr ⟨y,hy,rfl⟩);have ynd:(ys.map (·.2)).Nodup:=by rw[y2];exact hp2.nodup_iff.mpr hl.paths
   have yok:∀y∈ys,okP y.2:=fun y hy=>by
    obtain⟨r,hr,e⟩:=Ac.mp (yin y hy);rw[<- e];exact oks r hr
   have ylen:ys.length<=30:=by
    have e1:=congrArg List.length y2;have e2:=hp2.length_eq;rw[Ab] at e1 e2;lia
   have hL2':upd H1 L2 (.lst (ys.map fun z=>V.ref z.1)) L2=some (.lst (ys.map fun z=>V.ref z.1)):=q0b;have hy2:∀y∈ys,upd H1 L2 (.lst (ys.map fun z=>V.ref z.1)) y.1=some (.tup (vP y.2)):=fun y hy=>s2 _ _ (y3 y hy);have I2:=I1.same s2;generalize upd H1 L2 (.lst (ys.map fun z=>V.ref z.1))=H2 at s2 hL2' hy2 I2;clear y3 pts y1 hp2 hs2 I1 s2 y2;have ndp:((ps.map (·.2)).map (·.1)).Nodup:=I2.gw.nd;refine .inl ⟨L2,rfl,⟨_,SqL.of hL2'⟩,fun Dc hDc=>?_⟩;refine q2m (fun j vs H'=>∃ds:List (Addr×Pth),vs=ds.map (fun z=>V.ref z.1)/\Same H2 H'/\H' Dc=some (.lst vs)/\ds.Sublist (ys.take j)/\j<=ys.length/\∀z∈ds,z.2∉(ps.map (·.2)).map (·.1)) ⟨[],rfl,(Same.refl H2).new hDc,q0b,Pb _,Bl _,(fun _ h=>nomatch h)⟩ (fun j vs H' h=>by obtain⟨ds,_,s',h',_⟩:=h;exact⟨h',SqL.of (s' _ _ hL2')⟩) ?_ ?_
   ·rintro j vs H3 v hv ⟨ds,rfl,s3,hHD,hsub,_,hds⟩;obtain⟨y,hy,rfl⟩:∃y,ys[j]?=some y/\v=.ref y.1:=by
     rw[Ae] at hv;cases e:ys[j]? with
     |none=>rw[e] at hv;cases hv
     |some y=>rw[e] at hv;cases hv;exact⟨y,rfl,rfl⟩
    have hj:j<ys.length:=(Aj.mp hy).1;have hym:=Ag hy;have etk:ys.take (j+1)=ys.take j++[y]:=by rw[Bc,hy];rfl
    have dlen:ds.length<=30:=by have:=hsub.length_le;rw[Bm] at this;lia
    rcases(I2.wd.same s3).get ndp (s3 _ _ (hy2 y hym)) with⟨hn,dg⟩|⟨z,hz,ez,dg,_⟩
    ·refine⟨q0u,_,rfl,_,rfl,W,_,rfl,dg,_,rfl,iteT ?_⟩;refine⟨_,rfl,hHD,small' (by rw[Ab];lia),ds++[y],by rw[Af];rfl,s3.put hDc,q0b,by rw[etk];exact Mu hsub (Ky _),hj,fun z hz=>?_⟩;rcases Am.mp hz with hz|hz
     ·exact hds z hz
     ·rw[Ai.mp hz];exact hn
    ·refine⟨q0u,_,rfl,_,rfl,W,_,rfl,dg,_,rfl,iteF ?_⟩;exact⟨ds,rfl,s3,hHD,by rw[etk];exact hsub.trans (Kj _ _),hj,hds⟩
   rintro vs H3 ⟨lf,rfl,s3,hLf,hsub,_,hun⟩;rw[Ab,Bb] at hsub;have lin:∀z∈lf,z∈ys:=fun z hz=>hsub.subset hz;have lnd:(lf.map (·.2)).Nodup:=ynd.sublist (hsub.map _);have llen:lf.length<=30:=Bz hsub.length_le ylen;have I3:=I2.same s3;have pl3:PL H3 Dc lf:=⟨hLf,fun z hz=>⟨s3 _ _ (hy2 z (lin z hz)),yok z (lin z hz)⟩⟩
   have hDca:Dc≠a:=(I2.fd.feed.na hDc).symm;have lun:∀z∈lf,z.2∈rows.map (·.1)/\z.2∉(ps.map (·.2)).map (·.1):=fun z hz=>⟨yin z (lin z hz),hun z hz⟩
   clear hLf hsub hun hy2 hL2' s3 hDc I2 ynd yok ylen;refine⟨_,rfl,.inl ⟨Dc,rfl,⟨_,SqL.of pl3.at_⟩,fun S hS=>?_⟩⟩;refine q2m (fun j vs H'=>∃ds:List (Addr×Pth),vs=ds.map (fun z=>V.ref z.1)/\Same H3 H'/\H' S=some (.lst vs)/\ds.Sublist (lf.take j)/\j<=lf.length/\∀z∈ds,∃k,(z.2,k)∈rows/\k≠none) ⟨[],rfl,(Same.refl H3).new hS,q0b,Pb _,Bl _,(fun _ h=>nomatch h)⟩ (fun j vs H' h=>by obtain⟨ds,_,s',h',_⟩:=h;exact⟨h',SqL.of (s' _ _ pl3.at_)⟩) ?_ ?_
   ·rintro j vs H4 v hv ⟨ds,rfl,s4,hHD,hsub,_,hds⟩;obtain⟨y,hy,rfl⟩:∃y,lf[j]?=some y/\v=.ref y.1:=by
     rw[Ae] at hv;cases e:lf[j]? with
     |none=>rw[e] at hv;cases hv
     |some y=>rw[e] at hv;cases hv;exact⟨y,rfl,rfl⟩
    have hj:j<lf.length:=(Aj.mp hy).1;have hym:=Ag hy;have etk:lf.take (j+1)=lf.take j++[y]:=by rw[Bc,hy];rfl
    have dlen:ds.length<=30:=by have:=hsub.length_le;rw[Bm] at this;lia
    obtain⟨r,hr,er⟩:=Ac.mp (lun y hym).1;have hyr:(y.2,r.2)∈rows:=by rw[<- er];exact hr
    refine⟨q0u,_,rfl,_,rfl,m,mV r.2,rfl,?_,_,rfl,?_⟩
    ·rw[<- q3h hl.paths hyr];exact q3u (s4 _ _ I3.m) (s4 _ _ (pl3.pr y hym).1)
    refine iteB (fun e=>?_) (fun e=>⟨ds,rfl,s4,hHD,by rw[etk];exact hsub.trans (Kj _ _),hj,hds⟩);have hn:r.2≠none:=fun y=>by rw[y] at e;cases e
    refine⟨_,rfl,hHD,small' (by rw[Ab];lia),ds++[y],by rw[Af];rfl,s4.put hS,q0b,by rw[etk];exact Mu hsub (Ky _),hj,fun z hz=>?_⟩;rcases Am.mp hz with hz|hz
    ·exact hds z hz
    ·rw[Ai.mp hz];exact⟨r.2,hyr,hn⟩
   rintro vs H4 ⟨sm,rfl,s4,hS4,hsub,_,hsl⟩;rw[Ab,Bb] at hsub;have I4:=I3.same s4;have pl4:=pl3.same s4;have ps4:PL H4 S sm:=⟨hS4,fun z hz=>pl4.pr z (hsub.subset hz)⟩
   have ok4:SomeOk rows (ps.map (·.2)) (sm.map (·.2)):=⟨lnd.sublist (hsub.map _),fun z hz=>by obtain⟨y,hy,rfl⟩:=Ac.mp hz;exact lun y (hsub.subset hy),.inl fun z hz=>by obtain⟨y,hy,rfl⟩:=Ac.mp hz;exact hsl y hy⟩
   have sl4:sm.length<=30:=Bz hsub.length_le llen;have hSa:S≠a:=(I3.fd.feed.na hS).symm;clear hS4 hsub hsl s4 hS I3 pl3;refine⟨fun σ' H'=>∃S sm x7 x11,σ'=[some (.ref a),some (.ref L),some (.bl bl),some (.int n),some (.ref m),some (.ref W),some (.ref t),x7,some (.int (0+(i:Int))),some (.ref Dc),some (.ref S),x11,x12,x13,x14,x15,x16]/\GWI P w H a b m W t bl rows i H' ps ks/\PL H' S sm/\SomeOk rows (ps.map (·.2)) (sm.map (·.2))/\sm.length<=30/\S≠a,?_,?_⟩;rotate_left
   ·refine⟨fun bb H'=>GWI P w H a b m W t bl rows i H' ps ks/\PL H' Dc lf/\PL H' S sm/\(bb=true->lf≠[]),?_,?_⟩
    ·rintro bb H5 ⟨I5,pl5,ps5,hb⟩;refine ite2 (fun e=>?_) (fun e=>⟨S,sm,_,_,rfl,I5,ps5,ok4,sl4,hSa⟩);have lpos:=Bu.mpr (hb e);refine⟨_,rfl,_,rfl,_,rfl,_,_,rfl,.inl ⟨_,SqL.of pl5.at_,rfl⟩,a,b,_,rfl,I5.fd.feed,by rw[Ab];lia,by rw[Ab];lia,fun r1 H6 r10 r11 fd6=>?_⟩;rw[Ab] at r11;have I6:=I5.go fd6 hta;have pl6:=pl5.fd I5.fd.feed fd6 hDca;obtain⟨y,hym,hat⟩:=pl6.get r10 (by lia);have oky:=(pl6.pr y hym).2;obtain⟨c1,c2⟩:=q1a oky.ne;refine .inl ⟨Dc,_,r1,_,rfl,rfl,SqL.of pl6.at_,hat,_,rfl,_,rfl,.inr (.inr ⟨y.1,_,rfl,SqT.of (pl6.pr y hym).1,c2,fun t1 ht1=>?_⟩)⟩;rw[c1];have s7:=(Same.refl H6).new (o:=.tup (vP y.2.dropLast)) ht1;have ht7:upd H6 t1 (.tup (vP y.2.dropLast)) t1=some (.tup (vP y.2.dropLast)):=q0b;have I7:=I6.same s7;have pl7:=pl6.same s7;generalize upd H6 t1 (.tup (vP y.2.dropLast))=H7 at s7 ht7 I7 pl7;refine⟨_,rfl,.inl ⟨Dc,rfl,⟨_,SqL.of pl7.at_⟩,fun S2 hS2=>?_⟩⟩;refine q2m (fun j vs H'=>∃ds:List (Addr×Pth),vs=ds.map (fun z=>V.ref z.1)/\Same H7 H'/\H' S2=some (.lst vs)/\ds.Sublist (lf.take j)/\j<=lf.length/\∀z∈ds,z.2.dropLast=y.2.dropLast) ⟨[],rfl,(Same.refl H7).new hS2,q0b,Pb _,Bl _,(fun _ h=>nomatch h)⟩ (fun j vs H' h=>by obtain⟨ds,_,s',h',_⟩:=h;exact⟨h',SqL.of (s' _ _ pl7.at_)⟩) ?_ ?_
     ·rintro j vs H8 v hv ⟨ds,rfl,s8,hHD,hsub,_,hds⟩;obtain⟨x,hx,rfl⟩:∃x,lf[j]?=some x/\v=.ref x.1:=by
       rw[Ae] at hv;cases e:lf[j]? with
       |none=>rw[e] at hv;cases hv
       |some x=>rw[e] at hv;cases hv;exact⟨x,rfl,rfl⟩
      have hj:j<lf.length:=(Aj.mp hx).1;have hxm:=Ag hx;have etk:lf.take (j+1)=lf.take j++[x]:=by rw[Bc,hx];rfl
      have dlen:ds.length<=30:=by have:=hsub.length_le;rw[Bm] at this;lia
      obtain⟨hx7,okx⟩:=pl7.pr x hxm;obtain⟨d1,d2⟩:=q1a okx.ne;refine⟨q0u,_,rfl,_,rfl,_,rfl,.inr (.inr ⟨x.1,_,rfl,SqT.of (s8 _ _ hx7),d2,fun u1 hu1=>?_⟩)⟩;rw[d1];have s9:=(Same.refl H8).new (o:=.tup (vP x.2.dropLast)) hu1;have s89:=s8.trans s9;refine⟨_,rfl,q0y q0b (s89 _ _ ht7) (q1i okx.low) (q1i oky.low) ⟨_,rfl,iteB (fun e=>?_) (fun e=>⟨ds,rfl,s89,s9 _ _ hHD,by rw[etk];exact hsub.trans (Kj _ _),hj,hds⟩)⟩⟩;refine⟨_,rfl,s9 _ _ hHD,small' (by rw[Ab];lia),ds++[x],by rw[Af];rfl,s89.put hS2,q0b,by rw[etk];exact Mu hsub (Ky _),hj,fun z hz=>?_⟩;rcases Am.mp hz with hz|hz
      ·exact hds z hz
      ·rw[Ai.mp hz];exact of_decide_eq_true e
     ·rintro vs H8 ⟨ds,rfl,s8,hHD,hsub,_,hds⟩;rw[Ab,Bb] at hsub;refine⟨S2,ds,_,_,rfl,I7.same s8,⟨hHD,fun z hz=>(pl7.same s8).pr z (hsub.subset hz)⟩,⟨lnd.sublist (hsub.map _),fun z hz=>by obtain⟨x,hx,rfl⟩:=Ac.mp hz;exact lun x (hsub.subset hx),.inr ⟨y.2.dropLast,fun z hz=>by obtain⟨x,hx,rfl⟩:=Ac.mp hz;exact hds x hx⟩⟩,Bz hsub.length_le llen,(I7.fd.feed.na hS2).symm⟩
    ·refine⟨_,rfl,by show 0<=sizeLine;decide,fun E1 hE1=>?_⟩;have sE:=(Same.refl H4).new (o:=.lst []) hE1;refine z3j (pl4.same sE).at_ (fun z hz=>((pl4.same sE).pr z hz).1) q0b (fun z hz=>(pl4.pr z hz).2.low) ⟨_,rfl,iteB (fun e=>?_) (fun e=>⟨I4.same sE,pl4.same sE,ps4.same sE,(fun z=>by cases z)⟩)⟩;have hne:lf≠[]:=by simpa using e
     have IE:=I4.same sE;exact⟨_,rfl,a,b,_,rfl,IE.fd.feed,by decide,by decide,fun r1 H6 _ _ fd6=>.inl ⟨rfl,_,rfl,IE.go fd6 hta,(pl4.same sE).fd IE.fd.feed fd6 hDca,(ps4.same sE).fd IE.fd.feed fd6 hSa,fun _=>hne⟩⟩
   clear I4 pl4 ps4 ok4 sl4 hSa S sm;rintro σ' H4 ⟨S,sm,x7,x11,rfl,I4,ps4,ok4,sl4,hSa⟩;refine⟨_,rfl,_,rfl,_,rfl,a,b,_,rfl,I4.fd.feed,by decide,by decide,fun r1 H5 _ _ fd5=>.inl ⟨_,_,rfl,rfl,?_⟩⟩;have I5:=I4.go fd5 hta;have ps5:=ps4.fd I4.fd.feed fd5 hSa;refine⟨Pth,GP,a,b,S,sm,1+r1,gg_P,rfl,I5.fd.feed,⟨ps5.at_,ps5.pr⟩,by lia,fun M zf zr H6 fd6 hM gl6 pm6 _=>?_⟩;have I6:=I5.go fd6 hta;have pz6:PL H6 M zf:=⟨gl6.at_,gl6.pr⟩
   have hMa:M≠a:=(I5.fd.feed.na hM).symm;have okz:SomeOk rows (ps.map (·.2)) (zf.map (·.2)):=ok4.sub (r:=zr.map (·.2)) (by rw[<- Af];exact pm6.map _);have zl:zf.length<=30:=by have:=pm6.length_eq;rw[Al] at this;lia
   clear gl6 pm6 hM fd6 ps5 I5 fd5 ps4 ok4 I4 sl4 hSa;refine⟨_,rfl,a,b,_,rfl,I6.fd.feed,by decide,by decide,fun wy H7 w0 w1 fd7=>?_⟩;have I7:=I6.go fd7 hta;have pz7:=pz6.fd I6.fd.feed fd7 hMa;clear pz6 I6 fd7;have org:∀z∈zf,hasP ks (keyO bl z.2)=true:=fun z hz=>I7.og _ (okz.un z.2 (Ac.mpr ⟨z,hz,rfl⟩)).1;refine⟨fun σ' H'=>∃v13,σ'=[some (.ref a),some (.ref L),some (.bl bl),some (.int n),some (.ref m),some (.ref W),some (.ref t),x7,some (.int (0+(i:Int))),some (.ref Dc),some (.ref M),x11,some (.int wy),some v13,x14,x15,x16]/\GWI P w H a b m W t bl rows i H' ps ks/\PL H' M zf/\(v13=.non\/∃z,zf.head?=some z/\v13=.ref z.1/\wy=0),?_,?_⟩;rotate_left
   ·refine⟨fun bb H'=>GWI P w H a b m W t bl rows i H' ps ks/\PL H' M zf/\(bb=true->zf≠[]/\wy=0),?_,?_⟩
    ·rintro bb H8 ⟨I8,pz8,hb⟩;refine ite2 (fun e=>?_) (fun e=>⟨_,rfl,I8,pz8,.inl rfl⟩);obtain⟨hne,rfl⟩:=hb e;obtain⟨z,zr',rfl⟩:∃z zr',zf=z::zr':=by
      cases zf with
      |nil=>exact absurd rfl hne
      |cons z zr'=>exact⟨z,zr',rfl⟩
     have hat:atI ((z::zr').map fun z=>V.ref z.1) 0=some (.ref z.1):=by
      obtain⟨v,h1,h2⟩:=q7r (xs:=(z::zr').map fun z=>V.ref z.1) (i:=0) (by decide) (by rw[Ab,By];lia);cases h1;exact h2
     exact⟨_,rfl,.inl ⟨M,_,0,_,rfl,rfl,SqL.of pz8.at_,hat,_,rfl,I8,pz8,.inr ⟨z,rfl,rfl,rfl⟩⟩⟩
    ·refine⟨_,rfl,by show 0<=sizeLine;decide,fun E1 hE1=>?_⟩;have sE:=(Same.refl H7).new (o:=.lst []) hE1;have pzE:=pz7.same sE;refine z3j pzE.at_ (fun z hz=>(pzE.pr z hz).1) q0b (fun z hz=>(pz7.pr z hz).2.low) ⟨_,rfl,iteB (fun e=>?_) (fun e=>⟨I7.same sE,pzE,(fun z=>by cases z)⟩)⟩;have hne:zf≠[]:=by simpa using e
     exact⟨_,rfl,.inl ⟨rfl,_,rfl,I7.same sE,pzE,fun e2=>⟨hne,by simpa using e2⟩⟩⟩
   clear I7 pz7;rintro σ' H7 ⟨v13,rfl,I7,pz7,hv13⟩;refine⟨fun σ' H'=>∃v13 ks,σ'=[some (.ref a),some (.ref L),some (.bl bl),some (.int n),some (.ref m),some (.ref W),some (.ref t),x7,some (.int (0+(i:Int))),some (.ref Dc),some (.ref M),x11,some (.int wy),some v13,x14,x15,x16]/\GWI P w H a b m W t bl rows (i+1) H' ps ks/\PL H' M zf/\(v13=.non\/∃e q,v13=.ref e/\H' e=some (.tup (vP q))/\zf≠[]/\LastOk bl rows (ps.map (·.2)) ks (zf.map (·.2)) q),?_,?_⟩;rotate_left
   ·refine⟨fun bb H'=>GWI P w H a b m W t bl rows i H' ps ks/\PL H' M zf/\(bb=true->zf≠[]),?_,?_⟩
    ·rintro bb H8 ⟨I8,pz8,hb⟩;refine ite2 (fun e=>?_) (fun e=>⟨_,ks,rfl,I8.up,pz8,hv13.imp id fun⟨z,hz,e2,_⟩=>?_⟩)
     ·have hne:=hb e;obtain⟨z,hz⟩:∃z,zf.getLast?=some z:=⟨_,Bh hne⟩
      have hzm:=Hd hz;obtain⟨hz8,_⟩:=pz8.pr z hzm;obtain⟨r,hr,er⟩:=Ac.mp (okz.un z.2 (Ac.mpr ⟨z,hzm,rfl⟩)).1;have hzr:(z.2,r.2)∈rows:=by rw[<- er];exact hr
      refine⟨_,rfl,_,rfl,_,rfl,_,rfl,.inl ⟨M,_,-1,_,rfl,rfl,SqL.of pz8.at_,q9n (by rw[Gy,hz];rfl),?_⟩⟩;refine⟨_,rfl,_,rfl,a,b,m,z.1,t,bl,rows,z.2,r.2,ks,rfl,I8.fd.feed,I8.m,hl,hrl,hz8,hzr,I8.tk,hta,by have:=I8.kl;lia,fun H9 fd9=>?_,fun e9 q kb H9 H10 fd9 hno pk okq dq orq s10 he=>?_⟩
      ·exact⟨_,ks,rfl,(I8.go fd9 hta).up,pz8.fd I8.fd.feed fd9 hMa,.inl rfl⟩
      ·have I9:=I8.go fd9 hta;have pz9:=pz8.fd I8.fd.feed fd9 hMa;have I10:=(I9.take F htH (by lia) pk).same s10;have nt:∀{c:Addr} {u:HO},H9 c=some u->(∀f,u≠.ext f)->upd H9 t (PdO P w t (ks++[(keyO bl q,kb)])) c=some u:=fun{c u} e n=>by
        rw[q0c (fun z=>by rw[z,I9.tk.at_] at e;cases e;exact n _ rfl)];exact e
       have pz10:PL H10 M zf:=⟨s10 _ _ (nt pz9.at_ (fun _ z=>by cases z)),fun x hx=>⟨s10 _ _ (nt (pz9.pr x hx).1 (fun _ z=>by cases z)),(pz9.pr x hx).2⟩⟩
       refine⟨_,_,rfl,I10,pz10,.inr ⟨e9,q,rfl,he,hne,okq,q9i,.inr ⟨fun p hp e2=>?_,dq,fun one h1=>?_⟩⟩⟩
       ·have h3:=I8.cv p hp;rw[q9h (q1o hl I8.gw hp).ne okq.ne e2] at h3;rw[h3] at hno;cases hno
       ·rw[Gy,hz] at h1;cases h1;exact⟨r.2,hzr,orq⟩
     ·have hzm:z∈zf:=Qw hz;refine⟨z.1,z.2,e2,(pz8.pr z hzm).1,fun y=>by(rw[y] at hz;cases hz),(pz8.pr z hzm).2,org z hzm,.inl ?_⟩;rw[List.head?_map,hz];rfl
    ·refine⟨_,rfl,by show 0<=sizeLine;decide,fun E1 hE1=>?_⟩;have sE:=(Same.refl H7).new (o:=.lst []) hE1;have pzE:=pz7.same sE;refine z3j pzE.at_ (fun z hz=>(pzE.pr z hz).1) q0b (fun z hz=>(pz7.pr z hz).2.low) ⟨_,rfl,iteB (fun e=>?_) (fun e=>⟨I7.same sE,pzE,(fun z=>by cases z)⟩)⟩;have hne:zf≠[]:=by simpa using e
     exact⟨_,rfl,_,_,rfl,rfl,_,rfl,I7.same sE,pzE,fun _=>hne⟩
   clear I7 pz7 hv13 org v13 ks;rintro σ' H7 ⟨v13,ks,rfl,I7,pz7,hv13⟩;have hi1:i+1<=(1+r0).toNat:=hi;rcases hv13 with rfl|⟨e,q,rfl,he,hne,lo⟩
   ·exact⟨_,rfl,_,rfl,iteF ⟨ps,ks,_,_,_,_,_,_,_,_,_,_,rfl,I7,hi1⟩⟩
   refine⟨_,rfl,_,rfl,iteT ?_⟩;have zpos:=Bu.mpr hne;refine .inr ⟨_,rfl,_,rfl,_,rfl,.inr (.inl ⟨M,_,rfl,SqL.of pz7.at_,fun L5 hL5=>?_⟩)⟩;have ec:cutV (zf.map fun z=>V.ref z.1) (some 1) none=(zf.drop 1).map fun z=>V.ref z.1:=by
    rw[z1h (by decide) (by rw[Ab];lia),Jg];rfl
   rw[ec];have s8:=(Same.refl H7).new (o:=.lst ((zf.drop 1).map fun z=>V.ref z.1)) hL5;have h58:upd H7 L5 (.lst ((zf.drop 1).map fun z=>V.ref z.1)) L5=some (.lst ((zf.drop 1).map fun z=>V.ref z.1)):=q0b;generalize upd H7 L5 (.lst ((zf.drop 1).map fun z=>V.ref z.1))=H8 at s8 h58;refine⟨_,rfl,by show 1<=sizeLine;decide,fun L6 hL6=>?_⟩;have s9:=(Same.refl H8).new (o:=.lst [.ref e]) hL6;have h69:upd H8 L6 (.lst [.ref e]) L6=some (.lst [.ref e]):=q0b;generalize upd H8 L6 (.lst [.ref e])=H9 at s9 h69;refine .inr (.inr ⟨L5,L6,_,_,rfl,rfl,s9 _ _ h58,h69,small (by rw[Ab,Dd];show _+1<=_;lia),fun L7 hL7=>?_⟩);have epl:((zf.drop 1).map fun z=>V.ref z.1)++[.ref e]=(zf.drop 1++[(e,q)]).map fun z=>V.ref z.1:=by rw[Af];rfl
   rw[epl];have s10':=(Same.refl H9).new (o:=.lst ((zf.drop 1++[(e,q)]).map fun z=>V.ref z.1)) hL7;have h710:upd H9 L7 (.lst ((zf.drop 1++[(e,q)]).map fun z=>V.ref z.1)) L7=some (.lst ((zf.drop 1++[(e,q)]).map fun z=>V.ref z.1)):=q0b;have s10:=(s8.trans s9).trans s10';have hL7a:L7≠a:=((I7.same (s8.trans s9)).fd.feed.na hL7).symm;generalize upd H9 L7 (.lst ((zf.drop 1++[(e,q)]).map fun z=>V.ref z.1))=H10 at s10' h710 s10;have I10:=I7.same s10;have pz10:=pz7.same s10;have Z0:ZI P w H a b m W t M L7 bl rows zf (zf.drop 1++[(e,q)]) ps ks 0 H10 []:=⟨I10.fd,I10.m,by rw[El];exact I10.wd,I10.tk,pz10,h710,fun x hx=>by
    rcases Am.mp hx with hx|hx
    ·exact pz10.pr x (Mn hx)
    ·rw[Ai.mp hx];exact⟨s10 _ _ he,lo.ok⟩,rfl,rfl,(fun _ h=>nomatch h)⟩
   have plen:(zf.drop 1++[(e,q)]).length=zf.length:=by rw[Al,Dd];show _+1=_;lia
   generalize hpls:zf.drop 1++[(e,q)]=pls at Z0 plen h710;refine⟨M,L7,_,_,rfl,SqL.of pz10.at_,SqL.of h710,z9i (xs:=zf.map fun z=>V.ref z.1) (ys:=pls.map fun z=>V.ref z.1) (fun j σ' H'=>∃nw x14 x15 x16,σ'=[some (.ref a),some (.ref L),some (.bl bl),some (.int n),some (.ref m),some (.ref W),some (.ref t),x7,some (.int (0+(i:Int))),some (.ref Dc),some (.ref M),x11,some (.int wy),some (.ref e),x14,x15,x16]/\ZI P w H a b m W t M L7 bl rows zf pls ps ks j H' nw) ⟨[],_,_,_,rfl,Z0⟩ (fun j σ' H' x=>by obtain⟨_,_,_,_,_,Z⟩:=x;exact⟨SqL.of Z.pz.at_,SqL.of Z.l7⟩) ?_ ?_⟩
   ·rintro j v v' T' σ' H11 hv hv' ⟨nw,x14,x15,x16,rfl,Z⟩ hT;obtain⟨z,hz,rfl⟩:∃z,zf[j]?=some z/\v=.ref z.1:=by
     rw[Ae] at hv;cases e:zf[j]? with
     |none=>rw[e] at hv;cases hv
     |some x=>rw[e] at hv;cases hv;exact⟨x,rfl,rfl⟩
    obtain⟨y,hy,rfl⟩:∃y,pls[j]?=some y/\v'=.ref y.1:=by
     rw[Ae] at hv';cases e:pls[j]? with
     |none=>rw[e] at hv';cases hv'
     |some x=>rw[e] at hv';cases hv';exact⟨x,rfl,rfl⟩
    have sT:=(Same.refl H11).new (o:=.tup [.ref z.1,.ref y.1]) hT;refine⟨T',_,rfl,SqT.of q0b,rfl,_,_,rfl,_,_,rfl,rfl,?_⟩;have Z1:=Z.same sT;generalize upd H11 T' (.tup [.ref z.1,.ref y.1])=H12 at Z1;clear Z sT;obtain⟨hyt,oky⟩:=Z1.pp y (Ag hy);refine⟨_,rfl,_,rfl,.inr (.inl ⟨y.1,_,-1,_,rfl,rfl,SqT.of hyt,q2x oky.ne,?_⟩)⟩;have okl:=q2q oky;refine⟨fun σ' H'=>∃nm,σ'=[some (.ref a),some (.ref L),some (.bl bl),some (.int n),some (.ref m),some (.ref W),some (.ref t),x7,some (.int (0+(i:Int))),some (.ref Dc),some (.ref M),x11,some (.int wy),some (.ref e),some (.ref z.1),some (.ref y.1),some (.str (mk nm))]/\ZI P w H a b m W t M L7 bl rows zf pls ps ks j H' nw/\okN nm/\(if bl then lowN nm=lowN (y.2.getLastD []) else nm=y.2.getLastD []),?_,?_⟩;rotate_left
    ·refine⟨_,rfl,bl,rfl,?_⟩;cases bl with
     |false=>exact iteF ⟨_,rfl,Z1,okl,rfl⟩
     |true =>
      refine iteT ⟨_,rfl,_,rfl,a,b,_,rfl,Z1.fd.feed,okl,fun n' H13 okn elo fd13=>?_⟩;exact⟨n',rfl,Z1.go fd13 hta hMa hL7a,okn,elo⟩
    rintro σ' H13 ⟨nm,rfl,Z2,okn,hnm⟩;have hyt2:=(Z2.pp y (Ag hy)).1;obtain⟨c1,c2⟩:=q1a oky.ne;refine⟨_,rfl,_,rfl,_,rfl,.inr (.inr ⟨y.1,_,rfl,SqT.of hyt2,c2,fun t1 ht1=>?_⟩)⟩;rw[c1];have sA:=(Same.refl H13).new (o:=.tup (vP y.2.dropLast)) ht1;have htA:upd H13 t1 (.tup (vP y.2.dropLast)) t1=some (.tup (vP y.2.dropLast)):=q0b;generalize upd H13 t1 (.tup (vP y.2.dropLast))=HA at sA htA;refine⟨_,rfl,by show 1<=sizeLine;decide,fun t2 ht2=>?_⟩;have sB:=(Same.refl HA).new (o:=.tup [.str (mk nm)]) ht2;have y6:y.2.length<=6:=oky.few;refine⟨t1,t2,_,_,rfl,rfl,sB _ _ htA,q0b,by rw[q0z,Bq];exact small (by show _+1<=_;lia),fun e2 HC sC he2 _=>?_⟩;have he2':HC e2=some (.tup (vP (y.2.dropLast++[nm]))):=by rw[he2];show _=some (HO.tup ((y.2.dropLast++[nm]).map _));rw[Af];rfl
    have ZC:=Z2.same ((sA.trans sB).trans sC);have okp:okP (y.2.dropLast++[nm]):=by
     refine⟨by simp,by rw[Al,Bq];show _+1<=6;have:=Bu.mpr oky.ne;lia,fun x hx=>?_⟩;rcases Am.mp hx with hx|hx
     ·exact oky.all x (Mq _ hx)
     ·rw[Ai.mp hx];exact okn
    have hz3:=(ZC.pz.pr z (Ag hz)).1;have hno:∀r∈((ps++nw).map fun x=>((x.2.1,.ref x.1):HRow)),r.1≠z.2:=fun r hr e3=>by
     obtain⟨x,hx,rfl⟩:=Ac.mp hr;rcases Am.mp hx with hx|hx
     ·refine(okz.un z.2 (Ac.mpr ⟨z,Ag hz,rfl⟩)).2 ?_;rw[Ap];exact Ac.mpr ⟨x,hx,e3⟩
     ·have h1:z.2∈(zf.map (·.2)).take j:=by rw[<- ZC.ky];exact Ac.mpr ⟨x,hx,e3⟩
      obtain⟨j2,hj2⟩:=Ba.mp h1;have hlt:j2<j:=by have:=(Aj.mp hj2).1;rw[Bm] at this;lia
      rw[Sm,if_pos hlt] at hj2;have h3:(zf.map (·.2))[j]?=some z.2:=by rw[Ae,hz];rfl
      have:=(Io (Aj.mp hj2).1 okz.nd).mp (hj2.trans h3.symm);lia
    have nwl:(ps++nw).length<=60:=by
     have e1:=congrArg List.length ZC.ky;have e2:=I7.gw.len;rw[Ab] at e2;rw[Ab,Bm,Ab] at e1;rw[Al];lia
    refine⟨_,rfl,_,rfl,W,_,rfl,DPut.t (k:=kP z.2) ZC.wd.at_ (by rw[q1x];exact hz3) (by rw[Ab,Ab];exact small' (by lia)),?_⟩;rw[q2d (p:=z.2) (v:=.ref e2) hno];have hg:(y.2.dropLast++[nm]).getLastD []=nm:=Ee;refine⟨_,_,_,_,rfl,ZC.put (one:=z.2) F hWH hmW hz hy he2' okp (by rw[Cf]) ?_⟩;refine(q5j okp.ne oky.ne).mpr ⟨by rw[Cf],?_⟩;rw[hg];exact hnm
   ·rintro σ' H11 ⟨nw,x14,x15,x16,rfl,Z⟩;have emin:min (zf.map fun z=>V.ref z.1).length (pls.map fun z=>V.ref z.1).length=zf.length:=by rw[Ab,Ab,plen,Sg]
    rw[emin] at Z;have eky:nw.map (·.2.1)=zf.map (·.2):=by have:=Z.ky;rw[<- Ab (f:=fun z:Addr×Pth=>z.2),Bb] at this;exact this
    have epl2:pls.map (·.2)=(zf.map (·.2)).tail++[q]:=by
     rw[<- hpls,Af,Jg,List.drop_one];rfl
    have evl:nw.map (fun y=>(y.2.2.dropLast,fold bl y.2.2))=((zf.map (·.2)).tail++[q]).map (fun p=>(p.dropLast,fold bl p)):=by
     have:=Z.vl;rw[<- plen,<- Ab (f:=fun z:Addr×Pth=>z.2),Bb,epl2] at this;exact this
    have inrow:∀p∈zf.map (·.2),IsD rows p.dropLast:=fun p hp=>by
     obtain⟨r,hr,e2⟩:=Ac.mp (okz.un p hp).1;rw[<- e2];exact hl.dr r hr
    have pair:∀p∈zf.map (·.2),∀one∈zf.map (·.2),∃k,(one,k)∈rows/\(p.dropLast=one.dropLast\/k≠none):=fun p hp one ho=>by
     rcases okz.go with h|⟨d,h⟩
     ·obtain⟨k,hk,hn⟩:=h one ho;exact⟨k,hk,.inr hn⟩
     ·obtain⟨r,hr,e2⟩:=Ac.mp (okz.un one ho).1;exact⟨r.2,by rw[<- e2];exact hr,.inl (by rw[h p hp,h one ho])⟩
    have T1:Turn1 bl rows (ps.map (·.2)) (nw.map (·.2)) (zf.map (·.2)) q:=by
     refine⟨fun z=>hne (Rt.mp z),okz.nd,okz.un,by rw[Ap];exact eky,by rw[Ap];exact evl,fun m hm=>?_,fun i2 one q2 h1 h2=>?_⟩
     ·obtain⟨y,hy,rfl⟩:=Ac.mp hm;exact Z.ok y hy
     ·have ho:=Ag h1;have hfree:q2∈zf.map (·.2)->IsD rows q2.dropLast/\∃k,(one,k)∈rows/\(q2.dropLast=one.dropLast\/k≠none):=fun hq2=>⟨inrow q2 hq2,pair q2 hq2 one ho⟩
      by_cases hlt:i2<(zf.map (·.2)).tail.length
      ·rw[Cc hlt] at h2;exact hfree (Rh (Ag h2))
      ·have e3:i2=(zf.map (·.2)).tail.length:=by
        have:=(Aj.mp h2).1;rw[Al] at this;have e4:i2<(zf.map (·.2)).tail.length+1:=this;lia
       rw[e3,Ef (Aq _),Sn] at h2;cases h2;rcases lo.or with h|⟨_,hd,hf⟩
       ·exact hfree (Qw h)
       ·refine⟨hd,hf one ?_⟩;rw[Dq,<- h1,e3,List.length_tail]
    have em:(ps++nw).map (·.2)=ps.map (·.2)++nw.map (·.2):=Af;refine⟨ps++nw,ks,_,_,_,_,_,_,_,_,_,_,rfl,⟨Z.fd,Z.m,Z.wd,Z.tk,I7.kl,by rw[em];exact T1.good I7.gw,?_,I7.og,?_⟩,hi1⟩
    ·rw[em];rcases lo.or with h|⟨h,_⟩
     ·exact T1.ring hl.paths I7.ap h
     ·exact T1.chain hl.paths I7.ap h
    ·rw[em];exact T1.cov hl I7.gw (fun h=>h) I7.og I7.cv lo.ok.ne lo.kq
  ·rintro σ' H7 ⟨ps,ks,x7,x8,x9,x10,x11,x12,x13,x14,x15,x16,rfl,I,_⟩;exact⟨_,rfl,k W ps H7 I.fd hWH I.wd I.gw I.ap⟩
end
end K
set_option maxHeartbeats 4000000
namespace K
open PySem L2 TX SB HM
section
variable{P:Program}{w:World}{K:Ak}{mg:Str->Option Value}{base:Heap}
def okMs(ms:List Mv):Prop:=∀m∈ms,okP m.1/\okP m.2
theorem ne_dt{H:Hp}{x y:V}{d:PyData}{Q:VK}(hx:Dt K H x d)(hy:Dt K H y d)(l:d.canLay0=true)(dp:d.depth<=100)(k:Q (.bl false) H):rNeU K x y H Q:=by
 refine .inr ⟨_,_,hx,hy,l,l,by rw[Sg];exact dp,?_⟩;rw[SeqAt.eqv_refl _ l];exact k
def dM(m:Mv):PyData:=.tuple [.tuple (dP m.1),.tuple (dP m.2)]
theorem dt_M{H:Hp}{T:Addr}{m:Mv}(h:MT H T m):Dt K H (.ref T) (dM m):=by
 obtain⟨A,B,h1,h2,h3⟩:=h;exact .tup (SqT.of h1) (.cons (q1y h2) (.cons (q1y h3) .nil))
theorem x3s{H:Hp}:∀{zs:List Zm},(∀z∈zs,MT H z.1 z.2)->Dts K H (zs.map fun z=>V.ref z.1) ((zs.map (·.2)).map dM)
 |[],_=>.nil
 |z::zs,h=>.cons (dt_M (h z At)) (x3s fun y hy=>h y (An _ hy))
theorem lay_M{m:Mv}(h:okP m.1/\okP m.2):(dM m).canLay0=true:=by
 unfold dM;simp only[Fq,Cd,q7x h.1.low,q7x h.2.low,Nq]
theorem x1o:∀{ms:List Mv},okMs ms->Cd (ms.map dM)=true
 |[],_=>by simp[Cd]
 |m::ms,h=>by
  rw[Aw];simp only[Cd,lay_M (h m At),x1o fun y hy=>h y (An _ hy),Nq]
theorem dep_M(m:Mv):(dM m).depth<=50:=by
 have h1:=q4y m.1;have h2:=q4y m.2;unfold dM;simp only[Ht,Eo];lia
theorem x1p:∀ms:List Mv,Eo (ms.map dM)<=50
 |[]=>by simp[Eo]
 |m::ms=>by
  have h1:=dep_M m;have h3:=x1p ms;rw[Aw];simp only[Eo];lia
theorem ne_row{H:Hp}{L M:Addr}{zs:List Zm}{Q:VK}(h:ML H L zs)(g:ML H M zs)(ok:okMs (zs.map (·.2)))(k:Q (.bl false) H):rNeU K (.ref L) (.ref M) H Q :=
 ne_dt (d:=.list ((zs.map (·.2)).map dM)) (.lst (SqL.of h.at_) (x3s h.pr)) (.lst (SqL.of g.at_) (x3s g.pr)) (by simp only[Fq,x1o ok]) (by have:=x1p (zs.map (·.2));simp only[Ht];lia) k
def GM(H:Hp)(T:Addr)(m:Mv):Prop:=MT H T m/\okP m.1/\okP m.2
theorem gg_M:GG K GM:=⟨fun h k=>⟨h.1.keep k,h.2⟩,fun h=>⟨_,dt_M h.1,lay_M h.2⟩⟩
structure CallsIO (P:Program) (w:World) (K:Ak) (mg:Str->Option Value) (base:Heap):Prop where
 some_of:Cal P w K mg base "_law_some_of" 2 ["_law_feed", "_law_things", "_law_many"] (spSome K)
def spInOrder:Sp:=fun vs H Q _=>∃a b W ps,vs=[.ref a,.ref W]/\FeedAt H a b/\PDt H W ps/\((ps.map (·.2)).map (·.1)).Nodup/\okMs (ps.map (·.2))/\ps.length<=60/\∀M zs H',Fd a b H H'->H M=none->ML H' M zs->(zs.map (·.2)).Perm (ps.map (·.2))->Q (.ref M) H'
abbrev q4n:Stmt:=top 45
theorem z2l:FnScope ["_law_feed", "_law_wishes"] ["_law_feed", "_law_wishes"] (defScope q4n):=⟨rfl,rfl,rfl,by decide +kernel,rfl,by decide +kernel,by decide +kernel⟩
theorem z2m(D:Df K mg "_law_in_order" q4n ["_law_feed", "_law_wishes"])(T:Txt mg)(C:CallsIO P w K mg base):Cal P w K mg base "_law_in_order" 3 ["_law_feed", "_law_wishes"] spInOrder:=by
 refine D.cal z2l (fun vs H Q E h=>?_) (fun f cdv A outer s H vs Q E hr h=>?_)
 ·obtain⟨a,b,W,ps,rfl,_⟩:=h;rfl
 ·obtain⟨a,b,W,ps,rfl,F,pd,nd,okm,h60,k⟩:=h;refine⟨_,(q0f (q0l (pe_c C.some_of hr (q0a (pv 0) (q0a (q3c ["_law_path"] [("_law_wishes",1)] rfl (@q3a _ _ _ _ K rfl (q0m (q4b hr) (by rfl) T.b_sorted (by decide +kernel) (q0a (pv 1) q0e))) (fun _ _ _ _ _=>(q0h (i:=0) (show(["_law_path", "_law_wishes"]:List Str).Nodup by decide +kernel) rfl (by first|exact Or.inl rfl|exact Or.inr rfl))) (fun _ _ _ _ _=>q5e) (fun _ _ _ _ _=>(q1g (q0a (pv 0) (q0a (q0w (q1c hr) (pv 1) (pv 0) (fun _ _=>rfl)) q0e))))) (q0a (q0m z7h (by rfl) T.b_len Ck (q0a (pv 1) q0e)) q0e)))))),?_⟩;have hks:(ps.map fun x=>((x.2.1,.ref x.1):HRow)).map (·.1)=(ps.map (·.2)).map (·.1):=by rw[Ap,Ap];rfl
  refine⟨_,rfl,_,rfl,W,_,rfl,pd.at_,by rw[Ab];lia,fun r hr=>?_,fun L2 bs qs hL2 hp2 hs2 pts=>?_⟩
  ·obtain⟨x,hx,rfl⟩:=Ac.mp hr;exact(okm x.2 (Ac.mpr ⟨x,hx,rfl⟩)).1.ne
  rw[hks] at hp2;have s2:=(Same.refl H).new (o:=.lst (bs.map V.ref)) hL2;have hLL:upd H L2 (.lst (bs.map V.ref)) L2=some (.lst (bs.map V.ref)):=q0b;generalize upd H L2 (.lst (bs.map V.ref))=H2 at s2 hLL;have hbl:bs.length=qs.length:=Dv pts;have hql:qs.length=ps.length:=by have:=hp2.length_eq;rw[Ab,Ab] at this;exact this
  refine .inl ⟨L2,rfl,⟨_,SqL.of hLL⟩,fun Dc hDc=>?_⟩;refine z4j (xs:=bs.map V.ref) (fun i ys H3=>∃ws:List (Addr×Mv),ys=ws.map (fun z=>V.ref z.1)/\ws.map (·.2.1)=qs.take i/\(∀x∈ws,GM H3 x.1 x.2/\x.2∈ps.map (·.2))/\Same H2 H3/\H3 Dc=some (.lst ys)/\i<=qs.length)
   ⟨[],rfl,rfl,(fun _ h=>nomatch h),(Same.refl H2).new hDc,q0b,Bl _⟩ (fun i ys H3 ⟨ws,_,_,_,s3,h3,_⟩=>⟨h3,SqL.of (s3 _ _ hLL)⟩) ?_ ?_
  ·rintro i ys H3 v hv ⟨ws,rfl,hw1,hw2,s3,h3,hile⟩;obtain⟨b',hb,rfl⟩:∃b,bs[i]?=some b/\v=.ref b:=by
    rw[Ae] at hv;cases e:bs[i]? with
    |none=>rw[e] at hv;cases hv
    |some z=>rw[e] at hv;cases hv;exact⟨z,rfl,rfl⟩
   obtain⟨p,hp3,hbp⟩:=Paired.at' pts hb;have hi':i<qs.length:=(Aj.mp hp3).1;have hb3:=s3 _ _ (s2 _ _ hbp);have hpin:p∈(ps.map (·.2)).map (·.1):=hp2.mem_iff.mp (Ag hp3);rcases(pd.same (s2.trans s3)).get nd hb3 with⟨hn,_⟩|⟨y,hy,ey,dg,_⟩
   ·exact absurd hpin hn
   have hyt:=(pd.same (s2.trans s3)).pr y hy;have hym:y.2∈ps.map (·.2):=Ac.mpr ⟨y,hy,rfl⟩;refine⟨_,rfl,_,rfl,_,rfl,W,_,rfl,dg,by show 2<=sizeLine;decide,fun Tn hTn=>?_⟩;have sT:=(Same.refl H3).new (o:=.tup [.ref b',.ref y.1]) hTn;have hwl:ws.length=i:=by rw[<- Ab (f:=fun z:Addr×Mv=>z.2.1),hw1,Bm];lia
   have hDT:Dc≠Tn:=fun z=>by rw[z,hTn] at h3;cases h3
   have tk:∀S xs,upd H3 Tn (.tup [.ref b',.ref y.1]) S=some (.tup xs)->upd (upd H3 Tn (.tup [.ref b',.ref y.1])) Dc (.lst (ws.map (fun z=>V.ref z.1)++[.ref Tn])) S=some (.tup xs):=fun S xs e=>by
    rw[q0c (fun z=>by rw[z,q0c hDT,h3] at e;cases e)];exact e
   refine⟨by rw[q0c hDT];exact h3,small' (by rw[Ab];lia),ws++[(Tn,y.2)],by rw[Af];rfl,?_,fun x hx=>?_,(s3.trans sT).put hDc,q0b,hi'⟩
   ·rw[Af,hw1,Bc,hp3,<- ey];rfl
   ·rcases Am.mp hx with hx|hx
    ·exact⟨gg_M (K:=K).keep (gg_M (K:=K).keep (hw2 x hx).1 fun S xs e=>sT _ _ e) tk,(hw2 x hx).2⟩
    ·rw[Ai.mp hx];exact⟨⟨⟨b',y.1,tk _ _ q0b,tk _ _ (sT _ _ (by rw[ey];exact hb3)),tk _ _ (sT _ _ hyt)⟩,okm _ hym⟩,hym⟩
  ·rintro ys H3 ⟨ws,rfl,hw1,hw2,s3,h3,_⟩;rw[Ab,hbl,Bb] at hw1;have s23:=s2.trans s3;have pd3:=pd.same s23;have wl:ws.length=ps.length:=by rw[<- Ab (f:=fun z:Addr×Mv=>z.2.1),hw1,hql]
   have fd3:=(Fd.refl F).same s23;refine⟨_,rfl,W,_,rfl,pd3.at_,?_⟩;refine⟨Mv,GM,a,b,Dc,ws,_,gg_M,rfl,fd3.feed,⟨h3,fun x hx=>(hw2 x hx).1⟩,by lia,fun M zf zr H4 fd4 hM gl pm hor=>?_⟩;have hzr:zr=[]:=by
    rcases hor with h|h
    ·have e:=pm.length_eq;rw[Al] at e;rw[Ab,Ab] at h;exact Hy.mp (by lia)
    ·exact h
   subst hzr;rw[Um] at pm;refine k M zf H4 (fd3.trans fd4) (s23.free hM) ⟨gl.at_,fun z hz=>(gl.pr z hz).1⟩ ((pm.map _).trans ?_);have wk:(ws.map (·.2)).map (·.1)=qs:=by rw[Ap];exact hw1
   have wnd:((ws.map (·.2)).map (·.1)).Nodup:=by rw[wk];exact hp2.nodup_iff.mpr nd
   refine(Jk (q2e wnd) (q2e nd)).mpr fun x=>⟨fun hx=>?_,fun hx=>?_⟩
   ·obtain⟨y,hy,rfl⟩:=Ac.mp hx;exact(hw2 y hy).2
   ·have h1:x.1∈(ws.map (·.2)).map (·.1):=by rw[wk];exact hp2.mem_iff.mpr (Ac.mpr ⟨x,hx,rfl⟩)
    obtain⟨y,hy,e⟩:=Ac.mp h1;obtain⟨z,hz,rfl⟩:=Ac.mp hy;rw[<- q0t nd (hw2 z hz).2 hx e];exact hy
end
end K
set_option maxHeartbeats 4000000
namespace K
open PySem L2 TX SB HM
section
variable{P:Program}{w:World}{K:Ak}{mg:Str->Option Value}{base:Heap}
structure Fol (ps:List Pth) (g:Pth->Option Pth):Prop where
 inj:∀{p q x},g p=some x->g q=some x->p=q
 to:∀{p x},g p=some x->x∈ps
 dom:∀{p x},g p=some x->p∈ps
structure Trk (g:Pth->Option Pth) (p:Pth) (xs:List Pth):Prop where
 hd:xs[0]?=some p
 st:∀{i x y},xs[i]?=some x->xs[i+1]?=some y->g x=some y
 nd:xs.Nodup
structure Orb (g:Pth->Option Pth) (p:Pth) (xs:List Pth):Prop extends Trk g p xs where
 fin:∀{x},xs.getLast?=some x->g x=none\/g x=some p
section
variable{ps:List Pth}{g:Pth->Option Pth}{p x y:Pth}{xs ys:List Pth}
theorem x0l{α:Type}{l:List α}{i j:Nat}{x:α}(nd:l.Nodup)(h1:l[i]?=some x)(h2:l[j]?=some x):i=j :=
 (Io (Aj.mp h1).1 nd).mp (h1.trans h2.symm)
theorem q2r{α:Type}{l:List α}{i:Nat}{x y:α}(h:l[i]?=some x)(h2:l[i+1]?=none)(h3:l.getLast?=some y):x=y:=by
 have e1:=(Aj.mp h).1;have e2:=Jn.mp h2;rw[Dq,show l.length-1=i by lia,h] at h3;exact Bj h3
theorem z7w{α:Type}{a:α}:[a].Nodup:=Bp.mpr ⟨by simp,.nil⟩
theorem Trk.one:Trk g p [p]:=⟨rfl,(fun{i x y} _ h=>by rw[Kr] at h;cases h),z7w⟩
theorem Trk.in_(t:Trk g p xs)(F:Fol ps g)(hp:p∈ps):∀x∈xs,x∈ps:=fun x hx=>by
 obtain⟨i,hi⟩:=Ba.mp hx;cases i with
 |zero=>rw[t.hd] at hi;cases hi;exact hp
 |succ i =>
  have hlt:=(Aj.mp hi).1;exact F.to (t.st (Bx (show i<xs.length by lia)) hi)
theorem Trk.new(t:Trk g p xs)(F:Fol ps g)(hl:xs.getLast?=some x)(h:g x=some y)(n:y≠p):y∉xs:=fun hy=>by
 obtain⟨i,hi⟩:=Ba.mp hy;cases i with
 |zero=>rw[t.hd] at hi;cases hi;exact n rfl
 |succ i =>
  have hlt:=(Aj.mp hi).1;have e:=F.inj (t.st (Bx (show i<xs.length by lia)) hi) h;rw[Dq,<- e] at hl;have:=x0l t.nd (Bx (show i<xs.length by lia)) hl;lia
theorem Trk.more(t:Trk g p xs)(F:Fol ps g)(hl:xs.getLast?=some x)(h:g x=some y)(n:y≠p):Trk g p (xs++[y]):=by
 have pos:0<xs.length:=(Aj.mp t.hd).1;refine⟨by rw[Cc pos];exact t.hd,fun{i u v} hu hv=>?_,?_⟩
 ·by_cases hi:i+1<xs.length
  ·rw[Cc (by lia)] at hu;rw[Cc hi] at hv;exact t.st hu hv
  ·have h1:=(Aj.mp hv).1;rw[Al] at h1;have e:i+1=xs.length:=by
    have:[y].length=1:=rfl;lia
   rw[Cc (by lia)] at hu;rw[Ef (by lia),e,Sn] at hv;cases hv;rw[Dq,show xs.length-1=i by lia,hu] at hl;cases hl;exact h
 ·exact Dj.mpr ⟨t.nd,z7w,fun a ha b hb z=>by rw[Ai.mp hb] at z;subst z;exact t.new F hl h n ha⟩
theorem q9o{α:Type}[DecidableEq α]:∀{l m:List α},l.Nodup->(∀x∈l,x∈m)->l.length<=m.length
 |[],_,_,_=>Bl _
 |a::l,m,nd,h=>by
  obtain⟨n1,n2⟩:=Bp.mp nd;have hm:=h a At;have ih:=q9o (m:=m.erase a) n2 fun x hx=>(Rg (fun z:x=a=>n1 (by rw[<- z];exact hx))).mpr (h x (An _ hx))
  rw[Pa hm] at ih;have:=Qh hm;rw[By];lia
theorem Trk.len(t:Trk g p xs)(F:Fol ps g)(hp:p∈ps):xs.length<=ps.length:=q9o t.nd (t.in_ F hp)
theorem Orb.step(a:Orb g p xs)(b:Orb g p ys){i:Nat}(h:xs[i]?=ys[i]?):ys[i+1]?=none->xs[i+1]?=none:=fun e2=>by
 cases e:xs[i+1]? with
 |none=>rfl
 |some y =>
  have hlt:=(Aj.mp e).1;have hx:=Bx (show i<xs.length by lia);have gx:=a.st hx e;rw[h] at hx;have ey:=q2r hx e2 (Bh (fun z=>by rw[z] at hx;cases hx));rcases b.fin (Bh (fun z=>by rw[z] at hx;cases hx)) with f|f
  ·rw[<- ey,gx] at f;cases f
  ·rw[<- ey,gx] at f;cases f;have:=x0l a.nd e a.hd;lia
theorem Orb.uniq(a:Orb g p xs)(b:Orb g p ys):xs=ys:=by
 refine Oa fun i=>?_;induction i with
 |zero=>rw[a.hd,b.hd]
 |succ i ih =>
  cases e:xs[i+1]? with
  |none=>exact(b.step a ih.symm e).symm
  |some u =>
   cases e2:ys[i+1]? with
   |none=>rw[a.step b ih e2] at e;cases e
   |some v =>
    have hlt:=(Aj.mp e).1;have hx:=Bx (show i<xs.length by lia);have h1:=a.st hx e;rw[ih] at hx;have h2:=b.st hx e2;rw[h1] at h2;exact h2
theorem Orb.ex(F:Fol ps g)(hp:p∈ps):∀(k:Nat) {xs:List Pth},ps.length-xs.length=k->Trk g p xs->∃t,Orb g p (xs++t)
 |k,xs,hk,t=>by
  have pos:0<xs.length:=(Aj.mp t.hd).1;have hl:=Bh (Bu.mp pos);cases e:g (xs.getLast (Bu.mp pos)) with
  |none=>exact⟨[],by rw[El];exact⟨t,fun{x} hx=>by rw[hl] at hx;cases hx;exact .inl e⟩⟩
  |some y =>
   by_cases n:y=p
   ·exact⟨[],by rw[El];exact⟨t,fun{x} hx=>by rw[hl] at hx;cases hx;rw[e,n];exact .inr rfl⟩⟩
   ·have t2:=t.more F hl e n;have l2:=t2.len F hp;rw[Al] at l2;have l3:xs.length+1<=ps.length:=l2;cases k with
    |zero=>lia
    |succ k =>
     obtain⟨u,h⟩:=Orb.ex F hp k (by rw[Al];show ps.length-(xs.length+1)=k;lia) t2;exact⟨y::u,by rw[Fx] at h;exact h⟩
def IsRing(g:Pth->Option Pth)(p:Pth):Prop:=∃xs x,Orb g p xs/\xs.getLast?=some x/\g x=some p
theorem Trk.ring(t:Trk g p xs)(hl:xs.getLast?=some x)(h:g x=some p):IsRing g p:=⟨xs,x,⟨t,fun{z} hz=>by rw[hl] at hz;cases hz;exact .inr h⟩,hl,h⟩
theorem IsRing.pred(F:Fol ps g)(r:IsRing g p)(h:g y=some p):IsRing g y:=by
 obtain⟨xs,x,o,hl,hx⟩:=r;obtain rfl:=F.inj h hx;obtain⟨zs,rfl⟩:∃zs,xs=zs++[y]:=List.getLast?_eq_some_iff.mp hl;cases zs with
 |nil =>
  have e:y=p:=Bj o.hd;subst e;exact o.toTrk.ring hl hx
 |cons z zs =>
  have e:z=p:=Bj o.hd;subst e;have pr:=List.perm_append_comm (l₁:=z::zs) (l₂:=[y]);have nd2:(y::z::zs).Nodup:=pr.nodup_iff.mp o.nd;refine Trk.ring (xs:=y::z::zs) (x:=(z::zs).getLast (by simp)) ⟨rfl,fun{i u v} hu hv=>?_,nd2⟩ (by rw[So,Bh (by simp)];rfl) ?_
  ·cases i with
   |zero=>cases hu;cases hv;exact h
   |succ i =>
    rw[Kr] at hu hv;have h1:=(Aj.mp hv).1;exact o.st (i:=i) (by rw[Cc (by lia)];exact hu) (by rw[Cc h1];exact hv)
  ·refine o.st (i:=zs.length) ?_ ?_
   ·rw[Cc (by simp),<- Bh (by simp),Dq];rfl
   ·rw[Ef (by simp)];simp
theorem IsRing.apart(F:Fol ps g){s:Pth}(hs:∀q,g q≠some s)(t:Trk g s ys):∀{i:Nat} {p:Pth},ys[i]?=some p->¬IsRing g p
 |0,p,h,r=>by
  rw[t.hd] at h;cases h;obtain⟨_,x,_,_,hx⟩:=r;exact hs x hx
 |i+1,p,h,r=>by
  have hlt:=(Aj.mp h).1;have hx:=Bx (show i<ys.length by lia);exact IsRing.apart F hs t hx (r.pred F (t.st hx h))
theorem z3r(F:Fol ps g)(hn:¬IsRing g p):∀(k:Nat) {s:Pth} {xs:List Pth},ps.length-xs.length=k->s∈ps->Trk g s xs->xs.getLast?=some p->∃s' ys,s'∈ps/\(∀q,g q≠some s')/\Trk g s' ys/\ys.getLast?=some p
 |k,s,xs,hk,hs,t,hl=>by
  by_cases h:∃q,g q=some s
  ·obtain⟨q,hq⟩:=h;have hnq:q∉xs:=fun hm=>by
    obtain⟨i,hi⟩:=Ba.mp hm;cases e:xs[i+1]? with
    |some v =>
     have:=t.st hi e;rw[hq] at this;cases this;have:=x0l t.nd e t.hd;lia
    |none =>
     obtain rfl:=q2r hi e hl;exact hn ((t.ring hl hq).pred F hq)
   have t2:Trk g q (q::xs):=⟨rfl,(fun{i u v} hu hv=>by
    cases i with
    |zero =>
     cases hu;rw[Kr,t.hd] at hv;cases hv;exact hq
    |succ i=>exact t.st (i:=i) hu hv),Bp.mpr ⟨hnq,t.nd⟩⟩
   have l2:xs.length+1<=ps.length:=t2.len F (F.dom hq);cases k with
   |zero=>lia
   |succ k =>
    refine z3r F hn k (xs:=q::xs) (by rw[By];lia) (F.dom hq) t2 ?_;rw[So,hl];rfl
  ·exact⟨s,xs,hs,fun q hq=>h ⟨q,hq⟩,t,hl⟩
end
def nx(bl:Bool)(ps:List Pth)(f:Pth->Pth)(p:Pth):Option Pth:=if p∈ps/\f p≠p then ps.find? (fun q=>decide (fold bl q=fold bl (f p)/\q≠p)) else none
theorem q1b{bl:Bool}{rows:List Rw}(hl:Hl bl rows){f:Pth->Pth}{p q:Pth}:nx bl (rows.map (·.1)) f p=some q↔p∈rows.map (·.1)/\f p≠p/\q∈rows.map (·.1)/\fold bl q=fold bl (f p)/\q≠p:=by
 unfold nx;constructor
 ·intro h;split at h
  ·rename_i hc;have h1:=Us h;have h2:=Oi h;exact⟨hc.1,hc.2,h2,(of_decide_eq_true h1).1,(of_decide_eq_true h1).2⟩
  ·cases h
 ·rintro⟨h1,h2,h3,h4,h5⟩;rw[if_pos ⟨h1,h2⟩];cases e:(rows.map (·.1)).find? (fun q=>decide (fold bl q=fold bl (f p)/\q≠p)) with
  |none=>exact absurd (decide_eq_true (show fold bl q=fold bl (f p)/\q≠p from⟨h4,h5⟩)) (by have:=List.find?_eq_none.mp e q h3;simpa using this)
  |some z =>
   have g0:=Us e;have g1:=of_decide_eq_true g0;have g2:=Oi e;have nd:((rows.map (·.1)).map (fold bl)).Nodup:=by rw[Ap];exact hl.nd
   rw[q0t nd g2 h3 (g1.1.trans h4.symm)]
theorem z7x{bl:Bool}{rows:List Rw}(hl:Hl bl rows){f:Pth->Pth}(ap:Apart bl rows f):Fol (rows.map (·.1)) (nx bl (rows.map (·.1)) f):=by
 refine⟨fun{p q x} h1 h2=>?_,fun{p x} h=>((q1b hl).mp h).2.2.1,fun{p x} h=>((q1b hl).mp h).1⟩;obtain⟨a1,_,_,a4,_⟩:=(q1b hl).mp h1;obtain⟨b1,_,_,b4,_⟩:=(q1b hl).mp h2;have ap':((rows.map (·.1)).map fun p=>fold bl (f p)).Nodup:=ap;exact q0t ap' a1 b1 (a4.symm.trans b4)
end
end K
set_option maxHeartbeats 4000000
namespace K
open PySem L2 TX SB HM
section
variable{P:Program}{w:World}{K:Ak}{mg:Str->Option Value}{base:Heap}
abbrev qR(qs:List (Addr×Mv)):HO:=dR (qs.map fun x=>(x.2.1,.ref x.1))
def mvs(ms:List Mv):List Pth:=(ms.filter fun m=>decide (m.2≠m.1)).map (·.1)
theorem mvs_in{ms:List Mv}{p:Pth}:p∈mvs ms↔∃q,(p,q)∈ms/\q≠p:=by
 unfold mvs;constructor
 ·intro h;obtain⟨m,hm,rfl⟩:=Ac.mp h;obtain⟨h1,h2⟩:=Cp.mp hm;exact⟨m.2,h1,of_decide_eq_true h2⟩
 ·rintro⟨q,h1,h2⟩;exact Ac.mpr ⟨(p,q),Cp.mpr ⟨h1,decide_eq_true h2⟩,rfl⟩
theorem x1q{ms:List Mv}(nd:(ms.map (·.1)).Nodup):(mvs ms).Nodup:=nd.sublist (Ru.map _)
theorem q7a{H:Hp}{D b:Addr}{ps:List (Addr×Mv)}{x:Addr×Mv}(rd:Rd H D (qR ps))(nd:((ps.map (·.2)).map (·.1)).Nodup)(hx:x∈ps)(hb:H b=some (.tup (vP x.2.1))):DGet H D (.ref b) (some (.ref x.1)):=by
 have e:=q5a (rs:=ps.map fun x=>((x.2.1,.ref x.1):HRow)) (r:=(x.2.1,.ref x.1)) (Ac.mpr ⟨x,hx,rfl⟩) (by rw[Ap] at nd ⊢;exact nd);rw[<- e];exact .inr ⟨_,kP x.2.1,b,rd,rfl,by rw[q1x];exact hb,rfl⟩
def spMoves:Sp:=fun vs H Q _=>∃D qs,vs=[.ref D]/\PDt H D qs/\okMs (qs.map (·.2))/\((qs.map (·.2)).map (·.1)).Nodup/\qs.length<=60/\∀L zs H',H L=none->Same H H'->PL H' L zs->zs.map (·.2)=mvs (qs.map (·.2))->Q (.ref L) H'
abbrev q1s:Stmt:=top 22
theorem q4o:FnScope ["places"] ["places"] (defScope q1s):=⟨rfl,rfl,rfl,by decide +kernel,rfl,by decide +kernel,by decide +kernel⟩
theorem x0m(D:Df K mg "things_that_move" q1s ["places"])(T:Txt mg):Cal P w K mg base "things_that_move" 1 ["places"] spMoves:=by
 refine D.cal q4o (fun vs H Q E h=>?_) (fun f cdv A outer s H vs Q E hr h=>?_)
 ·obtain⟨D,qs,rfl,_⟩:=h;rfl
 ·obtain⟨D,qs,rfl,pd,okm,nd,h60,k⟩:=h;refine⟨_,(q0f (q0l (x2y H rfl (q3c ["path"] [("places",0)] rfl (@q4w _ _ _ _ K rfl (pv 0)) (fun _ _ _ _ _=>(q0h (i:=0) (show(["path", "places"]:List Str).Nodup by decide +kernel) rfl (by first|exact Or.inl rfl|exact Or.inr rfl))) (fun _ _ _ _ _=>(q3p (q0k (ne_k K rfl hr) (q0w (q1c hr) (pv 1) (pv 0) (fun _ _=>rfl)) (pv 0) (nomark _)))) (fun _ _ _ _ _=>(pv 0)))))),?_⟩;refine⟨D,(fun o v e=>by rw[pd.at_] at e;cases e),?_⟩;refine⟨_,rfl,D,_,rfl,pd.at_,fun ob=>?_⟩;intro Dc hDc;have hDD:Dc≠D:=fun z=>by rw[z,q0b] at hDc;cases hDc
  have hDcH:H Dc=none:=by rw[q0c hDD] at hDc;exact hDc
  have kv0:((qs.map fun x=>((x.2.1,.ref x.1):HRow)).map fun r=>(kP r.1,r.2)).length=qs.length:=by rw[Ab,Ab]
  refine q5f (n:=qs.length) (fun j ys H'=>∃zs:List Zp,ys=zs.map (fun z=>V.ref z.1)/\zs.map (·.2)=mvs ((qs.map (·.2)).take j)/\(∀z∈zs,H' z.1=some (.tup (vP z.2))/\okP z.2)/\H' D=some (.frz ob (qR qs))/\(∀c u,c≠D->H c=some u->H' c=some u)/\H' Dc=some (.lst ys))
   ⟨[],rfl,rfl,(fun _ h=>nomatch h),by rw[q0c hDD.symm];exact q0b,fun c u hc e=>by rw[q0c (q0i e hDcH),q0c hc];exact e,q0b⟩ (fun j ys H' x=>by obtain⟨_,_,_,_,_,_,h⟩:=x;exact h) (fun j ys H' hj x=>by obtain⟨_,_,_,_,hf,_,_⟩:=x;exact⟨hf,by rw[kv0];exact hj⟩) (fun ys H' x=>by obtain⟨_,_,_,_,hf,_,_⟩:=x;exact⟨hf,by rw[kv0];exact Aq _⟩) ?_ ?_
  ·rintro j ys H1 v H2 hj ⟨zs,rfl,ez,hz,hfz,kp,hDl⟩ ⟨rfl,ky,vv,pb,hk',hb,rfl⟩;obtain⟨y,hy,rfl,rfl⟩:∃y,qs[j]?=some y/\ky=kP y.2.1/\vv=.ref y.1:=by
    rw[Ae,Ae] at hk';cases e:qs[j]? with
    |none=>rw[e] at hk';cases hk'
    |some r=>rw[e] at hk';cases hk';exact⟨r,rfl,rfl,rfl⟩
   rw[q1x] at hb;have hym:=Ag hy;have hyo:=okm y.2 (Ac.mpr ⟨y,hym,rfl⟩);have hyt:H2 y.1=some (.tup (vP y.2.2)):=kp _ _ (fun z=>by have e:=pd.pr y hym;rw[z,pd.at_] at e;cases e) (pd.pr y hym);have e1:(qs.map (·.2)).take (j+1)=(qs.map (·.2)).take j++[y.2]:=by rw[Bc,Ae,hy];rfl
   have zl:zs.length<=60:=by
    have:=congrArg List.length ez;unfold mvs at this;rw[Ab,Ab] at this;have l2:=Cr (fun m:Mv=>decide (m.2≠m.1)) ((qs.map (·.2)).take j);rw[Bm,Ab] at l2;lia
   refine⟨q0u,_,rfl,_,rfl,D,_,rfl,q7a (.inr ⟨ob,hfz⟩) nd hym hb,_,rfl,q2v hyt hb hyo.2.low hyo.1.low ⟨_,rfl,?_⟩⟩;refine iteB (fun hc=>?_) (fun hc=>?_)
   ·have tk:∀S xs,H2 S=some (.tup xs)->upd H2 Dc (.lst (zs.map (fun z=>V.ref z.1)++[.ref pb])) S=some (.tup xs):=fun S xs e=>by
     rw[q0c (fun z=>by rw[z,hDl] at e;cases e)];exact e
    refine⟨_,rfl,hDl,small' (by rw[Ab];lia),zs++[(pb,y.2.1)],by rw[Af];rfl,?_,fun z hz'=>?_,by rw[q0c hDD.symm];exact hfz,fun c u hc e=>by rw[q0c (q0i e hDcH)];exact kp c u hc e,q0b⟩
    ·unfold mvs at ez ⊢;rw[e1,Dl,Cu (by simpa using hc),Af,Af,ez];rfl
    ·rcases Am.mp hz' with hz'|hz'
     ·exact⟨tk _ _ (hz z hz').1,(hz z hz').2⟩
     ·rw[Ai.mp hz'];exact⟨tk _ _ hb,hyo.1⟩
   ·refine⟨zs,rfl,?_,hz,hfz,kp,hDl⟩;unfold mvs at ez ⊢;rw[e1,Dl,Ct (by simpa using hc),Af,ez];simp
  ·rintro ys H1 ⟨zs,rfl,ez,hz,hfz,kp,hDl⟩;rw[<- Ab (f:=fun x:Addr×Mv=>x.2),Bb] at ez;have s1:Same H (upd H1 D (qR qs)):=q2f pd.at_ kp;exact⟨ob,_,hfz,k Dc zs _ hDcH s1 ⟨by rw[q0c hDD];exact hDl,fun z hz'=>⟨by rw[q0c (fun y=>by have e:=(hz z hz').1;rw[y,hfz] at e;cases e)];exact(hz z hz').1,(hz z hz').2⟩⟩ ez⟩
def nxL(g:Pth->Option Pth)(ps:List Pth):List Mv:=ps.filterMap fun p=>(g p).map fun q=>(p,q)
theorem nxL_in{g:Pth->Option Pth}{ps:List Pth}{m:Mv}:m∈nxL g ps↔m.1∈ps/\g m.1=some m.2:=by
 unfold nxL;constructor
 ·intro h;obtain⟨p,hp,e⟩:=Jv.mp h;cases eg:g p with
  |none=>rw[eg] at e;cases e
  |some q=>rw[eg] at e;cases e;exact⟨hp,eg⟩
 ·rintro⟨h1,h2⟩;exact Jv.mpr ⟨m.1,h1,by rw[h2];rfl⟩
theorem q9p{g:Pth->Option Pth}:∀{ps:List Pth},((nxL g ps).map (·.1)).Sublist ps
 |[]=>Ky _
 |p::ps=>by
  have ih:=q9p (g:=g) (ps:=ps);unfold nxL at ih ⊢;rw[Hw];cases g p with
  |none=>exact ih.cons _
  |some q=>exact ih.cons₂ _
theorem z2n{g:Pth->Option Pth}{ps:List Pth}{p:Pth}:nxL g (ps++[p])=nxL g ps++(match g p with|some q=>[(p,q)]|none=>[]):=by
 unfold nxL;rw[List.filterMap_append,Hw];cases g p<;>rfl
structure NxD (H:Hp) (N:Addr) (ns:List (Addr×Mv)) (g:Pth->Option Pth):Prop where
 pd:PDt H N ns
 nd:((ns.map (·.2)).map (·.1)).Nodup
 is:∀{m:Mv},m∈ns.map (·.2)↔g m.1=some m.2
theorem NxD.same{H H':Hp}{N:Addr}{ns:List (Addr×Mv)}{g:Pth->Option Pth}(x:NxD H N ns g)(s:Same H H'):NxD H' N ns g:=⟨x.pd.same s,x.nd,x.is⟩
theorem NxD.get{H:Hp}{N b:Addr}{ns:List (Addr×Mv)}{g:Pth->Option Pth}{p:Pth}(x:NxD H N ns g)(hb:H b=some (.tup (vP p))):(g p=none/\DGet H N (.ref b) none)\/∃q e,g p=some q/\DGet H N (.ref b) (some (.ref e))/\H e=some (.tup (vP q)):=by
 rcases x.pd.get x.nd hb with⟨hn,dg⟩|⟨y,hy,ey,dg,_⟩
 ·left;refine⟨?_,dg⟩;cases e:g p with
  |none=>rfl
  |some q=>exact absurd (Ac.mpr ⟨(p,q),x.is.mpr e,rfl⟩) hn
 ·have hm:=x.is.mp (Ac.mpr ⟨y,hy,rfl⟩);rw[ey] at hm;exact .inr ⟨y.2.2,y.1,hm,dg,x.pd.pr y hy⟩
structure CallsNx (P:Program) (w:World) (K:Ak) (mg:Str->Option Value) (base:Heap) (c:Addr):Prop where
 things_that_move:Cal P w K mg base "things_that_move" 1 ["places"] spMoves
 m_there:MCal P w K mg base c "there" 3 ["self", "place"] (spThere1 c)
def spNext(c:Addr):Sp:=fun vs H Q _=>∃h d D bl rows ms qs,vs=[.ref h,.ref D]/\HallAt c H h d bl rows/\Hl bl rows/\rows.length<=30/\GoodW rows ms/\PDt H D qs/\(qs.map (·.2)).Perm (rows.map fun r=>(r.1,plc ms r.1)) /\
 ∀N ns H',H N=none->Same H H'->NxD H' N ns (nx bl (rows.map (·.1)) (plc ms))->Q (.ref N) H'
theorem q9q{rows:List Rw}{f:Pth->Pth}{qs:List (Addr×Mv)}(p:(qs.map (·.2)).Perm (rows.map fun r=>(r.1,f r.1))):((qs.map (·.2)).map (·.1)).Perm (rows.map (·.1)):=by
 have:=p.map (·.1);rw[Ap (l:=rows)] at this;exact this
theorem z7y{rows:List Rw}{f:Pth->Pth}{qs:List (Addr×Mv)}(p:(qs.map (·.2)).Perm (rows.map fun r=>(r.1,f r.1))){x:Addr×Mv}(hx:x∈qs):x.2.1∈rows.map (·.1)/\x.2.2=f x.2.1:=by
 obtain⟨r,hr,e⟩:=Ac.mp (p.mem_iff.mp (Ac.mpr ⟨x,hx,rfl⟩));rw[<- e];exact⟨Ac.mpr ⟨r,hr,rfl⟩,rfl⟩
theorem x1r{bl:Bool}{rows:List Rw}{ms:List Mv}{qs:List (Addr×Mv)}(hl:Hl bl rows)(gw:GoodW rows ms)(p:(qs.map (·.2)).Perm (rows.map fun r=>(r.1,plc ms r.1))):okMs (qs.map (·.2)):=fun m hm=>by
 obtain⟨x,hx,rfl⟩:=Ac.mp hm;obtain⟨h1,h2⟩:=z7y p hx;obtain⟨r,hr,e⟩:=Ac.mp h1;exact⟨by rw[<- e];exact hl.ok r hr,by rw[h2];exact q1o hl gw h1⟩
theorem z2o{rows:List Rw}{f:Pth->Pth}{qs:List (Addr×Mv)}(p:(qs.map (·.2)).Perm (rows.map fun r=>(r.1,f r.1))){x:Pth}:x∈mvs (qs.map (·.2))↔x∈rows.map (·.1)/\f x≠x:=by
 rw[mvs_in];constructor
 ·rintro⟨q,h1,h2⟩;obtain⟨r,hr,e⟩:=Ac.mp (p.mem_iff.mp h1);cases e;exact⟨Ac.mpr ⟨r,hr,rfl⟩,h2⟩
 ·rintro⟨h1,h2⟩;obtain⟨r,hr,rfl⟩:=Ac.mp h1;exact⟨f r.1,p.mem_iff.mpr (Ac.mpr ⟨r,hr,rfl⟩),h2⟩
abbrev q3x:Stmt:=top 23
theorem sc_next_ones:FnScope ["hall", "places", "told", "path", "other"] ["hall", "places"] (defScope q3x):=⟨rfl,rfl,rfl,by decide +kernel,rfl,by decide +kernel,by decide +kernel⟩
theorem x3t{c:Addr}(D:Df K mg "next_ones" q3x ["hall", "places"])(T:Txt mg)(C:CallsNx P w K mg base c):Cal P w K mg base "next_ones" 4 ["hall", "places"] (spNext c):=by
 refine D.cal sc_next_ones (fun vs H Q E h=>?_) (fun f cdv A outer s H vs Q E hr h=>?_)
 ·obtain⟨h,d,D,bl,rows,ms,qs,rfl,_⟩:=h;rfl
 ·obtain⟨h,d,D,bl,rows,ms,qs,rfl,hh,hl,h30,gw,pd,pm,k⟩:=h;refine⟨_,(q0d (q0j (i:=2) sc_next_ones.nd rfl (by first|exact Or.inl rfl|exact Or.inr rfl) q3d) (q0d (q1f Bi rfl (@q3a _ _ _ _ K rfl (pe_c C.things_that_move hr (q0a (pv 1) q0e))) (q0h (i:=3) sc_next_ones.nd rfl (by first|exact Or.inl rfl|exact Or.inr rfl)) (q0d (q0j (i:=4) sc_next_ones.nd rfl (by first|exact Or.inl rfl|exact Or.inr rfl) (pe_m C.m_there hr (pv 0) (q0a (q0w (q1c hr) (pv 1) (pv 3) (fun _ _=>rfl)) q0e))) (q0f (q1e (pt_j (@PW.pt _ _ _ (q2s (q2a (q6e (pv 4))) (q1u (q0k (ne_k K rfl hr) (pv 4) (pv 3) (nomark _)))))) (q0f (q3q (q1c hr) (pv 2) (pv 3) (pv 4) rfl)) q0n)))) (q0f (q0l (pv 2))))),?_⟩;have okq:=x1r hl gw pm;have ndq:((qs.map (·.2)).map (·.1)).Nodup:=(q9q pm).nodup_iff.mpr hl.paths;have ql:qs.length<=30:=by have:=pm.length_eq;rw[Ab,Ab] at this;lia
  obtain⟨dx,hi⟩:=hh.i;intro N hN;have s1:=(Same.refl H).new (o:=.dT []) hN;have hN1:upd H N (.dT []) N=some (.dT []):=q0b;generalize upd H N (.dT [])=H1 at s1 hN1;refine⟨_,rfl,D,qs,rfl,pd.same s1,okq,ndq,by lia,fun L zs H2 hL s2 pl ez=>?_⟩;refine .inl ⟨L,rfl,⟨_,SqL.of pl.at_⟩,?_⟩;have ndz:(zs.map (·.2)).Nodup:=by rw[ez];exact x1q ndq
  have hN2:=s2 _ _ hN1;have s12:=s1.trans s2;refine q2j (fun i σ' H'=>∃ns x3 x4,σ'=[some (.ref h),some (.ref D),some (.ref N),x3,x4]/\Same H H'/\PL H' L zs/\PDt H' N ns/\ns.map (·.2)=nxL (nx bl (rows.map (·.1)) (plc ms)) ((zs.map (·.2)).take i)) ⟨[],none,none,rfl,s12,pl,⟨hN2,(fun _ h=>nomatch h)⟩,rfl⟩ (fun i σ' H' _ x=>by obtain⟨_,_,_,_,_,pl',_⟩:=x;exact SqL.of pl'.at_) ?_ ?_
  ·rintro i v σ' H3 hv ⟨ns,x3,x4,rfl,s3,pl3,pdN,ens⟩;obtain⟨z,hz,rfl⟩:∃z,zs[i]?=some z/\v=.ref z.1:=by
    rw[Ae] at hv;cases e:zs[i]? with
    |none=>rw[e] at hv;cases hv
    |some z=>rw[e] at hv;cases hv;exact⟨z,rfl,rfl⟩
   have hzm:=Ag hz;have hzr:(zs.map (·.2))[i]?=some z.2:=by rw[Ae,hz];rfl
   have e1:(zs.map (·.2)).take (i+1)=(zs.map (·.2)).take i++[z.2]:=by rw[Bc,hzr];rfl
   have hmv:z.2∈mvs (qs.map (·.2)):=by rw[<- ez];exact Ac.mpr ⟨z,hzm,rfl⟩
   obtain⟨hin,hne⟩:=(z2o pm).mp hmv;obtain⟨q,hq,_⟩:=mvs_in.mp hmv;obtain⟨x,hx,ex⟩:=Ac.mp hq;have hb3:=(pl3.pr z hzm).1;have ex1:x.2.1=z.2:=by rw[ex]
   have ex2:x.2.2=plc ms z.2:=by rw[<- ex1];exact(z7y pm hx).2
   have hx3:=(pd.same s3).pr x hx;rw[ex2] at hx3;have dg:=q7a (b:=z.1) (.inl (pd.same s3).at_) ndq hx (by rw[ex1];exact hb3);refine⟨_,rfl,h,dx,_,rfl,s3 _ _ hi,rfl,_,rfl,_,rfl,D,_,rfl,dg,h,d,x.1,bl,rows,_,rfl,hh.same s3,hx3,q1o hl gw hin,hl.ok,fun H4 ov s4 hov=>?_⟩;have s34:=s3.trans s4;have pl4:=pl3.same s4;have pdN4:=pdN.same s4;have nl:ns.length<=30:=by
    have e:=congrArg List.length ens;have l1:=(q9p (g:=nx bl (rows.map (·.1)) (plc ms)) (ps:=(zs.map (·.2)).take i)).length_le;rw[Ab] at l1 e;have l2:=congrArg List.length ez;unfold mvs at l2;have l3:=Cr (fun m:Mv=>decide (m.2≠m.1)) (qs.map (·.2));rw[Bm,Ab] at l1;rw[Ab,Ab] at l2;rw[Ab] at l3;lia
   rcases hov with⟨rfl,no⟩|⟨e1',r,rfl,hrr,hf,he⟩
   ·have hnx:nx bl (rows.map (·.1)) (plc ms) z.2=none:=by
     cases e:nx bl (rows.map (·.1)) (plc ms) z.2 with
     |none=>rfl
     |some q =>
      obtain⟨_,_,h3,h4,_⟩:=(q1b hl).mp e;obtain⟨r,hr',rfl⟩:=Ac.mp h3;exact absurd h4 (no r hr')
    refine⟨fun bb H5=>bb=false/\H5=H4,?_,⟨_,rfl,_,rfl,iteF ⟨rfl,rfl⟩⟩⟩;rintro bb H5 ⟨rfl,rfl⟩;exact iteF ⟨ns,_,_,rfl,s34,pl4,pdN4,by rw[e1,z2n,hnx,ens];simp⟩
   ·refine⟨fun bb H5=>bb=(!decide (r.1=z.2))/\H5=H4,?_,⟨_,rfl,_,rfl,iteT ⟨_,rfl,_,rfl,q2v he (s4 _ _ hb3) (hl.ok r hrr).low (pl3.pr z hzm).2.low ⟨_,rfl,rfl,rfl⟩⟩⟩⟩;rintro bb H5 ⟨rfl,rfl⟩;refine iteB (fun hc=>?_) (fun hc=>?_)
    ·have hc':r.1≠z.2:=by simpa using hc
     have hnx:nx bl (rows.map (·.1)) (plc ms) z.2=some r.1:=(q1b hl).mpr ⟨hin,hne,Ac.mpr ⟨r,hrr,rfl⟩,hf,hc'⟩;have hno:∀y∈(ns.map fun x=>((x.2.1,.ref x.1):HRow)),y.1≠z.2:=fun y hy z'=>by
      obtain⟨x',hx',rfl⟩:=Ac.mp hy;have hx2:x'.2∈nxL (nx bl (rows.map (·.1)) (plc ms)) ((zs.map (·.2)).take i):=by rw[<- ens];exact Ac.mpr ⟨x',hx',rfl⟩
      have h1:=(nxL_in.mp hx2).1;have z2:x'.2.1=z.2:=z';rw[z2] at h1;have nd2:((zs.map (·.2)).take (i+1)).Nodup:=ndz.sublist (Ks _ _);rw[e1] at nd2;exact(Dj.mp nd2).2.2 _ h1 _ (Ai.mpr rfl) rfl
     refine⟨_,rfl,_,rfl,_,rfl,N,_,rfl,DPut.t (k:=kP z.2) pdN4.at_ (by rw[q1x];exact s4 _ _ hb3) (by rw[Ab,Ab];exact small' (by lia)),?_⟩;rw[q2d (v:=.ref e1') hno];have nN:∀(x:Addr) (u:HO),H5 x=some u->(∀kvs,u≠.dT kvs)->upd H5 N (dR ((ns.map fun x=>((x.2.1,.ref x.1):HRow))++[(z.2,.ref e1')])) x=some u:=fun x u e n=>by
      rw[q0c (fun y=>by rw[y,pdN4.at_] at e;cases e;exact n _ rfl)];exact e
     refine⟨ns++[(e1',(z.2,r.1))],_,_,rfl,s34.put hN,⟨nN _ _ pl4.at_ (fun _ y=>by cases y),fun y hy=>⟨nN _ _ (pl4.pr y hy).1 (fun _ y=>by cases y),(pl4.pr y hy).2⟩⟩,⟨by rw[q0b,Af (l₁:=ns)];rfl,fun y hy=>?_⟩,by rw[e1,z2n,hnx,Af,ens];rfl⟩;rcases Am.mp hy with hy|hy
     ·exact nN _ _ (pdN4.pr y hy) (fun _ y=>by cases y)
     ·rw[Ai.mp hy];exact nN _ _ he (fun _ y=>by cases y)
    ·have hc':r.1=z.2:=by simpa using hc
     have hnx:nx bl (rows.map (·.1)) (plc ms) z.2=none:=by
      cases e:nx bl (rows.map (·.1)) (plc ms) z.2 with
      |none=>rfl
      |some q =>
       obtain⟨_,_,h3,h4,h5⟩:=(q1b hl).mp e;have nd:((rows.map (·.1)).map (fold bl)).Nodup:=by rw[Ap];exact hl.nd
       exact absurd ((q0t nd h3 (Ac.mpr ⟨r,hrr,rfl⟩) (h4.trans hf.symm)).trans hc') h5
     exact⟨ns,_,_,rfl,s34,pl4,pdN4,by rw[e1,z2n,hnx,ens];simp⟩
  ·rintro σ' H3 ⟨ns,x3,x4,rfl,s3,pl3,pdN,ens⟩;rw[Ab,<- Ab (f:=fun z:Zp=>z.2),Bb] at ens;refine⟨_,rfl,k N ns H3 hN s3 ⟨pdN,?_,fun{m}=>?_⟩⟩
   ·rw[ens];exact ndz.sublist q9p
   ·rw[ens,nxL_in,ez,z2o pm];exact⟨fun x=>x.2,fun x=>⟨⟨((q1b hl).mp x).1,((q1b hl).mp x).2.1⟩,x⟩⟩
end
end K
set_option maxHeartbeats 4000000
namespace K
open PySem L2 TX SB HM
section
variable{P:Program}{w:World}{K:Ak}{mg:Str->Option Value}{base:Heap}
structure CallsAsk (P:Program) (w:World) (K:Ak) (mg:Str->Option Value) (base:Heap) (c:Addr):Prop where
 ask_wishes:Cal P w K mg base "ask_wishes" 8 ["hall", "wishes"] (spAsk c)
 all_places:Cal P w K mg base "all_places" 6 ["hall", "wishes"] (spAllP c)
 things_that_move:Cal P w K mg base "things_that_move" 1 ["places"] spMoves
 next_ones:Cal P w K mg base "next_ones" 4 ["hall", "places"] (spNext c)
structure GW (c:Addr) (H:Hp) (h d L:Addr) (bl:Bool) (rows:List Rw) (zs:List Zm):Prop where
 ha:HallAt c H h d bl rows
 hl:Hl bl rows
 few:rows.length<=30
 ml:ML H L zs
 gw:GoodW rows (zs.map (·.2))
 len:zs.length<=60
 ap:Apart bl rows (plc (zs.map (·.2)))
theorem GW.same{c:Addr}{H H':Hp}{h d L:Addr}{bl:Bool}{rows:List Rw}{zs:List Zm}(g:GW c H h d L bl rows zs)(s:Same H H'):GW c H' h d L bl rows zs:=⟨g.ha.same s,g.hl,g.few,g.ml.same s,g.gw,g.len,g.ap⟩
structure Mvg (bl:Bool) (rows:List Rw) (f:Pth->Pth) (ms:List Pth):Prop where
 nd:ms.Nodup
 is:∀{p},p∈ms↔p∈rows.map (·.1)/\f p≠p
def spAN(c:Addr):Sp:=fun vs H Q _=>∃h d L bl rows zs,vs=[.ref h,.ref L]/\GW c H h d L bl rows zs /\
 ∀T M mz N ns H',Same H H'->H M=none->H N=none->H' T=some (.tup [.ref M,.ref N])->PL H' M mz->Mvg bl rows (plc (zs.map (·.2))) (mz.map (·.2))->NxD H' N ns (nx bl (rows.map (·.1)) (plc (zs.map (·.2))))->Q (.ref T) H'
abbrev q1z:Stmt:=top 24
theorem sc_asked_next_ones:FnScope ["hall", "wishes", "places"] ["hall", "wishes"] (defScope q1z):=⟨rfl,rfl,rfl,by decide +kernel,rfl,by decide +kernel,by decide +kernel⟩
theorem x0n{c:Addr}(D:Df K mg "asked_next_ones" q1z ["hall", "wishes"])(T:Txt mg)(C:CallsAsk P w K mg base c):Cal P w K mg base "asked_next_ones" 9 ["hall", "wishes"] (spAN c):=by
 refine D.cal sc_asked_next_ones (fun vs H Q E h=>?_) (fun f cdv A outer s H vs Q E hr h=>?_)
 ·obtain⟨h,d,L,bl,rows,zs,rfl,_⟩:=h;rfl
 ·obtain⟨h,d,L,bl,rows,zs,rfl,G,k⟩:=h;refine⟨_,(q0d (q2b (pe_c C.ask_wishes hr (q0a (pv 0) (q0a (pv 1) q0e)))) (q0d (q0j (i:=2) sc_asked_next_ones.nd rfl (by first|exact Or.inl rfl|exact Or.inr rfl) (pe_c C.all_places hr (q0a (pv 0) (q0a (pv 1) q0e)))) (q0f (q0l (q1g (q0a (pe_c C.things_that_move hr (q0a (pv 2) q0e)) (q0a (pe_c C.next_ones hr (q0a (pv 0) (q0a (pv 2) q0e))) q0e))))))),?_⟩;refine⟨_,rfl,_,rfl,h,d,L,bl,rows,zs,rfl,G.ha,G.hl,G.few,G.ml,G.gw,G.len,G.ap,fun H1 s1=>?_⟩;have G1:=G.same s1;refine⟨_,rfl,_,rfl,h,d,L,bl,rows,zs,rfl,G1.ha,G.hl,by have:=G.few;lia,G1.ml,G.gw,G.len,fun D0 ps0 rs H2 hD0 s2 pd0 pm0 pw0 e0=>?_⟩;have s12:=s1.trans s2;have pm:(ps0.map (·.2)).Perm (rows.map fun r=>(r.1,plc (zs.map (·.2)) r.1)):=by rw[e0];exact pm0.map _
  have ndq:((ps0.map (·.2)).map (·.1)).Nodup:=(q9q pm).nodup_iff.mpr G.hl.paths;have pl:ps0.length<=30:=by have:=pm.length_eq;rw[Ab,Ab] at this;have:=G.few;lia
  refine⟨_,rfl,D0,ps0,rfl,pd0,x1r G.hl G.gw pm,ndq,by lia,fun M mz H3 hM s3 pl3 ez=>?_⟩;refine⟨_,rfl,_,rfl,h,d,D0,bl,rows,_,ps0,rfl,(G.same (s12.trans s3)).ha,G.hl,G.few,G.gw,pd0.same s3,pm,fun N ns H4 hN s4 nxd=>?_⟩;refine⟨by show 2<=sizeLine;decide,fun T' hT=>?_⟩;have sT:=(Same.refl H4).new (o:=.tup [.ref M,.ref N]) hT;have s03:=s12.trans s3;exact k T' M mz N ns _ ((s03.trans s4).trans sT) (s12.free hM) (s03.free hN) q0b ((pl3.same s4).same sT) ⟨by rw[ez];exact x1q ndq,fun{p}=>by rw[ez];exact z2o pm⟩ (nxd.same sT)
theorem x3u{H:Hp}{b:Addr}{p:Pth}{Q:VK}(hb:H b=some (.tup (vP p)))(lp:Low p)(k:Q (.bl false) H):rEqU K .non (.ref b) H Q:=by
 refine .inr ⟨_,_,.non,q1y hb,rfl,q2g lp,by simp only[Ht];lia,?_⟩;simp only[Ey];exact k
def spFrom:Sp:=fun vs H Q _=>∃b N ns g ps p,vs=[.ref b,.ref N]/\H b=some (.tup (vP p))/\NxD H N ns g/\Fol ps g/\p∈ps/\ps.length<=30/\(∀x∈ps,okP x)/\∀L zs H',H L=none->Same H H'->PL H' L zs->Orb g p (zs.map (·.2))->Q (.ref L) H'
abbrev q2i:Stmt:=top 25
theorem sc_from_thing_on:FnScope ["path", "nexts", "told"] ["path", "nexts"] (defScope q2i):=⟨rfl,rfl,rfl,by decide +kernel,rfl,by decide +kernel,by decide +kernel⟩
theorem x3v(D:Df K mg "from_thing_on" q2i ["path", "nexts"])(T:Txt mg):Cal P w K mg base "from_thing_on" 1 ["path", "nexts"] spFrom:=by
 refine D.cal sc_from_thing_on (fun vs H Q E h=>?_) (fun f cdv A outer s H vs Q E hr h=>?_)
 ·obtain⟨b,N,ns,g,ps,p,rfl,_⟩:=h;rfl
 ·obtain⟨b,N,ns,g,ps,p,rfl,hb,nxd,F,hp,h30,oks,k⟩:=h;refine⟨_,(q0d (q0j (i:=2) sc_from_thing_on.nd rfl (by first|exact Or.inl rfl|exact Or.inr rfl) (q1t (q0a (pv 0) q0e))) (q0d (q8q Bi (pt_j (@PW.pt _ _ _ (q2s (q2a (z6l (q1c hr) (q1m (ix_k K rfl) (pv 2) (q1l q0s q0g) (fun _ _=>rfl)) (pv 1))) (q1u (q0k (ne_k K rfl hr) (q0w (q1c hr) (pv 1) (q1m (ix_k K rfl) (pv 2) (q1l q0s q0g) (fun _ _=>rfl)) (fun _ _=>rfl)) (pv 0) (nomark _)))))) (q0f (q2b (@bm_k _ _ _ _ _ _ _ _ _ _ _ _ K rfl Cv Dg Dh q1w (pv 2) (q0a (q0w (q1c hr) (pv 1) (q1m (ix_k K rfl) (pv 2) (q1l q0s q0g) (fun _ _=>rfl)) (fun _ _=>rfl)) q0e) (by rfl) (by rfl) (by rfl) (by rfl) (by rfl))))) (q0f (q0l (pv 2))))),?_⟩;refine⟨_,rfl,by show 1<=sizeLine;decide,fun L hL=>?_⟩;have s1:=(Same.refl H).new (o:=.lst [.ref b]) hL;refine q8r (fun σ' H'=>∃zs:List Zp,σ'=[some (.ref b),some (.ref N),some (.ref L)]/\Same H H'/\PL H' L zs/\Trk g p (zs.map (·.2))) (fun _ H'=>100-lenAt L H') ⟨[(b,p)],rfl,s1,⟨q0b,fun z hz=>by rw[Ai.mp hz];exact⟨s1 _ _ hb,oks p hp⟩⟩,Trk.one⟩ ?_ ?_
  ·rintro σ' H1 ⟨zs,rfl,s1,pl,t⟩;have pos:zs≠[]:=fun z=>by have:=t.hd;rw[z] at this;cases this
   have hlast:=Bh pos;generalize zs.getLast pos=z at hlast;have hat:atI (zs.map fun z=>V.ref z.1) (-1)=some (.ref z.1):=q9n (by rw[Gy,hlast];rfl);have hlp:(zs.map (·.2)).getLast?=some z.2:=by rw[Gy,hlast];rfl
   have hzm:=Hd hlast;have hz1:=(pl.pr z hzm).1;have zl:zs.length<=30:=by have:=t.len F hp;rw[Ab] at this;lia
   have nx1:=nxd.same s1;refine⟨fun bb H2=>H2=H1/\(bb=true->∃q,g z.2=some q/\q≠p)/\(bb=false->g z.2=none\/g z.2=some p),?_,?_⟩
   ·rintro bb H2 ⟨rfl,hT,hF⟩;refine ite2 (fun h=>?_) (fun h=>⟨_,rfl,k L zs _ hL s1 pl ⟨t,fun{x} hx=>by rw[hlp] at hx;cases hx;exact hF (by simpa using h)⟩⟩);obtain⟨q,hq,nq⟩:=hT h;rcases nx1.get hz1 with⟨e,_⟩|⟨q',e,e1,dg,he⟩
    ·rw[hq] at e;cases e
    rw[hq] at e1;cases e1;refine⟨_,rfl,.inl ⟨rfl,_,SqL.of pl.at_⟩,_,rfl,_,rfl,_,rfl,.inl ⟨L,_,-1,_,rfl,rfl,SqL.of pl.at_,hat,N,_,rfl,dg,?_⟩⟩;refine⟨L,_,_,rfl,rfl,pl.at_,by rw[Ab];exact small' (by lia),?_⟩;have tk:∀S xs,H2 S=some (.tup xs)->upd H2 L (.lst (zs.map (fun z=>V.ref z.1)++[.ref e])) S=some (.tup xs):=fun S xs e=>by
     rw[q0c (fun z=>by rw[z,pl.at_] at e;cases e)];exact e
    have t2:=t.more F hlp hq nq;refine⟨⟨zs++[(e,q)],rfl,s1.put hL,⟨by rw[q0b,Af];rfl,fun y hy=>?_⟩,by rw[Af];exact t2⟩,?_⟩
    ·rcases Am.mp hy with hy|hy
     ·exact⟨tk _ _ (pl.pr y hy).1,(pl.pr y hy).2⟩
     ·rw[Ai.mp hy];exact⟨tk _ _ he,oks q (F.to hq)⟩
    ·rw[q4c q0b,q4c pl.at_,Al,Ab];show 100-(zs.length+1)<100-zs.length;lia
   ·refine⟨_,rfl,_,rfl,.inl ⟨L,_,-1,_,rfl,rfl,SqL.of pl.at_,hat,_,rfl,?_⟩⟩;rcases nx1.get hz1 with⟨e,dg⟩|⟨q,e,e1,dg,he⟩
    ·exact⟨N,_,rfl,dg,_,rfl,iteF ⟨rfl,(fun z=>by cases z),fun _=>.inl e⟩⟩
    ·refine⟨N,_,rfl,dg,_,rfl,iteT ?_⟩;refine⟨_,rfl,_,rfl,_,rfl,.inl ⟨L,_,-1,_,rfl,rfl,SqL.of pl.at_,hat,N,_,rfl,dg,_,rfl,q2v he (s1 _ _ hb) (oks q (F.to e1)).low (oks p hp).low ⟨_,rfl,rfl,fun h=>⟨q,e1,by simpa using h⟩,fun h=>.inr (by rw[e1];congr 1;simpa using h)⟩⟩⟩
  ·intro σ3 H3 Q1 Q2 hq h;obtain⟨R,h1,h2⟩:=h;exact⟨R,fun b H1 r=>hq _ _ (h1 b H1 r),h2⟩
end
end K
set_option maxHeartbeats 4000000
namespace K
open PySem L2 TX SB HM
section
variable{P:Program}{w:World}{K:Ak}{mg:Str->Option Value}{base:Heap}
theorem Trk.headD{g:Pth->Option Pth}{p:Pth}{xs:List Pth}(t:Trk g p xs):xs.headD []=p:=by
 have:=t.hd;cases xs with
 |nil=>cases this
 |cons a l=>exact Bj this
theorem q8l{α:Type}{f:α->Pth}{rs qs:List α}(so:(rs.map f).Pairwise (fun a b=>pLt b a=false))(so2:(qs.map f).Pairwise (fun a b=>pLt b a=false))(nd:(rs.map f).Nodup)(nd2:(qs.map f).Nodup)(is:∀x,x∈rs↔x∈qs):rs=qs:=by
 have e:=q4l ((Jk nd nd2).mpr fun x=>⟨fun h=>by obtain⟨a,ha,rfl⟩:=Ac.mp h;exact Ac.mpr ⟨a,(is a).mp ha,rfl⟩,fun h=>by obtain⟨a,ha,rfl⟩:=Ac.mp h;exact Ac.mpr ⟨a,(is a).mpr ha,rfl⟩⟩) nd so so2;refine Oa fun i=>?_;have e2:=congrArg (fun l=>l[i]?) e;simp only[Ae] at e2;cases h1:rs[i]? with
 |none =>
  cases h2:qs[i]? with
  |none=>rfl
  |some y=>rw[h1,h2] at e2;cases e2
 |some x =>
  cases h2:qs[i]? with
  |none=>rw[h1,h2] at e2;cases e2
  |some y =>
   rw[h1,h2] at e2;rw[q0t nd2 ((is x).mp (Ag h1)) (Ag h2) (Bj e2)]
abbrev Zl:=Addr×List Zp
abbrev cont(z:Zl):List Pth:=z.2.map (·.2)
structure LLs (H:Hp) (L:Addr) (zs:List Zl):Prop where
 at_:H L=some (.lst (zs.map fun z=>V.ref z.1))
 pr:∀z∈zs,PL H z.1 z.2
theorem LLs.same{H H':Hp}{L:Addr}{zs:List Zl}(h:LLs H L zs)(s:Same H H'):LLs H' L zs:=⟨s _ _ h.at_,fun z hz=>(h.pr z hz).same s⟩
theorem PL.keep{H H':Hp}{L:Addr}{zs:List Zp}(h:PL H L zs)(k:∀c u,H c=some u->(∀xs,u=.tup xs\/c=L->H' c=some u)):PL H' L zs:=⟨k _ _ h.at_ [] (.inr rfl),fun z hz=>⟨k _ _ (h.pr z hz).1 _ (.inl rfl),(h.pr z hz).2⟩⟩
theorem PL.headAt{H:Hp}{L:Addr}{zs:List Zp}(h:PL H L zs)(ne:zs≠[]):HdL H L ((zs.map (·.2)).headD [])/\Low ((zs.map (·.2)).headD []):=by
 cases zs with
 |nil=>exact absurd rfl ne
 |cons z zs=>exact⟨⟨z.1,_,h.at_,(h.pr z At).1⟩,(h.pr z At).2.low⟩
structure CallsRg (P:Program) (w:World) (K:Ak) (mg:Str->Option Value) (base:Heap) (c:Addr):Prop where
 asked_next_ones:Cal P w K mg base "asked_next_ones" 9 ["hall", "wishes"] (spAN c)
 from_thing_on:Cal P w K mg base "from_thing_on" 1 ["path", "nexts"] spFrom
abbrev gOf(bl:Bool)(rows:List Rw)(ms:List Mv):Pth->Option Pth:=nx bl (rows.map (·.1)) (plc ms)
theorem Mvg.dom{bl:Bool}{rows:List Rw}{f:Pth->Pth}{ms:List Pth}{p q:Pth}(m:Mvg bl rows f ms)(hl:Hl bl rows)(h:nx bl (rows.map (·.1)) f p=some q):p∈ms:=m.is.mpr ⟨((q1b hl).mp h).1,((q1b hl).mp h).2.1⟩
structure ChnP (g:Pth->Option Pth) (p:Pth) (xs:List Pth):Prop where
 o:Orb g p xs
 st:∀q,g q≠some p
open Classical in
noncomputable def isSt (g:Pth->Option Pth) (p:Pth):Bool:=decide (∀q,g q≠some p)
theorem isSt_iff{g:Pth->Option Pth}{p:Pth}:isSt g p=true↔∀q,g q≠some p:=by unfold isSt;exact @decide_eq_true_iff _ (Classical.propDecidable _)
structure Chs (g:Pth->Option Pth) (mv:Pth->Prop) (rs:List (List Pth)):Prop where
 so:(rs.map (·.headD [])).Pairwise (fun a b=>pLt b a=false)
 nd:(rs.map (·.headD [])).Nodup
 is:∀{xs},xs∈rs↔∃p,mv p/\ChnP g p xs
theorem Chs.uniq{g:Pth->Option Pth}{mv:Pth->Prop}{rs qs:List (List Pth)}(a:Chs g mv rs)(b:Chs g mv qs):rs=qs:=q8l a.so b.so a.nd b.nd fun _=>a.is.trans b.is.symm
theorem Chs.of{g:Pth->Option Pth}{mv:Pth->Prop}{rs:List (List Pth)}{ms:List Pth}(nd:ms.Nodup)(hm:∀{p},p∈ms↔mv p)(all:∀xs∈rs,ChnP g (xs.headD []) xs)(e:(rs.map (·.headD [])).Perm (ms.filter (isSt g)))(so:(rs.map (·.headD [])).Pairwise (fun a b=>pLt b a=false)):Chs g mv rs:=by
 refine⟨so,e.nodup_iff.mpr (nd.filter _),fun{xs}=>⟨fun hx=>?_,fun⟨p,hp,c⟩=>?_⟩⟩
 ·have h1:xs.headD []∈ms.filter (isSt g):=e.mem_iff.mp (Ac.mpr ⟨xs,hx,rfl⟩);exact⟨_,hm.mp (Cp.mp h1).1,all xs hx⟩
 ·have h1:p∈rs.map (·.headD []):=e.mem_iff.mpr (Cp.mpr ⟨hm.mpr hp,isSt_iff.mpr c.st⟩);obtain⟨ys,hy,ey⟩:=Ac.mp h1;have c2:=all ys hy;rw[show ys.headD []=p from ey] at c2;rw[c.o.uniq c2.o];exact hy
abbrev mvOf(rows:List Rw)(ms:List Mv):Pth->Prop:=fun p=>p∈rows.map (·.1)/\plc ms p≠p
def spChains(c:Addr):Sp:=fun vs H Q _=>∃h d L bl rows zs,vs=[.ref h,.ref L]/\GW c H h d L bl rows zs /\
 ∀R rs H',H R=none->(∀z∈rs,H z.1=none)->Same H H'->LLs H' R rs->Chs (gOf bl rows (zs.map (·.2))) (mvOf rows (zs.map (·.2))) (rs.map cont)->(∀z∈rs,z.1≠R)->Q (.ref R) H'
abbrev q7b:Stmt:=top 27
theorem sc_chains:FnScope ["hall", "wishes", "moving", "nexts", "followed"] ["hall", "wishes"] (defScope q7b):=⟨rfl,rfl,rfl,by decide +kernel,rfl,by decide +kernel,by decide +kernel⟩
theorem z7z{c:Addr}(D:Df K mg "chains" q7b ["hall", "wishes"])(T:Txt mg)(C:CallsRg P w K mg base c):Cal P w K mg base "chains" 10 ["hall", "wishes"] (spChains c):=by
 refine D.cal sc_chains (fun vs H Q E h=>?_) (fun f cdv A outer s H vs Q E hr h=>?_)
 ·obtain⟨h,d,L,bl,rows,zs,rfl,_⟩:=h;rfl
 ·obtain⟨h,d,L,bl,rows,zs,rfl,G,k⟩:=h;refine⟨_,(q0d (q7l (pe_c C.asked_next_ones hr (q0a (pv 0) (q0a (pv 1) q0e))) (@q2t _ _ _ _ (2) _ K rfl rfl (q0o (q0h (i:=2) sc_chains.nd rfl (by first|exact Or.inl rfl|exact Or.inr rfl)) (q0o (q0h (i:=3) sc_chains.nd rfl (by first|exact Or.inl rfl|exact Or.inr rfl)) q1v)) (by rfl) (by rfl))) (q0d (q0j (i:=4) sc_chains.nd rfl (by first|exact Or.inl rfl|exact Or.inr rfl) (q2l (z4t rfl) (by rfl) T.b_list (by decide +kernel) (q0a (@z1w _ _ _ _ _ _ _ _ _ K rfl Hx PySem.F.slot_dict_values PySem.F.type_dict_values z7o (pv 3) (by rfl) (by rfl)) q0e))) (q0f (q0l (q0m (q8h hr) (by rfl) T.b_sorted (by decide +kernel) (q0a (q3c ["path"] [("nexts",3),("followed",4)] rfl (@q3a _ _ _ _ K rfl (pv 2)) (fun _ _ _ _ _=>(q0h (i:=0) (show(["path", "nexts", "followed"]:List Str).Nodup by decide +kernel) rfl (by first|exact Or.inl rfl|exact Or.inr rfl))) (fun _ _ _ _ _=>(q3p (q0k (nin_P hr) (pv 0) (pv 2) (by with_unfolding_all rfl)))) (fun _ _ _ _ _=>(pe_c C.from_thing_on hr (q0a (pv 0) (q0a (pv 1) q0e))))) q0e)))))),?_⟩;refine⟨_,rfl,_,rfl,h,d,L,bl,rows,zs,rfl,G,fun T' M mz N ns H1 s1 hM hN hT pl mv nxd=>?_⟩;refine⟨T',_,rfl,SqT.of hT,rfl,_,_,rfl,_,_,rfl,rfl,?_⟩;have hl:=G.hl;have F:=z7x hl G.ap;have h30:(rows.map (·.1)).length<=30:=by rw[Ab];exact G.few
  have oks:∀x∈rows.map (·.1),okP x:=fun x hx=>by obtain⟨r,hr',rfl⟩:=Ac.mp hx;exact hl.ok r hr'
  generalize hg:nx bl (rows.map (·.1)) (plc (zs.map (·.2)))=g at nxd F;have mzl:mz.length<=30:=by
   have:=q9o mv.nd (m:=rows.map (·.1)) fun x hx=>(mv.is.mp hx).1;rw[Ab] at this;lia
  have nsl:ns.length<=30:=by
   have:=q9o nxd.nd (m:=rows.map (·.1)) fun x hx=>by obtain⟨m,hm,rfl⟩:=Ac.mp hx;exact F.dom (nxd.is.mp hm)
   rw[Ab,Ab] at this;lia
  refine⟨_,rfl,.inr (.inr (.inl ⟨rfl,.inr ⟨_,nxd.pd.at_⟩⟩)),N,_,rfl,rfl,nxd.pd.at_,fun v hv=>?_⟩;have sv:=(Same.refl H1).new (o:=vlO v N) hv;refine⟨v,N,ns.map fun x=>(x.2.1,.ref x.1),rfl,q0b,sv _ _ nxd.pd.at_,by rw[Ab];lia,fun Fo hFo=>?_⟩;have sF:=(Same.refl (upd H1 v (vlO v N))).new (o:=.lst ((ns.map fun x=>((x.2.1,.ref x.1):HRow)).map (·.2))) hFo;have hF2:upd (upd H1 v (vlO v N)) Fo (.lst ((ns.map fun x=>((x.2.1,.ref x.1):HRow)).map (·.2))) Fo=some (.lst ((ns.map (·.1)).map V.ref)):=by rw[q0b,Ap,Ap];rfl
  have s12:=sv.trans sF;generalize upd (upd H1 v (vlO v N)) Fo (.lst ((ns.map fun x=>((x.2.1,.ref x.1):HRow)).map (·.2)))=H2 at s12 hF2;have pl2:=pl.same s12;have nx2:=nxd.same s12;refine⟨_,rfl,.inl ⟨M,rfl,⟨_,SqL.of pl2.at_⟩,fun Dc hDc=>?_⟩⟩;refine q2m (fun i ys H'=>∃rs:List Zl,ys=rs.map (fun z=>V.ref z.1)/\Same H2 H'/\H' Dc=some (.lst ys)/\(∀z∈rs,PL H' z.1 z.2/\H2 z.1=none/\z.1≠Dc/\ChnP g ((cont z).headD []) (cont z))/\rs.map (fun z=>(cont z).headD [])=((mz.map (·.2)).take i).filter (isSt g)) ⟨[],rfl,(Same.refl H2).new hDc,q0b,(fun _ h=>nomatch h),rfl⟩ (fun i ys H' h=>by obtain⟨rs,_,s',h',_⟩:=h;exact⟨h',SqL.of (s' _ _ pl2.at_)⟩) ?_ ?_
  ·rintro i ys H3 v' hv' ⟨rs,rfl,s3,hDl,hrs,ers⟩;obtain⟨z,hz,rfl⟩:∃z,mz[i]?=some z/\v'=.ref z.1:=by
    rw[Ae] at hv';cases e:mz[i]? with
    |none=>rw[e] at hv';cases hv'
    |some z=>rw[e] at hv';cases hv';exact⟨z,rfl,rfl⟩
   have hzm:=Ag hz;have hin:=(mv.is.mp (Ac.mpr ⟨z,hzm,rfl⟩)).1;have e1:(mz.map (·.2)).take (i+1)=(mz.map (·.2)).take i++[z.2]:=by rw[Bc,Ae,hz];rfl
   have hz3:=s3 _ _ (pl2.pr z hzm).1;have okz:=(pl2.pr z hzm).2;have nx3:=nx2.same s3;have rl:rs.length<=30:=by
    have e:=congrArg List.length ers;rw[Ab] at e;rw[e];refine Bz (Cr _ _) ?_;rw[Bm,Ab];lia
   have hst:(ns.map (·.1)).any (inP H3 z.2)=true↔∃q,g q=some z.2:=by
    rw[Pc];constructor
    ·rintro⟨b,hb,e⟩;obtain⟨x,hx,rfl⟩:=Ac.mp hb;rw[z7f (nx3.pd.pr x hx)] at e;have e:=of_decide_eq_true e;exact⟨x.2.1,by rw[<- e];exact nxd.is.mp (Ac.mpr ⟨x,hx,rfl⟩)⟩
    ·rintro⟨q,hq⟩;obtain⟨x,hx,ex⟩:=Ac.mp (nxd.is.mpr (show g (q,z.2).1=some (q,z.2).2 from hq));refine⟨x.1,Ac.mpr ⟨x,hx,rfl⟩,?_⟩;rw[z7f (nx3.pd.pr x hx),ex];exact decide_eq_true rfl
   refine⟨q0u,_,rfl,_,rfl,z.1,Fo,ns.map (·.1),z.2,rfl,rfl,s3 _ _ hF2,hz3,okz.low,fun b hb=>?_,_,rfl,?_⟩
   ·obtain⟨x,hx,rfl⟩:=Ac.mp hb;exact⟨x.2.2,nx3.pd.pr x hx,(oks _ (F.to (nxd.is.mp (Ac.mpr ⟨x,hx,rfl⟩)))).low⟩
   refine iteB (fun hc=>?_) (fun hc=>?_)
   ·have hst':∀q,g q≠some z.2:=fun q hq=>by
     have:=hst.mpr ⟨q,hq⟩;rw[this] at hc;cases hc
    refine⟨_,rfl,_,rfl,z.1,N,ns,g,_,z.2,rfl,hz3,nx3,F,hin,h30,oks,fun Lr zr H4 hLr s4 plr orb=>?_⟩;have hD4:=s4 _ _ hDl;have hLD:Lr≠Dc:=fun e=>by rw[e,hDl] at hLr;cases hLr
    have kD:∀{x:Addr} {xs:List Zp},x≠Dc->PL H4 x xs->PL (upd H4 Dc (.lst (rs.map (fun z=>V.ref z.1)++[.ref Lr]))) x xs:=fun{x xs} n p=>⟨by rw[q0c n];exact p.at_,fun u hu=>⟨by rw[q0c (fun z=>by have e:=(p.pr u hu).1;rw[z,hD4] at e;cases e)];exact(p.pr u hu).1,(p.pr u hu).2⟩⟩
    have hd:(zr.map (·.2)).headD []=z.2:=orb.headD;refine⟨hD4,small' (by rw[Ab];lia),rs++[(Lr,zr)],by rw[Af];rfl,(s3.trans s4).put hDc,q0b,fun x hx=>?_,?_⟩
    ·rcases Am.mp hx with hx|hx
     ·exact⟨kD (hrs x hx).2.2.1 ((hrs x hx).1.same s4),(hrs x hx).2⟩
     ·rw[Ai.mp hx];exact⟨kD hLD plr,s3.free hLr,hLD,by show ChnP g ((zr.map (·.2)).headD []) (zr.map (·.2));rw[hd];exact⟨orb,hst'⟩⟩
    ·rw[e1,Dl,Cu (isSt_iff.mpr hst'),Af,ers];show _++[(zr.map (·.2)).headD []]=_;rw[hd];rfl
   ·have hc':(ns.map (·.1)).any (inP H3 z.2)=true:=by simpa using hc
    obtain⟨q,hq⟩:=hst.mp hc';refine⟨rs,rfl,s3,hDl,hrs,?_⟩;rw[e1,Dl,Ct (fun h=>isSt_iff.mp h q hq),ers];simp
  ·rintro ys H3 ⟨rs,rfl,s3,hDl,hrs,ers⟩;rw[Ab,<- Ab (f:=fun z:Zp=>z.2),Bb] at ers;have ndh:(rs.map fun z=>(cont z).headD []).Nodup:=by rw[ers];exact mv.nd.filter _
   have rl:rs.length<=30:=by
    have e:=congrArg List.length ers;rw[Ab] at e;rw[e];exact Bz (Cr _ _) (by rw[Ab];exact mzl)
   have ne:∀z∈rs,z.2≠[]:=fun z hz e=>by
    have:=(hrs z hz).2.2.2.o.hd;unfold cont at this;rw[e] at this;cases this
   refine⟨List Zp,(fun l=>(l.map (·.2)).headD []),Dc,rs,rfl,hDl,by lia,fun z hz=>(hrs z hz).1.headAt (ne z hz),ndh,fun R2 rs2 hR2 pm pw=>?_⟩;have sR:=(Same.refl H3).new (o:=.lst (rs2.map fun z=>V.ref z.1)) hR2;have s03:=(s1.trans s12).trans s3;refine k R2 rs2 _ (s03.free hR2) (fun z hz=>(s1.trans s12).free (hrs z (pm.mem_iff.mp hz)).2.1) (s03.trans sR) ⟨q0b,fun z hz=>((hrs z (pm.mem_iff.mp hz)).1).same sR⟩ ?_ (fun z hz e=>by have e9:=(hrs z (pm.mem_iff.mp hz)).1.at_;rw[e,hR2] at e9;cases e9);show Chs (nx bl (rows.map (·.1)) (plc (zs.map (·.2)))) _ _;rw[hg];refine Chs.of mv.nd mv.is (fun xs hx=>?_) ?_ (by rw[Ap];exact pw)
   ·obtain⟨z,hz,rfl⟩:=Ac.mp hx;exact(hrs z (pm.mem_iff.mp hz)).2.2.2
   ·rw[Ap,<- ers];exact pm.map _
end
end K
set_option maxHeartbeats 4000000
namespace K
open PySem L2 TX SB HM
section
variable{P:Program}{w:World}{K:Ak}{mg:Str->Option Value}{base:Heap}
structure RingP (g:Pth->Option Pth) (p:Pth) (xs:List Pth):Prop where
 o:Orb g p xs
 r:∃x,xs.getLast?=some x/\g x=some p
 least:∀y∈xs,pLt y p=false
open Classical in
noncomputable def isRM (g:Pth->Option Pth) (p:Pth):Bool:=decide (∃xs,RingP g p xs)
theorem isRM_iff{g:Pth->Option Pth}{p:Pth}:isRM g p=true↔∃xs,RingP g p xs:=by unfold isRM;exact @decide_eq_true_iff _ (Classical.propDecidable _)
theorem z8a{g:Pth->Option Pth}{p:Pth}{xs:List Pth}(o:Orb g p xs):isRM g p=true↔RingP g p xs :=
 isRM_iff.trans ⟨fun⟨ys,h⟩=>by rw[o.uniq h.o];exact h,fun h=>⟨xs,h⟩⟩
structure Rgs (g:Pth->Option Pth) (rs:List (List Pth)):Prop where
 so:(rs.map (·.headD [])).Pairwise (fun a b=>pLt b a=false)
 nd:(rs.map (·.headD [])).Nodup
 is:∀{xs},xs∈rs↔∃p,RingP g p xs
theorem Rgs.uniq{g:Pth->Option Pth}{rs qs:List (List Pth)}(a:Rgs g rs)(b:Rgs g qs):rs=qs:=q8l a.so b.so a.nd b.nd fun _=>a.is.trans b.is.symm
theorem RingP.dom{g:Pth->Option Pth}{p:Pth}{xs:List Pth}(h:RingP g p xs):∃y,g p=some y:=by
 obtain⟨x,hx,gx⟩:=h.r;cases e:xs[1]? with
 |some y=>exact⟨y,h.o.st h.o.hd e⟩
 |none=>exact⟨p,by rw[q2r h.o.hd e hx];rw[<- q2r h.o.hd e hx] at gx ⊢;exact gx⟩
def spRings(c:Addr):Sp:=fun vs H Q _=>∃h d L bl rows zs,vs=[.ref h,.ref L]/\GW c H h d L bl rows zs /\
 ∀R rs H',H R=none->(∀z∈rs,H z.1=none)->Same H H'->LLs H' R rs->Rgs (gOf bl rows (zs.map (·.2))) (rs.map cont)->(∀z∈rs,z.1≠R)->Q (.ref R) H'
abbrev q9r:Stmt:=top 26
theorem sc_rings:FnScope ["hall", "wishes", "moving", "nexts", "told", "path", "ring"] ["hall", "wishes"] (defScope q9r):=⟨rfl,rfl,rfl,by decide +kernel,rfl,by decide +kernel,by decide +kernel⟩
theorem x0o{c:Addr}(D:Df K mg "rings" q9r ["hall", "wishes"])(T:Txt mg)(C:CallsRg P w K mg base c):Cal P w K mg base "rings" 10 ["hall", "wishes"] (spRings c):=by
 refine D.cal sc_rings (fun vs H Q E h=>?_) (fun f cdv A outer s H vs Q E hr h=>?_)
 ·obtain⟨h,d,L,bl,rows,zs,rfl,_⟩:=h;rfl
 ·obtain⟨h,d,L,bl,rows,zs,rfl,G,k⟩:=h;refine⟨_,(q0d (q7l (pe_c C.asked_next_ones hr (q0a (pv 0) (q0a (pv 1) q0e))) (@q2t _ _ _ _ (2) _ K rfl rfl (q0o (q0h (i:=2) sc_rings.nd rfl (by first|exact Or.inl rfl|exact Or.inr rfl)) (q0o (q0h (i:=3) sc_rings.nd rfl (by first|exact Or.inl rfl|exact Or.inr rfl)) q1v)) (by rfl) (by rfl))) (q0d (q0j (i:=4) sc_rings.nd rfl (by first|exact Or.inl rfl|exact Or.inr rfl) (q1t q0e)) (q0d (q1f Bi rfl (@q3a _ _ _ _ K rfl (pv 2)) (q0h (i:=5) sc_rings.nd rfl (by first|exact Or.inl rfl|exact Or.inr rfl)) (q0d (q0j (i:=6) sc_rings.nd rfl (by first|exact Or.inl rfl|exact Or.inr rfl) (pe_c C.from_thing_on hr (q0a (pv 5) (q0a (pv 3) q0e)))) (q0f (q1e (pt_j (@PW.pt _ _ _ (q2s (q0k (eq_k K rfl hr) (z9l (q1c hr) (pv 3) (q1m (ix_k K rfl) (pv 6) (q1l q0s q0g) (fun _ _=>rfl)) ⟨rfl,rfl,rfl,rfl⟩) (pv 5) (nomark _)) (q1u (q0k (eq_k K rfl hr) (pv 5) (q0m (z7m rfl hr) (by rfl) T.b_min (by decide +kernel) (q0a (pv 6) q0e)) (nomark _)))))) (q0f (q2b (@bm_k _ _ _ _ _ _ _ _ _ _ _ _ K rfl Cv Dg Dh q1w (pv 4) (q0a (pv 6) q0e) (by rfl) (by rfl) (by rfl) (by rfl) (by rfl)))) q0n)))) (q0f (q0l (q0m (q8h hr) (by rfl) T.b_sorted (by decide +kernel) (q0a (pv 4) q0e))))))),?_⟩;refine⟨_,rfl,_,rfl,h,d,L,bl,rows,zs,rfl,G,fun T' M mz N ns H1 s1 hM hN hT pl mv nxd=>?_⟩;refine⟨T',_,rfl,SqT.of hT,rfl,_,_,rfl,_,_,rfl,rfl,?_⟩;have hl:=G.hl;have F:=z7x hl G.ap;have h30:(rows.map (·.1)).length<=30:=by rw[Ab];exact G.few
  have oks:∀x∈rows.map (·.1),okP x:=fun x hx=>by obtain⟨r,hr',rfl⟩:=Ac.mp hx;exact hl.ok r hr'
  generalize hg:nx bl (rows.map (·.1)) (plc (zs.map (·.2)))=g at nxd F;have mzl:mz.length<=30:=by
   have:=q9o mv.nd (m:=rows.map (·.1)) fun x hx=>(mv.is.mp hx).1;rw[Ab] at this;lia
  refine⟨by show 0<=sizeLine;decide,fun R hR=>?_⟩;refine⟨_,rfl,.inl ⟨M,rfl,⟨_,SqL.of ((pl.same ((Same.refl H1).new hR)).at_)⟩,?_⟩⟩;refine q2j (fun i σ' H'=>∃(rs:List Zl) (x5 x6:Option V),σ'=[some (.ref h),some (.ref L),some (.ref M),some (.ref N),some (.ref R),x5,x6]/\Same H1 H'/\H' R=some (.lst (rs.map fun z=>V.ref z.1))/\(∀z∈rs,PL H' z.1 z.2/\H1 z.1=none/\z.1≠R/\RingP g ((cont z).headD []) (cont z))/\rs.map (fun z=>(cont z).headD [])=((mz.map (·.2)).take i).filter (isRM g)/\(rs.map (·.1)).Nodup) ⟨[],_,_,rfl,(Same.refl H1).new hR,q0b,(fun _ h=>nomatch h),rfl,.nil⟩ (fun i σ' H' _ x=>by obtain⟨_,_,_,_,s',_⟩:=x;exact SqL.of (s' _ _ pl.at_)) ?_ ?_
  ·rintro i v σ' H2 hv ⟨rs,x5,x6,rfl,s2,hRl,hrs,ers,ndr⟩;obtain⟨z,hz,rfl⟩:∃z,mz[i]?=some z/\v=.ref z.1:=by
    rw[Ae] at hv;cases e:mz[i]? with
    |none=>rw[e] at hv;cases hv
    |some z=>rw[e] at hv;cases hv;exact⟨z,rfl,rfl⟩
   have hzm:=Ag hz;have hin:=(mv.is.mp (Ac.mpr ⟨z,hzm,rfl⟩)).1;have e1:(mz.map (·.2)).take (i+1)=(mz.map (·.2)).take i++[z.2]:=by rw[Bc,Ae,hz];rfl
   have hz2:=s2 _ _ (pl.pr z hzm).1;have okz:=(pl.pr z hzm).2;have rl:rs.length<=30:=by
    have e:=congrArg List.length ers;have l2:=Cr (isRM g) ((mz.map (·.2)).take i);rw[Ab] at e;rw[Bm,Ab] at l2;lia
   refine⟨_,rfl,_,rfl,z.1,N,ns,g,_,z.2,rfl,hz2,nxd.same s2,F,hin,h30,oks,fun Lr zr H3 hLr s3 plr orb=>?_⟩;have s13:=s2.trans s3;have pos:zr≠[]:=fun z=>by have:=orb.hd;rw[z] at this;cases this
   have hlast:=Bh pos;generalize zr.getLast pos=y at hlast;have hat:atI (zr.map fun z=>V.ref z.1) (-1)=some (.ref y.1):=q9n (by rw[Gy,hlast];rfl);have hlp:(zr.map (·.2)).getLast?=some y.2:=by rw[Gy,hlast];rfl
   have hy:=Hd hlast;have nx3:=nxd.same s13;have hz3:=s3 _ _ hz2;have zrl:zr.length<=30:=by have:=orb.len F hin;rw[Ab] at this;lia
   refine⟨fun bb H4=>H4=H3/\(bb=true↔RingP g z.2 (zr.map (·.2))),?_,?_⟩;rotate_left
   ·refine⟨_,rfl,N,rfl,.inr ⟨_,.inl nx3.pd.at_⟩,_,rfl,_,rfl,.inl ⟨Lr,_,-1,_,rfl,rfl,SqL.of plr.at_,hat,?_⟩⟩;rcases nx3.get (plr.pr y hy).1 with⟨e,dg⟩|⟨q,e,e1,dg,he⟩
    ·refine⟨_,dg,_,rfl,x3u hz3 okz.low ⟨_,rfl,iteF ⟨rfl,(fun z=>by cases z),fun r=>?_⟩⟩⟩;obtain⟨x,hx,gx⟩:=r.r;rw[hlp] at hx;cases hx;rw[e] at gx;cases gx
    ·refine⟨_,dg,_,rfl,q0y he hz3 (oks q (F.to e1)).low okz.low ⟨_,rfl,iteB (fun hc=>?_) (fun hc=>⟨rfl,(fun z=>by cases z),fun r=>?_⟩)⟩⟩
     ·have hc:=of_decide_eq_true hc;refine⟨_,rfl,_,rfl,Lr,zr,rfl,plr.at_,pos,Gm (small' (by lia)),fun u hu=>(plr.pr u hu).1,fun u hu hmin=>?_⟩;refine q0y hz3 (plr.pr u hu).1 okz.low (plr.pr u hu).2.low ⟨_,rfl,rfl,fun hb=>?_,fun r=>?_⟩
      ·have eu:=of_decide_eq_true hb;refine⟨orb,⟨y.2,hlp,by rw[e1,hc]⟩,fun p hp=>?_⟩;obtain⟨u',hu',rfl⟩:=Ac.mp hp;rw[eu];exact hmin u' hu'
      ·refine decide_eq_true ?_;have hzin:z.2∈zr.map (·.2):=Ag orb.hd;obtain⟨u',hu',e5⟩:=Ac.mp hzin;refine q5h ?_ (r.least u.2 (Ac.mpr ⟨u,hu,rfl⟩));rw[<- e5];exact hmin u' hu'
     ·have hc:=of_decide_eq_false hc;obtain⟨x,hx,gx⟩:=r.r;rw[hlp] at hx;cases hx;rw[e1] at gx;cases gx;exact absurd rfl hc
   rintro bb H4 ⟨rfl,hiff⟩;have hd:(zr.map (·.2)).headD []=z.2:=orb.headD;have hRn:H1 R=none:=hR;have keep4:∀x∈rs,PL H4 x.1 x.2/\H1 x.1=none/\x.1≠R/\RingP g ((cont x).headD []) (cont x):=fun x hx=>⟨(hrs x hx).1.same s3,(hrs x hx).2⟩
   refine ite2 (fun hb=>?_) (fun hb=>?_)
   ·have hR4:=s3 _ _ hRl;have hLR:Lr≠R:=fun e=>by rw[e,hRl] at hLr;cases hLr
    refine⟨_,rfl,.inl ⟨rfl,_,SqL.of hR4⟩,_,rfl,R,_,_,rfl,rfl,hR4,by rw[Ab];exact small' (by lia),?_⟩;have kR:∀{x:Addr} {xs:List Zp},x≠R->PL H4 x xs->PL (upd H4 R (.lst (rs.map (fun z=>V.ref z.1)++[.ref Lr]))) x xs:=fun{x xs} n p=>⟨by rw[q0c n];exact p.at_,fun u hu=>⟨by rw[q0c (fun z=>by have e:=(p.pr u hu).1;rw[z,hR4] at e;cases e)];exact(p.pr u hu).1,(p.pr u hu).2⟩⟩
    have rp:=hiff.mp hb;refine⟨rs++[(Lr,zr)],_,_,rfl,s13.put hRn,by rw[q0b,Af];rfl,fun x hx=>?_,?_,?_⟩
    ·rcases Am.mp hx with hx|hx
     ·exact⟨kR (keep4 x hx).2.2.1 (keep4 x hx).1,(keep4 x hx).2⟩
     ·rw[Ai.mp hx];exact⟨kR hLR plr,s2.free hLr,hLR,by show RingP g ((zr.map (·.2)).headD []) (zr.map (·.2));rw[hd];exact rp⟩
    ·rw[e1,Dl,Cu ((z8a orb).mpr rp),Af,ers];show _++[(zr.map (·.2)).headD []]=_;rw[hd];rfl
    ·rw[Af];refine Dj.mpr ⟨ndr,z7w,fun a ha b hb e=>?_⟩;rw[Ai.mp hb] at e;obtain⟨x,hx,rfl⟩:=Ac.mp ha;have e9:=(hrs x hx).1.at_;rw[show x.1=Lr from e,hLr] at e9;cases e9
   ·refine⟨rs,_,_,rfl,s13,s3 _ _ hRl,keep4,?_,ndr⟩;rw[e1,Dl,Ct (fun h=>hb (hiff.mpr ((z8a orb).mp h))),ers];simp
  ·rintro σ' H2 ⟨rs,x5,x6,rfl,s2,hRl,hrs,ers,ndr⟩;rw[Ab,<- Ab (f:=fun z:Zp=>z.2),Bb] at ers;have ndh:(rs.map fun z=>(cont z).headD []).Nodup:=by rw[ers];exact mv.nd.filter _
   have rl:rs.length<=30:=by
    have e:=congrArg List.length ers;rw[Ab] at e;rw[e];exact Bz (Cr _ _) (by rw[Ab];exact mzl)
   have ne:∀z∈rs,z.2≠[]:=fun z hz e=>by
    have:=(hrs z hz).2.2.2.o.hd;unfold cont at this;rw[e] at this;cases this
   refine⟨_,rfl,List Zp,(fun l=>(l.map (·.2)).headD []),R,rs,rfl,hRl,by lia,fun z hz=>(hrs z hz).1.headAt (ne z hz),ndh,fun R2 rs2 hR2 pm pw=>?_⟩;have sR:=(Same.refl H2).new (o:=.lst (rs2.map fun z=>V.ref z.1)) hR2;refine k R2 rs2 _ ((s1.trans s2).free hR2) (fun z hz=>s1.free (hrs z (pm.mem_iff.mp hz)).2.1) ((s1.trans s2).trans sR) ⟨q0b,fun z hz=>((hrs z (pm.mem_iff.mp hz)).1).same sR⟩ ?_ (fun z hz e=>by have e9:=(hrs z (pm.mem_iff.mp hz)).1.at_;rw[e,hR2] at e9;cases e9);show Rgs (nx bl (rows.map (·.1)) (plc (zs.map (·.2)))) _;rw[hg];refine⟨by rw[Ap];exact pw,by rw[Ap];exact(pm.map _).nodup_iff.mpr ndh,fun{xs}=>⟨fun hx=>?_,fun⟨p,hp⟩=>?_⟩⟩
   ·obtain⟨z,hz,rfl⟩:=Ac.mp hx;exact⟨_,(hrs z (pm.mem_iff.mp hz)).2.2.2⟩
   ·obtain⟨y,hy⟩:=hp.dom;have hm:p∈mz.map (·.2):=by rw[<- hg] at hy;exact mv.dom hl hy
    have hf:p∈rs.map fun z=>(cont z).headD []:=by rw[ers];exact Cp.mpr ⟨hm,isRM_iff.mpr ⟨xs,hp⟩⟩
    obtain⟨z,hz,e⟩:=Ac.mp hf;have rp:=(hrs z hz).2.2.2;rw[e] at rp;rw[hp.o.uniq rp.o];exact Ac.mpr ⟨z,pm.mem_iff.mpr hz,rfl⟩
end
end K
set_option maxHeartbeats 4000000
namespace K
open PySem L2 TX SB HM
section
variable{P:Program}{w:World}{K:Ak}{mg:Str->Option Value}{base:Heap}
theorem q4d{bl:Bool}{rows:List Rw}{ms:List Mv}(hl:Hl bl rows)(gw:GoodW rows ms):∀{k:Nat} {p:Pth},M6 rows k p->∀{n:Nat},k+1<=n->thenP (plc ms) n p=thenP (plc ms) (k+1) p
 |0,p,h,n,hn=>by
  rw[h.zero hl];cases n with
  |zero=>lia
  |succ n=>rfl
 |k+1,p,h,n,hn=>by
  cases n with
  |zero=>lia
  |succ n =>
   by_cases e:p=[]
   ·rw[e];rfl
   ·have h1:=q4d hl gw (h.step hl gw e) (n:=n) (by lia);show(if p=[] then[] else thenP (plc ms) n (plc ms p).dropLast++[(plc ms p).getLastD []])=(if p=[] then[] else thenP (plc ms) (k+1) (plc ms p).dropLast++[(plc ms p).getLastD []])
    rw[if_neg e,if_neg e,h1]
theorem q9s{bl:Bool}{rows:List Rw}{ms:List Mv}(hl:Hl bl rows)(gw:GoodW rows ms):∀{k:Nat} {p:Pth},(p=[]\/(p,none)∈rows)->p.length<=k->(thenP (plc ms) (k+1) p).length=p.length/\∀n∈thenP (plc ms) (k+1) p,okN n
 |0,p,_,h=>by
  have e:p=[]:=Hy.mp (by lia);rw[e];exact⟨rfl,fun _ h=>nomatch h⟩
 |k+1,p,hp,h=>by
  by_cases e:p=[]
  ·rw[e];exact⟨rfl,fun _ h=>nomatch h⟩
  ·have hin:(p,none)∈rows:=hp.resolve_left e;have hm:p∈rows.map (·.1):=Ac.mpr ⟨_,hin,rfl⟩;have ed:=(q1d hl gw hm).2 hin;have pos:=Bu.mpr e;obtain⟨h1,h2⟩:=q9s hl gw (k:=k) (p:=p.dropLast) (hl.dr _ hin) (by rw[Bq];lia);have eq:thenP (plc ms) (k+1+1) p=thenP (plc ms) (k+1) p.dropLast++[(plc ms p).getLastD []]:=by
    show(if p=[] then[] else thenP (plc ms) (k+1) (plc ms p).dropLast++[(plc ms p).getLastD []])=_;rw[if_neg e,ed]
   rw[eq];refine⟨by rw[Al,h1,Bq];show _+1=_;lia,fun n hn=>?_⟩;rcases Am.mp hn with hn|hn
   ·exact h2 n hn
   ·rw[Ai.mp hn];exact q2q (q1o hl gw hm)
theorem q3y{bl:Bool}{rows:List Rw}{ms:List Mv}(hl:Hl bl rows)(gw:GoodW rows ms){r:Rw}(hr:r∈rows):thenP (plc ms) 7 r.1=thenP (plc ms) 7 (plc ms r.1).dropLast++[(plc ms r.1).getLastD []]/\IsD rows (plc ms r.1).dropLast/\(plc ms r.1).dropLast.length<=5:=by
 have hm:r.1∈rows.map (·.1):=Ac.mpr ⟨r,hr,rfl⟩;have hd:=(q1d hl gw hm).1;have ok:=q1o hl gw hm;have f6:(plc ms r.1).length<=6:=ok.few;have l5:(plc ms r.1).dropLast.length<=5:=by rw[Bq];lia
 have m5:M6 rows 5 (plc ms r.1).dropLast:=hd.imp id fun z=>.inl ⟨z,l5⟩;refine⟨?_,hd,l5⟩;have e:=(hl.ok r hr).ne;show(if r.1=[] then[] else thenP (plc ms) 6 (plc ms r.1).dropLast++[(plc ms r.1).getLastD []])=_;rw[if_neg e,q4d hl gw m5 (n:=7) (by lia)]
section
variable{bl:Bool}{rows:List Rw}{ms ms':List Mv}{p q x:Pth}
abbrev tn(ms:List Mv)(x:Pth):Pth:=thenP (plc ms) 7 x
structure Gd (bl:Bool) (rows:List Rw) (ms:List Mv):Prop where
 gw:GoodW rows ms
 ap:Apart bl rows (plc ms)
theorem Gd.nil(hl:Hl bl rows):Gd bl rows []:=⟨⟨(fun _ h=>nomatch h),.nil⟩,by show((rows.map (·.1)).map fun p=>fold bl p).Nodup;rw[Ap];exact hl.nd⟩
theorem m6_d{d:Pth}(h:IsD rows d)(l:d.length<=6):M6 rows 6 d:=h.imp id fun z=>.inl ⟨z,l⟩
theorem m6_p(h:p∈rows.map (·.1)):M6 rows 6 p:=.inr (.inr ⟨h,Aq _⟩)
theorem q8m(hl:Hl bl rows)(g:Gd bl rows ms)(g':Gd bl rows ms')(ho:∀x,x≠p->plc ms' x=plc ms x):∀{n:Nat} {d:Pth},IsD rows d->((p,none)∉rows\/d.length<p.length)->thenP (plc ms') n d=thenP (plc ms) n d
 |0,d,_,_=>rfl
 |n+1,d,hd,hc=>by
  unfold thenP;by_cases e:d=[]
  ·rw[if_pos e,if_pos e]
  ·rw[if_neg e,if_neg e];have hin:(d,none)∈rows:=hd.resolve_left e;have hm:d∈rows.map (·.1):=Ac.mpr ⟨_,hin,rfl⟩;have hne:d≠p:=fun z=>by
    rcases hc with h|h
    ·exact h (by rw[<- z];exact hin)
    ·rw[z] at h;exact absurd h (Eu _)
   have ed:=(q1d hl g.gw hm).2 hin;rw[ho d hne,ed,q8m hl g g' ho (hl.dr _ hin) (hc.imp id fun h=>by rw[Bq];exact Ka (Nat.sub_le _ _) h)]
theorem take_snoc{α:Type}{l m:List α}{a:α}:(l++[a]).take m.length=m↔(l.take m.length=m\/l++[a]=m):=by
 by_cases h:m.length<=l.length
 ·rw[Ms h];exact⟨.inl,fun z=>z.elim id fun z=>by have:=congrArg List.length z;rw[Al] at this;have h1:l.length+1=m.length:=this;lia⟩
 ·have h2:(l++[a]).length<=m.length:=by rw[Al];show l.length+1<=_;lia
  rw[Ei h2];exact⟨.inr,fun z=>z.elim (fun z=>by have:=congrArg List.length z;rw[Bm] at this;lia) id⟩
theorem q8n(hl:Hl bl rows)(g:Gd bl rows ms)(g':Gd bl rows ms')(hp:p∈rows.map (·.1))(ho:∀x,x≠p->plc ms' x=plc ms x):
  ∀{k:Nat} {x:Pth},M6 rows k x->k<=6->carry (tn ms p) (tn ms (plc ms' p).dropLast++[(plc ms' p).getLastD []]) (thenP (plc ms) (k+1) x)=thenP (plc ms') (k+1) x:=by
 have hd:=(q1d hl g'.gw hp).1;have okq:=q1o hl g'.gw hp;have stay:tn ms' (plc ms' p).dropLast=tn ms (plc ms' p).dropLast:=by
  refine q8m hl g g' ho hd ?_;by_cases hn:(p,none)∈rows
  ·right;rw[(q1d hl g'.gw hp).2 hn,Bq];have:=Bu.mpr (hl.ok _ hn).ne;show p.length-1<p.length;have:0<p.length:=this;lia
  ·exact .inl hn
 have hne:tn ms p≠[]:=by
  obtain⟨r,hr,rfl⟩:=Ac.mp hp;rw[show tn ms r.1=_ from(q3y hl g.gw hr).1];simp
 intro k;induction k with
 |zero =>
  intro x h _;rw[h.zero hl];show carry _ _ []=[]
  refine q9d ?_;rw[Nr];exact fun z=>hne z.symm
 |succ k ih =>
  intro x h hk;by_cases e:x=[]
  ·rw[e];show carry _ _ []=[]
   refine q9d ?_;rw[Nr];exact fun z=>hne z.symm
  ·have hx:=h.in_ e;have e7:thenP (plc ms) (k+1+1) x=tn ms x:=(q4d hl g.gw h (n:=7) (by lia)).symm;have e7':thenP (plc ms') (k+1+1) x=tn ms' x:=(q4d hl g'.gw h (n:=7) (by lia)).symm;obtain⟨r,hr,rfl⟩:=Ac.mp hx;by_cases exp:r.1=p
   ·rw[e7,e7',exp];obtain⟨r',hr',e3⟩:=Ac.mp hp;have e4:tn ms' p=tn ms' (plc ms' p).dropLast++[(plc ms' p).getLastD []]:=by rw[<- e3];exact(q3y hl g'.gw hr').1
    rw[e4,stay];have:=z7e (tn ms p) (tn ms (plc ms' p).dropLast++[(plc ms' p).getLastD []]) [];rw[El,El] at this;exact this
   ·have e1:thenP (plc ms) (k+1+1) r.1=thenP (plc ms) (k+1) (plc ms r.1).dropLast++[(plc ms r.1).getLastD []]:=if_neg e;have e2:thenP (plc ms') (k+1+1) r.1=thenP (plc ms') (k+1) (plc ms r.1).dropLast++[(plc ms r.1).getLastD []]:=by rw[<- ho r.1 exp];exact if_neg e
    have hst:=h.step hl g.gw e;have ih1:=ih hst (by lia);have hinj:tn ms r.1≠tn ms p:=fun z=>exp (q5c hl g.gw g.ap (m6_p hx) (m6_p hp) z);rw[e2,<- ih1];rw[e1] at e7 ⊢;unfold carry;have iff:((thenP (plc ms) (k+1) (plc ms r.1).dropLast++[(plc ms r.1).getLastD []]).take (tn ms p).length=tn ms p)↔((thenP (plc ms) (k+1) (plc ms r.1).dropLast).take (tn ms p).length=tn ms p) :=
     take_snoc.trans ⟨fun z=>z.resolve_right fun z=>hinj (e7.symm.trans z),.inl⟩
    by_cases hc:(thenP (plc ms) (k+1) (plc ms r.1).dropLast).take (tn ms p).length=tn ms p
    ·rw[if_pos hc,if_pos (iff.mpr hc)];have hle:(tn ms p).length<=(thenP (plc ms) (k+1) (plc ms r.1).dropLast).length:=by
      have:=congrArg List.length hc;rw[Bm] at this;lia
     rw[List.drop_append_of_le_length hle];simp only[Fx]
    ·rw[if_neg hc,if_neg fun z=>hc (iff.mp z)]
inductive Way (bl:Bool) (rows:List Rw):List Mv->List Mv->Prop
 |nil:Way bl rows [] []
 |put {row ms ms':List Mv} {p:Pth}:Way bl rows row ms->Gd bl rows ms'->p∈rows.map (·.1)->(∀x,x≠p->plc ms' x=plc ms x)->plc ms' p≠plc ms p->Way bl rows (row++[(tn ms p,tn ms (plc ms' p).dropLast++[(plc ms' p).getLastD []])]) ms'
def bhd(row:List Mv)(x:Pth):Pth:=row.foldl (fun x m=>carry m.1 m.2 x) x
theorem Way.gd(hl:Hl bl rows){row:List Mv}(w:Way bl rows row ms):Gd bl rows ms:=by
 cases w with
 |nil=>exact Gd.nil hl
 |put _ g=>exact g
theorem q7c(hl:Hl bl rows):∀{k:Nat} {p:Pth},M6 rows k p->thenP (plc []) (k+1) p=p
 |0,p,h=>by rw[h.zero hl];rfl
 |k+1,p,h=>by
  unfold thenP;by_cases e:p=[]
  ·rw[if_pos e,e]
  ·rw[if_neg e];have h1:=q7c hl (h.step hl (Gd.nil hl).gw e);rw[h1];exact(q6w e).symm
theorem Way.behind(hl:Hl bl rows){row:List Mv}(w:Way bl rows row ms){x:Pth}(hx:M6 rows 6 x):bhd row x=tn ms x:=by
 induction w with
 |nil=>exact(q7c hl hx).symm
 |put w g hp ho _ ih =>
  unfold bhd at ih ⊢;rw[Nz,ih];exact q8n hl (w.gd hl) g hp ho hx (Aq _)
theorem Way.take{row:List Mv}(w:Way bl rows row ms):∀i,∃ms',Way bl rows (row.take i) ms':=by
 induction w with
 |nil=>exact fun i=>⟨[],by rw[Nr];exact .nil⟩
 | @put row ms ms' p w g hp ho hn ih =>
  intro i;by_cases hi:i<=row.length
  ·rw[Ms hi];exact ih i
  ·rw[Ei (by rw[Al];show row.length+1<=i;lia)];exact⟨_,.put w g hp ho hn⟩
theorem z1k(hl:Hl bl rows)(g:Gd bl rows ms)(hx:p∈rows.map (·.1)):okP (tn ms p):=by
 obtain⟨r,hr,rfl⟩:=Ac.mp hx;obtain⟨e,hd,l5⟩:=q3y hl g.gw hr;obtain⟨h1,h2⟩:=q9s hl g.gw (k:=6) hd (by lia);rw[show tn ms r.1=_ from e];refine⟨by simp,by rw[Al,h1];show _+1<=6;lia,fun n hn=>?_⟩;rcases Am.mp hn with hn|hn
 ·exact h2 n hn
 ·rw[Ai.mp hn];exact q2q (q1o hl g.gw hx)
theorem z8b(hl:Hl bl rows)(g:Gd bl rows ms)(hx:M6 rows 6 x):Low (tn ms x)/\(tn ms x).length<=7:=q6z hl g.gw hx
theorem x3w(hl:Hl bl rows)(g:Gd bl rows ms)(g':Gd bl rows ms')(hx:p∈rows.map (·.1)):okP (tn ms (plc ms' p).dropLast++[(plc ms' p).getLastD []]):=by
 have ok:=q1o hl g'.gw hx;have f6:(plc ms' p).length<=6:=ok.few;have pos:=Bu.mpr ok.ne;obtain⟨h1,h2⟩:=q9s hl g.gw (k:=6) (q1d hl g'.gw hx).1 (by rw[Bq];lia);refine⟨by simp,by rw[Al,show(tn ms (plc ms' p).dropLast).length=_ from h1,Bq];show _+1<=6;lia,fun n hn=>?_⟩;rcases Am.mp hn with hn|hn
 ·exact h2 n hn
 ·rw[Ai.mp hn];exact q2q ok
theorem Way.ok(hl:Hl bl rows){row:List Mv}(w:Way bl rows row ms):okMs row:=by
 induction w with
 |nil=>exact fun _ h=>nomatch h
 |put w g hp ho _ ih =>
  intro m hm;rcases Am.mp hm with hm|hm
  ·exact ih m hm
  ·rw[Ai.mp hm];exact⟨z1k hl (w.gd hl) hp,x3w hl (w.gd hl) g hp⟩
def setW(p q:Pth)(ms:List Mv):List Mv:=(p,q)::ms.filter fun m=>decide (m.1≠p)
theorem q5n{p x:Pth}(h:x≠p):∀{ms:List Mv},plc (ms.filter fun m=>decide (m.1≠p)) x=plc ms x
 |[]=>rfl
 |m::ms=>by
  by_cases e:m.1=p
  ·rw[Ct (by simpa using e),q5n h];conv=>rhs;unfold plc
   rw[if_neg fun z=>h (z.symm.trans e)]
  ·rw[Cu (by simpa using e)];unfold plc;rw[q5n h]
theorem z2p:plc (setW p q ms) p=q:=by
 unfold setW plc;rw[if_pos rfl]
theorem z8c(h:x≠p):plc (setW p q ms) x=plc ms x:=by
 unfold setW;conv=>lhs;unfold plc
 rw[if_neg fun z=>h z.symm];exact q5n h
theorem z8d(g:GoodW rows ms)(w:Wsh rows (p,q)):GoodW rows (setW p q ms):=by
 refine⟨fun m hm=>?_,?_⟩
 ·rcases Ay.mp hm with rfl|hm
  ·exact w
  ·exact g.all m (Cp.mp hm).1
 ·unfold setW;rw[Aw,Bp];refine⟨fun h=>?_,g.nd.sublist (Ru.map _)⟩;obtain⟨m,hm,e⟩:=Ac.mp h;exact of_decide_eq_true (Cp.mp hm).2 e
def stO(f:Pth->Pth)(D:List Pth)(a:Option (Pth×Pth))(x:Pth):Pth:=if x∈D then f x else match a with|some (r,sp)=>if x=r then sp else x|none=>x
structure StO (bl:Bool) (rows:List Rw) (f:Pth->Pth) (D:List Pth) (a:Option (Pth×Pth)):Prop where
 cl:∀{x y},x∈D->nx bl (rows.map (·.1)) f x=some y->y∈D\/∃sp,a=some (y,sp)
 sub:∀x∈D,x∈rows.map (·.1)
 sp:∀{r sp},a=some (r,sp)->r∉D/\∀x∈rows.map (·.1),x≠r->fold bl (stO f D a x)≠fold bl sp
theorem StO.apart{f:Pth->Pth}{D:List Pth}{a:Option (Pth×Pth)}(hl:Hl bl rows)(ap:Apart bl rows f)(s:StO bl rows f D a):Apart bl rows (stO f D a):=by
 have nd0:((rows.map (·.1)).map (fold bl)).Nodup:=by rw[Ap];exact hl.nd
 have ap':((rows.map (·.1)).map fun p=>fold bl (f p)).Nodup:=ap;have key:∀{x y:Pth},x∈rows.map (·.1)->y∈rows.map (·.1)->x∈D->y∉D->(∀sp,a≠some (y,sp))->fold bl (f x)≠fold bl y:=fun{x y} hx hy hD hn ha e=>by
  by_cases exy:y=x
  ·rw[exy] at hn;exact hn hD
  ·by_cases hm:f x=x
   ·rw[hm] at e;exact exy (q0t nd0 hx hy e).symm
   ·rcases s.cl hD ((q1b hl).mpr ⟨hx,hm,hy,e.symm,exy⟩) with h|⟨sp,h⟩
    ·exact hn h
    ·exact ha sp h
 show((rows.map (·.1)).map fun p=>fold bl (stO f D a p)).Nodup;refine Ny.mpr (Pd (fun{x y} hx hy n z=>?_) hl.paths);have asd:∀{r sp:Pth},a=some (r,sp)->stO f D a r=sp:=fun{r sp} e=>by
  unfold stO;rw[if_neg (s.sp e).1,e];simp
 by_cases hax:∃sp,a=some (x,sp)
 ·obtain⟨sp,e⟩:=hax;exact(s.sp e).2 y hy (fun q=>n q.symm) (by rw[<- z,asd e])
 by_cases hay:∃sp,a=some (y,sp)
 ·obtain⟨sp,e⟩:=hay;exact(s.sp e).2 x hx n (by rw[z,asd e])
 have plain:∀{u:Pth},u∉D->(¬∃sp,a=some (u,sp))->stO f D a u=u:=fun{u} hu ha=>by
  unfold stO;rw[if_neg hu];cases ea:a with
  |none=>rfl
  |some v =>
   obtain⟨r,sp⟩:=v;show(if u=r then sp else u)=u;rw[if_neg fun q=>ha ⟨sp,by rw[ea,q]⟩]
 have done:∀{u:Pth},u∈D->stO f D a u=f u:=fun{u} hu=>by unfold stO;rw[if_pos hu]
 by_cases hx2:x∈D
 ·by_cases hy2:y∈D
  ·rw[done hx2,done hy2] at z;exact n (q0t ap' hx hy z)
  ·rw[done hx2,plain hy2 hay] at z;exact key hx hy hx2 hy2 (fun sp e=>hay ⟨sp,e⟩) z
 ·by_cases hy2:y∈D
  ·rw[plain hx2 hax,done hy2] at z;exact key hy hx hy2 hx2 (fun sp e=>hax ⟨sp,e⟩) z.symm
  ·rw[plain hx2 hax,plain hy2 hay] at z;exact n (q0t nd0 hx hy z)
end
end
end K
set_option maxHeartbeats 4000000
namespace K
open PySem L2 TX SB HM
section
variable{P:Program}{w:World}{K:Ak}{mg:Str->Option Value}{base:Heap}
section
variable{ps:List Pth}{g:Pth->Option Pth}{p q s t x y:Pth}{xs ys:List Pth}
structure RingO (g:Pth->Option Pth) (p:Pth) (xs:List Pth):Prop where
 o:Orb g p xs
 r:∃x,xs.getLast?=some x/\g x=some p
theorem RingP.ro(h:RingP g p xs):RingO g p xs:=⟨h.o,h.r⟩
theorem q5w(t:Trk g p xs)(i:Nat)(hi:i<xs.length):∃u,xs[i]?=some u:=⟨_,Bx hi⟩
theorem RingO.pred(h:RingO g p xs)(F:Fol ps g)(hy:y∈xs)(e:g q=some y):q∈xs:=by
 obtain⟨i,hi⟩:=Ba.mp hy;cases i with
 |zero =>
  obtain⟨z,hz,gz⟩:=h.r;rw[h.o.hd] at hi;cases hi;rw[F.inj e gz];exact Hd hz
 |succ i =>
  have hlt:=(Aj.mp hi).1;obtain⟨u,hu⟩:=q5w h.o.toTrk i (by lia);rw[F.inj e (h.o.st hu hi)];exact Ag hu
theorem RingO.next(h:RingO g p xs)(hx:x∈xs)(e:g x=some y):y∈xs:=by
 obtain⟨i,hi⟩:=Ba.mp hx;cases e2:xs[i+1]? with
 |some v =>
  have:=h.o.st hi e2;rw[e] at this;cases this;exact Ag e2
 |none =>
  obtain⟨z,hz,gz⟩:=h.r;have:=q2r hi e2 hz;subst this;rw[e] at gz;cases gz;exact Ag h.o.hd
theorem RingO.back(h:RingO g p xs)(F:Fol ps g)(t:Trk g s ys):∀{i:Nat} {x:Pth},ys[i]?=some x->x∈xs->s∈xs
 |0,x,e,hx=>by rw[t.hd] at e;cases e;exact hx
 |i+1,x,e,hx=>by
  have hlt:=(Aj.mp e).1;obtain⟨u,hu⟩:=q5w t i (by lia);exact RingO.back h F t hu (h.pred F hx (t.st hu e))
theorem RingO.fwd(h:RingO g p xs)(t:Trk g s ys)(hs:s∈xs):∀{i:Nat} {x:Pth},ys[i]?=some x->x∈xs
 |0,x,e=>by rw[t.hd] at e;cases e;exact hs
 |i+1,x,e=>by
  have hlt:=(Aj.mp e).1;obtain⟨u,hu⟩:=q5w t i (by lia);exact h.next (RingO.fwd h t hs hu) (t.st hu e)
theorem RingO.mem(h:RingO g p xs)(F:Fol ps g):∀(k:Nat) {i:Nat} {x:Pth},xs.length-1-i=k->xs[i]?=some x->IsRing g x
 |k,i,x,hk,e=>by
  have hlt:=(Aj.mp e).1;have hp:IsRing g p:=let ⟨z,hz,gz⟩:=h.r;h.o.toTrk.ring hz gz;cases e2:xs[i+1]? with
  |none =>
   obtain⟨z,hz,gz⟩:=h.r;have:=q2r e e2 hz;subst this;exact hp.pred F gz
  |some v =>
   have hlt2:=(Aj.mp e2).1;cases k with
   |zero=>lia
   |succ k=>exact(RingO.mem h F k (by lia) e2).pred F (h.o.st e e2)
theorem RingP.one(h:RingP g p xs)(h2:RingP g q ys)(F:Fol ps g)(hx:x∈xs)(hy:x∈ys):p=q:=by
 obtain⟨i,hi⟩:=Ba.mp hx;obtain⟨j,hj⟩:=Ba.mp hy;have a:=h2.ro.back F h.o.toTrk hi hy;have b:=h.ro.back F h2.o.toTrk hj hx;exact q5h (h2.least p a) (h.least q b)
theorem ChnP.one(F:Fol ps g)(h:ChnP g s xs)(h2:ChnP g t ys):∀{i j:Nat} {x:Pth},xs[i]?=some x->ys[j]?=some x->s=t
 |0,0,x,e1,e2=>by rw[h.o.hd] at e1;rw[h2.o.hd] at e2;cases e1;cases e2;rfl
 |0,j+1,x,e1,e2=>by
  rw[h.o.hd] at e1;cases e1;have hlt:=(Aj.mp e2).1;obtain⟨u,hu⟩:=q5w h2.o.toTrk j (by lia);exact absurd (h2.o.st hu e2) (h.st u)
 |i+1,0,x,e1,e2=>by
  rw[h2.o.hd] at e2;cases e2;have hlt:=(Aj.mp e1).1;obtain⟨u,hu⟩:=q5w h.o.toTrk i (by lia);exact absurd (h.o.st hu e1) (h2.st u)
 |i+1,j+1,x,e1,e2=>by
  have l1:=(Aj.mp e1).1;have l2:=(Aj.mp e2).1;obtain⟨u,hu⟩:=q5w h.o.toTrk i (by lia);obtain⟨v,hv⟩:=q5w h2.o.toTrk j (by lia);have:=F.inj (h.o.st hu e1) (h2.o.st hv e2);subst this;exact ChnP.one F h h2 hu hv
theorem z4y(F:Fol ps g)(h:ChnP g s xs)(h2:RingP g q ys)(hx:x∈xs):x∉ys:=fun hy=>by
 obtain⟨i,hi⟩:=Ba.mp hx;obtain⟨j,hj⟩:=Ba.mp hy;exact IsRing.apart F h.st h.o.toTrk hi (h2.ro.mem F _ rfl hj)
theorem z3s:∀{l:List Pth},l≠[]->∃m∈l,∀y∈l,pLt y m=false
 |[],h=>absurd rfl h
 |[a],_=>⟨a,At,fun y hy=>by rw[Ai.mp hy];exact q1k _⟩
 |a::b::l,_=>by
  obtain⟨m,hm,h⟩:=z3s (l:=b::l) (by simp);cases e:pLt a m with
  |false=>exact⟨m,An _ hm,fun y hy=>by
    rcases Ay.mp hy with rfl|hy
    ·exact e
    ·exact h y hy⟩
  |true =>
   refine⟨a,At,fun y hy=>?_⟩;rcases Ay.mp hy with rfl|hy
   ·exact q1k _
   ·refine z1b ?_ (h y hy);cases e2:pLt m a with
    |false=>rfl
    |true=>have:=q3s e e2;rw[q1k] at this;cases this
theorem covers(F:Fol ps g)(hp:p∈ps):(∃m ys,RingP g m ys/\p∈ys)\/∃s ys,s∈ps/\(s=p\/∃y,g s=some y)/\ChnP g s ys/\p∈ys:=by
 by_cases h:IsRing g p
 ·left;obtain⟨xs,x,o,hl,gx⟩:=h;have ro:RingO g p xs:=⟨o,x,hl,gx⟩
  obtain⟨m,hm,least⟩:=z3s (l:=xs) (fun z=>by rw[z] at hl;cases hl);obtain⟨i,hi⟩:=Ba.mp hm;obtain⟨ys,y,o2,hl2,gy⟩:=ro.mem F _ rfl hi;have ro2:RingO g m ys:=⟨o2,y,hl2,gy⟩
  refine⟨m,ys,⟨o2,⟨y,hl2,gy⟩,fun u hu=>?_⟩,ro2.back F o.toTrk hi (Ag o2.hd)⟩;obtain⟨j,hj⟩:=Ba.mp hu;exact least u (ro.fwd o2.toTrk hm hj)
 ·right;obtain⟨s,ys,h1,h2,t,hl⟩:=z3r F h _ rfl hp Trk.one rfl;obtain⟨u,o⟩:=Orb.ex F h1 _ rfl t;refine⟨s,ys++u,h1,?_,⟨o,h2⟩,Ch _ (Hd hl)⟩;cases e:ys[1]? with
  |some v=>exact .inr ⟨v,t.st t.hd e⟩
  |none=>exact .inl (q2r t.hd e hl)
end
section
variable{bl:Bool}{rows:List Rw}{ms row W:List Mv}{D D':List Pth}{a a':Option (Pth×Pth)}{x q:Pth}
theorem Way.step(hl:Hl bl rows)(gW:Gd bl rows W)(w:Way bl rows row ms)(hs:∀u∈rows.map (·.1),plc ms u=stO (plc W) D a u)(s':StO bl rows (plc W) D' a')(hx:x∈rows.map (·.1))(hq:stO (plc W) D' a' x=q)(hw:Wsh rows (x,q))(ho:∀u∈rows.map (·.1),u≠x->stO (plc W) D' a' u=stO (plc W) D a u)(hn:q≠stO (plc W) D a x):
  ∃ms',Way bl rows (row++[(tn ms x,tn ms q.dropLast++[q.getLastD []])]) ms'/\∀u∈rows.map (·.1),plc ms' u=stO (plc W) D' a' u:=by
 have hs':∀u∈rows.map (·.1),plc (setW x q ms) u=stO (plc W) D' a' u:=fun u hu=>by
  by_cases e:u=x
  ·rw[e,z2p,hq]
  ·rw[z8c e,ho u hu e,hs u hu]
 have g':Gd bl rows (setW x q ms):=by
  refine⟨z8d (w.gd hl).gw hw,?_⟩;have ap:=s'.apart hl gW.ap;show((rows.map (·.1)).map fun p=>fold bl (plc (setW x q ms) p)).Nodup;rw[Cs fun u hu=>congrArg (fold bl) (hs' u hu)];exact ap
 refine⟨setW x q ms,?_,hs'⟩;have h:=Way.put (ms':=setW x q ms) (p:=x) w g' hx (fun u hu=>z8c hu) (by rw[z2p,hs x hx];exact hn);rw[z2p] at h;exact h
theorem x3x(hl:Hl bl rows)(g:GoodW rows W)(hx:x∈rows.map (·.1)):Wsh rows (x,plc W x):=by
 obtain⟨h1,h2⟩:=q1d hl g hx;obtain⟨r,hr,e⟩:=Ac.mp hx;refine⟨⟨r.2,by rw[<- e];exact hr,?_⟩,q1o hl g hx,h1⟩;by_cases hn:r.2=none
 ·exact .inl (h2 (by rw[<- e,<- hn];exact hr))
 ·exact .inr hn
end
end
end K
set_option maxHeartbeats 4000000
namespace K
open PySem L2 TX SB HM
section
variable{P:Program}{w:World}{K:Ak}{mg:Str->Option Value}{base:Heap}
theorem z8e{q:Pth}(h:q≠[]):cutV (vP q) (some (-1)) none=vP [q.getLastD []]:=by
 have hl:=Bu.mpr h;have e:HT.sIx (vP q).length 0 (some (-1))=q.length-1:=by
  show(if (-1:Int)<0 then((-1:Int)+((vP q).length:Int)).toNat else min (-1:Int).toNat (vP q).length)=_;rw[if_pos (by decide),q0z];lia
 have e2:HT.sIx (vP q).length (vP q).length none=(vP q).length:=rfl;unfold cutV;rw[e,e2];have e3:q=q.dropLast++[q.getLastD []]:=by
  rw[En,Bh h];exact(Gh h).symm
 have e4:(vP q).drop (q.length-1)=vP [q.getLastD []]:=by
  have:q.length-1=(vP q.dropLast).length:=by rw[q0z,Bq]
  rw[this];conv=>lhs;arg 2;rw[e3]
  show((q.dropLast++[q.getLastD []]).map _).drop _=_;rw[Af];exact List.drop_left
 rw[e4];exact Ei (by rw[q0z,q0z];show 1<=_;lia)
def spCarried:Sp:=fun vs H Q _=>∃a b c x p q,vs=[.ref a,.ref b,.ref c]/\H a=some (.tup (vP x))/\H b=some (.tup (vP p))/\H c=some (.tup (vP q))/\Low x/\Low p/\x.length<=100/\q.length<=100/\∀e H',Same H H'->H' e=some (.tup (vP (carry p q x)))->Q (.ref e) H'
theorem z3t{p:Pth}{n:Nat}(h:Low p):Low (p.take n):=fun x hx=>h x (Hb hx)
abbrev q5o:Stmt:=top 13
theorem z4z:FnScope ["path", "moved", "place"] ["path", "moved", "place"] (defScope q5o):=⟨rfl,rfl,rfl,by decide +kernel,rfl,by decide +kernel,by decide +kernel⟩
theorem z5a(D:Df K mg "carried" q5o ["path", "moved", "place"])(T:Txt mg):Cal P w K mg base "carried" 1 ["path", "moved", "place"] spCarried:=by
 refine D.cal z4z (fun vs H Q E h=>?_) (fun f cdv A outer s H vs Q E hr h=>?_)
 ·obtain⟨a,b,c,x,p,q,rfl,_⟩:=h;rfl
 ·obtain⟨a,b,c,x,p,q,rfl,ha,hb,hc,lx,lp,l1,l2,k⟩:=h;refine⟨_,(q0d (q1e (q0k (eq_k K rfl hr) (q0p sl_P (pv 0) q0q (q0r (q0m (q4f K rfl) (by rfl) T.b_len Ck (q0a (pv 1) q0e)))) (pv 1) (nomark _)) (q0f (q0l (q1j q3e (pv 2) (q0p sl_P (pv 0) (q0r (q0m (q4f K rfl) (by rfl) T.b_len Ck (q0a (pv 1) q0e))) q0q)))) q0n) (q0f (q0l (pv 0)))),?_⟩;refine⟨_,rfl,_,rfl,_,_,rfl,.inr ⟨_,SqT.of hb,rfl⟩,_,rfl,a,_,rfl,ha,fun t1 H1 s1 h1=>?_⟩;rw[q0z,x1n] at h1;refine⟨_,rfl,q0y h1 (s1 _ _ hb) (z3t lx) lp ⟨_,rfl,?_⟩⟩;refine iteB (fun he=>?_) (fun he=>?_)
  ·have he:=of_decide_eq_true he;refine⟨_,rfl,_,rfl,_,rfl,_,_,rfl,.inr ⟨_,SqT.of (s1 _ _ hb),rfl⟩,_,rfl,a,_,rfl,s1 _ _ ha,fun t2 H2 s2 h2=>?_⟩;rw[q0z,z3o] at h2;refine⟨c,t2,_,_,rfl,rfl,s2 _ _ (s1 _ _ hc),h2,by rw[q0z,q0z,Dd];exact small (by lia),fun e H3 s3 h3 _=>?_⟩;refine k e H3 ((s1.trans s2).trans s3) ?_;rw[h3,<- z7r];unfold carry;rw[if_pos he]
  ·have he:=of_decide_eq_false he;refine⟨_,rfl,k a H1 s1 ?_⟩;unfold carry;rw[if_neg he];exact s1 _ _ ha
structure CallsPB (P:Program) (w:World) (K:Ak) (mg:Str->Option Value) (base:Heap):Prop where
 carried:Cal P w K mg base "carried" 1 ["path", "moved", "place"] spCarried
structure RW (H:Hp) (L:Addr) (bl:Bool) (rows:List Rw) (zs:List Zm) (ms:List Mv):Prop where
 ml:ML H L zs
 hl:Hl bl rows
 w:Way bl rows (zs.map (·.2)) ms
 len:zs.length<=100
theorem RW.same{H H':Hp}{L:Addr}{bl:Bool}{rows:List Rw}{zs:List Zm}{ms:List Mv}(r:RW H L bl rows zs ms)(s:Same H H'):RW H' L bl rows zs ms:=⟨r.ml.same s,r.hl,r.w,r.len⟩
theorem RW.keep{H H':Hp}{L D:Addr}{o:HO}{bl:Bool}{rows:List Rw}{zs:List Zm}{ms:List Mv}(r:RW H L bl rows zs ms)(hd:H D=some o)(h1:∀xs,o≠.lst xs)(h2:∀xs,o≠.tup xs)(kp:∀c u,c≠D->H c=some u->H' c=some u):RW H' L bl rows zs ms :=
 ⟨⟨kp _ _ (fun z=>by have e:=r.ml.at_;rw[z,hd] at e;cases e;exact h1 _ rfl) r.ml.at_,fun z hz=>(r.ml.pr z hz).keep fun T xs e=>kp _ _ (fun z=>by rw[z,hd] at e;cases e;exact h2 _ rfl) e⟩,r.hl,r.w,r.len⟩
def spBehind:Sp:=fun vs H Q _=>∃b L bl rows zs ms x,vs=[.ref b,.ref L]/\RW H L bl rows zs ms/\H b=some (.tup (vP x))/\M6 rows 6 x/\∀e H',Same H H'->H' e=some (.tup (vP (tn ms x)))->Q (.ref e) H'
abbrev q2z:Stmt:=top 29
theorem sc_path_behind:FnScope ["path", "row", "moved", "place"] ["path", "row"] (defScope q2z):=⟨rfl,rfl,rfl,by decide +kernel,rfl,by decide +kernel,by decide +kernel⟩
theorem z8f(D:Df K mg "path_behind" q2z ["path", "row"])(T:Txt mg)(C:CallsPB P w K mg base):Cal P w K mg base "path_behind" 2 ["path", "row"] spBehind:=by
 refine D.cal sc_path_behind (fun vs H Q E h=>?_) (fun f cdv A outer s H vs Q E hr h=>?_)
 ·obtain⟨b,L,bl,rows,zs,ms,x,rfl,_⟩:=h;rfl
 ·obtain⟨b,L,bl,rows,zs,ms,x,rfl,r,hb,hx,k⟩:=h;refine⟨_,(q0d (q1f Bi rfl (@q3a _ _ _ _ K rfl (pv 1)) (@q2t _ _ _ _ (2) _ K rfl rfl (q0o (q0h (i:=2) sc_path_behind.nd rfl (by first|exact Or.inl rfl|exact Or.inr rfl)) (q0o (q0h (i:=3) sc_path_behind.nd rfl (by first|exact Or.inl rfl|exact Or.inr rfl)) q1v)) (by rfl) (by rfl)) (q0f (q0j (i:=0) sc_path_behind.nd rfl (by first|exact Or.inl rfl|exact Or.inr rfl) (pe_c C.carried hr (q0a (pv 0) (q0a (pv 2) (q0a (pv 3) q0e))))))) (q0f (q0l (pv 0)))),?_⟩;have okr:=r.w.ok r.hl;have low:∀i,Low (bhd ((zs.map (·.2)).take i) x)/\(bhd ((zs.map (·.2)).take i) x).length<=7:=fun i=>by
   obtain⟨ms',w'⟩:=r.w.take i;rw[w'.behind r.hl hx];exact z8b r.hl (w'.gd r.hl) hx
  refine⟨_,rfl,.inl ⟨L,rfl,⟨_,SqL.of r.ml.at_⟩,?_⟩⟩;refine q2j (fun i σ' H'=>∃e x2 x3,σ'=[some (.ref e),some (.ref L),x2,x3]/\Same H H'/\H' e=some (.tup (vP (bhd ((zs.map (·.2)).take i) x)))) ⟨b,none,none,rfl,Same.refl H,hb⟩ (fun i σ' H' _ x=>by obtain⟨_,_,_,_,s',_⟩:=x;exact SqL.of (s' _ _ r.ml.at_)) ?_ ?_
  ·rintro i v σ' H1 hv ⟨e,x2,x3,rfl,s1,he⟩;obtain⟨z,hz,rfl⟩:∃z,zs[i]?=some z/\v=.ref z.1:=by
    rw[Ae] at hv;cases e:zs[i]? with
    |none=>rw[e] at hv;cases hv
    |some z=>rw[e] at hv;cases hv;exact⟨z,rfl,rfl⟩
   have hzm:=Ag hz;obtain⟨A1,B1,g1,g2,g3⟩:=(r.ml.same s1).pr z hzm;have okz:=okr z.2 (Ac.mpr ⟨z,hzm,rfl⟩);refine⟨z.1,_,rfl,SqT.of g1,rfl,_,_,rfl,_,_,rfl,rfl,?_⟩;have l7:=(low i).2;have l6:z.2.2.length<=6:=okz.2.few;refine⟨_,rfl,_,rfl,_,rfl,e,A1,B1,_,_,_,rfl,he,g2,g3,(low i).1,okz.1.low,by lia,by lia,fun e2 H2 s2 h2=>?_⟩;refine⟨e2,_,_,rfl,s1.trans s2,?_⟩;rw[h2];have e1:(zs.map (·.2)).take (i+1)=(zs.map (·.2)).take i++[z.2]:=by rw[Bc,Ae,hz];rfl
   rw[e1];unfold bhd;rw[Nz];rfl
  ·rintro σ' H1 ⟨e,x2,x3,rfl,s1,he⟩;rw[Ab,<- Ab (f:=fun z:Zm=>z.2),Bb,r.w.behind r.hl hx] at he;exact⟨_,rfl,k e H1 s1 he⟩
structure CallsPM (P:Program) (w:World) (K:Ak) (mg:Str->Option Value) (base:Heap):Prop where
 path_behind:Cal P w K mg base "path_behind" 2 ["path", "row"] spBehind
def spPutM:Sp:=fun vs H Q _=>∃b c L bl rows zs ms x q,vs=[.ref L,.ref b,.ref c]/\RW H L bl rows zs ms/\zs.length<100/\H b=some (.tup (vP x))/\H c=some (.tup (vP q))/\x∈rows.map (·.1)/\okP q/\IsD rows q.dropLast /\
 ∀T' H',(∀a u,a≠L->H a=some u->H' a=some u)->ML H' L (zs++[(T',(tn ms x,tn ms q.dropLast++[q.getLastD []]))])->Q .non H'
abbrev q4p:Stmt:=top 31
theorem z2q:FnScope ["row", "path", "place"] ["row", "path", "place"] (defScope q4p):=⟨rfl,rfl,rfl,by decide +kernel,rfl,by decide +kernel,by decide +kernel⟩
theorem x3y(D:Df K mg "put_move" q4p ["row", "path", "place"])(T:Txt mg)(C:CallsPM P w K mg base):Cal P w K mg base "put_move" 3 ["row", "path", "place"] spPutM:=by
 refine D.cal z2q (fun vs H Q E h=>?_) (fun f cdv A outer s H vs Q E hr h=>?_)
 ·obtain⟨b,c,L,bl,rows,zs,ms,x,q,rfl,_⟩:=h;rfl
 ·obtain⟨b,c,L,bl,rows,zs,ms,x,q,rfl,r,len,hb,hc,hx,okq,hd,k⟩:=h;refine⟨_,(q0f (q2b (@bm_k _ _ _ _ _ _ _ _ _ _ _ _ K rfl Cv Dg Dh q1w (pv 0) (q0a (q1g (q0a (pe_c C.path_behind hr (q0a (pv 1) (q0a (pv 0) q0e))) (q0a (q1j q3e (pe_c C.path_behind hr (q0a (q0p sl_P (pv 2) q0q (q0r (q1l q0s q0g))) (q0a (pv 0) q0e))) (q0p sl_P (pv 2) (q0r (q1l q0s q0g)) q0q)) q0e))) q0e) (by rfl) (by rfl) (by rfl) (by rfl) (by rfl)))),?_⟩;have l5:q.dropLast.length<=6:=by rw[Bq];have:q.length<=6:=okq.few;lia
  refine⟨_,rfl,.inl ⟨rfl,_,SqL.of r.ml.at_⟩,_,rfl,_,rfl,b,L,bl,rows,zs,ms,x,rfl,r,hb,m6_p hx,fun e1 H1 s1 h1=>?_⟩;refine⟨_,rfl,_,rfl,_,rfl,c,_,rfl,s1 _ _ hc,fun t1 H2 s2 h2=>?_⟩;rw[(q1a okq.ne).1] at h2;have s12:=s1.trans s2;refine⟨_,rfl,t1,L,bl,rows,zs,ms,_,rfl,r.same s12,h2,m6_d hd l5,fun e2 H3 s3 h3=>?_⟩;have s13:=s12.trans s3;refine⟨_,rfl,_,rfl,_,rfl,c,_,rfl,s13 _ _ hc,fun t2 H4 s4 h4=>?_⟩;rw[z8e okq.ne] at h4;have l7:=(z8b r.hl (r.w.gd r.hl) (m6_d hd l5)).2;refine⟨e2,t2,_,_,rfl,rfl,s4 _ _ h3,h4,by rw[q0z,q0z];exact small (by show _+1<=_;lia),fun e3 H5 s5 h5 _=>?_⟩;rw[<- z7r] at h5;refine⟨by show 2<=sizeLine;decide,fun T' hT=>?_⟩;have sT:=(Same.refl H5).new (o:=.tup [.ref e1,.ref e3]) hT;have s35:=(s3.trans s4).trans s5;have s15:=(s2.trans s35).trans sT;have s05:=s1.trans s15;have hTT:upd H5 T' (.tup [.ref e1,.ref e3]) T'=some (.tup [.ref e1,.ref e3]):=q0b;have he3:=sT _ _ h5;have he1:=s15 _ _ h1;generalize upd H5 T' (.tup [.ref e1,.ref e3])=H6 at sT s15 s05 hTT he3 he1;have ml6:=r.ml.same s05;refine⟨L,_,_,rfl,rfl,ml6.at_,by rw[Ab];exact small' (by lia),?_⟩;have tk:∀S xs,H6 S=some (.tup xs)->upd H6 L (.lst (zs.map (fun z=>V.ref z.1)++[.ref T'])) S=some (.tup xs):=fun S xs e=>by
   rw[q0c (fun z=>by rw[z,ml6.at_] at e;cases e)];exact e
  refine k T' _ (fun a u ha e=>by rw[q0c ha];exact s05 _ _ e) ⟨by rw[Af];exact q0b,fun z hz=>?_⟩;rcases Am.mp hz with hz|hz
  ·exact(ml6.pr z hz).keep tk
  ·rw[Ai.mp hz];exact⟨e1,e3,tk _ _ hTT,tk _ _ he1,tk _ _ he3⟩
theorem dg_inj{m n:Nat}(hm:m<1000)(hn:n<1000)(h:dg m=dg n):m=n:=by
 have h1:=z6o (m:=m) (by lia);have h2:=z6o (m:=n) (by lia);rw[h,h2] at h1;have:=Bj h1;lia
theorem fi_ns:∀c∈FI,c∈HM.NS:=by decide +kernel
theorem lo_fi:∀c∈HM.NS,Bw c∈FI->Bw c=c:=by decide +kernel
theorem lo_fig:∀c∈FI,Bw c=c:=by decide +kernel
end
end K
set_option maxHeartbeats 4000000
namespace K
open PySem L2 TX SB HM
section
variable{P:Program}{w:World}{K:Ak}{mg:Str->Option Value}{base:Heap}
theorem okN_dg{m:Nat}(h:m<1000):okN (dg m):=⟨dg_pos m,Bz (x1d 2 m (by lia)) (by lia),fun c hc=>fi_ns c (z6n m c hc)⟩
theorem low_dg{m:Nat}:lowN (dg m)=dg m:=by
 unfold lowN;exact(Cs fun c hc=>lo_fig c (z6n m c hc)).trans (Th _)
theorem low_is{n:List Nat}{m:Nat}(hn:okN n)(h:lowN n=dg m):n=dg m:=by
 rw[<- h];unfold lowN;refine((Cs fun c hc=>?_).trans (Th _)).symm;refine lo_fi c (hn.all c hc) (z6n m _ ?_);rw[<- h];exact Ac.mpr ⟨c,hc,rfl⟩
theorem x0p{tk:List (List Nat)}{n:List Nat}:inV (.str (mk n)) (tk.map fun n=>V.str (mk n))=decide (n∈tk):=by
 unfold inV;rw[List.any_map];cases h:decide (n∈tk) with
 |true=>exact Pc.mpr ⟨n,of_decide_eq_true h,by show(mk n==mk n)=true;simp⟩
 |false =>
  refine Sr.mpr fun x hx e=>of_decide_eq_false h ?_;have e2:(mk x==mk n)=true:=e;rw[<- SB.mk_inj (eq_of_beq e2)];exact hx
def spSpare:Sp:=fun vs H Q _=>∃b D L bl rows zs ms qs d,vs=[.ref b,.ref D,.ref L]/\RW H L bl rows zs ms/\rows.length<=30/\H b=some (.tup (vP d))/\IsD rows d/\d.length<=5/\PDt H D qs/\((qs.map (·.2)).map (·.1)).Perm (rows.map (·.1)) /\
 ∀n H',Same H H'->okN n->(∀x∈rows.map (·.1),fold bl (plc ms x)≠fold bl (d++[n]))->Q (.str (mk n)) H'
abbrev q3m:Stmt:=top 30
theorem sc_spare_name:FnScope ["drawer", "paths", "row", "drawer_then", "paths_then", "taken", "number"] ["drawer", "paths", "row"] (defScope q3m):=⟨rfl,rfl,rfl,by decide +kernel,rfl,by decide +kernel,by decide +kernel⟩
theorem x0q(D:Df K mg "spare_name" q3m ["drawer", "paths", "row"])(T:Txt mg)(C:CallsPM P w K mg base):Cal P w K mg base "spare_name" 3 ["drawer", "paths", "row"] spSpare:=by
 refine D.cal sc_spare_name (fun vs H Q E h=>?_) (fun f cdv A outer s H vs Q E hr h=>?_)
 ·obtain⟨b,D,L,bl,rows,zs,ms,qs,d,rfl,_⟩:=h;rfl
 ·obtain⟨b,D,L,bl,rows,zs,ms,qs,d,rfl,r,h30,hb,hd,l5,pd,pm,k⟩:=h;refine⟨_,(q0d (q0j (i:=3) sc_spare_name.nd rfl (by first|exact Or.inl rfl|exact Or.inr rfl) (pe_c C.path_behind hr (q0a (pv 0) (q0a (pv 2) q0e)))) (q0d (q3r H rfl (q6m (i:=4) ["path"] [("row",2)] sc_spare_name.nd rfl (by first|exact Or.inl rfl|exact Or.inr rfl) rfl (@q4w _ _ _ _ K rfl (pv 1)) (fun _ _ _ _ _=>(q0h (i:=0) (show(["path", "row"]:List Str).Nodup by decide +kernel) rfl (by first|exact Or.inl rfl|exact Or.inr rfl))) (fun _ _ _ _ _=>q5e) (fun _ _ _ _ _=>(pe_c C.path_behind hr (q0a (pv 0) (q0a (pv 1) q0e)))))) (q0d (q6m (i:=5) ["path"] [("drawer_then",3)] sc_spare_name.nd rfl (by first|exact Or.inl rfl|exact Or.inr rfl) rfl (@q3a _ _ _ _ K rfl (pv 4)) (fun _ _ _ _ _=>(q0h (i:=0) (show(["path", "drawer_then"]:List Str).Nodup by decide +kernel) rfl (by first|exact Or.inl rfl|exact Or.inr rfl))) (fun _ _ _ _ _=>(q3p (q0k (eq_k K rfl hr) (q0p (sl_k K rfl) (pv 0) q0q (q0r (q1l q0s q0g))) (pv 1) (nomark _)))) (fun _ _ _ _ _=>(q1m (ix_k K rfl) (pv 0) (q1l q0s q0g) (fun _ _=>rfl)))) (q0d (q0j (i:=6) sc_spare_name.nd rfl (by first|exact Or.inl rfl|exact Or.inr rfl) q0g) (q0d (q8q Bi (q0k (in_k K rfl) (q2l z0x (by rfl) T.b_str (by decide +kernel) (q0a (pv 6) q0e)) (pv 5) (by with_unfolding_all rfl)) (q0f (ps_aug (i:=6) sc_spare_name.nd rfl (by first|exact Or.inl rfl|exact Or.inr rfl) q0g x1v))) (q0f (q0l (q2l z0x (by rfl) T.b_str (by decide +kernel) (q0a (pv 6) q0e))))))))),?_⟩;have hl:=r.hl;have g:=r.w.gd hl;have m6d:M6 rows 6 d:=m6_d hd (by lia);have ql:qs.length<=30:=by have:=pm.length_eq;rw[Ab,Ab,Ab] at this;lia
  have inq:∀x∈qs,x.2.1∈rows.map (·.1):=fun x hx=>pm.mem_iff.mp (Ac.mpr ⟨x.2,Ac.mpr ⟨x,hx,rfl⟩,rfl⟩);refine⟨_,rfl,_,rfl,b,L,bl,rows,zs,ms,d,rfl,r,hb,m6d,fun e1 H1 s1 h1=>?_⟩;have pd1:=pd.same s1;have r1:=r.same s1;refine⟨D,(fun o v e=>by rw[pd.at_] at e;cases e),?_⟩;refine⟨_,rfl,D,_,rfl,pd1.at_,fun ob=>?_⟩;intro Dc hDc;have hDD:Dc≠D:=fun z=>by rw[z,q0b] at hDc;cases hDc
  have hDc1:H1 Dc=none:=by rw[q0c hDD] at hDc;exact hDc
  have kv0:((qs.map fun x=>((x.2.1,.ref x.1):HRow)).map fun r=>(kP r.1,r.2)).length=qs.length:=by rw[Ab,Ab]
  refine q5f (n:=qs.length) (fun j ys H'=>∃ws:List Zp,ys=ws.map (fun z=>V.ref z.1)/\ws.map (·.2)=((qs.map (·.2)).take j).map (fun m=>tn ms m.1)/\(∀z∈ws,H' z.1=some (.tup (vP z.2)))/\H' D=some (.frz ob (qR qs))/\(∀c u,c≠D->H1 c=some u->H' c=some u)/\H' Dc=some (.lst ys))
   ⟨[],rfl,rfl,(fun _ h=>nomatch h),by rw[q0c hDD.symm];exact q0b,fun c u hc e=>by rw[q0c (q0i e hDc1),q0c hc];exact e,q0b⟩ (fun j ys H' x=>by obtain⟨_,_,_,_,_,_,h⟩:=x;exact h) (fun j ys H' hj x=>by obtain⟨_,_,_,_,hf,_,_⟩:=x;exact⟨hf,by rw[kv0];exact hj⟩) (fun ys H' x=>by obtain⟨_,_,_,_,hf,_,_⟩:=x;exact⟨hf,by rw[kv0];exact Aq _⟩) ?_ ?_
  ·rintro j ys H2 v H3 hj ⟨ws,rfl,ew,hw,hfz,kp,hDl⟩ ⟨rfl,ky,vv,pb,hk',hpb,rfl⟩;obtain⟨y,hy,rfl,rfl⟩:∃y,qs[j]?=some y/\ky=kP y.2.1/\vv=.ref y.1:=by
    rw[Ae,Ae] at hk';cases e:qs[j]? with
    |none=>rw[e] at hk';cases hk'
    |some r=>rw[e] at hk';cases hk';exact⟨r,rfl,rfl,rfl⟩
   rw[q1x] at hpb;have hym:=Ag hy;have r3:RW H3 L bl rows zs ms:=r1.keep pd1.at_ (fun _ e=>by cases e) (fun _ e=>by cases e) kp;have e1':(qs.map (·.2)).take (j+1)=(qs.map (·.2)).take j++[y.2]:=by rw[Bc,Ae,hy];rfl
   have wl:ws.length<=30:=by
    have:=congrArg List.length ew;rw[Ab,Ab,Bm,Ab] at this;lia
   refine⟨q0u,z7s (iteT ⟨_,rfl,_,rfl,pb,L,bl,rows,zs,ms,y.2.1,rfl,r3,hpb,m6_p (inq y hym),fun e2 H4 s4 h4=>?_⟩)⟩;have hD4:=s4 _ _ hDl;have tk:∀S xs,H4 S=some (.tup xs)->upd H4 Dc (.lst (ws.map (fun z=>V.ref z.1)++[.ref e2])) S=some (.tup xs):=fun S xs e=>by
    rw[q0c (fun z=>by rw[z,hD4] at e;cases e)];exact e
   refine⟨hD4,small' (by rw[Ab];lia),ws++[(e2,tn ms y.2.1)],by rw[Af];rfl,by rw[Af,ew,e1',Af];rfl,fun z hz=>?_,by rw[q0c hDD.symm];exact s4 _ _ hfz,fun c u hc e=>by rw[q0c (q0i e hDc1)];exact s4 _ _ (kp c u hc e),q0b⟩;rcases Am.mp hz with hz|hz
   ·exact tk _ _ (s4 _ _ (hw z hz))
   ·rw[Ai.mp hz];exact tk _ _ h4
  rintro ys H2 ⟨ws,rfl,ew,hw,hfz,kp,hDl⟩;rw[<- Ab (f:=fun x:Addr×Mv=>x.2),Bb] at ew;refine⟨ob,_,hfz,?_⟩;have s2:Same H1 (upd H2 D (qR qs)):=q2f pd1.at_ kp;have hP2:upd H2 D (qR qs) Dc=some (.lst (ws.map fun z=>V.ref z.1)):=by rw[q0c hDD];exact hDl
  have hw2:∀z∈ws,upd H2 D (qR qs) z.1=some (.tup (vP z.2)):=fun z hz=>by rw[q0c (fun e=>by have e9:=hw z hz;rw[e,hfz] at e9;cases e9)];exact hw z hz
  generalize upd H2 D (qR qs)=H3 at s2 hP2 hw2;clear hfz kp hDl hw;have wl:ws.length<=30:=by
   have:=congrArg List.length ew;rw[Ab,Ab,Ab] at this;lia
  have okw:∀z∈ws,okP z.2:=fun z hz=>by
   have:z.2∈(qs.map (·.2)).map (fun m=>tn ms m.1):=by rw[<- ew];exact Ac.mpr ⟨z,hz,rfl⟩
   obtain⟨m,hm,e⟩:=Ac.mp this;obtain⟨x,hx,rfl⟩:=Ac.mp hm;rw[<- e];exact z1k hl g (inq x hx)
  have h13:=s2 _ _ h1;refine⟨_,rfl,.inl ⟨Dc,rfl,⟨_,SqL.of hP2⟩,fun De hDe=>?_⟩⟩;refine q2m (fun i ys H'=>∃tk:List (List Nat),ys=tk.map (fun n=>V.str (mk n))/\tk=(((ws.map (·.2)).take i).filter fun p=>decide (p.dropLast=tn ms d)).map (fun p=>p.getLastD [])/\Same H3 H'/\H' De=some (.lst ys)) ⟨[],rfl,rfl,(Same.refl H3).new hDe,q0b⟩ (fun i ys H' h=>by obtain⟨tk,_,_,s',h'⟩:=h;exact⟨h',SqL.of (s' _ _ hP2)⟩) ?_ ?_
  ·rintro i ys H4 v hv ⟨tk,rfl,etk,s4,hDl⟩;obtain⟨z,hz,rfl⟩:∃z,ws[i]?=some z/\v=.ref z.1:=by
    rw[Ae] at hv;cases e:ws[i]? with
    |none=>rw[e] at hv;cases hv
    |some z=>rw[e] at hv;cases hv;exact⟨z,rfl,rfl⟩
   have hzm:=Ag hz;have okz:=okw z hzm;have hz4:=s4 _ _ (hw2 z hzm);have e1':(ws.map (·.2)).take (i+1)=(ws.map (·.2)).take i++[z.2]:=by rw[Bc,Ae,hz];rfl
   have tl:tk.length<=30:=by
    rw[etk,Ab];refine Bz (Cr _ _) ?_;rw[Bm,Ab];lia
   obtain⟨c1,c2⟩:=q1a okz.ne;refine⟨q0u,_,rfl,_,rfl,_,rfl,.inr (.inr ⟨z.1,_,rfl,SqT.of hz4,c2,fun t1 ht1=>?_⟩)⟩;rw[c1];have s5:=(Same.refl H4).new (o:=.tup (vP z.2.dropLast)) ht1;refine⟨_,rfl,q0y q0b (s5 _ _ (s4 _ _ h13)) (q1i okz.low) (z8b hl g m6d).1 ⟨_,rfl,?_⟩⟩;generalize upd H4 t1 (.tup (vP z.2.dropLast))=H5 at s5;have s45:=s4.trans s5;refine iteB (fun hc=>?_) (fun hc=>?_)
   ·refine⟨_,rfl,_,rfl,.inr (.inl ⟨z.1,_,-1,_,rfl,rfl,SqT.of (s5 _ _ hz4),q2x okz.ne,s5 _ _ hDl,small' (by rw[Ab];lia),tk++[z.2.getLastD []],by rw[Af];rfl,?_,s45.put hDe,q0b⟩)⟩;rw[e1',Dl,Cu (by simpa using hc),Af,<- etk];rfl
   ·refine⟨tk,rfl,?_,s45,s5 _ _ hDl⟩;rw[e1',Dl,Ct (by simpa using hc),Af,<- etk];simp
  rintro ys H4 ⟨tk,rfl,etk,s4,hDl⟩;rw[Ab,<- Ab (f:=fun z:Zp=>z.2),Bb] at etk;have tl:tk.length<=30:=by
   rw[etk,Ab];refine Bz (Cr _ _) ?_;rw[Ab];exact wl
  have s04:=(s1.trans s2).trans s4;have flat:(tk.map fun n=>V.str (mk n)).all flatV=true:=Ot.mpr fun x hx=>by obtain⟨n,_,rfl⟩:=Ac.mp hx;rfl
  refine q8r (fun σ' H'=>∃m:Nat,σ'=[some (.ref b),some (.ref D),some (.ref L),some (.ref e1),some (.ref Dc),some (.ref De),some (.int (m:Int))]/\H'=H4/\m<=31/\∀j,j<m->dg j∈tk) (fun σ' _=>match σ' with | [_,_,_,_,_,_,some (.int m)]=>100-m.toNat|_=>0) ⟨0,rfl,rfl,Bl _,fun j hj=>absurd hj (Nat.not_lt_zero _)⟩ ?_ ?_
  ·rintro σ' H5 ⟨m,rfl,rfl,m31,hm⟩;have hml:m<=tk.length:=by
    have nd:((List.range m).map dg).Nodup:=Ny.mpr (Pd (fun{x y} hx hy n z=>n (dg_inj (by have:=Mw.mp hx;lia) (by have:=Mw.mp hy;lia) z)) List.nodup_range);have:=q9o nd (m:=tk) fun x hx=>by
     obtain⟨j,hj,rfl⟩:=Ac.mp hx;exact hm j (Mw.mp hj)
    rw[Ab,List.length_range] at this;exact this
   refine⟨_,rfl,m,rfl,by lia,_,rfl,.inr ⟨De,_,rfl,.inl (SqL.of hDl),rfl,flat,?_⟩⟩;rw[dg_mk,x0p];refine⟨_,rfl,?_⟩;refine ite2 (fun hb'=>?_) (fun hb'=>?_)
   ·have hin:=of_decide_eq_true hb';refine⟨_,rfl,_,_,rfl,rfl,⟨m+1,?_,rfl,by lia,fun j hj=>?_⟩,?_⟩
    ·show[some (V.ref b),some (.ref D),some (.ref L),some (.ref e1),some (.ref Dc),some (.ref De),some (.int ((m:Int)+1))]=_;rfl
    ·by_cases e:j=m
     ·rw[e];exact hin
     ·exact hm j (by lia)
    ·show 100-((m:Int)+1).toNat<100-(m:Int).toNat;lia
   ·have hnin:dg m∉tk:=fun h=>hb' (decide_eq_true h);refine⟨_,rfl,m,rfl,by lia,?_⟩;rw[dg_mk];refine k (dg m) _ s04 (okN_dg (by lia)) fun x hx e=>hnin ?_;have okx:=q1o hl g.gw hx;obtain⟨f1,f2⟩:=(q5j okx.ne (by simp)).mp e;rw[Cf] at f1;rw[Ee] at f2;have e2:(plc ms x).getLastD []=dg m:=by
     cases bl with
     |false=>exact f2
     |true=>exact low_is (q2q okx) (by rw[<- low_dg (m:=m)];exact f2)
    obtain⟨r',hr',e3⟩:=Ac.mp hx;have e4:tn ms x=tn ms d++[dg m]:=by
     have:=(q3y hl g.gw hr').1;rw[e3,f1,e2] at this;exact this
    rw[etk];have hx2:x∈(qs.map (·.2)).map (·.1):=pm.mem_iff.mpr hx;obtain⟨m1,hm1,em⟩:=Ac.mp hx2;have hin:tn ms x∈ws.map (·.2):=by rw[ew];exact Ac.mpr ⟨m1,hm1,by rw[em]⟩
    exact Ac.mpr ⟨tn ms x,Cp.mpr ⟨hin,by rw[e4,Cf];exact decide_eq_true rfl⟩,by rw[e4,Ee]⟩
  ·intro σ3 H3' Q1 Q2 hq h;obtain⟨v,e0,n,e1',e2,w',e3,h⟩:=h;refine⟨v,e0,n,e1',e2,w',e3,?_⟩;rcases h with⟨i,j,e4,e5,c,e6,q⟩|⟨p,xs,e4,hs,f1,f2,c,e6,q⟩
   ·exact .inl ⟨i,j,e4,e5,c,e6,hq _ _ q⟩
   ·exact .inr ⟨p,xs,e4,hs,f1,f2,c,e6,hq _ _ q⟩
end
end K
set_option maxHeartbeats 4000000
namespace K
open PySem L2 TX SB HM
section
variable{P:Program}{w:World}{K:Ak}{mg:Str->Option Value}{base:Heap}
theorem q6b{bl:Bool}{rows:List Rw}{f:Pth->Pth}(hl:Hl bl rows)(ap:Apart bl rows f){x y:Pth}(h:nx bl (rows.map (·.1)) f x=some y):(x∈rows.map (·.1)/\f x≠x)/\(y∈rows.map (·.1)/\f y≠y):=by
 obtain⟨h1,h2,h3,h4,h5⟩:=(q1b hl).mp h;refine⟨⟨h1,h2⟩,h3,fun e=>h5 ?_⟩;have ap':((rows.map (·.1)).map fun p=>fold bl (f p)).Nodup:=ap;exact q0t ap' h3 h1 (by show fold bl (f y)=fold bl (f x);rw[e];exact h4)
section
variable{bl:Bool}{rows:List Rw}{W:List Mv}{D:List Pth}{a:Option (Pth×Pth)}{x r sp:Pth}{f:Pth->Pth}
theorem z1l(h:x∈D):stO f D a x=f x:=by unfold stO;rw[if_pos h]
theorem q4q(h:x∉D):stO f D none x=x:=by unfold stO;rw[if_neg h]
theorem z8g(h:r∉D):stO f D (some (r,sp)) r=sp:=by unfold stO;rw[if_neg h];simp
theorem q9t(h:x≠r):stO f D (some (r,sp)) x=stO f D none x:=by
 unfold stO;by_cases e:x∈D
 ·rw[if_pos e,if_pos e]
 ·rw[if_neg e,if_neg e];show(if x=r then sp else x)=x;rw[if_neg h]
theorem q6c{y:Pth}(h:x≠y):stO f (y::D) a x=stO f D a x:=by
 unfold stO;by_cases e:x∈D
 ·rw[if_pos (An _ e),if_pos e]
 ·rw[if_neg (fun z=>(Ay.mp z).elim h e),if_neg e]
theorem StO.nil:StO bl rows f [] none:=⟨(fun h=>nomatch h),(fun _ h=>nomatch h),(fun h=>nomatch h)⟩
theorem StO.add(s:StO bl rows f D a)(hx:x∈rows.map (·.1))(hg:∀y,nx bl (rows.map (·.1)) f x=some y->y∈D\/∃sp,a=some (y,sp))(ha:∀r sp,a=some (r,sp)->x≠r/\fold bl (f x)≠fold bl sp):StO bl rows f (x::D) a:=by
 refine⟨fun{u y} hu e=>?_,fun u hu=>?_,fun{r sp} e=>⟨fun h=>?_,fun u hu n=>?_⟩⟩
 ·rcases Ay.mp hu with rfl|hu
  ·exact(hg y e).imp (An _) id
  ·exact(s.cl hu e).imp (An _) id
 ·rcases Ay.mp hu with rfl|hu
  ·exact hx
  ·exact s.sub u hu
 ·rcases Ay.mp h with h|h
  ·exact(ha r sp e).1 h.symm
  ·exact(s.sp e).1 h
 ·by_cases eu:u=x
  ·rw[eu,z1l At];exact(ha r sp e).2
  ·rw[q6c eu];exact(s.sp e).2 u hu n
theorem StO.home(s:StO bl rows f D (some (r,sp)))(hr:r∈rows.map (·.1))(hg:∀y,nx bl (rows.map (·.1)) f r=some y->y∈D):StO bl rows f (r::D) none:=by
 refine⟨fun{u y} hu e=>?_,fun u hu=>?_,fun h=>nomatch h⟩
 ·rcases Ay.mp hu with rfl|hu
  ·exact .inl (An _ (hg y e))
  ·rcases s.cl hu e with h|⟨sp',h⟩
   ·exact .inl (An _ h)
   ·injection h with h;injection h with h _;rw[<- h];exact .inl At
 ·rcases Ay.mp hu with rfl|hu
  ·exact hr
  ·exact s.sub u hu
theorem StO.aside(s:StO bl rows f D none)(hr:r∉D)(hsp:∀u∈rows.map (·.1),fold bl (stO f D none u)≠fold bl sp):StO bl rows f D (some (r,sp)):=by
 refine⟨fun{u y} hu e=>(s.cl hu e).imp id fun⟨_,h⟩=>(nomatch h),s.sub,fun{r' sp'} e=>?_⟩;injection e with e;injection e with e1 e2;subst e1 e2;exact⟨hr,fun u hu n=>by rw[q9t n];exact hsp u hu⟩
end
theorem x1s{α:Type}{l:List α}{j:Nat}{x:α}(h:l.reverse[j]?=some x):j<l.length/\l[l.length-1-j]?=some x:=by
 have hj:j<l.length:=by have:=(Aj.mp h).1;rwa [List.length_reverse] at this
 rw[List.getElem?_reverse hj] at h;exact⟨hj,h⟩
theorem z1m{α:Type}{l:List α}{j:Nat}{x:α}(hj:j<l.length)(h:l[l.length-1-j]?=some x):l.drop (l.length-(j+1))=x::l.drop (l.length-j):=by
 have hlt:l.length-(j+1)<l.length:=by lia
 rw[List.drop_eq_getElem_cons hlt];have e:l.length-(j+1)=l.length-1-j:=by lia
 have e2:l.length-(j+1)+1=l.length-j:=by lia
 rw[e2];congr 1;have h2:=h;rw[<- e,Bx hlt] at h2;exact Bj h2
theorem Orb.next{g:Pth->Option Pth}{p y v:Pth}{xs:List Pth}{i:Nat}(o:Orb g p xs)(h:xs[i]?=some y)(e:g y=some v):xs[i+1]?=some v\/(xs[i+1]?=none/\v=p):=by
 cases e2:xs[i+1]? with
 |some w =>
  have:=o.st h e2;rw[e] at this;exact .inl this.symm
 |none =>
  right;refine⟨rfl,?_⟩;have hne:xs≠[]:=fun z=>by rw[z] at h;cases h
  have hl:=Bh hne;rw[<- q2r h e2 hl] at hl;rcases o.fin hl with f|f
  ·rw[e] at f;cases f
  ·rw[e] at f;exact Bj f
theorem at_0{v:V}{xs:List V}:atI (v::xs) 0=some v:=by
 unfold atI ixN;simp
structure CallsRF (P:Program) (w:World) (K:Ak) (mg:Str->Option Value) (base:Heap) (c:Addr):Prop where
 ask_wishes:Cal P w K mg base "ask_wishes" 8 ["hall", "wishes"] (spAsk c)
 all_places:Cal P w K mg base "all_places" 6 ["hall", "wishes"] (spAllP c)
 chains:Cal P w K mg base "chains" 10 ["hall", "wishes"] (spChains c)
 rings:Cal P w K mg base "rings" 10 ["hall", "wishes"] (spRings c)
 put_move:Cal P w K mg base "put_move" 3 ["row", "path", "place"] spPutM
 spare_name:Cal P w K mg base "spare_name" 3 ["drawer", "paths", "row"] spSpare
structure Does (bl:Bool) (rows:List Rw) (W row:List Mv):Prop where
 w:∃ms,Way bl rows row ms/\∀u∈rows.map (·.1),plc ms u=plc W u
 len:∃(D:List Pth) (rs:List (List Pth)),D.Nodup/\(∀x,x∈D↔mvOf rows W x)/\Rgs (gOf bl rows W) rs/\row.length=D.length+rs.length
def spRowFor(c:Addr):Sp:=fun vs H Q _=>∃h d L bl rows zs,vs=[.ref h,.ref L]/\GW c H h d L bl rows zs /\
 ∀R ws H',H R=none->Same H H'->ML H' R ws->ws.length<=60->Does bl rows (zs.map (·.2)) (ws.map (·.2))->Q (.ref R) H'
structure RSt (H4 H':Hp) (L:Addr) (bl:Bool) (rows:List Rw) (W:List Mv) (D:List Pth) (a:Option (Pth×Pth)) (n:Nat) (zs:List Zm) (ms:List Mv):Prop where
 kp:∀c u,c≠L->H4 c=some u->H' c=some u
 rw:RW H' L bl rows zs ms
 hs:∀u∈rows.map (·.1),plc ms u=stO (plc W) D a u
 st:StO bl rows (plc W) D a
 nd:D.Nodup
 len:zs.length=D.length+n
theorem RSt.same{H4 H' H2:Hp}{L:Addr}{bl:Bool}{rows:List Rw}{W:List Mv}{D:List Pth}{a:Option (Pth×Pth)}{n:Nat}{zs:List Zm}{ms:List Mv}(r:RSt H4 H' L bl rows W D a n zs ms)(s:Same H' H2):RSt H4 H2 L bl rows W D a n zs ms:=⟨fun c u hc e=>s _ _ (r.kp c u hc e),r.rw.same s,r.hs,r.st,r.nd,r.len⟩
theorem RSt.put{H4 H' H2:Hp}{L T':Addr}{bl:Bool}{rows:List Rw}{W:List Mv}{D D':List Pth}{a a':Option (Pth×Pth)}{n n':Nat}{zs:List Zm}{ms:List Mv}{x q:Pth}(r:RSt H4 H' L bl rows W D a n zs ms)(gW:Gd bl rows W)(few:zs.length<100)(kp:∀c u,c≠L->H' c=some u->H2 c=some u)(ml:ML H2 L (zs++[(T',(tn ms x,tn ms q.dropLast++[q.getLastD []]))]))(s':StO bl rows (plc W) D' a')(hx:x∈rows.map (·.1))(hq:stO (plc W) D' a' x=q)(hw:Wsh rows (x,q))(ho:∀u∈rows.map (·.1),u≠x->stO (plc W) D' a' u=stO (plc W) D a u)(hn:q≠stO (plc W) D a x)(nd':D'.Nodup)(len':zs.length+1=D'.length+n'):∃zs' ms',RSt H4 H2 L bl rows W D' a' n' zs' ms':=by
 obtain⟨ms',w',hs'⟩:=r.rw.w.step r.rw.hl gW r.hs s' hx hq hw ho hn;refine⟨_,ms',fun c u hc e=>kp c u hc (r.kp c u hc e),⟨ml,r.rw.hl,?_,by rw[Al];exact few⟩,hs',s',nd',by rw[Al];exact len'⟩;rw[Af];exact w'
abbrev q5p:Stmt:=top 32
theorem sc_row_for:FnScope ["hall", "wishes", "places", "row", "chain", "path", "ring", "drawer"] ["hall", "wishes"] (defScope q5p):=⟨rfl,rfl,rfl,by decide +kernel,rfl,by decide +kernel,by decide +kernel⟩
theorem z5b{c:Addr}(D:Df K mg "row_for" q5p ["hall", "wishes"])(T:Txt mg)(C:CallsRF P w K mg base c):Cal P w K mg base "row_for" 11 ["hall", "wishes"] (spRowFor c):=by
 refine D.cal sc_row_for (fun vs H Q E h=>?_) (fun f cdv A outer s H vs Q E hr h=>?_)
 ·obtain⟨h,d,L,bl,rows,zs,rfl,_⟩:=h;rfl
 ·obtain⟨h,d,M,bl,rows,zs,rfl,G,k⟩:=h;refine⟨_,(q0d (q2b (pe_c C.ask_wishes hr (q0a (pv 0) (q0a (pv 1) q0e)))) (q0d (q0j (i:=2) sc_row_for.nd rfl (by first|exact Or.inl rfl|exact Or.inr rfl) (pe_c C.all_places hr (q0a (pv 0) (q0a (pv 1) q0e)))) (q0d (q0j (i:=3) sc_row_for.nd rfl (by first|exact Or.inl rfl|exact Or.inr rfl) (q1t q0e)) (q0d (q1f Bi rfl (@q3a _ _ _ _ K rfl (pe_c C.chains hr (q0a (pv 0) (q0a (pv 1) q0e)))) (q0h (i:=4) sc_row_for.nd rfl (by first|exact Or.inl rfl|exact Or.inr rfl)) (q0f (q1f Bi rfl (@rev_k _ _ _ _ _ _ K rfl rfl T.b_reversed (q0a (pv 4) q0e) (by rfl)) (q0h (i:=5) sc_row_for.nd rfl (by first|exact Or.inl rfl|exact Or.inr rfl)) (q0f (q2b (pe_c C.put_move hr (q0a (pv 3) (q0a (pv 5) (q0a (q0w (q1c hr) (pv 2) (pv 5) (fun _ _=>rfl)) q0e))))))))) (q0d (q1f Bi rfl (@q3a _ _ _ _ K rfl (pe_c C.rings hr (q0a (pv 0) (q0a (pv 1) q0e)))) (q0h (i:=6) sc_row_for.nd rfl (by first|exact Or.inl rfl|exact Or.inr rfl)) (q0d (q0j (i:=7) sc_row_for.nd rfl (by first|exact Or.inl rfl|exact Or.inr rfl) (q0p sl_P (q1m (ix_k K rfl) (pv 6) q0g (fun _ _=>rfl)) q0q (q0r (q1l q0s q0g)))) (q0d (q2b (pe_c C.put_move hr (q0a (pv 3) (q0a (q1m (ix_k K rfl) (pv 6) q0g (fun _ _=>rfl)) (q0a (q1j q3e (pv 7) (q1g (q0a (pe_c C.spare_name hr (q0a (pv 7) (q0a (pv 2) (q0a (pv 3) q0e)))) q0e))) q0e))))) (q0f (q1f Bi rfl (@rev_k _ _ _ _ _ _ K rfl rfl T.b_reversed (q0a (pv 6) q0e) (by rfl)) (q0h (i:=5) sc_row_for.nd rfl (by first|exact Or.inl rfl|exact Or.inr rfl)) (q0f (q2b (pe_c C.put_move hr (q0a (pv 3) (q0a (pv 5) (q0a (q0w (q1c hr) (pv 2) (pv 5) (fun _ _=>rfl)) q0e))))))))))) (q0f (q0l (pv 3)))))))),?_⟩;have hl:=G.hl;refine⟨_,rfl,_,rfl,h,d,M,bl,rows,zs,rfl,G.ha,hl,G.few,G.ml,G.gw,G.len,G.ap,fun H1 s1=>?_⟩;have G1:=G.same s1;refine⟨_,rfl,_,rfl,h,d,M,bl,rows,zs,rfl,G1.ha,hl,by have:=G.few;lia,G1.ml,G.gw,G.len,fun D0 qs rs0 H2 hD0 s2 pd pm0 pw0 e0=>?_⟩;have s12:=s1.trans s2;have G2:=G.same s12;have gW:Gd bl rows (zs.map (·.2)):=⟨G.gw,G.ap⟩
  have pmq:(qs.map (·.2)).Perm (rows.map fun r=>(r.1,plc (zs.map (·.2)) r.1)):=by rw[e0];exact pm0.map _
  have few:=G.few;have F:=z7x hl G.ap;have kq:((qs.map (·.2)).map (·.1)).Perm (rows.map (·.1)):=q9q pmq;have ndq:((qs.map (·.2)).map (·.1)).Nodup:=kq.nodup_iff.mpr hl.paths;generalize hW:zs.map (·.2)=W at gW pmq F;refine⟨by show 0<=sizeLine;decide,fun L hL=>?_⟩;have s3:=(Same.refl H2).new (o:=.lst []) hL;have hL3:upd H2 L (.lst []) L=some (.lst []):=q0b;generalize upd H2 L (.lst [])=H3 at s3 hL3;have G3:=G2.same s3;refine⟨_,rfl,_,rfl,h,d,M,bl,rows,zs,rfl,G3,fun R cs H4 hR hcs s4 ll4 ch4 _=>?_⟩;rw[hW] at ch4;have s24:=s3.trans s4;have hL4:=s4 _ _ hL3;have toS:∀{H':Hp},(∀c u,c≠L->H4 c=some u->H' c=some u)->Same H2 H':=fun{H'} kp c u e=>kp _ _ (fun z=>by rw[z,hL] at e;cases e) (s24 _ _ e);have kpL:∀{c:Addr},H3 c=none->c≠L:=fun{c} e z=>by rw[z,hL3] at e;cases e
  have okps:∀x∈rows.map (·.1),okP x:=fun x hx=>by obtain⟨r,hr',rfl⟩:=Ac.mp hx;exact hl.ok r hr'
  have lenD:∀{D:List Pth},D.Nodup->(∀x∈D,x∈rows.map (·.1))->D.length<=30:=fun{D} nd hs=>by
   have:=q9o nd hs;rw[Ab] at this;lia
  have place:∀{H':Hp} {e:Addr} {x:Pth},Same H2 H'->x∈rows.map (·.1)->H' e=some (.tup (vP x))->∃e2,DGet H' D0 (.ref e) (some (.ref e2))/\H' e2=some (.tup (vP (plc W x))):=fun{H' e x} s' hx he=>by
   have hx2:=kq.mem_iff.mpr hx;obtain⟨m,hm,em⟩:=Ac.mp hx2;obtain⟨y,hy,rfl⟩:=Ac.mp hm;refine⟨y.1,q7a (.inl (pd.same s').at_) ndq hy (by rw[em];exact he),?_⟩;rw[<- em,<- (z7y pmq hy).2];exact(pd.same s').pr y hy
  have wsh:∀{x:Pth},x∈rows.map (·.1)->Wsh rows (x,plc W x):=fun hx=>x3x hl gW.gw hx;have rw0:RSt H4 H4 L bl rows W [] none 0 [] []:=⟨fun c u _ e=>e,⟨⟨hL4,(fun _ h=>nomatch h)⟩,hl,.nil,Bl _⟩,fun u _=>(q4q Dn).symm,StO.nil,.nil,rfl⟩
  refine .inl ⟨R,rfl,⟨_,SqL.of ll4.at_⟩,?_⟩;have hRL:R≠L:=kpL hR;have plz:∀{H':Hp},(∀c u,c≠L->H4 c=some u->H' c=some u)->∀z∈cs,PL H' z.1 z.2:=fun{H'} kp z hz=>⟨kp _ _ (kpL (hcs z hz)) (ll4.pr z hz).at_,fun u hu=>⟨kp _ _ (fun q=>by have e:=((ll4.pr z hz).pr u hu).1;rw[q,hL4] at e;cases e) ((ll4.pr z hz).pr u hu).1,((ll4.pr z hz).pr u hu).2⟩⟩
  refine q2j (fun i σ' H'=>∃ws ms D x4 x5,σ'=[some (.ref h),some (.ref M),some (.ref D0),some (.ref L),x4,x5,none,none]/\RSt H4 H' L bl rows W D none 0 ws ms/\∀x,x∈D↔∃xs∈(cs.map cont).take i,x∈xs) ⟨[],[],[],none,none,rfl,rw0,fun x=>⟨(fun h=>nomatch h),fun⟨xs,h,_⟩=>by rw[Gj] at h;cases h⟩⟩ (fun i σ' H' _ x=>by obtain⟨_,_,_,_,_,_,r,_⟩:=x;exact SqL.of (r.kp _ _ hRL ll4.at_)) ?_ ?_
  ·rintro i v σ' H5 hv ⟨ws,ms,D,x4,x5,rfl,st,hD⟩;obtain⟨z,hz,rfl⟩:∃z,cs[i]?=some z/\v=.ref z.1:=by
    rw[Ae] at hv;cases e:cs[i]? with
    |none=>rw[e] at hv;cases hv
    |some z=>rw[e] at hv;cases hv;exact⟨z,rfl,rfl⟩
   have hzm:=Ag hz;obtain⟨p,hmp,chp⟩:=ch4.is.mp (Ac.mpr ⟨z,hzm,rfl⟩);have eci:(cs.map cont).take (i+1)=(cs.map cont).take i++[cont z]:=by rw[Bc,Ae,hz];rfl
   have hzi:(cs.map cont)[i]?=some (cont z):=by rw[Ae,hz];rfl
   have dis:∀y∈cont z,y∉D:=fun y hy hyD=>by
    obtain⟨xs,hxs,hyx⟩:=(hD y).mp hyD;obtain⟨q,_,chq⟩:=ch4.is.mp (Hb hxs);obtain⟨i1,h1⟩:=Ba.mp hy;obtain⟨i2,h2⟩:=Ba.mp hyx;have epq:=ChnP.one F chp chq h1 h2;exact q3w ch4.nd hzi hxs (by rw[chp.o.headD,chq.o.headD,epq])
   have inps:∀y∈cont z,y∈rows.map (·.1):=chp.o.in_ F hmp.1;have pl5:=plz st.kp z hzm;refine⟨_,rfl,z.1,_,rfl,pl5.at_,?_⟩;refine z6m (xs:=z.2.map fun z=>V.ref z.1) (fun j σ' H'=>∃ws ms x5,σ'=[some (.ref h),some (.ref M),some (.ref D0),some (.ref L),some (.ref z.1),x5,none,none]/\RSt H4 H' L bl rows W ((cont z).drop ((cont z).length-j)++D) none 0 ws ms) ⟨ws,ms,_,rfl,by rw[Iy,Oz];exact st⟩ (fun j σ' H' x=>by obtain⟨_,_,_,_,r⟩:=x;exact SqL.of (plz r.kp z hzm).at_) ?_ ?_
   ·rintro j v σ' H6 hv ⟨ws6,ms6,x5,rfl,st6⟩;rw[<- Ty,Ae] at hv;obtain⟨u,hu,rfl⟩:∃u,z.2.reverse[j]?=some u/\v=.ref u.1:=by
     cases e:z.2.reverse[j]? with
     |none=>rw[e] at hv;cases hv
     |some u=>rw[e] at hv;cases hv;exact⟨u,rfl,rfl⟩
    obtain⟨hj,hu2⟩:=x1s hu;have cl:(cont z).length=z.2.length:=Ab _;have hju:(cont z)[(cont z).length-1-j]?=some u.2:=by rw[cl,Ae,hu2];rfl
    have hj':j<(cont z).length:=by rw[cl];exact hj
    have edr:=z1m hj' hju;have hum:=Ag hju;have hups:=inps u.2 hum;have pl6:=plz st6.kp z hzm;have hu6:=(pl6.pr u (Ag hu2)).1;have hnin:u.2∉(cont z).drop ((cont z).length-j)++D:=fun hm=>by
     rcases Am.mp hm with hm|hm
     ·have nd2:=chp.o.nd.sublist (Td ((cont z).length-(j+1)) _);rw[edr] at nd2;exact(Bp.mp nd2).1 hm
     ·exact dis u.2 hum hm
    have mvu:plc W u.2≠u.2:=by
     by_cases e:(cont z).length-1-j=0
     ·rw[e,chp.o.hd] at hju;cases hju;exact hmp.2
     ·have hlt:=(Aj.mp hju).1;have e9:(cont z).length-1-j=((cont z).length-1-j-1)+1:=by lia
      rw[e9] at hju;exact(q6b hl gW.ap (chp.o.st (Bx (show(cont z).length-1-j-1<(cont z).length by lia)) hju)).2.2
    obtain⟨e2,dg,he2⟩:=place (toS st6.kp) hups hu6;have lenw:ws6.length<=30:=by rw[st6.len];exact lenD st6.nd st6.st.sub
    refine⟨_,rfl,_,rfl,_,rfl,_,rfl,D0,_,rfl,dg,u.1,e2,L,bl,rows,ws6,ms6,u.2,_,rfl,st6.rw,by lia,hu6,he2,hups,q1o hl gW.gw hups,(q1d hl gW.gw hups).1,fun T' H7 kp7 ml7=>?_⟩;have nd':(u.2::((cont z).drop ((cont z).length-j)++D)).Nodup:=Bp.mpr ⟨hnin,st6.nd⟩;obtain⟨ws7,ms7,st7⟩:=st6.put gW (by lia) kp7 ml7 (D':=u.2::((cont z).drop ((cont z).length-j)++D)) (a':=none) (n':=0) (st6.st.add hups (fun y hy=>by
     rcases chp.o.next hju hy with h|⟨_,h⟩
     ·left;refine Ch _ ?_;have e9:(cont z).length-1-j+1=(cont z).length-j:=by lia
      rw[e9] at h;exact Ba.mpr ⟨0,by rw[Nl];exact h⟩
     ·rw[h] at hy;exact absurd hy (chp.st _)) (fun _ _ e=>nomatch e)) hups (z1l At) (wsh hups) (fun y hy n=>q6c n) (by rw[q4q hnin];exact mvu) nd' (by rw[st6.len,By])
    exact⟨ws7,ms7,_,rfl,by rw[edr];exact st7⟩
   ·rintro σ' H6 ⟨ws6,ms6,x5,rfl,st6⟩;rw[show(cont z).length-(z.2.map fun z=>V.ref z.1).length=0 by rw[Ab,Ab];lia,Ko] at st6;refine⟨ws6,ms6,_,_,_,rfl,st6,fun x=>?_⟩;rw[Am,hD x,eci];constructor
    ·rintro(h|⟨xs,h1,h2⟩)
     ·exact⟨_,Bk _ (Ai.mpr rfl),h⟩
     ·exact⟨xs,Ch _ h1,h2⟩
    ·rintro⟨xs,h1,h2⟩;rcases Am.mp h1 with h1|h1
     ·exact .inr ⟨xs,h1,h2⟩
     ·rw[Ai.mp h1] at h2;exact .inl h2
  rintro σ' H5 ⟨ws,ms,D,x4,x5,rfl,st,hD⟩;rw[Ab,<- Ab (f:=cont),Bb] at hD;have G5:=G2.same (toS st.kp);refine⟨_,rfl,_,rfl,h,d,M,bl,rows,zs,rfl,G5,fun R2 rs H6 hR2 hrs s6 ll6 rg6 _=>?_⟩;rw[hW] at rg6;have st6:=st.same s6;have hL6:=st6.rw.ml.at_;have hL5:H5 L≠none:=fun e=>by have:=st.rw.ml.at_;rw[e] at this;cases this
  have kpL2:∀{c:Addr},H5 c=none->c≠L:=fun{c} e z=>hL5 (by rw[<- z];exact e);have toS6:∀{H':Hp},(∀c u,c≠L->H6 c=some u->H' c=some u)->Same H2 H':=fun{H'} kp c u e=>kp _ _ (fun z=>by rw[z,hL] at e;cases e) (s6 _ _ (toS st.kp _ _ e));have plr:∀{H':Hp},(∀c u,c≠L->H6 c=some u->H' c=some u)->∀z∈rs,PL H' z.1 z.2:=fun{H'} kp z hz=>⟨kp _ _ (kpL2 (hrs z hz)) (ll6.pr z hz).at_,fun u hu=>⟨kp _ _ (fun q=>by have e:=((ll6.pr z hz).pr u hu).1;rw[q,hL6] at e;cases e) ((ll6.pr z hz).pr u hu).1,((ll6.pr z hz).pr u hu).2⟩⟩
  have st60:RSt H6 H6 L bl rows W D none 0 ws ms:=⟨fun c u _ e=>e,st6.rw,st6.hs,st6.st,st6.nd,st6.len⟩
  have hR2L:R2≠L:=kpL2 hR2;refine .inl ⟨R2,rfl,⟨_,SqL.of ll6.at_⟩,?_⟩;refine q2j (fun i σ' H'=>∃ws ms D2 x5 x6 x7,σ'=[some (.ref h),some (.ref M),some (.ref D0),some (.ref L),x4,x5,x6,x7]/\RSt H6 H' L bl rows W D2 none i ws ms/\i<=rs.length/\∀x,x∈D2↔x∈D\/∃xs∈(rs.map cont).take i,x∈xs) ⟨ws,ms,D,_,_,_,rfl,st60,Bl _,fun x=>⟨.inl,fun h=>h.elim id fun⟨xs,h,_⟩=>by rw[Gj] at h;cases h⟩⟩ (fun i σ' H' _ x=>by obtain⟨_,_,_,_,_,_,_,r,_⟩:=x;exact SqL.of (r.kp _ _ hR2L ll6.at_)) ?_ ?_
  ·rintro i v σ' H7 hv ⟨ws7,ms7,D2,x5,x6,x7,rfl,st7,_,hD2⟩;obtain⟨z,hz,rfl⟩:∃z,rs[i]?=some z/\v=.ref z.1:=by
    rw[Ae] at hv;cases e:rs[i]? with
    |none=>rw[e] at hv;cases hv
    |some z=>rw[e] at hv;cases hv;exact⟨z,rfl,rfl⟩
   have hzm:=Ag hz;have hil:=(Aj.mp hz).1;obtain⟨p,rp⟩:=rg6.is.mp (Ac.mpr ⟨z,hzm,rfl⟩);have eci:(rs.map cont).take (i+1)=(rs.map cont).take i++[cont z]:=by rw[Bc,Ae,hz];rfl
   have hzi:(rs.map cont)[i]?=some (cont z):=by rw[Ae,hz];rfl
   obtain⟨v1,hv1⟩:=rp.dom;have hmp:p∈rows.map (·.1):=((q1b hl).mp hv1).1;have inps:∀y∈cont z,y∈rows.map (·.1):=rp.o.in_ F hmp;have dis:∀y∈cont z,y∉D2:=fun y hy hyD=>by
    rcases(hD2 y).mp hyD with h|⟨xs,hxs,hyx⟩
    ·obtain⟨xs,hxs,hyx⟩:=(hD y).mp h;obtain⟨q,_,chq⟩:=ch4.is.mp hxs;exact z4y F chq rp hyx hy
    ·obtain⟨q,rq⟩:=rg6.is.mp (Hb hxs);have epq:=rp.one rq F hy hyx;exact q3w rg6.nd hzi hxs (by rw[rp.o.headD,rq.o.headD,epq])
   have pl7:=plr st7.kp z hzm;have rl:rs.length<=30:=by
    have:=q9o rg6.nd (m:=rows.map (·.1)) fun x hx=>by
     obtain⟨y,hy,rfl⟩:=Ac.mp hx;obtain⟨q,rq⟩:=rg6.is.mp hy;rw[rq.o.headD];obtain⟨v2,hv2⟩:=rq.dom;exact((q1b hl).mp hv2).1
    rw[Ab,Ab,Ab] at this;lia
   have lenw7:ws7.length<=60:=by have:=st7.len;have:=lenD st7.nd st7.st.sub;lia
   have pos:z.2≠[]:=fun e=>by have:=rp.o.hd;unfold cont at this;rw[e] at this;cases this
   obtain⟨u0,zr,ez⟩:∃u0 zr,z.2=u0::zr:=by
    cases e:z.2 with
    |nil=>exact absurd e pos
    |cons a l=>exact⟨a,l,rfl⟩
   have eu0:u0.2=p:=by have:=rp.o.hd;unfold cont at this;rw[ez] at this;exact Bj this
   have hat0:atI (z.2.map fun z=>V.ref z.1) 0=some (.ref u0.1):=by rw[ez];exact at_0
   have hu0m:u0∈z.2:=by rw[ez];exact At
   have hu7:=(pl7.pr u0 hu0m).1;rw[eu0] at hu7;have okp:=okps p hmp;have hp1:p∈cont z:=Ag rp.o.hd;have hpD:=dis p hp1;have dd:IsD rows p.dropLast:=by obtain⟨r',hr',e⟩:=Ac.mp hmp;rw[<- e];exact hl.dr r' hr'
   have l5:p.dropLast.length<=5:=by rw[Bq];have:p.length<=6:=okp.few;lia
   refine⟨_,rfl,.inl ⟨z.1,_,0,_,rfl,rfl,SqL.of pl7.at_,hat0,_,rfl,_,rfl,u0.1,_,rfl,hu7,fun t1 H8 s8 h8=>?_⟩⟩;rw[(q1a okp.ne).1] at h8;have st8:=st7.same s8;have pl8:=pl7.same s8;refine⟨_,rfl,_,rfl,.inl ⟨z.1,_,0,_,rfl,rfl,SqL.of pl8.at_,hat0,_,rfl,_,rfl,_,rfl,_,rfl,t1,D0,L,bl,rows,ws7,ms7,qs,p.dropLast,rfl,st8.rw,few,h8,dd,l5,pd.same (toS6 st8.kp),kq,fun n H9 s9 okn hsp=>?_⟩⟩;refine⟨by show 1<=sizeLine;decide,fun t2 ht2=>?_⟩;have sX:=(Same.refl H9).new (o:=.tup [.str (mk n)]) ht2;refine⟨t1,t2,_,_,rfl,rfl,sX _ _ (s9 _ _ h8),q0b,by rw[q0z];exact small (by show _+1<=_;lia),fun e3 HA sA hA _=>?_⟩;have hA2:HA e3=some (.tup (vP (p.dropLast++[n]))):=by rw[hA];show _=some (HO.tup ((_++[n]).map _));rw[Af];rfl
   have s8A:=(s9.trans sX).trans sA;have stA:=st8.same s8A;generalize hspd:p.dropLast++[n]=sp at hA2 hsp;have oksp:okP sp:=by
    rw[<- hspd];refine⟨by simp,by rw[Al];show _+1<=6;lia,fun m hm=>?_⟩;rcases Am.mp hm with hm|hm
    ·exact okp.all m (Mq _ hm)
    ·rw[Ai.mp hm];exact okn
   have dsp:sp.dropLast=p.dropLast:=by rw[<- hspd,Cf]
   have hsp':∀u∈rows.map (·.1),fold bl (stO (plc W) D2 none u)≠fold bl sp:=fun u hu=>by rw[<- st7.hs u hu];exact hsp u hu
   have hpsp:p≠sp:=fun e=>hsp' p hmp (by rw[q4q hpD,<- e]);refine⟨u0.1,e3,L,bl,rows,ws7,ms7,p,sp,rfl,stA.rw,by lia,s8A _ _ (s8 _ _ hu7),hA2,hmp,oksp,by rw[dsp];exact dd,fun T' HB kpB mlB=>?_⟩;obtain⟨wsB,msB,stB⟩:=stA.put gW (by lia) kpB mlB (D':=D2) (a':=some (p,sp)) (n':=i+1) (stA.st.aside hpD hsp') hmp (z8g hpD) ⟨by obtain⟨r',hr',e⟩:=Ac.mp hmp;exact⟨r'.2,by rw[<- e];exact hr',.inl dsp⟩,oksp,by show IsD rows sp.dropLast;rw[dsp];exact dd⟩ (fun u hu nn=>q9t nn) (by rw[q4q hpD];exact fun e=>hpsp e.symm) stA.nd (by have:=stA.len;lia);have plB:=plr stB.kp z hzm;have n2:∀{y:Pth},y∈cont z->fold bl (plc W y)≠fold bl sp:=fun{y} hy=>by
    obtain⟨j,hj⟩:=Ba.mp hy;have hny:∃v,nx bl (rows.map (·.1)) (plc W) y=some v/\v∈cont z:=by
     cases e:(cont z)[j+1]? with
     |some v=>exact⟨v,rp.o.st hj e,Ag e⟩
     |none =>
      obtain⟨w',hw',gw'⟩:=rp.r;rw[<- q2r hj e hw'] at gw';exact⟨p,gw',hp1⟩
    obtain⟨v,hv,hvz⟩:=hny;have hv4:=(q1b hl).mp hv;rw[<- hv4.2.2.2.1];have:=hsp' v hv4.2.2.1;rw[q4q (dis v hvz)] at this;exact this
   refine⟨_,rfl,z.1,_,rfl,plB.at_,?_⟩;have cl:(cont z).length=z.2.length:=Ab _;refine z6m (xs:=z.2.map fun z=>V.ref z.1) (fun j σ' H'=>∃ws ms x5,σ'=[some (.ref h),some (.ref M),some (.ref D0),some (.ref L),x4,x5,some (.ref z.1),some (.ref t1)]/\RSt H6 H' L bl rows W ((cont z).drop ((cont z).length-j)++D2) (if j<(cont z).length then some (p,sp) else none) (i+1) ws ms) ⟨wsB,msB,_,rfl,by rw[Iy,Oz,if_pos (by rw[cl];exact Bu.mpr pos)];exact stB⟩ (fun j σ' H' x=>by obtain⟨_,_,_,_,r⟩:=x;exact SqL.of (plr r.kp z hzm).at_) ?_ ?_
   ·rintro j v σ' HC hv ⟨wsC,msC,x5,rfl,stC⟩;rw[<- Ty,Ae] at hv;obtain⟨u,hu,rfl⟩:∃u,z.2.reverse[j]?=some u/\v=.ref u.1:=by
     cases e:z.2.reverse[j]? with
     |none=>rw[e] at hv;cases hv
     |some u=>rw[e] at hv;cases hv;exact⟨u,rfl,rfl⟩
    obtain⟨hj,hu2⟩:=x1s hu;have hju:(cont z)[(cont z).length-1-j]?=some u.2:=by rw[cl,Ae,hu2];rfl
    have hj':j<(cont z).length:=by rw[cl];exact hj
    rw[if_pos hj'] at stC;have edr:=z1m hj' hju;have hum:=Ag hju;have hups:=inps u.2 hum;have plC:=plr stC.kp z hzm;have huC:=(plC.pr u (Ag hu2)).1;have hnin:u.2∉(cont z).drop ((cont z).length-j)++D2:=fun hm=>by
     rcases Am.mp hm with hm|hm
     ·have nd2:=rp.o.nd.sublist (Td ((cont z).length-(j+1)) _);rw[edr] at nd2;exact(Bp.mp nd2).1 hm
     ·exact dis u.2 hum hm
    obtain⟨e2,dg,he2⟩:=place (toS6 stC.kp) hups huC;have lenw:wsC.length<=70:=by have:=stC.len;have:=lenD stC.nd stC.st.sub;lia
    refine⟨_,rfl,_,rfl,_,rfl,_,rfl,D0,_,rfl,dg,u.1,e2,L,bl,rows,wsC,msC,u.2,_,rfl,stC.rw,by lia,huC,he2,hups,q1o hl gW.gw hups,(q1d hl gW.gw hups).1,fun T2 HD kpD mlD=>?_⟩;have nd':(u.2::((cont z).drop ((cont z).length-j)++D2)).Nodup:=Bp.mpr ⟨hnin,stC.nd⟩;have nextIn:∀{y:Pth},nx bl (rows.map (·.1)) (plc W) u.2=some y->y∈(cont z).drop ((cont z).length-j)++D2\/y=p:=fun{y} hy=>by
     rcases rp.o.next hju hy with h|⟨_,h⟩
     ·left;refine Ch _ ?_;have e9:(cont z).length-1-j+1=(cont z).length-j:=by lia
      rw[e9] at h;exact Ba.mpr ⟨0,by rw[Nl];exact h⟩
     ·exact .inr h
    have lenD2:wsC.length+1=(u.2::((cont z).drop ((cont z).length-j)++D2)).length+(i+1):=by rw[stC.len,By];lia
    by_cases up:u.2=p
    ·have hlast:j+1=(cont z).length:=by
      have:=x0l rp.o.nd hju (by rw[up];exact rp.o.hd);lia
     obtain⟨wsD,msD,stD⟩:=stC.put gW (by lia) kpD mlD (D':=u.2::((cont z).drop ((cont z).length-j)++D2)) (a':=none) (n':=i+1) (by
      have s9:=stC.st;rw[up] at hups ⊢;refine s9.home hups fun y hy=>?_;rw[<- up] at hy;rcases nextIn hy with h|h
      ·exact h
      ·rw[h,up] at hy;exact absurd rfl ((q1b hl).mp hy).2.2.2.2) hups (z1l At) (wsh hups) (fun y hy nn=>by rw[q6c nn,up] at *;exact(q9t nn).symm) (by
       rw[up] at hnin ⊢;rw[z8g hnin];exact fun e=>n2 hp1 (by rw[e])) nd' lenD2
     exact⟨wsD,msD,_,rfl,by rw[edr,if_neg (by lia)];exact stD⟩
    ·have hlt:j+1<(cont z).length:=by
      by_cases e:j+1=(cont z).length
      ·have e9:(cont z).length-1-j=0:=by lia
       rw[e9,rp.o.hd] at hju;cases hju;exact absurd rfl up
      ·lia
     have mvu:plc W u.2≠u.2:=by
      cases e:(cont z)[(cont z).length-1-j+1]? with
      |some v=>exact((q1b hl).mp (rp.o.st hju e)).2.1
      |none =>
       obtain⟨w',hw',gw'⟩:=rp.r;rw[<- q2r hju e hw'] at gw';exact((q1b hl).mp gw').2.1
     obtain⟨wsD,msD,stD⟩:=stC.put gW (by lia) kpD mlD (D':=u.2::((cont z).drop ((cont z).length-j)++D2)) (a':=some (p,sp)) (n':=i+1) (stC.st.add hups (fun y hy=>(nextIn hy).imp id fun h=>⟨sp,by rw[h]⟩) (fun r' sp' e=>by injection e with e;injection e with e1 e2;subst e1 e2;exact⟨up,n2 hum⟩)) hups (z1l At) (wsh hups) (fun y hy nn=>q6c nn) (by rw[q9t up,q4q hnin];exact mvu) nd' lenD2;exact⟨wsD,msD,_,rfl,by rw[edr,if_pos hlt];exact stD⟩
   ·rintro σ' HC ⟨wsC,msC,x5,rfl,stC⟩;rw[show(cont z).length-(z.2.map fun z=>V.ref z.1).length=0 by rw[Ab,Ab];lia,Ko,if_neg (by rw[Ab,Ab];lia)] at stC;refine⟨wsC,msC,_,_,_,_,rfl,stC,hil,fun x=>?_⟩;rw[Am,hD2 x,eci];constructor
    ·rintro(h|h|⟨xs,h1,h2⟩)
     ·exact .inr ⟨_,Bk _ (Ai.mpr rfl),h⟩
     ·exact .inl h
     ·exact .inr ⟨xs,Ch _ h1,h2⟩
    ·rintro(h|⟨xs,h1,h2⟩)
     ·exact .inr (.inl h)
     ·rcases Am.mp h1 with h1|h1
      ·exact .inr (.inr ⟨xs,h1,h2⟩)
      ·rw[Ai.mp h1] at h2;exact .inl h2
  ·rintro σ' H7 ⟨ws7,ms7,D2,x5,x6,x7,rfl,st7,_,hD2⟩;rw[Ab,<- Ab (f:=cont),Bb] at hD2;have hmv:∀x,x∈D2↔mvOf rows W x:=fun x=>by
    rw[hD2 x,hD x];constructor
    ·rintro(⟨xs,h1,h2⟩|⟨xs,h1,h2⟩)
     ·obtain⟨p,hm,ch⟩:=ch4.is.mp h1;obtain⟨j,hj⟩:=Ba.mp h2;cases j with
      |zero=>rw[ch.o.hd] at hj;cases hj;exact hm
      |succ j =>
       have hlt:=(Aj.mp hj).1;obtain⟨u,hu⟩:=q5w ch.o.toTrk j (by lia);exact(q6b hl gW.ap (ch.o.st hu hj)).2
     ·obtain⟨p,rp⟩:=rg6.is.mp h1;obtain⟨j,hj⟩:=Ba.mp h2;have:∃v,nx bl (rows.map (·.1)) (plc W) x=some v:=by
       cases e:xs[j+1]? with
       |some v=>exact⟨v,rp.o.st hj e⟩
       |none =>
        obtain⟨w',hw',gw'⟩:=rp.r;rw[<- q2r hj e hw'] at gw';exact⟨p,gw'⟩
      obtain⟨v,hv⟩:=this;exact(q6b hl gW.ap hv).1
    ·intro hm;rcases covers F hm.1 with⟨m,ys,rp,hx⟩|⟨s',ys,hs',hor,ch,hx⟩
     ·exact .inr ⟨ys,rg6.is.mpr ⟨m,rp⟩,hx⟩
     ·refine .inl ⟨ys,ch4.is.mpr ⟨s',?_,ch⟩,hx⟩;rcases hor with rfl|⟨y,hy⟩
      ·exact hm
      ·exact(q6b hl gW.ap hy).1
   have s27:=toS6 st7.kp;have lenw:ws7.length=D2.length+rs.length:=by have:=st7.len;rw[Ab] at this;exact this
   have rl:rs.length<=30:=by
    have:=q9o rg6.nd (m:=rows.map (·.1)) fun x hx=>by
     obtain⟨y,hy,rfl⟩:=Ac.mp hx;obtain⟨q,rq⟩:=rg6.is.mp hy;rw[rq.o.headD];obtain⟨v2,hv2⟩:=rq.dom;exact((q1b hl).mp hv2).1
    rw[Ab,Ab,Ab] at this;lia
   have ld:=lenD st7.nd st7.st.sub;refine⟨_,rfl,k L ws7 H7 (s12.free hL) (s12.trans s27) st7.rw.ml (by lia) ?_⟩;rw[hW];refine⟨⟨ms7,st7.rw.w,fun u hu=>?_⟩,D2,rs.map cont,st7.nd,hmv,rg6,by rw[Ab,Ab];exact lenw⟩;rw[st7.hs u hu];by_cases e:u∈D2
   ·exact z1l e
   ·rw[q4q e];by_cases e2:plc W u=u
    ·exact e2.symm
    ·exact absurd ((hmv u).mpr ⟨hu,e2⟩) e
end
end K
set_option maxHeartbeats 4000000
namespace K
open PySem L2 TX SB HM
section
variable{P:Program}{w:World}{K:Ak}{mg:Str->Option Value}{base:Heap}
section
variable{bl:Bool}{rows:List Rw}{ms ms':List Mv}{p x:Pth}
theorem q8o{f f':Pth->Pth}(hl:Hl bl rows)(g:GoodW rows ms)(e:∀u∈rows.map (·.1),plc ms u=f' u):∀{k:Nat} {x:Pth},M6 rows k x->thenP f' (k+1) x=thenP (plc ms) (k+1) x
 |0,x,h=>by rw[h.zero hl];rfl
 |k+1,x,h=>by
  unfold thenP;by_cases ex:x=[]
  ·rw[if_pos ex,if_pos ex]
  ·rw[if_neg ex,if_neg ex,<- e x (h.in_ ex),q8o (f:=f) hl g e (h.step hl g ex)]
structure Mve (bl:Bool) (rows:List Rw) (ms ms':List Mv) (p:Pth):Prop where
 g:Gd bl rows ms
 g':Gd bl rows ms'
 hp:p∈rows.map (·.1)
 ho:∀x,x≠p->plc ms' x=plc ms x
 hn:plc ms' p≠plc ms p
abbrev mvTo(ms ms':List Mv)(p:Pth):Pth:=tn ms (plc ms' p).dropLast++[(plc ms' p).getLastD []]
theorem z2r(hl:Hl bl rows)(g:Gd bl rows ms)(hx:x∈rows.map (·.1)):(tn ms x).dropLast=tn ms (plc ms x).dropLast/\(tn ms x).getLastD []=(plc ms x).getLastD []/\M6 rows 6 (plc ms x).dropLast:=by
 obtain⟨r,hr,rfl⟩:=Ac.mp hx;obtain⟨e,hd,l5⟩:=q3y hl g.gw hr;have e':tn ms r.1=tn ms (plc ms r.1).dropLast++[(plc ms r.1).getLastD []]:=e;rw[e',Cf,Ee];exact⟨rfl,rfl,m6_d hd (by lia)⟩
theorem Mve.to6(hl:Hl bl rows)(m:Mve bl rows ms ms' p):IsD rows (plc ms' p).dropLast/\M6 rows 6 (plc ms' p).dropLast:=by
 have h:=(q1d hl m.g'.gw m.hp).1;have ok:=q1o hl m.g'.gw m.hp;exact⟨h,m6_d h (by rw[Bq];have:(plc ms' p).length<=6:=ok.few;lia)⟩
theorem Mve.free(hl:Hl bl rows)(m:Mve bl rows ms ms' p)(hx:x∈rows.map (·.1))(h1:(tn ms x).dropLast=(mvTo ms ms' p).dropLast)(h2:(if bl then lowN ((tn ms x).getLastD [])=lowN ((mvTo ms ms' p).getLastD []) else(tn ms x).getLastD []=(mvTo ms ms' p).getLastD [])):x=p:=by
 by_cases e:x=p
 ·exact e
 obtain⟨d1,d2,d3⟩:=z2r hl m.g hx;unfold mvTo at h1 h2;rw[Cf,d1] at h1;rw[Ee,d2] at h2;have e1:=q5c hl m.g.gw m.g.ap d3 (m.to6 hl).2 h1;have ap':((rows.map (·.1)).map fun p=>fold bl (plc ms' p)).Nodup:=m.g'.ap;refine q0t ap' hx m.hp ?_;show fold bl (plc ms' x)=fold bl (plc ms' p);rw[m.ho x e];exact(q5j (q1o hl m.g.gw hx).ne (q1o hl m.g'.gw m.hp).ne).mpr ⟨e1,h2⟩
end
structure CallsLet (P:Program) (w:World) (K:Ak) (mg:Str->Option Value) (base:Heap):Prop where
 fold:Cal P w K mg base "_law_fold" 1 ["_law_name", "_law_blind"] spFold
structure NwD (H:Hp) (N:Addr) (ns:List (Addr×Mv)) (rows:List Rw) (f:Pth->Pth):Prop where
 pd:PDt H N ns
 e:ns.map (·.2)=rows.map fun r=>(r.1,f r.1)
theorem NwD.same{H H':Hp}{N:Addr}{ns:List (Addr×Mv)}{rows:List Rw}{f:Pth->Pth}(x:NwD H N ns rows f)(s:Same H H'):NwD H' N ns rows f:=⟨x.pd.same s,x.e⟩
def spLet:Sp:=fun vs H Q _=>∃N Mk a b bl rows ms ms' p ns,vs=[.ref N,.ref Mk,.ref a,.ref b,.bl bl]/\Hl bl rows/\rows.length<=30/\NwD H N ns rows (tn ms)/\H Mk=some (dR (rows.map rR))/\Mve bl rows ms ms' p/\H a=some (.tup (vP (tn ms p)))/\H b=some (.tup (vP (mvTo ms ms' p)))/\∀e H',Same H H'->Q (.ref e) H'
abbrev z8h:Stmt:=top 47
theorem sc_let:FnScope ["_law_now", "_law_marks", "_law_path", "_law_place", "_law_blind", "_law_thing", "_law_drawer", "_law_first", "_law_here"] ["_law_now", "_law_marks", "_law_path", "_law_place", "_law_blind"] (defScope z8h):=⟨rfl,rfl,rfl,by decide +kernel,rfl,by decide +kernel,by decide +kernel⟩
theorem ok_let(D:Df K mg "_law_let" z8h ["_law_now", "_law_marks", "_law_path", "_law_place", "_law_blind"])(T:Txt mg)(C:CallsLet P w K mg base):Cal P w K mg base "_law_let" 2 ["_law_now", "_law_marks", "_law_path", "_law_place", "_law_blind"] spLet:=by
 refine D.cal sc_let (fun vs H Q E h=>?_) (fun f cdv A outer s H vs Q E hr h=>?_)
 ·obtain⟨N,Mk,a,b,bl,rows,ms,ms',p,ns,rfl,_⟩:=h;rfl
 ·obtain⟨N,Mk,a,b,bl,rows,ms,ms',p,ns,rfl,hl,h30,nw,hMk,m,ha,hb,k⟩:=h;refine⟨_,(q0d (q0j (i:=5) sc_let.nd rfl (by first|exact Or.inl rfl|exact Or.inr rfl) q5q) (q0d (q0j (i:=6) sc_let.nd rfl (by first|exact Or.inl rfl|exact Or.inr rfl) (q5d (eq_k K rfl hr) (q0p (sl_k K rfl) (pv 3) q0q (q0r (q1l q0s q0g))) (q1g q0e) (nomark _))) (q0d (q3r H rfl (q1f Bi rfl (@q4w _ _ _ _ K rfl (pv 0)) (q0h (i:=7) sc_let.nd rfl (by first|exact Or.inl rfl|exact Or.inr rfl)) (q3b (q1e (q0k (eq_k K rfl hr) (q0w (q1c hr) (pv 0) (pv 7) (fun _ _=>rfl)) (pv 2) (nomark _)) (q0f (q0j (i:=5) sc_let.nd rfl (by first|exact Or.inl rfl|exact Or.inr rfl) (pv 7))) q0n) (q0f (q1e (pt_j (@PW.pt _ _ _ (q2s (q0k (eq_k K rfl hr) (q0w (q1c hr) (pv 0) (pv 7) (fun _ _=>rfl)) (q0p (sl_k K rfl) (pv 3) q0q (q0r (q1l q0s q0g))) (nomark _)) (q1u (q2a (q5s (q0w (q1c hr) (pv 1) (pv 7) (fun _ _=>rfl)))))))) (q0f (q0j (i:=6) sc_let.nd rfl (by first|exact Or.inl rfl|exact Or.inr rfl) q4e)) q0n))))) (q0d (q1e (pt_j (@PW.pt _ _ _ (q9u (q2a (q5s (pv 5))) (q9u (q6f (@q5x _ _ _ K rfl (pv 6) (fun _=>rfl))) (q7k (pt_j (@PW.pt _ _ _ (q2s (q2a (q5s (q0w (q1c hr) (pv 1) (pv 5) (fun _ _=>rfl)))) (q1u (q0k (ne_k K rfl hr) (q0p (sl_k K rfl) (pv 3) q0q (q0r (q1l q0s q0g))) (q0p (sl_k K rfl) (pv 2) q0q (q0r (q1l q0s q0g))) (nomark _))))))))))) (q0f (q0l q5q)) q0n) (q0d (q3r H rfl (q1f Bi rfl (@q4w _ _ _ _ K rfl (pv 0)) (q0h (i:=7) sc_let.nd rfl (by first|exact Or.inl rfl|exact Or.inr rfl)) (q0d (q0j (i:=8) sc_let.nd rfl (by first|exact Or.inl rfl|exact Or.inr rfl) (q0w (q1c hr) (pv 0) (pv 7) (fun _ _=>rfl))) (q0f (q1e (pt_j (@PW.pt _ _ _ (q2s (q0k (eq_k K rfl hr) (q0p (sl_k K rfl) (pv 8) q0q (q0r (q1l q0s q0g))) (q0p (sl_k K rfl) (pv 3) q0q (q0r (q1l q0s q0g))) (nomark _)) (q1u (q0k (eq_k K rfl hr) (pe_c C.fold hr (q0a (q1m (ix_k K rfl) (pv 8) (q1l q0s q0g) (fun _ _=>rfl)) (q0a (pv 4) q0e))) (pe_c C.fold hr (q0a (q1m (ix_k K rfl) (pv 3) (q1l q0s q0g) (fun _ _=>rfl)) (q0a (pv 4) q0e))) (nomark _)))))) (q0f (q1e (pt_j (@PW.pt _ _ _ (q9u (q0k (ne_k K rfl hr) (pv 7) (pv 5) (nomark _)) (q7k (q0k (eq_k K rfl hr) (pv 8) (pv 3) (nomark _)))))) (q0f (q0l q5q)) q0n)) q0n))))) (q0f (q0l (pv 5)))))))),?_⟩;have okp:=z1k hl m.g m.hp;have okq:=x3w hl m.g m.g' m.hp;obtain⟨hdq,m6q⟩:=m.to6 hl;have hMN:Mk≠N:=fun z=>by
   have e:=nw.pd.at_;rw[<- z,hMk] at e;injection e with e;injection e with e;cases rows with
   |nil=>have:=m.hp;cases this
   |cons r rows =>
    have e2:=nw.e;cases ns with
    |nil=>cases e2
    |cons n ns =>
     injection e with e3 _;injection e3 with _ e4;have:mV r.2=V.ref n.1:=e4;cases h:r.2<;>rw[h] at this<;>cases this
  have aN:∀{c:Addr} {xs:List V},H c=some (.tup xs)->c≠N:=fun{c xs} e z=>by rw[z,nw.pd.at_] at e;cases e
  have qd:(mvTo ms ms' p).dropLast=tn ms (plc ms' p).dropLast:=Cf;obtain⟨c1,c2⟩:=q1a okq.ne;have ndn:((ns.map (·.2)).map (·.1)).Nodup:=by rw[nw.e,Ap];exact hl.paths
  have nl:ns.length=rows.length:=by have:=congrArg List.length nw.e;rw[Ab,Ab] at this;exact this
  have nsat:∀{i:Nat} {y:Addr×Mv},ns[i]?=some y->∃r,rows[i]?=some r/\y.2=(r.1,tn ms r.1):=fun{i y} h=>by
   have e:=congrArg (fun l=>l[i]?) nw.e;simp only[Ae] at e;rw[h] at e;cases e2:rows[i]? with
   |none=>rw[e2] at e;cases e
   |some r=>rw[e2] at e;exact⟨r,rfl,Bj e⟩
  have inj:∀{u v:Pth},M6 rows 6 u->M6 rows 6 v->tn ms u=tn ms v->u=v:=fun hu hv e=>q5c hl m.g.gw m.g.ap hu hv e;refine⟨_,rfl,_,rfl,_,rfl,.inr (.inr ⟨b,_,rfl,SqT.of hb,c2,fun t1 ht1=>?_⟩)⟩;rw[c1];have s1:=(Same.refl H).new (o:=.tup (vP (mvTo ms ms' p).dropLast)) ht1;have ht1':upd H t1 (.tup (vP (mvTo ms ms' p).dropLast)) t1=some (.tup (vP (mvTo ms ms' p).dropLast)):=q0b;generalize upd H t1 (.tup (vP (mvTo ms ms' p).dropLast))=H1 at s1 ht1';refine⟨by show 0<=sizeLine;decide,fun t0 ht0=>?_⟩;have s2:=s1.new (o:=.tup []) ht0;have ht1'':=(Same.refl H1).new (o:=.tup []) ht0 _ _ ht1';have ht0':upd H1 t0 (.tup []) t0=some (.tup (vP [])):=q0b;generalize upd H1 t0 (.tup [])=H2 at s2 ht1'' ht0';refine q0y ht1'' ht0' (q1i okq.low) (fun _ h=>nomatch h) ?_;have dr0:(plc ms' p).dropLast=[]->decide ((mvTo ms ms' p).dropLast=[])=true:=fun e=>decide_eq_true (by rw[qd,e];rfl);generalize decide ((mvTo ms ms' p).dropLast=[])=b0 at dr0;have nw2:=nw.same s2;refine⟨N,(fun o v e=>by rw[nw.pd.at_] at e;cases e),?_⟩;refine⟨_,rfl,N,_,rfl,nw2.pd.at_,fun ob=>?_⟩;refine q2o (fun i σ' H'=>∃th dr x7,σ'=[some (.ref N),some (.ref Mk),some (.ref a),some (.ref b),some (.bl bl),some th,some (.bl dr),x7,none]/\H' N=some (.frz ob (qR ns))/\(∀c u,c≠N->H2 c=some u->H' c=some u)/\((∃e,th=.ref e/\H' e=some (.tup (vP p)))\/(th=.non/\p∉(rows.take i).map (·.1)))/\((plc ms' p).dropLast=[]->dr=true)/\(((plc ms' p).dropLast,none)∈rows.take i->dr=true))
   ⟨.non,b0,none,rfl,q0b,fun c u hc e=>by rw[q0c hc];exact e,.inr ⟨rfl,by rw[Gj];exact Dn⟩,dr0,fun h=>by rw[Gj] at h;cases h⟩ (fun i σ' H' x=>by obtain⟨_,_,_,_,h,_⟩:=x;exact h) ?_ ?_
  ·rintro i ky v pb σ' H3 hk' hpb ⟨th,dr,x7,rfl,hfz,kp,hth,hd1,hd2⟩;obtain⟨y,hy,rfl,rfl⟩:∃y,ns[i]?=some y/\ky=kP y.2.1/\v=.ref y.1:=by
    rw[Ae,Ae] at hk';cases e:ns[i]? with
    |none=>rw[e] at hk';cases hk'
    |some r=>rw[e] at hk';cases hk';exact⟨r,rfl,rfl,rfl⟩
   rw[q1x] at hpb;obtain⟨r,hr',ey⟩:=nsat hy;have ey1:y.2.1=r.1:=by rw[ey]
   have ey2:y.2.2=tn ms r.1:=by rw[ey]
   rw[ey1] at hpb;have hrm:=Ag hr';have hrp:r.1∈rows.map (·.1):=Ac.mpr ⟨r,hrm,rfl⟩;have hym:=Ag hy;have okr:=z1k hl m.g hrp;have hy3:H3 y.1=some (.tup (vP (tn ms r.1))):=by
    rw[<- ey2];exact kp _ _ (fun z=>by have e:=nw2.pd.pr y hym;rw[z,nw2.pd.at_] at e;cases e) (nw2.pd.pr y hym)
   have dg:=q7a (b:=pb) (.inr ⟨ob,hfz⟩) ndn hym (by rw[ey1];exact hpb);have a3:H3 a=some (.tup (vP (tn ms p))):=kp _ _ (aN ha) (s2 _ _ ha);have b3:H3 b=some (.tup (vP (mvTo ms ms' p))):=kp _ _ (aN hb) (s2 _ _ hb);have e1:rows.take (i+1)=rows.take i++[r]:=by rw[Bc,hr'];rfl
   refine⟨fun σ' H'=>∃th,σ'=[some (.ref N),some (.ref Mk),some (.ref a),some (.ref b),some (.bl bl),some th,some (.bl dr),some (.ref pb),none]/\H'=H3/\((∃e,th=.ref e/\H3 e=some (.tup (vP p)))\/(th=.non/\p∉(rows.take (i+1)).map (·.1))),?_,?_⟩;rotate_left
   ·refine⟨_,rfl,_,rfl,N,_,rfl,dg,_,rfl,q0y hy3 a3 okr.low okp.low ⟨_,rfl,iteB (fun hc=>?_) (fun hc=>?_)⟩⟩
    ·have hc:=inj (m6_p hrp) (m6_p m.hp) (of_decide_eq_true hc);exact⟨_,rfl,_,rfl,rfl,.inl ⟨pb,rfl,by rw[<- hc];exact hpb⟩⟩
    ·have hc:r.1≠p:=fun z=>of_decide_eq_false hc (by rw[z]);refine⟨th,rfl,rfl,hth.imp id fun⟨h1,h2⟩=>⟨h1,fun h=>?_⟩⟩;rw[e1,Af] at h;rcases Am.mp h with h|h
     ·exact h2 h
     ·exact hc (Ai.mp h).symm
   rintro σ' H4 ⟨th',rfl,rfl,hth'⟩;have dgM:DGet H4 Mk (.ref pb) (some (mV r.2)):=by
    rw[<- q3h hl.paths (show(r.1,r.2)∈rows from hrm)];exact q3u (kp _ _ hMN (s2 _ _ hMk)) hpb
   refine⟨fun bb H5=>Same H4 H5/\(bb=false->r≠((plc ms' p).dropLast,none)),?_,?_⟩
   ·rintro bb H5 ⟨s5,hbb⟩;have fin:∀{d2:Bool},((plc ms' p).dropLast=[]->d2=true)->(((plc ms' p).dropLast,none)∈rows.take (i+1)->d2=true)->∃th dr x7,[some (V.ref N),some (.ref Mk),some (.ref a),some (.ref b),some (.bl bl),some th',some (.bl d2),some (.ref pb),none]=[some (.ref N),some (.ref Mk),some (.ref a),some (.ref b),some (.bl bl),some th,some (.bl dr),x7,none]/\H5 N=some (.frz ob (qR ns))/\(∀c u,c≠N->H2 c=some u->H5 c=some u)/\((∃e,th=.ref e/\H5 e=some (.tup (vP p)))\/(th=.non/\p∉(rows.take (i+1)).map (·.1)))/\((plc ms' p).dropLast=[]->dr=true)/\(((plc ms' p).dropLast,none)∈rows.take (i+1)->dr=true):=fun{d2} q1 q2 =>
     ⟨th',d2,_,rfl,s5 _ _ hfz,fun c u hc e=>s5 _ _ (kp c u hc e),hth'.imp (fun⟨e,h1,h2⟩=>⟨e,h1,s5 _ _ h2⟩) id,q1,q2⟩
    refine ite2 (fun hb'=>fin (fun _=>rfl) (fun _=>rfl)) (fun hb'=>fin hd1 fun h=>?_);rw[e1] at h;rcases Am.mp h with h|h
    ·exact hd2 h
    ·exact absurd (Ai.mp h).symm (hbb (by simpa using hb'))
   ·refine⟨_,rfl,_,rfl,N,_,rfl,dg,_,rfl,_,rfl,_,rfl,.inr (.inr ⟨b,_,rfl,SqT.of b3,c2,fun t3 ht3=>?_⟩)⟩;rw[c1];have s5:=(Same.refl H4).new (o:=.tup (vP (mvTo ms ms' p).dropLast)) ht3;refine q0y (s5 _ _ hy3) q0b okr.low (q1i okq.low) ⟨_,rfl,iteB (fun hc=>?_) (fun hc=>⟨s5,fun _ z=>?_⟩)⟩
    ·have dgM2:DGet (upd H4 t3 (.tup (vP (mvTo ms ms' p).dropLast))) Mk (.ref pb) (some (mV r.2)):=by
      rw[<- q3h hl.paths (show(r.1,r.2)∈rows from hrm)];exact q3u (s5 _ _ (kp _ _ hMN (s2 _ _ hMk))) (s5 _ _ hpb)
     refine⟨_,rfl,_,rfl,Mk,_,rfl,dgM2,_,rfl,s5,fun hb2 z=>?_⟩;have e9:r.2=none:=by rw[z]
     rw[e9] at hb2;cases hb2
    ·refine of_decide_eq_false hc ?_;rw[qd,z]
  rintro σ' H3 ⟨th,dr,x7,rfl,hfz,kp,hth,hd1,hd2⟩;rw[Ab,Ab,nl,Bb] at hth hd2;obtain⟨e,rfl,he⟩:∃e,th=.ref e/\H3 e=some (.tup (vP p)):=hth.resolve_right fun h=>h.2 m.hp;have hdr:dr=true:=hdq.elim hd1 hd2;subst hdr;refine⟨ob,_,hfz,?_⟩;have s3:Same H2 (upd H3 N (qR ns)):=q2f nw2.pd.at_ kp;have he3:upd H3 N (qR ns) e=some (.tup (vP p)):=by rw[q0c (fun z=>by rw[z,hfz] at he;cases he)];exact he
  generalize upd H3 N (qR ns)=H4 at s3 he3;have s4:=s2.trans s3;have nw4:=nw.same s4;obtain⟨rp,hrp,erp⟩:=Ac.mp m.hp;refine⟨fun bb H'=>bb=false/\Same H4 H',?_,?_⟩;rotate_left
  ·refine⟨_,rfl,_,rfl,iteF ?_⟩;refine⟨_,rfl,true,rfl,iteF ?_⟩;refine⟨fun bb H'=>bb=false/\Same H4 H',(fun bb H' z=>z),?_⟩;have dgM:DGet H4 Mk (.ref e) (some (mV rp.2)):=by
    rw[<- q3h hl.paths (show(p,rp.2)∈rows by rw[<- erp];exact hrp)];exact q3u (s4 _ _ hMk) he3
   refine⟨_,rfl,_,rfl,Mk,_,rfl,dgM,_,rfl,iteB (fun hc=>?_) (fun hc=>⟨rfl,Same.refl _⟩)⟩;have hn:rp.2=none:=mV_none.mp (of_decide_eq_true hc);have hpn:(p,none)∈rows:=by rw[<- erp,<- hn];exact hrp
   obtain⟨c3,c4⟩:=q1a okp.ne;refine⟨_,rfl,_,rfl,_,rfl,.inr (.inr ⟨b,_,rfl,SqT.of (s4 _ _ hb),c2,fun t3 ht3=>?_⟩)⟩;rw[c1];have s5:=(Same.refl H4).new (o:=.tup (vP (mvTo ms ms' p).dropLast)) ht3;have h3:upd H4 t3 (.tup (vP (mvTo ms ms' p).dropLast)) t3=some (.tup (vP (mvTo ms ms' p).dropLast)):=q0b;generalize upd H4 t3 (.tup (vP (mvTo ms ms' p).dropLast))=H5 at s5 h3;refine⟨_,rfl,_,rfl,_,rfl,.inr (.inr ⟨a,_,rfl,SqT.of (s5 _ _ (s4 _ _ ha)),c4,fun t5 ht5=>?_⟩)⟩;rw[c3];have s6:=(Same.refl H5).new (o:=.tup (vP (tn ms p).dropLast)) ht5;refine q2v (s6 _ _ h3) q0b (q1i okq.low) (q1i okp.low) ⟨_,rfl,?_,s5.trans s6⟩;have eqd:(mvTo ms ms' p).dropLast=(tn ms p).dropLast:=by
    rw[qd,(z2r hl m.g m.hp).1,(q1d hl m.g'.gw m.hp).2 hpn,(q1d hl m.g.gw m.hp).2 hpn]
   rw[decide_eq_true eqd];rfl
  rintro bb H5 ⟨rfl,s5⟩;refine iteF ?_;have nw5:=nw4.same s5;have s05:=s4.trans s5;refine⟨N,(fun o v e=>by rw[nw.pd.at_] at e;cases e),?_⟩;refine⟨_,rfl,N,_,rfl,nw5.pd.at_,fun ob2=>?_⟩;refine q2o (fun i σ' H'=>∃x7 x8,σ'=[some (.ref N),some (.ref Mk),some (.ref a),some (.ref b),some (.bl bl),some (.ref e),some (.bl true),x7,x8]/\H' N=some (.frz ob2 (qR ns))/\(∀c u,c≠N->H5 c=some u->H' c=some u))
   ⟨_,_,rfl,q0b,fun c u hc e=>by rw[q0c hc];exact e⟩ (fun i σ' H' x=>by obtain⟨_,_,_,h,_⟩:=x;exact h) ?_ ?_
  ·rintro i ky v pb σ' H6 hk' hpb ⟨x7,x8,rfl,hfz2,kp2⟩;obtain⟨y,hy,rfl,rfl⟩:∃y,ns[i]?=some y/\ky=kP y.2.1/\v=.ref y.1:=by
    rw[Ae,Ae] at hk';cases e:ns[i]? with
    |none=>rw[e] at hk';cases hk'
    |some r=>rw[e] at hk';cases hk';exact⟨r,rfl,rfl,rfl⟩
   rw[q1x] at hpb;obtain⟨r,hr',ey⟩:=nsat hy;have ey1:y.2.1=r.1:=by rw[ey]
   have ey2:y.2.2=tn ms r.1:=by rw[ey]
   rw[ey1] at hpb;have hrm:=Ag hr';have hrp':r.1∈rows.map (·.1):=Ac.mpr ⟨r,hrm,rfl⟩;have hym:=Ag hy;have okr:=z1k hl m.g hrp';have hy3:H6 y.1=some (.tup (vP (tn ms r.1))):=by
    rw[<- ey2];exact kp2 _ _ (fun z=>by have e:=nw5.pd.pr y hym;rw[z,nw5.pd.at_] at e;cases e) (nw5.pd.pr y hym)
   have dg:=q7a (b:=pb) (.inr ⟨ob2,hfz2⟩) ndn hym (by rw[ey1];exact hpb);have b3:H6 b=some (.tup (vP (mvTo ms ms' p))):=kp2 _ _ (aN hb) (s05 _ _ hb);have e3:H6 e=some (.tup (vP p)):=kp2 _ _ (fun z=>by have e9:=s5 _ _ he3;rw[z,nw5.pd.at_] at e9;cases e9) (s5 _ _ he3);obtain⟨c5,c6⟩:=q1a okr.ne;refine⟨_,rfl,_,rfl,N,_,rfl,dg,?_⟩;have done:∀{H':Hp},Same H6 H'->∃x7 x8,[some (V.ref N),some (.ref Mk),some (.ref a),some (.ref b),some (.bl bl),some (.ref e),some (.bl true),some (.ref pb),some (.ref y.1)]=[some (.ref N),some (.ref Mk),some (.ref a),some (.ref b),some (.bl bl),some (.ref e),some (.bl true),x7,x8]/\H' N=some (.frz ob2 (qR ns))/\(∀c u,c≠N->H5 c=some u->H' c=some u):=fun{H'} s'=>⟨_,_,rfl,s' _ _ hfz2,fun c u hc e=>s' _ _ (kp2 c u hc e)⟩
   refine⟨fun bb H7=>Same H6 H7/\(bb=true->r.1=p),?_,?_⟩
   ·rintro bb H7 ⟨s7,hbb⟩;refine ite2 (fun hb'=>?_) (fun hb'=>done s7);have erp':=hbb hb';refine⟨fun bb H8=>bb=false/\H8=H7,?_,?_⟩
    ·rintro bb H8 ⟨rfl,rfl⟩;exact iteF (done s7)
    ·refine⟨_,rfl,_,rfl,q2v (s7 _ _ hpb) (s7 _ _ e3) (hl.ok r hrm).low (by rw[<- erp];exact(hl.ok rp hrp).low) ⟨_,rfl,?_⟩⟩;rw[decide_eq_true erp'];refine iteF ⟨_,rfl,_,rfl,q0y (s7 _ _ hy3) (s7 _ _ b3) okr.low okq.low ⟨_,rfl,decide_eq_false fun z=>?_,rfl⟩⟩;rw[erp'] at z;obtain⟨d1,d2,d3⟩:=z2r hl m.g m.hp;have z1:=congrArg List.dropLast z;have z2:=congrArg (fun l=>l.getLastD []) z;rw[d1,qd] at z1;have z2':(tn ms p).getLastD []=(mvTo ms ms' p).getLastD []:=z2;rw[d2] at z2';unfold mvTo at z2';rw[Ee] at z2';have z3:=inj d3 m6q z1;refine m.hn ?_;rw[q6w (q1o hl m.g.gw m.hp).ne,q6w (q1o hl m.g'.gw m.hp).ne,z3,z2']
   ·refine⟨_,rfl,_,rfl,_,rfl,.inr (.inr ⟨y.1,_,rfl,SqT.of hy3,c6,fun t3 ht3=>?_⟩)⟩;rw[c5];have s7:=(Same.refl H6).new (o:=.tup (vP (tn ms r.1).dropLast)) ht3;have h7:upd H6 t3 (.tup (vP (tn ms r.1).dropLast)) t3=some (.tup (vP (tn ms r.1).dropLast)):=q0b;generalize upd H6 t3 (.tup (vP (tn ms r.1).dropLast))=H7 at s7 h7;refine⟨_,rfl,_,rfl,_,rfl,.inr (.inr ⟨b,_,rfl,SqT.of (s7 _ _ b3),c2,fun t4 ht4=>?_⟩)⟩;rw[c1];have s8:=(Same.refl H7).new (o:=.tup (vP (mvTo ms ms' p).dropLast)) ht4;have s78:=s7.trans s8;refine q0y (s8 _ _ h7) q0b (q1i okr.low) (q1i okq.low) ⟨_,rfl,iteB (fun hc=>?_) (fun hc=>⟨s78,fun z=>by cases z⟩)⟩;have hc:=of_decide_eq_true hc;generalize upd H7 t4 (.tup (vP (mvTo ms ms' p).dropLast))=H8 at s8 s78;refine⟨_,rfl,_,rfl,.inr (.inl ⟨y.1,_,-1,_,rfl,rfl,SqT.of (s78 _ _ hy3),q2x okr.ne,_,rfl,_,bl,rfl,q2q okr,?_⟩)⟩;refine⟨_,rfl,_,rfl,.inr (.inl ⟨b,_,-1,_,rfl,rfl,SqT.of (s78 _ _ b3),q2x okq.ne,_,rfl,_,bl,rfl,q2q okq,?_⟩)⟩;refine .inl ⟨rfl,_,rfl,s78,fun hb'=>m.free hl hrp' hc ?_⟩;have e9:=of_decide_eq_true hb';injection e9 with e9;have e10:=SB.mk_inj e9;cases bl with
    |false=>exact e10
    |true=>exact e10
  ·rintro σ' H6 ⟨x7,x8,rfl,hfz2,kp2⟩;exact⟨ob2,_,hfz2,_,rfl,k e _ (s05.trans (q2f nw5.pd.at_ kp2))⟩
end
end K
set_option maxHeartbeats 4000000
namespace K
open PySem L2 TX SB HM
section
variable{P:Program}{w:World}{K:Ak}{mg:Str->Option Value}{base:Heap}
theorem Way.at_{bl:Bool}{rows:List Rw}{row msF:List Mv}(hl:Hl bl rows)(w:Way bl rows row msF):∃st:Nat->List Mv,st 0=[]/\st row.length=msF/\∀i m,row[i]?=some m->∃p,Mve bl rows (st i) (st (i+1)) p/\m=(tn (st i) p,mvTo (st i) (st (i+1)) p):=by
 induction w with
 |nil=>exact⟨fun _=>[],rfl,rfl,fun i m h=>by cases h⟩
 | @put row ms ms' p' w g hp ho hn ih =>
  obtain⟨st,h0,h1,h2⟩:=ih;refine⟨fun i=>if i<=row.length then st i else ms',by show(if 0<=row.length then st 0 else ms')=[];rw[if_pos (Bl _)];exact h0,by show(if (row++_).length<=row.length then _ else ms')=ms';rw[if_neg (by rw[Al];show ¬row.length+1<=row.length;lia)],fun i m hm=>?_⟩;by_cases hi:i<row.length
  ·rw[Cc hi] at hm;show ∃p,Mve bl rows (if i<=row.length then st i else ms') (if i+1<=row.length then st (i+1) else ms') p/\m=(tn (if i<=row.length then st i else ms') p,mvTo (if i<=row.length then st i else ms') (if i+1<=row.length then st (i+1) else ms') p)
   rw[if_pos (show i<=row.length by lia),if_pos (show i+1<=row.length by lia)];exact h2 i m hm
  ·have hlt:=(Aj.mp hm).1;rw[Al] at hlt;have hi2:i=row.length:=by
    have:[(tn ms p',tn ms (plc ms' p').dropLast++[(plc ms' p').getLastD []])].length=1:=rfl;lia
   subst hi2;rw[Ef (Aq _),Sn] at hm;cases hm;show ∃p,Mve bl rows (if row.length<=row.length then st row.length else ms') (if row.length+1<=row.length then st (row.length+1) else ms') p/\(tn ms p',tn ms (plc ms' p').dropLast++[(plc ms' p').getLastD []])=(tn (if row.length<=row.length then st row.length else ms') p,mvTo (if row.length<=row.length then st row.length else ms') (if row.length+1<=row.length then st (row.length+1) else ms') p)
   rw[if_pos (Aq _),if_neg (show ¬row.length+1<=row.length by lia),h1];exact⟨p',⟨w.gd hl,g,hp,ho,hn⟩,rfl⟩
theorem z2s{rows:List Rw}{r:Rw}(h:r∈rows):M6 rows 6 r.1:=m6_p (Ac.mpr ⟨r,h,rfl⟩)
theorem x3z{ns:List (Addr×Mv)}{e:Addr}{k v:Pth}(hk:k∈(ns.map (·.2)).map (·.1)):putK ((ns.map fun x=>((x.2.1,.ref x.1):HRow)).map fun r=>(kP r.1,r.2)) (kP k) (.ref e)=((ns.map fun x=>if x.2.1=k then(e,(k,v)) else x).map fun x=>((x.2.1,.ref x.1):HRow)).map fun r=>(kP r.1,r.2):=by
 unfold putK;obtain⟨m,hm,rfl⟩:=Ac.mp hk;obtain⟨x,hx,rfl⟩:=Ac.mp hm;have ha:(((ns.map fun x=>((x.2.1,.ref x.1):HRow)).map fun r=>((kP r.1,r.2):List Key×V)).any fun kv=>decide (kv.1=kP x.2.1))=true:=Pc.mpr ⟨(kP x.2.1,.ref x.1),Ac.mpr ⟨(x.2.1,.ref x.1),Ac.mpr ⟨x,hx,rfl⟩,rfl⟩,decide_eq_true rfl⟩;rw[if_pos ha,Ap,Ap,Ap,Ap];refine Cs fun y hy=>?_;show(if kP y.2.1=kP x.2.1 then(kP y.2.1,V.ref e) else(kP y.2.1,V.ref y.1))=(kP (if y.2.1=x.2.1 then(e,(x.2.1,v)) else y).2.1,V.ref (if y.2.1=x.2.1 then(e,(x.2.1,v)) else y).1)
 by_cases h:y.2.1=x.2.1
 ·rw[if_pos (by rw[h]),if_pos h,h]
 ·rw[if_neg (fun z=>h (q8j z)),if_neg h]
structure CallsWk (P:Program) (w:World) (K:Ak) (mg:Str->Option Value) (base:Heap):Prop where
 «let» : Cal P w K mg base "_law_let" 2 ["_law_now", "_law_marks", "_law_path", "_law_place", "_law_blind"] spLet
def spWalked:Sp:=fun vs H Q _=>∃L R bl zs ws msF,vs=[.ref L,.ref R,.bl bl]/\RL H L zs/\Hl bl (zs.map (·.2))/\zs.length<=30/\ML H R ws/\Way bl (zs.map (·.2)) (ws.map (·.2)) msF /\
 ∀N ns H',Same H H'->NwD H' N ns (zs.map (·.2)) (tn msF)->Q (.ref N) H'
abbrev q7d:Stmt:=top 48
theorem sc_walked:FnScope ["_law_rows_here", "_law_row", "_law_blind", "_law_marks", "_law_now", "_law_path", "_law_place", "_law_first"] ["_law_rows_here", "_law_row", "_law_blind"] (defScope q7d):=⟨rfl,rfl,rfl,by decide +kernel,rfl,by decide +kernel,by decide +kernel⟩
theorem z8i(D:Df K mg "_law_walked" q7d ["_law_rows_here", "_law_row", "_law_blind"])(T:Txt mg)(C:CallsWk P w K mg base):Cal P w K mg base "_law_walked" 3 ["_law_rows_here", "_law_row", "_law_blind"] spWalked:=by
 refine D.cal sc_walked (fun vs H Q E h=>?_) (fun f cdv A outer s H vs Q E hr h=>?_)
 ·obtain⟨L,R,bl,zs,ws,msF,rfl,_⟩:=h;rfl
 ·obtain⟨L,R,bl,zs,ws,msF,rfl,rl,hl,h30,ml,wy,k⟩:=h;refine⟨_,(q0d (q0j (i:=3) sc_walked.nd rfl (by first|exact Or.inl rfl|exact Or.inr rfl) (q2l (q7z hr) (by rfl) T.b_dict (by decide +kernel) (q0a (pv 0) q0e))) (q0d (q0j (i:=4) sc_walked.nd rfl (by first|exact Or.inl rfl|exact Or.inr rfl) q3d) (q0d (q3r H rfl (q1f Bi rfl (@q4w _ _ _ _ K rfl (pv 3)) (q0h (i:=5) sc_walked.nd rfl (by first|exact Or.inl rfl|exact Or.inr rfl)) (q0f (q3q (q1c hr) (pv 4) (pv 5) (pv 5) rfl)))) (q0d (q1f Bi rfl (@q3a _ _ _ _ K rfl (pv 1)) (@q2t _ _ _ _ (2) _ K rfl rfl (q0o (q0h (i:=5) sc_walked.nd rfl (by first|exact Or.inl rfl|exact Or.inr rfl)) (q0o (q0h (i:=6) sc_walked.nd rfl (by first|exact Or.inl rfl|exact Or.inr rfl)) q1v)) (by rfl) (by rfl)) (q0d (q1e (q2a (q5s (pe_c C.«let» hr (q0a (pv 4) (q0a (pv 3) (q0a (pv 5) (q0a (pv 6) (q0a (pv 2) q0e)))))))) (q0f (q0l q5q)) q0n) (q0f (q3r H rfl (q1f Bi rfl (@q4w _ _ _ _ K rfl (pv 3)) (q0h (i:=7) sc_walked.nd rfl (by first|exact Or.inl rfl|exact Or.inr rfl)) (q0f (q1e (q0k (eq_k K rfl hr) (q0p sl_P (q0w (q1c hr) (pv 4) (pv 7) (fun _ _=>rfl)) q0q (q0r (q0m (q4f K rfl) (by rfl) T.b_len Ck (q0a (pv 5) q0e)))) (pv 5) (nomark _)) (q0f (q3q (q1c hr) (pv 4) (pv 7) (q1j q3e (pv 6) (q0p sl_P (q0w (q1c hr) (pv 4) (pv 7) (fun _ _=>rfl)) (q0r (q0m (q4f K rfl) (by rfl) T.b_len Ck (q0a (pv 5) q0e))) q0q)) rfl)) q0n))))))) (q0f (q0l (pv 4))))))),?_⟩;refine⟨_,rfl,L,zs.map (·.1),zs.map (fun z=>rR z.2),rfl,by rw[Ap];exact rl.at_,x1l rl.pr,by rw[Ab];lia,fun Mk hM=>?_⟩;rw[z1j hl];have s1:=(Same.refl H).new (o:=dR ((zs.map (·.2)).map rR)) hM;have hM1:upd H Mk (dR ((zs.map (·.2)).map rR)) Mk=some (dR ((zs.map (·.2)).map rR)):=q0b;generalize upd H Mk (dR ((zs.map (·.2)).map rR))=H1 at s1 hM1;generalize hrows:zs.map (·.2)=rows at hl hM1 wy k;have hrl:rows.length<=30:=by rw[<- hrows,Ab];exact h30
  have oks:=hl.ok;obtain⟨st,st0,stF,stp⟩:=wy.at_ hl;intro N hN;have hNM:N≠Mk:=fun z=>by rw[z,hM1] at hN;cases hN
  have s2:=(Same.refl H1).new (o:=.dT []) hN;have hN2:upd H1 N (.dT []) N=some (.dT []):=q0b;generalize upd H1 N (.dT [])=H2 at s2 hN2;refine⟨Mk,(fun o v e=>by rw[hM] at e;cases e),?_⟩;refine⟨_,rfl,Mk,_,rfl,s2 _ _ hM1,fun ob=>?_⟩;refine q2o (fun i σ' H'=>∃ns x5,σ'=[some (.ref L),some (.ref R),some (.bl bl),some (.ref Mk),some (.ref N),x5,none,none]/\H' Mk=some (.frz ob (dR (rows.map rR)))/\(∀c u,c≠Mk->H1 c=some u->H' c=some u)/\PDt H' N ns/\ns.map (·.2)=(rows.take i).map fun r=>(r.1,r.1))
   ⟨[],none,rfl,q0b,fun c u hc e=>by rw[q0c hc];exact s2 _ _ e,⟨by rw[q0c hNM];exact hN2,(fun _ h=>nomatch h)⟩,rfl⟩ (fun i σ' H' x=>by obtain⟨_,_,_,h,_⟩:=x;exact h) ?_ ?_
  ·rintro i ky v pb σ' H3 hk' hpb ⟨ns,x5,rfl,hfz,kp,pdN,ens⟩;obtain⟨r,hr',rfl,rfl⟩:∃r,rows[i]?=some r/\ky=kP r.1/\v=mV r.2:=by
    rw[Ae,Ae] at hk';cases e:rows[i]? with
    |none=>rw[e] at hk';cases hk'
    |some r=>rw[e] at hk';cases hk';exact⟨r,rfl,rfl,rfl⟩
   rw[q1x] at hpb;have e1:rows.take (i+1)=rows.take i++[r]:=by rw[Bc,hr'];rfl
   have nl:ns.length<=30:=by
    have:=congrArg List.length ens;rw[Ab,Ab,Bm] at this;lia
   have hno:∀x∈(ns.map fun x=>((x.2.1,.ref x.1):HRow)),x.1≠r.1:=fun x hx z=>by
    obtain⟨y,hy,rfl⟩:=Ac.mp hx;have hy2:y.2∈(rows.take i).map fun r=>(r.1,r.1):=by rw[<- ens];exact Ac.mpr ⟨y,hy,rfl⟩
    obtain⟨r',hr2,e⟩:=Ac.mp hy2;have z':y.2.1=r.1:=z;rw[<- e] at z';exact q3w hl.paths hr' hr2 z'
   refine⟨_,rfl,_,rfl,_,rfl,N,_,rfl,DPut.t (k:=kP r.1) pdN.at_ (by rw[q1x];exact hpb) (by rw[Ab,Ab];exact small' (by lia)),?_⟩;rw[q2d (v:=.ref pb) hno];have nN:∀(x:Addr) (u:HO),H3 x=some u->(∀kvs,u≠.dT kvs)->upd H3 N (dR ((ns.map fun x=>((x.2.1,.ref x.1):HRow))++[(r.1,.ref pb)])) x=some u:=fun x u e n=>by
    rw[q0c (fun y=>by rw[y,pdN.at_] at e;cases e;exact n _ rfl)];exact e
   refine⟨ns++[(pb,(r.1,r.1))],_,rfl,nN _ _ hfz (fun _ y=>by cases y),fun c u hc e=>by rw[q0c (q0i e hN)];exact kp c u hc e,⟨by rw[q0b,Af (l₁:=ns)];rfl,fun y hy=>?_⟩,by rw[e1,Af,Af,ens];rfl⟩;rcases Am.mp hy with hy|hy
   ·exact nN _ _ (pdN.pr y hy) (fun _ y=>by cases y)
   ·rw[Ai.mp hy];exact nN _ _ hpb (fun _ y=>by cases y)
  rintro σ' H3 ⟨ns,x5,rfl,hfz,kp,pdN,ens⟩;rw[Ab,Ab,Bb] at ens;refine⟨ob,_,hfz,?_⟩;have s3:Same H1 (upd H3 Mk (dR (rows.map rR))):=q2f hM1 kp;have pd3:PDt (upd H3 Mk (dR (rows.map rR))) N ns:=⟨by rw[q0c hNM];exact pdN.at_,fun y hy=>by rw[q0c (fun z=>by have e:=pdN.pr y hy;rw[z,hfz] at e;cases e)];exact pdN.pr y hy⟩
  generalize upd H3 Mk (dR (rows.map rR))=H4 at s3 pd3;clear hfz kp pdN;have s14:=s1.trans s3;have ml4:=ml.same s14;have nw4:NwD H4 N ns rows (tn (st 0)):=⟨pd3,by
   rw[ens,st0];exact Cs fun r hr'=>by rw[show tn [] r.1=r.1 from q7c hl (z2s hr')]⟩
  have hN1:H1 N=none:=hN;refine⟨_,rfl,.inl ⟨R,rfl,⟨_,SqL.of ml4.at_⟩,?_⟩⟩;refine q2j (fun i σ' H'=>∃ns x5 x6 x7,σ'=[some (.ref L),some (.ref R),some (.bl bl),some (.ref Mk),some (.ref N),x5,x6,x7]/\Same H1 H'/\NwD H' N ns rows (tn (st i))) ⟨ns,_,none,none,rfl,s3,nw4⟩ (fun i σ' H' _ x=>by obtain⟨_,_,_,_,_,s',_⟩:=x;exact SqL.of (s' _ _ (ml.same s1).at_)) ?_ ?_
  ·rintro i v σ' H5 hv ⟨ns,x5,x6,x7,rfl,s5,nw⟩;obtain⟨z,hz,rfl⟩:∃z,ws[i]?=some z/\v=.ref z.1:=by
    rw[Ae] at hv;cases e:ws[i]? with
    |none=>rw[e] at hv;cases hv
    |some z=>rw[e] at hv;cases hv;exact⟨z,rfl,rfl⟩
   obtain⟨p,m,ez⟩:=stp i z.2 (by rw[Ae,hz];rfl);obtain⟨A1,B1,g1,g2,g3⟩:=((ml.same s1).same s5).pr z (Ag hz);rw[ez] at g2 g3;replace g2:H5 A1=some (.tup (vP (tn (st i) p))):=g2;replace g3:H5 B1=some (.tup (vP (mvTo (st i) (st (i+1)) p))):=g3;refine⟨z.1,_,rfl,SqT.of g1,rfl,_,_,rfl,_,_,rfl,rfl,?_⟩;refine⟨_,rfl,_,rfl,_,rfl,_,rfl,_,rfl,N,Mk,A1,B1,bl,rows,st i,st (i+1),p,ns,rfl,hl,hrl,nw,s5 _ _ hM1,m,g2,g3,fun e0 H6 s6=>⟨_,rfl,iteF ?_⟩⟩;have s16:=s5.trans s6;have nw6:=nw.same s6;have g2':=s6 _ _ g2;have g3':=s6 _ _ g3;have okp:=z1k hl m.g m.hp;have okq:=x3w hl m.g m.g' m.hp;refine⟨Mk,(fun o v e=>by rw[hM] at e;cases e),?_⟩;refine⟨_,rfl,Mk,_,rfl,s16 _ _ hM1,fun ob=>?_⟩;have hA1:A1≠Mk:=fun q=>by rw[q,s16 _ _ hM1] at g2';cases g2'
   have hB1:B1≠Mk:=fun q=>by rw[q,s16 _ _ hM1] at g3';cases g3'
   have tnk:∀{x:Pth},x∈rows.map (·.1)->carry (tn (st i) p) (mvTo (st i) (st (i+1)) p) (tn (st i) x)=tn (st (i+1)) x:=fun{x} hx=>q8n hl m.g m.g' m.hp m.ho (m6_p hx) (Aq _);refine q2o (fun j σ' H'=>∃(ns:List (Addr×Mv)) (x7:Option V),σ'=[some (.ref L),some (.ref R),some (.bl bl),some (.ref Mk),some (.ref N),some (.ref A1),some (.ref B1),x7]/\H' Mk=some (.frz ob (dR (rows.map rR)))/\(∀c u,c≠Mk->c≠N->H6 c=some u->H' c=some u)/\PDt H' N ns/\(ns.map (·.2)).map (·.1)=rows.map (·.1)/\(∀x∈ns,x.2.2=if x.2.1∈(rows.take j).map (·.1) then tn (st (i+1)) x.2.1 else tn (st i) x.2.1))
    ⟨ns,_,rfl,q0b,fun c u hc _ e=>by rw[q0c hc];exact e,⟨by rw[q0c hNM];exact nw6.pd.at_,fun y hy=>by rw[q0c (fun z=>by have e:=nw6.pd.pr y hy;rw[z,s16 _ _ hM1] at e;cases e)];exact nw6.pd.pr y hy⟩,by rw[nw.e,Ap];rfl,fun x hx=>by
     rw[Gj,List.map_nil,if_neg Dn];have hx2:x.2∈rows.map fun r=>(r.1,tn (st i) r.1):=by rw[<- nw.e];exact Ac.mpr ⟨x,hx,rfl⟩
     obtain⟨r,_,e⟩:=Ac.mp hx2;rw[<- e]⟩ (fun j σ' H' x=>by obtain⟨_,_,_,h,_⟩:=x;exact h) ?_ ?_
   ·rintro j ky v pb σ' H7 hk' hpb ⟨ns,x7,rfl,hfz,kp,pd7,ek,ev⟩;obtain⟨r,hr',rfl,rfl⟩:∃r,rows[j]?=some r/\ky=kP r.1/\v=mV r.2:=by
     rw[Ae,Ae] at hk';cases e:rows[j]? with
     |none=>rw[e] at hk';cases hk'
     |some r=>rw[e] at hk';cases hk';exact⟨r,rfl,rfl,rfl⟩
    rw[q1x] at hpb;have hrm:=Ag hr';have hrp:r.1∈rows.map (·.1):=Ac.mpr ⟨r,hrm,rfl⟩;have e1:rows.take (j+1)=rows.take j++[r]:=by rw[Bc,hr'];rfl
    have e5:(rows.take (j+1)).map (·.1)=(rows.take j).map (·.1)++[r.1]:=by rw[e1,Af];rfl
    have hrt:r.1∉(rows.take j).map (·.1):=fun h=>by
     obtain⟨r',hr2,e⟩:=Ac.mp h;exact q3w hl.paths hr' hr2 e
    have ndn:((ns.map (·.2)).map (·.1)).Nodup:=by rw[ek];exact hl.paths
    have hrk:r.1∈(ns.map (·.2)).map (·.1):=by rw[ek];exact hrp
    obtain⟨mm,hmm,em⟩:=Ac.mp hrk;obtain⟨y,hy,rfl⟩:=Ac.mp hmm;have ey:y.2.2=tn (st i) r.1:=by rw[ev y hy,em,if_neg hrt]
    have hyt:=pd7.pr y hy;rw[ey] at hyt;have dg:=q7a (b:=pb) (.inl pd7.at_) ndn hy (by rw[em];exact hpb);have hNA:A1≠N:=fun q=>by rw[q,nw6.pd.at_] at g2';cases g2'
    have hNB:B1≠N:=fun q=>by rw[q,nw6.pd.at_] at g3';cases g3'
    have a7:=kp _ _ hA1 hNA g2';have b7:=kp _ _ hB1 hNB g3';have okr:=z1k hl m.g hrp;have in1:∀{x:Addr×Mv},x∈ns->x.2.1≠r.1->x.2.2=if x.2.1∈(rows.take (j+1)).map (·.1) then tn (st (i+1)) x.2.1 else tn (st i) x.2.1:=fun{x} hx n=>by
     rw[ev x hx,e5];by_cases h:x.2.1∈(rows.take j).map (·.1)
     ·rw[if_pos h,if_pos (Ch _ h)]
     ·rw[if_neg h,if_neg fun z=>(Am.mp z).elim h fun z=>n (Ai.mp z)]
    refine⟨_,rfl,_,rfl,N,_,rfl,dg,_,rfl,_,_,rfl,.inr ⟨_,SqT.of a7,rfl⟩,_,rfl,y.1,_,rfl,hyt,fun t1 H8 s8 h8=>?_⟩;rw[q0z,x1n] at h8;refine⟨_,rfl,q0y h8 (s8 _ _ a7) (z3t okr.low) okp.low ⟨_,rfl,iteB (fun hc=>?_) (fun hc=>?_)⟩⟩
    ·have hc:=of_decide_eq_true hc;have pd8:=pd7.same s8;refine⟨_,rfl,_,rfl,_,rfl,N,_,rfl,q7a (b:=pb) (.inl pd8.at_) ndn hy (by rw[em];exact s8 _ _ hpb),_,rfl,_,_,rfl,.inr ⟨_,SqT.of (s8 _ _ a7),rfl⟩,_,rfl,y.1,_,rfl,s8 _ _ hyt,fun t2 H9 s9 h9=>?_⟩;rw[q0z,z3o] at h9;have l6:(tn (st i) r.1).length<=6:=okr.few;have l6':(mvTo (st i) (st (i+1)) p).length<=6:=okq.few;refine⟨B1,t2,_,_,rfl,rfl,s9 _ _ (s8 _ _ b7),h9,by rw[q0z,q0z,Dd];exact small (by lia),fun e3 HA sA hA _=>?_⟩;have s7A:=(s8.trans s9).trans sA;have pdA:=pd7.same s7A;have hAv:HA e3=some (.tup (vP (tn (st (i+1)) r.1))):=by
      rw[hA,<- z7r,<- tnk hrp];unfold carry;rw[if_pos hc]
     have nl:ns.length<=30:=by have:=congrArg List.length ek;rw[Ab,Ab,Ab] at this;lia
     refine⟨_,rfl,_,rfl,N,_,rfl,DPut.t (k:=kP r.1) pdA.at_ (by rw[q1x];exact s7A _ _ hpb) (by rw[Ab,Ab];exact small' (by lia)),?_⟩;rw[x3z (v:=tn (st (i+1)) r.1) hrk];have tk:∀{c:Addr} {xs:List V},HA c=some (.tup xs)->upd HA N (.dT (((ns.map fun x=>if x.2.1=r.1 then(e3,(r.1,tn (st (i+1)) r.1)) else x).map fun x=>((x.2.1,.ref x.1):HRow)).map fun r=>(kP r.1,r.2))) c=some (.tup xs):=fun{c xs} e=>by rw[q0c (fun q=>by rw[q,pdA.at_] at e;cases e)];exact e
     refine⟨ns.map fun x=>if x.2.1=r.1 then(e3,(r.1,tn (st (i+1)) r.1)) else x,_,rfl,by rw[q0c hNM.symm];exact s7A _ _ hfz,fun c u hc1 hc2 e=>by rw[q0c hc2];exact s7A _ _ (kp c u hc1 hc2 e),⟨q0b,fun x hx=>?_⟩,?_,fun x hx=>?_⟩
     ·obtain⟨x',hx',rfl⟩:=Ac.mp hx;by_cases h:x'.2.1=r.1
      ·simp only[if_pos h];exact tk hAv
      ·simp only[if_neg h];exact tk (pdA.pr x' hx')
     ·rw[<- ek,Ap,Ap,Ap];refine Cs fun x _=>?_;show(if x.2.1=r.1 then(e3,(r.1,tn (st (i+1)) r.1)) else x).2.1=x.2.1;by_cases h:x.2.1=r.1
      ·rw[if_pos h,h]
      ·rw[if_neg h]
     ·obtain⟨x',hx',rfl⟩:=Ac.mp hx;by_cases h:x'.2.1=r.1
      ·simp only[if_pos h];rw[if_pos (by rw[e5];exact Bk _ (Ai.mpr rfl))]
      ·simp only[if_neg h];exact in1 hx' h
    ·have hc:=of_decide_eq_false hc;refine⟨ns,_,rfl,s8 _ _ hfz,fun c u hc1 hc2 e=>s8 _ _ (kp c u hc1 hc2 e),pd7.same s8,ek,fun x hx=>?_⟩;by_cases h:x.2.1=r.1
     ·rw[ev x hx,h,if_neg hrt,if_pos (by rw[e5];exact Bk _ (Ai.mpr rfl)),<- tnk hrp];exact(q9d hc).symm
     ·exact in1 hx h
   ·rintro σ' H7 ⟨ns,x7,rfl,hfz,kp,pd7,ek,ev⟩;rw[Ab,Ab,Bb] at ev;refine⟨ob,_,hfz,ns,_,_,_,rfl,?_,⟨⟨by rw[q0c hNM];exact pd7.at_,fun y hy=>by rw[q0c (fun z=>by have e:=pd7.pr y hy;rw[z,hfz] at e;cases e)];exact pd7.pr y hy⟩,?_⟩⟩
    ·intro c u e;by_cases hc:c=Mk
     ·rw[hc,q0b,<- hM1,<- hc];exact e
     ·rw[q0c hc];exact kp c u hc (fun z=>by rw[z,hN1] at e;cases e) (s16 _ _ e)
    ·refine Oa fun j=>?_;have e2:=congrArg (fun l=>l[j]?) ek;simp only[Ae] at e2 ⊢;cases h1:ns[j]? with
     |none =>
      rw[h1] at e2;cases h2:rows[j]? with
      |none=>rfl
      |some r=>rw[h2] at e2;cases e2
     |some x =>
      rw[h1] at e2;cases h2:rows[j]? with
      |none=>rw[h2] at e2;cases e2
      |some r =>
       rw[h2] at e2;have e3:x.2.1=r.1:=Bj e2;have e4:=ev x (Ag h1);rw[e3,if_pos (Ac.mpr ⟨r,Ag h2,rfl⟩)] at e4;show some x.2=some (r.1,tn (st (i+1)) r.1);rw[<- e3] at e4 ⊢;rw[<- e4]
  ·rintro σ' H5 ⟨ns,x5,x6,x7,rfl,s5,nw⟩;rw[Ab,<- Ab (f:=fun z:Zm=>z.2),stF] at nw;exact⟨_,rfl,k N ns H5 (s1.trans s5) nw⟩
end
end K
set_option maxHeartbeats 4000000
namespace K
open PySem L2 TX SB HM
section
variable{P:Program}{w:World}{K:Ak}{mg:Str->Option Value}{base:Heap}
structure CallsTn (P:Program) (w:World) (K:Ak) (mg:Str->Option Value) (base:Heap) (k:Nat) (S:Sp):Prop where
 «then» : Cal P w K mg base "_law_then" k ["_law_places", "_law_path"] S
def spTn(k:Nat):Sp:=fun vs H Q _=>∃b D bl rows ms ps p,vs=[.ref D,.ref b]/\Hl bl rows/\GoodW rows ms/\AllP H D ps rows ms/\H b=some (.tup (vP p))/\M6 rows k p/\k<=6/\∀q H',Same H H'->H' q=some (.tup (vP (thenP (plc ms) (k+1) p)))->Q (.ref q) H'
abbrev q7e:Stmt:=top 46
theorem z8j:FnScope ["_law_places", "_law_path"] ["_law_places", "_law_path"] (defScope q7e):=⟨rfl,rfl,rfl,by decide +kernel,rfl,by decide +kernel,by decide +kernel⟩
theorem z8k{k n:Nat}{S:Sp}(D:Df K mg "_law_then" q7e ["_law_places", "_law_path"])(T:Txt mg)(hk:k=0\/∃j,k=j+1/\S=spTn j)(C:CallsTn P w K mg base n S):Cal P w K mg base "_law_then" (n+1) ["_law_places", "_law_path"] (spTn k):=by
 refine D.cal z8j (fun vs H Q E h=>?_) (fun f cdv A outer s H vs Q E hr h=>?_)
 ·obtain⟨b,D,bl,rows,ms,ps,p,rfl,_⟩:=h;rfl
 ·obtain⟨b,D,bl,rows,ms,ps,p,rfl,hl,gw,ap,hb,m6,k6,kk⟩:=h;refine⟨_,(q0d (q1e (q0k (eq_k K rfl hr) (pv 1) (q1g q0e) (nomark _)) (q0f (q0l (q1g q0e))) q0n) (q0f (q0l (q1j q3e (pe_c (hjk:=Aq _) C.«then» hr (q0a (pv 0) (q0a (q0p (sl_k K rfl) (q0w (q1c hr) (pv 0) (pv 1) (fun _ _=>rfl)) q0q (q0r (q1l q0s q0g))) q0e))) (q1g (q0a (q1m (ix_k K rfl) (q0w (q1c hr) (pv 0) (pv 1) (fun _ _=>rfl)) (q1l q0s q0g) (fun _ _=>rfl)) q0e)))))),?_⟩;refine⟨_,rfl,by show 0<=sizeLine;decide,fun t0 ht0=>?_⟩;have s0:=(Same.refl H).new (o:=.tup []) ht0;have ht0':upd H t0 (.tup []) t0=some (.tup (vP [])):=q0b;generalize upd H t0 (.tup [])=H1 at s0 ht0';have lowp:Low p:=by
   by_cases e:p=[]
   ·rw[e];exact fun _ h=>nomatch h
   ·obtain⟨r,hr',e2⟩:=Ac.mp (m6.in_ e);rw[<- e2];exact(hl.ok r hr').low
  refine q0y (s0 _ _ hb) ht0' lowp (fun _ h=>nomatch h) ⟨_,rfl,iteB (fun e=>?_) (fun e=>?_)⟩
  ·have e:=of_decide_eq_true e;refine⟨by show 0<=sizeLine;decide,fun t1 ht1=>kk t1 _ (s0.new ht1) ?_⟩;rw[q0b];unfold thenP;rw[if_pos e];rfl
  ·have e:=of_decide_eq_false e;have hin:=m6.in_ e;obtain⟨x,dx,hx⟩:=(ap.same s0).get hl hin (s0 _ _ hb);have ok:=q1o hl gw hin;rcases hk with rfl|⟨j,rfl,rfl⟩
   ·exact absurd (m6.zero hl) e
   obtain⟨c1,c2⟩:=q1a ok.ne;refine⟨_,rfl,_,rfl,_,rfl,D,_,rfl,dx,_,rfl,_,rfl,.inr (.inr ⟨x,_,rfl,SqT.of hx,c2,fun t1 ht1=>?_⟩)⟩;rw[c1];have s2:=(Same.refl H1).new (o:=.tup (vP (plc ms p).dropLast)) ht1;have h2:upd H1 t1 (.tup (vP (plc ms p).dropLast)) t1=some (.tup (vP (plc ms p).dropLast)):=q0b;generalize upd H1 t1 (.tup (vP (plc ms p).dropLast))=H2 at s2 h2;have s02:=s0.trans s2;refine⟨t1,D,bl,rows,ms,ps,_,rfl,hl,gw,ap.same s02,h2,m6.step hl gw e,by lia,fun q H3 s3 h3=>?_⟩;have s03:=s02.trans s3;obtain⟨x2,dx2,hx2⟩:=(ap.same s03).get hl hin (s03 _ _ hb);refine⟨_,rfl,_,rfl,D,_,rfl,dx2,_,rfl,.inr (.inl ⟨x2,_,-1,_,rfl,rfl,SqT.of hx2,q2x ok.ne,by show 1<=sizeLine;decide,fun t2 ht2=>?_⟩)⟩;have s4:=(Same.refl H3).new (o:=.tup [.str (mk ((plc ms p).getLastD []))]) ht2;have hlen:=(q6z hl gw (m6.step hl gw e)).2;refine⟨q,t2,_,_,rfl,rfl,s4 _ _ h3,q0b,by rw[q0z];exact small (by show _+1<=_;lia),fun z H5 s5 h5 _=>?_⟩;refine kk z H5 ((s03.trans s4).trans s5) ?_;rw[h5];conv=>rhs;unfold thenP
   rw[if_neg e];show _=some (HO.tup ((_++[(plc ms p).getLastD []]).map _));rw[Af];rfl
theorem x0r(D:Df K mg "_law_then" q7e ["_law_places", "_law_path"])(T:Txt mg):Cal P w K mg base "_law_then" 1 ["_law_places", "_law_path"] (fun _ _ _ _=>False) :=
 D.cal z8j (fun _ _ _ _ h=>h.elim) (fun _ _ _ _ _ _ _ _ _ _ h=>h.elim)
theorem z3u(D:Df K mg "_law_then" q7e ["_law_places", "_law_path"])(T:Txt mg):∀k,Cal P w K mg base "_law_then" (k+2) ["_law_places", "_law_path"] (spTn k)
 |0=>z8k D T (.inl rfl) ⟨x0r D T⟩
 |k+1=>z8k D T (.inr ⟨k,rfl,rfl⟩) ⟨z3u D T k⟩
structure CallsEn (P:Program) (w:World) (K:Ak) (mg:Str->Option Value) (base:Heap):Prop where
 «then» : Cal P w K mg base "_law_then" 8 ["_law_places", "_law_path"] (spTn 6)
def spEnds:Sp:=fun vs H Q _=>∃L W bl zs ps,vs=[.ref L,.ref W]/\RL H L zs/\Hl bl (zs.map (·.2))/\zs.length<=30/\PDt H W ps/\GoodW (zs.map (·.2)) (ps.map (·.2)) /\
 ∀N ns H',Same H H'->NwD H' N ns (zs.map (·.2)) (tn (ps.map (·.2)))->Q (.ref N) H'
abbrev z2t:Stmt:=top 49
theorem sc_ends:FnScope ["_law_rows_here", "_law_wishes", "_law_places", "_law_path", "_law_mark", "_law_ends_here"] ["_law_rows_here", "_law_wishes"] (defScope z2t):=⟨rfl,rfl,rfl,by decide +kernel,rfl,by decide +kernel,by decide +kernel⟩
theorem x4a(D:Df K mg "_law_ends" z2t ["_law_rows_here", "_law_wishes"])(T:Txt mg)(C:CallsEn P w K mg base):Cal P w K mg base "_law_ends" 9 ["_law_rows_here", "_law_wishes"] spEnds:=by
 refine D.cal sc_ends (fun vs H Q E h=>?_) (fun f cdv A outer s H vs Q E hr h=>?_)
 ·obtain⟨L,W,bl,zs,ps,rfl,_⟩:=h;rfl
 ·obtain⟨L,W,bl,zs,ps,rfl,rl,hl,h30,pd,gw,k⟩:=h;refine⟨_,(q0d (q0j (i:=2) sc_ends.nd rfl (by first|exact Or.inl rfl|exact Or.inr rfl) q3d) (q0d (q1f Bi rfl (@q3a _ _ _ _ K rfl (pv 0)) (@q2t _ _ _ _ (2) _ K rfl rfl (q0o (q0h (i:=3) sc_ends.nd rfl (by first|exact Or.inl rfl|exact Or.inr rfl)) (q0o (q0h (i:=4) sc_ends.nd rfl (by first|exact Or.inl rfl|exact Or.inr rfl)) q1v)) (by rfl) (by rfl)) (q0f (q3q (q1c hr) (pv 2) (pv 3) (z3d (q1c hr) (pv 1) (pv 3) (pv 3) ⟨rfl,rfl,rfl,rfl⟩) rfl))) (q0d (q0j (i:=5) sc_ends.nd rfl (by first|exact Or.inl rfl|exact Or.inr rfl) q3d) (q0d (q3r H rfl (q1f Bi rfl (@q4w _ _ _ _ K rfl (pv 2)) (q0h (i:=3) sc_ends.nd rfl (by first|exact Or.inl rfl|exact Or.inr rfl)) (q0f (q3q (q1c hr) (pv 5) (pv 3) (pe_c C.«then» hr (q0a (pv 2) (q0a (pv 3) q0e))) rfl)))) (q0f (q0l (pv 5))))))),?_⟩;intro D hD;have s6:=(Same.refl H).new (o:=.dT []) hD;refine⟨_,rfl,.inl ⟨L,rfl,⟨_,SqL.of (s6 _ _ rl.at_)⟩,?_⟩⟩;refine q2j (fun i' σ' H'=>∃qs x3 x4,σ'=[some (.ref L),some (.ref W),some (.ref D),x3,x4,none]/\Same H H'/\PDt H' D qs/\qs.map (·.2)=((zs.map (·.2)).take i').map (fun r=>(r.1,plc (ps.map (·.2)) r.1))) ⟨[],none,none,rfl,s6,⟨q0b,(fun _ h=>nomatch h)⟩,rfl⟩ (fun i' σ' H' _ x=>by obtain⟨_,_,_,_,s',_⟩:=x;exact SqL.of (s' _ _ rl.at_)) ?_ ?_
  ·rintro i' v σ' H6 hv ⟨qs,x3,x4,rfl,s6,pdD,eqs⟩;obtain⟨z,hz,rfl⟩:∃z,zs[i']?=some z/\v=.ref z.1:=by
    rw[Ae] at hv;cases e:zs[i']? with
    |none=>rw[e] at hv;cases hv
    |some z=>rw[e] at hv;cases hv;exact⟨z,rfl,rfl⟩
   have hzr:(zs.map (·.2))[i']?=some z.2:=by rw[Ae,hz];rfl
   have e1:(zs.map (·.2)).take (i'+1)=(zs.map (·.2)).take i'++[z.2]:=by rw[Bc,hzr];rfl
   have pl:qs.length<=30:=by
    have:=congrArg List.length eqs;rw[Ab,Ab,Bm,Ab] at this;lia
   have hno':∀r∈(qs.map fun x=>((x.2.1,.ref x.1):HRow)),r.1≠z.2.1:=fun r hr z'=>by
    obtain⟨x,hx,rfl⟩:=Ac.mp hr;have hx2:x.2∈((zs.map (·.2)).take i').map (fun r=>(r.1,plc (ps.map (·.2)) r.1)):=by rw[<- eqs];exact Ac.mpr ⟨x,hx,rfl⟩
    obtain⟨r',hr2,e⟩:=Ac.mp hx2;have z2:x.2.1=z.2.1:=z';rw[<- e] at z2;exact q3w hl.paths hzr hr2 z2
   obtain⟨pb,h1,h2⟩:=(rl.same s6).pr z (Ag hz);refine⟨z.1,_,rfl,SqT.of h1,rfl,_,_,rfl,_,_,rfl,rfl,?_⟩;replace h2:H6 pb=some (.tup (vP z.2.1)):=h2;have pdW:=pd.same s6;refine⟨_,rfl,W,rfl,.inr ⟨_,.inl pdW.at_⟩,_,rfl,_,rfl,?_⟩;have fin:∀(e:Addr),H6 e=some (.tup (vP (plc (ps.map (·.2)) z.2.1)))->∃qs',Same H (upd H6 D (dR ((qs.map fun x=>((x.2.1,.ref x.1):HRow))++[(z.2.1,.ref e)])))/\PDt (upd H6 D (dR ((qs.map fun x=>((x.2.1,.ref x.1):HRow))++[(z.2.1,.ref e)]))) D qs'/\qs'.map (·.2)=((zs.map (·.2)).take (i'+1)).map (fun r=>(r.1,plc (ps.map (·.2)) r.1)):=fun e he=>by
    have nD:∀(x:Addr) (xs:List V),H6 x=some (.tup xs)->upd H6 D (dR ((qs.map fun x=>((x.2.1,.ref x.1):HRow))++[(z.2.1,.ref e)])) x=some (.tup xs):=fun x xs e=>by
     rw[q0c (fun y=>by rw[y,pdD.at_] at e;cases e)];exact e
    refine⟨qs++[(e,(z.2.1,plc (ps.map (·.2)) z.2.1))],s6.put hD,⟨by rw[q0b,Af];rfl,fun x hx=>?_⟩,by rw[e1,Af,Af,eqs];rfl⟩;rcases Am.mp hx with hx|hx
    ·exact nD _ _ (pdD.pr x hx)
    ·rw[Ai.mp hx];exact nD _ _ he
   rcases pdW.get gw.nd h2 with⟨hn,dg⟩|⟨y,hy,ey,dg,hy2⟩
   ·refine⟨none,dg,_,rfl,_,rfl,D,_,rfl,DPut.t (k:=kP z.2.1) pdD.at_ (by rw[q1x];exact h2) (by rw[Ab,Ab];exact small' (by lia)),?_⟩;obtain⟨qs',f1,f2,f3⟩:=fin pb (by rw[q5b hn];exact h2);have e9:=q2d (v:=.ref pb) hno';refine⟨qs',_,_,rfl,?_,?_,f3⟩
    ·show Same H (upd H6 D (.dT (putK _ _ (V.ref pb))));rw[e9];exact f1
    ·show PDt (upd H6 D (.dT (putK _ _ (V.ref pb)))) D qs';rw[e9];exact f2
   ·refine⟨some (.ref y.1),dg,_,rfl,_,rfl,D,_,rfl,DPut.t (k:=kP z.2.1) pdD.at_ (by rw[q1x];exact h2) (by rw[Ab,Ab];exact small' (by lia)),?_⟩;obtain⟨qs',f1,f2,f3⟩:=fin y.1 hy2;have e9:=q2d (v:=.ref y.1) hno';refine⟨qs',_,_,rfl,?_,?_,f3⟩
    ·show Same H (upd H6 D (.dT (putK _ _ (V.ref y.1))));rw[e9];exact f1
    ·show PDt (upd H6 D (.dT (putK _ _ (V.ref y.1)))) D qs';rw[e9];exact f2
  rintro σ' H6 ⟨qs,x3,x4,rfl,s6,pdD,eqs⟩;rw[Ab,<- Ab (f:=fun z:Zr=>z.2),Bb] at eqs;have hDH:H D=none:=hD;generalize hrows:zs.map (·.2)=rows at hl gw k eqs;have hrl:rows.length<=30:=by rw[<- hrows,Ab];exact h30
  have ql:qs.length=rows.length:=by have:=congrArg List.length eqs;rw[Ab,Ab] at this;exact this
  intro B hB;have hBD:B≠D:=fun z=>by rw[z,pdD.at_] at hB;cases hB
  have s7:=(Same.refl H6).new (o:=.dT []) hB;have hB7:upd H6 B (.dT []) B=some (.dT []):=q0b;generalize upd H6 B (.dT [])=H7 at s7 hB7;have pd7:=pdD.same s7;refine⟨D,(fun o v e=>by rw[hDH] at e;cases e),?_⟩;refine⟨_,rfl,D,_,rfl,pd7.at_,fun ob=>?_⟩;refine q2o (fun i' σ' H'=>∃bs x3,σ'=[some (.ref L),some (.ref W),some (.ref D),x3,x4,some (.ref B)]/\H' D=some (.frz ob (qR qs))/\(∀c u,c≠D->H6 c=some u->H' c=some u)/\PDt H' B bs/\bs.map (·.2)=(rows.take i').map fun r=>(r.1,tn (ps.map (·.2)) r.1))
   ⟨[],_,rfl,q0b,fun c u hc e=>by rw[q0c hc];exact s7 _ _ e,⟨by rw[q0c hBD];exact hB7,(fun _ h=>nomatch h)⟩,rfl⟩ (fun i' σ' H' x=>by obtain⟨_,_,_,h,_⟩:=x;exact h) ?_ ?_
  ·rintro i' ky v pb σ' H8 hk' hpb ⟨bs,x3,rfl,hfz,kp,pdB,ebs⟩;obtain⟨x,hx,rfl,rfl⟩:∃x,qs[i']?=some x/\ky=kP x.2.1/\v=.ref x.1:=by
    rw[Ae,Ae] at hk';cases e:qs[i']? with
    |none=>rw[e] at hk';cases hk'
    |some r=>rw[e] at hk';cases hk';exact⟨r,rfl,rfl,rfl⟩
   rw[q1x] at hpb;have hxe:(qs.map (·.2))[i']?=some x.2:=by rw[Ae,hx];rfl
   rw[eqs,Ae] at hxe;obtain⟨r,hr',er⟩:∃r,rows[i']?=some r/\(r.1,plc (ps.map (·.2)) r.1)=x.2:=by
    cases e:rows[i']? with
    |none=>rw[e] at hxe;cases hxe
    |some r=>rw[e] at hxe;exact⟨r,rfl,Bj hxe⟩
   have hrm:=Ag hr';have ex1:x.2.1=r.1:=by rw[<- er]
   rw[ex1] at hpb;have al:AllP H8 D qs rows (ps.map (·.2)):=⟨.inr ⟨ob,hfz⟩,fun y hy=>kp _ _ (fun z=>by have e:=pdD.pr y hy;rw[z,pdD.at_] at e;cases e) (pdD.pr y hy),by rw[eqs]⟩
   refine⟨_,rfl,_,rfl,pb,D,bl,_,_,qs,_,rfl,hl,gw,al,hpb,z2s hrm,Aq _,fun q2 H9 s9 h9=>?_⟩;have pdB9:=pdB.same s9;have e1:rows.take (i'+1)=rows.take i'++[r]:=by rw[Bc,hr'];rfl
   have bl30:bs.length<=30:=by
    have:=congrArg List.length ebs;rw[Ab,Ab,Bm] at this;lia
   have hno':∀y∈(bs.map fun x=>((x.2.1,.ref x.1):HRow)),y.1≠r.1:=fun y hy z'=>by
    obtain⟨x',hx',rfl⟩:=Ac.mp hy;have hx2:x'.2∈(rows.take i').map fun r=>(r.1,tn (ps.map (·.2)) r.1):=by rw[<- ebs];exact Ac.mpr ⟨x',hx',rfl⟩
    obtain⟨r',hr2,e⟩:=Ac.mp hx2;have z2:x'.2.1=r.1:=z';rw[<- e] at z2;exact q3w hl.paths hr' hr2 z2
   refine⟨_,rfl,_,rfl,B,_,rfl,DPut.t (k:=kP r.1) pdB9.at_ (by rw[q1x];exact s9 _ _ hpb) (by rw[Ab,Ab];exact small' (by lia)),?_⟩;rw[q2d (v:=.ref q2) hno'];have nB:∀(x:Addr) (u:HO),H9 x=some u->(∀kvs,u≠.dT kvs)->upd H9 B (dR ((bs.map fun x=>((x.2.1,.ref x.1):HRow))++[(r.1,.ref q2)])) x=some u:=fun x u e n=>by
    rw[q0c (fun y=>by rw[y,pdB9.at_] at e;cases e;exact n _ rfl)];exact e
   refine⟨bs++[(q2,(r.1,tn (ps.map (·.2)) r.1))],_,rfl,nB _ _ (s9 _ _ hfz) (fun _ y=>by cases y),fun c u hc e=>?_,⟨by rw[q0b,Af (l₁:=bs)];rfl,fun y hy=>?_⟩,by rw[e1,Af,Af,ebs];rfl⟩
   ·rw[q0c (fun y=>by rw[y,hB] at e;cases e)];exact s9 _ _ (kp c u hc e)
   ·rcases Am.mp hy with hy|hy
    ·exact nB _ _ (pdB9.pr y hy) (fun _ y=>by cases y)
    ·rw[Ai.mp hy];exact nB _ _ h9 (fun _ y=>by cases y)
  ·rintro σ' H8 ⟨bs,x3,rfl,hfz,kp,pdB,ebs⟩;rw[Ab,Ab,ql,Bb] at ebs;refine⟨ob,_,hfz,_,rfl,?_⟩;have s8:Same H6 (upd H8 D (qR qs)):=q2f pdD.at_ kp;exact k B bs _ (s6.trans s8) ⟨⟨by rw[q0c hBD];exact pdB.at_,fun y hy=>by rw[q0c (fun z=>by have e:=pdB.pr y hy;rw[z,hfz] at e;cases e)];exact pdB.pr y hy⟩,ebs⟩
def spIsRow:Sp:=fun vs H Q _=>∃R ws,vs=[.ref R]/\ML H R ws/\∀H',Same H H'->Q (.bl true) H'
abbrev q7f:Stmt:=top 50
theorem sc_is_row:FnScope ["_law_row", "_law_move"] ["_law_row"] (defScope q7f):=⟨rfl,rfl,rfl,by decide +kernel,rfl,by decide +kernel,by decide +kernel⟩
theorem z8l(D:Df K mg "_law_is_row" q7f ["_law_row"])(T:Txt mg):Cal P w K mg base "_law_is_row" 1 ["_law_row"] spIsRow:=by
 refine D.cal sc_is_row (fun vs H Q E h=>?_) (fun f cdv A outer s H vs Q E hr h=>?_)
 ·obtain⟨R,ws,rfl,_⟩:=h;rfl
 ·obtain⟨R,ws,rfl,ml,k⟩:=h;refine⟨_,(q0d (q1e (q6f (@q5x _ _ _ K rfl (q0m (x2h K rfl) (by rfl) T.b_isinstance (by decide +kernel) (q0a (pv 0) (q0a (z1q (by rfl) T.b_list (by decide +kernel) (show RelV (.ty "list") _ from rfl)) q0e))) (fun _=>rfl))) (q0f (q0l q4e)) q0n) (q0d (q1f Bi rfl (@q3a _ _ _ _ K rfl (pv 0)) (q0h (i:=1) sc_is_row.nd rfl (by first|exact Or.inl rfl|exact Or.inr rfl)) (q0f (q1e (pt_j (@PW.pt _ _ _ (q9u (q6f (@q5x _ _ _ K rfl (q0m (x2h K rfl) (by rfl) T.b_isinstance (by decide +kernel) (q0a (pv 1) (q0a (z1q (by rfl) T.b_tuple (by decide +kernel) (show RelV (.ty "tuple") _ from rfl)) q0e))) (fun _=>rfl))) (q9u (q0k (ne_k K rfl hr) (q0m (q4f K rfl) (by rfl) T.b_len Ck (q0a (pv 1) q0e)) q0g (nomark _)) (q7k (q6f (@q5x _ _ _ K rfl (q0m (all_k K rfl rfl) (by rfl) T.b_all (by decide +kernel) (q0a (q3c ["_law_path"] [] rfl (@q3a _ _ _ _ K rfl (pv 1)) (fun _ _ _ _ _=>(q0h (i:=0) (show(["_law_path"]:List Str).Nodup by decide +kernel) rfl (by first|exact Or.inl rfl|exact Or.inr rfl))) (fun _ _ _ _ _=>q5e) (fun _ _ _ _ _=>(q0m (x2h K rfl) (by rfl) T.b_isinstance (by decide +kernel) (q0a (pv 0) (q0a (z1q (by rfl) T.b_tuple (by decide +kernel) (show RelV (.ty "tuple") _ from rfl)) q0e))))) q0e)) (fun _=>rfl)))))))) (q0f (q0l q4e)) q0n))) (q0f (q0l q4e)))),?_⟩;refine⟨_,rfl,_,_,_,true,rfl,TyOf.lst ml.at_,rfl,true,rfl,iteF ?_⟩;refine⟨_,rfl,.inl ⟨R,rfl,⟨_,SqL.of ml.at_⟩,?_⟩⟩;refine q2j (fun i σ' H'=>∃x1,σ'=[some (.ref R),x1]/\Same H H') ⟨none,rfl,Same.refl H⟩ (fun i σ' H' _ x=>by obtain⟨_,_,s'⟩:=x;exact SqL.of (s' _ _ ml.at_)) ?_ ?_
  ·rintro i v σ' H1 hv ⟨x1,rfl,s1⟩;obtain⟨z,hz,rfl⟩:∃z,ws[i]?=some z/\v=.ref z.1:=by
    rw[Ae] at hv;cases e:ws[i]? with
    |none=>rw[e] at hv;cases hv
    |some z=>rw[e] at hv;cases hv;exact⟨z,rfl,rfl⟩
   obtain⟨A1,B1,g1,g2,g3⟩:=(ml.same s1).pr z (Ag hz);refine⟨fun bb H'=>bb=false/\Same H1 H',?_,?_⟩
   ·rintro bb H' ⟨rfl,s'⟩;exact iteF ⟨_,rfl,s1.trans s'⟩
   refine⟨_,rfl,_,_,_,true,rfl,TyOf.tup g1,rfl,true,rfl,iteF ?_⟩;refine⟨_,rfl,_,_,rfl,.inr ⟨_,SqT.of g1,rfl⟩,.inl ⟨rfl,_,rfl,iteF ?_⟩⟩;refine⟨_,rfl,.inr (.inl ⟨z.1,rfl,⟨_,SqT.of g1⟩,fun D2 hD2=>?_⟩)⟩;have sD:=(Same.refl H1).new (o:=.lst []) hD2;refine z6e (xs:=[V.ref A1,.ref B1]) (fun j ys H21=>ys=List.replicate j (V.bl true)/\Same H1 H21/\H21 D2=some (.lst ys)/\j<=2) ⟨rfl,sD,q0b,Bl _⟩ (fun j ys H21 x=>⟨x.2.2.1,SqT.of (x.2.1 _ _ g1)⟩) ?_ ?_
   ·rintro j ys H21 v hv ⟨rfl,s21,hHD,hj⟩;have hjl:j<2:=(Aj.mp hv).1;have tv:∃e xs,v=.ref e/\H21 e=some (.tup xs):=by
     rcases Sk j 1 with h|h
     ·obtain rfl:j=0:=by lia
      cases hv;exact⟨A1,_,rfl,s21 _ _ g2⟩
     ·obtain rfl:j=1:=by lia
      cases hv;exact⟨B1,_,rfl,s21 _ _ g3⟩
    obtain⟨e,xs,rfl,he⟩:=tv;exact⟨_,rfl,_,_,_,true,rfl,TyOf.tup he,rfl,hHD,small' (by rw[Ql];lia),by rw[List.replicate_succ'],s21.put hD2,q0b,hjl⟩
   rintro ys H21 ⟨rfl,s21,hHD,_⟩;refine⟨D2,List.replicate 2 true,rfl,SqL.of (by rw[List.map_replicate];exact hHD),true,rfl,rfl,s21⟩
  ·rintro σ' H1 ⟨x1,rfl,s1⟩;exact k H1 s1
end
end K
set_option maxHeartbeats 4000000
namespace K
open PySem L2 TX SB HM
section
variable{P:Program}{w:World}{K:Ak}{mg:Str->Option Value}{base:Heap}
theorem x4b{bl:Bool}{rows:List Rw}{ms:List Mv}(gw:GoodW rows ms)(hl:Hl bl rows):okMs ms:=fun m hm=>by
 obtain⟨kk,hk,_⟩:=(gw.all m hm).th;exact⟨hl.ok _ hk,(gw.all m hm).ok⟩
theorem z3v{rows:List Rw}(nd:(rows.map (·.1)).Nodup):∀{l m:List Rw},(∀r∈l,r∈rows)->(∀r∈m,r∈rows)->l.map (·.1)=m.map (·.1)->l=m
 |[],[],_,_,_=>rfl
 |[],_::_,_,_,h=>by cases h
 |_::_,[],_,_,h=>by cases h
 |a::l,b::m,h1,h2,h=>by
  rw[Aw,Aw] at h;injection h with e1 e2;rw[q0t (f:=fun r:Rw=>r.1) nd (h1 a At) (h2 b At) e1,z3v nd (fun r hr=>h1 r (An _ hr)) (fun r hr=>h2 r (An _ hr)) e2]
theorem x0s{ms hs:List Mv}(nd:(ms.map (·.1)).Nodup)(p:hs.Perm ms):plc hs=plc ms:=by
 funext x;have nd2:(hs.map (·.1)).Nodup:=(p.map _).nodup_iff.mpr nd;by_cases h:x∈ms.map (·.1)
 ·obtain⟨m,hm,rfl⟩:=Ac.mp h;rw[q8k nd hm,q8k nd2 (p.mem_iff.mpr hm)]
 ·rw[q5b h,q5b fun z=>h ((p.map _).mem_iff.mp z)]
theorem GoodW.perm{rows:List Rw}{ms hs:List Mv}(g:GoodW rows ms)(p:hs.Perm ms):GoodW rows hs:=⟨fun m hm=>g.all m (p.mem_iff.mp hm),(p.map _).nodup_iff.mpr g.nd⟩
theorem z8m{l m:List Rw}(p:l.Perm m)(nd:(m.map (·.1)).Nodup)(s1:(l.map (·.1)).Pairwise (fun a b=>pLt b a=false))(s2:(m.map (·.1)).Pairwise (fun a b=>pLt b a=false)):l=m :=
 z3v nd (fun r hr=>p.mem_iff.mp hr) (fun r hr=>hr) (q4l (p.map _) ((p.map _).nodup_iff.mpr nd) s1 s2)
structure CallsL (P:Program) (w:World) (K:Ak) (mg:Str->Option Value) (base:Heap) (c:Addr):Prop where
 draw:Cal P w K mg base "_law_draw" 1 ["_law_feed", "_law_many"] spDraw
 rows:Cal P w K mg base "_law_rows" 4 ["_law_feed", "_law_blind", "_law_most"] spRows
 good_wishes:Cal P w K mg base "_law_good_wishes" 5 ["_law_feed", "_law_rows_here", "_law_blind", "_law_most"] (spGoodW P w)
 in_order:Cal P w K mg base "_law_in_order" 3 ["_law_feed", "_law_wishes"] spInOrder
 row_for:Cal P w K mg base "row_for" 11 ["hall", "wishes"] (spRowFor c)
 is_row:Cal P w K mg base "_law_is_row" 1 ["_law_row"] spIsRow
 walked:Cal P w K mg base "_law_walked" 3 ["_law_rows_here", "_law_row", "_law_blind"] spWalked
 ends:Cal P w K mg base "_law_ends" 9 ["_law_rows_here", "_law_wishes"] spEnds
 m_rows:MCal P w K mg base c "rows" 2 ["self"] (spHRows c)
 k_Hall:KCal P w K mg base c "Hall" 4 ["self", "rows", "blind"] (spInit c)
theorem z8n{H:Hp}{N N':Addr}{ns ns':List (Addr×Mv)}{rows:List Rw}{bl:Bool}{msF W' W:List Mv}{Q:VK}(hl:Hl bl rows)(g:Gd bl rows msF)(e:∀u∈rows.map (·.1),plc msF u=plc W' u)(e2:plc W'=plc W)(a:NwD H N ns rows (tn msF))(b:NwD H N' ns' rows (tn W))(k:Q (.bl false) H):rNeDD (.ref N) (.ref N') H Q:=by
 have et:∀r∈rows,tn msF r.1=tn W r.1:=fun r hr=>by
  show thenP (plc msF) 7 r.1=thenP (plc W) 7 r.1;rw[<- e2];exact(q8o (f:=plc msF) hl g.gw e (z2s hr)).symm
 refine⟨N,N',_,_,rfl,rfl,a.pd.at_,b.pd.at_,?_,fun r hr=>?_,k⟩
 ·have l1:=congrArg List.length a.e;have l2:=congrArg List.length b.e;rw[Ab,Ab] at l1 l2 ⊢;lia
 ·obtain⟨x,hx,rfl⟩:=Ac.mp hr;have hx2:x.2∈rows.map fun r=>(r.1,tn msF r.1):=by rw[<- a.e];exact Ac.mpr ⟨x,hx,rfl⟩
  obtain⟨r0,hr0,ex⟩:=Ac.mp hx2;have hy2:(r0.1,tn W r0.1)∈ns'.map (·.2):=by rw[b.e];exact Ac.mpr ⟨r0,hr0,rfl⟩
  obtain⟨y,hy,ey⟩:=Ac.mp hy2;have hxp:=a.pd.pr x hx;have hyp:=b.pd.pr y hy;rw[<- ex] at hxp;rw[show y.2=(r0.1,tn W r0.1) from ey] at hyp;refine⟨(y.2.1,.ref y.1),Ac.mpr ⟨y,hy,rfl⟩,?_,x.1,y.1,tn msF r0.1,rfl,rfl,hxp,by rw[et r0 hr0];exact hyp,(z1k hl g (Ac.mpr ⟨r0,hr0,rfl⟩)).low⟩;show y.2.1=x.2.1;rw[show y.2=(r0.1,tn W r0.1) from ey,<- ex]
def spLaw(K:Ak):Sp:=fun vs H Q _=>∃(a:Addr) (ns:List Int),vs=[.ref a]/\SqL K H a (ns.map V.int)/\ns.length<=63/\∀H',Q (.bl true) H'
abbrev q3z:Stmt:=top 51
theorem sc_law:FnScope ["_law_script", "_law_feed", "_law_k", "_law_blind", "_law_rows_here", "_law_wishes", "_law_hall", "_law_row", "_law_again"] ["_law_script"] (defScope q3z):=⟨rfl,rfl,rfl,by decide +kernel,rfl,by decide +kernel,by decide +kernel⟩
theorem x0t{c:Addr}(T:Txt mg)(C:CallsL P w K mg base c)(f:Addr)(cdv:Value)(A:Around)(outer:List Env)(s:Shared)(H:Hp)(vs:List V)(Q:VK)(E:XK)(hr:Room 11 (A.deeper (PyProof.Rows.envOfC "law" (defScope q3z) s.heap.objs.size f cdv)))(h:spLaw K vs H Q E):
  ∃t,PSs (cxOf CX0 P w K mg base ["_law_script", "_law_feed", "_law_k", "_law_blind", "_law_rows_here", "_law_wishes", "_law_hall", "_law_row", "_law_again"] "law" (defScope q3z) f cdv A outer s H E).nox (defBody q3z) t/\t { nx:=fun _ H'=>Q .non H',rt:=Q } (L2.start ["_law_script", "_law_feed", "_law_k", "_law_blind", "_law_rows_here", "_law_wishes", "_law_hall", "_law_row", "_law_again"] vs) H:=by
  obtain⟨sc,ns,rfl,hS,hns,k⟩:=h;refine⟨_,(q0d (q0j (i:=1) sc_law.nd rfl (by first|exact Or.inl rfl|exact Or.inr rfl) (q1t (q0a (q2l (x1a K rfl) (by rfl) T.b_list (by decide +kernel) (q0a (pv 0) q0e)) (q0a q0g (q0a q0g q0e))))) (q0d (q1f Bi rfl (q3o rfl T.b_range (q0a (q0m (z5n rfl) (by rfl) T.b_max (by decide +kernel) (q0a q0g (q0a (q0m (z5o rfl) (by rfl) T.b_min (by decide +kernel) (q0a q0g (q0a (q0m (q4f K rfl) (by rfl) T.b_len Ck (q0a (pv 0) q0e)) q0e))) q0e))) q0e)) (q0h (i:=2) sc_law.nd rfl (by first|exact Or.inl rfl|exact Or.inr rfl)) (q0d (q0j (i:=3) sc_law.nd rfl (by first|exact Or.inl rfl|exact Or.inr rfl) (q5d (eq_k K rfl hr) (pe_c C.draw hr (q0a (pv 1) (q0a q0g q0e))) q0g (nomark _))) (q0d (q0j (i:=4) sc_law.nd rfl (by first|exact Or.inl rfl|exact Or.inr rfl) (pe_c C.rows hr (q0a (pv 1) (q0a (pv 3) (q0a q0g q0e))))) (q0d (q0j (i:=5) sc_law.nd rfl (by first|exact Or.inl rfl|exact Or.inr rfl) (pe_c C.good_wishes hr (q0a (pv 1) (q0a (pv 4) (q0a (pv 3) (q0a q0g q0e)))))) (q0d (q0j (i:=6) sc_law.nd rfl (by first|exact Or.inl rfl|exact Or.inr rfl) (pe_k C.k_Hall hr (q0a (pv 4) (q0a (pv 3) q0e)))) (q0d (q0j (i:=7) sc_law.nd rfl (by first|exact Or.inl rfl|exact Or.inr rfl) (pe_c C.row_for hr (q0a (pv 6) (q0a (pe_c C.in_order hr (q0a (pv 1) (q0a (pv 5) q0e))) q0e)))) (q0d (q1e (pt_j (@PW.pt _ _ _ (q9u (q6f (@q5x _ _ _ K rfl (pe_c C.is_row hr (q0a (pv 7) q0e)) (fun _=>rfl))) (q7k (q0k (ne_DD hr) (pe_c C.walked hr (q0a (pv 4) (q0a (pv 7) (q0a (pv 3) q0e)))) (pe_c C.ends hr (q0a (pv 4) (q0a (pv 5) q0e))) (nomark _)))))) (q0f (q0l q4e)) q0n) (q0d (q1e (q0k (ne_k K rfl hr) (pe_m0 C.m_rows hr (pv 6)) (q0m (z4q hr) (by rfl) T.b_sorted (by decide +kernel) (q0a (pv 4) q0e)) (nomark _)) (q0f (q0l q4e)) q0n) (q0d (q2b (@bm_k _ _ _ _ _ _ _ _ _ _ _ _ K rfl Cv Dg Dh q1w (pv 7) (q0a (q1g (q0a (q1g (q0a q4h q0e)) (q0a (q1g (q0a q4h q0e)) q0e))) q0e) (by rfl) (by rfl) (by rfl) (by rfl) (by rfl))) (q0d (q0j (i:=8) sc_law.nd rfl (by first|exact Or.inl rfl|exact Or.inr rfl) (pe_c C.row_for hr (q0a (pv 6) (q0a (pe_c C.in_order hr (q0a (pv 1) (q0a (pv 5) q0e))) q0e)))) (q0f (q1e (pt_j (@PW.pt _ _ _ (q9u (q0k (ne_DD hr) (pe_c C.walked hr (q0a (pv 4) (q0a (pv 8) (q0a (pv 3) q0e)))) (pe_c C.ends hr (q0a (pv 4) (q0a (pv 5) q0e))) (nomark _)) (q7k (q0k (ne_k K rfl hr) (pe_c C.row_for hr (q0a (pv 6) (q0a (q1t q0e) q0e))) (q1t q0e) (nomark _)))))) (q0f (q0l q4e)) q0n)))))))))))) (q0f (q0l q4e)))),?_⟩;refine⟨_,rfl,sc,_,rfl,.inl hS,fun b hb=>⟨by show 3<=sizeLine;decide,fun a ha=>?_⟩⟩;have nba:b≠a:=q0i q0b ha;have F:FeedAt (upd (upd H b (.lst (ns.map V.int))) a (.lst [.ref b,.int 0,.int 0])) a b:=⟨⟨0,0,q0b⟩,ns,by rw[q0c nba];exact q0b⟩
  have sS:Same H (upd (upd H b (.lst (ns.map V.int))) a (.lst [.ref b,.int 0,.int 0])):=((Same.refl H).new hb).new ha;generalize hH1:upd (upd H b _) a _=H1;rw[hH1] at F sS;refine⟨_,rfl,_,_,rfl,.inl ⟨_,sS.seq hS,rfl⟩,?_⟩;refine⟨_,_,rfl,_,_,rfl,_,rfl,?_,?_,q4r (fun i σ' H'=>∃x2 x3 x4 x5 x6 x7 x8,σ'=[some (.ref sc),some (.ref a),x2,x3,x4,x5,x6,x7,x8]/\Fd a b H1 H') ⟨none,none,none,none,none,none,none,rfl,Fd.refl F⟩ ?_ ?_⟩
  ·rw[Ab];split<;>split<;>lia
  ·rw[Ab];split<;>split<;>lia
  ·rintro i σ' Hs hi ⟨x2,x3,x4,x5,x6,x7,x8,rfl,fd⟩;have Fs:=fd.feed;refine⟨_,rfl,a,b,_,rfl,Fs,by decide,by decide,fun r0 H2 r00 r01 fd2=>.inl ⟨rfl,?_⟩⟩;generalize decide (V.int r0=V.int 1)=bl;refine⟨_,rfl,_,rfl,a,b,bl,18,rfl,fd2.feed,by decide,by decide,fun L zs H3 fd3 hL rl hl len=>?_⟩;have len20:zs.length<=20:=by lia
   have fd3':=fd2.trans fd3;have hLH:Hs L=none:=fd2.free hL;have hLa:L≠a:=(Fs.na hLH).symm;refine⟨_,rfl,_,rfl,_,rfl,a,b,L,bl,5,zs,rfl,fd3'.feed,rl,hl,by lia,hLa,by decide,by decide,fun W ps H4 fd4 hW pd gw ap=>?_⟩;have fd4':=fd3'.trans fd4;have rl4:=rl.fd fd3'.feed fd4 hLa;have okm:okMs (ps.map (·.2)):=x4b gw hl;have psl:ps.length<=20:=by have:=gw.len;rw[Ab,Ab] at this;lia
   have rows20:(zs.map (·.2)).length<=20:=by rw[Ab];exact len20
   clear fd2 fd3 fd3' fd4 rl hL hW;have rl6:=rl4;have fd6:=fd4';have pd6:=pd;clear rl4 fd4' pd;refine⟨_,rfl,_,rfl,fun h dx hh hdx n=>?_⟩;refine⟨h,dx,L,bl,zs,rfl,q0b,x3n rl6 hh hdx,hl,by lia,fun d H7 hd i1 i2 i3=>⟨rfl,?_⟩⟩;obtain⟨s7,_⟩:=z7t hh hdx hd i3;have ha7:HallAt c H7 h d bl (zs.map (·.2)):=⟨⟨dx,i1⟩,i2⟩
   have fd7:=fd6.same s7;have rl7:=rl6.same s7;have pd7:=pd6.same s7;clear i1 i2 i3 hd s7 hdx n hh fd6 rl6 pd6;have asked:∀{H8:Hp} {M:Addr} {ws:List Zm},HallAt c H8 h d bl (zs.map (·.2))->ML H8 M ws->(ws.map (·.2)).Perm (ps.map (·.2))->GW c H8 h d M bl (zs.map (·.2)) ws/\plc (ws.map (·.2))=plc (ps.map (·.2)):=fun{H8 M ws} h8 ml pm=>by
    have hfun:=x0s gw.nd pm;have wsl:ws.length<=20:=by have:=pm.length_eq;rw[Ab,Ab] at this;lia
    exact⟨⟨h8,hl,by lia,ml,gw.perm pm,by lia,by rw[hfun];exact ap⟩,hfun⟩
   refine⟨_,rfl,_,rfl,_,rfl,a,b,W,ps,rfl,fd7.feed,pd7,gw.nd,okm,by lia,fun M ws H8 fd8 hM ml pm=>?_⟩;have ha8:=z7u ha7 fd7.feed fd8;obtain⟨G8,eg8⟩:=asked ha8 ml pm;have rl8:=rl7.fd fd7.feed fd8 hLa;have pd8:=pd7.fd fd7.feed fd8;have fd8':=fd7.trans fd8;refine⟨h,d,M,bl,_,ws,rfl,G8,fun R rws H9 hR s9 ml9 l60 ds=>?_⟩;obtain⟨⟨msF,wy,ems⟩,_⟩:=ds;have gF:=wy.gd hl;have hRL:R≠L:=fun z=>by rw[z,rl8.at_] at hR;cases hR
   have rl9:=rl8.same s9;have pd9:=pd8.same s9;refine⟨fun bb H'=>bb=false/\Same H9 H',?_,?_⟩;rotate_left
   ·refine⟨_,rfl,R,rws,rfl,ml9,fun H10 s10=>⟨true,rfl,iteF ?_⟩⟩;refine⟨_,rfl,_,rfl,_,rfl,L,R,bl,zs,rws,msF,rfl,rl9.same s10,hl,by lia,ml9.same s10,wy,fun N ns H11 s11 nw=>?_⟩;have s911:=s10.trans s11;refine⟨_,rfl,_,rfl,L,W,bl,zs,ps,rfl,rl9.same s911,hl,by lia,pd9.same s911,gw,fun N2 ns2 H12 s12 nw2=>?_⟩;exact z8n hl gF ems eg8 (nw.same s12) nw2 ⟨_,rfl,rfl,s911.trans s12⟩
   rintro bb H10 ⟨rfl,s10⟩;refine iteF ?_;have s810:=s9.trans s10;have ha10:=ha8.same s810;have rl10:=rl8.same s810;have pd10:=pd8.same s810;have ml10:=ml9.same s10;obtain⟨dx9,hi9⟩:=ha10.i;refine⟨_,rfl,h,dx9,_,rfl,hi9,rfl,h,d,bl,_,rfl,ha10,by lia,fun r hr=>(hl.ok r hr).low,fun L4 zs5 H17 hL4 s17 rl17 pm17 pw17=>?_⟩;have rlL:=rl10.same s17;refine⟨_,rfl,L,zs.map fun z=>(z.1,rR z.2),rfl,by rw[Ap];exact rlL.at_,by rw[Ab];lia,fun z hz=>?_,?_,fun L3 zs3 hL3 pm22 pw22=>?_⟩
   ·obtain⟨y,hy,rfl⟩:=Ac.mp hz;exact⟨rlL.pr y hy,(hl.ok y.2 (Ac.mpr ⟨y,hy,rfl⟩)).low⟩
   ·have:=hl.paths;rw[Ap] at this ⊢;exact this
   obtain⟨zs4,q1,rfl⟩:=SB.perm_map_inv pm22 rfl;rw[Ap] at pw22;rw[show(zs4.map fun z=>((z.1,rR z.2):Zq)).map (fun z=>V.ref z.1)=zs4.map fun z=>V.ref z.1 from by rw[Ap];rfl];have sL:=(Same.refl H17).new (o:=.lst (zs4.map fun z=>V.ref z.1)) hL3;have rl4:RL (upd H17 L3 (.lst (zs4.map fun z=>V.ref z.1))) L3 zs4:=⟨q0b,fun z hz=>PR.same (rlL.pr z (q1.mem_iff.mp hz)) fun T xs e=>sL _ _ e⟩
   have p4:(zs4.map (·.2)).Perm (zs.map (·.2)):=q1.map _;have e3:zs5.map (·.2)=zs4.map (·.2):=z8m (pm17.trans p4.symm) ((p4.map _).nodup_iff.mpr hl.paths) (by rw[Ap];exact pw17) (by rw[Ap];exact pw22);refine x2x (rl17.same sL) rl4 e3 (fun r hr=>(hl.ok r (pm17.mem_iff.mp hr)).low) ⟨_,rfl,iteF ?_⟩;have s1018:=s17.trans sL;generalize upd H17 L3 (.lst (zs4.map fun z=>V.ref z.1))=H18 at s1018;have ml18:=ml10.same s1018;refine⟨_,rfl,.inl ⟨rfl,_,SqL.of ml18.at_⟩,by show 1<=sizeLine;decide,fun q1 hq1=>⟨by show 1<=sizeLine;decide,fun q2 hq2=>⟨by show 2<=sizeLine;decide,fun q3 hq3=>?_⟩⟩⟩;have sq:=(((Same.refl H18).new (o:=.tup [.str "x"]) hq1).new (o:=.tup [.str "y"]) hq2).new (o:=.tup [.ref q1,.ref q2]) hq3;refine⟨R,_,_,rfl,rfl,sq _ _ ml18.at_,by rw[Ab];exact small' (by lia),?_⟩;have s19:∀{o:HO},Same H8 (upd _ R o):=fun{o}=>((s810.trans s1018).trans sq).put (o:=o) hR;generalize hHB:upd _ R _=H19;have s19:Same H8 H19:=by rw[<- hHB];exact s19
   clear hHB sq hq1 hq2 hq3 ml18 s1018 ml10 pd10 rl10 ha10 hi9 s810 s10 rl9 pd9 ml9 s9 rlL rl4 sL rl17;have ha19:=ha8.same s19;have rl19:=rl8.same s19;have pd19:=pd8.same s19;have fd19:=fd8'.same s19;refine⟨_,rfl,_,rfl,_,rfl,a,b,W,ps,rfl,fd19.feed,pd19,gw.nd,okm,by lia,fun M2 ws2 H20 fd20 hM2 ml20 pm2=>?_⟩;have ha20:=z7u ha19 fd19.feed fd20;obtain⟨G20,eg20⟩:=asked ha20 ml20 pm2;have rl20:=rl19.fd fd19.feed fd20 hLa;have pd20:=pd19.fd fd19.feed fd20;have fd20':=fd19.trans fd20;refine⟨h,d,M2,bl,_,ws2,rfl,G20,fun R2 rws2 H21 hR2 s21 ml21 l60' ds2=>?_⟩;obtain⟨⟨msG,wy2,ems2⟩,_⟩:=ds2;have gG:=wy2.gd hl;have rl21:=rl20.same s21;have pd21:=pd20.same s21;refine⟨fun bb H'=>bb=false/\Same H21 H',?_,?_⟩
   ·rintro bb H' ⟨rfl,s'⟩;exact iteF ⟨_,_,_,_,_,_,_,rfl,fd.trans ((fd20'.same s21).same s')⟩
   refine⟨_,rfl,_,rfl,_,rfl,L,R2,bl,zs,rws2,msG,rfl,rl21,hl,by lia,ml21,wy2,fun N ns H22 s22 nw=>?_⟩;refine⟨_,rfl,_,rfl,L,W,bl,zs,ps,rfl,rl21.same s22,hl,by lia,pd21.same s22,gw,fun N2 ns2 H23 s23 nw2=>?_⟩;refine z8n hl gG ems2 eg20 (nw.same s23) nw2 ⟨_,rfl,iteF ?_⟩;have s2123:=s22.trans s23;refine⟨_,rfl,by show 0<=sizeLine;decide,fun E1 hE1=>?_⟩;have sE:=(Same.refl H23).new (o:=.lst []) hE1;have mlE:ML (upd H23 E1 (.lst [])) E1 []:=⟨q0b,fun _ h=>nomatch h⟩
   generalize upd H23 E1 (.lst [])=H24 at sE mlE;have GE:GW c H24 h d E1 bl (zs.map (·.2)) []:=⟨((ha20.same s21).same s2123).same sE,hl,by lia,mlE,⟨(fun _ h=>nomatch h),.nil⟩,Bl _,by show(((zs.map (·.2)).map (·.1)).map fun p=>fold bl p).Nodup;rw[Ap];exact hl.nd⟩
   refine⟨h,d,E1,bl,_,[],rfl,GE,fun R3 rws3 H25 hR3 s25 ml25 _ ds3=>?_⟩;have no3:rws3=[]:=by
    obtain⟨_,D3,rs3,_,hD3,rg3,len3⟩:=ds3;have d0:D3=[]:=Id.mpr fun x hx=>((hD3 x).mp hx).2 rfl
    have r0:rs3=[]:=Id.mpr fun x hx=>by
     obtain⟨p,hp⟩:=rg3.is.mp hx;obtain⟨y,hy⟩:=hp.dom;exact((q1b hl).mp hy).2.1 rfl
    rw[d0,r0,Ab] at len3;exact Hy.mp len3
   subst no3;refine⟨by show 0<=sizeLine;decide,fun E2 hE2=>?_⟩;have sE2:=(Same.refl H25).new (o:=.lst []) hE2;exact ne_row (zs:=[]) (ml25.same sE2) ⟨q0b,(fun _ h=>nomatch h)⟩ (fun _ h=>nomatch h) ⟨_,rfl,rfl,((s2123.trans sE).trans s25).trans sE2⟩
  ·rintro σ' H' ⟨x2,x3,x4,x5,x6,x7,x8,rfl,fd⟩;exact k _
end
end K
set_option maxHeartbeats 4000000
namespace K
open PySem L2 TX SB HM
theorem df_mk{K:Ak}{mg:Str->Option Value}{h:Heap}{x:Str}{st:Stmt}{ps:List Str}{f:Addr}{oc:Value}{od an:Option Addr}{osl:Array (Option Value)}{kV doc pm cdv ct:Value}(X:K.In h)(G:h.Ns Dm mg)(a:W.nsIn K Dm x=some (some (.ref f)))(l:K.lookup f=some ⟨oc,od,.func (Ip x x (defArgs st) (defBody st) (defScope st) .none kV doc pm an cdv ct),osl⟩)(c:Lj K cdv x=true)(k:Hi K (.ref f)=true)(hb:∀(kV doc pm:Value) (an:Option Addr) (cdv ct:Value) (us:List Value),us.length=ps.length->bindArgs (Ip x x (defArgs st) (defBody st) (defScope st) .none kV doc pm an cdv ct) ⟨us,[]⟩=pure (ps.zip us)):Df K mg x st ps :=
 ⟨f,_,z0e l c k,W.mg_of X G a,(z0e (st:=st) l c k).binds hb⟩
theorem mf_mk{K:Ak}{C:Addr}{m qual:Str}{st:Stmt}{ps:List Str}{f:Addr}{oc:Value}{od an:Option Addr}{osl:Array (Option Value)}{kV doc pm cdv ct:Value}(a:Fu K (.ref C) m=some (some (.ref f)))(l:K.lookup f=some ⟨oc,od,.func (Ip m qual (defArgs st) (defBody st) (defScope st) .none kV doc pm an cdv ct),osl⟩)(c:Lj K cdv qual=true)(k:Hi K (.ref f)=true)(i:Ub K (.ref f)=true)(hb:∀(kV doc pm:Value) (an:Option Addr) (cdv ct:Value) (us:List Value),us.length=ps.length->bindArgs (Ip m qual (defArgs st) (defBody st) (defScope st) .none kV doc pm an cdv ct) ⟨us,[]⟩=pure (ps.zip us)):Mf K C m qual st ps :=
 ⟨⟨f,_,z0e l c k,⟨a,i,k⟩,(z0e (st:=st) l c k).binds hb⟩⟩
theorem len_1{us:List Value}(h:us.length=1):∃x0,us=[x0]:=by
 match us,h with
 |[x0],_=>exact⟨x0,rfl⟩
theorem len_2{us:List Value}(h:us.length=2):∃x0 x1,us=[x0,x1]:=by
 match us,h with
 |[x0,x1],_=>exact⟨x0,x1,rfl⟩
theorem len_3{us:List Value}(h:us.length=3):∃x0 x1 x2,us=[x0,x1,x2]:=by
 match us,h with
 |[x0,x1,x2],_=>exact⟨x0,x1,x2,rfl⟩
theorem len_4{us:List Value}(h:us.length=4):∃x0 x1 x2 x3,us=[x0,x1,x2,x3]:=by
 match us,h with
 |[x0,x1,x2,x3],_=>exact⟨x0,x1,x2,x3,rfl⟩
theorem len_5{us:List Value}(h:us.length=5):∃x0 x1 x2 x3 x4,us=[x0,x1,x2,x3,x4]:=by
 match us,h with
 |[x0,x1,x2,x3,x4],_=>exact⟨x0,x1,x2,x3,x4,rfl⟩
theorem all_mk{lw:W.OpenLaw}{w:World}{K:Ak}{h:Heap}{mg:Str->Option Value}{fa:Addr}(X:K.In h)(G:h.Ns Dm mg)(hfa:mg "law" = some (.ref fa)){f33:Addr}{od33 an33:Option Addr}{sl33:Array (Option Value)}{oc33 kV33 dc33 pm33 cd33 ct33:Value}{cHall:Addr}{fminit:Addr}{odminit anminit:Option Addr}{slminit:Array (Option Value)}{ocminit kVminit dcminit pmminit cdminit ctminit:Value}{dtminit:Addr}{tdminit:Option Addr}{tsminit:Array (Option Value)}{tnminit:Nat}(D_alike:Df K mg "alike" q9j ["one", "other"])(D_carried:Df K mg "carried" q5o ["path", "moved", "place"])(D_is_wish:Df K mg "is_wish" q5l ["hall", "path", "place", "places"])(D_wished_places:Df K mg "wished_places" q2h ["hall", "wishes"])(D_all_places:Df K mg "all_places" q3i ["hall", "wishes"])(D_meetings:Df K mg "meetings" q4m ["hall", "wishes"])(D_ask_wishes:Df K mg "ask_wishes" q3k ["hall", "wishes"])(D_things_that_move:Df K mg "things_that_move" q1s ["places"])(D_next_ones:Df K mg "next_ones" q3x ["hall", "places"])(D_asked_next_ones:Df K mg "asked_next_ones" q1z ["hall", "wishes"])(D_from_thing_on:Df K mg "from_thing_on" q2i ["path", "nexts"])(D_rings:Df K mg "rings" q9r ["hall", "wishes"])(D_chains:Df K mg "chains" q7b ["hall", "wishes"])(D_path_behind:Df K mg "path_behind" q2z ["path", "row"])(D_spare_name:Df K mg "spare_name" q3m ["drawer", "paths", "row"])(D_put_move:Df K mg "put_move" q4p ["row", "path", "place"])(D_row_for:Df K mg "row_for" q5p ["hall", "wishes"])(D_draw:Df K mg "_law_draw" z2h ["_law_feed", "_law_many"])(D_name_signs:Df K mg "_law_name_signs" q3f [])(D_text:Df K mg "_law_text" z2i ["_law_feed", "_law_signs", "_law_size"])(D_a_name:Df K mg "_law_a_name" q6x ["_law_feed"])(D_fold:Df K mg "_law_fold" z2j ["_law_name", "_law_blind"])(D_rows:Df K mg "_law_rows" z2k ["_law_feed", "_law_blind", "_law_most"])(D_other_case:Df K mg "_law_other_case" q3j ["_law_feed", "_law_name"])(D_some_of:Df K mg "_law_some_of" q5m ["_law_feed", "_law_things", "_law_many"])(D_free_place:Df K mg "_law_free_place" q3l ["_law_feed", "_law_marks", "_law_path", "_law_taken", "_law_blind"])(D_good_wishes:Df K mg "_law_good_wishes" q2y ["_law_feed", "_law_rows_here", "_law_blind", "_law_most"])(D_in_order:Df K mg "_law_in_order" q4n ["_law_feed", "_law_wishes"])(D_then:Df K mg "_law_then" q7e ["_law_places", "_law_path"])(D_let:Df K mg "_law_let" z8h ["_law_now", "_law_marks", "_law_path", "_law_place", "_law_blind"])(D_walked:Df K mg "_law_walked" q7d ["_law_rows_here", "_law_row", "_law_blind"])(D_ends:Df K mg "_law_ends" z2t ["_law_rows_here", "_law_wishes"])(D_is_row:Df K mg "_law_is_row" q7f ["_law_row"])(a33:W.nsIn K Dm "law" = some (some (.ref f33)))(l33:K.lookup f33=some ⟨oc33,od33,.func (Ip "law" "law" (defArgs q3z) (defBody q3z) (defScope q3z) .none kV33 dc33 pm33 an33 cd33 ct33),sl33⟩)(c33:Lj K cd33 "law" = true)(k33:Hi K (.ref f33)=true)(T:Txt mg)(gcHall:W.nsIn K Dm "Hall" = some (some (.ref cHall)))(pgcHall:Ob K cHall Str.empty=true)(hdcHall:Pr K cHall=true)(pocHall:Te K cHall=true)(sacHall:Fu K (.ref cHall) "__setattr__" = some (some (.builtin "object.__setattr__")))(nacHall_blind:Fu K (.ref cHall) "blind" = some none)(nacHall_marks:Fu K (.ref cHall) "marks" = some none)(aminit:Fu K (.ref cHall) "__init__" = some (some (.ref fminit)))(lminit:K.lookup fminit=some ⟨ocminit,odminit,.func (Ip "__init__" "Hall.__init__" (defArgs q0x) (defBody q0x) (defScope q0x) (.ref dtminit) kVminit dcminit pmminit anminit cdminit ctminit),slminit⟩)(cminit:Lj K cdminit "Hall.__init__" = true)(kminit:Hi K (.ref fminit)=true)(iminit:Ub K (.ref fminit)=true)(mkcHall:Uu K cHall=true)(kccHall:Hi K (.ref cHall)=true)(tminit:K.lookup dtminit=some ⟨.type "tuple",tdminit,.seq #[.bool false] tnminit,tsminit⟩)(M_is_drawer:Mf K cHall "is_drawer" "Hall.is_drawer" q2c ["self", "path"])(M_is_one_place:Mf K cHall "is_one_place" "Hall.is_one_place" q1r ["self", "one", "other"])(M_rows:Mf K cHall "rows" "Hall.rows" q3v ["self"])(M_there:Mf K cHall "there" "Hall.there" q3g ["self", "place"]):
  ∃fd:FuncData,(∀(s:Shared) (v:Value),Qk s fd ⟨[v],[]⟩ [("_law_script",v)])/\∀base:Heap,K.In base->base.Ns Dm mg->FnOk lw.prog w K mg base CX0 12 fa fd ["_law_script"] (spLaw K):=by
 have e:=hfa.symm.trans (W.mg_of X G a33);cases e;have clcHall:Cls K cHall:=⟨pgcHall,hdcHall,pocHall,sacHall⟩
 have K_Hall:Kf K mg cHall "Hall" "Hall.__init__" q0x ["self", "rows", "blind"]:=⟨⟨fminit,_,ocminit,odminit,.ref dtminit,kVminit,dcminit,pmminit,anminit,cdminit,ctminit,slminit,rfl,lminit,cminit,⟨mkcHall,aminit,iminit,kccHall⟩,fun s us Y hl=>by obtain⟨_,_,_,rfl⟩:=len_3 (by rw[El] at hl;exact hl:us.length=3);exact W.binds_K Y rfl tminit rfl rfl rfl,fun s us Y hl=>by obtain⟨_,_,rfl⟩:=len_2 (by rw[Al] at hl;exact Nat.succ.inj hl:us.length=2);exact W.binds_K Y rfl tminit rfl rfl rfl⟩,W.mg_of X G gcHall,clcHall⟩
 have FL:=z0e (st:=q3z) l33 c33 k33;refine⟨Ip "law" "law" (defArgs q3z) (defBody q3z) (defScope q3z) .none kV33 dc33 pm33 an33 cd33 ct33,fun s v=>.of_eq rfl,fun base _ _=>?_⟩;have hk:Hk K cHall:=⟨clcHall,nacHall_blind,nacHall_marks⟩
 have c1:=x3b (P:=lw.prog) (w:=w) (base:=base) D_draw T;have c2:=x3d (P:=lw.prog) (w:=w) (base:=base) D_text T c1;have c3:=q9g (P:=lw.prog) (w:=w) (base:=base) D_name_signs;have c4:=z7q (P:=lw.prog) (w:=w) (base:=base) D_a_name T ⟨c1,c2,c3⟩;have c5:=x3f (P:=lw.prog) (w:=w) (base:=base) D_fold T;have c6:=x3g (P:=lw.prog) (w:=w) (base:=base) D_rows T ⟨c1,c4,c5⟩;have c7:=x0e (P:=lw.prog) (w:=w) (base:=base) D_alike T;have c8:=z1d (P:=lw.prog) (w:=w) (base:=base) M_is_one_place hk T ⟨c7⟩;have c9:=x0f (P:=lw.prog) (w:=w) (base:=base) M_there hk T ⟨c8⟩;have c10:=x3h (P:=lw.prog) (w:=w) (base:=base) K_Hall hk T ⟨c9⟩;have c11:=x0g (P:=lw.prog) (w:=w) (base:=base) M_rows hk T;have c12:=z1g (P:=lw.prog) (w:=w) (base:=base) M_is_drawer hk T;have c13:=z4v (P:=lw.prog) (w:=w) (base:=base) D_is_wish T ⟨there1 c9,c12⟩;have c14:=z4w (P:=lw.prog) (w:=w) (base:=base) D_wished_places T ⟨c13⟩;have c15:=x3i (P:=lw.prog) (w:=w) (base:=base) D_all_places T ⟨c14,c11⟩;have c16:=x3k (P:=lw.prog) (w:=w) (base:=base) D_meetings T ⟨c15,c8⟩;have c17:=q9l (P:=lw.prog) (w:=w) (base:=base) D_other_case T ⟨c1⟩;have c18:=z4x (P:=lw.prog) (w:=w) (base:=base) D_some_of T ⟨c1⟩;have c19:=q9m (P:=lw.prog) (w:=w) (base:=base) D_ask_wishes T ⟨c16⟩;have c22:=x3q (P:=lw.prog) (w:=w) (base:=base) D_free_place T ⟨c1,c4,c5⟩;have c23:=q7j (P:=lw.prog) (w:=w) (base:=base) D_good_wishes T ⟨c1,c5,c22,c17,c18⟩;have c24:=z2m (P:=lw.prog) (w:=w) (base:=base) D_in_order T ⟨c18⟩;have d1:=x0m (P:=lw.prog) (w:=w) (base:=base) D_things_that_move T;have d2:=x3t (P:=lw.prog) (w:=w) (base:=base) D_next_ones T ⟨d1,there1 c9⟩;have d3:=x0n (P:=lw.prog) (w:=w) (base:=base) D_asked_next_ones T ⟨c19,c15,d1,d2⟩;have d4:=x3v (P:=lw.prog) (w:=w) (base:=base) D_from_thing_on T;have d5:=x0o (P:=lw.prog) (w:=w) (base:=base) D_rings T ⟨d3,d4⟩;have e1:=z7z (P:=lw.prog) (w:=w) (base:=base) D_chains T ⟨d3,d4⟩;have e2:=z5a (P:=lw.prog) (w:=w) (base:=base) D_carried T;have e3:=z8f (P:=lw.prog) (w:=w) (base:=base) D_path_behind T ⟨e2⟩;have e4:=x3y (P:=lw.prog) (w:=w) (base:=base) D_put_move T ⟨e3⟩;have e5:=x0q (P:=lw.prog) (w:=w) (base:=base) D_spare_name T ⟨e3⟩;have e6:=z5b (P:=lw.prog) (w:=w) (base:=base) D_row_for T ⟨c19,c15,e1,d5,e4,e5⟩;have e7:=ok_let (P:=lw.prog) (w:=w) (base:=base) D_let T ⟨c5⟩;have e8:=z8i (P:=lw.prog) (w:=w) (base:=base) D_walked T ⟨e7⟩;have e9:=z3u (P:=lw.prog) (w:=w) (base:=base) D_then T 6;have e10:=x4a (P:=lw.prog) (w:=w) (base:=base) D_ends T ⟨e9⟩;have e11:=z8l (P:=lw.prog) (w:=w) (base:=base) D_is_row T;have CL:CallsL lw.prog w K mg base cHall:=⟨c1,c6,c23,c24,e6,e11,e8,e10,c11,c10⟩
 exact FL.ok sc_law (fun vs H Q E h=>by obtain⟨a,ns,rfl,_⟩:=h;rfl) (fun cdv A outer s H vs Q E hr h=>x0t T CL _ cdv A outer s H vs Q E hr h)
theorem walk{l:W.OpenLaw}{q:Program}{loose:List Str}{XP:(Str->Option Value)->Heap->Prop}{YP:World->Heap->Prop}{d:DefRec}{K:Params->Ak}(hn:l.most=some 63)(hdf:d.params.defaults=[])(hY:∀(w:World) (h:Heap),YP w h->(K w.params).In h)(F:∀(w:World) (mg:Str->Option Value) (fa:Addr) (h:Heap),(K w.params).In h->h.Ns Dm mg->mg d.name=some (.ref fa) ->
   ∃fd:FuncData,(∀(s:Shared) (u:Value),Qk s fd ⟨[u],[]⟩ [("_law_script",u)])/\∀base:Heap,(K w.params).In base->base.Ns Dm mg->FnOk l.prog w (K w.params) mg base CX0 12 fa fd ["_law_script"] (spLaw (K w.params))):
  W.WalkO q loose XP YP l.row.toRowW d [] (fun f vs=>Ui f vs) :=
 L2.walk_of (n:=63) (k:=12) (x := "_law_script") (CX:=fun _=>CX0) (sp:=fun w=>spLaw (K w.params)) hn (by decide) hdf ⟨rfl,by decide,by decide,rfl⟩ hY F (fun _ _ a ns hl _ hS=>⟨a,ns,rfl,hS,hl,fun _=>rfl⟩) fun _ _ _ _ _ z=>z
end K
namespace K
open PySem PySem.W PyProof.Rows
abbrev loose:List Str:=[Ao "_wall",Ao "HallError",Ao "NoHall",Ao "NoThing",Ao "NoDrawer",Ao "Taken",Ao "Fixed",Ao "NoWish",Ao "Meets",Ao "alike",Ao "carried",Ao "Hall",Ao "is_wish",Ao "wished_places",Ao "all_places",Ao "meetings",Ao "ask_wishes",Ao "things_that_move",Ao "next_ones",Ao "asked_next_ones",Ao "from_thing_on",Ao "rings",Ao "chains",Ao "path_behind",Ao "spare_name",Ao "put_move",Ao "row_for",Ao "_law_draw",Ao "_law_name_signs",Ao "_law_other_signs",Ao "_law_text",Ao "_law_a_name",Ao "_law_fold",Ao "_law_rows",Ao "_law_other_case",Ao "_law_some_of",Ao "_law_free_place",Ao "_law_good_wishes",Ao "_law_in_order",Ao "_law_then",Ao "_law_let",Ao "_law_walked",Ao "_law_ends",Ao "_law_is_row"]
abbrev vw:Program:=view PySem.Challenge.pw_renamehall_k43_whole_nothing_laid_over [51]
abbrev xt(s:Shared):Bool:=xlAt vw [] s&&recOk [] s
end K
open PySem PySem.W PyProof.Rows
local macro_rules | `(tactic| o_head $H) => `(tactic| (
  refine holds_open (q := K.vw) (loose := K.loose) (Xt := K.xt) (XP := XL K.vw []) (Yf := Hook.obs $H) (Ya := Hook.val $H) (YP := Hook.says $H) (N := 60000) ?hl (Hook.of $H) (Hook.keeps $H) (fun s e => xl_of s (Ri.mp e).1) XL.keeps
    (by rfl) (by rfl) (by rfl) (fun s e => recFacts_of (Ri.mp e).2) (by rfl) (by first | assumption | decide +kernel) (by decide +kernel) ⟨rfl, rfl, rfl, rfl, rfl, by decide +kernel⟩ ?hw ?hc))
set_option maxRecDepth 100000 in
set_option maxHeartbeats 0 in
theorem PySem.Challenge.cw_renamehall_k43_whole_nothing_laid_over_holds : PySem.Challenge.rw_renamehall_k43_whole_nothing_laid_over.Holds := by
  w_on; o_law; k_head; (case hw => w_witness2)
  (case hl =>
    refine HD.left (by kernel_rfl) (by rfl) (fun _ => by kernel_rfl) fun w os => ?_
    change (segRunT Sl PySem.Challenge.pw_renamehall_k43_whole_nothing_laid_over w 11 (some (.ref 6)) 0 60000 (HD.bootT w.params os) (topStub PySem.Challenge.pw_renamehall_k43_whole_nothing_laid_over)).map (fun r => ((staticsOk (Jr PySem.Challenge.pw_renamehall_k43_whole_nothing_laid_over.main.body) (boot_heap w.params) r.2.1.abs.heap && namesBound PySem.Challenge.pw_renamehall_k43_whole_nothing_laid_over r.2.1.abs.heap && gensDone r.2.1.abs && laidKept (boot_heap w.params) r.2.1.abs.heap), openSeen K.vw K.loose (Jr PySem.Challenge.pw_renamehall_k43_whole_nothing_laid_over.main.body) K.xt true r.2.1.abs, _)) = some (true, openGood K.vw K.loose, _)
    unfold K.xt K.vw
    rw [PySem.W.Fast.te10110043849684766642, PySem.W.Fast.te4187177175401517315, PySem.W.Fast.te14364793385576792824, PySem.W.Fast.te5923862056798008813, PySem.W.Fast.te1698387293707867150]
    kernel_rfl)
  k_fill
  refine K.walk (l := PySem.Challenge.rw_renamehall_k43_whole_nothing_laid_over) rfl rfl (fun w h Y => PySem.W.kIn_of Y) ?F
  case F =>
    intro w mg fa h KX G hmg
    refine' K.all_mk KX G hmg (K.df_mk KX G ?_ ?_ ?_ ?_ ?_) (K.df_mk KX G ?_ ?_ ?_ ?_ ?_) (K.df_mk KX G ?_ ?_ ?_ ?_ ?_) (K.df_mk KX G ?_ ?_ ?_ ?_ ?_) (K.df_mk KX G ?_ ?_ ?_ ?_ ?_) (K.df_mk KX G ?_ ?_ ?_ ?_ ?_) (K.df_mk KX G ?_ ?_ ?_ ?_ ?_) (K.df_mk KX G ?_ ?_ ?_ ?_ ?_) (K.df_mk KX G ?_ ?_ ?_ ?_ ?_) (K.df_mk KX G ?_ ?_ ?_ ?_ ?_) (K.df_mk KX G ?_ ?_ ?_ ?_ ?_) (K.df_mk KX G ?_ ?_ ?_ ?_ ?_) (K.df_mk KX G ?_ ?_ ?_ ?_ ?_) (K.df_mk KX G ?_ ?_ ?_ ?_ ?_) (K.df_mk KX G ?_ ?_ ?_ ?_ ?_) (K.df_mk KX G ?_ ?_ ?_ ?_ ?_) (K.df_mk KX G ?_ ?_ ?_ ?_ ?_) (K.df_mk KX G ?_ ?_ ?_ ?_ ?_) (K.df_mk KX G ?_ ?_ ?_ ?_ ?_) (K.df_mk KX G ?_ ?_ ?_ ?_ ?_) (K.df_mk KX G ?_ ?_ ?_ ?_ ?_) (K.df_mk KX G ?_ ?_ ?_ ?_ ?_) (K.df_mk KX G ?_ ?_ ?_ ?_ ?_) (K.df_mk KX G ?_ ?_ ?_ ?_ ?_) (K.df_mk KX G ?_ ?_ ?_ ?_ ?_) (K.df_mk KX G ?_ ?_ ?_ ?_ ?_) (K.df_mk KX G ?_ ?_ ?_ ?_ ?_) (K.df_mk KX G ?_ ?_ ?_ ?_ ?_) (K.df_mk KX G ?_ ?_ ?_ ?_ ?_) (K.df_mk KX G ?_ ?_ ?_ ?_ ?_) (K.df_mk KX G ?_ ?_ ?_ ?_ ?_) (K.df_mk KX G ?_ ?_ ?_ ?_ ?_) (K.df_mk KX G ?_ ?_ ?_ ?_ ?_) ?_ ?_ ?_ ?_ ⟨mg_none_of KX G ?_, mg_none_of KX G ?_, mg_none_of KX G ?_, mg_none_of KX G ?_, mg_none_of KX G ?_, mg_none_of KX G ?_, mg_none_of KX G ?_, mg_none_of KX G ?_, mg_none_of KX G ?_, mg_none_of KX G ?_, mg_none_of KX G ?_, mg_none_of KX G ?_, mg_none_of KX G ?_, mg_none_of KX G ?_⟩ ?_ ?_ ?_ ?_ ?_ ?_ ?_ ?_ ?_ ?_ ?_ ?_ ?_ ?_ ?_ (K.mf_mk ?_ ?_ ?_ ?_ ?_ ?_) (K.mf_mk ?_ ?_ ?_ ?_ ?_ ?_) (K.mf_mk ?_ ?_ ?_ ?_ ?_ ?_) (K.mf_mk ?_ ?_ ?_ ?_ ?_ ?_)
    all_goals try (first | k_is | kit_is | rfl | decide +kernel | (intro _ _ _ _ _ _ us hl; first | (obtain ⟨_, rfl⟩ := K.len_1 hl; rfl) | (obtain ⟨_, _, rfl⟩ := K.len_2 hl; rfl) | (obtain ⟨_, _, _, rfl⟩ := K.len_3 hl; rfl) | (obtain ⟨_, _, _, _, rfl⟩ := K.len_4 hl; rfl) | (obtain ⟨_, _, _, _, _, rfl⟩ := K.len_5 hl; rfl) | (cases us with | nil => rfl | cons _ _ => cases hl)))
