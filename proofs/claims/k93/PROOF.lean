import PyProof.Rows.All
import Wide.All
import OpenK.AllK
import Wide.FinOn
import Lean
import PyProof.EqAt
import PyProof.EqKinds
import PyProof.TupleCall
import PySem.Challenge.RW_renamehall_k93_whole_wishes_turned_about
import KE.IntTextLaws
import KE.KIsAll
import PyProof.ExcArgsOwn
import PyProof.ExcBaseAll.ValueError
import PyProof.ExcClass2
import PyProof.ExcInit
import PyProof.InstStore
import PyProof.Rows.CatchBare
import PyProof.Rows.CatchOwn
import PyProof.StationsW
import PyProof.SumWalk
import PyProof.ReprRoads
set_option Elab.async false
set_option linter.all false
set_option maxRecDepth 100000
set_option maxHeartbeats 80000000
set_option genSizeOf false
local macro_rules|`(tactic|lia)=>`(tactic|first|with_reducible assumption|exact Nat.le_trans (by with_reducible assumption) (by decide)|exact Nat.lt_of_le_of_lt (by with_reducible assumption) (by decide)|fail)
local macro_rules|`(tactic|trivial)=>`(tactic|first|exact Or.inl rfl|exact Or.inr rfl|exact Or.inr (Or.inl rfl)|exact Or.inr (Or.inr rfl)|decide +kernel|assumption|(refine⟨rfl,rfl,rfl,?_,rfl,?_,?_⟩<;>decide +kernel)|fail)
def gR0{j q:Type}{f:j->q}{l:List j}{i:Nat}{v}(h:(l.map f)[i]?=some v):∃z,l[i]?=some z/\v=f z:=by
 rw[List.getElem?_map] at h;cases e:l[i]? with
 |none=>rw[e] at h;cases h
 |some z=>rw[e] at h;cases h;exact⟨z,rfl,rfl⟩
open Array renaming getElem?_eq_getElem→Ed,length_toList→Fi,getElem?_toList→Ht,getElem?_eq_none→Me,getD_eq_getD_getElem?→Ot,forIn_toList→Ov,perm_iff_toList_perm→Pd,toList_map→Qh
open Array.Perm renaming refl→Wl
open Bool renaming false_eq_true→Bh,false_ne_true→Bq,not_true→Ft,and_eq_true_iff→Jw,and_eq_true→Mq,eq_iff_iff→Ni,not_false→Oj,and_self→Pe,or_false→To
open Function renaming comp_def→Vh
open Int renaming toNat_natCast→Ff,emod_lt_of_pos→Kx,emod_nonneg→Nm,le_refl→Rp
open List renaming length_map→Aa,mem_map→Ac,map_append→Ae,mem_of_getElem?→Af,map_map→Ah,getElem?_eq_some_iff→Aj,mem_singleton→Ak,getElem?_map→Am,length_append→An,mem_append→Ao,mem_cons_of_mem→Ap,mem_cons_self→Au,map_cons→Ay,take_length→Ba,mem_cons→Bb,take_add_one→Bc,getLast?_eq_some_getLast→Be,length_dropLast→Bf,length_take→Bg,length_pos_iff→Bi,size_toArray→Bj,dropLast_concat→Bk,mem_iff_getElem?→Bl,mem_append_right→Bo,getElem?_append_left→Bt,nodup_cons→Bu,map_congr_left→By,getLastD_concat→Ce,getElem?_append_right→Cg,getElem?_eq_getElem→Ci,length_cons→Cj,mem_append_left→Cp,append_nil→Cu,getLastD_eq_getLast?→Cv,getLast?_eq_getElem?→Cw,mem_filter→Dg,length_filter_le→Dh,filter_cons_of_neg→Di,filter_cons_of_pos→Dj,length_drop→Du,nodup_append→Dv,filter_append→Dy,not_mem_nil→Ea,length_singleton→El,mem_of_getLast?→Et,take_of_length_le→Fb,append_assoc→Fh,exists_cons_of_length_eq_add_one→Fl,dropLast_concat_getLast→Fy,getLast?_map→Ga,length_eq_zero_iff→Ha,take_zero→Hg,pairwise_cons→Ho,find?_cons→Hu,length_nil→Hx,pairwise_map→Ic,mem_of_mem_take→Ii,map_id→Im,filterMap_cons→Jc,lookup_cons→Jy,getD_eq_getElem?_getD→Ke,perm_append_singleton→Kg,perm_ext_iff_of_nodup→Kh,mem_filterMap→Kr,zip_cons_cons→Lb,sublist_append_left→Le,take_succ→Lk,drop_zero→Lm,getElem?_cons_succ→Lp,take_sublist→Lq,mapM_toArray→Lw,foldl_append→Lx,getElem?_inj→Lz,head?_eq_getElem?→Mi,map_take→Ml,map_drop→Mm,all_eq_true→Mr,dropLast_eq_take→Na,perm_append_comm→Nd,getLast?_append→Nv,dropLast_subset→Ny,take_append_of_le_length→Oc,replicate_succ→Od,length_reverse→Of,mem_range→Og,getElem?_drop→Oy,any_cons→Pa,take_nil→Pf,flatten_cons→Pj,mem_of_find?_eq_some→Pu,drop_length→Qj,length_erase_of_mem→Qk,nil_sublist→Ql,any_eq_true→Qm,map_reverse→Qn,mem_reverse→Qo,pairwise_singleton→Qt,of_mem_zip→Qx,forIn_cons→Qy,nil_append→Rf,getElem?_set_self→Rh,length_pos_of_mem→Rz,length_replicate→Se,take_take→Sj,take_append_drop→Sk,getElem?_toArray→Sn,mem_of_mem_head?→Sr,getElem?_reverse→Ss,getLast?_reverse→Su,getElem?_set_ne→Sv,mem_of_mem_drop→Td,mem_erase_of_ne→Te,mem_of_mem_tail→Tf,map_eq_nil_iff→Tv,filter_sublist→Tw,filterMap_map→Ue,zip_nil_right→Uk,getElem?_take→Uo,getLast?_cons→Ur,append_of_mem→Us,any_eq_false→Uu,zip_nil_left→Va,ext_getElem?→Ve,drop_sublist→Vf,reverse_perm→Vg,zipIdx_cons→Vy,foldl_cons→Wg,any_append→Wo,find?_some→Wq
open List.Pairwise renaming imp_of_mem→Gv
open List.Perm renaming append_right→Mh
open List.Sublist renaming refl→Ma,append→Oe
open Nat renaming le_refl→Aq,ne_of_lt→Bm,zero_le→Bv,lt_of_lt_of_le→Cb,le_trans→Cc,ne_of_gt→Ew,le_succ_of_le→Fg,lt_irrefl→Fq,lt_succ_self→He,le_succ→Hh,le_of_lt→Hm,succ_le_succ→Iq,lt_succ_of_lt→Jo,le_of_eq→Ks,lt_of_le_of_lt→Kw,sub_zero→La,min_eq_left→Rg,add_le_add_left→Tr,min_self→Ui,lt_or_ge→Um,sub_self→Uq,not_lt→Wn
open Nat.succ renaming inj→Nz
open Ne renaming symm→Ex
open Option renaming map_eq_some_iff→Dn,map_some→Km,isSome_map→Lu,isSome_iff_exists→Qc,getD_none→Vq
open Option.some renaming inj→Bx
open Prod renaming ext→Vm
open Prod.mk renaming inj→Vl
open PyProof.Rows renaming lo1→Cf,wpS_bind→Cr,slot_tuple_getitem→Dw,wpS_pure→Eb,get?_update_seq→En,callWith_type1→Es,seqObj→Iw,StrsAre→Jd,SortSt→Jf,envOfC→Ku,SortKind→Ky,wpS_forRange→Kz,listItems_at→Lc,up1→Mu,AllBare→Mw,mirror→Nq,collect_list→Pr,IntsAre→Px,pendingOf→Ra,subscriptTail_builtinR→Rl,mirror_perm→Rq,wpS_reverse→Rr,wpS_get→Si,Constant_none→Tg,listUpdate_at→Tp,lt_str→Ts,args_tuple_getitem→Ug,tuples'→Ut,seqEpoch_at→Vk,failedOf→Vu,wpS_mono→Vv,keyKind'→Vz,Subscript_→Wd,wpS_modify→Wk
open PySem renaming wpAny_bind→Ab,wpAny_pure→Ad,Shared→Ag,Program→Aw,starEach→Bp,NameKind→Bs,wpAny_call_entry→Bw,wpAny_newObj_type→Bz,wpAny_callSpecial?_slot→Ca,boot_len→Cd,wpAny_field→Cm,wpAny_holding→Cq,PyData→Cs,wpAny_truthy_bool→Cy,compareOp→Cz,wpAny_setField_rec→Dd,Builtin→Dk,wpAny_mono→Dl,wpAny_seqItems→Dp,codeAny_builtin→Dq,plainId_quiet→Ds,mainGlobals→Dz,rawInt→Ee,sysModules→Eh,wpAny_dictEntries→Ej,wpAny_attempt→Ek,Paired→Er,sizeLine_eq→Ey,wpAny_isInstance→Fn,tupleKind_room_in1→Fp,codeAny→Fu,wpAny_dictEpoch→Gb,wpAny_updateSeq→Ge,mem_of_lookup→Gg,backTo→Gi,wpAny_typeOf→Gj,wpAny_rule→Gk,wpAny_letGo→Gq,compEnvC→Gs,wpAny_typeNameOfWhole_itemiter→Gu,attributeBase→Gw,wpAny_typeNameOfWhole_keyiter→Gx,wpAny_typeNameOfWhole_valiter→Gy,pyNext→Hb,binaryOp→Hd,wpAny_of_eq→Hi,bootBuiltins→Hj,wpAny_passesOwn→Hr,builtinLookup_eq_fast→Hv,wpAny_notOrdered_dict→Hw,argBest→Hy,behindInMarks→Hz,wpAny_standAt→Ia,wpAny_typeNameOf_itemiter→Ig,tupleKind→Ij,strIterType→Il,codeAny_mono→Ip,wpAny_comprehension_free→Ir,wpAny_typeNameOf_keyiter→Iu,wpAny_forIn_list→Iv,tupleKeyHash→Ja,wpAny_typeNameOf_valiter→Jb,wpAny_Call_Name_kw→Je,keywordEach→Jh,foldedSetIterable→Jm,wpAny_pyIter_slot→Jn,isSubtype_stop→Jq,isSubtype_type→Js,wpAny_setField→Jt,wpAny_fieldsOf→Jv,assignEach→Jx,pyIter→Kb,find?_eq_fast→Kd,sliceBounds→Ki,importedModules→Kj,wpAny_execs_nil→Kk,letOwnedTupleGo→Kl,wpAny_specialOf→Kn,typeLookup_type→Ko,swapsWith→Kq,holding→Lg,call_meets→Lh,firstArgMember→Li,wpAny_tryCatch→Ll,wpAny_pyIter_list→Ls,IsPart→Mc,IsPair→Md,wpAny_isOneOf_itemiter→Mg,FuncData→Mn,backToKw→Mo,checkBuiltinCall→Ms,DictEntry→Mx,updateSeq→Mz,isSubtype_tuple_tuple→Nb,wpAny_isOneOf_valiter→Nc,wpAny_updateSeq_pair→Nk,codeAny_call_builtin→Nn,Keyword→Oh,wpAny_newTuple→Oi,getMethod→Om,wpAny_tupleItemsOf→Ou,wpAny_onRaise→Pb,wpAny_handled→Pc,wpAny_assign_Name→Pg,entryOfKey→Pl,standAt→Pw,callerA→Py,Within→Pz,wpAny_execs_cons→Qa,noFill_tuple_add→Qd,call_meetsIn→Qf,entryFor→Qg,wpAny_ite_split→Rb,wpAny_pyNext_list_item→Ri,subscripted→Rk,wpAny_Assign_Subscript→Rn,wpAny_throw→Ro,richCompare→Ru,wpAny_isTrue_Compare1→Sa,wpAny_pyNext_list_end→Sb,BindsTo→Sd,exec_Assign_Name_used→Sf,wpAny_isOneOf_keyiter→Sh,wpAny_loadName_local→Sw,wpAny_load→Sx,wpAny_call→Sy,typeLookup→Sz,typeIs_str→Ta,PlainAttrs→Tb,wpAny_newFunctionEnv→Tc,seq_tuple_add→Tj,wpAny_loadName_cell→Tq,treeTable→Tx,concat_meets→Ud,wpAny_setItem_heap→Uh,eqIsQuiet→Ul,wpAny_sequenceKey→Uv,wpAny_pyIter_strU→Ux,wpAny_pyIter_enum→Uy,wpAny_Call_method→Uz,eqIsQuiet_byValue→Vd,seqIndex_of→Vj,callWith→Vo,wpAny_Name→Wa,typeIs_int→Wf,call→Wi,closureFor→Wj,OsState→Wr
open PySem.Around renaming under_plainId→Ct,under→Qb
open PySem.AutoSeq1 renaming wpAny_loadPart'→Nu,sub_list_list→Rx
open PySem.Builtin.Builtins renaming bindParams→Ow
open PySem.Builtin.Dict renaming showsAll→Ju,pendingCount→Pq,noArgs→Tu
open PySem.Builtin.Dict_items renaming ownsTuple→Em,ownedTupleFields→Lj,newIterator→Nr,dictOf→Pp
open PySem.Builtin.List renaming listItems→Ez,listExtendWith→Hq,listSameRef→Iy,listTooLong→Qe
open PySem.Builtin.Slice renaming slicePlaces→Ie,sliceAdjust→Pn
open PySem.Builtin.SmallTypes renaming nextOf→Po
open PySem.Builtin.Str renaming occurrences→Qp
open PySem.Builtin.Tuple renaming tupleHashOf→Ih,tupleItemsOf→Kc
open PySem.Calls renaming callWith_builtin→Ji,spliced_cons→Kt,evalArgs_plain→Nj,Name_function_global→Oz,spliced_nil→Ph
open PySem.Code renaming isFrame→Ub
open PySem.F renaming plainAttrs_list→Dx,slot_dict_itemiterator_next→Ef,slot_list_append→Eo,type_list_append→Ep,plainAttrs_str→Fe,slot_dict_valueiterator_next→Fj,slot_dict_keyiterator_next→Fx,plain_extend_loop→Gh,slot_dict_get→Gn,plainAttrs_dict→Gz,plain_min_loop→Hf,entry_dict_get→Jj,slot_str_lower→Jk,type_str_lower→Jl,slot_enumerate_next→Jr,slot_list_reversed→Jz,args_tuple_add_2→Kv,slot_list_getattribute→Ld,entry_tuple_add→Ln,slot_tuple_hash→Ly,slot_tuple_add→Mb,args_dict_valueiterator_next_1→Mt,args_dict_itemiterator_next_1→Nf,entry_dict_valueiterator_next→Ng,slot_zip_next→Nl,args_dict_keyiterator_next_1→Np,entry_dict_itemiterator_next→Nt,slot_tuple_eq→Nw,slot_list_lt→Nx,entry_dict_keyiterator_next→Oa,slot_dict_itemiterator_iter→Ob,entry_min_loop→Qi,args_enumerate_next_1→Qq,args_dict_get_2→Qr,args_dict_get_3→Qs,slot_dict_values_iter→Qu,slot_dict_items→Qv,type_dict_items→Qw,entry_enumerate_next→Rm,slot_dict_items_iter→Rt,args_list_lt_2→Ry,type_dict_get→Sg,slot_dict_len→Sl,entry_list_lt→Sm,slot_str_join→So,type_str_join→Sq,entry_extend_loop→Tt,args_zip_next_1→Uw,plain_list_iadd→Vc,entry_zip_next→Vs,slot_dict_iter→Vt,slot_int_rmul→Wh
open PySem.Heap renaming get?_push_of_some→Ai,get?_push_size→As,lt_size→Ax,get?_update_other→Co,SameBut→Fm,size_push→Fv,get?_update_self→Gm,ExtBut→Ol
open PySem.Heap.SameBut renaming update→Eg,refl→Lv
open PySem.Obj renaming mapSeq→Dm,data_mapFields→Hn,mapFields→Mj,isFreed_of_fields→My,cls_mapFields→Pk
open PySem.Paired renaming length→Eu
open PySem.PassesOwn renaming never→Br
open PySem.PyData renaming canLayAll0→Cn,eqv→Fw,canLay0→Fz,depthAll→Gf,depthAll→Gp,eqvAll→Ib,depth→Iz,canLay0→Ka,canLayAll0→Lo,depth→Oq,strOk→Uj
open PySem.SeqAt renaming EqAt→Ei,eqAt_reads→Vx
open PySem.SeqAt.EqAt renaming str_str→Oo,int_str→Tz,str_int→Ua,same→We
open PySem.Str renaming ofString→Ar
open PySem.Txt renaming lower→Jg,slice→Qz,join→Vr,upper→Wm
open PySem.W renaming Frag→Al,findIn→Gr,emptyDict→Ik,keepIn→Io,fnOf→Jp,instObj→Kp,codeIn→Mp,Frag→Nh,plainGet→Pm,hasDictIn→Rj,plainGet_of→Th,callWith_K→Uc,plainOver→Vi,lookIn→Vn,cellsFrom_some→Vp,isFn→Wb,methodCall_KW→Wc,takerIn→Ws,makesIn→Wt,OpenLaw→Wu
noncomputable abbrev Z3:List PySem.Str:=["hall", "wishes"]
noncomputable abbrev Z4:List PySem.Str:=["_law_script", "_law_feed", "_law_k", "_law_blind", "_law_rows_here", "_law_wishes", "_law_handed", "_law_first", "_law_second", "_law_ends_here", "_law_back", "_law_path", "_law_drawer", "_law_turned", "_law_sizes", "_law_there", "_law_again", "_law_walked_here"]
noncomputable abbrev Z5:List PySem.Str:=["_law_feed", "_law_marks", "_law_path", "_law_taken", "_law_blind"]
noncomputable abbrev Z6:List PySem.Str:=["_law_now", "_law_marks", "_law_path", "_law_place", "_law_blind"]
noncomputable abbrev Z7:List PySem.Str:=["_law_feed", "_law_many"]
noncomputable abbrev Z8:List PySem.Str:=["_law_feed", "_law_rows_here", "_law_blind", "_law_most"]
noncomputable abbrev Z9:List PySem.Str:=["_law_places", "_law_path"]
noncomputable abbrev Za:List PySem.Str:=["self", "path"]
noncomputable abbrev Zb:List PySem.Str:=["_law_feed", "_law_things", "_law_many"]
noncomputable abbrev Zc:List PySem.Str:=["_law_feed", "_law_signs", "_law_size"]
noncomputable abbrev Zd:List PySem.Str:=["_law_name", "_law_blind"]
noncomputable abbrev Ze:List PySem.Str:=["_law_rows_here", "_law_row", "_law_blind"]
noncomputable abbrev Zf:List PySem.Str:=["hall", "path", "place", "places"]
noncomputable abbrev Zg:List PySem.Str:=["_law_feed", "_law_blind", "_law_most"]
noncomputable abbrev Zh:List PySem.Str:=["path", "places"]
noncomputable abbrev Zi:List PySem.Str:=["path", "moved", "place"]
noncomputable abbrev Zj:List PySem.Str:=["_law_feed", "_law_wishes"]
noncomputable abbrev Zk:List PySem.Str:=["_law_rows_here", "_law_wishes"]
noncomputable abbrev Zn:List PySem.Str:=["self", "one", "other"]
noncomputable abbrev Zo:List PySem.Str:=["self", "place"]
noncomputable abbrev Zs:List PySem.Str:=["_law_feed", "_law_name"]
noncomputable abbrev Zu:List PySem.Str:=["self", "rows", "blind"]
noncomputable abbrev Zv:List PySem.Str:=["hall", "path", "place"]
noncomputable abbrev Zw:List PySem.Str:=["row", "path", "place"]
noncomputable abbrev Zx:List PySem.Str:=["drawer", "paths", "row"]
noncomputable abbrev Zy:List PySem.Str:=["self", "path", "place"]
noncomputable abbrev Zz:List PySem.Str:=["hall", "wishes", "row"]
noncomputable abbrev Y0:List PySem.Str:=["path", "row"]
noncomputable abbrev Y1:List PySem.Str:=["path", "mark", "places"]
noncomputable abbrev Y2:List PySem.Str:=["_law_path", "_law_mark", "_law_walked_here"]
noncomputable abbrev Y3:List PySem.Str:=["_law_one"]
noncomputable abbrev Y4:List PySem.Str:=["one", "other"]
noncomputable abbrev Y5:List PySem.Str:=["self"]
noncomputable abbrev Y6:List PySem.Str:=["hall", "wishes", "places"]
noncomputable abbrev Y7:List PySem.Str:=["hall", "places"]
noncomputable abbrev Y8:List PySem.Str:=["path", "nexts"]
noncomputable abbrev Y9:List PySem.Str:=["path", "mark"]
noncomputable abbrev Yb:List PySem.Str:=["_law_feed"]
noncomputable abbrev Yc:List PySem.Str:=["hall", "row"]
noncomputable abbrev Yd:List PySem.Str:=["places"]
namespace HD
open PySem PySem.W PyProof.Rows
def end0:(∃f,endAt 0 t=some f)/\through t=true\/endAt 0 t=none/\through t=false:=by
 unfold endAt through;obtain⟨h,j,q,stack⟩:=t;cases stack with
 |cons a r=>exact .inr ⟨by cases h<;>rfl,rfl⟩
 |nil =>
  cases h with
  |pure f =>
   cases f with
   |done f=>simp_all
   |_=>simp_all
  |_=>exact .inr ⟨rfl,rfl⟩
theorem z4l:∀{n} {s s'} {t} {f} {c} {q},segRun tb p w j u 0 n s t=some (f,s',c,q)->topRun tb p w j u n s t=some s'
 |0,_,_,_,_,_,_,h=>by cases h
 |n+1,s,s',t,f,c,q,h=>by
  unfold segRun at h;unfold topRun;rcases end0 (t:=t) with⟨⟨v,e⟩,th⟩|⟨e,th⟩
  ·rw[e] at h;rw[th];cases h;rfl
  ·rw[e] at h;rw[th];dsimp only at h ⊢;cases ok:stepOk j u t with
   |false=>rw[ok] at h;cases h
   |true =>
    rw[ok] at h;dsimp only at h ⊢;cases st:step (denote tb) p w s t with
    |go s1 t1=>rw[st] at h;exact z4l h
    |halt _ _=>rw[st] at h;cases h
noncomputable def mkT(l:List Obj):BT:=(l.foldl (λa  o=>(a.1.ins a.2 o,a.2+1)) (BT.nil,0)).1
noncomputable def bootT (P:Params) (os:Wr):SharedT:=⟨mkT (boot_heap P).objs.toList,11,(boot_heap P).life,#[],boot_drawn,boot_toks,os⟩
def x1e(P)(os):(bootT P os).abs=⟨boot_heap P,#[],boot_drawn,boot_toks,os⟩:=by kernel_rfl
def z7d(P):((boot_heap P).isNs Dz&&(#[]:Array GenState).size==0,(boot_heap P).objs.size,(boot_heap P).nsMap Dz "__annotations__")=(true,11,some (.ref 6)):=by kernel_rfl
def left{Yf:Ag->α}(e:opening p=plainProg p.main.scope.names)(j:Nat.ble 600 N=true)(f:∀s,fenceModules? p s=some s)(h:∀ w   os ,(segRunT Tx p w 11 (some (.ref 6)) 0 N (bootT w.params os) (topStub p)).map (λr=>((staticsOk (Kj p.main.body) (boot_heap w.params) r.2.1.abs.heap&&namesBound p r.2.1.abs.heap&&gensDone r.2.1.abs&&laidKept (boot_heap w.params) r.2.1.abs.heap),
   openSeen q loose (Kj p.main.body) Xt true r.2.1.abs,Yf r.2.1.abs))=some (true,openGood q loose,Ya w)):LeftO p q loose Xt Yf Ya N:=λw=>by
 obtain⟨⟨hp,u,d,k,os⟩,v,B⟩:=Dn.mp (boot_open e j f w);obtain⟨rfl,rfl,rfl,rfl⟩:hp=boot_heap w.params/\u=#[]/\d=boot_drawn/\k=boot_toks:=by simpa using B
 obtain⟨C,D,E⟩:_/\_/\_:=by simpa only[Prod.mk.injEq] using z7d w.params
 obtain⟨⟨fl,st,c,M⟩,G,H⟩:=Dn.mp (h w os);obtain⟨I,J,L⟩:_/\_/\_:=by simpa only[Prod.mk.injEq] using H
 have r:=z4l (segRun_of G);rw[x1e] at r;have t:topFrom Tx p w N ⟨boot_heap w.params,#[],boot_drawn,boot_toks,os⟩=some st.abs:=by
  unfold topFrom;rw[C,D,E,r];show(match staticsOk (Kj p.main.body) (boot_heap w.params) st.abs.heap&&namesBound p st.abs.heap&&gensDone st.abs&&laidKept (boot_heap w.params) st.abs.heap with|true=>_|false=>_)=_;rw[I]
 unfold openEnds;rw[v];show(topFrom Tx p w N _).map _=_;rw[t];exact congrArg some (Vm J L)
end HD
section
namespace K
open PySem PySem.W PyProof.Rows
noncomputable abbrev loose:List Str:=[Ar "_wall",Ar "HallError",Ar "NoHall",Ar "NoThing",Ar "NoDrawer",Ar "Taken",Ar "Fixed",Ar "NoWish",Ar "Meets",Ar "Broken",Ar "alike",Ar "carried",Ar "Hall",Ar "is_wish",Ar "wished_places",Ar "all_places",Ar "meetings",Ar "ask_wishes",Ar "path_then",Ar "goal",Ar "things_that_move",Ar "next_ones",Ar "asked_next_ones",Ar "from_thing_on",Ar "rings",Ar "chains",Ar "copied",Ar "is_made",Ar "walk",Ar "path_behind",Ar "spare_name",Ar "put_move",Ar "row_for",Ar "does",Ar "_law_draw",Ar "_law_name_signs",Ar "_law_other_signs",Ar "_law_text",Ar "_law_a_name",Ar "_law_fold",Ar "_law_rows",Ar "_law_other_case",Ar "_law_some_of",Ar "_law_free_place",Ar "_law_good_wishes",Ar "_law_in_order",Ar "_law_then",Ar "_law_let",Ar "_law_walked",Ar "_law_ends",Ar "_law_is_row"]
noncomputable abbrev vw:Aw:=view PySem.Challenge.pw_renamehall_k93_whole_wishes_turned_about [59]
noncomputable abbrev xt(s:Ag):Bool:=xlAt vw [] s&&recOk [] s
end K
open PySem PySem.W PyProof.Rows
local macro_rules | `(tactic| o_head $H) => `(tactic| (
  refine holds_open (q := K.vw) (loose := K.loose) (Xt := K.xt) (XP := XL K.vw []) (Yf := Hook.obs $H) (Ya := Hook.val $H) (YP := Hook.says $H) (N := 60000) ?hl (Hook.of $H) (Hook.keeps $H) (λs e => xl_of s (Jw.mp e).1) XL.keeps
    (by rfl) (by rfl) (by rfl) (λs e => recFacts_of (Jw.mp e).2) (by rfl) (by first | assumption | decide +kernel) (by decide +kernel) ⟨rfl, rfl, rfl, rfl, rfl, by decide +kernel⟩ ?hw ?hc))
set_option maxRecDepth 100000 in
set_option maxHeartbeats 0 in
theorem K.pre(h:False):PySem.Challenge.rw_renamehall_k93_whole_wishes_turned_about.Holds:=by w_on;o_law;k_head;all_goals exact h.elim
noncomputable abbrev K.zas:List Nat:=[2,3,15,17,18,20,21,22,29,30,31,32,35,42,44,45,47,48,49,50,51,54,61,63,64,66,67,68,69,70,73,80,82,83,85,86,87,88,89,92,99,101,102,104,105,106,107,108,111,118,120,121,123,124,125,126,127,130,137,139,140,142,143,144,145,146,149,156,158,159,161,162,163,164,165,168,175,177,178,180,181,182,183,184,187,189,190,192,193,194,196,197,199,200,208,209,212,213,214,216,217,219,220,221,223,224,226,227,228,230,231,233,234,235,237,238,240,241,242,244,245,247,248,249,251,252,254,255,256,258,259,261,262,263,265,266,268,269,270,272,273,275,276,277,280,281,282,284,285,287,288,289,291,292,294,295,296,297,298,299,300,303,305,306,308,309,310,312,313,315,316,317,320,321,322,324,325,327,328,329,331,332,334,335,336,338,339,341,342,343,346,347,348,351,352,353,355,356,358,359,360,362,363,365,366,367,369,370,372,373,374,376,377,379,380,381,384,385,386,388,389,391,392,393,395,396,398,399,400,402,403,405,406,407,409,410,412,413,414,417,418,419,421,422,424,425,426,428,429,431,432,433,436,437,438,440,441,443,444,445,447,448,450,451,459,462,463,464,466,467,469,470,471,473,474,476,477,478,480,481,483,484,485,488,489,490,492,493,495,496,497,500,501,502,505,506,507,510,511,512,514,515,517,518,519,521,522,524,525,526,528,529,531,532,533,535,536,538,539,545,548,549]
set_option maxRecDepth 100000 in
set_option maxHeartbeats 0 in
theorem K.half0(w:World)(os:Wr):(segRunT Tx PySem.Challenge.pw_renamehall_k93_whole_wishes_turned_about w 11 (some (.ref 6)) 0 60000 (HD.bootT w.params os) (topStub PySem.Challenge.pw_renamehall_k93_whole_wishes_turned_about)).map (λr=>((staticsOk (Kj PySem.Challenge.pw_renamehall_k93_whole_wishes_turned_about.main.body) (boot_heap w.params) r.2.1.abs.heap&&namesBound PySem.Challenge.pw_renamehall_k93_whole_wishes_turned_about r.2.1.abs.heap&&gensDone r.2.1.abs&&laidKept (boot_heap w.params) r.2.1.abs.heap),openSeen K.vw K.loose (Kj PySem.Challenge.pw_renamehall_k93_whole_wishes_turned_about.main.body) K.xt true r.2.1.abs,(kHook K.pre.heap_39 K.zas (λ_=>by kernel_rfl)).obs r.2.1.abs))=some (true,openGood K.vw K.loose,(kHook K.pre.heap_39 K.zas (λ_=>by kernel_rfl)).val w):=by
 unfold K.xt K.vw;rw[PySem.W.Fast.te10110043849684766642,PySem.W.Fast.te4187177175401517315,PySem.W.Fast.te14364793385576792824,PySem.W.Fast.te5923862056798008813,PySem.W.Fast.te3243093115999192444];kernel_rfl
end
set_option Elab.async false
set_option linter.all false
set_option maxRecDepth 100000
namespace L2
open PySem PySem.Spec PyProof.Rows
noncomputable abbrev Key:=Sum Int Str
noncomputable def keyIs:Key->Value->Bool
 |.inl k,v=>Value.isInt k v
 |.inr x,v=>Value.isStrOf x v
noncomputable def keyH(w:World):Key->Int
 |.inl k=>hashInt k
 |.inr x=>hashStr w x
theorem q1o:∀{k} {v},keyIs k v=true->(∃i t,k=Sum.inl i/\v=Value.int i t)\/(∃x t,k=Sum.inr x/\v=Value.str x t)
 |.inl i,v,h=>by
  obtain⟨t,e⟩:=Value.isInt_shape (k:=i) (v:=v) h;exact .inl ⟨i,t,rfl,e⟩
 |.inr x,v,h=>by
  obtain⟨t,e⟩:=Value.isStrOf_shape h;exact .inr ⟨x,t,rfl,e⟩
def z7e(i)(t):keyIs (.inl i) (.int i t)=true:=by simp[keyIs,Value.isInt]
def z7f(x)(t):keyIs (.inr x) (.str x t)=true:=by simp[keyIs,Value.isStrOf]
def key_ll(a b):decide ((Sum.inl a:Key)=Sum.inl b)=(a==b):=by grind
def key_rr(a b):decide ((Sum.inr a:Key)=Sum.inr b)=decide (a=b):=by grind
def key_lr(a)(b):decide ((Sum.inl a:Key)=Sum.inr b)=false:=decide_eq_false (λq=>nomatch q)
def key_rl(a)(b):decide ((Sum.inr a:Key)=Sum.inl b)=false:=decide_eq_false (λq=>nomatch q)
noncomputable def mixKind(prog)(w):PySem.KeyKind prog w Key where
 is:=keyIs
 hash:=keyH w
 inj:=λv a b ha hb=>by
  rcases q1o ha with⟨i,t,rfl,rfl⟩|⟨x,t,rfl,rfl⟩
  ·rcases q1o hb with⟨j,u,rfl,e⟩|⟨y,u,rfl,e⟩
   ·injection e with e1 _;rw[e1]
   ·exact nomatch e
  ·rcases q1o hb with⟨j,u,rfl,e⟩|⟨y,u,rfl,e⟩
   ·exact nomatch e
   ·injection e with e1 _;rw[e1]
 byValue:=λk v h=>by
  rcases q1o h with⟨i,t,rfl,rfl⟩|⟨x,t,rfl,rfl⟩<;>rfl
 pyHash:=λhv h=>by
  rcases q1o hv with⟨i,t,rfl,rfl⟩|⟨x,t,rfl,rfl⟩
  ·exact wpAny_pyHash_int h
  ·exact wpAny_pyHash_str h
 eqBool:=λhu hv h=>by
  rcases q1o hu with⟨i,t,rfl,rfl⟩|⟨x,t,rfl,rfl⟩
  ·rcases q1o hv with⟨j,u,rfl,rfl⟩|⟨y,u,rfl,rfl⟩
   ·rw[key_ll] at h;exact wpAny_eqBool_int h
   ·rw[key_lr] at h;exact Tz i t y u _ _ _ _ h
  ·rcases q1o hv with⟨j,u,rfl,rfl⟩|⟨y,u,rfl,rfl⟩
   ·rw[key_rl] at h;exact Ua x t j u _ _ _ _ h
   ·rw[key_rr] at h;exact wpAny_eqBool_str h
 «strs» := λk x t v h=>by
  rcases q1o h with⟨i,u,rfl,e⟩|⟨y,u,rfl,e⟩
  ·exact nomatch e
  ·injection e with e1 _
   subst e1
   cases v<;>rfl
def z3c(prog)(w)(i)(t):(mixKind prog w).is (.inl i) (.int i t)=true:=z7e i t
def z3d(prog)(w)(x)(t):(mixKind prog w).is (.inr x) (.str x t)=true:=z7f x t
inductive V where
 |non|bl (b:Bool)|int (i:Int)|str (x:Str)|byt (b:Array UInt8)|flt (b:UInt64)|ref (a:Addr)|ty (n:String)
 deriving DecidableEq
noncomputable def RelV:V->Value->Prop
 |.non,u=>u=Value.none
 |.bl b,u=>u=Value.bool b
 |.int i,u=>∃t,u=Value.int i t
 |.str x,u=>∃t,u=Value.str x t
 |.byt b,u=>∃t,u=Value.bytes b t
 |.flt b,u=>∃t,u=Value.float b t
 |.ref a,u=>u=Value.ref a
 |.ty n,u=>u=Value.type n
noncomputable abbrev Vals:List V->List Value->Prop:=Er RelV
def Vals.length(r:Vals xs us):xs.length=us.length:=Eu r
theorem Vals.get:∀{xs} {us} {i:Nat} {x},Vals xs us->xs[i]?=some x->∃u,us[i]?=some u/\RelV x u
 |_,_,_,_,.nil,e=>by simp at e
 |_,_,0,_,.cons r _,e=>by simp at e;subst e;exact⟨_,rfl,r⟩
 |_,_,i+1,x,.cons _ t,e=>by
  obtain⟨u,f,h⟩:=Vals.get (i:=i) (x:=x) t (by simpa using e);exact⟨u,by simpa using f,h⟩
theorem Vals.set(r:RelV x u):∀{xs} {us}  i ,Vals xs us->Vals (xs.set i x) (us.set i u)
 |_,_,_,.nil=>.nil
 |_,_,0,.cons _ t=>.cons r t
 |_,_,i+1,.cons q t=>.cons q (Vals.set r i t)
def Vals.append(h:Vals xs f)(u:Vals ys j):Vals (xs++ys) (f++j):=by
 induction h with
 |nil=>exact u
 |cons r _ ih=>exact .cons r ih
theorem Vals.take:∀{xs} {us}  n ,Vals xs us->Vals (xs.take n) (us.take n)
 |_,_,0,_=>.nil
 |_,_,_+1,.nil=>.nil
 |_,_,n+1,.cons r t=>.cons r (Vals.take n t)
theorem Vals.drop:∀{xs} {us}  n ,Vals xs us->Vals (xs.drop n) (us.drop n)
 |_,_,0,r=>r
 |_,_,_+1,.nil=>.nil
 |_,_,n+1,.cons _ t=>Vals.drop n t
noncomputable def RelO:Option V->Option Value->Prop
 |some v,some u=>RelV v u
 |none,none=>True
 |_,_=>False
noncomputable def KV:List (κ×V)->List (κ×Value)->Prop:=Er λp   q =>p.1=q.1/\RelV p.2 q.2
noncomputable def kV:Key->V
 |.inl i=>.int i
 |.inr x=>.str x
inductive HO where
 |lst (xs:List V)
 |tup (xs:List V)
 |dK (kvs:List (Key×V))|dT (kvs:List (List Key×V))
 |set (S:Int->Bool) (n:Nat)
 |ins (C dx:Addr) (fs:List (Str×V))
 |own (x:Addr)
 |xd (fs:List (Str×V))
 |met (f x:Addr)
 |rng (lo hi:Int)
 |frz (o:Obj) (u:HO)
 |tbl (ps:Array Value)
 |ext (φ:Heap->Prop)
noncomputable abbrev Hp:=Addr->Option HO
noncomputable def upd(H:Hp)(a:Addr)(o:HO):Hp:=λb=>if b=a then some o else H b
def q0b:upd H a o a=some o:=by unfold upd;rw[if_pos rfl]
def q0d(h:b≠a):upd H a o b=H b:=by unfold upd;rw[if_neg h]
def x4n:upd (upd H a o) a u=upd H a u:=by
 funext b;unfold upd;split<;>rfl
def x4o{H:Hp}(h:H a=some o)(h':H b=some u)(d:o≠u):a≠b:=by grind
def q0j{H:Hp}(h:H a=some o)(h':H b=none):a≠b:=by
 intro e;subst e;rw[h] at h';cases h'
section
variable(P:Aw)(w:World)
noncomputable def ObjOk(H:Hp)(h:Heap)(a:Addr):HO->Prop
 |.lst xs=>xs.length<=sizeLine/\∃(its:List Value) (n:Nat),Vals xs its/\h.get? a=some { cls:=.type "list",data:=.seq its.toArray n }
 |.tup xs=>xs.length<=sizeLine/\∃its,Vals xs its/\IsTup h a its.toArray
 |.dK kvs=>kvs.length<=sizeLine/\(a==Eh)=false/\∃vs,KV kvs vs/\h.DictOf (mixKind P w) a vs
 |.dT kvs=>kvs.length<=sizeLine/\(a==Eh)=false/\∃xs,
   Er (λp   q =>p.1=q.1/\H q.2.1=some (.tup (p.1.map kV))/\RelV p.2 q.2.2) kvs xs /\
   ∃o es ep,h.get? a=some o/\o.ExactDict/\o.data=.dict es ep/\es.toList=xs.map (Pl (Ij (mixKind P w)))/\(xs.map (·.1)).Nodup
 |.set S n=>h.SetOf (intKind P w) a S n
 |.ins C dx fs=>H dx=some (.own a)/\fs.length<=1000/\dx≠a/\h.get? a=some (Kp C dx) /\
   ∃mA,h.Ns1 dx mA/\(∀f,RelO (fs.lookup f) (mA f))/\Pz mA (fs.map (·.1))
 |.own _=>∃o,h.get? a=some o
 |.xd fs=>∃mA,h.Ns1 a mA/\∀f,RelO (fs.lookup f) (mA f)
 |.rng lo hi=>∃t u v,h.get? a=some { cls:=.type "range",data:=.fields #[.int lo t,.int hi u,.int 1 v] }
 |.frz o u=>h.get? a=some o/\ObjOk H h a u
 |.tbl ps=>h.get? a=some { cls:=.none,data:=.fields ps }
 |.met f x=>h.get? a=some (W.methodObj (.ref f) (.ref x))
 |.ext φ=>φ h/\(∃o,h.get? a=some o)/\∀h1 h2,φ h1->(∀o,h1.get? a=some o->h2.get? a=some o)->φ h2
noncomputable def HOk(H:Hp)(h:Heap):Prop:=∀a o,H a=some o->ObjOk P w H h a o
end
section
variable{P:Aw}{w:World}{H H':Hp}{h h':Heap}{a:Addr}{o:HO}
def ObjOk.lt(x:ObjOk P w H h a o):a<h.objs.size:=by
 cases o with
 |lst xs=>obtain⟨_,_,_,_,e⟩:=x;exact Ax e
 |tup xs=>obtain⟨_,_,_,p⟩:=x;exact p.lt
 |dK kvs=>obtain⟨_,_,_,_,o,_,_,e,_⟩:=x;exact Ax e
 |dT kvs=>obtain⟨_,_,_,_,o,_,_,e,_⟩:=x;exact Ax e
 |set S n=>obtain⟨o,_,_,_,e,_⟩:=x;exact Ax e
 |ins C dx fs=>obtain⟨_,_,_,e,_⟩:=x;exact Ax e
 |own y=>obtain⟨_,e⟩:=x;exact Ax e
 |xd fs=>obtain⟨_,⟨_,_,_,e,_⟩,_⟩:=x;exact Ax e
 |rng lo hi=>obtain⟨_,_,_,e⟩:=x;exact Ax e
 |frz ob u=>obtain⟨e,_⟩:=x;exact Ax e
 |tbl ps=>exact Ax (show h.get? a=some _ from x)
 |met f y=>exact Ax (show h.get? a=some _ from x)
 |ext φ=>obtain⟨_,⟨_,e⟩,_⟩:=x;exact Ax e
def Er.mapP{F G:f->j->Prop}{l₁}{l₂}(h:Er F l₁ l₂)(k:∀a b,F a b->G a b):Er G l₁ l₂:=by
 induction h with
 |nil=>exact .nil
 |cons r _ ih=>exact .cons (k _ _ r) ih
def Er.imp'{F G:α->β->Prop}(f:∀a b,F a b->G a b)(r:Er F l₁ l₂):Er G l₁ l₂:=Er.mapP r f
def ObjOk.stay(x:ObjOk P w H h a o)(k:∀b u,(b=a\/H b=some (.own a))->h.get? b=some u->h'.get? b=some u)(ho:∀b,H b=some (.own a)->H' b=some (.own a))(J:∀b xs,H b=some (.tup xs)->H' b=some (.tup xs)):ObjOk P w H' h' a o:=by
 induction o with
 |lst xs=>obtain⟨z,E,n,r,e⟩:=x;exact⟨z,E,n,r,k _ _ (.inl rfl) e⟩
 |tup xs=>obtain⟨z,E,r,j,e,c⟩:=x;exact⟨z,E,r,j,k _ _ (.inl rfl) e,c⟩
 |dK kvs=>obtain⟨z,y,vs,r,j,B,D,e,c⟩:=x;exact⟨z,y,vs,r,j,B,D,k _ _ (.inl rfl) e,c⟩
 |dT kvs =>
  obtain⟨z,y,xs,r,j,B,D,e,c⟩:=x;exact⟨z,y,xs,Er.mapP r λp q z=>⟨z.1,J _ _ z.2.1,z.2.2⟩,j,B,D,k _ _ (.inl rfl) e,c⟩
 |set S n=>obtain⟨j,B,D,t,e,c⟩:=x;exact⟨j,B,D,t,k _ _ (.inl rfl) e,c⟩
 |ins C dx fs =>
  obtain⟨d,z,ne,e,G,⟨I,B,D,L,c⟩,r⟩:=x;exact⟨ho _ d,z,ne,k _ _ (.inl rfl) e,G,⟨I,B,D,k _ _ (.inr d) L,c⟩,r⟩
 |own y=>obtain⟨j,e⟩:=x;exact⟨j,k _ _ (.inl rfl) e⟩
 |xd fs=>obtain⟨G,⟨I,B,D,e,c⟩,r⟩:=x;exact⟨G,⟨I,B,D,k _ _ (.inl rfl) e,c⟩,r⟩
 |rng lo hi=>obtain⟨t,u,v,e⟩:=x;exact⟨t,u,v,k _ _ (.inl rfl) e⟩
 |frz j u ih=>obtain⟨e,q⟩:=x;exact⟨k _ _ (.inl rfl) e,ih q⟩
 |tbl ps =>
  have e:h.get? a=some { cls:=.none,data:=.fields ps }:=x;exact k a _ (.inl rfl) e
 |met f y =>
  have e:=x;exact k a _ (.inl rfl) e
 |ext φ=>obtain⟨p,⟨o,e⟩,st⟩:=x;exact⟨st _ _ p λo q=>k _ _ (.inl rfl) q,⟨o,k _ _ (.inl rfl) e⟩,st⟩
def HOk.lt(x:HOk P w H h)(e:H a=some o):a<h.objs.size:=(x a o e).lt
def HOk.fresh(x:HOk P w H h)(e:h.objs.size<=a):H a=none:=by
 cases q:H a with
 |none=>rfl
 |some u=>exact absurd (Cb (x.lt q) e) (Fq _)
def HOk.kept(x:HOk P w H h)(k:∀b u,h.get? b=some u->h'.get? b=some u):HOk P w H h':=λa o e =>
 (x a o e).stay (λb u _ q=>k b u q) (λ_ q=>q) λ_ _ q=>q
def HOk.laid(x:HOk P w H h)(k:∀b u,h.get? b=some u->h'.get? b=some u)(hp:h.objs.size<=a)(new:ObjOk P w (upd H a o) h' a o):HOk P w (upd H a o) h':=λb u e=>by
 have hn:=x.fresh hp;by_cases f:b=a
 ·subst f;rw[q0b] at e;cases e;exact new
 ·rw[q0d f] at e;exact(x b u e).stay (λc v _ q=>k c v q) (λc q=>by rw[q0d (q0j q hn)];exact q) λc j q=>by rw[q0d (q0j q hn)];exact q
end
noncomputable def Rd(H:Hp)(a:Addr)(u:HO):Prop:=H a=some u\/∃o,H a=some (.frz o u)
def Rd.ok(r:Rd H a u)(x:HOk P w H h):ObjOk P w H h a u:=by
 rcases r with r|⟨o,r⟩
 ·exact x a u r
 ·obtain⟨_,q⟩:=x a _ r;exact q
noncomputable def Mut:Option HO->Prop
 |some (.lst _)=>True
 |some (.dK _)=>True
 |some (.dT _)=>True
 |some (.set _ _)=>True
 |some (.ins _ _ _)=>True
 |some (.ext _)=>True
 |_=>False
section
variable{P:Aw}{w:World}{H:Hp}{h h':Heap}{x e:Addr}{o':HO}
def HOk.write(ok:HOk P w H h)(C:Mut (H x))(J:e=x\/H e=some (.own x))(k:∀b u,b≠e->h.get? b=some u->h'.get? b=some u)(E:∃u,h'.get? e=some u)(new:ObjOk P w (upd H x o') h' x o'):HOk P w (upd H x o') h':=λb u q=>by
 have j:∀c y,H c=some (.own y)->c≠x:=λc y r z=>by subst z;rw[r] at C;exact C
 have B:∀c D,H c=some (.tup D)->c≠x:=λc D r z=>by subst z;rw[r] at C;exact C
 by_cases G:b=x
 ·subst G;rw[q0b] at q;cases q;exact new
 ·rw[q0d G] at q;by_cases f:b=e
  ·have q':H b=some (.own x):=by
    rcases J with z|z
    ·grind
    ·rw[f];exact z
   rw[q] at q';cases q';obtain⟨v,L⟩:=E;exact⟨v,by rw[f];exact L⟩
  ·refine(ok b u q).stay (λc v I r=>k c v ?_ r) (λc r=>by rw[q0d (j c b r)];exact r) λc D r=>by rw[q0d (B c D r)];exact r
   rcases I with rfl|I
   ·exact f
   ·grind
end
structure Un (fs ex:List Addr) (H H':Hp) (h h':Heap):Prop where
 keep:∀b o,h.get? b=some o->H b=none->b∉fs->b∉ex->h'.get? b=some o
 slot:∀b o,h.get? b=some o->H b=none->b∈fs->b∉ex->∃sl,h'.get? b=some { o with slots:=sl }
 free:∀b o,h.get? b=some o->H b=none->b∉ex->H' b=none
 there:∀b o,h.get? b=some o->b∉ex->∃o',h'.get? b=some o'
 tups:∀b xs,H b=some (.tup xs)->H' b=some (.tup xs)
 frzs:∀b o u,H b=some (.frz o u)->H' b=some (.frz o u)
 tbls:∀b ps,H b=some (.tbl ps)->∃more,H' b=some (.tbl (ps++more))
section
variable{fs fs' ex ex':List Addr}{H H1 H2:Hp}{h h1 h2 h':Heap}{a x e:Addr}{o:HO}
def Un.any(u:Un fs ex H H1 h h1)(q:h.get? b=some ob)(n:H b=none)(f:b∉ex):∃v,h1.get? b=some { ob with slots:=v }:=by
 by_cases j:b∈fs
 ·exact u.slot b ob q n j f
 ·exact⟨ob.slots,u.keep b ob q n j f⟩
def Un.kept(k:∀b u,h.get? b=some u->h'.get? b=some u):Un fs ex H H h h' :=
 ⟨λb f q _ _ _=>k b f q,λb f q _ _ _=>⟨f.slots,k b f q⟩,λ_ _ _ n _=>n,λb f q _=>⟨f,k b f q⟩,λ_ _ q=>q,λ_ _ _ q=>q,λ_ j q=>⟨#[],by rw[q];simp⟩⟩
def Un.refl:Un fs ex H H h h:=Un.kept λ_ _ q=>q
def Un.laid(k:∀b u,h.get? b=some u->h'.get? b=some u)(hp:h.objs.size<=a)(hn:H a=none):Un fs ex H (upd H a o) h h' where
 keep:=λb u q _ _ _=>k b u q
 slot:=λb u q _ _ _=>⟨u.slots,k b u q⟩
 free:=λb u q n _=>by rw[q0d (Bm (Cb (Ax q) hp))];exact n
 there:=λb u q _=>⟨u,k b u q⟩
 tups:=λb f q=>by rw[q0d (q0j q hn)];exact q
 frzs:=λb u f q=>by rw[q0d (q0j q hn)];exact q
 tbls:=λb j q=>⟨#[],by rw[q0d (q0j q hn),q];simp⟩
def Un.write(f:Mut (H x))(E:e=x\/H e=some (.own x))(k:∀b u,b≠e->h.get? b=some u->h'.get? b=some u)(j:∃u,h'.get? e=some u):Un fs ex H (upd H x o) h h':=by
 have C:∀b,H b=none->b≠x:=λb n z=>by subst z;rw[n] at f;exact f
 have D:∀b,H b=none->b≠e:=λb n z=>by
  subst z;rcases E with r|r
  ·exact C b n r
  ·rw[n] at r;cases r
 have v:∀b u,H b=some u->¬Mut (some u)->b≠x:=λb u q G z=>by subst z;rw[q] at f;exact G f
 refine⟨λb u q n _ _=>k b u (D b n) q,λb u q n _ _=>⟨u.slots,k b u (D b n) q⟩,λb u q n _=>by rw[q0d (C b n)];exact n,λb u q _=>?_,
  λb I q=>by rw[q0d (v b _ q λz=>z)];exact q,λb u I q=>by rw[q0d (v b _ q λz=>z)];exact q,λb J q=>⟨#[],by rw[q0d (v b _ q λz=>z),q];simp⟩⟩
 by_cases B:b=e
 ·subst B;exact j
 ·grind
end
noncomputable def trk(h:Heap)(H:Hp):List Addr:=(List.range h.objs.size).filter λa=>(H a).isSome
noncomputable def hidT(h:Heap)(H:Hp):Heap:=W.hideAll h (trk h H)
def z7g(h)(H):(hidT h H).objs.size=h.objs.size:=W.hideAll_size _ _
def x1f(e:h.get? b=some o)(n:H b=none):(hidT h H).get? b=some o :=
 W.hideAll_get _ e λf=>by
  have q:=(Dg.mp f).2;rw[n] at q;simp at q
def x4p(e:(hidT h H).get? b=some o):h.get? b=some o/\H b=none:=by
 have e':=W.of_hideAll (trk h H) e;refine⟨e',?_⟩;cases q:H b with
 |none=>rfl
 |some x =>
  have f:b∈trk h H:=Dg.mpr ⟨Og.mpr (Ax e'),by simp[q]⟩;have z:(hidT h H).get? b=none:=W.hideAll_none (trk h H) f;rw[z] at e;cases e
noncomputable def allNews(g h:Heap)(L:Addr):List (Addr×Obj):=(List.range h.objs.size).filterMap λa=>if a=L\/(g.get? a).isSome=true then none else(h.get? a).map λo=>(a,o)
noncomputable def rest(g h:Heap)(L d:Addr):List (Addr×Obj):=(allNews g h L).filter λp=>decide (p.1≠d)
structure Mod (K:Al) (mg) (base):Prop where
 kin:K.In base
 glob:base.Ns Dz mg
 blt:∃mb,base.Ns builtinsNs mb/\∀x:Str,x ≠ "__name__" -> mb x=Hj x
 nolimit:base.NoLimit
structure Cx where
 prog:Aw
 w:World
 K:Al
 mg:Str->Option Value
 base:Heap
 A:Around
 N:List Str
 s₀:Ag
 H₀:Hp
 env:Env
 outer:List Env
 stack:List Env
 ex:List Addr
 fn:Str->Bool
 calm:Bool
 pn:List (Addr×Obj)
 xe:Value->Ag->Prop
noncomputable def frs(l:List Env):List Addr:=l.filterMap (·.frame)
noncomputable abbrev Cx.fs(X:Cx):List Addr:=frs X.outer
noncomputable def Vis(sc:Scope)(x:Str):Prop:=sc.names.lookup x=some .local\/sc.names.lookup x=some .cell\/sc.names.lookup x=some .free
noncomputable def Loc(sc:Scope)(x:Str):Prop:=sc.names.lookup x=some .local\/sc.names.lookup x=some .cell
noncomputable def Look(env:Env)(h:Heap)(m:Str->Option Value)(x:Str)(u:Value):Prop :=
 (env.kindOf x=some .local/\m x=some u)\/((env.kindOf x=some .cell\/env.kindOf x=some .free)/\∃c,env.cells.lookup x=some c/\h.IsCell c (some u))
structure Cx.Ok (X:Cx):Prop where
 mod:Mod X.K X.mg X.base
 kind:X.env.scope.kind=.function
 glob:X.env.globals=Dz
 blt:X.env.builtins=builtinsNs
 above:X.s₀.heap.objs.size<=X.env.locals
 inj:∀x y c,X.env.cells.lookup x=some c->X.env.cells.lookup y=some c->x=y
 has:∀x,(X.env.kindOf x=some .cell\/X.env.kindOf x=some .free)->∃c,X.env.cells.lookup x=some c
 cab:∀x c,X.fn x=true->X.env.cells.lookup x=some c->X.s₀.heap.objs.size<=c
 hd:X.calm=true->X.A.handled=none
 frames:X.A.frames=some X.stack
 stk:X.stack=X.outer\/(X.stack=X.env::X.outer/\X.env.frame=some X.env.locals)
 exf:∀b∈X.ex,b≠X.env.locals/\∀x c,X.env.cells.lookup x=some c->c≠b
 bs:∀b o,X.base.get? b=some o->X.s₀.heap.get? b=some o/\X.H₀ b=none
 bsz:X.base.objs.size<=X.s₀.heap.objs.size
 noex:∀b o,X.base.get? b=some o->b∉X.ex
 exfs:∀b∈X.ex,b∉X.fs
 funs:X.s₀.heap.FunFrames X.base X.outer
 frf:∀b∈X.fs,X.H₀ b=none
structure Inv (X:Cx) (pins) (σ:List (Option V)) (H) (s:Ag):Prop where
 ok:X.Ok
 os:s.os=X.s₀.os
 bare:Mw s.gens
 base:Un X.fs X.ex X.H₀ H X.s₀.heap s.heap
 loc:∃m,s.heap.Ns X.env.locals m/\∀(i:Nat)  x   v ,X.N[i]?=some x->σ[i]?=some (some v)->Vis X.env.scope x->∃u,RelV v u/\Look X.env s.heap m x u
 cell:∀x c,X.env.cells.lookup x=some c->∃v,s.heap.IsCell c v
 free:H X.env.locals=none
 freeC:∀x c,X.env.cells.lookup x=some c->H c=none
 pin:∀p∈X.pn++pins,s.heap.get? p.1=some p.2/\H p.1=none/\p.1≠X.env.locals/\p.1∉X.fs/\∀v,p.2.data≠.cell v
 hok:HOk X.prog X.w H s.heap
 len:σ.length=X.N.length
section
variable{X:Cx}{pins:List (Addr×Obj)}{σ:List (Option V)}{H H':Hp}{s:Ag}{h':Heap}
def Cx.Ok.nofr(ok:X.Ok)(e:X.base.get? b=some o):b∉X.fs:=λf=>by
 have:=(ok.funs.mem f).1;rw[e] at this;cases this
def Inv.bs(I:Inv X pins σ H s):∀b o,X.base.get? b=some o->s.heap.get? b=some o/\H b=none:=λb o e =>
 ⟨I.base.keep b o (I.ok.bs b o e).1 (I.ok.bs b o e).2 (I.ok.nofr e) (I.ok.noex b o e),I.base.free b o (I.ok.bs b o e).1 (I.ok.bs b o e).2 (I.ok.noex b o e)⟩
def Inv.bk(I:Inv X pins σ H s):∀b o,X.base.get? b=some o->s.heap.get? b=some o:=λb o e=>(I.bs b o e).1
def Inv.mod(I:Inv X pins σ H s):Mod X.K X.mg X.base:=I.ok.mod
def Inv.kIn(I:Inv X pins σ H s):X.K.In s.heap:=I.ok.mod.kin.keeps I.bk
def Inv.lt(I:Inv X pins σ H s):X.env.locals<s.heap.objs.size:=let ⟨_,hn,_⟩:=I.loc;hn.lt
def Inv.sz(I:Inv X pins σ H s):X.s₀.heap.objs.size<=s.heap.objs.size:=Cc I.ok.above (Hm I.lt)
def Inv.nofs(I:Inv X pins σ H s){a:Addr}(h:s.heap.objs.size<=a):a∉X.fs:=λf=>by
 obtain⟨_,o,ho,_⟩:=I.ok.funs.mem f;exact absurd (Cb (Ax ho) (Cc I.sz h)) (Fq _)
def Inv.cne(I:Inv X pins σ H s):∀x c,X.env.cells.lookup x=some c->c≠X.env.locals:=λx c e z=>by
 obtain⟨v,o,ho,hd⟩:=I.cell x c e;obtain⟨m,⟨j,q,u,f,h,_⟩,_⟩:=I.loc;rw[z,f] at ho;cases ho;rw[h] at hd;cases hd
def Inv.funs(I:Inv X pins σ H s):s.heap.FunFrames X.base X.outer:=by
 have all:∀(l:List Env),(∀b∈frs l,b∈X.fs)->X.s₀.heap.FunFrames X.base l->s.heap.FunFrames X.base l:=by
  intro l;induction l with
  |nil=>intro _ _;trivial
  |cons env r ih =>
   intro hs hl;obtain⟨hk,⟨L,o,f,hn,ho,hd⟩,q⟩:=hl;have h:=hs L (by unfold frs;rw[Jc,f];exact Au);obtain⟨u,e⟩:=I.base.slot L o ho (I.ok.frf L h) h λz=>I.ok.exfs L z h;exact⟨hk,⟨L,_,f,hn,e,hd⟩,ih (λb j=>hs b (by unfold frs;rw[Jc,f];exact Ap _ j)) q⟩
 exact all X.outer (λ_ j=>j) I.ok.funs
def Inv.stack(I:Inv X pins σ H s):s.heap.FunFrames X.base X.stack:=by
 rcases I.ok.stk with e|⟨e,f⟩
 ·rw[e];exact I.funs
 ·rw[e];obtain⟨m,hn,_⟩:=I.loc;refine .cons (by rw[I.ok.kind];decide) f hn ?_ I.funs;exact Heap.get?_none_of_le (Cc I.ok.bsz I.ok.above)
def Inv.stkSub(I:Inv X pins σ H s):∀b∈frs X.stack,b∈X.env.locals::X.fs:=λb f=>by
 rcases I.ok.stk with e|⟨e,h⟩
 ·grind
 ·rw[e] at f;unfold frs at f;rw[Jc,h] at f;exact f
def Inv.stkFree(I:Inv X pins σ H s):∀b∈frs X.stack,H b=none:=λb f=>by
 rcases Bb.mp (I.stkSub b f) with e|f
 ·rw[e];exact I.free
 ·obtain⟨_,o,ho,_⟩:=I.ok.funs.mem f;exact I.base.free b o ho (I.ok.frf b f) λz=>I.ok.exfs b z f
def Inv.step{ch:List Addr}(I:Inv X pins σ H s)(h:∀b∈ch,(b∈X.ex\/X.s₀.heap.objs.size<=b)/\b≠X.env.locals/\(∀x c,X.env.cells.lookup x=some c->c≠b)/\∀p∈X.pn++pins,p.1≠b)(keep:∀b o,b≠X.env.locals->b∉X.fs->b∉ch->s.heap.get? b=some o->H b=none->h'.get? b=some o)(slot:∀b o,b≠X.env.locals->b∈X.fs->b∉ch->s.heap.get? b=some o->H b=none->∃M,h'.get? b=some { o with slots:=M })(free:∀b o,b∉ch->s.heap.get? b=some o->H b=none->H' b=none)(there:∀b o,b∉ch->s.heap.get? b=some o->∃G,h'.get? b=some G)(tups:∀b xs,H b=some (.tup xs)->H' b=some (.tup xs))(frzs:∀b o u,H b=some (.frz o u)->H' b=some (.frz o u))(tbls:∀b ps,H b=some (.tbl ps)->∃more,H' b=some (.tbl (ps++more)))(ns:∀m,s.heap.Ns X.env.locals m->h'.Ns X.env.locals m)(hok:HOk X.prog X.w H' h')(R:Mw g'):
  Inv X pins σ H' { s with heap:=h',gens:=g',drawn:=d',toks:=t' }:=by
 have J:∀b o,X.s₀.heap.get? b=some o->b≠X.env.locals:=λb o e=>Bm (Cb (Ax e) I.ok.above);have C:∀b o,X.s₀.heap.get? b=some o->b∉X.ex->b∉ch:=λb o e f E=>by
  rcases(h b E).1 with z|z
  ·exact f z
  ·exact absurd (Cb (Ax e) z) (Fq _)
 have j:∀x c,X.env.cells.lookup x=some c->∀v,s.heap.IsCell c v->h'.IsCell c v:=λx c e v ⟨o,ho,hd⟩=>by
  have B:=λz=>(h c z).2.2.1 x c e rfl;by_cases P:c∈X.fs
  ·obtain⟨M,q⟩:=slot c o (I.cne x c e) P B ho (I.freeC x c e);exact⟨_,q,hd⟩
  ·exact⟨o,keep c o (I.cne x c e) P B ho (I.freeC x c e),hd⟩
 refine⟨I.ok,I.os,R,⟨λb o e n E f=>?_,λb o e n E f=>?_,λb o e n f=>?_,λb o e f=>?_,λb xs e=>tups b xs (I.base.tups b xs e),λb o xs e=>frzs b o xs (I.base.frzs b o xs e),λb ps e=>?_⟩,?_,λx c e=>?_,?_,λx c e=>?_,λp hp=>?_,hok,I.len⟩
 ·exact keep b o (J b o e) E (C b o e f) (I.base.keep b o e n E f) (I.base.free b o e n f)
 ·obtain⟨M,D⟩:=I.base.slot b o e n E f;obtain⟨O,L⟩:=slot b _ (J b o e) E (C b o e f) D (I.base.free b o e n f);exact⟨O,L⟩
 ·obtain⟨G,D⟩:=I.base.there b o e f;exact free b G (C b o e f) D (I.base.free b o e n f)
 ·obtain⟨G,D⟩:=I.base.there b o e f;exact there b G (C b o e f) D
 ·obtain⟨S,D⟩:=I.base.tbls b ps e;obtain⟨T,L⟩:=tbls b _ D;exact⟨S++T,by rw[L,Array.append_assoc]⟩
 ·obtain⟨m,hn,hl⟩:=I.loc;refine⟨m,ns m hn,λi x v D L U=>?_⟩;obtain⟨u,r,l⟩:=hl i x v D L U;refine⟨u,r,?_⟩;rcases l with l|⟨k,c,e,z⟩
  ·exact .inl l
  ·exact .inr ⟨k,c,e,j x c e _ z⟩
 ·obtain⟨v,z⟩:=I.cell x c e;exact⟨v,j x c e v z⟩
 ·obtain⟨m,⟨o,_,_,ho,_⟩,_⟩:=I.loc;exact free _ o (λz=>(h _ z).2.1 rfl) ho I.free
 ·obtain⟨v,o,ho,hd⟩:=I.cell x c e;exact free c o (λz=>(h c z).2.2.1 x c e rfl) ho (I.freeC x c e)
 ·obtain⟨e,n,ne,Q,d⟩:=I.pin p hp;have B:=λz=>(h p.1 z).2.2.2 p hp rfl
  exact⟨keep p.1 p.2 ne Q B e n,free p.1 p.2 B e n,ne,Q,d⟩
def Inv.un(I:Inv X pins σ H s)(u:Un X.fs [] H H' s.heap h')(hok:HOk X.prog X.w H' h'):Inv X pins σ H' { s with heap:=h',toks:=t' }:=by
 obtain⟨m,⟨o,D,E,ho,r⟩,_⟩:=id I.loc;obtain⟨G,v⟩:=u.any ho I.free (by simp);exact I.step (g':=s.gens) (d':=s.drawn) (ch:=[]) (λ_ z=>nomatch z) (λb o _ h _ e n=>u.keep b o e n h (by simp)) (λb o _ h _ e n=>u.slot b o e n h (by simp)) (λb o _ e n=>u.free b o e n (by simp)) (λb o _ e=>u.there b o e (by simp)) u.tups u.frzs u.tbls (λJ B=>by
  obtain⟨L,j,q,f,C⟩:=B;rw[ho] at f;cases f;exact⟨_,j,q,v,C⟩) hok I.bare
def Inv.call(I:Inv X pins σ H s)(u:Un (frs X.stack) ch H H' s.heap h')(hok:HOk X.prog X.w H' h')(C:Mw g')(h:∀b∈ch,(b∈X.ex\/X.s₀.heap.objs.size<=b)/\b≠X.env.locals/\(∀x c,X.env.cells.lookup x=some c->c≠b)/\∀p∈X.pn++pins,p.1≠b):
  Inv X pins σ H' { s with heap:=h',gens:=g',drawn:=d',toks:=t' }:=by
 obtain⟨m,⟨o,J,L,ho,r⟩,_⟩:=id I.loc;obtain⟨M,q⟩:=u.any ho I.free λz=>(h _ z).2.1 rfl
 exact I.step h (λb o q D f e n=>u.keep b o e n (λz=>(Bb.mp (I.stkSub b z)).elim q D) f) (λb o _ _ f e n=>u.any e n f) (λb o f e n=>u.free b o e n f) (λb o f e=>u.there b o e f) u.tups u.frzs u.tbls (λO E=>by
  obtain⟨P,v,B,j,G⟩:=E;rw[ho] at j;cases j;exact⟨_,v,B,q,G⟩) hok C
def Inv.turned(I:Inv X pins σ H s)(k:∀b o,b≠it->s.heap.get? b=some o->h'.get? b=some o)(hn:H it=none)(j:it≠X.env.locals)(B:it∈X.ex\/X.s₀.heap.objs.size<=it)(C:∀x c,X.env.cells.lookup x=some c->c≠it)(D:∀p∈X.pn++pins,p.1≠it):Inv X pins σ H { s with heap:=h',toks:=t' }:=by
 have h:∀b u,H b=some u->b≠it:=λb u e z=>by rw[z,hn] at e;cases e
 refine I.step (g':=s.gens) (d':=s.drawn) (ch:=[it]) (λb E=>?_) (λb o _ _ f e _=>k b o (λz=>f (by simp[z])) e) (λb o _ _ f e _=>⟨o.slots,k b o (λz=>f (by simp[z])) e⟩) (λ_ _ _ _ n=>n)
  (λb o f e=>⟨o,k b o (λz=>f (by simp[z])) e⟩) (λ_ _ e=>e) (λ_ _ _ e=>e) (λb M e=>⟨#[],by rw[e];simp⟩) (λm G=>?_) (λb u e=>?_) I.bare
 ·have e:b=it:=by simpa using E
  subst e;exact⟨B,j,C,D⟩
 ·obtain⟨o,J,L,ho,r⟩:=G;exact⟨o,J,L,k _ o (Ex j) ho,r⟩
 ·refine(I.hok b u e).stay (λc v f q=>k c v ?_ q) (λ_ q=>q) λ_ _ q=>q;rcases f with z|z
  ·rw[z];exact h b u e
  ·exact h c _ z
def Inv.tok(I:Inv X pins σ H s)(t):Inv X pins σ H { s with toks:=t }:=I.un (h':=s.heap) (t':=t) Un.refl I.hok
def Inv.kept(I:Inv X pins σ H s)(k:∀b u,s.heap.get? b=some u->h'.get? b=some u):Inv X pins σ H { s with heap:=h',toks:=t' }:=I.un (Un.kept k) (I.hok.kept k)
def Inv.laid{a:Addr}(I:Inv X pins σ H s)(k:∀b u,s.heap.get? b=some u->h'.get? b=some u)(hp:s.heap.objs.size<=a)(new:ObjOk X.prog X.w (upd H a o) h' a o):
  Inv X pins σ (upd H a o) { s with heap:=h',toks:=t' }:=I.un (Un.laid k hp (I.hok.fresh hp)) (I.hok.laid k hp new)
def Inv.write(I:Inv X pins σ H s)(h:Mut (H x))(j:e=x\/H e=some (.own x))(k:∀b u,b≠e->s.heap.get? b=some u->h'.get? b=some u)(f:∃u,h'.get? e=some u)(new:ObjOk X.prog X.w (upd H x o) h' x o):Inv X pins σ (upd H x o) { s with heap:=h',toks:=t' }:=I.un (Un.write h j k f) (I.hok.write h j k f new)
def Inv.weak(I:Inv X pins σ H s)(hl:σ'.length=σ.length)(w:∀(i:Nat) v,σ'[i]?=some (some v)->σ[i]?=some (some v)):Inv X pins σ' H s :=
 ⟨I.ok,I.os,I.bare,I.base,let ⟨m,hn,f⟩:=I.loc;⟨m,hn,λi x v h j q=>f i x v h (w i v j) q⟩,I.cell,I.free,I.freeC,I.pin,I.hok,hl.trans I.len⟩
def Inv.pins_of(I:Inv X pins σ H s)(h:∀p∈pins',s.heap.get? p.1=some p.2/\H p.1=none/\p.1≠X.env.locals/\p.1∉X.fs/\∀v,p.2.data≠.cell v):Inv X pins' σ H s :=
 ⟨I.ok,I.os,I.bare,I.base,I.loc,I.cell,I.free,I.freeC,λp hp=>(Ao.mp hp).elim (λz=>I.pin p (Cp _ z)) (h p),I.hok,I.len⟩
def z4m{N:List Str}(f:N.Nodup){j:Nat}(a:N[i]?=some x)(b:N[j]?=some x):i=j:=by
 obtain⟨u,h⟩:=Aj.mp a;obtain⟨v,q⟩:=Aj.mp b;exact(List.getElem_inj f).mp (h.trans q.symm)
def q7i(I:Inv X pins σ H s)(hN:X.N.Nodup)(S:X.N[i]?=some x)(C:Loc X.env.scope x)(r:RelV v u)(h:∀s',Inv X pins (σ.set i (some v)) H s'->(∃a,Fm a s.heap s'.heap/\(a=X.env.locals\/X.env.cells.lookup x=some a))->Q () s')(hf:X.fn x=true\/X.env.scope.names.lookup x=some .local:=by trivial):wpAny M A (storeName X.env x u) Q E s:=by
 obtain⟨m,hn,hl⟩:=id I.loc;have T:(X.env.scope.kind==.class||(X.env.scope.kind==.module&&X.env.locals != X.env.globals))=false:=by rw[I.ok.kind];rfl
 have J:i<σ.length:=by rw[I.len];exact(Aj.mp S).1
 have cne:=I.cne;have f:∀{a:Addr} {R:Heap},(∃o,s.heap.get? a=some o/\H a=none)->Fm a s.heap R->HOk X.prog X.w H R:=λ{a R} ha hs b ob e=>by
  obtain⟨_,_,a0⟩:=ha;refine(I.hok b ob e).stay (λc Y D q=>(hs.2 c ?_).trans q) (λ_ q=>q) λ_ _ q=>q
  rcases D with rfl|D
  ·grind
  ·grind
 rcases C with hk|hk
 ·refine wpAny_storeName_local hk hn (λR a1 hs=>?_) T;obtain⟨oL,_,_,a2,_⟩:=id hn;refine h _ ⟨I.ok,I.os,I.bare,⟨λb o e n L C=>?_,λb o e n L C=>?_,I.base.free,λb o e C=>?_,I.base.tups,I.base.frzs,I.base.tbls⟩,⟨_,a1,λj y v' B G e3=>?_⟩,λy c e=>?_,I.free,I.freeC,λp hp=>?_,f ⟨oL,a2,I.free⟩ hs,by simpa using I.len⟩ ⟨_,hs,.inl rfl⟩
  ·exact(hs.2 b (Bm (Cb (Ax e) I.ok.above))).trans (I.base.keep b o e n L C)
  ·obtain⟨sl,B⟩:=I.base.slot b o e n L C;exact⟨sl,(hs.2 b (Bm (Cb (Ax e) I.ok.above))).trans B⟩
  ·obtain⟨o',B⟩:=I.base.there b o e C;exact⟨o',(hs.2 b (Bm (Cb (Ax e) I.ok.above))).trans B⟩
  ·by_cases O:j=i
   ·subst O;rw[S] at B;cases B;rw[Rh J] at G;cases G;exact⟨u,r,.inl ⟨hk,by simp⟩⟩
   ·rw[Sv (Ex O)] at G;obtain⟨u',r',q⟩:=hl j y v' B G e3;refine⟨u',r',?_⟩;rcases q with⟨k,e⟩|⟨k,c,e,z⟩
    ·refine .inl ⟨k,?_⟩;have:y≠x:=λe=>O (z4m hN B (e▸S));simp[this,e]
    ·exact .inr ⟨k,c,e,z.sameBut hs (cne y c e)⟩
  ·obtain⟨Y,z⟩:=I.cell y c e;exact⟨Y,z.sameBut hs (cne y c e)⟩
  ·obtain⟨e,n,ne,nf,d⟩:=I.pin p hp;exact⟨(hs.2 p.1 ne).trans e,n,ne,nf,d⟩
 ·have P:X.fn x=true:=by
   rcases hf with z|z
   ·exact z
   ·grind
  obtain⟨c,D⟩:=I.ok.has x (.inl hk);obtain⟨Y,z⟩:=I.cell x c D;refine wpAny_storeName_cell I.ok.kind hk D z (λR a3 hs=>?_);obtain⟨oc,U,W⟩:=id z;refine h { s with heap:=R } ⟨I.ok,I.os,I.bare,⟨λb o e n L C=>?_,λb o e n L C=>?_,I.base.free,λb o e C=>?_,I.base.tups,I.base.frzs,I.base.tbls⟩,⟨m,hn.sameBut hs (Ex (cne x c D)),λj y v' B G e3=>?_⟩,λy Z e=>?_,I.free,I.freeC,λp hp=>?_,f ⟨oc,U,I.freeC x c D⟩ hs,by simpa using I.len⟩ ⟨c,hs,.inr D⟩
  ·exact(hs.2 b (Bm (Cb (Ax e) (I.ok.cab x c P D)))).trans (I.base.keep b o e n L C)
  ·obtain⟨sl,B⟩:=I.base.slot b o e n L C;exact⟨sl,(hs.2 b (Bm (Cb (Ax e) (I.ok.cab x c P D)))).trans B⟩
  ·obtain⟨o',B⟩:=I.base.there b o e C;exact⟨o',(hs.2 b (Bm (Cb (Ax e) (I.ok.cab x c P D)))).trans B⟩
  ·by_cases O:j=i
   ·subst O;rw[S] at B;cases B;rw[Rh J] at G;cases G;exact⟨u,r,.inr ⟨.inl hk,c,D,a3⟩⟩
   ·rw[Sv (Ex O)] at G;obtain⟨u',r',q⟩:=hl j y v' B G e3;refine⟨u',r',?_⟩;rcases q with q|⟨k,Z,e,z'⟩
    ·exact .inl q
    ·refine .inr ⟨k,Z,e,z'.sameBut hs ?_⟩;rintro rfl;exact O (z4m hN B (I.ok.inj _ _ _ e D▸S))
  ·by_cases a4:Z=c
   ·grind
   ·obtain⟨w2,z2⟩:=I.cell y Z e;exact⟨w2,z2.sameBut hs a4⟩
  ·obtain⟨e,n,ne,nf,d⟩:=I.pin p hp;refine⟨(hs.2 p.1 ?_).trans e,n,ne,nf,d⟩;intro q;rw[q,U] at e;have q':=Bx e;exact d Y (by rw[<- q'];exact W)
def q9t(I:Inv X pins σ H s)(j:X.N.Nodup)(q:X.N[i]?=some x)(B:Loc X.env.scope x)(r:RelV v u)(h:∀f,Inv X pins (σ.set i (some v)) H f->Q () f)(C:X.fn x=true\/X.env.scope.names.lookup x=some .local:=by trivial):wpAny M A (storeName X.env x u) Q E s :=
 q7i I j q B r (λf D _=>h f D) C
def Inv.call'(I:Inv X pins σ H s)(ho:s'.os=s.os)(u:Un (frs X.stack) ch H H' s.heap s'.heap)(hok:HOk X.prog X.w H' s'.heap)(q:Mw s'.gens)(f:∀b∈ch,(b∈X.ex\/X.s₀.heap.objs.size<=b)/\b≠X.env.locals/\(∀x c,X.env.cells.lookup x=some c->c≠b)/\∀p∈X.pn++pins,p.1≠b):Inv X pins σ H' s':=by
 obtain⟨v,g',h,j,B⟩:=s';have e:=ho;subst e;exact I.call (g':=g') (t':=j) (d':=h) u hok q f
end
noncomputable abbrev XK:=Value->Option Addr->Hp->Prop
noncomputable abbrev St:=List (Option V)
noncomputable abbrev VK:=V->Hp->Prop
noncomputable abbrev TE:=St->Hp->VK->Prop
noncomputable abbrev TT:=St->Hp->(Bool->Hp->Prop)->Prop
noncomputable abbrev TA:=St->Hp->(List V->Hp->Prop)->Prop
structure Ends where
 nx:St->Hp->Prop
 rt:VK
 bk:St->Hp->Prop:=λ_ _=>False
 ct:St->Hp->Prop:=λ_ _=>False
noncomputable abbrev TS:=Ends->St->Hp->Prop
noncomputable def EP(X:Cx)(pins:List (Addr×Obj))(σ:St)(Q:VK)(u:Value)(s':Ag):Prop:=∃v H',Inv X pins σ H' s'/\RelV v u/\Q v H'
noncomputable def TP(X:Cx)(pins:List (Addr×Obj))(σ:St)(Q:Bool->Hp->Prop)(b:Bool)(s':Ag):Prop:=∃H',Inv X pins σ H' s'/\Q b H'
noncomputable def AP(X:Cx)(pins:List (Addr×Obj))(σ:St)(Q:List V->Hp->Prop)(us:List Value)(s':Ag):Prop:=∃vs H',Inv X pins σ H' s'/\Vals vs us/\Q vs H'
noncomputable def SP(X:Cx)(pins:List (Addr×Obj))(D:Ends)(f:Flow)(s':Ag):Prop :=
 match f with
 |.next=>∃σ' H',Inv X pins σ' H' s'/\D.nx σ' H'
 |.brk=>∃σ' H',Inv X pins σ' H' s'/\D.bk σ' H'
 |.cont=>∃σ' H',Inv X pins σ' H' s'/\D.ct σ' H'
 |.ret u=>∃v σ' H',Inv X pins σ' H' s'/\RelV v u/\D.rt v H'
noncomputable def PE(X:Cx)(e:Expr)(t:TE):Prop :=
 ∀ pins   s  (σ:St)  H   Q ,Inv X pins σ H s->t σ H Q->wpAny (model X.prog X.w) X.A (eval e X.env) (EP X pins σ Q) X.xe s
noncomputable def PT(X:Cx)(e:Expr)(t:TT):Prop :=
 ∀ pins   s  (σ:St)  H   Q ,Inv X pins σ H s->t σ H Q->wpAny (model X.prog X.w) X.A (isTrue e X.env (eval e X.env)) (TP X pins σ Q) X.xe s
noncomputable def PW(X:Cx)(e:Expr)(t:TT):Prop :=
 ∀ whole   pins   s  (σ:St)  H   Q ,Inv X pins σ H s->t σ H Q->wpAny (model X.prog X.w) X.A (isTrue e X.env whole) (TP X pins σ Q) X.xe s
def PW.pt(h:PW X e t):PT X e t:=h _
noncomputable def PA(X:Cx)(es:List Expr)(t:TA):Prop :=
 ∀ pos   pins   s  (σ:St)  H   Q ,Inv X pins σ H s->t σ H Q->wpAny (model X.prog X.w) X.A (spliced (Gi pos (Bp es X.env))) (AP X pins σ Q) X.xe s
noncomputable def PS(X:Cx)(st:Stmt)(t:TS):Prop :=
 ∀ pins   s  (σ:St)  H   D ,Inv X pins σ H s->t D σ H->wpAny (model X.prog X.w) X.A (exec st X.env) (SP X pins D) X.xe s
noncomputable def PSs(X:Cx)(st:List Stmt)(t:TS):Prop :=
 ∀ pins   s  (σ:St)  H   D ,Inv X pins σ H s->t D σ H->wpAny (model X.prog X.w) X.A (execs st X.env) (SP X pins D) X.xe s
def thn{t:Sem α}(h:wpAny M A t Q E s)(j:∀a s,Q a s->f a s):wpAny M A t f E s:=Dl h j λ_ _ x=>x
def thnE(h:wpAny M A t (EP X f q Q) E s)(k:∀u j v H',Inv X f q H' j->RelV v u->Q v H'->B u j):wpAny M A t B E s:=thn h λu j ⟨v,H',a,b,c⟩=>k u j v H' a b c
def thnT{q:St}{Q:Bool->Hp->Prop}(h:wpAny M A t (λb j=>∃H',Inv X f q H' j/\Q b H') E s)(k:∀b j H',Inv X f q H' j->Q b H'->v b j):wpAny M A t v E s:=thn h λu j ⟨H',a,c⟩=>k u j H' a c
section
variable{X:Cx}
noncomputable def tVar(i:Nat):TE:=λσ H Q=>∃v,σ[i]?=some (some v)/\Q v H
noncomputable def tC(v:V):TE:=λ_ H Q=>Q v H
def pe_var{q}(D:X.N[i]?=some x)(E:Vis X.env.scope x)(hd:(x==("__debug__" : Str))=false:=by decide)(B:(x==("__classdict__" : Str))=false:=by decide):PE X (.Name x q) (tVar i):=by
 intro j s G H Q I h;obtain⟨v,e,h⟩:=h;obtain⟨m,hn,hl⟩:=I.loc;obtain⟨u,r,l⟩:=hl i x v D e E;have fin:EP X j G Q u s:=⟨v,H,I,r,h⟩
 rcases l with⟨hk,J⟩|⟨hk,c,C,f⟩
 ·exact Wa (Sw I.ok.kind hk hn J fin) hd
 ·rcases hk with hk|hk
  ·exact Wa (Tq I.ok.kind hk C f fin) hd
  ·exact Wa (wpAny_loadName_free I.ok.kind hk C f fin B) hd
def q0g{i j pos}:PE X (.Constant (.int i) j pos) (tC (.int i)):=λ_ _ _ H _ I h=>wpAny_Constant_int ⟨.int i,H,I.tok _,⟨_,rfl⟩,h⟩
def q4i{b j pos}:PE X (.Constant (.bool b) j pos) (tC (.bl b)):=λ_ _ _ H _ I h=>Constant_bool ⟨.bl b,H,I,rfl,h⟩
def q6q{j pos}:PE X (.Constant .none j pos) (tC .non):=λ_ _ _ H _ I h=>Tg ⟨.non,H,I,rfl,h⟩
def q6r{x j pos}:PE X (.Constant (.str x) j pos) (tC (.str x)):=λ_ _ _ H _ I h=>Calls.Constant_str ⟨.str x,H,I.tok _,⟨_,rfl⟩,h⟩
noncomputable def Gl(X:Cx)(x:Str):Prop:=X.env.kindOf x=some .globalImplicit
def z3e{f:St}(I:Inv X pins f H s)(j:Gl X x)(q:X.mg x=some u)(h:Q u s)(hd:(x==("__debug__" : Str))=false:=by decide):wpAny (model X.prog X.w) X.A (eval (.Name x pos) X.env) Q E s :=
 Oz I.ok.kind j (Calls.loadGlobal_global (by rw[I.ok.glob];exact I.mod.glob.keeps I.bk) q h) hd
def q7j{E}{j:St}{f}(I:Inv X pins j H s)(q:Gl X x)(v:X.mg x=none)(B:Hj x=some u)(h:Q u s)(hn:x ≠ "__name__" := by decide)(hd:(x==("__debug__" : Str))=false:=by decide):wpAny (model X.prog X.w) X.A (eval (.Name x f) X.env) Q E s:=by
 obtain⟨G,C,D⟩:=I.mod.blt;exact Oz I.ok.kind q (Calls.loadGlobal_builtin (by rw[I.ok.glob];exact I.mod.glob.keeps I.bk) v (by rw[I.ok.blt];exact C.keeps I.bk) ((D x hn).trans B) h) hd
variable{a b:Expr}{ta tb:TE}{pos:Pos}
noncomputable def PC(X:Cx)(op:CmpOp)(a b:Expr)(t:TE):Prop :=
 ∀ pins   s  (σ:St)  H   Q ,Inv X pins σ H s->t σ H Q ->
  wpAny (model X.prog X.w) X.A (eval a X.env) (λv s₁=>wpAny (model X.prog X.w) X.A (eval b X.env) (λu s₂=>wpAny (model X.prog X.w) X.A (Cz op v u) (EP X pins σ Q) X.xe s₂) X.xe s₁) X.xe s
def nobehind(b)(h:op≠.In)(q:op≠.NotIn):Hz op b=false:=by
 have f:(op==CmpOp.In)=false:=by grind
 have j:(op==CmpOp.NotIn)=false:=by grind
 cases b<;>simp[Hz,f,j]
noncomputable def tIsN(ta:TE):TE:=λσ H Q=>ta σ H λx H1=>Q (.bl (decide (x=.non))) H1
noncomputable def tNotN(ta:TE):TE:=λσ H Q=>ta σ H λx H1=>Q (.bl (!decide (x=.non))) H1
def RelV.none_iff(r:RelV x v):(v==Value.none)=decide (x=.non):=by
 cases x with
 |non=>cases r;rfl
 |bl _=>cases r;rfl
 |int _=>obtain⟨t,rfl⟩:=r;rfl
 |str _=>obtain⟨t,rfl⟩:=r;rfl
 |byt _=>obtain⟨t,rfl⟩:=r;rfl
 |flt _=>obtain⟨t,rfl⟩:=r;rfl
 |ref _=>cases r;rfl
 |ty _=>cases r;rfl
def q5m{j pos'}(ha:PE X a ta):PC X .Is a (.Constant .none j pos') (tIsN ta):=by
 intro f s q H Q I h;refine thnE (ha f s q H _ I h) λv E x u B C D=>?_;exact Tg (is_none_gen ⟨.bl _,u,B,by rw[C.none_iff];rfl,D⟩)
def q5z{j pos'}(ha:PE X a ta):PC X .IsNot a (.Constant .none j pos') (tNotN ta):=by
 intro f s q H Q I h;refine thnE (ha f s q H _ I h) λv E x u B C D=>?_;exact Tg (isnot_none_gen ⟨.bl _,u,B,by rw[C.none_iff];rfl,D⟩)
noncomputable def tB(t:TE):TT:=λσ H Q=>t σ H λx H1=>∃c,x=.bl c/\Q c H1
def x3m(h:PC X op a b t)(j:Hz op b=false:=by first|exact nobehind _ (by decide) (by decide)|rfl):PE X (.Compare a [op] [b] pos) t:=λf s q H Q I u=>wpAny_Compare1 (h f s q H Q I u) j
def q1z(h:PC X op a b t)(j:Hz op b=false:=by first|exact nobehind _ (by decide) (by decide)|rfl):PT X (.Compare a [op] [b] pos) (tB t):=by
 intro f s B H Q I C;refine Sa (thn (h f s B H _ I C) λv M j=>thn j λu O D=>thnE D λc P x E G J L=>?_) j;obtain⟨d,rfl,q⟩:=L;cases J;exact Cy ⟨E,G,q⟩
variable{tA tB':TT}{rest:List Expr}
noncomputable def tAnd(t u:TT):TT:=λσ H Q=>t σ H λc H1=>if c=true then u σ H1 Q else Q false H1
noncomputable def tOr(t u:TT):TT:=λσ H Q=>t σ H λc H1=>if c=true then Q true H1 else u σ H1 Q
noncomputable def tNot(t:TT):TT:=λσ H Q=>t σ H λc H1=>Q (!c) H1
def q2a(ha:PT X a tA):PW X (.BoolOp .And [a] pos) tA:=by
 intro q f s j H Q I h;refine isTrue_and (thn (ha f s j H Q I h) λc u e=>?_);cases c with
 |true=>exact isTrue_and_nil e
 |false=>exact e
def z4n(ha:PT X a tA):PW X (.BoolOp .Or [a] pos) tA:=by
 intro q f s j H Q I h;refine isTrue_or (thn (ha f s j H Q I h) λc u e=>?_);cases c with
 |false=>exact isTrue_or_nil e
 |true=>exact e
def q2z(ha:PT X a tA)(B:PW X (.BoolOp .And (b::rest) pos) tB'):PW X (.BoolOp .And (a::b::rest) pos) (tAnd tA tB'):=by
 intro C f s j H Q I h;refine isTrue_and (thnT (ha f s j H _ I h) λc D q u v=>?_);cases c with
 |true=>exact B C f D j q Q u v
 |false=>exact⟨q,u,v⟩
def z7h(ha:PT X a tA)(B:PW X (.BoolOp .Or (b::rest) pos) tB'):PW X (.BoolOp .Or (a::b::rest) pos) (tOr tA tB'):=by
 intro C f s j H Q I h;refine isTrue_or (thnT (ha f s j H _ I h) λc D q u v=>?_);cases c with
 |true=>exact⟨q,u,v⟩
 |false=>exact B C f D j q Q u v
def z1c(ha:PT X a tA):PT X (.UnaryOp .Not a pos) (tNot tA):=by
 intro f s j H Q I h;exact isTrue_not (ha f s j H (λc q=>Q (!c) q) I h)
noncomputable def tAndV(ta tb:TE):TE:=λσ H Q=>ta σ H λx H1=>∃c,x=.bl c/\if c=true then tb σ H1 Q else Q (.bl false) H1
noncomputable def tOrV(ta tb:TE):TE:=λσ H Q=>ta σ H λx H1=>∃c,x=.bl c/\if c=true then Q (.bl true) H1 else tb σ H1 Q
noncomputable def tNotV(ta:TE):TE:=λσ H Q=>ta σ H λx H1=>∃c,x=.bl c/\Q (.bl (!c)) H1
def z7i{op}(h:PE X a t):PE X (.BoolOp op [a] pos) t:=λf s j H Q I q=>BoolOp_one (h f s j H Q I q)
def pe_and(ha:PE X a ta)(C:PE X (.BoolOp .And (b::rest) pos) tb):PE X (.BoolOp .And (a::b::rest) pos) (tAndV ta tb):=by
 intro f s q H Q I h;refine BoolOp_and (thnE (ha f s q H _ I h) λv D x u B E j=>?_);obtain⟨c,rfl,j⟩:=j;cases E;refine Cy ?_;cases c with
 |true=>exact C f D q u Q B j
 |false=>exact⟨.bl false,u,B,rfl,j⟩
def pe_or(ha:PE X a ta)(C:PE X (.BoolOp .Or (b::rest) pos) tb):PE X (.BoolOp .Or (a::b::rest) pos) (tOrV ta tb):=by
 intro f s q H Q I h;refine BoolOp_or (thnE (ha f s q H _ I h) λv D x u B E j=>?_);obtain⟨c,rfl,j⟩:=j;cases E;refine Cy ?_;cases c with
 |false=>exact C f D q u Q B j
 |true=>exact⟨.bl true,u,B,rfl,j⟩
def pe_not(ha:PE X a ta):PE X (.UnaryOp .Not a pos) (tNotV ta):=by
 intro f s q H Q I h;refine UnaryOp_ (thnE (ha f s q H _ I h) λv D x u B C j=>?_);obtain⟨c,rfl,j⟩:=j;cases C;exact not_of (Cy ⟨.bl (!c),u,B,rfl,j⟩)
noncomputable def tIf(t:TT)(ta tb:TE):TE:=λσ H Q=>t σ H λc H1=>if c=true then ta σ H1 Q else tb σ H1 Q
def x1g(C:PT X c tA)(ha:PE X a ta)(D:PE X b tb):PE X (.IfExp c a b pos) (tIf tA ta tb):=by
 intro f s j H Q I h;refine wpAny_IfExp (thnT (C f s j H _ I h) λd q u v B=>?_);cases d with
 |true=>exact ha f q j u Q v B
 |false=>exact D f q j u Q v B
end
noncomputable def SqL(K:Al)(H:Hp)(a:Addr)(xs:List V):Prop :=
 Rd H a (.lst xs) \/
  ∃(o:Obj) (its:Array Value) (n:Nat),K.lookup a=some o/\o.cls=.type "list" /\ o.dict=none/\o.data=.seq its n/\its.size<=sizeLine/\Vals xs its.toList
noncomputable def SqT(K:Al)(H:Hp)(a:Addr)(xs:List V):Prop :=
 Rd H a (.tup xs) \/
  ∃(o:Obj) (its:Array Value) (n:Nat),K.lookup a=some o/\o.cls=.type "tuple" /\ o.data=.seq its n/\its.size<=sizeLine/\Vals xs its.toList
noncomputable def absV:Value->Option V
 |.none=>some .non
 |.bool b=>some (.bl b)
 |.int i _=>some (.int i)
 |.str x _=>some (.str x)
 |.bytes b _=>some (.byt b)
 |.float b _=>some (.flt b)
 |.ref a=>some (.ref a)
 |.type n=>some (.ty n)
 |_=>none
def RelV.abs(r:RelV x u):absV u=some x:=by
 cases x with
 |non=>cases r;rfl
 |bl _=>cases r;rfl
 |int _=>obtain⟨t,rfl⟩:=r;rfl
 |str _=>obtain⟨t,rfl⟩:=r;rfl
 |byt _=>obtain⟨t,rfl⟩:=r;rfl
 |flt _=>obtain⟨t,rfl⟩:=r;rfl
 |ref _=>cases r;rfl
 |ty _=>cases r;rfl
def RelV.inj(r:RelV x u)(q:RelV y u):x=y:=Bx (r.abs.symm.trans q.abs)
def Vals.inj(h:Vals xs f)(g:Vals ys f):xs=ys:=by
 induction h generalizing ys with
 |nil=>cases g;rfl
 |cons r _ ih=>cases g with|cons r' t'=>rw[r.inj r',ih t']
section
variable{X:Cx}{pins:List (Addr×Obj)}{σ:St}{H:Hp}{s:Ag}{a:Addr}{xs ys:List V}
def SqL.of{K}(h:H a=some (.lst xs)):SqL K H a xs:=.inl (.inl h)
def SqT.of{K}(h:H a=some (.tup xs)):SqT K H a xs:=.inl (.inl h)
def Inv.list(I:Inv X pins σ H s)(h:SqL X.K H a xs):∃f,Vals xs f/\PlainL s.heap a f.toArray/\xs.length<=sizeLine:=by
 rcases h with h|⟨o,f,n,hk,j,hd,hs,q,r⟩
 ·obtain⟨z,f,n,r,e⟩:=h.ok I.hok;exact⟨f,r,⟨_,n,e,rfl,rfl,rfl⟩,z⟩
 ·refine⟨f.toList,r,⟨o,n,I.kIn a o hk,j,hd,by simpa using hs⟩,?_⟩;have e:=r.length;simp only[Fi] at e;lia
def Inv.tuple(I:Inv X pins σ H s)(h:SqT X.K H a xs):∃f,Vals xs f/\IsTup s.heap a f.toArray/\xs.length<=sizeLine:=by
 rcases h with h|⟨o,f,n,hk,j,hs,q,r⟩
 ·obtain⟨z,f,r,p⟩:=h.ok I.hok;exact⟨f,r,p,z⟩
 ·refine⟨f.toList,r,⟨o,I.kIn a o hk,j,n,by simpa using hs⟩,?_⟩;have e:=r.length;simp only[Fi] at e;lia
def Inv.list_inj(I:Inv X pins σ H s)(h:SqL X.K H a xs)(h':SqL X.K H a ys):xs=ys:=by
 obtain⟨j,r,⟨o,n,e,_,_,d⟩,_⟩:=I.list h;obtain⟨f,q,⟨u,v,B,_,_,C⟩,_⟩:=I.list h';have:j=f:=by grind
 subst this;exact r.inj q
def Inv.tuple_inj(I:Inv X pins σ H s)(h:SqT X.K H a xs)(h':SqT X.K H a ys):xs=ys:=by
 obtain⟨j,r,⟨o,e,_,n,d⟩,_⟩:=I.tuple h;obtain⟨f,q,⟨u,v,_,B,C⟩,_⟩:=I.tuple h';have:j=f:=by grind
 subst this;exact r.inj q
end
noncomputable abbrev Cx.wish(X:Cx)(E:Value->Ag->Prop):Cx:={ X with xe:=E }
noncomputable abbrev Cx.nox(X:Cx):Cx:=X.wish λ_ _=>False
def Cx.Ok.wish{X:Cx}(ok:X.Ok)(E):(X.wish E).Ok :=
 ⟨ok.mod,ok.kind,ok.glob,ok.blt,ok.above,ok.inj,ok.has,ok.cab,ok.hd,ok.frames,ok.stk,ok.exf,ok.bs,ok.bsz,ok.noex,ok.exfs,ok.funs,ok.frf⟩
def Cx.Ok.unwish{X:Cx}(ok:(X.wish E).Ok):X.Ok :=
 ⟨ok.mod,ok.kind,ok.glob,ok.blt,ok.above,ok.inj,ok.has,ok.cab,ok.hd,ok.frames,ok.stk,ok.exf,ok.bs,ok.bsz,ok.noex,ok.exfs,ok.funs,ok.frf⟩
section
variable{X:Cx}{pins:List (Addr×Obj)}{σ:St}{H:Hp}{s:Ag}{E:Value->Ag->Prop}
def Inv.wish(I:Inv X pins σ H s)(E):Inv (X.wish E) pins σ H s:=⟨I.ok.wish E,I.os,I.bare,I.base,I.loc,I.cell,I.free,I.freeC,I.pin,I.hok,I.len⟩
def Inv.unwish(I:Inv (X.wish E) pins σ H s):Inv X pins σ H s:=⟨I.ok.unwish,I.os,I.bare,I.base,I.loc,I.cell,I.free,I.freeC,I.pin,I.hok,I.len⟩
def SP.unwish(h:SP (X.wish E) pins D f s'):SP X pins D f s':=by
 cases f with
 |next=>obtain⟨j,B,I,q⟩:=h;exact⟨j,B,I.unwish,q⟩
 |brk=>obtain⟨j,B,I,q⟩:=h;exact⟨j,B,I.unwish,q⟩
 |cont=>obtain⟨j,B,I,q⟩:=h;exact⟨j,B,I.unwish,q⟩
 |ret u=>obtain⟨v,j,B,I,r,q⟩:=h;exact⟨v,j,B,I.unwish,r,q⟩
def PSs.nox{st}(h:PSs X.nox st t):PSs X st t:=λf s j H D I u =>
 Dl (h f s j H D (I.wish _) u) (λ_ _ q=>q.unwish) λ_ _ z=>False.elim z
end
section
variable{X:Cx}{st:Stmt}{rest:List Stmt}{t u:TS}{e:Expr}{te:TE}{pos:Pos}
noncomputable def tNext:TS:=λD σ H=>D.nx σ H
noncomputable def tSeq(t u:TS):TS:=λD σ H=>t { D with nx:=u D } σ H
def q0m:PSs X [] tNext:=λ_ _ f H _ I h=>Kk ⟨f,H,I,h⟩
def q0c(C:PS X st t)(E:PSs X rest u):PSs X (st::rest) (tSeq t u):=by
 intro j s G H D I h;refine Qa (thn (C j s G H { D with nx:=u D } I h) λf J q=>?_);cases f with
 |next =>
  obtain⟨B,L,M,q⟩:=q;exact E j J B L D M q
 |ret v=>exact q
 |brk=>exact q
 |cont=>exact q
def q0f(u:PS X st t):PSs X [st] t:=by
 intro j s B H D I h;refine Qa (thn (u j s B H D I h) λf C q=>?_);cases f with
 |next=>exact Kk q
 |ret v=>exact q
 |brk=>exact q
 |cont=>exact q
def Inv.quiet{f:St}(I:Inv X pins f H s):interactive X.env=false:=by simp[interactive,I.ok.kind]
noncomputable def tDrop(te:TE):TS:=λD σ H=>te σ H λ_ H1=>D.nx σ H1
def q1t(q:PE X e te)(hs:Kq e none pos.line X.env=pure false:=by rfl):PS X (.Expr e pos) (tDrop te):=by
 intro f s j H D I h;exact wpAny_Expr_any (thnE (q f s j H _ I h) λv E x u B G C=>⟨j,u,B,C⟩) I.quiet hs
noncomputable def tRet(te:TE):TS:=λD σ H=>te σ H D.rt
def q0o(q:PE X e te):PS X (.Return (some e) pos) (tRet te):=by
 intro f s j H D I h;exact wpAny_Return_some (thnE (q f s j H _ I h) λv G x u B C E=>⟨x,j,u,B,C,E⟩)
noncomputable def tIfS(c:TT)(t u:TS):TS:=λD σ H=>c σ H λb H1=>if b=true then t D σ H1 else u D σ H1
def q1b(G:PT X c q)(ha:PSs X a t)(J:PSs X b u):PS X (.If c a b pos) (tIfS q t u):=by
 intro f s j H D I h;refine wpAny_If (thnT (G f s j H _ I h) λd v B C E=>?_);cases d with
 |true=>exact ha f v j B D C E
 |false=>exact J f v j B D C E
noncomputable def tNever:TS:=λ_ _ _=>False
def q3a:PS X st tNever:=λ_ _ _ _ _ _ h=>h.elim
end
noncomputable abbrev TG:=V->St->Hp->(St->Hp->Prop)->Prop
noncomputable abbrev TGs:=List V->St->Hp->(St->Hp->Prop)->Prop
noncomputable def PG(X:Cx)(target:Expr)(t:TG):Prop :=
 ∀ pins   s  (σ:St)  H   v   u   Q ,Inv X pins σ H s->RelV v u->t v σ H Q ->
  wpAny (model X.prog X.w) X.A (assign target X.env u) (λ_ s'=>∃σ' H',Inv X pins σ' H' s'/\Q σ' H') X.xe s
noncomputable def PGs(X:Cx)(ts:List Expr)(t:TGs):Prop :=
 ∀ pins   s  (σ:St)  H   vs   us   Q ,Inv X pins σ H s->Vals vs us->t vs σ H Q ->
  wpAny (model X.prog X.w) X.A (assignInOrder ((Jx ts X.env).map (·.2)) us) (λ_ s'=>∃σ' H',Inv X pins σ' H' s'/\Q σ' H') X.xe s
noncomputable abbrev TSet:=V->V->V->Hp->(Hp->Prop)->Prop
noncomputable def PSet(X:Cx)(t:TSet):Prop :=
 ∀ pins   s  (σ:St)  H  (o i v) (ov iv u)  Q ,Inv X pins σ H s->RelV o ov->RelV i iv->RelV v u->t o i v H Q ->
  wpAny (model X.prog X.w) X.A (setItem ov iv u) (λ_ s'=>∃H',Inv X pins σ H' s'/\Q H') X.xe s
noncomputable abbrev TIp:=V->V->Hp->VK->Prop
noncomputable def PIp(X:Cx)(op:Operator)(t:TIp):Prop :=
 ∀ pins   s  (σ:St)  H  (x y) (v u)  Q ,Inv X pins σ H s->RelV x v->RelV y u->t x y H Q ->
  wpAny (model X.prog X.w) X.A (inplaceOp op v u) (EP X pins σ Q) X.xe s
section
variable{X:Cx}{pos:Pos}
noncomputable def gName(i:Nat):TG:=λv σ H Q=>Q (σ.set i (some v)) H
def q0h(j:X.N.Nodup)(q:X.N[i]?=some x)(B:Loc X.env.scope x)(C:X.fn x=true\/X.env.scope.names.lookup x=some .local:=by trivial):PG X (.Name x pos) (gName i):=by
 intro f s E H v u Q I r h;exact Pg (q9t I j q B r (λG D=>⟨_,H,D,h⟩) C)
noncomputable def gNil:TGs:=λvs σ H Q=>vs=[]/\Q σ H
noncomputable def gCons(t:TG)(u:TGs):TGs:=λvs σ H Q=>∃v r,vs=v::r/\t v σ H λσ' H'=>u r σ' H' Q
def q1p:PGs X [] gNil:=by
 intro f s j H vs q Q I r h;obtain⟨e,h⟩:=h;exact assignInOrder_nil ⟨j,H,I,h⟩
def q0l(B:PG X e t)(C:PGs X j u)(hs:(Jx (e::j) X.env).map (·.2)=assign e X.env::(Jx j X.env).map (·.2):=by rfl):PGs X (e::j) (gCons t u):=by
 intro f s D H vs P Q I r h;obtain⟨v,R,E,h⟩:=h;subst E;cases r with
 |cons r rr =>
  rw[hs];refine assignInOrder_cons (thn (B f s D H _ _ _ I r h) λ_ G J=>?_);obtain⟨q,L,M,O⟩:=J;exact C f G q L _ _ Q M rr O
noncomputable def gTup(K:Al)(n:Nat)(t:TGs):TG:=λv σ H Q=>∃a xs,v=.ref a/\SqT K H a xs/\xs.length=n/\t xs σ H Q
def pg_tup{k}(D:X.calm=true)(h:PGs X es t)(hn:(Jx es X.env).length=n:=by rfl)(j:(Jx es X.env).findIdx? (·.1)=none:=by rfl):PG X (.Tuple es k pos) (gTup X.K n t):=by
 intro f s B H v u Q I r q;obtain⟨a,E,G,J,hl,q⟩:=q;subst G;cases r;obtain⟨L,C,M,S⟩:=I.tuple J;refine assign_Tuple_tuple (I.ok.hd D) M (by simp[hn,<- hl,C.length]) j λO P=>?_;have R:Inv X f B H { s with heap:=O }:=I.kept (t':=s.toks) λb o e=>P b o (Bm (Ax e)) e;exact h f _ B H E _ Q R (by simpa using C) q
noncomputable def gSub(to ti:TE)(t:TSet):TG:=λv σ H Q=>to σ H λo H1=>ti σ H1 λi H2=>t o i v H2 λH3=>Q σ H3
def z7j(ho:PE X o to)(D:PE X i C)(hs:PSet X t)(ha:∀v,assign (.Subscript o i pos) X.env v=(do
   let j<-Lg [v] (eval o X.env);let q<-Lg [v,j] (eval i X.env)
   Pw pos
   Lg [v,j,q] (setItem j q v)
   release [v,j,q] []):=by intro _;rfl):PG X (.Subscript o i pos) (gSub to C t):=by
 intro f s B H v u Q I r h;refine Ab (Cq (thnE (ho f s B H _ I h) λj E x G J L M=>?_));refine Ab (Cq (thnE (D f E B G _ J M) λq O y P R S T=>?_));refine Ab (Ia (Ab (Cq (thn (hs f O B P x y v j q u _ R L S r T) λ_ s3 U=>?_))));obtain⟨W,Y,Z⟩:=U;exact wpAny_release ⟨B,W,Y,Z⟩
noncomputable def tAsg(te:TE)(g:TG):TS:=λD σ H=>te σ H λx H1=>g x σ H1 D.nx
def q8t(C:PE X e u)(E:PG X j g)(hs:swapsWithSole [j] e pos.line X.env=pure false:=by rfl)(G:swappedStores [j] e X.env=pure none:=by rfl)(J:(Jx [j] X.env).map (·.2)=[assign j X.env]:=by rfl):PS X (.Assign [j] e pos) (tAsg u g):=by
 intro f s B H D I h;refine wpAny_Assign_stores (thnE (C f s B H _ I h) λv L x M O P Q=>?_) hs G;rw[J];exact thn (E f L B M x v _ O P Q) λ_ R q=>q
def q0i(u:X.N.Nodup)(B:X.N[i]?=some x)(C:Loc X.env.scope x)(E:PE X e q)(hs:Kq e (some (.Name x f)) pos.line X.env=pure false:=by rfl)(G:X.fn x=true\/X.env.scope.names.lookup x=some .local:=by trivial):
  PS X (.Assign [.Name x f] e pos) (tAsg q (gName i)):=by
 intro j s J H D I h;refine wpAny_Assign_Name (thnE (E j s J H _ I h) λv R y L M O P=>?_) hs;exact q9t M u B C O (λS Q=>⟨_,L,Q,P⟩) G
noncomputable def tAug(i:Nat)(te:TE)(ti:TIp):TS:=λD σ H=>∃x,σ[i]?=some (some x)/\te σ H λy H1=>ti x y H1 λz H2=>D.nx (σ.set i (some z)) H2
def ps_aug(P:X.N.Nodup)(M:X.N[i]?=some x)(E:Loc X.env.scope x)(Q:PE X e J)(ho:PIp X op L)(R:X.fn x=true\/X.env.scope.names.lookup x=some .local:=by trivial):
  PS X (.AugAssign (.Name x q) op e pos) (tAug i J L):=by
 intro f s O H D I h;obtain⟨v,S,h⟩:=h;obtain⟨m,hn,hl⟩:=I.loc;have G:Vis X.env.scope x:=by rcases E with k|k;exact .inl k;exact .inr (.inl k)
 obtain⟨u,r,l⟩:=hl i x v M S G;refine wpAny_AugAssign_Name ?_;have go:wpAny (model X.prog X.w) X.A (eval e X.env) (λw B=>wpAny (model X.prog X.w) X.A (inplaceOp op u w) (λr C=>wpAny (model X.prog X.w) X.A (storeName X.env x r) (λ_=>SP X f D .next) X.xe C) X.xe B) X.xe s:=by
  refine thnE (Q f s O H _ I h) λw T y U W Y Z=>?_;refine thnE (ho f T O U v y u w _ W r Y Z) λz s2 zv H2 I2 r2 q2=>?_;exact q9t I2 P M E r2 (λs3 I3=>⟨_,H2,I3,q2⟩) R
 rcases l with⟨hk,hm⟩|⟨hk,c,hc,j⟩
 ·exact Sw I.ok.kind hk hn hm go
 ·rcases hk with hk|hk
  ·exact Tq I.ok.kind hk hc j go
  ·rcases E with k|k
   ·have:X.env.scope.names.lookup x=some .free:=hk;rw[k] at this;cases this
   ·have:X.env.scope.names.lookup x=some .free:=hk;rw[k] at this;cases this
end
section
variable{X:Cx}{pos:Pos}
noncomputable def tWhile(c:TT)(tb:TS):TS:=λD σ H=>∃W:Nat->St->Hp->Prop,(∃m,W m σ H)/\∀m σ H,W m σ H ->
 c σ H λb H1=>if b=true then ∃N,(∀σ' H',N σ' H'->∃m',m'<m/\W m' σ' H')/\tb { D with nx:=N,ct:=N,bk:=D.nx } σ H1 else D.nx σ H1
def q9u(hp:PassesOwn (model X.prog X.w) X.A X.env X.xe)(hc:PT X c S)(hb:PSs X B tb):PS X (.While c B [] pos) (tWhile S tb):=by
 intro j s σ H D I h;obtain⟨W,⟨m0,w0⟩,C⟩:=h;refine wpAny_While (codeAny_whileLoop (λn s'=>∃E T,Inv X j E T s'/\W n E T) ?_ m0 ⟨σ,H,I,w0⟩);rintro n s1 ⟨u,U,I1,w1⟩;refine Hr hp (thnT (hc j s1 u U _ I1 (C n u U w1)) λb s2 Y Z J=>?_);cases b with
 |true =>
  obtain⟨N,hN,J⟩:=J;refine Hr hp (thn (hb j s2 u Y _ Z J) λf s3 L=>?_);cases f with
  |next =>
   obtain⟨q,G,M,O⟩:=L;obtain⟨P,Q,R⟩:=hN q G O;exact⟨P,Q,q,G,M,R⟩
  |cont =>
   obtain⟨q,G,M,O⟩:=L;obtain⟨P,Q,R⟩:=hN q G O;exact⟨P,Q,q,G,M,R⟩
  |brk=>exact L
  |ret v=>exact L
 |false =>
  exact Kk ⟨u,Y,Z,J⟩
end
structure It where
 go:Nat->Hp->Prop
 yld:Nat->Hp->V->Hp->Prop
 stop:Nat->Hp->Prop
noncomputable def FpOk(X:Cx)(pins:List (Addr×Obj))(H:Hp)(b:Addr):Prop :=
 H b=none/\b≠X.env.locals/\b∉X.fs/\(b∈X.ex\/X.s₀.heap.objs.size<=b)/\(∀x c,X.env.cells.lookup x=some c->c≠b)/\∀p∈X.pn++pins,p.1≠b
def Inv.fpOk{h:St}{b:Addr}(I:Inv X pins h H s)(f:s.heap.objs.size<=b)(hn:H' b=none):FpOk X pins H' b:=by
 refine⟨hn,Ew (Cb I.lt f),I.nofs f,.inr (Cc I.sz f),λx c e z=>?_,λp hp z=>?_⟩
 ·obtain⟨v,q⟩:=I.cell x c e;exact absurd (Cb q.lt (by rw[z];exact f)) (Fq _)
 ·exact absurd (Cb (Ax (I.pin p hp).1) (by rw[z];exact f)) (Fq _)
structure Turn (P) (w) (K) (tg) (J:It) (fp:List Addr) (it) (tn:Nat->Heap->Prop):Prop where
 mem:it∈fp
 obj:∀i h,tn i h->∀b∈fp,∃o,h.get? b=some o/\∀v,o.data≠.cell v
 keep:∀i h h',tn i h->(∀b∈fp,∀o,h.get? b=some o->h'.get? b=some o)->tn i h'
 item:∀ X ,X.prog=P->X.w=w->X.K=K->X.calm=true->∀ i   pins   s  (σ:St)  H   E ,Inv X pins σ H s->(∀b∈fp,FpOk X pins H b)->tn i s.heap->J.go i H ->
  wpAny (model P w) X.A (Hb (.ref it)) (λr s1=>∃u,r=some u /\
   wpAny (model P w) X.A (Kl tg (.ref it) u) (λ_ s2=>∃x H',Inv X pins σ H' s2/\RelV x u/\J.yld i H x H'/\tn (i+1) s2.heap/\∀b∈fp,H' b=none) E s1) E s
 done:∀ X ,X.prog=P->X.w=w->X.K=K->X.calm=true->∀ i   pins   s  (σ:St)  H   E ,Inv X pins σ H s->(∀b∈fp,FpOk X pins H b)->tn i s.heap->J.stop i H ->
  wpAny (model P w) X.A (Hb (.ref it)) (λr s1=>r=none/\Inv X pins σ H s1) E s
 self:∀ A   i   s   Q   E ,tn i s.heap->Q (.ref it) s->wpAny (model P w) A (Kb (.ref it)) Q E s
noncomputable abbrev TI:=St->Hp->(It->Hp->Prop)->Prop
noncomputable def PIE(X:Cx)(pins:List (Addr×Obj))(σ:St)(tg:Expr)(R:It->Hp->Prop)(itv:Value)(s2:Ag):Prop :=
 ∃(it:Addr) (fp:List Addr) (tn:Nat->Heap->Prop) (J:It) (H':Hp),itv=.ref it/\Inv X pins σ H' s2/\Turn X.prog X.w X.K tg J fp it tn/\tn 0 s2.heap/\(∀b∈fp,FpOk X pins H' b)/\R J H'
noncomputable def PI(X:Cx)(tg iter:Expr)(wi:TI):Prop :=
 ∀ pins   s  (σ:St)  H   R ,Inv X pins σ H s->wi σ H R ->
  wpAny (model X.prog X.w) X.A (eval iter X.env) (λv s1=>wpAny (model X.prog X.w) X.A (Kb v) (PIE X pins σ tg R) X.xe s1) X.xe s
def z3f (ho : s.heap.get? it = some o) (j : o.cls = .type n) (hd : o.data = .fields vs)
    (hn : ["enumerate", "zip", "dict_itemiterator", "dict_reverseitemiterator", "odict_iterator", "itertools.zip_longest", "itertools.pairwise"].contains n = false) (f : Q () s) : wpAny M A (Kl tg (.ref it) u) Q E s := by
  cases tg <;> first
    | exact Ad f
    | (cases u <;> first
        | exact Ad f
        | (refine Ab (Sx ho ?_)
           rw [j, hd]
           show wpAny M A (if (["enumerate", "zip", "dict_itemiterator", "dict_reverseitemiterator", "odict_iterator", "itertools.zip_longest", "itertools.pairwise"].contains n && vs[0]? == some (Ee _)) = true then _ else _) Q E s
           rw [if_neg (by intro h; rw [hn, Bool.false_and] at h; cases h)]
           exact Ad f))
noncomputable def Itl(K:Al)(a:Addr):It :=
 ⟨λi H=>∃xs x,SqL K H a xs/\xs[i]?=some x,λi H x H'=>H'=H/\∀xs,SqL K H a xs->xs[i]?=some x,λi H=>∃xs,SqL K H a xs/\xs.length<=i⟩
noncomputable def Itt(K:Al)(a:Addr):It :=
 ⟨λi H=>∃xs x,SqT K H a xs/\xs[i]?=some x,λi H x H'=>H'=H/\∀xs,SqT K H a xs->xs[i]?=some x,λi H=>∃xs,SqT K H a xs/\xs.length<=i⟩
noncomputable def Itr(lo:Int)(n:Nat):It:=⟨λi _=>i<n,λi H x H'=>H'=H/\x=.int (lo+i),λi _=>n<=i⟩
def z7k{K:Al}(a j:Addr):Turn P w K tg (Itl K a) [j] j (λi h=>h.IsListIter j a i) where
 mem:=by simp
 obj:=λi h st b q=>by
  have e:b=j:=by grind
  subst e;obtain⟨o,e,c,d⟩:=st;exact⟨o,e,λv z=>by rw[d] at z;cases z⟩
 keep:=λi h G st k=>st.at λo e=>k j (by simp) o e
 item:=by
  intro X J L M hc i f s σ H E I C st O;subst J L M;obtain⟨xs,x,D,Q⟩:=O;obtain⟨R,S,p,hz⟩:=I.list D;obtain⟨u,hu,ru⟩:=S.get Q;obtain⟨T,U,f2,W,Y,Z⟩:=C j (by simp);refine Ri st p.isList (by simpa using hu) λG B sb=>?_;have I1:Inv X f σ H { s with heap:=G }:=I.turned (t':=s.toks) (λb o q e=>(sb.2 b q).trans e) T U W Y Z;obtain⟨o,e,c,d⟩:=id B;exact⟨u,rfl,z3f e c d (by decide) ⟨x,H,I1,ru,⟨rfl,λys hy=>by rw[I.list_inj hy D];exact Q⟩,B,λb q=>(C b q).1⟩⟩
 done:=by
  intro X J L M hc i f s σ H E I C st O;subst J L M;obtain⟨xs,D,Q⟩:=O;obtain⟨R,S,p,hz⟩:=I.list D;obtain⟨T,U,f2,W,Y,Z⟩:=C j (by simp);have hl:=S.length;exact Sb (I.ok.hd hc) st p.isList (by simp;lia) λG eb=>⟨rfl,I.turned (t':=s.toks) (λb o q e=>eb b o q e) T U W Y Z⟩
 self:=λ_ _ _ _ _ st h=>wpAny_pyIter_listiter st h
def z5v{K:Al}(a j:Addr):Turn P w K tg (Itt K a) [j] j (λi h=>h.IsTupleIter j a i) where
 mem:=by simp
 obj:=λi h st b B=>by
  have e:b=j:=by grind
  subst e;obtain⟨o,e,c,d⟩:=st;exact⟨o,e,λv z=>by rw[d] at z;cases z⟩
 keep:=λi h J st k=>st.at λo e=>k j (by simp) o e
 item:=by
  intro X L M O hc i f s σ H E I D st Q;subst L M O;obtain⟨xs,x,G,R⟩:=Q;obtain⟨q,S,p,hz⟩:=I.tuple G;obtain⟨u,hu,ru⟩:=S.get R;obtain⟨T,U,f2,W,Y,Z⟩:=D j (by simp);refine wpAny_pyNext_tuple_item st (show s.heap.IsTuple a q.toArray from p) (by simpa using hu) λJ C sb=>?_;have I1:Inv X f σ H { s with heap:=J }:=I.turned (t':=s.toks) (λb o B e=>(sb.2 b B).trans e) T U W Y Z;obtain⟨o,e,c,d⟩:=id C;exact⟨u,rfl,z3f e c d (by decide) ⟨x,H,I1,ru,⟨rfl,λys hy=>by rw[I.tuple_inj hy G];exact R⟩,C,λb B=>(D b B).1⟩⟩
 done:=by
  intro X L M O hc i f s σ H E I D st Q;subst L M O;obtain⟨xs,G,R⟩:=Q;obtain⟨q,S,p,hz⟩:=I.tuple G;obtain⟨T,U,f2,W,Y,Z⟩:=D j (by simp);have hl:=S.length;exact wpAny_pyNext_tuple_end (I.ok.hd hc) st (show s.heap.IsTuple a q.toArray from p) (by simp;lia) λJ eb=>⟨rfl,I.turned (t':=s.toks) (λb o B e=>eb b o B e) T U W Y Z⟩
 self:=λ_ _ _ _ _ st h=>wpAny_pyIter_tupleiter st h
def z5w{K:Nh}(f:Addr)(B:Int)(n:Nat):Turn P w K tg (Itr B n) [f] f (λi h=>IsRangeIter h f (B+(i:Nat)*1) ((n:Int)-(i:Nat)) 1) where
 mem:=by simp
 obj:=λi h st b q=>by
  have e:b=f:=by grind
  subst e;exact⟨_,st,λv z=>by
   have z':=z;cases z'⟩
 keep:=λi h D st k=>k f (by simp) _ st
 item:=by
  intro X S T U G i j s Y H E I C st J;subst S T U;obtain⟨L,M,Z,O,Q,R⟩:=C f (by simp);have W:=Walks.range (prog:=X.prog) (w:=X.w) (I.ok.hd G) f B 1 n;refine W.item i s _ _ J st λv D tk hv u kk=>?_;obtain⟨t,rfl⟩:=hv;have I1:Inv X j Y H { s with heap:=D,toks:=tk }:=I.turned (λb o q e=>kk b o (by simpa using q) e) L M O Q R;refine⟨_,rfl,z3f u rfl rfl (by decide) ⟨.int (B+i),H,I1,⟨t,?_⟩,⟨rfl,rfl⟩,u,λb q=>(C b q).1⟩⟩;rw[Int.mul_one]
 done:=by
  intro X S T U G i j s Y H E I C st J;obtain⟨L,M,Z,O,Q,R⟩:=C f (by simp);exact wpAny_pyNext_range_end (I.ok.hd G) st (by have:n<=i:=J;lia) λD eb=>⟨rfl,I.turned (t':=s.toks) (λb o q e=>eb b o q e) L M O Q R⟩
 self:=λ_ _ _ _ _ st h=>wpAny_pyIter_rangeiter st h
section
variable{X:Cx}{tg:Expr}
def x1h{h:St}(I:Inv X pins h H s)(B : -(2^62)<=f)(C:f<2^62)(D : -(2^62)<=hi)(G:hi<2^62)(q:R (Itr f (hi-f).toNat) H):wpAny (model X.prog X.w) X.A (Kb (.ref s.heap.objs.size)) (PIE X pins h tg R) E { s with heap:=s.heap.push { cls:=.type "range",data:=.fields #[.int f t,.int hi u,.int 1 v] },toks:=tk }:=by
 refine wpAny_pyIter_range (IsRange.new ..) (small_one B C D G) ?_;have j:Inv X pins h H { s with heap:=s.heap.push { cls:=.type "range",data:=.fields #[.int f t,.int hi u,.int 1 v] },toks:=tk }:=I.kept λb o e=>Ai _ e;refine⟨(s.heap.push { cls:=.type "range",data:=.fields #[.int f t,.int hi u,.int 1 v] }).objs.size,[(s.heap.push { cls:=.type "range",data:=.fields #[.int f t,.int hi u,.int 1 v] }).objs.size],_,_,H,rfl,
  j.kept (t':=tk) λb o e=>Ai _ e,z5w _ f (hi-f).toNat,?_,λb J=>?_,q⟩
 ·have L:f+((0:Nat):Int)*1=f:=by simp
  have M:(((hi-f).toNat:Nat):Int)-((0:Nat):Int)=Dk.Range.rangeSize f hi 1:=by rw[rangeSize_one];split<;>lia
  rw[L,M];exact As _ rfl
 ·have e:b=(s.heap.push { cls:=.type "range",data:=.fields #[.int f t,.int hi u,.int 1 v] }).objs.size:=by simpa using J
  subst e;exact j.fpOk (Aq _) (j.hok.fresh (Aq _))
noncomputable def iRng1(ta:TA):TI:=λσ H R=>ta σ H λvs H1=>∃j,vs=[.int j] /\ -(2^62)<=j/\j<2^62/\R (Itr 0 j.toNat) H1
def q4j(C:Gl X "range")(D:X.mg "range" = none)(ha:PA X [a] B)(hs:Bp [a] X.env=[(false,eval a X.env)]:=by rfl):PI X tg (.Call (.Name "range" p) [a] [] f) (iRng1 B):=by
 intro u s E H R I h;refine Call_ (q7j I C D boot_range (Es (thn (ha f u s E H _ I h) λO P G=>?_) hs rfl));obtain⟨vs,Q,J,L,v⟩:=G;obtain⟨j,e,v,M,q⟩:=v;subst e;cases L with
 |cons r rr =>
  cases rr;obtain⟨t,rfl⟩:=r;exact call_range_1 (x1h J (by lia) (by lia) v M (by simpa using q))
noncomputable def tFor(wi:TI)(g:TG)(tb:TS):TS:=λD σ H=>wi σ H λJ H1=>∃W:Nat->Nat->St->Hp->Prop,(∃m,W 0 m σ H1)/\∀i m σ H,W i m σ H ->
 (J.stop i H/\D.nx σ H)\/(J.go i H/\∃N,(∀σ' H',N σ' H'->∃m',m'<m/\W (i+1) m' σ' H')/\∀x H',J.yld i H x H'->g x σ H' λσ2 H2=>tb { D with nx:=N,ct:=N,bk:=D.nx } σ2 H2)
noncomputable def pinsAt(fp:List Addr)(h:Heap):List (Addr×Obj):=fp.filterMap λb=>(h.get? b).map λo=>(b,o)
def q3c(f:b∈fp)(e:h.get? b=some o):(b,o)∈pinsAt fp h:=Kr.mpr ⟨b,f,by rw[e];rfl⟩
def z7l(hp:p∈pinsAt fp h):p.1∈fp/\h.get? p.1=some p.2:=by
 obtain⟨b,f,e⟩:=Kr.mp hp;cases q:h.get? b with
 |none=>rw[q] at e;cases e
 |some o =>
  rw[q] at e;have e':=Bx e;subst e';exact⟨f,q⟩
def Inv.pinned{f:St}(I:Inv X pins f H s)(q:∀b∈fp,FpOk X pins H b)(ho:∀b∈fp,∃o,s.heap.get? b=some o/\∀v,o.data≠.cell v):Inv X (pins++pinsAt fp s.heap) f H s :=
 I.pins_of λp hp=>(Ao.mp hp).elim (λz=>I.pin p (Bo _ z)) λz=>by
  obtain⟨h,e⟩:=z7l z;obtain⟨u,B,C,_⟩:=q p.1 h;obtain⟨o,j,d⟩:=ho p.1 h;rw[e] at j;cases j;exact⟨e,u,B,C,d⟩
def Inv.unpinned{f:St}(I:Inv X (pins++pl) f H s):Inv X pins f H s:=I.pins_of λp hp=>I.pin p (Bo _ (Cp _ hp))
def q1k(hp:PassesOwn (model X.prog X.w) X.A X.env X.xe)(hc:X.calm=true)(hi:PI X tg B wi)(hg:PG X tg g)(C:PSs X R tb)(hs:∀x,Jm B X.env x=pure x:=by intro _;rfl):PS X (.For tg B R [] a2) (tFor wi g tb):=by
 intro j s σ H D I h;refine wpAny_For (thn (hi j s σ H _ I h) λv s1 h1=>thn h1 λa6 s2 h2=>?_) hs;obtain⟨it,Y,tn,J,H2,e,I2,T,a3,f2,W,⟨m0,w0⟩,Z⟩:=h2;subst e;have E:∀{Q:Hp},(∀b∈Y,Q b=none)->∀b∈Y,FpOk X j Q b:=λhn b C=>⟨hn b C,(f2 b C).2⟩
 refine codeAny_forLoop_any (λn s'=>∃i G Q,Inv X j G Q s'/\tn i s'.heap/\(∀b∈Y,Q b=none)/\W i n G Q) ?_ m0 ⟨0,σ,H2,I2,a3,λb C=>(f2 b C).1,w0⟩;rintro n s3 ⟨i,L,H3,I3,a0,a1,w3⟩;rcases Z i n L H3 w3 with⟨stop,qn⟩|⟨go,N,hN,step⟩
 ·refine Hr hp (thn (T.done X rfl rfl rfl hc i j s3 L H3 X.xe I3 (E a1) a0 stop) λr s4 ⟨hr,I4⟩=>?_);subst hr;exact Kk ⟨L,H3,I4,qn⟩
 ·refine Hr hp (thn (T.item X rfl rfl rfl hc i j s3 L H3 X.xe I3 (E a1) a0 go) λr s4 qz=>?_);obtain⟨u,hr,h4⟩:=qz;subst hr;refine Hr hp (thn h4 λ_ s5 qz=>?_);obtain⟨x,H5,I5,r5,y5,U,a4⟩:=qz;have I5':=I5.pinned (E a4) (T.obj _ _ U);refine Hr hp (thn (hg _ s5 L H5 x u _ I5' r5 (step x H5 y5)) λ_ s6 qz=>?_);obtain⟨a5,H6,I6,q6⟩:=qz;refine Hr hp (thn (C _ s6 a5 H6 _ I6 q6) λf s7 S=>?_);have M:∀{q:St} {O:Hp},Inv X (j++pinsAt Y s5.heap) q O s7->N q O->∃m,m<n/\∃i G Q,Inv X j G Q s7/\tn i s7.heap/\(∀b∈Y,Q b=none)/\W i m G Q:=λ{q O} P n7=>by
   obtain⟨m',hm,w7⟩:=hN q O n7;refine⟨m',hm,i+1,q,O,P.unpinned,T.keep _ _ _ U λb C o e=>(P.pin (b,o) (Bo _ (Bo _ (q3c C e)))).1,λb C=>?_,w7⟩;obtain⟨o,e,d⟩:=T.obj _ _ U b C;exact(P.pin (b,o) (Bo _ (Bo _ (q3c C e)))).2.1
  cases f with
  |next=>obtain⟨q,O,P,n7⟩:=S;exact M P n7
  |cont=>obtain⟨q,O,P,n7⟩:=S;exact M P n7
  |brk=>obtain⟨q,O,P,S⟩:=S;exact⟨q,O,P.unpinned,S⟩
  |ret v=>obtain⟨x7,q,O,P,r7,S⟩:=S;exact⟨x7,q,O,P.unpinned,r7,S⟩
end
def q3m{K}{g:TG}{tb:TS}{D:Ends}(h:Nat->St->Hp->Prop)(h0:h 0 f H)(hl:∀i f H,i<=xs.length->h i f H->SqL K H a xs)(hs:∀i x f H,xs[i]?=some x->h i f H->g x f H λj B=>tb { D with nx:=h (i+1),ct:=h (i+1),bk:=D.nx } j B)(hd:∀f H,h xs.length f H->D.nx f H):
  ∃W:Nat->Nat->St->Hp->Prop,(∃m,W 0 m f H)/\∀i m f H,W i m f H ->
   ((Itl K a).stop i H/\D.nx f H)\/((Itl K a).go i H/\∃N,(∀u H',N u H'->∃C,C<m/\W (i+1) C u H')/\∀x H',(Itl K a).yld i H x H'->g x f H' λj B=>tb { D with nx:=N,ct:=N,bk:=D.nx } j B):=by
 refine⟨λi m f H=>m=xs.length-i/\i<=xs.length/\h i f H,⟨xs.length,by simp,Bv _,h0⟩,?_⟩;rintro i m f H ⟨rfl,E,p⟩;have q:=hl i f H E p;by_cases v:i<xs.length
 ·refine .inr ⟨⟨xs,xs[i],q,by simp[v]⟩,h (i+1),λu H' G=>⟨xs.length-(i+1),by lia,rfl,v,G⟩,λx H' y=>?_⟩;obtain⟨e,y⟩:=y;subst e;exact hs i x f _ (y xs q) p
 ·have e:i=xs.length:=by lia
  subst e;exact .inl ⟨⟨xs,q,Aq _⟩,hd f H p⟩
def q5n{g:TG}{tb:TS}{D:Ends}(h:Nat->St->Hp->Prop)(h0:h 0 f H)(hs:∀i f H,i<n->h i f H->g (.int (v+i)) f H λj B=>tb { D with nx:=h (i+1),ct:=h (i+1),bk:=D.nx } j B)(hd:∀f H,h n f H->D.nx f H):
  ∃W:Nat->Nat->St->Hp->Prop,(∃m,W 0 m f H)/\∀i m f H,W i m f H ->
   ((Itr v n).stop i H/\D.nx f H)\/((Itr v n).go i H/\∃N,(∀q H',N q H'->∃C,C<m/\W (i+1) C q H')/\∀x H',(Itr v n).yld i H x H'->g x f H' λj B=>tb { D with nx:=N,ct:=N,bk:=D.nx } j B):=by
 refine⟨λi m f H=>m=n-i/\i<=n/\h i f H,⟨n,by simp,Bv _,h0⟩,?_⟩;rintro i m f H ⟨rfl,G,p⟩;by_cases u:i<n
 ·refine .inr ⟨u,h (i+1),λq H' E=>⟨n-(i+1),by lia,rfl,u,E⟩,λx H' y=>?_⟩;obtain⟨e,y⟩:=y;subst e y;exact hs i f _ u p
 ·have e:i=n:=by lia
  subst e;exact .inl ⟨Aq _,hd f H p⟩
def q9v(u:St->Hp->Prop)(v:St->Hp->Nat)(h0:u f H)(hs:∀f H,u f H->c f H λb j=>if b=true then tb { D with nx:=λh H'=>u h H'/\v h H'<v f H,ct:=λh H'=>u h H'/\v h H'<v f H,bk:=D.nx } f j else D.nx f j)(mono:∀f H Q B,(∀b j,Q b j->B b j)->c f H Q->c f H B):tWhile c tb D f H:=by
 refine⟨λm f H=>m=v f H/\u f H,⟨_,rfl,h0⟩,?_⟩;rintro m f H ⟨rfl,p⟩;refine mono f H _ _ (λb j q=>?_) (hs f H p);cases b with
 |true=>exact⟨_,λh H' ⟨C,l⟩=>⟨_,l,rfl,C⟩,q⟩
 |false=>exact q
noncomputable abbrev R2:=V->V->Hp->VK->Prop
noncomputable def OpR(X:Cx)(f:Value->Value->Sem Value)(r:R2):Prop :=
 ∀ pins   s  (σ:St)  H  (x y) (v u)  Q ,Inv X pins σ H s->RelV x v->RelV y u->r x y H Q ->
  wpAny (model X.prog X.w) X.A (f v u) (EP X pins σ Q) X.xe s
noncomputable def UnR(X:Cx)(f:Value->Sem Value)(r:V->Hp->VK->Prop):Prop :=
 ∀ pins   s  (σ:St)  H   x   v   Q ,Inv X pins σ H s->RelV x v->r x H Q ->
  wpAny (model X.prog X.w) X.A (f v) (EP X pins σ Q) X.xe s
noncomputable def CallR(X:Cx)(f:Value)(r:List V->Hp->VK->Prop):Prop :=
 ∀ pins   s  (σ:St)  H   xs   us   Q ,Inv X pins σ H s->Vals xs us->r xs H Q ->
  wpAny (model X.prog X.w) X.A (call f us) (EP X pins σ Q) X.xe s
noncomputable def TruR(X:Cx)(r:V->Hp->(Bool->Hp->Prop)->Prop):Prop :=
 ∀ pins   s  (σ:St)  H   x   v   Q ,Inv X pins σ H s->RelV x v->r x H Q ->
  wpAny (model X.prog X.w) X.A (truthy v) (TP X pins σ Q) X.xe s
noncomputable def tOp(r:R2)(ta tb:TE):TE:=λσ H Q=>ta σ H λx H1=>tb σ H1 λy H2=>r x y H2 Q
noncomputable def tUn(r:V->Hp->VK->Prop)(ta:TE):TE:=λσ H Q=>ta σ H λx H1=>r x H1 Q
noncomputable def rI(C:Int->Int->Prop)(g:Int->Int->V):R2:=λx y H Q=>∃i j,x=.int i/\y=.int j/\C i j/\Q (g i j) H
noncomputable def rI0(g:Int->Int->V):R2:=λx y H Q=>∃i j,x=.int i/\y=.int j/\Q (g i j) H
noncomputable def rU(g:Int->V):V->Hp->VK->Prop:=λx H Q=>∃i,x=.int i/\Q (g i) H
section
variable{X:Cx}{a b c:Expr}{ta tb tc:TE}{pos:Pos}
def binT(ha:PE X a ta)(G:PE X b tb){j:St}{R:V->V->Hp->Prop}(I:Inv X pins j H s)(h:ta j H λx E=>tb j E λy q=>R x y q){f:Value->Value->Sem Value}(J:∀v u D x y q,Inv X pins j q D->RelV x v->RelV y u->R x y q->wpAny (model X.prog X.w) X.A (f v u) Q X.xe D):
  wpAny (model X.prog X.w) X.A (eval a X.env) (λv B=>wpAny (model X.prog X.w) X.A (eval b X.env) (λu C=>wpAny (model X.prog X.w) X.A (f v u) Q X.xe C) X.xe B) X.xe s:=by
 refine thnE (ha pins s j H _ I h) λv L x E M O P=>?_;refine thnE (G pins L j E _ M P) λu D y q S T U=>?_;exact J v u D x y q S O T U
def q1l(ho:OpR X (Hd op) r)(ha:PE X a ta)(j:PE X b tb):PE X (.BinOp a op b pos) (tOp r ta tb):=by
 intro f s B H Q I h;exact wpAny_BinOp (binT ha j I h λv u C x y D E G J q=>ho f C B D x y v u Q E G J q)
def q1i(ho:UnR X (unaryOp op) r)(ha:PE X a ta):PE X (.UnaryOp op a pos) (tUn r ta):=by
 intro f s j H Q I h;exact UnaryOp_ (thnE (ha f s j H _ I h) λv q x u B C D=>ho f q j u x v Q B C D)
def opI{g:Int->Int->Int}(B:∀(i j) (t u)  s   Q   E ,C i j->Q (.int (g i j) s.toks) { s with toks:=s.toks+1 }->wpAny (model X.prog X.w) X.A (f (.int i t) (.int j u)) Q E s):
  OpR X f (rI C λi j=>.int (g i j)):=by
 intro D s O H x y v u Q I G J h;obtain⟨i,j,rfl,rfl,L,q⟩:=h;obtain⟨t,rfl⟩:=G;obtain⟨M,rfl⟩:=J;exact B i j t M s _ _ L ⟨.int (g i j),H,I.tok _,⟨_,rfl⟩,q⟩
def opI0{g:Int->Int->Int}(B:∀(i j) (t u)  s   Q   E ,Q (.int (g i j) s.toks) { s with toks:=s.toks+1 }->wpAny (model X.prog X.w) X.A (f (.int i t) (.int j u)) Q E s):
  OpR X f (rI0 λi j=>.int (g i j)):=by
 intro C s L H x y v u Q I D G h;obtain⟨i,j,rfl,rfl,q⟩:=h;obtain⟨t,rfl⟩:=D;obtain⟨J,rfl⟩:=G;exact B i j t J s _ _ ⟨.int (g i j),H,I.tok _,⟨_,rfl⟩,q⟩
def opB0{g:Int->Int->Bool}(B:∀(i j) (t u)  s   Q   E ,Q (.bool (g i j)) s->wpAny (model X.prog X.w) X.A (f (.int i t) (.int j u)) Q E s):
  OpR X f (rI0 λi j=>.bl (g i j)):=by
 intro C s L H x y v u Q I D G h;obtain⟨i,j,rfl,rfl,q⟩:=h;obtain⟨t,rfl⟩:=D;obtain⟨J,rfl⟩:=G;exact B i j t J s _ _ ⟨.bl (g i j),H,I,rfl,q⟩
noncomputable def CDiv(i j:Int):Prop:=0<j/\j<1073741824
noncomputable def CPow(i j:Int):Prop:=0<=j/\j<=1000000/\i.natAbs<2^64
noncomputable def CMul(i j:Int):Prop:=(-(2^64)<i/\i<2^64)\/(-(2^64)<j/\j<2^64)
def CMul.ok(h:CMul i j):IntMulOk i j:=by
 rcases h with⟨f,q⟩|⟨f,q⟩
 ·exact .of_left (intBits_le_64 f q)
 ·exact .of_right (intBits_le_64 f q)
def op_add:OpR X (Hd .Add) (rI0 λi j=>.int (i+j)):=opI0 λ_ _ _ _ _ _ _ q=>add_int q
def op_mul:OpR X (Hd .Mult) (rI CMul λi j=>.int (i*j)):=opI λ_ _ _ _ _ _ _ f q=>mul_int q f.ok
def z7m:OpR X (Hd .FloorDiv) (rI CDiv λi j=>.int (i / j)):=opI λi j _ _ _ _ _ f q=>by
 have h:=f.1;have u:=f.2;exact floordiv_int (by lia) (by rw[Int.fdiv_eq_ediv_of_nonneg i (by lia)];exact q) (.inl (PyProof.noPylong_small (by lia)))
def q8u:OpR X (Hd .Mod) (rI (λ_ j=>0<j) λi j=>.int (i%j)):=opI λi j _ _ _ _ _ f q=>by
 exact mod_int' (by lia) (by rw[Int.fmod_eq_emod_of_nonneg i (by lia)];exact q)
def x3n:OpR X (Hd .Pow) (rI CPow λi j=>.int (i^j.toNat)):=opI λ_ _ _ _ _ _ _ f q=>pow_int_small f.1 f.2.1 f.2.2 q
def x4q:OpR X (inplaceOp .Add) (rI0 λi j=>.int (i+j)):=opI0 λ_ _ _ _ _ _ _ q=>iadd_int q
def unI{g:Int->Int}(j:∀ i   t   s   Q   E ,Q (.int (g i) s.toks) { s with toks:=s.toks+1 }->wpAny (model X.prog X.w) X.A (f (.int i t)) Q E s):
  UnR X f (rU λi=>.int (g i)):=by
 intro u s C H x v Q I B h;obtain⟨i,rfl,q⟩:=h;obtain⟨t,rfl⟩:=B;exact j i t s _ _ ⟨.int (g i),H,I.tok _,⟨_,rfl⟩,q⟩
def q0t:UnR X (unaryOp .USub) (rU λi=>.int (-i)):=unI λ_ _ _ _ _ q=>neg_int q
end
noncomputable def scal:V->V->Bool
 |.non,.non=>true|.non,.int _=>true|.int _,.non=>true|.non,.bl _=>true|.bl _,.non=>true|.non,.str _=>true|.str _,.non=>true
 |.int _,.int _=>true|.bl _,.bl _=>true|.str _,.str _=>true|.byt _,.byt _=>true
 |.int _,.str _=>true|.str _,.int _=>true|.bl _,.str _=>true|.str _,.bl _=>true
 |_,_=>false
noncomputable def rEq:R2:=λx y H Q=>scal x y=true/\Q (.bl (decide (x=y))) H
noncomputable def rNe:R2:=λx y H Q=>scal x y=true/\Q (.bl (!decide (x=y))) H
def z7n:decide (V.int i=V.int j)=(i==j):=by
 rw[Ni];simp
def x3o:decide (V.bl i=V.bl j)=(i==j):=by
 rw[Ni];simp
def z7o:decide (V.str i=V.str j)=(i==j):=by
 rw[Ni];simp
def z7p:decide (V.byt i=V.byt j)=(i.toList==j.toList):=by
 rw[Ni];cases i;cases j;simp
section
variable{X:Cx}{a b c:Expr}{ta tb tc:TE}{pos:Pos}
def q1e{f:St}(I:Inv X pins f H s)(q:Q (.bl k) H)(e:k=k'):EP X pins f Q (.bool k') s:=by
 subst e;exact⟨.bl k,H,I,rfl,q⟩
def op_eq:OpR X (Cz .Eq) rEq:=by
 intro D s E H x y v u Q I C f h;obtain⟨hs,q⟩:=h;cases x with
 |non =>
  cases C;cases y with
  |non=>cases f;exact PySem.EqNone.eq_none_none (q1e I q (by simp))
  |bl j=>cases f;exact PySem.EqNone.eq_none_bool (q1e I q (by simp))
  |int j=>obtain⟨B,rfl⟩:=f;exact PySem.EqNone.eq_none_int (q1e I q (by simp))
  |str j=>obtain⟨B,rfl⟩:=f;exact PySem.EqNone.eq_none_str (q1e I q (by simp))
  |_=>exact absurd (show false=true from hs) Bq
 |bl i =>
  cases C;cases y with
  |non=>cases f;exact PySem.EqNone.eq_bool_none (q1e I q (by simp))
  |bl j=>cases f;exact eq_bool (q1e I q x3o)
  |str j=>obtain⟨B,rfl⟩:=f;exact PySem.EqMixed.eq_bool_str (q1e I q (by simp))
  |_=>exact absurd (show false=true from hs) Bq
 |int i =>
  obtain⟨t,rfl⟩:=C;cases y with
  |non=>cases f;exact PySem.EqNone.eq_int_none (q1e I q (by simp))
  |int j=>obtain⟨B,rfl⟩:=f;exact eq_int (q1e I q z7n)
  |str j=>obtain⟨B,rfl⟩:=f;exact PySem.EqMixed.eq_int_str (q1e I q (by simp))
  |_=>exact absurd (show false=true from hs) Bq
 |str i =>
  obtain⟨t,rfl⟩:=C;cases y with
  |non=>cases f;exact PySem.EqNone.eq_str_none (q1e I q (by simp))
  |bl j=>cases f;exact PySem.EqMixed.eq_str_bool (q1e I q (by simp))
  |int j=>obtain⟨B,rfl⟩:=f;exact PySem.EqMixed.eq_str_int (q1e I q (by simp))
  |str j=>obtain⟨B,rfl⟩:=f;exact eq_str (q1e I q z7o)
  |_=>exact absurd (show false=true from hs) Bq
 |byt i =>
  obtain⟨t,rfl⟩:=C;cases y with
  |byt j=>obtain⟨B,rfl⟩:=f;exact W.eq_bytes (q1e I q z7p)
  |_=>exact absurd (show false=true from hs) Bq
 |_=>cases y<;>exact absurd (show false=true from hs) Bq
def op_ne:OpR X (Cz .NotEq) rNe:=by
 intro D s E H x y v u Q I C f h;obtain⟨hs,q⟩:=h;cases x with
 |non =>
  cases C;cases y with
  |non=>cases f;exact PySem.EqNone.ne_none_none (q1e I q (by simp))
  |bl j=>cases f;exact PySem.EqNone.ne_none_bool (q1e I q (by simp))
  |int j=>obtain⟨B,rfl⟩:=f;exact PySem.EqNone.ne_none_int (q1e I q (by simp))
  |str j=>obtain⟨B,rfl⟩:=f;exact PySem.EqNone.ne_none_str (q1e I q (by simp))
  |_=>exact absurd (show false=true from hs) Bq
 |bl i =>
  cases C;cases y with
  |non=>cases f;exact PySem.EqNone.ne_bool_none (q1e I q (by simp))
  |bl j=>cases f;exact ne_bool (q1e I q (congrArg not x3o))
  |str j=>obtain⟨B,rfl⟩:=f;exact PySem.EqMixed.ne_bool_str (q1e I q (by simp))
  |_=>exact absurd (show false=true from hs) Bq
 |int i =>
  obtain⟨t,rfl⟩:=C;cases y with
  |non=>cases f;exact PySem.EqNone.ne_int_none (q1e I q (by simp))
  |int j=>obtain⟨B,rfl⟩:=f;exact ne_int (q1e I q (congrArg not z7n))
  |str j=>obtain⟨B,rfl⟩:=f;exact PySem.EqMixed.ne_int_str (q1e I q (by simp))
  |_=>exact absurd (show false=true from hs) Bq
 |str i =>
  obtain⟨t,rfl⟩:=C;cases y with
  |non=>cases f;exact PySem.EqNone.ne_str_none (q1e I q (by simp))
  |bl j=>cases f;exact PySem.EqMixed.ne_str_bool (q1e I q (by simp))
  |int j=>obtain⟨B,rfl⟩:=f;exact PySem.EqMixed.ne_str_int (q1e I q (by simp))
  |str j=>obtain⟨B,rfl⟩:=f;exact ne_str (q1e I q (congrArg not z7o))
  |_=>exact absurd (show false=true from hs) Bq
 |byt i =>
  obtain⟨t,rfl⟩:=C;cases y with
  |byt j=>obtain⟨B,rfl⟩:=f;exact W.ne_bytes (q1e I q (congrArg not z7p))
  |_=>exact absurd (show false=true from hs) Bq
 |_=>cases y<;>exact absurd (show false=true from hs) Bq
def x1i:OpR X (Cz .Lt) (rI0 λi j=>.bl (decide (i<j))):=opB0 λ_ _ _ _ _ _ _ q=>lt_int q
def x4r:OpR X (Cz .Gt) (rI0 λi j=>.bl (decide (j<i))):=opB0 λ_ _ _ _ _ _ _ q=>gt_int q
def op_in_str:OpR X (Cz .In) (λx y H Q=>∃i j,x=.str i/\y=.str j/\Q (.bl (!(Qp j i 0 j.length 1).isEmpty)) H):=by
 intro f s D H x y v u Q I B C h;obtain⟨i,j,rfl,rfl,q⟩:=h;obtain⟨t,rfl⟩:=B;obtain⟨E,rfl⟩:=C;exact in_str (q1e I q rfl)
def OpR.or(h:OpR X f r)(h':OpR X f r'):OpR X f (λx y H Q=>r x y H Q\/r' x y H Q):=by
 intro j s B H x y v u Q I C D q;rcases q with q|q
 ·exact h j s B H x y v u Q I C D q
 ·exact h' j s B H x y v u Q I C D q
def nomark(b)(h:op≠.In:=by decide)(q:op≠.NotIn:=by decide):Hz op b=false:=by
 have f:(op==CmpOp.In)=false:=by grind
 have j:(op==CmpOp.NotIn)=false:=by grind
 cases b<;>simp[Hz,f,j]
def q5c(ho:OpR X (Cz op) r)(ha:PE X a ta)(j:PE X b tb)(B:Hz op b=false):PE X (.Compare a [op] [b] pos) (tOp r ta tb):=by
 intro f s C H Q I h;exact wpAny_Compare1 (binT ha j I h λv u D x y E G J L q=>ho f D C E x y v u Q G J L q) B
noncomputable def tTest(t:TE):TT:=λσ H Q=>t σ H λx H'=>∃k,x=.bl k/\Q k H'
def q0n(ho:OpR X (Cz op) r)(ha:PE X a ta)(q:PE X b tb)(B:Hz op b=false):PT X (.Compare a [op] [b] pos) (tTest (tOp r ta tb)):=by
 intro f s j H Q I h;refine Sa (thnE (ha f s j H _ I h) λv C x D E G J=>thnE (q f C j D _ E J) λu L y M O P R =>
  thnE (ho f L j M x y v u _ O G P R) λc Y z S T U ⟨k,e,W⟩=>?_) B
 subst e;cases U;exact Cy ⟨S,T,W⟩
noncomputable def TruV(K:Al)(x:V)(H:Hp)(k:Bool):Prop :=
 match x with
 |.non=>k=false
 |.bl b=>k=b
 |.int i=>k=(i != 0)
 |.str y=>y.length<=sizeLine/\k=((y.length:Int) != 0)
 |.byt y=>y.size<=sizeLine/\k=((y.size:Int) != 0)
 |.ref p=>(∃xs,SqL K H p xs/\k = !xs.isEmpty)\/(∃xs,SqT K H p xs/\k = !xs.isEmpty)\/∃kvs,H p=some (.dK kvs)/\k = !kvs.isEmpty
 |_=>False
def z5x{f:List (κ×V)}(r:KV f vs):(!vs.isEmpty) = !f.isEmpty:=by
 cases r<;>rfl
def q8v(r:Vals xs its):(!its.toArray.isEmpty) = !xs.isEmpty:=by
 cases r<;>simp
def line63:(sizeLine)<2^63:=by rw[Ey];decide
def tru_ok:TruR X (λx H Q=>∃k,TruV X.K x H k/\Q k H):=by
 intro E s O H x v Q I u h;obtain⟨k,e,q⟩:=h;have hs:=Ey;cases x with
 |non =>
  cases u;have f:=e;subst f;exact truthy_none ⟨H,I,q⟩
 |bl b =>
  cases u;have f:=e;subst f;exact Cy ⟨H,I,q⟩
 |int i =>
  obtain⟨t,rfl⟩:=u;have f:=e;subst f;exact PySem.P.truthy_int ⟨H,I,q⟩
 |str y =>
  obtain⟨t,rfl⟩:=u;obtain⟨J,f⟩:y.length<=sizeLine/\k=((y.length:Int) != 0):=e;subst f;exact PySem.P.truthy_str (by lia) ⟨H,I.tok _,q⟩
 |byt y =>
  obtain⟨t,rfl⟩:=u;obtain⟨J,f⟩:y.size<=sizeLine/\k=((y.size:Int) != 0):=e;subst f;exact W.truthy_bytes (by lia) ⟨H,I.tok _,q⟩
 |ref p =>
  cases u;have f:=e;rcases f with⟨L,B,f⟩|⟨L,B,f⟩|⟨C,B,f⟩
  ·subst f;obtain⟨D,r,pl,G⟩:=I.list B;have j:=r.length;exact wpAny_truthy_list pl.isList (by simp only[Bj];lia) ⟨H,I.tok _,by rw[q8v r];exact q⟩
  ·subst f;obtain⟨D,r,pl,G⟩:=I.tuple B;have j:=r.length;exact truthy_tuple pl (by simp only[Bj];lia) ⟨H,I.tok _,by rw[q8v r];exact q⟩
  ·subst f;obtain⟨G,M,vs,r,m⟩:C.length<=sizeLine/\(p==Eh)=false/\∃vs,KV C vs/\s.heap.DictOf (mixKind X.prog X.w) p vs:=I.hok p _ B;have j:=Eu r;exact wpAny_truthy_dict M m (by lia) ⟨H,I.tok _,by rw[z5x r];exact q⟩
 |_=>exact(show False from e).elim
def x1j(ha:PE X a ta)(u:∀f,isTrue a X.env f=(do let v<-f;Pw a.pos;Lg [v] (truthy v))):
  PT X a (λq H Q=>ta q H λx H'=>∃k,TruV X.K x H' k/\Q k H'):=by
 intro j s q H Q I h;exact isTrue_plain (thnE (ha j s q H _ I h) λv B x C D E G=>tru_ok j B q C x v Q D E G) (u _)
def op_add_str:OpR X (Hd .Add) (λx y H Q=>∃i j,x=.str i/\y=.str j/\i.length+j.length<=sizeLine/\Q (.str (i++j)) H):=by
 intro f s G H x y v u Q I B C h;obtain⟨i,j,rfl,rfl,D,q⟩:=h;obtain⟨t,rfl⟩:=B;obtain⟨E,rfl⟩:=C;exact add_str (λE tk=>⟨.str (i++j),H,I.tok _,⟨_,rfl⟩,q⟩) D
def vals1(r:Vals [x] us):∃u,us=[u]/\RelV x u:=by
 cases r with
 |cons r1 r2=>cases r2;exact⟨_,rfl,r1⟩
def vals2(r:Vals [x,y] us):∃u f,us=[u,f]/\RelV x u/\RelV y f:=by
 cases r with
 |cons r1 r2 =>
  cases r2 with
  |cons r3 r4=>cases r4;exact⟨_,_,rfl,r1,r3⟩
def z7q(B:X.calm=true):CallR X (.builtin "max") (λxs H Q=>∃i j,xs=[.int i,.int j]/\Q (.int (if j>i then j else i)) H):=by
 intro v s C H xs D Q I r h;obtain⟨i,j,rfl,q⟩:=h;obtain⟨u,E,rfl,⟨t,rfl⟩,⟨G,rfl⟩⟩:=vals2 r;refine max_two_ints (I.ok.hd B) λJ tk k=>⟨_,H,I.kept k,?_,q⟩
 by_cases f:j>i
 ·rw[if_pos f,if_pos f];exact⟨_,rfl⟩
 ·rw[if_neg f,if_neg f];exact⟨_,rfl⟩
def z7r(B:X.calm=true):CallR X (.builtin "min") (λxs H Q=>∃i j,xs=[.int i,.int j]/\Q (.int (if j<i then j else i)) H):=by
 intro v s C H xs D Q I r h;obtain⟨i,j,rfl,q⟩:=h;obtain⟨u,E,rfl,⟨t,rfl⟩,⟨G,rfl⟩⟩:=vals2 r;refine min_two_ints (I.ok.hd B) λJ tk k=>⟨_,H,I.kept k,?_,q⟩
 by_cases f:j<i
 ·rw[if_pos f,if_pos f];exact⟨_,rfl⟩
 ·rw[if_neg f,if_neg f];exact⟨_,rfl⟩
noncomputable def LenV(K:Al)(x:V)(H:Hp)(n:Nat):Prop :=
 match x with
 |.str y=>y.length<=sizeLine/\n=y.length
 |.byt y=>y.size<=sizeLine/\n=y.size
 |.ref p=>(∃xs,SqL K H p xs/\n=xs.length)\/∃xs,SqT K H p xs/\n=xs.length
 |_=>False
def x1k:CallR X (.builtin "len") (λxs H Q=>∃x n,xs=[x]/\LenV X.K x H n/\Q (.int n) H):=by
 intro E s L H xs M Q I r h;obtain⟨x,n,rfl,e,q⟩:=h;obtain⟨u,rfl,v⟩:=vals1 r;have hs:=Ey;cases x with
 |str y =>
  obtain⟨t,rfl⟩:=v;obtain⟨G,j⟩:y.length<=sizeLine/\n=y.length:=e;subst j;exact len_str (by lia) ⟨.int _,H,I.tok _,⟨_,rfl⟩,q⟩
 |byt y =>
  obtain⟨t,rfl⟩:=v;obtain⟨G,j⟩:y.size<=sizeLine/\n=y.size:=e;subst j;exact W.len_bytes (by lia) ⟨.int _,H,I.tok _,⟨_,rfl⟩,q⟩
 |ref p =>
  cases v;have j:=e;rcases j with⟨xs,B,j⟩|⟨xs,B,j⟩
  ·subst j;obtain⟨C,D,pl,J⟩:=I.list B;have f:=D.length;exact Calls.call_len_list pl.isList (by simp only[Bj];lia) ⟨.int xs.length,H,I.tok _,⟨_,by simp only[Bj];rw[f]⟩,q⟩
  ·subst j;obtain⟨C,D,pl,J⟩:=I.tuple B;have f:=D.length;exact len_tuple pl (by simp only[Bj];lia) ⟨.int xs.length,H,I.tok _,⟨_,by simp only[Bj];rw[f]⟩,q⟩
 |_=>exact(show False from e).elim
end
structure ObjM (h:Heap) (x dx C) (mA):Prop where
 obj:h.get? x=some (Kp C dx)
 ns:h.Ns1 dx mA
 ne:dx≠x
def z7s{h:Heap}(n:h.Ns1 dx mA):∃j,h.get? dx=some j/\∀name,Vn name j=some (mA name):=by
 obtain⟨o,u,C,ho,hd,hk,_,v⟩:=n;refine⟨o,ho,λname=>?_⟩;have e:=v name;unfold nsFind findBy at e;rw[<- Array.find?_toList] at e;unfold Vn;rw[hd];dsimp only;split
 ·grind
 ·rename_i q;rw[q] at e;have a:u.toList.any (·.refKey)=false:=by
   rw[Uu];intro y B;obtain⟨z,t,f⟩:=hk y (Array.mem_toList_iff.mp B);simp[Mx.refKey,f]
  have a':¬u.toList.any (·.refKey)=true:=by grind
  rw[if_neg a'];exact congrArg some e
def ObjM.look(I:ObjM h x dx C mA):∃f,W.InstAt h x (Kp C dx) C (some f)/\∀name,Vn name f=some (mA name) :=
 let ⟨f,ho,hl⟩:=z7s I.ns
 ⟨f,⟨I.obj,rfl,rfl,ho⟩,hl⟩
section
variable{prog:Aw}{w:World}{A:Around}{E:Value->Ag->Prop}{s:Ag}{K:Al}{x dx C f:Addr}{mA:Str->Option Value}{name:Str}{v:Value}
def x4s(X:K.In s.heap)(I:ObjM s.heap x dx C mA)(j:Pm K C name=true)(q:Rj K C=true)(ha:Gr K (.ref C) name=some none)(u:mA name=some v)(f:W.handedIn v=true)(h:Q v { s with toks:=s.toks+1 }):
  wpAny (model prog w) A (getAttr (.ref x) name expr) Q E s:=by
 obtain⟨B,J,hl⟩:=I.look;exact W.get_value X J (Th j).1 (W.findObj_own q ha rfl (by rw[hl,u])) f h
def x1l(X:K.In s.heap)(I:ObjM s.heap x dx C mA)(j:Pm K C name=true)(q:Gr K (.ref C) name=some (some (.ref f)))(u:Wb K (.ref f)=true)(v:mA name=none)(h:Q (.ref f,[.ref x]) s):
  wpAny (model prog w) A (Om (.ref x) name pl) Q E s:=by
 obtain⟨B,J,hl⟩:=I.look;exact W.method_fn X J (Th j).1 (Th j).2 q (beq_iff_eq.mp u) (by show(Vn name B).map (·.isSome)=some false;rw[hl,v];rfl) h
def x4t(X:K.In s.heap)(I:ObjM s.heap x dx C mA)(hs:Gr K (.ref C) "__setattr__" = some (some (.builtin "object.__setattr__")))(hp:Vi K C=true)(G:Ws K C name=some none)(H:Rj K C=true)(L:Pz mA ns)(M:ns.length<=sizeLine)(h:∀h',ObjM h' x dx C (λy=>if y=name then some v else mA y)->Fm dx s.heap h'->Q () { s with heap:=h',toks:=s.toks+2 }):
  wpAny (model prog w) A (setAttr (.ref x) name v) Q E s:=by
 obtain⟨T,J,hl⟩:=I.look;refine W.set_plain X J hs (W.osa_open X J hp G λb=>?_);obtain⟨U,O,q⟩:=W.any_some H;have P:=I.obj;refine Ab (Ad (Ab (Ab (wpAny_loadPart P (Ab (W.Looks.here (W.looks_clsIn X O) ?_))))));rw[q];refine Ad (Ab (Ad (Ab ?_)));refine wpAny_nsSet1 I.ns λh' f j=>?_
 obtain⟨Y,R,S,u,B,D⟩:=f.count (Pz.cons name v L);refine Ab (wpAny_lookBehind u (by rw[B];exact pastItsLine_dict (Cc D (by rw[Cj];lia))) ?_);exact Ad (h _ ⟨(j.2 _ (Ex I.ne)).trans I.obj,f,I.ne⟩ j)
def x1m(X:K.In s.heap)(j:Wt K C=true)(q:Gr K (.ref C) "__init__" = some (some (.ref f)))(u:W.typeIn K (.ref f)=some (.type "function"))(h:Fu (model prog w) (A.under (.builtin "type.__call__" ⟨.ref C::vs,kw⟩)) (.call (.ref f) ⟨.ref (s.heap.objs.size+1)::vs,kw⟩) (W.InitBack (s.heap.objs.size+1) R)
   { s with heap:=(s.heap.push Ik).push (Kp C s.heap.objs.size) }):
  Fu (model prog w) A (.call (.ref C) ⟨vs,kw⟩) R s:=by
 exact W.make_core (W.makes_of X j) (W.looks_findIn X q) (λself=>W.bind_fn X self u) (.inl rfl) h
end
noncomputable def putF(f:Str)(v:V):List (Str×V)->List (Str×V)
 |[]=>[(f,v)]
 |(g,x)::r=>if g=f then(g,v)::r else(g,x)::putF f v r
theorem q7k(f g)(v):∀fs,(putF f v fs).lookup g=if g=f then some v else fs.lookup g
 |[]=>by
  show List.lookup g [(f,v)]=_;by_cases h:g=f
  ·have j:(g==f)=true:=beq_iff_eq.mpr h;simp only[List.lookup,j,if_pos h]
  ·simp_all
 |(k,x)::r=>by
  have q:=q7k f g v r;rw[show putF f v ((k,x)::r)=(if k=f then(k,v)::r else(k,x)::putF f v r) from rfl];by_cases hk:k=f
  ·rw[if_pos hk];by_cases h:g=k
   ·simp_all
   ·have j:(g==k)=false:=beq_eq_false_iff_ne.mpr h;simp only[List.lookup,j,if_neg (λe:g=f=>h (e.trans hk.symm))]
  ·rw[if_neg hk];by_cases h:g=k
   ·simp_all
   ·have j:(g==k)=false:=beq_eq_false_iff_ne.mpr h;simp only[List.lookup,j];exact q
theorem q7l(f)(v):∀fs,f∈(putF f v fs).map (·.1)/\∀g,g∈fs.map (·.1)->g∈(putF f v fs).map (·.1)
 |[]=>⟨by simp[putF],λg h=>by simp at h⟩
 |(k,x)::r=>by
  obtain⟨j,q⟩:=q7l f v r;rw[show putF f v ((k,x)::r)=(if k=f then(k,v)::r else(k,x)::putF f v r) from rfl];by_cases hk:k=f
  ·grind
  ·grind
theorem q7m(f)(v):∀fs,(putF f v fs).length<=fs.length+1
 |[]=>by simp[putF]
 |(k,x)::r=>by
  have h:=q7m f v r;rw[show putF f v ((k,x)::r)=(if k=f then(k,v)::r else(k,x)::putF f v r) from rfl];by_cases hk:k=f
  ·grind
  ·grind
def RelO.some_of(r:RelO (some v) o):∃u,o=some u/\RelV v u:=by
 cases o with
 |none=>exact(show False from r).elim
 |some u=>exact⟨u,rfl,r⟩
def RelO.none_of(r:RelO none o):o=none:=by
 cases o with
 |none=>rfl
 |some u=>exact(show False from r).elim
def z7t(r:RelV v u):W.handedIn u=true:=by
 cases v with
 |non=>cases(show u=Value.none from r);rfl
 |bl b=>cases(show u=Value.bool b from r);rfl
 |int i=>obtain⟨t,e⟩:=(show ∃t,u=Value.int i t from r);cases e;rfl
 |str x=>obtain⟨t,e⟩:=(show ∃t,u=Value.str x t from r);cases e;rfl
 |byt b=>obtain⟨t,e⟩:=(show ∃t,u=Value.bytes b t from r);cases e;rfl
 |flt b=>obtain⟨t,e⟩:=(show ∃t,u=Value.float b t from r);cases e;rfl
 |ref a=>cases(show u=Value.ref a from r);rfl
 |ty n=>cases(show u=Value.type n from r);rfl
section
variable{P:Aw}{w:World}{H H':Hp}{h h':Heap}{a C dx:Addr}{fs fs':List (Str×V)}
def z3g(hok:HOk P w H h)(e:H a=some (.ins C dx fs)):∃j,ObjM h a dx C j/\(∀f,RelO (fs.lookup f) (j f))/\Pz j (fs.map (·.1))/\fs.length<=1000/\H dx=some (.own a):=by
 obtain⟨d,z,ne,u,j,n,r,q⟩:=(show ObjOk P w H h a (.ins C dx fs) from hok a _ e)
 exact⟨j,⟨u,n,ne⟩,r,q,z,d⟩
end
structure Cls (K) (C):Prop where
 pg:Pm K C Str.empty=true
 hd:Rj K C=true
 po:Vi K C=true
 sa:Gr K (.ref C) "__setattr__" = some (some (.builtin "object.__setattr__"))
def Cls.get{K}(c:Cls K C)(f):Pm K C f=true:=c.pg
noncomputable def NoAttr(K:Al)(C:Addr)(f:Str):Prop:=Gr K (.ref C) f=some none
def NoAttr.taker{K}(n:NoAttr K C f):Ws K C f=some none:=by
 unfold Ws;rw[show Gr K (.ref C) f=some none from n];rfl
structure Meth (K) (C) (m) (f):Prop where
 at_:Gr K (.ref C) m=some (some (.ref f))
 fn:Wb K (.ref f)=true
 kp:Io K (.ref f)=true
section
variable{X:Cx}{pins:List (Addr×Obj)}{σ:St}{H:Hp}{s:Ag}{a C dx:Addr}{fs:List (Str×V)}{f:Str}{v:V}{A:Around}{E:Value->Ag->Prop}
def z5y(I:Inv X pins σ H s)(e:H a=some (.ins C dx fs))(c:Cls X.K C)(n:NoAttr X.K C f)(l:fs.lookup f=some v)(h:∀u j,Inv X pins σ H j->RelV v u->Q u j):wpAny (model X.prog X.w) A (getAttr (.ref a) f b) Q E s:=by
 obtain⟨D,O,r,_,_,_⟩:=z3g I.hok e;obtain⟨u,B,q⟩:=RelO.some_of (by rw[<- l];exact r f);exact x4s I.kIn O (c.get f) c.hd n B (z7t q) (h u _ (I.tok _) q)
def q8w(I:Inv X pins σ H s)(e:H a=some (.ins C dx fs))(c:Cls X.K C)(k:Meth X.K C m g)(l:fs.lookup m=none)(h:Q (.ref g,[.ref a]) s):wpAny (model X.prog X.w) A (Om (.ref a) m pl) Q E s:=by
 obtain⟨f,O,r,_,_,_⟩:=z3g I.hok e;have hn:=RelO.none_of (by rw[<- l];exact r m);exact x1l I.kIn O (c.get m) k.at_ k.fn hn h
def z5z(I:Inv X pins σ H s)(e:H a=some (.ins C dx fs))(c:Cls X.K C)(n:NoAttr X.K C f)(hl:fs.length<1000)(G:RelV y u)(h:∀v,Inv X pins σ (upd H a (.ins C dx (putF f y fs))) v->Q () v):wpAny (model X.prog X.w) A (setAttr (.ref a) f u) Q E s:=by
 obtain⟨B,O,r,D,_,ho⟩:=z3g I.hok e;have J:(fs.map (·.1)).length<=sizeLine:=by rw[Aa,Ey];lia
 refine x4t I.kIn O c.sa c.po n.taker c.hd D J λL j M=>h _ ?_;have hd:∃o,L.get? dx=some o:=let ⟨o,_,_,P,_⟩:=j.ns;⟨o,P⟩;refine I.write (by rw[e];exact True.intro) (.inr ho) (λb q R z=>(M.2 b R).trans z) hd ?_;refine⟨by rw[q0d O.ne];exact ho,?_,O.ne,j.obj,_,j.ns,λg=>?_,λg S=>?_⟩
 ·have:=q7m f y fs;lia
 ·show RelO ((putF f y fs).lookup g) (if g=f then some u else B g);rw[q7k];by_cases q:g=f
  ·rw[if_pos q,if_pos q];exact G
  ·grind
 ·by_cases q:g=f
  ·rw[q];exact(q7l f y fs).1
  ·refine(q7l f y fs).2 g (D g λz=>S ?_);show(if g=f then some u else B g)=none;rw[if_neg q];exact z
def Inv.made(I:Inv X pins σ H s):Inv X pins σ (upd (upd H s.heap.objs.size (.own (s.heap.objs.size+1))) (s.heap.objs.size+1) (.ins C s.heap.objs.size []))
  { s with heap:=(s.heap.push Ik).push (Kp C s.heap.objs.size) }:=by
 have f:(s.heap.push Ik).get? s.heap.objs.size=some Ik:=As s.heap rfl;have h:((s.heap.push Ik).push (Kp C s.heap.objs.size)).get? (s.heap.objs.size+1)=some (Kp C s.heap.objs.size):=by
  have:=As (s.heap.push Ik) (o:=Kp C s.heap.objs.size) rfl
  rwa [Fv] at this
 have j:(s.heap.push Ik).Ns s.heap.objs.size (λ_=>none):=⟨Ik,#[],_,f,rfl,(λe v=>absurd v (by simp)),λ_=>rfl⟩
 have B:=I.laid (o:=.own (s.heap.objs.size+1)) (h':=s.heap.push Ik) (t':=s.toks) (λb u q=>Ai _ q) (Aq _) ⟨_,f⟩;refine B.laid (t':=s.toks) (λb u q=>Ai _ q) (Ks (Fv _ _)) ?_;have ne:s.heap.objs.size≠s.heap.objs.size+1:=Bm (He _);refine⟨by rw[q0d ne,q0b],Bv _,ne,h,λ_=>none,(Heap.Ns1.of_empty j).at λo q=>Ai _ q,λ_=>True.intro,λy D=>absurd rfl D⟩
def x4u(q:Gw e f env (eval e env)=eval e env)(h:wpAny (model prog w) A (eval e env) (λo j=>wpAny (model prog w) A (getAttr o f true) Q E j) E s):wpAny (model prog w) A (eval (.Attribute e f pos) env) Q E s :=
 Attribute_any_ h (by rw[arm_eval_Attribute,q])
end
noncomputable def tFld(K:Al)(ta:TE)(f:Str):TE:=λσ H Q=>ta σ H λx H1=>∃a C dx fs v,x=.ref a/\H1 a=some (.ins C dx fs)/\Cls K C/\NoAttr K C f/\fs.lookup f=some v/\Q v H1
noncomputable def sFld(K:Al)(ta tv:TE)(f:Str):TS:=λD σ H=>tv σ H λy H1=>ta σ H1 λx H2=>∃a C dx fs,x=.ref a/\H2 a=some (.ins C dx fs)/\Cls K C/\NoAttr K C f/\fs.length<1000 /\
 D.nx σ (upd H2 a (.ins C dx (putF f y fs)))
section
variable{X:Cx}{o e value:Expr}{f:Str}{pos pos' tpos:Pos}{ta tv:TE}
def pe_fld(B:PE X e ta)(D:Gw e f X.env (eval e X.env)=eval e X.env):PE X (.Attribute e f pos) (tFld X.K ta f):=by
 intro j s E H Q I h;refine x4u D (thnE (B j s E H _ I h) λu S x G J L M=>?_);obtain⟨a,C,T,fs,v,ex,O,c,n,l,q⟩:=M;subst ex;obtain rfl:u=Value.ref a:=L;exact z5y J O c n l λU W P R=>⟨v,G,P,R,q⟩
def ps_fld(ha:PE X o ta)(B:PE X value tv)(hs:Kq value (some (.Attribute o f pos')) pos.line X.env=pure false):PS X (.Assign [.Attribute o f pos'] value pos) (sFld X.K ta tv f):=by
 intro j s v H D I h;refine plainObj_wpAny_Assign_Attribute (thnE (B j s v H _ I h) λu E y G J L q=>thnE (ha j E v G _ J q) λM U x W O P Q=>?_) hs;obtain⟨a,C,Y,fs,ex,R,c,n,l,S⟩:=Q;subst ex;obtain rfl:M=Value.ref a:=P;exact z5z O R c n l L λZ T=>⟨v,_,T,S⟩
end
section
variable{X:Cx}{pins:List (Addr×Obj)}{σ:St}{H:Hp}{s:Ag}{A:Around}{E:Value->Ag->Prop}{Q:Value->Ag->Prop}{c:Value}{b:Bool}
inductive TyOf (K:Al) (H:Hp):V->Value->Prop where
 |non:TyOf K H .non (.type "NoneType")
 |bl (x:Bool):TyOf K H (.bl x) (.type "bool")
 |int (i:Int):TyOf K H (.int i) (.type "int")
 |str (x:Str):TyOf K H (.str x) (.type "str")
 |flt (x:UInt64):TyOf K H (.flt x) (.type "float")
 |lst {a:Addr} {xs:List V} (e:H a=some (.lst xs)):TyOf K H (.ref a) (.type "list")
 |frz {a:Addr} {o:Obj} {xs:List V} (e:H a=some (.frz o (.lst xs))):TyOf K H (.ref a) (.type "list")
 |tup {a:Addr} {xs:List V} (e:H a=some (.tup xs)):TyOf K H (.ref a) (.type "tuple")
 |dK {a:Addr} {kvs:List (Key×V)} (e:H a=some (.dK kvs)):TyOf K H (.ref a) (.type "dict")
 |dT {a:Addr} {kvs:List (List Key×V)} (e:H a=some (.dT kvs)):TyOf K H (.ref a) (.type "dict")
 |ins {a C dx:Addr} {fs:List (Str×V)} (e:H a=some (.ins C dx fs)) (cl:Cls K C) (ha:Gr K (.ref C) "__class__" = some (some (.builtin "object.__class__")))
   (hn:W.specialIn K (.builtin "object.__class__") "__get__" = some (some (.builtin "getset_descriptor.__get__"))) (htk:W.takesIn K (.builtin "object.__class__")=some true)
   (hm:W.mroIn K C (.type "object")=some true):TyOf K H (.ref a) (.ref C)
end
structure Room (k) (A:Around):Prop where
 hd:A.handled=none
 dp:A.depth+3*k+5<recursionLimit
 un:A.units+16*k+200<cLine
 gd:A.guards=some []
def Room.mono(r:Room k A)(h:j<=k):Room j A:=⟨r.hd,by have:=r.dp;lia,by have:=r.un;lia,r.gd⟩
def Room.deeper(r:Room (k+1) A)(env):Room k (A.deeper env) :=
 ⟨r.hd,by have:=r.dp;show A.depth+1+3*k+5<_;lia,by have:=r.un;show A.units+3+16*k+200<_;lia,r.gd⟩
def z6a{A:Around}:(A.under (.builtin "type.__call__" ⟨.ref C::us,kw⟩)).depth=A.depth+1:=by
 first|rfl|simp[Qb,Code.weight,Code.isCreation,Code.isGuard,Code.isCaller,Code.frames,Ub,guardIds]
def z6b{A:Around}:(A.under (.builtin "type.__call__" ⟨.ref C::us,kw⟩)).units=A.units+1:=by
 first|rfl|simp[Qb,Code.cUnits,Code.frames,Ub]
def make_guards{A:Around}:(A.under (.builtin "type.__call__" ⟨.ref C::us,kw⟩)).guards=A.guards:=by
 have:(Code.builtin "type.__call__" ⟨.ref C::us,kw⟩).guards=[]:=by simp[Code.guards,Code.isGuard,guardIds]
 unfold Qb;rw[this];cases e:A.guards<;>simp[pushGuards,e]
def Room.make(r:Room (k+1) A)(C)(f)(h):Room k (A.under (.builtin "type.__call__" ⟨.ref C::f,h⟩)) :=
 ⟨r.hd,by have:=r.dp;rw[z6a];lia,by have:=r.un;rw[z6b];lia,make_guards.trans r.gd⟩
def Room.depth(r:Room k A):A.depth<recursionLimit:=by have:=r.dp;lia
def Room.units(r:Room k A):A.units+64<cLine:=by have:=r.un;lia
noncomputable def tNil:TA:=λ_ H Q=>Q [] H
noncomputable def tCons(ta:TE)(tr:TA):TA:=λσ H Q=>ta σ H λx H1=>tr σ H1 λxs H2=>Q (x::xs) H2
section
variable{X:Cx}{e:Expr}{es:List Expr}{te:TE}{t:TA}{pos:Pos}
def q0e:PA X [] tNil:=λ_ _ _ _ H Q I h=>Ph ⟨[],H,I,.nil,h⟩
def q0a(ha:PE X e te)(v:PA X es t)(hs:Bp (e::es) X.env=(false,eval e X.env)::Bp es X.env:=by rfl):PA X (e::es) (tCons te t):=by
 intro j f s q H Q I h;rw[hs];refine Kt (thnE (ha f s q H _ I h) λu B x C D E G=>?_);exact thn (v j f B q C _ D G) λR S ⟨J,L,M,O,P⟩=>⟨x::J,L,M,.cons E O,P⟩
noncomputable def tTup(t:TA):TE:=λσ H Q=>t σ H λxs H1=>xs.length<=sizeLine/\∀p,H1 p=none->Q (.ref p) (upd H1 p (.tup xs))
noncomputable def tLst(t:TA):TE:=λσ H Q=>t σ H λxs H1=>xs.length<=sizeLine/\∀p,H1 p=none->Q (.ref p) (upd H1 p (.lst xs))
def q1j{x1}(h:PA X es t):PE X (.Tuple es x1 pos) (tTup t):=by
 intro f s B H Q I C;refine wpAny_Tuple_spliced (thn (h pos f s B H _ I C) λD j ⟨E,G,v,r,z,q⟩=>⟨by rw[<- r.length];exact z,?_⟩);have J:=v.hok.fresh (Aq _);refine⟨.ref j.heap.objs.size,upd G j.heap.objs.size (.tup E),v.laid (t':=j.toks) (λb u e=>Ai _ e) (Aq _) ?_,rfl,q _ J⟩;exact⟨z,D,r,⟨_,As _ rfl,rfl,_,rfl⟩⟩
def q2f(h:PA X es t):PE X (.List es pos) (tLst t):=by
 intro f s B H Q I C;refine wpAny_List_spliced (thn (h pos f s B H _ I C) λD j ⟨E,G,v,r,z,q⟩=>⟨by rw[<- r.length];exact z,?_⟩);have J:=v.hok.fresh (Aq _);refine⟨.ref j.heap.objs.size,upd G j.heap.objs.size (.lst E),v.laid (t':=j.toks) (λb u e=>Ai _ e) (Aq _) ?_,rfl,q _ J⟩;exact⟨z,D,0,r,As _ rfl⟩
end
noncomputable abbrev Sp:=List V->Hp->VK->XK->Prop
noncomputable abbrev CXT:=List Env->Hp->Ag->XK->Value->Ag->Prop
structure Env0 (P) (w) (K) (mg) (base) (A:Around) (outer) (s:Ag) (H:Hp):Prop where
 frames:A.frames=some outer
 mod:Mod K mg base
 bs:∀b o,base.get? b=some o->s.heap.get? b=some o/\H b=none
 bsz:base.objs.size<=s.heap.objs.size
 funs:s.heap.FunFrames base outer
 frf:∀b∈frs outer,H b=none
 hok:HOk P w H s.heap
 bare:Mw s.gens
noncomputable def CE(outer:List Env)(P:Aw)(w:World)(H:Hp)(s:Ag)(Q:VK)(u:Value)(s':Ag):Prop :=
 ∃v H',s'.os=s.os/\Mw s'.gens/\Un (frs outer) [] H H' s.heap s'.heap/\HOk P w H' s'.heap/\RelV v u/\Q v H'
noncomputable def CR(CX:CXT)(outer:List Env)(P:Aw)(w:World)(H:Hp)(s:Ag)(Q:VK)(E:XK)(r:Result)(s':Ag):Prop :=
 match r with
 |.ok (.ret u)=>CE outer P w H s Q u s'
 |.ok _=>False
 |.error e=>CX outer H s E e s'
structure FnOk (P) (w) (K) (mg) (base) (CX) (k) (f) (fd) (ps:List Str) (sp:Sp):Prop where
 len:∀vs H Q E,sp vs H Q E->vs.length=ps.length
 run:∀ A   outer   s   H   args   us   vs   Q   E ,Room k A->Env0 P w K mg base A outer s H->Sd s fd args (ps.zip us)->Vals vs us->sp vs H Q E ->
  Fu (model P w) A (.call (.ref f) args) (CR CX outer P w H s Q E) s
def FnOk.imp{K}(F:FnOk P w K mg base CX k f fd ps sp)(h:∀vs H Q E,sp' vs H Q E->sp vs H Q E):FnOk P w K mg base CX k f fd ps sp' :=
 ⟨λvs H Q E q=>F.len vs H Q E (h _ _ _ _ q),λA outer s H j u vs Q E v B C D hs=>F.run A outer s H j u vs Q E v B C D (h _ _ _ _ hs)⟩
def Env0.make{K}(e:Env0 P w K mg base A outer s H)(C)(f)(h):
  Env0 P w K mg base (A.under (.builtin "type.__call__" ⟨.ref C::f,h⟩)) outer s H:=⟨by first|exact e.frames|(simpa[Qb,Code.envs,Ub,pushEnvs] using e.frames),e.mod,e.bs,e.bsz,e.funs,e.frf,e.hok,e.bare⟩
section
variable{X:Cx}{pins:List (Addr×Obj)}{σ:St}{H:Hp}{s s':Ag}
def Inv.env0(I:Inv X pins σ H s):Env0 X.prog X.w X.K X.mg X.base X.A X.stack s H :=
 ⟨I.ok.frames,I.ok.mod,I.bs,Cc I.ok.bsz I.sz,I.stack,I.stkFree,I.hok,I.bare⟩
def Inv.after(I:Inv X pins σ H s)(h:CE X.stack X.prog X.w H s Q u s'):EP X pins σ Q u s':=by
 obtain⟨v,j,os,bare,un,hok,r,q⟩:=h;obtain⟨B,g,d,t,f⟩:=s';obtain rfl:f=s.os:=os;exact⟨v,j,I.call (h':=B) (g':=g) (d':=d) (t':=t) un hok bare (λb z=>absurd z (by simp)),r,q⟩
end
noncomputable def tCall(sp:Sp)(dvs:List V)(E:XK)(t:TA):TE:=λσ H Q=>t σ H λvs H1=>sp (vs++dvs) H1 Q E
noncomputable def tMeth(C:Addr)(m:Str)(sp:Sp)(dvs:List V)(E:XK)(ta:TE)(t:TA):TE:=λσ H Q=>ta σ H λx H1=>∃a dx fs,x=.ref a/\H1 a=some (.ins C dx fs)/\fs.lookup m=none /\
 t σ H1 λvs H2=>sp (x::(vs++dvs)) H2 Q E
noncomputable def tMake(C:Addr)(sp:Sp)(dvs:List V)(E:XK)(t:TA):TE:=λσ H Q=>t σ H λvs H1=>∀x dx,H1 x=none->H1 dx=none->dx≠x ->
 sp (.ref x::(vs++dvs)) (upd (upd H1 dx (.own x)) x (.ins C dx [])) (λv H2=>v=.non/\Q (.ref x) H2) E
noncomputable def Binds(K:Al)(fd:Mn)(ps:List Str)(ds:List Value):Prop :=
 ∀ s   us ,K.In s.heap->(us++ds).length=ps.length->Sd s fd ⟨us,[]⟩ (ps.zip (us++ds))
def Binds.all{K}(h:∀f,f.length=ps.length->bindArgs fd ⟨f,[]⟩=pure (ps.zip f)):Binds K fd ps []:=λs f _ hl=>by
 rw[Cu] at hl ⊢;exact .of_eq (h f hl)
noncomputable def Passes(CX:CXT)(X:Cx)(E:XK):Prop:=∀ pins  (σ:St)  H   s   e   s' ,Inv X pins σ H s->CX X.stack H s E e s'->X.xe e s'
section
variable{X:Cx}{CX:CXT}{k:Nat}{f C:Addr}{fd:Mn}{ps:List Str}{sp:Sp}{dvs:List V}{ds:List Value}{E:XK}{x m:Str}{p pos apos:Pos}{e o:Expr}{es:List Expr}{ta:TE}{t:TA}
def z4o{q:St}(F:FnOk X.prog X.w X.K X.mg X.base CX k f fd ps sp)(B:Room k X.A)(C:Binds X.K fd ps ds)(hd:Vals dvs ds)(D:Passes CX X E)(I:Inv X pins q H s)(r:Vals vs us)(h:sp (vs++dvs) H Q E):wpAny (model X.prog X.w) X.A (call (.ref f) us) (EP X pins q Q) X.xe s:=by
 have v:=r.append hd;have hl:(us++ds).length=ps.length:=by rw[<- v.length];exact F.len _ _ _ _ h
 refine Sy (Ip (F.run X.A X.stack s H ⟨us,[]⟩ (us++ds) (vs++dvs) Q E B I.env0 (C s us I.kIn hl) v h) λr G j=>?_);cases r with
 |error e=>exact D pins q H s e G I j
 |ok fl =>
  cases fl with
  |ret u=>exact I.after j
  |next=>exact False.elim j
  |brk=>exact False.elim j
  |cont=>exact False.elim j
def x4v(F:FnOk X.prog X.w X.K X.mg X.base CX k f fd ps sp)(C:Room k X.A)(D:Gl X x)(G:X.mg x=some (.ref f))(hk:Io X.K (.ref f)=true)(J:Binds X.K fd ps ds)(hd:Vals dvs ds)(L:Passes CX X E)(ha:PA X (e::es) t)(u:(x==("__debug__" : Str))=false:=by decide)(M:Bp (e::es) X.env=(false,eval e X.env)::Bp es X.env:=by rfl)(v:(Gi pos (Bp es X.env)).any (·.1)=false:=by rfl):
  PE X (.Call (.Name x p) (e::es) [] pos) (tCall sp dvs E t):=by
 intro j s O H Q I h;refine Je (z3e I D G ?_ u);refine Uc I.ok.mod.kin hk (thn (ha pos j s O H _ I h) λP R ⟨vs,S,B,r,q⟩=>⟨B.kIn,?_⟩) M v;exact z4o F C J hd L B r q
def x1n(F:FnOk X.prog X.w X.K X.mg X.base CX k f fd ps sp)(u:Room k X.A)(v:Gl X x)(B:X.mg x=some (.ref f))(hk:Io X.K (.ref f)=true)(C:Binds X.K fd ps ds)(hd:Vals dvs ds)(D:Passes CX X E)(j:(x==("__debug__" : Str))=false:=by decide):PE X (.Call (.Name x p) [] [] pos) (tCall sp dvs E tNil):=by
 intro q s G H Q I h;refine Je (z3e I v B ?_ j);exact W.callWith_K0 I.kIn hk (z4o F u C hd D I .nil h)
def x4w{pl}(O:PE X o ta)(c:Cls X.K C)(D:Meth X.K C m f)(F:FnOk X.prog X.w X.K X.mg X.base CX k f fd ps sp)(P:Room k X.A)(R:Binds X.K fd ps ds)(hd:Vals dvs ds)(S:Passes CX X E)(ha:PA X (e::es) t)(v:Bp (e::es) X.env=(false,eval e X.env)::Bp es X.env:=by rfl)(B:(Gi pos (Bp es X.env)).any (·.1)=false:=by rfl)(T:eval (.Call (.Attribute o m apos) (e::es) [] pos) X.env=(do
   let G<-eval o X.env
   Pw apos.atName
   let (f,first)<-Lg [G] (Om G m pl)
   Vo pos f first (Gi pos (Bp (e::es) X.env)) (Mo pos (Jh [] X.env))):=by rfl):
  PE X (.Call (.Attribute o m apos) (e::es) [] pos) (tMeth C m sp dvs E ta t):=by
 intro j s J H Q I h;refine Wc (thnE (O j s J H _ I h) λu U x W L Y Z=>?_) T;obtain⟨a,dx,fs,ex,ea,l,q⟩:=Z;subst ex;obtain rfl:u=Value.ref a:=Y;refine q8w L ea c D l ?_;refine Uc I.ok.mod.kin D.kp (thn (ha pos j U J W _ L q) λus s2 ⟨vs,H2,M,r,q2⟩=>⟨M.kIn,?_⟩) v B;exact z4o (vs:=.ref a::vs) F P R hd S M (.cons rfl r) q2
def x1o(G:PE X o ta)(c:Cls X.K C)(B:Meth X.K C m f)(F:FnOk X.prog X.w X.K X.mg X.base CX k f fd ps sp)(J:Room k X.A)(L:Binds X.K fd ps ds)(hd:Vals dvs ds)(M:Passes CX X E)(O:eval (.Call (.Attribute o m apos) [] [] pos) X.env=(do
   let D<-eval o X.env
   Pw apos.atName
   let (f,first)<-Lg [D] (Om D m pl)
   Vo pos f first (Gi pos (Bp [] X.env)) (Mo pos (Jh [] X.env))):=by rfl):
  PE X (.Call (.Attribute o m apos) [] [] pos) (tMeth C m sp dvs E ta tNil):=by
 intro j s P H Q I h;refine Wc (thnE (G j s P H _ I h) λu U x Y v R S=>?_) O;obtain⟨a,Z,fs,ex,T,l,q⟩:=S;subst ex;obtain rfl:u=Value.ref a:=R;refine q8w v T c B l ?_;exact W.callWith_K0 v.kIn B.kp (z4o (vs:=[.ref a]) F J L hd M v (.cons rfl .nil) q)
structure Mk (K) (C f):Prop where
 makes:Wt K C=true
 init:Gr K (.ref C) "__init__" = some (some (.ref f))
 fn:Wb K (.ref f)=true
 kp:Io K (.ref C)=true
def x1p{D:St}(M:Mk X.K C f)(F:FnOk X.prog X.w X.K X.mg X.base CX k f fd ps sp)(L:Room (k+1) X.A)(O:Binds X.K fd ps ds)(hd:Vals dvs ds)(P:Passes CX X E)(I:Inv X pins D H s)(r:Vals vs us)(h:∀x q,H x=none->H q=none->q≠x->sp (.ref x::(vs++dvs)) (upd (upd H q (.own x)) x (.ins C q [])) (λv R=>v=.non/\Q (.ref x) R) E):
  wpAny (model X.prog X.w) X.A (call (.ref C) us) (EP X pins D Q) X.xe s:=by
 have G:=h (s.heap.objs.size+1) s.heap.objs.size (I.hok.fresh (Hh _)) (I.hok.fresh (Aq _)) (Bm (He _));have B:=Inv.made (C:=C) I;have J:Vals (V.ref (s.heap.objs.size+1)::(vs++dvs)) (Value.ref (s.heap.objs.size+1)::(us++ds)):=.cons rfl (r.append hd);have hl:(Value.ref (s.heap.objs.size+1)::us++ds).length=ps.length:=by
  have e:=J.length;rw[F.len _ _ _ _ G] at e;exact e.symm
 refine Sy (x1m I.kIn M.makes M.init (beq_iff_eq.mp M.fn) (Ip (F.run _ X.stack _ _ ⟨Value.ref (s.heap.objs.size+1)::us,[]⟩ (Value.ref (s.heap.objs.size+1)::(us++ds)) _ _ E (L.make C us [])
  (B.env0.make C us []) (O _ (Value.ref (s.heap.objs.size+1)::us) B.kIn hl) J G) λr S j=>?_))
 cases r with
 |error e=>exact P pins D _ _ e S B j
 |ok fl =>
  cases fl with
  |ret u =>
   obtain⟨v,T,U,W,Y,Z⟩:=B.after j;subst Y;exact⟨W,⟨V.ref (s.heap.objs.size+1),T,U,rfl,Z⟩⟩
  |next=>exact False.elim j
  |brk=>exact False.elim j
  |cont=>exact False.elim j
def x4x(M:Mk X.K C f)(F:FnOk X.prog X.w X.K X.mg X.base CX k f fd ps sp)(D:Room (k+1) X.A)(G:Gl X x)(J:X.mg x=some (.ref C))(L:Binds X.K fd ps ds)(hd:Vals dvs ds)(O:Passes CX X E)(ha:PA X (e::es) t)(u:(x==("__debug__" : Str))=false:=by decide)(P:Bp (e::es) X.env=(false,eval e X.env)::Bp es X.env:=by rfl)(v:(Gi pos (Bp es X.env)).any (·.1)=false:=by rfl):
  PE X (.Call (.Name x p) (e::es) [] pos) (tMake C sp dvs E t):=by
 intro j s R H Q I h;refine Je (z3e I G J ?_ u);refine Uc I.ok.mod.kin M.kp (thn (ha pos j s R H _ I h) λS T ⟨vs,U,B,r,q⟩=>⟨B.kIn,?_⟩) P v;exact x1p M F D L hd O B r q
end
structure FnScope (N P:List Str) (sc:Scope):Prop where
 kind:sc.kind=.function
 co:sc.isCoroutine=false
 gen:sc.isGenerator=false
 nd:N.Nodup
 pre:N.take P.length=P
 par:∀x∈P,sc.names.lookup x=some .local\/sc.names.lookup x=some .cell
 nofree:∀y∈sc.names,y.2≠.free
theorem z1d:∀{binds} {m},(∀v,(x,v)∉binds)->bindL f binds m x=m x
 |[],_,_=>rfl
 |(n,v)::r,m,h=>by
  unfold bindL;rw[z1d λw j=>h w (Ap _ j)];split
  ·have:x≠n:=by rintro rfl;exact h v Au
   simp[this]
  ·rfl
theorem z1e:∀{binds} {m},(∀v,(x,v)∉binds)->bindC f binds m x=m x
 |[],_,_=>rfl
 |(n,v)::r,m,h=>by
  unfold bindC;rw[z1e λw j=>h w (Ap _ j)];split
  ·rfl
  ·have:x≠n:=by rintro rfl;exact h v Au
   simp[this]
theorem z1f:∀{P:List Str} {vs} {i:Nat} {m},P.Nodup->P[i]?=some x->vs[i]?=some v->f x=some .local ->
  bindL f (P.zip vs) m x=some v
 |[],_,_,_,_,h,_,_=>by simp at h
 |_::_,[],_,_,_,_,h,_=>by simp at h
 |p::P,w::vs,0,m,nd,h1,h2,hk=>by
  simp at h1 h2;subst h1;subst h2;show bindL f ((p,w)::P.zip vs) m p=_;unfold bindL;rw[z1d λv j=>(Bu.mp nd).1 (Qx j).1,if_pos hk];simp
 |p::P,w::vs,i+1,m,nd,h1,h2,hk=>by
  show bindL f ((p,w)::P.zip vs) m x=_;unfold bindL;exact z1f (i:=i) (Bu.mp nd).2 (by simpa using h1) (by simpa using h2) hk
theorem z1g:∀{P:List Str} {vs} {i:Nat} {m},P.Nodup->P[i]?=some x->vs[i]?=some v->f x≠some .local ->
  bindC f (P.zip vs) m x=some v
 |[],_,_,_,_,h,_,_=>by simp at h
 |_::_,[],_,_,_,_,h,_=>by simp at h
 |p::P,w::vs,0,m,nd,h1,h2,hk=>by
  simp at h1 h2;subst h1;subst h2;show bindC f ((p,w)::P.zip vs) m p=_;unfold bindC;rw[z1e λv j=>(Bu.mp nd).1 (Qx j).1,if_neg hk];simp
 |p::P,w::vs,i+1,m,nd,h1,h2,hk=>by
  show bindC f ((p,w)::P.zip vs) m x=_;unfold bindC;exact z1g (i:=i) (Bu.mp nd).2 (by simpa using h1) (by simpa using h2) hk
noncomputable def start(N:List Str)(vs:List V):St:=vs.map some++List.replicate (N.length-vs.length) none
noncomputable def cxOf(CX:CXT)(P:Aw)(w:World)(K:Al)(mg:Str->Option Value)(base:Heap)(N:List Str)(qual:Str)(scope:Scope)(f:Addr)(cd:Value)(A:Around)(outer:List Env)(s:Ag)(H:Hp)(E:XK):Cx where
 prog:=P
 w:=w
 K:=K
 mg:=mg
 base:=base
 A:=A.deeper (Ku qual scope s.heap.objs.size f cd)
 N:=N
 s₀:=s
 H₀:=H
 env:=Ku qual scope s.heap.objs.size f cd
 outer:=outer
 stack:=Ku qual scope s.heap.objs.size f cd::outer
 ex:=[]
 calm:=true
 fn:=λ_=>true
 pn:=[]
 xe:=λe s'=>wpAny (model P w) (A.deeper (Ku qual scope s.heap.objs.size f cd)) (leaving (Ku qual scope s.heap.objs.size f cd) e) (λ_ s''=>CX outer H s E e s'') (λe' s''=>CX outer H s E e' s'') s'
def z4p{f:Scope}(h:f.names.lookup x=some .cell):∃c,(cellsFrom n f.names []).lookup x=some c:=by
 have q:=Vp f.names n [] (.inl h);exact Qc.mp q
def z7u{K}(S:FnScope N ps scope)(hd:A.handled=none)(j:Env0 P w K mg base A outer s H)(hl:vs.length=ps.length)(r:Vals vs us)(x:InCallC s s.heap.objs.size (bindL (Ku qual scope s.heap.objs.size f cd).kindOf (ps.zip us) λ_=>none) (cellsFrom (s.heap.objs.size+1) scope.names []) (bindC (Ku qual scope s.heap.objs.size f cd).kindOf (ps.zip us) λ_=>none) s1):
  Inv (cxOf CX P w K mg base N qual scope f cd A outer s H E) [] (start N vs) H s1:=by
 have M:ps.length<=N.length:=by have:=congrArg List.length S.pre;rw[Bg] at this;lia
 obtain⟨I,tk,rfl,hk⟩:=x.done;have C:∀b:Addr,b∉(cxOf CX P w K mg base N qual scope f cd A outer s H E).ex:=λb z=>absurd (show b∈([]:List Addr) from z) (by simp)
 refine⟨⟨j.mod,S.kind,rfl,rfl,Aq _,λy z c I B=>?_,λy D=>?_,λy c _ h=>?_,λ_=>hd,Around.frames_deeper j.frames,.inr ⟨rfl,rfl⟩,λb z=>absurd z (C b),j.bs,j.bsz,λb _ _=>C b,λb z=>absurd z (C b),j.funs,j.frf⟩,
  rfl,j.bare,Un.kept hk,⟨_,x.toInCall.ns,λi y v I B Q=>?_⟩,λy c h=>⟨_,x.cell y c h⟩,j.hok.fresh (Aq _),λy c h=>?_,λp hp=>absurd (show p∈([]:List (Addr×Obj)) from hp) (by simp),j.hok.kept hk,?_⟩
 ·exact name_of_addr x.apart (Gg I) (Gg B)
 ·have D:scope.names.lookup y=some .cell\/scope.names.lookup y=some .free:=D;rcases D with D|D
  ·exact z4p D
  ·exact absurd rfl (S.nofree _ (Gg D))
 ·exact Hm (x.above y c (Gg h))
 ·have J:i<vs.length:=by
   unfold start at B;by_cases J:i<vs.length
   ·exact J
   ·rw[Cg (by simpa using J)] at B;rw[List.getElem?_replicate] at B;split at B<;>cases B
  have ha:vs[i]?=some v:=by
   unfold start at B;rw[Bt (by simpa using J),Am] at B;cases e:vs[i]? with
   |none=>simp_all
   |some a=>grind
  obtain⟨u,L,O⟩:=r.get ha;have hp:ps[i]?=some y:=by
   rw[<- S.pre,List.getElem?_take_of_lt (by lia)];exact I
  have G:ps.Nodup:=by rw[<- S.pre];exact S.nd.sublist (Lq _ _)
  refine⟨u,O,?_⟩;rcases S.par y (Af hp) with k|k
  ·exact .inl ⟨k,z1f G hp L k⟩
  ·obtain⟨c,e⟩:=z4p k;refine .inr ⟨.inl k,c,e,?_⟩;have q:=x.cell y c e;rw[z1g G hp L (by show scope.names.lookup y≠_;rw[k];decide)] at q;exact q
 ·exact j.hok.fresh (Hm (x.above y c (Gg h)))
 ·unfold start;show _=N.length;rw[An,Aa,Se];lia
def fn_of{K}{kV}(Y:K.lookup f=some ⟨oc,od,.func (Jp name qual params body scope dV kV doc pm an cdv ct),osl⟩)(G:Mp K cdv qual=true)(S:FnScope N ps scope)(len:∀vs H Q E,sp vs H Q E->vs.length=ps.length)(j:∀ A   outer   s   H   vs   Q   E ,Room k (A.deeper (Ku qual scope s.heap.objs.size f cdv))->sp vs H Q E ->
   ∃t,PSs (cxOf CX P w K mg base N qual scope f cdv A outer s H E) body t/\t { nx:=λ_ H'=>Q .non H',rt:=Q } (start N vs) H):
  FnOk P w K mg base CX (k+1) f (Jp name qual params body scope dV kV doc pm an cdv ct) ps sp:=by
 refine⟨len,λA outer s H T Z vs Q E L C hb r D=>?_⟩;have hl:=len _ _ _ _ D;have U:=C.mod.kin.keeps λb o e=>(C.bs b o e).1;have M:=C.mod.nolimit.keeps λb o e=>(C.bs b o e).1;have B:∀y∈ps.zip Z,scope.names.lookup y.1=some .local\/(scope.names.lookup y.1=some .cell/\((cellsFrom (s.heap.objs.size+1) scope.names []).lookup y.1).isSome=true):=λ⟨n,v⟩ hy=>by
  rcases S.par n (Qx hy).1 with q|q
  ·exact .inl q
  ·exact .inr ⟨q,Vp _ _ _ (.inl q)⟩
 refine codeAny_call_function L.depth (U _ _ Y) rfl S.co S.gen rfl (W.codeRec_of U G) (hb _ _ _ _ ?_);refine wpAny_newFunctionEnv_cells S.kind B λenv he X x=>?_;subst he;refine⟨M.keeps x.toInCall.keep,codeAny_func ?_⟩;obtain⟨t,ht,hq⟩:=j A outer s H vs Q E (L.deeper _) D;have I:Inv (cxOf CX P w K mg base N qual scope f cdv A outer s H E) [] (start N vs) H X:=z7u S L.hd C hl r x;refine Dl (ht [] X (start N vs) H _ I hq) (λfl O hs=>?_) λe O hs=>hs;have fin:∀{h:St} {H':Hp} {v:V} {u:Value},Inv (cxOf CX P w K mg base N qual scope f cdv A outer s H E) [] h H' O->RelV v u->Q v H'->CE outer P w H s Q u O :=
  λ{h H' v u} J R q=>⟨v,H',J.os,J.bare,J.base,J.hok,R,q⟩
 cases fl with
 |ret u =>
  obtain⟨v,h,H',J,R,q⟩:=hs;exact fin J R q
 |next =>
  obtain⟨h,H',J,q⟩:=hs;exact fin (v:=V.non) J rfl q
 |brk =>
  obtain⟨_,_,_,q⟩:=hs;exact False.elim q
 |cont =>
  obtain⟨_,_,_,q⟩:=hs;exact False.elim q
section
variable{X:Cx}{x:Str}{p pos:Pos}{e:Expr}{es:List Expr}{t:TA}{id T:String}{r:List V->Hp->VK->Prop}
noncomputable def tCB(r:List V->Hp->VK->Prop)(t:TA):TE:=λσ H Q=>t σ H λvs H1=>r vs H1 Q
def q0k(v:CallR X (.builtin id) r)(B:Gl X x)(C:X.mg x=none)(D:Hj x=some (.builtin id))(ha:PA X (e::es) t)(hn:x ≠ "__name__" := by decide)(j:(x==("__debug__" : Str))=false:=by decide)(E:Bp (e::es) X.env=(false,eval e X.env)::Bp es X.env:=by rfl)(q:(Gi pos (Bp es X.env)).any (·.1)=false:=by rfl):PE X (.Call (.Name x p) (e::es) [] pos) (tCB r t):=by
 intro f s u H Q I h;refine Je (q7j I B C D ?_ hn j);exact PyProof.Rows.callWith_builtin1 (thn (ha pos f s u H _ I h) λG J ⟨vs,L,M,O,P⟩=>v f J u L vs G Q M O P) E q
def q3d(v:CallR X (.type T) r)(B:Gl X x)(C:X.mg x=none)(D:Hj x=some (.type T))(ha:PA X (e::es) t)(hn:x ≠ "__name__" := by decide)(j:(x==("__debug__" : Str))=false:=by decide)(E:Bp (e::es) X.env=(false,eval e X.env)::Bp es X.env:=by rfl)(q:(Gi pos (Bp es X.env)).any (·.1)=false:=by rfl):PE X (.Call (.Name x p) (e::es) [] pos) (tCB r t):=by
 intro f s u H Q I h;refine Je (q7j I B C D ?_ hn j);exact Es (thn (ha pos f s u H _ I h) λG J ⟨vs,L,M,O,P⟩=>v f J u L vs G Q M O P) E q
end
end L2
namespace HT
open PySem PyProof.Rows
section
variable{prog:Aw}{w:World}{A:Around}{E:Value->Ag->Prop}{s:Ag}
def cat_tup(M:IsTup s.heap t vs.toArray)(O:IsTup s.heap b ws.toArray)(G:vs≠[])(P:ws=[]->Q (.ref t) s)(R:ws≠[]->Q (.ref s.heap.objs.size) { s with heap:=s.heap.push { cls:=.type "tuple",data:=.seq (vs++ws).toArray } })(v:vs.length+ws.length<=sizeLine):wpAny (model prog w) A (Hd .Add (.ref t) (.ref b)) Q E s:=by
 obtain⟨⟨u,H,data,I⟩,ho,S,n,hd⟩:=id M;obtain⟨⟨J,h,B,j⟩,f,C,L,D⟩:=id O;subst S hd C D;have e:vs.toArray++ws.toArray=(vs++ws).toArray:=by simp
 by_cases q:ws=[]
 ·exact Ud ⟨_,ho,rfl⟩ ⟨_,f,rfl⟩ Qd Tj Mb Ln (Kv _ _)
   (tuple_addW1 t b vs.toArray ws.toArray n L H h I j (by simpa using G) (by simp[q])) ⟨ho,f,P q⟩
 ·refine Ud ⟨_,ho,rfl⟩ ⟨_,f,rfl⟩ Qd Tj Mb Ln (Kv _ _)
   (tuple_addW2 t b vs.toArray ws.toArray n L H h I j (by simpa using G) (by simpa using q) (by rw[Bj,Bj];exact v)) ⟨ho,f,?_⟩
  rw[e];exact R q
noncomputable def sIx(n d:Nat):Option Int->Nat
 |none=>d
 |some v=>if v<0 then(v+(n)).toNat else min v.toNat n
def z7v(v:Int)(n d:Nat):(if v<0 then max (v+(n)) 0 else min v (n))=((sIx n d (some v):Nat):Int):=by
 show(if v<0 then max (v+(n:Int)) 0 else min v (n:Int))=(((if v<0 then(v+(n:Int)).toNat else min v.toNat n):Nat):Int)
 by_cases f:v<0
 ·grind
 ·grind
def z6c(f h)(n:Nat):Pn f h 1 (n)=(((sIx n 0 f:Nat):Int),((sIx n n h):Int)):=by
 refine Vm ?_ ?_
 ·cases f with
  |none=>rfl
  |some v=>exact z7v v n 0
 ·cases h with
  |none=>rfl
  |some v=>exact z7v v n n
def z6d(i j:Nat):Ie (i) (j) 1=j-i:=by
 unfold Ie;have f:(1:Int)>0:=by lia
 simp only[f,if_true,Int.ediv_one];split<;>lia
def q8x(p:Mc v o)(h:Q o s):wpAny (model prog w) A (Dk.Slice.slicePartIndex v) Q E s:=by
 cases p with
 |none=>exact slicePart_none h
 |int i t=>exact slicePart_int h
def q4g{n:Nat}(hs:s.heap.IsSliceOf sl vl vu .none)(pl:Mc vl f)(u:Mc vu hi)(h:Q (((sIx n 0 f:Nat):Int),1,sIx n n hi-sIx n 0 f) s):wpAny (model prog w) A (Dk.Slice.sliceApplied (.ref sl) (pure (n))) Q E s:=by
 obtain⟨os,j,v,q⟩:=id hs;refine Ab (Ab (Cm j q rfl (Ab (Cm j q rfl (Ab (Cm j q rfl (Ad ?_)))))));refine Ab (slicePart_none ?_);refine Ab (q8x pl (Ab (q8x u (Ab (Ad ?_)))));show wpAny _ _ (match Pn f hi 1 (n:Int) with|(f,hi)=>pure (f,(1:Int),Ie f hi 1)) _ _ s;rw[z6c f hi n];show wpAny _ _ (pure (((sIx n 0 f:Nat):Int),(1:Int),Ie ((sIx n 0 f:Nat):Int) ((sIx n n hi:Nat):Int) 1)) _ _ s;rw[z6d];exact Ad h
def x1q(xs:Array Value)(i k:Nat):((List.range k).filterMap λ(m:Nat)=>xs[((i:Int)+(m)*1).toNat]?).toArray=((xs.toList.drop i).take k).toArray:=by
 have e:(λ(m:Nat)=>xs[((i:Int)+(m:Int)*1).toNat]?)=λm=>xs[i+m]?:=by grind
 rw[e];have:=pick_run xs i k;rw[Ue] at this;have f:((λx=>xs[x]?)∘λx=>i+x)=λm=>xs[i+m]?:=rfl;rw[f] at this;rw[this]
def getItem_tuple_cut(q:IsTup s.heap t items)(hs:s.heap.IsSliceOf sl vl vu .none)(pl:Mc vl j)(D:Mc vu hi)(I:¬(sIx items.size 0 j=0/\sIx items.size items.size hi=items.size))(h:Q (.ref s.heap.objs.size) { s with heap:=s.heap.push { cls:=.type "tuple",data:=.seq ((items.toList.drop (sIx items.size 0 j)).take (sIx items.size items.size hi-sIx items.size 0 j)).toArray } })(G:items.size<=sizeLine):wpAny (model prog w) A (getItem (.ref t) (.ref sl)) Q E s:=by
 have f:sizeOk (.seq ((items.toList.drop (sIx items.size 0 j)).take (sIx items.size items.size hi-sIx items.size 0 j)).toArray):=by
  show((items.toList.drop (sIx items.size 0 j)).take (sIx items.size items.size hi-sIx items.size 0 j)).toArray.size<=sizeLine;rw[Bj,Bg,Du,Fi];lia
 obtain⟨os,u,v,H⟩:=id hs;have B:s.TypeIs (.ref sl) "slice" := ⟨os,u,v⟩
 unfold getItem;try with_reducible refine Cq ?_
 refine Ab (Uv q.typeIs (by decide) ?_);refine Ab (Ca q.typeIs Dw
  (Bw Dw q.typeIs entry_tuple_getitem ?_ (Ug _ _)))
 show wpAny _ _ (Kc (.ref t) >>= _) _ _ s;refine Ab (tupleItemsOf_ q ?_);refine Ab (Gj B ?_);refine Ab (q4g hs pl D ?_);have C:¬((((sIx items.size 0 j:Nat):Int)==0&&(1:Int)==1&&(sIx items.size items.size hi-sIx items.size 0 j)==items.size)=true):=by grind
 show wpAny _ _ (if (((sIx items.size 0 j:Nat):Int)==0&&(1:Int)==1&&(sIx items.size items.size hi-sIx items.size 0 j)==items.size)=true then _ else _) _ _ s;rw[if_neg C,x1q];first
  |exact Ab (Bz (Ad ⟨_,rfl,Ad h⟩) f)
  |exact Ab (Bz (Ab (Ad (Ad ⟨_,rfl,Ad h⟩))) f)
  |exact Ab (Ab (Bz (Ad (Ad ⟨_,rfl,Ad h⟩)) f))
  |exact Ab (Ab (Bz (Ad ⟨_,rfl,Ad h⟩) f))
end
end HT
namespace L2
open PySem PySem.Spec PyProof.Rows
noncomputable abbrev TO:=St->Hp->(Option Int->Hp->Prop)->Prop
noncomputable def PO(X:Cx)(e:Option Expr)(t:TO):Prop :=
 ∀ pins   s  (σ:St)  H   Q ,Inv X pins σ H s->t σ H Q ->
  wpAny (model X.prog X.w) X.A (evalPart e X.env) (λu s'=>∃o H',Inv X pins σ H' s'/\Mc u o/\Q o H') X.xe s
noncomputable def tNoPart:TO:=λ_ H Q=>Q none H
noncomputable def tPart(t:TE):TO:=λσ H Q=>t σ H λx H1=>∃i,x=.int i/\Q (some i) H1
section
variable{X:Cx}{e:Expr}{te:TE}{lo hi:Option Expr}{tl th:TO}{pos p2:Pos}
def q0r:PO X none tNoPart:=by
 intro f s j H Q I h;exact Ad ⟨none,H,I,.none,h⟩
def q0s(h:PE X e te):PO X (some e) (tPart te):=by
 intro f s j H Q I v;refine thnE (h f s j H _ I v) λu G x B C D E=>?_;obtain⟨i,rfl,q⟩:=E;obtain⟨t,rfl⟩:=D;exact⟨some i,B,C,.int i t,q⟩
noncomputable def SlR(X:Cx)(r:V->Option Int->Option Int->Hp->VK->Prop):Prop :=
 ∀ pins   s  (σ:St)  H   x  (v vl vu) (lo hi)  sl   Q ,Inv X pins σ H s->RelV x v->s.heap.IsSliceOf sl vl vu .none->Mc vl lo->Mc vu hi->r x lo hi H Q ->
  ∃T id,Sz (.type T) "__getitem__" = pure (some (.builtin id))/\s.TypeIs v T/\wpAny (model X.prog X.w) X.A (getItem v (.ref sl)) (EP X pins σ Q) X.xe s
def SlR.or(h:SlR X r)(h':SlR X r'):SlR X (λx j u H Q=>r x j u H Q\/r' x j u H Q):=by
 intro f s B H x v vl C j u D Q I E hs pl G q;rcases q with q|q
 ·exact h f s B H x v vl C j u D Q I E hs pl G q
 ·exact h' f s B H x v vl C j u D Q I E hs pl G q
noncomputable def tSl(r:V->Option Int->Option Int->Hp->VK->Prop)(te:TE)(tl th:TO):TE:=λσ H Q=>te σ H λx H1=>tl σ H1 λl H2=>th σ H2 λu H3=>r x l u H3 Q
def q0p(E:SlR X r)(G:PE X e te)(hl:PO X lo tl)(J:PO X hi th):PE X (.Subscript e (.Slice lo hi none p2) pos) (tSl r te tl th):=by
 intro f s B H Q I h;refine Wd (thnE (G f s B H _ I h) λv L x M O P R=>?_);refine wpAny_Slice (thn (hl f L B M _ O R) λvl S ⟨l,U,W,pl,Y⟩=>thn (J f S B U _ W Y) λC j Z=>?_);obtain⟨u,D,I3,pu,q3⟩:=Z;refine Ad ?_;have I4:Inv X f B D { j with heap:=j.heap.push { cls:=.type "slice",data:=.fields #[vl,C,.none] } }:=I3.kept (t':=j.toks) λb ob q=>Ai _ q;obtain⟨T,id,hT,ht,hg⟩:=E f { j with heap:=j.heap.push { cls:=.type "slice",data:=.fields #[vl,C,.none] } } B D x v vl C l u j.heap.objs.size Q I4 P (Heap.IsSliceOf.new ..) pl pu q3;exact tail_any ht hT hg (by with_unfolding_all rfl)
noncomputable def cutV(xs:List V)(lo hi:Option Int):List V:=(xs.drop (HT.sIx xs.length 0 lo)).take (HT.sIx xs.length xs.length hi-HT.sIx xs.length 0 lo)
def q7n(xs)(f h):(cutV xs f h).length<=xs.length:=by
 unfold cutV;rw[Bg,Du];lia
noncomputable def rSlT(K:Al):V->Option Int->Option Int->Hp->VK->Prop:=λx lo hi H Q=>∃a xs,x=.ref a/\SqT K H a xs /\
 ¬(HT.sIx xs.length 0 lo=0/\HT.sIx xs.length xs.length hi=xs.length)/\∀p,H p=none->Q (.ref p) (upd H p (.tup (cutV xs lo hi)))
def x3p:SlR X (rSlT X.K):=by
 intro C s P H x v vl R u D S Q I J hs pl L h;obtain⟨a,j,rfl,M,O,q⟩:=h;cases J;obtain⟨B,r,E,G⟩:=I.tuple M;have f:B.toArray.size=j.length:=by rw[Bj];exact r.length.symm
 refine⟨"tuple",_,Dw.lookup,E.typeIs,?_⟩;refine HT.getItem_tuple_cut E hs pl L (by rw[f];exact O) ?_ (by rw[f];exact G);rw[f];refine⟨.ref s.heap.objs.size,_,I.laid (t':=s.toks) (λb T q=>Ai _ q) (Aq _) ?_,rfl,q _ (I.hok.fresh (Aq _))⟩;exact⟨Cc (q7n j u D) G,_,(r.drop (HT.sIx j.length 0 u)).take (HT.sIx j.length j.length D-HT.sIx j.length 0 u),IsTup.new _ _⟩
def Vals.nil_iff(r:Vals xs us):us=[]↔xs=[]:=by
 cases r with
 |nil=>simp
 |cons _ _=>simp
end
noncomputable def ixN(n:Nat)(i:Int):Option Nat:=if 0<=i then(if i<n then some i.toNat else none) else if -(n)<=i then some (i+n).toNat else none
noncomputable def atI{α:Type}(xs:List α)(i:Int):Option α:=(ixN xs.length i).bind λj=>xs[j]?
def z7w(h:ixN n i=some j):seqIndex? i n=some j/\j<n /\ -(n)<=i/\i<n:=by
 unfold ixN at h;by_cases q:0<=i
 ·rw[if_pos q] at h;by_cases f:i<n
  ·rw[if_pos f] at h;have e:=Bx h;exact⟨by rw[Vj q f,e],by lia,by lia,f⟩
  ·grind
 ·rw[if_neg q] at h;by_cases f : -(n:Int)<=i
  ·rw[if_pos f] at h;have e:=Bx h;exact⟨by rw[seqIndex_neg (by lia) f,e],by lia,f,by lia⟩
  ·grind
def q9w{xs:List α}(h:atI xs i=some v):∃j,seqIndex? i xs.length=some j/\xs[j]?=some v/\j<xs.length /\ -(xs.length:Int)<=i/\i<xs.length:=by
 unfold atI at h;cases e:ixN xs.length i with
 |none=>rw[e] at h;cases h
 |some j =>
  rw[e] at h;obtain⟨f,q,u,B⟩:=z7w e;exact⟨j,f,h,q,u,B⟩
noncomputable def PlainIx(b:Expr):Prop:=∀o i,Rk b false o i=operate [o,i] (getItem o i)
noncomputable def IxR(X:Cx)(r:R2):Prop :=
 ∀(value slice)  pins   s  (σ:St)  H  (x y) (v u)  Q ,Inv X pins σ H s->RelV x v->RelV y u->r x y H Q ->
  Rk slice false v u=operate [v,u] (getItem v u)->wpAny (model X.prog X.w) X.A (subscriptTail value slice v u) (EP X pins σ Q) X.xe s
noncomputable def MtR(X:Cx)(id:String)(r:V->List V->Hp->VK->Prop):Prop :=
 ∀ pins   s  (σ:St)  H   x   xs   v   us   Q ,Inv X pins σ H s->RelV x v->Vals xs us->r x xs H Q ->
  wpAny (model X.prog X.w) X.A (call (.builtin id) (v::us)) (EP X pins σ Q) X.xe s
section
variable{X:Cx}{a b:Expr}{ta tb:TE}{pos:Pos}
def IxR.or(h:IxR X r)(h':IxR X r'):IxR X (λx y H Q=>r x y H Q\/r' x y H Q):=by
 intro f j B s C H x y v u Q I D E q hs;rcases q with q|q
 ·exact h f j B s C H x y v u Q I D E q hs
 ·exact h' f j B s C H x y v u Q I D E q hs
def q1q(j:IxR X r)(ha:PE X a ta)(B:PE X b tb)(hs:PlainIx b):PE X (.Subscript a b pos) (tOp r ta tb):=by
 intro f s C H Q I h;exact Wd (binT ha B I h λv u D x y E G J L q=>j a b f D C E x y v u Q G J L q (hs _ _))
noncomputable def rIxL(K:Al):R2:=λx y H Q=>∃p xs i v,x=.ref p/\y=.int i/\SqL K H p xs/\atI xs i=some v/\Q v H
noncomputable def rIxT(K:Al):R2:=λx y H Q=>∃p xs i v,x=.ref p/\y=.int i/\SqT K H p xs/\atI xs i=some v/\Q v H
noncomputable def rIxS:R2:=λx y H Q=>∃z i c,x=.str z/\y=.int i/\z.length<=sizeLine/\atI z.cps.toList i=some c/\Q (.str ⟨#[c]⟩) H
def ix_list:IxR X (rIxL X.K):=by
 intro C D f s O H x y v u Q I P R h hs;obtain⟨p,Z,i,z,rfl,rfl,S,T,q⟩:=h;cases P;obtain⟨t,rfl⟩:=R;obtain⟨E,r,pl,hz⟩:=I.list S;obtain⟨j,B,U,h3,W,Y⟩:=q9w T;obtain⟨w,L,G⟩:=r.get U;have hl:=r.length;have hn:=line63;have fin:EP X f O Q w s:=⟨z,H,I,G,q⟩
 by_cases M:0<=i
 ·have J:i.toNat=j:=by
   rw[Vj M Y] at B;exact Bx B
  exact item_listR pl.isList M (by lia) (by rw[J];simpa using L) fin hs
 ·have J:(i+(E.toArray.size:Int)).toNat=j:=by
   rw[seqIndex_neg (by lia) W] at B;rw[Bj,<- hl];exact Bx B
  exact Rl pl.isList.typeIs slot_list_getitem.lookup
   (wpAny_getItem_list_neg pl.isList (by lia) (by rw[Bj]<;>lia) (by lia) (by rw[J];simpa using L) ⟨rfl,fin⟩) hs
def ix_tup:IxR X (rIxT X.K):=by
 intro B C f s E H x y v u Q I G J h hs;obtain⟨p,T,i,z,rfl,rfl,L,M,q⟩:=h;cases G;obtain⟨t,rfl⟩:=J;obtain⟨O,r,pl,U⟩:=I.tuple L;obtain⟨j,P,R,W,Y,Z⟩:=q9w M;obtain⟨w,S,D⟩:=r.get R;have hl:=r.length;have hn:=line63;have fin:EP X f E Q w s:=⟨z,H,I,D,q⟩
 exact Rl pl.typeIs slot_tuple_getitem.lookup
  (getItem_tuple pl (by lia) (by lia) (by rw[Bj,<- hl];exact P) (by simpa using S) ⟨rfl,fin⟩) hs
def ix_str:IxR X rIxS:=by
 intro f B C s S H x y v u Q I E G h hs;obtain⟨z,i,c,rfl,rfl,T,J,q⟩:=h;obtain⟨t,rfl⟩:=E;obtain⟨U,rfl⟩:=G;obtain⟨j,D,L,W,M,O⟩:=q9w J;have hl:z.cps.toList.length=z.length:=by simp[Str.length]
 rw[hl] at D M O;have hn:=line63;exact tail_any (Ta s z t) slot_str_getitem.lookup (getItem_str (by
  have P:decide (i < -(2^63:Int))=false:=decide_eq_false (by lia);have R:decide (i>=2^63)=false:=decide_eq_false (by lia);rw[P,R,To]) (by rw[D];simpa using L) ⟨.str ⟨#[c]⟩,H,I.tok _,⟨_,rfl⟩,q⟩) hs
noncomputable def rIx(K:Al):R2:=λx y H Q=>rIxL K x y H Q\/rIxT K x y H Q\/rIxS x y H Q
def ix_seq:IxR X (rIx X.K):=ix_list.or (ix_tup.or ix_str)
def z6e(f:List Value)(n j)(u):Dm (·.setIfInBounds j u) { cls:=.type "list",data:=.seq f.toArray n }={ cls:=.type "list",data:=.seq (f.set j u).toArray n }:=by
 simp[Dm]
def Inv.lst{q:St}(I:Inv X j q H s)(h:H p=some (.lst xs)):
  ∃(f:List Value) (n:Nat),Vals xs f/\s.heap.get? p=some { cls:=.type "list",data:=.seq f.toArray n }/\xs.length<=sizeLine:=by
 obtain⟨z,f,n,r,e⟩:=I.hok p _ h;exact⟨f,n,r,e,z⟩
def Inv.lstUpd{v:St}{j:List Value}(I:Inv X pins v H s)(h:H p=some (.lst xs))(ho:s.heap.get? p=some { cls:=.type "list",data:=.seq j.toArray n })(B:f { cls:=.type "list",data:=.seq j.toArray n }={ cls:=.type "list",data:=.seq its'.toArray n' })(r:Vals ys its')(C:ys.length<=sizeLine)(t):
  Inv X pins v (upd H p (.lst ys)) { s with heap:=s.heap.update p f,toks:=t }:=by
 have e:(s.heap.update p f).get? p=some { cls:=.type "list",data:=.seq its'.toArray n' }:=by
  rw[Gm f ho (by rw[B]<;>rfl),B]
 refine I.write (by rw[h];trivial) (.inl rfl) (λb u D q=>(Co _ _ (Ex D)).trans q) ⟨_,e⟩ ?_;exact⟨C,its',n',r,e⟩
noncomputable def rSetL:V->V->V->Hp->(Hp->Prop)->Prop:=λo i v H Q=>∃p xs k j,o=.ref p/\i=.int k/\H p=some (.lst xs)/\ixN xs.length k=some j/\Q (upd H p (.lst (xs.set j v)))
def q9x:PSet X rSetL:=by
 intro f s J H o i v S T u Q I ro L M h;obtain⟨p,O,k,j,rfl,rfl,hp,P,q⟩:=h;cases ro;obtain⟨t,rfl⟩:=L;obtain⟨B,n,r,ho,R⟩:=I.lst hp;obtain⟨C,U,D,E⟩:=z7w P;have hl:=r.length;have hn:=line63;have I':Inv X f J (upd H p (.lst (O.set j v))) { s with heap:=s.heap.update p (Dm (·.setIfInBounds j u)) } :=
  I.lstUpd hp ho (z6e B n j u) (r.set M j) (by rw[List.length_set];exact R) s.toks
 by_cases G:0<=k
 ·have hk:k.toNat=j:=by
   rw[Vj G E] at C;exact Bx C
  exact W.ki_setAt ho G (by lia) (by rw[Bj,<- hl];exact E) (by rw[hk];exact⟨_,I',q⟩)
 ·have hk:(k+(B.toArray.size:Int)).toNat=j:=by
   rw[seqIndex_neg (by lia) D] at C;rw[Bj,<- hl];exact Bx C
  exact W.ki_setBack ho (by lia) (by rw[Bj,<- hl];exact D) (by lia) (by rw[hk];exact⟨_,I',q⟩)
def z1h(f j)(n):(Ki f j none n).1=((HT.sIx n 0 f:Nat):Int)/\(Ki f j none n).2.1=((HT.sIx n n j:Nat):Int)/\(Ki f j none n).2.2=1:=by
 refine⟨?_,?_,rfl⟩
 ·cases f with
  |none=>simp[Ki,HT.sIx]
  |some i =>
   simp only[Ki,HT.sIx,Vq,show(1:Int)>0 by decide,if_true];by_cases h:i<0
   ·simp only[h,if_true]<;>lia
   ·simp only[h,if_false]<;>lia
 ·cases j with
  |none=>simp[Ki,HT.sIx]
  |some i =>
   simp only[Ki,HT.sIx,Vq,show(1:Int)>0 by decide,if_true];by_cases h:i<0
   ·simp only[h,if_true]<;>lia
   ·simp only[h,if_false]<;>lia
def q9y(f:List Value)(h j):slicePick f.toArray h j none=((f.drop (HT.sIx f.length 0 h)).take (HT.sIx f.length f.length j-HT.sIx f.length 0 h)).toArray:=by
 obtain⟨q,u,v⟩:=z1h h j f.toArray.size;unfold slicePick;rw[q,u,v];simp only[sliceRange_one,pick_run,Bj]<;>rfl
noncomputable def rSlL(K:Al):V->Option Int->Option Int->Hp->VK->Prop:=λx lo hi H Q=>∃a xs,x=.ref a/\SqL K H a xs/\∀p,H p=none->Q (.ref p) (upd H p (.lst (cutV xs lo hi)))
def sl_list:SlR X (rSlL X.K):=by
 intro B s O H x v vl P u C R Q I E hs pl G h;obtain⟨a,f,rfl,J,q⟩:=h;cases E;obtain⟨L,r,D,M⟩:=I.list J;have j:=r.length;refine⟨"list",_,slot_list_getitem.lookup,D.isList.typeIs,?_⟩;refine wpAny_getItem_list_slice D.isList hs pl G .none (by simp) ?_ (by rw[Bj]<;>lia);rw[q9y,<- j];refine⟨.ref s.heap.objs.size,_,I.laid (t':=s.toks) (λb S q=>Ai _ q) (Aq _) ?_,rfl,q _ (I.hok.fresh (Aq _))⟩;exact⟨Cc (q7n f u C) M,_,0,(r.drop (HT.sIx f.length 0 u)).take (HT.sIx f.length f.length C-HT.sIx f.length 0 u),As _ rfl⟩
noncomputable def flatV:V->Bool
 |.non=>true
 |.bl _=>true
 |.int _=>true
 |.str _=>true
 |_=>false
noncomputable def eqV:V->V->Bool
 |.non,.non=>true
 |.bl a,.bl b=>a==b
 |.bl a,.int b=>(if a then 1 else 0)==b
 |.int a,.bl b=>a==(if b then 1 else 0)
 |.int a,.int b=>a==b
 |.str a,.str b=>a==b
 |_,_=>false
def eqAt_V(j:RelV y u)(f:RelV x v)(B:flatV y=true)(q:flatV x=true):Ei A s u v (eqV y x):=by
 cases y with
 |non =>
  cases j;cases x with
  |non=>cases f;exact We _
  |bl b=>cases f;exact Ei.none_bool b
  |int b=>obtain⟨t,rfl⟩:=f;exact Ei.none_int b t
  |str b=>obtain⟨t,rfl⟩:=f;exact Ei.none_str b t
  |_=>exact absurd (show false=true from q) Bq
 |bl a =>
  cases j;cases x with
  |non=>cases f;exact Ei.bool_none a
  |bl b=>cases f;exact Ei.bool_bool a b
  |int b=>obtain⟨t,rfl⟩:=f;exact Ei.bool_int a b t
  |str b=>obtain⟨t,rfl⟩:=f;exact Ei.bool_str a b t
  |_=>exact absurd (show false=true from q) Bq
 |int a =>
  obtain⟨h,rfl⟩:=j;cases x with
  |non=>cases f;exact Ei.int_none a h
  |bl b=>cases f;exact Ei.int_bool a h b
  |int b=>obtain⟨t,rfl⟩:=f;exact Ei.int_int a h b t
  |str b=>obtain⟨t,rfl⟩:=f;exact Tz a h b t
  |_=>exact absurd (show false=true from q) Bq
 |str a =>
  obtain⟨h,rfl⟩:=j;cases x with
  |non=>cases f;exact Ei.str_none a h
  |bl b=>cases f;exact Ei.str_bool a h b
  |int b=>obtain⟨t,rfl⟩:=f;exact Ua a h b t
  |str b=>obtain⟨t,rfl⟩:=f;exact Oo a h b t
  |_=>exact absurd (show false=true from q) Bq
 |_=>exact absurd (show false=true from B) Bq
noncomputable def eqU(x:V)(u:Value):Bool:=match u with
 |.none=>eqV .non x
 |.bool b=>eqV (.bl b) x
 |.int i _=>eqV (.int i) x
 |.str z _=>eqV (.str z) x
 |_=>false
def x3q(r:RelV y u)(f:flatV y=true):eqU x u=eqV y x:=by
 cases y with
 |non=>cases r;rfl
 |bl b=>cases r;rfl
 |int i=>obtain⟨t,rfl⟩:=r;rfl
 |str z=>obtain⟨t,rfl⟩:=r;rfl
 |_=>exact absurd (show false=true from f) Bq
theorem z3h:∀{xs} {us},Vals xs us->xs.all flatV=true->us.any (eqU x)=xs.any λy=>eqV y x
 |_,_,.nil,_=>rfl
 |y::xs,u::us,.cons r t,f=>by
  rw[List.all_cons,Mq] at f;rw[Pa,Pa,x3q r f.1,z3h t f.2]
theorem q9z(j:RelV x v)(q:flatV x=true):∀{xs} {us},Vals xs us->xs.all flatV=true->∀u∈us,Ei A s u v (eqU x u)
 |_,_,.nil,_=>λu h=>by cases h
 |y::xs,u::us,.cons r t,f=>λB h=>by
  rw[List.all_cons,Mq] at f;rcases Bb.mp h with rfl|h
  ·rw[x3q r f.1];exact eqAt_V r j f.1 q
  ·exact q9z j q t f.2 B h
noncomputable def inV(x:V)(xs:List V):Bool:=xs.any λy=>eqV y x
noncomputable def rIn(K:Al)(neg:Bool):R2:=λx y H Q=>∃p xs,y=.ref p/\(SqL K H p xs\/SqT K H p xs)/\flatV x=true/\xs.all flatV=true/\Q (.bl (if neg then !inV x xs else inV x xs)) H
def z7x:OpR X (Cz .In) (rIn X.K false):=by
 intro C s L H x y v u Q I D G h;obtain⟨p,M,rfl,j,E,fs,q⟩:=h;cases G;rcases j with j|j
 ·obtain⟨f,r,pl,J⟩:=I.list j;refine SeqAt.in_listAt (eqU x) pl.isList (λw B=>q9z D E r fs w (by simpa using B)) ⟨.bl _,H,I,rfl,?_⟩;rw[show f.toArray.any (eqU x)=f.any (eqU x) by simp,z3h r fs];exact q
 ·obtain⟨f,r,pl,J⟩:=I.tuple j;refine SeqAt.in_tupleAt (eqU x) pl (λw B=>q9z D E r fs w (by simpa using B)) ⟨.bl _,H,I,rfl,?_⟩;rw[show f.toArray.any (eqU x)=f.any (eqU x) by simp,z3h r fs];exact q
def z1i:CallR X (.type "list") (λxs H Q=>∃p ys,xs=[.ref p]/\(SqL X.K H p ys\/SqT X.K H p ys)/\∀l,H l=none->Q (.ref l) (upd H l (.lst ys))):=by
 intro C s M H xs P Q I r h;obtain⟨p,ys,rfl,D,q⟩:=h;obtain⟨u,rfl,O⟩:=vals1 r;cases O;have fin:∀(f:List Value),Vals ys f->ys.length<=sizeLine->∀(j:Heap) (v:Nat),(∀b L,s.heap.get? b=some L->j.get? b=some L) ->
   j.get? s.heap.objs.size=some { cls:=.type "list",dict:=none,data:=.seq f.toArray v,slots:=#[] }->EP X C M Q (.ref s.heap.objs.size) { s with heap:=j }:=λf B E j v kp e =>
  ⟨.ref s.heap.objs.size,_,I.laid (t':=s.toks) kp (Aq _) (show ObjOk X.prog X.w _ j _ (.lst ys) from⟨E,f,v,B,e⟩),rfl,q _ (I.hok.fresh (Aq _))⟩
 rcases D with D|D
 ·obtain⟨f,B,pl,E⟩:=I.list D;have G:=B.length;obtain⟨o,ho,J,n,hd⟩:=pl.isList;exact call_list_seq p (.inl rfl) ho J hd (λj v kp e=>fin f B E j v kp e) (by simp only[Bj]<;>lia)
 ·obtain⟨f,B,pl,E⟩:=I.tuple D;have G:=B.length;obtain⟨o,ho,J,n,hd⟩:=pl;exact call_list_seq p (.inr rfl) ho J hd (λj v kp e=>fin f B E j v kp e) (by simp only[Bj]<;>lia)
noncomputable def tyV(K:Al)(T:String)(x:V)(H:Hp):Prop:=match x with
 |.str _=>T = "str"
 |.int _=>T = "int"
 |.ref p=>(T = "list" /\ ∃xs,SqL K H p xs)\/(T = "tuple" /\ ∃o,K.lookup p=some o/\o.cls=.type "tuple" /\ o.dict=none) \/
   (T = "dict" /\ ((∃kvs,H p=some (.dK kvs))\/∃kvs,H p=some (.dT kvs)))\/(T = "set" /\ ∃S n,H p=some (.set S n))
 |_=>False
def x3r{u:St}(I:Inv X pins u H s)(r:RelV x v)(f:tyV X.K T x H):
  s.TypeIs v T/\∀a,v=.ref a->∃q,s.heap.get? a=some q/\q.dict=none:=by
 cases x with
 |str z =>
  obtain⟨t,rfl⟩:=r;cases(show T = "str" from f);exact⟨Ta s z t,λ_ e=>nomatch e⟩
 |int i =>
  obtain⟨t,rfl⟩:=r;cases(show T = "int" from f);exact⟨Wf s i t,λ_ e=>nomatch e⟩
 |ref p =>
  cases r;rcases f with⟨rfl,E,B⟩|⟨rfl,o,hk,C,hd⟩|⟨rfl,hk⟩|⟨rfl,S,n,hk⟩
  ·obtain⟨D,_,pl,_⟩:=I.list B;refine⟨pl.isList.typeIs,λa e=>?_⟩;cases e;obtain⟨o,n,e,c,hd,_⟩:=pl;exact⟨o,e,hd⟩
  ·refine⟨⟨o,I.kIn p o hk,C⟩,λa e=>?_⟩;cases e;exact⟨o,I.kIn _ o hk,hd⟩
  ·have z:∃o,s.heap.get? p=some o/\o.ExactDict:=by
    rcases hk with⟨h,hk⟩|⟨h,hk⟩
    ·obtain⟨_,_,_,_,o,_,_,e,ex,_⟩:=I.hok p _ hk;exact⟨o,e,ex⟩
    ·obtain⟨_,_,_,_,o,_,_,e,ex,_⟩:=I.hok p _ hk;exact⟨o,e,ex⟩
   obtain⟨o,e,ex⟩:=z;refine⟨⟨o,e,ex.1⟩,λa j=>?_⟩;cases j;exact⟨o,e,ex.2.1⟩
  ·obtain⟨o,_,_,_,e,ex,_⟩:=I.hok p _ hk;refine⟨⟨o,e,ex.1⟩,λa j=>?_⟩;cases j;exact⟨o,e,ex.2.1⟩
 |_=>exact False.elim f
noncomputable def tBM0(K:Al)(T:String)(r:V->List V->Hp->VK->Prop)(to:TE):TE:=λσ H Q=>to σ H λx H1=>tyV K T x H1/\r x [] H1 Q
noncomputable def tBM(K:Al)(T:String)(r:V->List V->Hp->VK->Prop)(to:TE)(t:TA):TE:=λσ H Q=>to σ H λx H1=>tyV K T x H1/\t σ H1 λxs H2=>r x xs H2 Q
variable{o e:Expr}{es:List Expr}{to:TE}{t:TA}{name:Str}{apos cpos:Pos}{T id:String}{r:V->List V->Hp->VK->Prop}
def pe_bm0(E:Tb T)(slot:Slot T name id)(u:typeOf (.builtin id)=pure (.type "method_descriptor"))(G:MtR X id r)(ho:PE X o to)(j:Gw o name X.env (eval o X.env)=eval o X.env:=by rfl)(q:(apos.endLine==cpos.line)=true:=by rfl):PE X (.Call (.Attribute o name apos) [] [] cpos) (tBM0 X.K T r to):=by
 intro f s B H Q I h;refine wpAny_Call_method0_late j q (thnE (ho f s B H _ I h) λv J x L C D ⟨M,O⟩=>?_);obtain⟨P,R⟩:=x3r C D M;exact⟨T,id,E,slot,u,P,R,Ji rfl (PySem.evalArgs_none (G f J B L x [] v [] Q C D .nil O))⟩
def pe_bm(L:Tb T)(slot:Slot T name id)(C:typeOf (.builtin id)=pure (.type "method_descriptor"))(M:MtR X id r)(ho:PE X o to)(ha:PA X (e::es) t)(q:Gw o name X.env (eval o X.env)=eval o X.env:=by rfl)(B:((Gi cpos (Bp (e::es) X.env)).all (λx => !x.1)&&(Mo cpos (Jh [] X.env)).all (λx=>x.1.isSome)
   && decide ((e::es).length+([]:List Oh).length+(if ([]:List Oh).isEmpty then 0 else 1)<30))=true:=by rfl)(u:(apos.endLine==cpos.line)=true:=by rfl)(hs:Bp (e::es) X.env=(false,eval e X.env)::Bp es X.env:=by rfl)(j:(Gi cpos (Bp es X.env)).any (·.1)=false:=by rfl):
  PE X (.Call (.Attribute o name apos) (e::es) [] cpos) (tBM X.K T r to t):=by
 intro f s D H Q I h;refine wpAny_Call_method_late q B u rfl (thnE (ho f s D H _ I h) λv O x P E G ⟨R,S⟩=>?_);obtain⟨U,W⟩:=x3r E G R;refine⟨T,id,L,slot,C,U,W,?_⟩;have J:=ha cpos f O D P _ E S;rw[hs] at J ⊢;refine Ji (by show(false||(Gi cpos (Bp es X.env)).any (·.1))=false;rw[j]<;>rfl) (Nj ?_);exact thn J λY Z ⟨vs,H2,I2,r2,q2⟩=>M f Z D H2 x vs v Y Q I2 G r2 q2
end
noncomputable def MtM(X:Cx)(id:String)(r:V->List V->Hp->VK->Prop):Prop :=
 ∀ pins   s  (σ:St)  H   x   xs   v   us   Q ,Inv X pins σ H s->RelV x v->Vals xs us->r x xs H Q ->
  wpAny (model X.prog X.w) X.A (call (.builtin id) (v::us)) (EP X pins σ Q) X.xe s
def Vals.one:∀{x} {us},Vals [x] us->∃u,us=[u]/\RelV x u:=λr=>vals1 r
def Vals.two:∀{x y} {us},Vals [x,y] us->∃u v,us=[u,v]/\RelV x u/\RelV y v:=λr=>vals2 r
theorem Vals.zero:∀{us},Vals [] us->us=[]
 |_,.nil=>rfl
theorem Vals.eraseIdx:∀{xs} {us}  i ,Vals xs us->Vals (xs.eraseIdx i) (us.eraseIdx i)
 |_,_,_,.nil=>.nil
 |_,_,0,.cons _ t=>t
 |_,_,i+1,.cons r t=>.cons r (Vals.eraseIdx i t)
theorem Vals.rep(h:Vals xs f):∀k,Vals (List.replicate k xs).flatten (List.replicate k f).flatten
 |0=>.nil
 |k+1=>by
  rw[Od,Od,Pj,Pj];exact Vals.append h (Vals.rep h k)
theorem z1j{f:Type}:∀(l:List f)  i ,(l.eraseIdx i).length<=l.length
 |[],_=>Aq _
 |_::_,0=>Hh _
 |_::r,i+1=>Iq (z1j r i)
theorem z1k(f:List Value):∀ k   acc ,
  List.foldl (λh j=>h++j) acc.toArray (List.replicate k f.toArray)=(acc++(List.replicate k f).flatten).toArray
 |0,acc=>by simp
 |k+1,acc=>by
  have e:acc.toArray++f.toArray=(acc++f).toArray:=by simp
  have q:(acc++f)++(List.replicate k f).flatten=acc++(List.replicate (k+1) f).flatten:=by grind
  rw[<- q,<- z1k f k (acc++f),<- e,Od,Wg]
section
variable{X:Cx}{pins:List (Addr×Obj)}{σ:St}{H:Hp}{s:Ag}{l b:Addr}{xs ys zs:List V}
def Inv.lset{h:List Value}(I:Inv X pins σ H s)(j:H l=some (.lst xs))(e:s.heap.get? l=some { cls:=.type "list",data:=.seq h.toArray n })(v:f h.toArray=its'.toArray)(B:Vals ys its')(C:ys.length<=sizeLine):
  Inv X pins σ (upd H l (.lst ys)) { s with heap:=s.heap.update l (Dm f),toks:=t' }:=by
 have q:=PySem.IsL.update e f;rw[v] at q;refine I.write (by rw[j];exact trivial) (.inl rfl) (λG u D E=>(Co s.heap (Dm f) (Ex D)).trans E) ⟨_,q⟩ ?_;exact⟨C,its',_,B,q⟩
def Inv.lnew(I:Inv X pins σ H s)(f:Vals ys its)(h:ys.length<=sizeLine):
  Inv X pins σ (upd H s.heap.objs.size (.lst ys)) { s with heap:=s.heap.push { cls:=.type "list",data:=.seq its.toArray },toks:=t' } :=
 I.laid (λ_ _ q=>Ai _ q) (Aq _) ⟨h,its,0,f,As _ rfl⟩
def Inv.fresh(I:Inv X pins σ H s):H s.heap.objs.size=none:=I.hok.fresh (Aq _)
def Inv.lstM(I:Inv X pins σ H s)(h:H l=some (.lst xs)):xs.length<=sizeLine/\∃(f:List Value) (n:Nat),Vals xs f/\xs.length=f.length/\s.heap.get? l=some { cls:=.type "list",data:=.seq f.toArray n }:=by
 obtain⟨z,f,n,r,e⟩:=I.hok l _ h;exact⟨z,f,n,r,r.length,e⟩
def notLongL(h:n<=sizeLine):Qe n=false:=by
 exact decide_eq_false (by lia)
end
section
variable{X:Cx}
noncomputable def rAppend:V->List V->Hp->VK->Prop:=λx vs H Q=>∃l xs y,x=.ref l/\vs=[y]/\H l=some (.lst xs)/\xs.length<sizeLine/\Q .non (upd H l (.lst (xs++[y])))
def q2r:MtM X "list.append" rAppend:=by
 intro j s G H x vs v J Q I C D h;obtain⟨l,L,y,rfl,rfl,B,M,q⟩:=h;cases C;obtain⟨u,rfl,E⟩:=D.one;obtain⟨z,f,n,r,hl,e⟩:=I.lstM B;refine Lh F.slot_list_append ⟨_,e,rfl⟩ F.entry_list_append (F.args_list_append_2 _ _) (PySem.list_append l f.toArray n u (by rw[Bj];lia)) ⟨e,?_⟩;refine⟨.non,_,I.lset (its':=f++[u]) B e (by simp) (r.append (.cons E .nil)) ?_,rfl,q⟩;rw[An,El];lia
noncomputable def rPopAt:V->List V->Hp->VK->Prop:=λx vs H Q=>∃l xs i k y,x=.ref l/\vs=[.int i]/\H l=some (.lst xs) /\ -(2^63)<=i/\i<2^63/\seqIndex? i xs.length=some k/\xs[k]?=some y/\Q y (upd H l (.lst (xs.eraseIdx k)))
def x1r:MtM X "list.pop" rPopAt:=by
 intro B s R H x vs v S Q I D E h;obtain⟨l,G,i,k,y,rfl,rfl,C,J,L,hk,M,q⟩:=h;cases D;obtain⟨u,rfl,O⟩:=E.one;obtain⟨t,rfl⟩:=O;obtain⟨z,f,n,r,hl,e⟩:=I.lstM C;obtain⟨w,P,j⟩:=r.get M;refine Lh F.slot_list_pop ⟨_,e,rfl⟩ F.entry_list_pop (F.args_list_pop_2 _ _)
  (MeetsSeq.list_pop_at l f.toArray n i t k w (fitsIndex_both J L) (by rw[Bj,<- hl];exact hk) (by rw[<- Ht];exact P) (by rw[Bj];lia)) ⟨e,?_⟩
 refine⟨y,_,I.lset (its':=f.eraseIdx k) C e ?_ (r.eraseIdx k) ?_,j,q⟩
 ·simp_all
 ·have:=z1j G k;lia
noncomputable def rCat:R2:=λx y H Q=>∃l b xs zs,x=.ref l/\y=.ref b/\H l=some (.lst xs)/\H b=some (.lst zs)/\xs.length+zs.length<=sizeLine/\∀p,H p=none->Q (.ref p) (upd H p (.lst (xs++zs)))
def op_cat:OpR X (Hd .Add) rCat:=by
 intro B s R H x y v u Q I C D h;obtain⟨l,b,S,T,rfl,rfl,E,G,U,q⟩:=h;cases C;cases D;obtain⟨z,j,n,r,hl,e⟩:=I.lstM E;obtain⟨W,f,Y,J,L,M⟩:=I.lstM G;refine PySem.P.add_list e M ?_ (by rw[Bj,Bj];lia);have O:j.toArray++f.toArray=(j++f).toArray:=by simp
 rw[O];exact⟨.ref _,_,I.lnew (t':=s.toks) (r.append J) (by rw[An];lia),rfl,q _ I.fresh⟩
noncomputable def rRep:R2:=λx y H Q=>∃l k xs,x=.ref l/\y=.int k/\H l=some (.lst xs) /\ -(2^63)<=k/\k<2^63/\xs.length*k.toNat<=sizeLine /\
 ∀p,H p=none->Q (.ref p) (upd H p (.lst (List.replicate k.toNat xs).flatten))
def x4y{f:Type}(xs:List f)(k):(List.replicate k xs).flatten.length=k*xs.length:=by simp_all
def op_rep:OpR X (Hd .Mult) rRep:=by
 intro L s W H x y v u Q I M O h;obtain⟨l,k,Y,rfl,rfl,P,R,S,T,q⟩:=h;cases M;obtain⟨t,rfl⟩:=O;obtain⟨z,f,n,r,hl,e⟩:=I.lstM P;have B:f.toArray.size*k.toNat<=sizeLine:=by simp_all
 have C:¬f.toArray.size*k.toNat>(2^63-1) / 8:=by
  have:(sizeLine:Nat)<=(2^63-1) / 8:=by decide
  lia
 have D:¬(!Builtin.List.listFitsIndex k)=true:=by
  rw[fitsIndex_both R S];exact Bq
 have j:¬Qe (f.toArray.size*k.toNat)=true:=by
  rw[notLongL B];exact Bq
 have E:List.foldl (λG J=>G++J) #[] (List.replicate (if f.toArray.isEmpty=true then 0 else k.toNat) f.toArray)=(List.replicate k.toNat f).flatten.toArray:=by
  have Z:∀m:Nat,List.foldl (λG J=>G++J) #[] (List.replicate m f.toArray)=(List.replicate m f).flatten.toArray:=λm=>by
   have:=z1k f m [];exact this
  cases f with
  |nil=>simp
  |cons a r'=>grind
 refine wpAny_binaryOp_repeat_ref (by decide) ⟨_,e,rfl⟩ (λU=>Wf U k t) noFill_list_mul F.fills_int_mul Wh repeat_list F.slot_int_index.lookup
  (Lh Wh (Wf s k t) F.entry_int_rmul (F.args_int_rmul_2 _ _) (int___rmul___int_list k t l f.toArray n)
   ⟨e,rfl,⟨_,e,rfl⟩,Lh F.slot_list_mul ⟨_,e,rfl⟩ F.entry_list_mul (F.args_list_mul_2 _ _) (AutoListH.list___mul___list_int_3 l f.toArray n k t D C j) ⟨e,?_⟩⟩)
 rw[E];exact⟨.ref _,_,I.lnew (t':=s.toks) (r.rep k.toNat) (by rw[x4y,Nat.mul_comm];exact T),rfl,q _ I.fresh⟩
end
end L2
namespace Att
open PySem PySem.W PySem.Calls PyProof.Rows
def q7o:∀ ns   vs ,WellAll P h vs (ns.map WData.int)->Px vs ns:=by
 intro ns;induction ns with
 |nil =>
  intro vs w;cases w;exact .nil
 |cons n ns ih =>
  intro vs w;cases w with
  |cons a b =>
   cases a;exact .cons _ _ (ih _ b)
def z7y{l:OpenLaw}(hn:l.most=some n)(f:l.row.toRowW.claim.pre args=true)(u:WellAll P h vals args):
  ∃a vs ns,vals=[Value.ref a]/\args=[WData.list (ns.map WData.int)]/\h.get? a=some { cls:=.type "list",data:=.seq vs.toArray }/\Px vs ns/\ns.length<=n:=by
 have v:=(pre_splitW f).1;have C:l.pre.holds [] { args:=args }=true:=(pre_splitW f).2;obtain⟨d,r,rfl,D,E⟩:=hasAllW_cons v;obtain rfl:=hasAllW_nil E;obtain⟨H,rfl,G⟩:=hasW_list D;obtain⟨ns,rfl⟩:=items_int G;have j:ns.length<=n:=by
  have q:(WTm.not (.lt (.lit (.int (n:Int))) (.len (.arg 0)))).holds [] { args:=[.list (ns.map .int)] }=true:=by
   have q:=(holds_andW C).1;rw[hn] at q;exact q
  have B:=condW_of q (w_not (w_lt w_lit (w_len_list (w_arg rfl))));first
   |(rw[decide_eq_true q'] at B;exact absurd B (by decide))
   |(simp at B;lia)
 cases u with
 |cons w1 w2 =>
  cases w2;cases w1 with
  |list ho hall=>exact⟨_,_,ns,rfl,rfl,ho,q7o ns _ hall,j⟩
def z7z(l:OpenLaw)(args):l.row.toRowW.claim.post args (.bool true) args=true :=
 postW_of
  (show WShape.has [] (.bool true) .bool=true by first|rfl|decide|simp[WShape.has,WShape.arms,WShape.armsAll])
  (show(WTm.eq .res (.lit (.bool true))).value [] { args:=args,res:=some (.bool true),after:=args }=some (.bool (true==true)) from w_eq_bool (w_res rfl) w_lit) rfl
def attach_call{l:OpenLaw}(hn:l.most=some n)(H:d.params.defaults=[])(call:∀ w  (s₀ h) (mg I)  fa   o  (pm D j)  a   vs   ns ,
   Ground q loose [] XP w s₀ mg I h.heap->YP w h.heap ->
   h.heap.get? fa=some o->o.data=.func (docDef d.name d.params d.body d.scope pm D j)->h.heap.CodeRec D d.name->mg d.name=some (.ref fa) ->
   h.heap.get? a=some { cls:=.type "list",data:=.seq vs.toArray }->Px vs ns->ns.length<=n->h.gens=#[] ->
   Fu (model l.prog w) Py (.call (.ref fa) ⟨[.ref a],[]⟩) (λr E=>r=.ok (.ret (.bool true))/\OldK h.heap E.heap/\E.os=h.os/\Mw E.gens) h):
  WalkO q loose XP YP l.row.toRowW d [] (λf vs=>Wi f vs):=by
 intro w s₀ h mg I G Y fa o pm D j S kV ho hd J O L T P Q as v R U M W;obtain rfl:S=.none:=Dflts.none O H;obtain rfl:kV=.none:=Dflts.noKw O;obtain⟨a,vs,ns,rfl,rfl,B,u,C⟩:=z7y hn v M;refine enter_call (Ip (call w s₀ h mg I fa o pm D j a vs ns G Y ho (fd_plain hd) J L B u C T) λr E X=>?_);obtain⟨rfl,Z,h3,h4⟩:=X;exact⟨.inl ⟨.bool true,.bool true,[],rfl,λ_=>rfl,.bool true,z7z l _,λ_=>⟨List.Pairwise.nil,λ_ hm=>(nomatch hm)⟩⟩,Z,h3,h4⟩
end Att
namespace L2
open PySem PySem.Spec PyProof.Rows
theorem z1l:∀{vs} {ns},Px vs ns->Vals (ns.map V.int) vs
 |_,_,.nil=>.nil
 |_,_,.cons n t h=>.cons ⟨t,rfl⟩ (z1l h)
noncomputable def Only(H:Hp):Prop:=∀b,H b=none\/∃o xs,H b=some (.frz o (.lst xs))
def x1s{K}(T:K.In s₁.heap)(G:s₁.heap.Ns Dz mg)(D:s₁.heap.Ns builtinsNs mb)(O:∀x:Str,x ≠ "__name__" -> mb x=Hj x)(I:s₁.heap.NoLimit)(hg:s₁.gens=#[])(ha:s₁.heap.get? a=some { cls:=.type "list",data:=.seq vs.toArray })(U:Px vs ns)(hl:ns.length<=sizeLine)(hr:Room k Py)(F:∀base,K.In base->base.Ns Dz mg->FnOk P w K mg base CX k fa fd [x] sp)(E:∀ s   u ,Sd s fd ⟨[u],[]⟩ [(x,u)])(Q:∀H,Only H->SqL K H a (ns.map V.int)->sp [.ref a] H (λv _=>v=.bl true) λ_ _ _=>False)(R:∀H e j,CX [] H s₁ (λ_ _ _=>False) e j->False):
  Fu (model P w) Py (.call (.ref fa) ⟨[.ref a],[]⟩) (λr j=>r=.ok (.ret (.bool true))/\OldK s₁.heap j.heap/\j.os=s₁.os/\Mw j.gens) s₁:=by
 have W:=z1l U;have J:=U.length;have C:∀H:Hp,Only H->SqL K H a (ns.map V.int)->HOk P w H s₁.heap->(∀b,H b≠none->b=a)->(H a≠none->K.lookup a=none) ->
   Fu (model P w) Py (.call (.ref fa) ⟨[.ref a],[]⟩) (λr j=>r=.ok (.ret (.bool true))/\OldK s₁.heap j.heap/\j.os=s₁.os/\Mw j.gens) s₁:=by
  intro H X hS hok Y hK;have f:∀{b:Addr} {o:Obj},s₁.heap.get? b=some o->H b=none->(hidT s₁.heap H).get? b=some o:=λe n=>x1f e n;have S:∀{b:Addr} {o:Obj} {es:Array Mx} {ep:Nat},s₁.heap.get? b=some o->o.data=.dict es ep->H b=none:=λ{b o es ep} e d=>by
   cases q:H b with
   |none=>rfl
   |some u =>
    have e':=Y b (by rw[q];simp);subst e';rw[ha] at e;cases e;have d':=d;cases d'
  have B:∀{b:Addr} {m:Str->Option Value},s₁.heap.Ns b m->(hidT s₁.heap H).Ns b m:=λ{b m} ⟨o,es,ep,e,d,r⟩=>⟨o,es,ep,f e (S e d),d,r⟩
  have L:=λb o e=>f (T b o e) (by
   cases q:H b with
   |none=>rfl
   |some u =>
    have e':=Y b (by rw[q];simp);subst e';rw[hK (by rw[q];simp)] at e;cases e)
  have hM:Mod K mg (hidT s₁.heap H):=⟨L,B G,⟨mb,B D,O⟩,let ⟨mc,h1,h2⟩:=I;⟨mc,B h1,h2⟩⟩
  have e0:Env0 P w K mg (hidT s₁.heap H) Py [] s₁ H:=⟨rfl,hM,λb o e=>x4p e,Ks (z7g _ _),trivial,λb D=>absurd (show b∈([]:List Addr) from D) (by simp),hok,.of_eq hg⟩
  refine Ip ((F _ L (B G)).run Py [] s₁ H ⟨[.ref a],[]⟩ [.ref a] [.ref a] _ _ hr e0 (E s₁ (.ref a)) (.cons rfl .nil) (Q H X hS)) λr j h=>?_;cases r with
  |error e=>exact(R H e j h).elim
  |ok fl =>
   cases fl with
   |next=>exact False.elim h
   |brk=>exact False.elim h
   |cont=>exact False.elim h
   |ret u =>
    obtain⟨v,H',os,bare,un,M,r',q⟩:=h;have q':=q;subst q';obtain rfl:u=Value.bool true:=r';refine⟨rfl,OldK.of_keep λb o e=>?_,os,bare⟩;cases q:H b with
    |none=>exact un.keep b o e q (by intro z;exact absurd (show b∈([]:List Addr) from z) (by simp)) (by simp)
    |some u =>
     rcases X b with z|⟨ob,xs,z⟩
     ·grind
     ·have z2:=un.frzs b ob _ z;obtain⟨Z,_⟩:=hok b _ z;obtain⟨e2,_⟩:=M b _ z2;rw[e] at Z;cases Z;exact e2
 cases hk:K.lookup a with
 |some o =>
  have e:=T a o hk;rw[ha] at e;cases e;refine C (λ_=>none) (λ_=>.inl rfl) (.inr ⟨_,vs.toArray,_,hk,rfl,rfl,rfl,by rw[Bj,J];exact hl,by simpa using W⟩) (λb u z=>by have z':(none:Option HO)=some u:=z;cases z') (λb z=>absurd rfl z) λz=>absurd rfl z
 |none =>
  refine C (λb=>if b=a then some (.frz { cls:=.type "list",data:=.seq vs.toArray } (.lst (ns.map V.int))) else none) (λb=>?_) (.inl (.inr ⟨{ cls:=.type "list",data:=.seq vs.toArray },if_pos rfl⟩)) (λb u z=>?_) (λb z=>?_) λ_=>hk
  ·by_cases D:b=a
   ·simp_all
   ·simp_all
  ·by_cases D:b=a
   ·have z':=(if_pos D).symm.trans z;cases z';subst D;exact⟨ha,by rw[Aa];exact hl,vs,_,W,ha⟩
   ·grind
  ·grind
def walk_of{l:Wu}{K:Params->Al}{CX:World->CXT}{sp:World->Sp}(hn:l.most=some n)(E:n<=sizeLine)(I:d.params.defaults=[])(Q:Room k Py)(R:∀ w   h ,YP w h->(K w.params).In h)(F:∀ w   mg   fa   h ,(K w.params).In h->h.Ns Dz mg->mg d.name=some (.ref fa) ->
   ∃fd,(∀ s   u ,Sd s fd ⟨[u],[]⟩ [(x,u)]) /\
    ∀base,(K w.params).In base->base.Ns Dz mg->FnOk l.prog w (K w.params) mg base (CX w) k fa fd [x] (sp w))(J:∀ w   H   a  (ns:List Int),ns.length<=n->Only H->SqL (K w.params) H a (ns.map V.int)->sp w [.ref a] H (λv _=>v=.bl true) λ_ _ _=>False)(L:∀ w   H   s   e   M ,CX w [] H s (λ_ _ _=>False) e M->False):
  W.WalkO q loose XP YP l.row.toRowW d [] (λf vs=>Wi f vs):=by
 refine Att.attach_call hn I λw s₀ C mg mb fa o pm cd S a vs ns G Y ho hd U O D B j X=>?_;have P:=R w _ Y;obtain⟨fd,Z,hF⟩:=F w mg fa _ P G.T.g O;exact x1s P G.T.g G.T.b G.T.builtins G.T.nolimit X D B (Cc j E) Q hF Z (λH hO hS=>J w H a ns j hO hS) λH e M=>L w H C e M
noncomputable def inClass(s:Stmt)(j:Nat):Stmt:=match s with
 |.ClassDef _ _ _ body _ _ _ _ _ _ _=>body.getD j (.Pass ⟨0,0,0,0⟩)
 |_=>.Pass ⟨0,0,0,0⟩
noncomputable def defArgs(s:Stmt):Arguments:=match s with
 |.FunctionDef _ a _ _ _ _ _ _ _ _=>a
 |_=>{ posonlyargs:=[],args:=[],vararg:=none,kwonlyargs:=[],kw_defaults:=[],kwarg:=none,defaults:=[] }
noncomputable def defBody(s:Stmt):List Stmt:=match s with
 |.FunctionDef _ _ b _ _ _ _ _ _ _=>b
 |_=>[]
noncomputable def defScope(s:Stmt):Scope:=match s with
 |.FunctionDef _ _ _ _ _ _ sc _ _ _=>sc
 |_=>{ kind:=.function,names:=[],isGenerator:=false,isCoroutine:=false }
noncomputable abbrev CX0:CXT:=λ_ _ _ _ _ _=>False
noncomputable abbrev E0:XK:=λ_ _ _=>False
def pass0:Passes CX0 X E0:=λ_ _ _ _ _ _ _ h=>h.elim
structure Fun (K) (x qual) (st) (f) (fd):Prop where
 ex:∃(oc:Value) (od:Option Addr) (kV doc pm:Value) (an:Option Addr) (cdv ct:Value) (osl:Array (Option Value)),
  fd=Jp x qual (defArgs st) (defBody st) (defScope st) .none kV doc pm an cdv ct/\K.lookup f=some ⟨oc,od,.func fd,osl⟩/\Mp K cdv qual=true
 kp:Io K (.ref f)=true
section
variable{P:Aw}{w:World}{K:Al}{mg:Str->Option Value}{base:Heap}
def Fun.ok{st}(F:Fun K x qual st f fd)(S:FnScope N ps (defScope st))(len:∀vs H Q E,sp vs H Q E->vs.length=ps.length)(u:∀ j   A   outer   s   H   vs   Q   E ,Room k (A.deeper (Ku qual (defScope st) s.heap.objs.size f j))->sp vs H Q E ->
   ∃t,PSs (cxOf CX0 P w K mg base N qual (defScope st) f j A outer s H E).nox (defBody st) t/\t { nx:=λ_ H'=>Q .non H',rt:=Q } (start N vs) H):FnOk P w K mg base CX0 (k+1) f fd ps sp:=by
 obtain⟨J,L,kV,C,pm,M,j,ct,D,rfl,G,v⟩:=F.ex;refine fn_of G v S len λA outer s H vs Q E I B=>?_
 obtain⟨t,h,q⟩:=u j A outer s H vs Q E I B;exact⟨t,h.nox,q⟩
def Fun.binds{st}(F:Fun K x qual st f fd)(h:∀(kV j pm)  u  (q ct)  us ,us.length=ps.length->bindArgs (Jp x qual (defArgs st) (defBody st) (defScope st) .none kV j pm u q ct) ⟨us,[]⟩=pure (ps.zip us)):Binds K fd ps []:=by
 obtain⟨C,D,kV,j,pm,u,q,ct,v,rfl,E,B⟩:=F.ex;exact .all (h kV j pm u q ct)
def z1m{st}{kV}(l:K.lookup f=some ⟨oc,od,.func (Jp x qual (defArgs st) (defBody st) (defScope st) .none kV doc pm an cdv ct),osl⟩)(c:Mp K cdv qual=true)(k:Io K (.ref f)=true):Fun K x qual st f (Jp x qual (defArgs st) (defBody st) (defScope st) .none kV doc pm an cdv ct):=⟨⟨oc,od,kV,doc,pm,an,cdv,ct,osl,rfl,l,c⟩,k⟩
end
def q1c(f:Room k A):A.units+1<cLine:=Kw (Tr (by decide:1<=64) _) f.units
section
variable{X:Cx}
def pv(i){f}(j:X.N[i]?=some x:=by rfl)(q:Vis X.env.scope x:=by trivial)(hd:(x==("__debug__" : Str))=false:=by decide)(h:(x==("__classdict__" : Str))=false:=by decide):PE X (.Name x f) (tVar i):=pe_var j q hd h
end
def iteF{B:Prop}(h:B):if false=true then A else B:=by
 exact h
def iteT{B:Prop}(h:A):if true=true then A else B:=by
 exact h
def ite2{B:Prop}[Decidable c](f:c->A)(h:¬c->B):if c then A else B:=by grind
noncomputable def Same(H H':Hp):Prop:=∀b o,H b=some o->H' b=some o
def Same.refl(H):Same H H:=λ_ _ h=>h
def Same.trans(a:Same H H1)(b:Same H1 H2):Same H H2:=λc o h=>b c o (a c o h)
def Same.free(e:Same H H')(h:H' l=Option.none):H l=Option.none:=by
 cases q:H l with
 |none=>rfl
 |some o =>
  rw[e l o q] at h;cases h
def Same.seq{K}(e:Same H H')(h:SqL K H a xs):SqL K H' a xs:=by
 rcases h with(h|⟨o,h⟩)|h
 ·exact .inl (.inl (e _ _ h))
 ·exact .inl (.inr ⟨o,e _ _ h⟩)
 ·exact .inr h
noncomputable abbrev Caps:=List (Str×Nat)
noncomputable def capV(σ:St):Caps->St
 |[]=>[]
 |(_,i)::r=>(σ[i]?).join::capV σ r
noncomputable def CapOk(X:Cx)(scope:Scope):Caps->Prop
 |[]=>True
 |(x,i)::r=>(X.N[i]?=some x/\scope.names.lookup x=some .free/\(X.env.scope.names.lookup x=some .cell\/X.env.scope.names.lookup x=some .free))/\CapOk X scope r
noncomputable def cxComp(X:Cx)(N:List Str)(scope:Scope)(cl:List (Str×Addr))(C:Addr)(fp:List Addr)(s:Ag)(H:Hp):Cx where
 prog:=X.prog
 w:=X.w
 K:=X.K
 mg:=X.mg
 base:=X.base
 A:=X.A
 N:=N
 s₀:=s
 H₀:=H
 env:=Gs scope cl C X.env
 outer:=X.stack
 stack:=X.stack
 ex:=fp
 fn:=λ_=>false
 calm:=X.calm
 pn:=[]
 xe:=λ_ _=>False
theorem z6f(names:List (Str×Bs))(j:∀x,(x,Bs.free)∈names->∃c,env.cells.lookup x=some c):∀acc,
  ∃cl,(forIn names acc (λx   r =>match x with
   |(name,kind)=>if (kind==Bs.free)=true then do let a<-cellOf env name;pure (ForInStep.yield ((name,a)::r)) else pure (ForInStep.yield r)):Sem (List (Str×Addr)))=pure cl /\
   (∀x c,(x,c)∈cl->(x,c)∈acc\/env.cells.lookup x=some c)/\(∀x,((x,Bs.free)∈names\/∃c,(x,c)∈acc)->∃c,(x,c)∈cl):=by
 induction names with
 |nil=>intro acc;exact⟨acc,rfl,λx c h=>.inl h,λx h=>h.elim (λz=>nomatch z) id⟩
 |cons n r ih =>
  intro acc;obtain⟨name,kind⟩:=n;by_cases hk:kind=Bs.free
  ·subst hk;obtain⟨c,v⟩:=j name Au;obtain⟨cl,e,q,u⟩:=ih (λx f=>j x (Ap _ f)) ((name,c)::acc);refine⟨cl,?_,λx d hd=>?_,λx f=>?_⟩
   ·rw[Qy];have:cellOf env name=pure c:=by unfold cellOf;rw[v]
    simp only[beq_self_eq_true,if_true,this];exact e
   ·rcases q x d hd with z|z
    ·rcases Bb.mp z with z|z
     ·cases z;exact .inr v
     ·exact .inl z
    ·exact .inr z
   ·refine u x ?_;rcases f with f|⟨d,hd⟩
    ·rcases Bb.mp f with z|z
     ·simp_all
     ·exact .inl z
    ·grind
  ·obtain⟨cl,e,q,u⟩:=ih (λx f=>j x (Ap _ f)) acc;refine⟨cl,?_,q,λx f=>u x ?_⟩
   ·simp_all
   ·grind
def z0a{cl:List (Str×Addr)}(h:(x,c)∈cl):∃d,cl.lookup x=some d:=by
 induction cl with
 |nil=>cases h
 |cons y r ih =>
  obtain⟨n,a⟩:=y;cases e:x==n with
  |true=>simp_all
  |false =>
   rcases Bb.mp h with z|z
   ·cases z;simp at e
   ·obtain⟨d,hd⟩:=ih z;exact⟨d,by simp only[Jy,e];exact hd⟩
def z6g(f:∀x,(x,Bs.free)∈scope.names->∃c,env.cells.lookup x=some c):
  ∃cl,Wj scope env=pure cl/\(∀x c,cl.lookup x=some c->env.cells.lookup x=some c)/\∀x,(x,Bs.free)∈scope.names->∃c,cl.lookup x=some c:=by
 obtain⟨cl,e,j,q⟩:=z6f scope.names f [];refine⟨cl,?_,λx c h=>?_,λx u=>?_⟩
 ·unfold Wj;have v:=congrArg (λm:Sem (List (Str×Addr))=>m >>= λB=>(pure B:Sem _)) e;exact v
 ·rcases j x c (Gg h) with z|z
  ·cases z
  ·exact z
 ·obtain⟨c,C⟩:=q x (.inl u);exact z0a C
theorem q5d{env:Env}(hk:k=.cell\/k=.free):∀{names:List (Str×Bs)} {x},(∀y∈names,y.2≠.cell) ->
  (names.map λ(n,k)=>if (k==Bs.free&&env.scope.kind==.function&&env.kindOf n==some .cell) then(n,Bs.cell) else(n,k)).lookup x=some k->(x,Bs.free)∈names
 |[],_,_,h=>by simp at h
 |(n,k')::r,x,hc,h=>by
  have f:=@q5d k env hk r x λy j=>hc y (Ap _ j);by_cases c:(k'==Bs.free&&env.scope.kind==.function&&env.kindOf n==some .cell)=true
  ·have h':((n,Bs.cell)::r.map λ(n,k)=>if (k==Bs.free&&env.scope.kind==.function&&env.kindOf n==some .cell) then(n,Bs.cell) else(n,k)).lookup x=some k:=by
    have e:(if (k'==Bs.free&&env.scope.kind==.function&&env.kindOf n==some .cell)=true then(n,Bs.cell) else(n,k'))=(n,Bs.cell):=if_pos c;rw[<- e];exact h
   cases e:x==n with
   |true =>simp_all
   |false=>exact Ap _ (f (by simp only[Jy,e] at h';exact h'))
  ·have h':((n,k')::r.map λ(n,k)=>if (k==Bs.free&&env.scope.kind==.function&&env.kindOf n==some .cell) then(n,Bs.cell) else(n,k)).lookup x=some k:=by
    have e:(if (k'==Bs.free&&env.scope.kind==.function&&env.kindOf n==some .cell)=true then(n,Bs.cell) else(n,k'))=(n,k'):=if_neg c;rw[<- e];exact h
   cases e:x==n with
   |true =>simp_all
   |false=>exact Ap _ (f (by simp only[Jy,e] at h';exact h'))
theorem q6s{env:Env}:∀{names:List (Str×Bs)} {x},names.lookup x=some .free ->
    ((names.map λ(n,k)=>if (k==Bs.free&&env.scope.kind==.function&&env.kindOf n==some .cell) then(n,Bs.cell) else(n,k)).lookup x=some .cell \/
     (names.map λ(n,k)=>if (k==Bs.free&&env.scope.kind==.function&&env.kindOf n==some .cell) then(n,Bs.cell) else(n,k)).lookup x=some .free)
  |[],_,h=>by simp at h
  |(n,k')::r,x,h=>by
    have f:=@q6s env r x;by_cases c:(k'==Bs.free&&env.scope.kind==.function&&env.kindOf n==some .cell)=true
    · have e:(if (k'==Bs.free&&env.scope.kind==.function&&env.kindOf n==some .cell)=true then(n,Bs.cell) else(n,k'))=(n,Bs.cell):=if_pos c;show(List.lookup x ((if (k'==Bs.free&&env.scope.kind==.function&&env.kindOf n==some .cell)=true then(n,Bs.cell) else(n,k'))::_)=_\/List.lookup x ((if (k'==Bs.free&&env.scope.kind==.function&&env.kindOf n==some .cell)=true then(n,Bs.cell) else(n,k'))::_)=_);rw[e];cases ex:x==n with
      |true=>simp_all
      |false =>
        simp only[Jy,ex] at h ⊢;exact f h
    · have e:(if (k'==Bs.free&&env.scope.kind==.function&&env.kindOf n==some .cell)=true then(n,Bs.cell) else(n,k'))=(n,k'):=if_neg c;show(List.lookup x ((if (k'==Bs.free&&env.scope.kind==.function&&env.kindOf n==some .cell)=true then(n,Bs.cell) else(n,k'))::_)=_\/List.lookup x ((if (k'==Bs.free&&env.scope.kind==.function&&env.kindOf n==some .cell)=true then(n,Bs.cell) else(n,k'))::_)=_);rw[e];cases ex:x==n with
      |true =>simp_all
      |false =>
        simp only[Jy,ex] at h ⊢;exact f h
theorem q7p(h):∀f,(capV h f).length=f.length
 |[]=>rfl
 |(_,_)::r=>congrArg (· + 1) (q7p h r)
theorem z4q:∀{caps} {j:Nat} {x} {v},CapOk X scope caps->(caps.map (·.1))[j]?=some x->(capV σ caps)[j]?=some (some v) ->
  ∃i:Nat,X.N[i]?=some x/\σ[i]?=some (some v)/\scope.names.lookup x=some .free/\(X.env.scope.names.lookup x=some .cell\/X.env.scope.names.lookup x=some .free)
 |[],_,_,_,_,h,_=>by simp at h
 |(y,i)::r,0,x,v,hc,h1,h2=>by
  simp at h1;subst h1;have e:(σ[i]?).join=some v:=by simpa[capV] using h2
  refine⟨i,hc.1.1,?_,hc.1.2⟩;cases q:σ[i]? with
  |none=>rw[q] at e;cases e
  |some z=>simp_all
 |(y,i)::r,j+1,x,v,hc,h1,h2=>z4q hc.2 (by simpa using h1) (by simpa[capV] using h2)
noncomputable def tg0(tg:List Str)(σ:St)(caps:Caps):St:=tg.map (λ_=>none)++capV σ caps
def Inv.ofcomp{M:St}{C:Addr}(q)(I:Inv X pins M H s)(B:scope.kind=.function)(J:∀y∈scope.names,y.2≠.cell)(f:∀x c,cl.lookup x=some c->X.env.cells.lookup x=some c)(D:∀x,(x,Bs.free)∈scope.names->∃c,cl.lookup x=some c)(O:∀b∈fp,FpOk X pins H b)(P:∀b∈fp,∃o,s.heap.get? b=some o)(Q:s.heap.objs.size<=C)(R:h₁.Ns C m)(hk:∀b o,s.heap.get? b=some o->h₁.get? b=some o)(co:CapOk X scope caps):
  Inv (cxComp X (q++caps.map (·.1)) scope cl C fp s H) [] (tg0 q M caps) H { s with heap:=h₁,toks:=tk }:=by
 have S:∀b∈fp,b∉frs X.stack:=λb E G=>by
  rcases Bb.mp (I.stkSub b G) with z|z
  ·exact(O b E).2.1 z
  ·exact(O b E).2.2.1 z
 have ok:(cxComp X (q++caps.map (·.1)) scope cl C fp s H).Ok:=by
  refine⟨I.ok.mod,B,I.ok.glob,I.ok.blt,Q,λx y c T U=>I.ok.inj x y c (f x c T) (f y c U),λx G=>?_,λx c h=>(nomatch h),I.ok.hd,I.ok.frames,.inl rfl,λb E=>⟨?_,λx c h=>(O b E).2.2.2.2.1 x c (f x c h)⟩,
   I.bs,Cc I.ok.bsz I.sz,λb o e E=>?_,S,I.stack,I.stkFree⟩
  ·rcases G with G|G
   ·exact D x (q5d (.inl rfl) J G)
   ·exact D x (q5d (.inr rfl) J G)
  ·obtain⟨o,e⟩:=P b E;exact Bm (Cb (Ax e) Q)
  ·rcases(O b E).2.2.2.1 with z|z
   ·exact I.ok.noex b o e z
   ·exact absurd (Cb (Ax (I.ok.bs b o e).1) z) (Fq _)
 refine⟨ok,rfl,I.bare,Un.kept hk,⟨m,R,λj x v T U h3=>?_⟩,λx c h=>?_,I.hok.fresh Q,λx c h=>I.freeC x c (f x c h),λp hp=>(nomatch hp),I.hok.kept hk,?_⟩
 ·have h1':(q++caps.map (·.1))[j]?=some x:=T;have h2':(q.map (λ_=>none)++capV M caps)[j]?=some (some v):=U;by_cases Z:j<q.length
  ·rw[Bt (by simpa using Z),Am] at h2';cases e:q[j]? with
   |none=>grind
   |some z=>simp_all
  ·rw[Cg (by simpa using Z)] at h2' h1';rw[Aa] at h2';obtain⟨i,e1,e2,e3,L⟩:=z4q co h1' h2';obtain⟨mX,hn,hl⟩:=I.loc;obtain⟨u,r,l⟩:=hl i x v e1 e2 (.inr L);refine⟨u,r,?_⟩;have W:∃c,X.env.cells.lookup x=some c/\s.heap.IsCell c (some u):=by
    rcases l with⟨k,_⟩|⟨_,c,e,z⟩
    ·have k':X.env.scope.names.lookup x=some .local:=k;rcases L with L|L <;> · rw[L] at k';cases k'
    ·exact⟨c,e,z⟩
   obtain⟨c,ec,o,ho,hd⟩:=W;obtain⟨d,ed⟩:=D x (Gg e3);have Y:=Bx ((f x d ed).symm.trans ec);subst Y;exact .inr ⟨q6s e3,d,ed,o,hk _ o ho,hd⟩
 ·obtain⟨v,o,ho,hd⟩:=I.cell x c (f x c h);exact⟨v,o,hk _ o ho,hd⟩
 ·show(q.map (λ_=>(none:Option V))++capV M caps).length=(q++caps.map (·.1)).length;rw[An,An,Aa,Aa,q7p]
noncomputable def PIfs(X:Cx)(ifs:List Expr)(t:TT):Prop :=
 ∀ pins   s  (σ:St)  H   Q ,Inv X pins σ H s->t σ H Q ->
  wpAny (model X.prog X.w) X.A (forIn ifs true λc r=>if r=true then do let ok<-isTrue c X.env (eval c X.env);pure (ForInStep.yield ok) else pure (ForInStep.yield r)) (TP X pins σ Q) X.xe s
noncomputable def tIf0:TT:=λ_ H Q=>Q true H
def q2m:PIfs X [] tIf0:=λf s j H Q I h=>wpAny_tests_nil ⟨H,I,h⟩
def q4k(h:PT X c t):PIfs X [c] t:=λf s j H Q I q=>wpAny_tests_one (h f s j H Q I q)
noncomputable def Keeps0(σ0 σ2:St):Prop:=σ0.length=σ2.length/\∀(i:Nat) v,σ0[i]?=some (some v)->σ2[i]?=some (some v)
noncomputable def CompW(J:It)(g:TG)(tt:TT)(te:TE)(σ0:St)(D:Addr)(Fin:List V->Hp->Prop)(H1:Hp):Prop :=
 ∃W:Nat->Nat->List V->Hp->Prop,(∃m,W 0 m [] (upd H1 D (.lst [])))/\∀i m ys H,W i m ys H->H D=some (.lst ys) /\
  ((J.stop i H/\Fin ys H)\/(J.go i H/\∃N:List V->Hp->Prop,(∀zs H',N zs H'->∃m',m'<m/\W (i+1) m' zs H')/\∀x H',J.yld i H x H'->g x σ0 H' λσ2 H2=>Keeps0 σ0 σ2/\tt σ2 H2 λb H3 =>
   if b=true then te σ2 H3 λv H4=>H4 D=some (.lst ys)/\ys.length<sizeLine/\N (ys++[v]) (upd H4 D (.lst (ys++[v])))
   else N ys H3))
def z4r{j:St}{Fin:Addr->List V->Hp->Prop}{RR:Value->Addr->Result->Ag->Prop}(hc:X.calm=true)(a0:scope.kind=.function)(b8:∀y∈scope.names,y.2≠.cell)(d2:∀x c,cl.lookup x=some c->X.env.cells.lookup x=some c)(d3:∀x,(x,Bs.free)∈scope.names->∃c,cl.lookup x=some c)(co:CapOk X scope caps)(hg:∀C s H,PG (cxComp X (tg++caps.map (·.1)) scope cl C fp s H) target g)(ht:∀C s H,PIfs (cxComp X (tg++caps.map (·.1)) scope cl C fp s H) ifs tt)(he:∀C s H,PE (cxComp X (tg++caps.map (·.1)) scope cl C fp s H) elt te)(I2:Inv X h j H1 s₂)(T:Turn X.prog X.w X.K target J fp it tn)(st:tn 0 s₂.heap)(hf:∀b∈fp,FpOk X h H1 b)(hw:∀D,H1 D=none->CompW J g tt te (tg0 tg j caps) D (Fin D) H1)(d4:∀D C ys H' Z,H1 D=none->Inv X h j H' Z->(∃m,Z.heap.Ns C m)->FpOk X h H' C->Fin D ys H'->RR (.ref D) C (.ok .next) Z):
  wpAny (model X.prog X.w) X.A (newList []) (λacc I=>wpAny (model X.prog X.w) X.A (newFunctionEnv scope X.env.globals cl [] X.env.qual none .none (some X.env)) (λa8 b9 =>
   Fu (model X.prog X.w) X.A (.compStart (.ListComp elt [⟨target,iter,ifs,0⟩] scope pos) 0 (.ref it) acc { a8 with scope:=relabel scope X.env }) (RR acc a8.locals) b9) E I) E s₂:=by
 have I3:Inv X h j (upd H1 s₂.heap.objs.size (.lst [])) { s₂ with heap:=s₂.heap.push { cls:=.type "list",dict:=none,data:=.seq ([]:List Value).toArray },toks:=s₂.toks }:=I2.lnew .nil (Bv _);have b1:=I2.fresh;refine Bz (Tc b8 (by intro y hy;simp at hy) (λa1 B G=>?_) a0);dsimp only at B G ⊢;generalize b2:s₂.heap.objs.size=D at I3 b1 B G ⊢;generalize e7:({ s₂ with heap:=s₂.heap.push { cls:=.type "list",dict:=none,data:=.seq ([]:List Value).toArray } }:Ag)=I at I3 B G ⊢;have e3:s₂.heap.push { cls:=.type "list",dict:=none,data:=.seq ([]:List Value).toArray }=I.heap:=by grind
 have o3:({ s₂ with heap:=a1,toks:=s₂.toks+([]:List (Str×Value)).length }:Ag)={ I with heap:=a1,toks:=s₂.toks }:=by grind
 have b3:I.heap.objs.size=D+1:=by rw[<- e3,Fv,b2]
 rw[e3] at B G ⊢;have a9:∀b o,s₂.heap.get? b=some o->I.heap.get? b=some o:=λb o e=>by rw[<- e3];exact Ai _ e
 generalize a5:I.heap.objs.size=C at B G ⊢;have hk:=λb o e=>G.extBut b o (by rw[<- a5];exact Bm (Ax e)) (Ai _ e);have c0:∀b∈fp,∃o,s₂.heap.get? b=some o:=λb L=>by obtain⟨o,e,_⟩:=T.obj 0 _ st b L;exact⟨o,e⟩
 have c1:∀b∈fp,b≠D:=λb L=>by obtain⟨o,e⟩:=c0 b L;rw[<- b2];exact Bm (Ax e)
 have c2:∀b∈fp,FpOk X h (upd H1 D (.lst [])) b:=λb L=>⟨by rw[q0d (c1 b L)];exact(hf b L).1,(hf b L).2⟩
 have IY:=Inv.ofcomp (tk:=s₂.toks) tg I3 a0 b8 d2 d3 c2 (λb L=>let ⟨o,e⟩:=c0 b L;⟨o,a9 b o e⟩) (Ks a5) B hk co;have FC:FpOk X h H1 C:=by
  have z:=I3.fpOk (H':=H1) (Ks a5) (I2.hok.fresh (by rw[b2,<- a5,b3];exact Hh _));exact z
 generalize hY:cxComp X (tg++caps.map (·.1)) scope cl C fp I (upd H1 D (.lst []))=Y at IY;have d5:PG Y target g:=by grind
 have d6:PIfs Y ifs tt:=by grind
 have d7:PE Y elt te:=by grind
 have P:Y.prog=X.prog:=by rw[<- hY];rfl
 have R:Y.w=X.w:=by rw[<- hY];rfl
 have c3:Y.K=X.K:=by rw[<- hY];rfl
 have U:Y.A=X.A:=by rw[<- hY];rfl
 have a2:Y.env=Gs scope cl C X.env:=by rw[<- hY];rfl
 have a6:Y.ex=fp:=by rw[<- hY];rfl
 have e8:Y.pn=[]:=by rw[<- hY];rfl
 have c4:Y.calm=true:=by rw[<- hY];exact hc
 have S:Y.xe=λ_ _=>False:=by rw[<- hY];rfl
 have b4:∀{H':Hp},(∀b∈fp,H' b=none)->∀b∈fp,FpOk Y [] H' b:=λ{H'} hn b L=>by
  refine⟨hn b L,?_,?_,.inl (by rw[a6];exact L),λx c e=>?_,λp hp=>?_⟩
  ·have:=(IY.ok.exf b (by rw[a6];exact L)).1;exact this
  ·exact IY.ok.exfs b (by rw[a6];exact L)
  ·exact(IY.ok.exf b (by rw[a6];exact L)).2 x c e
  ·grind
 obtain⟨W,⟨m0,w0⟩,c5⟩:=hw D b1;have c6:=T.keep 0 _ _ st λb L o e=>hk b o (a9 b o e)
 have back:∀{H':Hp} {Z:Ag} {a3:St},Inv Y [] a3 H' Z->Inv X h j H' Z:=λ{H' Z a3} O=>by
  have c7:=O.base;have c8:=O.os;rw[<- hY] at c7 c8;exact I3.call' c8 c7 (by have z:=O.hok;rw[P,R] at z;exact z) O.bare λb L=>⟨(hf b L).2.2.2.1,(hf b L).2.1,(hf b L).2.2.2.2.1,(hf b L).2.2.2.2.2⟩
 have gY:∀h s j H v u Q (M:Value->Ag->Prop),Inv Y h j H s->RelV v u->g v j H Q->wpAny (model X.prog X.w) X.A (assign target (Gs scope cl C X.env) u) (λ_ Z=>∃a3 H',Inv Y h a3 H' Z/\Q a3 H') M s:=λh s j H v u Q M O r q=>by
  have z:=d5 h s j H v u Q O r q;rw[P,R,U,a2,S] at z;exact Dl z (λ_ _ x=>x) λ_ _ f=>f.elim
 have tY:∀h s j H Q (M:Value->Ag->Prop),Inv Y h j H s->tt j H Q->wpAny (model X.prog X.w) X.A (forIn ifs true λc r=>if r=true then do let ok<-isTrue c (Gs scope cl C X.env) (eval c (Gs scope cl C X.env));pure (ForInStep.yield ok) else pure (ForInStep.yield r)) (TP Y h j Q) M s:=λh s j H Q M O q=>by
  have z:=d6 h s j H Q O q;rw[P,R,U,a2,S] at z;exact Dl z (λ_ _ x=>x) λ_ _ f=>f.elim
 have eY:∀h s j H Q (M:Value->Ag->Prop),Inv Y h j H s->te j H Q->wpAny (model X.prog X.w) X.A (eval elt (Gs scope cl C X.env)) (EP Y h j Q) M s:=λh s j H Q M O q=>by
  have z:=d7 h s j H Q O q;rw[P,R,U,a2,S] at z;exact Dl z (λ_ _ x=>x) λ_ _ f=>f.elim
 have aY:∀h s j H ys v u Q (M:Value->Ag->Prop),Inv Y h j H s->RelV v u->H D=some (.lst ys)->ys.length<sizeLine->Q .non (upd H D (.lst (ys++[v])))->wpAny (model X.prog X.w) X.A (call (.builtin "list.append") [.ref D,u]) (EP Y h j Q) M s:=λh s j H ys v u Q M O r hH hz q=>by
  have z:=q2r h s j H (.ref D) [v] (.ref D) [u] Q O rfl (.cons r .nil) ⟨D,ys,v,rfl,rfl,hH,hz,q⟩;rw[P,R,U,S] at z;exact Dl z (λ_ _ x=>x) λ_ _ f=>f.elim
 have d8:∀i h s j H (M:Value->Ag->Prop),Inv Y h j H s->(∀b∈fp,FpOk Y h H b)->tn i s.heap->J.go i H ->
   wpAny (model X.prog X.w) X.A (Hb (.ref it)) (λr s1=>∃u,r=some u /\
    wpAny (model X.prog X.w) X.A (Kl target (.ref it) u) (λ_ s2=>∃x H',Inv Y h j H' s2/\RelV x u/\J.yld i H x H'/\tn (i+1) s2.heap/\∀b∈fp,H' b=none) M s1) M s:=λi h s j H M O b5 st go=>by
  have z:=T.item Y P R c3 c4 i h s j H M O b5 st go;rw[U] at z;exact z
 have d9:∀i h s j H (M:Value->Ag->Prop),Inv Y h j H s->(∀b∈fp,FpOk Y h H b)->tn i s.heap->J.stop i H ->
   wpAny (model X.prog X.w) X.A (Hb (.ref it)) (λr s1=>r=none/\Inv Y h j H s1) M s:=λi h s j H M O b5 st go=>by
  have z:=T.done Y P R c3 c4 i h s j H M O b5 st go;rw[U] at z;exact z
 have b0:Fu (model X.prog X.w) X.A (.compLoop (.ListComp elt [⟨target,iter,ifs,0⟩] scope pos) 0 (.ref it) (.ref D) (Gs scope cl C X.env)) (RR (.ref D) C) { I with heap:=a1,toks:=s₂.toks }:=by
  refine codeAny_loop rfl (λn Z=>∃i ys H',Inv Y [] (tg0 tg j caps) H' Z/\tn i Z.heap/\(∀b∈fp,H' b=none)/\W i n ys H') ?_ m0 ⟨0,[],_,IY,c6,λb L=>(c2 b L).1,w0⟩;rintro n s4 ⟨i,ys,H4,I4,c9,d0,w4⟩;refine wpAny_noted ?_;obtain⟨e9,e0⟩:=c5 i n ys H4 w4;rcases e0 with⟨stop,fin⟩|⟨go,N,hN,step⟩
  ·refine Ab (Ia (Ab (thn (d9 i [] s4 _ H4 _ I4 (b4 d0) c9 stop) λr s5 ⟨hr,I5⟩=>?_)));subst hr;refine Ad (d4 D C ys H4 s5 b1 (back I5) ?_ ⟨?_,FC.2⟩ fin)
   ·obtain⟨m,hm,_⟩:=I5.loc;rw[a2] at hm;exact⟨m,hm⟩
   ·have z:=I5.free;rw[a2] at z;exact z
  ·refine Ab (Ia (Ab (thn (d8 i [] s4 _ H4 _ I4 (b4 d0) c9 go) λr s5 qz=>?_)));obtain⟨u,hr,h5⟩:=qz;subst hr;refine Ab (thn h5 λ_ s6 qz=>?_);obtain⟨x,H6,I6,r6,y6,b6,e1⟩:=qz;have I6':=I6.pinned (b4 e1) (T.obj _ _ b6);refine Ab (thn (gY _ s6 _ H6 x u _ _ I6' r6 (step x H6 y6)) λ_ s7 qz=>?_);obtain⟨a7,H7,I7,kp,q7⟩:=qz;refine Ab (thnT (tY _ s7 a7 H7 _ _ I7 q7) λb s8 H8 I8 q8=>?_);have a4:∀{H9:Hp} {s9:Ag} {zs:List V} {m':Nat},Inv Y ([]++pinsAt fp s6.heap) a7 H9 s9->m'<n->W (i+1) m' zs H9->∃m,m<n/\∃i ys H',Inv Y [] (tg0 tg j caps) H' s9/\tn i s9.heap/\(∀b∈fp,H' b=none)/\W i m ys H':=λ{H9 s9 zs m'} I9 hm w9=>by
    refine⟨m',hm,i+1,zs,H9,I9.unpinned.weak kp.1 kp.2,T.keep _ _ _ b6 λb L o e=>(I9.pin (b,o) (Bo _ (Bo _ (q3c L e)))).1,λb L=>?_,w9⟩;obtain⟨o,e,d⟩:=T.obj _ _ b6 b L;exact(I9.pin (b,o) (Bo _ (Bo _ (q3c L e)))).2.1
   cases b with
   |true =>
    refine Ab (Ab (thnE (eY _ s8 a7 H8 _ _ I8 q8) λv s9 vv H9 I9 r9 qz=>?_));obtain⟨e2,e4,n9⟩:=qz;obtain⟨m',b7,w9⟩:=hN _ _ n9;refine Ab (thnE (aY _ s9 a7 H9 ys vv v (λ_ d1=>W (i+1) m' (ys++[vv]) d1) _ I9 r9 e2 e4 w9) λ_ f0 _ d1 e5 _ e6=>?_);exact Ad (Ad ⟨rfl,a4 e5 b7 e6⟩)
   |false =>
    obtain⟨m',b7,w8⟩:=hN _ _ q8;exact Ad ⟨rfl,a4 I8 b7 w8⟩
 rw[o3];exact codeAny_compStart_list b0 (T.self _ 0 _ _ _ c6 b0)
noncomputable def isCF(k:Option Bs):Bool:=k==some .cell||k==some .free
noncomputable def capChk(N:List Str)(names outer:List (Str×Bs)):Caps->Bool
 |[]=>true
 |(x,i)::r=>decide (N[i]?=some x)&&(names.lookup x==some .free)&&isCF (outer.lookup x)&&capChk N names outer r
noncomputable def compChk(N:List Str)(outer scope:Scope)(caps:Caps):Bool :=
 (scope.kind==.function)&&(scope.names.all λy=>y.2 != .cell&&(y.2 != .local||scope.names.lookup y.1==some .local)&&(y.2 != .free||isCF (outer.names.lookup y.1)))&&capChk N scope.names outer.names caps
def z8a(h:isCF k=true):k=some .cell\/k=some .free:=by
 unfold isCF at h;simpa using h
theorem z1n:∀{caps},capChk X.N scope.names X.env.scope.names caps=true->CapOk X scope caps
 |[],_=>trivial
 |(x,i)::r,h=>by
  unfold capChk at h;simp only[Mq] at h;obtain⟨⟨⟨f,j⟩,q⟩,u⟩:=h;exact⟨⟨of_decide_eq_true f,by simpa using j,z8a q⟩,z1n u⟩
def q4w(h:compChk X.N X.env.scope scope caps=true):
  scope.kind=.function/\(∀y∈scope.names,y.2≠.cell)/\(∀y∈scope.names,y.2=.local->scope.names.lookup y.1=some .local)/\(∀x,(x,Bs.free)∈scope.names->X.env.scope.names.lookup x=some .cell\/X.env.scope.names.lookup x=some .free)/\CapOk X scope caps:=by
 unfold compChk at h;simp only[Mq,Mr] at h;obtain⟨⟨q,f⟩,u⟩:=h;refine⟨by simpa using q,λy j e=>?_,λy j e=>?_,λx v=>?_,z1n u⟩
 ·have z:=(f y j).1.1;rw[e] at z;simp at z
 ·have z:=(f y j).1.2;rw[e] at z;simpa using z
 ·have z:=(f _ v).2;exact z8a (by simpa using z)
noncomputable def tComp(wi:TI)(g:TG)(tt:TT)(te:TE)(tg:List Str)(caps:Caps):TE:=λσ H Q=>wi σ H λJ H1=>∀D,H1 D=none->CompW J g tt te (tg0 tg σ caps) D (λ_ H'=>Q (.ref D) H') H1
section
variable{X:Cx}{iter target elt:Expr}{ifs:List Expr}{scope:Scope}{pos:Pos}{wi:TI}{g:TG}{tt:TT}{te:TE}
def z0b{h:St}(I:Inv X pins h H s)(f:∀x,(x,Bs.free)∈scope.names->X.env.scope.names.lookup x=some .cell\/X.env.scope.names.lookup x=some .free):
  ∃cl,Wj scope X.env=pure cl/\(∀x c,cl.lookup x=some c->X.env.cells.lookup x=some c)/\∀x,(x,Bs.free)∈scope.names->∃c,cl.lookup x=some c :=
 z6g λx j=>I.ok.has x (f x j)
def q1x(G)(f)(U:X.calm=true)(W:PI X target iter wi)(Y:∀cl C fp s H,PG (cxComp X (G++f.map (·.1)) scope cl C fp s H) target g)(Z:∀cl C fp s H,PIfs (cxComp X (G++f.map (·.1)) scope cl C fp s H) ifs tt)(he:∀cl C fp s H,PE (cxComp X (G++f.map (·.1)) scope cl C fp s H) elt te)(hk:compChk X.N X.env.scope scope f=true:=by rfl)(hs:∀x,Jm iter X.env x=pure x:=by intro _;rfl):
  PE X (.ListComp elt [⟨target,iter,ifs,0⟩] scope pos) (tComp wi g tt te G f):=by
 intro E s σ H Q I h;obtain⟨j,L,q,u,co⟩:=q4w hk;obtain⟨cl,B,M,O⟩:=z0b I u;refine Ir rfl hs B j q (thn (W E s σ H _ I h) λv s1 h1=>thn h1 λa0 s2 h2=>?_);obtain⟨it,fp,tn,J,H2,e,I2,T,P,f2,hw⟩:=h2;subst e;refine z4r U j L M O co (λC s H=>Y cl C fp s H) (λC s H=>Z cl C fp s H) (λC s H=>he cl C fp s H) I2 T P f2 hw ?_;intro D C ys H' s' hD I' R F fin;obtain⟨m,R⟩:=R;refine⟨m,R,λh' S=>⟨.ref D,H',I'.turned (t':=s'.toks) (λb o hb e=>(S.2 b hb).trans e) F.1 F.2.1 F.2.2.2.1 F.2.2.2.2.1 F.2.2.2.2.2,rfl,fin⟩⟩
noncomputable def tSetC(wi:TI)(g:TG)(tt:TT)(te:TE)(tg:List Str)(caps:Caps)(i:Nat):TS:=λD' σ H=>wi σ H λJ H1=>∀D,H1 D=none->CompW J g tt te (tg0 tg σ caps) D (λ_ H'=>D'.nx (σ.set i (some (.ref D))) H') H1
def q7q{L u}(M)(f)(hN:X.N.Nodup)(O:X.N[i]?=some y)(hx:Loc X.env.scope y)(hc:X.calm=true)(hi:PI X target iter wi)(hg:∀cl C fp s H,PG (cxComp X (M++f.map (·.1)) scope cl C fp s H) target g)(ht:∀cl C fp s H,PIfs (cxComp X (M++f.map (·.1)) scope cl C fp s H) ifs tt)(he:∀cl C fp s H,PE (cxComp X (M++f.map (·.1)) scope cl C fp s H) elt te)(hk:compChk X.N X.env.scope scope f=true:=by rfl)(hs:∀x,Jm iter X.env x=pure x:=by intro _;rfl)(P:Kq (.ListComp elt [⟨target,iter,ifs,0⟩] scope pos) (some (.Name y L)) u.line X.env=pure true:=by rfl)(hf:X.fn y=true\/X.env.scope.names.lookup y=some .local:=by trivial):
  PS X (.Assign [.Name y L] (.ListComp elt [⟨target,iter,ifs,0⟩] scope pos) u) (tSetC wi g tt te M f i):=by
 intro B s σ H D' I h;obtain⟨j,Q,q,E,co⟩:=q4w hk;obtain⟨cl,G,R,S⟩:=z0b I E;rw[Sf _ _ _ _ P];refine Ab (Ia (Ab ?_));refine Ab (Dl (Ir (use:=some (assign (.Name y L) X.env)) rfl hs G j q
  (thn (hi B s σ H _ I h) λv s1 h1=>thn h1 λa5 s2 h2=>?_)) (λ_ U hq=>Ad (Ad hq)) λ_ _ e=>e)
 obtain⟨it,fp,tn,J,H2,e,I2,T,W,f2,hw⟩:=h2;subst e;refine z4r (RR:=λY C=>compPost (model X.prog X.w) X.A X.xe (some (assign (.Name y L) X.env)) (λ_ U=>SP X B D' .next U) Y C) (Fin:=λD _ Z=>D'.nx (σ.set i (some (.ref D))) Z) hc j Q R S co (λC s H=>hg cl C fp s H) (λC s H=>ht cl C fp s H) (λC s H=>he cl C fp s H) I2 T W f2 hw ?_;intro D C ys Z U hD I' hm F fin;obtain⟨m,hm⟩:=hm;refine Pg (q7i (v:=.ref D) I' hN O hx rfl (λa0 a1 a2=>?_) hf);obtain⟨a,sb,ha⟩:=a2;have a3:C≠a:=by
  rcases ha with ha|ha
  ·rw[ha];exact F.2.1
  ·exact λz=>F.2.2.2.2.1 y a ha z.symm
 refine⟨m,hm.sameBut sb a3,λh' a4=>?_⟩;exact⟨_,Z,a1.turned (t':=a0.toks) (λb o hb e=>(a4.2 b hb).trans e) F.1 F.2.1 F.2.2.2.1 F.2.2.2.2.1 F.2.2.2.2.2,fin⟩
end
def q6a{Fin}(f:Nat->List V->Hp->Prop)(h0:f 0 [] (upd H1 D (.lst [])))(hl:∀i ys H,f i ys H->H D=some (.lst ys))(u:∀i ys H,i<n->f i ys H->J.go i H)(B:∀ys H,f n ys H->J.stop n H)(hs:∀i ys H x H',i<n->f i ys H->J.yld i H x H'->g x σ0 H' λh G=>Keeps0 σ0 h/\tt h G λb C =>
   if b=true then te h C λv E=>E D=some (.lst ys)/\ys.length<sizeLine/\f (i+1) (ys++[v]) (upd E D (.lst (ys++[v]))) else f (i+1) ys C)(hd:∀ys H,f n ys H->Fin ys H):CompW J g tt te σ0 D Fin H1:=by
 refine⟨λi m ys H=>m=n-i/\i<=n/\f i ys H,⟨n,by simp,Bv _,h0⟩,?_⟩;rintro i m ys H ⟨rfl,I,p⟩;refine⟨hl i ys H p,?_⟩;by_cases j:i<n
 ·exact .inr ⟨u i ys H j p,f (i+1),λL H' q=>⟨n-(i+1),by lia,rfl,j,q⟩,λx H' y=>hs i ys H x H' j p y⟩
 ·grind
def z6h{Fin}(f:Nat->List V->Hp->Prop)(h0:f 0 [] (upd H1 D (.lst [])))(hl:∀i ys H,f i ys H->H D=some (.lst ys))(hs:∀i ys H,i<n->f i ys H->g (.int (q+i)) σ0 H λj C=>Keeps0 σ0 j/\tt j C λb u =>
   if b=true then te j u λv B=>B D=some (.lst ys)/\ys.length<sizeLine/\f (i+1) (ys++[v]) (upd B D (.lst (ys++[v]))) else f (i+1) ys u)(hd:∀ys H,f n ys H->Fin ys H):CompW (Itr q n) g tt te σ0 D Fin H1 :=
 q6a f h0 hl (λi ys H h _=>h) (λys H _=>Aq _) (λi ys H x E h p y=>by obtain⟨e,y⟩:=y;subst e y;exact hs i ys _ h p) hd
def q2g{K}{Fin}(f:Nat->List V->Hp->Prop)(h0:f 0 [] (upd H1 D (.lst [])))(hl:∀i ys H,f i ys H->H D=some (.lst ys)/\SqL K H a xs)(hs:∀i ys H x,xs[i]?=some x->f i ys H->g x σ0 H λj B=>Keeps0 σ0 j/\tt j B λb q =>
   if b=true then te j q λv u=>u D=some (.lst ys)/\ys.length<sizeLine/\f (i+1) (ys++[v]) (upd u D (.lst (ys++[v]))) else f (i+1) ys q)(hd:∀ys H,f xs.length ys H->Fin ys H):CompW (Itl K a) g tt te σ0 D Fin H1 :=
 q6a f h0 (λi ys H p=>(hl i ys H p).1) (λi ys H h p=>⟨xs,xs[i],(hl i ys H p).2,by simp[h]⟩) (λys H p=>⟨xs,(hl _ ys H p).2,Aq _⟩)
  (λi ys H x C h p y=>by obtain⟨e,y⟩:=y;subst e;exact hs i ys _ x (y xs (hl i ys _ p).2) p) hd
def q1d{r:St}:Keeps0 (none::r) (v::r):=⟨rfl,λi w h=>by
 cases i with
 |zero=>cases h
 |succ i=>exact h⟩
def q3v{r:St}:Keeps0 (none::none::r) (v::w::r):=⟨rfl,λi u h=>by
 cases i with
 |zero=>cases h
 |succ i=>cases i with
  |zero=>cases h
  |succ i=>exact h⟩
section
variable{X:Cx}
noncomputable def rSlS:V->Option Int->Option Int->Hp->VK->Prop:=λx lo hi H Q=>∃z,x=.str z/\z.length<=sizeLine/\Q (.str (Qz z lo hi)) H
def q7r(h:Mc v o):∃p,v=partValue p/\o=p.map (·.1):=by
 cases h with
 |none=>exact⟨none,rfl,rfl⟩
 |int i t=>exact⟨some (i,t),rfl,rfl⟩
def sl_str:SlR X rSlS:=by
 intro f s G H x v vl J L M O Q I j hs pl u h;obtain⟨z,rfl,B,q⟩:=h;obtain⟨t,rfl⟩:=j;obtain⟨C,rfl,rfl⟩:=q7r pl;obtain⟨D,rfl,rfl⟩:=q7r u;refine⟨"str",_,F.slot_str_getitem.lookup,Ta _ _ _,wpAny_getItem_str_slice (st:=none) hs rfl
  (post_val_or_str ⟨Cc (Txt.slice_le z _ _) B,λE k=>⟨.str (Qz z (C.map (·.1)) (D.map (·.1))),H,I.tok _,⟨E,rfl⟩,q⟩⟩)⟩
noncomputable def rLower:V->List V->Hp->VK->Prop:=λx vs H Q=>∃z,x=.str z/\vs=[]/\3*z.length<=sizeLine/\Q (.str (Txt.lower z)) H
def fit3(h:n<=3*m)(f:3*m<=sizeLine):Dk.Str.tooLong n=false:=by
 exact decide_eq_false (by lia)
def q6z:MtM X "str.lower" rLower:=by
 intro f s C H x vs v D Q I j u h;obtain⟨z,rfl,rfl,B,q⟩:=h;obtain⟨t,rfl⟩:=j;cases u.zero;exact SC.lower (fit3 (len_lower z) B) ⟨.str _,H,I.tok _,⟨_,rfl⟩,q⟩
noncomputable def rUpper:V->List V->Hp->VK->Prop:=λx vs H Q=>∃z,x=.str z/\vs=[]/\3*z.length<=sizeLine/\Q (.str (Txt.upper z)) H
def x1t:MtM X "str.upper" rUpper:=by
 intro f s C H x vs v D Q I j u h;obtain⟨z,rfl,rfl,B,q⟩:=h;obtain⟨t,rfl⟩:=j;cases u.zero;exact SC.upper (fit3 (len_upper z) B) ⟨.str _,H,I.tok _,⟨_,rfl⟩,q⟩
theorem q6b:∀{ys} {us},Vals (ys.map V.str) us->Jd us ys
 |[],_,.nil=>.nil
 |y::ys,_,.cons r t=>by obtain⟨k,rfl⟩:=r;exact .cons y k (q6b t)
noncomputable def rJoin(K:Al):V->List V->Hp->VK->Prop:=λx vs H Q=>∃(z:Str) (p:Addr) (ys:List Str),x=.str z/\vs=[.ref p]/\(SqL K H p (ys.map V.str)\/SqT K H p (ys.map V.str))/\(ys.map (·.length)).sum+ys.length*z.length<=16777216/\Q (.str (Vr z ys)) H
def x4z:MtM X "str.join" (rJoin X.K):=by
 intro B s L H x vs v M Q I D E h;obtain⟨z,p,O,rfl,rfl,f,C,q⟩:=h;obtain⟨t,rfl⟩:=D;obtain⟨u,rfl,G⟩:=E.one;cases G;rcases f with f|f
 ·obtain⟨j,r,pl,_⟩:=I.list f;exact join_list pl.isList (q6b (by simpa using r)) C λJ k=>⟨.str _,H,I.tok _,⟨_,rfl⟩,q⟩
 ·obtain⟨j,r,pl,_⟩:=I.tuple f;exact join_tuple pl (q6b (by simpa using r)) C λJ k=>⟨.str _,H,I.tok _,⟨_,rfl⟩,q⟩
noncomputable def rMulS:R2:=λx y H Q=>∃z n,x=.str z/\y=.int n/\MulOk z n/\Q (.str (Txt.mul z n)) H
def op_mulS:OpR X (Hd .Mult) rMulS:=by
 intro f s D H x y v u Q I j B h;obtain⟨z,n,rfl,rfl,C,q⟩:=h;obtain⟨t,rfl⟩:=j;obtain⟨E,rfl⟩:=B;exact SB.mul C λG k=>⟨.str _,H,I.tok _,⟨_,rfl⟩,q⟩
theorem q7s:∀{bs} {us},Vals (bs.map V.bl) us->LSm.BoolsAre us bs
 |[],_,.nil=>.nil
 |b::bs,_,.cons r t=>by cases r;exact .cons b (q7s t)
def x1u(E:X.calm=true):CallR X (.builtin "all") (λxs H Q=>∃(p:Addr) (bs:List Bool),xs=[.ref p]/\SqL X.K H p (bs.map V.bl)/\Q (.bl (bs.all id)) H):=by
 intro B s O H xs P Q I r h;obtain⟨p,bs,rfl,G,q⟩:=h;obtain⟨u,rfl,J⟩:=vals1 r;cases J;obtain⟨f,L,pl,R⟩:=I.list G;have C:=q7s L;have j:p<s.heap.objs.size:=by obtain⟨_,e,_⟩:=pl.isList;exact Ax e
 refine call_all_walk (Ls pl.isList ?_);refine⟨s.heap.objs.size,[s.heap.objs.size,p],[s.heap.objs.size],f.toArray.size,_,_,λi=>(bs[i]?).getD true,rfl,Walks.list (A:=X.A.in1) (I.ok.hd E) _ p (Bm j) f.toArray,
  ⟨⟨_,As _ rfl,rfl,rfl⟩,pl.isList.push _⟩,λi v S T U M D=>?_,λW tk hk=>?_⟩
 ·obtain⟨b,e,rfl⟩:=C.get i v (by simpa using M);simp only[e,Option.getD_some] at D;exact Cy D
 ·have e:((List.range f.toArray.size).all λi=>(bs[i]?).getD true)=bs.all id:=by
   rw[Bj,C.length];exact LSm.range_all bs
  rw[e];exact⟨.bl _,H,I.kept (t':=tk) (LSm.kept_iter hk),rfl,q⟩
noncomputable def Its(z:Str):It:=⟨λi _=>i<z.length,λi H x H'=>H'=H/\∃c,z.cps[i]?=some c/\x=.str ⟨#[c]⟩,λi _=>z.length<=i⟩
end
def z8b{K:Al}(q:Addr)(z:Str)(t:Tok):Turn P w K tg (Its z) [q] q (λi h=>i<=z.length/\h.IsStrIter q "str_ascii_iterator" z t i) where
 mem:=by simp
 obj:=λi h st b u=>by
  have e:b=q:=by grind
  subst e;obtain⟨_,o,e,c,d⟩:=st;exact⟨o,e,λv z=>by rw[d] at z;cases z⟩
 keep:=λi h D st k=>⟨st.1,let ⟨o,e,c,d⟩:=st.2;⟨o,k q (by simp) o e,c,d⟩⟩
 item:=by
  intro X U W Y S i f s T H E I B st C;obtain⟨G,J,Z,L,M,O⟩:=B q (by simp);have Q:i<z.cps.size:=C;refine wpAny_pyNext_ascii_item st.2 (c:=z.cps[i]) (by simp[Q]) λD j R=>?_;have I1:Inv X f T H { s with heap:=D,toks:=s.toks+1 }:=I.turned (λb o u e=>(R.2 b u).trans e) G J L M O;obtain⟨o,e,c,d⟩:=id j;exact⟨_,rfl,z3f e c d (by decide) ⟨.str ⟨#[z.cps[i]]⟩,H,I1,⟨_,rfl⟩,⟨rfl,_,by simp[Q],rfl⟩,⟨C,j⟩,λb u=>(B b u).1⟩⟩
 done:=by
  intro X U W Y S i f s T H E I B st C;obtain⟨G,J,Z,L,M,O⟩:=B q (by simp);have Q:z.cps.size<=i:=C;exact wpAny_pyNext_ascii_end (I.ok.hd S) st.2 (by simp;lia) λD eb=>⟨rfl,I.turned (t':=s.toks) (λb o u e=>eb b o u e) G J L M O⟩
 self:=λ_ _ _ _ _ st h=>wpAny_pyIter_striter_ascii st.2 h
def z8c{K:Al}(q:Addr)(z:Str)(t:Tok):Turn P w K tg (Its z) [q] q (λi h=>i<=z.length/\h.IsStrIter q "str_iterator" z t i) where
 mem:=by simp
 obj:=λi h st b u=>by
  have e:b=q:=by grind
  subst e;obtain⟨_,o,e,c,d⟩:=st;exact⟨o,e,λv z=>by rw[d] at z;cases z⟩
 keep:=λi h D st k=>⟨st.1,let ⟨o,e,c,d⟩:=st.2;⟨o,k q (by simp) o e,c,d⟩⟩
 item:=by
  intro X U W Y S i f s T H E I B st C;obtain⟨G,J,Z,L,M,O⟩:=B q (by simp);have Q:i<z.cps.size:=C;refine wpAny_pyNext_wide_item st.2 (c:=z.cps[i]) (by simp[Q]) λD j R=>?_;have I1:Inv X f T H { s with heap:=D,toks:=s.toks+1 }:=I.turned (λb o u e=>(R.2 b u).trans e) G J L M O;obtain⟨o,e,c,d⟩:=id j;exact⟨_,rfl,z3f e c d (by decide) ⟨.str ⟨#[z.cps[i]]⟩,H,I1,⟨_,rfl⟩,⟨rfl,_,by simp[Q],rfl⟩,⟨C,j⟩,λb u=>(B b u).1⟩⟩
 done:=by
  intro X U W Y S i f s T H E I B st C;obtain⟨G,J,Z,L,M,O⟩:=B q (by simp);have Q:z.cps.size<=i:=C;exact wpAny_pyNext_wide_end (I.ok.hd S) st.2 (by simp;lia) λD eb=>⟨rfl,I.turned (t':=s.toks) (λb o u e=>eb b o u e) G J L M O⟩
 self:=λ_ _ _ _ _ st h=>wpAny_pyIter_striter_wide st.2 h
def x1v{Fin}(f:Nat->List V->Hp->Prop)(h0:f 0 [] (upd H1 D (.lst [])))(hl:∀i ys H,f i ys H->H D=some (.lst ys))(hs:∀i ys H c,z.cps[i]?=some c->f i ys H->g (.str ⟨#[c]⟩) σ0 H λj B=>Keeps0 σ0 j/\tt j B λb q =>
   if b=true then te j q λv u=>u D=some (.lst ys)/\ys.length<sizeLine/\f (i+1) (ys++[v]) (upd u D (.lst (ys++[v]))) else f (i+1) ys q)(hd:∀ys H,f z.length ys H->Fin ys H):CompW (Its z) g tt te σ0 D Fin H1 :=
 q6a f h0 hl (λi ys H h _=>h) (λys H _=>Aq _) (λi ys H x E h p y=>by obtain⟨e,c,C,y⟩:=y;subst e y;exact hs i ys _ c C p) hd
structure Vw (K) (H) (h:Heap):Prop where
 lst:∀a xs,SqL K H a xs->∃its,Vals xs its/\h.IsList a its.toArray
 tup:∀a xs,SqT K H a xs->∃its,Vals xs its/\h.IsTuple a its.toArray
def SqL.ne{K}(h:SqL K H a xs)(f:H b=none)(hk:K.lookup b=none):a≠b:=by
 rintro rfl;rcases h with(h|⟨o,h⟩)|⟨o,_,_,h,_⟩
 ·rw[f] at h;cases h
 ·rw[f] at h;cases h
 ·rw[hk] at h;cases h
def SqT.ne{K}(h:SqT K H a xs)(f:H b=none)(hk:K.lookup b=none):a≠b:=by
 rintro rfl;rcases h with(h|⟨o,h⟩)|⟨o,_,_,h,_⟩
 ·rw[f] at h;cases h
 ·rw[f] at h;cases h
 ·rw[hk] at h;cases h
def Vw.but{K}(v:Vw K H h)(u:H b=none)(hk:K.lookup b=none)(k:∀c o,c≠b->h.get? c=some o->h'.get? c=some o):Vw K H h' :=
 ⟨λa j q=>let ⟨f,r,l⟩:=v.lst a j q;⟨f,r,l.at λo e=>k a o (q.ne u hk) e⟩,λa j q=>let ⟨f,r,l⟩:=v.tup a j q;⟨f,r,by
  obtain⟨o,e,z⟩:=l;exact⟨o,k a o (q.ne u hk) e,z⟩⟩⟩
def Vw.linj{K}(v:Vw K H h)(p:SqL K H a xs)(q:SqL K H a ys):xs=ys:=by
 obtain⟨j,r,o,e,_,n,d⟩:=v.lst a xs p;obtain⟨f,u,B,C,_,D,E⟩:=v.lst a ys q;have:j=f:=by grind
 subst this;exact r.inj u
def Inv.vw{h:St}(I:Inv X pins h H s):Vw X.K H s.heap :=
 ⟨λa j q=>let ⟨f,r,l,_⟩:=I.list q;⟨f,r,l.isList⟩,λa j q=>let ⟨f,r,l,_⟩:=I.tuple q;⟨f,r,l⟩⟩
structure Srce (P) (w) (K) (J:It) (it) (st:Nat->Heap->Prop):Prop where
 obj:∀i h,st i h->∃o,h.get? it=some o/\∀v,o.data≠.cell v
 keep:∀i h h',st i h->(∀o,h.get? it=some o->h'.get? it=some o)->st i h'
 item:∀ A   i   s   H   Q   E ,A.handled=none->Vw K H s.heap->H it=none->K.lookup it=none->st i s.heap->J.go i H ->
  (∀u x h' tk,RelV x u->J.yld i H x H->st (i+1) h'->Fm it s.heap h'->Q u { s with heap:=h',toks:=tk })->wpAny (model P w) A (Po (.ref it)) Q E s
 done:∀ A   i   s   H   Q   E ,A.handled=none->Vw K H s.heap->H it=none->K.lookup it=none->st i s.heap->J.stop i H ->
  (∀h' e,Ol it s.heap h'->(∃o,h'.get? e=some o/\o.cls=.type "StopIteration")->E (.ref e) { s with heap:=h' })->wpAny (model P w) A (Po (.ref it)) Q E s
def q7t{K:Al}(a G:Addr):Srce P w K (Itl K a) G (λi h=>h.IsListIter G a i) where
 obj:=λi h st=>by obtain⟨o,e,c,d⟩:=st;exact⟨o,e,λv z=>by rw[d] at z;cases z⟩
 keep:=λi h I st k=>st.at λo e=>k o e
 item:=λA i s H Q E J vw hn hk st go L=>by
  obtain⟨j,x,f,q⟩:=go;obtain⟨B,C,p⟩:=vw.lst a j f;obtain⟨u,M,O⟩:=C.get q;refine wpAny_nextOf_list_item st p (by simpa using M) λI D R=>?_
  exact L u x I s.toks O ⟨rfl,λU S=>by rw[vw.linj S f];exact q⟩ D R
 done:=λA i s H Q E J vw hn hk st stop T=>by
  obtain⟨j,f,q⟩:=stop;obtain⟨B,C,p⟩:=vw.lst a j f;have hl:=C.length;exact wpAny_nextOf_list_end J st p (by simp;lia) T
noncomputable def stStr(it:Addr)(z:Str)(t:Tok)(i:Nat)(h:Heap):Prop:=h.IsStrIter it (Il z) z t i
def z0c{K:Al}(C:Addr)(z:Str)(t:Tok):Srce P w K (Its z) C (stStr C z t) where
 obj:=λi h st=>by obtain⟨o,e,c,d⟩:=st;exact⟨o,e,λv z=>by rw[d] at z;cases z⟩
 keep:=λi h u st k=>by obtain⟨o,e,r⟩:=st;exact⟨o,k o e,r⟩
 item:=λA i s H Q E B vw hn hk st go D=>by
  have q:i<z.cps.size:=go;unfold stStr Il at st;cases ha:z.cps.all (· < 128)
  ·rw[ha] at st;refine wpAny_nextOf_wide_item st (c:=z.cps[i]) (by simp[q]) λu f j=>?_;exact D _ (.str ⟨#[z.cps[i]]⟩) u (s.toks+1) ⟨_,rfl⟩ ⟨rfl,_,by simp[q],rfl⟩ (by unfold stStr Il;rw[ha];exact f) j
  ·rw[ha] at st;refine wpAny_nextOf_ascii_item st (c:=z.cps[i]) (by simp[q]) λu f j=>?_;exact D _ (.str ⟨#[z.cps[i]]⟩) u (s.toks+1) ⟨_,rfl⟩ ⟨rfl,_,by simp[q],rfl⟩ (by unfold stStr Il;rw[ha];exact f) j
 done:=λA i s H Q E B vw hn hk st stop G=>by
  have q:z.cps.size<=i:=stop;unfold stStr Il at st;cases ha:z.cps.all (· < 128)
  ·rw[ha] at st;exact wpAny_nextOf_wide_end B st (by simp;lia) G
  ·rw[ha] at st;exact wpAny_nextOf_ascii_end B st (by simp;lia) G
def Inv.turnedL{C:St}{ch:List Addr}(I:Inv X pins C H s)(k:∀b o,b∉ch->s.heap.get? b=some o->h'.get? b=some o)(h:∀b∈ch,FpOk X pins H b):Inv X pins C H { s with heap:=h',toks:=t' }:=by
 have j:∀b u,H b=some u->b∉ch:=λb u e z=>by rw[(h b z).1] at e;cases e
 refine I.step (g':=s.gens) (d':=s.drawn) (λb B=>?_) (λb o _ _ f e _=>k b o f e) (λb o _ _ f e _=>⟨o.slots,k b o f e⟩) (λ_ _ _ _ n=>n)
  (λb o f e=>?_) (λ_ _ e=>e) (λ_ _ _ e=>e) (λb J e=>⟨#[],by rw[e];simp⟩) (λm D=>?_) (λb u e=>?_) I.bare
 ·exact⟨(h b B).2.2.2.1,(h b B).2.1,(h b B).2.2.2.2.1,(h b B).2.2.2.2.2⟩
 ·exact⟨o,k b o f e⟩
 ·obtain⟨o,E,G,ho,r⟩:=D;exact⟨o,E,G,k _ o (λz=>(h _ z).2.1 rfl) ho,r⟩
 ·refine(I.hok b u e).stay (λc v f q=>k c v ?_ q) (λ_ q=>q) λ_ _ q=>q;rcases f with z|z
  ·rw[z];exact j b u e
  ·exact j c _ z
def Inv.track{h:St}{T:Addr}(I:Inv X pins h H s)(B:X.s₀.heap.objs.size<=T)(hF:FpOk X pins H T)(new:ObjOk X.prog X.w (upd H T o) s.heap T o):Inv X pins h (upd H T o) s:=by
 have hn:=hF.1;refine⟨I.ok,I.os,I.bare,⟨I.base.keep,I.base.slot,λb f e n C=>?_,I.base.there,λb j e=>?_,λb f u e=>?_,λb D e=>?_⟩,I.loc,I.cell,?_,λx c e=>?_,λp hp=>?_,λb u e=>?_,I.len⟩
 ·rw[q0d (Bm (Cb (Ax e) B))];exact I.base.free b f e n C
 ·have z:=I.base.tups b j e;rw[q0d (q0j z hn)];exact z
 ·have z:=I.base.frzs b f u e;rw[q0d (q0j z hn)];exact z
 ·obtain⟨m,z⟩:=I.base.tbls b D e;exact⟨m,by rw[q0d (q0j z hn)];exact z⟩
 ·rw[q0d (Ex hF.2.1)];exact I.free
 ·rw[q0d (hF.2.2.2.2.1 x c e)];exact I.freeC x c e
 ·obtain⟨e,n,ne,E,d⟩:=I.pin p hp;exact⟨e,by rw[q0d (hF.2.2.2.2.2 p hp)];exact n,ne,E,d⟩
 ·by_cases v:b=T
  ·subst v;rw[q0b] at e;cases e;exact new
  ·rw[q0d v] at e;exact(I.hok b u e).stay (λ_ _ _ q=>q) (λc q=>by rw[q0d (q0j q hn)];exact q) λc j q=>by rw[q0d (q0j q hn)];exact q
def FpOk.noK{j:St}(I:Inv X pins j H' s)(f:FpOk X pins H b):X.K.lookup b=none:=by
 cases e:X.K.lookup b with
 |none=>rfl
 |some o =>
  have h:=I.ok.mod.kin b o e;rcases f.2.2.2.1 with z|z
  ·exact absurd z (I.ok.noex b o h)
  ·exact absurd (Cb (Ax (I.ok.bs b o h).1) z) (Fq _)
structure ZipA (z TI TO i1 i2:Addr):Prop where
 TIz:TI≠z
 TOz:TO≠z
 i1z:i1≠z
 i2z:i2≠z
 TITO:TI≠TO
 TIi1:TI≠i1
 TIi2:TI≠i2
 TOi1:TO≠i1
 TOi2:TO≠i2
 i12:i1≠i2
section
variable{prog:Aw}{w:World}{K:Al}{A:Around}{E:Value->Ag->Prop}{s:Ag}{J1 J2:It}{t1 t2:Nat->Heap->Prop}{z TI TO i1 i2:Addr}{H:Hp}
def z8d{Q:Value->Ag->Prop}(D:ZipA z TI TO i1 i2)(S1:Srce prog w K J1 i1 t1)(S2:Srce prog w K J2 i2 t2)(hh:A.handled=none)(vw:Vw K H s.heap)(nH:∀b∈[z,TI,TO,i1,i2],H b=none)(nK:∀b∈[z,TI,TO,i1,i2],K.lookup b=none)(hz:IsZip s.heap z TI TO .none)(b0:Md s.heap TI (.ref i1) (.ref i2))(b1:Md s.heap TO a b)(h1:t1 i s.heap)(h2:t2 i s.heap)(g1:J1.go i H)(g2:J2.go i H)(hQ:∀u v x y h' tk,RelV x u->RelV y v->J1.yld i H x H->J2.yld i H y H->IsZip h' z TI TO (Ee s.heap.objs.size)->Md h' TO u v->t1 (i+1) h'->t2 (i+1) h'->Md h' s.heap.objs.size u v->h'.objs.size=s.heap.objs.size+1 ->
   (∀c o,c≠z->c≠TO->c≠i1->c≠i2->s.heap.get? c=some o->h'.get? c=some o)->Q (.ref s.heap.objs.size) { s with heap:=h',toks:=tk }):
  wpAny (model prog w) A (Dk.«zip.__next__» ⟨[.ref z],[]⟩) (λfin s'=>∃v,fin=.done (.ret v)/\Q v s') E s:=by
 show wpAny _ _ (field (.ref z) 2 >>= _) _ _ _;refine Ab (Cm hz rfl rfl ?_);refine Ab (Cm hz rfl rfl ?_);refine Ab (Dp b0 rfl ?_);refine Ab ?_;refine Ab (Cm hz rfl rfl (Ad ?_));refine Ab (Gk ?_);refine Ab (Cm hz rfl rfl ?_);refine Ab (Dd hz (by simp) λa7 I f=>?_);replace I:IsZip a7 z TI TO .ellipsis:=I;have P:=vw.but (nH z (by simp)) (nK z (by simp)) λc o hc e=>f.extBut _ _ hc e;refine Ab ?_;refine Ab (Ab (Pb ?_));refine Ab (S1.item _ i _ H _ _ hh P (nH i1 (by simp)) (nK i1 (by simp)) (S1.keep _ _ _ h1 λo e=>f.extBut _ _ D.i1z e) g1 λu x b3 b2 rx yx Y h=>Ad ?_);have M:=h.extBut _ _ D.TOi1 (f.extBut _ _ D.TOz b1);refine Ab (Dp M rfl ?_);refine Ab (Nk M λb4 W j=>?_);have Z:=(P.but (nH i1 (by simp)) (nK i1 (by simp)) λc o hc e=>h.extBut _ _ hc e).but (nH TO (by simp)) (nK TO (by simp)) λc o hc e=>j.extBut _ _ hc e;refine Ab (Gq (Ad ?_));refine Ab (Ab (Pb ?_));refine Ab (S2.item _ i _ H _ _ hh Z (nH i2 (by simp)) (nK i2 (by simp)) (S2.keep _ _ _ h2 λo e=>j.extBut _ _ D.TOi2.symm (h.extBut _ _ D.i12.symm (f.extBut _ _ D.i2z e))) g2 λv y b5 a0 ry yy a1 B=>Ad ?_);have O:=B.extBut _ _ D.TOi2 W;refine Ab (Dp O rfl ?_);refine Ab (Nk O λG q C=>?_);replace q:Md G TO u v:=q;refine Ab (Gq (Ad (Ad ?_)));refine Ab (Dp q rfl ?_);refine Ab (Oi ?_);have a8:G.objs.size=s.heap.objs.size:=by rw[C.1,B.1,j.1,h.1,f.1]
 have R:=C.extBut _ _ D.TOz.symm (B.extBut _ _ D.i2z.symm (j.extBut _ _ D.TOz.symm (h.extBut _ _ D.i1z.symm I)));have a2:∀c o,c≠z->c≠TO->c≠i1->c≠i2->s.heap.get? c=some o->G.get? c=some o:=λc o c1 c2 c3 c4 e =>
  C.extBut _ _ c2 (B.extBut _ _ c4 (j.extBut _ _ c2 (h.extBut _ _ c3 (f.extBut _ _ c1 e))))
 have a3:=S1.keep _ _ _ Y λo e=>C.extBut _ _ D.TOi1.symm (B.extBut _ _ D.i12 (j.extBut _ _ D.TOi1.symm e));have a4:=S2.keep _ _ _ a1 λo e=>C.extBut _ _ D.TOi2.symm e;have X:=Ax R;refine Ab ?_;have a5:IsZip (G.push { cls:=.type "tuple",data:=.seq #[u,v] }) z TI TO .ellipsis:=Ai _ R;refine Ab (Dd a5 (by simp) λb6 a6 J=>?_);refine Dd a6 (by simp) λS T L=>?_;have up:∀c o,c≠z->G.get? c=some o->S.get? c=some o:=λc o c1 e=>L.extBut _ _ c1 (J.extBut _ _ c1 (Ai _ e));have U:=L.extBut _ _ (Ew X) (J.extBut _ _ (Ew X) (As _ rfl));have a9:S.objs.size=G.objs.size+1:=by rw[L.1,J.1,Fv]
 rw[a8] at T U a9;refine Ad ⟨_,rfl,?_⟩;rw[a8];exact hQ u v x y S a0 rx ry yx yy T (up _ _ D.TOz q) (S1.keep _ _ _ a3 λo e=>up _ o D.i1z e) (S2.keep _ _ _ a4 λo e=>up _ o D.i2z e) U a9 λc o c1 c2 c3 c4 e=>up c o c1 (a2 c o c1 c2 c3 c4 e)
def x1w(D:ZipA z TI TO i1 i2)(S1:Srce prog w K J1 i1 t1)(S2:Srce prog w K J2 i2 t2)(hh:A.handled=none)(vw:Vw K H s.heap)(S:∀b∈[z,TI,TO,i1,i2],H b=none)(T:∀b∈[z,TI,TO,i1,i2],K.lookup b=none)(U:IsZip s.heap z TI TO .none)(a2:Md s.heap TI (.ref i1) (.ref i2))(a3:Md s.heap TO a b)(h1:t1 i s.heap)(h2:t2 i s.heap)(W:J1.stop i H\/(J1.go i H/\J2.stop i H))(hE:∀h' e tk,(∀c o,c≠z->c≠TO->c≠i1->c≠i2->s.heap.get? c=some o->h'.get? c=some o)->(∃o,h'.get? e=some o/\o.cls=.type "StopIteration")->E (.ref e) { s with heap:=h',toks:=tk }):
  wpAny (model prog w) A (Dk.«zip.__next__» ⟨[.ref z],[]⟩) Q E s:=by
 show wpAny _ _ (field (.ref z) 2 >>= _) _ _ _;refine Ab (Cm U rfl rfl ?_);refine Ab (Cm U rfl rfl ?_);refine Ab (Dp a2 rfl ?_);refine Ab ?_;refine Ab (Cm U rfl rfl (Ad ?_));refine Ab (Gk ?_);refine Ab (Cm U rfl rfl ?_);refine Ab (Dd U (by simp) λa6 C h=>?_);have q:=vw.but (S z (by simp)) (T z (by simp)) λc o X e=>h.extBut _ _ X e;refine Ab ?_;refine Ab (Ab (Pb ?_));rcases W with st|⟨g1,st⟩
 ·refine Ab (S1.done _ i _ H _ _ hh q (S i1 (by simp)) (T i1 (by simp)) (S1.keep _ _ _ h1 λo e=>h.extBut _ _ D.i1z e) st λY e f he=>?_);obtain⟨oe,v,G⟩:=he;have I:=f _ _ D.i1z.symm C;have P:e≠z:=λx=>by subst x;rw[I] at v;cases v;simp at G
  refine Dd I (by simp) λO _ j=>hE O e _ (λc o Z _ c3 _ x=>j.extBut _ _ Z (f _ _ c3 (h.extBut _ _ Z x))) ⟨oe,j.extBut _ _ P v,G⟩
 ·refine Ab (S1.item _ i _ H _ _ hh q (S i1 (by simp)) (T i1 (by simp)) (S1.keep _ _ _ h1 λo e=>h.extBut _ _ D.i1z e) g1 λu x Y a4 rx yx a5 f=>Ad ?_);have B:=f.extBut _ _ D.TOi1 (h.extBut _ _ D.TOz a3);refine Ab (Dp B rfl ?_);refine Ab (Nk B λO a1 j=>?_);have R:=(q.but (S i1 (by simp)) (T i1 (by simp)) λc o X e=>f.extBut _ _ X e).but (S TO (by simp)) (T TO (by simp)) λc o X e=>j.extBut _ _ X e;refine Ab (Gq (Ad ?_));refine Ab (Ab (Pb ?_));refine Ab (S2.done _ i _ H _ _ hh R (S i2 (by simp)) (T i2 (by simp)) (S2.keep _ _ _ h2 λo e=>j.extBut _ _ D.TOi2.symm (f.extBut _ _ D.i12.symm (h.extBut _ _ D.i2z e))) st λa7 e J he=>?_);obtain⟨oe,v,G⟩:=he;have L:=J _ _ D.i2z.symm (j.extBut _ _ D.TOz.symm (f.extBut _ _ D.i1z.symm C));have P:e≠z:=λx=>by subst x;rw[L] at v;cases v;simp at G
  refine Dd L (by simp) λa0 _ M=>hE a0 e _ (λc o Z c2 c3 c4 x=>M.extBut _ _ Z (J _ _ c4 (j.extBut _ _ c2 (f.extBut _ _ c3 (h.extBut _ _ Z x))))) ⟨oe,M.extBut _ _ P v,G⟩
end
noncomputable def Itz(J1 J2:It):It:=⟨λi H=>J1.go i H/\J2.go i H,λi H x H'=>∃T x1 x2,H T=none/\J1.yld i H x1 H/\J2.yld i H x2 H/\x=.ref T/\H'=upd H T (.tup [x1,x2]),λi H=>J1.stop i H\/(J1.go i H/\J2.stop i H)⟩
noncomputable def tnZip(z TI TO i1 i2:Addr)(t1 t2:Nat->Heap->Prop)(i:Nat)(h:Heap):Prop:=IsZip h z TI TO .none/\Md h TI (.ref i1) (.ref i2)/\(∃a b,Md h TO a b)/\t1 i h/\t2 i h
def x1x{K:Al}{TI TO:Addr}(D:ZipA z TI TO i1 i2)(R:Srce P w K J1 i1 t1)(S:Srce P w K J2 i2 t2):
  Turn P w K (.Tuple elts kk pos) (Itz J1 J2) [z,TI,TO,i1,i2] z (tnZip z TI TO i1 i2 t1 t2) where
 mem:=by simp
 obj:=λi h st b q=>by
  obtain⟨J,j,⟨a,c,B⟩,L,M⟩:=st;simp only[Bb,Ea,or_false] at q;rcases q with rfl|rfl|rfl|rfl|rfl
  ·simp_all
  ·grind
  ·grind
  ·exact R.obj i h L
  ·exact S.obj i h M
 keep:=λi h h' st k=>by
  obtain⟨J,j,⟨a,c,B⟩,L,M⟩:=st;exact⟨k z (by simp) _ J,k TI (by simp) _ j,⟨a,c,k TO (by simp) _ B⟩,R.keep _ _ _ L λo e=>k i1 (by simp) o e,S.keep _ _ _ M λo e=>k i2 (by simp) o e⟩
 item:=by
  intro X W Y Z hc i G s σ H E I O st U;subst W Y Z;obtain⟨J,j,⟨a,c,B⟩,L,M⟩:=st;have T:s.TypeIs (.ref z) "zip" := ⟨_,J,rfl⟩
  refine Ab (Ek (Ca T Nl
   (Bw Nl T Vs
    (z8d D R S (I.ok.hd hc) I.vw (λb q=>(O b q).1) (λb q=>(O b q).noK I) J j B L M U.1 U.2 λu v x y h' tk rx ry yx yy a1 a2 a3 a4 a5 a6 a7=>Ad ?_) (Uw _))))
  refine⟨_,rfl,?_⟩;refine wpAny_letOwnedTupleGo_zip a1 λQ a0 C=>?_;have k2:∀c o,c∉[z,TI,TO,i1,i2]->s.heap.get? c=some o->Q.get? c=some o:=λc o f e=>by
   simp only[Bb,Ea,or_false,not_or] at f;exact C.extBut _ _ f.1 (a7 c o f.1 f.2.2.1 f.2.2.2.1 f.2.2.2.2 e)
  have a8:=Ax J;have I1:Inv X G σ H { s with heap:=Q,toks:=tk }:=I.turnedL k2 O;have FT:=I.fpOk (Aq _) I.fresh;have a9:=C.extBut _ _ (Ew a8) a5;have I2:Inv X G σ (upd H s.heap.objs.size (.tup [x,y])) { s with heap:=Q,toks:=tk } :=
   I1.track I.sz FT ⟨by show 2<=sizeLine;decide,[u,v],.cons rx (.cons ry .nil),⟨_,a9,rfl,_,rfl⟩⟩
  refine⟨.ref s.heap.objs.size,_,I2,rfl,⟨_,x,y,I.fresh,yx,yy,rfl,rfl⟩,⟨a0,?_,⟨_,_,C.extBut _ _ D.TOz a2⟩,R.keep _ _ _ a3 λo e=>C.extBut _ _ D.i1z e,S.keep _ _ _ a4 λo e=>C.extBut _ _ D.i2z e⟩,λb q=>?_⟩
  ·exact C.extBut _ _ D.TIz (a7 _ _ D.TIz D.TITO D.TIi1 D.TIi2 j)
  ·have b0:=(O b q).1;rw[q0d]
   ·exact b0
   ·have:∃o,s.heap.get? b=some o:=by
     simp only[Bb,Ea,or_false] at q;rcases q with rfl|rfl|rfl|rfl|rfl
     ·exact⟨_,J⟩
     ·grind
     ·grind
     ·obtain⟨o,e,_⟩:=R.obj _ _ L;exact⟨o,e⟩
     ·obtain⟨o,e,_⟩:=S.obj _ _ M;exact⟨o,e⟩
    obtain⟨o,e⟩:=this;exact Bm (Ax e)
 done:=by
  intro X W Y Z hc i G s σ H E I O st U;subst W Y Z;obtain⟨J,j,⟨a,c,B⟩,L,M⟩:=st;have T:s.TypeIs (.ref z) "zip" := ⟨_,J,rfl⟩
  refine Ab (Ek (Ca T Nl
   (Bw Nl T Vs
    (x1w D R S (I.ok.hd hc) I.vw (λb q=>(O b q).1) (λb q=>(O b q).noK I) J j B L M U λh' e tk hk he=>?_) (Uw _))))
  obtain⟨o,ho,b1⟩:=he;refine Ab (Fn ⟨o,ho,b1⟩ Jq ?_);refine Ad ⟨rfl,I.turnedL (λc o f e=>?_) O⟩;simp only[Bb,Ea,or_false,not_or] at f;exact hk c o f.1 f.2.2.1 f.2.2.2.1 f.2.2.2.2 e
 self:=λ_ _ _ _ _ st h=>wpAny_pyIter_zip st.1 h
noncomputable abbrev zs1(h:Heap)(x:Str)(t:Tok):Heap:=h.push { cls:=.type (Il x),data:=.fields #[.str x t,.int 0 0] }
noncomputable abbrev zs2(h:Heap)(x y:Str)(t u:Tok):Heap:=(zs1 h x t).push { cls:=.type (Il y),data:=.fields #[.str y u,.int 0 0] }
noncomputable abbrev zs3(h:Heap)(x y:Str)(t u:Tok):Heap:=(zs2 h x y t u).push { cls:=.type "tuple",data:=.seq #[.ref h.objs.size,.ref (zs1 h x t).objs.size] }
noncomputable abbrev zs4(h:Heap)(x y:Str)(t u:Tok):Heap:=(zs3 h x y t u).push { cls:=.type "tuple",data:=.seq #[.none,.none] }
noncomputable abbrev zs5(h:Heap)(x y:Str)(t u:Tok):Heap:=(zs4 h x y t u).push { cls:=.type "zip",data:=.fields #[.none,.bool false,.bool false,.ref (zs2 h x y t u).objs.size,.ref (zs3 h x y t u).objs.size] }
def z3i(x y)(t u):
  Meets (Dk.«zip.__new__» ⟨[.type "zip",.str x t,.str y u],[]⟩) (λ_ R s=>R (.ok (.ret (.ref (zs4 s.heap x y t u).objs.size))) { s with heap:=zs5 s.heap x y t u }) :=
 .of_wp λprog w A R s h=>by
  obtain⟨hp,g,d,tk,os⟩:=s;have f:=sub_zip;have j:∀{A:Around} {E:Value->Ag->Prop} {Q:Value->Ag->Prop},Q (.ref hp.objs.size) ⟨zs1 hp x t,g,d,tk,os⟩->wpAny (model prog w) A (Kb (.str x t)) Q E ⟨hp,g,d,tk,os⟩:=λq=>Ux q
  have v:∀{A:Around} {E:Value->Ag->Prop} {Q:Value->Ag->Prop},Q (.ref (zs1 hp x t).objs.size) ⟨zs2 hp x y t u,g,d,tk,os⟩->wpAny (model prog w) A (Kb (.str y u)) Q E ⟨zs1 hp x t,g,d,tk,os⟩:=λq=>Ux q
  wp_walk using j,v
  exact⟨_,rfl,h⟩
def z8e(n:Nat):ZipA (n+4) (n+2) (n+3) n (n+1):=by
 constructor<;>(show(_:Nat)≠_;lia)
section
variable{X:Cx}{elts:List Expr}{kk:Nat}{tpos:Pos}
def z4s{j:St}(I:Inv X pins j H s)(v:Srce X.prog X.w X.K J1 s.heap.objs.size t1)(B:Srce X.prog X.w X.K J2 (s.heap.objs.size+1) t2)(u:IsZip h' (s.heap.objs.size+4) (s.heap.objs.size+2) (s.heap.objs.size+3) .none)(f:Md h' (s.heap.objs.size+2) (.ref s.heap.objs.size) (.ref (s.heap.objs.size+1)))(h:Md h' (s.heap.objs.size+3) .none .none)(C:t1 0 h')(D:t2 0 h')(hk:∀c o,s.heap.get? c=some o->h'.get? c=some o)(q:R (Itz J1 J2) H):
  wpAny (model X.prog X.w) X.A (Kb (.ref (s.heap.objs.size+4))) (PIE X pins j (.Tuple elts kk tpos) R) E { s with heap:=h' }:=by
 refine wpAny_pyIter_zip u ?_;refine⟨_,_,_,_,H,rfl,I.kept (t':=s.toks) hk,x1x (z8e s.heap.objs.size) v B,⟨u,f,⟨_,_,h⟩,C,D⟩,λb G=>?_,q⟩;have hb':s.heap.objs.size<=b:=by grind
 exact I.fpOk hb' (I.hok.fresh hb')
noncomputable def iZipS(ta:TA):TI:=λσ H R=>ta σ H λvs H1=>∃x y,vs=[.str x,.str y]/\R (Itz (Its x) (Its y)) H1
def x5a{p B}(Y:Gl X "zip")(Z:X.mg "zip" = none)(ha:PA X [a,b] ta)(hs:Bp [a,b] X.env=[(false,eval a X.env),(false,eval b X.env)]:=by rfl)(C:Bp [b] X.env=[(false,eval b X.env)]:=by rfl):
  PI X (.Tuple elts kk tpos) (.Call (.Name "zip" p) [a,b] [] B) (iZipS ta):=by
 intro D s σ H R I h;refine Call_ (q7j I Y Z (by decide +kernel:Hj "zip" = some (.type "zip")) (Es (thn (ha B D s σ H _ I h) λus f qz=>?_) (by rw[hs,C]) (by rw[C];rfl)));obtain⟨vs,H1,I1,r1,q1⟩:=qz;obtain⟨x,y,e,q⟩:=q1;subst e;obtain⟨u,v,rfl,⟨t,rfl⟩,⟨j,rfl⟩⟩:=r1.two;refine callType_new F.called_zip (by decide) (F.typeCall_zip_2 _ _) (F.newCall_zip_2 _ _) (λobj=>F.args_object_init_3 obj _ _) F.entry_zip_new (z3i x y t j) ?_;have M:(zs1 f.heap x t).objs.size=f.heap.objs.size+1:=Fv ..;have O:(zs2 f.heap x y t j).objs.size=f.heap.objs.size+2:=by simp_all
 have P:(zs3 f.heap x y t j).objs.size=f.heap.objs.size+3:=by simp_all
 have Q:(zs4 f.heap x y t j).objs.size=f.heap.objs.size+4:=by simp_all
 have k1:∀c o,f.heap.get? c=some o->(zs1 f.heap x t).get? c=some o:=λc o e=>Ai _ e;have S:∀c o,(zs1 f.heap x t).get? c=some o->(zs2 f.heap x y t j).get? c=some o:=λc o e=>Ai _ e;have J:∀c o,(zs2 f.heap x y t j).get? c=some o->(zs3 f.heap x y t j).get? c=some o:=λc o e=>Ai _ e;have G:∀c o,(zs3 f.heap x y t j).get? c=some o->(zs4 f.heap x y t j).get? c=some o:=λc o e=>Ai _ e;have E:∀c o,(zs4 f.heap x y t j).get? c=some o->(zs5 f.heap x y t j).get? c=some o:=λc o e=>Ai _ e;have g1:(zs1 f.heap x t).get? f.heap.objs.size=some { cls:=.type (Il x),data:=.fields #[.str x t,.int 0 0] }:=As _ rfl;have T:(zs2 f.heap x y t j).get? (zs1 f.heap x t).objs.size=some { cls:=.type (Il y),data:=.fields #[.str y j,.int 0 0] }:=As _ rfl;have U:(zs3 f.heap x y t j).get? (zs2 f.heap x y t j).objs.size=some { cls:=.type "tuple",data:=.seq #[.ref f.heap.objs.size,.ref (zs1 f.heap x t).objs.size] }:=As _ rfl;have W:(zs4 f.heap x y t j).get? (zs3 f.heap x y t j).objs.size=some { cls:=.type "tuple",data:=.seq #[.none,.none] }:=As _ rfl;have L:(zs5 f.heap x y t j).get? (zs4 f.heap x y t j).objs.size=some { cls:=.type "zip",data:=.fields #[.none,.bool false,.bool false,.ref (zs2 f.heap x y t j).objs.size,.ref (zs3 f.heap x y t j).objs.size] }:=As _ rfl;rw[M] at T;rw[O,M] at U;rw[P] at W;rw[Q,O,P] at L;rw[Q];exact⟨⟨_,L,rfl⟩,z4s I1 (z0c _ x t) (z0c _ y j) L (E _ _ (G _ _ U)) (E _ _ W) ⟨_,E _ _ (G _ _ (J _ _ (S _ _ g1))),rfl,rfl⟩ ⟨_,E _ _ (G _ _ (J _ _ T)),rfl,rfl⟩ (λc o e=>E _ _ (G _ _ (J _ _ (S _ _ (k1 _ _ e))))) q⟩
noncomputable def iZipL(K:Al)(ta:TA):TI:=λσ H R=>ta σ H λvs H1=>∃a b xs ys,vs=[.ref a,.ref b]/\SqL K H1 a xs/\SqL K H1 b ys/\R (Itz (Itl K a) (Itl K b)) H1
def x5b{p f}(J:Gl X "zip")(L:X.mg "zip" = none)(ha:PA X [a,b] ta)(hs:Bp [a,b] X.env=[(false,eval a X.env),(false,eval b X.env)]:=by rfl)(j:Bp [b] X.env=[(false,eval b X.env)]:=by rfl):
  PI X (.Tuple elts kk tpos) (.Call (.Name "zip" p) [a,b] [] f) (iZipL X.K ta):=by
 intro B s M H R I h;refine Call_ (q7j I J L (by decide +kernel:Hj "zip" = some (.type "zip")) (Es (thn (ha f B s M H _ I h) λus s1 O=>?_) (by rw[hs,j]) (by rw[j];rfl)));obtain⟨vs,H1,C,D,P⟩:=O;obtain⟨Q,S,xs,ys,e,T,U,q⟩:=P;subst e;obtain⟨u,v,rfl,D,W⟩:=D.two;cases D;cases W;obtain⟨Y,rv,pl,_⟩:=C.list T;obtain⟨G,Z,E,_⟩:=C.list U;exact call_zip_2 pl.isList E.isList λh' a1 a2 a3 a4 a5 a6 a7=>z4s C (q7t Q _) (q7t S _) a1 a2 a3 a4 a5 a7 q
def z4t{J:It}{g:TG}{tb:TS}{D:Ends}(h:Nat->St->Hp->Prop)(h0:h 0 f H)(v:∀i f H,i<n->h i f H->J.go i H)(B:∀f H,h n f H->J.stop n H)(hs:∀i x f H H',i<n->h i f H->J.yld i H x H'->g x f H' λj C=>tb { D with nx:=h (i+1),ct:=h (i+1),bk:=D.nx } j C)(hd:∀f H,h n f H->D.nx f H):
  ∃W:Nat->Nat->St->Hp->Prop,(∃m,W 0 m f H)/\∀i m f H,W i m f H ->
   (J.stop i H/\D.nx f H)\/(J.go i H/\∃N,(∀q H',N q H'->∃E,E<m/\W (i+1) E q H')/\∀x H',J.yld i H x H'->g x f H' λj C=>tb { D with nx:=N,ct:=N,bk:=D.nx } j C):=by
 refine⟨λi m f H=>m=n-i/\i<=n/\h i f H,⟨n,by simp,Bv _,h0⟩,?_⟩;rintro i m f H ⟨rfl,I,p⟩;by_cases u:i<n
 ·exact .inr ⟨v i f H u p,h (i+1),λq H' G=>⟨n-(i+1),by lia,rfl,u,G⟩,λx H' y=>hs i x f H H' u p y⟩
 ·grind
def x1y{K}{g:TG}{tb:TS}{D:Ends}(j:Nat->St->Hp->Prop)(h0:j 0 f H)(hl:∀i f H,j i f H->SqL K H a xs/\SqL K H b ys)(hs:∀i x y T f H,xs[i]?=some x->ys[i]?=some y->j i f H->H T=none->g (.ref T) f (upd H T (.tup [x,y])) λq B=>tb { D with nx:=j (i+1),ct:=j (i+1),bk:=D.nx } q B)(hd:∀f H,j (min xs.length ys.length) f H->D.nx f H):
  ∃W:Nat->Nat->St->Hp->Prop,(∃m,W 0 m f H)/\∀i m f H,W i m f H ->
   ((Itz (Itl K a) (Itl K b)).stop i H/\D.nx f H)\/((Itz (Itl K a) (Itl K b)).go i H/\∃N,(∀u H',N u H'->∃C,C<m/\W (i+1) C u H')/\∀v H',(Itz (Itl K a) (Itl K b)).yld i H v H'->g v f H' λq B=>tb { D with nx:=N,ct:=N,bk:=D.nx } q B):=by
 refine z4t j h0 (λi f H h p=>⟨?_,?_⟩) (λf H p=>?_) (λi v f H H' h p E=>?_) hd
 ·exact⟨xs,xs[i]'(by lia),(hl i f H p).1,by simp⟩
 ·exact⟨ys,ys[i]'(by lia),(hl i f H p).2,by simp⟩
 ·by_cases G:xs.length<=ys.length
  ·exact .inl ⟨xs,(hl _ f H p).1,by lia⟩
  ·exact .inr ⟨⟨xs,xs[min xs.length ys.length]'(by lia),(hl _ f H p).1,by simp⟩,ys,(hl _ f H p).2,by lia⟩
 ·obtain⟨T,I,J,L,⟨_,M⟩,⟨_,O⟩,rfl,rfl⟩:=E;exact hs i I J T f H (M xs (hl i f H p).1) (O ys (hl i f H p).2) p L
end
structure Cal (P) (w) (K) (mg) (base) (x) (k) (ps) (sp):Prop where
 ex:∃f fd,FnOk P w K mg base CX0 k f fd ps sp/\mg x=some (.ref f)/\Io K (.ref f)=true/\Binds K fd ps []
structure Df (K) (mg:Str->Option Value) (x) (st) (ps):Prop where
 ex:∃f fd,Fun K x x st f fd/\mg x=some (.ref f)/\Binds K fd ps []
def Df.cal{K}{st}(D:Df K mg x st ps)(S:FnScope N ps (defScope st))(len:∀vs H Q E,sp vs H Q E->vs.length=ps.length)(q:∀ f   j   A   outer   s   H   vs   Q   E ,Room k (A.deeper (Ku x (defScope st) s.heap.objs.size f j))->sp vs H Q E ->
   ∃t,PSs (cxOf CX0 P w K mg base N x (defScope st) f j A outer s H E).nox (defBody st) t/\t { nx:=λ_ H'=>Q .non H',rt:=Q } (start N vs) H):Cal P w K mg base x (k+1) ps sp:=by
 obtain⟨f,fd,F,u,v⟩:=D.ex;exact⟨f,fd,F.ok S len λj A outer s H vs Q E B h=>q f j A outer s H vs Q E B h,u,F.kp,v⟩
def Cal.imp{K}(C:Cal P w K mg base x k ps sp)(h:∀vs H Q E,sp' vs H Q E->sp vs H Q E):Cal P w K mg base x k ps sp':=by
 obtain⟨f,fd,F,r⟩:=C.ex;exact⟨f,fd,F.imp h,r⟩
section
variable{X:Cx}{x:Str}{k j:Nat}{ps:List Str}{sp:Sp}{p pos:Pos}{e:Expr}{es:List Expr}{t:TA}
def pe_c(C:Cal X.prog X.w X.K X.mg X.base x k ps sp)(u:Room j X.A)(ha:PA X (e::es) t)(hjk:k<=j:=by decide)(v:Gl X x:=by rfl)(h:(x==("__debug__" : Str))=false:=by decide)(B:Bp (e::es) X.env=(false,eval e X.env)::Bp es X.env:=by rfl)(q:(Gi pos (Bp es X.env)).any (·.1)=false:=by rfl):
  PE X (.Call (.Name x p) (e::es) [] pos) (tCall sp [] E0 t):=by
 obtain⟨f,fd,F,D,hk,E⟩:=C.ex;exact x4v F (u.mono hjk) v D hk E .nil pass0 ha h B q
def pe_c0(C:Cal X.prog X.w X.K X.mg X.base x k ps sp)(q:Room j X.A)(hjk:k<=j:=by decide)(u:Gl X x:=by rfl)(h:(x==("__debug__" : Str))=false:=by decide):
  PE X (.Call (.Name x p) [] [] pos) (tCall sp [] E0 tNil):=by
 obtain⟨f,fd,F,v,hk,B⟩:=C.ex;exact x1n F (q.mono hjk) u v hk B .nil pass0 h
end
def PI.or(q:PI X tg l w1)(u:PI X tg l w2):PI X tg l (λj H R=>w1 j H R\/w2 j H R):=by
 intro f s j H R I h;rcases h with h|h
 ·exact q f s j H R I h
 ·exact u f s j H R I h
structure FeedAt (H:Hp) (a b):Prop where
 fa:∃i j,H a=some (.lst [.ref b,.int i,.int j])
 fb:∃ns:List Int,H b=some (.lst (ns.map V.int))
structure Fd (a b) (H H':Hp):Prop where
 feed:FeedAt H' a b
 keep:∀c o,H c=some o->c≠a->H' c=some o
def FeedAt.ne(F:FeedAt H a b):b≠a:=by
 obtain⟨⟨i,j,h⟩,ns,f⟩:=F;refine x4o f h ?_;intro z;cases ns with
 |nil=>cases z
 |cons n r=>simp at z
def Fd.refl(F:FeedAt H a b):Fd a b H H:=⟨F,λ_ _ h _=>h⟩
def Fd.trans(x:Fd a b H H1)(y:Fd a b H1 H2):Fd a b H H2:=⟨y.feed,λc o h f=>y.keep c o (x.keep c o h f) f⟩
def Fd.free(x:Fd a b H H')(h:H' p=none):H p=none:=by
 cases e:H p with
 |none=>rfl
 |some o =>
  by_cases hp:p=a
  ·subst hp;obtain⟨i,j,q⟩:=x.feed.fa;rw[h] at q;cases q
  ·rw[x.keep p o e hp] at h;cases h
def FeedAt.upd(F:FeedAt H a b)(ha:a≠p)(f:b≠p):FeedAt (upd H p o) a b :=
 ⟨let ⟨i,j,h⟩:=F.fa;⟨i,j,by rw[q0d ha];exact h⟩,let ⟨ns,h⟩:=F.fb;⟨ns,by rw[q0d f];exact h⟩⟩
def FeedAt.na(F:FeedAt H a b)(h:H p=none):a≠p:=by obtain⟨i,j,q⟩:=F.fa;exact q0j q h
def FeedAt.nb(F:FeedAt H a b)(h:H p=none):b≠p:=by obtain⟨ns,q⟩:=F.fb;exact q0j q h
def Fd.put(x:Fd a b H H')(F:FeedAt H a b)(h:H p=none):Fd a b H (upd H' p o) :=
 ⟨x.feed.upd (F.na h) (F.nb h),λc u e f=>by rw[q0d (q0j e h)];exact x.keep c u e f⟩
def Fd.new(x:Fd a b H H')(h:H' p=none):Fd a b H (upd H' p o) :=
 ⟨x.feed.upd (x.feed.na h) (x.feed.nb h),λc u e f=>by rw[q0d (q0j (x.keep c u e f) h)];exact x.keep c u e f⟩
def Fd.at(x:Fd a b H H')(h:H c=some o)(f:c≠a):H' c=some o:=x.keep c o h f
def Fd.same(x:Fd a b H H')(s:Same H' H2):Fd a b H H2 :=
 ⟨⟨let ⟨i,j,h⟩:=x.feed.fa;⟨i,j,s _ _ h⟩,let ⟨ns,h⟩:=x.feed.fb;⟨ns,s _ _ h⟩⟩,λc o e f=>s _ _ (x.keep c o e f)⟩
def Same.new(s:Same H H')(h:H' p=none):Same H (upd H' p o):=λc u e=>by rw[q0d (q0j (s c u e) h)];exact s c u e
def Same.put(s:Same H H')(h:H p=none):Same H (upd H' p o):=λc u e=>by rw[q0d (q0j e h)];exact s c u e
noncomputable def spDraw:Sp:=λvs H Q _=>∃a b m,vs=[.ref a,.int m]/\FeedAt H a b/\0<m/\m<1073741824/\∀ r  H',0<=r->r<m->Fd a b H H'->Q (.int r) H'
noncomputable def spConst(x:Str):Sp:=λvs H Q _=>vs=[]/\Q (.str x) H
def x5c{xs:List α}(i)(h:xs≠[]):∃x,x∈xs/\atI xs (i%(xs.length:Int))=some x:=by
 have hl:0<(xs.length:Int):=by
  cases xs with
  |nil=>exact absurd rfl h
  |cons a r=>grind
 have f:=Nm i (show(xs.length:Int)≠0 by lia);have j:=Kx i hl;have hn:(i%(xs.length:Int)).toNat<xs.length:=by lia
 unfold atI ixN;rw[if_pos f,if_pos j];simp[hn]
def q8y{xs:List α}(h0:0<=i)(f:i<(xs.length:Int)):∃x,xs[i.toNat]?=some x/\atI xs i=some x:=by
 have hn:i.toNat<xs.length:=by lia
 unfold atI ixN;rw[if_pos h0,if_pos f];simp[hn]
mutual
inductive Dt (K : Al) (H : Hp) : V → Cs → Prop
  | non : Dt K H .non .none
  | bl (b : Bool) : Dt K H (.bl b) (.bool b)
  | int (i : Int) : Dt K H (.int i) (.int i)
  | str (x : Str) : Dt K H (.str x) (.str x)
  | lst {a : Addr} {xs : List V} {ds : List Cs} : SqL K H a xs → Dts K H xs ds → Dt K H (.ref a) (.list ds)
  | tup {a : Addr} {xs : List V} {ds : List Cs} : SqT K H a xs → Dts K H xs ds → Dt K H (.ref a) (.tuple ds)
inductive Dts (K : Al) (H : Hp) : List V → List Cs → Prop
  | nil : Dts K H [] []
  | cons {x : V} {xs : List V} {d : Cs} {ds : List Cs} : Dt K H x d → Dts K H xs ds → Dts K H (x :: xs) (d :: ds)
end
section
variable{X:Cx}{pins:List (Addr×Obj)}{σ:St}{H:Hp}{s:Ag}
def Dt.reads(I:Inv X pins σ H s)(h:Dt X.K H x d):RelV x u->∃as,Reads s.heap u d as:=by
 refine Dt.rec (motive_1:=λx d _=>∀{u:Value},RelV x u->∃as,Reads s.heap u d as) (motive_2:=λf j _=>∀{v:List Value},Vals f v->∃as,ReadsAll s.heap v j as) ?_ ?_ ?_ ?_ ?_ ?_ ?_ ?_ h
 ·intro u r;cases r;exact⟨_,.none⟩
 ·intro b u r;cases r;exact⟨_,.bool b⟩
 ·intro i u r;obtain⟨t,rfl⟩:=r;exact⟨_,.int i t⟩
 ·intro x u r;obtain⟨t,rfl⟩:=r;exact⟨_,.str x t⟩
 ·intro a f j q _ B u r;cases r;obtain⟨C,D,⟨o,n,e,c,_,d⟩,_⟩:=I.list q;obtain⟨as,h⟩:=B D;exact⟨_,.list e c d (by simpa using h)⟩
 ·intro a f j q _ B u r;cases r;obtain⟨C,D,⟨o,e,c,n,d⟩,_⟩:=I.tuple q;obtain⟨as,h⟩:=B D;exact⟨_,.tuple e c d (by simpa using h)⟩
 ·intro v r;cases r;exact⟨_,.nil⟩
 ·intro x f d j _ _ E G v r;cases r with
  |cons r rs =>
   obtain⟨as,h⟩:=E r;obtain⟨bs,J⟩:=G rs;exact⟨_,.cons h J⟩
end
section
variable{X:Cx}{k:Nat}
noncomputable def rEqD(K:Al):R2:=λx y H Q=>∃d e,Dt K H x d/\Dt K H y e/\d.canLay0=true/\e.canLay0=true/\min d.depth e.depth<=100/\Q (.bl (Fw d e)) H
noncomputable def rNeD(K:Al):R2:=λx y H Q=>∃d e,Dt K H x d/\Dt K H y e/\d.canLay0=true/\e.canLay0=true/\min d.depth e.depth<=100/\Q (.bl (!PyData.eqv d e)) H
def op_eqD(j:Room k X.A):OpR X (Cz .Eq) (rEqD X.K):=by
 intro f s M H x y v u Q I B C h;obtain⟨d,e,hd,D,E,G,O,q⟩:=h;obtain⟨P,J⟩:=hd.reads I B;obtain⟨bs,L⟩:=D.reads I C;have R:=j.un;exact SeqAt.rcAt_reads J L E G (by lia) X.prog X.w X.xe _ ⟨.bl _,H,I,rfl,q⟩
def op_neD(j:Room k X.A):OpR X (Cz .NotEq) (rNeD X.K):=by
 intro f s M H x y v u Q I B C h;obtain⟨d,e,hd,D,E,G,O,q⟩:=h;obtain⟨P,J⟩:=hd.reads I B;obtain⟨bs,L⟩:=D.reads I C;have R:=j.un;exact SeqAt.rcNeAt_reads J L E G (by lia) X.prog X.w X.xe _ ⟨.bl _,H,I,rfl,q⟩
noncomputable def rAddU:R2:=λx y H Q=>(∃i j,x=.int i/\y=.int j/\Q (.int (i+j)) H)\/(∃i j,x=.str i/\y=.str j/\i.length+j.length<=sizeLine/\Q (.str (i++j)) H)\/rCat x y H Q
def q1v:OpR X (Hd .Add) rAddU:=op_add.or (op_add_str.or op_cat)
noncomputable def rMulU:R2:=λx y H Q=>(∃i j,x=.int i/\y=.int j/\CMul i j/\Q (.int (i*j)) H)\/rMulS x y H Q\/rRep x y H Q
def z3j:OpR X (Hd .Mult) rMulU:=op_mul.or (op_mulS.or op_rep)
noncomputable def rEqU(K:Al):R2:=λx y H Q=>rEq x y H Q\/rEqD K x y H Q
def op_eqU(f:Room k X.A):OpR X (Cz .Eq) (rEqU X.K):=op_eq.or (op_eqD f)
noncomputable def rNeU(K:Al):R2:=λx y H Q=>rNe x y H Q\/rNeD K x y H Q
def op_neU(f:Room k X.A):OpR X (Cz .NotEq) (rNeU X.K):=op_ne.or (op_neD f)
noncomputable def rInU(K:Al):R2:=λx y H Q=>(∃i j,x=.str i/\y=.str j/\Q (.bl (!(Qp j i 0 j.length 1).isEmpty)) H)\/rIn K false x y H Q
def op_inU:OpR X (Cz .In) (rInU X.K):=op_in_str.or z7x
noncomputable def rSlU(K:Al):V->Option Int->Option Int->Hp->VK->Prop:=λx lo hi H Q=>rSlS x lo hi H Q\/rSlL K x lo hi H Q\/rSlT K x lo hi H Q
def sl_U:SlR X (rSlU X.K):=sl_str.or (sl_list.or x3p)
noncomputable def iAny(K:Al)(tl:TE):TI:=λσ H R=>tl σ H λx H1=>(∃a,x=.ref a/\(∃xs,SqL K H1 a xs)/\R (Itl K a) H1)\/(∃a,x=.ref a/\(∃xs,SqT K H1 a xs)/\R (Itt K a) H1)\/∃z,x=.str z/\R (Its z) H1
def pi_any(hl:PE X l tl):PI X tg l (iAny X.K tl):=by
 intro j s J H R I h;refine thnE (hl j s J H _ I h) λv f x B u E L=>?_;have D:∀b∈[f.heap.objs.size],FpOk X j B b:=λb Q=>by
  have e:b=f.heap.objs.size:=by grind
  subst e;exact u.fpOk (Aq _) (u.hok.fresh (Aq _))
 rcases L with⟨a,e,⟨M,G⟩,q⟩|⟨a,e,⟨M,G⟩,q⟩|⟨z,e,q⟩
 ·subst e;cases E;obtain⟨C,O,p,P⟩:=u.list G;exact Ls p.isList ⟨f.heap.objs.size,[f.heap.objs.size],_,_,B,rfl,u.kept (t':=f.toks) λb o e=>Ai _ e,z7k a _,⟨_,As _ rfl,rfl,rfl⟩,D,q⟩
 ·subst e;cases E;obtain⟨C,O,p,P⟩:=u.tuple G;exact wpAny_pyIter_tuple (show f.heap.IsTuple a C.toArray from p) ⟨f.heap.objs.size,[f.heap.objs.size],_,_,B,rfl,u.kept (t':=f.toks) λb o e=>Ai _ e,z5v a _,⟨_,As _ rfl,rfl,rfl⟩,D,q⟩
 ·subst e;obtain⟨t,rfl⟩:=E;cases ha:z.cps.all (· < 128)
  ·exact wpAny_pyIter_wide ha ⟨f.heap.objs.size,[f.heap.objs.size],_,_,B,rfl,u.kept (t':=f.toks) λb o e=>Ai _ e,z8c _ z t,⟨Bv _,_,As _ rfl,rfl,rfl⟩,D,q⟩
  ·exact wpAny_pyIter_ascii ha ⟨f.heap.objs.size,[f.heap.objs.size],_,_,B,rfl,u.kept (t':=f.toks) λb o e=>Ai _ e,z8b _ z t,⟨Bv _,_,As _ rfl,rfl,rfl⟩,D,q⟩
noncomputable def iZip(K:Al)(ta:TA):TI:=λσ H R=>iZipS ta σ H R\/iZipL K ta σ H R
def pi_zip{f}{B}{h}{p q}(u:Gl X "zip")(v:X.mg "zip" = none)(ha:PA X [a,b] ta)(hs:Bp [a,b] X.env=[(false,eval a X.env),(false,eval b X.env)]:=by rfl)(j:Bp [b] X.env=[(false,eval b X.env)]:=by rfl):
  PI X (.Tuple f B h) (.Call (.Name "zip" p) [a,b] [] q) (iZip X.K ta):=(x5a u v ha hs j).or (x5b u v ha hs j)
end
section
variable{X:Cx}{a b o e l:Expr}{es:List Expr}{ta tb to te tl:TE}{t:TA}{pos p2 apos cpos:Pos}{k:Nat}{name:Str}{T idn:String}{r:V->List V->Hp->VK->Prop}
def ix_k(K)(f:X.K=K):IxR X (rIx K):=by subst f;exact ix_seq
def q3l(K)(f:X.K=K):CallR X (.builtin "len") (λxs H Q=>∃x n,xs=[x]/\LenV K x H n/\Q (.int n) H):=by subst f;exact x1k
def eq_k(K)(f:X.K=K)(h:Room k X.A):OpR X (Cz .Eq) (rEqU K):=by subst f;exact op_eqU h
def ne_k(K)(f:X.K=K)(h:Room k X.A):OpR X (Cz .NotEq) (rNeU K):=by subst f;exact op_neU h
def in_k(K)(f:X.K=K):OpR X (Cz .In) (rInU K):=by subst f;exact op_inU
def sl_k(K)(f:X.K=K):SlR X (rSlU K):=by subst f;exact sl_U
def q3b(K)(h:X.K=K)(hl:PE X l tl):PI X f l (iAny K tl):=by subst h;exact pi_any hl
def zip_k{f}{q}{h}{p}(K)(u:X.K=K)(v:Gl X "zip")(B:X.mg "zip" = none)(ha:PA X [a,b] t)(hs:Bp [a,b] X.env=[(false,eval a X.env),(false,eval b X.env)]:=by rfl)(j:Bp [b] X.env=[(false,eval b X.env)]:=by rfl):
  PI X (.Tuple f q h) (.Call (.Name "zip" p) [a,b] [] pos) (iZip K t):=by subst u;exact pi_zip v B ha hs j
def all_k(K)(f:X.K=K)(h:X.calm=true):CallR X (.builtin "all") (λxs H Q=>∃(p:Addr) (bs:List Bool),xs=[.ref p]/\SqL K H p (bs.map V.bl)/\Q (.bl (bs.all id)) H):=by subst f;exact x1u h
def x3s(K)(f:X.K=K):CallR X (.type "list") (λxs H Q=>∃p ys,xs=[.ref p]/\(SqL K H p ys\/SqT K H p ys)/\∀l,H l=none->Q (.ref l) (upd H l (.lst ys))):=by subst f;exact z1i
def x3t(K)(f:X.K=K):MtM X "str.join" (rJoin K):=by subst f;exact x4z
def q2h{j n}(K)(q:X.K=K)(v:X.calm=true)(h:PGs X es u)(hn:(Jx es X.env).length=n:=by rfl)(f:(Jx es X.env).findIdx? (·.1)=none:=by rfl):PG X (.Tuple es j pos) (gTup K n u):=by subst q;exact pg_tup v h hn f
def bm_k(K)(v:X.K=K)(B:Tb T)(slot:Slot T name idn)(u:typeOf (.builtin idn)=pure (.type "method_descriptor"))(C:MtR X idn r)(ho:PE X o to)(ha:PA X (e::es) t)(h:Gw o name X.env (eval o X.env)=eval o X.env:=by rfl)(q:((Gi cpos (Bp (e::es) X.env)).all (λx => !x.1)&&(Mo cpos (Jh [] X.env)).all (λx=>x.1.isSome)
   && decide ((e::es).length+([]:List Oh).length+(if ([]:List Oh).isEmpty then 0 else 1)<30))=true:=by rfl)(j:(apos.endLine==cpos.line)=true:=by rfl)(hs:Bp (e::es) X.env=(false,eval e X.env)::Bp es X.env:=by rfl)(f:(Gi cpos (Bp es X.env)).any (·.1)=false:=by rfl):
  PE X (.Call (.Attribute o name apos) (e::es) [] cpos) (tBM K T r to t):=by subst v;exact pe_bm B slot u C ho ha h q j hs f
def z1o(K)(q:X.K=K)(u:Tb T)(slot:Slot T name idn)(j:typeOf (.builtin idn)=pure (.type "method_descriptor"))(v:MtR X idn r)(ho:PE X o to)(f:Gw o name X.env (eval o X.env)=eval o X.env:=by rfl)(h:(apos.endLine==cpos.line)=true:=by rfl):PE X (.Call (.Attribute o name apos) [] [] cpos) (tBM0 K T r to):=by subst q;exact pe_bm0 u slot j v ho f h
def q7u(K)(h:X.K=K)(ha:PE X a ta)(j:∀f,isTrue a X.env f=(do let v<-f;Pw a.pos;Lg [v] (truthy v))):
  PT X a (λq H Q=>ta q H λx H'=>∃k,TruV K x H' k/\Q k H'):=by subst h;exact x1j ha j
end
def z3k{r:St}{Fin}(f:Nat->List V->Hp->Prop)(h0:f 0 [] (upd H1 D (.lst [])))(hl:∀i ys H,f i ys H->H D=some (.lst ys))(hs:∀i ys H,i<n->f i ys H->te (some (.int (q+i))::r) H λv j=>j D=some (.lst ys)/\ys.length<sizeLine/\f (i+1) (ys++[v]) (upd j D (.lst (ys++[v]))))(hd:∀ys H,f n ys H->Fin ys H):CompW (Itr q n) (gName 0) tIf0 te (none::r) D Fin H1 :=
 z6h f h0 hl (λi ys H h p=>(⟨q1d,iteT (hs i ys H h p)⟩:Keeps0 (none::r) (some (.int (q+i))::r)/\if true=true then te (some (.int (q+i))::r) H λv j=>j D=some (.lst ys)/\ys.length<sizeLine/\f (i+1) (ys++[v]) (upd j D (.lst (ys++[v]))) else f (i+1) ys H)) hd
def z8f{r:St}{Fin}(f:Nat->List V->Hp->Prop)(h0:f 0 [] (upd H1 D (.lst [])))(hl:∀i ys H,f i ys H->H D=some (.lst ys))(hs:∀i ys H c,z.cps[i]?=some c->f i ys H->te (some (.str ⟨#[c]⟩)::r) H λv j=>j D=some (.lst ys)/\ys.length<sizeLine/\f (i+1) (ys++[v]) (upd j D (.lst (ys++[v]))))(hd:∀ys H,f z.length ys H->Fin ys H):CompW (Its z) (gName 0) tIf0 te (none::r) D Fin H1 :=
 x1v f h0 hl (λi ys H c h p=>(⟨q1d,iteT (hs i ys H c h p)⟩:Keeps0 (none::r) (some (.str ⟨#[c]⟩)::r)/\if true=true then te (some (.str ⟨#[c]⟩)::r) H λv j=>j D=some (.lst ys)/\ys.length<sizeLine/\f (i+1) (ys++[v]) (upd j D (.lst (ys++[v]))) else f (i+1) ys H)) hd
def q8z{K}{r:St}{Fin}(f:Nat->List V->Hp->Prop)(h0:f 0 [] (upd H1 D (.lst [])))(hl:∀i ys H,f i ys H->H D=some (.lst ys)/\SqL K H a xs)(hs:∀i ys H x,xs[i]?=some x->f i ys H->te (some x::r) H λv j=>j D=some (.lst ys)/\ys.length<sizeLine/\f (i+1) (ys++[v]) (upd j D (.lst (ys++[v]))))(hd:∀ys H,f xs.length ys H->Fin ys H):CompW (Itl K a) (gName 0) tIf0 te (none::r) D Fin H1 :=
 q2g f h0 hl (λi ys H x h p=>(⟨q1d,iteT (hs i ys H x h p)⟩:Keeps0 (none::r) (some x::r)/\if true=true then te (some x::r) H λv j=>j D=some (.lst ys)/\ys.length<sizeLine/\f (i+1) (ys++[v]) (upd j D (.lst (ys++[v]))) else f (i+1) ys H)) hd
noncomputable def tSeqJ(t u:TS):TS:=λD σ H=>∃J,(∀σ' H',J σ' H'->u D σ' H')/\t { D with nx:=J } σ H
def q3e{st}{rest}(E:PS X st t)(G:PSs X rest u):PSs X (st::rest) (tSeqJ t u):=by
 intro j s L H D I h;obtain⟨J,M,h⟩:=h;refine Qa (thn (E j s L H { D with nx:=J } I h) λf O q=>?_);cases f with
 |next =>
  obtain⟨B,C,P,q⟩:=q;exact G j O B C D P (M B C q)
 |ret v=>exact q
 |brk=>exact q
 |cont=>exact q
noncomputable def tVJ(t:TE):TE:=λσ H Q=>∃J,(∀v H',J v H'->Q v H')/\t σ H J
def pe_j(h:PE X e t):PE X e (tVJ t):=by
 intro f s C H Q I j;obtain⟨J,D,j⟩:=j;exact thnE (h f s C H J I j) λu G v B E r q=>⟨v,B,E,r,D v B q⟩
noncomputable def tTJ(t:TT):TT:=λσ H Q=>∃J,(∀b H',J b H'->Q b H')/\t σ H J
def pt_j(h:PT X e t):PT X e (tTJ t):=by
 intro f s B H Q I j;obtain⟨J,C,j⟩:=j;exact thnT (h f s B H J I j) λu E v D q=>⟨v,D,C u v q⟩
def iteB{B:Prop}(f:c=true->A)(h:c=false->B):if c=true then A else B:=by grind
end L2
namespace TX
open PySem PySem.Spec PyProof.Rows L2
noncomputable abbrev tl(x:Str):List Nat:=x.cps.toList
noncomputable abbrev mk(l:List Nat):Str:=⟨l.toArray⟩
def q3w(l):tl (mk l)=l:=by simp[tl,mk]
def z8g(x):mk (tl x)=x:=by simp[tl,mk]
def ext(h:tl x=tl y):x=y:=ext_toList h
def len(x):x.length=(tl x).length:=by simp[tl,Str.length]
def z8h(x y):tl (x++y)=tl x++tl y:=by
 show(x.cps++y.cps).toList=_;simp[tl]
def get{i:Nat}(h:x.cps[i]?=some c):(tl x)[i]?=some c:=by simpa[tl] using h
def x5d(z)(f):Vr z f=Str.join z f:=StrLaws.glued_eq_join z f
def x5e:∀f,tl (Vr (Ar "") f)=(f.map tl).flatten:=by
 intro f;rw[x5d];induction f with
 |nil=>rfl
 |cons a r ih =>
  cases r with
  |nil=>simp[Str.join]
  |cons b r =>
   show tl (a++Ar "" ++ Str.join (Ar "") (b::r))=_;rw[z8h,z8h,ih];have e:tl (Ar "")=[]:=by trivial
   rw[e];simp
def z1p(f):Vr (Ar "") (f.map λc=>(⟨#[c]⟩:Str))=mk f:=by
 apply ext;rw[x5e,q3w,Ah];induction f with
 |nil=>rfl
 |cons c r ih=>rw[Ay,Pj,ih];rfl
def z4u(f:List Nat):((f.map λc=>(⟨#[c]⟩:Str)).map (·.length)).sum=f.length:=by
 induction f with
 |nil=>rfl
 |cons c r ih=>rw[Ay,Ay,List.sum_cons,ih,Cj];show 1+_=_;lia
def lower(h:∀c∈tl x,c<128):tl (Txt.lower x)=(tl x).map lo1:=by
 rw[lower_ascii h];simp[tl]
def small(h:n<=1000000):n<=sizeLine:=by rw[Ey];lia
def small'(h:n<=1000000):n<sizeLine:=by rw[Ey];lia
end TX
namespace L2
open PySem PySem.Spec PyProof.Rows TX
noncomputable def spText:Sp:=λvs H Q _=>∃a b g n,vs=[.ref a,.str g,.int n]/\FeedAt H a b/\0<g.length/\g.length<=1000/\0<=n/\n<=1000 /\
 ∀ t  H',t.length=n.toNat->(∀c∈t,c∈tl g)->Fd a b H H'->Q (.str (mk t)) H'
section
variable{prog:Aw}{w:World}{K:Al}{A:Around}{E:Value->Ag->Prop}{s:Ag}{J:It}{st:Nat->Heap->Prop}{e it:Addr}{H:Hp}
def z6i{i:Nat}{Q:Value->Ag->Prop}(S:Srce prog w K J it st)(hh:A.handled=none)(vw:Vw K H s.heap)(nH:H it=none)(nK:K.lookup it=none)(he:IsEnum s.heap e it i old)(a6:st i s.heap)(go:J.go i H)(P:e≠it)(hQ:∀u x h' tk,RelV x u->J.yld i H x H->IsEnumOut h' e it ((i)+1) u s.heap.objs.size->st (i+1) h'->h'.get? s.heap.objs.size=some { cls:=.type "tuple",data:=.seq #[.int i tk,u] }->h'.objs.size=s.heap.objs.size+1 ->
   (∀b o,b≠e->b≠it->s.heap.get? b=some o->h'.get? b=some o)->Q (.ref s.heap.objs.size) { s with heap:=h',toks:=tk+1 }):
  wpAny (model prog w) A (Dk.«enumerate.__next__» ⟨[.ref e],[]⟩) (λfin s'=>∃v,fin=.done (.ret v)/\Q v s') E s:=by
 obtain⟨hp,g,d,a7,os⟩:=s;show wpAny _ _ (field (.ref e) 2 >>= _) _ _ _;refine Ab (Cm he rfl rfl ?_);refine Ab (S.item _ i _ H _ _ hh vw nH nK a6 go λu x a9 tk rx yx T j=>?_);have q:=(j.2 e P).trans he;refine Ab (Cm q rfl rfl ?_);refine Ab (Cm q rfl rfl ?_);refine Ab (wpAny_mkInt ?_);refine Ab (Dd q (by simp) λb0 U B=>?_);refine Ab (Dd U (by simp) λG W C=>?_);refine Ab (Oi ?_);have f:IsEnum (G.push { cls:=.type "tuple",data:=.seq #[.int i tk,u] }) e it ((i:Int)+1) old:=Ai _ W;generalize h:G.push { cls:=.type "tuple",data:=.seq #[.int i tk,u] }=D at f;have X:G.objs.size=hp.objs.size:=by rw[C.1,B.1,j.1]
 have a8:=Ax he;have Y:D.get? hp.objs.size=some { cls:=.type "tuple",data:=.seq #[.int i tk,u] }:=by rw[<- h,<- X];exact As _ rfl
 have Z:D.objs.size=hp.objs.size+1:=by rw[<- h,Fv,X]
 have a0:∀b o,b≠e->b≠it->hp.get? b=some o->D.get? b=some o:=λb o I a1 hb=>by
  rw[<- h];exact Ai _ (C.extBut b o I (B.extBut b o I (j.extBut b o a1 hb)))
 have R:st (i+1) D:=S.keep _ _ _ T λo y=>by
  rw[<- h];exact Ai _ (C.extBut it o P.symm (B.extBut it o P.symm y))
 rw[X];refine Ab ?_;refine Ab (Cm f rfl rfl (Ad ?_));refine Ab (Gk ?_);refine Ab (Cm f rfl rfl ?_);refine Ab (Dd f (by simp) λb1 a2 L=>?_);refine Ab ?_;refine Ab (Dd a2 (by simp) λb2 a3 M=>?_);refine Dd a3 (by simp) λa5 a4 O=>?_;have up:=λb o hb y=>O.extBut b o hb (M.extBut b o hb (L.extBut b o hb y));refine Ab (Gq (Ad ⟨_,rfl,hQ u x a5 tk rx yx a4 (S.keep _ _ _ R λo y=>up _ o P.symm y) (up _ _ (Ew a8) Y) ?_ λb o I a1 hb=>up b o I (a0 b o I a1 hb)⟩));rw[O.1,M.1,L.1,Z]
end
noncomputable def Ite(J:It):It:=⟨λi H=>J.go i H,λi H x H'=>∃T y,H T=none/\J.yld i H y H/\x=.ref T/\H'=upd H T (.tup [.int i,y]),λi H=>J.stop i H⟩
def z8i{K:Al}{st:Nat->Heap->Prop}(D:e≠it)(S:Srce P w K J it st):
  Turn P w K (.Tuple elts kk pos) (Ite J) [e,it] e (λi h=>(∃old,IsEnum h e it i old)/\st i h) where
 mem:=by simp
 obj:=λi h hs b L=>by
  obtain⟨⟨old,j⟩,v⟩:=hs;simp only[Bb,Ea,or_false] at L;rcases L with rfl|rfl
  ·grind
  ·exact S.obj i h v
 keep:=λi h h' hs k=>by
  obtain⟨⟨old,j⟩,v⟩:=hs;exact⟨⟨old,k e (by simp) _ j⟩,S.keep _ _ _ v λo y=>k it (by simp) o y⟩
 item:=by
  intro X O Q R T i q s U H E I B hs W;subst O Q R;obtain⟨⟨old,j⟩,v⟩:=hs;have G:s.TypeIs (.ref e) "enumerate" := ⟨_,j,rfl⟩
  refine Ab (Ek (Ca G Jr
   (Bw Jr G Rm
    (z6i S (I.ok.hd T) I.vw (B it (by simp)).1 ((B it (by simp)).noK I) j v W D λu x h' tk rx yx a1 a2 a3 a4 a5=>Ad ?_) (Qq _))))
  refine⟨_,rfl,?_⟩;refine wpAny_letOwnedTupleGo_enum a1 λM Y C=>?_;have k2:∀c o,c∉[e,it]->s.heap.get? c=some o->M.get? c=some o:=λc o f y=>by
   simp only[Bb,Ea,or_false,not_or] at f;exact C.extBut _ _ f.1 (a5 c o f.1 f.2 y)
  have Z:=Ax j;have b0:it<s.heap.objs.size:=by obtain⟨o,y,_⟩:=S.obj _ _ v;exact Ax y
  have I1:Inv X q U H { s with heap:=M,toks:=tk+1 }:=I.turnedL k2 B;have FT:=I.fpOk (Aq _) I.fresh;have a0:M.get? s.heap.objs.size=some { cls:=.type "tuple",data:=.seq #[.int i tk,u] }:=C.extBut _ _ (Ew Z) a3;have I2:Inv X q U (upd H s.heap.objs.size (.tup [.int i,x])) { s with heap:=M,toks:=tk+1 } :=
   I1.track I.sz FT ⟨by show 2<=sizeLine;decide,[.int i tk,u],.cons ⟨_,rfl⟩ (.cons rx .nil),⟨_,a0,rfl,_,rfl⟩⟩
  refine⟨.ref s.heap.objs.size,_,I2,rfl,⟨_,x,I.fresh,yx,rfl,rfl⟩,⟨⟨u,by simpa using Y⟩,S.keep _ _ _ a2 λo y=>C.extBut _ _ D.symm y⟩,λb L=>?_⟩;have a6:=(B b L).1;rw[q0d]
  ·exact a6
  ·grind
 done:=by
  intro X O Q R T i q s U H E I B hs W;subst O Q R;obtain⟨⟨old,j⟩,v⟩:=hs;have G:s.TypeIs (.ref e) "enumerate" := ⟨_,j,rfl⟩
  refine Ab (Ek (Ca G Jr
   (Bw Jr G Rm ?_ (Qq _))))
  show wpAny _ _ (field (.ref e) 2 >>= _) _ _ _;refine Ab (Cm j rfl rfl ?_);refine Ab (S.done _ i _ H _ _ (I.ok.hd T) I.vw (B it (by simp)).1 ((B it (by simp)).noK I) v W λh' x a7 a8=>?_);obtain⟨o,ho,a9⟩:=a8;refine Ab (Fn ⟨o,ho,a9⟩ Jq ?_);refine Ad ⟨rfl,I.turnedL (t':=s.toks) (λc o f y=>?_) B⟩;simp only[Bb,Ea,or_false,not_or] at f;exact a7 c o f.2 y
 self:=λ_ _ _ _ _ hs h=>by
  obtain⟨⟨old,j⟩,_⟩:=hs;exact Uy j h
section
variable{X:Cx}{elts:List Expr}{kk:Nat}{tpos:Pos}
def z1q{f:St}{st}(I:Inv X pins f H s)(S:Srce X.prog X.w X.K J s.heap.objs.size st)(h:IsEnum h' (s.heap.objs.size+1) s.heap.objs.size 0 .none)(u:st 0 h')(hk:∀c o,s.heap.get? c=some o->h'.get? c=some o)(q:R (Ite J) H):
  wpAny (model X.prog X.w) X.A (Kb (.ref (s.heap.objs.size+1))) (PIE X pins f (.Tuple elts kk tpos) R) E { s with heap:=h' }:=by
 refine Uy h ?_;refine⟨_,_,_,_,H,rfl,I.kept (t':=s.toks) hk,z8i (show(s.heap.objs.size+1:Nat)≠s.heap.objs.size by lia) S,⟨⟨_,h⟩,u⟩,λb j=>?_,q⟩;have hb':s.heap.objs.size<=b:=by
  simp only[Bb,Ea,or_false] at j;rcases j with rfl|rfl
  ·exact Hh _
  ·exact Aq _
 exact I.fpOk hb' (I.hok.fresh hb')
noncomputable def iEnum(K:Al)(ta:TA):TI:=λσ H R=>ta σ H λvs H1=>(∃z,vs=[.str z]/\R (Ite (Its z)) H1)\/∃a xs,vs=[.ref a]/\SqL K H1 a xs/\R (Ite (Itl K a)) H1
def x5f(D:Gl X "enumerate")(E:X.mg "enumerate" = none)(ha:PA X [a] ta)(hs:Bp [a] X.env=[(false,eval a X.env)]:=by rfl):
  PI X (.Tuple elts kk tpos) (.Call (.Name "enumerate" p) [a] [] pos) (iEnum X.K ta):=by
 intro f s G H R I h;refine Call_ (q7j I D E (by decide +kernel:Hj "enumerate" = some (.type "enumerate")) (Es (thn (ha pos f s G H _ I h) λS T J=>?_) hs rfl));obtain⟨vs,U,j,C,L⟩:=J;rcases L with⟨z,e,q⟩|⟨l,W,e,M,q⟩
 ·subst e;obtain⟨u,rfl,t,rfl⟩:=vals1 C;exact call_enumerate_str λO v B P hk=>z1q j (z0c _ z t) v B hk q
 ·subst e;obtain⟨u,rfl,r⟩:=vals1 C;cases r;obtain⟨Q,Y,pl,_⟩:=j.list M;exact call_enumerate_list pl.isList λO v B P hk=>z1q j (q7t l _) v B hk q
def z4v(K)(j:X.K=K)(q:Gl X "enumerate")(u:X.mg "enumerate" = none)(ha:PA X [a] h)(hs:Bp [a] X.env=[(false,eval a X.env)]:=by rfl):
  PI X (.Tuple elts kk tpos) (.Call (.Name "enumerate" p) [a] [] f) (iEnum K h):=by subst j;exact x5f q u ha hs
end
end L2
namespace K
open PySem L2 TX
noncomputable def NSs:Str:=Ar "abcdefghijklmnopqrstuvwxyzABCDEFGHIJKLMNOPQRSTUVWXYZ0123456789-_."
noncomputable def GSs:Str:=Ar "?*#@"
noncomputable abbrev NS:List Nat:=tl NSs
noncomputable abbrev GS:List Nat:=tl GSs
inductive Pt where
 |tx (l:List Nat)
 |gp (c:Nat)
namespace Pt
noncomputable def fl:Pt->List Nat
 |tx l=>l
 |gp c=>[c]
noncomputable def isG:Pt->Bool
 |tx _=>false
 |gp _=>true
noncomputable def ok:Pt->Prop
 |tx l=>l≠[]/\∀c∈l,c∈NS
 |gp c=>c∈GS
noncomputable def word:Pt->Str
 |tx _=>Ar "text"
 |gp _=>Ar "gap"
noncomputable def vs(p:Pt):List V:=[.str p.word,.str (mk p.fl)]
noncomputable def dat(p:Pt):Cs:=.tuple [.str p.word,.str (mk p.fl)]
end Pt
noncomputable def flat(ps:List Pt):List Nat:=(ps.map Pt.fl).flatten
noncomputable def tp(t:List Nat):List Pt:=if t=[] then[] else[.tx t]
end K
namespace L2
open PySem PySem.Spec PyProof.Rows
section
variable{κ:Type}[DecidableEq κ]
noncomputable def valV(kvs:List (κ×V))(k:κ):Option V:=(kvs.find? λkv=>decide (kv.1=k)).map (·.2)
noncomputable def putK(kvs:List (κ×V))(k:κ)(v:V):List (κ×V) :=
 if (kvs.any λkv=>decide (kv.1=k))=true then kvs.map (λkv=>if kv.1=k then(kv.1,v) else kv) else kvs++[(k,v)]
def q1y{p:κ×V}(e:p.1=k):valV (p::r) k=some p.2:=by simp[valV,Hu,e]
def q1u{p:κ×V}(e:¬p.1=k):valV (p::r) k=valV r k:=by simp[valV,Hu,e]
theorem q5o(k:κ):∀f,(f.any λh=>decide (h.1=k))=(valV f k).isSome
 |[]=>rfl
 |p::r=>by
  rw[Pa];by_cases e:p.1=k
  ·simp only[q1y e,decide_eq_true e,Bool.true_or,Option.isSome_some]
  ·rw[q1u e,decide_eq_false e,Bool.false_or];exact q5o k r
theorem z4w(k j:κ)(y):∀f,valV (f.map λq=>if q.1=k then(q.1,y) else q) j=(valV f j).map λx=>if j=k then y else x
 |[]=>rfl
 |p::r=>by
  have u:=z4w k j y r;rw[Ay];by_cases h:p.1=k
  ·rw[if_pos h];by_cases e:p.1=j
   ·rw[q1y (p:=(p.1,y)) e,q1y e,Km,if_pos (e.symm.trans h)]
   ·rw[q1u (p:=(p.1,y)) e,q1u e,u]
  ·rw[if_neg h];by_cases e:p.1=j
   ·rw[q1y e,q1y e,Km,if_neg (λz=>h (e.trans z))]
   ·rw[q1u e,q1u e,u]
theorem z1r(k j:κ)(y):∀f,valV f k=none->valV (f++[(k,y)]) j=if j=k then some y else valV f j
 |[],_=>by
  by_cases e:k=j
  ·rw[if_pos e.symm];exact q1y (p:=(k,y)) e
  ·rw[if_neg (λz=>e z.symm)];exact q1u (p:=(k,y)) e
 |p::r,hn=>by
  rw[List.cons_append];have hk:¬p.1=k:=λz=>by rw[q1y z] at hn;cases hn
  rw[q1u hk] at hn;have h:=z1r k j y r hn;by_cases e:p.1=j
  ·rw[q1y e,q1y e,if_neg (λz=>hk (e.trans z))]
  ·rw[q1u e,q1u e,h]
def x1z(f:List (κ×V))(k j)(y):valV (putK f k y) j=if j=k then some y else valV f j:=by
 unfold putK;by_cases a:(f.any λh=>decide (h.1=k))=true
 ·rw[if_pos a,z4w];rw[q5o] at a;by_cases e:j=k
  ·obtain⟨x,u⟩:=Qc.mp a;rw[if_pos e,e,u,Km,if_pos rfl]
  ·simp_all
 ·rw[if_neg a];refine z1r k j y f ?_;rw[q5o] at a;cases q:valV f k with
  |none=>rfl
  |some x=>grind
def q3f(f:List (κ×V))(k)(v):(putK f k v).length<=f.length+1:=by
 unfold putK;split
 ·grind
 ·grind
def x2a{f:List (κ×V)}(v)(h:valV f k=none):putK f k v=f++[(k,v)]:=by
 unfold putK;rw[q5o,h];exact if_neg (by decide)
def RelO.isSome_eq(r:RelO o u):o.isSome=u.isSome:=by
 cases o with
 |none=>cases u with
  |none=>rfl
  |some _=>exact(show False from r).elim
 |some _=>cases u with
  |none=>exact(show False from r).elim
  |some _=>rfl
def RelO.getD(r:RelO o u)(rd:RelV d d'):RelV (o.getD d) (u.getD d'):=by
 cases o with
 |none=>cases u with
  |none=>exact rd
  |some _=>exact(show False from r).elim
 |some _=>cases u with
  |none=>exact(show False from r).elim
  |some _=>exact r
def KV.val(r:KV kvs vs)(k:κ):RelO (valV kvs k) (valueAt vs k):=by
 induction r with
 |nil=>exact True.intro
 | @cons p q ps qs h t ih =>
  obtain⟨f,j⟩:=h;by_cases e:p.1=k
  ·have e':q.1=k:=f.symm.trans e;have b:valueAt (q::qs) k=some q.2:=by simp[valueAt,Hu,e']
   rw[q1y e,b];exact j
  ·have e':¬q.1=k:=λz=>e (f.trans z);have b:valueAt (q::qs) k=valueAt qs k:=by simp[valueAt,Hu,e']
   rw[q1u e,b];exact ih
def KV.any(r:KV kvs vs)(k:κ):(kvs.any λf=>decide (f.1=k))=vs.any λf=>decide (f.1=k):=by
 induction r with
 |nil=>rfl
 |cons h t ih=>simp_all
def KV.repl(r:KV kvs vs)(k:κ)(j:RelV y u):
  KV (kvs.map λf=>if f.1=k then(f.1,y) else f) (vs.map λf=>if f.1=k then(f.1,u) else f):=by
 induction r with
 |nil=>exact .nil
 | @cons p q ps qs h t ih =>
  refine .cons ?_ ih;by_cases e:p.1=k
  ·simp_all
  ·simp_all
def KV.put(r:KV kvs vs)(k:κ)(f:RelV y u):KV (putK kvs k y) (stored vs k u):=by
 unfold putK stored;rw[r.any k];by_cases e:(vs.any λh=>decide (h.1=k))=true
 ·rw[if_pos e,if_pos e];exact r.repl k f
 ·rw[if_neg e,if_neg e];exact Er.snoc r ⟨rfl,f⟩
def KV.length{f:List (κ×V)}(r:KV f vs):f.length=vs.length:=Eu r
end
def z1s(r:RelV (kV k) u):(mixKind P w).is k u=true:=by
 cases k with
 |inl i=>obtain⟨t,e⟩:=(show ∃t,u=Value.int i t from r);subst e;exact z3c P w i t
 |inr x=>obtain⟨t,e⟩:=(show ∃t,u=Value.str x t from r);subst e;exact z3d P w x t
theorem z1t:∀{ks} {us},Vals (ks.map kV) us->ItemsAre (mixKind P w) ks us
 |[],_,r=>by rw[List.map_nil] at r;cases r;exact .nil
 |k::ks,_,r=>by
  rw[Ay] at r;cases r with
  |cons h t=>exact .cons (z1s h) (z1t t)
noncomputable abbrev KT(H:Hp):List (List Key×V)->List (List Key×Addr×Value)->Prop:=Er λp q=>p.1=q.1/\H q.2.1=some (.tup (p.1.map kV))/\RelV p.2 q.2.2
def KT.val(r:KT H kvs xs)(k):RelO (valV kvs k) ((atKey xs k).map (·.2)):=by
 induction r with
 |nil=>exact True.intro
 | @cons p q ps qs h t ih =>
  obtain⟨f,_,j⟩:=h;by_cases e:p.1=k
  ·have e':q.1=k:=f.symm.trans e;have b:atKey (q::qs) k=some q.2:=by simp[atKey,Hu,e']
   rw[q1y e,b];exact j
  ·have e':¬q.1=k:=λz=>e (f.trans z);have b:atKey (q::qs) k=atKey qs k:=by simp[atKey,Hu,e']
   rw[q1u e,b];exact ih
def KT.repl(r:KT H kvs xs)(k)(j:RelV y u):
  KT H (kvs.map λf=>if f.1=k then(f.1,y) else f) (xs.map (putAt k u)):=by
 induction r with
 |nil=>exact .nil
 | @cons p q ps qs h t ih =>
  refine .cons ?_ ih;unfold putAt;by_cases e:p.1=k
  ·simp_all
  ·simp_all
def KT.put(r:KT H kvs xs)(k)(h:H b=some (.tup (k.map kV)))(f:RelV y u):
  KT H (putK kvs k y) (storedH xs k b u):=by
 have e:(kvs.any λj=>decide (j.1=k))=(atKey xs k).isSome:=by
  rw[q5o,(r.val k).isSome_eq,Lu]
 unfold putK storedH;rw[e];by_cases q:(atKey xs k).isSome=true
 ·rw[if_pos q,if_pos q];exact r.repl k f
 ·rw[if_neg q,if_neg q];exact Er.snoc r ⟨rfl,h,f⟩
def KT.keeps(r:KT H kvs xs)(f:∀b ys,H b=some (.tup ys)->H' b=some (.tup ys)):KT H' kvs xs :=
 Er.mapP r λ_ _ z=>⟨z.1,f _ _ z.2.1,z.2.2⟩
section
variable{P:Aw}{w:World}{H:Hp}{h:Heap}{a:Addr}
def rd_of(ok:HOk P w H h)(e:Rd H a u):ObjOk P w H h a u:=e.ok ok
def z1u(ok:HOk P w H h)(e:Rd H a (.dK kvs)):kvs.length<=sizeLine/\(a==Eh)=false/\∃vs,KV kvs vs/\h.DictOf (mixKind P w) a vs :=
 show ObjOk P w H h a (.dK kvs) from rd_of ok e
def dk_of(ok:HOk P w H h)(e:H a=some (.dK kvs)):kvs.length<=sizeLine/\(a==Eh)=false/\∃vs,KV kvs vs/\h.DictOf (mixKind P w) a vs:=z1u ok (.inl e)
def q5p(ok:HOk P w H h)(e:H a=some (.tup (ks.map kV))):(Ij (mixKind P w)).is h ks a:=by
 obtain⟨_,f,r,o,j,q,n,u⟩:=(show ObjOk P w H h a (.tup (ks.map kV)) from ok a _ e)
 exact⟨o,f.toArray,n,j,q,u,by simpa using z1t r⟩
def z1v(ok:HOk P w H h)(e:Rd H a (.dT kvs)):kvs.length<=sizeLine/\(a==Eh)=false /\
  ∃xs,KT H kvs xs/\h.DictOfH (Ij (mixKind P w)) a xs:=by
 obtain⟨z,y,xs,r,o,j,u,v,B,C,D,E⟩:=(show ObjOk P w H h a (.dT kvs) from rd_of ok e)
 refine⟨z,y,xs,r,o,j,u,v,B,C,D,λx f=>?_,E⟩;have all:∀{l:List (List Key×V)} {m:List (List Key×Addr×Value)},KT H l m->∀x∈m,(Ij (mixKind P w)).is h x.1 x.2.1:=by
  intro l m q;induction q with
  |nil=>grind
  | @cons p q ps qs hq t ih =>
   intro x f;rcases Bb.mp f with e|f
   ·subst e;exact q5p ok (by rw[<- hq.1];exact hq.2.1)
   ·exact ih x f
 exact all r x f
def x5g(ok:HOk P w H h)(e:H a=some (.dT kvs)):kvs.length<=sizeLine/\(a==Eh)=false /\
  ∃xs,KT H kvs xs/\h.DictOfH (Ij (mixKind P w)) a xs:=z1v ok (.inl e)
end
noncomputable def DGet(H:Hp)(a:Addr)(y:V)(r:Option V):Prop :=
 (∃kvs k,Rd H a (.dK kvs)/\y=kV k/\r=valV kvs k)\/∃kvs k b,Rd H a (.dT kvs)/\y=.ref b/\H b=some (.tup (k.map kV))/\r=valV kvs k
noncomputable def DPut(H:Hp)(a:Addr)(y v:V)(H':Hp):Prop :=
 (∃kvs k,H a=some (.dK kvs)/\y=kV k/\kvs.length<sizeLine/\H'=upd H a (.dK (putK kvs k v))) \/
 ∃kvs k b,H a=some (.dT kvs)/\y=.ref b/\H b=some (.tup (k.map kV))/\kvs.length<sizeLine/\H'=upd H a (.dT (putK kvs k v))
def DGet.t(e:H a=some (.dT kvs))(f:H b=some (.tup (k.map kV))):DGet H a (.ref b) (valV kvs k):=.inr ⟨kvs,k,b,.inl e,rfl,f,rfl⟩
def DPut.t(e:H a=some (.dT kvs))(f:H b=some (.tup (k.map kV)))(hl:kvs.length<sizeLine):
  DPut H a (.ref b) v (upd H a (.dT (putK kvs k v))):=.inr ⟨kvs,k,b,e,rfl,f,hl,rfl⟩
section
variable{X:Cx}{pins:List (Addr×Obj)}{σ:St}{H:Hp}{s:Ag}{a:Addr}{y v:V}{u r:Value}{o:Option V}{A:Around}{E:Value->Ag->Prop}
def Inv.big(I:Inv X pins σ H s):Eh<s.heap.objs.size:=by
 have h:=(I.mod.glob.keeps I.bk).lt;exact Nat.lt_trans (by decide) h
def z8j(O:A.units+1<cLine)(I:Inv X pins σ H s)(g:DGet H a y (some v))(L:RelV y u)(h:∀q M,Inv X pins σ H M->RelV v q->Q q M):
  wpAny (model X.prog X.w) A (getItem (.ref a) u) Q E s:=by
 rcases g with⟨B,k,e,C,l⟩|⟨B,k,b,e,C,P,l⟩
 ·subst C;obtain⟨z,hd,vs,f,D⟩:=z1u I.hok e;obtain⟨q,G,j⟩:=RelO.some_of (by rw[l];exact f.val k);exact wpAny_getItem_of (z1s L) D.mapOf G (h q _ (I.tok _) j)
 ·subst C;cases(show u=Value.ref b from L);obtain⟨z,hd,R,f,D⟩:=z1v I.hok e;obtain⟨q,G,j⟩:=RelO.some_of (by rw[l];exact f.val k);obtain⟨p,hp,J⟩:=Dn.mp G;refine wpAny_getItem_heap (Fp O) (q5p I.hok P) D hp ?_;rw[J];exact h q _ (I.tok _) j
def d_in(G:A.units+1<cLine)(I:Inv X pins σ H s)(g:DGet H a y o)(C:RelV y u)(h:∀D,Inv X pins σ H D->Q (.bool o.isSome) D):
  wpAny (model X.prog X.w) A (Cz .In u (.ref a)) Q E s:=by
 rcases g with⟨j,k,e,v,l⟩|⟨j,k,b,e,v,J,l⟩
 ·subst v;obtain⟨z,hd,vs,f,B⟩:=z1u I.hok e;refine wpAny_in_of (z1s C) hd B.mapOf ?_;rw[<- (f.val k).isSome_eq,<- l];exact h _ (I.tok _)
 ·subst v;cases(show u=Value.ref b from C);obtain⟨z,hd,L,f,B⟩:=z1v I.hok e;refine wpAny_in_heap (Fp G) (q5p I.hok J) hd B ?_;have q:=(f.val k).isSome_eq;rw[Lu] at q;rw[<- q,<- l];exact h _ (I.tok _)
def x5h(G:A.units+1<cLine)(I:Inv X pins σ H s)(g:DGet H a y o)(C:RelV y u)(h:∀D,Inv X pins σ H D->Q (.bool (!o.isSome)) D):
  wpAny (model X.prog X.w) A (Cz .NotIn u (.ref a)) Q E s:=by
 rcases g with⟨j,k,e,v,l⟩|⟨j,k,b,e,v,J,l⟩
 ·subst v;obtain⟨z,hd,vs,f,B⟩:=z1u I.hok e;refine wpAny_notIn_of (z1s C) hd B.mapOf ?_;rw[<- (f.val k).isSome_eq,<- l];exact h _ (I.tok _)
 ·subst v;cases(show u=Value.ref b from C);obtain⟨z,hd,L,f,B⟩:=z1v I.hok e;refine wpAny_notIn_heap (Fp G) (q5p I.hok J) hd B ?_;have q:=(f.val k).isSome_eq;rw[Lu] at q;rw[<- q,<- l];exact h _ (I.tok _)
def z3l(I:Inv X pins σ H s)(f:Mut (H a))(hs:Fm a s.heap h')(h:∃q,h'.get? a=some q)(new:ObjOk X.prog X.w (upd H a ob) h' a ob):
  Inv X pins σ (upd H a ob) { s with heap:=h',toks:=t' } :=
 I.write f (.inl rfl) (λb q j z=>(hs.2 b j).trans z) h new
def dk_new(z:kvs.length<=sizeLine)(hd:(a==Eh)=false)(f:KV kvs vs)(h:h'.DictOf (mixKind P w) a vs):
  ObjOk P w H' h' a (.dK kvs):=⟨z,hd,vs,f,h⟩
def z8k(T:A.units+1<cLine)(I:Inv X pins σ H s)(g:DPut H a y v H')(L:RelV y u)(M:RelV v r)(h:∀O,Inv X pins σ H' O->Q () O):
  wpAny (model X.prog X.w) A (setItem (.ref a) u r) Q E s:=by
 rcases g with⟨f,k,e,D,l,G⟩|⟨f,k,b,e,D,P,l,G⟩
 ·subst D G;obtain⟨z,hd,vs,j,J⟩:=dk_of I.hok e;have U:vs.length<=sizeLine:=by rw[<- j.length];exact z
  have hl:(putK f k v).length<=sizeLine:=by have:=q3f f k v;lia
  refine wpAny_setItem_pairs (z1s L) J λR B hs=>h _ ?_;have W:∃q,R.get? a=some q:=let ⟨q,_,_,C,_⟩:=B;⟨q,C⟩;exact z3l I (by rw[e];exact True.intro) hs W (dk_new hl hd (j.put k M) B)
 ·subst D G;cases(show u=Value.ref b from L);obtain⟨z,hd,Y,j,J⟩:=x5g I.hok e;have U:Y.length<=sizeLine:=by rw[<- Eu j];exact z
  have hl:(putK f k v).length<=sizeLine:=by have:=q3f f k v;lia
  refine Uh (Fp T) (q5p I.hok P) J λR B hs=>h _ ?_;obtain⟨q,Z,ep,C,h2,h3,h4,_,h5⟩:=B;refine z3l I (by rw[e];exact True.intro) hs ⟨q,C⟩ ⟨hl,hd,_,(j.put k P M).keeps λc ys S=>?_,q,Z,ep,C,h2,h3,h4,h5⟩;rw[q0d (x4o S e (λz=>nomatch z))];exact S
end
noncomputable def NoSl(i:Expr):Prop:=∀ov iv,Rk i false ov iv=operate [ov,iv] (getItem ov iv)
def x5i{id}(hl:Sz (.type T) "__getitem__" = pure (some (.builtin id)))(hs:NoSl slice)(h:wpAny (model prog w) A (eval value env) (λo q=>wpAny (model prog w) A (eval slice env) (λi f=>f.TypeIs o T/\wpAny (model prog w) A (getItem o i) Q E f) E q) E s):
  wpAny (model prog w) A (eval (.Subscript value slice pos) env) Q E s:=by
 refine Wd (Dl h (λo q v=>Dl v (λi f j=>?_) λ_ _ x=>x) λ_ _ x=>x);obtain⟨C,j⟩:=j;refine Ab ?_;refine Ab (Kn C hl ?_);have fin:wpAny (model prog w) A (Rk slice false o i) (λr u=>wpAny (model prog w) A (letTemporaryGo value o r >>= λ_=>pure r) Q E u) E f:=by
  rw[hs o i];exact wpAny_operating (Dl j (λr u B=>Ab (wpAny_letTemporaryGo (Ad B))) λ_ _ x=>x)
 first
  |exact Ad (Ab fin)
  |exact Ab (Ad (Ab fin))
  |exact Ab fin
def z3m{j:St}(I:Inv X pins j H s)(g:DGet H a y o):s.TypeIs (.ref a) "dict" := by
 rcases g with⟨f,k,e,_,_⟩|⟨f,k,b,e,_,_,_⟩
 ·obtain⟨_,_,vs,_,h⟩:=z1u I.hok e;exact h.typeIs
 ·obtain⟨_,_,q,_,h⟩:=z1v I.hok e;exact h.typeIs
noncomputable def tDGet(td ty:TE):TE:=λσ H Q=>td σ H λx H1=>ty σ H1 λy H2=>∃a v,x=.ref a/\DGet H2 a y (some v)/\Q v H2
noncomputable def tDIn(ty td:TE):TE:=λσ H Q=>ty σ H λy H1=>td σ H1 λx H2=>∃a o,x=.ref a/\DGet H2 a y o/\Q (.bl o.isSome) H2
noncomputable def tDNotIn(ty td:TE):TE:=λσ H Q=>ty σ H λy H1=>td σ H1 λx H2=>∃a o,x=.ref a/\DGet H2 a y o/\Q (.bl (!o.isSome)) H2
noncomputable def sDPut(td ty tv:TE):TS:=λD σ H=>tv σ H λv H1=>td σ H1 λx H2=>ty σ H2 λy H3=>∃a H4,x=.ref a/\DPut H3 a y v H4/\D.nx σ H4
section
variable{X:Cx}{o i e value:Expr}{pos pos' tpos:Pos}{td ty tv:TE}
def q0v(C:X.A.units+1<cLine)(ho:PE X o td)(D:PE X i ty)(hs:NoSl i):PE X (.Subscript o i pos) (tDGet td ty):=by
 intro f s q H Q I h;refine x5i PySem.F.slot_dict_getitem.lookup hs (thnE (ho f s q H _ I h) λu E x G J L M=>thnE (D f E q G _ J M) λU W y O B P R=>?_);obtain⟨a,v,ex,g,S⟩:=R;subst ex;obtain rfl:u=Value.ref a:=L;exact⟨z3m B g,z8j C B g P λY Z T j=>⟨v,O,T,j,S⟩⟩
def z8l(q:X.A.units+1<cLine)(v:PE X i ty)(ho:PE X o td):PC X .In i o (tDIn ty td):=by
 intro f s j H Q I h;refine thnE (v f s j H _ I h) λT B y C D E G=>thnE (ho f B j C _ D G) λu U x J L M O=>?_;obtain⟨a,P,ex,g,R⟩:=O;subst ex;obtain rfl:u=Value.ref a:=M;exact d_in q L g E λW S=>⟨.bl P.isSome,J,S,rfl,R⟩
def q7v(q:X.A.units+1<cLine)(v:PE X i ty)(ho:PE X o td):PC X .NotIn i o (tDNotIn ty td):=by
 intro f s j H Q I h;refine thnE (v f s j H _ I h) λT B y C D E G=>thnE (ho f B j C _ D G) λu U x J L M O=>?_;obtain⟨a,P,ex,g,R⟩:=O;subst ex;obtain rfl:u=Value.ref a:=M;exact x5h q L g E λW S=>⟨.bl (!P.isSome),J,S,rfl,R⟩
def q3x(q:X.A.units+1<cLine)(ho:PE X o td)(B:PE X i ty)(C:PE X value tv)(hs:Kq value (some (.Subscript o i pos')) pos.line X.env=pure false):
  PS X (.Assign [.Subscript o i pos'] value pos) (sDPut td ty tv):=by
 intro f s j H D I h;refine Rn (thnE (C f s j H _ I h) λr E v G J L M=>thnE (ho f E j G _ J M) λu O x P Q R S=>thnE (B f O j P _ Q S) λiv s3 y H3 T U W=>?_) hs;obtain⟨a,Y,ex,g,Z⟩:=W;subst ex;obtain rfl:u=Value.ref a:=R;exact z8k q T g U L λs4 I4=>⟨j,Y,I4,Z⟩
end
def z0d(h:Heap)(f:Eh<h.objs.size):ObjOk P w H (h.push { cls:=.type "dict",data:=.dict #[] }) h.objs.size (.dT []) :=
 ⟨Bv _,beq_eq_false_iff_ne.mpr (Ex (Bm f)),[],.nil,_,#[],0,As _ rfl,⟨rfl,rfl,rfl⟩,rfl,rfl,List.nodup_nil⟩
noncomputable def tDNewT:TE:=λ_ H Q=>∀p,H p=none->Q (.ref p) (upd H p (.dT []))
section
variable{X:Cx}{pos:Pos}
def q3n:PE X (.Dict [] [] pos) tDNewT:=λf s j H Q I h =>
 wpAny_Dict_empty ⟨.ref s.heap.objs.size,_,I.laid (t':=s.toks) (λ_ _ q=>Ai _ q) (Aq _) (z0d s.heap I.big),rfl,h _ (I.hok.fresh (Aq _))⟩
end
structure M1 (X:Cx) (o) (m) (apos:Pos) (e) (cpos):Prop where
 base:Gw o m X.env (eval o X.env)=eval o X.env
 few:((Gi cpos (Bp [e] X.env)).all (λx => !x.1)&&(Mo cpos (Jh [] X.env)).all (λx=>x.1.isSome)
  && decide (([e]:List Expr).length+([]:List Oh).length+(if ([]:List Oh).isEmpty then 0 else 1)<30))=true
 line:(apos.endLine==cpos.line)=true
 trees:Gi cpos (Bp [e] X.env)=[(false,eval e X.env)]
structure M2 (X:Cx) (o) (m) (apos:Pos) (e f) (cpos):Prop where
 base:Gw o m X.env (eval o X.env)=eval o X.env
 few:((Gi cpos (Bp [e,f] X.env)).all (λx => !x.1)&&(Mo cpos (Jh [] X.env)).all (λx=>x.1.isSome)
  && decide (([e,f]:List Expr).length+([]:List Oh).length+(if ([]:List Oh).isEmpty then 0 else 1)<30))=true
 line:(apos.endLine==cpos.line)=true
 trees:Gi cpos (Bp [e,f] X.env)=[(false,eval e X.env),(false,eval f X.env)]
noncomputable def IsD(H:Hp)(a:Addr):Prop:=(∃kvs,Rd H a (.dK kvs))\/∃kvs,Rd H a (.dT kvs)
def x3u{B:St}(I:Inv X pins B H s)(d:IsD H a):
  s.TypeIs (.ref a) "dict" /\ (∀b,Value.ref a=.ref b->∃f,s.heap.get? b=some f/\f.dict=none)/\(a==Eh)=false:=by
 rcases d with⟨j,e⟩|⟨j,e⟩
 ·obtain⟨_,hd,vs,_,h⟩:=z1u I.hok e;refine⟨h.typeIs,λb q=>?_,hd⟩;cases q;obtain⟨f,_,_,u,v,_⟩:=h;exact⟨f,u,v.2.1⟩
 ·obtain⟨_,hd,C,_,h⟩:=z1v I.hok e;refine⟨h.typeIs,λb q=>?_,hd⟩;cases q;obtain⟨f,_,_,u,v,_⟩:=h;exact⟨f,u,v.2.1⟩
section
variable{X:Cx}{pins:List (Addr×Obj)}{σ:St}{H:Hp}{s:Ag}{a:Addr}{y d:V}{u r:Value}{o:Option V}{A:Around}{E:Value->Ag->Prop}
def d_get1(G:A.units+1<cLine)(I:Inv X pins σ H s)(g:DGet H a y o)(B:RelV y u)(h:∀C D,Inv X pins σ H D->RelV (o.getD .non) C->Q C D):
  wpAny (model X.prog X.w) A (call (.builtin "dict.get") [.ref a,u]) Q E s:=by
 rcases g with⟨q,k,e,v,l⟩|⟨q,k,b,e,v,J,l⟩
 ·subst v;obtain⟨z,hd,vs,f,j⟩:=z1u I.hok e;refine Qf Gn j.typeIs Jj (Qr _ _) (meets_dict_get (mixKind X.prog X.w) a (z1s B) hd) ⟨_,j.mapOf,h _ _ (I.tok _) ?_⟩;rw[l];exact(f.val k).getD rfl
 ·subst v;cases(show u=Value.ref b from B);obtain⟨z,hd,L,f,j⟩:=z1v I.hok e;refine Qf Gn j.typeIs Jj (Qr _ _) (meetsH_dict_get (Ij (mixKind X.prog X.w)) a b hd) ⟨Fp G,k,L,q5p I.hok J,j,h _ _ (I.tok _) ?_⟩;rw[l];exact(f.val k).getD rfl
def d_get2(G:A.units+1<cLine)(I:Inv X pins σ H s)(g:DGet H a y o)(B:RelV y u)(rd:RelV d r)(h:∀C D,Inv X pins σ H D->RelV (o.getD d) C->Q C D):
  wpAny (model X.prog X.w) A (call (.builtin "dict.get") [.ref a,u,r]) Q E s:=by
 rcases g with⟨q,k,e,v,l⟩|⟨q,k,b,e,v,J,l⟩
 ·subst v;obtain⟨z,hd,vs,f,j⟩:=z1u I.hok e;refine Qf Gn j.typeIs Jj (Qs _ _ _) (meets_dict_get_default (mixKind X.prog X.w) a (z1s B) hd r) ⟨_,j.mapOf,h _ _ (I.tok _) ?_⟩;rw[l];exact(f.val k).getD rd
 ·subst v;cases(show u=Value.ref b from B);obtain⟨z,hd,L,f,j⟩:=z1v I.hok e;refine Qf Gn j.typeIs Jj (Qs _ _ _) (meetsH_dict_get_default (Ij (mixKind X.prog X.w)) a b hd r) ⟨Fp G,k,L,q5p I.hok J,j,h _ _ (I.tok _) ?_⟩;rw[l];exact(f.val k).getD rd
end
noncomputable def tDGet1(td ty:TE):TE:=λσ H Q=>td σ H λx H1=>∃a,x=.ref a/\IsD H1 a/\ty σ H1 λy H2=>∃o,DGet H2 a y o/\Q (o.getD .non) H2
noncomputable def tDGet2(td ty tx:TE):TE:=λσ H Q=>td σ H λx H1=>∃a,x=.ref a/\IsD H1 a/\ty σ H1 λy H2=>tx σ H2 λz H3=>∃o,DGet H3 a y o/\Q (o.getD z) H3
section
variable{X:Cx}{o e f:Expr}{apos cpos:Pos}{td ty tx:TE}
def x2b(B:X.A.units+1<cLine)(ho:PE X o td)(C:PE X e ty)(m:M1 X o "get" apos e cpos):PE X (.Call (.Attribute o "get" apos) [e] [] cpos) (tDGet1 td ty):=by
 intro f s q H Q I h;refine Uz m.base m.few m.line Gz Gn Sg (thnE (ho f s q H _ I h) λu D x E v G J=>?_);obtain⟨a,ex,d,L⟩:=J;subst ex;obtain rfl:u=Value.ref a:=G;obtain⟨M,O,_⟩:=x3u v d;refine⟨M,O,?_⟩;rw[m.trees];refine Ji rfl (Nj (Kt (thnE (C f D q E _ v L) λW Y y P R S ⟨Z,g,T⟩=>Ph ?_)));exact d_get1 B R g S λw' s3 U j=>⟨_,P,U,j,T⟩
def z4x(C:X.A.units+1<cLine)(ho:PE X o td)(D:PE X e ty)(E:PE X f tx)(m:M2 X o "get" apos e f cpos):PE X (.Call (.Attribute o "get" apos) [e,f] [] cpos) (tDGet2 td ty tx):=by
 intro j s q H Q I h;refine Uz m.base m.few m.line Gz Gn Sg (thnE (ho j s q H _ I h) λu G x J B L M=>?_);obtain⟨a,ex,d,O⟩:=M;subst ex;obtain rfl:u=Value.ref a:=L;obtain⟨P,R,_⟩:=x3u B d;refine⟨P,R,?_⟩;rw[m.trees];refine Ji rfl (Nj (Kt (thnE (D j G q J _ B O) λiv S y T U W Y =>
  Kt (thnE (E j S q T _ U Y) λfv s3 z Z I3 rz ⟨ov,g,q3⟩=>Ph ?_))))
 exact d_get2 C I3 g W rz λw' s4 I4 v=>⟨_,Z,I4,v,q3⟩
end
end L2
namespace K
open PySem L2 TX
noncomputable def FIs:Str:=Ar "0123456789"
noncomputable def LEs:Str:=Ar "abcdefghijklmnopqrstuvwxyzABCDEFGHIJKLMNOPQRSTUVWXYZ"
noncomputable abbrev FI:List Nat:=tl FIs
noncomputable abbrev LE:List Nat:=tl LEs
noncomputable def allOf(t s:List Nat):Bool:=decide (t≠[])&&t.all λc=>decide (c∈s)
noncomputable def gapTakes(c:Nat)(t:List Nat):Bool:=if c=63 then decide (t.length=1) else if c=35 then allOf t FI else if c=64 then allOf t LE else true
noncomputable def Pt.takes:Pt->List Nat->Bool
 |.tx l,t=>decide (t=l)
 |.gp c,t=>gapTakes c t
noncomputable def cut(n:List Nat)(b e:Nat):List Nat:=(n.drop b).take (e-b)
noncomputable def farTo(p:Pt)(n:List Nat)(L:Nat->Bool)(b k:Nat):Option Nat:=((List.range' b k).filter λe=>L e&&p.takes (cut n b e)).getLast?
noncomputable def far(p:Pt)(n:List Nat)(L:Nat->Bool)(b:Nat):Option Nat:=if b<=n.length then farTo p n L b (n.length+1-b) else none
noncomputable def fits(n:List Nat):List Pt->Nat->Bool
 |[],b=>decide (b=n.length)
 |p::ps,b=>(far p n (fits n ps) b).isSome
noncomputable def rd(n:List Nat):List Pt->Nat->List (List Nat)
 |[],_=>[]
 |p::ps,b=>(if p.isG then[cut n b ((far p n (fits n ps) b).getD 0)] else[])++rd n ps ((far p n (fits n ps) b).getD 0)
structure DF (H:Hp) (a) (f:Nat->Option Nat):Prop where
 ex:∃kvs,H a=some (.dK kvs)/\kvs.length<=5000/\∀b:Nat,valV kvs (Sum.inl (b))=(f b).map λe=>V.int (e:Nat)
inductive DS (H:Hp) (n:List Nat):List Addr->List Pt->Prop
 |nil:DS H n [] []
 |cons {d:Addr} {p:Pt} {ds:List Addr} {ps:List Pt}:DF H d (far p n (fits n ps))->DS H n ds ps->DS H n (d::ds) (p::ps)
def z1w(l):(mk l).length=l.length:=by rw[len,q3w]
end K
namespace PySem.Rv
open Sem (wp)
namespace F
def q6t:mroOf (.type "reversed")=pure [.type "reversed",.type "object"]:=by rw[mroOf_type];kernel_rfl
def q5e:Sz (.type "reversed") "__new__" = pure (some (.builtin "reversed.__new__")):=by rw[Ko,Hv];kernel_rfl
def q5q:Slot "reversed" "__init__" "object.__init__" :=
 .of (owner := "object") (n := "__init__") (by rw[Ko,Hv];kernel_rfl) (by trivial) (by trivial) (by trivial)
  (by first|exact .inl (by rw[Kd];kernel_rfl)|exact .inr (by rw[Kd];kernel_rfl)) (by rw[Js];kernel_rfl)
def called_reversed:TypeCalled "reversed" "reversed.__new__" "object.__init__" :=
 ⟨by trivial,by trivial,⟨_,_,q6t⟩,madeBy_type q6t q5e (by trivial),by trivial,by rw[Js];kernel_rfl,q5q⟩
def typeCall_reversed_1(a):checkTypeCall "reversed" ⟨[a],[]⟩=pure ():=by kernel_rfl
def newCall_reversed_1(a):Ms "reversed.__new__" ⟨[.type "reversed",a],[]⟩=pure ():=by kernel_rfl
def entry_reversed_new:Qg table "reversed.__new__" = some Dk.«reversed.__new__» := entryFor_of_tree (by kernel_rfl)
def slot_lrev_next:Slot "list_reverseiterator" "__next__" "list_reverseiterator.__next__" :=
 .of (owner := "list_reverseiterator") (n := "__next__") (by rw[Ko,Hv];kernel_rfl) (by trivial) (by trivial) (by trivial)
  (by first|exact .inl (by rw[Kd];kernel_rfl)|exact .inr (by rw[Kd];kernel_rfl)) (by rw[Js];kernel_rfl)
def entry_lrev_next:Qg table "list_reverseiterator.__next__" = some Dk.«list_reverseiterator.__next__» := entryFor_of_tree (by kernel_rfl)
def slot_lrev_iter:Slot "list_reverseiterator" "__iter__" "list_reverseiterator.__iter__" :=
 .of (owner := "list_reverseiterator") (n := "__iter__") (by rw[Ko,Hv];kernel_rfl) (by trivial) (by trivial) (by trivial)
  (by first|exact .inl (by rw[Kd];kernel_rfl)|exact .inr (by rw[Kd];kernel_rfl)) (by rw[Js];kernel_rfl)
def entry_lrev_iter:Qg table "list_reverseiterator.__iter__" = some Dk.«dict_keyiterator.__iter__» :=
 entryFor_alias (id' := "dict_keyiterator.__iter__") (by kernel_rfl) (by first|rfl|decide +kernel|(unfold String.splitOn;simp +decide [String.splitOnAux])) (by trivial) (by kernel_rfl)
def q9a:Manifest.owners.lookup (String.ofList ['r', 'o', 't', 'a', 'r', 'e', 't', 'i', 'e', 's', 'r', 'e', 'v', 'e', 'r', '_', 't', 's', 'i', 'l'].reverse)=some Manifest.sig_list_reverseiterator:=by kernel_rfl
def args_lrev_next_1(a):argsOk "list_reverseiterator.__next__" ⟨[a],[]⟩:=by
 unfold argsOk;rw[signature?_of (n:=['_', '_', 't', 'x', 'e', 'n', '_', '_']) (by kernel_rfl) q9a];kernel_rfl
def args_lrev_iter_1(a):argsOk "list_reverseiterator.__iter__" ⟨[a],[]⟩:=by
 unfold argsOk;rw[signature?_of (n:=['_', '_', 'r', 'e', 't', 'i', '_', '_']) (by kernel_rfl) q9a];kernel_rfl
def sub_reversed:isSubtype (.type "reversed") (.type "reversed")=pure true:=by rw[Js];kernel_rfl
def sub_lrev:isSubtype (.type "list_reverseiterator") (.type "reversed")=pure false:=by rw[Js];kernel_rfl
end F
open Sem (wp)
noncomputable def IsRevIter(h:Heap)(it l:Addr)(k:Int):Prop:=∃o,h.get? it=some o/\o.cls=.type "list_reverseiterator" /\ o.data=.fields #[.ref l,.int k 0]
section
variable{prog:Aw}{w:World}{A:Around}{E:Value->Ag->Prop}{s:Ag}
def wpAny_pyNext_rev_item{k:Nat}{items}(f:IsRevIter s.heap it l k)(hl:s.heap.IsList l items)(v:items[k]?=some x)(B:∀h',IsRevIter h' it l ((k)-1)->Fm it s.heap h'->Q (some x) { s with heap:=h' }):wpAny (model prog w) A (Hb (.ref it)) Q E s:=by
 obtain⟨o,ho,q,hd⟩:=id f;obtain⟨C,h,_,D,j⟩:=hl;have u:s.TypeIs (.ref it) "list_reverseiterator" := ⟨o,ho,q⟩
 refine Ab (Ek (Ca u F.slot_lrev_next
  (Bw F.slot_lrev_next u F.entry_lrev_next ?_ (F.args_lrev_next_1 _))))
 show wpAny _ _ (field (.ref it) 1 >>= _) _ _ s;refine Ab (Cm ho hd rfl ?_);refine Ab (Cm ho hd rfl ?_);refine Ab (Dp h j ?_);simp only[Ff,v];refine Ab (Jt ho hd (by simp) (Ad ⟨x,rfl,Ad (B _ ?_ (Eg ..))⟩));exact⟨_,Gm _ ho (My (Hn hd _)),(Pk ..).trans q,by
  rw[Hn hd];simp[Ee]⟩
def wpAny_pyNext_rev_end(j:A.handled=none)(f:IsRevIter s.heap it l k)(hk:k<0)(q:∀h',Ol it s.heap h'->Q none { s with heap:=h' }):wpAny (model prog w) A (Hb (.ref it)) Q E s:=by
 obtain⟨o,ho,u,hd⟩:=id f;have h:s.TypeIs (.ref it) "list_reverseiterator" := ⟨o,ho,u⟩
 refine Ab (Ek (Ca h F.slot_lrev_next
  (Bw F.slot_lrev_next h F.entry_lrev_next ?_ (F.args_lrev_next_1 _))))
 show wpAny _ _ (field (.ref it) 1 >>= _) _ _ s;refine Ab (Cm ho hd rfl ?_);show wpAny _ _ (if (k<0) then _ else _) _ _ s;rw[if_pos hk];refine Ab (Gk (Ab ?_));refine Ab ?_;refine Ab (Bz ?_ (by size_fits));refine Ab (Hi (by first|rfl|(simp only[Li];rfl)) ?_);refine Bz ?_ (by size_fits);refine Ab (Pc ?_);rw[show A.in1.handled=none from j];refine Ab (Ad (Ro ?_));refine Ab (Fn ⟨_,As _ rfl,rfl⟩ Jq ?_);exact Ad (q _ (λb o _ e=>Ai _ (Ai _ e)))
def wpAny_pyIter_rev(f:IsRevIter s.heap it l k)(h:Q (.ref it) s):wpAny (model prog w) A (Kb (.ref it)) Q E s:=by
 obtain⟨o,ho,q,hd⟩:=id f;have j:s.TypeIs (.ref it) "list_reverseiterator" := ⟨o,ho,q⟩
 refine Jn j F.slot_lrev_iter (Bw F.slot_lrev_iter j F.entry_lrev_iter ?_ (F.args_lrev_iter_1 _));exact Ad ⟨_,rfl, "list_reverseiterator",_,j,F.slot_lrev_next.lookup,h⟩
def q5f(l)(f)(n):
  Meets (Dk.«reversed.__new__» ⟨[.type "reversed",.ref l],[]⟩) (λ_ R s=>s.heap.get? l=some { cls:=.type "list",dict:=none,data:=.seq f n,slots:=#[] } /\
   R (.ok (.ret (.ref s.heap.objs.size))) { s with heap:=s.heap.push { cls:=.type "list_reverseiterator",data:=.fields #[.ref l,Ee (((f.size:Nat):Int)-1)] } }) :=
 .of_wp λprog w A R s h=>by
  obtain⟨hp,g,d,tk,os⟩:=s;obtain⟨hl,h⟩:=h;have u:Ag.TypeIs ⟨hp,g,d,tk,os⟩ (.ref l) "list" := ⟨_,hl,rfl⟩
  wp_walk
  refine Hi F.sub_reversed ?_
  wp_walk
  refine Hi Jz.lookup ?_
  wp_walk
  refine Hi (Jz.bind (Value.ref l)) ?_
  wp_walk
  have q:Fu (model prog w) A.in1 (Code.call (.builtin "list.__reversed__") ⟨[.ref l],[]⟩) (λr j=>r=.ok (.ret (.ref hp.objs.size))/\j=(⟨hp.push { cls:=.type "list_reverseiterator",data:=.fields #[.ref l,Ee (((f.size:Nat):Int)-1)] },g,d,tk,os⟩:Ag)) ⟨hp,g,d,tk,os⟩ :=
   Nn Jz.plain F.entry_list_reversed (Jz.check _ _ _ _ _ _ _ _ u (F.args_list_reversed_1 _) (AutoListH.list___reversed___list_0 l f n prog w A.in1 (λr j=>r=.ok (.ret (.ref hp.objs.size))/\j=(⟨hp.push { cls:=.type "list_reverseiterator",data:=.fields #[.ref l,Ee (((f.size:Nat):Int)-1)] },g,d,tk,os⟩:Ag)) ⟨hp,g,d,tk,os⟩ ⟨hl,rfl,rfl⟩))
  refine Ip q λr j v=>?_;obtain⟨rfl,rfl⟩:=v;exact Ad ⟨_,rfl,h⟩
def q8o(q:TypeCalled T newId initId)(u:isSubtype (.type U) (.type T)=pure false)(G:checkTypeCall T ⟨args,[]⟩=pure ())(v:Ms newId ⟨.type T::args,[]⟩=pure ())(j:Qg table newId=some Bn)(g:Meets (Bn ⟨.type T::args,[]⟩) S)(h:S A.in1 (wants (λobj f=>f.TypeIs obj U/\Q obj f) E) s):wpAny (model prog w) A (call (.type T) args) Q E s:=by
 obtain⟨c,tl,D⟩:=q.mro;have B:=q.made;refine Sy (codeAny_of_tree ?_);refine Ad ⟨Code.quiet_builtin _ (by trivial),Dq F.entry_type_call ?_⟩;have H:=q.notType;have I:=q.canCreate;repeat (any_goals (first|assumption|wp_step))
 refine Ip (Nn q.plain j (Hi v (g prog w A.in1 _ s h))) λr f C=>?_;cases r with
 |error e=>exact C
 |ok fl =>
  cases fl with
  |ret obj =>
   obtain⟨J,L⟩:=C;repeat (any_goals (first|assumption|wp_step))
  |_=>exact C.elim
def call_reversed_list(hl:s.heap.get? l=some { cls:=.type "list",dict:=none,data:=.seq items n,slots:=#[] })(h:Q (.ref s.heap.objs.size) { s with heap:=s.heap.push { cls:=.type "list_reverseiterator",data:=.fields #[.ref l,Ee (((items.size:Nat):Int)-1)] } }):
  wpAny (model prog w) A (call (.type "reversed") [.ref l]) Q E s :=
 q8o F.called_reversed F.sub_lrev (F.typeCall_reversed_1 _) (F.newCall_reversed_1 _) F.entry_reversed_new (q5f l items n) ⟨hl,⟨_,As _ rfl,rfl⟩,h⟩
end
end PySem.Rv
namespace L2
open PySem PySem.Spec PyProof.Rows
noncomputable def Itv(K:Al)(a:Addr)(n:Nat):It :=
 ⟨λi H=>∃xs x,SqL K H a xs/\xs.length=n/\xs.reverse[i]?=some x,λi H x H'=>H'=H/\∀xs,SqL K H a xs->xs.reverse[i]?=some x,λi _=>n<=i⟩
def z6j(x:PySem.Rv.IsRevIter h it l k)(e:∀o,h.get? it=some o->h'.get? it=some o):PySem.Rv.IsRevIter h' it l k:=by obtain⟨o,ho,r⟩:=x;exact⟨o,e _ ho,r⟩
def x2c{K:Al}(a f:Addr)(n:Nat):Turn P w K tg (Itv K a n) [f] f (λi h=>PySem.Rv.IsRevIter h f a ((n:Int)-1-i)) where
 mem:=by simp
 obj:=λi h st b q=>by
  have e:b=f:=by grind
  subst e;obtain⟨o,e,c,d⟩:=st;exact⟨o,e,λv z=>by rw[d] at z;cases z⟩
 keep:=λi h G st k=>z6j st λo e=>k f (by simp) o e
 item:=by
  intro X T U W Y i j s Z H E I D st J;subst T U W;obtain⟨B,x,hq,hn,hx⟩:=J;obtain⟨a0,rv,p,hz⟩:=I.list hq;have hi:i<B.length:=by have:=(Aj.mp hx).1;simpa using this
  have hx':B[B.length-1-i]?=some x:=by grind
  obtain⟨u,hu,ru⟩:=rv.get hx';obtain⟨L,M,f2,O,Q,R⟩:=D f (by simp);have a1:((n:Int)-1-(i:Int))=((B.length-1-i:Nat):Int):=by lia
  have S:PySem.Rv.IsRevIter s.heap f a ((B.length-1-i:Nat):Int):=by simp_all
  refine PySem.Rv.wpAny_pyNext_rev_item S p.isList (by simpa using hu) λG C sb=>?_;have I1:Inv X j Z H { s with heap:=G }:=I.turned (t':=s.toks) (λb o q e=>(sb.2 b q).trans e) L M O Q R;obtain⟨o,e,c,d⟩:=id C;refine⟨u,rfl,z3f e c d (by decide) ⟨x,H,I1,ru,⟨rfl,λys hy=>by rw[I.list_inj hy hq];exact hx⟩,?_,λb q=>(D b q).1⟩⟩;have e2:((n:Int)-1-((i+1:Nat):Int))=((B.length-1-i:Nat):Int)-1:=by lia
  rw[e2];exact C
 done:=by
  intro X T U W Y i j s Z H E I D st J;obtain⟨L,M,f2,O,Q,R⟩:=D f (by simp);have a2:n<=i:=J;exact PySem.Rv.wpAny_pyNext_rev_end (I.ok.hd Y) st (by lia) λG eb=>⟨rfl,I.turned (t':=s.toks) (λb o q e=>eb b o q e) L M O Q R⟩
 self:=λ_ _ _ _ _ st h=>PySem.Rv.wpAny_pyIter_rev st h
section
variable{X:Cx}{tg:Expr}
noncomputable def iRev(K:Al)(ta:TA):TI:=λσ H R=>ta σ H λvs H1=>∃a xs,vs=[.ref a]/\H1 a=some (.lst xs)/\R (Itv K a xs.length) H1
def pi_rev(E:Gl X "reversed")(G:X.mg "reversed" = none)(ha:PA X [a] ta)(hs:Bp [a] X.env=[(false,eval a X.env)]:=by rfl):
  PI X tg (.Call (.Name "reversed" p) [a] [] pos) (iRev X.K ta):=by
 intro j s J H R I h;refine Call_ (q7j I E G (by decide +kernel:Hj "reversed" = some (.type "reversed")) (Es (thn (ha pos j s J H _ I h) λS f L=>?_) hs rfl));obtain⟨vs,M,B,O,P⟩:=L;obtain⟨l,D,e,Q,q⟩:=P;subst e;obtain⟨u,rfl,r⟩:=vals1 O;cases r;obtain⟨z,C,n,T,hl,e⟩:=B.lstM Q;refine PySem.Rv.call_reversed_list e ?_;have v:PySem.Rv.IsRevIter (f.heap.push { cls:=.type "list_reverseiterator",data:=.fields #[.ref l,Ee (((C.toArray.size:Nat):Int)-1)] }) f.heap.objs.size l ((D.length:Int)-1-((0:Nat):Int)):=by
  refine⟨_,As _ rfl,rfl,?_⟩;rw[Bj,<- hl];simp[Ee]
 refine PySem.Rv.wpAny_pyIter_rev v ?_;refine⟨f.heap.objs.size,[f.heap.objs.size],_,_,M,rfl,B.kept (t':=f.toks) λb o e=>Ai _ e,x2c l _ D.length,v,λb U=>?_,q⟩;have e:b=f.heap.objs.size:=by grind
 subst e;exact B.fpOk (Aq _) (B.hok.fresh (Aq _))
def rev_k(K)(j:X.K=K)(q:Gl X "reversed")(u:X.mg "reversed" = none)(ha:PA X [a] h)(hs:Bp [a] X.env=[(false,eval a X.env)]:=by rfl):
  PI X tg (.Call (.Name "reversed" p) [a] [] f) (iRev K h):=by subst j;exact pi_rev q u ha hs
def z8m{K}{g:TG}{tb:TS}{D:Ends}(j:Nat->St->Hp->Prop)(h0:j 0 f H)(hl:∀i f H,j i f H->SqL K H a xs)(hs:∀i x f H,xs.reverse[i]?=some x->j i f H->g x f H λq B=>tb { D with nx:=j (i+1),ct:=j (i+1),bk:=D.nx } q B)(hd:∀f H,j xs.length f H->D.nx f H):
  ∃W:Nat->Nat->St->Hp->Prop,(∃m,W 0 m f H)/\∀i m f H,W i m f H ->
   ((Itv K a xs.length).stop i H/\D.nx f H)\/((Itv K a xs.length).go i H/\∃N,(∀u H',N u H'->∃C,C<m/\W (i+1) C u H')/\∀x H',(Itv K a xs.length).yld i H x H'->g x f H' λq B=>tb { D with nx:=N,ct:=N,bk:=D.nx } q B):=by
 refine z4t j h0 (λi f H h p=>⟨xs,xs.reverse[i]'(by simpa using h),hl i f H p,rfl,Ci _⟩) (λf H _=>Aq _) (λi v f H H' h p E=>?_) hd;obtain⟨rfl,y⟩:=E;exact hs i v f _ (y xs (hl i f _ p)) p
end
def Inv.freezeK{C:St}(I:Inv X pins C H s)(hd:H d=some u)(ho:s.heap.get? d=some ob)(G:(∃f,u=.dK f)\/∃f,u=.dT f):Inv X pins C (upd H d (.frz ob u)) s:=by
 have h:∀{v:HO} {b:Addr},H b=some v->((∀f,v≠.dK f)/\∀f,v≠.dT f)->b≠d:=λ{v b} z hv y=>by
  subst y;rw[hd] at z;cases z;rcases G with⟨f,rfl⟩|⟨f,rfl⟩
  ·exact hv.1 _ rfl
  ·exact hv.2 _ rfl
 have j:∀{b:Addr},H b=none->b≠d:=λ{b} z y=>by subst y;rw[hd] at z;cases z
 refine⟨I.ok,I.os,I.bare,⟨I.base.keep,I.base.slot,λb o e n J=>?_,I.base.there,λb D e=>?_,λb o v e=>?_,λb L e=>?_⟩,I.loc,I.cell,?_,λx c e=>?_,λp hp=>?_,λb v e=>?_,I.len⟩
 ·have z:=I.base.free b o e n J;rw[q0d (j z)];exact z
 ·have z:=I.base.tups b D e;rw[q0d (h z ⟨λ_ y=>(by cases y),λ_ y=>(by cases y)⟩)];exact z
 ·have z:=I.base.frzs b o v e;rw[q0d (h z ⟨λ_ y=>(by cases y),λ_ y=>(by cases y)⟩)];exact z
 ·obtain⟨m,z⟩:=I.base.tbls b L e;exact⟨m,by rw[q0d (h z ⟨λ_ y=>(by cases y),λ_ y=>(by cases y)⟩)];exact z⟩
 ·rw[q0d (j I.free)];exact I.free
 ·rw[q0d (j (I.freeC x c e))];exact I.freeC x c e
 ·obtain⟨e,n,ne,B,M⟩:=I.pin p hp;exact⟨e,by rw[q0d (j n)];exact n,ne,B,M⟩
 ·have st:∀{b:Addr} {v:HO},ObjOk X.prog X.w H s.heap b v->ObjOk X.prog X.w (upd H d (.frz ob u)) s.heap b v:=λx =>
   x.stay (λ_ _ _ q=>q) (λc q=>by rw[q0d (h q ⟨λ_ y=>(by cases y),λ_ y=>(by cases y)⟩)];exact q) λc D q=>by rw[q0d (h q ⟨λ_ y=>(by cases y),λ_ y=>(by cases y)⟩)];exact q
  by_cases E:b=d
  ·subst E;rw[q0b] at e;cases e;exact⟨ho,st (I.hok b u hd)⟩
  ·rw[q0d E] at e;exact st (I.hok b v e)
end L2
namespace K
open PySem L2 TX
noncomputable def dg(m:Nat):List Nat:=tl (Ar (toString (m:Int)))
def dg_mk(m:Nat):Ar (toString (m:Int))=mk (dg m):=(z8g _).symm
def x2d(m):dg m=(Nat.toDigits 10 m).map Char.toNat:=W.KIN.signs_num m
def q5r(h:m<10):dg m=[48+m]:=by
 rw[x2d,Nat.toDigits_of_lt_base h];exact(by decide:∀m:Nat,m<10->[Nat.digitChar m].map Char.toNat=[48+m]) m h
def z3n(h:10<=m):dg m=dg (m / 10)++[48+m%10]:=by
 have f:m%10<10:=Nat.mod_lt m (by decide);have t:Nat.toDigits 10 (m / 10)++Nat.toDigits 10 (m%10)=Nat.toDigits 10 (10*(m / 10)+m%10):=Nat.toDigits_append_toDigits (by decide) (by lia) f;rw[Nat.div_add_mod] at t;rw[x2d,x2d,<- t,Ae];congr 1;exact(x2d (m%10)).symm.trans (q5r f)
def z8n(m):∀c∈dg m,c∈FI:=by
 have j:∀d:Nat,d<10->48+d∈FI:=by trivial
 induction m using Nat.strongRecOn with
 |_ m ih =>
  by_cases h:m<10
  ·rw[q5r h];intro c f;rw[Ak.mp f];exact j m h
  ·rw[z3n (by lia)];intro c f;rcases Ao.mp f with z|z
   ·grind
   ·rw[Ak.mp z];exact j _ (Nat.mod_lt m (by decide))
def x5j(m):∃d r,dg m=(48+d)::r/\d<10/\(d=0->m=0/\r=[]):=by
 induction m using Nat.strongRecOn with
 |_ m ih =>
  by_cases h:m<10
  ·exact⟨m,[],q5r h,h,λz=>⟨z,rfl⟩⟩
  ·obtain⟨d,r,f,j,q⟩:=ih (m / 10) (by lia);refine⟨d,r++[48+m%10],by rw[z3n (by lia),f];rfl,j,λz=>?_⟩;have:=(q z).1;lia
theorem x3v:∀(k m),m<10^(k+1)->(dg m).length<=k+1
 |0,m,h=>by rw[q5r (by simpa using h)];exact Aq _
 |k+1,m,h=>by
  by_cases f:m<10
  ·rw[q5r f];simp
  ·rw[z3n (by lia),An,El];have:=x3v k (m / 10) (by rw[Nat.pow_succ] at h;lia);lia
def dg_pos(m):1<=(dg m).length:=by obtain⟨d,r,h,_⟩:=x5j m;rw[h];simp
def z8o(h:m<10^10):PySem.intText? (mk (dg m))=some (m:Int):=by
 exact W.KIN.num_reads (by lia) (by lia)
end K
namespace L2
open PySem PySem.Spec PyProof.Rows
def Inv.thaw{B:St}(I:Inv X pins B H s)(hd:H d=some (.frz ob u))(h0:∀o v,X.H₀ d≠some (.frz o v)):Inv X pins B (upd H d u) s:=by
 have f:∀{v:HO} {b:Addr},H b=some v->(∀o z,v≠.frz o z)->b≠d:=λ{v b} z hv y=>by
  subst y;rw[hd] at z;cases z;exact hv _ _ rfl
 have h:∀{b:Addr},H b=none->b≠d:=λ{b} z y=>by subst y;rw[hd] at z;cases z
 refine⟨I.ok,I.os,I.bare,⟨I.base.keep,I.base.slot,λb o e n E=>?_,I.base.there,λb C e=>?_,λb o v e=>?_,λb G e=>?_⟩,I.loc,I.cell,?_,λx c e=>?_,λp hp=>?_,λb v e=>?_,I.len⟩
 ·have z:=I.base.free b o e n E;rw[q0d (h z)];exact z
 ·have z:=I.base.tups b C e;rw[q0d (f z λ_ _ y=>(by cases y))];exact z
 ·have z:=I.base.frzs b o v e;rw[q0d (λy=>by subst y;exact h0 _ _ e)];exact z
 ·obtain⟨m,z⟩:=I.base.tbls b G e;exact⟨m,by rw[q0d (f z λ_ _ y=>(by cases y))];exact z⟩
 ·rw[q0d (h I.free)];exact I.free
 ·rw[q0d (h (I.freeC x c e))];exact I.freeC x c e
 ·obtain⟨e,n,ne,j,J⟩:=I.pin p hp;exact⟨e,by rw[q0d (h n)];exact n,ne,j,J⟩
 ·have st:∀{b:Addr} {v:HO},ObjOk X.prog X.w H s.heap b v->ObjOk X.prog X.w (upd H d u) s.heap b v:=λx =>
   x.stay (λ_ _ _ q=>q) (λc q=>by rw[q0d (f q λ_ _ y=>(by cases y))];exact q) λc C q=>by rw[q0d (f q λ_ _ y=>(by cases y))];exact q
  by_cases D:b=d
  ·subst D;rw[q0b] at e;cases e;exact st (I.hok b _ hd).2
  ·rw[q0d D] at e;exact st (I.hok b v e)
noncomputable def Ends.thaw(D:Ends)(d:Addr):Ends where
 nx:=λσ H=>∃ob u,H d=some (.frz ob u)/\D.nx σ (upd H d u)
 rt:=λv H=>∃ob u,H d=some (.frz ob u)/\D.rt v (upd H d u)
 bk:=λσ H=>∃ob u,H d=some (.frz ob u)/\D.bk σ (upd H d u)
 ct:=λσ H=>∃ob u,H d=some (.frz ob u)/\D.ct σ (upd H d u)
noncomputable def tThaw(h₀:Hp)(t:TS):TS:=λD σ H=>∃d,(∀o v,h₀ d≠some (.frz o v))/\t (D.thaw d) σ H
def q3y{st}(B)(L:X.H₀=B)(h:PS X st t):PS X st (tThaw B t):=by
 subst L;intro E s M H D I q;obtain⟨d,hd,q⟩:=q;refine Dl (h E s M H _ I q) (λf O z=>?_) λ_ _ z=>z;cases f with
 |next=>obtain⟨j,G,C,J,u,e,n⟩:=z;exact⟨j,_,C.thaw e hd,n⟩
 |brk=>obtain⟨j,G,C,J,u,e,n⟩:=z;exact⟨j,_,C.thaw e hd,n⟩
 |cont=>obtain⟨j,G,C,J,u,e,n⟩:=z;exact⟨j,_,C.thaw e hd,n⟩
 |ret v=>obtain⟨x,j,G,C,r,J,u,e,n⟩:=z;exact⟨x,j,_,C.thaw e hd,r,n⟩
end L2
namespace PySem.Rv
open Sem (wp)
section
variable{prog:Aw}{w:World}{A:Around}{E:Value->Ag->Prop}{s:Ag}{it d:Addr}{i ep:Nat}{dob:Obj}{ens:Array Mx}
def keys_iter(f:(d==Eh)=false)(q:s.TypeIs (.ref d) "dict")(h:s.heap.get? d=some dob)(j:dob.data=.dict ens ep)(u:Q (.ref s.heap.objs.size) { s with heap:=s.heap.push { cls:=.type "dict_keyiterator",data:=.fields #[.ref d,.int 0 0,.int ens.size 0,.int ep 0] } }):
  wpAny (model prog w) A (Kb (.ref d)) Q E s:=by
 refine Jn q Vt (Bw Vt q F.entry_dict_iter ?_ (F.args_dict_iter_1 _));refine Ab (Ab (Hw q (Ad ?_)));show wpAny _ _ (Ju d >>= _) _ _ s;unfold Ju;rw[if_neg (by rw[f];decide)];refine Ab (Ad (Ab (Ej h j (Ab (Gb h j ?_)))));refine Ab (Bz (Ad ⟨_,rfl, "dict_keyiterator",_,⟨_,As _ rfl,rfl⟩,Fx.lookup,?_⟩));simpa[Ee] using u
def keys_item(f:s.heap.IsKeyIter it d i ens.size ep)(u:s.heap.get? d=some dob)(v:dob.data=.dict ens ep)(B)(D:∀h',h'.IsKeyIter it d (i+1) ens.size ep->Fm it s.heap h'->Q (some ens[i].key) { s with heap:=h' }):wpAny (model prog w) A (Hb (.ref it)) Q E s:=by
 obtain⟨G,q,C,h⟩:=id f;refine Ab (Ek (Ca f.typeIs Fx
  (Bw Fx f.typeIs Oa ?_ (Np _))))
 refine Ab (Ad (Ab (Ab ?_)));first|refine Ab (Gx f.typeIs (Ad ?_))|refine Ab (Iu f.typeIs (Ad ?_))
 refine Ab (Jv q h ?_);refine Ab (Ad (Ab (Ej u v ?_)));rw[if_neg (by simp)];refine Ab (Ad (Ab (Gb u v ?_)));rw[if_neg (by simp)];refine Ad ?_;simp only[show ¬((i:Int)<0) from by lia,if_false,Ff,Ed B];refine Ab ?_;first|refine Ab (Gx f.typeIs (Ad ?_))|refine Ab (Iu f.typeIs (Ad ?_))
 refine Ab (Sh f.typeIs ?_);show wpAny _ _ (setField (.ref it) 1 (Ee ((i:Int)+1)) >>= _) _ _ s;refine Ab (Jt q h (by simp) ?_);have j:(s.heap.update it (Mj (·.setIfInBounds 1 (Ee ((i:Int)+1))))).IsKeyIter it d (i+1) ens.size ep :=
  ⟨_,Gm _ q (My (Hn h _)),(Pk ..).trans C,by rw[Hn h];simp[Ee]⟩
 refine Ab (Cq (Ab (Sh (s:={ s with heap:=s.heap.update it (Mj (·.setIfInBounds 1 (Ee ((i:Int)+1)))) }) j.typeIs ?_)));exact Ad (Ad ⟨_,rfl,Ad (D _ j (Eg ..))⟩)
def keys_end(B:A.handled=none)(f:s.heap.IsKeyIter it d i ens.size ep)(h:s.heap.get? d=some dob)(j:dob.data=.dict ens ep)(v:ens.size<=i)(C:∀h',Ol it s.heap h'->Q none { s with heap:=h' }):wpAny (model prog w) A (Hb (.ref it)) Q E s:=by
 obtain⟨G,q,D,u⟩:=id f;refine Ab (Ek (Ca f.typeIs Fx
  (Bw Fx f.typeIs Oa ?_ (Np _))))
 refine Ab (Ad (Ab (Ab ?_)));first|refine Ab (Gx f.typeIs (Ad ?_))|refine Ab (Iu f.typeIs (Ad ?_))
 refine Ab (Jv q u ?_);refine Ab (Ad (Ab (Ej h j ?_)));rw[if_neg (by simp)];refine Ab (Ad (Ab (Gb h j ?_)));rw[if_neg (by simp)];refine Ad ?_;simp only[show ¬((i:Int)<0) from by lia,if_false,Ff,Me v];refine Ab ?_;first|refine Ab (Gx f.typeIs (Ad ?_))|refine Ab (Iu f.typeIs (Ad ?_))
 show wpAny _ _ (setField (.ref it) 0 .none >>= _) _ _ s;refine Ab (Jt q u (by simp) ?_);refine Ab ?_;refine Ab (Bz ?_ (by size_fits));refine Ab (Hi (by first|rfl|(simp only[Li];rfl)) ?_);refine Bz ?_ (by size_fits);refine Ab (Pc ?_);rw[show A.in1.handled=none from B];refine Ab (Ad (Ro ?_));refine Ab (Fn ⟨_,As _ rfl,rfl⟩ Jq ?_);exact Ad (C _ (((Eg ..).extBut.push _).push _))
end
end PySem.Rv
namespace L2
open PySem PySem.Spec PyProof.Rows
noncomputable def Itk(d:Addr)(ob:Obj)(kvs:List (List Key×V)):It :=
 ⟨λi H=>H d=some (.frz ob (.dT kvs))/\i<kvs.length,λi H x H'=>H'=H/\∃k v b,kvs[i]?=some (k,v)/\H b=some (.tup (k.map kV))/\x=.ref b,λi H=>H d=some (.frz ob (.dT kvs))/\kvs.length<=i⟩
def Er.at'{F:α->β->Prop}{i:Nat}(h:Er F l m)(e:l[i]?=some p):∃q,m[i]?=some q/\F p q:=by
 induction h generalizing i with
 |nil=>simp at e
 |cons r _ ih =>
  cases i with
  |zero=>cases e;exact⟨_,rfl,r⟩
  |succ i=>exact ih e
def z8p(ok:HOk P w H h)(j:H d=some (.frz ob (.dT kvs)))(u:ob.data=.dict ens ep):
  h.get? d=some ob/\ens.size=kvs.length/\∀{i:Nat} {k} {v}  hlt ,kvs[i]?=some (k,v)->∃b,ens[i].key=.ref b/\H b=some (.tup (k.map kV)):=by
 obtain⟨f,z,B,E,hp,o,L,G,C,M,D,I,O⟩:=(show ObjOk P w H h d (.frz ob (.dT kvs)) from ok d _ j)
 rw[f] at C;cases C;rw[u] at D;cases D;have hl:=Eu hp;have Q:ens.size=E.length:=by rw[<- Fi,I,Aa]
 refine⟨f,by lia,λ{i k v} hlt hk=>?_⟩;obtain⟨q,R,S,J,T⟩:=Er.at' hp hk;refine⟨q.2.1,?_,J⟩;have:ens.toList[i]?=some (Pl (Ij (mixKind P w)) q):=by simp_all
 rw[Ht,Ed hlt] at this;injection this with this;rw[this];rfl
def z6k{K:Al}(d B:Addr)(ob:Obj)(C:List (List Key×V))(D:Array Mx)(ep:Nat)(j:ob.data=.dict D ep):
  Turn P w K tg (Itk d ob C) [B] B (λi h=>h.IsKeyIter B d i D.size ep) where
 mem:=by simp
 obj:=λi h st b J=>by
  have e:b=B:=by grind
  subst e;obtain⟨o,e,c,R⟩:=st;exact⟨o,e,λv z=>by rw[R] at z;cases z⟩
 keep:=λi h S st k=>st.at λo e=>k B (by simp) o e
 item:=by
  intro X hP hw hK hc i q s σ H E I Q st T;obtain⟨G,hi⟩:=T;obtain⟨f,U,u⟩:=z8p I.hok G j;obtain⟨W,Y,f2,Z,f4,f5⟩:=Q B (by simp);obtain⟨⟨k,v⟩,L⟩:∃p,C[i]?=some p:=⟨C[i],by simp[hi]⟩
  have M:i<D.size:=by lia
  obtain⟨b,a0,a1⟩:=u M L;refine PySem.Rv.keys_item st f j M λS O sb=>?_
  rw[a0];have I1:Inv X q σ H { s with heap:=S }:=I.turned (t':=s.toks) (λb o J e=>(sb.2 b J).trans e) W Y Z f4 f5;obtain⟨o,e,c,R⟩:=id O;exact⟨.ref b,rfl,z3f e c R (by decide) ⟨.ref b,H,I1,rfl,⟨rfl,k,v,b,L,a1,rfl⟩,O,λb J=>(Q b J).1⟩⟩
 done:=by
  intro X hP hw hK hc i q s σ H E I Q st T;obtain⟨G,hi⟩:=T;obtain⟨f,U,u⟩:=z8p I.hok G j;obtain⟨W,Y,f2,Z,f4,f5⟩:=Q B (by simp);exact PySem.Rv.keys_end (I.ok.hd hc) st f j (by lia) λS eb=>⟨rfl,I.turned (t':=s.toks) (λb o J e=>eb b o J e) W Y Z f4 f5⟩
 self:=λ_ _ _ _ _ st h=>wpAny_pyIter_keyiter st h
section
variable{X:Cx}{tg l:Expr}{tl:TE}
noncomputable def iDictT(tl:TE):TI:=λσ H R=>tl σ H λx H1=>∃d kvs,x=.ref d/\H1 d=some (.dT kvs)/\∀ob,R (Itk d ob kvs) (upd H1 d (.frz ob (.dT kvs)))
def x2e(hl:PE X l tl):PI X tg l (iDictT tl):=by
 intro j s O H R I h;refine thnE (hl j s O H _ I h) λv f x P E Q S=>?_;obtain⟨d,u,e,hd,q⟩:=S;subst e;cases Q;obtain⟨z,B,U,hp,G,C,M,ho,J,D,W,Y⟩:=(show ObjOk X.prog X.w P f.heap d (.dT u) from E.hok d _ hd)
 refine PySem.Rv.keys_iter B ⟨G,ho,J.1⟩ ho D ?_;have L:=Bm (Ax ho);have T:=(E.freezeK hd ho (.inr ⟨_,rfl⟩)).kept (t':=f.toks) (h':=f.heap.push { cls:=.type "dict_keyiterator",data:=.fields #[.ref d,.int 0 0,.int C.size 0,.int M 0] }) λb o e=>Ai _ e;refine⟨f.heap.objs.size,[f.heap.objs.size],_,_,_,rfl,T,z6k d _ G u C M D,⟨_,As _ rfl,rfl,rfl⟩,λb Z=>?_,q G⟩;have e:b=f.heap.objs.size:=by grind
 subst e;exact E.fpOk (Aq _) (by rw[q0d (Ex L)];exact E.hok.fresh (Aq _))
def q4l(K)(f:X.K=K)(hl:PE X l tl):PI X tg l (iDictT tl):=x2e hl
def q2s{g:TG}{tb:TS}{D:Ends}(j:Nat->St->Hp->Prop)(h0:j 0 f H)(hl:∀i f H,j i f H->H d=some (.frz ob (.dT kvs)))(hs:∀i k v b f H,kvs[i]?=some (k,v)->H b=some (.tup (k.map kV))->j i f H->g (.ref b) f H λq B=>tb { D with nx:=j (i+1),ct:=j (i+1),bk:=D.nx } q B)(hd:∀f H,j kvs.length f H->D.nx f H):
  ∃W:Nat->Nat->St->Hp->Prop,(∃m,W 0 m f H)/\∀i m f H,W i m f H ->
   ((Itk d ob kvs).stop i H/\D.nx f H)\/((Itk d ob kvs).go i H/\∃N,(∀u H',N u H'->∃C,C<m/\W (i+1) C u H')/\∀x H',(Itk d ob kvs).yld i H x H'->g x f H' λq B=>tb { D with nx:=N,ct:=N,bk:=D.nx } q B):=by
 refine z4t j h0 (λi f H h p=>⟨hl i f H p,h⟩) (λf H p=>⟨hl _ f H p,Aq _⟩) (λi x f H H' h p E=>?_) hd;obtain⟨rfl,k,v,b,hk,G,rfl⟩:=E;exact hs i k v b f _ hk G p
end
end L2
namespace SB
open PySem PyProof.Rows
section
variable{prog:Aw}{w:World}{A:Around}{E:Value->Ag->Prop}{s:Ag}
noncomputable def Tells(prog:Aw)(w:World)(A:Around)(s:Ag)(kd:Ky)(S:Value->Prop)(r:Value->Int):Prop :=
 ∀ E  (x y)  Q ,S x->S y->Q (decide (r x<r y)) s->wpAny (model prog w) A (keyLt' kd x y) Q E s
noncomputable def rk(r:Value->Int)(xs:Array Keyed)(i:Nat):Int:=((xs[i]?).map λp=>r p.1).getD 0
def x5k(h:xs[i]?=ys[j]?):rk r xs i=rk r ys j:=by unfold rk;rw[h]
def rk_if[Decidable c](h:xs[i]?=if c then ys[a]? else ys[b]?):rk r xs i=if c then rk r ys a else rk r ys b:=by
 by_cases f:c
 ·rw[if_pos f] at h ⊢;exact x5k h
 ·rw[if_neg f] at h ⊢;exact x5k h
def z8q(f:j<=xs.size)(k):rk r (Nq xs i j ((j-i) / 2)) k=if i<=k/\k<j then rk r xs (i+j-1-k) else rk r xs k:=rk_if (getElem?_mirror_all f k)
def x3w(hn:n<xs.size)(hd:d<=n)(k):rk r (bubble xs n d) k=if k=n-d then rk r xs n else if n-d<k/\k<=n then rk r xs (k-1) else rk r xs k:=by
 have e:=getElem?_bubble hn d hd k;by_cases h:k=n-d
 ·rw[if_pos h] at e ⊢;exact x5k e
 ·rw[if_neg h] at e ⊢;exact rk_if e
structure Mid (kd) (a₀) (st):Prop where
 pm:(arrOf st).Perm a₀
 kn:kindOf st=kd
 fl:Vu st=none
 pd:Ra st=#[]
variable{kd:Ky}{S:Value->Prop}{r:Value->Int}{a₀:Array Keyed}
def Mid.sz{st}(h:Mid kd a₀ st):(arrOf st).size=a₀.size:=h.pm.size_eq
def Mid.put{st}(h:Mid kd a₀ st)(p:xs.Perm (arrOf st)):Mid kd a₀ (setArr st xs):=⟨p.trans h.pm,h.kn,h.fl,h.pd⟩
def z8r{st}(T:Tells prog w A s kd S r)(f:∀p∈a₀.toList,S p.1)(m:Mid kd a₀ st)(u:i<a₀.size)(v:j<a₀.size)(h:Q (some (decide (rk r (arrOf st) i<rk r (arrOf st) j))) st):wpS (model prog w) A E s (ltAt' i j) Q st:=by
 have get:∀{k:Nat},k<a₀.size->∃p,(arrOf st)[k]?=some p/\S p.1/\rk r (arrOf st) k=r p.1:=λ{k} hk=>by
  have hk':k<(arrOf st).size:=by rw[m.sz];exact hk
  have e:(arrOf st)[k]?=some (arrOf st)[k]:=getElem?_pos _ k hk';refine⟨_,e,f _ ((Pd.mp m.pm).mem_iff.mp (by simp)),?_⟩;unfold rk;rw[e];rfl
 obtain⟨p,B,C,D⟩:=get u;obtain⟨q,G,H,I⟩:=get v;rw[D,I] at h;refine Cr (Si ?_);show wpS _ _ _ _ (elem' (arrOf st) i >>= λx=>elem' (arrOf st) j >>= λy=>lt' x y) Q st;rw[elem'_eq,elem'_eq,B,G];refine Cr (Eb (Cr (Eb ?_)));rw[lt'_eq];refine Cr (Si ?_);rw[m.kn];exact Cr (wpS_lift (Ek (T _ p.1 q.1 _ C H ⟨rfl,Eb h⟩)))
noncomputable def Up(r:Value->Int)(xs:Array Keyed)(n:Nat):Prop:=∀i j,i<=j->j<n->rk r xs i<=rk r xs j
noncomputable def Down(r:Value->Int)(xs:Array Keyed)(n:Nat):Prop:=∀i j,i<=j->j<n->rk r xs j<=rk r xs i
def Up.one:Up r xs 1:=λi j f h=>by rw[show i=j by lia];exact Rp _
def Up.more(h:Up r xs n)(q:1<=n)(e:rk r xs (n-1)<=rk r xs n):Up r xs (n+1):=λi j a b=>by
 by_cases z:j<n
 ·exact h i j a z
 ·have f:j=n:=by lia
  subst f;by_cases y:i=j
  ·grind
  ·have:=h i (j-1) (by lia) (by lia);lia
def Down.more(h:Down r xs n)(q:1<=n)(e:rk r xs n<=rk r xs (n-1)):Down r xs (n+1):=λi j a b=>by
 by_cases z:j<n
 ·exact h i j a z
 ·have f:j=n:=by lia
  subst f;by_cases y:i=j
  ·grind
  ·have:=h i (j-1) (by lia) (by lia);lia
def Down.mir(h:Down r xs n)(hn:n<=xs.size):Up r (Nq xs 0 n ((n-0) / 2)) n:=λi j a b=>by
 rw[z8q hn,z8q hn,if_pos (by lia),if_pos (by lia)];exact h _ _ (by lia) (by lia)
def q7w(f:j<=xs.size)(h:∀k,i<=k->k<j->rk r xs k=rk r xs (j-1))(k):rk r (Nq xs i j ((j-i) / 2)) k=rk r xs k:=by
 rw[z8q f];by_cases z:i<=k/\k<j
 ·grind
 ·rw[if_neg z]
def x3x{st}(T:Tells prog w A s kd S r)(v:∀p∈a₀.toList,S p.1)(m:Mid kd a₀ st)(hn:n<=a₀.size)(G:1<=a)(B:a<=n)(u:Up r (arrOf st) a)(h:∀k,a<=k->k<=n->Up r (arrOf st) k->(k=n\/rk r (arrOf st) k<rk r (arrOf st) (k-1))->Q (none,k) st):wpS (model prog w) A E s (ascLoop a n) Q st:=by
 refine Kz (λx c t=>t=st/\c=(none,x)/\Up r (arrOf st) x) (λx c t C D ⟨j,q,f⟩=>?_) (λc t ⟨j,q,f⟩=>?_) ⟨rfl,rfl,u⟩
 ·subst j q;refine Cr (z8r T v m (by lia) (by lia) ?_);by_cases z:rk r (arrOf t) x<rk r (arrOf t) (x-1)
  ·simp only[decide_eq_true z,if_true];exact Eb (h x C (by lia) f (.inr z))
  ·simp only[decide_eq_false z,Bh,if_false];exact Eb ⟨rfl,rfl,f.more (by lia) (by lia)⟩
 ·grind
def z8s{st}(T:Tells prog w A s kd S r)(v:∀p∈a₀.toList,S p.1)(m:Mid kd a₀ st)(hn:n<=a₀.size)(B:1<=k)(f:k<=n)(d:Down r (arrOf st) k)(h:∀j t,Mid kd a₀ t->1<=j->j<=n->Up r (arrOf t) j->Q (some j) t):wpS (model prog w) A E s (tail3 k n) Q st:=by
 have q:=m.put (Rq (arrOf st) 0 k ((k-0) / 2));refine Cr (Rr (Cr (x3x T v q hn B f (d.mir (by rw[m.sz];lia)) λj a b u _=>Eb (h j _ q (by lia) b u))))
def x5l{st}(T:Tells prog w A s kd S r)(B:∀p∈a₀.toList,S p.1)(m:Mid kd a₀ st)(hn:n<=a₀.size)(M:1<=k)(G:k<=n)(d:Down r (arrOf st) k)(h:∀j q t,Mid kd a₀ t->k<=j->j<=n->Down r (arrOf t) j->q+1<=j->(∀i,j-(q+1)<=i->i<j->rk r (arrOf t) i=rk r (arrOf t) (j-1))->Q (none,j,q) t):wpS (model prog w) A E s (descLoop k n) Q st:=by
 refine Kz (λx c t=>∃q,c=(none,x,q)/\Mid kd a₀ t/\Down r (arrOf t) x/\q+1<=x/\∀i,x-(q+1)<=i->i<x->rk r (arrOf t) i=rk r (arrOf t) (x-1))
  (λx c t H I ⟨q,C,f,u,D,eq⟩=>?_) (λc t ⟨q,C,f,u,D,eq⟩=>?_) ⟨0,rfl,m,d,by lia,λi a b=>by rw[show i=k-1 by lia]⟩
 ·subst C;have J:x<=(arrOf t).size:=by rw[f.sz];lia
  dsimp only;refine Cr (z8r T B f (by lia) (by lia) ?_);by_cases z:rk r (arrOf t) x<rk r (arrOf t) (x-1)
  ·simp only[decide_eq_true z,if_true];by_cases y:q>0
   ·rw[if_pos y];have v:=λk=>q7w J eq k;have L:Down r (Nq (arrOf t) (x-(q+1)) x ((x-(x-(q+1))) / 2)) x:=λi j a b=>by rw[v,v];exact u i j a b
    exact Cr (Rr (Eb ⟨0,rfl,f.put (Rq _ _ _ _),L.more (by lia) (by rw[v,v];lia),by lia,λi a b=>by rw[show i=x+1-1 by lia]⟩))
   ·rw[if_neg y];exact Eb ⟨0,rfl,f,u.more (by lia) (by lia),by lia,λi a b=>by rw[show i=x+1-1 by lia]⟩
  ·simp only[decide_eq_false z,Bh,if_false];refine Cr (z8r T B f (by lia) (by lia) ?_);by_cases y:rk r (arrOf t) (x-1)<rk r (arrOf t) x
   ·simp only[decide_eq_true y,if_true];exact Eb (h x q t f H (by lia) u D eq)
   ·simp only[decide_eq_false y,Bh,if_false];have ex:rk r (arrOf t) x=rk r (arrOf t) (x-1):=by lia
    refine Eb ⟨q+1,rfl,f,u.more (by lia) (by lia),by lia,λi a b=>?_⟩;rw[show x+1-1=x by lia,ex];by_cases c:i=x
    ·rw[c,ex]
    ·grind
 ·grind
def z8t{st}(T:Tells prog w A s kd S r)(f:∀p∈a₀.toList,S p.1)(m:Mid kd a₀ st)(hn:n<=a₀.size)(u:k+1<=n)(d:Down r (arrOf st) (k+1))(h:∀j t,Mid kd a₀ t->1<=j->j<=n->Up r (arrOf t) j->Q (some j) t):wpS (model prog w) A E s (descPart k n) Q st:=by
 refine Cr (wpS_lift (Gk ⟨rfl,Cr (x5l T f m hn (by lia) u d λj q t v a b dt H eq=>?_)⟩));have B:j<=(arrOf t).size:=by rw[v.sz];lia
 dsimp only;by_cases y:q>0
 ·rw[if_pos y];exact Cr (Rr (z8s T f (v.put (Rq _ _ _ _)) hn (by lia) b (λi C D G=>by show rk r (Nq _ _ _ _) C<=rk r (Nq _ _ _ _) i;rw[q7w B eq,q7w B eq];exact dt i C D G) h))
 ·rw[if_neg y];exact z8s T f v hn (by lia) b dt h
def run_ok{st}(T:Tells prog w A s kd S r)(q:∀p∈a₀.toList,S p.1)(m:Mid kd a₀ st)(hn:n<=a₀.size)(B:1<=n)(h:∀j t,Mid kd a₀ t->1<=j->j<=n->Up r (arrOf t) j->Q (some j) t):wpS (model prog w) A E s (countRun' 0 n) Q st:=by
 rw[countRun0_eq];refine Cr (x3x T q m hn (Aq 1) B Up.one λk a b u o=>?_);have v:k<=(arrOf st).size:=by rw[m.sz];lia
 dsimp only;by_cases e:k=n
 ·rw[if_pos (by simpa using e)];exact Eb (h k st m a b u)
 rw[if_neg (by simpa using e)];by_cases g:k>1
 ·rw[if_pos g];refine Cr (z8r T q m (by lia) (by lia) ?_);by_cases z:rk r (arrOf st) 0<rk r (arrOf st) (k-1)
  ·simp only[decide_eq_true z,if_true];exact Eb (h k st m a b u)
  ·simp only[decide_eq_false z,Bh,if_false];have f:∀i,0<=i->i<k->rk r (arrOf st) i=rk r (arrOf st) (k-1):=λi _ C=>by
    have H:=u 0 i (by lia) C;have I:=u i (k-1) (by lia) (by lia);lia
   refine Cr (Rr (z8t T q (m.put (Rq _ _ _ _)) hn (by lia) (Down.more (λi j D G=>?_) (by lia) ?_) h))
   ·show rk r (Nq _ _ _ _) j<=rk r (Nq _ _ _ _) i;rw[q7w v f,q7w v f,f i (by lia) (by lia),f j (by lia) (by lia)];exact Rp _
   ·show rk r (Nq _ _ _ _) k<=rk r (Nq _ _ _ _) (k-1);rw[q7w v f,q7w v f];lia
 ·rw[if_neg g];exact z8t T q m hn (by lia) (Down.more (λi j D G=>by rw[show i=j by lia];exact Rp _) (by lia) (by lia)) h
def ins_ok{st}(T:Tells prog w A s kd S r)(O:∀p∈a₀.toList,S p.1)(m:Mid kd a₀ st)(hn:n<=a₀.size)(hk:k<=n)(u:Up r (arrOf st) k)(h:∀t,Mid kd a₀ t->Up r (arrOf t) n->Q true t):wpS (model prog w) A E s (binarySort' 0 n k) Q st:=by
 rw[binarySort'_eq];simp only[Nat.zero_add];refine Cr (Vv (Kz (λj c t=>c=(none,())/\Mid kd a₀ t/\Up r (arrOf t) (min j n)) (Q:=λc t=>c=(none,())/\Mid kd a₀ t/\Up r (arrOf t) n) ?step ?fin ⟨rfl,m,?init⟩) ?post)
 case step =>
  rintro j c t hj P ⟨rfl,C,v⟩;refine Cr (Vv (Kz (λx c B=>B=t/\∃f q,c=(none,f,q)/\f<=q/\q<=j/\q-f<=j-x/\(∀i,i<f->rk r (arrOf t) i<=rk r (arrOf t) j)/\∀i,q<=i->i<j->rk r (arrOf t) j<rk r (arrOf t) i)
   (Q:=λc B=>B=t/\∃f q,c=(none,f,q)/\f<=j/\(∀i,i<f->rk r (arrOf t) i<=rk r (arrOf t) j)/\∀i,f<=i->i<j->rk r (arrOf t) j<rk r (arrOf t) i)
   ?st2 ?fi2 ⟨rfl,0,j,rfl,by lia,by lia,by lia,λi z=>by lia,λi z y=>by lia⟩) ?po2)
  case st2 =>
   rintro x c B hx R ⟨rfl,f,q,rfl,I,J,U,D,G⟩;dsimp only;by_cases z:f>=q
   ·rw[if_pos z];exact Eb ⟨rfl,f,q,rfl,by lia,D,λi b c=>G i (by lia) c⟩
   ·rw[if_neg z];refine Cr (z8r T O C (by lia) (by lia) ?_);by_cases y:rk r (arrOf B) j<rk r (arrOf B) ((f+q) / 2)
    ·simp only[decide_eq_true y,if_true];refine Eb ⟨rfl,f,(f+q) / 2,rfl,by lia,by lia,by lia,D,λi b c=>?_⟩;have:=v ((f+q) / 2) i b (by lia);lia
    ·simp only[decide_eq_false y,Bh,if_false];refine Eb ⟨rfl,(f+q) / 2+1,q,rfl,by lia,J,by lia,λi b=>?_,G⟩;have:=v i ((f+q) / 2) (by lia) (by lia);lia
  case fi2 =>
   rintro c B ⟨rfl,f,q,rfl,I,J,U,D,G⟩;exact⟨rfl,f,q,rfl,by lia,D,λi b c=>G i (by lia) c⟩
  case po2 =>
   rintro c B ⟨rfl,f,q,rfl,I,D,G⟩;rw[moveDown'_eq];have L:j<(arrOf B).size:=by rw[C.sz];lia
   refine Cr (Wk (Eb ⟨rfl,C.put (bubble_perm _ _ _),λi H b c=>?_⟩));have W:j-(j-f)=f:=by lia
   rw[x3w L (by lia),x3w L (by lia),W];by_cases X:i=f
   ·grind
   ·rw[if_neg X];by_cases Y:H=f
    ·grind
    ·rw[if_neg Y];by_cases M:f<i/\i<=j
     ·rw[if_pos M,if_pos (by lia)];exact v _ _ (by lia) (by lia)
     ·rw[if_neg M];by_cases Z:f<H/\H<=j
      ·grind
      ·rw[if_neg Z];exact v _ _ b (by lia)
 case fin =>
  rintro c t ⟨ec,C,v⟩;have e:min (max (max k 1) n) n=n:=by lia
  rw[e] at v;exact⟨ec,C,v⟩
 case init =>
  intro i j a b;by_cases z:k=0
  ·grind
  ·exact u i j a (by lia)
 case post =>
  rintro c t ⟨rfl,C,v⟩;exact Eb (h t C v)
structure Fin' (a₀) (r) (st):Prop where
 pm:(arrOf st).Perm a₀
 fl:Vu st=none
 pd:Ra st=#[(0,a₀.size,0)]
 up:Up r (arrOf st) a₀.size
def x5m{st}(T:Tells prog w A s kd S r)(H:∀p∈a₀.toList,S p.1)(m:Mid kd a₀ st)(P:2<=a₀.size)(I:a₀.size<64)(h:∀t,(arrOf t).Perm a₀->Vu t=none->Up r (arrOf t) a₀.size->Q () t):wpS (model prog w) A E s sortRuns' Q st:=by
 rw[sortRuns'_eq];have J:minRun' a₀.size a₀.size 0=a₀.size:=by
  cases z:a₀.size with
  |zero=>rfl
  |succ f=>rw[minRun'_succ,if_pos (by lia)]
 have fin:∀{t:Jf},Mid kd a₀ t->Up r (arrOf t) a₀.size->Fin' a₀ r (setPending t ((Ra t).push (0,a₀.size,0))):=λ{t} u ut=>⟨u.pm,u.fl,by show(Ra t).push _=_;rw[u.pd];rfl,ut⟩
 have q:∀{t:Jf},Mid kd a₀ t->(Ra t).back?=none:=λ{t} u=>by rw[u.pd];rfl
 refine Cr (Si ?_);simp only[m.sz,J];refine Cr (Vv (Kz (λx c t=>(x=0/\c=(none,0)/\Mid kd a₀ t)\/(1<=x/\c=(none,a₀.size)/\Fin' a₀ r t)) (Q:=λc t=>c=(none,a₀.size)/\Fin' a₀ r t) ?st1 ?fi1 (.inl ⟨rfl,rfl,m⟩)) ?po1)
 case st1 =>
  intro x c t _ R o;rcases o with⟨rfl,rfl,u⟩|⟨U,rfl,f⟩
  ·dsimp only;rw[if_neg (by lia)];simp only[La,Ui,Nat.zero_add];refine Cr (run_ok T H u (Aq _) (by lia) λj B v W L C=>?_);dsimp only;by_cases z:j<a₀.size
   ·rw[if_pos z];refine Cr (wpS_lift (Gk ⟨rfl,Cr (ins_ok T H v (Aq _) L C λX D G=>?_)⟩));refine Cr (Si ?_);rw[q D];exact Cr (Wk (Eb (.inr ⟨by lia,rfl,fin D G⟩)))
   ·rw[if_neg z];have M:j=a₀.size:=by lia
    subst M;refine Cr (Si ?_);rw[q v];exact Cr (Wk (Eb (.inr ⟨by lia,rfl,fin v C⟩)))
  ·dsimp only;rw[if_pos (Aq _)];exact Eb ⟨rfl,f⟩
 case fi1 =>
  intro c t o;rcases o with⟨z,_⟩|⟨_,O,f⟩
  ·lia
  ·exact⟨O,f⟩
 case po1 =>
  rintro c t ⟨rfl,f⟩;refine Cr (Vv (Kz (λ_ c B=>B=t/\c=(none,())) (Q:=λc B=>B=t/\c=(none,())) ?st3 (λ_ _ z=>z) ⟨rfl,rfl⟩) ?po3)
  case st3 =>
   rintro x c B _ _ ⟨rfl,rfl⟩;refine Cr (Si ?_);rw[if_pos (by rw[f.pd];exact Aq 1)];exact Eb ⟨rfl,rfl⟩
  case po3 =>
   rintro c B ⟨rfl,rfl⟩;exact Eb (h _ f.pm f.fl f.up)
end
end SB
namespace PySem.Rv
open Sem (wp)
noncomputable abbrev itemObj(d:Addr)(i n ep:Nat)(f0 f1 ok ov:Value):Obj:={ cls:=.type "dict_itemiterator",dict:=none,data:=.fields #[f0,f1,.ref d,.int i 0,.int n 0,.int ep 0,ok,ov],slots:=#[] }
noncomputable def ItemIt(h:Heap)(it d:Addr)(i n ep:Nat):Prop:=∃f0 f1 ok ov,h.get? it=some (itemObj d i n ep f0 f1 ok ov)/\(f0=.none\/∃a:Addr,f0=Ee a)
def ItemIt.typeIs{s:Ag}(x:ItemIt s.heap it d i n ep):s.TypeIs (.ref it) "dict_itemiterator" := by
 obtain⟨f,h,ok,j,e,_⟩:=x;exact⟨_,e,rfl⟩
def ItemIt.lt(x:ItemIt h it d i n ep):it<h.objs.size:=by
 obtain⟨f,j,ok,q,e,_⟩:=x;exact Ax e
def ItemIt.keep(x:ItemIt h it d i n ep)(k:∀o,h.get? it=some o->h'.get? it=some o):ItemIt h' it d i n ep:=by
 obtain⟨f,j,ok,q,e,z⟩:=x;exact⟨f,j,ok,q,k _ e,z⟩
section
variable{prog:Aw}{w:World}{A:Around}{E:Value->Ag->Prop}{s:Ag}{it d v:Addr}{i ep:Nat}{dob:Obj}{ens:Array Mx}
def items_iter(j:s.heap.IsItemsView v d)(f:s.heap.get? d=some dob)(h:dob.data=.dict ens ep)(q:Q (.ref s.heap.objs.size) { s with heap:=s.heap.push (itemObj d 0 ens.size ep .none (.bool false) .none .none) }):wpAny (model prog w) A (Kb (.ref v)) Q E s:=by
 obtain⟨o,ho,B,u⟩:=id j;refine Jn j.typeIs Rt (Bw Rt j.typeIs F.entry_dict_items_iter ?_ (F.args_dict_items_iter_1 _));unfold Dk.«dict_items.__iter__»;refine Ab (Ad (Ab ?_));unfold Pp;refine Ab (Cm ho u rfl (Ad (Ab ?_)));unfold Nr;refine Ab (Ej f h (Ab (Gb f h ?_)));simp only[show Em "dict_itemiterator" = true from by decide,if_true];refine Bz (Ad ⟨_,rfl, "dict_itemiterator",_,⟨_,As _ rfl,rfl⟩,Ef.lookup,?_⟩) (by simp[sizeOk,Lj,Ey]);simpa[Ee,itemObj,Lj] using q
def q7x(e:s.heap.get? it=some (itemObj d i n ep f0 f1 ok ov))(hk:k<8)(f:∀h',h'.get? it=some { cls:=.type "dict_itemiterator",dict:=none,data:=.fields ((#[f0,f1,.ref d,.int i 0,.int n 0,.int ep 0,ok,ov]:Array Value).setIfInBounds k x),slots:=#[] }->Fm it s.heap h'->Q () { s with heap:=h' }):
  wpAny (model prog w) A (setField (.ref it) k x) Q E s:=Dd e (by simpa using hk) f
def owned(x:ItemIt s.heap it d i n ep)(f:∀b h',ItemIt h' it d i n ep->Fm it s.heap h'->Q b { s with heap:=h' }):
  wpAny (model prog w) A (Dk.Dict_items.ownedTupleIsFree (.ref it)) Q E s:=by
 obtain⟨B,h,ok,C,e,z⟩:=id x;refine Ab (Cm e rfl rfl ?_);rcases z with rfl|⟨a,rfl⟩
 ·exact Ad (f true s.heap x (Lv _ _))
 ·show wpAny _ _ (loadIfAlive (Int.toNat (a:Int)) >>= _) _ _ _;have q:∀{Q':Option Obj->Ag->Prop},Q' (s.heap.get? (Int.toNat (a:Int))) s->wpAny (model prog w) A (loadIfAlive (Int.toNat (a:Int))) Q' E s:=λh' _ _ _=>h';refine Ab (q ?_);by_cases hn:(s.heap.get? (Int.toNat (a:Int))).isNone=true
  ·rw[if_pos hn];exact Ad (f true s.heap x (Lv _ _))
  ·rw[if_neg hn];refine Ab (Cm e rfl (x:=h) rfl ?_);by_cases j:(h != Value.bool true)=true
   ·rw[if_pos j];refine Ab (q7x e (by decide) λh' u v=>Ad (f false h' ⟨_,_,_,_,u,.inr ⟨a,rfl⟩⟩ v))
   ·rw[if_neg j];exact Ad (f false s.heap x (Lv _ _))
def items_item(x:ItemIt s.heap it d i ens.size ep)(T:s.heap.get? d=some dob)(U:dob.data=.dict ens ep)(a2)(hQ:∀h',ItemIt h' it d (i+1) ens.size ep->h'.get? s.heap.objs.size=some { cls:=.type "tuple",data:=.seq #[ens[i].key,ens[i].val] }->h'.objs.size=s.heap.objs.size+1 ->
   (∀b o,b≠it->s.heap.get? b=some o->h'.get? b=some o)->Q (some (.ref s.heap.objs.size)) { s with heap:=h' }):wpAny (model prog w) A (Hb (.ref it)) Q E s:=by
 obtain⟨f0,f1,ok,ov,e,z⟩:=id x;have S:=x.typeIs;refine Ab (Ek (Ca S Ef (Bw Ef S Nt ?_ (Nf _))));refine Ab (Ad (Ab (Ab ?_)));first|refine Ab (Gu S (Ad ?_))|refine Ab (Ig S (Ad ?_))
 refine Ab (Jv e rfl ?_);simp only[show Em "dict_itemiterator" = true from by decide,if_true];refine Ab (Ad (Ab (Ej T U ?_)));rw[if_neg (by simp)];refine Ab (Ad (Ab (Gb T U ?_)));rw[if_neg (by simp)];refine Ad ?_;simp only[show ¬((i:Int)<0) from by lia,if_false,Ff,Ed a2];refine Ab ?_;first|refine Ab (Gu S (Ad ?_))|refine Ab (Ig S (Ad ?_))
 refine Ab (Mg S ?_);show wpAny _ _ (setField (.ref it) 3 (Ee ((i:Int)+1)) >>= _) _ _ s;refine Ab (q7x e (by decide) λj W u=>?_);have v:ItemIt j it d (i+1) ens.size ep:=⟨f0,f1,ok,ov,by rw[W];simp[itemObj,Ee],z⟩
 refine Ab (Cq ?_);refine Ab (Mg v.typeIs (Ab (Mg v.typeIs ?_)));have B:=u.1;have X:=Bm x.lt;refine Ab (Oi ?_);refine Ab (owned (v.keep λo q=>Ai _ q) λb f L h=>?_);have M:f.get? s.heap.objs.size=some { cls:=.type "tuple",data:=.seq #[ens[i].key,ens[i].val] }:=by
  rw[h.2 _ (Ex X),<- B];exact As _ rfl
 have O:f.objs.size=s.heap.objs.size+1:=by rw[h.1];show(j.push _).objs.size=_;rw[Fv,B]
 have P:∀b o,b≠it->s.heap.get? b=some o->f.get? b=some o:=λb o J q=>by
  rw[h.2 b J];exact Ai _ ((u.2 b J).trans q)
 have ez:(Value.ref j.objs.size)=.ref s.heap.objs.size:=by rw[B]
 cases b with
 |false =>
  refine Ad (Ad ⟨_,rfl,Ad ?_⟩);rw[ez];exact hQ f L M O P
 |true =>
  obtain⟨g0,g1,a6,a7,C,_⟩:=L;refine Ab (Cm C rfl rfl (Ab (Cm C rfl rfl ?_)));refine Ab (q7x C (by decide) λa3 Y D=>?_);refine Ab (q7x Y (by decide) λa4 Z G=>?_);refine Ab (q7x Z (by decide) λa5 a0 H=>?_);refine Ab (q7x a0 (by decide) λR a1 I=>?_);have kk:∀b o,b≠it->f.get? b=some o->R.get? b=some o:=λb o J q=>(I.2 b J).trans ((H.2 b J).trans ((G.2 b J).trans ((D.2 b J).trans q)))
  refine Ab (Gq (Ad (Ad ⟨_,rfl,Ad ?_⟩)));rw[ez];refine hQ R ⟨_,_,_,_,a1,.inr ⟨_,rfl⟩⟩ (kk _ _ (Ex X) M) ?_ λb o J q=>kk b o J (P b o J q);rw[I.1];rw[H.1];rw[G.1];rw[D.1];exact O
def items_end(u:A.handled=none)(x:ItemIt s.heap it d i ens.size ep)(h:s.heap.get? d=some dob)(j:dob.data=.dict ens ep)(q:ens.size<=i)(v:∀h',Ol it s.heap h'->Q none { s with heap:=h' }):wpAny (model prog w) A (Hb (.ref it)) Q E s:=by
 obtain⟨B,C,ok,D,e,z⟩:=id x;have f:=x.typeIs;refine Ab (Ek (Ca f Ef (Bw Ef f Nt ?_ (Nf _))));refine Ab (Ad (Ab (Ab ?_)));first|refine Ab (Gu f (Ad ?_))|refine Ab (Ig f (Ad ?_))
 refine Ab (Jv e rfl ?_);simp only[show Em "dict_itemiterator" = true from by decide,if_true];refine Ab (Ad (Ab (Ej h j ?_)));rw[if_neg (by simp)];refine Ab (Ad (Ab (Gb h j ?_)));rw[if_neg (by simp)];refine Ad ?_;simp only[show ¬((i:Int)<0) from by lia,if_false,Ff,Me q];refine Ab ?_;first|refine Ab (Gu f (Ad ?_))|refine Ab (Ig f (Ad ?_))
 show wpAny _ _ (setField (.ref it) 2 .none >>= _) _ _ s;refine Ab (Jt e rfl (by simp) ?_);show wpAny _ _ (newExc (.type "StopIteration") [] >>= _) _ _ _;refine Ab ?_;refine Ab (Bz (Ab (Hi (by first|rfl|(simp only[Li];rfl)) ?_)) (by size_fits));refine Bz ?_ (by size_fits);refine Ab (Pc ?_);rw[show A.in1.handled=none from u];refine Ab (Ad (Ro ?_));refine Ab (Fn ⟨_,As _ rfl,rfl⟩ Jq ?_);exact Ad (v _ (((Eg ..).extBut.push _).push _))
def items_go (x : ItemIt s.heap it d i n ep) (f : ∀ h', ItemIt h' it d i n ep → Fm it s.heap h' → Q () { s with heap := h' }) :
    wpAny (model prog w) A (Kl tg (.ref it) u) Q E s := by
  obtain ⟨q, v, ok, B, e, z⟩ := id x
  have same := f s.heap x (Lv _ _)
  cases tg <;> first
    | exact Ad same
    | (cases u <;> first
        | exact Ad same
        | (refine Ab (Sx e ?_)
           refine Rb (λ_ => ?_) (λ_ => Ad same)
           exact q7x e (by decide) λh' h j => f h' ⟨_, _, _, _, h, .inl rfl⟩ j))
end
end PySem.Rv
namespace SB
open PySem PyProof.Rows TX
noncomputable abbrev Pth:=List (List Nat)
noncomputable def pLt:Pth->Pth->Bool
 |[],[]=>false
 |[],_::_=>true
 |_::_,[]=>false
 |a::r,b::t=>if a=b then pLt r t else decide (a<b)
def q5s(a b)(r t:Pth):pLt (a::r) (b::t)=if a=b then pLt r t else decide (a<b):=rfl
theorem q1s:∀p,pLt p p=false
 |[]=>rfl
 |a::r=>by rw[q5s,if_pos rfl];exact q1s r
def z1x{c:List Nat}(h:a<b)(h':b<c):a<c:=List.lt_trans h h'
def x5n{b:List Nat}(h:¬a<b)(h':¬b<a):a=b:=List.le_antisymm (List.not_lt.mp h') (List.not_lt.mp h)
theorem q4m:∀{p q t},pLt p q=true->pLt q t=true->pLt p t=true
 |[],[],_,h,_=>by cases h
 |_::_,[],_,h,_=>by cases h
 |_,_::_,[],_,h=>by cases h
 |[],_::_,_::_,_,_=>rfl
 |a::p,b::q,c::t,h,h'=>by
  rw[q5s] at h h' ⊢;by_cases j:a=b
  ·subst j;rw[if_pos rfl] at h;by_cases f:a=c
   ·rw[if_pos f] at h' ⊢;exact q4m h h'
   ·rw[if_neg f] at h' ⊢;exact h'
  ·rw[if_neg j] at h;by_cases f:b=c
   ·subst f;rw[if_neg j];exact h
   ·rw[if_neg f] at h';have u:=of_decide_eq_true h;have v:=of_decide_eq_true h';have B:=z1x u v;rw[if_neg (λe=>by subst e;exact absurd (z1x u v) (List.lt_irrefl _))];exact decide_eq_true B
theorem q6c:∀{p q},pLt p q=false->pLt q p=false->p=q
 |[],[],_,_=>rfl
 |[],_::_,h,_=>by cases h
 |_::_,[],_,h=>by cases h
 |a::p,b::q,h,h'=>by
  rw[q5s] at h h';by_cases e:a=b
  ·subst e;rw[if_pos rfl] at h h';rw[q6c h h']
  ·rw[if_neg e] at h;rw[if_neg (Ex e)] at h';exact absurd (x5n (of_decide_eq_false h) (of_decide_eq_false h')) e
noncomputable def pRank(ps:List Pth)(p:Pth):Nat:=(ps.filter λq=>pLt q p).length
theorem z1y{j:Type}{f g}:∀(l:List j),(∀x∈l,f x=true->g x=true)->(l.filter f).length<=(l.filter g).length
 |[],_=>Aq _
 |x::r,h=>by
  have q:=z1y r λy u=>h y (Ap _ u);by_cases v:f x=true
  ·simp_all
  ·rw[Di v];by_cases B:g x=true
   ·rw[Dj B];exact Fg q
   ·simp_all
theorem z1z{q:Type}{f g}{y}:∀(l:List q),(∀x∈l,f x=true->g x=true)->y∈l->f y=false->g y=true->(l.filter f).length<(l.filter g).length
 |[],_,j,_,_=>by cases j
 |x::r,h,j,h1,h2=>by
  rcases Bb.mp j with e|j
  ·subst e;rw[Di (by rw[h1];decide),Dj h2];exact Nat.lt_succ_of_le (z1y r λz u=>h z (Ap _ u))
  ·have v:=z1z r (λz u=>h z (Ap _ u)) j h1 h2;by_cases B:f x=true
   ·simp_all
   ·rw[Di B];by_cases C:g x=true
    ·rw[Dj C];exact Jo v
    ·simp_all
def q9b(hp:p∈ps)(h:pLt p q=true):pRank ps p<pRank ps q :=
 z1z ps (λx _ f=>q4m f h) hp (q1s p) h
def z0e(hp:p∈ps)(f:q∈ps):pLt p q=decide ((pRank ps p:Int)<(pRank ps q)):=by
 cases h:pLt p q with
 |true=>have:=q9b hp h;exact(decide_eq_true (by lia)).symm
 |false =>
  cases h':pLt q p with
  |true=>have:=q9b f h';exact(decide_eq_false (by lia)).symm
  |false=>rw[q6c h h'];exact(decide_eq_false (by lia)).symm
noncomputable def PathAt(h:Heap)(v:Value)(p:Pth):Prop:=∃a its,v=.ref a/\IsTup h a its/\Jd its.toList (p.map mk)
def mk_inj(h:mk a=mk b):a=b:=by have:=congrArg tl h;rwa [q3w,q3w] at this
theorem q7y:∀{vs} {ss ts},Jd vs ss->Jd vs ts->ss=ts
 |_,_,_,.nil,.nil=>rfl
 |_,_,_,.cons y t h,.cons _ _ h'=>by rw[q7y h h']
theorem q9c:∀{p q:Pth},p.map mk=q.map mk->p=q
 |[],[],_=>rfl
 |[],_::_,h=>by simp at h
 |_::_,[],h=>by simp at h
 |a::p,b::q,h=>by
  rw[Ay,Ay] at h;injection h with h1 h2;rw[mk_inj h1,q9c h2]
theorem q3g:∀{vs} {p:Pth},Jd vs (p.map mk)->vs.length=p.length
 |_,[],.nil=>rfl
 |vs,n::p,h=>by
  rw[Ay] at h;cases h with
  |cons _ _ h'=>rw[Cj,Cj,q3g h']
def IsTup.inj(q:IsTup h a x)(u:IsTup h a y):x=y:=by
 obtain⟨o,e,_,n,d⟩:=q;obtain⟨v,f,_,B,j⟩:=u;rw[e] at f;cases f;rw[d] at j;cases j;rfl
def PathAt.inj(j:PathAt h v p)(u:PathAt h v q):p=q:=by
 obtain⟨a,B,rfl,t,s⟩:=j;obtain⟨E,f,e,C,D⟩:=u;cases e;rw[IsTup.inj t C] at s;exact q9c (q7y s D)
def IsTup.keep(t:IsTup h a x)(k:∀o,h.get? a=some o->h'.get? a=some o):IsTup h' a x:=by obtain⟨o,e,r⟩:=t;exact⟨o,k o e,r⟩
def PathAt.keep(x:PathAt h v p)(k:∀b o,h.get? b=some o->h'.get? b=some o):PathAt h' v p:=by obtain⟨a,f,e,t,s⟩:=x;exact⟨a,f,e,IsTup.keep t λo=>k a o,s⟩
noncomputable def dP(p:Pth):List Cs:=p.map λn=>Cs.str (mk n)
noncomputable def Low(p:Pth):Prop:=∀n∈p,∀c∈n,c<128
theorem q9d:∀{p} {vs},Jd vs (p.map mk)->∃as,ReadsAll h vs (dP p) as
 |[],_,.nil=>⟨_,.nil⟩
 |n::p,vs,x=>by
  rw[Ay] at x;cases x with
  |cons y t s =>
   obtain⟨as,f⟩:=q9d s;exact⟨_,.cons (.str _ t) f⟩
def PathAt.reads(x:PathAt h v p):∃as,Reads h v (.tuple (dP p)) as:=by
 obtain⟨a,f,rfl,⟨o,e,c,n,d⟩,s⟩:=x;obtain⟨as,r⟩:=q9d s;exact⟨_,.tuple e c d r⟩
def z8u(h:∀c∈l,c<128):Uj (mk l)=true:=by
 unfold Uj;simp only[mk,List.all_toArray,Mr];intro c f;have:=h c f;simp;lia
theorem q9e:∀{p},Low p->Lo (dP p)=true
 |[],_=>rfl
 |n::r,h=>by
  have f:=z8u (h n Au);have j:=q9e λx q=>h x (Ap _ q);show Lo (Cs.str (mk n)::dP r)=true;simp only[Lo,Ka,f,j,Pe]
theorem z0f:∀p,Gp (dP p)<=1
 |[]=>by simp[dP,Gp]
 |n::r=>by
  have f:=z0f r;show Gp (Cs.str (mk n)::dP r)<=1;simp only[Gp,Oq];lia
theorem q7z:∀p q,Ib (dP p) (dP q)=decide (p=q)
 |[],[]=>rfl
 |[],_::_=>rfl
 |_::_,[]=>rfl
 |a::p,b::q=>by
  show Ib (Cs.str (mk a)::dP p) (Cs.str (mk b)::dP q)=_;have e:Ib (Cs.str (mk a)::dP p) (Cs.str (mk b)::dP q)=(Fw (Cs.str (mk a)) (Cs.str (mk b))&&Ib (dP p) (dP q)):=by simp only[Ib]
  have f:Fw (Cs.str (mk a)) (Cs.str (mk b))=(mk a==mk b):=by simp only[Fw]
  rw[e,f,q7z p q];by_cases h:a=b
  ·subst h;simp
  ·grind
section
variable{prog:Aw}{w:World}{A:Around}{E:Value->Ag->Prop}{s:Ag}{x y:Value}{p q:Pth}
def z4y(f:PathAt s.heap x p)(j:PathAt s.heap y q)(u:Low p)(v:Low q)(E:A.units+2<cLine):Ei A s x y (decide (p=q)):=by
 obtain⟨B,C⟩:=f.reads;obtain⟨bs,D⟩:=j.reads;have h:=Vx (.tuple (dP p)) (.tuple (dP q)) A s x y B bs C D (by simp only[Ka,q9e u]) (by simp only[Ka,q9e v]) (by
  have G:(Cs.tuple (dP p)).depth=Gp (dP p)+1:=by simp only[Oq]
  have:=z0f p;lia)
 have e:Fw (.tuple (dP p)) (.tuple (dP q))=decide (p=q):=by simp only[Fw,q7z]
 rwa [e] at h
def z2a(l b)(j f)(n W)(X M)(Y O)(p q)(T:Jd j.toList (p.map mk))(U:Jd f.toList (q.map mk)):
  Meets (Dk.«tuple.__lt__» ⟨[.ref l,.ref b],[]⟩)
   (λ_ R s=>s.heap.get? l=some { cls:=.type "tuple",dict:=X,data:=.seq j n,slots:=Y }/\s.heap.get? b=some { cls:=.type "tuple",dict:=M,data:=.seq f W,slots:=O } /\
    R (.ok (.ret (.bool (pLt p q)))) s) :=
 .of_wp λprog w A R s h=>by
  obtain⟨hp,g,d,tk,os⟩:=s;obtain⟨hl,Z,h⟩:=h;have f2:=AutoSeq1.sub_tuple_tuple;have z1:j.size=p.length:=by have:=q3g T;simpa using this
  have z2:f.size=q.length:=by have:=q3g U;simpa using this
  wp_walk using Nu hl,Nu Z,Iv _ (λrest c P=>c.1=none/\P=⟨hp,g,d,tk,os⟩/\∃(vs L:List Value) (G D:Pth),rest=vs.zip L /\
   Jd vs (G.map mk)/\Jd L (D.map mk)/\G.length+f.size=D.length+j.size/\R (.ok (.ret (.bool (pLt G D)))) ⟨hp,g,d,tk,os⟩) _
  case turn =>
   rintro⟨y,x⟩ rest c P ⟨J,rfl,vs,L,G,D,H,B,C,v,I⟩;cases G with
   |nil=>cases B;rw[Va] at H;cases H
   |cons m G =>
    cases D with
    |nil=>cases C;rw[Uk] at H;cases H
    |cons m' D =>
     rw[Ay] at B C;cases B with
     |cons _ t hvi' =>
      cases C with
      |cons _ u hwi' =>
       rw[Lb] at H;injection H with hyx hrest;injection hyx with hy hx;subst hy hx;rw[q5s] at I;simp only[Cj] at v;refine Ab (Oo (mk m) t (mk m') u (A:=A.in1) (s:=⟨hp,g,d,tk,os⟩) prog w _ _ ?_);by_cases e:m=m'
       ·subst e;rw[if_pos rfl] at I;rw[beq_self_eq_true]
        wp_walk
        exact⟨rfl,rfl,_,_,_,_,hrest,hvi',hwi',by lia,I⟩
       ·rw[if_neg e] at I;have e2:(mk m==mk m')=false:=beq_eq_false_iff_ne.mpr λz=>e (mk_inj z);rw[e2];have S:∀(E:Value->Ag->Prop) (Q:Value->Ag->Prop),Q (.bool (decide (m<m'))) ⟨hp,g,d,tk,os⟩->wpAny (model prog w) A.in1 (Ru .Lt (.str (mk m) t) (.str (mk m') u)) Q E ⟨hp,g,d,tk,os⟩:=λE Q hq =>
         (Ts (by
          have e3:(mk m).cps.toList=m:=q3w m;have e4:(mk m').cps.toList=m':=q3w m';rw[e3,e4];exact hq):wpAny (model prog w) A.in1 (Cz .Lt (.str (mk m) t) (.str (mk m') u)) Q E ⟨hp,g,d,tk,os⟩)
        wp_walk using S
        exact⟨_,rfl,by simpa using I⟩
  case fin =>
   rintro⟨b1,b2⟩ P ⟨J,rfl,vs,L,G,D,H,B,C,v,I⟩;simp only at J;subst J;have hv:pLt G D=decide (j.size<f.size):=by
    cases G with
    |nil =>
     cases D with
     |nil=>exact(decide_eq_false (by simp only[Hx] at v;lia)).symm
     |cons m' D=>exact(decide_eq_true (by simp only[Hx,Cj] at v;lia)).symm
    |cons m G =>
     cases D with
     |nil=>exact(decide_eq_false (by simp only[Hx,Cj] at v;lia)).symm
     |cons m' D =>
      rw[Ay] at B C;cases B with
      |cons _ t _=>cases C with|cons _ u _=>rw[Lb] at H;cases H
   rw[hv] at I
   wp_walk
   exact⟨_,rfl,by simpa[Dk.Tuple.tupleCompareSizes] using I⟩
  case h =>
   exact⟨rfl,rfl,j.toList,f.toList,p,q,rfl,T,U,by lia,h⟩
def z0g(L:PathAt s.heap x p)(M:PathAt s.heap y q)(O:A.units<cLine)(h:Q (.bool (pLt p q)) s):wpAny (model prog w) A (Cz .Lt x y) Q E s:=by
 obtain⟨l,j,rfl,hl,P⟩:=L;obtain⟨b,f,rfl,R,S⟩:=M;obtain⟨⟨T,U,H,W⟩,ho,I,n,hd⟩:=id hl;obtain⟨⟨J,C,D,G⟩,u,v,X,B⟩:=id R;simp only at I hd v B;subst I hd v B;exact richCompare_meets_room (op:=.Lt) ⟨_,ho,rfl⟩ ⟨_,u,rfl⟩ PySem.F.slot_tuple_lt PySem.F.entry_tuple_lt (PySem.F.args_tuple_lt_2 _ _) (z2a l b j f n X U C W G p q P S)
  ⟨ho,u,show Value.bool (pLt p q)≠Value.notImplemented/\Q (.bool (pLt p q)) s from⟨(λx=>nomatch x),h⟩⟩ O
def x5o(h:Q (decide (m<f)) s):wpAny (model prog w) A (oneLt' b (.str (mk m) t) (.str (mk f) u)) Q E s:=by
 have j:(mk m).cps.toList=m:=q3w m;have q:(mk f).cps.toList=f:=q3w f;cases b with
 |true=>exact oneLt_str (by rw[j,q];exact h)
 |false =>
  rw[oneLt'_eq];simp only[Bh,if_false];exact Ab ((Ts (by rw[j,q];exact Cy h):wpAny (model prog w) A (Cz .Lt (.str (mk m) t) (.str (mk f) u)) _ E s))
def x2f(f:PathAt s.heap x p)(j:PathAt s.heap y q)(u:A.units<cLine)(h:Q (pLt p q) s):wpAny (model prog w) A (oneLt' false x y) Q E s:=by
 rw[oneLt'_eq];simp only[Bh,if_false];exact Ab (z0g f j u (Cy h):wpAny (model prog w) A (Cz .Lt x y) _ E s)
def z8v(S:PathAt s.heap x p)(T:PathAt s.heap y q)(h:Q (pLt p q) s):wpAny (model prog w) A (keyLt' (Ut b) x y) Q E s:=by
 obtain⟨l,j,rfl,⟨o,ho,L,n,hd⟩,P⟩:=S;obtain⟨m,f,rfl,⟨X,M,U,Y,O⟩,R⟩:=T;refine Ab (m:=Ez (.ref l)) (Lc ho hd (Ab (m:=Ez (.ref m)) (Lc M O ?_)));have Z:j.size=p.length:=by have:=q3g P;simpa using this
 have z2:f.size=q.length:=by have:=q3g R;simpa using this
 refine Ab (Iv _ (λrest c D=>c=(none,())/\D=s/\∃(vs J:List Value) (B v:Pth) (k:Nat),rest=(vs.zip J).zipIdx k/\Jd vs (B.map mk)/\Jd J (v.map mk) /\
   B.length+f.size=v.length+j.size/\Q (pLt B v) s) (λc D=>match c.1 with|some r=>Q r D|none=>c.1=none/\Q (decide (j.size<f.size)) D) ?turn ?fin _ _ ?h0|>λz=>Dl z ?post λ_ _ e=>e)
 case post =>
  rintro⟨c,⟨⟩⟩ D L;cases c with
  |none=>exact Ad L.2
  |some r=>exact Ad L
 case h0=>exact⟨rfl,rfl,j.toList,f.toList,p,q,0,rfl,P,R,by lia,h⟩
 case fin =>
  rintro c D ⟨rfl,rfl,vs,J,B,v,k,C,H,I,hl,G⟩;have e:pLt B v=decide (j.size<f.size):=by
   cases B with
   |nil =>
    cases v with
    |nil=>exact(decide_eq_false (by simp only[Hx] at hl;lia)).symm
    |cons m' v=>exact(decide_eq_true (by simp only[Hx,Cj] at hl;lia)).symm
   |cons m B =>
    cases v with
    |nil=>exact(decide_eq_false (by simp only[Hx,Cj] at hl;lia)).symm
    |cons m' v =>
     rw[Ay] at H I;cases H with
     |cons _ t _=>cases I with|cons _ u _=>rw[Lb,Vy] at C;cases C
  rw[e] at G;exact⟨rfl,G⟩
 case turn =>
  rintro⟨⟨y,x⟩,i⟩ rest c D ⟨rfl,rfl,vs,J,B,v,k,C,H,I,hl,G⟩;cases B with
  |nil=>cases H;rw[Va] at C;cases C
  |cons m B =>
   cases v with
   |nil=>cases I;rw[Uk] at C;cases C
   |cons m' v =>
    rw[Ay] at H I;cases H with
    |cons _ t hv' =>
     cases I with
     |cons _ u hw' =>
      rw[Lb,Vy] at C;injection C with h1 h2;injection h1 with h1 h3;injection h1 with h4 h5;subst h4 h5 h3;rw[q5s] at G;simp only[Cj] at hl;refine Ab (Oo (mk m) t (mk m') u (A:=A) (s:=D) prog w _ _ ?_);by_cases e:m=m'
      ·subst e;rw[if_pos rfl] at G;rw[beq_self_eq_true];simp only[Ft,Bh,if_false];exact Ad ⟨rfl,rfl,_,_,_,_,_,h2,hv',hw',by lia,G⟩
      ·rw[if_neg e] at G;have W:(mk m==mk m')=false:=beq_eq_false_iff_ne.mpr λz=>e (mk_inj z);rw[W];simp only[Oj,if_true];exact Ab (x5o (b:=b&&i==0) (Ad G))
noncomputable def PairAt(h:Heap)(v:Value)(p:Pth)(m:Value):Prop:=∃a k,v=.ref a/\IsTup h a #[k,m]/\PathAt h k p
def PairAt.keep(x:PairAt h v p m)(k:∀b o,h.get? b=some o->h'.get? b=some o):PairAt h' v p m:=by obtain⟨a,z,e,t,s⟩:=x;exact⟨a,z,e,IsTup.keep t λo=>k a o,s.keep k⟩
def z8w(G:PairAt s.heap x p m)(H:PairAt s.heap y q u)(v:p=q->x=y)(I:Low p)(J:Low q)(L:A.units+2<cLine)(h:Q (pLt p q) s):wpAny (model prog w) A (keyLt' (Ut false) x y) Q E s:=by
 obtain⟨l,k,rfl,hl,hk⟩:=G;obtain⟨M,D,rfl,f,j⟩:=H;obtain⟨o,ho,T,n,hd⟩:=id hl;obtain⟨U,B,O,W,C⟩:=id f;refine Ab (m:=Ez (.ref l)) (Lc ho hd (Ab (m:=Ez (.ref M)) (Lc B C ?_)));show wpAny (model prog w) A (forIn [((k,D),0),((m,u),1)] ((none,()):Option Bool×Unit) _ >>= _) Q E s;rw[Qy];refine Ab (Ab (Ab (z4y hk j I J L prog w _ _ ?_)));by_cases e:p=q
 ·have P:=v e;cases P;have R:=IsTup.inj hl f;have S:k=D/\m=u:=by
   have:=congrArg Array.toList R;simpa using this
  obtain⟨rfl,rfl⟩:=S;subst e;rw[decide_eq_true rfl];simp only[Ft,Bh,if_false];refine Ad ?_;dsimp only;rw[Qy];refine Ab (Ab (We m (A:=A) (s:=s) prog w _ _ ?_));simp only[Ft,Bh,if_false];refine Ad ?_;dsimp only;rw[List.forIn_nil];refine Ad (Ad ?_);rw[q1s] at h;simpa using h
 ·rw[decide_eq_false e];simp only[Oj,if_true,Bool.false_and];refine Ab (x2f hk j (by lia) (Ad ?_));exact Ad (Ad h)
theorem q8a{q j:Type}{f:q->Sem j}{g}:∀(l:List q) {Q},(∀a∈l,∀ Q' ,Q' (g a) s->wpAny (model prog w) A (f a) Q' E s)->Q (l.map g) s->wpAny (model prog w) A (l.mapM f) Q E s
 |[],Q,_,h=>by rw[List.mapM_nil];exact Ad h
 |a::l,Q,hf,h=>by
  rw[List.mapM_cons];refine Ab (hf a Au _ (Ab (q8a l (λb u=>hf b (Ap _ u)) (Ad h))))
def x2g(t:IsTup s.heap a f)(h:Q f[0]? s):wpAny (model prog w) A (firstOfTuple' (.ref a)) Q E s:=by
 obtain⟨o,ho,j,n,hd⟩:=t;refine Ab (m:=typeOf (.ref a)) (Gj (T := "tuple") ⟨o,ho,j⟩ ?_);have e:(Value.type "tuple" != Value.type "tuple")=false:=by decide
 rw[e];simp only[Bh,if_false];exact Ab (m:=Ez (.ref a)) (Lc ho hd (Ad h))
def z8x{fs:Value->Value}(q:vs≠[])(C:∀v∈vs,∃a f,v=.ref a/\IsTup s.heap a f/\f[0]?=some (fs v))(D:∀v∈vs,s.TypeIs (fs v) T)(h:Q (Ut (Value.type T != Value.type "tuple")) s):wpAny (model prog w) A (Vz vs.toArray) Q E s:=by
 rw[keyKind'_eq,Lw];refine Ab (Ab (q8a (g:=λv=>some (fs v)) vs (λv u G B=>?_) (Ad ?_)))
 ·obtain⟨a,f,rfl,t,e⟩:=C v u;exact x2g t (by rw[e];exact B)
 ·have j:((vs.map λv=>some (fs v)).toArray.all λx=>x.isSome)=true:=by simp
  rw[if_pos (by simpa using j)];refine Ab (Gk ?_);rw[oneTypeOnly'_eq];have e:Array.filterMap id (vs.map λv=>some (fs v)).toArray=(vs.map fs).toArray:=by
   simp[Ue]
  rw[e,Lw];refine Ab (Ab (Ab (q8a (g:=λ_=>Value.type T) (vs.map fs) (λx H G B=>?_) (Ad ?_))))
  ·obtain⟨v,u,rfl⟩:=Ac.mp H;exact Gj (D v u) B
  ·cases vs with
   |nil=>exact absurd rfl q
   |cons v vs =>
    have I:(((v::vs).map fs).map λ_=>Value.type T).toArray[0]?=some (Value.type T):=by simp
    have J:((((v::vs).map fs).map λ_=>Value.type T).toArray.all λx=>x==Value.type T)=true:=by simp
    rw[I];dsimp only;rw[J];simp only[if_true];exact Ad (Ad (by simpa using h))
end
section
variable{prog:Aw}{w:World}{A:Around}{E:Value->Ag->Prop}{s:Ag}{kd:Ky}{S:Value->Prop}{r:Value->Int}{vs:List Value}
noncomputable def KeptBut(a:Addr)(h h':Heap):Prop:=∀b o,b≠a->h.get? b=some o->h'.get? b=some o
structure Sorted (r:Value->Int) (vs) (out:Array Value):Prop where
 perm:out.toList.Perm vs
 rise:out.toList.Pairwise λx y=>r x<=r y
def x2h{xs:Array Keyed}(hp:xs.Perm (pairsOf vs)):(∀p∈xs.toList,p.1=p.2)/\(xs.map (·.2)).toList.Perm vs:=by
 have hl:xs.toList.Perm (vs.zip vs):=by rw[<- pairsOf_toList];exact Pd.mp hp
 refine⟨λp f=>(mem_zip_self (hl.mem_iff.mp f)).1,?_⟩;rw[Qh];have:=hl.map (·.2)
 rwa [List.map_snd_zip (Aq _)] at this
def z2b{st}(hp:(arrOf st).Perm (pairsOf vs))(u:Up r (arrOf st) (pairsOf vs).size):Sorted r vs ((arrOf st).map (·.2)):=by
 obtain⟨h,q⟩:=x2h hp;refine⟨q,?_⟩;rw[List.pairwise_iff_getElem];intro i j v B f;have hi':i<(arrOf st).size:=by simp_all
 have hj':j<(arrOf st).size:=by simp_all
 have e:=u i j (Hm f) (by rw[<- hp.size_eq];exact hj');have k:∀{n:Nat} (hn:n<(arrOf st).size),rk r (arrOf st) n=r (arrOf st)[n].2:=λ{n} hn=>by
  unfold rk;rw[getElem?_pos (arrOf st) n hn];show r (arrOf st)[n].1=_;rw[h (arrOf st)[n] (by simp)]
 rw[k hi',k hj'] at e;simpa using e
def z8y(ho:s.heap.get? a=some (Iw "list" vs.toArray n))(D:vs.length<64)(G:∀v∈vs,S v)(hk:2<=vs.length->∀f  E   Q ,KeptBut a s.heap f.heap->Q kd f->wpAny (model prog w) A (Vz vs.toArray) Q E f)(T:∀f,KeptBut a s.heap f.heap->Tells prog w A f kd S r)(h:∀out,Sorted r vs out->P (.done (.ret .none)) { s with heap:=sortedHeap s.heap a vs out }):
  wpAny (model prog w) A (Dk.«list.sort» ⟨[.ref a],[]⟩) P E s:=by
 have H:=pairsOf_size vs;have I:vs.length<=sizeLine:=by rw[Ey];lia
 rw[list_sort_plain];refine Ab (Lc ho rfl (Ab (Tp ho rfl ?_)));have u:=get?_update_seq ho (λ_=>#[]);refine Ab (Vk u rfl (Ab (Oi (Ab (wpAny_newList (Cq ?_))))));generalize q:(((s.heap.update a (Dm λ_=>#[])).push (Iw "tuple" vs.toArray 0)).push (Iw "list" #[] 0))=g;have B:KeptBut a s.heap g:=λb o J e=>by
  rw[<- q];exact Ai _ (Ai _ ((Co _ _ (Ex J)).trans e))
 have og:=Ai (Iw "list" #[] 0) (Ai (Iw "tuple" vs.toArray 0) u);rw[q] at og;have fin:∀out,Sorted r vs out->P (.done (.ret .none)) { s with heap:=g.update a (Dm λ_=>out) }:=λout so=>by
  have:=h out so;unfold sortedHeap at this
  rwa [q] at this
 by_cases C:vs.length<2
 ·have h2':vs.toArray.size<2:=by simpa using C
  simp only[if_pos h2'];refine Ab (Ad ?_);refine Ab (Ad (Ab (Vk og rfl (Ab (Tp og rfl ?_ (hsz2:=by show((pairsOf vs).map _).size<=_;rw[Array.size_map];lia))))));simp only[bne_self_eq_false,Bh,if_false];exact Ad (fin _ (z2b (Wl _) λi j R U=>by rw[show i=j by lia];exact Rp _))
 ·have h2':¬vs.toArray.size<2:=by simpa using C
  simp only[if_neg h2'];refine Ab (hk (by lia) _ _ _ B ?_);refine Ab (Dl (x5m (a₀:=pairsOf vs) (Q:=λ_ t=>(arrOf t).Perm (pairsOf vs)/\Vu t=none/\Up r (arrOf t) (pairsOf vs).size) (T _ B) (λp hp=>G _ ?_)
   ⟨Wl _,rfl,rfl,rfl⟩ (by lia) (by lia) λt L M O=>⟨L,M,O⟩) ?_ λ_ _ e=>e)
  ·rw[pairsOf_toList] at hp;exact(mem_zip_self hp).2
  ·rintro⟨⟨⟩,t⟩ f ⟨rfl,pm,fl,up⟩;refine Ab (Vk og rfl (Ab (Tp og rfl ?_ (hsz2:=by show((arrOf t).map _).size<=_;rw[Array.size_map,pm.size_eq];lia))));rw[fl];simp only[bne_self_eq_false,Bh,if_false];exact Ad (fin _ (z2b pm up))
end
section
variable{prog:Aw}{w:World}{A:Around}{E:Value->Ag->Prop}{s:Ag}
structure Ready (prog) (w) (A:Around) (vs:List Value) (h:Heap) (kd) (S:Value->Prop) (r):Prop where
 few:vs.length<64
 all:∀v∈vs,S v
 kind:2<=vs.length->∀A' s'  E   Q ,A'.units<=A.units+9->(∀b o,h.get? b=some o->s'.heap.get? b=some o)->Q kd s'->wpAny (model prog w) A' (Vz vs.toArray) Q E s'
 tells:∀A' s',A'.units<=A.units+9->(∀b o,h.get? b=some o->s'.heap.get? b=some o)->Tells prog w A' s' kd S r
theorem sorted_ok
  (B:∀{Q'},(∀vs h tk u S r,Ready prog w A vs h u S r ->
    (∀h' out,Sorted r vs out->(∀b o,h.get? b=some o->h'.get? b=some o)->(∃e,h'.get? h.objs.size=some (Iw "list" out e))->Q (.ref h.objs.size) { s with heap:=h',toks:=tk })->Q' vs { s with heap:=h,toks:=tk }) ->
   wpAny (model prog w) A.in1 (collect x) Q' E s):wpAny (model prog w) A (call (.builtin "sorted") [x]) Q E s:=by
 refine Calls.call_function_entry kind_sorted plain_sorted entry_sorted (args_sorted1 _) ?_;refine Ab (Ad (Ab (B λvs h tk u S r rd C=>?_)));have D:vs.length<=sizeLine:=by have:=rd.few;rw[Ey];lia
 refine Ab (wpAny_newList ?_);have ho:(h.push (Iw "list" vs.toArray 0)).get? h.objs.size=some (Iw "list" vs.toArray 0):=As _ rfl;have v:∀{g:Heap},KeptBut h.objs.size (h.push (Iw "list" vs.toArray 0)) g->∀b o,h.get? b=some o->g.get? b=some o:=λf b o e=>f b o (Bm (Ax e)) (Ai _ e);refine Ab (Cq (Bw slot_list_sort ⟨_,ho,rfl⟩ entry_list_sort (z8y ho rd.few rd.all (λG j E Q f q=>rd.kind G _ j E Q (by show A.units+1+1<=_;lia) (v f) q) (λj f=>rd.tells _ j (by show A.units+1+1<=_;lia) (v f)) λout so=>⟨_,rfl,?_⟩) (args_list_sort _)));refine Ad ⟨_,rfl,C _ out so (λb o e=>?_) (sortedHeap_at ho)⟩;have:=sortedHeap_old (vs:=vs) (out:=out) (h:=h.push (Iw "list" vs.toArray 0)) (Bm (Ax e)) (by rw[size_push'];exact Jo (Ax e));rw[this];exact Ai _ e
def perm_map_inv {α β : Type} {g : α → β} : ∀ {l m}, l.Perm m → ∀ {zs}, m = zs.map g → ∃ zs' : List α, zs'.Perm zs ∧ l = zs'.map g := by
  intro l m h;induction h with
  | nil => simp_all
  | cons x h ih => intro zs e; cases zs with
    | nil => cases e
    | cons z zs =>
      injection e with e1 e2;obtain ⟨zs', h1, h2⟩ := ih e2;exact ⟨z :: zs', h1.cons z, by rw [Ay, ← h2, e1]⟩
  | swap x y l => intro zs e; cases zs with
    | nil => cases e
    | cons z zs => cases zs with
      | nil => cases e
      | cons z2 zs =>
        injection e with e1 e2;injection e2 with e2 e3;exact ⟨z2 :: z :: zs, List.Perm.swap _ _ _, by rw [Ay, Ay, ← e1, ← e2, ← e3]⟩
  | trans h1 h2 ih1 ih2 => intro zs e
                           obtain ⟨zs', p1, e1⟩ := ih2 e;obtain ⟨zs2, p2, e2⟩ := ih1 e1;exact ⟨zs2, p2.trans p1, e2⟩
open Classical in
noncomputable def keyBy (K:Value->Pth->Prop) (v:Value):Pth:=if h:∃p,K v p then choose h else[]
def q3o{K}(j:∀v p q,K v p->K v q->p=q)(h:K v p):keyBy K v=p:=by
 unfold keyBy;have f:∃p,K v p:=⟨p,h⟩
 rw[dif_pos f];exact j v _ _ (Classical.choose_spec f) h
theorem rise_paths{K}(u:∀v p q,K v p->K v q->p=q){B:Type}{g}{f}:∀{zs:List B},(∀z∈zs,K (g z) (f z)/\f z∈ps)->(zs.map g).Pairwise (λx y=>(pRank ps (keyBy K x):Int)<=(pRank ps (keyBy K y):Int))->(zs.map f).Pairwise λa b=>pLt b a=false
 |[],_,_=>.nil
 |z::zs,hz,h=>by
  rw[Ay] at h ⊢;obtain⟨C,D⟩:=Ho.mp h;refine Ho.mpr ⟨λb E=>?_,rise_paths u (λy j=>hz y (Ap _ j)) D⟩;obtain⟨y,j,rfl⟩:=Ac.mp E;obtain⟨G,H⟩:=hz z Au;obtain⟨I,J⟩:=hz y (Ap _ j);have:=C (g y) (Ac.mpr ⟨y,j,rfl⟩);rw[q3o u G,q3o u I] at this;rw[z0e J H];exact decide_eq_false (by lia)
def ready_paths(few:vs.length<64)(hp:∀v∈vs,∃p∈ps,p≠[]/\PathAt h v p):
  Ready prog w A vs h (Ut true) (λv=>∃p∈ps,PathAt h v p) (λv=>(pRank ps (keyBy (PathAt h) v):Int)) where
 few:=few
 all:=λv j=>let ⟨p,a,_,b⟩:=hp v j;⟨p,a,b⟩
 kind:=λL R D E Q _ k q=>by
  have u:vs≠[]:=λz=>by rw[z] at L;simp at L
  have ex:∀v∈vs,∃a f n p t,v=.ref a/\IsTup D.heap a f/\f[0]?=some (.str (mk n) t):=λv j=>by
   obtain⟨p,_,u,x⟩:=hp v j;obtain⟨a,f,rfl,B,st⟩:=x.keep k;cases p with
   |nil=>exact absurd rfl u
   |cons n p =>
    obtain⟨l⟩:=f;cases st with
    |cons _ t st'=>exact⟨a,_,n,p,t,rfl,B,rfl⟩
  refine z8x (fs:=λv=>(match v with|.ref a=>(match D.heap.get? a with|some o=>(match o.data with|.seq f _=>f.getD 0 .none|_=>.none)|none=>.none)|_=>.none)) u (λv j=>?_) (λv j=>?_) (by rw[show(Value.type "str" != Value.type "tuple")=true from by decide];exact q)
  ·obtain⟨a,f,n,p,t,rfl,B,e⟩:=ex v j;refine⟨a,f,rfl,B,?_⟩;obtain⟨o,C,G,m,H⟩:=B;simp only[C,H];rw[e,Ot,e];rfl
  ·obtain⟨a,f,n,p,t,rfl,B,e⟩:=ex v j;obtain⟨o,C,G,m,H⟩:=B;simp only[C,H];rw[Ot,e];exact Ta _ _ _
 tells:=λR D _ k E x y Q ⟨p,I,M⟩ ⟨q,J,O⟩ S=>by
  refine z8v (M.keep k) (O.keep k) ?_;have P:∀v p q,PathAt h v p->PathAt h v q->p=q:=λ_ _ _ a b=>a.inj b;have C:=q3o P M;have G:=q3o P O;rw[z0e I J,<- C,<- G];exact S
def PairAt.inj(f:PairAt h v p m)(j:PairAt h v q m'):p=q:=by
 obtain⟨a,k,rfl,t,s⟩:=f;obtain⟨E,u,e,B,C⟩:=j;cases e;have e:=congrArg Array.toList (IsTup.inj t B);have D:k=u:=by grind
 subst D;exact s.inj C
def ready_pairs(few:vs.length<64)(hp:∀v∈vs,∃p∈ps,∃m,Low p/\PairAt h v p m)(X:∀u∈vs,∀v∈vs,∀p m G,PairAt h u p m->PairAt h v p G->u=v)(hu:A.units+12<cLine):
  Ready prog w A vs h (Ut false) (λv=>v∈vs) (λv=>(pRank ps (keyBy (λv p=>∃m,PairAt h v p m) v):Int)) where
 few:=few
 all:=λv j=>j
 kind:=λS Y D E Q _ k q=>by
  have H:vs≠[]:=λz=>by rw[z] at S;simp at S
  have ex:∀v∈vs,∃a b f m,v=.ref a/\IsTup D.heap a #[.ref b,m]/\IsTup D.heap b f:=λv j=>by
   obtain⟨p,_,m,_,x⟩:=hp v j;obtain⟨a,z,rfl,B,b,f,rfl,I,_⟩:=x.keep k;exact⟨a,b,f,m,rfl,B,I⟩
  refine z8x (fs:=λv=>(match v with|.ref a=>(match D.heap.get? a with|some o=>(match o.data with|.seq f _=>f.getD 0 .none|_=>.none)|none=>.none)|_=>.none)) H (λv j=>?_) (λv j=>?_) (by rw[show(Value.type "tuple" != Value.type "tuple")=false from by decide];exact q)
  ·obtain⟨a,b,f,m,rfl,B,_⟩:=ex v j;refine⟨a,_,rfl,B,?_⟩;obtain⟨o,C,J,n,L⟩:=B;simp only[C,L];rfl
  ·obtain⟨a,b,f,m,rfl,B,I⟩:=ex v j;obtain⟨o,C,J,n,L⟩:=B;simp only[C,L];obtain⟨Z,f1,f2,_⟩:=I;exact⟨Z,f1,f2⟩
 tells:=λY D hA k E x y Q T U h'=>by
  obtain⟨p,M,m,lp,O⟩:=hp x T;obtain⟨q,P,G,lq,R⟩:=hp y U;refine z8w (O.keep k) (R.keep k) (λe=>by subst e;exact X x T y U _ _ _ O R) lp lq (by lia) ?_;have W:∀v p q,(∃m,PairAt h v p m)->(∃m,PairAt h v q m)->p=q:=λv p q ⟨_,a⟩ ⟨_,b⟩=>PairAt.inj a b
  have C:=q3o W ⟨m,O⟩;have J:=q3o W ⟨G,R⟩;rw[z0e M P,<- C,<- J];exact h'
end
end SB
namespace PySem.Rv
open Sem (wp)
structure Runs (prog) (w) (A:Around) (S I) (n) (Fc:List Value->Heap->Prop) (It:Nat->Heap->Prop):Prop where
 keepF:∀acc h h',Fc acc h->(∀b o,b≠S->b≠I->h.get? b=some o->h'.get? b=some o)->Fc acc h'
 keepI:∀i h h',It i h->(∀b o,b≠S->h.get? b=some o->h'.get? b=some o)->It i h'
 item:∀acc  s   Q   E ,acc.length<n->Fc acc s.heap->It acc.length s.heap ->
  (∀v h',Fc (acc++[v]) h'->It (acc.length+1) h'->(∀b o,b≠I->s.heap.get? b=some o->h'.get? b=some o)->Q (some v) { s with heap:=h' })->wpAny (model prog w) A.in1 (Hb (.ref I)) Q E s
 done:∀ s   Q   E ,It n s.heap->(∀h',(∀b o,b≠I->s.heap.get? b=some o->h'.get? b=some o)->Q none { s with heap:=h' })->wpAny (model prog w) A.in1 (Hb (.ref I)) Q E s
section
variable{prog:Aw}{w:World}{A:Around}{E:Value->Ag->Prop}{S I:Addr}{n:Nat}{Fc:List Value->Heap->Prop}{It:Nat->Heap->Prop}
def grow(W:Runs prog w A S I n Fc It)(B:S≠I)(hn:n<=sizeLine)(res):∀ k   acc   s   c ,n-acc.length=k->acc.length<=n->Fc acc s.heap->It acc.length s.heap ->
  s.heap.get? S=some { cls:=.type "list",data:=.seq acc.toArray c } ->
  (∀h h' D,h.length=n->Fc h h'->(∀b o,b≠S->b≠I->s.heap.get? b=some o->h'.get? b=some o)->h'.get? S=some { cls:=.type "list",data:=.seq h.toArray D }->R (.ok (.ret res)) { s with heap:=h' }) ->
  Fu (model prog w) A (.builtin "list.extend.loop" ⟨[.ref S,.ref I,res],[]⟩) R s:=by
 intro k;induction k with
 |zero =>
  intro acc s c hk hl f i E G;refine Dq Tt ?_;rw[Ct Gh _];have e:acc.length=n:=by lia
  refine Ab (W.done s _ _ (by rw[<- e];exact i) λh' kp=>Ad ?_);exact G acc h' c e (W.keepF _ _ _ f λb o _ j q=>kp b o j q) (λb o _ j q=>kp b o j q) (kp S _ B E)
 |succ k ih =>
  intro acc s c hk hl f i E G;refine Dq Tt ?_;rw[Ct Gh _];refine Ab (W.item acc s _ _ (by lia) f i λv h' J L kp=>?_);have hS':=kp S _ B E;have u:∀b o,b≠S->h'.get? b=some o->(h'.update S (Dm (·.push v))).get? b=some o:=λb o j q=>(Co _ _ (Ex j)).trans q;have H:(h'.update S (Dm (·.push v))).get? S=some { cls:=.type "list",data:=.seq (acc++[v]).toArray (c+1) }:=by
   have:=En hS' (λx=>x.push v);rw[this];simp
  refine Ab (Ge hS' rfl (Ad ⟨Ds Gh _,ih (acc++[v]) _ (c+1) (by rw[An,El];lia) (by rw[An,El];lia)
   (W.keepF _ _ _ J λb o j _ q=>u b o j q) (by rw[An,El];exact W.keepI _ _ _ L u) H λh M D O P Q T=>G h M D O P (λb o j C q=>Q b o j C (u b o j (kp b o C q))) T⟩) (by rw[Bj];lia) (by simp;lia))
def collect_runs(X:∀h,(∀b o,s.heap.get? b=some o->h.get? b=some o)->(⟨h,s.gens,s.drawn,s.toks,s.os⟩:Ag).TypeIs (.ref v) T)(hv:v<s.heap.objs.size)(h1:(Value.type T==Value.type "list")=false)(h2:(Value.type T==Value.type "tuple")=false)(H:∀ A   E   j   Q ,j.TypeIs (.ref v) T->Q false j->wpAny (model prog w) A (Dk.List.listLengthHint (.ref v)) Q E j)(I:∀ A   E   h   Q ,(∀b o,s.heap.get? b=some o->h.get? b=some o)->Q (.ref h.objs.size) { s with heap:=h.push oI }->wpAny (model prog w) A (Kb (.ref v)) Q E { s with heap:=h })(a0:∀h:Heap,(h.push oI).get? h.objs.size=some oI)(W:Runs prog w A s.heap.objs.size (s.heap.objs.size+1) n Fc It)(hn:n<=sizeLine)(h0:∀h,(∀b o,s.heap.get? b=some o->h.get? b=some o)->h.get? (s.heap.objs.size+1)=some oI->Fc [] h/\It 0 h)(hQ:∀acc h,acc.length=n->Fc acc h->s.heap.objs.size<=h.objs.size->(∀b o,s.heap.get? b=some o->h.get? b=some o)->Q acc { s with heap:=h }):wpAny (model prog w) A (collect (.ref v)) Q E s:=by
 refine Ab (wpAny_runValue (Dq F.entry_proto_collect ?_));rw[Ct F.plain_proto_collect _];refine Ab (Bz (Ad ⟨Ds Vc _,Dq F.entry_list_iadd ?_⟩));rw[Ct Vc _];show wpAny _ A.in1 (Hq (.ref s.heap.objs.size) (.ref v) (.ref s.heap.objs.size)) _ _ { s with heap:=s.heap.push { cls:=.type "list",data:=.seq ([]:List Value).toArray } };generalize P:s.heap.push { cls:=.type "list",data:=.seq ([]:List Value).toArray }=g;have J:∀b o,s.heap.get? b=some o->g.get? b=some o:=λb o q=>by rw[<- P];exact Ai _ q
 have gz:g.objs.size=s.heap.objs.size+1:=by rw[<- P];exact Fv _ _
 have gS:g.get? s.heap.objs.size=some { cls:=.type "list",data:=.seq ([]:List Value).toArray }:=by rw[<- P];exact As _ rfl
 refine Ab (Gj (X g J) ?_);have hs:Iy (.ref s.heap.objs.size) (.ref v)=false:=by simp[Iy,Ew hv]
 simp only[hs,h1,h2,To,Bh,if_false];refine Ab (I _ _ g _ J ?_);rw[gz];have M:∀b o,g.get? b=some o->(g.push oI).get? b=some o:=λb o q=>Ai _ q;have u:=M _ _ gS;have put:∀(h:Heap) (c:Nat),(∀b o,b≠s.heap.objs.size->(g.push oI).get? b=some o->h.get? b=some o)->h.get? s.heap.objs.size=some { cls:=.type "list",data:=.seq ([]:List Value).toArray c }->h.get? (s.heap.objs.size+1)=some oI ->
   Fu (model prog w) A (.builtin "list.extend.loop" ⟨[.ref s.heap.objs.size,.ref (s.heap.objs.size+1),.ref s.heap.objs.size],[]⟩) (λr j=>∃acc C,r=.ok (.ret (.ref s.heap.objs.size))/\j.heap.get? s.heap.objs.size=some { cls:=.type "list",data:=.seq acc C }/\Q acc.toList j) { s with heap:=h }:=by
  intro h c O S U;obtain⟨f,i⟩:=h0 h (λb o q=>O b o (Bm (Ax q)) (M b o (J b o q))) U;refine grow W (Bm (He _)) hn _ n [] _ c (by simp) (Bv _) f i S λacc h' C e f' k' j=>⟨acc.toArray,C,rfl,j,?_⟩
  have:=hQ acc h' e f' (Hm (Ax j)) λb o q=>k' b o (Bm (Ax q)) (Bm (Jo (Ax q))) (O b o (Bm (Ax q)) (M b o (J b o q)));simpa using this
 have Y:(g.push oI).get? (s.heap.objs.size+1)=some oI:=by grind
 refine Ab (Cq (H _ _ _ _ (X (g.push oI) λb o q=>M b o (J b o q)) ?_));have D:∀(h:Heap) (c:Nat),(∀b o,b≠s.heap.objs.size->(g.push oI).get? b=some o->h.get? b=some o)->h.get? s.heap.objs.size=some { cls:=.type "list",data:=.seq ([]:List Value).toArray c }->h.get? (s.heap.objs.size+1)=some oI->∀{R:Result->Ag->Prop},
   (∀j acc C,j.heap.get? s.heap.objs.size=some { cls:=.type "list",data:=.seq acc C }->Q acc.toList j->R (.ok (.ret (.ref s.heap.objs.size))) j)->Fu (model prog w) A (.builtin "list.extend.loop" ⟨[.ref s.heap.objs.size,.ref (s.heap.objs.size+1),.ref s.heap.objs.size],[]⟩) R { s with heap:=h }:=by
  intro h c O S U R hR;refine Ip (put h c O S U) λr j z=>?_;obtain⟨acc,C,rfl,e,q⟩:=z;exact hR j acc C e q
 refine Rb (λ_=>?_) (λ_=>?_)
 ·refine Ab (Gk (Ab ?_));show wpAny _ _ (Mz s.heap.objs.size (·.push .none) >>= λ_=>Mz s.heap.objs.size (·.pop)) _ _ _;refine Ab (Ge u rfl ?_);have B:=En u (λx=>x.push Value.none);refine Ge B rfl ?_;have G:=En B (λx=>x.pop);have L:∀b o,b≠s.heap.objs.size->(g.push oI).get? b=some o->(((g.push oI).update s.heap.objs.size (Dm λx=>x.push Value.none)).update s.heap.objs.size (Dm λx=>x.pop)).get? b=some o :=
   λb o Z q=>(Co _ _ (Ex Z)).trans ((Co _ _ (Ex Z)).trans q)
  refine Ad ⟨Ds Gh _,D _ _ L G (L _ _ (Ew (He _)) Y) λj acc C e q=>?_⟩;exact Ab (Sx e (Ad q))
 ·refine Ad ⟨Ds Gh _,D _ _ (λb o _ q=>q) u Y λj acc C e q=>?_⟩;exact Ab (Sx e (Ad q))
end
end PySem.Rv
namespace L2
open PySem PySem.Spec PyProof.Rows SB TX
noncomputable def kP(p:Pth):List Key:=p.map λn=>Sum.inr (mk n)
noncomputable abbrev vP(p:Pth):List V:=p.map λn=>V.str (mk n)
def q1w(p):(kP p).map kV=vP p:=by unfold kP;rw[Ah];rfl
noncomputable abbrev HRow:=Pth×V
noncomputable abbrev dR(rows:List HRow):HO:=.dT (rows.map λr=>(kP r.1,r.2))
theorem z2c:∀{p} {us},Vals (vP p) us->Jd us (p.map mk)
 |[],_,.nil=>.nil
 |n::p,us,h=>by
  cases h with
  |cons r t =>
   obtain⟨k,rfl⟩:=r;exact .cons _ k (z2c t)
section
variable{X:Cx}{pins:List (Addr×Obj)}{σ:St}{H:Hp}{s:Ag}
def Inv.path(I:Inv X pins σ H s)(h:H b=some (.tup (vP p))):PathAt s.heap (.ref b) p:=by
 obtain⟨z,f,r,t⟩:=I.hok b _ h;exact⟨b,f.toArray,rfl,t,by simpa using z2c r⟩
def Inv.rows(I:Inv X pins σ H s){rows}(hd:H d=some (dR rows)):(d==Eh)=false/\rows.length<=sizeLine/\∃j v B,s.heap.get? d=some j/\j.ExactDict/\j.data=.dict v B/\(rows.map (·.1)).Nodup /\
  ∃zs:List (Addr×Value×HRow),zs.map (·.2.2)=rows/\v.toList.map (λe=>(e.key,e.val))=zs.map (λz=>(Value.ref z.1,z.2.1))/\∀z∈zs,H z.1=some (.tup (vP z.2.2.1))/\RelV z.2.2.2 z.2.1:=by
 obtain⟨z,u,f,hp,j,v,B,ho,C,D,L,E⟩:=(show ObjOk X.prog X.w H s.heap d (dR rows) from I.hok d _ hd)
 rw[Aa] at z;have go:∀(rows:List HRow) (f:List (List Key×Addr×Value)),Er (λ(p:List Key×V) (q:List Key×Addr×Value)=>p.1=q.1/\H q.2.1=some (.tup (p.1.map kV))/\RelV p.2 q.2.2) (rows.map λr=>(kP r.1,r.2)) f ->
   f.map (·.1)=rows.map (λr=>kP r.1)/\∃zs:List (Addr×Value×HRow),zs.map (·.2.2)=rows/\(f.map (Pl (Ij (mixKind X.prog X.w)))).map (λe=>(e.key,e.val))=zs.map (λz=>(Value.ref z.1,z.2.1))/\∀z∈zs,H z.1=some (.tup (vP z.2.2.1))/\RelV z.2.2.2 z.2.1:=by
  intro rows;induction rows with
  |nil=>intro f h;cases h;exact⟨rfl,[],rfl,rfl,λ_ h=>nomatch h⟩
  |cons r rows ih =>
   intro f h;cases h with
   |cons hq t =>
    rename_i q ys;obtain⟨M,O,P⟩:=hq;obtain⟨Q,zs,R,S,T⟩:=ih ys t;refine⟨by rw[Ay,Ay,Q,<- M],(q.2.1,q.2.2,r)::zs,by rw[Ay,R],by rw[Ay,Ay,Ay,S];rfl,λz G=>?_⟩;rcases Bb.mp G with rfl|G
    ·exact⟨by rw[<- q1w];exact O,P⟩
    ·exact T z G
 obtain⟨U,zs,W,Y,Z⟩:=go rows f hp;refine⟨u,z,j,v,B,ho,C,D,?_,zs,W,by rw[L];exact Y,Z⟩;rw[U] at E;have e:rows.map (λr=>kP r.1)=(rows.map (·.1)).map kP:=by simp_all
 rw[e] at E;exact(Ic.mp E).imp λJ z=>J (by rw[z])
end
noncomputable abbrev PTs(H:Hp):List Addr->List Pth->Prop:=Er λb p=>H b=some (.tup (vP p))
noncomputable def rSortD:List V->Hp->VK->Prop:=λvs H Q=>∃d rows,vs=[.ref d]/\H d=some (dR rows)/\rows.length<64/\(∀r∈rows,r.1≠[]) /\
 ∀L bs ps,H L=none->ps.Perm (rows.map (·.1))->ps.Pairwise (λa b=>pLt b a=false)->PTs H bs ps->Q (.ref L) (upd H L (.lst (bs.map V.ref)))
theorem q8b:∀(bs:List Addr),Vals (bs.map V.ref) (bs.map Value.ref)
 |[]=>.nil
 |b::bs=>.cons rfl (q8b bs)
theorem x3y{j:Type}{f}{g}:∀{zs:List j},(∀z∈zs,H (f z)=some (.tup (vP (g z))))->PTs H (zs.map f) (zs.map g)
 |[],_=>.nil
 |z::zs,h=>.cons (h z Au) (x3y λy q=>h y (Ap _ q))
def q4x(hr:Room k X.A):CallR X (.builtin "sorted") rSortD:=by
 intro a9 s σ H xs us Q I rv h;obtain⟨d,rows,rfl,hd,few,a1,q⟩:=h;obtain⟨u,rfl,ru⟩:=rv.one;cases ru;obtain⟨U,hz,ob,L,ep,ho,Y,M,nd,O,z1,z2,z3⟩:=I.rows hd;have Z:L.size=rows.length:=by
  have:=congrArg List.length z2;rw[Aa,Aa,Fi] at this;rw[this,<- z1,Aa]
 have P:∀{i:Nat} (hi:i<L.size),∃z∈O,O[i]?=some z/\L[i].key=.ref z.1:=λ{i} hi=>by
  have e:=congrArg (λl=>l[i]?) z2;simp only[Am,Ht,Ed hi,Km] at e;cases G:O[i]? with
  |none=>simp_all
  |some z =>
   rw[G] at e;injection e with e;injection e with e1 e2;exact⟨z,Af G,rfl,e1⟩
 have R:=Ax ho;refine SB.sorted_ok λ{Q'} kk=>?_;refine PySem.Rv.collect_runs (n:=L.size) (Fc:=λj _=>j=(O.take j.length).map λz=>Value.ref z.1)
  (It:=λi h=>h.IsKeyIter (s.heap.objs.size+1) d i L.size ep/\h.get? d=some ob) (λh D=>⟨ob,D _ _ ho,Y.1⟩) R (by decide) (by decide) (λA E s' Q hT S=>W.kdl_hint_dict hT S)
  (λA E h Q D S=>PySem.Rv.keys_iter U ⟨ob,D _ _ ho,Y.1⟩ (D _ _ ho) M S) (λh=>As _ rfl) ⟨λj h T f _=>f,λi h T ⟨f1,f2⟩ kp=>⟨f1.at λo e=>kp _ _ (Ew (He _)) e,kp _ _ (Bm R) f2⟩,?_,?_⟩ (by lia)
  (λh D ki=>⟨rfl,⟨_,ki,rfl,rfl⟩,D _ _ ho⟩) (λj h el f a0 D=>?_)
 ·intro j s' Q E hl f ⟨i1,i2⟩ S;refine PySem.Rv.keys_item i1 i2 M hl λT j1 sb=>?_;obtain⟨z,J,G,a2⟩:=P hl;rw[a2];refine S _ T ?_ ⟨j1,(sb.2 d (Bm (Jo R))).trans i2⟩ λb o hb e=>(sb.2 b hb).trans e;rw[An,El,Lk,G,Ae,<- f];rfl
 ·intro s' Q E ⟨i1,i2⟩ S;exact PySem.Rv.keys_end hr.hd i1 i2 M (Aq _) λT eb=>S T λb o hb e=>eb b o hb e
 ·have a3:O.length=L.size:=by rw[Z,<- z1,Aa]
  have ea:j=O.map λz=>Value.ref z.1:=by grind
  have a4:∀v∈j,∃p∈rows.map (·.1),p≠[]/\PathAt h v p:=λv hv=>by
   rw[ea] at hv;obtain⟨z,J,rfl⟩:=Ac.mp hv;have hm:z.2.2∈rows:=by grind
   exact⟨z.2.2.1,Ac.mpr ⟨_,hm,rfl⟩,a1 _ hm,(I.path (z3 z J).1).keep D⟩
  refine kk j h s.toks _ _ _ (SB.ready_paths (by lia) a4) λT out so a5 ⟨e,he⟩=>?_;have pm:=so.perm;rw[ea] at pm;obtain⟨B,p1,p2⟩:=SB.perm_map_inv pm rfl;have C:=so.rise;rw[p2] at C;have a6:=SB.rise_paths (λ_ _ _ a b=>a.inj b) (λz hz=>by
   have J:=p1.mem_iff.mp hz;have hm:z.2.2∈rows:=by grind
   exact⟨(I.path (z3 z J).1).keep D,Ac.mpr ⟨_,hm,rfl⟩⟩) C
  have keep:=λb o z=>a5 b o (D b o z);have a7:=I.hok.fresh a0;have eo:out.toList=(B.map (·.1)).map Value.ref:=by rw[p2,Ah];rfl
  have a8:(B.map (·.1)).length=L.size:=by rw[Aa,p1.length_eq,a3]
  refine⟨.ref h.objs.size,upd H h.objs.size (.lst ((B.map (·.1)).map V.ref)),I.laid (t':=s.toks) keep a0 ⟨by rw[Aa,a8];lia,_,e,q8b _,?_⟩,rfl,?_⟩
  ·rw[he,<- eo]
  ·refine q _ (B.map (·.1)) (B.map λz=>z.2.2.1) a7 ?_ a6 (x3y λz hz=>(z3 z (p1.mem_iff.mp hz)).1);have:=p1.map λz:Addr×Value×HRow=>z.2.2.1;have e3:O.map (λz=>z.2.2.1)=rows.map (·.1):=by rw[<- z1,Ah];rfl
   rwa [e3] at this
noncomputable def vwO(v d:Addr):HO:=.ext λh=>h.IsItemsView v d
noncomputable def rItems:V->List V->Hp->VK->Prop:=λx vs H Q=>∃d rows,x=.ref d/\vs=[]/\H d=some (dR rows)/\∀v,H v=none->Q (.ref v) (upd H v (vwO v d))
def z4z:MtR X "dict.items" rItems:=by
 intro C s M H x vs v O Q I E G h;obtain⟨d,rows,rfl,rfl,hd,q⟩:=h;cases E;have B:=G.zero;subst B;obtain⟨f,P,D,R,S,ho,j,J,_⟩:=I.rows hd;refine Bw F.slot_dict_items ⟨D,ho,j.1⟩ F.entry_dict_items ?_ (F.args_dict_items_1 _);refine Ab ?_;unfold Tu;refine Ab (Hw ⟨D,ho,j.1⟩ ?_);show wpAny _ _ (pure d) _ _ s;refine Ad ?_;unfold Ju;rw[if_neg (by rw[f];exact Bq)];refine Ab (Ad (Ab (Bz (Ad ⟨_,rfl,.ref s.heap.objs.size,_,I.laid (t':=s.toks) (λb u e=>Ai _ e) (Aq _) ?_,rfl,q _ I.fresh⟩))));exact⟨⟨_,As _ rfl,rfl,rfl⟩,⟨_,As _ rfl⟩,λT U ⟨o,e,c,L⟩ k=>⟨o,k o e,c,L⟩⟩
noncomputable def PR(H:Hp)(a:Addr)(r:HRow):Prop:=∃b,H a=some (.tup [.ref b,r.2])/\H b=some (.tup (vP r.1))
noncomputable abbrev PRs(H:Hp):List Addr->List HRow->Prop:=Er (PR H)
noncomputable def rSortV:List V->Hp->VK->Prop:=λvs H Q=>∃v d rows,vs=[.ref v]/\H v=some (vwO v d)/\H d=some (dR rows)/\rows.length<64/\(∀r∈rows,Low r.1) /\
 ∀L as rs H',H L=none->rs.Perm rows->(rs.map (·.1)).Pairwise (λa b=>pLt b a=false)->Same H H'->H' L=some (.lst (as.map V.ref))->PRs H' as rs->Q (.ref L) H'
def Inv.tracks{u:St}:∀{zs:List (Addr×List V)} {H},Inv X pins u H s->X.s₀.heap.objs.size<=n->(zs.map (·.1)).Nodup ->
  (∀z∈zs,n<=z.1/\FpOk X pins H z.1/\z.2.length<=sizeLine/\∃f,Vals z.2 f/\IsTup s.heap z.1 f.toArray)->∃H',Inv X pins u H' s/\Same H H'/\(∀z∈zs,H' z.1=some (.tup z.2))/\∀b,(∀z∈zs,z.1≠b)->H' b=H b:=by
 intro zs;induction zs with
 |nil=>intro H I _ _ _;exact⟨H,I,Same.refl H,(λ_ h=>nomatch h),λ_ _=>rfl⟩
 |cons z zs ih =>
  intro H I hn nd v;obtain⟨D,B,E,f,G,L⟩:=v z Au;rw[Ay,Bu] at nd;have M:=I.track (o:=.tup z.2) (Cc hn D) B ⟨E,f,G,L⟩;obtain⟨H',J,sm,O,ho⟩:=ih M hn nd.2 (λy j=>by
   obtain⟨P,C,Q,R⟩:=v y (Ap _ j);exact⟨P,⟨by rw[q0d (λe=>nd.1 (by rw[<- e];exact Ac.mpr ⟨y,j,rfl⟩))];exact C.1,C.2⟩,Q,R⟩)
  refine⟨H',J,((Same.refl H).new B.1).trans sm,λy j=>?_,λb q=>?_⟩
  ·rcases Bb.mp j with rfl|j
   ·exact sm _ _ q0b
   ·exact O y j
  ·rw[ho b λy j=>q y (Ap _ j),q0d (Ex (q z Au))]
theorem q0u{u B:Type}{f:u->B}:∀{l:List u},(l.map f).Nodup->∀{x y},x∈l->y∈l->f x=f y->x=y
 |[],_,_,_,h,_,_=>nomatch h
 |a::l,nd,x,y,hx,hy,e=>by
  rw[Ay,Bu] at nd;rcases Bb.mp hx with ex|q
  ·rcases Bb.mp hy with v|j
   ·rw[ex,v]
   ·exact absurd (by rw[<- ex,e];exact Ac.mpr ⟨y,j,rfl⟩) nd.1
  ·rcases Bb.mp hy with v|j
   ·exact absurd (by rw[<- v,<- e];exact Ac.mpr ⟨x,q,rfl⟩) nd.1
   ·exact q0u nd.2 q j e
noncomputable abbrev Zt:=Addr×Value×HRow
structure Made (h) (lo) (ws:List (Addr×Zt)):Prop where
 rise:(ws.map (·.1)).Pairwise λa b:Nat=>a<b
 low:∀x∈ws,lo<=(show Nat from x.1)
 at_:∀x∈ws,IsTup h x.1 #[.ref x.2.1,x.2.2.1]
def Made.keep(m:Made h f ws)(k:∀ a  o,f<=a->h.get? a=some o->h'.get? a=some o):Made h' f ws :=
 ⟨m.rise,m.low,λx j=>SB.IsTup.keep (m.at_ x j) λo e=>k _ o (m.low x j) e⟩
theorem z8z{j:Type}{f}{g}:∀{zs:List j},(∀z∈zs,PR H (f z) (g z))->PRs H (zs.map f) (zs.map g)
 |[],_=>.nil
 |z::zs,h=>.cons (h z Au) (z8z λy q=>h y (Ap _ q))
def z6l(hr:Room k X.A):CallR X (.builtin "sorted") rSortV:=by
 intro c2 s σ H xs us Q I rv h;obtain⟨v,d,rows,rfl,hv,hd,few,c3,q⟩:=h;obtain⟨u,rfl,ru⟩:=rv.one;cases ru;obtain⟨c4,hz,ob,M,ep,ho,c6,a0,nd,zs,z1,z2,z3⟩:=I.rows hd;obtain⟨vo,a1,vc,vd⟩:s.heap.IsItemsView v d:=(I.hok v _ hv).1;have c5:M.size=rows.length:=by
  have:=congrArg List.length z2;rw[Aa,Aa,Fi] at this;rw[this,<- z1,Aa]
 have a2:∀{i:Nat} (hi:i<M.size),∃z∈zs,zs[i]?=some z/\M[i].key=.ref z.1/\M[i].val=z.2.1:=λ{i} hi=>by
  have e:=congrArg (λl=>l[i]?) z2;simp only[Am,Ht,Ed hi,Km] at e;cases O:zs[i]? with
  |none=>simp_all
  |some z =>
   rw[O] at e;injection e with e;injection e with U L;exact⟨z,Af O,rfl,U,L⟩
 have a6:zs.length=M.size:=by grind
 have a7:=Ax ho;have hu:=hr.un;refine SB.sorted_ok λ{Q'} kk=>?_;refine PySem.Rv.collect_runs (n:=M.size) (oI:=PySem.Rv.itemObj d 0 M.size ep .none (.bool false) .none .none) (Fc:=λC h=>∃D,C=D.map (λx=>Value.ref x.1)/\D.map (·.2)=zs.take C.length/\Made h (s.heap.objs.size+2) D)
  (It:=λi h=>PySem.Rv.ItemIt h (s.heap.objs.size+1) d i M.size ep/\h.get? d=some ob) (λh P=>⟨vo,P _ _ a1,vc⟩) (Ax a1) (by decide) (by decide) (λA E s' Q hT hq=>W.kdx_hint hT hq)
  (λA E h Q P hq=>PySem.Rv.items_iter ⟨vo,P _ _ a1,vc,vd⟩ (P _ _ ho) a0 hq) (λh=>As _ rfl) ⟨?_,λi h Y ⟨f1,f2⟩ kp=>⟨f1.keep λo e=>kp _ _ (Ew (He _)) e,kp _ _ (Bm a7) f2⟩,?_,?_⟩ (by lia)
  (λh P ki=>⟨⟨[],rfl,rfl,.nil,(λ_ z=>nomatch z),(λ_ z=>nomatch z)⟩,⟨_,_,_,_,ki,.inl rfl⟩,P _ _ ho⟩) (λC h el f R P=>?_)
 ·rintro C h Y ⟨D,U,L,m⟩ kp;refine⟨D,U,L,m.keep λa o ha e=>kp a o (λz=>?_) (λz=>?_) e⟩
  ·rw[z] at ha;exact absurd ha (by lia)
  ·grind
 ·rintro C s' Q E hl ⟨D,U,L,m⟩ ⟨i1,i2⟩ hq;refine PySem.Rv.items_item i1 i2 a0 hl λY j1 j2 j3 j4=>?_;obtain⟨z,c7,O,b3,b4⟩:=a2 hl;have lo:=i1.lt;have ni:∀{a:Nat},s.heap.objs.size+2<=a->a≠s.heap.objs.size+1:=λh=>by lia
  refine hq _ Y ⟨D++[(s'.heap.objs.size,z)],by rw[U,Ae];rfl,?_,?_⟩ ⟨j1,j4 d ob (Bm (Jo a7)) i2⟩ j4
  ·rw[Ae,L,An,El,Lk,O];rfl
  ·have m':=m.keep (h':=Y) λa o ha e=>j4 a o (ni ha) e;refine⟨?_,λx j=>?_,λx j=>?_⟩
   ·rw[Ae];refine List.pairwise_append.mpr ⟨m.rise,Qt _ _,λa ha b hb=>?_⟩;obtain⟨x,j,rfl⟩:=Ac.mp ha;have hb':b=s'.heap.objs.size:=by simpa using hb
    rw[hb'];obtain⟨o,eo,_⟩:=m.at_ x j;exact Ax eo
   ·rcases Ao.mp j with j|j
    ·exact m.low x j
    ·rw[Ak.mp j];exact lo
   ·rcases Ao.mp j with j|j
    ·exact m'.at_ x j
    ·rw[Ak.mp j];refine⟨_,j2,rfl,0,?_⟩;rw[b3,b4]
 ·rintro s' Q E ⟨i1,i2⟩ hq;exact PySem.Rv.items_end hr.hd i1 i2 a0 (Aq _) λY eb=>hq Y λb o hb e=>eb b o hb e
 ·obtain⟨D,U,L,m⟩:=f;rw[el,<- a6,Ba] at L;have S:∀{x:Addr×Zt},x∈D->x.2∈zs:=λ{x} j=>by rw[<- L];exact Ac.mpr ⟨x,j,rfl⟩
  have a8:∀{x:Addr×Zt},x∈D->x.2.2.2∈rows:=λ{x} j=>by rw[<- z1];exact Ac.mpr ⟨_,S j,rfl⟩
  have a3:∀{x:Addr×Zt},x∈D->PairAt h (.ref x.1) x.2.2.2.1 x.2.2.1:=λ{x} j=>⟨x.1,.ref x.2.1,rfl,m.at_ x j,(I.path (z3 _ (S j)).1).keep P⟩
  have b5:(D.map λx=>x.2.2.2.1).Nodup:=by grind
  have Z:∀{w:Value},w∈C->∃x∈D,w=.ref x.1:=λ{w} hw=>by
   rw[U] at hw;obtain⟨x,j,rfl⟩:=Ac.mp hw;exact⟨x,j,rfl⟩
  refine kk C h s.toks _ _ _ (SB.ready_pairs (ps:=rows.map (·.1)) (by lia) (λw hw=>?_) (λw hw y hy p mm c8 b6 b7=>?_) (by lia)) λY out so a9 ⟨e,he⟩=>?_
  ·grind
  ·obtain⟨x,j,rfl⟩:=Z hw;obtain⟨x2,b0,rfl⟩:=Z hy;have q1:=SB.PairAt.inj b6 (a3 j);have q2:=SB.PairAt.inj b7 (a3 b0);rw[q0u b5 j b0 (q1.symm.trans q2)]
  ·have pm:=so.perm;rw[U] at pm;obtain⟨B,T,p2⟩:=SB.perm_map_inv pm rfl;have G:=so.rise;rw[p2] at G;have b8:=SB.rise_paths (λw a b ⟨_,x⟩ ⟨_,y⟩=>SB.PairAt.inj x y) (λx j=>by
    have b1:=T.mem_iff.mp j;exact⟨⟨_,a3 b1⟩,Ac.mpr ⟨_,a8 b1,rfl⟩⟩) G
   have keep:=λb o z=>a9 b o (P b o z);have I1:=I.kept (t':=s.toks) keep;have a4:=λ{x} j=>Cc (Nat.le_add_right _ 2) (m.low x (T.mem_iff.mp j));have b9:(B.map (·.1)).Nodup:=by
    have:(D.map (·.1)).Nodup:=m.rise.imp λh e=>by subst e;exact absurd h (Fq _)
    exact(T.map (·.1)).nodup_iff.mpr this
   obtain⟨H1,J,sm,ht,c0⟩:=I1.tracks (zs:=B.map λx=>(x.1,[V.ref x.2.1,x.2.2.2.2])) I.sz (by rw[Ah];exact b9) (λz hz=>by
    obtain⟨x,j,rfl⟩:=Ac.mp hz;refine⟨a4 j,I.fpOk (a4 j) (I.hok.fresh (a4 j)),by show 2<=sizeLine;decide,[.ref x.2.1,x.2.2.1],.cons rfl (.cons (z3 _ (S (T.mem_iff.mp j))).2 .nil),?_⟩;exact SB.IsTup.keep (m.at_ x (T.mem_iff.mp j)) λo e=>a9 _ o e)
   have a5:H1 h.objs.size=none:=by
    rw[c0 _ λz hz e=>?_]
    ·exact I.hok.fresh R
    ·obtain⟨x,j,rfl⟩:=Ac.mp hz;obtain⟨o,eo,_⟩:=m.at_ x (T.mem_iff.mp j);exact absurd (Ax eo) (by rw[show x.1=h.objs.size from e];exact Fq _)
   have c1:(B.map (·.1)).length=M.size:=by rw[Aa,T.length_eq,<- a6,<- L,Aa]
   have eo:out.toList=(B.map (·.1)).map Value.ref:=by rw[p2,Ah];rfl
   have J2:=J.track (o:=.lst ((B.map (·.1)).map V.ref)) (Cc I.sz R) (I.fpOk R a5) ⟨by rw[Aa,c1];lia,_,e,q8b _,by rw[<- eo];exact he⟩;have b2:Same H (upd H1 h.objs.size (.lst ((B.map (·.1)).map V.ref))):=sm.trans ((Same.refl H1).new a5);refine⟨.ref h.objs.size,_,J2,rfl,q _ (B.map (·.1)) (B.map λx=>x.2.2.2) _ (I.hok.fresh R) ?_ (by rw[Ah];exact b8) b2 q0b (z8z λx j=>?_)⟩
   ·have e3:D.map (λx=>x.2.2.2)=rows:=by rw[<- z1,<- L,Ah];rfl
    rw[<- e3];exact T.map _
   ·refine⟨x.2.1,?_,b2 _ _ (z3 _ (S (T.mem_iff.mp j))).1⟩;exact(Same.refl H1).new a5 _ _ (ht _ (Ac.mpr ⟨x,j,rfl⟩))
def d_set{B:St}(J:A.units+1<cLine)(I:Inv X pins B H s)(e:H a=some (.dT kvs))(C:H b=some (.tup (k.map kV)))(l:kvs.length<sizeLine)(L:RelV v r)(h:∀j,Inv X pins B (upd H a (.dT (putK kvs k v))) j->(∀b o,b≠a->s.heap.get? b=some o->j.heap.get? b=some o)->Q () j):wpAny (model X.prog X.w) A (dictSet a (.ref b) r) Q E s:=by
 obtain⟨z,hd,M,f,O⟩:=x5g I.hok e;have Z:M.length<=sizeLine:=by rw[<- Eu f];exact z
 have hl:(putK kvs k v).length<=sizeLine:=by have:=q3f kvs k v;lia
 refine wpAny_dictSet_heap (show(Ij (mixKind X.prog X.w)).room A from Nat.lt_of_succ_lt J) (q5p I.hok C) O λh' u hs=>h _ ?_ λb o P e=>(hs.2 b P).trans e;obtain⟨q,R,S,D,T,U,W,_,Y⟩:=u;refine z3l I (by rw[e];exact True.intro) hs ⟨q,D⟩ ⟨hl,hd,_,(f.put k C L).keeps λc ys G=>?_,q,R,S,D,T,U,W,Y⟩;rw[q0d (x4o G e (λz=>nomatch z))];exact G
noncomputable def CompWD(J:It)(g:TG)(tt:TT)(tk tv:TE)(σ0:St)(D:Addr)(Fin:List (List Key×V)->Hp->Prop)(H1:Hp):Prop :=
 ∃W:Nat->Nat->List (List Key×V)->Hp->Prop,(∃m,W 0 m [] (upd H1 D (.dT [])))/\∀i m ys H,W i m ys H->H D=some (.dT ys) /\
  ((J.stop i H/\Fin ys H)\/(J.go i H/\∃N:List (List Key×V)->Hp->Prop,(∀zs H',N zs H'->∃m',m'<m/\W (i+1) m' zs H')/\∀x H',J.yld i H x H'->g x σ0 H' λσ2 H2=>Keeps0 σ0 σ2/\tt σ2 H2 λb H3 =>
   if b=true then tk σ2 H3 λy H4=>tv σ2 H4 λv H5=>∃k c,y=.ref c/\H5 c=some (.tup (k.map kV))/\H5 D=some (.dT ys)/\ys.length<sizeLine/\N (putK ys k v) (upd H5 D (.dT (putK ys k v)))
   else N ys H3))
def z2d{j:St}{Fin:Addr->List (List Key×V)->Hp->Prop}{RR:Value->Addr->Result->Ag->Prop}(hc:X.calm=true)(a1:scope.kind=.function)(b8:∀y∈scope.names,y.2≠.cell)(d3:∀x c,cl.lookup x=some c->X.env.cells.lookup x=some c)(d4:∀x,(x,Bs.free)∈scope.names->∃c,cl.lookup x=some c)(co:CapOk X scope caps)(hg:∀C s H,PG (cxComp X (tg++caps.map (·.1)) scope cl C fp s H) target g)(ht:∀C s H,PIfs (cxComp X (tg++caps.map (·.1)) scope cl C fp s H) ifs tt)(he:∀C s H,PE (cxComp X (tg++caps.map (·.1)) scope cl C fp s H) kx tk)(hv:∀C s H,PE (cxComp X (tg++caps.map (·.1)) scope cl C fp s H) vx tv)(hu:X.A.units+1<cLine)(I2:Inv X h j H1 s₂)(T:Turn X.prog X.w X.K target J fp it tn)(st:tn 0 s₂.heap)(hf:∀b∈fp,FpOk X h H1 b)(hw:∀D,H1 D=none->CompWD J g tt tk tv (tg0 tg j caps) D (Fin D) H1)(d5:∀D C ys H' O,H1 D=none->Inv X h j H' O->(∃m,O.heap.Ns C m)->FpOk X h H' C->Fin D ys H'->RR (.ref D) C (.ok .next) O):
  wpAny (model X.prog X.w) X.A newDict (λacc I=>wpAny (model X.prog X.w) X.A (newFunctionEnv scope X.env.globals cl [] X.env.qual none .none (some X.env)) (λa8 b9 =>
   Fu (model X.prog X.w) X.A (.compStart (.DictComp kx vx [⟨target,iter,ifs,0⟩] scope pos) 0 (.ref it) acc { a8 with scope:=relabel scope X.env }) (RR acc a8.locals) b9) E I) E s₂:=by
 have I3:Inv X h j (upd H1 s₂.heap.objs.size (.dT [])) { s₂ with heap:=s₂.heap.push { cls:=.type "dict",dict:=none,data:=.dict #[] },toks:=s₂.toks }:=I2.laid (λ_ _ q=>Ai _ q) (Aq _) (z0d s₂.heap I2.big);have b1:=I2.fresh;refine Bz (Tc b8 (by intro y hy;simp at hy) (λa2 B G=>?_) a1);dsimp only at B G ⊢;generalize b2:s₂.heap.objs.size=D at I3 b1 B G ⊢;generalize f2:({ s₂ with heap:=s₂.heap.push { cls:=.type "dict",dict:=none,data:=.dict #[] } }:Ag)=I at I3 B G ⊢;have e3:s₂.heap.push { cls:=.type "dict",dict:=none,data:=.dict #[] }=I.heap:=by grind
 have o3:({ s₂ with heap:=a2,toks:=s₂.toks+([]:List (Str×Value)).length }:Ag)={ I with heap:=a2,toks:=s₂.toks }:=by grind
 have b3:I.heap.objs.size=D+1:=by rw[<- e3,Fv,b2]
 rw[e3] at B G ⊢;have a9:∀b o,s₂.heap.get? b=some o->I.heap.get? b=some o:=λb o e=>by rw[<- e3];exact Ai _ e
 generalize a6:I.heap.objs.size=C at B G ⊢;have hk:=λb o e=>G.extBut b o (by rw[<- a6];exact Bm (Ax e)) (Ai _ e);have c0:∀b∈fp,∃o,s₂.heap.get? b=some o:=λb L=>by obtain⟨o,e,_⟩:=T.obj 0 _ st b L;exact⟨o,e⟩
 have c1:∀b∈fp,b≠D:=λb L=>by obtain⟨o,e⟩:=c0 b L;rw[<- b2];exact Bm (Ax e)
 have c2:∀b∈fp,FpOk X h (upd H1 D (.dT [])) b:=λb L=>⟨by rw[q0d (c1 b L)];exact(hf b L).1,(hf b L).2⟩
 have IY:=Inv.ofcomp (tk:=s₂.toks) tg I3 a1 b8 d3 d4 c2 (λb L=>let ⟨o,e⟩:=c0 b L;⟨o,a9 b o e⟩) (Ks a6) B hk co;have FC:FpOk X h H1 C:=by
  have z:=I3.fpOk (H':=H1) (Ks a6) (I2.hok.fresh (by rw[b2,<- a6,b3];exact Hh _));exact z
 generalize hY:cxComp X (tg++caps.map (·.1)) scope cl C fp I (upd H1 D (.dT []))=Y at IY;have d6:PG Y target g:=by grind
 have d7:PIfs Y ifs tt:=by grind
 have d8:PE Y kx tk:=by grind
 have d9:PE Y vx tv:=by grind
 have P:Y.prog=X.prog:=by rw[<- hY];rfl
 have R:Y.w=X.w:=by rw[<- hY];rfl
 have c3:Y.K=X.K:=by rw[<- hY];rfl
 have Z:Y.A=X.A:=by rw[<- hY];rfl
 have a0:Y.env=Gs scope cl C X.env:=by rw[<- hY];rfl
 have a7:Y.ex=fp:=by rw[<- hY];rfl
 have f3:Y.pn=[]:=by rw[<- hY];rfl
 have c4:Y.calm=true:=by rw[<- hY];exact hc
 have U:Y.xe=λ_ _=>False:=by rw[<- hY];rfl
 have b4:∀{H':Hp},(∀b∈fp,H' b=none)->∀b∈fp,FpOk Y [] H' b:=λ{H'} hn b L=>by
  refine⟨hn b L,?_,?_,.inl (by rw[a7];exact L),λx c e=>?_,λp hp=>?_⟩
  ·have:=(IY.ok.exf b (by rw[a7];exact L)).1;exact this
  ·exact IY.ok.exfs b (by rw[a7];exact L)
  ·exact(IY.ok.exf b (by rw[a7];exact L)).2 x c e
  ·grind
 obtain⟨W,⟨m0,w0⟩,c5⟩:=hw D b1;have c6:=T.keep 0 _ _ st λb L o e=>hk b o (a9 b o e)
 have back:∀{H':Hp} {O:Ag} {a3:St},Inv Y [] a3 H' O->Inv X h j H' O:=λ{H' O a3} S=>by
  have c7:=S.base;have c8:=S.os;rw[<- hY] at c7 c8;exact I3.call' c8 c7 (by have z:=S.hok;rw[P,R] at z;exact z) S.bare λb L=>⟨(hf b L).2.2.2.1,(hf b L).2.1,(hf b L).2.2.2.2.1,(hf b L).2.2.2.2.2⟩
 have gY:∀h s j H v u Q (M:Value->Ag->Prop),Inv Y h j H s->RelV v u->g v j H Q->wpAny (model X.prog X.w) X.A (assign target (Gs scope cl C X.env) u) (λ_ O=>∃a3 H',Inv Y h a3 H' O/\Q a3 H') M s:=λh s j H v u Q M S r q=>by
  have z:=d6 h s j H v u Q S r q;rw[P,R,Z,a0,U] at z;exact Dl z (λ_ _ x=>x) λ_ _ f=>f.elim
 have tY:∀h s j H Q (M:Value->Ag->Prop),Inv Y h j H s->tt j H Q->wpAny (model X.prog X.w) X.A (forIn ifs true λc r=>if r=true then do let ok<-isTrue c (Gs scope cl C X.env) (eval c (Gs scope cl C X.env));pure (ForInStep.yield ok) else pure (ForInStep.yield r)) (TP Y h j Q) M s:=λh s j H Q M S q=>by
  have z:=d7 h s j H Q S q;rw[P,R,Z,a0,U] at z;exact Dl z (λ_ _ x=>x) λ_ _ f=>f.elim
 have eY:∀h s j H Q (M:Value->Ag->Prop),Inv Y h j H s->tk j H Q->wpAny (model X.prog X.w) X.A (eval kx (Gs scope cl C X.env)) (EP Y h j Q) M s:=λh s j H Q M S q=>by
  have z:=d8 h s j H Q S q;rw[P,R,Z,a0,U] at z;exact Dl z (λ_ _ x=>x) λ_ _ f=>f.elim
 have vY:∀h s j H Q (M:Value->Ag->Prop),Inv Y h j H s->tv j H Q->wpAny (model X.prog X.w) X.A (eval vx (Gs scope cl C X.env)) (EP Y h j Q) M s:=λh s j H Q M S q=>by
  have z:=d9 h s j H Q S q;rw[P,R,Z,a0,U] at z;exact Dl z (λ_ _ x=>x) λ_ _ f=>f.elim
 have e0:∀i h s j H (M:Value->Ag->Prop),Inv Y h j H s->(∀b∈fp,FpOk Y h H b)->tn i s.heap->J.go i H ->
   wpAny (model X.prog X.w) X.A (Hb (.ref it)) (λr s1=>∃u,r=some u /\
    wpAny (model X.prog X.w) X.A (Kl target (.ref it) u) (λ_ s2=>∃x H',Inv Y h j H' s2/\RelV x u/\J.yld i H x H'/\tn (i+1) s2.heap/\∀b∈fp,H' b=none) M s1) M s:=λi h s j H M S b5 st go=>by
  have z:=T.item Y P R c3 c4 i h s j H M S b5 st go;rw[Z] at z;exact z
 have e1:∀i h s j H (M:Value->Ag->Prop),Inv Y h j H s->(∀b∈fp,FpOk Y h H b)->tn i s.heap->J.stop i H ->
   wpAny (model X.prog X.w) X.A (Hb (.ref it)) (λr s1=>r=none/\Inv Y h j H s1) M s:=λi h s j H M S b5 st go=>by
  have z:=T.done Y P R c3 c4 i h s j H M S b5 st go;rw[Z] at z;exact z
 have b0:Fu (model X.prog X.w) X.A (.compLoop (.DictComp kx vx [⟨target,iter,ifs,0⟩] scope pos) 0 (.ref it) (.ref D) (Gs scope cl C X.env)) (RR (.ref D) C) { I with heap:=a2,toks:=s₂.toks }:=by
  refine codeAny_loop rfl (λn O=>∃i ys H',Inv Y [] (tg0 tg j caps) H' O/\tn i O.heap/\(∀b∈fp,H' b=none)/\W i n ys H') ?_ m0 ⟨0,[],_,IY,c6,λb L=>(c2 b L).1,w0⟩;rintro n s4 ⟨i,ys,H4,I4,c9,d0,w4⟩;refine wpAny_noted ?_;obtain⟨f4,e2⟩:=c5 i n ys H4 w4;rcases e2 with⟨stop,fin⟩|⟨go,N,hN,step⟩
  ·refine Ab (Ia (Ab (thn (e1 i [] s4 _ H4 _ I4 (b4 d0) c9 stop) λr s5 ⟨hr,I5⟩=>?_)));subst hr;refine Ad (d5 D C ys H4 s5 b1 (back I5) ?_ ⟨?_,FC.2⟩ fin)
   ·obtain⟨m,hm,_⟩:=I5.loc;rw[a0] at hm;exact⟨m,hm⟩
   ·have z:=I5.free;rw[a0] at z;exact z
  ·refine Ab (Ia (Ab (thn (e0 i [] s4 _ H4 _ I4 (b4 d0) c9 go) λr s5 ⟨u,hr,h5⟩=>?_)));subst hr;refine Ab (thn h5 λ_ s6 ⟨x,H6,I6,r6,y6,b6,e4⟩=>?_);have I6':=I6.pinned (b4 e4) (T.obj _ _ b6);refine Ab (thn (gY _ s6 _ H6 x u _ _ I6' r6 (step x H6 y6)) λ_ s7 ⟨a4,H7,I7,kp,q7⟩=>?_);refine Ab (thnT (tY _ s7 a4 H7 _ _ I7 q7) λb s8 H8 I8 q8=>?_);have a5:∀{H9:Hp} {s9:Ag} {zs:List (List Key×V)} {m':Nat},Inv Y ([]++pinsAt fp s6.heap) a4 H9 s9->m'<n->W (i+1) m' zs H9->∃m,m<n/\∃i ys H',Inv Y [] (tg0 tg j caps) H' s9/\tn i s9.heap/\(∀b∈fp,H' b=none)/\W i m ys H':=λ{H9 s9 zs m'} I9 hm w9=>by
    refine⟨m',hm,i+1,zs,H9,I9.unpinned.weak kp.1 kp.2,T.keep _ _ _ b6 λb L o e=>(I9.pin (b,o) (Bo _ (Bo _ (q3c L e)))).1,λb L=>?_,w9⟩;obtain⟨o,e,d⟩:=T.obj _ _ b6 b L;exact(I9.pin (b,o) (Bo _ (Bo _ (q3c L e)))).2.1
   cases b with
   |true =>
    refine Ab (Ab (thnE (eY _ s8 a4 H8 _ _ I8 q8) λkv s9 yy H9 I9 r9 q9=>?_));refine Ab (Cq (thnE (vY _ s9 a4 H9 _ _ I9 q9) λvv f5 v e5 e6 e7 ⟨kk,bb,ey,e8,d1,d2,e9⟩=>?_));subst ey;cases r9;obtain⟨m',b7,f0⟩:=hN _ _ e9;refine Ab (Ia (Cq ?_));have z:=d_set (E:=notedBy (model X.prog X.w) X.A (Gs scope cl C X.env) λe O=>RR (.ref D) C (.error e) O) (Q:=λ_ O=>Inv Y ([]++pinsAt fp s6.heap) a4 (upd e5 D (.dT (putK ys kk v))) O) hu e6 d1 e8 d2 e7 λO I' _=>I';rw[P,R] at z;exact thn z λ_ f6 f1=>Ad ⟨rfl,a5 f1 b7 f0⟩
   |false =>
    obtain⟨m',b7,w8⟩:=hN _ _ q8;exact Ad ⟨rfl,a5 I8 b7 w8⟩
 rw[o3];exact codeAny_compStart_dict b0 (T.self _ 0 _ _ _ c6 b0)
noncomputable def tCompD(wi:TI)(g:TG)(tt:TT)(tk tv:TE)(tg:List Str)(caps:Caps):TE:=λσ H Q=>wi σ H λJ H1=>∀D,H1 D=none->CompWD J g tt tk tv (tg0 tg σ caps) D (λ_ H'=>Q (.ref D) H') H1
section
variable{X:Cx}{iter target kx vx:Expr}{ifs:List Expr}{scope:Scope}{pos:Pos}{wi:TI}{g:TG}{tt:TT}{tk tv:TE}
def z5a(E)(f)(U:X.calm=true)(W:PI X target iter wi)(Y:∀cl C fp s H,PG (cxComp X (E++f.map (·.1)) scope cl C fp s H) target g)(Z:∀cl C fp s H,PIfs (cxComp X (E++f.map (·.1)) scope cl C fp s H) ifs tt)(he:∀cl C fp s H,PE (cxComp X (E++f.map (·.1)) scope cl C fp s H) kx tk)(hv:∀cl C fp s H,PE (cxComp X (E++f.map (·.1)) scope cl C fp s H) vx tv)(hu:X.A.units+1<cLine)(hk:compChk X.N X.env.scope scope f=true:=by rfl)(hs:∀x,Jm iter X.env x=pure x:=by intro _;rfl):
  PE X (.DictComp kx vx [⟨target,iter,ifs,0⟩] scope pos) (tCompD wi g tt tk tv E f):=by
 intro G s σ H Q I h;obtain⟨j,L,q,u,co⟩:=q4w hk;obtain⟨cl,B,M,O⟩:=z0b I u;refine Ir rfl hs B j q (thn (W G s σ H _ I h) λv s1 h1=>thn h1 λa0 s2 h2=>?_);obtain⟨it,fp,tn,J,H2,e,I2,T,P,f2,hw⟩:=h2;subst e;refine z2d U j L M O co (λC s H=>Y cl C fp s H) (λC s H=>Z cl C fp s H) (λC s H=>he cl C fp s H) (λC s H=>hv cl C fp s H) hu I2 T P f2 hw ?_;intro D C ys H' s' hD I' R F fin;obtain⟨m,R⟩:=R;refine⟨m,R,λh' S=>⟨.ref D,H',I'.turned (t':=s'.toks) (λb o hb e=>(S.2 b hb).trans e) F.1 F.2.1 F.2.2.2.1 F.2.2.2.2.1 F.2.2.2.2.2,rfl,fin⟩⟩
noncomputable def tSetDC(wi:TI)(g:TG)(tt:TT)(tk tv:TE)(tg:List Str)(caps:Caps)(i:Nat):TS:=λD' σ H=>wi σ H λJ H1=>∀D,H1 D=none->CompWD J g tt tk tv (tg0 tg σ caps) D (λ_ H'=>D'.nx (σ.set i (some (.ref D))) H') H1
def x2i{M u}(L)(f)(hN:X.N.Nodup)(O:X.N[i]?=some y)(hx:Loc X.env.scope y)(hc:X.calm=true)(hi:PI X target iter wi)(hg:∀cl C fp s H,PG (cxComp X (L++f.map (·.1)) scope cl C fp s H) target g)(ht:∀cl C fp s H,PIfs (cxComp X (L++f.map (·.1)) scope cl C fp s H) ifs tt)(he:∀cl C fp s H,PE (cxComp X (L++f.map (·.1)) scope cl C fp s H) kx tk)(hv:∀cl C fp s H,PE (cxComp X (L++f.map (·.1)) scope cl C fp s H) vx tv)(hu:X.A.units+1<cLine)(hk:compChk X.N X.env.scope scope f=true:=by rfl)(hs:∀x,Jm iter X.env x=pure x:=by intro _;rfl)(P:Kq (.DictComp kx vx [⟨target,iter,ifs,0⟩] scope pos) (some (.Name y M)) u.line X.env=pure true:=by rfl)(hf:X.fn y=true\/X.env.scope.names.lookup y=some .local:=by trivial):
  PS X (.Assign [.Name y M] (.DictComp kx vx [⟨target,iter,ifs,0⟩] scope pos) u) (tSetDC wi g tt tk tv L f i):=by
 intro B s σ H D' I h;obtain⟨j,Q,q,E,co⟩:=q4w hk;obtain⟨cl,G,R,S⟩:=z0b I E;rw[Sf _ _ _ _ P];refine Ab (Ia (Ab ?_));refine Ab (Dl (Ir (use:=some (assign (.Name y M) X.env)) rfl hs G j q
  (thn (hi B s σ H _ I h) λv s1 h1=>thn h1 λa5 s2 h2=>?_)) (λ_ U hq=>Ad (Ad hq)) λ_ _ e=>e)
 obtain⟨it,fp,tn,J,H2,e,I2,T,W,f2,hw⟩:=h2;subst e;refine z2d (RR:=λY C=>compPost (model X.prog X.w) X.A X.xe (some (assign (.Name y M) X.env)) (λ_ U=>SP X B D' .next U) Y C) (Fin:=λD _ Z=>D'.nx (σ.set i (some (.ref D))) Z) hc j Q R S co (λC s H=>hg cl C fp s H) (λC s H=>ht cl C fp s H) (λC s H=>he cl C fp s H) (λC s H=>hv cl C fp s H) hu I2 T W f2 hw ?_;intro D C ys Z U hD I' hm F fin;obtain⟨m,hm⟩:=hm;refine Pg (q7i (v:=.ref D) I' hN O hx rfl (λa0 a1 a2=>?_) hf);obtain⟨a,sb,ha⟩:=a2;have a3:C≠a:=by
  rcases ha with ha|ha
  ·rw[ha];exact F.2.1
  ·exact λz=>F.2.2.2.2.1 y a ha z.symm
 refine⟨m,hm.sameBut sb a3,λh' a4=>?_⟩;exact⟨_,Z,a1.turned (t':=a0.toks) (λb o hb e=>(a4.2 b hb).trans e) F.1 F.2.1 F.2.2.2.1 F.2.2.2.2.1 F.2.2.2.2.2,fin⟩
end
def z5b{Fin}(f:Nat->List (List Key×V)->Hp->Prop)(h0:f 0 [] (upd H1 D (.dT [])))(hl:∀i ys H,f i ys H->H D=some (.dT ys))(B:∀i ys H,i<n->f i ys H->J.go i H)(j:∀ys H,f n ys H->J.stop n H)(hs:∀i ys H x H',i<n->f i ys H->J.yld i H x H'->g x σ0 H' λh G=>Keeps0 σ0 h/\tt h G λb E =>
   if b=true then tk h E λy I=>tv h I λv C=>∃k c,y=.ref c/\C c=some (.tup (k.map kV))/\C D=some (.dT ys)/\ys.length<sizeLine/\f (i+1) (putK ys k v) (upd C D (.dT (putK ys k v))) else f (i+1) ys E)(hd:∀ys H,f n ys H->Fin ys H):CompWD J g tt tk tv σ0 D Fin H1:=by
 refine⟨λi m ys H=>m=n-i/\i<=n/\f i ys H,⟨n,by simp,Bv _,h0⟩,?_⟩;rintro i m ys H ⟨rfl,L,p⟩;refine⟨hl i ys H p,?_⟩;by_cases u:i<n
 ·exact .inr ⟨B i ys H u p,f (i+1),λM H' q=>⟨n-(i+1),by lia,rfl,u,q⟩,λx H' y=>hs i ys H x H' u p y⟩
 ·have e:i=n:=by lia
  subst e;exact .inl ⟨j ys H p,hd ys H p⟩
def q9f{K}{Fin}(j:Nat->List (List Key×V)->Hp->Prop)(h0:j 0 [] (upd H1 D (.dT [])))(hl:∀i ys H,j i ys H->H D=some (.dT ys)/\SqL K H a xs)(hs:∀i ys H x,xs[i]?=some x->j i ys H->g x σ0 H λf B=>Keeps0 σ0 f/\tt f B λb u =>
   if b=true then tk f u λy C=>tv f C λv q=>∃k c,y=.ref c/\q c=some (.tup (k.map kV))/\q D=some (.dT ys)/\ys.length<sizeLine/\j (i+1) (putK ys k v) (upd q D (.dT (putK ys k v))) else j (i+1) ys u)(hd:∀ys H,j xs.length ys H->Fin ys H):CompWD (Itl K a) g tt tk tv σ0 D Fin H1 :=
 z5b j h0 (λi ys H p=>(hl i ys H p).1) (λi ys H h p=>⟨xs,xs[i],(hl i ys H p).2,by simp[h]⟩) (λys H p=>⟨xs,(hl _ ys H p).2,Aq _⟩)
  (λi ys H x E h p y=>by obtain⟨e,y⟩:=y;subst e;exact hs i ys _ x (y xs (hl i ys _ p).2) p) hd
end L2
namespace PySem.Rv
open Sem (wp)
section
variable{prog:Aw}{w:World}{A:Around}{E:Value->Ag->Prop}{s:Ag}
def q8p:Sz (.type "list") "keys" = pure none:=by rw[Ko,Hv];kernel_rfl
def no_keys(q:s.heap.get? a=some { cls:=.type "list",dict:=none,data:=.seq xs k,slots:=#[] })(v:A.handled=none)(h:∀h' tk,(∀b o,s.heap.get? b=some o->h'.get? b=some o)->Q none { s with heap:=h',toks:=tk }):wpAny (model prog w) A (getAttr? (.ref a) "keys") Q E s:=by
 obtain⟨hp,g,d,tk,os⟩:=s;have u:∀f,(⟨hp,g,d,f,os⟩:Ag).TypeIs (.ref a) "list" := λ_=>⟨_,q,rfl⟩
 have B:=sub_AttributeError;have C:=Ld.lookup;have D:=Ld.bind (.ref a);have G:=am_list_getattr_none;repeat (any_goals (first|assumption|exact u _|((with_reducible show wpAny _ _ (call (Value.builtin "list.__getattribute__") _ _) _ _ _);refine Lh Ld (u _) am_entry_list_getattribute (F.args_list_getattribute_2 _ _) (meets_getattribute_miss_list a xs k #[] "keys" _ q8p (by trivial) (by trivial)) ⟨q,v,λh' f e j=>?_⟩)|wp_step))
 obtain⟨H,I,J⟩:=j.there;show wpAny _ _ (getattributeRaised _ _ _ _ _ _ _) _ _ _;repeat (any_goals (first|assumption|wp_step))
 exact h _ _ j.keeps
end
def plain_upd:plainId "dict.update.loop" = true:=by trivial
def entry_upd:Qg table "dict.update.loop" = some Dk.«dict.update.loop» := entryFor_of_fast (by kernel_rfl)
end PySem.Rv
namespace L2
open PySem PySem.Spec PyProof.Rows SB TX
noncomputable def putR(acc:List (List Key×V))(r:HRow):List (List Key×V):=putK acc (kP r.1) r.2
theorem z5c:∀(rows:List HRow)  acc ,(rows.foldl putR acc).length<=acc.length+rows.length
 |[],acc=>Aq _
 |r::rows,acc=>by
  have f:=z5c rows (putR acc r);have h:=q3f acc (kP r.1) r.2;rw[Wg,Cj];unfold putR at f ⊢;lia
section
variable{X:Cx}{pins:List (Addr×Obj)}{σ:St}
def q5g(I:Inv X pins σ H s)(h:H L=some (.lst xs)):∃f,Vals xs f/\s.heap.IsList L f.toArray:=by
 obtain⟨z,f,n,r,e⟩:=I.hok L _ h;exact⟨f,r,_,e,rfl,n,rfl⟩
def z9a(hh:A.handled=none)(hu:A.units+3<cLine)(few:rows.length<sizeLine):∀(k i)  H   s ,rows.length-i=k->i<=rows.length->Inv X pins σ H s->H L=some (.lst (as.map V.ref))->PRs H as rows ->
  H D=some (.dT ((rows.take i).foldl putR []))->s.heap.IsListIter it L i->FpOk X pins H it->(∀H' S,Inv X pins σ H' S->H' D=some (.dT (rows.foldl putR []))->(∀b,b≠D->H' b=H b)->R (.ok (.ret .none)) S) ->
  Fu (model X.prog X.w) A (.builtin "dict.update.loop" ⟨[.ref D,.ref it,Ee i,.none],[]⟩) R s:=by
 intro k;induction k with
 |zero =>
  intro i H s hk hi I B hp j q f W;have ei:i=rows.length:=by lia
  subst ei;rw[Ba] at j;obtain⟨E,Y,hl⟩:=q5g I B;have G:E.length=rows.length:=by rw[<- Y.length,Aa];exact Eu hp
  refine Dq PySem.Rv.entry_upd ?_;rw[Ct PySem.Rv.plain_upd _];refine Ab (Sb hh q hl (by simp[G]) λh' eb=>?_);exact Ab (Ad (Ad (W H _ (I.turned (t':=s.toks) (λb o C e=>eb b o C e) f.1 f.2.1 f.2.2.2.1 f.2.2.2.2.1 f.2.2.2.2.2) j λ_ _=>rfl)))
 |succ k ih =>
  intro i H s hk hi I B hp j q f W;obtain⟨E,Y,hl⟩:=q5g I B;have v:i<rows.length:=by lia
  obtain⟨a,ha⟩:∃a,as[i]?=some a:=⟨as[i]'(by rw[Eu hp];exact v),by simp[Eu hp,v]⟩
  obtain⟨r,hr,b,Z,a0⟩:=Er.at' hp ha;obtain⟨u,a1,a2⟩:=Y.get (by rw[Am,ha];rfl);cases a2;refine Dq PySem.Rv.entry_upd ?_;rw[Ct PySem.Rv.plain_upd _];refine Ab (Ri q hl (by simpa using a1) λh' M sb=>?_);have I1:Inv X pins σ H { s with heap:=h' }:=I.turned (t':=s.toks) (λb o C e=>(sb.2 b C).trans e) f.1 f.2.1 f.2.2.2.1 f.2.2.2.2.1 f.2.2.2.2.2;obtain⟨z,a6,pr,o,po,pc,pn,pd⟩:=I1.hok a _ Z;obtain⟨u1,u2,a3,r1,r2⟩:=pr.two;subst a3;cases r1;refine Ab (Cq ?_);refine Ab (Ll ?_);refine Ab (Gj ⟨o,po,pc⟩ ?_);refine Ab (Dp po pd (Ad ?_));have O:((rows.take i).foldl putR []).length<sizeLine:=by
   have U:=z5c (rows.take i) [];rw[Bg] at U;have h2:([]:List (List Key×V)).length=0:=rfl;lia
  refine Cq (d_set (by show A.units+1+1<cLine;lia) I1 j (by rw[q1w];exact a0) O r2 λS I' kp=>?_);refine Ad ⟨Ds PySem.Rv.plain_upd _,?_⟩;have a4:L≠D:=λz=>by rw[z,j] at B;cases B
  have h:it≠D:=λz=>by have y:=f.1;rw[z,j] at y;cases y
  have P:∀{T:Addr} {xs:List V},H T=some (.tup xs)->T≠D:=λ{T xs} e z=>by rw[z,j] at e;cases e
  have et:(rows.take (i+1)).foldl putR []=putK ((rows.take i).foldl putR []) (kP r.1) r.2:=by
   rw[Lk,hr];rw[Lx];rfl
  have Q:=M.at λo e=>kp _ _ h e;refine ih (i+1) _ S (by lia) v I' (by rw[q0d a4];exact B) (Er.imp' (λa r ⟨b,U,h2⟩=>⟨b,by rw[q0d (P U)];exact U,by rw[q0d (P h2)];exact h2⟩) hp) (by rw[q0b,et]) Q ⟨by rw[q0d h];exact f.1,f.2⟩ λH' a5 J j1 j2=>?_;exact W H' a5 J j1 λb C=>by rw[j2 b C,q0d C]
end
noncomputable def rDictL:List V->Hp->VK->Prop:=λvs H Q=>∃L as rows,vs=[.ref L]/\H L=some (.lst (as.map V.ref))/\PRs H as rows/\rows.length<1000/\∀D,H D=none->Q (.ref D) (upd H D (.dT (rows.foldl putR [])))
def q9g(R:Room k X.A):CallR X (.type "dict") rDictL:=by
 intro f s S H xs us Q I rv h;obtain⟨L,T,rows,rfl,U,hp,few,q⟩:=h;obtain⟨u,rfl,ru⟩:=rv.one;cases ru;have hu:=R.un;have W:=R.hd;refine callType_codes (Q₁:=λobj j=>obj=.ref s.heap.objs.size/\j={ s with heap:=s.heap.push { cls:=.type "dict",data:=.dict #[] } }) F.kt_called_dict (F.kt_typeCall_dict_1 _) F.entry_dict_init (kt_code_dict_new _ ⟨rfl,rfl⟩) λobj j C=>?_;obtain⟨rfl,rfl⟩:=C;have v:=I.fresh;have Y:Inv X f S (upd H s.heap.objs.size (.dT [])) { s with heap:=s.heap.push { cls:=.type "dict",data:=.dict #[] } }:=I.laid (t':=s.toks) (λ_ _ e=>Ai _ e) (Aq _) (z0d s.heap I.big);have B:(s.heap.push { cls:=.type "dict",data:=.dict #[] }).get? s.heap.objs.size=some { cls:=.type "dict",data:=.dict #[] }:=As _ rfl;have M:=q0j U v;have D:upd H s.heap.objs.size (.dT []) L=some (.lst (T.map V.ref)):=by rw[q0d M];exact U
 have sm:=(Same.refl H).new (o:=.dT []) v;have O:PRs (upd H s.heap.objs.size (.dT [])) T rows:=Er.imp' (λa r ⟨b,h1,h2⟩=>⟨b,sm _ _ h1,sm _ _ h2⟩) hp;obtain⟨z,a0,n,r1,P⟩:=Y.hok L _ D;refine⟨⟨_,B,rfl⟩,F.args_dict_init_2 _ _,?_⟩;refine Ab ?_;unfold Dk.Dict.selfAndRest;refine Ab (Hw ⟨_,B,rfl⟩ ?_);show wpAny _ _ (pure (s.heap.objs.size,[Value.ref L])) _ _ _;refine Ad ?_;refine Ab (Gj ⟨_,P,rfl⟩ ?_);refine Ab (PySem.Rv.no_keys P W λh' tk kp=>?_);have Z:=Y.kept (t':=tk) kp;refine Ab (Gk ?_);have e2:=kp _ _ P;refine Ab (Ls ⟨_,e2,rfl,n,rfl⟩ ?_);have E:=Ax (kp _ _ B);have I3:Inv X f S (upd H s.heap.objs.size (.dT [])) { s with heap:=h'.push { cls:=.type "list_iterator",data:=.fields #[.ref L,.int 0 0] },toks:=tk }:=Z.kept (t':=tk) λ_ _ e=>Ai _ e;refine Ad ⟨Ds PySem.Rv.plain_upd _,?_⟩;refine z9a (A:=X.A.in1) W (by show X.A.units+1+3<cLine;lia) (TX.small' (by lia)) rows.length 0 _ _ (by lia) (Bv _) I3 D O q0b ⟨_,As _ rfl,rfl,rfl⟩ ?_ λH' s' J j1 j2=>?_
 ·exact Z.fpOk (Aq _) (by rw[q0d (Ew E)];exact I.hok.fresh (Hm E))
 ·have eH:H'=upd H s.heap.objs.size (.dT (rows.foldl putR [])):=by
   funext b;by_cases G:b=s.heap.objs.size
   ·rw[G,j1,q0b]
   ·rw[j2 b G,q0d G,q0d G]
  rw[eH] at J;exact⟨rfl,.ref s.heap.objs.size,_,J,rfl,q _ v⟩
structure Mf (K) (C) (m qual) (st) (ps):Prop where
 ex:∃f fd,Fun K m qual st f fd/\Meth K C m f/\Binds K fd ps []
structure MCal (P) (w) (K) (mg) (base) (C) (m) (k) (ps) (sp):Prop where
 ex:∃f fd,FnOk P w K mg base CX0 k f fd ps sp/\Meth K C m f/\Binds K fd ps []
 cl:Cls K C
def Mf.cal{K}{st}(D:Mf K C m qual st ps)(cl:Cls K C)(S:FnScope N ps (defScope st))(len:∀vs H Q E,sp vs H Q E->vs.length=ps.length)(q:∀ f   j   A   outer   s   H   vs   Q   E ,Room k (A.deeper (Ku qual (defScope st) s.heap.objs.size f j))->sp vs H Q E ->
   ∃t,PSs (cxOf CX0 P w K mg base N qual (defScope st) f j A outer s H E).nox (defBody st) t/\t { nx:=λ_ H'=>Q .non H',rt:=Q } (start N vs) H):MCal P w K mg base C m (k+1) ps sp:=by
 obtain⟨f,fd,F,u,v⟩:=D.ex;exact⟨⟨f,fd,F.ok S len λj A outer s H vs Q E B h=>q f j A outer s H vs Q E B h,u,v⟩,cl⟩
def MCal.imp{K}(M:MCal P w K mg base C m k ps sp)(h:∀vs H Q E,sp' vs H Q E->sp vs H Q E):MCal P w K mg base C m k ps sp':=by
 obtain⟨f,fd,F,r⟩:=M.ex;exact⟨⟨f,fd,F.imp h,r⟩,M.cl⟩
section
variable{X:Cx}{C:Addr}{x m:Str}{k j:Nat}{ps:List Str}{sp:Sp}{p pos apos:Pos}{o e:Expr}{es:List Expr}{ta:TE}{t:TA}
def pe_m{pl}(M:MCal X.prog X.w X.K X.mg X.base C m k ps sp)(v:Room j X.A)(B:PE X o ta)(ha:PA X (e::es) t)(hjk:k<=j:=by decide)(h:Bp (e::es) X.env=(false,eval e X.env)::Bp es X.env:=by rfl)(q:(Gi pos (Bp es X.env)).any (·.1)=false:=by rfl)(D:eval (.Call (.Attribute o m apos) (e::es) [] pos) X.env=(do
   let u<-eval o X.env
   Pw apos.atName
   let (f,first)<-Lg [u] (Om u m pl)
   Vo pos f first (Gi pos (Bp (e::es) X.env)) (Mo pos (Jh [] X.env))):=by rfl):PE X (.Call (.Attribute o m apos) (e::es) [] pos) (tMeth C m sp [] E0 ta t):=by
 obtain⟨f,fd,F,E,G⟩:=M.ex;exact x4w B M.cl E F (v.mono hjk) G .nil pass0 ha h q D
def z6m{pl}(M:MCal X.prog X.w X.K X.mg X.base C m k ps sp)(q:Room j X.A)(u:PE X o ta)(hjk:k<=j:=by decide)(v:eval (.Call (.Attribute o m apos) [] [] pos) X.env=(do
   let h<-eval o X.env
   Pw apos.atName
   let (f,first)<-Lg [h] (Om h m pl)
   Vo pos f first (Gi pos (Bp [] X.env)) (Mo pos (Jh [] X.env))):=by rfl):PE X (.Call (.Attribute o m apos) [] [] pos) (tMeth C m sp [] E0 ta tNil):=by
 obtain⟨f,fd,F,B,D⟩:=M.ex;exact x1o u M.cl B F (q.mono hjk) D .nil pass0 v
end
structure Kf (K) (mg:Str->Option Value) (C) (x qual) (st) (ps):Prop where
 ex:∃(f:Addr) (fd:Mn) (oc:Value) (od:Option Addr) (dV kV doc pm:Value) (an:Option Addr) (cdv ct:Value) (osl:Array (Option Value)),fd=Jp "__init__" qual (defArgs st) (defBody st) (defScope st) dV kV doc pm an cdv ct /\
  K.lookup f=some ⟨oc,od,.func fd,osl⟩/\Mp K cdv qual=true/\Mk K C f/\Binds K fd ps []/\Binds K fd ps [.bool false]
 at_:mg x=some (.ref C)
 cl:Cls K C
structure KCal (P) (w) (K) (mg) (base) (C) (x) (k) (ps) (sp):Prop where
 ex:∃f fd,FnOk P w K mg base CX0 k f fd ps sp/\Mk K C f/\Binds K fd ps []/\Binds K fd ps [.bool false]
 at_:mg x=some (.ref C)
 cl:Cls K C
def Kf.cal{K}{st}(D:Kf K mg C x qual st ps)(S:FnScope N ps (defScope st))(len:∀vs H Q E,sp vs H Q E->vs.length=ps.length)(u:∀ f   j   A   outer   s   H   vs   Q   E ,Room k (A.deeper (Ku qual (defScope st) s.heap.objs.size f j))->sp vs H Q E ->
   ∃t,PSs (cxOf CX0 P w K mg base N qual (defScope st) f j A outer s H E).nox (defBody st) t/\t { nx:=λ_ H'=>Q .non H',rt:=Q } (start N vs) H):KCal P w K mg base C x (k+1) ps sp:=by
 obtain⟨f,fd,T,U,W,kV,G,pm,X,j,ct,I,rfl,J,v,M,L,O⟩:=D.ex;refine⟨⟨f,_,fn_of J v S len λA outer s H vs Q E R B=>?_,M,L,O⟩,D.at_,D.cl⟩;obtain⟨t,h,q⟩:=u f j A outer s H vs Q E R B;exact⟨t,h.nox,q⟩
section
variable{X:Cx}{C:Addr}{x:Str}{k j:Nat}{ps:List Str}{sp:Sp}{p pos:Pos}{e:Expr}{es:List Expr}{t:TA}
def pe_k(M:KCal X.prog X.w X.K X.mg X.base C x k ps sp)(u:Room j X.A)(ha:PA X (e::es) t)(hjk:k+1<=j:=by decide)(v:Gl X x:=by rfl)(h:(x==("__debug__" : Str))=false:=by decide)(B:Bp (e::es) X.env=(false,eval e X.env)::Bp es X.env:=by rfl)(q:(Gi pos (Bp es X.env)).any (·.1)=false:=by rfl):PE X (.Call (.Name x p) (e::es) [] pos) (tMake C sp [] E0 t):=by
 obtain⟨f,fd,F,m,D,_⟩:=M.ex;exact x4x m F (u.mono hjk) v M.at_ D .nil pass0 ha h B q
end
def q5t{K}{g:TG}{tb:TS}{D:Ends}(j:Nat->St->Hp->Prop)(h0:j 0 f H)(hl:∀i f H,j i f H->SqL K H a xs)(hs:∀i x T f H,xs[i]?=some x->j i f H->H T=none->g (.ref T) f (upd H T (.tup [.int i,x])) λq B=>tb { D with nx:=j (i+1),ct:=j (i+1),bk:=D.nx } q B)(hd:∀f H,j xs.length f H->D.nx f H):
  ∃W:Nat->Nat->St->Hp->Prop,(∃m,W 0 m f H)/\∀i m f H,W i m f H ->
   ((Ite (Itl K a)).stop i H/\D.nx f H)\/((Ite (Itl K a)).go i H/\∃N,(∀u H',N u H'->∃C,C<m/\W (i+1) C u H')/\∀v H',(Ite (Itl K a)).yld i H v H'->g v f H' λq B=>tb { D with nx:=N,ct:=N,bk:=D.nx } q B):=by
 refine z4t j h0 (λi f H h p=>⟨xs,xs[i],hl i f H p,by simp[h]⟩) (λf H p=>⟨xs,hl _ f H p,Aq _⟩) (λi v f H H' h p E=>?_) hd;obtain⟨T,y,G,⟨_,I⟩,rfl,rfl⟩:=E;exact hs i y T f H (I xs (hl i f H p)) p G
noncomputable def rCatP:R2:=λx y H Q=>∃a b xs ys,x=.ref a/\y=.ref b/\H a=some (.tup xs)/\H b=some (.tup ys)/\xs.length+ys.length<=sizeLine/\∀p H',Same H H'->H' p=some (.tup (xs++ys))->(∀c,c≠p->H' c=H c)->Q (.ref p) H'
def q3h:OpR X (Hd .Add) rCatP:=by
 intro R s σ H x y v u Q I rx ry h;obtain⟨a,b,xs,ys,rfl,rfl,ha,S,T,q⟩:=h;cases rx;cases ry;obtain⟨za,f,C,U⟩:=I.hok a _ ha;obtain⟨zb,j,D,W⟩:=I.hok b _ S;by_cases E:f=[]
 ·have hx':xs=[]:=C.nil_iff.mp E;obtain⟨⟨a0,dd,Y,sl⟩,ho,G,n,hd⟩:=id U;obtain⟨⟨Z,J,L,M⟩,B,O,n2,P⟩:=id W;subst G hd O P;refine Ud ⟨_,ho,rfl⟩ ⟨_,B,rfl⟩ Qd Tj Mb Ln (Kv _ _) (tuple_addW0 a b f.toArray j.toArray n n2 dd J sl M (by simp[E])) ⟨ho,B,?_⟩;exact⟨.ref b,H,I,rfl,q b H (Same.refl H) (by rw[hx',Rf];exact S) λ_ _=>rfl⟩
 ·refine HT.cat_tup U W E (λz=>?_) (λz=>?_) (by rw[<- C.length,<- D.length];exact T)
  ·have hy:ys=[]:=D.nil_iff.mp z;exact⟨.ref a,H,I,rfl,q a H (Same.refl H) (by rw[hy,Cu];exact ha) λ_ _=>rfl⟩
  ·refine⟨.ref s.heap.objs.size,_,I.laid (t':=s.toks) (λb ob q=>Ai _ q) (Aq _) ?_,rfl,q _ _ ((Same.refl H).new I.fresh) q0b λc G=>q0d G⟩;exact⟨by rw[An];exact T,_,C.append D,IsTup.new _ _⟩
def z0h(K)(q:X.K=K)(u:PE X e j)(v:Gw e f X.env (eval e X.env)=eval e X.env:=by rfl):PE X (.Attribute e f h) (tFld K j f):=by subst q;exact pe_fld u v
def z9b(K)(B:X.K=K)(ha:PE X o u)(C:PE X h v)(hs:Kq h (some (.Attribute o f j)) q.line X.env=pure false:=by rfl):PS X (.Assign [.Attribute o f j] h q) (sFld K u v f):=by subst B;exact ps_fld ha C hs
end L2
namespace HM
open PySem PySem.Spec PyProof.Rows L2 TX SB
noncomputable def NSs:Str:=Ar "abcdefghijklmnopqrstuvwxyzABCDEFGHIJKLMNOPQRSTUVWXYZ0123456789-_."
noncomputable abbrev NS:List Nat:=tl NSs
def x3z:∀c∈NS,c<128:=by trivial
structure okN (n:List Nat):Prop where
 one:1<=n.length
 few:n.length<=12
 all:∀c∈n,c∈NS
def okN.low(h:okN n):∀c∈n,c<128:=λc f=>x3z c (h.all c f)
structure okP (p:Pth):Prop where
 ne:p≠[]
 few:p.length<=6
 all:∀n∈p,okN n
def okP.low(h:okP p):Low p:=λn hn=>(h.all n hn).low
noncomputable abbrev Rw:=Pth×Option Int
noncomputable def mV:Option Int->V
 |none=>.non
 |some i=>.int i
noncomputable def rR(r:Rw):HRow:=(r.1,mV r.2)
def mV_inj(h:mV a=mV b):a=b:=by
 cases a with
 |none=>cases b with
  |none=>rfl
  |some j=>cases h
 |some i=>cases b with
  |none=>cases h
  |some j=>cases h;rfl
def mV_none:mV a=.non↔a=none:=⟨λh=>mV_inj (b:=none) h,λh=>by rw[h];rfl⟩
noncomputable def lowN(n:List Nat):List Nat:=n.map lo1
noncomputable def fold(bl:Bool)(p:Pth):Pth:=if bl then p.dropLast++[lowN (p.getLastD [])] else p
def x4a(p):fold false p=p:=rfl
def z2e(p):fold true p=p.dropLast++[lowN (p.getLastD [])]:=rfl
def q3q{p:Pth}(h:p≠[]):p=p.dropLast++[p.getLastD []]:=by
 have e:=Fy h;have f:p.getLastD []=p.getLast h:=by rw[Cv,Be h];rfl
 rw[f];exact e.symm
def q2i{p q:Pth}(hp:p≠[])(f:q≠[]):fold bl p=fold bl q↔p.dropLast=q.dropLast/\(if bl then lowN (p.getLastD [])=lowN (q.getLastD []) else p.getLastD []=q.getLastD []):=by
 cases bl with
 |true =>
  rw[z2e,z2e];constructor
  ·simp_all
  ·simp_all
 |false =>
  rw[x4a,x4a];constructor
  ·grind
  ·rintro⟨h,j⟩;rw[q3q hp,q3q f,h,j]
def q0q{H:Hp}(e:H x=u)(h:H y=v)(n:u≠v:=by nofun):x≠y:=λz=>n (by rw[<- e,z,h])
def refAt{j:Type}{zs:List (Addr×j)}{i:Nat}(f:(zs.map λz=>V.ref z.1)[i]?=some v):∃z,zs[i]?=some z/\v=.ref z.1:=by
 rw[Am] at f;obtain⟨z,h,e⟩:=Dn.mp f;exact⟨z,h,e.symm⟩
def keyAt{j:Type}{zs:List j}{f:j->HRow}{i:Nat}(q:((zs.map f).map λr=>(kP r.1,r.2))[i]?=some (k,v)):∃z,zs[i]?=some z/\k=kP (f z).1/\v=(f z).2:=by
 rw[Am,Am] at q;obtain⟨r,h,e⟩:=Dn.mp q;obtain⟨z,u,rfl⟩:=Dn.mp h;cases e;exact⟨z,u,rfl,rfl⟩
structure Hl (bl) (rows:List Rw):Prop where
 ok:∀r∈rows,okP r.1
 nd:(rows.map λr=>fold bl r.1).Nodup
 dr:∀r∈rows,r.1.dropLast=[]\/(r.1.dropLast,none)∈rows
def Hl.perm(h:Hl bl rows)(p:rows'.Perm rows):Hl bl rows' :=
 ⟨λr f=>h.ok r (p.mem_iff.mp f),(p.map _).nodup_iff.mpr h.nd,λr f=>(h.dr r (p.mem_iff.mp f)).imp id λz=>p.mem_iff.mpr z⟩
def Hl.nil(bl):Hl bl []:=⟨(λ_ h=>nomatch h),.nil,(λ_ h=>nomatch h)⟩
theorem q1n{j q:Type}{f:j->q}:∀{l:List j},(l.map f).Nodup->l.Nodup
 |[],_=>.nil
 |a::l,h=>by
  rw[Ay,Bu] at h;exact Bu.mpr ⟨λz=>h.1 (Ac.mpr ⟨a,z,rfl⟩),q1n h.2⟩
def Hl.paths(h:Hl bl rows):(rows.map (·.1)).Nodup:=by
 have e:rows.map (λr=>fold bl r.1)=(rows.map (·.1)).map (fold bl):=by simp_all
 have:=h.nd;rw[e] at this;exact q1n this
noncomputable abbrev Zr:=Addr×Rw
structure RL (H:Hp) (L) (zs:List Zr):Prop where
 at_:H L=some (.lst (zs.map λz=>V.ref z.1))
 pr:∀z∈zs,PR H z.1 (rR z.2)
def PR.same(h:PR H a r)(k:∀T xs,H T=some (.tup xs)->H' T=some (.tup xs)):PR H' a r:=by obtain⟨b,f,j⟩:=h;exact⟨b,k _ _ f,k _ _ j⟩
def RL.same(h:RL H L zs)(s:Same H H'):RL H' L zs:=⟨s _ _ h.at_,λz f=>PR.same (h.pr z f) λT j e=>s _ _ e⟩
def tupFd(F:FeedAt H a b)(fd:Fd a b H H'):∀T xs,H T=some (.tup xs)->H' T=some (.tup xs):=λT xs e=>fd.at e λz=>by
 subst z;obtain⟨i,j,q⟩:=F.fa;rw[q] at e;cases e
def RL.fd(h:RL H L zs)(F:FeedAt H a b)(fd:Fd a b H H')(f:L≠a):RL H' L zs:=⟨fd.at h.at_ f,λz j=>PR.same (h.pr z j) (tupFd F fd)⟩
def x4b{zs:List Zr}(h:∀z∈zs,PR H z.1 (rR z.2)):PRs H (zs.map (·.1)) (zs.map λz=>rR z.2):=z8z h
theorem zs_of:∀{as} {rs} {rows},PRs H as rs->rs=rows.map rR->∃zs:List Zr,zs.map (·.1)=as/\zs.map (·.2)=rows/\∀z∈zs,PR H z.1 (rR z.2)
 |_,_,[],.nil,_=>⟨[],rfl,rfl,(λ_ h=>nomatch h)⟩
 |_,_,_::_,.nil,e=>by cases e
 |_,_,[],.cons _ _,e=>by cases e
 |a::as,_,r::rows,.cons h t,e=>by
  rw[Ay] at e;injection e with e1 e2;obtain⟨zs,j,q,u⟩:=zs_of t e2;refine⟨(a,r)::zs,by rw[Ay,j],by rw[Ay,q],λz f=>?_⟩;rcases Bb.mp f with rfl|f
  ·rw[<- e1];exact h
  ·exact u z f
theorem q8c:∀{l m:List Pth},l.Perm m->l.Nodup->l.Pairwise (λa b=>pLt b a=false)->m.Pairwise (λa b=>pLt b a=false)->l=m
 |[],m,p,_,_,_=>(List.perm_nil.mp p.symm).symm
 |a::l,[],p,_,_,_=>absurd (p.length_eq) (by simp)
 |a::l,b::m,p,nd,h1,h2=>by
  obtain⟨B,h⟩:=Bu.mp nd;obtain⟨j,q⟩:=Ho.mp h1;obtain⟨u,v⟩:=Ho.mp h2;have e:a=b:=by
   have ha:=p.mem_iff.mp Au;have f:=p.mem_iff.mpr Au;rcases Bb.mp ha with e|ha
   ·exact e
   ·rcases Bb.mp f with e|f
    ·exact e.symm
    ·exact q6c (u a ha) (j b f)
  subst e;rw[q8c ((List.perm_cons a).mp p) h q v]
noncomputable def dMk:Option Int->Cs
 |none=>.none
 |some i=>.int i
noncomputable def dRw(r:Rw):Cs:=.tuple [.tuple (dP r.1),dMk r.2]
def x5p{K}(m):Dt K H (mV m) (dMk m):=by
 cases m with
 |none=>exact .non
 |some i=>exact .int i
theorem z5d{K}:∀p,Dts K H (vP p) (dP p)
 |[]=>.nil
 |n::p=>.cons (.str _) (z5d p)
def q2v{K}(h:H a=some (.tup (vP p))):Dt K H (.ref a) (.tuple (dP p)):=.tup (SqT.of h) (z5d p)
def dt_row{K}(h:PR H a (rR r)):Dt K H (.ref a) (dRw r):=by
 obtain⟨b,f,j⟩:=h;exact .tup (SqT.of f) (.cons (q2v j) (.cons (x5p _) .nil))
theorem z5e{K}:∀{zs:List Zr},(∀z∈zs,PR H z.1 (rR z.2))->Dts K H (zs.map λz=>V.ref z.1) (zs.map λz=>dRw z.2)
 |[],_=>.nil
 |z::zs,h=>.cons (dt_row (h z Au)) (z5e λx f=>h x (Ap _ f))
def RL.dt{K}(h:RL H L zs):Dt K H (.ref L) (.list (zs.map λz=>dRw z.2)):=.lst (SqL.of h.at_) (z5e h.pr)
def x5q(m):(dMk m).canLay0=true:=by cases m<;>simp[dMk,Fz]
def q3r(h:Low p):(Cs.tuple (dP p)).canLay0=true:=by simp only[Ka,q9e h]
def x5r(h:Low r.1):(dRw r).canLay0=true:=by
 have:=q3r h;simp only[dRw,Fz,Cn] at this ⊢;rw[this,x5q];rfl
theorem z5f:∀{rows:List Rw},(∀r∈rows,Low r.1)->Cn (rows.map dRw)=true
 |[],_=>by simp[Cn]
 |r::rows,h=>by
  simp only[Ay,Cn];rw[x5r (h r Au),z5f λx f=>h x (Ap _ f)];rfl
def z9c{rows:List Rw}(h:∀r∈rows,Low r.1):(Cs.list (rows.map dRw)).canLay0=true:=by simp only[Fz];exact z5f h
def z9d(m):(dMk m).depth<=1:=by cases m<;>simp[dMk,Iz]
def q5u(p):(Cs.tuple (dP p)).depth<=2:=by
 have f:(Cs.tuple (dP p)).depth=Gp (dP p)+1:=by simp only[Oq]
 have:=z0f p;lia
def z9e(r):(dRw r).depth<=3:=by
 have f:=q5u r.1;have h:=z9d r.2;have e:(dRw r).depth=max (Cs.tuple (dP r.1)).depth (max (dMk r.2).depth 0)+1:=by simp only[dRw,Iz,Gf]
 lia
theorem q9h:∀rows:List Rw,Gf (rows.map dRw)<=3
 |[]=>by simp[Gf]
 |r::rows=>by
  have f:=z9e r;have h:=q9h rows;simp only[Ay,Gf];lia
def x2j(rows:List Rw):(Cs.list (rows.map dRw)).depth<=100:=by
 have:=q9h rows;simp only[Iz];lia
def q8d(p q):Fw (.tuple (dP p)) (.tuple (dP q))=decide (p=q):=by simp only[Fw,q7z]
def q9i(zs:List Zr):zs.map (λz=>dRw z.2)=(zs.map (·.2)).map dRw:=by rw[Ah];rfl
def q2q{K}(ha:H a=some (.tup (vP p)))(f:H b=some (.tup (vP q)))(h:Low p)(j:Low q)(k:Q (.bl (!decide (p=q))) H):rNeU K (.ref a) (.ref b) H Q:=by
 refine .inr ⟨_,_,q2v ha,q2v f,q3r h,q3r j,by have:=q5u p;lia,?_⟩;rw[q8d];exact k
def x5s{K}(ha:RL H a zs)(f:RL H b zs')(e:zs.map (·.2)=zs'.map (·.2))(l:∀r∈zs.map (·.2),Low r.1)(k:Q (.bl false) H):rNeU K (.ref a) (.ref b) H Q:=by
 refine .inr ⟨_,_,ha.dt,f.dt,?_,?_,?_,?_⟩
 ·rw[q9i];exact z9c l
 ·rw[q9i,<- e];exact z9c l
 ·rw[q9i,q9i];have:=x2j (zs.map (·.2));lia
 ·rw[q9i,q9i,<- e,SeqAt.eqv_refl _ (z9c l)];exact k
end HM
namespace L2
open PySem PySem.Spec PyProof.Rows SB
noncomputable abbrev Zp:=Addr×Pth
noncomputable def Itm(d:Addr)(ob:Obj)(kvs:List (List Key×V)):It :=
 ⟨λi H=>H d=some (.frz ob (.dT kvs))/\i<kvs.length,λi H x H'=>∃k v b T,kvs[i]?=some (k,v)/\H b=some (.tup (k.map kV))/\H T=none/\x=.ref T/\H'=upd H T (.tup [.ref b,v]),λi H=>H d=some (.frz ob (.dT kvs))/\kvs.length<=i⟩
def z9f(ok:HOk P w H h)(j:H d=some (.frz ob (.dT kvs)))(u:ob.data=.dict ens ep):
  h.get? d=some ob/\ens.size=kvs.length/\∀{i:Nat} {k} {v}  hlt ,kvs[i]?=some (k,v)->∃b,ens[i].key=.ref b/\H b=some (.tup (k.map kV))/\RelV v ens[i].val:=by
 obtain⟨f,z,B,E,hp,o,M,G,C,O,D,I,Q⟩:=(show ObjOk P w H h d (.frz ob (.dT kvs)) from ok d _ j)
 rw[f] at C;cases C;rw[u] at D;cases D;have hl:=Eu hp;have R:ens.size=E.length:=by rw[<- Fi,I,Aa]
 refine⟨f,by lia,λ{i k v} hlt hk=>?_⟩;obtain⟨q,S,T,J,L⟩:=Er.at' hp hk;have:ens.toList[i]?=some (Pl (Ij (mixKind P w)) q):=by simp_all
 rw[Ht,Ed hlt] at this;injection this with this;refine⟨q.2.1,?_,J,?_⟩
 ·rw[this];rfl
 ·rw[this];exact L
def q8q:Qg table "dict_itemiterator.__iter__" = some Dk.«dict_keyiterator.__iter__» := entryFor_alias (id' := "dict_keyiterator.__iter__") (by kernel_rfl) rfl (by trivial) (by kernel_rfl)
theorem ers_map{h j:Type}(f:h->j):∀(l:List h)  k ,(l.map f).eraseIdx k=(l.eraseIdx k).map f
 |[],_=>rfl
 |_::_,0=>rfl
 |a::l,k+1=>by show f a::(l.map f).eraseIdx k=f a::(l.eraseIdx k).map f;rw[ers_map f l k]
def q4n(x:PySem.Rv.ItemIt s.heap it d i n ep)(h:Q (.ref it) s):wpAny (model prog w) A (Kb (.ref it)) Q E s:=by
 refine Jn x.typeIs Ob (Bw Ob x.typeIs q8q ?_ (F.args_dict_itemiterator_iter_1 _));exact Ad ⟨_,rfl, "dict_itemiterator",_,x.typeIs,Ef.lookup,h⟩
def z6n{K:Al}(d B:Addr)(ob:Obj)(D:List (List Key×V))(f:Array Mx)(ep:Nat)(u:ob.data=.dict f ep):
  Turn P w K tg (Itm d ob D) [B] B (λi h=>PySem.Rv.ItemIt h B d i f.size ep) where
 mem:=by simp
 obj:=λi h st b J=>by
  have e:b=B:=by grind
  subst e;obtain⟨L,S,ok,ov,e,_⟩:=st;exact⟨_,e,λv z=>by cases z⟩
 keep:=λi h h' st k=>st.keep λo e=>k B (by simp) o e
 item:=by
  intro X hP hw hK hc i j s T H E I U st W;obtain⟨G,hi⟩:=W;obtain⟨q,Y,C⟩:=z9f I.hok G u;obtain⟨L,S,f2,Z,f4,f5⟩:=U B (by simp);obtain⟨⟨k,v⟩,M⟩:∃p,D[i]?=some p:=⟨D[i],by simp[hi]⟩
  have O:i<f.size:=by lia
  obtain⟨b,a0,a1,a2⟩:=C O M;have Q:=st.lt;refine PySem.Rv.items_item st q u O λh' a3 ht hn sb=>?_
  refine⟨_,rfl,PySem.Rv.items_go a3 λh2 a4 R=>?_⟩;have I1:Inv X j T H { s with heap:=h2 }:=I.turned (t':=s.toks) (λb o J e=>(R.2 b J).trans (sb b o J e)) L S Z f4 f5;have FT:=I.fpOk (Aq _) I.fresh;have a5:h2.get? s.heap.objs.size=some { cls:=.type "tuple",data:=.seq #[f[i].key,f[i].val] }:=(R.2 _ (Ew Q)).trans ht;have I2:Inv X j T (upd H s.heap.objs.size (.tup [.ref b,v])) { s with heap:=h2 } :=
   I1.track I.sz FT ⟨by show 2<=sizeLine;decide,[f[i].key,f[i].val],.cons a0 (.cons a2 .nil),⟨_,a5,rfl,_,rfl⟩⟩
  refine⟨.ref s.heap.objs.size,_,I2,rfl,⟨k,v,b,_,M,a1,I.fresh,rfl,rfl⟩,a4,λc a6=>?_⟩;have e:c=B:=by grind
  subst e;rw[q0d (Bm Q)];exact L
 done:=by
  intro X hP hw hK hc i j s T H E I U st W;obtain⟨G,hi⟩:=W;obtain⟨q,Y,C⟩:=z9f I.hok G u;obtain⟨L,S,f2,Z,f4,f5⟩:=U B (by simp);exact PySem.Rv.items_end (I.ok.hd hc) st q u (by lia) λh' eb=>⟨rfl,I.turned (t':=s.toks) (λb o J e=>eb b o J e) L S Z f4 f5⟩
 self:=λ_ _ _ _ _ st h=>q4n st h
section
variable{X:Cx}{tg l:Expr}{tl:TE}
noncomputable def iItemsT(tl:TE):TI:=λσ H R=>tl σ H λx H1=>∃v d kvs,x=.ref v/\H1 v=some (vwO v d)/\H1 d=some (.dT kvs)/\∀ob,R (Itm d ob kvs) (upd H1 d (.frz ob (.dT kvs)))
def z9g(hl:PE X l tl):PI X tg l (iItemsT tl):=by
 intro j s M H R I h;refine thnE (hl j s M H _ I h) λv f x O u P Q=>?_;obtain⟨vw,d,B,e,S,hd,q⟩:=Q;subst e;cases P;obtain⟨z,G,W,hp,J,C,L,ho,T,D,Y,Z⟩:=(show ObjOk X.prog X.w O f.heap d (.dT B) from u.hok d _ hd)
 refine PySem.Rv.items_iter (u.hok vw _ S).1 ho D ?_;have E:=Bm (Ax ho);have U:=(u.freezeK hd ho (.inr ⟨_,rfl⟩)).kept (t':=f.toks) (h':=f.heap.push (PySem.Rv.itemObj d 0 C.size L .none (.bool false) .none .none)) λb o e=>Ai _ e;refine⟨f.heap.objs.size,[f.heap.objs.size],_,_,_,rfl,U,z6n d _ J B C L D,⟨_,_,_,_,As _ rfl,.inl rfl⟩,λb hb=>?_,q J⟩;have e:b=f.heap.objs.size:=by grind
 subst e;exact u.fpOk (Aq _) (by rw[q0d (Ex E)];exact u.hok.fresh (Aq _))
def itm_k(K)(f:X.K=K)(hl:PE X l tl):PI X tg l (iItemsT tl):=z9g hl
end
noncomputable def tThawV(h₀:Hp)(t:TE):TE:=λσ H Q=>∃d,(∀o v,h₀ d≠some (.frz o v))/\t σ H λx H'=>∃ob u,H' d=some (.frz ob u)/\Q x (upd H' d u)
def z3o(f)(B:X.H₀=f)(h:PE X e t):PE X e (tThawV f t):=by
 subst B;intro j s C H Q I q;obtain⟨d,hd,q⟩:=q;exact thnE (h j s C H _ I q) λv L x M D E ⟨O,u,G,J⟩=>⟨x,_,D.thaw G hd,E,J⟩
end L2
namespace HM
open PySem PySem.Spec PyProof.Rows L2 TX SB
noncomputable def carry(p q x:Pth):Pth:=if x.take p.length=p then q++x.drop p.length else x
noncomputable def cR(p q:Pth)(r:Rw):Rw:=(carry p q r.1,r.2)
noncomputable def mvR(p q:Pth)(r:Rw):Rw:=if r.1=p then(q,r.2) else r
theorem Hl.anc(h:Hl bl rows):∀ n   r ,r∈rows->r.1.length<=n->∀k,1<=k->k<r.1.length->(r.1.take k,none)∈rows
 |0,r,_,hl,k,_,hk=>absurd hk (by lia)
 |n+1,r,hr,hl,k,h1,hk=>by
  have hd:r.1.dropLast=r.1.take (r.1.length-1):=Na;have f:r.1.dropLast≠[]:=λz=>by
   have:=congrArg List.length z;simp at this;lia
  have j:=(h.dr r hr).resolve_left f;by_cases e:k=r.1.length-1
  ·grind
  ·have:=h.anc n (r.1.dropLast,none) j (by rw[Bf];lia) k h1 (by rw[Bf];lia);rw[show((r.1.dropLast,(none:Option Int)):Rw).1=r.1.dropLast from rfl,hd,Sj,Rg (by lia)] at this;exact this
def Hl.one(h:Hl bl rows)(f:(p,a)∈rows)(j:(p,b)∈rows):a=b:=by
 have:=q0u h.paths f j rfl;cases this;rfl
def Hl.slip(h:Hl bl rows)(hp:(p,some m)∈rows)(f:r∈rows)(j:r.1.take p.length=p):r.1=p:=by
 by_cases hl:p.length<r.1.length
 ·have q:=Bi.mpr (h.ok _ hp).ne;have:=h.anc _ r f (Aq _) p.length q hl;rw[j] at this;cases h.one hp this
 ·grind
def Hl.carry(h:Hl bl rows)(hp:(p,some m)∈rows):rows.map (cR p q)=rows.map (mvR p q):=by
 refine By λr f=>?_;unfold cR mvR HM.carry;by_cases e:r.1=p
 ·simp_all
 ·rw[if_neg e,if_neg λz=>e (h.slip hp f z)]
structure Free (bl) (rows:List Rw) (p q):Prop where
 ok:okP q
 dr:q.dropLast=[]\/(q.dropLast,none)∈rows
 un:∀r∈rows,fold bl r.1=fold bl q->r.1=p
theorem q4o{q u:Type}{f:q->u}:∀{l:List q},l.Nodup->(∀x∈l,∀y∈l,f x=f y->x=y)->(l.map f).Nodup
 |[],_,_=>.nil
 |a::l,nd,h=>by
  rw[Bu] at nd;rw[Ay,Bu];refine⟨λz=>?_,q4o nd.2 λx v y j=>h x (Ap _ v) y (Ap _ j)⟩;obtain⟨y,j,e⟩:=Ac.mp z;exact nd.1 (by rw[<- h y (Ap _ j) a Au e];exact j)
def Hl.nodup(h:Hl bl rows):rows.Nodup:=q1n h.nd
def Hl.eq(h:Hl bl rows)(j:r∈rows)(hs:s∈rows)(e:fold bl r.1=fold bl s.1):r=s:=q0u (f:=λr:Rw=>fold bl r.1) h.nd j hs e
def Hl.eqP(h:Hl bl rows)(f:r∈rows)(hs:s∈rows)(e:r.1=s.1):r=s:=h.eq f hs (by rw[e])
def x2k(h:r.1=p):mvR p q r=(q,r.2):=if_pos h
def z3p(h:r.1≠p):mvR p q r=r:=if_neg h
def Hl.moved(h:Hl bl rows)(hp:(p,some m)∈rows)(f:Free bl rows p q):Hl bl (rows.map (mvR p q)):=by
 have C:∀x:Pth,(x,(none:Option Int))∈rows->(x,none)∈rows.map (mvR p q):=λx j=>Ac.mpr ⟨_,j,z3p λe=>by
  subst e;cases h.one hp j⟩
 refine⟨λr v=>?_,?_,λr v=>?_⟩
 ·obtain⟨x,j,rfl⟩:=Ac.mp v;by_cases e:x.1=p
  ·rw[x2k e];exact f.ok
  ·rw[z3p e];exact h.ok x j
 ·rw[Ah];refine q4o h.nodup λx j y B e=>?_;replace e:fold bl (mvR p q x).1=fold bl (mvR p q y).1:=e;by_cases ex:x.1=p
  ·by_cases u:y.1=p
   ·exact h.eqP j B (ex.trans u.symm)
   ·rw[x2k ex,z3p u] at e;exact absurd (f.un y B e.symm) u
  ·by_cases u:y.1=p
   ·rw[z3p ex,x2k u] at e;exact absurd (f.un x j e) ex
   ·rw[z3p ex,z3p u] at e;exact h.eq j B e
 ·obtain⟨x,j,rfl⟩:=Ac.mp v;by_cases e:x.1=p
  ·rw[x2k e];exact f.dr.imp id (C _)
  ·rw[z3p e];exact(h.dr x j).imp id (C _)
def ns_lo:∀c∈NS,lo1 c∈NS:=by trivial
theorem z2f{K}:∀{zs:List Zp},(∀z∈zs,H z.1=some (.tup (vP z.2)))->Dts K H (zs.map λz=>V.ref z.1) (zs.map λz=>Cs.tuple (dP z.2))
 |[],_=>.nil
 |z::zs,h=>.cons (q2v (h z Au)) (z2f λx f=>h x (Ap _ f))
theorem z2g:∀{zs:List Zp},(∀z∈zs,Low z.2)->Cn (zs.map λz=>Cs.tuple (dP z.2))=true
 |[],_=>by simp[Cn]
 |z::zs,h=>by
  simp only[Ay,Cn];rw[q3r (h z Au),z2g λx f=>h x (Ap _ f)];rfl
def z5g{K}{zs:List Zp}(ha:H a=some (.lst (zs.map λz=>V.ref z.1)))(f:∀z∈zs,H z.1=some (.tup (vP z.2)))(h:H b=some (.lst []))(l:∀z∈zs,Low z.2)(k:Q (.bl (!decide (zs=[]))) H):rNeU K (.ref a) (.ref b) H Q:=by
 refine .inr ⟨_,_,.lst (SqL.of ha) (z2f f),.lst (SqL.of h) .nil,by simp only[Fz];exact z2g l,by simp[Fz,Cn],?_,?_⟩
 ·have:(Cs.list []).depth<=100:=by simp[Iz,Gf]
  lia
 ·have e:Fw (.list (zs.map λz=>Cs.tuple (dP z.2))) (.list [])=decide (zs=[]):=by cases zs<;>simp[Fw,Ib]
  rw[e];exact k
def q0x{K}(ha:H a=some (.tup (vP p)))(f:H b=some (.tup (vP q)))(h:Low p)(j:Low q)(k:Q (.bl (decide (p=q))) H):rEqU K (.ref a) (.ref b) H Q:=by
 refine .inr ⟨_,_,q2v ha,q2v f,q3r h,q3r j,by have:=q5u p;lia,?_⟩;rw[q8d];exact k
noncomputable def uppN(n:List Nat):List Nat:=n.map up1
def ns_up:∀c∈NS,up1 c∈NS:=by trivial
def x2l(h:∀c∈n,c<128):Wm (mk n)=mk (uppN n):=by
 rw[upper_ascii (by show ∀c∈tl (mk n),c<128;exact h)];apply ext;rw[q3w];rw[Qh];rfl
def q4h(e:H a=some (dR rs))(f:H b=some (.tup (vP p))):DGet H a (.ref b) (valV (rs.map λr=>(kP r.1,r.2)) (kP p)) :=
 .inr ⟨_,kP p,b,.inl e,rfl,by rw[q1w];exact f,rfl⟩
end HM
namespace HT
open PySem PyProof.Rows
section
variable{prog:Aw}{w:World}{A:Around}{E:Value->Ag->Prop}{s:Ag}
def getItem_tuple_whole(f:IsTup s.heap t items)(hs:s.heap.IsSliceOf sl vl vu .none)(pl:Mc vl j)(C:Mc vu hi)(B:sIx items.size 0 j=0/\sIx items.size items.size hi=items.size)(h:Q (.ref t) s):wpAny (model prog w) A (getItem (.ref t) (.ref sl)) Q E s:=by
 obtain⟨os,q,u,D⟩:=id hs;have v:s.TypeIs (.ref sl) "slice" := ⟨os,q,u⟩
 unfold getItem;try with_reducible refine Cq ?_
 refine Ab (Uv f.typeIs (by decide) ?_);refine Ab (Ca f.typeIs Dw
  (Bw Dw f.typeIs entry_tuple_getitem ?_ (Ug _ _)))
 show wpAny _ _ (Kc (.ref t) >>= _) _ _ s;refine Ab (tupleItemsOf_ f ?_);refine Ab (Gj v ?_);refine Ab (q4g hs pl C ?_);show wpAny _ _ (if (((sIx items.size 0 j:Nat):Int)==0&&(1:Int)==1&&(sIx items.size items.size hi-sIx items.size 0 j)==items.size)=true then _ else _) _ _ s;rw[if_pos (by rw[B.1,B.2];simp)];refine Ab (Ab (Gj f.typeIs (Ad ?_)));exact Ab (Gk (Ad ⟨_,rfl,Ad h⟩))
end
end HT
namespace L2
open PySem PySem.Spec PyProof.Rows
noncomputable def rSlP:V->Option Int->Option Int->Hp->VK->Prop:=λx lo hi H Q=>∃a xs,x=.ref a/\H a=some (.tup xs)/\∀c H',Same H H'->H' c=some (.tup (cutV xs lo hi))->Q (.ref c) H'
def sl_P:SlR X rSlP:=by
 intro j s O H x v vl P E G R Q I J hs pl L h;obtain⟨a,f,rfl,C,q⟩:=h;by_cases B:HT.sIx f.length 0 E=0/\HT.sIx f.length f.length G=f.length
 ·cases J;obtain⟨D,r,M,S⟩:=I.tuple (SqT.of C);have u:D.toArray.size=f.length:=by rw[Bj];exact r.length.symm
  refine⟨"tuple",_,Dw.lookup,M.typeIs,?_⟩;refine HT.getItem_tuple_whole M hs pl L (by rw[u];exact B) ⟨.ref a,H,I,rfl,q a H (Same.refl H) ?_⟩;unfold cutV;rw[B.1,B.2,Lm,La,Ba];exact C
 ·exact x3p j s O H _ v vl P E G R Q I J hs pl L ⟨a,f,rfl,SqT.of C,B,λp hp=>q p _ ((Same.refl H).new hp) q0b⟩
end L2
namespace HM
open PySem PySem.Spec PyProof.Rows L2 TX SB
def q2t(p q a):carry p q (p++a)=q++a:=by unfold carry;rw[if_pos (by simp),List.drop_left]
def q2j(h:x.take p.length≠p):carry p q x=x:=if_neg h
def z2h{p:Pth}(h:x.take p.length=p):∃a,x=p++a:=⟨x.drop p.length,by conv=>lhs;rw[<- Sk p.length x,h]⟩
def x5t(p a:Pth):(p++a).take p.length=p:=List.take_left
def q7a{a:Pth}(h:a≠[]):(p++a).dropLast=p++a.dropLast:=List.dropLast_append_of_ne_nil h
def x2m{a:Pth}(h:a≠[]):(p++a).getLastD []=a.getLastD []:=by
 rw[Cv,Cv,Nv,Be h];rfl
def q7b{a:Pth}(h:a≠[]):fold bl (p++a)=p++fold bl a:=by
 cases bl with
 |false=>rfl
 |true=>rw[z2e,z2e,q7a h,x2m h,Fh]
def q7c{p:Pth}(h:p≠[]):(fold bl p).length=p.length:=by
 cases bl with
 |false=>rfl
 |true =>
  have:=Bi.mpr h;rw[z2e,An,Bf];show _+1=_;lia
structure Turn2 (bl) (rows) (p q):Prop where
 hl:Hl bl rows
 pin:(p,none)∈rows
 fr:Free bl rows p q
 ne:q≠p
 par:q.dropLast=p.dropLast
section
variable{bl:Bool}{rows:List Rw}{p q:Pth}
def Turn2.len(t:Turn2 bl rows p q):q.length=p.length:=by
 have f:=congrArg List.length t.par;rw[Bf,Bf] at f;have:=Bi.mpr t.fr.ok.ne;have:=Bi.mpr (t.hl.ok _ t.pin).ne;have e:(p,(none:Option Int)).1.length=p.length:=rfl;lia
def Turn2.okp(t:Turn2 bl rows p q):okP p:=t.hl.ok _ t.pin
def Turn2.noq(t:Turn2 bl rows p q)(h:r∈rows):r.1.take q.length≠q:=λz=>by
 have f:(∃m,(q,m)∈rows)->False:=λ⟨m,j⟩=>t.ne (t.fr.un _ j rfl);by_cases hl:q.length<r.1.length
 ·have:=t.hl.anc _ r h (Aq _) q.length (Bi.mpr t.fr.ok.ne) hl;rw[z] at this;exact f ⟨_,this⟩
 ·grind
def Turn2.inj(t:Turn2 bl rows p q)(u:x∈rows)(f:y∈rows)(e:fold bl (carry p q x.1)=fold bl (carry p q y.1)):x=y:=by
 have one:∀{x y:Rw},x∈rows->y∈rows->∀a,x.1=p++a->y.1.take p.length≠p->fold bl (q++a)=fold bl y.1->False:=by
  intro x y u f a v hn e;by_cases E:a=[]
  ·rw[E,Cu] at e;have:=t.fr.un y f e.symm;exact hn (by rw[this,Ba])
  ·have B:=(t.hl.ok y f).ne;have hd:=((q2i (by simp[E]) B).mp e).1;rw[q7a E] at hd;refine t.noq f ?_;have G:y.1=q++(a.dropLast++[y.1.getLastD []]):=by rw[<- Fh,hd];exact q3q B
   rw[G];exact x5t _ _
 by_cases D:x.1.take p.length=p
 ·obtain⟨a,v⟩:=z2h D;by_cases j:y.1.take p.length=p
  ·obtain⟨b,C⟩:=z2h j;rw[v,C,q2t,q2t] at e;refine t.hl.eq u f ?_;rw[v,C];by_cases ha:a=[]
   ·by_cases h:b=[]
    ·rw[ha,h]
    ·rw[ha,Cu] at e;have:=congrArg List.length e;rw[q7c t.fr.ok.ne,q7c (by simp[h]),An] at this;have:=Bi.mpr h;lia
   ·by_cases h:b=[]
    ·rw[h,Cu] at e;have:=congrArg List.length e;rw[q7c t.fr.ok.ne,q7c (by simp[ha]),An] at this;have:=Bi.mpr ha;lia
    ·rw[q7b ha,q7b h] at e;rw[q7b ha,q7b h,List.append_cancel_left e]
  ·rw[v,q2t,q2j j] at e;exact(one u f a v j e).elim
 ·by_cases j:y.1.take p.length=p
  ·obtain⟨b,C⟩:=z2h j;rw[C,q2t,q2j D] at e;exact(one f u b C D e.symm).elim
  ·rw[q2j D,q2j j] at e;exact t.hl.eq u f e
def Turn2.moved(t:Turn2 bl rows p q):Hl bl (rows.map (cR p q)):=by
 have B:=t.len;have C:=Bi.mpr t.okp.ne;have u:∀{x y:Pth},(x,(none:Option Int))∈rows->carry p q x=y->(y,none)∈rows.map (cR p q):=λ{x y} j e=>Ac.mpr ⟨_,j,by show(carry p q x,none)=_;rw[e]⟩;refine⟨λr v=>?_,?_,λr v=>?_⟩
 ·obtain⟨x,j,rfl⟩:=Ac.mp v;show okP (carry p q x.1);have f:=t.hl.ok x j;by_cases h:x.1.take p.length=p
  ·obtain⟨a,e⟩:=z2h h;rw[e] at f ⊢;rw[q2t];refine⟨by simp[t.fr.ok.ne],?_,λn hn=>?_⟩
   ·have:=f.few;rw[An] at this ⊢;lia
   ·rcases Ao.mp hn with hn|hn
    ·exact t.fr.ok.all n hn
    ·exact f.all n (Bo _ hn)
  ·rw[q2j h];exact f
 ·rw[Ah];exact q4o t.hl.nodup λx j y D e=>t.inj j D e
 ·obtain⟨x,j,rfl⟩:=Ac.mp v;show(carry p q x.1).dropLast=[]\/((carry p q x.1).dropLast,none)∈_;by_cases h:x.1.take p.length=p
  ·obtain⟨a,e⟩:=z2h h;rw[e,q2t];by_cases ha:a=[]
   ·rw[ha,Cu,t.par];refine(t.hl.dr _ t.pin).imp id λy=>u y (q2j λz=>?_);have:=congrArg List.length z;rw[Bg,Bf] at this;lia
   ·rw[q7a ha];have:=(t.hl.dr x j)
    rw[e,q7a ha] at this;exact .inr (u (this.resolve_left (by simp[t.okp.ne])) (q2t _ _ _))
  ·rw[q2j h];refine(t.hl.dr x j).imp id λy=>u y (q2j λz=>h ?_);have:=congrArg List.length z;rw[Bg,Bf] at this;rw[Na,Sj,Rg (by lia)] at z;exact z
end
end HM
namespace L2
open PySem PySem.Spec PyProof.Rows
def z9h(B:X.xe=λ_ _=>False)(C:PSs X h t):PS X (.Try h (h0::hs) [] [] u) t:=by
 intro j s E H D I q;refine wpAny_Try_except (Dl (C j s E H D I q) (λf G z=>?_) λe G z=>by rw[B] at z;exact z.elim);cases f with
 |next=>exact Kk z
 |ret v=>exact z
 |brk=>exact z
 |cont=>exact z
section
variable{X:Cx}{pins:List (Addr×Obj)}{σ:St}{H:Hp}{s:Ag}
noncomputable abbrev Cx.pinned(X:Cx)(pn:List (Addr×Obj)):Cx:={ X with pn:=pn }
end
theorem q9j:∀{cs:List Addr} {us},Vals (cs.map V.ref) us->us=cs.map Value.ref
 |[],_,.nil=>rfl
 |c::cs,_,.cons r t=>by
  have h:_=Value.ref c:=r;rw[h,q9j t,Ay]
section
variable{X:Cx}
def z2i:CallR X (.type "str") (λxs H Q=>∃n:Nat,xs=[.int (n)]/\n<=10^14/\Q (.str (Ar (toString (n:Int)))) H):=by
 intro f s C H xs D Q I r h;obtain⟨n,rfl,v,q⟩:=h;obtain⟨u,rfl,t,rfl⟩:=vals1 r;refine PySem.P.str_of_int ?_ ⟨.str (Ar (toString (n:Int))),H,I.tok _,⟨_,rfl⟩,q⟩;rw[Int.natAbs_natCast];have B:n<2^50:=Kw v (by decide);have:n.log2<50:=by
  by_cases j:n=0
  ·rw[j];decide
  ·exact(Nat.log2_lt j).mpr B
 lia
end
end L2
namespace HM
open PySem PySem.Spec PyProof.Rows L2 TX SB
noncomputable def inP(H:Hp)(q:Pth)(a:Addr):Bool:=match H a with|some (.tup xs)=>decide (xs=vP q)|_=>false
def vP_inj(h:vP p=vP q):p=q:=by
 have e:(vP p).map (λv=>match v with|.str s=>tl s|_=>[])=(vP q).map (λv=>match v with|.str s=>tl s|_=>[]):=by rw[h]
 have f:∀x:Pth,(vP x).map (λv=>match v with|.str s=>tl s|_=>[])=x:=λx=>by
  rw[Ah];refine Eq.trans (By λn _=>q3w n) (Im x)
 rw[f,f] at e;exact e
def z9i(h:H a=some (.tup (vP r))):inP H q a=decide (r=q):=by
 unfold inP;rw[h];exact decide_eq_decide.mpr ⟨vP_inj,λz=>by rw[z]⟩
noncomputable def rInP(neg:Bool):R2:=λx y H Q=>∃(p L:Addr) (bs:List Addr) (q:Pth),x=.ref p/\y=.ref L/\H L=some (.lst (bs.map V.ref))/\H p=some (.tup (vP q))/\Low q/\(∀b∈bs,∃r,H b=some (.tup (vP r))/\Low r)/\Q (.bl (if neg then !bs.any (inP H q) else bs.any (inP H q))) H
section
variable{X:Cx}{k:Nat}
noncomputable def eR(H:Hp)(q:Pth):Value->Bool|.ref a=>inP H q a|_=>false
def any_eR(bs:List Addr):(bs.map Value.ref).toArray.any (eR H q)=bs.any (inP H q):=by
 rw[show(bs.map Value.ref).toArray.any (eR H q)=(bs.map Value.ref).any (eR H q) by simp,List.any_map];rfl
def z9j(j:Room k X.A){u:L2.St}(I:Inv X pins u H s){bs:List Addr}(hp:H p=some (.tup (vP q)))(v:Low q)(B:∀b∈bs,∃r,H b=some (.tup (vP r))/\Low r):
  ∀w∈(bs.map Value.ref).toArray,Ei X.A.in1 s w (.ref p) (eR H q w):=λw M=>by
 obtain⟨b,h,rfl⟩:∃b∈bs,w=.ref b:=by
  have:w∈bs.map Value.ref:=by grind
  obtain⟨b,C,D⟩:=Ac.mp this;exact⟨b,C,D.symm⟩
 obtain⟨r,f,E⟩:=B b h;obtain⟨O,G⟩:=(q2v f).reads I rfl;obtain⟨J,L⟩:=(q2v hp).reads I rfl;have hd:=q5u r;have P:=j.un;have e:=Vx _ _ X.A.in1 s _ _ _ _ G L (q3r E) (q3r v) (by show X.A.units+1+_<_;lia);rw[q8d] at e;show Ei X.A.in1 s (.ref b) (.ref p) (inP H q b);rw[z9i f];exact e
def nin_P(j:Room k X.A):OpR X (Cz .NotIn) (rInP true):=by
 intro f s O H x y v u Q I B C h;obtain⟨p,L,bs,q,rfl,rfl,D,hp,E,G,J⟩:=h;cases B;cases C;obtain⟨M,r,pl,P⟩:=I.list (SqL.of D);obtain rfl:=q9j r;exact SeqAt.notIn_listAt (eR H q) pl.isList (z9j j I hp E G) ⟨.bl _,H,I,rfl,by rw[any_eR];exact J⟩
end
structure Mvd (bl) (rows) (p q:Pth):Prop where
 hl:Hl bl rows
 m:∃mk,(p,mk)∈rows/\(mk=none->q.dropLast=p.dropLast)
 ne:q≠p
 fr:Free bl rows p q
section
variable{bl:Bool}{rows rows':List Rw}{p q:Pth}
def Mvd.perm(h:Mvd bl rows p q)(pm:rows'.Perm rows):Mvd bl rows' p q :=
 ⟨h.hl.perm pm,h.m.imp λmk x=>⟨pm.mem_iff.mpr x.1,x.2⟩,h.ne,⟨h.fr.ok,h.fr.dr.imp id λy=>pm.mem_iff.mpr y,λr f=>h.fr.un r (pm.mem_iff.mp f)⟩⟩
def Mvd.cases(h:Mvd bl rows p q):Turn2 bl rows p q\/∃i,(p,some i)∈rows:=by
 obtain⟨mk,f,j⟩:=h.m;cases mk with
 |none=>exact .inl ⟨h.hl,f,h.fr,h.ne,j rfl⟩
 |some i=>grind
def Mvd.moved(h:Mvd bl rows p q):Hl bl (rows.map (cR p q)):=by
 rcases h.cases with t|⟨i,hp⟩
 ·exact t.moved
 ·rw[h.hl.carry hp];exact h.hl.moved hp h.fr
def Mvd.okp(h:Mvd bl rows p q):okP p:=by obtain⟨_,x,_⟩:=h.m;exact h.hl.ok _ x
end
noncomputable abbrev Mv:=Pth×Pth
noncomputable def wk:List Rw->List Mv->List Rw
 |rows,[]=>rows
 |rows,m::r=>wk (rows.map (cR m.1 m.2)) r
noncomputable def WkOk(bl:Bool):List Rw->List Mv->Prop
 |rows,[]=>Hl bl rows
 |rows,m::r=>Mvd bl rows m.1 m.2/\WkOk bl (rows.map (cR m.1 m.2)) r
section
variable{bl:Bool}
theorem x4c:∀ ms   rows ,(wk rows ms).length=rows.length
 |[],_=>rfl
 |m::r,rows=>(x4c r _).trans (Aa _)
theorem x4d:∀(a b)  rows ,wk rows (a++b)=wk (wk rows a) b
 |[],_,_=>rfl
 |_::a,b,_=>x4d a b _
theorem WkOk.perm:∀{ms} {rows rows'},WkOk bl rows ms->rows'.Perm rows->WkOk bl rows' ms
 |[],_,_,h,p=>Hl.perm h p
 |_::_,_,_,h,p=>⟨h.1.perm p,WkOk.perm h.2 (p.map _)⟩
theorem WkOk.fin:∀{ms} {rows},WkOk bl rows ms->Hl bl (wk rows ms)
 |[],_,h=>h
 |m::r,rows,h=>WkOk.fin (ms:=r) (rows:=rows.map (cR m.1 m.2)) h.2
theorem WkOk.hd:∀{ms} {rows},WkOk bl rows ms->Hl bl rows
 |[],_,h=>h
 |_::_,_,h=>h.1.hl
theorem WkOk.app:∀{a b} {rows},WkOk bl rows (a++b)↔WkOk bl rows a/\WkOk bl (wk rows a) b
 |[],_,_=>⟨λh=>⟨h.hd,h⟩,λh=>h.2⟩
 |m::a,b,rows=>by
  have f:=WkOk.app (a:=a) (b:=b) (rows:=rows.map (cR m.1 m.2));exact⟨λh=>⟨⟨h.1,(f.mp h.2).1⟩,(f.mp h.2).2⟩,λh=>⟨h.1.1,f.mpr ⟨h.1.2,h.2⟩⟩⟩
noncomputable def tb(ms:List Mv):List Mv:=ms.reverse.map λm=>(m.2,m.1)
def WkOk.take(h:WkOk bl rows ms)(n):WkOk bl rows (ms.take n)/\WkOk bl (wk rows (ms.take n)) (ms.drop n):=WkOk.app.mp (by rw[Sk];exact h)
def WkOk.snoc(h:WkOk bl rows ms)(x:Mvd bl (wk rows ms) m.1 m.2):WkOk bl rows (ms++[m]):=WkOk.app.mpr ⟨h,x,x.moved⟩
def z9k(ms)(m)(rows):wk rows (ms++[m])=(wk rows ms).map (cR m.1 m.2):=x4d ms [m] rows
end
noncomputable def MT(H:Hp)(T:Addr)(m:Mv):Prop:=∃A B,H T=some (.tup [.ref A,.ref B])/\H A=some (.tup (vP m.1))/\H B=some (.tup (vP m.2))
noncomputable abbrev Zm:=Addr×Mv
structure ML (H:Hp) (L) (zs:List Zm):Prop where
 at_:H L=some (.lst (zs.map λz=>V.ref z.1))
 pr:∀z∈zs,MT H z.1 z.2
def MT.keep(h:MT H T m)(k:∀T xs,H T=some (.tup xs)->H' T=some (.tup xs)):MT H' T m:=by obtain⟨A,B,f,j,q⟩:=h;exact⟨A,B,k _ _ f,k _ _ j,k _ _ q⟩
def ML.same(h:ML H L zs)(s:Same H H'):ML H' L zs:=⟨s _ _ h.at_,λz f=>(h.pr z f).keep λT j e=>s _ _ e⟩
def ML.fd(h:ML H L zs)(F:FeedAt H a b)(fd:Fd a b H H')(f:L≠a):ML H' L zs:=⟨fd.at h.at_ f,λz j=>(h.pr z j).keep (tupFd F fd)⟩
def ML.cat(h:ML H L zs)(g:ML H M ys)(q:H N=none):ML (upd H N (.lst ((zs.map λz=>V.ref z.1)++(ys.map λz=>V.ref z.1)))) N (zs++ys):=by
 have kp:∀T j,H T=some (.tup j)->upd H N (.lst ((zs.map λz=>V.ref z.1)++(ys.map λz=>V.ref z.1))) T=some (.tup j):=λT j e=>by rw[q0d (q0j e q)];exact e
 refine⟨by rw[q0b,Ae],λz f=>?_⟩;rcases Ao.mp f with f|f
 ·exact(h.pr z f).keep kp
 ·exact(g.pr z f).keep kp
end HM
namespace L2
open PySem PySem.Spec PyProof.Rows
theorem q8e:∀{l m:List Int},l.Perm m->l.Pairwise (· <= ·)->m.Pairwise (· <= ·)->l=m
 |[],m,p,_,_=>(List.perm_nil.mp p.symm).symm
 |a::l,[],p,_,_=>absurd (p.length_eq) (by simp)
 |a::l,b::m,p,h1,h2=>by
  obtain⟨h,j⟩:=Ho.mp h1;obtain⟨q,u⟩:=Ho.mp h2;have e:a=b:=by
   have ha:=p.mem_iff.mp Au;have f:=p.mem_iff.mpr Au;rcases Bb.mp ha with e|ha
   ·exact e
   ·rcases Bb.mp f with e|f
    ·exact e.symm
    ·exact Int.le_antisymm (h b f) (q a ha)
  subst e;rw[q8e ((List.perm_cons a).mp p) j u]
noncomputable def rSortI:List V->Hp->VK->Prop:=λvs H Q=>∃l,∃ss,vs=[.ref l]/\H l=some (.lst (ss.map V.int))/\ss.length<64 /\
 ∀ L  (ss':List Int),H L=none->ss'.Perm ss->ss'.Pairwise (· <= ·)->Q (.ref L) (upd H L (.lst (ss'.map V.int)))
theorem z9l:∀{ss} {us},Vals (ss.map V.int) us->Px us ss
 |[],_,.nil=>.nil
 |s::ss,_,.cons r t=>by obtain⟨k,rfl⟩:=r;exact .cons s k (z9l t)
theorem z9m:∀{ss} {us},Px us ss->Vals (ss.map V.int) us
 |_,_,.nil=>.nil
 |_,_,.cons _ _ t=>.cons ⟨_,rfl⟩ (z9m t)
def q4y(S:Room k X.A):CallR X (.builtin "sorted") rSortI:=by
 intro D s T H U W Q I J h;obtain⟨l,L,rfl,hl,few,q⟩:=h;obtain⟨u,rfl,M⟩:=J.one;cases M;obtain⟨f,j,B⟩:=q5g I hl;have E:f.length=L.length:=by have:=j.length;rw[Aa] at this;exact this.symm
 refine PyProof.Rows.sorted_ints B (z9l j) (by lia) λout v O G P=>?_;obtain⟨e,R⟩:=sortedAll_at s.heap f out;have keep:∀b o,s.heap.get? b=some o->(sortedAll s.heap f out).get? b=some o:=λb o=>sortedAll_old;have C:=I.hok.fresh (Hh _);exact⟨.ref (s.heap.objs.size+1),_,I.laid (t':=s.toks) (o:=.lst (v.map V.int)) keep (Hh _) ⟨by rw[Aa,G.length_eq,Ey];lia,_,e,z9m O,R⟩,rfl,q _ v C G P⟩
def z0i(ho:s.heap.get? a=some o)(u:o.ExactDict)(hd:o.data=.dict es ep)(hs:(a==Eh)=false)(v:es.size<=sizeLine)(h:∀t t',Q (.int es.size t) { s with toks:=t' }):wpAny (model prog w) A (call (.builtin "len") [.ref a]) Q E s:=by
  have j:s.TypeIs (.ref a) "dict" := ⟨o,ho,u.1⟩
  have f:¬((es.size:Nat):Int)>=2^63:=by rw[Ey] at v;lia
  refine Sy (Nn (by trivial) entry_len ?_);have q:Ms "len" ⟨[.ref a],[]⟩=pure ():=by
    first
      |exact checkBuiltinCall_of_none (by trivial) (by trivial) _
      |rfl
      |(unfold Ms;rfl)
  refine Hi q ?_;refine Ab ?_;refine Ad (Ab (Ca j Sl (Bw Sl j PySem.F.entry_dict_len ?_ (PySem.F.args_dict_len_1 _))));refine Ab (Ab (Hw j ?_));refine Ad ?_;show wpAny _ _ (do
      let __do_lift<-dictSize a;let __do_lift_1<-Pq a
      retInt (↑__do_lift + ↑__do_lift_1)) _ _ _
  unfold dictSize Pq;rw[hs];refine Ab (Ab (Ej ho hd (Ad ?_)));refine Ab (Ad ?_);have B:((es.size:Nat):Int)+((0:Nat):Int)=es.size:=by lia
  rw[B]
  wp_walk
  refine⟨_,rfl,?_⟩;have hn:¬((es.size:Nat):Int)<0:=by lia
  refine Ab (Cq ?_);refine Ad (Ab (Gq ?_));rw[if_neg hn,if_neg f]
  wp_walk
  exact h _ _
def z9n:CallR X (.builtin "len") (λxs H Q=>∃d f,xs=[V.ref d]/\H d=some (.dT f)/\Q (.int f.length) H):=by
 intro D s P H xs R Q I r h;obtain⟨d,f,rfl,e,q⟩:=h;obtain⟨u,rfl,E⟩:=vals1 r;cases E;obtain⟨z,hd,xs,v,G⟩:=x5g I.hok e;obtain⟨S,J,T,B,L,C,M,O,hn⟩:=G;have j:J.size=f.length:=by
  have:=congrArg List.length M;rw[Aa,Fi] at this;rw[this,Eu v]
 refine z0i B L C hd (by rw[j];exact z) λt U=>⟨.int f.length,H,I.tok _,⟨t,by rw[j]⟩,q⟩
section
variable{P:Aw}{w:World}
noncomputable def IsPairKey(P:Aw)(w:World)(h:Heap)(k:List Key×Key)(a:Addr):Prop:=∃o n b v,h.get? a=some o/\o.cls=.type "tuple" /\ o.data=.seq #[.ref b,v] n/\IsTupleKey (mixKind P w) h k.1 b/\(mixKind P w).is k.2 v=true
def IsPairKey.typeIs{s:Ag}(x:IsPairKey P w s.heap k a):s.TypeIs (.ref a) "tuple" := by obtain⟨o,_,_,_,ho,f,_⟩:=x;exact⟨o,ho,f⟩
def IsPairKey.inj(B:IsPairKey P w h x a)(C:IsPairKey P w h y a):x=y:=by
 obtain⟨o,n,b,v,ho,_,hd,D,E⟩:=B;obtain⟨G,I,J,L,j,_,f,q,u⟩:=C;obtain rfl:o=G:=Bx (ho.symm.trans j);rw[hd] at f;injection f with e1 _;have H:=congrArg Array.toList e1;injection H with e3 e4;injection e3 with e3;injection e4 with e4 _;subst e3 e4;exact Vm (D.inj q) ((mixKind P w).inj _ _ _ E u)
def IsPairKey.keeps{es ep}(x:IsPairKey P w h k a)(ho:h.get? d=some o)(hd:o.data=.dict es ep)(hs:Fm d h h'):IsPairKey P w h' k a:=by
 obtain⟨u,n,b,v,j,B,f,C,D⟩:=x;have q:a≠d:=by
  rintro rfl;obtain rfl:u=o:=Bx (j.symm.trans ho);rw[hd] at f;exact nomatch f
 exact⟨u,n,b,v,(hs.2 a q).trans j,B,f,C.keeps ho hd hs,D⟩
noncomputable def pairHash(P:Aw)(w:World)(k:List Key×Key):Int:=reduceHash (Ih [Ja (mixKind P w) k.1,(mixKind P w).hash k.2])
variable{A:Around}{E:Value->Ag->Prop}{s:Ag}
def z9o(j:A.units+1<cLine)(hk:IsPairKey P w s.heap k a)(h:Q (pairHash P w k) { s with toks:=s.toks+(k.1.length+3) }):
  wpAny (model P w) A (pyHash (.ref a)) Q E s:=by
 have f:=hk.typeIs;obtain⟨o,n,b,v,ho,_,hd,u,B⟩:=hk;unfold pyHash;first|unfold pyHashByItsType|skip
 first|refine Ab (wpAny_cRoomFor_or (.inr (by lia)) ?_)|skip
 refine Ab (Kn f Ly.lookup ?_);show wpAny _ _ (if (some (Value.builtin "tuple.__hash__")==some Value.none)=true then _ else _) Q E s;rw[if_neg (by rw[beq_builtin_none];exact Bq)];refine Ab (Kn f Ly.lookup ?_);show wpAny _ _ (callSpecialIfBoundUnlessNone? (.ref a) "__hash__" _ >>= _) Q E s;refine Ab (wpAny_callSpecialIfBoundUnlessNone?_slot f Ly (Bw Ly f F.entry_tuple_hash ?_ (F.args_tuple_hash_1 _)));show wpAny _ _ (Kc (.ref a) >>= _) _ _ s;refine Ab (Ou ho hd ?_);refine Ab ?_;rw[<- Ov];refine Iv _
  (λrest (c:Array Int) s'=>(rest=[.ref b,v]/\c.toList=[]/\s'=s)\/(rest=[v]/\c.toList=[Ja (mixKind P w) k.1]/\s'={ s with toks:=s.toks+(k.1.length+1) }) \/
   (rest=[]/\c.toList=[Ja (mixKind P w) k.1,(mixKind P w).hash k.2]/\s'={ s with toks:=s.toks+(k.1.length+2) }))
  _ ?_ ?_ _ _ (.inl ⟨rfl,rfl,rfl⟩)
 ·rintro x rest c s' (⟨e,hc,rfl⟩|⟨e,hc,rfl⟩|⟨e,_⟩)
  ·cases e;refine Ab (wpAny_pyHash_tuple (Fp (knd:=mixKind P w) j) u ?_);have q:∀{x:Array Int},x=c.push (Ja (mixKind P w) k.1)->x.toList=[Ja (mixKind P w) k.1]:=λe=>by rw[e];simp[hc]
   first
    |exact Ad (.inr (.inl ⟨rfl,q rfl,rfl⟩))
    |exact Ab (Ad (Ad (.inr (.inl ⟨rfl,q rfl,rfl⟩))))
  ·cases e;refine Ab ((mixKind P w).pyHash B ?_);have q:∀{x:Array Int},x=c.push ((mixKind P w).hash k.2)->x.toList=[Ja (mixKind P w) k.1,(mixKind P w).hash k.2]:=λe=>by rw[e];simp[hc]
   first
    |exact Ad (.inr (.inr ⟨rfl,q rfl,rfl⟩))
    |exact Ab (Ad (Ad (.inr (.inr ⟨rfl,q rfl,rfl⟩))))
  ·cases e
 ·rintro c s' (⟨e,_⟩|⟨e,_⟩|⟨_,hc,rfl⟩)
  ·cases e
  ·cases e
  show wpAny _ _ (retInt (Ih c.toList)) _ _ _;rw[hc];refine wpAny_ret_mkInt ?_;show wpAny _ _ (if (decide (-(2:Int)^63<=Ih [Ja (mixKind P w) k.1,(mixKind P w).hash k.2])&&decide (Ih [Ja (mixKind P w) k.1,(mixKind P w).hash k.2]<2^63))=true then _ else _) Q E _;unfold pairHash reduceHash at h;split
  ·rename_i hr;rw[if_pos hr] at h;exact Ad h
  ·rename_i hr;rw[if_neg hr] at h;exact Ab (Gk (Ad h))
def z2j(S:A.units<cLine)(T:IsPairKey P w s.heap x a)(M:IsPairKey P w s.heap y b)(h:R (.done (.ret (.bool (decide (x=y))))) s):
  wpAny (model P w) A (Dk.«tuple.__eq__» ⟨[.ref a,.ref b],[]⟩) R E s:=by
 have f:=M.typeIs;obtain⟨X,na,U,O,j,_,q,B,C⟩:=T;obtain⟨Y,nb,W,Q,D,_,G,H,I⟩:=M;show wpAny _ _ (isInstance (.ref b) (.type "tuple") >>= _) _ _ s;refine Ab (Fn f Nb ?_);simp only[Ft,Bh,if_false];refine Ab (Ou j q ?_);refine Ab (Ou D G ?_);refine Ab ?_;refine Iv _
  (λrest r J=>r.1=none/\J=s/\((rest=[(.ref U,.ref W),(O,Q)])\/(rest=[(O,Q)]/\x.1=y.1)\/(rest=[]/\x=y)))
  _ ?_ ?_ _ _ ⟨rfl,rfl,.inl rfl⟩
 ·rintro⟨u,v⟩ rest r J ⟨hr,rfl,e|⟨e,e1⟩|⟨e,_⟩⟩
  ·cases e;refine Ab (wpAny_eqBool_tuple S B H ?_);by_cases hk:x.1=y.1
   ·rw[decide_eq_true hk];simp only[Ft,Bh,if_false];exact Ad ⟨rfl,rfl,.inr (.inl ⟨by trivial,hk⟩)⟩
   ·rw[decide_eq_false hk];simp only[Oj,if_true];have L:decide (x=y)=false:=decide_eq_false λz=>hk (by rw[z]);rw[L] at h;exact Ab (Ad (Ad (Ad h)))
  ·cases e;refine Ab ((mixKind P w).eqBool (a:=x.2) (b:=y.2) C I ?_);by_cases hk:x.2=y.2
   ·rw[decide_eq_true hk];simp only[Ft,Bh,if_false];exact Ad ⟨rfl,rfl,.inr (.inr ⟨by trivial,Vm e1 hk⟩)⟩
   ·rw[decide_eq_false hk];simp only[Oj,if_true];have L:decide (x=y)=false:=decide_eq_false λz=>hk (by rw[z]);rw[L] at h;exact Ab (Ad (Ad (Ad h)))
  ·cases e
 ·rintro⟨r1,r2⟩ J ⟨hr,rfl,e|⟨e,_⟩|⟨_,e⟩⟩
  ·cases e
  ·cases e
  simp only at hr;subst hr;refine Ad ?_;rw[decide_eq_true e] at h;exact h
def x5u(u:A.units+1<cLine)(j:IsPairKey P w s.heap x a)(q:IsPairKey P w s.heap y b)(h:Q (decide (x=y)) s):
  wpAny (model P w) A (eqBool (.ref a) (.ref b)) Q E s:=by
 unfold eqBool;try with_reducible refine Cq ?_
 show wpAny _ _ (if (Value.ref a==Value.ref b)=true then _ else _) Q E s;by_cases f:(Value.ref a==Value.ref b)=true
 ·rw[if_pos f];have e:a=b:=by have:=eq_of_beq f;injection this
  subst e;obtain rfl:=j.inj q;exact Ab (Gk (Ad (by simpa using h)))
 ·rw[if_neg f];exact Ab (wpAny_richCompare_same_room (op:=.Eq) j.typeIs q.typeIs Nw
   (Bw Nw j.typeIs F.entry_tuple_eq (z2j (Fp (knd:=mixKind P w) u) j q ⟨_,rfl,(λe=>nomatch e),Cy h⟩) (F.args_tuple_eq_2 _ _)) (by lia))
def z3q(hk:IsTupleKey (mixKind P w) s.heap ks a)(h:Q true s):wpAny (model P w) A (Ul (n+1) (.ref a)) Q E s:=by
 have D:=hk.typeIs;obtain⟨o,j,m,ho,_,hd,G⟩:=hk;unfold Ul;refine Ab (Kn D Nw.lookup ?_);show wpAny _ _ (isInstance (.ref a) (.type "tuple") >>= _) _ _ s;refine Ab (Fn D Nb ?_);simp only[Ft,Bh,if_false];refine Ab (Dp ho hd ?_);refine Ab ?_;show wpAny _ _ (forIn j _ _) _ _ s;rw[<- Ov];refine Iv _ (λrest r q=>r.1=none/\q=s/\∀v∈rest,carriedByValue v=true) _ ?_ ?_ _ _ ⟨rfl,rfl,G.byValue⟩
 ·rintro v rest r q ⟨B,rfl,f⟩;rw[Vd _ (f v Au)];refine Ab (Ad ?_);simp only[Ft,Bh,if_false];exact Ad ⟨rfl,rfl,λu C=>f u (Ap _ C)⟩
 ·rintro⟨H,I⟩ q ⟨B,rfl,_⟩;simp only at B;subst B;exact Ad h
def z6o(hk:IsPairKey P w s.heap k a)(h:Q true s):wpAny (model P w) A (Ul 8 (.ref a)) Q E s:=by
 have q:=hk.typeIs;obtain⟨o,m,b,v,ho,_,hd,B,C⟩:=hk;unfold Ul;refine Ab (Kn q Nw.lookup ?_);show wpAny _ _ (isInstance (.ref a) (.type "tuple") >>= _) _ _ s;refine Ab (Fn q Nb ?_);simp only[Ft,Bh,if_false];refine Ab (Dp ho hd ?_);refine Ab ?_;show wpAny _ _ (forIn #[Value.ref b,v] _ _) _ _ s;rw[<- Ov];refine Iv _ (λrest r f=>r.1=none/\f=s/\(rest=[.ref b,v]\/rest=[v]\/rest=[])) _ ?_ ?_ _ _ ⟨rfl,rfl,.inl rfl⟩
 ·rintro u rest r f ⟨j,rfl,e|e|e⟩
  ·cases e;refine Ab (z3q B ?_);simp only[Ft,Bh,if_false];exact Ad ⟨rfl,rfl,.inr (.inl (by trivial))⟩
  ·cases e;rw[Vd _ ((mixKind P w).byValue _ _ C)];refine Ab (Ad ?_);simp only[Ft,Bh,if_false];exact Ad ⟨rfl,rfl,.inr (.inr (by trivial))⟩
  ·cases e
 ·rintro⟨D,G⟩ f ⟨j,rfl,_⟩;simp only at j;subst j;exact Ad h
noncomputable def pairKind(P)(w):HeapKind P w (List Key×Key) where
 is:=IsPairKey P w
 hash:=pairHash P w
 draws:=λk=>k.1.length+3
 room:=λA=>A.units+1<cLine
 inj:=λhx hy=>hx.inj hy
 keeps:=λx ho hd hs=>x.keeps ho hd hs
 pyHash:=λhu hk h=>z9o hu hk h
 eqBool:=λhu hx hy h=>x5u hu hx hy h
 quiet:=λhk h=>z6o hk h
end
noncomputable abbrev PKey:=List Key×Key
noncomputable def hasP(ks:List (PKey×Addr))(k:PKey):Bool:=ks.any λx=>decide (x.1=k)
noncomputable def entP(ks:List (PKey×Addr)):List (PKey×Addr×Value):=ks.map λx=>(x.1,x.2,.bool true)
noncomputable def PdO(P:Aw)(w:World)(d:Addr)(ks:List (PKey×Addr)):HO:=.ext λh=>∃o es ep,h.get? d=some o/\o.ExactDict/\o.data=.dict es ep/\es.toList=(entP ks).map (Pl (pairKind P w))/\((entP ks).map (·.1)).Nodup
noncomputable def PrK(H:Hp)(k:PKey)(a:Addr):Prop:=∃c,H a=some (.tup [.ref c,kV k.2])/\H c=some (.tup (k.1.map kV))
structure DPr (P) (w) (H:Hp) (d) (ks):Prop where
 at_:H d=some (PdO P w d ks)
 sys:(d==Eh)=false
 len:ks.length<=sizeLine
 pk:∀x∈ks,PrK H x.1 x.2
section
variable{P:Aw}{w:World}{H:Hp}{h:Heap}{d a:Addr}{ks:List (PKey×Addr)}{k:PKey}
def PrK.of(ok:HOk P w H h)(e:PrK H k a):(pairKind P w).is h k a:=by
 obtain⟨c,f,j⟩:=e;obtain⟨_,q,r,o,u,v,n,B⟩:=(show ObjOk P w H h a (.tup [.ref c,kV k.2]) from ok a _ f)
 cases r with
 |cons r1 r =>
 cases r with
 |cons r2 r =>
 cases r;cases(show _=Value.ref c from r1);exact⟨o,n,c,_,u,v,B,q5p ok j,z1s r2⟩
def DPr.of(x:DPr P w H d ks)(ok:HOk P w H h):h.DictOfH (pairKind P w) d (entP ks):=by
 obtain⟨⟨o,f,j,q,u,v,B,C⟩,_⟩:=(show ObjOk P w H h d (PdO P w d ks) from ok d _ x.at_)
 refine⟨o,f,j,q,u,v,B,λy D=>?_,C⟩;obtain⟨z,E,rfl⟩:=Ac.mp D;exact(x.pk z E).of ok
def q9k:(atKey (entP ks) k).isSome=hasP ks k:=by
 unfold atKey entP hasP;rw[Lu];induction ks with
 |nil=>rfl
 |cons x xs ih =>
  rw[Ay,Hu,Pa];cases e:decide (x.1=k)
  ·rw[<- ih];simp[e]
  ·simp[e]
end
def PrK.same(h:PrK H k a)(s:Same H H'):PrK H' k a:=let ⟨c,f,j⟩:=h;⟨c,s _ _ f,s _ _ j⟩
def DPr.same(x:DPr P w H d ks)(s:Same H H'):DPr P w H' d ks:=⟨s _ _ x.at_,x.sys,x.len,λy f=>(x.pk y f).same s⟩
def DPr.put(x:DPr P w H d ks)(e:PrK H k b)(l:ks.length<sizeLine):DPr P w (upd H d (PdO P w d (ks++[(k,b)]))) d (ks++[(k,b)]):=by
 have h:∀{c:Addr} {ys:List V},H c=some (.tup ys)->upd H d (PdO P w d (ks++[(k,b)])) c=some (.tup ys):=λ{c ys} e=>by
  rw[q0d (λz=>by rw[z,x.at_] at e;cases e)];exact e
 have pk:∀{k':PKey} {a:Addr},PrK H k' a->PrK (upd H d (PdO P w d (ks++[(k,b)]))) k' a:=λ⟨c,j,q⟩=>⟨c,h j,h q⟩
 refine⟨q0b,x.sys,by rw[An];exact l,λy f=>?_⟩;rcases Ao.mp f with f|f
 ·exact pk (x.pk y f)
 ·rw[Ak.mp f];exact pk e
section
variable{X:Cx}
noncomputable def tDNewP(P:Aw)(w:World):TE:=λ_ H Q=>∀p,H p=none->(p==Eh)=false->Q (.ref p) (upd H p (PdO P w p []))
def z5h(P)(w)(u:X.prog=P)(v:X.w=w):PE X (.Dict [] [] f) (tDNewP P w):=λj s G H Q I h=>by
 subst u v;have B:=I.big;have hs:(s.heap.objs.size==Eh)=false:=by rw[beq_eq_false_iff_ne];exact Ew B
 refine wpAny_Dict_empty ⟨.ref s.heap.objs.size,_,I.laid (o:=PdO X.prog X.w s.heap.objs.size []) (t':=s.toks) (λ_ _ q=>Ai _ q) (Aq _) ⟨⟨_,#[],0,As _ rfl,⟨rfl,rfl,rfl⟩,rfl,rfl,List.nodup_nil⟩,⟨_,As _ rfl⟩,λJ L ⟨o,C,D,E,q⟩ k=>⟨o,C,D,k _ E,q⟩⟩,rfl,h _ (I.hok.fresh (Aq _)) hs⟩
noncomputable def tPNotIn(P:Aw)(w:World)(ty td:TE):TE:=λσ H Q=>ty σ H λy H1=>td σ H1 λx H2=>∃d ks b k,x=.ref d/\y=.ref b/\DPr P w H2 d ks/\PrK H2 k b/\Q (.bl (!hasP ks k)) H2
def z2k(P)(w)(C:X.prog=P)(D:X.w=w)(E:X.A.units+2<cLine)(G:PE X i q)(ho:PE X o v):PC X .NotIn i o (tPNotIn P w q v):=by
 subst C D;intro f s B H Q I h;refine thnE (G f s B H _ I h) λJ L y M O R S=>thnE (ho f L B M _ O S) λu s2 x T j U W=>?_;obtain⟨d,Y,b,k,ex,Z,dp,pk,q2⟩:=W;subst ex Z;obtain rfl:u=Value.ref d:=U;obtain rfl:J=Value.ref b:=R;refine wpAny_notIn_heap (knd:=pairKind X.prog X.w) E (pk.of j.hok) dp.sys (dp.of j.hok) ?_;rw[q9k];exact⟨.bl (!hasP Y k),T,j.tok _,rfl,q2⟩
noncomputable def sPPut(P:Aw)(w:World)(td ty tv:TE):TS:=λD σ H=>tv σ H λv H1=>td σ H1 λx H2=>ty σ H2 λy H3=>∃d ks b k,x=.ref d/\y=.ref b/\v=.bl true/\DPr P w H3 d ks/\PrK H3 k b/\hasP ks k=false/\ks.length<sizeLine/\D.nx σ (upd H3 d (PdO P w d (ks++[(k,b)])))
def z3r(P)(w)(W:X.prog=P)(Y:X.w=w)(Z:X.A.units+2<cLine)(ho:PE X o S)(hi:PE X i T)(hv:PE X f U)(hs:Kq f (some (.Subscript o i B)) E.line X.env=pure false):
  PS X (.Assign [.Subscript o i B] f E) (sPPut P w S T U):=by
 subst W Y;intro j s G H D I h;refine Rn (thnE (hv j s G H _ I h) λr s1 v H1 I1 rv J=>thnE (ho j s1 G H1 _ I1 J) λu s2 x H2 I2 rx q2=>thnE (hi j s2 G H2 _ I2 q2) λiv s3 y H3 L ry qz=>?_) hs;obtain⟨d,C,b,k,ex,ey,ev,dp,pk,nk,lk,q3⟩:=qz;subst ex ey ev;obtain rfl:u=Value.ref d:=rx;obtain rfl:iv=Value.ref b:=ry;obtain rfl:r=Value.bool true:=rv;refine Uh (knd:=pairKind X.prog X.w) Z (pk.of L.hok) (dp.of L.hok) (λh' M hs=>?_) (by unfold entP;rw[Aa];exact Hm lk);have hn:atKey (entP C) k=none:=by
  have:=q9k (ks:=C) (k:=k);rw[nk] at this;cases e:atKey (entP C) k with
  |none=>rfl
  |some _=>rw[e] at this;cases this
 rw[storedH_new hn] at M;have ee:entP C++[(k,b,Value.bool true)]=entP (C++[(k,b)]):=by unfold entP;rw[Ae];rfl
 rw[ee] at M;obtain⟨o,O,Q,R,e2,e3,e4,_,e5⟩:=M;refine⟨G,_,L.write (x:=d) (e:=d) (o:=PdO X.prog X.w d (C++[(k,b)])) (by rw[dp.at_];exact True.intro) (.inl rfl) (λc q hc z=>(hs.2 c hc).trans z) ⟨o,R⟩ ⟨⟨o,O,Q,R,e2,e3,e4,e5⟩,⟨o,R⟩,λh1 h2 ⟨o,O,Q,J,q⟩ k=>⟨o,O,Q,k _ J,q⟩⟩,q3⟩
end
def z2l(f:Room k A):A.units+2<cLine:=Kw (Tr (by decide:2<=64) _) f.units
open PySem PySem.Spec PyProof.Rows SB
noncomputable abbrev Zq:=Addr×HRow
noncomputable def rSortR:List V->Hp->VK->Prop:=λvs H Q=>∃l,∃zs,vs=[.ref l]/\H l=some (.lst (zs.map λz=>V.ref z.1))/\zs.length<64/\(∀z∈zs,PR H z.1 z.2/\Low z.2.1)/\(zs.map (·.2.1)).Nodup /\
 ∀ L  (zs':List Zq),H L=none->zs'.Perm zs->(zs'.map (·.2.1)).Pairwise (λa b=>pLt b a=false)->Q (.ref L) (upd H L (.lst (zs'.map λz=>V.ref z.1)))
theorem z9p:∀{zs:List Zq} {us},Vals (zs.map λz=>V.ref z.1) us->us=zs.map λz=>Value.ref z.1
 |[],_,.nil=>rfl
 |z::zs,_,.cons r t=>by cases r;rw[z9p t];rfl
theorem q9l:∀(zs:List Zq),Vals (zs.map λz=>V.ref z.1) (zs.map λz=>Value.ref z.1)
 |[]=>.nil
 |z::zs=>.cons rfl (q9l zs)
def q6d(hr:Room k X.A):CallR X (.builtin "sorted") rSortR:=by
 intro a3 s σ H xs us Q I rv h;obtain⟨l,C,rfl,hl,few,hz,nd,q⟩:=h;obtain⟨u,rfl,ru⟩:=rv.one;cases ru;obtain⟨O,P,R⟩:=q5g I hl;have e1:=z9p P;subst e1;refine SB.sorted_ok λ{Q'} kk=>?_;refine Pr R ?_;have M:∀b o,s.heap.get? b=some o->((s.heap.push (Iw "list" #[] 0)).update s.heap.objs.size (Dm (· ++ (C.map λz=>Value.ref z.1).toArray))).get? b=some o:=λb o e=>by
  rw[(Eg ..).2 b (Bm (Ax e))];exact Ai _ e
 have E:s.heap.objs.size<=((s.heap.push (Iw "list" #[] 0)).update s.heap.objs.size (Dm (· ++ (C.map λz=>Value.ref z.1).toArray))).objs.size:=by simp_all
 generalize (s.heap.push (Iw "list" #[] 0)).update s.heap.objs.size (Dm (· ++ (C.map λz=>Value.ref z.1).toArray))=h at M E;have v:∀{z:Zq},z∈C->∃m,PairAt h (.ref z.1) z.2.1 m:=λ{z} B=>by
  obtain⟨b,h1,h2⟩:=(hz z B).1;obtain⟨_,O,r,ht⟩:=(show ObjOk X.prog X.w H s.heap z.1 (.tup [.ref b,z.2.2]) from I.hok _ _ h1)
  cases r with
  |cons r1 r =>
  cases r with
  |cons r2 r =>
  cases r;cases(show _=Value.ref b from r1);exact⟨_,z.1,.ref b,rfl,SB.IsTup.keep ht λo e=>M _ o e,(I.path h2).keep M⟩
 have f:∀{w:Value},w∈C.map (λz=>Value.ref z.1)->∃x∈C,w=.ref x.1:=λ{w} G=>by
  obtain⟨x,D,rfl⟩:=Ac.mp G;exact⟨x,D,rfl⟩
 refine kk (C.map λz=>Value.ref z.1) h s.toks _ _ _ (SB.ready_pairs (ps:=C.map (·.2.1)) (by rw[Aa];exact few) (λw G=>?_) (λw G y hy p mm a4 S T=>?_) (by have:=hr.un;lia)) λh' out so U ⟨e,he⟩=>?_
 ·obtain⟨x,D,rfl⟩:=f G;obtain⟨m,W⟩:=v D;exact⟨_,Ac.mpr ⟨x,D,rfl⟩,m,(hz x D).2,W⟩
 ·obtain⟨x,D,rfl⟩:=f G;obtain⟨x2,J,rfl⟩:=f hy;obtain⟨m,W⟩:=v D;obtain⟨m2,Y⟩:=v J;have q1:=SB.PairAt.inj S W;have q2:=SB.PairAt.inj T Y;rw[q0u nd D J (q1.symm.trans q2)]
 obtain⟨L,Z,p2⟩:=SB.perm_map_inv so.perm rfl;have j:=so.rise;rw[p2] at j;have a0:=SB.rise_paths (λw a b ⟨_,x⟩ ⟨_,y⟩=>SB.PairAt.inj x y) (λz a1=>by
  have B:=Z.mem_iff.mp a1;exact⟨v B,Ac.mpr ⟨_,B,rfl⟩⟩) j
 have keep:=λb o z=>U b o (M b o z);have a2:=I.hok.fresh E;refine⟨.ref h.objs.size,upd H h.objs.size (.lst (L.map λz=>V.ref z.1)),I.laid (t':=s.toks) keep E ⟨by rw[Aa,Z.length_eq,Ey];lia,_,e,q9l _,?_⟩,rfl,q _ L a2 Z a0⟩;rw[he,<- p2]
noncomputable def tNotT(ta:TE):TE:=λσ H Q=>ta σ H λx H1=>∃b,x=.bl b/\Q (.bl (!b)) H1
def x5v{j pos'}(ha:PE X a ta):PC X .IsNot a (.Constant (.bool true) j pos') (tNotT ta):=by
 intro f s q H Q I h;refine thnE (ha f s q H _ I h) λv G x u B C D=>?_;obtain⟨b,e,E⟩:=D;subst e;obtain rfl:v=Value.bool b:=C;refine Constant_bool (wpAny_isNot_plain rfl ⟨.bl _,u,B,?_,E⟩);cases b<;>rfl
end L2
namespace SB
open PySem PyProof.Rows PySem.SeqAt
open AutoSeq1 (wpAny_loadPart')
open MeetsSeq MeetsSeq2 MeetsSeq3
def x2n(l)(f:Array Value)(n)(u)(v)(k):
  ∀i,f.size-i=k->Meets (Dk.«list.__eq__.loop» ⟨[.ref l,.ref l,Ee i,Ee 0],[]⟩)
   (λ_ R s=>s.heap.get? l=some { cls:=.type "list",dict:=u,data:=.seq f n,slots:=v }/\R (.ok (.ret (.bool false))) s):=by
 induction k with
 |zero =>
  intro i hk prog w A R s h;obtain⟨hp,g,d,tk,os⟩:=s;obtain⟨hl,h⟩:=h
  wp_walk using wpAny_loadPart' hl
  have j:f[((i:Nat):Int).toNat]?=none:=by simp;lia
  rw[j]
  wp_walk using wpAny_loadPart' hl
  show R (.ok (.ret (.bool (decide (f.size<f.size))))) _;simpa using h
 |succ k ih =>
  intro i hk prog w A R s h;obtain⟨hp,g,d,tk,os⟩:=s;obtain⟨hl,h⟩:=h
  wp_walk using wpAny_loadPart' hl
  have q:i<f.size:=by lia
  have j:f[((i:Nat):Int).toNat]?=some f[i]:=by simp[q]
  have B:((i:Int)+1)=((i+1:Nat):Int):=by push_cast;rfl
  rw[j];refine Ab (EqAt.same f[i] prog w _ _ ?_)
  wp_walk
  rw[B];exact⟨Ds plain_eq_loop _,Dq entry_eq_loop (by
   rw[Ct plain_eq_loop _];exact ih (i+1) (by lia) prog w A R _ ⟨hl,h⟩)⟩
def x2o (l) (items) (n) (dd) (sl) : Meets (Dk.«list.__lt__» ⟨[.ref l, .ref l], []⟩)
      (λ_ R s => s.heap.get? l = some { cls := .type "list", dict := dd, data := .seq items n, slots := sl } ∧ R (.ok (.ret (.bool false))) s) := by
  intro prog w A R s h;obtain ⟨hp, g, d, tk, os⟩ := s; obtain ⟨hl, h⟩ := h;have f3 := Rx
  wp_walk using wpAny_loadPart' hl
  exact ⟨Ds plain_eq_loop _, Dq entry_eq_loop (by
    rw [Ct plain_eq_loop _];exact x2n l items n dd sl _ 0 rfl prog w A R _ ⟨hl, h⟩)⟩
def x2p (l b) (items items2) (n n2) (dd dd2) (sl sl2)  (hx : items[0]? = some x) (hy : items2[0]? = some y) (r) : Meets (Dk.«list.__lt__» ⟨[.ref l, .ref b], []⟩)
      (λA R s => s.heap.get? l = some { cls := .type "list", dict := dd, data := .seq items n, slots := sl } ∧ s.heap.get? b = some { cls := .type "list", dict := dd2, data := .seq items2 n2, slots := sl2 } ∧ EqAt A.in1 s x y false ∧
        (∀  prog   w   E   Q , Q (.bool r) s → wpAny (model prog w) A.in1 (Ru .Lt x y) Q E s) ∧ R (.ok (.ret (.bool r))) s) := by
  intro prog w A R s h;obtain ⟨hp, g, d, tk, os⟩ := s; obtain ⟨hl, hb, he, hc, h⟩ := h;have f3 := Rx
  wp_walk using wpAny_loadPart' hl, wpAny_loadPart' hb
  refine ⟨Ds plain_eq_loop _, Dq entry_eq_loop ?_⟩;rw [Ct plain_eq_loop _];have go : ∀ i : Nat, i = 0 → wpAny (model prog w) A.in1 (Dk.«list.__eq__.loop» ⟨[.ref l, .ref b, Ee i, Ee 0], []⟩) (λfin s' => match fin with | .done f => R (.ok f) s' | .again c' => c'.quiet = true ∧ Fu (model prog w) A c' R s') (λe s' => R (.error e) s') ⟨hp, g, d, tk, os⟩ := λi e0 => by
    wp_walk using wpAny_loadPart' hl, wpAny_loadPart' hb
    have hi1 : items[((i : Nat) : Int).toNat]? = some x := by rw [e0]; simpa using hx
    have hi2 : items2[((i : Nat) : Int).toNat]? = some y := by rw [e0]; simpa using hy
    rw [hi1, hi2];refine Ab (he prog w _ _ ?_)
    wp_walk using wpAny_loadPart' hl, wpAny_loadPart' hb
    rw [hi1, hi2];refine Ab (hc prog w _ _ ?_)
    wp_walk
    exact h
  exact go 0 rfl
section
variable{prog:Aw}{w:World}{A:Around}{E:Value->Ag->Prop}{s:Ag}{x y:Value}{p q:Pth}
noncomputable def HeadAt(h:Heap)(v:Value)(p:Pth):Prop:=∃a its k,v=.ref a/\h.IsList a its/\its[0]?=some k/\PathAt h k p
def HeadAt.keep(x:HeadAt h v p)(k:∀b o,h.get? b=some o->h'.get? b=some o):HeadAt h' v p:=by obtain⟨a,f,z,e,⟨o,ho,r⟩,i,s⟩:=x;exact⟨a,f,z,e,⟨o,k _ _ ho,r⟩,i,s.keep k⟩
def HeadAt.inj(B:HeadAt h v p)(C:HeadAt h v q):p=q:=by
 obtain⟨a,D,k,rfl,⟨o,ho,_,n,hd⟩,E,G⟩:=B;obtain⟨M,u,H,e,⟨I,j,_,O,f⟩,J,L⟩:=C;cases e;obtain rfl:o=I:=Bx (ho.symm.trans j);rw[hd] at f;injection f with e1 _;subst e1;obtain rfl:k=H:=Bx (E.symm.trans J);exact G.inj L
def z9q(W:HeadAt s.heap x p)(X:HeadAt s.heap y q)(D:p=q->x=y)(Y:Low p)(Z:Low q)(hu:A.units+4<cLine)(h:Q (pLt p q) s):wpAny (model prog w) A (keyLt' oneType' x y) Q E s:=by
 obtain⟨l,f,k,rfl,hl,G,hk⟩:=W;obtain⟨l2,j,k2,rfl,H,u,v⟩:=X;obtain⟨⟨a0,O,P,R⟩,ho,S,n,hd⟩:=id hl;obtain⟨⟨U,I,J,L⟩,M,B,n2,C⟩:=id H;simp only at S hd B C;subst S hd B C;rw[keyLt'_oneType,oneLt'_eq];simp only[if_true];refine Ab (wpAny_cRoomFor (by lia) ?_);refine Ab (wpAny_callSpecialIfBound?_slot (T := "list") ⟨_,ho,rfl⟩ Nx ?_);by_cases e:p=q
 ·have e1:=D e;cases e1;subst e;rw[q1s] at h;exact Lh Nx ⟨_,ho,rfl⟩ Sm (Ry _ _) (x2o l f n O R) ⟨ho,show wpAny _ _ _ _ _ _ from Cy h⟩
 ·refine Lh Nx ⟨_,ho,rfl⟩ Sm (Ry _ _) (x2p l l2 f j n n2 O I R L G u (pLt p q)) ⟨ho,M,?_,λprog w E Q h'=>?_,show wpAny _ _ _ _ _ _ from Cy h⟩
  ·have:=z4y (A:=A.in1) hk v Y Z (by show A.units+1+2<_;lia)
   rwa [decide_eq_false e] at this
  ·exact z0g hk v (by show A.units+1<_;lia) h'
def z6p{vs:List Value}(u:2<=vs.length)(q:∀v∈vs,∃a,v=.ref a/\s.TypeIs v "list")(h:Q oneType' s):wpAny (model prog w) A (Vz vs.toArray) Q E s:=by
 rw[keyKind'_eq,Lw];refine Ab (Ab (q8a (g:=λ_=>none) vs (λv B C f=>?_) (Ad ?_)))
 ·obtain⟨a,rfl,j⟩:=q v B;refine Ab (m:=typeOf (.ref a)) (Gj (T := "list") j ?_);have e:(Value.type "list" != Value.type "tuple")=true:=by decide
  rw[e];simp only[if_true];exact Ad f
 ·cases vs with
  |nil=>simp at u
  |cons v vs =>
   rw[if_neg (by simp),if_neg (by simp)];rw[oneTypeOnly'_eq,Lw];refine Ab (Ab (Ab (q8a (g:=λ_=>Value.type "list") (v::vs) (λx D C f=>?_) (Ad ?_))))
   ·obtain⟨a,rfl,j⟩:=q x D;exact Gj (T := "list") j f
   ·have G:((v::vs).map λ_=>Value.type "list").toArray[0]?=some (Value.type "list"):=by simp
    have H:(((v::vs).map λ_=>Value.type "list").toArray.all λx=>x==Value.type "list")=true:=by simp
    rw[G];dsimp only;rw[H];simp only[if_true];exact Ad (Ad (by simpa using h))
def ready_lists{ps:List Pth}{vs:List Value}{h:Heap}(few:vs.length<64)(hp:∀v∈vs,∃p∈ps,Low p/\HeadAt h v p)(J:∀u∈vs,∀v∈vs,∀p,HeadAt h u p->HeadAt h v p->u=v)(Y:A.units+16<cLine):
  Ready prog w A vs h oneType' (λv=>v∈vs) (λv=>(pRank ps (keyBy (HeadAt h) v):Int)) where
 few:=few
 all:=λv f=>f
 kind:=λL M O E Q _ k q=>by
  refine z6p L (λv f=>?_) q;obtain⟨p,_,_,x⟩:=hp v f;obtain⟨a,P,z,rfl,⟨o,ho,R,n,hd⟩,_,_⟩:=x.keep k;exact⟨a,rfl,o,ho,R⟩
 tells:=λM O Z k E x y Q G H S=>by
  obtain⟨p,j,T,B⟩:=hp x G;obtain⟨q,C,U,D⟩:=hp y H;refine z9q (B.keep k) (D.keep k) (λe=>by subst e;exact J x G y H _ B D) T U (by lia) ?_;have I:∀v p q,HeadAt h v p->HeadAt h v q->p=q:=λv p q a b=>a.inj b
  have W:=q3o I B;have X:=q3o I D;rw[z0e j C,<- W,<- X];exact S
end
section
variable{prog:Aw}{w:World}{A:Around}{R:Result->Ag->Prop}{I:Addr}{fp wr:List Addr}{n:Nat}{P:Nat->Value->Prop}{St:Nat->Heap->Prop}
noncomputable abbrev bestO(vb:Value)(c:Nat):Obj:={ cls:=.type "list",dict:=none,data:=.seq #[vb,vb] c,slots:=#[] }
def minLoopName:(toString "min" ++ toString ".loop" : String) = "min.loop" := by decide
structure MinC (prog) (w) (A:Around) (P:Nat->Value->Prop) (bt:Nat->Nat->Bool) (h0:Heap) (wr:List Addr) (S):Prop where
 old:∀b∈wr,h0.get? b=none
 best:h0.get? S=none
 cmp:∀i j vi vj  s   Q   E ,(∀b o,h0.get? b=some o->s.heap.get? b=some o)->P i vi->P j vj->Q (.bool (bt i j)) s->wpAny (model prog w) A.in1 (Ru .Lt vi vj) Q E s
def MinC.keep{h0 h h':Heap}(M:MinC prog w A P bt h0 wr S)(f:∀b o,h0.get? b=some o->h.get? b=some o)(k:∀b o,b∉wr->h.get? b=some o->h'.get? b=some o):∀b o,h0.get? b=some o->h'.get? b=some o :=
 λb o e=>k b o (λm=>by rw[M.old b m] at e;cases e) (f b o e)
def MinC.put{h0 h:Heap}(M:MinC prog w A P bt h0 wr S)(j:∀b o,h0.get? b=some o->h.get? b=some o):∀b o,h0.get? b=some o->(h.update S f).get? b=some o :=
 λb o e=>(Co _ _ (λz:S=b=>by subst z;rw[M.best] at e;cases e)).trans (j b o e)
def min_go(W:Walks prog w A.in1 I fp wr n P St)(M:MinC prog w A P bt h0 wr S)(E:S∉fp):
  ∀(k j)  s   u   c ,n-(j+1)=k->j+1<=n->St (j+1) s.heap->P (Hy bt j) u->s.heap.get? S=some (bestO u c)->(∀b o,h0.get? b=some o->s.heap.get? b=some o) ->
  (∀v h' tk,P (Hy bt (n-1)) v->(∀b o,h0.get? b=some o->h'.get? b=some o)->R (.ok (.ret v)) { s with heap:=h',toks:=tk })->Fu (model prog w) A (.builtin "min.loop" ⟨[.ref I,.none,.ref S],[]⟩) R s:=by
 have G:S∉wr:=λh=>E (W.sub _ h);intro k;induction k with
 |zero =>
  intro j s u c hk X C q H O L;have J:j+1=n:=by lia
  refine Dq Qi ?_;rw[Ct Hf _];show wpAny _ A.in1 (seqItems? (.ref S) >>= _) _ _ s;refine Ab (Dp H rfl ?_);show wpAny _ A.in1 (tryCatch (Hb (.ref I)) _ >>= _) _ _ s;refine Ab (Ll (W.done s _ _ (J▸C) λh' tk f=>?_));have hS':=f S _ G H;show wpAny _ A.in1 (Mz S (λ_=>#[]) >>= _) _ _ _;refine Ab ?_;refine Ge hS' rfl (Ab (Gq (Ad (L u _ tk (by rw[<- J];exact q) (M.put (M.keep O f))))))
 |succ k ih =>
  intro j s u c hk X C q H O L;have D:j+1<n:=by lia
  refine Dq Qi ?_;rw[Ct Hf _];show wpAny _ A.in1 (seqItems? (.ref S) >>= _) _ _ s;refine Ab (Dp H rfl ?_);show wpAny _ A.in1 (tryCatch (Hb (.ref I)) _ >>= _) _ _ s;refine Ab (Ll (W.item (j+1) s _ _ D C λv h' tk U B f=>?_));have hS':=f S _ G H;have Q:=M.keep O f;show wpAny _ A.in1 (tryCatch (Lg [v,v] (Ru .Lt v u >>= _)) _ >>= _) _ _ _;refine Ab (Ll (Cq (Ab (M.cmp (j+1) (Hy bt j) v u _ _ _ Q U q ?_))));refine Ab (Cq (Cy (Ab (Gq (Ad ?_)))));cases hb:bt (j+1) (Hy bt j) with
  |true =>
   simp only[if_true];refine Ab ?_;refine Ge hS' rfl (Ab (Gq ?_));rw[minLoopName];refine Ad ⟨Ds Hf _,ih (j+1) _ v _ (by lia) D (W.frame _ _ _ B λb T o e=>?_) (by simp only[Hy,hb,if_true];exact U) (Gm _ hS' rfl) (M.put Q) L⟩;exact(Co _ _ (λh:S=b=>E (by rw[h];exact T))).trans e
  |false =>
   simp only[Bh,if_false];refine Ab (Gq ?_);rw[minLoopName];exact Ad ⟨Ds Hf _,ih (j+1) _ u c (by lia) D B (by simp only[Hy,hb,Bh,if_false];exact q) hS' Q L⟩
def x5w(W:Walks prog w A.in1 I fp wr n P St)(M:MinC prog w A P bt h0 wr S)(f:S∉fp)(hn:0<n)(u:St 0 s.heap)(D:s.heap.get? S=some { cls:=.type "list",dict:=none,data:=.seq #[] c,slots:=#[] })(E:∀b o,h0.get? b=some o->s.heap.get? b=some o)(G:∀v h' tk,P (Hy bt (n-1)) v->(∀b o,h0.get? b=some o->h'.get? b=some o)->R (.ok (.ret v)) { s with heap:=h',toks:=tk }):
  Fu (model prog w) A (.builtin "min.loop" ⟨[.ref I,.none,.ref S],[]⟩) R s:=by
 have B:S∉wr:=λh=>f (W.sub _ h);refine Dq Qi ?_;rw[Ct Hf _];show wpAny _ A.in1 (seqItems? (.ref S) >>= _) _ _ s;refine Ab (Dp D rfl ?_);show wpAny _ A.in1 (tryCatch (Hb (.ref I)) _ >>= _) _ _ s;refine Ab (Ll (W.item 0 s _ _ hn u λv h' tk H j q=>?_));have hS':=q S _ B D;show wpAny _ A.in1 (Mz S (λ_=>#[v,v]) >>= _) _ _ _;refine Ab ?_;refine Ge hS' rfl ?_;rw[minLoopName];refine Ad ⟨Ds Hf _,min_go W M f _ 0 _ v _ rfl hn (W.frame _ _ _ j λb C o e=>?_) H (Gm _ hS' rfl) (M.put (M.keep E q)) G⟩;exact(Co _ _ (λh:S=b=>f (by rw[h];exact C))).trans e
end
def z2m(j:pLt b a=false)(f:pLt c b=false):pLt c a=false:=by
 cases e:pLt c a with
 |false=>rfl
 |true =>
  by_cases h:a=b
  ·subst h;rw[f] at e;cases e
  ·cases e2:pLt a b with
   |false=>exact absurd (q6c e2 j) h
   |true=>have:=q4m e e2;rw[f] at this;cases this
theorem q9m{f:Nat->Pth}:∀k,Hy (λi j=>pLt (f i) (f j)) k<=k/\∀i,i<=k->pLt (f i) (f (Hy (λi j=>pLt (f i) (f j)) k))=false
 |0=>⟨Aq _,λi h=>by
   have e:i=0:=Nat.le_zero.mp h;subst e;exact q1s _⟩
 |k+1=>by
  obtain⟨B,u⟩:=q9m (f:=f) k;cases e:pLt (f (k+1)) (f (Hy (λi j=>pLt (f i) (f j)) k)) with
  |true =>
   simp only[Hy,e,if_true];refine⟨Aq _,λi v=>?_⟩;by_cases q:i=k+1
   ·rw[q];exact q1s _
   ·refine z2m (b:=f (Hy (λi j=>pLt (f i) (f j)) k)) ?_ (u i (by lia));cases e2:pLt (f (Hy (λi j=>pLt (f i) (f j)) k)) (f (k+1)) with
    |false=>rfl
    |true=>have:=q4m e e2;rw[q1s] at this;cases this
  |false =>
   simp only[Hy,e,Bh,if_false];refine⟨by lia,λi v=>?_⟩;by_cases q:i=k+1
   ·rw[q];exact e
   ·exact u i (by lia)
end SB
namespace L2
open PySem PySem.Spec PyProof.Rows SB
noncomputable def rMinP:List V->Hp->VK->Prop:=λvs H Q=>∃l,∃zs:List Zp,vs=[.ref l]/\H l=some (.lst (zs.map λz=>V.ref z.1))/\zs≠[]/\zs.length<=sizeLine/\(∀z∈zs,H z.1=some (.tup (vP z.2))) /\
 ∀z∈zs,(∀y∈zs,pLt y.2 z.2=false)->Q (.ref z.1) H
def x4e{h:Heap}{b:Addr}(e:h.objs.size<=b):h.get? b=none:=by
 cases q:h.get? b with
 |none=>rfl
 |some o=>exact absurd (Cb (Ax q) e) (Fq _)
theorem z9r:∀{zs:List Zp} {us},Vals (zs.map λz=>V.ref z.1) us->us=zs.map λz=>Value.ref z.1
 |[],_,.nil=>rfl
 |z::zs,_,.cons r t=>by cases r;rw[z9r t];rfl
def z9s(W:X.calm=true)(Y:Room k X.A):CallR X (.builtin "min") rMinP:=by
 intro T s σ H xs us Q I Z h;obtain⟨l,B,rfl,hl,L,few,hz,q⟩:=h;obtain⟨u,rfl,ru⟩:=Z.one;cases ru;obtain⟨a0,M,D⟩:=q5g I hl;have e1:=z9r M;subst e1;have E:l<s.heap.objs.size:=by obtain⟨_,e,_⟩:=D;exact Ax e
 have G:0<B.length:=Bi.mpr L;refine call_function_tree F.kind_min F.plain_min F.entry_min (F.args_min1 _) ?_;show wpAny _ X.A.in1 (Ow "min" ["key", "default"] 0 ⟨[],[]⟩ >>= _) _ _ s;refine Ab (Hi (show Ow "min" ["key", "default"] 0 ⟨[],[]⟩=pure [none,none] from rfl) (Ab (Ad ?_)));refine Ab (Ls D (Ab (Bz ?_)));rw[minLoopName];have J:((B.map λz=>Value.ref z.1).toArray).size=B.length:=by simp
 refine Ad ⟨Ds Hf _,x5w (I:=s.heap.objs.size) (fp:=[s.heap.objs.size,l]) (wr:=[s.heap.objs.size]) (h0:=s.heap) (bt:=λi j=>pLt ((B.map (·.2)).getD i []) ((B.map (·.2)).getD j [])) (Walks.list (A:=X.A.in1) (I.ok.hd W) s.heap.objs.size l (Bm E) (B.map λz=>Value.ref z.1).toArray) ⟨?_,?_,?_⟩ ?_ (by rw[J];exact G) ?_ (As _ rfl) ?_ ?_⟩
 ·intro b hb;rw[Ak.mp hb];exact x4e (Aq _)
 ·exact x4e (by simp)
 ·intro i j vi vj s' Q' E' O P hj hq;have hz':∀{i:Nat} {v:Value},(B.map λz=>Value.ref z.1).toArray[i]?=some v->PathAt s'.heap v ((B.map (·.2)).getD i []):=λ{i v} C=>by
   rw[Sn,Am] at C;cases e:B[i]? with
   |none=>rw[e] at C;cases C
   |some z =>
    rw[e] at C;cases C;have:=(I.path (hz z (Af e))).keep O;rw[Ke,Am,e];exact this
  exact z0g (hz' P) (hz' hj) (by have:=Y.un;show X.A.units+1<_;lia) hq
 ·intro hm;have e2:(s.heap.push { cls:=Value.type "list_iterator",data:=.fields #[.ref l,.int 0 0] }).objs.size=s.heap.objs.size+1:=size_push' _ _;rcases Bb.mp hm with e|e
  ·have e:(s.heap.push { cls:=Value.type "list_iterator",data:=.fields #[.ref l,.int 0 0] }).objs.size=s.heap.objs.size:=e;lia
  ·have e:(s.heap.push { cls:=Value.type "list_iterator",data:=.fields #[.ref l,.int 0 0] }).objs.size=l:=Ak.mp e;rw[<- e,e2] at E;exact absurd E (Wn.mpr (Hh _))
 ·exact⟨⟨_,Ai _ (As _ rfl),rfl,rfl⟩,(D.push _).push _⟩
 ·exact λb o e=>Ai _ (Ai _ e)
 ·intro v h' tk R O;rw[J] at R;obtain⟨b1,U⟩:=q9m (f:=λi=>(B.map (·.2)).getD i []) (B.length-1);generalize Hy (λi j=>pLt ((B.map (·.2)).getD i []) ((B.map (·.2)).getD j [])) (B.length-1)=m at R b1 U;have C:(B.map λz=>Value.ref z.1).toArray[m]?=some v:=R;rw[Sn,Am] at C;cases e:B[m]? with
  |none=>rw[e] at C;cases C
  |some z =>
   rw[e] at C;cases C;have ez:(B.map (·.2)).getD m []=z.2:=by rw[Ke,Am,e];rfl
   refine⟨.ref z.1,H,I.kept (t':=tk) O,rfl,q z (Af e) λy hy=>?_⟩;obtain⟨i,P,ey⟩:=List.mem_iff_getElem.mp hy;have:=U i (by lia);rw[ez] at this;have S:(B.map (·.2)).getD i []=y.2:=by rw[Ke,Am,Ci P,ey];rfl
   have t2:pLt ((B.map (·.2)).getD i []) z.2=false:=this
   rwa [S] at t2
noncomputable def HdL(H:Hp)(a:Addr)(p:Pth):Prop:=∃b rest,H a=some (.lst (.ref b::rest))/\H b=some (.tup (vP p))
noncomputable def rSortH:List V->Hp->VK->Prop:=λvs H Q=>∃(α:Type) (f:α->Pth) (l:Addr) (zs:List (Addr×α)),vs=[.ref l]/\H l=some (.lst (zs.map λz=>V.ref z.1))/\zs.length<64/\(∀z∈zs,HdL H z.1 (f z.2)/\Low (f z.2))/\(zs.map λz=>f z.2).Nodup /\
 ∀ L  (zs':List (Addr×α)),H L=none->zs'.Perm zs->(zs'.map λz=>f z.2).Pairwise (λa b=>pLt b a=false)->Q (.ref L) (upd H L (.lst (zs'.map λz=>V.ref z.1)))
theorem z9t{f:Type}:∀{zs:List (Addr×f)} {us},Vals (zs.map λz=>V.ref z.1) us->us=zs.map λz=>Value.ref z.1
 |[],_,.nil=>rfl
 |z::zs,_,.cons r t=>by cases r;rw[z9t t];rfl
theorem q9n{f:Type}:∀(zs:List (Addr×f)),Vals (zs.map λz=>V.ref z.1) (zs.map λz=>Value.ref z.1)
 |[]=>.nil
 |z::zs=>.cons rfl (q9n zs)
def q9o(hr:Room k X.A):CallR X (.builtin "sorted") rSortH:=by
 intro a2 s σ H xs us Q I rv h;obtain⟨α,f,l,D,rfl,hl,few,hz,nd,q⟩:=h;obtain⟨u,rfl,ru⟩:=rv.one;cases ru;obtain⟨a4,R,S⟩:=q5g I hl;have e1:=z9t R;subst e1;refine SB.sorted_ok λ{Q'} kk=>?_;refine Pr S ?_;have P:∀b o,s.heap.get? b=some o->((s.heap.push (Iw "list" #[] 0)).update s.heap.objs.size (Dm (· ++ (D.map λz=>Value.ref z.1).toArray))).get? b=some o:=λb o e=>by
  rw[(Eg ..).2 b (Bm (Ax e))];exact Ai _ e
 have G:s.heap.objs.size<=((s.heap.push (Iw "list" #[] 0)).update s.heap.objs.size (Dm (· ++ (D.map λz=>Value.ref z.1).toArray))).objs.size:=by simp_all
 generalize (s.heap.push (Iw "list" #[] 0)).update s.heap.objs.size (Dm (· ++ (D.map λz=>Value.ref z.1).toArray))=h at P G;have B:∀{z:Addr×α},z∈D->HeadAt h (.ref z.1) (f z.2):=λ{z} C=>by
  obtain⟨b,rest,h1,h2⟩:=(hz z C).1;obtain⟨a3,r,ht⟩:=q5g I h1;cases r with
  |cons r1 r =>
  cases(show _=Value.ref b from r1);obtain⟨o,ho,J⟩:=ht;exact⟨z.1,_,.ref b,rfl,⟨o,P _ _ ho,J⟩,rfl,(I.path h2).keep P⟩
 have j:∀{w:Value},w∈D.map (λz=>Value.ref z.1)->∃x∈D,w=.ref x.1:=λ{w} L=>by
  obtain⟨x,E,rfl⟩:=Ac.mp L;exact⟨x,E,rfl⟩
 refine kk (D.map λz=>Value.ref z.1) h s.toks _ _ _ (SB.ready_lists (ps:=D.map λz=>f z.2) (by rw[Aa];exact few) (λw L=>?_) (λw L y hy p T U=>?_) (by have:=hr.un;lia)) λh' out so W ⟨e,he⟩=>?_
 ·obtain⟨x,E,rfl⟩:=j L;exact⟨_,Ac.mpr ⟨x,E,rfl⟩,(hz x E).2,B E⟩
 ·obtain⟨x,E,rfl⟩:=j L;obtain⟨x2,M,rfl⟩:=j hy;rw[q0u (f:=λz=>f z.2) nd E M ((T.inj (B E)).symm.trans (U.inj (B M)))]
 obtain⟨O,Y,p2⟩:=SB.perm_map_inv so.perm rfl;have v:=so.rise;rw[p2] at v;have Z:=SB.rise_paths (K:=HeadAt h) (f:=λz:Addr×α=>f z.2) (λw a b x y=>SB.HeadAt.inj x y) (λz a0=>by
  have C:=Y.mem_iff.mp a0;exact⟨B C,Ac.mpr ⟨_,C,rfl⟩⟩) v
 have keep:=λb o z=>W b o (P b o z);have a1:=I.hok.fresh G;refine⟨.ref h.objs.size,upd H h.objs.size (.lst (O.map λz=>V.ref z.1)),I.laid (t':=s.toks) keep G ⟨by rw[Aa,Y.length_eq,Ey];lia,_,e,q9n _,?_⟩,rfl,q _ O a1 Y Z⟩;rw[he,<- p2]
noncomputable abbrev PVal:=PKey×Addr×Addr
end L2
namespace PySem.Rv
open Sem (wp)
section
variable{prog:Aw}{w:World}{A:Around}{E:Value->Ag->Prop}{s:Ag}{it d v:Addr}{i ep:Nat}{dob:Obj}{ens:Array Mx}
noncomputable abbrev valObj(d:Addr)(n ep:Nat):Obj:={ cls:=.type "dict_valueiterator",data:=.fields #[.ref d,.int 0 0,.int n 0,.int ep 0] }
def z3s(j:s.heap.IsValuesView v d)(f:s.heap.get? d=some dob)(h:dob.data=.dict ens ep)(B:Q (.ref s.heap.objs.size) { s with heap:=s.heap.push (valObj d ens.size ep) }):wpAny (model prog w) A (Kb (.ref v)) Q E s:=by
 obtain⟨D,q,C,u⟩:=id j;refine Jn j.typeIs Qu (Bw Qu j.typeIs F.entry_dict_values_iter ?_ (F.args_dict_values_iter_1 _));unfold Dk.«dict_values.__iter__»;refine Ab (Ad (Ab ?_));unfold Pp;refine Ab (Cm q u (x:=.ref d) rfl (Ad (Ab ?_)));unfold Nr;refine Ab (Ej f h (Ab (Gb f h ?_)));simp only[show Em "dict_valueiterator" = false from by decide,Bh,if_false];refine Bz (Ad ⟨_,rfl, "dict_valueiterator",_,⟨_,As _ rfl,rfl⟩,Fj.lookup,?_⟩);simpa[Ee,valObj] using B
def z3t(x:s.heap.IsValIter it d i ens.size ep)(f:s.heap.get? d=some dob)(h:dob.data=.dict ens ep)(j)(q:∀h',h'.IsValIter it d (i+1) ens.size ep->Fm it s.heap h'->Q (some ens[i].val) { s with heap:=h' }):wpAny (model prog w) A (Hb (.ref it)) Q E s:=by
 obtain⟨o,ho,u,hd⟩:=id x;refine Ab (Ek (Ca (name:=Ar "__next__") x.typeIs Fj (Bw Fj x.typeIs Ng ?_ (Mt _))));refine Ab (Ad (Ab (Ab ?_)));first|refine Ab (Gy x.typeIs (Ad ?_))|refine Ab (Jb x.typeIs (Ad ?_))
 refine Ab (Jv ho hd ?_);simp only[show Em "dict_valueiterator" = false from by decide,Bh,if_false];show wpAny _ _ (if (Value.ref d==Value.none)=true then _ else _) _ _ s;rw[if_neg (show ¬((Value.ref d==Value.none)=true) from Bq)];refine Ab (Ad (Ab (Ej f h ?_)));rw[if_neg (by simp)];refine Ab (Ad (Ab (Gb f h ?_)));rw[if_neg (by simp)];refine Ad ?_;simp only[show ¬((i:Int)<0) from by lia,if_false,Ff,Ed j];refine Ab ?_;first|refine Ab (Gy x.typeIs (Ad ?_))|refine Ab (Jb x.typeIs (Ad ?_))
 refine Ab (Nc x.typeIs ?_);show wpAny _ _ (setField (.ref it) 1 (Ee ((i:Int)+1)) >>= _) _ _ s;refine Ab (Jt ho hd (by simp) ?_);have x':(s.heap.update it (Mj (·.setIfInBounds 1 (Ee ((i:Int)+1))))).IsValIter it d (i+1) ens.size ep:=⟨_,Gm _ ho (My (Hn hd _)),(Pk ..).trans u,by rw[Hn hd];simp[Ee]⟩
 refine Ab (Cq (Ab (Nc (s:={ s with heap:=s.heap.update it (Mj (·.setIfInBounds 1 (Ee ((i:Int)+1)))) }) x'.typeIs ?_)));refine Ab (Nc (s:={ s with heap:=s.heap.update it (Mj (·.setIfInBounds 1 (Ee ((i:Int)+1)))) }) x'.typeIs ?_);exact Ad (Ad ⟨_,rfl,Ad (q _ x' (Eg ..))⟩)
def z6q(q:A.handled=none)(x:s.heap.IsValIter it d i ens.size ep)(f:s.heap.get? d=some dob)(h:dob.data=.dict ens ep)(j:ens.size<=i)(u:∀h',Ol it s.heap h'->Q none { s with heap:=h' }):wpAny (model prog w) A (Hb (.ref it)) Q E s:=by
 obtain⟨o,ho,v,hd⟩:=id x;refine Ab (Ek (Ca (name:=Ar "__next__") x.typeIs Fj (Bw Fj x.typeIs Ng ?_ (Mt _))));refine Ab (Ad (Ab (Ab ?_)));first|refine Ab (Gy x.typeIs (Ad ?_))|refine Ab (Jb x.typeIs (Ad ?_))
 refine Ab (Jv ho hd ?_);simp only[show Em "dict_valueiterator" = false from by decide,Bh,if_false];show wpAny _ _ (if (Value.ref d==Value.none)=true then _ else _) _ _ s;rw[if_neg (show ¬((Value.ref d==Value.none)=true) from Bq)];refine Ab (Ad (Ab (Ej f h ?_)));rw[if_neg (by simp)];refine Ab (Ad (Ab (Gb f h ?_)));rw[if_neg (by simp)];refine Ad ?_;simp only[show ¬((i:Int)<0) from by lia,if_false,Ff,Me j];refine Ab ?_;first|refine Ab (Gy x.typeIs (Ad ?_))|refine Ab (Jb x.typeIs (Ad ?_))
 show wpAny _ _ (setField (.ref it) 0 .none >>= _) _ _ s;refine Ab (Jt ho hd (by simp) ?_);show wpAny _ _ (newExc (.type "StopIteration") [] >>= _) _ _ _;refine Ab ?_;simp only[newExc,newTuple];refine Ab (Bz (Ab (m:=Li _ _) (Hi (a:=Value.none) (by first|rfl|(simp only[Li];rfl)) ?_)) (by size_fits));refine Bz ?_ (by size_fits);simp only[raiseNew];refine Ab (Pc ?_);rw[show A.in1.handled=none from q];refine Ab (Ad (Ro ?_));refine Ab (Fn (T := "StopIteration") (b:=true) ⟨_,As _ rfl,rfl⟩ Jq ?_);exact Ad (u _ (((Eg ..).extBut.push _).push _))
def list_values(hh:A.handled=none)(hv:s.heap.IsValuesView v d)(C:s.heap.get? d=some dob)(J:dob.data=.dict ens ep)(hn:ens.size<=1000)(hQ:∀h' c',(∀b o,s.heap.get? b=some o->h'.get? b=some o)->h'.get? s.heap.objs.size=some { cls:=.type "list",data:=.seq (ens.map (·.val)) c' }->Q (.ref s.heap.objs.size) { s with heap:=h' }):
  wpAny (model prog w) A (call (.type "list") [.ref v]) Q E s:=by
 refine callType_codes (Q₁:=λobj H=>obj=.ref s.heap.objs.size/\H={ s with heap:=s.heap.push { cls:=.type "list",data:=.seq #[] } }) F.called_list (F.typeCall_list_1 _) F.entry_list_init (code_list_new _ ⟨rfl,rfl⟩) λobj H Y=>?_;obtain⟨rfl,rfl⟩:=Y;generalize D:s.heap.objs.size=S at hQ;have Z:(s.heap.push { cls:=.type "list",data:=.seq #[] }).get? S=some { cls:=.type "list",data:=.seq #[] }:=by rw[<- D];exact As _ rfl
 have kg:∀b o,s.heap.get? b=some o->(s.heap.push { cls:=.type "list",data:=.seq #[] }).get? b=some o:=λb o e=>Ai _ e;have gz:(s.heap.push { cls:=.type "list",data:=.seq #[] }).objs.size=S+1:=by rw[<- D];exact Fv _ _
 generalize s.heap.push { cls:=.type "list",data:=.seq #[] }=g at Z kg gz;refine⟨⟨_,Z,rfl⟩,F.args_list_init_2 _ _,?_⟩;show wpAny _ _ (do let old<-Ez (.ref S);Dk.List.listUpdate (.ref S) (λ_=>#[]);letGo old.toList.reverse;Hq (.ref S) (.ref v) .none) _ _ _;refine Ab ?_;unfold Ez;refine Ab (Dp Z rfl (Ad ?_));show wpAny _ _ (Mz S (λ_=>#[]) >>= λ_=>letGo (#[]:Array Value).toList.reverse >>= λ_=>Hq (.ref S) (.ref v) .none) _ _ _;refine Ab (Ge Z rfl (Ab (Gq ?_)));have old:∀{b:Addr} {o:Obj},s.heap.get? b=some o->b≠S:=λ{b o} e=>by rw[<- D];exact Bm (Ax e)
 have a0:=En Z (λ_=>(#[]:Array Value));have j:∀b o,s.heap.get? b=some o->(g.update S (Dm λ_=>(#[]:Array Value))).get? b=some o:=λb o e=>(Co _ _ (Ex (old e))).trans (kg b o e);have L:(g.update S (Dm λ_=>(#[]:Array Value))).objs.size=S+1:=by rw[(Eg ..).1];exact gz
 generalize g.update S (Dm λ_=>(#[]:Array Value))=U at a0 j L;obtain⟨ov,G,M,a2⟩:=id hv;unfold Hq;refine Ab (Gj (T := "dict_values") ⟨ov,j _ _ G,M⟩ ?_);have h1:Iy (.ref S) (.ref v)=false:=by simp[Iy,(old G).symm]
 simp only[h1,show(Value.type "dict_values" == Value.type "list")=false from by decide,show(Value.type "dict_values" == Value.type "tuple")=false from by decide,To,Bh,if_false];refine Ab (z3s ⟨ov,j _ _ G,M,a2⟩ (j _ _ C) J ?_);rw[L];have kI:∀b o,U.get? b=some o->(U.push (valObj d ens.size ep)).get? b=some o:=λb o q=>Ai _ q;have gI:(U.push (valObj d ens.size ep)).get? (S+1)=some (valObj d ens.size ep):=by rw[<- L];exact As _ rfl
 have O:=kI _ _ a0;have nS:S≠S+1:=Bm (He _);refine Ab (Cq (PySem.W.kdl_hint_values (s:={ s with heap:=U.push (valObj d ens.size ep) }) ⟨ov,kI _ _ (j _ _ G),M⟩ ?_));have W:Runs prog w A.in1 S (S+1) ens.size (λu _=>u=(ens.map (·.val)).toList.take u.length) (λi h=>h.IsValIter (S+1) d i ens.size ep/\h.get? d=some dob):=by
  have dS:d≠S:=old C;have dI:d≠S+1:=λe=>by have:=Ax C;rw[D,e] at this;exact absurd this (Wn.mpr (Hh _))
  refine⟨λu h h' f _=>f,λi h h' ⟨⟨o,e1,e2⟩,f2⟩ kp=>⟨⟨o,kp _ _ nS.symm e1,e2⟩,kp _ _ dS f2⟩,λu B Q' E' hl f ⟨i1,i2⟩ hq=>?_,λB Q' E' ⟨i1,i2⟩ hq=>?_⟩
  ·refine z3t i1 i2 J hl λh' j1 j2=>hq _ h' ?_ ⟨j1,(j2.2 _ dI).trans i2⟩ λb o X e=>(j2.2 b X).trans e;have hl':u.length<(ens.map (·.val)).toList.length:=by simpa using hl
   rw[An,El,Lk,<- f,Ci hl'];simp
  ·exact z6q hh i1 i2 J (Aq _) λh' eb=>hq h' λb o X e=>eb b o X e
 have fin:∀(h:Heap) (c:Nat),(∀b o,b≠S->(U.push (valObj d ens.size ep)).get? b=some o->h.get? b=some o)->h.get? S=some { cls:=.type "list",data:=.seq ([]:List Value).toArray c } ->
   Fu (model prog w) A.in1 (.builtin "list.extend.loop" ⟨[.ref S,.ref (S+1),.none],[]⟩) (λr B=>r=.ok (.ret .none)/\Q (.ref S) B) { s with heap:=h }:=λh c kh P=>by
  refine grow W nS (by rw[Ey];lia) _ ens.size [] _ c (by simp) (Bv _) rfl ⟨⟨_,kh _ _ nS.symm gI,rfl,rfl⟩,kh _ _ (old C) (kI _ _ (j _ _ C))⟩ P λu h' c' e f' k' B=>⟨rfl,hQ h' c' (λb o q=>k' b o (old q) (λe2=>by have:=Ax q;rw[D,e2] at this;exact absurd this (Wn.mpr (Hh _))) (kh b o (old q) (kI _ _ (j _ _ q)))) ?_⟩
  rw[B];have e2:u=(ens.map (·.val)).toList:=by rw[f',e];exact Fb (by simp)
  rw[e2]
 have I:∀(h:Heap) (c:Nat),(∀b o,b≠S->(U.push (valObj d ens.size ep)).get? b=some o->h.get? b=some o)->h.get? S=some { cls:=.type "list",data:=.seq ([]:List Value).toArray c }->∀{R:Result->Ag->Prop},(∀B,Q (.ref S) B->R (.ok (.ret .none)) B) ->
   Fu (model prog w) A.in1 (.builtin "list.extend.loop" ⟨[.ref S,.ref (S+1),.none],[]⟩) R { s with heap:=h }:=λh c kh P {R} hR=>Ip (fin h c kh P) λr B ⟨e,q⟩=>by rw[e];exact hR B q
 refine Rb (λ_=>?_) (λ_=>Ad ⟨Ds Gh _,I _ _ (λb o _ q=>q) O λB q=>⟨rfl,q⟩⟩);refine Ab (Gk (Ab ?_));show wpAny _ _ (Mz S (·.push .none) >>= λ_=>Mz S (·.pop)) _ _ _;refine Ab (Ge O rfl ?_);have a1:=En O (λx=>x.push Value.none);refine Ge a1 rfl ?_;have a3:=En a1 (λx=>x.pop);exact Ad ⟨Ds Gh _,I _ _ (λb o X q=>(Co _ _ (Ex X)).trans ((Co _ _ (Ex X)).trans q)) a3 λB q=>⟨rfl,q⟩⟩
end
end PySem.Rv
namespace L2
open PySem PySem.Spec PyProof.Rows SB
noncomputable def vlO(v d:Addr):HO:=.ext λh=>h.IsValuesView v d
noncomputable def rValues:V->List V->Hp->VK->Prop:=λx vs H Q=>∃d rows,x=.ref d/\vs=[]/\H d=some (dR rows)/\∀v,H v=none->Q (.ref v) (upd H v (vlO v d))
def z9u:MtR X "dict.values" rValues:=by
 intro C s M H x vs v O Q I E G h;obtain⟨d,rows,rfl,rfl,hd,q⟩:=h;cases E;have B:=G.zero;subst B;obtain⟨f,P,D,R,S,ho,j,J,_⟩:=I.rows hd;refine Bw F.slot_dict_values ⟨D,ho,j.1⟩ F.entry_dict_values ?_ (F.args_dict_values_1 _);refine Ab ?_;unfold Tu;refine Ab (Hw ⟨D,ho,j.1⟩ ?_);show wpAny _ _ (pure d) _ _ s;refine Ad ?_;unfold Ju;rw[if_neg (by rw[f];exact Bq)];refine Ab (Ad (Ab (Bz (Ad ⟨_,rfl,.ref s.heap.objs.size,_,I.laid (t':=s.toks) (λb u e=>Ai _ e) (Aq _) ?_,rfl,q _ I.fresh⟩))));exact⟨⟨_,As _ rfl,rfl,rfl⟩,⟨_,As _ rfl⟩,λT U ⟨o,e,c,L⟩ k=>⟨o,k o e,c,L⟩⟩
noncomputable def rListV:List V->Hp->VK->Prop:=λvs H Q=>∃v d,∃rows,vs=[.ref v]/\H v=some (vlO v d)/\H d=some (dR rows)/\rows.length<=60/\∀L,H L=none->Q (.ref L) (upd H L (.lst (rows.map (·.2))))
def z6r(P:X.calm=true):CallR X (.type "list") rListV:=by
 intro G s σ H xs us Q I R h;obtain⟨v,d,rows,rfl,S,hd,few,q⟩:=h;obtain⟨u,rfl,T⟩:=R.one;cases T;obtain⟨J,j,ob,f,ep,ho,U,B,nd,L,M,O,W⟩:=I.rows hd;obtain⟨C,_⟩:=(show ObjOk X.prog X.w H s.heap v (vlO v d) from I.hok v _ S)
 have D:∀{l:List (Addr×Value×HRow)},(∀z∈l,RelV z.2.2.2 z.2.1)->Vals ((l.map (·.2.2)).map (·.2)) (l.map (·.2.1)):=λ{l}=>by
  induction l with
  |nil=>exact λ_=>.nil
  |cons z l ih=>exact λh=>.cons (h z Au) (ih λy Y=>h y (Ap _ Y))
 have Z:(f.map (·.val)).toList=L.map (·.2.1):=by
  have:=congrArg (List.map (·.2)) O;rw[Ah,Ah] at this;rw[Qh];exact this
 have E:f.size<=1000:=by
  have e1:=congrArg List.length O;have e2:=congrArg List.length M;rw[Aa,Aa] at e1;rw[Aa] at e2;have:f.toList.length=f.size:=rfl;lia
 refine PySem.Rv.list_values (I.ok.hd P) C ho B E λh' c' kp e=>⟨.ref s.heap.objs.size,_,I.laid (t':=s.toks) kp (Aq _) (show ObjOk X.prog X.w _ h' _ (.lst (rows.map (·.2))) from⟨by rw[Aa];exact j,L.map (·.2.1),c',?_,?_⟩),rfl,q _ (I.hok.fresh (Aq _))⟩
 ·rw[<- M];exact D λz j=>(W z j).2
 ·rw[e,<- Z]
def gE(h:∀D' X,D'=D->X=b->tSeq a X D' f H):tSeq a b D f H:=h D b rfl rfl
def gY(j:X=tSeq a b)(h:∀Y,Y=b->tSeq a Y D f H):X D f H:=by rw[j];exact h b rfl
def gZ(h:∀X,X=b->tSeq a X D f H):tSeq a b D f H:=h b rfl
end L2
namespace K
open PySem L2 TX SB HM
noncomputable def top(i:Nat):Stmt:=PySem.Challenge.pw_renamehall_k93_whole_wishes_turned_about.main.body.getD i (.Pass ⟨0,0,0,0⟩)
structure Txt (mg:Str->Option Value):Prop where
 b_all:mg "all" = none
 b_dict:mg "dict" = none
 b_enumerate:mg "enumerate" = none
 b_isinstance:mg "isinstance" = none
 b_len:mg "len" = none
 b_list:mg "list" = none
 b_max:mg "max" = none
 b_min:mg "min" = none
 b_range:mg "range" = none
 b_reversed:mg "reversed" = none
 b_sorted:mg "sorted" = none
 b_str:mg "str" = none
 b_tuple:mg "tuple" = none
 b_zip:mg "zip" = none
structure Calls (P) (w) (K) (mg) (base):Prop where
 draw:Cal P w K mg base "_law_draw" 1 Z7 spDraw
section
variable{P:Aw}{w:World}{K:Al}{mg:Str->Option Value}{base:Heap}
noncomputable abbrev z3u:Stmt:=top 42
def sc_draw:FnScope ["_law_feed", "_law_many", "_law_cell", "_law_number", "_law_found"] Z7 (defScope z3u):=by trivial
def x5x (D : Df K mg "_law_draw" z3u Z7) (T : Txt mg) : Cal P w K mg base "_law_draw" 1 Z7 spDraw := by
  refine D.cal sc_draw (λvs H Q E h => ?_) (λf cdv A outer s H vs Q E hr h => ?_)
  · obtain ⟨a, b, m, rfl, _⟩ := h; rfl
  · obtain ⟨a, b, m, rfl, ⟨⟨i, j, ha⟩, ns, hb⟩, hm0, hm1, k⟩ := h;refine ⟨_, (q0c (q8t (q1l q1v (q1q (ix_k K rfl) (pv 0) q0g (λ_ _ => rfl)) q0g) (z7j (pv 0) q0g q9x)) (q0c (q1b (q0n (eq_k K rfl hr) (q1q (ix_k K rfl) (pv 0) q0g (λ_ _ => rfl)) q0g (nomark _)) (q0c (q0i (i := 2) sc_draw.nd rfl (by first | exact Or.inl rfl | exact Or.inr rfl) (q1q (ix_k K rfl) (pv 0) q0g (λ_ _ => rfl))) (q0c (q1b (q0n x4r (q0k (q3l K rfl) (by rfl) T.b_len Cd (q0a (q1q (ix_k K rfl) (pv 0) q0g (λ_ _ => rfl)) q0e)) q0g (nomark _)) (q0f (q0i (i := 2) sc_draw.nd rfl (by first | exact Or.inl rfl | exact Or.inr rfl) (q1q (ix_k K rfl) (q1q (ix_k K rfl) (pv 0) q0g (λ_ _ => rfl)) (q1l q8u (q1q (ix_k K rfl) (pv 0) q0g (λ_ _ => rfl)) (q0k (q3l K rfl) (by rfl) T.b_len Cd (q0a (q1q (ix_k K rfl) (pv 0) q0g (λ_ _ => rfl)) q0e))) (λ_ _ => rfl)))) q0m) (q0c (q1b (q0n x1i (pv 2) (q1l x3n q0g q0g) (nomark _)) (q0c (q0i (i := 3) sc_draw.nd rfl (by first | exact Or.inl rfl | exact Or.inr rfl) (q1l q8u (q1l z3j (q1l q1v (q1l q1v (q1l q8u (pv 2) q0g) (q1l z3j q0g (q1q (ix_k K rfl) (pv 0) q0g (λ_ _ => rfl)))) q0g) q0g) q0g)) (q0c (q0i (i := 3) sc_draw.nd rfl (by first | exact Or.inl rfl | exact Or.inr rfl) (q1l q8u (q1l z3j (pv 3) (q1l q1v (pv 3) q0g)) q0g)) (q0f (q0o (q1l q8u (q1l z7m (pv 3) q0g) (pv 1)))))) q0m) (q0f (q8t (pv 2) (z7j (pv 0) q0g q9x)))))) q0m) (q0c (q0i (i := 4) sc_draw.nd rfl (by first | exact Or.inl rfl | exact Or.inr rfl) (q1l q8u (q1q (ix_k K rfl) (pv 0) q0g (λ_ _ => rfl)) (pv 1))) (q0c (q8t (q1l z7m (q1q (ix_k K rfl) (pv 0) q0g (λ_ _ => rfl)) (pv 1)) (z7j (pv 0) q0g q9x)) (q0f (q0o (pv 4))))))), ?_⟩;have nba : b ≠ a := FeedAt.ne ⟨⟨i, j, ha⟩, ns, hb⟩;refine ⟨_, rfl, .inl ⟨a, _, 1, _, rfl, rfl, SqL.of ha, rfl, .inl ⟨_, _, rfl, rfl, _, rfl, a, _, 1, 1, rfl, rfl, ha, rfl, ?_⟩⟩⟩;generalize hH1 : upd H a _ = H1;have ha1 : H1 a = some (.lst [.ref b, .int (i + 1), .int j]) := by rw [← hH1]; exact q0b
    have hb1 : H1 b = some (.lst (ns.map V.int)) := by rw [← hH1, q0d nba]; exact hb
    have fd : ∀ (x y : Int), Fd a b H (upd H1 a (.lst [.ref b, .int x, .int y])) := λx y => ⟨⟨⟨x, y, q0b⟩, ns, by rw [q0d nba]; exact hb1⟩, λc o e hc => by rw [q0d hc, ← hH1, q0d hc]; exact e⟩
    have fd1 : Fd a b H H1 := ⟨⟨⟨_, _, ha1⟩, ns, hb1⟩, λc o e hc => by rw [← hH1, q0d hc]; exact e⟩
    refine ⟨_, rfl, .inl ⟨a, _, 2, _, rfl, rfl, SqL.of ha1, rfl, .inl ⟨rfl, _, rfl, ?_⟩⟩⟩;have last : ∀ (H2 : Hp) (x2 x3 x4 : Option V) (y : Int), H2 a = some (.lst [.ref b, .int (i + 1), .int y]) → (∀ x y : Int, Fd a b H (upd H2 a (.lst [.ref b, .int x, .int y]))) →
        tSeq (tAsg (tOp (rI (λ_ j => 0 < j) λi j => .int (i % j)) (tOp (rIx K) (tVar 0) (tC (.int 2))) (tVar 1)) (gName 4)) (tSeq (tAsg (tOp (rI CDiv λi j => .int (i / j)) (tOp (rIx K) (tVar 0) (tC (.int 2))) (tVar 1)) (gSub (tVar 0) (tC (.int 2)) rSetL)) (tRet (tVar 4))) { nx := λ_ H' => Q .non H', rt := Q } [some (.ref a), some (.int m), x2, x3, x4] H2 := by
      intro H2 x2 x3 x4 y h2 f2;refine ⟨_, rfl, .inl ⟨a, _, 2, _, rfl, rfl, SqL.of h2, rfl, _, rfl, _, _, rfl, rfl, hm0, ?_⟩⟩;refine ⟨_, rfl, .inl ⟨a, _, 2, _, rfl, rfl, SqL.of h2, rfl, _, rfl, _, _, rfl, rfl, ⟨hm0, hm1⟩, _, rfl, a, _, 2, 2, rfl, rfl, h2, rfl, _, rfl, ?_⟩⟩;exact k _ _ (Nm _ (by lia)) (Kx _ hm0) (f2 _ _)
    refine ite2 (λ_ => ?_) (λ_ => last H1 _ _ _ j ha1 fd);refine ⟨_, rfl, .inl ⟨a, _, 1, _, rfl, rfl, SqL.of ha1, rfl, ?_⟩⟩;refine ⟨_, rfl, .inl ⟨a, _, 0, _, rfl, rfl, SqL.of ha1, rfl, ⟨_, _, rfl, .inl ⟨_, SqL.of hb1, rfl⟩, ⟨_, _, rfl, rfl, _, rfl, ?_⟩⟩⟩⟩
    have rest : ∀ cell : Int, tSeq (tIfS (tTest (tOp (rI0 λi j => .bl (decide (i < j))) (tVar 2) (tOp (rI CPow λi j => .int (i ^ j.toNat)) (tC (.int 10)) (tC (.int 18)))))
          (tSeq (tAsg (tOp (rI (λ_ j => 0 < j) λi j => .int (i % j)) (tOp rMulU (tOp rAddU (tOp rAddU (tOp (rI (λ_ j => 0 < j) λi j => .int (i % j)) (tVar 2) (tC (.int 2147483647))) (tOp rMulU (tC (.int 613)) (tOp (rIx K) (tVar 0) (tC (.int 1))))) (tC (.int 7))) (tC (.int 48271))) (tC (.int 2147483647))) (gName 3))
            (tSeq (tAsg (tOp (rI (λ_ j => 0 < j) λi j => .int (i % j)) (tOp rMulU (tVar 3) (tOp rAddU (tVar 3) (tC (.int 69621)))) (tC (.int 2147483629))) (gName 3))
              (tRet (tOp (rI (λ_ j => 0 < j) λi j => .int (i % j)) (tOp (rI CDiv λi j => .int (i / j)) (tVar 3) (tC (.int 64))) (tVar 1))))) tNext)
          (tAsg (tVar 2) (gSub (tVar 0) (tC (.int 2)) rSetL))
        { nx := λσ2 H2 => tSeq (tAsg (tOp (rI (λ_ j => 0 < j) λi j => .int (i % j)) (tOp (rIx K) (tVar 0) (tC (.int 2))) (tVar 1)) (gName 4)) (tSeq (tAsg (tOp (rI CDiv λi j => .int (i / j)) (tOp (rIx K) (tVar 0) (tC (.int 2))) (tVar 1)) (gSub (tVar 0) (tC (.int 2)) rSetL)) (tRet (tVar 4))) { nx := λ_ H' => Q .non H', rt := Q } σ2 H2, rt := Q }
        [some (.ref a), some (.int m), some (.int cell), none, none] H1 := by
      intro cell;refine ⟨_, rfl, _, _, rfl, rfl, ⟨by decide, by decide, by decide⟩, _, _, rfl, rfl, _, rfl, ?_⟩;refine ite2 (λ_ => ?_) (λ_ => ?_)
      · refine ⟨_, rfl, _, _, rfl, rfl, (by show (0 : Int) < 2147483647; decide), ?_⟩;refine ⟨_, rfl, .inl ⟨a, _, 1, _, rfl, rfl, SqL.of ha1, rfl, .inl ⟨_, _, rfl, rfl, .inl ⟨by decide, by decide⟩, .inl ⟨_, _, rfl, rfl, .inl ⟨_, _, rfl, rfl, .inl ⟨_, _, rfl, rfl, .inr ⟨by decide, by decide⟩, _, _, rfl, rfl, (by show (0 : Int) < 2147483647; decide), ?_⟩⟩⟩⟩⟩⟩;generalize hn : ((cell % 2147483647 + 613 * (i + 1) + 7) * 48271) % 2147483647 = n;have n0 : 0 ≤ n := by rw [← hn]; exact Nm _ (by decide)
        have n1 : n < 2147483647 := by rw [← hn]; exact Kx _ (by decide)
        refine ⟨_, rfl, _, rfl, .inl ⟨_, _, rfl, rfl, .inl ⟨_, _, rfl, rfl, .inl ⟨by lia, by lia⟩, _, _, rfl, rfl, (by show (0 : Int) < 2147483629; decide), ?_⟩⟩⟩;refine ⟨_, rfl, _, _, rfl, rfl, ⟨by decide, by decide⟩, _, rfl, _, _, rfl, rfl, hm0, ?_⟩;exact k _ _ (Nm _ (by lia)) (Kx _ hm0) fd1
      · refine ⟨_, rfl, _, rfl, a, _, 2, 2, rfl, rfl, ha1, rfl, ?_⟩;refine last _ _ _ _ cell q0b (λx y => ?_);have := fd x y;rw [x4n];exact this
    refine ite2 (λhl => ?_) (λ_ => rest _);have hne : ns.map V.int ≠ [] := by
      intro z;rw [z] at hl;simp at hl
    obtain ⟨x, hx, ex⟩ := x5c (i + 1) hne;obtain ⟨c, rfl⟩ : ∃ c, x = V.int c := by
      obtain ⟨c, _, e⟩ := Ac.mp hx;exact ⟨c, e.symm⟩
    refine ⟨_, rfl, .inl ⟨a, _, 0, _, rfl, rfl, SqL.of ha1, rfl, ⟨_, rfl, .inl ⟨a, _, 1, _, rfl, rfl, SqL.of ha1, rfl, ⟨_, rfl, .inl ⟨a, _, 0, _, rfl, rfl, SqL.of ha1, rfl, ⟨_, _, rfl, .inl ⟨_, SqL.of hb1, rfl⟩, _, _, rfl, rfl, ?_, ?_⟩⟩⟩⟩⟩⟩⟩
    · have : 0 < (ns.map V.int).length := by
        cases e : ns.map V.int with
        | nil => exact absurd e hne
        | cons _ _ => simp
      show (0 : Int) < ((ns.map V.int).length : Int);lia
    · exact .inl ⟨b, _, _, _, rfl, rfl, SqL.of hb1, ex, rest c⟩
noncomputable abbrev z3v:Stmt:=top 45
def x5y:FnScope Zc Zc (defScope z3v):=by trivial
def x5z(D:Df K mg "_law_text" z3v Zc)(T:Txt mg)(draw:Cal P w K mg base "_law_draw" 1 Z7 spDraw):Cal P w K mg base "_law_text" 2 Zc spText:=by
 refine D.cal x5y (λvs H Q E h=>?_) (λf O A outer s H vs Q E R h=>?_)
 ·obtain⟨a,b,g,n,rfl,_⟩:=h;rfl
 ·obtain⟨a,b,g,n,rfl,F,S,U,W,X,k⟩:=h;have C:Calls P w K mg base:=⟨draw⟩
  refine⟨_,(q0f (q0o (@bm_k _ _ _ _ _ _ _ _ _ _ _ _ K rfl Fe So Sq (x3t K rfl) q6r (q0a (q1x ["_law_k"] [("_law_signs",1),("_law_feed",0)] rfl (q4j rfl T.b_range (q0a (pv 2) q0e)) (λ_ _ _ _ _=>(q0h (i:=0) (show(["_law_k", "_law_signs", "_law_feed"]:List Str).Nodup by trivial) rfl (by trivial))) (λ_ _ _ _ _=>q2m) (λ_ _ _ _ _=>(q1q (ix_k K rfl) (pv 1) (pe_c C.draw R (q0a (pv 2) (q0a (q0k (q3l K rfl) (by rfl) T.b_len Cd (q0a (pv 1) q0e)) q0e))) (λ_ _=>rfl)))) q0e) (by rfl) (by rfl) (by rfl) (by rfl) (by rfl)))),?_⟩;refine⟨rfl,_,rfl,n,rfl,by lia,by lia,λD G=>?_⟩;refine z3k (n:=n.toNat) (λi v u=>∃j:List Nat,v=j.map (λc=>V.str ⟨#[c]⟩)/\j.length=i/\i<=n.toNat/\(∀c∈j,c∈tl g)/\Fd a b H u/\u D=some (.lst v)) ⟨[],rfl,rfl,Bv _,λ_ h=>(nomatch h),(Fd.refl F).new G,q0b⟩ (λi v u ⟨j,_,_,_,_,_,h⟩=>h) ?_ ?_
  ·rintro i v u hi ⟨j,rfl,hl,_,I,fd,q⟩;refine⟨_,rfl,_,rfl,_,rfl,_,_,rfl,⟨small (by lia),rfl⟩,a,b,_,rfl,fd.feed,by lia,by lia,λr H2 Y r1 B=>?_⟩;have Z:(tl g).length=g.length:=(len g).symm;obtain⟨c,J,L⟩:=q8y (xs:=tl g) Y (by lia);refine .inr (.inr ⟨g,r,c,rfl,rfl,small (by lia),L,?_⟩);have M:D≠a:=λz=>by subst z;exact F.na G rfl
   refine⟨B.at q M,small' (by rw[Aa];lia),j++[c],by rw[Ae];rfl,by rw[An,hl];rfl,by lia,λd hd=>?_,(fd.trans B).put F G,q0b⟩;rcases Ao.mp hd with z|z
   ·exact I d z
   ·rw[Ak.mp z];exact Af J
  ·rintro v u ⟨j,rfl,hl,_,I,fd,q⟩;have e:j.map (λc=>V.str ⟨#[c]⟩)=(j.map λc=>(⟨#[c]⟩:Str)).map V.str:=by rw[Ah];rfl
   refine⟨_,D,j.map λc=>⟨#[c]⟩,rfl,rfl,.inl (SqL.of (by rw[<- e];exact q)),?_,?_⟩
   ·rw[z4u,Aa];have:(Ar "").length=0:=by trivial
    rw[this];lia
   ·have z:=z1p j;rw[z];exact k j u hl I fd
def q0y(p):(vP p).length=p.length:=Aa _
def q0w{q:Pth}(h:q≠[]):cutV (vP q) none (some (-1))=vP q.dropLast/\¬(HT.sIx (vP q).length 0 none=0/\HT.sIx (vP q).length (vP q).length (some (-1))=(vP q).length):=by
 have hl:=Bi.mpr h;have e:HT.sIx (vP q).length (vP q).length (some (-1))=q.length-1:=by
  show(if (-1:Int)<0 then((-1:Int)+((vP q).length:Int)).toNat else min (-1:Int).toNat (vP q).length)=_;rw[if_pos (by decide),q0y];lia
 refine⟨?_,λz=>by rw[e,q0y] at z;lia⟩;unfold cutV;rw[e];show((vP q).drop 0).take _=_;rw[Lm];show(vP q).take (q.length-1-0)=_;rw[La,<- Ml,<- Na]
def q3i{q:Pth}(h:q≠[]):atI (vP q) (-1)=some (.str (mk (q.getLastD []))):=by
 have hl:=Bi.mpr h;unfold atI ixN;rw[if_neg (by decide),if_pos (by rw[q0y];lia)];have e:((-1:Int)+((vP q).length:Int)).toNat=q.length-1:=by rw[q0y];lia
 show(vP q)[((-1:Int)+((vP q).length:Int)).toNat]?=_;rw[e,Am,<- Cw,Cv,Be h];rfl
def q2n(h:okP q):okN (q.getLastD []):=by
 rw[Cv,Be h.ne];exact h.all _ (List.getLast_mem h.ne)
def z5i(h:∀c∈n,c<128):Jg (mk n)=mk (lowN n):=by
 apply ext;rw[TX.lower (by rw[q3w];exact h),q3w,q3w];rfl
noncomputable abbrev q3z:Stmt:=top 43
def z0j:FnScope [] [] (defScope q3z):=by trivial
def z0k(D:Df K mg "_law_name_signs" q3z []):Cal P w K mg base "_law_name_signs" 1 [] (spConst HM.NSs):=by
 refine D.cal z0j (λvs H Q E h=>?_) (λf j A outer s H vs Q E q h=>?_)
 ·obtain⟨rfl,_⟩:=h;rfl
 ·obtain⟨rfl,k⟩:=h;refine⟨_,(q0f (q0o q6r)),?_⟩;exact k
structure CallsAN (P) (w) (K) (mg) (base):Prop where
 draw:Cal P w K mg base "_law_draw" 1 Z7 spDraw
 text:Cal P w K mg base "_law_text" 2 Zc spText
 name_signs:Cal P w K mg base "_law_name_signs" 1 [] (spConst HM.NSs)
noncomputable def spName:Sp:=λvs H Q _=>∃a b,vs=[.ref a]/\FeedAt H a b/\∀ t  H',okN t->Fd a b H H'->Q (.str (mk t)) H'
def fig_in:∀c∈tl (Ar "0123456789"),c∈HM.NS:=by trivial
noncomputable abbrev q8f:Stmt:=top 46
def sc_a_name:FnScope ["_law_feed", "_law_way"] Yb (defScope q8f):=by trivial
def z9v(D:Df K mg "_law_a_name" q8f Yb)(T:Txt mg)(C:CallsAN P w K mg base):Cal P w K mg base "_law_a_name" 3 Yb spName:=by
 refine D.cal sc_a_name (λvs H Q E h=>?_) (λf a0 A outer s H vs Q E v h=>?_)
 ·obtain⟨a,b,rfl,_⟩:=h;rfl
 ·obtain⟨a,b,rfl,F,k⟩:=h;refine⟨_,(q0c (q0i (i:=1) sc_a_name.nd rfl (by trivial) (pe_c C.draw v (q0a (pv 0) (q0a q0g q0e)))) (q0c (q1b (q0n (eq_k K rfl v) (pv 1) q0g (nomark _)) (q0f (q0o (pe_c C.text v (q0a (pv 0) (q0a (pe_c0 C.name_signs v) (q0a (q1l q1v q0g (pe_c C.draw v (q0a (pv 0) (q0a q0g q0e)))) q0e)))))) q0m) (q0c (q1b (q0n (eq_k K rfl v) (pv 1) q0g (nomark _)) (q0f (q0o (q1l q1v (q1q (ix_k K rfl) (q2f (q0a q6r (q0a q6r (q0a q6r q0e)))) (pe_c C.draw v (q0a (pv 0) (q0a q0g q0e))) (λ_ _=>rfl)) (pe_c C.text v (q0a (pv 0) (q0a q6r (q0a (q1l q1v q0g (pe_c C.draw v (q0a (pv 0) (q0a q0g q0e)))) q0e))))))) q0m) (q0f (q0o (pe_c C.text v (q0a (pv 0) (q0a (q0p (sl_k K rfl) q6r q0r (q0s (q1l q1v q0g (pe_c C.draw v (q0a (pv 0) (q0a q0g q0e)))))) (q0a (q1l q1v q0g (pe_c C.draw v (q0a (pv 0) (q0a q0g q0e)))) q0e))))))))),?_⟩;refine⟨_,rfl,a,b,_,rfl,F,by decide,by decide,λr1 H1 a1 a2 j=>?_⟩;have Z:∀{g:Str} {n:Int} {I:Hp},Fd a b H I->(∀c∈tl g,c∈HM.NS)->1<=n->n<=12->∀(t:List Nat) H',t.length=n.toNat->(∀c∈t,c∈tl g)->Fd a b I H'->Q (.str (mk t)) H':=λ{g n I} fd hg n1 n2 t H' l R fd'=>k t H' ⟨by lia,by lia,λc h=>hg c (R c h)⟩ (fd.trans fd')
  refine⟨_,rfl,.inl ⟨rfl,_,rfl,ite2 (λh=>?_) (λh=>?_)⟩⟩
  ·refine⟨_,rfl,rfl,_,rfl,a,b,_,rfl,j.feed,by decide,by decide,λu I J L q=>.inl ⟨_,_,rfl,rfl,?_⟩⟩;exact⟨a,b,HM.NSs,_,rfl,(j.trans q).feed,by trivial,by trivial,by lia,by lia,Z (j.trans q) (λc h=>h) (by lia) (by lia)⟩
  refine⟨_,rfl,.inl ⟨rfl,_,rfl,ite2 (λh=>?_) (λh=>?_)⟩⟩
  ·refine⟨by show 3<=sizeLine;decide,λM hM=>?_⟩;have O:=j.new (o:=.lst [.str (Ar "img"),.str (Ar "IMG"),.str (Ar "a")]) hM;have S:M≠a:=(j.feed.na hM).symm;refine⟨_,rfl,a,b,_,rfl,O.feed,by decide,by decide,λu I J L q=>?_⟩;have G:∃g:List Nat,atI [V.str (Ar "img"),V.str (Ar "IMG"),V.str (Ar "a")] u=some (.str (mk g))/\g.length<=3/\∀c∈g,c∈HM.NS:=by
    have e:u=0\/u=1\/u=2:=by lia
    rcases e with rfl|rfl|rfl
    ·exact⟨tl (Ar "img"),by rw[z8g];rfl,by trivial,by trivial⟩
    ·exact⟨tl (Ar "IMG"),by rw[z8g];rfl,by trivial,by trivial⟩
    ·exact⟨tl (Ar "a"),by rw[z8g];rfl,by trivial,by trivial⟩
   obtain⟨g,G,a3,U⟩:=G;refine .inl ⟨M,_,u,_,rfl,rfl,SqL.of (q.at q0b S),G,?_⟩;have fd2':=O.trans q;refine⟨_,rfl,_,rfl,a,b,_,rfl,fd2'.feed,by decide,by decide,λr3 H3 W X B=>.inl ⟨_,_,rfl,rfl,?_⟩⟩;have fd3':=fd2'.trans B;refine⟨a,b,Ar "0123456789",_,rfl,fd3'.feed,by trivial,by trivial,by lia,by lia,λt H4 l R Y=>.inr (.inl ⟨_,_,rfl,rfl,?_,?_⟩)⟩
   ·rw[z1w,z1w];exact small (by lia)
   ·have e:mk g++mk t=mk (g++t):=by rw[<- z8g (mk g++mk t),z8h,q3w,q3w]
    rw[e];refine k (g++t) H4 ⟨by rw[An];lia,by rw[An];lia,λc h=>?_⟩ (fd3'.trans Y);rcases Ao.mp h with h|h
    ·exact U c h
    ·exact fig_in c (R c h)
  ·refine⟨_,rfl,_,rfl,a,b,_,rfl,j.feed,by decide,by decide,λu I J L q=>.inl ⟨_,_,rfl,rfl,?_⟩⟩;have fd2':=j.trans q;have hs:0<(Qz (Ar "aAbB-") none (some (2+u))).length/\(Qz (Ar "aAbB-") none (some (2+u))).length<=1000/\∀c∈tl (Qz (Ar "aAbB-") none (some (2+u))),c∈HM.NS:=by
    have e:u=0\/u=1\/u=2\/u=3:=by lia
    rcases e with rfl|rfl|rfl|rfl<;>decide +kernel
   refine⟨_,rfl,.inl ⟨_,rfl,by trivial,_,rfl,a,b,_,rfl,fd2'.feed,by decide,by decide,λr3 H3 W X B=>.inl ⟨_,_,rfl,rfl,?_⟩⟩⟩;exact⟨a,b,_,_,rfl,(fd2'.trans B).feed,hs.1,hs.2.1,by lia,by lia,Z (fd2'.trans B) hs.2.2 (by lia) (by lia)⟩
noncomputable def spFold:Sp:=λvs H Q _=>∃(t:List Nat) (bl:Bool),vs=[.str (mk t),.bl bl]/\okN t/\Q (.str (mk (if bl then lowN t else t))) H
noncomputable abbrev z3w:Stmt:=top 47
def x6a:FnScope Zd Zd (defScope z3w):=by trivial
def x6b(D:Df K mg "_law_fold" z3w Zd)(T:Txt mg):Cal P w K mg base "_law_fold" 1 Zd spFold:=by
 refine D.cal x6a (λvs H Q E h=>?_) (λf q A outer s H vs Q E C h=>?_)
 ·obtain⟨t,bl,rfl,_⟩:=h;rfl
 ·obtain⟨t,bl,rfl,ok,k⟩:=h;refine⟨_,(q0f (q0o (pe_j (x1g (@q7u _ _ _ K rfl (pv 1) (λ_=>rfl)) (@z1o _ _ _ _ _ _ _ _ _ K rfl Fe Jk Jl q6z (pv 0) (by rfl) (by rfl)) (pv 0))))),?_⟩;refine⟨λv j=>v=.str (mk (if bl then lowN t else t))/\j=H,λv j ⟨u,B⟩=>by rw[u,B];exact k,?_⟩;refine⟨_,rfl,bl,rfl,?_⟩;cases bl with
  |true =>
   refine iteT ⟨_,rfl,rfl,_,rfl,rfl,small (by rw[z1w];have:=ok.few;lia),?_,rfl⟩;exact congrArg V.str (z5i ok.low)
  |false=>exact iteF ⟨_,rfl,rfl,rfl⟩
end
end K
namespace K
open PySem L2 TX SB HM
section
variable{P:Aw}{w:World}{K:Al}{mg:Str->Option Value}{base:Heap}
theorem q9p:∀{p q},kP p=kP q->p=q
 |[],[],_=>rfl
 |[],_::_,h=>by cases h
 |_::_,[],h=>by cases h
 |a::p,b::q,h=>by
  unfold kP at h;rw[Ay,Ay] at h;injection h with h1 h2;injection h1 with h1;rw[SB.mk_inj h1,q9p h2]
def q8g{rs:List HRow}(h:∀r∈rs,r.1≠p):valV (rs.map λr=>(kP r.1,r.2)) (kP p)=none:=by
 induction rs with
 |nil=>rfl
 |cons r rs ih =>
  rw[Ay,q1u (λz=>h r Au (q9p z))];exact ih λx f=>h x (Ap _ f)
def q4p{rs:List HRow}(f:r∈rs)(nd:(rs.map (·.1)).Nodup):valV (rs.map λr=>(kP r.1,r.2)) (kP r.1)=some r.2:=by
 induction rs with
 |nil=>cases f
 |cons x rs ih =>
  rw[Ay,Bu] at nd;rcases Bb.mp f with rfl|f
  ·exact q1y rfl
  ·rw[Ay,q1u (λz=>nd.1 (by rw[q9p z];exact Ac.mpr ⟨r,f,rfl⟩))];exact ih f nd.2
def q2d{rs:List HRow}(h:∀r∈rs,r.1≠p):putK (rs.map λr=>(kP r.1,r.2)) (kP p) v=(rs++[(p,v)]).map λr=>(kP r.1,r.2):=by
 rw[x2a v (q8g h),Ae];rfl
noncomputable def keyO(bl:Bool)(p:Pth):PKey:=(kP p.dropLast,.inr (mk (if bl then lowN (p.getLastD []) else p.getLastD [])))
def z0l{p q:Pth}(hp:p≠[])(f:q≠[])(h:fold bl p=fold bl q):keyO bl p=keyO bl q:=by
 obtain⟨j,u⟩:=(q2i hp f).mp h;unfold keyO;cases bl with
 |true=>simp_all
 |false=>simp_all
def q7d(h:hasP ks k=true):hasP (ks++[(k',b)]) k=true:=by
 unfold hasP at *;rw[Wo,h,Bool.true_or]
def z0m:hasP (ks++[(k,b)]) k=true:=by
 unfold hasP;simp
structure RwI (P) (w) (H) (a b L Dr d) (bl) (i) (H') (zs) (ds:List (Addr×Pth)) (ks):Prop where
 fd:Fd a b H H'
 rl:RL H' L zs
 hl:Hl bl (zs.map (·.2))
 len:zs.length<=i
 da:H' Dr=some (.lst (ds.map λz=>V.ref z.1))
 dt:∀z∈ds,H' z.1=some (.tup (vP z.2))/\(z.2=[]\/((z.2,none)∈zs.map (·.2)))
 dn:ds≠[]
 dl:ds.length<=i+1
 hd:DPr P w H' d ks
 kl:ks.length<=i
 hk:∀z∈zs,hasP ks (keyO bl z.2.1)=true
def DPr.fd(x:DPr P w H d ks)(F:FeedAt H a b)(fd:Fd a b H H')(hd:d≠a):DPr P w H' d ks :=
 ⟨fd.at x.at_ hd,x.sys,x.len,λy f=>by obtain⟨c,h,j⟩:=x.pk y f;exact⟨c,tupFd F fd _ _ h,tupFd F fd _ _ j⟩⟩
section
variable{H:Hp}{a b L Dr d:Addr}{bl:Bool}{i:Nat}{H' H2:Hp}{zs:List Zr}{ds:List (Addr×Pth)}{ks:List (PKey×Addr)}
def RwI.go(x:RwI P w H a b L Dr d bl i H' zs ds ks)(fd:Fd a b H' H2)(h:L≠a)(j:Dr≠a)(hd:d≠a):RwI P w H a b L Dr d bl i H2 zs ds ks :=
 ⟨x.fd.trans fd,x.rl.fd x.fd.feed fd h,x.hl,x.len,fd.at x.da j,λz f=>⟨tupFd x.fd.feed fd _ _ (x.dt z f).1,(x.dt z f).2⟩,x.dn,x.dl,DPr.fd x.hd x.fd.feed fd hd,x.kl,x.hk⟩
def RwI.sm(x:RwI P w H a b L Dr d bl i H' zs ds ks)(s:Same H' H2):RwI P w H a b L Dr d bl i H2 zs ds ks :=
 ⟨x.fd.same s,x.rl.same s,x.hl,x.len,s _ _ x.da,λz f=>⟨s _ _ (x.dt z f).1,(x.dt z f).2⟩,x.dn,x.dl,x.hd.same s,x.kl,x.hk⟩
def RwI.dput(x:RwI P w H a b L Dr d bl i H' zs ds ks)(F:FeedAt H a b)(hd:H d=none)(pk:PrK H' k e)(l:ks.length<sizeLine)(h:L≠d)(j:Dr≠d):RwI P w H a b L Dr d bl (i+1) (upd H' d (PdO P w d (ks++[(k,e)]))) zs ds (ks++[(k,e)]):=by
 have tk:∀S q,H' S=some (.tup q)->upd H' d (PdO P w d (ks++[(k,e)])) S=some (.tup q):=λS q e=>by rw[q0d (q0q e x.hd.at_)];exact e
 exact⟨x.fd.put F hd,⟨by rw[q0d h];exact x.rl.at_,λz f=>PR.same (x.rl.pr z f) tk⟩,x.hl,Fg x.len,by rw[q0d j];exact x.da,λz f=>⟨tk _ _ (x.dt z f).1,(x.dt z f).2⟩,x.dn,Fg x.dl,x.hd.put pk l,by rw[An];exact Iq x.kl,λz f=>q7d (x.hk z f)⟩
def RwI.rput(x:RwI P w H a b L Dr d bl (i+1) H' zs ds ks)(F:FeedAt H a b)(G:H L=none)(u:L≠d)(v:Dr≠L)(f:zs.length<=i)(I:H' T=some (.tup [.ref p,mV m]))(hp:H' p=some (.tup (vP q)))(ok:okP q)(j:∀z∈zs,fold bl z.2.1≠fold bl q)(J:q.dropLast=[]\/(q.dropLast,none)∈zs.map (·.2))(hk:hasP ks (keyO bl q)=true):RwI P w H a b L Dr d bl (i+1) (upd H' L (.lst (zs.map (λz=>V.ref z.1)++[.ref T]))) (zs++[(T,(q,m))]) ds ks:=by
 have tk:∀S B,H' S=some (.tup B)->upd H' L (.lst (zs.map (λz=>V.ref z.1)++[.ref T])) S=some (.tup B):=λS B e=>by rw[q0d (q0q e x.rl.at_)];exact e
 have E:(zs++[(T,(q,m))]).map (·.2)=zs.map (·.2)++[(q,m)]:=by simp_all
 refine⟨x.fd.put F G,⟨by rw[q0b,Ae];rfl,λz f=>?_⟩,?_,by rw[An];exact Iq f,by rw[q0d v];exact x.da,λz f=>⟨tk _ _ (x.dt z f).1,(x.dt z f).2.imp id λy=>by rw[E];exact Cp _ y⟩,x.dn,x.dl,⟨by rw[q0d u.symm];exact x.hd.at_,x.hd.sys,x.hd.len,λy C=>by obtain⟨c,M,O⟩:=x.hd.pk y C;exact⟨c,tk _ _ M,tk _ _ O⟩⟩,x.kl,λz f=>?_⟩
 ·rcases Ao.mp f with f|f
  ·exact PR.same (x.rl.pr z f) tk
  ·rw[Ak.mp f];exact⟨p,tk _ _ I,tk _ _ hp⟩
 ·rw[E];refine⟨λr h=>?_,?_,λr h=>?_⟩
  ·rcases Ao.mp h with h|h
   ·exact x.hl.ok r h
   ·simp_all
  ·rw[Ae];refine Dv.mpr ⟨x.hl.nd,(Qt _ _),λy C Q D=>?_⟩;rw[Ak.mp D];obtain⟨r,h,rfl⟩:=Ac.mp C;obtain⟨z,f,rfl⟩:=Ac.mp h;exact j z f
  ·rcases Ao.mp h with h|h
   ·exact(x.hl.dr r h).imp id λz=>Cp _ z
   ·rw[Ak.mp h];exact J.imp id λz=>Cp _ z
 ·rcases Ao.mp f with f|f
  ·exact x.hk z f
  ·grind
def RwI.draw(x:RwI P w H a b L Dr d bl (i+1) H' zs ds ks)(F:FeedAt H a b)(v:H Dr=none)(h:Dr≠L)(j:Dr≠d)(hl:ds.length<=i+1)(hp:H' p=some (.tup (vP q)))(E:(q,none)∈zs.map (·.2)):RwI P w H a b L Dr d bl (i+1) (upd H' Dr (.lst (ds.map (λz=>V.ref z.1)++[.ref p]))) zs (ds++[(p,q)]) ks:=by
 have tk:∀S u,H' S=some (.tup u)->upd H' Dr (.lst (ds.map (λz=>V.ref z.1)++[.ref p])) S=some (.tup u):=λS u e=>by rw[q0d (q0q e x.da)];exact e
 refine⟨x.fd.put F v,⟨by rw[q0d h.symm];exact x.rl.at_,λz f=>PR.same (x.rl.pr z f) tk⟩,x.hl,x.len,by rw[q0b,Ae];rfl,λz f=>?_,by simp,by rw[An];exact Iq hl,⟨by rw[q0d j.symm];exact x.hd.at_,x.hd.sys,x.hd.len,λy B=>by obtain⟨c,C,D⟩:=x.hd.pk y B;exact⟨c,tk _ _ C,tk _ _ D⟩⟩,x.kl,x.hk⟩;rcases Ao.mp f with f|f
 ·exact⟨tk _ _ (x.dt z f).1,(x.dt z f).2⟩
 ·simp_all
end
structure CallsN (P) (w) (K) (mg) (base):Prop where
 draw:Cal P w K mg base "_law_draw" 1 Z7 spDraw
 a_name:Cal P w K mg base "_law_a_name" 3 Yb spName
 fold:Cal P w K mg base "_law_fold" 1 Zd spFold
noncomputable def spRows:Sp:=λvs H Q _=>∃a b bl m,vs=[.ref a,.bl bl,.int m]/\FeedAt H a b/\0<=m/\m<=60/\∀L zs H',Fd a b H H'->H L=none->RL H' L zs->Hl bl (zs.map (·.2))->zs.length<=m.toNat->Q (.ref L) H'
noncomputable abbrev z3x:Stmt:=top 48
def sc_rows:FnScope ["_law_feed", "_law_blind", "_law_most", "_law_rows_here", "_law_drawers", "_law_there", "_law_k", "_law_drawer", "_law_name", "_law_mark"] Zg (defScope z3x):=by trivial
def x6c(D:Df K mg "_law_rows" z3x Zg)(T:Txt mg)(C:CallsN P w K mg base):Cal P w K mg base "_law_rows" 4 Zg spRows:=by
 refine D.cal sc_rows (λvs H Q E h=>?_) (λf e9 A outer s H vs Q E U h=>?_)
 ·obtain⟨a,b,bl,m,rfl,_⟩:=h;rfl
 ·obtain⟨a,b,bl,m,rfl,F,f0,f1,k⟩:=h;refine⟨_,(q0c (q0i (i:=3) sc_rows.nd rfl (by trivial) (q2f q0e)) (q0c (q0i (i:=4) sc_rows.nd rfl (by trivial) (q2f (q0a (q1j q0e) q0e))) (q0c (q0i (i:=5) sc_rows.nd rfl (by trivial) (z5h P w rfl rfl)) (q0c (q1k Br rfl (q4j rfl T.b_range (q0a (pe_c C.draw U (q0a (pv 0) (q0a (q1l q1v (pv 2) q0g) q0e))) q0e)) (q0h (i:=6) sc_rows.nd rfl (by trivial)) (q0c (q0i (i:=7) sc_rows.nd rfl (by trivial) (q1q (ix_k K rfl) (pv 4) (pe_c C.draw U (q0a (pv 0) (q0a (q0k (q3l K rfl) (by rfl) T.b_len Cd (q0a (pv 4) q0e)) q0e))) (λ_ _=>rfl))) (q0c (q0i (i:=8) sc_rows.nd rfl (by trivial) (pe_c C.a_name U (q0a (pv 0) q0e))) (q0c (q0i (i:=9) sc_rows.nd rfl (by trivial) (q1q (ix_k K rfl) (q2f (q0a q6q (q0a q0g (q0a (pe_c C.draw U (q0a (pv 0) (q0a q0g q0e))) (q0a (pe_c C.draw U (q0a (pv 0) (q0a (q1l q1v (q1l x3n q0g q0g) q0g) q0e))) q0e))))) (pe_c C.draw U (q0a (pv 0) (q0a q0g q0e))) (λ_ _=>rfl))) (q0f (q1b (pt_j (@PW.pt _ _ _ (q2z (q0n x1i (q0k (q3l K rfl) (by rfl) T.b_len Cd (q0a (pv 7) q0e)) q0g (nomark _)) (q2a (q1z (z2k P w rfl rfl (z2l U) (q1j (q0a (pv 7) (q0a (pe_c C.fold U (q0a (pv 8) (q0a (pv 1) q0e))) q0e))) (pv 5))))))) (q0c (z3r P w rfl rfl (z2l U) (pv 5) (q1j (q0a (pv 7) (q0a (pe_c C.fold U (q0a (pv 8) (q0a (pv 1) q0e))) q0e))) q4i rfl) (q0c (q1t (@bm_k _ _ _ _ _ _ _ _ _ _ _ _ K rfl Dx Eo Ep q2r (pv 3) (q0a (q1j (q0a (q1l q3h (pv 7) (q1j (q0a (pv 8) q0e))) (q0a (pv 9) q0e))) q0e) (by rfl) (by rfl) (by rfl) (by rfl) (by rfl))) (q0f (q1b (q1z (q5m (pv 9))) (q0f (q1t (@bm_k _ _ _ _ _ _ _ _ _ _ _ _ K rfl Dx Eo Ep q2r (pv 4) (q0a (q1l q3h (pv 7) (q1j (q0a (pv 8) q0e))) q0e) (by rfl) (by rfl) (by rfl) (by rfl) (by rfl)))) q0m)))) q0m)))))) (q0f (q0o (pv 3))))))),?_⟩;refine⟨by show 0<=sizeLine;decide,λL hL=>⟨by show 0<=sizeLine;decide,λp0 a9=>⟨by show 1<=sizeLine;decide,λO R=>?_⟩⟩⟩;refine λd hd b0=>?_
  have u:L≠a:=(q0j F.fa.choose_spec.choose_spec hL).symm;have s1:=(Same.refl H).new (o:=.lst []) hL;have s2:=s1.new (o:=.tup []) a9;have s3:=s2.new (o:=.lst [.ref p0]) R;have s4:=s3.new (o:=PdO P w d []) hd;have a1:H O=none:=s2.free R;have b1:H d=none:=s3.free hd;have B:O≠a:=(q0j F.fa.choose_spec.choose_spec a1).symm;have G:d≠a:=(q0j F.fa.choose_spec.choose_spec b1).symm;have a3:p0≠L:=q0q a9 q0b;have q:O≠L:=(λz=>by rw[z,q0d a3.symm,q0b] at R;cases R)
  have a2:O≠p0:=q0q R q0b;have a4:d≠L:=(λz=>by rw[z,q0d q.symm,q0d a3.symm,q0b] at hd;cases hd)
  have a5:d≠O:=q0q hd q0b;have c7:d≠p0:=(λz=>by rw[z,q0d a2.symm,q0b] at hd;cases hd)
  have I0:RwI P w H a b L O d bl 0 (upd (upd (upd (upd H L (.lst [])) p0 (.tup [])) O (.lst [.ref p0])) d (PdO P w d [])) [] [(p0,[])] []:=by
   refine⟨(Fd.refl F).same s4,⟨?_,(λ_ h=>nomatch h)⟩,Hl.nil bl,Aq _,?_,λz hz=>?_,by simp,Aq _,⟨q0b,b0,Bv _,(λ_ h=>nomatch h)⟩,Aq _,(λ_ h=>nomatch h)⟩
   ·rw[q0d a4.symm,q0d q.symm,q0d a3.symm];exact q0b
   ·rw[q0d a5.symm];exact q0b
   ·rw[Ak.mp hz];exact⟨by rw[q0d c7.symm,q0d a2.symm];exact q0b,.inl rfl⟩
  refine⟨_,rfl,_,rfl,.inl ⟨_,_,rfl,rfl,a,b,_,rfl,I0.fd.feed,by lia,by lia,λr0 H1 f2 f3 c8=>?_⟩⟩;have I1:=I0.go c8 u B G;refine⟨r0,rfl,by lia,by lia,q5n (n:=r0.toNat) (λi a6 H'=>∃X Y S x6 x7 x8 x9,a6=[some (.ref a),some (.bl bl),some (.int m),some (.ref L),some (.ref O),some (.ref d),x6,x7,x8,x9]/\RwI P w H a b L O d bl i H' X Y S/\i<=r0.toNat) ⟨[],_,_,none,none,none,none,rfl,I1,Bv _⟩ ?_ ?_⟩
  ·rintro i a6 H' hi ⟨X,Y,S,x6,x7,x8,x9,rfl,W,_⟩;have c9:=W.dl;have f4:0<Y.length:=Bi.mpr W.dn;refine gE λD2 X2 b2 d0=>?_;refine⟨_,rfl,_,rfl,_,rfl,_,_,rfl,.inl ⟨_,SqL.of W.da,rfl⟩,a,b,_,rfl,W.fd.feed,by rw[Aa];lia,by rw[Aa];lia,λr1 H2 d1 b3 b4=>?_⟩;have I3:=W.go b4 u B G;rw[Aa] at b3;obtain⟨v,I,b5⟩:=q8y (xs:=Y.map λz=>V.ref z.1) d1 (by rw[Aa];exact b3);obtain⟨z,hz,rfl⟩:∃z∈Y,v=V.ref z.1:=by
    rw[Am] at I;cases e:Y[r1.toNat]? with
    |none=>rw[e] at I;cases I
    |some z=>rw[e] at I;cases I;exact⟨z,Af e,rfl⟩
   refine .inl ⟨O,_,r1,_,rfl,rfl,SqL.of I3.da,b5,?_⟩;show X2 _ _ _;refine gY d0 λX3 d2=>?_;refine⟨_,rfl,a,b,rfl,I3.fd.feed,λt H3 a7 b6=>?_⟩;have I4:=I3.go b6 u B G;show X3 _ _ _;refine gY d2 λX4 d3=>?_;refine⟨_,rfl,a,b,_,rfl,I4.fd.feed,by decide,by decide,λm1 H5 f5 f6 b7=>?_⟩;have I5:=I4.go b7 u B G;refine⟨_,rfl,_,_,rfl,rfl,⟨by decide,by decide,by decide⟩,.inl ⟨_,_,rfl,rfl,a,b,_,rfl,I5.fd.feed,by decide,by decide,λm2 H6 f7 f8 b8=>⟨by show 4<=sizeLine;decide,λM hM=>?_⟩⟩⟩;have I6:=I5.go b8 u B G;have b9:M≠a:=(I6.fd.feed.na hM).symm;have I7:=I6.sm ((Same.refl H6).new (o:=.lst [.non,.int 0,.int m1,.int m2]) hM);refine⟨_,rfl,a,b,_,rfl,I7.fd.feed,by decide,by decide,λm3 H8 f9 g0 c0=>?_⟩;have I8:=I7.go c0 u B G;have Z:∃J:Option Int,atI [V.non,V.int 0,V.int m1,V.int m2] m3=some (mV J):=by
    have e:m3=0\/m3=1\/m3=2\/m3=3:=by lia
    rcases e with rfl|rfl|rfl|rfl
    ·exact⟨none,rfl⟩
    ·exact⟨some 0,rfl⟩
    ·exact⟨some m1,rfl⟩
    ·exact⟨some m2,rfl⟩
   obtain⟨J,Z⟩:=Z;refine .inl ⟨M,_,m3,_,rfl,rfl,SqL.of (c0.at q0b b9),Z,?_⟩;clear Z I7 I6 I5 I4 I3 b4 b6 b7 b8 I b5 b9;obtain⟨zt,zd⟩:=I8.dt z hz;have c1:z.2++[t]≠[]:=by simp
   have d4:keyO bl (z.2++[t])=(kP z.2,.inr (mk (if bl then lowN t else t))):=by
    unfold keyO;rw[Bk,Ce]
   have pk:∀{H9:Hp} {p:Addr},H9 z.1=some (.tup (vP z.2))->H9 p=some (.tup [.ref z.1,.str (mk (if bl then lowN t else t))])->PrK H9 (keyO bl (z.2++[t])) p:=λ{H9 p} e1 e2=>by
    rw[d4];exact⟨z.1,e2,by rw[q1w];exact e1⟩
   show X4 _ _ _;subst d3;refine⟨λbb H9=>RwI P w H a b L O d bl i H9 X Y S/\(bb=true->z.2.length<6/\hasP S (keyO bl (z.2++[t]))=false),?_,?_⟩;rotate_left
   ·refine⟨_,rfl,_,_,rfl,.inr ⟨_,SqT.of zt,rfl⟩,_,_,rfl,rfl,_,rfl,?_⟩;refine iteB (λhb=>?_) (λhb=>⟨I8,(λz=>by cases z)⟩);have hb':z.2.length<6:=by
     have e:=of_decide_eq_true hb;rw[q0y] at e;lia
    refine⟨_,rfl,_,rfl,_,rfl,t,bl,rfl,a7,by show 2<=sizeLine;decide,λp2 d5=>?_⟩;have s9:=(Same.refl H8).new (o:=.tup [.ref z.1,.str (mk (if bl then lowN t else t))]) d5;exact⟨_,rfl,d,S,p2,keyO bl (z.2++[t]),rfl,rfl,(I8.sm s9).hd,pk (s9 _ _ zt) q0b,_,rfl,I8.sm s9,λe=>⟨hb',by simpa using e⟩⟩
   rintro bb H9 ⟨j,c2⟩;refine ite2 (λhb=>?_) (λhb=>by subst b2;exact⟨X,Y,S,_,_,_,_,rfl,⟨j.fd,j.rl,j.hl,Fg j.len,j.da,j.dt,j.dn,Fg j.dl,j.hd,Fg j.kl,j.hk⟩,hi⟩);obtain⟨h6,a0⟩:=c2 hb;obtain⟨c3,_⟩:=j.dt z hz;refine gZ λX5 d6=>?_;refine⟨_,rfl,_,rfl,_,rfl,_,rfl,t,bl,rfl,a7,by show 2<=sizeLine;decide,λp3 d7=>?_⟩;have sA:=(Same.refl H9).new (o:=.tup [.ref z.1,.str (mk (if bl then lowN t else t))]) d7;have IA:=j.sm sA;have a8:=pk (sA _ _ c3) (p:=p3) q0b;have c4:S.length<sizeLine:=by have:=j.kl;exact small' (by lia)
   refine⟨d,S,p3,keyO bl (z.2++[t]),rfl,rfl,rfl,IA.hd,a8,a0,c4,?_⟩;have IB:=IA.dput F b1 a8 c4 a4.symm a5.symm;have d8:X.length<=i:=j.len;have c5:∀y∈X,fold bl y.2.1≠fold bl (z.2++[t]):=λy hy e=>by
    have h1:=j.hk y hy;rw[z0l (j.hl.ok _ (Ac.mpr ⟨y,hy,rfl⟩)).ne c1 e] at h1;rw[h1] at a0;cases a0
   have okp:okP (z.2++[t]):=by
    refine⟨by simp,by rw[An];show _+1<=6;lia,λn hn=>?_⟩;rcases Ao.mp hn with hn|hn
    ·rcases zd with e|e
     ·rw[e] at hn;cases hn
     ·exact(j.hl.ok _ e).all n hn
    ·rw[Ak.mp hn];exact a7
   have d9:(z.2++[t]).dropLast=[]\/((z.2++[t]).dropLast,none)∈X.map (·.2):=by rw[Bk];exact zd
   have c6:hasP (S++[(keyO bl (z.2++[t]),p3)]) (keyO bl (z.2++[t]))=true:=z0m;clear IA I8 zt c3 a8 pk a0 c2 j sA;generalize upd (upd H9 p3 (.tup [.ref z.1,.str (mk (if bl then lowN t else t))])) d _=HB at IB;generalize S++[(keyO bl (z.2++[t]),p3)]=g1 at IB c6;obtain⟨e0,_⟩:=IB.dt z hz;show X5 _ _ _;refine gY d6 λX6 e3=>?_;refine⟨_,rfl,.inl ⟨rfl,_,SqL.of IB.rl.at_⟩,_,rfl,_,rfl,by show 1<=sizeLine;decide,λp4 e4=>?_⟩;have s5:=(Same.refl HB).new (o:=.tup [.str (mk t)]) e4;refine⟨z.1,p4,_,_,rfl,rfl,s5 _ _ e0,q0b,by rw[q0y];exact small (by show _+1<=_;lia),λp5 HC sC e5 _=>?_⟩;have hp5':HC p5=some (.tup (vP (z.2++[t]))):=by rw[e5];show _=some (HO.tup ((z.2++[t]).map _));rw[Ae];rfl
   have IC:=IB.sm (s5.trans sC);refine⟨_,rfl,by show 2<=sizeLine;decide,λT1 e6=>?_⟩;have sD:=(Same.refl HC).new (o:=.tup [.ref p5,mV J]) e6;have ID:=IC.sm sD;refine⟨L,_,_,rfl,rfl,ID.rl.at_,by rw[Aa];exact small' (by lia),?_⟩;have IE:=ID.rput (m:=J) F hL a4.symm q d8 q0b (sD _ _ hp5') okp c5 d9 c6;have zE:=(IE.dt z hz).1;generalize upd (upd HC T1 (.tup [.ref p5,mV J])) L _=HE at IE zE;show X6 _ _ _;subst e3;subst b2;refine⟨_,rfl,_,rfl,?_⟩;cases J with
   |some x=>exact iteF ⟨_,_,_,_,_,_,_,rfl,IE,hi⟩
   |none =>
    refine iteT ⟨_,rfl,.inl ⟨rfl,_,SqL.of IE.da⟩,_,rfl,_,rfl,by show 1<=sizeLine;decide,λp6 e7=>?_⟩;have s6:=(Same.refl HE).new (o:=.tup [.str (mk t)]) e7;refine⟨z.1,p6,_,_,rfl,rfl,s6 _ _ zE,q0b,by rw[q0y];exact small (by show _+1<=_;lia),λp7 HF sF e8 _=>?_⟩;have hp7':HF p7=some (.tup (vP (z.2++[t]))):=by rw[e8];show _=some (HO.tup ((z.2++[t]).map _));rw[Ae];rfl
    have IF:=IE.sm (s6.trans sF);refine⟨O,_,_,rfl,rfl,IF.da,by rw[Aa];exact small' (by lia),?_⟩;exact⟨_,_,_,_,_,_,_,rfl,IF.draw F a1 q a5.symm c9 hp7' (by simp),hi⟩
  ·rintro a6 H' ⟨X,Y,S,x6,x7,x8,x9,rfl,W,_⟩;exact⟨_,rfl,k L X H' W.fd hL W.rl W.hl (by have:=W.len;lia)⟩
structure Hk (K) (c):Prop where
 cl:Cls K c
 b:NoAttr K c "blind"
 m:NoAttr K c "marks"
noncomputable abbrev hF(bl:Bool)(d:Addr):List (Str×V):=[("blind",.bl bl),("marks",.ref d)]
structure HallAt (c) (H:Hp) (h d) (bl) (rows:List Rw):Prop where
 i:∃dx,H h=some (.ins c dx (hF bl d))
 d:H d=some (dR (rows.map rR))
def HallAt.same{d}(x:HallAt c H h d bl rows)(s:Same H H'):HallAt c H' h d bl rows:=⟨x.i.imp λf e=>s _ _ e,s _ _ x.d⟩
noncomputable def spAlike:Sp:=λvs H Q _=>∃x y,vs=[.str x,.str y]/\(∀c∈tl x,c<128)/\(∀c∈tl y,c<128)/\x.length<=1000/\y.length<=1000/\Q (.bl (decide ((tl x).map Cf=(tl y).map Cf))) H
noncomputable abbrev z0n:Stmt:=top 12
def x2q:FnScope Y4 Y4 (defScope z0n):=by trivial
def x2r(D:Df K mg "alike" z0n Y4)(T:Txt mg):Cal P w K mg base "alike" 1 Y4 spAlike:=by
 refine D.cal x2q (λvs H Q E h=>?_) (λf j A outer s H vs Q E q h=>?_)
 ·obtain⟨x,y,rfl,_⟩:=h;rfl
 ·obtain⟨x,y,rfl,u,v,B,C,k⟩:=h;refine⟨_,(q0f (q0o (q5c (eq_k K rfl q) (@z1o _ _ _ _ _ _ _ _ _ K rfl Fe Jk Jl q6z (pv 0) (by rfl) (by rfl)) (@z1o _ _ _ _ _ _ _ _ _ K rfl Fe Jk Jl q6z (pv 1) (by rfl) (by rfl)) (nomark _)))),?_⟩;refine⟨_,rfl,rfl,_,rfl,rfl,small (by lia),⟨_,rfl,rfl,_,rfl,rfl,small (by lia),.inl ⟨rfl,?_⟩⟩⟩;have e:decide ((V.str (Jg x))=V.str (Jg y))=decide ((tl x).map Cf=(tl y).map Cf):=by
   rw[<- TX.lower u,<- TX.lower v];by_cases h:Jg x=Jg y
   ·rw[h];simp
   ·rw[decide_eq_false (λz=>h (V.str.inj z)),decide_eq_false (λz=>h (TX.ext z))]
  rw[e];exact k
structure CallsH (P) (w) (K) (mg) (base):Prop where
 alike:Cal P w K mg base "alike" 1 Y4 spAlike
def q1g(h:Low p):Low p.dropLast:=λn hn=>h n (Ny _ hn)
noncomputable def spOneP(c:Addr):Sp:=λvs H Q _=>∃h p q bl dx fs one other,vs=[.ref h,.ref p,.ref q]/\H h=some (.ins c dx fs)/\fs.lookup ("blind" : Str)=some (V.bl bl)/\H p=some (.tup (vP one))/\H q=some (.tup (vP other))/\okP one/\okP other /\
 ∀H',Same H H'->Q (.bl (decide (fold bl one=fold bl other))) H'
noncomputable abbrev q2b:Stmt:=inClass (top 15) 3
def q5b:FnScope Zn Zn (defScope q2b):=by trivial
def z2n(D:Mf K c "is_one_place" "Hall.is_one_place" q2b Zn)(hk:Hk K c)(T:Txt mg)(C:CallsH P w K mg base):MCal P w K mg base c "is_one_place" 2 Zn (spOneP c):=by
 refine D.cal hk.cl q5b (λvs H Q E h=>?_) (λf Z A outer s H vs Q E J h=>?_)
 ·obtain⟨h,p,q,bl,U,fs,one,j,rfl,_⟩:=h;rfl
 ·obtain⟨h,p,q,bl,U,fs,one,j,rfl,hh,hb,hp,L,u,v,k⟩:=h;refine⟨_,(q0c (q1b (q0n (ne_k K rfl J) (q0p (sl_k K rfl) (pv 1) q0r (q0s (q1i q0t q0g))) (q0p (sl_k K rfl) (pv 2) q0r (q0s (q1i q0t q0g))) (nomark _)) (q0f (q0o q4i)) q0m) (q0c (q1b (@q7u _ _ _ K rfl (@z0h _ _ _ _ _ K rfl (pv 0) (by rfl)) (λ_=>rfl)) (q0f (q0o (pe_c C.alike J (q0a (q1q (ix_k K rfl) (pv 1) (q1i q0t q0g) (λ_ _=>rfl)) (q0a (q1q (ix_k K rfl) (pv 2) (q1i q0t q0g) (λ_ _=>rfl)) q0e))))) q0m) (q0f (q0o (q5c (eq_k K rfl J) (q1q (ix_k K rfl) (pv 1) (q1i q0t q0g) (λ_ _=>rfl)) (q1q (ix_k K rfl) (pv 2) (q1i q0t q0g) (λ_ _=>rfl)) (nomark _)))))),?_⟩;obtain⟨c1,c2⟩:=q0w u.ne;obtain⟨d1,d2⟩:=q0w v.ne;refine⟨_,rfl,_,rfl,_,rfl,.inr (.inr ⟨p,_,rfl,SqT.of hp,c2,λM O=>?_⟩)⟩;rw[c1];have W:=(Same.refl H).new (o:=.tup (vP one.dropLast)) O;refine⟨_,rfl,_,rfl,_,rfl,.inr (.inr ⟨q,_,rfl,SqT.of (W _ _ L),d2,λR G=>?_⟩)⟩;rw[d1];have B:=W.new (o:=.tup (vP j.dropLast)) G;have hp1':upd (upd H M (.tup (vP one.dropLast))) R (.tup (vP j.dropLast)) M=some (.tup (vP one.dropLast)):=by
   rw[q0d (λz=>by rw[<- z,q0b] at G;cases G)];exact q0b
  generalize S:upd (upd H M (.tup (vP one.dropLast))) R (.tup (vP j.dropLast))=H2 at B hp1';have hp2':H2 R=some (.tup (vP j.dropLast)):=by rw[<- S];exact q0b
  have fe:=q2i (bl:=bl) u.ne v.ne;refine q2q hp1' hp2' (q1g u.low) (q1g v.low) ⟨_,rfl,ite2 (λI=>?_) (λI=>?_)⟩
  ·have hne':one.dropLast≠j.dropLast:=by simpa using I
   have e:=decide_eq_false λz=>hne' (fe.mp z).1;rw[<- e];exact k _ B
  ·have a0:one.dropLast=j.dropLast:=by simpa using I
   refine⟨_,rfl,h,c,U,fs,_,rfl,B _ _ hh,hk.cl,hk.b,hb,_,rfl,?_⟩;have X:=q2n u;have Y:=q2n v;cases bl with
   |true =>
    refine iteT ⟨_,rfl,_,rfl,.inr (.inl ⟨p,_,-1,_,rfl,rfl,SqT.of (B _ _ hp),q3i u.ne,?_⟩)⟩;refine⟨_,rfl,_,rfl,.inr (.inl ⟨q,_,-1,_,rfl,rfl,SqT.of (B _ _ L),q3i v.ne,?_⟩)⟩;refine⟨_,_,rfl,by rw[q3w];exact X.low,by rw[q3w];exact Y.low,by rw[z1w];have:=X.few;lia,by rw[z1w];have:=Y.few;lia,?_⟩;have e:decide (fold true one=fold true j)=decide (lowN (one.getLastD [])=lowN (j.getLastD [])):=by grind
    have:=k _ B;rw[e] at this;exact this
   |false =>
    refine iteF ⟨_,rfl,_,rfl,.inr (.inl ⟨p,_,-1,_,rfl,rfl,SqT.of (B _ _ hp),q3i u.ne,?_⟩)⟩;refine⟨_,rfl,_,rfl,.inr (.inl ⟨q,_,-1,_,rfl,rfl,SqT.of (B _ _ L),q3i v.ne,?_⟩)⟩;refine .inl ⟨rfl,?_⟩;have e:decide (fold false one=fold false j)=decide (V.str (mk (one.getLastD []))=V.str (mk (j.getLastD []))):=by simp_all
    have:=k _ B;rw[e] at this;exact this
noncomputable def spThere(c:Addr):Sp:=λvs H Q _=>∃h d p bl rows place,vs=[.ref h,.ref p]/\HallAt c H h d bl rows/\H p=some (.tup (vP place))/\okP place/\(∀r∈rows,okP r.1) /\
 (∀H',Same H H'->(∀r∈rows,fold bl r.1≠fold bl place)->Q .non H')/\∀H' b r,Same H H'->r∈rows->fold bl r.1=fold bl place->H' b=some (.tup (vP r.1))->Q (.ref b) H'
structure CallsI (P) (w) (K) (mg) (base) (c):Prop where
 m_is_one_place:MCal P w K mg base c "is_one_place" 2 Zn (spOneP c)
def q2c(hd:H d=some o)(k:∀a u,a≠d->H a=some u->H' a=some u):Same H (upd H' d o):=λa u e=>by
 by_cases z:a=d
 ·subst z;rw[q0b,<- hd];exact e
 ·rw[q0d z];exact k a u z e
noncomputable abbrev q4a:Stmt:=inClass (top 15) 4
def sc_Hall_there:FnScope ["self", "place", "path"] Zo (defScope q4a):=by trivial
def x2s(D:Mf K c "there" "Hall.there" q4a Zo)(hk:Hk K c)(T:Txt mg)(C:CallsI P w K mg base c):MCal P w K mg base c "there" 3 Zo (spThere c):=by
 refine D.cal hk.cl sc_Hall_there (λvs H Q E h=>?_) (λf a0 A outer s H vs Q E q h=>?_)
 ·obtain⟨h,d,p,bl,rows,j,rfl,_⟩:=h;rfl
 ·obtain⟨h,d,p,bl,rows,j,rfl,Y,hp,ok,S,k1,k2⟩:=h;refine⟨_,(q0c (q3y H rfl (q1k Br rfl (@q4l _ _ _ _ K rfl (@z0h _ _ _ _ _ K rfl (pv 0) (by rfl))) (q0h (i:=2) sc_Hall_there.nd rfl (by trivial)) (q0f (q1b (@q7u _ _ _ K rfl (pe_m C.m_is_one_place q (pv 0) (q0a (pv 2) (q0a (pv 1) q0e))) (λ_=>rfl)) (q0f (q0o (pv 2))) q0m)))) (q0f (q0o q6q))),?_⟩;obtain⟨U,O⟩:=Y.i;have hd:=Y.d;have G:=q0q O hd;have W:=q0q hp hd;refine⟨d,(λo v e=>by rw[hd] at e;cases e),?_⟩;refine⟨_,rfl,h,c,U,_,_,rfl,O,hk.cl,hk.m,rfl,d,_,rfl,hd,λX=>?_⟩;refine q2s (λi B I=>(∃x,B=[some (.ref h),some (.ref p),x])/\I d=some (.frz X (dR (rows.map rR)))/\(∀a u,a≠d->H a=some u->I a=some u)/\∀r∈rows.take i,fold bl r.1≠fold bl j)
   ⟨⟨none,rfl⟩,q0b,λa u n e=>by rw[q0d n];exact e,λr q=>by rw[Hg] at q;cases q⟩ (λi B I x=>x.2.1) ?_ ?_
  ·rintro i ky v b B I hk' hb ⟨⟨x,rfl⟩,hfz,kp,hno⟩;obtain⟨r,q,rfl,rfl⟩:∃r,rows[i]?=some r/\ky=kP r.1/\v=mV r.2:=keyAt hk';have J:=Af q;rw[q1w] at hb;refine⟨_,rfl,h,U,_,rfl,kp _ _ G O,rfl,_,rfl,_,rfl,h,b,p,bl,U,_,r.1,j,rfl,kp _ _ G O,rfl,hb,kp _ _ W hp,S r J,ok,λH2 R=>⟨_,rfl,?_⟩⟩;have L:=λa u n e=>R _ _ (kp a u n e);refine iteB (λZ=>?_) (λZ=>?_)
   ·refine⟨_,rfl,X,_,R _ _ hfz,k2 _ b r (q2c hd L) J (of_decide_eq_true Z) ?_⟩;rw[q0d (q0q hb hfz)];exact R _ _ hb
   ·refine⟨⟨_,rfl⟩,R _ _ hfz,L,λy M=>?_⟩;rw[Bc,q] at M;rcases Ao.mp M with M|M
    ·exact hno y M
    ·simp_all
  ·rintro B I ⟨⟨x,rfl⟩,hfz,kp,hno⟩;refine⟨X,_,hfz,k1 _ (q2c hd kp) λr q=>hno r ?_⟩;rw[Aa,Aa,Ba];exact q
noncomputable def spHRows(c:Addr):Sp:=λvs H Q _=>∃h d bl rows,vs=[.ref h]/\HallAt c H h d bl rows/\rows.length<64/\(∀r∈rows,Low r.1) /\
 ∀L zs H',H L=none->Same H H'->RL H' L zs->(zs.map (·.2)).Perm rows->(zs.map (·.2.1)).Pairwise (λa b=>pLt b a=false)->Q (.ref L) H'
noncomputable abbrev q4q:Stmt:=inClass (top 15) 1
def z2o:FnScope Y5 Y5 (defScope q4q):=by trivial
def x2t(D:Mf K c "rows" "Hall.rows" q4q Y5)(hk:Hk K c)(T:Txt mg):MCal P w K mg base c "rows" 2 Y5 (spHRows c):=by
 refine D.cal hk.cl z2o (λvs H Q E h=>?_) (λf R A outer s H vs Q E B h=>?_)
 ·obtain⟨h,d,bl,rows,rfl,_⟩:=h;rfl
 ·obtain⟨h,d,bl,rows,rfl,u,C,q,k⟩:=h;refine⟨_,(q0f (q0o (q0k (z6l B) (by rfl) T.b_sorted (by trivial) (q0a (@z1o _ _ _ _ _ _ _ _ _ K rfl Gz Qv Qw z4z (@z0h _ _ _ _ _ K rfl (pv 0) (by rfl)) (by rfl) (by rfl)) q0e)))),?_⟩;obtain⟨S,U⟩:=u.i;refine⟨_,rfl,h,c,S,_,_,rfl,U,hk.cl,hk.m,rfl,.inr (.inr (.inl ⟨rfl,.inr ⟨_,u.d⟩⟩)),d,_,rfl,rfl,u.d,λv W=>?_⟩;have G:=(Same.refl H).new (o:=vwO v d) W;refine⟨v,d,rows.map rR,rfl,q0b,G _ _ u.d,by rw[Aa];exact C,λr B=>?_,λL as rs X Y hp hs sm I J=>?_⟩
  ·obtain⟨x,Z,rfl⟩:=Ac.mp B;exact q x Z
  ·obtain⟨j,p',rfl⟩:=perm_map_inv hp rfl;obtain⟨M,z1,O,z3⟩:=zs_of J rfl;refine k L M X (G.free Y) (G.trans sm) ⟨?_,z3⟩ (by rw[O];exact p') ?_
   ·rw[I,<- z1,Ah];rfl
   ·have e:M.map (·.2.1)=(j.map rR).map (·.1):=by rw[<- O,Ah,Ah];rfl
    rw[e];exact hs
theorem z5j{f:Type}:∀{l:List f} {i} {r},l[i]?=some r->l=l.take i++r::l.drop (i+1)
 |[],_,_,h=>by cases h
 |a::l,0,_,h=>by cases h;rfl
 |a::l,i+1,r,h=>by show a::l=a::(l.take i++r::l.drop (i+1));rw[<- z5j (l:=l) (i:=i) h]
def q3s{h u:Type}{f:h->u}{l:List h}{r j}(nd:(l.map f).Nodup)(v:l[i]?=some r)(q:j∈l.take i):f j≠f r:=by
 rw[z5j v,Ae,Ay] at nd;exact λz=>(Dv.mp nd).2.2 _ (Ac.mpr ⟨j,q,rfl⟩) _ Au z
structure InInv (c) (H:Hp) (x dx d Dr) (bl) (rows:List Rw) (ys) (i) (H':Hp):Prop where
 ins:H' x=some (.ins c dx (hF bl d))
 d:H' d=some (dR ((rows.take i).map rR))
 r:H' Dr=some (.dT ys)
 k:∀a u,a≠x->H a=some u->H' a=some u
def InInv.same{d}(v:InInv c H x dx d Dr bl rows ys i H')(s:Same H' H2):InInv c H x dx d Dr bl rows ys i H2:=⟨s _ _ v.ins,s _ _ v.d,s _ _ v.r,λa u n e=>s _ _ (v.k a u n e)⟩
noncomputable def spInit(c:Addr):Sp:=λvs H Q _=>∃x dx L bl zs,vs=[.ref x,.ref L,.bl bl]/\H x=some (.ins c dx [])/\RL H L zs/\Hl bl (zs.map (·.2))/\zs.length<=60 /\
 ∀d H',H d=none->H' x=some (.ins c dx (hF bl d))->H' d=some (dR ((zs.map (·.2)).map rR))->(∀a u,a≠x->H a=some u->H' a=some u)->Q .non H'
structure CallsK (P) (w) (K) (mg) (base) (c):Prop where
 m_there:MCal P w K mg base c "there" 3 Zo (spThere c)
noncomputable abbrev q1h:Stmt:=inClass (top 15) 0
def sc_Hall___init__:FnScope ["self", "rows", "blind", "drawers", "at", "path", "mark", "drawer"] Zu (defScope q1h):=by trivial
def x6d(D:Kf K mg c "Hall" "Hall.__init__" q1h Zu)(hk:Hk K c)(T:Txt mg)(C:CallsK P w K mg base c):KCal P w K mg base c "Hall" 4 Zu (spInit c):=by
 refine D.cal sc_Hall___init__ (λvs H Q E h=>?_) (λf c9 A outer s H vs Q E G h=>?_)
 ·obtain⟨x,J,L,bl,M,rfl,_⟩:=h;rfl
 ·obtain⟨x,J,L,bl,M,rfl,hx,hl,hH,d0,k⟩:=h;refine⟨_,(q0c (@z9b _ _ _ _ _ _ _ _ K rfl (pv 0) (pv 2) (by rfl)) (q0c (@z9b _ _ _ _ _ _ _ _ K rfl (pv 0) q3n (by rfl)) (q0c (x2i (i:=3) Y9 [] sc_Hall___init__.nd rfl (by trivial) rfl (@q3b _ _ _ _ K rfl (pv 1)) (λ_ _ _ _ _=>(@q2h _ _ _ _ _ (2) K rfl rfl (q0l (q0h (i:=0) (show(Y9:List Str).Nodup by trivial) rfl (by trivial)) (q0l (q0h (i:=1) (show(Y9:List Str).Nodup by trivial) rfl (by trivial)) q1p)) (by rfl) (by rfl))) (λ_ _ _ _ _=>(q4k (q1z (q5m (pv 1))))) (λ_ _ _ _ _=>(pv 0)) (λ_ _ _ _ _=>q4i) (q1c G)) (q0f (q1k Br rfl (@z4v _ _ _ _ _ _ _ _ K rfl rfl T.b_enumerate (q0a (pv 1) q0e) (by rfl)) (@q2h _ _ _ _ _ (2) K rfl rfl (q0l (q0h (i:=4) sc_Hall___init__.nd rfl (by trivial)) (q0l (@q2h _ _ _ _ _ (2) K rfl rfl (q0l (q0h (i:=5) sc_Hall___init__.nd rfl (by trivial)) (q0l (q0h (i:=6) sc_Hall___init__.nd rfl (by trivial)) q1p)) (by rfl) (by rfl)) q1p)) (by rfl) (by rfl)) (q0c (q0i (i:=7) sc_Hall___init__.nd rfl (by trivial) (q0p (sl_k K rfl) (pv 5) q0r (q0s (q1i q0t q0g)))) (q0c (q1b (pt_j (@PW.pt _ _ _ (q2z (q0n (ne_k K rfl G) (pv 7) (q1j q0e) (nomark _)) (q2a (q1z (q7v (q1c G) (pv 7) (pv 3))))))) (q0f q3a) q0m) (q0c (q1b (q1z (q5z (pe_m C.m_there G (pv 0) (q0a (pv 5) q0e)))) (q0f q3a) q0m) (q0f (q3x (q1c G) (@z0h _ _ _ _ _ K rfl (pv 0) (by rfl)) (pv 5) (pv 6) rfl)))))))))),?_⟩;have b6:L≠x:=λz=>by have e:=hl.at_;rw[z,hx] at e;cases e
  with_reducible refine gE λc0 c3 a0 a1=>?_
  refine⟨_,rfl,_,rfl,x,c,J,_,rfl,hx,hk.cl,hk.b,by decide,?_⟩;subst a1;refine λd hd=>?_;have S:=q0q hd q0b;have a2:H d=none:=by rw[q0d S] at hd;exact hd
  refine⟨_,rfl,x,c,J,_,rfl,by rw[q0d S.symm];exact q0b,hk.cl,hk.m,by show 1<1000;decide,?_⟩;have pf:putF ("marks" : Str) (V.ref d) (putF ("blind" : Str) (V.bl bl) [])=hF bl d:=rfl;generalize a3:upd (upd (upd H x (.ins c J (putF ("blind" : Str) (.bl bl) []))) d (.dT [])) x (.ins c J (putF ("marks" : Str) (.ref d) (putF ("blind" : Str) (.bl bl) [])))=H3;have k3:∀a u,a≠x->H a=some u->H3 a=some u:=λa u n e=>by
   rw[<- a3,q0d n,q0d (q0q e a2),q0d n];exact e
  have i3:H3 x=some (.ins c J (hF bl d)):=by rw[<- a3,<- pf];exact q0b
  have d3:H3 d=some (.dT []):=by rw[<- a3,q0d S];exact q0b
  have B:∀{O:Hp},(∀a u,a≠x->H a=some u->O a=some u)->RL O L M:=λ{O} kk=>⟨kk _ _ b6 hl.at_,λz Y=>PR.same (hl.pr z Y) λT' xs e=>kk _ _ (q0q e hx) e⟩
  with_reducible refine gZ λc4 a4=>?_
  refine⟨_,rfl,.inl ⟨L,rfl,⟨_,SqL.of (B k3).at_⟩,λDr a5=>?_⟩⟩;refine q9f (λi R O=>O Dr=some (.dT R)/\Same H3 O/\R.length<=i/\i<=M.length/\∀p,(p,none)∈(M.take i).map (·.2)->(valV R (kP p)).isSome=true) ⟨q0b,(Same.refl H3).new a5,Aq _,Bv _,λp hp=>by rw[Hg] at hp;cases hp⟩ (λi R O h=>⟨h.1,SqL.of (h.2.1 _ _ (B k3).at_)⟩) ?_ ?_
  ·rintro i R O v hv ⟨U,s',b1,_,j⟩;obtain⟨z,Y,rfl⟩:=refAt hv;have hi:=(Aj.mp Y).1;obtain⟨b,h1,h2⟩:=((B k3).same s').pr z (Af Y);refine⟨z.1,_,rfl,SqT.of h1,rfl,_,_,rfl,_,_,rfl,rfl,q3v,?_⟩;refine⟨_,rfl,_,rfl,?_⟩;refine iteB (λhm=>?_) (λhm=>?_)
   ·refine⟨_,rfl,kP z.2.1,b,rfl,by rw[q1w];exact h2,U,small' (by lia),q0b,λa u e=>?_,?_,hi,λp hp=>?_⟩
    ·rw[q0d (λy=>by rw[y] at e;rw[a5] at e;cases e)];exact s' _ _ e
    ·have:=q3f R (kP z.2.1) (.bl true);lia
    ·rw[x1z];by_cases e:kP p=kP z.2.1
     ·grind
     ·rw[if_neg e];rw[Bc,Y,Ae] at hp;rcases Ao.mp hp with hp|hp
      ·grind
      ·grind
   ·refine⟨U,s',by lia,hi,λp hp=>?_⟩;rw[Bc,Y,Ae] at hp;rcases Ao.mp hp with hp|hp
    ·exact j p hp
    ·exfalso;have e:(p,none)=z.2:=Ak.mp hp;refine of_decide_eq_false hm ?_;rw[<- e];rfl
  ·rintro R O ⟨U,s',b1,_,j⟩;rw[Aa,Ba] at j;have I0:InInv c H x J d Dr bl (M.map (·.2)) R 0 O:=⟨s' _ _ i3,s' _ _ d3,U,λa u n e=>s' _ _ (k3 a u n e)⟩
   have b7:=q0q a5 d3;subst a4;refine⟨_,rfl,.inr ⟨L,_,rfl,SqL.of (B I0.k).at_,?_⟩⟩;refine q5t (λi W H2=>∃x4 x5 x6 x7,W=[some (.ref x),some (.ref L),some (.bl bl),some (.ref Dr),x4,x5,x6,x7]/\InInv c H x J d Dr bl (M.map (·.2)) R i H2) ⟨none,none,none,none,rfl,I0⟩ (λi W H2 h=>by obtain⟨_,_,_,_,_,h⟩:=h;exact SqL.of (B h.k).at_) ?_ ?_
   ·rintro i v T' W H2 hv ⟨x4,x5,x6,x7,rfl,I⟩ hT;obtain⟨z,Y,rfl⟩:=refAt hv;have X:(M.map (·.2))[i]?=some z.2:=by grind
    have b2:=Af X;have a6:=hH.ok _ b2;have sT:=(Same.refl H2).new (o:=.tup [.int i,.ref z.1]) hT;have I1:=I.same sT;obtain⟨b,h1,h2⟩:=(B I1.k).pr z (Af Y);refine⟨T',_,rfl,SqT.of q0b,rfl,_,_,rfl,_,_,rfl,z.1,_,rfl,SqT.of h1,rfl,_,_,rfl,_,_,rfl,rfl,rfl,?_⟩;generalize upd H2 T' (.tup [.int i,.ref z.1])=H4 at sT I1 h1 h2;replace h2:H4 b=some (.tup (vP z.2.1)):=h2;obtain⟨c1,c2⟩:=q0w a6.ne
    with_reducible refine gE λc5 c6 a7 a8=>?_
    refine⟨_,rfl,_,rfl,_,rfl,.inr (.inr ⟨b,_,rfl,SqT.of h2,c2,λp1 b8=>?_⟩)⟩;rw[c1];have s5:=(Same.refl H4).new (o:=.tup (vP z.2.1.dropLast)) b8;have I2:=I1.same s5;have h2':=s5 _ _ h2;have hp1':upd H4 p1 (.tup (vP z.2.1.dropLast)) p1=some (.tup (vP z.2.1.dropLast)):=q0b;generalize upd H4 p1 (.tup (vP z.2.1.dropLast))=H5 at s5 I2 h2' hp1';refine gY a8 λc7 a9=>?_;refine⟨λbb H6=>bb=false/\Same H5 H6,?_,?_⟩
    ·rintro bb H6 ⟨rfl,Z⟩;have I3:=I2.same Z;refine gY a9 λc8 b0=>?_;refine⟨_,rfl,x,J,_,rfl,I3.ins,rfl,_,rfl,x,d,b,bl,_,z.2.1,rfl,⟨⟨J,I3.ins⟩,I3.d⟩,Z _ _ h2',a6,λr G=>hH.ok r (Ii G),λH7 s7 _=>?_,λH7 b' r s7 G e _=>absurd e (q3s (f:=λr:Rw=>fold bl r.1) hH.nd X G)⟩;refine⟨_,rfl,iteF ?_⟩;have I4:=I3.same s7;subst b0;refine⟨_,rfl,_,rfl,x,c,J,_,_,rfl,I4.ins,hk.cl,hk.m,rfl,_,rfl,d,_,rfl,DPut.t I4.d (by rw[q1w];exact s7 _ _ (Z _ _ h2')) (by rw[Aa,Aa,Bg,Aa];exact small' (by lia)),?_⟩;have b3:∀r∈((M.map (·.2)).take i).map rR,r.1≠z.2.1:=λr G=>by
      obtain⟨y,hy,rfl⟩:=Ac.mp G;exact q3s hH.paths X hy
     rw[q2d b3];subst a7;refine⟨_,_,_,_,rfl,?_,?_,?_,λa u n e=>?_⟩
     ·rw[q0d S.symm];exact I4.ins
     ·have e:((M.map (·.2)).take (i+1)).map rR=((M.map (·.2)).take i).map rR++[(z.2.1,mV z.2.2)]:=by rw[Bc,X,Ae];rfl
      rw[e];exact q0b
     ·rw[q0d b7];exact I4.r
     ·rw[q0d (q0q e a2)];exact I4.k a u n e
    ·refine⟨_,rfl,by decide,λe0 b9=>?_⟩;have Z:=(Same.refl H5).new (o:=.tup []) b9;refine q2q (q:=[]) (Z _ _ hp1') q0b (q1g a6.low) (λ_ h=>nomatch h) ⟨_,rfl,?_⟩;refine iteB (λb4=>?_) (λb4=>?_)
     ·have hne':z.2.1.dropLast≠[]:=by simpa using b4
      have d1:=j _ ((hH.dr _ b2).resolve_left hne');refine⟨_,rfl,_,rfl,Dr,_,rfl,DGet.t (I2.same Z).r (by rw[q1w];exact Z _ _ hp1'),_,rfl,?_,Z⟩;cases e:valV R (kP z.2.1.dropLast) with
      |none=>grind
      |some v=>rfl
     ·grind
   ·rintro W H2 ⟨x4,x5,x6,x7,rfl,I⟩;have b5:=I.d;rw[Aa,<- Aa,Ba] at b5;subst a0;exact k d H2 a2 I.ins b5 I.k
def z5k(p q):vP (p++q)=vP p++vP q:=Ae
def x4f(x)(n:Nat):cutV (vP x) none (some (n))=vP (x.take n):=by
 unfold cutV;have f:HT.sIx (vP x).length 0 none=0:=rfl;have h:HT.sIx (vP x).length (vP x).length (some (n:Int))=min n x.length:=by
  show(if (n:Int)<0 then((n:Int)+((vP x).length:Int)).toNat else min ((n:Int)).toNat (vP x).length)=_;rw[if_neg (by lia),q0y,Ff]
 rw[f,h,Lm,La,<- Ml];rw[<- Sj,Ba]
def z5l(x)(n:Nat):cutV (vP x) (some (n)) none=vP (x.drop n):=by
 unfold cutV;have f:HT.sIx (vP x).length 0 (some (n:Int))=min n x.length:=by
  show(if (n:Int)<0 then((n:Int)+((vP x).length:Int)).toNat else min ((n:Int)).toNat (vP x).length)=_;rw[if_neg (by lia),q0y,Ff]
 have j:HT.sIx (vP x).length (vP x).length none=x.length:=q0y x;rw[f,j,<- Mm,<- Ml];congr 1;rcases Um n x.length with h|h
 ·rw[Rg (Hm h)];exact Fb (by rw[Du];lia)
 ·rw[Nat.min_eq_right h,Qj,List.drop_of_length_le h];exact Pf
def x2u{rs:List HRow}(h:valV (rs.map λr=>(kP r.1,r.2)) (kP p)=some v):(p,v)∈rs:=by
 induction rs with
 |nil=>cases h
 |cons r rs ih =>
  rw[Ay] at h;by_cases e:kP r.1=kP p
  ·rw[q1y e] at h;cases h;rw[<- q9p e];exact Au
  ·rw[q1u e] at h;exact Ap _ (ih h)
def q3p{rows:List Rw}(nd:(rows.map (·.1)).Nodup)(h:(p,m)∈rows):valV ((rows.map rR).map λr=>(kP r.1,r.2)) (kP p)=some (mV m) :=
 q4p (rs:=rows.map rR) (r:=rR (p,m)) (Ac.mpr ⟨_,h,rfl⟩) (by rw[Ah];exact nd)
def z2p{rows:List Rw}(h:valV ((rows.map rR).map λr=>(kP r.1,r.2)) (kP p)=some v):∃m,v=mV m/\(p,m)∈rows:=by
 obtain⟨r,f,e⟩:=Ac.mp (x2u h);cases e;exact⟨r.2,rfl,f⟩
noncomputable def spIsDrawer(c:Addr):Sp:=λvs H Q _=>∃h d p bl rows q,vs=[.ref h,.ref p]/\HallAt c H h d bl rows/\H p=some (.tup (vP q))/\Low q/\(rows.map (·.1)).Nodup/\∀H' bb,Same H H'->(bb=true↔q=[]\/(q,none)∈rows)->Q (.bl bb) H'
noncomputable abbrev q2o:Stmt:=inClass (top 15) 6
def q6e:FnScope Za Za (defScope q2o):=by trivial
def z2q(D:Mf K c "is_drawer" "Hall.is_drawer" q2o Za)(hk:Hk K c)(T:Txt mg):MCal P w K mg base c "is_drawer" 1 Za (spIsDrawer c):=by
 refine D.cal hk.cl q6e (λvs H Q E h=>?_) (λf R A outer s H vs Q E G h=>?_)
 ·obtain⟨h,d,p,bl,rows,q,rfl,_⟩:=h;rfl
 ·obtain⟨h,d,p,bl,rows,q,rfl,I,hp,S,nd,k⟩:=h;refine⟨_,(q0f (q0o (pe_j (pe_or (q5c (eq_k K rfl G) (pv 1) (q1j q0e) (nomark _)) (z7i (pe_j (pe_and (x3m (z8l (q1c G) (pv 1) (@z0h _ _ _ _ _ K rfl (pv 0) (by rfl)))) (z7i (x3m (q5m (q0v (q1c G) (@z0h _ _ _ _ _ K rfl (pv 0) (by rfl)) (pv 1) (λ_ _=>rfl)))))))))))),?_⟩;obtain⟨M,O⟩:=I.i;refine⟨λv B=>∃u,v=.bl u/\Same H B/\(u=true↔q=[]\/(q,none)∈rows),λv B x=>?_,?_⟩
  ·obtain⟨u,rfl,j,e⟩:=x;exact k B u j e
  refine⟨_,rfl,by show 0<=sizeLine;decide,λU J=>?_⟩;have j:=(Same.refl H).new (o:=.tup []) J;refine q0x (q:=[]) (j _ _ hp) q0b S (λ_ h=>nomatch h) ⟨_,rfl,?_⟩;refine iteB (λC=>?_) (λC=>?_)
  ·exact⟨true,rfl,j,⟨λ_=>.inl (of_decide_eq_true C),λ_=>rfl⟩⟩
  have C:=of_decide_eq_false C;refine⟨λv B=>∃u,v=.bl u/\Same H B/\(u=true↔q=[]\/(q,none)∈rows),λv B x=>x,?_⟩;refine⟨_,rfl,_,rfl,h,c,M,_,_,rfl,j _ _ O,hk.cl,hk.m,rfl,d,_,rfl,q4h (j _ _ I.d) (j _ _ hp),_,rfl,?_⟩;cases hv:valV ((rows.map rR).map λr=>(kP r.1,r.2)) (kP q) with
  |none =>
   refine iteF ⟨false,rfl,j,⟨(λz=>by cases z),λz=>?_⟩⟩;exfalso;rw[q3p nd (z.resolve_left C)] at hv;cases hv
  |some v =>
   obtain⟨m,rfl,L⟩:=z2p hv;refine iteT ⟨_,rfl,h,c,M,_,_,rfl,j _ _ O,hk.cl,hk.m,rfl,_,rfl,d,mV m,rfl,?_,_,rfl,j,?_⟩
   ·rw[<- hv];exact q4h (j _ _ I.d) (j _ _ hp)
   ·rw[decide_eq_true_iff];refine⟨λz=>.inr (by rw[mV_none.mp z] at L;exact L),λz=>mV_none.mpr ?_⟩;have:=q0u (f:=λr:Rw=>r.1) nd L (z.resolve_left C) rfl;cases this;rfl
noncomputable def spThere1(c:Addr):Sp:=λvs H Q _=>∃h d p bl rows place,vs=[.ref h,.ref p]/\HallAt c H h d bl rows/\H p=some (.tup (vP place))/\okP place/\(∀r∈rows,okP r.1) /\
 ∀H' v,Same H H'->(v=.non/\(∀r∈rows,fold bl r.1≠fold bl place)\/∃b r,v=.ref b/\r∈rows/\fold bl r.1=fold bl place/\H' b=some (.tup (vP r.1)))->Q v H'
def there1(M:MCal P w K mg base c "there" 3 Zo (spThere c)):MCal P w K mg base c "there" 3 Zo (spThere1 c) :=
 M.imp λvs H Q E h=>by
  obtain⟨h,d,p,bl,rows,f,e,v,hp,ok,j,k⟩:=h;exact⟨h,d,p,bl,rows,f,e,v,hp,ok,j,λq u n=>k q _ u (.inl ⟨rfl,n⟩),λq b r u B e C=>k q _ u (.inr ⟨b,r,rfl,B,e,C⟩)⟩
def q6f(h:Q true H):tIf0 f H Q:=h
noncomputable def IsD(rows:List Rw)(q:Pth):Prop:=q=[]\/(q,none)∈rows
noncomputable def plc:List Mv->Pth->Pth
 |[],p=>p
 |m::ms,p=>if m.1=p then m.2 else plc ms p
structure Wsh (rows:List Rw) (m:Mv):Prop where
 th:∃k,(m.1,k)∈rows/\(m.2.dropLast=m.1.dropLast\/k≠none)
 ok:okP m.2
 dr:IsD rows m.2.dropLast
structure GoodW (rows) (ms:List Mv):Prop where
 all:∀m∈ms,Wsh rows m
 nd:(ms.map (·.1)).Nodup
structure PDt (H:Hp) (d) (ps:List (Addr×Mv)):Prop where
 at_:H d=some (dR (ps.map λx=>(x.2.1,.ref x.1)))
 pr:∀x∈ps,H x.1=some (.tup (vP x.2.2))
def PDt.same(h:PDt H d ps)(s:Same H H'):PDt H' d ps:=⟨s _ _ h.at_,λx f=>s _ _ (h.pr x f)⟩
structure CallsIW (P) (w) (K) (mg) (base) (c):Prop where
 m_there:MCal P w K mg base c "there" 3 Zo (spThere1 c)
 m_is_drawer:MCal P w K mg base c "is_drawer" 1 Za (spIsDrawer c)
noncomputable def spIsWish(c:Addr):Sp:=λvs H Q _=>∃h d a b e bl rows m ps,vs=[.ref h,.ref a,.ref b,.ref e]/\HallAt c H h d bl rows/\Hl bl rows/\H a=some (.tup (vP m.1))/\H b=some (.tup (vP m.2))/\Wsh rows m/\PDt H e ps/\m.1∉ps.map (·.2.1)/\∀H',Same H H'->Q (.bl true) H'
noncomputable abbrev q6g:Stmt:=top 17
def z6s:FnScope Zf Zf (defScope q6g):=by trivial
def z6t(D:Df K mg "is_wish" q6g Zf)(T:Txt mg)(C:CallsIW P w K mg base c):Cal P w K mg base "is_wish" 4 Zf (spIsWish c):=by
 refine D.cal z6s (λvs H Q E h=>?_) (λf a5 A outer s H vs Q E j h=>?_)
 ·obtain⟨h,d,a,b,e,bl,rows,m,S,rfl,_⟩:=h;rfl
 ·obtain⟨h,d,a,b,e,bl,rows,m,S,rfl,O,hl,ha,hb,B,pd,U,k⟩:=h;refine⟨_,(q0c (q1b (pt_j (@PW.pt _ _ _ (z7h (q0n (ne_k K rfl j) (pe_m C.m_there j (pv 0) (q0a (pv 1) q0e)) (pv 1) (nomark _)) (z4n (q1z (z8l (q1c j) (pv 1) (pv 3))))))) (q0f (q0o q4i)) q0m) (q0c (q1b (z1c (@q7u _ _ _ K rfl (pe_m C.m_is_drawer j (pv 0) (q0a (q0p (sl_k K rfl) (pv 2) q0r (q0s (q1i q0t q0g))) q0e)) (λ_=>rfl))) (q0f (q0o q4i)) q0m) (q0f (q0o (pe_j (pe_or (q5c (eq_k K rfl j) (q0p (sl_k K rfl) (pv 2) q0r (q0s (q1i q0t q0g))) (q0p (sl_k K rfl) (pv 1) q0r (q0s (q1i q0t q0g))) (nomark _)) (z7i (pe_not (pe_m C.m_is_drawer j (pv 0) (q0a (pv 1) q0e)))))))))),?_⟩;obtain⟨W,q,X⟩:=B.th;have okp:=hl.ok _ q;have G:=B.ok;obtain⟨Y,Z⟩:=O.i;obtain⟨c1,c2⟩:=q0w G.ne;obtain⟨c3,c4⟩:=q0w okp.ne;refine⟨λI H1=>I=false/\Same H H1,?_,?_⟩;rotate_left
  ·refine⟨_,rfl,h,Y,_,rfl,Z,rfl,_,rfl,h,d,a,bl,rows,m.1,rfl,O,ha,okp,hl.ok,λH1 ov u a0=>?_⟩;rcases a0 with⟨_,no⟩|⟨e1,r,rfl,j,hf,he⟩
   ·exact absurd rfl (no _ q)
   have er:r.1=m.1:=congrArg Prod.fst (hl.eq j q hf);rw[er] at he;refine⟨_,rfl,q2q he (u _ _ ha) okp.low okp.low ⟨_,rfl,?_⟩⟩;rw[decide_eq_true rfl];have hv:valV ((S.map λx=>((x.2.1,.ref x.1):HRow)).map λr=>(kP r.1,r.2)) (kP m.1)=none:=q8g λr j z=>by
    obtain⟨x,hx,rfl⟩:=Ac.mp j;exact U (Ac.mpr ⟨x,hx,z⟩)
   refine iteF ⟨_,rfl,_,rfl,e,_,rfl,q4h (rs:=S.map λx=>(x.2.1,.ref x.1)) (pd.same u).at_ (u _ _ ha),_,rfl,?_,u⟩;rw[hv];rfl
  rintro I H1 ⟨rfl,u⟩;refine iteF ?_;refine⟨_,rfl,h,Y,_,rfl,u _ _ Z,rfl,_,rfl,_,rfl,_,rfl,.inr (.inr ⟨b,_,rfl,SqT.of (u _ _ hb),c2,λt1 a1=>?_⟩)⟩;rw[c1];have s2:=u.new (o:=.tup (vP m.2.dropLast)) a1;refine⟨h,d,t1,bl,rows,m.2.dropLast,rfl,O.same s2,q0b,q1g G.low,hl.paths,λH3 I s3 J=>⟨I,rfl,?_⟩⟩;have L:=s2.trans s3;rw[J.mpr B.dr];refine iteF ⟨λv R=>v=.bl true/\Same H R,λv R x=>by rw[x.1];exact k _ x.2,?_⟩;refine⟨_,rfl,_,rfl,_,rfl,.inr (.inr ⟨b,_,rfl,SqT.of (L _ _ hb),c2,λt2 a2=>?_⟩)⟩;rw[c1];have s4:=L.new (o:=.tup (vP m.2.dropLast)) a2;have e2:upd H3 t2 (.tup (vP m.2.dropLast)) t2=some (.tup (vP m.2.dropLast)):=q0b;generalize upd H3 t2 (.tup (vP m.2.dropLast))=R at s4 e2;refine⟨_,rfl,_,rfl,_,rfl,.inr (.inr ⟨a,_,rfl,SqT.of (s4 _ _ ha),c4,λt3 a3=>?_⟩)⟩;rw[c3];have s5':=(Same.refl R).new (o:=.tup (vP m.1.dropLast)) a3;have M:=s4.trans s5';refine q0x (s5' _ _ e2) q0b (q1g G.low) (q1g okp.low) ⟨_,rfl,iteB (λe=>⟨rfl,M⟩) (λe=>?_)⟩;have e:=of_decide_eq_false e;have a4:W≠none:=X.resolve_left e;refine⟨_,rfl,h,Y,_,rfl,M _ _ Z,rfl,_,rfl,h,d,a,bl,rows,m.1,rfl,O.same M,M _ _ ha,okp.low,hl.paths,λH6 I s6 J=>⟨I,rfl,?_,M.trans s6⟩⟩;cases I with
  |false=>rfl
  |true =>
   rcases J.mp rfl with z|z
   ·exact absurd z okp.ne
   ·exact absurd (hl.one q z) a4
structure CallsWP (P) (w) (K) (mg) (base) (c):Prop where
 is_wish:Cal P w K mg base "is_wish" 4 Zf (spIsWish c)
noncomputable def spWishedP(c:Addr):Sp:=λvs H Q _=>∃h d L bl rows zs,vs=[.ref h,.ref L]/\HallAt c H h d bl rows/\Hl bl rows/\ML H L zs/\GoodW rows (zs.map (·.2))/\zs.length<=60 /\
 ∀D ps H',H D=none->Same H H'->PDt H' D ps->ps.map (·.2)=zs.map (·.2)->Q (.ref D) H'
noncomputable abbrev q2w:Stmt:=top 18
def sc_wished_places:FnScope ["hall", "wishes", "places", "at", "path", "place"] Z3 (defScope q2w):=by trivial
def z6u(D:Df K mg "wished_places" q2w Z3)(T:Txt mg)(C:CallsWP P w K mg base c):Cal P w K mg base "wished_places" 5 Z3 (spWishedP c):=by
 refine D.cal sc_wished_places (λvs H Q E h=>?_) (λf a2 A outer s H vs Q E Y h=>?_)
 ·obtain⟨h,d,L,bl,rows,B,rfl,_⟩:=h;rfl
 ·obtain⟨h,d,L,bl,rows,B,rfl,hh,hl,ml,gw,few,k⟩:=h;refine⟨_,(q0c (q0i (i:=2) sc_wished_places.nd rfl (by trivial) q3n) (q0c (q1k Br rfl (@z4v _ _ _ _ _ _ _ _ K rfl rfl T.b_enumerate (q0a (pv 1) q0e) (by rfl)) (@q2h _ _ _ _ _ (2) K rfl rfl (q0l (q0h (i:=3) sc_wished_places.nd rfl (by trivial)) (q0l (@q2h _ _ _ _ _ (2) K rfl rfl (q0l (q0h (i:=4) sc_wished_places.nd rfl (by trivial)) (q0l (q0h (i:=5) sc_wished_places.nd rfl (by trivial)) q1p)) (by rfl) (by rfl)) q1p)) (by rfl) (by rfl)) (q0c (q1b (z1c (@q7u _ _ _ K rfl (pe_c C.is_wish Y (q0a (pv 0) (q0a (pv 4) (q0a (pv 5) (q0a (pv 2) q0e))))) (λ_=>rfl))) (q0f q3a) q0m) (q0f (q3x (q1c Y) (pv 2) (pv 4) (pv 5) rfl)))) (q0f (q0o (pv 2))))),?_⟩;intro D hD;have s0:=(Same.refl H).new (o:=.dT []) hD;refine⟨_,rfl,.inr ⟨L,_,rfl,SqL.of (s0 _ _ ml.at_),?_⟩⟩;refine q5t (λi G I=>∃j x3 x4 x5,G=[some (.ref h),some (.ref L),some (.ref D),x3,x4,x5]/\Same H I/\PDt I D j/\j.map (·.2)=(B.map (·.2)).take i) ⟨[],none,none,none,rfl,s0,⟨q0b,(λ_ h=>nomatch h)⟩,rfl⟩ (λi G I h=>by obtain⟨_,_,_,_,_,O,_⟩:=h;exact SqL.of (O _ _ ml.at_)) ?_ ?_
  ·rintro i v T' G I hv ⟨j,x3,x4,x5,rfl,O,pd,q⟩ hT;obtain⟨z,hz,rfl⟩:=refAt hv;have Z:=(Same.refl I).new (o:=.tup [.int i,.ref z.1]) hT;obtain⟨A1,R,g1,g2,g3⟩:=((ml.same O).same Z).pr z (Af hz);have S:(B.map (·.2))[i]?=some z.2:=by rw[Am,hz];rfl
   have e1:(B.map (·.2)).take (i+1)=(B.map (·.2)).take i++[z.2]:=by rw[Bc,S];rfl
   have U:z.2.1∉j.map (·.2.1):=λW=>by
    have e2:j.map (·.2.1)=((B.map (·.2)).take i).map (·.1):=by rw[<- q,Ah];rfl
    rw[e2] at W;have nd:=gw.nd;have e3:((B.map (·.2)).take (i+1)).map (·.1)=((B.map (·.2)).take i).map (·.1)++[z.2.1]:=by rw[e1,Ae];rfl
    have X:(((B.map (·.2)).take (i+1)).map (·.1)).Nodup:=by rw[Ml];exact nd.sublist (Lq _ _)
    rw[e3] at X;exact(Dv.mp X).2.2 _ W _ (Ak.mpr rfl) rfl
   refine⟨T',_,rfl,SqT.of q0b,rfl,_,_,rfl,_,_,rfl,z.1,_,rfl,SqT.of g1,rfl,_,_,rfl,_,_,rfl,rfl,rfl,?_⟩;have s3:=O.trans Z;refine⟨_,rfl,_,rfl,_,rfl,_,rfl,h,d,A1,R,D,bl,rows,z.2,j,rfl,hh.same s3,hl,g2,g3,gw.all z.2 (Af S),pd.same Z,U,λH4 s4=>⟨true,rfl,iteF ?_⟩⟩;have a0:=s3.trans s4;have J:=(pd.same Z).same s4;have pl:j.length<=60:=by
    have:=congrArg List.length q;rw[Aa,Bg,Aa] at this;lia
   refine⟨_,rfl,_,rfl,_,rfl,D,_,rfl,DPut.t (k:=kP z.2.1) J.at_ (by rw[q1w];exact s4 _ _ g2) (by rw[Aa,Aa];exact small' (by lia)),?_⟩;rw[q2d (p:=z.2.1) (v:=.ref R) λr Y z'=>by
    obtain⟨x,M,rfl⟩:=Ac.mp Y;exact U (Ac.mpr ⟨x,M,z'⟩)]
   have nD:∀(x:Addr) (u:HO),H4 x=some u->(∀a1,u≠.dT a1)->upd H4 D (dR ((j.map λx=>((x.2.1,.ref x.1):HRow))++[(z.2.1,.ref R)])) x=some u:=λx u e n=>by
    rw[q0d (λy=>by rw[y,J.at_] at e;cases e;exact n _ rfl)];exact e
   have em:(j++[(R,z.2)]).map (λx=>((x.2.1,.ref x.1):HRow))=(j.map λx=>((x.2.1,.ref x.1):HRow))++[(z.2.1,.ref R)]:=by rw[Ae];rfl
   refine⟨j++[(R,z.2)],_,_,_,rfl,λx u e=>?_,⟨by rw[q0b,em],λx M=>?_⟩,by rw[e1,Ae,q];rfl⟩
   ·rw[q0d (q0q e hD)];exact a0 _ _ e
   ·rcases Ao.mp M with M|M
    ·exact nD _ _ (J.pr x M) (λ_ y=>by cases y)
    ·rw[Ak.mp M];exact nD _ _ (s4 _ _ g3) (λ_ y=>by cases y)
  ·rintro G I ⟨j,x3,x4,x5,rfl,O,pd,q⟩;rw[Aa,<- Aa (f:=λz:Zm=>z.2),Ba] at q;exact⟨_,rfl,k D j I hD O pd q⟩
def val_ps{ps:List (Addr×Mv)}(h:p∉ps.map (·.2.1)):valV ((ps.map λx=>((x.2.1,.ref x.1):HRow)).map λr=>(kP r.1,r.2)) (kP p)=none:=q8g λr f z=>by
 obtain⟨x,j,rfl⟩:=Ac.mp f;exact h (Ac.mpr ⟨x,j,z⟩)
def q5v(h:p∉ms.map (·.1)):plc ms p=p:=by
 induction ms with
 |nil=>rfl
 |cons m ms ih =>
  rw[Ay,Bb,not_or] at h;unfold plc;rw[if_neg (λz=>h.1 z.symm)];exact ih h.2
def q6u(nd:(ms.map (·.1)).Nodup)(h:m∈ms):plc ms m.1=m.2:=by
 induction ms with
 |nil=>cases h
 |cons x ms ih =>
  rw[Ay,Bu] at nd;unfold plc;rcases Bb.mp h with rfl|h
  ·rw[if_pos rfl]
  ·rw[if_neg (λz=>nd.1 (Ac.mpr ⟨m,h,z.symm⟩))];exact ih nd.2 h
def PDt.get(x:PDt H d ps)(nd:((ps.map (·.2)).map (·.1)).Nodup)(j:H b=some (.tup (vP p))):(p∉(ps.map (·.2)).map (·.1)/\DGet H d (.ref b) none)\/∃y∈ps,y.2.1=p/\DGet H d (.ref b) (some (.ref y.1))/\H y.1=some (.tup (vP (plc (ps.map (·.2)) p))):=by
 have q:(ps.map (·.2)).map (·.1)=ps.map (·.2.1):=by rw[Ah];rfl
 by_cases h:p∈ps.map (·.2.1)
 ·obtain⟨y,f,rfl⟩:=Ac.mp h;refine .inr ⟨y,f,rfl,?_,?_⟩
  ·have e:=q4p (rs:=ps.map λx=>((x.2.1,.ref x.1):HRow)) (r:=(y.2.1,.ref y.1)) (Ac.mpr ⟨y,f,rfl⟩) (by rw[Ah];rw[q] at nd;exact nd);rw[<- e];exact q4h x.at_ j
  ·rw[q6u nd (Ac.mpr ⟨y,f,rfl⟩)];exact x.pr y f
 ·refine .inl ⟨by rw[q];exact h,?_⟩;rw[<- val_ps h];exact q4h x.at_ j
structure CallsAP (P) (w) (K) (mg) (base) (c):Prop where
 wished_places:Cal P w K mg base "wished_places" 5 Z3 (spWishedP c)
 m_rows:MCal P w K mg base c "rows" 2 Y5 (spHRows c)
noncomputable def spAllP(c:Addr):Sp:=λvs H Q _=>∃h d L bl rows zs,vs=[.ref h,.ref L]/\HallAt c H h d bl rows/\Hl bl rows/\rows.length<=60/\ML H L zs/\GoodW rows (zs.map (·.2))/\zs.length<=60 /\
 ∀D ps (rs:List Rw) H',H D=none->Same H H'->PDt H' D ps->rs.Perm rows->(rs.map (·.1)).Pairwise (λa b=>pLt b a=false)->ps.map (·.2)=rs.map (λr=>(r.1,plc (zs.map (·.2)) r.1))->Q (.ref D) H'
noncomputable abbrev q4b:Stmt:=top 19
def sc_all_places:FnScope Y6 Z3 (defScope q4b):=by trivial
def x6e(D:Df K mg "all_places" q4b Z3)(T:Txt mg)(C:CallsAP P w K mg base c):Cal P w K mg base "all_places" 6 Z3 (spAllP c):=by
 refine D.cal sc_all_places (λvs H Q E h=>?_) (λf a7 A outer s H vs Q E G h=>?_)
 ·obtain⟨h,d,L,bl,rows,J,rfl,_⟩:=h;rfl
 ·obtain⟨h,d,L,bl,rows,J,rfl,hh,hl,a8,ml,gw,few,k⟩:=h;refine⟨_,(q0c (q0i (i:=2) sc_all_places.nd rfl (by trivial) (pe_c C.wished_places G (q0a (pv 0) (q0a (pv 1) q0e)))) (q0f (q0o (z5a Y9 [("places",2)] rfl (@q3b _ _ _ _ K rfl (z6m C.m_rows G (pv 0))) (λ_ _ _ _ _=>(@q2h _ _ _ _ _ (2) K rfl rfl (q0l (q0h (i:=0) (show(Y1:List Str).Nodup by trivial) rfl (by trivial)) (q0l (q0h (i:=1) (show(Y1:List Str).Nodup by trivial) rfl (by trivial)) q1p)) (by rfl) (by rfl))) (λ_ _ _ _ _=>q2m) (λ_ _ _ _ _=>(pv 0)) (λ_ _ _ _ _=>(z4x (q1c G) (pv 2) (pv 0) (pv 0) ⟨rfl,rfl,rfl,rfl⟩)) (q1c G))))),?_⟩;refine⟨_,rfl,_,rfl,h,d,L,bl,rows,J,rfl,hh,hl,ml,gw,few,λD0 a0 H1 a9 s1 X e0=>?_⟩;obtain⟨dx,hi⟩:=hh.i;have a1:((a0.map (·.2)).map (·.1)).Nodup:=by rw[e0];exact gw.nd
  refine⟨_,rfl,h,dx,_,rfl,s1 _ _ hi,rfl,h,d,bl,rows,rfl,hh.same s1,by lia,λr G=>(hl.ok r G).low,λL2 zs2 H2 b0 s2 M O a2=>?_⟩;refine .inl ⟨L2,rfl,⟨_,SqL.of M.at_⟩,λR S=>?_⟩;have a3:((zs2.map (·.2)).map (·.1)).Nodup:=(hl.perm O).paths;have l2:zs2.length<=60:=by have:=O.length_eq;rw[Aa] at this;lia
  refine q9f (λi ys q=>∃j,ys=((j.map λx=>((x.2.1,.ref x.1):HRow)).map λr=>(kP r.1,r.2))/\PDt q R j/\Same H2 q/\j.map (·.2)=((zs2.map (·.2)).take i).map (λr=>(r.1,plc (J.map (·.2)) r.1))) ⟨[],rfl,⟨q0b,(λ_ h=>nomatch h)⟩,(Same.refl H2).new S,rfl⟩ (λi ys q h=>by obtain⟨j,e,pd,I,_⟩:=h;exact⟨by rw[e];exact pd.at_,SqL.of (I _ _ M.at_)⟩) ?_ ?_
  ·rintro i ys q v hv ⟨j,rfl,pd,I,B⟩;obtain⟨z,hz,rfl⟩:=refAt hv;have a4:(zs2.map (·.2))[i]?=some z.2:=by rw[Am,hz];rfl
   have e1:(zs2.map (·.2)).take (i+1)=(zs2.map (·.2)).take i++[z.2]:=by rw[Bc,a4];rfl
   have b1:i<zs2.length:=(Aj.mp hz).1;have pl:j.length<=60:=by
    have:=congrArg List.length B;rw[Aa,Aa,Bg,Aa] at this;lia
   obtain⟨b,h1,h2⟩:=(M.same I).pr z (Af hz);have a5:z.2.1∉j.map (·.2.1):=λY=>by
    have e2:j.map (·.2.1)=((zs2.map (·.2)).take i).map (·.1):=by
     have:j.map (·.2.1)=(j.map (·.2)).map (·.1):=by rw[Ah];rfl
     rw[this,B,Ah];rfl
    rw[e2] at Y;have e3:((zs2.map (·.2)).take (i+1)).map (·.1)=((zs2.map (·.2)).take i).map (·.1)++[z.2.1]:=by rw[e1,Ae];rfl
    have Z:(((zs2.map (·.2)).take (i+1)).map (·.1)).Nodup:=by rw[Ml];exact a3.sublist (Lq _ _)
    rw[e3] at Z;exact(Dv.mp Z).2.2 _ Y _ (Ak.mpr rfl) rfl
   refine⟨z.1,_,rfl,SqT.of h1,rfl,_,_,rfl,_,_,rfl,rfl,q3v,?_⟩;refine q6f (iteT ?_);refine⟨_,rfl,_,rfl,D0,rfl,.inr ⟨_,.inl ((s2.trans I) _ _ X.at_)⟩,_,rfl,_,rfl,?_⟩;have put:∀(e:Addr),q e=some (.tup (vP (plc (J.map (·.2)) z.2.1)))->∃k c,V.ref b=.ref c/\q c=some (.tup (k.map kV))/\q R=some (.dT ((j.map λx=>((x.2.1,.ref x.1):HRow)).map λr=>(kP r.1,r.2)))/\((j.map λx=>((x.2.1,.ref x.1):HRow)).map λr=>(kP r.1,r.2)).length<sizeLine /\
     ∃U,putK ((j.map λx=>((x.2.1,.ref x.1):HRow)).map λr=>(kP r.1,r.2)) k (.ref e)=((U.map λx=>((x.2.1,.ref x.1):HRow)).map λr=>(kP r.1,r.2))/\PDt (upd q R (.dT (putK ((j.map λx=>((x.2.1,.ref x.1):HRow)).map λr=>(kP r.1,r.2)) k (.ref e)))) R U/\Same H2 (upd q R (.dT (putK ((j.map λx=>((x.2.1,.ref x.1):HRow)).map λr=>(kP r.1,r.2)) k (.ref e))))/\U.map (·.2)=((zs2.map (·.2)).take (i+1)).map (λr=>(r.1,plc (J.map (·.2)) r.1)):=λe he=>by
    refine⟨kP z.2.1,b,rfl,by rw[q1w];exact h2,pd.at_,by rw[Aa,Aa];exact small' (by lia),j++[(e,(z.2.1,plc (J.map (·.2)) z.2.1))],?_⟩;have em:(j++[(e,(z.2.1,plc (J.map (·.2)) z.2.1))]).map (λx=>((x.2.1,.ref x.1):HRow))=(j.map λx=>((x.2.1,.ref x.1):HRow))++[(z.2.1,.ref e)]:=by rw[Ae];rfl
    rw[q2d (p:=z.2.1) (v:=.ref e) λr G z'=>by
     obtain⟨x,W,rfl⟩:=Ac.mp G;exact a5 (Ac.mpr ⟨x,W,z'⟩),em]
    refine⟨rfl,⟨by rw[q0b,em],λx W=>?_⟩,λx u eu=>?_,by rw[e1,Ae,Ae,B];rfl⟩
    ·have nD:∀(x:Addr) (xs:List V),q x=some (.tup xs)->upd q R (dR ((j.map λx=>((x.2.1,.ref x.1):HRow))++[(z.2.1,.ref e)])) x=some (.tup xs):=λx xs e=>by
      rw[q0d (q0q e pd.at_)];exact e
     rcases Ao.mp W with W|W
     ·exact nD _ _ (pd.pr x W)
     ·rw[Ak.mp W];exact nD _ _ he
    ·rw[q0d (q0q eu S)];exact I _ _ eu
   rcases(X.same (s2.trans I)).get a1 h2 with⟨hn,dg⟩|⟨y,hy,ey,dg,a6⟩
   ·refine⟨none,dg,put b ?_⟩;rw[q5v (by rw[<- e0];exact hn)];exact h2
   ·refine⟨some (.ref y.1),dg,put y.1 ?_⟩;rw[<- e0];exact a6
  ·rintro ys q ⟨j,rfl,pd,I,B⟩;rw[Aa,<- Aa (f:=λz:Zr=>z.2),Ba] at B;exact k R j (zs2.map (·.2)) q ((s1.trans s2).free S) ((s1.trans s2).trans I) pd O (by rw[Ah];exact a2) B
def z2r{i:Int}(h0:0<=i)(j:i<=xs.length):cutV xs (some i) none=xs.drop i.toNat:=by
 have f:HT.sIx xs.length 0 (some i)=i.toNat:=by
  show(if i<0 then(i+(xs.length:Int)).toNat else min i.toNat xs.length)=_;rw[if_neg (by lia)];lia
 have h:HT.sIx xs.length xs.length none=xs.length:=rfl;unfold cutV;rw[f,h];exact Fb (by rw[Du];exact Aq _)
noncomputable abbrev Tri:=Pth×Pth×Pth
noncomputable def rowT(bl:Bool)(f:Pth->Pth)(ps:List Pth)(i:Nat):List Tri:=match ps[i]? with
 |none=>[]
 |some p=>((ps.drop (i+1)).filter λq=>decide (fold bl (f p)=fold bl (f q))).map λq=>(p,q,f p)
noncomputable def accT(bl:Bool)(f:Pth->Pth)(ps:List Pth)(i:Nat):List Tri:=(List.range i).flatMap (rowT bl f ps)
def z2s:accT bl f ps (i+1)=accT bl f ps i++rowT bl f ps i:=by
 unfold accT;rw[List.range_succ,List.flatMap_append];simp
def x2v:(rowT bl f ps i).length<=ps.length:=by
 unfold rowT;split
 ·exact Bv _
 ·rw[Aa];refine Cc (Dh _ _) ?_;rw[Du];lia
theorem z5m:∀i,(accT bl f ps i).length<=i*ps.length
 |0=>by simp[accT]
 |i+1=>by
  rw[z2s,An,Nat.succ_mul];have:=z5m (bl:=bl) (f:=f) (ps:=ps) i;have:=x2v (bl:=bl) (f:=f) (ps:=ps) (i:=i);lia
noncomputable abbrev Zt:=Addr×Tri
noncomputable def TT3(H:Hp)(T:Addr)(t:Tri):Prop:=∃A B C,H T=some (.tup [.ref A,.ref B,.ref C])/\H A=some (.tup (vP t.1))/\H B=some (.tup (vP t.2.1))/\H C=some (.tup (vP t.2.2))
structure TL (H:Hp) (L) (ts:List Zt):Prop where
 at_:H L=some (.lst (ts.map λz=>V.ref z.1))
 pr:∀z∈ts,TT3 H z.1 z.2
def TT3.keep(h:TT3 H T t)(k:∀T xs,H T=some (.tup xs)->H' T=some (.tup xs)):TT3 H' T t:=let ⟨A,B,C,f,j,q,u⟩:=h;⟨A,B,C,k _ _ f,k _ _ j,k _ _ q,k _ _ u⟩
def TL.same(h:TL H L f)(s:Same H H'):TL H' L f:=⟨s _ _ h.at_,λz j=>(h.pr z j).keep λ_ _ e=>s _ _ e⟩
def TL.put(h:TL H L j)(u:TT3 H T t):TL (upd H L (.lst (j.map (λz=>V.ref z.1)++[.ref T]))) L (j++[(T,t)]):=by
 have tk:∀S q,H S=some (.tup q)->upd H L (.lst (j.map (λz=>V.ref z.1)++[.ref T])) S=some (.tup q):=λS q e=>by rw[q0d (q0q e h.at_)];exact e
 refine⟨by rw[q0b,Ae];rfl,λz f=>?_⟩;rcases Ao.mp f with f|f
 ·exact(h.pr z f).keep tk
 ·rw[Ak.mp f];exact u.keep tk
def x6f{rs:List Rw}(h:p∈rs.map (·.1)):plc (rs.map λr=>(r.1,plc ms r.1)) p=plc ms p:=by
 induction rs with
 |nil=>cases h
 |cons r rs ih =>
  rw[Ay];show(if r.1=p then plc ms r.1 else plc (rs.map λr=>(r.1,plc ms r.1)) p)=_;by_cases e:r.1=p
  ·rw[if_pos e,e]
  ·rw[if_neg e];rw[Ay] at h;exact ih ((Bb.mp h).resolve_left λz=>e z.symm)
def q1a(hl:Hl bl rows)(gw:GoodW rows ms)(hp:p∈rows.map (·.1)):okP (plc ms p):=by
 by_cases h:p∈ms.map (·.1)
 ·obtain⟨m,f,rfl⟩:=Ac.mp h;rw[q6u gw.nd f];exact(gw.all m f).ok
 ·rw[q5v h];obtain⟨r,j,rfl⟩:=Ac.mp hp;exact hl.ok r j
theorem x2w{H:Hp}:∀{bs} {ps},Er (λb p=>H b=some (.tup (vP p))) bs ps->∃zs:List (Addr×Pth),bs.map V.ref=zs.map (λz=>V.ref z.1)/\zs.map (·.2)=ps/\∀z∈zs,H z.1=some (.tup (vP z.2))
 |_,_,.nil=>⟨[],rfl,rfl,λ_ h=>nomatch h⟩
 |b::bs,p::ps,.cons h t=>by
  obtain⟨zs,j,q,u⟩:=x2w t;refine⟨(b,p)::zs,by rw[Ay,j];rfl,by rw[Ay,q],λz f=>?_⟩;rcases Bb.mp f with rfl|f
  ·exact h
  ·exact u z f
structure CallsMe (P) (w) (K) (mg) (base) (c):Prop where
 all_places:Cal P w K mg base "all_places" 6 Z3 (spAllP c)
 m_is_one_place:MCal P w K mg base c "is_one_place" 2 Zn (spOneP c)
noncomputable def spMeet(c:Addr):Sp:=λvs H Q _=>∃h d L bl rows zs,vs=[.ref h,.ref L]/\HallAt c H h d bl rows/\Hl bl rows/\rows.length<=30/\ML H L zs/\GoodW rows (zs.map (·.2))/\zs.length<=60 /\
 ∀L' ts ps H',H L'=none->Same H H'->TL H' L' ts->ps.Perm (rows.map (·.1))->ps.Pairwise (λa b=>pLt b a=false)->ts.map (·.2)=accT bl (plc (zs.map (·.2))) ps ps.length->Q (.ref L') H'
noncomputable abbrev q5h:Stmt:=top 20
def sc_meetings:FnScope ["hall", "wishes", "places", "paths", "told", "at", "one", "other"] Z3 (defScope q5h):=by trivial
def x6g(D:Df K mg "meetings" q5h Z3)(T:Txt mg)(C:CallsMe P w K mg base c):Cal P w K mg base "meetings" 7 Z3 (spMeet c):=by
 refine D.cal sc_meetings (λvs H Q E h=>?_) (λf f3 A outer s H vs Q E hr h=>?_)
 ·obtain⟨h,d,L,bl,rows,zs,rfl,_⟩:=h;rfl
 ·obtain⟨h,d,L,bl,rows,zs,rfl,hh,hl,f4,ml,gw,few,k⟩:=h;refine⟨_,(q0c (q0i (i:=2) sc_meetings.nd rfl (by trivial) (pe_c C.all_places hr (q0a (pv 0) (q0a (pv 1) q0e)))) (q0c (q0i (i:=3) sc_meetings.nd rfl (by trivial) (q0k (q4x hr) (by rfl) T.b_sorted (by trivial) (q0a (pv 2) q0e))) (q0c (q0i (i:=4) sc_meetings.nd rfl (by trivial) (q2f q0e)) (q0c (q1k Br rfl (@z4v _ _ _ _ _ _ _ _ K rfl rfl T.b_enumerate (q0a (pv 3) q0e) (by rfl)) (@q2h _ _ _ _ _ (2) K rfl rfl (q0l (q0h (i:=5) sc_meetings.nd rfl (by trivial)) (q0l (q0h (i:=6) sc_meetings.nd rfl (by trivial)) q1p)) (by rfl) (by rfl)) (q0f (q1k Br rfl (@q3b _ _ _ _ K rfl (q0p (sl_k K rfl) (pv 3) (q0s (q1l q1v (pv 5) q0g)) q0r)) (q0h (i:=7) sc_meetings.nd rfl (by trivial)) (q0f (q1b (@q7u _ _ _ K rfl (pe_m C.m_is_one_place hr (pv 0) (q0a (q0v (q1c hr) (pv 2) (pv 6) (λ_ _=>rfl)) (q0a (q0v (q1c hr) (pv 2) (pv 7) (λ_ _=>rfl)) q0e))) (λ_=>rfl)) (q0f (q1t (@bm_k _ _ _ _ _ _ _ _ _ _ _ _ K rfl Dx Eo Ep q2r (pv 4) (q0a (q1j (q0a (pv 6) (q0a (pv 7) (q0a (q0v (q1c hr) (pv 2) (pv 6) (λ_ _=>rfl)) q0e)))) q0e) (by rfl) (by rfl) (by rfl) (by rfl) (by rfl)))) q0m))))) (q0f (q0o (pv 4))))))),?_⟩;obtain⟨dx,hi⟩:=hh.i
  with_reducible refine gE λf5 f6 b7 b8=>?_
  refine⟨_,rfl,_,rfl,h,d,L,bl,rows,zs,rfl,hh,hl,by lia,ml,gw,few,λD0 O rs H1 f7 s1 a1 U f8 e0=>?_⟩;have b9:(O.map λx=>((x.2.1,.ref x.1):HRow)).map (·.1)=rs.map (·.1):=by
   have:(O.map λx=>((x.2.1,.ref x.1):HRow)).map (·.1)=(O.map (·.2)).map (·.1):=by rw[Ah,Ah];rfl
   rw[this,e0,Ah];rfl
  have f9:rs.length=rows.length:=U.length_eq;have g0:O.length=rs.length:=by have:=congrArg List.length e0;rw[Aa,Aa] at this;exact this
  have d1:((O.map (·.2)).map (·.1)).Nodup:=by
   have e:(O.map (·.2)).map (·.1)=rs.map (·.1):=by rw[e0,Ah];rfl
   rw[e];exact(hl.perm U).paths
  refine gY b8 λe9 a2=>?_;refine⟨_,rfl,D0,_,rfl,a1.at_,by rw[Aa];lia,λr hr=>?_,λL2 bs I d2 c0 d3 c1=>?_⟩
  ·have d4:r.1∈rs.map (·.1):=by rw[<- b9];exact Ac.mpr ⟨r,hr,rfl⟩
   obtain⟨y,hy,e⟩:=Ac.mp d4;rw[<- e];exact(hl.ok y (U.mem_iff.mp hy)).ne
  rw[b9] at c0;obtain⟨B,x1,x2,x3⟩:=x2w c1;rw[x1];have a3:I.Perm (rows.map (·.1)):=c0.trans (U.map _);have xl:B.length<=30:=by
   have e1:=congrArg List.length x2;have e2:=a3.length_eq;rw[Aa] at e1 e2;lia
  have s2:=(Same.refl H1).new (o:=.lst (B.map λz=>V.ref z.1)) d2;have W:upd H1 L2 (.lst (B.map λz=>V.ref z.1)) L2=some (.lst (B.map λz=>V.ref z.1)):=q0b;have X:∀z∈B,upd H1 L2 (.lst (B.map λz=>V.ref z.1)) z.1=some (.tup (vP z.2)):=λz S=>s2 _ _ (x3 z S);have Y:=s1.trans s2;have c2:=a1.same s2;generalize upd H1 L2 (.lst (B.map λz=>V.ref z.1))=H2 at s2 W X Y c2;clear x3 c1 x1 s2 a1;have d5:I.length=B.length:=by rw[<- x2,Aa]
  have a0:∀z∈B,z.2∈rows.map (·.1):=λz S=>a3.mem_iff.mp (by rw[<- x2];exact Ac.mpr ⟨z,S,rfl⟩);have get:∀{R:Hp} (z:Addr×Pth),z∈B->Same H2 R->∃e,DGet R D0 (.ref z.1) (some (.ref e))/\R e=some (.tup (vP (plc (zs.map (·.2)) z.2))):=λ{R} z S s'=>by
   have c3:z.2∈rs.map (·.1):=(U.map _).mem_iff.mpr (a0 z S);rcases(c2.same s').get d1 (s' _ _ (X z S)) with⟨hn,_⟩|⟨y,hy,ey,dg,c4⟩
   ·exact absurd (by rw[e0,Ah];exact c3) hn
   ·refine⟨y.1,dg,?_⟩;rw[e0,x6f c3] at c4;exact c4
  have a4:∀z∈B,okP (plc (zs.map (·.2)) z.2):=λz S=>q1a hl gw (a0 z S);generalize hf:plc (zs.map (·.2))=f at get a4 k;have c5:=Y _ _ hi;refine gY a2 λf0 a5=>?_;refine⟨by show 0<=sizeLine;decide,λL3 a6=>?_⟩;have s3:=(Same.refl H2).new (o:=.lst []) a6;refine gY a5 λf1 a7=>?_;refine⟨_,rfl,.inr ⟨L2,_,rfl,SqL.of (s3 _ _ W),?_⟩⟩;refine q5t (λi G R=>∃M x5 x6 x7,G=[some (.ref h),some (.ref L),some (.ref D0),some (.ref L2),some (.ref L3),x5,x6,x7]/\Same H2 R/\TL R L3 M/\M.map (·.2)=accT bl f I i) ⟨[],none,none,none,rfl,s3,⟨q0b,(λ_ h=>nomatch h)⟩,rfl⟩ (λi G R x=>by obtain⟨_,_,_,_,_,s',_⟩:=x;exact SqL.of (s' _ _ W)) ?_ ?_
  ·rintro i v T' G H4 hv ⟨M,x5,x6,x7,rfl,s4,a8,a9⟩ hT;obtain⟨z,S,rfl⟩:=refAt hv;have Z:=Af S;have g1:i<B.length:=(Aj.mp S).1;have d6:I[i]?=some z.2:=by rw[<- x2,Am,S];rfl
   have sT:=(Same.refl H4).new (o:=.tup [.int i,.ref z.1]) hT;refine⟨T',_,rfl,SqT.of q0b,rfl,_,_,rfl,_,_,rfl,rfl,?_⟩;have s5:=s4.trans sT;have c6:=a8.same sT;refine⟨_,rfl,_,rfl,.inl ⟨_,_,rfl,rfl,_,rfl,.inr (.inl ⟨L2,_,rfl,SqL.of (s5 _ _ W),λL5 c7=>?_⟩)⟩⟩;have ec:cutV (B.map λz=>V.ref z.1) (some ((i:Int)+1)) none=(B.drop (i+1)).map λz=>V.ref z.1:=by
    rw[z2r (by lia) (by rw[Aa];lia),Mm];congr 1
   rw[ec];have s6':=(Same.refl (upd H4 T' (.tup [.int i,.ref z.1]))).new (o:=.lst ((B.drop (i+1)).map λz=>V.ref z.1)) c7;have s6:=s5.trans s6';have c8:=c6.same s6';have b0:upd (upd H4 T' (.tup [.int i,.ref z.1])) L5 (.lst ((B.drop (i+1)).map λz=>V.ref z.1)) L5=some (.lst ((B.drop (i+1)).map λz=>V.ref z.1)):=q0b;have c9:L5≠L3:=q0q c7 c6.at_;generalize upd (upd H4 T' (.tup [.int i,.ref z.1])) L5 (.lst ((B.drop (i+1)).map λz=>V.ref z.1))=H6 at s6' s6 c8 b0;refine .inl ⟨L5,rfl,⟨_,SqL.of b0⟩,?_⟩;refine q3m (xs:=(B.drop (i+1)).map λz=>V.ref z.1) (λj G R=>∃M x7,G=[some (.ref h),some (.ref L),some (.ref D0),some (.ref L2),some (.ref L3),some (.int (i:Int)),some (.ref z.1),x7]/\Same H2 R/\TL R L3 M/\R L5=some (.lst ((B.drop (i+1)).map λz=>V.ref z.1))/\M.map (·.2)=accT bl f I i++(((I.drop (i+1)).take j).filter λq=>decide (fold bl (f z.2)=fold bl (f q))).map λq=>(z.2,q,f z.2))
    ⟨M,x7,rfl,s6,c8,b0,by rw[a9];simp⟩ (λj G R _ x=>by obtain⟨_,_,_,_,_,h5,_⟩:=x;exact SqL.of h5) ?_ ?_
   ·rintro j v G H7 hv ⟨M,x7,rfl,s7,b1,b2,J⟩;obtain⟨y,hy,rfl⟩:∃y,(B.drop (i+1))[j]?=some y/\v=.ref y.1:=by
     rw[Am] at hv;cases e:(B.drop (i+1))[j]? with
     |none=>rw[e] at hv;cases hv
     |some y=>rw[e] at hv;cases hv;exact⟨y,rfl,rfl⟩
    have b3:y∈B:=Td (Af hy);have d7:(I.drop (i+1))[j]?=some y.2:=by rw[<- x2,<- Mm,Am,hy];rfl
    have e1:(I.drop (i+1)).take (j+1)=(I.drop (i+1)).take j++[y.2]:=by rw[Bc,d7];rfl
    obtain⟨ez,dz,d8⟩:=get z Z s7;obtain⟨ey,dy,d9⟩:=get y b3 s7;refine⟨_,rfl,h,dx,_,rfl,s7 _ _ c5,rfl,_,rfl,_,rfl,D0,_,rfl,dz,_,rfl,_,rfl,D0,_,rfl,dy,h,ez,ey,bl,dx,_,f z.2,f y.2,rfl,s7 _ _ c5,rfl,d8,d9,a4 z Z,a4 y b3,λH8 s8=>⟨_,rfl,?_⟩⟩;have b4:=s7.trans s8;have b5:=b1.same s8;have f2:M.length<=930:=by
     have e2:=congrArg List.length J;rw[Aa,An,Aa] at e2;have e3:=z5m (bl:=bl) (f:=f) (ps:=I) i;have e4:((((I.drop (i+1)).take j).filter λq=>decide (fold bl (f z.2)=fold bl (f q)))).length<=I.length:=by
      refine Cc (Dh _ _) ?_;rw[Bg,Du];lia
     have e5:i*I.length<=30*30:=Nat.mul_le_mul (by lia) (by lia);lia
    refine iteB (λhc=>?_) (λhc=>?_)
    ·obtain⟨b6,e6,e7⟩:=get z Z b4;refine⟨_,rfl,.inl ⟨rfl,_,SqL.of b5.at_⟩,_,rfl,_,rfl,_,rfl,_,rfl,D0,_,rfl,e6,by show 3<=sizeLine;decide,λT1 e8=>?_⟩;have s9':=(Same.refl H8).new (o:=.tup [.ref z.1,.ref y.1,.ref b6]) e8;have s9:=b4.trans s9';have d0:=b5.same s9';have tt:TT3 (upd H8 T1 (.tup [.ref z.1,.ref y.1,.ref b6])) T1 (z.2,y.2,f z.2):=⟨z.1,y.1,b6,q0b,s9 _ _ (X z Z),s9 _ _ (X y b3),s9' _ _ e7⟩
     refine⟨L3,_,_,rfl,rfl,d0.at_,by rw[Aa];exact small' (by lia),?_⟩;refine⟨M++[(T1,(z.2,y.2,f z.2))],_,rfl,λx u e=>by rw[q0d (q0q e a6)];exact s9 _ _ e,d0.put tt,by rw[q0d c9];exact s9' _ _ (s8 _ _ b2),?_⟩;rw[Ae,J,e1,Dy,Dj (by simpa using hc),Ae,<- Fh];rfl
    ·refine⟨M,_,rfl,b4,b5,s8 _ _ b2,?_⟩;rw[J,e1,Dy,Di (by simpa using hc)];simp
   ·rintro G H7 ⟨M,x7,rfl,s7,b1,b2,J⟩;refine⟨M,_,_,_,rfl,s7,b1,?_⟩;rw[z2s,J];congr 1;unfold rowT;rw[d6];have e2:(I.drop (i+1)).take ((B.drop (i+1)).map λz=>V.ref z.1).length=I.drop (i+1):=Fb (by rw[Aa,Du,Du];lia);rw[e2]
  ·rintro G H4 ⟨M,x5,x6,x7,rfl,s4,a8,a9⟩;try subst b7
   subst a7;refine⟨_,rfl,k L3 M I H4 (Y.free a6) (Y.trans s4) a8 a3 d3 ?_⟩;rw[a9,Aa,d5]
structure PL (H:Hp) (L) (zs:List (Addr×Pth)):Prop where
 at_:H L=some (.lst (zs.map λz=>V.ref z.1))
 pr:∀z∈zs,H z.1=some (.tup (vP z.2))/\okP z.2
def PL.same(h:PL H L zs)(s:Same H H'):PL H' L zs:=⟨s _ _ h.at_,λz f=>⟨s _ _ (h.pr z f).1,(h.pr z f).2⟩⟩
def PL.fd(h:PL H L zs)(F:FeedAt H a b)(fd:Fd a b H H')(j:L≠a):PL H' L zs:=⟨fd.at h.at_ j,λz f=>⟨tupFd F fd _ _ (h.pr z f).1,(h.pr z f).2⟩⟩
def PL.get(h:PL H L zs){r:Int}(q:0<=r)(u:r<zs.length):∃z∈zs,atI (zs.map λz=>V.ref z.1) r=some (.ref z.1):=by
 obtain⟨v,f,j⟩:=q8y (xs:=zs.map λz=>V.ref z.1) q (by rw[Aa];exact u);rw[Am] at f;cases e:zs[r.toNat]? with
 |none=>rw[e] at f;cases f
 |some z=>rw[e] at f;cases f;exact⟨z,Af e,j⟩
def x6h:∀c∈HM.NS,Cf (Mu c)=Cf c:=by trivial
def x6i:∀c∈HM.NS,Cf (Cf c)=Cf c:=by trivial
structure CallsOC (P) (w) (K) (mg) (base):Prop where
 draw:Cal P w K mg base "_law_draw" 1 Z7 spDraw
noncomputable def spOther:Sp:=λvs H Q _=>∃a b n,vs=[.ref a,.str (mk n)]/\FeedAt H a b/\okN n/\∀n' H',okN n'->lowN n'=lowN n->Fd a b H H'->Q (.str (mk n')) H'
noncomputable abbrev q4c:Stmt:=top 49
def z0o:FnScope Zs Zs (defScope q4c):=by trivial
def z0p(D:Df K mg "_law_other_case" q4c Zs)(T:Txt mg)(C:CallsOC P w K mg base):Cal P w K mg base "_law_other_case" 2 Zs spOther:=by
 refine D.cal z0o (λvs H Q E h=>?_) (λf a6 A outer s H vs Q E hr h=>?_)
 ·obtain⟨a,b,n,rfl,_⟩:=h;rfl
 ·obtain⟨a,b,n,rfl,F,ok,k⟩:=h;refine⟨_,(q0f (q0o (@bm_k _ _ _ _ _ _ _ _ _ _ _ _ K rfl Fe So Sq (x3t K rfl) q6r (q0a (q1x ["_law_sign"] [("_law_feed",0)] rfl (@q3b _ _ _ _ K rfl (pv 1)) (λ_ _ _ _ _=>(q0h (i:=0) (show(["_law_sign", "_law_feed"]:List Str).Nodup by trivial) rfl (by trivial))) (λ_ _ _ _ _=>q2m) (λ_ _ _ _ _=>(q1q (ix_k K rfl) (q2f (q0a (pv 0) (q0a (@z1o _ _ _ _ _ _ _ _ _ K rfl Fe PySem.F.slot_str_upper PySem.F.type_str_upper x1t (pv 0) (by rfl) (by rfl)) (q0a (@z1o _ _ _ _ _ _ _ _ _ K rfl Fe Jk Jl q6z (pv 0) (by rfl) (by rfl)) q0e)))) (pe_c C.draw hr (q0a (pv 1) (q0a q0g q0e))) (λ_ _=>rfl)))) q0e) (by rfl) (by rfl) (by rfl) (by rfl) (by rfl)))),?_⟩;have B:(mk n).length=n.length:=by rw[len,q3w]
  have a5:=ok.few;refine⟨rfl,_,rfl,.inr (.inr ⟨_,rfl,λD Z=>?_⟩)⟩;refine z8f (λi U X=>∃j:List Nat,U=j.map (λc=>V.str ⟨#[c]⟩)/\j.length=i/\i<=n.length/\(∀c∈j,c∈HM.NS)/\Fd a b H X/\X D=some (.lst U)/\j.map Cf=(n.take i).map Cf) ⟨[],rfl,rfl,Bv _,λ_ h=>(nomatch h),(Fd.refl F).new Z,q0b,rfl⟩ (λi U X ⟨j,_,_,_,_,_,h,_⟩=>h) ?_ ?_
  ·rintro i U X c hc ⟨j,rfl,u,_,I,fd,v,J⟩;have L:n[i]?=some c:=by have:=get hc;rw[q3w] at this;exact this
   have hi:i<n.length:=(Aj.mp L).1;have q:=ok.all c (Af L);have G:∀x∈[c],x<128:=λx hx=>by rw[Ak.mp hx];exact x3z c q
   have eu:Wm (⟨#[c]⟩:Str)=⟨#[Mu c]⟩:=x2l (n:=[c]) G;have el:Jg (⟨#[c]⟩:Str)=⟨#[Cf c]⟩:=z5i (n:=[c]) G;refine⟨_,rfl,_,rfl,rfl,_,rfl,rfl,by show 3*1<=sizeLine;decide,?_⟩;rw[eu];refine⟨_,rfl,rfl,_,rfl,rfl,by show 3*1<=sizeLine;decide,?_⟩;rw[el];refine⟨by show 3<=sizeLine;decide,λM Y=>?_⟩;have a0:M≠a:=(fd.feed.na Y).symm;have W:=fd.new (o:=.lst [.str ⟨#[c]⟩,.str ⟨#[Mu c]⟩,.str ⟨#[Cf c]⟩]) Y;have a1:D≠M:=λy=>by rw[<- y,v] at Y;cases Y
   have a2:D≠a:=(F.na Z).symm;refine⟨_,rfl,a,b,_,rfl,W.feed,by decide,by decide,λr H2 r0 r1 O=>?_⟩;have R:∃S,atI [V.str ⟨#[c]⟩,V.str ⟨#[Mu c]⟩,V.str ⟨#[Cf c]⟩] r=some (.str ⟨#[S]⟩)/\S∈HM.NS/\Cf S=Cf c:=by
    have e:r=0\/r=1\/r=2:=by lia
    rcases e with rfl|rfl|rfl
    ·exact⟨c,rfl,q,rfl⟩
    ·exact⟨_,rfl,ns_up c q,x6h c q⟩
    ·exact⟨_,rfl,ns_lo c q,x6i c q⟩
   obtain⟨S,R,a3,a4⟩:=R;refine .inl ⟨M,_,r,_,rfl,rfl,SqL.of (O.at q0b a0),R,?_⟩;refine⟨O.at (by rw[q0d a1];exact v) a2,small' (by rw[Aa];lia),j++[S],by rw[Ae];rfl,by rw[An,u];rfl,hi,λx hx=>?_,(W.trans O).put F Z,q0b,by rw[Ae,J,Bc,L,Ae];show _++[Cf S]=_;rw[a4];rfl⟩;rcases Ao.mp hx with y|y
   ·exact I x y
   ·rw[Ak.mp y];exact a3
  ·rintro U H2 ⟨j,rfl,u,_,I,fd,v,J⟩;rw[B] at u;have e:j.map (λc=>V.str ⟨#[c]⟩)=(j.map λc=>(⟨#[c]⟩:Str)).map V.str:=by rw[Ah];rfl
   refine⟨_,D,j.map λc=>⟨#[c]⟩,rfl,rfl,.inl (SqL.of (by rw[<- e];exact v)),?_,?_⟩
   ·rw[z4u,Aa];have:(Ar "").length=0:=by trivial
    rw[this,u];exact small (by lia)
   ·have z:=z1p j;rw[z];have:=ok.one;exact k j H2 ⟨by lia,by lia,I⟩ (by unfold lowN;rw[J,B,Ba]) fd
noncomputable def lenAt(L:Addr)(H:Hp):Nat:=match H L with|some (.lst xs)=>xs.length|_=>0
def q4z(h:H L=some (.lst xs)):lenAt L H=xs.length:=by unfold lenAt;rw[h]
theorem ers_map{h j:Type}(f:h->j):∀(l:List h)  k ,(l.map f).eraseIdx k=(l.eraseIdx k).map f
 |[],_=>rfl
 |_::_,0=>rfl
 |a::l,k+1=>by show f a::(l.map f).eraseIdx k=f a::(l.eraseIdx k).map f;rw[ers_map f l k]
theorem z5n{f:Type}{z}:∀{l:List f} {k},l[k]?=some z->l.Perm (z::l.eraseIdx k)
 |[],_,h=>by cases h
 |a::l,0,h=>by cases h;exact List.Perm.refl _
 |a::l,k+1,h=>by
  show(a::l).Perm (z::a::l.eraseIdx k);exact((z5n (l:=l) (k:=k) h).cons a).trans (List.Perm.swap _ _ _)
structure GG (K) {α:Type} (G:Hp->Addr->α->Prop):Prop where
 keep:∀{H H'} {T} {t},G H T t->(∀T xs,H T=some (.tup xs)->H' T=some (.tup xs))->G H' T t
 dat:∀{H} {T} {t},G H T t->∃d,Dt K H (.ref T) d/\d.canLay0=true
structure GL {α:Type} (G:Hp->Addr->α->Prop) (H:Hp) (L) (zs:List (Addr×α)):Prop where
 at_:H L=some (.lst (zs.map λz=>V.ref z.1))
 pr:∀z∈zs,G H z.1 z.2
section
variable{α:Type}{G:Hp->Addr->α->Prop}
def GL.same(g:GG K G)(h:GL G H L zs)(s:Same H H'):GL G H' L zs:=⟨s _ _ h.at_,λz f=>g.keep (h.pr z f) λT j e=>s _ _ e⟩
def GL.fd(g:GG K G)(h:GL G H L zs)(F:FeedAt H a b)(fd:Fd a b H H')(f:L≠a):GL G H' L zs:=⟨fd.at h.at_ f,λz j=>g.keep (h.pr z j) λT q e=>tupFd F fd _ _ e⟩
theorem dts_G(g:GG K G):∀{zs:List (Addr×α)},(∀z∈zs,G H z.1 z.2)->∃f,Dts K H (zs.map λz=>V.ref z.1) f/\Cn f=true/\(f=[]↔zs=[])
 |[],_=>⟨[],.nil,by simp[Cn],by simp⟩
 |z::zs,h=>by
  obtain⟨f,j,q,_⟩:=dts_G g λy u=>h y (Ap _ u)
  obtain⟨d,v,B⟩:=g.dat (h z Au);exact⟨d::f,.cons v j,by simp only[Cn,B,q,Pe],by simp⟩
def ne_noG(g:GG K G)(h:GL G H L zs)(q:H E=some (.lst []))(k:Q (.bl (!zs.isEmpty)) H):rNeU K (.ref L) (.ref E) H Q:=by
 obtain⟨f,u,v,j⟩:=dts_G g h.pr;refine .inr ⟨_,_,.lst (SqL.of h.at_) u,.lst (SqL.of q) .nil,by simp only[Fz];exact v,by simp[Fz,Cn],?_,?_⟩
 ·have:(Cs.list []).depth<=100:=by simp[Iz,Gf]
  lia
 ·have e:Fw (.list f) (.list [])=zs.isEmpty:=by
   cases f with
   |nil=>rw[j.mp rfl];simp[Fw,Ib]
   |cons d f =>
    cases zs with
    |nil=>cases j.mpr rfl
    |cons _ _=>simp[Fw,Ib]
  rw[e];exact k
end
structure SmI  (G:Hp->Addr->α->Prop) (H) (a b Lf M) (zs) (H') (zl zf):Prop where
 fd:Fd a b H H'
 l:GL G H' Lf zl
 m:GL G H' M zf
 p:(zl++zf).Perm zs
section
variable{α:Type}{G:Hp->Addr->α->Prop}{H:Hp}{a b Lf M:Addr}{zs:List (Addr×α)}{H' H2:Hp}{zl zf:List (Addr×α)}
def SmI.go(g:GG K G)(x:SmI G H a b Lf M zs H' zl zf)(fd:Fd a b H' H2)(f:Lf≠a)(h:M≠a):SmI G H a b Lf M zs H2 zl zf:=⟨x.fd.trans fd,x.l.fd g x.fd.feed fd f,x.m.fd g x.fd.feed fd h,x.p⟩
def SmI.mv(g:GG K G)(x:SmI G H a b Lf M zs H' zl zf)(F:FeedAt H a b)(q:H Lf=none)(u:H M=none)(n:M≠Lf)(j:zl[k]?=some z):
  SmI G H a b Lf M zs (upd (upd H' Lf (.lst ((zl.map λz=>V.ref z.1).eraseIdx k))) M (.lst (zf.map (λz=>V.ref z.1)++[.ref z.1]))) (zl.eraseIdx k) (zf++[z]):=by
 have tk:∀S h,H' S=some (.tup h)->upd (upd H' Lf (.lst ((zl.map λz=>V.ref z.1).eraseIdx k))) M (.lst (zf.map (λz=>V.ref z.1)++[.ref z.1])) S=some (.tup h):=λS h e=>by
  rw[q0d (q0q e x.m.at_),q0d (q0q e x.l.at_)];exact e
 refine⟨(x.fd.put F q).put F u,⟨?_,λy f=>g.keep (x.l.pr y (List.mem_of_mem_eraseIdx f)) tk⟩,⟨by rw[q0b,Ae];rfl,λy f=>?_⟩,?_⟩
 ·rw[q0d n.symm,q0b,ers_map]
 ·rcases Ao.mp f with f|f
  ·exact g.keep (x.m.pr y f) tk
  ·rw[Ak.mp f];exact g.keep (x.l.pr z (Af j)) tk
 ·refine List.Perm.trans ?_ x.p;have e:zl.Perm (z::zl.eraseIdx k):=z5n j;have v:(zl.eraseIdx k++(zf++[z])).Perm (z::(zl.eraseIdx k++zf)):=by
   rw[<- Fh];exact Kg _ _
  exact v.trans (Mh zf e.symm)
end
noncomputable def spSome(K:Al):Sp:=λvs H Q _=>∃(α:Type) (G:Hp->Addr->α->Prop) (a b L:Addr) (zs:List (Addr×α)) (n:Int),GG K G/\vs=[.ref a,.ref L,.int n]/\FeedAt H a b/\GL G H L zs/\zs.length<=60/\∀M zf zr H',Fd a b H H'->H M=none->GL G H' M zf->(zr++zf).Perm zs->(n<=zf.length\/zr=[])->Q (.ref M) H'
noncomputable abbrev q6h:Stmt:=top 50
def sc_some_of:FnScope ["_law_feed", "_law_things", "_law_many", "_law_left", "_law_found"] Zb (defScope q6h):=by trivial
def z6v(D:Df K mg "_law_some_of" q6h Zb)(T:Txt mg)(C:CallsOC P w K mg base):Cal P w K mg base "_law_some_of" 2 Zb (spSome K):=by
 refine D.cal sc_some_of (λvs H Q E h=>?_) (λf b0 A outer s H vs Q E hr h=>?_)
 ·obtain⟨α,G,a,b,L,B,n,g,rfl,_⟩:=h;rfl
 ·obtain⟨α,G,a,b,L,B,n,g,rfl,F,hl,b1,k⟩:=h;refine⟨_,(q0c (q0i (i:=3) sc_some_of.nd rfl (by trivial) (q3d (x3s K rfl) (by rfl) T.b_list (by trivial) (q0a (pv 1) q0e))) (q0c (q0i (i:=4) sc_some_of.nd rfl (by trivial) (q2f q0e)) (q0c (q9u Br (pt_j (@PW.pt _ _ _ (q2z (q0n x1i (q0k (q3l K rfl) (by rfl) T.b_len Cd (q0a (pv 4) q0e)) (pv 2) (nomark _)) (q2a (q0n (ne_k K rfl hr) (pv 3) (q2f q0e) (nomark _)))))) (q0f (q1t (@bm_k _ _ _ _ _ _ _ _ _ _ _ _ K rfl Dx Eo Ep q2r (pv 4) (q0a (@bm_k _ _ _ _ _ _ _ _ _ _ _ _ K rfl Dx PySem.F.slot_list_pop PySem.F.type_list_pop x1r (pv 3) (q0a (pe_c C.draw hr (q0a (pv 0) (q0a (q0k (q3l K rfl) (by rfl) T.b_len Cd (q0a (pv 3) q0e)) q0e))) q0e) (by rfl) (by rfl) (by rfl) (by rfl) (by rfl)) q0e) (by rfl) (by rfl) (by rfl) (by rfl) (by rfl))))) (q0f (q0o (pv 4)))))),?_⟩;refine⟨_,rfl,L,_,rfl,.inl (SqL.of hl.at_),λu S=>⟨by show 0<=sizeLine;decide,λM hM=>?_⟩⟩;have s1:=(Same.refl H).new (o:=.lst (B.map λz=>V.ref z.1)) S;have s2:=s1.new (o:=.lst []) hM;have U:M≠u:=q0q hM q0b;have W:H M=none:=s1.free hM;have a0:u≠a:=(F.na S).symm;have a1:M≠a:=(F.na W).symm;have I0:SmI G H a b u M B (upd (upd H u (.lst (B.map λz=>V.ref z.1))) M (.lst [])) B [] :=
   ⟨(Fd.refl F).same s2,⟨by rw[q0d U.symm];exact q0b,(hl.same g s2).pr⟩,⟨q0b,(λ_ h=>nomatch h)⟩,by rw[Cu]⟩
  refine q9v (λX O=>∃J Y,X=[some (.ref a),some (.ref L),some (.int n),some (.ref u),some (.ref M)]/\SmI G H a b u M B O J Y) (λ_ O=>lenAt u O) ⟨B,[],rfl,I0⟩ ?_ ?_
  ·rintro X O ⟨J,Y,rfl,I⟩;have a8:J.length+Y.length=B.length:=by rw[<- An];exact I.p.length_eq
   refine⟨λbb H4=>SmI G H a b u M B H4 J Y/\lenAt u H4=lenAt u O/\(bb=true->J≠[])/\(bb=false->n<=Y.length\/J=[]),?_,?_⟩
   ·rintro bb H4 ⟨q,el,hb,a2⟩;refine ite2 (λh=>?_) (λh=>⟨_,rfl,k M Y J _ q.fd W q.m q.p (a2 (by simpa using h))⟩);have a3:=hb h;have a9:=Bi.mpr a3;refine⟨_,rfl,.inl ⟨rfl,_,SqL.of q.m.at_⟩,_,rfl,.inl ⟨rfl,_,SqL.of q.l.at_⟩,_,rfl,_,rfl,_,_,rfl,.inl ⟨_,SqL.of q.l.at_,rfl⟩,a,b,_,rfl,q.fd.feed,by rw[Aa];lia,by rw[Aa];lia,λr H5 r0 r1 a4=>?_⟩;rw[Aa] at r1;have I2:=q.go g a4 a0 a1;obtain⟨v,b2,a5⟩:=q8y (xs:=J) r0 r1;obtain⟨j,a6,Z,a7,_,_⟩:=q9w a5;refine⟨u,_,r,j,.ref v.1,rfl,rfl,I2.l.at_,by lia,by lia,by rw[Aa];exact a6,by rw[Am,Z];rfl,?_⟩;refine⟨M,_,_,rfl,rfl,by rw[q0d U];exact I2.m.at_,by rw[Aa];exact small' (by lia),?_⟩;have I3:=I2.mv g F S W U Z;refine⟨⟨_,_,rfl,I3⟩,?_⟩;rw[<- el,q4z I3.l.at_,q4z q.l.at_,Aa,Aa,List.length_eraseIdx,if_pos a7];lia
   ·refine⟨_,rfl,_,_,rfl,.inl ⟨_,SqL.of I.m.at_,rfl⟩,_,rfl,_,_,rfl,rfl,_,rfl,?_⟩;refine iteB (λe=>?_) (λe=>⟨I,rfl,(λz=>by cases z),λ_=>.inl ?_⟩)
    ·refine⟨_,rfl,by show 0<=sizeLine;decide,λE hE=>?_⟩;have sE:=(Same.refl O).new (o:=.lst []) hE;have q:SmI G H a b u M B (upd O E (.lst [])) J Y:=⟨I.fd.same sE,I.l.same g sE,I.m.same g sE,I.p⟩
     refine ne_noG g q.l q0b ⟨_,rfl,q,by rw[q4z q.l.at_,q4z I.l.at_],λh=>by simpa using h,λh=>.inr (by simpa using h)⟩
    ·have:=of_decide_eq_false e;rw[Aa] at this;lia
  ·intro X O Q1 Q2 hq h;obtain⟨R,h1,h2⟩:=h;exact⟨R,λb H1 r=>hq _ _ (h1 b H1 r),h2⟩
theorem foldR:∀{rs acc:List HRow},((acc++rs).map (·.1)).Nodup->rs.foldl putR (acc.map λr=>(kP r.1,r.2))=(acc++rs).map λr=>(kP r.1,r.2)
 |[],acc,_=>by rw[Cu];rfl
 |r::rs,acc,nd=>by
  have e:acc++r::rs=(acc++[r])++rs:=by rw[Fh];rfl
  show rs.foldl putR (putK (acc.map λr=>(kP r.1,r.2)) (kP r.1) r.2)=_;rw[q2d (p:=r.1) (v:=r.2) λx f z=>by
   rw[Ae,Ay] at nd;exact(Dv.mp nd).2.2 _ (Ac.mpr ⟨x,f,rfl⟩) _ Au z]
  rw[e] at nd ⊢;exact foldR nd
def z2t{zs:List Zr}(hl:Hl bl (zs.map (·.2))):HO.dT ((zs.map λz=>rR z.2).foldl putR [])=dR ((zs.map (·.2)).map rR):=by
 have h:(zs.map λz=>rR z.2)=(zs.map (·.2)).map rR:=by rw[Ah];rfl
 have f:(((zs.map (·.2)).map rR).map (·.1)).Nodup:=by rw[Ah];exact hl.paths
 rw[h];exact congrArg HO.dT (foldR (acc:=[]) f)
def q8h(q:h x=none)(j:h f=none)(hd:upd (upd h f (.own x)) x (.ins c f []) d=none)(k:∀a u,a≠x->upd (upd h f (.own x)) x (.ins c f []) a=some u->H' a=some u):Same h H'/\h d=none:=by
 refine⟨λa u e=>k a u (q0q e q) ?_,?_⟩
 ·rw[q0d (q0q e q),q0d (q0q e j)];exact e
 ·have v:d≠x:=q0q hd q0b;rw[q0d v] at hd;have B:d≠f:=q0q hd q0b;rw[q0d B] at hd;exact hd
def z3y(h:RL f L zs)(v:f x=none)(q:f j=none):RL (upd (upd f j (.own x)) x (.ins c j [])) L zs:=h.same λa u e=>by
 rw[q0d (q0q e v),q0d (q0q e q)];exact e
def z9w(x:HallAt c H h d bl rows)(F:FeedAt H a b)(fd:Fd a b H H'):HallAt c H' h d bl rows:=by
 obtain⟨i,j,q⟩:=F.fa;exact⟨x.i.imp λf e=>fd.at e λz=>by(rw[z,q] at e;cases e),fd.at x.d λz=>by have e:=x.d;rw[z,q] at e;cases e⟩
def x6j(x:H m=some (dR rs))(F:FeedAt H a b)(fd:Fd a b H H'):H' m=some (dR rs):=by
 obtain⟨i,j,q⟩:=F.fa;exact fd.at x λz=>by rw[z,q] at x;cases x
structure CallsAs (P) (w) (K) (mg) (base) (c):Prop where
 meetings:Cal P w K mg base "meetings" 7 Z3 (spMeet c)
def x6k(nd:(ps.map λp=>fold bl (f p)).Nodup):accT bl f ps n=[]:=by
 refine List.eq_nil_iff_forall_not_mem.mpr λt h=>?_;obtain⟨i,_,h⟩:=List.mem_flatMap.mp h;unfold rowT at h;cases e:ps[i]? with
 |none=>rw[e] at h;cases h
 |some p =>
  rw[e] at h;obtain⟨q,C,rfl⟩:=Ac.mp h;obtain⟨D,E⟩:=Dg.mp C;obtain⟨j,u⟩:=Bl.mp D;rw[Oy] at u;have v:(ps.map λp=>fold bl (f p))[i]?=some (fold bl (f p)):=by rw[Am,e];rfl
  have B:(ps.map λp=>fold bl (f p))[i+1+j]?=some (fold bl (f q)):=by rw[Am,u];rfl
  rw[<- of_decide_eq_true E] at B;have:=(Lz (Aj.mp v).1 nd).mp (v.trans B.symm);lia
noncomputable def Apart(bl:Bool)(rows:List Rw)(f:Pth->Pth):Prop:=((rows.map (·.1)).map λp=>fold bl (f p)).Nodup
noncomputable def spAsk(c:Addr):Sp:=λvs H Q _=>∃h d L bl rows zs,vs=[.ref h,.ref L]/\HallAt c H h d bl rows/\Hl bl rows/\rows.length<=30/\ML H L zs/\GoodW rows (zs.map (·.2))/\zs.length<=60/\Apart bl rows (plc (zs.map (·.2))) /\
 ∀H',Same H H'->Q (.bl true) H'
noncomputable abbrev q4d:Stmt:=top 21
def sc_ask_wishes:FnScope ["hall", "wishes", "met", "one", "other", "place"] Z3 (defScope q4d):=by trivial
def z0q(D:Df K mg "ask_wishes" q4d Z3)(T:Txt mg)(C:CallsAs P w K mg base c):Cal P w K mg base "ask_wishes" 8 Z3 (spAsk c):=by
 refine D.cal sc_ask_wishes (λvs H Q E h=>?_) (λf M A outer s H vs Q E B h=>?_)
 ·obtain⟨h,d,L,bl,rows,j,rfl,_⟩:=h;rfl
 ·obtain⟨h,d,L,bl,rows,j,rfl,O,hl,q,ml,gw,few,ap,k⟩:=h;refine⟨_,(q0c (q0i (i:=2) sc_ask_wishes.nd rfl (by trivial) (pe_c C.meetings B (q0a (pv 0) (q0a (pv 1) q0e)))) (q0c (q1b (q0n (ne_k K rfl B) (pv 2) (q2f q0e) (nomark _)) (q0c (q8t (q1q (ix_k K rfl) (pv 2) q0g (λ_ _=>rfl)) (@q2h _ _ _ _ (3) _ K rfl rfl (q0l (q0h (i:=3) sc_ask_wishes.nd rfl (by trivial)) (q0l (q0h (i:=4) sc_ask_wishes.nd rfl (by trivial)) (q0l (q0h (i:=5) sc_ask_wishes.nd rfl (by trivial)) q1p))) (by rfl) (by rfl))) (q0f q3a)) q0m) (q0f (q0o q4i)))),?_⟩;refine⟨_,rfl,_,rfl,h,d,L,bl,rows,j,rfl,O,hl,q,ml,gw,few,λG I W R X S tl pm Y u=>?_⟩;have U:I=[]:=by
   have:I.map (·.2)=[]:=by
    rw[u];exact x6k ((pm.map _).nodup_iff.mpr ap)
   exact Tv.mp this
  subst U;refine⟨_,rfl,by show 0<=sizeLine;decide,λZ v=>?_⟩;have J:=(Same.refl R).new (o:=.lst []) v;refine z5g (zs:=[]) (J _ _ tl.at_) (λ_ h=>nomatch h) q0b (λ_ h=>nomatch h) ⟨_,rfl,iteF ?_⟩;exact k _ (S.trans J)
noncomputable def thenP(f:Pth->Pth):Nat->Pth->Pth
 |0,_=>[]
 |n+1,p=>if p=[] then[] else thenP f n (f p).dropLast++[(f p).getLastD []]
noncomputable def M6(rows:List Rw)(k:Nat)(p:Pth):Prop:=p=[]\/((p,none)∈rows/\p.length<=k)\/(p∈rows.map (·.1)/\6<=k)
def M6.zero(hl:Hl bl rows)(h:M6 rows 0 p):p=[]:=by
 rcases h with h|⟨h,l⟩|⟨_,h⟩
 ·exact h
 ·exact Ha.mp (by lia)
 ·lia
def M6.in_(h:M6 rows k p)(hp:p≠[]):p∈rows.map (·.1):=by
 rcases h with h|⟨h,_⟩|⟨h,_⟩
 ·exact absurd h hp
 ·exact Ac.mpr ⟨_,h,rfl⟩
 ·exact h
def q0z(hl:Hl bl rows)(gw:GoodW rows ms)(hp:p∈rows.map (·.1)):IsD rows (plc ms p).dropLast/\((p,none)∈rows->(plc ms p).dropLast=p.dropLast):=by
 by_cases h:p∈ms.map (·.1)
 ·obtain⟨m,j,rfl⟩:=Ac.mp h;rw[q6u gw.nd j];have W:=gw.all m j;refine⟨W.dr,λhn=>?_⟩;obtain⟨u,hk,f⟩:=W.th;exact f.resolve_right λz=>z (hl.one hk hn)
 ·rw[q5v h];obtain⟨r,q,rfl⟩:=Ac.mp hp;exact⟨hl.dr r q,λ_=>rfl⟩
def M6.step(hl:Hl bl rows)(gw:GoodW rows ms)(h:M6 rows (k+1) p)(hp:p≠[]):M6 rows k (plc ms p).dropLast:=by
 have j:=h.in_ hp;obtain⟨f,q⟩:=q0z hl gw j;rcases h with h|⟨h,l⟩|⟨_,l⟩
 ·exact absurd h hp
 ·rw[q h] at f ⊢;rcases f with f|f
  ·exact .inl f
  ·exact .inr (.inl ⟨f,by rw[Bf];lia⟩)
 ·have ok:=q1a hl gw j;have u:(plc ms p).length<=6:=ok.few;rcases f with f|f
  ·exact .inl f
  ·exact .inr (.inl ⟨f,by rw[Bf];lia⟩)
theorem q3j(hl:Hl bl rows)(gw:GoodW rows ms):∀{k} {p},M6 rows k p->Low (thenP (plc ms) (k+1) p)/\(thenP (plc ms) (k+1) p).length<=k+1
 |0,p,h=>by
  have e:=h.zero hl;subst e;exact⟨(λ_ h=>nomatch h),Bv _⟩
 |k+1,p,h=>by
  unfold thenP;by_cases e:p=[]
  ·rw[if_pos e];exact⟨(λ_ h=>nomatch h),Bv _⟩
  ·rw[if_neg e];obtain⟨f,j⟩:=q3j hl gw (h.step hl gw e);refine⟨λn hn=>?_,by rw[An];exact Nat.add_le_add_right j 1⟩;rcases Ao.mp hn with hn|hn
   ·exact f n hn
   ·rw[Ak.mp hn];exact(q2n (q1a hl gw (h.in_ e))).low
theorem q1r(hl:Hl bl rows)(gw:GoodW rows ms)(ap:Apart bl rows (plc ms)):∀{k} {p q},M6 rows k p->M6 rows k q->thenP (plc ms) (k+1) p=thenP (plc ms) (k+1) q->p=q
 |0,p,q,h,g,_=>by rw[h.zero hl,g.zero hl]
 |k+1,p,q,h,g,e=>by
  unfold thenP at e;by_cases hp:p=[]
  ·by_cases f:q=[]
   ·rw[hp,f]
   ·rw[if_pos hp,if_neg f] at e;simp at e
  ·by_cases f:q=[]
   ·rw[if_neg hp,if_pos f] at e;simp at e
   ·rw[if_neg hp,if_neg f] at e;obtain⟨D,j⟩:=List.append_inj' e rfl;have E:=q1r hl gw ap (h.step hl gw hp) (g.step hl gw f) D;have u:=h.in_ hp;have v:=g.in_ f;have G:plc ms p=plc ms q:=by
     have B:=(q1a hl gw u).ne;have C:=(q1a hl gw v).ne;rw[<- Fy B,<- Fy C,E];congr 1;rw[Cv,Cv,Be B,Be C] at j;exact j
    have ap':((rows.map (·.1)).map λp=>fold bl (plc ms p)).Nodup:=ap;exact q0u ap' u v (by show fold bl (plc ms p)=fold bl (plc ms q);rw[G])
structure CallsPT (P) (w) (K) (mg) (base) (k) (S):Prop where
 path_then:Cal P w K mg base "path_then" k Zh S
structure AllP (H) (D) (ps:List (Addr×Mv)) (rows:List Rw) (ms):Prop where
 rd:Rd H D (dR (ps.map λx=>(x.2.1,.ref x.1)))
 pr:∀x∈ps,H x.1=some (.tup (vP x.2.2))
 pm:(ps.map (·.2)).Perm (rows.map λr=>(r.1,plc ms r.1))
def AllP.of(x:PDt H D ps)(p:(ps.map (·.2)).Perm (rows.map λr=>(r.1,plc ms r.1))):AllP H D ps rows ms:=⟨.inl x.at_,x.pr,p⟩
def AllP.same(x:AllP H D ps rows ms)(s:Same H H'):AllP H' D ps rows ms:=⟨x.rd.imp (λh=>s _ _ h) (λ⟨o,h⟩=>⟨o,s _ _ h⟩),λy f=>s _ _ (x.pr y f),x.pm⟩
def AllP.get(x:AllP H D ps rows ms)(hl:Hl bl rows)(hp:p∈rows.map (·.1))(B:H b=some (.tup (vP p))):∃e,DGet H D (.ref b) (some (.ref e))/\H e=some (.tup (vP (plc ms p))):=by
 have C:((rows.map λr=>(r.1,plc ms r.1)):List Mv).map (·.1)=rows.map (·.1):=by rw[Ah];rfl
 have q:((ps.map (·.2)).map (·.1)).Perm (rows.map (·.1)):=by rw[<- C];exact x.pm.map _
 have nd:((ps.map (·.2)).map (·.1)).Nodup:=q.nodup_iff.mpr hl.paths;have u:(ps.map (·.2)).map (·.1)=ps.map (·.2.1):=by rw[Ah];rfl
 have h:p∈ps.map (·.2.1):=by rw[<- u];exact q.mem_iff.mpr hp
 obtain⟨y,j,v⟩:=Ac.mp h;refine⟨y.1,?_,?_⟩
 ·have e:=q4p (rs:=ps.map λx=>((x.2.1,.ref x.1):HRow)) (r:=(y.2.1,.ref y.1)) (Ac.mpr ⟨y,j,rfl⟩) (by rw[Ah];rw[u] at nd;exact nd);rw[<- e];exact .inr ⟨_,kP y.2.1,b,x.rd,rfl,by rw[q1w,v];exact B,rfl⟩
 ·have E:y.2∈rows.map λr=>(r.1,plc ms r.1):=x.pm.mem_iff.mp (Ac.mpr ⟨y,j,rfl⟩);obtain⟨r,_,e⟩:=Ac.mp E;have f:=x.pr y j;rw[<- e] at f;have G:r.1=p:=by rw[<- v,<- e]
  rw[<- G];exact f
noncomputable def spPT(k:Nat):Sp:=λvs H Q _=>∃b D bl rows ms ps p,vs=[.ref b,.ref D]/\Hl bl rows/\GoodW rows ms/\AllP H D ps rows ms/\H b=some (.tup (vP p))/\M6 rows k p/\k<=6/\∀q H',Same H H'->H' q=some (.tup (vP (thenP (plc ms) (k+1) p)))->Q (.ref q) H'
def z2u{q:Pth}(h:q≠[]):cutV (vP q) (some (-1)) none=vP [q.getLastD []]:=by
 have hl:=Bi.mpr h;have e:HT.sIx (vP q).length 0 (some (-1))=q.length-1:=by
  show(if (-1:Int)<0 then((-1:Int)+((vP q).length:Int)).toNat else min (-1:Int).toNat (vP q).length)=_;rw[if_pos (by decide),q0y];lia
 have f:HT.sIx (vP q).length (vP q).length none=(vP q).length:=rfl;unfold cutV;rw[e,f];have j:q=q.dropLast++[q.getLastD []]:=by
  rw[Cv,Be h];exact(Fy h).symm
 have u:(vP q).drop (q.length-1)=vP [q.getLastD []]:=by
  have:q.length-1=(vP q.dropLast).length:=by rw[q0y,Bf]
  rw[this];conv=>lhs;arg 2;rw[j]
  show((q.dropLast++[q.getLastD []]).map _).drop _=_;rw[Ae];exact List.drop_left
 rw[u];exact Fb (by rw[q0y,q0y];show 1<=_;lia)
noncomputable abbrev q2u:Stmt:=top 22
def sc_path_then:FnScope ["path", "places", "place"] Zh (defScope q2u):=by trivial
def q6v(D:Df K mg "path_then" q2u Zh)(T:Txt mg)(hk:k=0\/∃j,k=j+1/\S=spPT j)(C:CallsPT P w K mg base n S):Cal P w K mg base "path_then" (n+1) Zh (spPT k):=by
 refine D.cal sc_path_then (λvs H Q E h=>?_) (λf a1 A outer s H vs Q E J h=>?_)
 ·obtain⟨b,D,bl,rows,W,X,p,rfl,_⟩:=h;rfl
 ·obtain⟨b,D,bl,rows,W,X,p,rfl,hl,gw,ap,Y,v,k6,Z⟩:=h;refine⟨_,(q0c (q1b (q0n (eq_k K rfl J) (pv 0) (q1j q0e) (nomark _)) (q0f (q0o (q1j q0e))) q0m) (q0c (q0i (i:=2) sc_path_then.nd rfl (by trivial) (q0v (q1c J) (pv 1) (pv 0) (λ_ _=>rfl))) (q0f (q0o (q1l q3h (pe_c (hjk:=Aq _) C.path_then J (q0a (q0p sl_P (pv 2) q0r (q0s (q1i q0t q0g))) (q0a (pv 1) q0e))) (q0p sl_P (pv 2) (q0s (q1i q0t q0g)) q0r)))))),?_⟩;refine⟨_,rfl,by show 0<=sizeLine;decide,λL M=>?_⟩;have u:=(Same.refl H).new (o:=.tup []) M;have ht0':upd H L (.tup []) L=some (.tup (vP [])):=q0b;generalize upd H L (.tup [])=H1 at u ht0';have B:Low p:=by
   by_cases e:p=[]
   ·rw[e];exact λ_ h=>nomatch h
   ·obtain⟨r,O,e2⟩:=Ac.mp (v.in_ e);rw[<- e2];exact(hl.ok r O).low
  refine q0x (u _ _ Y) ht0' B (λ_ h=>nomatch h) ⟨_,rfl,iteB (λe=>?_) (λe=>?_)⟩
  ·have e:=of_decide_eq_true e;refine⟨by show 0<=sizeLine;decide,λR U=>Z R _ (u.new U) ?_⟩;rw[q0b];unfold thenP;rw[if_pos e];rfl
  ·have e:=of_decide_eq_false e;have G:=v.in_ e;obtain⟨x,dx,hx⟩:=(ap.same u).get hl G (u _ _ Y);have ok:=q1a hl gw G;rcases hk with rfl|⟨j,rfl,rfl⟩
   ·exact absurd (v.zero hl) e
   refine⟨_,rfl,_,rfl,D,_,rfl,dx,?_⟩;refine⟨_,rfl,_,rfl,_,rfl,x,_,rfl,hx,λR H2 s2 h2=>?_⟩;rw[(q0w ok.ne).1] at h2;have I:=u.trans s2;refine⟨_,rfl,R,D,bl,rows,W,X,_,rfl,hl,gw,ap.same I,h2,v.step hl gw e,by lia,λq H3 s3 h3=>?_⟩;refine⟨_,rfl,_,rfl,_,rfl,x,_,rfl,s3 _ _ (s2 _ _ hx),λt2 H4 s4 h4=>?_⟩;rw[z2u ok.ne] at h4;have a0:=(q3j hl gw (v.step hl gw e)).2;refine⟨q,t2,_,_,rfl,rfl,s4 _ _ h3,h4,by rw[q0y,q0y];exact small (by show _+1<=_;lia),λz H5 s5 h5 _=>?_⟩;refine Z z H5 (((I.trans s3).trans s4).trans s5) ?_;rw[h5,<- z5k];conv=>rhs;unfold thenP
   rw[if_neg e]
def z0r(D:Df K mg "path_then" q2u Zh)(T:Txt mg):Cal P w K mg base "path_then" 1 Zh (λ_ _ _ _=>False) :=
 D.cal sc_path_then (λ_ _ _ _ h=>h.elim) (λ_ _ _ _ _ _ _ _ _ _ h=>h.elim)
theorem q5w(D:Df K mg "path_then" q2u Zh)(T:Txt mg):∀k,Cal P w K mg base "path_then" (k+2) Zh (spPT k)
 |0=>q6v D T (.inl rfl) ⟨z0r D T⟩
 |k+1=>q6v D T (.inr ⟨k,rfl,rfl⟩) ⟨q5w D T k⟩
structure CallsG (P) (w) (K) (mg) (base) (c):Prop where
 ask_wishes:Cal P w K mg base "ask_wishes" 8 Z3 (spAsk c)
 all_places:Cal P w K mg base "all_places" 6 Z3 (spAllP c)
 path_then:Cal P w K mg base "path_then" 8 Zh (spPT 6)
 m_rows:MCal P w K mg base c "rows" 2 Y5 (spHRows c)
noncomputable def gRows(rows:List Rw)(ms:List Mv):List Rw:=rows.map λr=>(thenP (plc ms) 7 r.1,r.2)
def q6w(h:r∈rows):M6 rows 6 r.1:=.inr (.inr ⟨Ac.mpr ⟨r,h,rfl⟩,Aq _⟩)
def z5o(hl:Hl bl rows)(gw:GoodW rows ms)(ap:Apart bl rows (plc ms)):((gRows rows ms).map (·.1)).Nodup:=by
 unfold gRows;rw[Ah];have h:(rows.map (·.1)).Nodup:=hl.paths;have e:rows.map ((·.1)∘λr:Rw=>(thenP (plc ms) 7 r.1,r.2))=(rows.map (·.1)).map (thenP (plc ms) 7):=by rw[Ah];rfl
 rw[e];refine Ic.mpr (Gv (λ{p q} hp hq n=>?_) h);obtain⟨r,j,rfl⟩:=Ac.mp hp;obtain⟨u,f,rfl⟩:=Ac.mp hq;exact λz=>n (q1r hl gw ap (q6w j) (q6w f) z)
def z9x(hl:Hl bl rows)(gw:GoodW rows ms):∀r∈gRows rows ms,Low r.1:=λr f=>by
 obtain⟨x,h,rfl⟩:=Ac.mp f;exact(q3j hl gw (q6w h)).1
noncomputable def spGoal(c:Addr):Sp:=λvs H Q _=>∃h d L bl rows zs,vs=[.ref h,.ref L]/\HallAt c H h d bl rows/\Hl bl rows/\rows.length<=30/\ML H L zs/\GoodW rows (zs.map (·.2))/\zs.length<=60/\Apart bl rows (plc (zs.map (·.2))) /\
 ∀G ys H',H G=none->Same H H'->RL H' G ys->(ys.map (·.2)).Perm (gRows rows (zs.map (·.2)))->(ys.map (·.2.1)).Pairwise (λa b=>pLt b a=false)->Q (.ref G) H'
noncomputable abbrev z3z:Stmt:=top 23
def sc_goal:FnScope Y6 Z3 (defScope z3z):=by trivial
def x6l(D:Df K mg "goal" z3z Z3)(T:Txt mg)(C:CallsG P w K mg base c):Cal P w K mg base "goal" 9 Z3 (spGoal c):=by
 refine D.cal sc_goal (λvs H Q E h=>?_) (λf b5 A outer s H vs Q E u h=>?_)
 ·obtain⟨h,d,L,bl,rows,zs,rfl,_⟩:=h;rfl
 ·obtain⟨h,d,L,bl,rows,zs,rfl,hh,hl,a9,ml,gw,few,ap,k⟩:=h;refine⟨_,(q0c (q1t (pe_c C.ask_wishes u (q0a (pv 0) (q0a (pv 1) q0e)))) (q0c (q0i (i:=2) sc_goal.nd rfl (by trivial) (pe_c C.all_places u (q0a (pv 0) (q0a (pv 1) q0e)))) (q0f (q0o (q0k (q6d u) (by rfl) T.b_sorted (by trivial) (q0a (q1x Y9 [("places",2)] rfl (@q3b _ _ _ _ K rfl (z6m C.m_rows u (pv 0))) (λ_ _ _ _ _=>(@q2h _ _ _ _ _ (2) K rfl rfl (q0l (q0h (i:=0) (show(Y1:List Str).Nodup by trivial) rfl (by trivial)) (q0l (q0h (i:=1) (show(Y1:List Str).Nodup by trivial) rfl (by trivial)) q1p)) (by rfl) (by rfl))) (λ_ _ _ _ _=>q2m) (λ_ _ _ _ _=>(q1j (q0a (pe_c C.path_then u (q0a (pv 0) (q0a (pv 2) q0e))) (q0a (pv 1) q0e))))) q0e)))))),?_⟩;refine⟨_,rfl,_,rfl,h,d,L,bl,rows,zs,rfl,hh,hl,a9,ml,gw,few,ap,λH1 s1=>?_⟩;refine⟨_,rfl,_,rfl,h,d,L,bl,rows,zs,rfl,hh.same s1,hl,by lia,ml.same s1,gw,few,λD0 Y rs H2 b6 s2 b0 b1 b7 e0=>?_⟩;have Z:=s1.trans s2;generalize b8:zs.map (·.2)=ms at gw ap e0 k;have all:AllP H2 D0 Y rows ms:=.of b0 (by rw[e0];exact b1.map _);have a0:=hh.same Z;obtain⟨dx,hi⟩:=a0.i;refine⟨_,rfl,h,dx,_,rfl,hi,rfl,h,d,bl,rows,rfl,a0,by lia,λr u=>(hl.ok r u).low,λL2 zs2 H3 b9 s3 B I c0=>?_⟩;refine .inl ⟨L2,rfl,⟨_,SqL.of B.at_⟩,λDc a1=>?_⟩;have l2:zs2.length<=30:=by have:=I.length_eq;rw[Aa] at this;lia
  refine q2g (λi ys H'=>∃j:List Zr,ys=j.map (λz=>V.ref z.1)/\j.map (·.2)=gRows ((zs2.map (·.2)).take i) ms/\(∀x∈j,PR H' x.1 (rR x.2))/\Same H3 H'/\H' Dc=some (.lst ys)) ⟨[],rfl,rfl,(λ_ h=>nomatch h),(Same.refl H3).new a1,q0b⟩ (λi ys H' h=>by obtain⟨j,_,_,_,s',h'⟩:=h;exact⟨h',SqL.of (s' _ _ B.at_)⟩) ?_ ?_
  ·rintro i ys H' v hv ⟨j,rfl,J,hw,s',M⟩;obtain⟨z,W,rfl⟩:=gR0 hv
   have a2:(zs2.map (·.2))[i]?=some z.2:=by rw[Am,W];rfl
   have e1:(zs2.map (·.2)).take (i+1)=(zs2.map (·.2)).take i++[z.2]:=by rw[Bc,a2];rfl
   have b2:z.2∈rows:=I.mem_iff.mp (Af a2);have wl:j.length<=30:=by
    have:=congrArg List.length J;unfold gRows at this;rw[Aa,Aa,Bg,Aa] at this;lia
   obtain⟨b,h1,h2⟩:=(B.same s').pr z (Af W);refine⟨z.1,_,rfl,SqT.of h1,rfl,_,_,rfl,_,_,rfl,rfl,q3v,?_⟩;refine q6f (iteT ?_);refine⟨_,rfl,_,rfl,b,D0,bl,rows,ms,Y,z.2.1,rfl,hl,gw,all.same (s3.trans s'),h2,q6w b2,Aq _,λq H5 s5 h5=>?_⟩;refine⟨_,rfl,by show 2<=sizeLine;decide,λX b3=>?_⟩;have sT:=(Same.refl H5).new (o:=.tup [.ref q,(rR z.2).2]) b3;have O:=sT _ _ (s5 _ _ M);have a3:=sT _ _ h5;have a4:upd H5 X (.tup [.ref q,(rR z.2).2]) X=some (.tup [.ref q,(rR z.2).2]):=q0b;have s6:=(s'.trans s5).trans sT;have a5:∀x∈j,PR (upd H5 X (.tup [.ref q,(rR z.2).2])) x.1 (rR x.2):=λx R=>PR.same (hw x R) λT xs e=>sT _ _ (s5 _ _ e)
   generalize upd H5 X (.tup [.ref q,(rR z.2).2])=H6 at O a3 a4 s6 a5;have tk:∀S xs,H6 S=some (.tup xs)->upd H6 Dc (.lst (j.map (λz=>V.ref z.1)++[.ref X])) S=some (.tup xs):=λS xs e=>by
    rw[q0d (λz=>by rw[z,O] at e;cases e)];exact e
   refine⟨O,small' (by rw[Aa];lia),j++[(X,(thenP (plc ms) 7 z.2.1,z.2.2))],by rw[Ae];rfl,?_,λx R=>?_,s6.put a1,q0b⟩
   ·unfold gRows at J ⊢;rw[Ae,J,e1,Ae];rfl
   ·rcases Ao.mp R with R|R
    ·exact PR.same (a5 x R) tk
    ·rw[Ak.mp R];exact⟨q,tk _ _ a4,tk _ _ a3⟩
  ·rintro ys H4 ⟨j,rfl,J,hw,s4,M⟩;rw[Aa,<- Aa (f:=λz:Zr=>z.2),Ba] at J;have wl:j.length<=30:=by
    have:=congrArg List.length J;unfold gRows at this;rw[Aa,Aa,Aa] at this;lia
   have U:(j.map (·.2)).Perm (gRows rows ms):=by rw[J];exact I.map _
   have a6:=(Z.trans s3).trans s4;refine⟨Dc,j.map λz=>(z.1,rR z.2),rfl,by rw[Ah];exact M,by rw[Aa];lia,λz W=>?_,?_,λG zs5 hG b4 a7=>?_⟩
   ·obtain⟨y,hy,rfl⟩:=Ac.mp W;exact⟨hw y hy,z9x hl gw _ (U.mem_iff.mp (Ac.mpr ⟨y,hy,rfl⟩))⟩
   ·have e2:(j.map λz=>((z.1,rR z.2):Zq)).map (·.2.1)=(j.map (·.2)).map (·.1):=by rw[Ah,Ah];rfl
    rw[e2];exact(U.map _).nodup_iff.mpr (z5o hl gw ap)
   ·obtain⟨a8,q1,rfl⟩:=SB.perm_map_inv b4 rfl;rw[Ah] at a7;rw[Ah];have sL:=(Same.refl H4).new (o:=.lst (a8.map λz=>V.ref z.1)) hG;exact k G a8 _ (a6.free hG) (a6.trans sL) ⟨q0b,λz W=>PR.same (hw z (q1.mem_iff.mp W)) λT xs e=>sL _ _ e⟩ ((q1.map _).trans U) a7
structure DL (rows) (H:Hp) (L) (ds:List (Addr×Pth)):Prop where
 at_:H L=some (.lst (ds.map λz=>V.ref z.1))
 pr:∀z∈ds,H z.1=some (.tup (vP z.2))/\IsD rows z.2/\z.2.length<6
def DL.fd(h:DL rows H L f)(F:FeedAt H a b)(fd:Fd a b H H')(q:L≠a):DL rows H' L f:=⟨fd.at h.at_ q,λz j=>⟨tupFd F fd _ _ (h.pr z j).1,(h.pr z j).2⟩⟩
def x2x{p q:Pth}(hp:p≠[])(j:q≠[])(h:keyO bl p=keyO bl q):fold bl p=fold bl q:=by
 unfold keyO at h;have u:=q9p (Vl h).1;have f:=SB.mk_inj (Sum.inr.inj (Vl h).2);refine(q2i hp j).mpr ⟨u,?_⟩;cases bl with
 |true=>exact f
 |false=>exact f
structure CallsFP (P) (w) (K) (mg) (base):Prop where
 draw:Cal P w K mg base "_law_draw" 1 Z7 spDraw
 a_name:Cal P w K mg base "_law_a_name" 3 Yb spName
 fold:Cal P w K mg base "_law_fold" 1 Zd spFold
noncomputable def spFree(P:Aw)(w:World):Sp:=λvs H Q _=>∃a b m p t bl rows q k0 ks,vs=[.ref a,.ref m,.ref p,.ref t,.bl bl]/\FeedAt H a b/\H m=some (dR (rows.map rR))/\Hl bl rows/\rows.length<=30/\H p=some (.tup (vP q))/\(q,k0)∈rows/\DPr P w H t ks/\t≠a/\ks.length<=100 /\
 (∀H',Fd a b H H'->Q .non H') /\
 ∀e place kb H1 H',Fd a b H H1->hasP ks (keyO bl place)=false->PrK H1 (keyO bl place) kb->okP place->IsD rows place.dropLast->(place.dropLast=q.dropLast\/k0≠none)->Same (upd H1 t (PdO P w t (ks++[(keyO bl place,kb)]))) H'->H' e=some (.tup (vP place))->Q (.ref e) H'
noncomputable abbrev q4e:Stmt:=top 51
def sc_free_place:FnScope ["_law_feed", "_law_marks", "_law_path", "_law_taken", "_law_blind", "_law_drawer", "_law_drawers", "_law_k", "_law_name"] Z5 (defScope q4e):=by trivial
def x6m(D:Df K mg "_law_free_place" q4e Z5)(T:Txt mg)(C:CallsFP P w K mg base):Cal P w K mg base "_law_free_place" 4 Z5 (spFree P w):=by
 refine D.cal sc_free_place (λvs H Q E h=>?_) (λf h1 A outer s H vs Q E u h=>?_)
 ·obtain⟨a,b,m,p,t,bl,rows,q,k0,ks,rfl,_⟩:=h;rfl
 ·obtain⟨a,b,m,p,t,bl,rows,q,k0,ks,rfl,F,hm,hl,h2,hp,hq,f7,f8,h3,kN,kS⟩:=h;refine⟨_,(q0c (q0i (i:=5) sc_free_place.nd rfl (by trivial) (q0p (sl_k K rfl) (pv 2) q0r (q0s (q1i q0t q0g)))) (q0c (q0i (i:=6) sc_free_place.nd rfl (by trivial) (q1l q1v (q2f (q0a (q1j q0e) q0e)) (q1x Y3 [("_law_marks",1)] rfl (@q3b _ _ _ _ K rfl (q0k (q4x u) (by rfl) T.b_sorted (by trivial) (q0a (pv 1) q0e))) (λ_ _ _ _ _=>(q0h (i:=0) (show(["_law_one", "_law_marks"]:List Str).Nodup by trivial) rfl (by trivial))) (λ_ _ _ _ _=>(q4k (pt_j (@PW.pt _ _ _ (q2z (q1z (q5m (q0v (q1c u) (pv 1) (pv 0) (λ_ _=>rfl)))) (q2a (q0n x1i (q0k (q3l K rfl) (by rfl) T.b_len Cd (q0a (pv 0) q0e)) q0g (nomark _)))))))) (λ_ _ _ _ _=>(pv 0))))) (q3e (q1b (pt_j (@PW.pt _ _ _ (q2z (q1z (q5z (q0v (q1c u) (pv 1) (pv 2) (λ_ _=>rfl)))) (q2a (q0n (eq_k K rfl u) (pe_c C.draw u (q0a (pv 0) (q0a q0g q0e))) q0g (nomark _)))))) (q0f (q0i (i:=5) sc_free_place.nd rfl (by trivial) (q1q (ix_k K rfl) (pv 6) (pe_c C.draw u (q0a (pv 0) (q0a (q0k (q3l K rfl) (by rfl) T.b_len Cd (q0a (pv 6) q0e)) q0e))) (λ_ _=>rfl)))) q0m) (q0c (q1k Br rfl (q4j rfl T.b_range (q0a q0g q0e)) (q0h (i:=7) sc_free_place.nd rfl (by trivial)) (q0c (q0i (i:=8) sc_free_place.nd rfl (by trivial) (pe_c C.a_name u (q0a (pv 0) q0e))) (q0f (q1b (q1z (z2k P w rfl rfl (z2l u) (q1j (q0a (pv 5) (q0a (pe_c C.fold u (q0a (pv 8) (q0a (pv 4) q0e))) q0e))) (pv 3))) (q0c (z3r P w rfl rfl (z2l u) (pv 3) (q1j (q0a (pv 5) (q0a (pe_c C.fold u (q0a (pv 8) (q0a (pv 4) q0e))) q0e))) q4i rfl) (q0f (q0o (q1l q3h (pv 5) (q1j (q0a (pv 8) q0e)))))) q0m)))) (q0f (q0o q6q)))))),?_⟩;have a7:=hl.ok;have a8:=a7 _ hq;obtain⟨c1,c2⟩:=q0w a8.ne;refine⟨_,rfl,_,rfl,_,rfl,.inr (.inr ⟨p,_,rfl,SqT.of hp,c2,λt1 f9=>?_⟩)⟩;rw[c1];have s1:=(Same.refl H).new (o:=.tup (vP q.dropLast)) f9;have ht1':upd H t1 (.tup (vP q.dropLast)) t1=some (.tup (vP q.dropLast)):=q0b;generalize upd H t1 (.tup (vP q.dropLast))=H1 at s1 ht1';refine⟨by show 0<=sizeLine;decide,λB c5=>⟨by show 1<=sizeLine;decide,λD1 a0=>?_⟩⟩;have s2:=((Same.refl H1).new (o:=.tup []) c5).new (o:=.lst [.ref B]) a0;have c6:B≠D1:=λz=>by rw[<- z,q0b] at a0;cases a0
  have U:upd (upd H1 B (.tup [])) D1 (.lst [.ref B]) B=some (.tup (vP [])):=by rw[q0d c6];exact q0b
  have a9:upd (upd H1 B (.tup [])) D1 (.lst [.ref B]) D1=some (.lst [.ref B]):=q0b;generalize upd (upd H1 B (.tup [])) D1 (.lst [.ref B])=H2 at s2 U a9;have a1:=s1.trans s2;have b0:=a1 _ _ hm;refine⟨_,rfl,m,_,rfl,b0,by rw[Aa];lia,λr u=>?_,λL3 bs ps c7 L g0 c8=>?_⟩
  ·obtain⟨y,Y,rfl⟩:=Ac.mp u;exact(a7 y Y).ne
  obtain⟨Z,y1,y2,y3⟩:=x2w c8;have c9:(rows.map rR).map (·.1)=rows.map (·.1):=by rw[Ah];rfl
  rw[c9] at L;rw[y1];have s4:=(Same.refl H2).new (o:=.lst (Z.map λz=>V.ref z.1)) c7;have d0:∀y∈Z,∃k,(y.2,k)∈rows:=λy Y=>by
   have g1:y.2∈ps:=by rw[<- y2];exact Ac.mpr ⟨y,Y,rfl⟩
   obtain⟨r,u,e⟩:=Ac.mp (L.mem_iff.mp g1);exact⟨r.2,by rw[<- e];exact u⟩
  have d1:Z.length<=30:=by
   have e1:=congrArg List.length y2;have e2:=L.length_eq;rw[Aa] at e1 e2;lia
  have a2:upd H2 L3 (.lst (Z.map λz=>V.ref z.1)) L3=some (.lst (Z.map λz=>V.ref z.1)):=q0b;have b1:∀y∈Z,upd H2 L3 (.lst (Z.map λz=>V.ref z.1)) y.1=some (.tup (vP y.2)):=λy Y=>s4 _ _ (y3 y Y);generalize upd H2 L3 (.lst (Z.map λz=>V.ref z.1))=H4 at s4 a2 b1;clear y3 c8 y1 L g0;have d2:=s4 _ _ b0;refine .inl ⟨L3,rfl,⟨_,SqL.of a2⟩,λDc b2=>?_⟩;refine q2g (λi vs H'=>∃G:List (Addr×Pth),vs=G.map (λz=>V.ref z.1)/\Same H4 H'/\H' Dc=some (.lst vs)/\G.length<=i/\i<=Z.length/\∀z∈G,H' z.1=some (.tup (vP z.2))/\IsD rows z.2/\z.2.length<6) ⟨[],rfl,(Same.refl H4).new b2,q0b,Aq _,Bv _,(λ_ h=>nomatch h)⟩ (λi vs H' h=>by obtain⟨G,_,s',h',_⟩:=h;exact⟨h',SqL.of (s' _ _ a2)⟩) ?_ ?_
  ·rintro i vs H5 v hv ⟨G,rfl,s5,M,W,_,I⟩;obtain⟨y,Y,rfl⟩:=refAt hv;have hi:i<Z.length:=(Aj.mp Y).1;have d3:=Af Y;obtain⟨d4,d5⟩:=d0 y d3;have b3:=s5 _ _ (b1 y d3);refine⟨q1d,λbb H6=>H6=H5/\(bb=true->d4=none/\y.2.length<6),?_,?_⟩
   ·rintro bb H6 ⟨rfl,hb⟩;refine ite2 (λd6=>?_) (λd6=>⟨G,rfl,s5,M,Fg W,hi,I⟩);obtain⟨hn,h6⟩:=hb d6;have nt:∀{x:Addr} {xs:List V},H6 x=some (.tup xs)->upd H6 Dc (.lst (G.map (λz=>V.ref z.1)++[.ref y.1])) x=some (.tup xs):=λ{x xs} e=>by rw[q0d (q0q e M)];exact e
    refine⟨_,rfl,M,small' (by rw[Aa];lia),G++[(y.1,y.2)],by rw[Ae];rfl,s5.put b2,q0b,by rw[An];exact Iq W,hi,λx S=>?_⟩;rcases Ao.mp S with S|S
    ·exact⟨nt (I x S).1,(I x S).2⟩
    ·rw[Ak.mp S];exact⟨nt b3,.inr (by rw[<- hn];exact d5),h6⟩
   ·refine⟨_,rfl,_,rfl,m,mV d4,rfl,?_,_,rfl,?_⟩
    ·rw[<- q3p hl.paths d5];exact q4h (s5 _ _ d2) b3
    refine iteB (λhb=>?_) (λhb=>⟨rfl,(λz=>by cases z)⟩);refine⟨_,rfl,_,_,rfl,.inr ⟨_,SqT.of b3,rfl⟩,_,_,rfl,rfl,_,rfl,rfl,λe6=>⟨mV_none.mp (of_decide_eq_true hb),?_⟩⟩;have e7:=of_decide_eq_true e6;rw[q0y] at e7;have e8:(y.2.length:Int)<6:=e7;lia
  rintro vs H5 ⟨G,rfl,s5,M,W,_,I⟩;have hle':G.length<=30:=by rw[Aa] at W;lia
  refine .inr (.inr ⟨D1,Dc,_,_,rfl,rfl,s5 _ _ (s4 _ _ a9),M,small (by rw[Aa];show 1+_<=_;lia),λDr b4=>?_⟩);have s6:=(Same.refl H5).new (o:=.lst ([V.ref B]++G.map λz=>V.ref z.1)) b4;have b5:DL rows (upd H5 Dr (.lst ([V.ref B]++G.map λz=>V.ref z.1))) Dr ((B,[])::G):=⟨q0b,λz hz=>by
   rcases Bb.mp hz with rfl|hz
   ·exact⟨s6 _ _ (s5 _ _ (s4 _ _ U)),.inl rfl,by show 0<6;decide⟩
   ·exact⟨s6 _ _ (I z hz).1,(I z hz).2⟩⟩
  have a3:=(s4.trans s5).trans s6;have a4:=a1.trans a3;have d7:H Dr=none:=((a1.trans s4).trans s5).free b4;have a6:Dr≠a:=(F.na d7).symm;have d8:=a3 _ _ (s2 _ _ ht1');generalize g2:upd H5 Dr (.lst ([V.ref B]++G.map λz=>V.ref z.1))=H6 at s6 b5 a3 a4 d8;generalize b6:(B,([]:Pth))::G=dd at b5;have h4:dd.length<=31:=by rw[<- b6,Cj];lia
  have h5:0<dd.length:=by rw[<- b6,Cj];lia
  have O:=(Fd.refl F).same a4;have g3:IsD rows q.dropLast:=hl.dr _ hq;have h6:q.dropLast.length<6:=by rw[Bf];have f6:q.length<=6:=a8.few;have p6:0<q.length:=Bi.mpr a8.ne;lia
  clear I M U a9 s2 s4 s5 b1 a2 d2 b0 a1 d0 d1 y2 c7 b2 a0 c5 c6 W hle' a3 g2 s6 b6 b4;refine⟨λR H3=>∃J dp x7 x8,R=[some (.ref a),some (.ref m),some (.ref p),some (.ref t),some (.bl bl),some (.ref J),some (.ref Dr),x7,x8]/\Fd a b H H3/\H3 J=some (.tup (vP dp))/\IsD rows dp/\dp.length<6/\(dp=q.dropLast\/k0≠none),?_,?_⟩;rotate_left
  ·refine⟨λbb H3=>Fd a b H6 H3/\(bb=true->k0≠none),?_,?_⟩
   ·rintro bb H3 ⟨fd,hb⟩;refine ite2 (λe=>?_) (λe=>⟨t1,q.dropLast,_,_,rfl,O.trans fd,tupFd O.feed fd _ _ d8,g3,h6,.inl rfl⟩);have d9:=b5.fd O.feed fd a6;refine⟨_,rfl,_,rfl,_,rfl,_,_,rfl,.inl ⟨_,SqL.of d9.at_,rfl⟩,a,b,_,rfl,fd.feed,by rw[Aa];lia,by rw[Aa];lia,λr1 H4 g4 e0 j=>?_⟩;rw[Aa] at e0;have e3:=d9.fd fd.feed j a6;obtain⟨v,X,g5⟩:=q8y (xs:=dd.map λz=>V.ref z.1) g4 (by rw[Aa];exact e0);obtain⟨y,Y,rfl⟩:∃y∈dd,v=V.ref y.1:=by
     rw[Am] at X;cases e:dd[r1.toNat]? with
     |none=>rw[e] at X;cases X
     |some z=>rw[e] at X;cases X;exact⟨z,Af e,rfl⟩
    refine .inl ⟨Dr,_,r1,_,rfl,rfl,SqL.of e3.at_,g5,?_⟩;obtain⟨y1,y2,y3⟩:=e3.pr y Y;exact⟨y.1,y.2,_,_,rfl,(O.trans fd).trans j,y1,y2,y3,.inr (hb e)⟩
   ·refine⟨_,rfl,_,rfl,m,mV k0,rfl,?_,_,rfl,?_⟩
    ·rw[<- q3p hl.paths hq];exact q4h (a4 _ _ hm) (a4 _ _ hp)
    refine iteB (λe=>?_) (λe=>⟨Fd.refl O.feed,(λz=>by cases z)⟩);have hn:k0≠none:=λy=>by rw[y] at e;cases e
    exact⟨_,rfl,a,b,_,rfl,O.feed,by decide,by decide,λr1 H3 _ _ b7=>.inl ⟨rfl,_,rfl,b7,λ_=>hn⟩⟩
  rintro R H3 ⟨J,dp,x7,x8,rfl,b7,g6,e4,h7,g7⟩;have e5:∀n∈dp,okN n:=λn hn=>by
   rcases e4 with e|e
   ·rw[e] at hn;cases hn
   ·exact(a7 _ e).all n hn
  refine⟨4,rfl,by decide,by decide,q5n (n:=4) (λi R H'=>∃x7 x8,R=[some (.ref a),some (.ref m),some (.ref p),some (.ref t),some (.bl bl),some (.ref J),some (.ref Dr),x7,x8]/\Fd a b H H'/\H' J=some (.tup (vP dp))) ⟨_,_,rfl,b7,g6⟩ ?_ ?_⟩
  ·rintro i R H4 hi ⟨x7,x8,rfl,j,e9⟩;refine⟨_,rfl,a,b,rfl,j.feed,λn H5 b8 f0=>?_⟩;have fd5':=j.trans f0;have f1:=tupFd j.feed f0 _ _ e9;have f2:=DPr.fd f7 F fd5' f8;have g8:keyO bl (dp++[n])=(kP dp,.inr (mk (if bl then lowN n else n))):=by
    unfold keyO;rw[Bk,Ce]
   have pk:∀{H9:Hp} {p:Addr},H9 J=some (.tup (vP dp))->H9 p=some (.tup [.ref J,.str (mk (if bl then lowN n else n))])->PrK H9 (keyO bl (dp++[n])) p:=λ{H9 p} e1 e2=>by
    rw[g8];exact⟨J,e2,by rw[q1w];exact e1⟩
   refine⟨_,rfl,_,rfl,_,rfl,n,bl,rfl,b8,by show 2<=sizeLine;decide,λp2 U=>?_⟩;have s9:=(Same.refl H5).new (o:=.tup [.ref J,.str (mk (if bl then lowN n else n))]) U;refine⟨_,rfl,t,ks,p2,keyO bl (dp++[n]),rfl,rfl,f2.same s9,pk (s9 _ _ f1) q0b,_,rfl,?_⟩;have a5:=s9 _ _ f1;have f3:=f2.same s9;have b9:=fd5'.same s9;generalize upd H5 p2 (.tup [.ref J,.str (mk (if bl then lowN n else n))])=H9 at s9 a5 f3 b9;refine ite2 (λhb=>?_) (λhb=>⟨_,_,rfl,b9,a5⟩);have f4:hasP ks (keyO bl (dp++[n]))=false:=by simpa using hb
   refine⟨_,rfl,_,rfl,_,rfl,_,rfl,n,bl,rfl,b8,by show 2<=sizeLine;decide,λp3 L=>?_⟩;have sA:=(Same.refl H9).new (o:=.tup [.ref J,.str (mk (if bl then lowN n else n))]) L;have c0:=pk (sA _ _ a5) (p:=p3) q0b;have c3:=sA _ _ a5;have c4:=f3.same sA;have f5:=b9.same sA;generalize upd H9 p3 (.tup [.ref J,.str (mk (if bl then lowN n else n))])=HA at sA c0 c3 c4 f5;refine⟨t,ks,p3,keyO bl (dp++[n]),rfl,rfl,rfl,c4,c0,f4,small' (by lia),?_⟩;have g9:upd HA t (PdO P w t (ks++[(keyO bl (dp++[n]),p3)])) J=some (.tup (vP dp)):=by
    rw[q0d (q0q c3 c4.at_)];exact c3
   refine⟨_,rfl,_,rfl,by show 1<=sizeLine;decide,λp4 h0=>?_⟩;have sC:=(Same.refl (upd HA t (PdO P w t (ks++[(keyO bl (dp++[n]),p3)])))).new (o:=.tup [.str (mk n)]) h0;refine⟨J,p4,_,_,rfl,rfl,sC _ _ g9,q0b,by rw[q0y];exact small (by show _+1<=_;lia),λe HE sE he _=>?_⟩;refine kS e (dp++[n]) p3 HA HE f5 f4 c0 ?_ (by rw[Bk];exact e4) (by rw[Bk];exact g7) (sC.trans sE) ?_
   ·refine⟨by simp,by rw[An];show _+1<=6;lia,λx S=>?_⟩;rcases Ao.mp S with S|S
    ·exact e5 x S
    ·rw[Ak.mp S];exact b8
   ·rw[he];show _=some (HO.tup ((dp++[n]).map _));rw[Ae];rfl
  ·rintro R H4 ⟨x7,x8,rfl,j,e9⟩;exact kN _ j
def x6n{l:List Pth}:∀{m:List Pth},l.Nodup->(∀x∈l,x∈m)->l.length<=m.length:=by
 induction l with
 |nil=>intro m _ _;exact Bv _
 |cons a l ih =>
  intro m nd h;rw[Bu] at nd;have ha:=h a Au;have j:=ih (m:=m.erase a) nd.2 λx f=>(Te λz=>nd.1 (by rw[<- z];exact f)).mpr (h x (Ap _ f));rw[Qk ha] at j;have:=Rz ha;rw[Cj];lia
def GoodW.len(g:GoodW rows ms):ms.length<=rows.length:=by
 have:=x6n (m:=rows.map (·.1)) g.nd λx f=>by
  obtain⟨m,h,rfl⟩:=Ac.mp f;obtain⟨k,hk,_⟩:=(g.all m h).th;exact Ac.mpr ⟨_,hk,rfl⟩
 rw[Aa,Aa] at this;exact this
def z9y:plc (ms++f) p=if p∈ms.map (·.1) then plc ms p else plc f p:=by
 induction ms with
 |nil=>simp
 |cons m ms ih =>
  show(if m.1=p then m.2 else plc (ms++f) p)=if p∈m.1::ms.map (·.1) then(if m.1=p then m.2 else plc ms p) else plc f p
  by_cases e:m.1=p
  ·rw[if_pos e,if_pos (by rw[e];exact Au),if_pos e]
  ·rw[if_neg e,if_neg e,ih];by_cases c:p∈ms.map (·.1)
   ·rw[if_pos c,if_pos (Ap _ c)]
   ·rw[if_neg c,if_neg λz=>(Bb.mp z).elim (λy=>e y.symm) c]
structure Turn1 (bl) (rows:List Rw) (ms nw:List Mv) (zf) (last:Pth):Prop where
 ne:zf≠[]
 nd:zf.Nodup
 un:∀z∈zf,z∈rows.map (·.1)/\z∉ms.map (·.1)
 ky:nw.map (·.1)=zf
 vl:nw.map (λm=>(m.2.dropLast,fold bl m.2))=(zf.tail++[last]).map (λp=>(p.dropLast,fold bl p))
 ok:∀m∈nw,okP m.2
 pl:∀(i:Nat) (one q),zf[i]?=some one->(zf.tail++[last])[i]?=some q->IsD rows q.dropLast/\∃k,(one,k)∈rows/\(q.dropLast=one.dropLast\/k≠none)
section
variable{bl:Bool}{rows:List Rw}{ms nw:List Mv}{zf:List Pth}{last:Pth}
def Turn1.good(t:Turn1 bl rows ms nw zf last)(gw:GoodW rows ms):GoodW rows (ms++nw):=by
 refine⟨λm f=>?_,?_⟩
 ·rcases Ao.mp f with f|f
  ·exact gw.all m f
  ·obtain⟨i,u⟩:=Bl.mp f;have v:zf[i]?=some m.1:=by rw[<- t.ky,Am,u];rfl
   have h:((zf.tail++[last]).map (λp=>(p.dropLast,fold bl p)))[i]?=some (m.2.dropLast,fold bl m.2):=by rw[<- t.vl,Am,u];rfl
   rw[Am] at h;cases e:(zf.tail++[last])[i]? with
   |none=>rw[e] at h;cases h
   |some q =>
    rw[e] at h;have B:q.dropLast=m.2.dropLast:=(Vl (Bx h)).1;obtain⟨d,k,hk,j⟩:=t.pl i _ _ v e;rw[B] at d j;exact⟨⟨k,hk,j⟩,t.ok m f,d⟩
 ·rw[Ae,t.ky];exact Dv.mpr ⟨gw.nd,t.nd,λx C y D z=>(t.un y D).2 (by rw[<- z];exact C)⟩
def Turn1.folds(t:Turn1 bl rows ms nw zf last):zf.map (λp=>fold bl (plc (ms++nw) p))=(zf.tail++[last]).map (fold bl):=by
 have j:zf.map (λp=>fold bl (plc (ms++nw) p))=nw.map (λm=>fold bl m.2):=by
  have q:zf.map (λp=>fold bl (plc (ms++nw) p))=nw.map (λm=>fold bl (plc (ms++nw) m.1)):=by
   conv=>lhs;rw[<- t.ky]
   rw[Ah];rfl
  rw[q];refine By λm f=>?_;have u:m.1∈zf:=by rw[<- t.ky];exact Ac.mpr ⟨m,f,rfl⟩
  rw[z9y,if_neg (t.un _ u).2,q6u (by rw[t.ky];exact t.nd) f]
 have h:=congrArg (List.map Prod.snd) t.vl;rw[Ah,Ah] at h;rw[j];exact h
def Turn1.out(t:Turn1 bl rows ms nw zf last)(h:p∉zf):plc (ms++nw) p=plc ms p:=by
 rw[z9y];by_cases c:p∈ms.map (·.1)
 ·rw[if_pos c]
 ·rw[if_neg c,q5v c,q5v (by rw[t.ky];exact h)]
def Turn1.self(t:Turn1 bl rows ms nw zf last)(h:p∈zf):plc ms p=p:=q5v (t.un p h).2
def Turn1.split(t:Turn1 bl rows ms nw zf last)(nd:(rows.map (·.1)).Nodup):(rows.map (·.1)).Perm (zf++(rows.map (·.1)).filter λp=>decide (p∉zf)):=by
 refine(Kh nd ?_).mpr λp=>?_
 ·refine Dv.mpr ⟨t.nd,nd.filter _,λx f y j z=>?_⟩;have:=(Dg.mp j).2;exact(of_decide_eq_true this) (by rw[<- z];exact f)
 ·rw[Ao,Dg];refine⟨λh=>?_,λh=>?_⟩
  ·by_cases c:p∈zf
   ·exact .inl c
   ·exact .inr ⟨h,decide_eq_true c⟩
  ·rcases h with h|h
   ·exact(t.un p h).1
   ·exact h.1
def Turn1.perm(t:Turn1 bl rows ms nw zf last)(nd:(rows.map (·.1)).Nodup):∃rest,((rows.map (·.1)).map λp=>fold bl (plc ms p)).Perm (zf.map (fold bl)++rest)/\((rows.map (·.1)).map λp=>fold bl (plc (ms++nw) p)).Perm ((zf.tail++[last]).map (fold bl)++rest):=by
 have sp:=t.split nd;refine⟨((rows.map (·.1)).filter λp=>decide (p∉zf)).map λp=>fold bl (plc ms p),?_,?_⟩
 ·have f:=sp.map λp=>fold bl (plc ms p);rw[Ae] at f;have e:zf.map (λp=>fold bl (plc ms p))=zf.map (fold bl):=By λp hp=>by rw[t.self hp]
  rw[e] at f;exact f
 ·have f:=sp.map λp=>fold bl (plc (ms++nw) p);rw[Ae,t.folds] at f;have e:((rows.map (·.1)).filter λp=>decide (p∉zf)).map (λp=>fold bl (plc (ms++nw) p))=((rows.map (·.1)).filter λp=>decide (p∉zf)).map (λp=>fold bl (plc ms p)):=By λp hp=>by rw[t.out (of_decide_eq_true (Dg.mp hp).2)]
  rw[e] at f;exact f
def Turn1.ring(t:Turn1 bl rows ms nw zf last)(nd:(rows.map (·.1)).Nodup)(ap:Apart bl rows (plc ms))(h:zf.head?=some last):Apart bl rows (plc (ms++nw)):=by
 obtain⟨rest,f,j⟩:=t.perm nd;refine j.nodup_iff.mpr ?_;have q:=f.nodup_iff.mp ap;cases zf with
 |nil=>cases h
 |cons z zf =>
  cases h;have e:((zf++[last]).map (fold bl)++rest).Perm ((last::zf).map (fold bl)++rest):=by
   refine Mh rest (List.Perm.map _ ?_);exact Kg _ _
  exact e.nodup_iff.mpr q
def Turn1.chain(t:Turn1 bl rows ms nw zf last)(nd:(rows.map (·.1)).Nodup)(ap:Apart bl rows (plc ms))(h:∀p∈rows.map (·.1),fold bl (plc ms p)≠fold bl last):Apart bl rows (plc (ms++nw)):=by
 obtain⟨rest,j,q⟩:=t.perm nd;refine q.nodup_iff.mpr ?_;have u:=j.nodup_iff.mp ap;have f:fold bl last∉zf.map (fold bl)++rest:=λz=>by
  obtain⟨p,hp,e⟩:=Ac.mp (j.mem_iff.mpr z);exact h p hp e
 have ne:=t.ne;cases zf with
 |nil=>exact absurd rfl ne
 |cons z zf =>
  have e:((zf++[last]).map (fold bl)++rest).Perm (fold bl last::(zf.map (fold bl)++rest)):=by
   rw[Ae];show((zf.map (fold bl)++[fold bl last])++rest).Perm _;exact Mh rest (Kg (fold bl last) (zf.map (fold bl)))
  refine e.nodup_iff.mpr (Bu.mpr ⟨λy=>f (Ap _ y),?_⟩);exact(Bu.mp u).2
def Turn1.cov(t:Turn1 bl rows ms nw zf last)(hl:Hl bl rows)(gw:GoodW rows ms)(hk:∀{k},hasP ks k=true->hasP f k=true)(v:∀p∈rows.map (·.1),hasP ks (keyO bl p)=true)(cv:∀p∈rows.map (·.1),hasP ks (keyO bl (plc ms p))=true)(hn:last≠[])(h:hasP f (keyO bl last)=true):∀p∈rows.map (·.1),hasP f (keyO bl (plc (ms++nw) p))=true:=λp hp=>by
 by_cases c:p∈zf
 ·have g:=t.good gw;have C:fold bl (plc (ms++nw) p)∈(zf.tail++[last]).map (fold bl):=by
   rw[<- t.folds];exact Ac.mpr ⟨p,c,rfl⟩
  obtain⟨q,j,e⟩:=Ac.mp C;have ok:=(q1a hl g hp).ne;rcases Ao.mp j with j|j
  ·have u:q∈zf:=Tf j;obtain⟨r,D,E⟩:=Ac.mp (t.un q u).1;have B:q≠[]:=by rw[<- E];exact(hl.ok r D).ne
   rw[<- z0l B ok e];exact hk (v q (t.un q u).1)
  ·rw[Ak.mp j] at e;rw[<- z0l hn ok e];exact h
 ·rw[t.out c];exact hk (cv p hp)
end
def PDt.fd(x:PDt H d ps)(F:FeedAt H a b)(fd:Fd a b H H'):PDt H' d ps:=⟨x6j x.at_ F fd,λy f=>tupFd F fd _ _ (x.pr y f)⟩
structure GWI (P) (w) (H) (a b m W t) (bl) (rows:List Rw) (i) (H') (ps) (ks):Prop where
 fd:Fd a b H H'
 m:H' m=some (dR (rows.map rR))
 wd:PDt H' W ps
 tk:DPr P w H' t ks
 kl:ks.length<=30+i
 gw:GoodW rows (ps.map (·.2))
 ap:Apart bl rows (plc (ps.map (·.2)))
 og:∀p∈rows.map (·.1),hasP ks (keyO bl p)=true
 cv:∀p∈rows.map (·.1),hasP ks (keyO bl (plc (ps.map (·.2)) p))=true
section
variable{H:Hp}{a b m W t:Addr}{bl:Bool}{rows:List Rw}{i:Nat}{H' H2:Hp}{ps:List (Addr×Mv)}{ks:List (PKey×Addr)}
def GWI.go(x:GWI P w H a b m W t bl rows i H' ps ks)(fd:Fd a b H' H2)(f:t≠a):GWI P w H a b m W t bl rows i H2 ps ks:=⟨x.fd.trans fd,x6j x.m x.fd.feed fd,x.wd.fd x.fd.feed fd,DPr.fd x.tk x.fd.feed fd f,x.kl,x.gw,x.ap,x.og,x.cv⟩
def GWI.same(x:GWI P w H a b m W t bl rows i H' ps ks)(s:Same H' H2):GWI P w H a b m W t bl rows i H2 ps ks:=⟨x.fd.same s,s _ _ x.m,x.wd.same s,x.tk.same s,x.kl,x.gw,x.ap,x.og,x.cv⟩
def GWI.up(x:GWI P w H a b m W t bl rows i H' ps ks):GWI P w H a b m W t bl rows (i+1) H' ps ks:=⟨x.fd,x.m,x.wd,x.tk,Fg x.kl,x.gw,x.ap,x.og,x.cv⟩
end
structure SomeOk (rows:List Rw) (ms:List Mv) (l:List Pth):Prop where
 nd:l.Nodup
 un:∀z∈l,z∈rows.map (·.1)/\z∉ms.map (·.1)
 go:(∀z∈l,∃k,(z,k)∈rows/\k≠none)\/∃d,∀z∈l,z.dropLast=d
def SomeOk.sub(x:SomeOk rows ms l)(p:(r++l').Perm l):SomeOk rows ms l':=by
 have f:∀z∈l',z∈l:=λz j=>p.mem_iff.mp (Bo _ j);exact⟨(Dv.mp (p.nodup_iff.mpr x.nd)).2.1,λz j=>x.un z (f z j),x.go.imp (λh z j=>h z (f z j)) (λ⟨d,h⟩=>⟨d,λz j=>h z (f z j)⟩)⟩
noncomputable def GP(H:Hp)(T:Addr)(p:Pth):Prop:=H T=some (.tup (vP p))/\okP p
def gg_P:GG K GP:=⟨λh k=>⟨k _ _ h.1,h.2⟩,λh=>⟨_,q2v h.1,q3r h.2.low⟩⟩
def z0s{xs:List V}(h:xs.getLast?=some v):atI xs (-1)=some v:=by
 have f:xs≠[]:=λz=>by rw[z] at h;cases h
 have hl:=Bi.mpr f;unfold atI ixN;rw[if_neg (by decide),if_pos (by lia)];rw[Cw] at h;rw[<- h];have e:((-1:Int)+(xs.length:Int)).toNat=xs.length-1:=by lia
 show xs[((-1:Int)+(xs.length:Int)).toNat]?=_;rw[e]
structure LastOk (bl) (rows) (ms) (ks) (zf:List Pth) (q):Prop where
 ok:okP q
 kq:hasP ks (keyO bl q)=true
 or:zf.head?=some q\/((∀p∈rows.map (·.1),fold bl (plc ms p)≠fold bl q)/\IsD rows q.dropLast/\∀one,zf.getLast?=some one->∃k,(one,k)∈rows/\(q.dropLast=one.dropLast\/k≠none))
def GWI.take{m}(x:GWI P w H a b m W t bl rows i H' ps ks)(F:FeedAt H a b)(h:H t=none)(v:i<=30)(pk:PrK H' kk e):GWI P w H a b m W t bl rows (i+1) (upd H' t (PdO P w t (ks++[(kk,e)]))) ps (ks++[(kk,e)]):=by
 have j:∀{c:Addr} {u:HO},H' c=some u->(∀f,u≠.ext f)->upd H' t (PdO P w t (ks++[(kk,e)])) c=some u:=λ{c u} e n=>by
  rw[q0d (λz=>by rw[z,x.tk.at_] at e;cases e;exact n _ rfl)];exact e
 refine⟨x.fd.put F h,j x.m (λ_ z=>by cases z),⟨j x.wd.at_ (λ_ z=>by cases z),λy q=>j (x.wd.pr y q) (λ_ z=>by cases z)⟩,x.tk.put pk (by have:=x.kl;exact small' (by lia)),by rw[An];have:=x.kl;show _+1<=_;lia,x.gw,x.ap,λp hp=>q7d (x.og p hp),λp hp=>q7d (x.cv p hp)⟩
structure ZI (P) (w) (H) (a b m W t M L7) (bl) (rows:List Rw) (zf pls:List (Addr×Pth)) (ps) (ks) (j) (H') (nw):Prop where
 fd:Fd a b H H'
 m:H' m=some (dR (rows.map rR))
 wd:PDt H' W (ps++nw)
 tk:DPr P w H' t ks
 pz:PL H' M zf
 l7:H' L7=some (.lst (pls.map λz=>V.ref z.1))
 pp:∀x∈pls,H' x.1=some (.tup (vP x.2))/\okP x.2
 ky:nw.map (·.2.1)=(zf.map (·.2)).take j
 vl:nw.map (λy=>(y.2.2.dropLast,fold bl y.2.2))=((pls.map (·.2)).take j).map (λp=>(p.dropLast,fold bl p))
 ok:∀y∈nw,okP y.2.2
section
variable{H:Hp}{a b m W t M L7:Addr}{bl:Bool}{rows:List Rw}{zf pls:List (Addr×Pth)}{ps nw:List (Addr×Mv)}{ks:List (PKey×Addr)}{j:Nat}{H' H2:Hp}
def ZI.go(x:ZI P w H a b m W t M L7 bl rows zf pls ps ks j H' nw)(fd:Fd a b H' H2)(h:t≠a)(q:M≠a)(u:L7≠a):ZI P w H a b m W t M L7 bl rows zf pls ps ks j H2 nw :=
 ⟨x.fd.trans fd,x6j x.m x.fd.feed fd,x.wd.fd x.fd.feed fd,DPr.fd x.tk x.fd.feed fd h,x.pz.fd x.fd.feed fd q,fd.at x.l7 u,λy f=>⟨tupFd x.fd.feed fd _ _ (x.pp y f).1,(x.pp y f).2⟩,x.ky,x.vl,x.ok⟩
def ZI.same(x:ZI P w H a b m W t M L7 bl rows zf pls ps ks j H' nw)(s:Same H' H2):ZI P w H a b m W t M L7 bl rows zf pls ps ks j H2 nw :=
 ⟨x.fd.same s,s _ _ x.m,x.wd.same s,x.tk.same s,x.pz.same s,s _ _ x.l7,λy f=>⟨s _ _ (x.pp y f).1,(x.pp y f).2⟩,x.ky,x.vl,x.ok⟩
def ZI.put{one:Pth}(x:ZI P w H a b m W t M L7 bl rows zf pls ps ks j H' nw)(F:FeedAt H a b)(G:H W=none)(B:m≠W)(Q:zf[j]?=some z)(R:pls[j]?=some y)(S:H' e=some (.tup (vP pl)))(okp:okP pl)(I:pl.dropLast=y.2.dropLast)(J:fold bl pl=fold bl y.2):
  ZI P w H a b m W t M L7 bl rows zf pls ps ks (j+1) (upd H' W (dR (((ps++nw).map λx=>((x.2.1,.ref x.1):HRow))++[(z.2,.ref e)]))) (nw++[(e,(z.2,pl))]):=by
 have v:∀{c:Addr} {u:HO},H' c=some u->(∀C,u≠.dT C)->upd H' W (dR (((ps++nw).map λx=>((x.2.1,.ref x.1):HRow))++[(z.2,.ref e)])) c=some u:=λ{c u} e n=>by
  rw[q0d (λz=>by rw[z,x.wd.at_] at e;cases e;exact n _ rfl)];exact e
 have q:∀{c:Addr} {xs:List V},H' c=some (.tup xs)->upd H' W (dR (((ps++nw).map λx=>((x.2.1,.ref x.1):HRow))++[(z.2,.ref e)])) c=some (.tup xs):=λh=>v h (λ_ z=>by cases z);have D:(zf.map (·.2))[j]?=some z.2:=by simp_all
 have E:(pls.map (·.2))[j]?=some y.2:=by simp_all
 refine⟨x.fd.put F G,by rw[q0d B];exact x.m,⟨?_,λu f=>?_⟩,⟨v x.tk.at_ (λ_ z=>by cases z),x.tk.sys,x.tk.len,λu f=>by obtain⟨c,L,O⟩:=x.tk.pk u f;exact⟨c,q L,q O⟩⟩,⟨v x.pz.at_ (λ_ z=>by cases z),λu f=>⟨q (x.pz.pr u f).1,(x.pz.pr u f).2⟩⟩,v x.l7 (λ_ z=>by cases z),λu f=>⟨q (x.pp u f).1,(x.pp u f).2⟩,?_,?_,λu f=>?_⟩
 ·rw[q0b,<- Fh,Ae (l₁:=ps++nw)];rfl
 ·rw[<- Fh] at f;rcases Ao.mp f with f|f
  ·exact q (x.wd.pr u f)
  ·simp_all
 ·rw[Ae,x.ky,Bc,D];rfl
 ·rw[Ae,x.vl,Bc,E,Ae];show _++[(pl.dropLast,fold bl pl)]=_;rw[I,J];rfl
 ·rcases Ao.mp f with f|f
  ·exact x.ok u f
  ·simp_all
end
structure CallsGW (P) (w) (K) (mg) (base):Prop where
 draw:Cal P w K mg base "_law_draw" 1 Z7 spDraw
 fold:Cal P w K mg base "_law_fold" 1 Zd spFold
 free_place:Cal P w K mg base "_law_free_place" 4 Z5 (spFree P w)
 other_case:Cal P w K mg base "_law_other_case" 2 Zs spOther
 some_of:Cal P w K mg base "_law_some_of" 2 Zb (spSome K)
noncomputable def spGoodW(P:Aw)(w:World):Sp:=λvs H Q _=>∃a b L bl n zs,vs=[.ref a,.ref L,.bl bl,.int n]/\FeedAt H a b/\RL H L zs/\Hl bl (zs.map (·.2))/\zs.length<=30/\L≠a/\0<n/\n<=20 /\
 ∀W ps H',Fd a b H H'->H W=none->PDt H' W ps->GoodW (zs.map (·.2)) (ps.map (·.2))->Apart bl (zs.map (·.2)) (plc (ps.map (·.2)))->Q (.ref W) H'
noncomputable abbrev q3t:Stmt:=top 52
def sc_good_wishes:FnScope ["_law_feed", "_law_rows_here", "_law_blind", "_law_most", "_law_marks", "_law_wishes", "_law_taken", "_law_path", "_law_turn", "_law_left", "_law_some", "_law_drawer", "_law_way", "_law_last", "_law_one", "_law_place", "_law_name"] Z8 (defScope q3t):=by trivial
def q8r(D:Df K mg "_law_good_wishes" q3t Z8)(T:Txt mg)(C:CallsGW P w K mg base):Cal P w K mg base "_law_good_wishes" 5 Z8 (spGoodW P w):=by
 refine D.cal sc_good_wishes (λvs H Q E h=>?_) (λf t7 A outer s H vs Q E R h=>?_)
 ·obtain⟨a,b,L,bl,n,zs,rfl,_⟩:=h;rfl
 ·obtain⟨a,b,L,bl,n,zs,rfl,F,rl,hl,o1,t8,n0,t9,k⟩:=h;refine⟨_,(q0c (q0i (i:=4) sc_good_wishes.nd rfl (by trivial) (q3d (q9g R) (by rfl) T.b_dict (by trivial) (q0a (pv 1) q0e))) (q0c (q0i (i:=5) sc_good_wishes.nd rfl (by trivial) q3n) (q0c (q0i (i:=6) sc_good_wishes.nd rfl (by trivial) (z5h P w rfl rfl)) (q0c (q3y H rfl (q1k Br rfl (@q4l _ _ _ _ K rfl (pv 4)) (q0h (i:=7) sc_good_wishes.nd rfl (by trivial)) (q0f (z3r P w rfl rfl (z2l R) (pv 6) (q1j (q0a (q0p (sl_k K rfl) (pv 7) q0r (q0s (q1i q0t q0g))) (q0a (pe_c C.fold R (q0a (q1q (ix_k K rfl) (pv 7) (q1i q0t q0g) (λ_ _=>rfl)) (q0a (pv 2) q0e))) q0e))) q4i rfl)))) (q0c (q1k Br rfl (q4j rfl T.b_range (q0a (q1l q1v q0g (pe_c C.draw R (q0a (pv 0) (q0a (pv 3) q0e)))) q0e)) (q0h (i:=8) sc_good_wishes.nd rfl (by trivial)) (q0c (q7q (i:=9) ["_law_path"] [("_law_wishes",5)] sc_good_wishes.nd rfl (by trivial) rfl (@q3b _ _ _ _ K rfl (q0k (q4x R) (by rfl) T.b_sorted (by trivial) (q0a (pv 4) q0e))) (λ_ _ _ _ _=>(q0h (i:=0) (show(["_law_path", "_law_wishes"]:List Str).Nodup by trivial) rfl (by trivial))) (λ_ _ _ _ _=>(q4k (q1z (q7v (q1c R) (pv 0) (pv 1))))) (λ_ _ _ _ _=>(pv 0))) (q0c (q7q (i:=10) ["_law_path"] [("_law_marks",4)] sc_good_wishes.nd rfl (by trivial) rfl (@q3b _ _ _ _ K rfl (pv 9)) (λ_ _ _ _ _=>(q0h (i:=0) (show(["_law_path", "_law_marks"]:List Str).Nodup by trivial) rfl (by trivial))) (λ_ _ _ _ _=>(q4k (q1z (q5z (q0v (q1c R) (pv 1) (pv 0) (λ_ _=>rfl)))))) (λ_ _ _ _ _=>(pv 0))) (q3e (q1b (pt_j (@PW.pt _ _ _ (q2z (q0n (ne_k K rfl R) (pv 9) (q2f q0e) (nomark _)) (q2a (q0n (eq_k K rfl R) (pe_c C.draw R (q0a (pv 0) (q0a q0g q0e))) q0g (nomark _)))))) (q0c (q0i (i:=11) sc_good_wishes.nd rfl (by trivial) (q0p (sl_k K rfl) (q1q (ix_k K rfl) (pv 9) (pe_c C.draw R (q0a (pv 0) (q0a (q0k (q3l K rfl) (by rfl) T.b_len Cd (q0a (pv 9) q0e)) q0e))) (λ_ _=>rfl)) q0r (q0s (q1i q0t q0g)))) (q0f (q7q (i:=10) ["_law_path"] [("_law_drawer",11)] sc_good_wishes.nd rfl (by trivial) rfl (@q3b _ _ _ _ K rfl (pv 9)) (λ_ _ _ _ _=>(q0h (i:=0) (show(["_law_path", "_law_drawer"]:List Str).Nodup by trivial) rfl (by trivial))) (λ_ _ _ _ _=>(q4k (q0n (eq_k K rfl R) (q0p (sl_k K rfl) (pv 0) q0r (q0s (q1i q0t q0g))) (pv 1) (nomark _)))) (λ_ _ _ _ _=>(pv 0))))) q0m) (q0c (q0i (i:=10) sc_good_wishes.nd rfl (by trivial) (pe_c C.some_of R (q0a (pv 0) (q0a (pv 10) (q0a (q1l q1v q0g (pe_c C.draw R (q0a (pv 0) (q0a q0g q0e)))) q0e))))) (q0c (q0i (i:=12) sc_good_wishes.nd rfl (by trivial) (pe_c C.draw R (q0a (pv 0) (q0a q0g q0e)))) (q0c (q0i (i:=13) sc_good_wishes.nd rfl (by trivial) q6q) (q3e (q1b (pt_j (@PW.pt _ _ _ (q2z (q0n (ne_k K rfl R) (pv 10) (q2f q0e) (nomark _)) (q2a (q0n (eq_k K rfl R) (pv 12) q0g (nomark _)))))) (q0f (q0i (i:=13) sc_good_wishes.nd rfl (by trivial) (q1q (ix_k K rfl) (pv 10) q0g (λ_ _=>rfl)))) q0m) (q3e (q1b (pt_j (@PW.pt _ _ _ (q2z (q0n (ne_k K rfl R) (pv 10) (q2f q0e) (nomark _)) (q2a (q0n x4r (pv 12) q0g (nomark _)))))) (q0f (q0i (i:=13) sc_good_wishes.nd rfl (by trivial) (pe_c C.free_place R (q0a (pv 0) (q0a (pv 4) (q0a (q1q (ix_k K rfl) (pv 10) (q1i q0t q0g) (λ_ _=>rfl)) (q0a (pv 6) (q0a (pv 2) q0e)))))))) q0m) (q0f (q1b (q1z (q5z (pv 13))) (q0f (q1k Br rfl (@zip_k _ _ _ _ _ _ _ _ _ K rfl rfl T.b_zip (q0a (pv 10) (q0a (q1l q1v (q0p (sl_k K rfl) (pv 10) (q0s q0g) q0r) (q2f (q0a (pv 13) q0e))) q0e)) (by rfl) (by rfl)) (@q2h _ _ _ _ _ (2) K rfl rfl (q0l (q0h (i:=14) sc_good_wishes.nd rfl (by trivial)) (q0l (q0h (i:=15) sc_good_wishes.nd rfl (by trivial)) q1p)) (by rfl) (by rfl)) (q0c (q0i (i:=16) sc_good_wishes.nd rfl (by trivial) (q1q (ix_k K rfl) (pv 15) (q1i q0t q0g) (λ_ _=>rfl))) (q3e (q1b (@q7u _ _ _ K rfl (pv 2) (λ_=>rfl)) (q0f (q0i (i:=16) sc_good_wishes.nd rfl (by trivial) (pe_c C.other_case R (q0a (pv 0) (q0a (pv 16) q0e))))) q0m) (q0f (q3x (q1c R) (pv 5) (pv 14) (q1l q3h (q0p (sl_k K rfl) (pv 15) q0r (q0s (q1i q0t q0g))) (q1j (q0a (pv 16) q0e))) rfl)))))) q0m))))))))))) (q0f (q0o (pv 5)))))))),?_⟩
  with_reducible refine gE λD1 X1 o2 o3=>?_
  refine⟨_,rfl,L,zs.map (·.1),zs.map (λz=>rR z.2),rfl,by rw[Ah];exact rl.at_,x4b rl.pr,by rw[Aa];lia,λm hm=>?_⟩;rw[z2t hl];have s1:=(Same.refl H).new (o:=dR ((zs.map (·.2)).map rR)) hm;have d0:upd H m (dR ((zs.map (·.2)).map rR)) m=some (dR ((zs.map (·.2)).map rR)):=q0b;generalize upd H m (dR ((zs.map (·.2)).map rR))=H1 at s1 d0;generalize h7:zs.map (·.2)=rows at hl d0 k;have o4:rows.length<=30:=by rw[<- h7,Aa];exact o1
  have g0:=hl.ok;refine gY o3 λX2 o5=>?_;refine λW hW=>?_;have s2:=s1.new (o:=.dT []) hW;have g1:=(Same.refl H1).new (o:=.dT []) hW _ _ d0;have g2:upd H1 W (.dT []) W=some (.dT []):=q0b;have k0:H W=none:=s1.free hW;have o6:m≠W:=λz=>by rw[<- z,d0] at hW;cases hW
  generalize upd H1 W (.dT [])=H2 at s2 g1 g2;refine gY o5 λX3 o7=>?_;refine λt ht e5=>?_;have s3':=(Same.refl H2).new (o:=PdO P w t []) ht;have s3:=s2.trans s3';have h8:=s3' _ _ g1;have h9:=s3' _ _ g2;have i0:H t=none:=s2.free ht;have a9:t≠a:=(F.na i0).symm;have i1:DPr P w (upd H2 t (PdO P w t [])) t []:=⟨q0b,e5,Bv _,(λ_ h=>nomatch h)⟩
  have i3:m≠t:=λz=>by rw[<- z,g1] at ht;cases ht
  generalize upd H2 t (PdO P w t [])=H3 at s3' s3 h8 h9 i1;refine gY o7 λX4 o8=>?_;refine⟨m,(λo v e=>by rw[hm] at e;cases e),?_⟩;refine⟨_,rfl,m,_,rfl,h8,λob=>?_⟩;refine q2s (λi O U=>∃X x7 x8 x9 c5 Y b8 b9 a0 a3 a4,O=[some (.ref a),some (.ref L),some (.bl bl),some (.int n),some (.ref m),some (.ref W),some (.ref t),x7,x8,x9,c5,Y,b8,b9,a0,a3,a4]/\U m=some (.frz ob (dR (rows.map rR)))/\DPr P w U t X/\(∀c u,c≠m->c≠t->H3 c=some u->U c=some u)/\X.length<=i/\(∀r∈rows.take i,hasP X (keyO bl r.1)=true)/\(∀kk,hasP X kk=true->∃r∈rows.take i,kk=keyO bl r.1))
   ⟨[],none,none,none,none,none,none,none,none,none,none,rfl,q0b,⟨by rw[q0d i3.symm];exact i1.at_,e5,Bv _,(λ_ h=>nomatch h)⟩,λc u hc _ e=>by rw[q0d hc];exact e,Aq _,(λr R=>by rw[Hg] at R;cases R),(λkk h=>by cases h)⟩ (λi O U x=>by obtain⟨_,_,_,_,_,_,_,_,_,_,_,_,h,_⟩:=x;exact h) ?_ ?_
  ·rintro i ky v pb O H4 o9 hb ⟨X,x7,x8,x9,c5,Y,b8,b9,a0,a3,a4,rfl,e6,d3,kp,kl,h1,h2⟩;obtain⟨r,R,rfl,rfl⟩:∃r,rows[i]?=some r/\ky=kP r.1/\v=mV r.2:=keyAt o9;rw[q1w] at hb;have g3:=g0 r (Af R);have u0:i<rows.length:=(Aj.mp R).1;obtain⟨c1,c2⟩:=q0w g3.ne;refine⟨_,rfl,_,rfl,_,rfl,_,rfl,.inr (.inr ⟨pb,_,rfl,SqT.of hb,c2,λt1 e7=>?_⟩)⟩;rw[c1];have s5:=(Same.refl H4).new (o:=.tup (vP r.1.dropLast)) e7;have k1:upd H4 t1 (.tup (vP r.1.dropLast)) t1=some (.tup (vP r.1.dropLast)):=q0b;generalize upd H4 t1 (.tup (vP r.1.dropLast))=H5 at s5 k1;refine⟨_,rfl,_,rfl,.inr (.inl ⟨pb,_,-1,_,rfl,rfl,SqT.of (s5 _ _ hb),q3i g3.ne,?_⟩)⟩;refine⟨_,rfl,_,bl,rfl,q2n g3,by show 2<=sizeLine;decide,λp3 p0=>?_⟩;have s6:=(Same.refl H5).new (o:=.tup [.ref t1,.str (mk (if bl then lowN (r.1.getLastD []) else r.1.getLastD []))]) p0;have pk:PrK (upd H5 p3 (.tup [.ref t1,.str (mk (if bl then lowN (r.1.getLastD []) else r.1.getLastD []))])) (keyO bl r.1) p3:=⟨t1,q0b,by show _=some (HO.tup ((kP r.1.dropLast).map kV));rw[q1w];exact s6 _ _ k1⟩
   have g4:=s5.trans s6;generalize upd H5 p3 (.tup [.ref t1,.str (mk (if bl then lowN (r.1.getLastD []) else r.1.getLastD []))])=H6 at s6 pk g4;have d4:hasP X (keyO bl r.1)=false:=by
    cases e:hasP X (keyO bl r.1) with
    |false=>rfl
    |true =>
     obtain⟨r',b0,e2⟩:=h2 _ e;obtain⟨j,hj⟩:=Bl.mp b0;have d5:j<i:=by
      have:=(Aj.mp hj).1;rw[Bg] at this;lia
     rw[Uo,if_pos d5] at hj;have hf:=x2x g3.ne (g0 r' (Af hj)).ne e2;have a1:(rows.map λr=>fold bl r.1)[i]?=some (fold bl r.1):=by rw[Am,R];rfl
     have a2:(rows.map λr=>fold bl r.1)[j]?=some (fold bl r.1):=by rw[Am,hj,hf];rfl
     have:=(Lz (Aj.mp a1).1 hl.nd).mp (a1.trans a2.symm);lia
   have k2:=d3.same g4;have k3:X.length<sizeLine:=small' (by lia);refine⟨t,X,p3,keyO bl r.1,rfl,rfl,rfl,k2,pk,d4,k3,?_⟩;have a7:rows.take (i+1)=rows.take i++[r]:=by rw[Bc,R];rfl
   refine⟨X++[(keyO bl r.1,p3)],_,_,_,_,_,_,_,_,_,_,rfl,by rw[q0d i3];exact g4 _ _ e6,k2.put pk k3,λc u hc k4 e=>by rw[q0d k4];exact g4 _ _ (kp c u hc k4 e),by rw[An];exact Iq kl,λr' b0=>?_,λkk c0=>?_⟩
   ·rw[a7] at b0;rcases Ao.mp b0 with b0|b0
    ·exact q7d (h1 r' b0)
    ·rw[Ak.mp b0];exact z0m
   ·rw[a7];unfold hasP at c0;rw[Wo,Bool.or_eq_true] at c0;rcases c0 with c0|c0
    ·obtain⟨r',b0,e⟩:=h2 kk c0;exact⟨r',Cp _ b0,e⟩
    ·refine⟨r,Bo _ (Ak.mpr rfl),?_⟩;simp at c0;exact c0.symm
  rintro O H4 ⟨X,x7,x8,x9,c5,Y,b8,b9,a0,a3,a4,rfl,e6,d3,kp,kl,h1,h2⟩;rw[Aa,Aa,Ba] at h1;rw[Aa,Aa] at kl;refine⟨ob,_,e6,?_⟩;have I0:GWI P w H a b m W t bl rows 0 (upd H4 m (dR (rows.map rR))) [] X:=by
   have p1:W≠m:=q0q hW d0;have p2:W≠t:=λz=>by rw[<- z,g2] at ht;cases ht
   have kp':∀c u,c≠m->c≠t->H3 c=some u->upd H4 m (dR (rows.map rR)) c=some u:=λc u h1 h2 e=>by rw[q0d h1];exact kp c u h1 h2 e
   have sF:Same H (upd H4 m (dR (rows.map rR))):=λc u e=>kp' c u (q0j e hm) (q0j e i0) (s3 _ _ e);have k5:∀{c:Addr} {xs:List V},H4 c=some (.tup xs)->upd H4 m (dR (rows.map rR)) c=some (.tup xs):=λ{c xs} e=>by rw[q0d (q0q e e6)];exact e
   have og:∀p∈rows.map (·.1),hasP X (keyO bl p)=true:=λp hp=>by
    obtain⟨r,R,rfl⟩:=Ac.mp hp;exact h1 r R
   refine⟨(Fd.refl F).same sF,q0b,⟨kp' W _ p1 p2 h9,(λ_ h=>nomatch h)⟩,⟨by rw[q0d i3.symm];exact d3.at_,e5,d3.len,λy hy=>?_⟩,by lia,⟨(λ_ h=>nomatch h),.nil⟩,?_,og,og⟩
   ·obtain⟨c,e1,e2⟩:=d3.pk y hy;exact⟨c,k5 e1,k5 e2⟩
   ·show((rows.map (·.1)).map λp=>fold bl p).Nodup;rw[Ah];exact hl.nd
  generalize upd H4 m (dR (rows.map rR))=H5 at I0;clear e6 d3 kp kl h1 h2 h8 h9 i1 s3' s3 g2 g1 s2 d0 s1 rl;show X4 _ _ _;refine gY o8 λX5 p4=>?_;refine⟨_,rfl,_,rfl,a,b,_,rfl,I0.fd.feed,by lia,by lia,λr0 H6 u2 u3 a6=>.inl ⟨_,_,rfl,rfl,?_⟩⟩;have I1:=I0.go a6 a9;refine⟨1+r0,rfl,by lia,by lia,q5n (n:=(1+r0).toNat) (λi O U=>∃ps X x7 x8 x9 c5 Y b8 b9 a0 a3 a4,O=[some (.ref a),some (.ref L),some (.bl bl),some (.int n),some (.ref m),some (.ref W),some (.ref t),x7,x8,x9,c5,Y,b8,b9,a0,a3,a4]/\GWI P w H a b m W t bl rows i U ps X/\i<=(1+r0).toNat) ⟨[],X,_,_,_,_,_,_,_,_,_,_,rfl,I1,Bv _⟩ ?_ ?_⟩
  ·clear I1 I0 a6;rintro i O H1 hi ⟨ps,X,x7,x8,x9,c5,Y,b8,b9,a0,a3,a4,rfl,I1,_⟩;refine gE λD2 X6 k6 p5=>?_;refine⟨_,rfl,m,_,rfl,I1.m,by rw[Aa];lia,λr R=>?_,λL2 bs qs p6 e8 p7 k7=>?_⟩
   ·obtain⟨y,hy,rfl⟩:=Ac.mp R;exact(g0 y hy).ne
   obtain⟨ys,y1,y2,y3⟩:=x2w k7;have k8:(rows.map rR).map (·.1)=rows.map (·.1):=by rw[Ah];rfl
   rw[k8] at e8;rw[y1];have s2:=(Same.refl H1).new (o:=.lst (ys.map λz=>V.ref z.1)) p6;have k9:∀y∈ys,y.2∈rows.map (·.1):=λy hy=>e8.mem_iff.mp (by rw[<- y2];exact Ac.mpr ⟨y,hy,rfl⟩);have l0:(ys.map (·.2)).Nodup:=by rw[y2];exact e8.nodup_iff.mpr hl.paths
   have l1:∀y∈ys,okP y.2:=λy hy=>by
    obtain⟨r,R,e⟩:=Ac.mp (k9 y hy);rw[<- e];exact g0 r R
   have h0:ys.length<=30:=by
    have e1:=congrArg List.length y2;have e2:=e8.length_eq;rw[Aa] at e1 e2;lia
   have hL2':upd H1 L2 (.lst (ys.map λz=>V.ref z.1)) L2=some (.lst (ys.map λz=>V.ref z.1)):=q0b;have g5:∀y∈ys,upd H1 L2 (.lst (ys.map λz=>V.ref z.1)) y.1=some (.tup (vP y.2)):=λy hy=>s2 _ _ (y3 y hy);have I2:=I1.same s2;generalize upd H1 L2 (.lst (ys.map λz=>V.ref z.1))=H2 at s2 hL2' g5 I2;clear y3 k7 y1 e8 p7 I1 s2 y2;have p8:((ps.map (·.2)).map (·.1)).Nodup:=I2.gw.nd;refine .inl ⟨L2,rfl,⟨_,SqL.of hL2'⟩,λDc g6=>?_⟩;refine q2g (λj vs U=>∃ds:List (Addr×Pth),vs=ds.map (λz=>V.ref z.1)/\Same H2 U/\U Dc=some (.lst vs)/\ds.Sublist (ys.take j)/\j<=ys.length/\∀z∈ds,z.2∉(ps.map (·.2)).map (·.1)) ⟨[],rfl,(Same.refl H2).new g6,q0b,Ql _,Bv _,(λ_ h=>nomatch h)⟩ (λj vs U h=>by obtain⟨ds,_,s',h',_⟩:=h;exact⟨h',SqL.of (s' _ _ hL2')⟩) ?_ ?_
   ·rintro j vs H3 v hv ⟨ds,rfl,s3,b1,B,_,b2⟩;obtain⟨y,hy,rfl⟩:=refAt hv;have hj:j<ys.length:=(Aj.mp hy).1;have c6:=Af hy;have a7:ys.take (j+1)=ys.take j++[y]:=by rw[Bc,hy];rfl
    have h4:ds.length<=30:=by have:=B.length_le;rw[Bg] at this;lia
    rcases(I2.wd.same s3).get p8 (s3 _ _ (g5 y c6)) with⟨hn,dg⟩|⟨z,G,ez,dg,_⟩
    ·refine⟨q1d,_,rfl,_,rfl,W,_,rfl,dg,_,rfl,iteT ?_⟩;refine⟨_,rfl,b1,small' (by rw[Aa];lia),ds++[y],by rw[Ae];rfl,s3.put g6,q0b,by rw[a7];exact Oe B (Ma _),hj,λz G=>?_⟩;rcases Ao.mp G with G|G
     ·exact b2 z G
     ·rw[Ak.mp G];exact hn
    ·refine⟨q1d,_,rfl,_,rfl,W,_,rfl,dg,_,rfl,iteF ?_⟩;exact⟨ds,rfl,s3,b1,by rw[a7];exact B.trans (Le _ _),hj,b2⟩
   rintro vs H3 ⟨lf,rfl,s3,l2,B,_,l3⟩;rw[Aa,Ba] at B;have i4:∀z∈lf,z∈ys:=λz G=>B.subset G;have l4:(lf.map (·.2)).Nodup:=l0.sublist (B.map _);have h5:lf.length<=30:=Cc B.length_le h0;have I3:=I2.same s3;have f0:PL H3 Dc lf:=⟨l2,λz G=>⟨s3 _ _ (g5 z (i4 z G)),l1 z (i4 z G)⟩⟩
   have h6:Dc≠a:=(I2.fd.feed.na g6).symm;have i5:∀z∈lf,z.2∈rows.map (·.1)/\z.2∉(ps.map (·.2)).map (·.1):=λz G=>⟨k9 z (i4 z G),l3 z G⟩
   clear l2 B l3 g5 hL2' s3 g6 I2 l0 l1 h0;show X6 _ _ _;refine gY p5 λX7 p9=>?_;refine⟨_,rfl,.inl ⟨Dc,rfl,⟨_,SqL.of f0.at_⟩,λS hS=>?_⟩⟩;refine q2g (λj vs U=>∃ds:List (Addr×Pth),vs=ds.map (λz=>V.ref z.1)/\Same H3 U/\U S=some (.lst vs)/\ds.Sublist (lf.take j)/\j<=lf.length/\∀z∈ds,∃k,(z.2,k)∈rows/\k≠none) ⟨[],rfl,(Same.refl H3).new hS,q0b,Ql _,Bv _,(λ_ h=>nomatch h)⟩ (λj vs U h=>by obtain⟨ds,_,s',h',_⟩:=h;exact⟨h',SqL.of (s' _ _ f0.at_)⟩) ?_ ?_
   ·rintro j vs H4 v hv ⟨ds,rfl,s4,b1,B,_,b2⟩;obtain⟨y,hy,rfl⟩:=refAt hv;have hj:j<lf.length:=(Aj.mp hy).1;have c6:=Af hy;have a7:lf.take (j+1)=lf.take j++[y]:=by rw[Bc,hy];rfl
    have h4:ds.length<=30:=by have:=B.length_le;rw[Bg] at this;lia
    obtain⟨r,R,er⟩:=Ac.mp (i5 y c6).1;have l5:(y.2,r.2)∈rows:=by rw[<- er];exact R
    refine⟨q1d,_,rfl,_,rfl,m,mV r.2,rfl,?_,_,rfl,?_⟩
    ·rw[<- q3p hl.paths l5];exact q4h (s4 _ _ I3.m) (s4 _ _ (f0.pr y c6).1)
    refine iteB (λe=>?_) (λe=>⟨ds,rfl,s4,b1,by rw[a7];exact B.trans (Le _ _),hj,b2⟩);have hn:r.2≠none:=λy=>by rw[y] at e;cases e
    refine⟨_,rfl,b1,small' (by rw[Aa];lia),ds++[y],by rw[Ae];rfl,s4.put hS,q0b,by rw[a7];exact Oe B (Ma _),hj,λz G=>?_⟩;rcases Ao.mp G with G|G
    ·exact b2 z G
    ·rw[Ak.mp G];exact⟨r.2,l5,hn⟩
   rintro vs H4 ⟨sm,rfl,s4,l6,B,_,l8⟩;rw[Aa,Ba] at B;have I4:=I3.same s4;have c7:=f0.same s4;have d6:PL H4 S sm:=⟨l6,λz G=>c7.pr z (B.subset G)⟩
   have f1:SomeOk rows (ps.map (·.2)) (sm.map (·.2)):=⟨l4.sublist (B.map _),λz G=>by obtain⟨y,hy,rfl⟩:=Ac.mp G;exact i5 y (B.subset hy),.inl λz G=>by obtain⟨y,hy,rfl⟩:=Ac.mp G;exact l8 y hy⟩
   have g7:sm.length<=30:=Cc B.length_le h5;have d7:S≠a:=(I3.fd.feed.na hS).symm;clear l6 B l8 s4 hS I3 f0;show X7 _ _ _;subst p9;refine⟨λO U=>∃S sm x7 Y,O=[some (.ref a),some (.ref L),some (.bl bl),some (.int n),some (.ref m),some (.ref W),some (.ref t),x7,some (.int (0+(i:Int))),some (.ref Dc),some (.ref S),Y,b8,b9,a0,a3,a4]/\GWI P w H a b m W t bl rows i U ps X/\PL U S sm/\SomeOk rows (ps.map (·.2)) (sm.map (·.2))/\sm.length<=30/\S≠a,?_,?_⟩;rotate_left
   ·refine⟨λbb U=>GWI P w H a b m W t bl rows i U ps X/\PL U Dc lf/\PL U S sm/\(bb=true->lf≠[]),?_,?_⟩
    ·rintro bb H5 ⟨I5,l9,f2,hb⟩;refine ite2 (λe=>?_) (λe=>⟨S,sm,_,_,rfl,I5,f2,f1,g7,d7⟩);have t5:=Bi.mpr (hb e);refine⟨_,rfl,_,rfl,_,rfl,_,_,rfl,.inl ⟨_,SqL.of l9.at_,rfl⟩,a,b,_,rfl,I5.fd.feed,by rw[Aa];lia,by rw[Aa];lia,λr1 H6 q0 q1 a6=>?_⟩;rw[Aa] at q1;have I6:=I5.go a6 a9;have f3:=l9.fd I5.fd.feed a6 h6;obtain⟨y,c6,i6⟩:=f3.get q0 (by lia);have b3:=(f3.pr y c6).2;obtain⟨c1,c2⟩:=q0w b3.ne;refine .inl ⟨Dc,_,r1,_,rfl,rfl,SqL.of f3.at_,i6,_,rfl,_,rfl,.inr (.inr ⟨y.1,_,rfl,SqT.of (f3.pr y c6).1,c2,λt1 e7=>?_⟩)⟩;rw[c1];have s7:=(Same.refl H6).new (o:=.tup (vP y.2.dropLast)) e7;have m0:upd H6 t1 (.tup (vP y.2.dropLast)) t1=some (.tup (vP y.2.dropLast)):=q0b;have I7:=I6.same s7;have f4:=f3.same s7;generalize upd H6 t1 (.tup (vP y.2.dropLast))=H7 at s7 m0 I7 f4;refine⟨_,rfl,.inl ⟨Dc,rfl,⟨_,SqL.of f4.at_⟩,λS2 i7=>?_⟩⟩;refine q2g (λj vs U=>∃ds:List (Addr×Pth),vs=ds.map (λz=>V.ref z.1)/\Same H7 U/\U S2=some (.lst vs)/\ds.Sublist (lf.take j)/\j<=lf.length/\∀z∈ds,z.2.dropLast=y.2.dropLast) ⟨[],rfl,(Same.refl H7).new i7,q0b,Ql _,Bv _,(λ_ h=>nomatch h)⟩ (λj vs U h=>by obtain⟨ds,_,s',h',_⟩:=h;exact⟨h',SqL.of (s' _ _ f4.at_)⟩) ?_ ?_
     ·rintro j vs H8 v hv ⟨ds,rfl,s8,b1,B,_,b2⟩;obtain⟨x,hx,rfl⟩:=refAt hv;have hj:j<lf.length:=(Aj.mp hx).1;have q3:=Af hx;have a7:lf.take (j+1)=lf.take j++[x]:=by rw[Bc,hx];rfl
      have h4:ds.length<=30:=by have:=B.length_le;rw[Bg] at this;lia
      obtain⟨q4,m1⟩:=f4.pr x q3;obtain⟨d1,d2⟩:=q0w m1.ne;refine⟨q1d,_,rfl,_,rfl,_,rfl,.inr (.inr ⟨x.1,_,rfl,SqT.of (s8 _ _ q4),d2,λu1 q5=>?_⟩)⟩;rw[d1];have s9:=(Same.refl H8).new (o:=.tup (vP x.2.dropLast)) q5;have i8:=s8.trans s9;refine⟨_,rfl,q0x q0b (i8 _ _ m0) (q1g m1.low) (q1g b3.low) ⟨_,rfl,iteB (λe=>?_) (λe=>⟨ds,rfl,i8,s9 _ _ b1,by rw[a7];exact B.trans (Le _ _),hj,b2⟩)⟩⟩;refine⟨_,rfl,s9 _ _ b1,small' (by rw[Aa];lia),ds++[x],by rw[Ae];rfl,i8.put i7,q0b,by rw[a7];exact Oe B (Ma _),hj,λz G=>?_⟩;rcases Ao.mp G with G|G
      ·exact b2 z G
      ·rw[Ak.mp G];exact of_decide_eq_true e
     ·rintro vs H8 ⟨ds,rfl,s8,b1,B,_,b2⟩;rw[Aa,Ba] at B;refine⟨S2,ds,_,_,rfl,I7.same s8,⟨b1,λz G=>(f4.same s8).pr z (B.subset G)⟩,⟨l4.sublist (B.map _),λz G=>by obtain⟨x,hx,rfl⟩:=Ac.mp G;exact i5 x (B.subset hx),.inr ⟨y.2.dropLast,λz G=>by obtain⟨x,hx,rfl⟩:=Ac.mp G;exact b2 x hx⟩⟩,Cc B.length_le h5,(I7.fd.feed.na i7).symm⟩
    ·refine⟨_,rfl,by show 0<=sizeLine;decide,λE1 f5=>?_⟩;have sE:=(Same.refl H4).new (o:=.lst []) f5;refine z5g (c7.same sE).at_ (λz G=>((c7.same sE).pr z G).1) q0b (λz G=>(c7.pr z G).2.low) ⟨_,rfl,iteB (λe=>?_) (λe=>⟨I4.same sE,c7.same sE,d6.same sE,(λz=>by cases z)⟩)⟩;have a5:lf≠[]:=by simpa using e
     have IE:=I4.same sE;exact⟨_,rfl,a,b,_,rfl,IE.fd.feed,by decide,by decide,λr1 H6 _ _ a6=>.inl ⟨rfl,_,rfl,IE.go a6 a9,(c7.same sE).fd IE.fd.feed a6 h6,(d6.same sE).fd IE.fd.feed a6 d7,λ_=>a5⟩⟩
   clear I4 c7 d6 f1 g7 d7 S sm;rintro O H4 ⟨S,sm,x7,Y,rfl,I4,d6,f1,g7,d7⟩;refine gZ λX8 q6=>?_;refine⟨_,rfl,_,rfl,_,rfl,a,b,_,rfl,I4.fd.feed,by decide,by decide,λr1 H5 _ _ i9=>.inl ⟨_,_,rfl,rfl,?_⟩⟩;have I5:=I4.go i9 a9;have f2:=d6.fd I4.fd.feed i9 d7;refine⟨Pth,GP,a,b,S,sm,1+r1,gg_P,rfl,I5.fd.feed,⟨f2.at_,f2.pr⟩,by lia,λM J zr H6 a6 hM j0 j1 _=>?_⟩;have I6:=I5.go a6 a9;have m2:PL H6 M J:=⟨j0.at_,j0.pr⟩
   have g8:M≠a:=(I5.fd.feed.na hM).symm;have b6:SomeOk rows (ps.map (·.2)) (J.map (·.2)):=f1.sub (r:=zr.map (·.2)) (by rw[<- Ae];exact j1.map _);have zl:J.length<=30:=by have:=j1.length_eq;rw[An] at this;lia
   clear j0 j1 hM a6 f2 I5 i9 d6 f1 I4 g7 d7;show X8 _ _ _;refine gY q6 λX9 q7=>?_;refine⟨_,rfl,a,b,_,rfl,I6.fd.feed,by decide,by decide,λwy H7 w0 w1 j3=>?_⟩;have I7:=I6.go j3 a9;have b4:=m2.fd I6.fd.feed j3 g8;clear m2 I6 j3;have m3:∀z∈J,hasP X (keyO bl z.2)=true:=λz G=>I7.og _ (b6.un z.2 (Ac.mpr ⟨z,G,rfl⟩)).1;show X9 _ _ _;subst q7;refine⟨λO U=>∃b5,O=[some (.ref a),some (.ref L),some (.bl bl),some (.int n),some (.ref m),some (.ref W),some (.ref t),x7,some (.int (0+(i:Int))),some (.ref Dc),some (.ref M),Y,some (.int wy),some b5,a0,a3,a4]/\GWI P w H a b m W t bl rows i U ps X/\PL U M J/\(b5=.non\/∃z,J.head?=some z/\b5=.ref z.1/\wy=0),?_,?_⟩;rotate_left
   ·refine⟨λbb U=>GWI P w H a b m W t bl rows i U ps X/\PL U M J/\(bb=true->J≠[]/\wy=0),?_,?_⟩
    ·rintro bb H8 ⟨I8,a8,hb⟩;refine ite2 (λe=>?_) (λe=>⟨_,rfl,I8,a8,.inl rfl⟩);obtain⟨a5,rfl⟩:=hb e;obtain⟨z,d8,rfl⟩:∃z d8,J=z::d8:=by
      cases J with
      |nil=>exact absurd rfl a5
      |cons z d8=>exact⟨z,d8,rfl⟩
     have i6:atI ((z::d8).map λz=>V.ref z.1) 0=some (.ref z.1):=by
      obtain⟨v,h1,h2⟩:=q8y (xs:=(z::d8).map λz=>V.ref z.1) (i:=0) (by decide) (by rw[Aa,Cj];lia);cases h1;exact h2
     exact⟨_,rfl,.inl ⟨M,_,0,_,rfl,rfl,SqL.of a8.at_,i6,_,rfl,I8,a8,.inr ⟨z,rfl,rfl,rfl⟩⟩⟩
    ·refine⟨_,rfl,by show 0<=sizeLine;decide,λE1 f5=>?_⟩;have sE:=(Same.refl H7).new (o:=.lst []) f5;have b7:=b4.same sE;refine z5g b7.at_ (λz G=>(b7.pr z G).1) q0b (λz G=>(b4.pr z G).2.low) ⟨_,rfl,iteB (λe=>?_) (λe=>⟨I7.same sE,b7,(λz=>by cases z)⟩)⟩;have a5:J≠[]:=by simpa using e
     exact⟨_,rfl,.inl ⟨rfl,_,rfl,I7.same sE,b7,λe2=>⟨a5,by simpa using e2⟩⟩⟩
   clear I7 b4;rintro O H7 ⟨b5,rfl,I7,b4,c8⟩;refine⟨λO U=>∃b5 X,O=[some (.ref a),some (.ref L),some (.bl bl),some (.int n),some (.ref m),some (.ref W),some (.ref t),x7,some (.int (0+(i:Int))),some (.ref Dc),some (.ref M),Y,some (.int wy),some b5,a0,a3,a4]/\GWI P w H a b m W t bl rows (i+1) U ps X/\PL U M J/\(b5=.non\/∃e q,b5=.ref e/\U e=some (.tup (vP q))/\J≠[]/\LastOk bl rows (ps.map (·.2)) X (J.map (·.2)) q),?_,?_⟩;rotate_left
   ·refine⟨λbb U=>GWI P w H a b m W t bl rows i U ps X/\PL U M J/\(bb=true->J≠[]),?_,?_⟩
    ·rintro bb H8 ⟨I8,a8,hb⟩;refine ite2 (λe=>?_) (λe=>⟨_,X,rfl,I8.up,a8,c8.imp id λ⟨z,G,e2,_⟩=>?_⟩)
     ·have a5:=hb e;obtain⟨z,G⟩:∃z,J.getLast?=some z:=⟨_,Be a5⟩
      have d9:=Et G;obtain⟨q8,_⟩:=a8.pr z d9;obtain⟨r,R,er⟩:=Ac.mp (b6.un z.2 (Ac.mpr ⟨z,d9,rfl⟩)).1;have m4:(z.2,r.2)∈rows:=by rw[<- er];exact R
      refine⟨_,rfl,_,rfl,_,rfl,_,rfl,.inl ⟨M,_,-1,_,rfl,rfl,SqL.of a8.at_,z0s (by rw[Ga,G];rfl),?_⟩⟩;refine⟨_,rfl,_,rfl,a,b,m,z.1,t,bl,rows,z.2,r.2,X,rfl,I8.fd.feed,I8.m,hl,o4,q8,m4,I8.tk,a9,by have:=I8.kl;lia,λH9 f6=>?_,λe9 q kb H9 j4 f6 d4 pk m5 dq q9 c3 he=>?_⟩
      ·exact⟨_,X,rfl,(I8.go f6 a9).up,a8.fd I8.fd.feed f6 g8,.inl rfl⟩
      ·have I9:=I8.go f6 a9;have j5:=a8.fd I8.fd.feed f6 g8;have e0:=(I9.take F i0 (by lia) pk).same c3;have nt:∀{c:Addr} {u:HO},H9 c=some u->(∀f,u≠.ext f)->upd H9 t (PdO P w t (X++[(keyO bl q,kb)])) c=some u:=λ{c u} e n=>by
        rw[q0d (λz=>by rw[z,I9.tk.at_] at e;cases e;exact n _ rfl)];exact e
       have c4:PL j4 M J:=⟨c3 _ _ (nt j5.at_ (λ_ z=>by cases z)),λx hx=>⟨c3 _ _ (nt (j5.pr x hx).1 (λ_ z=>by cases z)),(j5.pr x hx).2⟩⟩
       refine⟨_,_,rfl,e0,c4,.inr ⟨e9,q,rfl,he,a5,m5,z0m,.inr ⟨λp hp e2=>?_,dq,λone h1=>?_⟩⟩⟩
       ·have h3:=I8.cv p hp;rw[z0l (q1a hl I8.gw hp).ne m5.ne e2] at h3;rw[h3] at d4;cases d4
       ·rw[Ga,G] at h1;cases h1;exact⟨r.2,m4,q9⟩
     ·have d9:z∈J:=Sr G;refine⟨z.1,z.2,e2,(a8.pr z d9).1,λy=>by(rw[y] at G;cases G),(a8.pr z d9).2,m3 z d9,.inl ?_⟩;rw[List.head?_map,G];rfl
    ·refine⟨_,rfl,by show 0<=sizeLine;decide,λE1 f5=>?_⟩;have sE:=(Same.refl H7).new (o:=.lst []) f5;have b7:=b4.same sE;refine z5g b7.at_ (λz G=>(b7.pr z G).1) q0b (λz G=>(b4.pr z G).2.low) ⟨_,rfl,iteB (λe=>?_) (λe=>⟨I7.same sE,b7,(λz=>by cases z)⟩)⟩;have a5:J≠[]:=by simpa using e
     exact⟨_,rfl,_,_,rfl,rfl,_,rfl,I7.same sE,b7,λ_=>a5⟩
   clear I7 b4 c8 m3 b5 X;rintro O H7 ⟨b5,X,rfl,I7,b4,c8⟩;have m6:i+1<=(1+r0).toNat:=hi;rcases c8 with rfl|⟨e,q,rfl,he,a5,lo⟩
   ·subst k6;exact⟨_,rfl,_,rfl,iteF ⟨ps,X,_,_,_,_,_,_,_,_,_,_,rfl,I7,m6⟩⟩
   refine⟨_,rfl,_,rfl,iteT ?_⟩;have t6:=Bi.mpr a5;refine .inr ⟨_,rfl,_,rfl,_,rfl,.inr (.inl ⟨M,_,rfl,SqL.of b4.at_,λL5 r2=>?_⟩)⟩;have ec:cutV (J.map λz=>V.ref z.1) (some 1) none=(J.drop 1).map λz=>V.ref z.1:=by
    rw[z2r (by decide) (by rw[Aa];lia),Mm];rfl
   rw[ec];have s8:=(Same.refl H7).new (o:=.lst ((J.drop 1).map λz=>V.ref z.1)) r2;have m7:upd H7 L5 (.lst ((J.drop 1).map λz=>V.ref z.1)) L5=some (.lst ((J.drop 1).map λz=>V.ref z.1)):=q0b;generalize upd H7 L5 (.lst ((J.drop 1).map λz=>V.ref z.1))=H8 at s8 m7;refine⟨_,rfl,by show 1<=sizeLine;decide,λL6 r3=>?_⟩;have s9:=(Same.refl H8).new (o:=.lst [.ref e]) r3;have m8:upd H8 L6 (.lst [.ref e]) L6=some (.lst [.ref e]):=q0b;generalize upd H8 L6 (.lst [.ref e])=H9 at s9 m8;refine .inr (.inr ⟨L5,L6,_,_,rfl,rfl,s9 _ _ m7,m8,small (by rw[Aa,Du];show _+1<=_;lia),λL7 m9=>?_⟩);have r4:((J.drop 1).map λz=>V.ref z.1)++[.ref e]=(J.drop 1++[(e,q)]).map λz=>V.ref z.1:=by rw[Ae];rfl
   rw[r4];have s10':=(Same.refl H9).new (o:=.lst ((J.drop 1++[(e,q)]).map λz=>V.ref z.1)) m9;have c9:upd H9 L7 (.lst ((J.drop 1++[(e,q)]).map λz=>V.ref z.1)) L7=some (.lst ((J.drop 1++[(e,q)]).map λz=>V.ref z.1)):=q0b;have c3:=(s8.trans s9).trans s10';have n1:L7≠a:=((I7.same (s8.trans s9)).fd.feed.na m9).symm;generalize upd H9 L7 (.lst ((J.drop 1++[(e,q)]).map λz=>V.ref z.1))=j4 at s10' c9 c3;have e0:=I7.same c3;have c4:=b4.same c3;have Z0:ZI P w H a b m W t M L7 bl rows J (J.drop 1++[(e,q)]) ps X 0 j4 []:=⟨e0.fd,e0.m,by rw[Cu];exact e0.wd,e0.tk,c4,c9,λx hx=>by
    rcases Ao.mp hx with hx|hx
    ·exact c4.pr x (Td hx)
    ·rw[Ak.mp hx];exact⟨c3 _ _ he,lo.ok⟩,rfl,rfl,(λ_ h=>nomatch h)⟩
   have f7:(J.drop 1++[(e,q)]).length=J.length:=by rw[An,Du];show _+1=_;lia
   generalize n2:J.drop 1++[(e,q)]=f8 at Z0 f7 c9;refine⟨M,L7,_,_,rfl,SqL.of c4.at_,SqL.of c9,x1y (xs:=J.map λz=>V.ref z.1) (ys:=f8.map λz=>V.ref z.1) (λj O U=>∃nw a0 a3 a4,O=[some (.ref a),some (.ref L),some (.bl bl),some (.int n),some (.ref m),some (.ref W),some (.ref t),x7,some (.int (0+(i:Int))),some (.ref Dc),some (.ref M),Y,some (.int wy),some (.ref e),a0,a3,a4]/\ZI P w H a b m W t M L7 bl rows J f8 ps X j U nw) ⟨[],_,_,_,rfl,Z0⟩ (λj O U x=>by obtain⟨_,_,_,_,_,Z⟩:=x;exact⟨SqL.of Z.pz.at_,SqL.of Z.l7⟩) ?_ ?_⟩
   ·rintro j v v' T' O j6 hv r5 ⟨nw,a0,a3,a4,rfl,Z⟩ hT;obtain⟨z,G,rfl⟩:=refAt hv;obtain⟨y,hy,rfl⟩:=refAt r5;have sT:=(Same.refl j6).new (o:=.tup [.ref z.1,.ref y.1]) hT;refine⟨T',_,rfl,SqT.of q0b,rfl,_,_,rfl,_,_,rfl,rfl,?_⟩;have Z1:=Z.same sT;generalize upd j6 T' (.tup [.ref z.1,.ref y.1])=u4 at Z1;clear Z sT;obtain⟨r6,b3⟩:=Z1.pp y (Af hy);refine⟨_,rfl,_,rfl,.inr (.inl ⟨y.1,_,-1,_,rfl,rfl,SqT.of r6,q3i b3.ne,?_⟩)⟩;have n3:=q2n b3;refine⟨λO U=>∃nm,O=[some (.ref a),some (.ref L),some (.bl bl),some (.int n),some (.ref m),some (.ref W),some (.ref t),x7,some (.int (0+(i:Int))),some (.ref Dc),some (.ref M),Y,some (.int wy),some (.ref e),some (.ref z.1),some (.ref y.1),some (.str (mk nm))]/\ZI P w H a b m W t M L7 bl rows J f8 ps X j U nw/\okN nm/\(if bl then lowN nm=lowN (y.2.getLastD []) else nm=y.2.getLastD []),?_,?_⟩;rotate_left
    ·refine⟨_,rfl,bl,rfl,?_⟩;cases bl with
     |false=>exact iteF ⟨_,rfl,Z1,n3,rfl⟩
     |true =>
      refine iteT ⟨_,rfl,_,rfl,a,b,_,rfl,Z1.fd.feed,n3,λn' g9 j7 r7 n4=>?_⟩;exact⟨n',rfl,Z1.go n4 a9 g8 n1,j7,r7⟩
    rintro O g9 ⟨nm,rfl,Z2,j7,r8⟩;have n5:=(Z2.pp y (Af hy)).1;obtain⟨c1,c2⟩:=q0w b3.ne;refine⟨_,rfl,_,rfl,_,rfl,.inr (.inr ⟨y.1,_,rfl,SqT.of n5,c2,λt1 e7=>?_⟩)⟩;rw[c1];have sA:=(Same.refl g9).new (o:=.tup (vP y.2.dropLast)) e7;have n6:upd g9 t1 (.tup (vP y.2.dropLast)) t1=some (.tup (vP y.2.dropLast)):=q0b;generalize upd g9 t1 (.tup (vP y.2.dropLast))=HA at sA n6;refine⟨_,rfl,by show 1<=sizeLine;decide,λt2 r9=>?_⟩;have sB:=(Same.refl HA).new (o:=.tup [.str (mk nm)]) r9;have y6:y.2.length<=6:=b3.few;refine⟨t1,t2,_,_,rfl,rfl,sB _ _ n6,q0b,by rw[q0y,Bf];exact small (by show _+1<=_;lia),λe2 HC sC s0 _=>?_⟩;have he2':HC e2=some (.tup (vP (y.2.dropLast++[nm]))):=by rw[s0];show _=some (HO.tup ((y.2.dropLast++[nm]).map _));rw[Ae];rfl
    have ZC:=Z2.same ((sA.trans sB).trans sC);have okp:okP (y.2.dropLast++[nm]):=by
     refine⟨by simp,by rw[An,Bf];show _+1<=6;have:=Bi.mpr b3.ne;lia,λx hx=>?_⟩;rcases Ao.mp hx with hx|hx
     ·exact b3.all x (Ny _ hx)
     ·rw[Ak.mp hx];exact j7
    have t0:=(ZC.pz.pr z (Af G)).1;have d4:∀r∈((ps++nw).map λx=>((x.2.1,.ref x.1):HRow)),r.1≠z.2:=λr R e3=>by
     obtain⟨x,hx,rfl⟩:=Ac.mp R;rcases Ao.mp hx with hx|hx
     ·refine(b6.un z.2 (Ac.mpr ⟨z,Af G,rfl⟩)).2 ?_;rw[Ah];exact Ac.mpr ⟨x,hx,e3⟩
     ·have h1:z.2∈(J.map (·.2)).take j:=by rw[<- ZC.ky];exact Ac.mpr ⟨x,hx,e3⟩
      obtain⟨j2,d5⟩:=Bl.mp h1;have j8:j2<j:=by have:=(Aj.mp d5).1;rw[Bg] at this;lia
      rw[Uo,if_pos j8] at d5;have h3:(J.map (·.2))[j]?=some z.2:=by rw[Am,G];rfl
      have:=(Lz (Aj.mp d5).1 b6.nd).mp (d5.trans h3.symm);lia
    have u5:(ps++nw).length<=60:=by
     have e1:=congrArg List.length ZC.ky;have e2:=I7.gw.len;rw[Aa] at e2;rw[Aa,Bg,Aa] at e1;rw[An];lia
    refine⟨_,rfl,_,rfl,W,_,rfl,DPut.t (k:=kP z.2) ZC.wd.at_ (by rw[q1w];exact t0) (by rw[Aa,Aa];exact small' (by lia)),?_⟩;rw[q2d (p:=z.2) (v:=.ref e2) d4];have hg:(y.2.dropLast++[nm]).getLastD []=nm:=Ce;refine⟨_,_,_,_,rfl,ZC.put (one:=z.2) F k0 o6 G hy he2' okp (by rw[Bk]) ?_⟩;refine(q2i okp.ne b3.ne).mpr ⟨by rw[Bk],?_⟩;rw[hg];exact r8
   ·rintro O j6 ⟨nw,a0,a3,a4,rfl,Z⟩;have n7:min (J.map λz=>V.ref z.1).length (f8.map λz=>V.ref z.1).length=J.length:=by rw[Aa,Aa,f7,Ui]
    rw[n7] at Z;have t3:nw.map (·.2.1)=J.map (·.2):=by have:=Z.ky;rw[<- Aa (f:=λz:Addr×Pth=>z.2),Ba] at this;exact this
    have n8:f8.map (·.2)=(J.map (·.2)).tail++[q]:=by
     rw[<- n2,Ae,Mm,List.drop_one];rfl
    have t4:nw.map (λy=>(y.2.2.dropLast,fold bl y.2.2))=((J.map (·.2)).tail++[q]).map (λp=>(p.dropLast,fold bl p)):=by
     have:=Z.vl;rw[<- f7,<- Aa (f:=λz:Addr×Pth=>z.2),Ba,n8] at this;exact this
    have j9:∀p∈J.map (·.2),IsD rows p.dropLast:=λp hp=>by
     obtain⟨r,R,e2⟩:=Ac.mp (b6.un p hp).1;rw[<- e2];exact hl.dr r R
    have n9:∀p∈J.map (·.2),∀one∈J.map (·.2),∃k,(one,k)∈rows/\(p.dropLast=one.dropLast\/k≠none):=λp hp one ho=>by
     rcases b6.go with h|⟨d,h⟩
     ·obtain⟨k,hk,hn⟩:=h one ho;exact⟨k,hk,.inr hn⟩
     ·obtain⟨r,R,e2⟩:=Ac.mp (b6.un one ho).1;exact⟨r.2,by rw[<- e2];exact R,.inl (by rw[h p hp,h one ho])⟩
    have T1:Turn1 bl rows (ps.map (·.2)) (nw.map (·.2)) (J.map (·.2)) q:=by
     refine⟨λz=>a5 (Tv.mp z),b6.nd,b6.un,by rw[Ah];exact t3,by rw[Ah];exact t4,λm hm=>?_,λi2 one q2 h1 h2=>?_⟩
     ·obtain⟨y,hy,rfl⟩:=Ac.mp hm;exact Z.ok y hy
     ·have ho:=Af h1;have f9:q2∈J.map (·.2)->IsD rows q2.dropLast/\∃k,(one,k)∈rows/\(q2.dropLast=one.dropLast\/k≠none):=λo0=>⟨j9 q2 o0,n9 q2 o0 one ho⟩
      by_cases j8:i2<(J.map (·.2)).tail.length
      ·rw[Bt j8] at h2;exact f9 (Tf (Af h2))
      ·have e3:i2=(J.map (·.2)).tail.length:=by
        have:=(Aj.mp h2).1;rw[An] at this;have e4:i2<(J.map (·.2)).tail.length+1:=this;lia
       rw[e3,Cg (Aq _),Uq] at h2;cases h2;rcases lo.or with h|⟨_,hd,hf⟩
       ·exact f9 (Sr h)
       ·refine⟨hd,hf one ?_⟩;rw[Cw,<- h1,e3,List.length_tail]
    have em:(ps++nw).map (·.2)=ps.map (·.2)++nw.map (·.2):=Ae;subst k6;refine⟨ps++nw,X,_,_,_,_,_,_,_,_,_,_,rfl,⟨Z.fd,Z.m,Z.wd,Z.tk,I7.kl,by rw[em];exact T1.good I7.gw,?_,I7.og,?_⟩,m6⟩
    ·rw[em];rcases lo.or with h|⟨h,_⟩
     ·exact T1.ring hl.paths I7.ap h
     ·exact T1.chain hl.paths I7.ap h
    ·rw[em];exact T1.cov hl I7.gw (λh=>h) I7.og I7.cv lo.ok.ne lo.kq
  ·rintro O H7 ⟨ps,X,x7,x8,x9,c5,Y,b8,b9,a0,a3,a4,rfl,I,_⟩;subst p4;subst o2;exact⟨_,rfl,k W ps H7 I.fd k0 I.wd I.gw I.ap⟩
noncomputable def okMs(ms:List Mv):Prop:=∀m∈ms,okP m.1/\okP m.2
noncomputable def dM(m:Mv):Cs:=.tuple [.tuple (dP m.1),.tuple (dP m.2)]
def dt_M(h:MT H T m):Dt K H (.ref T) (dM m):=by
 obtain⟨A,B,f,j,q⟩:=h;exact .tup (SqT.of f) (.cons (q2v j) (.cons (q2v q) .nil))
def lay_M(h:okP m.1/\okP m.2):(dM m).canLay0=true:=by
 unfold dM;simp only[Fz,Cn,q9e h.1.low,q9e h.2.low,Pe]
noncomputable def GM(H:Hp)(T:Addr)(m:Mv):Prop:=MT H T m/\okP m.1/\okP m.2
def gg_M:GG K GM:=⟨λh k=>⟨h.1.keep k,h.2⟩,λh=>⟨_,dt_M h.1,lay_M h.2⟩⟩
structure CallsIO (P) (w) (K) (mg) (base):Prop where
 some_of:Cal P w K mg base "_law_some_of" 2 Zb (spSome K)
noncomputable def spInOrder:Sp:=λvs H Q _=>∃a b W ps,vs=[.ref a,.ref W]/\FeedAt H a b/\PDt H W ps/\((ps.map (·.2)).map (·.1)).Nodup/\okMs (ps.map (·.2))/\ps.length<=60/\∀M zs H',Fd a b H H'->H M=none->ML H' M zs->(zs.map (·.2)).Perm (ps.map (·.2))->Q (.ref M) H'
noncomputable abbrev q5i:Stmt:=top 53
def z4a:FnScope Zj Zj (defScope q5i):=by trivial
def z4b(D:Df K mg "_law_in_order" q5i Zj)(T:Txt mg)(C:CallsIO P w K mg base):Cal P w K mg base "_law_in_order" 3 Zj spInOrder:=by
 refine D.cal z4a (λvs H Q E h=>?_) (λf c1 A outer s H vs Q E hr h=>?_)
 ·obtain⟨a,b,W,J,rfl,_⟩:=h;rfl
 ·obtain⟨a,b,W,J,rfl,F,pd,nd,a0,c2,k⟩:=h;refine⟨_,(q0f (q0o (pe_c C.some_of hr (q0a (pv 0) (q0a (q1x ["_law_path"] [("_law_wishes",1)] rfl (@q3b _ _ _ _ K rfl (q0k (q4x hr) (by rfl) T.b_sorted (by trivial) (q0a (pv 1) q0e))) (λ_ _ _ _ _=>(q0h (i:=0) (show(["_law_path", "_law_wishes"]:List Str).Nodup by trivial) rfl (by trivial))) (λ_ _ _ _ _=>q2m) (λ_ _ _ _ _=>(q1j (q0a (pv 0) (q0a (q0v (q1c hr) (pv 1) (pv 0) (λ_ _=>rfl)) q0e))))) (q0a (q0k z9n (by rfl) T.b_len Cd (q0a (pv 1) q0e)) q0e)))))),?_⟩;have a9:(J.map λx=>((x.2.1,.ref x.1):HRow)).map (·.1)=(J.map (·.2)).map (·.1):=by rw[Ah,Ah];rfl
  refine⟨_,rfl,_,rfl,W,_,rfl,pd.at_,by rw[Aa];lia,λr hr=>?_,λL2 bs Z b0 G c3 a1=>?_⟩
  ·obtain⟨x,j,rfl⟩:=Ac.mp hr;exact(a0 x.2 (Ac.mpr ⟨x,j,rfl⟩)).1.ne
  rw[a9] at G;have s2:=(Same.refl H).new (o:=.lst (bs.map V.ref)) b0;have O:upd H L2 (.lst (bs.map V.ref)) L2=some (.lst (bs.map V.ref)):=q0b;generalize upd H L2 (.lst (bs.map V.ref))=H2 at s2 O;have b1:bs.length=Z.length:=Eu a1;have b2:Z.length=J.length:=by have:=G.length_eq;rw[Aa,Aa] at this;exact this
  refine .inl ⟨L2,rfl,⟨_,SqL.of O⟩,λDc a2=>?_⟩;refine q8z (xs:=bs.map V.ref) (λi ys I=>∃q:List (Addr×Mv),ys=q.map (λz=>V.ref z.1)/\q.map (·.2.1)=Z.take i/\(∀x∈q,GM I x.1 x.2/\x.2∈J.map (·.2))/\Same H2 I/\I Dc=some (.lst ys)/\i<=Z.length)
   ⟨[],rfl,rfl,(λ_ h=>nomatch h),(Same.refl H2).new a2,q0b,Bv _⟩ (λi ys I ⟨q,_,_,_,L,R,_⟩=>⟨R,SqL.of (L _ _ O)⟩) ?_ ?_
  ·rintro i ys I v hv ⟨q,rfl,u,B,L,R,c0⟩;obtain⟨b',hb,rfl⟩:∃b,bs[i]?=some b/\v=.ref b:=by
    rw[Am] at hv;cases e:bs[i]? with
    |none=>rw[e] at hv;cases hv
    |some z=>rw[e] at hv;cases hv;exact⟨z,rfl,rfl⟩
   obtain⟨p,U,b3⟩:=Er.at' a1 hb;have hi':i<Z.length:=(Aj.mp U).1;have a3:=L _ _ (s2 _ _ b3);have a4:p∈(J.map (·.2)).map (·.1):=G.mem_iff.mp (Af U);rcases(pd.same (s2.trans L)).get nd a3 with⟨hn,_⟩|⟨y,X,ey,dg,_⟩
   ·exact absurd a4 hn
   have b4:=(pd.same (s2.trans L)).pr y X;have a5:y.2∈J.map (·.2):=Ac.mpr ⟨y,X,rfl⟩;refine⟨_,rfl,_,rfl,_,rfl,W,_,rfl,dg,by show 2<=sizeLine;decide,λTn a6=>?_⟩;have sT:=(Same.refl I).new (o:=.tup [.ref b',.ref y.1]) a6;have c4:q.length=i:=by rw[<- Aa (f:=λz:Addr×Mv=>z.2.1),u,Bg];lia
   have a7:Dc≠Tn:=q0q R a6;have tk:∀S xs,upd I Tn (.tup [.ref b',.ref y.1]) S=some (.tup xs)->upd (upd I Tn (.tup [.ref b',.ref y.1])) Dc (.lst (q.map (λz=>V.ref z.1)++[.ref Tn])) S=some (.tup xs):=λS xs e=>by
    rw[q0d ((λz=>by rw[z,q0d a7,R] at e;cases e))];exact e
   refine⟨by rw[q0d a7];exact R,small' (by rw[Aa];lia),q++[(Tn,y.2)],by rw[Ae];rfl,?_,λx j=>?_,(L.trans sT).put a2,q0b,hi'⟩
   ·rw[Ae,u,Bc,U,<- ey];rfl
   ·rcases Ao.mp j with j|j
    ·exact⟨gg_M (K:=K).keep (gg_M (K:=K).keep (B x j).1 λS xs e=>sT _ _ e) tk,(B x j).2⟩
    ·rw[Ak.mp j];exact⟨⟨⟨b',y.1,tk _ _ q0b,tk _ _ (sT _ _ (by rw[ey];exact a3)),tk _ _ (sT _ _ b4)⟩,a0 _ a5⟩,a5⟩
  ·rintro ys I ⟨q,rfl,u,B,L,R,_⟩;rw[Aa,b1,Ba] at u;have Y:=s2.trans L;have b5:=pd.same Y;have wl:q.length=J.length:=by rw[<- Aa (f:=λz:Addr×Mv=>z.2.1),u,b2]
   have a8:=(Fd.refl F).same Y;refine⟨_,rfl,W,_,rfl,b5.at_,?_⟩;refine⟨Mv,GM,a,b,Dc,q,_,gg_M,rfl,a8.feed,⟨R,λx j=>(B x j).1⟩,by lia,λM zf zr H4 b6 hM gl pm b7=>?_⟩;have b8:zr=[]:=by
    rcases b7 with h|h
    ·have e:=pm.length_eq;rw[An] at e;rw[Aa,Aa] at h;exact Ha.mp (by lia)
    ·exact h
   subst b8;rw[Rf] at pm;refine k M zf H4 (a8.trans b6) (Y.free hM) ⟨gl.at_,λz hz=>(gl.pr z hz).1⟩ ((pm.map _).trans ?_);have wk:(q.map (·.2)).map (·.1)=Z:=by rw[Ah];exact u
   have b9:((q.map (·.2)).map (·.1)).Nodup:=by rw[wk];exact G.nodup_iff.mpr nd
   refine(Kh (q1n b9) (q1n nd)).mpr λx=>⟨λj=>?_,λj=>?_⟩
   ·obtain⟨y,X,rfl⟩:=Ac.mp j;exact(B y X).2
   ·have h1:x.1∈(q.map (·.2)).map (·.1):=by rw[wk];exact G.mem_iff.mpr (Ac.mpr ⟨x,j,rfl⟩)
    obtain⟨y,X,e⟩:=Ac.mp h1;obtain⟨z,hz,rfl⟩:=Ac.mp X;rw[<- q0u nd (B z hz).2 j e];exact X
structure Fol (ps:List Pth) (g:Pth->Option Pth):Prop where
 inj:∀{p q x},g p=some x->g q=some x->p=q
 to:∀{p x},g p=some x->x∈ps
 dom:∀{p x},g p=some x->p∈ps
structure Trk (g:Pth->Option Pth) (p) (xs:List Pth):Prop where
 hd:xs[0]?=some p
 st:∀{i x y},xs[i]?=some x->xs[i+1]?=some y->g x=some y
 nd:xs.Nodup
structure Orb (g) (p) (xs):Prop extends Trk g p xs where
 fin:∀{x},xs.getLast?=some x->g x=none\/g x=some p
section
variable{ps:List Pth}{g:Pth->Option Pth}{p x y:Pth}{xs ys:List Pth}
def x2y{f:Type}{l:List f}{i j:Nat}{x}(nd:l.Nodup)(h:l[i]?=some x)(q:l[j]?=some x):i=j :=
 (Lz (Aj.mp h).1 nd).mp (h.trans q.symm)
def q3k{f:Type}{l:List f}{x y}(h:l[i]?=some x)(q:l[i+1]?=none)(j:l.getLast?=some y):x=y:=by
 have u:=(Aj.mp h).1;have v:=List.getElem?_eq_none_iff.mp q;rw[Cw,show l.length-1=i by lia,h] at j;exact Bx j
def z9z{f:Type}{a:f}:[a].Nodup:=Bu.mpr ⟨by simp,.nil⟩
def Trk.one:Trk g p [p]:=⟨rfl,(λ{i x y} _ h=>by rw[Lp] at h;cases h),z9z⟩
def Trk.in_(t:Trk g p xs)(F:Fol ps g)(hp:p∈ps):∀x∈xs,x∈ps:=λx h=>by
 obtain⟨i,f⟩:=Bl.mp h;cases i with
 |zero=>rw[t.hd] at f;cases f;exact hp
 |succ i =>
  have j:=(Aj.mp f).1;exact F.to (t.st (Ci (show i<xs.length by lia)) f)
def Trk.new(t:Trk g p xs)(F:Fol ps g)(hl:xs.getLast?=some x)(h:g x=some y)(n:y≠p):y∉xs:=λj=>by
 obtain⟨i,f⟩:=Bl.mp j;cases i with
 |zero=>rw[t.hd] at f;cases f;exact n rfl
 |succ i =>
  have q:=(Aj.mp f).1;have e:=F.inj (t.st (Ci (show i<xs.length by lia)) f) h;rw[Cw,<- e] at hl;have:=x2y t.nd (Ci (show i<xs.length by lia)) hl;lia
def Trk.more(t:Trk g p xs)(F:Fol ps g)(hl:xs.getLast?=some x)(h:g x=some y)(n:y≠p):Trk g p (xs++[y]):=by
 have f:0<xs.length:=(Aj.mp t.hd).1;refine⟨by rw[Bt f];exact t.hd,λ{i u v} hu hv=>?_,?_⟩
 ·by_cases j:i+1<xs.length
  ·rw[Bt (by lia)] at hu;rw[Bt j] at hv;exact t.st hu hv
  ·have q:=(Aj.mp hv).1;rw[An] at q;have e:i+1=xs.length:=by
    have:[y].length=1:=rfl;lia
   rw[Bt (by lia)] at hu;rw[Cg (by lia),e,Uq] at hv;cases hv;rw[Cw,show xs.length-1=i by lia,hu] at hl;cases hl;exact h
 ·exact Dv.mpr ⟨t.nd,z9z,λa ha b B z=>by rw[Ak.mp B] at z;subst z;exact t.new F hl h n ha⟩
theorem q8s{f:Type}[DecidableEq f]:∀{l m:List f},l.Nodup->(∀x∈l,x∈m)->l.length<=m.length
 |[],_,_,_=>Bv _
 |a::l,m,nd,h=>by
  obtain⟨u,v⟩:=Bu.mp nd;have j:=h a Au;have B:=q8s (m:=m.erase a) v λx q=>(Te (λz:x=a=>u (by rw[<- z];exact q))).mpr (h x (Ap _ q))
  rw[Qk j] at B;have:=Rz j;rw[Cj];lia
def Trk.len(t:Trk g p xs)(F:Fol ps g)(hp:p∈ps):xs.length<=ps.length:=q8s t.nd (t.in_ F hp)
def Orb.step(a:Orb g p xs)(b:Orb g p ys)(h:xs[i]?=ys[i]?):ys[i+1]?=none->xs[i+1]?=none:=λv=>by
 cases e:xs[i+1]? with
 |none=>rfl
 |some y =>
  have B:=(Aj.mp e).1;have j:=Ci (show i<xs.length by lia);have q:=a.st j e;rw[h] at j;have u:=q3k j v (Be (λz=>by rw[z] at j;cases j));rcases b.fin (Be (λz=>by rw[z] at j;cases j)) with f|f
  ·rw[<- u,q] at f;cases f
  ·rw[<- u,q] at f;cases f;have:=x2y a.nd e a.hd;lia
def Orb.uniq(a:Orb g p xs)(b:Orb g p ys):xs=ys:=by
 refine Ve λi=>?_;induction i with
 |zero=>rw[a.hd,b.hd]
 |succ i ih =>
  cases e:xs[i+1]? with
  |none=>exact(b.step a ih.symm e).symm
  |some u =>
   cases e2:ys[i+1]? with
   |none=>rw[a.step b ih e2] at e;cases e
   |some v =>
    have j:=(Aj.mp e).1;have f:=Ci (show i<xs.length by lia);have q:=a.st f e;rw[ih] at f;have h:=b.st f e2;rw[q] at h;exact h
theorem Orb.ex(F:Fol ps g)(hp:p∈ps):∀ k  {xs},ps.length-xs.length=k->Trk g p xs->∃t,Orb g p (xs++t)
 |k,xs,hk,t=>by
  have f:0<xs.length:=(Aj.mp t.hd).1;have hl:=Be (Bi.mp f);cases e:g (xs.getLast (Bi.mp f)) with
  |none=>exact⟨[],by rw[Cu];exact⟨t,λ{x} hx=>by rw[hl] at hx;cases hx;exact .inl e⟩⟩
  |some y =>
   by_cases n:y=p
   ·exact⟨[],by rw[Cu];exact⟨t,λ{x} hx=>by rw[hl] at hx;cases hx;rw[e,n];exact .inr rfl⟩⟩
   ·have j:=t.more F hl e n;have q:=j.len F hp;rw[An] at q;have v:xs.length+1<=ps.length:=q;cases k with
    |zero=>lia
    |succ k =>
     obtain⟨u,h⟩:=Orb.ex F hp k (by rw[An];show ps.length-(xs.length+1)=k;lia) j;exact⟨y::u,by rw[Fh] at h;exact h⟩
noncomputable def IsRing(g:Pth->Option Pth)(p:Pth):Prop:=∃xs x,Orb g p xs/\xs.getLast?=some x/\g x=some p
def Trk.ring(t:Trk g p xs)(hl:xs.getLast?=some x)(h:g x=some p):IsRing g p:=⟨xs,x,⟨t,λ{z} hz=>by rw[hl] at hz;cases hz;exact .inr h⟩,hl,h⟩
def IsRing.pred(F:Fol ps g)(r:IsRing g p)(h:g y=some p):IsRing g y:=by
 obtain⟨q,x,o,hl,B⟩:=r;obtain rfl:=F.inj h B;obtain⟨f,rfl⟩:∃f,q=f++[y]:=List.getLast?_eq_some_iff.mp hl;cases f with
 |nil =>
  have e:y=p:=Bx o.hd;subst e;exact o.toTrk.ring hl B
 |cons z f =>
  have e:z=p:=Bx o.hd;subst e;have pr:=Nd (l₁:=z::f) (l₂:=[y]);have j:(y::z::f).Nodup:=pr.nodup_iff.mp o.nd;refine Trk.ring (xs:=y::z::f) (x:=(z::f).getLast (by simp)) ⟨rfl,λ{i u v} hu hv=>?_,j⟩ (by rw[Ur,Be (by simp)];rfl) ?_
  ·cases i with
   |zero=>cases hu;cases hv;exact h
   |succ i =>
    rw[Lp] at hu hv;have C:=(Aj.mp hv).1;exact o.st (i:=i) (by rw[Bt (by lia)];exact hu) (by rw[Bt C];exact hv)
  ·refine o.st (i:=f.length) ?_ ?_
   ·rw[Bt (by simp),<- Be (by simp),Cw];rfl
   ·rw[Cg (by simp)];simp
theorem IsRing.apart(F:Fol ps g)(hs:∀q,g q≠some s)(t:Trk g s ys):∀{i:Nat} {p},ys[i]?=some p->¬IsRing g p
 |0,p,h,r=>by
  rw[t.hd] at h;cases h;obtain⟨_,x,_,_,f⟩:=r;exact hs x f
 |i+1,p,h,r=>by
  have j:=(Aj.mp h).1;have f:=Ci (show i<ys.length by lia);exact IsRing.apart F hs t f (r.pred F (t.st f h))
theorem z5p(F:Fol ps g)(hn:¬IsRing g p):∀ k  {s} {xs},ps.length-xs.length=k->s∈ps->Trk g s xs->xs.getLast?=some p->∃j ys,j∈ps/\(∀q,g q≠some j)/\Trk g j ys/\ys.getLast?=some p
 |k,s,xs,hk,hs,t,hl=>by
  by_cases h:∃q,g q=some s
  ·obtain⟨q,f⟩:=h;have B:q∉xs:=λE=>by
    obtain⟨i,C⟩:=Bl.mp E;cases e:xs[i+1]? with
    |some v =>
     have:=t.st C e;rw[f] at this;cases this;have:=x2y t.nd e t.hd;lia
    |none =>
     obtain rfl:=q3k C e hl;exact hn ((t.ring hl f).pred F f)
   have D:Trk g q (q::xs):=⟨rfl,(λ{i u v} hu hv=>by
    cases i with
    |zero =>
     cases hu;rw[Lp,t.hd] at hv;cases hv;exact f
    |succ i=>exact t.st (i:=i) hu hv),Bu.mpr ⟨B,t.nd⟩⟩
   have G:xs.length+1<=ps.length:=D.len F (F.dom f);cases k with
   |zero=>lia
   |succ k =>
    refine z5p F hn k (xs:=q::xs) (by rw[Cj];lia) (F.dom f) D ?_;rw[Ur,hl];rfl
  ·exact⟨s,xs,hs,λq f=>h ⟨q,f⟩,t,hl⟩
end
noncomputable def nx(bl:Bool)(ps:List Pth)(f:Pth->Pth)(p:Pth):Option Pth:=if p∈ps/\f p≠p then ps.find? (λq=>decide (fold bl q=fold bl (f p)/\q≠p)) else none
def q1f(hl:Hl bl rows):nx bl (rows.map (·.1)) f p=some q↔p∈rows.map (·.1)/\f p≠p/\q∈rows.map (·.1)/\fold bl q=fold bl (f p)/\q≠p:=by
 unfold nx;constructor
 ·intro h;split at h
  ·rename_i hc;have j:=Wq h;have u:=Pu h;exact⟨hc.1,hc.2,u,(of_decide_eq_true j).1,(of_decide_eq_true j).2⟩
  ·cases h
 ·rintro⟨j,u,v,B,C⟩;rw[if_pos ⟨j,u⟩];cases e:(rows.map (·.1)).find? (λq=>decide (fold bl q=fold bl (f p)/\q≠p)) with
  |none=>exact absurd (decide_eq_true (show fold bl q=fold bl (f p)/\q≠p from⟨B,C⟩)) (by have:=List.find?_eq_none.mp e q v;simpa using this)
  |some z =>
   have D:=Wq e;have E:=of_decide_eq_true D;have G:=Pu e;have nd:((rows.map (·.1)).map (fold bl)).Nodup:=by rw[Ah];exact hl.nd
   rw[q0u nd G v (E.1.trans B.symm)]
def z2v(hl:Hl bl rows)(ap:Apart bl rows f):Fol (rows.map (·.1)) (nx bl (rows.map (·.1)) f):=by
 refine⟨λ{p q x} h1 h2=>?_,λ{p x} h=>((q1f hl).mp h).2.2.1,λ{p x} h=>((q1f hl).mp h).1⟩;obtain⟨j,_,_,u,_⟩:=(q1f hl).mp h1;obtain⟨v,_,_,B,_⟩:=(q1f hl).mp h2;have ap':((rows.map (·.1)).map λp=>fold bl (f p)).Nodup:=ap;exact q0u ap' j v (u.symm.trans B)
noncomputable abbrev qR(qs:List (Addr×Mv)):HO:=dR (qs.map λx=>(x.2.1,.ref x.1))
noncomputable def mvs(ms:List Mv):List Pth:=(ms.filter λm=>decide (m.2≠m.1)).map (·.1)
def mvs_in:p∈mvs ms↔∃q,(p,q)∈ms/\q≠p:=by
 unfold mvs;constructor
 ·intro h;obtain⟨m,u,rfl⟩:=Ac.mp h;obtain⟨f,j⟩:=Dg.mp u;exact⟨m.2,f,of_decide_eq_true j⟩
 ·rintro⟨q,f,j⟩;exact Ac.mpr ⟨(p,q),Dg.mpr ⟨f,decide_eq_true j⟩,rfl⟩
def x4g(nd:(ms.map (·.1)).Nodup):(mvs ms).Nodup:=nd.sublist (Tw.map _)
def q8i(rd:Rd H D (qR ps))(nd:((ps.map (·.2)).map (·.1)).Nodup)(f:x∈ps)(h:H b=some (.tup (vP x.2.1))):DGet H D (.ref b) (some (.ref x.1)):=by
 have e:=q4p (rs:=ps.map λx=>((x.2.1,.ref x.1):HRow)) (r:=(x.2.1,.ref x.1)) (Ac.mpr ⟨x,f,rfl⟩) (by rw[Ah] at nd ⊢;exact nd);rw[<- e];exact .inr ⟨_,kP x.2.1,b,rd,rfl,by rw[q1w];exact h,rfl⟩
noncomputable def spMoves:Sp:=λvs H Q _=>∃D qs,vs=[.ref D]/\PDt H D qs/\okMs (qs.map (·.2))/\((qs.map (·.2)).map (·.1)).Nodup/\qs.length<=60/\∀L zs H',H L=none->Same H H'->PL H' L zs->zs.map (·.2)=mvs (qs.map (·.2))->Q (.ref L) H'
noncomputable abbrev q2e:Stmt:=top 25
def q5j:FnScope Yd Yd (defScope q2e):=by trivial
def x2z(D:Df K mg "things_that_move" q2e Yd)(T:Txt mg):Cal P w K mg base "things_that_move" 1 Yd spMoves:=by
 refine D.cal q5j (λvs H Q E h=>?_) (λf a4 A outer s H vs Q E hr h=>?_)
 ·obtain⟨D,C,rfl,_⟩:=h;rfl
 ·obtain⟨D,C,rfl,pd,a1,nd,a5,k⟩:=h;refine⟨_,(q0f (q0o (z3o H rfl (q1x ["path"] [("places",0)] rfl (@q4l _ _ _ _ K rfl (pv 0)) (λ_ _ _ _ _=>(q0h (i:=0) (show(Zh:List Str).Nodup by trivial) rfl (by trivial))) (λ_ _ _ _ _=>(q4k (q0n (ne_k K rfl hr) (q0v (q1c hr) (pv 1) (pv 0) (λ_ _=>rfl)) (pv 0) (nomark _)))) (λ_ _ _ _ _=>(pv 0)))))),?_⟩;refine⟨D,(λo v e=>by rw[pd.at_] at e;cases e),?_⟩;refine⟨_,rfl,D,_,rfl,pd.at_,λob=>?_⟩;intro Dc R;have L:Dc≠D:=q0q R q0b;have G:H Dc=none:=by rw[q0d L] at R;exact R
  have a0:((C.map λx=>((x.2.1,.ref x.1):HRow)).map λr=>(kP r.1,r.2)).length=C.length:=by rw[Aa,Aa]
  refine q6a (n:=C.length) (λj U W=>∃J:List Zp,U=J.map (λz=>V.ref z.1)/\J.map (·.2)=mvs ((C.map (·.2)).take j)/\(∀z∈J,W z.1=some (.tup (vP z.2))/\okP z.2)/\W D=some (.frz ob (qR C))/\(∀c u,c≠D->H c=some u->W c=some u)/\W Dc=some (.lst U))
   ⟨[],rfl,rfl,(λ_ h=>nomatch h),by rw[q0d L.symm];exact q0b,λc u X e=>by rw[q0d (q0j e G),q0d X];exact e,q0b⟩ (λj U W x=>by obtain⟨_,_,_,_,_,_,h⟩:=x;exact h) (λj U W hj x=>by obtain⟨_,_,_,_,hf,_,_⟩:=x;exact⟨hf,by rw[a0];exact hj⟩) (λU W x=>by obtain⟨_,_,_,_,hf,_,_⟩:=x;exact⟨hf,by rw[a0];exact Aq _⟩) ?_ ?_
  ·rintro j U H1 v H2 hj ⟨J,rfl,O,Y,B,kp,I⟩ ⟨rfl,ky,vv,pb,a2,hb,rfl⟩;obtain⟨y,hy,rfl,rfl⟩:∃y,C[j]?=some y/\ky=kP y.2.1/\vv=.ref y.1:=keyAt a2;rw[q1w] at hb;have M:=Af hy;have Z:=a1 y.2 (Ac.mpr ⟨y,M,rfl⟩);have a3:H2 y.1=some (.tup (vP y.2.2)):=kp _ _ (q0q (pd.pr y M) pd.at_) (pd.pr y M);have e1:(C.map (·.2)).take (j+1)=(C.map (·.2)).take j++[y.2]:=by rw[Bc,Am,hy];rfl
   have zl:J.length<=60:=by
    have:=congrArg List.length O;unfold mvs at this;rw[Aa,Aa] at this;have l2:=Dh (λm:Mv=>decide (m.2≠m.1)) ((C.map (·.2)).take j);rw[Bg,Aa] at l2;lia
   refine⟨q1d,_,rfl,_,rfl,D,_,rfl,q8i (.inr ⟨ob,B⟩) nd M hb,_,rfl,q2q a3 hb Z.2.low Z.1.low ⟨_,rfl,?_⟩⟩;refine iteB (λX=>?_) (λX=>?_)
   ·have tk:∀S xs,H2 S=some (.tup xs)->upd H2 Dc (.lst (J.map (λz=>V.ref z.1)++[.ref pb])) S=some (.tup xs):=λS xs e=>by
     rw[q0d (q0q e I)];exact e
    refine⟨_,rfl,I,small' (by rw[Aa];lia),J++[(pb,y.2.1)],by rw[Ae];rfl,?_,λz q=>?_,by rw[q0d L.symm];exact B,λc u X e=>by rw[q0d (q0j e G)];exact kp c u X e,q0b⟩
    ·unfold mvs at O ⊢;rw[e1,Dy,Dj (by simpa using X),Ae,Ae,O];rfl
    ·rcases Ao.mp q with q|q
     ·exact⟨tk _ _ (Y z q).1,(Y z q).2⟩
     ·rw[Ak.mp q];exact⟨tk _ _ hb,Z.1⟩
   ·refine⟨J,rfl,?_,Y,B,kp,I⟩;unfold mvs at O ⊢;rw[e1,Dy,Di (by simpa using X),Ae,O];simp
  ·rintro U H1 ⟨J,rfl,O,Y,B,kp,I⟩;rw[<- Aa (f:=λx:Addr×Mv=>x.2),Ba] at O;have s1:Same H (upd H1 D (qR C)):=q2c pd.at_ kp;exact⟨ob,_,B,k Dc J _ G s1 ⟨by rw[q0d L];exact I,λz q=>⟨by rw[q0d (q0q ((Y z q).1) B)];exact(Y z q).1,(Y z q).2⟩⟩ O⟩
noncomputable def nxL(g:Pth->Option Pth)(ps:List Pth):List Mv:=ps.filterMap λp=>(g p).map λq=>(p,q)
def nxL_in:m∈nxL g ps↔m.1∈ps/\g m.1=some m.2:=by
 unfold nxL;constructor
 ·intro h;obtain⟨p,hp,e⟩:=Kr.mp h;cases eg:g p with
  |none=>rw[eg] at e;cases e
  |some q=>rw[eg] at e;cases e;exact⟨hp,eg⟩
 ·rintro⟨f,j⟩;exact Kr.mpr ⟨m.1,f,by rw[j];rfl⟩
theorem z0t:∀{ps},((nxL g ps).map (·.1)).Sublist ps
 |[]=>Ma _
 |p::ps=>by
  have f:=z0t (g:=g) (ps:=ps);unfold nxL at f ⊢;rw[Jc];cases g p with
  |none=>exact f.cons _
  |some q=>exact f.cons₂ _
def z4c:nxL g (ps++[p])=nxL g ps++(match g p with|some q=>[(p,q)]|none=>[]):=by
 unfold nxL;rw[List.filterMap_append,Jc];cases g p<;>rfl
structure NxD (H) (N) (ns) (g:Pth->Option Pth):Prop where
 pd:PDt H N ns
 nd:((ns.map (·.2)).map (·.1)).Nodup
 is:∀{m},m∈ns.map (·.2)↔g m.1=some m.2
def NxD.same(x:NxD H N ns g)(s:Same H H'):NxD H' N ns g:=⟨x.pd.same s,x.nd,x.is⟩
def NxD.get(x:NxD H N ns g)(j:H b=some (.tup (vP p))):(g p=none/\DGet H N (.ref b) none)\/∃q e,g p=some q/\DGet H N (.ref b) (some (.ref e))/\H e=some (.tup (vP q)):=by
 rcases x.pd.get x.nd j with⟨hn,dg⟩|⟨y,f,u,dg,_⟩
 ·left;refine⟨?_,dg⟩;cases e:g p with
  |none=>rfl
  |some q=>exact absurd (Ac.mpr ⟨(p,q),x.is.mpr e,rfl⟩) hn
 ·have h:=x.is.mp (Ac.mpr ⟨y,f,rfl⟩);rw[u] at h;exact .inr ⟨y.2.2,y.1,h,dg,x.pd.pr y f⟩
structure CallsNx (P) (w) (K) (mg) (base) (c):Prop where
 things_that_move:Cal P w K mg base "things_that_move" 1 Yd spMoves
 m_there:MCal P w K mg base c "there" 3 Zo (spThere1 c)
noncomputable def spNext(c:Addr):Sp:=λvs H Q _=>∃h d D bl rows ms qs,vs=[.ref h,.ref D]/\HallAt c H h d bl rows/\Hl bl rows/\rows.length<=30/\GoodW rows ms/\PDt H D qs/\(qs.map (·.2)).Perm (rows.map λr=>(r.1,plc ms r.1)) /\
 ∀N ns H',H N=none->Same H H'->NxD H' N ns (nx bl (rows.map (·.1)) (plc ms))->Q (.ref N) H'
def z0u{rows:List Rw}{f:Pth->Pth}{h:List (Addr×Mv)}(p:(h.map (·.2)).Perm (rows.map λr=>(r.1,f r.1))):((h.map (·.2)).map (·.1)).Perm (rows.map (·.1)):=by
 have:=p.map (·.1);rw[Ah (l:=rows)] at this;exact this
def x0a{rows:List Rw}{f:Pth->Pth}{h:List (Addr×Mv)}(p:(h.map (·.2)).Perm (rows.map λr=>(r.1,f r.1)))(j:x∈h):x.2.1∈rows.map (·.1)/\x.2.2=f x.2.1:=by
 obtain⟨r,q,e⟩:=Ac.mp (p.mem_iff.mp (Ac.mpr ⟨x,j,rfl⟩));rw[<- e];exact⟨Ac.mpr ⟨r,q,rfl⟩,rfl⟩
def x4h{f:List (Addr×Mv)}(hl:Hl bl rows)(gw:GoodW rows ms)(p:(f.map (·.2)).Perm (rows.map λr=>(r.1,plc ms r.1))):okMs (f.map (·.2)):=λm j=>by
 obtain⟨x,q,rfl⟩:=Ac.mp j;obtain⟨h,u⟩:=x0a p q;obtain⟨r,v,e⟩:=Ac.mp h;exact⟨by rw[<- e];exact hl.ok r v,by rw[u];exact q1a hl gw h⟩
def z4d{rows:List Rw}{f:Pth->Pth}{v:List (Addr×Mv)}(p:(v.map (·.2)).Perm (rows.map λr=>(r.1,f r.1))):x∈mvs (v.map (·.2))↔x∈rows.map (·.1)/\f x≠x:=by
 rw[mvs_in];constructor
 ·rintro⟨q,h,j⟩;obtain⟨r,u,e⟩:=Ac.mp (p.mem_iff.mp h);cases e;exact⟨Ac.mpr ⟨r,u,rfl⟩,j⟩
 ·rintro⟨h,j⟩;obtain⟨r,u,rfl⟩:=Ac.mp h;exact⟨f r.1,p.mem_iff.mpr (Ac.mpr ⟨r,u,rfl⟩),j⟩
noncomputable abbrev q4r:Stmt:=top 26
def sc_next_ones:FnScope ["hall", "places", "told", "path", "other"] Y7 (defScope q4r):=by trivial
def x6o(D:Df K mg "next_ones" q4r Y7)(T:Txt mg)(C:CallsNx P w K mg base c):Cal P w K mg base "next_ones" 4 Y7 (spNext c):=by
 refine D.cal sc_next_ones (λvs H Q E h=>?_) (λf c3 A outer s H vs Q E hr h=>?_)
 ·obtain⟨h,d,D,bl,rows,J,qs,rfl,_⟩:=h;rfl
 ·obtain⟨h,d,D,bl,rows,J,qs,rfl,hh,hl,c4,gw,pd,pm,k⟩:=h;refine⟨_,(q0c (q0i (i:=2) sc_next_ones.nd rfl (by trivial) q3n) (q0c (q1k Br rfl (@q3b _ _ _ _ K rfl (pe_c C.things_that_move hr (q0a (pv 1) q0e))) (q0h (i:=3) sc_next_ones.nd rfl (by trivial)) (q0c (q0i (i:=4) sc_next_ones.nd rfl (by trivial) (pe_m C.m_there hr (pv 0) (q0a (q0v (q1c hr) (pv 1) (pv 3) (λ_ _=>rfl)) q0e))) (q0f (q1b (pt_j (@PW.pt _ _ _ (q2z (q1z (q5z (pv 4))) (q2a (q0n (ne_k K rfl hr) (pv 4) (pv 3) (nomark _)))))) (q0f (q3x (q1c hr) (pv 2) (pv 3) (pv 4) rfl)) q0m)))) (q0f (q0o (pv 2))))),?_⟩;have b0:=x4h hl gw pm;have U:((qs.map (·.2)).map (·.1)).Nodup:=(z0u pm).nodup_iff.mpr hl.paths;have ql:qs.length<=30:=by have:=pm.length_eq;rw[Aa,Aa] at this;lia
  obtain⟨dx,hi⟩:=hh.i;intro N hN;have s1:=(Same.refl H).new (o:=.dT []) hN;have a3:upd H N (.dT []) N=some (.dT []):=q0b;generalize upd H N (.dT [])=H1 at s1 a3;refine⟨_,rfl,D,qs,rfl,pd.same s1,b0,U,by lia,λL O H2 hL s2 pl ez=>?_⟩;refine .inl ⟨L,rfl,⟨_,SqL.of pl.at_⟩,?_⟩;have a4:(O.map (·.2)).Nodup:=by rw[ez];exact x4g U
  have b1:=s2 _ _ a3;have b2:=s1.trans s2;refine q3m (λi R H'=>∃ns x3 x4,R=[some (.ref h),some (.ref D),some (.ref N),x3,x4]/\Same H H'/\PL H' L O/\PDt H' N ns/\ns.map (·.2)=nxL (nx bl (rows.map (·.1)) (plc J)) ((O.map (·.2)).take i)) ⟨[],none,none,rfl,b2,pl,⟨b1,(λ_ h=>nomatch h)⟩,rfl⟩ (λi R H' _ x=>by obtain⟨_,_,_,_,_,b3,_⟩:=x;exact SqL.of b3.at_) ?_ ?_
  ·rintro i v R H3 hv ⟨ns,x3,x4,rfl,W,S,X,j⟩;obtain⟨z,hz,rfl⟩:=refAt hv;have Y:=Af hz;have b4:(O.map (·.2))[i]?=some z.2:=by rw[Am,hz];rfl
   have e1:(O.map (·.2)).take (i+1)=(O.map (·.2)).take i++[z.2]:=by rw[Bc,b4];rfl
   have a5:z.2∈mvs (qs.map (·.2)):=by rw[<- ez];exact Ac.mpr ⟨z,Y,rfl⟩
   obtain⟨a6,b5⟩:=(z4d pm).mp a5;obtain⟨q,hq,_⟩:=mvs_in.mp a5;obtain⟨x,hx,ex⟩:=Ac.mp hq;have Z:=(S.pr z Y).1;have a7:x.2.1=z.2:=by rw[ex]
   have b6:x.2.2=plc J z.2:=by rw[<- a7];exact(x0a pm hx).2
   have a8:=(pd.same W).pr x hx;rw[b6] at a8;have dg:=q8i (b:=z.1) (.inl (pd.same W).at_) U hx (by rw[a7];exact Z);refine⟨_,rfl,h,dx,_,rfl,W _ _ hi,rfl,_,rfl,_,rfl,D,_,rfl,dg,h,d,x.1,bl,rows,_,rfl,hh.same W,a8,q1a hl gw a6,hl.ok,λH4 ov s4 b7=>?_⟩;have a0:=W.trans s4;have G:=S.same s4;have B:=X.same s4;have nl:ns.length<=30:=by
    have e:=congrArg List.length j;have l1:=(z0t (g:=nx bl (rows.map (·.1)) (plc J)) (ps:=(O.map (·.2)).take i)).length_le;rw[Aa] at l1 e;have l2:=congrArg List.length ez;unfold mvs at l2;have l3:=Dh (λm:Mv=>decide (m.2≠m.1)) (qs.map (·.2));rw[Bg,Aa] at l1;rw[Aa,Aa] at l2;rw[Aa] at l3;lia
   rcases b7 with⟨rfl,no⟩|⟨a1,r,rfl,a2,hf,he⟩
   ·have I:nx bl (rows.map (·.1)) (plc J) z.2=none:=by
     cases e:nx bl (rows.map (·.1)) (plc J) z.2 with
     |none=>rfl
     |some q =>
      obtain⟨_,_,h3,h4,_⟩:=(q1f hl).mp e;obtain⟨r,b8,rfl⟩:=Ac.mp h3;exact absurd h4 (no r b8)
    refine⟨λbb H5=>bb=false/\H5=H4,?_,⟨_,rfl,_,rfl,iteF ⟨rfl,rfl⟩⟩⟩;rintro bb H5 ⟨rfl,rfl⟩;exact iteF ⟨ns,_,_,rfl,a0,G,B,by rw[e1,z4c,I,j];simp⟩
   ·refine⟨λbb H5=>bb=(!decide (r.1=z.2))/\H5=H4,?_,⟨_,rfl,_,rfl,iteT ⟨_,rfl,_,rfl,q2q he (s4 _ _ Z) (hl.ok r a2).low (S.pr z Y).2.low ⟨_,rfl,rfl,rfl⟩⟩⟩⟩;rintro bb H5 ⟨rfl,rfl⟩;refine iteB (λhc=>?_) (λhc=>?_)
    ·have hc':r.1≠z.2:=by simpa using hc
     have I:nx bl (rows.map (·.1)) (plc J) z.2=some r.1:=(q1f hl).mpr ⟨a6,b5,Ac.mpr ⟨r,a2,rfl⟩,hf,hc'⟩;have b9:∀y∈(ns.map λx=>((x.2.1,.ref x.1):HRow)),y.1≠z.2:=λy M z'=>by
      obtain⟨x',c0,rfl⟩:=Ac.mp M;have c1:x'.2∈nxL (nx bl (rows.map (·.1)) (plc J)) ((O.map (·.2)).take i):=by rw[<- j];exact Ac.mpr ⟨x',c0,rfl⟩
      have h1:=(nxL_in.mp c1).1;have z2:x'.2.1=z.2:=z';rw[z2] at h1;have a9:((O.map (·.2)).take (i+1)).Nodup:=a4.sublist (Lq _ _);rw[e1] at a9;exact(Dv.mp a9).2.2 _ h1 _ (Ak.mpr rfl) rfl
     refine⟨_,rfl,_,rfl,_,rfl,N,_,rfl,DPut.t (k:=kP z.2) B.at_ (by rw[q1w];exact s4 _ _ Z) (by rw[Aa,Aa];exact small' (by lia)),?_⟩;rw[q2d (v:=.ref a1) b9];have nN:∀(x:Addr) (u:HO),H5 x=some u->(∀c2,u≠.dT c2)->upd H5 N (dR ((ns.map λx=>((x.2.1,.ref x.1):HRow))++[(z.2,.ref a1)])) x=some u:=λx u e n=>by
      rw[q0d (λy=>by rw[y,B.at_] at e;cases e;exact n _ rfl)];exact e
     refine⟨ns++[(a1,(z.2,r.1))],_,_,rfl,a0.put hN,⟨nN _ _ G.at_ (λ_ y=>by cases y),λy M=>⟨nN _ _ (G.pr y M).1 (λ_ y=>by cases y),(G.pr y M).2⟩⟩,⟨by rw[q0b,Ae (l₁:=ns)];rfl,λy M=>?_⟩,by rw[e1,z4c,I,Ae,j];rfl⟩;rcases Ao.mp M with M|M
     ·exact nN _ _ (B.pr y M) (λ_ y=>by cases y)
     ·rw[Ak.mp M];exact nN _ _ he (λ_ y=>by cases y)
    ·have hc':r.1=z.2:=by simpa using hc
     have I:nx bl (rows.map (·.1)) (plc J) z.2=none:=by
      cases e:nx bl (rows.map (·.1)) (plc J) z.2 with
      |none=>rfl
      |some q =>
       obtain⟨_,_,h3,h4,h5⟩:=(q1f hl).mp e;have nd:((rows.map (·.1)).map (fold bl)).Nodup:=by rw[Ah];exact hl.nd
       exact absurd ((q0u nd h3 (Ac.mpr ⟨r,a2,rfl⟩) (h4.trans hf.symm)).trans hc') h5
     exact⟨ns,_,_,rfl,a0,G,B,by rw[e1,z4c,I,j];simp⟩
  ·rintro R H3 ⟨ns,x3,x4,rfl,W,S,X,j⟩;rw[Aa,<- Aa (f:=λz:Zp=>z.2),Ba] at j;refine⟨_,rfl,k N ns H3 hN W ⟨X,?_,λ{m}=>?_⟩⟩
   ·rw[j];exact a4.sublist z0t
   ·rw[j,nxL_in,ez,z4d pm];exact⟨λx=>x.2,λx=>⟨⟨((q1f hl).mp x).1,((q1f hl).mp x).2.1⟩,x⟩⟩
structure CallsAsk (P) (w) (K) (mg) (base) (c):Prop where
 ask_wishes:Cal P w K mg base "ask_wishes" 8 Z3 (spAsk c)
 all_places:Cal P w K mg base "all_places" 6 Z3 (spAllP c)
 things_that_move:Cal P w K mg base "things_that_move" 1 Yd spMoves
 next_ones:Cal P w K mg base "next_ones" 4 Y7 (spNext c)
structure GW (c) (H) (h d L) (bl) (rows) (zs):Prop where
 ha:HallAt c H h d bl rows
 hl:Hl bl rows
 few:rows.length<=30
 ml:ML H L zs
 gw:GoodW rows (zs.map (·.2))
 len:zs.length<=60
 ap:Apart bl rows (plc (zs.map (·.2)))
def GW.same(g:GW c H h d L bl rows zs)(s:Same H H'):GW c H' h d L bl rows zs:=⟨g.ha.same s,g.hl,g.few,g.ml.same s,g.gw,g.len,g.ap⟩
structure Mvg (bl:Bool) (rows:List Rw) (f:Pth->Pth) (ms:List Pth):Prop where
 nd:ms.Nodup
 is:∀{p},p∈ms↔p∈rows.map (·.1)/\f p≠p
noncomputable def spAN(c:Addr):Sp:=λvs H Q _=>∃h d L bl rows zs,vs=[.ref h,.ref L]/\GW c H h d L bl rows zs /\
 ∀T M mz N ns H',Same H H'->H M=none->H N=none->H' T=some (.tup [.ref M,.ref N])->PL H' M mz->Mvg bl rows (plc (zs.map (·.2))) (mz.map (·.2))->NxD H' N ns (nx bl (rows.map (·.1)) (plc (zs.map (·.2))))->Q (.ref T) H'
noncomputable abbrev q2k:Stmt:=top 27
def sc_asked_next_ones:FnScope Y6 Z3 (defScope q2k):=by trivial
def x3a(D:Df K mg "asked_next_ones" q2k Z3)(T:Txt mg)(C:CallsAsk P w K mg base c):Cal P w K mg base "asked_next_ones" 9 Z3 (spAN c):=by
 refine D.cal sc_asked_next_ones (λvs H Q E h=>?_) (λf a0 A outer s H vs Q E I h=>?_)
 ·obtain⟨h,d,L,bl,rows,J,rfl,_⟩:=h;rfl
 ·obtain⟨h,d,L,bl,rows,J,rfl,G,k⟩:=h;refine⟨_,(q0c (q1t (pe_c C.ask_wishes I (q0a (pv 0) (q0a (pv 1) q0e)))) (q0c (q0i (i:=2) sc_asked_next_ones.nd rfl (by trivial) (pe_c C.all_places I (q0a (pv 0) (q0a (pv 1) q0e)))) (q0f (q0o (q1j (q0a (pe_c C.things_that_move I (q0a (pv 2) q0e)) (q0a (pe_c C.next_ones I (q0a (pv 0) (q0a (pv 2) q0e))) q0e))))))),?_⟩;refine⟨_,rfl,_,rfl,h,d,L,bl,rows,J,rfl,G.ha,G.hl,G.few,G.ml,G.gw,G.len,G.ap,λH1 X=>?_⟩;have Y:=G.same X;refine⟨_,rfl,_,rfl,h,d,L,bl,rows,J,rfl,Y.ha,G.hl,by have:=G.few;lia,Y.ml,G.gw,G.len,λZ j rs H2 a1 s2 u O a2 e0=>?_⟩;have q:=X.trans s2;have pm:(j.map (·.2)).Perm (rows.map λr=>(r.1,plc (J.map (·.2)) r.1)):=by rw[e0];exact O.map _
  have v:((j.map (·.2)).map (·.1)).Nodup:=(z0u pm).nodup_iff.mpr G.hl.paths;have pl:j.length<=30:=by have:=pm.length_eq;rw[Aa,Aa] at this;have:=G.few;lia
  refine⟨_,rfl,Z,j,rfl,u,x4h G.hl G.gw pm,v,by lia,λM mz H3 hM R S ez=>?_⟩;refine⟨_,rfl,_,rfl,h,d,Z,bl,rows,_,j,rfl,(G.same (q.trans R)).ha,G.hl,G.few,G.gw,u.same R,pm,λN ns H4 hN s4 U=>?_⟩;refine⟨by show 2<=sizeLine;decide,λT' hT=>?_⟩;have W:=(Same.refl H4).new (o:=.tup [.ref M,.ref N]) hT;have B:=q.trans R;exact k T' M mz N ns _ ((B.trans s4).trans W) (q.free hM) (B.free hN) q0b ((S.same s4).same W) ⟨by rw[ez];exact x4g v,λ{p}=>by rw[ez];exact z4d pm⟩ (U.same W)
def x6p(f:H b=some (.tup (vP p)))(h:Low p)(k:Q (.bl false) H):rEqU K .non (.ref b) H Q:=by
 refine .inr ⟨_,_,.non,q2v f,rfl,q3r h,by simp only[Iz];lia,?_⟩;simp only[Fw];exact k
noncomputable def spFrom:Sp:=λvs H Q _=>∃b N ns g ps p,vs=[.ref b,.ref N]/\H b=some (.tup (vP p))/\NxD H N ns g/\Fol ps g/\p∈ps/\ps.length<=30/\(∀x∈ps,okP x)/\∀L zs H',H L=none->Same H H'->PL H' L zs->Orb g p (zs.map (·.2))->Q (.ref L) H'
noncomputable abbrev q2x:Stmt:=top 28
def sc_from_thing_on:FnScope ["path", "nexts", "told"] Y8 (defScope q2x):=by trivial
def x6q(D:Df K mg "from_thing_on" q2x Y8)(T:Txt mg):Cal P w K mg base "from_thing_on" 1 Y8 spFrom:=by
 refine D.cal sc_from_thing_on (λvs H Q E h=>?_) (λf a2 A outer s H vs Q E Y h=>?_)
 ·obtain⟨b,N,ns,g,ps,p,rfl,_⟩:=h;rfl
 ·obtain⟨b,N,ns,g,ps,p,rfl,hb,a0,F,hp,a3,v,k⟩:=h;refine⟨_,(q0c (q0i (i:=2) sc_from_thing_on.nd rfl (by trivial) (q2f (q0a (pv 0) q0e))) (q0c (q9u Br (pt_j (@PW.pt _ _ _ (q2z (q1z (z8l (q1c Y) (q1q (ix_k K rfl) (pv 2) (q1i q0t q0g) (λ_ _=>rfl)) (pv 1))) (q2a (q0n (ne_k K rfl Y) (q0v (q1c Y) (pv 1) (q1q (ix_k K rfl) (pv 2) (q1i q0t q0g) (λ_ _=>rfl)) (λ_ _=>rfl)) (pv 0) (nomark _)))))) (q0f (q1t (@bm_k _ _ _ _ _ _ _ _ _ _ _ _ K rfl Dx Eo Ep q2r (pv 2) (q0a (q0v (q1c Y) (pv 1) (q1q (ix_k K rfl) (pv 2) (q1i q0t q0g) (λ_ _=>rfl)) (λ_ _=>rfl)) q0e) (by rfl) (by rfl) (by rfl) (by rfl) (by rfl))))) (q0f (q0o (pv 2))))),?_⟩;refine⟨_,rfl,by show 1<=sizeLine;decide,λL hL=>?_⟩;have B:=(Same.refl H).new (o:=.lst [.ref b]) hL;refine q9v (λM Z=>∃u:List Zp,M=[some (.ref b),some (.ref N),some (.ref L)]/\Same H Z/\PL Z L u/\Trk g p (u.map (·.2))) (λ_ Z=>100-lenAt L Z) ⟨[(b,p)],rfl,B,⟨q0b,λz hz=>by rw[Ak.mp hz];exact⟨B _ _ hb,v p hp⟩⟩,Trk.one⟩ ?_ ?_
  ·rintro M H1 ⟨u,rfl,B,pl,t⟩;have O:u≠[]:=λz=>by have:=t.hd;rw[z] at this;cases this
   have j:=Be O;generalize u.getLast O=z at j;have C:atI (u.map λz=>V.ref z.1) (-1)=some (.ref z.1):=z0s (by rw[Ga,j];rfl);have U:(u.map (·.2)).getLast?=some z.2:=by rw[Ga,j];rfl
   have a1:=Et j;have W:=(pl.pr z a1).1;have zl:u.length<=30:=by have:=t.len F hp;rw[Aa] at this;lia
   have X:=a0.same B;refine⟨λbb H2=>H2=H1/\(bb=true->∃q,g z.2=some q/\q≠p)/\(bb=false->g z.2=none\/g z.2=some p),?_,?_⟩
   ·rintro bb H2 ⟨rfl,hT,hF⟩;refine ite2 (λh=>?_) (λh=>⟨_,rfl,k L u _ hL B pl ⟨t,λ{x} hx=>by rw[U] at hx;cases hx;exact hF (by simpa using h)⟩⟩);obtain⟨q,G,nq⟩:=hT h;rcases X.get W with⟨e,_⟩|⟨q',e,I,dg,he⟩
    ·rw[G] at e;cases e
    rw[G] at I;cases I;refine⟨_,rfl,.inl ⟨rfl,_,SqL.of pl.at_⟩,_,rfl,_,rfl,_,rfl,.inl ⟨L,_,-1,_,rfl,rfl,SqL.of pl.at_,C,N,_,rfl,dg,?_⟩⟩;refine⟨L,_,_,rfl,rfl,pl.at_,by rw[Aa];exact small' (by lia),?_⟩;have tk:∀S xs,H2 S=some (.tup xs)->upd H2 L (.lst (u.map (λz=>V.ref z.1)++[.ref e])) S=some (.tup xs):=λS xs e=>by
     rw[q0d (q0q e pl.at_)];exact e
    have t2:=t.more F U G nq;refine⟨⟨u++[(e,q)],rfl,B.put hL,⟨by rw[q0b,Ae];rfl,λy J=>?_⟩,by rw[Ae];exact t2⟩,?_⟩
    ·rcases Ao.mp J with J|J
     ·exact⟨tk _ _ (pl.pr y J).1,(pl.pr y J).2⟩
     ·rw[Ak.mp J];exact⟨tk _ _ he,v q (F.to G)⟩
    ·rw[q4z q0b,q4z pl.at_,An,Aa];show 100-(u.length+1)<100-u.length;lia
   ·refine⟨_,rfl,_,rfl,.inl ⟨L,_,-1,_,rfl,rfl,SqL.of pl.at_,C,_,rfl,?_⟩⟩;rcases X.get W with⟨e,dg⟩|⟨q,e,I,dg,he⟩
    ·exact⟨N,_,rfl,dg,_,rfl,iteF ⟨rfl,(λz=>by cases z),λ_=>.inl e⟩⟩
    ·refine⟨N,_,rfl,dg,_,rfl,iteT ?_⟩;refine⟨_,rfl,_,rfl,_,rfl,.inl ⟨L,_,-1,_,rfl,rfl,SqL.of pl.at_,C,N,_,rfl,dg,_,rfl,q2q he (B _ _ hb) (v q (F.to I)).low (v p hp).low ⟨_,rfl,rfl,λh=>⟨q,I,by simpa using h⟩,λh=>.inr (by rw[I];congr 1;simpa using h)⟩⟩⟩
  ·intro a4 H3 Q1 Q2 G h;obtain⟨R,h1,h2⟩:=h;exact⟨R,λb H1 r=>G _ _ (h1 b H1 r),h2⟩
def Trk.headD(t:Trk g p xs):xs.headD []=p:=by
 have:=t.hd;cases xs with
 |nil=>cases this
 |cons a l=>exact Bx this
noncomputable abbrev Zl:=Addr×List Zp
noncomputable abbrev cont(z:Zl):List Pth:=z.2.map (·.2)
structure LLs (H:Hp) (L) (zs:List Zl):Prop where
 at_:H L=some (.lst (zs.map λz=>V.ref z.1))
 pr:∀z∈zs,PL H z.1 z.2
def PL.headAt{zs:List Zp}(h:PL H L zs)(ne:zs≠[]):HdL H L ((zs.map (·.2)).headD [])/\Low ((zs.map (·.2)).headD []):=by
 cases zs with
 |nil=>exact absurd rfl ne
 |cons z zs=>exact⟨⟨z.1,_,h.at_,(h.pr z Au).1⟩,(h.pr z Au).2.low⟩
structure CallsRg (P) (w) (K) (mg) (base) (c):Prop where
 asked_next_ones:Cal P w K mg base "asked_next_ones" 9 Z3 (spAN c)
 from_thing_on:Cal P w K mg base "from_thing_on" 1 Y8 spFrom
noncomputable abbrev gOf(bl:Bool)(rows:List Rw)(ms:List Mv):Pth->Option Pth:=nx bl (rows.map (·.1)) (plc ms)
def Mvg.dom(m:Mvg bl rows f ms)(hl:Hl bl rows)(h:nx bl (rows.map (·.1)) f p=some q):p∈ms:=m.is.mpr ⟨((q1f hl).mp h).1,((q1f hl).mp h).2.1⟩
structure ChnP (g) (p) (xs):Prop where
 o:Orb g p xs
 st:∀q,g q≠some p
open Classical in
noncomputable def isSt (g:Pth->Option Pth) (p:Pth):Bool:=decide (∀q,g q≠some p)
def isSt_iff:isSt g p=true↔∀q,g q≠some p:=by unfold isSt;exact @decide_eq_true_iff _ (Classical.propDecidable _)
structure Chs (g) (mv:Pth->Prop) (rs:List (List Pth)):Prop where
 so:(rs.map (·.headD [])).Pairwise (λa b=>pLt b a=false)
 nd:(rs.map (·.headD [])).Nodup
 is:∀{xs},xs∈rs↔∃p,mv p/\ChnP g p xs
def Chs.of{ms:List Pth}(nd:ms.Nodup)(h:∀{p},p∈ms↔mv p)(all:∀xs∈rs,ChnP g (xs.headD []) xs)(e:(rs.map (·.headD [])).Perm (ms.filter (isSt g)))(so:(rs.map (·.headD [])).Pairwise (λa b=>pLt b a=false)):Chs g mv rs:=by
 refine⟨so,e.nodup_iff.mpr (nd.filter _),λ{xs}=>⟨λj=>?_,λ⟨p,hp,c⟩=>?_⟩⟩
 ·have f:xs.headD []∈ms.filter (isSt g):=e.mem_iff.mp (Ac.mpr ⟨xs,j,rfl⟩);exact⟨_,h.mp (Dg.mp f).1,all xs j⟩
 ·have f:p∈rs.map (·.headD []):=e.mem_iff.mpr (Dg.mpr ⟨h.mpr hp,isSt_iff.mpr c.st⟩);obtain⟨q,u,B⟩:=Ac.mp f;have v:=all q u;rw[show q.headD []=p from B] at v;rw[c.o.uniq v.o];exact u
noncomputable abbrev mvOf(rows:List Rw)(ms:List Mv):Pth->Prop:=λp=>p∈rows.map (·.1)/\plc ms p≠p
noncomputable def spChains(c:Addr):Sp:=λvs H Q _=>∃h d L bl rows zs,vs=[.ref h,.ref L]/\GW c H h d L bl rows zs /\
 ∀R rs H',H R=none->(∀z∈rs,H z.1=none)->Same H H'->LLs H' R rs->Chs (gOf bl rows (zs.map (·.2))) (mvOf rows (zs.map (·.2))) (rs.map cont)->(∀z∈rs,z.1≠R)->Q (.ref R) H'
noncomputable abbrev q8j:Stmt:=top 30
def sc_chains:FnScope ["hall", "wishes", "moving", "nexts", "followed"] Z3 (defScope q8j):=by trivial
def x0b(D:Df K mg "chains" q8j Z3)(T:Txt mg)(C:CallsRg P w K mg base c):Cal P w K mg base "chains" 10 Z3 (spChains c):=by
 refine D.cal sc_chains (λvs H Q E h=>?_) (λf c2 A outer s H vs Q E hr h=>?_)
 ·obtain⟨h,d,L,bl,rows,zs,rfl,_⟩:=h;rfl
 ·obtain⟨h,d,L,bl,rows,zs,rfl,G,k⟩:=h;refine⟨_,(q0c (q8t (pe_c C.asked_next_ones hr (q0a (pv 0) (q0a (pv 1) q0e))) (@q2h _ _ _ _ _ (2) K rfl rfl (q0l (q0h (i:=2) sc_chains.nd rfl (by trivial)) (q0l (q0h (i:=3) sc_chains.nd rfl (by trivial)) q1p)) (by rfl) (by rfl))) (q0c (q0i (i:=4) sc_chains.nd rfl (by trivial) (q3d (z6r rfl) (by rfl) T.b_list (by trivial) (q0a (@z1o _ _ _ _ _ _ _ _ _ K rfl Gz PySem.F.slot_dict_values PySem.F.type_dict_values z9u (pv 3) (by rfl) (by rfl)) q0e))) (q0f (q0o (q0k (q9o hr) (by rfl) T.b_sorted (by trivial) (q0a (q1x ["path"] [("nexts",3),("followed",4)] rfl (@q3b _ _ _ _ K rfl (pv 2)) (λ_ _ _ _ _=>(q0h (i:=0) (show(["path", "nexts", "followed"]:List Str).Nodup by trivial) rfl (by trivial))) (λ_ _ _ _ _=>(q4k (q0n (nin_P hr) (pv 0) (pv 2) (by with_unfolding_all rfl)))) (λ_ _ _ _ _=>(pe_c C.from_thing_on hr (q0a (pv 0) (q0a (pv 1) q0e))))) q0e)))))),?_⟩;refine⟨_,rfl,_,rfl,h,d,L,bl,rows,zs,rfl,G,λT' M mz N ns H1 s1 hM hN hT pl mv I=>?_⟩;refine⟨T',_,rfl,SqT.of hT,rfl,_,_,rfl,_,_,rfl,rfl,?_⟩;have hl:=G.hl;have F:=z2v hl G.ap;have b2:(rows.map (·.1)).length<=30:=by rw[Aa];exact G.few
  have a1:∀x∈rows.map (·.1),okP x:=λx j=>by obtain⟨r,b3,rfl⟩:=Ac.mp j;exact hl.ok r b3
  generalize hg:nx bl (rows.map (·.1)) (plc (zs.map (·.2)))=g at I F;have b4:mz.length<=30:=by
   have:=q8s mv.nd (m:=rows.map (·.1)) λx j=>(mv.is.mp j).1;rw[Aa] at this;lia
  have c3:ns.length<=30:=by
   have:=q8s I.nd (m:=rows.map (·.1)) λx j=>by obtain⟨m,hm,rfl⟩:=Ac.mp j;exact F.dom (I.is.mp hm)
   rw[Aa,Aa] at this;lia
  refine⟨_,rfl,.inr (.inr (.inl ⟨rfl,.inr ⟨_,I.pd.at_⟩⟩)),N,_,rfl,rfl,I.pd.at_,λv hv=>?_⟩;have sv:=(Same.refl H1).new (o:=vlO v N) hv;refine⟨v,N,ns.map λx=>(x.2.1,.ref x.1),rfl,q0b,sv _ _ I.pd.at_,by rw[Aa];lia,λFo b5=>?_⟩;have sF:=(Same.refl (upd H1 v (vlO v N))).new (o:=.lst ((ns.map λx=>((x.2.1,.ref x.1):HRow)).map (·.2))) b5;have a2:upd (upd H1 v (vlO v N)) Fo (.lst ((ns.map λx=>((x.2.1,.ref x.1):HRow)).map (·.2))) Fo=some (.lst ((ns.map (·.1)).map V.ref)):=by rw[q0b,Ah,Ah];rfl
  have S:=sv.trans sF;generalize upd (upd H1 v (vlO v N)) Fo (.lst ((ns.map λx=>((x.2.1,.ref x.1):HRow)).map (·.2)))=H2 at S a2;have W:=pl.same S;have b6:=I.same S;refine⟨_,rfl,.inl ⟨M,rfl,⟨_,SqL.of W.at_⟩,λDc a3=>?_⟩⟩;refine q2g (λi ys H'=>∃R:List Zl,ys=R.map (λz=>V.ref z.1)/\Same H2 H'/\H' Dc=some (.lst ys)/\(∀z∈R,PL H' z.1 z.2/\H2 z.1=none/\z.1≠Dc/\ChnP g ((cont z).headD []) (cont z))/\R.map (λz=>(cont z).headD [])=((mz.map (·.2)).take i).filter (isSt g)) ⟨[],rfl,(Same.refl H2).new a3,q0b,(λ_ h=>nomatch h),rfl⟩ (λi ys H' h=>by obtain⟨R,_,s',h',_⟩:=h;exact⟨h',SqL.of (s' _ _ W.at_)⟩) ?_ ?_
  ·rintro i ys H3 v' b7 ⟨R,rfl,Y,U,B,J⟩;obtain⟨z,O,rfl⟩:=refAt b7;have Z:=Af O;have b8:=(mv.is.mp (Ac.mpr ⟨z,Z,rfl⟩)).1;have e1:(mz.map (·.2)).take (i+1)=(mz.map (·.2)).take i++[z.2]:=by rw[Bc,Am,O];rfl
   have a4:=Y _ _ (W.pr z Z).1;have b9:=(W.pr z Z).2;have X:=b6.same Y;have rl:R.length<=30:=by
    have e:=congrArg List.length J;rw[Aa] at e;rw[e];refine Cc (Dh _ _) ?_;rw[Bg,Aa];lia
   have a5:(ns.map (·.1)).any (inP H3 z.2)=true↔∃q,g q=some z.2:=by
    rw[Qm];constructor
    ·rintro⟨b,hb,e⟩;obtain⟨x,j,rfl⟩:=Ac.mp hb;rw[z9i (X.pd.pr x j)] at e;have e:=of_decide_eq_true e;exact⟨x.2.1,by rw[<- e];exact I.is.mp (Ac.mpr ⟨x,j,rfl⟩)⟩
    ·rintro⟨q,hq⟩;obtain⟨x,j,ex⟩:=Ac.mp (I.is.mpr (show g (q,z.2).1=some (q,z.2).2 from hq));refine⟨x.1,Ac.mpr ⟨x,j,rfl⟩,?_⟩;rw[z9i (X.pd.pr x j),ex];exact decide_eq_true rfl
   refine⟨q1d,_,rfl,_,rfl,z.1,Fo,ns.map (·.1),z.2,rfl,rfl,Y _ _ a2,a4,b9.low,λb hb=>?_,_,rfl,?_⟩
   ·obtain⟨x,j,rfl⟩:=Ac.mp hb;exact⟨x.2.2,X.pd.pr x j,(a1 _ (F.to (I.is.mp (Ac.mpr ⟨x,j,rfl⟩)))).low⟩
   refine iteB (λhc=>?_) (λhc=>?_)
   ·have hst':∀q,g q≠some z.2:=λq hq=>by
     have:=a5.mpr ⟨q,hq⟩;rw[this] at hc;cases hc
    refine⟨_,rfl,_,rfl,z.1,N,ns,g,_,z.2,rfl,a4,X,F,b8,b2,a1,λLr zr H4 a6 s4 c0 a7=>?_⟩;have a8:=s4 _ _ U;have a9:Lr≠Dc:=q0q a6 U;have kD:∀{x:Addr} {xs:List Zp},x≠Dc->PL H4 x xs->PL (upd H4 Dc (.lst (R.map (λz=>V.ref z.1)++[.ref Lr]))) x xs:=λ{x xs} n p=>⟨by rw[q0d n];exact p.at_,λu hu=>⟨by rw[q0d (q0q ((p.pr u hu).1) a8)];exact(p.pr u hu).1,(p.pr u hu).2⟩⟩
    have hd:(zr.map (·.2)).headD []=z.2:=a7.headD;refine⟨a8,small' (by rw[Aa];lia),R++[(Lr,zr)],by rw[Ae];rfl,(Y.trans s4).put a3,q0b,λx j=>?_,?_⟩
    ·rcases Ao.mp j with j|j
     ·exact⟨kD (B x j).2.2.1 ((B x j).1.same s4),(B x j).2⟩
     ·rw[Ak.mp j];exact⟨kD a9 c0,Y.free a6,a9,by show ChnP g ((zr.map (·.2)).headD []) (zr.map (·.2));rw[hd];exact⟨a7,hst'⟩⟩
    ·rw[e1,Dy,Dj (isSt_iff.mpr hst'),Ae,J];show _++[(zr.map (·.2)).headD []]=_;rw[hd];rfl
   ·have hc':(ns.map (·.1)).any (inP H3 z.2)=true:=by simpa using hc
    obtain⟨q,hq⟩:=a5.mp hc';refine⟨R,rfl,Y,U,B,?_⟩;rw[e1,Dy,Di (λh=>isSt_iff.mp h q hq),J];simp
  ·rintro ys H3 ⟨R,rfl,Y,U,B,J⟩;rw[Aa,<- Aa (f:=λz:Zp=>z.2),Ba] at J;have c1:(R.map λz=>(cont z).headD []).Nodup:=by rw[J];exact mv.nd.filter _
   have rl:R.length<=30:=by
    have e:=congrArg List.length J;rw[Aa] at e;rw[e];exact Cc (Dh _ _) (by rw[Aa];exact b4)
   have ne:∀z∈R,z.2≠[]:=λz O e=>by
    have:=(B z O).2.2.2.o.hd;unfold cont at this;rw[e] at this;cases this
   refine⟨List Zp,(λl=>(l.map (·.2)).headD []),Dc,R,rfl,U,by lia,λz O=>(B z O).1.headAt (ne z O),c1,λR2 b0 a0 pm pw=>?_⟩;have sR:=(Same.refl H3).new (o:=.lst (b0.map λz=>V.ref z.1)) a0;have b1:=(s1.trans S).trans Y;refine k R2 b0 _ (b1.free a0) (λz O=>(s1.trans S).free (B z (pm.mem_iff.mp O)).2.1) (b1.trans sR) ⟨q0b,λz O=>((B z (pm.mem_iff.mp O)).1).same sR⟩ ?_ (λz O e=>by have e9:=(B z (pm.mem_iff.mp O)).1.at_;rw[e,a0] at e9;cases e9);show Chs (nx bl (rows.map (·.1)) (plc (zs.map (·.2)))) _ _;rw[hg];refine Chs.of mv.nd mv.is (λxs j=>?_) ?_ (by rw[Ah];exact pw)
   ·obtain⟨z,O,rfl⟩:=Ac.mp j;exact(B z (pm.mem_iff.mp O)).2.2.2
   ·rw[Ah,<- J];exact pm.map _
structure RingP (g) (p) (xs):Prop where
 o:Orb g p xs
 r:∃x,xs.getLast?=some x/\g x=some p
 least:∀y∈xs,pLt y p=false
open Classical in
noncomputable def isRM (g:Pth->Option Pth) (p:Pth):Bool:=decide (∃xs,RingP g p xs)
def isRM_iff:isRM g p=true↔∃xs,RingP g p xs:=by unfold isRM;exact @decide_eq_true_iff _ (Classical.propDecidable _)
def x0c(o:Orb g p xs):isRM g p=true↔RingP g p xs :=
 isRM_iff.trans ⟨λ⟨f,h⟩=>by rw[o.uniq h.o];exact h,λh=>⟨xs,h⟩⟩
structure Rgs (g) (rs:List (List Pth)):Prop where
 so:(rs.map (·.headD [])).Pairwise (λa b=>pLt b a=false)
 nd:(rs.map (·.headD [])).Nodup
 is:∀{xs},xs∈rs↔∃p,RingP g p xs
def RingP.dom(h:RingP g p xs):∃y,g p=some y:=by
 obtain⟨x,f,j⟩:=h.r;cases e:xs[1]? with
 |some y=>exact⟨y,h.o.st h.o.hd e⟩
 |none=>exact⟨p,by rw[q3k h.o.hd e f];rw[<- q3k h.o.hd e f] at j ⊢;exact j⟩
noncomputable def spRings(c:Addr):Sp:=λvs H Q _=>∃h d L bl rows zs,vs=[.ref h,.ref L]/\GW c H h d L bl rows zs /\
 ∀R rs H',H R=none->(∀z∈rs,H z.1=none)->Same H H'->LLs H' R rs->Rgs (gOf bl rows (zs.map (·.2))) (rs.map cont)->(∀z∈rs,z.1≠R)->Q (.ref R) H'
noncomputable abbrev z0v:Stmt:=top 29
def sc_rings:FnScope ["hall", "wishes", "moving", "nexts", "told", "path", "ring"] Z3 (defScope z0v):=by trivial
def x3b(D:Df K mg "rings" z0v Z3)(T:Txt mg)(C:CallsRg P w K mg base c):Cal P w K mg base "rings" 10 Z3 (spRings c):=by
 refine D.cal sc_rings (λvs H Q E h=>?_) (λf c8 A outer s H vs Q E hr h=>?_)
 ·obtain⟨h,d,L,bl,rows,zs,rfl,_⟩:=h;rfl
 ·obtain⟨h,d,L,bl,rows,zs,rfl,G,k⟩:=h;refine⟨_,(q0c (q8t (pe_c C.asked_next_ones hr (q0a (pv 0) (q0a (pv 1) q0e))) (@q2h _ _ _ _ _ (2) K rfl rfl (q0l (q0h (i:=2) sc_rings.nd rfl (by trivial)) (q0l (q0h (i:=3) sc_rings.nd rfl (by trivial)) q1p)) (by rfl) (by rfl))) (q0c (q0i (i:=4) sc_rings.nd rfl (by trivial) (q2f q0e)) (q0c (q1k Br rfl (@q3b _ _ _ _ K rfl (pv 2)) (q0h (i:=5) sc_rings.nd rfl (by trivial)) (q0c (q0i (i:=6) sc_rings.nd rfl (by trivial) (pe_c C.from_thing_on hr (q0a (pv 5) (q0a (pv 3) q0e)))) (q0f (q1b (pt_j (@PW.pt _ _ _ (q2z (q0n (eq_k K rfl hr) (x2b (q1c hr) (pv 3) (q1q (ix_k K rfl) (pv 6) (q1i q0t q0g) (λ_ _=>rfl)) ⟨rfl,rfl,rfl,rfl⟩) (pv 5) (nomark _)) (q2a (q0n (eq_k K rfl hr) (pv 5) (q0k (z9s rfl hr) (by rfl) T.b_min (by trivial) (q0a (pv 6) q0e)) (nomark _)))))) (q0f (q1t (@bm_k _ _ _ _ _ _ _ _ _ _ _ _ K rfl Dx Eo Ep q2r (pv 4) (q0a (pv 6) q0e) (by rfl) (by rfl) (by rfl) (by rfl) (by rfl)))) q0m)))) (q0f (q0o (q0k (q9o hr) (by rfl) T.b_sorted (by trivial) (q0a (pv 4) q0e))))))),?_⟩;refine⟨_,rfl,_,rfl,h,d,L,bl,rows,zs,rfl,G,λT' M mz N ns H1 s1 hM hN hT pl mv a3=>?_⟩;refine⟨T',_,rfl,SqT.of hT,rfl,_,_,rfl,_,_,rfl,rfl,?_⟩;have hl:=G.hl;have F:=z2v hl G.ap;have c3:(rows.map (·.1)).length<=30:=by rw[Aa];exact G.few
  have b5:∀x∈rows.map (·.1),okP x:=λx j=>by obtain⟨r,c4,rfl⟩:=Ac.mp j;exact hl.ok r c4
  generalize hg:nx bl (rows.map (·.1)) (plc (zs.map (·.2)))=g at a3 F;have c5:mz.length<=30:=by
   have:=q8s mv.nd (m:=rows.map (·.1)) λx j=>(mv.is.mp j).1;rw[Aa] at this;lia
  refine⟨by show 0<=sizeLine;decide,λR hR=>?_⟩;refine⟨_,rfl,.inl ⟨M,rfl,⟨_,SqL.of ((pl.same ((Same.refl H1).new hR)).at_)⟩,?_⟩⟩;refine q3m (λi a0 H'=>∃(U:List Zl) (x5 x6:Option V),a0=[some (.ref h),some (.ref L),some (.ref M),some (.ref N),some (.ref R),x5,x6]/\Same H1 H'/\H' R=some (.lst (U.map λz=>V.ref z.1))/\(∀z∈U,PL H' z.1 z.2/\H1 z.1=none/\z.1≠R/\RingP g ((cont z).headD []) (cont z))/\U.map (λz=>(cont z).headD [])=((mz.map (·.2)).take i).filter (isRM g)/\(U.map (·.1)).Nodup) ⟨[],_,_,rfl,(Same.refl H1).new hR,q0b,(λ_ h=>nomatch h),rfl,.nil⟩ (λi a0 H' _ x=>by obtain⟨_,_,_,_,s',_⟩:=x;exact SqL.of (s' _ _ pl.at_)) ?_ ?_
  ·rintro i v a0 H2 hv ⟨U,x5,x6,rfl,s2,Z,B,S,a4⟩;obtain⟨z,O,rfl⟩:=refAt hv;have a5:=Af O;have b6:=(mv.is.mp (Ac.mpr ⟨z,a5,rfl⟩)).1;have e1:(mz.map (·.2)).take (i+1)=(mz.map (·.2)).take i++[z.2]:=by rw[Bc,Am,O];rfl
   have b7:=s2 _ _ (pl.pr z a5).1;have a6:=(pl.pr z a5).2;have rl:U.length<=30:=by
    have e:=congrArg List.length S;have l2:=Dh (isRM g) ((mz.map (·.2)).take i);rw[Aa] at e;rw[Bg,Aa] at l2;lia
   refine⟨_,rfl,_,rfl,z.1,N,ns,g,_,z.2,rfl,b7,a3.same s2,F,b6,c3,b5,λLr Y H3 a7 s3 W X=>?_⟩;have a8:=s2.trans s3;have a9:Y≠[]:=λz=>by have:=X.hd;rw[z] at this;cases this
   have I:=Be a9;generalize Y.getLast a9=y at I;have c6:atI (Y.map λz=>V.ref z.1) (-1)=some (.ref y.1):=z0s (by rw[Ga,I];rfl);have b0:(Y.map (·.2)).getLast?=some y.2:=by rw[Ga,I];rfl
   have hy:=Et I;have b8:=a3.same a8;have b1:=s3 _ _ b7;have c9:Y.length<=30:=by have:=X.len F b6;rw[Aa] at this;lia
   refine⟨λbb H4=>H4=H3/\(bb=true↔RingP g z.2 (Y.map (·.2))),?_,?_⟩;rotate_left
   ·refine⟨_,rfl,N,rfl,.inr ⟨_,.inl b8.pd.at_⟩,_,rfl,_,rfl,.inl ⟨Lr,_,-1,_,rfl,rfl,SqL.of W.at_,c6,?_⟩⟩;rcases b8.get (W.pr y hy).1 with⟨e,dg⟩|⟨q,e,e1,dg,he⟩
    ·refine⟨_,dg,_,rfl,x6p b1 a6.low ⟨_,rfl,iteF ⟨rfl,(λz=>by cases z),λr=>?_⟩⟩⟩;obtain⟨x,j,gx⟩:=r.r;rw[b0] at j;cases j;rw[e] at gx;cases gx
    ·refine⟨_,dg,_,rfl,q0x he b1 (b5 q (F.to e1)).low a6.low ⟨_,rfl,iteB (λhc=>?_) (λhc=>⟨rfl,(λz=>by cases z),λr=>?_⟩)⟩⟩
     ·have hc:=of_decide_eq_true hc;refine⟨_,rfl,_,rfl,Lr,Y,rfl,W.at_,a9,Hm (small' (by lia)),λu hu=>(W.pr u hu).1,λu hu a1=>?_⟩;refine q0x b1 (W.pr u hu).1 a6.low (W.pr u hu).2.low ⟨_,rfl,rfl,λhb=>?_,λr=>?_⟩
      ·have eu:=of_decide_eq_true hb;refine⟨X,⟨y.2,b0,by rw[e1,hc]⟩,λp hp=>?_⟩;obtain⟨u',b2,rfl⟩:=Ac.mp hp;rw[eu];exact a1 u' b2
      ·refine decide_eq_true ?_;have b9:z.2∈Y.map (·.2):=Af X.hd;obtain⟨u',b2,e5⟩:=Ac.mp b9;refine q6c ?_ (r.least u.2 (Ac.mpr ⟨u,hu,rfl⟩));rw[<- e5];exact a1 u' b2
     ·have hc:=of_decide_eq_false hc;obtain⟨x,j,gx⟩:=r.r;rw[b0] at j;cases j;rw[e1] at gx;cases gx;exact absurd rfl hc
   rintro bb H4 ⟨rfl,a2⟩;have hd:(Y.map (·.2)).headD []=z.2:=X.headD;have c7:H1 R=none:=hR;have J:∀x∈U,PL H4 x.1 x.2/\H1 x.1=none/\x.1≠R/\RingP g ((cont x).headD []) (cont x):=λx j=>⟨(B x j).1.same s3,(B x j).2⟩
   refine ite2 (λhb=>?_) (λhb=>?_)
   ·have b3:=s3 _ _ Z;have c0:Lr≠R:=q0q a7 Z;refine⟨_,rfl,.inl ⟨rfl,_,SqL.of b3⟩,_,rfl,R,_,_,rfl,rfl,b3,by rw[Aa];exact small' (by lia),?_⟩;have kR:∀{x:Addr} {xs:List Zp},x≠R->PL H4 x xs->PL (upd H4 R (.lst (U.map (λz=>V.ref z.1)++[.ref Lr]))) x xs:=λ{x xs} n p=>⟨by rw[q0d n];exact p.at_,λu hu=>⟨by rw[q0d (q0q ((p.pr u hu).1) b3)];exact(p.pr u hu).1,(p.pr u hu).2⟩⟩
    have rp:=a2.mp hb;refine⟨U++[(Lr,Y)],_,_,rfl,a8.put c7,by rw[q0b,Ae];rfl,λx j=>?_,?_,?_⟩
    ·rcases Ao.mp j with j|j
     ·exact⟨kR (J x j).2.2.1 (J x j).1,(J x j).2⟩
     ·rw[Ak.mp j];exact⟨kR c0 W,s2.free a7,c0,by show RingP g ((Y.map (·.2)).headD []) (Y.map (·.2));rw[hd];exact rp⟩
    ·rw[e1,Dy,Dj ((x0c X).mpr rp),Ae,S];show _++[(Y.map (·.2)).headD []]=_;rw[hd];rfl
    ·rw[Ae];refine Dv.mpr ⟨a4,z9z,λa ha b hb e=>?_⟩;rw[Ak.mp hb] at e;obtain⟨x,j,rfl⟩:=Ac.mp ha;have e9:=(B x j).1.at_;rw[show x.1=Lr from e,a7] at e9;cases e9
   ·refine⟨U,_,_,rfl,a8,s3 _ _ Z,J,?_,a4⟩;rw[e1,Dy,Di (λh=>hb (a2.mpr ((x0c X).mp h))),S];simp
  ·rintro a0 H2 ⟨U,x5,x6,rfl,s2,Z,B,S,a4⟩;rw[Aa,<- Aa (f:=λz:Zp=>z.2),Ba] at S;have c1:(U.map λz=>(cont z).headD []).Nodup:=by rw[S];exact mv.nd.filter _
   have rl:U.length<=30:=by
    have e:=congrArg List.length S;rw[Aa] at e;rw[e];exact Cc (Dh _ _) (by rw[Aa];exact c5)
   have ne:∀z∈U,z.2≠[]:=λz O e=>by
    have:=(B z O).2.2.2.o.hd;unfold cont at this;rw[e] at this;cases this
   refine⟨_,rfl,List Zp,(λl=>(l.map (·.2)).headD []),R,U,rfl,Z,by lia,λz O=>(B z O).1.headAt (ne z O),c1,λR2 c2 b4 pm pw=>?_⟩;have sR:=(Same.refl H2).new (o:=.lst (c2.map λz=>V.ref z.1)) b4;refine k R2 c2 _ ((s1.trans s2).free b4) (λz O=>s1.free (B z (pm.mem_iff.mp O)).2.1) ((s1.trans s2).trans sR) ⟨q0b,λz O=>((B z (pm.mem_iff.mp O)).1).same sR⟩ ?_ (λz O e=>by have e9:=(B z (pm.mem_iff.mp O)).1.at_;rw[e,b4] at e9;cases e9);show Rgs (nx bl (rows.map (·.1)) (plc (zs.map (·.2)))) _;rw[hg];refine⟨by rw[Ah];exact pw,by rw[Ah];exact(pm.map _).nodup_iff.mpr c1,λ{xs}=>⟨λj=>?_,λ⟨p,hp⟩=>?_⟩⟩
   ·obtain⟨z,O,rfl⟩:=Ac.mp j;exact⟨_,(B z (pm.mem_iff.mp O)).2.2.2⟩
   ·obtain⟨y,hy⟩:=hp.dom;have hm:p∈mz.map (·.2):=by rw[<- hg] at hy;exact mv.dom hl hy
    have hf:p∈U.map λz=>(cont z).headD []:=by rw[S];exact Dg.mpr ⟨hm,isRM_iff.mpr ⟨xs,hp⟩⟩
    obtain⟨z,O,e⟩:=Ac.mp hf;have rp:=(B z O).2.2.2;rw[e] at rp;rw[hp.o.uniq rp.o];exact Ac.mpr ⟨z,pm.mem_iff.mpr O,rfl⟩
theorem q5a(hl:Hl bl rows)(gw:GoodW rows ms):∀{k} {p},M6 rows k p->∀{n},k+1<=n->thenP (plc ms) n p=thenP (plc ms) (k+1) p
 |0,p,h,n,hn=>by
  rw[h.zero hl];cases n with
  |zero=>lia
  |succ n=>rfl
 |k+1,p,h,n,hn=>by
  cases n with
  |zero=>lia
  |succ n =>
   by_cases e:p=[]
   ·rw[e];rfl
   ·have f:=q5a hl gw (h.step hl gw e) (n:=n) (by lia);show(if p=[] then[] else thenP (plc ms) n (plc ms p).dropLast++[(plc ms p).getLastD []])=(if p=[] then[] else thenP (plc ms) (k+1) (plc ms p).dropLast++[(plc ms p).getLastD []])
    rw[if_neg e,if_neg e,f]
theorem q5x(hl:Hl bl rows)(gw:GoodW rows ms):∀{k} {p:Pth},(p=[]\/(p,none)∈rows)->p.length<=k->(thenP (plc ms) (k+1) p).length=p.length/\∀n∈thenP (plc ms) (k+1) p,okN n
 |0,p,_,h=>by
  have e:p=[]:=Ha.mp (by lia);rw[e];exact⟨rfl,λ_ h=>nomatch h⟩
 |k+1,p,hp,h=>by
  by_cases e:p=[]
  ·rw[e];exact⟨rfl,λ_ h=>nomatch h⟩
  ·have f:(p,none)∈rows:=hp.resolve_left e;have j:p∈rows.map (·.1):=Ac.mpr ⟨_,f,rfl⟩;have q:=(q0z hl gw j).2 f;have u:=Bi.mpr e;obtain⟨v,B⟩:=q5x hl gw (k:=k) (p:=p.dropLast) (hl.dr _ f) (by rw[Bf];lia);have eq:thenP (plc ms) (k+1+1) p=thenP (plc ms) (k+1) p.dropLast++[(plc ms p).getLastD []]:=by
    show(if p=[] then[] else thenP (plc ms) (k+1) (plc ms p).dropLast++[(plc ms p).getLastD []])=_;rw[if_neg e,q]
   rw[eq];refine⟨by rw[An,v,Bf];show _+1=_;lia,λn hn=>?_⟩;rcases Ao.mp hn with hn|hn
   ·exact B n hn
   ·rw[Ak.mp hn];exact q2n (q1a hl gw j)
def q1m(hl:Hl bl rows)(gw:GoodW rows ms)(f:r∈rows):thenP (plc ms) 7 r.1=thenP (plc ms) 7 (plc ms r.1).dropLast++[(plc ms r.1).getLastD []]/\IsD rows (plc ms r.1).dropLast/\(plc ms r.1).dropLast.length<=5:=by
 have h:r.1∈rows.map (·.1):=Ac.mpr ⟨r,f,rfl⟩;have hd:=(q0z hl gw h).1;have ok:=q1a hl gw h;have u:(plc ms r.1).length<=6:=ok.few;have j:(plc ms r.1).dropLast.length<=5:=by rw[Bf];lia
 have q:M6 rows 5 (plc ms r.1).dropLast:=hd.imp id λz=>.inl ⟨z,j⟩;refine⟨?_,hd,j⟩;have e:=(hl.ok r f).ne;show(if r.1=[] then[] else thenP (plc ms) 6 (plc ms r.1).dropLast++[(plc ms r.1).getLastD []])=_;rw[if_neg e,q5a hl gw q (n:=7) (by lia)]
def q4s(hl:Hl bl rows)(gw:GoodW rows ms)(ap:Apart bl rows (plc ms)):Hl bl (gRows rows ms):=by
 have B:∀{d:Pth},IsD rows d->d.length<=5->M6 rows 6 d:=λ{d} h l=>h.imp id λz=>.inl ⟨z,by lia⟩;have f:∀r∈rows,okP (thenP (plc ms) 7 r.1):=λr j=>by
  obtain⟨e,hd,J⟩:=q1m hl gw j;obtain⟨u,L⟩:=q5x hl gw (k:=6) hd (by lia);have M:r.1∈rows.map (·.1):=Ac.mpr ⟨r,j,rfl⟩;rw[e];refine⟨by simp,by rw[An,u];show _+1<=6;lia,λn hn=>?_⟩;rcases Ao.mp hn with hn|hn
  ·exact L n hn
  ·rw[Ak.mp hn];exact q2n (q1a hl gw M)
 refine⟨λr j=>?_,?_,λr j=>?_⟩
 ·obtain⟨x,v,rfl⟩:=Ac.mp j;exact f x v
 ·unfold gRows;rw[Ah];have u:rows.Nodup:=q1n hl.paths;refine Ic.mpr (Gv (λ{p q} hp hq n z=>?_) u);have z':fold bl (thenP (plc ms) 7 p.1)=fold bl (thenP (plc ms) 7 q.1):=z;obtain⟨C,O,P⟩:=q1m hl gw hp;obtain⟨D,Q,R⟩:=q1m hl gw hq;have E:p.1∈rows.map (·.1):=Ac.mpr ⟨p,hp,rfl⟩;have G:q.1∈rows.map (·.1):=Ac.mpr ⟨q,hq,rfl⟩;obtain⟨H,I⟩:=(q2i (f p hp).ne (f q hq).ne).mp z';rw[C,D,Bk,Bk] at H;rw[C,D,Ce,Ce] at I;have S:=q1r hl gw ap (B O P) (B Q R) H;have T:fold bl (plc ms p.1)=fold bl (plc ms q.1):=(q2i (q1a hl gw E).ne (q1a hl gw G).ne).mpr ⟨S,I⟩;have ap':((rows.map (·.1)).map λp=>fold bl (plc ms p)).Nodup:=ap;exact n (q0u hl.paths hp hq (q0u ap' E G T))
 ·obtain⟨x,v,rfl⟩:=Ac.mp j;obtain⟨e,hd,J⟩:=q1m hl gw v;show(thenP (plc ms) 7 x.1).dropLast=[]\/((thenP (plc ms) 7 x.1).dropLast,none)∈gRows rows ms;rw[e,Bk];rcases hd with hd|hd
  ·rw[hd];exact .inl rfl
  ·exact .inr (Ac.mpr ⟨_,hd,rfl⟩)
section
variable{bl:Bool}{rows:List Rw}{ms ms':List Mv}{p q x:Pth}
noncomputable abbrev tn(ms:List Mv)(x:Pth):Pth:=thenP (plc ms) 7 x
structure Gd (bl) (rows) (ms):Prop where
 gw:GoodW rows ms
 ap:Apart bl rows (plc ms)
def Gd.nil(hl:Hl bl rows):Gd bl rows []:=⟨⟨(λ_ h=>nomatch h),.nil⟩,by show((rows.map (·.1)).map λp=>fold bl p).Nodup;rw[Ah];exact hl.nd⟩
def m6_d(h:IsD rows d)(l:d.length<=6):M6 rows 6 d:=h.imp id λz=>.inl ⟨z,l⟩
def m6_p(h:p∈rows.map (·.1)):M6 rows 6 p:=.inr (.inr ⟨h,Aq _⟩)
theorem q9q(hl:Hl bl rows)(g:Gd bl rows ms)(g':Gd bl rows ms')(ho:∀x,x≠p->plc ms' x=plc ms x):∀{n} {d},IsD rows d->((p,none)∉rows\/d.length<p.length)->thenP (plc ms') n d=thenP (plc ms) n d
 |0,d,_,_=>rfl
 |n+1,d,hd,hc=>by
  unfold thenP;by_cases e:d=[]
  ·rw[if_pos e,if_pos e]
  ·rw[if_neg e,if_neg e];have f:(d,none)∈rows:=hd.resolve_left e;have q:d∈rows.map (·.1):=Ac.mpr ⟨_,f,rfl⟩;have j:d≠p:=λz=>by
    rcases hc with h|h
    ·exact h (by rw[<- z];exact f)
    ·rw[z] at h;exact absurd h (Fq _)
   have u:=(q0z hl g.gw q).2 f;rw[ho d j,u,q9q hl g g' ho (hl.dr _ f) (hc.imp id λh=>by rw[Bf];exact Kw (Nat.sub_le _ _) h)]
def take_snoc{f:Type}{l m:List f}{a}:(l++[a]).take m.length=m↔(l.take m.length=m\/l++[a]=m):=by
 by_cases h:m.length<=l.length
 ·rw[Oc h];exact⟨.inl,λz=>z.elim id λz=>by have:=congrArg List.length z;rw[An] at this;have q:l.length+1=m.length:=this;lia⟩
 ·have j:(l++[a]).length<=m.length:=by rw[An];show l.length+1<=_;lia
  rw[Fb j];exact⟨.inr,λz=>z.elim (λz=>by have:=congrArg List.length z;rw[Bg] at this;lia) id⟩
def q6i(hl:Hl bl rows)(g:Gd bl rows ms)(g':Gd bl rows ms')(hp:p∈rows.map (·.1))(ho:∀x,x≠p->plc ms' x=plc ms x):
  ∀{k} {x},M6 rows k x->k<=6->carry (tn ms p) (tn ms (plc ms' p).dropLast++[(plc ms' p).getLastD []]) (thenP (plc ms) (k+1) x)=thenP (plc ms') (k+1) x:=by
 have hd:=(q0z hl g'.gw hp).1;have J:=q1a hl g'.gw hp;have stay:tn ms' (plc ms' p).dropLast=tn ms (plc ms' p).dropLast:=by
  refine q9q hl g g' ho hd ?_;by_cases hn:(p,none)∈rows
  ·right;rw[(q0z hl g'.gw hp).2 hn,Bf];have:=Bi.mpr (hl.ok _ hn).ne;show p.length-1<p.length;have:0<p.length:=this;lia
  ·exact .inl hn
 have j:tn ms p≠[]:=by
  obtain⟨r,H,rfl⟩:=Ac.mp hp;rw[show tn ms r.1=_ from(q1m hl g.gw H).1];simp
 intro k;induction k with
 |zero =>
  intro x h _;rw[h.zero hl];show carry _ _ []=[]
  refine q2j ?_;rw[Pf];exact λz=>j z.symm
 |succ k ih =>
  intro x h hk;by_cases e:x=[]
  ·rw[e];show carry _ _ []=[]
   refine q2j ?_;rw[Pf];exact λz=>j z.symm
  ·have I:=h.in_ e;have B:thenP (plc ms) (k+1+1) x=tn ms x:=(q5a hl g.gw h (n:=7) (by lia)).symm;have e7':thenP (plc ms') (k+1+1) x=tn ms' x:=(q5a hl g'.gw h (n:=7) (by lia)).symm;obtain⟨r,H,rfl⟩:=Ac.mp I;by_cases f:r.1=p
   ·rw[B,e7',f];obtain⟨Q,C,L⟩:=Ac.mp hp;have M:tn ms' p=tn ms' (plc ms' p).dropLast++[(plc ms' p).getLastD []]:=by rw[<- L];exact(q1m hl g'.gw C).1
    rw[M,stay];have:=q2t (tn ms p) (tn ms (plc ms' p).dropLast++[(plc ms' p).getLastD []]) [];rw[Cu,Cu] at this;exact this
   ·have O:thenP (plc ms) (k+1+1) r.1=thenP (plc ms) (k+1) (plc ms r.1).dropLast++[(plc ms r.1).getLastD []]:=if_neg e;have P:thenP (plc ms') (k+1+1) r.1=thenP (plc ms') (k+1) (plc ms r.1).dropLast++[(plc ms r.1).getLastD []]:=by rw[<- ho r.1 f];exact if_neg e
    have D:=h.step hl g.gw e;have E:=ih D (by lia);have q:tn ms r.1≠tn ms p:=λz=>f (q1r hl g.gw g.ap (m6_p I) (m6_p hp) z);rw[P,<- E];rw[O] at B ⊢;unfold carry;have u:((thenP (plc ms) (k+1) (plc ms r.1).dropLast++[(plc ms r.1).getLastD []]).take (tn ms p).length=tn ms p)↔((thenP (plc ms) (k+1) (plc ms r.1).dropLast).take (tn ms p).length=tn ms p) :=
     take_snoc.trans ⟨λz=>z.resolve_right λz=>q (B.symm.trans z),.inl⟩
    by_cases v:(thenP (plc ms) (k+1) (plc ms r.1).dropLast).take (tn ms p).length=tn ms p
    ·rw[if_pos v,if_pos (u.mpr v)];have G:(tn ms p).length<=(thenP (plc ms) (k+1) (plc ms r.1).dropLast).length:=by
      have:=congrArg List.length v;rw[Bg] at this;lia
     rw[List.drop_append_of_le_length G];simp only[Fh]
    ·rw[if_neg v,if_neg λz=>v (u.mp z)]
inductive Way (bl:Bool) (rows:List Rw):List Mv->List Mv->Prop
 |nil:Way bl rows [] []
 |put {row ms ms':List Mv} {p:Pth}:Way bl rows row ms->Gd bl rows ms'->p∈rows.map (·.1)->(∀x,x≠p->plc ms' x=plc ms x)->plc ms' p≠plc ms p->Way bl rows (row++[(tn ms p,tn ms (plc ms' p).dropLast++[(plc ms' p).getLastD []])]) ms'
noncomputable def bhd(row:List Mv)(x:Pth):Pth:=row.foldl (λx m=>carry m.1 m.2 x) x
def Way.gd(hl:Hl bl rows)(w:Way bl rows f ms):Gd bl rows ms:=by
 cases w with
 |nil=>exact Gd.nil hl
 |put _ g=>exact g
theorem q4t(hl:Hl bl rows):∀{k} {p},M6 rows k p->thenP (plc []) (k+1) p=p
 |0,p,h=>by rw[h.zero hl];rfl
 |k+1,p,h=>by
  unfold thenP;by_cases e:p=[]
  ·rw[if_pos e,e]
  ·rw[if_neg e];have f:=q4t hl (h.step hl (Gd.nil hl).gw e);rw[f];exact(q3q e).symm
def Way.behind(hl:Hl bl rows)(w:Way bl rows f ms)(h:M6 rows 6 x):bhd f x=tn ms x:=by
 induction w with
 |nil=>exact(q4t hl h).symm
 |put w g hp ho _ ih =>
  unfold bhd at ih ⊢;rw[Lx,ih];exact q6i hl (w.gd hl) g hp ho h (Aq _)
def Way.take(w:Way bl rows f ms):∀i,∃ms',Way bl rows (f.take i) ms':=by
 induction w with
 |nil=>exact λi=>⟨[],by rw[Pf];exact .nil⟩
 | @put f ms ms' p w g hp ho hn ih =>
  intro i;by_cases h:i<=f.length
  ·rw[Oc h];exact ih i
  ·rw[Fb (by rw[An];show f.length+1<=i;lia)];exact⟨_,.put w g hp ho hn⟩
def z2w(hl:Hl bl rows)(g:Gd bl rows ms)(f:p∈rows.map (·.1)):okP (tn ms p):=by
 obtain⟨r,h,rfl⟩:=Ac.mp f;obtain⟨e,hd,u⟩:=q1m hl g.gw h;obtain⟨j,q⟩:=q5x hl g.gw (k:=6) hd (by lia);rw[show tn ms r.1=_ from e];refine⟨by simp,by rw[An,j];show _+1<=6;lia,λn hn=>?_⟩;rcases Ao.mp hn with hn|hn
 ·exact q n hn
 ·rw[Ak.mp hn];exact q2n (q1a hl g.gw f)
def x0d(hl:Hl bl rows)(g:Gd bl rows ms)(f:M6 rows 6 x):Low (tn ms x)/\(tn ms x).length<=7:=q3j hl g.gw f
def x3c(hl:Hl bl rows)(g:Gd bl rows ms)(g':Gd bl rows ms')(f:p∈rows.map (·.1)):okP (tn ms (plc ms' p).dropLast++[(plc ms' p).getLastD []]):=by
 have ok:=q1a hl g'.gw f;have u:(plc ms' p).length<=6:=ok.few;have h:=Bi.mpr ok.ne;obtain⟨j,q⟩:=q5x hl g.gw (k:=6) (q0z hl g'.gw f).1 (by rw[Bf];lia);refine⟨by simp,by rw[An,show(tn ms (plc ms' p).dropLast).length=_ from j,Bf];show _+1<=6;lia,λn hn=>?_⟩;rcases Ao.mp hn with hn|hn
 ·exact q n hn
 ·rw[Ak.mp hn];exact q2n ok
def Way.ok(hl:Hl bl rows)(w:Way bl rows f ms):okMs f:=by
 induction w with
 |nil=>exact λ_ h=>nomatch h
 |put w g hp ho _ ih =>
  intro m j;rcases Ao.mp j with j|j
  ·exact ih m j
  ·rw[Ak.mp j];exact⟨z2w hl (w.gd hl) hp,x3c hl (w.gd hl) g hp⟩
noncomputable def setW(p q:Pth)(ms:List Mv):List Mv:=(p,q)::ms.filter λm=>decide (m.1≠p)
theorem q6j(h:x≠p):∀{ms},plc (ms.filter λm=>decide (m.1≠p)) x=plc ms x
 |[]=>rfl
 |m::ms=>by
  by_cases e:m.1=p
  ·rw[Di (by simpa using e),q6j h];conv=>rhs;unfold plc
   rw[if_neg λz=>h (z.symm.trans e)]
  ·rw[Dj (by simpa using e)];unfold plc;rw[q6j h]
def z4e:plc (setW p q ms) p=q:=by
 unfold setW plc;rw[if_pos rfl]
def x0e(h:x≠p):plc (setW p q ms) x=plc ms x:=by
 unfold setW;conv=>lhs;unfold plc
 rw[if_neg λz=>h z.symm];exact q6j h
def x0f(g:GoodW rows ms)(w:Wsh rows (p,q)):GoodW rows (setW p q ms):=by
 refine⟨λm f=>?_,?_⟩
 ·rcases Bb.mp f with rfl|f
  ·exact w
  ·exact g.all m (Dg.mp f).1
 ·unfold setW;rw[Ay,Bu];refine⟨λh=>?_,g.nd.sublist (Tw.map _)⟩;obtain⟨m,f,e⟩:=Ac.mp h;exact of_decide_eq_true (Dg.mp f).2 e
noncomputable def stO(f:Pth->Pth)(D:List Pth)(a:Option (Pth×Pth))(x:Pth):Pth:=if x∈D then f x else match a with|some (r,sp)=>if x=r then sp else x|none=>x
structure StO (bl) (rows:List Rw) (f) (D:List Pth) (a):Prop where
 cl:∀{x y},x∈D->nx bl (rows.map (·.1)) f x=some y->y∈D\/∃sp,a=some (y,sp)
 sub:∀x∈D,x∈rows.map (·.1)
 sp:∀{r sp},a=some (r,sp)->r∉D/\∀x∈rows.map (·.1),x≠r->fold bl (stO f D a x)≠fold bl sp
def StO.apart(hl:Hl bl rows)(ap:Apart bl rows f)(s:StO bl rows f D a):Apart bl rows (stO f D a):=by
 have I:((rows.map (·.1)).map (fold bl)).Nodup:=by rw[Ah];exact hl.nd
 have ap':((rows.map (·.1)).map λp=>fold bl (f p)).Nodup:=ap;have J:∀{x y:Pth},x∈rows.map (·.1)->y∈rows.map (·.1)->x∈D->y∉D->(∀sp,a≠some (y,sp))->fold bl (f x)≠fold bl y:=λ{x y} hx hy hD hn ha e=>by
  by_cases H:y=x
  ·rw[H] at hn;exact hn hD
  ·by_cases M:f x=x
   ·rw[M] at e;exact H (q0u I hx hy e).symm
   ·rcases s.cl hD ((q1f hl).mpr ⟨hx,M,hy,e.symm,H⟩) with h|⟨sp,h⟩
    ·exact hn h
    ·exact ha sp h
 show((rows.map (·.1)).map λp=>fold bl (stO f D a p)).Nodup;refine Ic.mpr (Gv (λ{x y} hx hy n z=>?_) hl.paths);have L:∀{r sp:Pth},a=some (r,sp)->stO f D a r=sp:=λ{r sp} e=>by
  unfold stO;rw[if_neg (s.sp e).1,e];simp
 by_cases E:∃sp,a=some (x,sp)
 ·obtain⟨sp,e⟩:=E;exact(s.sp e).2 y hy (λq=>n q.symm) (by rw[<- z,L e])
 by_cases G:∃sp,a=some (y,sp)
 ·obtain⟨sp,e⟩:=G;exact(s.sp e).2 x hx n (by rw[z,L e])
 have j:∀{u:Pth},u∉D->(¬∃sp,a=some (u,sp))->stO f D a u=u:=λ{u} hu ha=>by
  unfold stO;rw[if_neg hu];cases ea:a with
  |none=>rfl
  |some v =>
   obtain⟨r,sp⟩:=v;show(if u=r then sp else u)=u;rw[if_neg λq=>ha ⟨sp,by rw[ea,q]⟩]
 have done:∀{u:Pth},u∈D->stO f D a u=f u:=λ{u} hu=>by unfold stO;rw[if_pos hu]
 by_cases C:x∈D
 ·by_cases B:y∈D
  ·rw[done C,done B] at z;exact n (q0u ap' hx hy z)
  ·rw[done C,j B G] at z;exact J hx hy C B (λsp e=>G ⟨sp,e⟩) z
 ·by_cases B:y∈D
  ·rw[j C E,done B] at z;exact J hy hx B C (λsp e=>E ⟨sp,e⟩) z.symm
  ·rw[j C E,j B G] at z;exact n (q0u I hx hy z)
end
section
variable{ps:List Pth}{g:Pth->Option Pth}{p q s t x y:Pth}{xs ys:List Pth}
structure RingO (g) (p) (xs):Prop where
 o:Orb g p xs
 r:∃x,xs.getLast?=some x/\g x=some p
def RingP.ro(h:RingP g p xs):RingO g p xs:=⟨h.o,h.r⟩
def q6x(t:Trk g p xs)(i)(f:i<xs.length):∃u,xs[i]?=some u:=⟨_,Ci f⟩
def RingO.pred(h:RingO g p xs)(F:Fol ps g)(v:y∈xs)(e:g q=some y):q∈xs:=by
 obtain⟨i,f⟩:=Bl.mp v;cases i with
 |zero =>
  obtain⟨z,B,C⟩:=h.r;rw[h.o.hd] at f;cases f;rw[F.inj e C];exact Et B
 |succ i =>
  have D:=(Aj.mp f).1;obtain⟨u,j⟩:=q6x h.o.toTrk i (by lia);rw[F.inj e (h.o.st j f)];exact Af j
def RingO.next(h:RingO g p xs)(q:x∈xs)(e:g x=some y):y∈xs:=by
 obtain⟨i,f⟩:=Bl.mp q;cases e2:xs[i+1]? with
 |some v =>
  have:=h.o.st f e2;rw[e] at this;cases this;exact Af e2
 |none =>
  obtain⟨z,u,j⟩:=h.r;have:=q3k f e2 u;subst this;rw[e] at j;cases j;exact Af h.o.hd
theorem RingO.back(h:RingO g p xs)(F:Fol ps g)(t:Trk g s ys):∀{i:Nat} {x},ys[i]?=some x->x∈xs->s∈xs
 |0,x,e,hx=>by rw[t.hd] at e;cases e;exact hx
 |i+1,x,e,hx=>by
  have j:=(Aj.mp e).1;obtain⟨u,f⟩:=q6x t i (by lia);exact RingO.back h F t f (h.pred F hx (t.st f e))
theorem RingO.fwd(h:RingO g p xs)(t:Trk g s ys)(hs:s∈xs):∀{i:Nat} {x},ys[i]?=some x->x∈xs
 |0,x,e=>by rw[t.hd] at e;cases e;exact hs
 |i+1,x,e=>by
  have j:=(Aj.mp e).1;obtain⟨u,f⟩:=q6x t i (by lia);exact h.next (RingO.fwd h t hs f) (t.st f e)
theorem RingO.mem(h:RingO g p xs)(F:Fol ps g):∀ k  {i} {x},xs.length-1-i=k->xs[i]?=some x->IsRing g x
 |k,i,x,hk,e=>by
  have u:=(Aj.mp e).1;have hp:IsRing g p:=let ⟨z,f,j⟩:=h.r;h.o.toTrk.ring f j;cases e2:xs[i+1]? with
  |none =>
   obtain⟨z,f,j⟩:=h.r;have:=q3k e e2 f;subst this;exact hp.pred F j
  |some v =>
   have q:=(Aj.mp e2).1;cases k with
   |zero=>lia
   |succ k=>exact(RingO.mem h F k (by lia) e2).pred F (h.o.st e e2)
def RingP.one(h:RingP g p xs)(f:RingP g q ys)(F:Fol ps g)(u:x∈xs)(v:x∈ys):p=q:=by
 obtain⟨i,B⟩:=Bl.mp u;obtain⟨j,C⟩:=Bl.mp v;have a:=f.ro.back F h.o.toTrk B v;have b:=h.ro.back F f.o.toTrk C u;exact q6c (f.least p a) (h.least q b)
theorem ChnP.one(F:Fol ps g)(h:ChnP g s xs)(f:ChnP g t ys):∀{i j:Nat} {x},xs[i]?=some x->ys[j]?=some x->s=t
 |0,0,x,e1,e2=>by rw[h.o.hd] at e1;rw[f.o.hd] at e2;cases e1;cases e2;rfl
 |0,j+1,x,e1,e2=>by
  rw[h.o.hd] at e1;cases e1;have B:=(Aj.mp e2).1;obtain⟨u,q⟩:=q6x f.o.toTrk j (by lia);exact absurd (f.o.st q e2) (h.st u)
 |i+1,0,x,e1,e2=>by
  rw[f.o.hd] at e2;cases e2;have B:=(Aj.mp e1).1;obtain⟨u,q⟩:=q6x h.o.toTrk i (by lia);exact absurd (h.o.st q e1) (f.st u)
 |i+1,j+1,x,e1,e2=>by
  have D:=(Aj.mp e1).1;have E:=(Aj.mp e2).1;obtain⟨u,q⟩:=q6x h.o.toTrk i (by lia);obtain⟨v,C⟩:=q6x f.o.toTrk j (by lia);have:=F.inj (h.o.st q e1) (f.o.st C e2);subst this;exact ChnP.one F h f q C
def z6w(F:Fol ps g)(h:ChnP g s xs)(f:RingP g q ys)(u:x∈xs):x∉ys:=λv=>by
 obtain⟨i,B⟩:=Bl.mp u;obtain⟨j,C⟩:=Bl.mp v;exact IsRing.apart F h.st h.o.toTrk B (f.ro.mem F _ rfl C)
theorem z0w:∀{l},l≠[]->∃m∈l,∀y∈l,pLt y m=false
 |[],h=>absurd rfl h
 |[a],_=>⟨a,Au,λy f=>by rw[Ak.mp f];exact q1s _⟩
 |a::b::l,_=>by
  obtain⟨m,j,h⟩:=z0w (l:=b::l) (by simp);cases e:pLt a m with
  |false=>exact⟨m,Ap _ j,λy f=>by
    rcases Bb.mp f with rfl|f
    ·exact e
    ·exact h y f⟩
  |true =>
   refine⟨a,Au,λy f=>?_⟩;rcases Bb.mp f with rfl|f
   ·exact q1s _
   ·refine z2m ?_ (h y f);cases e2:pLt m a with
    |false=>rfl
    |true=>have:=q4m e e2;rw[q1s] at this;cases this
def covers(F:Fol ps g)(hp:p∈ps):(∃m ys,RingP g m ys/\p∈ys)\/∃s ys,s∈ps/\(s=p\/∃y,g s=some y)/\ChnP g s ys/\p∈ys:=by
 by_cases h:IsRing g p
 ·left;obtain⟨C,x,o,hl,I⟩:=h;have ro:RingO g p C:=⟨o,x,hl,I⟩
  obtain⟨m,D,least⟩:=z0w (l:=C) (λz=>by rw[z] at hl;cases hl);obtain⟨i,E⟩:=Bl.mp D;obtain⟨ys,y,q,f,G⟩:=ro.mem F _ rfl E;have B:RingO g m ys:=⟨q,y,f,G⟩
  refine⟨m,ys,⟨q,⟨y,f,G⟩,λu J=>?_⟩,B.back F o.toTrk E (Af q.hd)⟩;obtain⟨j,L⟩:=Bl.mp J;exact least u (ro.fwd q.toTrk D L)
 ·right;obtain⟨s,ys,H,M,t,hl⟩:=z5p F h _ rfl hp Trk.one rfl;obtain⟨u,o⟩:=Orb.ex F H _ rfl t;refine⟨s,ys++u,H,?_,⟨o,M⟩,Cp _ (Et hl)⟩;cases e:ys[1]? with
  |some v=>exact .inr ⟨v,t.st t.hd e⟩
  |none=>exact .inl (q3k t.hd e hl)
end
section
variable{bl:Bool}{rows:List Rw}{ms row W:List Mv}{D D':List Pth}{a a':Option (Pth×Pth)}{x q:Pth}
def Way.step(hl:Hl bl rows)(v:Gd bl rows W)(w:Way bl rows row ms)(hs:∀u∈rows.map (·.1),plc ms u=stO (plc W) D a u)(B:StO bl rows (plc W) D' a')(j:x∈rows.map (·.1))(C:stO (plc W) D' a' x=q)(E:Wsh rows (x,q))(ho:∀u∈rows.map (·.1),u≠x->stO (plc W) D' a' u=stO (plc W) D a u)(hn:q≠stO (plc W) D a x):
  ∃ms',Way bl rows (row++[(tn ms x,tn ms q.dropLast++[q.getLastD []])]) ms'/\∀u∈rows.map (·.1),plc ms' u=stO (plc W) D' a' u:=by
 have hs':∀u∈rows.map (·.1),plc (setW x q ms) u=stO (plc W) D' a' u:=λu f=>by
  by_cases e:u=x
  ·rw[e,z4e,C]
  ·rw[x0e e,ho u f e,hs u f]
 have g':Gd bl rows (setW x q ms):=by
  refine⟨x0f (w.gd hl).gw E,?_⟩;have ap:=B.apart hl v.ap;show((rows.map (·.1)).map λp=>fold bl (plc (setW x q ms) p)).Nodup;rw[By λu f=>congrArg (fold bl) (hs' u f)];exact ap
 refine⟨setW x q ms,?_,hs'⟩;have h:=Way.put (ms':=setW x q ms) (p:=x) w g' j (λu f=>x0e f) (by rw[z4e,hs x j];exact hn);rw[z4e] at h;exact h
def x6r(hl:Hl bl rows)(g:GoodW rows W)(f:x∈rows.map (·.1)):Wsh rows (x,plc W x):=by
 obtain⟨j,q⟩:=q0z hl g f;obtain⟨r,h,e⟩:=Ac.mp f;refine⟨⟨r.2,by rw[<- e];exact h,?_⟩,q1a hl g f,j⟩;by_cases hn:r.2=none
 ·exact .inl (q (by rw[<- e,<- hn];exact h))
 ·exact .inr hn
end
noncomputable def spCarried:Sp:=λvs H Q _=>∃a b c x p q,vs=[.ref a,.ref b,.ref c]/\H a=some (.tup (vP x))/\H b=some (.tup (vP p))/\H c=some (.tup (vP q))/\Low x/\Low p/\x.length<=100/\q.length<=100/\∀e H',Same H H'->H' e=some (.tup (vP (carry p q x)))->Q (.ref e) H'
def z5q(h:Low p):Low (p.take n):=λx f=>h x (Ii f)
noncomputable abbrev q6k:Stmt:=top 14
def z6x:FnScope Zi Zi (defScope q6k):=by trivial
def z6y(D:Df K mg "carried" q6k Zi)(T:Txt mg):Cal P w K mg base "carried" 1 Zi spCarried:=by
 refine D.cal z6x (λvs H Q E h=>?_) (λf I A outer s H vs Q E J h=>?_)
 ·obtain⟨a,b,c,x,p,q,rfl,_⟩:=h;rfl
 ·obtain⟨a,b,c,x,p,q,rfl,ha,v,L,M,O,Y,Z,k⟩:=h;refine⟨_,(q0c (q1b (q0n (eq_k K rfl J) (q0p sl_P (pv 0) q0r (q0s (q0k (q3l K rfl) (by rfl) T.b_len Cd (q0a (pv 1) q0e)))) (pv 1) (nomark _)) (q0f (q0o (q1l q3h (pv 2) (q0p sl_P (pv 0) (q0s (q0k (q3l K rfl) (by rfl) T.b_len Cd (q0a (pv 1) q0e))) q0r)))) q0m) (q0f (q0o (pv 0)))),?_⟩;refine⟨_,rfl,_,rfl,_,_,rfl,.inr ⟨_,SqT.of v,rfl⟩,_,rfl,a,_,rfl,ha,λt1 R j B=>?_⟩;rw[q0y,x4f] at B;refine⟨_,rfl,q0x B (j _ _ v) (z5q M) O ⟨_,rfl,?_⟩⟩;refine iteB (λu=>?_) (λu=>?_)
  ·have u:=of_decide_eq_true u;refine⟨_,rfl,_,rfl,_,rfl,_,_,rfl,.inr ⟨_,SqT.of (j _ _ v),rfl⟩,_,rfl,a,_,rfl,j _ _ ha,λS H2 C G=>?_⟩;rw[q0y,z5l] at G;refine⟨c,S,_,_,rfl,rfl,C _ _ (j _ _ L),G,by rw[q0y,q0y,Du];exact small (by lia),λe U W X _=>?_⟩;refine k e U ((j.trans C).trans W) ?_;rw[X,<- z5k];unfold carry;rw[if_pos u]
  ·have u:=of_decide_eq_false u;refine⟨_,rfl,k a R j ?_⟩;unfold carry;rw[if_neg u];exact j _ _ ha
structure CallsPB (P) (w) (K) (mg) (base):Prop where
 carried:Cal P w K mg base "carried" 1 Zi spCarried
structure RW (H) (L) (bl) (rows) (zs) (ms):Prop where
 ml:ML H L zs
 hl:Hl bl rows
 w:Way bl rows (zs.map (·.2)) ms
 len:zs.length<=200
def RW.same(r:RW H L bl rows zs ms)(s:Same H H'):RW H' L bl rows zs ms:=⟨r.ml.same s,r.hl,r.w,r.len⟩
def RW.keep(r:RW H L bl rows zs ms)(hd:H D=some o)(f:∀xs,o≠.lst xs)(h:∀xs,o≠.tup xs)(kp:∀c u,c≠D->H c=some u->H' c=some u):RW H' L bl rows zs ms :=
 ⟨⟨kp _ _ (λz=>by have e:=r.ml.at_;rw[z,hd] at e;cases e;exact f _ rfl) r.ml.at_,λz j=>(r.ml.pr z j).keep λT xs e=>kp _ _ (λz=>by rw[z,hd] at e;cases e;exact h _ rfl) e⟩,r.hl,r.w,r.len⟩
noncomputable def spBehindG:Sp:=λvs H Q _=>∃b L zs x,vs=[.ref b,.ref L]/\ML H L zs/\(∀z∈zs,okP z.2.1/\okP z.2.2)/\(∀i,Low (bhd ((zs.map (·.2)).take i) x)/\(bhd ((zs.map (·.2)).take i) x).length<=7)/\H b=some (.tup (vP x))/\∀e H',Same H H'->H' e=some (.tup (vP (bhd (zs.map (·.2)) x)))->Q (.ref e) H'
noncomputable abbrev q3u:Stmt:=top 36
def sc_path_behind:FnScope ["path", "row", "moved", "place"] Y0 (defScope q3u):=by trivial
def z6z(D:Df K mg "path_behind" q3u Y0)(T:Txt mg)(C:CallsPB P w K mg base):Cal P w K mg base "path_behind" 2 Y0 spBehindG:=by
 refine D.cal sc_path_behind (λvs H Q E h=>?_) (λf W A outer s H vs Q E X h=>?_)
 ·obtain⟨b,L,B,x,rfl,_⟩:=h;rfl
 ·obtain⟨b,L,B,x,rfl,ml,J,low,Y,k⟩:=h;refine⟨_,(q0c (q1k Br rfl (@q3b _ _ _ _ K rfl (pv 1)) (@q2h _ _ _ _ _ (2) K rfl rfl (q0l (q0h (i:=2) sc_path_behind.nd rfl (by trivial)) (q0l (q0h (i:=3) sc_path_behind.nd rfl (by trivial)) q1p)) (by rfl) (by rfl)) (q0f (q0i (i:=0) sc_path_behind.nd rfl (by trivial) (pe_c C.carried X (q0a (pv 0) (q0a (pv 2) (q0a (pv 3) q0e))))))) (q0f (q0o (pv 0)))),?_⟩;refine⟨_,rfl,.inl ⟨L,rfl,⟨_,SqL.of ml.at_⟩,?_⟩⟩;refine q3m (λi j M=>∃e O R,j=[some (.ref e),some (.ref L),O,R]/\Same H M/\M e=some (.tup (vP (bhd ((B.map (·.2)).take i) x)))) ⟨b,none,none,rfl,Same.refl H,Y⟩ (λi j M _ x=>by obtain⟨_,_,_,_,Z,_⟩:=x;exact SqL.of (Z _ _ ml.at_)) ?_ ?_
  ·rintro i v j S hv ⟨e,O,R,rfl,G,I⟩;obtain⟨z,U,rfl⟩:=refAt hv;have q:=Af U;obtain⟨A1,B1,g1,g2,g3⟩:=(ml.same G).pr z q;have u:=J z q;refine⟨z.1,_,rfl,SqT.of g1,rfl,_,_,rfl,_,_,rfl,rfl,?_⟩;have l7:=(low i).2;have l6:z.2.2.length<=6:=u.2.few;refine⟨_,rfl,_,rfl,_,rfl,e,A1,B1,_,_,_,rfl,I,g2,g3,(low i).1,u.1.low,by lia,by lia,λe2 H2 s2 h2=>?_⟩;refine⟨e2,_,_,rfl,G.trans s2,?_⟩;rw[h2];have e1:(B.map (·.2)).take (i+1)=(B.map (·.2)).take i++[z.2]:=by rw[Bc,Am,U];rfl
   rw[e1];unfold bhd;rw[Lx];rfl
  ·rintro j S ⟨e,O,R,rfl,G,I⟩;rw[Aa,<- Aa (f:=λz:Zm=>z.2),Ba] at I;exact⟨_,rfl,k e S G I⟩
noncomputable def spBehind:Sp:=λvs H Q _=>∃b L bl rows zs ms x,vs=[.ref b,.ref L]/\RW H L bl rows zs ms/\H b=some (.tup (vP x))/\M6 rows 6 x/\∀e H',Same H H'->H' e=some (.tup (vP (tn ms x)))->Q (.ref e) H'
def x0g(C:Cal P w K mg base "path_behind" 2 Y0 spBehindG):Cal P w K mg base "path_behind" 2 Y0 spBehind:=by
 refine C.imp λvs H Q E h=>?_;obtain⟨b,L,bl,rows,u,I,x,rfl,r,v,f,k⟩:=h;have j:=r.w.ok r.hl;refine⟨b,L,u,x,rfl,r.ml,λz B=>j z.2 (Ac.mpr ⟨z,B,rfl⟩),λi=>?_,v,λe D s h=>k e D s (by rw[<- r.w.behind r.hl f];exact h)⟩;obtain⟨G,q⟩:=r.w.take i;rw[q.behind r.hl f];exact x0d r.hl (q.gd r.hl) f
structure CallsPM (P) (w) (K) (mg) (base):Prop where
 path_behind:Cal P w K mg base "path_behind" 2 Y0 spBehind
noncomputable def spPutM:Sp:=λvs H Q _=>∃b c L bl rows zs ms x q,vs=[.ref L,.ref b,.ref c]/\RW H L bl rows zs ms/\zs.length<100/\H b=some (.tup (vP x))/\H c=some (.tup (vP q))/\x∈rows.map (·.1)/\okP q/\IsD rows q.dropLast /\
 ∀T' H',(∀a u,a≠L->H a=some u->H' a=some u)->ML H' L (zs++[(T',(tn ms x,tn ms q.dropLast++[q.getLastD []]))])->Q .non H'
noncomputable abbrev q5k:Stmt:=top 38
def z4f:FnScope Zw Zw (defScope q5k):=by trivial
def x6s(D:Df K mg "put_move" q5k Zw)(T:Txt mg)(C:CallsPM P w K mg base):Cal P w K mg base "put_move" 3 Zw spPutM:=by
 refine D.cal z4f (λvs H Q E h=>?_) (λf a2 A outer s H vs Q E hr h=>?_)
 ·obtain⟨b,c,L,bl,rows,Y,Z,x,q,rfl,_⟩:=h;rfl
 ·obtain⟨b,c,L,bl,rows,Y,Z,x,q,rfl,r,len,hb,hc,hx,j,hd,k⟩:=h;refine⟨_,(q0f (q1t (@bm_k _ _ _ _ _ _ _ _ _ _ _ _ K rfl Dx Eo Ep q2r (pv 0) (q0a (q1j (q0a (pe_c C.path_behind hr (q0a (pv 1) (q0a (pv 0) q0e))) (q0a (q1l q3h (pe_c C.path_behind hr (q0a (q0p sl_P (pv 2) q0r (q0s (q1i q0t q0g))) (q0a (pv 0) q0e))) (q0p sl_P (pv 2) (q0s (q1i q0t q0g)) q0r)) q0e))) q0e) (by rfl) (by rfl) (by rfl) (by rfl) (by rfl)))),?_⟩;have l5:q.dropLast.length<=6:=by rw[Bf];have:q.length<=6:=j.few;lia
  refine⟨_,rfl,.inl ⟨rfl,_,SqL.of r.ml.at_⟩,_,rfl,_,rfl,b,L,bl,rows,Y,Z,x,rfl,r,hb,m6_p hx,λI H1 s1 h1=>?_⟩;refine⟨_,rfl,_,rfl,_,rfl,c,_,rfl,s1 _ _ hc,λt1 H2 s2 h2=>?_⟩;rw[(q0w j.ne).1] at h2;have J:=s1.trans s2;refine⟨_,rfl,t1,L,bl,rows,Y,Z,_,rfl,r.same J,h2,m6_d hd l5,λe2 H3 s3 h3=>?_⟩;have a0:=J.trans s3;refine⟨_,rfl,_,rfl,_,rfl,c,_,rfl,a0 _ _ hc,λt2 H4 s4 h4=>?_⟩;rw[z2u j.ne] at h4;have l7:=(x0d r.hl (r.w.gd r.hl) (m6_d hd l5)).2;refine⟨e2,t2,_,_,rfl,rfl,s4 _ _ h3,h4,by rw[q0y,q0y];exact small (by show _+1<=_;lia),λM H5 s5 h5 _=>?_⟩;rw[<- z5k] at h5;refine⟨by show 2<=sizeLine;decide,λO hT=>?_⟩;have sT:=(Same.refl H5).new (o:=.tup [.ref I,.ref M]) hT;have a1:=(s3.trans s4).trans s5;have v:=(s2.trans a1).trans sT;have B:=s1.trans v;have R:upd H5 O (.tup [.ref I,.ref M]) O=some (.tup [.ref I,.ref M]):=q0b;have U:=sT _ _ h5;have W:=v _ _ h1;generalize upd H5 O (.tup [.ref I,.ref M])=H6 at sT v B R U W;have G:=r.ml.same B;refine⟨L,_,_,rfl,rfl,G.at_,by rw[Aa];exact small' (by lia),?_⟩;have tk:∀S xs,H6 S=some (.tup xs)->upd H6 L (.lst (Y.map (λz=>V.ref z.1)++[.ref O])) S=some (.tup xs):=λS xs e=>by
   rw[q0d (q0q e G.at_)];exact e
  refine k O _ (λa u ha e=>by rw[q0d ha];exact B _ _ e) ⟨by rw[Ae];exact q0b,λz X=>?_⟩;rcases Ao.mp X with X|X
  ·exact(G.pr z X).keep tk
  ·rw[Ak.mp X];exact⟨I,M,tk _ _ R,tk _ _ W,tk _ _ U⟩
def dg_inj(q:m<1000)(hn:n<1000)(h:dg m=dg n):m=n:=by
 have f:=z8o (m:=m) (by lia);have j:=z8o (m:=n) (by lia);rw[h,j] at f;have:=Bx f;lia
def fi_ns:∀c∈FI,c∈HM.NS:=by trivial
def lo_fi:∀c∈HM.NS,Cf c∈FI->Cf c=c:=by trivial
def lo_fig:∀c∈FI,Cf c=c:=by trivial
def okN_dg(h:m<1000):okN (dg m):=⟨dg_pos m,Cc (x3v 2 m (by lia)) (by lia),λc f=>fi_ns c (z8n m c f)⟩
def low_dg:lowN (dg m)=dg m:=by
 unfold lowN;exact(By λc f=>lo_fig c (z8n m c f)).trans (Im _)
def low_is(hn:okN n)(h:lowN n=dg m):n=dg m:=by
 rw[<- h];unfold lowN;refine((By λc f=>?_).trans (Im _)).symm;refine lo_fi c (hn.all c f) (z8n m _ ?_);rw[<- h];exact Ac.mpr ⟨c,f,rfl⟩
def x3d{tk:List (List Nat)}:inV (.str (mk n)) (tk.map λn=>V.str (mk n))=decide (n∈tk):=by
 unfold inV;rw[List.any_map];cases h:decide (n∈tk) with
 |true=>exact Qm.mpr ⟨n,of_decide_eq_true h,by show(mk n==mk n)=true;simp⟩
 |false =>
  refine Uu.mpr λx f e=>of_decide_eq_false h ?_;have j:(mk x==mk n)=true:=e;rw[<- SB.mk_inj (eq_of_beq j)];exact f
noncomputable def spSpare:Sp:=λvs H Q _=>∃b D L bl rows zs ms qs d,vs=[.ref b,.ref D,.ref L]/\RW H L bl rows zs ms/\rows.length<=30/\H b=some (.tup (vP d))/\IsD rows d/\d.length<=5/\PDt H D qs/\((qs.map (·.2)).map (·.1)).Perm (rows.map (·.1)) /\
 ∀n H',Same H H'->okN n->(∀x∈rows.map (·.1),fold bl (plc ms x)≠fold bl (d++[n]))->Q (.str (mk n)) H'
noncomputable abbrev q4f:Stmt:=top 37
def sc_spare_name:FnScope ["drawer", "paths", "row", "drawer_then", "paths_then", "taken", "number"] Zx (defScope q4f):=by trivial
def x3e(D:Df K mg "spare_name" q4f Zx)(T:Txt mg)(C:CallsPM P w K mg base):Cal P w K mg base "spare_name" 3 Zx spSpare:=by
 refine D.cal sc_spare_name (λvs H Q E h=>?_) (λf d5 A outer s H vs Q E hr h=>?_)
 ·obtain⟨b,D,L,bl,rows,zs,M,G,d,rfl,_⟩:=h;rfl
 ·obtain⟨b,D,L,bl,rows,zs,M,G,d,rfl,r,d6,hb,hd,l5,pd,pm,k⟩:=h;refine⟨_,(q0c (q0i (i:=3) sc_spare_name.nd rfl (by trivial) (pe_c C.path_behind hr (q0a (pv 0) (q0a (pv 2) q0e)))) (q0c (q3y H rfl (q7q (i:=4) ["path"] [("row",2)] sc_spare_name.nd rfl (by trivial) rfl (@q4l _ _ _ _ K rfl (pv 1)) (λ_ _ _ _ _=>(q0h (i:=0) (show(Y0:List Str).Nodup by trivial) rfl (by trivial))) (λ_ _ _ _ _=>q2m) (λ_ _ _ _ _=>(pe_c C.path_behind hr (q0a (pv 0) (q0a (pv 1) q0e)))))) (q0c (q7q (i:=5) ["path"] [("drawer_then",3)] sc_spare_name.nd rfl (by trivial) rfl (@q3b _ _ _ _ K rfl (pv 4)) (λ_ _ _ _ _=>(q0h (i:=0) (show(["path", "drawer_then"]:List Str).Nodup by trivial) rfl (by trivial))) (λ_ _ _ _ _=>(q4k (q0n (eq_k K rfl hr) (q0p (sl_k K rfl) (pv 0) q0r (q0s (q1i q0t q0g))) (pv 1) (nomark _)))) (λ_ _ _ _ _=>(q1q (ix_k K rfl) (pv 0) (q1i q0t q0g) (λ_ _=>rfl)))) (q0c (q0i (i:=6) sc_spare_name.nd rfl (by trivial) q0g) (q0c (q9u Br (q0n (in_k K rfl) (q3d z2i (by rfl) T.b_str (by trivial) (q0a (pv 6) q0e)) (pv 5) (by with_unfolding_all rfl)) (q0f (ps_aug (i:=6) sc_spare_name.nd rfl (by trivial) q0g x4q))) (q0f (q0o (q3d z2i (by rfl) T.b_str (by trivial) (q0a (pv 6) q0e))))))))),?_⟩;have hl:=r.hl;have g:=r.w.gd hl;have a9:M6 rows 6 d:=m6_d hd (by lia);have ql:G.length<=30:=by have:=pm.length_eq;rw[Aa,Aa,Aa] at this;lia
  have b0:∀x∈G,x.2.1∈rows.map (·.1):=λx O=>pm.mem_iff.mp (Ac.mpr ⟨x.2,Ac.mpr ⟨x,O,rfl⟩,rfl⟩)
  with_reducible refine gE λd7 d8 b1 b2=>?_
  refine⟨_,rfl,_,rfl,b,L,bl,rows,zs,M,d,rfl,r,hb,a9,λe1 H1 s1 h1=>?_⟩;have a3:=pd.same s1;have r1:=r.same s1;refine gY b2 λd9 b3=>?_;refine⟨D,(λo v e=>by rw[pd.at_] at e;cases e),?_⟩;refine⟨_,rfl,D,_,rfl,a3.at_,λob=>?_⟩;refine λDc a4=>?_;have a0:Dc≠D:=q0q a4 q0b;have a2:H1 Dc=none:=by rw[q0d a0] at a4;exact a4
  have b4:((G.map λx=>((x.2.1,.ref x.1):HRow)).map λr=>(kP r.1,r.2)).length=G.length:=by rw[Aa,Aa]
  refine q6a (n:=G.length) (λj R U=>∃I:List Zp,R=I.map (λz=>V.ref z.1)/\I.map (·.2)=((G.map (·.2)).take j).map (λm=>tn M m.1)/\(∀z∈I,U z.1=some (.tup (vP z.2)))/\U D=some (.frz ob (qR G))/\(∀c u,c≠D->H1 c=some u->U c=some u)/\U Dc=some (.lst R))
   ⟨[],rfl,rfl,(λ_ h=>nomatch h),by rw[q0d a0.symm];exact q0b,λc u hc e=>by rw[q0d (q0j e a2),q0d hc];exact e,q0b⟩ (λj R U x=>by obtain⟨_,_,_,_,_,_,h⟩:=x;exact h) (λj R U hj x=>by obtain⟨_,_,_,_,hf,_,_⟩:=x;exact⟨hf,by rw[b4];exact hj⟩) (λR U x=>by obtain⟨_,_,_,_,hf,_,_⟩:=x;exact⟨hf,by rw[b4];exact Aq _⟩) ?_ ?_
  ·rintro j R H2 v H3 hj ⟨I,rfl,ew,hw,Y,kp,B⟩ ⟨rfl,ky,vv,pb,c6,b5,rfl⟩;obtain⟨y,hy,rfl,rfl⟩:∃y,G[j]?=some y/\ky=kP y.2.1/\vv=.ref y.1:=keyAt c6;rw[q1w] at b5;have c7:=Af hy;have r3:RW H3 L bl rows zs M:=r1.keep a3.at_ (λ_ e=>by cases e) (λ_ e=>by cases e) kp;have W:(G.map (·.2)).take (j+1)=(G.map (·.2)).take j++[y.2]:=by rw[Bc,Am,hy];rfl
   have wl:I.length<=30:=by
    have:=congrArg List.length ew;rw[Aa,Aa,Bg,Aa] at this;lia
   refine⟨q1d,q6f (iteT ⟨_,rfl,_,rfl,pb,L,bl,rows,zs,M,y.2.1,rfl,r3,b5,m6_p (b0 y c7),λe2 H4 Z h4=>?_⟩)⟩;have b6:=Z _ _ B;have tk:∀S xs,H4 S=some (.tup xs)->upd H4 Dc (.lst (I.map (λz=>V.ref z.1)++[.ref e2])) S=some (.tup xs):=λS xs e=>by
    rw[q0d (q0q e b6)];exact e
   refine⟨b6,small' (by rw[Aa];lia),I++[(e2,tn M y.2.1)],by rw[Ae];rfl,by rw[Ae,ew,W,Ae];rfl,λz X=>?_,by rw[q0d a0.symm];exact Z _ _ Y,λc u hc e=>by rw[q0d (q0j e a2)];exact Z _ _ (kp c u hc e),q0b⟩;rcases Ao.mp X with X|X
   ·exact tk _ _ (Z _ _ (hw z X))
   ·rw[Ak.mp X];exact tk _ _ h4
  rintro R H2 ⟨I,rfl,ew,hw,Y,kp,B⟩;rw[<- Aa (f:=λx:Addr×Mv=>x.2),Ba] at ew;refine⟨ob,_,Y,?_⟩;have s2:Same H1 (upd H2 D (qR G)):=q2c a3.at_ kp;have a5:upd H2 D (qR G) Dc=some (.lst (I.map λz=>V.ref z.1)):=by rw[q0d a0];exact B
  have b7:∀z∈I,upd H2 D (qR G) z.1=some (.tup (vP z.2)):=λz X=>by rw[q0d (q0q (hw z X) Y)];exact hw z X
  generalize upd H2 D (qR G)=H3 at s2 a5 b7;clear Y kp B hw;have wl:I.length<=30:=by
   have:=congrArg List.length ew;rw[Aa,Aa,Aa] at this;lia
  have c8:∀z∈I,okP z.2:=λz X=>by
   have:z.2∈(G.map (·.2)).map (λm=>tn M m.1):=by rw[<- ew];exact Ac.mpr ⟨z,X,rfl⟩
   obtain⟨m,hm,e⟩:=Ac.mp this;obtain⟨x,O,rfl⟩:=Ac.mp hm;rw[<- e];exact z2w hl g (b0 x O)
  have c9:=s2 _ _ h1;subst b3;refine⟨_,rfl,.inl ⟨Dc,rfl,⟨_,SqL.of a5⟩,λDe b8=>?_⟩⟩;refine q2g (λi R U=>∃tk:List (List Nat),R=tk.map (λn=>V.str (mk n))/\tk=(((I.map (·.2)).take i).filter λp=>decide (p.dropLast=tn M d)).map (λp=>p.getLastD [])/\Same H3 U/\U De=some (.lst R)) ⟨[],rfl,rfl,(Same.refl H3).new b8,q0b⟩ (λi R U h=>by obtain⟨tk,_,_,s',h'⟩:=h;exact⟨h',SqL.of (s' _ _ a5)⟩) ?_ ?_
  ·rintro i R H4 v hv ⟨tk,rfl,J,Z,B⟩;obtain⟨z,X,rfl⟩:=refAt hv;have b9:=Af X;have a6:=c8 z b9;have c0:=Z _ _ (b7 z b9);have W:(I.map (·.2)).take (i+1)=(I.map (·.2)).take i++[z.2]:=by rw[Bc,Am,X];rfl
   have tl:tk.length<=30:=by
    rw[J,Aa];refine Cc (Dh _ _) ?_;rw[Bg,Aa];lia
   obtain⟨c1,c2⟩:=q0w a6.ne;refine⟨q1d,_,rfl,_,rfl,_,rfl,.inr (.inr ⟨z.1,_,rfl,SqT.of c0,c2,λt1 d0=>?_⟩)⟩;rw[c1];have s5:=(Same.refl H4).new (o:=.tup (vP z.2.dropLast)) d0;refine⟨_,rfl,q0x q0b (s5 _ _ (Z _ _ c9)) (q1g a6.low) (x0d hl g a9).1 ⟨_,rfl,?_⟩⟩;generalize upd H4 t1 (.tup (vP z.2.dropLast))=H5 at s5;have c3:=Z.trans s5;refine iteB (λhc=>?_) (λhc=>?_)
   ·refine⟨_,rfl,_,rfl,.inr (.inl ⟨z.1,_,-1,_,rfl,rfl,SqT.of (s5 _ _ c0),q3i a6.ne,s5 _ _ B,small' (by rw[Aa];lia),tk++[z.2.getLastD []],by rw[Ae];rfl,?_,c3.put b8,q0b⟩)⟩;rw[W,Dy,Dj (by simpa using hc),Ae,<- J];rfl
   ·refine⟨tk,rfl,?_,c3,s5 _ _ B⟩;rw[W,Dy,Di (by simpa using hc),Ae,<- J];simp
  rintro R H4 ⟨tk,rfl,J,Z,B⟩;rw[Aa,<- Aa (f:=λz:Zp=>z.2),Ba] at J;have tl:tk.length<=30:=by
   rw[J,Aa];refine Cc (Dh _ _) ?_;rw[Aa];exact wl
  have d1:=(s1.trans s2).trans Z;have flat:(tk.map λn=>V.str (mk n)).all flatV=true:=Mr.mpr λx O=>by obtain⟨n,_,rfl⟩:=Ac.mp O;rfl
  refine q9v (λa1 U=>∃m:Nat,a1=[some (.ref b),some (.ref D),some (.ref L),some (.ref e1),some (.ref Dc),some (.ref De),some (.int (m:Int))]/\U=H4/\m<=31/\∀j,j<m->dg j∈tk) (λa1 _=>match a1 with | [_,_,_,_,_,_,some (.int m)]=>100-m.toNat|_=>0) ⟨0,rfl,rfl,Bv _,λj hj=>absurd hj (Nat.not_lt_zero _)⟩ ?_ ?_
  ·rintro a1 H5 ⟨m,rfl,rfl,e7,hm⟩;have e8:m<=tk.length:=by
    have nd:((List.range m).map dg).Nodup:=Ic.mpr (Gv (λ{x y} O hy n z=>n (dg_inj (by have:=Og.mp O;lia) (by have:=Og.mp hy;lia) z)) List.nodup_range);have:=q8s nd (m:=tk) λx O=>by
     obtain⟨j,hj,rfl⟩:=Ac.mp O;exact hm j (Og.mp hj)
    rw[Aa,List.length_range] at this;exact this
   refine⟨_,rfl,m,rfl,by lia,_,rfl,.inr ⟨De,_,rfl,.inl (SqL.of B),rfl,flat,?_⟩⟩;rw[dg_mk,x3d];refine⟨_,rfl,?_⟩;refine ite2 (λa7=>?_) (λa7=>?_)
   ·have a8:=of_decide_eq_true a7;refine⟨_,rfl,_,_,rfl,rfl,⟨m+1,?_,rfl,by lia,λj hj=>?_⟩,?_⟩
    ·show[some (V.ref b),some (.ref D),some (.ref L),some (.ref e1),some (.ref Dc),some (.ref De),some (.int ((m:Int)+1))]=_;rfl
    ·by_cases e:j=m
     ·rw[e];exact a8
     ·exact hm j (by lia)
    ·show 100-((m:Int)+1).toNat<100-(m:Int).toNat;lia
   ·have c4:dg m∉tk:=λh=>a7 (decide_eq_true h);refine⟨_,rfl,m,rfl,by lia,?_⟩;rw[dg_mk];subst b1;refine k (dg m) _ d1 (okN_dg (by lia)) λx O e=>c4 ?_;have c5:=q1a hl g.gw O;obtain⟨f1,f2⟩:=(q2i c5.ne (by simp)).mp e;rw[Bk] at f1;rw[Ce] at f2;have e2:(plc M x).getLastD []=dg m:=by
     cases bl with
     |false=>exact f2
     |true=>exact low_is (q2n c5) (by rw[<- low_dg (m:=m)];exact f2)
    obtain⟨r',d2,e3⟩:=Ac.mp O;have e4:tn M x=tn M d++[dg m]:=by
     have:=(q1m hl g.gw d2).1;rw[e3,f1,e2] at this;exact this
    rw[J];have d3:x∈(G.map (·.2)).map (·.1):=pm.mem_iff.mpr O;obtain⟨m1,d4,em⟩:=Ac.mp d3;have a8:tn M x∈I.map (·.2):=by rw[ew];exact Ac.mpr ⟨m1,d4,by rw[em]⟩
    exact Ac.mpr ⟨tn M x,Dg.mpr ⟨a8,by rw[e4,Bk];exact decide_eq_true rfl⟩,by rw[e4,Ce]⟩
  ·intro e9 f0 Q1 Q2 hq h;obtain⟨v,e0,n,W,e2,w',e3,h⟩:=h;refine⟨v,e0,n,W,e2,w',e3,?_⟩;rcases h with⟨i,j,e4,e5,c,e6,q⟩|⟨p,xs,e4,hs,f1,f2,c,e6,q⟩
   ·exact .inl ⟨i,j,e4,e5,c,e6,hq _ _ q⟩
   ·exact .inr ⟨p,xs,e4,hs,f1,f2,c,e6,hq _ _ q⟩
def q7e(hl:Hl bl rows)(ap:Apart bl rows f)(h:nx bl (rows.map (·.1)) f x=some y):(x∈rows.map (·.1)/\f x≠x)/\(y∈rows.map (·.1)/\f y≠y):=by
 obtain⟨j,u,q,v,B⟩:=(q1f hl).mp h;refine⟨⟨j,u⟩,q,λe=>B ?_⟩;have ap':=ap;exact q0u ap' q j (by show fold bl (f y)=fold bl (f x);rw[e];exact v)
section
variable{bl:Bool}{rows:List Rw}{W:List Mv}{D:List Pth}{a:Option (Pth×Pth)}{x r sp:Pth}{f:Pth->Pth}
def z2x(h:x∈D):stO f D a x=f x:=by unfold stO;rw[if_pos h]
def q5l(h:x∉D):stO f D none x=x:=by unfold stO;rw[if_neg h]
def x0h(h:r∉D):stO f D (some (r,sp)) r=sp:=by unfold stO;rw[if_neg h];simp
def z0x(h:x≠r):stO f D (some (r,sp)) x=stO f D none x:=by
 unfold stO;by_cases e:x∈D
 ·rw[if_pos e,if_pos e]
 ·simp_all
def q7f(h:x≠y):stO f (y::D) a x=stO f D a x:=by
 unfold stO;by_cases e:x∈D
 ·simp_all
 ·simp_all
def StO.nil:StO bl rows f [] none:=⟨(λh=>nomatch h),(λ_ h=>nomatch h),(λh=>nomatch h)⟩
def StO.add(s:StO bl rows f D a)(v:x∈rows.map (·.1))(B:∀y,nx bl (rows.map (·.1)) f x=some y->y∈D\/∃sp,a=some (y,sp))(ha:∀r sp,a=some (r,sp)->x≠r/\fold bl (f x)≠fold bl sp):StO bl rows f (x::D) a:=by
 refine⟨λ{u y} j e=>?_,λu j=>?_,λ{r sp} e=>⟨λh=>?_,λu j n=>?_⟩⟩
 ·rcases Bb.mp j with rfl|j
  ·exact(B y e).imp (Ap _) id
  ·exact(s.cl j e).imp (Ap _) id
 ·rcases Bb.mp j with rfl|j
  ·exact v
  ·exact s.sub u j
 ·rcases Bb.mp h with h|h
  ·grind
  ·exact(s.sp e).1 h
 ·by_cases q:u=x
  ·rw[q,z2x Au];exact(ha r sp e).2
  ·rw[q7f q];exact(s.sp e).2 u j n
def StO.home(s:StO bl rows f D (some (r,sp)))(q:r∈rows.map (·.1))(v:∀y,nx bl (rows.map (·.1)) f r=some y->y∈D):StO bl rows f (r::D) none:=by
 refine⟨λ{u y} j e=>?_,λu j=>?_,λh=>nomatch h⟩
 ·rcases Bb.mp j with rfl|j
  ·exact .inl (Ap _ (v y e))
  ·rcases s.cl j e with h|⟨B,h⟩
   ·exact .inl (Ap _ h)
   ·grind
 ·rcases Bb.mp j with rfl|j
  ·exact q
  ·exact s.sub u j
def StO.aside(s:StO bl rows f D none)(v:r∉D)(j:∀u∈rows.map (·.1),fold bl (stO f D none u)≠fold bl sp):StO bl rows f D (some (r,sp)):=by
 refine⟨λ{u y} q e=>(s.cl q e).imp id λ⟨_,h⟩=>(nomatch h),s.sub,λ{r' sp'} e=>?_⟩;injection e with e;injection e with e1 e2;subst e1 e2;exact⟨v,λu q n=>by rw[z0x n];exact j u q⟩
end
def x4i{f:Type}{l:List f}{x}(h:l.reverse[j]?=some x):j<l.length/\l[l.length-1-j]?=some x:=by
 have q:j<l.length:=by have:=(Aj.mp h).1;rwa [Of] at this
 rw[Ss q] at h;exact⟨q,h⟩
def z2y{q:Type}{l:List q}{x}(B:j<l.length)(h:l[l.length-1-j]?=some x):l.drop (l.length-(j+1))=x::l.drop (l.length-j):=by
 have f:l.length-(j+1)<l.length:=by lia
 rw[List.drop_eq_getElem_cons f];have e:l.length-(j+1)=l.length-1-j:=by lia
 have v:l.length-(j+1)+1=l.length-j:=by lia
 rw[v];congr 1;have u:=h;rw[<- e,Ci f] at u;exact Bx u
def Orb.next(o:Orb g p xs)(h:xs[i]?=some y)(e:g y=some v):xs[i+1]?=some v\/(xs[i+1]?=none/\v=p):=by
 cases e2:xs[i+1]? with
 |some w =>
  have:=o.st h e2;rw[e] at this;exact .inl this.symm
 |none =>
  have j:xs≠[]:=λz=>by rw[z] at h;cases h
  have hl:=Be j;rw[<- q3k h e2 hl] at hl;rcases o.fin hl with f|f
  ·rw[e] at f;cases f
  ·grind
def at_0{v:V}:atI (v::xs) 0=some v:=by
 unfold atI ixN;simp
structure CallsRF (P) (w) (K) (mg) (base) (c):Prop where
 ask_wishes:Cal P w K mg base "ask_wishes" 8 Z3 (spAsk c)
 all_places:Cal P w K mg base "all_places" 6 Z3 (spAllP c)
 chains:Cal P w K mg base "chains" 10 Z3 (spChains c)
 rings:Cal P w K mg base "rings" 10 Z3 (spRings c)
 put_move:Cal P w K mg base "put_move" 3 Zw spPutM
 spare_name:Cal P w K mg base "spare_name" 3 Zx spSpare
structure Does (bl) (rows) (W row):Prop where
 w:∃ms,Way bl rows row ms/\∀u∈rows.map (·.1),plc ms u=plc W u
 len:∃(D:List Pth) (rs:List (List Pth)),D.Nodup/\(∀x,x∈D↔mvOf rows W x)/\Rgs (gOf bl rows W) rs/\row.length=D.length+rs.length
noncomputable def spRowFor(c:Addr):Sp:=λvs H Q _=>∃h d L bl rows zs,vs=[.ref h,.ref L]/\GW c H h d L bl rows zs /\
 ∀R ws H',H R=none->Same H H'->ML H' R ws->ws.length<=60->Does bl rows (zs.map (·.2)) (ws.map (·.2))->Q (.ref R) H'
structure RSt (H4 H':Hp) (L) (bl) (rows) (W) (D) (a) (n) (zs) (ms):Prop where
 kp:∀c u,c≠L->H4 c=some u->H' c=some u
 rw:RW H' L bl rows zs ms
 hs:∀u∈rows.map (·.1),plc ms u=stO (plc W) D a u
 st:StO bl rows (plc W) D a
 nd:D.Nodup
 len:zs.length=D.length+n
def RSt.same(r:RSt H4 H' L bl rows W D a n zs ms)(s:Same H' H2):RSt H4 H2 L bl rows W D a n zs ms:=⟨λc u f e=>s _ _ (r.kp c u f e),r.rw.same s,r.hs,r.st,r.nd,r.len⟩
def RSt.put(r:RSt C H' L bl rows W D a n zs ms)(I:Gd bl rows W)(few:zs.length<100)(kp:∀c u,c≠L->H' c=some u->h c=some u)(ml:ML h L (zs++[(H,(tn ms x,tn ms q.dropLast++[q.getLastD []]))]))(E:StO bl rows (plc W) D' a')(J:x∈rows.map (·.1))(M:stO (plc W) D' a' x=q)(O:Wsh rows (x,q))(ho:∀u∈rows.map (·.1),u≠x->stO (plc W) D' a' u=stO (plc W) D a u)(hn:q≠stO (plc W) D a x)(j:D'.Nodup)(f:zs.length+1=D'.length+n'):∃v ms',RSt C h L bl rows W D' a' n' v ms':=by
 obtain⟨ms',P,B⟩:=r.rw.w.step r.rw.hl I r.hs E J M O ho hn;refine⟨_,ms',λc u G e=>kp c u G (r.kp c u G e),⟨ml,r.rw.hl,?_,by rw[An];exact Cc few (by decide)⟩,B,E,j,by rw[An];exact f⟩;rw[Ae];exact P
noncomputable abbrev q6l:Stmt:=top 39
def sc_row_for:FnScope ["hall", "wishes", "places", "row", "chain", "path", "ring", "drawer"] Z3 (defScope q6l):=by trivial
def z7a(D:Df K mg "row_for" q6l Z3)(T:Txt mg)(C:CallsRF P w K mg base c):Cal P w K mg base "row_for" 11 Z3 (spRowFor c):=by
 refine D.cal sc_row_for (λvs H Q E h=>?_) (λf n6 A outer s H vs Q E hr h=>?_)
 ·obtain⟨h,d,L,bl,rows,zs,rfl,_⟩:=h;rfl
 ·obtain⟨h,d,M,bl,rows,zs,rfl,G,k⟩:=h;refine⟨_,(q0c (q1t (pe_c C.ask_wishes hr (q0a (pv 0) (q0a (pv 1) q0e)))) (q0c (q0i (i:=2) sc_row_for.nd rfl (by trivial) (pe_c C.all_places hr (q0a (pv 0) (q0a (pv 1) q0e)))) (q0c (q0i (i:=3) sc_row_for.nd rfl (by trivial) (q2f q0e)) (q0c (q1k Br rfl (@q3b _ _ _ _ K rfl (pe_c C.chains hr (q0a (pv 0) (q0a (pv 1) q0e)))) (q0h (i:=4) sc_row_for.nd rfl (by trivial)) (q0f (q1k Br rfl (@rev_k _ _ _ _ _ _ K rfl rfl T.b_reversed (q0a (pv 4) q0e) (by rfl)) (q0h (i:=5) sc_row_for.nd rfl (by trivial)) (q0f (q1t (pe_c C.put_move hr (q0a (pv 3) (q0a (pv 5) (q0a (q0v (q1c hr) (pv 2) (pv 5) (λ_ _=>rfl)) q0e))))))))) (q0c (q1k Br rfl (@q3b _ _ _ _ K rfl (pe_c C.rings hr (q0a (pv 0) (q0a (pv 1) q0e)))) (q0h (i:=6) sc_row_for.nd rfl (by trivial)) (q0c (q0i (i:=7) sc_row_for.nd rfl (by trivial) (q0p sl_P (q1q (ix_k K rfl) (pv 6) q0g (λ_ _=>rfl)) q0r (q0s (q1i q0t q0g)))) (q0c (q1t (pe_c C.put_move hr (q0a (pv 3) (q0a (q1q (ix_k K rfl) (pv 6) q0g (λ_ _=>rfl)) (q0a (q1l q3h (pv 7) (q1j (q0a (pe_c C.spare_name hr (q0a (pv 7) (q0a (pv 2) (q0a (pv 3) q0e)))) q0e))) q0e))))) (q0f (q1k Br rfl (@rev_k _ _ _ _ _ _ K rfl rfl T.b_reversed (q0a (pv 6) q0e) (by rfl)) (q0h (i:=5) sc_row_for.nd rfl (by trivial)) (q0f (q1t (pe_c C.put_move hr (q0a (pv 3) (q0a (pv 5) (q0a (q0v (q1c hr) (pv 2) (pv 5) (λ_ _=>rfl)) q0e))))))))))) (q0f (q0o (pv 3)))))))),?_⟩;have hl:=G.hl
  with_reducible refine gE λn0 n1 d8 d9=>?_
  refine⟨_,rfl,_,rfl,h,d,M,bl,rows,zs,rfl,G.ha,hl,G.few,G.ml,G.gw,G.len,G.ap,λH1 s1=>?_⟩;have G1:=G.same s1;refine gY d9 λn3 e4=>?_;refine⟨_,rfl,_,rfl,h,d,M,bl,rows,zs,rfl,G1.ha,hl,by have:=G.few;lia,G1.ml,G.gw,G.len,λD0 qs n7 H2 n8 s2 pd j5 n9 e0=>?_⟩;have e5:=s1.trans s2;have G2:=G.same e5;have gW:Gd bl rows (zs.map (·.2)):=⟨G.gw,G.ap⟩
  have e6:(qs.map (·.2)).Perm (rows.map λr=>(r.1,plc (zs.map (·.2)) r.1)):=by rw[e0];exact j5.map _
  have few:=G.few;have F:=z2v hl G.ap;have kq:((qs.map (·.2)).map (·.1)).Perm (rows.map (·.1)):=z0u e6;have j6:((qs.map (·.2)).map (·.1)).Nodup:=kq.nodup_iff.mpr hl.paths;generalize hW:zs.map (·.2)=W at gW e6 F;refine gY e4 λn4 e7=>?_;refine⟨by show 0<=sizeLine;decide,λL hL=>?_⟩;have s3:=(Same.refl H2).new (o:=.lst []) hL;have e8:upd H2 L (.lst []) L=some (.lst []):=q0b;generalize upd H2 L (.lst [])=H3 at s3 e8;have G3:=G2.same s3;refine gY e7 λn5 f0=>?_;refine⟨_,rfl,_,rfl,h,d,M,bl,rows,zs,rfl,G3,λR cs H4 hR j7 s4 b1 a7 _=>?_⟩;rw[hW] at a7;have j8:=s3.trans s4;have h4:=s4 _ _ e8;have f1:∀{U:Hp},(∀c u,c≠L->H4 c=some u->U c=some u)->Same H2 U:=λ{U} kp c u e=>kp _ _ (q0q e hL) (j8 _ _ e);have h5:∀{c:Addr},H3 c=none->c≠L:=λ{c} e z=>by rw[z,e8] at e;cases e
  have h6:∀x∈rows.map (·.1),okP x:=λx hx=>by obtain⟨r,b6,rfl⟩:=Ac.mp hx;exact hl.ok r b6
  have a9:∀{D:List Pth},D.Nodup->(∀x∈D,x∈rows.map (·.1))->D.length<=30:=λ{D} nd hs=>by
   have:=q8s nd hs;rw[Aa] at this;lia
  have b7:∀{U:Hp} {e:Addr} {x:Pth},Same H2 U->x∈rows.map (·.1)->U e=some (.tup (vP x))->∃e2,DGet U D0 (.ref e) (some (.ref e2))/\U e2=some (.tup (vP (plc W x))):=λ{U e x} s' hx he=>by
   have j9:=kq.mem_iff.mpr hx;obtain⟨m,Z,em⟩:=Ac.mp j9;obtain⟨y,Y,rfl⟩:=Ac.mp Z;refine⟨y.1,q8i (.inl (pd.same s').at_) j6 Y (by rw[em];exact he),?_⟩;rw[<- em,<- (x0a e6 Y).2];exact(pd.same s').pr y Y
  have f2:∀{x:Pth},x∈rows.map (·.1)->Wsh rows (x,plc W x):=λhx=>x6r hl gW.gw hx;have k0:RSt H4 H4 L bl rows W [] none 0 [] []:=⟨λc u _ e=>e,⟨⟨h4,(λ_ h=>nomatch h)⟩,hl,.nil,Bv _⟩,λu _=>(q5l Ea).symm,StO.nil,.nil,rfl⟩
  refine .inl ⟨R,rfl,⟨_,SqL.of b1.at_⟩,?_⟩;have k1:R≠L:=h5 hR;have f3:∀{U:Hp},(∀c u,c≠L->H4 c=some u->U c=some u)->∀z∈cs,PL U z.1 z.2:=λ{U} kp z hz=>⟨kp _ _ (h5 (j7 z hz)) (b1.pr z hz).at_,λu hu=>⟨kp _ _ (q0q (((b1.pr z hz).pr u hu).1) h4) ((b1.pr z hz).pr u hu).1,((b1.pr z hz).pr u hu).2⟩⟩
  refine q3m (λi J U=>∃ws ms D x4 x5,J=[some (.ref h),some (.ref M),some (.ref D0),some (.ref L),x4,x5,none,none]/\RSt H4 U L bl rows W D none 0 ws ms/\∀x,x∈D↔∃xs∈(cs.map cont).take i,x∈xs) ⟨[],[],[],none,none,rfl,k0,λx=>⟨(λh=>nomatch h),λ⟨xs,h,_⟩=>by rw[Hg] at h;cases h⟩⟩ (λi J U _ x=>by obtain⟨_,_,_,_,_,_,r,_⟩:=x;exact SqL.of (r.kp _ _ k1 b1.at_)) ?_ ?_
  ·rintro i v J H5 hv ⟨ws,ms,D,x4,x5,rfl,st,hD⟩;obtain⟨z,hz,rfl⟩:=refAt hv;have a2:=Af hz;obtain⟨p,a3,a4⟩:=a7.is.mp (Ac.mpr ⟨z,a2,rfl⟩);have f4:(cs.map cont).take (i+1)=(cs.map cont).take i++[cont z]:=by rw[Bc,Am,hz];rfl
   have f5:(cs.map cont)[i]?=some (cont z):=by rw[Am,hz];rfl
   have b8:∀y∈cont z,y∉D:=λy Y f6=>by
    obtain⟨xs,a8,b9⟩:=(hD y).mp f6;obtain⟨q,_,d0⟩:=a7.is.mp (Ii a8);obtain⟨i1,h1⟩:=Bl.mp Y;obtain⟨i2,h2⟩:=Bl.mp b9;have f7:=ChnP.one F a4 d0 h1 h2;exact q3s a7.nd f5 a8 (by rw[a4.o.headD,d0.o.headD,f7])
   have c0:∀y∈cont z,y∈rows.map (·.1):=a4.o.in_ F a3.1;have k2:=f3 st.kp z a2;refine⟨_,rfl,z.1,_,rfl,k2.at_,?_⟩;refine z8m (xs:=z.2.map λz=>V.ref z.1) (λj J U=>∃ws ms x5,J=[some (.ref h),some (.ref M),some (.ref D0),some (.ref L),some (.ref z.1),x5,none,none]/\RSt H4 U L bl rows W ((cont z).drop ((cont z).length-j)++D) none 0 ws ms) ⟨ws,ms,_,rfl,by rw[La,Qj];exact st⟩ (λj J U x=>by obtain⟨_,_,_,_,r⟩:=x;exact SqL.of (f3 r.kp z a2).at_) ?_ ?_
   ·rintro j v J H6 hv ⟨d1,f8,x5,rfl,I⟩;rw[<- Qn,Am] at hv;obtain⟨u,hu,rfl⟩:∃u,z.2.reverse[j]?=some u/\v=.ref u.1:=by
     cases e:z.2.reverse[j]? with
     |none=>rw[e] at hv;cases hv
     |some u=>rw[e] at hv;cases hv;exact⟨u,rfl,rfl⟩
    obtain⟨hj,c1⟩:=x4i hu;have cl:(cont z).length=z.2.length:=Aa _;have O:(cont z)[(cont z).length-1-j]?=some u.2:=by rw[cl,Am,c1];rfl
    have hj':j<(cont z).length:=by rw[cl];exact hj
    have b2:=z2y hj' O;have b3:=Af O;have B:=c0 u.2 b3;have k3:=f3 I.kp z a2;have h7:=(k3.pr u (Af c1)).1;have a0:u.2∉(cont z).drop ((cont z).length-j)++D:=λZ=>by
     rcases Ao.mp Z with Z|Z
     ·have c2:=a4.o.nd.sublist (Vf ((cont z).length-(j+1)) _);rw[b2] at c2;exact(Bu.mp c2).1 Z
     ·exact b8 u.2 b3 Z
    have f9:plc W u.2≠u.2:=by
     by_cases e:(cont z).length-1-j=0
     ·rw[e,a4.o.hd] at O;cases O;exact a3.2
     ·have g0:=(Aj.mp O).1;have e9:(cont z).length-1-j=((cont z).length-1-j-1)+1:=by lia
      rw[e9] at O;exact(q7e hl gW.ap (a4.o.st (Ci (show(cont z).length-1-j-1<(cont z).length by lia)) O)).2.2
    obtain⟨e2,dg,g1⟩:=b7 (f1 I.kp) B h7;have c3:d1.length<=30:=by rw[I.len];exact a9 I.nd I.st.sub
    refine⟨_,rfl,_,rfl,_,rfl,_,rfl,D0,_,rfl,dg,u.1,e2,L,bl,rows,d1,f8,u.2,_,rfl,I.rw,by lia,h7,g1,B,q1a hl gW.gw B,(q0z hl gW.gw B).1,λT' H7 k4 k5=>?_⟩;have nd':(u.2::((cont z).drop ((cont z).length-j)++D)).Nodup:=Bu.mpr ⟨a0,I.nd⟩;obtain⟨a5,b4,S⟩:=I.put gW (by lia) k4 k5 (D':=u.2::((cont z).drop ((cont z).length-j)++D)) (a':=none) (n':=0) (I.st.add B (λy Y=>by
     rcases a4.o.next O Y with h|⟨_,h⟩
     ·left;refine Cp _ ?_;have e9:(cont z).length-1-j+1=(cont z).length-j:=by lia
      rw[e9] at h;exact Bl.mpr ⟨0,by rw[Oy];exact h⟩
     ·rw[h] at Y;exact absurd Y (a4.st _)) (λ_ _ e=>nomatch e)) B (z2x Au) (f2 B) (λy Y n=>q7f n) (by rw[q5l a0];exact f9) nd' (by rw[I.len,Cj])
    exact⟨a5,b4,_,rfl,by rw[b2];exact S⟩
   ·rintro J H6 ⟨d1,f8,x5,rfl,I⟩;rw[show(cont z).length-(z.2.map λz=>V.ref z.1).length=0 by rw[Aa,Aa];lia,Lm] at I;refine⟨d1,f8,_,_,_,rfl,I,λx=>?_⟩;rw[Ao,hD x,f4];constructor
    ·rintro(h|⟨xs,h1,h2⟩)
     ·exact⟨_,Bo _ (Ak.mpr rfl),h⟩
     ·exact⟨xs,Cp _ h1,h2⟩
    ·rintro⟨xs,h1,h2⟩;rcases Ao.mp h1 with h1|h1
     ·exact .inr ⟨xs,h1,h2⟩
     ·rw[Ak.mp h1] at h2;exact .inl h2
  rintro J H5 ⟨ws,ms,D,x4,x5,rfl,st,hD⟩;rw[Aa,<- Aa (f:=cont),Ba] at hD;have G5:=G2.same (f1 st.kp);subst f0;refine⟨_,rfl,_,rfl,h,d,M,bl,rows,zs,rfl,G5,λR2 rs H6 k6 k7 s6 b5 a1 _=>?_⟩;rw[hW] at a1;have I:=st.same s6;have k8:=I.rw.ml.at_;have k9:H5 L≠none:=λe=>by have:=st.rw.ml.at_;rw[e] at this;cases this
  have d4:∀{c:Addr},H5 c=none->c≠L:=λ{c} e z=>k9 (by rw[<- z];exact e);have c4:∀{U:Hp},(∀c u,c≠L->H6 c=some u->U c=some u)->Same H2 U:=λ{U} kp c u e=>kp _ _ (q0q e hL) (s6 _ _ (f1 st.kp _ _ e));have d2:∀{U:Hp},(∀c u,c≠L->H6 c=some u->U c=some u)->∀z∈rs,PL U z.1 z.2:=λ{U} kp z hz=>⟨kp _ _ (d4 (k7 z hz)) (b5.pr z hz).at_,λu hu=>⟨kp _ _ (q0q (((b5.pr z hz).pr u hu).1) k8) ((b5.pr z hz).pr u hu).1,((b5.pr z hz).pr u hu).2⟩⟩
  have h9:RSt H6 H6 L bl rows W D none 0 ws ms:=⟨λc u _ e=>e,I.rw,I.hs,I.st,I.nd,I.len⟩
  have i0:R2≠L:=d4 k6;refine .inl ⟨R2,rfl,⟨_,SqL.of b5.at_⟩,?_⟩;refine q3m (λi J U=>∃ws ms D2 x5 x6 x7,J=[some (.ref h),some (.ref M),some (.ref D0),some (.ref L),x4,x5,x6,x7]/\RSt H6 U L bl rows W D2 none i ws ms/\i<=rs.length/\∀x,x∈D2↔x∈D\/∃xs∈(rs.map cont).take i,x∈xs) ⟨ws,ms,D,_,_,_,rfl,h9,Bv _,λx=>⟨.inl,λh=>h.elim id λ⟨xs,h,_⟩=>by rw[Hg] at h;cases h⟩⟩ (λi J U _ x=>by obtain⟨_,_,_,_,_,_,_,r,_⟩:=x;exact SqL.of (r.kp _ _ i0 b5.at_)) ?_ ?_
  ·rintro i v J H7 hv ⟨a5,b4,D2,x5,x6,x7,rfl,S,_,c5⟩;obtain⟨z,hz,rfl⟩:=refAt hv;have a2:=Af hz;have l0:=(Aj.mp hz).1;obtain⟨p,rp⟩:=a1.is.mp (Ac.mpr ⟨z,a2,rfl⟩);have f4:(rs.map cont).take (i+1)=(rs.map cont).take i++[cont z]:=by rw[Bc,Am,hz];rfl
   have f5:(rs.map cont)[i]?=some (cont z):=by rw[Am,hz];rfl
   obtain⟨v1,l1⟩:=rp.dom;have a3:p∈rows.map (·.1):=((q1f hl).mp l1).1;have c0:∀y∈cont z,y∈rows.map (·.1):=rp.o.in_ F a3;have b8:∀y∈cont z,y∉D2:=λy Y f6=>by
    rcases(c5 y).mp f6 with h|⟨xs,a8,b9⟩
    ·obtain⟨xs,a8,b9⟩:=(hD y).mp h;obtain⟨q,_,d0⟩:=a7.is.mp a8;exact z6w F d0 rp b9 Y
    ·obtain⟨q,rq⟩:=a1.is.mp (Ii a8);have f7:=rp.one rq F Y b9;exact q3s a1.nd f5 a8 (by rw[rp.o.headD,rq.o.headD,f7])
   have g2:=d2 S.kp z a2;have rl:rs.length<=30:=by
    have:=q8s a1.nd (m:=rows.map (·.1)) λx hx=>by
     obtain⟨y,Y,rfl⟩:=Ac.mp hx;obtain⟨q,rq⟩:=a1.is.mp Y;rw[rq.o.headD];obtain⟨v2,g3⟩:=rq.dom;exact((q1f hl).mp g3).1
    rw[Aa,Aa,Aa] at this;lia
   have l2:a5.length<=60:=by have:=S.len;have:=a9 S.nd S.st.sub;lia
   have i3:z.2≠[]:=λe=>by have:=rp.o.hd;unfold cont at this;rw[e] at this;cases this
   obtain⟨u0,zr,ez⟩:∃u0 zr,z.2=u0::zr:=by
    cases e:z.2 with
    |nil=>exact absurd e i3
    |cons a l=>exact⟨a,l,rfl⟩
   have l3:u0.2=p:=by have:=rp.o.hd;unfold cont at this;rw[ez] at this;exact Bx this
   have d5:atI (z.2.map λz=>V.ref z.1) 0=some (.ref u0.1):=by rw[ez];exact at_0
   have i4:u0∈z.2:=by rw[ez];exact Au
   have g4:=(g2.pr u0 i4).1;rw[l3] at g4;have okp:=h6 p a3;have g5:p∈cont z:=Af rp.o.hd;have d3:=b8 p g5;have dd:IsD rows p.dropLast:=by obtain⟨r',b6,e⟩:=Ac.mp a3;rw[<- e];exact hl.dr r' b6
   have l5:p.dropLast.length<=5:=by rw[Bf];have:p.length<=6:=okp.few;lia
   refine⟨_,rfl,.inl ⟨z.1,_,0,_,rfl,rfl,SqL.of g2.at_,d5,_,rfl,_,rfl,u0.1,_,rfl,g4,λt1 H8 s8 h8=>?_⟩⟩;rw[(q0w okp.ne).1] at h8;have g6:=S.same s8;have l4:=g2.same s8;refine⟨_,rfl,_,rfl,.inl ⟨z.1,_,0,_,rfl,rfl,SqL.of l4.at_,d5,_,rfl,_,rfl,_,rfl,_,rfl,t1,D0,L,bl,rows,a5,b4,qs,p.dropLast,rfl,g6.rw,few,h8,dd,l5,pd.same (c4 g6.kp),kq,λn H9 s9 l6 i5=>?_⟩⟩;refine⟨by show 1<=sizeLine;decide,λt2 l8=>?_⟩;have sX:=(Same.refl H9).new (o:=.tup [.str (mk n)]) l8;refine⟨t1,t2,_,_,rfl,rfl,sX _ _ (s9 _ _ h8),q0b,by rw[q0y];exact small (by show _+1<=_;lia),λe3 HA sA hA _=>?_⟩;have i6:HA e3=some (.tup (vP (p.dropLast++[n]))):=by rw[hA];show _=some (HO.tup ((_++[n]).map _));rw[Ae];rfl
   have i7:=(s9.trans sX).trans sA;have c6:=g6.same i7;generalize d6:p.dropLast++[n]=sp at i6 i5;have d7:okP sp:=by
    rw[<- d6];refine⟨by simp,by rw[An];show _+1<=6;lia,λm Z=>?_⟩;rcases Ao.mp Z with Z|Z
    ·exact okp.all m (Ny _ Z)
    ·rw[Ak.mp Z];exact l6
   have g7:sp.dropLast=p.dropLast:=by rw[<- d6,Bk]
   have hsp':∀u∈rows.map (·.1),fold bl (stO (plc W) D2 none u)≠fold bl sp:=λu hu=>by rw[<- S.hs u hu];exact i5 u hu
   have i8:p≠sp:=λe=>hsp' p a3 (by rw[q5l d3,<- e]);refine⟨u0.1,e3,L,bl,rows,a5,b4,p,sp,rfl,c6.rw,by lia,i7 _ _ (s8 _ _ g4),i6,a3,d7,by rw[g7];exact dd,λT' HB l9 m0=>?_⟩;obtain⟨m1,m2,i9⟩:=c6.put gW (by lia) l9 m0 (D':=D2) (a':=some (p,sp)) (n':=i+1) (c6.st.aside d3 hsp') a3 (x0h d3) ⟨by obtain⟨r',b6,e⟩:=Ac.mp a3;exact⟨r'.2,by rw[<- e];exact b6,.inl g7⟩,d7,by show IsD rows sp.dropLast;rw[g7];exact dd⟩ (λu hu nn=>z0x nn) (by rw[q5l d3];exact λe=>i8 e.symm) c6.nd (by have:=c6.len;lia);have m3:=d2 i9.kp z a2;have n2:∀{y:Pth},y∈cont z->fold bl (plc W y)≠fold bl sp:=λ{y} Y=>by
    obtain⟨j,hj⟩:=Bl.mp Y;have m4:∃v,nx bl (rows.map (·.1)) (plc W) y=some v/\v∈cont z:=by
     cases e:(cont z)[j+1]? with
     |some v=>exact⟨v,rp.o.st hj e,Af e⟩
     |none =>
      obtain⟨w',c7,a6⟩:=rp.r;rw[<- q3k hj e c7] at a6;exact⟨p,a6,g5⟩
    obtain⟨v,hv,m5⟩:=m4;have j0:=(q1f hl).mp hv;rw[<- j0.2.2.2.1];have:=hsp' v j0.2.2.1;rw[q5l (b8 v m5)] at this;exact this
   refine⟨_,rfl,z.1,_,rfl,m3.at_,?_⟩;have cl:(cont z).length=z.2.length:=Aa _;refine z8m (xs:=z.2.map λz=>V.ref z.1) (λj J U=>∃ws ms x5,J=[some (.ref h),some (.ref M),some (.ref D0),some (.ref L),x4,x5,some (.ref z.1),some (.ref t1)]/\RSt H6 U L bl rows W ((cont z).drop ((cont z).length-j)++D2) (if j<(cont z).length then some (p,sp) else none) (i+1) ws ms) ⟨m1,m2,_,rfl,by rw[La,Qj,if_pos (by rw[cl];exact Bi.mpr i3)];exact i9⟩ (λj J U x=>by obtain⟨_,_,_,_,r⟩:=x;exact SqL.of (d2 r.kp z a2).at_) ?_ ?_
   ·rintro j v J HC hv ⟨c8,g8,x5,rfl,X⟩;rw[<- Qn,Am] at hv;obtain⟨u,hu,rfl⟩:∃u,z.2.reverse[j]?=some u/\v=.ref u.1:=by
     cases e:z.2.reverse[j]? with
     |none=>rw[e] at hv;cases hv
     |some u=>rw[e] at hv;cases hv;exact⟨u,rfl,rfl⟩
    obtain⟨hj,c1⟩:=x4i hu;have O:(cont z)[(cont z).length-1-j]?=some u.2:=by rw[cl,Am,c1];rfl
    have hj':j<(cont z).length:=by rw[cl];exact hj
    rw[if_pos hj'] at X;have b2:=z2y hj' O;have b3:=Af O;have B:=c0 u.2 b3;have m6:=d2 X.kp z a2;have j1:=(m6.pr u (Af c1)).1;have a0:u.2∉(cont z).drop ((cont z).length-j)++D2:=λZ=>by
     rcases Ao.mp Z with Z|Z
     ·have c2:=rp.o.nd.sublist (Vf ((cont z).length-(j+1)) _);rw[b2] at c2;exact(Bu.mp c2).1 Z
     ·exact b8 u.2 b3 Z
    obtain⟨e2,dg,g1⟩:=b7 (c4 X.kp) B j1;have c3:c8.length<=70:=by have:=X.len;have:=a9 X.nd X.st.sub;lia
    refine⟨_,rfl,_,rfl,_,rfl,_,rfl,D0,_,rfl,dg,u.1,e2,L,bl,rows,c8,g8,u.2,_,rfl,X.rw,by lia,j1,g1,B,q1a hl gW.gw B,(q0z hl gW.gw B).1,λT2 HD j2 j3=>?_⟩;have nd':(u.2::((cont z).drop ((cont z).length-j)++D2)).Nodup:=Bu.mpr ⟨a0,X.nd⟩;have b0:∀{y:Pth},nx bl (rows.map (·.1)) (plc W) u.2=some y->y∈(cont z).drop ((cont z).length-j)++D2\/y=p:=λ{y} Y=>by
     rcases rp.o.next O Y with h|⟨_,h⟩
     ·left;refine Cp _ ?_;have e9:(cont z).length-1-j+1=(cont z).length-j:=by lia
      rw[e9] at h;exact Bl.mpr ⟨0,by rw[Oy];exact h⟩
     ·exact .inr h
    have c9:c8.length+1=(u.2::((cont z).drop ((cont z).length-j)++D2)).length+(i+1):=by rw[X.len,Cj];lia
    by_cases up:u.2=p
    ·have m7:j+1=(cont z).length:=by
      have:=x2y rp.o.nd O (by rw[up];exact rp.o.hd);lia
     obtain⟨g9,h0,h3⟩:=X.put gW (by lia) j2 j3 (D':=u.2::((cont z).drop ((cont z).length-j)++D2)) (a':=none) (n':=i+1) (by
      have s9:=X.st;rw[up] at B ⊢;refine s9.home B λy Y=>?_;rw[<- up] at Y;rcases b0 Y with h|h
      ·exact h
      ·rw[h,up] at Y;exact absurd rfl ((q1f hl).mp Y).2.2.2.2) B (z2x Au) (f2 B) (λy Y nn=>by rw[q7f nn,up] at *;exact(z0x nn).symm) (by
       rw[up] at a0 ⊢;rw[x0h a0];exact λe=>n2 g5 (by rw[e])) nd' c9
     exact⟨g9,h0,_,rfl,by rw[b2,if_neg (by lia)];exact h3⟩
    ·have g0:j+1<(cont z).length:=by
      by_cases e:j+1=(cont z).length
      ·have e9:(cont z).length-1-j=0:=by lia
       rw[e9,rp.o.hd] at O;cases O;exact absurd rfl up
      ·lia
     have f9:plc W u.2≠u.2:=by
      cases e:(cont z)[(cont z).length-1-j+1]? with
      |some v=>exact((q1f hl).mp (rp.o.st O e)).2.1
      |none =>
       obtain⟨w',c7,a6⟩:=rp.r;rw[<- q3k O e c7] at a6;exact((q1f hl).mp a6).2.1
     obtain⟨g9,h0,h3⟩:=X.put gW (by lia) j2 j3 (D':=u.2::((cont z).drop ((cont z).length-j)++D2)) (a':=some (p,sp)) (n':=i+1) (X.st.add B (λy Y=>(b0 Y).imp id λh=>⟨sp,by rw[h]⟩) (λr' o0 e=>by injection e with e;injection e with e1 e2;subst e1 e2;exact⟨up,n2 b3⟩)) B (z2x Au) (f2 B) (λy Y nn=>q7f nn) (by rw[z0x up,q5l a0];exact f9) nd' c9;exact⟨g9,h0,_,rfl,by rw[b2,if_pos g0];exact h3⟩
   ·rintro J HC ⟨c8,g8,x5,rfl,X⟩;rw[show(cont z).length-(z.2.map λz=>V.ref z.1).length=0 by rw[Aa,Aa];lia,Lm,if_neg (by rw[Aa,Aa];lia)] at X;refine⟨c8,g8,_,_,_,_,rfl,X,l0,λx=>?_⟩;rw[Ao,c5 x,f4];constructor
    ·rintro(h|h|⟨xs,h1,h2⟩)
     ·exact .inr ⟨_,Bo _ (Ak.mpr rfl),h⟩
     ·exact .inl h
     ·exact .inr ⟨xs,Cp _ h1,h2⟩
    ·rintro(h|⟨xs,h1,h2⟩)
     ·exact .inr (.inl h)
     ·rcases Ao.mp h1 with h1|h1
      ·exact .inr (.inr ⟨xs,h1,h2⟩)
      ·rw[Ak.mp h1] at h2;exact .inl h2
  ·rintro J H7 ⟨a5,b4,D2,x5,x6,x7,rfl,S,_,c5⟩;rw[Aa,<- Aa (f:=cont),Ba] at c5;have j4:∀x,x∈D2↔mvOf rows W x:=λx=>by
    rw[c5 x,hD x];constructor
    ·rintro(⟨xs,h1,h2⟩|⟨xs,h1,h2⟩)
     ·obtain⟨p,Z,ch⟩:=a7.is.mp h1;obtain⟨j,hj⟩:=Bl.mp h2;cases j with
      |zero=>rw[ch.o.hd] at hj;cases hj;exact Z
      |succ j =>
       have g0:=(Aj.mp hj).1;obtain⟨u,hu⟩:=q6x ch.o.toTrk j (by lia);exact(q7e hl gW.ap (ch.o.st hu hj)).2
     ·obtain⟨p,rp⟩:=a1.is.mp h1;obtain⟨j,hj⟩:=Bl.mp h2;have:∃v,nx bl (rows.map (·.1)) (plc W) x=some v:=by
       cases e:xs[j+1]? with
       |some v=>exact⟨v,rp.o.st hj e⟩
       |none =>
        obtain⟨w',c7,a6⟩:=rp.r;rw[<- q3k hj e c7] at a6;exact⟨p,a6⟩
      obtain⟨v,hv⟩:=this;exact(q7e hl gW.ap hv).1
    ·intro Z;rcases covers F Z.1 with⟨m,ys,rp,hx⟩|⟨s',ys,o1,m8,ch,hx⟩
     ·exact .inr ⟨ys,a1.is.mpr ⟨m,rp⟩,hx⟩
     ·refine .inl ⟨ys,a7.is.mpr ⟨s',?_,ch⟩,hx⟩;rcases m8 with rfl|⟨y,Y⟩
      ·exact Z
      ·exact(q7e hl gW.ap Y).1
   have m9:=c4 S.kp;have c3:a5.length=D2.length+rs.length:=by have:=S.len;rw[Aa] at this;exact this
   have rl:rs.length<=30:=by
    have:=q8s a1.nd (m:=rows.map (·.1)) λx hx=>by
     obtain⟨y,Y,rfl⟩:=Ac.mp hx;obtain⟨q,rq⟩:=a1.is.mp Y;rw[rq.o.headD];obtain⟨v2,g3⟩:=rq.dom;exact((q1f hl).mp g3).1
    rw[Aa,Aa,Aa] at this;lia
   have ld:=a9 S.nd S.st.sub;subst d8;refine⟨_,rfl,k L a5 H7 (e5.free hL) (e5.trans m9) S.rw.ml (by lia) ?_⟩;rw[hW];refine⟨⟨b4,S.rw.w,λu hu=>?_⟩,D2,rs.map cont,S.nd,j4,a1,by rw[Aa,Aa];exact c3⟩;rw[S.hs u hu];by_cases e:u∈D2
   ·exact z2x e
   ·rw[q5l e];by_cases e2:plc W u=u
    ·exact e2.symm
    ·exact absurd ((j4 u).mpr ⟨hu,e2⟩) e
section
variable{bl:Bool}{rows:List Rw}{ms ms':List Mv}{p x:Pth}
theorem q9r{f j:Pth->Pth}(hl:Hl bl rows)(g:GoodW rows ms)(e:∀u∈rows.map (·.1),plc ms u=j u):∀{k} {x},M6 rows k x->thenP j (k+1) x=thenP (plc ms) (k+1) x
 |0,x,h=>by rw[h.zero hl];rfl
 |k+1,x,h=>by
  unfold thenP;by_cases ex:x=[]
  ·rw[if_pos ex,if_pos ex]
  ·rw[if_neg ex,if_neg ex,<- e x (h.in_ ex),q9r (f:=f) hl g e (h.step hl g ex)]
structure Mve (bl) (rows) (ms ms') (p):Prop where
 g:Gd bl rows ms
 g':Gd bl rows ms'
 hp:p∈rows.map (·.1)
 ho:∀x,x≠p->plc ms' x=plc ms x
 hn:plc ms' p≠plc ms p
noncomputable abbrev mvTo(ms ms':List Mv)(p:Pth):Pth:=tn ms (plc ms' p).dropLast++[(plc ms' p).getLastD []]
def z0y(hl:Hl bl rows)(g:Gd bl rows ms)(f:x∈rows.map (·.1)):(tn ms x).dropLast=tn ms (plc ms x).dropLast/\(tn ms x).getLastD []=(plc ms x).getLastD []/\M6 rows 6 (plc ms x).dropLast:=by
 obtain⟨r,h,rfl⟩:=Ac.mp f;obtain⟨e,hd,j⟩:=q1m hl g.gw h;have e':tn ms r.1=tn ms (plc ms r.1).dropLast++[(plc ms r.1).getLastD []]:=e;rw[e',Bk,Ce];exact⟨rfl,rfl,m6_d hd (by lia)⟩
def Mve.to6(hl:Hl bl rows)(m:Mve bl rows ms ms' p):IsD rows (plc ms' p).dropLast/\M6 rows 6 (plc ms' p).dropLast:=by
 have h:=(q0z hl m.g'.gw m.hp).1;have ok:=q1a hl m.g'.gw m.hp;exact⟨h,m6_d h (by rw[Bf];have:(plc ms' p).length<=6:=ok.few;lia)⟩
def Mve.free(hl:Hl bl rows)(m:Mve bl rows ms ms' p)(f:x∈rows.map (·.1))(h:(tn ms x).dropLast=(mvTo ms ms' p).dropLast)(j:(if bl then lowN ((tn ms x).getLastD [])=lowN ((mvTo ms ms' p).getLastD []) else(tn ms x).getLastD []=(mvTo ms ms' p).getLastD [])):x=p:=by
 by_cases e:x=p
 ·exact e
 obtain⟨q,u,v⟩:=z0y hl m.g f;unfold mvTo at h j;rw[Bk,q] at h;rw[Ce,u] at j;have B:=q1r hl m.g.gw m.g.ap v (m.to6 hl).2 h;have ap':((rows.map (·.1)).map λp=>fold bl (plc ms' p)).Nodup:=m.g'.ap;refine q0u ap' f m.hp ?_;show fold bl (plc ms' x)=fold bl (plc ms' p);rw[m.ho x e];exact(q2i (q1a hl m.g.gw f).ne (q1a hl m.g'.gw m.hp).ne).mpr ⟨B,j⟩
end
structure CallsLet (P) (w) (K) (mg) (base):Prop where
 fold:Cal P w K mg base "_law_fold" 1 Zd spFold
structure NwD (H) (N) (ns) (rows:List Rw) (f:Pth->Pth):Prop where
 pd:PDt H N ns
 e:ns.map (·.2)=rows.map λr=>(r.1,f r.1)
def NwD.same(x:NwD H N ns rows f)(s:Same H H'):NwD H' N ns rows f:=⟨x.pd.same s,x.e⟩
noncomputable def spLet:Sp:=λvs H Q _=>∃N Mk a b bl rows ms ms' p ns,vs=[.ref N,.ref Mk,.ref a,.ref b,.bl bl]/\Hl bl rows/\rows.length<=30/\NwD H N ns rows (tn ms)/\H Mk=some (dR (rows.map rR))/\Mve bl rows ms ms' p/\H a=some (.tup (vP (tn ms p)))/\H b=some (.tup (vP (mvTo ms ms' p)))/\∀e H',Same H H'->Q (.ref e) H'
noncomputable abbrev x0i:Stmt:=top 55
def sc_let:FnScope ["_law_now", "_law_marks", "_law_path", "_law_place", "_law_blind", "_law_thing", "_law_drawer", "_law_first", "_law_here"] Z6 (defScope x0i):=by trivial
def ok_let(D:Df K mg "_law_let" x0i Z6)(T:Txt mg)(C:CallsLet P w K mg base):Cal P w K mg base "_law_let" 2 Z6 spLet:=by
 refine D.cal sc_let (λvs H Q E h=>?_) (λf f7 A outer s H vs Q E R h=>?_)
 ·obtain⟨N,Mk,a,b,bl,rows,q,j,p,ns,rfl,_⟩:=h;rfl
 ·obtain⟨N,Mk,a,b,bl,rows,q,j,p,ns,rfl,hl,f8,nw,a9,m,ha,hb,k⟩:=h;refine⟨_,(q0c (q0i (i:=5) sc_let.nd rfl (by trivial) q6q) (q0c (q0i (i:=6) sc_let.nd rfl (by trivial) (q5c (eq_k K rfl R) (q0p (sl_k K rfl) (pv 3) q0r (q0s (q1i q0t q0g))) (q1j q0e) (nomark _))) (q0c (q3y H rfl (q1k Br rfl (@q4l _ _ _ _ K rfl (pv 0)) (q0h (i:=7) sc_let.nd rfl (by trivial)) (q3e (q1b (q0n (eq_k K rfl R) (q0v (q1c R) (pv 0) (pv 7) (λ_ _=>rfl)) (pv 2) (nomark _)) (q0f (q0i (i:=5) sc_let.nd rfl (by trivial) (pv 7))) q0m) (q0f (q1b (pt_j (@PW.pt _ _ _ (q2z (q0n (eq_k K rfl R) (q0v (q1c R) (pv 0) (pv 7) (λ_ _=>rfl)) (q0p (sl_k K rfl) (pv 3) q0r (q0s (q1i q0t q0g))) (nomark _)) (q2a (q1z (q5m (q0v (q1c R) (pv 1) (pv 7) (λ_ _=>rfl)))))))) (q0f (q0i (i:=6) sc_let.nd rfl (by trivial) q4i)) q0m))))) (q0c (q1b (pt_j (@PW.pt _ _ _ (z7h (q1z (q5m (pv 5))) (z7h (z1c (@q7u _ _ _ K rfl (pv 6) (λ_=>rfl))) (z4n (pt_j (@PW.pt _ _ _ (q2z (q1z (q5m (q0v (q1c R) (pv 1) (pv 5) (λ_ _=>rfl)))) (q2a (q0n (ne_k K rfl R) (q0p (sl_k K rfl) (pv 3) q0r (q0s (q1i q0t q0g))) (q0p (sl_k K rfl) (pv 2) q0r (q0s (q1i q0t q0g))) (nomark _))))))))))) (q0f (q0o q6q)) q0m) (q0c (q3y H rfl (q1k Br rfl (@q4l _ _ _ _ K rfl (pv 0)) (q0h (i:=7) sc_let.nd rfl (by trivial)) (q0c (q0i (i:=8) sc_let.nd rfl (by trivial) (q0v (q1c R) (pv 0) (pv 7) (λ_ _=>rfl))) (q0f (q1b (pt_j (@PW.pt _ _ _ (q2z (q0n (eq_k K rfl R) (q0p (sl_k K rfl) (pv 8) q0r (q0s (q1i q0t q0g))) (q0p (sl_k K rfl) (pv 3) q0r (q0s (q1i q0t q0g))) (nomark _)) (q2a (q0n (eq_k K rfl R) (pe_c C.fold R (q0a (q1q (ix_k K rfl) (pv 8) (q1i q0t q0g) (λ_ _=>rfl)) (q0a (pv 4) q0e))) (pe_c C.fold R (q0a (q1q (ix_k K rfl) (pv 3) (q1i q0t q0g) (λ_ _=>rfl)) (q0a (pv 4) q0e))) (nomark _)))))) (q0f (q1b (pt_j (@PW.pt _ _ _ (z7h (q0n (ne_k K rfl R) (pv 7) (pv 5) (nomark _)) (z4n (q0n (eq_k K rfl R) (pv 8) (pv 3) (nomark _)))))) (q0f (q0o q6q)) q0m)) q0m))))) (q0f (q0o (pv 5)))))))),?_⟩;have okp:=z2w hl m.g m.hp;have M:=x3c hl m.g m.g' m.hp;obtain⟨e8,f0⟩:=m.to6 hl;have c9:Mk≠N:=λz=>by
   have e:=nw.pd.at_;rw[<- z,a9] at e;injection e with e;injection e with e;cases rows with
   |nil=>have:=m.hp;cases this
   |cons r rows =>
    have e2:=nw.e;cases ns with
    |nil=>cases e2
    |cons n ns =>
     injection e with e3 _;injection e3 with _ e4;have:mV r.2=V.ref n.1:=e4;cases h:r.2<;>rw[h] at this<;>cases this
  have aN:∀{c:Addr} {xs:List V},H c=some (.tup xs)->c≠N:=λ{c xs} e z=>by rw[z,nw.pd.at_] at e;cases e
  have qd:(mvTo q j p).dropLast=tn q (plc j p).dropLast:=Bk;obtain⟨c1,c2⟩:=q0w M.ne;have d0:((ns.map (·.2)).map (·.1)).Nodup:=by rw[nw.e,Ah];exact hl.paths
  have nl:ns.length=rows.length:=by have:=congrArg List.length nw.e;rw[Aa,Aa] at this;exact this
  have b7:∀{i:Nat} {y:Addr×Mv},ns[i]?=some y->∃r,rows[i]?=some r/\y.2=(r.1,tn q r.1):=λ{i y} h=>by
   have e:=congrArg (λl=>l[i]?) nw.e;simp only[Am] at e;rw[h] at e;cases e2:rows[i]? with
   |none=>rw[e2] at e;cases e
   |some r=>rw[e2] at e;exact⟨r,rfl,Bx e⟩
  have inj:∀{u v:Pth},M6 rows 6 u->M6 rows 6 v->tn q u=tn q v->u=v:=λhu hv e=>q1r hl m.g.gw m.g.ap hu hv e;refine⟨_,rfl,_,rfl,_,rfl,.inr (.inr ⟨b,_,rfl,SqT.of hb,c2,λt1 f1=>?_⟩)⟩;rw[c1];have s1:=(Same.refl H).new (o:=.tup (vP (mvTo q j p).dropLast)) f1;have ht1':upd H t1 (.tup (vP (mvTo q j p).dropLast)) t1=some (.tup (vP (mvTo q j p).dropLast)):=q0b;generalize upd H t1 (.tup (vP (mvTo q j p).dropLast))=H1 at s1 ht1';refine⟨by show 0<=sizeLine;decide,λt0 d4=>?_⟩;have s2:=s1.new (o:=.tup []) d4;have ht1'':=(Same.refl H1).new (o:=.tup []) d4 _ _ ht1';have ht0':upd H1 t0 (.tup []) t0=some (.tup (vP [])):=q0b;generalize upd H1 t0 (.tup [])=H2 at s2 ht1'' ht0';refine q0x ht1'' ht0' (q1g M.low) (λ_ h=>nomatch h) ?_;have d5:(plc j p).dropLast=[]->decide ((mvTo q j p).dropLast=[])=true:=λe=>decide_eq_true (by rw[qd,e];rfl);generalize decide ((mvTo q j p).dropLast=[])=b0 at d5;have a4:=nw.same s2;refine⟨N,(λo v e=>by rw[nw.pd.at_] at e;cases e),?_⟩;refine⟨_,rfl,N,_,rfl,a4.pd.at_,λob=>?_⟩;refine q2s (λi G J=>∃th dr x7,G=[some (.ref N),some (.ref Mk),some (.ref a),some (.ref b),some (.bl bl),some th,some (.bl dr),x7,none]/\J N=some (.frz ob (qR ns))/\(∀c u,c≠N->H2 c=some u->J c=some u)/\((∃e,th=.ref e/\J e=some (.tup (vP p)))\/(th=.non/\p∉(rows.take i).map (·.1)))/\((plc j p).dropLast=[]->dr=true)/\(((plc j p).dropLast,none)∈rows.take i->dr=true))
   ⟨.non,b0,none,rfl,q0b,λc u B e=>by rw[q0d B];exact e,.inr ⟨rfl,by rw[Hg];exact Ea⟩,d5,λh=>by rw[Hg] at h;cases h⟩ (λi G J x=>by obtain⟨_,_,_,_,h,_⟩:=x;exact h) ?_ ?_
  ·rintro i ky v pb G H3 b8 I ⟨th,dr,x7,rfl,a5,kp,b1,b9,b2⟩;obtain⟨y,hy,rfl,rfl⟩:∃y,ns[i]?=some y/\ky=kP y.2.1/\v=.ref y.1:=keyAt b8;rw[q1w] at I;obtain⟨r,b4,ey⟩:=b7 hy;have a6:y.2.1=r.1:=by rw[ey]
   have c0:y.2.2=tn q r.1:=by rw[ey]
   rw[a6] at I;have Y:=Af b4;have Z:r.1∈rows.map (·.1):=Ac.mpr ⟨r,Y,rfl⟩;have S:=Af hy;have O:=z2w hl m.g Z;have a0:H3 y.1=some (.tup (vP (tn q r.1))):=by
    rw[<- c0];exact kp _ _ (q0q (a4.pd.pr y S) a4.pd.at_) (a4.pd.pr y S)
   have dg:=q8i (b:=pb) (.inr ⟨ob,a5⟩) d0 S (by rw[a6];exact I);have a3:H3 a=some (.tup (vP (tn q p))):=kp _ _ (aN ha) (s2 _ _ ha);have b3:H3 b=some (.tup (vP (mvTo q j p))):=kp _ _ (aN hb) (s2 _ _ hb);have e1:rows.take (i+1)=rows.take i++[r]:=by rw[Bc,b4];rfl
   refine⟨λG J=>∃th,G=[some (.ref N),some (.ref Mk),some (.ref a),some (.ref b),some (.bl bl),some th,some (.bl dr),some (.ref pb),none]/\J=H3/\((∃e,th=.ref e/\H3 e=some (.tup (vP p)))\/(th=.non/\p∉(rows.take (i+1)).map (·.1))),?_,?_⟩;rotate_left
   ·refine⟨_,rfl,_,rfl,N,_,rfl,dg,_,rfl,q0x a0 a3 O.low okp.low ⟨_,rfl,iteB (λB=>?_) (λB=>?_)⟩⟩
    ·have B:=inj (m6_p Z) (m6_p m.hp) (of_decide_eq_true B);exact⟨_,rfl,_,rfl,rfl,.inl ⟨pb,rfl,by rw[<- B];exact I⟩⟩
    ·have B:r.1≠p:=λz=>of_decide_eq_false B (by rw[z]);refine⟨th,rfl,rfl,b1.imp id λ⟨h1,h2⟩=>⟨h1,λh=>?_⟩⟩;rw[e1,Ae] at h;rcases Ao.mp h with h|h
     ·exact h2 h
     ·exact B (Ak.mp h).symm
   rintro G H4 ⟨d6,rfl,rfl,d7⟩;have d8:DGet H4 Mk (.ref pb) (some (mV r.2)):=by
    rw[<- q3p hl.paths (show(r.1,r.2)∈rows from Y)];exact q4h (kp _ _ c9 (s2 _ _ a9)) I
   refine⟨λW H5=>Same H4 H5/\(W=false->r≠((plc j p).dropLast,none)),?_,?_⟩
   ·rintro W H5 ⟨L,c7⟩;have fin:∀{d2:Bool},((plc j p).dropLast=[]->d2=true)->(((plc j p).dropLast,none)∈rows.take (i+1)->d2=true)->∃th dr x7,[some (V.ref N),some (.ref Mk),some (.ref a),some (.ref b),some (.bl bl),some d6,some (.bl d2),some (.ref pb),none]=[some (.ref N),some (.ref Mk),some (.ref a),some (.ref b),some (.bl bl),some th,some (.bl dr),x7,none]/\H5 N=some (.frz ob (qR ns))/\(∀c u,c≠N->H2 c=some u->H5 c=some u)/\((∃e,th=.ref e/\H5 e=some (.tup (vP p)))\/(th=.non/\p∉(rows.take (i+1)).map (·.1)))/\((plc j p).dropLast=[]->dr=true)/\(((plc j p).dropLast,none)∈rows.take (i+1)->dr=true):=λ{d2} q1 q2 =>
     ⟨d6,d2,_,rfl,L _ _ a5,λc u B e=>L _ _ (kp c u B e),d7.imp (λ⟨e,h1,h2⟩=>⟨e,h1,L _ _ h2⟩) id,q1,q2⟩
    refine ite2 (λU=>fin (λ_=>rfl) (λ_=>rfl)) (λU=>fin b9 λh=>?_);rw[e1] at h;rcases Ao.mp h with h|h
    ·exact b2 h
    ·exact absurd (Ak.mp h).symm (c7 (by simpa using U))
   ·refine⟨_,rfl,_,rfl,N,_,rfl,dg,_,rfl,_,rfl,_,rfl,.inr (.inr ⟨b,_,rfl,SqT.of b3,c2,λt3 a7=>?_⟩)⟩;rw[c1];have L:=(Same.refl H4).new (o:=.tup (vP (mvTo q j p).dropLast)) a7;refine q0x (L _ _ a0) q0b O.low (q1g M.low) ⟨_,rfl,iteB (λB=>?_) (λB=>⟨L,λ_ z=>?_⟩)⟩
    ·have d9:DGet (upd H4 t3 (.tup (vP (mvTo q j p).dropLast))) Mk (.ref pb) (some (mV r.2)):=by
      rw[<- q3p hl.paths (show(r.1,r.2)∈rows from Y)];exact q4h (L _ _ (kp _ _ c9 (s2 _ _ a9))) (L _ _ I)
     refine⟨_,rfl,_,rfl,Mk,_,rfl,d9,_,rfl,L,λe0 z=>?_⟩;have e9:r.2=none:=by rw[z]
     rw[e9] at e0;cases e0
    ·refine of_decide_eq_false B ?_;rw[qd,z]
  rintro G H3 ⟨th,dr,x7,rfl,a5,kp,b1,b9,b2⟩;rw[Aa,Aa,nl,Ba] at b1 b2;obtain⟨e,rfl,he⟩:∃e,th=.ref e/\H3 e=some (.tup (vP p)):=b1.resolve_right λh=>h.2 m.hp;have f2:dr=true:=e8.elim b9 b2;subst f2;refine⟨ob,_,a5,?_⟩;have s3:Same H2 (upd H3 N (qR ns)):=q2c a4.pd.at_ kp;have b5:upd H3 N (qR ns) e=some (.tup (vP p)):=by rw[q0d (q0q he a5)];exact he
  generalize upd H3 N (qR ns)=H4 at s3 b5;have s4:=s2.trans s3;have f3:=nw.same s4;obtain⟨rp,Z,c8⟩:=Ac.mp m.hp;refine⟨λW J=>W=false/\Same H4 J,?_,?_⟩;rotate_left
  ·refine⟨_,rfl,_,rfl,iteF ?_⟩;refine⟨_,rfl,true,rfl,iteF ?_⟩;refine⟨λW J=>W=false/\Same H4 J,(λW J z=>z),?_⟩;have d8:DGet H4 Mk (.ref e) (some (mV rp.2)):=by
    rw[<- q3p hl.paths (show(p,rp.2)∈rows by rw[<- c8];exact Z)];exact q4h (s4 _ _ a9) b5
   refine⟨_,rfl,_,rfl,Mk,_,rfl,d8,_,rfl,iteB (λB=>?_) (λB=>⟨rfl,Same.refl _⟩)⟩;have hn:rp.2=none:=mV_none.mp (of_decide_eq_true B);have e5:(p,none)∈rows:=by rw[<- c8,<- hn];exact Z
   obtain⟨c3,c4⟩:=q0w okp.ne;refine⟨_,rfl,_,rfl,_,rfl,.inr (.inr ⟨b,_,rfl,SqT.of (s4 _ _ hb),c2,λt3 a7=>?_⟩)⟩;rw[c1];have L:=(Same.refl H4).new (o:=.tup (vP (mvTo q j p).dropLast)) a7;have h3:upd H4 t3 (.tup (vP (mvTo q j p).dropLast)) t3=some (.tup (vP (mvTo q j p).dropLast)):=q0b;generalize upd H4 t3 (.tup (vP (mvTo q j p).dropLast))=H5 at L h3;refine⟨_,rfl,_,rfl,_,rfl,.inr (.inr ⟨a,_,rfl,SqT.of (L _ _ (s4 _ _ ha)),c4,λt5 f4=>?_⟩)⟩;rw[c3];have s6:=(Same.refl H5).new (o:=.tup (vP (tn q p).dropLast)) f4;refine q2q (s6 _ _ h3) q0b (q1g M.low) (q1g okp.low) ⟨_,rfl,?_,L.trans s6⟩;have f5:(mvTo q j p).dropLast=(tn q p).dropLast:=by
    rw[qd,(z0y hl m.g m.hp).1,(q0z hl m.g'.gw m.hp).2 e5,(q0z hl m.g.gw m.hp).2 e5]
   rw[decide_eq_true f5];rfl
  rintro W H5 ⟨rfl,L⟩;refine iteF ?_;have a1:=f3.same L;have e6:=s4.trans L;refine⟨N,(λo v e=>by rw[nw.pd.at_] at e;cases e),?_⟩;refine⟨_,rfl,N,_,rfl,a1.pd.at_,λb6=>?_⟩;refine q2s (λi G J=>∃x7 x8,G=[some (.ref N),some (.ref Mk),some (.ref a),some (.ref b),some (.bl bl),some (.ref e),some (.bl true),x7,x8]/\J N=some (.frz b6 (qR ns))/\(∀c u,c≠N->H5 c=some u->J c=some u))
   ⟨_,_,rfl,q0b,λc u B e=>by rw[q0d B];exact e⟩ (λi G J x=>by obtain⟨_,_,_,h,_⟩:=x;exact h) ?_ ?_
  ·rintro i ky v pb G H6 b8 I ⟨x7,x8,rfl,X,a2⟩;obtain⟨y,hy,rfl,rfl⟩:∃y,ns[i]?=some y/\ky=kP y.2.1/\v=.ref y.1:=keyAt b8;rw[q1w] at I;obtain⟨r,b4,ey⟩:=b7 hy;have a6:y.2.1=r.1:=by rw[ey]
   have c0:y.2.2=tn q r.1:=by rw[ey]
   rw[a6] at I;have Y:=Af b4;have hrp':r.1∈rows.map (·.1):=Ac.mpr ⟨r,Y,rfl⟩;have S:=Af hy;have O:=z2w hl m.g hrp';have a0:H6 y.1=some (.tup (vP (tn q r.1))):=by
    rw[<- c0];exact a2 _ _ (q0q (a1.pd.pr y S) a1.pd.at_) (a1.pd.pr y S)
   have dg:=q8i (b:=pb) (.inr ⟨b6,X⟩) d0 S (by rw[a6];exact I);have b3:H6 b=some (.tup (vP (mvTo q j p))):=a2 _ _ (aN hb) (e6 _ _ hb);have e3:H6 e=some (.tup (vP p)):=a2 _ _ (q0q (L _ _ b5) a1.pd.at_) (L _ _ b5);obtain⟨c5,c6⟩:=q0w O.ne;refine⟨_,rfl,_,rfl,N,_,rfl,dg,?_⟩;have done:∀{J:Hp},Same H6 J->∃x7 x8,[some (V.ref N),some (.ref Mk),some (.ref a),some (.ref b),some (.bl bl),some (.ref e),some (.bl true),some (.ref pb),some (.ref y.1)]=[some (.ref N),some (.ref Mk),some (.ref a),some (.ref b),some (.bl bl),some (.ref e),some (.bl true),x7,x8]/\J N=some (.frz b6 (qR ns))/\(∀c u,c≠N->H5 c=some u->J c=some u):=λ{J} s'=>⟨_,_,rfl,s' _ _ X,λc u B e=>s' _ _ (a2 c u B e)⟩
   refine⟨λW H7=>Same H6 H7/\(W=true->r.1=p),?_,?_⟩
   ·rintro W H7 ⟨s7,c7⟩;refine ite2 (λU=>?_) (λU=>done s7);have erp':=c7 U;refine⟨λW H8=>W=false/\H8=H7,?_,?_⟩
    ·rintro W H8 ⟨rfl,rfl⟩;exact iteF (done s7)
    ·refine⟨_,rfl,_,rfl,q2q (s7 _ _ I) (s7 _ _ e3) (hl.ok r Y).low (by rw[<- c8];exact(hl.ok rp Z).low) ⟨_,rfl,?_⟩⟩;rw[decide_eq_true erp'];refine iteF ⟨_,rfl,_,rfl,q0x (s7 _ _ a0) (s7 _ _ b3) O.low M.low ⟨_,rfl,decide_eq_false λz=>?_,rfl⟩⟩;rw[erp'] at z;obtain⟨d1,d2,d3⟩:=z0y hl m.g m.hp;have z1:=congrArg List.dropLast z;have z2:=congrArg (λl=>l.getLastD []) z;rw[d1,qd] at z1;have z2':(tn q p).getLastD []=(mvTo q j p).getLastD []:=z2;rw[d2] at z2';unfold mvTo at z2';rw[Ce] at z2';have z3:=inj d3 f0 z1;refine m.hn ?_;rw[q3q (q1a hl m.g.gw m.hp).ne,q3q (q1a hl m.g'.gw m.hp).ne,z3,z2']
   ·refine⟨_,rfl,_,rfl,_,rfl,.inr (.inr ⟨y.1,_,rfl,SqT.of a0,c6,λt3 a7=>?_⟩)⟩;rw[c5];have s7:=(Same.refl H6).new (o:=.tup (vP (tn q r.1).dropLast)) a7;have h7:upd H6 t3 (.tup (vP (tn q r.1).dropLast)) t3=some (.tup (vP (tn q r.1).dropLast)):=q0b;generalize upd H6 t3 (.tup (vP (tn q r.1).dropLast))=H7 at s7 h7;refine⟨_,rfl,_,rfl,_,rfl,.inr (.inr ⟨b,_,rfl,SqT.of (s7 _ _ b3),c2,λt4 f6=>?_⟩)⟩;rw[c1];have s8:=(Same.refl H7).new (o:=.tup (vP (mvTo q j p).dropLast)) f6;have a8:=s7.trans s8;refine q0x (s8 _ _ h7) q0b (q1g O.low) (q1g M.low) ⟨_,rfl,iteB (λB=>?_) (λB=>⟨a8,λz=>by cases z⟩)⟩;have B:=of_decide_eq_true B;generalize upd H7 t4 (.tup (vP (mvTo q j p).dropLast))=H8 at s8 a8;refine⟨_,rfl,_,rfl,.inr (.inl ⟨y.1,_,-1,_,rfl,rfl,SqT.of (a8 _ _ a0),q3i O.ne,_,rfl,_,bl,rfl,q2n O,?_⟩)⟩;refine⟨_,rfl,_,rfl,.inr (.inl ⟨b,_,-1,_,rfl,rfl,SqT.of (a8 _ _ b3),q3i M.ne,_,rfl,_,bl,rfl,q2n M,?_⟩)⟩;refine .inl ⟨rfl,_,rfl,a8,λU=>m.free hl hrp' B ?_⟩;have e9:=of_decide_eq_true U;injection e9 with e9;have e7:=SB.mk_inj e9;cases bl with
    |false=>exact e7
    |true=>exact e7
  ·rintro G H6 ⟨x7,x8,rfl,X,a2⟩;exact⟨b6,_,X,_,rfl,k e _ (e6.trans (q2c a1.pd.at_ a2))⟩
def Way.at_(hl:Hl bl rows)(w:Way bl rows row msF):∃st:Nat->List Mv,st 0=[]/\st row.length=msF/\∀i m,row[i]?=some m->∃p,Mve bl rows (st i) (st (i+1)) p/\m=(tn (st i) p,mvTo (st i) (st (i+1)) p):=by
 induction w with
 |nil=>exact⟨λ_=>[],rfl,rfl,λi m h=>by cases h⟩
 | @put row ms ms' p' w g hp ho hn ih =>
  obtain⟨st,u,v,B⟩:=ih;refine⟨λi=>if i<=row.length then st i else ms',by show(if 0<=row.length then st 0 else ms')=[];rw[if_pos (Bv _)];exact u,by show(if (row++_).length<=row.length then _ else ms')=ms';rw[if_neg (by rw[An];show ¬row.length+1<=row.length;lia)],λi m f=>?_⟩;by_cases C:i<row.length
  ·rw[Bt C] at f;show ∃p,Mve bl rows (if i<=row.length then st i else ms') (if i+1<=row.length then st (i+1) else ms') p/\m=(tn (if i<=row.length then st i else ms') p,mvTo (if i<=row.length then st i else ms') (if i+1<=row.length then st (i+1) else ms') p)
   rw[if_pos (show i<=row.length by lia),if_pos (show i+1<=row.length by lia)];exact B i m f
  ·have j:=(Aj.mp f).1;rw[An] at j;have q:i=row.length:=by grind
   subst q;rw[Cg (Aq _),Uq] at f;cases f;show ∃p,Mve bl rows (if row.length<=row.length then st row.length else ms') (if row.length+1<=row.length then st (row.length+1) else ms') p/\(tn ms p',tn ms (plc ms' p').dropLast++[(plc ms' p').getLastD []])=(tn (if row.length<=row.length then st row.length else ms') p,mvTo (if row.length<=row.length then st row.length else ms') (if row.length+1<=row.length then st (row.length+1) else ms') p)
   rw[if_pos (Aq _),if_neg (show ¬row.length+1<=row.length by lia),v];exact⟨p',⟨w.gd hl,g,hp,ho,hn⟩,rfl⟩
def x0j(h:r∈rows):M6 rows 6 r.1:=m6_p (Ac.mpr ⟨r,h,rfl⟩)
def x6t{ns:List (Addr×Mv)}(hk:k∈(ns.map (·.2)).map (·.1)):putK ((ns.map λx=>((x.2.1,.ref x.1):HRow)).map λr=>(kP r.1,r.2)) (kP k) (.ref e)=((ns.map λx=>if x.2.1=k then(e,(k,v)) else x).map λx=>((x.2.1,.ref x.1):HRow)).map λr=>(kP r.1,r.2):=by
 unfold putK;obtain⟨m,f,rfl⟩:=Ac.mp hk;obtain⟨x,j,rfl⟩:=Ac.mp f;have ha:(((ns.map λx=>((x.2.1,.ref x.1):HRow)).map λr=>((kP r.1,r.2):List Key×V)).any λq=>decide (q.1=kP x.2.1))=true:=Qm.mpr ⟨(kP x.2.1,.ref x.1),Ac.mpr ⟨(x.2.1,.ref x.1),Ac.mpr ⟨x,j,rfl⟩,rfl⟩,decide_eq_true rfl⟩;rw[if_pos ha,Ah,Ah,Ah,Ah];refine By λy u=>?_;show(if kP y.2.1=kP x.2.1 then(kP y.2.1,V.ref e) else(kP y.2.1,V.ref y.1))=(kP (if y.2.1=x.2.1 then(e,(x.2.1,v)) else y).2.1,V.ref (if y.2.1=x.2.1 then(e,(x.2.1,v)) else y).1)
 by_cases h:y.2.1=x.2.1
 ·simp_all
 ·rw[if_neg (λz=>h (q9p z)),if_neg h]
structure CallsWk (P) (w) (K) (mg) (base):Prop where
 «let» : Cal P w K mg base "_law_let" 2 Z6 spLet
noncomputable def spWalked:Sp:=λvs H Q _=>∃L R bl zs ws msF,vs=[.ref L,.ref R,.bl bl]/\RL H L zs/\Hl bl (zs.map (·.2))/\zs.length<=30/\ML H R ws/\Way bl (zs.map (·.2)) (ws.map (·.2)) msF /\
 ∀N ns H',Same H H'->NwD H' N ns (zs.map (·.2)) (tn msF)->Q (.ref N) H'
noncomputable abbrev q8k:Stmt:=top 56
def sc_walked:FnScope ["_law_rows_here", "_law_row", "_law_blind", "_law_marks", "_law_now", "_law_path", "_law_place", "_law_first"] Ze (defScope q8k):=by trivial
def x0k(D:Df K mg "_law_walked" q8k Ze)(T:Txt mg)(C:CallsWk P w K mg base):Cal P w K mg base "_law_walked" 3 Ze spWalked:=by
 refine D.cal sc_walked (λvs H Q E h=>?_) (λf f9 A outer s H vs Q E hr h=>?_)
 ·obtain⟨L,R,bl,zs,ws,c8,rfl,_⟩:=h;rfl
 ·obtain⟨L,R,bl,zs,ws,c8,rfl,rl,hl,c9,ml,wy,k⟩:=h;refine⟨_,(q0c (q0i (i:=3) sc_walked.nd rfl (by trivial) (q3d (q9g hr) (by rfl) T.b_dict (by trivial) (q0a (pv 0) q0e))) (q0c (q0i (i:=4) sc_walked.nd rfl (by trivial) q3n) (q0c (q3y H rfl (q1k Br rfl (@q4l _ _ _ _ K rfl (pv 3)) (q0h (i:=5) sc_walked.nd rfl (by trivial)) (q0f (q3x (q1c hr) (pv 4) (pv 5) (pv 5) rfl)))) (q0c (q1k Br rfl (@q3b _ _ _ _ K rfl (pv 1)) (@q2h _ _ _ _ _ (2) K rfl rfl (q0l (q0h (i:=5) sc_walked.nd rfl (by trivial)) (q0l (q0h (i:=6) sc_walked.nd rfl (by trivial)) q1p)) (by rfl) (by rfl)) (q0c (q1b (q1z (q5m (pe_c C.«let» hr (q0a (pv 4) (q0a (pv 3) (q0a (pv 5) (q0a (pv 6) (q0a (pv 2) q0e)))))))) (q0f (q0o q6q)) q0m) (q0f (q3y H rfl (q1k Br rfl (@q4l _ _ _ _ K rfl (pv 3)) (q0h (i:=7) sc_walked.nd rfl (by trivial)) (q0f (q1b (q0n (eq_k K rfl hr) (q0p sl_P (q0v (q1c hr) (pv 4) (pv 7) (λ_ _=>rfl)) q0r (q0s (q0k (q3l K rfl) (by rfl) T.b_len Cd (q0a (pv 5) q0e)))) (pv 5) (nomark _)) (q0f (q3x (q1c hr) (pv 4) (pv 7) (q1l q3h (pv 6) (q0p sl_P (q0v (q1c hr) (pv 4) (pv 7) (λ_ _=>rfl)) (q0s (q0k (q3l K rfl) (by rfl) T.b_len Cd (q0a (pv 5) q0e))) q0r)) rfl)) q0m))))))) (q0f (q0o (pv 4))))))),?_⟩
  with_reducible refine gE λg0 g4 b5 b6=>?_
  refine⟨_,rfl,L,zs.map (·.1),zs.map (λz=>rR z.2),rfl,by rw[Ah];exact rl.at_,x4b rl.pr,by rw[Aa];lia,λMk hM=>?_⟩;rw[z2t hl];have s1:=(Same.refl H).new (o:=dR ((zs.map (·.2)).map rR)) hM;have B:upd H Mk (dR ((zs.map (·.2)).map rR)) Mk=some (dR ((zs.map (·.2)).map rR)):=q0b;generalize upd H Mk (dR ((zs.map (·.2)).map rR))=H1 at s1 B;generalize a5:zs.map (·.2)=rows at hl B wy k;have d0:rows.length<=30:=by rw[<- a5,Aa];exact c9
  have g5:=hl.ok;obtain⟨st,d1,d2,d3⟩:=wy.at_ hl;refine gY b6 λg6 b8=>?_;refine λN hN=>?_;have Z:N≠Mk:=q0q hN B;have s2:=(Same.refl H1).new (o:=.dT []) hN;have b9:upd H1 N (.dT []) N=some (.dT []):=q0b;generalize upd H1 N (.dT [])=H2 at s2 b9;refine gY b8 λg7 c0=>?_;refine⟨Mk,(λo v e=>by rw[hM] at e;cases e),?_⟩;refine⟨_,rfl,Mk,_,rfl,s2 _ _ B,λob=>?_⟩;refine q2s (λi q X=>∃ns x5,q=[some (.ref L),some (.ref R),some (.bl bl),some (.ref Mk),some (.ref N),x5,none,none]/\X Mk=some (.frz ob (dR (rows.map rR)))/\(∀c u,c≠Mk->H1 c=some u->X c=some u)/\PDt X N ns/\ns.map (·.2)=(rows.take i).map λr=>(r.1,r.1))
   ⟨[],none,rfl,q0b,λc u M e=>by rw[q0d M];exact s2 _ _ e,⟨by rw[q0d Z];exact b9,(λ_ h=>nomatch h)⟩,rfl⟩ (λi q X x=>by obtain⟨_,_,_,h,_⟩:=x;exact h) ?_ ?_
  ·rintro i ky v pb q H3 a6 O ⟨ns,x5,rfl,G,kp,S,Y⟩;obtain⟨r,U,rfl,rfl⟩:∃r,rows[i]?=some r/\ky=kP r.1/\v=mV r.2:=keyAt a6;rw[q1w] at O;have e1:rows.take (i+1)=rows.take i++[r]:=by rw[Bc,U];rfl
   have nl:ns.length<=30:=by
    have:=congrArg List.length Y;rw[Aa,Aa,Bg] at this;lia
   have d4:∀x∈(ns.map λx=>((x.2.1,.ref x.1):HRow)),x.1≠r.1:=λx W z=>by
    obtain⟨y,I,rfl⟩:=Ac.mp W;have d5:y.2∈(rows.take i).map λr=>(r.1,r.1):=by rw[<- Y];exact Ac.mpr ⟨y,I,rfl⟩
    obtain⟨r',a8,e⟩:=Ac.mp d5;have z':y.2.1=r.1:=z;rw[<- e] at z';exact q3s hl.paths U a8 z'
   refine⟨_,rfl,_,rfl,_,rfl,N,_,rfl,DPut.t (k:=kP r.1) S.at_ (by rw[q1w];exact O) (by rw[Aa,Aa];exact small' (by lia)),?_⟩;rw[q2d (v:=.ref pb) d4];have nN:∀(x:Addr) (u:HO),H3 x=some u->(∀d6,u≠.dT d6)->upd H3 N (dR ((ns.map λx=>((x.2.1,.ref x.1):HRow))++[(r.1,.ref pb)])) x=some u:=λx u e n=>by
    rw[q0d (λy=>by rw[y,S.at_] at e;cases e;exact n _ rfl)];exact e
   refine⟨ns++[(pb,(r.1,r.1))],_,rfl,nN _ _ G (λ_ y=>by cases y),λc u M e=>by rw[q0d (q0j e hN)];exact kp c u M e,⟨by rw[q0b,Ae (l₁:=ns)];rfl,λy I=>?_⟩,by rw[e1,Ae,Ae,Y];rfl⟩;rcases Ao.mp I with I|I
   ·exact nN _ _ (S.pr y I) (λ_ y=>by cases y)
   ·rw[Ak.mp I];exact nN _ _ O (λ_ y=>by cases y)
  rintro q H3 ⟨ns,x5,rfl,G,kp,S,Y⟩;rw[Aa,Aa,Ba] at Y;refine⟨ob,_,G,?_⟩;have s3:Same H1 (upd H3 Mk (dR (rows.map rR))):=q2c B kp;have c1:PDt (upd H3 Mk (dR (rows.map rR))) N ns:=⟨by rw[q0d Z];exact S.at_,λy I=>by rw[q0d (q0q (S.pr y I) G)];exact S.pr y I⟩
  generalize upd H3 Mk (dR (rows.map rR))=H4 at s3 c1;clear G kp S;have d7:=s1.trans s3;have d8:=ml.same d7;have d9:NwD H4 N ns rows (tn (st 0)):=⟨c1,by
   rw[Y,d1];exact By λr U=>by rw[show tn [] r.1=r.1 from q4t hl (x0j U)]⟩
  have e6:H1 N=none:=hN;subst c0;refine⟨_,rfl,.inl ⟨R,rfl,⟨_,SqL.of d8.at_⟩,?_⟩⟩;refine q3m (λi q X=>∃ns x5 x6 x7,q=[some (.ref L),some (.ref R),some (.bl bl),some (.ref Mk),some (.ref N),x5,x6,x7]/\Same H1 X/\NwD X N ns rows (tn (st i))) ⟨ns,_,none,none,rfl,s3,d9⟩ (λi q X _ x=>by obtain⟨_,_,_,_,_,s',_⟩:=x;exact SqL.of (s' _ _ (ml.same s1).at_)) ?_ ?_
  ·rintro i v q H5 hv ⟨ns,x5,x6,x7,rfl,s5,nw⟩;obtain⟨z,hz,rfl⟩:=refAt hv;obtain⟨p,m,ez⟩:=d3 i z.2 (by rw[Am,hz];rfl);obtain⟨A1,B1,g1,g2,g3⟩:=((ml.same s1).same s5).pr z (Af hz);rw[ez] at g2 g3;replace g2:H5 A1=some (.tup (vP (tn (st i) p))):=g2;replace g3:H5 B1=some (.tup (vP (mvTo (st i) (st (i+1)) p))):=g3;refine⟨z.1,_,rfl,SqT.of g1,rfl,_,_,rfl,_,_,rfl,rfl,?_⟩
   with_reducible refine gE λf7 f8 a9 b0=>?_
   refine⟨_,rfl,_,rfl,_,rfl,_,rfl,_,rfl,N,Mk,A1,B1,bl,rows,st i,st (i+1),p,ns,rfl,hl,d0,nw,s5 _ _ B,m,g2,g3,λe0 H6 s6=>⟨_,rfl,iteF ?_⟩⟩;have a0:=s5.trans s6;have a1:=nw.same s6;have g2':=s6 _ _ g2;have g3':=s6 _ _ g3;have okp:=z2w hl m.g m.hp;have e7:=x3c hl m.g m.g' m.hp;subst b0;refine⟨Mk,(λo v e=>by rw[hM] at e;cases e),?_⟩;refine⟨_,rfl,Mk,_,rfl,a0 _ _ B,λob=>?_⟩;have e8:A1≠Mk:=q0q g2' (a0 _ _ B);have e9:B1≠Mk:=q0q g3' (a0 _ _ B);have c2:∀{x:Pth},x∈rows.map (·.1)->carry (tn (st i) p) (mvTo (st i) (st (i+1)) p) (tn (st i) x)=tn (st (i+1)) x:=λ{x} W=>q6i hl m.g m.g' m.hp m.ho (m6_p W) (Aq _);refine q2s (λj q X=>∃(ns:List (Addr×Mv)) (x7:Option V),q=[some (.ref L),some (.ref R),some (.bl bl),some (.ref Mk),some (.ref N),some (.ref A1),some (.ref B1),x7]/\X Mk=some (.frz ob (dR (rows.map rR)))/\(∀c u,c≠Mk->c≠N->H6 c=some u->X c=some u)/\PDt X N ns/\(ns.map (·.2)).map (·.1)=rows.map (·.1)/\(∀x∈ns,x.2.2=if x.2.1∈(rows.take j).map (·.1) then tn (st (i+1)) x.2.1 else tn (st i) x.2.1))
    ⟨ns,_,rfl,q0b,λc u M _ e=>by rw[q0d M];exact e,⟨by rw[q0d Z];exact a1.pd.at_,λy I=>by rw[q0d (q0q (a1.pd.pr y I) (a0 _ _ B))];exact a1.pd.pr y I⟩,by rw[nw.e,Ah];rfl,λx W=>by
     rw[Hg,List.map_nil,if_neg Ea];have f0:x.2∈rows.map λr=>(r.1,tn (st i) r.1):=by rw[<- nw.e];exact Ac.mpr ⟨x,W,rfl⟩
     obtain⟨r,_,e⟩:=Ac.mp f0;rw[<- e]⟩ (λj q X x=>by obtain⟨_,_,_,h,_⟩:=x;exact h) ?_ ?_
   ·rintro j ky v pb q H7 a6 O ⟨ns,x7,rfl,G,kp,J,ek,ev⟩;obtain⟨r,U,rfl,rfl⟩:∃r,rows[j]?=some r/\ky=kP r.1/\v=mV r.2:=keyAt a6;rw[q1w] at O;have f1:=Af U;have a2:r.1∈rows.map (·.1):=Ac.mpr ⟨r,f1,rfl⟩;have e1:rows.take (j+1)=rows.take j++[r]:=by rw[Bc,U];rfl
    have e5:(rows.take (j+1)).map (·.1)=(rows.take j).map (·.1)++[r.1]:=by rw[e1,Ae];rfl
    have c3:r.1∉(rows.take j).map (·.1):=λh=>by
     obtain⟨r',a8,e⟩:=Ac.mp h;exact q3s hl.paths U a8 e
    have c4:((ns.map (·.2)).map (·.1)).Nodup:=by rw[ek];exact hl.paths
    have c5:r.1∈(ns.map (·.2)).map (·.1):=by rw[ek];exact a2
    obtain⟨mm,f2,em⟩:=Ac.mp c5;obtain⟨y,I,rfl⟩:=Ac.mp f2;have ey:y.2.2=tn (st i) r.1:=by rw[ev y I,em,if_neg c3]
    have b1:=J.pr y I;rw[ey] at b1;have dg:=q8i (b:=pb) (.inl J.at_) c4 I (by rw[em];exact O);have f3:A1≠N:=q0q g2' a1.pd.at_;have f4:B1≠N:=q0q g3' a1.pd.at_;have a7:=kp _ _ e8 f3 g2';have b7:=kp _ _ e9 f4 g3';have c6:=z2w hl m.g a2;have c7:∀{x:Addr×Mv},x∈ns->x.2.1≠r.1->x.2.2=if x.2.1∈(rows.take (j+1)).map (·.1) then tn (st (i+1)) x.2.1 else tn (st i) x.2.1:=λ{x} W n=>by
     rw[ev x W,e5];by_cases h:x.2.1∈(rows.take j).map (·.1)
     ·rw[if_pos h,if_pos (Cp _ h)]
     ·rw[if_neg h,if_neg λz=>(Ao.mp z).elim h λz=>n (Ak.mp z)]
    refine⟨_,rfl,_,rfl,N,_,rfl,dg,_,rfl,_,_,rfl,.inr ⟨_,SqT.of a7,rfl⟩,_,rfl,y.1,_,rfl,b1,λt1 H8 s8 h8=>?_⟩;rw[q0y,x4f] at h8;refine⟨_,rfl,q0x h8 (s8 _ _ a7) (z5q c6.low) okp.low ⟨_,rfl,iteB (λM=>?_) (λM=>?_)⟩⟩
    ·have M:=of_decide_eq_true M;have f5:=J.same s8;refine⟨_,rfl,_,rfl,_,rfl,N,_,rfl,q8i (b:=pb) (.inl f5.at_) c4 I (by rw[em];exact s8 _ _ O),_,rfl,_,_,rfl,.inr ⟨_,SqT.of (s8 _ _ a7),rfl⟩,_,rfl,y.1,_,rfl,s8 _ _ b1,λt2 H9 s9 h9=>?_⟩;rw[q0y,z5l] at h9;have l6:(tn (st i) r.1).length<=6:=c6.few;have l6':(mvTo (st i) (st (i+1)) p).length<=6:=e7.few;refine⟨B1,t2,_,_,rfl,rfl,s9 _ _ (s8 _ _ b7),h9,by rw[q0y,q0y,Du];exact small (by lia),λe3 HA sA hA _=>?_⟩;have a3:=(s8.trans s9).trans sA;have b2:=J.same a3;have f6:HA e3=some (.tup (vP (tn (st (i+1)) r.1))):=by
      rw[hA,<- z5k,<- c2 a2];unfold carry;rw[if_pos M]
     have nl:ns.length<=30:=by have:=congrArg List.length ek;rw[Aa,Aa,Aa] at this;lia
     refine⟨_,rfl,_,rfl,N,_,rfl,DPut.t (k:=kP r.1) b2.at_ (by rw[q1w];exact a3 _ _ O) (by rw[Aa,Aa];exact small' (by lia)),?_⟩;rw[x6t (v:=tn (st (i+1)) r.1) c5];have tk:∀{c:Addr} {xs:List V},HA c=some (.tup xs)->upd HA N (.dT (((ns.map λx=>if x.2.1=r.1 then(e3,(r.1,tn (st (i+1)) r.1)) else x).map λx=>((x.2.1,.ref x.1):HRow)).map λr=>(kP r.1,r.2))) c=some (.tup xs):=λ{c xs} e=>by rw[q0d (q0q e b2.at_)];exact e
     refine⟨ns.map λx=>if x.2.1=r.1 then(e3,(r.1,tn (st (i+1)) r.1)) else x,_,rfl,by rw[q0d Z.symm];exact a3 _ _ G,λc u b3 a4 e=>by rw[q0d a4];exact a3 _ _ (kp c u b3 a4 e),⟨q0b,λx W=>?_⟩,?_,λx W=>?_⟩
     ·obtain⟨x',b4,rfl⟩:=Ac.mp W;by_cases h:x'.2.1=r.1
      ·simp only[if_pos h];exact tk f6
      ·simp only[if_neg h];exact tk (b2.pr x' b4)
     ·rw[<- ek,Ah,Ah,Ah];refine By λx _=>?_;show(if x.2.1=r.1 then(e3,(r.1,tn (st (i+1)) r.1)) else x).2.1=x.2.1;by_cases h:x.2.1=r.1
      ·rw[if_pos h,h]
      ·rw[if_neg h]
     ·obtain⟨x',b4,rfl⟩:=Ac.mp W;by_cases h:x'.2.1=r.1
      ·simp only[if_pos h];rw[if_pos (by rw[e5];exact Bo _ (Ak.mpr rfl))]
      ·simp only[if_neg h];exact c7 b4 h
    ·have M:=of_decide_eq_false M;refine⟨ns,_,rfl,s8 _ _ G,λc u b3 a4 e=>s8 _ _ (kp c u b3 a4 e),J.same s8,ek,λx W=>?_⟩;by_cases h:x.2.1=r.1
     ·rw[ev x W,h,if_neg c3,if_pos (by rw[e5];exact Bo _ (Ak.mpr rfl)),<- c2 a2];exact(q2j M).symm
     ·exact c7 W h
   ·rintro q H7 ⟨ns,x7,rfl,G,kp,J,ek,ev⟩;rw[Aa,Aa,Ba] at ev;try subst a9
    refine⟨ob,_,G,ns,_,_,_,rfl,?_,⟨⟨by rw[q0d Z];exact J.at_,λy I=>by rw[q0d (q0q (J.pr y I) G)];exact J.pr y I⟩,?_⟩⟩
    ·intro c u e;by_cases M:c=Mk
     ·rw[M,q0b,<- B,<- M];exact e
     ·rw[q0d M];exact kp c u M (q0q e e6) (a0 _ _ e)
    ·refine Ve λj=>?_;have e2:=congrArg (λl=>l[j]?) ek;simp only[Am] at e2 ⊢;cases h1:ns[j]? with
     |none =>
      rw[h1] at e2;cases h2:rows[j]? with
      |none=>rfl
      |some r=>rw[h2] at e2;cases e2
     |some x =>
      rw[h1] at e2;cases h2:rows[j]? with
      |none=>rw[h2] at e2;cases e2
      |some r =>
       rw[h2] at e2;have e3:x.2.1=r.1:=Bx e2;have e4:=ev x (Af h1);rw[e3,if_pos (Ac.mpr ⟨r,Af h2,rfl⟩)] at e4;show some x.2=some (r.1,tn (st (i+1)) r.1);rw[<- e3] at e4 ⊢;rw[<- e4]
  ·rintro q H5 ⟨ns,x5,x6,x7,rfl,s5,nw⟩;rw[Aa,<- Aa (f:=λz:Zm=>z.2),d2] at nw;try subst b5
   exact⟨_,rfl,k N ns H5 (s1.trans s5) nw⟩
structure CallsTn (P) (w) (K) (mg) (base) (k) (S):Prop where
 «then» : Cal P w K mg base "_law_then" k Z9 S
noncomputable def spTn(k:Nat):Sp:=λvs H Q _=>∃b D bl rows ms ps p,vs=[.ref D,.ref b]/\Hl bl rows/\GoodW rows ms/\AllP H D ps rows ms/\H b=some (.tup (vP p))/\M6 rows k p/\k<=6/\∀q H',Same H H'->H' q=some (.tup (vP (thenP (plc ms) (k+1) p)))->Q (.ref q) H'
noncomputable abbrev q8l:Stmt:=top 54
def x0l:FnScope Z9 Z9 (defScope q8l):=by trivial
def x0m(D:Df K mg "_law_then" q8l Z9)(T:Txt mg)(hk:k=0\/∃j,k=j+1/\S=spTn j)(C:CallsTn P w K mg base n S):Cal P w K mg base "_law_then" (n+1) Z9 (spTn k):=by
 refine D.cal x0l (λvs H Q E h=>?_) (λf a4 A outer s H vs Q E R h=>?_)
 ·obtain⟨b,D,bl,rows,u,ps,p,rfl,_⟩:=h;rfl
 ·obtain⟨b,D,bl,rows,u,ps,p,rfl,hl,gw,ap,U,L,k6,kk⟩:=h;refine⟨_,(q0c (q1b (q0n (eq_k K rfl R) (pv 1) (q1j q0e) (nomark _)) (q0f (q0o (q1j q0e))) q0m) (q0f (q0o (q1l q3h (pe_c (hjk:=Aq _) C.«then» R (q0a (pv 0) (q0a (q0p (sl_k K rfl) (q0v (q1c R) (pv 0) (pv 1) (λ_ _=>rfl)) q0r (q0s (q1i q0t q0g))) q0e))) (q1j (q0a (q1q (ix_k K rfl) (q0v (q1c R) (pv 0) (pv 1) (λ_ _=>rfl)) (q1i q0t q0g) (λ_ _=>rfl)) q0e)))))),?_⟩;refine⟨_,rfl,by show 0<=sizeLine;decide,λW X=>?_⟩;have I:=(Same.refl H).new (o:=.tup []) X;have ht0':upd H W (.tup []) W=some (.tup (vP [])):=q0b;generalize upd H W (.tup [])=Y at I ht0';have M:Low p:=by
   by_cases e:p=[]
   ·rw[e];exact λ_ h=>nomatch h
   ·obtain⟨r,Z,e2⟩:=Ac.mp (L.in_ e);rw[<- e2];exact(hl.ok r Z).low
  refine q0x (I _ _ U) ht0' M (λ_ h=>nomatch h) ⟨_,rfl,iteB (λe=>?_) (λe=>?_)⟩
  ·have e:=of_decide_eq_true e;refine⟨by show 0<=sizeLine;decide,λJ v=>kk J _ (I.new v) ?_⟩;rw[q0b];unfold thenP;rw[if_pos e];rfl
  ·have e:=of_decide_eq_false e;have B:=L.in_ e;obtain⟨x,dx,hx⟩:=(ap.same I).get hl B (I _ _ U);have ok:=q1a hl gw B;rcases hk with rfl|⟨j,rfl,rfl⟩
   ·exact absurd (L.zero hl) e
   obtain⟨c1,c2⟩:=q0w ok.ne;refine⟨_,rfl,_,rfl,_,rfl,D,_,rfl,dx,_,rfl,_,rfl,.inr (.inr ⟨x,_,rfl,SqT.of hx,c2,λJ v=>?_⟩)⟩;rw[c1];have s2:=(Same.refl Y).new (o:=.tup (vP (plc u p).dropLast)) v;have h2:upd Y J (.tup (vP (plc u p).dropLast)) J=some (.tup (vP (plc u p).dropLast)):=q0b;generalize upd Y J (.tup (vP (plc u p).dropLast))=H2 at s2 h2;have O:=I.trans s2;refine⟨J,D,bl,rows,u,ps,_,rfl,hl,gw,ap.same O,h2,L.step hl gw e,by lia,λq H3 s3 h3=>?_⟩;have G:=O.trans s3;obtain⟨x2,a0,a1⟩:=(ap.same G).get hl B (G _ _ U);refine⟨_,rfl,_,rfl,D,_,rfl,a0,_,rfl,.inr (.inl ⟨x2,_,-1,_,rfl,rfl,SqT.of a1,q3i ok.ne,by show 1<=sizeLine;decide,λt2 a2=>?_⟩)⟩;have s4:=(Same.refl H3).new (o:=.tup [.str (mk ((plc u p).getLastD []))]) a2;have a3:=(q3j hl gw (L.step hl gw e)).2;refine⟨q,t2,_,_,rfl,rfl,s4 _ _ h3,q0b,by rw[q0y];exact small (by show _+1<=_;lia),λz H5 s5 h5 _=>?_⟩;refine kk z H5 ((G.trans s4).trans s5) ?_;rw[h5];conv=>rhs;unfold thenP
   rw[if_neg e];show _=some (HO.tup ((_++[(plc u p).getLastD []]).map _));rw[Ae];rfl
def x3f(D:Df K mg "_law_then" q8l Z9)(T:Txt mg):Cal P w K mg base "_law_then" 1 Z9 (λ_ _ _ _=>False) :=
 D.cal x0l (λ_ _ _ _ h=>h.elim) (λ_ _ _ _ _ _ _ _ _ _ h=>h.elim)
theorem z5r(D:Df K mg "_law_then" q8l Z9)(T:Txt mg):∀k,Cal P w K mg base "_law_then" (k+2) Z9 (spTn k)
 |0=>x0m D T (.inl rfl) ⟨x3f D T⟩
 |k+1=>x0m D T (.inr ⟨k,rfl,rfl⟩) ⟨z5r D T k⟩
structure CallsEn (P) (w) (K) (mg) (base):Prop where
 «then» : Cal P w K mg base "_law_then" 8 Z9 (spTn 6)
noncomputable def spEnds:Sp:=λvs H Q _=>∃L W bl zs ps,vs=[.ref L,.ref W]/\RL H L zs/\Hl bl (zs.map (·.2))/\zs.length<=30/\PDt H W ps/\GoodW (zs.map (·.2)) (ps.map (·.2)) /\
 ∀N ns H',H N=none->Same H H'->NwD H' N ns (zs.map (·.2)) (tn (ps.map (·.2)))->Q (.ref N) H'
noncomputable abbrev z4g:Stmt:=top 57
def sc_ends:FnScope ["_law_rows_here", "_law_wishes", "_law_places", "_law_path", "_law_mark", "_law_ends_here"] Zk (defScope z4g):=by trivial
def x6u(D:Df K mg "_law_ends" z4g Zk)(T:Txt mg)(C:CallsEn P w K mg base):Cal P w K mg base "_law_ends" 9 Zk spEnds:=by
 refine D.cal sc_ends (λvs H Q E h=>?_) (λf c0 A outer s H vs Q E hr h=>?_)
 ·obtain⟨L,W,bl,zs,U,rfl,_⟩:=h;rfl
 ·obtain⟨L,W,bl,zs,U,rfl,rl,hl,b0,pd,gw,k⟩:=h;refine⟨_,(q0c (q0i (i:=2) sc_ends.nd rfl (by trivial) q3n) (q0c (q1k Br rfl (@q3b _ _ _ _ K rfl (pv 0)) (@q2h _ _ _ _ _ (2) K rfl rfl (q0l (q0h (i:=3) sc_ends.nd rfl (by trivial)) (q0l (q0h (i:=4) sc_ends.nd rfl (by trivial)) q1p)) (by rfl) (by rfl)) (q0f (q3x (q1c hr) (pv 2) (pv 3) (z4x (q1c hr) (pv 1) (pv 3) (pv 3) ⟨rfl,rfl,rfl,rfl⟩) rfl))) (q0c (q0i (i:=5) sc_ends.nd rfl (by trivial) q3n) (q0c (q3y H rfl (q1k Br rfl (@q4l _ _ _ _ K rfl (pv 2)) (q0h (i:=3) sc_ends.nd rfl (by trivial)) (q0f (q3x (q1c hr) (pv 5) (pv 3) (pe_c C.«then» hr (q0a (pv 2) (q0a (pv 3) q0e))) rfl)))) (q0f (q0o (pv 5))))))),?_⟩;intro D hD;have s6:=(Same.refl H).new (o:=.dT []) hD;refine⟨_,rfl,.inl ⟨L,rfl,⟨_,SqL.of (s6 _ _ rl.at_)⟩,?_⟩⟩;refine q3m (λq G H'=>∃J x3 x4,G=[some (.ref L),some (.ref W),some (.ref D),x3,x4,none]/\Same H H'/\PDt H' D J/\J.map (·.2)=((zs.map (·.2)).take q).map (λr=>(r.1,plc (U.map (·.2)) r.1))) ⟨[],none,none,rfl,s6,⟨q0b,(λ_ h=>nomatch h)⟩,rfl⟩ (λq G H' _ x=>by obtain⟨_,_,_,_,s',_⟩:=x;exact SqL.of (s' _ _ rl.at_)) ?_ ?_
  ·rintro q v G O hv ⟨J,x3,x4,rfl,s6,j,I⟩;obtain⟨z,hz,rfl⟩:=refAt hv;have a6:(zs.map (·.2))[q]?=some z.2:=by rw[Am,hz];rfl
   have e1:(zs.map (·.2)).take (q+1)=(zs.map (·.2)).take q++[z.2]:=by rw[Bc,a6];rfl
   have pl:J.length<=30:=by
    have:=congrArg List.length I;rw[Aa,Aa,Bg,Aa] at this;lia
   have hno':∀r∈(J.map λx=>((x.2.1,.ref x.1):HRow)),r.1≠z.2.1:=λr hr z'=>by
    obtain⟨x,hx,rfl⟩:=Ac.mp hr;have a2:x.2∈((zs.map (·.2)).take q).map (λr=>(r.1,plc (U.map (·.2)) r.1)):=by rw[<- I];exact Ac.mpr ⟨x,hx,rfl⟩
    obtain⟨r',a3,e⟩:=Ac.mp a2;have z2:x.2.1=z.2.1:=z';rw[<- e] at z2;exact q3s hl.paths a6 a3 z2
   obtain⟨pb,h1,h2⟩:=(rl.same s6).pr z (Af hz);refine⟨z.1,_,rfl,SqT.of h1,rfl,_,_,rfl,_,_,rfl,rfl,?_⟩;replace h2:O pb=some (.tup (vP z.2.1)):=h2;have a7:=pd.same s6;refine⟨_,rfl,W,rfl,.inr ⟨_,.inl a7.at_⟩,_,rfl,_,rfl,?_⟩;have fin:∀(e:Addr),O e=some (.tup (vP (plc (U.map (·.2)) z.2.1)))->∃M,Same H (upd O D (dR ((J.map λx=>((x.2.1,.ref x.1):HRow))++[(z.2.1,.ref e)])))/\PDt (upd O D (dR ((J.map λx=>((x.2.1,.ref x.1):HRow))++[(z.2.1,.ref e)]))) D M/\M.map (·.2)=((zs.map (·.2)).take (q+1)).map (λr=>(r.1,plc (U.map (·.2)) r.1)):=λe he=>by
    have nD:∀(x:Addr) (xs:List V),O x=some (.tup xs)->upd O D (dR ((J.map λx=>((x.2.1,.ref x.1):HRow))++[(z.2.1,.ref e)])) x=some (.tup xs):=λx xs e=>by
     rw[q0d (q0q e j.at_)];exact e
    refine⟨J++[(e,(z.2.1,plc (U.map (·.2)) z.2.1))],s6.put hD,⟨by rw[q0b,Ae];rfl,λx hx=>?_⟩,by rw[e1,Ae,Ae,I];rfl⟩;rcases Ao.mp hx with hx|hx
    ·exact nD _ _ (j.pr x hx)
    ·rw[Ak.mp hx];exact nD _ _ he
   rcases a7.get gw.nd h2 with⟨hn,dg⟩|⟨y,R,ey,dg,b1⟩
   ·refine⟨none,dg,_,rfl,_,rfl,D,_,rfl,DPut.t (k:=kP z.2.1) j.at_ (by rw[q1w];exact h2) (by rw[Aa,Aa];exact small' (by lia)),?_⟩;obtain⟨M,f1,f2,f3⟩:=fin pb (by rw[q5v hn];exact h2);have e9:=q2d (v:=.ref pb) hno';refine⟨M,_,_,rfl,?_,?_,f3⟩
    ·show Same H (upd O D (.dT (putK _ _ (V.ref pb))));rw[e9];exact f1
    ·show PDt (upd O D (.dT (putK _ _ (V.ref pb)))) D M;rw[e9];exact f2
   ·refine⟨some (.ref y.1),dg,_,rfl,_,rfl,D,_,rfl,DPut.t (k:=kP z.2.1) j.at_ (by rw[q1w];exact h2) (by rw[Aa,Aa];exact small' (by lia)),?_⟩;obtain⟨M,f1,f2,f3⟩:=fin y.1 b1;have e9:=q2d (v:=.ref y.1) hno';refine⟨M,_,_,rfl,?_,?_,f3⟩
    ·show Same H (upd O D (.dT (putK _ _ (V.ref y.1))));rw[e9];exact f1
    ·show PDt (upd O D (.dT (putK _ _ (V.ref y.1)))) D M;rw[e9];exact f2
  rintro G O ⟨J,x3,x4,rfl,s6,j,I⟩;rw[Aa,<- Aa (f:=λz:Zr=>z.2),Ba] at I;have b2:H D=none:=hD;generalize a4:zs.map (·.2)=rows at hl gw k I;have c1:rows.length<=30:=by rw[<- a4,Aa];exact b0
  have ql:J.length=rows.length:=by have:=congrArg List.length I;rw[Aa,Aa] at this;exact this
  intro B hB;have a8:B≠D:=q0q hB j.at_;have s7:=(Same.refl O).new (o:=.dT []) hB;have a9:upd O B (.dT []) B=some (.dT []):=q0b;generalize upd O B (.dT [])=H7 at s7 a9;have b3:=j.same s7;refine⟨D,(λo v e=>by rw[b2] at e;cases e),?_⟩;refine⟨_,rfl,D,_,rfl,b3.at_,λob=>?_⟩;refine q2s (λq G H'=>∃bs x3,G=[some (.ref L),some (.ref W),some (.ref D),x3,x4,some (.ref B)]/\H' D=some (.frz ob (qR J))/\(∀c u,c≠D->O c=some u->H' c=some u)/\PDt H' B bs/\bs.map (·.2)=(rows.take q).map λr=>(r.1,tn (U.map (·.2)) r.1))
   ⟨[],_,rfl,q0b,λc u hc e=>by rw[q0d hc];exact s7 _ _ e,⟨by rw[q0d a8];exact a9,(λ_ h=>nomatch h)⟩,rfl⟩ (λq G H' x=>by obtain⟨_,_,_,h,_⟩:=x;exact h) ?_ ?_
  ·rintro q ky v pb G H8 b4 a1 ⟨bs,x3,rfl,X,kp,Y,S⟩;obtain⟨x,hx,rfl,rfl⟩:∃x,J[q]?=some x/\ky=kP x.2.1/\v=.ref x.1:=keyAt b4;rw[q1w] at a1;have Z:(J.map (·.2))[q]?=some x.2:=by rw[Am,hx];rfl
   rw[I,Am] at Z;obtain⟨r,a5,er⟩:∃r,rows[q]?=some r/\(r.1,plc (U.map (·.2)) r.1)=x.2:=by
    cases e:rows[q]? with
    |none=>rw[e] at Z;cases Z
    |some r=>rw[e] at Z;exact⟨r,rfl,Bx Z⟩
   have b5:=Af a5;have b6:x.2.1=r.1:=by rw[<- er]
   rw[b6] at a1;have al:AllP H8 D J rows (U.map (·.2)):=⟨.inr ⟨ob,X⟩,λy R=>kp _ _ (q0q (j.pr y R) j.at_) (j.pr y R),by rw[I]⟩
   refine⟨_,rfl,_,rfl,pb,D,bl,_,_,J,_,rfl,hl,gw,al,a1,x0j b5,Aq _,λq2 H9 s9 h9=>?_⟩;have a0:=Y.same s9;have e1:rows.take (q+1)=rows.take q++[r]:=by rw[Bc,a5];rfl
   have b9:bs.length<=30:=by
    have:=congrArg List.length S;rw[Aa,Aa,Bg] at this;lia
   have hno':∀y∈(bs.map λx=>((x.2.1,.ref x.1):HRow)),y.1≠r.1:=λy R z'=>by
    obtain⟨x',b7,rfl⟩:=Ac.mp R;have a2:x'.2∈(rows.take q).map λr=>(r.1,tn (U.map (·.2)) r.1):=by rw[<- S];exact Ac.mpr ⟨x',b7,rfl⟩
    obtain⟨r',a3,e⟩:=Ac.mp a2;have z2:x'.2.1=r.1:=z';rw[<- e] at z2;exact q3s hl.paths a5 a3 z2
   refine⟨_,rfl,_,rfl,B,_,rfl,DPut.t (k:=kP r.1) a0.at_ (by rw[q1w];exact s9 _ _ a1) (by rw[Aa,Aa];exact small' (by lia)),?_⟩;rw[q2d (v:=.ref q2) hno'];have nB:∀(x:Addr) (u:HO),H9 x=some u->(∀b8,u≠.dT b8)->upd H9 B (dR ((bs.map λx=>((x.2.1,.ref x.1):HRow))++[(r.1,.ref q2)])) x=some u:=λx u e n=>by
    rw[q0d (λy=>by rw[y,a0.at_] at e;cases e;exact n _ rfl)];exact e
   refine⟨bs++[(q2,(r.1,tn (U.map (·.2)) r.1))],_,rfl,nB _ _ (s9 _ _ X) (λ_ y=>by cases y),λc u hc e=>?_,⟨by rw[q0b,Ae (l₁:=bs)];rfl,λy R=>?_⟩,by rw[e1,Ae,Ae,S];rfl⟩
   ·rw[q0d (q0q e hB)];exact s9 _ _ (kp c u hc e)
   ·rcases Ao.mp R with R|R
    ·exact nB _ _ (a0.pr y R) (λ_ y=>by cases y)
    ·rw[Ak.mp R];exact nB _ _ h9 (λ_ y=>by cases y)
  ·rintro G H8 ⟨bs,x3,rfl,X,kp,Y,S⟩;rw[Aa,Aa,ql,Ba] at S;refine⟨ob,_,X,_,rfl,?_⟩;have s8:Same O (upd H8 D (qR J)):=q2c j.at_ kp;exact k B bs _ (s6.free hB) (s6.trans s8) ⟨⟨by rw[q0d a8];exact Y.at_,λy R=>by rw[q0d (q0q (Y.pr y R) X)];exact Y.pr y R⟩,S⟩
noncomputable def spBlind(c:Addr):Sp:=λvs H Q _=>∃h d bl rows,vs=[.ref h]/\HallAt c H h d bl rows/\Q (.bl bl) H
noncomputable abbrev q2y:Stmt:=inClass (top 15) 2
def q6y:FnScope Y5 Y5 (defScope q2y):=by trivial
def x3g(D:Mf K c "is_blind" "Hall.is_blind" q2y Y5)(hk:Hk K c)(T:Txt mg):MCal P w K mg base c "is_blind" 1 Y5 (spBlind c):=by
 refine D.cal hk.cl q6y (λvs H Q E h=>?_) (λf j A outer s H vs Q E B h=>?_)
 ·obtain⟨h,d,bl,rows,rfl,_⟩:=h;rfl
 ·obtain⟨h,d,bl,rows,rfl,q,k⟩:=h;refine⟨_,(q0f (q0o (@z0h _ _ _ _ _ K rfl (pv 0) (by rfl)))),?_⟩;obtain⟨u,v⟩:=q.i;exact⟨_,rfl,h,c,u,_,_,rfl,v,hk.cl,hk.b,rfl,k⟩
noncomputable def spAskThing(c:Addr):Sp:=λvs H Q _=>∃h d p bl rows q m,vs=[.ref h,.ref p]/\HallAt c H h d bl rows/\H p=some (.tup (vP q))/\(rows.map (·.1)).Nodup/\(q,m)∈rows/\Q .non H
noncomputable abbrev q2p:Stmt:=inClass (top 15) 11
def q6m:FnScope Za Za (defScope q2p):=by trivial
def z2z(D:Mf K c "ask_thing" "Hall.ask_thing" q2p Za)(hk:Hk K c)(T:Txt mg):MCal P w K mg base c "ask_thing" 1 Za (spAskThing c):=by
 refine D.cal hk.cl q6m (λvs H Q E h=>?_) (λf u A outer s H vs Q E v h=>?_)
 ·obtain⟨h,d,p,bl,rows,q,m,rfl,_⟩:=h;rfl
 ·obtain⟨h,d,p,bl,rows,q,m,rfl,j,hp,nd,B,k⟩:=h;refine⟨_,(q0f (q1b (q1z (q7v (q1c v) (pv 1) (@z0h _ _ _ _ _ K rfl (pv 0) (by rfl)))) (q0f q3a) q0m)),?_⟩;obtain⟨C,G⟩:=j.i;refine⟨_,rfl,_,rfl,h,c,C,_,_,rfl,G,hk.cl,hk.m,rfl,d,_,rfl,q4h j.d hp,_,rfl,?_⟩;rw[q3p nd B];exact iteF k
structure CallsD (P) (w) (K) (mg) (base) (c):Prop where
 m_is_drawer:MCal P w K mg base c "is_drawer" 1 Za (spIsDrawer c)
noncomputable def spAskDrawer(c:Addr):Sp:=λvs H Q _=>∃h d p bl rows q,vs=[.ref h,.ref p]/\HallAt c H h d bl rows/\H p=some (.tup (vP q))/\Low q/\(rows.map (·.1)).Nodup/\(q=[]\/(q,none)∈rows)/\∀H',Same H H'->Q .non H'
noncomputable abbrev q2l:Stmt:=inClass (top 15) 12
def q5y:FnScope Za Za (defScope q2l):=by trivial
def z0z(D:Mf K c "ask_drawer" "Hall.ask_drawer" q2l Za)(hk:Hk K c)(T:Txt mg)(C:CallsD P w K mg base c):MCal P w K mg base c "ask_drawer" 2 Za (spAskDrawer c):=by
 refine D.cal hk.cl q5y (λvs H Q E h=>?_) (λf u A outer s H vs Q E v h=>?_)
 ·obtain⟨h,d,p,bl,rows,q,rfl,_⟩:=h;rfl
 ·obtain⟨h,d,p,bl,rows,q,rfl,j,hp,B,nd,G,k⟩:=h;refine⟨_,(q0f (q1b (z1c (@q7u _ _ _ K rfl (pe_m C.m_is_drawer v (pv 0) (q0a (pv 1) q0e)) (λ_=>rfl))) (q0f q3a) q0m)),?_⟩;obtain⟨I,J⟩:=j.i;refine⟨_,rfl,h,I,_,rfl,J,rfl,_,rfl,h,d,p,bl,rows,q,rfl,j,hp,B,nd,λL M O R=>⟨M,rfl,?_⟩⟩;have e:=R.mpr G;subst e;exact iteF (k L O)
structure CallsV (P) (w) (K) (mg) (base) (c):Prop where
 carried:Cal P w K mg base "carried" 1 Zi spCarried
 m_ask_thing:MCal P w K mg base c "ask_thing" 1 Za (spAskThing c)
 m_ask_drawer:MCal P w K mg base c "ask_drawer" 2 Za (spAskDrawer c)
 m_is_drawer:MCal P w K mg base c "is_drawer" 1 Za (spIsDrawer c)
 m_there:MCal P w K mg base c "there" 3 Zo (spThere1 c)
noncomputable def spMove(c:Addr):Sp:=λvs H Q _=>∃h d a b bl rows p q m,vs=[.ref h,.ref a,.ref b]/\HallAt c H h d bl rows/\Hl bl rows/\rows.length<=60/\H a=some (.tup (vP p))/\H b=some (.tup (vP q))/\(p,m)∈rows/\(m=none->q.dropLast=p.dropLast)/\q≠p/\Free bl rows p q /\
 ((rows.map (cR p q)).map (·.1)).Nodup/\∀D H',H D=none->(∀x u,x≠h->H x=some u->H' x=some u)->HallAt c H' h D bl (rows.map (cR p q))->Q .non H'
noncomputable abbrev q4u:Stmt:=inClass (top 15) 10
def sc_Hall_move:FnScope ["self", "path", "place", "other"] Zy (defScope q4u):=by trivial
def x6v(D:Mf K c "move" "Hall.move" q4u Zy)(hk:Hk K c)(T:Txt mg)(C:CallsV P w K mg base c):MCal P w K mg base c "move" 4 Zy (spMove c):=by
 refine D.cal hk.cl sc_Hall_move (λvs H Q E h=>?_) (λf c6 A outer s H vs Q E j h=>?_)
 ·obtain⟨h,d,a,b,bl,rows,p,q,m,rfl,_⟩:=h;rfl
 ·obtain⟨h,d,a,b,bl,rows,p,q,m,rfl,Y,hl,c7,ha,hb,hp,hm,b1,fr,a4,k⟩:=h;refine⟨_,(q0c (q1t (pe_m C.m_ask_thing j (pv 0) (q0a (pv 1) q0e))) (q0c (q1t (pe_m C.m_ask_drawer j (pv 0) (q0a (q0p (sl_k K rfl) (pv 2) q0r (q0s (q1i q0t q0g))) q0e))) (q0c (q1b (pt_j (@PW.pt _ _ _ (q2z (@q7u _ _ _ K rfl (pe_m C.m_is_drawer j (pv 0) (q0a (pv 1) q0e)) (λ_=>rfl)) (q2a (q0n (ne_k K rfl j) (q0p (sl_k K rfl) (pv 2) q0r (q0s (q1i q0t q0g))) (q0p (sl_k K rfl) (pv 1) q0r (q0s (q1i q0t q0g))) (nomark _)))))) (q0f q3a) q0m) (q0c (q0i (i:=3) sc_Hall_move.nd rfl (by trivial) (pe_m C.m_there j (pv 0) (q0a (pv 2) q0e))) (q0c (q1b (pt_j (@PW.pt _ _ _ (q2z (q1z (q5z (pv 3))) (q2a (pt_j (@PW.pt _ _ _ (z7h (q0n (ne_k K rfl j) (pv 3) (pv 1) (nomark _)) (z4n (q0n (eq_k K rfl j) (pv 2) (pv 1) (nomark _)))))))))) (q0f q3a) q0m) (q0f (@z9b _ _ _ _ _ _ _ _ K rfl (pv 0) (z3o H rfl (z5a ["thing", "mark"] [("path",1),("place",2)] rfl (@itm_k _ _ _ _ K rfl (@z1o _ _ _ _ _ _ _ _ _ K rfl Gz Qv Qw z4z (@z0h _ _ _ _ _ K rfl (pv 0) (by rfl)) (by rfl) (by rfl))) (λ_ _ _ _ _=>(@q2h _ _ _ _ _ (2) K rfl rfl (q0l (q0h (i:=0) (show(["thing", "mark", "path", "place"]:List Str).Nodup by trivial) rfl (by trivial)) (q0l (q0h (i:=1) (show(["thing", "mark", "path", "place"]:List Str).Nodup by trivial) rfl (by trivial)) q1p)) (by rfl) (by rfl))) (λ_ _ _ _ _=>q2m) (λ_ _ _ _ _=>(pe_c C.carried j (q0a (pv 0) (q0a (pv 2) (q0a (pv 3) q0e))))) (λ_ _ _ _ _=>(pv 1)) (q1c j))) (by rfl)))))))),?_⟩;obtain⟨dx,M⟩:=Y.i;have okp:=hl.ok _ hp;obtain⟨c1,c2⟩:=q0w fr.ok.ne;obtain⟨c3,c4⟩:=q0w okp.ne;refine⟨_,rfl,h,dx,_,rfl,M,rfl,_,rfl,h,d,a,bl,rows,p,m,rfl,Y,ha,hl.paths,hp,?_⟩;refine⟨_,rfl,h,dx,_,rfl,M,rfl,_,rfl,_,rfl,_,rfl,.inr (.inr ⟨b,_,rfl,SqT.of hb,c2,λt1 b2=>?_⟩)⟩;rw[c1];have s1:=(Same.refl H).new (o:=.tup (vP q.dropLast)) b2;refine⟨h,d,t1,bl,rows,q.dropLast,rfl,Y.same s1,q0b,q1g fr.ok.low,hl.paths,fr.dr,λH1 s2=>?_⟩;have R:=s1.trans s2;refine⟨λO H2=>O=false/\Same H H2,?_,?_⟩;rotate_left
  ·refine⟨_,rfl,h,dx,_,rfl,R _ _ M,rfl,_,rfl,h,d,a,bl,rows,p,rfl,Y.same R,R _ _ ha,okp.low,hl.paths,λH2 O s3 b3=>⟨O,rfl,?_⟩⟩;have S:=R.trans s3;refine iteB (λe=>?_) (λe=>⟨rfl,S⟩);have b4:(p,none)∈rows:=(b3.mp e).resolve_left okp.ne;have em:=hl.one hp b4;refine⟨_,rfl,_,rfl,_,rfl,.inr (.inr ⟨b,_,rfl,SqT.of (S _ _ hb),c2,λt2 a5=>?_⟩)⟩;rw[c1];have s4:=(Same.refl H2).new (o:=.tup (vP q.dropLast)) a5;refine⟨_,rfl,_,rfl,_,rfl,.inr (.inr ⟨a,_,rfl,SqT.of (s4 _ _ (S _ _ ha)),c4,λt3 a0=>?_⟩)⟩;rw[c3];have s5:=((Same.refl H2).new (o:=.tup (vP q.dropLast)) a5).new (o:=.tup (vP p.dropLast)) a0;refine q2q (p:=q.dropLast) (q:=p.dropLast) (by rw[q0d (λz=>by rw[<- z,q0b] at a0;cases a0)];exact q0b) q0b (q1g fr.ok.low) (q1g okp.low) ⟨_,rfl,?_,S.trans s5⟩;rw[decide_eq_true (hm em)];rfl
  rintro O H2 ⟨rfl,s3⟩;refine iteF ?_;refine⟨_,rfl,h,dx,_,rfl,s3 _ _ M,rfl,_,rfl,h,d,b,bl,rows,q,rfl,Y.same s3,s3 _ _ hb,fr.ok,hl.ok,λH3 ov s4 b5=>?_⟩;have G:=s3.trans s4;refine⟨λO Z=>O=false/\Same H Z,?_,?_⟩;rotate_left
  ·refine⟨_,rfl,_,rfl,?_⟩;rcases b5 with⟨rfl,_⟩|⟨e,r,rfl,j,hf,he⟩
   ·exact iteF ⟨rfl,G⟩
   ·refine iteT ?_;have er:=fr.un r j hf;rw[er] at he;refine⟨λO Z=>O=false/\Same H Z,λO Z x=>x,?_⟩;refine⟨_,rfl,_,rfl,q2q he (G _ _ ha) okp.low okp.low ⟨_,rfl,?_⟩⟩;rw[decide_eq_true rfl];refine iteF ⟨_,rfl,_,rfl,q0x (G _ _ hb) (G _ _ ha) fr.ok.low okp.low ⟨_,rfl,decide_eq_false b1,G⟩⟩
  rintro O Z ⟨rfl,s5⟩;refine iteF ?_;have a1:=Y.same s5;have b6:∀o v,H d≠some (.frz o v):=λo v e=>by rw[Y.d] at e;cases e
  refine⟨d,b6,_,rfl,h,c,dx,_,_,rfl,s5 _ _ M,hk.cl,hk.m,rfl,.inr (.inr (.inl ⟨rfl,.inr ⟨_,a1.d⟩⟩)),d,_,rfl,rfl,a1.d,λv hv=>?_⟩;have s6:=(Same.refl Z).new (o:=vwO v d) hv;have a6:upd Z v (vwO v d) v=some (vwO v d):=q0b;have I:=a1.same s6;have B:=s5.trans s6;generalize upd Z v (vwO v d)=H5 at s6 a6 I B;refine⟨v,d,_,rfl,a6,I.d,λob D hD=>?_⟩;have U:D≠d:=λz=>by rw[z,q0b] at hD;cases hD
  have b7:H5 D=none:=by rw[q0d U] at hD;exact hD
  have J:H D=none:=B.free b7;have b8:a≠d:=λz=>by have:=B _ _ ha;rw[z,I.d] at this;cases this
  have b9:b≠d:=λz=>by have:=B _ _ hb;rw[z,I.d] at this;cases this
  refine z5b (n:=rows.length) (λi ys W=>ys=((((rows.take i).map (cR p q)).map rR).map λr=>(kP r.1,r.2))/\W D=some (.dT ys)/\W d=some (.frz ob (dR (rows.map rR)))/\∀x u,x≠d->H x=some u->W x=some u)
   ⟨rfl,q0b,by rw[q0d U.symm];exact q0b,λx u n e=>by rw[q0d (λz=>by rw[z,J] at e;cases e),q0d n];exact B _ _ e⟩ (λi ys W x=>x.2.1) (λi ys W M x=>⟨x.2.2.1,by rw[Aa,Aa];exact M⟩) (λys W x=>⟨x.2.2.1,by rw[Aa,Aa];exact Aq _⟩) ?_ ?_
  ·rintro i ys W x H6 c8 ⟨rfl,X,a2,kp⟩ ⟨ky,v',b',T',L,a7,c0,rfl,rfl⟩;obtain⟨r,j,rfl,rfl⟩:∃r,rows[i]?=some r/\ky=kP r.1/\v'=mV r.2:=by
    rw[Am,Am] at L;cases e:rows[i]? with
    |none=>rw[e] at L;cases L
    |some r=>rw[e] at L;cases L;exact⟨r,rfl,rfl,rfl⟩
   rw[q1w] at a7;have a8:=hl.ok _ (Af j);have sT:=(Same.refl W).new (o:=.tup [.ref b',mV r.2]) c0;refine⟨T',_,rfl,SqT.of q0b,rfl,_,_,rfl,_,_,rfl,rfl,q3v,?_⟩;refine q6f (iteT ?_);refine⟨_,rfl,_,rfl,_,rfl,b',a,b,r.1,p,q,rfl,sT _ _ a7,sT _ _ (kp _ _ b8 ha),sT _ _ (kp _ _ b9 hb),a8.low,okp.low,by have:=a8.few;lia,by have:=fr.ok.few;lia,λe H7 s7 he=>?_⟩;have a3:=sT.trans s7;have a9:∀y∈((rows.take i).map (cR p q)).map rR,y.1≠carry p q r.1:=λy hy=>by
    obtain⟨z,hz,rfl⟩:=Ac.mp hy;obtain⟨x,hx,rfl⟩:=Ac.mp hz;exact q3s (f:=λr:Rw=>(cR p q r).1) (by rw[Ah] at a4;exact a4) j hx
   refine⟨_,rfl,kP (carry p q r.1),e,rfl,by rw[q1w];exact he,a3 _ _ X,by rw[Aa,Aa,Aa,Bg];exact small' (by lia),?_,q0b,?_,λx u n e=>?_⟩
   ·rw[q2d a9,Bc,j];show _=((((rows.take i++[r]).map (cR p q)).map rR).map λr=>(kP r.1,r.2))
    simp only[Ae];rfl
   ·rw[q0d U.symm];exact a3 _ _ a2
   ·rw[q0d (λz=>by rw[z,J] at e;cases e)];exact a3 _ _ (kp _ _ n e)
  ·rintro ys W ⟨rfl,X,a2,kp⟩;rw[Ba] at X;have b0:h≠d:=λz=>by have:=B _ _ M;rw[z,I.d] at this;cases this
   have c5:h≠D:=λz=>by rw[<- z,M] at J;cases J
   refine⟨ob,_,a2,_,rfl,h,c,dx,_,rfl,by rw[q0d b0];exact kp _ _ b0 M,hk.cl,hk.m,by show 2<1000;decide,?_⟩;refine k D _ J (λx u n e=>?_) ⟨⟨dx,q0b⟩,?_⟩
   ·rw[q0d n];by_cases z:x=d
    ·rw[z] at e ⊢;rw[q0b,<- Y.d];exact e
    ·rw[q0d z];exact kp _ _ z e
   ·rw[q0d c5.symm,q0d U];exact X
structure CallsC (P) (w) (K) (mg) (base) (c):Prop where
 m_rows:MCal P w K mg base c "rows" 2 Y5 (spHRows c)
 m_is_blind:MCal P w K mg base c "is_blind" 1 Y5 (spBlind c)
 k_Hall:KCal P w K mg base c "Hall" 4 Zu (spInit c)
noncomputable def spCopied(c:Addr):Sp:=λvs H Q _=>∃h d bl rows,vs=[.ref h]/\HallAt c H h d bl rows/\Hl bl rows/\rows.length<=60/\∀h' d' rows' H',Same H H'->H h'=none->HallAt c H' h' d' bl rows'->rows'.Perm rows->Q (.ref h') H'
noncomputable abbrev q8m:Stmt:=top 32
def x0n:FnScope ["hall"] ["hall"] (defScope q8m):=by trivial
def x0o(D:Df K mg "copied" q8m ["hall"])(T:Txt mg)(C:CallsC P w K mg base c):Cal P w K mg base "copied" 6 ["hall"] (spCopied c):=by
 refine D.cal x0n (λvs H Q E h=>?_) (λf W A outer s H vs Q E q h=>?_)
 ·obtain⟨h,d,bl,rows,rfl,_⟩:=h;rfl
 ·obtain⟨h,d,bl,rows,rfl,G,hl,X,k⟩:=h;refine⟨_,(q0f (q0o (pe_k C.k_Hall q (q0a (z6m C.m_rows q (pv 0)) (q0a (z6m C.m_is_blind q (pv 0)) q0e))))),?_⟩;obtain⟨R,S⟩:=G.i;refine⟨_,rfl,h,R,_,rfl,S,rfl,h,d,bl,rows,rfl,G,by lia,λr q=>(hl.ok r q).low,λL U H1 hL B I j Y=>?_⟩;have J:=G.same B;refine⟨_,rfl,h,R,_,rfl,B _ _ S,rfl,h,d,bl,rows,rfl,J,λx u M v n=>?_⟩;have O:Hl bl (U.map (·.2)):=hl.perm j;refine⟨x,u,L,bl,U,rfl,q0b,z3y I M v,O,by have:=j.length_eq;rw[Aa] at this;lia,λZ H2 hd i1 i2 i3=>⟨rfl,?_⟩⟩;obtain⟨s2,_⟩:=q8h M v hd i3;exact k x Z _ H2 (B.trans s2) (B.free M) ⟨⟨u,i1⟩,i2⟩ j
structure CallsM (P) (w) (K) (mg) (base) (c):Prop where
 m_move:MCal P w K mg base c "move" 4 Zy (spMove c)
noncomputable def spMade(c:Addr):Sp:=λvs H Q _=>∃h d a b bl rows p q,vs=[.ref h,.ref a,.ref b]/\HallAt c H h d bl rows/\rows.length<=60/\H a=some (.tup (vP p))/\H b=some (.tup (vP q))/\Mvd bl rows p q /\
 ∀D H',H D=none->(∀x u,x≠h->H x=some u->H' x=some u)->HallAt c H' h D bl (rows.map (cR p q))->Q (.bl true) H'
noncomputable abbrev q6n:Stmt:=top 33
def z7b:FnScope Zv Zv (defScope q6n):=by trivial
def z7c(D:Df K mg "is_made" q6n Zv)(T:Txt mg)(C:CallsM P w K mg base c):Cal P w K mg base "is_made" 5 Zv (spMade c):=by
 refine D.cal z7b (λvs H Q E h=>?_) (λf I A outer s H vs Q E J h=>?_)
 ·obtain⟨h,d,a,b,bl,rows,p,q,rfl,_⟩:=h;rfl
 ·obtain⟨h,d,a,b,bl,rows,p,q,rfl,G,u,ha,L,mv,k⟩:=h;refine⟨_,(q0c (z9h rfl (q0f (q1t (pe_m C.m_move J (pv 0) (q0a (pv 1) (q0a (pv 2) q0e)))))) (q0f (q0o q4i))),?_⟩;obtain⟨M,O⟩:=G.i;obtain⟨v,hp,par⟩:=mv.m;refine⟨_,rfl,h,M,_,rfl,O,rfl,_,rfl,_,rfl,h,d,a,b,bl,rows,p,q,v,rfl,G,mv.hl,u,ha,L,hp,par,mv.ne,mv.fr,mv.moved.paths,λR S B kp j=>?_⟩;exact k R S B kp j
structure CallsW (P) (w) (K) (mg) (base) (c):Prop where
 copied:Cal P w K mg base "copied" 6 ["hall"] (spCopied c)
 is_made:Cal P w K mg base "is_made" 5 Zv (spMade c)
noncomputable def spWalk(c:Addr):Sp:=λvs H Q _=>∃h d L bl rows zs,vs=[.ref h,.ref L]/\HallAt c H h d bl rows/\rows.length<=60/\ML H L zs/\WkOk bl rows (zs.map (·.2)) /\
 ∀h' d' rows' H',Same H H'->H h'=none->HallAt c H' h' d' bl rows'->rows'.Perm (wk rows (zs.map (·.2)))->Q (.ref h') H'
noncomputable abbrev z4h:Stmt:=top 34
def sc_walk:FnScope ["hall", "row", "walked", "at", "path", "place"] Yc (defScope z4h):=by trivial
def x6w(D:Df K mg "walk" z4h Yc)(T:Txt mg)(C:CallsW P w K mg base c):Cal P w K mg base "walk" 7 Yc (spWalk c):=by
 refine D.cal sc_walk (λvs H Q E h=>?_) (λf a3 A outer s H vs Q E hr h=>?_)
 ·obtain⟨h,d,L,bl,rows,S,rfl,_⟩:=h;rfl
 ·obtain⟨h,d,L,bl,rows,S,rfl,hh,W,ml,ok,k⟩:=h;refine⟨_,(q0c (q0i (i:=2) sc_walk.nd rfl (by trivial) (pe_c C.copied hr (q0a (pv 0) q0e))) (q0c (q1k Br rfl (@z4v _ _ _ _ _ _ _ _ K rfl rfl T.b_enumerate (q0a (pv 1) q0e) (by rfl)) (@q2h _ _ _ _ _ (2) K rfl rfl (q0l (q0h (i:=3) sc_walk.nd rfl (by trivial)) (q0l (@q2h _ _ _ _ _ (2) K rfl rfl (q0l (q0h (i:=4) sc_walk.nd rfl (by trivial)) (q0l (q0h (i:=5) sc_walk.nd rfl (by trivial)) q1p)) (by rfl) (by rfl)) q1p)) (by rfl) (by rfl)) (q0f (q1b (z1c (@q7u _ _ _ K rfl (pe_c C.is_made hr (q0a (pv 2) (q0a (pv 4) (q0a (pv 5) q0e)))) (λ_=>rfl))) (q0f q3a) q0m))) (q0f (q0o (pv 2))))),?_⟩;refine⟨_,rfl,h,d,bl,rows,rfl,hh,ok.hd,W,λZ d0 I H1 s1 X J a0=>?_⟩;refine⟨_,rfl,.inr ⟨L,_,rfl,SqL.of (s1 _ _ ml.at_),?_⟩⟩;refine q5t (λi G M=>∃x3 x4 x5 Y j,G=[some (.ref h),some (.ref L),some (.ref Z),x3,x4,x5]/\Same H M/\HallAt c M Z Y bl j/\j.Perm (wk rows ((S.map (·.2)).take i))) ⟨none,none,none,d0,I,rfl,s1,J,a0⟩ (λi G M h=>by obtain⟨_,_,_,_,_,_,U,_⟩:=h;exact SqL.of (U _ _ ml.at_)) ?_ ?_
  ·rintro i v T' G M hv ⟨x3,x4,x5,Y,j,rfl,U,q,B⟩ hT;obtain⟨z,hz,rfl⟩:=gR0 hv
   have sT:=(Same.refl M).new (o:=.tup [.int i,.ref z.1]) hT;obtain⟨A1,B1,g1,g2,g3⟩:=((ml.same U).same sT).pr z (Af hz);have a1:(S.map (·.2))[i]?=some z.2:=by rw[Am,hz];rfl
   have e1:(S.map (·.2)).take (i+1)=(S.map (·.2)).take i++[z.2]:=by rw[Bc,a1];rfl
   have a2:Mvd bl (wk rows ((S.map (·.2)).take i)) z.2.1 z.2.2:=by
    have:=(ok.take (i+1)).1;rw[e1] at this;exact(WkOk.app.mp this).2.1
   have mv:=a2.perm B;refine⟨T',_,rfl,SqT.of q0b,rfl,_,_,rfl,_,_,rfl,z.1,_,rfl,SqT.of g1,rfl,_,_,rfl,_,_,rfl,rfl,rfl,?_⟩;have O:=q.same sT;have s3:=U.trans sT;refine⟨_,rfl,_,rfl,_,rfl,Z,Y,A1,B1,bl,j,z.2.1,z.2.2,rfl,O,by rw[B.length_eq,x4c];exact W,g2,g3,mv,λD1 H4 a4 kp R=>⟨true,rfl,iteF ?_⟩⟩;refine⟨_,_,_,D1,_,rfl,λx u e=>kp x u (λy=>by rw[y,X] at e;cases e) (s3 _ _ e),R,?_⟩;rw[e1,z9k];exact B.map _
  ·rintro G M ⟨x3,x4,x5,Y,j,rfl,U,q,B⟩;rw[Aa,<- Aa (f:=λz:Zm=>z.2),Ba] at B;exact⟨_,rfl,k Z Y j M U X q B⟩
def Mve.mvd(hl:Hl bl rows)(m:Mve bl rows ms ms' p)(G:Hl bl (gRows rows ms)):Mvd bl (gRows rows ms) (tn ms p) (mvTo ms ms' p):=by
 obtain⟨r,v,B⟩:=Ac.mp m.hp;obtain⟨C,H,I⟩:=z0y hl m.g m.hp;obtain⟨J,L⟩:=m.to6 hl;have q:(mvTo ms ms' p).dropLast=tn ms (plc ms' p).dropLast:=Bk;have ml:(mvTo ms ms' p).getLastD []=(plc ms' p).getLastD []:=Ce;have f:=x3c hl m.g m.g' m.hp;refine⟨G,⟨r.2,Ac.mpr ⟨r,v,by rw[B]⟩,λhn=>?_⟩,λe=>?_,⟨f,?_,λS u M=>?_⟩⟩
 ·have h:(p,(none:Option Int))∈rows:=by rw[<- B,<- hn];exact v
  rw[q,C,(q0z hl m.g'.gw m.hp).2 h,(q0z hl m.g.gw m.hp).2 h]
 ·have D:(mvTo ms ms' p).dropLast=(tn ms p).dropLast:=by rw[e]
  have E:(mvTo ms ms' p).getLastD []=(tn ms p).getLastD []:=by rw[e]
  rw[q,C] at D;rw[ml,H] at E;have O:=q1r hl m.g.gw m.g.ap L I D;refine m.hn ?_;rw[q3q (q1a hl m.g'.gw m.hp).ne,q3q (q1a hl m.g.gw m.hp).ne,O,E]
 ·rw[q];rcases J with e|e
  ·left;rw[e];show thenP (plc ms) 7 []=[]
   unfold thenP;rw[if_pos rfl]
  ·exact .inr (Ac.mpr ⟨_,e,rfl⟩)
 ·obtain⟨x,P,rfl⟩:=Ac.mp u;have j:x.1∈rows.map (·.1):=Ac.mpr ⟨x,P,rfl⟩;obtain⟨Q,R⟩:=(q2i (z2w hl m.g j).ne f.ne).mp M;show tn ms x.1=tn ms p;rw[m.free hl j Q R]
def x0p(hl:Hl bl rows):gRows rows []=rows:=by
 unfold gRows;conv=>rhs;rw[<- Im rows]
 refine By λr f=>?_;rw[q4t hl (q6w f)];rfl
def Way.wks(hl:Hl bl rows)(w:Way bl rows f ms):WkOk bl rows f/\wk rows f=gRows rows ms:=by
 induction w with
 |nil=>exact⟨hl,(x0p hl).symm⟩
 | @put f ms ms' p w g hp ho hn ih =>
  obtain⟨q,j⟩:=ih;have h:=w.gd hl;have u:=q4s hl h.gw h.ap;have mv:Mvd bl (wk rows f) (tn ms p) (mvTo ms ms' p):=by rw[j];exact Mve.mvd hl ⟨h,g,hp,ho,hn⟩ u
  refine⟨q.snoc mv,?_⟩;rw[z9k,j];unfold gRows;rw[Ah];refine By λr v=>?_;show(carry _ _ (thenP (plc ms) 7 r.1),r.2)=_;rw[q6i hl h g hp ho (q6w v) (Aq _)]
theorem x4j:∀ ms   rows ,wk rows ms=rows.map λr=>(bhd ms r.1,r.2)
 |[],rows=>(Im rows).symm
 |m::r,rows=>by
  show wk (rows.map (cR m.1 m.2)) r=_;rw[x4j r,Ah];rfl
def wk_low(h:WkOk bl rows ms)(hp:p∈rows.map (·.1))(i):okP (bhd (ms.take i) p):=by
 obtain⟨r,f,rfl⟩:=Ac.mp hp;have:=(h.take i).1.fin.ok (bhd (ms.take i) r.1,r.2) (by rw[x4j];exact Ac.mpr ⟨r,f,rfl⟩);exact this
theorem x4k:∀{rows} {ms},WkOk bl rows ms->∀m∈ms,okP m.1/\okP m.2
 |rows,[],h,m,f=>nomatch f
 |rows,m'::r,h,m,f=>by
  rcases Bb.mp f with rfl|f
  ·exact⟨h.1.okp,h.1.fr.1⟩
  ·exact x4k h.2 m f
structure CallsDs (P) (w) (K) (mg) (base) (c):Prop where
 ask_wishes:Cal P w K mg base "ask_wishes" 8 Z3 (spAsk c)
 walk:Cal P w K mg base "walk" 7 Yc (spWalk c)
 all_places:Cal P w K mg base "all_places" 6 Z3 (spAllP c)
 path_behind:Cal P w K mg base "path_behind" 2 Y0 spBehindG
 path_then:Cal P w K mg base "path_then" 8 Zh (spPT 6)
noncomputable def spDoes(c:Addr):Sp:=λvs H Q _=>∃h d L R bl rows zs ws,vs=[.ref h,.ref L,.ref R]/\GW c H h d L bl rows zs/\ML H R ws/\WkOk bl rows (ws.map (·.2))/\(∀p∈rows.map (·.1),bhd (ws.map (·.2)) p=tn (zs.map (·.2)) p)/\ws.length<=200/\∀H',Same H H'->Q (.bl true) H'
noncomputable abbrev z4i:Stmt:=top 40
def sc_does:FnScope ["hall", "wishes", "row", "places"] Zz (defScope z4i):=by trivial
def x6x(D:Df K mg "does" z4i Zz)(T:Txt mg)(C:CallsDs P w K mg base c):Cal P w K mg base "does" 9 Zz (spDoes c):=by
 refine D.cal sc_does (λvs H Q E h=>?_) (λf b2 A outer s H vs Q E X h=>?_)
 ·obtain⟨h,d,L,R,bl,rows,zs,ws,rfl,_⟩:=h;rfl
 ·obtain⟨h,d,L,R,bl,rows,zs,ws,rfl,G,mr,wy,hd,b1,k⟩:=h;have hl:=G.hl;have b3:=G.few;refine⟨_,(q0c (q1t (pe_c C.ask_wishes X (q0a (pv 0) (q0a (pv 1) q0e)))) (q0c (z9h rfl (q0f (q1t (pe_c C.walk X (q0a (pv 0) (q0a (pv 2) q0e)))))) (q0c (q0i (i:=3) sc_does.nd rfl (by trivial) (pe_c C.all_places X (q0a (pv 0) (q0a (pv 1) q0e)))) (q0f (q0o (q0k (all_k K rfl rfl) (by rfl) T.b_all (by trivial) (q0a (z3o H rfl (q1x ["path"] [("row",2),("places",3)] rfl (@q4l _ _ _ _ K rfl (pv 3)) (λ_ _ _ _ _=>(q0h (i:=0) (show(["path", "row", "places"]:List Str).Nodup by trivial) rfl (by trivial))) (λ_ _ _ _ _=>q2m) (λ_ _ _ _ _=>(q5c (eq_k K rfl X) (pe_c C.path_behind X (q0a (pv 0) (q0a (pv 1) q0e))) (pe_c C.path_then X (q0a (pv 0) (q0a (pv 2) q0e))) (nomark _))))) q0e))))))),?_⟩;refine⟨_,rfl,_,rfl,h,d,L,bl,rows,zs,rfl,G.ha,hl,G.few,G.ml,G.gw,G.len,G.ap,λH1 s1=>?_⟩;have G1:=G.same s1;refine⟨_,rfl,_,rfl,h,d,R,bl,rows,ws,rfl,G1.ha,by lia,mr.same s1,wy,λh' d' a7 H2 s2 b4 _ _=>?_⟩;have Z:=s1.trans s2;have G2:=G.same Z;refine⟨_,rfl,_,rfl,h,d,L,bl,rows,zs,rfl,G2.ha,hl,by lia,G2.ml,G.gw,G.len,λJ B rs H3 a8 s3 pd pm _ e0=>?_⟩;have a4:=Z.trans s3;generalize hW:zs.map (·.2)=W at hd e0;have gw:GoodW rows W:=by rw[<- hW];exact G.gw
  have all:AllP H3 J B rows W:=.of pd (by rw[e0];exact pm.map _);have a0:=mr.same a4;have pl:B.length<=30:=by
   have h1:=congrArg List.length e0;have h2:=pm.length_eq;rw[Aa,Aa] at h1;lia
  have M:∀x∈B,x.2.1∈rows.map (·.1):=λx hx=>by
   have:x.2∈rs.map (λr=>(r.1,plc W r.1)):=by rw[<- e0];exact Ac.mpr ⟨x,hx,rfl⟩
   obtain⟨r,X,e⟩:=Ac.mp this;rw[<- e];exact Ac.mpr ⟨r,pm.mem_iff.mp X,rfl⟩
  refine⟨J,(λo v e=>by rw[Z.free a8] at e;cases e),?_⟩;refine⟨_,rfl,J,_,rfl,pd.at_,λob=>?_⟩;intro Dc a1;have O:Dc≠J:=q0q a1 q0b;have Y:H3 Dc=none:=by rw[q0d O] at a1;exact a1
  have a5:((B.map λx=>((x.2.1,.ref x.1):HRow)).map λr=>(kP r.1,r.2)).length=B.length:=by rw[Aa,Aa]
  refine q6a (n:=B.length) (λj ys H'=>ys=(List.replicate j true).map V.bl/\H' J=some (.frz ob (qR B))/\(∀c u,c≠J->H3 c=some u->H' c=some u)/\H' Dc=some (.lst ys)/\j<=B.length)
   ⟨rfl,by rw[q0d O.symm];exact q0b,λc u hc e=>by rw[q0d (q0j e Y),q0d hc];exact e,q0b,Bv _⟩ (λj ys H' x=>x.2.2.2.1) (λj ys H' hj x=>⟨x.2.1,by rw[a5];exact hj⟩) (λys H' x=>⟨x.2.1,by rw[a5];exact Aq _⟩) ?_ ?_
  ·rintro j ys H4 v H5 hj ⟨rfl,S,kp,a2,_⟩ ⟨rfl,ky,vv,pb,a9,a3,rfl⟩;obtain⟨y,hy,rfl,rfl⟩:∃y,B[j]?=some y/\ky=kP y.2.1/\vv=.ref y.1:=keyAt a9;rw[q1w] at a3;have U:=Af hy;have hj':=(Aj.mp hy).1;have r5:ML H5 R ws:=⟨kp _ _ (λz=>by have e:=a0.at_;rw[z,pd.at_] at e;cases e) a0.at_,λz hz=>(a0.pr z hz).keep λT xs e=>kp _ _ (λz=>by rw[z,pd.at_] at e;cases e) e⟩
   have I:=wk_low wy (M y U);refine⟨q1d,q6f (iteT ⟨_,rfl,_,rfl,pb,R,ws,y.2.1,rfl,r5,λz hz=>x4k wy z.2 (Ac.mpr ⟨z,hz,rfl⟩),λi=>⟨(I i).low,Fg (I i).few⟩,a3,λe2 H6 s6 h6=>?_⟩)⟩;have a6:AllP H6 J B rows W:=⟨.inr ⟨ob,s6 _ _ S⟩,λx hx=>s6 _ _ (kp _ _ (λz=>by have e:=pd.pr x hx;rw[z,pd.at_] at e;cases e) (pd.pr x hx)),all.pm⟩
   refine⟨_,rfl,_,rfl,pb,J,bl,rows,W,B,y.2.1,rfl,hl,gw,a6,s6 _ _ a3,m6_p (M y U),Aq _,λq H7 s7 h7=>?_⟩;have lo:Low (bhd (ws.map (·.2)) y.2.1):=by
    have:=(I (ws.map (·.2)).length).low;rw[Ba] at this;exact this
   refine q0x (s7 _ _ h6) h7 lo (q3j hl gw (m6_p (M y U))).1 ?_;rw[decide_eq_true (hd _ (M y U))];have b0:=s7 _ _ (s6 _ _ a2);refine⟨b0,small' (by rw[Aa,Se];lia),?_,by rw[q0d O.symm];exact s7 _ _ (s6 _ _ S),λc u hc e=>by rw[q0d (q0j e Y)];exact s7 _ _ (s6 _ _ (kp c u hc e)),q0b,hj'⟩;rw[List.replicate_succ',Ae];rfl
  rintro ys H4 ⟨rfl,S,kp,a2,_⟩;refine⟨ob,_,S,?_⟩;have s4:Same H3 (upd H4 J (qR B)):=q2c pd.at_ kp;refine⟨Dc,List.replicate B.length true,rfl,SqL.of (by rw[q0d O];exact a2),?_⟩;have e:(List.replicate B.length true).all id=true:=by
   rw[Mr];intro x hx;exact List.eq_of_mem_replicate hx
  rw[e];exact k _ (a4.trans s4)
section
variable{g g':Pth->Option Pth}{f:Pth->Pth}{ps ps':List Pth}{p q m:Pth}{xs ys:List Pth}
theorem x0q{q u:Type}{f:q->u}:∀{l:List q},(∀x∈l,∀y∈l,f x=f y->x=y)->l.Nodup->(l.map f).Nodup
 |[],_,_=>.nil
 |a::l,h,nd=>by
  obtain⟨v,B⟩:=Bu.mp nd;rw[Ay];refine Bu.mpr ⟨λz=>?_,x0q (λx C y D=>h x (Ap _ C) y (Ap _ D)) B⟩;obtain⟨b,j,e⟩:=Ac.mp z;rw[h b (Ap _ j) a Au e] at j;exact v j
def x3h(a:RingO g p (xs++m::ys)):RingO g m (m::ys++xs):=by
 obtain⟨x,f,j⟩:=a.r;have nd:(m::ys++xs).Nodup:=(Nd.nodup_iff).mp a.o.nd;have st:∀{i:Nat} {u v:Pth},(m::ys++xs)[i]?=some u->(m::ys++xs)[i+1]?=some v->g u=some v:=λ{i u v} e1 e2=>by
  rcases Um (i+1) (m::ys).length with z|z
  ·rw[Bt (by lia)] at e1;rw[Bt z] at e2;refine a.o.st (i:=xs.length+i) ?_ ?_
   ·rw[Cg (by lia),show xs.length+i-xs.length=i by lia];exact e1
   ·rw[Cg (by lia),show xs.length+i+1-xs.length=i+1 by lia];exact e2
  rcases Um i (m::ys).length with y|y
  ·have D:i=(m::ys).length-1:=by lia
   rw[Bt y,D,<- Cw] at e1;rw[Cg z,show i+1-(m::ys).length=0 by lia] at e2;have q:(xs++m::ys).getLast?=some u:=by rw[Nv,e1];rfl
   rw[f] at q;have h:=a.o.hd;cases xs with
   |nil=>cases e2
   |cons b l =>
    cases q;cases e2;cases h;exact j
  ·rw[Cg y] at e1;rw[Cg z] at e2;have hl:=(Aj.mp e2).1;refine a.o.st (i:=i-(m::ys).length) ?_ ?_
   ·rw[Bt (by lia)];exact e1
   ·rw[Bt (by lia),show i-(m::ys).length+1=i+1-(m::ys).length by lia];exact e2
 have B:∀{u:Pth},(m::ys++xs).getLast?=some u->g u=some m:=λ{u} e=>by
  cases hx:xs.getLast? with
  |none =>
   have:xs=[]:=List.getLast?_eq_none_iff.mp hx;subst this;rw[Cu] at e;rw[Rf,e] at f;cases f;have h:=a.o.hd;cases h;exact j
  |some v =>
   rw[Nv,hx] at e;cases e;have hl:xs.length-1<xs.length:=by have:=Bi.mpr (λz:xs=[]=>by rw[z] at hx;cases hx);lia
   rw[Cw] at hx;refine a.o.st (i:=xs.length-1) ?_ ?_
   ·rw[Bt hl];exact hx
   ·rw[Cg (by lia),show xs.length-1+1-xs.length=0 by lia];rfl
 refine⟨⟨⟨rfl,st,nd⟩,λ{u} e=>.inr (B e)⟩,?_⟩;obtain⟨u,C⟩:∃u,(m::ys++xs).getLast?=some u:=⟨_,Be (by simp)⟩
 exact⟨u,C,B C⟩
noncomputable def FL(xs zs:List Pth):Prop:=∃a m b,xs=a++m::b/\zs=m::b++a/\∀y∈xs,pLt y m=false
def FL.ring(h:FL xs ys)(o:RingO g p xs):∃m,RingP g m ys/\m∈xs:=by
 obtain⟨a,m,b,rfl,rfl,hl⟩:=h;have r:=x3h o;exact⟨m,⟨r.o,r.r,λy f=>hl y (by rcases Ao.mp f with z|z;exact Bo _ z;exact Cp _ z)⟩,by simp⟩
def FL.ex(h:xs≠[]):∃ys,FL xs ys:=by
 obtain⟨m,f,hl⟩:=z0w h;obtain⟨a,b,rfl⟩:=Us f;exact⟨_,a,m,b,rfl,rfl,hl⟩
def RingP.in_(h:RingP g p xs)(F:Fol ps g):p∈ps:=by
 obtain⟨y,f⟩:=h.dom;exact F.dom f
structure Ti (g g') (f:Pth->Pth) (ps ps'):Prop where
 F:Fol ps g
 F':Fol ps' g'
 im:∀q,q∈ps'↔∃p∈ps,f p=q
 inj:∀p∈ps,∀q∈ps,f p=f q->p=q
 com:∀p∈ps,∀q∈ps,g p=some q↔g' (f q)=some (f p)
def x0r{j:Type}{l:List j}{x}(h:l.reverse[i]?=some x):i<l.length/\l[l.length-1-i]?=some x:=by
 have f:=(Aj.mp h).1;rw[Of] at f;rw[Ss f] at h;exact⟨f,h⟩
def Ti.trk(t:Ti g g' f ps ps')(hp:p∈ps)(o:Trk g p xs)(hl:xs.getLast?=some q):Trk g' (f q) (xs.reverse.map f):=by
 have h:=o.in_ t.F hp;refine⟨by rw[Am,<- Mi,List.head?_reverse,hl];rfl,λ{i x y} h1 h2=>?_,x0q (λx v y B=>t.inj x (h x (Qo.mp v)) y (h y (Qo.mp B))) ((Vg _).nodup_iff.mpr o.nd)⟩;rw[Am] at h1 h2;obtain⟨a,ha,rfl⟩:=Dn.mp h1;obtain⟨b,C,rfl⟩:=Dn.mp h2;obtain⟨D,j⟩:=x0r ha;obtain⟨E,u⟩:=x0r C;have e:xs.length-1-i=(xs.length-1-(i+1))+1:=by lia
 rw[e] at j;exact(t.com b (h b (Af u)) a (h a (Af j))).mp (o.st u j)
def Ti.ring(t:Ti g g' f ps ps')(hp:p∈ps)(o:RingO g p xs):∃q,RingO g' q (xs.reverse.map f):=by
 obtain⟨x,u,B⟩:=o.r;have j:=o.o.toTrk.in_ t.F hp;have C:=t.trk hp o.o.toTrk u;have h:(xs.reverse.map f).getLast?=some (f p):=by
  rw[Ga,Su,Mi,o.o.hd];rfl
 have v:g' (f p)=some (f x):=(t.com x (j x (Et u)) p hp).mp B;exact⟨f x,⟨C,λ{z} hz=>by rw[h] at hz;cases hz;exact .inr v⟩,f p,h,v⟩
def Ti.rgs(t:Ti g g' f ps ps')(R:Rgs g rs)(B:Rgs g' h):∀xs∈rs,∃ys∈h,ys.Perm (xs.map f):=λxs C=>by
 obtain⟨p,u⟩:=R.is.mp C;obtain⟨q,v⟩:=t.ring (u.in_ t.F) u.ro;have j:xs.reverse.map f≠[]:=λz=>by
  have e:=v.o.hd;rw[z] at e;cases e
 obtain⟨ys,fl⟩:=FL.ex j;obtain⟨m,D,_⟩:=fl.ring v;refine⟨ys,B.is.mpr ⟨m,D⟩,?_⟩;obtain⟨a,G,b,E,rfl,_⟩:=fl;refine Nd.trans ?_;rw[<- E];exact(Vg xs).map f
def Ti.inv(t:Ti g g' f ps ps')(j:∀p∈ps,B (f p)=p):Ti g' g B ps' ps:=by
 refine⟨t.F',t.F,λq=>⟨λh=>⟨f q,(t.im _).mpr ⟨q,h,rfl⟩,j q h⟩,λ⟨y,C,e⟩=>?_⟩,λa ha b v e=>?_,λa ha b v=>?_⟩
 ·obtain⟨p,hp,rfl⟩:=(t.im y).mp C;rw[j p hp] at e;rw[<- e];exact hp
 ·obtain⟨p,hp,rfl⟩:=(t.im a).mp ha;obtain⟨q,u,rfl⟩:=(t.im b).mp v;rw[j p hp,j q u] at e;rw[e]
 ·obtain⟨p,hp,rfl⟩:=(t.im a).mp ha;obtain⟨q,u,rfl⟩:=(t.im b).mp v;rw[j p hp,j q u];exact(t.com q u p hp).symm
theorem z1a{D E H:Type}{R:D->E->Prop}{u:D->H}{v}:∀{l:List D} {m:List E},l.Nodup->m.Nodup->(∀x∈l,∃y∈m,R x y)->(∀y∈m,∃x∈l,R x y)->(∀x∈l,∀y∈m,R x y->u x=v y)->(∀x∈l,∀y∈m,∀z∈m,R x y->R x z->y=z)->(∀x∈l,∀z∈l,∀y∈m,R x y->R z y->x=z)->(l.map u).Perm (m.map v)
 |[],m,_,_,_,h2,_,_,_=>by
  cases m with
  |nil=>exact .nil
  |cons y m=>obtain⟨x,J,_⟩:=h2 y Au;cases J
 |x::l,m,L,M,h1,h2,h3,h4,h5=>by
  obtain⟨y,C,r⟩:=h1 x Au;obtain⟨a,b,rfl⟩:=Us C;have n1':=Bu.mp L;have pm:(a++y::b).Perm (y::(a++b)):=List.perm_middle;have n2':=Bu.mp (pm.nodup_iff.mp M);have up:∀z,z∈a++b->z∈a++y::b:=λz f=>pm.mem_iff.mpr (Ap _ f)
  have O:=z1a (R:=R) (u:=u) (v:=v) n1'.2 n2'.2 (λw h=>?_) (λz f=>?_) (λw h z f=>h3 w (Ap _ h) z (up z f)) (λw h z f I j=>h4 w (Ap _ h) z (up z f) I (up I j)) (λw h P q z f=>h5 w (Ap _ h) P (Ap _ q) z (up z f))
  ·rw[Ay,h3 x Au y C r];exact(O.cons _).trans ((pm.map v).symm)
  ·obtain⟨z,f,G⟩:=h1 w (Ap _ h);rcases Bb.mp (pm.mem_iff.mp f) with e|j
   ·rw[e] at G;exact absurd (h5 w (Ap _ h) x Au y C G r▸h) n1'.1
   ·exact⟨z,j,G⟩
  ·obtain⟨w,h,B⟩:=h2 z (up z f);rcases Bb.mp h with e|q
   ·rw[e] at B;exact absurd (h4 x Au y C z (up z f) r B▸f) n2'.1
   ·exact⟨w,q,B⟩
def q7g{rs:List (List Pth)}(nd:(rs.map (·.headD [])).Nodup):rs.Nodup:=q1n nd
def Ti.sizes(t:Ti g g' f ps ps'){I:Pth->Pth}(P:∀p∈ps,I (f p)=p)(R:Rgs g rs)(D:Rgs g' C):(rs.map (·.length)).Perm (C.map (·.length)):=by
 have Q:=t.inv P;have S:=t.rgs R D;have T:=Q.rgs D R;have E:∀J∈rs,∀a∈J,a∈ps:=λJ j a ha=>by
  obtain⟨p,v⟩:=R.is.mp j;exact v.o.toTrk.in_ t.F (v.in_ t.F) a ha
 have same:∀{h:Pth->Option Pth} {l:List Pth} {zs:List (List Pth)},Fol l h->Rgs h zs->∀x∈zs,∀y∈zs,∀a,a∈x->a∈y->x=y:=λ{h l zs} F Z x j y u a B h2=>by
  obtain⟨p,v⟩:=Z.is.mp j;obtain⟨q,G⟩:=Z.is.mp u;have e:=v.one G F B h2;subst e;exact v.o.uniq G.o
 have ne:∀{h:Pth->Option Pth} {zs:List (List Pth)},Rgs h zs->∀x∈zs,∃a,a∈x:=λ{h zs} Z x j=>by
  obtain⟨p,v⟩:=Z.is.mp j;exact⟨p,Af v.o.hd⟩
 refine z1a (R:=λJ U=>U.Perm (J.map f)) (q7g R.nd) (q7g D.nd) S (λy u=>?_) (λx j y u r=>by have:=r.length_eq;rw[Aa] at this;exact this.symm) (λx j y u z L M O=>?_) (λx j z L y u M O=>?_)
 ·obtain⟨x,j,r⟩:=T y u;refine⟨x,j,?_⟩;have e:(x.map f).Perm ((y.map I).map f):=r.map f;rw[Ah] at e;have W:y.map (f∘I)=y:=by
   conv=>rhs;rw[<- Im y]
   refine By λb H=>?_;obtain⟨q,G⟩:=D.is.mp u;obtain⟨p,hp,rfl⟩:=(t.im b).mp (G.o.toTrk.in_ t.F' (G.in_ t.F') b H);show f (I (f p))=f p;rw[P p hp]
  rw[W] at e;exact e.symm
 ·obtain⟨a,ha⟩:=ne R x j;have B:f a∈x.map f:=Ac.mpr ⟨a,ha,rfl⟩;exact same t.F' D y u z L (f a) (M.mem_iff.mpr B) (O.mem_iff.mpr B)
 ·obtain⟨a,ha⟩:=ne R x j;have B:f a∈z.map f:=O.mem_iff.mp (M.mem_iff.mpr (Ac.mpr ⟨a,ha,rfl⟩));obtain⟨b,H,e⟩:=Ac.mp B;have:=t.inj b (E z L b H) a (E x j a ha) e;rw[this] at H;exact same t.F R x j z L a ha H
def Ti.chs(t:Ti g g' f ps ps')(D:∀p∈ps,mv p↔v (f p))(E:∀p,mv p->p∈ps)(M:∀p q,g p=some q->mv q)(R:Chs g mv rs)(O:Chs g' v B):∀xs∈rs,xs.reverse.map f∈B:=λxs P=>by
 obtain⟨p,L,h⟩:=R.is.mp P;have hp:=E p L;have G:=h.o.toTrk.in_ t.F hp;have j:xs≠[]:=λz=>by have e:=h.o.hd;rw[z] at e;cases e
 have hl:xs.getLast?=some (xs.getLast j):=Be j;generalize xs.getLast j=x at hl;have C:=G x (Et hl);have Q:=t.trk hp h.o.toTrk hl;have H:(xs.reverse.map f).getLast?=some (f p):=by
  rw[Ga,Su,Mi,h.o.hd];rfl
 have u:g' (f p)=none:=by
  cases e:g' (f p) with
  |none=>rfl
  |some z =>
   obtain⟨y,I,rfl⟩:=(t.im z).mp (t.F'.to e);exact absurd ((t.com y I p hp).mpr e) (h.st y)
 have S:mv x:=by
  obtain⟨i,J⟩:=Bl.mp (Et hl);cases i with
  |zero =>
   have:=h.o.hd;rw[J] at this;cases this;exact L
  |succ i =>
   have hi':=(Aj.mp J).1;exact M _ _ (h.o.st (Ci (by lia)) J)
 have T:g x=none:=by
  rcases h.o.fin hl with e|e
  ·exact e
  ·exact absurd e (h.st x)
 refine O.is.mpr ⟨f x,(D x C).mp S,⟨Q,λ{z} hz=>by rw[H] at hz;cases hz;exact .inl u⟩,λq e=>?_⟩;obtain⟨y,I,rfl⟩:=(t.im q).mp (t.F'.dom e);have:=(t.com x C y I).mpr e;rw[T] at this;cases this
end
theorem z5s{rows:List Rw}(nd:(rows.map (·.1)).Nodup):∀{l m:List Rw},(∀r∈l,r∈rows)->(∀r∈m,r∈rows)->l.map (·.1)=m.map (·.1)->l=m
 |[],[],_,_,_=>rfl
 |[],_::_,_,_,h=>by cases h
 |_::_,[],_,_,h=>by cases h
 |a::l,b::m,h1,h2,h=>by
  rw[Ay,Ay] at h;injection h with e1 e2;rw[q0u (f:=λr:Rw=>r.1) nd (h1 a Au) (h2 b Au) e1,z5s nd (λr j=>h1 r (Ap _ j)) (λr j=>h2 r (Ap _ j)) e2]
def z5t(nd:(ms.map (·.1)).Nodup)(p:hs.Perm ms):plc hs=plc ms:=by
 funext x;have f:(hs.map (·.1)).Nodup:=(p.map _).nodup_iff.mpr nd;by_cases h:x∈ms.map (·.1)
 ·obtain⟨m,j,rfl⟩:=Ac.mp h;rw[q6u nd j,q6u f (p.mem_iff.mpr j)]
 ·rw[q5v h,q5v λz=>h ((p.map _).mem_iff.mp z)]
def GoodW.perm(g:GoodW rows ms)(p:hs.Perm ms):GoodW rows hs:=⟨λm f=>g.all m (p.mem_iff.mp f),(p.map _).nodup_iff.mpr g.nd⟩
def x0s{l m:List Rw}(p:l.Perm m)(nd:(m.map (·.1)).Nodup)(h:(l.map (·.1)).Pairwise (λa b=>pLt b a=false))(j:(m.map (·.1)).Pairwise (λa b=>pLt b a=false)):l=m :=
 z5s nd (λr f=>p.mem_iff.mp f) (λr f=>f) (q8c (p.map _) ((p.map _).nodup_iff.mpr nd) h j)
def x0t(gw:GoodW rows ms)(hl:Hl bl rows):okMs ms:=λm f=>by
 obtain⟨h,hk,_⟩:=(gw.all m f).th;exact⟨hl.ok _ hk,(gw.all m f).ok⟩
noncomputable def backW(rows:List Rw)(ms:List Mv):List Mv:=rows.map λr=>(thenP (plc ms) 7 r.1,thenP (plc ms) 7 r.1.dropLast++[r.1.getLastD []])
section
variable{bl:Bool}{rows:List Rw}{ms:List Mv}
def x0u(hl:Hl bl rows)(f:r∈rows):r.1.dropLast.length<=5:=by
 have:r.1.length<=6:=(hl.ok r f).few;rw[Bf];lia
def x0v(hl:Hl bl rows)(f:r∈rows):M6 rows 6 r.1.dropLast:=(hl.dr r f).imp id λz=>.inl ⟨z,Cc (x0u hl f) (by decide)⟩
def x3i(h:IsD rows d):IsD (gRows rows ms) (thenP (plc ms) 7 d):=by
 rcases h with h|h
 ·rw[h];exact .inl rfl
 ·exact .inr (Ac.mpr ⟨_,h,rfl⟩)
def x0w(hl:Hl bl rows)(gw:GoodW rows ms)(ap:Apart bl rows (plc ms)):((backW rows ms).map (·.1)).Nodup:=by
 have e:(backW rows ms).map (·.1)=(gRows rows ms).map (·.1):=by unfold backW gRows;rw[Ah,Ah];rfl
 rw[e];exact z5o hl gw ap
def x0x(hl:Hl bl rows)(gw:GoodW rows ms)(ap:Apart bl rows (plc ms)):GoodW (gRows rows ms) (backW rows ms):=by
 refine⟨λm h=>?_,x0w hl gw ap⟩;obtain⟨r,f,rfl⟩:=Ac.mp h;have ok:=hl.ok r f;obtain⟨e,_,_⟩:=q1m hl gw f;have hm':r.1∈rows.map (·.1):=Ac.mpr ⟨r,f,rfl⟩;refine⟨⟨r.2,Ac.mpr ⟨r,f,rfl⟩,?_⟩,?_,?_⟩
 ·by_cases hn:r.2=none
  ·left;show(thenP (plc ms) 7 r.1.dropLast++[r.1.getLastD []]).dropLast=(thenP (plc ms) 7 r.1).dropLast;rw[e,Bk,Bk,(q0z hl gw hm').2 (by rw[<- hn];exact f)]
  ·exact .inr hn
 ·obtain⟨j,q⟩:=q5x hl gw (k:=6) (p:=r.1.dropLast) (hl.dr r f) (Cc (x0u hl f) (by decide));have u:=x0u hl f;refine⟨by show thenP (plc ms) 7 r.1.dropLast++[r.1.getLastD []]≠[];simp,by show(thenP (plc ms) 7 r.1.dropLast++[r.1.getLastD []]).length<=6;rw[An,j];show _+1<=6;lia,λn hn=>?_⟩;rcases Ao.mp hn with hn|hn
  ·exact q n hn
  ·rw[Ak.mp hn];exact q2n ok
 ·show IsD (gRows rows ms) (thenP (plc ms) 7 r.1.dropLast++[r.1.getLastD []]).dropLast;rw[Bk];exact x3i (hl.dr r f)
def q7h(hl:Hl bl rows)(gw:GoodW rows ms)(ap:Apart bl rows (plc ms))(f:r∈rows):plc (backW rows ms) (thenP (plc ms) 7 r.1)=thenP (plc ms) 7 r.1.dropLast++[r.1.getLastD []] :=
 q6u (m:=(thenP (plc ms) 7 r.1,thenP (plc ms) 7 r.1.dropLast++[r.1.getLastD []])) (x0w hl gw ap) (Ac.mpr ⟨r,f,rfl⟩)
def q6o(hl:Hl bl rows)(gw:GoodW rows ms)(ap:Apart bl rows (plc ms)):Apart bl (gRows rows ms) (plc (backW rows ms)):=by
 show(((gRows rows ms).map (·.1)).map λp=>fold bl (plc (backW rows ms) p)).Nodup;have e:((gRows rows ms).map (·.1)).map (λp=>fold bl (plc (backW rows ms) p))=rows.map λr=>fold bl (thenP (plc ms) 7 r.1.dropLast++[r.1.getLastD []]):=by
  unfold gRows;rw[Ah,Ah];refine By λr j=>?_;show fold bl (plc (backW rows ms) (thenP (plc ms) 7 r.1))=_;rw[q7h hl gw ap j]
 rw[e];refine Ic.mpr (Gv (λ{p q} hp hq n z=>?_) (q1n hl.paths));obtain⟨f,h⟩:=(q2i (by simp) (by simp)).mp z;rw[Bk,Bk] at f;rw[Ce,Ce] at h;have u:=q1r hl gw ap (x0v hl hp) (x0v hl hq) f;have v:fold bl p.1=fold bl q.1:=(q2i (hl.ok p hp).ne (hl.ok q hq).ne).mpr ⟨u,h⟩;have nd:(rows.map λr=>fold bl r.1).Nodup:=hl.nd;exact n (q0u nd hp hq v)
theorem q8n(hl:Hl bl rows)(gw:GoodW rows ms)(ap:Apart bl rows (plc ms)):∀{k} {r},r∈rows->r.1.length<=k->thenP (plc (backW rows ms)) (k+1) (thenP (plc ms) 7 r.1)=r.1
 |0,r,hr,h=>absurd (Ha.mp (by lia)) (hl.ok r hr).ne
 |k+1,r,hr,h=>by
  have ok:=(hl.ok r hr).ne;obtain⟨e,_,_⟩:=q1m hl gw hr;have ne:thenP (plc ms) 7 r.1≠[]:=by rw[e];simp
  have f:=Bi.mpr ok;show(if thenP (plc ms) 7 r.1=[] then[] else thenP (plc (backW rows ms)) (k+1) (plc (backW rows ms) (thenP (plc ms) 7 r.1)).dropLast++[(plc (backW rows ms) (thenP (plc ms) 7 r.1)).getLastD []])=_;rw[if_neg ne,q7h hl gw ap hr,Bk,Ce];have j:thenP (plc (backW rows ms)) (k+1) (thenP (plc ms) 7 r.1.dropLast)=r.1.dropLast:=by
   rcases hl.dr r hr with hd|hd
   ·rw[hd];rfl
   ·exact q8n hl gw ap (r:=(r.1.dropLast,none)) hd (by show r.1.dropLast.length<=k;rw[Bf];lia)
  rw[j,Cv,Be ok];exact Fy ok
def x0y(hl:Hl bl rows)(gw:GoodW rows ms)(ap:Apart bl rows (plc ms)):gRows (gRows rows ms) (backW rows ms)=rows:=by
 unfold gRows;rw[Ah];refine(By λr f=>?_).trans (Im _);show(thenP (plc (backW rows ms)) 7 (thenP (plc ms) 7 r.1),r.2)=r;rw[q8n hl gw ap f (hl.ok r f).few]
end
def Wsh.rows{rows f}(h:Wsh rows m)(p:f.Perm rows):Wsh f m :=
 ⟨let ⟨k,j,q⟩:=h.th;⟨k,p.mem_iff.mpr j,q⟩,h.ok,h.dr.imp id λz=>p.mem_iff.mpr z⟩
def GoodW.rows{rows f}(g:GoodW rows ms)(p:f.Perm rows):GoodW f ms:=⟨λm h=>(g.all m h).rows p,g.nd⟩
def Apart.rows{rows h}(a:Apart bl rows f)(p:h.Perm rows):Apart bl h f:=((p.map _).map _).nodup_iff.mpr a
def Ti.csizes(t:Ti g g' f ps ps'){L:Pth->Pth}(I:∀p∈ps,L (f p)=p)(C:∀p∈ps,mv p↔j (f p))(D:∀p,mv p->p∈ps)(v:∀p,j p->p∈ps')(T:∀p q,g p=some q->mv q)(M:∀p q,g' p=some q->j q)(R:Chs g mv rs)(J:Chs g' j E):(rs.map (·.length)).Perm (E.map (·.length)):=by
 have U:=t.inv I;have W:=t.chs C D T R J;have X:=U.chs (λq Y=>by
  obtain⟨p,hp,rfl⟩:=(t.im q).mp Y;rw[I p hp];exact(C p hp).symm) v M J R
 have G:∀u∈rs,∀a∈u,a∈ps:=λu B a ha=>by
  obtain⟨p,Z,cp⟩:=R.is.mp B;exact cp.o.toTrk.in_ t.F (D p Z) a ha
 have back:∀u:List Pth,(∀a∈u,a∈ps)->(u.reverse.map f).map L=u.reverse:=λu h=>by
  rw[Ah];refine(By λa ha=>?_).trans (Im _);exact I a (h a (Qo.mp ha))
 refine z1a (R:=λu ys=>ys=u.reverse.map f) (q7g R.nd) (q7g J.nd) (λx B=>⟨_,W x B,rfl⟩) (λy H=>?_) (λx B y H r=>by rw[r,Aa,Of]) (λx B y H z Q O P=>Eq.trans (b:=x.reverse.map f) O (Eq.symm P)) (λx B z Q y H O P=>?_)
 ·refine⟨_,X y H,?_⟩;rw[<- Qn,List.reverse_reverse,Ah];obtain⟨q,mq,cq⟩:=J.is.mp H;refine((By λb hb=>?_).trans (Im _)).symm;obtain⟨p,hp,rfl⟩:=(t.im b).mp (cq.o.toTrk.in_ t.F' (v q mq) b hb);show f (L (f p))=f p;rw[I p hp]
 ·have S:=back x (G x B);have e2:=back z (G z Q);rw[<- O,P,e2] at S;exact List.reverse_inj.mp S.symm
section
variable{bl:Bool}{rows rows2:List Rw}{ms hs:List Mv}
def x0z(hl:Hl bl rows)(g:Gd bl rows ms)(hp:p∈rows.map (·.1))(j:q∈rows.map (·.1)):fold bl (tn ms p)=fold bl (plc (backW rows ms) (tn ms q))↔fold bl q=fold bl (plc ms p):=by
 obtain⟨r,u,rfl⟩:=Ac.mp hp;obtain⟨x,f,rfl⟩:=Ac.mp j;obtain⟨e,d,l⟩:=q1m hl g.gw u;rw[show tn ms r.1=_ from e,q7h hl g.gw g.ap f,q2i (by simp) (by simp),q2i (hl.ok x f).ne (q1a hl g.gw hp).ne];simp only[Bk,Ce];have i:thenP (plc ms) 7 (plc ms r.1).dropLast=thenP (plc ms) 7 x.1.dropLast↔x.1.dropLast=(plc ms r.1).dropLast :=
  ⟨λe=>(q1r hl g.gw g.ap (m6_d d (by lia)) (x0v hl f) e).symm,λe=>by rw[e]⟩
 rw[i];refine and_congr_right λ_=>?_;cases bl<;>exact⟨λh=>h.symm,λh=>h.symm⟩
def z3a(hl:Hl bl rows)(g:Gd bl rows ms)(hp:p∈rows.map (·.1)):plc (backW rows ms) (tn ms p)=tn ms p↔plc ms p=p:=by
 obtain⟨r,f,rfl⟩:=Ac.mp hp;obtain⟨e,d,l⟩:=q1m hl g.gw f;rw[show tn ms r.1=_ from e];rw[<- e,q7h hl g.gw g.ap f,e];constructor
 ·intro h;have j:=congrArg List.dropLast h;have q:=congrArg (λl=>List.getLastD l []) h;simp only[Bk,Ce] at j q;have u:=q1r hl g.gw g.ap (x0v hl f) (m6_d d (by lia)) j;rw[q3q (q1a hl g.gw hp).ne,<- u,<- q,<- q3q (hl.ok r f).ne]
 ·intro h;rw[h]
def x4l(hl:Hl bl rows)(ap:Apart bl rows (plc ms))(h:gOf bl rows ms p=some q):mvOf rows ms q:=by
 obtain⟨j,B,f,u,v⟩:=(q1f hl).mp h;refine⟨f,λe=>v ?_⟩;exact q0u ap f j (by show fold bl (plc ms q)=fold bl (plc ms p);rw[e];exact u)
def x6y(hl:Hl bl rows)(hp:p∈rows.map (·.1))(f:q∈rows.map (·.1))(e:fold bl p=fold bl q):p=q:=by
 have nd:((rows.map (·.1)).map λp=>fold bl p).Nodup:=by rw[Ah];exact hl.nd
 exact q0u nd hp f e
def q6p(hl:Hl bl rows)(g:Gd bl rows ms)(pm:rows2.Perm (gRows rows ms))(e:plc hs=plc (backW rows ms)):Ti (gOf bl rows ms) (gOf bl rows2 hs) (tn ms) (rows.map (·.1)) (rows2.map (·.1)):=by
 have j:Hl bl rows2:=(q4s hl g.gw g.ap).perm pm;have B:Apart bl rows2 (plc hs):=by rw[e];exact(q6o hl g.gw g.ap).rows pm
 have inj:∀p∈rows.map (·.1),∀q∈rows.map (·.1),tn ms p=tn ms q->p=q:=λp hp q f e=>q1r hl g.gw g.ap (m6_p hp) (m6_p f) e;have im:∀q,q∈rows2.map (·.1)↔∃p∈rows.map (·.1),tn ms p=q:=λq=>by
  rw[(pm.map _).mem_iff];unfold gRows;rw[Ah];constructor
  ·intro h;obtain⟨r,C,rfl⟩:=Ac.mp h;exact⟨r.1,Ac.mpr ⟨r,C,rfl⟩,rfl⟩
  ·rintro⟨p,hp,rfl⟩;obtain⟨r,C,rfl⟩:=Ac.mp hp;exact Ac.mpr ⟨r,C,rfl⟩
 refine⟨z2v hl g.ap,z2v j B,im,inj,λp hp q f=>?_⟩;have tp:=(im _).mpr ⟨p,hp,rfl⟩;have E:=(im _).mpr ⟨q,f,rfl⟩;have D:=x0z hl g hp f;rw[q1f hl,q1f j,e];constructor
 ·rintro⟨_,G,_,v,u⟩;refine⟨E,λz=>?_,tp,D.mpr v,λz=>u (inj p hp q f z).symm⟩;have:=(z3a hl g f).mp z;refine u (q0u g.ap f hp ?_);show fold bl (plc ms q)=fold bl (plc ms p);rw[this];exact v
 ·rintro⟨_,G,_,v,u⟩;have h4':=D.mp v;refine⟨hp,λz=>?_,f,h4',λz=>u (by rw[z])⟩;rw[z] at h4';exact u (by rw[x6y hl f hp h4'])
def x1a(hl:Hl bl rows)(g:Gd bl rows ms)(pm:rows2.Perm (gRows rows ms))(e:plc hs=plc (backW rows ms)):∀p∈rows.map (·.1),mvOf rows ms p↔mvOf rows2 hs (tn ms p):=λp hp=>by
 have tp:=((q6p hl g pm e).im _).mpr ⟨p,hp,rfl⟩;have bs:=z3a hl g hp;unfold mvOf;rw[e];exact⟨λh=>⟨tp,λz=>h.2 (bs.mp z)⟩,λh=>⟨hp,λz=>h.2 (bs.mpr z)⟩⟩
def z4j(hl:Hl bl rows)(g:Gd bl rows ms)(e:plc hs=plc (backW rows ms)):∀p∈rows.map (·.1),tn hs (tn ms p)=p:=λp hp=>by
 obtain⟨r,f,rfl⟩:=Ac.mp hp;show thenP (plc hs) 7 _=_;rw[e];exact q8n hl g.gw g.ap f (hl.ok r f).few
def q9s(hl:Hl bl rows)(g:Gd bl rows ms)(pm:rows2.Perm (gRows rows ms))(e:plc hs=plc (backW rows ms))(R:Rgs (gOf bl rows ms) rs)(h:Rgs (gOf bl rows2 hs) f):(rs.map (·.length)).Perm (f.map (·.length)):=(q6p hl g pm e).sizes (z4j hl g e) R h
def z4k(hl:Hl bl rows)(g:Gd bl rows ms)(pm:rows2.Perm (gRows rows ms))(e:plc hs=plc (backW rows ms))(R:Chs (gOf bl rows ms) (mvOf rows ms) rs)(j:Chs (gOf bl rows2 hs) (mvOf rows2 hs) f):(rs.map (·.length)).Perm (f.map (·.length)) :=
 (q6p hl g pm e).csizes (z4j hl g e) (x1a hl g pm e) (λ_ h=>h.1) (λ_ h=>h.1) (λ_ _ h=>x4l hl g.ap h) (λ_ _ h=>x4l ((q4s hl g.gw g.ap).perm pm) (by rw[e];exact(q6o hl g.gw g.ap).rows pm) h) R j
def x1b(hl:Hl bl rows)(g:Gd bl rows ms)(pm:rows2.Perm (gRows rows ms))(e:plc hs=plc (backW rows ms))(j:Way bl rows A as)(q:Way bl rows2 B bs)(u:∀p∈rows.map (·.1),tn as p=tn ms p)(v:∀p∈rows2.map (·.1),tn bs p=tn hs p):WkOk bl rows (A++B)/\(∀p∈rows.map (·.1),bhd (A++B) p=tn [] p)/\(wk rows2 B).Perm rows:=by
 have f:Hl bl rows2:=(q4s hl g.gw g.ap).perm pm;have C:=j.wks hl;have D:=q.wks f;have H:gRows rows as=gRows rows ms:=by
  unfold gRows;exact By λr h=>by rw[show thenP (plc as) 7 r.1=thenP (plc ms) 7 r.1 from u r.1 (Ac.mpr ⟨r,h,rfl⟩)]
 refine⟨WkOk.app.mpr ⟨C.1,by rw[C.2,H];exact D.1.perm pm.symm⟩,λp hp=>?_,?_⟩
 ·have tp:=((q6p hl g pm e).im _).mpr ⟨p,hp,rfl⟩;have E:=j.behind hl (m6_p hp);have G:=q.behind f (m6_p tp);unfold bhd at E G ⊢;rw[Lx,E,u p hp,G,v _ tp,z4j hl g e p hp];exact(q4t hl (m6_p hp)).symm
 ·rw[D.2];have I:gRows rows2 bs=gRows rows2 hs:=by
   unfold gRows;exact By λr h=>by rw[show thenP (plc bs) 7 r.1=thenP (plc hs) 7 r.1 from v r.1 (Ac.mpr ⟨r,h,rfl⟩)]
  have J:gRows (gRows rows ms) hs=rows:=by
   conv=>rhs;rw[<- x0y hl g.gw g.ap]
   unfold gRows;rw[e]
  rw[I,<- J];exact pm.map _
def x3j(hl:Hl bl rows)(g:Gd bl rows ms)(pm:rows2.Perm (gRows rows ms))(e:plc hs=plc (backW rows ms))(da:Does bl rows ms A)(C:Does bl rows2 hs B):A.length=B.length:=by
 obtain⟨D,M,nd,is,E,O⟩:=da.len;obtain⟨G,H,f,h,j,I⟩:=C.len;have J:=(q9s hl g pm e E j).length_eq;rw[Aa,Aa] at J;have t:=q6p hl g pm e;have mv:=x1a hl g pm e;have pm:G.Perm (D.map (tn ms)):=by
  have u:∀x∈D,x∈rows.map (·.1):=λx v=>((is x).mp v).1;refine(Kh f (x0q (λx v y L=>t.inj x (u x v) y (u y L)) nd)).mpr λq=>?_;rw[h q];refine⟨λz=>?_,λz=>?_⟩
  ·obtain⟨p,hp,rfl⟩:=(t.im q).mp z.1;exact Ac.mpr ⟨p,(is p).mpr ((mv p hp).mpr z),rfl⟩
  ·obtain⟨p,hp,rfl⟩:=Ac.mp z;exact(mv p (u p hp)).mp ((is p).mp hp)
 have:=pm.length_eq;rw[Aa] at this;lia
def x3k(w:Way bl rows f ms)(p:rows2.Perm rows):Way bl rows2 f ms:=by
 induction w with
 |nil=>exact .nil
 |put w g hp ho hn ih=>exact .put ih ⟨g.gw.rows p,g.ap.rows p⟩ ((p.map _).mem_iff.mpr hp) ho hn
def x1c(hl:Hl bl rows)(g:Gd bl rows ms)(e:∀u∈rows.map (·.1),plc ms u=plc hs u):∀p∈rows.map (·.1),tn ms p=tn hs p:=λp hp=>(q9r (f:=plc ms) hl g.gw e (m6_p hp)).symm
def z3b{ps:List Pth}{rs:List Zl}(nd:((rs.map cont).map (·.headD [])).Nodup)(h:∀xs∈rs.map cont,xs.headD []∈ps):rs.length<=ps.length:=by
 have:=q8s nd (m:=ps) λx f=>by
  obtain⟨y,j,rfl⟩:=Ac.mp f;exact h y j
 rw[Aa,Aa] at this;exact this
end
noncomputable def lnI(cs:List (List Pth)):List Int:=cs.map λxs=>(xs.length:Int)
def lens(D:LLs q R rs)(few:rs.length<=40)(E:q B=none){Fin}(k:∀H',H' B=some (.lst ((lnI (rs.map cont)).map V.int))->Same q H'->Fin ((lnI (rs.map cont)).map V.int) H'):
  CompW (Itl K R) (gName 0) tIf0 (tCB (λxs H Q=>∃x n,xs=[x]/\LenV K x H n/\Q (.int (n)) H) (tCons (tVar 0) tNil)) [none] B Fin q:=by
 refine q8z (xs:=rs.map λz=>V.ref z.1) (λj u H'=>u=(lnI ((rs.take j).map cont)).map V.int/\j<=rs.length/\Same q H'/\H' B=some (.lst u)) ⟨rfl,Bv _,(Same.refl q).new E,q0b⟩ (λj u H' ⟨_,_,sm,h⟩=>⟨h,SqL.of (sm _ _ D.at_)⟩) ?_ ?_
 ·rintro j u G x I ⟨rfl,J,sm,f⟩;rw[Am] at I;obtain⟨z,v,rfl⟩:=Dn.mp I;have C:=Af v;have hj':=(Aj.mp v).1;have pl:=(D.pr z C).same sm;refine⟨_,rfl,_,_,rfl,.inl ⟨_,SqL.of pl.at_,rfl⟩,f,TX.small' (by unfold lnI;rw[Aa,Aa,Aa,Bg];lia),?_,hj',sm.put E,q0b⟩;unfold lnI cont;rw[Lk,v,Ae,Ae,Ae,Aa];simp
 ·rintro u G ⟨rfl,_,sm,f⟩;rw[Aa,Ba] at f ⊢;exact k G f sm
theorem z1b:∀ks:List Int,Dts K H (ks.map V.int) (ks.map Cs.int)
 |[]=>.nil
 |k::ks=>.cons (.int k) (z1b ks)
theorem x4m:∀ks:List Int,Cn (ks.map Cs.int)=true
 |[]=>by simp[Cn]
 |_::ks=>by rw[Ay];simp only[Cn,Fz,x4m ks,Pe]
theorem z5u:∀ks:List Int,Gf (ks.map Cs.int)<=50
 |[]=>by simp[Gf]
 |_::ks=>by have:=z5u ks;rw[Ay];simp only[Gf,Iz];lia
def x1d{ns:List Int}(ha:H a=some (.lst (ns.map V.int)))(h:H b=some (.lst (ns.map V.int)))(k:Q (.bl false) H):rNeU K (.ref a) (.ref b) H Q:=by
 have f:(Cs.list (ns.map Cs.int)).canLay0=true:=by simp only[Fz,x4m]
 refine .inr ⟨_,_,.lst (SqL.of ha) (z1b ns),.lst (SqL.of h) (z1b ns),f,f,?_,?_⟩
 ·have:=z5u ns;rw[Ui];simp only[Iz];lia
 ·rw[SeqAt.eqv_refl _ f];exact k
def x6z(x:NwD H N ns rows f)(hl:Hl bl rows)(hp:p∈rows.map (·.1))(v:H b=some (.tup (vP p))):∃e,DGet H N (.ref b) (some (.ref e))/\H e=some (.tup (vP (f p))):=by
 have j:(ns.map (·.2)).map (·.1)=rows.map (·.1):=by rw[x.e,Ah];rfl
 have nd:((ns.map (·.2)).map (·.1)).Nodup:=by rw[j];exact hl.paths
 rcases x.pd.get nd v with⟨hn,_⟩|⟨y,q,u,dg,h⟩
 ·rw[j] at hn;exact absurd hp hn
 ·refine⟨y.1,dg,?_⟩;have B:y.2∈rows.map λr=>(r.1,f r.1):=by rw[<- x.e];exact Ac.mpr ⟨y,q,rfl⟩
  obtain⟨r,_,e⟩:=Ac.mp B;have C:plc (ns.map (·.2)) p=y.2.2:=by rw[<- u];exact q6u nd (Ac.mpr ⟨y,q,rfl⟩)
  rw[C,<- e] at h;have D:r.1=p:=by rw[<- u,<- e]
  rw[<- D];exact h
structure CallsL (P) (w) (K) (mg) (base) (c):Prop where
 draw:Cal P w K mg base "_law_draw" 1 Z7 spDraw
 rows:Cal P w K mg base "_law_rows" 4 Zg spRows
 good_wishes:Cal P w K mg base "_law_good_wishes" 5 Z8 (spGoodW P w)
 in_order:Cal P w K mg base "_law_in_order" 3 Zj spInOrder
 goal:Cal P w K mg base "goal" 9 Z3 (spGoal c)
 ends:Cal P w K mg base "_law_ends" 9 Zk spEnds
 rings:Cal P w K mg base "rings" 10 Z3 (spRings c)
 chains:Cal P w K mg base "chains" 10 Z3 (spChains c)
 row_for:Cal P w K mg base "row_for" 11 Z3 (spRowFor c)
 walked:Cal P w K mg base "_law_walked" 3 Ze spWalked
 does:Cal P w K mg base "does" 9 Zz (spDoes c)
 m_rows:MCal P w K mg base c "rows" 2 Y5 (spHRows c)
 k_Hall:KCal P w K mg base c "Hall" 4 Zu (spInit c)
noncomputable def spLaw(K:Al):Sp:=λvs H Q _=>∃(a:Addr) (ns:List Int),vs=[.ref a]/\SqL K H a (ns.map V.int)/\ns.length<=63/\∀H',Q (.bl true) H'
noncomputable abbrev q4v:Stmt:=top 59
def sc_law:FnScope Z4 ["_law_script"] (defScope q4v):=by trivial
def x3l(T:Txt mg)(C:CallsL P w K mg base c)(f)(q3)(A)(outer)(s)(H)(vs)(Q)(E)(j:Room 11 (A.deeper (PyProof.Rows.envOfC "law" (defScope q4v) s.heap.objs.size f q3)))(h:spLaw K vs H Q E):
  ∃t,PSs (cxOf CX0 P w K mg base Z4 "law" (defScope q4v) f q3 A outer s H E).nox (defBody q4v) t/\t { nx:=λ_ H'=>Q .non H',rt:=Q } (L2.start Z4 vs) H:=by
  obtain⟨sc,ns,rfl,hS,G6,k⟩:=h;refine⟨_,(q0c (q0i (i:=1) sc_law.nd rfl (by trivial) (q2f (q0a (q3d (x3s K rfl) (by rfl) T.b_list (by trivial) (q0a (pv 0) q0e)) (q0a q0g (q0a q0g q0e))))) (q0c (q1k Br rfl (q4j rfl T.b_range (q0a (q0k (z7q rfl) (by rfl) T.b_max (by trivial) (q0a q0g (q0a (q0k (z7r rfl) (by rfl) T.b_min (by trivial) (q0a q0g (q0a (q0k (q3l K rfl) (by rfl) T.b_len Cd (q0a (pv 0) q0e)) q0e))) q0e))) q0e)) (q0h (i:=2) sc_law.nd rfl (by trivial)) (q0c (q0i (i:=3) sc_law.nd rfl (by trivial) (q5c (eq_k K rfl j) (pe_c C.draw j (q0a (pv 1) (q0a q0g q0e))) q0g (nomark _))) (q0c (q0i (i:=4) sc_law.nd rfl (by trivial) (pe_c C.rows j (q0a (pv 1) (q0a (pv 3) (q0a q0g q0e))))) (q0c (q0i (i:=5) sc_law.nd rfl (by trivial) (pe_c C.good_wishes j (q0a (pv 1) (q0a (pv 4) (q0a (pv 3) (q0a q0g q0e)))))) (q0c (q0i (i:=6) sc_law.nd rfl (by trivial) (pe_c C.in_order j (q0a (pv 1) (q0a (pv 5) q0e)))) (q0c (q0i (i:=7) sc_law.nd rfl (by trivial) (pe_k C.k_Hall j (q0a (pv 4) (q0a (pv 3) q0e)))) (q0c (q0i (i:=8) sc_law.nd rfl (by trivial) (pe_k C.k_Hall j (q0a (pe_c C.goal j (q0a (pv 7) (q0a (pv 6) q0e))) (q0a (pv 3) q0e)))) (q0c (q0i (i:=9) sc_law.nd rfl (by trivial) (pe_c C.ends j (q0a (pv 4) (q0a (pv 5) q0e)))) (q0c (q0i (i:=10) sc_law.nd rfl (by trivial) q3n) (q0c (q3y H rfl (q1k Br rfl (@q4l _ _ _ _ K rfl (pv 9)) (q0h (i:=11) sc_law.nd rfl (by trivial)) (q0c (q0i (i:=12) sc_law.nd rfl (by trivial) (q1j q0e)) (q3e (q1b (q0n x4r (q0k (q3l K rfl) (by rfl) T.b_len Cd (q0a (pv 11) q0e)) q0g (nomark _)) (q0f (q0i (i:=12) sc_law.nd rfl (by trivial) (q0v (q1c j) (pv 9) (q0p (sl_k K rfl) (pv 11) q0r (q0s (q1i q0t q0g))) (λ_ _=>rfl)))) q0m) (q0f (q3x (q1c j) (pv 10) (q0v (q1c j) (pv 9) (pv 11) (λ_ _=>rfl)) (q1l q3h (pv 12) (q1j (q0a (q1q (ix_k K rfl) (pv 11) (q1i q0t q0g) (λ_ _=>rfl)) q0e))) rfl)))))) (q0c (q0i (i:=13) sc_law.nd rfl (by trivial) (pe_c C.in_order j (q0a (pv 1) (q0a (pv 10) q0e)))) (q0c (q0i (i:=14) sc_law.nd rfl (by trivial) (q0k (q4y j) (by rfl) T.b_sorted (by trivial) (q0a (q1x Y3 [] rfl (@q3b _ _ _ _ K rfl (pe_c C.rings j (q0a (pv 7) (q0a (pv 6) q0e)))) (λ_ _ _ _ _=>(q0h (i:=0) (show(Y3:List Str).Nodup by trivial) rfl (by trivial))) (λ_ _ _ _ _=>q2m) (λ_ _ _ _ _=>(q0k (q3l K rfl) (by rfl) T.b_len Cd (q0a (pv 0) q0e)))) q0e))) (q0c (q1b (q0n (ne_k K rfl j) (q0k (q4y j) (by rfl) T.b_sorted (by trivial) (q0a (q1x Y3 [] rfl (@q3b _ _ _ _ K rfl (pe_c C.rings j (q0a (pv 8) (q0a (pv 13) q0e)))) (λ_ _ _ _ _=>(q0h (i:=0) (show(Y3:List Str).Nodup by trivial) rfl (by trivial))) (λ_ _ _ _ _=>q2m) (λ_ _ _ _ _=>(q0k (q3l K rfl) (by rfl) T.b_len Cd (q0a (pv 0) q0e)))) q0e)) (pv 14) (nomark _)) (q0f (q0o q4i)) q0m) (q0c (q0i (i:=14) sc_law.nd rfl (by trivial) (q0k (q4y j) (by rfl) T.b_sorted (by trivial) (q0a (q1x Y3 [] rfl (@q3b _ _ _ _ K rfl (pe_c C.chains j (q0a (pv 7) (q0a (pv 6) q0e)))) (λ_ _ _ _ _=>(q0h (i:=0) (show(Y3:List Str).Nodup by trivial) rfl (by trivial))) (λ_ _ _ _ _=>q2m) (λ_ _ _ _ _=>(q0k (q3l K rfl) (by rfl) T.b_len Cd (q0a (pv 0) q0e)))) q0e))) (q0c (q1b (q0n (ne_k K rfl j) (q0k (q4y j) (by rfl) T.b_sorted (by trivial) (q0a (q1x Y3 [] rfl (@q3b _ _ _ _ K rfl (pe_c C.chains j (q0a (pv 8) (q0a (pv 13) q0e)))) (λ_ _ _ _ _=>(q0h (i:=0) (show(Y3:List Str).Nodup by trivial) rfl (by trivial))) (λ_ _ _ _ _=>q2m) (λ_ _ _ _ _=>(q0k (q3l K rfl) (by rfl) T.b_len Cd (q0a (pv 0) q0e)))) q0e)) (pv 14) (nomark _)) (q0f (q0o q4i)) q0m) (q0c (q0i (i:=15) sc_law.nd rfl (by trivial) (pe_c C.row_for j (q0a (pv 7) (q0a (pv 6) q0e)))) (q0c (q0i (i:=16) sc_law.nd rfl (by trivial) (pe_c C.row_for j (q0a (pv 8) (q0a (pv 13) q0e)))) (q0c (q1b (q0n (ne_k K rfl j) (q0k (q3l K rfl) (by rfl) T.b_len Cd (q0a (pv 15) q0e)) (q0k (q3l K rfl) (by rfl) T.b_len Cd (q0a (pv 16) q0e)) (nomark _)) (q0f (q0o q4i)) q0m) (q0c (q0i (i:=17) sc_law.nd rfl (by trivial) (pe_c C.walked j (q0a (z6m C.m_rows j (pv 8)) (q0a (pv 16) (q0a (pv 3) q0e))))) (q0c (q1b (q1z (q5m (pv 17))) (q0f (q0o q4i)) q0m) (q0c (q1b (q0n (ne_k K rfl j) (q0k (q6d j) (by rfl) T.b_sorted (by trivial) (q0a (q1x ["_law_path", "_law_mark"] [("_law_walked_here",17)] rfl (@q3b _ _ _ _ K rfl (z6m C.m_rows j (pv 8))) (λ_ _ _ _ _=>(@q2h _ _ _ _ _ (2) K rfl rfl (q0l (q0h (i:=0) (show(Y2:List Str).Nodup by trivial) rfl (by trivial)) (q0l (q0h (i:=1) (show(Y2:List Str).Nodup by trivial) rfl (by trivial)) q1p)) (by rfl) (by rfl))) (λ_ _ _ _ _=>q2m) (λ_ _ _ _ _=>(q1j (q0a (q0v (q1c j) (pv 2) (pv 0) (λ_ _=>rfl)) (q0a (pv 1) q0e))))) q0e)) (q0k (q6d j) (by rfl) T.b_sorted (by trivial) (q0a (pv 4) q0e)) (nomark _)) (q0f (q0o q4i)) q0m) (q0f (q1b (q1z (x5v (pe_c C.does j (q0a (pv 7) (q0a (q2f q0e) (q0a (q1l q1v (pv 15) (pv 16)) q0e)))))) (q0f (q0o q4i)) q0m))))))))))))))))))))))) (q0f (q0o q4i)))),?_⟩;refine⟨_,rfl,sc,_,rfl,.inl hS,λb hb=>⟨by show 3<=sizeLine;decide,λa ha=>?_⟩⟩;have z3:b≠a:=q0j q0b ha;have F:FeedAt (upd (upd H b (.lst (ns.map V.int))) a (.lst [.ref b,.int 0,.int 0])) a b:=⟨⟨0,0,q0b⟩,ns,by rw[q0d z3];exact q0b⟩
  have sS:Same H (upd (upd H b (.lst (ns.map V.int))) a (.lst [.ref b,.int 0,.int 0])):=((Same.refl H).new hb).new ha;generalize z4:upd (upd H b _) a _=H1;rw[z4] at F sS;refine⟨_,rfl,_,_,rfl,.inl ⟨_,sS.seq hS,rfl⟩,?_⟩;refine⟨_,_,rfl,_,_,rfl,_,rfl,?_,?_,q5n (λi X H'=>∃x2 x3 x4 x5 x6 x7 x8 x9 n6 a8 a9 d5 d6 d7 d8 d9,X=[some (.ref sc),some (.ref a),x2,x3,x4,x5,x6,x7,x8,x9,n6,a8,a9,d5,d6,d7,d8,d9]/\Fd a b H1 H') ⟨none,none,none,none,none,none,none,none,none,none,none,none,none,none,none,none,rfl,Fd.refl F⟩ ?_ ?_⟩
  ·rw[Aa];split<;>split<;>lia
  ·rw[Aa];split<;>split<;>lia
  ·rintro i X Hs hi ⟨x2,x3,x4,x5,x6,x7,x8,x9,n6,a8,a9,d5,d6,d7,d8,d9,rfl,fd⟩;have Fs:=fd.feed;refine gE λD X1 hD z7=>?_;refine⟨_,rfl,a,b,_,rfl,Fs,by decide,by decide,λr0 H2 G7 G8 h4=>.inl ⟨rfl,?_⟩⟩;generalize decide (V.int r0=V.int 1)=bl;show X1 _ _ _;refine gY z7 λX2 z8=>?_;refine⟨_,rfl,_,rfl,a,b,bl,18,rfl,h4.feed,by decide,by decide,λL I H3 q4 hL rl hl len=>?_⟩;have n7:I.length<=20:=by lia
   have fd3':=h4.trans q4;have z9:Hs L=none:=h4.free hL;have h5:L≠a:=(Fs.na z9).symm;show X2 _ _ _;refine gY z8 λX3 A0=>?_;refine⟨_,rfl,_,rfl,_,rfl,a,b,L,bl,5,I,rfl,fd3'.feed,rl,hl,by lia,h5,by decide,by decide,λW ps H4 n8 hW pd gw ap=>?_⟩;have fd4':=fd3'.trans n8;have q5:=rl.fd fd3'.feed n8 h5;have q6:okMs (ps.map (·.2)):=x0t gw hl;have G9:ps.length<=20:=by have:=gw.len;rw[Aa,Aa] at this;lia
   have z2:(I.map (·.2)).length<=20:=by rw[Aa];exact n7
   clear h4 q4 fd3' n8 rl hL hW;show X3 _ _ _;refine gY A0 λX4 A1=>?_;refine⟨_,rfl,_,rfl,a,b,W,ps,rfl,fd4'.feed,pd,gw.nd,q6,by lia,λM J H6 h6 hM ml pm=>?_⟩;have fd6':=fd4'.trans h6;have n9:=q5.fd fd4'.feed h6 h5;have q7:=pd.fd fd4'.feed h6;have j5:=z5t gw.nd pm;have gW:=gw.perm pm;have H0:J.length<=20:=by have:=pm.length_eq;rw[Aa,Aa] at this;lia
   have b0:Apart bl (I.map (·.2)) (plc (J.map (·.2))):=by rw[j5];exact ap
   have A2:M≠a:=(fd4'.feed.na hM).symm;clear q5 pd fd4' h6 q6 hM;show X4 _ _ _;refine gY A1 λX5 A3=>?_;refine⟨_,rfl,_,rfl,λh dx hh o0 n=>?_⟩;refine⟨h,dx,L,bl,I,rfl,q0b,z3y n9 hh o0,hl,by lia,λd H7 hd i1 i2 i3=>⟨rfl,?_⟩⟩;obtain⟨s7,_⟩:=q8h hh o0 hd i3;have o1:HallAt c H7 h d bl (I.map (·.2)):=⟨⟨dx,i1⟩,i2⟩
   have q8:=fd6'.same s7;have q9:=n9.same s7;have o2:=ml.same s7;have r1:=q7.same s7;clear i1 i2 i3 hd s7 o0 n hh fd6' n9 q7 ml;show X5 _ _ _;refine gY A3 λX6 A4=>?_;refine⟨_,rfl,_,rfl,h,d,M,bl,_,J,rfl,o1,hl,by lia,o2,gW,by lia,b0,λG ys H9 hG s9 r2 a2 h7=>?_⟩;have gh:=q4s hl gW b0;have a3:Hl bl (ys.map (·.2)):=gh.perm a2;have yl:ys.length=I.length:=by have e:=a2.length_eq;unfold gRows at e;rw[Aa,Aa,Aa] at e;exact e
   refine⟨_,rfl,λh2 r3 o3 e4 n2=>?_⟩;refine⟨h2,r3,G,bl,ys,rfl,q0b,z3y r2 o3 e4,a3,by lia,λd2 A5 r4 j1 j2 j3=>⟨rfl,?_⟩⟩;obtain⟨r5,_⟩:=q8h o3 e4 r4 j3;have j6:HallAt c A5 h2 d2 bl (ys.map (·.2)):=⟨⟨r3,j1⟩,j2⟩
   have a0:=s9.trans r5;have a6:=q9.same a0;have j7:=o2.same a0;have j8:=r1.same a0;have j9:=o1.same a0;have e7:=q8.same a0;clear r2 h7 o3 e4 n2 j1 j2 j3 r4 r5 s9 a0 q9 r1 q8 o1 o2 hG;show X6 _ _ _;refine gY A4 λX7 A6=>?_;refine⟨_,rfl,_,rfl,L,W,bl,I,ps,rfl,a6,hl,by lia,j8,gw,λN nq e9 hN c7 nw=>?_⟩;rw[show tn (ps.map (·.2))=tn (J.map (·.2)) from by unfold tn;rw[j5]] at nw;have A7:H N=none:=sS.free (fd.free (e7.free hN));have k0:=a6.same c7;have k4:=j7.same c7;have k5:=j9.same c7;have k6:=j6.same c7;have k7:=e7.same c7;clear a6 j7 j9 j6 e7 c7 j8 hN;show X7 _ _ _;refine gY A6 λX8 A8=>?_;refine λB hB=>?_;have o4:B≠N:=q0q hB nw.pd.at_;have h8:=(Same.refl e9).new (o:=.dT []) hB;have f0:upd e9 B (.dT []) B=some (.dT []):=q0b;generalize upd e9 B (.dT [])=H5 at h8 f0;have k8:=nw.same h8;have r6:nq.length=I.length:=by have:=congrArg List.length nw.e;rw[Aa,Aa,Aa] at this;exact this
   have g:Gd bl (I.map (·.2)) (J.map (·.2)):=⟨gW,b0⟩
   show X8 _ _ _;refine gY A8 λX9 A9=>?_;refine⟨N,(λo v e=>by rw[A7] at e;cases e),?_⟩;refine⟨_,rfl,N,_,rfl,k8.pd.at_,λob=>?_⟩;refine q2s (λi' X H'=>∃bs a8 a9,X=[some (.ref sc),some (.ref a),some (.int (0+(i:Int))),some (.bl bl),some (.ref L),some (.ref W),some (.ref M),some (.ref h),some (.ref h2),some (.ref N),some (.ref B),a8,a9,d5,d6,d7,d8,d9]/\H' N=some (.frz ob (qR nq))/\(∀c u,c≠N->e9 c=some u->H' c=some u)/\PDt H' B bs/\bs.map (·.2)=backW ((I.map (·.2)).take i') (J.map (·.2)))
    ⟨[],_,_,rfl,q0b,λc u hc e=>by rw[q0d hc];exact h8 _ _ e,⟨by rw[q0d o4];exact f0,(λ_ h=>nomatch h)⟩,rfl⟩ (λi' X H' x=>by obtain⟨_,_,_,_,h,_⟩:=x;exact h) ?_ ?_
   ·rintro i' ky v pb X a4 B0 c8 ⟨bs,a8,a9,rfl,c9,kp,d0,a5⟩;obtain⟨x,hx,rfl,rfl⟩:∃x,nq[i']?=some x/\ky=kP x.2.1/\v=.ref x.1:=keyAt B0;rw[q1w] at c8;have f1:(nq.map (·.2))[i']?=some x.2:=by rw[Am,hx];rfl
    rw[nw.e,Am] at f1;obtain⟨r,o5,er⟩:∃r,(I.map (·.2))[i']?=some r/\(r.1,tn (J.map (·.2)) r.1)=x.2:=by
     cases e:(I.map (·.2))[i']? with
     |none=>rw[e] at f1;cases f1
     |some r=>rw[e] at f1;exact⟨r,rfl,Bx f1⟩
    have f2:=Af o5;have B1:x.2.1=r.1:=by rw[<- er]
    rw[B1] at c8;have r7:=hl.ok r f2;have get:∀{H':Hp} {bb:Addr} {p:Pth},p∈(I.map (·.2)).map (·.1)->H' bb=some (.tup (vP p))->Same a4 H'->∃e,DGet H' N (.ref bb) (some (.ref e))/\H' e=some (.tup (vP (tn (J.map (·.2)) p))):=λ{H' bb p} hp hbb s'=>by
     have em:(nq.map (·.2)).map (·.1)=nq.map (·.2.1):=by rw[Ah];rfl
     have e1:(nq.map (·.2)).map (·.1)=(I.map (·.2)).map (·.1):=by rw[nw.e,Ah];rfl
     have nd:(nq.map (·.2.1)).Nodup:=by rw[<- em,e1];exact hl.paths
     obtain⟨y,Z,ey⟩:=Ac.mp (show p∈nq.map (·.2.1) by rw[<- em,e1];exact hp);refine⟨y.1,?_,?_⟩
     ·have e:=q4p (rs:=nq.map λx=>((x.2.1,.ref x.1):HRow)) (r:=(y.2.1,.ref y.1)) (Ac.mpr ⟨y,Z,rfl⟩) (by rw[Ah];exact nd);rw[<- e];exact .inr ⟨_,kP y.2.1,bb,.inr ⟨ob,s' _ _ c9⟩,rfl,by rw[q1w,ey];exact hbb,rfl⟩
     ·have hm:y.2∈(I.map (·.2)).map λr=>(r.1,tn (J.map (·.2)) r.1):=by rw[<- nw.e];exact Ac.mpr ⟨y,Z,rfl⟩
      obtain⟨r',_,e⟩:=Ac.mp hm;have r8:=s' _ _ (kp _ _ (q0q (nw.pd.pr y Z) nw.pd.at_) (nw.pd.pr y Z));rw[<- e] at r8;have e3:r'.1=p:=by rw[<- ey,<- e]
      rw[<- e3];exact r8
    refine⟨by show 0<=sizeLine;decide,λt0 B2=>?_⟩;have d1:=(Same.refl a4).new (o:=.tup []) B2;have k9:upd a4 t0 (.tup []) t0=some (.tup (vP [])):=q0b;generalize upd a4 t0 (.tup [])=h9 at d1 k9;obtain⟨c1,c2⟩:=q0w r7.ne;refine⟨λX H'=>∃t,X=[some (.ref sc),some (.ref a),some (.int (0+(i:Int))),some (.bl bl),some (.ref L),some (.ref W),some (.ref M),some (.ref h),some (.ref h2),some (.ref N),some (.ref B),some (.ref pb),some (.ref t),d5,d6,d7,d8,d9]/\Same a4 H'/\H' t=some (.tup (vP (tn (J.map (·.2)) r.1.dropLast))),?_,?_⟩;rotate_left
    ·refine⟨_,rfl,_,_,rfl,.inr ⟨_,SqT.of (d1 _ _ c8),rfl⟩,_,_,rfl,rfl,_,rfl,?_⟩;refine iteB (λhc=>?_) (λhc=>?_)
     ·refine⟨_,rfl,_,rfl,_,rfl,_,rfl,.inr (.inr ⟨pb,_,rfl,SqT.of (d1 _ _ c8),c2,λt1 B3=>?_⟩)⟩;rw[c1];have d3:=(Same.refl h9).new (o:=.tup (vP r.1.dropLast)) B3;have l2:upd h9 t1 (.tup (vP r.1.dropLast)) t1=some (.tup (vP r.1.dropLast)):=q0b;generalize upd h9 t1 (.tup (vP r.1.dropLast))=d4 at d3 l2;have hd:r.1.dropLast∈(I.map (·.2)).map (·.1):=by
       rcases hl.dr r f2 with e|e
       ·exfalso;have:=of_decide_eq_true hc;have l0:=congrArg List.length e;rw[Bf] at l0;rw[q0y] at this;have l1:r.1.length<=1:=by simp only[Hx] at l0;lia
        lia
       ·exact Ac.mpr ⟨_,e,rfl⟩
      obtain⟨e1,dg,B4⟩:=get hd l2 (d1.trans d3);exact⟨N,_,rfl,dg,e1,rfl,d1.trans d3,B4⟩
     ·refine⟨t0,rfl,d1,?_⟩;have e:r.1.dropLast=[]:=by
       have:=of_decide_eq_false hc;rw[q0y] at this;refine Ha.mp ?_;rw[Bf];lia
      rw[e];exact k9
    rintro X d4 ⟨t,rfl,d3,ht⟩;refine⟨_,rfl,_,rfl,_,rfl,.inr (.inl ⟨pb,_,-1,_,rfl,rfl,SqT.of (d3 _ _ c8),q3i r7.ne,by show 1<=sizeLine;decide,λt2 B5=>?_⟩)⟩;have f3:=(Same.refl d4).new (o:=.tup [.str (mk (r.1.getLastD []))]) B5;have H8:(tn (J.map (·.2)) r.1.dropLast).length<=7:=(q3j hl gW (x0v hl f2)).2;refine⟨t,t2,_,_,rfl,rfl,f3 _ _ ht,q0b,by rw[q0y];exact small (by show _+1<=_;lia),λe2 b1 o6 B6 _=>?_⟩;have O:=(d3.trans f3).trans o6;obtain⟨e3,dg,B7⟩:=get (Ac.mpr ⟨r,f2,rfl⟩) (O _ _ c8) O;have b2:=d0.same O;have e1:(I.map (·.2)).take (i'+1)=(I.map (·.2)).take i'++[r]:=by rw[Bc,o5];rfl
    have G2:bs.length<=20:=by
     have:=congrArg List.length a5;unfold backW at this;rw[Aa,Aa,Bg,Aa] at this;lia
    have hno':∀y∈(bs.map λx=>((x.2.1,.ref x.1):HRow)),y.1≠tn (J.map (·.2)) r.1:=λy Z z'=>by
     obtain⟨x',B8,rfl⟩:=Ac.mp Z;have B9:x'.2∈backW ((I.map (·.2)).take i') (J.map (·.2)):=by rw[<- a5];exact Ac.mpr ⟨x',B8,rfl⟩
     obtain⟨r',r9,e⟩:=Ac.mp B9;have e5:tn (J.map (·.2)) r'.1=tn (J.map (·.2)) r.1:=by
      have:x'.2.1=tn (J.map (·.2)) r'.1:=by rw[<- e]
      rw[<- this];exact z'
     have e6:=q1r hl gW b0 (q6w (Ii r9)) (q6w f2) e5;exact q3s hl.paths o5 r9 e6
    refine⟨_,rfl,_,rfl,_,rfl,N,_,rfl,dg,B,_,rfl,DPut.t (k:=kP (tn (J.map (·.2)) r.1)) b2.at_ (by rw[q1w];exact B7) (by rw[Aa,Aa];exact small' (by lia)),?_⟩;rw[q2d (v:=.ref e2) hno'];have h21':b1 e2=some (.tup (vP (tn (J.map (·.2)) r.1.dropLast++[r.1.getLastD []]))):=by rw[B6];show _=some (HO.tup ((_++[r.1.getLastD []]).map _));rw[Ae];rfl
    have nB:∀(x:Addr) (u:HO),b1 x=some u->(∀C0,u≠.dT C0)->upd b1 B (dR ((bs.map λx=>((x.2.1,.ref x.1):HRow))++[(tn (J.map (·.2)) r.1,.ref e2)])) x=some u:=λx u e n=>by
     rw[q0d (λy=>by rw[y,b2.at_] at e;cases e;exact n _ rfl)];exact e
    refine⟨bs++[(e2,(tn (J.map (·.2)) r.1,tn (J.map (·.2)) r.1.dropLast++[r.1.getLastD []]))],_,_,rfl,nB _ _ (O _ _ c9) (λ_ y=>by cases y),λc u hc e=>?_,⟨by rw[q0b,Ae (l₁:=bs)];rfl,λy Z=>?_⟩,?_⟩
    ·rw[q0d (λy=>by rw[y,hB] at e;cases e)];exact O _ _ (kp c u hc e)
    ·rcases Ao.mp Z with Z|Z
     ·exact nB _ _ (b2.pr y Z) (λ_ y=>by cases y)
     ·rw[Ak.mp Z];exact nB _ _ h21' (λ_ y=>by cases y)
    ·rw[e1,Ae,a5];unfold backW;rw[Ae];rfl
   rintro X a4 ⟨bs,a8,a9,rfl,c9,kp,d0,a5⟩;rw[Aa,Aa,r6,<- Aa (f:=λz:Zr=>z.2) (as:=I),Ba] at a5;refine⟨ob,_,c9,?_⟩;have b3:Same e9 (upd a4 N (qR nq)):=q2c nw.pd.at_ kp;have b4:PDt (upd a4 N (qR nq)) B bs:=⟨by rw[q0d o4];exact d0.at_,λy Z=>by rw[q0d (λz=>by have e:=d0.pr y Z;rw[z,c9] at e;cases e)];exact d0.pr y Z⟩
   generalize upd a4 N (qR nq)=h9 at b3 b4;have l3:=k0.same b3;have l4:=k4.same b3;have l5:=k5.same b3;have l6:=k6.same b3;have Y:=k7.same b3;clear k0 k4 k5 k6 k7 b3 d0 kp c9 h8 f0 k8 nw r6 hB o4;have l8:=x0x hl gW b0;have f4:GoodW (ys.map (·.2)) (bs.map (·.2)):=by rw[a5];exact l8.rows a2
   have C1:bs.length=I.length:=by
    have:=congrArg List.length a5;unfold backW at this;rw[Aa,Aa,Aa] at this;exact this
   show X9 _ _ _;refine gY A9 λC2 s0=>?_;refine⟨_,rfl,_,rfl,a,b,B,bs,rfl,Y.feed,b4,f4.nd,x0t f4 a3,by lia,λM2 b5 d4 a1 C3 C4 b6=>?_⟩;have l9:=z9w l5 Y.feed a1;have m0:=z9w l6 Y.feed a1;have s1:=l3.fd Y.feed a1 h5;have s2:=l4.fd Y.feed a1 A2;have fd19':=Y.trans a1;have f5:=z5t f4.nd b6;have C5:=f4.perm b6;have G3:b5.length<=20:=by have:=b6.length_eq;rw[Aa,Aa] at this;lia
   have eh:plc (b5.map (·.2))=plc (backW (I.map (·.2)) (J.map (·.2))):=by rw[f5,a5]
   have C6:Apart bl (ys.map (·.2)) (plc (b5.map (·.2))):=by rw[eh];exact(q6o hl gW b0).rows a2
   clear l5 l6 l3 l4 Y a1 b4 l8 f4 f5 a5 C1 b6 C3;have b7:∀{H':Hp},Same d4 H'->GW c H' h d M bl (I.map (·.2)) J:=λ{H'} s=>⟨l9.same s,hl,by lia,s2.same s,gW,by lia,b0⟩
   have b8:∀{H':Hp},Same d4 H'->GW c H' h2 d2 M2 bl (ys.map (·.2)) b5:=λ{H'} s=>⟨m0.same s,a3,by rw[Aa];lia,C4.same s,C5,by lia,C6⟩
   have r0:=Same.refl d4;show C2 _ _ _;refine gY s0 λC7 s3=>?_;refine⟨_,rfl,_,rfl,h,d,M,bl,_,J,rfl,b7 r0,λR rs I0 hR _ f3 f6 c0 _=>.inl ⟨R,rfl,⟨_,SqL.of f6.at_⟩,λDc f7=>?_⟩⟩;have t:=q6p hl g a2 eh;have m1:rs.length<=40:=by
    have:=z3b c0.nd (ps:=(I.map (·.2)).map (·.1)) λxs hx=>by
     obtain⟨p,rp⟩:=c0.is.mp hx;rw[rp.o.headD];exact rp.in_ t.F
    rw[Aa] at this;lia
   refine lens f6 m1 f7 λb1 s4 o6=>⟨Dc,_,rfl,s4,by unfold lnI;rw[Aa,Aa];lia,λL1 n1 C8 s5 s8=>?_⟩
   have i0:=(f3.trans o6).trans ((Same.refl b1).new (o:=.lst (n1.map V.int)) C8);have f8:upd b1 L1 (.lst (n1.map V.int)) L1=some (.lst (n1.map V.int)):=q0b;generalize upd b1 L1 (.lst (n1.map V.int))=I1 at i0 f8;show C7 _ _ _;refine gY s3 λC9 t3=>?_;refine⟨_,rfl,_,rfl,h2,d2,M2,bl,_,b5,rfl,b8 i0,λR2 D0 I2 I3 _ o7 f9 m2 _=>.inl ⟨R2,rfl,⟨_,SqL.of f9.at_⟩,λD1 m3=>?_⟩⟩;have bp:=q9s hl g a2 eh c0 m2;have m4:D0.length<=40:=by have:=bp.length_eq;rw[Aa,Aa,Aa,Aa] at this;lia
   refine lens f9 m4 m3 λi4 t4 t5=>⟨D1,_,rfl,t4,by unfold lnI;rw[Aa,Aa];lia,λo8 n2 t6 b6 t7=>?_⟩
   have i5:=((i0.trans o7).trans t5).trans ((Same.refl i4).new (o:=.lst (n2.map V.int)) t6);have c3:upd i4 o8 (.lst (n2.map V.int)) o8=some (.lst (n2.map V.int)):=q0b;have hL1':=((o7.trans t5).trans ((Same.refl i4).new (o:=.lst (n2.map V.int)) t6)) _ _ f8;generalize upd i4 o8 (.lst (n2.map V.int))=I4 at i5 c3 hL1';have t8:n2=n1:=by
    refine q8e (b6.trans (List.Perm.trans ?_ s5.symm)) t7 s8;have:=(bp.map (λn:Nat=>(n:Int))).symm;unfold lnI;simpa only[Ah,Vh] using this
   rw[t8] at c3;refine⟨_,rfl,x1d c3 hL1' ⟨_,rfl,iteF ?_⟩⟩;clear t8 c3 hL1' b6 t7 s5 s8 bp m1 m4 f6 f9 c0 m2 f3 i0 o7 f8 m3 f7;show C9 _ _ _;refine gY t3 λD2 t9=>?_;refine⟨_,rfl,_,rfl,h,d,M,bl,_,J,rfl,b7 i5,λR3 D3 I5 I6 _ u0 g0 c4 _=>.inl ⟨R3,rfl,⟨_,SqL.of g0.at_⟩,λD4 m5=>?_⟩⟩;have m6:D3.length<=40:=by
    have:=z3b c4.nd (ps:=(I.map (·.2)).map (·.1)) λxs hx=>by
     obtain⟨p,hm,cp⟩:=c4.is.mp hx;rw[cp.o.headD];exact hm.1
    rw[Aa] at this;lia
   refine lens g0 m6 m5 λo9 u1 D5=>⟨D4,_,rfl,u1,by unfold lnI;rw[Aa,Aa];lia,λL3 n3 D6 u2 u3=>?_⟩
   have i6:=((i5.trans u0).trans D5).trans ((Same.refl o9).new (o:=.lst (n3.map V.int)) D6);have g1:upd o9 L3 (.lst (n3.map V.int)) L3=some (.lst (n3.map V.int)):=q0b;generalize upd o9 L3 (.lst (n3.map V.int))=I7 at i6 g1;show D2 _ _ _;refine gY t9 λD7 u4=>?_;refine⟨_,rfl,_,rfl,h2,d2,M2,bl,_,b5,rfl,b8 i6,λR4 D8 I8 I9 _ p0 g2 m7 _=>.inl ⟨R4,rfl,⟨_,SqL.of g2.at_⟩,λD9 m8=>?_⟩⟩;have bp:=z4k hl g a2 eh c4 m7;have m9:D8.length<=40:=by have:=bp.length_eq;rw[Aa,Aa,Aa,Aa] at this;lia
   refine lens g2 m9 m8 λi7 u5 u6=>⟨D9,_,rfl,u5,by unfold lnI;rw[Aa,Aa];lia,λL4 n4 u7 u8 u9=>?_⟩
   have p1:=((i6.trans p0).trans u6).trans ((Same.refl i7).new (o:=.lst (n4.map V.int)) u7);have c5:upd i7 L4 (.lst (n4.map V.int)) L4=some (.lst (n4.map V.int)):=q0b;have hL3':=((p0.trans u6).trans ((Same.refl i7).new (o:=.lst (n4.map V.int)) u7)) _ _ g1;generalize upd i7 L4 (.lst (n4.map V.int))=J0 at p1 c5 hL3';have v0:n4=n3:=by
    refine q8e (u8.trans (List.Perm.trans ?_ u2.symm)) u9 u3;have:=(bp.map (λn:Nat=>(n:Int))).symm;unfold lnI;simpa only[Ah,Vh] using this
   rw[v0] at c5;refine⟨_,rfl,x1d c5 hL3' ⟨_,rfl,iteF ?_⟩⟩;clear v0 c5 hL3' u2 u3 u8 u9 bp m6 m9 g0 g2 c4 m7 u0 i6 p0 g1 m5 m8 i5;show D7 _ _ _;refine gY u4 λE2 v1=>?_;refine⟨_,rfl,_,rfl,h,d,M,bl,_,J,rfl,b7 p1,λRA wA J1 J2 E3 E4 lA v2=>?_⟩;have n0:=p1.trans E3;show E2 _ _ _;refine gY v1 λE5 v3=>?_;refine⟨_,rfl,_,rfl,h2,d2,M2,bl,_,b5,rfl,b8 n0,λRB wB J3 J4 v4 p2 lB v5=>?_⟩;have g3:=n0.trans v4;have mlA':=E4.same v4;have el:=x3j hl g a2 eh v2 v5;rw[Aa,Aa] at el;show E5 _ _ _;refine gY v3 λE6 v6=>?_;refine⟨_,rfl,_,_,rfl,.inl ⟨_,SqL.of mlA'.at_,rfl⟩,_,rfl,_,_,rfl,.inl ⟨_,SqL.of p2.at_,rfl⟩,.inl ⟨rfl,?_⟩⟩;have e0:(V.int ((wA.map λz=>V.ref z.1).length:Nat)=V.int ((wB.map λz=>V.ref z.1).length:Nat)):=by rw[Aa,Aa,el]
   rw[decide_eq_true e0];refine⟨_,rfl,iteF ?_⟩;obtain⟨⟨J5,v7,E7⟩,_⟩:=v2;obtain⟨⟨p3,i8,E8⟩,_⟩:=v5;have ea:=x1c hl (v7.gd hl) E7;have eb:=x1c a3 (i8.gd a3) E8;obtain⟨k1,k2,k3⟩:=x1b hl g a2 eh v7 i8 ea eb;have g4:=m0.same g3;obtain⟨dy,v8⟩:=g4.i;show E6 _ _ _;refine gY v6 λE9 v9=>?_;refine⟨_,rfl,h2,dy,_,rfl,v8,rfl,h2,d2,bl,_,rfl,g4,by rw[Aa];lia,λr j=>(a3.ok r j).low,λL5 zs5 J6 J7 w0 w1 w2 G4=>?_⟩;have i9:(zs5.map (·.2)).Perm (ys.map (·.2)):=w2;have w3:Hl bl (zs5.map (·.2)):=a3.perm i9;have z5:zs5.length=I.length:=by have:=i9.length_eq;rw[Aa,Aa] at this;lia
   refine⟨_,rfl,_,rfl,L5,RB,bl,zs5,wB,p3,rfl,w1,w3,by lia,p2.same w0,x3k i8 i9,λN2 J8 J9 F0 F1=>?_⟩;show E9 _ _ _;refine gY v9 λF2 w4=>?_;refine⟨_,rfl,_,rfl,iteB (λhc=>absurd (of_decide_eq_true hc) (λz=>by cases z)) (λ_=>?_)⟩;have g5:=w0.trans F0;have n5:=g4.same g5;obtain⟨dz,w5⟩:=n5.i;show F2 _ _ _;refine gY w4 λF3 w6=>?_;refine⟨_,rfl,h2,dz,_,rfl,w5,rfl,h2,d2,bl,_,rfl,n5,by rw[Aa];lia,λr j=>(a3.ok r j).low,λL6 g6 w7 K0 p4 g7 g8 G5=>.inl ⟨L6,rfl,⟨_,SqL.of g7.at_⟩,λDc f7=>?_⟩⟩;have z6:g6.length=I.length:=by have:=g8.length_eq;rw[Aa,Aa] at this;lia
   have w8:=F1.same p4;refine q2g (λi ys H'=>∃us:List Zr,ys=us.map (λz=>V.ref z.1)/\us.map (·.2)=((g6.map (·.2)).take i).map (λr=>(tn p3 r.1,r.2))/\(∀x∈us,PR H' x.1 (rR x.2))/\Same w7 H'/\H' Dc=some (.lst ys)) ⟨[],rfl,rfl,(λ_ h=>nomatch h),(Same.refl w7).new f7,q0b⟩ (λi ys H' h=>by obtain⟨us,_,_,_,s',h'⟩:=h;exact⟨h',SqL.of (s' _ _ g7.at_)⟩) ?_ ?_
   ·rintro i ys H' v hv ⟨us,rfl,eu,hu,s',p5⟩;obtain⟨z,hz,rfl⟩:=refAt hv;have w9:(g6.map (·.2))[i]?=some z.2:=by rw[Am,hz];rfl
    have e1:(g6.map (·.2)).take (i+1)=(g6.map (·.2)).take i++[z.2]:=by rw[Bc,w9];rfl
    have F4:z.2.1∈(zs5.map (·.2)).map (·.1):=((i9.map (·.1)).mem_iff).mpr (((g8.map (·.1)).mem_iff).mp (Ac.mpr ⟨z.2,Af w9,rfl⟩));have ul:us.length<=30:=by
     have:=congrArg List.length eu;rw[Aa,Aa,Bg,Aa] at this;lia
    obtain⟨bp,h1,hb⟩:=(g7.same s').pr z (Af hz);obtain⟨q,dg,hq⟩:=x6z (w8.same s') w3 F4 hb;refine⟨z.1,_,rfl,SqT.of h1,rfl,_,_,rfl,_,_,rfl,rfl,q3v,?_⟩;refine q6f (iteT ?_);refine⟨_,rfl,_,rfl,N2,_,rfl,dg,_,rfl,by show 2<=sizeLine;decide,λTn F5=>?_⟩;have sT:=(Same.refl H').new (o:=.tup [.ref q,(rR z.2).2]) F5;have p6:=sT _ _ p5;have x0:=sT _ _ hq;have x1:upd H' Tn (.tup [.ref q,(rR z.2).2]) Tn=some (.tup [.ref q,(rR z.2).2]):=q0b;have s6:=s'.trans sT;have y0:∀x∈us,PR (upd H' Tn (.tup [.ref q,(rR z.2).2])) x.1 (rR x.2):=λx hx=>PR.same (hu x hx) λT xs e=>sT _ _ e
    generalize upd H' Tn (.tup [.ref q,(rR z.2).2])=H6 at p6 x0 x1 s6 y0;have tk:∀S xs,H6 S=some (.tup xs)->upd H6 Dc (.lst (us.map (λz=>V.ref z.1)++[.ref Tn])) S=some (.tup xs):=λS xs e=>by
     rw[q0d (λz=>by rw[z,p6] at e;cases e)];exact e
    refine⟨p6,small' (by rw[Aa];lia),us++[(Tn,(tn p3 z.2.1,z.2.2))],by rw[Ae];rfl,by rw[Ae,eu,e1,Ae];rfl,λx hx=>?_,s6.put f7,q0b⟩;rcases Ao.mp hx with hx|hx
    ·exact PR.same (y0 x hx) tk
    ·rw[Ak.mp hx];exact⟨q,tk _ _ x1,tk _ _ x0⟩
   rintro K1 p7 ⟨us,rfl,eu,hu,y1,p5⟩;rw[Aa,<- Aa (f:=λz:Zr=>z.2),Ba] at eu;have pU:(us.map (·.2)).Perm (I.map (·.2)):=by
    refine List.Perm.trans ?_ k3;rw[(i8.wks a3).2,eu];exact g8.map _
   have y2:Hl bl (us.map (·.2)):=hl.perm pU;have ul:us.length=I.length:=by have:=pU.length_eq;rw[Aa,Aa] at this;exact this
   have y3:=s1.same (((g3.trans g5).trans p4).trans y1);refine⟨Dc,us.map λz=>(z.1,rR z.2),rfl,by rw[Ah];exact p5,by rw[Aa];lia,λz hz=>?_,?_,λL7 K2 F6 F7 y4=>?_⟩
   ·obtain⟨y,Z,rfl⟩:=Ac.mp hz;exact⟨hu y Z,(y2.ok y.2 (Ac.mpr ⟨y,Z,rfl⟩)).low⟩
   ·have:=y2.paths;rw[Ah] at this ⊢;exact this
   obtain⟨a7,q1,rfl⟩:=SB.perm_map_inv F7 rfl;rw[Ah] at y4;rw[show(a7.map λz=>((z.1,rR z.2):Zq)).map (λz=>V.ref z.1)=a7.map λz=>V.ref z.1 from by rw[Ah];rfl];have j0:=(Same.refl p7).new (o:=.lst (a7.map λz=>V.ref z.1)) F6;have y5:RL (upd p7 L7 (.lst (a7.map λz=>V.ref z.1))) L7 a7:=⟨q0b,λz hz=>PR.same (hu z (q1.mem_iff.mp hz)) λT xs e=>j0 _ _ e⟩
   have p8:(a7.map (·.2)).Perm (I.map (·.2)):=(q1.map _).trans pU;have c6:=y3.same j0;generalize upd p7 L7 (.lst (a7.map λz=>V.ref z.1))=p9 at j0 y5 c6;refine⟨_,rfl,L,I.map λz=>(z.1,rR z.2),rfl,by rw[Ah];exact c6.at_,by rw[Aa];lia,λz hz=>?_,?_,λL9 K3 F8 y6 h7=>?_⟩
   ·obtain⟨y,Z,rfl⟩:=Ac.mp hz;exact⟨c6.pr y Z,(hl.ok y.2 (Ac.mpr ⟨y,Z,rfl⟩)).low⟩
   ·have:=hl.paths;rw[Ah] at this ⊢;exact this
   obtain⟨U,q2,rfl⟩:=SB.perm_map_inv y6 rfl;rw[Ah] at h7;rw[show(U.map λz=>((z.1,rR z.2):Zq)).map (λz=>V.ref z.1)=U.map λz=>V.ref z.1 from by rw[Ah];rfl];have j4:=(Same.refl p9).new (o:=.lst (U.map λz=>V.ref z.1)) F8;have a6:RL (upd p9 L9 (.lst (U.map λz=>V.ref z.1))) L9 U:=⟨q0b,λz hz=>PR.same (c6.pr z (q2.mem_iff.mp hz)) λT xs e=>j4 _ _ e⟩
   have y7:(U.map (·.2)).Perm (I.map (·.2)):=q2.map _;have e8:a7.map (·.2)=U.map (·.2):=x0s (p8.trans y7.symm) ((y7.map _).nodup_iff.mpr hl.paths) (by rw[Ah];exact y4) (by rw[Ah];exact h7);refine x5s (y5.same j4) a6 e8 (λr j=>(hl.ok r (p8.mem_iff.mp j)).low) ⟨_,rfl,iteF ?_⟩;have g9:=(((g5.trans p4).trans y1).trans j0).trans j4;generalize upd p9 L9 (.lst (U.map λz=>V.ref z.1))=q0 at j4 g9;show F3 _ _ _;subst w6;refine⟨_,rfl,by show 0<=sizeLine;decide,λE1 F9=>?_⟩;have sE:=(Same.refl q0).new (o:=.lst []) F9;have y8:ML (upd q0 E1 (.lst [])) E1 []:=⟨q0b,λ_ h=>nomatch h⟩
   generalize upd q0 E1 (.lst [])=y9 at sE y8;have b9:=g9.trans sE;have h0:=mlA'.same b9;have h3:=p2.same b9;refine⟨_,rfl,_,rfl,.inr (.inr ⟨RA,RB,_,_,rfl,rfl,h0.at_,h3.at_,by rw[Aa,Aa];exact small (by lia),λRc z0=>?_⟩)⟩;have sR:=(Same.refl y9).new (o:=.lst ((wA.map λz=>V.ref z.1)++(wB.map λz=>V.ref z.1))) z0;have z1:=h0.cat h3 z0;generalize upd y9 Rc (.lst ((wA.map λz=>V.ref z.1)++(wB.map λz=>V.ref z.1)))=G0 at sR z1;have O:=(g3.trans b9).trans sR;have GE:GW c G0 h d E1 bl (I.map (·.2)) []:=⟨l9.same O,hl,by lia,y8.same sR,⟨(λ_ h=>nomatch h),.nil⟩,Bv _,by show(((I.map (·.2)).map (·.1)).map λp=>fold bl p).Nodup;rw[Ah];exact hl.nd⟩
   refine⟨h,d,E1,Rc,bl,_,[],wA++wB,rfl,GE,z1,by rw[Ae];exact k1,λp hp=>by rw[Ae];exact k2 p hp,by rw[An];lia,λK4 G1=>⟨true,rfl,_,rfl,iteF ?_⟩⟩;subst hD;exact⟨_,_,_,_,_,_,_,_,_,_,_,_,_,_,_,_,rfl,fd.trans (fd19'.same (O.trans G1))⟩
  ·rintro X H' ⟨x2,x3,x4,x5,x6,x7,x8,x9,n6,a8,a9,d5,d6,d7,d8,d9,rfl,fd⟩;exact k H'
end
end K
namespace K
open PySem L2 TX SB HM
def df_mk{kV q pm j ct}(X:K.In h)(G:h.Ns Dz mg)(a:W.nsIn K Dz x=some (some (.ref f)))(l:K.lookup f=some ⟨B,C,.func (Jp x x (defArgs st) (defBody st) (defScope st) .none kV q pm u j ct),v⟩)(c:Mp K j x=true)(k:Io K (.ref f)=true)(D:∀(kV q pm)  u  (j ct)  us ,us.length=ps.length->bindArgs (Jp x x (defArgs st) (defBody st) (defScope st) .none kV q pm u j ct) ⟨us,[]⟩=pure (ps.zip us)):Df K mg x st ps :=
 ⟨f,_,z1m l c k,W.mg_of X G a,(z1m (st:=st) l c k).binds D⟩
def mf_mk{kV q pm j ct}(a:Gr K (.ref C) m=some (some (.ref f)))(l:K.lookup f=some ⟨B,D,.func (Jp m h (defArgs st) (defBody st) (defScope st) .none kV q pm u j ct),v⟩)(c:Mp K j h=true)(k:Io K (.ref f)=true)(i:Wb K (.ref f)=true)(E:∀(kV q pm)  u  (j ct)  us ,us.length=ps.length->bindArgs (Jp m h (defArgs st) (defBody st) (defScope st) .none kV q pm u j ct) ⟨us,[]⟩=pure (ps.zip us)):Mf K C m h st ps :=
 ⟨⟨f,_,z1m l c k,⟨a,i,k⟩,(z1m (st:=st) l c k).binds E⟩⟩
def len_1{f:List Value}(h:f.length=1):∃j,f=[j]:=List.length_eq_one_iff.mp h
def len_2{f:List Value}(h:f.length=2):∃j q,f=[j,q]:=by
 obtain⟨a,r,rfl⟩:=Fl h;obtain⟨u,rfl⟩:=len_1 (Nz h);exact⟨a,u,rfl⟩
def len_3{f:List Value}(h:f.length=3):∃j q u,f=[j,q,u]:=by
 obtain⟨a,r,rfl⟩:=Fl h;obtain⟨v,B,rfl⟩:=len_2 (Nz h);exact⟨a,v,B,rfl⟩
def len_4{f:List Value}(h:f.length=4):∃j q u v,f=[j,q,u,v]:=by
 obtain⟨a,r,rfl⟩:=Fl h;obtain⟨B,C,D,rfl⟩:=len_3 (Nz h);exact⟨a,B,C,D,rfl⟩
def len_5{f:List Value}(h:f.length=5):∃j q u v B,f=[j,q,u,v,B]:=by
 obtain⟨a,r,rfl⟩:=Fl h;obtain⟨C,D,E,G,rfl⟩:=len_4 (Nz h);exact⟨a,C,D,E,G,rfl⟩
def all_mk{j:Wu}{w:World}{K:Al}{h:Heap}{mg:Str->Option Value}{fa:Addr}(X:K.In h)(G:h.Ns Dz mg)(l3:mg "law" = some (.ref fa)){k2:Addr}{k5 j7:Option Addr}(g8:Df K mg "alike" z0n Y4)(d6:Df K mg "carried" q6k Zi)(d7:Df K mg "is_wish" q6g Zf)(C:Df K mg "wished_places" q2w Z3)(U:Df K mg "all_places" q4b Z3)(b7:Df K mg "meetings" q5h Z3)(Z:Df K mg "ask_wishes" q4d Z3)(a5:Df K mg "path_then" q2u Zh)(h8:Df K mg "goal" z3z Z3)(q:Df K mg "things_that_move" q2e Yd)(a6:Df K mg "next_ones" q4r Y7)(u:Df K mg "asked_next_ones" q2k Z3)(D:Df K mg "from_thing_on" q2x Y8)(g9:Df K mg "rings" z0v Z3)(g0:Df K mg "chains" q8j Z3)(g1:Df K mg "copied" q8m ["hall"])(d8:Df K mg "is_made" q6n Zv)(h9:Df K mg "walk" z4h Yc)(M:Df K mg "path_behind" q3u Y0)(a0:Df K mg "spare_name" q4f Zx)(b8:Df K mg "put_move" q5k Zw)(d9:Df K mg "row_for" q6l Z3)(i0:Df K mg "does" z4i Zz)(i1:Df K mg "_law_draw" z3u Z7)(a1:Df K mg "_law_name_signs" q3z [])(i2:Df K mg "_law_text" z3v Zc)(g2:Df K mg "_law_a_name" q8f Yb)(i3:Df K mg "_law_fold" z3w Zd)(i4:Df K mg "_law_rows" z3x Zg)(a2:Df K mg "_law_other_case" q4c Zs)(e0:Df K mg "_law_some_of" q6h Zb)(a3:Df K mg "_law_free_place" q4e Z5)(O:Df K mg "_law_good_wishes" q3t Z8)(b9:Df K mg "_law_in_order" q5i Zj)(i5:Df K mg "_law_then" q8l Z9)(k3:Df K mg "_law_let" x0i Z6)(g3:Df K mg "_law_walked" q8k Ze)(i6:Df K mg "_law_ends" z4g Zk)(l4:W.nsIn K Dz "law" = some (some (.ref k2)))(l5:K.lookup k2=some ⟨k7,k5,.func (Jp "law" "law" (defArgs q4v) (defBody q4v) (defScope q4v) .none j8 j9 k0 j7 g4 k1),k6⟩)(l6:Mp K g4 "law" = true)(l8:Io K (.ref k2)=true)(T:Txt mg)(i7:W.nsIn K Dz "Hall" = some (some (.ref f)))(h0:Pm K f Str.empty=true)(h1:Rj K f=true)(h2:Vi K f=true)(h3:Gr K (.ref f) "__setattr__" = some (some (.builtin "object.__setattr__")))(R:Gr K (.ref f) "blind" = some none)(S:Gr K (.ref f) "marks" = some none)(i8:Gr K (.ref f) "__init__" = some (some (.ref B)))(i9:K.lookup B=some ⟨b2,a9,.func (Jp "__init__" "Hall.__init__" (defArgs q1h) (defBody q1h) (defScope q1h) (.ref L) b3 b4 b5 b0 J b6),b1⟩)(j0:Mp K J "Hall.__init__" = true)(l2:Io K (.ref B)=true)(j1:Wb K (.ref B)=true)(h4:Wt K f=true)(h5:Io K (.ref f)=true)(f0:K.lookup L=some ⟨.type "tuple",g5,.seq #[.bool false] g7,g6⟩)(a4:Mf K f "ask_drawer" "Hall.ask_drawer" q2l Za)(a7:Mf K f "ask_thing" "Hall.ask_thing" q2p Za)(c0:Mf K f "is_blind" "Hall.is_blind" q2y Y5)(a8:Mf K f "is_drawer" "Hall.is_drawer" q2o Za)(I:Mf K f "is_one_place" "Hall.is_one_place" q2b Zn)(j2:Mf K f "move" "Hall.move" q4u Zy)(j3:Mf K f "rows" "Hall.rows" q4q Y5)(h6:Mf K f "there" "Hall.there" q4a Zo):
  ∃fd,(∀ s   v ,Sd s fd ⟨[v],[]⟩ [("_law_script",v)])/\∀base,K.In base->base.Ns Dz mg->FnOk j.prog w K mg base CX0 12 fa fd ["_law_script"] (spLaw K):=by
 have e:=l3.symm.trans (W.mg_of X G l4);cases e;have d0:Cls K f:=⟨h0,h1,h2,h3⟩
 have j4:Kf K mg f "Hall" "Hall.__init__" q1h Zu:=⟨⟨B,_,b2,a9,.ref L,b3,b4,b5,b0,J,b6,b1,rfl,i9,j0,⟨h4,i8,j1,h5⟩,λs us Y hl=>by obtain⟨_,_,_,rfl⟩:=len_3 (by rw[Cu] at hl;exact hl:us.length=3);exact W.binds_K Y rfl f0 rfl rfl rfl,λs us Y hl=>by obtain⟨_,_,rfl⟩:=len_2 (by rw[An] at hl;exact Nz hl:us.length=2);exact W.binds_K Y rfl f0 rfl rfl rfl⟩,W.mg_of X G i7,d0⟩
 have FL:=z1m (st:=q4v) l5 l6 l8;refine⟨Jp "law" "law" (defArgs q4v) (defBody q4v) (defScope q4v) .none j8 j9 k0 j7 g4 k1,λs v=>.of_eq rfl,λbase _ _=>?_⟩;have hk:Hk K f:=⟨d0,R,S⟩
 have c1:=x5x (P:=j.prog) (w:=w) (base:=base) i1 T;have c2:=x5z (P:=j.prog) (w:=w) (base:=base) i2 T c1;have c3:=z0k (P:=j.prog) (w:=w) (base:=base) a1;have c4:=z9v (P:=j.prog) (w:=w) (base:=base) g2 T ⟨c1,c2,c3⟩;have c5:=x6b (P:=j.prog) (w:=w) (base:=base) i3 T;have c6:=x6c (P:=j.prog) (w:=w) (base:=base) i4 T ⟨c1,c4,c5⟩;have c7:=x2r (P:=j.prog) (w:=w) (base:=base) g8 T;have c8:=z2n (P:=j.prog) (w:=w) (base:=base) I hk T ⟨c7⟩;have c9:=x2s (P:=j.prog) (w:=w) (base:=base) h6 hk T ⟨c8⟩;have k8:=x6d (P:=j.prog) (w:=w) (base:=base) j4 hk T ⟨c9⟩;have j5:=x2t (P:=j.prog) (w:=w) (base:=base) j3 hk T;have k4:=z2q (P:=j.prog) (w:=w) (base:=base) a8 hk T;have l9:=z6t (P:=j.prog) (w:=w) (base:=base) d7 T ⟨there1 c9,k4⟩;have m0:=z6u (P:=j.prog) (w:=w) (base:=base) C T ⟨l9⟩;have h7:=x6e (P:=j.prog) (w:=w) (base:=base) U T ⟨m0,j5⟩;have m1:=x6g (P:=j.prog) (w:=w) (base:=base) b7 T ⟨h7,c8⟩;have m2:=z0p (P:=j.prog) (w:=w) (base:=base) a2 T ⟨c1⟩;have k9:=z6v (P:=j.prog) (w:=w) (base:=base) e0 T ⟨c1⟩;have j6:=z0q (P:=j.prog) (w:=w) (base:=base) Z T ⟨m1⟩;have l0:=q5w (P:=j.prog) (w:=w) (base:=base) a5 T 6;have m3:=x6l (P:=j.prog) (w:=w) (base:=base) h8 T ⟨j6,h7,l0,j5⟩;have m4:=x6m (P:=j.prog) (w:=w) (base:=base) a3 T ⟨c1,c4,c5⟩;have m5:=q8r (P:=j.prog) (w:=w) (base:=base) O T ⟨c1,c5,m4,m2,k9⟩;have m6:=z4b (P:=j.prog) (w:=w) (base:=base) b9 T ⟨k9⟩;have d1:=x2z (P:=j.prog) (w:=w) (base:=base) q T;have d2:=x6o (P:=j.prog) (w:=w) (base:=base) a6 T ⟨d1,there1 c9⟩;have d3:=x3a (P:=j.prog) (w:=w) (base:=base) u T ⟨j6,h7,d1,d2⟩;have d4:=x6q (P:=j.prog) (w:=w) (base:=base) D T;have d5:=x3b (P:=j.prog) (w:=w) (base:=base) g9 T ⟨d3,d4⟩;have e1:=x0b (P:=j.prog) (w:=w) (base:=base) g0 T ⟨d3,d4⟩;have e2:=z6y (P:=j.prog) (w:=w) (base:=base) d6 T;have l1:=z6z (P:=j.prog) (w:=w) (base:=base) M T ⟨e2⟩;have e3:=x0g l1;have e4:=x6s (P:=j.prog) (w:=w) (base:=base) b8 T ⟨e3⟩;have e5:=x3e (P:=j.prog) (w:=w) (base:=base) a0 T ⟨e3⟩;have e6:=z7a (P:=j.prog) (w:=w) (base:=base) d9 T ⟨j6,h7,e1,d5,e4,e5⟩;have e7:=ok_let (P:=j.prog) (w:=w) (base:=base) k3 T ⟨c5⟩;have e8:=x0k (P:=j.prog) (w:=w) (base:=base) g3 T ⟨e7⟩;have e9:=z5r (P:=j.prog) (w:=w) (base:=base) i5 T 6;have f1:=x6u (P:=j.prog) (w:=w) (base:=base) i6 T ⟨e9⟩;have f2:=x3g (P:=j.prog) (w:=w) (base:=base) c0 hk T;have f3:=z2z (P:=j.prog) (w:=w) (base:=base) a7 hk T;have f4:=z0z (P:=j.prog) (w:=w) (base:=base) a4 hk T ⟨k4⟩;have f5:=x6v (P:=j.prog) (w:=w) (base:=base) j2 hk T ⟨e2,f3,f4,k4,there1 c9⟩;have f6:=x0o (P:=j.prog) (w:=w) (base:=base) g1 T ⟨j5,f2,k8⟩;have f7:=z7c (P:=j.prog) (w:=w) (base:=base) d8 T ⟨f5⟩;have f8:=x6w (P:=j.prog) (w:=w) (base:=base) h9 T ⟨f6,f7⟩;have f9:=x6x (P:=j.prog) (w:=w) (base:=base) i0 T ⟨j6,f8,h7,l1,l0⟩;have CL:CallsL j.prog w K mg base f:=⟨c1,c6,m5,m6,m3,f1,d5,e1,e6,e8,f9,j5,k8⟩
 exact FL.ok sc_law (λvs H Q E h=>by obtain⟨a,ns,rfl,_⟩:=h;rfl) (λm7 A outer s H vs Q E hr h=>x3l T CL _ m7 A outer s H vs Q E hr h)
def walk{l:Wu}{loose}{K:Params->Al}(hn:l.most=some 63)(j:d.params.defaults=[])(v:∀ w   h ,YP w h->(K w.params).In h)(F:∀ w   mg   fa   h ,(K w.params).In h->h.Ns Dz mg->mg d.name=some (.ref fa) ->
   ∃fd,(∀ s   u ,Sd s fd ⟨[u],[]⟩ [("_law_script",u)])/\∀base,(K w.params).In base->base.Ns Dz mg->FnOk l.prog w (K w.params) mg base CX0 12 fa fd ["_law_script"] (spLaw (K w.params))):
  W.WalkO q loose XP YP l.row.toRowW d [] (λf vs=>Wi f vs) :=
 L2.walk_of (n:=63) (k:=12) (x := "_law_script") (CX:=λ_=>CX0) (sp:=λw=>spLaw (K w.params)) hn (by decide) j ⟨rfl,by decide,by decide,rfl⟩ v F (λ_ _ a ns hl _ B=>⟨a,ns,rfl,B,hl,λ_=>rfl⟩) λ_ _ _ _ _ z=>z
end K
open PySem PySem.W PyProof.Rows
set_option maxRecDepth 100000 in
set_option maxHeartbeats 0 in
theorem PySem.Challenge.cw_renamehall_k93_whole_wishes_turned_about_holds : PySem.Challenge.rw_renamehall_k93_whole_wishes_turned_about.Holds := by
  w_on; o_law; refine holds_open (q := K.vw) (loose := K.loose) (Xt := K.xt) (XP := XL K.vw []) (Yf := Hook.obs (kHook K.pre.heap_39 K.zas (λ_ => by kernel_rfl))) (Ya := Hook.val (kHook K.pre.heap_39 K.zas (λ_ => by kernel_rfl))) (YP := Hook.says (kHook K.pre.heap_39 K.zas (λ_ => by kernel_rfl))) (N := 60000) ?hl (Hook.of (kHook K.pre.heap_39 K.zas (λ_ => by kernel_rfl))) (Hook.keeps (kHook K.pre.heap_39 K.zas (λ_ => by kernel_rfl))) (λs e => xl_of s (Jw.mp e).1) XL.keeps (by rfl) (by rfl) (by rfl) (λs e => recFacts_of (Jw.mp e).2) (by rfl) (by first | assumption | decide +kernel) (by decide +kernel) ⟨rfl, rfl, rfl, rfl, rfl, by decide +kernel⟩ ?hw ?hc
  (case hw => w_witness2)
  (case hl =>
    refine HD.left (by kernel_rfl) (by rfl) (λ_ => by kernel_rfl) λw os => ?_
    exact K.half0 w os)
  k_fill
  refine K.walk (l := PySem.Challenge.rw_renamehall_k93_whole_wishes_turned_about) rfl rfl (λw h Y => PySem.W.kIn_of Y) ?F
  case F =>
    intro w mg fa h KX G hmg
    refine' K.all_mk KX G hmg ?_ ?_ ?_ ?_ ?_ ?_ ?_ ?_ ?_ ?_ ?_ ?_ ?_ ?_ ?_ ?_ ?_ ?_ ?_ ?_ ?_ ?_ ?_ ?_ ?_ ?_ ?_ ?_ ?_ ?_ ?_ ?_ ?_ ?_ ?_ ?_ ?_ ?_ ?_ ?_ ?_ ?_ ⟨mg_none_of KX G ?_, mg_none_of KX G ?_, mg_none_of KX G ?_, mg_none_of KX G ?_, mg_none_of KX G ?_, mg_none_of KX G ?_, mg_none_of KX G ?_, mg_none_of KX G ?_, mg_none_of KX G ?_, mg_none_of KX G ?_, mg_none_of KX G ?_, mg_none_of KX G ?_, mg_none_of KX G ?_, mg_none_of KX G ?_⟩ ?_ ?_ ?_ ?_ ?_ ?_ ?_ ?_ ?_ ?_ ?_ ?_ ?_ ?_ ?_ (K.mf_mk ?_ ?_ ?_ ?_ ?_ ?_) (K.mf_mk ?_ ?_ ?_ ?_ ?_ ?_) (K.mf_mk ?_ ?_ ?_ ?_ ?_ ?_) (K.mf_mk ?_ ?_ ?_ ?_ ?_ ?_) (K.mf_mk ?_ ?_ ?_ ?_ ?_ ?_) (K.mf_mk ?_ ?_ ?_ ?_ ?_ ?_) (K.mf_mk ?_ ?_ ?_ ?_ ?_ ?_) (K.mf_mk ?_ ?_ ?_ ?_ ?_ ?_)
    all_goals try refine' K.df_mk KX G ?_ ?_ ?_ ?_ ?_
    all_goals try (first | k_is | kit_is | rfl | decide +kernel | (intro _ _ _ _ _ _ us hl; first | (obtain ⟨_, rfl⟩ := K.len_1 hl; rfl) | (obtain ⟨_, _, rfl⟩ := K.len_2 hl; rfl) | (obtain ⟨_, _, _, rfl⟩ := K.len_3 hl; rfl) | (obtain ⟨_, _, _, _, rfl⟩ := K.len_4 hl; rfl) | (obtain ⟨_, _, _, _, _, rfl⟩ := K.len_5 hl; rfl) | (cases us with | nil => rfl | cons _ _ => cases hl)))
