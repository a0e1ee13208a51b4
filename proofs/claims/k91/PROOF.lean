import PyProof.Rows.All
import Wide.All
import OpenK.AllK
import Wide.FinOn
import Lean
import PyProof.EqAt
import PyProof.EqKinds
import PyProof.TupleCall
import PySem.Challenge.RW_renamehall_k91_whole_letters_exchanged
import KE.IntTextLaws
import KE.KIsAll
import PyProof.ExcArgsOwn
import PyProof.ExcBaseAll.ValueError
import PyProof.ExcClass2
import PyProof.ExcInit
import PyProof.InstStore
import PyProof.Rows.CatchBare
import PyProof.Rows.CatchOwn
import PyProof.StationsW
import PyProof.SumWalk
import PyProof.ReprRoads
set_option Elab.async false
set_option linter.all false
set_option maxRecDepth 100000
local macro_rules|`(tactic|trivial)=>`(tactic|first|exact Or.inl rfl|exact Or.inr rfl|decide +kernel|assumption|(refine⟨rfl,rfl,rfl,?_,rfl,?_,?_⟩<;>decide +kernel)|fail)
theorem gR0{g j:Type}{f:g->j}{l:List g}{i:Nat}{v:j}(h:(l.map f)[i]?=some v):∃z,l[i]?=some z/\v=f z:=by
 rw[List.getElem?_map] at h;cases e:l[i]? with
 |none=>rw[e] at h;cases h
 |some z=>rw[e] at h;cases h;exact⟨z,rfl,rfl⟩
open Array renaming getElem?_eq_getElem→Fh,length_toList→Ge,getElem?_toList→Jq,getElem?_eq_none→Mg,getD_eq_getD_getElem?→Ov,forIn_toList→Ox,perm_iff_toList_perm→Pe,toList_map→Qk,append_assoc→Tv
open Array.Perm renaming refl→Wo
open Bool renaming false_eq_true→Bc,false_ne_true→Bl,not_true→Ft,and_eq_true_iff→Jz,and_eq_true→Mr,eq_iff_iff→Nk,not_false→Ol,and_self→Pf,or_false→Tf
open Int renaming toNat_natCast→Ff,emod_lt_of_pos→Lc,emod_nonneg→Nq,le_refl→Rn
open List renaming length_map→Aa,mem_map→Ac,map_append→Ae,getElem?_eq_some_iff→Af,mem_of_getElem?→Ah,mem_singleton→Aj,getElem?_map→Ak,length_append→Al,mem_cons_of_mem→Am,map_map→An,mem_append→Ar,mem_cons_self→As,map_cons→Ax,take_length→Ba,mem_cons→Bb,size_toArray→Be,mem_iff_getElem?→Bg,getLast?_eq_some_getLast→Bh,mem_append_right→Bm,length_take→Bp,getElem?_append_left→Bq,take_add_one→Br,nodup_cons→Bs,getElem?_eq_getElem→Bu,length_pos_iff→Bw,length_dropLast→Cc,getElem?_append_right→Cd,length_cons→Cg,mem_append_left→Ck,dropLast_concat→Co,length_singleton→Cr,map_congr_left→Ct,getLastD_eq_getLast?→Cy,getLast?_eq_getElem?→Cz,mem_filter→Di,length_filter_le→Dk,filter_cons_of_neg→Dl,filter_cons_of_pos→Dm,append_nil→Du,length_drop→Dx,nodup_append→Dz,filter_append→Ed,mem_of_getLast?→Ee,take_of_length_le→Eh,getLast?_map→Eo,take_succ→Et,append_assoc→Fg,not_mem_nil→Fm,getLastD_concat→Fy,perm_append_singleton→Gn,length_nil→Gw,mem_of_mem_take→Gy,dropLast_concat_getLast→Hf,find?_cons→Hr,perm_ext_iff_of_nodup→Hz,filterMap_cons→Iv,length_eq_zero_iff→Iy,map_drop→Ja,map_take→Jb,pairwise_map→Jo,drop_zero→Jy,lookup_cons→Kc,mem_of_mem_drop→Kg,getD_eq_getElem?_getD→Kk,map_eq_nil_iff→Km,getElem?_eq_none_iff→Ko,nil_append→Ks,mem_filterMap→Kw,zip_cons_cons→Lg,pairwise_cons→Li,sublist_append_left→Lk,take_zero→Lp,getElem?_cons_succ→Lu,take_sublist→Lv,mapM_toArray→Ly,getElem?_inj→Ma,any_cons→Mm,dropLast_subset→Ob,take_append_of_le_length→Od,eq_nil_of_length_eq_zero→Oe,replicate_succ→Of,mem_range→Oh,getElem?_drop→Pa,take_nil→Pg,flatten_cons→Pk,foldl_append→Po,mem_of_find?_eq_some→Py,drop_eq_getElem_cons→Pz,all_eq_true→Qi,drop_length→Qn,length_erase_of_mem→Qo,nil_sublist→Qp,pairwise_singleton→Qu,of_mem_zip→Qw,forIn_cons→Qy,any_append→Rc,getElem?_set_self→Rf,length_pos_of_mem→Rx,dropLast_eq_take→Sg,getElem?_toArray→Sj,mem_of_mem_head?→Sk,perm_append_comm→Sl,getElem?_eq_none→Sm,getElem?_set_ne→So,mem_erase_of_ne→Sy,mem_of_mem_tail→Sz,getLast?_append→Ta,filter_sublist→Tr,filterMap_map→Ua,zip_nil_right→Ug,getElem?_take→Uj,getLast?_cons→Ul,any_eq_false→Uq,reverse_cons→Us,zip_nil_left→Ux,ext_getElem?→Vb,drop_sublist→Vc,map_id→Vg,filter_cons→Vp,zipIdx_cons→Vu,any_eq_true→Vy,map_reverse→Vz,getElem_mem→Wa,foldl_cons→Wj,find?_some→Wr
open List.Pairwise renaming imp_of_mem→Iu
open List.Perm renaming append_right→Ml
open List.Sublist renaming refl→Mb,append→Og
open Nat renaming le_refl→Au,zero_le→Bf,ne_of_lt→Bj,lt_of_lt_of_le→Cb,le_trans→Ce,ne_of_gt→Fl,lt_irrefl→Fq,le_succ_of_le→Fz,lt_succ_self→He,le_of_lt→Hj,succ_le_succ→Ij,le_succ→Jh,lt_succ_of_lt→Jn,sub_zero→Jx,le_of_eq→Kx,lt_of_le_of_lt→Lb,min_eq_left→Rb,add_right_cancel→Tb,add_le_add_left→Ti,min_self→Ud,lt_or_ge→Ui,sub_self→Uk,min_eq_right→Vx,not_lt→Wq
open Ne renaming symm→Ei
open Option renaming map_eq_some_iff→Bv,map_some→Kp,isSome_map→Lw,isSome_iff_exists→Qf,getD_none→Vm,getD_some→Wb
open Option.some renaming inj→Bx
open Prod renaming ext→Vi
open Prod.mk renaming inj→Vh
open PyProof.Rows renaming lo1→Bd,wpS_bind→Cp,slot_tuple_getitem→Ea,wpS_pure→Eg,get?_update_seq→Es,callWith_type1→Ey,seqObj→Io,StrsAre→Iz,SortSt→Je,up1→Kh,envOfC→Kz,SortKind→Ld,wpS_forRange→Le,listItems_at→Lh,AllBare→Mu,mirror→Nu,collect_list→Px,pendingOf→Ra,subscriptTail_builtinR→Rj,mirror_perm→Ro,wpS_reverse→Rp,wpS_get→Sf,Constant_none→Tc,listUpdate_at→Tg,lt_str→Tj,args_tuple_getitem→Ub,IntsAre→Um,tuples'→Uo,seqEpoch_at→Vf,failedOf→Vr,wpS_mono→Vs,keyKind'→Vv,Subscript_→Wg,wpS_modify→Wn
open PyProof.Rows.IsTup renaming new→Wv
open PySem renaming wpAny_bind→Ab,wpAny_pure→Ad,Shared→Ag,Program→Ay,starEach→Bk,NameKind→Bo,wpAny_call_entry→Bt,wpAny_newObj_type→By,wpAny_callSpecial?_slot→Bz,wpAny_field→Cj,wpAny_holding→Cn,boot_len→Cs,Paired→Cu,PyData→Cw,compareOp→Dg,wpAny_setField_rec→Dh,wpAny_mono→Dj,wpAny_truthy_bool→Dn,Builtin→Dq,wpAny_seqItems→Ds,codeAny_builtin→Dv,plainId_quiet→Dw,sizeLine_eq→Dy,sysModules→Eb,mainGlobals→Ef,rawInt→Ek,wpAny_dictEntries→En,wpAny_attempt→Ep,wpAny_isInstance→Fn,tupleKind_room_in1→Fp,codeAny→Fu,wpAny_dictEpoch→Ga,wpAny_updateSeq→Gb,mem_of_lookup→Gg,backTo→Gj,wpAny_typeOf→Gk,wpAny_rule→Gm,wpAny_letGo→Gs,compEnvC→Gv,wpAny_typeNameOfWhole_itemiter→Gx,attributeBase→Gz,wpAny_typeNameOfWhole_keyiter→Ha,wpAny_typeNameOfWhole_valiter→Hb,pyNext→Hc,binaryOp→Hd,wpAny_of_eq→Hh,bootBuiltins→Hi,wpAny_passesOwn→Hq,builtinLookup_eq_fast→Ht,wpAny_notOrdered_dict→Hu,argBest→Hv,behindInMarks→Hw,wpAny_standAt→Hx,wpAny_typeNameOf_itemiter→Ib,strIterType→Ig,codeAny_mono→Ii,wpAny_comprehension_free→Ik,wpAny_typeNameOf_keyiter→Il,wpAny_forIn_list→Im,tupleKeyHash→Iq,wpAny_typeNameOf_valiter→Ir,tupleKind→Jc,wpAny_Call_Name_kw→Jd,keywordEach→Jg,foldedSetIterable→Jm,isSubtype_stop→Jr,isSubtype_type→Jt,wpAny_setField→Ju,wpAny_fieldsOf→Jw,assignEach→Ka,call_meets→Kb,find?_eq_fast→Kj,sliceBounds→Kl,importedModules→Kn,wpAny_specialOf→Kq,typeLookup_type→Kr,swapsWith→Ku,pyIter→Kv,holding→Ll,firstArgMember→Lm,wpAny_tryCatch→Lo,wpAny_pyIter_slot→Lx,IsPart→Md,IsPair→Me,wpAny_isOneOf_itemiter→Mh,FuncData→Mo,backToKw→Mp,checkBuiltinCall→Ms,updateSeq→Mx,isSubtype_tuple_tuple→My,wpAny_isOneOf_valiter→Mz,wpAny_execs_nil→Nh,letOwnedTupleGo→Ni,wpAny_updateSeq_pair→Nn,codeAny_call_builtin→Nr,Keyword→Oi,wpAny_newTuple→Oj,DictEntry→Oo,getMethod→Oq,wpAny_tupleItemsOf→Ow,wpAny_onRaise→Pc,wpAny_handled→Pd,wpAny_assign_Name→Ph,wpAny_pyIter_list→Pl,standAt→Qa,callerA→Qb,Within→Qc,wpAny_execs_cons→Qd,noFill_tuple_add→Qg,call_meetsIn→Qj,seqIndex?→Qx,wpAny_pyNext_list_item→Rg,subscripted→Ri,wpAny_Assign_Subscript→Rl,wpAny_throw→Rm,richCompare→Rr,wpAny_isTrue_Compare1→Ry,wpAny_pyNext_list_end→Rz,BindsTo→Sa,exec_Assign_Name_used→Sb,wpAny_isOneOf_keyiter→Se,entryOfKey→Sn,wpAny_loadName_local→Sq,wpAny_call→Sr,typeLookup→Ss,typeIs_str→Su,PlainAttrs→Sv,wpAny_newFunctionEnv→Sw,entryFor→Sx,seq_tuple_add→Te,wpAny_loadName_cell→Th,treeTable→Ts,concat_meets→Tz,wpAny_setItem_heap→Uc,eqIsQuiet→Uh,wpAny_sequenceKey→Ur,wpAny_pyIter_strU→Uu,wpAny_pyIter_enum→Uv,wpAny_Call_method→Uw,eqIsQuiet_byValue→Va,seqIndex_of→Ve,callWith→Vk,wpAny_Name→Wc,wpAny_load→Wd,typeIs_int→Wi,call→Wl,closureFor→Wm,OsState→Ws
open PySem.Around renaming under_plainId→Cv,under→Qe
open PySem.AutoSeq1 renaming wpAny_loadPart'→Nx,sub_list_list→Rt
open PySem.Builtin.Builtins renaming bindParams→Oy
open PySem.Builtin.Dict renaming showsAll→Jv,pendingCount→Pw,noArgs→Tq
open PySem.Builtin.Dict_items renaming ownsTuple→Er,ownedTupleFields→Ln,newIterator→Nv,dictOf→Pu
open PySem.Builtin.List renaming listItems→Fb,listExtendWith→Hn,listSameRef→Ip,listTooLong→Qh
open PySem.Builtin.Slice renaming slicePlaces→Ia,sliceAdjust→Pq
open PySem.Builtin.SmallTypes renaming nextOf→Pr
open PySem.Builtin.Str renaming occurrences→Qq
open PySem.Builtin.Tuple renaming tupleHashOf→Ic,tupleItemsOf→Ki
open PySem.Calls renaming callWith_builtin→Ji,spliced_cons→Ky,evalArgs_plain→Nl,Name_function_global→Pb,spliced_nil→Pj
open PySem.Code renaming isFrame→Tw
open PySem.F renaming plainAttrs_list→Cq,plainAttrs_str→Dd,slot_list_append→Eu,type_list_append→Ew,slot_dict_valueiterator_next→Fi,slot_dict_itemiterator_next→Fj,slot_dict_keyiterator_next→Fx,plain_extend_loop→Gh,slot_dict_get→Gq,plain_min_loop→Hg,plainAttrs_dict→Iw,entry_dict_get→Jj,slot_str_lower→Jk,type_str_lower→Jl,slot_enumerate_next→Js,slot_list_reversed→Kd,args_tuple_add_2→La,slot_list_getattribute→Lj,entry_tuple_add→Lq,slot_tuple_hash→Lz,slot_tuple_add→Mc,slot_str_upper→Mi,type_str_upper→Mj,args_dict_valueiterator_next_1→Mt,slot_str_join→Na,type_str_join→Nb,slot_list_pop→Nc,type_list_pop→Nd,args_dict_itemiterator_next_1→Nf,entry_dict_valueiterator_next→Ng,slot_zip_next→Np,args_dict_keyiterator_next_1→Nt,entry_dict_itemiterator_next→Nw,slot_tuple_eq→Nz,slot_list_lt→Oa,entry_dict_keyiterator_next→Oc,entry_min_loop→Qm,args_enumerate_next_1→Qr,args_dict_get_2→Qs,args_dict_get_3→Qt,slot_dict_values_iter→Qv,entry_enumerate_next→Rk,slot_dict_items_iter→Rq,args_list_lt_2→Ru,type_dict_get→Sd,slot_dict_len→Sh,entry_list_lt→Si,entry_extend_loop→To,args_zip_next_1→Ut,plain_list_iadd→Uz,entry_zip_next→Vo,slot_dict_iter→Vq,slot_int_rmul→Wk
open PySem.Heap renaming get?_push_of_some→Ai,get?_push_size→Aw,lt_size→Az,get?_update_other→Cm,size_push→Fv,SameBut→Gi,get?_update_self→Gp,ExtBut→Om
open PySem.Heap.SameBut renaming update→El,refl→Pn
open PySem.Obj renaming mapSeq→Dp,data_mapFields→Hm,mapFields→Mn,isFreed_of_fields→Mw,cls_mapFields→Pm
open PySem.Paired renaming length→Ez
open PySem.PassesOwn renaming never→Ca
open PySem.PyData renaming canLayAll0→Cf,depthAll→Ec,canLay0→Fe,eqv→Fw,depthAll→Gr,depth→Ho,eqvAll→Hy,canLay0→Ke,canLayAll0→Ls,depth→Ou,strOk→Ue
open PySem.SeqAt renaming EqAt→Em,eqAt_reads→Vt
open PySem.SeqAt.EqAt renaming str_str→Ot,int_str→Tt,str_int→Tu,same→Wh
open PySem.Str renaming ofString→Ap
open PySem.Txt renaming lower→Jf,upper→Ny,slice→Qz,join→Vn
open PySem.W renaming Frag→Aq,findIn→Gu,emptyDict→Ie,keepIn→Ih,fnOf→Jp,instObj→Kt,codeIn→Mq,Frag→Nj,plainGet→Pp,hasDictIn→Rh,plainGet_of→Td,callWith_K→Tx,plainOver→Vd,lookIn→Vj,cellsFrom_some→Vl,isFn→We,methodCall_KW→Wf,takerIn→Wt,makesIn→Wu,OpenLaw→Ww
namespace HD
open PySem PySem.W PyProof.Rows
theorem end0:(∃f,endAt 0 t=some f)/\through t=true\/endAt 0 t=none/\through t=false:=by
 unfold endAt through;obtain⟨e,g,h,stack⟩:=t;cases stack with
 |cons a r=>exact .inr ⟨by cases e<;>rfl,rfl⟩
 |nil =>
  cases e with
  |pure f =>
   cases f with
   |done f=>simp_all
   |_=>simp_all
  |_=>exact .inr ⟨rfl,rfl⟩
theorem z3q{tb:String->Option Dq}{p:Ay}{w:World}{g:Nat}{j:Option Value}:∀{n:Nat} {s s':Ag} {t:Thread} {f:Flow} {c:Code} {q:Pos},segRun tb p w g j 0 n s t=some (f,s',c,q)->topRun tb p w g j n s t=some s'
 |0,_,_,_,_,_,_,h=>by cases h
 |n+1,s,s',t,f,c,q,h=>by
  unfold segRun at h;unfold topRun;rcases end0 (t:=t) with⟨⟨u,e⟩,th⟩|⟨e,th⟩
  ·rw[e] at h;rw[th];cases h;rfl
  ·rw[e] at h;rw[th];dsimp only at h ⊢;cases ok:stepOk g j t with
   |false=>rw[ok] at h;cases h
   |true =>
    rw[ok] at h;dsimp only at h ⊢;cases st:step (denote tb) p w s t with
    |go s1 t1=>rw[st] at h;exact z3q h
    |halt _ _=>rw[st] at h;cases h
noncomputable def mkT(l:List Obj):BT:=(l.foldl (fun(a:BT×Nat) o=>(a.1.ins a.2 o,a.2+1)) (BT.nil,0)).1
noncomputable def bootT (P:Params) (os:Ws):SharedT:=⟨mkT (boot_heap P).objs.toList,11,(boot_heap P).life,#[],boot_drawn,boot_toks,os⟩
theorem z9k(P:Params)(os:Ws):(bootT P os).abs=⟨boot_heap P,#[],boot_drawn,boot_toks,os⟩:=by kernel_rfl
theorem z5z(P:Params):((boot_heap P).isNs Ef&&(#[]:Array GenState).size==0,(boot_heap P).objs.size,(boot_heap P).nsMap Ef "__annotations__")=(true,11,some (.ref 6)):=by kernel_rfl
theorem left{Yf:Ag->α}{Ya:World->α}(e:opening p=plainProg p.main.scope.names)(g:Nat.ble 600 N=true)(f:∀s,fenceModules? p s=some s)(h:∀(w:World) (os:Ws),(segRunT Ts p w 11 (some (.ref 6)) 0 N (bootT w.params os) (topStub p)).map (fun r=>((staticsOk (Kn p.main.body) (boot_heap w.params) r.2.1.abs.heap&&namesBound p r.2.1.abs.heap&&gensDone r.2.1.abs&&laidKept (boot_heap w.params) r.2.1.abs.heap),
   openSeen q loose (Kn p.main.body) Xt true r.2.1.abs,Yf r.2.1.abs))=some (true,openGood q loose,Ya w)):LeftO p q loose Xt Yf Ya N:=fun w=>by
 obtain⟨⟨j,u,d,k,os⟩,v,B⟩:=Bv.mp (boot_open e g f w);obtain⟨rfl,rfl,rfl,rfl⟩:j=boot_heap w.params/\u=#[]/\d=boot_drawn/\k=boot_toks:=by simpa using B
 obtain⟨C,D,E⟩:_/\_/\_:=by simpa only[Prod.mk.injEq] using z5z w.params
 obtain⟨⟨fl,st,c,M⟩,G,H⟩:=Bv.mp (h w os);obtain⟨I,J,L⟩:_/\_/\_:=by simpa only[Prod.mk.injEq] using H
 have r:=z3q (segRun_of G);rw[z9k] at r;have t:topFrom Ts p w N ⟨boot_heap w.params,#[],boot_drawn,boot_toks,os⟩=some st.abs:=by
  unfold topFrom;rw[C,D,E,r];show(match staticsOk (Kn p.main.body) (boot_heap w.params) st.abs.heap&&namesBound p st.abs.heap&&gensDone st.abs&&laidKept (boot_heap w.params) st.abs.heap with|true=>_|false=>_)=_;rw[I]
 unfold openEnds;rw[v];show(topFrom Ts p w N _).map _=_;rw[t];exact congrArg some (Vi J L)
end HD
section
namespace K
open PySem PySem.W PyProof.Rows
noncomputable abbrev loose:List Str:=[Ap "_wall",Ap "HallError",Ap "NoHall",Ap "NoThing",Ap "NoDrawer",Ap "Taken",Ap "Fixed",Ap "NoWish",Ap "Meets",Ap "is_wish",Ap "wished_places",Ap "all_places",Ap "meetings",Ap "ask_wishes",Ap "path_then",Ap "goal",Ap "things_that_move",Ap "next_ones",Ap "asked_next_ones",Ap "from_thing_on",Ap "rings",Ap "chains",Ap "alike",Ap "carried",Ap "Hall",Ap "path_behind",Ap "spare_name",Ap "put_move",Ap "row_for",Ap "_law_draw",Ap "_law_name_signs",Ap "_law_other_signs",Ap "_law_text",Ap "_law_a_name",Ap "_law_fold",Ap "_law_rows",Ap "_law_other_case",Ap "_law_some_of",Ap "_law_free_place",Ap "_law_good_wishes",Ap "_law_in_order",Ap "_law_then",Ap "_law_exchange",Ap "_law_put",Ap "_law_from_least"]
noncomputable abbrev vw:Ay:=view PySem.Challenge.pw_renamehall_k91_whole_letters_exchanged [52]
noncomputable abbrev xt(s:Ag):Bool:=xlAt vw [] s&&recOk [] s
end K
open PySem PySem.W PyProof.Rows
local macro_rules | `(tactic| o_head $H) => `(tactic| (
  refine holds_open (q := K.vw) (loose := K.loose) (Xt := K.xt) (XP := XL K.vw []) (Yf := Hook.obs $H) (Ya := Hook.val $H) (YP := Hook.says $H) (N := 60000) ?hl (Hook.of $H) (Hook.keeps $H) (fun s e => xl_of s (Jz.mp e).1) XL.keeps
    (by rfl) (by rfl) (by rfl) (fun s e => recFacts_of (Jz.mp e).2) (by rfl) (by first | assumption | decide +kernel) (by decide +kernel) ⟨rfl, rfl, rfl, rfl, rfl, by decide +kernel⟩ ?hw ?hc))
set_option maxRecDepth 100000 in
set_option maxHeartbeats 0 in
theorem K.pre(h:False):PySem.Challenge.rw_renamehall_k91_whole_letters_exchanged.Holds:=by w_on;o_law;k_head;all_goals exact h.elim
theorem K.q0:(Nat.ble PySem.Challenge.pw_renamehall_k91_whole_letters_exchanged.main.body.length 100000)=true:=by k_qdec
noncomputable abbrev K.as:List Nat:=[2,3,15,17,18,20,21,22,29,30,31,32,35,42,44,45,47,48,49,50,51,54,61,63,64,66,67,68,69,70,73,80,82,83,85,86,87,88,89,92,99,101,102,104,105,106,107,108,111,118,120,121,123,124,125,126,127,130,137,139,140,142,143,144,145,146,149,156,158,159,161,162,163,164,165,168,170,171,173,174,175,177,178,180,181,182,185,186,187,189,190,192,193,194,196,197,199,200,201,203,204,206,207,208,211,212,213,216,217,218,220,221,223,224,225,227,228,230,231,232,234,235,237,238,239,241,242,244,245,246,249,250,251,253,254,256,257,258,260,261,263,264,272,273,276,277,278,280,281,283,284,285,287,288,290,291,292,294,295,297,298,299,301,302,304,305,306,308,309,311,312,313,315,316,318,319,320,322,323,325,326,327,329,330,332,333,334,336,337,339,340,341,344,345,346,348,349,351,352,353,355,356,358,359,360,361,362,363,364,367,369,370,372,373,374,377,378,379,381,382,384,385,386,388,389,391,392,393,395,396,398,399,400,402,403,405,406,414,417,418,419,421,422,424,425,426,428,429,431,432,433,435,436,438,439,440,443,444,445,447,448,450,451,452,455,456,457,460,461,462,465,466,474,476,477,479,480,481,484,485,486,488,489,491,492,493,496,497]
set_option maxRecDepth 100000 in
set_option maxHeartbeats 0 in
theorem K.half0(w:World)(os:Ws):(segRunT Ts PySem.Challenge.pw_renamehall_k91_whole_letters_exchanged w 11 (some (.ref 6)) 0 60000 (HD.bootT w.params os) (topStub PySem.Challenge.pw_renamehall_k91_whole_letters_exchanged)).map (fun r=>((staticsOk (Kn PySem.Challenge.pw_renamehall_k91_whole_letters_exchanged.main.body) (boot_heap w.params) r.2.1.abs.heap&&namesBound PySem.Challenge.pw_renamehall_k91_whole_letters_exchanged r.2.1.abs.heap&&gensDone r.2.1.abs&&laidKept (boot_heap w.params) r.2.1.abs.heap),openSeen K.vw K.loose (Kn PySem.Challenge.pw_renamehall_k91_whole_letters_exchanged.main.body) K.xt true r.2.1.abs,(kHook K.pre.heap_39 K.as (fun _=>by kernel_rfl)).obs r.2.1.abs))=some (true,openGood K.vw K.loose,(kHook K.pre.heap_39 K.as (fun _=>by kernel_rfl)).val w):=by
 unfold K.xt K.vw;rw[PySem.W.Fast.te10110043849684766642,PySem.W.Fast.te4187177175401517315,PySem.W.Fast.te14364793385576792824,PySem.W.Fast.te5923862056798008813,PySem.W.Fast.te11687262923971826196];kernel_rfl
end
set_option Elab.async false
set_option linter.all false
set_option maxRecDepth 100000
namespace L2
open PySem PySem.Spec PyProof.Rows
noncomputable abbrev Key:=Sum Int Str
noncomputable def keyIs:Key->Value->Bool
 |.inl k,v=>Value.isInt k v
 |.inr x,v=>Value.isStrOf x v
noncomputable def keyH(w:World):Key->Int
 |.inl k=>hashInt k
 |.inr x=>hashStr w x
theorem q1c:∀{k:Key} {v:Value},keyIs k v=true->(∃i t,k=Sum.inl i/\v=Value.int i t)\/(∃x t,k=Sum.inr x/\v=Value.str x t)
 |.inl i,v,h=>by
  obtain⟨t,e⟩:=Value.isInt_shape (k:=i) (v:=v) h;exact .inl ⟨i,t,rfl,e⟩
 |.inr x,v,h=>by
  obtain⟨t,e⟩:=Value.isStrOf_shape h;exact .inr ⟨x,t,rfl,e⟩
theorem z6a(i:Int)(t:Tok):keyIs (.inl i) (.int i t)=true:=by simp[keyIs,Value.isInt]
theorem z6b(x:Str)(t:Tok):keyIs (.inr x) (.str x t)=true:=by simp[keyIs,Value.isStrOf]
theorem key_ll(a b:Int):decide ((Sum.inl a:Key)=Sum.inl b)=(a==b):=by grind
theorem key_rr(a b:Str):decide ((Sum.inr a:Key)=Sum.inr b)=decide (a=b):=by grind
theorem key_lr(a:Int)(b:Str):decide ((Sum.inl a:Key)=Sum.inr b)=false:=decide_eq_false (fun q=>nomatch q)
theorem key_rl(a:Str)(b:Int):decide ((Sum.inr a:Key)=Sum.inl b)=false:=decide_eq_false (fun q=>nomatch q)
noncomputable def mixKind(prog:Ay)(w:World):PySem.KeyKind prog w Key where
 is:=keyIs
 hash:=keyH w
 inj:=fun v a b ha hb=>by
  rcases q1c ha with⟨i,t,rfl,rfl⟩|⟨x,t,rfl,rfl⟩
  ·rcases q1c hb with⟨j,u,rfl,e⟩|⟨y,u,rfl,e⟩
   ·injection e with e1 _;rw[e1]
   ·exact nomatch e
  ·rcases q1c hb with⟨j,u,rfl,e⟩|⟨y,u,rfl,e⟩
   ·exact nomatch e
   ·injection e with e1 _;rw[e1]
 byValue:=fun k v h=>by
  rcases q1c h with⟨i,t,rfl,rfl⟩|⟨x,t,rfl,rfl⟩<;>rfl
 pyHash:=fun hv h=>by
  rcases q1c hv with⟨i,t,rfl,rfl⟩|⟨x,t,rfl,rfl⟩
  ·exact wpAny_pyHash_int h
  ·exact wpAny_pyHash_str h
 eqBool:=fun hu hv h=>by
  rcases q1c hu with⟨i,t,rfl,rfl⟩|⟨x,t,rfl,rfl⟩
  ·rcases q1c hv with⟨j,u,rfl,rfl⟩|⟨y,u,rfl,rfl⟩
   ·rw[key_ll] at h;exact wpAny_eqBool_int h
   ·rw[key_lr] at h;exact Tt i t y u _ _ _ _ h
  ·rcases q1c hv with⟨j,u,rfl,rfl⟩|⟨y,u,rfl,rfl⟩
   ·rw[key_rl] at h;exact Tu x t j u _ _ _ _ h
   ·rw[key_rr] at h;exact wpAny_eqBool_str h
 «strs» := fun k x t v h=>by
  rcases q1c h with⟨i,u,rfl,e⟩|⟨y,u,rfl,e⟩
  ·exact nomatch e
  ·injection e with e1 _
   subst e1
   cases v<;>rfl
theorem z2j(prog:Ay)(w:World)(i:Int)(t:Tok):(mixKind prog w).is (.inl i) (.int i t)=true:=z6a i t
theorem z2k(prog:Ay)(w:World)(x:Str)(t:Tok):(mixKind prog w).is (.inr x) (.str x t)=true:=z6b x t
inductive V where
 |non|bl (b:Bool)|int (i:Int)|str (x:Str)|byt (b:Array UInt8)|flt (b:UInt64)|ref (a:Addr)|ty (n:String)
 deriving DecidableEq
noncomputable def RelV:V->Value->Prop
 |.non,u=>u=Value.none
 |.bl b,u=>u=Value.bool b
 |.int i,u=>∃t,u=Value.int i t
 |.str x,u=>∃t,u=Value.str x t
 |.byt b,u=>∃t,u=Value.bytes b t
 |.flt b,u=>∃t,u=Value.float b t
 |.ref a,u=>u=Value.ref a
 |.ty n,u=>u=Value.type n
noncomputable abbrev Vals:List V->List Value->Prop:=Cu RelV
theorem Vals.length(r:Vals xs us):xs.length=us.length:=Ez r
theorem Vals.get:∀{xs:List V} {us:List Value} {i:Nat} {x:V},Vals xs us->xs[i]?=some x->∃u,us[i]?=some u/\RelV x u
 |_,_,_,_,.nil,e=>by simp at e
 |_,_,0,_,.cons r _,e=>by simp at e;subst e;exact⟨_,rfl,r⟩
 |_,_,i+1,x,.cons _ t,e=>by
  obtain⟨u,f,g⟩:=Vals.get (i:=i) (x:=x) t (by simpa using e);exact⟨u,by simpa using f,g⟩
theorem Vals.set{x:V}{u:Value}(r:RelV x u):∀{xs:List V} {us:List Value} (i:Nat),Vals xs us->Vals (xs.set i x) (us.set i u)
 |_,_,_,.nil=>.nil
 |_,_,0,.cons _ t=>.cons r t
 |_,_,i+1,.cons q t=>.cons q (Vals.set r i t)
theorem Vals.append:∀{xs ys:List V} {us ws:List Value},Vals xs us->Vals ys ws->Vals (xs++ys) (us++ws)
 |_,_,_,_,.nil,s=>s
 |_,_,_,_,.cons r t,s=>.cons r (Vals.append t s)
theorem Vals.take:∀{xs:List V} {us:List Value} (n:Nat),Vals xs us->Vals (xs.take n) (us.take n)
 |_,_,0,_=>.nil
 |_,_,_+1,.nil=>.nil
 |_,_,n+1,.cons r t=>.cons r (Vals.take n t)
theorem Vals.drop:∀{xs:List V} {us:List Value} (n:Nat),Vals xs us->Vals (xs.drop n) (us.drop n)
 |_,_,0,r=>r
 |_,_,_+1,.nil=>.nil
 |_,_,n+1,.cons _ t=>Vals.drop n t
noncomputable def RelO:Option V->Option Value->Prop
 |some v,some u=>RelV v u
 |none,none=>True
 |_,_=>False
noncomputable def KV{κ:Type}:List (κ×V)->List (κ×Value)->Prop:=Cu fun(p:κ×V) (q:κ×Value)=>p.1=q.1/\RelV p.2 q.2
noncomputable def kV:Key->V
 |.inl i=>.int i
 |.inr x=>.str x
inductive HO where
 |lst (xs:List V)
 |tup (xs:List V)
 |dK (kvs:List (Key×V))|dT (kvs:List (List Key×V))
 |set (S:Int->Bool) (n:Nat)
 |ins (C dx:Addr) (fs:List (Str×V))
 |own (x:Addr)
 |xd (fs:List (Str×V))
 |met (f x:Addr)
 |rng (lo hi:Int)
 |frz (o:Obj) (u:HO)
 |tbl (ps:Array Value)
 |ext (φ:Heap->Prop)
noncomputable abbrev Hp:=Addr->Option HO
noncomputable def upd(H:Hp)(a:Addr)(o:HO):Hp:=fun b=>if b=a then some o else H b
theorem q0b:upd H a o a=some o:=by unfold upd;rw[if_pos rfl]
theorem q0d(h:b≠a):upd H a o b=H b:=by unfold upd;rw[if_neg h]
theorem x2u:upd (upd H a o) a u=upd H a u:=by
 funext b;unfold upd;split<;>rfl
theorem z6c{H:Hp}(h:H a=some o)(h':H b=some u)(d:o≠u):a≠b:=by grind
theorem q0i{H:Hp}(h:H a=some o)(h':H b=none):a≠b:=by
 intro e;subst e;rw[h] at h';cases h'
section
variable(P:Ay)(w:World)
noncomputable def ObjOk(H:Hp)(h:Heap)(a:Addr):HO->Prop
 |.lst xs=>xs.length<=sizeLine/\∃(its:List Value) (n:Nat),Vals xs its/\h.get? a=some { cls:=.type "list",data:=.seq its.toArray n }
 |.tup xs=>xs.length<=sizeLine/\∃its:List Value,Vals xs its/\IsTup h a its.toArray
 |.dK kvs=>kvs.length<=sizeLine/\(a==Eb)=false/\∃vs,KV kvs vs/\h.DictOf (mixKind P w) a vs
 |.dT kvs=>kvs.length<=sizeLine/\(a==Eb)=false/\∃xs:List (List Key×Addr×Value),
   Cu (fun(p:List Key×V) (q:List Key×Addr×Value)=>p.1=q.1/\H q.2.1=some (.tup (p.1.map kV))/\RelV p.2 q.2.2) kvs xs /\
   ∃o es ep,h.get? a=some o/\o.ExactDict/\o.data=.dict es ep/\es.toList=xs.map (Sn (Jc (mixKind P w)))/\(xs.map (·.1)).Nodup
 |.set S n=>h.SetOf (intKind P w) a S n
 |.ins C dx fs=>H dx=some (.own a)/\fs.length<=1000/\dx≠a/\h.get? a=some (Kt C dx) /\
   ∃mA,h.Ns1 dx mA/\(∀f,RelO (fs.lookup f) (mA f))/\Qc mA (fs.map (·.1))
 |.own _=>∃o,h.get? a=some o
 |.xd fs=>∃mA,h.Ns1 a mA/\∀f,RelO (fs.lookup f) (mA f)
 |.rng lo hi=>∃t u v,h.get? a=some { cls:=.type "range",data:=.fields #[.int lo t,.int hi u,.int 1 v] }
 |.frz o u=>h.get? a=some o/\ObjOk H h a u
 |.tbl ps=>h.get? a=some { cls:=.none,data:=.fields ps }
 |.met f x=>h.get? a=some (W.methodObj (.ref f) (.ref x))
 |.ext φ=>φ h/\(∃o,h.get? a=some o)/\∀h1 h2:Heap,φ h1->(∀o,h1.get? a=some o->h2.get? a=some o)->φ h2
noncomputable def HOk(H:Hp)(h:Heap):Prop:=∀a o,H a=some o->ObjOk P w H h a o
end
section
variable{P:Ay}{w:World}{H H':Hp}{h h':Heap}{a:Addr}{o:HO}
theorem ObjOk.lt(x:ObjOk P w H h a o):a<h.objs.size:=by
 cases o with
 |lst xs=>obtain⟨_,_,_,_,e⟩:=x;exact Az e
 |tup xs=>obtain⟨_,_,_,p⟩:=x;exact p.lt
 |dK kvs=>obtain⟨_,_,_,_,o,_,_,e,_⟩:=x;exact Az e
 |dT kvs=>obtain⟨_,_,_,_,o,_,_,e,_⟩:=x;exact Az e
 |set S n=>obtain⟨o,_,_,_,e,_⟩:=x;exact Az e
 |ins C dx fs=>obtain⟨_,_,_,e,_⟩:=x;exact Az e
 |own y=>obtain⟨_,e⟩:=x;exact Az e
 |xd fs=>obtain⟨_,⟨_,_,_,e,_⟩,_⟩:=x;exact Az e
 |rng lo hi=>obtain⟨_,_,_,e⟩:=x;exact Az e
 |frz ob u=>obtain⟨e,_⟩:=x;exact Az e
 |tbl ps=>exact Az (show h.get? a=some _ from x)
 |met f y=>exact Az (show h.get? a=some _ from x)
 |ext φ=>obtain⟨_,⟨_,e⟩,_⟩:=x;exact Az e
theorem Cu.mapP{e g:Type}{F G:e->g->Prop}:∀{l₁:List e} {l₂:List g},Cu F l₁ l₂->(∀a b,F a b->G a b)->Cu G l₁ l₂
 |_,_,.nil,_=>.nil
 |_,_,.cons r t,f=>.cons (f _ _ r) (Cu.mapP t f)
theorem Cu.imp'{F G:α->β->Prop}(f:∀a b,F a b->G a b){l₁:List α}{l₂:List β}(r:Cu F l₁ l₂):Cu G l₁ l₂:=Cu.mapP r f
theorem ObjOk.stay(x:ObjOk P w H h a o)(k:∀b u,(b=a\/H b=some (.own a))->h.get? b=some u->h'.get? b=some u)(G:∀b,H b=some (.own a)->H' b=some (.own a))(I:∀b xs,H b=some (.tup xs)->H' b=some (.tup xs)):ObjOk P w H' h' a o:=by
 induction o with
 |lst xs=>obtain⟨z,B,n,r,e⟩:=x;exact⟨z,B,n,r,k _ _ (.inl rfl) e⟩
 |tup xs=>obtain⟨z,B,r,g,e,c⟩:=x;exact⟨z,B,r,g,k _ _ (.inl rfl) e,c⟩
 |dK kvs=>obtain⟨z,y,vs,r,g,j,s,e,c⟩:=x;exact⟨z,y,vs,r,g,j,s,k _ _ (.inl rfl) e,c⟩
 |dT kvs =>
  obtain⟨z,y,xs,r,g,j,s,e,c⟩:=x;exact⟨z,y,xs,Cu.mapP r fun p q z=>⟨z.1,I _ _ z.2.1,z.2.2⟩,g,j,s,k _ _ (.inl rfl) e,c⟩
 |set S n=>obtain⟨g,j,s,t,e,c⟩:=x;exact⟨g,j,s,t,k _ _ (.inl rfl) e,c⟩
 |ins C dx fs =>
  obtain⟨d,z,ne,e,D,⟨E,j,s,J,c⟩,r⟩:=x;exact⟨G _ d,z,ne,k _ _ (.inl rfl) e,D,⟨E,j,s,k _ _ (.inr d) J,c⟩,r⟩
 |own y=>obtain⟨g,e⟩:=x;exact⟨g,k _ _ (.inl rfl) e⟩
 |xd fs=>obtain⟨D,⟨E,j,s,e,c⟩,r⟩:=x;exact⟨D,⟨E,j,s,k _ _ (.inl rfl) e,c⟩,r⟩
 |rng lo hi=>obtain⟨t,u,v,e⟩:=x;exact⟨t,u,v,k _ _ (.inl rfl) e⟩
 |frz g u ih=>obtain⟨e,q⟩:=x;exact⟨k _ _ (.inl rfl) e,ih q⟩
 |tbl ps =>
  have e:h.get? a=some { cls:=.none,data:=.fields ps }:=x;exact k a _ (.inl rfl) e
 |met f y =>
  have e:=x;exact k a _ (.inl rfl) e
 |ext φ=>obtain⟨p,⟨o,e⟩,st⟩:=x;exact⟨st _ _ p fun o q=>k _ _ (.inl rfl) q,⟨o,k _ _ (.inl rfl) e⟩,st⟩
theorem HOk.lt(x:HOk P w H h)(e:H a=some o):a<h.objs.size:=(x a o e).lt
theorem HOk.fresh(x:HOk P w H h)(e:h.objs.size<=a):H a=none:=by
 cases q:H a with
 |none=>rfl
 |some u=>exact absurd (Cb (x.lt q) e) (Fq _)
theorem HOk.kept(x:HOk P w H h)(k:∀b u,h.get? b=some u->h'.get? b=some u):HOk P w H h':=fun a o e =>
 (x a o e).stay (fun b u _ q=>k b u q) (fun _ q=>q) fun _ _ q=>q
theorem HOk.laid(x:HOk P w H h)(k:∀b u,h.get? b=some u->h'.get? b=some u)(j:h.objs.size<=a)(new:ObjOk P w (upd H a o) h' a o):HOk P w (upd H a o) h':=fun b u e=>by
 have f:=x.fresh j;by_cases g:b=a
 ·subst g;rw[q0b] at e;cases e;exact new
 ·rw[q0d g] at e;exact(x b u e).stay (fun c v _ q=>k c v q) (fun c q=>by rw[q0d (q0i q f)];exact q) fun c xs q=>by rw[q0d (q0i q f)];exact q
end
noncomputable def Rd(H:Hp)(a:Addr)(u:HO):Prop:=H a=some u\/∃o,H a=some (.frz o u)
theorem Rd.ok(r:Rd H a u)(x:HOk P w H h):ObjOk P w H h a u:=by
 rcases r with r|⟨o,r⟩
 ·exact x a u r
 ·obtain⟨_,q⟩:=x a _ r;exact q
noncomputable def Mut:Option HO->Prop
 |some (.lst _)=>True
 |some (.dK _)=>True
 |some (.dT _)=>True
 |some (.set _ _)=>True
 |some (.ins _ _ _)=>True
 |some (.ext _)=>True
 |_=>False
section
variable{P:Ay}{w:World}{H:Hp}{h h':Heap}{x e:Addr}{o':HO}
theorem HOk.write(ok:HOk P w H h)(s:Mut (H x))(E:e=x\/H e=some (.own x))(k:∀b u,b≠e->h.get? b=some u->h'.get? b=some u)(B:∃u,h'.get? e=some u)(new:ObjOk P w (upd H x o') h' x o'):HOk P w (upd H x o') h':=fun b u q=>by
 have g:∀c y,H c=some (.own y)->c≠x:=fun c y r z=>by subst z;rw[r] at s;exact s
 have j:∀c xs,H c=some (.tup xs)->c≠x:=fun c xs r z=>by subst z;rw[r] at s;exact s
 by_cases C:b=x
 ·subst C;rw[q0b] at q;cases q;exact new
 ·rw[q0d C] at q;by_cases f:b=e
  ·have q':H b=some (.own x):=by
    rcases E with z|z
    ·grind
    ·rw[f];exact z
   rw[q] at q';cases q';obtain⟨v,G⟩:=B;exact⟨v,by rw[f];exact G⟩
  ·refine(ok b u q).stay (fun c v D r=>k c v ?_ r) (fun c r=>by rw[q0d (g c b r)];exact r) fun c xs r=>by rw[q0d (j c xs r)];exact r
   rcases D with rfl|D
   ·exact f
   ·grind
end
structure Un (fs ex:List Addr) (H H':Hp) (h h':Heap):Prop where
 keep:∀b o,h.get? b=some o->H b=none->b∉fs->b∉ex->h'.get? b=some o
 slot:∀b o,h.get? b=some o->H b=none->b∈fs->b∉ex->∃sl,h'.get? b=some { o with slots:=sl }
 free:∀b o,h.get? b=some o->H b=none->b∉ex->H' b=none
 there:∀b o,h.get? b=some o->b∉ex->∃o',h'.get? b=some o'
 tups:∀b xs,H b=some (.tup xs)->H' b=some (.tup xs)
 frzs:∀b o u,H b=some (.frz o u)->H' b=some (.frz o u)
 tbls:∀b ps,H b=some (.tbl ps)->∃more,H' b=some (.tbl (ps++more))
section
variable{fs fs' ex ex':List Addr}{H H1 H2:Hp}{h h1 h2 h':Heap}{a x e:Addr}{o:HO}
theorem Un.any(u:Un fs ex H H1 h h1)(q:h.get? b=some ob)(n:H b=none)(e:b∉ex):∃g,h1.get? b=some { ob with slots:=g }:=by
 by_cases f:b∈fs
 ·exact u.slot b ob q n f e
 ·exact⟨ob.slots,u.keep b ob q n f e⟩
theorem Un.kept(k:∀b u,h.get? b=some u->h'.get? b=some u):Un fs ex H H h h' :=
 ⟨fun b e q _ _ _=>k b e q,fun b e q _ _ _=>⟨e.slots,k b e q⟩,fun _ _ _ n _=>n,fun b e q _=>⟨e,k b e q⟩,fun _ _ q=>q,fun _ _ _ q=>q,fun _ f q=>⟨#[],by rw[q];simp⟩⟩
theorem Un.refl:Un fs ex H H h h:=Un.kept fun _ _ q=>q
theorem Un.laid(k:∀b u,h.get? b=some u->h'.get? b=some u)(f:h.objs.size<=a)(e:H a=none):Un fs ex H (upd H a o) h h' where
 keep:=fun b u q _ _ _=>k b u q
 slot:=fun b u q _ _ _=>⟨u.slots,k b u q⟩
 free:=fun b u q n _=>by rw[q0d (Bj (Cb (Az q) f))];exact n
 there:=fun b u q _=>⟨u,k b u q⟩
 tups:=fun b xs q=>by rw[q0d (q0i q e)];exact q
 frzs:=fun b u xs q=>by rw[q0d (q0i q e)];exact q
 tbls:=fun b g q=>⟨#[],by rw[q0d (q0i q e),q];simp⟩
theorem Un.write(f:Mut (H x))(C:e=x\/H e=some (.own x))(k:∀b u,b≠e->h.get? b=some u->h'.get? b=some u)(g:∃u,h'.get? e=some u):Un fs ex H (upd H x o) h h':=by
 have v:∀b,H b=none->b≠x:=fun b n z=>by subst z;rw[n] at f;exact f
 have B:∀b,H b=none->b≠e:=fun b n z=>by
  subst z;rcases C with r|r
  ·exact v b n r
  ·rw[n] at r;cases r
 have j:∀b u,H b=some u->¬Mut (some u)->b≠x:=fun b u q D z=>by subst z;rw[q] at f;exact D f
 refine⟨fun b u q n _ _=>k b u (B b n) q,fun b u q n _ _=>⟨u.slots,k b u (B b n) q⟩,fun b u q n _=>by rw[q0d (v b n)];exact n,fun b u q _=>?_,
  fun b xs q=>by rw[q0d (j b _ q fun z=>z)];exact q,fun b u xs q=>by rw[q0d (j b _ q fun z=>z)];exact q,fun b E q=>⟨#[],by rw[q0d (j b _ q fun z=>z),q];simp⟩⟩
 by_cases s:b=e
 ·subst s;exact g
 ·grind
end
noncomputable def trk(h:Heap)(H:Hp):List Addr:=(List.range h.objs.size).filter fun a=>(H a).isSome
noncomputable def hidT(h:Heap)(H:Hp):Heap:=W.hideAll h (trk h H)
theorem z6d(h:Heap)(H:Hp):(hidT h H).objs.size=h.objs.size:=W.hideAll_size _ _
theorem z9l(e:h.get? b=some o)(n:H b=none):(hidT h H).get? b=some o :=
 W.hideAll_get _ e fun f=>by
  have q:=(Di.mp f).2;rw[n] at q;simp at q
theorem x2v(e:(hidT h H).get? b=some o):h.get? b=some o/\H b=none:=by
 have e':=W.of_hideAll (trk h H) e;refine⟨e',?_⟩;cases q:H b with
 |none=>rfl
 |some x =>
  have f:b∈trk h H:=Di.mpr ⟨Oh.mpr (Az e'),by simp[q]⟩;have z:(hidT h H).get? b=none:=W.hideAll_none (trk h H) f;rw[z] at e;cases e
noncomputable def allNews(g h:Heap)(L:Addr):List (Addr×Obj):=(List.range h.objs.size).filterMap fun a=>if a=L\/(g.get? a).isSome=true then none else(h.get? a).map fun o=>(a,o)
noncomputable def rest(g h:Heap)(L d:Addr):List (Addr×Obj):=(allNews g h L).filter fun p=>decide (p.1≠d)
structure Mod (K:Aq) (mg:Str->Option Value) (base:Heap):Prop where
 kin:K.In base
 glob:base.Ns Ef mg
 blt:∃mb,base.Ns builtinsNs mb/\∀x:Str,x ≠ "__name__" -> mb x=Hi x
 nolimit:base.NoLimit
structure Cx where
 prog:Ay
 w:World
 K:Aq
 mg:Str->Option Value
 base:Heap
 A:Around
 N:List Str
 s₀:Ag
 H₀:Hp
 env:Env
 outer:List Env
 stack:List Env
 ex:List Addr
 fn:Str->Bool
 calm:Bool
 pn:List (Addr×Obj)
 xe:Value->Ag->Prop
noncomputable def frs(l:List Env):List Addr:=l.filterMap (·.frame)
noncomputable abbrev Cx.fs(X:Cx):List Addr:=frs X.outer
noncomputable def Vis(sc:Scope)(x:Str):Prop:=sc.names.lookup x=some .local\/sc.names.lookup x=some .cell\/sc.names.lookup x=some .free
noncomputable def Loc(sc:Scope)(x:Str):Prop:=sc.names.lookup x=some .local\/sc.names.lookup x=some .cell
noncomputable def Look(env:Env)(h:Heap)(m:Str->Option Value)(x:Str)(u:Value):Prop :=
 (env.kindOf x=some .local/\m x=some u)\/((env.kindOf x=some .cell\/env.kindOf x=some .free)/\∃c,env.cells.lookup x=some c/\h.IsCell c (some u))
structure Cx.Ok (X:Cx):Prop where
 mod:Mod X.K X.mg X.base
 kind:X.env.scope.kind=.function
 glob:X.env.globals=Ef
 blt:X.env.builtins=builtinsNs
 above:X.s₀.heap.objs.size<=X.env.locals
 inj:∀x y c,X.env.cells.lookup x=some c->X.env.cells.lookup y=some c->x=y
 has:∀x,(X.env.kindOf x=some .cell\/X.env.kindOf x=some .free)->∃c,X.env.cells.lookup x=some c
 cab:∀x c,X.fn x=true->X.env.cells.lookup x=some c->X.s₀.heap.objs.size<=c
 hd:X.calm=true->X.A.handled=none
 frames:X.A.frames=some X.stack
 stk:X.stack=X.outer\/(X.stack=X.env::X.outer/\X.env.frame=some X.env.locals)
 exf:∀b∈X.ex,b≠X.env.locals/\∀x c,X.env.cells.lookup x=some c->c≠b
 bs:∀b o,X.base.get? b=some o->X.s₀.heap.get? b=some o/\X.H₀ b=none
 bsz:X.base.objs.size<=X.s₀.heap.objs.size
 noex:∀b o,X.base.get? b=some o->b∉X.ex
 exfs:∀b∈X.ex,b∉X.fs
 funs:X.s₀.heap.FunFrames X.base X.outer
 frf:∀b∈X.fs,X.H₀ b=none
structure Inv (X:Cx) (pins:List (Addr×Obj)) (σ:List (Option V)) (H:Hp) (s:Ag):Prop where
 ok:X.Ok
 os:s.os=X.s₀.os
 bare:Mu s.gens
 base:Un X.fs X.ex X.H₀ H X.s₀.heap s.heap
 loc:∃m,s.heap.Ns X.env.locals m/\∀(i:Nat) (x:Str) (v:V),X.N[i]?=some x->σ[i]?=some (some v)->Vis X.env.scope x->∃u,RelV v u/\Look X.env s.heap m x u
 cell:∀x c,X.env.cells.lookup x=some c->∃v,s.heap.IsCell c v
 free:H X.env.locals=none
 freeC:∀x c,X.env.cells.lookup x=some c->H c=none
 pin:∀p∈X.pn++pins,s.heap.get? p.1=some p.2/\H p.1=none/\p.1≠X.env.locals/\p.1∉X.fs/\∀v,p.2.data≠.cell v
 hok:HOk X.prog X.w H s.heap
 len:σ.length=X.N.length
section
variable{X:Cx}{pins:List (Addr×Obj)}{σ:List (Option V)}{H H':Hp}{s:Ag}{h':Heap}
theorem Cx.Ok.nofr(ok:X.Ok)(e:X.base.get? b=some o):b∉X.fs:=fun f=>by
 have:=(ok.funs.mem f).1;rw[e] at this;cases this
theorem Inv.bs(I:Inv X pins σ H s):∀b o,X.base.get? b=some o->s.heap.get? b=some o/\H b=none:=fun b o e =>
 ⟨I.base.keep b o (I.ok.bs b o e).1 (I.ok.bs b o e).2 (I.ok.nofr e) (I.ok.noex b o e),I.base.free b o (I.ok.bs b o e).1 (I.ok.bs b o e).2 (I.ok.noex b o e)⟩
theorem Inv.bk(I:Inv X pins σ H s):∀b o,X.base.get? b=some o->s.heap.get? b=some o:=fun b o e=>(I.bs b o e).1
theorem Inv.mod(I:Inv X pins σ H s):Mod X.K X.mg X.base:=I.ok.mod
theorem Inv.kIn(I:Inv X pins σ H s):X.K.In s.heap:=I.ok.mod.kin.keeps I.bk
theorem Inv.lt(I:Inv X pins σ H s):X.env.locals<s.heap.objs.size:=let ⟨_,e,_⟩:=I.loc;e.lt
theorem Inv.sz(I:Inv X pins σ H s):X.s₀.heap.objs.size<=s.heap.objs.size:=Ce I.ok.above (Hj I.lt)
theorem Inv.nofs(I:Inv X pins σ H s){a:Addr}(h:s.heap.objs.size<=a):a∉X.fs:=fun e=>by
 obtain⟨_,o,f,_⟩:=I.ok.funs.mem e;exact absurd (Cb (Az f) (Ce I.sz h)) (Fq _)
theorem Inv.cne(I:Inv X pins σ H s):∀x c,X.env.cells.lookup x=some c->c≠X.env.locals:=fun x c e z=>by
 obtain⟨v,o,h,hd⟩:=I.cell x c e;obtain⟨m,⟨j,q,u,f,g,_⟩,_⟩:=I.loc;rw[z,f] at h;cases h;rw[g] at hd;cases hd
theorem Inv.funs(I:Inv X pins σ H s):s.heap.FunFrames X.base X.outer:=by
 have all:∀(l:List Env),(∀b∈frs l,b∈X.fs)->X.s₀.heap.FunFrames X.base l->s.heap.FunFrames X.base l:=by
  intro l;induction l with
  |nil=>intro _ _;trivial
  |cons env r ih =>
   intro hs hl;obtain⟨hk,⟨L,o,f,j,q,hd⟩,u⟩:=hl;have g:=hs L (by unfold frs;rw[Iv,f];exact As);obtain⟨v,e⟩:=I.base.slot L o q (I.ok.frf L g) g fun z=>I.ok.exfs L z g;exact⟨hk,⟨L,_,f,j,e,hd⟩,ih (fun b h=>hs b (by unfold frs;rw[Iv,f];exact Am _ h)) u⟩
 exact all X.outer (fun _ h=>h) I.ok.funs
theorem Inv.stack(I:Inv X pins σ H s):s.heap.FunFrames X.base X.stack:=by
 rcases I.ok.stk with e|⟨e,f⟩
 ·rw[e];exact I.funs
 ·rw[e];obtain⟨m,g,_⟩:=I.loc;refine .cons (by rw[I.ok.kind];decide) f g ?_ I.funs;exact Heap.get?_none_of_le (Ce I.ok.bsz I.ok.above)
theorem Inv.stkSub(I:Inv X pins σ H s):∀b∈frs X.stack,b∈X.env.locals::X.fs:=fun b f=>by
 rcases I.ok.stk with e|⟨e,g⟩
 ·grind
 ·rw[e] at f;unfold frs at f;rw[Iv,g] at f;exact f
theorem Inv.stkFree(I:Inv X pins σ H s):∀b∈frs X.stack,H b=none:=fun b f=>by
 rcases Bb.mp (I.stkSub b f) with e|f
 ·rw[e];exact I.free
 ·obtain⟨_,o,g,_⟩:=I.ok.funs.mem f;exact I.base.free b o g (I.ok.frf b f) fun z=>I.ok.exfs b z f
theorem Inv.step{ch:List Addr}(I:Inv X pins σ H s)(g:∀b∈ch,(b∈X.ex\/X.s₀.heap.objs.size<=b)/\b≠X.env.locals/\(∀x c,X.env.cells.lookup x=some c->c≠b)/\∀p∈X.pn++pins,p.1≠b)(keep:∀b o,b≠X.env.locals->b∉X.fs->b∉ch->s.heap.get? b=some o->H b=none->h'.get? b=some o)(slot:∀b o,b≠X.env.locals->b∈X.fs->b∉ch->s.heap.get? b=some o->H b=none->∃M,h'.get? b=some { o with slots:=M })(free:∀b o,b∉ch->s.heap.get? b=some o->H b=none->H' b=none)(there:∀b o,b∉ch->s.heap.get? b=some o->∃G,h'.get? b=some G)(tups:∀b xs,H b=some (.tup xs)->H' b=some (.tup xs))(frzs:∀b o u,H b=some (.frz o u)->H' b=some (.frz o u))(tbls:∀b ps,H b=some (.tbl ps)->∃more,H' b=some (.tbl (ps++more)))(ns:∀m,s.heap.Ns X.env.locals m->h'.Ns X.env.locals m)(hok:HOk X.prog X.w H' h')(S:Mu g'):
  Inv X pins σ H' { s with heap:=h',gens:=g',drawn:=d',toks:=t' }:=by
 have J:∀b o,X.s₀.heap.get? b=some o->b≠X.env.locals:=fun b o e=>Bj (Cb (Az e) I.ok.above);have B:∀b o,X.s₀.heap.get? b=some o->b∉X.ex->b∉ch:=fun b o e f D=>by
  rcases(g b D).1 with z|z
  ·exact f z
  ·exact absurd (Cb (Az e) z) (Fq _)
 have h:∀x c,X.env.cells.lookup x=some c->∀v,s.heap.IsCell c v->h'.IsCell c v:=fun x c e v ⟨o,E,hd⟩=>by
  have j:=fun z=>(g c z).2.2.1 x c e rfl;by_cases P:c∈X.fs
  ·obtain⟨M,q⟩:=slot c o (I.cne x c e) P j E (I.freeC x c e);exact⟨_,q,hd⟩
  ·exact⟨o,keep c o (I.cne x c e) P j E (I.freeC x c e),hd⟩
 refine⟨I.ok,I.os,S,⟨fun b o e n D f=>?_,fun b o e n D f=>?_,fun b o e n f=>?_,fun b o e f=>?_,fun b xs e=>tups b xs (I.base.tups b xs e),fun b o xs e=>frzs b o xs (I.base.frzs b o xs e),fun b ps e=>?_⟩,?_,fun x c e=>?_,?_,fun x c e=>?_,fun p Q=>?_,hok,I.len⟩
 ·exact keep b o (J b o e) D (B b o e f) (I.base.keep b o e n D f) (I.base.free b o e n f)
 ·obtain⟨M,C⟩:=I.base.slot b o e n D f;obtain⟨O,L⟩:=slot b _ (J b o e) D (B b o e f) C (I.base.free b o e n f);exact⟨O,L⟩
 ·obtain⟨G,C⟩:=I.base.there b o e f;exact free b G (B b o e f) C (I.base.free b o e n f)
 ·obtain⟨G,C⟩:=I.base.there b o e f;exact there b G (B b o e f) C
 ·obtain⟨T,C⟩:=I.base.tbls b ps e;obtain⟨U,L⟩:=tbls b _ C;exact⟨T++U,by rw[L,Tv]⟩
 ·obtain⟨m,W,hl⟩:=I.loc;refine⟨m,ns m W,fun i x v C L Y=>?_⟩;obtain⟨u,r,l⟩:=hl i x v C L Y;refine⟨u,r,?_⟩;rcases l with l|⟨k,c,e,z⟩
  ·exact .inl l
  ·exact .inr ⟨k,c,e,h x c e _ z⟩
 ·obtain⟨v,z⟩:=I.cell x c e;exact⟨v,h x c e v z⟩
 ·obtain⟨m,⟨o,_,_,E,_⟩,_⟩:=I.loc;exact free _ o (fun z=>(g _ z).2.1 rfl) E I.free
 ·obtain⟨v,o,E,hd⟩:=I.cell x c e;exact free c o (fun z=>(g c z).2.2.1 x c e rfl) E (I.freeC x c e)
 ·obtain⟨e,n,ne,R,d⟩:=I.pin p Q;have j:=fun z=>(g p.1 z).2.2.2 p Q rfl
  exact⟨keep p.1 p.2 ne R j e n,free p.1 p.2 j e n,ne,R,d⟩
theorem Inv.un(I:Inv X pins σ H s)(u:Un X.fs [] H H' s.heap h')(hok:HOk X.prog X.w H' h'):Inv X pins σ H' { s with heap:=h',toks:=t' }:=by
 obtain⟨m,⟨o,D,E,q,r⟩,_⟩:=id I.loc;obtain⟨G,v⟩:=u.any q I.free (by simp);exact I.step (g':=s.gens) (d':=s.drawn) (ch:=[]) (fun _ z=>nomatch z) (fun b o _ g _ e n=>u.keep b o e n g (by simp)) (fun b o _ g _ e n=>u.slot b o e n g (by simp)) (fun b o _ e n=>u.free b o e n (by simp)) (fun b o _ e=>u.there b o e (by simp)) u.tups u.frzs u.tbls (fun J B=>by
  obtain⟨L,h,j,f,C⟩:=B;rw[q] at f;cases f;exact⟨_,h,j,v,C⟩) hok I.bare
theorem Inv.call(I:Inv X pins σ H s)(u:Un (frs X.stack) ch H H' s.heap h')(hok:HOk X.prog X.w H' h')(C:Mu g')(g:∀b∈ch,(b∈X.ex\/X.s₀.heap.objs.size<=b)/\b≠X.env.locals/\(∀x c,X.env.cells.lookup x=some c->c≠b)/\∀p∈X.pn++pins,p.1≠b):
  Inv X pins σ H' { s with heap:=h',gens:=g',drawn:=d',toks:=t' }:=by
 obtain⟨m,⟨o,J,L,B,r⟩,_⟩:=id I.loc;obtain⟨M,j⟩:=u.any B I.free fun z=>(g _ z).2.1 rfl
 exact I.step g (fun b o j D f e n=>u.keep b o e n (fun z=>(Bb.mp (I.stkSub b z)).elim j D) f) (fun b o _ _ f e n=>u.any e n f) (fun b o f e n=>u.free b o e n f) (fun b o f e=>u.there b o e f) u.tups u.frzs u.tbls (fun O E=>by
  obtain⟨P,q,v,h,G⟩:=E;rw[B] at h;cases h;exact⟨_,q,v,j,G⟩) hok C
theorem Inv.turned(I:Inv X pins σ H s)(k:∀b o,b≠it->s.heap.get? b=some o->h'.get? b=some o)(j:H it=none)(h:it≠X.env.locals)(B:it∈X.ex\/X.s₀.heap.objs.size<=it)(C:∀x c,X.env.cells.lookup x=some c->c≠it)(D:∀p∈X.pn++pins,p.1≠it):Inv X pins σ H { s with heap:=h',toks:=t' }:=by
 have g:∀b u,H b=some u->b≠it:=fun b u e z=>by rw[z,j] at e;cases e
 refine I.step (g':=s.gens) (d':=s.drawn) (ch:=[it]) (fun b E=>?_) (fun b o _ _ f e _=>k b o (fun z=>f (by simp[z])) e) (fun b o _ _ f e _=>⟨o.slots,k b o (fun z=>f (by simp[z])) e⟩) (fun _ _ _ _ n=>n)
  (fun b o f e=>⟨o,k b o (fun z=>f (by simp[z])) e⟩) (fun _ _ e=>e) (fun _ _ _ e=>e) (fun b O e=>⟨#[],by rw[e];simp⟩) (fun m G=>?_) (fun b u e=>?_) I.bare
 ·have e:b=it:=by simpa using E
  subst e;exact⟨B,h,C,D⟩
 ·obtain⟨o,J,L,M,r⟩:=G;exact⟨o,J,L,k _ o (Ei h) M,r⟩
 ·refine(I.hok b u e).stay (fun c v f q=>k c v ?_ q) (fun _ q=>q) fun _ _ q=>q;rcases f with z|z
  ·rw[z];exact g b u e
  ·exact g c _ z
theorem Inv.tok(I:Inv X pins σ H s)(t:Nat):Inv X pins σ H { s with toks:=t }:=I.un (h':=s.heap) (t':=t) Un.refl I.hok
theorem Inv.kept(I:Inv X pins σ H s)(k:∀b u,s.heap.get? b=some u->h'.get? b=some u):Inv X pins σ H { s with heap:=h',toks:=t' }:=I.un (Un.kept k) (I.hok.kept k)
theorem Inv.laid{a:Addr}(I:Inv X pins σ H s)(k:∀b u,s.heap.get? b=some u->h'.get? b=some u)(e:s.heap.objs.size<=a)(new:ObjOk X.prog X.w (upd H a o) h' a o):
  Inv X pins σ (upd H a o) { s with heap:=h',toks:=t' }:=I.un (Un.laid k e (I.hok.fresh e)) (I.hok.laid k e new)
theorem Inv.write(I:Inv X pins σ H s)(g:Mut (H x))(h:e=x\/H e=some (.own x))(k:∀b u,b≠e->s.heap.get? b=some u->h'.get? b=some u)(f:∃u,h'.get? e=some u)(new:ObjOk X.prog X.w (upd H x o) h' x o):Inv X pins σ (upd H x o) { s with heap:=h',toks:=t' }:=I.un (Un.write g h k f) (I.hok.write g h k f new)
theorem Inv.weak(I:Inv X pins σ H s)(hl:σ'.length=σ.length)(w:∀(i:Nat) v,σ'[i]?=some (some v)->σ[i]?=some (some v)):Inv X pins σ' H s :=
 ⟨I.ok,I.os,I.bare,I.base,let ⟨m,f,e⟩:=I.loc;⟨m,f,fun i x v g h j=>e i x v g (w i v h) j⟩,I.cell,I.free,I.freeC,I.pin,I.hok,hl.trans I.len⟩
theorem Inv.pins_of(I:Inv X pins σ H s)(h:∀p∈pins',s.heap.get? p.1=some p.2/\H p.1=none/\p.1≠X.env.locals/\p.1∉X.fs/\∀v,p.2.data≠.cell v):Inv X pins' σ H s :=
 ⟨I.ok,I.os,I.bare,I.base,I.loc,I.cell,I.free,I.freeC,fun p e=>(Ar.mp e).elim (fun z=>I.pin p (Ck _ z)) (h p),I.hok,I.len⟩
theorem z3r{N:List Str}(e:N.Nodup){j:Nat}(a:N[i]?=some x)(b:N[j]?=some x):i=j:=by
 obtain⟨h,f⟩:=Af.mp a;obtain⟨q,g⟩:=Af.mp b;exact(List.getElem_inj e).mp (f.trans g.symm)
theorem q6o(I:Inv X pins σ H s)(hN:X.N.Nodup)(R:X.N[i]?=some x)(B:Loc X.env.scope x)(r:RelV v u)(h:∀Z,Inv X pins (σ.set i (some v)) H Z->(∃a,Gi a s.heap Z.heap/\(a=X.env.locals\/X.env.cells.lookup x=some a))->Q () Z)(hf:X.fn x=true\/X.env.scope.names.lookup x=some .local:=by trivial):wpAny M A (storeName X.env x u) Q E s:=by
 obtain⟨m,hn,hl⟩:=id I.loc;have S:(X.env.scope.kind==.class||(X.env.scope.kind==.module&&X.env.locals != X.env.globals))=false:=by rw[I.ok.kind];rfl
 have G:i<σ.length:=by rw[I.len];exact(Af.mp R).1
 have cne:=I.cne;have f:∀{a:Addr} {P:Heap},(∃o,s.heap.get? a=some o/\H a=none)->Gi a s.heap P->HOk X.prog X.w H P:=fun{a P} ha hs b ob e=>by
  obtain⟨_,_,a0⟩:=ha;refine(I.hok b ob e).stay (fun c W C q=>(hs.2 c ?_).trans q) (fun _ q=>q) fun _ _ q=>q
  rcases C with rfl|C
  ·grind
  ·grind
 rcases B with hk|hk
 ·refine wpAny_storeName_local hk hn (fun P a1 hs=>?_) S;obtain⟨oL,_,_,a2,_⟩:=id hn;refine h _ ⟨I.ok,I.os,I.bare,⟨fun b o e n J B=>?_,fun b o e n J B=>?_,I.base.free,fun b o e B=>?_,I.base.tups,I.base.frzs,I.base.tbls⟩,⟨_,a1,fun j y v' g D e3=>?_⟩,fun y c e=>?_,I.free,I.freeC,fun p hp=>?_,f ⟨oL,a2,I.free⟩ hs,by simpa using I.len⟩ ⟨_,hs,.inl rfl⟩
  ·exact(hs.2 b (Bj (Cb (Az e) I.ok.above))).trans (I.base.keep b o e n J B)
  ·obtain⟨sl,g⟩:=I.base.slot b o e n J B;exact⟨sl,(hs.2 b (Bj (Cb (Az e) I.ok.above))).trans g⟩
  ·obtain⟨o',g⟩:=I.base.there b o e B;exact⟨o',(hs.2 b (Bj (Cb (Az e) I.ok.above))).trans g⟩
  ·by_cases L:j=i
   ·subst L;rw[R] at g;cases g;rw[Rf G] at D;cases D;exact⟨u,r,.inl ⟨hk,by simp⟩⟩
   ·rw[So (Ei L)] at D;obtain⟨u',r',q⟩:=hl j y v' g D e3;refine⟨u',r',?_⟩;rcases q with⟨k,e⟩|⟨k,c,e,z⟩
    ·refine .inl ⟨k,?_⟩;have:y≠x:=fun e=>L (z3r hN g (e▸R));simp[this,e]
    ·exact .inr ⟨k,c,e,z.sameBut hs (cne y c e)⟩
  ·obtain⟨W,z⟩:=I.cell y c e;exact⟨W,z.sameBut hs (cne y c e)⟩
  ·obtain⟨e,n,ne,nf,d⟩:=I.pin p hp;exact⟨(hs.2 p.1 ne).trans e,n,ne,nf,d⟩
 ·have O:X.fn x=true:=by
   rcases hf with z|z
   ·exact z
   ·grind
  obtain⟨c,C⟩:=I.ok.has x (.inl hk);obtain⟨W,z⟩:=I.cell x c C;refine wpAny_storeName_cell I.ok.kind hk C z (fun P a3 hs=>?_);obtain⟨oc,T,U⟩:=id z;refine h { s with heap:=P } ⟨I.ok,I.os,I.bare,⟨fun b o e n J B=>?_,fun b o e n J B=>?_,I.base.free,fun b o e B=>?_,I.base.tups,I.base.frzs,I.base.tbls⟩,⟨m,hn.sameBut hs (Ei (cne x c C)),fun j y v' g D e3=>?_⟩,fun y Y e=>?_,I.free,I.freeC,fun p hp=>?_,f ⟨oc,T,I.freeC x c C⟩ hs,by simpa using I.len⟩ ⟨c,hs,.inr C⟩
  ·exact(hs.2 b (Bj (Cb (Az e) (I.ok.cab x c O C)))).trans (I.base.keep b o e n J B)
  ·obtain⟨sl,g⟩:=I.base.slot b o e n J B;exact⟨sl,(hs.2 b (Bj (Cb (Az e) (I.ok.cab x c O C)))).trans g⟩
  ·obtain⟨o',g⟩:=I.base.there b o e B;exact⟨o',(hs.2 b (Bj (Cb (Az e) (I.ok.cab x c O C)))).trans g⟩
  ·by_cases L:j=i
   ·subst L;rw[R] at g;cases g;rw[Rf G] at D;cases D;exact⟨u,r,.inr ⟨.inl hk,c,C,a3⟩⟩
   ·rw[So (Ei L)] at D;obtain⟨u',r',q⟩:=hl j y v' g D e3;refine⟨u',r',?_⟩;rcases q with q|⟨k,Y,e,z'⟩
    ·exact .inl q
    ·refine .inr ⟨k,Y,e,z'.sameBut hs ?_⟩;rintro rfl;exact L (z3r hN g (I.ok.inj _ _ _ e C▸R))
  ·by_cases a4:Y=c
   ·grind
   ·obtain⟨w2,z2⟩:=I.cell y Y e;exact⟨w2,z2.sameBut hs a4⟩
  ·obtain⟨e,n,ne,nf,d⟩:=I.pin p hp;refine⟨(hs.2 p.1 ?_).trans e,n,ne,nf,d⟩;intro q;rw[q,T] at e;have q':=Bx e;exact d W (by rw[<- q'];exact U)
theorem q8u(I:Inv X pins σ H s)(f:X.N.Nodup)(g:X.N[i]?=some x)(j:Loc X.env.scope x)(r:RelV v u)(h:∀e,Inv X pins (σ.set i (some v)) H e->Q () e)(q:X.fn x=true\/X.env.scope.names.lookup x=some .local:=by trivial):wpAny M A (storeName X.env x u) Q E s :=
 q6o I f g j r (fun e B _=>h e B) q
theorem Inv.call'(I:Inv X pins σ H s)(q:s'.os=s.os)(u:Un (frs X.stack) ch H H' s.heap s'.heap)(hok:HOk X.prog X.w H' s'.heap)(v:Mu s'.gens)(f:∀b∈ch,(b∈X.ex\/X.s₀.heap.objs.size<=b)/\b≠X.env.locals/\(∀x c,X.env.cells.lookup x=some c->c≠b)/\∀p∈X.pn++pins,p.1≠b):Inv X pins σ H' s':=by
 obtain⟨B,g,h,j,C⟩:=s';have e:=q;subst e;exact I.call (g':=g) (t':=j) (d':=h) u hok v f
end
noncomputable abbrev XK:=Value->Option Addr->Hp->Prop
noncomputable abbrev St:=List (Option V)
noncomputable abbrev VK:=V->Hp->Prop
noncomputable abbrev TE:=St->Hp->VK->Prop
noncomputable abbrev TT:=St->Hp->(Bool->Hp->Prop)->Prop
noncomputable abbrev TA:=St->Hp->(List V->Hp->Prop)->Prop
structure Ends where
 nx:St->Hp->Prop
 rt:VK
 bk:St->Hp->Prop:=fun _ _=>False
 ct:St->Hp->Prop:=fun _ _=>False
noncomputable abbrev TS:=Ends->St->Hp->Prop
noncomputable def EP(X:Cx)(pins:List (Addr×Obj))(σ:St)(Q:VK)(u:Value)(s':Ag):Prop:=∃v H',Inv X pins σ H' s'/\RelV v u/\Q v H'
noncomputable def TP(X:Cx)(pins:List (Addr×Obj))(σ:St)(Q:Bool->Hp->Prop)(b:Bool)(s':Ag):Prop:=∃H',Inv X pins σ H' s'/\Q b H'
noncomputable def AP(X:Cx)(pins:List (Addr×Obj))(σ:St)(Q:List V->Hp->Prop)(us:List Value)(s':Ag):Prop:=∃vs H',Inv X pins σ H' s'/\Vals vs us/\Q vs H'
noncomputable def SP(X:Cx)(pins:List (Addr×Obj))(D:Ends)(f:Flow)(s':Ag):Prop :=
 match f with
 |.next=>∃σ' H',Inv X pins σ' H' s'/\D.nx σ' H'
 |.brk=>∃σ' H',Inv X pins σ' H' s'/\D.bk σ' H'
 |.cont=>∃σ' H',Inv X pins σ' H' s'/\D.ct σ' H'
 |.ret u=>∃v σ' H',Inv X pins σ' H' s'/\RelV v u/\D.rt v H'
noncomputable def PE(X:Cx)(e:Expr)(t:TE):Prop :=
 ∀(pins:List (Addr×Obj)) (s:Ag) (σ:St) (H:Hp) (Q:VK),Inv X pins σ H s->t σ H Q->wpAny (model X.prog X.w) X.A (eval e X.env) (EP X pins σ Q) X.xe s
noncomputable def PT(X:Cx)(e:Expr)(t:TT):Prop :=
 ∀(pins:List (Addr×Obj)) (s:Ag) (σ:St) (H:Hp) (Q:Bool->Hp->Prop),Inv X pins σ H s->t σ H Q->wpAny (model X.prog X.w) X.A (isTrue e X.env (eval e X.env)) (TP X pins σ Q) X.xe s
noncomputable def PW(X:Cx)(e:Expr)(t:TT):Prop :=
 ∀(whole:Sem Value) (pins:List (Addr×Obj)) (s:Ag) (σ:St) (H:Hp) (Q:Bool->Hp->Prop),Inv X pins σ H s->t σ H Q->wpAny (model X.prog X.w) X.A (isTrue e X.env whole) (TP X pins σ Q) X.xe s
theorem PW.pt{X:Cx}{e:Expr}{t:TT}(h:PW X e t):PT X e t:=h _
noncomputable def PA(X:Cx)(es:List Expr)(t:TA):Prop :=
 ∀(pos:Pos) (pins:List (Addr×Obj)) (s:Ag) (σ:St) (H:Hp) (Q:List V->Hp->Prop),Inv X pins σ H s->t σ H Q->wpAny (model X.prog X.w) X.A (spliced (Gj pos (Bk es X.env))) (AP X pins σ Q) X.xe s
noncomputable def PS(X:Cx)(st:Stmt)(t:TS):Prop :=
 ∀(pins:List (Addr×Obj)) (s:Ag) (σ:St) (H:Hp) (D:Ends),Inv X pins σ H s->t D σ H->wpAny (model X.prog X.w) X.A (exec st X.env) (SP X pins D) X.xe s
noncomputable def PSs(X:Cx)(st:List Stmt)(t:TS):Prop :=
 ∀(pins:List (Addr×Obj)) (s:Ag) (σ:St) (H:Hp) (D:Ends),Inv X pins σ H s->t D σ H->wpAny (model X.prog X.w) X.A (execs st X.env) (SP X pins D) X.xe s
theorem thn{t:Sem α}{Q e:α->Ag->Prop}(h:wpAny M A t Q E s)(f:∀a s,Q a s->e a s):wpAny M A t e E s:=Dj h f fun _ _ x=>x
section
variable{X:Cx}
noncomputable def tVar(i:Nat):TE:=fun σ H Q=>∃v,σ[i]?=some (some v)/\Q v H
noncomputable def tC(v:V):TE:=fun _ H Q=>Q v H
theorem pe_var{j:Pos}(C:X.N[i]?=some x)(D:Vis X.env.scope x)(hd:(x==("__debug__" : Str))=false:=by decide)(q:(x==("__classdict__" : Str))=false:=by decide):PE X (.Name x j) (tVar i):=by
 intro g s E H Q I h;obtain⟨v,e,h⟩:=h;obtain⟨m,G,hl⟩:=I.loc;obtain⟨u,r,l⟩:=hl i x v C e D;have fin:EP X g E Q u s:=⟨v,H,I,r,h⟩
 rcases l with⟨hk,J⟩|⟨hk,c,B,f⟩
 ·exact Wc (Sq I.ok.kind hk G J fin) hd
 ·rcases hk with hk|hk
  ·exact Wc (Th I.ok.kind hk B f fin) hd
  ·exact Wc (wpAny_loadName_free I.ok.kind hk B f fin q) hd
theorem q0g{i j pos}:PE X (.Constant (.int i) j pos) (tC (.int i)):=fun _ _ _ H _ I h=>wpAny_Constant_int ⟨.int i,H,I.tok _,⟨_,rfl⟩,h⟩
theorem q6c{b j pos}:PE X (.Constant (.bool b) j pos) (tC (.bl b)):=fun _ _ _ H _ I h=>Constant_bool ⟨.bl b,H,I,rfl,h⟩
theorem z3s{j pos}:PE X (.Constant .none j pos) (tC .non):=fun _ _ _ H _ I h=>Tc ⟨.non,H,I,rfl,h⟩
theorem q1v{x j pos}:PE X (.Constant (.str x) j pos) (tC (.str x)):=fun _ _ _ H _ I h=>Calls.Constant_str ⟨.str x,H,I.tok _,⟨_,rfl⟩,h⟩
noncomputable def Gl(X:Cx)(x:Str):Prop:=X.env.kindOf x=some .globalImplicit
theorem z2l{e:St}(I:Inv X pins e H s)(f:Gl X x)(g:X.mg x=some u)(h:Q u s)(hd:(x==("__debug__" : Str))=false:=by decide):wpAny (model X.prog X.w) X.A (eval (.Name x pos) X.env) Q E s :=
 Pb I.ok.kind f (Calls.loadGlobal_global (by rw[I.ok.glob];exact I.mod.glob.keeps I.bk) g h) hd
theorem q6p{E:Value->Ag->Prop}{f:St}{e:Pos}(I:Inv X pins f H s)(g:Gl X x)(j:X.mg x=none)(q:Hi x=some u)(h:Q u s)(v:x ≠ "__name__" := by decide)(hd:(x==("__debug__" : Str))=false:=by decide):wpAny (model X.prog X.w) X.A (eval (.Name x e) X.env) Q E s:=by
 obtain⟨D,B,C⟩:=I.mod.blt;exact Pb I.ok.kind g (Calls.loadGlobal_builtin (by rw[I.ok.glob];exact I.mod.glob.keeps I.bk) j (by rw[I.ok.blt];exact B.keeps I.bk) ((C x v).trans q) h) hd
variable{a b:Expr}{ta tb:TE}{pos:Pos}
noncomputable def PC(X:Cx)(op:CmpOp)(a b:Expr)(t:TE):Prop :=
 ∀(pins:List (Addr×Obj)) (s:Ag) (σ:St) (H:Hp) (Q:VK),Inv X pins σ H s->t σ H Q ->
  wpAny (model X.prog X.w) X.A (eval a X.env) (fun v s₁=>wpAny (model X.prog X.w) X.A (eval b X.env) (fun u s₂=>wpAny (model X.prog X.w) X.A (Dg op v u) (EP X pins σ Q) X.xe s₂) X.xe s₁) X.xe s
theorem nobehind(b:Expr)(h:op≠.In)(g:op≠.NotIn):Hw op b=false:=by
 have e:(op==CmpOp.In)=false:=by grind
 have f:(op==CmpOp.NotIn)=false:=by grind
 cases b<;>simp[Hw,e,f]
noncomputable def tIsN(ta:TE):TE:=fun σ H Q=>ta σ H fun x H1=>Q (.bl (decide (x=.non))) H1
noncomputable def tNotN(ta:TE):TE:=fun σ H Q=>ta σ H fun x H1=>Q (.bl (!decide (x=.non))) H1
theorem RelV.none_iff(r:RelV x v):(v==Value.none)=decide (x=.non):=by
 cases x with
 |non=>cases r;rfl
 |bl _=>cases r;rfl
 |int _=>obtain⟨t,rfl⟩:=r;rfl
 |str _=>obtain⟨t,rfl⟩:=r;rfl
 |byt _=>obtain⟨t,rfl⟩:=r;rfl
 |flt _=>obtain⟨t,rfl⟩:=r;rfl
 |ref _=>cases r;rfl
 |ty _=>cases r;rfl
theorem z3t{j pos'}(ha:PE X a ta):PC X .Is a (.Constant .none j pos') (tIsN ta):=by
 intro e s f H Q I h;refine thn (ha e s f H _ I h) fun v C ⟨x,g,q,u,B⟩=>?_;exact Tc (is_none_gen ⟨.bl _,g,q,by rw[u.none_iff];rfl,B⟩)
theorem q6q{j pos'}(ha:PE X a ta):PC X .IsNot a (.Constant .none j pos') (tNotN ta):=by
 intro e s f H Q I h;refine thn (ha e s f H _ I h) fun v C ⟨x,g,q,u,B⟩=>?_;exact Tc (isnot_none_gen ⟨.bl _,g,q,by rw[u.none_iff];rfl,B⟩)
noncomputable def tB(t:TE):TT:=fun σ H Q=>t σ H fun x H1=>∃c,x=.bl c/\Q c H1
theorem x1q{op:CmpOp}{t:TE}(h:PC X op a b t)(f:Hw op b=false:=by first|exact nobehind _ (by decide) (by decide)|rfl):PE X (.Compare a [op] [b] pos) t:=fun e s g H Q I j=>wpAny_Compare1 (h e s g H Q I j) f
theorem q2t{op:CmpOp}{t:TE}(h:PC X op a b t)(f:Hw op b=false:=by first|exact nobehind _ (by decide) (by decide)|rfl):PT X (.Compare a [op] [b] pos) (tB t):=by
 intro e s g H Q I j;refine Ry (thn (h e s g H _ I j) fun v J f=>thn f fun u L B=>thn B fun c M ⟨x,C,D,E,G⟩=>?_) f;obtain⟨d,rfl,q⟩:=G;cases E;exact Dn ⟨C,D,q⟩
variable{tA tB':TT}{rest:List Expr}
noncomputable def tAnd(t u:TT):TT:=fun σ H Q=>t σ H fun c H1=>if c=true then u σ H1 Q else Q false H1
noncomputable def tOr(t u:TT):TT:=fun σ H Q=>t σ H fun c H1=>if c=true then Q true H1 else u σ H1 Q
noncomputable def tNot(t:TT):TT:=fun σ H Q=>t σ H fun c H1=>Q (!c) H1
theorem q2q(ha:PT X a tA):PW X (.BoolOp .And [a] pos) tA:=by
 intro j f s g H Q I h;refine isTrue_and (thn (ha f s g H Q I h) fun c q e=>?_);cases c with
 |true=>exact isTrue_and_nil e
 |false=>exact e
theorem x1r(ha:PT X a tA):PW X (.BoolOp .Or [a] pos) tA:=by
 intro j f s g H Q I h;refine isTrue_or (thn (ha f s g H Q I h) fun c q e=>?_);cases c with
 |false=>exact isTrue_or_nil e
 |true=>exact e
theorem q3k(ha:PT X a tA)(u:PW X (.BoolOp .And (b::rest) pos) tB'):PW X (.BoolOp .And (a::b::rest) pos) (tAnd tA tB'):=by
 intro v e s f H Q I h;refine isTrue_and (thn (ha e s f H _ I h) fun c B ⟨g,j,q⟩=>?_);cases c with
 |true=>exact u v e B f g Q j q
 |false=>exact⟨g,j,q⟩
theorem pw_or(ha:PT X a tA)(u:PW X (.BoolOp .Or (b::rest) pos) tB'):PW X (.BoolOp .Or (a::b::rest) pos) (tOr tA tB'):=by
 intro v e s f H Q I h;refine isTrue_or (thn (ha e s f H _ I h) fun c B ⟨g,j,q⟩=>?_);cases c with
 |true=>exact⟨g,j,q⟩
 |false=>exact u v e B f g Q j q
theorem x1s(ha:PT X a tA):PT X (.UnaryOp .Not a pos) (tNot tA):=by
 intro e s f H Q I h;exact isTrue_not (ha e s f H (fun c g=>Q (!c) g) I h)
noncomputable def tAndV(ta tb:TE):TE:=fun σ H Q=>ta σ H fun x H1=>∃c,x=.bl c/\if c=true then tb σ H1 Q else Q (.bl false) H1
noncomputable def tOrV(ta tb:TE):TE:=fun σ H Q=>ta σ H fun x H1=>∃c,x=.bl c/\if c=true then Q (.bl true) H1 else tb σ H1 Q
noncomputable def tNotV(ta:TE):TE:=fun σ H Q=>ta σ H fun x H1=>∃c,x=.bl c/\Q (.bl (!c)) H1
theorem z6e{op}{t:TE}(h:PE X a t):PE X (.BoolOp op [a] pos) t:=fun e s f H Q I g=>BoolOp_one (h e s f H Q I g)
theorem pe_and(ha:PE X a ta)(u:PE X (.BoolOp .And (b::rest) pos) tb):PE X (.BoolOp .And (a::b::rest) pos) (tAndV ta tb):=by
 intro e s g H Q I h;refine BoolOp_and (thn (ha e s g H _ I h) fun v B ⟨x,j,q,C,f⟩=>?_);obtain⟨c,rfl,f⟩:=f;cases C;refine Dn ?_;cases c with
 |true=>exact u e B g j Q q f
 |false=>exact⟨.bl false,j,q,rfl,f⟩
theorem pe_or(ha:PE X a ta)(u:PE X (.BoolOp .Or (b::rest) pos) tb):PE X (.BoolOp .Or (a::b::rest) pos) (tOrV ta tb):=by
 intro e s g H Q I h;refine BoolOp_or (thn (ha e s g H _ I h) fun v B ⟨x,j,q,C,f⟩=>?_);obtain⟨c,rfl,f⟩:=f;cases C;refine Dn ?_;cases c with
 |false=>exact u e B g j Q q f
 |true=>exact⟨.bl true,j,q,rfl,f⟩
theorem pe_not(ha:PE X a ta):PE X (.UnaryOp .Not a pos) (tNotV ta):=by
 intro e s g H Q I h;refine UnaryOp_ (thn (ha e s g H _ I h) fun v B ⟨x,j,q,u,f⟩=>?_);obtain⟨c,rfl,f⟩:=f;cases u;exact not_of (Dn ⟨.bl (!c),j,q,rfl,f⟩)
noncomputable def tIf(t:TT)(ta tb:TE):TE:=fun σ H Q=>t σ H fun c H1=>if c=true then ta σ H1 Q else tb σ H1 Q
theorem z9m{c:Expr}(v:PT X c tA)(ha:PE X a ta)(B:PE X b tb):PE X (.IfExp c a b pos) (tIf tA ta tb):=by
 intro e s f H Q I h;refine wpAny_IfExp (thn (v e s f H _ I h) fun d g ⟨j,q,u⟩=>?_);cases d with
 |true=>exact ha e g f j Q q u
 |false=>exact B e g f j Q q u
end
noncomputable def SqL(K:Aq)(H:Hp)(a:Addr)(xs:List V):Prop :=
 Rd H a (.lst xs) \/
  ∃(o:Obj) (its:Array Value) (n:Nat),K.lookup a=some o/\o.cls=.type "list" /\ o.dict=none/\o.data=.seq its n/\its.size<=sizeLine/\Vals xs its.toList
noncomputable def SqT(K:Aq)(H:Hp)(a:Addr)(xs:List V):Prop :=
 Rd H a (.tup xs) \/
  ∃(o:Obj) (its:Array Value) (n:Nat),K.lookup a=some o/\o.cls=.type "tuple" /\ o.data=.seq its n/\its.size<=sizeLine/\Vals xs its.toList
noncomputable def absV:Value->Option V
 |.none=>some .non
 |.bool b=>some (.bl b)
 |.int i _=>some (.int i)
 |.str x _=>some (.str x)
 |.bytes b _=>some (.byt b)
 |.float b _=>some (.flt b)
 |.ref a=>some (.ref a)
 |.type n=>some (.ty n)
 |_=>none
theorem RelV.abs(r:RelV x u):absV u=some x:=by
 cases x with
 |non=>cases r;rfl
 |bl _=>cases r;rfl
 |int _=>obtain⟨t,rfl⟩:=r;rfl
 |str _=>obtain⟨t,rfl⟩:=r;rfl
 |byt _=>obtain⟨t,rfl⟩:=r;rfl
 |flt _=>obtain⟨t,rfl⟩:=r;rfl
 |ref _=>cases r;rfl
 |ty _=>cases r;rfl
theorem RelV.inj(r:RelV x u)(q:RelV y u):x=y:=Bx (r.abs.symm.trans q.abs)
theorem Vals.inj:∀{xs ys:List V} {us:List Value},Vals xs us->Vals ys us->xs=ys
 |_,_,_,.nil,.nil=>rfl
 |_,_,_,.cons r t,.cons r' t'=>by rw[r.inj r',Vals.inj t t']
section
variable{X:Cx}{pins:List (Addr×Obj)}{σ:St}{H:Hp}{s:Ag}{a:Addr}{xs ys:List V}
theorem SqL.of{K:Aq}(h:H a=some (.lst xs)):SqL K H a xs:=.inl (.inl h)
theorem SqT.of{K:Aq}(h:H a=some (.tup xs)):SqT K H a xs:=.inl (.inl h)
theorem Inv.list(I:Inv X pins σ H s)(h:SqL X.K H a xs):∃f:List Value,Vals xs f/\PlainL s.heap a f.toArray/\xs.length<=sizeLine:=by
 rcases h with h|⟨o,f,n,hk,g,hd,hs,j,r⟩
 ·obtain⟨z,f,n,r,e⟩:=h.ok I.hok;exact⟨f,r,⟨_,n,e,rfl,rfl,rfl⟩,z⟩
 ·refine⟨f.toList,r,⟨o,n,I.kIn a o hk,g,hd,by simpa using hs⟩,?_⟩;have e:=r.length;simp only[Ge] at e;lia
theorem Inv.tuple(I:Inv X pins σ H s)(h:SqT X.K H a xs):∃f:List Value,Vals xs f/\IsTup s.heap a f.toArray/\xs.length<=sizeLine:=by
 rcases h with h|⟨o,f,n,hk,g,hs,j,r⟩
 ·obtain⟨z,f,r,p⟩:=h.ok I.hok;exact⟨f,r,p,z⟩
 ·refine⟨f.toList,r,⟨o,I.kIn a o hk,g,n,by simpa using hs⟩,?_⟩;have e:=r.length;simp only[Ge] at e;lia
theorem Inv.list_inj(I:Inv X pins σ H s)(h:SqL X.K H a xs)(h':SqL X.K H a ys):xs=ys:=by
 obtain⟨g,r,⟨o,n,e,_,_,d⟩,_⟩:=I.list h;obtain⟨f,j,⟨q,u,v,_,_,B⟩,_⟩:=I.list h';have:g=f:=by grind
 subst this;exact r.inj j
theorem Inv.tuple_inj(I:Inv X pins σ H s)(h:SqT X.K H a xs)(h':SqT X.K H a ys):xs=ys:=by
 obtain⟨g,r,⟨o,e,_,n,d⟩,_⟩:=I.tuple h;obtain⟨f,j,⟨q,u,_,v,B⟩,_⟩:=I.tuple h';have:g=f:=by grind
 subst this;exact r.inj j
end
noncomputable abbrev Cx.wish(X:Cx)(E:Value->Ag->Prop):Cx:={ X with xe:=E }
noncomputable abbrev Cx.nox(X:Cx):Cx:=X.wish fun _ _=>False
theorem Cx.Ok.wish{X:Cx}(ok:X.Ok)(E:Value->Ag->Prop):(X.wish E).Ok :=
 ⟨ok.mod,ok.kind,ok.glob,ok.blt,ok.above,ok.inj,ok.has,ok.cab,ok.hd,ok.frames,ok.stk,ok.exf,ok.bs,ok.bsz,ok.noex,ok.exfs,ok.funs,ok.frf⟩
theorem Cx.Ok.unwish{X:Cx}(ok:(X.wish E).Ok):X.Ok :=
 ⟨ok.mod,ok.kind,ok.glob,ok.blt,ok.above,ok.inj,ok.has,ok.cab,ok.hd,ok.frames,ok.stk,ok.exf,ok.bs,ok.bsz,ok.noex,ok.exfs,ok.funs,ok.frf⟩
section
variable{X:Cx}{pins:List (Addr×Obj)}{σ:St}{H:Hp}{s:Ag}{E:Value->Ag->Prop}
theorem Inv.wish(I:Inv X pins σ H s)(E:Value->Ag->Prop):Inv (X.wish E) pins σ H s:=⟨I.ok.wish E,I.os,I.bare,I.base,I.loc,I.cell,I.free,I.freeC,I.pin,I.hok,I.len⟩
theorem Inv.unwish(I:Inv (X.wish E) pins σ H s):Inv X pins σ H s:=⟨I.ok.unwish,I.os,I.bare,I.base,I.loc,I.cell,I.free,I.freeC,I.pin,I.hok,I.len⟩
theorem SP.unwish(h:SP (X.wish E) pins D f s'):SP X pins D f s':=by
 cases f with
 |next=>obtain⟨e,g,I,q⟩:=h;exact⟨e,g,I.unwish,q⟩
 |brk=>obtain⟨e,g,I,q⟩:=h;exact⟨e,g,I.unwish,q⟩
 |cont=>obtain⟨e,g,I,q⟩:=h;exact⟨e,g,I.unwish,q⟩
 |ret u=>obtain⟨v,e,g,I,r,q⟩:=h;exact⟨v,e,g,I.unwish,r,q⟩
theorem PSs.nox{st:List Stmt}(h:PSs X.nox st t):PSs X st t:=fun e s f H D I g =>
 Dj (h e s f H D (I.wish _) g) (fun _ _ q=>q.unwish) fun _ _ z=>False.elim z
end
section
variable{X:Cx}{st:Stmt}{rest:List Stmt}{t u:TS}{e:Expr}{te:TE}{pos:Pos}
noncomputable def tNext:TS:=fun D σ H=>D.nx σ H
noncomputable def tSeq(t u:TS):TS:=fun D σ H=>t { D with nx:=u D } σ H
theorem q0o:PSs X [] tNext:=fun _ _ e H _ I h=>Nh ⟨e,H,I,h⟩
theorem q0e(j:PS X st t)(B:PSs X rest u):PSs X (st::rest) (tSeq t u):=by
 intro e s C H D I h;refine Qd (thn (j e s C H { D with nx:=u D } I h) fun f E q=>?_);cases f with
 |next =>
  obtain⟨g,G,J,q⟩:=q;exact B e E g G D J q
 |ret v=>exact q
 |brk=>exact q
 |cont=>exact q
theorem q0f(g:PS X st t):PSs X [st] t:=by
 intro e s j H D I h;refine Qd (thn (g e s j H D I h) fun f u q=>?_);cases f with
 |next=>exact Nh q
 |ret v=>exact q
 |brk=>exact q
 |cont=>exact q
theorem Inv.quiet{e:St}(I:Inv X pins e H s):interactive X.env=false:=by simp[interactive,I.ok.kind]
noncomputable def tDrop(te:TE):TS:=fun D σ H=>te σ H fun _ H1=>D.nx σ H1
theorem q2b(j:PE X e te)(hs:Ku e none pos.line X.env=pure false:=by rfl):PS X (.Expr e pos) (tDrop te):=by
 intro f s g H D I h;exact wpAny_Expr_any (thn (j f s g H _ I h) fun v C ⟨x,q,u,E,B⟩=>⟨g,q,u,B⟩) I.quiet hs
noncomputable def tRet(te:TE):TS:=fun D σ H=>te σ H D.rt
theorem q0m(j:PE X e te):PS X (.Return (some e) pos) (tRet te):=by
 intro f s g H D I h;exact wpAny_Return_some (thn (j f s g H _ I h) fun v E ⟨x,q,u,B,C⟩=>⟨x,g,q,u,B,C⟩)
noncomputable def tIfS(c:TT)(t u:TS):TS:=fun D σ H=>c σ H fun b H1=>if b=true then t D σ H1 else u D σ H1
theorem q1s{c:Expr}{a b:List Stmt}{g:TT}(C:PT X c g)(ha:PSs X a t)(E:PSs X b u):PS X (.If c a b pos) (tIfS g t u):=by
 intro e s f H D I h;refine wpAny_If (thn (C e s f H _ I h) fun d j ⟨q,v,B⟩=>?_);cases d with
 |true=>exact ha e j f q D v B
 |false=>exact E e j f q D v B
noncomputable def tNever:TS:=fun _ _ _=>False
theorem q6d:PS X st tNever:=fun _ _ _ _ _ _ h=>h.elim
end
noncomputable abbrev TG:=V->St->Hp->(St->Hp->Prop)->Prop
noncomputable abbrev TGs:=List V->St->Hp->(St->Hp->Prop)->Prop
noncomputable def PG(X:Cx)(target:Expr)(t:TG):Prop :=
 ∀(pins:List (Addr×Obj)) (s:Ag) (σ:St) (H:Hp) (v:V) (u:Value) (Q:St->Hp->Prop),Inv X pins σ H s->RelV v u->t v σ H Q ->
  wpAny (model X.prog X.w) X.A (assign target X.env u) (fun _ s'=>∃σ' H',Inv X pins σ' H' s'/\Q σ' H') X.xe s
noncomputable def PGs(X:Cx)(ts:List Expr)(t:TGs):Prop :=
 ∀(pins:List (Addr×Obj)) (s:Ag) (σ:St) (H:Hp) (vs:List V) (us:List Value) (Q:St->Hp->Prop),Inv X pins σ H s->Vals vs us->t vs σ H Q ->
  wpAny (model X.prog X.w) X.A (assignInOrder ((Ka ts X.env).map (·.2)) us) (fun _ s'=>∃σ' H',Inv X pins σ' H' s'/\Q σ' H') X.xe s
noncomputable abbrev TSet:=V->V->V->Hp->(Hp->Prop)->Prop
noncomputable def PSet(X:Cx)(t:TSet):Prop :=
 ∀(pins:List (Addr×Obj)) (s:Ag) (σ:St) (H:Hp) (o i v:V) (ov iv u:Value) (Q:Hp->Prop),Inv X pins σ H s->RelV o ov->RelV i iv->RelV v u->t o i v H Q ->
  wpAny (model X.prog X.w) X.A (setItem ov iv u) (fun _ s'=>∃H',Inv X pins σ H' s'/\Q H') X.xe s
noncomputable abbrev TIp:=V->V->Hp->VK->Prop
noncomputable def PIp(X:Cx)(op:Operator)(t:TIp):Prop :=
 ∀(pins:List (Addr×Obj)) (s:Ag) (σ:St) (H:Hp) (x y:V) (v u:Value) (Q:VK),Inv X pins σ H s->RelV x v->RelV y u->t x y H Q ->
  wpAny (model X.prog X.w) X.A (inplaceOp op v u) (EP X pins σ Q) X.xe s
section
variable{X:Cx}{pos:Pos}
noncomputable def gName(i:Nat):TG:=fun v σ H Q=>Q (σ.set i (some v)) H
theorem q0h{i:Nat}{x:Str}(f:X.N.Nodup)(g:X.N[i]?=some x)(j:Loc X.env.scope x)(q:X.fn x=true\/X.env.scope.names.lookup x=some .local:=by trivial):PG X (.Name x pos) (gName i):=by
 intro e s C H v u Q I r h;exact Ph (q8u I f g j r (fun D B=>⟨_,H,B,h⟩) q)
noncomputable def gNil:TGs:=fun vs σ H Q=>vs=[]/\Q σ H
noncomputable def gCons(t:TG)(u:TGs):TGs:=fun vs σ H Q=>∃v r,vs=v::r/\t v σ H fun σ' H'=>u r σ' H' Q
theorem q1m:PGs X [] gNil:=by
 intro f s g H vs j Q I r h;obtain⟨e,h⟩:=h;exact assignInOrder_nil ⟨g,H,I,h⟩
theorem q0k{e:Expr}{g:List Expr}{t:TG}{u:TGs}(q:PG X e t)(B:PGs X g u)(hs:(Ka (e::g) X.env).map (·.2)=assign e X.env::(Ka g X.env).map (·.2):=by rfl):PGs X (e::g) (gCons t u):=by
 intro f s C H vs M Q I r h;obtain⟨v,O,D,h⟩:=h;subst D;cases r with
 |cons r rr =>
  rw[hs];refine assignInOrder_cons (thn (q f s C H _ _ _ I r h) fun _ E ⟨j,G,J,L⟩=>?_);exact B f E j G _ _ Q J rr L
noncomputable def gTup(K:Aq)(n:Nat)(t:TGs):TG:=fun v σ H Q=>∃a xs,v=.ref a/\SqT K H a xs/\xs.length=n/\t xs σ H Q
theorem pg_tup{k:Nat}(C:X.calm=true)(h:PGs X es t)(D:(Ka es X.env).length=n:=by rfl)(g:(Ka es X.env).findIdx? (·.1)=none:=by rfl):PG X (.Tuple es k pos) (gTup X.K n t):=by
 intro f s q H v u Q I r j;obtain⟨a,xs,E,G,hl,j⟩:=j;subst E;cases r;obtain⟨J,B,L,R⟩:=I.tuple G;refine assign_Tuple_tuple (I.ok.hd C) L (by simp[D,<- hl,B.length]) g fun M O=>?_;have P:Inv X f q H { s with heap:=M }:=I.kept (t':=s.toks) fun b o e=>O b o (Bj (Az e)) e;exact h f _ q H xs _ Q P (by simpa using B) j
noncomputable def gSub(to ti:TE)(t:TSet):TG:=fun v σ H Q=>to σ H fun o H1=>ti σ H1 fun i H2=>t o i v H2 fun H3=>Q σ H3
theorem z6f{o i:Expr}{to q:TE}{t:TSet}(B:PE X o to)(C:PE X i q)(hs:PSet X t)(ha:∀v,assign (.Subscript o i pos) X.env v=(do
   let f<-Ll [v] (eval o X.env);let g<-Ll [v,f] (eval i X.env)
   Qa pos
   Ll [v,f,g] (setItem f g v)
   release [v,f,g] []):=by intro _;rfl):PG X (.Subscript o i pos) (gSub to q t):=by
 intro e s j H v u Q I r h;refine Ab (Cn (thn (B e s j H _ I h) fun f D ⟨x,E,G,J,L⟩=>?_));refine Ab (Cn (thn (C e D j E _ G L) fun g M ⟨y,O,P,R,S⟩=>?_));refine Ab (Hx (Ab (Cn (thn (hs e M j O x y v f g u _ P J R r S) fun _ Y ⟨T,U,W⟩=>?_))));exact wpAny_release ⟨j,T,U,W⟩
noncomputable def tAsg(te:TE)(g:TG):TS:=fun D σ H=>te σ H fun x H1=>g x σ H1 D.nx
theorem q7u{j e:Expr}{u:TE}{g:TG}(C:PE X e u)(E:PG X j g)(hs:swapsWithSole [j] e pos.line X.env=pure false:=by rfl)(G:swappedStores [j] e X.env=pure none:=by rfl)(J:(Ka [j] X.env).map (·.2)=[assign j X.env]:=by rfl):PS X (.Assign [j] e pos) (tAsg u g):=by
 intro f s B H D I h;refine wpAny_Assign_stores (thn (C f s B H _ I h) fun v L ⟨x,M,O,P,Q⟩=>?_) hs G;rw[J];exact thn (E f L B M x v _ O P Q) fun _ R q=>q
theorem q0j{i:Nat}{x:Str}{e:Expr}{j:TE}{f:Pos}(q:X.N.Nodup)(u:X.N[i]?=some x)(B:Loc X.env.scope x)(C:PE X e j)(hs:Ku e (some (.Name x f)) pos.line X.env=pure false:=by rfl)(E:X.fn x=true\/X.env.scope.names.lookup x=some .local:=by trivial):
  PS X (.Assign [.Name x f] e pos) (tAsg j (gName i)):=by
 intro g s G H D I h;refine wpAny_Assign_Name (thn (C g s G H _ I h) fun v Q ⟨y,J,L,M,O⟩=>?_) hs;exact q8u L q u B M (fun R P=>⟨_,J,P,O⟩) E
noncomputable def tAug(i:Nat)(te:TE)(ti:TIp):TS:=fun D σ H=>∃x,σ[i]?=some (some x)/\te σ H fun y H1=>ti x y H1 fun z H2=>D.nx (σ.set i (some z)) H2
theorem ps_aug{i:Nat}{x:Str}{e:Expr}{G:TE}{op:Operator}{J:TIp}{j:Pos}(O:X.N.Nodup)(L:X.N[i]?=some x)(C:Loc X.env.scope x)(P:PE X e G)(Q:PIp X op J)(R:X.fn x=true\/X.env.scope.names.lookup x=some .local:=by trivial):
  PS X (.AugAssign (.Name x j) op e pos) (tAug i G J):=by
 intro f s M H D I h;obtain⟨v,S,h⟩:=h;obtain⟨m,T,hl⟩:=I.loc;have E:Vis X.env.scope x:=by rcases C with k|k;exact .inl k;exact .inr (.inl k)
 obtain⟨u,r,l⟩:=hl i x v L S E;refine wpAny_AugAssign_Name ?_;have go:wpAny (model X.prog X.w) X.A (eval e X.env) (fun w q=>wpAny (model X.prog X.w) X.A (inplaceOp op u w) (fun r B=>wpAny (model X.prog X.w) X.A (storeName X.env x r) (fun _=>SP X f D .next) X.xe B) X.xe q) X.xe s:=by
  refine thn (P f s M H _ I h) fun w U ⟨y,W,Y,Z,q1⟩=>?_;refine thn (Q f U M W v y u w _ Y r Z q1) fun z s2 ⟨zv,H2,I2,r2,q2⟩=>?_;exact q8u I2 O L C r2 (fun s3 I3=>⟨_,H2,I3,q2⟩) R
 rcases l with⟨hk,hm⟩|⟨hk,c,hc,g⟩
 ·exact Sq I.ok.kind hk T hm go
 ·rcases hk with hk|hk
  ·exact Th I.ok.kind hk hc g go
  ·rcases C with k|k
   ·have:X.env.scope.names.lookup x=some .free:=hk;rw[k] at this;cases this
   ·have:X.env.scope.names.lookup x=some .free:=hk;rw[k] at this;cases this
end
section
variable{X:Cx}{pos:Pos}
noncomputable def tWhile(c:TT)(tb:TS):TS:=fun D σ H=>∃W:Nat->St->Hp->Prop,(∃m,W m σ H)/\∀m σ H,W m σ H ->
 c σ H fun b H1=>if b=true then ∃N:St->Hp->Prop,(∀σ' H',N σ' H'->∃m',m'<m/\W m' σ' H')/\tb { D with nx:=N,ct:=N,bk:=D.nx } σ H1 else D.nx σ H1
theorem q8v{c:Expr}{q:List Stmt}{Q:TT}{tb:TS}(R:PassesOwn (model X.prog X.w) X.A X.env X.xe)(hc:PT X c Q)(hb:PSs X q tb):PS X (.While c q [] pos) (tWhile Q tb):=by
 intro e s σ H D I h;obtain⟨W,⟨m0,w0⟩,u⟩:=h;refine wpAny_While (codeAny_whileLoop (fun n s'=>∃B S,Inv X e B S s'/\W n B S) ?_ m0 ⟨σ,H,I,w0⟩);rintro n s1 ⟨j,T,I1,w1⟩;refine Hq R (thn (hc e s1 j T _ I1 (u n j T w1)) fun b s2 ⟨U,Y,E⟩=>?_);cases b with
 |true =>
  obtain⟨N,Z,E⟩:=E;refine Hq R (thn (hb e s2 j U _ Y E) fun f s3 G=>?_);cases f with
  |next =>
   obtain⟨g,C,J,L⟩:=G;obtain⟨M,O,P⟩:=Z g C L;exact⟨M,O,g,C,J,P⟩
  |cont =>
   obtain⟨g,C,J,L⟩:=G;obtain⟨M,O,P⟩:=Z g C L;exact⟨M,O,g,C,J,P⟩
  |brk=>exact G
  |ret v=>exact G
 |false =>
  exact Nh ⟨j,U,Y,E⟩
end
structure It where
 go:Nat->Hp->Prop
 yld:Nat->Hp->V->Hp->Prop
 stop:Nat->Hp->Prop
noncomputable def FpOk(X:Cx)(pins:List (Addr×Obj))(H:Hp)(b:Addr):Prop :=
 H b=none/\b≠X.env.locals/\b∉X.fs/\(b∈X.ex\/X.s₀.heap.objs.size<=b)/\(∀x c,X.env.cells.lookup x=some c->c≠b)/\∀p∈X.pn++pins,p.1≠b
theorem Inv.fpOk{g:St}{b:Addr}(I:Inv X pins g H s)(f:s.heap.objs.size<=b)(h:H' b=none):FpOk X pins H' b:=by
 refine⟨h,Fl (Cb I.lt f),I.nofs f,.inr (Ce I.sz f),fun x c e z=>?_,fun p j z=>?_⟩
 ·obtain⟨v,q⟩:=I.cell x c e;exact absurd (Cb q.lt (by rw[z];exact f)) (Fq _)
 ·exact absurd (Cb (Az (I.pin p j).1) (by rw[z];exact f)) (Fq _)
structure Turn (P:Ay) (w:World) (K:Aq) (tg:Expr) (J:It) (fp:List Addr) (it:Addr) (tn:Nat->Heap->Prop):Prop where
 mem:it∈fp
 obj:∀i h,tn i h->∀b∈fp,∃o,h.get? b=some o/\∀v,o.data≠.cell v
 keep:∀i h h',tn i h->(∀b∈fp,∀o,h.get? b=some o->h'.get? b=some o)->tn i h'
 item:∀(X:Cx),X.prog=P->X.w=w->X.K=K->X.calm=true->∀(i:Nat) (pins:List (Addr×Obj)) (s:Ag) (σ:St) (H:Hp) (E:Value->Ag->Prop),Inv X pins σ H s->(∀b∈fp,FpOk X pins H b)->tn i s.heap->J.go i H ->
  wpAny (model P w) X.A (Hc (.ref it)) (fun r s1=>∃u,r=some u /\
   wpAny (model P w) X.A (Ni tg (.ref it) u) (fun _ s2=>∃x H',Inv X pins σ H' s2/\RelV x u/\J.yld i H x H'/\tn (i+1) s2.heap/\∀b∈fp,H' b=none) E s1) E s
 done:∀(X:Cx),X.prog=P->X.w=w->X.K=K->X.calm=true->∀(i:Nat) (pins:List (Addr×Obj)) (s:Ag) (σ:St) (H:Hp) (E:Value->Ag->Prop),Inv X pins σ H s->(∀b∈fp,FpOk X pins H b)->tn i s.heap->J.stop i H ->
  wpAny (model P w) X.A (Hc (.ref it)) (fun r s1=>r=none/\Inv X pins σ H s1) E s
 self:∀(A:Around) (i:Nat) (s:Ag) (Q:Value->Ag->Prop) (E:Value->Ag->Prop),tn i s.heap->Q (.ref it) s->wpAny (model P w) A (Kv (.ref it)) Q E s
noncomputable abbrev TI:=St->Hp->(It->Hp->Prop)->Prop
noncomputable def PIE(X:Cx)(pins:List (Addr×Obj))(σ:St)(tg:Expr)(R:It->Hp->Prop)(itv:Value)(s2:Ag):Prop :=
 ∃(it:Addr) (fp:List Addr) (tn:Nat->Heap->Prop) (J:It) (H':Hp),itv=.ref it/\Inv X pins σ H' s2/\Turn X.prog X.w X.K tg J fp it tn/\tn 0 s2.heap/\(∀b∈fp,FpOk X pins H' b)/\R J H'
noncomputable def PI(X:Cx)(tg iter:Expr)(wi:TI):Prop :=
 ∀(pins:List (Addr×Obj)) (s:Ag) (σ:St) (H:Hp) (R:It->Hp->Prop),Inv X pins σ H s->wi σ H R ->
  wpAny (model X.prog X.w) X.A (eval iter X.env) (fun v s1=>wpAny (model X.prog X.w) X.A (Kv v) (PIE X pins σ tg R) X.xe s1) X.xe s
theorem z2m (f : s.heap.get? it = some o) (g : o.cls = .type n) (hd : o.data = .fields vs)
    (j : ["enumerate", "zip", "dict_itemiterator", "dict_reverseitemiterator", "odict_iterator", "itertools.zip_longest", "itertools.pairwise"].contains n = false) (e : Q () s) : wpAny M A (Ni tg (.ref it) u) Q E s := by
  cases tg <;> first
    | exact Ad e
    | (cases u <;> first
        | exact Ad e
        | (refine Ab (Wd f ?_)
           rw [g, hd]
           show wpAny M A (if (["enumerate", "zip", "dict_itemiterator", "dict_reverseitemiterator", "odict_iterator", "itertools.zip_longest", "itertools.pairwise"].contains n && vs[0]? == some (Ek _)) = true then _ else _) Q E s
           rw [if_neg (by intro h; rw [j, Bool.false_and] at h; cases h)]
           exact Ad e))
noncomputable def Itl(K:Aq)(a:Addr):It :=
 ⟨fun i H=>∃xs x,SqL K H a xs/\xs[i]?=some x,fun i H x H'=>H'=H/\∀xs,SqL K H a xs->xs[i]?=some x,fun i H=>∃xs,SqL K H a xs/\xs.length<=i⟩
noncomputable def Itt(K:Aq)(a:Addr):It :=
 ⟨fun i H=>∃xs x,SqT K H a xs/\xs[i]?=some x,fun i H x H'=>H'=H/\∀xs,SqT K H a xs->xs[i]?=some x,fun i H=>∃xs,SqT K H a xs/\xs.length<=i⟩
noncomputable def Itr(lo:Int)(n:Nat):It:=⟨fun i _=>i<n,fun i H x H'=>H'=H/\x=.int (lo+i),fun i _=>n<=i⟩
theorem z6g{K:Aq}(a g:Addr):Turn P w K tg (Itl K a) [g] g (fun i h=>h.IsListIter g a i) where
 mem:=by simp
 obj:=fun i h st b j=>by
  have e:b=g:=by grind
  subst e;obtain⟨o,e,c,d⟩:=st;exact⟨o,e,fun v z=>by rw[d] at z;cases z⟩
 keep:=fun i h D st k=>st.at fun o e=>k g (by simp) o e
 item:=by
  intro X G J L Z i f s σ H E I B st M;subst G J L;obtain⟨xs,x,C,O⟩:=M;obtain⟨Q,R,p,hz⟩:=I.list C;obtain⟨u,hu,ru⟩:=R.get O;obtain⟨S,T,f2,U,W,Y⟩:=B g (by simp);refine Rg st p.isList (by simpa using hu) fun D q sb=>?_;have I1:Inv X f σ H { s with heap:=D }:=I.turned (t':=s.toks) (fun b o j e=>(sb.2 b j).trans e) S T U W Y;obtain⟨o,e,c,d⟩:=id q;exact⟨u,rfl,z2m e c d (by decide) ⟨x,H,I1,ru,⟨rfl,fun ys hy=>by rw[I.list_inj hy C];exact O⟩,q,fun b j=>(B b j).1⟩⟩
 done:=by
  intro X G J L Z i f s σ H E I B st M;subst G J L;obtain⟨xs,C,O⟩:=M;obtain⟨Q,R,p,hz⟩:=I.list C;obtain⟨S,T,f2,U,W,Y⟩:=B g (by simp);have hl:=R.length;exact Rz (I.ok.hd Z) st p.isList (by simp;lia) fun D eb=>⟨rfl,I.turned (t':=s.toks) (fun b o j e=>eb b o j e) S T U W Y⟩
 self:=fun _ _ _ _ _ st h=>wpAny_pyIter_listiter st h
theorem z4t{K:Aq}(a g:Addr):Turn P w K tg (Itt K a) [g] g (fun i h=>h.IsTupleIter g a i) where
 mem:=by simp
 obj:=fun i h st b q=>by
  have e:b=g:=by grind
  subst e;obtain⟨o,e,c,d⟩:=st;exact⟨o,e,fun v z=>by rw[d] at z;cases z⟩
 keep:=fun i h G st k=>st.at fun o e=>k g (by simp) o e
 item:=by
  intro X J L M Z i f s σ H E I C st O;subst J L M;obtain⟨xs,x,D,Q⟩:=O;obtain⟨j,R,p,hz⟩:=I.tuple D;obtain⟨u,hu,ru⟩:=R.get Q;obtain⟨S,T,f2,U,W,Y⟩:=C g (by simp);refine wpAny_pyNext_tuple_item st (show s.heap.IsTuple a j.toArray from p) (by simpa using hu) fun G B sb=>?_;have I1:Inv X f σ H { s with heap:=G }:=I.turned (t':=s.toks) (fun b o q e=>(sb.2 b q).trans e) S T U W Y;obtain⟨o,e,c,d⟩:=id B;exact⟨u,rfl,z2m e c d (by decide) ⟨x,H,I1,ru,⟨rfl,fun ys hy=>by rw[I.tuple_inj hy D];exact Q⟩,B,fun b q=>(C b q).1⟩⟩
 done:=by
  intro X J L M Z i f s σ H E I C st O;subst J L M;obtain⟨xs,D,Q⟩:=O;obtain⟨j,R,p,hz⟩:=I.tuple D;obtain⟨S,T,f2,U,W,Y⟩:=C g (by simp);have hl:=R.length;exact wpAny_pyNext_tuple_end (I.ok.hd Z) st (show s.heap.IsTuple a j.toArray from p) (by simp;lia) fun G eb=>⟨rfl,I.turned (t':=s.toks) (fun b o q e=>eb b o q e) S T U W Y⟩
 self:=fun _ _ _ _ _ st h=>wpAny_pyIter_tupleiter st h
theorem z4u{K:Nj}(f:Addr)(lo:Int)(n:Nat):Turn P w K tg (Itr lo n) [f] f (fun i h=>IsRangeIter h f (lo+(i:Nat)*1) ((n:Int)-(i:Nat)) 1) where
 mem:=by simp
 obj:=fun i h st b j=>by
  have e:b=f:=by grind
  subst e;exact⟨_,st,fun v z=>by
   have z':=z;cases z'⟩
 keep:=fun i h B st k=>k f (by simp) _ st
 item:=by
  intro X Q R S C i g s T H E I u st D;subst Q R S;obtain⟨G,J,U,L,M,O⟩:=u f (by simp);have W:=Walks.range (prog:=X.prog) (w:=X.w) (I.ok.hd C) f lo 1 n;refine W.item i s _ _ D st fun v B tk Y q Z=>?_;obtain⟨t,rfl⟩:=Y;have I1:Inv X g T H { s with heap:=B,toks:=tk }:=I.turned (fun b o j e=>Z b o (by simpa using j) e) G J L M O;refine⟨_,rfl,z2m q rfl rfl (by decide) ⟨.int (lo+i),H,I1,⟨t,?_⟩,⟨rfl,rfl⟩,q,fun b j=>(u b j).1⟩⟩;rw[Int.mul_one]
 done:=by
  intro X Q R S C i g s T H E I u st D;obtain⟨G,J,U,L,M,O⟩:=u f (by simp);exact wpAny_pyNext_range_end (I.ok.hd C) st (by have:n<=i:=D;lia) fun B eb=>⟨rfl,I.turned (t':=s.toks) (fun b o j e=>eb b o j e) G J L M O⟩
 self:=fun _ _ _ _ _ st h=>wpAny_pyIter_rangeiter st h
section
variable{X:Cx}{tg:Expr}
theorem z9n{f:St}{lo:Int}(I:Inv X pins f H s)(h : -(2^62)<=lo)(j:lo<2^62)(B : -(2^62)<=hi)(C:hi<2^62)(q:R (Itr lo (hi-lo).toNat) H):wpAny (model X.prog X.w) X.A (Kv (.ref s.heap.objs.size)) (PIE X pins f tg R) E { s with heap:=s.heap.push { cls:=.type "range",data:=.fields #[.int lo t,.int hi u,.int 1 v] },toks:=tk }:=by
 refine wpAny_pyIter_range (IsRange.new ..) (small_one h j B C) ?_;have g:Inv X pins f H { s with heap:=s.heap.push { cls:=.type "range",data:=.fields #[.int lo t,.int hi u,.int 1 v] },toks:=tk }:=I.kept fun b o e=>Ai _ e;refine⟨(s.heap.push { cls:=.type "range",data:=.fields #[.int lo t,.int hi u,.int 1 v] }).objs.size,[(s.heap.push { cls:=.type "range",data:=.fields #[.int lo t,.int hi u,.int 1 v] }).objs.size],_,_,H,rfl,
  g.kept (t':=tk) fun b o e=>Ai _ e,z4u _ lo (hi-lo).toNat,?_,fun b D=>?_,q⟩
 ·have G:lo+((0:Nat):Int)*1=lo:=by simp
  have J:(((hi-lo).toNat:Nat):Int)-((0:Nat):Int)=Dq.Range.rangeSize lo hi 1:=by rw[rangeSize_one];split<;>lia
  rw[G,J];exact Aw _ rfl
 ·have e:b=(s.heap.push { cls:=.type "range",data:=.fields #[.int lo t,.int hi u,.int 1 v] }).objs.size:=by simpa using D
  subst e;exact g.fpOk (Au _) (g.hok.fresh (Au _))
noncomputable def iRng1(ta:TA):TI:=fun σ H R=>ta σ H fun vs H1=>∃j:Int,vs=[.int j] /\ -(2^62)<=j/\j<2^62/\R (Itr 0 j.toNat) H1
theorem q3l{a:Expr}{v:TA}{p f:Pos}(B:Gl X "range")(C:X.mg "range" = none)(ha:PA X [a] v)(hs:Bk [a] X.env=[(false,eval a X.env)]:=by rfl):PI X tg (.Call (.Name "range" p) [a] [] f) (iRng1 v):=by
 intro g s D H R I h;refine Call_ (q6p I B C boot_range (Ey (thn (ha f g s D H _ I h) fun L M ⟨vs,O,E,G,u⟩=>?_) hs rfl));obtain⟨j,e,u,J,q⟩:=u;subst e;cases G with
 |cons r rr =>
  cases rr;obtain⟨t,rfl⟩:=r;exact call_range_1 (z9n E (by lia) (by lia) u J (by simpa using q))
noncomputable def tFor(wi:TI)(g:TG)(tb:TS):TS:=fun D σ H=>wi σ H fun J H1=>∃W:Nat->Nat->St->Hp->Prop,(∃m,W 0 m σ H1)/\∀i m σ H,W i m σ H ->
 (J.stop i H/\D.nx σ H)\/(J.go i H/\∃N:St->Hp->Prop,(∀σ' H',N σ' H'->∃m',m'<m/\W (i+1) m' σ' H')/\∀x H',J.yld i H x H'->g x σ H' fun σ2 H2=>tb { D with nx:=N,ct:=N,bk:=D.nx } σ2 H2)
noncomputable def pinsAt(fp:List Addr)(h:Heap):List (Addr×Obj):=fp.filterMap fun b=>(h.get? b).map fun o=>(b,o)
theorem q2o(f:b∈fp)(e:h.get? b=some o):(b,o)∈pinsAt fp h:=Kw.mpr ⟨b,f,by rw[e];rfl⟩
theorem z6h(f:p∈pinsAt fp h):p.1∈fp/\h.get? p.1=some p.2:=by
 obtain⟨b,g,e⟩:=Kw.mp f;cases q:h.get? b with
 |none=>rw[q] at e;cases e
 |some o =>
  rw[q] at e;have e':=Bx e;subst e';exact⟨g,q⟩
theorem Inv.pinned{f:St}(I:Inv X pins f H s)(j:∀b∈fp,FpOk X pins H b)(q:∀b∈fp,∃o,s.heap.get? b=some o/\∀v,o.data≠.cell v):Inv X (pins++pinsAt fp s.heap) f H s :=
 I.pins_of fun p u=>(Ar.mp u).elim (fun z=>I.pin p (Bm _ z)) fun z=>by
  obtain⟨g,e⟩:=z6h z;obtain⟨B,C,D,_⟩:=j p.1 g;obtain⟨o,h,d⟩:=q p.1 g;rw[e] at h;cases h;exact⟨e,B,C,D,d⟩
theorem Inv.unpinned{e:St}(I:Inv X (pins++pl) e H s):Inv X pins e H s:=I.pins_of fun p f=>I.pin p (Bm _ (Ck _ f))
theorem q1u{B:Expr}{R:List Stmt}{wi:TI}{g:TG}{tb:TS}{a3:Pos}(Y:PassesOwn (model X.prog X.w) X.A X.env X.xe)(hc:X.calm=true)(hi:PI X tg B wi)(hg:PG X tg g)(C:PSs X R tb)(hs:∀x,Jm B X.env x=pure x:=by intro _;rfl):PS X (.For tg B R [] a3) (tFor wi g tb):=by
 intro j s σ H D I h;refine wpAny_For (thn (hi j s σ H _ I h) fun v s1 h1=>thn h1 fun a7 s2 h2=>?_) hs;obtain⟨it,Z,tn,J,H2,e,I2,T,a4,f2,W,⟨m0,w0⟩,a0⟩:=h2;subst e;have E:∀{Q:Hp},(∀b∈Z,Q b=none)->∀b∈Z,FpOk X j Q b:=fun hn b C=>⟨hn b C,(f2 b C).2⟩
 refine codeAny_forLoop_any (fun n s'=>∃i G Q,Inv X j G Q s'/\tn i s'.heap/\(∀b∈Z,Q b=none)/\W i n G Q) ?_ m0 ⟨0,σ,H2,I2,a4,fun b C=>(f2 b C).1,w0⟩;rintro n s3 ⟨i,L,H3,I3,a1,a2,w3⟩;rcases a0 i n L H3 w3 with⟨stop,qn⟩|⟨go,N,hN,step⟩
 ·refine Hq Y (thn (T.done X rfl rfl rfl hc i j s3 L H3 X.xe I3 (E a2) a1 stop) fun r s4 ⟨hr,I4⟩=>?_);subst hr;exact Nh ⟨L,H3,I4,qn⟩
 ·refine Hq Y (thn (T.item X rfl rfl rfl hc i j s3 L H3 X.xe I3 (E a2) a1 go) fun r s4 ⟨u,hr,h4⟩=>?_);subst hr;refine Hq Y (thn h4 fun _ s5 ⟨x,H5,I5,r5,y5,U,a5⟩=>?_);have I5':=I5.pinned (E a5) (T.obj _ _ U);refine Hq Y (thn (hg _ s5 L H5 x u _ I5' r5 (step x H5 y5)) fun _ s6 ⟨a6,H6,I6,q6⟩=>?_);refine Hq Y (thn (C _ s6 a6 H6 _ I6 q6) fun f s7 S=>?_);have M:∀{q:St} {O:Hp},Inv X (j++pinsAt Z s5.heap) q O s7->N q O->∃m,m<n/\∃i G Q,Inv X j G Q s7/\tn i s7.heap/\(∀b∈Z,Q b=none)/\W i m G Q:=fun{q O} P n7=>by
   obtain⟨m',hm,w7⟩:=hN q O n7;refine⟨m',hm,i+1,q,O,P.unpinned,T.keep _ _ _ U fun b C o e=>(P.pin (b,o) (Bm _ (Bm _ (q2o C e)))).1,fun b C=>?_,w7⟩;obtain⟨o,e,d⟩:=T.obj _ _ U b C;exact(P.pin (b,o) (Bm _ (Bm _ (q2o C e)))).2.1
  cases f with
  |next=>obtain⟨q,O,P,n7⟩:=S;exact M P n7
  |cont=>obtain⟨q,O,P,n7⟩:=S;exact M P n7
  |brk=>obtain⟨q,O,P,S⟩:=S;exact⟨q,O,P.unpinned,S⟩
  |ret v=>obtain⟨x7,q,O,P,r7,S⟩:=S;exact⟨x7,q,O,P.unpinned,r7,S⟩
end
theorem q3v{K:Nj}{g:TG}{tb:TS}{D:Ends}(h:Nat->St->Hp->Prop)(h0:h 0 f H)(hl:∀i f H,i<=xs.length->h i f H->SqL K H a xs)(hs:∀i x f H,xs[i]?=some x->h i f H->g x f H fun j v=>tb { D with nx:=h (i+1),ct:=h (i+1),bk:=D.nx } j v)(hd:∀f H,h xs.length f H->D.nx f H):
  ∃W:Nat->Nat->St->Hp->Prop,(∃m,W 0 m f H)/\∀i m f H,W i m f H ->
   ((Itl K a).stop i H/\D.nx f H)\/((Itl K a).go i H/\∃N:St->Hp->Prop,(∀s H',N s H'->∃B,B<m/\W (i+1) B s H')/\∀x H',(Itl K a).yld i H x H'->g x f H' fun j v=>tb { D with nx:=N,ct:=N,bk:=D.nx } j v):=by
 refine⟨fun i m f H=>m=xs.length-i/\i<=xs.length/\h i f H,⟨xs.length,by simp,Bf _,h0⟩,?_⟩;rintro i m f H ⟨rfl,C,p⟩;have q:=hl i f H C p;by_cases u:i<xs.length
 ·refine .inr ⟨⟨xs,xs[i],q,by simp[u]⟩,h (i+1),fun s H' E=>⟨xs.length-(i+1),by lia,rfl,u,E⟩,fun x H' y=>?_⟩;obtain⟨e,y⟩:=y;subst e;exact hs i x f _ (y xs q) p
 ·have e:i=xs.length:=by lia
  subst e;exact .inl ⟨⟨xs,q,Au _⟩,hd f H p⟩
theorem q4v{lo:Int}{g:TG}{tb:TS}{D:Ends}(h:Nat->St->Hp->Prop)(h0:h 0 f H)(hs:∀i f H,i<n->h i f H->g (.int (lo+i)) f H fun j u=>tb { D with nx:=h (i+1),ct:=h (i+1),bk:=D.nx } j u)(hd:∀f H,h n f H->D.nx f H):
  ∃W:Nat->Nat->St->Hp->Prop,(∃m,W 0 m f H)/\∀i m f H,W i m f H ->
   ((Itr lo n).stop i H/\D.nx f H)\/((Itr lo n).go i H/\∃N:St->Hp->Prop,(∀q H',N q H'->∃v,v<m/\W (i+1) v q H')/\∀x H',(Itr lo n).yld i H x H'->g x f H' fun j u=>tb { D with nx:=N,ct:=N,bk:=D.nx } j u):=by
 refine⟨fun i m f H=>m=n-i/\i<=n/\h i f H,⟨n,by simp,Bf _,h0⟩,?_⟩;rintro i m f H ⟨rfl,C,p⟩;by_cases s:i<n
 ·refine .inr ⟨s,h (i+1),fun q H' B=>⟨n-(i+1),by lia,rfl,s,B⟩,fun x H' y=>?_⟩;obtain⟨e,y⟩:=y;subst e y;exact hs i f _ s p
 ·have e:i=n:=by lia
  subst e;exact .inl ⟨Au _,hd f H p⟩
theorem q8w(h:St->Hp->Prop)(j:St->Hp->Nat)(h0:h e H)(hs:∀e H,h e H->c e H fun b g=>if b=true then tb { D with nx:=fun f H'=>h f H'/\j f H'<j e H,ct:=fun f H'=>h f H'/\j f H'<j e H,bk:=D.nx } e g else D.nx e g)(mono:∀e H Q s,(∀b g,Q b g->s b g)->c e H Q->c e H s):tWhile c tb D e H:=by
 refine⟨fun m e H=>m=j e H/\h e H,⟨_,rfl,h0⟩,?_⟩;rintro m e H ⟨rfl,p⟩;refine mono e H _ _ (fun b g q=>?_) (hs e H p);cases b with
 |true=>exact⟨_,fun f H' ⟨u,l⟩=>⟨_,l,rfl,u⟩,q⟩
 |false=>exact q
noncomputable abbrev R2:=V->V->Hp->VK->Prop
noncomputable def OpR(X:Cx)(f:Value->Value->Sem Value)(r:R2):Prop :=
 ∀(pins:List (Addr×Obj)) (s:Ag) (σ:St) (H:Hp) (x y:V) (v u:Value) (Q:VK),Inv X pins σ H s->RelV x v->RelV y u->r x y H Q ->
  wpAny (model X.prog X.w) X.A (f v u) (EP X pins σ Q) X.xe s
noncomputable def UnR(X:Cx)(f:Value->Sem Value)(r:V->Hp->VK->Prop):Prop :=
 ∀(pins:List (Addr×Obj)) (s:Ag) (σ:St) (H:Hp) (x:V) (v:Value) (Q:VK),Inv X pins σ H s->RelV x v->r x H Q ->
  wpAny (model X.prog X.w) X.A (f v) (EP X pins σ Q) X.xe s
noncomputable def CallR(X:Cx)(f:Value)(r:List V->Hp->VK->Prop):Prop :=
 ∀(pins:List (Addr×Obj)) (s:Ag) (σ:St) (H:Hp) (xs:List V) (us:List Value) (Q:VK),Inv X pins σ H s->Vals xs us->r xs H Q ->
  wpAny (model X.prog X.w) X.A (call f us) (EP X pins σ Q) X.xe s
noncomputable def TruR(X:Cx)(r:V->Hp->(Bool->Hp->Prop)->Prop):Prop :=
 ∀(pins:List (Addr×Obj)) (s:Ag) (σ:St) (H:Hp) (x:V) (v:Value) (Q:Bool->Hp->Prop),Inv X pins σ H s->RelV x v->r x H Q ->
  wpAny (model X.prog X.w) X.A (truthy v) (TP X pins σ Q) X.xe s
noncomputable def tOp(r:R2)(ta tb:TE):TE:=fun σ H Q=>ta σ H fun x H1=>tb σ H1 fun y H2=>r x y H2 Q
noncomputable def tUn(r:V->Hp->VK->Prop)(ta:TE):TE:=fun σ H Q=>ta σ H fun x H1=>r x H1 Q
noncomputable def rI(C:Int->Int->Prop)(g:Int->Int->V):R2:=fun x y H Q=>∃i j,x=.int i/\y=.int j/\C i j/\Q (g i j) H
noncomputable def rI0(g:Int->Int->V):R2:=fun x y H Q=>∃i j,x=.int i/\y=.int j/\Q (g i j) H
noncomputable def rU(g:Int->V):V->Hp->VK->Prop:=fun x H Q=>∃i,x=.int i/\Q (g i) H
section
variable{X:Cx}{a b c:Expr}{ta tb tc:TE}{pos:Pos}
theorem binT(ha:PE X a ta)(D:PE X b tb){e:St}{R:V->V->Hp->Prop}(I:Inv X pins e H s)(h:ta e H fun x C=>tb e C fun y g=>R x y g){f:Value->Value->Sem Value}(E:∀v u B x y g,Inv X pins e g B->RelV x v->RelV y u->R x y g->wpAny (model X.prog X.w) X.A (f v u) Q X.xe B):
  wpAny (model X.prog X.w) X.A (eval a X.env) (fun v j=>wpAny (model X.prog X.w) X.A (eval b X.env) (fun u q=>wpAny (model X.prog X.w) X.A (f v u) Q X.xe q) X.xe j) X.xe s:=by
 refine thn (ha pins s e H _ I h) fun v G ⟨x,C,J,L,M⟩=>?_;refine thn (D pins G e C _ J M) fun u B ⟨y,g,O,P,S⟩=>?_;exact E v u B x y g O L P S
theorem q1d{op:Operator}{r:R2}(f:OpR X (Hd op) r)(ha:PE X a ta)(g:PE X b tb):PE X (.BinOp a op b pos) (tOp r ta tb):=by
 intro e s j H Q I h;exact wpAny_BinOp (binT ha g I h fun v u B x y C D E G q=>f e B j C x y v u Q D E G q)
theorem q1w{op:UnaryOp}{r:V->Hp->VK->Prop}(g:UnR X (unaryOp op) r)(ha:PE X a ta):PE X (.UnaryOp op a pos) (tUn r ta):=by
 intro e s f H Q I h;exact UnaryOp_ (thn (ha e s f H _ I h) fun v j ⟨x,q,u,B,C⟩=>g e j f q x v Q u B C)
theorem opI{g:Int->Int->Int}(e:∀(i j:Int) (t u:Tok) (s:Ag) (Q:Value->Ag->Prop) (E:Value->Ag->Prop),C i j->Q (.int (g i j) s.toks) { s with toks:=s.toks+1 }->wpAny (model X.prog X.w) X.A (f (.int i t) (.int j u)) Q E s):
  OpR X f (rI C fun i j=>.int (g i j)):=by
 intro B s M H x y v u Q I D G h;obtain⟨i,j,rfl,rfl,J,q⟩:=h;obtain⟨t,rfl⟩:=D;obtain⟨L,rfl⟩:=G;exact e i j t L s _ _ J ⟨.int (g i j),H,I.tok _,⟨_,rfl⟩,q⟩
theorem opI0{g:Int->Int->Int}(e:∀(i j:Int) (t u:Tok) (s:Ag) (Q:Value->Ag->Prop) (E:Value->Ag->Prop),Q (.int (g i j) s.toks) { s with toks:=s.toks+1 }->wpAny (model X.prog X.w) X.A (f (.int i t) (.int j u)) Q E s):
  OpR X f (rI0 fun i j=>.int (g i j)):=by
 intro B s J H x y v u Q I C D h;obtain⟨i,j,rfl,rfl,q⟩:=h;obtain⟨t,rfl⟩:=C;obtain⟨G,rfl⟩:=D;exact e i j t G s _ _ ⟨.int (g i j),H,I.tok _,⟨_,rfl⟩,q⟩
theorem opB0{g:Int->Int->Bool}(e:∀(i j:Int) (t u:Tok) (s:Ag) (Q:Value->Ag->Prop) (E:Value->Ag->Prop),Q (.bool (g i j)) s->wpAny (model X.prog X.w) X.A (f (.int i t) (.int j u)) Q E s):
  OpR X f (rI0 fun i j=>.bl (g i j)):=by
 intro B s J H x y v u Q I C D h;obtain⟨i,j,rfl,rfl,q⟩:=h;obtain⟨t,rfl⟩:=C;obtain⟨G,rfl⟩:=D;exact e i j t G s _ _ ⟨.bl (g i j),H,I,rfl,q⟩
noncomputable def CDiv(i j:Int):Prop:=0<j/\j<1073741824
noncomputable def CPow(i j:Int):Prop:=0<=j/\j<=1000000/\i.natAbs<2^64
noncomputable def CMul(i j:Int):Prop:=(-(2^64)<i/\i<2^64)\/(-(2^64)<j/\j<2^64)
theorem CMul.ok(h:CMul i j):IntMulOk i j:=by
 rcases h with⟨e,f⟩|⟨e,f⟩
 ·exact .of_left (intBits_le_64 e f)
 ·exact .of_right (intBits_le_64 e f)
theorem op_add:OpR X (Hd .Add) (rI0 fun i j=>.int (i+j)):=opI0 fun _ _ _ _ _ _ _ q=>add_int q
theorem op_mul:OpR X (Hd .Mult) (rI CMul fun i j=>.int (i*j)):=opI fun _ _ _ _ _ _ _ e q=>mul_int q e.ok
theorem z6i:OpR X (Hd .FloorDiv) (rI CDiv fun i j=>.int (i / j)):=opI fun i j _ _ _ _ _ e q=>by
 have f:=e.1;have g:=e.2;exact floordiv_int (by lia) (by rw[Int.fdiv_eq_ediv_of_nonneg i (by lia)];exact q) (.inl (PyProof.noPylong_small (by lia)))
theorem q7v:OpR X (Hd .Mod) (rI (fun _ j=>0<j) fun i j=>.int (i%j)):=opI fun i j _ _ _ _ _ e q=>by
 exact mod_int' (by lia) (by rw[Int.fmod_eq_emod_of_nonneg i (by lia)];exact q)
theorem x1t:OpR X (Hd .Pow) (rI CPow fun i j=>.int (i^j.toNat)):=opI fun _ _ _ _ _ _ _ e q=>pow_int_small e.1 e.2.1 e.2.2 q
theorem x2w:OpR X (inplaceOp .Add) (rI0 fun i j=>.int (i+j)):=opI0 fun _ _ _ _ _ _ _ q=>iadd_int q
theorem unI{g:Int->Int}(e:∀(i:Int) (t:Tok) (s:Ag) (Q:Value->Ag->Prop) (E:Value->Ag->Prop),Q (.int (g i) s.toks) { s with toks:=s.toks+1 }->wpAny (model X.prog X.w) X.A (f (.int i t)) Q E s):
  UnR X f (rU fun i=>.int (g i)):=by
 intro j s B H x v Q I u h;obtain⟨i,rfl,q⟩:=h;obtain⟨t,rfl⟩:=u;exact e i t s _ _ ⟨.int (g i),H,I.tok _,⟨_,rfl⟩,q⟩
theorem q0x:UnR X (unaryOp .USub) (rU fun i=>.int (-i)):=unI fun _ _ _ _ _ q=>neg_int q
end
noncomputable def scal:V->V->Bool
 |.non,.non=>true|.non,.int _=>true|.int _,.non=>true|.non,.bl _=>true|.bl _,.non=>true|.non,.str _=>true|.str _,.non=>true
 |.int _,.int _=>true|.bl _,.bl _=>true|.str _,.str _=>true|.byt _,.byt _=>true
 |.int _,.str _=>true|.str _,.int _=>true|.bl _,.str _=>true|.str _,.bl _=>true
 |_,_=>false
noncomputable def rEq:R2:=fun x y H Q=>scal x y=true/\Q (.bl (decide (x=y))) H
noncomputable def rNe:R2:=fun x y H Q=>scal x y=true/\Q (.bl (!decide (x=y))) H
theorem z6j:decide (V.int i=V.int j)=(i==j):=by
 rw[Nk];simp
theorem x1u:decide (V.bl i=V.bl j)=(i==j):=by
 rw[Nk];simp
theorem dec_str:decide (V.str i=V.str j)=(i==j):=by
 rw[Nk];simp
theorem z6k:decide (V.byt i=V.byt j)=(i.toList==j.toList):=by
 rw[Nk];cases i;cases j;simp
section
variable{X:Cx}{a b c:Expr}{ta tb tc:TE}{pos:Pos}
theorem q0v{f:St}(I:Inv X pins f H s)(q:Q (.bl k) H)(e:k=k'):EP X pins f Q (.bool k') s:=by
 subst e;exact⟨.bl k,H,I,rfl,q⟩
theorem op_eq:OpR X (Dg .Eq) rEq:=by
 intro B s C H x y v u Q I g e h;obtain⟨hs,q⟩:=h;cases x with
 |non =>
  cases g;cases y with
  |non=>cases e;exact PySem.EqNone.eq_none_none (q0v I q (by simp))
  |bl j=>cases e;exact PySem.EqNone.eq_none_bool (q0v I q (by simp))
  |int j=>obtain⟨f,rfl⟩:=e;exact PySem.EqNone.eq_none_int (q0v I q (by simp))
  |str j=>obtain⟨f,rfl⟩:=e;exact PySem.EqNone.eq_none_str (q0v I q (by simp))
  |_=>exact absurd (show false=true from hs) Bl
 |bl i =>
  cases g;cases y with
  |non=>cases e;exact PySem.EqNone.eq_bool_none (q0v I q (by simp))
  |bl j=>cases e;exact eq_bool (q0v I q x1u)
  |str j=>obtain⟨f,rfl⟩:=e;exact PySem.EqMixed.eq_bool_str (q0v I q (by simp))
  |_=>exact absurd (show false=true from hs) Bl
 |int i =>
  obtain⟨t,rfl⟩:=g;cases y with
  |non=>cases e;exact PySem.EqNone.eq_int_none (q0v I q (by simp))
  |int j=>obtain⟨f,rfl⟩:=e;exact eq_int (q0v I q z6j)
  |str j=>obtain⟨f,rfl⟩:=e;exact PySem.EqMixed.eq_int_str (q0v I q (by simp))
  |_=>exact absurd (show false=true from hs) Bl
 |str i =>
  obtain⟨t,rfl⟩:=g;cases y with
  |non=>cases e;exact PySem.EqNone.eq_str_none (q0v I q (by simp))
  |bl j=>cases e;exact PySem.EqMixed.eq_str_bool (q0v I q (by simp))
  |int j=>obtain⟨f,rfl⟩:=e;exact PySem.EqMixed.eq_str_int (q0v I q (by simp))
  |str j=>obtain⟨f,rfl⟩:=e;exact eq_str (q0v I q dec_str)
  |_=>exact absurd (show false=true from hs) Bl
 |byt i =>
  obtain⟨t,rfl⟩:=g;cases y with
  |byt j=>obtain⟨f,rfl⟩:=e;exact W.eq_bytes (q0v I q z6k)
  |_=>exact absurd (show false=true from hs) Bl
 |_=>cases y<;>exact absurd (show false=true from hs) Bl
theorem op_ne:OpR X (Dg .NotEq) rNe:=by
 intro B s C H x y v u Q I g e h;obtain⟨hs,q⟩:=h;cases x with
 |non =>
  cases g;cases y with
  |non=>cases e;exact PySem.EqNone.ne_none_none (q0v I q (by simp))
  |bl j=>cases e;exact PySem.EqNone.ne_none_bool (q0v I q (by simp))
  |int j=>obtain⟨f,rfl⟩:=e;exact PySem.EqNone.ne_none_int (q0v I q (by simp))
  |str j=>obtain⟨f,rfl⟩:=e;exact PySem.EqNone.ne_none_str (q0v I q (by simp))
  |_=>exact absurd (show false=true from hs) Bl
 |bl i =>
  cases g;cases y with
  |non=>cases e;exact PySem.EqNone.ne_bool_none (q0v I q (by simp))
  |bl j=>cases e;exact ne_bool (q0v I q (congrArg not x1u))
  |str j=>obtain⟨f,rfl⟩:=e;exact PySem.EqMixed.ne_bool_str (q0v I q (by simp))
  |_=>exact absurd (show false=true from hs) Bl
 |int i =>
  obtain⟨t,rfl⟩:=g;cases y with
  |non=>cases e;exact PySem.EqNone.ne_int_none (q0v I q (by simp))
  |int j=>obtain⟨f,rfl⟩:=e;exact ne_int (q0v I q (congrArg not z6j))
  |str j=>obtain⟨f,rfl⟩:=e;exact PySem.EqMixed.ne_int_str (q0v I q (by simp))
  |_=>exact absurd (show false=true from hs) Bl
 |str i =>
  obtain⟨t,rfl⟩:=g;cases y with
  |non=>cases e;exact PySem.EqNone.ne_str_none (q0v I q (by simp))
  |bl j=>cases e;exact PySem.EqMixed.ne_str_bool (q0v I q (by simp))
  |int j=>obtain⟨f,rfl⟩:=e;exact PySem.EqMixed.ne_str_int (q0v I q (by simp))
  |str j=>obtain⟨f,rfl⟩:=e;exact ne_str (q0v I q (congrArg not dec_str))
  |_=>exact absurd (show false=true from hs) Bl
 |byt i =>
  obtain⟨t,rfl⟩:=g;cases y with
  |byt j=>obtain⟨f,rfl⟩:=e;exact W.ne_bytes (q0v I q (congrArg not z6k))
  |_=>exact absurd (show false=true from hs) Bl
 |_=>cases y<;>exact absurd (show false=true from hs) Bl
theorem z9o:OpR X (Dg .Lt) (rI0 fun i j=>.bl (decide (i<j))):=opB0 fun _ _ _ _ _ _ _ q=>lt_int q
theorem op_gt:OpR X (Dg .Gt) (rI0 fun i j=>.bl (decide (j<i))):=opB0 fun _ _ _ _ _ _ _ q=>gt_int q
theorem op_in_str:OpR X (Dg .In) (fun x y H Q=>∃i j,x=.str i/\y=.str j/\Q (.bl (!(Qq j i 0 j.length 1).isEmpty)) H):=by
 intro e s B H x y v u Q I f g h;obtain⟨i,j,rfl,rfl,q⟩:=h;obtain⟨t,rfl⟩:=f;obtain⟨C,rfl⟩:=g;exact in_str (q0v I q rfl)
theorem OpR.or(h:OpR X f r)(h':OpR X f r'):OpR X f (fun x y H Q=>r x y H Q\/r' x y H Q):=by
 intro e s g H x y v u Q I j B q;rcases q with q|q
 ·exact h e s g H x y v u Q I j B q
 ·exact h' e s g H x y v u Q I j B q
theorem nomark(b:Expr)(h:op≠.In:=by decide)(g:op≠.NotIn:=by decide):Hw op b=false:=by
 have e:(op==CmpOp.In)=false:=by grind
 have f:(op==CmpOp.NotIn)=false:=by grind
 cases b<;>simp[Hw,e,f]
theorem q6r{op:CmpOp}{r:R2}(f:OpR X (Dg op) r)(ha:PE X a ta)(g:PE X b tb)(j:Hw op b=false):PE X (.Compare a [op] [b] pos) (tOp r ta tb):=by
 intro e s B H Q I h;exact wpAny_Compare1 (binT ha g I h fun v u C x y D E G J q=>f e C B D x y v u Q E G J q) j
noncomputable def tTest(t:TE):TT:=fun σ H Q=>t σ H fun x H'=>∃k,x=.bl k/\Q k H'
theorem q0n{op:CmpOp}{r:R2}(j:OpR X (Dg op) r)(ha:PE X a ta)(q:PE X b tb)(B:Hw op b=false):PT X (.Compare a [op] [b] pos) (tTest (tOp r ta tb)):=by
 intro f s g H Q I h;refine Ry (thn (ha f s g H _ I h) fun v C ⟨x,D,E,G,J⟩=>thn (q f C g D _ E J) fun u L ⟨y,M,O,P,R⟩ =>
  thn (j f L g M x y v u _ O G P R) fun c Y ⟨z,S,T,U,k,e,W⟩=>?_) B
 subst e;cases U;exact Dn ⟨S,T,W⟩
noncomputable def TruV(K:Aq)(x:V)(H:Hp)(k:Bool):Prop :=
 match x with
 |.non=>k=false
 |.bl b=>k=b
 |.int i=>k=(i != 0)
 |.str y=>y.length<=sizeLine/\k=((y.length:Int) != 0)
 |.byt y=>y.size<=sizeLine/\k=((y.size:Int) != 0)
 |.ref p=>(∃xs,SqL K H p xs/\k = !xs.isEmpty)\/(∃xs,SqT K H p xs/\k = !xs.isEmpty)\/∃kvs,H p=some (.dK kvs)/\k = !kvs.isEmpty
 |_=>False
theorem z4v{kvs:List (κ×V)}{vs:List (κ×Value)}(r:KV kvs vs):(!vs.isEmpty) = !kvs.isEmpty:=by
 cases r<;>rfl
theorem q7w(r:Vals xs its):(!its.toArray.isEmpty) = !xs.isEmpty:=by
 cases r<;>simp
theorem line63:(sizeLine:Nat)<2^63:=by rw[Dy];decide
theorem tru_ok:TruR X (fun x H Q=>∃k,TruV X.K x H k/\Q k H):=by
 intro D s L H x v Q I j h;obtain⟨k,e,q⟩:=h;have hs:=Dy;cases x with
 |non =>
  cases j;have f:=e;subst f;exact truthy_none ⟨H,I,q⟩
 |bl b =>
  cases j;have f:=e;subst f;exact Dn ⟨H,I,q⟩
 |int i =>
  obtain⟨t,rfl⟩:=j;have f:=e;subst f;exact PySem.P.truthy_int ⟨H,I,q⟩
 |str y =>
  obtain⟨t,rfl⟩:=j;obtain⟨G,f⟩:y.length<=sizeLine/\k=((y.length:Int) != 0):=e;subst f;exact PySem.P.truthy_str (by lia) ⟨H,I.tok _,q⟩
 |byt y =>
  obtain⟨t,rfl⟩:=j;obtain⟨G,f⟩:y.size<=sizeLine/\k=((y.size:Int) != 0):=e;subst f;exact W.truthy_bytes (by lia) ⟨H,I.tok _,q⟩
 |ref p =>
  cases j;have f:=e;rcases f with⟨xs,u,f⟩|⟨xs,u,f⟩|⟨B,u,f⟩
  ·subst f;obtain⟨C,r,pl,E⟩:=I.list u;have g:=r.length;exact wpAny_truthy_list pl.isList (by simp only[Be];lia) ⟨H,I.tok _,by rw[q7w r];exact q⟩
  ·subst f;obtain⟨C,r,pl,E⟩:=I.tuple u;have g:=r.length;exact truthy_tuple pl (by simp only[Be];lia) ⟨H,I.tok _,by rw[q7w r];exact q⟩
  ·subst f;obtain⟨E,J,vs,r,m⟩:B.length<=sizeLine/\(p==Eb)=false/\∃vs,KV B vs/\s.heap.DictOf (mixKind X.prog X.w) p vs:=I.hok p _ u;have g:=Ez r;exact wpAny_truthy_dict J m (by lia) ⟨H,I.tok _,by rw[z4v r];exact q⟩
 |_=>exact(show False from e).elim
theorem z9p(ha:PE X a ta)(j:∀e,isTrue a X.env e=(do let v<-e;Qa a.pos;Ll [v] (truthy v))):
  PT X a (fun g H Q=>ta g H fun x H'=>∃k,TruV X.K x H' k/\Q k H'):=by
 intro f s g H Q I h;exact isTrue_plain (thn (ha f s g H _ I h) fun v q ⟨x,u,B,C,D⟩=>tru_ok f q g u x v Q B C D) (j _)
theorem op_add_str:OpR X (Hd .Add) (fun x y H Q=>∃i j,x=.str i/\y=.str j/\i.length+j.length<=sizeLine/\Q (.str (i++j)) H):=by
 intro e s D H x y v u Q I f g h;obtain⟨i,j,rfl,rfl,B,q⟩:=h;obtain⟨t,rfl⟩:=f;obtain⟨C,rfl⟩:=g;exact add_str (fun C tk=>⟨.str (i++j),H,I.tok _,⟨_,rfl⟩,q⟩) B
theorem vals1(r:Vals [x] us):∃u,us=[u]/\RelV x u:=by
 cases r with
 |cons r1 r2=>cases r2;exact⟨_,rfl,r1⟩
theorem vals2(r:Vals [x,y] us):∃u e,us=[u,e]/\RelV x u/\RelV y e:=by
 cases r with
 |cons r1 r2 =>
  cases r2 with
  |cons r3 r4=>cases r4;exact⟨_,_,rfl,r1,r3⟩
theorem z6l(g:X.calm=true):CallR X (.builtin "max") (fun xs H Q=>∃i j,xs=[.int i,.int j]/\Q (.int (if j>i then j else i)) H):=by
 intro f s v H xs B Q I r h;obtain⟨i,j,rfl,q⟩:=h;obtain⟨u,C,rfl,⟨t,rfl⟩,⟨D,rfl⟩⟩:=vals2 r;refine max_two_ints (I.ok.hd g) fun E tk k=>⟨_,H,I.kept k,?_,q⟩
 by_cases e:j>i
 ·rw[if_pos e,if_pos e];exact⟨_,rfl⟩
 ·rw[if_neg e,if_neg e];exact⟨_,rfl⟩
theorem z6m(g:X.calm=true):CallR X (.builtin "min") (fun xs H Q=>∃i j,xs=[.int i,.int j]/\Q (.int (if j<i then j else i)) H):=by
 intro f s v H xs B Q I r h;obtain⟨i,j,rfl,q⟩:=h;obtain⟨u,C,rfl,⟨t,rfl⟩,⟨D,rfl⟩⟩:=vals2 r;refine min_two_ints (I.ok.hd g) fun E tk k=>⟨_,H,I.kept k,?_,q⟩
 by_cases e:j<i
 ·rw[if_pos e,if_pos e];exact⟨_,rfl⟩
 ·rw[if_neg e,if_neg e];exact⟨_,rfl⟩
noncomputable def LenV(K:Aq)(x:V)(H:Hp)(n:Nat):Prop :=
 match x with
 |.str y=>y.length<=sizeLine/\n=y.length
 |.byt y=>y.size<=sizeLine/\n=y.size
 |.ref p=>(∃xs,SqL K H p xs/\n=xs.length)\/∃xs,SqT K H p xs/\n=xs.length
 |_=>False
theorem z9q:CallR X (.builtin "len") (fun xs H Q=>∃x n,xs=[x]/\LenV X.K x H n/\Q (.int n) H):=by
 intro D s J H xs L Q I r h;obtain⟨x,n,rfl,e,q⟩:=h;obtain⟨u,rfl,j⟩:=vals1 r;have hs:=Dy;cases x with
 |str y =>
  obtain⟨t,rfl⟩:=j;obtain⟨E,g⟩:y.length<=sizeLine/\n=y.length:=e;subst g;exact len_str (by lia) ⟨.int _,H,I.tok _,⟨_,rfl⟩,q⟩
 |byt y =>
  obtain⟨t,rfl⟩:=j;obtain⟨E,g⟩:y.size<=sizeLine/\n=y.size:=e;subst g;exact W.len_bytes (by lia) ⟨.int _,H,I.tok _,⟨_,rfl⟩,q⟩
 |ref p =>
  cases j;have g:=e;rcases g with⟨xs,v,g⟩|⟨xs,v,g⟩
  ·subst g;obtain⟨B,C,pl,G⟩:=I.list v;have f:=C.length;exact Calls.call_len_list pl.isList (by simp only[Be];lia) ⟨.int xs.length,H,I.tok _,⟨_,by simp only[Be];rw[f]⟩,q⟩
  ·subst g;obtain⟨B,C,pl,G⟩:=I.tuple v;have f:=C.length;exact len_tuple pl (by simp only[Be];lia) ⟨.int xs.length,H,I.tok _,⟨_,by simp only[Be];rw[f]⟩,q⟩
 |_=>exact(show False from e).elim
end
structure ObjM (h:Heap) (x dx C:Addr) (mA:Str->Option Value):Prop where
 obj:h.get? x=some (Kt C dx)
 ns:h.Ns1 dx mA
 ne:dx≠x
theorem z6n{h:Heap}(n:h.Ns1 dx mA):∃g,h.get? dx=some g/\∀name,Vj name g=some (mA name):=by
 obtain⟨o,j,B,s,hd,hk,_,u⟩:=n;refine⟨o,s,fun name=>?_⟩;have e:=u name;unfold nsFind findBy at e;rw[<- Array.find?_toList] at e;unfold Vj;rw[hd];dsimp only;split
 ·grind
 ·rename_i q;rw[q] at e;have a:j.toList.any (·.refKey)=false:=by
   rw[Uq];intro y v;obtain⟨z,t,f⟩:=hk y (Array.mem_toList_iff.mp v);simp[Oo.refKey,f]
  have a':¬j.toList.any (·.refKey)=true:=by grind
  rw[if_neg a'];exact congrArg some e
theorem ObjM.look(I:ObjM h x dx C mA):∃e,W.InstAt h x (Kt C dx) C (some e)/\∀name,Vj name e=some (mA name) :=
 let ⟨e,f,hl⟩:=z6n I.ns
 ⟨e,⟨I.obj,rfl,rfl,f⟩,hl⟩
section
variable{prog:Ay}{w:World}{A:Around}{E:Value->Ag->Prop}{s:Ag}{K:Aq}{x dx C f:Addr}{mA:Str->Option Value}{name:Str}{v:Value}
theorem x2x(X:K.In s.heap)(I:ObjM s.heap x dx C mA)(f:Pp K C name=true)(g:Rh K C=true)(ha:Gu K (.ref C) name=some none)(j:mA name=some v)(e:W.handedIn v=true)(h:Q v { s with toks:=s.toks+1 }):
  wpAny (model prog w) A (getAttr (.ref x) name expr) Q E s:=by
 obtain⟨q,J,hl⟩:=I.look;exact W.get_value X J (Td f).1 (W.findObj_own g ha rfl (by rw[hl,j])) e h
theorem z9r(X:K.In s.heap)(I:ObjM s.heap x dx C mA)(e:Pp K C name=true)(g:Gu K (.ref C) name=some (some (.ref f)))(j:We K (.ref f)=true)(q:mA name=none)(h:Q (.ref f,[.ref x]) s):
  wpAny (model prog w) A (Oq (.ref x) name pl) Q E s:=by
 obtain⟨u,J,hl⟩:=I.look;exact W.method_fn X J (Td e).1 (Td e).2 g (beq_iff_eq.mp j) (by show(Vj name u).map (·.isSome)=some false;rw[hl,q];rfl) h
theorem x2y(X:K.In s.heap)(I:ObjM s.heap x dx C mA)(hs:Gu K (.ref C) "__setattr__" = some (some (.builtin "object.__setattr__")))(B:Vd K C=true)(D:Wt K C name=some none)(G:Rh K C=true)(H:Qc mA ns)(L:ns.length<=sizeLine)(h:∀h',ObjM h' x dx C (fun y=>if y=name then some v else mA y)->Gi dx s.heap h'->Q () { s with heap:=h',toks:=s.toks+2 }):
  wpAny (model prog w) A (setAttr (.ref x) name v) Q E s:=by
 obtain⟨S,J,hl⟩:=I.look;refine W.set_plain X J hs (W.osa_open X J B D fun b=>?_);obtain⟨T,M,g⟩:=W.any_some G;have O:=I.obj;refine Ab (Ad (Ab (Ab (wpAny_loadPart O (Ab (W.Looks.here (W.looks_clsIn X M) ?_))))));rw[g];refine Ad (Ab (Ad (Ab ?_)));refine wpAny_nsSet1 I.ns fun h' e f=>?_
 obtain⟨U,P,R,j,q,u⟩:=e.count (Qc.cons name v H);refine Ab (wpAny_lookBehind j (by rw[q];exact pastItsLine_dict (Ce u (by rw[Cg];lia))) ?_);exact Ad (h _ ⟨(f.2 _ (Ei I.ne)).trans I.obj,e,I.ne⟩ f)
theorem z9s(X:K.In s.heap)(e:Wu K C=true)(g:Gu K (.ref C) "__init__" = some (some (.ref f)))(j:W.typeIn K (.ref f)=some (.type "function"))(h:Fu (model prog w) (A.under (.builtin "type.__call__" ⟨.ref C::vs,kw⟩)) (.call (.ref f) ⟨.ref (s.heap.objs.size+1)::vs,kw⟩) (W.InitBack (s.heap.objs.size+1) R)
   { s with heap:=(s.heap.push Ie).push (Kt C s.heap.objs.size) }):
  Fu (model prog w) A (.call (.ref C) ⟨vs,kw⟩) R s:=by
 exact W.make_core (W.makes_of X e) (W.looks_findIn X g) (fun self=>W.bind_fn X self j) (.inl rfl) h
end
noncomputable def putF(f:Str)(v:V):List (Str×V)->List (Str×V)
 |[]=>[(f,v)]
 |(g,x)::r=>if g=f then(g,v)::r else(g,x)::putF f v r
theorem q6s(f g:Str)(v:V):∀fs:List (Str×V),(putF f v fs).lookup g=if g=f then some v else fs.lookup g
 |[]=>by
  show List.lookup g [(f,v)]=_;by_cases h:g=f
  ·have j:(g==f)=true:=beq_iff_eq.mpr h;simp only[List.lookup,j,if_pos h]
  ·simp_all
 |(k,x)::r=>by
  have q:=q6s f g v r;rw[show putF f v ((k,x)::r)=(if k=f then(k,v)::r else(k,x)::putF f v r) from rfl];by_cases hk:k=f
  ·rw[if_pos hk];by_cases h:g=k
   ·simp_all
   ·have j:(g==k)=false:=beq_eq_false_iff_ne.mpr h;simp only[List.lookup,j,if_neg (fun e:g=f=>h (e.trans hk.symm))]
  ·rw[if_neg hk];by_cases h:g=k
   ·simp_all
   ·have j:(g==k)=false:=beq_eq_false_iff_ne.mpr h;simp only[List.lookup,j];exact q
theorem q6t(f:Str)(v:V):∀fs:List (Str×V),f∈(putF f v fs).map (·.1)/\∀g,g∈fs.map (·.1)->g∈(putF f v fs).map (·.1)
 |[]=>⟨by simp[putF],fun g h=>by simp at h⟩
 |(k,x)::r=>by
  obtain⟨e,j⟩:=q6t f v r;rw[show putF f v ((k,x)::r)=(if k=f then(k,v)::r else(k,x)::putF f v r) from rfl];by_cases hk:k=f
  ·grind
  ·grind
theorem q6u(f:Str)(v:V):∀fs:List (Str×V),(putF f v fs).length<=fs.length+1
 |[]=>by simp[putF]
 |(k,x)::r=>by
  have e:=q6u f v r;rw[show putF f v ((k,x)::r)=(if k=f then(k,v)::r else(k,x)::putF f v r) from rfl];by_cases hk:k=f
  ·grind
  ·grind
theorem RelO.some_of(r:RelO (some v) o):∃u,o=some u/\RelV v u:=by
 cases o with
 |none=>exact(show False from r).elim
 |some u=>exact⟨u,rfl,r⟩
theorem RelO.none_of(r:RelO none o):o=none:=by
 cases o with
 |none=>rfl
 |some u=>exact(show False from r).elim
theorem z6o(r:RelV v u):W.handedIn u=true:=by
 cases v with
 |non=>cases(show u=Value.none from r);rfl
 |bl b=>cases(show u=Value.bool b from r);rfl
 |int i=>obtain⟨t,e⟩:=(show ∃t,u=Value.int i t from r);cases e;rfl
 |str x=>obtain⟨t,e⟩:=(show ∃t,u=Value.str x t from r);cases e;rfl
 |byt b=>obtain⟨t,e⟩:=(show ∃t,u=Value.bytes b t from r);cases e;rfl
 |flt b=>obtain⟨t,e⟩:=(show ∃t,u=Value.float b t from r);cases e;rfl
 |ref a=>cases(show u=Value.ref a from r);rfl
 |ty n=>cases(show u=Value.type n from r);rfl
section
variable{P:Ay}{w:World}{H H':Hp}{h h':Heap}{a C dx:Addr}{fs fs':List (Str×V)}
theorem z2n(hok:HOk P w H h)(e:H a=some (.ins C dx fs)):∃g,ObjM h a dx C g/\(∀f,RelO (fs.lookup f) (g f))/\Qc g (fs.map (·.1))/\fs.length<=1000/\H dx=some (.own a):=by
 obtain⟨d,z,ne,j,g,n,r,q⟩:=(show ObjOk P w H h a (.ins C dx fs) from hok a _ e)
 exact⟨g,⟨j,n,ne⟩,r,q,z,d⟩
end
structure Cls (K:Aq) (C:Addr):Prop where
 pg:Pp K C Str.empty=true
 hd:Rh K C=true
 po:Vd K C=true
 sa:Gu K (.ref C) "__setattr__" = some (some (.builtin "object.__setattr__"))
theorem Cls.get{K:Aq}(c:Cls K C)(f:Str):Pp K C f=true:=c.pg
noncomputable def NoAttr(K:Aq)(C:Addr)(f:Str):Prop:=Gu K (.ref C) f=some none
theorem NoAttr.taker{K:Aq}(n:NoAttr K C f):Wt K C f=some none:=by
 unfold Wt;rw[show Gu K (.ref C) f=some none from n];rfl
structure Meth (K:Aq) (C:Addr) (m:Str) (f:Addr):Prop where
 at_:Gu K (.ref C) m=some (some (.ref f))
 fn:We K (.ref f)=true
 kp:Ih K (.ref f)=true
section
variable{X:Cx}{pins:List (Addr×Obj)}{σ:St}{H:Hp}{s:Ag}{a C dx:Addr}{fs:List (Str×V)}{f:Str}{v:V}{A:Around}{E:Value->Ag->Prop}
theorem z4w(I:Inv X pins σ H s)(e:H a=some (.ins C dx fs))(c:Cls X.K C)(n:NoAttr X.K C f)(l:fs.lookup f=some v)(h:∀u g,Inv X pins σ H g->RelV v u->Q u g):wpAny (model X.prog X.w) A (getAttr (.ref a) f b) Q E s:=by
 obtain⟨B,O,r,_,_,_⟩:=z2n I.hok e;obtain⟨u,q,j⟩:=RelO.some_of (by rw[<- l];exact r f);exact x2x I.kIn O (c.get f) c.hd n q (z6o j) (h u _ (I.tok _) j)
theorem q7x(I:Inv X pins σ H s)(e:H a=some (.ins C dx fs))(c:Cls X.K C)(k:Meth X.K C m g)(l:fs.lookup m=none)(h:Q (.ref g,[.ref a]) s):wpAny (model X.prog X.w) A (Oq (.ref a) m pl) Q E s:=by
 obtain⟨j,O,r,_,_,_⟩:=z2n I.hok e;have f:=RelO.none_of (by rw[<- l];exact r m);exact z9r I.kIn O (c.get m) k.at_ k.fn f h
theorem z4x(I:Inv X pins σ H s)(e:H a=some (.ins C dx fs))(c:Cls X.K C)(n:NoAttr X.K C f)(hl:fs.length<1000)(J:RelV y u)(h:∀v,Inv X pins σ (upd H a (.ins C dx (putF f y fs))) v->Q () v):wpAny (model X.prog X.w) A (setAttr (.ref a) f u) Q E s:=by
 obtain⟨B,O,r,D,_,G⟩:=z2n I.hok e;have L:(fs.map (·.1)).length<=sizeLine:=by rw[Aa,Dy];lia
 refine x2y I.kIn O c.sa c.po n.taker c.hd D L fun M j P=>h _ ?_;have hd:∃o,M.get? dx=some o:=let ⟨o,_,_,R,_⟩:=j.ns;⟨o,R⟩;refine I.write (by rw[e];exact True.intro) (.inr G) (fun b q S z=>(P.2 b S).trans z) hd ?_;refine⟨by rw[q0d O.ne];exact G,?_,O.ne,j.obj,_,j.ns,fun g=>?_,fun g T=>?_⟩
 ·have:=q6u f y fs;lia
 ·show RelO ((putF f y fs).lookup g) (if g=f then some u else B g);rw[q6s];by_cases q:g=f
  ·rw[if_pos q,if_pos q];exact J
  ·grind
 ·by_cases q:g=f
  ·rw[q];exact(q6t f y fs).1
  ·refine(q6t f y fs).2 g (D g fun z=>T ?_);show(if g=f then some u else B g)=none;rw[if_neg q];exact z
theorem Inv.made(I:Inv X pins σ H s):Inv X pins σ (upd (upd H s.heap.objs.size (.own (s.heap.objs.size+1))) (s.heap.objs.size+1) (.ins C s.heap.objs.size []))
  { s with heap:=(s.heap.push Ie).push (Kt C s.heap.objs.size) }:=by
 have f:(s.heap.push Ie).get? s.heap.objs.size=some Ie:=Aw s.heap rfl;have g:((s.heap.push Ie).push (Kt C s.heap.objs.size)).get? (s.heap.objs.size+1)=some (Kt C s.heap.objs.size):=by
  have:=Aw (s.heap.push Ie) (o:=Kt C s.heap.objs.size) rfl
  rwa [Fv] at this
 have h:(s.heap.push Ie).Ns s.heap.objs.size (fun _=>none):=⟨Ie,#[],_,f,rfl,(fun e j=>absurd j (by simp)),fun _=>rfl⟩
 have v:=I.laid (o:=.own (s.heap.objs.size+1)) (h':=s.heap.push Ie) (t':=s.toks) (fun b u q=>Ai _ q) (Au _) ⟨_,f⟩;refine v.laid (t':=s.toks) (fun b u q=>Ai _ q) (Kx (Fv _ _)) ?_;have ne:s.heap.objs.size≠s.heap.objs.size+1:=Bj (He _);refine⟨by rw[q0d ne,q0b],Bf _,ne,g,fun _=>none,(Heap.Ns1.of_empty h).at fun o q=>Ai _ q,fun _=>True.intro,fun y B=>absurd rfl B⟩
theorem x2z(j:Gz e f env (eval e env)=eval e env)(h:wpAny (model prog w) A (eval e env) (fun o g=>wpAny (model prog w) A (getAttr o f true) Q E g) E s):wpAny (model prog w) A (eval (.Attribute e f pos) env) Q E s :=
 Attribute_any_ h (by rw[arm_eval_Attribute,j])
end
noncomputable def tFld(K:Aq)(ta:TE)(f:Str):TE:=fun σ H Q=>ta σ H fun x H1=>∃a C dx fs v,x=.ref a/\H1 a=some (.ins C dx fs)/\Cls K C/\NoAttr K C f/\fs.lookup f=some v/\Q v H1
noncomputable def sFld(K:Aq)(ta tv:TE)(f:Str):TS:=fun D σ H=>tv σ H fun y H1=>ta σ H1 fun x H2=>∃a C dx fs,x=.ref a/\H2 a=some (.ins C dx fs)/\Cls K C/\NoAttr K C f/\fs.length<1000 /\
 D.nx σ (upd H2 a (.ins C dx (putF f y fs)))
section
variable{X:Cx}{o e value:Expr}{f:Str}{pos pos' tpos:Pos}{ta tv:TE}
theorem pe_fld(j:PE X e ta)(B:Gz e f X.env (eval e X.env)=eval e X.env):PE X (.Attribute e f pos) (tFld X.K ta f):=by
 intro g s D H Q I h;refine x2z B (thn (j g s D H _ I h) fun u P ⟨x,E,G,J,a,C,R,fs,v,ex,L,c,n,l,q⟩=>?_);subst ex;obtain rfl:u=Value.ref a:=J;exact z4w G L c n l fun S T M O=>⟨v,E,M,O,q⟩
theorem ps_fld(ha:PE X o ta)(j:PE X value tv)(hs:Ku value (some (.Attribute o f pos')) pos.line X.env=pure false):PS X (.Assign [.Attribute o f pos'] value pos) (sFld X.K ta tv f):=by
 intro e s g H D I h;refine plainObj_wpAny_Assign_Attribute (thn (j e s g H _ I h) fun u v ⟨y,B,E,G,q⟩=>thn (ha e v g B _ E q) fun J R ⟨x,S,L,M,a,C,T,fs,ex,O,c,n,l,P⟩=>?_) hs;subst ex;obtain rfl:J=Value.ref a:=M;exact z4x L O c n l G fun U Q=>⟨g,_,Q,P⟩
end
section
variable{X:Cx}{pins:List (Addr×Obj)}{σ:St}{H:Hp}{s:Ag}{A:Around}{E:Value->Ag->Prop}{Q:Value->Ag->Prop}{c:Value}{b:Bool}
inductive TyOf (K:Aq) (H:Hp):V->Value->Prop where
 |non:TyOf K H .non (.type "NoneType")
 |bl (x:Bool):TyOf K H (.bl x) (.type "bool")
 |int (i:Int):TyOf K H (.int i) (.type "int")
 |str (x:Str):TyOf K H (.str x) (.type "str")
 |flt (x:UInt64):TyOf K H (.flt x) (.type "float")
 |lst {a:Addr} {xs:List V} (e:H a=some (.lst xs)):TyOf K H (.ref a) (.type "list")
 |frz {a:Addr} {o:Obj} {xs:List V} (e:H a=some (.frz o (.lst xs))):TyOf K H (.ref a) (.type "list")
 |tup {a:Addr} {xs:List V} (e:H a=some (.tup xs)):TyOf K H (.ref a) (.type "tuple")
 |dK {a:Addr} {kvs:List (Key×V)} (e:H a=some (.dK kvs)):TyOf K H (.ref a) (.type "dict")
 |dT {a:Addr} {kvs:List (List Key×V)} (e:H a=some (.dT kvs)):TyOf K H (.ref a) (.type "dict")
 |ins {a C dx:Addr} {fs:List (Str×V)} (e:H a=some (.ins C dx fs)) (cl:Cls K C) (ha:Gu K (.ref C) "__class__" = some (some (.builtin "object.__class__")))
   (hn:W.specialIn K (.builtin "object.__class__") "__get__" = some (some (.builtin "getset_descriptor.__get__"))) (htk:W.takesIn K (.builtin "object.__class__")=some true)
   (hm:W.mroIn K C (.type "object")=some true):TyOf K H (.ref a) (.ref C)
end
structure Room (k:Nat) (A:Around):Prop where
 hd:A.handled=none
 dp:A.depth+3*k+5<recursionLimit
 un:A.units+16*k+200<cLine
 gd:A.guards=some []
theorem Room.mono(r:Room k A)(h:j<=k):Room j A:=⟨r.hd,by have:=r.dp;lia,by have:=r.un;lia,r.gd⟩
theorem Room.deeper(r:Room (k+1) A)(env:Env):Room k (A.deeper env) :=
 ⟨r.hd,by have:=r.dp;show A.depth+1+3*k+5<_;lia,by have:=r.un;show A.units+3+16*k+200<_;lia,r.gd⟩
theorem z4y{A:Around}:(A.under (.builtin "type.__call__" ⟨.ref C::us,kw⟩)).depth=A.depth+1:=by
 first|rfl|simp[Qe,Code.weight,Code.isCreation,Code.isGuard,Code.isCaller,Code.frames,Tw,guardIds]
theorem z4z{A:Around}:(A.under (.builtin "type.__call__" ⟨.ref C::us,kw⟩)).units=A.units+1:=by
 first|rfl|simp[Qe,Code.cUnits,Code.frames,Tw]
theorem make_guards{A:Around}:(A.under (.builtin "type.__call__" ⟨.ref C::us,kw⟩)).guards=A.guards:=by
 have:(Code.builtin "type.__call__" ⟨.ref C::us,kw⟩).guards=[]:=by simp[Code.guards,Code.isGuard,guardIds]
 unfold Qe;rw[this];cases e:A.guards<;>simp[pushGuards,e]
theorem Room.make(r:Room (k+1) A)(C:Addr)(e:List Value)(f:List (Str×Value)):Room k (A.under (.builtin "type.__call__" ⟨.ref C::e,f⟩)) :=
 ⟨r.hd,by have:=r.dp;rw[z4y];lia,by have:=r.un;rw[z4z];lia,make_guards.trans r.gd⟩
theorem Room.depth(r:Room k A):A.depth<recursionLimit:=by have:=r.dp;lia
theorem Room.units(r:Room k A):A.units+64<cLine:=by have:=r.un;lia
noncomputable def tNil:TA:=fun _ H Q=>Q [] H
noncomputable def tCons(ta:TE)(tr:TA):TA:=fun σ H Q=>ta σ H fun x H1=>tr σ H1 fun xs H2=>Q (x::xs) H2
section
variable{X:Cx}{e:Expr}{es:List Expr}{te:TE}{t:TA}{pos:Pos}
theorem q0c:PA X [] tNil:=fun _ _ _ _ H Q I h=>Pj ⟨[],H,I,.nil,h⟩
theorem q0a(ha:PE X e te)(q:PA X es t)(hs:Bk (e::es) X.env=(false,eval e X.env)::Bk es X.env:=by rfl):PA X (e::es) (tCons te t):=by
 intro g f s j H Q I h;rw[hs];refine Ky (thn (ha f s j H _ I h) fun u v ⟨x,B,C,D,E⟩=>?_);exact thn (q g f v j B _ C E) fun O P ⟨xs,G,J,L,M⟩=>⟨x::xs,G,J,.cons D L,M⟩
noncomputable def tTup(t:TA):TE:=fun σ H Q=>t σ H fun xs H1=>xs.length<=sizeLine/\∀p,H1 p=none->Q (.ref p) (upd H1 p (.tup xs))
noncomputable def tLst(t:TA):TE:=fun σ H Q=>t σ H fun xs H1=>xs.length<=sizeLine/\∀p,H1 p=none->Q (.ref p) (upd H1 p (.lst xs))
theorem q1e{x1}(h:PA X es t):PE X (.Tuple es x1 pos) (tTup t):=by
 intro f s v H Q I B;refine wpAny_Tuple_spliced (thn (h pos f s v H _ I B) fun C g ⟨xs,D,j,r,z,q⟩=>⟨by rw[<- r.length];exact z,?_⟩);have E:=j.hok.fresh (Au _);refine⟨.ref g.heap.objs.size,upd D g.heap.objs.size (.tup xs),j.laid (t':=g.toks) (fun b u e=>Ai _ e) (Au _) ?_,rfl,q _ E⟩;exact⟨z,C,r,⟨_,Aw _ rfl,rfl,_,rfl⟩⟩
theorem q2a(h:PA X es t):PE X (.List es pos) (tLst t):=by
 intro f s v H Q I B;refine wpAny_List_spliced (thn (h pos f s v H _ I B) fun C g ⟨xs,D,j,r,z,q⟩=>⟨by rw[<- r.length];exact z,?_⟩);have E:=j.hok.fresh (Au _);refine⟨.ref g.heap.objs.size,upd D g.heap.objs.size (.lst xs),j.laid (t':=g.toks) (fun b u e=>Ai _ e) (Au _) ?_,rfl,q _ E⟩;exact⟨z,C,0,r,Aw _ rfl⟩
end
noncomputable abbrev Sp:=List V->Hp->VK->XK->Prop
noncomputable abbrev CXT:=List Env->Hp->Ag->XK->Value->Ag->Prop
structure Env0 (P:Ay) (w:World) (K:Aq) (mg:Str->Option Value) (base:Heap) (A:Around) (outer:List Env) (s:Ag) (H:Hp):Prop where
 frames:A.frames=some outer
 mod:Mod K mg base
 bs:∀b o,base.get? b=some o->s.heap.get? b=some o/\H b=none
 bsz:base.objs.size<=s.heap.objs.size
 funs:s.heap.FunFrames base outer
 frf:∀b∈frs outer,H b=none
 hok:HOk P w H s.heap
 bare:Mu s.gens
noncomputable def CE(outer:List Env)(P:Ay)(w:World)(H:Hp)(s:Ag)(Q:VK)(u:Value)(s':Ag):Prop :=
 ∃v H',s'.os=s.os/\Mu s'.gens/\Un (frs outer) [] H H' s.heap s'.heap/\HOk P w H' s'.heap/\RelV v u/\Q v H'
noncomputable def CR(CX:CXT)(outer:List Env)(P:Ay)(w:World)(H:Hp)(s:Ag)(Q:VK)(E:XK)(r:Result)(s':Ag):Prop :=
 match r with
 |.ok (.ret u)=>CE outer P w H s Q u s'
 |.ok _=>False
 |.error e=>CX outer H s E e s'
structure FnOk (P:Ay) (w:World) (K:Aq) (mg:Str->Option Value) (base:Heap) (CX:CXT) (k:Nat) (f:Addr) (fd:Mo) (ps:List Str) (sp:Sp):Prop where
 len:∀vs H Q E,sp vs H Q E->vs.length=ps.length
 run:∀(A:Around) (outer:List Env) (s:Ag) (H:Hp) (args:Args) (us:List Value) (vs:List V) (Q:VK) (E:XK),Room k A->Env0 P w K mg base A outer s H->Sa s fd args (ps.zip us)->Vals vs us->sp vs H Q E ->
  Fu (model P w) A (.call (.ref f) args) (CR CX outer P w H s Q E) s
theorem FnOk.imp{K:Aq}(F:FnOk P w K mg base CX k f fd ps sp)(h:∀vs H Q E,sp' vs H Q E->sp vs H Q E):FnOk P w K mg base CX k f fd ps sp' :=
 ⟨fun vs H Q E q=>F.len vs H Q E (h _ _ _ _ q),fun A outer s H e g vs Q E j u v B hs=>F.run A outer s H e g vs Q E j u v B (h _ _ _ _ hs)⟩
theorem Env0.make{K:Aq}(e:Env0 P w K mg base A outer s H)(C:Addr)(f:List Value)(g:List (Str×Value)):
  Env0 P w K mg base (A.under (.builtin "type.__call__" ⟨.ref C::f,g⟩)) outer s H:=⟨by first|exact e.frames|(simpa[Qe,Code.envs,Tw,pushEnvs] using e.frames),e.mod,e.bs,e.bsz,e.funs,e.frf,e.hok,e.bare⟩
section
variable{X:Cx}{pins:List (Addr×Obj)}{σ:St}{H:Hp}{s s':Ag}
theorem Inv.env0(I:Inv X pins σ H s):Env0 X.prog X.w X.K X.mg X.base X.A X.stack s H :=
 ⟨I.ok.frames,I.ok.mod,I.bs,Ce I.ok.bsz I.sz,I.stack,I.stkFree,I.hok,I.bare⟩
theorem Inv.after(I:Inv X pins σ H s)(h:CE X.stack X.prog X.w H s Q u s'):EP X pins σ Q u s':=by
 obtain⟨v,f,os,bare,un,hok,r,q⟩:=h;obtain⟨j,g,d,t,e⟩:=s';obtain rfl:e=s.os:=os;exact⟨v,f,I.call (h':=j) (g':=g) (d':=d) (t':=t) un hok bare (fun b z=>absurd z (by simp)),r,q⟩
end
noncomputable def tCall(sp:Sp)(dvs:List V)(E:XK)(t:TA):TE:=fun σ H Q=>t σ H fun vs H1=>sp (vs++dvs) H1 Q E
noncomputable def tMeth(C:Addr)(m:Str)(sp:Sp)(dvs:List V)(E:XK)(ta:TE)(t:TA):TE:=fun σ H Q=>ta σ H fun x H1=>∃a dx fs,x=.ref a/\H1 a=some (.ins C dx fs)/\fs.lookup m=none /\
 t σ H1 fun vs H2=>sp (x::(vs++dvs)) H2 Q E
noncomputable def tMake(C:Addr)(sp:Sp)(dvs:List V)(E:XK)(t:TA):TE:=fun σ H Q=>t σ H fun vs H1=>∀x dx,H1 x=none->H1 dx=none->dx≠x ->
 sp (.ref x::(vs++dvs)) (upd (upd H1 dx (.own x)) x (.ins C dx [])) (fun v H2=>v=.non/\Q (.ref x) H2) E
noncomputable def Binds(K:Aq)(fd:Mo)(ps:List Str)(ds:List Value):Prop :=
 ∀(s:Ag) (us:List Value),K.In s.heap->(us++ds).length=ps.length->Sa s fd ⟨us,[]⟩ (ps.zip (us++ds))
theorem Binds.all{K:Aq}(h:∀e:List Value,e.length=ps.length->bindArgs fd ⟨e,[]⟩=pure (ps.zip e)):Binds K fd ps []:=fun s e _ hl=>by
 rw[Du] at hl ⊢;exact .of_eq (h e hl)
noncomputable def Passes(CX:CXT)(X:Cx)(E:XK):Prop:=∀(pins:List (Addr×Obj)) (σ:St) (H:Hp) (s:Ag) (e:Value) (s':Ag),Inv X pins σ H s->CX X.stack H s E e s'->X.xe e s'
section
variable{X:Cx}{CX:CXT}{k:Nat}{f C:Addr}{fd:Mo}{ps:List Str}{sp:Sp}{dvs:List V}{ds:List Value}{E:XK}{x m:Str}{p pos apos:Pos}{e o:Expr}{es:List Expr}{ta:TE}{t:TA}
theorem z3u{j:St}(F:FnOk X.prog X.w X.K X.mg X.base CX k f fd ps sp)(v:Room k X.A)(B:Binds X.K fd ps ds)(hd:Vals dvs ds)(C:Passes CX X E)(I:Inv X pins j H s)(r:Vals vs us)(h:sp (vs++dvs) H Q E):wpAny (model X.prog X.w) X.A (call (.ref f) us) (EP X pins j Q) X.xe s:=by
 have q:=r.append hd;have hl:(us++ds).length=ps.length:=by rw[<- q.length];exact F.len _ _ _ _ h
 refine Sr (Ii (F.run X.A X.stack s H ⟨us,[]⟩ (us++ds) (vs++dvs) Q E v I.env0 (B s us I.kIn hl) q h) fun r D g=>?_);cases r with
 |error e=>exact C pins j H s e D I g
 |ok fl =>
  cases fl with
  |ret u=>exact I.after g
  |next=>exact False.elim g
  |brk=>exact False.elim g
  |cont=>exact False.elim g
theorem x3a(F:FnOk X.prog X.w X.K X.mg X.base CX k f fd ps sp)(B:Room k X.A)(C:Gl X x)(D:X.mg x=some (.ref f))(hk:Ih X.K (.ref f)=true)(G:Binds X.K fd ps ds)(hd:Vals dvs ds)(J:Passes CX X E)(ha:PA X (e::es) t)(j:(x==("__debug__" : Str))=false:=by decide)(L:Bk (e::es) X.env=(false,eval e X.env)::Bk es X.env:=by rfl)(u:(Gj pos (Bk es X.env)).any (·.1)=false:=by rfl):
  PE X (.Call (.Name x p) (e::es) [] pos) (tCall sp dvs E t):=by
 intro g s M H Q I h;refine Jd (z2l I C D ?_ j);refine Tx I.ok.mod.kin hk (thn (ha pos g s M H _ I h) fun O P ⟨vs,R,v,r,q⟩=>⟨v.kIn,?_⟩) L u;exact z3u F B G hd J v r q
theorem z9t(F:FnOk X.prog X.w X.K X.mg X.base CX k f fd ps sp)(j:Room k X.A)(q:Gl X x)(u:X.mg x=some (.ref f))(hk:Ih X.K (.ref f)=true)(v:Binds X.K fd ps ds)(hd:Vals dvs ds)(B:Passes CX X E)(e:(x==("__debug__" : Str))=false:=by decide):PE X (.Call (.Name x p) [] [] pos) (tCall sp dvs E tNil):=by
 intro g s C H Q I h;refine Jd (z2l I q u ?_ e);exact W.callWith_K0 I.kIn hk (z3u F j v hd B I .nil h)
theorem x3b{pl:Sem Bool}(M:PE X o ta)(c:Cls X.K C)(B:Meth X.K C m f)(F:FnOk X.prog X.w X.K X.mg X.base CX k f fd ps sp)(O:Room k X.A)(P:Binds X.K fd ps ds)(hd:Vals dvs ds)(R:Passes CX X E)(ha:PA X (e::es) t)(j:Bk (e::es) X.env=(false,eval e X.env)::Bk es X.env:=by rfl)(v:(Gj pos (Bk es X.env)).any (·.1)=false:=by rfl)(S:eval (.Call (.Attribute o m apos) (e::es) [] pos) X.env=(do
   let D<-eval o X.env
   Qa apos.atName
   let (f,first)<-Ll [D] (Oq D m pl)
   Vk pos f first (Gj pos (Bk (e::es) X.env)) (Mp pos (Jg [] X.env))):=by rfl):
  PE X (.Call (.Attribute o m apos) (e::es) [] pos) (tMeth C m sp dvs E ta t):=by
 intro g s G H Q I h;refine Wf (thn (M g s G H _ I h) fun u T ⟨x,U,J,W,a,dx,fs,ex,Y,l,q⟩=>?_) S;subst ex;obtain rfl:u=Value.ref a:=W;refine q7x J Y c B l ?_;refine Tx I.ok.mod.kin B.kp (thn (ha pos g T G U _ J q) fun us s2 ⟨vs,H2,L,r,Z⟩=>⟨L.kIn,?_⟩) j v;exact z3u (vs:=.ref a::vs) F O P hd R L (.cons rfl r) Z
theorem z9u(B:PE X o ta)(c:Cls X.K C)(j:Meth X.K C m f)(F:FnOk X.prog X.w X.K X.mg X.base CX k f fd ps sp)(D:Room k X.A)(G:Binds X.K fd ps ds)(hd:Vals dvs ds)(J:Passes CX X E)(L:eval (.Call (.Attribute o m apos) [] [] pos) X.env=(do
   let v<-eval o X.env
   Qa apos.atName
   let (f,first)<-Ll [v] (Oq v m pl)
   Vk pos f first (Gj pos (Bk [] X.env)) (Mp pos (Jg [] X.env))):=by rfl):
  PE X (.Call (.Attribute o m apos) [] [] pos) (tMeth C m sp dvs E ta tNil):=by
 intro e s M H Q I h;refine Wf (thn (B e s M H _ I h) fun u R ⟨x,S,g,O,a,T,fs,ex,P,l,q⟩=>?_) L;subst ex;obtain rfl:u=Value.ref a:=O;refine q7x g P c j l ?_;exact W.callWith_K0 g.kIn j.kp (z3u (vs:=[.ref a]) F D G hd J g (.cons rfl .nil) q)
structure Mk (K:Aq) (C f:Addr):Prop where
 makes:Wu K C=true
 init:Gu K (.ref C) "__init__" = some (some (.ref f))
 fn:We K (.ref f)=true
 kp:Ih K (.ref C)=true
theorem z9v{B:St}(M:Mk X.K C f)(F:FnOk X.prog X.w X.K X.mg X.base CX k f fd ps sp)(J:Room (k+1) X.A)(L:Binds X.K fd ps ds)(hd:Vals dvs ds)(O:Passes CX X E)(I:Inv X pins B H s)(r:Vals vs us)(h:∀x j,H x=none->H j=none->j≠x->sp (.ref x::(vs++dvs)) (upd (upd H j (.own x)) x (.ins C j [])) (fun v P=>v=.non/\Q (.ref x) P) E):
  wpAny (model X.prog X.w) X.A (call (.ref C) us) (EP X pins B Q) X.xe s:=by
 have D:=h (s.heap.objs.size+1) s.heap.objs.size (I.hok.fresh (Jh _)) (I.hok.fresh (Au _)) (Bj (He _));have q:=Inv.made (C:=C) I;have G:Vals (V.ref (s.heap.objs.size+1)::(vs++dvs)) (Value.ref (s.heap.objs.size+1)::(us++ds)):=.cons rfl (r.append hd);have hl:(Value.ref (s.heap.objs.size+1)::us++ds).length=ps.length:=by
  have e:=G.length;rw[F.len _ _ _ _ D] at e;exact e.symm
 refine Sr (z9s I.kIn M.makes M.init (beq_iff_eq.mp M.fn) (Ii (F.run _ X.stack _ _ ⟨Value.ref (s.heap.objs.size+1)::us,[]⟩ (Value.ref (s.heap.objs.size+1)::(us++ds)) _ _ E (J.make C us [])
  (q.env0.make C us []) (L _ (Value.ref (s.heap.objs.size+1)::us) q.kIn hl) G D) fun r R g=>?_))
 cases r with
 |error e=>exact O pins B _ _ e R q g
 |ok fl =>
  cases fl with
  |ret u =>
   obtain⟨v,S,T,U,W,Y⟩:=q.after g;subst W;exact⟨U,⟨V.ref (s.heap.objs.size+1),S,T,rfl,Y⟩⟩
  |next=>exact False.elim g
  |brk=>exact False.elim g
  |cont=>exact False.elim g
theorem x3c(M:Mk X.K C f)(F:FnOk X.prog X.w X.K X.mg X.base CX k f fd ps sp)(B:Room (k+1) X.A)(D:Gl X x)(G:X.mg x=some (.ref C))(J:Binds X.K fd ps ds)(hd:Vals dvs ds)(L:Passes CX X E)(ha:PA X (e::es) t)(j:(x==("__debug__" : Str))=false:=by decide)(O:Bk (e::es) X.env=(false,eval e X.env)::Bk es X.env:=by rfl)(u:(Gj pos (Bk es X.env)).any (·.1)=false:=by rfl):
  PE X (.Call (.Name x p) (e::es) [] pos) (tMake C sp dvs E t):=by
 intro g s P H Q I h;refine Jd (z2l I D G ?_ j);refine Tx I.ok.mod.kin M.kp (thn (ha pos g s P H _ I h) fun R S ⟨vs,T,v,r,q⟩=>⟨v.kIn,?_⟩) O u;exact z9v M F B J hd L v r q
end
structure FnScope (N P:List Str) (sc:Scope):Prop where
 kind:sc.kind=.function
 co:sc.isCoroutine=false
 gen:sc.isGenerator=false
 nd:N.Nodup
 pre:N.take P.length=P
 par:∀x∈P,sc.names.lookup x=some .local\/sc.names.lookup x=some .cell
 nofree:∀y∈sc.names,y.2≠.free
theorem z0l{e:Str->Option Bo}:∀{binds:List (Str×Value)} {m:Str->Option Value},(∀v,(x,v)∉binds)->bindL e binds m x=m x
 |[],_,_=>rfl
 |(n,v)::r,m,h=>by
  unfold bindL;rw[z0l fun w f=>h w (Am _ f)];split
  ·have:x≠n:=by rintro rfl;exact h v As
   simp[this]
  ·rfl
theorem z0m{e:Str->Option Bo}:∀{binds:List (Str×Value)} {m:Str->Option Value},(∀v,(x,v)∉binds)->bindC e binds m x=m x
 |[],_,_=>rfl
 |(n,v)::r,m,h=>by
  unfold bindC;rw[z0m fun w f=>h w (Am _ f)];split
  ·rfl
  ·have:x≠n:=by rintro rfl;exact h v As
   simp[this]
theorem z0n{e:Str->Option Bo}{x:Str}{v:Value}:∀{P:List Str} {vs:List Value} {i:Nat} {m:Str->Option Value},P.Nodup->P[i]?=some x->vs[i]?=some v->e x=some .local ->
  bindL e (P.zip vs) m x=some v
 |[],_,_,_,_,h,_,_=>by simp at h
 |_::_,[],_,_,_,_,h,_=>by simp at h
 |p::P,w::vs,0,m,nd,h1,h2,hk=>by
  simp at h1 h2;subst h1;subst h2;show bindL e ((p,w)::P.zip vs) m p=_;unfold bindL;rw[z0l fun v f=>(Bs.mp nd).1 (Qw f).1,if_pos hk];simp
 |p::P,w::vs,i+1,m,nd,h1,h2,hk=>by
  show bindL e ((p,w)::P.zip vs) m x=_;unfold bindL;exact z0n (i:=i) (Bs.mp nd).2 (by simpa using h1) (by simpa using h2) hk
theorem z0o{e:Str->Option Bo}{x:Str}{v:Value}:∀{P:List Str} {vs:List Value} {i:Nat} {m:Str->Option Value},P.Nodup->P[i]?=some x->vs[i]?=some v->e x≠some .local ->
  bindC e (P.zip vs) m x=some v
 |[],_,_,_,_,h,_,_=>by simp at h
 |_::_,[],_,_,_,_,h,_=>by simp at h
 |p::P,w::vs,0,m,nd,h1,h2,hk=>by
  simp at h1 h2;subst h1;subst h2;show bindC e ((p,w)::P.zip vs) m p=_;unfold bindC;rw[z0m fun v f=>(Bs.mp nd).1 (Qw f).1,if_neg hk];simp
 |p::P,w::vs,i+1,m,nd,h1,h2,hk=>by
  show bindC e ((p,w)::P.zip vs) m x=_;unfold bindC;exact z0o (i:=i) (Bs.mp nd).2 (by simpa using h1) (by simpa using h2) hk
noncomputable def start(N:List Str)(vs:List V):St:=vs.map some++List.replicate (N.length-vs.length) none
noncomputable def cxOf(CX:CXT)(P:Ay)(w:World)(K:Aq)(mg:Str->Option Value)(base:Heap)(N:List Str)(qual:Str)(scope:Scope)(f:Addr)(cd:Value)(A:Around)(outer:List Env)(s:Ag)(H:Hp)(E:XK):Cx where
 prog:=P
 w:=w
 K:=K
 mg:=mg
 base:=base
 A:=A.deeper (Kz qual scope s.heap.objs.size f cd)
 N:=N
 s₀:=s
 H₀:=H
 env:=Kz qual scope s.heap.objs.size f cd
 outer:=outer
 stack:=Kz qual scope s.heap.objs.size f cd::outer
 ex:=[]
 calm:=true
 fn:=fun _=>true
 pn:=[]
 xe:=fun e s'=>wpAny (model P w) (A.deeper (Kz qual scope s.heap.objs.size f cd)) (leaving (Kz qual scope s.heap.objs.size f cd) e) (fun _ s''=>CX outer H s E e s'') (fun e' s''=>CX outer H s E e' s'') s'
theorem z3v{e:Scope}(h:e.names.lookup x=some .cell):∃c,(cellsFrom n e.names []).lookup x=some c:=by
 have q:=Vl e.names n [] (.inl h);exact Qf.mp q
theorem z6p{K:Aq}(S:FnScope N ps scope)(hd:A.handled=none)(g:Env0 P w K mg base A outer s H)(hl:vs.length=ps.length)(r:Vals vs us)(x:InCallC s s.heap.objs.size (bindL (Kz qual scope s.heap.objs.size f cd).kindOf (ps.zip us) fun _=>none) (cellsFrom (s.heap.objs.size+1) scope.names []) (bindC (Kz qual scope s.heap.objs.size f cd).kindOf (ps.zip us) fun _=>none) s1):
  Inv (cxOf CX P w K mg base N qual scope f cd A outer s H E) [] (start N vs) H s1:=by
 have M:ps.length<=N.length:=by have:=congrArg List.length S.pre;rw[Bp] at this;lia
 obtain⟨I,tk,rfl,hk⟩:=x.done;have B:∀b:Addr,b∉(cxOf CX P w K mg base N qual scope f cd A outer s H E).ex:=fun b z=>absurd (show b∈([]:List Addr) from z) (by simp)
 refine⟨⟨g.mod,S.kind,rfl,rfl,Au _,fun y z c I j=>?_,fun y C=>?_,fun y c _ h=>?_,fun _=>hd,Around.frames_deeper g.frames,.inr ⟨rfl,rfl⟩,fun b z=>absurd z (B b),g.bs,g.bsz,fun b _ _=>B b,fun b z=>absurd z (B b),g.funs,g.frf⟩,
  rfl,g.bare,Un.kept hk,⟨_,x.toInCall.ns,fun i y v I j Q=>?_⟩,fun y c h=>⟨_,x.cell y c h⟩,g.hok.fresh (Au _),fun y c h=>?_,fun p D=>absurd (show p∈([]:List (Addr×Obj)) from D) (by simp),g.hok.kept hk,?_⟩
 ·exact name_of_addr x.apart (Gg I) (Gg j)
 ·have C:scope.names.lookup y=some .cell\/scope.names.lookup y=some .free:=C;rcases C with C|C
  ·exact z3v C
  ·exact absurd rfl (S.nofree _ (Gg C))
 ·exact Hj (x.above y c (Gg h))
 ·have J:i<vs.length:=by
   unfold start at j;by_cases J:i<vs.length
   ·exact J
   ·rw[Cd (by simpa using J)] at j;rw[List.getElem?_replicate] at j;split at j<;>cases j
  have ha:vs[i]?=some v:=by
   unfold start at j;rw[Bq (by simpa using J),Ak] at j;cases e:vs[i]? with
   |none=>simp_all
   |some a=>grind
  obtain⟨u,L,O⟩:=r.get ha;have D:ps[i]?=some y:=by
   rw[<- S.pre,List.getElem?_take_of_lt (by lia)];exact I
  have G:ps.Nodup:=by rw[<- S.pre];exact S.nd.sublist (Lv _ _)
  refine⟨u,O,?_⟩;rcases S.par y (Ah D) with k|k
  ·exact .inl ⟨k,z0n G D L k⟩
  ·obtain⟨c,e⟩:=z3v k;refine .inr ⟨.inl k,c,e,?_⟩;have q:=x.cell y c e;rw[z0o G D L (by show scope.names.lookup y≠_;rw[k];decide)] at q;exact q
 ·exact g.hok.fresh (Hj (x.above y c (Gg h)))
 ·unfold start;show _=N.length;rw[Al,Aa,List.length_replicate];lia
theorem fn_of{K:Aq}{kV:Value}(X:K.lookup f=some ⟨oc,od,.func (Jp name qual params body scope dV kV doc pm an cdv ct),osl⟩)(D:Mq K cdv qual=true)(S:FnScope N ps scope)(len:∀vs H Q E,sp vs H Q E->vs.length=ps.length)(h:∀(A:Around) (outer:List Env) (s:Ag) (H:Hp) (vs:List V) (Q:VK) (E:XK),Room k (A.deeper (Kz qual scope s.heap.objs.size f cdv))->sp vs H Q E ->
   ∃t,PSs (cxOf CX P w K mg base N qual scope f cdv A outer s H E) body t/\t { nx:=fun _ H'=>Q .non H',rt:=Q } (start N vs) H):
  FnOk P w K mg base CX (k+1) f (Jp name qual params body scope dV kV doc pm an cdv ct) ps sp:=by
 refine⟨len,fun A outer s H R Y vs Q E G B Z r C=>?_⟩;have hl:=len _ _ _ _ C;have T:=B.mod.kin.keeps fun b o e=>(B.bs b o e).1;have L:=B.mod.nolimit.keeps fun b o e=>(B.bs b o e).1;have j:∀y∈ps.zip Y,scope.names.lookup y.1=some .local\/(scope.names.lookup y.1=some .cell/\((cellsFrom (s.heap.objs.size+1) scope.names []).lookup y.1).isSome=true):=fun⟨n,v⟩ hy=>by
  rcases S.par n (Qw hy).1 with q|q
  ·exact .inl q
  ·exact .inr ⟨q,Vl _ _ _ (.inl q)⟩
 refine codeAny_call_function G.depth (T _ _ X) rfl S.co S.gen rfl (W.codeRec_of T D) (Z _ _ _ _ ?_);refine wpAny_newFunctionEnv_cells S.kind j fun env he U x=>?_;subst he;refine⟨L.keeps x.toInCall.keep,codeAny_func ?_⟩;obtain⟨t,ht,hq⟩:=h A outer s H vs Q E (G.deeper _) C;have I:Inv (cxOf CX P w K mg base N qual scope f cdv A outer s H E) [] (start N vs) H U:=z6p S G.hd B hl r x;refine Dj (ht [] U (start N vs) H _ I hq) (fun fl M hs=>?_) fun e M hs=>hs;have fin:∀{g:St} {H':Hp} {v:V} {u:Value},Inv (cxOf CX P w K mg base N qual scope f cdv A outer s H E) [] g H' M->RelV v u->Q v H'->CE outer P w H s Q u M :=
  fun{g H' v u} J O q=>⟨v,H',J.os,J.bare,J.base,J.hok,O,q⟩
 cases fl with
 |ret u =>
  obtain⟨v,g,H',J,O,q⟩:=hs;exact fin J O q
 |next =>
  obtain⟨g,H',J,q⟩:=hs;exact fin (v:=V.non) J rfl q
 |brk =>
  obtain⟨_,_,_,q⟩:=hs;exact False.elim q
 |cont =>
  obtain⟨_,_,_,q⟩:=hs;exact False.elim q
section
variable{X:Cx}{x:Str}{p pos:Pos}{e:Expr}{es:List Expr}{t:TA}{id T:String}{r:List V->Hp->VK->Prop}
noncomputable def tCB(r:List V->Hp->VK->Prop)(t:TA):TE:=fun σ H Q=>t σ H fun vs H1=>r vs H1 Q
theorem q0l(u:CallR X (.builtin id) r)(v:Gl X x)(B:X.mg x=none)(C:Hi x=some (.builtin id))(ha:PA X (e::es) t)(D:x ≠ "__name__" := by decide)(g:(x==("__debug__" : Str))=false:=by decide)(E:Bk (e::es) X.env=(false,eval e X.env)::Bk es X.env:=by rfl)(j:(Gj pos (Bk es X.env)).any (·.1)=false:=by rfl):PE X (.Call (.Name x p) (e::es) [] pos) (tCB r t):=by
 intro f s q H Q I h;refine Jd (q6p I v B C ?_ D g);exact PyProof.Rows.callWith_builtin1 (thn (ha pos f s q H _ I h) fun G J ⟨vs,L,M,O,P⟩=>u f J q L vs G Q M O P) E j
theorem q1x(u:CallR X (.type T) r)(v:Gl X x)(B:X.mg x=none)(C:Hi x=some (.type T))(ha:PA X (e::es) t)(D:x ≠ "__name__" := by decide)(g:(x==("__debug__" : Str))=false:=by decide)(E:Bk (e::es) X.env=(false,eval e X.env)::Bk es X.env:=by rfl)(j:(Gj pos (Bk es X.env)).any (·.1)=false:=by rfl):PE X (.Call (.Name x p) (e::es) [] pos) (tCB r t):=by
 intro f s q H Q I h;refine Jd (q6p I v B C ?_ D g);exact Ey (thn (ha pos f s q H _ I h) fun G J ⟨vs,L,M,O,P⟩=>u f J q L vs G Q M O P) E j
end
end L2
namespace HT
open PySem PyProof.Rows
section
variable{prog:Ay}{w:World}{A:Around}{E:Value->Ag->Prop}{s:Ag}
theorem cat_tup(M:IsTup s.heap t vs.toArray)(O:IsTup s.heap b ws.toArray)(G:vs≠[])(P:ws=[]->Q (.ref t) s)(R:ws≠[]->Q (.ref s.heap.objs.size) { s with heap:=s.heap.push { cls:=.type "tuple",data:=.seq (vs++ws).toArray } })(v:vs.length+ws.length<=sizeLine):wpAny (model prog w) A (Hd .Add (.ref t) (.ref b)) Q E s:=by
 obtain⟨⟨u,H,data,I⟩,j,S,n,hd⟩:=id M;obtain⟨⟨J,g,B,h⟩,f,C,L,D⟩:=id O;subst S hd C D;have e:vs.toArray++ws.toArray=(vs++ws).toArray:=by simp
 by_cases q:ws=[]
 ·exact Tz ⟨_,j,rfl⟩ ⟨_,f,rfl⟩ Qg Te Mc Lq (La _ _)
   (tuple_addW1 t b vs.toArray ws.toArray n L H g I h (by simpa using G) (by simp[q])) ⟨j,f,P q⟩
 ·refine Tz ⟨_,j,rfl⟩ ⟨_,f,rfl⟩ Qg Te Mc Lq (La _ _)
   (tuple_addW2 t b vs.toArray ws.toArray n L H g I h (by simpa using G) (by simpa using q) (by rw[Be,Be];exact v)) ⟨j,f,?_⟩
  rw[e];exact R q
noncomputable def sIx(n d:Nat):Option Int->Nat
 |none=>d
 |some v=>if v<0 then(v+(n:Int)).toNat else min v.toNat n
theorem z6q(v:Int)(n d:Nat):(if v<0 then max (v+(n:Int)) 0 else min v (n:Int))=((sIx n d (some v):Nat):Int):=by
 show(if v<0 then max (v+(n:Int)) 0 else min v (n:Int))=(((if v<0 then(v+(n:Int)).toNat else min v.toNat n):Nat):Int)
 by_cases e:v<0
 ·grind
 ·grind
theorem z5a(lo e:Option Int)(n:Nat):Pq lo e 1 (n:Int)=(((sIx n 0 lo:Nat):Int),((sIx n n e:Nat):Int)):=by
 refine Vi ?_ ?_
 ·cases lo with
  |none=>rfl
  |some v=>exact z6q v n 0
 ·cases e with
  |none=>rfl
  |some v=>exact z6q v n n
theorem z5b(i j:Nat):Ia (i:Int) (j:Int) 1=j-i:=by
 unfold Ia;have e:(1:Int)>0:=by lia
 simp only[e,if_true,Int.ediv_one];split<;>lia
theorem q7y(p:Md v o)(h:Q o s):wpAny (model prog w) A (Dq.Slice.slicePartIndex v) Q E s:=by
 cases p with
 |none=>exact slicePart_none h
 |int i t=>exact slicePart_int h
theorem q3j{lo:Option Int}{n:Nat}(hs:s.heap.IsSliceOf sl vl vu .none)(pl:Md vl lo)(pu:Md vu hi)(h:Q (((sIx n 0 lo:Nat):Int),1,sIx n n hi-sIx n 0 lo) s):wpAny (model prog w) A (Dq.Slice.sliceApplied (.ref sl) (pure (n:Int))) Q E s:=by
 obtain⟨os,e,g,f⟩:=id hs;refine Ab (Ab (Cj e f rfl (Ab (Cj e f rfl (Ab (Cj e f rfl (Ad ?_)))))));refine Ab (slicePart_none ?_);refine Ab (q7y pl (Ab (q7y pu (Ab (Ad ?_)))));show wpAny _ _ (match Pq lo hi 1 (n:Int) with|(lo,hi)=>pure (lo,(1:Int),Ia lo hi 1)) _ _ s;rw[z5a lo hi n];show wpAny _ _ (pure (((sIx n 0 lo:Nat):Int),(1:Int),Ia ((sIx n 0 lo:Nat):Int) ((sIx n n hi:Nat):Int) 1)) _ _ s;rw[z5b];exact Ad h
theorem z9w(xs:Array Value)(i k:Nat):((List.range k).filterMap fun(m:Nat)=>xs[((i:Int)+(m:Int)*1).toNat]?).toArray=((xs.toList.drop i).take k).toArray:=by
 have e:(fun(m:Nat)=>xs[((i:Int)+(m:Int)*1).toNat]?)=fun m=>xs[i+m]?:=by grind
 rw[e];have:=pick_run xs i k;rw[Ua] at this;have f:((fun x=>xs[x]?)∘fun x=>i+x)=fun m=>xs[i+m]?:=rfl;rw[f] at this;rw[this]
theorem getItem_tuple_cut{lo:Option Int}(f:IsTup s.heap t items)(hs:s.heap.IsSliceOf sl vl vu .none)(pl:Md vl lo)(pu:Md vu hi)(C:¬(sIx items.size 0 lo=0/\sIx items.size items.size hi=items.size))(h:Q (.ref s.heap.objs.size) { s with heap:=s.heap.push { cls:=.type "tuple",data:=.seq ((items.toList.drop (sIx items.size 0 lo)).take (sIx items.size items.size hi-sIx items.size 0 lo)).toArray } })(v:items.size<=sizeLine):wpAny (model prog w) A (getItem (.ref t) (.ref sl)) Q E s:=by
 have e:sizeOk (.seq ((items.toList.drop (sIx items.size 0 lo)).take (sIx items.size items.size hi-sIx items.size 0 lo)).toArray):=by
  show((items.toList.drop (sIx items.size 0 lo)).take (sIx items.size items.size hi-sIx items.size 0 lo)).toArray.size<=sizeLine;rw[Be,Bp,Dx,Ge];lia
 obtain⟨os,g,j,B⟩:=id hs;have q:s.TypeIs (.ref sl) "slice" := ⟨os,g,j⟩
 unfold getItem;try with_reducible refine Cn ?_
 refine Ab (Ur f.typeIs (by decide) ?_);refine Ab (Bz f.typeIs Ea
  (Bt Ea f.typeIs entry_tuple_getitem ?_ (Ub _ _)))
 show wpAny _ _ (Ki (.ref t) >>= _) _ _ s;refine Ab (tupleItemsOf_ f ?_);refine Ab (Gk q ?_);refine Ab (q3j hs pl pu ?_);have u:¬((((sIx items.size 0 lo:Nat):Int)==0&&(1:Int)==1&&(sIx items.size items.size hi-sIx items.size 0 lo)==items.size)=true):=by grind
 show wpAny _ _ (if (((sIx items.size 0 lo:Nat):Int)==0&&(1:Int)==1&&(sIx items.size items.size hi-sIx items.size 0 lo)==items.size)=true then _ else _) _ _ s;rw[if_neg u,z9w];first
  |exact Ab (By (Ad ⟨_,rfl,Ad h⟩) e)
  |exact Ab (By (Ab (Ad (Ad ⟨_,rfl,Ad h⟩))) e)
  |exact Ab (Ab (By (Ad (Ad ⟨_,rfl,Ad h⟩)) e))
  |exact Ab (Ab (By (Ad ⟨_,rfl,Ad h⟩) e))
end
end HT
namespace L2
open PySem PySem.Spec PyProof.Rows
noncomputable abbrev TO:=St->Hp->(Option Int->Hp->Prop)->Prop
noncomputable def PO(X:Cx)(e:Option Expr)(t:TO):Prop :=
 ∀(pins:List (Addr×Obj)) (s:Ag) (σ:St) (H:Hp) (Q:Option Int->Hp->Prop),Inv X pins σ H s->t σ H Q ->
  wpAny (model X.prog X.w) X.A (evalPart e X.env) (fun u s'=>∃o H',Inv X pins σ H' s'/\Md u o/\Q o H') X.xe s
noncomputable def tNoPart:TO:=fun _ H Q=>Q none H
noncomputable def tPart(t:TE):TO:=fun σ H Q=>t σ H fun x H1=>∃i,x=.int i/\Q (some i) H1
section
variable{X:Cx}{e:Expr}{te:TE}{lo hi:Option Expr}{tl th:TO}{pos p2:Pos}
theorem q0r:PO X none tNoPart:=by
 intro e s f H Q I h;exact Ad ⟨none,H,I,.none,h⟩
theorem q0s(h:PE X e te):PO X (some e) (tPart te):=by
 intro f s g H Q I j;refine thn (h f s g H _ I j) fun u E ⟨x,v,B,C,D⟩=>?_;obtain⟨i,rfl,q⟩:=D;obtain⟨t,rfl⟩:=C;exact⟨some i,v,B,.int i t,q⟩
noncomputable def SlR(X:Cx)(r:V->Option Int->Option Int->Hp->VK->Prop):Prop :=
 ∀(pins:List (Addr×Obj)) (s:Ag) (σ:St) (H:Hp) (x:V) (v vl vu:Value) (lo hi:Option Int) (sl:Addr) (Q:VK),Inv X pins σ H s->RelV x v->s.heap.IsSliceOf sl vl vu .none->Md vl lo->Md vu hi->r x lo hi H Q ->
  ∃T id,Ss (.type T) "__getitem__" = pure (some (.builtin id))/\s.TypeIs v T/\wpAny (model X.prog X.w) X.A (getItem v (.ref sl)) (EP X pins σ Q) X.xe s
theorem SlR.or(h:SlR X r)(h':SlR X r'):SlR X (fun x lo f H Q=>r x lo f H Q\/r' x lo f H Q):=by
 intro e s g H x v vl j lo f u Q I B hs pl pu q;rcases q with q|q
 ·exact h e s g H x v vl j lo f u Q I B hs pl pu q
 ·exact h' e s g H x v vl j lo f u Q I B hs pl pu q
noncomputable def tSl(r:V->Option Int->Option Int->Hp->VK->Prop)(te:TE)(tl th:TO):TE:=fun σ H Q=>te σ H fun x H1=>tl σ H1 fun l H2=>th σ H2 fun u H3=>r x l u H3 Q
theorem q0p{r:V->Option Int->Option Int->Hp->VK->Prop}(D:SlR X r)(E:PE X e te)(hl:PO X lo tl)(G:PO X hi th):PE X (.Subscript e (.Slice lo hi none p2) pos) (tSl r te tl th):=by
 intro f s j H Q I h;refine Wg (thn (E f s j H _ I h) fun v J ⟨x,L,M,O,P⟩=>?_);refine wpAny_Slice (thn (hl f J j L _ M P) fun vl R ⟨l,S,U,pl,W⟩=>thn (G f R j S _ U W) fun B g ⟨u,C,Y,pu,Z⟩=>?_);refine Ad ?_;have I4:Inv X f j C { g with heap:=g.heap.push { cls:=.type "slice",data:=.fields #[vl,B,.none] } }:=Y.kept (t':=g.toks) fun b ob q=>Ai _ q;obtain⟨T,id,hT,ht,hg⟩:=D f { g with heap:=g.heap.push { cls:=.type "slice",data:=.fields #[vl,B,.none] } } j C x v vl B l u g.heap.objs.size Q I4 O (Heap.IsSliceOf.new ..) pl pu Z;exact tail_any ht hT hg (by with_unfolding_all rfl)
noncomputable def cutV(xs:List V)(lo hi:Option Int):List V:=(xs.drop (HT.sIx xs.length 0 lo)).take (HT.sIx xs.length xs.length hi-HT.sIx xs.length 0 lo)
theorem q6v(xs:List V)(lo e:Option Int):(cutV xs lo e).length<=xs.length:=by
 unfold cutV;rw[Bp,Dx];lia
noncomputable def rSlT(K:Aq):V->Option Int->Option Int->Hp->VK->Prop:=fun x lo hi H Q=>∃a xs,x=.ref a/\SqT K H a xs /\
 ¬(HT.sIx xs.length 0 lo=0/\HT.sIx xs.length xs.length hi=xs.length)/\∀p,H p=none->Q (.ref p) (upd H p (.tup (cutV xs lo hi)))
theorem x1v:SlR X (rSlT X.K):=by
 intro g s G H x v vl J lo j L Q I C hs pl pu h;obtain⟨a,xs,rfl,D,E,q⟩:=h;cases C;obtain⟨f,r,u,B⟩:=I.tuple D;have e:f.toArray.size=xs.length:=by rw[Be];exact r.length.symm
 refine⟨"tuple",_,Ea.lookup,u.typeIs,?_⟩;refine HT.getItem_tuple_cut u hs pl pu (by rw[e];exact E) ?_ (by rw[e];exact B);rw[e];refine⟨.ref s.heap.objs.size,_,I.laid (t':=s.toks) (fun b M q=>Ai _ q) (Au _) ?_,rfl,q _ (I.hok.fresh (Au _))⟩;exact⟨Ce (q6v xs lo j) B,_,(r.drop (HT.sIx xs.length 0 lo)).take (HT.sIx xs.length xs.length j-HT.sIx xs.length 0 lo),Wv _ _⟩
theorem Vals.nil_iff(r:Vals xs us):us=[]↔xs=[]:=by
 cases r with
 |nil=>simp
 |cons _ _=>simp
end
noncomputable def ixN(n:Nat)(i:Int):Option Nat:=if 0<=i then(if i<n then some i.toNat else none) else if -(n:Int)<=i then some (i+n).toNat else none
noncomputable def atI{α:Type}(xs:List α)(i:Int):Option α:=(ixN xs.length i).bind fun j=>xs[j]?
theorem z6r(h:ixN n i=some j):Qx i n=some j/\j<n /\ -(n:Int)<=i/\i<n:=by
 unfold ixN at h;by_cases g:0<=i
 ·rw[if_pos g] at h;by_cases f:i<n
  ·rw[if_pos f] at h;have e:=Bx h;exact⟨by rw[Ve g f,e],by lia,by lia,f⟩
  ·grind
 ·rw[if_neg g] at h;by_cases f : -(n:Int)<=i
  ·rw[if_pos f] at h;have e:=Bx h;exact⟨by rw[seqIndex_neg (by lia) f,e],by lia,f,by lia⟩
  ·grind
theorem q8x{xs:List α}{v:α}(h:atI xs i=some v):∃j,Qx i xs.length=some j/\xs[j]?=some v/\j<xs.length /\ -(xs.length:Int)<=i/\i<xs.length:=by
 unfold atI at h;cases e:ixN xs.length i with
 |none=>rw[e] at h;cases h
 |some j =>
  rw[e] at h;obtain⟨f,g,q,s⟩:=z6r e;exact⟨j,f,h,g,q,s⟩
noncomputable def PlainIx(b:Expr):Prop:=∀o i,Ri b false o i=operate [o,i] (getItem o i)
noncomputable def IxR(X:Cx)(r:R2):Prop :=
 ∀(value slice:Expr) (pins:List (Addr×Obj)) (s:Ag) (σ:St) (H:Hp) (x y:V) (v u:Value) (Q:VK),Inv X pins σ H s->RelV x v->RelV y u->r x y H Q ->
  Ri slice false v u=operate [v,u] (getItem v u)->wpAny (model X.prog X.w) X.A (subscriptTail value slice v u) (EP X pins σ Q) X.xe s
noncomputable def MtR(X:Cx)(id:String)(r:V->List V->Hp->VK->Prop):Prop :=
 ∀(pins:List (Addr×Obj)) (s:Ag) (σ:St) (H:Hp) (x:V) (xs:List V) (v:Value) (us:List Value) (Q:VK),Inv X pins σ H s->RelV x v->Vals xs us->r x xs H Q ->
  wpAny (model X.prog X.w) X.A (call (.builtin id) (v::us)) (EP X pins σ Q) X.xe s
section
variable{X:Cx}{a b:Expr}{ta tb:TE}{pos:Pos}
theorem IxR.or(h:IxR X r)(h':IxR X r'):IxR X (fun x y H Q=>r x y H Q\/r' x y H Q):=by
 intro e f g s j H x y v u Q I B C q hs;rcases q with q|q
 ·exact h e f g s j H x y v u Q I B C q hs
 ·exact h' e f g s j H x y v u Q I B C q hs
theorem q1k{r:R2}(f:IxR X r)(ha:PE X a ta)(g:PE X b tb)(hs:PlainIx b):PE X (.Subscript a b pos) (tOp r ta tb):=by
 intro e s j H Q I h;exact Wg (binT ha g I h fun v u B x y C D E G q=>f a b e B j C x y v u Q D E G q (hs _ _))
noncomputable def rIxL(K:Aq):R2:=fun x y H Q=>∃p xs i v,x=.ref p/\y=.int i/\SqL K H p xs/\atI xs i=some v/\Q v H
noncomputable def rIxT(K:Aq):R2:=fun x y H Q=>∃p xs i v,x=.ref p/\y=.int i/\SqT K H p xs/\atI xs i=some v/\Q v H
noncomputable def rIxS:R2:=fun x y H Q=>∃z i c,x=.str z/\y=.int i/\z.length<=sizeLine/\atI z.cps.toList i=some c/\Q (.str ⟨#[c]⟩) H
theorem ix_list:IxR X (rIxL X.K):=by
 intro g B e s L H x y v u Q I M O h hs;obtain⟨p,xs,i,z,rfl,rfl,P,R,q⟩:=h;cases M;obtain⟨t,rfl⟩:=O;obtain⟨C,r,pl,W⟩:=I.list P;obtain⟨j,f,S,Y,T,U⟩:=q8x R;obtain⟨w,G,D⟩:=r.get S;have hl:=r.length;have Z:=line63;have fin:EP X e L Q w s:=⟨z,H,I,D,q⟩
 by_cases J:0<=i
 ·have E:i.toNat=j:=by
   rw[Ve J U] at f;exact Bx f
  exact item_listR pl.isList J (by lia) (by rw[E];simpa using G) fin hs
 ·have E:(i+(C.toArray.size:Int)).toNat=j:=by
   rw[seqIndex_neg (by lia) T] at f;rw[Be,<- hl];exact Bx f
  exact Rj pl.isList.typeIs slot_list_getitem.lookup
   (wpAny_getItem_list_neg pl.isList (by lia) (by rw[Be]<;>lia) (by lia) (by rw[E];simpa using G) ⟨rfl,fin⟩) hs
theorem ix_tup:IxR X (rIxT X.K):=by
 intro f g e s C H x y v u Q I D E h hs;obtain⟨p,xs,i,z,rfl,rfl,G,J,q⟩:=h;cases D;obtain⟨t,rfl⟩:=E;obtain⟨L,r,pl,R⟩:=I.tuple G;obtain⟨j,M,O,S,T,U⟩:=q8x J;obtain⟨w,P,B⟩:=r.get O;have hl:=r.length;have W:=line63;have fin:EP X e C Q w s:=⟨z,H,I,B,q⟩
 exact Rj pl.typeIs slot_tuple_getitem.lookup
  (getItem_tuple pl (by lia) (by lia) (by rw[Be,<- hl];exact M) (by simpa using P) ⟨rfl,fin⟩) hs
theorem ix_str:IxR X rIxS:=by
 intro e f g s P H x y v u Q I C D h hs;obtain⟨z,i,c,rfl,rfl,R,E,q⟩:=h;obtain⟨t,rfl⟩:=C;obtain⟨S,rfl⟩:=D;obtain⟨j,B,G,T,J,L⟩:=q8x E;have hl:z.cps.toList.length=z.length:=by simp[Str.length]
 rw[hl] at B J L;have U:=line63;exact tail_any (Su s z t) slot_str_getitem.lookup (getItem_str (by
  have M:decide (i < -(2^63:Int))=false:=decide_eq_false (by lia);have O:decide (i>=2^63)=false:=decide_eq_false (by lia);rw[M,O,Tf]) (by rw[B];simpa using G) ⟨.str ⟨#[c]⟩,H,I.tok _,⟨_,rfl⟩,q⟩) hs
noncomputable def rIx(K:Aq):R2:=fun x y H Q=>rIxL K x y H Q\/rIxT K x y H Q\/rIxS x y H Q
theorem ix_seq:IxR X (rIx X.K):=ix_list.or (ix_tup.or ix_str)
theorem z5c(e:List Value)(n j:Nat)(u:Value):Dp (·.setIfInBounds j u) { cls:=.type "list",data:=.seq e.toArray n }={ cls:=.type "list",data:=.seq (e.set j u).toArray n }:=by
 simp[Dp]
theorem Inv.lst{g:List (Addr×Obj)}{j:St}{H:Hp}{s:Ag}{p:Addr}{xs:List V}(I:Inv X g j H s)(h:H p=some (.lst xs)):
  ∃(f:List Value) (n:Nat),Vals xs f/\s.heap.get? p=some { cls:=.type "list",data:=.seq f.toArray n }/\xs.length<=sizeLine:=by
 obtain⟨z,f,n,r,e⟩:=I.hok p _ h;exact⟨f,n,r,e,z⟩
theorem Inv.lstUpd{j:St}{g:List Value}(I:Inv X pins j H s)(h:H p=some (.lst xs))(B:s.heap.get? p=some { cls:=.type "list",data:=.seq g.toArray n })(v:f { cls:=.type "list",data:=.seq g.toArray n }={ cls:=.type "list",data:=.seq its'.toArray n' })(r:Vals ys its')(C:ys.length<=sizeLine)(t:Nat):
  Inv X pins j (upd H p (.lst ys)) { s with heap:=s.heap.update p f,toks:=t }:=by
 have e:(s.heap.update p f).get? p=some { cls:=.type "list",data:=.seq its'.toArray n' }:=by
  rw[Gp f B (by rw[v]<;>rfl),v]
 refine I.write (by rw[h];trivial) (.inl rfl) (fun b u D q=>(Cm _ _ (Ei D)).trans q) ⟨_,e⟩ ?_;exact⟨C,its',n',r,e⟩
noncomputable def rSetL:V->V->V->Hp->(Hp->Prop)->Prop:=fun o i v H Q=>∃p xs k j,o=.ref p/\i=.int k/\H p=some (.lst xs)/\ixN xs.length k=some j/\Q (upd H p (.lst (xs.set j v)))
theorem q8y:PSet X rSetL:=by
 intro e s J H o i v R S u Q I ro L M h;obtain⟨p,xs,k,j,rfl,rfl,C,O,q⟩:=h;cases ro;obtain⟨t,rfl⟩:=L;obtain⟨f,n,r,B,P⟩:=I.lst C;obtain⟨g,T,D,E⟩:=z6r O;have hl:=r.length;have U:=line63;have I':Inv X e J (upd H p (.lst (xs.set j v))) { s with heap:=s.heap.update p (Dp (·.setIfInBounds j u)) } :=
  I.lstUpd C B (z5c f n j u) (r.set M j) (by rw[List.length_set];exact P) s.toks
 by_cases G:0<=k
 ·have hk:k.toNat=j:=by
   rw[Ve G E] at g;exact Bx g
  exact W.ki_setAt B G (by lia) (by rw[Be,<- hl];exact E) (by rw[hk];exact⟨_,I',q⟩)
 ·have hk:(k+(f.toArray.size:Int)).toNat=j:=by
   rw[seqIndex_neg (by lia) D] at g;rw[Be,<- hl];exact Bx g
  exact W.ki_setBack B (by lia) (by rw[Be,<- hl];exact D) (by lia) (by rw[hk];exact⟨_,I',q⟩)
theorem z0p(lo e:Option Int)(n:Nat):(Kl lo e none n).1=((HT.sIx n 0 lo:Nat):Int)/\(Kl lo e none n).2.1=((HT.sIx n n e:Nat):Int)/\(Kl lo e none n).2.2=1:=by
 refine⟨?_,?_,rfl⟩
 ·cases lo with
  |none=>simp[Kl,HT.sIx]
  |some i =>
   simp only[Kl,HT.sIx,Vm,show(1:Int)>0 by decide,if_true];by_cases h:i<0
   ·simp only[h,if_true]<;>lia
   ·simp only[h,if_false]<;>lia
 ·cases e with
  |none=>simp[Kl,HT.sIx]
  |some i =>
   simp only[Kl,HT.sIx,Vm,show(1:Int)>0 by decide,if_true];by_cases h:i<0
   ·simp only[h,if_true]<;>lia
   ·simp only[h,if_false]<;>lia
theorem q8z(e:List Value)(lo f:Option Int):slicePick e.toArray lo f none=((e.drop (HT.sIx e.length 0 lo)).take (HT.sIx e.length e.length f-HT.sIx e.length 0 lo)).toArray:=by
 obtain⟨g,h,j⟩:=z0p lo f e.toArray.size;unfold slicePick;rw[g,h,j];simp only[sliceRange_one,pick_run,Be]<;>rfl
noncomputable def rSlL(K:Aq):V->Option Int->Option Int->Hp->VK->Prop:=fun x lo hi H Q=>∃a xs,x=.ref a/\SqL K H a xs/\∀p,H p=none->Q (.ref p) (upd H p (.lst (cutV xs lo hi)))
theorem sl_list:SlR X (rSlL X.K):=by
 intro f s E H x v vl G lo g J Q I u hs pl pu h;obtain⟨a,xs,rfl,B,q⟩:=h;cases u;obtain⟨C,r,j,D⟩:=I.list B;have e:=r.length;refine⟨"list",_,slot_list_getitem.lookup,j.isList.typeIs,?_⟩;refine wpAny_getItem_list_slice j.isList hs pl pu .none (by simp) ?_ (by rw[Be]<;>lia);rw[q8z,<- e];refine⟨.ref s.heap.objs.size,_,I.laid (t':=s.toks) (fun b L q=>Ai _ q) (Au _) ?_,rfl,q _ (I.hok.fresh (Au _))⟩;exact⟨Ce (q6v xs lo g) D,_,0,(r.drop (HT.sIx xs.length 0 lo)).take (HT.sIx xs.length xs.length g-HT.sIx xs.length 0 lo),Aw _ rfl⟩
noncomputable def flatV:V->Bool
 |.non=>true
 |.bl _=>true
 |.int _=>true
 |.str _=>true
 |_=>false
noncomputable def eqV:V->V->Bool
 |.non,.non=>true
 |.bl a,.bl b=>a==b
 |.bl a,.int b=>(if a then 1 else 0)==b
 |.int a,.bl b=>a==(if b then 1 else 0)
 |.int a,.int b=>a==b
 |.str a,.str b=>a==b
 |_,_=>false
theorem eqAt_V(g:RelV y u)(e:RelV x v)(j:flatV y=true)(h:flatV x=true):Em A s u v (eqV y x):=by
 cases y with
 |non =>
  cases g;cases x with
  |non=>cases e;exact Wh _
  |bl b=>cases e;exact Em.none_bool b
  |int b=>obtain⟨t,rfl⟩:=e;exact Em.none_int b t
  |str b=>obtain⟨t,rfl⟩:=e;exact Em.none_str b t
  |_=>exact absurd (show false=true from h) Bl
 |bl a =>
  cases g;cases x with
  |non=>cases e;exact Em.bool_none a
  |bl b=>cases e;exact Em.bool_bool a b
  |int b=>obtain⟨t,rfl⟩:=e;exact Em.bool_int a b t
  |str b=>obtain⟨t,rfl⟩:=e;exact Em.bool_str a b t
  |_=>exact absurd (show false=true from h) Bl
 |int a =>
  obtain⟨f,rfl⟩:=g;cases x with
  |non=>cases e;exact Em.int_none a f
  |bl b=>cases e;exact Em.int_bool a f b
  |int b=>obtain⟨t,rfl⟩:=e;exact Em.int_int a f b t
  |str b=>obtain⟨t,rfl⟩:=e;exact Tt a f b t
  |_=>exact absurd (show false=true from h) Bl
 |str a =>
  obtain⟨f,rfl⟩:=g;cases x with
  |non=>cases e;exact Em.str_none a f
  |bl b=>cases e;exact Em.str_bool a f b
  |int b=>obtain⟨t,rfl⟩:=e;exact Tu a f b t
  |str b=>obtain⟨t,rfl⟩:=e;exact Ot a f b t
  |_=>exact absurd (show false=true from h) Bl
 |_=>exact absurd (show false=true from j) Bl
noncomputable def eqU(x:V)(u:Value):Bool:=match u with
 |.none=>eqV .non x
 |.bool b=>eqV (.bl b) x
 |.int i _=>eqV (.int i) x
 |.str z _=>eqV (.str z) x
 |_=>false
theorem x1w(r:RelV y u)(f:flatV y=true):eqU x u=eqV y x:=by
 cases y with
 |non=>cases r;rfl
 |bl b=>cases r;rfl
 |int i=>obtain⟨t,rfl⟩:=r;rfl
 |str z=>obtain⟨t,rfl⟩:=r;rfl
 |_=>exact absurd (show false=true from f) Bl
theorem z2o{x:V}:∀{xs:List V} {us:List Value},Vals xs us->xs.all flatV=true->us.any (eqU x)=xs.any fun y=>eqV y x
 |_,_,.nil,_=>rfl
 |y::xs,u::us,.cons r t,f=>by
  rw[List.all_cons,Mr] at f;rw[Mm,Mm,x1w r f.1,z2o t f.2]
theorem q9a{A:Around}{s:Ag}{x:V}{v:Value}(g:RelV x v)(h:flatV x=true):∀{xs:List V} {us:List Value},Vals xs us->xs.all flatV=true->∀u∈us,Em A s u v (eqU x u)
 |_,_,.nil,_=>fun u e=>by cases e
 |y::xs,u::us,.cons r t,f=>fun j e=>by
  rw[List.all_cons,Mr] at f;rcases Bb.mp e with rfl|e
  ·rw[x1w r f.1];exact eqAt_V r g f.1 h
  ·exact q9a g h t f.2 j e
noncomputable def inV(x:V)(xs:List V):Bool:=xs.any fun y=>eqV y x
noncomputable def rIn(K:Aq)(neg:Bool):R2:=fun x y H Q=>∃p xs,y=.ref p/\(SqL K H p xs\/SqT K H p xs)/\flatV x=true/\xs.all flatV=true/\Q (.bl (if neg then !inV x xs else inV x xs)) H
theorem z6s:OpR X (Dg .In) (rIn X.K false):=by
 intro j s G H x y v u Q I B D h;obtain⟨p,xs,rfl,f,C,fs,q⟩:=h;cases D;rcases f with f|f
 ·obtain⟨e,r,pl,E⟩:=I.list f;refine SeqAt.in_listAt (eqU x) pl.isList (fun w g=>q9a B C r fs w (by simpa using g)) ⟨.bl _,H,I,rfl,?_⟩;rw[show e.toArray.any (eqU x)=e.any (eqU x) by simp,z2o r fs];exact q
 ·obtain⟨e,r,pl,E⟩:=I.tuple f;refine SeqAt.in_tupleAt (eqU x) pl (fun w g=>q9a B C r fs w (by simpa using g)) ⟨.bl _,H,I,rfl,?_⟩;rw[show e.toArray.any (eqU x)=e.any (eqU x) by simp,z2o r fs];exact q
theorem z0q:CallR X (.type "list") (fun xs H Q=>∃p ys,xs=[.ref p]/\(SqL X.K H p ys\/SqT X.K H p ys)/\∀l,H l=none->Q (.ref l) (upd H l (.lst ys))):=by
 intro B s M H xs P Q I r h;obtain⟨p,ys,rfl,C,q⟩:=h;obtain⟨u,rfl,O⟩:=vals1 r;cases O;have fin:∀(f:List Value),Vals ys f->ys.length<=sizeLine->∀(g:Heap) (j:Nat),(∀b L,s.heap.get? b=some L->g.get? b=some L) ->
   g.get? s.heap.objs.size=some { cls:=.type "list",dict:=none,data:=.seq f.toArray j,slots:=#[] }->EP X B M Q (.ref s.heap.objs.size) { s with heap:=g }:=fun f v D g j kp e =>
  ⟨.ref s.heap.objs.size,_,I.laid (t':=s.toks) kp (Au _) (show ObjOk X.prog X.w _ g _ (.lst ys) from⟨D,f,j,v,e⟩),rfl,q _ (I.hok.fresh (Au _))⟩
 rcases C with C|C
 ·obtain⟨f,v,pl,D⟩:=I.list C;have E:=v.length;obtain⟨o,G,J,n,hd⟩:=pl.isList;exact call_list_seq p (.inl rfl) G J hd (fun g j kp e=>fin f v D g j kp e) (by simp only[Be]<;>lia)
 ·obtain⟨f,v,pl,D⟩:=I.tuple C;have E:=v.length;obtain⟨o,G,J,n,hd⟩:=pl;exact call_list_seq p (.inr rfl) G J hd (fun g j kp e=>fin f v D g j kp e) (by simp only[Be]<;>lia)
theorem q9b:CallR X (.type "tuple") (fun xs H Q=>∃p ys,xs=[.ref p]/\((SqL X.K H p ys/\∀l,H l=none->Q (.ref l) (upd H l (.tup ys)))\/(SqT X.K H p ys/\Q (.ref p) H))):=by
 intro f s C H xs M Q I r h;obtain⟨p,ys,rfl,h⟩:=h;obtain⟨u,rfl,J⟩:=vals1 r;cases J;rcases h with⟨v,q⟩|⟨v,q⟩
 ·obtain⟨g,B,pl,D⟩:=I.list v;have E:=B.length;refine call_tuple_list pl.isList (fun j kp=>?_) (by simp only[Be]<;>lia);have G:Inv X f C H { s with heap:=j }:=I.kept (t':=s.toks) kp;have L:Inv X f C (upd H j.objs.size (.tup ys)) { s with heap:=j.push { cls:=.type "tuple",data:=.seq g.toArray } } :=
   G.laid (t':=s.toks) (fun b o e=>Ai _ e) (Au _) (show ObjOk X.prog X.w _ _ _ (.tup ys) from⟨D,g,B,Wv _ _⟩)
  exact⟨.ref j.objs.size,_,L,rfl,q _ (G.hok.fresh (Au _))⟩
 ·obtain⟨g,B,pl,D⟩:=I.tuple v;exact call_tuple_same pl ⟨.ref p,H,I,rfl,q⟩
noncomputable def tyV(K:Aq)(T:String)(x:V)(H:Hp):Prop:=match x with
 |.str _=>T = "str"
 |.int _=>T = "int"
 |.ref p=>(T = "list" /\ ∃xs,SqL K H p xs)\/(T = "tuple" /\ ∃o,K.lookup p=some o/\o.cls=.type "tuple" /\ o.dict=none) \/
   (T = "dict" /\ ((∃kvs,H p=some (.dK kvs))\/∃kvs,H p=some (.dT kvs)))\/(T = "set" /\ ∃S n,H p=some (.set S n))
 |_=>False
theorem x1x{q:St}(I:Inv X pins q H s)(r:RelV x v)(f:tyV X.K T x H):
  s.TypeIs v T/\∀a,v=.ref a->∃j,s.heap.get? a=some j/\j.dict=none:=by
 cases x with
 |str z =>
  obtain⟨t,rfl⟩:=r;cases(show T = "str" from f);exact⟨Su s z t,fun _ e=>nomatch e⟩
 |int i =>
  obtain⟨t,rfl⟩:=r;cases(show T = "int" from f);exact⟨Wi s i t,fun _ e=>nomatch e⟩
 |ref p =>
  cases r;rcases f with⟨rfl,xs,u⟩|⟨rfl,o,hk,B,hd⟩|⟨rfl,hk⟩|⟨rfl,S,n,hk⟩
  ·obtain⟨C,_,pl,_⟩:=I.list u;refine⟨pl.isList.typeIs,fun a e=>?_⟩;cases e;obtain⟨o,n,e,c,hd,_⟩:=pl;exact⟨o,e,hd⟩
  ·refine⟨⟨o,I.kIn p o hk,B⟩,fun a e=>?_⟩;cases e;exact⟨o,I.kIn _ o hk,hd⟩
  ·have z:∃o,s.heap.get? p=some o/\o.ExactDict:=by
    rcases hk with⟨g,hk⟩|⟨g,hk⟩
    ·obtain⟨_,_,_,_,o,_,_,e,ex,_⟩:=I.hok p _ hk;exact⟨o,e,ex⟩
    ·obtain⟨_,_,_,_,o,_,_,e,ex,_⟩:=I.hok p _ hk;exact⟨o,e,ex⟩
   obtain⟨o,e,ex⟩:=z;refine⟨⟨o,e,ex.1⟩,fun a h=>?_⟩;cases h;exact⟨o,e,ex.2.1⟩
  ·obtain⟨o,_,_,_,e,ex,_⟩:=I.hok p _ hk;refine⟨⟨o,e,ex.1⟩,fun a h=>?_⟩;cases h;exact⟨o,e,ex.2.1⟩
 |_=>exact False.elim f
noncomputable def tBM0(K:Aq)(T:String)(r:V->List V->Hp->VK->Prop)(to:TE):TE:=fun σ H Q=>to σ H fun x H1=>tyV K T x H1/\r x [] H1 Q
noncomputable def tBM(K:Aq)(T:String)(r:V->List V->Hp->VK->Prop)(to:TE)(t:TA):TE:=fun σ H Q=>to σ H fun x H1=>tyV K T x H1/\t σ H1 fun xs H2=>r x xs H2 Q
variable{o e:Expr}{es:List Expr}{to:TE}{t:TA}{name:Str}{apos cpos:Pos}{T id:String}{r:V->List V->Hp->VK->Prop}
theorem pe_bm0(C:Sv T)(slot:Slot T name id)(j:typeOf (.builtin id)=pure (.type "method_descriptor"))(D:MtR X id r)(E:PE X o to)(f:Gz o name X.env (eval o X.env)=eval o X.env:=by rfl)(g:(apos.endLine==cpos.line)=true:=by rfl):PE X (.Call (.Attribute o name apos) [] [] cpos) (tBM0 X.K T r to):=by
 intro e s q H Q I h;refine wpAny_Call_method0_late f g (thn (E e s q H _ I h) fun v G ⟨x,J,u,B,L,M⟩=>?_);obtain⟨O,P⟩:=x1x u B L;exact⟨T,id,C,slot,j,O,P,Ji rfl (PySem.evalArgs_none (D e G q J x [] v [] Q u B .nil M))⟩
theorem pe_bm(J:Sv T)(slot:Slot T name id)(B:typeOf (.builtin id)=pure (.type "method_descriptor"))(L:MtR X id r)(M:PE X o to)(ha:PA X (e::es) t)(j:Gz o name X.env (eval o X.env)=eval o X.env:=by rfl)(u:((Gj cpos (Bk (e::es) X.env)).all (fun x => !x.1)&&(Mp cpos (Jg [] X.env)).all (fun x=>x.1.isSome)
   && decide ((e::es).length+([]:List Oi).length+(if ([]:List Oi).isEmpty then 0 else 1)<30))=true:=by rfl)(q:(apos.endLine==cpos.line)=true:=by rfl)(hs:Bk (e::es) X.env=(false,eval e X.env)::Bk es X.env:=by rfl)(g:(Gj cpos (Bk es X.env)).any (·.1)=false:=by rfl):
  PE X (.Call (.Attribute o name apos) (e::es) [] cpos) (tBM X.K T r to t):=by
 intro f s C H Q I h;refine wpAny_Call_method_late j u q rfl (thn (M f s C H _ I h) fun v O ⟨x,P,D,E,R,S⟩=>?_);obtain⟨U,W⟩:=x1x D E R;refine⟨T,id,J,slot,B,U,W,?_⟩;have G:=ha cpos f O C P _ D S;rw[hs] at G ⊢;refine Ji (by show(false||(Gj cpos (Bk es X.env)).any (·.1))=false;rw[g]<;>rfl) (Nl ?_);exact thn G fun Y Z ⟨vs,H2,I2,r2,q2⟩=>L f Z C H2 x vs v Y Q I2 E r2 q2
end
noncomputable def MtM(X:Cx)(id:String)(r:V->List V->Hp->VK->Prop):Prop :=
 ∀(pins:List (Addr×Obj)) (s:Ag) (σ:St) (H:Hp) (x:V) (xs:List V) (v:Value) (us:List Value) (Q:VK),Inv X pins σ H s->RelV x v->Vals xs us->r x xs H Q ->
  wpAny (model X.prog X.w) X.A (call (.builtin id) (v::us)) (EP X pins σ Q) X.xe s
theorem Vals.one:∀{x:V} {us:List Value},Vals [x] us->∃u,us=[u]/\RelV x u
 |_,_,.cons r .nil=>⟨_,rfl,r⟩
theorem Vals.two:∀{x y:V} {us:List Value},Vals [x,y] us->∃u v,us=[u,v]/\RelV x u/\RelV y v
 |_,_,_,.cons r (.cons q .nil)=>⟨_,_,rfl,r,q⟩
theorem Vals.zero:∀{us:List Value},Vals [] us->us=[]
 |_,.nil=>rfl
theorem Vals.eraseIdx:∀{xs:List V} {us:List Value} (i:Nat),Vals xs us->Vals (xs.eraseIdx i) (us.eraseIdx i)
 |_,_,_,.nil=>.nil
 |_,_,0,.cons _ t=>t
 |_,_,i+1,.cons r t=>.cons r (Vals.eraseIdx i t)
theorem Vals.rep{xs:List V}{e:List Value}(h:Vals xs e):∀k:Nat,Vals (List.replicate k xs).flatten (List.replicate k e).flatten
 |0=>.nil
 |k+1=>by
  rw[Of,Of,Pk,Pk];exact Vals.append h (Vals.rep h k)
theorem z0r{e:Type}:∀(l:List e) (i:Nat),(l.eraseIdx i).length<=l.length
 |[],_=>Au _
 |_::_,0=>Jh _
 |_::r,i+1=>Ij (z0r r i)
theorem z0s(f:List Value):∀(k:Nat) (acc:List Value),
  List.foldl (fun g h=>g++h) acc.toArray (List.replicate k f.toArray)=(acc++(List.replicate k f).flatten).toArray
 |0,acc=>by simp
 |k+1,acc=>by
  have e:acc.toArray++f.toArray=(acc++f).toArray:=by simp
  have j:(acc++f)++(List.replicate k f).flatten=acc++(List.replicate (k+1) f).flatten:=by grind
  rw[<- j,<- z0s f k (acc++f),<- e,Of,Wj]
section
variable{X:Cx}{pins:List (Addr×Obj)}{σ:St}{H:Hp}{s:Ag}{l b:Addr}{xs ys zs:List V}
theorem Inv.lset{g:List Value}(I:Inv X pins σ H s)(h:H l=some (.lst xs))(e:s.heap.get? l=some { cls:=.type "list",data:=.seq g.toArray n })(j:f g.toArray=its'.toArray)(v:Vals ys its')(B:ys.length<=sizeLine):
  Inv X pins σ (upd H l (.lst ys)) { s with heap:=s.heap.update l (Dp f),toks:=t' }:=by
 have q:=PySem.IsL.update e f;rw[j] at q;refine I.write (by rw[h];exact trivial) (.inl rfl) (fun E u C D=>(Cm s.heap (Dp f) (Ei C)).trans D) ⟨_,q⟩ ?_;exact⟨B,its',_,v,q⟩
theorem Inv.lnew(I:Inv X pins σ H s)(e:Vals ys its)(f:ys.length<=sizeLine):
  Inv X pins σ (upd H s.heap.objs.size (.lst ys)) { s with heap:=s.heap.push { cls:=.type "list",data:=.seq its.toArray },toks:=t' } :=
 I.laid (fun _ _ q=>Ai _ q) (Au _) ⟨f,its,0,e,Aw _ rfl⟩
theorem Inv.fresh(I:Inv X pins σ H s):H s.heap.objs.size=none:=I.hok.fresh (Au _)
theorem Inv.lstM(I:Inv X pins σ H s)(g:H l=some (.lst xs)):xs.length<=sizeLine/\∃(f:List Value) (n:Nat),Vals xs f/\xs.length=f.length/\s.heap.get? l=some { cls:=.type "list",data:=.seq f.toArray n }:=by
 obtain⟨z,f,n,r,e⟩:=I.hok l _ g;exact⟨z,f,n,r,r.length,e⟩
theorem notLongL(h:n<=sizeLine):Qh n=false:=by
 exact decide_eq_false (by lia)
end
section
variable{X:Cx}
noncomputable def rAppend:V->List V->Hp->VK->Prop:=fun x vs H Q=>∃l xs y,x=.ref l/\vs=[y]/\H l=some (.lst xs)/\xs.length<sizeLine/\Q .non (upd H l (.lst (xs++[y])))
theorem q2f:MtM X "list.append" rAppend:=by
 intro g s E H x vs v G Q I B C h;obtain⟨l,xs,y,rfl,rfl,j,J,q⟩:=h;cases B;obtain⟨u,rfl,D⟩:=C.one;obtain⟨z,f,n,r,hl,e⟩:=I.lstM j;refine Kb F.slot_list_append ⟨_,e,rfl⟩ F.entry_list_append (F.args_list_append_2 _ _) (PySem.list_append l f.toArray n u (by rw[Be];lia)) ⟨e,?_⟩;refine⟨.non,_,I.lset (its':=f++[u]) j e (by simp) (r.append (.cons D .nil)) ?_,rfl,q⟩;rw[Al,Cr];lia
noncomputable def rPopAt:V->List V->Hp->VK->Prop:=fun x vs H Q=>∃l xs i k y,x=.ref l/\vs=[.int i]/\H l=some (.lst xs) /\ -(2^63)<=i/\i<2^63/\Qx i xs.length=some k/\xs[k]?=some y/\Q y (upd H l (.lst (xs.eraseIdx k)))
theorem q9c:MtM X "list.pop" rPopAt:=by
 intro j s O H x vs v P Q I C D h;obtain⟨l,xs,i,k,y,rfl,rfl,B,E,G,hk,J,q⟩:=h;cases C;obtain⟨u,rfl,L⟩:=D.one;obtain⟨t,rfl⟩:=L;obtain⟨z,f,n,r,hl,e⟩:=I.lstM B;obtain⟨w,M,g⟩:=r.get J;refine Kb F.slot_list_pop ⟨_,e,rfl⟩ F.entry_list_pop (F.args_list_pop_2 _ _)
  (MeetsSeq.list_pop_at l f.toArray n i t k w (fitsIndex_both E G) (by rw[Be,<- hl];exact hk) (by rw[<- Jq];exact M) (by rw[Be];lia)) ⟨e,?_⟩
 refine⟨y,_,I.lset (its':=f.eraseIdx k) B e ?_ (r.eraseIdx k) ?_,g,q⟩
 ·simp_all
 ·have:=z0r xs k;lia
noncomputable def rCat:R2:=fun x y H Q=>∃l b xs zs,x=.ref l/\y=.ref b/\H l=some (.lst xs)/\H b=some (.lst zs)/\xs.length+zs.length<=sizeLine/\∀p,H p=none->Q (.ref p) (upd H p (.lst (xs++zs)))
theorem op_cat:OpR X (Hd .Add) rCat:=by
 intro j s O H x y v u Q I B C h;obtain⟨l,b,xs,R,rfl,rfl,D,E,S,q⟩:=h;cases B;cases C;obtain⟨z,g,n,r,hl,e⟩:=I.lstM D;obtain⟨T,f,U,G,J,L⟩:=I.lstM E;refine PySem.P.add_list e L ?_ (by rw[Be,Be];lia);have M:g.toArray++f.toArray=(g++f).toArray:=by simp
 rw[M];exact⟨.ref _,_,I.lnew (t':=s.toks) (r.append G) (by rw[Al];lia),rfl,q _ I.fresh⟩
noncomputable def rRep:R2:=fun x y H Q=>∃l k xs,x=.ref l/\y=.int k/\H l=some (.lst xs) /\ -(2^63)<=k/\k<2^63/\xs.length*k.toNat<=sizeLine /\
 ∀p,H p=none->Q (.ref p) (upd H p (.lst (List.replicate k.toNat xs).flatten))
theorem x3d{e:Type}(xs:List e)(k:Nat):(List.replicate k xs).flatten.length=k*xs.length:=by simp_all
theorem op_rep:OpR X (Hd .Mult) rRep:=by
 intro J s U H x y v u Q I L M h;obtain⟨l,k,xs,rfl,rfl,O,P,R,S,q⟩:=h;cases L;obtain⟨t,rfl⟩:=M;obtain⟨z,f,n,r,hl,e⟩:=I.lstM O;have j:f.toArray.size*k.toNat<=sizeLine:=by simp_all
 have B:¬f.toArray.size*k.toNat>(2^63-1) / 8:=by
  have:(sizeLine:Nat)<=(2^63-1) / 8:=by decide
  lia
 have C:¬(!Builtin.List.listFitsIndex k)=true:=by
  rw[fitsIndex_both P R];exact Bl
 have g:¬Qh (f.toArray.size*k.toNat)=true:=by
  rw[notLongL j];exact Bl
 have D:List.foldl (fun E G=>E++G) #[] (List.replicate (if f.toArray.isEmpty=true then 0 else k.toNat) f.toArray)=(List.replicate k.toNat f).flatten.toArray:=by
  have W:∀m:Nat,List.foldl (fun E G=>E++G) #[] (List.replicate m f.toArray)=(List.replicate m f).flatten.toArray:=fun m=>by
   have:=z0s f m [];exact this
  cases f with
  |nil=>simp
  |cons a r'=>grind
 refine wpAny_binaryOp_repeat_ref (by decide) ⟨_,e,rfl⟩ (fun T=>Wi T k t) noFill_list_mul F.fills_int_mul Wk repeat_list F.slot_int_index.lookup
  (Kb Wk (Wi s k t) F.entry_int_rmul (F.args_int_rmul_2 _ _) (int___rmul___int_list k t l f.toArray n)
   ⟨e,rfl,⟨_,e,rfl⟩,Kb F.slot_list_mul ⟨_,e,rfl⟩ F.entry_list_mul (F.args_list_mul_2 _ _) (AutoListH.list___mul___list_int_3 l f.toArray n k t C B g) ⟨e,?_⟩⟩)
 rw[D];exact⟨.ref _,_,I.lnew (t':=s.toks) (r.rep k.toNat) (by rw[x3d,Nat.mul_comm];exact S),rfl,q _ I.fresh⟩
end
end L2
namespace Att
open PySem PySem.W PySem.Calls PyProof.Rows
theorem q6w:∀(ns:List Int) (vs:List Value),WellAll P h vs (ns.map WData.int)->Um vs ns:=by
 intro ns;induction ns with
 |nil =>
  intro vs w;cases w;exact .nil
 |cons n ns ih =>
  intro vs w;cases w with
  |cons a b =>
   cases a;exact .cons _ _ (ih _ b)
theorem z6t{l:OpenLaw}(u:l.most=some n)(e:l.row.toRowW.claim.pre args=true)(j:WellAll P h vals args):
  ∃a vs ns,vals=[Value.ref a]/\args=[WData.list (ns.map WData.int)]/\h.get? a=some { cls:=.type "list",data:=.seq vs.toArray }/\Um vs ns/\ns.length<=n:=by
 have q:=(pre_splitW e).1;have v:l.pre.holds [] { args:=args }=true:=(pre_splitW e).2;obtain⟨d,r,rfl,B,C⟩:=hasAllW_cons q;obtain rfl:=hasAllW_nil C;obtain⟨xs,rfl,D⟩:=hasW_list B;obtain⟨ns,rfl⟩:=items_int D;have f:ns.length<=n:=by
  have g:(WTm.not (.lt (.lit (.int (n:Int))) (.len (.arg 0)))).holds [] { args:=[.list (ns.map .int)] }=true:=by
   have g:=(holds_andW v).1;rw[u] at g;exact g
  have s:=condW_of g (w_not (w_lt w_lit (w_len_list (w_arg rfl))));first
   |(rw[decide_eq_true q'] at s;exact absurd s (by decide))
   |(simp at s;lia)
 cases j with
 |cons w1 w2 =>
  cases w2;cases w1 with
  |list ho hall=>exact⟨_,_,ns,rfl,rfl,ho,q6w ns _ hall,f⟩
theorem z6u(l:OpenLaw)(args:List WData):l.row.toRowW.claim.post args (.bool true) args=true :=
 postW_of
  (show WShape.has [] (.bool true) .bool=true by first|rfl|decide|simp[WShape.has,WShape.arms,WShape.armsAll])
  (show(WTm.eq .res (.lit (.bool true))).value [] { args:=args,res:=some (.bool true),after:=args }=some (.bool (true==true)) from w_eq_bool (w_res rfl) w_lit) rfl
theorem attach_call{l:OpenLaw}(P:l.most=some n)(C:d.params.defaults=[])(call:∀(w:World) (s₀ e:Ag) (mg D:Str->Option Value) (fa:Addr) (o:Obj) (pm v g:Value) (a:Addr) (vs:List Value) (ns:List Int),
   Ground q loose [] XP w s₀ mg D e.heap->YP w e.heap ->
   e.heap.get? fa=some o->o.data=.func (docDef d.name d.params d.body d.scope pm v g)->e.heap.CodeRec v d.name->mg d.name=some (.ref fa) ->
   e.heap.get? a=some { cls:=.type "list",data:=.seq vs.toArray }->Um vs ns->ns.length<=n->e.gens=#[] ->
   Fu (model l.prog w) Qb (.call (.ref fa) ⟨[.ref a],[]⟩) (fun r B=>r=.ok (.ret (.bool true))/\OldK e.heap B.heap/\B.os=e.os/\Mu B.gens) e):
  WalkO q loose XP YP l.row.toRowW d [] (fun f vs=>Wl f vs):=by
 intro w s₀ e mg D G Y fa o pm v g Q kV R hd E J H S L M as j O T I U;obtain rfl:Q=.none:=Dflts.none J C;obtain rfl:kV=.none:=Dflts.noKw J;obtain⟨a,vs,ns,rfl,rfl,s,h,u⟩:=z6t P j I;refine enter_call (Ii (call w s₀ e mg D fa o pm v g a vs ns G Y R (fd_plain hd) E H s h u S) fun r B W=>?_);obtain⟨rfl,X,Z,h4⟩:=W;exact⟨.inl ⟨.bool true,.bool true,[],rfl,fun _=>rfl,.bool true,z6u l _,fun _=>⟨List.Pairwise.nil,fun _ hm=>(nomatch hm)⟩⟩,X,Z,h4⟩
end Att
namespace L2
open PySem PySem.Spec PyProof.Rows
theorem z0t:∀{vs:List Value} {ns:List Int},Um vs ns->Vals (ns.map V.int) vs
 |_,_,.nil=>.nil
 |_,_,.cons n t h=>.cons ⟨t,rfl⟩ (z0t h)
noncomputable def Only(H:Hp):Prop:=∀b,H b=none\/∃o xs,H b=some (.frz o (.lst xs))
theorem z9x{K:Aq}(S:K.In s₁.heap)(E:s₁.heap.Ns Ef mg)(C:s₁.heap.Ns builtinsNs mb)(M:∀x:Str,x ≠ "__name__" -> mb x=Hi x)(G:s₁.heap.NoLimit)(Z:s₁.gens=#[])(ha:s₁.heap.get? a=some { cls:=.type "list",data:=.seq vs.toArray })(T:Um vs ns)(hl:ns.length<=sizeLine)(hr:Room k Qb)(F:∀base:Heap,K.In base->base.Ns Ef mg->FnOk P w K mg base CX k fa fd [x] sp)(D:∀(s:Ag) (u:Value),Sa s fd ⟨[u],[]⟩ [(x,u)])(O:∀H:Hp,Only H->SqL K H a (ns.map V.int)->sp [.ref a] H (fun v _=>v=.bl true) fun _ _ _=>False)(Q:∀H e g,CX [] H s₁ (fun _ _ _=>False) e g->False):
  Fu (model P w) Qb (.call (.ref fa) ⟨[.ref a],[]⟩) (fun r g=>r=.ok (.ret (.bool true))/\OldK s₁.heap g.heap/\g.os=s₁.os/\Mu g.gens) s₁:=by
 have U:=z0t T;have I:=T.length;have B:∀H:Hp,Only H->SqL K H a (ns.map V.int)->HOk P w H s₁.heap->(∀b,H b≠none->b=a)->(H a≠none->K.lookup a=none) ->
   Fu (model P w) Qb (.call (.ref fa) ⟨[.ref a],[]⟩) (fun r g=>r=.ok (.ret (.bool true))/\OldK s₁.heap g.heap/\g.os=s₁.os/\Mu g.gens) s₁:=by
  intro H W hS hok X hK;have f:∀{b:Addr} {o:Obj},s₁.heap.get? b=some o->H b=none->(hidT s₁.heap H).get? b=some o:=fun e n=>z9l e n;have R:∀{b:Addr} {o:Obj} {es:Array Oo} {ep:Nat},s₁.heap.get? b=some o->o.data=.dict es ep->H b=none:=fun{b o es ep} e d=>by
   cases q:H b with
   |none=>rfl
   |some u =>
    have e':=X b (by rw[q];simp);subst e';rw[ha] at e;cases e;have d':=d;cases d'
  have j:∀{b:Addr} {m:Str->Option Value},s₁.heap.Ns b m->(hidT s₁.heap H).Ns b m:=fun{b m} ⟨o,es,ep,e,d,r⟩=>⟨o,es,ep,f e (R e d),d,r⟩
  have J:=fun b o e=>f (S b o e) (by
   cases q:H b with
   |none=>rfl
   |some u =>
    have e':=X b (by rw[q];simp);subst e';rw[hK (by rw[q];simp)] at e;cases e)
  have hM:Mod K mg (hidT s₁.heap H):=⟨J,j E,⟨mb,j C,M⟩,let ⟨mc,h1,h2⟩:=G;⟨mc,j h1,h2⟩⟩
  have e0:Env0 P w K mg (hidT s₁.heap H) Qb [] s₁ H:=⟨rfl,hM,fun b o e=>x2v e,Kx (z6d _ _),trivial,fun b C=>absurd (show b∈([]:List Addr) from C) (by simp),hok,.of_eq Z⟩
  refine Ii ((F _ J (j E)).run Qb [] s₁ H ⟨[.ref a],[]⟩ [.ref a] [.ref a] _ _ hr e0 (D s₁ (.ref a)) (.cons rfl .nil) (O H W hS)) fun r g h=>?_;cases r with
  |error e=>exact(Q H e g h).elim
  |ok fl =>
   cases fl with
   |next=>exact False.elim h
   |brk=>exact False.elim h
   |cont=>exact False.elim h
   |ret u =>
    obtain⟨v,H',os,bare,un,L,r',q⟩:=h;have q':=q;subst q';obtain rfl:u=Value.bool true:=r';refine⟨rfl,OldK.of_keep fun b o e=>?_,os,bare⟩;cases q:H b with
    |none=>exact un.keep b o e q (by intro z;exact absurd (show b∈([]:List Addr) from z) (by simp)) (by simp)
    |some u =>
     rcases W b with z|⟨ob,xs,z⟩
     ·grind
     ·have z2:=un.frzs b ob _ z;obtain⟨Y,_⟩:=hok b _ z;obtain⟨e2,_⟩:=L b _ z2;rw[e] at Y;cases Y;exact e2
 cases hk:K.lookup a with
 |some o =>
  have e:=S a o hk;rw[ha] at e;cases e;refine B (fun _=>none) (fun _=>.inl rfl) (.inr ⟨_,vs.toArray,_,hk,rfl,rfl,rfl,by rw[Be,I];exact hl,by simpa using U⟩) (fun b u z=>by have z':(none:Option HO)=some u:=z;cases z') (fun b z=>absurd rfl z) fun z=>absurd rfl z
 |none =>
  refine B (fun b=>if b=a then some (.frz { cls:=.type "list",data:=.seq vs.toArray } (.lst (ns.map V.int))) else none) (fun b=>?_) (.inl (.inr ⟨{ cls:=.type "list",data:=.seq vs.toArray },if_pos rfl⟩)) (fun b u z=>?_) (fun b z=>?_) fun _=>hk
  ·by_cases C:b=a
   ·simp_all
   ·simp_all
  ·by_cases C:b=a
   ·have z':=(if_pos C).symm.trans z;cases z';subst C;exact⟨ha,by rw[Aa];exact hl,vs,_,U,ha⟩
   ·grind
  ·grind
theorem walk_of{l:Ww}{K:Params->Aq}{CX:World->CXT}{sp:World->Sp}(Q:l.most=some n)(E:n<=sizeLine)(I:d.params.defaults=[])(R:Room k Qb)(S:∀(w:World) (h:Heap),YP w h->(K w.params).In h)(F:∀(w:World) (mg:Str->Option Value) (fa:Addr) (h:Heap),(K w.params).In h->h.Ns Ef mg->mg d.name=some (.ref fa) ->
   ∃fd:Mo,(∀(s:Ag) (u:Value),Sa s fd ⟨[u],[]⟩ [(x,u)]) /\
    ∀base:Heap,(K w.params).In base->base.Ns Ef mg->FnOk l.prog w (K w.params) mg base (CX w) k fa fd [x] (sp w))(J:∀(w:World) (H:Hp) (a:Addr) (ns:List Int),ns.length<=n->Only H->SqL (K w.params) H a (ns.map V.int)->sp w [.ref a] H (fun v _=>v=.bl true) fun _ _ _=>False)(L:∀(w:World) (H:Hp) (s:Ag) (e:Value) (M:Ag),CX w [] H s (fun _ _ _=>False) e M->False):
  W.WalkO q loose XP YP l.row.toRowW d [] (fun f vs=>Wl f vs):=by
 refine Att.attach_call Q I fun w s₀ C mg mb fa o pm cd U a vs ns G Y ho hd X O D B j Z=>?_;have P:=S w _ Y;obtain⟨fd,hb,hF⟩:=F w mg fa _ P G.T.g O;exact z9x P G.T.g G.T.b G.T.builtins G.T.nolimit Z D B (Ce j E) R hF hb (fun H hO hS=>J w H a ns j hO hS) fun H e M=>L w H C e M
noncomputable def inClass(s:Stmt)(j:Nat):Stmt:=match s with
 |.ClassDef _ _ _ body _ _ _ _ _ _ _=>body.getD j (.Pass ⟨0,0,0,0⟩)
 |_=>.Pass ⟨0,0,0,0⟩
noncomputable def defArgs(s:Stmt):Arguments:=match s with
 |.FunctionDef _ a _ _ _ _ _ _ _ _=>a
 |_=>{ posonlyargs:=[],args:=[],vararg:=none,kwonlyargs:=[],kw_defaults:=[],kwarg:=none,defaults:=[] }
noncomputable def defBody(s:Stmt):List Stmt:=match s with
 |.FunctionDef _ _ b _ _ _ _ _ _ _=>b
 |_=>[]
noncomputable def defScope(s:Stmt):Scope:=match s with
 |.FunctionDef _ _ _ _ _ _ sc _ _ _=>sc
 |_=>{ kind:=.function,names:=[],isGenerator:=false,isCoroutine:=false }
noncomputable abbrev CX0:CXT:=fun _ _ _ _ _ _=>False
noncomputable abbrev E0:XK:=fun _ _ _=>False
theorem pass0:Passes CX0 X E0:=fun _ _ _ _ _ _ _ h=>h.elim
structure Fun (K:Aq) (x qual:Str) (st:Stmt) (f:Addr) (fd:Mo):Prop where
 ex:∃(oc:Value) (od:Option Addr) (kV doc pm:Value) (an:Option Addr) (cdv ct:Value) (osl:Array (Option Value)),
  fd=Jp x qual (defArgs st) (defBody st) (defScope st) .none kV doc pm an cdv ct/\K.lookup f=some ⟨oc,od,.func fd,osl⟩/\Mq K cdv qual=true
 kp:Ih K (.ref f)=true
section
variable{P:Ay}{w:World}{K:Aq}{mg:Str->Option Value}{base:Heap}
theorem Fun.ok{st:Stmt}(F:Fun K x qual st f fd)(S:FnScope N ps (defScope st))(len:∀vs H Q E,sp vs H Q E->vs.length=ps.length)(g:∀(e:Value) (A:Around) (outer:List Env) (s:Ag) (H:Hp) (vs:List V) (Q:VK) (E:XK),Room k (A.deeper (Kz qual (defScope st) s.heap.objs.size f e))->sp vs H Q E ->
   ∃t,PSs (cxOf CX0 P w K mg base N qual (defScope st) f e A outer s H E).nox (defBody st) t/\t { nx:=fun _ H'=>Q .non H',rt:=Q } (start N vs) H):FnOk P w K mg base CX0 (k+1) f fd ps sp:=by
 obtain⟨G,I,kV,v,pm,J,e,ct,B,rfl,C,j⟩:=F.ex;refine fn_of C j S len fun A outer s H vs Q E D u=>?_
 obtain⟨t,h,q⟩:=g e A outer s H vs Q E D u;exact⟨t,h.nox,q⟩
theorem Fun.binds{st:Stmt}(F:Fun K x qual st f fd)(h:∀(kV e pm:Value) (j:Option Addr) (g ct:Value) (us:List Value),us.length=ps.length->bindArgs (Jp x qual (defArgs st) (defBody st) (defScope st) .none kV e pm j g ct) ⟨us,[]⟩=pure (ps.zip us)):Binds K fd ps []:=by
 obtain⟨u,v,kV,e,pm,j,g,ct,q,rfl,B,s⟩:=F.ex;exact .all (h kV e pm j g ct)
theorem z0u{st:Stmt}{kV:Value}(l:K.lookup f=some ⟨oc,od,.func (Jp x qual (defArgs st) (defBody st) (defScope st) .none kV doc pm an cdv ct),osl⟩)(c:Mq K cdv qual=true)(k:Ih K (.ref f)=true):Fun K x qual st f (Jp x qual (defArgs st) (defBody st) (defScope st) .none kV doc pm an cdv ct):=⟨⟨oc,od,kV,doc,pm,an,cdv,ct,osl,rfl,l,c⟩,k⟩
end
theorem q1q(e:Room k A):A.units+1<cLine:=Lb (Ti (by decide:1<=64) _) e.units
section
variable{X:Cx}
theorem pv(i:Nat){x:Str}{e:Pos}(g:X.N[i]?=some x:=by rfl)(h:Vis X.env.scope x:=by first|exact Or.inl rfl|exact Or.inr (Or.inl rfl)|exact Or.inr (Or.inr rfl))(hd:(x==("__debug__" : Str))=false:=by decide)(f:(x==("__classdict__" : Str))=false:=by decide):PE X (.Name x e) (tVar i):=pe_var g h hd f
end
theorem iteF{B:Prop}(h:B):if false=true then A else B:=by
 exact h
theorem iteT{B:Prop}(h:A):if true=true then A else B:=by
 exact h
theorem ite2{B:Prop}[Decidable c](e:c->A)(f:¬c->B):if c then A else B:=by grind
noncomputable def Same(H H':Hp):Prop:=∀b o,H b=some o->H' b=some o
theorem Same.refl(H:Hp):Same H H:=fun _ _ h=>h
theorem Same.trans(a:Same H H1)(b:Same H1 H2):Same H H2:=fun c o h=>b c o (a c o h)
theorem Same.free(e:Same H H')(h:H' l=Option.none):H l=Option.none:=by
 cases q:H l with
 |none=>rfl
 |some o =>
  rw[e l o q] at h;cases h
theorem Same.seq{K:Aq}(e:Same H H')(h:SqL K H a xs):SqL K H' a xs:=by
 rcases h with(h|⟨o,h⟩)|h
 ·exact .inl (.inl (e _ _ h))
 ·exact .inl (.inr ⟨o,e _ _ h⟩)
 ·exact .inr h
noncomputable abbrev Caps:=List (Str×Nat)
noncomputable def capV(σ:St):Caps->St
 |[]=>[]
 |(_,i)::r=>(σ[i]?).join::capV σ r
noncomputable def CapOk(X:Cx)(scope:Scope):Caps->Prop
 |[]=>True
 |(x,i)::r=>(X.N[i]?=some x/\scope.names.lookup x=some .free/\(X.env.scope.names.lookup x=some .cell\/X.env.scope.names.lookup x=some .free))/\CapOk X scope r
noncomputable def cxComp(X:Cx)(N:List Str)(scope:Scope)(cl:List (Str×Addr))(C:Addr)(fp:List Addr)(s:Ag)(H:Hp):Cx where
 prog:=X.prog
 w:=X.w
 K:=X.K
 mg:=X.mg
 base:=X.base
 A:=X.A
 N:=N
 s₀:=s
 H₀:=H
 env:=Gv scope cl C X.env
 outer:=X.stack
 stack:=X.stack
 ex:=fp
 fn:=fun _=>false
 calm:=X.calm
 pn:=[]
 xe:=fun _ _=>False
theorem z5d(names:List (Str×Bo))(g:∀x,(x,Bo.free)∈names->∃c,env.cells.lookup x=some c):∀acc:List (Str×Addr),
  ∃cl,(forIn names acc (fun(x:Str×Bo) (r:List (Str×Addr))=>match x with
   |(name,kind)=>if (kind==Bo.free)=true then do let a<-cellOf env name;pure (ForInStep.yield ((name,a)::r)) else pure (ForInStep.yield r)):Sem (List (Str×Addr)))=pure cl /\
   (∀x c,(x,c)∈cl->(x,c)∈acc\/env.cells.lookup x=some c)/\(∀x,((x,Bo.free)∈names\/∃c,(x,c)∈acc)->∃c,(x,c)∈cl):=by
 induction names with
 |nil=>intro acc;exact⟨acc,rfl,fun x c h=>.inl h,fun x h=>h.elim (fun z=>nomatch z) id⟩
 |cons n r ih =>
  intro acc;obtain⟨name,kind⟩:=n;by_cases hk:kind=Bo.free
  ·subst hk;obtain⟨c,s⟩:=g name As;obtain⟨cl,e,j,q⟩:=ih (fun x f=>g x (Am _ f)) ((name,c)::acc);refine⟨cl,?_,fun x d hd=>?_,fun x f=>?_⟩
   ·rw[Qy];have:cellOf env name=pure c:=by unfold cellOf;rw[s]
    simp only[beq_self_eq_true,if_true,this];exact e
   ·rcases j x d hd with z|z
    ·rcases Bb.mp z with z|z
     ·cases z;exact .inr s
     ·exact .inl z
    ·exact .inr z
   ·refine q x ?_;rcases f with f|⟨d,hd⟩
    ·rcases Bb.mp f with z|z
     ·simp_all
     ·exact .inl z
    ·grind
  ·obtain⟨cl,e,j,q⟩:=ih (fun x f=>g x (Am _ f)) acc;refine⟨cl,?_,j,fun x f=>q x ?_⟩
   ·simp_all
   ·grind
theorem q9d{cl:List (Str×Addr)}(h:(x,c)∈cl):∃d,cl.lookup x=some d:=by
 induction cl with
 |nil=>cases h
 |cons y r ih =>
  obtain⟨n,a⟩:=y;cases e:x==n with
  |true=>simp_all
  |false =>
   rcases Bb.mp h with z|z
   ·cases z;simp at e
   ·obtain⟨d,hd⟩:=ih z;exact⟨d,by simp only[Kc,e];exact hd⟩
theorem z5e(f:∀x,(x,Bo.free)∈scope.names->∃c,env.cells.lookup x=some c):
  ∃cl,Wm scope env=pure cl/\(∀x c,cl.lookup x=some c->env.cells.lookup x=some c)/\∀x,(x,Bo.free)∈scope.names->∃c,cl.lookup x=some c:=by
 obtain⟨cl,e,g,j⟩:=z5d scope.names f [];refine⟨cl,?_,fun x c h=>?_,fun x q=>?_⟩
 ·unfold Wm;have s:=congrArg (fun m:Sem (List (Str×Addr))=>m >>= fun u=>(pure u:Sem _)) e;exact s
 ·rcases g x c (Gg h) with z|z
  ·cases z
  ·exact z
 ·obtain⟨c,v⟩:=j x (.inl q);exact q9d v
theorem q4i{env:Env}{k:Bo}(hk:k=.cell\/k=.free):∀{names:List (Str×Bo)} {x:Str},(∀y∈names,y.2≠.cell) ->
  (names.map fun(n,k)=>if (k==Bo.free&&env.scope.kind==.function&&env.kindOf n==some .cell) then(n,Bo.cell) else(n,k)).lookup x=some k->(x,Bo.free)∈names
 |[],_,_,h=>by simp at h
 |(n,k')::r,x,hc,h=>by
  have f:=@q4i env k hk r x fun y g=>hc y (Am _ g);by_cases c:(k'==Bo.free&&env.scope.kind==.function&&env.kindOf n==some .cell)=true
  ·have h':((n,Bo.cell)::r.map fun(n,k)=>if (k==Bo.free&&env.scope.kind==.function&&env.kindOf n==some .cell) then(n,Bo.cell) else(n,k)).lookup x=some k:=by
    have e:(if (k'==Bo.free&&env.scope.kind==.function&&env.kindOf n==some .cell)=true then(n,Bo.cell) else(n,k'))=(n,Bo.cell):=if_pos c;rw[<- e];exact h
   cases e:x==n with
   |true =>simp_all
   |false=>exact Am _ (f (by simp only[Kc,e] at h';exact h'))
  ·have h':((n,k')::r.map fun(n,k)=>if (k==Bo.free&&env.scope.kind==.function&&env.kindOf n==some .cell) then(n,Bo.cell) else(n,k)).lookup x=some k:=by
    have e:(if (k'==Bo.free&&env.scope.kind==.function&&env.kindOf n==some .cell)=true then(n,Bo.cell) else(n,k'))=(n,k'):=if_neg c;rw[<- e];exact h
   cases e:x==n with
   |true =>simp_all
   |false=>exact Am _ (f (by simp only[Kc,e] at h';exact h'))
theorem q5v{env:Env}:∀{names:List (Str×Bo)} {x:Str},names.lookup x=some .free ->
    ((names.map fun(n,k)=>if (k==Bo.free&&env.scope.kind==.function&&env.kindOf n==some .cell) then(n,Bo.cell) else(n,k)).lookup x=some .cell \/
     (names.map fun(n,k)=>if (k==Bo.free&&env.scope.kind==.function&&env.kindOf n==some .cell) then(n,Bo.cell) else(n,k)).lookup x=some .free)
  |[],_,h=>by simp at h
  |(n,k')::r,x,h=>by
    have f:=@q5v env r x;by_cases c:(k'==Bo.free&&env.scope.kind==.function&&env.kindOf n==some .cell)=true
    · have e:(if (k'==Bo.free&&env.scope.kind==.function&&env.kindOf n==some .cell)=true then(n,Bo.cell) else(n,k'))=(n,Bo.cell):=if_pos c;show(List.lookup x ((if (k'==Bo.free&&env.scope.kind==.function&&env.kindOf n==some .cell)=true then(n,Bo.cell) else(n,k'))::_)=_\/List.lookup x ((if (k'==Bo.free&&env.scope.kind==.function&&env.kindOf n==some .cell)=true then(n,Bo.cell) else(n,k'))::_)=_);rw[e];cases ex:x==n with
      |true=>simp_all
      |false =>
        simp only[Kc,ex] at h ⊢;exact f h
    · have e:(if (k'==Bo.free&&env.scope.kind==.function&&env.kindOf n==some .cell)=true then(n,Bo.cell) else(n,k'))=(n,k'):=if_neg c;show(List.lookup x ((if (k'==Bo.free&&env.scope.kind==.function&&env.kindOf n==some .cell)=true then(n,Bo.cell) else(n,k'))::_)=_\/List.lookup x ((if (k'==Bo.free&&env.scope.kind==.function&&env.kindOf n==some .cell)=true then(n,Bo.cell) else(n,k'))::_)=_);rw[e];cases ex:x==n with
      |true =>simp_all
      |false =>
        simp only[Kc,ex] at h ⊢;exact f h
theorem q6x(f:St):∀e:Caps,(capV f e).length=e.length
 |[]=>rfl
 |(_,_)::r=>congrArg (· + 1) (q6x f r)
theorem z3w:∀{caps:Caps} {j:Nat} {x:Str} {v:V},CapOk X scope caps->(caps.map (·.1))[j]?=some x->(capV σ caps)[j]?=some (some v) ->
  ∃i:Nat,X.N[i]?=some x/\σ[i]?=some (some v)/\scope.names.lookup x=some .free/\(X.env.scope.names.lookup x=some .cell\/X.env.scope.names.lookup x=some .free)
 |[],_,_,_,_,h,_=>by simp at h
 |(y,i)::r,0,x,v,hc,h1,h2=>by
  simp at h1;subst h1;have e:(σ[i]?).join=some v:=by simpa[capV] using h2
  refine⟨i,hc.1.1,?_,hc.1.2⟩;cases q:σ[i]? with
  |none=>rw[q] at e;cases e
  |some z=>simp_all
 |(y,i)::r,j+1,x,v,hc,h1,h2=>z3w hc.2 (by simpa using h1) (by simpa[capV] using h2)
noncomputable def tg0(tg:List Str)(σ:St)(caps:Caps):St:=tg.map (fun _=>none)++capV σ caps
theorem Inv.ofcomp{L:St}{C:Addr}(g:List Str)(I:Inv X pins L H s)(q:scope.kind=.function)(G:∀y∈scope.names,y.2≠.cell)(f:∀x c,cl.lookup x=some c->X.env.cells.lookup x=some c)(B:∀x,(x,Bo.free)∈scope.names->∃c,cl.lookup x=some c)(M:∀b∈fp,FpOk X pins H b)(O:∀b∈fp,∃o,s.heap.get? b=some o)(P:s.heap.objs.size<=C)(Q:h₁.Ns C m)(hk:∀b o,s.heap.get? b=some o->h₁.get? b=some o)(co:CapOk X scope caps):
  Inv (cxComp X (g++caps.map (·.1)) scope cl C fp s H) [] (tg0 g L caps) H { s with heap:=h₁,toks:=tk }:=by
 have R:∀b∈fp,b∉frs X.stack:=fun b D E=>by
  rcases Bb.mp (I.stkSub b E) with z|z
  ·exact(M b D).2.1 z
  ·exact(M b D).2.2.1 z
 have ok:(cxComp X (g++caps.map (·.1)) scope cl C fp s H).Ok:=by
  refine⟨I.ok.mod,q,I.ok.glob,I.ok.blt,P,fun x y c S T=>I.ok.inj x y c (f x c S) (f y c T),fun x E=>?_,fun x c h=>(nomatch h),I.ok.hd,I.ok.frames,.inl rfl,fun b D=>⟨?_,fun x c h=>(M b D).2.2.2.2.1 x c (f x c h)⟩,
   I.bs,Ce I.ok.bsz I.sz,fun b o e D=>?_,R,I.stack,I.stkFree⟩
  ·rcases E with E|E
   ·exact B x (q4i (.inl rfl) G E)
   ·exact B x (q4i (.inr rfl) G E)
  ·obtain⟨o,e⟩:=O b D;exact Bj (Cb (Az e) P)
  ·rcases(M b D).2.2.2.1 with z|z
   ·exact I.ok.noex b o e z
   ·exact absurd (Cb (Az (I.ok.bs b o e).1) z) (Fq _)
 refine⟨ok,rfl,I.bare,Un.kept hk,⟨m,Q,fun j x v S T h3=>?_⟩,fun x c h=>?_,I.hok.fresh P,fun x c h=>I.freeC x c (f x c h),fun p hp=>(nomatch hp),I.hok.kept hk,?_⟩
 ·have h1':(g++caps.map (·.1))[j]?=some x:=S;have h2':(g.map (fun _=>none)++capV L caps)[j]?=some (some v):=T;by_cases Z:j<g.length
  ·rw[Bq (by simpa using Z),Ak] at h2';cases e:g[j]? with
   |none=>grind
   |some z=>simp_all
  ·rw[Cd (by simpa using Z)] at h2' h1';rw[Aa] at h2';obtain⟨i,e1,e2,e3,J⟩:=z3w co h1' h2';obtain⟨mX,hn,hl⟩:=I.loc;obtain⟨u,r,l⟩:=hl i x v e1 e2 (.inr J);refine⟨u,r,?_⟩;have U:∃c,X.env.cells.lookup x=some c/\s.heap.IsCell c (some u):=by
    rcases l with⟨k,_⟩|⟨_,c,e,z⟩
    ·have k':X.env.scope.names.lookup x=some .local:=k;rcases J with J|J <;> · rw[J] at k';cases k'
    ·exact⟨c,e,z⟩
   obtain⟨c,ec,o,W,hd⟩:=U;obtain⟨d,ed⟩:=B x (Gg e3);have Y:=Bx ((f x d ed).symm.trans ec);subst Y;exact .inr ⟨q5v e3,d,ed,o,hk _ o W,hd⟩
 ·obtain⟨v,o,W,hd⟩:=I.cell x c (f x c h);exact⟨v,o,hk _ o W,hd⟩
 ·show(g.map (fun _=>(none:Option V))++capV L caps).length=(g++caps.map (·.1)).length;rw[Al,Al,Aa,Aa,q6x]
noncomputable def PIfs(X:Cx)(ifs:List Expr)(t:TT):Prop :=
 ∀(pins:List (Addr×Obj)) (s:Ag) (σ:St) (H:Hp) (Q:Bool->Hp->Prop),Inv X pins σ H s->t σ H Q ->
  wpAny (model X.prog X.w) X.A (forIn ifs true fun c r=>if r=true then do let ok<-isTrue c X.env (eval c X.env);pure (ForInStep.yield ok) else pure (ForInStep.yield r)) (TP X pins σ Q) X.xe s
noncomputable def tIf0:TT:=fun _ H Q=>Q true H
theorem q1n:PIfs X [] tIf0:=fun e s f H Q I h=>wpAny_tests_nil ⟨H,I,h⟩
theorem q3m{X:Cx}{c:Expr}{t:TT}(h:PT X c t):PIfs X [c] t:=fun e s f H Q I q=>wpAny_tests_one (h e s f H Q I q)
noncomputable def Keeps0(σ0 σ2:St):Prop:=σ0.length=σ2.length/\∀(i:Nat) v,σ0[i]?=some (some v)->σ2[i]?=some (some v)
noncomputable def CompW(J:It)(g:TG)(tt:TT)(te:TE)(σ0:St)(D:Addr)(Fin:List V->Hp->Prop)(H1:Hp):Prop :=
 ∃W:Nat->Nat->List V->Hp->Prop,(∃m,W 0 m [] (upd H1 D (.lst [])))/\∀i m ys H,W i m ys H->H D=some (.lst ys) /\
  ((J.stop i H/\Fin ys H)\/(J.go i H/\∃N:List V->Hp->Prop,(∀zs H',N zs H'->∃m',m'<m/\W (i+1) m' zs H')/\∀x H',J.yld i H x H'->g x σ0 H' fun σ2 H2=>Keeps0 σ0 σ2/\tt σ2 H2 fun b H3 =>
   if b=true then te σ2 H3 fun v H4=>H4 D=some (.lst ys)/\ys.length<sizeLine/\N (ys++[v]) (upd H4 D (.lst (ys++[v])))
   else N ys H3))
theorem z3x{j:St}{Fin:Addr->List V->Hp->Prop}{RR:Value->Addr->Result->Ag->Prop}(hc:X.calm=true)(a0:scope.kind=.function)(b8:∀y∈scope.names,y.2≠.cell)(d2:∀x c,cl.lookup x=some c->X.env.cells.lookup x=some c)(d3:∀x,(x,Bo.free)∈scope.names->∃c,cl.lookup x=some c)(co:CapOk X scope caps)(hg:∀C s H,PG (cxComp X (tg++caps.map (·.1)) scope cl C fp s H) target g)(ht:∀C s H,PIfs (cxComp X (tg++caps.map (·.1)) scope cl C fp s H) ifs tt)(he:∀C s H,PE (cxComp X (tg++caps.map (·.1)) scope cl C fp s H) elt te)(I2:Inv X h j H1 s₂)(T:Turn X.prog X.w X.K target J fp it tn)(st:tn 0 s₂.heap)(hf:∀b∈fp,FpOk X h H1 b)(hw:∀D,H1 D=none->CompW J g tt te (tg0 tg j caps) D (Fin D) H1)(d4:∀D C ys H' Z,H1 D=none->Inv X h j H' Z->(∃m,Z.heap.Ns C m)->FpOk X h H' C->Fin D ys H'->RR (.ref D) C (.ok .next) Z):
  wpAny (model X.prog X.w) X.A (newList []) (fun acc I=>wpAny (model X.prog X.w) X.A (newFunctionEnv scope X.env.globals cl [] X.env.qual none .none (some X.env)) (fun a8 b9 =>
   Fu (model X.prog X.w) X.A (.compStart (.ListComp elt [⟨target,iter,ifs,0⟩] scope pos) 0 (.ref it) acc { a8 with scope:=relabel scope X.env }) (RR acc a8.locals) b9) E I) E s₂:=by
 have I3:Inv X h j (upd H1 s₂.heap.objs.size (.lst [])) { s₂ with heap:=s₂.heap.push { cls:=.type "list",dict:=none,data:=.seq ([]:List Value).toArray },toks:=s₂.toks }:=I2.lnew .nil (Bf _);have b1:=I2.fresh;refine By (Sw b8 (by intro y hy;simp at hy) (fun a1 B G=>?_) a0);dsimp only at B G ⊢;generalize b2:s₂.heap.objs.size=D at I3 b1 B G ⊢;generalize e7:({ s₂ with heap:=s₂.heap.push { cls:=.type "list",dict:=none,data:=.seq ([]:List Value).toArray } }:Ag)=I at I3 B G ⊢;have e3:s₂.heap.push { cls:=.type "list",dict:=none,data:=.seq ([]:List Value).toArray }=I.heap:=by grind
 have o3:({ s₂ with heap:=a1,toks:=s₂.toks+([]:List (Str×Value)).length }:Ag)={ I with heap:=a1,toks:=s₂.toks }:=by grind
 have b3:I.heap.objs.size=D+1:=by rw[<- e3,Fv,b2]
 rw[e3] at B G ⊢;have a9:∀b o,s₂.heap.get? b=some o->I.heap.get? b=some o:=fun b o e=>by rw[<- e3];exact Ai _ e
 generalize a5:I.heap.objs.size=C at B G ⊢;have hk:=fun b o e=>G.extBut b o (by rw[<- a5];exact Bj (Az e)) (Ai _ e);have c0:∀b∈fp,∃o,s₂.heap.get? b=some o:=fun b L=>by obtain⟨o,e,_⟩:=T.obj 0 _ st b L;exact⟨o,e⟩
 have c1:∀b∈fp,b≠D:=fun b L=>by obtain⟨o,e⟩:=c0 b L;rw[<- b2];exact Bj (Az e)
 have c2:∀b∈fp,FpOk X h (upd H1 D (.lst [])) b:=fun b L=>⟨by rw[q0d (c1 b L)];exact(hf b L).1,(hf b L).2⟩
 have IY:=Inv.ofcomp (tk:=s₂.toks) tg I3 a0 b8 d2 d3 c2 (fun b L=>let ⟨o,e⟩:=c0 b L;⟨o,a9 b o e⟩) (Kx a5) B hk co;have FC:FpOk X h H1 C:=by
  have z:=I3.fpOk (H':=H1) (Kx a5) (I2.hok.fresh (by rw[b2,<- a5,b3];exact Jh _));exact z
 generalize hY:cxComp X (tg++caps.map (·.1)) scope cl C fp I (upd H1 D (.lst []))=Y at IY;have d5:PG Y target g:=by grind
 have d6:PIfs Y ifs tt:=by grind
 have d7:PE Y elt te:=by grind
 have P:Y.prog=X.prog:=by rw[<- hY];rfl
 have R:Y.w=X.w:=by rw[<- hY];rfl
 have c3:Y.K=X.K:=by rw[<- hY];rfl
 have U:Y.A=X.A:=by rw[<- hY];rfl
 have a2:Y.env=Gv scope cl C X.env:=by rw[<- hY];rfl
 have a6:Y.ex=fp:=by rw[<- hY];rfl
 have e8:Y.pn=[]:=by rw[<- hY];rfl
 have c4:Y.calm=true:=by rw[<- hY];exact hc
 have S:Y.xe=fun _ _=>False:=by rw[<- hY];rfl
 have b4:∀{H':Hp},(∀b∈fp,H' b=none)->∀b∈fp,FpOk Y [] H' b:=fun{H'} hn b L=>by
  refine⟨hn b L,?_,?_,.inl (by rw[a6];exact L),fun x c e=>?_,fun p hp=>?_⟩
  ·have:=(IY.ok.exf b (by rw[a6];exact L)).1;exact this
  ·exact IY.ok.exfs b (by rw[a6];exact L)
  ·exact(IY.ok.exf b (by rw[a6];exact L)).2 x c e
  ·grind
 obtain⟨W,⟨m0,w0⟩,c5⟩:=hw D b1;have c6:=T.keep 0 _ _ st fun b L o e=>hk b o (a9 b o e)
 have back:∀{H':Hp} {Z:Ag} {a3:St},Inv Y [] a3 H' Z->Inv X h j H' Z:=fun{H' Z a3} O=>by
  have c7:=O.base;have c8:=O.os;rw[<- hY] at c7 c8;exact I3.call' c8 c7 (by have z:=O.hok;rw[P,R] at z;exact z) O.bare fun b L=>⟨(hf b L).2.2.2.1,(hf b L).2.1,(hf b L).2.2.2.2.1,(hf b L).2.2.2.2.2⟩
 have gY:∀h s j H v u Q (M:Value->Ag->Prop),Inv Y h j H s->RelV v u->g v j H Q->wpAny (model X.prog X.w) X.A (assign target (Gv scope cl C X.env) u) (fun _ Z=>∃a3 H',Inv Y h a3 H' Z/\Q a3 H') M s:=fun h s j H v u Q M O r q=>by
  have z:=d5 h s j H v u Q O r q;rw[P,R,U,a2,S] at z;exact Dj z (fun _ _ x=>x) fun _ _ f=>f.elim
 have tY:∀h s j H Q (M:Value->Ag->Prop),Inv Y h j H s->tt j H Q->wpAny (model X.prog X.w) X.A (forIn ifs true fun c r=>if r=true then do let ok<-isTrue c (Gv scope cl C X.env) (eval c (Gv scope cl C X.env));pure (ForInStep.yield ok) else pure (ForInStep.yield r)) (TP Y h j Q) M s:=fun h s j H Q M O q=>by
  have z:=d6 h s j H Q O q;rw[P,R,U,a2,S] at z;exact Dj z (fun _ _ x=>x) fun _ _ f=>f.elim
 have eY:∀h s j H Q (M:Value->Ag->Prop),Inv Y h j H s->te j H Q->wpAny (model X.prog X.w) X.A (eval elt (Gv scope cl C X.env)) (EP Y h j Q) M s:=fun h s j H Q M O q=>by
  have z:=d7 h s j H Q O q;rw[P,R,U,a2,S] at z;exact Dj z (fun _ _ x=>x) fun _ _ f=>f.elim
 have aY:∀h s j H ys v u Q (M:Value->Ag->Prop),Inv Y h j H s->RelV v u->H D=some (.lst ys)->ys.length<sizeLine->Q .non (upd H D (.lst (ys++[v])))->wpAny (model X.prog X.w) X.A (call (.builtin "list.append") [.ref D,u]) (EP Y h j Q) M s:=fun h s j H ys v u Q M O r hH hz q=>by
  have z:=q2f h s j H (.ref D) [v] (.ref D) [u] Q O rfl (.cons r .nil) ⟨D,ys,v,rfl,rfl,hH,hz,q⟩;rw[P,R,U,S] at z;exact Dj z (fun _ _ x=>x) fun _ _ f=>f.elim
 have d8:∀i h s j H (M:Value->Ag->Prop),Inv Y h j H s->(∀b∈fp,FpOk Y h H b)->tn i s.heap->J.go i H ->
   wpAny (model X.prog X.w) X.A (Hc (.ref it)) (fun r s1=>∃u,r=some u /\
    wpAny (model X.prog X.w) X.A (Ni target (.ref it) u) (fun _ s2=>∃x H',Inv Y h j H' s2/\RelV x u/\J.yld i H x H'/\tn (i+1) s2.heap/\∀b∈fp,H' b=none) M s1) M s:=fun i h s j H M O b5 st go=>by
  have z:=T.item Y P R c3 c4 i h s j H M O b5 st go;rw[U] at z;exact z
 have d9:∀i h s j H (M:Value->Ag->Prop),Inv Y h j H s->(∀b∈fp,FpOk Y h H b)->tn i s.heap->J.stop i H ->
   wpAny (model X.prog X.w) X.A (Hc (.ref it)) (fun r s1=>r=none/\Inv Y h j H s1) M s:=fun i h s j H M O b5 st go=>by
  have z:=T.done Y P R c3 c4 i h s j H M O b5 st go;rw[U] at z;exact z
 have b0:Fu (model X.prog X.w) X.A (.compLoop (.ListComp elt [⟨target,iter,ifs,0⟩] scope pos) 0 (.ref it) (.ref D) (Gv scope cl C X.env)) (RR (.ref D) C) { I with heap:=a1,toks:=s₂.toks }:=by
  refine codeAny_loop rfl (fun n Z=>∃i ys H',Inv Y [] (tg0 tg j caps) H' Z/\tn i Z.heap/\(∀b∈fp,H' b=none)/\W i n ys H') ?_ m0 ⟨0,[],_,IY,c6,fun b L=>(c2 b L).1,w0⟩;rintro n s4 ⟨i,ys,H4,I4,c9,d0,w4⟩;refine wpAny_noted ?_;obtain⟨e9,e0⟩:=c5 i n ys H4 w4;rcases e0 with⟨stop,fin⟩|⟨go,N,hN,step⟩
  ·refine Ab (Hx (Ab (thn (d9 i [] s4 _ H4 _ I4 (b4 d0) c9 stop) fun r s5 ⟨hr,I5⟩=>?_)));subst hr;refine Ad (d4 D C ys H4 s5 b1 (back I5) ?_ ⟨?_,FC.2⟩ fin)
   ·obtain⟨m,hm,_⟩:=I5.loc;rw[a2] at hm;exact⟨m,hm⟩
   ·have z:=I5.free;rw[a2] at z;exact z
  ·refine Ab (Hx (Ab (thn (d8 i [] s4 _ H4 _ I4 (b4 d0) c9 go) fun r s5 ⟨u,hr,h5⟩=>?_)));subst hr;refine Ab (thn h5 fun _ s6 ⟨x,H6,I6,r6,y6,b6,e1⟩=>?_);have I6':=I6.pinned (b4 e1) (T.obj _ _ b6);refine Ab (thn (gY _ s6 _ H6 x u _ _ I6' r6 (step x H6 y6)) fun _ s7 ⟨a7,H7,I7,kp,q7⟩=>?_);refine Ab (thn (tY _ s7 a7 H7 _ _ I7 q7) fun b s8 ⟨H8,I8,q8⟩=>?_);have a4:∀{H9:Hp} {s9:Ag} {zs:List V} {m':Nat},Inv Y ([]++pinsAt fp s6.heap) a7 H9 s9->m'<n->W (i+1) m' zs H9->∃m,m<n/\∃i ys H',Inv Y [] (tg0 tg j caps) H' s9/\tn i s9.heap/\(∀b∈fp,H' b=none)/\W i m ys H':=fun{H9 s9 zs m'} I9 hm w9=>by
    refine⟨m',hm,i+1,zs,H9,I9.unpinned.weak kp.1 kp.2,T.keep _ _ _ b6 fun b L o e=>(I9.pin (b,o) (Bm _ (Bm _ (q2o L e)))).1,fun b L=>?_,w9⟩;obtain⟨o,e,d⟩:=T.obj _ _ b6 b L;exact(I9.pin (b,o) (Bm _ (Bm _ (q2o L e)))).2.1
   cases b with
   |true =>
    refine Ab (Ab (thn (eY _ s8 a7 H8 _ _ I8 q8) fun v s9 ⟨vv,H9,I9,r9,e2,e4,n9⟩=>?_));obtain⟨m',b7,w9⟩:=hN _ _ n9;refine Ab (thn (aY _ s9 a7 H9 ys vv v (fun _ d1=>W (i+1) m' (ys++[vv]) d1) _ I9 r9 e2 e4 w9) fun _ f0 ⟨_,d1,e5,_,e6⟩=>?_);exact Ad (Ad ⟨rfl,a4 e5 b7 e6⟩)
   |false =>
    obtain⟨m',b7,w8⟩:=hN _ _ q8;exact Ad ⟨rfl,a4 I8 b7 w8⟩
 rw[o3];exact codeAny_compStart_list b0 (T.self _ 0 _ _ _ c6 b0)
noncomputable def isCF(k:Option Bo):Bool:=k==some .cell||k==some .free
noncomputable def capChk(N:List Str)(names outer:List (Str×Bo)):Caps->Bool
 |[]=>true
 |(x,i)::r=>decide (N[i]?=some x)&&(names.lookup x==some .free)&&isCF (outer.lookup x)&&capChk N names outer r
noncomputable def compChk(N:List Str)(outer scope:Scope)(caps:Caps):Bool :=
 (scope.kind==.function)&&(scope.names.all fun y=>y.2 != .cell&&(y.2 != .local||scope.names.lookup y.1==some .local)&&(y.2 != .free||isCF (outer.names.lookup y.1)))&&capChk N scope.names outer.names caps
theorem z6v(h:isCF k=true):k=some .cell\/k=some .free:=by
 unfold isCF at h;simpa using h
theorem z0v:∀{caps:Caps},capChk X.N scope.names X.env.scope.names caps=true->CapOk X scope caps
 |[],_=>trivial
 |(x,i)::r,h=>by
  unfold capChk at h;simp only[Mr] at h;obtain⟨⟨⟨e,f⟩,g⟩,j⟩:=h;exact⟨⟨of_decide_eq_true e,by simpa using f,z6v g⟩,z0v j⟩
theorem q3w(h:compChk X.N X.env.scope scope caps=true):
  scope.kind=.function/\(∀y∈scope.names,y.2≠.cell)/\(∀y∈scope.names,y.2=.local->scope.names.lookup y.1=some .local)/\(∀x,(x,Bo.free)∈scope.names->X.env.scope.names.lookup x=some .cell\/X.env.scope.names.lookup x=some .free)/\CapOk X scope caps:=by
 unfold compChk at h;simp only[Mr,Qi] at h;obtain⟨⟨j,f⟩,q⟩:=h;refine⟨by simpa using j,fun y g e=>?_,fun y g e=>?_,fun x s=>?_,z0v q⟩
 ·have z:=(f y g).1.1;rw[e] at z;simp at z
 ·have z:=(f y g).1.2;rw[e] at z;simpa using z
 ·have z:=(f _ s).2;exact z6v (by simpa using z)
noncomputable def tComp(wi:TI)(g:TG)(tt:TT)(te:TE)(tg:List Str)(caps:Caps):TE:=fun σ H Q=>wi σ H fun J H1=>∀D,H1 D=none->CompW J g tt te (tg0 tg σ caps) D (fun _ H'=>Q (.ref D) H') H1
section
variable{X:Cx}{iter target elt:Expr}{ifs:List Expr}{scope:Scope}{pos:Pos}{wi:TI}{g:TG}{tt:TT}{te:TE}
theorem q9e{f:St}(I:Inv X pins f H s)(e:∀x,(x,Bo.free)∈scope.names->X.env.scope.names.lookup x=some .cell\/X.env.scope.names.lookup x=some .free):
  ∃cl,Wm scope X.env=pure cl/\(∀x c,cl.lookup x=some c->X.env.cells.lookup x=some c)/\∀x,(x,Bo.free)∈scope.names->∃c,cl.lookup x=some c :=
 z5e fun x g=>I.ok.has x (e x g)
theorem q1g(G:List Str)(f:Caps)(U:X.calm=true)(W:PI X target iter wi)(Y:∀cl C fp s H,PG (cxComp X (G++f.map (·.1)) scope cl C fp s H) target g)(Z:∀cl C fp s H,PIfs (cxComp X (G++f.map (·.1)) scope cl C fp s H) ifs tt)(he:∀cl C fp s H,PE (cxComp X (G++f.map (·.1)) scope cl C fp s H) elt te)(hk:compChk X.N X.env.scope scope f=true:=by rfl)(hs:∀x,Jm iter X.env x=pure x:=by intro _;rfl):
  PE X (.ListComp elt [⟨target,iter,ifs,0⟩] scope pos) (tComp wi g tt te G f):=by
 intro E s σ H Q I h;obtain⟨j,L,q,u,co⟩:=q3w hk;obtain⟨cl,B,M,O⟩:=q9e I u;refine Ik rfl hs B j q (thn (W E s σ H _ I h) fun v s1 h1=>thn h1 fun a0 s2 h2=>?_);obtain⟨it,fp,tn,J,H2,e,I2,T,P,f2,hw⟩:=h2;subst e;refine z3x U j L M O co (fun C s H=>Y cl C fp s H) (fun C s H=>Z cl C fp s H) (fun C s H=>he cl C fp s H) I2 T P f2 hw ?_;intro D C ys H' s' hD I' R F fin;obtain⟨m,R⟩:=R;refine⟨m,R,fun h' S=>⟨.ref D,H',I'.turned (t':=s'.toks) (fun b o hb e=>(S.2 b hb).trans e) F.1 F.2.1 F.2.2.2.1 F.2.2.2.2.1 F.2.2.2.2.2,rfl,fin⟩⟩
noncomputable def tSetC(wi:TI)(g:TG)(tt:TT)(te:TE)(tg:List Str)(caps:Caps)(i:Nat):TS:=fun D' σ H=>wi σ H fun J H1=>∀D,H1 D=none->CompW J g tt te (tg0 tg σ caps) D (fun _ H'=>D'.nx (σ.set i (some (.ref D))) H') H1
theorem q3n{i:Nat}{y:Str}{L u:Pos}(M:List Str)(f:Caps)(hN:X.N.Nodup)(O:X.N[i]?=some y)(hx:Loc X.env.scope y)(hc:X.calm=true)(hi:PI X target iter wi)(hg:∀cl C fp s H,PG (cxComp X (M++f.map (·.1)) scope cl C fp s H) target g)(ht:∀cl C fp s H,PIfs (cxComp X (M++f.map (·.1)) scope cl C fp s H) ifs tt)(he:∀cl C fp s H,PE (cxComp X (M++f.map (·.1)) scope cl C fp s H) elt te)(hk:compChk X.N X.env.scope scope f=true:=by rfl)(hs:∀x,Jm iter X.env x=pure x:=by intro _;rfl)(P:Ku (.ListComp elt [⟨target,iter,ifs,0⟩] scope pos) (some (.Name y L)) u.line X.env=pure true:=by rfl)(hf:X.fn y=true\/X.env.scope.names.lookup y=some .local:=by trivial):
  PS X (.Assign [.Name y L] (.ListComp elt [⟨target,iter,ifs,0⟩] scope pos) u) (tSetC wi g tt te M f i):=by
 intro B s σ H D' I h;obtain⟨j,Q,q,E,co⟩:=q3w hk;obtain⟨cl,G,R,S⟩:=q9e I E;rw[Sb _ _ _ _ P];refine Ab (Hx (Ab ?_));refine Ab (Dj (Ik (use:=some (assign (.Name y L) X.env)) rfl hs G j q
  (thn (hi B s σ H _ I h) fun v s1 h1=>thn h1 fun a5 s2 h2=>?_)) (fun _ U hq=>Ad (Ad hq)) fun _ _ e=>e)
 obtain⟨it,fp,tn,J,H2,e,I2,T,W,f2,hw⟩:=h2;subst e;refine z3x (RR:=fun Y C=>compPost (model X.prog X.w) X.A X.xe (some (assign (.Name y L) X.env)) (fun _ U=>SP X B D' .next U) Y C) (Fin:=fun D _ Z=>D'.nx (σ.set i (some (.ref D))) Z) hc j Q R S co (fun C s H=>hg cl C fp s H) (fun C s H=>ht cl C fp s H) (fun C s H=>he cl C fp s H) I2 T W f2 hw ?_;intro D C ys Z U hD I' hm F fin;obtain⟨m,hm⟩:=hm;refine Ph (q6o (v:=.ref D) I' hN O hx rfl (fun a0 a1 a2=>?_) hf);obtain⟨a,sb,ha⟩:=a2;have a3:C≠a:=by
  rcases ha with ha|ha
  ·rw[ha];exact F.2.1
  ·exact fun z=>F.2.2.2.2.1 y a ha z.symm
 refine⟨m,hm.sameBut sb a3,fun h' a4=>?_⟩;exact⟨_,Z,a1.turned (t':=a0.toks) (fun b o hb e=>(a4.2 b hb).trans e) F.1 F.2.1 F.2.2.2.1 F.2.2.2.2.1 F.2.2.2.2.2,fin⟩
end
theorem q5i{Fin:List V->Hp->Prop}(e:Nat->List V->Hp->Prop)(h0:e 0 [] (upd H1 D (.lst [])))(hl:∀i ys H,e i ys H->H D=some (.lst ys))(j:∀i ys H,i<n->e i ys H->J.go i H)(s:∀ys H,e n ys H->J.stop n H)(hs:∀i ys H x H',i<n->e i ys H->J.yld i H x H'->g x σ0 H' fun f C=>Keeps0 σ0 f/\tt f C fun b u =>
   if b=true then te f u fun v B=>B D=some (.lst ys)/\ys.length<sizeLine/\e (i+1) (ys++[v]) (upd B D (.lst (ys++[v]))) else e (i+1) ys u)(hd:∀ys H,e n ys H->Fin ys H):CompW J g tt te σ0 D Fin H1:=by
 refine⟨fun i m ys H=>m=n-i/\i<=n/\e i ys H,⟨n,by simp,Bf _,h0⟩,?_⟩;rintro i m ys H ⟨rfl,E,p⟩;refine⟨hl i ys H p,?_⟩;by_cases h:i<n
 ·exact .inr ⟨j i ys H h p,e (i+1),fun G H' q=>⟨n-(i+1),by lia,rfl,h,q⟩,fun x H' y=>hs i ys H x H' h p y⟩
 ·grind
theorem z5f{lo:Int}{Fin:List V->Hp->Prop}(f:Nat->List V->Hp->Prop)(h0:f 0 [] (upd H1 D (.lst [])))(hl:∀i ys H,f i ys H->H D=some (.lst ys))(hs:∀i ys H,i<n->f i ys H->g (.int (lo+i)) σ0 H fun j u=>Keeps0 σ0 j/\tt j u fun b q =>
   if b=true then te j q fun v s=>s D=some (.lst ys)/\ys.length<sizeLine/\f (i+1) (ys++[v]) (upd s D (.lst (ys++[v]))) else f (i+1) ys q)(hd:∀ys H,f n ys H->Fin ys H):CompW (Itr lo n) g tt te σ0 D Fin H1 :=
 q5i f h0 hl (fun i ys H h _=>h) (fun ys H _=>Au _) (fun i ys H x B h p y=>by obtain⟨e,y⟩:=y;subst e y;exact hs i ys _ h p) hd
theorem q1i{K:Aq}{Fin:List V->Hp->Prop}(f:Nat->List V->Hp->Prop)(h0:f 0 [] (upd H1 D (.lst [])))(hl:∀i ys H,f i ys H->H D=some (.lst ys)/\SqL K H a xs)(hs:∀i ys H x,xs[i]?=some x->f i ys H->g x σ0 H fun j u=>Keeps0 σ0 j/\tt j u fun b q =>
   if b=true then te j q fun v s=>s D=some (.lst ys)/\ys.length<sizeLine/\f (i+1) (ys++[v]) (upd s D (.lst (ys++[v]))) else f (i+1) ys q)(hd:∀ys H,f xs.length ys H->Fin ys H):CompW (Itl K a) g tt te σ0 D Fin H1 :=
 q5i f h0 (fun i ys H p=>(hl i ys H p).1) (fun i ys H h p=>⟨xs,xs[i],(hl i ys H p).2,by simp[h]⟩) (fun ys H p=>⟨xs,(hl _ ys H p).2,Au _⟩)
  (fun i ys H x B h p y=>by obtain⟨e,y⟩:=y;subst e;exact hs i ys _ x (y xs (hl i ys _ p).2) p) hd
theorem z9y{K:Aq}{Fin:List V->Hp->Prop}(f:Nat->List V->Hp->Prop)(h0:f 0 [] (upd H1 D (.lst [])))(hl:∀i ys H,f i ys H->H D=some (.lst ys)/\SqT K H a xs)(hs:∀i ys H x,xs[i]?=some x->f i ys H->g x σ0 H fun j u=>Keeps0 σ0 j/\tt j u fun b q =>
   if b=true then te j q fun v s=>s D=some (.lst ys)/\ys.length<sizeLine/\f (i+1) (ys++[v]) (upd s D (.lst (ys++[v]))) else f (i+1) ys q)(hd:∀ys H,f xs.length ys H->Fin ys H):CompW (Itt K a) g tt te σ0 D Fin H1 :=
 q5i f h0 (fun i ys H p=>(hl i ys H p).1) (fun i ys H h p=>⟨xs,xs[i],(hl i ys H p).2,by simp[h]⟩) (fun ys H p=>⟨xs,(hl _ ys H p).2,Au _⟩)
  (fun i ys H x B h p y=>by obtain⟨e,y⟩:=y;subst e;exact hs i ys _ x (y xs (hl i ys _ p).2) p) hd
theorem q0u{r:St}:Keeps0 (none::r) (v::r):=⟨rfl,fun i w h=>by
 cases i with
 |zero=>cases h
 |succ i=>exact h⟩
theorem q2p{r:St}:Keeps0 (none::none::r) (v::w::r):=⟨rfl,fun i u h=>by
 cases i with
 |zero=>cases h
 |succ i=>cases i with
  |zero=>cases h
  |succ i=>exact h⟩
section
variable{X:Cx}
noncomputable def rSlS:V->Option Int->Option Int->Hp->VK->Prop:=fun x lo hi H Q=>∃z,x=.str z/\z.length<=sizeLine/\Q (.str (Qz z lo hi)) H
theorem q6y(h:Md v o):∃p:Option (Int×Tok),v=partValue p/\o=p.map (·.1):=by
 cases h with
 |none=>exact⟨none,rfl,rfl⟩
 |int i t=>exact⟨some (i,t),rfl,rfl⟩
theorem sl_str:SlR X rSlS:=by
 intro e s C H x v vl D lo E G Q I f hs pl pu h;obtain⟨z,rfl,g,q⟩:=h;obtain⟨t,rfl⟩:=f;obtain⟨j,rfl,rfl⟩:=q6y pl;obtain⟨u,rfl,rfl⟩:=q6y pu;refine⟨"str",_,F.slot_str_getitem.lookup,Su _ _ _,wpAny_getItem_str_slice (st:=none) hs rfl
  (post_val_or_str ⟨Ce (Txt.slice_le z _ _) g,fun B k=>⟨.str (Qz z (j.map (·.1)) (u.map (·.1))),H,I.tok _,⟨B,rfl⟩,q⟩⟩)⟩
noncomputable def rLower:V->List V->Hp->VK->Prop:=fun x vs H Q=>∃z,x=.str z/\vs=[]/\3*z.length<=sizeLine/\Q (.str (Txt.lower z)) H
theorem fit3(h:n<=3*m)(e:3*m<=sizeLine):Dq.Str.tooLong n=false:=by
 exact decide_eq_false (by lia)
theorem q6e:MtM X "str.lower" rLower:=by
 intro e s u H x vs v B Q I f g h;obtain⟨z,rfl,rfl,j,q⟩:=h;obtain⟨t,rfl⟩:=f;cases g.zero;exact SC.lower (fit3 (len_lower z) j) ⟨.str _,H,I.tok _,⟨_,rfl⟩,q⟩
noncomputable def rUpper:V->List V->Hp->VK->Prop:=fun x vs H Q=>∃z,x=.str z/\vs=[]/\3*z.length<=sizeLine/\Q (.str (Txt.upper z)) H
theorem q9f:MtM X "str.upper" rUpper:=by
 intro e s u H x vs v B Q I f g h;obtain⟨z,rfl,rfl,j,q⟩:=h;obtain⟨t,rfl⟩:=f;cases g.zero;exact SC.upper (fit3 (len_upper z) j) ⟨.str _,H,I.tok _,⟨_,rfl⟩,q⟩
theorem q5j:∀{ys:List Str} {us:List Value},Vals (ys.map V.str) us->Iz us ys
 |[],_,.nil=>.nil
 |y::ys,_,.cons r t=>by obtain⟨k,rfl⟩:=r;exact .cons y k (q5j t)
noncomputable def rJoin(K:Aq):V->List V->Hp->VK->Prop:=fun x vs H Q=>∃(z:Str) (p:Addr) (ys:List Str),x=.str z/\vs=[.ref p]/\(SqL K H p (ys.map V.str)\/SqT K H p (ys.map V.str))/\(ys.map (·.length)).sum+ys.length*z.length<=16777216/\Q (.str (Vn z ys)) H
theorem x3e:MtM X "str.join" (rJoin X.K):=by
 intro g s G H x vs v J Q I B C h;obtain⟨z,p,L,rfl,rfl,e,j,q⟩:=h;obtain⟨t,rfl⟩:=B;obtain⟨u,rfl,D⟩:=C.one;cases D;rcases e with e|e
 ·obtain⟨f,r,pl,_⟩:=I.list e;exact join_list pl.isList (q5j (by simpa using r)) j fun E k=>⟨.str _,H,I.tok _,⟨_,rfl⟩,q⟩
 ·obtain⟨f,r,pl,_⟩:=I.tuple e;exact join_tuple pl (q5j (by simpa using r)) j fun E k=>⟨.str _,H,I.tok _,⟨_,rfl⟩,q⟩
noncomputable def rMulS:R2:=fun x y H Q=>∃z n,x=.str z/\y=.int n/\MulOk z n/\Q (.str (Txt.mul z n)) H
theorem op_mulS:OpR X (Hd .Mult) rMulS:=by
 intro e s B H x y v u Q I f g h;obtain⟨z,n,rfl,rfl,j,q⟩:=h;obtain⟨t,rfl⟩:=f;obtain⟨C,rfl⟩:=g;exact SB.mul j fun D k=>⟨.str _,H,I.tok _,⟨_,rfl⟩,q⟩
noncomputable def Its(z:Str):It:=⟨fun i _=>i<z.length,fun i H x H'=>H'=H/\∃c,z.cps[i]?=some c/\x=.str ⟨#[c]⟩,fun i _=>z.length<=i⟩
end
theorem z6w{K:Aq}(j:Addr)(z:Str)(t:Tok):Turn P w K tg (Its z) [j] j (fun i h=>i<=z.length/\h.IsStrIter j "str_ascii_iterator" z t i) where
 mem:=by simp
 obj:=fun i h st b q=>by
  have e:b=j:=by grind
  subst e;obtain⟨_,o,e,c,d⟩:=st;exact⟨o,e,fun v z=>by rw[d] at z;cases z⟩
 keep:=fun i h C st k=>⟨st.1,let ⟨o,e,c,d⟩:=st.2;⟨o,k j (by simp) o e,c,d⟩⟩
 item:=by
  intro X T U W R i f s S H E I u st B;obtain⟨D,G,Y,J,L,M⟩:=u j (by simp);have O:i<z.cps.size:=B;refine wpAny_pyNext_ascii_item st.2 (c:=z.cps[i]) (by simp[O]) fun C g Q=>?_;have Z:Inv X f S H { s with heap:=C,toks:=s.toks+1 }:=I.turned (fun b o q e=>(Q.2 b q).trans e) D G J L M;obtain⟨o,e,c,d⟩:=id g;exact⟨_,rfl,z2m e c d (by decide) ⟨.str ⟨#[z.cps[i]]⟩,H,Z,⟨_,rfl⟩,⟨rfl,_,by simp[O],rfl⟩,⟨B,g⟩,fun b q=>(u b q).1⟩⟩
 done:=by
  intro X T U W R i f s S H E I u st B;obtain⟨D,G,Y,J,L,M⟩:=u j (by simp);have O:z.cps.size<=i:=B;exact wpAny_pyNext_ascii_end (I.ok.hd R) st.2 (by simp;lia) fun C eb=>⟨rfl,I.turned (t':=s.toks) (fun b o q e=>eb b o q e) D G J L M⟩
 self:=fun _ _ _ _ _ st h=>wpAny_pyIter_striter_ascii st.2 h
theorem z6x{K:Aq}(j:Addr)(z:Str)(t:Tok):Turn P w K tg (Its z) [j] j (fun i h=>i<=z.length/\h.IsStrIter j "str_iterator" z t i) where
 mem:=by simp
 obj:=fun i h st b q=>by
  have e:b=j:=by grind
  subst e;obtain⟨_,o,e,c,d⟩:=st;exact⟨o,e,fun v z=>by rw[d] at z;cases z⟩
 keep:=fun i h C st k=>⟨st.1,let ⟨o,e,c,d⟩:=st.2;⟨o,k j (by simp) o e,c,d⟩⟩
 item:=by
  intro X T U W R i f s S H E I u st B;obtain⟨D,G,Y,J,L,M⟩:=u j (by simp);have O:i<z.cps.size:=B;refine wpAny_pyNext_wide_item st.2 (c:=z.cps[i]) (by simp[O]) fun C g Q=>?_;have Z:Inv X f S H { s with heap:=C,toks:=s.toks+1 }:=I.turned (fun b o q e=>(Q.2 b q).trans e) D G J L M;obtain⟨o,e,c,d⟩:=id g;exact⟨_,rfl,z2m e c d (by decide) ⟨.str ⟨#[z.cps[i]]⟩,H,Z,⟨_,rfl⟩,⟨rfl,_,by simp[O],rfl⟩,⟨B,g⟩,fun b q=>(u b q).1⟩⟩
 done:=by
  intro X T U W R i f s S H E I u st B;obtain⟨D,G,Y,J,L,M⟩:=u j (by simp);have O:z.cps.size<=i:=B;exact wpAny_pyNext_wide_end (I.ok.hd R) st.2 (by simp;lia) fun C eb=>⟨rfl,I.turned (t':=s.toks) (fun b o q e=>eb b o q e) D G J L M⟩
 self:=fun _ _ _ _ _ st h=>wpAny_pyIter_striter_wide st.2 h
theorem z6y{g:TG}{tb:TS}{D:Ends}(h:Nat->St->Hp->Prop)(h0:h 0 f H)(hs:∀i c f H,z.cps[i]?=some c->h i f H->g (.str ⟨#[c]⟩) f H fun j u=>tb { D with nx:=h (i+1),ct:=h (i+1),bk:=D.nx } j u)(hd:∀f H,h z.length f H->D.nx f H):
  ∃W:Nat->Nat->St->Hp->Prop,(∃m,W 0 m f H)/\∀i m f H,W i m f H ->
   ((Its z).stop i H/\D.nx f H)\/((Its z).go i H/\∃N:St->Hp->Prop,(∀q H',N q H'->∃v,v<m/\W (i+1) v q H')/\∀x H',(Its z).yld i H x H'->g x f H' fun j u=>tb { D with nx:=N,ct:=N,bk:=D.nx } j u):=by
 refine⟨fun i m f H=>m=z.length-i/\i<=z.length/\h i f H,⟨z.length,by simp,Bf _,h0⟩,?_⟩;rintro i m f H ⟨rfl,E,p⟩;by_cases s:i<z.length
 ·refine .inr ⟨s,h (i+1),fun q H' B=>⟨z.length-(i+1),by lia,rfl,s,B⟩,fun x H' y=>?_⟩;obtain⟨e,c,C,y⟩:=y;subst e y;exact hs i c f _ C p
 ·have e:i=z.length:=by lia
  subst e;exact .inl ⟨Au _,hd f H p⟩
theorem z9z{Fin:List V->Hp->Prop}(f:Nat->List V->Hp->Prop)(h0:f 0 [] (upd H1 D (.lst [])))(hl:∀i ys H,f i ys H->H D=some (.lst ys))(hs:∀i ys H c,z.cps[i]?=some c->f i ys H->g (.str ⟨#[c]⟩) σ0 H fun j u=>Keeps0 σ0 j/\tt j u fun b q =>
   if b=true then te j q fun v s=>s D=some (.lst ys)/\ys.length<sizeLine/\f (i+1) (ys++[v]) (upd s D (.lst (ys++[v]))) else f (i+1) ys q)(hd:∀ys H,f z.length ys H->Fin ys H):CompW (Its z) g tt te σ0 D Fin H1 :=
 q5i f h0 hl (fun i ys H h _=>h) (fun ys H _=>Au _) (fun i ys H x C h p y=>by obtain⟨e,c,B,y⟩:=y;subst e y;exact hs i ys _ c B p) hd
structure Vw (K:Aq) (H:Hp) (h:Heap):Prop where
 lst:∀a xs,SqL K H a xs->∃its:List Value,Vals xs its/\h.IsList a its.toArray
 tup:∀a xs,SqT K H a xs->∃its:List Value,Vals xs its/\h.IsTuple a its.toArray
theorem SqL.ne{K:Aq}(h:SqL K H a xs)(e:H b=none)(hk:K.lookup b=none):a≠b:=by
 rintro rfl;rcases h with(h|⟨o,h⟩)|⟨o,_,_,h,_⟩
 ·rw[e] at h;cases h
 ·rw[e] at h;cases h
 ·rw[hk] at h;cases h
theorem SqT.ne{K:Aq}(h:SqT K H a xs)(e:H b=none)(hk:K.lookup b=none):a≠b:=by
 rintro rfl;rcases h with(h|⟨o,h⟩)|⟨o,_,_,h,_⟩
 ·rw[e] at h;cases h
 ·rw[e] at h;cases h
 ·rw[hk] at h;cases h
theorem Vw.but{K:Aq}(v:Vw K H h)(g:H b=none)(hk:K.lookup b=none)(k:∀c o,c≠b->h.get? c=some o->h'.get? c=some o):Vw K H h' :=
 ⟨fun a xs q=>let ⟨f,r,l⟩:=v.lst a xs q;⟨f,r,l.at fun o e=>k a o (q.ne g hk) e⟩,fun a xs q=>let ⟨f,r,l⟩:=v.tup a xs q;⟨f,r,by
  obtain⟨o,e,z⟩:=l;exact⟨o,k a o (q.ne g hk) e,z⟩⟩⟩
theorem Vw.linj{K:Aq}(v:Vw K H h)(p:SqL K H a xs)(q:SqL K H a ys):xs=ys:=by
 obtain⟨g,r,o,e,_,n,d⟩:=v.lst a xs p;obtain⟨f,j,s,u,_,B,C⟩:=v.lst a ys q;have:g=f:=by grind
 subst this;exact r.inj j
theorem Inv.vw{f:St}(I:Inv X pins f H s):Vw X.K H s.heap :=
 ⟨fun a xs q=>let ⟨e,r,l,_⟩:=I.list q;⟨e,r,l.isList⟩,fun a xs q=>let ⟨e,r,l,_⟩:=I.tuple q;⟨e,r,l⟩⟩
structure Srce (P:Ay) (w:World) (K:Aq) (J:It) (it:Addr) (st:Nat->Heap->Prop):Prop where
 obj:∀i h,st i h->∃o,h.get? it=some o/\∀v,o.data≠.cell v
 keep:∀i h h',st i h->(∀o,h.get? it=some o->h'.get? it=some o)->st i h'
 item:∀(A:Around) (i:Nat) (s:Ag) (H:Hp) (Q:Value->Ag->Prop) (E:Value->Ag->Prop),A.handled=none->Vw K H s.heap->H it=none->K.lookup it=none->st i s.heap->J.go i H ->
  (∀u x h' tk,RelV x u->J.yld i H x H->st (i+1) h'->Gi it s.heap h'->Q u { s with heap:=h',toks:=tk })->wpAny (model P w) A (Pr (.ref it)) Q E s
 done:∀(A:Around) (i:Nat) (s:Ag) (H:Hp) (Q:Value->Ag->Prop) (E:Value->Ag->Prop),A.handled=none->Vw K H s.heap->H it=none->K.lookup it=none->st i s.heap->J.stop i H ->
  (∀h' e,Om it s.heap h'->(∃o,h'.get? e=some o/\o.cls=.type "StopIteration")->E (.ref e) { s with heap:=h' })->wpAny (model P w) A (Pr (.ref it)) Q E s
theorem q6z{K:Aq}(a C:Addr):Srce P w K (Itl K a) C (fun i h=>h.IsListIter C a i) where
 obj:=fun i h st=>by obtain⟨o,e,c,d⟩:=st;exact⟨o,e,fun v z=>by rw[d] at z;cases z⟩
 keep:=fun i h D st k=>st.at fun o e=>k o e
 item:=fun A i s H Q E G vw I hk st go J=>by
  obtain⟨xs,x,f,g⟩:=go;obtain⟨j,q,p⟩:=vw.lst a xs f;obtain⟨u,L,M⟩:=q.get g;refine wpAny_nextOf_list_item st p (by simpa using L) fun D B O=>?_
  exact J u x D s.toks M ⟨rfl,fun T R=>by rw[vw.linj R f];exact g⟩ B O
 done:=fun A i s H Q E G vw I hk st stop S=>by
  obtain⟨xs,f,g⟩:=stop;obtain⟨j,q,p⟩:=vw.lst a xs f;have hl:=q.length;exact wpAny_nextOf_list_end G st p (by simp;lia) S
noncomputable def stStr(it:Addr)(z:Str)(t:Tok)(i:Nat)(h:Heap):Prop:=h.IsStrIter it (Ig z) z t i
theorem q9g{K:Aq}(B:Addr)(z:Str)(t:Tok):Srce P w K (Its z) B (stStr B z t) where
 obj:=fun i h st=>by obtain⟨o,e,c,d⟩:=st;exact⟨o,e,fun v z=>by rw[d] at z;cases z⟩
 keep:=fun i h q st k=>by obtain⟨o,e,r⟩:=st;exact⟨o,k o e,r⟩
 item:=fun A i s H Q E u vw G hk st go C=>by
  have j:i<z.cps.size:=go;unfold stStr Ig at st;cases ha:z.cps.all (· < 128)
  ·rw[ha] at st;refine wpAny_nextOf_wide_item st (c:=z.cps[i]) (by simp[j]) fun q f g=>?_;exact C _ (.str ⟨#[z.cps[i]]⟩) q (s.toks+1) ⟨_,rfl⟩ ⟨rfl,_,by simp[j],rfl⟩ (by unfold stStr Ig;rw[ha];exact f) g
  ·rw[ha] at st;refine wpAny_nextOf_ascii_item st (c:=z.cps[i]) (by simp[j]) fun q f g=>?_;exact C _ (.str ⟨#[z.cps[i]]⟩) q (s.toks+1) ⟨_,rfl⟩ ⟨rfl,_,by simp[j],rfl⟩ (by unfold stStr Ig;rw[ha];exact f) g
 done:=fun A i s H Q E u vw G hk st stop D=>by
  have j:z.cps.size<=i:=stop;unfold stStr Ig at st;cases ha:z.cps.all (· < 128)
  ·rw[ha] at st;exact wpAny_nextOf_wide_end u st (by simp;lia) D
  ·rw[ha] at st;exact wpAny_nextOf_ascii_end u st (by simp;lia) D
theorem Inv.turnedL{B:St}{ch:List Addr}(I:Inv X pins B H s)(k:∀b o,b∉ch->s.heap.get? b=some o->h'.get? b=some o)(g:∀b∈ch,FpOk X pins H b):Inv X pins B H { s with heap:=h',toks:=t' }:=by
 have h:∀b u,H b=some u->b∉ch:=fun b u e z=>by rw[(g b z).1] at e;cases e
 refine I.step (g':=s.gens) (d':=s.drawn) (fun b j=>?_) (fun b o _ _ f e _=>k b o f e) (fun b o _ _ f e _=>⟨o.slots,k b o f e⟩) (fun _ _ _ _ n=>n)
  (fun b o f e=>?_) (fun _ _ e=>e) (fun _ _ _ e=>e) (fun b J e=>⟨#[],by rw[e];simp⟩) (fun m C=>?_) (fun b u e=>?_) I.bare
 ·exact⟨(g b j).2.2.2.1,(g b j).2.1,(g b j).2.2.2.2.1,(g b j).2.2.2.2.2⟩
 ·exact⟨o,k b o f e⟩
 ·obtain⟨o,D,E,G,r⟩:=C;exact⟨o,D,E,k _ o (fun z=>(g _ z).2.1 rfl) G,r⟩
 ·refine(I.hok b u e).stay (fun c v f q=>k c v ?_ q) (fun _ q=>q) fun _ _ q=>q;rcases f with z|z
  ·rw[z];exact h b u e
  ·exact h c _ z
theorem Inv.track{h:St}{T:Addr}(I:Inv X pins h H s)(B:X.s₀.heap.objs.size<=T)(hF:FpOk X pins H T)(new:ObjOk X.prog X.w (upd H T o) s.heap T o):Inv X pins h (upd H T o) s:=by
 have f:=hF.1;refine⟨I.ok,I.os,I.bare,⟨I.base.keep,I.base.slot,fun b g e n C=>?_,I.base.there,fun b xs e=>?_,fun b g u e=>?_,fun b D e=>?_⟩,I.loc,I.cell,?_,fun x c e=>?_,fun p j=>?_,fun b u e=>?_,I.len⟩
 ·rw[q0d (Bj (Cb (Az e) B))];exact I.base.free b g e n C
 ·have z:=I.base.tups b xs e;rw[q0d (q0i z f)];exact z
 ·have z:=I.base.frzs b g u e;rw[q0d (q0i z f)];exact z
 ·obtain⟨m,z⟩:=I.base.tbls b D e;exact⟨m,by rw[q0d (q0i z f)];exact z⟩
 ·rw[q0d (Ei hF.2.1)];exact I.free
 ·rw[q0d (hF.2.2.2.2.1 x c e)];exact I.freeC x c e
 ·obtain⟨e,n,ne,E,d⟩:=I.pin p j;exact⟨e,by rw[q0d (hF.2.2.2.2.2 p j)];exact n,ne,E,d⟩
 ·by_cases v:b=T
  ·subst v;rw[q0b] at e;cases e;exact new
  ·rw[q0d v] at e;exact(I.hok b u e).stay (fun _ _ _ q=>q) (fun c q=>by rw[q0d (q0i q f)];exact q) fun c xs q=>by rw[q0d (q0i q f)];exact q
theorem FpOk.noK{h:St}(I:Inv X pins h H' s)(f:FpOk X pins H b):X.K.lookup b=none:=by
 cases e:X.K.lookup b with
 |none=>rfl
 |some o =>
  have g:=I.ok.mod.kin b o e;rcases f.2.2.2.1 with z|z
  ·exact absurd z (I.ok.noex b o g)
  ·exact absurd (Cb (Az (I.ok.bs b o g).1) z) (Fq _)
structure ZipA (z TI TO i1 i2:Addr):Prop where
 TIz:TI≠z
 TOz:TO≠z
 i1z:i1≠z
 i2z:i2≠z
 TITO:TI≠TO
 TIi1:TI≠i1
 TIi2:TI≠i2
 TOi1:TO≠i1
 TOi2:TO≠i2
 i12:i1≠i2
section
variable{prog:Ay}{w:World}{K:Aq}{A:Around}{E:Value->Ag->Prop}{s:Ag}{J1 J2:It}{t1 t2:Nat->Heap->Prop}{z TI TO i1 i2:Addr}{H:Hp}
theorem z6z{Q:Value->Ag->Prop}(D:ZipA z TI TO i1 i2)(S1:Srce prog w K J1 i1 t1)(S2:Srce prog w K J2 i2 t2)(hh:A.handled=none)(vw:Vw K H s.heap)(nH:∀b∈[z,TI,TO,i1,i2],H b=none)(nK:∀b∈[z,TI,TO,i1,i2],K.lookup b=none)(hz:IsZip s.heap z TI TO .none)(a9:Me s.heap TI (.ref i1) (.ref i2))(b0:Me s.heap TO a b)(h1:t1 i s.heap)(h2:t2 i s.heap)(g1:J1.go i H)(g2:J2.go i H)(hQ:∀u v x y h' tk,RelV x u->RelV y v->J1.yld i H x H->J2.yld i H y H->IsZip h' z TI TO (Ek s.heap.objs.size)->Me h' TO u v->t1 (i+1) h'->t2 (i+1) h'->Me h' s.heap.objs.size u v->h'.objs.size=s.heap.objs.size+1 ->
   (∀c o,c≠z->c≠TO->c≠i1->c≠i2->s.heap.get? c=some o->h'.get? c=some o)->Q (.ref s.heap.objs.size) { s with heap:=h',toks:=tk }):
  wpAny (model prog w) A (Dq.«zip.__next__» ⟨[.ref z],[]⟩) (fun fin s'=>∃v,fin=.done (.ret v)/\Q v s') E s:=by
 show wpAny _ _ (field (.ref z) 2 >>= _) _ _ _;refine Ab (Cj hz rfl rfl ?_);refine Ab (Cj hz rfl rfl ?_);refine Ab (Ds a9 rfl ?_);refine Ab ?_;refine Ab (Cj hz rfl rfl (Ad ?_));refine Ab (Gm ?_);refine Ab (Cj hz rfl rfl ?_);refine Ab (Dh hz (by simp) fun a6 G f=>?_);replace G:IsZip a6 z TI TO .ellipsis:=G;have O:=vw.but (nH z (by simp)) (nK z (by simp)) fun c o hc e=>f.extBut _ _ hc e;refine Ab ?_;refine Ab (Ab (Pc ?_));refine Ab (S1.item _ i _ H _ _ hh O (nH i1 (by simp)) (nK i1 (by simp)) (S1.keep _ _ _ h1 fun o e=>f.extBut _ _ D.i1z e) g1 fun u x b2 b1 rx yx X g=>Ad ?_);have L:=g.extBut _ _ D.TOi1 (f.extBut _ _ D.TOz b0);refine Ab (Ds L rfl ?_);refine Ab (Nn L fun b3 U h=>?_);have Y:=(O.but (nH i1 (by simp)) (nK i1 (by simp)) fun c o hc e=>g.extBut _ _ hc e).but (nH TO (by simp)) (nK TO (by simp)) fun c o hc e=>h.extBut _ _ hc e;refine Ab (Gs (Ad ?_));refine Ab (Ab (Pc ?_));refine Ab (S2.item _ i _ H _ _ hh Y (nH i2 (by simp)) (nK i2 (by simp)) (S2.keep _ _ _ h2 fun o e=>h.extBut _ _ D.TOi2.symm (g.extBut _ _ D.i12.symm (f.extBut _ _ D.i2z e))) g2 fun v y b4 Z ry yy a0 q=>Ad ?_);have M:=q.extBut _ _ D.TOi2 U;refine Ab (Ds M rfl ?_);refine Ab (Nn M fun C j B=>?_);replace j:Me C TO u v:=j;refine Ab (Gs (Ad (Ad ?_)));refine Ab (Ds j rfl ?_);refine Ab (Oj ?_);have a7:C.objs.size=s.heap.objs.size:=by rw[B.1,q.1,h.1,g.1,f.1]
 have P:=B.extBut _ _ D.TOz.symm (q.extBut _ _ D.i2z.symm (h.extBut _ _ D.TOz.symm (g.extBut _ _ D.i1z.symm G)));have a1:∀c o,c≠z->c≠TO->c≠i1->c≠i2->s.heap.get? c=some o->C.get? c=some o:=fun c o c1 c2 c3 c4 e =>
  B.extBut _ _ c2 (q.extBut _ _ c4 (h.extBut _ _ c2 (g.extBut _ _ c3 (f.extBut _ _ c1 e))))
 have a2:=S1.keep _ _ _ X fun o e=>B.extBut _ _ D.TOi1.symm (q.extBut _ _ D.i12 (h.extBut _ _ D.TOi1.symm e));have a3:=S2.keep _ _ _ a0 fun o e=>B.extBut _ _ D.TOi2.symm e;have W:=Az P;refine Ab ?_;have a4:IsZip (C.push { cls:=.type "tuple",data:=.seq #[u,v] }) z TI TO .ellipsis:=Ai _ P;refine Ab (Dh a4 (by simp) fun b5 a5 I=>?_);refine Dh a5 (by simp) fun R S J=>?_;have up:∀c o,c≠z->C.get? c=some o->R.get? c=some o:=fun c o c1 e=>J.extBut _ _ c1 (I.extBut _ _ c1 (Ai _ e));have T:=J.extBut _ _ (Fl W) (I.extBut _ _ (Fl W) (Aw _ rfl));have a8:R.objs.size=C.objs.size+1:=by rw[J.1,I.1,Fv]
 rw[a7] at S T a8;refine Ad ⟨_,rfl,?_⟩;rw[a7];exact hQ u v x y R Z rx ry yx yy S (up _ _ D.TOz j) (S1.keep _ _ _ a2 fun o e=>up _ o D.i1z e) (S2.keep _ _ _ a3 fun o e=>up _ o D.i2z e) T a8 fun c o c1 c2 c3 c4 e=>up c o c1 (a1 c o c1 c2 c3 c4 e)
theorem x0a(D:ZipA z TI TO i1 i2)(S1:Srce prog w K J1 i1 t1)(S2:Srce prog w K J2 i2 t2)(hh:A.handled=none)(vw:Vw K H s.heap)(R:∀b∈[z,TI,TO,i1,i2],H b=none)(S:∀b∈[z,TI,TO,i1,i2],K.lookup b=none)(T:IsZip s.heap z TI TO .none)(a1:Me s.heap TI (.ref i1) (.ref i2))(a2:Me s.heap TO a b)(h1:t1 i s.heap)(h2:t2 i s.heap)(U:J1.stop i H\/(J1.go i H/\J2.stop i H))(hE:∀h' e tk,(∀c o,c≠z->c≠TO->c≠i1->c≠i2->s.heap.get? c=some o->h'.get? c=some o)->(∃o,h'.get? e=some o/\o.cls=.type "StopIteration")->E (.ref e) { s with heap:=h',toks:=tk }):
  wpAny (model prog w) A (Dq.«zip.__next__» ⟨[.ref z],[]⟩) Q E s:=by
 show wpAny _ _ (field (.ref z) 2 >>= _) _ _ _;refine Ab (Cj T rfl rfl ?_);refine Ab (Cj T rfl rfl ?_);refine Ab (Ds a1 rfl ?_);refine Ab ?_;refine Ab (Cj T rfl rfl (Ad ?_));refine Ab (Gm ?_);refine Ab (Cj T rfl rfl ?_);refine Ab (Dh T (by simp) fun a5 B g=>?_);have j:=vw.but (R z (by simp)) (S z (by simp)) fun c o W e=>g.extBut _ _ W e;refine Ab ?_;refine Ab (Ab (Pc ?_));rcases U with st|⟨g1,st⟩
 ·refine Ab (S1.done _ i _ H _ _ hh j (R i1 (by simp)) (S i1 (by simp)) (S1.keep _ _ _ h1 fun o e=>g.extBut _ _ D.i1z e) st fun X e f he=>?_);obtain⟨oe,q,C⟩:=he;have G:=f _ _ D.i1z.symm B;have O:e≠z:=fun x=>by subst x;rw[G] at q;cases q;simp at C
  refine Dh G (by simp) fun M _ h=>hE M e _ (fun c o Y _ c3 _ x=>h.extBut _ _ Y (f _ _ c3 (g.extBut _ _ Y x))) ⟨oe,h.extBut _ _ O q,C⟩
 ·refine Ab (S1.item _ i _ H _ _ hh j (R i1 (by simp)) (S i1 (by simp)) (S1.keep _ _ _ h1 fun o e=>g.extBut _ _ D.i1z e) g1 fun u x X a3 rx yx a4 f=>Ad ?_);have v:=f.extBut _ _ D.TOi1 (g.extBut _ _ D.TOz a2);refine Ab (Ds v rfl ?_);refine Ab (Nn v fun M a0 h=>?_);have P:=(j.but (R i1 (by simp)) (S i1 (by simp)) fun c o W e=>f.extBut _ _ W e).but (R TO (by simp)) (S TO (by simp)) fun c o W e=>h.extBut _ _ W e;refine Ab (Gs (Ad ?_));refine Ab (Ab (Pc ?_));refine Ab (S2.done _ i _ H _ _ hh P (R i2 (by simp)) (S i2 (by simp)) (S2.keep _ _ _ h2 fun o e=>h.extBut _ _ D.TOi2.symm (f.extBut _ _ D.i12.symm (g.extBut _ _ D.i2z e))) st fun a6 e I he=>?_);obtain⟨oe,q,C⟩:=he;have J:=I _ _ D.i2z.symm (h.extBut _ _ D.TOz.symm (f.extBut _ _ D.i1z.symm B));have O:e≠z:=fun x=>by subst x;rw[J] at q;cases q;simp at C
  refine Dh J (by simp) fun Z _ L=>hE Z e _ (fun c o Y c2 c3 c4 x=>L.extBut _ _ Y (I _ _ c4 (h.extBut _ _ c2 (f.extBut _ _ c3 (g.extBut _ _ Y x))))) ⟨oe,L.extBut _ _ O q,C⟩
end
noncomputable def Itz(J1 J2:It):It:=⟨fun i H=>J1.go i H/\J2.go i H,fun i H x H'=>∃T x1 x2,H T=none/\J1.yld i H x1 H/\J2.yld i H x2 H/\x=.ref T/\H'=upd H T (.tup [x1,x2]),fun i H=>J1.stop i H\/(J1.go i H/\J2.stop i H)⟩
noncomputable def tnZip(z TI TO i1 i2:Addr)(t1 t2:Nat->Heap->Prop)(i:Nat)(h:Heap):Prop:=IsZip h z TI TO .none/\Me h TI (.ref i1) (.ref i2)/\(∃a b,Me h TO a b)/\t1 i h/\t2 i h
theorem x0b{K:Aq}{TI TO:Addr}(D:ZipA z TI TO i1 i2)(Q:Srce P w K J1 i1 t1)(R:Srce P w K J2 i2 t2):
  Turn P w K (.Tuple elts kk pos) (Itz J1 J2) [z,TI,TO,i1,i2] z (tnZip z TI TO i1 i2 t1 t2) where
 mem:=by simp
 obj:=fun i h st b j=>by
  obtain⟨G,g,⟨a,c,q⟩,J,L⟩:=st;simp only[Bb,Fm,or_false] at j;rcases j with rfl|rfl|rfl|rfl|rfl
  ·simp_all
  ·grind
  ·grind
  ·exact Q.obj i h J
  ·exact R.obj i h L
 keep:=fun i h h' st k=>by
  obtain⟨G,g,⟨a,c,q⟩,J,L⟩:=st;exact⟨k z (by simp) _ G,k TI (by simp) _ g,⟨a,c,k TO (by simp) _ q⟩,Q.keep _ _ _ J fun o e=>k i1 (by simp) o e,R.keep _ _ _ L fun o e=>k i2 (by simp) o e⟩
 item:=by
  intro X U W Y Z i C s σ H E I M st T;subst U W Y;obtain⟨G,g,⟨a,c,q⟩,J,L⟩:=st;have S:s.TypeIs (.ref z) "zip" := ⟨_,G,rfl⟩
  refine Ab (Ep (Bz S Np
   (Bt Np S Vo
    (z6z D Q R (I.ok.hd Z) I.vw (fun b j=>(M b j).1) (fun b j=>(M b j).noK I) G g q J L T.1 T.2 fun u v x y h' tk rx ry yx yy a1 a2 a3 a4 a5 a6 a7=>Ad ?_) (Ut _))))
  refine⟨_,rfl,?_⟩;refine wpAny_letOwnedTupleGo_zip a1 fun O a0 B=>?_;have k2:∀c o,c∉[z,TI,TO,i1,i2]->s.heap.get? c=some o->O.get? c=some o:=fun c o f e=>by
   simp only[Bb,Fm,or_false,not_or] at f;exact B.extBut _ _ f.1 (a7 c o f.1 f.2.2.1 f.2.2.2.1 f.2.2.2.2 e)
  have a8:=Az G;have I1:Inv X C σ H { s with heap:=O,toks:=tk }:=I.turnedL k2 M;have FT:=I.fpOk (Au _) I.fresh;have a9:=B.extBut _ _ (Fl a8) a5;have I2:Inv X C σ (upd H s.heap.objs.size (.tup [x,y])) { s with heap:=O,toks:=tk } :=
   I1.track I.sz FT ⟨by show 2<=sizeLine;decide,[u,v],.cons rx (.cons ry .nil),⟨_,a9,rfl,_,rfl⟩⟩
  refine⟨.ref s.heap.objs.size,_,I2,rfl,⟨_,x,y,I.fresh,yx,yy,rfl,rfl⟩,⟨a0,?_,⟨_,_,B.extBut _ _ D.TOz a2⟩,Q.keep _ _ _ a3 fun o e=>B.extBut _ _ D.i1z e,R.keep _ _ _ a4 fun o e=>B.extBut _ _ D.i2z e⟩,fun b j=>?_⟩
  ·exact B.extBut _ _ D.TIz (a7 _ _ D.TIz D.TITO D.TIi1 D.TIi2 g)
  ·have b0:=(M b j).1;rw[q0d]
   ·exact b0
   ·have:∃o,s.heap.get? b=some o:=by
     simp only[Bb,Fm,or_false] at j;rcases j with rfl|rfl|rfl|rfl|rfl
     ·exact⟨_,G⟩
     ·grind
     ·grind
     ·obtain⟨o,e,_⟩:=Q.obj _ _ J;exact⟨o,e⟩
     ·obtain⟨o,e,_⟩:=R.obj _ _ L;exact⟨o,e⟩
    obtain⟨o,e⟩:=this;exact Bj (Az e)
 done:=by
  intro X U W Y Z i C s σ H E I M st T;subst U W Y;obtain⟨G,g,⟨a,c,q⟩,J,L⟩:=st;have S:s.TypeIs (.ref z) "zip" := ⟨_,G,rfl⟩
  refine Ab (Ep (Bz S Np
   (Bt Np S Vo
    (x0a D Q R (I.ok.hd Z) I.vw (fun b j=>(M b j).1) (fun b j=>(M b j).noK I) G g q J L T fun h' e tk hk he=>?_) (Ut _))))
  obtain⟨o,ho,b1⟩:=he;refine Ab (Fn ⟨o,ho,b1⟩ Jr ?_);refine Ad ⟨rfl,I.turnedL (fun c o f e=>?_) M⟩;simp only[Bb,Fm,or_false,not_or] at f;exact hk c o f.1 f.2.2.1 f.2.2.2.1 f.2.2.2.2 e
 self:=fun _ _ _ _ _ st h=>wpAny_pyIter_zip st.1 h
noncomputable abbrev zs1(h:Heap)(x:Str)(t:Tok):Heap:=h.push { cls:=.type (Ig x),data:=.fields #[.str x t,.int 0 0] }
noncomputable abbrev zs2(h:Heap)(x y:Str)(t u:Tok):Heap:=(zs1 h x t).push { cls:=.type (Ig y),data:=.fields #[.str y u,.int 0 0] }
noncomputable abbrev zs3(h:Heap)(x y:Str)(t u:Tok):Heap:=(zs2 h x y t u).push { cls:=.type "tuple",data:=.seq #[.ref h.objs.size,.ref (zs1 h x t).objs.size] }
noncomputable abbrev zs4(h:Heap)(x y:Str)(t u:Tok):Heap:=(zs3 h x y t u).push { cls:=.type "tuple",data:=.seq #[.none,.none] }
noncomputable abbrev zs5(h:Heap)(x y:Str)(t u:Tok):Heap:=(zs4 h x y t u).push { cls:=.type "zip",data:=.fields #[.none,.bool false,.bool false,.ref (zs2 h x y t u).objs.size,.ref (zs3 h x y t u).objs.size] }
set_option maxHeartbeats 4000000 in
theorem z2p(x y:Str)(t u:Tok):
  Meets (Dq.«zip.__new__» ⟨[.type "zip",.str x t,.str y u],[]⟩) (fun _ R s=>R (.ok (.ret (.ref (zs4 s.heap x y t u).objs.size))) { s with heap:=zs5 s.heap x y t u }) :=
 .of_wp fun prog w A R s h=>by
  obtain⟨e,g,d,tk,os⟩:=s;have f:=sub_zip;have j:∀{A:Around} {E:Value->Ag->Prop} {Q:Value->Ag->Prop},Q (.ref e.objs.size) ⟨zs1 e x t,g,d,tk,os⟩->wpAny (model prog w) A (Kv (.str x t)) Q E ⟨e,g,d,tk,os⟩:=fun q=>Uu q
  have v:∀{A:Around} {E:Value->Ag->Prop} {Q:Value->Ag->Prop},Q (.ref (zs1 e x t).objs.size) ⟨zs2 e x y t u,g,d,tk,os⟩->wpAny (model prog w) A (Kv (.str y u)) Q E ⟨zs1 e x t,g,d,tk,os⟩:=fun q=>Uu q
  wp_walk using j,v
  exact⟨_,rfl,h⟩
theorem z7a(n:Nat):ZipA (n+4) (n+2) (n+3) n (n+1):=by
 constructor<;>(show(_:Nat)≠_;lia)
section
variable{X:Cx}{elts:List Expr}{kk:Nat}{tpos:Pos}
theorem z3y{g:St}(I:Inv X pins g H s)(j:Srce X.prog X.w X.K J1 s.heap.objs.size t1)(u:Srce X.prog X.w X.K J2 (s.heap.objs.size+1) t2)(h:IsZip h' (s.heap.objs.size+4) (s.heap.objs.size+2) (s.heap.objs.size+3) .none)(e:Me h' (s.heap.objs.size+2) (.ref s.heap.objs.size) (.ref (s.heap.objs.size+1)))(f:Me h' (s.heap.objs.size+3) .none .none)(v:t1 0 h')(B:t2 0 h')(hk:∀c o,s.heap.get? c=some o->h'.get? c=some o)(q:R (Itz J1 J2) H):
  wpAny (model X.prog X.w) X.A (Kv (.ref (s.heap.objs.size+4))) (PIE X pins g (.Tuple elts kk tpos) R) E { s with heap:=h' }:=by
 refine wpAny_pyIter_zip h ?_;refine⟨_,_,_,_,H,rfl,I.kept (t':=s.toks) hk,x0b (z7a s.heap.objs.size) j u,⟨h,e,⟨_,_,f⟩,v,B⟩,fun b C=>?_,q⟩;have hb':s.heap.objs.size<=b:=by grind
 exact I.fpOk hb' (I.hok.fresh hb')
noncomputable def iZipS(ta:TA):TI:=fun σ H R=>ta σ H fun vs H1=>∃x y,vs=[.str x,.str y]/\R (Itz (Its x) (Its y)) H1
theorem x3f{p j:Pos}(W:Gl X "zip")(Y:X.mg "zip" = none)(ha:PA X [a,b] ta)(hs:Bk [a,b] X.env=[(false,eval a X.env),(false,eval b X.env)]:=by rfl)(B:Bk [b] X.env=[(false,eval b X.env)]:=by rfl):
  PI X (.Tuple elts kk tpos) (.Call (.Name "zip" p) [a,b] [] j) (iZipS ta):=by
 intro C s Z H R I h;refine Call_ (q6p I W Y (by decide +kernel:Hi "zip" = some (.type "zip")) (Ey (thn (ha j C s Z H _ I h) fun us f ⟨vs,H1,I1,r1,q1⟩=>?_) (by rw[hs,B]) (by rw[B];rfl)));obtain⟨x,y,e,q⟩:=q1;subst e;obtain⟨u,v,rfl,⟨t,rfl⟩,⟨g,rfl⟩⟩:=r1.two;refine callType_new F.called_zip (by decide) (F.typeCall_zip_2 _ _) (F.newCall_zip_2 _ _) (fun obj=>F.args_object_init_3 obj _ _) F.entry_zip_new (z2p x y t g) ?_;have L:(zs1 f.heap x t).objs.size=f.heap.objs.size+1:=Fv ..;have M:(zs2 f.heap x y t g).objs.size=f.heap.objs.size+2:=by simp_all
 have O:(zs3 f.heap x y t g).objs.size=f.heap.objs.size+3:=by simp_all
 have P:(zs4 f.heap x y t g).objs.size=f.heap.objs.size+4:=by simp_all
 have k1:∀c o,f.heap.get? c=some o->(zs1 f.heap x t).get? c=some o:=fun c o e=>Ai _ e;have Q:∀c o,(zs1 f.heap x t).get? c=some o->(zs2 f.heap x y t g).get? c=some o:=fun c o e=>Ai _ e;have G:∀c o,(zs2 f.heap x y t g).get? c=some o->(zs3 f.heap x y t g).get? c=some o:=fun c o e=>Ai _ e;have E:∀c o,(zs3 f.heap x y t g).get? c=some o->(zs4 f.heap x y t g).get? c=some o:=fun c o e=>Ai _ e;have D:∀c o,(zs4 f.heap x y t g).get? c=some o->(zs5 f.heap x y t g).get? c=some o:=fun c o e=>Ai _ e;have g1:(zs1 f.heap x t).get? f.heap.objs.size=some { cls:=.type (Ig x),data:=.fields #[.str x t,.int 0 0] }:=Aw _ rfl;have S:(zs2 f.heap x y t g).get? (zs1 f.heap x t).objs.size=some { cls:=.type (Ig y),data:=.fields #[.str y g,.int 0 0] }:=Aw _ rfl;have T:(zs3 f.heap x y t g).get? (zs2 f.heap x y t g).objs.size=some { cls:=.type "tuple",data:=.seq #[.ref f.heap.objs.size,.ref (zs1 f.heap x t).objs.size] }:=Aw _ rfl;have U:(zs4 f.heap x y t g).get? (zs3 f.heap x y t g).objs.size=some { cls:=.type "tuple",data:=.seq #[.none,.none] }:=Aw _ rfl;have J:(zs5 f.heap x y t g).get? (zs4 f.heap x y t g).objs.size=some { cls:=.type "zip",data:=.fields #[.none,.bool false,.bool false,.ref (zs2 f.heap x y t g).objs.size,.ref (zs3 f.heap x y t g).objs.size] }:=Aw _ rfl;rw[L] at S;rw[M,L] at T;rw[O] at U;rw[P,M,O] at J;rw[P];exact⟨⟨_,J,rfl⟩,z3y I1 (q9g _ x t) (q9g _ y g) J (D _ _ (E _ _ T)) (D _ _ U) ⟨_,D _ _ (E _ _ (G _ _ (Q _ _ g1))),rfl,rfl⟩ ⟨_,D _ _ (E _ _ (G _ _ S)),rfl,rfl⟩ (fun c o e=>D _ _ (E _ _ (G _ _ (Q _ _ (k1 _ _ e))))) q⟩
noncomputable def iZipL(K:Aq)(ta:TA):TI:=fun σ H R=>ta σ H fun vs H1=>∃a b xs ys,vs=[.ref a,.ref b]/\SqL K H1 a xs/\SqL K H1 b ys/\R (Itz (Itl K a) (Itl K b)) H1
theorem x3g{p f:Pos}(G:Gl X "zip")(J:X.mg "zip" = none)(ha:PA X [a,b] ta)(hs:Bk [a,b] X.env=[(false,eval a X.env),(false,eval b X.env)]:=by rfl)(g:Bk [b] X.env=[(false,eval b X.env)]:=by rfl):
  PI X (.Tuple elts kk tpos) (.Call (.Name "zip" p) [a,b] [] f) (iZipL X.K ta):=by
 intro j s L H R I h;refine Call_ (q6p I G J (by decide +kernel:Hi "zip" = some (.type "zip")) (Ey (thn (ha f j s L H _ I h) fun us s1 ⟨vs,H1,B,C,M⟩=>?_) (by rw[hs,g]) (by rw[g];rfl)));obtain⟨O,P,xs,ys,e,Q,S,q⟩:=M;subst e;obtain⟨u,v,rfl,C,T⟩:=C.two;cases C;cases T;obtain⟨U,rv,pl,_⟩:=B.list Q;obtain⟨E,W,D,_⟩:=B.list S;exact call_zip_2 pl.isList D.isList fun h' Y Z a3 a4 a5 a6 a7=>z3y B (q6z O _) (q6z P _) Y Z a3 a4 a5 a7 q
theorem z3z{J:It}{g:TG}{tb:TS}{D:Ends}(f:Nat->St->Hp->Prop)(h0:f 0 e H)(s:∀i e H,i<n->f i e H->J.go i H)(u:∀e H,f n e H->J.stop n H)(hs:∀i x e H H',i<n->f i e H->J.yld i H x H'->g x e H' fun h v=>tb { D with nx:=f (i+1),ct:=f (i+1),bk:=D.nx } h v)(hd:∀e H,f n e H->D.nx e H):
  ∃W:Nat->Nat->St->Hp->Prop,(∃m,W 0 m e H)/\∀i m e H,W i m e H ->
   (J.stop i H/\D.nx e H)\/(J.go i H/\∃N:St->Hp->Prop,(∀j H',N j H'->∃B,B<m/\W (i+1) B j H')/\∀x H',J.yld i H x H'->g x e H' fun h v=>tb { D with nx:=N,ct:=N,bk:=D.nx } h v):=by
 refine⟨fun i m e H=>m=n-i/\i<=n/\f i e H,⟨n,by simp,Bf _,h0⟩,?_⟩;rintro i m e H ⟨rfl,E,p⟩;by_cases q:i<n
 ·exact .inr ⟨s i e H q p,f (i+1),fun j H' C=>⟨n-(i+1),by lia,rfl,q,C⟩,fun x H' y=>hs i x e H H' q p y⟩
 ·grind
theorem x0c{K:Nj}{g:TG}{tb:TS}{D:Ends}(f:Nat->St->Hp->Prop)(h0:f 0 e H)(hl:∀i e H,f i e H->SqL K H a xs/\SqL K H b ys)(hs:∀i x y T e H,xs[i]?=some x->ys[i]?=some y->f i e H->H T=none->g (.ref T) e (upd H T (.tup [x,y])) fun j s=>tb { D with nx:=f (i+1),ct:=f (i+1),bk:=D.nx } j s)(hd:∀e H,f (min xs.length ys.length) e H->D.nx e H):
  ∃W:Nat->Nat->St->Hp->Prop,(∃m,W 0 m e H)/\∀i m e H,W i m e H ->
   ((Itz (Itl K a) (Itl K b)).stop i H/\D.nx e H)\/((Itz (Itl K a) (Itl K b)).go i H/\∃N:St->Hp->Prop,(∀q H',N q H'->∃u,u<m/\W (i+1) u q H')/\∀v H',(Itz (Itl K a) (Itl K b)).yld i H v H'->g v e H' fun j s=>tb { D with nx:=N,ct:=N,bk:=D.nx } j s):=by
 refine z3z f h0 (fun i e H h p=>⟨?_,?_⟩) (fun e H p=>?_) (fun i v e H H' h p B=>?_) hd
 ·exact⟨xs,xs[i]'(by lia),(hl i e H p).1,by simp⟩
 ·exact⟨ys,ys[i]'(by lia),(hl i e H p).2,by simp⟩
 ·by_cases C:xs.length<=ys.length
  ·exact .inl ⟨xs,(hl _ e H p).1,by lia⟩
  ·exact .inr ⟨⟨xs,xs[min xs.length ys.length]'(by lia),(hl _ e H p).1,by simp⟩,ys,(hl _ e H p).2,by lia⟩
 ·obtain⟨T,E,G,I,⟨_,J⟩,⟨_,L⟩,rfl,rfl⟩:=B;exact hs i E G T e H (J xs (hl i e H p).1) (L ys (hl i e H p).2) p I
end
structure Cal (P:Ay) (w:World) (K:Aq) (mg:Str->Option Value) (base:Heap) (x:Str) (k:Nat) (ps:List Str) (sp:Sp):Prop where
 ex:∃f fd,FnOk P w K mg base CX0 k f fd ps sp/\mg x=some (.ref f)/\Ih K (.ref f)=true/\Binds K fd ps []
structure Df (K:Aq) (mg:Str->Option Value) (x:Str) (st:Stmt) (ps:List Str):Prop where
 ex:∃f fd,Fun K x x st f fd/\mg x=some (.ref f)/\Binds K fd ps []
theorem Df.cal{K:Aq}{st:Stmt}(D:Df K mg x st ps)(S:FnScope N ps (defScope st))(len:∀vs H Q E,sp vs H Q E->vs.length=ps.length)(g:∀(f:Addr) (e:Value) (A:Around) (outer:List Env) (s:Ag) (H:Hp) (vs:List V) (Q:VK) (E:XK),Room k (A.deeper (Kz x (defScope st) s.heap.objs.size f e))->sp vs H Q E ->
   ∃t,PSs (cxOf CX0 P w K mg base N x (defScope st) f e A outer s H E).nox (defBody st) t/\t { nx:=fun _ H'=>Q .non H',rt:=Q } (start N vs) H):Cal P w K mg base x (k+1) ps sp:=by
 obtain⟨f,fd,F,j,q⟩:=D.ex;exact⟨f,fd,F.ok S len fun e A outer s H vs Q E u h=>g f e A outer s H vs Q E u h,j,F.kp,q⟩
section
variable{X:Cx}{x:Str}{k j:Nat}{ps:List Str}{sp:Sp}{p pos:Pos}{e:Expr}{es:List Expr}{t:TA}
theorem pe_c(C:Cal X.prog X.w X.K X.mg X.base x k ps sp)(q:Room j X.A)(ha:PA X (e::es) t)(hjk:k<=j:=by decide)(s:Gl X x:=by rfl)(g:(x==("__debug__" : Str))=false:=by decide)(u:Bk (e::es) X.env=(false,eval e X.env)::Bk es X.env:=by rfl)(h:(Gj pos (Bk es X.env)).any (·.1)=false:=by rfl):
  PE X (.Call (.Name x p) (e::es) [] pos) (tCall sp [] E0 t):=by
 obtain⟨f,fd,F,v,hk,B⟩:=C.ex;exact x3a F (q.mono hjk) s v hk B .nil pass0 ha g u h
theorem pe_c0(C:Cal X.prog X.w X.K X.mg X.base x k ps sp)(g:Room j X.A)(hjk:k<=j:=by decide)(h:Gl X x:=by rfl)(e:(x==("__debug__" : Str))=false:=by decide):
  PE X (.Call (.Name x p) [] [] pos) (tCall sp [] E0 tNil):=by
 obtain⟨f,fd,F,q,hk,s⟩:=C.ex;exact z9t F (g.mono hjk) h q hk s .nil pass0 e
end
theorem PI.or(g:PI X tg l w1)(j:PI X tg l w2):PI X tg l (fun f H R=>w1 f H R\/w2 f H R):=by
 intro e s f H R I h;rcases h with h|h
 ·exact g e s f H R I h
 ·exact j e s f H R I h
structure FeedAt (H:Hp) (a b:Addr):Prop where
 fa:∃i j:Int,H a=some (.lst [.ref b,.int i,.int j])
 fb:∃ns:List Int,H b=some (.lst (ns.map V.int))
structure Fd (a b:Addr) (H H':Hp):Prop where
 feed:FeedAt H' a b
 keep:∀c o,H c=some o->c≠a->H' c=some o
theorem FeedAt.ne(F:FeedAt H a b):b≠a:=by
 obtain⟨⟨i,j,h⟩,ns,e⟩:=F;refine z6c e h ?_;intro z;cases ns with
 |nil=>cases z
 |cons n r=>simp at z
theorem Fd.refl(F:FeedAt H a b):Fd a b H H:=⟨F,fun _ _ h _=>h⟩
theorem Fd.trans(x:Fd a b H H1)(y:Fd a b H1 H2):Fd a b H H2:=⟨y.feed,fun c o h e=>y.keep c o (x.keep c o h e) e⟩
theorem Fd.free(x:Fd a b H H')(h:H' p=none):H p=none:=by
 cases e:H p with
 |none=>rfl
 |some o =>
  by_cases f:p=a
  ·subst f;obtain⟨i,j,q⟩:=x.feed.fa;rw[h] at q;cases q
  ·rw[x.keep p o e f] at h;cases h
theorem FeedAt.upd(F:FeedAt H a b)(ha:a≠p)(e:b≠p):FeedAt (upd H p o) a b :=
 ⟨let ⟨i,j,h⟩:=F.fa;⟨i,j,by rw[q0d ha];exact h⟩,let ⟨ns,h⟩:=F.fb;⟨ns,by rw[q0d e];exact h⟩⟩
theorem FeedAt.na(F:FeedAt H a b)(h:H p=none):a≠p:=by obtain⟨i,j,q⟩:=F.fa;exact q0i q h
theorem FeedAt.nb(F:FeedAt H a b)(h:H p=none):b≠p:=by obtain⟨ns,q⟩:=F.fb;exact q0i q h
theorem Fd.put(x:Fd a b H H')(F:FeedAt H a b)(h:H p=none):Fd a b H (upd H' p o) :=
 ⟨x.feed.upd (F.na h) (F.nb h),fun c u e f=>by rw[q0d (q0i e h)];exact x.keep c u e f⟩
theorem Fd.new(x:Fd a b H H')(h:H' p=none):Fd a b H (upd H' p o) :=
 ⟨x.feed.upd (x.feed.na h) (x.feed.nb h),fun c u e f=>by rw[q0d (q0i (x.keep c u e f) h)];exact x.keep c u e f⟩
theorem Fd.at(x:Fd a b H H')(h:H c=some o)(e:c≠a):H' c=some o:=x.keep c o h e
theorem Fd.same(x:Fd a b H H')(s:Same H' H2):Fd a b H H2 :=
 ⟨⟨let ⟨i,j,h⟩:=x.feed.fa;⟨i,j,s _ _ h⟩,let ⟨ns,h⟩:=x.feed.fb;⟨ns,s _ _ h⟩⟩,fun c o e f=>s _ _ (x.keep c o e f)⟩
theorem Same.new(s:Same H H')(h:H' p=none):Same H (upd H' p o):=fun c u e=>by rw[q0d (q0i (s c u e) h)];exact s c u e
theorem Same.put(s:Same H H')(h:H p=none):Same H (upd H' p o):=fun c u e=>by rw[q0d (q0i e h)];exact s c u e
noncomputable def spDraw:Sp:=fun vs H Q _=>∃a b m,vs=[.ref a,.int m]/\FeedAt H a b/\0<m/\m<1073741824/\∀(r:Int) H',0<=r->r<m->Fd a b H H'->Q (.int r) H'
noncomputable def spConst(x:Str):Sp:=fun vs H Q _=>vs=[]/\Q (.str x) H
theorem x3h{xs:List α}(i:Int)(h:xs≠[]):∃x,x∈xs/\atI xs (i%(xs.length:Int))=some x:=by
 have hl:0<(xs.length:Int):=by
  cases xs with
  |nil=>exact absurd rfl h
  |cons a r=>grind
 have e:=Nq i (show(xs.length:Int)≠0 by lia);have f:=Lc i hl;have g:(i%(xs.length:Int)).toNat<xs.length:=by lia
 unfold atI ixN;rw[if_pos e,if_pos f];simp[g]
theorem q7z{xs:List α}(h0:0<=i)(e:i<(xs.length:Int)):∃x,xs[i.toNat]?=some x/\atI xs i=some x:=by
 have f:i.toNat<xs.length:=by lia
 unfold atI ixN;rw[if_pos h0,if_pos e];simp[f]
mutual
inductive Dt (K : Aq) (H : Hp) : V → Cw → Prop
  | non : Dt K H .non .none
  | bl (b : Bool) : Dt K H (.bl b) (.bool b)
  | int (i : Int) : Dt K H (.int i) (.int i)
  | str (x : Str) : Dt K H (.str x) (.str x)
  | lst {a : Addr} {xs : List V} {ds : List Cw} : SqL K H a xs → Dts K H xs ds → Dt K H (.ref a) (.list ds)
  | tup {a : Addr} {xs : List V} {ds : List Cw} : SqT K H a xs → Dts K H xs ds → Dt K H (.ref a) (.tuple ds)
inductive Dts (K : Aq) (H : Hp) : List V → List Cw → Prop
  | nil : Dts K H [] []
  | cons {x : V} {xs : List V} {d : Cw} {ds : List Cw} : Dt K H x d → Dts K H xs ds → Dts K H (x :: xs) (d :: ds)
end
section
variable{X:Cx}{pins:List (Addr×Obj)}{σ:St}{H:Hp}{s:Ag}
mutual
theorem Dt.reads (I : Inv X pins σ H s) : ∀ {x : V} {d : Cw} {u : Value}, Dt X.K H x d → RelV x u → ∃ as, Reads s.heap u d as
  | _, _, _, .non, r => by cases r; exact ⟨_, .none⟩
  | _, _, _, .bl b, r => by cases r; exact ⟨_, .bool b⟩
  | _, _, _, .int i, r => by obtain ⟨t, rfl⟩ := r; exact ⟨_, .int i t⟩
  | _, _, _, .str x, r => by obtain ⟨t, rfl⟩ := r; exact ⟨_, .str x t⟩
  | _, _, _, .lst q ds, r => by
    cases r
    obtain ⟨f, g, ⟨o, n, e, c, _, d⟩, _⟩ := I.list q
    obtain ⟨as, h⟩ := Dts.reads I ds g
    exact ⟨_, .list e c d (by simpa using h)⟩
  | _, _, _, .tup q ds, r => by
    cases r
    obtain ⟨f, g, ⟨o, e, c, n, d⟩, _⟩ := I.tuple q
    obtain ⟨as, h⟩ := Dts.reads I ds g
    exact ⟨_, .tuple e c d (by simpa using h)⟩
theorem Dts.reads (I : Inv X pins σ H s) : ∀ {xs : List V} {ds : List Cw} {us : List Value}, Dts X.K H xs ds → Vals xs us → ∃ as, ReadsAll s.heap us ds as
  | _, _, _, .nil, .nil => ⟨_, .nil⟩
  | _, _, _, .cons d ds, .cons r rs => by
    obtain ⟨as, h⟩ := Dt.reads I d r
    obtain ⟨bs, e⟩ := Dts.reads I ds rs
    exact ⟨_, .cons h e⟩
end
end
section
variable{X:Cx}{k:Nat}
noncomputable def rEqD(K:Aq):R2:=fun x y H Q=>∃d e,Dt K H x d/\Dt K H y e/\d.canLay0=true/\e.canLay0=true/\min d.depth e.depth<=100/\Q (.bl (Fw d e)) H
noncomputable def rNeD(K:Aq):R2:=fun x y H Q=>∃d e,Dt K H x d/\Dt K H y e/\d.canLay0=true/\e.canLay0=true/\min d.depth e.depth<=100/\Q (.bl (!PyData.eqv d e)) H
theorem op_eqD(g:Room k X.A):OpR X (Dg .Eq) (rEqD X.K):=by
 intro f s L H x y v u Q I j B h;obtain⟨d,e,hd,C,D,E,M,q⟩:=h;obtain⟨as,G⟩:=hd.reads I j;obtain⟨bs,J⟩:=C.reads I B;have O:=g.un;exact SeqAt.rcAt_reads G J D E (by lia) X.prog X.w X.xe _ ⟨.bl _,H,I,rfl,q⟩
theorem op_neD(g:Room k X.A):OpR X (Dg .NotEq) (rNeD X.K):=by
 intro f s L H x y v u Q I j B h;obtain⟨d,e,hd,C,D,E,M,q⟩:=h;obtain⟨as,G⟩:=hd.reads I j;obtain⟨bs,J⟩:=C.reads I B;have O:=g.un;exact SeqAt.rcNeAt_reads G J D E (by lia) X.prog X.w X.xe _ ⟨.bl _,H,I,rfl,q⟩
noncomputable def rAddU:R2:=fun x y H Q=>(∃i j,x=.int i/\y=.int j/\Q (.int (i+j)) H)\/(∃i j,x=.str i/\y=.str j/\i.length+j.length<=sizeLine/\Q (.str (i++j)) H)\/rCat x y H Q
theorem q1j:OpR X (Hd .Add) rAddU:=op_add.or (op_add_str.or op_cat)
noncomputable def rMulU:R2:=fun x y H Q=>(∃i j,x=.int i/\y=.int j/\CMul i j/\Q (.int (i*j)) H)\/rMulS x y H Q\/rRep x y H Q
theorem z2q:OpR X (Hd .Mult) rMulU:=op_mul.or (op_mulS.or op_rep)
noncomputable def rEqU(K:Aq):R2:=fun x y H Q=>rEq x y H Q\/rEqD K x y H Q
theorem op_eqU(e:Room k X.A):OpR X (Dg .Eq) (rEqU X.K):=op_eq.or (op_eqD e)
noncomputable def rNeU(K:Aq):R2:=fun x y H Q=>rNe x y H Q\/rNeD K x y H Q
theorem op_neU(e:Room k X.A):OpR X (Dg .NotEq) (rNeU X.K):=op_ne.or (op_neD e)
noncomputable def rInU(K:Aq):R2:=fun x y H Q=>(∃i j,x=.str i/\y=.str j/\Q (.bl (!(Qq j i 0 j.length 1).isEmpty)) H)\/rIn K false x y H Q
theorem op_inU:OpR X (Dg .In) (rInU X.K):=op_in_str.or z6s
noncomputable def rSlU(K:Aq):V->Option Int->Option Int->Hp->VK->Prop:=fun x lo hi H Q=>rSlS x lo hi H Q\/rSlL K x lo hi H Q\/rSlT K x lo hi H Q
theorem sl_U:SlR X (rSlU X.K):=sl_str.or (sl_list.or x1v)
noncomputable def iAny(K:Aq)(tl:TE):TI:=fun σ H R=>tl σ H fun x H1=>(∃a,x=.ref a/\(∃xs,SqL K H1 a xs)/\R (Itl K a) H1)\/(∃a,x=.ref a/\(∃xs,SqT K H1 a xs)/\R (Itt K a) H1)\/∃z,x=.str z/\R (Its z) H1
theorem pi_any(hl:PE X l tl):PI X tg l (iAny X.K tl):=by
 intro g s G H R I h;refine thn (hl g s G H _ I h) fun v f ⟨x,u,j,D,J⟩=>?_;have C:∀b∈[f.heap.objs.size],FpOk X g u b:=fun b O=>by
  have e:b=f.heap.objs.size:=by grind
  subst e;exact j.fpOk (Au _) (j.hok.fresh (Au _))
 rcases J with⟨a,e,⟨xs,E⟩,q⟩|⟨a,e,⟨xs,E⟩,q⟩|⟨z,e,q⟩
 ·subst e;cases D;obtain⟨B,L,p,M⟩:=j.list E;exact Pl p.isList ⟨f.heap.objs.size,[f.heap.objs.size],_,_,u,rfl,j.kept (t':=f.toks) fun b o e=>Ai _ e,z6g a _,⟨_,Aw _ rfl,rfl,rfl⟩,C,q⟩
 ·subst e;cases D;obtain⟨B,L,p,M⟩:=j.tuple E;exact wpAny_pyIter_tuple (show f.heap.IsTuple a B.toArray from p) ⟨f.heap.objs.size,[f.heap.objs.size],_,_,u,rfl,j.kept (t':=f.toks) fun b o e=>Ai _ e,z4t a _,⟨_,Aw _ rfl,rfl,rfl⟩,C,q⟩
 ·subst e;obtain⟨t,rfl⟩:=D;cases ha:z.cps.all (· < 128)
  ·exact wpAny_pyIter_wide ha ⟨f.heap.objs.size,[f.heap.objs.size],_,_,u,rfl,j.kept (t':=f.toks) fun b o e=>Ai _ e,z6x _ z t,⟨Bf _,_,Aw _ rfl,rfl,rfl⟩,C,q⟩
  ·exact wpAny_pyIter_ascii ha ⟨f.heap.objs.size,[f.heap.objs.size],_,_,u,rfl,j.kept (t':=f.toks) fun b o e=>Ai _ e,z6w _ z t,⟨Bf _,_,Aw _ rfl,rfl,rfl⟩,C,q⟩
noncomputable def iZip(K:Aq)(ta:TA):TI:=fun σ H R=>iZipS ta σ H R\/iZipL K ta σ H R
theorem pi_zip{e:List Expr}{s:Nat}{f:Pos}{p h:Pos}(j:Gl X "zip")(q:X.mg "zip" = none)(ha:PA X [a,b] ta)(hs:Bk [a,b] X.env=[(false,eval a X.env),(false,eval b X.env)]:=by rfl)(g:Bk [b] X.env=[(false,eval b X.env)]:=by rfl):
  PI X (.Tuple e s f) (.Call (.Name "zip" p) [a,b] [] h) (iZip X.K ta):=(x3f j q ha hs g).or (x3g j q ha hs g)
end
section
variable{X:Cx}{a b o e l:Expr}{es:List Expr}{ta tb to te tl:TE}{t:TA}{pos p2 apos cpos:Pos}{k:Nat}{name:Str}{T idn:String}{r:V->List V->Hp->VK->Prop}
theorem ix_k(K:Aq)(e:X.K=K):IxR X (rIx K):=by subst e;exact ix_seq
theorem q3o(K:Aq)(e:X.K=K):CallR X (.builtin "len") (fun xs H Q=>∃x n,xs=[x]/\LenV K x H n/\Q (.int n) H):=by subst e;exact z9q
theorem eq_k(K:Aq)(e:X.K=K)(f:Room k X.A):OpR X (Dg .Eq) (rEqU K):=by subst e;exact op_eqU f
theorem ne_k(K:Aq)(e:X.K=K)(f:Room k X.A):OpR X (Dg .NotEq) (rNeU K):=by subst e;exact op_neU f
theorem in_k(K:Aq)(e:X.K=K):OpR X (Dg .In) (rInU K):=by subst e;exact op_inU
theorem sl_k(K:Aq)(e:X.K=K):SlR X (rSlU K):=by subst e;exact sl_U
theorem q1y{e:Expr}(K:Aq)(f:X.K=K)(hl:PE X l tl):PI X e l (iAny K tl):=by subst f;exact pi_any hl
theorem zip_k{e:List Expr}{h:Nat}{f:Pos}{p:Pos}(K:Aq)(j:X.K=K)(q:Gl X "zip")(s:X.mg "zip" = none)(ha:PA X [a,b] t)(hs:Bk [a,b] X.env=[(false,eval a X.env),(false,eval b X.env)]:=by rfl)(g:Bk [b] X.env=[(false,eval b X.env)]:=by rfl):
  PI X (.Tuple e h f) (.Call (.Name "zip" p) [a,b] [] pos) (iZip K t):=by subst j;exact pi_zip q s ha hs g
theorem x1y(K:Aq)(e:X.K=K):CallR X (.type "list") (fun xs H Q=>∃p ys,xs=[.ref p]/\(SqL K H p ys\/SqT K H p ys)/\∀l,H l=none->Q (.ref l) (upd H l (.lst ys))):=by subst e;exact z0q
theorem x3i(K:Aq)(e:X.K=K):CallR X (.type "tuple") (fun xs H Q=>∃p ys,xs=[.ref p]/\((SqL K H p ys/\∀l,H l=none->Q (.ref l) (upd H l (.tup ys)))\/(SqT K H p ys/\Q (.ref p) H))):=by subst e;exact q9b
theorem z7b(K:Aq)(e:X.K=K):MtM X "str.join" (rJoin K):=by subst e;exact x3e
theorem q2l{f n:Nat}{u:TGs}(K:Aq)(g:X.K=K)(j:X.calm=true)(h:PGs X es u)(q:(Ka es X.env).length=n:=by rfl)(e:(Ka es X.env).findIdx? (·.1)=none:=by rfl):PG X (.Tuple es f pos) (gTup K n u):=by subst g;exact pg_tup j h q e
theorem bm_k(K:Aq)(s:X.K=K)(u:Sv T)(slot:Slot T name idn)(q:typeOf (.builtin idn)=pure (.type "method_descriptor"))(v:MtR X idn r)(B:PE X o to)(ha:PA X (e::es) t)(g:Gz o name X.env (eval o X.env)=eval o X.env:=by rfl)(j:((Gj cpos (Bk (e::es) X.env)).all (fun x => !x.1)&&(Mp cpos (Jg [] X.env)).all (fun x=>x.1.isSome)
   && decide ((e::es).length+([]:List Oi).length+(if ([]:List Oi).isEmpty then 0 else 1)<30))=true:=by rfl)(h:(apos.endLine==cpos.line)=true:=by rfl)(hs:Bk (e::es) X.env=(false,eval e X.env)::Bk es X.env:=by rfl)(f:(Gj cpos (Bk es X.env)).any (·.1)=false:=by rfl):
  PE X (.Call (.Attribute o name apos) (e::es) [] cpos) (tBM K T r to t):=by subst s;exact pe_bm u slot q v B ha g j h hs f
theorem q9h(K:Aq)(h:X.K=K)(j:Sv T)(slot:Slot T name idn)(g:typeOf (.builtin idn)=pure (.type "method_descriptor"))(q:MtR X idn r)(s:PE X o to)(e:Gz o name X.env (eval o X.env)=eval o X.env:=by rfl)(f:(apos.endLine==cpos.line)=true:=by rfl):PE X (.Call (.Attribute o name apos) [] [] cpos) (tBM0 K T r to):=by subst h;exact pe_bm0 j slot g q s e f
theorem z2r(K:Aq)(f:X.K=K)(ha:PE X a ta)(g:∀e,isTrue a X.env e=(do let v<-e;Qa a.pos;Ll [v] (truthy v))):
  PT X a (fun h H Q=>ta h H fun x H'=>∃k,TruV K x H' k/\Q k H'):=by subst f;exact z9p ha g
end
theorem z2s{lo:Int}{r:St}{Fin:List V->Hp->Prop}(e:Nat->List V->Hp->Prop)(h0:e 0 [] (upd H1 D (.lst [])))(hl:∀i ys H,e i ys H->H D=some (.lst ys))(hs:∀i ys H,i<n->e i ys H->te (some (.int (lo+i))::r) H fun v f=>f D=some (.lst ys)/\ys.length<sizeLine/\e (i+1) (ys++[v]) (upd f D (.lst (ys++[v]))))(hd:∀ys H,e n ys H->Fin ys H):CompW (Itr lo n) (gName 0) tIf0 te (none::r) D Fin H1 :=
 z5f e h0 hl (fun i ys H h p=>(⟨q0u,iteT (hs i ys H h p)⟩:Keeps0 (none::r) (some (.int (lo+i))::r)/\if true=true then te (some (.int (lo+i))::r) H fun v f=>f D=some (.lst ys)/\ys.length<sizeLine/\e (i+1) (ys++[v]) (upd f D (.lst (ys++[v]))) else e (i+1) ys H)) hd
theorem z0w{r:St}{Fin:List V->Hp->Prop}(e:Nat->List V->Hp->Prop)(h0:e 0 [] (upd H1 D (.lst [])))(hl:∀i ys H,e i ys H->H D=some (.lst ys))(hs:∀i ys H c,z.cps[i]?=some c->e i ys H->te (some (.str ⟨#[c]⟩)::r) H fun v f=>f D=some (.lst ys)/\ys.length<sizeLine/\e (i+1) (ys++[v]) (upd f D (.lst (ys++[v]))))(hd:∀ys H,e z.length ys H->Fin ys H):CompW (Its z) (gName 0) tIf0 te (none::r) D Fin H1 :=
 z9z e h0 hl (fun i ys H c h p=>(⟨q0u,iteT (hs i ys H c h p)⟩:Keeps0 (none::r) (some (.str ⟨#[c]⟩)::r)/\if true=true then te (some (.str ⟨#[c]⟩)::r) H fun v f=>f D=some (.lst ys)/\ys.length<sizeLine/\e (i+1) (ys++[v]) (upd f D (.lst (ys++[v]))) else e (i+1) ys H)) hd
theorem q3x{K:Aq}{r:St}{Fin:List V->Hp->Prop}(e:Nat->List V->Hp->Prop)(h0:e 0 [] (upd H1 D (.lst [])))(hl:∀i ys H,e i ys H->H D=some (.lst ys)/\SqL K H a xs)(hs:∀i ys H x,xs[i]?=some x->e i ys H->te (some x::r) H fun v f=>f D=some (.lst ys)/\ys.length<sizeLine/\e (i+1) (ys++[v]) (upd f D (.lst (ys++[v]))))(hd:∀ys H,e xs.length ys H->Fin ys H):CompW (Itl K a) (gName 0) tIf0 te (none::r) D Fin H1 :=
 q1i e h0 hl (fun i ys H x h p=>(⟨q0u,iteT (hs i ys H x h p)⟩:Keeps0 (none::r) (some x::r)/\if true=true then te (some x::r) H fun v f=>f D=some (.lst ys)/\ys.length<sizeLine/\e (i+1) (ys++[v]) (upd f D (.lst (ys++[v]))) else e (i+1) ys H)) hd
theorem z7c{K:Aq}{r:St}{Fin:List V->Hp->Prop}(e:Nat->List V->Hp->Prop)(h0:e 0 [] (upd H1 D (.lst [])))(hl:∀i ys H,e i ys H->H D=some (.lst ys)/\SqT K H a xs)(hs:∀i ys H x,xs[i]?=some x->e i ys H->te (some x::r) H fun v f=>f D=some (.lst ys)/\ys.length<sizeLine/\e (i+1) (ys++[v]) (upd f D (.lst (ys++[v]))))(hd:∀ys H,e xs.length ys H->Fin ys H):CompW (Itt K a) (gName 0) tIf0 te (none::r) D Fin H1 :=
 z9y e h0 hl (fun i ys H x h p=>(⟨q0u,iteT (hs i ys H x h p)⟩:Keeps0 (none::r) (some x::r)/\if true=true then te (some x::r) H fun v f=>f D=some (.lst ys)/\ys.length<sizeLine/\e (i+1) (ys++[v]) (upd f D (.lst (ys++[v]))) else e (i+1) ys H)) hd
noncomputable def tSeqJ(t u:TS):TS:=fun D σ H=>∃J:St->Hp->Prop,(∀σ' H',J σ' H'->u D σ' H')/\t { D with nx:=J } σ H
theorem q3p{X:Cx}{st:Stmt}{rest:List Stmt}{t u:TS}(B:PS X st t)(C:PSs X rest u):PSs X (st::rest) (tSeqJ t u):=by
 intro e s E H D I h;obtain⟨J,G,h⟩:=h;refine Qd (thn (B e s E H { D with nx:=J } I h) fun f L q=>?_);cases f with
 |next =>
  obtain⟨g,j,M,q⟩:=q;exact C e L g j D M (G g j q)
 |ret v=>exact q
 |brk=>exact q
 |cont=>exact q
noncomputable def tVJ(t:TE):TE:=fun σ H Q=>∃J:VK,(∀v H',J v H'->Q v H')/\t σ H J
theorem pe_j{X:Cx}{e:Expr}{t:TE}(h:PE X e t):PE X e (tVJ t):=by
 intro f s B H Q I g;obtain⟨J,C,g⟩:=g;exact thn (h f s B H J I g) fun u E ⟨v,j,D,r,q⟩=>⟨v,j,D,r,C v j q⟩
noncomputable def tTJ(t:TT):TT:=fun σ H Q=>∃J:Bool->Hp->Prop,(∀b H',J b H'->Q b H')/\t σ H J
theorem pt_j{X:Cx}{e:Expr}{t:TT}(h:PT X e t):PT X e (tTJ t):=by
 intro f s v H Q I g;obtain⟨J,B,g⟩:=g;exact thn (h f s v H J I g) fun u D ⟨j,C,q⟩=>⟨j,C,B u j q⟩
theorem iteB{B:Prop}(e:c=true->A)(f:c=false->B):if c=true then A else B:=by grind
end L2
namespace TX
open PySem PySem.Spec PyProof.Rows L2
noncomputable abbrev tl(x:Str):List Nat:=x.cps.toList
noncomputable abbrev mk(l:List Nat):Str:=⟨l.toArray⟩
theorem q2m(l:List Nat):tl (mk l)=l:=by simp[tl,mk]
theorem z7d(x:Str):mk (tl x)=x:=by simp[tl,mk]
theorem ext(h:tl x=tl y):x=y:=ext_toList h
theorem len(x:Str):x.length=(tl x).length:=by simp[tl,Str.length]
theorem z7e(x y:Str):tl (x++y)=tl x++tl y:=by
 show(x.cps++y.cps).toList=_;simp[tl]
theorem get{i:Nat}(h:x.cps[i]?=some c):(tl x)[i]?=some c:=by simpa[tl] using h
theorem x3j(z:Str)(e:List Str):Vn z e=Str.join z e:=StrLaws.glued_eq_join z e
theorem x3k:∀f:List Str,tl (Vn (Ap "") f)=(f.map tl).flatten:=by
 intro f;rw[x3j];induction f with
 |nil=>rfl
 |cons a r ih =>
  cases r with
  |nil=>simp[Str.join]
  |cons b r =>
   show tl (a++Ap "" ++ Str.join (Ap "") (b::r))=_;rw[z7e,z7e,ih];have e:tl (Ap "")=[]:=by trivial
   rw[e];simp
theorem q7a(e:List Nat):Vn (Ap "") (e.map fun c=>(⟨#[c]⟩:Str))=mk e:=by
 apply ext;rw[x3k,q2m,An];induction e with
 |nil=>rfl
 |cons c r ih=>rw[Ax,Pk,ih];rfl
theorem q9i(e:List Nat):((e.map fun c=>(⟨#[c]⟩:Str)).map (·.length)).sum=e.length:=by
 induction e with
 |nil=>rfl
 |cons c r ih=>rw[Ax,Ax,List.sum_cons,ih,Cg];show 1+_=_;lia
theorem lower(h:∀c∈tl x,c<128):tl (Txt.lower x)=(tl x).map lo1:=by
 rw[lower_ascii h];simp[tl]
theorem small(h:n<=1000000):n<=sizeLine:=by rw[Dy];lia
theorem small'(h:n<=1000000):n<sizeLine:=by rw[Dy];lia
end TX
namespace L2
open PySem PySem.Spec PyProof.Rows TX
noncomputable def spText:Sp:=fun vs H Q _=>∃a b g n,vs=[.ref a,.str g,.int n]/\FeedAt H a b/\0<g.length/\g.length<=1000/\0<=n/\n<=1000 /\
 ∀(t:List Nat) H',t.length=n.toNat->(∀c∈t,c∈tl g)->Fd a b H H'->Q (.str (mk t)) H'
section
variable{prog:Ay}{w:World}{K:Aq}{A:Around}{E:Value->Ag->Prop}{s:Ag}{J:It}{st:Nat->Heap->Prop}{e it:Addr}{H:Hp}
theorem z5g{i:Nat}{Q:Value->Ag->Prop}(S:Srce prog w K J it st)(hh:A.handled=none)(vw:Vw K H s.heap)(nH:H it=none)(nK:K.lookup it=none)(he:IsEnum s.heap e it i old)(a6:st i s.heap)(go:J.go i H)(P:e≠it)(hQ:∀u x h' tk,RelV x u->J.yld i H x H->IsEnumOut h' e it ((i:Int)+1) u s.heap.objs.size->st (i+1) h'->h'.get? s.heap.objs.size=some { cls:=.type "tuple",data:=.seq #[.int i tk,u] }->h'.objs.size=s.heap.objs.size+1 ->
   (∀b o,b≠e->b≠it->s.heap.get? b=some o->h'.get? b=some o)->Q (.ref s.heap.objs.size) { s with heap:=h',toks:=tk+1 }):
  wpAny (model prog w) A (Dq.«enumerate.__next__» ⟨[.ref e],[]⟩) (fun fin s'=>∃v,fin=.done (.ret v)/\Q v s') E s:=by
 obtain⟨hp,g,d,a7,os⟩:=s;show wpAny _ _ (field (.ref e) 2 >>= _) _ _ _;refine Ab (Cj he rfl rfl ?_);refine Ab (S.item _ i _ H _ _ hh vw nH nK a6 go fun u x a9 tk rx yx T j=>?_);have q:=(j.2 e P).trans he;refine Ab (Cj q rfl rfl ?_);refine Ab (Cj q rfl rfl ?_);refine Ab (wpAny_mkInt ?_);refine Ab (Dh q (by simp) fun b0 U B=>?_);refine Ab (Dh U (by simp) fun G W C=>?_);refine Ab (Oj ?_);have f:IsEnum (G.push { cls:=.type "tuple",data:=.seq #[.int i tk,u] }) e it ((i:Int)+1) old:=Ai _ W;generalize h:G.push { cls:=.type "tuple",data:=.seq #[.int i tk,u] }=D at f;have X:G.objs.size=hp.objs.size:=by rw[C.1,B.1,j.1]
 have a8:=Az he;have Y:D.get? hp.objs.size=some { cls:=.type "tuple",data:=.seq #[.int i tk,u] }:=by rw[<- h,<- X];exact Aw _ rfl
 have Z:D.objs.size=hp.objs.size+1:=by rw[<- h,Fv,X]
 have a0:∀b o,b≠e->b≠it->hp.get? b=some o->D.get? b=some o:=fun b o I a1 hb=>by
  rw[<- h];exact Ai _ (C.extBut b o I (B.extBut b o I (j.extBut b o a1 hb)))
 have R:st (i+1) D:=S.keep _ _ _ T fun o y=>by
  rw[<- h];exact Ai _ (C.extBut it o P.symm (B.extBut it o P.symm y))
 rw[X];refine Ab ?_;refine Ab (Cj f rfl rfl (Ad ?_));refine Ab (Gm ?_);refine Ab (Cj f rfl rfl ?_);refine Ab (Dh f (by simp) fun b1 a2 L=>?_);refine Ab ?_;refine Ab (Dh a2 (by simp) fun b2 a3 M=>?_);refine Dh a3 (by simp) fun a5 a4 O=>?_;have up:=fun b o hb y=>O.extBut b o hb (M.extBut b o hb (L.extBut b o hb y));refine Ab (Gs (Ad ⟨_,rfl,hQ u x a5 tk rx yx a4 (S.keep _ _ _ R fun o y=>up _ o P.symm y) (up _ _ (Fl a8) Y) ?_ fun b o I a1 hb=>up b o I (a0 b o I a1 hb)⟩));rw[O.1,M.1,L.1,Z]
end
noncomputable def Ite(J:It):It:=⟨fun i H=>J.go i H,fun i H x H'=>∃T y,H T=none/\J.yld i H y H/\x=.ref T/\H'=upd H T (.tup [.int i,y]),fun i H=>J.stop i H⟩
theorem z7f{K:Aq}{st:Nat->Heap->Prop}(C:e≠it)(S:Srce P w K J it st):
  Turn P w K (.Tuple elts kk pos) (Ite J) [e,it] e (fun i h=>(∃old,IsEnum h e it i old)/\st i h) where
 mem:=by simp
 obj:=fun i h hs b G=>by
  obtain⟨⟨old,g⟩,q⟩:=hs;simp only[Bb,Fm,or_false] at G;rcases G with rfl|rfl
  ·grind
  ·exact S.obj i h q
 keep:=fun i h h' hs k=>by
  obtain⟨⟨old,g⟩,q⟩:=hs;exact⟨⟨old,k e (by simp) _ g⟩,S.keep _ _ _ q fun o y=>k it (by simp) o y⟩
 item:=by
  intro X M O Q R i j s T H E I v hs U;subst M O Q;obtain⟨⟨old,g⟩,q⟩:=hs;have D:s.TypeIs (.ref e) "enumerate" := ⟨_,g,rfl⟩
  refine Ab (Ep (Bz D Js
   (Bt Js D Rk
    (z5g S (I.ok.hd R) I.vw (v it (by simp)).1 ((v it (by simp)).noK I) g q U C fun u x h' tk rx yx a1 a2 a3 a4 a5=>Ad ?_) (Qr _))))
  refine⟨_,rfl,?_⟩;refine wpAny_letOwnedTupleGo_enum a1 fun L W B=>?_;have k2:∀c o,c∉[e,it]->s.heap.get? c=some o->L.get? c=some o:=fun c o f y=>by
   simp only[Bb,Fm,or_false,not_or] at f;exact B.extBut _ _ f.1 (a5 c o f.1 f.2 y)
  have Y:=Az g;have a9:it<s.heap.objs.size:=by obtain⟨o,y,_⟩:=S.obj _ _ q;exact Az y
  have I1:Inv X j T H { s with heap:=L,toks:=tk+1 }:=I.turnedL k2 v;have FT:=I.fpOk (Au _) I.fresh;have Z:L.get? s.heap.objs.size=some { cls:=.type "tuple",data:=.seq #[.int i tk,u] }:=B.extBut _ _ (Fl Y) a3;have I2:Inv X j T (upd H s.heap.objs.size (.tup [.int i,x])) { s with heap:=L,toks:=tk+1 } :=
   I1.track I.sz FT ⟨by show 2<=sizeLine;decide,[.int i tk,u],.cons ⟨_,rfl⟩ (.cons rx .nil),⟨_,Z,rfl,_,rfl⟩⟩
  refine⟨.ref s.heap.objs.size,_,I2,rfl,⟨_,x,I.fresh,yx,rfl,rfl⟩,⟨⟨u,by simpa using W⟩,S.keep _ _ _ a2 fun o y=>B.extBut _ _ C.symm y⟩,fun b G=>?_⟩;have a0:=(v b G).1;rw[q0d]
  ·exact a0
  ·grind
 done:=by
  intro X M O Q R i j s T H E I v hs U;subst M O Q;obtain⟨⟨old,g⟩,q⟩:=hs;have D:s.TypeIs (.ref e) "enumerate" := ⟨_,g,rfl⟩
  refine Ab (Ep (Bz D Js
   (Bt Js D Rk ?_ (Qr _))))
  show wpAny _ _ (field (.ref e) 2 >>= _) _ _ _;refine Ab (Cj g rfl rfl ?_);refine Ab (S.done _ i _ H _ _ (I.ok.hd R) I.vw (v it (by simp)).1 ((v it (by simp)).noK I) q U fun h' x a6 a7=>?_);obtain⟨o,ho,a8⟩:=a7;refine Ab (Fn ⟨o,ho,a8⟩ Jr ?_);refine Ad ⟨rfl,I.turnedL (t':=s.toks) (fun c o f y=>?_) v⟩;simp only[Bb,Fm,or_false,not_or] at f;exact a6 c o f.2 y
 self:=fun _ _ _ _ _ hs h=>by
  obtain⟨⟨old,g⟩,_⟩:=hs;exact Uv g h
section
variable{X:Cx}{elts:List Expr}{kk:Nat}{tpos:Pos}
theorem z0x{e:St}{st:Nat->Heap->Prop}(I:Inv X pins e H s)(S:Srce X.prog X.w X.K J s.heap.objs.size st)(f:IsEnum h' (s.heap.objs.size+1) s.heap.objs.size 0 .none)(h:st 0 h')(hk:∀c o,s.heap.get? c=some o->h'.get? c=some o)(q:R (Ite J) H):
  wpAny (model X.prog X.w) X.A (Kv (.ref (s.heap.objs.size+1))) (PIE X pins e (.Tuple elts kk tpos) R) E { s with heap:=h' }:=by
 refine Uv f ?_;refine⟨_,_,_,_,H,rfl,I.kept (t':=s.toks) hk,z7f (show(s.heap.objs.size+1:Nat)≠s.heap.objs.size by lia) S,⟨⟨_,f⟩,h⟩,fun b g=>?_,q⟩;have hb':s.heap.objs.size<=b:=by
  simp only[Bb,Fm,or_false] at g;rcases g with rfl|rfl
  ·exact Jh _
  ·exact Au _
 exact I.fpOk hb' (I.hok.fresh hb')
noncomputable def iEnum(K:Aq)(ta:TA):TI:=fun σ H R=>ta σ H fun vs H1=>(∃z,vs=[.str z]/\R (Ite (Its z)) H1)\/∃a xs,vs=[.ref a]/\SqL K H1 a xs/\R (Ite (Itl K a)) H1
theorem x3l(C:Gl X "enumerate")(D:X.mg "enumerate" = none)(ha:PA X [a] ta)(hs:Bk [a] X.env=[(false,eval a X.env)]:=by rfl):
  PI X (.Tuple elts kk tpos) (.Call (.Name "enumerate" p) [a] [] pos) (iEnum X.K ta):=by
 intro f s E H R I h;refine Call_ (q6p I C D (by decide +kernel:Hi "enumerate" = some (.type "enumerate")) (Ey (thn (ha pos f s E H _ I h) fun P Q ⟨vs,S,g,B,G⟩=>?_) hs rfl));rcases G with⟨z,e,q⟩|⟨l,xs,e,J,q⟩
 ·subst e;obtain⟨u,rfl,t,rfl⟩:=vals1 B;exact call_enumerate_str fun L j v M hk=>z0x g (q9g _ z t) j v hk q
 ·subst e;obtain⟨u,rfl,r⟩:=vals1 B;cases r;obtain⟨O,T,pl,_⟩:=g.list J;exact call_enumerate_list pl.isList fun L j v M hk=>z0x g (q6z l _) j v hk q
theorem z7g{a:Expr}{f:TA}{p e:Pos}(K:Aq)(g:X.K=K)(h:Gl X "enumerate")(j:X.mg "enumerate" = none)(ha:PA X [a] f)(hs:Bk [a] X.env=[(false,eval a X.env)]:=by rfl):
  PI X (.Tuple elts kk tpos) (.Call (.Name "enumerate" p) [a] [] e) (iEnum K f):=by subst g;exact x3l h j ha hs
end
end L2
namespace K
open PySem L2 TX
noncomputable def NSs:Str:=Ap "abcdefghijklmnopqrstuvwxyzABCDEFGHIJKLMNOPQRSTUVWXYZ0123456789-_."
noncomputable def GSs:Str:=Ap "?*#@"
noncomputable abbrev NS:List Nat:=tl NSs
noncomputable abbrev GS:List Nat:=tl GSs
theorem x0d:∀c∈NS,c<128:=by trivial
inductive Pt where
 |tx (l:List Nat)
 |gp (c:Nat)
namespace Pt
noncomputable def fl:Pt->List Nat
 |tx l=>l
 |gp c=>[c]
noncomputable def isG:Pt->Bool
 |tx _=>false
 |gp _=>true
noncomputable def ok:Pt->Prop
 |tx l=>l≠[]/\∀c∈l,c∈NS
 |gp c=>c∈GS
noncomputable def word:Pt->Str
 |tx _=>Ap "text"
 |gp _=>Ap "gap"
noncomputable def vs(p:Pt):List V:=[.str p.word,.str (mk p.fl)]
noncomputable def dat(p:Pt):Cw:=.tuple [.str p.word,.str (mk p.fl)]
end Pt
noncomputable def flat(ps:List Pt):List Nat:=(ps.map Pt.fl).flatten
noncomputable def tp(t:List Nat):List Pt:=if t=[] then[] else[.tx t]
noncomputable def TKeep(H H':Hp):Prop:=∀T xs,H T=some (.tup xs)->H' T=some (.tup xs)
end K
namespace L2
open PySem PySem.Spec PyProof.Rows
section
variable{κ:Type}[DecidableEq κ]
noncomputable def valV(kvs:List (κ×V))(k:κ):Option V:=(kvs.find? fun kv=>decide (kv.1=k)).map (·.2)
noncomputable def putK(kvs:List (κ×V))(k:κ)(v:V):List (κ×V) :=
 if (kvs.any fun kv=>decide (kv.1=k))=true then kvs.map (fun kv=>if kv.1=k then(kv.1,v) else kv) else kvs++[(k,v)]
noncomputable def dropK(kvs:List (κ×V))(k:κ):List (κ×V):=kvs.filter fun kv=>decide (kv.1≠k)
theorem q0z{p:κ×V}(e:p.1=k):valV (p::r) k=some p.2:=by simp[valV,Hr,e]
theorem q0y{p:κ×V}(e:¬p.1=k):valV (p::r) k=valV r k:=by simp[valV,Hr,e]
theorem q4w(k:κ):∀kvs:List (κ×V),(kvs.any fun f=>decide (f.1=k))=(valV kvs k).isSome
 |[]=>rfl
 |p::r=>by
  rw[Mm];by_cases e:p.1=k
  ·simp only[q0z e,decide_eq_true e,Bool.true_or,Option.isSome_some]
  ·rw[q0y e,decide_eq_false e,Bool.false_or];exact q4w k r
theorem z4a(k j:κ)(y:V):∀kvs:List (κ×V),valV (kvs.map fun f=>if f.1=k then(f.1,y) else f) j=(valV kvs j).map fun x=>if j=k then y else x
 |[]=>rfl
 |p::r=>by
  have g:=z4a k j y r;rw[Ax];by_cases h:p.1=k
  ·rw[if_pos h];by_cases e:p.1=j
   ·rw[q0z (p:=(p.1,y)) e,q0z e,Kp,if_pos (e.symm.trans h)]
   ·rw[q0y (p:=(p.1,y)) e,q0y e,g]
  ·rw[if_neg h];by_cases e:p.1=j
   ·rw[q0z e,q0z e,Kp,if_neg (fun z=>h (e.trans z))]
   ·rw[q0y e,q0y e,g]
theorem z0y(k j:κ)(y:V):∀kvs:List (κ×V),valV kvs k=none->valV (kvs++[(k,y)]) j=if j=k then some y else valV kvs j
 |[],_=>by
  by_cases e:k=j
  ·rw[if_pos e.symm];exact q0z (p:=(k,y)) e
  ·rw[if_neg (fun z=>e z.symm)];exact q0y (p:=(k,y)) e
 |p::r,hn=>by
  rw[List.cons_append];have hk:¬p.1=k:=fun z=>by rw[q0z z] at hn;cases hn
  rw[q0y hk] at hn;have f:=z0y k j y r hn;by_cases e:p.1=j
  ·rw[q0z e,q0z e,if_neg (fun z=>hk (e.trans z))]
  ·rw[q0y e,q0y e,f]
theorem q6f(kvs:List (κ×V))(k j:κ)(y:V):valV (putK kvs k y) j=if j=k then some y else valV kvs j:=by
 unfold putK;by_cases a:(kvs.any fun f=>decide (f.1=k))=true
 ·rw[if_pos a,z4a];rw[q4w] at a;by_cases e:j=k
  ·obtain⟨x,g⟩:=Qf.mp a;rw[if_pos e,e,g,Kp,if_pos rfl]
  ·simp_all
 ·rw[if_neg a];refine z0y k j y kvs ?_;rw[q4w] at a;cases q:valV kvs k with
  |none=>rfl
  |some x=>grind
theorem q2c(kvs:List (κ×V))(k:κ)(v:V):(putK kvs k v).length<=kvs.length+1:=by
 unfold putK;split
 ·grind
 ·grind
theorem x0e{kvs:List (κ×V)}(v:V)(h:valV kvs k=none):putK kvs k v=kvs++[(k,v)]:=by
 unfold putK;rw[q4w,h];exact if_neg (by decide)
theorem RelO.isSome_eq(r:RelO o u):o.isSome=u.isSome:=by
 cases o with
 |none=>cases u with
  |none=>rfl
  |some _=>exact(show False from r).elim
 |some _=>cases u with
  |none=>exact(show False from r).elim
  |some _=>rfl
theorem RelO.getD(r:RelO o u)(rd:RelV d d'):RelV (o.getD d) (u.getD d'):=by
 cases o with
 |none=>cases u with
  |none=>exact rd
  |some _=>exact(show False from r).elim
 |some _=>cases u with
  |none=>exact(show False from r).elim
  |some _=>exact r
theorem KV.val(r:KV kvs vs)(k:κ):RelO (valV kvs k) (valueAt vs k):=by
 induction r with
 |nil=>exact True.intro
 | @cons p q ps qs h t ih =>
  obtain⟨f,g⟩:=h;by_cases e:p.1=k
  ·have e':q.1=k:=f.symm.trans e;have b:valueAt (q::qs) k=some q.2:=by simp[valueAt,Hr,e']
   rw[q0z e,b];exact g
  ·have e':¬q.1=k:=fun z=>e (f.trans z);have b:valueAt (q::qs) k=valueAt qs k:=by simp[valueAt,Hr,e']
   rw[q0y e,b];exact ih
theorem KV.any(r:KV kvs vs)(k:κ):(kvs.any fun e=>decide (e.1=k))=vs.any fun e=>decide (e.1=k):=by
 induction r with
 |nil=>rfl
 |cons h t ih=>simp_all
theorem KV.repl(r:KV kvs vs)(k:κ)(g:RelV y u):
  KV (kvs.map fun f=>if f.1=k then(f.1,y) else f) (vs.map fun f=>if f.1=k then(f.1,u) else f):=by
 induction r with
 |nil=>exact .nil
 | @cons p q ps qs h t ih =>
  refine .cons ?_ ih;by_cases e:p.1=k
  ·simp_all
  ·simp_all
theorem KV.put(r:KV kvs vs)(k:κ)(f:RelV y u):KV (putK kvs k y) (stored vs k u):=by
 unfold putK stored;rw[r.any k];by_cases e:(vs.any fun g=>decide (g.1=k))=true
 ·rw[if_pos e,if_pos e];exact r.repl k f
 ·rw[if_neg e,if_neg e];exact Cu.snoc r ⟨rfl,f⟩
theorem KV.length{kvs:List (κ×V)}(r:KV kvs vs):kvs.length=vs.length:=Ez r
end
theorem q9j(r:RelV (kV k) u):(mixKind P w).is k u=true:=by
 cases k with
 |inl i=>obtain⟨t,e⟩:=(show ∃t,u=Value.int i t from r);subst e;exact z2j P w i t
 |inr x=>obtain⟨t,e⟩:=(show ∃t,u=Value.str x t from r);subst e;exact z2k P w x t
theorem z0z{P:Ay}{w:World}:∀{ks:List Key} {us:List Value},Vals (ks.map kV) us->ItemsAre (mixKind P w) ks us
 |[],_,r=>by rw[List.map_nil] at r;cases r;exact .nil
 |k::ks,_,r=>by
  rw[Ax] at r;cases r with
  |cons h t=>exact .cons (q9j h) (z0z t)
noncomputable abbrev KT(H:Hp):List (List Key×V)->List (List Key×Addr×Value)->Prop:=Cu fun p q=>p.1=q.1/\H q.2.1=some (.tup (p.1.map kV))/\RelV p.2 q.2.2
theorem KT.val(r:KT H kvs xs)(k:List Key):RelO (valV kvs k) ((atKey xs k).map (·.2)):=by
 induction r with
 |nil=>exact True.intro
 | @cons p q ps qs h t ih =>
  obtain⟨f,_,g⟩:=h;by_cases e:p.1=k
  ·have e':q.1=k:=f.symm.trans e;have b:atKey (q::qs) k=some q.2:=by simp[atKey,Hr,e']
   rw[q0z e,b];exact g
  ·have e':¬q.1=k:=fun z=>e (f.trans z);have b:atKey (q::qs) k=atKey qs k:=by simp[atKey,Hr,e']
   rw[q0y e,b];exact ih
theorem KT.repl(r:KT H kvs xs)(k:List Key)(g:RelV y u):
  KT H (kvs.map fun f=>if f.1=k then(f.1,y) else f) (xs.map (putAt k u)):=by
 induction r with
 |nil=>exact .nil
 | @cons p q ps qs h t ih =>
  refine .cons ?_ ih;unfold putAt;by_cases e:p.1=k
  ·simp_all
  ·simp_all
theorem KT.put(r:KT H kvs xs)(k:List Key)(g:H b=some (.tup (k.map kV)))(f:RelV y u):
  KT H (putK kvs k y) (storedH xs k b u):=by
 have e:(kvs.any fun h=>decide (h.1=k))=(atKey xs k).isSome:=by
  rw[q4w,(r.val k).isSome_eq,Lw]
 unfold putK storedH;rw[e];by_cases q:(atKey xs k).isSome=true
 ·rw[if_pos q,if_pos q];exact r.repl k f
 ·rw[if_neg q,if_neg q];exact Cu.snoc r ⟨rfl,g,f⟩
theorem KT.keeps(r:KT H kvs xs)(e:∀b ys,H b=some (.tup ys)->H' b=some (.tup ys)):KT H' kvs xs :=
 Cu.mapP r fun _ _ z=>⟨z.1,e _ _ z.2.1,z.2.2⟩
section
variable{P:Ay}{w:World}{H:Hp}{h:Heap}{a:Addr}
theorem rd_of(ok:HOk P w H h)(e:Rd H a u):ObjOk P w H h a u:=e.ok ok
theorem z1a(ok:HOk P w H h)(e:Rd H a (.dK kvs)):kvs.length<=sizeLine/\(a==Eb)=false/\∃vs,KV kvs vs/\h.DictOf (mixKind P w) a vs :=
 show ObjOk P w H h a (.dK kvs) from rd_of ok e
theorem dk_of(ok:HOk P w H h)(e:H a=some (.dK kvs)):kvs.length<=sizeLine/\(a==Eb)=false/\∃vs,KV kvs vs/\h.DictOf (mixKind P w) a vs:=z1a ok (.inl e)
theorem q4x(ok:HOk P w H h)(e:H a=some (.tup (ks.map kV))):(Jc (mixKind P w)).is h ks a:=by
 obtain⟨_,f,r,o,g,j,n,q⟩:=(show ObjOk P w H h a (.tup (ks.map kV)) from ok a _ e)
 exact⟨o,f.toArray,n,g,j,q,by simpa using z0z r⟩
theorem z1b(ok:HOk P w H h)(e:Rd H a (.dT kvs)):kvs.length<=sizeLine/\(a==Eb)=false /\
  ∃xs,KT H kvs xs/\h.DictOfH (Jc (mixKind P w)) a xs:=by
 obtain⟨z,y,xs,r,o,g,j,s,u,v,B,C⟩:=(show ObjOk P w H h a (.dT kvs) from rd_of ok e)
 refine⟨z,y,xs,r,o,g,j,s,u,v,B,fun x f=>?_,C⟩;have all:∀{l:List (List Key×V)} {m:List (List Key×Addr×Value)},KT H l m->∀x∈m,(Jc (mixKind P w)).is h x.1 x.2.1:=by
  intro l m q;induction q with
  |nil=>grind
  | @cons p q ps qs hq t ih =>
   intro x f;rcases Bb.mp f with e|f
   ·subst e;exact q4x ok (by rw[<- hq.1];exact hq.2.1)
   ·exact ih x f
 exact all r x f
theorem x3m(ok:HOk P w H h)(e:H a=some (.dT kvs)):kvs.length<=sizeLine/\(a==Eb)=false /\
  ∃xs,KT H kvs xs/\h.DictOfH (Jc (mixKind P w)) a xs:=z1b ok (.inl e)
end
noncomputable def DGet(H:Hp)(a:Addr)(y:V)(r:Option V):Prop :=
 (∃kvs k,Rd H a (.dK kvs)/\y=kV k/\r=valV kvs k)\/∃kvs k b,Rd H a (.dT kvs)/\y=.ref b/\H b=some (.tup (k.map kV))/\r=valV kvs k
noncomputable def DPut(H:Hp)(a:Addr)(y v:V)(H':Hp):Prop :=
 (∃kvs k,H a=some (.dK kvs)/\y=kV k/\kvs.length<sizeLine/\H'=upd H a (.dK (putK kvs k v))) \/
 ∃kvs k b,H a=some (.dT kvs)/\y=.ref b/\H b=some (.tup (k.map kV))/\kvs.length<sizeLine/\H'=upd H a (.dT (putK kvs k v))
theorem DGet.k{k:Key}(e:H a=some (.dK kvs)):DGet H a (kV k) (valV kvs k):=.inl ⟨kvs,k,.inl e,rfl,rfl⟩
theorem DGet.t{k:List Key}(e:H a=some (.dT kvs))(f:H b=some (.tup (k.map kV))):DGet H a (.ref b) (valV kvs k):=.inr ⟨kvs,k,b,.inl e,rfl,f,rfl⟩
theorem DPut.k{k:Key}(e:H a=some (.dK kvs))(hl:kvs.length<sizeLine):DPut H a (kV k) v (upd H a (.dK (putK kvs k v))):=.inl ⟨kvs,k,e,rfl,hl,rfl⟩
theorem DPut.t{k:List Key}(e:H a=some (.dT kvs))(f:H b=some (.tup (k.map kV)))(hl:kvs.length<sizeLine):
  DPut H a (.ref b) v (upd H a (.dT (putK kvs k v))):=.inr ⟨kvs,k,b,e,rfl,f,hl,rfl⟩
section
variable{X:Cx}{pins:List (Addr×Obj)}{σ:St}{H:Hp}{s:Ag}{a:Addr}{y v:V}{u r:Value}{o:Option V}{A:Around}{E:Value->Ag->Prop}
theorem Inv.big(I:Inv X pins σ H s):Eb<s.heap.objs.size:=by
 have h:=(I.mod.glob.keeps I.bk).lt;exact Nat.lt_trans (by decide) h
theorem z7h(O:A.units+1<cLine)(I:Inv X pins σ H s)(g:DGet H a y (some v))(L:RelV y u)(h:∀q M,Inv X pins σ H M->RelV v q->Q q M):
  wpAny (model X.prog X.w) A (getItem (.ref a) u) Q E s:=by
 rcases g with⟨B,k,e,C,l⟩|⟨B,k,b,e,C,P,l⟩
 ·subst C;obtain⟨z,hd,vs,f,D⟩:=z1a I.hok e;obtain⟨q,G,j⟩:=RelO.some_of (by rw[l];exact f.val k);exact wpAny_getItem_of (q9j L) D.mapOf G (h q _ (I.tok _) j)
 ·subst C;cases(show u=Value.ref b from L);obtain⟨z,hd,xs,f,D⟩:=z1b I.hok e;obtain⟨q,G,j⟩:=RelO.some_of (by rw[l];exact f.val k);obtain⟨p,R,J⟩:=Bv.mp G;refine wpAny_getItem_heap (Fp O) (q4x I.hok P) D R ?_;rw[J];exact h q _ (I.tok _) j
theorem d_in(G:A.units+1<cLine)(I:Inv X pins σ H s)(g:DGet H a y o)(C:RelV y u)(h:∀D,Inv X pins σ H D->Q (.bool o.isSome) D):
  wpAny (model X.prog X.w) A (Dg .In u (.ref a)) Q E s:=by
 rcases g with⟨j,k,e,v,l⟩|⟨j,k,b,e,v,J,l⟩
 ·subst v;obtain⟨z,hd,vs,f,B⟩:=z1a I.hok e;refine wpAny_in_of (q9j C) hd B.mapOf ?_;rw[<- (f.val k).isSome_eq,<- l];exact h _ (I.tok _)
 ·subst v;cases(show u=Value.ref b from C);obtain⟨z,hd,xs,f,B⟩:=z1b I.hok e;refine wpAny_in_heap (Fp G) (q4x I.hok J) hd B ?_;have q:=(f.val k).isSome_eq;rw[Lw] at q;rw[<- q,<- l];exact h _ (I.tok _)
theorem x3n(G:A.units+1<cLine)(I:Inv X pins σ H s)(g:DGet H a y o)(C:RelV y u)(h:∀D,Inv X pins σ H D->Q (.bool (!o.isSome)) D):
  wpAny (model X.prog X.w) A (Dg .NotIn u (.ref a)) Q E s:=by
 rcases g with⟨j,k,e,v,l⟩|⟨j,k,b,e,v,J,l⟩
 ·subst v;obtain⟨z,hd,vs,f,B⟩:=z1a I.hok e;refine wpAny_notIn_of (q9j C) hd B.mapOf ?_;rw[<- (f.val k).isSome_eq,<- l];exact h _ (I.tok _)
 ·subst v;cases(show u=Value.ref b from C);obtain⟨z,hd,xs,f,B⟩:=z1b I.hok e;refine wpAny_notIn_heap (Fp G) (q4x I.hok J) hd B ?_;have q:=(f.val k).isSome_eq;rw[Lw] at q;rw[<- q,<- l];exact h _ (I.tok _)
theorem q9k(I:Inv X pins σ H s)(e:Mut (H a))(hs:Gi a s.heap h')(f:∃q,h'.get? a=some q)(new:ObjOk X.prog X.w (upd H a ob) h' a ob):
  Inv X pins σ (upd H a ob) { s with heap:=h',toks:=t' } :=
 I.write e (.inl rfl) (fun b q g z=>(hs.2 b g).trans z) f new
theorem x1z(z:kvs.length<=sizeLine)(hd:(a==Eb)=false)(e:KV kvs vs)(f:h'.DictOf (mixKind P w) a vs):
  ObjOk P w H' h' a (.dK kvs):=⟨z,hd,vs,e,f⟩
theorem z7i(T:A.units+1<cLine)(I:Inv X pins σ H s)(g:DPut H a y v H')(L:RelV y u)(M:RelV v r)(h:∀O,Inv X pins σ H' O->Q () O):
  wpAny (model X.prog X.w) A (setItem (.ref a) u r) Q E s:=by
 rcases g with⟨f,k,e,D,l,G⟩|⟨f,k,b,e,D,P,l,G⟩
 ·subst D G;obtain⟨z,hd,vs,j,J⟩:=dk_of I.hok e;have U:vs.length<=sizeLine:=by rw[<- j.length];exact z
  have hl:(putK f k v).length<=sizeLine:=by have:=q2c f k v;lia
  refine wpAny_setItem_pairs (q9j L) J fun R B hs=>h _ ?_;have W:∃q,R.get? a=some q:=let ⟨q,_,_,C,_⟩:=B;⟨q,C⟩;exact q9k I (by rw[e];exact True.intro) hs W (x1z hl hd (j.put k M) B)
 ·subst D G;cases(show u=Value.ref b from L);obtain⟨z,hd,xs,j,J⟩:=x3m I.hok e;have U:xs.length<=sizeLine:=by rw[<- Ez j];exact z
  have hl:(putK f k v).length<=sizeLine:=by have:=q2c f k v;lia
  refine Uc (Fp T) (q4x I.hok P) J fun R B hs=>h _ ?_;obtain⟨q,Y,Z,C,h2,h3,h4,_,h5⟩:=B;refine q9k I (by rw[e];exact True.intro) hs ⟨q,C⟩ ⟨hl,hd,_,(j.put k P M).keeps fun c ys S=>?_,q,Y,Z,C,h2,h3,h4,h5⟩;rw[q0d (z6c S e (fun z=>nomatch z))];exact S
end
noncomputable def NoSl(i:Expr):Prop:=∀ov iv,Ri i false ov iv=operate [ov,iv] (getItem ov iv)
theorem x3o{id:String}(hl:Ss (.type T) "__getitem__" = pure (some (.builtin id)))(hs:NoSl slice)(h:wpAny (model prog w) A (eval value env) (fun o g=>wpAny (model prog w) A (eval slice env) (fun i e=>e.TypeIs o T/\wpAny (model prog w) A (getItem o i) Q E e) E g) E s):
  wpAny (model prog w) A (eval (.Subscript value slice pos) env) Q E s:=by
 refine Wg (Dj h (fun o g q=>Dj q (fun i e f=>?_) fun _ _ x=>x) fun _ _ x=>x);obtain⟨v,f⟩:=f;refine Ab ?_;refine Ab (Kq v hl ?_);have fin:wpAny (model prog w) A (Ri slice false o i) (fun r j=>wpAny (model prog w) A (letTemporaryGo value o r >>= fun _=>pure r) Q E j) E e:=by
  rw[hs o i];exact wpAny_operating (Dj f (fun r j u=>Ab (wpAny_letTemporaryGo (Ad u))) fun _ _ x=>x)
 first
  |exact Ad (Ab fin)
  |exact Ab (Ad (Ab fin))
  |exact Ab fin
theorem z2t{j:St}(I:Inv X pins j H s)(g:DGet H a y o):s.TypeIs (.ref a) "dict" := by
 rcases g with⟨f,k,e,_,_⟩|⟨f,k,b,e,_,_,_⟩
 ·obtain⟨_,_,vs,_,h⟩:=z1a I.hok e;exact h.typeIs
 ·obtain⟨_,_,xs,_,h⟩:=z1b I.hok e;exact h.typeIs
noncomputable def tDGet(td ty:TE):TE:=fun σ H Q=>td σ H fun x H1=>ty σ H1 fun y H2=>∃a v,x=.ref a/\DGet H2 a y (some v)/\Q v H2
noncomputable def tDIn(ty td:TE):TE:=fun σ H Q=>ty σ H fun y H1=>td σ H1 fun x H2=>∃a o,x=.ref a/\DGet H2 a y o/\Q (.bl o.isSome) H2
noncomputable def tDNotIn(ty td:TE):TE:=fun σ H Q=>ty σ H fun y H1=>td σ H1 fun x H2=>∃a o,x=.ref a/\DGet H2 a y o/\Q (.bl (!o.isSome)) H2
noncomputable def sDPut(td ty tv:TE):TS:=fun D σ H=>tv σ H fun v H1=>td σ H1 fun x H2=>ty σ H2 fun y H3=>∃a H4,x=.ref a/\DPut H3 a y v H4/\D.nx σ H4
section
variable{X:Cx}{o i e value:Expr}{pos pos' tpos:Pos}{td ty tv:TE}
theorem q1o(B:X.A.units+1<cLine)(C:PE X o td)(D:PE X i ty)(hs:NoSl i):PE X (.Subscript o i pos) (tDGet td ty):=by
 intro e s j H Q I h;refine x3o PySem.F.slot_dict_getitem.lookup hs (thn (C e s j H _ I h) fun u E ⟨x,G,J,L,M⟩=>thn (D e E j G _ J M) fun T U ⟨y,O,q,P,a,v,ex,g,R⟩=>?_);subst ex;obtain rfl:u=Value.ref a:=L;exact⟨z2t q g,z7h B q g P fun W Y S f=>⟨v,O,S,f,R⟩⟩
theorem z7j(j:X.A.units+1<cLine)(q:PE X i ty)(v:PE X o td):PC X .In i o (tDIn ty td):=by
 intro e s f H Q I h;refine thn (q e s f H _ I h) fun S B ⟨y,C,D,E,G⟩=>thn (v e B f C _ D G) fun u T ⟨x,J,L,M,a,O,ex,g,P⟩=>?_;subst ex;obtain rfl:u=Value.ref a:=M;exact d_in j L g E fun U R=>⟨.bl O.isSome,J,R,rfl,P⟩
theorem z1c(j:X.A.units+1<cLine)(q:PE X i ty)(v:PE X o td):PC X .NotIn i o (tDNotIn ty td):=by
 intro e s f H Q I h;refine thn (q e s f H _ I h) fun S B ⟨y,C,D,E,G⟩=>thn (v e B f C _ D G) fun u T ⟨x,J,L,M,a,O,ex,g,P⟩=>?_;subst ex;obtain rfl:u=Value.ref a:=M;exact x3n j L g E fun U R=>⟨.bl (!O.isSome),J,R,rfl,P⟩
theorem q4j(j:X.A.units+1<cLine)(q:PE X o td)(B:PE X i ty)(C:PE X value tv)(hs:Ku value (some (.Subscript o i pos')) pos.line X.env=pure false):
  PS X (.Assign [.Subscript o i pos'] value pos) (sDPut td ty tv):=by
 intro e s f H D I h;refine Rl (thn (C e s f H _ I h) fun r E ⟨v,G,J,L,M⟩=>thn (q e E f G _ J M) fun u O ⟨x,P,Q,R,S⟩=>thn (B e O f P _ Q S) fun iv s3 ⟨y,H3,T,U,a,W,ex,g,Y⟩=>?_) hs;subst ex;obtain rfl:u=Value.ref a:=R;exact z7i j T g U L fun s4 Z=>⟨f,W,Z,Y⟩
end
theorem x0f(h:Heap)(e:Eb<h.objs.size):ObjOk P w H (h.push { cls:=.type "dict",data:=.dict #[] }) h.objs.size (.dK []) :=
 ⟨Bf _,beq_eq_false_iff_ne.mpr (Ei (Bj e)),[],.nil,Heap.DictOf.new h⟩
theorem q9l(h:Heap)(e:Eb<h.objs.size):ObjOk P w H (h.push { cls:=.type "dict",data:=.dict #[] }) h.objs.size (.dT []) :=
 ⟨Bf _,beq_eq_false_iff_ne.mpr (Ei (Bj e)),[],.nil,_,#[],0,Aw _ rfl,⟨rfl,rfl,rfl⟩,rfl,rfl,List.nodup_nil⟩
noncomputable def tDNewT:TE:=fun _ H Q=>∀p,H p=none->Q (.ref p) (upd H p (.dT []))
section
variable{X:Cx}{pos:Pos}
theorem q6g:PE X (.Dict [] [] pos) tDNewT:=fun e s f H Q I h =>
 wpAny_Dict_empty ⟨.ref s.heap.objs.size,_,I.laid (t':=s.toks) (fun _ _ q=>Ai _ q) (Au _) (q9l s.heap I.big),rfl,h _ (I.hok.fresh (Au _))⟩
end
noncomputable def tPairs:List (TE×TE)->St->Hp->(List (V×V)->Hp->Prop)->Prop
 |[],_,H,Q=>Q [] H
 |(tk,tv)::r,σ,H,Q=>tk σ H fun x H1=>tv σ H1 fun y H2=>tPairs r σ H2 fun ps H3=>Q ((x,y)::ps) H3
noncomputable abbrev VV:List (V×V)->List (Value×Value)->Prop:=Cu fun p q=>RelV p.1 q.1/\RelV p.2 q.2
noncomputable def PPs(X:Cx)(pos:Pos)(keys:List (Option Expr))(values:List Expr)(trs:List (TE×TE)):Prop :=
 ∀(pins:List (Addr×Obj)) (s:Ag) (σ:St) (H:Hp) (Q:List (V×V)->Hp->Prop),Inv X pins σ H s->tPairs trs σ H Q ->
  wpAny (model X.prog X.w) X.A (evalPairs (pairTrees keys values X.env pos)) (fun vs s'=>∃ps H',Inv X pins σ H' s'/\VV ps vs/\Q ps H') X.xe s
theorem x3p:PPs X pos [] [] []:=fun e s f H Q I h=>pairTrees_nil_walk ⟨[],H,I,.nil,h⟩
theorem q9m{X:Cx}{f:Pos}{k v:Expr}{ks:List (Option Expr)}{vs:List Expr}{tk B:TE}{g:List (TE×TE)}(hk:PE X k tk)(C:PE X v B)(D:PPs X f ks vs g):
  PPs X f (some k::ks) (v::vs) ((tk,B)::g):=fun e s j H Q I h =>
 pairTrees_cons_walk (thn (hk e s j H _ I h) fun u E ⟨x,G,J,L,M⟩=>thn (C e E j G _ J M) fun w2 O ⟨y,P,R,S,T⟩ =>
  thn (D e O j P _ R T) fun ws s3 ⟨U,W,Y,q,Z⟩=>⟨(x,y)::U,W,Y,.cons ⟨L,S⟩ q,Z⟩)
noncomputable def mergeK(kvs more:List (Key×V)):List (Key×V):=more.foldl (fun acc kv=>putK acc kv.1 kv.2) kvs
theorem KV.merge:∀{more:List (Key×V)} {rs:List (Key×Value)} {kvs:List (Key×V)} {vs:List (Key×Value)},KV more rs->KV kvs vs->KV (mergeK kvs more) (merged vs rs):=by
 intro more rs kvs vs r;induction r generalizing kvs vs with
 |nil=>intro q;exact q
 | @cons p q ps qs h t ih =>
  intro f;have e:KV (putK kvs p.1 p.2) (stored vs q.1 q.2):=by
   have:=f.put p.1 h.2;rw[<- h.1];exact this
  exact ih e
theorem q4y:∀(more kvs:List (Key×V)),(mergeK kvs more).length<=kvs.length+more.length
 |[],kvs=>by show kvs.length<=kvs.length+0;lia
 |p::r,kvs=>by
  have e:=q4y r (putK kvs p.1 p.2);have f:=q2c kvs p.1 p.2;show(mergeK (putK kvs p.1 p.2) r).length<=_;rw[Cg];lia
theorem q8a:∀{kvs:List (Key×V)} {ws:List (Value×Value)},VV (kvs.map fun e=>(kV e.1,e.2)) ws->∃rs,Carries (mixKind P w) ws rs/\KV kvs rs
 |[],_,r=>by rw[List.map_nil] at r;cases r;exact⟨[],True.intro,.nil⟩
 |p::kvs,_,r=>by
  rw[Ax] at r;cases r with
  | @cons a b as bs h t =>
   obtain⟨rs,c,q⟩:=q8a (P:=P) (w:=w) t;obtain⟨g,f⟩:=b;exact⟨(p.1,f)::rs,⟨q9j h.1,rfl,c⟩,.cons ⟨rfl,h.2⟩ q⟩
noncomputable def tDisp(trs:List (TE×TE)):TE:=fun σ H Q=>∀p,H p=none->tPairs trs σ (upd H p (.dK [])) fun ps H2=>H2 p=some (.dK [])/\∃kvs:List (Key×V),ps=kvs.map (fun kv=>(kV kv.1,kv.2))/\kvs.length<=15/\Q (.ref p) (upd H2 p (.dK (mergeK [] kvs)))
theorem x3q{X:Cx}{g:Pos}{keys:List (Option Expr)}{f:List Expr}{j:List (TE×TE)}(h:PPs X g keys f j)(u:keys.all (·.isSome)=true)(hl:keys.length=f.length)(h0:keys≠[])(D:keys.length<=15):PE X (.Dict keys f g) (tDisp j):=by
 intro v s L H Q I q;have M:=I.hok.fresh (Au s.heap.objs.size);have O:=I.laid (h':=s.heap.push { cls:=.type "dict",data:=.dict #[] }) (t':=s.toks) (fun _ _ q=>Ai _ q) (Au _) (x0f s.heap I.big);refine wpAny_Dict_walk (knd:=mixKind X.prog X.w) u hl h0 D (thn (h v _ L _ _ O (q _ M)) fun ws s2 ⟨ps,H2,J,E,e,B,P,lk,R⟩=>?_);subst P;obtain⟨S,c,rk⟩:=q8a E;obtain⟨z,hd,T,U,W⟩:=dk_of J.hok e;cases U;refine⟨S,c,W,fun G C hs=>⟨.ref s.heap.objs.size,_,?_,rfl,R⟩⟩;have Y:(mergeK [] B).length<=sizeLine:=by
  have Z:=q4y B [];rw[Gw] at Z;rw[Dy];lia
 have he:∃q,G.get? s.heap.objs.size=some q:=let ⟨q,_,_,hq,_⟩:=C;⟨q,hq⟩;exact q9k J (by rw[e];exact True.intro) hs he (x1z Y hd (rk.merge .nil) C)
structure M1 (X:Cx) (o:Expr) (m:Str) (apos:Pos) (e:Expr) (cpos:Pos):Prop where
 base:Gz o m X.env (eval o X.env)=eval o X.env
 few:((Gj cpos (Bk [e] X.env)).all (fun x => !x.1)&&(Mp cpos (Jg [] X.env)).all (fun x=>x.1.isSome)
  && decide (([e]:List Expr).length+([]:List Oi).length+(if ([]:List Oi).isEmpty then 0 else 1)<30))=true
 line:(apos.endLine==cpos.line)=true
 trees:Gj cpos (Bk [e] X.env)=[(false,eval e X.env)]
structure M2 (X:Cx) (o:Expr) (m:Str) (apos:Pos) (e f:Expr) (cpos:Pos):Prop where
 base:Gz o m X.env (eval o X.env)=eval o X.env
 few:((Gj cpos (Bk [e,f] X.env)).all (fun x => !x.1)&&(Mp cpos (Jg [] X.env)).all (fun x=>x.1.isSome)
  && decide (([e,f]:List Expr).length+([]:List Oi).length+(if ([]:List Oi).isEmpty then 0 else 1)<30))=true
 line:(apos.endLine==cpos.line)=true
 trees:Gj cpos (Bk [e,f] X.env)=[(false,eval e X.env),(false,eval f X.env)]
noncomputable def IsD(H:Hp)(a:Addr):Prop:=(∃kvs,Rd H a (.dK kvs))\/∃kvs,Rd H a (.dT kvs)
theorem x2a{v:St}(I:Inv X pins v H s)(d:IsD H a):
  s.TypeIs (.ref a) "dict" /\ (∀b,Value.ref a=.ref b->∃f,s.heap.get? b=some f/\f.dict=none)/\(a==Eb)=false:=by
 rcases d with⟨h,e⟩|⟨h,e⟩
 ·obtain⟨_,hd,vs,_,g⟩:=z1a I.hok e;refine⟨g.typeIs,fun b q=>?_,hd⟩;cases q;obtain⟨f,_,_,j,u,_⟩:=g;exact⟨f,j,u.2.1⟩
 ·obtain⟨_,hd,xs,_,g⟩:=z1b I.hok e;refine⟨g.typeIs,fun b q=>?_,hd⟩;cases q;obtain⟨f,_,_,j,u,_⟩:=g;exact⟨f,j,u.2.1⟩
section
variable{X:Cx}{pins:List (Addr×Obj)}{σ:St}{H:Hp}{s:Ag}{a:Addr}{y d:V}{u r:Value}{o:Option V}{A:Around}{E:Value->Ag->Prop}
theorem d_get1(G:A.units+1<cLine)(I:Inv X pins σ H s)(g:DGet H a y o)(B:RelV y u)(h:∀C D,Inv X pins σ H D->RelV (o.getD .non) C->Q C D):
  wpAny (model X.prog X.w) A (call (.builtin "dict.get") [.ref a,u]) Q E s:=by
 rcases g with⟨q,k,e,v,l⟩|⟨q,k,b,e,v,J,l⟩
 ·subst v;obtain⟨z,hd,vs,f,j⟩:=z1a I.hok e;refine Qj Gq j.typeIs Jj (Qs _ _) (meets_dict_get (mixKind X.prog X.w) a (q9j B) hd) ⟨_,j.mapOf,h _ _ (I.tok _) ?_⟩;rw[l];exact(f.val k).getD rfl
 ·subst v;cases(show u=Value.ref b from B);obtain⟨z,hd,xs,f,j⟩:=z1b I.hok e;refine Qj Gq j.typeIs Jj (Qs _ _) (meetsH_dict_get (Jc (mixKind X.prog X.w)) a b hd) ⟨Fp G,k,xs,q4x I.hok J,j,h _ _ (I.tok _) ?_⟩;rw[l];exact(f.val k).getD rfl
theorem d_get2(G:A.units+1<cLine)(I:Inv X pins σ H s)(g:DGet H a y o)(B:RelV y u)(rd:RelV d r)(h:∀C D,Inv X pins σ H D->RelV (o.getD d) C->Q C D):
  wpAny (model X.prog X.w) A (call (.builtin "dict.get") [.ref a,u,r]) Q E s:=by
 rcases g with⟨q,k,e,v,l⟩|⟨q,k,b,e,v,J,l⟩
 ·subst v;obtain⟨z,hd,vs,f,j⟩:=z1a I.hok e;refine Qj Gq j.typeIs Jj (Qt _ _ _) (meets_dict_get_default (mixKind X.prog X.w) a (q9j B) hd r) ⟨_,j.mapOf,h _ _ (I.tok _) ?_⟩;rw[l];exact(f.val k).getD rd
 ·subst v;cases(show u=Value.ref b from B);obtain⟨z,hd,xs,f,j⟩:=z1b I.hok e;refine Qj Gq j.typeIs Jj (Qt _ _ _) (meetsH_dict_get_default (Jc (mixKind X.prog X.w)) a b hd r) ⟨Fp G,k,xs,q4x I.hok J,j,h _ _ (I.tok _) ?_⟩;rw[l];exact(f.val k).getD rd
end
noncomputable def tDGet1(td ty:TE):TE:=fun σ H Q=>td σ H fun x H1=>∃a,x=.ref a/\IsD H1 a/\ty σ H1 fun y H2=>∃o,DGet H2 a y o/\Q (o.getD .non) H2
noncomputable def tDGet2(td ty tx:TE):TE:=fun σ H Q=>td σ H fun x H1=>∃a,x=.ref a/\IsD H1 a/\ty σ H1 fun y H2=>tx σ H2 fun z H3=>∃o,DGet H3 a y o/\Q (o.getD z) H3
section
variable{X:Cx}{o e f:Expr}{apos cpos:Pos}{td ty tx:TE}
theorem x0g(B:X.A.units+1<cLine)(C:PE X o td)(D:PE X e ty)(m:M1 X o "get" apos e cpos):PE X (.Call (.Attribute o "get" apos) [e] [] cpos) (tDGet1 td ty):=by
 intro f s q H Q I h;refine Uw m.base m.few m.line Iw Gq Sd (thn (C f s q H _ I h) fun u E ⟨x,G,v,J,a,ex,d,L⟩=>?_);subst ex;obtain rfl:u=Value.ref a:=J;obtain⟨M,O,_⟩:=x2a v d;refine⟨M,O,?_⟩;rw[m.trees];refine Ji rfl (Nl (Ky (thn (D f E q G _ v L) fun W Y ⟨y,P,R,S,Z,g,T⟩=>Pj ?_)));exact d_get1 B R g S fun w' s3 U j=>⟨_,P,U,j,T⟩
theorem x0h(C:X.A.units+1<cLine)(D:PE X o td)(E:PE X e ty)(G:PE X f tx)(m:M2 X o "get" apos e f cpos):PE X (.Call (.Attribute o "get" apos) [e,f] [] cpos) (tDGet2 td ty tx):=by
 intro j s q H Q I h;refine Uw m.base m.few m.line Iw Gq Sd (thn (D j s q H _ I h) fun u J ⟨x,L,B,M,a,ex,d,O⟩=>?_);subst ex;obtain rfl:u=Value.ref a:=M;obtain⟨P,R,_⟩:=x2a B d;refine⟨P,R,?_⟩;rw[m.trees];refine Ji rfl (Nl (Ky (thn (E j J q L _ B O) fun iv S ⟨y,T,U,W,Y⟩ =>
  Ky (thn (G j S q T _ U Y) fun fv s3 ⟨z,Z,I3,rz,ov,g,q3⟩=>Pj ?_))))
 exact d_get2 C I3 g W rz fun w' s4 I4 v=>⟨_,Z,I4,v,q3⟩
end
end L2
namespace K
open PySem L2 TX
noncomputable def FIs:Str:=Ap "0123456789"
noncomputable def LEs:Str:=Ap "abcdefghijklmnopqrstuvwxyzABCDEFGHIJKLMNOPQRSTUVWXYZ"
noncomputable abbrev FI:List Nat:=tl FIs
noncomputable abbrev LE:List Nat:=tl LEs
noncomputable def allOf(t s:List Nat):Bool:=decide (t≠[])&&t.all fun c=>decide (c∈s)
noncomputable def gapTakes(c:Nat)(t:List Nat):Bool:=if c=63 then decide (t.length=1) else if c=35 then allOf t FI else if c=64 then allOf t LE else true
noncomputable def Pt.takes:Pt->List Nat->Bool
 |.tx l,t=>decide (t=l)
 |.gp c,t=>gapTakes c t
noncomputable def cut(n:List Nat)(b e:Nat):List Nat:=(n.drop b).take (e-b)
noncomputable def farTo(p:Pt)(n:List Nat)(L:Nat->Bool)(b k:Nat):Option Nat:=((List.range' b k).filter fun e=>L e&&p.takes (cut n b e)).getLast?
noncomputable def far(p:Pt)(n:List Nat)(L:Nat->Bool)(b:Nat):Option Nat:=if b<=n.length then farTo p n L b (n.length+1-b) else none
noncomputable def fits(n:List Nat):List Pt->Nat->Bool
 |[],b=>decide (b=n.length)
 |p::ps,b=>(far p n (fits n ps) b).isSome
noncomputable def rd(n:List Nat):List Pt->Nat->List (List Nat)
 |[],_=>[]
 |p::ps,b=>(if p.isG then[cut n b ((far p n (fits n ps) b).getD 0)] else[])++rd n ps ((far p n (fits n ps) b).getD 0)
structure DF (H:Hp) (a:Addr) (f:Nat->Option Nat):Prop where
 ex:∃kvs:List (Key×V),H a=some (.dK kvs)/\kvs.length<=5000/\∀b:Nat,valV kvs (Sum.inl (b:Int))=(f b).map fun e=>V.int (e:Nat)
inductive DS (H:Hp) (n:List Nat):List Addr->List Pt->Prop
 |nil:DS H n [] []
 |cons {d:Addr} {p:Pt} {ds:List Addr} {ps:List Pt}:DF H d (far p n (fits n ps))->DS H n ds ps->DS H n (d::ds) (p::ps)
theorem q8b(l:List Nat):(mk l).length=l.length:=by rw[len,q2m]
end K
namespace PySem.Rv
open Sem (wp)
namespace F
theorem q5w:mroOf (.type "reversed")=pure [.type "reversed",.type "object"]:=by rw[mroOf_type];kernel_rfl
theorem q4k:Ss (.type "reversed") "__new__" = pure (some (.builtin "reversed.__new__")):=by rw[Kr,Ht];kernel_rfl
theorem q4z:Slot "reversed" "__init__" "object.__init__" :=
 .of (owner := "object") (n := "__init__") (by rw[Kr,Ht];kernel_rfl) (by trivial) (by trivial) (by trivial)
  (by first|exact .inl (by rw[Kj];kernel_rfl)|exact .inr (by rw[Kj];kernel_rfl)) (by rw[Jt];kernel_rfl)
theorem called_reversed:TypeCalled "reversed" "reversed.__new__" "object.__init__" :=
 ⟨by trivial,by trivial,⟨_,_,q5w⟩,madeBy_type q5w q4k (by trivial),by trivial,by rw[Jt];kernel_rfl,q4z⟩
theorem typeCall_reversed_1(a:Value):checkTypeCall "reversed" ⟨[a],[]⟩=pure ():=by kernel_rfl
theorem newCall_reversed_1(a:Value):Ms "reversed.__new__" ⟨[.type "reversed",a],[]⟩=pure ():=by kernel_rfl
theorem entry_reversed_new:Sx table "reversed.__new__" = some Dq.«reversed.__new__» := entryFor_of_tree (by kernel_rfl)
theorem slot_lrev_next:Slot "list_reverseiterator" "__next__" "list_reverseiterator.__next__" :=
 .of (owner := "list_reverseiterator") (n := "__next__") (by rw[Kr,Ht];kernel_rfl) (by trivial) (by trivial) (by trivial)
  (by first|exact .inl (by rw[Kj];kernel_rfl)|exact .inr (by rw[Kj];kernel_rfl)) (by rw[Jt];kernel_rfl)
theorem entry_lrev_next:Sx table "list_reverseiterator.__next__" = some Dq.«list_reverseiterator.__next__» := entryFor_of_tree (by kernel_rfl)
theorem slot_lrev_iter:Slot "list_reverseiterator" "__iter__" "list_reverseiterator.__iter__" :=
 .of (owner := "list_reverseiterator") (n := "__iter__") (by rw[Kr,Ht];kernel_rfl) (by trivial) (by trivial) (by trivial)
  (by first|exact .inl (by rw[Kj];kernel_rfl)|exact .inr (by rw[Kj];kernel_rfl)) (by rw[Jt];kernel_rfl)
theorem entry_lrev_iter:Sx table "list_reverseiterator.__iter__" = some Dq.«dict_keyiterator.__iter__» :=
 entryFor_alias (id' := "dict_keyiterator.__iter__") (by kernel_rfl) (by first|rfl|decide +kernel|(unfold String.splitOn;simp +decide [String.splitOnAux])) (by trivial) (by kernel_rfl)
theorem q8c:Manifest.owners.lookup (String.ofList ['r', 'o', 't', 'a', 'r', 'e', 't', 'i', 'e', 's', 'r', 'e', 'v', 'e', 'r', '_', 't', 's', 'i', 'l'].reverse)=some Manifest.sig_list_reverseiterator:=by kernel_rfl
theorem args_lrev_next_1(a:Value):argsOk "list_reverseiterator.__next__" ⟨[a],[]⟩:=by
 unfold argsOk;rw[signature?_of (n:=['_', '_', 't', 'x', 'e', 'n', '_', '_']) (by kernel_rfl) q8c];kernel_rfl
theorem args_lrev_iter_1(a:Value):argsOk "list_reverseiterator.__iter__" ⟨[a],[]⟩:=by
 unfold argsOk;rw[signature?_of (n:=['_', '_', 'r', 'e', 't', 'i', '_', '_']) (by kernel_rfl) q8c];kernel_rfl
theorem sub_reversed:isSubtype (.type "reversed") (.type "reversed")=pure true:=by rw[Jt];kernel_rfl
theorem sub_lrev:isSubtype (.type "list_reverseiterator") (.type "reversed")=pure false:=by rw[Jt];kernel_rfl
end F
open Sem (wp)
noncomputable def IsRevIter(h:Heap)(it l:Addr)(k:Int):Prop:=∃o,h.get? it=some o/\o.cls=.type "list_reverseiterator" /\ o.data=.fields #[.ref l,.int k 0]
section
variable{prog:Ay}{w:World}{A:Around}{E:Value->Ag->Prop}{s:Ag}
theorem wpAny_pyNext_rev_item{k:Nat}{items}(f:IsRevIter s.heap it l k)(hl:s.heap.IsList l items)(u:items[k]?=some x)(v:∀h',IsRevIter h' it l ((k:Int)-1)->Gi it s.heap h'->Q (some x) { s with heap:=h' }):wpAny (model prog w) A (Hc (.ref it)) Q E s:=by
 obtain⟨o,e,j,hd⟩:=id f;obtain⟨B,g,_,C,h⟩:=hl;have q:s.TypeIs (.ref it) "list_reverseiterator" := ⟨o,e,j⟩
 refine Ab (Ep (Bz q F.slot_lrev_next
  (Bt F.slot_lrev_next q F.entry_lrev_next ?_ (F.args_lrev_next_1 _))))
 show wpAny _ _ (field (.ref it) 1 >>= _) _ _ s;refine Ab (Cj e hd rfl ?_);refine Ab (Cj e hd rfl ?_);refine Ab (Ds g h ?_);simp only[Ff,u];refine Ab (Ju e hd (by simp) (Ad ⟨x,rfl,Ad (v _ ?_ (El ..))⟩));exact⟨_,Gp _ e (Mw (Hm hd _)),(Pm ..).trans j,by
  rw[Hm hd];simp[Ek]⟩
theorem wpAny_pyNext_rev_end(j:A.handled=none)(f:IsRevIter s.heap it l k)(hk:k<0)(q:∀h',Om it s.heap h'->Q none { s with heap:=h' }):wpAny (model prog w) A (Hc (.ref it)) Q E s:=by
 obtain⟨o,g,u,hd⟩:=id f;have h:s.TypeIs (.ref it) "list_reverseiterator" := ⟨o,g,u⟩
 refine Ab (Ep (Bz h F.slot_lrev_next
  (Bt F.slot_lrev_next h F.entry_lrev_next ?_ (F.args_lrev_next_1 _))))
 show wpAny _ _ (field (.ref it) 1 >>= _) _ _ s;refine Ab (Cj g hd rfl ?_);show wpAny _ _ (if (k<0) then _ else _) _ _ s;rw[if_pos hk];refine Ab (Gm (Ab ?_));refine Ab ?_;refine Ab (By ?_ (by size_fits));refine Ab (Hh (by first|rfl|(simp only[Lm];rfl)) ?_);refine By ?_ (by size_fits);refine Ab (Pd ?_);rw[show A.in1.handled=none from j];refine Ab (Ad (Rm ?_));refine Ab (Fn ⟨_,Aw _ rfl,rfl⟩ Jr ?_);exact Ad (q _ (fun b o _ e=>Ai _ (Ai _ e)))
theorem wpAny_pyIter_rev(e:IsRevIter s.heap it l k)(h:Q (.ref it) s):wpAny (model prog w) A (Kv (.ref it)) Q E s:=by
 obtain⟨o,g,j,hd⟩:=id e;have f:s.TypeIs (.ref it) "list_reverseiterator" := ⟨o,g,j⟩
 refine Lx f F.slot_lrev_iter (Bt F.slot_lrev_iter f F.entry_lrev_iter ?_ (F.args_lrev_iter_1 _));exact Ad ⟨_,rfl, "list_reverseiterator",_,f,F.slot_lrev_next.lookup,h⟩
theorem q4l(l:Addr)(e:Array Value)(n:Nat):
  Meets (Dq.«reversed.__new__» ⟨[.type "reversed",.ref l],[]⟩) (fun _ R s=>s.heap.get? l=some { cls:=.type "list",dict:=none,data:=.seq e n,slots:=#[] } /\
   R (.ok (.ret (.ref s.heap.objs.size))) { s with heap:=s.heap.push { cls:=.type "list_reverseiterator",data:=.fields #[.ref l,Ek (((e.size:Nat):Int)-1)] } }) :=
 .of_wp fun prog w A R s h=>by
  obtain⟨f,g,d,tk,os⟩:=s;obtain⟨hl,h⟩:=h;have u:Ag.TypeIs ⟨f,g,d,tk,os⟩ (.ref l) "list" := ⟨_,hl,rfl⟩
  wp_walk
  refine Hh F.sub_reversed ?_
  wp_walk
  refine Hh Kd.lookup ?_
  wp_walk
  refine Hh (Kd.bind (Value.ref l)) ?_
  wp_walk
  have q:Fu (model prog w) A.in1 (Code.call (.builtin "list.__reversed__") ⟨[.ref l],[]⟩) (fun r j=>r=.ok (.ret (.ref f.objs.size))/\j=(⟨f.push { cls:=.type "list_reverseiterator",data:=.fields #[.ref l,Ek (((e.size:Nat):Int)-1)] },g,d,tk,os⟩:Ag)) ⟨f,g,d,tk,os⟩ :=
   Nr Kd.plain F.entry_list_reversed (Kd.check _ _ _ _ _ _ _ _ u (F.args_list_reversed_1 _) (AutoListH.list___reversed___list_0 l e n prog w A.in1 (fun r j=>r=.ok (.ret (.ref f.objs.size))/\j=(⟨f.push { cls:=.type "list_reverseiterator",data:=.fields #[.ref l,Ek (((e.size:Nat):Int)-1)] },g,d,tk,os⟩:Ag)) ⟨f,g,d,tk,os⟩ ⟨hl,rfl,rfl⟩))
  refine Ii q fun r j v=>?_;obtain⟨rfl,rfl⟩:=v;exact Ad ⟨_,rfl,h⟩
theorem q7q(q:TypeCalled T newId initId)(u:isSubtype (.type U) (.type T)=pure false)(G:checkTypeCall T ⟨args,[]⟩=pure ())(v:Ms newId ⟨.type T::args,[]⟩=pure ())(j:Sx table newId=some Bn)(g:Meets (Bn ⟨.type T::args,[]⟩) S)(h:S A.in1 (wants (fun obj f=>f.TypeIs obj U/\Q obj f) E) s):wpAny (model prog w) A (call (.type T) args) Q E s:=by
 obtain⟨c,tl,D⟩:=q.mro;have B:=q.made;refine Sr (codeAny_of_tree ?_);refine Ad ⟨Code.quiet_builtin _ (by trivial),Dv F.entry_type_call ?_⟩;have H:=q.notType;have I:=q.canCreate;repeat (any_goals (first|assumption|wp_step))
 refine Ii (Nr q.plain j (Hh v (g prog w A.in1 _ s h))) fun r f C=>?_;cases r with
 |error e=>exact C
 |ok fl =>
  cases fl with
  |ret obj =>
   obtain⟨J,L⟩:=C;repeat (any_goals (first|assumption|wp_step))
  |_=>exact C.elim
theorem call_reversed_list(hl:s.heap.get? l=some { cls:=.type "list",dict:=none,data:=.seq items n,slots:=#[] })(h:Q (.ref s.heap.objs.size) { s with heap:=s.heap.push { cls:=.type "list_reverseiterator",data:=.fields #[.ref l,Ek (((items.size:Nat):Int)-1)] } }):
  wpAny (model prog w) A (call (.type "reversed") [.ref l]) Q E s :=
 q7q F.called_reversed F.sub_lrev (F.typeCall_reversed_1 _) (F.newCall_reversed_1 _) F.entry_reversed_new (q4l l items n) ⟨hl,⟨_,Aw _ rfl,rfl⟩,h⟩
end
end PySem.Rv
namespace L2
open PySem PySem.Spec PyProof.Rows
noncomputable def Itv(K:Aq)(a:Addr)(n:Nat):It :=
 ⟨fun i H=>∃xs x,SqL K H a xs/\xs.length=n/\xs.reverse[i]?=some x,fun i H x H'=>H'=H/\∀xs,SqL K H a xs->xs.reverse[i]?=some x,fun i _=>n<=i⟩
theorem z5h(x:PySem.Rv.IsRevIter h it l k)(e:∀o,h.get? it=some o->h'.get? it=some o):PySem.Rv.IsRevIter h' it l k:=let ⟨o,f,r⟩:=x;⟨o,e _ f,r⟩
theorem x0i{K:Aq}(a f:Addr)(n:Nat):Turn P w K tg (Itv K a n) [f] f (fun i h=>PySem.Rv.IsRevIter h f a ((n:Int)-1-i)) where
 mem:=by simp
 obj:=fun i h st b j=>by
  have e:b=f:=by grind
  subst e;obtain⟨o,e,c,d⟩:=st;exact⟨o,e,fun v z=>by rw[d] at z;cases z⟩
 keep:=fun i h C st k=>z5h st fun o e=>k f (by simp) o e
 item:=by
  intro X R S T U i g s W H E I B st D;subst R S T;obtain⟨xs,x,Y,hn,Z⟩:=D;obtain⟨a0,rv,p,hz⟩:=I.list Y;have hi:i<xs.length:=by have:=(Af.mp Z).1;simpa using this
  have hx':xs[xs.length-1-i]?=some x:=by grind
  obtain⟨u,hu,ru⟩:=rv.get hx';obtain⟨G,J,f2,L,M,O⟩:=B f (by simp);have a1:((n:Int)-1-(i:Int))=((xs.length-1-i:Nat):Int):=by lia
  have Q:PySem.Rv.IsRevIter s.heap f a ((xs.length-1-i:Nat):Int):=by simp_all
  refine PySem.Rv.wpAny_pyNext_rev_item Q p.isList (by simpa using hu) fun C q sb=>?_;have I1:Inv X g W H { s with heap:=C }:=I.turned (t':=s.toks) (fun b o j e=>(sb.2 b j).trans e) G J L M O;obtain⟨o,e,c,d⟩:=id q;refine⟨u,rfl,z2m e c d (by decide) ⟨x,H,I1,ru,⟨rfl,fun ys hy=>by rw[I.list_inj hy Y];exact Z⟩,?_,fun b j=>(B b j).1⟩⟩;have e2:((n:Int)-1-((i+1:Nat):Int))=((xs.length-1-i:Nat):Int)-1:=by lia
  rw[e2];exact q
 done:=by
  intro X R S T U i g s W H E I B st D;obtain⟨G,J,f2,L,M,O⟩:=B f (by simp);have a2:n<=i:=D;exact PySem.Rv.wpAny_pyNext_rev_end (I.ok.hd U) st (by lia) fun C eb=>⟨rfl,I.turned (t':=s.toks) (fun b o j e=>eb b o j e) G J L M O⟩
 self:=fun _ _ _ _ _ st h=>PySem.Rv.wpAny_pyIter_rev st h
section
variable{X:Cx}{tg:Expr}
noncomputable def iRev(K:Aq)(ta:TA):TI:=fun σ H R=>ta σ H fun vs H1=>∃a xs,vs=[.ref a]/\H1 a=some (.lst xs)/\R (Itv K a xs.length) H1
theorem pi_rev(C:Gl X "reversed")(D:X.mg "reversed" = none)(ha:PA X [a] ta)(hs:Bk [a] X.env=[(false,eval a X.env)]:=by rfl):
  PI X tg (.Call (.Name "reversed" p) [a] [] pos) (iRev X.K ta):=by
 intro g s E H R I h;refine Call_ (q6p I C D (by decide +kernel:Hi "reversed" = some (.type "reversed")) (Ey (thn (ha pos g s E H _ I h) fun O f ⟨vs,G,v,J,L⟩=>?_) hs rfl));obtain⟨l,xs,e,M,q⟩:=L;subst e;obtain⟨u,rfl,r⟩:=vals1 J;cases r;obtain⟨z,B,n,P,hl,e⟩:=v.lstM M;refine PySem.Rv.call_reversed_list e ?_;have j:PySem.Rv.IsRevIter (f.heap.push { cls:=.type "list_reverseiterator",data:=.fields #[.ref l,Ek (((B.toArray.size:Nat):Int)-1)] }) f.heap.objs.size l ((xs.length:Int)-1-((0:Nat):Int)):=by
  refine⟨_,Aw _ rfl,rfl,?_⟩;rw[Be,<- hl];simp[Ek]
 refine PySem.Rv.wpAny_pyIter_rev j ?_;refine⟨f.heap.objs.size,[f.heap.objs.size],_,_,G,rfl,v.kept (t':=f.toks) fun b o e=>Ai _ e,x0i l _ xs.length,j,fun b Q=>?_,q⟩;have e:b=f.heap.objs.size:=by grind
 subst e;exact v.fpOk (Au _) (v.hok.fresh (Au _))
theorem rev_k{a:Expr}{f:TA}{p e:Pos}(K:Aq)(g:X.K=K)(h:Gl X "reversed")(j:X.mg "reversed" = none)(ha:PA X [a] f)(hs:Bk [a] X.env=[(false,eval a X.env)]:=by rfl):
  PI X tg (.Call (.Name "reversed" p) [a] [] e) (iRev K f):=by subst g;exact pi_rev h j ha hs
theorem z7k{K:Nj}{g:TG}{tb:TS}{D:Ends}(f:Nat->St->Hp->Prop)(h0:f 0 e H)(hl:∀i e H,f i e H->SqL K H a xs)(hs:∀i x e H,xs.reverse[i]?=some x->f i e H->g x e H fun j s=>tb { D with nx:=f (i+1),ct:=f (i+1),bk:=D.nx } j s)(hd:∀e H,f xs.length e H->D.nx e H):
  ∃W:Nat->Nat->St->Hp->Prop,(∃m,W 0 m e H)/\∀i m e H,W i m e H ->
   ((Itv K a xs.length).stop i H/\D.nx e H)\/((Itv K a xs.length).go i H/\∃N:St->Hp->Prop,(∀q H',N q H'->∃u,u<m/\W (i+1) u q H')/\∀x H',(Itv K a xs.length).yld i H x H'->g x e H' fun j s=>tb { D with nx:=N,ct:=N,bk:=D.nx } j s):=by
 refine z3z f h0 (fun i e H h p=>⟨xs,xs.reverse[i]'(by simpa using h),hl i e H p,rfl,Bu _⟩) (fun e H _=>Au _) (fun i v e H H' h p B=>?_) hd;obtain⟨rfl,y⟩:=B;exact hs i v e _ (y xs (hl i e _ p)) p
end
theorem Inv.freezeK{j:St}(I:Inv X pins j H s)(hd:H d=some u)(C:s.heap.get? d=some ob)(D:(∃kvs,u=.dK kvs)\/∃kvs,u=.dT kvs):Inv X pins j (upd H d (.frz ob u)) s:=by
 have f:∀{v:HO} {b:Addr},H b=some v->((∀kvs,v≠.dK kvs)/\∀kvs,v≠.dT kvs)->b≠d:=fun{v b} z hv y=>by
  subst y;rw[hd] at z;cases z;rcases D with⟨kvs,rfl⟩|⟨kvs,rfl⟩
  ·exact hv.1 _ rfl
  ·exact hv.2 _ rfl
 have g:∀{b:Addr},H b=none->b≠d:=fun{b} z y=>by subst y;rw[hd] at z;cases z
 refine⟨I.ok,I.os,I.bare,⟨I.base.keep,I.base.slot,fun b o e n E=>?_,I.base.there,fun b xs e=>?_,fun b o v e=>?_,fun b G e=>?_⟩,I.loc,I.cell,?_,fun x c e=>?_,fun p J=>?_,fun b v e=>?_,I.len⟩
 ·have z:=I.base.free b o e n E;rw[q0d (g z)];exact z
 ·have z:=I.base.tups b xs e;rw[q0d (f z ⟨fun _ y=>(by cases y),fun _ y=>(by cases y)⟩)];exact z
 ·have z:=I.base.frzs b o v e;rw[q0d (f z ⟨fun _ y=>(by cases y),fun _ y=>(by cases y)⟩)];exact z
 ·obtain⟨m,z⟩:=I.base.tbls b G e;exact⟨m,by rw[q0d (f z ⟨fun _ y=>(by cases y),fun _ y=>(by cases y)⟩)];exact z⟩
 ·rw[q0d (g I.free)];exact I.free
 ·rw[q0d (g (I.freeC x c e))];exact I.freeC x c e
 ·obtain⟨e,n,ne,h,L⟩:=I.pin p J;exact⟨e,by rw[q0d (g n)];exact n,ne,h,L⟩
 ·have st:∀{b:Addr} {v:HO},ObjOk X.prog X.w H s.heap b v->ObjOk X.prog X.w (upd H d (.frz ob u)) s.heap b v:=fun x =>
   x.stay (fun _ _ _ q=>q) (fun c q=>by rw[q0d (f q ⟨fun _ y=>(by cases y),fun _ y=>(by cases y)⟩)];exact q) fun c xs q=>by rw[q0d (f q ⟨fun _ y=>(by cases y),fun _ y=>(by cases y)⟩)];exact q
  by_cases B:b=d
  ·subst B;rw[q0b] at e;cases e;exact⟨C,st (I.hok b u hd)⟩
  ·rw[q0d B] at e;exact st (I.hok b v e)
theorem q7b:∀{xs:List V} {us:List Value},xs.length=us.length->(∀(i:Nat) x u,xs[i]?=some x->us[i]?=some u->RelV x u)->Vals xs us
 |[],[],_,_=>.nil
 |[],_::_,h,_=>by simp at h
 |_::_,[],h,_=>by simp at h
 |x::xs,u::us,h,k=>.cons (k 0 x u rfl rfl) (q7b (by simpa using h) fun i y v e f=>k (i+1) y v (by simpa using e) (by simpa using f))
end L2
namespace K
open PySem L2 TX
noncomputable def dg(m:Nat):List Nat:=tl (Ap (toString (m:Int)))
theorem dg_mk(m:Nat):Ap (toString (m:Int))=mk (dg m):=(z7d _).symm
theorem x0j(m:Nat):dg m=(Nat.toDigits 10 m).map Char.toNat:=W.KIN.signs_num m
theorem q5a(h:m<10):dg m=[48+m]:=by
 rw[x0j,Nat.toDigits_of_lt_base h];exact(by decide:∀m:Nat,m<10->[Nat.digitChar m].map Char.toNat=[48+m]) m h
theorem z2u(h:10<=m):dg m=dg (m / 10)++[48+m%10]:=by
 have e:m%10<10:=Nat.mod_lt m (by decide);have t:Nat.toDigits 10 (m / 10)++Nat.toDigits 10 (m%10)=Nat.toDigits 10 (10*(m / 10)+m%10):=Nat.toDigits_append_toDigits (by decide) (by lia) e;rw[Nat.div_add_mod] at t;rw[x0j,x0j,<- t,Ae];congr 1;exact(x0j (m%10)).symm.trans (q5a e)
theorem z7l(m:Nat):∀c∈dg m,c∈FI:=by
 have f:∀d:Nat,d<10->48+d∈FI:=by trivial
 induction m using Nat.strongRecOn with
 |_ m ih =>
  by_cases h:m<10
  ·rw[q5a h];intro c e;rw[Aj.mp e];exact f m h
  ·rw[z2u (by lia)];intro c e;rcases Ar.mp e with z|z
   ·grind
   ·rw[Aj.mp z];exact f _ (Nat.mod_lt m (by decide))
theorem x3r(m:Nat):∃d r,dg m=(48+d)::r/\d<10/\(d=0->m=0/\r=[]):=by
 induction m using Nat.strongRecOn with
 |_ m ih =>
  by_cases h:m<10
  ·exact⟨m,[],q5a h,h,fun z=>⟨z,rfl⟩⟩
  ·obtain⟨d,r,e,f,g⟩:=ih (m / 10) (by lia);refine⟨d,r++[48+m%10],by rw[z2u (by lia),e];rfl,f,fun z=>?_⟩;have:=(g z).1;lia
theorem x2b:∀(k m:Nat),m<10^(k+1)->(dg m).length<=k+1
 |0,m,h=>by rw[q5a (by simpa using h)];exact Au _
 |k+1,m,h=>by
  by_cases e:m<10
  ·rw[q5a e];simp
  ·rw[z2u (by lia),Al,Cr];have:=x2b k (m / 10) (by rw[Nat.pow_succ] at h;lia);lia
theorem dg_pos(m:Nat):1<=(dg m).length:=by obtain⟨d,r,h,_⟩:=x3r m;rw[h];simp
theorem z7m(h:m<10^10):PySem.intText? (mk (dg m))=some (m:Int):=by
 exact W.KIN.num_reads (by lia) (by lia)
end K
namespace L2
open PySem PySem.Spec PyProof.Rows
theorem Inv.thaw{j:St}(I:Inv X pins j H s)(hd:H d=some (.frz ob u))(h0:∀o v,X.H₀ d≠some (.frz o v)):Inv X pins j (upd H d u) s:=by
 have f:∀{v:HO} {b:Addr},H b=some v->(∀o z,v≠.frz o z)->b≠d:=fun{v b} z hv y=>by
  subst y;rw[hd] at z;cases z;exact hv _ _ rfl
 have g:∀{b:Addr},H b=none->b≠d:=fun{b} z y=>by subst y;rw[hd] at z;cases z
 refine⟨I.ok,I.os,I.bare,⟨I.base.keep,I.base.slot,fun b o e n C=>?_,I.base.there,fun b xs e=>?_,fun b o v e=>?_,fun b D e=>?_⟩,I.loc,I.cell,?_,fun x c e=>?_,fun p E=>?_,fun b v e=>?_,I.len⟩
 ·have z:=I.base.free b o e n C;rw[q0d (g z)];exact z
 ·have z:=I.base.tups b xs e;rw[q0d (f z fun _ _ y=>(by cases y))];exact z
 ·have z:=I.base.frzs b o v e;rw[q0d (fun y=>by subst y;exact h0 _ _ e)];exact z
 ·obtain⟨m,z⟩:=I.base.tbls b D e;exact⟨m,by rw[q0d (f z fun _ _ y=>(by cases y))];exact z⟩
 ·rw[q0d (g I.free)];exact I.free
 ·rw[q0d (g (I.freeC x c e))];exact I.freeC x c e
 ·obtain⟨e,n,ne,h,G⟩:=I.pin p E;exact⟨e,by rw[q0d (g n)];exact n,ne,h,G⟩
 ·have st:∀{b:Addr} {v:HO},ObjOk X.prog X.w H s.heap b v->ObjOk X.prog X.w (upd H d u) s.heap b v:=fun x =>
   x.stay (fun _ _ _ q=>q) (fun c q=>by rw[q0d (f q fun _ _ y=>(by cases y))];exact q) fun c xs q=>by rw[q0d (f q fun _ _ y=>(by cases y))];exact q
  by_cases B:b=d
  ·subst B;rw[q0b] at e;cases e;exact st (I.hok b _ hd).2
  ·rw[q0d B] at e;exact st (I.hok b v e)
noncomputable def Ends.thaw(D:Ends)(d:Addr):Ends where
 nx:=fun σ H=>∃ob u,H d=some (.frz ob u)/\D.nx σ (upd H d u)
 rt:=fun v H=>∃ob u,H d=some (.frz ob u)/\D.rt v (upd H d u)
 bk:=fun σ H=>∃ob u,H d=some (.frz ob u)/\D.bk σ (upd H d u)
 ct:=fun σ H=>∃ob u,H d=some (.frz ob u)/\D.ct σ (upd H d u)
noncomputable def tThaw(h₀:Hp)(t:TS):TS:=fun D σ H=>∃d,(∀o v,h₀ d≠some (.frz o v))/\t (D.thaw d) σ H
theorem z2v{X:Cx}{st:Stmt}{t:TS}(j:Hp)(J:X.H₀=j)(h:PS X st t):PS X st (tThaw j t):=by
 subst J;intro C s L H D I q;obtain⟨d,hd,q⟩:=q;refine Dj (h C s L H _ I q) (fun f M z=>?_) fun _ _ z=>z;cases f with
 |next=>obtain⟨g,E,B,G,u,e,n⟩:=z;exact⟨g,_,B.thaw e hd,n⟩
 |brk=>obtain⟨g,E,B,G,u,e,n⟩:=z;exact⟨g,_,B.thaw e hd,n⟩
 |cont=>obtain⟨g,E,B,G,u,e,n⟩:=z;exact⟨g,_,B.thaw e hd,n⟩
 |ret v=>obtain⟨x,g,E,B,r,G,u,e,n⟩:=z;exact⟨x,g,_,B.thaw e hd,r,n⟩
end L2
namespace PySem.Rv
open Sem (wp)
section
variable{prog:Ay}{w:World}{A:Around}{E:Value->Ag->Prop}{s:Ag}{it d:Addr}{i ep:Nat}{dob:Obj}{ens:Array Oo}
theorem keys_iter(e:(d==Eb)=false)(h:s.TypeIs (.ref d) "dict")(f:s.heap.get? d=some dob)(g:dob.data=.dict ens ep)(j:Q (.ref s.heap.objs.size) { s with heap:=s.heap.push { cls:=.type "dict_keyiterator",data:=.fields #[.ref d,.int 0 0,.int ens.size 0,.int ep 0] } }):
  wpAny (model prog w) A (Kv (.ref d)) Q E s:=by
 refine Lx h Vq (Bt Vq h F.entry_dict_iter ?_ (F.args_dict_iter_1 _));refine Ab (Ab (Hu h (Ad ?_)));show wpAny _ _ (Jv d >>= _) _ _ s;unfold Jv;rw[if_neg (by rw[e];decide)];refine Ab (Ad (Ab (En f g (Ab (Ga f g ?_)))));refine Ab (By (Ad ⟨_,rfl, "dict_keyiterator",_,⟨_,Aw _ rfl,rfl⟩,Fx.lookup,?_⟩));simpa[Ek] using j
theorem keys_item(e:s.heap.IsKeyIter it d i ens.size ep)(j:s.heap.get? d=some dob)(q:dob.data=.dict ens ep)(u:i<ens.size)(B:∀h',h'.IsKeyIter it d (i+1) ens.size ep->Gi it s.heap h'->Q (some ens[i].key) { s with heap:=h' }):wpAny (model prog w) A (Hc (.ref it)) Q E s:=by
 obtain⟨C,h,v,f⟩:=id e;refine Ab (Ep (Bz e.typeIs Fx
  (Bt Fx e.typeIs Oc ?_ (Nt _))))
 refine Ab (Ad (Ab (Ab ?_)));first|refine Ab (Ha e.typeIs (Ad ?_))|refine Ab (Il e.typeIs (Ad ?_))
 refine Ab (Jw h f ?_);refine Ab (Ad (Ab (En j q ?_)));rw[if_neg (by simp)];refine Ab (Ad (Ab (Ga j q ?_)));rw[if_neg (by simp)];refine Ad ?_;simp only[show ¬((i:Int)<0) from by lia,if_false,Ff,Fh u];refine Ab ?_;first|refine Ab (Ha e.typeIs (Ad ?_))|refine Ab (Il e.typeIs (Ad ?_))
 refine Ab (Se e.typeIs ?_);show wpAny _ _ (setField (.ref it) 1 (Ek ((i:Int)+1)) >>= _) _ _ s;refine Ab (Ju h f (by simp) ?_);have g:(s.heap.update it (Mn (·.setIfInBounds 1 (Ek ((i:Int)+1))))).IsKeyIter it d (i+1) ens.size ep :=
  ⟨_,Gp _ h (Mw (Hm f _)),(Pm ..).trans v,by rw[Hm f];simp[Ek]⟩
 refine Ab (Cn (Ab (Se (s:={ s with heap:=s.heap.update it (Mn (·.setIfInBounds 1 (Ek ((i:Int)+1)))) }) g.typeIs ?_)));exact Ad (Ad ⟨_,rfl,Ad (B _ g (El ..))⟩)
theorem keys_end(u:A.handled=none)(e:s.heap.IsKeyIter it d i ens.size ep)(f:s.heap.get? d=some dob)(g:dob.data=.dict ens ep)(q:ens.size<=i)(v:∀h',Om it s.heap h'->Q none { s with heap:=h' }):wpAny (model prog w) A (Hc (.ref it)) Q E s:=by
 obtain⟨C,h,B,j⟩:=id e;refine Ab (Ep (Bz e.typeIs Fx
  (Bt Fx e.typeIs Oc ?_ (Nt _))))
 refine Ab (Ad (Ab (Ab ?_)));first|refine Ab (Ha e.typeIs (Ad ?_))|refine Ab (Il e.typeIs (Ad ?_))
 refine Ab (Jw h j ?_);refine Ab (Ad (Ab (En f g ?_)));rw[if_neg (by simp)];refine Ab (Ad (Ab (Ga f g ?_)));rw[if_neg (by simp)];refine Ad ?_;simp only[show ¬((i:Int)<0) from by lia,if_false,Ff,Mg q];refine Ab ?_;first|refine Ab (Ha e.typeIs (Ad ?_))|refine Ab (Il e.typeIs (Ad ?_))
 show wpAny _ _ (setField (.ref it) 0 .none >>= _) _ _ s;refine Ab (Ju h j (by simp) ?_);refine Ab ?_;refine Ab (By ?_ (by size_fits));refine Ab (Hh (by first|rfl|(simp only[Lm];rfl)) ?_);refine By ?_ (by size_fits);refine Ab (Pd ?_);rw[show A.in1.handled=none from u];refine Ab (Ad (Rm ?_));refine Ab (Fn ⟨_,Aw _ rfl,rfl⟩ Jr ?_);exact Ad (v _ (((El ..).extBut.push _).push _))
end
end PySem.Rv
namespace L2
open PySem PySem.Spec PyProof.Rows
noncomputable def Itk(d:Addr)(ob:Obj)(kvs:List (List Key×V)):It :=
 ⟨fun i H=>H d=some (.frz ob (.dT kvs))/\i<kvs.length,fun i H x H'=>H'=H/\∃k v b,kvs[i]?=some (k,v)/\H b=some (.tup (k.map kV))/\x=.ref b,fun i H=>H d=some (.frz ob (.dT kvs))/\kvs.length<=i⟩
theorem Cu.at'{F:α->β->Prop}:∀{l:List α} {m:List β} {i:Nat} {p:α},Cu F l m->l[i]?=some p->∃q,m[i]?=some q/\F p q
 |_,_,0,_,.cons h t,e=>by simp at e;subst e;exact⟨_,rfl,h⟩
 |_,_,i+1,_,.cons h t,e=>by
  obtain⟨q,f,g⟩:=Cu.at' t (by simpa using e);exact⟨q,by simpa using f,g⟩
theorem z7n(ok:HOk P w H h)(f:H d=some (.frz ob (.dT kvs)))(g:ob.data=.dict ens ep):
  h.get? d=some ob/\ens.size=kvs.length/\∀{i:Nat} {k:List Key} {v:V} (hlt:i<ens.size),kvs[i]?=some (k,v)->∃b,ens[i].key=.ref b/\H b=some (.tup (k.map kV)):=by
 obtain⟨e,z,j,xs,s,o,G,C,u,I,B,D,J⟩:=(show ObjOk P w H h d (.frz ob (.dT kvs)) from ok d _ f)
 rw[e] at u;cases u;rw[g] at B;cases B;have hl:=Ez s;have L:ens.size=xs.length:=by rw[<- Ge,D,Aa]
 refine⟨e,by lia,fun{i k v} hlt hk=>?_⟩;obtain⟨q,M,O,E,Q⟩:=Cu.at' s hk;refine⟨q.2.1,?_,E⟩;have:ens.toList[i]?=some (Sn (Jc (mixKind P w)) q):=by simp_all
 rw[Jq,Fh hlt] at this;injection this with this;rw[this];rfl
theorem z5i{K:Aq}(d u:Addr)(ob:Obj)(kvs:List (List Key×V))(B:Array Oo)(ep:Nat)(g:ob.data=.dict B ep):
  Turn P w K tg (Itk d ob kvs) [u] u (fun i h=>h.IsKeyIter u d i B.size ep) where
 mem:=by simp
 obj:=fun i h st b D=>by
  have e:b=u:=by grind
  subst e;obtain⟨o,e,c,O⟩:=st;exact⟨o,e,fun v z=>by rw[O] at z;cases z⟩
 keep:=fun i h Q st k=>st.at fun o e=>k u (by simp) o e
 item:=by
  intro X hP hw hK hc i j s σ H E I M st R;obtain⟨C,hi⟩:=R;obtain⟨f,S,q⟩:=z7n I.hok C g;obtain⟨T,U,f2,W,Y,Z⟩:=M u (by simp);obtain⟨⟨k,v⟩,G⟩:∃p,kvs[i]?=some p:=⟨kvs[i],by simp[hi]⟩
  have J:i<B.size:=by lia
  obtain⟨b,a0,a1⟩:=q J G;refine PySem.Rv.keys_item st f g J fun Q L sb=>?_
  rw[a0];have I1:Inv X j σ H { s with heap:=Q }:=I.turned (t':=s.toks) (fun b o D e=>(sb.2 b D).trans e) T U W Y Z;obtain⟨o,e,c,O⟩:=id L;exact⟨.ref b,rfl,z2m e c O (by decide) ⟨.ref b,H,I1,rfl,⟨rfl,k,v,b,G,a1,rfl⟩,L,fun b D=>(M b D).1⟩⟩
 done:=by
  intro X hP hw hK hc i j s σ H E I M st R;obtain⟨C,hi⟩:=R;obtain⟨f,S,q⟩:=z7n I.hok C g;obtain⟨T,U,f2,W,Y,Z⟩:=M u (by simp);exact PySem.Rv.keys_end (I.ok.hd hc) st f g (by lia) fun Q eb=>⟨rfl,I.turned (t':=s.toks) (fun b o D e=>eb b o D e) T U W Y Z⟩
 self:=fun _ _ _ _ _ st h=>wpAny_pyIter_keyiter st h
section
variable{X:Cx}{tg l:Expr}{tl:TE}
noncomputable def iDictT(tl:TE):TI:=fun σ H R=>tl σ H fun x H1=>∃d kvs,x=.ref d/\H1 d=some (.dT kvs)/\∀ob,R (Itk d ob kvs) (upd H1 d (.frz ob (.dT kvs)))
theorem x0k(hl:PE X l tl):PI X tg l (iDictT tl):=by
 intro g s O H R I h;refine thn (hl g s O H _ I h) fun v f ⟨x,P,D,Q,S⟩=>?_;obtain⟨d,j,e,hd,q⟩:=S;subst e;cases Q;obtain⟨z,u,xs,U,G,B,M,E,J,C,W,Y⟩:=(show ObjOk X.prog X.w P f.heap d (.dT j) from D.hok d _ hd)
 refine PySem.Rv.keys_iter u ⟨G,E,J.1⟩ E C ?_;have L:=Bj (Az E);have T:=(D.freezeK hd E (.inr ⟨_,rfl⟩)).kept (t':=f.toks) (h':=f.heap.push { cls:=.type "dict_keyiterator",data:=.fields #[.ref d,.int 0 0,.int B.size 0,.int M 0] }) fun b o e=>Ai _ e;refine⟨f.heap.objs.size,[f.heap.objs.size],_,_,_,rfl,T,z5i d _ G j B M C,⟨_,Aw _ rfl,rfl,rfl⟩,fun b Z=>?_,q G⟩;have e:b=f.heap.objs.size:=by grind
 subst e;exact D.fpOk (Au _) (by rw[q0d (Ei L)];exact D.hok.fresh (Au _))
theorem z4b(K:Aq)(e:X.K=K)(hl:PE X l tl):PI X tg l (iDictT tl):=x0k hl
theorem z1d{g:TG}{tb:TS}{D:Ends}(f:Nat->St->Hp->Prop)(h0:f 0 e H)(hl:∀i e H,f i e H->H d=some (.frz ob (.dT kvs)))(hs:∀i k v b e H,kvs[i]?=some (k,v)->H b=some (.tup (k.map kV))->f i e H->g (.ref b) e H fun j s=>tb { D with nx:=f (i+1),ct:=f (i+1),bk:=D.nx } j s)(hd:∀e H,f kvs.length e H->D.nx e H):
  ∃W:Nat->Nat->St->Hp->Prop,(∃m,W 0 m e H)/\∀i m e H,W i m e H ->
   ((Itk d ob kvs).stop i H/\D.nx e H)\/((Itk d ob kvs).go i H/\∃N:St->Hp->Prop,(∀q H',N q H'->∃u,u<m/\W (i+1) u q H')/\∀x H',(Itk d ob kvs).yld i H x H'->g x e H' fun j s=>tb { D with nx:=N,ct:=N,bk:=D.nx } j s):=by
 refine z3z f h0 (fun i e H h p=>⟨hl i e H p,h⟩) (fun e H p=>⟨hl _ e H p,Au _⟩) (fun i x e H H' h p B=>?_) hd;obtain⟨rfl,k,v,b,hk,C,rfl⟩:=B;exact hs i k v b e _ hk C p
end
end L2
namespace SB
open PySem PyProof.Rows
section
variable{prog:Ay}{w:World}{A:Around}{E:Value->Ag->Prop}{s:Ag}
noncomputable def Tells(prog:Ay)(w:World)(A:Around)(s:Ag)(kd:Ld)(S:Value->Prop)(r:Value->Int):Prop :=
 ∀(E:Value->Ag->Prop) (x y:Value) (Q:Bool->Ag->Prop),S x->S y->Q (decide (r x<r y)) s->wpAny (model prog w) A (keyLt' kd x y) Q E s
noncomputable def rk(r:Value->Int)(xs:Array Keyed)(i:Nat):Int:=((xs[i]?).map fun p=>r p.1).getD 0
theorem x3s(h:xs[i]?=ys[j]?):rk r xs i=rk r ys j:=by unfold rk;rw[h]
theorem rk_if[Decidable c](h:xs[i]?=if c then ys[a]? else ys[b]?):rk r xs i=if c then rk r ys a else rk r ys b:=by
 by_cases e:c
 ·rw[if_pos e] at h ⊢;exact x3s h
 ·rw[if_neg e] at h ⊢;exact x3s h
theorem z7o(e:j<=xs.size)(k:Nat):rk r (Nu xs i j ((j-i) / 2)) k=if i<=k/\k<j then rk r xs (i+j-1-k) else rk r xs k:=rk_if (getElem?_mirror_all e k)
theorem x2c(f:n<xs.size)(hd:d<=n)(k:Nat):rk r (bubble xs n d) k=if k=n-d then rk r xs n else if n-d<k/\k<=n then rk r xs (k-1) else rk r xs k:=by
 have e:=getElem?_bubble f d hd k;by_cases h:k=n-d
 ·rw[if_pos h] at e ⊢;exact x3s e
 ·rw[if_neg h] at e ⊢;exact rk_if e
structure Mid (kd:Ld) (a₀:Array Keyed) (st:Je):Prop where
 pm:(arrOf st).Perm a₀
 kn:kindOf st=kd
 fl:Vr st=none
 pd:Ra st=#[]
variable{kd:Ld}{S:Value->Prop}{r:Value->Int}{a₀:Array Keyed}
theorem Mid.sz{st:Je}(h:Mid kd a₀ st):(arrOf st).size=a₀.size:=h.pm.size_eq
theorem Mid.put{st:Je}(h:Mid kd a₀ st)(p:xs.Perm (arrOf st)):Mid kd a₀ (setArr st xs):=⟨p.trans h.pm,h.kn,h.fl,h.pd⟩
theorem z7p{st:Je}(T:Tells prog w A s kd S r)(f:∀p∈a₀.toList,S p.1)(m:Mid kd a₀ st)(g:i<a₀.size)(u:j<a₀.size)(h:Q (some (decide (rk r (arrOf st) i<rk r (arrOf st) j))) st):wpS (model prog w) A E s (ltAt' i j) Q st:=by
 have get:∀{k:Nat},k<a₀.size->∃p,(arrOf st)[k]?=some p/\S p.1/\rk r (arrOf st) k=r p.1:=fun{k} hk=>by
  have hk':k<(arrOf st).size:=by rw[m.sz];exact hk
  have e:(arrOf st)[k]?=some (arrOf st)[k]:=getElem?_pos _ k hk';refine⟨_,e,f _ ((Pe.mp m.pm).mem_iff.mp (by simp)),?_⟩;unfold rk;rw[e];rfl
 obtain⟨p,v,B,C⟩:=get g;obtain⟨q,D,G,H⟩:=get u;rw[C,H] at h;refine Cp (Sf ?_);show wpS _ _ _ _ (elem' (arrOf st) i >>= fun x=>elem' (arrOf st) j >>= fun y=>lt' x y) Q st;rw[elem'_eq,elem'_eq,v,D];refine Cp (Eg (Cp (Eg ?_)));rw[lt'_eq];refine Cp (Sf ?_);rw[m.kn];exact Cp (wpS_lift (Ep (T _ p.1 q.1 _ B G ⟨rfl,Eg h⟩)))
noncomputable def Up(r:Value->Int)(xs:Array Keyed)(n:Nat):Prop:=∀i j,i<=j->j<n->rk r xs i<=rk r xs j
noncomputable def Down(r:Value->Int)(xs:Array Keyed)(n:Nat):Prop:=∀i j,i<=j->j<n->rk r xs j<=rk r xs i
theorem Up.one:Up r xs 1:=fun i j e f=>by rw[show i=j by lia];exact Rn _
theorem Up.more(h:Up r xs n)(g:1<=n)(e:rk r xs (n-1)<=rk r xs n):Up r xs (n+1):=fun i j a b=>by
 by_cases z:j<n
 ·exact h i j a z
 ·have f:j=n:=by lia
  subst f;by_cases y:i=j
  ·grind
  ·have:=h i (j-1) (by lia) (by lia);lia
theorem Down.more(h:Down r xs n)(g:1<=n)(e:rk r xs n<=rk r xs (n-1)):Down r xs (n+1):=fun i j a b=>by
 by_cases z:j<n
 ·exact h i j a z
 ·have f:j=n:=by lia
  subst f;by_cases y:i=j
  ·grind
  ·have:=h i (j-1) (by lia) (by lia);lia
theorem Down.mir(h:Down r xs n)(e:n<=xs.size):Up r (Nu xs 0 n ((n-0) / 2)) n:=fun i j a b=>by
 rw[z7o e,z7o e,if_pos (by lia),if_pos (by lia)];exact h _ _ (by lia) (by lia)
theorem q7c(e:j<=xs.size)(h:∀k,i<=k->k<j->rk r xs k=rk r xs (j-1))(k:Nat):rk r (Nu xs i j ((j-i) / 2)) k=rk r xs k:=by
 rw[z7o e];by_cases z:i<=k/\k<j
 ·grind
 ·rw[if_neg z]
theorem x2d{st:Je}(T:Tells prog w A s kd S r)(j:∀p∈a₀.toList,S p.1)(m:Mid kd a₀ st)(C:n<=a₀.size)(D:1<=a)(q:a<=n)(u:Up r (arrOf st) a)(h:∀k,a<=k->k<=n->Up r (arrOf st) k->(k=n\/rk r (arrOf st) k<rk r (arrOf st) (k-1))->Q (none,k) st):wpS (model prog w) A E s (ascLoop a n) Q st:=by
 refine Le (fun x c t=>t=st/\c=(none,x)/\Up r (arrOf st) x) (fun x c t v B ⟨f,g,e⟩=>?_) (fun c t ⟨f,g,e⟩=>?_) ⟨rfl,rfl,u⟩
 ·subst f g;refine Cp (z7p T j m (by lia) (by lia) ?_);by_cases z:rk r (arrOf t) x<rk r (arrOf t) (x-1)
  ·simp only[decide_eq_true z,if_true];exact Eg (h x v (by lia) e (.inr z))
  ·simp only[decide_eq_false z,Bc,if_false];exact Eg ⟨rfl,rfl,e.more (by lia) (by lia)⟩
 ·grind
theorem z7q{st:Je}(T:Tells prog w A s kd S r)(g:∀p∈a₀.toList,S p.1)(m:Mid kd a₀ st)(q:n<=a₀.size)(v:1<=k)(e:k<=n)(d:Down r (arrOf st) k)(h:∀j t,Mid kd a₀ t->1<=j->j<=n->Up r (arrOf t) j->Q (some j) t):wpS (model prog w) A E s (tail3 k n) Q st:=by
 have f:=m.put (Ro (arrOf st) 0 k ((k-0) / 2));refine Cp (Rp (Cp (x2d T g f q v e (d.mir (by rw[m.sz];lia)) fun j a b u _=>Eg (h j _ f (by lia) b u))))
theorem x3t{st:Je}(T:Tells prog w A s kd S r)(u:∀p∈a₀.toList,S p.1)(m:Mid kd a₀ st)(J:n<=a₀.size)(L:1<=k)(C:k<=n)(d:Down r (arrOf st) k)(h:∀j q t,Mid kd a₀ t->k<=j->j<=n->Down r (arrOf t) j->q+1<=j->(∀i,j-(q+1)<=i->i<j->rk r (arrOf t) i=rk r (arrOf t) (j-1))->Q (none,j,q) t):wpS (model prog w) A E s (descLoop k n) Q st:=by
 refine Le (fun x c t=>∃q,c=(none,x,q)/\Mid kd a₀ t/\Down r (arrOf t) x/\q+1<=x/\∀i,x-(q+1)<=i->i<x->rk r (arrOf t) i=rk r (arrOf t) (x-1))
  (fun x c t D G ⟨q,v,e,f,B,eq⟩=>?_) (fun c t ⟨q,v,e,f,B,eq⟩=>?_) ⟨0,rfl,m,d,by lia,fun i a b=>by rw[show i=k-1 by lia]⟩
 ·subst v;have H:x<=(arrOf t).size:=by rw[e.sz];lia
  dsimp only;refine Cp (z7p T u e (by lia) (by lia) ?_);by_cases z:rk r (arrOf t) x<rk r (arrOf t) (x-1)
  ·simp only[decide_eq_true z,if_true];by_cases y:q>0
   ·rw[if_pos y];have g:=fun k=>q7c H eq k;have I:Down r (Nu (arrOf t) (x-(q+1)) x ((x-(x-(q+1))) / 2)) x:=fun i j a b=>by rw[g,g];exact f i j a b
    exact Cp (Rp (Eg ⟨0,rfl,e.put (Ro _ _ _ _),I.more (by lia) (by rw[g,g];lia),by lia,fun i a b=>by rw[show i=x+1-1 by lia]⟩))
   ·rw[if_neg y];exact Eg ⟨0,rfl,e,f.more (by lia) (by lia),by lia,fun i a b=>by rw[show i=x+1-1 by lia]⟩
  ·simp only[decide_eq_false z,Bc,if_false];refine Cp (z7p T u e (by lia) (by lia) ?_);by_cases y:rk r (arrOf t) (x-1)<rk r (arrOf t) x
   ·simp only[decide_eq_true y,if_true];exact Eg (h x q t e D (by lia) f B eq)
   ·simp only[decide_eq_false y,Bc,if_false];have ex:rk r (arrOf t) x=rk r (arrOf t) (x-1):=by lia
    refine Eg ⟨q+1,rfl,e,f.more (by lia) (by lia),by lia,fun i a b=>?_⟩;rw[show x+1-1=x by lia,ex];by_cases c:i=x
    ·rw[c,ex]
    ·grind
 ·grind
theorem z7r{st:Je}(T:Tells prog w A s kd S r)(e:∀p∈a₀.toList,S p.1)(m:Mid kd a₀ st)(f:n<=a₀.size)(g:k+1<=n)(d:Down r (arrOf st) (k+1))(h:∀j t,Mid kd a₀ t->1<=j->j<=n->Up r (arrOf t) j->Q (some j) t):wpS (model prog w) A E s (descPart k n) Q st:=by
 refine Cp (wpS_lift (Gm ⟨rfl,Cp (x3t T e m f (by lia) g d fun j q t u a b dt D eq=>?_)⟩));have v:j<=(arrOf t).size:=by rw[u.sz];lia
 dsimp only;by_cases y:q>0
 ·rw[if_pos y];exact Cp (Rp (z7q T e (u.put (Ro _ _ _ _)) f (by lia) b (fun i B a' C=>by show rk r (Nu _ _ _ _) B<=rk r (Nu _ _ _ _) i;rw[q7c v eq,q7c v eq];exact dt i B a' C) h))
 ·rw[if_neg y];exact z7q T e u f (by lia) b dt h
theorem run_ok{st:Je}(T:Tells prog w A s kd S r)(q:∀p∈a₀.toList,S p.1)(m:Mid kd a₀ st)(B:n<=a₀.size)(C:1<=n)(h:∀j t,Mid kd a₀ t->1<=j->j<=n->Up r (arrOf t) j->Q (some j) t):wpS (model prog w) A E s (countRun' 0 n) Q st:=by
 rw[countRun0_eq];refine Cp (x2d T q m B (Au 1) C Up.one fun k a b u o=>?_);have v:k<=(arrOf st).size:=by rw[m.sz];lia
 dsimp only;by_cases e:k=n
 ·rw[if_pos (by simpa using e)];exact Eg (h k st m a b u)
 rw[if_neg (by simpa using e)];by_cases g:k>1
 ·rw[if_pos g];refine Cp (z7p T q m (by lia) (by lia) ?_);by_cases z:rk r (arrOf st) 0<rk r (arrOf st) (k-1)
  ·simp only[decide_eq_true z,if_true];exact Eg (h k st m a b u)
  ·simp only[decide_eq_false z,Bc,if_false];have f:∀i,0<=i->i<k->rk r (arrOf st) i=rk r (arrOf st) (k-1):=fun i _ D=>by
    have H:=u 0 i (by lia) D;have I:=u i (k-1) (by lia) (by lia);lia
   refine Cp (Rp (z7r T q (m.put (Ro _ _ _ _)) B (by lia) (Down.more (fun i j a' G=>?_) (by lia) ?_) h))
   ·show rk r (Nu _ _ _ _) j<=rk r (Nu _ _ _ _) i;rw[q7c v f,q7c v f,f i (by lia) (by lia),f j (by lia) (by lia)];exact Rn _
   ·show rk r (Nu _ _ _ _) k<=rk r (Nu _ _ _ _) (k-1);rw[q7c v f,q7c v f];lia
 ·rw[if_neg g];exact z7r T q m B (by lia) (Down.more (fun i j a' G=>by rw[show i=j by lia];exact Rn _) (by lia) (by lia)) h
theorem ins_ok{st:Je}(T:Tells prog w A s kd S r)(L:∀p∈a₀.toList,S p.1)(m:Mid kd a₀ st)(Z:n<=a₀.size)(hk:k<=n)(u:Up r (arrOf st) k)(h:∀t,Mid kd a₀ t->Up r (arrOf t) n->Q true t):wpS (model prog w) A E s (binarySort' 0 n k) Q st:=by
 rw[binarySort'_eq];simp only[Nat.zero_add];refine Cp (Vs (Le (fun j c t=>c=(none,())/\Mid kd a₀ t/\Up r (arrOf t) (min j n)) (Q:=fun c t=>c=(none,())/\Mid kd a₀ t/\Up r (arrOf t) n) ?step ?fin ⟨rfl,m,?init⟩) ?post)
 case step =>
  rintro j c t hj M ⟨rfl,v,g⟩;refine Cp (Vs (Le (fun x c q=>q=t/\∃lo f,c=(none,lo,f)/\lo<=f/\f<=j/\f-lo<=j-x/\(∀i,i<lo->rk r (arrOf t) i<=rk r (arrOf t) j)/\∀i,f<=i->i<j->rk r (arrOf t) j<rk r (arrOf t) i)
   (Q:=fun c q=>q=t/\∃lo f,c=(none,lo,f)/\lo<=j/\(∀i,i<lo->rk r (arrOf t) i<=rk r (arrOf t) j)/\∀i,lo<=i->i<j->rk r (arrOf t) j<rk r (arrOf t) i)
   ?st2 ?fi2 ⟨rfl,0,j,rfl,by lia,by lia,by lia,fun i z=>by lia,fun i z y=>by lia⟩) ?po2)
  case st2 =>
   rintro x c q hx O ⟨rfl,lo,f,rfl,G,H,P,B,C⟩;dsimp only;by_cases z:lo>=f
   ·rw[if_pos z];exact Eg ⟨rfl,lo,f,rfl,by lia,B,fun i b c=>C i (by lia) c⟩
   ·rw[if_neg z];refine Cp (z7p T L v (by lia) (by lia) ?_);by_cases y:rk r (arrOf q) j<rk r (arrOf q) ((lo+f) / 2)
    ·simp only[decide_eq_true y,if_true];refine Eg ⟨rfl,lo,(lo+f) / 2,rfl,by lia,by lia,by lia,B,fun i b c=>?_⟩;have:=g ((lo+f) / 2) i b (by lia);lia
    ·simp only[decide_eq_false y,Bc,if_false];refine Eg ⟨rfl,(lo+f) / 2+1,f,rfl,by lia,H,by lia,fun i b=>?_,C⟩;have:=g i ((lo+f) / 2) (by lia) (by lia);lia
  case fi2 =>
   rintro c q ⟨rfl,lo,f,rfl,G,H,P,B,C⟩;exact⟨rfl,lo,f,rfl,by lia,B,fun i b c=>C i (by lia) c⟩
  case po2 =>
   rintro c q ⟨rfl,lo,f,rfl,G,B,C⟩;rw[moveDown'_eq];have I:j<(arrOf q).size:=by rw[v.sz];lia
   refine Cp (Wn (Eg ⟨rfl,v.put (bubble_perm _ _ _),fun i D b c=>?_⟩));have R:j-(j-lo)=lo:=by lia
   rw[x2c I (by lia),x2c I (by lia),R];by_cases U:i=lo
   ·grind
   ·rw[if_neg U];by_cases W:D=lo
    ·grind
    ·rw[if_neg W];by_cases J:lo<i/\i<=j
     ·rw[if_pos J,if_pos (by lia)];exact g _ _ (by lia) (by lia)
     ·rw[if_neg J];by_cases X:lo<D/\D<=j
      ·grind
      ·rw[if_neg X];exact g _ _ b (by lia)
 case fin =>
  rintro c t ⟨Y,v,g⟩;have e:min (max (max k 1) n) n=n:=by lia
  rw[e] at g;exact⟨Y,v,g⟩
 case init =>
  intro i j a b;by_cases z:k=0
  ·grind
  ·exact u i j a (by lia)
 case post =>
  rintro c t ⟨rfl,v,g⟩;exact Eg (h t v g)
structure Fin' (a₀:Array Keyed) (r:Value->Int) (st:Je):Prop where
 pm:(arrOf st).Perm a₀
 fl:Vr st=none
 pd:Ra st=#[(0,a₀.size,0)]
 up:Up r (arrOf st) a₀.size
theorem x3u{st:Je}(T:Tells prog w A s kd S r)(D:∀p∈a₀.toList,S p.1)(m:Mid kd a₀ st)(M:2<=a₀.size)(G:a₀.size<64)(h:∀t,(arrOf t).Perm a₀->Vr t=none->Up r (arrOf t) a₀.size->Q () t):wpS (model prog w) A E s sortRuns' Q st:=by
 rw[sortRuns'_eq];have H:minRun' a₀.size a₀.size 0=a₀.size:=by
  cases z:a₀.size with
  |zero=>rfl
  |succ f=>rw[minRun'_succ,if_pos (by lia)]
 have fin:∀{t:Je},Mid kd a₀ t->Up r (arrOf t) a₀.size->Fin' a₀ r (setPending t ((Ra t).push (0,a₀.size,0))):=fun{t} g ut=>⟨g.pm,g.fl,by show(Ra t).push _=_;rw[g.pd];rfl,ut⟩
 have e:∀{t:Je},Mid kd a₀ t->(Ra t).back?=none:=fun{t} g=>by rw[g.pd];rfl
 refine Cp (Sf ?_);simp only[m.sz,H];refine Cp (Vs (Le (fun x c t=>(x=0/\c=(none,0)/\Mid kd a₀ t)\/(1<=x/\c=(none,a₀.size)/\Fin' a₀ r t)) (Q:=fun c t=>c=(none,a₀.size)/\Fin' a₀ r t) ?st1 ?fi1 (.inl ⟨rfl,rfl,m⟩)) ?po1)
 case st1 =>
  intro x c t _ O o;rcases o with⟨rfl,rfl,g⟩|⟨P,rfl,f⟩
  ·dsimp only;rw[if_neg (by lia)];simp only[Jx,Ud,Nat.zero_add];refine Cp (run_ok T D g (Au _) (by lia) fun j u q R I v=>?_);dsimp only;by_cases z:j<a₀.size
   ·rw[if_pos z];refine Cp (wpS_lift (Gm ⟨rfl,Cp (ins_ok T D q (Au _) I v fun U B C=>?_)⟩));refine Cp (Sf ?_);rw[e B];exact Cp (Wn (Eg (.inr ⟨by lia,rfl,fin B C⟩)))
   ·rw[if_neg z];have J:j=a₀.size:=by lia
    subst J;refine Cp (Sf ?_);rw[e q];exact Cp (Wn (Eg (.inr ⟨by lia,rfl,fin q v⟩)))
  ·dsimp only;rw[if_pos (Au _)];exact Eg ⟨rfl,f⟩
 case fi1 =>
  intro c t o;rcases o with⟨z,_⟩|⟨_,L,f⟩
  ·lia
  ·exact⟨L,f⟩
 case po1 =>
  rintro c t ⟨rfl,f⟩;refine Cp (Vs (Le (fun _ c u=>u=t/\c=(none,())) (Q:=fun c u=>u=t/\c=(none,())) ?st3 (fun _ _ z=>z) ⟨rfl,rfl⟩) ?po3)
  case st3 =>
   rintro x c u _ _ ⟨rfl,rfl⟩;refine Cp (Sf ?_);rw[if_pos (by rw[f.pd];exact Au 1)];exact Eg ⟨rfl,rfl⟩
  case po3 =>
   rintro c u ⟨rfl,rfl⟩;exact Eg (h _ f.pm f.fl f.up)
end
end SB
namespace PySem.Rv
open Sem (wp)
noncomputable abbrev itemObj(d:Addr)(i n ep:Nat)(f0 f1 ok ov:Value):Obj:={ cls:=.type "dict_itemiterator",dict:=none,data:=.fields #[f0,f1,.ref d,.int i 0,.int n 0,.int ep 0,ok,ov],slots:=#[] }
noncomputable def ItemIt(h:Heap)(it d:Addr)(i n ep:Nat):Prop:=∃f0 f1 ok ov,h.get? it=some (itemObj d i n ep f0 f1 ok ov)/\(f0=.none\/∃a:Addr,f0=Ek a)
theorem ItemIt.typeIs{s:Ag}(x:ItemIt s.heap it d i n ep):s.TypeIs (.ref it) "dict_itemiterator" := by
 obtain⟨f,g,ok,h,e,_⟩:=x;exact⟨_,e,rfl⟩
theorem ItemIt.lt(x:ItemIt h it d i n ep):it<h.objs.size:=by
 obtain⟨f,g,ok,j,e,_⟩:=x;exact Az e
theorem ItemIt.keep(x:ItemIt h it d i n ep)(k:∀o,h.get? it=some o->h'.get? it=some o):ItemIt h' it d i n ep:=by
 obtain⟨f,g,ok,j,e,z⟩:=x;exact⟨f,g,ok,j,k _ e,z⟩
section
variable{prog:Ay}{w:World}{A:Around}{E:Value->Ag->Prop}{s:Ag}{it d v:Addr}{i ep:Nat}{dob:Obj}{ens:Array Oo}
theorem items_iter(g:s.heap.IsItemsView v d)(e:s.heap.get? d=some dob)(f:dob.data=.dict ens ep)(h:Q (.ref s.heap.objs.size) { s with heap:=s.heap.push (itemObj d 0 ens.size ep .none (.bool false) .none .none) }):wpAny (model prog w) A (Kv (.ref v)) Q E s:=by
 obtain⟨o,j,u,q⟩:=id g;refine Lx g.typeIs Rq (Bt Rq g.typeIs F.entry_dict_items_iter ?_ (F.args_dict_items_iter_1 _));unfold Dq.«dict_items.__iter__»;refine Ab (Ad (Ab ?_));unfold Pu;refine Ab (Cj j q rfl (Ad (Ab ?_)));unfold Nv;refine Ab (En e f (Ab (Ga e f ?_)));simp only[show Er "dict_itemiterator" = true from by decide,if_true];refine By (Ad ⟨_,rfl, "dict_itemiterator",_,⟨_,Aw _ rfl,rfl⟩,Fj.lookup,?_⟩) (by simp[sizeOk,Ln,Dy]);simpa[Ek,itemObj,Ln] using h
theorem q8d(e:s.heap.get? it=some (itemObj d i n ep f0 f1 ok ov))(hk:k<8)(f:∀h',h'.get? it=some { cls:=.type "dict_itemiterator",dict:=none,data:=.fields ((#[f0,f1,.ref d,.int i 0,.int n 0,.int ep 0,ok,ov]:Array Value).setIfInBounds k x),slots:=#[] }->Gi it s.heap h'->Q () { s with heap:=h' }):
  wpAny (model prog w) A (setField (.ref it) k x) Q E s:=Dh e (by simpa using hk) f
theorem owned(x:ItemIt s.heap it d i n ep)(f:∀b h',ItemIt h' it d i n ep->Gi it s.heap h'->Q b { s with heap:=h' }):
  wpAny (model prog w) A (Dq.Dict_items.ownedTupleIsFree (.ref it)) Q E s:=by
 obtain⟨B,g,ok,C,e,z⟩:=id x;refine Ab (Cj e rfl rfl ?_);rcases z with rfl|⟨a,rfl⟩
 ·exact Ad (f true s.heap x (Pn _ _))
 ·show wpAny _ _ (loadIfAlive (Int.toNat (a:Int)) >>= _) _ _ _;have q:∀{Q':Option Obj->Ag->Prop},Q' (s.heap.get? (Int.toNat (a:Int))) s->wpAny (model prog w) A (loadIfAlive (Int.toNat (a:Int))) Q' E s:=fun h' _ _ _=>h';refine Ab (q ?_);by_cases h:(s.heap.get? (Int.toNat (a:Int))).isNone=true
  ·rw[if_pos h];exact Ad (f true s.heap x (Pn _ _))
  ·rw[if_neg h];refine Ab (Cj e rfl (x:=g) rfl ?_);by_cases j:(g != Value.bool true)=true
   ·rw[if_pos j];refine Ab (q8d e (by decide) fun h' u v=>Ad (f false h' ⟨_,_,_,_,u,.inr ⟨a,rfl⟩⟩ v))
   ·rw[if_neg j];exact Ad (f false s.heap x (Pn _ _))
theorem items_item(x:ItemIt s.heap it d i ens.size ep)(S:s.heap.get? d=some dob)(T:dob.data=.dict ens ep)(a1:i<ens.size)(hQ:∀h',ItemIt h' it d (i+1) ens.size ep->h'.get? s.heap.objs.size=some { cls:=.type "tuple",data:=.seq #[ens[i].key,ens[i].val] }->h'.objs.size=s.heap.objs.size+1 ->
   (∀b o,b≠it->s.heap.get? b=some o->h'.get? b=some o)->Q (some (.ref s.heap.objs.size)) { s with heap:=h' }):wpAny (model prog w) A (Hc (.ref it)) Q E s:=by
 obtain⟨f0,f1,ok,ov,e,z⟩:=id x;have R:=x.typeIs;refine Ab (Ep (Bz R Fj (Bt Fj R Nw ?_ (Nf _))));refine Ab (Ad (Ab (Ab ?_)));first|refine Ab (Gx R (Ad ?_))|refine Ab (Ib R (Ad ?_))
 refine Ab (Jw e rfl ?_);simp only[show Er "dict_itemiterator" = true from by decide,if_true];refine Ab (Ad (Ab (En S T ?_)));rw[if_neg (by simp)];refine Ab (Ad (Ab (Ga S T ?_)));rw[if_neg (by simp)];refine Ad ?_;simp only[show ¬((i:Int)<0) from by lia,if_false,Ff,Fh a1];refine Ab ?_;first|refine Ab (Gx R (Ad ?_))|refine Ab (Ib R (Ad ?_))
 refine Ab (Mh R ?_);show wpAny _ _ (setField (.ref it) 3 (Ek ((i:Int)+1)) >>= _) _ _ s;refine Ab (q8d e (by decide) fun h U j=>?_);have u:ItemIt h it d (i+1) ens.size ep:=⟨f0,f1,ok,ov,by rw[U];simp[itemObj,Ek],z⟩
 refine Ab (Cn ?_);refine Ab (Mh u.typeIs (Ab (Mh u.typeIs ?_)));have v:=j.1;have W:=Bj x.lt;refine Ab (Oj ?_);refine Ab (owned (u.keep fun o q=>Ai _ q) fun b f J g=>?_);have L:f.get? s.heap.objs.size=some { cls:=.type "tuple",data:=.seq #[ens[i].key,ens[i].val] }:=by
  rw[g.2 _ (Ei W),<- v];exact Aw _ rfl
 have M:f.objs.size=s.heap.objs.size+1:=by rw[g.1];show(h.push _).objs.size=_;rw[Fv,v]
 have O:∀b o,b≠it->s.heap.get? b=some o->f.get? b=some o:=fun b o I q=>by
  rw[g.2 b I];exact Ai _ ((j.2 b I).trans q)
 have ez:(Value.ref h.objs.size)=.ref s.heap.objs.size:=by rw[v]
 cases b with
 |false =>
  refine Ad (Ad ⟨_,rfl,Ad ?_⟩);rw[ez];exact hQ f J L M O
 |true =>
  obtain⟨g0,g1,a5,a6,B,_⟩:=J;refine Ab (Cj B rfl rfl (Ab (Cj B rfl rfl ?_)));refine Ab (q8d B (by decide) fun a2 X C=>?_);refine Ab (q8d X (by decide) fun a3 Y D=>?_);refine Ab (q8d Y (by decide) fun a4 Z G=>?_);refine Ab (q8d Z (by decide) fun P a0 H=>?_);have kk:∀b o,b≠it->f.get? b=some o->P.get? b=some o:=fun b o I q=>(H.2 b I).trans ((G.2 b I).trans ((D.2 b I).trans ((C.2 b I).trans q)))
  refine Ab (Gs (Ad (Ad ⟨_,rfl,Ad ?_⟩)));rw[ez];refine hQ P ⟨_,_,_,_,a0,.inr ⟨_,rfl⟩⟩ (kk _ _ (Ei W) L) ?_ fun b o I q=>kk b o I (O b o I q);rw[H.1];rw[G.1];rw[D.1];rw[C.1];exact M
theorem items_end(q:A.handled=none)(x:ItemIt s.heap it d i ens.size ep)(g:s.heap.get? d=some dob)(h:dob.data=.dict ens ep)(j:ens.size<=i)(u:∀h',Om it s.heap h'->Q none { s with heap:=h' }):wpAny (model prog w) A (Hc (.ref it)) Q E s:=by
 obtain⟨v,B,ok,C,e,z⟩:=id x;have f:=x.typeIs;refine Ab (Ep (Bz f Fj (Bt Fj f Nw ?_ (Nf _))));refine Ab (Ad (Ab (Ab ?_)));first|refine Ab (Gx f (Ad ?_))|refine Ab (Ib f (Ad ?_))
 refine Ab (Jw e rfl ?_);simp only[show Er "dict_itemiterator" = true from by decide,if_true];refine Ab (Ad (Ab (En g h ?_)));rw[if_neg (by simp)];refine Ab (Ad (Ab (Ga g h ?_)));rw[if_neg (by simp)];refine Ad ?_;simp only[show ¬((i:Int)<0) from by lia,if_false,Ff,Mg j];refine Ab ?_;first|refine Ab (Gx f (Ad ?_))|refine Ab (Ib f (Ad ?_))
 show wpAny _ _ (setField (.ref it) 2 .none >>= _) _ _ s;refine Ab (Ju e rfl (by simp) ?_);show wpAny _ _ (newExc (.type "StopIteration") [] >>= _) _ _ _;refine Ab ?_;refine Ab (By (Ab (Hh (by first|rfl|(simp only[Lm];rfl)) ?_)) (by size_fits));refine By ?_ (by size_fits);refine Ab (Pd ?_);rw[show A.in1.handled=none from q];refine Ab (Ad (Rm ?_));refine Ab (Fn ⟨_,Aw _ rfl,rfl⟩ Jr ?_);exact Ad (u _ (((El ..).extBut.push _).push _))
end
end PySem.Rv
namespace SB
open PySem PyProof.Rows TX
noncomputable abbrev Pth:=List (List Nat)
noncomputable def pLt:Pth->Pth->Bool
 |[],[]=>false
 |[],_::_=>true
 |_::_,[]=>false
 |a::r,b::t=>if a=b then pLt r t else decide (a<b)
theorem q5b(a b:List Nat)(r t:Pth):pLt (a::r) (b::t)=if a=b then pLt r t else decide (a<b):=rfl
theorem q1f:∀p:Pth,pLt p p=false
 |[]=>rfl
 |a::r=>by rw[q5b,if_pos rfl];exact q1f r
theorem z1e{c:List Nat}(h:a<b)(h':b<c):a<c:=List.lt_trans h h'
theorem x3v{b:List Nat}(h:¬a<b)(h':¬b<a):a=b:=List.le_antisymm (List.not_lt.mp h') (List.not_lt.mp h)
theorem q3q:∀{p q t:Pth},pLt p q=true->pLt q t=true->pLt p t=true
 |[],[],_,h,_=>by cases h
 |_::_,[],_,h,_=>by cases h
 |_,_::_,[],_,h=>by cases h
 |[],_::_,_::_,_,_=>rfl
 |a::p,b::q,c::t,h,h'=>by
  rw[q5b] at h h' ⊢;by_cases g:a=b
  ·subst g;rw[if_pos rfl] at h;by_cases f:a=c
   ·rw[if_pos f] at h' ⊢;exact q3q h h'
   ·rw[if_neg f] at h' ⊢;exact h'
  ·rw[if_neg g] at h;by_cases f:b=c
   ·subst f;rw[if_neg g];exact h
   ·rw[if_neg f] at h';have j:=of_decide_eq_true h;have s:=of_decide_eq_true h';have u:=z1e j s;rw[if_neg (fun e=>by subst e;exact absurd (z1e j s) (List.lt_irrefl _))];exact decide_eq_true u
theorem q5k:∀{p q:Pth},pLt p q=false->pLt q p=false->p=q
 |[],[],_,_=>rfl
 |[],_::_,h,_=>by cases h
 |_::_,[],_,h=>by cases h
 |a::p,b::q,h,h'=>by
  rw[q5b] at h h';by_cases e:a=b
  ·subst e;rw[if_pos rfl] at h h';rw[q5k h h']
  ·rw[if_neg e] at h;rw[if_neg (Ei e)] at h';exact absurd (x3v (of_decide_eq_false h) (of_decide_eq_false h')) e
noncomputable def pRank(ps:List Pth)(p:Pth):Nat:=(ps.filter fun q=>pLt q p).length
theorem z1f{e:Type}{f g:e->Bool}:∀(l:List e),(∀x∈l,f x=true->g x=true)->(l.filter f).length<=(l.filter g).length
 |[],_=>Au _
 |x::r,h=>by
  have j:=z1f r fun y q=>h y (Am _ q);by_cases s:f x=true
  ·simp_all
  ·rw[Dl s];by_cases u:g x=true
   ·rw[Dm u];exact Fz j
   ·simp_all
theorem z1g{q:Type}{f g:q->Bool}{y:q}:∀(l:List q),(∀x∈l,f x=true->g x=true)->y∈l->f y=false->g y=true->(l.filter f).length<(l.filter g).length
 |[],_,j,_,_=>by cases j
 |x::r,h,j,h1,h2=>by
  rcases Bb.mp j with e|j
  ·subst e;rw[Dl (by rw[h1];decide),Dm h2];exact Nat.lt_succ_of_le (z1f r fun z s=>h z (Am _ s))
  ·have u:=z1g r (fun z s=>h z (Am _ s)) j h1 h2;by_cases v:f x=true
   ·simp_all
   ·rw[Dl v];by_cases B:g x=true
    ·rw[Dm B];exact Jn u
    ·simp_all
theorem q8e(e:p∈ps)(h:pLt p q=true):pRank ps p<pRank ps q :=
 z1g ps (fun x _ f=>q3q f h) e (q1f p) h
theorem q9n(e:p∈ps)(f:q∈ps):pLt p q=decide ((pRank ps p:Int)<(pRank ps q:Int)):=by
 cases h:pLt p q with
 |true=>have:=q8e e h;exact(decide_eq_true (by lia)).symm
 |false =>
  cases h':pLt q p with
  |true=>have:=q8e f h';exact(decide_eq_false (by lia)).symm
  |false=>rw[q5k h h'];exact(decide_eq_false (by lia)).symm
noncomputable def PathAt(h:Heap)(v:Value)(p:Pth):Prop:=∃a its,v=.ref a/\IsTup h a its/\Iz its.toList (p.map mk)
theorem mk_inj(h:mk a=mk b):a=b:=by have:=congrArg tl h;rwa [q2m,q2m] at this
theorem q7d:∀{vs:List Value} {ss ts:List Str},Iz vs ss->Iz vs ts->ss=ts
 |_,_,_,.nil,.nil=>rfl
 |_,_,_,.cons y t h,.cons _ _ h'=>by rw[q7d h h']
theorem q8f:∀{p q:Pth},p.map mk=q.map mk->p=q
 |[],[],_=>rfl
 |[],_::_,h=>by simp at h
 |_::_,[],h=>by simp at h
 |a::p,b::q,h=>by
  rw[Ax,Ax] at h;injection h with h1 h2;rw[mk_inj h1,q8f h2]
theorem q2r:∀{vs:List Value} {p:Pth},Iz vs (p.map mk)->vs.length=p.length
 |_,[],.nil=>rfl
 |vs,n::p,h=>by
  rw[Ax] at h;cases h with
  |cons _ _ h'=>rw[Cg,Cg,q2r h']
theorem IsTup.inj(j:IsTup h a x)(q:IsTup h a y):x=y:=by
 obtain⟨o,e,_,n,d⟩:=j;obtain⟨s,f,_,u,g⟩:=q;rw[e] at f;cases f;rw[d] at g;cases g;rfl
theorem PathAt.inj(g:PathAt h v p)(j:PathAt h v q):p=q:=by
 obtain⟨a,u,rfl,t,s⟩:=g;obtain⟨a',f,e,B,C⟩:=j;cases e;rw[IsTup.inj t B] at s;exact q8f (q7d s C)
theorem IsTup.keep(t:IsTup h a x)(k:∀o,h.get? a=some o->h'.get? a=some o):IsTup h' a x:=let ⟨o,e,r⟩:=t;⟨o,k o e,r⟩
theorem PathAt.keep(x:PathAt h v p)(k:∀b o,h.get? b=some o->h'.get? b=some o):PathAt h' v p:=let ⟨a,f,e,t,s⟩:=x;⟨a,f,e,IsTup.keep t fun o=>k a o,s⟩
noncomputable def dP(p:Pth):List Cw:=p.map fun n=>Cw.str (mk n)
noncomputable def Low(p:Pth):Prop:=∀n∈p,∀c∈n,c<128
theorem q8g:∀{p:Pth} {vs:List Value},Iz vs (p.map mk)->∃as,ReadsAll h vs (dP p) as
 |[],_,.nil=>⟨_,.nil⟩
 |n::p,vs,x=>by
  rw[Ax] at x;cases x with
  |cons y t s =>
   obtain⟨as,e⟩:=q8g s;exact⟨_,.cons (.str _ t) e⟩
theorem PathAt.reads(x:PathAt h v p):∃as,Reads h v (.tuple (dP p)) as:=by
 obtain⟨a,f,rfl,⟨o,e,c,n,d⟩,s⟩:=x;obtain⟨as,r⟩:=q8g s;exact⟨_,.tuple e c d r⟩
theorem z7s(h:∀c∈l,c<128):Ue (mk l)=true:=by
 unfold Ue;simp only[mk,List.all_toArray,Qi];intro c e;have:=h c e;simp;lia
theorem q7e:∀{p:Pth},Low p->Ls (dP p)=true
 |[],_=>rfl
 |n::r,h=>by
  have e:=z7s (h n As);have f:=q7e fun x g=>h x (Am _ g);show Ls (Cw.str (mk n)::dP r)=true;simp only[Ls,Ke,e,f,Pf]
theorem q6h:∀p:Pth,Gr (dP p)<=1
 |[]=>by simp[dP,Gr]
 |n::r=>by
  have e:=q6h r;show Gr (Cw.str (mk n)::dP r)<=1;simp only[Gr,Ou];lia
theorem q7f:∀p q:Pth,Hy (dP p) (dP q)=decide (p=q)
 |[],[]=>rfl
 |[],_::_=>rfl
 |_::_,[]=>rfl
 |a::p,b::q=>by
  show Hy (Cw.str (mk a)::dP p) (Cw.str (mk b)::dP q)=_;have e:Hy (Cw.str (mk a)::dP p) (Cw.str (mk b)::dP q)=(Fw (Cw.str (mk a)) (Cw.str (mk b))&&Hy (dP p) (dP q)):=by simp only[Hy]
  have f:Fw (Cw.str (mk a)) (Cw.str (mk b))=(mk a==mk b):=by simp only[Fw]
  rw[e,f,q7f p q];by_cases h:a=b
  ·subst h;simp
  ·grind
section
variable{prog:Ay}{w:World}{A:Around}{E:Value->Ag->Prop}{s:Ag}{x y:Value}{p q:Pth}
theorem z4c(f:PathAt s.heap x p)(g:PathAt s.heap y q)(j:Low p)(u:Low q)(C:A.units+2<cLine):Em A s x y (decide (p=q)):=by
 obtain⟨as,v⟩:=f.reads;obtain⟨bs,B⟩:=g.reads;have h:=Vt (.tuple (dP p)) (.tuple (dP q)) A s x y as bs v B (by simp only[Ke,q7e j]) (by simp only[Ke,q7e u]) (by
  have D:(Cw.tuple (dP p)).depth=Gr (dP p)+1:=by simp only[Ou]
  have:=q6h p;lia)
 have e:Fw (.tuple (dP p)) (.tuple (dP q))=decide (p=q):=by simp only[Fw,q7f]
 rwa [e] at h
theorem z1h(l b:Addr)(j f:Array Value)(n X:Nat)(Y O:Option Addr)(Z P:Array (Option Value))(p q:Pth)(U:Iz j.toList (p.map mk))(W:Iz f.toList (q.map mk)):
  Meets (Dq.«tuple.__lt__» ⟨[.ref l,.ref b],[]⟩)
   (fun _ R s=>s.heap.get? l=some { cls:=.type "tuple",dict:=Y,data:=.seq j n,slots:=Z }/\s.heap.get? b=some { cls:=.type "tuple",dict:=O,data:=.seq f X,slots:=P } /\
    R (.ok (.ret (.bool (pLt p q)))) s) :=
 .of_wp fun prog w A R s h=>by
  obtain⟨L,g,d,tk,os⟩:=s;obtain⟨hl,hb,h⟩:=h;have f2:=AutoSeq1.sub_tuple_tuple;have z1:j.size=p.length:=by have:=q2r U;simpa using this
  have z2:f.size=q.length:=by have:=q2r W;simpa using this
  wp_walk using Nx hl,Nx hb,Im _ (fun rest c S=>c.1=none/\S=⟨L,g,d,tk,os⟩/\∃(vs M:List Value) (G D:Pth),rest=vs.zip M /\
   Iz vs (G.map mk)/\Iz M (D.map mk)/\G.length+f.size=D.length+j.size/\R (.ok (.ret (.bool (pLt G D)))) ⟨L,g,d,tk,os⟩) _
  case turn =>
   rintro⟨y,x⟩ rest c S ⟨J,rfl,vs,M,G,D,H,B,C,v,I⟩;cases G with
   |nil=>cases B;rw[Ux] at H;cases H
   |cons m G =>
    cases D with
    |nil=>cases C;rw[Ug] at H;cases H
    |cons m' D =>
     rw[Ax] at B C;cases B with
     |cons _ t hvi' =>
      cases C with
      |cons _ u hwi' =>
       rw[Lg] at H;injection H with hyx hrest;injection hyx with hy hx;subst hy hx;rw[q5b] at I;simp only[Cg] at v;refine Ab (Ot (mk m) t (mk m') u (A:=A.in1) (s:=⟨L,g,d,tk,os⟩) prog w _ _ ?_);by_cases e:m=m'
       ·subst e;rw[if_pos rfl] at I;rw[beq_self_eq_true]
        wp_walk
        exact⟨rfl,rfl,_,_,_,_,hrest,hvi',hwi',by lia,I⟩
       ·rw[if_neg e] at I;have e2:(mk m==mk m')=false:=beq_eq_false_iff_ne.mpr fun z=>e (mk_inj z);rw[e2];have T:∀(E:Value->Ag->Prop) (Q:Value->Ag->Prop),Q (.bool (decide (m<m'))) ⟨L,g,d,tk,os⟩->wpAny (model prog w) A.in1 (Rr .Lt (.str (mk m) t) (.str (mk m') u)) Q E ⟨L,g,d,tk,os⟩:=fun E Q hq =>
         (Tj (by
          have e3:(mk m).cps.toList=m:=q2m m;have e4:(mk m').cps.toList=m':=q2m m';rw[e3,e4];exact hq):wpAny (model prog w) A.in1 (Dg .Lt (.str (mk m) t) (.str (mk m') u)) Q E ⟨L,g,d,tk,os⟩)
        wp_walk using T
        exact⟨_,rfl,by simpa using I⟩
  case fin =>
   rintro⟨b1,b2⟩ S ⟨J,rfl,vs,M,G,D,H,B,C,v,I⟩;simp only at J;subst J;have hv:pLt G D=decide (j.size<f.size):=by
    cases G with
    |nil =>
     cases D with
     |nil=>exact(decide_eq_false (by simp only[Gw] at v;lia)).symm
     |cons m' D=>exact(decide_eq_true (by simp only[Gw,Cg] at v;lia)).symm
    |cons m G =>
     cases D with
     |nil=>exact(decide_eq_false (by simp only[Gw,Cg] at v;lia)).symm
     |cons m' D =>
      rw[Ax] at B C;cases B with
      |cons _ t _=>cases C with|cons _ u _=>rw[Lg] at H;cases H
   rw[hv] at I
   wp_walk
   exact⟨_,rfl,by simpa[Dq.Tuple.tupleCompareSizes] using I⟩
  case h =>
   exact⟨rfl,rfl,j.toList,f.toList,p,q,rfl,U,W,by lia,h⟩
theorem q9o{Q:Value->Ag->Prop}(J:PathAt s.heap x p)(L:PathAt s.heap y q)(M:A.units<cLine)(h:Q (.bool (pLt p q)) s):wpAny (model prog w) A (Dg .Lt x y) Q E s:=by
 obtain⟨l,f,rfl,hl,O⟩:=J;obtain⟨b,e,rfl,P,R⟩:=L;obtain⟨⟨S,T,D,U⟩,G,H,n,hd⟩:=id hl;obtain⟨⟨I,v,B,C⟩,g,j,W,u⟩:=id P;simp only at H hd j u;subst H hd j u;exact richCompare_meets_room (op:=.Lt) ⟨_,G,rfl⟩ ⟨_,g,rfl⟩ PySem.F.slot_tuple_lt PySem.F.entry_tuple_lt (PySem.F.args_tuple_lt_2 _ _) (z1h l b f e n W T v U C p q O R)
  ⟨G,g,show Value.bool (pLt p q)≠Value.notImplemented/\Q (.bool (pLt p q)) s from⟨(fun x=>nomatch x),h⟩⟩ M
theorem x3w{b:Bool}{m e:List Nat}{t u:Tok}{Q:Bool->Ag->Prop}(h:Q (decide (m<e)) s):wpAny (model prog w) A (oneLt' b (.str (mk m) t) (.str (mk e) u)) Q E s:=by
 have f:(mk m).cps.toList=m:=q2m m;have g:(mk e).cps.toList=e:=q2m e;cases b with
 |true=>exact oneLt_str (by rw[f,g];exact h)
 |false =>
  rw[oneLt'_eq];simp only[Bc,if_false];exact Ab ((Tj (by rw[f,g];exact Dn h):wpAny (model prog w) A (Dg .Lt (.str (mk m) t) (.str (mk e) u)) _ E s))
theorem x0l{Q:Bool->Ag->Prop}(e:PathAt s.heap x p)(f:PathAt s.heap y q)(g:A.units<cLine)(h:Q (pLt p q) s):wpAny (model prog w) A (oneLt' false x y) Q E s:=by
 rw[oneLt'_eq];simp only[Bc,if_false];exact Ab (q9o e f g (Dn h):wpAny (model prog w) A (Dg .Lt x y) _ E s)
theorem z7t{b:Bool}{Q:Bool->Ag->Prop}(R:PathAt s.heap x p)(S:PathAt s.heap y q)(h:Q (pLt p q) s):wpAny (model prog w) A (keyLt' (Uo b) x y) Q E s:=by
 obtain⟨l,g,rfl,⟨o,T,J,n,hd⟩,O⟩:=R;obtain⟨m,f,rfl,⟨X,L,U,Y,M⟩,P⟩:=S;refine Ab (m:=Fb (.ref l)) (Lh T hd (Ab (m:=Fb (.ref m)) (Lh L M ?_)));have Z:g.size=p.length:=by have:=q2r O;simpa using this
 have z2:f.size=q.length:=by have:=q2r P;simpa using this
 refine Ab (Im _ (fun rest c C=>c=(none,())/\C=s/\∃(vs I:List Value) (v j:Pth) (k:Nat),rest=(vs.zip I).zipIdx k/\Iz vs (v.map mk)/\Iz I (j.map mk) /\
   v.length+f.size=j.length+g.size/\Q (pLt v j) s) (fun c C=>match c.1 with|some r=>Q r C|none=>c.1=none/\Q (decide (g.size<f.size)) C) ?turn ?fin _ _ ?h0|>fun z=>Dj z ?post fun _ _ e=>e)
 case post =>
  rintro⟨c,⟨⟩⟩ C J;cases c with
  |none=>exact Ad J.2
  |some r=>exact Ad J
 case h0=>exact⟨rfl,rfl,g.toList,f.toList,p,q,0,rfl,O,P,by lia,h⟩
 case fin =>
  rintro c C ⟨rfl,rfl,vs,I,v,j,k,B,G,H,hl,D⟩;have e:pLt v j=decide (g.size<f.size):=by
   cases v with
   |nil =>
    cases j with
    |nil=>exact(decide_eq_false (by simp only[Gw] at hl;lia)).symm
    |cons m' j=>exact(decide_eq_true (by simp only[Gw,Cg] at hl;lia)).symm
   |cons m v =>
    cases j with
    |nil=>exact(decide_eq_false (by simp only[Gw,Cg] at hl;lia)).symm
    |cons m' j =>
     rw[Ax] at G H;cases G with
     |cons _ t _=>cases H with|cons _ u _=>rw[Lg,Vu] at B;cases B
  rw[e] at D;exact⟨rfl,D⟩
 case turn =>
  rintro⟨⟨y,x⟩,i⟩ rest c C ⟨rfl,rfl,vs,I,v,j,k,B,G,H,hl,D⟩;cases v with
  |nil=>cases G;rw[Ux] at B;cases B
  |cons m v =>
   cases j with
   |nil=>cases H;rw[Ug] at B;cases B
   |cons m' j =>
    rw[Ax] at G H;cases G with
    |cons _ t hv' =>
     cases H with
     |cons _ u hw' =>
      rw[Lg,Vu] at B;injection B with h1 h2;injection h1 with h1 h3;injection h1 with h4 h5;subst h4 h5 h3;rw[q5b] at D;simp only[Cg] at hl;refine Ab (Ot (mk m) t (mk m') u (A:=A) (s:=C) prog w _ _ ?_);by_cases e:m=m'
      ·subst e;rw[if_pos rfl] at D;rw[beq_self_eq_true];simp only[Ft,Bc,if_false];exact Ad ⟨rfl,rfl,_,_,_,_,_,h2,hv',hw',by lia,D⟩
      ·rw[if_neg e] at D;have W:(mk m==mk m')=false:=beq_eq_false_iff_ne.mpr fun z=>e (mk_inj z);rw[W];simp only[Ol,if_true];exact Ab (x3w (b:=b&&i==0) (Ad D))
noncomputable def PairAt(h:Heap)(v:Value)(p:Pth)(m:Value):Prop:=∃a k,v=.ref a/\IsTup h a #[k,m]/\PathAt h k p
theorem PairAt.keep{h h':Heap}{v m:Value}{p:Pth}(x:PairAt h v p m)(k:∀b o,h.get? b=some o->h'.get? b=some o):PairAt h' v p m:=let ⟨a,z,e,t,s⟩:=x;⟨a,z,e,IsTup.keep t fun o=>k a o,s.keep k⟩
theorem z7u{m j:Value}{Q:Bool->Ag->Prop}(D:PairAt s.heap x p m)(G:PairAt s.heap y q j)(u:p=q->x=y)(H:Low p)(I:Low q)(J:A.units+2<cLine)(h:Q (pLt p q) s):wpAny (model prog w) A (keyLt' (Uo false) x y) Q E s:=by
 obtain⟨l,k,rfl,hl,hk⟩:=D;obtain⟨L,C,rfl,f,g⟩:=G;obtain⟨o,M,T,n,hd⟩:=id hl;obtain⟨U,v,O,W,B⟩:=id f;refine Ab (m:=Fb (.ref l)) (Lh M hd (Ab (m:=Fb (.ref L)) (Lh v B ?_)));show wpAny (model prog w) A (forIn [((k,C),0),((m,j),1)] ((none,()):Option Bool×Unit) _ >>= _) Q E s;rw[Qy];refine Ab (Ab (Ab (z4c hk g H I J prog w _ _ ?_)));by_cases e:p=q
 ·have P:=u e;cases P;have R:=IsTup.inj hl f;have S:k=C/\m=j:=by
   have:=congrArg Array.toList R;simpa using this
  obtain⟨rfl,rfl⟩:=S;subst e;rw[decide_eq_true rfl];simp only[Ft,Bc,if_false];refine Ad ?_;dsimp only;rw[Qy];refine Ab (Ab (Wh m (A:=A) (s:=s) prog w _ _ ?_));simp only[Ft,Bc,if_false];refine Ad ?_;dsimp only;rw[List.forIn_nil];refine Ad (Ad ?_);rw[q1f] at h;simpa using h
 ·rw[decide_eq_false e];simp only[Ol,if_true,Bool.false_and];refine Ab (x0l hk g (by lia) (Ad ?_));exact Ad (Ad h)
theorem q7g{j e:Type}{f:j->Sem e}{g:j->e}:∀(l:List j) {Q:List e->Ag->Prop},(∀a∈l,∀(Q':e->Ag->Prop),Q' (g a) s->wpAny (model prog w) A (f a) Q' E s)->Q (l.map g) s->wpAny (model prog w) A (l.mapM f) Q E s
 |[],Q,_,h=>by rw[List.mapM_nil];exact Ad h
 |a::l,Q,hf,h=>by
  rw[List.mapM_cons];refine Ab (hf a As _ (Ab (q7g l (fun b q=>hf b (Am _ q)) (Ad h))))
theorem x0m{a:Addr}{f:Array Value}{Q:Option Value->Ag->Prop}(t:IsTup s.heap a f)(h:Q f[0]? s):wpAny (model prog w) A (firstOfTuple' (.ref a)) Q E s:=by
 obtain⟨o,g,j,n,hd⟩:=t;refine Ab (m:=typeOf (.ref a)) (Gk (T := "tuple") ⟨o,g,j⟩ ?_);have e:(Value.type "tuple" != Value.type "tuple")=false:=by decide
 rw[e];simp only[Bc,if_false];exact Ab (m:=Fb (.ref a)) (Lh g hd (Ad h))
theorem z7v{T:String}{vs:List Value}{fs:Value->Value}{Q:Ld->Ag->Prop}(q:vs≠[])(C:∀v∈vs,∃a f,v=.ref a/\IsTup s.heap a f/\f[0]?=some (fs v))(D:∀v∈vs,s.TypeIs (fs v) T)(h:Q (Uo (Value.type T != Value.type "tuple")) s):wpAny (model prog w) A (Vv vs.toArray) Q E s:=by
 rw[keyKind'_eq,Ly];refine Ab (Ab (q7g (g:=fun v=>some (fs v)) vs (fun v u G B=>?_) (Ad ?_)))
 ·obtain⟨a,f,rfl,t,e⟩:=C v u;exact x0m t (by rw[e];exact B)
 ·have j:((vs.map fun v=>some (fs v)).toArray.all fun x=>x.isSome)=true:=by simp
  rw[if_pos (by simpa using j)];refine Ab (Gm ?_);rw[oneTypeOnly'_eq];have e:Array.filterMap id (vs.map fun v=>some (fs v)).toArray=(vs.map fs).toArray:=by
   simp[Ua]
  rw[e,Ly];refine Ab (Ab (Ab (q7g (g:=fun _=>Value.type T) (vs.map fs) (fun x H G B=>?_) (Ad ?_))))
  ·obtain⟨v,u,rfl⟩:=Ac.mp H;exact Gk (D v u) B
  ·cases vs with
   |nil=>exact absurd rfl q
   |cons v vs =>
    have I:(((v::vs).map fs).map fun _=>Value.type T).toArray[0]?=some (Value.type T):=by simp
    have J:((((v::vs).map fs).map fun _=>Value.type T).toArray.all fun x=>x==Value.type T)=true:=by simp
    rw[I];dsimp only;rw[J];simp only[if_true];exact Ad (Ad (by simpa using h))
end
section
variable{prog:Ay}{w:World}{A:Around}{E:Value->Ag->Prop}{s:Ag}{kd:Ld}{S:Value->Prop}{r:Value->Int}{vs:List Value}
noncomputable def KeptBut(a:Addr)(h h':Heap):Prop:=∀b o,b≠a->h.get? b=some o->h'.get? b=some o
structure Sorted (r:Value->Int) (vs:List Value) (out:Array Value):Prop where
 perm:out.toList.Perm vs
 rise:out.toList.Pairwise fun x y=>r x<=r y
theorem x0n{xs:Array Keyed}(f:xs.Perm (pairsOf vs)):(∀p∈xs.toList,p.1=p.2)/\(xs.map (·.2)).toList.Perm vs:=by
 have hl:xs.toList.Perm (vs.zip vs):=by rw[<- pairsOf_toList];exact Pe.mp f
 refine⟨fun p e=>(mem_zip_self (hl.mem_iff.mp e)).1,?_⟩;rw[Qk];have:=hl.map (·.2)
 rwa [List.map_snd_zip (Au _)] at this
theorem z1i{st:Je}(g:(arrOf st).Perm (pairsOf vs))(u:Up r (arrOf st) (pairsOf vs).size):Sorted r vs ((arrOf st).map (·.2)):=by
 obtain⟨h,q⟩:=x0n g;refine⟨q,?_⟩;rw[List.pairwise_iff_getElem];intro i j s v f;have hi':i<(arrOf st).size:=by simp_all
 have hj':j<(arrOf st).size:=by simp_all
 have e:=u i j (Hj f) (by rw[<- g.size_eq];exact hj');have k:∀{n:Nat} (hn:n<(arrOf st).size),rk r (arrOf st) n=r (arrOf st)[n].2:=fun{n} hn=>by
  unfold rk;rw[getElem?_pos (arrOf st) n hn];show r (arrOf st)[n].1=_;rw[h (arrOf st)[n] (by simp)]
 rw[k hi',k hj'] at e;simpa using e
theorem z7w(q:s.heap.get? a=some (Io "list" vs.toArray n))(H:vs.length<64)(I:∀v∈vs,S v)(hk:2<=vs.length->∀f (E:Value->Ag->Prop) (Q:Ld->Ag->Prop),KeptBut a s.heap f.heap->Q kd f->wpAny (model prog w) A (Vv vs.toArray) Q E f)(T:∀f,KeptBut a s.heap f.heap->Tells prog w A f kd S r)(h:∀out,Sorted r vs out->P (.done (.ret .none)) { s with heap:=sortedHeap s.heap a vs out }):
  wpAny (model prog w) A (Dq.«list.sort» ⟨[.ref a],[]⟩) P E s:=by
 have J:=pairsOf_size vs;have L:vs.length<=sizeLine:=by rw[Dy];lia
 rw[list_sort_plain];refine Ab (Lh q rfl (Ab (Tg q rfl ?_)));have B:=get?_update_seq q (fun _=>#[]);refine Ab (Vf B rfl (Ab (Oj (Ab (wpAny_newList (Cn ?_))))));generalize u:(((s.heap.update a (Dp fun _=>#[])).push (Io "tuple" vs.toArray 0)).push (Io "list" #[] 0))=g;have C:KeptBut a s.heap g:=fun b o M e=>by
  rw[<- u];exact Ai _ (Ai _ ((Cm _ _ (Ei M)).trans e))
 have og:=Ai (Io "list" #[] 0) (Ai (Io "tuple" vs.toArray 0) B);rw[u] at og;have fin:∀out,Sorted r vs out->P (.done (.ret .none)) { s with heap:=g.update a (Dp fun _=>out) }:=fun out so=>by
  have:=h out so;unfold sortedHeap at this
  rwa [u] at this
 by_cases D:vs.length<2
 ·have h2':vs.toArray.size<2:=by simpa using D
  simp only[if_pos h2'];refine Ab (Ad ?_);refine Ab (Ad (Ab (Vf og rfl (Ab (Tg og rfl ?_ (hsz2:=by show((pairsOf vs).map _).size<=_;rw[Array.size_map];lia))))));simp only[bne_self_eq_false,Bc,if_false];exact Ad (fin _ (z1i (Wo _) fun i j a' W=>by rw[show i=j by lia];exact Rn _))
 ·have h2':¬vs.toArray.size<2:=by simpa using D
  simp only[if_neg h2'];refine Ab (hk (by lia) _ _ _ C ?_);refine Ab (Dj (x3u (a₀:=pairsOf vs) (Q:=fun _ t=>(arrOf t).Perm (pairsOf vs)/\Vr t=none/\Up r (arrOf t) (pairsOf vs).size) (T _ C) (fun p G=>I _ ?_)
   ⟨Wo _,rfl,rfl,rfl⟩ (by lia) (by lia) fun t O R U=>⟨O,R,U⟩) ?_ fun _ _ e=>e)
  ·rw[pairsOf_toList] at G;exact(mem_zip_self G).2
  ·rintro⟨⟨⟩,t⟩ f ⟨rfl,pm,fl,up⟩;refine Ab (Vf og rfl (Ab (Tg og rfl ?_ (hsz2:=by show((arrOf t).map _).size<=_;rw[Array.size_map,pm.size_eq];lia))));rw[fl];simp only[bne_self_eq_false,Bc,if_false];exact Ad (fin _ (z1i pm up))
end
section
variable{prog:Ay}{w:World}{A:Around}{E:Value->Ag->Prop}{s:Ag}
structure Ready (prog:Ay) (w:World) (A:Around) (vs:List Value) (h:Heap) (kd:Ld) (S:Value->Prop) (r:Value->Int):Prop where
 few:vs.length<64
 all:∀v∈vs,S v
 kind:2<=vs.length->∀A' s' (E:Value->Ag->Prop) (Q:Ld->Ag->Prop),A'.units<=A.units+9->(∀b o,h.get? b=some o->s'.heap.get? b=some o)->Q kd s'->wpAny (model prog w) A' (Vv vs.toArray) Q E s'
 tells:∀A' s',A'.units<=A.units+9->(∀b o,h.get? b=some o->s'.heap.get? b=some o)->Tells prog w A' s' kd S r
theorem sorted_ok
  (C:∀{Q':List Value->Ag->Prop},(∀vs h tk v S r,Ready prog w A vs h v S r ->
    (∀h' out,Sorted r vs out->(∀b o,h.get? b=some o->h'.get? b=some o)->(∃e,h'.get? h.objs.size=some (Io "list" out e))->Q (.ref h.objs.size) { s with heap:=h',toks:=tk })->Q' vs { s with heap:=h,toks:=tk }) ->
   wpAny (model prog w) A.in1 (collect x) Q' E s):wpAny (model prog w) A (call (.builtin "sorted") [x]) Q E s:=by
 refine Calls.call_function_entry kind_sorted plain_sorted entry_sorted (args_sorted1 _) ?_;refine Ab (Ad (Ab (C fun vs h tk v S r rd D=>?_)));have G:vs.length<=sizeLine:=by have:=rd.few;rw[Dy];lia
 refine Ab (wpAny_newList ?_);have j:(h.push (Io "list" vs.toArray 0)).get? h.objs.size=some (Io "list" vs.toArray 0):=Aw _ rfl;have B:∀{g:Heap},KeptBut h.objs.size (h.push (Io "list" vs.toArray 0)) g->∀b o,h.get? b=some o->g.get? b=some o:=fun f b o e=>f b o (Bj (Az e)) (Ai _ e);refine Ab (Cn (Bt slot_list_sort ⟨_,j,rfl⟩ entry_list_sort (z7w j rd.few rd.all (fun H u E Q f q=>rd.kind H _ u E Q (by show A.units+1+1<=_;lia) (B f) q) (fun u f=>rd.tells _ u (by show A.units+1+1<=_;lia) (B f)) fun out so=>⟨_,rfl,?_⟩) (args_list_sort _)));refine Ad ⟨_,rfl,D _ out so (fun b o e=>?_) (sortedHeap_at j)⟩;have:=sortedHeap_old (vs:=vs) (out:=out) (h:=h.push (Io "list" vs.toArray 0)) (Bj (Az e)) (by rw[size_push'];exact Jn (Az e));rw[this];exact Ai _ e
theorem perm_map_inv {α β : Type} {g : α → β} : ∀ {l m : List β}, l.Perm m → ∀ {zs : List α}, m = zs.map g → ∃ zs' : List α, zs'.Perm zs ∧ l = zs'.map g := by
  intro l m h;induction h with
  | nil => simp_all
  | cons x h ih => intro zs e; cases zs with
    | nil => cases e
    | cons z zs =>
      injection e with e1 e2;obtain ⟨zs', h1, h2⟩ := ih e2;exact ⟨z :: zs', h1.cons z, by rw [Ax, ← h2, e1]⟩
  | swap x y l => intro zs e; cases zs with
    | nil => cases e
    | cons z zs => cases zs with
      | nil => cases e
      | cons z2 zs =>
        injection e with e1 e2;injection e2 with e2 e3;exact ⟨z2 :: z :: zs, List.Perm.swap _ _ _, by rw [Ax, Ax, ← e1, ← e2, ← e3]⟩
  | trans h1 h2 ih1 ih2 => intro zs e
                           obtain ⟨zs', p1, e1⟩ := ih2 e;obtain ⟨zs2, p2, e2⟩ := ih1 e1;exact ⟨zs2, p2.trans p1, e2⟩
open Classical in
noncomputable def keyBy (K:Value->Pth->Prop) (v:Value):Pth:=if h:∃p,K v p then choose h else[]
theorem q2u{K:Value->Pth->Prop}(f:∀v p q,K v p->K v q->p=q){v:Value}{p:Pth}(h:K v p):keyBy K v=p:=by
 unfold keyBy;have e:∃p,K v p:=⟨p,h⟩
 rw[dif_pos e];exact f v _ _ (Classical.choose_spec e) h
theorem rise_paths{K:Value->Pth->Prop}(j:∀v p q,K v p->K v q->p=q){s:Type}{g:s->Value}{f:s->Pth}:∀{zs:List s},(∀z∈zs,K (g z) (f z)/\f z∈ps)->(zs.map g).Pairwise (fun x y=>(pRank ps (keyBy K x):Int)<=(pRank ps (keyBy K y):Int))->(zs.map f).Pairwise fun a b=>pLt b a=false
 |[],_,_=>.nil
 |z::zs,hz,h=>by
  rw[Ax] at h ⊢;obtain⟨u,B⟩:=Li.mp h;refine Li.mpr ⟨fun b C=>?_,rise_paths j (fun y e=>hz y (Am _ e)) B⟩;obtain⟨y,e,rfl⟩:=Ac.mp C;obtain⟨D,E⟩:=hz z As;obtain⟨G,H⟩:=hz y (Am _ e);have:=u (g y) (Ac.mpr ⟨y,e,rfl⟩);rw[q2u j D,q2u j G] at this;rw[q9n H E];exact decide_eq_false (by lia)
theorem ready_paths(few:vs.length<64)(I:∀v∈vs,∃p∈ps,p≠[]/\PathAt h v p):
  Ready prog w A vs h (Uo true) (fun v=>∃p∈ps,PathAt h v p) (fun v=>(pRank ps (keyBy (PathAt h) v):Int)) where
 few:=few
 all:=fun v g=>let ⟨p,a,_,b⟩:=I v g;⟨p,a,b⟩
 kind:=fun J P B E Q _ k q=>by
  have j:vs≠[]:=fun z=>by rw[z] at J;simp at J
  have ex:∀v∈vs,∃a f n p t,v=.ref a/\IsTup B.heap a f/\f[0]?=some (.str (mk n) t):=fun v g=>by
   obtain⟨p,_,j,x⟩:=I v g;obtain⟨a,f,rfl,s,st⟩:=x.keep k;cases p with
   |nil=>exact absurd rfl j
   |cons n p =>
    obtain⟨l⟩:=f;cases st with
    |cons _ t st'=>exact⟨a,_,n,p,t,rfl,s,rfl⟩
  refine z7v (fs:=fun v=>(match v with|.ref a=>(match B.heap.get? a with|some o=>(match o.data with|.seq f _=>f.getD 0 .none|_=>.none)|none=>.none)|_=>.none)) j (fun v g=>?_) (fun v g=>?_) (by rw[show(Value.type "str" != Value.type "tuple")=true from by decide];exact q)
  ·obtain⟨a,f,n,p,t,rfl,s,e⟩:=ex v g;refine⟨a,f,rfl,s,?_⟩;obtain⟨o,u,C,m,D⟩:=s;simp only[u,D];rw[e,Ov,e];rfl
  ·obtain⟨a,f,n,p,t,rfl,s,e⟩:=ex v g;obtain⟨o,u,C,m,D⟩:=s;simp only[u,D];rw[Ov,e];exact Su _ _ _
 tells:=fun P B _ k E x y Q ⟨p,G,L⟩ ⟨q,H,M⟩ R=>by
  refine z7t (L.keep k) (M.keep k) ?_;have O:∀v p q,PathAt h v p->PathAt h v q->p=q:=fun _ _ _ a b=>a.inj b;have u:=q2u O L;have C:=q2u O M;rw[q9n G H,<- u,<- C];exact R
theorem PairAt.inj(f:PairAt h v p m)(g:PairAt h v q m'):p=q:=by
 obtain⟨a,k,rfl,t,s⟩:=f;obtain⟨a',j,e,u,B⟩:=g;cases e;have e:=congrArg Array.toList (IsTup.inj t u);have C:k=j:=by grind
 subst C;exact s.inj B
theorem ready_pairs(few:vs.length<64)(C:∀v∈vs,∃p∈ps,∃m,Low p/\PairAt h v p m)(W:∀u∈vs,∀v∈vs,∀p m D,PairAt h u p m->PairAt h v p D->u=v)(hu:A.units+12<cLine):
  Ready prog w A vs h (Uo false) (fun v=>v∈vs) (fun v=>(pRank ps (keyBy (fun v p=>∃m,PairAt h v p m) v):Int)) where
 few:=few
 all:=fun v g=>g
 kind:=fun R X B E Q _ k q=>by
  have G:vs≠[]:=fun z=>by rw[z] at R;simp at R
  have ex:∀v∈vs,∃a b f m,v=.ref a/\IsTup B.heap a #[.ref b,m]/\IsTup B.heap b f:=fun v g=>by
   obtain⟨p,_,m,_,x⟩:=C v g;obtain⟨a,z,rfl,j,b,f,rfl,H,_⟩:=x.keep k;exact⟨a,b,f,m,rfl,j,H⟩
  refine z7v (fs:=fun v=>(match v with|.ref a=>(match B.heap.get? a with|some o=>(match o.data with|.seq f _=>f.getD 0 .none|_=>.none)|none=>.none)|_=>.none)) G (fun v g=>?_) (fun v g=>?_) (by rw[show(Value.type "tuple" != Value.type "tuple")=false from by decide];exact q)
  ·obtain⟨a,b,f,m,rfl,j,_⟩:=ex v g;refine⟨a,_,rfl,j,?_⟩;obtain⟨o,s,I,n,J⟩:=j;simp only[s,J];rfl
  ·obtain⟨a,b,f,m,rfl,j,H⟩:=ex v g;obtain⟨o,s,I,n,J⟩:=j;simp only[s,J];obtain⟨Y,Z,f2,_⟩:=H;exact⟨Y,Z,f2⟩
 tells:=fun X B hA k E x y Q S T h'=>by
  obtain⟨p,L,m,lp,M⟩:=C x S;obtain⟨q,O,D,lq,P⟩:=C y T;refine z7u (M.keep k) (P.keep k) (fun e=>by subst e;exact W x S y T _ _ _ M P) lp lq (by lia) ?_;have U:∀v p q,(∃m,PairAt h v p m)->(∃m,PairAt h v q m)->p=q:=fun v p q ⟨_,a⟩ ⟨_,b⟩=>PairAt.inj a b
  have s:=q2u U ⟨m,M⟩;have I:=q2u U ⟨D,P⟩;rw[q9n L O,<- s,<- I];exact h'
end
end SB
namespace PySem.Rv
open Sem (wp)
structure Runs (prog:Ay) (w:World) (A:Around) (S I:Addr) (n:Nat) (Fc:List Value->Heap->Prop) (It:Nat->Heap->Prop):Prop where
 keepF:∀acc h h',Fc acc h->(∀b o,b≠S->b≠I->h.get? b=some o->h'.get? b=some o)->Fc acc h'
 keepI:∀i h h',It i h->(∀b o,b≠S->h.get? b=some o->h'.get? b=some o)->It i h'
 item:∀acc (s:Ag) (Q:Option Value->Ag->Prop) (E:Value->Ag->Prop),acc.length<n->Fc acc s.heap->It acc.length s.heap ->
  (∀v h',Fc (acc++[v]) h'->It (acc.length+1) h'->(∀b o,b≠I->s.heap.get? b=some o->h'.get? b=some o)->Q (some v) { s with heap:=h' })->wpAny (model prog w) A.in1 (Hc (.ref I)) Q E s
 done:∀(s:Ag) (Q:Option Value->Ag->Prop) (E:Value->Ag->Prop),It n s.heap->(∀h',(∀b o,b≠I->s.heap.get? b=some o->h'.get? b=some o)->Q none { s with heap:=h' })->wpAny (model prog w) A.in1 (Hc (.ref I)) Q E s
section
variable{prog:Ay}{w:World}{A:Around}{E:Value->Ag->Prop}{S I:Addr}{n:Nat}{Fc:List Value->Heap->Prop}{It:Nat->Heap->Prop}
theorem grow(W:Runs prog w A S I n Fc It)(u:S≠I)(T:n<=sizeLine)(res:Value):∀(k:Nat) (acc:List Value) (s:Ag) (c:Nat),n-acc.length=k->acc.length<=n->Fc acc s.heap->It acc.length s.heap ->
  s.heap.get? S=some { cls:=.type "list",data:=.seq acc.toArray c } ->
  (∀g h' C,g.length=n->Fc g h'->(∀b o,b≠S->b≠I->s.heap.get? b=some o->h'.get? b=some o)->h'.get? S=some { cls:=.type "list",data:=.seq g.toArray C }->R (.ok (.ret res)) { s with heap:=h' }) ->
  Fu (model prog w) A (.builtin "list.extend.loop" ⟨[.ref S,.ref I,res],[]⟩) R s:=by
 intro k;induction k with
 |zero =>
  intro acc s c hk hl f i D E;refine Dv To ?_;rw[Cv Gh _];have e:acc.length=n:=by lia
  refine Ab (W.done s _ _ (by rw[<- e];exact i) fun h' kp=>Ad ?_);exact E acc h' c e (W.keepF _ _ _ f fun b o _ h q=>kp b o h q) (fun b o _ h q=>kp b o h q) (kp S _ u D)
 |succ k ih =>
  intro acc s c hk hl f i D E;refine Dv To ?_;rw[Cv Gh _];refine Ab (W.item acc s _ _ (by lia) f i fun v h' H J kp=>?_);have hS':=kp S _ u D;have j:∀b o,b≠S->h'.get? b=some o->(h'.update S (Dp (·.push v))).get? b=some o:=fun b o h q=>(Cm _ _ (Ei h)).trans q;have G:(h'.update S (Dp (·.push v))).get? S=some { cls:=.type "list",data:=.seq (acc++[v]).toArray (c+1) }:=by
   have:=Es hS' (fun x=>x.push v);rw[this];simp
  refine Ab (Gb hS' rfl (Ad ⟨Dw Gh _,ih (acc++[v]) _ (c+1) (by rw[Al,Cr];lia) (by rw[Al,Cr];lia)
   (W.keepF _ _ _ H fun b o h _ q=>j b o h q) (by rw[Al,Cr];exact W.keepI _ _ _ J j) G fun g L C M O P Q=>E g L C M O (fun b o h B q=>P b o h B (j b o h (kp b o B q))) Q⟩) (by rw[Be];lia) (by simp;lia))
theorem collect_runs(X:∀h,(∀b o,s.heap.get? b=some o->h.get? b=some o)->(⟨h,s.gens,s.drawn,s.toks,s.os⟩:Ag).TypeIs (.ref v) T)(hv:v<s.heap.objs.size)(h1:(Value.type T==Value.type "list")=false)(h2:(Value.type T==Value.type "tuple")=false)(H:∀(A:Around) (E:Value->Ag->Prop) (j:Ag) (Q:Bool->Ag->Prop),j.TypeIs (.ref v) T->Q false j->wpAny (model prog w) A (Dq.List.listLengthHint (.ref v)) Q E j)(I:∀(A:Around) (E:Value->Ag->Prop) (h:Heap) (Q:Value->Ag->Prop),(∀b o,s.heap.get? b=some o->h.get? b=some o)->Q (.ref h.objs.size) { s with heap:=h.push oI }->wpAny (model prog w) A (Kv (.ref v)) Q E { s with heap:=h })(a0:∀h:Heap,(h.push oI).get? h.objs.size=some oI)(W:Runs prog w A s.heap.objs.size (s.heap.objs.size+1) n Fc It)(hn:n<=sizeLine)(h0:∀h,(∀b o,s.heap.get? b=some o->h.get? b=some o)->h.get? (s.heap.objs.size+1)=some oI->Fc [] h/\It 0 h)(hQ:∀acc h,acc.length=n->Fc acc h->s.heap.objs.size<=h.objs.size->(∀b o,s.heap.get? b=some o->h.get? b=some o)->Q acc { s with heap:=h }):wpAny (model prog w) A (collect (.ref v)) Q E s:=by
 refine Ab (wpAny_runValue (Dv F.entry_proto_collect ?_));rw[Cv F.plain_proto_collect _];refine Ab (By (Ad ⟨Dw Uz _,Dv F.entry_list_iadd ?_⟩));rw[Cv Uz _];show wpAny _ A.in1 (Hn (.ref s.heap.objs.size) (.ref v) (.ref s.heap.objs.size)) _ _ { s with heap:=s.heap.push { cls:=.type "list",data:=.seq ([]:List Value).toArray } };generalize P:s.heap.push { cls:=.type "list",data:=.seq ([]:List Value).toArray }=g;have J:∀b o,s.heap.get? b=some o->g.get? b=some o:=fun b o q=>by rw[<- P];exact Ai _ q
 have gz:g.objs.size=s.heap.objs.size+1:=by rw[<- P];exact Fv _ _
 have gS:g.get? s.heap.objs.size=some { cls:=.type "list",data:=.seq ([]:List Value).toArray }:=by rw[<- P];exact Aw _ rfl
 refine Ab (Gk (X g J) ?_);have hs:Ip (.ref s.heap.objs.size) (.ref v)=false:=by simp[Ip,Fl hv]
 simp only[hs,h1,h2,Tf,Bc,if_false];refine Ab (I _ _ g _ J ?_);rw[gz];have M:∀b o,g.get? b=some o->(g.push oI).get? b=some o:=fun b o q=>Ai _ q;have u:=M _ _ gS;have put:∀(h:Heap) (c:Nat),(∀b o,b≠s.heap.objs.size->(g.push oI).get? b=some o->h.get? b=some o)->h.get? s.heap.objs.size=some { cls:=.type "list",data:=.seq ([]:List Value).toArray c }->h.get? (s.heap.objs.size+1)=some oI ->
   Fu (model prog w) A (.builtin "list.extend.loop" ⟨[.ref s.heap.objs.size,.ref (s.heap.objs.size+1),.ref s.heap.objs.size],[]⟩) (fun r j=>∃acc C,r=.ok (.ret (.ref s.heap.objs.size))/\j.heap.get? s.heap.objs.size=some { cls:=.type "list",data:=.seq acc C }/\Q acc.toList j) { s with heap:=h }:=by
  intro h c O S U;obtain⟨f,i⟩:=h0 h (fun b o q=>O b o (Bj (Az q)) (M b o (J b o q))) U;refine grow W (Bj (He _)) hn _ n [] _ c (by simp) (Bf _) f i S fun acc h' C e f' k' j=>⟨acc.toArray,C,rfl,j,?_⟩
  have:=hQ acc h' e f' (Hj (Az j)) fun b o q=>k' b o (Bj (Az q)) (Bj (Jn (Az q))) (O b o (Bj (Az q)) (M b o (J b o q)));simpa using this
 have Y:(g.push oI).get? (s.heap.objs.size+1)=some oI:=by grind
 refine Ab (Cn (H _ _ _ _ (X (g.push oI) fun b o q=>M b o (J b o q)) ?_));have D:∀(h:Heap) (c:Nat),(∀b o,b≠s.heap.objs.size->(g.push oI).get? b=some o->h.get? b=some o)->h.get? s.heap.objs.size=some { cls:=.type "list",data:=.seq ([]:List Value).toArray c }->h.get? (s.heap.objs.size+1)=some oI->∀{R:Result->Ag->Prop},
   (∀j acc C,j.heap.get? s.heap.objs.size=some { cls:=.type "list",data:=.seq acc C }->Q acc.toList j->R (.ok (.ret (.ref s.heap.objs.size))) j)->Fu (model prog w) A (.builtin "list.extend.loop" ⟨[.ref s.heap.objs.size,.ref (s.heap.objs.size+1),.ref s.heap.objs.size],[]⟩) R { s with heap:=h }:=by
  intro h c O S U R hR;refine Ii (put h c O S U) fun r j z=>?_;obtain⟨acc,C,rfl,e,q⟩:=z;exact hR j acc C e q
 refine wpAny_ite_split (fun _=>?_) (fun _=>?_)
 ·refine Ab (Gm (Ab ?_));show wpAny _ _ (Mx s.heap.objs.size (·.push .none) >>= fun _=>Mx s.heap.objs.size (·.pop)) _ _ _;refine Ab (Gb u rfl ?_);have B:=Es u (fun x=>x.push Value.none);refine Gb B rfl ?_;have G:=Es B (fun x=>x.pop);have L:∀b o,b≠s.heap.objs.size->(g.push oI).get? b=some o->(((g.push oI).update s.heap.objs.size (Dp fun x=>x.push Value.none)).update s.heap.objs.size (Dp fun x=>x.pop)).get? b=some o :=
   fun b o Z q=>(Cm _ _ (Ei Z)).trans ((Cm _ _ (Ei Z)).trans q)
  refine Ad ⟨Dw Gh _,D _ _ L G (L _ _ (Fl (He _)) Y) fun j acc C e q=>?_⟩;exact Ab (Wd e (Ad q))
 ·refine Ad ⟨Dw Gh _,D _ _ (fun b o _ q=>q) u Y fun j acc C e q=>?_⟩;exact Ab (Wd e (Ad q))
end
end PySem.Rv
namespace L2
open PySem PySem.Spec PyProof.Rows SB TX
noncomputable def kP(p:Pth):List Key:=p.map fun n=>Sum.inr (mk n)
noncomputable abbrev vP(p:Pth):List V:=p.map fun n=>V.str (mk n)
theorem q3a(p:Pth):(kP p).map kV=vP p:=by unfold kP;rw[An];rfl
noncomputable abbrev HRow:=Pth×V
noncomputable abbrev dR(rows:List HRow):HO:=.dT (rows.map fun r=>(kP r.1,r.2))
theorem z1j:∀{p:Pth} {us:List Value},Vals (vP p) us->Iz us (p.map mk)
 |[],_,.nil=>.nil
 |n::p,us,h=>by
  cases h with
  |cons r t =>
   obtain⟨k,rfl⟩:=r;exact .cons _ k (z1j t)
section
variable{X:Cx}{pins:List (Addr×Obj)}{σ:St}{H:Hp}{s:Ag}
theorem Inv.path(I:Inv X pins σ H s)(h:H b=some (.tup (vP p))):PathAt s.heap (.ref b) p:=by
 obtain⟨z,e,r,t⟩:=I.hok b _ h;exact⟨b,e.toArray,rfl,t,by simpa using z1j r⟩
theorem Inv.rows(I:Inv X pins σ H s){rows:List HRow}(hd:H d=some (dR rows)):(d==Eb)=false/\rows.length<=sizeLine/\∃f j u,s.heap.get? d=some f/\f.ExactDict/\f.data=.dict j u/\(rows.map (·.1)).Nodup /\
  ∃zs:List (Addr×Value×HRow),zs.map (·.2.2)=rows/\j.toList.map (fun e=>(e.key,e.val))=zs.map (fun z=>(Value.ref z.1,z.2.1))/\∀z∈zs,H z.1=some (.tup (vP z.2.2.1))/\RelV z.2.2.2 z.2.1:=by
 obtain⟨z,g,xs,G,f,j,u,J,v,B,L,C⟩:=(show ObjOk X.prog X.w H s.heap d (dR rows) from I.hok d _ hd)
 rw[Aa] at z;have go:∀(rows:List HRow) (xs:List (List Key×Addr×Value)),Cu (fun(p:List Key×V) (q:List Key×Addr×Value)=>p.1=q.1/\H q.2.1=some (.tup (p.1.map kV))/\RelV p.2 q.2.2) (rows.map fun r=>(kP r.1,r.2)) xs ->
   xs.map (·.1)=rows.map (fun r=>kP r.1)/\∃zs:List (Addr×Value×HRow),zs.map (·.2.2)=rows/\(xs.map (Sn (Jc (mixKind X.prog X.w)))).map (fun e=>(e.key,e.val))=zs.map (fun z=>(Value.ref z.1,z.2.1))/\∀z∈zs,H z.1=some (.tup (vP z.2.2.1))/\RelV z.2.2.2 z.2.1:=by
  intro rows;induction rows with
  |nil=>intro xs h;cases h;exact⟨rfl,[],rfl,rfl,fun _ h=>nomatch h⟩
  |cons r rows ih =>
   intro xs h;cases h with
   |cons hq t =>
    rename_i q ys;obtain⟨M,O,P⟩:=hq;obtain⟨Q,zs,R,S,T⟩:=ih ys t;refine⟨by rw[Ax,Ax,Q,<- M],(q.2.1,q.2.2,r)::zs,by rw[Ax,R],by rw[Ax,Ax,Ax,S];rfl,fun z D=>?_⟩;rcases Bb.mp D with rfl|D
    ·exact⟨by rw[<- q3a];exact O,P⟩
    ·exact T z D
 obtain⟨U,zs,W,Y,Z⟩:=go rows xs G;refine⟨g,z,f,j,u,J,v,B,?_,zs,W,by rw[L];exact Y,Z⟩;rw[U] at C;have e:rows.map (fun r=>kP r.1)=(rows.map (·.1)).map kP:=by simp_all
 rw[e] at C;exact(Jo.mp C).imp fun E z=>E (by rw[z])
end
noncomputable abbrev PTs(H:Hp):List Addr->List Pth->Prop:=Cu fun b p=>H b=some (.tup (vP p))
noncomputable def rSortD:List V->Hp->VK->Prop:=fun vs H Q=>∃d rows,vs=[.ref d]/\H d=some (dR rows)/\rows.length<64/\(∀r∈rows,r.1≠[]) /\
 ∀L bs ps,H L=none->ps.Perm (rows.map (·.1))->ps.Pairwise (fun a b=>pLt b a=false)->PTs H bs ps->Q (.ref L) (upd H L (.lst (bs.map V.ref)))
theorem q7h:∀(bs:List Addr),Vals (bs.map V.ref) (bs.map Value.ref)
 |[]=>.nil
 |b::bs=>.cons rfl (q7h bs)
theorem x2e{H:Hp}{e:Type}{f:e->Addr}{g:e->Pth}:∀{zs:List e},(∀z∈zs,H (f z)=some (.tup (vP (g z))))->PTs H (zs.map f) (zs.map g)
 |[],_=>.nil
 |z::zs,h=>.cons (h z As) (x2e fun y j=>h y (Am _ j))
theorem q3y(hr:Room k X.A):CallR X (.builtin "sorted") rSortD:=by
 intro a9 s σ H xs us Q I rv h;obtain⟨d,rows,rfl,hd,few,a1,q⟩:=h;obtain⟨u,rfl,ru⟩:=rv.one;cases ru;obtain⟨T,hz,ob,J,ep,U,Y,L,nd,M,z1,z2,z3⟩:=I.rows hd;have Z:J.size=rows.length:=by
  have:=congrArg List.length z2;rw[Aa,Aa,Ge] at this;rw[this,<- z1,Aa]
 have O:∀{i:Nat} (hi:i<J.size),∃z∈M,M[i]?=some z/\J[i].key=.ref z.1:=fun{i} hi=>by
  have e:=congrArg (fun l=>l[i]?) z2;simp only[Ak,Jq,Fh hi,Kp] at e;cases D:M[i]? with
  |none=>simp_all
  |some z =>
   rw[D] at e;injection e with e;injection e with e1 e2;exact⟨z,Ah D,rfl,e1⟩
 have P:=Az U;refine SB.sorted_ok fun{Q'} kk=>?_;refine PySem.Rv.collect_runs (n:=J.size) (Fc:=fun g _=>g=(M.take g.length).map fun z=>Value.ref z.1)
  (It:=fun i h=>h.IsKeyIter (s.heap.objs.size+1) d i J.size ep/\h.get? d=some ob) (fun h C=>⟨ob,C _ _ U,Y.1⟩) P (by decide) (by decide) (fun A E s' Q hT R=>W.kdl_hint_dict hT R)
  (fun A E h Q C R=>PySem.Rv.keys_iter T ⟨ob,C _ _ U,Y.1⟩ (C _ _ U) L R) (fun h=>Aw _ rfl) ⟨fun g h S f _=>f,fun i h S ⟨f1,f2⟩ kp=>⟨f1.at fun o e=>kp _ _ (Fl (He _)) e,kp _ _ (Bj P) f2⟩,?_,?_⟩ (by lia)
  (fun h C ki=>⟨rfl,⟨_,ki,rfl,rfl⟩,C _ _ U⟩) (fun g h el f a0 C=>?_)
 ·intro g s' Q E hl f ⟨i1,i2⟩ R;refine PySem.Rv.keys_item i1 i2 L hl fun S j1 sb=>?_;obtain⟨z,G,D,a2⟩:=O hl;rw[a2];refine R _ S ?_ ⟨j1,(sb.2 d (Bj (Jn P))).trans i2⟩ fun b o hb e=>(sb.2 b hb).trans e;rw[Al,Cr,Et,D,Ae,<- f];rfl
 ·intro s' Q E ⟨i1,i2⟩ R;exact PySem.Rv.keys_end hr.hd i1 i2 L (Au _) fun S eb=>R S fun b o hb e=>eb b o hb e
 ·have a3:M.length=J.size:=by rw[Z,<- z1,Aa]
  have ea:g=M.map fun z=>Value.ref z.1:=by grind
  have a4:∀v∈g,∃p∈rows.map (·.1),p≠[]/\PathAt h v p:=fun v hv=>by
   rw[ea] at hv;obtain⟨z,G,rfl⟩:=Ac.mp hv;have hm:z.2.2∈rows:=by grind
   exact⟨z.2.2.1,Ac.mpr ⟨_,hm,rfl⟩,a1 _ hm,(I.path (z3 z G).1).keep C⟩
  refine kk g h s.toks _ _ _ (SB.ready_paths (by lia) a4) fun S out so a5 ⟨e,he⟩=>?_;have pm:=so.perm;rw[ea] at pm;obtain⟨j,p1,p2⟩:=SB.perm_map_inv pm rfl;have B:=so.rise;rw[p2] at B;have a6:=SB.rise_paths (fun _ _ _ a b=>a.inj b) (fun z hz=>by
   have G:=p1.mem_iff.mp hz;have hm:z.2.2∈rows:=by grind
   exact⟨(I.path (z3 z G).1).keep C,Ac.mpr ⟨_,hm,rfl⟩⟩) B
  have keep:=fun b o z=>a5 b o (C b o z);have a7:=I.hok.fresh a0;have eo:out.toList=(j.map (·.1)).map Value.ref:=by rw[p2,An];rfl
  have a8:(j.map (·.1)).length=J.size:=by rw[Aa,p1.length_eq,a3]
  refine⟨.ref h.objs.size,upd H h.objs.size (.lst ((j.map (·.1)).map V.ref)),I.laid (t':=s.toks) keep a0 ⟨by rw[Aa,a8];lia,_,e,q7h _,?_⟩,rfl,?_⟩
  ·rw[he,<- eo]
  ·refine q _ (j.map (·.1)) (j.map fun z=>z.2.2.1) a7 ?_ a6 (x2e fun z hz=>(z3 z (p1.mem_iff.mp hz)).1);have:=p1.map fun z:Addr×Value×HRow=>z.2.2.1;have e3:M.map (fun z=>z.2.2.1)=rows.map (·.1):=by rw[<- z1,An];rfl
   rwa [e3] at this
noncomputable def vwO(v d:Addr):HO:=.ext fun h=>h.IsItemsView v d
noncomputable def rItems:V->List V->Hp->VK->Prop:=fun x vs H Q=>∃d rows,x=.ref d/\vs=[]/\H d=some (dR rows)/\∀v,H v=none->Q (.ref v) (upd H v (vwO v d))
theorem x0o:MtR X "dict.items" rItems:=by
 intro B s M H x vs v O Q I E G h;obtain⟨d,rows,rfl,rfl,hd,q⟩:=h;cases E;have j:=G.zero;subst j;obtain⟨f,P,C,R,S,D,g,J,_⟩:=I.rows hd;refine Bt F.slot_dict_items ⟨C,D,g.1⟩ F.entry_dict_items ?_ (F.args_dict_items_1 _);refine Ab ?_;unfold Tq;refine Ab (Hu ⟨C,D,g.1⟩ ?_);show wpAny _ _ (pure d) _ _ s;refine Ad ?_;unfold Jv;rw[if_neg (by rw[f];exact Bl)];refine Ab (Ad (Ab (By (Ad ⟨_,rfl,.ref s.heap.objs.size,_,I.laid (t':=s.toks) (fun b u e=>Ai _ e) (Au _) ?_,rfl,q _ I.fresh⟩))));exact⟨⟨_,Aw _ rfl,rfl,rfl⟩,⟨_,Aw _ rfl⟩,fun T U ⟨o,e,c,L⟩ k=>⟨o,k o e,c,L⟩⟩
noncomputable def PR(H:Hp)(a:Addr)(r:HRow):Prop:=∃b,H a=some (.tup [.ref b,r.2])/\H b=some (.tup (vP r.1))
noncomputable abbrev PRs(H:Hp):List Addr->List HRow->Prop:=Cu (PR H)
noncomputable def rSortV:List V->Hp->VK->Prop:=fun vs H Q=>∃v d rows,vs=[.ref v]/\H v=some (vwO v d)/\H d=some (dR rows)/\rows.length<64/\(∀r∈rows,Low r.1) /\
 ∀L as rs H',H L=none->rs.Perm rows->(rs.map (·.1)).Pairwise (fun a b=>pLt b a=false)->Same H H'->H' L=some (.lst (as.map V.ref))->PRs H' as rs->Q (.ref L) H'
theorem Inv.tracks{q:St}:∀{zs:List (Addr×List V)} {H:Hp},Inv X pins q H s->X.s₀.heap.objs.size<=n->(zs.map (·.1)).Nodup ->
  (∀z∈zs,n<=z.1/\FpOk X pins H z.1/\z.2.length<=sizeLine/\∃f,Vals z.2 f/\IsTup s.heap z.1 f.toArray)->∃H',Inv X pins q H' s/\Same H H'/\(∀z∈zs,H' z.1=some (.tup z.2))/\∀b,(∀z∈zs,z.1≠b)->H' b=H b:=by
 intro zs;induction zs with
 |nil=>intro H I _ _ _;exact⟨H,I,Same.refl H,(fun _ h=>nomatch h),fun _ _=>rfl⟩
 |cons z zs ih =>
  intro H I u nd v;obtain⟨D,B,E,f,G,L⟩:=v z As;rw[Ax,Bs] at nd;have M:=I.track (o:=.tup z.2) (Ce u D) B ⟨E,f,G,L⟩;obtain⟨H',J,sm,O,P⟩:=ih M u nd.2 (fun y g=>by
   obtain⟨Q,C,R,S⟩:=v y (Am _ g);exact⟨Q,⟨by rw[q0d (fun e=>nd.1 (by rw[<- e];exact Ac.mpr ⟨y,g,rfl⟩))];exact C.1,C.2⟩,R,S⟩)
  refine⟨H',J,((Same.refl H).new B.1).trans sm,fun y g=>?_,fun b j=>?_⟩
  ·rcases Bb.mp g with rfl|g
   ·exact sm _ _ q0b
   ·exact O y g
  ·rw[P b fun y g=>j y (Am _ g),q0d (Ei (j z As))]
theorem q7i{e f:Type}{F:e->f->Prop}{a:e}{b:f}(h:F a b):∀{l:List e} {m:List f},Cu F l m->Cu F (l++[a]) (m++[b])
 |_,_,.nil=>.cons h .nil
 |_,_,.cons r t=>.cons r (q7i h t)
theorem q0q{q u:Type}{f:q->u}:∀{l:List q},(l.map f).Nodup->∀{x y:q},x∈l->y∈l->f x=f y->x=y
 |[],_,_,_,h,_,_=>nomatch h
 |a::l,nd,x,y,hx,hy,e=>by
  rw[Ax,Bs] at nd;rcases Bb.mp hx with ex|j
  ·rcases Bb.mp hy with s|g
   ·rw[ex,s]
   ·exact absurd (by rw[<- ex,e];exact Ac.mpr ⟨y,g,rfl⟩) nd.1
  ·rcases Bb.mp hy with s|g
   ·exact absurd (by rw[<- s,<- e];exact Ac.mpr ⟨x,j,rfl⟩) nd.1
   ·exact q0q nd.2 j g e
noncomputable abbrev Zt:=Addr×Value×HRow
structure Made (h:Heap) (lo:Nat) (ws:List (Addr×Zt)):Prop where
 rise:(ws.map (·.1)).Pairwise fun a b:Nat=>a<b
 low:∀x∈ws,lo<=(show Nat from x.1)
 at_:∀x∈ws,IsTup h x.1 #[.ref x.2.1,x.2.2.1]
theorem Made.keep{lo:Nat}(m:Made h lo ws)(k:∀(a:Nat) o,lo<=a->h.get? a=some o->h'.get? a=some o):Made h' lo ws :=
 ⟨m.rise,m.low,fun x f=>SB.IsTup.keep (m.at_ x f) fun o e=>k _ o (m.low x f) e⟩
theorem z7x{H:Hp}{e:Type}{f:e->Addr}{g:e->HRow}:∀{zs:List e},(∀z∈zs,PR H (f z) (g z))->PRs H (zs.map f) (zs.map g)
 |[],_=>.nil
 |z::zs,h=>.cons (h z As) (z7x fun y j=>h y (Am _ j))
theorem z5j(hr:Room k X.A):CallR X (.builtin "sorted") rSortV:=by
 intro c1 s σ H xs us Q I rv h;obtain⟨v,d,rows,rfl,hv,hd,few,c2,q⟩:=h;obtain⟨u,rfl,ru⟩:=rv.one;cases ru;obtain⟨c3,hz,ob,L,ep,ho,c5,Z,nd,zs,z1,z2,z3⟩:=I.rows hd;obtain⟨vo,a0,vc,vd⟩:s.heap.IsItemsView v d:=(I.hok v _ hv).1;have c4:L.size=rows.length:=by
  have:=congrArg List.length z2;rw[Aa,Aa,Ge] at this;rw[this,<- z1,Aa]
 have a1:∀{i:Nat} (hi:i<L.size),∃z∈zs,zs[i]?=some z/\L[i].key=.ref z.1/\L[i].val=z.2.1:=fun{i} hi=>by
  have e:=congrArg (fun l=>l[i]?) z2;simp only[Ak,Jq,Fh hi,Kp] at e;cases M:zs[i]? with
  |none=>simp_all
  |some z =>
   rw[M] at e;injection e with e;injection e with T G;exact⟨z,Ah M,rfl,T,G⟩
 have a5:zs.length=L.size:=by grind
 have a6:=Az ho;have hu:=hr.un;refine SB.sorted_ok fun{Q'} kk=>?_;refine PySem.Rv.collect_runs (n:=L.size) (oI:=PySem.Rv.itemObj d 0 L.size ep .none (.bool false) .none .none) (Fc:=fun B h=>∃C,B=C.map (fun x=>Value.ref x.1)/\C.map (·.2)=zs.take B.length/\Made h (s.heap.objs.size+2) C)
  (It:=fun i h=>PySem.Rv.ItemIt h (s.heap.objs.size+1) d i L.size ep/\h.get? d=some ob) (fun h O=>⟨vo,O _ _ a0,vc⟩) (Az a0) (by decide) (by decide) (fun A E s' Q hT hq=>W.kdx_hint hT hq)
  (fun A E h Q O hq=>PySem.Rv.items_iter ⟨vo,O _ _ a0,vc,vd⟩ (O _ _ ho) Z hq) (fun h=>Aw _ rfl) ⟨?_,fun i h U ⟨f1,f2⟩ kp=>⟨f1.keep fun o e=>kp _ _ (Fl (He _)) e,kp _ _ (Bj a6) f2⟩,?_,?_⟩ (by lia)
  (fun h O ki=>⟨⟨[],rfl,rfl,.nil,(fun _ z=>nomatch z),(fun _ z=>nomatch z)⟩,⟨_,_,_,_,ki,.inl rfl⟩,O _ _ ho⟩) (fun B h el f P O=>?_)
 ·rintro B h U ⟨C,T,G,m⟩ kp;refine⟨C,T,G,m.keep fun a o ha e=>kp a o (fun z=>?_) (fun z=>?_) e⟩
  ·rw[z] at ha;exact absurd ha (by lia)
  ·grind
 ·rintro B s' Q E hl ⟨C,T,G,m⟩ ⟨i1,i2⟩ hq;refine PySem.Rv.items_item i1 i2 Z hl fun U j1 j2 j3 j4=>?_;obtain⟨z,c6,M,b2,b3⟩:=a1 hl;have lo:=i1.lt;have ni:∀{a:Nat},s.heap.objs.size+2<=a->a≠s.heap.objs.size+1:=fun h=>by lia
  refine hq _ U ⟨C++[(s'.heap.objs.size,z)],by rw[T,Ae];rfl,?_,?_⟩ ⟨j1,j4 d ob (Bj (Jn a6)) i2⟩ j4
  ·rw[Ae,G,Al,Cr,Et,M];rfl
  ·have m':=m.keep (h':=U) fun a o ha e=>j4 a o (ni ha) e;refine⟨?_,fun x g=>?_,fun x g=>?_⟩
   ·rw[Ae];refine List.pairwise_append.mpr ⟨m.rise,Qu _ _,fun a ha b hb=>?_⟩;obtain⟨x,g,rfl⟩:=Ac.mp ha;have hb':b=s'.heap.objs.size:=by simpa using hb
    rw[hb'];obtain⟨o,eo,_⟩:=m.at_ x g;exact Az eo
   ·rcases Ar.mp g with g|g
    ·exact m.low x g
    ·rw[Aj.mp g];exact lo
   ·rcases Ar.mp g with g|g
    ·exact m'.at_ x g
    ·rw[Aj.mp g];refine⟨_,j2,rfl,0,?_⟩;rw[b2,b3]
 ·rintro s' Q E ⟨i1,i2⟩ hq;exact PySem.Rv.items_end hr.hd i1 i2 Z (Au _) fun U eb=>hq U fun b o hb e=>eb b o hb e
 ·obtain⟨C,T,G,m⟩:=f;rw[el,<- a5,Ba] at G;have R:∀{x:Addr×Zt},x∈C->x.2∈zs:=fun{x} g=>by rw[<- G];exact Ac.mpr ⟨x,g,rfl⟩
  have a7:∀{x:Addr×Zt},x∈C->x.2.2.2∈rows:=fun{x} g=>by rw[<- z1];exact Ac.mpr ⟨_,R g,rfl⟩
  have a2:∀{x:Addr×Zt},x∈C->PairAt h (.ref x.1) x.2.2.2.1 x.2.2.1:=fun{x} g=>⟨x.1,.ref x.2.1,rfl,m.at_ x g,(I.path (z3 _ (R g)).1).keep O⟩
  have b4:(C.map fun x=>x.2.2.2.1).Nodup:=by grind
  have Y:∀{w:Value},w∈B->∃x∈C,w=.ref x.1:=fun{w} hw=>by
   rw[T] at hw;obtain⟨x,g,rfl⟩:=Ac.mp hw;exact⟨x,g,rfl⟩
  refine kk B h s.toks _ _ _ (SB.ready_pairs (ps:=rows.map (·.1)) (by lia) (fun w hw=>?_) (fun w hw y hy p mm c7 b5 b6=>?_) (by lia)) fun U out so a8 ⟨e,he⟩=>?_
  ·grind
  ·obtain⟨x,g,rfl⟩:=Y hw;obtain⟨x2,a9,rfl⟩:=Y hy;have q1:=SB.PairAt.inj b5 (a2 g);have q2:=SB.PairAt.inj b6 (a2 a9);rw[q0q b4 g a9 (q1.symm.trans q2)]
  ·have pm:=so.perm;rw[T] at pm;obtain⟨j,S,p2⟩:=SB.perm_map_inv pm rfl;have D:=so.rise;rw[p2] at D;have b7:=SB.rise_paths (fun w a b ⟨_,x⟩ ⟨_,y⟩=>SB.PairAt.inj x y) (fun x g=>by
    have b0:=S.mem_iff.mp g;exact⟨⟨_,a2 b0⟩,Ac.mpr ⟨_,a7 b0,rfl⟩⟩) D
   have keep:=fun b o z=>a8 b o (O b o z);have I1:=I.kept (t':=s.toks) keep;have a3:=fun{x} g=>Ce (Nat.le_add_right _ 2) (m.low x (S.mem_iff.mp g));have b8:(j.map (·.1)).Nodup:=by
    have:(C.map (·.1)).Nodup:=m.rise.imp fun h e=>by subst e;exact absurd h (Fq _)
    exact(S.map (·.1)).nodup_iff.mpr this
   obtain⟨H1,J,sm,ht,b9⟩:=I1.tracks (zs:=j.map fun x=>(x.1,[V.ref x.2.1,x.2.2.2.2])) I.sz (by rw[An];exact b8) (fun z hz=>by
    obtain⟨x,g,rfl⟩:=Ac.mp hz;refine⟨a3 g,I.fpOk (a3 g) (I.hok.fresh (a3 g)),by show 2<=sizeLine;decide,[.ref x.2.1,x.2.2.1],.cons rfl (.cons (z3 _ (R (S.mem_iff.mp g))).2 .nil),?_⟩;exact SB.IsTup.keep (m.at_ x (S.mem_iff.mp g)) fun o e=>a8 _ o e)
   have a4:H1 h.objs.size=none:=by
    rw[b9 _ fun z hz e=>?_]
    ·exact I.hok.fresh P
    ·obtain⟨x,g,rfl⟩:=Ac.mp hz;obtain⟨o,eo,_⟩:=m.at_ x (S.mem_iff.mp g);exact absurd (Az eo) (by rw[show x.1=h.objs.size from e];exact Fq _)
   have c0:(j.map (·.1)).length=L.size:=by rw[Aa,S.length_eq,<- a5,<- G,Aa]
   have eo:out.toList=(j.map (·.1)).map Value.ref:=by rw[p2,An];rfl
   have J2:=J.track (o:=.lst ((j.map (·.1)).map V.ref)) (Ce I.sz P) (I.fpOk P a4) ⟨by rw[Aa,c0];lia,_,e,q7h _,by rw[<- eo];exact he⟩;have b1:Same H (upd H1 h.objs.size (.lst ((j.map (·.1)).map V.ref))):=sm.trans ((Same.refl H1).new a4);refine⟨.ref h.objs.size,_,J2,rfl,q _ (j.map (·.1)) (j.map fun x=>x.2.2.2) _ (I.hok.fresh P) ?_ (by rw[An];exact b7) b1 q0b (z7x fun x g=>?_)⟩
   ·have e3:C.map (fun x=>x.2.2.2)=rows:=by rw[<- z1,<- G,An];rfl
    rw[<- e3];exact S.map _
   ·refine⟨x.2.1,?_,b1 _ _ (z3 _ (R (S.mem_iff.mp g))).1⟩;exact(Same.refl H1).new a4 _ _ (ht _ (Ac.mpr ⟨x,g,rfl⟩))
theorem d_set{u:St}(G:A.units+1<cLine)(I:Inv X pins u H s)(e:H a=some (.dT kvs))(B:H b=some (.tup (k.map kV)))(l:kvs.length<sizeLine)(J:RelV v r)(h:∀g,Inv X pins u (upd H a (.dT (putK kvs k v))) g->(∀b o,b≠a->s.heap.get? b=some o->g.heap.get? b=some o)->Q () g):wpAny (model X.prog X.w) A (dictSet a (.ref b) r) Q E s:=by
 obtain⟨z,hd,xs,f,L⟩:=x3m I.hok e;have W:xs.length<=sizeLine:=by rw[<- Ez f];exact z
 have hl:(putK kvs k v).length<=sizeLine:=by have:=q2c kvs k v;lia
 refine wpAny_dictSet_heap (show(Jc (mixKind X.prog X.w)).room A from Nat.lt_of_succ_lt G) (q4x I.hok B) L fun Y j hs=>h _ ?_ fun b o M e=>(hs.2 b M).trans e;obtain⟨q,O,P,C,R,S,T,_,U⟩:=j;refine q9k I (by rw[e];exact True.intro) hs ⟨q,C⟩ ⟨hl,hd,_,(f.put k B J).keeps fun c Z D=>?_,q,O,P,C,R,S,T,U⟩;rw[q0d (z6c D e (fun z=>nomatch z))];exact D
noncomputable def CompWD(J:It)(g:TG)(tt:TT)(tk tv:TE)(σ0:St)(D:Addr)(Fin:List (List Key×V)->Hp->Prop)(H1:Hp):Prop :=
 ∃W:Nat->Nat->List (List Key×V)->Hp->Prop,(∃m,W 0 m [] (upd H1 D (.dT [])))/\∀i m ys H,W i m ys H->H D=some (.dT ys) /\
  ((J.stop i H/\Fin ys H)\/(J.go i H/\∃N:List (List Key×V)->Hp->Prop,(∀zs H',N zs H'->∃m',m'<m/\W (i+1) m' zs H')/\∀x H',J.yld i H x H'->g x σ0 H' fun σ2 H2=>Keeps0 σ0 σ2/\tt σ2 H2 fun b H3 =>
   if b=true then tk σ2 H3 fun y H4=>tv σ2 H4 fun v H5=>∃k c,y=.ref c/\H5 c=some (.tup (k.map kV))/\H5 D=some (.dT ys)/\ys.length<sizeLine/\N (putK ys k v) (upd H5 D (.dT (putK ys k v)))
   else N ys H3))
theorem z1k{j:St}{Fin:Addr->List (List Key×V)->Hp->Prop}{RR:Value->Addr->Result->Ag->Prop}(hc:X.calm=true)(a1:scope.kind=.function)(b8:∀y∈scope.names,y.2≠.cell)(d3:∀x c,cl.lookup x=some c->X.env.cells.lookup x=some c)(d4:∀x,(x,Bo.free)∈scope.names->∃c,cl.lookup x=some c)(co:CapOk X scope caps)(hg:∀C s H,PG (cxComp X (tg++caps.map (·.1)) scope cl C fp s H) target g)(ht:∀C s H,PIfs (cxComp X (tg++caps.map (·.1)) scope cl C fp s H) ifs tt)(he:∀C s H,PE (cxComp X (tg++caps.map (·.1)) scope cl C fp s H) kx tk)(hv:∀C s H,PE (cxComp X (tg++caps.map (·.1)) scope cl C fp s H) vx tv)(hu:X.A.units+1<cLine)(I2:Inv X h j H1 s₂)(T:Turn X.prog X.w X.K target J fp it tn)(st:tn 0 s₂.heap)(hf:∀b∈fp,FpOk X h H1 b)(hw:∀D,H1 D=none->CompWD J g tt tk tv (tg0 tg j caps) D (Fin D) H1)(d5:∀D C ys H' O,H1 D=none->Inv X h j H' O->(∃m,O.heap.Ns C m)->FpOk X h H' C->Fin D ys H'->RR (.ref D) C (.ok .next) O):
  wpAny (model X.prog X.w) X.A newDict (fun acc I=>wpAny (model X.prog X.w) X.A (newFunctionEnv scope X.env.globals cl [] X.env.qual none .none (some X.env)) (fun a8 b9 =>
   Fu (model X.prog X.w) X.A (.compStart (.DictComp kx vx [⟨target,iter,ifs,0⟩] scope pos) 0 (.ref it) acc { a8 with scope:=relabel scope X.env }) (RR acc a8.locals) b9) E I) E s₂:=by
 have I3:Inv X h j (upd H1 s₂.heap.objs.size (.dT [])) { s₂ with heap:=s₂.heap.push { cls:=.type "dict",dict:=none,data:=.dict #[] },toks:=s₂.toks }:=I2.laid (fun _ _ q=>Ai _ q) (Au _) (q9l s₂.heap I2.big);have b1:=I2.fresh;refine By (Sw b8 (by intro y hy;simp at hy) (fun a2 B G=>?_) a1);dsimp only at B G ⊢;generalize b2:s₂.heap.objs.size=D at I3 b1 B G ⊢;generalize f2:({ s₂ with heap:=s₂.heap.push { cls:=.type "dict",dict:=none,data:=.dict #[] } }:Ag)=I at I3 B G ⊢;have e3:s₂.heap.push { cls:=.type "dict",dict:=none,data:=.dict #[] }=I.heap:=by grind
 have o3:({ s₂ with heap:=a2,toks:=s₂.toks+([]:List (Str×Value)).length }:Ag)={ I with heap:=a2,toks:=s₂.toks }:=by grind
 have b3:I.heap.objs.size=D+1:=by rw[<- e3,Fv,b2]
 rw[e3] at B G ⊢;have a9:∀b o,s₂.heap.get? b=some o->I.heap.get? b=some o:=fun b o e=>by rw[<- e3];exact Ai _ e
 generalize a6:I.heap.objs.size=C at B G ⊢;have hk:=fun b o e=>G.extBut b o (by rw[<- a6];exact Bj (Az e)) (Ai _ e);have c0:∀b∈fp,∃o,s₂.heap.get? b=some o:=fun b L=>by obtain⟨o,e,_⟩:=T.obj 0 _ st b L;exact⟨o,e⟩
 have c1:∀b∈fp,b≠D:=fun b L=>by obtain⟨o,e⟩:=c0 b L;rw[<- b2];exact Bj (Az e)
 have c2:∀b∈fp,FpOk X h (upd H1 D (.dT [])) b:=fun b L=>⟨by rw[q0d (c1 b L)];exact(hf b L).1,(hf b L).2⟩
 have IY:=Inv.ofcomp (tk:=s₂.toks) tg I3 a1 b8 d3 d4 c2 (fun b L=>let ⟨o,e⟩:=c0 b L;⟨o,a9 b o e⟩) (Kx a6) B hk co;have FC:FpOk X h H1 C:=by
  have z:=I3.fpOk (H':=H1) (Kx a6) (I2.hok.fresh (by rw[b2,<- a6,b3];exact Jh _));exact z
 generalize hY:cxComp X (tg++caps.map (·.1)) scope cl C fp I (upd H1 D (.dT []))=Y at IY;have d6:PG Y target g:=by grind
 have d7:PIfs Y ifs tt:=by grind
 have d8:PE Y kx tk:=by grind
 have d9:PE Y vx tv:=by grind
 have P:Y.prog=X.prog:=by rw[<- hY];rfl
 have R:Y.w=X.w:=by rw[<- hY];rfl
 have c3:Y.K=X.K:=by rw[<- hY];rfl
 have Z:Y.A=X.A:=by rw[<- hY];rfl
 have a0:Y.env=Gv scope cl C X.env:=by rw[<- hY];rfl
 have a7:Y.ex=fp:=by rw[<- hY];rfl
 have f3:Y.pn=[]:=by rw[<- hY];rfl
 have c4:Y.calm=true:=by rw[<- hY];exact hc
 have U:Y.xe=fun _ _=>False:=by rw[<- hY];rfl
 have b4:∀{H':Hp},(∀b∈fp,H' b=none)->∀b∈fp,FpOk Y [] H' b:=fun{H'} hn b L=>by
  refine⟨hn b L,?_,?_,.inl (by rw[a7];exact L),fun x c e=>?_,fun p hp=>?_⟩
  ·have:=(IY.ok.exf b (by rw[a7];exact L)).1;exact this
  ·exact IY.ok.exfs b (by rw[a7];exact L)
  ·exact(IY.ok.exf b (by rw[a7];exact L)).2 x c e
  ·grind
 obtain⟨W,⟨m0,w0⟩,c5⟩:=hw D b1;have c6:=T.keep 0 _ _ st fun b L o e=>hk b o (a9 b o e)
 have back:∀{H':Hp} {O:Ag} {a3:St},Inv Y [] a3 H' O->Inv X h j H' O:=fun{H' O a3} S=>by
  have c7:=S.base;have c8:=S.os;rw[<- hY] at c7 c8;exact I3.call' c8 c7 (by have z:=S.hok;rw[P,R] at z;exact z) S.bare fun b L=>⟨(hf b L).2.2.2.1,(hf b L).2.1,(hf b L).2.2.2.2.1,(hf b L).2.2.2.2.2⟩
 have gY:∀h s j H v u Q (M:Value->Ag->Prop),Inv Y h j H s->RelV v u->g v j H Q->wpAny (model X.prog X.w) X.A (assign target (Gv scope cl C X.env) u) (fun _ O=>∃a3 H',Inv Y h a3 H' O/\Q a3 H') M s:=fun h s j H v u Q M S r q=>by
  have z:=d6 h s j H v u Q S r q;rw[P,R,Z,a0,U] at z;exact Dj z (fun _ _ x=>x) fun _ _ f=>f.elim
 have tY:∀h s j H Q (M:Value->Ag->Prop),Inv Y h j H s->tt j H Q->wpAny (model X.prog X.w) X.A (forIn ifs true fun c r=>if r=true then do let ok<-isTrue c (Gv scope cl C X.env) (eval c (Gv scope cl C X.env));pure (ForInStep.yield ok) else pure (ForInStep.yield r)) (TP Y h j Q) M s:=fun h s j H Q M S q=>by
  have z:=d7 h s j H Q S q;rw[P,R,Z,a0,U] at z;exact Dj z (fun _ _ x=>x) fun _ _ f=>f.elim
 have eY:∀h s j H Q (M:Value->Ag->Prop),Inv Y h j H s->tk j H Q->wpAny (model X.prog X.w) X.A (eval kx (Gv scope cl C X.env)) (EP Y h j Q) M s:=fun h s j H Q M S q=>by
  have z:=d8 h s j H Q S q;rw[P,R,Z,a0,U] at z;exact Dj z (fun _ _ x=>x) fun _ _ f=>f.elim
 have vY:∀h s j H Q (M:Value->Ag->Prop),Inv Y h j H s->tv j H Q->wpAny (model X.prog X.w) X.A (eval vx (Gv scope cl C X.env)) (EP Y h j Q) M s:=fun h s j H Q M S q=>by
  have z:=d9 h s j H Q S q;rw[P,R,Z,a0,U] at z;exact Dj z (fun _ _ x=>x) fun _ _ f=>f.elim
 have e0:∀i h s j H (M:Value->Ag->Prop),Inv Y h j H s->(∀b∈fp,FpOk Y h H b)->tn i s.heap->J.go i H ->
   wpAny (model X.prog X.w) X.A (Hc (.ref it)) (fun r s1=>∃u,r=some u /\
    wpAny (model X.prog X.w) X.A (Ni target (.ref it) u) (fun _ s2=>∃x H',Inv Y h j H' s2/\RelV x u/\J.yld i H x H'/\tn (i+1) s2.heap/\∀b∈fp,H' b=none) M s1) M s:=fun i h s j H M S b5 st go=>by
  have z:=T.item Y P R c3 c4 i h s j H M S b5 st go;rw[Z] at z;exact z
 have e1:∀i h s j H (M:Value->Ag->Prop),Inv Y h j H s->(∀b∈fp,FpOk Y h H b)->tn i s.heap->J.stop i H ->
   wpAny (model X.prog X.w) X.A (Hc (.ref it)) (fun r s1=>r=none/\Inv Y h j H s1) M s:=fun i h s j H M S b5 st go=>by
  have z:=T.done Y P R c3 c4 i h s j H M S b5 st go;rw[Z] at z;exact z
 have b0:Fu (model X.prog X.w) X.A (.compLoop (.DictComp kx vx [⟨target,iter,ifs,0⟩] scope pos) 0 (.ref it) (.ref D) (Gv scope cl C X.env)) (RR (.ref D) C) { I with heap:=a2,toks:=s₂.toks }:=by
  refine codeAny_loop rfl (fun n O=>∃i ys H',Inv Y [] (tg0 tg j caps) H' O/\tn i O.heap/\(∀b∈fp,H' b=none)/\W i n ys H') ?_ m0 ⟨0,[],_,IY,c6,fun b L=>(c2 b L).1,w0⟩;rintro n s4 ⟨i,ys,H4,I4,c9,d0,w4⟩;refine wpAny_noted ?_;obtain⟨f4,e2⟩:=c5 i n ys H4 w4;rcases e2 with⟨stop,fin⟩|⟨go,N,hN,step⟩
  ·refine Ab (Hx (Ab (thn (e1 i [] s4 _ H4 _ I4 (b4 d0) c9 stop) fun r s5 ⟨hr,I5⟩=>?_)));subst hr;refine Ad (d5 D C ys H4 s5 b1 (back I5) ?_ ⟨?_,FC.2⟩ fin)
   ·obtain⟨m,hm,_⟩:=I5.loc;rw[a0] at hm;exact⟨m,hm⟩
   ·have z:=I5.free;rw[a0] at z;exact z
  ·refine Ab (Hx (Ab (thn (e0 i [] s4 _ H4 _ I4 (b4 d0) c9 go) fun r s5 ⟨u,hr,h5⟩=>?_)));subst hr;refine Ab (thn h5 fun _ s6 ⟨x,H6,I6,r6,y6,b6,e4⟩=>?_);have I6':=I6.pinned (b4 e4) (T.obj _ _ b6);refine Ab (thn (gY _ s6 _ H6 x u _ _ I6' r6 (step x H6 y6)) fun _ s7 ⟨a4,H7,I7,kp,q7⟩=>?_);refine Ab (thn (tY _ s7 a4 H7 _ _ I7 q7) fun b s8 ⟨H8,I8,q8⟩=>?_);have a5:∀{H9:Hp} {s9:Ag} {zs:List (List Key×V)} {m':Nat},Inv Y ([]++pinsAt fp s6.heap) a4 H9 s9->m'<n->W (i+1) m' zs H9->∃m,m<n/\∃i ys H',Inv Y [] (tg0 tg j caps) H' s9/\tn i s9.heap/\(∀b∈fp,H' b=none)/\W i m ys H':=fun{H9 s9 zs m'} I9 hm w9=>by
    refine⟨m',hm,i+1,zs,H9,I9.unpinned.weak kp.1 kp.2,T.keep _ _ _ b6 fun b L o e=>(I9.pin (b,o) (Bm _ (Bm _ (q2o L e)))).1,fun b L=>?_,w9⟩;obtain⟨o,e,d⟩:=T.obj _ _ b6 b L;exact(I9.pin (b,o) (Bm _ (Bm _ (q2o L e)))).2.1
   cases b with
   |true =>
    refine Ab (Ab (thn (eY _ s8 a4 H8 _ _ I8 q8) fun kv s9 ⟨yy,H9,I9,r9,q9⟩=>?_));refine Ab (Cn (thn (vY _ s9 a4 H9 _ _ I9 q9) fun vv f5 ⟨v,e5,e6,e7,kk,bb,ey,e8,d1,d2,e9⟩=>?_));subst ey;cases r9;obtain⟨m',b7,f0⟩:=hN _ _ e9;refine Ab (Hx (Cn ?_));have z:=d_set (E:=notedBy (model X.prog X.w) X.A (Gv scope cl C X.env) fun e O=>RR (.ref D) C (.error e) O) (Q:=fun _ O=>Inv Y ([]++pinsAt fp s6.heap) a4 (upd e5 D (.dT (putK ys kk v))) O) hu e6 d1 e8 d2 e7 fun O I' _=>I';rw[P,R] at z;exact thn z fun _ f6 f1=>Ad ⟨rfl,a5 f1 b7 f0⟩
   |false =>
    obtain⟨m',b7,w8⟩:=hN _ _ q8;exact Ad ⟨rfl,a5 I8 b7 w8⟩
 rw[o3];exact codeAny_compStart_dict b0 (T.self _ 0 _ _ _ c6 b0)
noncomputable def tCompD(wi:TI)(g:TG)(tt:TT)(tk tv:TE)(tg:List Str)(caps:Caps):TE:=fun σ H Q=>wi σ H fun J H1=>∀D,H1 D=none->CompWD J g tt tk tv (tg0 tg σ caps) D (fun _ H'=>Q (.ref D) H') H1
section
variable{X:Cx}{iter target kx vx:Expr}{ifs:List Expr}{scope:Scope}{pos:Pos}{wi:TI}{g:TG}{tt:TT}{tk tv:TE}
theorem x0p(E:List Str)(f:Caps)(U:X.calm=true)(W:PI X target iter wi)(Y:∀cl C fp s H,PG (cxComp X (E++f.map (·.1)) scope cl C fp s H) target g)(Z:∀cl C fp s H,PIfs (cxComp X (E++f.map (·.1)) scope cl C fp s H) ifs tt)(he:∀cl C fp s H,PE (cxComp X (E++f.map (·.1)) scope cl C fp s H) kx tk)(hv:∀cl C fp s H,PE (cxComp X (E++f.map (·.1)) scope cl C fp s H) vx tv)(hu:X.A.units+1<cLine)(hk:compChk X.N X.env.scope scope f=true:=by rfl)(hs:∀x,Jm iter X.env x=pure x:=by intro _;rfl):
  PE X (.DictComp kx vx [⟨target,iter,ifs,0⟩] scope pos) (tCompD wi g tt tk tv E f):=by
 intro G s σ H Q I h;obtain⟨j,L,q,u,co⟩:=q3w hk;obtain⟨cl,B,M,O⟩:=q9e I u;refine Ik rfl hs B j q (thn (W G s σ H _ I h) fun v s1 h1=>thn h1 fun a0 s2 h2=>?_);obtain⟨it,fp,tn,J,H2,e,I2,T,P,f2,hw⟩:=h2;subst e;refine z1k U j L M O co (fun C s H=>Y cl C fp s H) (fun C s H=>Z cl C fp s H) (fun C s H=>he cl C fp s H) (fun C s H=>hv cl C fp s H) hu I2 T P f2 hw ?_;intro D C ys H' s' hD I' R F fin;obtain⟨m,R⟩:=R;refine⟨m,R,fun h' S=>⟨.ref D,H',I'.turned (t':=s'.toks) (fun b o hb e=>(S.2 b hb).trans e) F.1 F.2.1 F.2.2.2.1 F.2.2.2.2.1 F.2.2.2.2.2,rfl,fin⟩⟩
noncomputable def tSetDC(wi:TI)(g:TG)(tt:TT)(tk tv:TE)(tg:List Str)(caps:Caps)(i:Nat):TS:=fun D' σ H=>wi σ H fun J H1=>∀D,H1 D=none->CompWD J g tt tk tv (tg0 tg σ caps) D (fun _ H'=>D'.nx (σ.set i (some (.ref D))) H') H1
theorem x0q{i:Nat}{y:Str}{M u:Pos}(L:List Str)(f:Caps)(hN:X.N.Nodup)(O:X.N[i]?=some y)(hx:Loc X.env.scope y)(hc:X.calm=true)(hi:PI X target iter wi)(hg:∀cl C fp s H,PG (cxComp X (L++f.map (·.1)) scope cl C fp s H) target g)(ht:∀cl C fp s H,PIfs (cxComp X (L++f.map (·.1)) scope cl C fp s H) ifs tt)(he:∀cl C fp s H,PE (cxComp X (L++f.map (·.1)) scope cl C fp s H) kx tk)(hv:∀cl C fp s H,PE (cxComp X (L++f.map (·.1)) scope cl C fp s H) vx tv)(hu:X.A.units+1<cLine)(hk:compChk X.N X.env.scope scope f=true:=by rfl)(hs:∀x,Jm iter X.env x=pure x:=by intro _;rfl)(P:Ku (.DictComp kx vx [⟨target,iter,ifs,0⟩] scope pos) (some (.Name y M)) u.line X.env=pure true:=by rfl)(hf:X.fn y=true\/X.env.scope.names.lookup y=some .local:=by trivial):
  PS X (.Assign [.Name y M] (.DictComp kx vx [⟨target,iter,ifs,0⟩] scope pos) u) (tSetDC wi g tt tk tv L f i):=by
 intro B s σ H D' I h;obtain⟨j,Q,q,E,co⟩:=q3w hk;obtain⟨cl,G,R,S⟩:=q9e I E;rw[Sb _ _ _ _ P];refine Ab (Hx (Ab ?_));refine Ab (Dj (Ik (use:=some (assign (.Name y M) X.env)) rfl hs G j q
  (thn (hi B s σ H _ I h) fun v s1 h1=>thn h1 fun a5 s2 h2=>?_)) (fun _ U hq=>Ad (Ad hq)) fun _ _ e=>e)
 obtain⟨it,fp,tn,J,H2,e,I2,T,W,f2,hw⟩:=h2;subst e;refine z1k (RR:=fun Y C=>compPost (model X.prog X.w) X.A X.xe (some (assign (.Name y M) X.env)) (fun _ U=>SP X B D' .next U) Y C) (Fin:=fun D _ Z=>D'.nx (σ.set i (some (.ref D))) Z) hc j Q R S co (fun C s H=>hg cl C fp s H) (fun C s H=>ht cl C fp s H) (fun C s H=>he cl C fp s H) (fun C s H=>hv cl C fp s H) hu I2 T W f2 hw ?_;intro D C ys Z U hD I' hm F fin;obtain⟨m,hm⟩:=hm;refine Ph (q6o (v:=.ref D) I' hN O hx rfl (fun a0 a1 a2=>?_) hf);obtain⟨a,sb,ha⟩:=a2;have a3:C≠a:=by
  rcases ha with ha|ha
  ·rw[ha];exact F.2.1
  ·exact fun z=>F.2.2.2.2.1 y a ha z.symm
 refine⟨m,hm.sameBut sb a3,fun h' a4=>?_⟩;exact⟨_,Z,a1.turned (t':=a0.toks) (fun b o hb e=>(a4.2 b hb).trans e) F.1 F.2.1 F.2.2.2.1 F.2.2.2.2.1 F.2.2.2.2.2,fin⟩
end
theorem x0r{Fin:List (List Key×V)->Hp->Prop}(f:Nat->List (List Key×V)->Hp->Prop)(h0:f 0 [] (upd H1 D (.dT [])))(hl:∀i ys H,f i ys H->H D=some (.dT ys))(u:∀i ys H,i<n->f i ys H->J.go i H)(j:∀ys H,f n ys H->J.stop n H)(hs:∀i ys H x H',i<n->f i ys H->J.yld i H x H'->g x σ0 H' fun h E=>Keeps0 σ0 h/\tt h E fun b C =>
   if b=true then tk h C fun y G=>tv h G fun v B=>∃k c,y=.ref c/\B c=some (.tup (k.map kV))/\B D=some (.dT ys)/\ys.length<sizeLine/\f (i+1) (putK ys k v) (upd B D (.dT (putK ys k v))) else f (i+1) ys C)(hd:∀ys H,f n ys H->Fin ys H):CompWD J g tt tk tv σ0 D Fin H1:=by
 refine⟨fun i m ys H=>m=n-i/\i<=n/\f i ys H,⟨n,by simp,Bf _,h0⟩,?_⟩;rintro i m ys H ⟨rfl,I,p⟩;refine⟨hl i ys H p,?_⟩;by_cases s:i<n
 ·exact .inr ⟨u i ys H s p,f (i+1),fun L H' q=>⟨n-(i+1),by lia,rfl,s,q⟩,fun x H' y=>hs i ys H x H' s p y⟩
 ·have e:i=n:=by lia
  subst e;exact .inl ⟨j ys H p,hd ys H p⟩
theorem q8h{K:Aq}{Fin:List (List Key×V)->Hp->Prop}(j:Nat->List (List Key×V)->Hp->Prop)(h0:j 0 [] (upd H1 D (.dT [])))(hl:∀i ys H,j i ys H->H D=some (.dT ys)/\SqL K H a xs)(hs:∀i ys H x,xs[i]?=some x->j i ys H->g x σ0 H fun f u=>Keeps0 σ0 f/\tt f u fun b s =>
   if b=true then tk f s fun y B=>tv f B fun v q=>∃k c,y=.ref c/\q c=some (.tup (k.map kV))/\q D=some (.dT ys)/\ys.length<sizeLine/\j (i+1) (putK ys k v) (upd q D (.dT (putK ys k v))) else j (i+1) ys s)(hd:∀ys H,j xs.length ys H->Fin ys H):CompWD (Itl K a) g tt tk tv σ0 D Fin H1 :=
 x0r j h0 (fun i ys H p=>(hl i ys H p).1) (fun i ys H h p=>⟨xs,xs[i],(hl i ys H p).2,by simp[h]⟩) (fun ys H p=>⟨xs,(hl _ ys H p).2,Au _⟩)
  (fun i ys H x C h p y=>by obtain⟨e,y⟩:=y;subst e;exact hs i ys _ x (y xs (hl i ys _ p).2) p) hd
end L2
namespace PySem.Rv
open Sem (wp)
section
variable{prog:Ay}{w:World}{A:Around}{E:Value->Ag->Prop}{s:Ag}
theorem q7r:Ss (.type "list") "keys" = pure none:=by rw[Kr,Ht];kernel_rfl
theorem no_keys(q:s.heap.get? a=some { cls:=.type "list",dict:=none,data:=.seq xs k,slots:=#[] })(v:A.handled=none)(h:∀h' tk,(∀b o,s.heap.get? b=some o->h'.get? b=some o)->Q none { s with heap:=h',toks:=tk }):wpAny (model prog w) A (getAttr? (.ref a) "keys") Q E s:=by
 obtain⟨B,g,d,tk,os⟩:=s;have u:∀f,(⟨B,g,d,f,os⟩:Ag).TypeIs (.ref a) "list" := fun _=>⟨_,q,rfl⟩
 have C:=sub_AttributeError;have D:=Lj.lookup;have G:=Lj.bind (.ref a);have H:=am_list_getattr_none;repeat (any_goals (first|assumption|exact u _|((with_reducible show wpAny _ _ (call (Value.builtin "list.__getattribute__") _ _) _ _ _);refine Kb Lj (u _) am_entry_list_getattribute (F.args_list_getattribute_2 _ _) (meets_getattribute_miss_list a xs k #[] "keys" _ q7r (by trivial) (by trivial)) ⟨q,v,fun h' f e j=>?_⟩)|wp_step))
 obtain⟨I,J,L⟩:=j.there;show wpAny _ _ (getattributeRaised _ _ _ _ _ _ _) _ _ _;repeat (any_goals (first|assumption|wp_step))
 exact h _ _ j.keeps
end
theorem plain_upd:plainId "dict.update.loop" = true:=by trivial
theorem entry_upd:Sx table "dict.update.loop" = some Dq.«dict.update.loop» := entryFor_of_fast (by kernel_rfl)
end PySem.Rv
namespace L2
open PySem PySem.Spec PyProof.Rows SB TX
noncomputable def putR(acc:List (List Key×V))(r:HRow):List (List Key×V):=putK acc (kP r.1) r.2
theorem z4d:∀(rows:List HRow) (acc:List (List Key×V)),(rows.foldl putR acc).length<=acc.length+rows.length
 |[],acc=>Au _
 |r::rows,acc=>by
  have e:=z4d rows (putR acc r);have f:=q2c acc (kP r.1) r.2;rw[Wj,Cg];unfold putR at e ⊢;lia
section
variable{X:Cx}{pins:List (Addr×Obj)}{σ:St}
theorem q5l(I:Inv X pins σ H s)(h:H L=some (.lst xs)):∃f,Vals xs f/\s.heap.IsList L f.toArray:=by
 obtain⟨z,f,n,r,e⟩:=I.hok L _ h;exact⟨f,r,_,e,rfl,n,rfl⟩
theorem z7y(hh:A.handled=none)(hu:A.units+3<cLine)(few:rows.length<sizeLine):∀(k i:Nat) (H:Hp) (s:Ag),rows.length-i=k->i<=rows.length->Inv X pins σ H s->H L=some (.lst (as.map V.ref))->PRs H as rows ->
  H D=some (.dT ((rows.take i).foldl putR []))->s.heap.IsListIter it L i->FpOk X pins H it->(∀H' S,Inv X pins σ H' S->H' D=some (.dT (rows.foldl putR []))->(∀b,b≠D->H' b=H b)->R (.ok (.ret .none)) S) ->
  Fu (model X.prog X.w) A (.builtin "dict.update.loop" ⟨[.ref D,.ref it,Ek i,.none],[]⟩) R s:=by
 intro k;induction k with
 |zero =>
  intro i H s hk hi I v B h j f W;have ei:i=rows.length:=by lia
  subst ei;rw[Ba] at h;obtain⟨E,Y,hl⟩:=q5l I v;have G:E.length=rows.length:=by rw[<- Y.length,Aa];exact Ez B
  refine Dv PySem.Rv.entry_upd ?_;rw[Cv PySem.Rv.plain_upd _];refine Ab (Rz hh j hl (by simp[G]) fun h' eb=>?_);exact Ab (Ad (Ad (W H _ (I.turned (t':=s.toks) (fun b o C e=>eb b o C e) f.1 f.2.1 f.2.2.2.1 f.2.2.2.2.1 f.2.2.2.2.2) h fun _ _=>rfl)))
 |succ k ih =>
  intro i H s hk hi I v B h j f W;obtain⟨E,Y,hl⟩:=q5l I v;have q:i<rows.length:=by lia
  obtain⟨a,ha⟩:∃a,as[i]?=some a:=⟨as[i]'(by rw[Ez B];exact q),by simp[Ez B,q]⟩
  obtain⟨r,hr,b,Z,a0⟩:=Cu.at' B ha;obtain⟨u,a1,a2⟩:=Y.get (by rw[Ak,ha];rfl);cases a2;refine Dv PySem.Rv.entry_upd ?_;rw[Cv PySem.Rv.plain_upd _];refine Ab (Rg j hl (by simpa using a1) fun h' M sb=>?_);have I1:Inv X pins σ H { s with heap:=h' }:=I.turned (t':=s.toks) (fun b o C e=>(sb.2 b C).trans e) f.1 f.2.1 f.2.2.2.1 f.2.2.2.2.1 f.2.2.2.2.2;obtain⟨z,a6,pr,o,po,pc,pn,pd⟩:=I1.hok a _ Z;obtain⟨u1,u2,a3,r1,r2⟩:=pr.two;subst a3;cases r1;refine Ab (Cn ?_);refine Ab (Lo ?_);refine Ab (Gk ⟨o,po,pc⟩ ?_);refine Ab (Ds po pd (Ad ?_));have O:((rows.take i).foldl putR []).length<sizeLine:=by
   have U:=z4d (rows.take i) [];rw[Bp] at U;have h2:([]:List (List Key×V)).length=0:=rfl;lia
  refine Cn (d_set (by show A.units+1+1<cLine;lia) I1 h (by rw[q3a];exact a0) O r2 fun S I' kp=>?_);refine Ad ⟨Dw PySem.Rv.plain_upd _,?_⟩;have a4:L≠D:=fun z=>by rw[z,h] at v;cases v
  have g:it≠D:=fun z=>by have y:=f.1;rw[z,h] at y;cases y
  have P:∀{T:Addr} {xs:List V},H T=some (.tup xs)->T≠D:=fun{T xs} e z=>by rw[z,h] at e;cases e
  have et:(rows.take (i+1)).foldl putR []=putK ((rows.take i).foldl putR []) (kP r.1) r.2:=by
   rw[Et,hr];rw[Po];rfl
  have Q:=M.at fun o e=>kp _ _ g e;refine ih (i+1) _ S (by lia) q I' (by rw[q0d a4];exact v) (Cu.imp' (fun a r ⟨b,U,h2⟩=>⟨b,by rw[q0d (P U)];exact U,by rw[q0d (P h2)];exact h2⟩) B) (by rw[q0b,et]) Q ⟨by rw[q0d g];exact f.1,f.2⟩ fun H' a5 J j1 j2=>?_;exact W H' a5 J j1 fun b C=>by rw[j2 b C,q0d C]
end
noncomputable def rDictL:List V->Hp->VK->Prop:=fun vs H Q=>∃L as rows,vs=[.ref L]/\H L=some (.lst (as.map V.ref))/\PRs H as rows/\rows.length<1000/\∀D,H D=none->Q (.ref D) (upd H D (.dT (rows.foldl putR [])))
theorem z5k(P:Room k X.A):CallR X (.type "dict") rDictL:=by
 intro f s R H xs us Q I Y h;obtain⟨L,as,rows,rfl,S,Z,few,q⟩:=h;obtain⟨u,rfl,ru⟩:=Y.one;cases ru;have hu:=P.un;have T:=P.hd;refine callType_codes (Q₁:=fun obj g=>obj=.ref s.heap.objs.size/\g={ s with heap:=s.heap.push { cls:=.type "dict",data:=.dict #[] } }) F.kt_called_dict (F.kt_typeCall_dict_1 _) F.entry_dict_init (kt_code_dict_new _ ⟨rfl,rfl⟩) fun obj g B=>?_;obtain⟨rfl,rfl⟩:=B;have j:=I.fresh;have U:Inv X f R (upd H s.heap.objs.size (.dT [])) { s with heap:=s.heap.push { cls:=.type "dict",data:=.dict #[] } }:=I.laid (t':=s.toks) (fun _ _ e=>Ai _ e) (Au _) (q9l s.heap I.big);have v:(s.heap.push { cls:=.type "dict",data:=.dict #[] }).get? s.heap.objs.size=some { cls:=.type "dict",data:=.dict #[] }:=Aw _ rfl;have G:=q0i S j;have C:upd H s.heap.objs.size (.dT []) L=some (.lst (as.map V.ref)):=by rw[q0d G];exact S
 have sm:=(Same.refl H).new (o:=.dT []) j;have M:PRs (upd H s.heap.objs.size (.dT [])) as rows:=Cu.imp' (fun a r ⟨b,h1,h2⟩=>⟨b,sm _ _ h1,sm _ _ h2⟩) Z;obtain⟨z,a0,n,r1,O⟩:=U.hok L _ C;refine⟨⟨_,v,rfl⟩,F.args_dict_init_2 _ _,?_⟩;refine Ab ?_;unfold Dq.Dict.selfAndRest;refine Ab (Hu ⟨_,v,rfl⟩ ?_);show wpAny _ _ (pure (s.heap.objs.size,[Value.ref L])) _ _ _;refine Ad ?_;refine Ab (Gk ⟨_,O,rfl⟩ ?_);refine Ab (PySem.Rv.no_keys O T fun h' tk kp=>?_);have W:=U.kept (t':=tk) kp;refine Ab (Gm ?_);have e2:=kp _ _ O;refine Ab (Pl ⟨_,e2,rfl,n,rfl⟩ ?_);have D:=Az (kp _ _ v);have I3:Inv X f R (upd H s.heap.objs.size (.dT [])) { s with heap:=h'.push { cls:=.type "list_iterator",data:=.fields #[.ref L,.int 0 0] },toks:=tk }:=W.kept (t':=tk) fun _ _ e=>Ai _ e;refine Ad ⟨Dw PySem.Rv.plain_upd _,?_⟩;refine z7y (A:=X.A.in1) T (by show X.A.units+1+3<cLine;lia) (TX.small' (by lia)) rows.length 0 _ _ (by lia) (Bf _) I3 C M q0b ⟨_,Aw _ rfl,rfl,rfl⟩ ?_ fun H' s' J j1 j2=>?_
 ·exact W.fpOk (Au _) (by rw[q0d (Fl D)];exact I.hok.fresh (Hj D))
 ·have eH:H'=upd H s.heap.objs.size (.dT (rows.foldl putR [])):=by
   funext b;by_cases E:b=s.heap.objs.size
   ·rw[E,j1,q0b]
   ·rw[j2 b E,q0d E,q0d E]
  rw[eH] at J;exact⟨rfl,.ref s.heap.objs.size,_,J,rfl,q _ j⟩
structure Mf (K:Aq) (C:Addr) (m qual:Str) (st:Stmt) (ps:List Str):Prop where
 ex:∃f fd,Fun K m qual st f fd/\Meth K C m f/\Binds K fd ps []
structure MCal (P:Ay) (w:World) (K:Aq) (mg:Str->Option Value) (base:Heap) (C:Addr) (m:Str) (k:Nat) (ps:List Str) (sp:Sp):Prop where
 ex:∃f fd,FnOk P w K mg base CX0 k f fd ps sp/\Meth K C m f/\Binds K fd ps []
 cl:Cls K C
theorem Mf.cal{K:Aq}{st:Stmt}(D:Mf K C m qual st ps)(cl:Cls K C)(S:FnScope N ps (defScope st))(len:∀vs H Q E,sp vs H Q E->vs.length=ps.length)(g:∀(f:Addr) (e:Value) (A:Around) (outer:List Env) (s:Ag) (H:Hp) (vs:List V) (Q:VK) (E:XK),Room k (A.deeper (Kz qual (defScope st) s.heap.objs.size f e))->sp vs H Q E ->
   ∃t,PSs (cxOf CX0 P w K mg base N qual (defScope st) f e A outer s H E).nox (defBody st) t/\t { nx:=fun _ H'=>Q .non H',rt:=Q } (start N vs) H):MCal P w K mg base C m (k+1) ps sp:=by
 obtain⟨f,fd,F,j,q⟩:=D.ex;exact⟨⟨f,fd,F.ok S len fun e A outer s H vs Q E u h=>g f e A outer s H vs Q E u h,j,q⟩,cl⟩
theorem MCal.imp{K:Aq}(M:MCal P w K mg base C m k ps sp)(h:∀vs H Q E,sp' vs H Q E->sp vs H Q E):MCal P w K mg base C m k ps sp':=by
 obtain⟨f,fd,F,r⟩:=M.ex;exact⟨⟨f,fd,F.imp h,r⟩,M.cl⟩
section
variable{X:Cx}{C:Addr}{x m:Str}{k j:Nat}{ps:List Str}{sp:Sp}{p pos apos:Pos}{o e:Expr}{es:List Expr}{ta:TE}{t:TA}
theorem pe_m{pl:Sem Bool}(M:MCal X.prog X.w X.K X.mg X.base C m k ps sp)(s:Room j X.A)(u:PE X o ta)(ha:PA X (e::es) t)(hjk:k<=j:=by decide)(g:Bk (e::es) X.env=(false,eval e X.env)::Bk es X.env:=by rfl)(h:(Gj pos (Bk es X.env)).any (·.1)=false:=by rfl)(v:eval (.Call (.Attribute o m apos) (e::es) [] pos) X.env=(do
   let q<-eval o X.env
   Qa apos.atName
   let (f,first)<-Ll [q] (Oq q m pl)
   Vk pos f first (Gj pos (Bk (e::es) X.env)) (Mp pos (Jg [] X.env))):=by rfl):PE X (.Call (.Attribute o m apos) (e::es) [] pos) (tMeth C m sp [] E0 ta t):=by
 obtain⟨f,fd,F,B,D⟩:=M.ex;exact x3b u M.cl B F (s.mono hjk) D .nil pass0 ha g h v
theorem pe_m0{pl:Sem Bool}(M:MCal X.prog X.w X.K X.mg X.base C m k ps sp)(g:Room j X.A)(h:PE X o ta)(hjk:k<=j:=by decide)(q:eval (.Call (.Attribute o m apos) [] [] pos) X.env=(do
   let e<-eval o X.env
   Qa apos.atName
   let (f,first)<-Ll [e] (Oq e m pl)
   Vk pos f first (Gj pos (Bk [] X.env)) (Mp pos (Jg [] X.env))):=by rfl):PE X (.Call (.Attribute o m apos) [] [] pos) (tMeth C m sp [] E0 ta tNil):=by
 obtain⟨f,fd,F,s,u⟩:=M.ex;exact z9u h M.cl s F (g.mono hjk) u .nil pass0 q
end
structure Kf (K:Aq) (mg:Str->Option Value) (C:Addr) (x qual:Str) (st:Stmt) (ps:List Str):Prop where
 ex:∃(f:Addr) (fd:Mo) (oc:Value) (od:Option Addr) (dV kV doc pm:Value) (an:Option Addr) (cdv ct:Value) (osl:Array (Option Value)),fd=Jp "__init__" qual (defArgs st) (defBody st) (defScope st) dV kV doc pm an cdv ct /\
  K.lookup f=some ⟨oc,od,.func fd,osl⟩/\Mq K cdv qual=true/\Mk K C f/\Binds K fd ps []/\Binds K fd ps [.bool false]
 at_:mg x=some (.ref C)
 cl:Cls K C
structure KCal (P:Ay) (w:World) (K:Aq) (mg:Str->Option Value) (base:Heap) (C:Addr) (x:Str) (k:Nat) (ps:List Str) (sp:Sp):Prop where
 ex:∃f fd,FnOk P w K mg base CX0 k f fd ps sp/\Mk K C f/\Binds K fd ps []/\Binds K fd ps [.bool false]
 at_:mg x=some (.ref C)
 cl:Cls K C
theorem Kf.cal{K:Aq}{st:Stmt}(D:Kf K mg C x qual st ps)(S:FnScope N ps (defScope st))(len:∀vs H Q E,sp vs H Q E->vs.length=ps.length)(g:∀(f:Addr) (e:Value) (A:Around) (outer:List Env) (s:Ag) (H:Hp) (vs:List V) (Q:VK) (E:XK),Room k (A.deeper (Kz qual (defScope st) s.heap.objs.size f e))->sp vs H Q E ->
   ∃t,PSs (cxOf CX0 P w K mg base N qual (defScope st) f e A outer s H E).nox (defBody st) t/\t { nx:=fun _ H'=>Q .non H',rt:=Q } (start N vs) H):KCal P w K mg base C x (k+1) ps sp:=by
 obtain⟨f,fd,O,R,T,kV,v,pm,U,e,ct,B,rfl,G,j,M,I,J⟩:=D.ex;refine⟨⟨f,_,fn_of G j S len fun A outer s H vs Q E L u=>?_,M,I,J⟩,D.at_,D.cl⟩;obtain⟨t,h,q⟩:=g f e A outer s H vs Q E L u;exact⟨t,h.nox,q⟩
section
variable{X:Cx}{C:Addr}{x:Str}{k j:Nat}{ps:List Str}{sp:Sp}{p pos:Pos}{e:Expr}{es:List Expr}{t:TA}
theorem pe_k(M:KCal X.prog X.w X.K X.mg X.base C x k ps sp)(q:Room j X.A)(ha:PA X (e::es) t)(hjk:k+1<=j:=by decide)(s:Gl X x:=by rfl)(g:(x==("__debug__" : Str))=false:=by decide)(u:Bk (e::es) X.env=(false,eval e X.env)::Bk es X.env:=by rfl)(h:(Gj pos (Bk es X.env)).any (·.1)=false:=by rfl):PE X (.Call (.Name x p) (e::es) [] pos) (tMake C sp [] E0 t):=by
 obtain⟨f,fd,F,m,v,_⟩:=M.ex;exact x3c m F (q.mono hjk) s M.at_ v .nil pass0 ha g u h
end
theorem q7j{K:Nj}{g:TG}{tb:TS}{D:Ends}(f:Nat->St->Hp->Prop)(h0:f 0 e H)(hl:∀i e H,f i e H->SqL K H a xs)(hs:∀i x T e H,xs[i]?=some x->f i e H->H T=none->g (.ref T) e (upd H T (.tup [.int i,x])) fun j s=>tb { D with nx:=f (i+1),ct:=f (i+1),bk:=D.nx } j s)(hd:∀e H,f xs.length e H->D.nx e H):
  ∃W:Nat->Nat->St->Hp->Prop,(∃m,W 0 m e H)/\∀i m e H,W i m e H ->
   ((Ite (Itl K a)).stop i H/\D.nx e H)\/((Ite (Itl K a)).go i H/\∃N:St->Hp->Prop,(∀q H',N q H'->∃u,u<m/\W (i+1) u q H')/\∀v H',(Ite (Itl K a)).yld i H v H'->g v e H' fun j s=>tb { D with nx:=N,ct:=N,bk:=D.nx } j s):=by
 refine z3z f h0 (fun i e H h p=>⟨xs,xs[i],hl i e H p,by simp[h]⟩) (fun e H p=>⟨xs,hl _ e H p,Au _⟩) (fun i v e H H' h p B=>?_) hd;obtain⟨T,y,C,⟨_,E⟩,rfl,rfl⟩:=B;exact hs i y T e H (E xs (hl i e H p)) p C
noncomputable def rCatP:R2:=fun x y H Q=>∃a b xs ys,x=.ref a/\y=.ref b/\H a=some (.tup xs)/\H b=some (.tup ys)/\xs.length+ys.length<=sizeLine/\∀p H',Same H H'->H' p=some (.tup (xs++ys))->(∀c,c≠p->H' c=H c)->Q (.ref p) H'
theorem q3r:OpR X (Hd .Add) rCatP:=by
 intro O s σ H x y v u Q I Z ry h;obtain⟨a,b,xs,ys,rfl,rfl,ha,P,R,q⟩:=h;cases Z;cases ry;obtain⟨za,e,j,S⟩:=I.hok a _ ha;obtain⟨zb,f,B,T⟩:=I.hok b _ P;by_cases C:e=[]
 ·have hx':xs=[]:=j.nil_iff.mp C;obtain⟨⟨a0,dd,U,sl⟩,W,D,n,hd⟩:=id S;obtain⟨⟨Y,E,G,J⟩,g,L,n2,M⟩:=id T;subst D hd L M;refine Tz ⟨_,W,rfl⟩ ⟨_,g,rfl⟩ Qg Te Mc Lq (La _ _) (tuple_addW0 a b e.toArray f.toArray n n2 dd E sl J (by simp[C])) ⟨W,g,?_⟩;exact⟨.ref b,H,I,rfl,q b H (Same.refl H) (by rw[hx',Ks];exact P) fun _ _=>rfl⟩
 ·refine HT.cat_tup S T C (fun z=>?_) (fun z=>?_) (by rw[<- j.length,<- B.length];exact R)
  ·have hy:ys=[]:=B.nil_iff.mp z;exact⟨.ref a,H,I,rfl,q a H (Same.refl H) (by rw[hy,Du];exact ha) fun _ _=>rfl⟩
  ·refine⟨.ref s.heap.objs.size,_,I.laid (t':=s.toks) (fun b ob q=>Ai _ q) (Au _) ?_,rfl,q _ _ ((Same.refl H).new I.fresh) q0b fun c D=>q0d D⟩;exact⟨by rw[Al];exact R,_,j.append B,Wv _ _⟩
theorem z5l{X:Cx}{e:Expr}{f:Str}{g:Pos}{h:TE}(K:Aq)(j:X.K=K)(q:PE X e h)(s:Gz e f X.env (eval e X.env)=eval e X.env:=by rfl):PE X (.Attribute e f g) (tFld K h f):=by subst j;exact pe_fld q s
theorem x2f{X:Cx}{o e:Expr}{f:Str}{h g:Pos}{j q:TE}(K:Aq)(s:X.K=K)(ha:PE X o j)(u:PE X e q)(hs:Ku e (some (.Attribute o f g)) h.line X.env=pure false:=by rfl):PS X (.Assign [.Attribute o f g] e h) (sFld K j q f):=by subst s;exact ps_fld ha u hs
end L2
namespace HM
open PySem PySem.Spec PyProof.Rows L2 TX SB
noncomputable def NSs:Str:=Ap "abcdefghijklmnopqrstuvwxyzABCDEFGHIJKLMNOPQRSTUVWXYZ0123456789-_."
noncomputable abbrev NS:List Nat:=tl NSs
theorem x2g:∀c∈NS,c<128:=by trivial
structure okN (n:List Nat):Prop where
 one:1<=n.length
 few:n.length<=12
 all:∀c∈n,c∈NS
theorem okN.low(h:okN n):∀c∈n,c<128:=fun c e=>x2g c (h.all c e)
structure okP (p:Pth):Prop where
 ne:p≠[]
 few:p.length<=6
 all:∀n∈p,okN n
theorem okP.low(h:okP p):Low p:=fun n e=>(h.all n e).low
noncomputable abbrev Rw:=Pth×Option Int
noncomputable def mV:Option Int->V
 |none=>.non
 |some i=>.int i
noncomputable def rR(r:Rw):HRow:=(r.1,mV r.2)
theorem mV_inj(h:mV a=mV b):a=b:=by
 cases a with
 |none=>cases b with
  |none=>rfl
  |some j=>cases h
 |some i=>cases b with
  |none=>cases h
  |some j=>cases h;rfl
theorem mV_none:mV a=.non↔a=none:=⟨fun h=>mV_inj (b:=none) h,fun h=>by rw[h];rfl⟩
noncomputable def lowN(n:List Nat):List Nat:=n.map lo1
noncomputable def fold(bl:Bool)(p:Pth):Pth:=if bl then p.dropLast++[lowN (p.getLastD [])] else p
theorem x2h(p:Pth):fold false p=p:=rfl
theorem x2i(p:Pth):fold true p=p.dropLast++[lowN (p.getLastD [])]:=rfl
theorem z2w{p:Pth}(h:p≠[]):p=p.dropLast++[p.getLastD []]:=by
 have e:=Hf h;have f:p.getLastD []=p.getLast h:=by rw[Cy,Bh h];rfl
 rw[f];exact e.symm
theorem q4m{p q:Pth}(e:p≠[])(f:q≠[]):fold bl p=fold bl q↔p.dropLast=q.dropLast/\(if bl then lowN (p.getLastD [])=lowN (q.getLastD []) else p.getLastD []=q.getLastD []):=by
 cases bl with
 |true =>
  rw[x2i,x2i];constructor
  ·simp_all
  ·simp_all
 |false =>
  rw[x2h,x2h];constructor
  ·grind
  ·rintro⟨g,h⟩;rw[z2w e,z2w f,g,h]
structure Hl (bl:Bool) (rows:List Rw):Prop where
 ok:∀r∈rows,okP r.1
 nd:(rows.map fun r=>fold bl r.1).Nodup
 dr:∀r∈rows,r.1.dropLast=[]\/(r.1.dropLast,none)∈rows
theorem Hl.perm(h:Hl bl rows)(p:rows'.Perm rows):Hl bl rows' :=
 ⟨fun r e=>h.ok r (p.mem_iff.mp e),(p.map _).nodup_iff.mpr h.nd,fun r e=>(h.dr r (p.mem_iff.mp e)).imp id fun z=>p.mem_iff.mpr z⟩
theorem Hl.nil(bl:Bool):Hl bl []:=⟨(fun _ h=>nomatch h),.nil,(fun _ h=>nomatch h)⟩
theorem q1a{e g:Type}{f:e->g}:∀{l:List e},(l.map f).Nodup->l.Nodup
 |[],_=>.nil
 |a::l,h=>by
  rw[Ax,Bs] at h;exact Bs.mpr ⟨fun z=>h.1 (Ac.mpr ⟨a,z,rfl⟩),q1a h.2⟩
theorem Hl.paths(h:Hl bl rows):(rows.map (·.1)).Nodup:=by
 have e:rows.map (fun r=>fold bl r.1)=(rows.map (·.1)).map (fold bl):=by simp_all
 have:=h.nd;rw[e] at this;exact q1a this
noncomputable abbrev Zr:=Addr×Rw
structure RL (H:Hp) (L:Addr) (zs:List Zr):Prop where
 at_:H L=some (.lst (zs.map fun z=>V.ref z.1))
 pr:∀z∈zs,PR H z.1 (rR z.2)
theorem PR.same(h:PR H a r)(k:∀T xs,H T=some (.tup xs)->H' T=some (.tup xs)):PR H' a r:=let ⟨b,e,f⟩:=h;⟨b,k _ _ e,k _ _ f⟩
theorem RL.same(h:RL H L zs)(s:Same H H'):RL H' L zs:=⟨s _ _ h.at_,fun z f=>PR.same (h.pr z f) fun T xs e=>s _ _ e⟩
theorem tupFd(F:FeedAt H a b)(fd:Fd a b H H'):∀T xs,H T=some (.tup xs)->H' T=some (.tup xs):=fun T xs e=>fd.at e fun z=>by
 subst z;obtain⟨i,j,q⟩:=F.fa;rw[q] at e;cases e
theorem RL.fd(h:RL H L zs)(F:FeedAt H a b)(fd:Fd a b H H')(e:L≠a):RL H' L zs:=⟨fd.at h.at_ e,fun z f=>PR.same (h.pr z f) (tupFd F fd)⟩
theorem prs_zs{zs:List Zr}(h:∀z∈zs,PR H z.1 (rR z.2)):PRs H (zs.map (·.1)) (zs.map fun z=>rR z.2):=z7x h
theorem zs_of:∀{as:List Addr} {rs:List HRow} {rows:List Rw},PRs H as rs->rs=rows.map rR->∃zs:List Zr,zs.map (·.1)=as/\zs.map (·.2)=rows/\∀z∈zs,PR H z.1 (rR z.2)
 |_,_,[],.nil,_=>⟨[],rfl,rfl,(fun _ h=>nomatch h)⟩
 |_,_,_::_,.nil,e=>by cases e
 |_,_,[],.cons _ _,e=>by cases e
 |a::as,_,r::rows,.cons h t,e=>by
  rw[Ax] at e;injection e with e1 e2;obtain⟨zs,g,j,q⟩:=zs_of t e2;refine⟨(a,r)::zs,by rw[Ax,g],by rw[Ax,j],fun z f=>?_⟩;rcases Bb.mp f with rfl|f
  ·rw[<- e1];exact h
  ·exact q z f
theorem q4n:∀{l m:List Pth},l.Perm m->l.Nodup->l.Pairwise (fun a b=>pLt b a=false)->m.Pairwise (fun a b=>pLt b a=false)->l=m
 |[],m,p,_,_,_=>(List.perm_nil.mp p.symm).symm
 |a::l,[],p,_,_,_=>absurd (p.length_eq) (by simp)
 |a::l,b::m,p,nd,h1,h2=>by
  obtain⟨u,g⟩:=Bs.mp nd;obtain⟨h,j⟩:=Li.mp h1;obtain⟨q,s⟩:=Li.mp h2;have e:a=b:=by
   have ha:=p.mem_iff.mp As;have f:=p.mem_iff.mpr As;rcases Bb.mp ha with e|ha
   ·exact e
   ·rcases Bb.mp f with e|f
    ·exact e.symm
    ·exact q5k (q a ha) (h b f)
  subst e;rw[q4n ((List.perm_cons a).mp p) g j s]
noncomputable def dMk:Option Int->Cw
 |none=>.none
 |some i=>.int i
noncomputable def dRw(r:Rw):Cw:=.tuple [.tuple (dP r.1),dMk r.2]
theorem x3x{K:Aq}(m:Option Int):Dt K H (mV m) (dMk m):=by
 cases m with
 |none=>exact .non
 |some i=>exact .int i
theorem z4e{K:Aq}{H:Hp}:∀p:Pth,Dts K H (vP p) (dP p)
 |[]=>.nil
 |n::p=>.cons (.str _) (z4e p)
theorem q2d{K:Aq}(h:H a=some (.tup (vP p))):Dt K H (.ref a) (.tuple (dP p)):=.tup (SqT.of h) (z4e p)
theorem dt_row{K:Aq}(h:PR H a (rR r)):Dt K H (.ref a) (dRw r):=by
 obtain⟨b,e,f⟩:=h;exact .tup (SqT.of e) (.cons (q2d f) (.cons (x3x _) .nil))
theorem z4f{K:Aq}{H:Hp}:∀{zs:List Zr},(∀z∈zs,PR H z.1 (rR z.2))->Dts K H (zs.map fun z=>V.ref z.1) (zs.map fun z=>dRw z.2)
 |[],_=>.nil
 |z::zs,h=>.cons (dt_row (h z As)) (z4f fun x e=>h x (Am _ e))
theorem RL.dt{K:Aq}(h:RL H L zs):Dt K H (.ref L) (.list (zs.map fun z=>dRw z.2)):=.lst (SqL.of h.at_) (z4f h.pr)
theorem x3y(m:Option Int):(dMk m).canLay0=true:=by cases m<;>simp[dMk,Fe]
theorem q2v(h:Low p):(Cw.tuple (dP p)).canLay0=true:=by simp only[Ke,q7e h]
theorem x3z(h:Low r.1):(dRw r).canLay0=true:=by
 have:=q2v h;simp only[dRw,Fe,Cf] at this ⊢;rw[this,x3y];rfl
theorem z4g:∀{rows:List Rw},(∀r∈rows,Low r.1)->Cf (rows.map dRw)=true
 |[],_=>by simp[Cf]
 |r::rows,h=>by
  simp only[Ax,Cf];rw[x3z (h r As),z4g fun x e=>h x (Am _ e)];rfl
theorem z7z{rows:List Rw}(h:∀r∈rows,Low r.1):(Cw.list (rows.map dRw)).canLay0=true:=by simp only[Fe];exact z4g h
theorem z8a(m:Option Int):(dMk m).depth<=1:=by cases m<;>simp[dMk,Ho]
theorem q5c(p:Pth):(Cw.tuple (dP p)).depth<=2:=by
 have e:(Cw.tuple (dP p)).depth=Gr (dP p)+1:=by simp only[Ou]
 have:=q6h p;lia
theorem z8b(r:Rw):(dRw r).depth<=3:=by
 have f:=q5c r.1;have g:=z8a r.2;have e:(dRw r).depth=max (Cw.tuple (dP r.1)).depth (max (dMk r.2).depth 0)+1:=by simp only[dRw,Ho,Ec]
 lia
theorem q8i:∀rows:List Rw,Ec (rows.map dRw)<=3
 |[]=>by simp[Ec]
 |r::rows=>by
  have e:=z8b r;have f:=q8i rows;simp only[Ax,Ec];lia
theorem x0s(rows:List Rw):(Cw.list (rows.map dRw)).depth<=100:=by
 have:=q8i rows;simp only[Ho];lia
theorem q7k(p q:Pth):Fw (.tuple (dP p)) (.tuple (dP q))=decide (p=q):=by simp only[Fw,q7f]
theorem q8j(zs:List Zr):zs.map (fun z=>dRw z.2)=(zs.map (·.2)).map dRw:=by rw[An];rfl
theorem q3z{K:Aq}(ha:H a=some (.tup (vP p)))(e:H b=some (.tup (vP q)))(f:Low p)(g:Low q)(k:Q (.bl (!decide (p=q))) H):rNeU K (.ref a) (.ref b) H Q:=by
 refine .inr ⟨_,_,q2d ha,q2d e,q2v f,q2v g,by have:=q5c p;lia,?_⟩;rw[q7k];exact k
theorem x4a{K:Aq}(ha:RL H a zs)(f:RL H b zs')(e:zs.map (·.2)=zs'.map (·.2))(l:∀r∈zs.map (·.2),Low r.1)(k:Q (.bl false) H):rNeU K (.ref a) (.ref b) H Q:=by
 refine .inr ⟨_,_,ha.dt,f.dt,?_,?_,?_,?_⟩
 ·rw[q8j];exact z7z l
 ·rw[q8j,<- e];exact z7z l
 ·rw[q8j,q8j];have:=x0s (zs.map (·.2));lia
 ·rw[q8j,q8j,<- e,SeqAt.eqv_refl _ (z7z l)];exact k
end HM
namespace L2
open PySem PySem.Spec PyProof.Rows SB
noncomputable abbrev Zp:=Addr×Pth
theorem ers_map{e g:Type}(f:e->g):∀(l:List e) (k:Nat),(l.map f).eraseIdx k=(l.eraseIdx k).map f
 |[],_=>rfl
 |_::_,0=>rfl
 |a::l,k+1=>by show f a::(l.map f).eraseIdx k=f a::(l.eraseIdx k).map f;rw[ers_map f l k]
noncomputable def tThawV(h₀:Hp)(t:TE):TE:=fun σ H Q=>∃d,(∀o v,h₀ d≠some (.frz o v))/\t σ H fun x H'=>∃ob u,H' d=some (.frz ob u)/\Q x (upd H' d u)
theorem x4b{X:Cx}{e:Expr}{t:TE}(f:Hp)(j:X.H₀=f)(h:PE X e t):PE X e (tThawV f t):=by
 subst j;intro g s B H Q I q;obtain⟨d,hd,q⟩:=q;exact thn (h g s B H _ I q) fun v J ⟨x,L,C,D,M,u,E,G⟩=>⟨x,_,C.thaw E hd,D,G⟩
end L2
namespace HM
open PySem PySem.Spec PyProof.Rows L2 TX SB
noncomputable def carry(p q x:Pth):Pth:=if x.take p.length=p then q++x.drop p.length else x
noncomputable def cR(p q:Pth)(r:Rw):Rw:=(carry p q r.1,r.2)
noncomputable def mvR(p q:Pth)(r:Rw):Rw:=if r.1=p then(q,r.2) else r
theorem Hl.one(h:Hl bl rows)(e:(p,a)∈rows)(f:(p,b)∈rows):a=b:=by
 have:=q0q h.paths e f rfl;cases this;rfl
structure Free (bl:Bool) (rows:List Rw) (p q:Pth):Prop where
 ok:okP q
 dr:q.dropLast=[]\/(q.dropLast,none)∈rows
 un:∀r∈rows,fold bl r.1=fold bl q->r.1=p
theorem Hl.eq(h:Hl bl rows)(g:r∈rows)(hs:s∈rows)(e:fold bl r.1=fold bl s.1):r=s:=q0q (f:=fun r:Rw=>fold bl r.1) h.nd g hs e
theorem ns_lo:∀c∈NS,lo1 c∈NS:=by trivial
theorem z1l{K:Aq}{H:Hp}:∀{zs:List Zp},(∀z∈zs,H z.1=some (.tup (vP z.2)))->Dts K H (zs.map fun z=>V.ref z.1) (zs.map fun z=>Cw.tuple (dP z.2))
 |[],_=>.nil
 |z::zs,h=>.cons (q2d (h z As)) (z1l fun x e=>h x (Am _ e))
theorem z1m:∀{zs:List Zp},(∀z∈zs,Low z.2)->Cf (zs.map fun z=>Cw.tuple (dP z.2))=true
 |[],_=>by simp[Cf]
 |z::zs,h=>by
  simp only[Ax,Cf];rw[q2v (h z As),z1m fun x e=>h x (Am _ e)];rfl
theorem z4h{K:Aq}{zs:List Zp}(ha:H a=some (.lst (zs.map fun z=>V.ref z.1)))(f:∀z∈zs,H z.1=some (.tup (vP z.2)))(g:H b=some (.lst []))(l:∀z∈zs,Low z.2)(k:Q (.bl (!decide (zs=[]))) H):rNeU K (.ref a) (.ref b) H Q:=by
 refine .inr ⟨_,_,.lst (SqL.of ha) (z1l f),.lst (SqL.of g) .nil,by simp only[Fe];exact z1m l,by simp[Fe,Cf],?_,?_⟩
 ·have:(Cw.list []).depth<=100:=by simp[Ho,Ec]
  lia
 ·have e:Fw (.list (zs.map fun z=>Cw.tuple (dP z.2))) (.list [])=decide (zs=[]):=by cases zs<;>simp[Fw,Hy]
  rw[e];exact k
theorem q2g{K:Aq}(ha:H a=some (.tup (vP p)))(e:H b=some (.tup (vP q)))(f:Low p)(g:Low q)(k:Q (.bl (decide (p=q))) H):rEqU K (.ref a) (.ref b) H Q:=by
 refine .inr ⟨_,_,q2d ha,q2d e,q2v f,q2v g,by have:=q5c p;lia,?_⟩;rw[q7k];exact k
noncomputable def uppN(n:List Nat):List Nat:=n.map up1
theorem ns_up:∀c∈NS,up1 c∈NS:=by trivial
theorem q9p(h:∀c∈n,c<128):Ny (mk n)=mk (uppN n):=by
 rw[upper_ascii (by show ∀c∈tl (mk n),c<128;exact h)];apply ext;rw[q2m];rw[Qk];rfl
theorem q5y(e:H a=some (dR rs))(f:H b=some (.tup (vP p))):DGet H a (.ref b) (valV (rs.map fun r=>(kP r.1,r.2)) (kP p)) :=
 .inr ⟨_,kP p,b,.inl e,rfl,by rw[q3a];exact f,rfl⟩
end HM
namespace HT
open PySem PyProof.Rows
section
variable{prog:Ay}{w:World}{A:Around}{E:Value->Ag->Prop}{s:Ag}
theorem getItem_tuple_whole{lo:Option Int}(e:IsTup s.heap t items)(hs:s.heap.IsSliceOf sl vl vu .none)(pl:Md vl lo)(pu:Md vu hi)(q:sIx items.size 0 lo=0/\sIx items.size items.size hi=items.size)(h:Q (.ref t) s):wpAny (model prog w) A (getItem (.ref t) (.ref sl)) Q E s:=by
 obtain⟨os,f,g,u⟩:=id hs;have j:s.TypeIs (.ref sl) "slice" := ⟨os,f,g⟩
 unfold getItem;try with_reducible refine Cn ?_
 refine Ab (Ur e.typeIs (by decide) ?_);refine Ab (Bz e.typeIs Ea
  (Bt Ea e.typeIs entry_tuple_getitem ?_ (Ub _ _)))
 show wpAny _ _ (Ki (.ref t) >>= _) _ _ s;refine Ab (tupleItemsOf_ e ?_);refine Ab (Gk j ?_);refine Ab (q3j hs pl pu ?_);show wpAny _ _ (if (((sIx items.size 0 lo:Nat):Int)==0&&(1:Int)==1&&(sIx items.size items.size hi-sIx items.size 0 lo)==items.size)=true then _ else _) _ _ s;rw[if_pos (by rw[q.1,q.2];simp)];refine Ab (Ab (Gk e.typeIs (Ad ?_)));exact Ab (Gm (Ad ⟨_,rfl,Ad h⟩))
end
end HT
namespace L2
open PySem PySem.Spec PyProof.Rows
noncomputable def rSlP:V->Option Int->Option Int->Hp->VK->Prop:=fun x lo hi H Q=>∃a xs,x=.ref a/\H a=some (.tup xs)/\∀c H',Same H H'->H' c=some (.tup (cutV xs lo hi))->Q (.ref c) H'
theorem sl_P:SlR X rSlP:=by
 intro e s E H x v vl G lo B J Q I C hs pl pu h;obtain⟨a,xs,rfl,j,q⟩:=h;by_cases g:HT.sIx xs.length 0 lo=0/\HT.sIx xs.length xs.length B=xs.length
 ·cases C;obtain⟨u,r,D,M⟩:=I.tuple (SqT.of j);have f:u.toArray.size=xs.length:=by rw[Be];exact r.length.symm
  refine⟨"tuple",_,Ea.lookup,D.typeIs,?_⟩;refine HT.getItem_tuple_whole D hs pl pu (by rw[f];exact g) ⟨.ref a,H,I,rfl,q a H (Same.refl H) ?_⟩;unfold cutV;rw[g.1,g.2,Jy,Jx,Ba];exact j
 ·exact x1v e s E H _ v vl G lo B J Q I C hs pl pu ⟨a,xs,rfl,SqT.of j,g,fun p L=>q p _ ((Same.refl H).new L) q0b⟩
end L2
namespace HM
open PySem PySem.Spec PyProof.Rows L2 TX SB
theorem z8c(p q a:Pth):carry p q (p++a)=q++a:=by unfold carry;rw[if_pos (by simp),List.drop_left]
theorem z4i(h:x.take p.length≠p):carry p q x=x:=if_neg h
end HM
namespace L2
open PySem PySem.Spec PyProof.Rows
section
variable{X:Cx}{pins:List (Addr×Obj)}{σ:St}{H:Hp}{s:Ag}
noncomputable abbrev Cx.pinned(X:Cx)(pn:List (Addr×Obj)):Cx:={ X with pn:=pn }
end
theorem q5m:∀{cs:List Addr} {us:List Value},Vals (cs.map V.ref) us->us=cs.map Value.ref
 |[],_,.nil=>rfl
 |c::cs,_,.cons r t=>by
  have h:_=Value.ref c:=r;rw[h,q5m t,Ax]
section
variable{X:Cx}
theorem z1n:CallR X (.type "str") (fun xs H Q=>∃n:Nat,xs=[.int (n:Int)]/\n<=10^14/\Q (.str (Ap (toString (n:Int)))) H):=by
 intro e s v H xs B Q I r h;obtain⟨n,rfl,g,q⟩:=h;obtain⟨u,rfl,t,rfl⟩:=vals1 r;refine PySem.P.str_of_int ?_ ⟨.str (Ap (toString (n:Int))),H,I.tok _,⟨_,rfl⟩,q⟩;rw[Int.natAbs_natCast];have j:n<2^50:=Lb g (by decide);have:n.log2<50:=by
  by_cases f:n=0
  ·rw[f];decide
  ·exact(Nat.log2_lt f).mpr j
 lia
end
end L2
namespace HM
open PySem PySem.Spec PyProof.Rows L2 TX SB
noncomputable def inP(H:Hp)(q:Pth)(a:Addr):Bool:=match H a with|some (.tup xs)=>decide (xs=vP q)|_=>false
theorem vP_inj(h:vP p=vP q):p=q:=by
 have e:(vP p).map (fun v=>match v with|.str s=>tl s|_=>[])=(vP q).map (fun v=>match v with|.str s=>tl s|_=>[]):=by rw[h]
 have f:∀x:Pth,(vP x).map (fun v=>match v with|.str s=>tl s|_=>[])=x:=fun x=>by
  rw[An];refine Eq.trans (Ct fun n _=>q2m n) (Vg x)
 rw[f,f] at e;exact e
theorem z1o(h:H a=some (.tup (vP r))):inP H q a=decide (r=q):=by
 unfold inP;rw[h];exact decide_eq_decide.mpr ⟨vP_inj,fun z=>by rw[z]⟩
noncomputable def rInP(neg:Bool):R2:=fun x y H Q=>∃(p L:Addr) (bs:List Addr) (q:Pth),x=.ref p/\y=.ref L/\H L=some (.lst (bs.map V.ref))/\H p=some (.tup (vP q))/\Low q/\(∀b∈bs,∃r,H b=some (.tup (vP r))/\Low r)/\Q (.bl (if neg then !bs.any (inP H q) else bs.any (inP H q))) H
section
variable{X:Cx}{k:Nat}
noncomputable def eR(H:Hp)(q:Pth):Value->Bool|.ref a=>inP H q a|_=>false
theorem any_eR(bs:List Addr):(bs.map Value.ref).toArray.any (eR H q)=bs.any (inP H q):=by
 rw[show(bs.map Value.ref).toArray.any (eR H q)=(bs.map Value.ref).any (eR H q) by simp,List.any_map];rfl
theorem z1p(h:Room k X.A){j:L2.St}(I:Inv X pins j H s){bs:List Addr}(u:H p=some (.tup (vP q)))(v:Low q)(B:∀b∈bs,∃r,H b=some (.tup (vP r))/\Low r):
  ∀w∈(bs.map Value.ref).toArray,Em X.A.in1 s w (.ref p) (eR H q w):=fun w M=>by
 obtain⟨b,g,rfl⟩:∃b∈bs,w=.ref b:=by
  have:w∈bs.map Value.ref:=by grind
  obtain⟨b,C,D⟩:=Ac.mp this;exact⟨b,C,D.symm⟩
 obtain⟨r,f,E⟩:=B b g;obtain⟨as,G⟩:=(q2d f).reads I rfl;obtain⟨J,L⟩:=(q2d u).reads I rfl;have hd:=q5c r;have O:=h.un;have e:=Vt _ _ X.A.in1 s _ _ _ _ G L (q2v E) (q2v v) (by show X.A.units+1+_<_;lia);rw[q7k] at e;show Em X.A.in1 s (.ref b) (.ref p) (inP H q b);rw[z1o f];exact e
theorem nin_P(f:Room k X.A):OpR X (Dg .NotIn) (rInP true):=by
 intro e s M H x y v u Q I g j h;obtain⟨p,L,bs,q,rfl,rfl,B,C,D,E,G⟩:=h;cases g;cases j;obtain⟨J,r,pl,O⟩:=I.list (SqL.of B);obtain rfl:=q5m r;exact SeqAt.notIn_listAt (eR H q) pl.isList (z1p f I C D E) ⟨.bl _,H,I,rfl,by rw[any_eR];exact G⟩
end
noncomputable abbrev Mv:=Pth×Pth
noncomputable def wk:List Rw->List Mv->List Rw
 |rows,[]=>rows
 |rows,m::r=>wk (rows.map (cR m.1 m.2)) r
section
variable{bl:Bool}
noncomputable def tb(ms:List Mv):List Mv:=ms.reverse.map fun m=>(m.2,m.1)
end
noncomputable def MT(H:Hp)(T:Addr)(m:Mv):Prop:=∃A B,H T=some (.tup [.ref A,.ref B])/\H A=some (.tup (vP m.1))/\H B=some (.tup (vP m.2))
noncomputable abbrev Zm:=Addr×Mv
structure ML (H:Hp) (L:Addr) (zs:List Zm):Prop where
 at_:H L=some (.lst (zs.map fun z=>V.ref z.1))
 pr:∀z∈zs,MT H z.1 z.2
theorem MT.keep(h:MT H T m)(k:∀T xs,H T=some (.tup xs)->H' T=some (.tup xs)):MT H' T m:=let ⟨A,B,e,f,g⟩:=h;⟨A,B,k _ _ e,k _ _ f,k _ _ g⟩
theorem ML.same(h:ML H L zs)(s:Same H H'):ML H' L zs:=⟨s _ _ h.at_,fun z f=>(h.pr z f).keep fun T xs e=>s _ _ e⟩
noncomputable def rIndexP:V->List V->Hp->VK->Prop:=fun x vs H Q=>∃(l p:Addr) (bs:List Addr) (q:Pth) (j:Nat),x=.ref l/\vs=[.ref p]/\H l=some (.lst (bs.map V.ref))/\H p=some (.tup (vP q))/\Low q/\(∀b∈bs,∃r,H b=some (.tup (vP r))/\Low r)/\(∃b,bs[j]?=some b/\H b=some (.tup (vP q)))/\(∀i b,i<j->bs[i]?=some b->inP H q b=false)/\Q (.int (j:Int)) H
section
variable{X:Cx}{k:Nat}
theorem z8d(J:Room k X.A):MtM X "list.index" rIndexP:=by
 intro G s σ H x vs v us Q I L M h;obtain⟨l,p,bs,q,j,rfl,rfl,O,P,R,S,⟨B,f,T⟩,U,W⟩:=h;cases L;obtain⟨u,rfl,Y⟩:=M.one;cases Y;obtain⟨z,Z,n,r,hl,e⟩:=I.lstM O;obtain rfl:=q5m r;have g:j<bs.length:=(Af.mp f).1;have C:(bs.map V.ref).length<=sizeLine:=z;rw[Dy,Aa] at C;refine Kb F.slot_list_index ⟨_,e,rfl⟩ F.entry_list_index (F.args_list_index_2 _ _) (SeqAt.list_indexAt l (bs.map Value.ref).toArray n none #[] (.ref p) (eR H q) j (by simpa using g) (by lia) ?_ ?_) ⟨e,z1p J I P R S,.int (j:Int),H,I.tok _,⟨_,rfl⟩,W⟩
 ·have h1:bs[j]=B:=(Af.mp f).2;have D:(bs.map Value.ref).toArray[j]'(by simpa using g)=.ref B:=by simp[h1]
  rw[D];show inP H q B=true;rw[z1o T];exact decide_eq_true rfl
 ·intro m hm E;have hm':m<bs.length:=by simpa using hm
  have D:(bs.map Value.ref).toArray[m]=.ref bs[m]:=by simp
  rw[D];exact U m _ E (Bu hm')
end
end HM
namespace L2
open PySem PySem.Spec PyProof.Rows TX
variable{X:Cx}
theorem q8k(D:X.calm=true):CallR X (.type "list") (fun xs H Q=>∃z:Str,xs=[.str z]/\z.length<=1000/\∀l,H l=none->Q (.ref l) (upd H l (.lst ((tl z).map fun c=>V.str (mk [c]))))):=by
 intro v s M H xs O Q I r h;obtain⟨z,rfl,E,q⟩:=h;obtain⟨u,rfl,t,rfl⟩:=vals1 r;have hz':z.cps.size<=1000:=E;refine call_list_str (I.ok.hd D) z t (fun B tk f G hk J g=>?_) (by rw[Dy];lia);have L:Vals ((tl z).map fun c=>V.str (mk [c])) f.toList:=by
  refine q7b (by simp[g.1,tl]) fun m x u C P=>?_;have h2':f[m]?=some u:=by simp_all
  obtain⟨c,w,j,rfl⟩:=g.2 m u h2';rw[Ak,show(tl z)[m]?=z.cps[m]? by simp[tl],j] at C;cases C;exact⟨w,rfl⟩
 refine⟨.ref s.heap.objs.size,_,I.laid (o:=.lst ((tl z).map fun c=>V.str (mk [c]))) (h':=B) (t':=tk) (fun b u e=>hk b u e) (Au _) ⟨?_,f.toList,G,L,by simpa using J⟩,rfl,q _ I.fresh⟩;rw[Aa,Dy];show(tl z).length<=_;have:(tl z).length=z.cps.size:=by simp[tl]
 lia
theorem q9q(j:s.heap.get? a=some o)(q:o.ExactDict)(hd:o.data=.dict es ep)(hs:(a==Eb)=false)(u:es.size<=sizeLine)(h:∀t t',Q (.int es.size t) { s with toks:=t' }):wpAny (model prog w) A (call (.builtin "len") [.ref a]) Q E s:=by
  have f:s.TypeIs (.ref a) "dict" := ⟨o,j,q.1⟩
  have e:¬((es.size:Nat):Int)>=2^63:=by rw[Dy] at u;lia
  refine Sr (Nr (by trivial) entry_len ?_);have g:Ms "len" ⟨[.ref a],[]⟩=pure ():=by
    first
      |exact checkBuiltinCall_of_none (by trivial) (by trivial) _
      |rfl
      |(unfold Ms;rfl)
  refine Hh g ?_;refine Ab ?_;refine Ad (Ab (Bz f Sh (Bt Sh f PySem.F.entry_dict_len ?_ (PySem.F.args_dict_len_1 _))));refine Ab (Ab (Hu f ?_));refine Ad ?_;show wpAny _ _ (do
      let __do_lift<-dictSize a;let __do_lift_1<-Pw a
      retInt (↑__do_lift + ↑__do_lift_1)) _ _ _
  unfold dictSize Pw;rw[hs];refine Ab (Ab (En j hd (Ad ?_)));refine Ab (Ad ?_);have v:((es.size:Nat):Int)+((0:Nat):Int)=es.size:=by lia
  rw[v]
  wp_walk
  refine⟨_,rfl,?_⟩;have B:¬((es.size:Nat):Int)<0:=by lia
  refine Ab (Cn ?_);refine Ad (Ab (Gs ?_));rw[if_neg B,if_neg e]
  wp_walk
  exact h _ _
theorem z8e:CallR X (.builtin "len") (fun xs H Q=>∃d kvs,xs=[V.ref d]/\H d=some (.dT kvs)/\Q (.int kvs.length) H):=by
 intro B s M H xs O Q I r h;obtain⟨d,kvs,rfl,e,q⟩:=h;obtain⟨u,rfl,C⟩:=vals1 r;cases C;obtain⟨z,hd,xs,g,D⟩:=x3m I.hok e;obtain⟨P,E,R,j,G,v,J,L,S⟩:=D;have f:E.size=kvs.length:=by
  have:=congrArg List.length J;rw[Aa,Ge] at this;rw[this,Ez g]
 refine q9q j G v hd (by rw[f];exact z) fun t T=>⟨.int kvs.length,H,I.tok _,⟨t,by rw[f]⟩,q⟩
section
variable{P:Ay}{w:World}
noncomputable def IsPairKey(P:Ay)(w:World)(h:Heap)(k:List Key×Key)(a:Addr):Prop:=∃o n b v,h.get? a=some o/\o.cls=.type "tuple" /\ o.data=.seq #[.ref b,v] n/\IsTupleKey (mixKind P w) h k.1 b/\(mixKind P w).is k.2 v=true
theorem IsPairKey.typeIs{s:Ag}{k:List Key×Key}{a:Addr}(x:IsPairKey P w s.heap k a):s.TypeIs (.ref a) "tuple" := let ⟨o,_,_,_,e,f,_⟩:=x;⟨o,e,f⟩
theorem IsPairKey.inj{h:Heap}{a:Addr}{x y:List Key×Key}(q:IsPairKey P w h x a)(s:IsPairKey P w h y a):x=y:=by
 obtain⟨o,n,b,v,u,_,hd,B,C⟩:=q;obtain⟨D,G,H,I,f,_,e,g,j⟩:=s;obtain rfl:o=D:=Bx (u.symm.trans f);rw[hd] at e;injection e with e1 _;have E:=congrArg Array.toList e1;injection E with e3 e4;injection e3 with e3;injection e4 with e4 _;subst e3 e4;exact Vi (B.inj g) ((mixKind P w).inj _ _ _ C j)
theorem IsPairKey.keeps{h h':Heap}{k:List Key×Key}{a d:Addr}{o:Obj}{es ep}(x:IsPairKey P w h k a)(j:h.get? d=some o)(hd:o.data=.dict es ep)(hs:Gi d h h'):IsPairKey P w h' k a:=by
 obtain⟨q,n,b,v,f,s,e,u,B⟩:=x;have g:a≠d:=by
  rintro rfl;obtain rfl:q=o:=Bx (f.symm.trans j);rw[hd] at e;exact nomatch e
 exact⟨q,n,b,v,(hs.2 a g).trans f,s,e,u.keeps j hd hs,B⟩
noncomputable def pairHash(P:Ay)(w:World)(k:List Key×Key):Int:=reduceHash (Ic [Iq (mixKind P w) k.1,(mixKind P w).hash k.2])
variable{A:Around}{E:Value->Ag->Prop}{s:Ag}
theorem z8f{k:List Key×Key}{a:Addr}{Q:Int->Ag->Prop}(g:A.units+1<cLine)(hk:IsPairKey P w s.heap k a)(h:Q (pairHash P w k) { s with toks:=s.toks+(k.1.length+3) }):
  wpAny (model P w) A (pyHash (.ref a)) Q E s:=by
 have f:=hk.typeIs;obtain⟨o,n,b,v,j,_,hd,u,B⟩:=hk;unfold pyHash;first|unfold pyHashByItsType|skip
 first|refine Ab (wpAny_cRoomFor_or (.inr (by lia)) ?_)|skip
 refine Ab (Kq f Lz.lookup ?_);show wpAny _ _ (if (some (Value.builtin "tuple.__hash__")==some Value.none)=true then _ else _) Q E s;rw[if_neg (by rw[beq_builtin_none];exact Bl)];refine Ab (Kq f Lz.lookup ?_);show wpAny _ _ (callSpecialIfBoundUnlessNone? (.ref a) "__hash__" _ >>= _) Q E s;refine Ab (wpAny_callSpecialIfBoundUnlessNone?_slot f Lz (Bt Lz f F.entry_tuple_hash ?_ (F.args_tuple_hash_1 _)));show wpAny _ _ (Ki (.ref a) >>= _) _ _ s;refine Ab (Ow j hd ?_);refine Ab ?_;rw[<- Ox];refine Im _
  (fun rest (c:Array Int) s'=>(rest=[.ref b,v]/\c.toList=[]/\s'=s)\/(rest=[v]/\c.toList=[Iq (mixKind P w) k.1]/\s'={ s with toks:=s.toks+(k.1.length+1) }) \/
   (rest=[]/\c.toList=[Iq (mixKind P w) k.1,(mixKind P w).hash k.2]/\s'={ s with toks:=s.toks+(k.1.length+2) }))
  _ ?_ ?_ _ _ (.inl ⟨rfl,rfl,rfl⟩)
 ·rintro x rest c s' (⟨e,hc,rfl⟩|⟨e,hc,rfl⟩|⟨e,_⟩)
  ·cases e;refine Ab (wpAny_pyHash_tuple (Fp (knd:=mixKind P w) g) u ?_);have q:∀{x:Array Int},x=c.push (Iq (mixKind P w) k.1)->x.toList=[Iq (mixKind P w) k.1]:=fun e=>by rw[e];simp[hc]
   first
    |exact Ad (.inr (.inl ⟨rfl,q rfl,rfl⟩))
    |exact Ab (Ad (Ad (.inr (.inl ⟨rfl,q rfl,rfl⟩))))
  ·cases e;refine Ab ((mixKind P w).pyHash B ?_);have q:∀{x:Array Int},x=c.push ((mixKind P w).hash k.2)->x.toList=[Iq (mixKind P w) k.1,(mixKind P w).hash k.2]:=fun e=>by rw[e];simp[hc]
   first
    |exact Ad (.inr (.inr ⟨rfl,q rfl,rfl⟩))
    |exact Ab (Ad (Ad (.inr (.inr ⟨rfl,q rfl,rfl⟩))))
  ·cases e
 ·rintro c s' (⟨e,_⟩|⟨e,_⟩|⟨_,hc,rfl⟩)
  ·cases e
  ·cases e
  show wpAny _ _ (retInt (Ic c.toList)) _ _ _;rw[hc];refine wpAny_ret_mkInt ?_;show wpAny _ _ (if (decide (-(2:Int)^63<=Ic [Iq (mixKind P w) k.1,(mixKind P w).hash k.2])&&decide (Ic [Iq (mixKind P w) k.1,(mixKind P w).hash k.2]<2^63))=true then _ else _) Q E _;unfold pairHash reduceHash at h;split
  ·rename_i hr;rw[if_pos hr] at h;exact Ad h
  ·rename_i hr;rw[if_neg hr] at h;exact Ab (Gm (Ad h))
theorem z1q{x y:List Key×Key}{a b:Addr}{R:Fin->Ag->Prop}(Q:A.units<cLine)(S:IsPairKey P w s.heap x a)(L:IsPairKey P w s.heap y b)(h:R (.done (.ret (.bool (decide (x=y))))) s):
  wpAny (model P w) A (Dq.«tuple.__eq__» ⟨[.ref a,.ref b],[]⟩) R E s:=by
 have f:=L.typeIs;obtain⟨W,na,T,M,g,_,j,q,B⟩:=S;obtain⟨X,nb,U,O,C,_,D,G,H⟩:=L;show wpAny _ _ (isInstance (.ref b) (.type "tuple") >>= _) _ _ s;refine Ab (Fn f My ?_);simp only[Ft,Bc,if_false];refine Ab (Ow g j ?_);refine Ab (Ow C D ?_);refine Ab ?_;refine Im _
  (fun rest r I=>r.1=none/\I=s/\((rest=[(.ref T,.ref U),(M,O)])\/(rest=[(M,O)]/\x.1=y.1)\/(rest=[]/\x=y)))
  _ ?_ ?_ _ _ ⟨rfl,rfl,.inl rfl⟩
 ·rintro⟨u,v⟩ rest r I ⟨hr,rfl,e|⟨e,e1⟩|⟨e,_⟩⟩
  ·cases e;refine Ab (wpAny_eqBool_tuple Q q G ?_);by_cases hk:x.1=y.1
   ·rw[decide_eq_true hk];simp only[Ft,Bc,if_false];exact Ad ⟨rfl,rfl,.inr (.inl ⟨by trivial,hk⟩)⟩
   ·rw[decide_eq_false hk];simp only[Ol,if_true];have J:decide (x=y)=false:=decide_eq_false fun z=>hk (by rw[z]);rw[J] at h;exact Ab (Ad (Ad (Ad h)))
  ·cases e;refine Ab ((mixKind P w).eqBool (a:=x.2) (b:=y.2) B H ?_);by_cases hk:x.2=y.2
   ·rw[decide_eq_true hk];simp only[Ft,Bc,if_false];exact Ad ⟨rfl,rfl,.inr (.inr ⟨by trivial,Vi e1 hk⟩)⟩
   ·rw[decide_eq_false hk];simp only[Ol,if_true];have J:decide (x=y)=false:=decide_eq_false fun z=>hk (by rw[z]);rw[J] at h;exact Ab (Ad (Ad (Ad h)))
  ·cases e
 ·rintro⟨r1,r2⟩ I ⟨hr,rfl,e|⟨e,_⟩|⟨_,e⟩⟩
  ·cases e
  ·cases e
  simp only at hr;subst hr;refine Ad ?_;rw[decide_eq_true e] at h;exact h
theorem x4c{x y:List Key×Key}{a b:Addr}{Q:Bool->Ag->Prop}(q:A.units+1<cLine)(g:IsPairKey P w s.heap x a)(j:IsPairKey P w s.heap y b)(h:Q (decide (x=y)) s):
  wpAny (model P w) A (eqBool (.ref a) (.ref b)) Q E s:=by
 unfold eqBool;try with_reducible refine Cn ?_
 show wpAny _ _ (if (Value.ref a==Value.ref b)=true then _ else _) Q E s;by_cases f:(Value.ref a==Value.ref b)=true
 ·rw[if_pos f];have e:a=b:=by have:=eq_of_beq f;injection this
  subst e;obtain rfl:=g.inj j;exact Ab (Gm (Ad (by simpa using h)))
 ·rw[if_neg f];exact Ab (wpAny_richCompare_same_room (op:=.Eq) g.typeIs j.typeIs Nz
   (Bt Nz g.typeIs F.entry_tuple_eq (z1q (Fp (knd:=mixKind P w) q) g j ⟨_,rfl,(fun e=>nomatch e),Dn h⟩) (F.args_tuple_eq_2 _ _)) (by lia))
theorem z2y{n:Nat}{ks:List Key}{a:Addr}{Q:Bool->Ag->Prop}(hk:IsTupleKey (mixKind P w) s.heap ks a)(h:Q true s):wpAny (model P w) A (Uh (n+1) (.ref a)) Q E s:=by
 have B:=hk.typeIs;obtain⟨o,f,m,C,_,hd,D⟩:=hk;unfold Uh;refine Ab (Kq B Nz.lookup ?_);show wpAny _ _ (isInstance (.ref a) (.type "tuple") >>= _) _ _ s;refine Ab (Fn B My ?_);simp only[Ft,Bc,if_false];refine Ab (Ds C hd ?_);refine Ab ?_;show wpAny _ _ (forIn f _ _) _ _ s;rw[<- Ox];refine Im _ (fun rest r g=>r.1=none/\g=s/\∀v∈rest,carriedByValue v=true) _ ?_ ?_ _ _ ⟨rfl,rfl,D.byValue⟩
 ·rintro v rest r g ⟨j,rfl,e⟩;rw[Va _ (e v As)];refine Ab (Ad ?_);simp only[Ft,Bc,if_false];exact Ad ⟨rfl,rfl,fun u q=>e u (Am _ q)⟩
 ·rintro⟨G,H⟩ g ⟨j,rfl,_⟩;simp only at j;subst j;exact Ad h
theorem z5m{k:List Key×Key}{a:Addr}{Q:Bool->Ag->Prop}(hk:IsPairKey P w s.heap k a)(h:Q true s):wpAny (model P w) A (Uh 8 (.ref a)) Q E s:=by
 have j:=hk.typeIs;obtain⟨o,m,b,v,q,_,hd,B,C⟩:=hk;unfold Uh;refine Ab (Kq j Nz.lookup ?_);show wpAny _ _ (isInstance (.ref a) (.type "tuple") >>= _) _ _ s;refine Ab (Fn j My ?_);simp only[Ft,Bc,if_false];refine Ab (Ds q hd ?_);refine Ab ?_;show wpAny _ _ (forIn #[Value.ref b,v] _ _) _ _ s;rw[<- Ox];refine Im _ (fun rest r f=>r.1=none/\f=s/\(rest=[.ref b,v]\/rest=[v]\/rest=[])) _ ?_ ?_ _ _ ⟨rfl,rfl,.inl rfl⟩
 ·rintro u rest r f ⟨g,rfl,e|e|e⟩
  ·cases e;refine Ab (z2y B ?_);simp only[Ft,Bc,if_false];exact Ad ⟨rfl,rfl,.inr (.inl (by trivial))⟩
  ·cases e;rw[Va _ ((mixKind P w).byValue _ _ C)];refine Ab (Ad ?_);simp only[Ft,Bc,if_false];exact Ad ⟨rfl,rfl,.inr (.inr (by trivial))⟩
  ·cases e
 ·rintro⟨D,G⟩ f ⟨g,rfl,_⟩;simp only at g;subst g;exact Ad h
noncomputable def pairKind(P:Ay)(w:World):HeapKind P w (List Key×Key) where
 is:=IsPairKey P w
 hash:=pairHash P w
 draws:=fun k=>k.1.length+3
 room:=fun A=>A.units+1<cLine
 inj:=fun hx hy=>hx.inj hy
 keeps:=fun x ho hd hs=>x.keeps ho hd hs
 pyHash:=fun hu hk h=>z8f hu hk h
 eqBool:=fun hu hx hy h=>x4c hu hx hy h
 quiet:=fun hk h=>z5m hk h
end
noncomputable abbrev PKey:=List Key×Key
noncomputable def hasP(ks:List (PKey×Addr))(k:PKey):Bool:=ks.any fun x=>decide (x.1=k)
noncomputable def entP(ks:List (PKey×Addr)):List (PKey×Addr×Value):=ks.map fun x=>(x.1,x.2,.bool true)
noncomputable def PdO(P:Ay)(w:World)(d:Addr)(ks:List (PKey×Addr)):HO:=.ext fun h=>∃o es ep,h.get? d=some o/\o.ExactDict/\o.data=.dict es ep/\es.toList=(entP ks).map (Sn (pairKind P w))/\((entP ks).map (·.1)).Nodup
noncomputable def PrK(H:Hp)(k:PKey)(a:Addr):Prop:=∃c,H a=some (.tup [.ref c,kV k.2])/\H c=some (.tup (k.1.map kV))
structure DPr (P:Ay) (w:World) (H:Hp) (d:Addr) (ks:List (PKey×Addr)):Prop where
 at_:H d=some (PdO P w d ks)
 sys:(d==Eb)=false
 len:ks.length<=sizeLine
 pk:∀x∈ks,PrK H x.1 x.2
section
variable{P:Ay}{w:World}{H:Hp}{h:Heap}{d a:Addr}{ks:List (PKey×Addr)}{k:PKey}
theorem PrK.of(ok:HOk P w H h)(e:PrK H k a):(pairKind P w).is h k a:=by
 obtain⟨c,f,g⟩:=e;obtain⟨_,j,r,o,q,s,n,u⟩:=(show ObjOk P w H h a (.tup [.ref c,kV k.2]) from ok a _ f)
 cases r with
 |cons r1 r =>
 cases r with
 |cons r2 r =>
 cases r;cases(show _=Value.ref c from r1);exact⟨o,n,c,_,q,s,u,q4x ok g,q9j r2⟩
theorem DPr.of(x:DPr P w H d ks)(ok:HOk P w H h):h.DictOfH (pairKind P w) d (entP ks):=by
 obtain⟨⟨o,e,f,g,j,q,s,u⟩,_⟩:=(show ObjOk P w H h d (PdO P w d ks) from ok d _ x.at_)
 refine⟨o,e,f,g,j,q,s,fun y v=>?_,u⟩;obtain⟨z,B,rfl⟩:=Ac.mp v;exact(x.pk z B).of ok
theorem q8l:(atKey (entP ks) k).isSome=hasP ks k:=by
 unfold atKey entP hasP;rw[Lw];induction ks with
 |nil=>rfl
 |cons x xs ih =>
  rw[Ax,Hr,Mm];cases e:decide (x.1=k)
  ·rw[<- ih];simp[e]
  ·simp[e]
end
theorem PrK.same{H H':Hp}{k:PKey}{a:Addr}(h:PrK H k a)(s:Same H H'):PrK H' k a:=let ⟨c,e,f⟩:=h;⟨c,s _ _ e,s _ _ f⟩
theorem DPr.same{P:Ay}{w:World}{H H':Hp}{d:Addr}{ks:List (PKey×Addr)}(x:DPr P w H d ks)(s:Same H H'):DPr P w H' d ks:=⟨s _ _ x.at_,x.sys,x.len,fun y e=>(x.pk y e).same s⟩
theorem DPr.put{P:Ay}{w:World}{H:Hp}{d b:Addr}{ks:List (PKey×Addr)}{k:PKey}(x:DPr P w H d ks)(e:PrK H k b)(l:ks.length<sizeLine):DPr P w (upd H d (PdO P w d (ks++[(k,b)]))) d (ks++[(k,b)]):=by
 have g:∀{c:Addr} {ys:List V},H c=some (.tup ys)->upd H d (PdO P w d (ks++[(k,b)])) c=some (.tup ys):=fun{c ys} e=>by
  rw[q0d (fun z=>by rw[z,x.at_] at e;cases e)];exact e
 have pk:∀{k':PKey} {a:Addr},PrK H k' a->PrK (upd H d (PdO P w d (ks++[(k,b)]))) k' a:=fun⟨c,h,j⟩=>⟨c,g h,g j⟩
 refine⟨q0b,x.sys,by rw[Al];exact l,fun y f=>?_⟩;rcases Ar.mp f with f|f
 ·exact pk (x.pk y f)
 ·rw[Aj.mp f];exact pk e
section
variable{X:Cx}
noncomputable def tDNewP(P:Ay)(w:World):TE:=fun _ H Q=>∀p,H p=none->(p==Eb)=false->Q (.ref p) (upd H p (PdO P w p []))
theorem z4j{e:Pos}(P:Ay)(w:World)(g:X.prog=P)(j:X.w=w):PE X (.Dict [] [] e) (tDNewP P w):=fun f s D H Q I h=>by
 subst g j;have u:=I.big;have hs:(s.heap.objs.size==Eb)=false:=by rw[beq_eq_false_iff_ne];exact Fl u
 refine wpAny_Dict_empty ⟨.ref s.heap.objs.size,_,I.laid (o:=PdO X.prog X.w s.heap.objs.size []) (t':=s.toks) (fun _ _ q=>Ai _ q) (Au _) ⟨⟨_,#[],0,Aw _ rfl,⟨rfl,rfl,rfl⟩,rfl,rfl,List.nodup_nil⟩,⟨_,Aw _ rfl⟩,fun E G ⟨o,v,B,C,q⟩ k=>⟨o,v,B,k _ C,q⟩⟩,rfl,h _ (I.hok.fresh (Au _)) hs⟩
noncomputable def tPNotIn(P:Ay)(w:World)(ty td:TE):TE:=fun σ H Q=>ty σ H fun y H1=>td σ H1 fun x H2=>∃d ks b k,x=.ref d/\y=.ref b/\DPr P w H2 d ks/\PrK H2 k b/\Q (.bl (!hasP ks k)) H2
theorem z1r{i o:Expr}{g j:TE}(P:Ay)(w:World)(v:X.prog=P)(B:X.w=w)(C:X.A.units+2<cLine)(D:PE X i g)(E:PE X o j):PC X .NotIn i o (tPNotIn P w g j):=by
 subst v B;intro e s q H Q I h;refine thn (D e s q H _ I h) fun G J ⟨y,L,M,O,R⟩=>thn (E e J q L _ M R) fun u Z ⟨x,S,f,T,d,U,b,k,ex,W,dp,pk,Y⟩=>?_;subst ex W;obtain rfl:u=Value.ref d:=T;obtain rfl:G=Value.ref b:=O;refine wpAny_notIn_heap (knd:=pairKind X.prog X.w) C (pk.of f.hok) dp.sys (dp.of f.hok) ?_;rw[q8l];exact⟨.bl (!hasP U k),S,f.tok _,rfl,Y⟩
noncomputable def sPPut(P:Ay)(w:World)(td ty tv:TE):TS:=fun D σ H=>tv σ H fun v H1=>td σ H1 fun x H2=>ty σ H2 fun y H3=>∃d ks b k,x=.ref d/\y=.ref b/\v=.bl true/\DPr P w H3 d ks/\PrK H3 k b/\hasP ks k=false/\ks.length<sizeLine/\D.nx σ (upd H3 d (PdO P w d (ks++[(k,b)])))
theorem z2z{i o f:Expr}{R S T:TE}{C j:Pos}(P:Ay)(w:World)(U:X.prog=P)(W:X.w=w)(Y:X.A.units+2<cLine)(Z:PE X o R)(hi:PE X i S)(hv:PE X f T)(hs:Ku f (some (.Subscript o i j)) C.line X.env=pure false):
  PS X (.Assign [.Subscript o i j] f C) (sPPut P w R S T):=by
 subst U W;intro g s E H D I h;refine Rl (thn (hv g s E H _ I h) fun r s1 ⟨v,H1,I1,rv,G⟩=>thn (Z g s1 E H1 _ I1 G) fun u s2 ⟨x,H2,I2,rx,q2⟩=>thn (hi g s2 E H2 _ I2 q2) fun iv s3 ⟨y,H3,J,ry,d,B,b,k,ex,ey,ev,dp,pk,nk,lk,q3⟩=>?_) hs;subst ex ey ev;obtain rfl:u=Value.ref d:=rx;obtain rfl:iv=Value.ref b:=ry;obtain rfl:r=Value.bool true:=rv;refine Uc (knd:=pairKind X.prog X.w) Y (pk.of J.hok) (dp.of J.hok) (fun h' L hs=>?_) (by unfold entP;rw[Aa];exact Hj lk);have hn:atKey (entP B) k=none:=by
  have:=q8l (ks:=B) (k:=k);rw[nk] at this;cases e:atKey (entP B) k with
  |none=>rfl
  |some _=>rw[e] at this;cases this
 rw[storedH_new hn] at L;have ee:entP B++[(k,b,Value.bool true)]=entP (B++[(k,b)]):=by unfold entP;rw[Ae];rfl
 rw[ee] at L;obtain⟨o,M,O,Q,e2,e3,e4,_,e5⟩:=L;refine⟨E,_,J.write (x:=d) (e:=d) (o:=PdO X.prog X.w d (B++[(k,b)])) (by rw[dp.at_];exact True.intro) (.inl rfl) (fun c q hc z=>(hs.2 c hc).trans z) ⟨o,Q⟩ ⟨⟨o,M,O,Q,e2,e3,e4,e5⟩,⟨o,Q⟩,fun h1 h2 ⟨o,M,O,G,q⟩ k=>⟨o,M,O,k _ G,q⟩⟩,q3⟩
end
theorem z1s{k:Nat}{A:Around}(e:Room k A):A.units+2<cLine:=Lb (Ti (by decide:2<=64) _) e.units
open PySem PySem.Spec PyProof.Rows SB
noncomputable abbrev Zq:=Addr×HRow
noncomputable def rSortR:List V->Hp->VK->Prop:=fun vs H Q=>∃l,∃zs:List Zq,vs=[.ref l]/\H l=some (.lst (zs.map fun z=>V.ref z.1))/\zs.length<64/\(∀z∈zs,PR H z.1 z.2/\Low z.2.1)/\(zs.map (·.2.1)).Nodup /\
 ∀(L:Addr) (zs':List Zq),H L=none->zs'.Perm zs->(zs'.map (·.2.1)).Pairwise (fun a b=>pLt b a=false)->Q (.ref L) (upd H L (.lst (zs'.map fun z=>V.ref z.1)))
theorem z8g:∀{zs:List Zq} {us:List Value},Vals (zs.map fun z=>V.ref z.1) us->us=zs.map fun z=>Value.ref z.1
 |[],_,.nil=>rfl
 |z::zs,_,.cons r t=>by cases r;rw[z8g t];rfl
theorem q8m:∀(zs:List Zq),Vals (zs.map fun z=>V.ref z.1) (zs.map fun z=>Value.ref z.1)
 |[]=>.nil
 |z::zs=>.cons rfl (q8m zs)
theorem q8n(hr:Room k X.A):CallR X (.builtin "sorted") rSortR:=by
 intro a2 s σ H xs us Q I rv h;obtain⟨l,B,rfl,hl,few,hz,nd,q⟩:=h;obtain⟨u,rfl,ru⟩:=rv.one;cases ru;obtain⟨M,O,P⟩:=q5l I hl;have e1:=z8g O;subst e1;refine SB.sorted_ok fun{Q'} kk=>?_;refine Px P ?_;have L:∀b o,s.heap.get? b=some o->((s.heap.push (Io "list" #[] 0)).update s.heap.objs.size (Dp (· ++ (B.map fun z=>Value.ref z.1).toArray))).get? b=some o:=fun b o e=>by
  rw[(El ..).2 b (Bj (Az e))];exact Ai _ e
 have D:s.heap.objs.size<=((s.heap.push (Io "list" #[] 0)).update s.heap.objs.size (Dp (· ++ (B.map fun z=>Value.ref z.1).toArray))).objs.size:=by simp_all
 generalize (s.heap.push (Io "list" #[] 0)).update s.heap.objs.size (Dp (· ++ (B.map fun z=>Value.ref z.1).toArray))=h at L D;have j:∀{z:Zq},z∈B->∃m,PairAt h (.ref z.1) z.2.1 m:=fun{z} v=>by
  obtain⟨b,h1,h2⟩:=(hz z v).1;obtain⟨_,M,r,ht⟩:=(show ObjOk X.prog X.w H s.heap z.1 (.tup [.ref b,z.2.2]) from I.hok _ _ h1)
  cases r with
  |cons r1 r =>
  cases r with
  |cons r2 r =>
  cases r;cases(show _=Value.ref b from r1);exact⟨_,z.1,.ref b,rfl,SB.IsTup.keep ht fun o e=>L _ o e,(I.path h2).keep L⟩
 have f:∀{w:Value},w∈B.map (fun z=>Value.ref z.1)->∃x∈B,w=.ref x.1:=fun{w} E=>by
  obtain⟨x,C,rfl⟩:=Ac.mp E;exact⟨x,C,rfl⟩
 refine kk (B.map fun z=>Value.ref z.1) h s.toks _ _ _ (SB.ready_pairs (ps:=B.map (·.2.1)) (by rw[Aa];exact few) (fun w E=>?_) (fun w E y hy p mm a3 R S=>?_) (by have:=hr.un;lia)) fun h' out so T ⟨e,he⟩=>?_
 ·obtain⟨x,C,rfl⟩:=f E;obtain⟨m,U⟩:=j C;exact⟨_,Ac.mpr ⟨x,C,rfl⟩,m,(hz x C).2,U⟩
 ·obtain⟨x,C,rfl⟩:=f E;obtain⟨x2,G,rfl⟩:=f hy;obtain⟨m,U⟩:=j C;obtain⟨m2,W⟩:=j G;have q1:=SB.PairAt.inj R U;have q2:=SB.PairAt.inj S W;rw[q0q nd C G (q1.symm.trans q2)]
 obtain⟨J,Y,p2⟩:=SB.perm_map_inv so.perm rfl;have g:=so.rise;rw[p2] at g;have Z:=SB.rise_paths (fun w a b ⟨_,x⟩ ⟨_,y⟩=>SB.PairAt.inj x y) (fun z a0=>by
  have v:=Y.mem_iff.mp a0;exact⟨j v,Ac.mpr ⟨_,v,rfl⟩⟩) g
 have keep:=fun b o z=>T b o (L b o z);have a1:=I.hok.fresh D;refine⟨.ref h.objs.size,upd H h.objs.size (.lst (J.map fun z=>V.ref z.1)),I.laid (t':=s.toks) keep D ⟨by rw[Aa,Y.length_eq,Dy];lia,_,e,q8m _,?_⟩,rfl,q _ J a1 Y Z⟩;rw[he,<- p2]
end L2
namespace SB
open PySem PyProof.Rows PySem.SeqAt
open AutoSeq1 (wpAny_loadPart')
open MeetsSeq MeetsSeq2 MeetsSeq3
theorem x0u(l:Addr)(e:Array Value)(n:Nat)(q:Option Addr)(u:Array (Option Value))(k:Nat):
  ∀i:Nat,e.size-i=k->Meets (Dq.«list.__eq__.loop» ⟨[.ref l,.ref l,Ek i,Ek 0],[]⟩)
   (fun _ R s=>s.heap.get? l=some { cls:=.type "list",dict:=q,data:=.seq e n,slots:=u }/\R (.ok (.ret (.bool false))) s):=by
 induction k with
 |zero =>
  intro i hk prog w A R s h;obtain⟨v,g,d,tk,os⟩:=s;obtain⟨hl,h⟩:=h
  wp_walk using wpAny_loadPart' hl
  have f:e[((i:Nat):Int).toNat]?=none:=by simp;lia
  rw[f]
  wp_walk using wpAny_loadPart' hl
  show R (.ok (.ret (.bool (decide (e.size<e.size))))) _;simpa using h
 |succ k ih =>
  intro i hk prog w A R s h;obtain⟨v,g,d,tk,os⟩:=s;obtain⟨hl,h⟩:=h
  wp_walk using wpAny_loadPart' hl
  have j:i<e.size:=by lia
  have f:e[((i:Nat):Int).toNat]?=some e[i]:=by simp[j]
  have B:((i:Int)+1)=((i+1:Nat):Int):=by push_cast;rfl
  rw[f];refine Ab (EqAt.same e[i] prog w _ _ ?_)
  wp_walk
  rw[B];exact⟨Dw plain_eq_loop _,Dv entry_eq_loop (by
   rw[Cv plain_eq_loop _];exact ih (i+1) (by lia) prog w A R _ ⟨hl,h⟩)⟩
theorem x0v (l : Addr) (items : Array Value) (n : Nat) (dd : Option Addr) (sl : Array (Option Value)) : Meets (Dq.«list.__lt__» ⟨[.ref l, .ref l], []⟩)
      (fun _ R s => s.heap.get? l = some { cls := .type "list", dict := dd, data := .seq items n, slots := sl } ∧ R (.ok (.ret (.bool false))) s) := by
  intro prog w A R s h;obtain ⟨hp, g, d, tk, os⟩ := s; obtain ⟨hl, h⟩ := h;have f3 := Rt
  wp_walk using wpAny_loadPart' hl
  exact ⟨Dw plain_eq_loop _, Dv entry_eq_loop (by
    rw [Cv plain_eq_loop _];exact x0u l items n dd sl _ 0 rfl prog w A R _ ⟨hl, h⟩)⟩
theorem x0w (l b : Addr) (items items2 : Array Value) (n n2 : Nat) (dd dd2 : Option Addr) (sl sl2 : Array (Option Value)) {x y : Value} (hx : items[0]? = some x) (hy : items2[0]? = some y) (r : Bool) : Meets (Dq.«list.__lt__» ⟨[.ref l, .ref b], []⟩)
      (fun A R s => s.heap.get? l = some { cls := .type "list", dict := dd, data := .seq items n, slots := sl } ∧ s.heap.get? b = some { cls := .type "list", dict := dd2, data := .seq items2 n2, slots := sl2 } ∧ EqAt A.in1 s x y false ∧
        (∀ (prog : Ay) (w : World) (E : Value → Ag → Prop) (Q : Value → Ag → Prop), Q (.bool r) s → wpAny (model prog w) A.in1 (Rr .Lt x y) Q E s) ∧ R (.ok (.ret (.bool r))) s) := by
  intro prog w A R s h;obtain ⟨hp, g, d, tk, os⟩ := s; obtain ⟨hl, hb, he, hc, h⟩ := h;have f3 := Rt
  wp_walk using wpAny_loadPart' hl, wpAny_loadPart' hb
  refine ⟨Dw plain_eq_loop _, Dv entry_eq_loop ?_⟩;rw [Cv plain_eq_loop _];have go : ∀ i : Nat, i = 0 → wpAny (model prog w) A.in1 (Dq.«list.__eq__.loop» ⟨[.ref l, .ref b, Ek i, Ek 0], []⟩) (fun fin s' => match fin with | .done f => R (.ok f) s' | .again c' => c'.quiet = true ∧ Fu (model prog w) A c' R s') (fun e s' => R (.error e) s') ⟨hp, g, d, tk, os⟩ := fun i e0 => by
    wp_walk using wpAny_loadPart' hl, wpAny_loadPart' hb
    have hi1 : items[((i : Nat) : Int).toNat]? = some x := by rw [e0]; simpa using hx
    have hi2 : items2[((i : Nat) : Int).toNat]? = some y := by rw [e0]; simpa using hy
    rw [hi1, hi2];refine Ab (he prog w _ _ ?_)
    wp_walk using wpAny_loadPart' hl, wpAny_loadPart' hb
    rw [hi1, hi2];refine Ab (hc prog w _ _ ?_)
    wp_walk
    exact h
  exact go 0 rfl
section
variable{prog:Ay}{w:World}{A:Around}{E:Value->Ag->Prop}{s:Ag}{x y:Value}{p q:Pth}
noncomputable def HeadAt(h:Heap)(v:Value)(p:Pth):Prop:=∃a its k,v=.ref a/\h.IsList a its/\its[0]?=some k/\PathAt h k p
theorem HeadAt.keep{h h':Heap}{v:Value}{p:Pth}(x:HeadAt h v p)(k:∀b o,h.get? b=some o->h'.get? b=some o):HeadAt h' v p:=let ⟨a,f,z,e,⟨o,g,r⟩,i,s⟩:=x;⟨a,f,z,e,⟨o,k _ _ g,r⟩,i,s.keep k⟩
theorem HeadAt.inj{h:Heap}{v:Value}(s:HeadAt h v p)(u:HeadAt h v q):p=q:=by
 obtain⟨a,B,k,rfl,⟨o,C,_,n,hd⟩,D,E⟩:=s;obtain⟨a',j,G,e,⟨H,g,_,L,f⟩,I,J⟩:=u;cases e;obtain rfl:o=H:=Bx (C.symm.trans g);rw[hd] at f;injection f with e1 _;subst e1;obtain rfl:k=G:=Bx (D.symm.trans I);exact E.inj J
theorem z8h{Q:Bool->Ag->Prop}(W:HeadAt s.heap x p)(X:HeadAt s.heap y q)(D:p=q->x=y)(Y:Low p)(Z:Low q)(hu:A.units+4<cLine)(h:Q (pLt p q) s):wpAny (model prog w) A (keyLt' oneType' x y) Q E s:=by
 obtain⟨l,f,k,rfl,hl,G,hk⟩:=W;obtain⟨l2,g,k2,rfl,H,j,u⟩:=X;obtain⟨⟨a0,O,P,R⟩,v,S,n,hd⟩:=id hl;obtain⟨⟨U,I,J,L⟩,M,B,n2,C⟩:=id H;simp only at S hd B C;subst S hd B C;rw[keyLt'_oneType,oneLt'_eq];simp only[if_true];refine Ab (wpAny_cRoomFor (by lia) ?_);refine Ab (wpAny_callSpecialIfBound?_slot (T := "list") ⟨_,v,rfl⟩ Oa ?_);by_cases e:p=q
 ·have e1:=D e;cases e1;subst e;rw[q1f] at h;exact Kb Oa ⟨_,v,rfl⟩ Si (Ru _ _) (x0v l f n O R) ⟨v,show wpAny _ _ _ _ _ _ from Dn h⟩
 ·refine Kb Oa ⟨_,v,rfl⟩ Si (Ru _ _) (x0w l l2 f g n n2 O I R L G j (pLt p q)) ⟨v,M,?_,fun prog w E Q h'=>?_,show wpAny _ _ _ _ _ _ from Dn h⟩
  ·have:=z4c (A:=A.in1) hk u Y Z (by show A.units+1+2<_;lia)
   rwa [decide_eq_false e] at this
  ·exact q9o hk u (by show A.units+1<_;lia) h'
theorem z5n{vs:List Value}{Q:Ld->Ag->Prop}(u:2<=vs.length)(q:∀v∈vs,∃a,v=.ref a/\s.TypeIs v "list")(h:Q oneType' s):wpAny (model prog w) A (Vv vs.toArray) Q E s:=by
 rw[keyKind'_eq,Ly];refine Ab (Ab (q7g (g:=fun _=>none) vs (fun v B C f=>?_) (Ad ?_)))
 ·obtain⟨a,rfl,j⟩:=q v B;refine Ab (m:=typeOf (.ref a)) (Gk (T := "list") j ?_);have e:(Value.type "list" != Value.type "tuple")=true:=by decide
  rw[e];simp only[if_true];exact Ad f
 ·cases vs with
  |nil=>simp at u
  |cons v vs =>
   rw[if_neg (by simp),if_neg (by simp)];rw[oneTypeOnly'_eq,Ly];refine Ab (Ab (Ab (q7g (g:=fun _=>Value.type "list") (v::vs) (fun x D C f=>?_) (Ad ?_))))
   ·obtain⟨a,rfl,j⟩:=q x D;exact Gk (T := "list") j f
   ·have G:((v::vs).map fun _=>Value.type "list").toArray[0]?=some (Value.type "list"):=by simp
    have H:(((v::vs).map fun _=>Value.type "list").toArray.all fun x=>x==Value.type "list")=true:=by simp
    rw[G];dsimp only;rw[H];simp only[if_true];exact Ad (Ad (by simpa using h))
theorem ready_lists{ps:List Pth}{vs:List Value}{h:Heap}(few:vs.length<64)(f:∀v∈vs,∃p∈ps,Low p/\HeadAt h v p)(I:∀u∈vs,∀v∈vs,∀p,HeadAt h u p->HeadAt h v p->u=v)(Y:A.units+16<cLine):
  Ready prog w A vs h oneType' (fun v=>v∈vs) (fun v=>(pRank ps (keyBy (HeadAt h) v):Int)) where
 few:=few
 all:=fun v g=>g
 kind:=fun J L M E Q _ k q=>by
  refine z5n J (fun v g=>?_) q;obtain⟨p,_,_,x⟩:=f v g;obtain⟨a,O,z,rfl,⟨o,P,R,n,hd⟩,_,_⟩:=x.keep k;exact⟨a,rfl,o,P,R⟩
 tells:=fun L M Z k E x y Q D G S=>by
  obtain⟨p,j,T,s⟩:=f x D;obtain⟨q,B,U,C⟩:=f y G;refine z8h (s.keep k) (C.keep k) (fun e=>by subst e;exact I x D y G _ s C) T U (by lia) ?_;have H:∀v p q,HeadAt h v p->HeadAt h v q->p=q:=fun v p q a b=>a.inj b
  have W:=q2u H s;have X:=q2u H C;rw[q9n j B,<- W,<- X];exact S
end
section
variable{prog:Ay}{w:World}{A:Around}{R:Result->Ag->Prop}{I:Addr}{fp wr:List Addr}{n:Nat}{P:Nat->Value->Prop}{St:Nat->Heap->Prop}
noncomputable abbrev bestO(vb:Value)(c:Nat):Obj:={ cls:=.type "list",dict:=none,data:=.seq #[vb,vb] c,slots:=#[] }
theorem minLoopName:(toString "min" ++ toString ".loop" : String) = "min.loop" := by decide
structure MinC (prog:Ay) (w:World) (A:Around) (P:Nat->Value->Prop) (bt:Nat->Nat->Bool) (h0:Heap) (wr:List Addr) (S:Addr):Prop where
 old:∀b∈wr,h0.get? b=none
 best:h0.get? S=none
 cmp:∀i j vi vj (s:Ag) (Q:Value->Ag->Prop) (E:Value->Ag->Prop),(∀b o,h0.get? b=some o->s.heap.get? b=some o)->P i vi->P j vj->Q (.bool (bt i j)) s->wpAny (model prog w) A.in1 (Rr .Lt vi vj) Q E s
theorem MinC.keep{bt:Nat->Nat->Bool}{h0 h h':Heap}{S:Addr}(M:MinC prog w A P bt h0 wr S)(f:∀b o,h0.get? b=some o->h.get? b=some o)(k:∀b o,b∉wr->h.get? b=some o->h'.get? b=some o):∀b o,h0.get? b=some o->h'.get? b=some o :=
 fun b o e=>k b o (fun m=>by rw[M.old b m] at e;cases e) (f b o e)
theorem MinC.put{bt:Nat->Nat->Bool}{h0 h:Heap}{S:Addr}{f:Obj->Obj}(M:MinC prog w A P bt h0 wr S)(g:∀b o,h0.get? b=some o->h.get? b=some o):∀b o,h0.get? b=some o->(h.update S f).get? b=some o :=
 fun b o e=>(Cm _ _ (fun z:S=b=>by subst z;rw[M.best] at e;cases e)).trans (g b o e)
theorem min_go{bt:Nat->Nat->Bool}{h0:Heap}{S:Addr}(W:Walks prog w A.in1 I fp wr n P St)(M:MinC prog w A P bt h0 wr S)(D:S∉fp):
  ∀(k j:Nat) (s:Ag) (q:Value) (c:Nat),n-(j+1)=k->j+1<=n->St (j+1) s.heap->P (Hv bt j) q->s.heap.get? S=some (bestO q c)->(∀b o,h0.get? b=some o->s.heap.get? b=some o) ->
  (∀v h' tk,P (Hv bt (n-1)) v->(∀b o,h0.get? b=some o->h'.get? b=some o)->R (.ok (.ret v)) { s with heap:=h',toks:=tk })->Fu (model prog w) A (.builtin "min.loop" ⟨[.ref I,.none,.ref S],[]⟩) R s:=by
 have E:S∉wr:=fun h=>D (W.sub _ h);intro k;induction k with
 |zero =>
  intro j s q c hk U B g G L J;have H:j+1=n:=by lia
  refine Dv Qm ?_;rw[Cv Hg _];show wpAny _ A.in1 (seqItems? (.ref S) >>= _) _ _ s;refine Ab (Ds G rfl ?_);show wpAny _ A.in1 (tryCatch (Hc (.ref I)) _ >>= _) _ _ s;refine Ab (Lo (W.done s _ _ (H▸B) fun h' tk f=>?_));have hS':=f S _ E G;show wpAny _ A.in1 (Mx S (fun _=>#[]) >>= _) _ _ _;refine Ab ?_;refine Gb hS' rfl (Ab (Gs (Ad (J q _ tk (by rw[<- H];exact g) (M.put (M.keep L f))))))
 |succ k ih =>
  intro j s q c hk U B g G L J;have C:j+1<n:=by lia
  refine Dv Qm ?_;rw[Cv Hg _];show wpAny _ A.in1 (seqItems? (.ref S) >>= _) _ _ s;refine Ab (Ds G rfl ?_);show wpAny _ A.in1 (tryCatch (Hc (.ref I)) _ >>= _) _ _ s;refine Ab (Lo (W.item (j+1) s _ _ C B fun v h' tk T u f=>?_));have hS':=f S _ E G;have O:=M.keep L f;show wpAny _ A.in1 (tryCatch (Ll [v,v] (Rr .Lt v q >>= _)) _ >>= _) _ _ _;refine Ab (Lo (Cn (Ab (M.cmp (j+1) (Hv bt j) v q _ _ _ O T g ?_))));refine Ab (Cn (Dn (Ab (Gs (Ad ?_)))));cases hb:bt (j+1) (Hv bt j) with
  |true =>
   simp only[if_true];refine Ab ?_;refine Gb hS' rfl (Ab (Gs ?_));rw[minLoopName];refine Ad ⟨Dw Hg _,ih (j+1) _ v _ (by lia) C (W.frame _ _ _ u fun b Q o e=>?_) (by simp only[Hv,hb,if_true];exact T) (Gp _ hS' rfl) (M.put O) J⟩;exact(Cm _ _ (fun h:S=b=>D (by rw[h];exact Q))).trans e
  |false =>
   simp only[Bc,if_false];refine Ab (Gs ?_);rw[minLoopName];exact Ad ⟨Dw Hg _,ih (j+1) _ q c (by lia) C u (by simp only[Hv,hb,Bc,if_false];exact g) hS' O J⟩
theorem x4d{bt:Nat->Nat->Bool}{h0:Heap}{S:Addr}(W:Walks prog w A.in1 I fp wr n P St)(M:MinC prog w A P bt h0 wr S)(f:S∉fp)(C:0<n){s:Ag}{c:Nat}(q:St 0 s.heap)(D:s.heap.get? S=some { cls:=.type "list",dict:=none,data:=.seq #[] c,slots:=#[] })(E:∀b o,h0.get? b=some o->s.heap.get? b=some o)(G:∀v h' tk,P (Hv bt (n-1)) v->(∀b o,h0.get? b=some o->h'.get? b=some o)->R (.ok (.ret v)) { s with heap:=h',toks:=tk }):
  Fu (model prog w) A (.builtin "min.loop" ⟨[.ref I,.none,.ref S],[]⟩) R s:=by
 have u:S∉wr:=fun h=>f (W.sub _ h);refine Dv Qm ?_;rw[Cv Hg _];show wpAny _ A.in1 (seqItems? (.ref S) >>= _) _ _ s;refine Ab (Ds D rfl ?_);show wpAny _ A.in1 (tryCatch (Hc (.ref I)) _ >>= _) _ _ s;refine Ab (Lo (W.item 0 s _ _ C q fun v h' tk H g j=>?_));have hS':=j S _ u D;show wpAny _ A.in1 (Mx S (fun _=>#[v,v]) >>= _) _ _ _;refine Ab ?_;refine Gb hS' rfl ?_;rw[minLoopName];refine Ad ⟨Dw Hg _,min_go W M f _ 0 _ v _ rfl C (W.frame _ _ _ g fun b B o e=>?_) H (Gp _ hS' rfl) (M.put (M.keep E j)) G⟩;exact(Cm _ _ (fun h:S=b=>f (by rw[h];exact B))).trans e
end
theorem z1t{a b c:Pth}(h:pLt b a=false)(f:pLt c b=false):pLt c a=false:=by
 cases e:pLt c a with
 |false=>rfl
 |true =>
  by_cases g:a=b
  ·subst g;rw[f] at e;cases e
  ·cases e2:pLt a b with
   |false=>exact absurd (q5k e2 h) g
   |true=>have:=q3q e e2;rw[f] at this;cases this
theorem q8o{f:Nat->Pth}:∀k,Hv (fun i j=>pLt (f i) (f j)) k<=k/\∀i,i<=k->pLt (f i) (f (Hv (fun i j=>pLt (f i) (f j)) k))=false
 |0=>⟨Au _,fun i h=>by
   have e:i=0:=Nat.le_zero.mp h;subst e;exact q1f _⟩
 |k+1=>by
  obtain⟨u,q⟩:=q8o (f:=f) k;cases e:pLt (f (k+1)) (f (Hv (fun i j=>pLt (f i) (f j)) k)) with
  |true =>
   simp only[Hv,e,if_true];refine⟨Au _,fun i s=>?_⟩;by_cases g:i=k+1
   ·rw[g];exact q1f _
   ·refine z1t (b:=f (Hv (fun i j=>pLt (f i) (f j)) k)) ?_ (q i (by lia));cases e2:pLt (f (Hv (fun i j=>pLt (f i) (f j)) k)) (f (k+1)) with
    |false=>rfl
    |true=>have:=q3q e e2;rw[q1f] at this;cases this
  |false =>
   simp only[Hv,e,Bc,if_false];refine⟨by lia,fun i s=>?_⟩;by_cases g:i=k+1
   ·rw[g];exact e
   ·exact q i (by lia)
end SB
namespace L2
open PySem PySem.Spec PyProof.Rows SB
noncomputable def rMinP:List V->Hp->VK->Prop:=fun vs H Q=>∃l,∃zs:List Zp,vs=[.ref l]/\H l=some (.lst (zs.map fun z=>V.ref z.1))/\zs≠[]/\zs.length<=sizeLine/\(∀z∈zs,H z.1=some (.tup (vP z.2))) /\
 ∀z∈zs,(∀y∈zs,pLt y.2 z.2=false)->Q (.ref z.1) H
theorem x2j{h:Heap}{b:Addr}(e:h.objs.size<=b):h.get? b=none:=by
 cases q:h.get? b with
 |none=>rfl
 |some o=>exact absurd (Cb (Az q) e) (Fq _)
theorem z8i:∀{zs:List Zp} {us:List Value},Vals (zs.map fun z=>V.ref z.1) us->us=zs.map fun z=>Value.ref z.1
 |[],_,.nil=>rfl
 |z::zs,_,.cons r t=>by cases r;rw[z8i t];rfl
theorem z1u(U:X.calm=true)(W:Room k X.A):CallR X (.builtin "min") rMinP:=by
 intro S s σ H xs us Q I Y h;obtain⟨l,g,rfl,hl,J,few,Z,q⟩:=h;obtain⟨u,rfl,ru⟩:=Y.one;cases ru;obtain⟨a0,L,C⟩:=q5l I hl;have e1:=z8i L;subst e1;have D:l<s.heap.objs.size:=by obtain⟨_,e,_⟩:=C;exact Az e
 have E:0<g.length:=Bw.mpr J;refine call_function_tree F.kind_min F.plain_min F.entry_min (F.args_min1 _) ?_;show wpAny _ X.A.in1 (Oy "min" ["key", "default"] 0 ⟨[],[]⟩ >>= _) _ _ s;refine Ab (Hh (show Oy "min" ["key", "default"] 0 ⟨[],[]⟩=pure [none,none] from rfl) (Ab (Ad ?_)));refine Ab (Pl C (Ab (By ?_)));rw[minLoopName];have G:((g.map fun z=>Value.ref z.1).toArray).size=g.length:=by simp
 refine Ad ⟨Dw Hg _,x4d (I:=s.heap.objs.size) (fp:=[s.heap.objs.size,l]) (wr:=[s.heap.objs.size]) (h0:=s.heap) (bt:=fun i j=>pLt ((g.map (·.2)).getD i []) ((g.map (·.2)).getD j [])) (Walks.list (A:=X.A.in1) (I.ok.hd U) s.heap.objs.size l (Bj D) (g.map fun z=>Value.ref z.1).toArray) ⟨?_,?_,?_⟩ ?_ (by rw[G];exact E) ?_ (Aw _ rfl) ?_ ?_⟩
 ·intro b hb;rw[Aj.mp hb];exact x2j (Au _)
 ·exact x2j (by simp)
 ·intro i j vi vj s' Q' E' M O hj hq;have hz':∀{i:Nat} {v:Value},(g.map fun z=>Value.ref z.1).toArray[i]?=some v->PathAt s'.heap v ((g.map (·.2)).getD i []):=fun{i v} B=>by
   rw[Sj,Ak] at B;cases e:g[i]? with
   |none=>rw[e] at B;cases B
   |some z =>
    rw[e] at B;cases B;have:=(I.path (Z z (Ah e))).keep M;rw[Kk,Ak,e];exact this
  exact q9o (hz' O) (hz' hj) (by have:=W.un;show X.A.units+1<_;lia) hq
 ·intro hm;have e2:(s.heap.push { cls:=Value.type "list_iterator",data:=.fields #[.ref l,.int 0 0] }).objs.size=s.heap.objs.size+1:=size_push' _ _;rcases Bb.mp hm with e|e
  ·have e:(s.heap.push { cls:=Value.type "list_iterator",data:=.fields #[.ref l,.int 0 0] }).objs.size=s.heap.objs.size:=e;lia
  ·have e:(s.heap.push { cls:=Value.type "list_iterator",data:=.fields #[.ref l,.int 0 0] }).objs.size=l:=Aj.mp e;rw[<- e,e2] at D;exact absurd D (Wq.mpr (Jh _))
 ·exact⟨⟨_,Ai _ (Aw _ rfl),rfl,rfl⟩,(C.push _).push _⟩
 ·exact fun b o e=>Ai _ (Ai _ e)
 ·intro v h' tk P M;rw[G] at P;obtain⟨b1,T⟩:=q8o (f:=fun i=>(g.map (·.2)).getD i []) (g.length-1);generalize Hv (fun i j=>pLt ((g.map (·.2)).getD i []) ((g.map (·.2)).getD j [])) (g.length-1)=m at P b1 T;have B:(g.map fun z=>Value.ref z.1).toArray[m]?=some v:=P;rw[Sj,Ak] at B;cases e:g[m]? with
  |none=>rw[e] at B;cases B
  |some z =>
   rw[e] at B;cases B;have ez:(g.map (·.2)).getD m []=z.2:=by rw[Kk,Ak,e];rfl
   refine⟨.ref z.1,H,I.kept (t':=tk) M,rfl,q z (Ah e) fun y hy=>?_⟩;obtain⟨i,O,ey⟩:=List.mem_iff_getElem.mp hy;have:=T i (by lia);rw[ez] at this;have R:(g.map (·.2)).getD i []=y.2:=by rw[Kk,Ak,Bu O,ey];rfl
   have t2:pLt ((g.map (·.2)).getD i []) z.2=false:=this
   rwa [R] at t2
noncomputable def HdL(H:Hp)(a:Addr)(p:Pth):Prop:=∃b rest,H a=some (.lst (.ref b::rest))/\H b=some (.tup (vP p))
noncomputable def rSortH:List V->Hp->VK->Prop:=fun vs H Q=>∃(α:Type) (f:α->Pth) (l:Addr) (zs:List (Addr×α)),vs=[.ref l]/\H l=some (.lst (zs.map fun z=>V.ref z.1))/\zs.length<64/\(∀z∈zs,HdL H z.1 (f z.2)/\Low (f z.2))/\(zs.map fun z=>f z.2).Nodup /\
 ∀(L:Addr) (zs':List (Addr×α)),H L=none->zs'.Perm zs->(zs'.map fun z=>f z.2).Pairwise (fun a b=>pLt b a=false)->Q (.ref L) (upd H L (.lst (zs'.map fun z=>V.ref z.1)))
theorem z8j{e:Type}:∀{zs:List (Addr×e)} {us:List Value},Vals (zs.map fun z=>V.ref z.1) us->us=zs.map fun z=>Value.ref z.1
 |[],_,.nil=>rfl
 |z::zs,_,.cons r t=>by cases r;rw[z8j t];rfl
theorem q8p{e:Type}:∀(zs:List (Addr×e)),Vals (zs.map fun z=>V.ref z.1) (zs.map fun z=>Value.ref z.1)
 |[]=>.nil
 |z::zs=>.cons rfl (q8p zs)
theorem q4a(hr:Room k X.A):CallR X (.builtin "sorted") rSortH:=by
 intro a1 s σ H xs us Q I rv h;obtain⟨α,f,l,C,rfl,hl,few,hz,nd,q⟩:=h;obtain⟨u,rfl,ru⟩:=rv.one;cases ru;obtain⟨a3,P,R⟩:=q5l I hl;have e1:=z8j P;subst e1;refine SB.sorted_ok fun{Q'} kk=>?_;refine Px R ?_;have O:∀b o,s.heap.get? b=some o->((s.heap.push (Io "list" #[] 0)).update s.heap.objs.size (Dp (· ++ (C.map fun z=>Value.ref z.1).toArray))).get? b=some o:=fun b o e=>by
  rw[(El ..).2 b (Bj (Az e))];exact Ai _ e
 have E:s.heap.objs.size<=((s.heap.push (Io "list" #[] 0)).update s.heap.objs.size (Dp (· ++ (C.map fun z=>Value.ref z.1).toArray))).objs.size:=by simp_all
 generalize (s.heap.push (Io "list" #[] 0)).update s.heap.objs.size (Dp (· ++ (C.map fun z=>Value.ref z.1).toArray))=h at O E;have v:∀{z:Addr×α},z∈C->HeadAt h (.ref z.1) (f z.2):=fun{z} B=>by
  obtain⟨b,rest,h1,h2⟩:=(hz z B).1;obtain⟨a2,r,ht⟩:=q5l I h1;cases r with
  |cons r1 r =>
  cases(show _=Value.ref b from r1);obtain⟨o,ho,G⟩:=ht;exact⟨z.1,_,.ref b,rfl,⟨o,O _ _ ho,G⟩,rfl,(I.path h2).keep O⟩
 have g:∀{w:Value},w∈C.map (fun z=>Value.ref z.1)->∃x∈C,w=.ref x.1:=fun{w} J=>by
  obtain⟨x,D,rfl⟩:=Ac.mp J;exact⟨x,D,rfl⟩
 refine kk (C.map fun z=>Value.ref z.1) h s.toks _ _ _ (SB.ready_lists (ps:=C.map fun z=>f z.2) (by rw[Aa];exact few) (fun w J=>?_) (fun w J y hy p S T=>?_) (by have:=hr.un;lia)) fun h' out so U ⟨e,he⟩=>?_
 ·obtain⟨x,D,rfl⟩:=g J;exact⟨_,Ac.mpr ⟨x,D,rfl⟩,(hz x D).2,v D⟩
 ·obtain⟨x,D,rfl⟩:=g J;obtain⟨x2,L,rfl⟩:=g hy;rw[q0q (f:=fun z=>f z.2) nd D L ((S.inj (v D)).symm.trans (T.inj (v L)))]
 obtain⟨M,W,p2⟩:=SB.perm_map_inv so.perm rfl;have j:=so.rise;rw[p2] at j;have Y:=SB.rise_paths (K:=HeadAt h) (f:=fun z:Addr×α=>f z.2) (fun w a b x y=>SB.HeadAt.inj x y) (fun z Z=>by
  have B:=W.mem_iff.mp Z;exact⟨v B,Ac.mpr ⟨_,B,rfl⟩⟩) j
 have keep:=fun b o z=>U b o (O b o z);have a0:=I.hok.fresh E;refine⟨.ref h.objs.size,upd H h.objs.size (.lst (M.map fun z=>V.ref z.1)),I.laid (t':=s.toks) keep E ⟨by rw[Aa,W.length_eq,Dy];lia,_,e,q8p _,?_⟩,rfl,q _ M a0 W Y⟩;rw[he,<- p2]
noncomputable abbrev PVal:=PKey×Addr×Addr
end L2
namespace PySem.Rv
open Sem (wp)
section
variable{prog:Ay}{w:World}{A:Around}{E:Value->Ag->Prop}{s:Ag}{it d v:Addr}{i ep:Nat}{dob:Obj}{ens:Array Oo}
noncomputable abbrev valObj(d:Addr)(n ep:Nat):Obj:={ cls:=.type "dict_valueiterator",data:=.fields #[.ref d,.int 0 0,.int n 0,.int ep 0] }
theorem z3a(g:s.heap.IsValuesView v d)(e:s.heap.get? d=some dob)(f:dob.data=.dict ens ep)(q:Q (.ref s.heap.objs.size) { s with heap:=s.heap.push (valObj d ens.size ep) }):wpAny (model prog w) A (Kv (.ref v)) Q E s:=by
 obtain⟨B,h,u,j⟩:=id g;refine Lx g.typeIs Qv (Bt Qv g.typeIs F.entry_dict_values_iter ?_ (F.args_dict_values_iter_1 _));unfold Dq.«dict_values.__iter__»;refine Ab (Ad (Ab ?_));unfold Pu;refine Ab (Cj h j (x:=.ref d) rfl (Ad (Ab ?_)));unfold Nv;refine Ab (En e f (Ab (Ga e f ?_)));simp only[show Er "dict_valueiterator" = false from by decide,Bc,if_false];refine By (Ad ⟨_,rfl, "dict_valueiterator",_,⟨_,Aw _ rfl,rfl⟩,Fi.lookup,?_⟩);simpa[Ek,valObj] using q
theorem z3b(x:s.heap.IsValIter it d i ens.size ep)(e:s.heap.get? d=some dob)(f:dob.data=.dict ens ep)(g:i<ens.size)(j:∀h',h'.IsValIter it d (i+1) ens.size ep->Gi it s.heap h'->Q (some ens[i].val) { s with heap:=h' }):wpAny (model prog w) A (Hc (.ref it)) Q E s:=by
 obtain⟨o,h,q,hd⟩:=id x;refine Ab (Ep (Bz (name:=Ap "__next__") x.typeIs Fi (Bt Fi x.typeIs Ng ?_ (Mt _))));refine Ab (Ad (Ab (Ab ?_)));first|refine Ab (Hb x.typeIs (Ad ?_))|refine Ab (Ir x.typeIs (Ad ?_))
 refine Ab (Jw h hd ?_);simp only[show Er "dict_valueiterator" = false from by decide,Bc,if_false];show wpAny _ _ (if (Value.ref d==Value.none)=true then _ else _) _ _ s;rw[if_neg (show ¬((Value.ref d==Value.none)=true) from Bl)];refine Ab (Ad (Ab (En e f ?_)));rw[if_neg (by simp)];refine Ab (Ad (Ab (Ga e f ?_)));rw[if_neg (by simp)];refine Ad ?_;simp only[show ¬((i:Int)<0) from by lia,if_false,Ff,Fh g];refine Ab ?_;first|refine Ab (Hb x.typeIs (Ad ?_))|refine Ab (Ir x.typeIs (Ad ?_))
 refine Ab (Mz x.typeIs ?_);show wpAny _ _ (setField (.ref it) 1 (Ek ((i:Int)+1)) >>= _) _ _ s;refine Ab (Ju h hd (by simp) ?_);have x':(s.heap.update it (Mn (·.setIfInBounds 1 (Ek ((i:Int)+1))))).IsValIter it d (i+1) ens.size ep:=⟨_,Gp _ h (Mw (Hm hd _)),(Pm ..).trans q,by rw[Hm hd];simp[Ek]⟩
 refine Ab (Cn (Ab (Mz (s:={ s with heap:=s.heap.update it (Mn (·.setIfInBounds 1 (Ek ((i:Int)+1)))) }) x'.typeIs ?_)));refine Ab (Mz (s:={ s with heap:=s.heap.update it (Mn (·.setIfInBounds 1 (Ek ((i:Int)+1)))) }) x'.typeIs ?_);exact Ad (Ad ⟨_,rfl,Ad (j _ x' (El ..))⟩)
theorem z5o(j:A.handled=none)(x:s.heap.IsValIter it d i ens.size ep)(e:s.heap.get? d=some dob)(f:dob.data=.dict ens ep)(g:ens.size<=i)(q:∀h',Om it s.heap h'->Q none { s with heap:=h' }):wpAny (model prog w) A (Hc (.ref it)) Q E s:=by
 obtain⟨o,h,u,hd⟩:=id x;refine Ab (Ep (Bz (name:=Ap "__next__") x.typeIs Fi (Bt Fi x.typeIs Ng ?_ (Mt _))));refine Ab (Ad (Ab (Ab ?_)));first|refine Ab (Hb x.typeIs (Ad ?_))|refine Ab (Ir x.typeIs (Ad ?_))
 refine Ab (Jw h hd ?_);simp only[show Er "dict_valueiterator" = false from by decide,Bc,if_false];show wpAny _ _ (if (Value.ref d==Value.none)=true then _ else _) _ _ s;rw[if_neg (show ¬((Value.ref d==Value.none)=true) from Bl)];refine Ab (Ad (Ab (En e f ?_)));rw[if_neg (by simp)];refine Ab (Ad (Ab (Ga e f ?_)));rw[if_neg (by simp)];refine Ad ?_;simp only[show ¬((i:Int)<0) from by lia,if_false,Ff,Mg g];refine Ab ?_;first|refine Ab (Hb x.typeIs (Ad ?_))|refine Ab (Ir x.typeIs (Ad ?_))
 show wpAny _ _ (setField (.ref it) 0 .none >>= _) _ _ s;refine Ab (Ju h hd (by simp) ?_);show wpAny _ _ (newExc (.type "StopIteration") [] >>= _) _ _ _;refine Ab ?_;simp only[newExc,newTuple];refine Ab (By (Ab (m:=Lm _ _) (Hh (a:=Value.none) (by first|rfl|(simp only[Lm];rfl)) ?_)) (by size_fits));refine By ?_ (by size_fits);simp only[raiseNew];refine Ab (Pd ?_);rw[show A.in1.handled=none from j];refine Ab (Ad (Rm ?_));refine Ab (Fn (T := "StopIteration") (b:=true) ⟨_,Aw _ rfl,rfl⟩ Jr ?_);exact Ad (q _ (((El ..).extBut.push _).push _))
theorem list_values(hh:A.handled=none)(hv:s.heap.IsValuesView v d)(C:s.heap.get? d=some dob)(J:dob.data=.dict ens ep)(hn:ens.size<=1000)(hQ:∀h' c',(∀b o,s.heap.get? b=some o->h'.get? b=some o)->h'.get? s.heap.objs.size=some { cls:=.type "list",data:=.seq (ens.map (·.val)) c' }->Q (.ref s.heap.objs.size) { s with heap:=h' }):
  wpAny (model prog w) A (call (.type "list") [.ref v]) Q E s:=by
 refine callType_codes (Q₁:=fun obj H=>obj=.ref s.heap.objs.size/\H={ s with heap:=s.heap.push { cls:=.type "list",data:=.seq #[] } }) F.called_list (F.typeCall_list_1 _) F.entry_list_init (code_list_new _ ⟨rfl,rfl⟩) fun obj H Y=>?_;obtain⟨rfl,rfl⟩:=Y;generalize D:s.heap.objs.size=S at hQ;have Z:(s.heap.push { cls:=.type "list",data:=.seq #[] }).get? S=some { cls:=.type "list",data:=.seq #[] }:=by rw[<- D];exact Aw _ rfl
 have kg:∀b o,s.heap.get? b=some o->(s.heap.push { cls:=.type "list",data:=.seq #[] }).get? b=some o:=fun b o e=>Ai _ e;have gz:(s.heap.push { cls:=.type "list",data:=.seq #[] }).objs.size=S+1:=by rw[<- D];exact Fv _ _
 generalize s.heap.push { cls:=.type "list",data:=.seq #[] }=g at Z kg gz;refine⟨⟨_,Z,rfl⟩,F.args_list_init_2 _ _,?_⟩;show wpAny _ _ (do let old<-Fb (.ref S);Dq.List.listUpdate (.ref S) (fun _=>#[]);letGo old.toList.reverse;Hn (.ref S) (.ref v) .none) _ _ _;refine Ab ?_;unfold Fb;refine Ab (Ds Z rfl (Ad ?_));show wpAny _ _ (Mx S (fun _=>#[]) >>= fun _=>letGo (#[]:Array Value).toList.reverse >>= fun _=>Hn (.ref S) (.ref v) .none) _ _ _;refine Ab (Gb Z rfl (Ab (Gs ?_)));have old:∀{b:Addr} {o:Obj},s.heap.get? b=some o->b≠S:=fun{b o} e=>by rw[<- D];exact Bj (Az e)
 have a0:=Es Z (fun _=>(#[]:Array Value));have j:∀b o,s.heap.get? b=some o->(g.update S (Dp fun _=>(#[]:Array Value))).get? b=some o:=fun b o e=>(Cm _ _ (Ei (old e))).trans (kg b o e);have L:(g.update S (Dp fun _=>(#[]:Array Value))).objs.size=S+1:=by rw[(El ..).1];exact gz
 generalize g.update S (Dp fun _=>(#[]:Array Value))=U at a0 j L;obtain⟨ov,G,M,a2⟩:=id hv;unfold Hn;refine Ab (Gk (T := "dict_values") ⟨ov,j _ _ G,M⟩ ?_);have h1:Ip (.ref S) (.ref v)=false:=by simp[Ip,(old G).symm]
 simp only[h1,show(Value.type "dict_values" == Value.type "list")=false from by decide,show(Value.type "dict_values" == Value.type "tuple")=false from by decide,Tf,Bc,if_false];refine Ab (z3a ⟨ov,j _ _ G,M,a2⟩ (j _ _ C) J ?_);rw[L];have kI:∀b o,U.get? b=some o->(U.push (valObj d ens.size ep)).get? b=some o:=fun b o q=>Ai _ q;have gI:(U.push (valObj d ens.size ep)).get? (S+1)=some (valObj d ens.size ep):=by rw[<- L];exact Aw _ rfl
 have O:=kI _ _ a0;have nS:S≠S+1:=Bj (He _);refine Ab (Cn (PySem.W.kdl_hint_values (s:={ s with heap:=U.push (valObj d ens.size ep) }) ⟨ov,kI _ _ (j _ _ G),M⟩ ?_));have W:Runs prog w A.in1 S (S+1) ens.size (fun u _=>u=(ens.map (·.val)).toList.take u.length) (fun i h=>h.IsValIter (S+1) d i ens.size ep/\h.get? d=some dob):=by
  have dS:d≠S:=old C;have dI:d≠S+1:=fun e=>by have:=Az C;rw[D,e] at this;exact absurd this (Wq.mpr (Jh _))
  refine⟨fun u h h' f _=>f,fun i h h' ⟨⟨o,e1,e2⟩,f2⟩ kp=>⟨⟨o,kp _ _ nS.symm e1,e2⟩,kp _ _ dS f2⟩,fun u B Q' E' hl f ⟨i1,i2⟩ hq=>?_,fun B Q' E' ⟨i1,i2⟩ hq=>?_⟩
  ·refine z3b i1 i2 J hl fun h' j1 j2=>hq _ h' ?_ ⟨j1,(j2.2 _ dI).trans i2⟩ fun b o X e=>(j2.2 b X).trans e;have hl':u.length<(ens.map (·.val)).toList.length:=by simpa using hl
   rw[Al,Cr,Et,<- f,Bu hl'];simp
  ·exact z5o hh i1 i2 J (Au _) fun h' eb=>hq h' fun b o X e=>eb b o X e
 have fin:∀(h:Heap) (c:Nat),(∀b o,b≠S->(U.push (valObj d ens.size ep)).get? b=some o->h.get? b=some o)->h.get? S=some { cls:=.type "list",data:=.seq ([]:List Value).toArray c } ->
   Fu (model prog w) A.in1 (.builtin "list.extend.loop" ⟨[.ref S,.ref (S+1),.none],[]⟩) (fun r B=>r=.ok (.ret .none)/\Q (.ref S) B) { s with heap:=h }:=fun h c kh P=>by
  refine grow W nS (by rw[Dy];lia) _ ens.size [] _ c (by simp) (Bf _) rfl ⟨⟨_,kh _ _ nS.symm gI,rfl,rfl⟩,kh _ _ (old C) (kI _ _ (j _ _ C))⟩ P fun u h' c' e f' k' B=>⟨rfl,hQ h' c' (fun b o q=>k' b o (old q) (fun e2=>by have:=Az q;rw[D,e2] at this;exact absurd this (Wq.mpr (Jh _))) (kh b o (old q) (kI _ _ (j _ _ q)))) ?_⟩
  rw[B];have e2:u=(ens.map (·.val)).toList:=by rw[f',e];exact Eh (by simp)
  rw[e2]
 have I:∀(h:Heap) (c:Nat),(∀b o,b≠S->(U.push (valObj d ens.size ep)).get? b=some o->h.get? b=some o)->h.get? S=some { cls:=.type "list",data:=.seq ([]:List Value).toArray c }->∀{R:Result->Ag->Prop},(∀B,Q (.ref S) B->R (.ok (.ret .none)) B) ->
   Fu (model prog w) A.in1 (.builtin "list.extend.loop" ⟨[.ref S,.ref (S+1),.none],[]⟩) R { s with heap:=h }:=fun h c kh P {R} hR=>Ii (fin h c kh P) fun r B ⟨e,q⟩=>by rw[e];exact hR B q
 refine wpAny_ite_split (fun _=>?_) (fun _=>Ad ⟨Dw Gh _,I _ _ (fun b o _ q=>q) O fun B q=>⟨rfl,q⟩⟩);refine Ab (Gm (Ab ?_));show wpAny _ _ (Mx S (·.push .none) >>= fun _=>Mx S (·.pop)) _ _ _;refine Ab (Gb O rfl ?_);have a1:=Es O (fun x=>x.push Value.none);refine Gb a1 rfl ?_;have a3:=Es a1 (fun x=>x.pop);exact Ad ⟨Dw Gh _,I _ _ (fun b o X q=>(Cm _ _ (Ei X)).trans ((Cm _ _ (Ei X)).trans q)) a3 fun B q=>⟨rfl,q⟩⟩
end
end PySem.Rv
namespace L2
open PySem PySem.Spec PyProof.Rows SB
noncomputable def vlO(v d:Addr):HO:=.ext fun h=>h.IsValuesView v d
noncomputable def rValues:V->List V->Hp->VK->Prop:=fun x vs H Q=>∃d rows,x=.ref d/\vs=[]/\H d=some (dR rows)/\∀v,H v=none->Q (.ref v) (upd H v (vlO v d))
theorem z8k:MtR X "dict.values" rValues:=by
 intro B s M H x vs v O Q I E G h;obtain⟨d,rows,rfl,rfl,hd,q⟩:=h;cases E;have j:=G.zero;subst j;obtain⟨f,P,C,R,S,D,g,J,_⟩:=I.rows hd;refine Bt F.slot_dict_values ⟨C,D,g.1⟩ F.entry_dict_values ?_ (F.args_dict_values_1 _);refine Ab ?_;unfold Tq;refine Ab (Hu ⟨C,D,g.1⟩ ?_);show wpAny _ _ (pure d) _ _ s;refine Ad ?_;unfold Jv;rw[if_neg (by rw[f];exact Bl)];refine Ab (Ad (Ab (By (Ad ⟨_,rfl,.ref s.heap.objs.size,_,I.laid (t':=s.toks) (fun b u e=>Ai _ e) (Au _) ?_,rfl,q _ I.fresh⟩))));exact⟨⟨_,Aw _ rfl,rfl,rfl⟩,⟨_,Aw _ rfl⟩,fun T U ⟨o,e,c,L⟩ k=>⟨o,k o e,c,L⟩⟩
noncomputable def rListV:List V->Hp->VK->Prop:=fun vs H Q=>∃v d,∃rows:List HRow,vs=[.ref v]/\H v=some (vlO v d)/\H d=some (dR rows)/\rows.length<=60/\∀L,H L=none->Q (.ref L) (upd H L (.lst (rows.map (·.2))))
theorem z5p(O:X.calm=true):CallR X (.type "list") rListV:=by
 intro E s σ H xs us Q I P h;obtain⟨v,d,rows,rfl,R,hd,few,q⟩:=h;obtain⟨u,rfl,S⟩:=P.one;cases S;obtain⟨G,g,ob,f,ep,T,U,j,nd,J,L,M,W⟩:=I.rows hd;obtain⟨B,_⟩:=(show ObjOk X.prog X.w H s.heap v (vlO v d) from I.hok v _ R)
 have C:∀{l:List (Addr×Value×HRow)},(∀z∈l,RelV z.2.2.2 z.2.1)->Vals ((l.map (·.2.2)).map (·.2)) (l.map (·.2.1)):=fun{l}=>by
  induction l with
  |nil=>exact fun _=>.nil
  |cons z l ih=>exact fun h=>.cons (h z As) (ih fun y Y=>h y (Am _ Y))
 have Z:(f.map (·.val)).toList=J.map (·.2.1):=by
  have:=congrArg (List.map (·.2)) M;rw[An,An] at this;rw[Qk];exact this
 have D:f.size<=1000:=by
  have e1:=congrArg List.length M;have e2:=congrArg List.length L;rw[Aa,Aa] at e1;rw[Aa] at e2;have:f.toList.length=f.size:=rfl;lia
 refine PySem.Rv.list_values (I.ok.hd O) B T j D fun h' c' kp e=>⟨.ref s.heap.objs.size,_,I.laid (t':=s.toks) kp (Au _) (show ObjOk X.prog X.w _ h' _ (.lst (rows.map (·.2))) from⟨by rw[Aa];exact g,J.map (·.2.1),c',?_,?_⟩),rfl,q _ (I.hok.fresh (Au _))⟩
 ·rw[<- L];exact C fun z g=>(W z g).2
 ·rw[e,<- Z]
end L2
set_option maxHeartbeats 4000000
namespace K
open PySem L2 TX SB HM
noncomputable def top(i:Nat):Stmt:=PySem.Challenge.pw_renamehall_k91_whole_letters_exchanged.main.body.getD i (.Pass ⟨0,0,0,0⟩)
structure Txt (mg:Str->Option Value):Prop where
 b_all:mg "all" = none
 b_dict:mg "dict" = none
 b_enumerate:mg "enumerate" = none
 b_isinstance:mg "isinstance" = none
 b_len:mg "len" = none
 b_list:mg "list" = none
 b_max:mg "max" = none
 b_min:mg "min" = none
 b_range:mg "range" = none
 b_reversed:mg "reversed" = none
 b_sorted:mg "sorted" = none
 b_str:mg "str" = none
 b_tuple:mg "tuple" = none
 b_zip:mg "zip" = none
structure Calls (P:Ay) (w:World) (K:Aq) (mg:Str->Option Value) (base:Heap):Prop where
 draw:Cal P w K mg base "_law_draw" 1 ["_law_feed", "_law_many"] spDraw
section
variable{P:Ay}{w:World}{K:Aq}{mg:Str->Option Value}{base:Heap}
noncomputable abbrev z3c:Stmt:=top 36
theorem sc_draw:FnScope ["_law_feed", "_law_many", "_law_cell", "_law_number", "_law_found"] ["_law_feed", "_law_many"] (defScope z3c):=by trivial
theorem x4e (D : Df K mg "_law_draw" z3c ["_law_feed", "_law_many"]) (T : Txt mg) : Cal P w K mg base "_law_draw" 1 ["_law_feed", "_law_many"] spDraw := by
  refine D.cal sc_draw (fun vs H Q E h => ?_) (fun f cdv A outer s H vs Q E hr h => ?_)
  · obtain ⟨a, b, m, rfl, _⟩ := h; rfl
  · obtain ⟨a, b, m, rfl, ⟨⟨i, j, ha⟩, ns, hb⟩, hm0, hm1, k⟩ := h;refine ⟨_, (q0e (q7u (q1d q1j (q1k (ix_k K rfl) (pv 0) q0g (fun _ _ => rfl)) q0g) (z6f (pv 0) q0g q8y)) (q0e (q1s (q0n (eq_k K rfl hr) (q1k (ix_k K rfl) (pv 0) q0g (fun _ _ => rfl)) q0g (nomark _)) (q0e (q0j (i := 2) sc_draw.nd rfl (by first | exact Or.inl rfl | exact Or.inr rfl) (q1k (ix_k K rfl) (pv 0) q0g (fun _ _ => rfl))) (q0e (q1s (q0n op_gt (q0l (q3o K rfl) (by rfl) T.b_len Cs (q0a (q1k (ix_k K rfl) (pv 0) q0g (fun _ _ => rfl)) q0c)) q0g (nomark _)) (q0f (q0j (i := 2) sc_draw.nd rfl (by first | exact Or.inl rfl | exact Or.inr rfl) (q1k (ix_k K rfl) (q1k (ix_k K rfl) (pv 0) q0g (fun _ _ => rfl)) (q1d q7v (q1k (ix_k K rfl) (pv 0) q0g (fun _ _ => rfl)) (q0l (q3o K rfl) (by rfl) T.b_len Cs (q0a (q1k (ix_k K rfl) (pv 0) q0g (fun _ _ => rfl)) q0c))) (fun _ _ => rfl)))) q0o) (q0e (q1s (q0n z9o (pv 2) (q1d x1t q0g q0g) (nomark _)) (q0e (q0j (i := 3) sc_draw.nd rfl (by first | exact Or.inl rfl | exact Or.inr rfl) (q1d q7v (q1d z2q (q1d q1j (q1d q1j (q1d q7v (pv 2) q0g) (q1d z2q q0g (q1k (ix_k K rfl) (pv 0) q0g (fun _ _ => rfl)))) q0g) q0g) q0g)) (q0e (q0j (i := 3) sc_draw.nd rfl (by first | exact Or.inl rfl | exact Or.inr rfl) (q1d q7v (q1d z2q (pv 3) (q1d q1j (pv 3) q0g)) q0g)) (q0f (q0m (q1d q7v (q1d z6i (pv 3) q0g) (pv 1)))))) q0o) (q0f (q7u (pv 2) (z6f (pv 0) q0g q8y)))))) q0o) (q0e (q0j (i := 4) sc_draw.nd rfl (by first | exact Or.inl rfl | exact Or.inr rfl) (q1d q7v (q1k (ix_k K rfl) (pv 0) q0g (fun _ _ => rfl)) (pv 1))) (q0e (q7u (q1d z6i (q1k (ix_k K rfl) (pv 0) q0g (fun _ _ => rfl)) (pv 1)) (z6f (pv 0) q0g q8y)) (q0f (q0m (pv 4))))))), ?_⟩;have nba : b ≠ a := FeedAt.ne ⟨⟨i, j, ha⟩, ns, hb⟩;refine ⟨_, rfl, .inl ⟨a, _, 1, _, rfl, rfl, SqL.of ha, rfl, .inl ⟨_, _, rfl, rfl, _, rfl, a, _, 1, 1, rfl, rfl, ha, rfl, ?_⟩⟩⟩;generalize hH1 : upd H a _ = H1;have ha1 : H1 a = some (.lst [.ref b, .int (i + 1), .int j]) := by rw [← hH1]; exact q0b
    have hb1 : H1 b = some (.lst (ns.map V.int)) := by rw [← hH1, q0d nba]; exact hb
    have fd : ∀ (x y : Int), Fd a b H (upd H1 a (.lst [.ref b, .int x, .int y])) := fun x y => ⟨⟨⟨x, y, q0b⟩, ns, by rw [q0d nba]; exact hb1⟩, fun c o e hc => by rw [q0d hc, ← hH1, q0d hc]; exact e⟩
    have fd1 : Fd a b H H1 := ⟨⟨⟨_, _, ha1⟩, ns, hb1⟩, fun c o e hc => by rw [← hH1, q0d hc]; exact e⟩
    refine ⟨_, rfl, .inl ⟨a, _, 2, _, rfl, rfl, SqL.of ha1, rfl, .inl ⟨rfl, _, rfl, ?_⟩⟩⟩;have last : ∀ (H2 : Hp) (σ2 : St) (y : Int), H2 a = some (.lst [.ref b, .int (i + 1), .int y]) → (∀ x y : Int, Fd a b H (upd H2 a (.lst [.ref b, .int x, .int y]))) → σ2[0]? = some (some (.ref a)) → σ2[1]? = some (some (.int m)) → σ2.length = 5 →
        tSeq (tAsg (tOp (rI (fun _ j => 0 < j) fun i j => .int (i % j)) (tOp (rIx K) (tVar 0) (tC (.int 2))) (tVar 1)) (gName 4)) (tSeq (tAsg (tOp (rI CDiv fun i j => .int (i / j)) (tOp (rIx K) (tVar 0) (tC (.int 2))) (tVar 1)) (gSub (tVar 0) (tC (.int 2)) rSetL)) (tRet (tVar 4))) { nx := fun _ H' => Q .non H', rt := Q } σ2 H2 := by
      intro H2 σ2 y h2 f2 e0 e1 el;match σ2, e0, e1, el with
      | [x0, x1, x2, x3, x4], e0, e1, _ =>
        cases e0;cases e1;refine ⟨_, rfl, .inl ⟨a, _, 2, _, rfl, rfl, SqL.of h2, rfl, _, rfl, _, _, rfl, rfl, hm0, ?_⟩⟩;refine ⟨_, rfl, .inl ⟨a, _, 2, _, rfl, rfl, SqL.of h2, rfl, _, rfl, _, _, rfl, rfl, ⟨hm0, hm1⟩, _, rfl, a, _, 2, 2, rfl, rfl, h2, rfl, _, rfl, ?_⟩⟩;exact k _ _ (Nq _ (by lia)) (Lc _ hm0) (f2 _ _)
    refine ite2 (fun _ => ?_) (fun _ => last H1 _ j ha1 fd rfl rfl rfl);refine ⟨_, rfl, .inl ⟨a, _, 1, _, rfl, rfl, SqL.of ha1, rfl, ?_⟩⟩;refine ⟨_, rfl, .inl ⟨a, _, 0, _, rfl, rfl, SqL.of ha1, rfl, ⟨_, _, rfl, .inl ⟨_, SqL.of hb1, rfl⟩, ⟨_, _, rfl, rfl, _, rfl, ?_⟩⟩⟩⟩
    have rest : ∀ cell : Int, tSeq (tIfS (tTest (tOp (rI0 fun i j => .bl (decide (i < j))) (tVar 2) (tOp (rI CPow fun i j => .int (i ^ j.toNat)) (tC (.int 10)) (tC (.int 18)))))
          (tSeq (tAsg (tOp (rI (fun _ j => 0 < j) fun i j => .int (i % j)) (tOp rMulU (tOp rAddU (tOp rAddU (tOp (rI (fun _ j => 0 < j) fun i j => .int (i % j)) (tVar 2) (tC (.int 2147483647))) (tOp rMulU (tC (.int 613)) (tOp (rIx K) (tVar 0) (tC (.int 1))))) (tC (.int 7))) (tC (.int 48271))) (tC (.int 2147483647))) (gName 3))
            (tSeq (tAsg (tOp (rI (fun _ j => 0 < j) fun i j => .int (i % j)) (tOp rMulU (tVar 3) (tOp rAddU (tVar 3) (tC (.int 69621)))) (tC (.int 2147483629))) (gName 3))
              (tRet (tOp (rI (fun _ j => 0 < j) fun i j => .int (i % j)) (tOp (rI CDiv fun i j => .int (i / j)) (tVar 3) (tC (.int 64))) (tVar 1))))) tNext)
          (tAsg (tVar 2) (gSub (tVar 0) (tC (.int 2)) rSetL))
        { nx := fun σ2 H2 => tSeq (tAsg (tOp (rI (fun _ j => 0 < j) fun i j => .int (i % j)) (tOp (rIx K) (tVar 0) (tC (.int 2))) (tVar 1)) (gName 4)) (tSeq (tAsg (tOp (rI CDiv fun i j => .int (i / j)) (tOp (rIx K) (tVar 0) (tC (.int 2))) (tVar 1)) (gSub (tVar 0) (tC (.int 2)) rSetL)) (tRet (tVar 4))) { nx := fun _ H' => Q .non H', rt := Q } σ2 H2, rt := Q }
        [some (.ref a), some (.int m), some (.int cell), none, none] H1 := by
      intro cell;refine ⟨_, rfl, _, _, rfl, rfl, ⟨by decide, by decide, by decide⟩, _, _, rfl, rfl, _, rfl, ?_⟩;refine ite2 (fun _ => ?_) (fun _ => ?_)
      · refine ⟨_, rfl, _, _, rfl, rfl, (by show (0 : Int) < 2147483647; decide), ?_⟩;refine ⟨_, rfl, .inl ⟨a, _, 1, _, rfl, rfl, SqL.of ha1, rfl, .inl ⟨_, _, rfl, rfl, .inl ⟨by decide, by decide⟩, .inl ⟨_, _, rfl, rfl, .inl ⟨_, _, rfl, rfl, .inl ⟨_, _, rfl, rfl, .inr ⟨by decide, by decide⟩, _, _, rfl, rfl, (by show (0 : Int) < 2147483647; decide), ?_⟩⟩⟩⟩⟩⟩;generalize hn : ((cell % 2147483647 + 613 * (i + 1) + 7) * 48271) % 2147483647 = n;have n0 : 0 ≤ n := by rw [← hn]; exact Nq _ (by decide)
        have n1 : n < 2147483647 := by rw [← hn]; exact Lc _ (by decide)
        refine ⟨_, rfl, _, rfl, .inl ⟨_, _, rfl, rfl, .inl ⟨_, _, rfl, rfl, .inl ⟨by lia, by lia⟩, _, _, rfl, rfl, (by show (0 : Int) < 2147483629; decide), ?_⟩⟩⟩;refine ⟨_, rfl, _, _, rfl, rfl, ⟨by decide, by decide⟩, _, rfl, _, _, rfl, rfl, hm0, ?_⟩;exact k _ _ (Nq _ (by lia)) (Lc _ hm0) fd1
      · refine ⟨_, rfl, _, rfl, a, _, 2, 2, rfl, rfl, ha1, rfl, ?_⟩;refine last _ _ cell q0b (fun x y => ?_) rfl rfl rfl;have := fd x y;rw [x2u];exact this
    refine ite2 (fun hl => ?_) (fun _ => rest _);have hne : ns.map V.int ≠ [] := by
      intro z;rw [z] at hl;simp at hl
    obtain ⟨x, hx, ex⟩ := x3h (i + 1) hne;obtain ⟨c, rfl⟩ : ∃ c, x = V.int c := by
      obtain ⟨c, _, e⟩ := Ac.mp hx;exact ⟨c, e.symm⟩
    refine ⟨_, rfl, .inl ⟨a, _, 0, _, rfl, rfl, SqL.of ha1, rfl, ⟨_, rfl, .inl ⟨a, _, 1, _, rfl, rfl, SqL.of ha1, rfl, ⟨_, rfl, .inl ⟨a, _, 0, _, rfl, rfl, SqL.of ha1, rfl, ⟨_, _, rfl, .inl ⟨_, SqL.of hb1, rfl⟩, _, _, rfl, rfl, ?_, ?_⟩⟩⟩⟩⟩⟩⟩
    · have : 0 < (ns.map V.int).length := by
        cases e : ns.map V.int with
        | nil => exact absurd e hne
        | cons _ _ => simp
      show (0 : Int) < ((ns.map V.int).length : Int);lia
    · exact .inl ⟨b, _, _, _, rfl, rfl, SqL.of hb1, ex, rest c⟩
noncomputable abbrev z3d:Stmt:=top 39
theorem x4f:FnScope ["_law_feed", "_law_signs", "_law_size"] ["_law_feed", "_law_signs", "_law_size"] (defScope z3d):=by trivial
theorem x4g(D:Df K mg "_law_text" z3d ["_law_feed", "_law_signs", "_law_size"])(T:Txt mg)(draw:Cal P w K mg base "_law_draw" 1 ["_law_feed", "_law_many"] spDraw):Cal P w K mg base "_law_text" 2 ["_law_feed", "_law_signs", "_law_size"] spText:=by
 refine D.cal x4f (fun vs H Q E h=>?_) (fun f O A outer s H vs Q E R h=>?_)
 ·obtain⟨a,b,g,n,rfl,_⟩:=h;rfl
 ·obtain⟨a,b,g,n,rfl,F,S,U,W,X,k⟩:=h;have C:Calls P w K mg base:=⟨draw⟩
  refine⟨_,(q0f (q0m (@bm_k _ _ _ _ _ _ _ _ _ _ _ _ K rfl Dd Na Nb (z7b K rfl) q1v (q0a (q1g ["_law_k"] [("_law_signs",1),("_law_feed",0)] rfl (q3l rfl T.b_range (q0a (pv 2) q0c)) (fun _ _ _ _ _=>(q0h (i:=0) (show(["_law_k", "_law_signs", "_law_feed"]:List Str).Nodup by trivial) rfl (by trivial))) (fun _ _ _ _ _=>q1n) (fun _ _ _ _ _=>(q1k (ix_k K rfl) (pv 1) (pe_c C.draw R (q0a (pv 2) (q0a (q0l (q3o K rfl) (by rfl) T.b_len Cs (q0a (pv 1) q0c)) q0c))) (fun _ _=>rfl)))) q0c) (by rfl) (by rfl) (by rfl) (by rfl) (by rfl)))),?_⟩;refine⟨rfl,_,rfl,n,rfl,by lia,by lia,fun D G=>?_⟩;refine z2s (n:=n.toNat) (fun i v u=>∃j:List Nat,v=j.map (fun c=>V.str ⟨#[c]⟩)/\j.length=i/\i<=n.toNat/\(∀c∈j,c∈tl g)/\Fd a b H u/\u D=some (.lst v)) ⟨[],rfl,rfl,Bf _,fun _ h=>(nomatch h),(Fd.refl F).new G,q0b⟩ (fun i v u ⟨j,_,_,_,_,_,h⟩=>h) ?_ ?_
  ·rintro i v u hi ⟨j,rfl,hl,_,I,fd,q⟩;refine⟨_,rfl,_,rfl,_,rfl,_,_,rfl,⟨small (by lia),rfl⟩,a,b,_,rfl,fd.feed,by lia,by lia,fun r H2 Y r1 B=>?_⟩;have Z:(tl g).length=g.length:=(len g).symm;obtain⟨c,J,L⟩:=q7z (xs:=tl g) Y (by lia);refine .inr (.inr ⟨g,r,c,rfl,rfl,small (by lia),L,?_⟩);have M:D≠a:=fun z=>by subst z;exact F.na G rfl
   refine⟨B.at q M,small' (by rw[Aa];lia),j++[c],by rw[Ae];rfl,by rw[Al,hl];rfl,by lia,fun d hd=>?_,(fd.trans B).put F G,q0b⟩;rcases Ar.mp hd with z|z
   ·exact I d z
   ·rw[Aj.mp z];exact Ah J
  ·rintro v u ⟨j,rfl,hl,_,I,fd,q⟩;have e:j.map (fun c=>V.str ⟨#[c]⟩)=(j.map fun c=>(⟨#[c]⟩:Str)).map V.str:=by rw[An];rfl
   refine⟨_,D,j.map fun c=>⟨#[c]⟩,rfl,rfl,.inl (SqL.of (by rw[<- e];exact q)),?_,?_⟩
   ·rw[q9i,Aa];have:(Ap "").length=0:=by trivial
    rw[this];lia
   ·have z:=q7a j;rw[z];exact k j u hl I fd
theorem q1b(p:Pth):(vP p).length=p.length:=Aa _
theorem q1h{q:Pth}(h:q≠[]):cutV (vP q) none (some (-1))=vP q.dropLast/\¬(HT.sIx (vP q).length 0 none=0/\HT.sIx (vP q).length (vP q).length (some (-1))=(vP q).length):=by
 have hl:=Bw.mpr h;have e:HT.sIx (vP q).length (vP q).length (some (-1))=q.length-1:=by
  show(if (-1:Int)<0 then((-1:Int)+((vP q).length:Int)).toNat else min (-1:Int).toNat (vP q).length)=_;rw[if_pos (by decide),q1b];lia
 refine⟨?_,fun z=>by rw[e,q1b] at z;lia⟩;unfold cutV;rw[e];show((vP q).drop 0).take _=_;rw[Jy];show(vP q).take (q.length-1-0)=_;rw[Jx,<- Jb,<- Sg]
theorem q4o{q:Pth}(h:q≠[]):atI (vP q) (-1)=some (.str (mk (q.getLastD []))):=by
 have hl:=Bw.mpr h;unfold atI ixN;rw[if_neg (by decide),if_pos (by rw[q1b];lia)];have e:((-1:Int)+((vP q).length:Int)).toNat=q.length-1:=by rw[q1b];lia
 show(vP q)[((-1:Int)+((vP q).length:Int)).toNat]?=_;rw[e,Ak,<- Cz,Cy,Bh h];rfl
theorem q2w{q:Pth}(h:okP q):okN (q.getLastD []):=by
 rw[Cy,Bh h.ne];exact h.all _ (List.getLast_mem h.ne)
theorem z4k{n:List Nat}(h:∀c∈n,c<128):Jf (mk n)=mk (lowN n):=by
 apply ext;rw[TX.lower (by rw[q2m];exact h),q2m,q2m];rfl
noncomputable abbrev q3b:Stmt:=top 37
theorem q9r:FnScope [] [] (defScope q3b):=by trivial
theorem q9s(D:Df K mg "_law_name_signs" q3b []):Cal P w K mg base "_law_name_signs" 1 [] (spConst HM.NSs):=by
 refine D.cal q9r (fun vs H Q E h=>?_) (fun f e A outer s H vs Q E g h=>?_)
 ·obtain⟨rfl,_⟩:=h;rfl
 ·obtain⟨rfl,k⟩:=h;refine⟨_,(q0f (q0m q1v)),?_⟩;exact k
structure CallsAN (P:Ay) (w:World) (K:Aq) (mg:Str->Option Value) (base:Heap):Prop where
 draw:Cal P w K mg base "_law_draw" 1 ["_law_feed", "_law_many"] spDraw
 text:Cal P w K mg base "_law_text" 2 ["_law_feed", "_law_signs", "_law_size"] spText
 name_signs:Cal P w K mg base "_law_name_signs" 1 [] (spConst HM.NSs)
noncomputable def spName:Sp:=fun vs H Q _=>∃a b,vs=[.ref a]/\FeedAt H a b/\∀(t:List Nat) H',okN t->Fd a b H H'->Q (.str (mk t)) H'
theorem fig_in:∀c∈tl (Ap "0123456789"),c∈HM.NS:=by trivial
noncomputable abbrev q7l:Stmt:=top 40
theorem sc_a_name:FnScope ["_law_feed", "_law_way"] ["_law_feed"] (defScope q7l):=by trivial
theorem z8l(D:Df K mg "_law_a_name" q7l ["_law_feed"])(T:Txt mg)(C:CallsAN P w K mg base):Cal P w K mg base "_law_a_name" 3 ["_law_feed"] spName:=by
 refine D.cal sc_a_name (fun vs H Q E h=>?_) (fun f a0 A outer s H vs Q E v h=>?_)
 ·obtain⟨a,b,rfl,_⟩:=h;rfl
 ·obtain⟨a,b,rfl,F,k⟩:=h;refine⟨_,(q0e (q0j (i:=1) sc_a_name.nd rfl (by trivial) (pe_c C.draw v (q0a (pv 0) (q0a q0g q0c)))) (q0e (q1s (q0n (eq_k K rfl v) (pv 1) q0g (nomark _)) (q0f (q0m (pe_c C.text v (q0a (pv 0) (q0a (pe_c0 C.name_signs v) (q0a (q1d q1j q0g (pe_c C.draw v (q0a (pv 0) (q0a q0g q0c)))) q0c)))))) q0o) (q0e (q1s (q0n (eq_k K rfl v) (pv 1) q0g (nomark _)) (q0f (q0m (q1d q1j (q1k (ix_k K rfl) (q2a (q0a q1v (q0a q1v (q0a q1v q0c)))) (pe_c C.draw v (q0a (pv 0) (q0a q0g q0c))) (fun _ _=>rfl)) (pe_c C.text v (q0a (pv 0) (q0a q1v (q0a (q1d q1j q0g (pe_c C.draw v (q0a (pv 0) (q0a q0g q0c)))) q0c))))))) q0o) (q0f (q0m (pe_c C.text v (q0a (pv 0) (q0a (q0p (sl_k K rfl) q1v q0r (q0s (q1d q1j q0g (pe_c C.draw v (q0a (pv 0) (q0a q0g q0c)))))) (q0a (q1d q1j q0g (pe_c C.draw v (q0a (pv 0) (q0a q0g q0c)))) q0c))))))))),?_⟩;refine⟨_,rfl,a,b,_,rfl,F,by decide,by decide,fun r1 H1 a1 a2 j=>?_⟩;have Z:∀{g:Str} {n:Int} {I:Hp},Fd a b H I->(∀c∈tl g,c∈HM.NS)->1<=n->n<=12->∀(t:List Nat) H',t.length=n.toNat->(∀c∈t,c∈tl g)->Fd a b I H'->Q (.str (mk t)) H':=fun{g n I} fd hg n1 n2 t H' l R fd'=>k t H' ⟨by lia,by lia,fun c h=>hg c (R c h)⟩ (fd.trans fd')
  refine⟨_,rfl,.inl ⟨rfl,_,rfl,ite2 (fun h=>?_) (fun h=>?_)⟩⟩
  ·refine⟨_,rfl,rfl,_,rfl,a,b,_,rfl,j.feed,by decide,by decide,fun u I J L q=>.inl ⟨_,_,rfl,rfl,?_⟩⟩;exact⟨a,b,HM.NSs,_,rfl,(j.trans q).feed,by trivial,by trivial,by lia,by lia,Z (j.trans q) (fun c h=>h) (by lia) (by lia)⟩
  refine⟨_,rfl,.inl ⟨rfl,_,rfl,ite2 (fun h=>?_) (fun h=>?_)⟩⟩
  ·refine⟨by show 3<=sizeLine;decide,fun M hM=>?_⟩;have O:=j.new (o:=.lst [.str (Ap "img"),.str (Ap "IMG"),.str (Ap "a")]) hM;have S:M≠a:=(j.feed.na hM).symm;refine⟨_,rfl,a,b,_,rfl,O.feed,by decide,by decide,fun u I J L q=>?_⟩;have G:∃g:List Nat,atI [V.str (Ap "img"),V.str (Ap "IMG"),V.str (Ap "a")] u=some (.str (mk g))/\g.length<=3/\∀c∈g,c∈HM.NS:=by
    have e:u=0\/u=1\/u=2:=by lia
    rcases e with rfl|rfl|rfl
    ·exact⟨tl (Ap "img"),by rw[z7d];rfl,by trivial,by trivial⟩
    ·exact⟨tl (Ap "IMG"),by rw[z7d];rfl,by trivial,by trivial⟩
    ·exact⟨tl (Ap "a"),by rw[z7d];rfl,by trivial,by trivial⟩
   obtain⟨g,G,a3,U⟩:=G;refine .inl ⟨M,_,u,_,rfl,rfl,SqL.of (q.at q0b S),G,?_⟩;have fd2':=O.trans q;refine⟨_,rfl,_,rfl,a,b,_,rfl,fd2'.feed,by decide,by decide,fun r3 H3 W X B=>.inl ⟨_,_,rfl,rfl,?_⟩⟩;have fd3':=fd2'.trans B;refine⟨a,b,Ap "0123456789",_,rfl,fd3'.feed,by trivial,by trivial,by lia,by lia,fun t H4 l R Y=>.inr (.inl ⟨_,_,rfl,rfl,?_,?_⟩)⟩
   ·rw[q8b,q8b];exact small (by lia)
   ·have e:mk g++mk t=mk (g++t):=by rw[<- z7d (mk g++mk t),z7e,q2m,q2m]
    rw[e];refine k (g++t) H4 ⟨by rw[Al];lia,by rw[Al];lia,fun c h=>?_⟩ (fd3'.trans Y);rcases Ar.mp h with h|h
    ·exact U c h
    ·exact fig_in c (R c h)
  ·refine⟨_,rfl,_,rfl,a,b,_,rfl,j.feed,by decide,by decide,fun u I J L q=>.inl ⟨_,_,rfl,rfl,?_⟩⟩;have fd2':=j.trans q;have hs:0<(Qz (Ap "aAbB-") none (some (2+u))).length/\(Qz (Ap "aAbB-") none (some (2+u))).length<=1000/\∀c∈tl (Qz (Ap "aAbB-") none (some (2+u))),c∈HM.NS:=by
    have e:u=0\/u=1\/u=2\/u=3:=by lia
    rcases e with rfl|rfl|rfl|rfl<;>decide +kernel
   refine⟨_,rfl,.inl ⟨_,rfl,by trivial,_,rfl,a,b,_,rfl,fd2'.feed,by decide,by decide,fun r3 H3 W X B=>.inl ⟨_,_,rfl,rfl,?_⟩⟩⟩;exact⟨a,b,_,_,rfl,(fd2'.trans B).feed,hs.1,hs.2.1,by lia,by lia,Z (fd2'.trans B) hs.2.2 (by lia) (by lia)⟩
noncomputable def spFold:Sp:=fun vs H Q _=>∃(t:List Nat) (bl:Bool),vs=[.str (mk t),.bl bl]/\okN t/\Q (.str (mk (if bl then lowN t else t))) H
noncomputable abbrev z3e:Stmt:=top 41
theorem x4h:FnScope ["_law_name", "_law_blind"] ["_law_name", "_law_blind"] (defScope z3e):=by trivial
theorem x4i(D:Df K mg "_law_fold" z3e ["_law_name", "_law_blind"])(T:Txt mg):Cal P w K mg base "_law_fold" 1 ["_law_name", "_law_blind"] spFold:=by
 refine D.cal x4h (fun vs H Q E h=>?_) (fun f g A outer s H vs Q E u h=>?_)
 ·obtain⟨t,bl,rfl,_⟩:=h;rfl
 ·obtain⟨t,bl,rfl,ok,k⟩:=h;refine⟨_,(q0f (q0m (pe_j (z9m (@z2r _ _ _ K rfl (pv 1) (fun _=>rfl)) (@q9h _ _ _ _ _ _ _ _ _ K rfl Dd Jk Jl q6e (pv 0) (by rfl) (by rfl)) (pv 0))))),?_⟩;refine⟨fun v e=>v=.str (mk (if bl then lowN t else t))/\e=H,fun v e ⟨j,q⟩=>by rw[j,q];exact k,?_⟩;refine⟨_,rfl,bl,rfl,?_⟩;cases bl with
  |true =>
   refine iteT ⟨_,rfl,rfl,_,rfl,rfl,small (by rw[q8b];have:=ok.few;lia),?_,rfl⟩;exact congrArg V.str (z4k ok.low)
  |false=>exact iteF ⟨_,rfl,rfl,rfl⟩
end
end K
set_option maxHeartbeats 4000000
namespace K
open PySem L2 TX SB HM
section
variable{P:Ay}{w:World}{K:Aq}{mg:Str->Option Value}{base:Heap}
theorem z1v:∀{p q:Pth},kP p=kP q->p=q
 |[],[],_=>rfl
 |[],_::_,h=>by cases h
 |_::_,[],h=>by cases h
 |a::p,b::q,h=>by
  unfold kP at h;rw[Ax,Ax] at h;injection h with h1 h2;injection h1 with h1;rw[SB.mk_inj h1,z1v h2]
theorem q7m{rs:List HRow}{p:Pth}(h:∀r∈rs,r.1≠p):valV (rs.map fun r=>(kP r.1,r.2)) (kP p)=none:=by
 induction rs with
 |nil=>rfl
 |cons r rs ih =>
  rw[Ax,q0y (fun z=>h r As (z1v z))];exact ih fun x e=>h x (Am _ e)
theorem q5d{rs:List HRow}{r:HRow}(e:r∈rs)(nd:(rs.map (·.1)).Nodup):valV (rs.map fun r=>(kP r.1,r.2)) (kP r.1)=some r.2:=by
 induction rs with
 |nil=>cases e
 |cons x rs ih =>
  rw[Ax,Bs] at nd;rcases Bb.mp e with rfl|e
  ·rw[Ax];exact q0z rfl
  ·rw[Ax,q0y (fun z=>nd.1 (by rw[z1v z];exact Ac.mpr ⟨r,e,rfl⟩))];exact ih e nd.2
theorem q4b{rs:List HRow}{p:Pth}{v:V}(h:∀r∈rs,r.1≠p):putK (rs.map fun r=>(kP r.1,r.2)) (kP p) v=(rs++[(p,v)]).map fun r=>(kP r.1,r.2):=by
 rw[x0e v (q7m h),Ae];rfl
noncomputable def keyO(bl:Bool)(p:Pth):PKey:=(kP p.dropLast,.inr (mk (if bl then lowN (p.getLastD []) else p.getLastD [])))
theorem q9t{bl:Bool}{p q:Pth}(g:p≠[])(j:q≠[])(h:fold bl p=fold bl q):keyO bl p=keyO bl q:=by
 obtain⟨f,e⟩:=(q4m g j).mp h;unfold keyO;cases bl with
 |true=>rw[if_pos rfl] at e;rw[if_pos rfl,if_pos rfl,f,e]
 |false=>rw[if_neg (by decide)] at e;rw[if_neg (by decide),if_neg (by decide),f,e]
theorem q6i{ks:List (PKey×Addr)}{k e:PKey}{b:Addr}(h:hasP ks k=true):hasP (ks++[(e,b)]) k=true:=by
 unfold hasP at *;rw[Rc,h,Bool.true_or]
theorem q9u{ks:List (PKey×Addr)}{k:PKey}{b:Addr}:hasP (ks++[(k,b)]) k=true:=by
 unfold hasP;rw[Rc,Mm];simp
structure RwI (P:Ay) (w:World) (H:Hp) (a b L Dr d:Addr) (bl:Bool) (i:Nat) (H':Hp) (zs:List Zr) (ds:List (Addr×Pth)) (ks:List (PKey×Addr)):Prop where
 fd:Fd a b H H'
 rl:RL H' L zs
 hl:Hl bl (zs.map (·.2))
 len:zs.length<=i
 da:H' Dr=some (.lst (ds.map fun z=>V.ref z.1))
 dt:∀z∈ds,H' z.1=some (.tup (vP z.2))/\(z.2=[]\/((z.2,none)∈zs.map (·.2)))
 dn:ds≠[]
 dl:ds.length<=i+1
 hd:DPr P w H' d ks
 kl:ks.length<=i
 hk:∀z∈zs,hasP ks (keyO bl z.2.1)=true
theorem DPr.fd{P:Ay}{w:World}{H H':Hp}{a b d:Addr}{ks:List (PKey×Addr)}(x:DPr P w H d ks)(F:FeedAt H a b)(fd:Fd a b H H')(hd:d≠a):DPr P w H' d ks :=
 ⟨fd.at x.at_ hd,x.sys,x.len,fun y e=>by obtain⟨c,f,g⟩:=x.pk y e;exact⟨c,tupFd F fd _ _ f,tupFd F fd _ _ g⟩⟩
section
variable{H:Hp}{a b L Dr d:Addr}{bl:Bool}{i:Nat}{H' H2:Hp}{zs:List Zr}{ds:List (Addr×Pth)}{ks:List (PKey×Addr)}
theorem RwI.go(x:RwI P w H a b L Dr d bl i H' zs ds ks)(fd:Fd a b H' H2)(f:L≠a)(g:Dr≠a)(hd:d≠a):RwI P w H a b L Dr d bl i H2 zs ds ks :=
 ⟨x.fd.trans fd,x.rl.fd x.fd.feed fd f,x.hl,x.len,fd.at x.da g,fun z e=>⟨tupFd x.fd.feed fd _ _ (x.dt z e).1,(x.dt z e).2⟩,x.dn,x.dl,DPr.fd x.hd x.fd.feed fd hd,x.kl,x.hk⟩
theorem RwI.sm(x:RwI P w H a b L Dr d bl i H' zs ds ks)(s:Same H' H2):RwI P w H a b L Dr d bl i H2 zs ds ks :=
 ⟨x.fd.same s,x.rl.same s,x.hl,x.len,s _ _ x.da,fun z e=>⟨s _ _ (x.dt z e).1,(x.dt z e).2⟩,x.dn,x.dl,x.hd.same s,x.kl,x.hk⟩
theorem RwI.dput{k:PKey}{e:Addr}(x:RwI P w H a b L Dr d bl i H' zs ds ks)(F:FeedAt H a b)(hd:H d=none)(pk:PrK H' k e)(l:ks.length<sizeLine)(g:L≠d)(h:Dr≠d):RwI P w H a b L Dr d bl (i+1) (upd H' d (PdO P w d (ks++[(k,e)]))) zs ds (ks++[(k,e)]):=by
 have tk:∀S xs,H' S=some (.tup xs)->upd H' d (PdO P w d (ks++[(k,e)])) S=some (.tup xs):=fun S xs e=>by rw[q0d (fun z=>by rw[z,x.hd.at_] at e;cases e)];exact e
 exact⟨x.fd.put F hd,⟨by rw[q0d g];exact x.rl.at_,fun z f=>PR.same (x.rl.pr z f) tk⟩,x.hl,Fz x.len,by rw[q0d h];exact x.da,fun z f=>⟨tk _ _ (x.dt z f).1,(x.dt z f).2⟩,x.dn,Fz x.dl,x.hd.put pk l,by rw[Al];exact Ij x.kl,fun z f=>q6i (x.hk z f)⟩
theorem RwI.rput{T p:Addr}{q:Pth}{m:Option Int}(x:RwI P w H a b L Dr d bl (i+1) H' zs ds ks)(F:FeedAt H a b)(C:H L=none)(j:L≠d)(s:Dr≠L)(f:zs.length<=i)(D:H' T=some (.tup [.ref p,mV m]))(E:H' p=some (.tup (vP q)))(ok:okP q)(h:∀z∈zs,fold bl z.2.1≠fold bl q)(G:q.dropLast=[]\/(q.dropLast,none)∈zs.map (·.2))(hk:hasP ks (keyO bl q)=true):RwI P w H a b L Dr d bl (i+1) (upd H' L (.lst (zs.map (fun z=>V.ref z.1)++[.ref T]))) (zs++[(T,(q,m))]) ds ks:=by
 have tk:∀S xs,H' S=some (.tup xs)->upd H' L (.lst (zs.map (fun z=>V.ref z.1)++[.ref T])) S=some (.tup xs):=fun S xs e=>by rw[q0d (fun z=>by rw[z,x.rl.at_] at e;cases e)];exact e
 have B:(zs++[(T,(q,m))]).map (·.2)=zs.map (·.2)++[(q,m)]:=by rw[Ae];rfl
 refine⟨x.fd.put F C,⟨by rw[q0b,Ae];rfl,fun z f=>?_⟩,?_,by rw[Al];exact Ij f,by rw[q0d s];exact x.da,fun z f=>⟨tk _ _ (x.dt z f).1,(x.dt z f).2.imp id fun y=>by rw[B];exact Ck _ y⟩,x.dn,x.dl,⟨by rw[q0d j.symm];exact x.hd.at_,x.hd.sys,x.hd.len,fun y u=>by obtain⟨c,I,J⟩:=x.hd.pk y u;exact⟨c,tk _ _ I,tk _ _ J⟩⟩,x.kl,fun z f=>?_⟩
 ·rcases Ar.mp f with f|f
  ·exact PR.same (x.rl.pr z f) tk
  ·rw[Aj.mp f];exact⟨p,tk _ _ D,tk _ _ E⟩
 ·rw[B];refine⟨fun r g=>?_,?_,fun r g=>?_⟩
  ·rcases Ar.mp g with g|g
   ·exact x.hl.ok r g
   ·rw[Aj.mp g];exact ok
  ·rw[Ae];refine Dz.mpr ⟨x.hl.nd,(Qu _ _),fun y u M v=>?_⟩;rw[Aj.mp v];obtain⟨r,g,rfl⟩:=Ac.mp u;obtain⟨z,f,rfl⟩:=Ac.mp g;exact h z f
  ·rcases Ar.mp g with g|g
   ·exact(x.hl.dr r g).imp id fun z=>Ck _ z
   ·rw[Aj.mp g];exact G.imp id fun z=>Ck _ z
 ·rcases Ar.mp f with f|f
  ·exact x.hk z f
  ·rw[Aj.mp f];exact hk
theorem RwI.draw{p:Addr}{q:Pth}(x:RwI P w H a b L Dr d bl (i+1) H' zs ds ks)(F:FeedAt H a b)(j:H Dr=none)(g:Dr≠L)(h:Dr≠d)(hl:ds.length<=i+1)(s:H' p=some (.tup (vP q)))(u:(q,none)∈zs.map (·.2)):RwI P w H a b L Dr d bl (i+1) (upd H' Dr (.lst (ds.map (fun z=>V.ref z.1)++[.ref p]))) zs (ds++[(p,q)]) ks:=by
 have tk:∀S xs,H' S=some (.tup xs)->upd H' Dr (.lst (ds.map (fun z=>V.ref z.1)++[.ref p])) S=some (.tup xs):=fun S xs e=>by rw[q0d (fun z=>by rw[z,x.da] at e;cases e)];exact e
 refine⟨x.fd.put F j,⟨by rw[q0d g.symm];exact x.rl.at_,fun z f=>PR.same (x.rl.pr z f) tk⟩,x.hl,x.len,by rw[q0b,Ae];rfl,fun z f=>?_,by simp,by rw[Al];exact Ij hl,⟨by rw[q0d h.symm];exact x.hd.at_,x.hd.sys,x.hd.len,fun y v=>by obtain⟨c,B,C⟩:=x.hd.pk y v;exact⟨c,tk _ _ B,tk _ _ C⟩⟩,x.kl,x.hk⟩;rcases Ar.mp f with f|f
 ·exact⟨tk _ _ (x.dt z f).1,(x.dt z f).2⟩
 ·rw[Aj.mp f];exact⟨tk _ _ s,.inr u⟩
end
structure CallsN (P:Ay) (w:World) (K:Aq) (mg:Str->Option Value) (base:Heap):Prop where
 draw:Cal P w K mg base "_law_draw" 1 ["_law_feed", "_law_many"] spDraw
 a_name:Cal P w K mg base "_law_a_name" 3 ["_law_feed"] spName
 fold:Cal P w K mg base "_law_fold" 1 ["_law_name", "_law_blind"] spFold
noncomputable def spRows:Sp:=fun vs H Q _=>∃a b bl m,vs=[.ref a,.bl bl,.int m]/\FeedAt H a b/\0<=m/\m<=60/\∀L zs H',Fd a b H H'->H L=none->RL H' L zs->Hl bl (zs.map (·.2))->zs.length<=m.toNat->Q (.ref L) H'
noncomputable abbrev z3f:Stmt:=top 42
theorem sc_rows:FnScope ["_law_feed", "_law_blind", "_law_most", "_law_rows_here", "_law_drawers", "_law_there", "_law_k", "_law_drawer", "_law_name", "_law_mark"] ["_law_feed", "_law_blind", "_law_most"] (defScope z3f):=by trivial
theorem x4j(D:Df K mg "_law_rows" z3f ["_law_feed", "_law_blind", "_law_most"])(T:Txt mg)(C:CallsN P w K mg base):Cal P w K mg base "_law_rows" 4 ["_law_feed", "_law_blind", "_law_most"] spRows:=by
 refine D.cal sc_rows (fun vs H Q E h=>?_) (fun f e3 A outer s H vs Q E S h=>?_)
 ·obtain⟨a,b,bl,m,rfl,_⟩:=h;rfl
 ·obtain⟨a,b,bl,m,rfl,F,e4,e5,k⟩:=h;refine⟨_,(q0e (q0j (i:=3) sc_rows.nd rfl (by trivial) (q2a q0c)) (q0e (q0j (i:=4) sc_rows.nd rfl (by trivial) (q2a (q0a (q1e q0c) q0c))) (q0e (q0j (i:=5) sc_rows.nd rfl (by trivial) (z4j P w rfl rfl)) (q0e (q1u Ca rfl (q3l rfl T.b_range (q0a (pe_c C.draw S (q0a (pv 0) (q0a (q1d q1j (pv 2) q0g) q0c))) q0c)) (q0h (i:=6) sc_rows.nd rfl (by trivial)) (q0e (q0j (i:=7) sc_rows.nd rfl (by trivial) (q1k (ix_k K rfl) (pv 4) (pe_c C.draw S (q0a (pv 0) (q0a (q0l (q3o K rfl) (by rfl) T.b_len Cs (q0a (pv 4) q0c)) q0c))) (fun _ _=>rfl))) (q0e (q0j (i:=8) sc_rows.nd rfl (by trivial) (pe_c C.a_name S (q0a (pv 0) q0c))) (q0e (q0j (i:=9) sc_rows.nd rfl (by trivial) (q1k (ix_k K rfl) (q2a (q0a z3s (q0a q0g (q0a (pe_c C.draw S (q0a (pv 0) (q0a q0g q0c))) (q0a (pe_c C.draw S (q0a (pv 0) (q0a (q1d q1j (q1d x1t q0g q0g) q0g) q0c))) q0c))))) (pe_c C.draw S (q0a (pv 0) (q0a q0g q0c))) (fun _ _=>rfl))) (q0f (q1s (pt_j (@PW.pt _ _ _ (q3k (q0n z9o (q0l (q3o K rfl) (by rfl) T.b_len Cs (q0a (pv 7) q0c)) q0g (nomark _)) (q2q (q2t (z1r P w rfl rfl (z1s S) (q1e (q0a (pv 7) (q0a (pe_c C.fold S (q0a (pv 8) (q0a (pv 1) q0c))) q0c))) (pv 5))))))) (q0e (z2z P w rfl rfl (z1s S) (pv 5) (q1e (q0a (pv 7) (q0a (pe_c C.fold S (q0a (pv 8) (q0a (pv 1) q0c))) q0c))) q6c rfl) (q0e (q2b (@bm_k _ _ _ _ _ _ _ _ _ _ _ _ K rfl Cq Eu Ew q2f (pv 3) (q0a (q1e (q0a (q1d q3r (pv 7) (q1e (q0a (pv 8) q0c))) (q0a (pv 9) q0c))) q0c) (by rfl) (by rfl) (by rfl) (by rfl) (by rfl))) (q0f (q1s (q2t (z3t (pv 9))) (q0f (q2b (@bm_k _ _ _ _ _ _ _ _ _ _ _ _ K rfl Cq Eu Ew q2f (pv 4) (q0a (q1d q3r (pv 7) (q1e (q0a (pv 8) q0c))) q0c) (by rfl) (by rfl) (by rfl) (by rfl) (by rfl)))) q0o)))) q0o)))))) (q0f (q0m (pv 3))))))),?_⟩;refine⟨by show 0<=sizeLine;decide,fun L hL=>⟨by show 0<=sizeLine;decide,fun p0 a3=>⟨by show 1<=sizeLine;decide,fun O q=>?_⟩⟩⟩;intro d hd b0;have u:L≠a:=(q0i F.fa.choose_spec.choose_spec hL).symm;have s1:=(Same.refl H).new (o:=.lst []) hL;have s2:=s1.new (o:=.tup []) a3;have s3:=s2.new (o:=.lst [.ref p0]) q;have s4:=s3.new (o:=PdO P w d []) hd;have a1:H O=none:=s2.free q;have b1:H d=none:=s3.free hd;have B:O≠a:=(q0i F.fa.choose_spec.choose_spec a1).symm;have G:d≠a:=(q0i F.fa.choose_spec.choose_spec b1).symm;have a4:p0≠L:=fun z=>by rw[z,q0b] at a3;cases a3
  have j:O≠L:=fun z=>by rw[z,q0d a4.symm,q0b] at q;cases q
  have a2:O≠p0:=fun z=>by rw[z,q0b] at q;cases q
  have a5:d≠L:=fun z=>by rw[z,q0d j.symm,q0d a4.symm,q0b] at hd;cases hd
  have a6:d≠O:=fun z=>by rw[z,q0b] at hd;cases hd
  have c6:d≠p0:=fun z=>by rw[z,q0d a2.symm,q0b] at hd;cases hd
  have I0:RwI P w H a b L O d bl 0 (upd (upd (upd (upd H L (.lst [])) p0 (.tup [])) O (.lst [.ref p0])) d (PdO P w d [])) [] [(p0,[])] []:=by
   refine⟨(Fd.refl F).same s4,⟨?_,(fun _ h=>nomatch h)⟩,Hl.nil bl,Au _,?_,fun z hz=>?_,by simp,Au _,⟨q0b,b0,Bf _,(fun _ h=>nomatch h)⟩,Au _,(fun _ h=>nomatch h)⟩
   ·rw[q0d a5.symm,q0d j.symm,q0d a4.symm];exact q0b
   ·rw[q0d a6.symm];exact q0b
   ·rw[Aj.mp hz];exact⟨by rw[q0d c6.symm,q0d a2.symm];exact q0b,.inl rfl⟩
  refine⟨_,rfl,_,rfl,.inl ⟨_,_,rfl,rfl,a,b,_,rfl,I0.fd.feed,by lia,by lia,fun r0 H1 e6 e7 c7=>?_⟩⟩;have I1:=I0.go c7 u B G;refine⟨r0,rfl,by lia,by lia,q4v (n:=r0.toNat) (fun i a7 H'=>∃W X R x6 x7 x8 x9,a7=[some (.ref a),some (.bl bl),some (.int m),some (.ref L),some (.ref O),some (.ref d),x6,x7,x8,x9]/\RwI P w H a b L O d bl i H' W X R/\i<=r0.toNat) ⟨[],_,_,none,none,none,none,rfl,I1,Bf _⟩ ?_ ?_⟩
  ·rintro i a7 H' hi ⟨W,X,R,x6,x7,x8,x9,rfl,U,_⟩;have c8:=U.dl;have e8:0<X.length:=Bw.mpr U.dn;refine⟨_,rfl,_,rfl,_,rfl,_,_,rfl,.inl ⟨_,SqL.of U.da,rfl⟩,a,b,_,rfl,U.fd.feed,by rw[Aa];lia,by rw[Aa];lia,fun r1 H2 c9 b2 b3=>?_⟩;have I3:=U.go b3 u B G;rw[Aa] at b2;obtain⟨v,I,b4⟩:=q7z (xs:=X.map fun z=>V.ref z.1) c9 (by rw[Aa];exact b2);obtain⟨z,hz,rfl⟩:∃z∈X,v=V.ref z.1:=by
    rw[Ak] at I;cases e:X[r1.toNat]? with
    |none=>rw[e] at I;cases I
    |some z=>rw[e] at I;cases I;exact⟨z,Ah e,rfl⟩
   refine .inl ⟨O,_,r1,_,rfl,rfl,SqL.of I3.da,b4,?_⟩;refine⟨_,rfl,a,b,rfl,I3.fd.feed,fun t H3 a8 b5=>?_⟩;have I4:=I3.go b5 u B G;refine⟨_,rfl,a,b,_,rfl,I4.fd.feed,by decide,by decide,fun m1 H5 e9 f0 b6=>?_⟩;have I5:=I4.go b6 u B G;refine⟨_,rfl,_,_,rfl,rfl,⟨by decide,by decide,by decide⟩,.inl ⟨_,_,rfl,rfl,a,b,_,rfl,I5.fd.feed,by decide,by decide,fun m2 H6 f1 f2 b7=>⟨by show 4<=sizeLine;decide,fun M hM=>?_⟩⟩⟩;have I6:=I5.go b7 u B G;have b8:M≠a:=(I6.fd.feed.na hM).symm;have I7:=I6.sm ((Same.refl H6).new (o:=.lst [.non,.int 0,.int m1,.int m2]) hM);refine⟨_,rfl,a,b,_,rfl,I7.fd.feed,by decide,by decide,fun m3 H8 f3 f4 b9=>?_⟩;have I8:=I7.go b9 u B G;have Y:∃J:Option Int,atI [V.non,V.int 0,V.int m1,V.int m2] m3=some (mV J):=by
    have e:m3=0\/m3=1\/m3=2\/m3=3:=by lia
    rcases e with rfl|rfl|rfl|rfl
    ·exact⟨none,rfl⟩
    ·exact⟨some 0,rfl⟩
    ·exact⟨some m1,rfl⟩
    ·exact⟨some m2,rfl⟩
   obtain⟨J,Y⟩:=Y;refine .inl ⟨M,_,m3,_,rfl,rfl,SqL.of (b9.at q0b b8),Y,?_⟩;clear Y I7 I6 I5 I4 I3 b3 b5 b6 b7 I b4 b8;obtain⟨zt,zd⟩:=I8.dt z hz;have c0:z.2++[t]≠[]:=by simp
   have d0:keyO bl (z.2++[t])=(kP z.2,.inr (mk (if bl then lowN t else t))):=by
    unfold keyO;rw[Co,Fy]
   have pk:∀{Z:Hp} {p:Addr},Z z.1=some (.tup (vP z.2))->Z p=some (.tup [.ref z.1,.str (mk (if bl then lowN t else t))])->PrK Z (keyO bl (z.2++[t])) p:=fun{Z p} e1 e2=>by
    rw[d0];exact⟨z.1,e2,by rw[q3a];exact e1⟩
   refine⟨fun bb Z=>RwI P w H a b L O d bl i Z W X R/\(bb=true->z.2.length<6/\hasP R (keyO bl (z.2++[t]))=false),?_,?_⟩;rotate_left
   ·refine⟨_,rfl,_,_,rfl,.inr ⟨_,SqT.of zt,rfl⟩,_,_,rfl,rfl,_,rfl,?_⟩;refine iteB (fun hb=>?_) (fun hb=>⟨I8,(fun z=>by cases z)⟩);have hb':z.2.length<6:=by
     have e:=of_decide_eq_true hb;rw[q1b] at e;lia
    refine⟨_,rfl,_,rfl,_,rfl,t,bl,rfl,a8,by show 2<=sizeLine;decide,fun p2 d1=>?_⟩;have s9:=(Same.refl H8).new (o:=.tup [.ref z.1,.str (mk (if bl then lowN t else t))]) d1;exact⟨_,rfl,d,R,p2,keyO bl (z.2++[t]),rfl,rfl,(I8.sm s9).hd,pk (s9 _ _ zt) q0b,_,rfl,I8.sm s9,fun e=>⟨hb',by simpa using e⟩⟩
   rintro bb Z ⟨g,c1⟩;refine ite2 (fun hb=>?_) (fun hb=>⟨W,X,R,_,_,_,_,rfl,⟨g.fd,g.rl,g.hl,Fz g.len,g.da,g.dt,g.dn,Fz g.dl,g.hd,Fz g.kl,g.hk⟩,hi⟩);obtain⟨h6,a0⟩:=c1 hb;obtain⟨c2,_⟩:=g.dt z hz;refine⟨_,rfl,_,rfl,_,rfl,_,rfl,t,bl,rfl,a8,by show 2<=sizeLine;decide,fun p3 d2=>?_⟩;have sA:=(Same.refl Z).new (o:=.tup [.ref z.1,.str (mk (if bl then lowN t else t))]) d2;have IA:=g.sm sA;have a9:=pk (sA _ _ c2) (p:=p3) q0b;have c3:R.length<sizeLine:=by have:=g.kl;exact small' (by lia)
   refine⟨d,R,p3,keyO bl (z.2++[t]),rfl,rfl,rfl,IA.hd,a9,a0,c3,?_⟩;have IB:=IA.dput F b1 a9 c3 a5.symm a6.symm;have d3:W.length<=i:=g.len;have c4:∀y∈W,fold bl y.2.1≠fold bl (z.2++[t]):=fun y hy e=>by
    have h1:=g.hk y hy;rw[q9t (g.hl.ok _ (Ac.mpr ⟨y,hy,rfl⟩)).ne c0 e] at h1;rw[h1] at a0;cases a0
   have okp:okP (z.2++[t]):=by
    refine⟨by simp,by rw[Al];show _+1<=6;lia,fun n hn=>?_⟩;rcases Ar.mp hn with hn|hn
    ·rcases zd with e|e
     ·rw[e] at hn;cases hn
     ·exact(g.hl.ok _ e).all n hn
    ·rw[Aj.mp hn];exact a8
   have d4:(z.2++[t]).dropLast=[]\/((z.2++[t]).dropLast,none)∈W.map (·.2):=by rw[Co];exact zd
   have c5:hasP (R++[(keyO bl (z.2++[t]),p3)]) (keyO bl (z.2++[t]))=true:=q9u;clear IA I8 zt c2 a9 pk a0 c1 g sA;generalize upd (upd Z p3 (.tup [.ref z.1,.str (mk (if bl then lowN t else t))])) d _=HB at IB;generalize R++[(keyO bl (z.2++[t]),p3)]=f5 at IB c5;obtain⟨d5,_⟩:=IB.dt z hz;refine⟨_,rfl,.inl ⟨rfl,_,SqL.of IB.rl.at_⟩,_,rfl,_,rfl,by show 1<=sizeLine;decide,fun p4 d6=>?_⟩;have s5:=(Same.refl HB).new (o:=.tup [.str (mk t)]) d6;refine⟨z.1,p4,_,_,rfl,rfl,s5 _ _ d5,q0b,by rw[q1b];exact small (by show _+1<=_;lia),fun p5 HC sC d7 _=>?_⟩;have hp5':HC p5=some (.tup (vP (z.2++[t]))):=by rw[d7];show _=some (HO.tup ((z.2++[t]).map _));rw[Ae];rfl
   have IC:=IB.sm (s5.trans sC);refine⟨_,rfl,by show 2<=sizeLine;decide,fun T1 d8=>?_⟩;have sD:=(Same.refl HC).new (o:=.tup [.ref p5,mV J]) d8;have ID:=IC.sm sD;refine⟨L,_,_,rfl,rfl,ID.rl.at_,by rw[Aa];exact small' (by lia),?_⟩;have IE:=ID.rput (m:=J) F hL a5.symm j d3 q0b (sD _ _ hp5') okp c4 d4 c5;have zE:=(IE.dt z hz).1;generalize upd (upd HC T1 (.tup [.ref p5,mV J])) L _=HE at IE zE;refine⟨_,rfl,_,rfl,?_⟩;cases J with
   |some x=>exact iteF ⟨_,_,_,_,_,_,_,rfl,IE,hi⟩
   |none =>
    refine iteT ⟨_,rfl,.inl ⟨rfl,_,SqL.of IE.da⟩,_,rfl,_,rfl,by show 1<=sizeLine;decide,fun p6 d9=>?_⟩;have s6:=(Same.refl HE).new (o:=.tup [.str (mk t)]) d9;refine⟨z.1,p6,_,_,rfl,rfl,s6 _ _ zE,q0b,by rw[q1b];exact small (by show _+1<=_;lia),fun p7 HF sF e0 _=>?_⟩;have hp7':HF p7=some (.tup (vP (z.2++[t]))):=by rw[e0];show _=some (HO.tup ((z.2++[t]).map _));rw[Ae];rfl
    have IF:=IE.sm (s6.trans sF);refine⟨O,_,_,rfl,rfl,IF.da,by rw[Aa];exact small' (by lia),?_⟩;exact⟨_,_,_,_,_,_,_,rfl,IF.draw F a1 j a6.symm c8 hp7' (by simp),hi⟩
  ·rintro a7 H' ⟨W,X,R,x6,x7,x8,x9,rfl,U,_⟩;exact⟨_,rfl,k L W H' U.fd hL U.rl U.hl (by have:=U.len;lia)⟩
end
end K
set_option maxHeartbeats 4000000
namespace K
open PySem L2 TX SB HM
section
variable{P:Ay}{w:World}{K:Aq}{mg:Str->Option Value}{base:Heap}
structure Hk (K:Aq) (c:Addr):Prop where
 cl:Cls K c
 b:NoAttr K c "blind"
 m:NoAttr K c "marks"
noncomputable abbrev hF(bl:Bool)(d:Addr):List (Str×V):=[("blind",.bl bl),("marks",.ref d)]
structure HallAt (c:Addr) (H:Hp) (h d:Addr) (bl:Bool) (rows:List Rw):Prop where
 i:∃dx,H h=some (.ins c dx (hF bl d))
 d:H d=some (dR (rows.map rR))
theorem HallAt.same{c:Addr}{H H':Hp}{h d:Addr}{bl:Bool}{rows:List Rw}(x:HallAt c H h d bl rows)(s:Same H H'):HallAt c H' h d bl rows:=⟨x.i.imp fun f e=>s _ _ e,s _ _ x.d⟩
noncomputable def spAlike:Sp:=fun vs H Q _=>∃x y,vs=[.str x,.str y]/\(∀c∈tl x,c<128)/\(∀c∈tl y,c<128)/\x.length<=1000/\y.length<=1000/\Q (.bl (decide ((tl x).map Bd=(tl y).map Bd))) H
noncomputable abbrev q9v:Stmt:=top 26
theorem x0x:FnScope ["one", "other"] ["one", "other"] (defScope q9v):=by trivial
theorem x0y(D:Df K mg "alike" q9v ["one", "other"])(T:Txt mg):Cal P w K mg base "alike" 1 ["one", "other"] spAlike:=by
 refine D.cal x0x (fun vs H Q E h=>?_) (fun f g A outer s H vs Q E j h=>?_)
 ·obtain⟨x,y,rfl,_⟩:=h;rfl
 ·obtain⟨x,y,rfl,q,u,v,B,k⟩:=h;refine⟨_,(q0f (q0m (q6r (eq_k K rfl j) (@q9h _ _ _ _ _ _ _ _ _ K rfl Dd Jk Jl q6e (pv 0) (by rfl) (by rfl)) (@q9h _ _ _ _ _ _ _ _ _ K rfl Dd Jk Jl q6e (pv 1) (by rfl) (by rfl)) (nomark _)))),?_⟩;refine⟨_,rfl,rfl,_,rfl,rfl,small (by lia),⟨_,rfl,rfl,_,rfl,rfl,small (by lia),.inl ⟨rfl,?_⟩⟩⟩;have e:decide ((V.str (Jf x))=V.str (Jf y))=decide ((tl x).map Bd=(tl y).map Bd):=by
   rw[<- TX.lower q,<- TX.lower u];by_cases h:Jf x=Jf y
   ·rw[h];simp
   ·rw[decide_eq_false (fun z=>h (V.str.inj z)),decide_eq_false (fun z=>h (TX.ext z))]
  rw[e];exact k
structure CallsH (P:Ay) (w:World) (K:Aq) (mg:Str->Option Value) (base:Heap):Prop where
 alike:Cal P w K mg base "alike" 1 ["one", "other"] spAlike
theorem q2n{p:Pth}(h:Low p):Low p.dropLast:=fun n e=>h n (Ob _ e)
noncomputable def spOneP(c:Addr):Sp:=fun vs H Q _=>∃h p q bl dx fs one other,vs=[.ref h,.ref p,.ref q]/\H h=some (.ins c dx fs)/\fs.lookup ("blind" : Str)=some (V.bl bl)/\H p=some (.tup (vP one))/\H q=some (.tup (vP other))/\okP one/\okP other /\
 ∀H',Same H H'->Q (.bl (decide (fold bl one=fold bl other))) H'
noncomputable abbrev q1p:Stmt:=inClass (top 29) 3
theorem q4g:FnScope ["self", "one", "other"] ["self", "one", "other"] (defScope q1p):=by trivial
theorem z1w{c:Addr}(D:Mf K c "is_one_place" "Hall.is_one_place" q1p ["self", "one", "other"])(hk:Hk K c)(T:Txt mg)(C:CallsH P w K mg base):MCal P w K mg base c "is_one_place" 2 ["self", "one", "other"] (spOneP c):=by
 refine D.cal hk.cl q4g (fun vs H Q E h=>?_) (fun f a0 A outer s H vs Q E J h=>?_)
 ·obtain⟨h,p,q,bl,X,fs,one,g,rfl,_⟩:=h;rfl
 ·obtain⟨h,p,q,bl,X,fs,one,g,rfl,hh,hb,L,M,j,u,k⟩:=h;refine⟨_,(q0e (q1s (q0n (ne_k K rfl J) (q0p (sl_k K rfl) (pv 1) q0r (q0s (q1w q0x q0g))) (q0p (sl_k K rfl) (pv 2) q0r (q0s (q1w q0x q0g))) (nomark _)) (q0f (q0m q6c)) q0o) (q0e (q1s (@z2r _ _ _ K rfl (@z5l _ _ _ _ _ K rfl (pv 0) (by rfl)) (fun _=>rfl)) (q0f (q0m (pe_c C.alike J (q0a (q1k (ix_k K rfl) (pv 1) (q1w q0x q0g) (fun _ _=>rfl)) (q0a (q1k (ix_k K rfl) (pv 2) (q1w q0x q0g) (fun _ _=>rfl)) q0c))))) q0o) (q0f (q0m (q6r (eq_k K rfl J) (q1k (ix_k K rfl) (pv 1) (q1w q0x q0g) (fun _ _=>rfl)) (q1k (ix_k K rfl) (pv 2) (q1w q0x q0g) (fun _ _=>rfl)) (nomark _)))))),?_⟩;obtain⟨c1,c2⟩:=q1h j.ne;obtain⟨d1,d2⟩:=q1h u.ne;refine⟨_,rfl,_,rfl,_,rfl,.inr (.inr ⟨p,_,rfl,SqT.of L,c2,fun O R=>?_⟩)⟩;rw[c1];have Y:=(Same.refl H).new (o:=.tup (vP one.dropLast)) R;refine⟨_,rfl,_,rfl,_,rfl,.inr (.inr ⟨q,_,rfl,SqT.of (Y _ _ M),d2,fun S B=>?_⟩)⟩;rw[d1];have v:=Y.new (o:=.tup (vP g.dropLast)) B;have hp1':upd (upd H O (.tup (vP one.dropLast))) S (.tup (vP g.dropLast)) O=some (.tup (vP one.dropLast)):=by
   rw[q0d (fun z=>by rw[<- z,q0b] at B;cases B)];exact q0b
  generalize U:upd (upd H O (.tup (vP one.dropLast))) S (.tup (vP g.dropLast))=H2 at v hp1';have hp2':H2 S=some (.tup (vP g.dropLast)):=by rw[<- U];exact q0b
  have W:=q4m (bl:=bl) j.ne u.ne;refine q3z hp1' hp2' (q2n j.low) (q2n u.low) ⟨_,rfl,ite2 (fun G=>?_) (fun G=>?_)⟩
  ·have hne':one.dropLast≠g.dropLast:=by simpa using G
   have e:decide (fold bl one=fold bl g)=false:=decide_eq_false fun z=>hne' (W.mp z).1;refine(?_:Q _ _);rw[<- e];exact k _ v
  ·have I:one.dropLast=g.dropLast:=by simpa using G
   refine⟨_,rfl,h,c,X,fs,_,rfl,v _ _ hh,hk.cl,hk.b,hb,_,rfl,?_⟩;have Z:=q2w j;have l2:=q2w u;cases bl with
   |true =>
    refine iteT ⟨_,rfl,_,rfl,.inr (.inl ⟨p,_,-1,_,rfl,rfl,SqT.of (v _ _ L),q4o j.ne,?_⟩)⟩;refine⟨_,rfl,_,rfl,.inr (.inl ⟨q,_,-1,_,rfl,rfl,SqT.of (v _ _ M),q4o u.ne,?_⟩)⟩;refine⟨_,_,rfl,by rw[q2m];exact Z.low,by rw[q2m];exact l2.low,by rw[q8b];have:=Z.few;lia,by rw[q8b];have:=l2.few;lia,?_⟩;rw[q2m,q2m];have e:decide (fold true one=fold true g)=decide (lowN (one.getLastD [])=lowN (g.getLastD [])):=by
     refine decide_eq_decide.mpr (W.trans ⟨fun z=>by simpa using z.2,fun z=>⟨I,by simpa using z⟩⟩)
    have:=k _ v;rw[e] at this;exact this
   |false =>
    refine iteF ⟨_,rfl,_,rfl,.inr (.inl ⟨p,_,-1,_,rfl,rfl,SqT.of (v _ _ L),q4o j.ne,?_⟩)⟩;refine⟨_,rfl,_,rfl,.inr (.inl ⟨q,_,-1,_,rfl,rfl,SqT.of (v _ _ M),q4o u.ne,?_⟩)⟩;refine .inl ⟨rfl,?_⟩;have e:decide (fold false one=fold false g)=decide (V.str (mk (one.getLastD []))=V.str (mk (g.getLastD []))):=by
     refine decide_eq_decide.mpr (W.trans ⟨fun z=>?_,fun z=>⟨I,?_⟩⟩)
     ·have:=z.2;simp only[Bc,if_false] at this;rw[this]
     ·simp only[Bc,if_false];exact SB.mk_inj (V.str.inj z)
    have:=k _ v;rw[e] at this;exact this
noncomputable def spThere(c:Addr):Sp:=fun vs H Q _=>∃h d p bl rows place,vs=[.ref h,.ref p]/\HallAt c H h d bl rows/\H p=some (.tup (vP place))/\okP place/\(∀r∈rows,okP r.1) /\
 (∀H',Same H H'->(∀r∈rows,fold bl r.1≠fold bl place)->Q .non H')/\∀H' b r,Same H H'->r∈rows->fold bl r.1=fold bl place->H' b=some (.tup (vP r.1))->Q (.ref b) H'
structure CallsI (P:Ay) (w:World) (K:Aq) (mg:Str->Option Value) (base:Heap) (c:Addr):Prop where
 m_is_one_place:MCal P w K mg base c "is_one_place" 2 ["self", "one", "other"] (spOneP c)
theorem q5e{H H':Hp}{d:Addr}{o:HO}(hd:H d=some o)(k:∀a u,a≠d->H a=some u->H' a=some u):Same H (upd H' d o):=fun a u e=>by
 by_cases z:a=d
 ·subst z;rw[q0b,<- hd];exact e
 ·rw[q0d z];exact k a u z e
noncomputable abbrev q3c:Stmt:=inClass (top 29) 4
theorem sc_Hall_there:FnScope ["self", "place", "path"] ["self", "place"] (defScope q3c):=by trivial
theorem x0z{c:Addr}(D:Mf K c "there" "Hall.there" q3c ["self", "place"])(hk:Hk K c)(T:Txt mg)(C:CallsI P w K mg base c):MCal P w K mg base c "there" 3 ["self", "place"] (spThere c):=by
 refine D.cal hk.cl sc_Hall_there (fun vs H Q E h=>?_) (fun f a0 A outer s H vs Q E j h=>?_)
 ·obtain⟨h,d,p,bl,rows,g,rfl,_⟩:=h;rfl
 ·obtain⟨h,d,p,bl,rows,g,rfl,Z,R,ok,S,k1,k2⟩:=h;refine⟨_,(q0e (z2v H rfl (q1u Ca rfl (@z4b _ _ _ _ K rfl (@z5l _ _ _ _ _ K rfl (pv 0) (by rfl))) (q0h (i:=2) sc_Hall_there.nd rfl (by trivial)) (q0f (q1s (@z2r _ _ _ K rfl (pe_m C.m_is_one_place j (pv 0) (q0a (pv 2) (q0a (pv 1) q0c))) (fun _=>rfl)) (q0f (q0m (pv 2))) q0o)))) (q0f (q0m z3s))),?_⟩;obtain⟨U,G⟩:=Z.i;have hd:=Z.d;have I:h≠d:=fun z=>by rw[z,hd] at G;cases G
  have W:p≠d:=fun z=>by rw[z,hd] at R;cases R
  refine⟨d,(fun o v e=>by rw[hd] at e;cases e),?_⟩;refine⟨_,rfl,h,c,U,_,_,rfl,G,hk.cl,hk.m,rfl,d,_,rfl,hd,fun X=>?_⟩;refine z1d (fun i q J=>(∃x,q=[some (.ref h),some (.ref p),x])/\J d=some (.frz X (dR (rows.map rR)))/\(∀a u,a≠d->H a=some u->J a=some u)/\∀r∈rows.take i,fold bl r.1≠fold bl g)
   ⟨⟨none,rfl⟩,q0b,fun a u n e=>by rw[q0d n];exact e,fun r j=>by rw[Lp] at j;cases j⟩ (fun i q J x=>x.2.1) ?_ ?_
  ·rintro i ky v b q J hk' hb ⟨⟨x,rfl⟩,hfz,kp,hno⟩;obtain⟨r,j,rfl,rfl⟩:∃r,rows[i]?=some r/\ky=kP r.1/\v=mV r.2:=by
    rw[Ak,Ak] at hk';cases e:rows[i]? with
    |none=>rw[e] at hk';cases hk'
    |some r=>rw[e] at hk';cases hk';exact⟨r,rfl,rfl,rfl⟩
   have L:=Ah j;rw[q3a] at hb;refine⟨_,rfl,h,U,_,rfl,kp _ _ I G,rfl,_,rfl,_,rfl,h,b,p,bl,U,_,r.1,g,rfl,kp _ _ I G,rfl,hb,kp _ _ W R,S r L,ok,fun H2 O=>⟨_,rfl,?_⟩⟩;have M:∀a u,a≠d->H a=some u->H2 a=some u:=fun a u n e=>O _ _ (kp a u n e);refine iteB (fun Y=>?_) (fun Y=>?_)
   ·refine⟨_,rfl,X,_,O _ _ hfz,k2 _ b r (q5e hd M) L (of_decide_eq_true Y) ?_⟩;rw[q0d (fun z=>by rw[z,hfz] at hb;cases hb)];exact O _ _ hb
   ·refine⟨⟨_,rfl⟩,O _ _ hfz,M,fun y B=>?_⟩;rw[Br,j] at B;rcases Ar.mp B with B|B
    ·exact hno y B
    ·cases Aj.mp B;exact of_decide_eq_false Y
  ·rintro q J ⟨⟨x,rfl⟩,hfz,kp,hno⟩;refine⟨X,_,hfz,k1 _ (q5e hd kp) fun r j=>hno r ?_⟩;rw[Aa,Aa,Ba];exact j
noncomputable def spHRows(c:Addr):Sp:=fun vs H Q _=>∃h d bl rows,vs=[.ref h]/\HallAt c H h d bl rows/\rows.length<64/\(∀r∈rows,Low r.1) /\
 ∀L zs H',H L=none->Same H H'->RL H' L zs->(zs.map (·.2)).Perm rows->(zs.map (·.2.1)).Pairwise (fun a b=>pLt b a=false)->Q (.ref L) H'
noncomputable abbrev q3s:Stmt:=inClass (top 29) 1
theorem z1x:FnScope ["self"] ["self"] (defScope q3s):=by trivial
theorem x1a{c:Addr}(D:Mf K c "rows" "Hall.rows" q3s ["self"])(hk:Hk K c)(T:Txt mg):MCal P w K mg base c "rows" 2 ["self"] (spHRows c):=by
 refine D.cal hk.cl z1x (fun vs H Q E h=>?_) (fun f O A outer s H vs Q E u h=>?_)
 ·obtain⟨h,d,bl,rows,rfl,_⟩:=h;rfl
 ·obtain⟨h,d,bl,rows,rfl,q,B,j,k⟩:=h;refine⟨_,(q0f (q0m (q0l (z5j u) (by rfl) T.b_sorted (by trivial) (q0a (@q9h _ _ _ _ _ _ _ _ _ K rfl Iw PySem.F.slot_dict_items PySem.F.type_dict_items x0o (@z5l _ _ _ _ _ K rfl (pv 0) (by rfl)) (by rfl) (by rfl)) q0c)))),?_⟩;obtain⟨R,S⟩:=q.i;refine⟨_,rfl,h,c,R,_,_,rfl,S,hk.cl,hk.m,rfl,.inr (.inr (.inl ⟨rfl,.inr ⟨_,q.d⟩⟩)),d,_,rfl,rfl,q.d,fun v U=>?_⟩;have C:=(Same.refl H).new (o:=vwO v d) U;refine⟨v,d,rows.map rR,rfl,q0b,C _ _ q.d,by rw[Aa];exact B,fun r u=>?_,fun L as rs W X Y hs sm G I=>?_⟩
  ·obtain⟨x,Z,rfl⟩:=Ac.mp u;exact j x Z
  ·obtain⟨g,p',rfl⟩:=perm_map_inv Y rfl;obtain⟨J,z1,M,z3⟩:=zs_of I rfl;refine k L J W (C.free X) (C.trans sm) ⟨?_,z3⟩ (by rw[M];exact p') ?_
   ·rw[G,<- z1,An];rfl
   ·have e:J.map (·.2.1)=(g.map rR).map (·.1):=by rw[<- M,An,An];rfl
    rw[e];exact hs
theorem z4l{e:Type}:∀{l:List e} {i:Nat} {r:e},l[i]?=some r->l=l.take i++r::l.drop (i+1)
 |[],_,_,h=>by cases h
 |a::l,0,_,h=>by cases h;rfl
 |a::l,i+1,r,h=>by show a::l=a::(l.take i++r::l.drop (i+1));rw[<- z4l (l:=l) (i:=i) h]
theorem q9w{e j:Type}{f:e->j}{l:List e}{i:Nat}{r g:e}(nd:(l.map f).Nodup)(q:l[i]?=some r)(h:g∈l.take i):f g≠f r:=by
 rw[z4l q,Ae,Ax] at nd;exact fun z=>(Dz.mp nd).2.2 _ (Ac.mpr ⟨g,h,rfl⟩) _ As z
structure InInv (c:Addr) (H:Hp) (x dx d Dr:Addr) (bl:Bool) (rows:List Rw) (ys:List (List Key×V)) (i:Nat) (H':Hp):Prop where
 ins:H' x=some (.ins c dx (hF bl d))
 d:H' d=some (dR ((rows.take i).map rR))
 r:H' Dr=some (.dT ys)
 k:∀a u,a≠x->H a=some u->H' a=some u
theorem InInv.same{c:Addr}{H H' f:Hp}{x g d h:Addr}{bl:Bool}{rows:List Rw}{ys:List (List Key×V)}{i:Nat}(v:InInv c H x g d h bl rows ys i H')(s:Same H' f):InInv c H x g d h bl rows ys i f:=⟨s _ _ v.ins,s _ _ v.d,s _ _ v.r,fun a u n e=>s _ _ (v.k a u n e)⟩
noncomputable def spInit(c:Addr):Sp:=fun vs H Q _=>∃x dx L bl zs,vs=[.ref x,.ref L,.bl bl]/\H x=some (.ins c dx [])/\RL H L zs/\Hl bl (zs.map (·.2))/\zs.length<=60 /\
 ∀d H',H d=none->H' x=some (.ins c dx (hF bl d))->H' d=some (dR ((zs.map (·.2)).map rR))->(∀a u,a≠x->H a=some u->H' a=some u)->Q .non H'
structure CallsK (P:Ay) (w:World) (K:Aq) (mg:Str->Option Value) (base:Heap) (c:Addr):Prop where
 m_there:MCal P w K mg base c "there" 3 ["self", "place"] (spThere c)
noncomputable abbrev q0w:Stmt:=inClass (top 29) 0
theorem sc_Hall___init__:FnScope ["self", "rows", "blind", "drawers", "at", "path", "mark", "drawer"] ["self", "rows", "blind"] (defScope q0w):=by trivial
theorem x4k{c:Addr}(D:Kf K mg c "Hall" "Hall.__init__" q0w ["self", "rows", "blind"])(hk:Hk K c)(T:Txt mg)(C:CallsK P w K mg base c):KCal P w K mg base c "Hall" 4 ["self", "rows", "blind"] (spInit c):=by
 refine D.cal sc_Hall___init__ (fun vs H Q E h=>?_) (fun f b3 A outer s H vs Q E M h=>?_)
 ·obtain⟨x,O,L,bl,J,rfl,_⟩:=h;rfl
 ·obtain⟨x,O,L,bl,J,rfl,hx,hl,hH,b4,k⟩:=h;refine⟨_,(q0e (@x2f _ _ _ _ _ _ _ _ K rfl (pv 0) (pv 2) (by rfl)) (q0e (@x2f _ _ _ _ _ _ _ _ K rfl (pv 0) q6g (by rfl)) (q0e (x0q (i:=3) ["path", "mark"] [] sc_Hall___init__.nd rfl (by trivial) rfl (@q1y _ _ _ _ K rfl (pv 1)) (fun _ _ _ _ _=>(@q2l _ _ _ _ (2) _ K rfl rfl (q0k (q0h (i:=0) (show(["path", "mark"]:List Str).Nodup by trivial) rfl (by trivial)) (q0k (q0h (i:=1) (show(["path", "mark"]:List Str).Nodup by trivial) rfl (by trivial)) q1m)) (by rfl) (by rfl))) (fun _ _ _ _ _=>(q3m (q2t (z3t (pv 1))))) (fun _ _ _ _ _=>(pv 0)) (fun _ _ _ _ _=>q6c) (q1q M)) (q0f (q1u Ca rfl (@z7g _ _ _ _ _ _ _ _ K rfl rfl T.b_enumerate (q0a (pv 1) q0c) (by rfl)) (@q2l _ _ _ _ (2) _ K rfl rfl (q0k (q0h (i:=4) sc_Hall___init__.nd rfl (by trivial)) (q0k (@q2l _ _ _ _ (2) _ K rfl rfl (q0k (q0h (i:=5) sc_Hall___init__.nd rfl (by trivial)) (q0k (q0h (i:=6) sc_Hall___init__.nd rfl (by trivial)) q1m)) (by rfl) (by rfl)) q1m)) (by rfl) (by rfl)) (q0e (q0j (i:=7) sc_Hall___init__.nd rfl (by trivial) (q0p (sl_k K rfl) (pv 5) q0r (q0s (q1w q0x q0g)))) (q0e (q1s (pt_j (@PW.pt _ _ _ (q3k (q0n (ne_k K rfl M) (pv 7) (q1e q0c) (nomark _)) (q2q (q2t (z1c (q1q M) (pv 7) (pv 3))))))) (q0f q6d) q0o) (q0e (q1s (q2t (q6q (pe_m C.m_there M (pv 0) (q0a (pv 5) q0c)))) (q0f q6d) q0o) (q0f (q4j (q1q M) (@z5l _ _ _ _ _ K rfl (pv 0) (by rfl)) (pv 5) (pv 6) rfl)))))))))),?_⟩;have a9:L≠x:=fun z=>by have e:=hl.at_;rw[z,hx] at e;cases e
  refine⟨_,rfl,_,rfl,x,c,O,_,rfl,hx,hk.cl,hk.b,by decide,?_⟩;intro d hd;have W:d≠x:=fun z=>by rw[z,q0b] at hd;cases hd
  have a0:H d=none:=by rw[q0d W] at hd;exact hd
  refine⟨_,rfl,x,c,O,_,rfl,by rw[q0d W.symm];exact q0b,hk.cl,hk.m,by show 1<1000;decide,?_⟩;have pf:putF ("marks" : Str) (V.ref d) (putF ("blind" : Str) (V.bl bl) [])=hF bl d:=rfl;generalize a1:upd (upd (upd H x (.ins c O (putF ("blind" : Str) (.bl bl) []))) d (.dT [])) x (.ins c O (putF ("marks" : Str) (.ref d) (putF ("blind" : Str) (.bl bl) [])))=H3;have k3:∀a u,a≠x->H a=some u->H3 a=some u:=fun a u n e=>by
   rw[<- a1,q0d n,q0d (fun z=>by rw[z,a0] at e;cases e),q0d n];exact e
  have i3:H3 x=some (.ins c O (hF bl d)):=by rw[<- a1,<- pf];exact q0b
  have d3:H3 d=some (.dT []):=by rw[<- a1,q0d W];exact q0b
  have B:∀{R:Hp},(∀a u,a≠x->H a=some u->R a=some u)->RL R L J:=fun{R} kk=>⟨kk _ _ a9 hl.at_,fun z S=>PR.same (hl.pr z S) fun T' xs e=>kk _ _ (fun y=>by rw[y,hx] at e;cases e) e⟩
  refine⟨_,rfl,.inl ⟨L,rfl,⟨_,SqL.of (B k3).at_⟩,fun Dr G=>?_⟩⟩;refine q8h (fun i U R=>R Dr=some (.dT U)/\Same H3 R/\U.length<=i/\i<=J.length/\∀p,(p,none)∈(J.take i).map (·.2)->(valV U (kP p)).isSome=true) ⟨q0b,(Same.refl H3).new G,Au _,Bf _,fun p j=>by rw[Lp] at j;cases j⟩ (fun i U R h=>⟨h.1,SqL.of (h.2.1 _ _ (B k3).at_)⟩) ?_ ?_
  ·rintro i U R v hv ⟨X,s',a3,_,g⟩;obtain⟨z,S,rfl⟩:=gR0 hv
   have hi:i<J.length:=(Af.mp S).1;obtain⟨b,h1,h2⟩:=((B k3).same s').pr z (Ah S);refine⟨z.1,_,rfl,SqT.of h1,rfl,_,_,rfl,_,_,rfl,rfl,q2p,?_⟩;refine⟨_,rfl,_,rfl,?_⟩;refine iteB (fun hm=>?_) (fun hm=>?_)
   ·refine⟨_,rfl,kP z.2.1,b,rfl,by rw[q3a];exact h2,X,small' (by lia),q0b,fun a u e=>?_,?_,hi,fun p j=>?_⟩
    ·rw[q0d (fun y=>by rw[y] at e;rw[G] at e;cases e)];exact s' _ _ e
    ·have:=q2c U (kP z.2.1) (.bl true);lia
    ·rw[q6f];by_cases e:kP p=kP z.2.1
     ·rw[if_pos e];rfl
     ·rw[if_neg e];rw[Br,S,Ae] at j;rcases Ar.mp j with j|j
      ·exact g p j
      ·exfalso;have e2:(p,none)=z.2:=Aj.mp j;exact e (by rw[<- e2])
   ·refine⟨X,s',by lia,hi,fun p j=>?_⟩;rw[Br,S,Ae] at j;rcases Ar.mp j with j|j
    ·exact g p j
    ·exfalso;have e:(p,none)=z.2:=Aj.mp j;refine of_decide_eq_false hm ?_;show mV z.2.2=_;rw[<- e];rfl
  ·rintro U R ⟨X,s',a3,_,g⟩;rw[Aa,Ba] at g;have I0:InInv c H x O d Dr bl (J.map (·.2)) U 0 R:=⟨s' _ _ i3,s' _ _ d3,X,fun a u n e=>s' _ _ (k3 a u n e)⟩
   have b5:Dr≠x:=fun z=>by rw[z,i3] at G;cases G
   have b0:Dr≠d:=fun z=>by rw[z,d3] at G;cases G
   refine⟨_,rfl,.inr ⟨L,_,rfl,SqL.of (B I0.k).at_,?_⟩⟩;refine q7j (fun i Y H2=>∃x4 x5 x6 x7,Y=[some (.ref x),some (.ref L),some (.bl bl),some (.ref Dr),x4,x5,x6,x7]/\InInv c H x O d Dr bl (J.map (·.2)) U i H2) ⟨none,none,none,none,rfl,I0⟩ (fun i Y H2 h=>by obtain⟨_,_,_,_,_,h⟩:=h;exact SqL.of (B h.k).at_) ?_ ?_
   ·rintro i v T' Y H2 hv ⟨x4,x5,x6,x7,rfl,I⟩ hT;obtain⟨z,S,rfl⟩:=gR0 hv
    have hi:i<J.length:=(Af.mp S).1;have Z:(J.map (·.2))[i]?=some z.2:=by rw[Ak,S];rfl
    have a4:=Ah Z;have a2:=hH.ok _ a4;have sT:=(Same.refl H2).new (o:=.tup [.int i,.ref z.1]) hT;have I1:=I.same sT;obtain⟨b,h1,h2⟩:=(B I1.k).pr z (Ah S);refine⟨T',_,rfl,SqT.of q0b,rfl,_,_,rfl,_,_,rfl,z.1,_,rfl,SqT.of h1,rfl,_,_,rfl,_,_,rfl,rfl,rfl,?_⟩;generalize upd H2 T' (.tup [.int i,.ref z.1])=H4 at sT I1 h1 h2;replace h1:H4 z.1=some (.tup [.ref b,mV z.2.2]):=h1;replace h2:H4 b=some (.tup (vP z.2.1)):=h2;obtain⟨c1,c2⟩:=q1h a2.ne;refine⟨_,rfl,_,rfl,_,rfl,.inr (.inr ⟨b,_,rfl,SqT.of (xs:=vP z.2.1) h2,c2,fun p1 b1=>?_⟩)⟩;rw[c1];have s5:=(Same.refl H4).new (o:=.tup (vP z.2.1.dropLast)) b1;have I2:=I1.same s5;have h2':=s5 _ _ h2;have hp1':upd H4 p1 (.tup (vP z.2.1.dropLast)) p1=some (.tup (vP z.2.1.dropLast)):=q0b;generalize upd H4 p1 (.tup (vP z.2.1.dropLast))=H5 at s5 I2 h2' hp1';refine⟨fun bb H6=>bb=false/\Same H5 H6,?_,?_⟩
    ·rintro bb H6 ⟨rfl,s6⟩;refine iteF ?_;have I3:=I2.same s6;refine⟨_,rfl,x,O,_,rfl,I3.ins,rfl,_,rfl,x,d,b,bl,_,z.2.1,rfl,⟨⟨O,I3.ins⟩,I3.d⟩,s6 _ _ h2',a2,fun r M=>hH.ok r (Gy M),fun H7 s7 _=>?_,fun H7 b' r s7 M e _=>absurd e (q9w (f:=fun r:Rw=>fold bl r.1) hH.nd Z M)⟩;refine⟨_,rfl,iteF ?_⟩;have I4:=I3.same s7;refine⟨_,rfl,_,rfl,x,c,O,_,_,rfl,I4.ins,hk.cl,hk.m,rfl,_,rfl,d,_,rfl,DPut.t (k:=kP z.2.1) I4.d (by rw[q3a];exact s7 _ _ (s6 _ _ h2')) (by rw[Aa,Aa,Bp,Aa];exact small' (by lia)),?_⟩;have a5:∀r∈((J.map (·.2)).take i).map rR,r.1≠z.2.1:=fun r M=>by
      obtain⟨y,hy,rfl⟩:=Ac.mp M;exact q9w (f:=fun r:Rw=>r.1) hH.paths Z hy
     rw[q4b a5];refine⟨_,_,_,_,rfl,?_,?_,?_,fun a u n e=>?_⟩
     ·rw[q0d W.symm];exact I4.ins
     ·have e:((J.map (·.2)).take (i+1)).map rR=((J.map (·.2)).take i).map rR++[(z.2.1,mV z.2.2)]:=by rw[Br,Z,Ae];rfl
      rw[e];exact q0b
     ·rw[q0d b0];exact I4.r
     ·rw[q0d (fun y=>by rw[y,a0] at e;cases e)];exact I4.k a u n e
    ·refine⟨_,rfl,by show 0<=sizeLine;decide,fun e0 b2=>?_⟩;have s6:=(Same.refl H5).new (o:=.tup []) b2;refine q3z (q:=[]) (s6 _ _ hp1') q0b (q2n a2.low) (fun _ h=>nomatch h) ⟨_,rfl,?_⟩;refine iteB (fun a6=>?_) (fun a6=>?_)
     ·have hne':z.2.1.dropLast≠[]:=by simpa using a6
      have a7:=g _ ((hH.dr _ a4).resolve_left hne');refine⟨_,rfl,_,rfl,Dr,_,rfl,DGet.t (k:=kP z.2.1.dropLast) (I2.same s6).r (by rw[q3a];exact s6 _ _ hp1'),_,rfl,?_,s6⟩;cases e:valV U (kP z.2.1.dropLast) with
      |none=>rw[e] at a7;cases a7
      |some v=>rfl
     ·exact⟨rfl,s6⟩
   ·rintro Y H2 ⟨x4,x5,x6,x7,rfl,I⟩;have a8:=I.d;rw[Aa,<- Aa (f:=fun z:Zr=>z.2),Ba] at a8;exact k d H2 a0 I.ins a8 I.k
theorem z8m(p q:Pth):vP (p++q)=vP p++vP q:=Ae
theorem cut_to(x:Pth)(n:Nat):cutV (vP x) none (some (n:Int))=vP (x.take n):=by
 unfold cutV;have e:HT.sIx (vP x).length 0 none=0:=rfl;have f:HT.sIx (vP x).length (vP x).length (some (n:Int))=min n x.length:=by
  show(if (n:Int)<0 then((n:Int)+((vP x).length:Int)).toNat else min ((n:Int)).toNat (vP x).length)=_;rw[if_neg (by lia),q1b,Ff]
 rw[e,f,Jy,Jx,<- Jb];rw[<- List.take_take,Ba]
theorem x1b(x:Pth)(n:Nat):cutV (vP x) (some (n:Int)) none=vP (x.drop n):=by
 unfold cutV;have e:HT.sIx (vP x).length 0 (some (n:Int))=min n x.length:=by
  show(if (n:Int)<0 then((n:Int)+((vP x).length:Int)).toNat else min ((n:Int)).toNat (vP x).length)=_;rw[if_neg (by lia),q1b,Ff]
 have f:HT.sIx (vP x).length (vP x).length none=x.length:=q1b x;rw[e,f,<- Ja,<- Jb];congr 1;rcases Ui n x.length with h|h
 ·rw[Rb (Hj h)];exact Eh (by rw[Dx];lia)
 ·rw[Vx h,Qn,List.drop_of_length_le h];exact Pg
theorem x1c{rs:List HRow}{p:Pth}{v:V}(h:valV (rs.map fun r=>(kP r.1,r.2)) (kP p)=some v):(p,v)∈rs:=by
 induction rs with
 |nil=>cases h
 |cons r rs ih =>
  rw[Ax] at h;by_cases e:kP r.1=kP p
  ·rw[q0z e] at h;cases h;rw[<- z1v e];exact As
  ·rw[q0y e] at h;exact Am _ (ih h)
theorem q6j{rows:List Rw}(nd:(rows.map (·.1)).Nodup){p:Pth}{m:Option Int}(h:(p,m)∈rows):valV ((rows.map rR).map fun r=>(kP r.1,r.2)) (kP p)=some (mV m) :=
 q5d (rs:=rows.map rR) (r:=rR (p,m)) (Ac.mpr ⟨_,h,rfl⟩) (by rw[An];exact nd)
theorem z1y{rows:List Rw}{p:Pth}{v:V}(h:valV ((rows.map rR).map fun r=>(kP r.1,r.2)) (kP p)=some v):∃m,v=mV m/\(p,m)∈rows:=by
 obtain⟨r,f,e⟩:=Ac.mp (x1c h);cases e;exact⟨r.2,rfl,f⟩
noncomputable def spIsDrawer(c:Addr):Sp:=fun vs H Q _=>∃h d p bl rows q,vs=[.ref h,.ref p]/\HallAt c H h d bl rows/\H p=some (.tup (vP q))/\Low q/\(rows.map (·.1)).Nodup/\∀H' bb,Same H H'->(bb=true↔q=[]\/(q,none)∈rows)->Q (.bl bb) H'
noncomputable abbrev q2e:Stmt:=inClass (top 29) 6
theorem q5n:FnScope ["self", "path"] ["self", "path"] (defScope q2e):=by trivial
theorem z1z{c:Addr}(D:Mf K c "is_drawer" "Hall.is_drawer" q2e ["self", "path"])(hk:Hk K c)(T:Txt mg):MCal P w K mg base c "is_drawer" 1 ["self", "path"] (spIsDrawer c):=by
 refine D.cal hk.cl q5n (fun vs H Q E h=>?_) (fun f R A outer s H vs Q E C h=>?_)
 ·obtain⟨h,d,p,bl,rows,q,rfl,_⟩:=h;rfl
 ·obtain⟨h,d,p,bl,rows,q,rfl,G,I,S,nd,k⟩:=h;refine⟨_,(q0f (q0m (pe_j (pe_or (q6r (eq_k K rfl C) (pv 1) (q1e q0c) (nomark _)) (z6e (pe_j (pe_and (x1q (z7j (q1q C) (pv 1) (@z5l _ _ _ _ _ K rfl (pv 0) (by rfl)))) (z6e (x1q (z3t (q1o (q1q C) (@z5l _ _ _ _ _ K rfl (pv 0) (by rfl)) (pv 1) (fun _ _=>rfl)))))))))))),?_⟩;obtain⟨M,O⟩:=G.i;refine⟨fun v u=>∃j,v=.bl j/\Same H u/\(j=true↔q=[]\/(q,none)∈rows),fun v u x=>?_,?_⟩
  ·obtain⟨j,rfl,g,e⟩:=x;exact k u j g e
  refine⟨_,rfl,by show 0<=sizeLine;decide,fun U J=>?_⟩;have g:=(Same.refl H).new (o:=.tup []) J;refine q2g (q:=[]) (g _ _ I) q0b S (fun _ h=>nomatch h) ⟨_,rfl,?_⟩;refine iteB (fun B=>?_) (fun B=>?_)
  ·exact⟨true,rfl,g,⟨fun _=>.inl (of_decide_eq_true B),fun _=>rfl⟩⟩
  have B:=of_decide_eq_false B;refine⟨fun v u=>∃j,v=.bl j/\Same H u/\(j=true↔q=[]\/(q,none)∈rows),fun v u x=>x,?_⟩;refine⟨_,rfl,_,rfl,h,c,M,_,_,rfl,g _ _ O,hk.cl,hk.m,rfl,d,_,rfl,q5y (g _ _ G.d) (g _ _ I),_,rfl,?_⟩;cases hv:valV ((rows.map rR).map fun r=>(kP r.1,r.2)) (kP q) with
  |none =>
   refine iteF ⟨false,rfl,g,⟨(fun z=>by cases z),fun z=>?_⟩⟩;exfalso;rw[q6j nd (z.resolve_left B)] at hv;cases hv
  |some v =>
   obtain⟨m,rfl,L⟩:=z1y hv;refine iteT ⟨_,rfl,h,c,M,_,_,rfl,g _ _ O,hk.cl,hk.m,rfl,_,rfl,d,mV m,rfl,?_,_,rfl,g,?_⟩
   ·rw[<- hv];exact q5y (g _ _ G.d) (g _ _ I)
   ·rw[decide_eq_true_iff];refine⟨fun z=>.inr (by rw[mV_none.mp z] at L;exact L),fun z=>mV_none.mpr ?_⟩;have:=q0q (f:=fun r:Rw=>r.1) nd L (z.resolve_left B) rfl;cases this;rfl
noncomputable def spThere1(c:Addr):Sp:=fun vs H Q _=>∃h d p bl rows place,vs=[.ref h,.ref p]/\HallAt c H h d bl rows/\H p=some (.tup (vP place))/\okP place/\(∀r∈rows,okP r.1) /\
 ∀H' v,Same H H'->(v=.non/\(∀r∈rows,fold bl r.1≠fold bl place)\/∃b r,v=.ref b/\r∈rows/\fold bl r.1=fold bl place/\H' b=some (.tup (vP r.1)))->Q v H'
theorem there1{c:Addr}(M:MCal P w K mg base c "there" 3 ["self", "place"] (spThere c)):MCal P w K mg base c "there" 3 ["self", "place"] (spThere1 c) :=
 M.imp fun vs H Q E h=>by
  obtain⟨h,d,p,bl,rows,f,e,s,u,ok,g,k⟩:=h;exact⟨h,d,p,bl,rows,f,e,s,u,ok,g,fun j q n=>k j _ q (.inl ⟨rfl,n⟩),fun j b r q v e B=>k j _ q (.inr ⟨b,r,rfl,v,e,B⟩)⟩
theorem z3g{e:St}{H:Hp}{Q:Bool->Hp->Prop}(h:Q true H):tIf0 e H Q:=h
noncomputable def IsD(rows:List Rw)(q:Pth):Prop:=q=[]\/(q,none)∈rows
noncomputable def plc:List Mv->Pth->Pth
 |[],p=>p
 |m::ms,p=>if m.1=p then m.2 else plc ms p
structure Wsh (rows:List Rw) (m:Mv):Prop where
 th:∃k,(m.1,k)∈rows/\(m.2.dropLast=m.1.dropLast\/k≠none)
 ok:okP m.2
 dr:IsD rows m.2.dropLast
structure GoodW (rows:List Rw) (ms:List Mv):Prop where
 all:∀m∈ms,Wsh rows m
 nd:(ms.map (·.1)).Nodup
structure PDt (H:Hp) (d:Addr) (ps:List (Addr×Mv)):Prop where
 at_:H d=some (dR (ps.map fun x=>(x.2.1,.ref x.1)))
 pr:∀x∈ps,H x.1=some (.tup (vP x.2.2))
theorem PDt.same{H H':Hp}{d:Addr}{ps:List (Addr×Mv)}(h:PDt H d ps)(s:Same H H'):PDt H' d ps:=⟨s _ _ h.at_,fun x e=>s _ _ (h.pr x e)⟩
structure CallsIW (P:Ay) (w:World) (K:Aq) (mg:Str->Option Value) (base:Heap) (c:Addr):Prop where
 m_there:MCal P w K mg base c "there" 3 ["self", "place"] (spThere1 c)
 m_is_drawer:MCal P w K mg base c "is_drawer" 1 ["self", "path"] (spIsDrawer c)
noncomputable def spIsWish(c:Addr):Sp:=fun vs H Q _=>∃h d a b e bl rows m ps,vs=[.ref h,.ref a,.ref b,.ref e]/\HallAt c H h d bl rows/\Hl bl rows/\H a=some (.tup (vP m.1))/\H b=some (.tup (vP m.2))/\Wsh rows m/\PDt H e ps/\m.1∉ps.map (·.2.1)/\∀H',Same H H'->Q (.bl true) H'
noncomputable abbrev q5o:Stmt:=top 11
theorem z5q:FnScope ["hall", "path", "place", "places"] ["hall", "path", "place", "places"] (defScope q5o):=by trivial
theorem z5r{c:Addr}(D:Df K mg "is_wish" q5o ["hall", "path", "place", "places"])(T:Txt mg)(C:CallsIW P w K mg base c):Cal P w K mg base "is_wish" 4 ["hall", "path", "place", "places"] (spIsWish c):=by
 refine D.cal z5q (fun vs H Q E h=>?_) (fun f a5 A outer s H vs Q E g h=>?_)
 ·obtain⟨h,d,a,b,e,bl,rows,m,R,rfl,_⟩:=h;rfl
 ·obtain⟨h,d,a,b,e,bl,rows,m,R,rfl,M,hl,ha,hb,u,pd,S,k⟩:=h;refine⟨_,(q0e (q1s (pt_j (@PW.pt _ _ _ (pw_or (q0n (ne_k K rfl g) (pe_m C.m_there g (pv 0) (q0a (pv 1) q0c)) (pv 1) (nomark _)) (x1r (q2t (z7j (q1q g) (pv 1) (pv 3))))))) (q0f (q0m q6c)) q0o) (q0e (q1s (x1s (@z2r _ _ _ K rfl (pe_m C.m_is_drawer g (pv 0) (q0a (q0p (sl_k K rfl) (pv 2) q0r (q0s (q1w q0x q0g))) q0c)) (fun _=>rfl))) (q0f (q0m q6c)) q0o) (q0f (q0m (pe_j (pe_or (q6r (eq_k K rfl g) (q0p (sl_k K rfl) (pv 2) q0r (q0s (q1w q0x q0g))) (q0p (sl_k K rfl) (pv 1) q0r (q0s (q1w q0x q0g))) (nomark _)) (z6e (pe_not (pe_m C.m_is_drawer g (pv 0) (q0a (pv 1) q0c)))))))))),?_⟩;obtain⟨U,j,W⟩:=u.th;have okp:=hl.ok _ j;have B:=u.ok;obtain⟨X,Y⟩:=M.i;obtain⟨c1,c2⟩:=q1h B.ne;obtain⟨c3,c4⟩:=q1h okp.ne;refine⟨fun G Z=>G=false/\Same H Z,?_,?_⟩;rotate_left
  ·refine⟨_,rfl,h,X,_,rfl,Y,rfl,_,rfl,h,d,a,bl,rows,m.1,rfl,M,ha,okp,hl.ok,fun Z ov q a0=>?_⟩;rcases a0 with⟨_,no⟩|⟨e1,r,rfl,g,hf,he⟩
   ·exact absurd rfl (no _ j)
   have er:r.1=m.1:=congrArg Prod.fst (hl.eq g j hf);rw[er] at he;refine⟨_,rfl,q3z he (q _ _ ha) okp.low okp.low ⟨_,rfl,?_⟩⟩;rw[decide_eq_true rfl];have hv:valV ((R.map fun x=>((x.2.1,.ref x.1):HRow)).map fun r=>(kP r.1,r.2)) (kP m.1)=none:=q7m fun r g z=>by
    obtain⟨x,hx,rfl⟩:=Ac.mp g;exact S (Ac.mpr ⟨x,hx,z⟩)
   refine iteF ⟨_,rfl,_,rfl,e,_,rfl,q5y (rs:=R.map fun x=>(x.2.1,.ref x.1)) (pd.same q).at_ (q _ _ ha),_,rfl,?_,q⟩;rw[hv];rfl
  rintro G Z ⟨rfl,q⟩;refine iteF ?_;refine⟨_,rfl,h,X,_,rfl,q _ _ Y,rfl,_,rfl,_,rfl,_,rfl,.inr (.inr ⟨b,_,rfl,SqT.of (q _ _ hb),c2,fun t1 a1=>?_⟩)⟩;rw[c1];have s2:=q.new (o:=.tup (vP m.2.dropLast)) a1;refine⟨h,d,t1,bl,rows,m.2.dropLast,rfl,M.same s2,q0b,q2n B.low,hl.paths,fun H3 G s3 I=>⟨G,rfl,?_⟩⟩;have J:=s2.trans s3;rw[I.mpr u.dr];refine iteF ⟨fun v O=>v=.bl true/\Same H O,fun v O x=>by rw[x.1];exact k _ x.2,?_⟩;refine⟨_,rfl,_,rfl,_,rfl,.inr (.inr ⟨b,_,rfl,SqT.of (J _ _ hb),c2,fun t2 a2=>?_⟩)⟩;rw[c1];have s4:=J.new (o:=.tup (vP m.2.dropLast)) a2;have e2:upd H3 t2 (.tup (vP m.2.dropLast)) t2=some (.tup (vP m.2.dropLast)):=q0b;generalize upd H3 t2 (.tup (vP m.2.dropLast))=O at s4 e2;refine⟨_,rfl,_,rfl,_,rfl,.inr (.inr ⟨a,_,rfl,SqT.of (s4 _ _ ha),c4,fun t3 a3=>?_⟩)⟩;rw[c3];have s5':=(Same.refl O).new (o:=.tup (vP m.1.dropLast)) a3;have L:=s4.trans s5';refine q2g (s5' _ _ e2) q0b (q2n B.low) (q2n okp.low) ⟨_,rfl,iteB (fun e=>⟨rfl,L⟩) (fun e=>?_)⟩;have e:=of_decide_eq_false e;have a4:U≠none:=W.resolve_left e;refine⟨_,rfl,h,X,_,rfl,L _ _ Y,rfl,_,rfl,h,d,a,bl,rows,m.1,rfl,M.same L,L _ _ ha,okp.low,hl.paths,fun H6 G s6 I=>⟨G,rfl,?_,L.trans s6⟩⟩;cases G with
  |false=>rfl
  |true =>
   rcases I.mp rfl with z|z
   ·exact absurd z okp.ne
   ·exact absurd (hl.one j z) a4
structure CallsWP (P:Ay) (w:World) (K:Aq) (mg:Str->Option Value) (base:Heap) (c:Addr):Prop where
 is_wish:Cal P w K mg base "is_wish" 4 ["hall", "path", "place", "places"] (spIsWish c)
noncomputable def spWishedP(c:Addr):Sp:=fun vs H Q _=>∃h d L bl rows zs,vs=[.ref h,.ref L]/\HallAt c H h d bl rows/\Hl bl rows/\ML H L zs/\GoodW rows (zs.map (·.2))/\zs.length<=60 /\
 ∀D ps H',H D=none->Same H H'->PDt H' D ps->ps.map (·.2)=zs.map (·.2)->Q (.ref D) H'
noncomputable abbrev q2j:Stmt:=top 12
theorem sc_wished_places:FnScope ["hall", "wishes", "places", "at", "path", "place"] ["hall", "wishes"] (defScope q2j):=by trivial
theorem z5s{c:Addr}(D:Df K mg "wished_places" q2j ["hall", "wishes"])(T:Txt mg)(C:CallsWP P w K mg base c):Cal P w K mg base "wished_places" 5 ["hall", "wishes"] (spWishedP c):=by
 refine D.cal sc_wished_places (fun vs H Q E h=>?_) (fun f a2 A outer s H vs Q E X h=>?_)
 ·obtain⟨h,d,L,bl,rows,q,rfl,_⟩:=h;rfl
 ·obtain⟨h,d,L,bl,rows,q,rfl,hh,hl,ml,gw,few,k⟩:=h;refine⟨_,(q0e (q0j (i:=2) sc_wished_places.nd rfl (by trivial) q6g) (q0e (q1u Ca rfl (@z7g _ _ _ _ _ _ _ _ K rfl rfl T.b_enumerate (q0a (pv 1) q0c) (by rfl)) (@q2l _ _ _ _ (2) _ K rfl rfl (q0k (q0h (i:=3) sc_wished_places.nd rfl (by trivial)) (q0k (@q2l _ _ _ _ (2) _ K rfl rfl (q0k (q0h (i:=4) sc_wished_places.nd rfl (by trivial)) (q0k (q0h (i:=5) sc_wished_places.nd rfl (by trivial)) q1m)) (by rfl) (by rfl)) q1m)) (by rfl) (by rfl)) (q0e (q1s (x1s (@z2r _ _ _ K rfl (pe_c C.is_wish X (q0a (pv 0) (q0a (pv 4) (q0a (pv 5) (q0a (pv 2) q0c))))) (fun _=>rfl))) (q0f q6d) q0o) (q0f (q4j (q1q X) (pv 2) (pv 4) (pv 5) rfl)))) (q0f (q0m (pv 2))))),?_⟩;intro D hD;have s0:=(Same.refl H).new (o:=.dT []) hD;refine⟨_,rfl,.inr ⟨L,_,rfl,SqL.of (s0 _ _ ml.at_),?_⟩⟩;refine q7j (fun i B G=>∃g x3 x4 x5,B=[some (.ref h),some (.ref L),some (.ref D),x3,x4,x5]/\Same H G/\PDt G D g/\g.map (·.2)=(q.map (·.2)).take i) ⟨[],none,none,none,rfl,s0,⟨q0b,(fun _ h=>nomatch h)⟩,rfl⟩ (fun i B G h=>by obtain⟨_,_,_,_,_,M,_⟩:=h;exact SqL.of (M _ _ ml.at_)) ?_ ?_
  ·rintro i v T' B G hv ⟨g,x3,x4,x5,rfl,M,pd,j⟩ hT;obtain⟨z,hz,rfl⟩:=gR0 hv
   have Y:=(Same.refl G).new (o:=.tup [.int i,.ref z.1]) hT;obtain⟨A1,O,g1,g2,g3⟩:=((ml.same M).same Y).pr z (Ah hz);have R:(q.map (·.2))[i]?=some z.2:=by rw[Ak,hz];rfl
   have e1:(q.map (·.2)).take (i+1)=(q.map (·.2)).take i++[z.2]:=by rw[Br,R];rfl
   have S:z.2.1∉g.map (·.2.1):=fun U=>by
    have e2:g.map (·.2.1)=((q.map (·.2)).take i).map (·.1):=by rw[<- j,An];rfl
    rw[e2] at U;have nd:=gw.nd;have e3:((q.map (·.2)).take (i+1)).map (·.1)=((q.map (·.2)).take i).map (·.1)++[z.2.1]:=by rw[e1,Ae];rfl
    have W:(((q.map (·.2)).take (i+1)).map (·.1)).Nodup:=by rw[Jb];exact nd.sublist (Lv _ _)
    rw[e3] at W;exact(Dz.mp W).2.2 _ U _ (Aj.mpr rfl) rfl
   refine⟨T',_,rfl,SqT.of q0b,rfl,_,_,rfl,_,_,rfl,z.1,_,rfl,SqT.of g1,rfl,_,_,rfl,_,_,rfl,rfl,rfl,?_⟩;have s3:=M.trans Y;refine⟨_,rfl,_,rfl,_,rfl,_,rfl,h,d,A1,O,D,bl,rows,z.2,g,rfl,hh.same s3,hl,g2,g3,gw.all z.2 (Ah R),pd.same Y,S,fun H4 Z=>⟨true,rfl,iteF ?_⟩⟩;have a0:=s3.trans Z;have I:=(pd.same Y).same Z;have pl:g.length<=60:=by
    have:=congrArg List.length j;rw[Aa,Bp,Aa] at this;lia
   refine⟨_,rfl,_,rfl,_,rfl,D,_,rfl,DPut.t (k:=kP z.2.1) I.at_ (by rw[q3a];exact Z _ _ g2) (by rw[Aa,Aa];exact small' (by lia)),?_⟩;rw[q4b (p:=z.2.1) (v:=.ref O) fun r X z'=>by
    obtain⟨x,J,rfl⟩:=Ac.mp X;exact S (Ac.mpr ⟨x,J,z'⟩)]
   have nD:∀(x:Addr) (u:HO),H4 x=some u->(∀a1,u≠.dT a1)->upd H4 D (dR ((g.map fun x=>((x.2.1,.ref x.1):HRow))++[(z.2.1,.ref O)])) x=some u:=fun x u e n=>by
    rw[q0d (fun y=>by rw[y,I.at_] at e;cases e;exact n _ rfl)];exact e
   have em:(g++[(O,z.2)]).map (fun x=>((x.2.1,.ref x.1):HRow))=(g.map fun x=>((x.2.1,.ref x.1):HRow))++[(z.2.1,.ref O)]:=by rw[Ae];rfl
   refine⟨g++[(O,z.2)],_,_,_,rfl,fun x u e=>?_,⟨by rw[q0b,em],fun x J=>?_⟩,by rw[e1,Ae,j];rfl⟩
   ·rw[q0d (fun y=>by rw[y,hD] at e;cases e)];exact a0 _ _ e
   ·rcases Ar.mp J with J|J
    ·exact nD _ _ (I.pr x J) (fun _ y=>by cases y)
    ·rw[Aj.mp J];exact nD _ _ (Z _ _ g3) (fun _ y=>by cases y)
  ·rintro B G ⟨g,x3,x4,x5,rfl,M,pd,j⟩;rw[Aa,<- Aa (f:=fun z:Zm=>z.2),Ba] at j;exact⟨_,rfl,k D g G hD M pd j⟩
theorem val_ps{ps:List (Addr×Mv)}{p:Pth}(h:p∉ps.map (·.2.1)):valV ((ps.map fun x=>((x.2.1,.ref x.1):HRow)).map fun r=>(kP r.1,r.2)) (kP p)=none:=q7m fun r e z=>by
 obtain⟨x,f,rfl⟩:=Ac.mp e;exact h (Ac.mpr ⟨x,f,z⟩)
theorem q5z{ms:List Mv}{p:Pth}(h:p∉ms.map (·.1)):plc ms p=p:=by
 induction ms with
 |nil=>rfl
 |cons m ms ih =>
  rw[Ax,Bb,not_or] at h;unfold plc;rw[if_neg (fun z=>h.1 z.symm)];exact ih h.2
theorem q8q{ms:List Mv}{m:Mv}(nd:(ms.map (·.1)).Nodup)(h:m∈ms):plc ms m.1=m.2:=by
 induction ms with
 |nil=>cases h
 |cons x ms ih =>
  rw[Ax,Bs] at nd;unfold plc;rcases Bb.mp h with rfl|h
  ·rw[if_pos rfl]
  ·rw[if_neg (fun z=>nd.1 (Ac.mpr ⟨m,h,z.symm⟩))];exact ih nd.2 h
theorem PDt.get{H:Hp}{d b:Addr}{ps:List (Addr×Mv)}{p:Pth}(x:PDt H d ps)(nd:((ps.map (·.2)).map (·.1)).Nodup)(g:H b=some (.tup (vP p))):(p∉(ps.map (·.2)).map (·.1)/\DGet H d (.ref b) none)\/∃y∈ps,y.2.1=p/\DGet H d (.ref b) (some (.ref y.1))/\H y.1=some (.tup (vP (plc (ps.map (·.2)) p))):=by
 have j:(ps.map (·.2)).map (·.1)=ps.map (·.2.1):=by rw[An];rfl
 by_cases h:p∈ps.map (·.2.1)
 ·obtain⟨y,f,rfl⟩:=Ac.mp h;refine .inr ⟨y,f,rfl,?_,?_⟩
  ·have e:=q5d (rs:=ps.map fun x=>((x.2.1,.ref x.1):HRow)) (r:=(y.2.1,.ref y.1)) (Ac.mpr ⟨y,f,rfl⟩) (by rw[An];rw[j] at nd;exact nd);rw[<- e];exact q5y x.at_ g
  ·rw[q8q nd (Ac.mpr ⟨y,f,rfl⟩)];exact x.pr y f
 ·refine .inl ⟨by rw[j];exact h,?_⟩;rw[<- val_ps h];exact q5y x.at_ g
structure CallsAP (P:Ay) (w:World) (K:Aq) (mg:Str->Option Value) (base:Heap) (c:Addr):Prop where
 wished_places:Cal P w K mg base "wished_places" 5 ["hall", "wishes"] (spWishedP c)
 m_rows:MCal P w K mg base c "rows" 2 ["self"] (spHRows c)
noncomputable def spAllP(c:Addr):Sp:=fun vs H Q _=>∃h d L bl rows zs,vs=[.ref h,.ref L]/\HallAt c H h d bl rows/\Hl bl rows/\rows.length<=60/\ML H L zs/\GoodW rows (zs.map (·.2))/\zs.length<=60 /\
 ∀D ps (rs:List Rw) H',H D=none->Same H H'->PDt H' D ps->rs.Perm rows->(rs.map (·.1)).Pairwise (fun a b=>pLt b a=false)->ps.map (·.2)=rs.map (fun r=>(r.1,plc (zs.map (·.2)) r.1))->Q (.ref D) H'
noncomputable abbrev q3d:Stmt:=top 13
theorem sc_all_places:FnScope ["hall", "wishes", "places"] ["hall", "wishes"] (defScope q3d):=by trivial
theorem x4l{c:Addr}(D:Df K mg "all_places" q3d ["hall", "wishes"])(T:Txt mg)(C:CallsAP P w K mg base c):Cal P w K mg base "all_places" 6 ["hall", "wishes"] (spAllP c):=by
 refine D.cal sc_all_places (fun vs H Q E h=>?_) (fun f a7 A outer s H vs Q E B h=>?_)
 ·obtain⟨h,d,L,bl,rows,I,rfl,_⟩:=h;rfl
 ·obtain⟨h,d,L,bl,rows,I,rfl,hh,hl,a8,ml,gw,few,k⟩:=h;refine⟨_,(q0e (q0j (i:=2) sc_all_places.nd rfl (by trivial) (pe_c C.wished_places B (q0a (pv 0) (q0a (pv 1) q0c)))) (q0f (q0m (x0p ["path", "mark"] [("places",2)] rfl (@q1y _ _ _ _ K rfl (pe_m0 C.m_rows B (pv 0))) (fun _ _ _ _ _=>(@q2l _ _ _ _ (2) _ K rfl rfl (q0k (q0h (i:=0) (show(["path", "mark", "places"]:List Str).Nodup by trivial) rfl (by trivial)) (q0k (q0h (i:=1) (show(["path", "mark", "places"]:List Str).Nodup by trivial) rfl (by trivial)) q1m)) (by rfl) (by rfl))) (fun _ _ _ _ _=>q1n) (fun _ _ _ _ _=>(pv 0)) (fun _ _ _ _ _=>(x0h (q1q B) (pv 2) (pv 0) (pv 0) ⟨rfl,rfl,rfl,rfl⟩)) (q1q B))))),?_⟩;refine⟨_,rfl,_,rfl,h,d,L,bl,rows,I,rfl,hh,hl,ml,gw,few,fun D0 a0 H1 a9 Z W e0=>?_⟩;obtain⟨dx,hi⟩:=hh.i;have a1:((a0.map (·.2)).map (·.1)).Nodup:=by rw[e0];exact gw.nd
  refine⟨_,rfl,h,dx,_,rfl,Z _ _ hi,rfl,h,d,bl,rows,rfl,hh.same Z,by lia,fun r B=>(hl.ok r B).low,fun L2 zs2 H2 b0 s2 J M a2=>?_⟩;refine .inl ⟨L2,rfl,⟨_,SqL.of J.at_⟩,fun O R=>?_⟩;have a3:((zs2.map (·.2)).map (·.1)).Nodup:=(hl.perm M).paths;have l2:zs2.length<=60:=by have:=M.length_eq;rw[Aa] at this;lia
  refine q8h (fun i ys j=>∃g,ys=((g.map fun x=>((x.2.1,.ref x.1):HRow)).map fun r=>(kP r.1,r.2))/\PDt j O g/\Same H2 j/\g.map (·.2)=((zs2.map (·.2)).take i).map (fun r=>(r.1,plc (I.map (·.2)) r.1))) ⟨[],rfl,⟨q0b,(fun _ h=>nomatch h)⟩,(Same.refl H2).new R,rfl⟩ (fun i ys j h=>by obtain⟨g,e,pd,G,_⟩:=h;exact⟨by rw[e];exact pd.at_,SqL.of (G _ _ J.at_)⟩) ?_ ?_
  ·rintro i ys j v hv ⟨g,rfl,pd,G,q⟩;obtain⟨z,hz,rfl⟩:=gR0 hv
   have a4:(zs2.map (·.2))[i]?=some z.2:=by rw[Ak,hz];rfl
   have e1:(zs2.map (·.2)).take (i+1)=(zs2.map (·.2)).take i++[z.2]:=by rw[Br,a4];rfl
   have b1:i<zs2.length:=(Af.mp hz).1;have pl:g.length<=60:=by
    have:=congrArg List.length q;rw[Aa,Aa,Bp,Aa] at this;lia
   obtain⟨b,h1,h2⟩:=(J.same G).pr z (Ah hz);have a5:z.2.1∉g.map (·.2.1):=fun X=>by
    have e2:g.map (·.2.1)=((zs2.map (·.2)).take i).map (·.1):=by
     have:g.map (·.2.1)=(g.map (·.2)).map (·.1):=by rw[An];rfl
     rw[this,q,An];rfl
    rw[e2] at X;have e3:((zs2.map (·.2)).take (i+1)).map (·.1)=((zs2.map (·.2)).take i).map (·.1)++[z.2.1]:=by rw[e1,Ae];rfl
    have Y:(((zs2.map (·.2)).take (i+1)).map (·.1)).Nodup:=by rw[Jb];exact a3.sublist (Lv _ _)
    rw[e3] at Y;exact(Dz.mp Y).2.2 _ X _ (Aj.mpr rfl) rfl
   refine⟨z.1,_,rfl,SqT.of h1,rfl,_,_,rfl,_,_,rfl,rfl,q2p,?_⟩;refine z3g (iteT ?_);refine⟨_,rfl,_,rfl,D0,rfl,.inr ⟨_,.inl ((s2.trans G) _ _ W.at_)⟩,_,rfl,_,rfl,?_⟩;have put:∀(e:Addr),j e=some (.tup (vP (plc (I.map (·.2)) z.2.1)))->∃k c,V.ref b=.ref c/\j c=some (.tup (k.map kV))/\j O=some (.dT ((g.map fun x=>((x.2.1,.ref x.1):HRow)).map fun r=>(kP r.1,r.2)))/\((g.map fun x=>((x.2.1,.ref x.1):HRow)).map fun r=>(kP r.1,r.2)).length<sizeLine /\
     ∃S,putK ((g.map fun x=>((x.2.1,.ref x.1):HRow)).map fun r=>(kP r.1,r.2)) k (.ref e)=((S.map fun x=>((x.2.1,.ref x.1):HRow)).map fun r=>(kP r.1,r.2))/\PDt (upd j O (.dT (putK ((g.map fun x=>((x.2.1,.ref x.1):HRow)).map fun r=>(kP r.1,r.2)) k (.ref e)))) O S/\Same H2 (upd j O (.dT (putK ((g.map fun x=>((x.2.1,.ref x.1):HRow)).map fun r=>(kP r.1,r.2)) k (.ref e))))/\S.map (·.2)=((zs2.map (·.2)).take (i+1)).map (fun r=>(r.1,plc (I.map (·.2)) r.1)):=fun e he=>by
    refine⟨kP z.2.1,b,rfl,by rw[q3a];exact h2,pd.at_,by rw[Aa,Aa];exact small' (by lia),g++[(e,(z.2.1,plc (I.map (·.2)) z.2.1))],?_⟩;have em:(g++[(e,(z.2.1,plc (I.map (·.2)) z.2.1))]).map (fun x=>((x.2.1,.ref x.1):HRow))=(g.map fun x=>((x.2.1,.ref x.1):HRow))++[(z.2.1,.ref e)]:=by rw[Ae];rfl
    rw[q4b (p:=z.2.1) (v:=.ref e) fun r B z'=>by
     obtain⟨x,U,rfl⟩:=Ac.mp B;exact a5 (Ac.mpr ⟨x,U,z'⟩),em]
    refine⟨rfl,⟨by rw[q0b,em],fun x U=>?_⟩,fun x u eu=>?_,by rw[e1,Ae,Ae,q];rfl⟩
    ·have nD:∀(x:Addr) (xs:List V),j x=some (.tup xs)->upd j O (dR ((g.map fun x=>((x.2.1,.ref x.1):HRow))++[(z.2.1,.ref e)])) x=some (.tup xs):=fun x xs e=>by
      rw[q0d (fun y=>by rw[y,pd.at_] at e;cases e)];exact e
     rcases Ar.mp U with U|U
     ·exact nD _ _ (pd.pr x U)
     ·rw[Aj.mp U];exact nD _ _ he
    ·rw[q0d (fun y=>by rw[y,R] at eu;cases eu)];exact G _ _ eu
   rcases(W.same (s2.trans G)).get a1 h2 with⟨hn,dg⟩|⟨y,hy,ey,dg,a6⟩
   ·refine⟨none,dg,put b ?_⟩;rw[q5z (by rw[<- e0];exact hn)];exact h2
   ·refine⟨some (.ref y.1),dg,put y.1 ?_⟩;rw[<- e0];exact a6
  ·rintro ys j ⟨g,rfl,pd,G,q⟩;rw[Aa,<- Aa (f:=fun z:Zr=>z.2),Ba] at q;exact k O g (zs2.map (·.2)) j ((Z.trans s2).free R) ((Z.trans s2).trans G) pd M (by rw[An];exact a2) q
theorem q7n{xs:List V}{i:Int}(h0:0<=i)(g:i<=xs.length):cutV xs (some i) none=xs.drop i.toNat:=by
 have e:HT.sIx xs.length 0 (some i)=i.toNat:=by
  show(if i<0 then(i+(xs.length:Int)).toNat else min i.toNat xs.length)=_;rw[if_neg (by lia)];lia
 have f:HT.sIx xs.length xs.length none=xs.length:=rfl;unfold cutV;rw[e,f];exact Eh (by rw[Dx];exact Au _)
noncomputable abbrev Tri:=Pth×Pth×Pth
noncomputable def rowT(bl:Bool)(f:Pth->Pth)(ps:List Pth)(i:Nat):List Tri:=match ps[i]? with
 |none=>[]
 |some p=>((ps.drop (i+1)).filter fun q=>decide (fold bl (f p)=fold bl (f q))).map fun q=>(p,q,f p)
noncomputable def accT(bl:Bool)(f:Pth->Pth)(ps:List Pth)(i:Nat):List Tri:=(List.range i).flatMap (rowT bl f ps)
theorem z2a{bl:Bool}{f:Pth->Pth}{ps:List Pth}{i:Nat}:accT bl f ps (i+1)=accT bl f ps i++rowT bl f ps i:=by
 unfold accT;rw[List.range_succ,List.flatMap_append];simp
theorem x1d{bl:Bool}{f:Pth->Pth}{ps:List Pth}{i:Nat}:(rowT bl f ps i).length<=ps.length:=by
 unfold rowT;split
 ·exact Bf _
 ·rw[Aa];refine Ce (Dk _ _) ?_;rw[Dx];lia
theorem z4m{bl:Bool}{f:Pth->Pth}{ps:List Pth}:∀i,(accT bl f ps i).length<=i*ps.length
 |0=>by simp[accT]
 |i+1=>by
  rw[z2a,Al,Nat.succ_mul];have:=z4m (bl:=bl) (f:=f) (ps:=ps) i;have:=x1d (bl:=bl) (f:=f) (ps:=ps) (i:=i);lia
noncomputable abbrev Zt:=Addr×Tri
noncomputable def TT3(H:Hp)(T:Addr)(t:Tri):Prop:=∃A B C,H T=some (.tup [.ref A,.ref B,.ref C])/\H A=some (.tup (vP t.1))/\H B=some (.tup (vP t.2.1))/\H C=some (.tup (vP t.2.2))
structure TL (H:Hp) (L:Addr) (ts:List Zt):Prop where
 at_:H L=some (.lst (ts.map fun z=>V.ref z.1))
 pr:∀z∈ts,TT3 H z.1 z.2
theorem TT3.keep{H H':Hp}{T:Addr}{t:Tri}(h:TT3 H T t)(k:∀T xs,H T=some (.tup xs)->H' T=some (.tup xs)):TT3 H' T t:=let ⟨A,B,C,e,f,g,j⟩:=h;⟨A,B,C,k _ _ e,k _ _ f,k _ _ g,k _ _ j⟩
theorem TL.same{H H':Hp}{L:Addr}{f:List Zt}(h:TL H L f)(s:Same H H'):TL H' L f:=⟨s _ _ h.at_,fun z g=>(h.pr z g).keep fun _ _ e=>s _ _ e⟩
theorem TL.put{H:Hp}{L T:Addr}{g:List Zt}{t:Tri}(h:TL H L g)(j:TT3 H T t):TL (upd H L (.lst (g.map (fun z=>V.ref z.1)++[.ref T]))) L (g++[(T,t)]):=by
 have tk:∀S xs,H S=some (.tup xs)->upd H L (.lst (g.map (fun z=>V.ref z.1)++[.ref T])) S=some (.tup xs):=fun S xs e=>by rw[q0d (fun z=>by rw[z,h.at_] at e;cases e)];exact e
 refine⟨by rw[q0b,Ae];rfl,fun z f=>?_⟩;rcases Ar.mp f with f|f
 ·exact(h.pr z f).keep tk
 ·rw[Aj.mp f];exact j.keep tk
theorem x4m{ms:List Mv}{rs:List Rw}{p:Pth}(h:p∈rs.map (·.1)):plc (rs.map fun r=>(r.1,plc ms r.1)) p=plc ms p:=by
 induction rs with
 |nil=>cases h
 |cons r rs ih =>
  rw[Ax];show(if r.1=p then plc ms r.1 else plc (rs.map fun r=>(r.1,plc ms r.1)) p)=_;by_cases e:r.1=p
  ·rw[if_pos e,e]
  ·rw[if_neg e];rw[Ax] at h;exact ih ((Bb.mp h).resolve_left fun z=>e z.symm)
theorem q1l{ms:List Mv}{rows:List Rw}{p:Pth}{bl:Bool}(hl:Hl bl rows)(gw:GoodW rows ms)(f:p∈rows.map (·.1)):okP (plc ms p):=by
 by_cases h:p∈ms.map (·.1)
 ·obtain⟨m,e,rfl⟩:=Ac.mp h;rw[q8q gw.nd e];exact(gw.all m e).ok
 ·rw[q5z h];obtain⟨r,g,rfl⟩:=Ac.mp f;exact hl.ok r g
theorem x1e{H:Hp}:∀{bs:List Addr} {ps:List Pth},Cu (fun b p=>H b=some (.tup (vP p))) bs ps->∃zs:List (Addr×Pth),bs.map V.ref=zs.map (fun z=>V.ref z.1)/\zs.map (·.2)=ps/\∀z∈zs,H z.1=some (.tup (vP z.2))
 |_,_,.nil=>⟨[],rfl,rfl,fun _ h=>nomatch h⟩
 |b::bs,p::ps,.cons h t=>by
  obtain⟨zs,f,g,j⟩:=x1e t;refine⟨(b,p)::zs,by rw[Ax,f];rfl,by rw[Ax,g],fun z e=>?_⟩;rcases Bb.mp e with rfl|e
  ·exact h
  ·exact j z e
structure CallsMe (P:Ay) (w:World) (K:Aq) (mg:Str->Option Value) (base:Heap) (c:Addr):Prop where
 all_places:Cal P w K mg base "all_places" 6 ["hall", "wishes"] (spAllP c)
 m_is_one_place:MCal P w K mg base c "is_one_place" 2 ["self", "one", "other"] (spOneP c)
noncomputable def spMeet(c:Addr):Sp:=fun vs H Q _=>∃h d L bl rows zs,vs=[.ref h,.ref L]/\HallAt c H h d bl rows/\Hl bl rows/\rows.length<=30/\ML H L zs/\GoodW rows (zs.map (·.2))/\zs.length<=60 /\
 ∀L' ts ps H',H L'=none->Same H H'->TL H' L' ts->ps.Perm (rows.map (·.1))->ps.Pairwise (fun a b=>pLt b a=false)->ts.map (·.2)=accT bl (plc (zs.map (·.2))) ps ps.length->Q (.ref L') H'
noncomputable abbrev q4p:Stmt:=top 14
theorem sc_meetings:FnScope ["hall", "wishes", "places", "paths", "told", "at", "one", "other"] ["hall", "wishes"] (defScope q4p):=by trivial
theorem x4n{c:Addr}(D:Df K mg "meetings" q4p ["hall", "wishes"])(T:Txt mg)(C:CallsMe P w K mg base c):Cal P w K mg base "meetings" 7 ["hall", "wishes"] (spMeet c):=by
 refine D.cal sc_meetings (fun vs H Q E h=>?_) (fun f d9 A outer s H vs Q E Y h=>?_)
 ·obtain⟨h,d,L,bl,rows,zs,rfl,_⟩:=h;rfl
 ·obtain⟨h,d,L,bl,rows,zs,rfl,hh,hl,e6,ml,gw,few,k⟩:=h;refine⟨_,(q0e (q0j (i:=2) sc_meetings.nd rfl (by trivial) (pe_c C.all_places Y (q0a (pv 0) (q0a (pv 1) q0c)))) (q0e (q0j (i:=3) sc_meetings.nd rfl (by trivial) (q0l (q3y Y) (by rfl) T.b_sorted (by trivial) (q0a (pv 2) q0c))) (q0e (q0j (i:=4) sc_meetings.nd rfl (by trivial) (q2a q0c)) (q0e (q1u Ca rfl (@z7g _ _ _ _ _ _ _ _ K rfl rfl T.b_enumerate (q0a (pv 3) q0c) (by rfl)) (@q2l _ _ _ _ (2) _ K rfl rfl (q0k (q0h (i:=5) sc_meetings.nd rfl (by trivial)) (q0k (q0h (i:=6) sc_meetings.nd rfl (by trivial)) q1m)) (by rfl) (by rfl)) (q0f (q1u Ca rfl (@q1y _ _ _ _ K rfl (q0p (sl_k K rfl) (pv 3) (q0s (q1d q1j (pv 5) q0g)) q0r)) (q0h (i:=7) sc_meetings.nd rfl (by trivial)) (q0f (q1s (@z2r _ _ _ K rfl (pe_m C.m_is_one_place Y (pv 0) (q0a (q1o (q1q Y) (pv 2) (pv 6) (fun _ _=>rfl)) (q0a (q1o (q1q Y) (pv 2) (pv 7) (fun _ _=>rfl)) q0c))) (fun _=>rfl)) (q0f (q2b (@bm_k _ _ _ _ _ _ _ _ _ _ _ _ K rfl Cq Eu Ew q2f (pv 4) (q0a (q1e (q0a (pv 6) (q0a (pv 7) (q0a (q1o (q1q Y) (pv 2) (pv 6) (fun _ _=>rfl)) q0c)))) q0c) (by rfl) (by rfl) (by rfl) (by rfl) (by rfl)))) q0o))))) (q0f (q0m (pv 4))))))),?_⟩;obtain⟨dx,hi⟩:=hh.i;refine⟨_,rfl,_,rfl,h,d,L,bl,rows,zs,rfl,hh,hl,by lia,ml,gw,few,fun D0 J rs H1 e7 s1 a1 R e8 e0=>?_⟩;have b5:(J.map fun x=>((x.2.1,.ref x.1):HRow)).map (·.1)=rs.map (·.1):=by
   have:(J.map fun x=>((x.2.1,.ref x.1):HRow)).map (·.1)=(J.map (·.2)).map (·.1):=by rw[An,An];rfl
   rw[this,e0,An];rfl
  have e9:rs.length=rows.length:=R.length_eq;have f0:J.length=rs.length:=by have:=congrArg List.length e0;rw[Aa,Aa] at this;exact this
  have c6:((J.map (·.2)).map (·.1)).Nodup:=by
   have e:(J.map (·.2)).map (·.1)=rs.map (·.1):=by rw[e0,An];rfl
   rw[e];exact(hl.perm R).paths
  refine⟨_,rfl,D0,_,rfl,a1.at_,by rw[Aa];lia,fun r Y=>?_,fun Z bs B c7 b6 c8 b7=>?_⟩
  ·have c9:r.1∈rs.map (·.1):=by rw[<- b5];exact Ac.mpr ⟨r,Y,rfl⟩
   obtain⟨y,hy,e⟩:=Ac.mp c9;rw[<- e];exact(hl.ok y (R.mem_iff.mp hy)).ne
  rw[b5] at b6;obtain⟨xs,x1,x2,x3⟩:=x1e b7;rw[x1];have a2:B.Perm (rows.map (·.1)):=b6.trans (R.map _);have xl:xs.length<=30:=by
   have e1:=congrArg List.length x2;have e2:=a2.length_eq;rw[Aa] at e1 e2;lia
  have s2:=(Same.refl H1).new (o:=.lst (xs.map fun z=>V.ref z.1)) c7;have S:upd H1 Z (.lst (xs.map fun z=>V.ref z.1)) Z=some (.lst (xs.map fun z=>V.ref z.1)):=q0b;have U:∀z∈xs,upd H1 Z (.lst (xs.map fun z=>V.ref z.1)) z.1=some (.tup (vP z.2)):=fun z O=>s2 _ _ (x3 z O);have W:=s1.trans s2;have b8:=a1.same s2;generalize upd H1 Z (.lst (xs.map fun z=>V.ref z.1))=H2 at s2 S U W b8;clear x3 b7 x1 s2 a1;have d0:B.length=xs.length:=by rw[<- x2,Aa]
  have a0:∀z∈xs,z.2∈rows.map (·.1):=fun z O=>a2.mem_iff.mp (by rw[<- x2];exact Ac.mpr ⟨z,O,rfl⟩);have get:∀{M:Hp} (z:Addr×Pth),z∈xs->Same H2 M->∃e,DGet M D0 (.ref z.1) (some (.ref e))/\M e=some (.tup (vP (plc (zs.map (·.2)) z.2))):=fun{M} z O s'=>by
   have b9:z.2∈rs.map (·.1):=(R.map _).mem_iff.mpr (a0 z O);rcases(b8.same s').get c6 (s' _ _ (U z O)) with⟨hn,_⟩|⟨y,hy,ey,dg,c0⟩
   ·exact absurd (by rw[e0,An];exact b9) hn
   ·refine⟨y.1,dg,?_⟩;rw[e0,x4m b9] at c0;exact c0
  have a3:∀z∈xs,okP (plc (zs.map (·.2)) z.2):=fun z O=>q1l hl gw (a0 z O);generalize hf:plc (zs.map (·.2))=f at get a3 k;have c1:=W _ _ hi;refine⟨by show 0<=sizeLine;decide,fun L3 a4=>?_⟩;have s3:=(Same.refl H2).new (o:=.lst []) a4;refine⟨_,rfl,.inr ⟨Z,_,rfl,SqL.of (s3 _ _ S),?_⟩⟩;refine q7j (fun i g M=>∃I x5 x6 x7,g=[some (.ref h),some (.ref L),some (.ref D0),some (.ref Z),some (.ref L3),x5,x6,x7]/\Same H2 M/\TL M L3 I/\I.map (·.2)=accT bl f B i) ⟨[],none,none,none,rfl,s3,⟨q0b,(fun _ h=>nomatch h)⟩,rfl⟩ (fun i g M x=>by obtain⟨_,_,_,_,_,s',_⟩:=x;exact SqL.of (s' _ _ S)) ?_ ?_
  ·rintro i v T' g H4 hv ⟨I,x5,x6,x7,rfl,s4,a5,a6⟩ hT;obtain⟨z,O,rfl⟩:=gR0 hv
   have X:=Ah O;have f1:i<xs.length:=(Af.mp O).1;have d1:B[i]?=some z.2:=by rw[<- x2,Ak,O];rfl
   have sT:=(Same.refl H4).new (o:=.tup [.int i,.ref z.1]) hT;refine⟨T',_,rfl,SqT.of q0b,rfl,_,_,rfl,_,_,rfl,rfl,?_⟩;have s5:=s4.trans sT;have c2:=a5.same sT;refine⟨_,rfl,_,rfl,.inl ⟨_,_,rfl,rfl,_,rfl,.inr (.inl ⟨Z,_,rfl,SqL.of (s5 _ _ S),fun L5 a7=>?_⟩)⟩⟩;have ec:cutV (xs.map fun z=>V.ref z.1) (some ((i:Int)+1)) none=(xs.drop (i+1)).map fun z=>V.ref z.1:=by
    rw[q7n (by lia) (by rw[Aa];lia),Ja];congr 1
   rw[ec];have s6':=(Same.refl (upd H4 T' (.tup [.int i,.ref z.1]))).new (o:=.lst ((xs.drop (i+1)).map fun z=>V.ref z.1)) a7;have s6:=s5.trans s6';have c3:=c2.same s6';have a8:upd (upd H4 T' (.tup [.int i,.ref z.1])) L5 (.lst ((xs.drop (i+1)).map fun z=>V.ref z.1)) L5=some (.lst ((xs.drop (i+1)).map fun z=>V.ref z.1)):=q0b;have c4:L5≠L3:=fun y=>by rw[y,c2.at_] at a7;cases a7
   generalize upd (upd H4 T' (.tup [.int i,.ref z.1])) L5 (.lst ((xs.drop (i+1)).map fun z=>V.ref z.1))=H6 at s6' s6 c3 a8;refine .inl ⟨L5,rfl,⟨_,SqL.of a8⟩,?_⟩;refine q3v (xs:=(xs.drop (i+1)).map fun z=>V.ref z.1) (fun j g M=>∃I x7,g=[some (.ref h),some (.ref L),some (.ref D0),some (.ref Z),some (.ref L3),some (.int (i:Int)),some (.ref z.1),x7]/\Same H2 M/\TL M L3 I/\M L5=some (.lst ((xs.drop (i+1)).map fun z=>V.ref z.1))/\I.map (·.2)=accT bl f B i++(((B.drop (i+1)).take j).filter fun q=>decide (fold bl (f z.2)=fold bl (f q))).map fun q=>(z.2,q,f z.2))
    ⟨I,x7,rfl,s6,c3,a8,by rw[a6];simp⟩ (fun j g M _ x=>by obtain⟨_,_,_,_,_,h5,_⟩:=x;exact SqL.of h5) ?_ ?_
   ·rintro j v g H7 hv ⟨I,x7,rfl,s7,a9,b0,G⟩;obtain⟨y,hy,rfl⟩:∃y,(xs.drop (i+1))[j]?=some y/\v=.ref y.1:=by
     rw[Ak] at hv;cases e:(xs.drop (i+1))[j]? with
     |none=>rw[e] at hv;cases hv
     |some y=>rw[e] at hv;cases hv;exact⟨y,rfl,rfl⟩
    have b1:y∈xs:=Kg (Ah hy);have d2:(B.drop (i+1))[j]?=some y.2:=by rw[<- x2,<- Ja,Ak,hy];rfl
    have e1:(B.drop (i+1)).take (j+1)=(B.drop (i+1)).take j++[y.2]:=by rw[Br,d2];rfl
    obtain⟨ez,dz,d3⟩:=get z X s7;obtain⟨ey,dy,d4⟩:=get y b1 s7;refine⟨_,rfl,h,dx,_,rfl,s7 _ _ c1,rfl,_,rfl,_,rfl,D0,_,rfl,dz,_,rfl,_,rfl,D0,_,rfl,dy,h,ez,ey,bl,dx,_,f z.2,f y.2,rfl,s7 _ _ c1,rfl,d3,d4,a3 z X,a3 y b1,fun H8 s8=>⟨_,rfl,?_⟩⟩;have b2:=s7.trans s8;have b3:=a9.same s8;have d8:I.length<=930:=by
     have e2:=congrArg List.length G;rw[Aa,Al,Aa] at e2;have e3:=z4m (bl:=bl) (f:=f) (ps:=B) i;have e4:((((B.drop (i+1)).take j).filter fun q=>decide (fold bl (f z.2)=fold bl (f q)))).length<=B.length:=by
      refine Ce (Dk _ _) ?_;rw[Bp,Dx];lia
     have e5:i*B.length<=30*30:=Nat.mul_le_mul (by lia) (by lia);lia
    refine iteB (fun hc=>?_) (fun hc=>?_)
    ·obtain⟨b4,d5,d6⟩:=get z X b2;refine⟨_,rfl,.inl ⟨rfl,_,SqL.of b3.at_⟩,_,rfl,_,rfl,_,rfl,_,rfl,D0,_,rfl,d5,by show 3<=sizeLine;decide,fun T1 d7=>?_⟩;have s9':=(Same.refl H8).new (o:=.tup [.ref z.1,.ref y.1,.ref b4]) d7;have s9:=b2.trans s9';have c5:=b3.same s9';have tt:TT3 (upd H8 T1 (.tup [.ref z.1,.ref y.1,.ref b4])) T1 (z.2,y.2,f z.2):=⟨z.1,y.1,b4,q0b,s9 _ _ (U z X),s9 _ _ (U y b1),s9' _ _ d6⟩
     refine⟨L3,_,_,rfl,rfl,c5.at_,by rw[Aa];exact small' (by lia),?_⟩;refine⟨I++[(T1,(z.2,y.2,f z.2))],_,rfl,fun x u e=>by rw[q0d (fun w'=>by rw[w',a4] at e;cases e)];exact s9 _ _ e,c5.put tt,by rw[q0d c4];exact s9' _ _ (s8 _ _ b0),?_⟩;rw[Ae,G,e1,Ed,Dm (by simpa using hc),Ae,<- Fg];rfl
    ·refine⟨I,_,rfl,b2,b3,s8 _ _ b0,?_⟩;rw[G,e1,Ed,Dl (by simpa using hc)];simp
   ·rintro g H7 ⟨I,x7,rfl,s7,a9,b0,G⟩;refine⟨I,_,_,_,rfl,s7,a9,?_⟩;rw[z2a,G];congr 1;unfold rowT;rw[d1];have e2:(B.drop (i+1)).take ((xs.drop (i+1)).map fun z=>V.ref z.1).length=B.drop (i+1):=Eh (by rw[Aa,Dx,Dx];lia);rw[e2]
  ·rintro g H4 ⟨I,x5,x6,x7,rfl,s4,a5,a6⟩;refine⟨_,rfl,k L3 I B H4 (W.free a4) (W.trans s4) a5 a2 c8 ?_⟩;rw[a6,Aa,d0]
structure PL (H:Hp) (L:Addr) (zs:List (Addr×Pth)):Prop where
 at_:H L=some (.lst (zs.map fun z=>V.ref z.1))
 pr:∀z∈zs,H z.1=some (.tup (vP z.2))/\okP z.2
theorem PL.same{H H':Hp}{L:Addr}{zs:List (Addr×Pth)}(h:PL H L zs)(s:Same H H'):PL H' L zs:=⟨s _ _ h.at_,fun z e=>⟨s _ _ (h.pr z e).1,(h.pr z e).2⟩⟩
theorem PL.fd{a b L:Addr}{H H':Hp}{zs:List (Addr×Pth)}(h:PL H L zs)(F:FeedAt H a b)(fd:Fd a b H H')(f:L≠a):PL H' L zs:=⟨fd.at h.at_ f,fun z e=>⟨tupFd F fd _ _ (h.pr z e).1,(h.pr z e).2⟩⟩
theorem PL.get{H:Hp}{L:Addr}{zs:List (Addr×Pth)}(h:PL H L zs){r:Int}(j:0<=r)(q:r<zs.length):∃z∈zs,atI (zs.map fun z=>V.ref z.1) r=some (.ref z.1):=by
 obtain⟨v,f,g⟩:=q7z (xs:=zs.map fun z=>V.ref z.1) j (by rw[Aa];exact q);rw[Ak] at f;cases e:zs[r.toNat]? with
 |none=>rw[e] at f;cases f
 |some z=>rw[e] at f;cases f;exact⟨z,Ah e,g⟩
theorem x4o:∀c∈HM.NS,Bd (Kh c)=Bd c:=by trivial
theorem x4p:∀c∈HM.NS,Bd (Bd c)=Bd c:=by trivial
structure CallsOC (P:Ay) (w:World) (K:Aq) (mg:Str->Option Value) (base:Heap):Prop where
 draw:Cal P w K mg base "_law_draw" 1 ["_law_feed", "_law_many"] spDraw
noncomputable def spOther:Sp:=fun vs H Q _=>∃a b n,vs=[.ref a,.str (mk n)]/\FeedAt H a b/\okN n/\∀n' H',okN n'->lowN n'=lowN n->Fd a b H H'->Q (.str (mk n')) H'
noncomputable abbrev q3e:Stmt:=top 43
theorem q9x:FnScope ["_law_feed", "_law_name"] ["_law_feed", "_law_name"] (defScope q3e):=by trivial
theorem q9y(D:Df K mg "_law_other_case" q3e ["_law_feed", "_law_name"])(T:Txt mg)(C:CallsOC P w K mg base):Cal P w K mg base "_law_other_case" 2 ["_law_feed", "_law_name"] spOther:=by
 refine D.cal q9x (fun vs H Q E h=>?_) (fun f a6 A outer s H vs Q E hr h=>?_)
 ·obtain⟨a,b,n,rfl,_⟩:=h;rfl
 ·obtain⟨a,b,n,rfl,F,ok,k⟩:=h;refine⟨_,(q0f (q0m (@bm_k _ _ _ _ _ _ _ _ _ _ _ _ K rfl Dd Na Nb (z7b K rfl) q1v (q0a (q1g ["_law_sign"] [("_law_feed",0)] rfl (@q1y _ _ _ _ K rfl (pv 1)) (fun _ _ _ _ _=>(q0h (i:=0) (show(["_law_sign", "_law_feed"]:List Str).Nodup by trivial) rfl (by trivial))) (fun _ _ _ _ _=>q1n) (fun _ _ _ _ _=>(q1k (ix_k K rfl) (q2a (q0a (pv 0) (q0a (@q9h _ _ _ _ _ _ _ _ _ K rfl Dd Mi Mj q9f (pv 0) (by rfl) (by rfl)) (q0a (@q9h _ _ _ _ _ _ _ _ _ K rfl Dd Jk Jl q6e (pv 0) (by rfl) (by rfl)) q0c)))) (pe_c C.draw hr (q0a (pv 1) (q0a q0g q0c))) (fun _ _=>rfl)))) q0c) (by rfl) (by rfl) (by rfl) (by rfl) (by rfl)))),?_⟩;have v:(mk n).length=n.length:=by rw[len,q2m]
  have a5:=ok.few;refine⟨rfl,_,rfl,.inr (.inr ⟨_,rfl,fun D Y=>?_⟩)⟩;refine z0w (fun i S W=>∃g:List Nat,S=g.map (fun c=>V.str ⟨#[c]⟩)/\g.length=i/\i<=n.length/\(∀c∈g,c∈HM.NS)/\Fd a b H W/\W D=some (.lst S)/\g.map Bd=(n.take i).map Bd) ⟨[],rfl,rfl,Bf _,fun _ h=>(nomatch h),(Fd.refl F).new Y,q0b,rfl⟩ (fun i S W ⟨g,_,_,_,_,_,h,_⟩=>h) ?_ ?_
  ·rintro i S W c hc ⟨g,rfl,q,_,G,fd,u,I⟩;have J:n[i]?=some c:=by have:=get hc;rw[q2m] at this;exact this
   have hi:i<n.length:=(Af.mp J).1;have j:=ok.all c (Ah J);have B:∀x∈[c],x<128:=fun x Z=>by rw[Aj.mp Z];exact x2g c j
   have eu:Ny (⟨#[c]⟩:Str)=⟨#[Kh c]⟩:=q9p (n:=[c]) B;have el:Jf (⟨#[c]⟩:Str)=⟨#[Bd c]⟩:=z4k (n:=[c]) B;refine⟨_,rfl,_,rfl,rfl,_,rfl,rfl,by show 3*1<=sizeLine;decide,?_⟩;rw[eu];refine⟨_,rfl,rfl,_,rfl,rfl,by show 3*1<=sizeLine;decide,?_⟩;rw[el];refine⟨by show 3<=sizeLine;decide,fun M X=>?_⟩;have a0:M≠a:=(fd.feed.na X).symm;have U:=fd.new (o:=.lst [.str ⟨#[c]⟩,.str ⟨#[Kh c]⟩,.str ⟨#[Bd c]⟩]) X;have a1:D≠M:=fun y=>by rw[<- y,u] at X;cases X
   have a2:D≠a:=(F.na Y).symm;refine⟨_,rfl,a,b,_,rfl,U.feed,by decide,by decide,fun r H2 r0 r1 L=>?_⟩;have O:∃R,atI [V.str ⟨#[c]⟩,V.str ⟨#[Kh c]⟩,V.str ⟨#[Bd c]⟩] r=some (.str ⟨#[R]⟩)/\R∈HM.NS/\Bd R=Bd c:=by
    have e:r=0\/r=1\/r=2:=by lia
    rcases e with rfl|rfl|rfl
    ·exact⟨c,rfl,j,rfl⟩
    ·exact⟨_,rfl,ns_up c j,x4o c j⟩
    ·exact⟨_,rfl,ns_lo c j,x4p c j⟩
   obtain⟨R,O,a3,a4⟩:=O;refine .inl ⟨M,_,r,_,rfl,rfl,SqL.of (L.at q0b a0),O,?_⟩;refine⟨L.at (by rw[q0d a1];exact u) a2,small' (by rw[Aa];lia),g++[R],by rw[Ae];rfl,by rw[Al,q];rfl,hi,fun x Z=>?_,(U.trans L).put F Y,q0b,by rw[Ae,I,Br,J,Ae];show _++[Bd R]=_;rw[a4];rfl⟩;rcases Ar.mp Z with y|y
   ·exact G x y
   ·rw[Aj.mp y];exact a3
  ·rintro S H2 ⟨g,rfl,q,_,G,fd,u,I⟩;rw[v] at q;have e:g.map (fun c=>V.str ⟨#[c]⟩)=(g.map fun c=>(⟨#[c]⟩:Str)).map V.str:=by rw[An];rfl
   refine⟨_,D,g.map fun c=>⟨#[c]⟩,rfl,rfl,.inl (SqL.of (by rw[<- e];exact u)),?_,?_⟩
   ·rw[q9i,Aa];have:(Ap "").length=0:=by trivial
    rw[this,q];exact small (by lia)
   ·have z:=q7a g;rw[z];have:=ok.one;exact k g H2 ⟨by lia,by lia,G⟩ (by unfold lowN;rw[I,v,Ba]) fd
noncomputable def lenAt(L:Addr)(H:Hp):Nat:=match H L with|some (.lst xs)=>xs.length|_=>0
theorem q4c{L:Addr}{H:Hp}{xs:List V}(h:H L=some (.lst xs)):lenAt L H=xs.length:=by unfold lenAt;rw[h]
theorem ers_map{e g:Type}(f:e->g):∀(l:List e) (k:Nat),(l.map f).eraseIdx k=(l.eraseIdx k).map f
 |[],_=>rfl
 |_::_,0=>rfl
 |a::l,k+1=>by show f a::(l.map f).eraseIdx k=f a::(l.eraseIdx k).map f;rw[ers_map f l k]
theorem z4n{e:Type}{z:e}:∀{l:List e} {k:Nat},l[k]?=some z->l.Perm (z::l.eraseIdx k)
 |[],_,h=>by cases h
 |a::l,0,h=>by cases h;exact List.Perm.refl _
 |a::l,k+1,h=>by
  show(a::l).Perm (z::a::l.eraseIdx k);exact((z4n (l:=l) (k:=k) h).cons a).trans (List.Perm.swap _ _ _)
structure GG (K:Aq) {α:Type} (G:Hp->Addr->α->Prop):Prop where
 keep:∀{H H':Hp} {T:Addr} {t:α},G H T t->(∀T xs,H T=some (.tup xs)->H' T=some (.tup xs))->G H' T t
 dat:∀{H:Hp} {T:Addr} {t:α},G H T t->∃d,Dt K H (.ref T) d/\d.canLay0=true
structure GL {α:Type} (G:Hp->Addr->α->Prop) (H:Hp) (L:Addr) (zs:List (Addr×α)):Prop where
 at_:H L=some (.lst (zs.map fun z=>V.ref z.1))
 pr:∀z∈zs,G H z.1 z.2
section
variable{α:Type}{G:Hp->Addr->α->Prop}
theorem GL.same{H H':Hp}{L:Addr}{zs:List (Addr×α)}(g:GG K G)(h:GL G H L zs)(s:Same H H'):GL G H' L zs:=⟨s _ _ h.at_,fun z f=>g.keep (h.pr z f) fun T xs e=>s _ _ e⟩
theorem GL.fd{a b L:Addr}{H H':Hp}{zs:List (Addr×α)}(g:GG K G)(h:GL G H L zs)(F:FeedAt H a b)(fd:Fd a b H H')(f:L≠a):GL G H' L zs:=⟨fd.at h.at_ f,fun z j=>g.keep (h.pr z j) fun T xs e=>tupFd F fd _ _ e⟩
theorem dts_G{H:Hp}(g:GG K G):∀{zs:List (Addr×α)},(∀z∈zs,G H z.1 z.2)->∃e,Dts K H (zs.map fun z=>V.ref z.1) e/\Cf e=true/\(e=[]↔zs=[])
 |[],_=>⟨[],.nil,by simp[Cf],by simp⟩
 |z::zs,h=>by
  obtain⟨e,f,j,_⟩:=dts_G g fun y q=>h y (Am _ q)
  obtain⟨d,s,u⟩:=g.dat (h z As);exact⟨d::e,.cons s f,by simp only[Cf,u,j,Pf],by simp⟩
theorem ne_noG{H:Hp}{L E:Addr}{zs:List (Addr×α)}{Q:VK}(g:GG K G)(h:GL G H L zs)(q:H E=some (.lst []))(k:Q (.bl (!zs.isEmpty)) H):rNeU K (.ref L) (.ref E) H Q:=by
 obtain⟨f,s,u,j⟩:=dts_G g h.pr;refine .inr ⟨_,_,.lst (SqL.of h.at_) s,.lst (SqL.of q) .nil,by simp only[Fe];exact u,by simp[Fe,Cf],?_,?_⟩
 ·have:(Cw.list []).depth<=100:=by simp[Ho,Ec]
  lia
 ·have e:Fw (.list f) (.list [])=zs.isEmpty:=by
   cases f with
   |nil=>rw[j.mp rfl];simp[Fw,Hy]
   |cons d f =>
    cases zs with
    |nil=>cases j.mpr rfl
    |cons _ _=>simp[Fw,Hy]
  rw[e];exact k
end
structure SmI {α:Type} (G:Hp->Addr->α->Prop) (H:Hp) (a b Lf M:Addr) (zs:List (Addr×α)) (H':Hp) (zl zf:List (Addr×α)):Prop where
 fd:Fd a b H H'
 l:GL G H' Lf zl
 m:GL G H' M zf
 p:(zl++zf).Perm zs
section
variable{α:Type}{G:Hp->Addr->α->Prop}{H:Hp}{a b Lf M:Addr}{zs:List (Addr×α)}{H' H2:Hp}{zl zf:List (Addr×α)}
theorem SmI.go(g:GG K G)(x:SmI G H a b Lf M zs H' zl zf)(fd:Fd a b H' H2)(e:Lf≠a)(f:M≠a):SmI G H a b Lf M zs H2 zl zf:=⟨x.fd.trans fd,x.l.fd g x.fd.feed fd e,x.m.fd g x.fd.feed fd f,x.p⟩
theorem SmI.mv{k:Nat}{z:Addr×α}(g:GG K G)(x:SmI G H a b Lf M zs H' zl zf)(F:FeedAt H a b)(j:H Lf=none)(q:H M=none)(n:M≠Lf)(h:zl[k]?=some z):
  SmI G H a b Lf M zs (upd (upd H' Lf (.lst ((zl.map fun z=>V.ref z.1).eraseIdx k))) M (.lst (zf.map (fun z=>V.ref z.1)++[.ref z.1]))) (zl.eraseIdx k) (zf++[z]):=by
 have tk:∀S xs,H' S=some (.tup xs)->upd (upd H' Lf (.lst ((zl.map fun z=>V.ref z.1).eraseIdx k))) M (.lst (zf.map (fun z=>V.ref z.1)++[.ref z.1])) S=some (.tup xs):=fun S xs e=>by
  rw[q0d (fun z=>by rw[z,x.m.at_] at e;cases e),q0d (fun z=>by rw[z,x.l.at_] at e;cases e)];exact e
 refine⟨(x.fd.put F j).put F q,⟨?_,fun y f=>g.keep (x.l.pr y (List.mem_of_mem_eraseIdx f)) tk⟩,⟨by rw[q0b,Ae];rfl,fun y f=>?_⟩,?_⟩
 ·rw[q0d n.symm,q0b,ers_map]
 ·rcases Ar.mp f with f|f
  ·exact g.keep (x.m.pr y f) tk
  ·rw[Aj.mp f];exact g.keep (x.l.pr z (Ah h)) tk
 ·refine List.Perm.trans ?_ x.p;have e:zl.Perm (z::zl.eraseIdx k):=z4n h;have s:(zl.eraseIdx k++(zf++[z])).Perm (z::(zl.eraseIdx k++zf)):=by
   rw[<- Fg];exact Gn _ _
  exact s.trans (Ml zf e.symm)
end
noncomputable def spSome(K:Aq):Sp:=fun vs H Q _=>∃(α:Type) (G:Hp->Addr->α->Prop) (a b L:Addr) (zs:List (Addr×α)) (n:Int),GG K G/\vs=[.ref a,.ref L,.int n]/\FeedAt H a b/\GL G H L zs/\zs.length<=60/\∀M zf zr H',Fd a b H H'->H M=none->GL G H' M zf->(zr++zf).Perm zs->(n<=zf.length\/zr=[])->Q (.ref M) H'
noncomputable abbrev q5p:Stmt:=top 44
theorem sc_some_of:FnScope ["_law_feed", "_law_things", "_law_many", "_law_left", "_law_found"] ["_law_feed", "_law_things", "_law_many"] (defScope q5p):=by trivial
theorem z5t(D:Df K mg "_law_some_of" q5p ["_law_feed", "_law_things", "_law_many"])(T:Txt mg)(C:CallsOC P w K mg base):Cal P w K mg base "_law_some_of" 2 ["_law_feed", "_law_things", "_law_many"] (spSome K):=by
 refine D.cal sc_some_of (fun vs H Q E h=>?_) (fun f b0 A outer s H vs Q E hr h=>?_)
 ·obtain⟨α,G,a,b,L,B,n,g,rfl,_⟩:=h;rfl
 ·obtain⟨α,G,a,b,L,B,n,g,rfl,F,hl,b1,k⟩:=h;refine⟨_,(q0e (q0j (i:=3) sc_some_of.nd rfl (by trivial) (q1x (x1y K rfl) (by rfl) T.b_list (by trivial) (q0a (pv 1) q0c))) (q0e (q0j (i:=4) sc_some_of.nd rfl (by trivial) (q2a q0c)) (q0e (q8v Ca (pt_j (@PW.pt _ _ _ (q3k (q0n z9o (q0l (q3o K rfl) (by rfl) T.b_len Cs (q0a (pv 4) q0c)) (pv 2) (nomark _)) (q2q (q0n (ne_k K rfl hr) (pv 3) (q2a q0c) (nomark _)))))) (q0f (q2b (@bm_k _ _ _ _ _ _ _ _ _ _ _ _ K rfl Cq Eu Ew q2f (pv 4) (q0a (@bm_k _ _ _ _ _ _ _ _ _ _ _ _ K rfl Cq Nc Nd q9c (pv 3) (q0a (pe_c C.draw hr (q0a (pv 0) (q0a (q0l (q3o K rfl) (by rfl) T.b_len Cs (q0a (pv 3) q0c)) q0c))) q0c) (by rfl) (by rfl) (by rfl) (by rfl) (by rfl)) q0c) (by rfl) (by rfl) (by rfl) (by rfl) (by rfl))))) (q0f (q0m (pv 4)))))),?_⟩;refine⟨_,rfl,L,_,rfl,.inl (SqL.of hl.at_),fun u S=>⟨by show 0<=sizeLine;decide,fun M hM=>?_⟩⟩;have s1:=(Same.refl H).new (o:=.lst (B.map fun z=>V.ref z.1)) S;have s2:=s1.new (o:=.lst []) hM;have U:M≠u:=fun z=>by rw[z,q0b] at hM;cases hM
  have W:H M=none:=s1.free hM;have a0:u≠a:=(F.na S).symm;have a1:M≠a:=(F.na W).symm;have I0:SmI G H a b u M B (upd (upd H u (.lst (B.map fun z=>V.ref z.1))) M (.lst [])) B [] :=
   ⟨(Fd.refl F).same s2,⟨by rw[q0d U.symm];exact q0b,(hl.same g s2).pr⟩,⟨q0b,(fun _ h=>nomatch h)⟩,by rw[Du]⟩
  refine q8w (fun X O=>∃J Y,X=[some (.ref a),some (.ref L),some (.int n),some (.ref u),some (.ref M)]/\SmI G H a b u M B O J Y) (fun _ O=>lenAt u O) ⟨B,[],rfl,I0⟩ ?_ ?_
  ·rintro X O ⟨J,Y,rfl,I⟩;have a8:J.length+Y.length=B.length:=by rw[<- Al];exact I.p.length_eq
   refine⟨fun bb H4=>SmI G H a b u M B H4 J Y/\lenAt u H4=lenAt u O/\(bb=true->J≠[])/\(bb=false->n<=Y.length\/J=[]),?_,?_⟩
   ·rintro bb H4 ⟨q,el,hb,a2⟩;refine ite2 (fun h=>?_) (fun h=>⟨_,rfl,k M Y J _ q.fd W q.m q.p (a2 (by simpa using h))⟩);have a3:=hb h;have a9:=Bw.mpr a3;refine⟨_,rfl,.inl ⟨rfl,_,SqL.of q.m.at_⟩,_,rfl,.inl ⟨rfl,_,SqL.of q.l.at_⟩,_,rfl,_,rfl,_,_,rfl,.inl ⟨_,SqL.of q.l.at_,rfl⟩,a,b,_,rfl,q.fd.feed,by rw[Aa];lia,by rw[Aa];lia,fun r H5 r0 r1 a4=>?_⟩;rw[Aa] at r1;have I2:=q.go g a4 a0 a1;obtain⟨v,b2,a5⟩:=q7z (xs:=J) r0 r1;obtain⟨j,a6,Z,a7,_,_⟩:=q8x a5;refine⟨u,_,r,j,.ref v.1,rfl,rfl,I2.l.at_,by lia,by lia,by rw[Aa];exact a6,by rw[Ak,Z];rfl,?_⟩;refine⟨M,_,_,rfl,rfl,by rw[q0d U];exact I2.m.at_,by rw[Aa];exact small' (by lia),?_⟩;have I3:=I2.mv g F S W U Z;refine⟨⟨_,_,rfl,I3⟩,?_⟩;rw[<- el,q4c I3.l.at_,q4c q.l.at_,Aa,Aa,List.length_eraseIdx,if_pos a7];lia
   ·refine⟨_,rfl,_,_,rfl,.inl ⟨_,SqL.of I.m.at_,rfl⟩,_,rfl,_,_,rfl,rfl,_,rfl,?_⟩;refine iteB (fun e=>?_) (fun e=>⟨I,rfl,(fun z=>by cases z),fun _=>.inl ?_⟩)
    ·refine⟨_,rfl,by show 0<=sizeLine;decide,fun E hE=>?_⟩;have sE:=(Same.refl O).new (o:=.lst []) hE;have q:SmI G H a b u M B (upd O E (.lst [])) J Y:=⟨I.fd.same sE,I.l.same g sE,I.m.same g sE,I.p⟩
     refine ne_noG g q.l q0b ⟨_,rfl,q,by rw[q4c q.l.at_,q4c I.l.at_],fun h=>by simpa using h,fun h=>.inr (by simpa using h)⟩
    ·have:=of_decide_eq_false e;rw[Aa] at this;lia
  ·intro X O Q1 Q2 hq h;obtain⟨R,h1,h2⟩:=h;exact⟨R,fun b H1 r=>hq _ _ (h1 b H1 r),h2⟩
end
end K
set_option maxHeartbeats 4000000
namespace K
open PySem L2 TX SB HM
section
variable{P:Ay}{w:World}{K:Aq}{mg:Str->Option Value}{base:Heap}
theorem foldR:∀{rs acc:List HRow},((acc++rs).map (·.1)).Nodup->rs.foldl putR (acc.map fun r=>(kP r.1,r.2))=(acc++rs).map fun r=>(kP r.1,r.2)
 |[],acc,_=>by rw[Du];rfl
 |r::rs,acc,nd=>by
  have e:acc++r::rs=(acc++[r])++rs:=by rw[Fg];rfl
  show rs.foldl putR (putK (acc.map fun r=>(kP r.1,r.2)) (kP r.1) r.2)=_;rw[q4b (p:=r.1) (v:=r.2) fun x f z=>by
   rw[Ae,Ax] at nd;exact(Dz.mp nd).2.2 _ (Ac.mpr ⟨x,f,rfl⟩) _ As z]
  rw[e] at nd ⊢;exact foldR nd
theorem z8n{bl:Bool}{zs:List Zr}(hl:Hl bl (zs.map (·.2))):HO.dT ((zs.map fun z=>rR z.2).foldl putR [])=dR ((zs.map (·.2)).map rR):=by
 have f:(zs.map fun z=>rR z.2)=(zs.map (·.2)).map rR:=by rw[An];rfl
 have e:(((zs.map (·.2)).map rR).map (·.1)).Nodup:=by rw[An];exact hl.paths
 rw[f];exact congrArg HO.dT (foldR (acc:=[]) e)
theorem z2b{c x f d:Addr}{g H':Hp}(j:g x=none)(h:g f=none)(hd:upd (upd g f (.own x)) x (.ins c f []) d=none)(k:∀a u,a≠x->upd (upd g f (.own x)) x (.ins c f []) a=some u->H' a=some u):Same g H'/\g d=none:=by
 refine⟨fun a u e=>k a u (fun z=>by rw[z,j] at e;cases e) ?_,?_⟩
 ·rw[q0d (fun z=>by rw[z,j] at e;cases e),q0d (fun z=>by rw[z,h] at e;cases e)];exact e
 ·have q:d≠x:=fun z=>by rw[z,q0b] at hd;cases hd
  rw[q0d q] at hd;have s:d≠f:=fun z=>by rw[z,q0b] at hd;cases hd
  rw[q0d s] at hd;exact hd
theorem z8o{c x g L:Addr}{f:Hp}{zs:List Zr}(h:RL f L zs)(q:f x=none)(j:f g=none):RL (upd (upd f g (.own x)) x (.ins c g [])) L zs:=h.same fun a u e=>by
 rw[q0d (fun z=>by rw[z,q] at e;cases e),q0d (fun z=>by rw[z,j] at e;cases e)];exact e
theorem x4q{a b m:Addr}{rs:List HRow}{H H':Hp}(x:H m=some (dR rs))(F:FeedAt H a b)(fd:Fd a b H H'):H' m=some (dR rs):=by
 obtain⟨i,j,q⟩:=F.fa;exact fd.at x fun z=>by rw[z,q] at x;cases x
structure CallsAs (P:Ay) (w:World) (K:Aq) (mg:Str->Option Value) (base:Heap) (c:Addr):Prop where
 meetings:Cal P w K mg base "meetings" 7 ["hall", "wishes"] (spMeet c)
theorem x4r{bl:Bool}{f:Pth->Pth}{ps:List Pth}{n:Nat}(nd:(ps.map fun p=>fold bl (f p)).Nodup):accT bl f ps n=[]:=by
 refine List.eq_nil_iff_forall_not_mem.mpr fun t h=>?_;obtain⟨i,_,h⟩:=List.mem_flatMap.mp h;unfold rowT at h;cases e:ps[i]? with
 |none=>rw[e] at h;cases h
 |some p =>
  rw[e] at h;obtain⟨q,v,rfl⟩:=Ac.mp h;obtain⟨B,C⟩:=Di.mp v;obtain⟨j,g⟩:=Bg.mp B;rw[Pa] at g;have s:(ps.map fun p=>fold bl (f p))[i]?=some (fold bl (f p)):=by rw[Ak,e];rfl
  have u:(ps.map fun p=>fold bl (f p))[i+1+j]?=some (fold bl (f q)):=by rw[Ak,g];rfl
  rw[<- of_decide_eq_true C] at u;have:=(Ma (Af.mp s).1 nd).mp (s.trans u.symm);lia
noncomputable def Apart(bl:Bool)(rows:List Rw)(f:Pth->Pth):Prop:=((rows.map (·.1)).map fun p=>fold bl (f p)).Nodup
noncomputable def spAsk(c:Addr):Sp:=fun vs H Q _=>∃h d L bl rows zs,vs=[.ref h,.ref L]/\HallAt c H h d bl rows/\Hl bl rows/\rows.length<=30/\ML H L zs/\GoodW rows (zs.map (·.2))/\zs.length<=60/\Apart bl rows (plc (zs.map (·.2))) /\
 ∀H',Same H H'->Q (.bl true) H'
noncomputable abbrev q3f:Stmt:=top 15
theorem sc_ask_wishes:FnScope ["hall", "wishes", "met", "one", "other", "place"] ["hall", "wishes"] (defScope q3f):=by trivial
theorem q9z{c:Addr}(D:Df K mg "ask_wishes" q3f ["hall", "wishes"])(T:Txt mg)(C:CallsAs P w K mg base c):Cal P w K mg base "ask_wishes" 8 ["hall", "wishes"] (spAsk c):=by
 refine D.cal sc_ask_wishes (fun vs H Q E h=>?_) (fun f I A outer s H vs Q E u h=>?_)
 ·obtain⟨h,d,L,bl,rows,e,rfl,_⟩:=h;rfl
 ·obtain⟨h,d,L,bl,rows,e,rfl,J,hl,g,ml,gw,few,ap,k⟩:=h;refine⟨_,(q0e (q0j (i:=2) sc_ask_wishes.nd rfl (by trivial) (pe_c C.meetings u (q0a (pv 0) (q0a (pv 1) q0c)))) (q0e (q1s (q0n (ne_k K rfl u) (pv 2) (q2a q0c) (nomark _)) (q0e (q7u (q1k (ix_k K rfl) (pv 2) q0g (fun _ _=>rfl)) (@q2l _ _ _ _ (3) _ K rfl rfl (q0k (q0h (i:=3) sc_ask_wishes.nd rfl (by trivial)) (q0k (q0h (i:=4) sc_ask_wishes.nd rfl (by trivial)) (q0k (q0h (i:=5) sc_ask_wishes.nd rfl (by trivial)) q1m))) (by rfl) (by rfl))) (q0f q6d)) q0o) (q0f (q0m q6c)))),?_⟩;refine⟨_,rfl,_,rfl,h,d,L,bl,rows,e,rfl,J,hl,g,ml,gw,few,fun G v S M U O tl pm W j=>?_⟩;have R:v=[]:=by
   have:v.map (·.2)=[]:=by
    rw[j];exact x4r ((pm.map _).nodup_iff.mpr ap)
   exact Km.mp this
  subst R;refine⟨_,rfl,by show 0<=sizeLine;decide,fun X q=>?_⟩;have B:=(Same.refl M).new (o:=.lst []) q;refine z4h (zs:=[]) (B _ _ tl.at_) (fun _ h=>nomatch h) q0b (fun _ h=>nomatch h) ⟨_,rfl,iteF ?_⟩;exact k _ (O.trans B)
noncomputable def thenP(f:Pth->Pth):Nat->Pth->Pth
 |0,_=>[]
 |n+1,p=>if p=[] then[] else thenP f n (f p).dropLast++[(f p).getLastD []]
noncomputable def M6(rows:List Rw)(k:Nat)(p:Pth):Prop:=p=[]\/((p,none)∈rows/\p.length<=k)\/(p∈rows.map (·.1)/\6<=k)
theorem M6.zero{bl:Bool}{rows:List Rw}{p:Pth}(hl:Hl bl rows)(h:M6 rows 0 p):p=[]:=by
 rcases h with h|⟨h,l⟩|⟨_,h⟩
 ·exact h
 ·exact Iy.mp (by lia)
 ·lia
theorem M6.in_{rows:List Rw}{k:Nat}{p:Pth}(h:M6 rows k p)(e:p≠[]):p∈rows.map (·.1):=by
 rcases h with h|⟨h,_⟩|⟨h,_⟩
 ·exact absurd h e
 ·exact Ac.mpr ⟨_,h,rfl⟩
 ·exact h
theorem q1r{bl:Bool}{rows:List Rw}{ms:List Mv}{p:Pth}(hl:Hl bl rows)(gw:GoodW rows ms)(g:p∈rows.map (·.1)):IsD rows (plc ms p).dropLast/\((p,none)∈rows->(plc ms p).dropLast=p.dropLast):=by
 by_cases h:p∈ms.map (·.1)
 ·obtain⟨m,f,rfl⟩:=Ac.mp h;rw[q8q gw.nd f];have W:=gw.all m f;refine⟨W.dr,fun j=>?_⟩;obtain⟨s,hk,e⟩:=W.th;exact e.resolve_right fun z=>z (hl.one hk j)
 ·rw[q5z h];obtain⟨r,q,rfl⟩:=Ac.mp g;exact⟨hl.dr r q,fun _=>rfl⟩
theorem M6.step{bl:Bool}{rows:List Rw}{ms:List Mv}{k:Nat}{p:Pth}(hl:Hl bl rows)(gw:GoodW rows ms)(h:M6 rows (k+1) p)(g:p≠[]):M6 rows k (plc ms p).dropLast:=by
 have f:=h.in_ g;obtain⟨e,j⟩:=q1r hl gw f;rcases h with h|⟨h,l⟩|⟨_,l⟩
 ·exact absurd h g
 ·rw[j h] at e ⊢;rcases e with e|e
  ·exact .inl e
  ·exact .inr (.inl ⟨e,by rw[Cc];lia⟩)
 ·have ok:=q1l hl gw f;have q:(plc ms p).length<=6:=ok.few;rcases e with e|e
  ·exact .inl e
  ·exact .inr (.inl ⟨e,by rw[Cc];lia⟩)
theorem q5f{bl:Bool}{rows:List Rw}{ms:List Mv}(hl:Hl bl rows)(gw:GoodW rows ms):∀{k:Nat} {p:Pth},M6 rows k p->Low (thenP (plc ms) (k+1) p)/\(thenP (plc ms) (k+1) p).length<=k+1
 |0,p,h=>by
  have e:=h.zero hl;subst e;exact⟨(fun _ h=>nomatch h),Bf _⟩
 |k+1,p,h=>by
  unfold thenP;by_cases e:p=[]
  ·rw[if_pos e];exact⟨(fun _ h=>nomatch h),Bf _⟩
  ·rw[if_neg e];obtain⟨g,j⟩:=q5f hl gw (h.step hl gw e);refine⟨fun n f=>?_,by rw[Al];exact Nat.add_le_add_right j 1⟩;rcases Ar.mp f with f|f
   ·exact g n f
   ·rw[Aj.mp f];exact(q2w (q1l hl gw (h.in_ e))).low
theorem q5g{bl:Bool}{rows:List Rw}{ms:List Mv}(hl:Hl bl rows)(gw:GoodW rows ms)(ap:Apart bl rows (plc ms)):∀{k:Nat} {p q:Pth},M6 rows k p->M6 rows k q->thenP (plc ms) (k+1) p=thenP (plc ms) (k+1) q->p=q
 |0,p,q,h,g,_=>by rw[h.zero hl,g.zero hl]
 |k+1,p,q,h,g,e=>by
  unfold thenP at e;by_cases j:p=[]
  ·by_cases f:q=[]
   ·rw[j,f]
   ·rw[if_pos j,if_neg f] at e;simp at e
  ·by_cases f:q=[]
   ·rw[if_neg j,if_pos f] at e;simp at e
   ·rw[if_neg j,if_neg f] at e;obtain⟨D,s⟩:=List.append_inj' e rfl;have E:=q5g hl gw ap (h.step hl gw j) (g.step hl gw f) D;have u:=h.in_ j;have v:=g.in_ f;have G:plc ms p=plc ms q:=by
     have B:=(q1l hl gw u).ne;have C:=(q1l hl gw v).ne;rw[<- Hf B,<- Hf C,E];congr 1;rw[Cy,Cy,Bh B,Bh C] at s;exact s
    have ap':((rows.map (·.1)).map fun p=>fold bl (plc ms p)).Nodup:=ap;exact q0q ap' u v (by show fold bl (plc ms p)=fold bl (plc ms q);rw[G])
structure CallsPT (P:Ay) (w:World) (K:Aq) (mg:Str->Option Value) (base:Heap) (k:Nat) (S:Sp):Prop where
 path_then:Cal P w K mg base "path_then" k ["path", "places"] S
structure AllP (H:Hp) (D:Addr) (ps:List (Addr×Mv)) (rows:List Rw) (ms:List Mv):Prop where
 rd:Rd H D (dR (ps.map fun x=>(x.2.1,.ref x.1)))
 pr:∀x∈ps,H x.1=some (.tup (vP x.2.2))
 pm:(ps.map (·.2)).Perm (rows.map fun r=>(r.1,plc ms r.1))
theorem AllP.of{H:Hp}{D:Addr}{ps:List (Addr×Mv)}{rows:List Rw}{ms:List Mv}(x:PDt H D ps)(p:(ps.map (·.2)).Perm (rows.map fun r=>(r.1,plc ms r.1))):AllP H D ps rows ms:=⟨.inl x.at_,x.pr,p⟩
theorem AllP.same{H H':Hp}{D:Addr}{ps:List (Addr×Mv)}{rows:List Rw}{ms:List Mv}(x:AllP H D ps rows ms)(s:Same H H'):AllP H' D ps rows ms:=⟨x.rd.imp (fun h=>s _ _ h) (fun⟨o,h⟩=>⟨o,s _ _ h⟩),fun y e=>s _ _ (x.pr y e),x.pm⟩
theorem AllP.get{H:Hp}{D b:Addr}{ps:List (Addr×Mv)}{rows:List Rw}{ms:List Mv}{bl:Bool}{p:Pth}(x:AllP H D ps rows ms)(hl:Hl bl rows)(u:p∈rows.map (·.1))(v:H b=some (.tup (vP p))):∃e,DGet H D (.ref b) (some (.ref e))/\H e=some (.tup (vP (plc ms p))):=by
 have B:((rows.map fun r=>(r.1,plc ms r.1)):List Mv).map (·.1)=rows.map (·.1):=by rw[An];rfl
 have j:((ps.map (·.2)).map (·.1)).Perm (rows.map (·.1)):=by rw[<- B];exact x.pm.map _
 have nd:((ps.map (·.2)).map (·.1)).Nodup:=j.nodup_iff.mpr hl.paths;have q:(ps.map (·.2)).map (·.1)=ps.map (·.2.1):=by rw[An];rfl
 have g:p∈ps.map (·.2.1):=by rw[<- q];exact j.mem_iff.mpr u
 obtain⟨y,h,s⟩:=Ac.mp g;refine⟨y.1,?_,?_⟩
 ·have e:=q5d (rs:=ps.map fun x=>((x.2.1,.ref x.1):HRow)) (r:=(y.2.1,.ref y.1)) (Ac.mpr ⟨y,h,rfl⟩) (by rw[An];rw[q] at nd;exact nd);rw[<- e];exact .inr ⟨_,kP y.2.1,b,x.rd,rfl,by rw[q3a,s];exact v,rfl⟩
 ·have C:y.2∈rows.map fun r=>(r.1,plc ms r.1):=x.pm.mem_iff.mp (Ac.mpr ⟨y,h,rfl⟩);obtain⟨r,_,e⟩:=Ac.mp C;have f:=x.pr y h;rw[<- e] at f;have E:r.1=p:=by rw[<- s,<- e]
  rw[<- E];exact f
noncomputable def spPT(k:Nat):Sp:=fun vs H Q _=>∃b D bl rows ms ps p,vs=[.ref b,.ref D]/\Hl bl rows/\GoodW rows ms/\AllP H D ps rows ms/\H b=some (.tup (vP p))/\M6 rows k p/\k<=6/\∀q H',Same H H'->H' q=some (.tup (vP (thenP (plc ms) (k+1) p)))->Q (.ref q) H'
theorem z2c{q:Pth}(h:q≠[]):cutV (vP q) (some (-1)) none=vP [q.getLastD []]:=by
 have hl:=Bw.mpr h;have e:HT.sIx (vP q).length 0 (some (-1))=q.length-1:=by
  show(if (-1:Int)<0 then((-1:Int)+((vP q).length:Int)).toNat else min (-1:Int).toNat (vP q).length)=_;rw[if_pos (by decide),q1b];lia
 have f:HT.sIx (vP q).length (vP q).length none=(vP q).length:=rfl;unfold cutV;rw[e,f];have g:q=q.dropLast++[q.getLastD []]:=by
  rw[Cy,Bh h];exact(Hf h).symm
 have j:(vP q).drop (q.length-1)=vP [q.getLastD []]:=by
  have:q.length-1=(vP q.dropLast).length:=by rw[q1b,Cc]
  rw[this];conv=>lhs;arg 2;rw[g]
  show((q.dropLast++[q.getLastD []]).map _).drop _=_;rw[Ae];exact List.drop_left
 rw[j];exact Eh (by rw[q1b,q1b];show 1<=_;lia)
noncomputable abbrev q2h:Stmt:=top 16
theorem sc_path_then:FnScope ["path", "places", "place"] ["path", "places"] (defScope q2h):=by trivial
theorem q6a{k n:Nat}{S:Sp}(D:Df K mg "path_then" q2h ["path", "places"])(T:Txt mg)(hk:k=0\/∃j,k=j+1/\S=spPT j)(C:CallsPT P w K mg base n S):Cal P w K mg base "path_then" (n+1) ["path", "places"] (spPT k):=by
 refine D.cal sc_path_then (fun vs H Q E h=>?_) (fun f a1 A outer s H vs Q E I h=>?_)
 ·obtain⟨b,D,bl,rows,U,W,p,rfl,_⟩:=h;rfl
 ·obtain⟨b,D,bl,rows,U,W,p,rfl,hl,gw,ap,X,u,k6,Y⟩:=h;refine⟨_,(q0e (q1s (q0n (eq_k K rfl I) (pv 0) (q1e q0c) (nomark _)) (q0f (q0m (q1e q0c))) q0o) (q0e (q0j (i:=2) sc_path_then.nd rfl (by trivial) (q1o (q1q I) (pv 1) (pv 0) (fun _ _=>rfl))) (q0f (q0m (q1d q3r (pe_c (hjk:=Au _) C.path_then I (q0a (q0p sl_P (pv 2) q0r (q0s (q1w q0x q0g))) (q0a (pv 1) q0c))) (q0p sl_P (pv 2) (q0s (q1w q0x q0g)) q0r)))))),?_⟩;refine⟨_,rfl,by show 0<=sizeLine;decide,fun J L=>?_⟩;have g:=(Same.refl H).new (o:=.tup []) L;have ht0':upd H J (.tup []) J=some (.tup (vP [])):=q0b;generalize upd H J (.tup [])=H1 at g ht0';have v:Low p:=by
   by_cases e:p=[]
   ·rw[e];exact fun _ h=>nomatch h
   ·obtain⟨r,M,e2⟩:=Ac.mp (u.in_ e);rw[<- e2];exact(hl.ok r M).low
  refine q2g (g _ _ X) ht0' v (fun _ h=>nomatch h) ⟨_,rfl,iteB (fun e=>?_) (fun e=>?_)⟩
  ·have e:=of_decide_eq_true e;refine⟨by show 0<=sizeLine;decide,fun O R=>Y O _ (g.new R) ?_⟩;rw[q0b];unfold thenP;rw[if_pos e];rfl
  ·have e:=of_decide_eq_false e;have B:=u.in_ e;obtain⟨x,dx,Z⟩:=(ap.same g).get hl B (g _ _ X);have ok:=q1l hl gw B;rcases hk with rfl|⟨j,rfl,rfl⟩
   ·exact absurd (u.zero hl) e
   refine⟨_,rfl,_,rfl,D,_,rfl,dx,?_⟩;refine⟨_,rfl,_,rfl,_,rfl,x,_,rfl,Z,fun O H2 s2 h2=>?_⟩;rw[(q1h ok.ne).1] at h2;have G:=g.trans s2;refine⟨_,rfl,O,D,bl,rows,U,W,_,rfl,hl,gw,ap.same G,h2,u.step hl gw e,by lia,fun q H3 s3 h3=>?_⟩;refine⟨_,rfl,_,rfl,_,rfl,x,_,rfl,s3 _ _ (s2 _ _ Z),fun t2 H4 s4 h4=>?_⟩;rw[z2c ok.ne] at h4;have a0:=(q5f hl gw (u.step hl gw e)).2;refine⟨q,t2,_,_,rfl,rfl,s4 _ _ h3,h4,by rw[q1b,q1b];exact small (by show _+1<=_;lia),fun z H5 s5 h5 _=>?_⟩;refine Y z H5 (((G.trans s3).trans s4).trans s5) ?_;rw[h5,<- z8m];conv=>rhs;unfold thenP
   rw[if_neg e]
theorem z0a(D:Df K mg "path_then" q2h ["path", "places"])(T:Txt mg):Cal P w K mg base "path_then" 1 ["path", "places"] (fun _ _ _ _=>False) :=
 D.cal sc_path_then (fun _ _ _ _ h=>h.elim) (fun _ _ _ _ _ _ _ _ _ _ h=>h.elim)
theorem q5h(D:Df K mg "path_then" q2h ["path", "places"])(T:Txt mg):∀k,Cal P w K mg base "path_then" (k+2) ["path", "places"] (spPT k)
 |0=>q6a D T (.inl rfl) ⟨z0a D T⟩
 |k+1=>q6a D T (.inr ⟨k,rfl,rfl⟩) ⟨q5h D T k⟩
structure CallsG (P:Ay) (w:World) (K:Aq) (mg:Str->Option Value) (base:Heap) (c:Addr):Prop where
 ask_wishes:Cal P w K mg base "ask_wishes" 8 ["hall", "wishes"] (spAsk c)
 all_places:Cal P w K mg base "all_places" 6 ["hall", "wishes"] (spAllP c)
 path_then:Cal P w K mg base "path_then" 8 ["path", "places"] (spPT 6)
 m_rows:MCal P w K mg base c "rows" 2 ["self"] (spHRows c)
noncomputable def gRows(rows:List Rw)(ms:List Mv):List Rw:=rows.map fun r=>(thenP (plc ms) 7 r.1,r.2)
theorem z4o{rows:List Rw}{r:Rw}(h:r∈rows):M6 rows 6 r.1:=.inr (.inr ⟨Ac.mpr ⟨r,h,rfl⟩,Au _⟩)
theorem x1f{bl:Bool}{rows:List Rw}{ms:List Mv}(hl:Hl bl rows)(gw:GoodW rows ms)(ap:Apart bl rows (plc ms)):((gRows rows ms).map (·.1)).Nodup:=by
 unfold gRows;rw[An];have g:(rows.map (·.1)).Nodup:=hl.paths;have e:rows.map ((·.1)∘fun r:Rw=>(thenP (plc ms) 7 r.1,r.2))=(rows.map (·.1)).map (thenP (plc ms) 7):=by rw[An];rfl
 rw[e];refine Jo.mpr (Iu (fun{p q} hp hq n=>?_) g);obtain⟨r,h,rfl⟩:=Ac.mp hp;obtain⟨j,f,rfl⟩:=Ac.mp hq;exact fun z=>n (q5g hl gw ap (z4o h) (z4o f) z)
theorem z8p{bl:Bool}{rows:List Rw}{ms:List Mv}(hl:Hl bl rows)(gw:GoodW rows ms):∀r∈gRows rows ms,Low r.1:=fun r e=>by
 obtain⟨x,f,rfl⟩:=Ac.mp e;exact(q5f hl gw (z4o f)).1
noncomputable def spGoal(c:Addr):Sp:=fun vs H Q _=>∃h d L bl rows zs,vs=[.ref h,.ref L]/\HallAt c H h d bl rows/\Hl bl rows/\rows.length<=30/\ML H L zs/\GoodW rows (zs.map (·.2))/\zs.length<=60/\Apart bl rows (plc (zs.map (·.2))) /\
 ∀G ys H',H G=none->Same H H'->RL H' G ys->(ys.map (·.2)).Perm (gRows rows (zs.map (·.2)))->(ys.map (·.2.1)).Pairwise (fun a b=>pLt b a=false)->Q (.ref G) H'
noncomputable abbrev z3h:Stmt:=top 17
theorem sc_goal:FnScope ["hall", "wishes", "places"] ["hall", "wishes"] (defScope z3h):=by trivial
theorem x4s{c:Addr}(D:Df K mg "goal" z3h ["hall", "wishes"])(T:Txt mg)(C:CallsG P w K mg base c):Cal P w K mg base "goal" 9 ["hall", "wishes"] (spGoal c):=by
 refine D.cal sc_goal (fun vs H Q E h=>?_) (fun f b5 A outer s H vs Q E j h=>?_)
 ·obtain⟨h,d,L,bl,rows,zs,rfl,_⟩:=h;rfl
 ·obtain⟨h,d,L,bl,rows,zs,rfl,hh,hl,a9,ml,gw,few,ap,k⟩:=h;refine⟨_,(q0e (q2b (pe_c C.ask_wishes j (q0a (pv 0) (q0a (pv 1) q0c)))) (q0e (q0j (i:=2) sc_goal.nd rfl (by trivial) (pe_c C.all_places j (q0a (pv 0) (q0a (pv 1) q0c)))) (q0f (q0m (q0l (q8n j) (by rfl) T.b_sorted (by trivial) (q0a (q1g ["path", "mark"] [("places",2)] rfl (@q1y _ _ _ _ K rfl (pe_m0 C.m_rows j (pv 0))) (fun _ _ _ _ _=>(@q2l _ _ _ _ (2) _ K rfl rfl (q0k (q0h (i:=0) (show(["path", "mark", "places"]:List Str).Nodup by trivial) rfl (by trivial)) (q0k (q0h (i:=1) (show(["path", "mark", "places"]:List Str).Nodup by trivial) rfl (by trivial)) q1m)) (by rfl) (by rfl))) (fun _ _ _ _ _=>q1n) (fun _ _ _ _ _=>(q1e (q0a (pe_c C.path_then j (q0a (pv 0) (q0a (pv 2) q0c))) (q0a (pv 1) q0c))))) q0c)))))),?_⟩;refine⟨_,rfl,_,rfl,h,d,L,bl,rows,zs,rfl,hh,hl,a9,ml,gw,few,ap,fun H1 s1=>?_⟩;refine⟨_,rfl,_,rfl,h,d,L,bl,rows,zs,rfl,hh.same s1,hl,by lia,ml.same s1,gw,few,fun D0 X rs H2 b6 s2 b0 b1 b7 e0=>?_⟩;have Y:=s1.trans s2;generalize b8:zs.map (·.2)=Z at gw ap e0 k;have all:AllP H2 D0 X rows Z:=.of b0 (by rw[e0];exact b1.map _);have a0:=hh.same Y;obtain⟨dx,hi⟩:=a0.i;refine⟨_,rfl,h,dx,_,rfl,hi,rfl,h,d,bl,rows,rfl,a0,by lia,fun r j=>(hl.ok r j).low,fun L2 zs2 H3 b9 s3 u B c0=>?_⟩;refine .inl ⟨L2,rfl,⟨_,SqL.of u.at_⟩,fun Dc a1=>?_⟩;have l2:zs2.length<=30:=by have:=B.length_eq;rw[Aa] at this;lia
  refine q1i (fun i ys H'=>∃g:List Zr,ys=g.map (fun z=>V.ref z.1)/\g.map (·.2)=gRows ((zs2.map (·.2)).take i) Z/\(∀x∈g,PR H' x.1 (rR x.2))/\Same H3 H'/\H' Dc=some (.lst ys)) ⟨[],rfl,rfl,(fun _ h=>nomatch h),(Same.refl H3).new a1,q0b⟩ (fun i ys H' h=>by obtain⟨g,_,_,_,s',h'⟩:=h;exact⟨h',SqL.of (s' _ _ u.at_)⟩) ?_ ?_
  ·rintro i ys H' v hv ⟨g,rfl,I,hw,s',J⟩;obtain⟨z,U,rfl⟩:=gR0 hv
   have a2:(zs2.map (·.2))[i]?=some z.2:=by rw[Ak,U];rfl
   have e1:(zs2.map (·.2)).take (i+1)=(zs2.map (·.2)).take i++[z.2]:=by rw[Br,a2];rfl
   have b2:z.2∈rows:=B.mem_iff.mp (Ah a2);have wl:g.length<=30:=by
    have:=congrArg List.length I;unfold gRows at this;rw[Aa,Aa,Bp,Aa] at this;lia
   obtain⟨b,h1,h2⟩:=(u.same s').pr z (Ah U);refine⟨z.1,_,rfl,SqT.of h1,rfl,_,_,rfl,_,_,rfl,rfl,q2p,?_⟩;refine z3g (iteT ?_);refine⟨_,rfl,_,rfl,b,D0,bl,rows,Z,X,z.2.1,rfl,hl,gw,all.same (s3.trans s'),h2,z4o b2,Au _,fun q H5 s5 h5=>?_⟩;refine⟨_,rfl,by show 2<=sizeLine;decide,fun W b3=>?_⟩;have sT:=(Same.refl H5).new (o:=.tup [.ref q,(rR z.2).2]) b3;have M:=sT _ _ (s5 _ _ J);have a3:=sT _ _ h5;have a4:upd H5 W (.tup [.ref q,(rR z.2).2]) W=some (.tup [.ref q,(rR z.2).2]):=q0b;have s6:=(s'.trans s5).trans sT;have a5:∀x∈g,PR (upd H5 W (.tup [.ref q,(rR z.2).2])) x.1 (rR x.2):=fun x O=>PR.same (hw x O) fun T xs e=>sT _ _ (s5 _ _ e)
   generalize upd H5 W (.tup [.ref q,(rR z.2).2])=H6 at M a3 a4 s6 a5;have tk:∀S xs,H6 S=some (.tup xs)->upd H6 Dc (.lst (g.map (fun z=>V.ref z.1)++[.ref W])) S=some (.tup xs):=fun S xs e=>by
    rw[q0d (fun z=>by rw[z,M] at e;cases e)];exact e
   refine⟨M,small' (by rw[Aa];lia),g++[(W,(thenP (plc Z) 7 z.2.1,z.2.2))],by rw[Ae];rfl,?_,fun x O=>?_,s6.put a1,q0b⟩
   ·unfold gRows at I ⊢;rw[Ae,I,e1,Ae];rfl
   ·rcases Ar.mp O with O|O
    ·exact PR.same (a5 x O) tk
    ·rw[Aj.mp O];exact⟨q,tk _ _ a4,tk _ _ a3⟩
  ·rintro ys H4 ⟨g,rfl,I,hw,s4,J⟩;rw[Aa,<- Aa (f:=fun z:Zr=>z.2),Ba] at I;have wl:g.length<=30:=by
    have:=congrArg List.length I;unfold gRows at this;rw[Aa,Aa,Aa] at this;lia
   have R:(g.map (·.2)).Perm (gRows rows Z):=by rw[I];exact B.map _
   have a6:=(Y.trans s3).trans s4;refine⟨Dc,g.map fun z=>(z.1,rR z.2),rfl,by rw[An];exact J,by rw[Aa];lia,fun z U=>?_,?_,fun G zs5 hG b4 a7=>?_⟩
   ·obtain⟨y,hy,rfl⟩:=Ac.mp U;exact⟨hw y hy,z8p hl gw _ (R.mem_iff.mp (Ac.mpr ⟨y,hy,rfl⟩))⟩
   ·have e2:(g.map fun z=>((z.1,rR z.2):Zq)).map (·.2.1)=(g.map (·.2)).map (·.1):=by rw[An,An];rfl
    rw[e2];exact(R.map _).nodup_iff.mpr (x1f hl gw ap)
   ·obtain⟨a8,q1,rfl⟩:=SB.perm_map_inv b4 rfl;rw[An] at a7;rw[An];have sL:=(Same.refl H4).new (o:=.lst (a8.map fun z=>V.ref z.1)) hG;exact k G a8 _ (a6.free hG) (a6.trans sL) ⟨q0b,fun z U=>PR.same (hw z (q1.mem_iff.mp U)) fun T xs e=>sL _ _ e⟩ ((q1.map _).trans R) a7
structure DL (rows:List Rw) (H:Hp) (L:Addr) (ds:List (Addr×Pth)):Prop where
 at_:H L=some (.lst (ds.map fun z=>V.ref z.1))
 pr:∀z∈ds,H z.1=some (.tup (vP z.2))/\IsD rows z.2/\z.2.length<6
theorem DL.fd{rows:List Rw}{a b L:Addr}{H H':Hp}{e:List (Addr×Pth)}(h:DL rows H L e)(F:FeedAt H a b)(fd:Fd a b H H')(g:L≠a):DL rows H' L e:=⟨fd.at h.at_ g,fun z f=>⟨tupFd F fd _ _ (h.pr z f).1,(h.pr z f).2⟩⟩
theorem x1g{bl:Bool}{p q:Pth}(f:p≠[])(g:q≠[])(h:keyO bl p=keyO bl q):fold bl p=fold bl q:=by
 unfold keyO at h;have j:=z1v (Vh h).1;have e:=SB.mk_inj (Sum.inr.inj (Vh h).2);refine(q4m f g).mpr ⟨j,?_⟩;cases bl with
 |true=>exact e
 |false=>exact e
structure CallsFP (P:Ay) (w:World) (K:Aq) (mg:Str->Option Value) (base:Heap):Prop where
 draw:Cal P w K mg base "_law_draw" 1 ["_law_feed", "_law_many"] spDraw
 a_name:Cal P w K mg base "_law_a_name" 3 ["_law_feed"] spName
 fold:Cal P w K mg base "_law_fold" 1 ["_law_name", "_law_blind"] spFold
noncomputable def spFree(P:Ay)(w:World):Sp:=fun vs H Q _=>∃a b m p t bl rows q k0 ks,vs=[.ref a,.ref m,.ref p,.ref t,.bl bl]/\FeedAt H a b/\H m=some (dR (rows.map rR))/\Hl bl rows/\rows.length<=30/\H p=some (.tup (vP q))/\(q,k0)∈rows/\DPr P w H t ks/\t≠a/\ks.length<=100 /\
 (∀H',Fd a b H H'->Q .non H') /\
 ∀e place kb H1 H',Fd a b H H1->hasP ks (keyO bl place)=false->PrK H1 (keyO bl place) kb->okP place->IsD rows place.dropLast->(place.dropLast=q.dropLast\/k0≠none)->Same (upd H1 t (PdO P w t (ks++[(keyO bl place,kb)]))) H'->H' e=some (.tup (vP place))->Q (.ref e) H'
noncomputable abbrev q3g:Stmt:=top 45
theorem sc_free_place:FnScope ["_law_feed", "_law_marks", "_law_path", "_law_taken", "_law_blind", "_law_drawer", "_law_drawers", "_law_k", "_law_name"] ["_law_feed", "_law_marks", "_law_path", "_law_taken", "_law_blind"] (defScope q3g):=by trivial
theorem x4t(D:Df K mg "_law_free_place" q3g ["_law_feed", "_law_marks", "_law_path", "_law_taken", "_law_blind"])(T:Txt mg)(C:CallsFP P w K mg base):Cal P w K mg base "_law_free_place" 4 ["_law_feed", "_law_marks", "_law_path", "_law_taken", "_law_blind"] (spFree P w):=by
 refine D.cal sc_free_place (fun vs H Q E h=>?_) (fun f h0 A outer s H vs Q E j h=>?_)
 ·obtain⟨a,b,m,p,t,bl,rows,q,k0,ks,rfl,_⟩:=h;rfl
 ·obtain⟨a,b,m,p,t,bl,rows,q,k0,ks,rfl,F,hm,hl,h1,hp,hq,f5,f7,h2,kN,kS⟩:=h;refine⟨_,(q0e (q0j (i:=5) sc_free_place.nd rfl (by trivial) (q0p (sl_k K rfl) (pv 2) q0r (q0s (q1w q0x q0g)))) (q0e (q0j (i:=6) sc_free_place.nd rfl (by trivial) (q1d q1j (q2a (q0a (q1e q0c) q0c)) (q1g ["_law_one"] [("_law_marks",1)] rfl (@q1y _ _ _ _ K rfl (q0l (q3y j) (by rfl) T.b_sorted (by trivial) (q0a (pv 1) q0c))) (fun _ _ _ _ _=>(q0h (i:=0) (show(["_law_one", "_law_marks"]:List Str).Nodup by trivial) rfl (by trivial))) (fun _ _ _ _ _=>(q3m (pt_j (@PW.pt _ _ _ (q3k (q2t (z3t (q1o (q1q j) (pv 1) (pv 0) (fun _ _=>rfl)))) (q2q (q0n z9o (q0l (q3o K rfl) (by rfl) T.b_len Cs (q0a (pv 0) q0c)) q0g (nomark _)))))))) (fun _ _ _ _ _=>(pv 0))))) (q3p (q1s (pt_j (@PW.pt _ _ _ (q3k (q2t (q6q (q1o (q1q j) (pv 1) (pv 2) (fun _ _=>rfl)))) (q2q (q0n (eq_k K rfl j) (pe_c C.draw j (q0a (pv 0) (q0a q0g q0c))) q0g (nomark _)))))) (q0f (q0j (i:=5) sc_free_place.nd rfl (by trivial) (q1k (ix_k K rfl) (pv 6) (pe_c C.draw j (q0a (pv 0) (q0a (q0l (q3o K rfl) (by rfl) T.b_len Cs (q0a (pv 6) q0c)) q0c))) (fun _ _=>rfl)))) q0o) (q0e (q1u Ca rfl (q3l rfl T.b_range (q0a q0g q0c)) (q0h (i:=7) sc_free_place.nd rfl (by trivial)) (q0e (q0j (i:=8) sc_free_place.nd rfl (by trivial) (pe_c C.a_name j (q0a (pv 0) q0c))) (q0f (q1s (q2t (z1r P w rfl rfl (z1s j) (q1e (q0a (pv 5) (q0a (pe_c C.fold j (q0a (pv 8) (q0a (pv 4) q0c))) q0c))) (pv 3))) (q0e (z2z P w rfl rfl (z1s j) (pv 3) (q1e (q0a (pv 5) (q0a (pe_c C.fold j (q0a (pv 8) (q0a (pv 4) q0c))) q0c))) q6c rfl) (q0f (q0m (q1d q3r (pv 5) (q1e (q0a (pv 8) q0c)))))) q0o)))) (q0f (q0m z3s)))))),?_⟩;have a8:=hl.ok;have a9:=a8 _ hq;obtain⟨c1,c2⟩:=q1h a9.ne;refine⟨_,rfl,_,rfl,_,rfl,.inr (.inr ⟨p,_,rfl,SqT.of hp,c2,fun t1 f8=>?_⟩)⟩;rw[c1];have s1:=(Same.refl H).new (o:=.tup (vP q.dropLast)) f8;have ht1':upd H t1 (.tup (vP q.dropLast)) t1=some (.tup (vP q.dropLast)):=q0b;generalize upd H t1 (.tup (vP q.dropLast))=H1 at s1 ht1';refine⟨by show 0<=sizeLine;decide,fun u c4=>⟨by show 1<=sizeLine;decide,fun D1 a0=>?_⟩⟩;have s2:=((Same.refl H1).new (o:=.tup []) c4).new (o:=.lst [.ref u]) a0;have c5:u≠D1:=fun z=>by rw[<- z,q0b] at a0;cases a0
  have S:upd (upd H1 u (.tup [])) D1 (.lst [.ref u]) u=some (.tup (vP [])):=by rw[q0d c5];exact q0b
  have b0:upd (upd H1 u (.tup [])) D1 (.lst [.ref u]) D1=some (.lst [.ref u]):=q0b;generalize upd (upd H1 u (.tup [])) D1 (.lst [.ref u])=H2 at s2 S b0;have a1:=s1.trans s2;have b1:=a1 _ _ hm;refine⟨_,rfl,m,_,rfl,b1,by rw[Aa];lia,fun r j=>?_,fun L3 bs ps c6 J f9 c7=>?_⟩
  ·obtain⟨y,X,rfl⟩:=Ac.mp j;exact(a8 y X).ne
  obtain⟨Y,y1,y2,y3⟩:=x1e c7;have c8:(rows.map rR).map (·.1)=rows.map (·.1):=by rw[An];rfl
  rw[c8] at J;rw[y1];have s4:=(Same.refl H2).new (o:=.lst (Y.map fun z=>V.ref z.1)) c6;have c9:∀y∈Y,∃k,(y.2,k)∈rows:=fun y X=>by
   have g0:y.2∈ps:=by rw[<- y2];exact Ac.mpr ⟨y,X,rfl⟩
   obtain⟨r,j,e⟩:=Ac.mp (J.mem_iff.mp g0);exact⟨r.2,by rw[<- e];exact j⟩
  have d0:Y.length<=30:=by
   have e1:=congrArg List.length y2;have e2:=J.length_eq;rw[Aa] at e1 e2;lia
  have a2:upd H2 L3 (.lst (Y.map fun z=>V.ref z.1)) L3=some (.lst (Y.map fun z=>V.ref z.1)):=q0b;have b2:∀y∈Y,upd H2 L3 (.lst (Y.map fun z=>V.ref z.1)) y.1=some (.tup (vP y.2)):=fun y X=>s4 _ _ (y3 y X);generalize upd H2 L3 (.lst (Y.map fun z=>V.ref z.1))=H4 at s4 a2 b2;clear y3 c7 y1 J f9;have d1:=s4 _ _ b1;refine .inl ⟨L3,rfl,⟨_,SqL.of a2⟩,fun Dc b3=>?_⟩;refine q1i (fun i vs H'=>∃B:List (Addr×Pth),vs=B.map (fun z=>V.ref z.1)/\Same H4 H'/\H' Dc=some (.lst vs)/\B.length<=i/\i<=Y.length/\∀z∈B,H' z.1=some (.tup (vP z.2))/\IsD rows z.2/\z.2.length<6) ⟨[],rfl,(Same.refl H4).new b3,q0b,Au _,Bf _,(fun _ h=>nomatch h)⟩ (fun i vs H' h=>by obtain⟨B,_,s',h',_⟩:=h;exact⟨h',SqL.of (s' _ _ a2)⟩) ?_ ?_
  ·rintro i vs H5 v hv ⟨B,rfl,Z,L,U,_,G⟩;obtain⟨y,X,rfl⟩:=gR0 hv
   have hi:i<Y.length:=(Af.mp X).1;have d2:=Ah X;obtain⟨d3,d4⟩:=c9 y d2;have b4:=Z _ _ (b2 y d2);refine⟨q0u,fun bb H6=>H6=H5/\(bb=true->d3=none/\y.2.length<6),?_,?_⟩
   ·rintro bb H6 ⟨rfl,hb⟩;refine ite2 (fun d5=>?_) (fun d5=>⟨B,rfl,Z,L,Fz U,hi,G⟩);obtain⟨hn,h6⟩:=hb d5;have nt:∀{x:Addr} {xs:List V},H6 x=some (.tup xs)->upd H6 Dc (.lst (B.map (fun z=>V.ref z.1)++[.ref y.1])) x=some (.tup xs):=fun{x xs} e=>by rw[q0d (fun y=>by rw[y,L] at e;cases e)];exact e
    refine⟨_,rfl,L,small' (by rw[Aa];lia),B++[(y.1,y.2)],by rw[Ae];rfl,Z.put b3,q0b,by rw[Al];exact Ij U,hi,fun x R=>?_⟩;rcases Ar.mp R with R|R
    ·exact⟨nt (G x R).1,(G x R).2⟩
    ·rw[Aj.mp R];exact⟨nt b4,.inr (by rw[<- hn];exact d4),h6⟩
   ·refine⟨_,rfl,_,rfl,m,mV d3,rfl,?_,_,rfl,?_⟩
    ·rw[<- q6j hl.paths d4];exact q5y (Z _ _ d1) b4
    refine iteB (fun hb=>?_) (fun hb=>⟨rfl,(fun z=>by cases z)⟩);refine⟨_,rfl,_,_,rfl,.inr ⟨_,SqT.of b4,rfl⟩,_,_,rfl,rfl,_,rfl,rfl,fun e6=>⟨mV_none.mp (of_decide_eq_true hb),?_⟩⟩;have e7:=of_decide_eq_true e6;rw[q1b] at e7;have e8:(y.2.length:Int)<6:=e7;lia
  rintro vs H5 ⟨B,rfl,Z,L,U,_,G⟩;have hle':B.length<=30:=by rw[Aa] at U;lia
  refine .inr (.inr ⟨D1,Dc,_,_,rfl,rfl,Z _ _ (s4 _ _ b0),L,small (by rw[Aa];show 1+_<=_;lia),fun Dr b5=>?_⟩);have s6:=(Same.refl H5).new (o:=.lst ([V.ref u]++B.map fun z=>V.ref z.1)) b5;have b6:DL rows (upd H5 Dr (.lst ([V.ref u]++B.map fun z=>V.ref z.1))) Dr ((u,[])::B):=⟨q0b,fun z hz=>by
   rcases Bb.mp hz with rfl|hz
   ·exact⟨s6 _ _ (Z _ _ (s4 _ _ S)),.inl rfl,by show 0<6;decide⟩
   ·exact⟨s6 _ _ (G z hz).1,(G z hz).2⟩⟩
  have a3:=(s4.trans Z).trans s6;have a4:=a1.trans a3;have d6:H Dr=none:=((a1.trans s4).trans Z).free b5;have a7:Dr≠a:=(F.na d6).symm;have d7:=a3 _ _ (s2 _ _ ht1');generalize g1:upd H5 Dr (.lst ([V.ref u]++B.map fun z=>V.ref z.1))=H6 at s6 b6 a3 a4 d7;generalize b7:(u,([]:Pth))::B=dd at b6;have h3:dd.length<=31:=by rw[<- b7,Cg];lia
  have h4:0<dd.length:=by rw[<- b7,Cg];lia
  have M:=(Fd.refl F).same a4;have g2:IsD rows q.dropLast:=hl.dr _ hq;have h6:q.dropLast.length<6:=by rw[Cc];have f6:q.length<=6:=a9.few;have p6:0<q.length:=Bw.mpr a9.ne;lia
  clear G L S b0 s2 s4 Z b2 a2 d1 b1 a1 c9 d0 y2 c6 b3 a0 c4 c5 U hle' a3 g1 s6 b7 b5;refine⟨fun O H3=>∃I dp x7 x8,O=[some (.ref a),some (.ref m),some (.ref p),some (.ref t),some (.bl bl),some (.ref I),some (.ref Dr),x7,x8]/\Fd a b H H3/\H3 I=some (.tup (vP dp))/\IsD rows dp/\dp.length<6/\(dp=q.dropLast\/k0≠none),?_,?_⟩;rotate_left
  ·refine⟨fun bb H3=>Fd a b H6 H3/\(bb=true->k0≠none),?_,?_⟩
   ·rintro bb H3 ⟨fd,hb⟩;refine ite2 (fun e=>?_) (fun e=>⟨t1,q.dropLast,_,_,rfl,M.trans fd,tupFd M.feed fd _ _ d7,g2,h6,.inl rfl⟩);have d8:=b6.fd M.feed fd a7;refine⟨_,rfl,_,rfl,_,rfl,_,_,rfl,.inl ⟨_,SqL.of d8.at_,rfl⟩,a,b,_,rfl,fd.feed,by rw[Aa];lia,by rw[Aa];lia,fun r1 H4 g3 d9 g=>?_⟩;rw[Aa] at d9;have e0:=d8.fd fd.feed g a7;obtain⟨v,W,g4⟩:=q7z (xs:=dd.map fun z=>V.ref z.1) g3 (by rw[Aa];exact d9);obtain⟨y,X,rfl⟩:∃y∈dd,v=V.ref y.1:=by
     rw[Ak] at W;cases e:dd[r1.toNat]? with
     |none=>rw[e] at W;cases W
     |some z=>rw[e] at W;cases W;exact⟨z,Ah e,rfl⟩
    refine .inl ⟨Dr,_,r1,_,rfl,rfl,SqL.of e0.at_,g4,?_⟩;obtain⟨y1,y2,y3⟩:=e0.pr y X;exact⟨y.1,y.2,_,_,rfl,(M.trans fd).trans g,y1,y2,y3,.inr (hb e)⟩
   ·refine⟨_,rfl,_,rfl,m,mV k0,rfl,?_,_,rfl,?_⟩
    ·rw[<- q6j hl.paths hq];exact q5y (a4 _ _ hm) (a4 _ _ hp)
    refine iteB (fun e=>?_) (fun e=>⟨Fd.refl M.feed,(fun z=>by cases z)⟩);have hn:k0≠none:=fun y=>by rw[y] at e;cases e
    exact⟨_,rfl,a,b,_,rfl,M.feed,by decide,by decide,fun r1 H3 _ _ b8=>.inl ⟨rfl,_,rfl,b8,fun _=>hn⟩⟩
  rintro O H3 ⟨I,dp,x7,x8,rfl,b8,g5,e3,h5,g6⟩;have e4:∀n∈dp,okN n:=fun n hn=>by
   rcases e3 with e|e
   ·rw[e] at hn;cases hn
   ·exact(a8 _ e).all n hn
  refine⟨4,rfl,by decide,by decide,q4v (n:=4) (fun i O H'=>∃x7 x8,O=[some (.ref a),some (.ref m),some (.ref p),some (.ref t),some (.bl bl),some (.ref I),some (.ref Dr),x7,x8]/\Fd a b H H'/\H' I=some (.tup (vP dp))) ⟨_,_,rfl,b8,g5⟩ ?_ ?_⟩
  ·rintro i O H4 hi ⟨x7,x8,rfl,g,e5⟩;refine⟨_,rfl,a,b,rfl,g.feed,fun n H5 okn e9=>?_⟩;have fd5':=g.trans e9;have f0:=tupFd g.feed e9 _ _ e5;have f1:=DPr.fd f5 F fd5' f7;have g7:keyO bl (dp++[n])=(kP dp,.inr (mk (if bl then lowN n else n))):=by
    unfold keyO;rw[Co,Fy]
   have pk:∀{H9:Hp} {p:Addr},H9 I=some (.tup (vP dp))->H9 p=some (.tup [.ref I,.str (mk (if bl then lowN n else n))])->PrK H9 (keyO bl (dp++[n])) p:=fun{H9 p} e1 e2=>by
    rw[g7];exact⟨I,e2,by rw[q3a];exact e1⟩
   refine⟨_,rfl,_,rfl,_,rfl,n,bl,rfl,okn,by show 2<=sizeLine;decide,fun p2 S=>?_⟩;have s9:=(Same.refl H5).new (o:=.tup [.ref I,.str (mk (if bl then lowN n else n))]) S;refine⟨_,rfl,t,ks,p2,keyO bl (dp++[n]),rfl,rfl,f1.same s9,pk (s9 _ _ f0) q0b,_,rfl,?_⟩;have a5:=s9 _ _ f0;have f2:=f1.same s9;have b9:=fd5'.same s9;generalize upd H5 p2 (.tup [.ref I,.str (mk (if bl then lowN n else n))])=H9 at s9 a5 f2 b9;refine ite2 (fun hb=>?_) (fun hb=>⟨_,_,rfl,b9,a5⟩);have f3:hasP ks (keyO bl (dp++[n]))=false:=by simpa using hb
   refine⟨_,rfl,_,rfl,_,rfl,_,rfl,n,bl,rfl,okn,by show 2<=sizeLine;decide,fun p3 J=>?_⟩;have sA:=(Same.refl H9).new (o:=.tup [.ref I,.str (mk (if bl then lowN n else n))]) J;have c0:=pk (sA _ _ a5) (p:=p3) q0b;have a6:=sA _ _ a5;have c3:=f2.same sA;have f4:=b9.same sA;generalize upd H9 p3 (.tup [.ref I,.str (mk (if bl then lowN n else n))])=HA at sA c0 a6 c3 f4;refine⟨t,ks,p3,keyO bl (dp++[n]),rfl,rfl,rfl,c3,c0,f3,small' (by lia),?_⟩;have g8:upd HA t (PdO P w t (ks++[(keyO bl (dp++[n]),p3)])) I=some (.tup (vP dp)):=by
    rw[q0d (fun z=>by rw[z,c3.at_] at a6;cases a6)];exact a6
   refine⟨_,rfl,_,rfl,by show 1<=sizeLine;decide,fun p4 g9=>?_⟩;have sC:=(Same.refl (upd HA t (PdO P w t (ks++[(keyO bl (dp++[n]),p3)])))).new (o:=.tup [.str (mk n)]) g9;refine⟨I,p4,_,_,rfl,rfl,sC _ _ g8,q0b,by rw[q1b];exact small (by show _+1<=_;lia),fun e HE sE he _=>?_⟩;refine kS e (dp++[n]) p3 HA HE f4 f3 c0 ?_ (by rw[Co];exact e3) (by rw[Co];exact g6) (sC.trans sE) ?_
   ·refine⟨by simp,by rw[Al];show _+1<=6;lia,fun x R=>?_⟩;rcases Ar.mp R with R|R
    ·exact e4 x R
    ·rw[Aj.mp R];exact okn
   ·rw[he];show _=some (HO.tup ((dp++[n]).map _));rw[Ae];rfl
  ·rintro O H4 ⟨x7,x8,rfl,g,e5⟩;exact kN _ g
theorem x4u{l:List Pth}:∀{m:List Pth},l.Nodup->(∀x∈l,x∈m)->l.length<=m.length:=by
 induction l with
 |nil=>intro m _ _;exact Bf _
 |cons a l ih =>
  intro m nd h;rw[Bs] at nd;have ha:=h a As;have f:=ih (m:=m.erase a) nd.2 fun x e=>(Sy fun z=>nd.1 (by rw[<- z];exact e)).mpr (h x (Am _ e));rw[Qo ha] at f;have:=Rx ha;rw[Cg];lia
theorem GoodW.len{rows:List Rw}{ms:List Mv}(g:GoodW rows ms):ms.length<=rows.length:=by
 have:=x4u (m:=rows.map (·.1)) g.nd fun x e=>by
  obtain⟨m,f,rfl⟩:=Ac.mp e;obtain⟨k,hk,_⟩:=(g.all m f).th;exact Ac.mpr ⟨_,hk,rfl⟩
 rw[Aa,Aa] at this;exact this
theorem z8q{ms f:List Mv}{p:Pth}:plc (ms++f) p=if p∈ms.map (·.1) then plc ms p else plc f p:=by
 induction ms with
 |nil=>simp
 |cons m ms ih =>
  show(if m.1=p then m.2 else plc (ms++f) p)=if p∈m.1::ms.map (·.1) then(if m.1=p then m.2 else plc ms p) else plc f p
  by_cases e:m.1=p
  ·rw[if_pos e,if_pos (by rw[e];exact As),if_pos e]
  ·rw[if_neg e,if_neg e,ih];by_cases c:p∈ms.map (·.1)
   ·rw[if_pos c,if_pos (Am _ c)]
   ·rw[if_neg c,if_neg fun z=>(Bb.mp z).elim (fun y=>e y.symm) c]
structure Turn1 (bl:Bool) (rows:List Rw) (ms nw:List Mv) (zf:List Pth) (last:Pth):Prop where
 ne:zf≠[]
 nd:zf.Nodup
 un:∀z∈zf,z∈rows.map (·.1)/\z∉ms.map (·.1)
 ky:nw.map (·.1)=zf
 vl:nw.map (fun m=>(m.2.dropLast,fold bl m.2))=(zf.tail++[last]).map (fun p=>(p.dropLast,fold bl p))
 ok:∀m∈nw,okP m.2
 pl:∀(i:Nat) (one q:Pth),zf[i]?=some one->(zf.tail++[last])[i]?=some q->IsD rows q.dropLast/\∃k,(one,k)∈rows/\(q.dropLast=one.dropLast\/k≠none)
section
variable{bl:Bool}{rows:List Rw}{ms nw:List Mv}{zf:List Pth}{last:Pth}
theorem Turn1.good(t:Turn1 bl rows ms nw zf last)(gw:GoodW rows ms):GoodW rows (ms++nw):=by
 refine⟨fun m f=>?_,?_⟩
 ·rcases Ar.mp f with f|f
  ·exact gw.all m f
  ·obtain⟨i,j⟩:=Bg.mp f;have s:zf[i]?=some m.1:=by rw[<- t.ky,Ak,j];rfl
   have g:((zf.tail++[last]).map (fun p=>(p.dropLast,fold bl p)))[i]?=some (m.2.dropLast,fold bl m.2):=by rw[<- t.vl,Ak,j];rfl
   rw[Ak] at g;cases e:(zf.tail++[last])[i]? with
   |none=>rw[e] at g;cases g
   |some q =>
    rw[e] at g;have u:q.dropLast=m.2.dropLast:=(Vh (Bx g)).1;obtain⟨d,k,hk,h⟩:=t.pl i _ _ s e;rw[u] at d h;exact⟨⟨k,hk,h⟩,t.ok m f,d⟩
 ·rw[Ae,t.ky];exact Dz.mpr ⟨gw.nd,t.nd,fun x v y B z=>(t.un y B).2 (by rw[<- z];exact v)⟩
theorem Turn1.folds(t:Turn1 bl rows ms nw zf last):zf.map (fun p=>fold bl (plc (ms++nw) p))=(zf.tail++[last]).map (fold bl):=by
 have g:zf.map (fun p=>fold bl (plc (ms++nw) p))=nw.map (fun m=>fold bl m.2):=by
  have h:zf.map (fun p=>fold bl (plc (ms++nw) p))=nw.map (fun m=>fold bl (plc (ms++nw) m.1)):=by
   conv=>lhs;rw[<- t.ky]
   rw[An];rfl
  rw[h];refine Ct fun m e=>?_;have j:m.1∈zf:=by rw[<- t.ky];exact Ac.mpr ⟨m,e,rfl⟩
  rw[z8q,if_neg (t.un _ j).2,q8q (by rw[t.ky];exact t.nd) e]
 have f:=congrArg (List.map Prod.snd) t.vl;rw[An,An] at f;rw[g];exact f
theorem Turn1.out(t:Turn1 bl rows ms nw zf last){p:Pth}(h:p∉zf):plc (ms++nw) p=plc ms p:=by
 rw[z8q];by_cases c:p∈ms.map (·.1)
 ·rw[if_pos c]
 ·rw[if_neg c,q5z c,q5z (by rw[t.ky];exact h)]
theorem Turn1.self(t:Turn1 bl rows ms nw zf last){p:Pth}(h:p∈zf):plc ms p=p:=q5z (t.un p h).2
theorem Turn1.split(t:Turn1 bl rows ms nw zf last)(nd:(rows.map (·.1)).Nodup):(rows.map (·.1)).Perm (zf++(rows.map (·.1)).filter fun p=>decide (p∉zf)):=by
 refine(Hz nd ?_).mpr fun p=>?_
 ·refine Dz.mpr ⟨t.nd,nd.filter _,fun x e y f z=>?_⟩;have:=(Di.mp f).2;exact(of_decide_eq_true this) (by rw[<- z];exact e)
 ·rw[Ar,Di];refine⟨fun h=>?_,fun h=>?_⟩
  ·by_cases c:p∈zf
   ·exact .inl c
   ·exact .inr ⟨h,decide_eq_true c⟩
  ·rcases h with h|h
   ·exact(t.un p h).1
   ·exact h.1
theorem Turn1.perm(t:Turn1 bl rows ms nw zf last)(nd:(rows.map (·.1)).Nodup):∃rest:List Pth,((rows.map (·.1)).map fun p=>fold bl (plc ms p)).Perm (zf.map (fold bl)++rest)/\((rows.map (·.1)).map fun p=>fold bl (plc (ms++nw) p)).Perm ((zf.tail++[last]).map (fold bl)++rest):=by
 have sp:=t.split nd;refine⟨((rows.map (·.1)).filter fun p=>decide (p∉zf)).map fun p=>fold bl (plc ms p),?_,?_⟩
 ·have f:=sp.map fun p=>fold bl (plc ms p);rw[Ae] at f;have e:zf.map (fun p=>fold bl (plc ms p))=zf.map (fold bl):=Ct fun p g=>by rw[t.self g]
  rw[e] at f;exact f
 ·have f:=sp.map fun p=>fold bl (plc (ms++nw) p);rw[Ae,t.folds] at f;have e:((rows.map (·.1)).filter fun p=>decide (p∉zf)).map (fun p=>fold bl (plc (ms++nw) p))=((rows.map (·.1)).filter fun p=>decide (p∉zf)).map (fun p=>fold bl (plc ms p)):=Ct fun p g=>by rw[t.out (of_decide_eq_true (Di.mp g).2)]
  rw[e] at f;exact f
theorem Turn1.ring(t:Turn1 bl rows ms nw zf last)(nd:(rows.map (·.1)).Nodup)(ap:Apart bl rows (plc ms))(h:zf.head?=some last):Apart bl rows (plc (ms++nw)):=by
 obtain⟨rest,f,g⟩:=t.perm nd;refine g.nodup_iff.mpr ?_;have j:=f.nodup_iff.mp ap;cases zf with
 |nil=>cases h
 |cons z zf =>
  cases h;have e:((zf++[last]).map (fold bl)++rest).Perm ((last::zf).map (fold bl)++rest):=by
   refine Ml rest (List.Perm.map _ ?_);exact Gn _ _
  exact e.nodup_iff.mpr j
theorem Turn1.chain(t:Turn1 bl rows ms nw zf last)(nd:(rows.map (·.1)).Nodup)(ap:Apart bl rows (plc ms))(h:∀p∈rows.map (·.1),fold bl (plc ms p)≠fold bl last):Apart bl rows (plc (ms++nw)):=by
 obtain⟨rest,g,j⟩:=t.perm nd;refine j.nodup_iff.mpr ?_;have q:=g.nodup_iff.mp ap;have f:fold bl last∉zf.map (fold bl)++rest:=fun z=>by
  obtain⟨p,s,e⟩:=Ac.mp (g.mem_iff.mpr z);exact h p s e
 have ne:=t.ne;cases zf with
 |nil=>exact absurd rfl ne
 |cons z zf =>
  have e:((zf++[last]).map (fold bl)++rest).Perm (fold bl last::(zf.map (fold bl)++rest)):=by
   rw[Ae];show((zf.map (fold bl)++[fold bl last])++rest).Perm _;exact Ml rest (Gn (fold bl last) (zf.map (fold bl)))
  refine e.nodup_iff.mpr (Bs.mpr ⟨fun y=>f (Am _ y),?_⟩);exact(Bs.mp q).2
theorem Turn1.cov{ks f:List (PKey×Addr)}(t:Turn1 bl rows ms nw zf last)(hl:Hl bl rows)(gw:GoodW rows ms)(hk:∀{k},hasP ks k=true->hasP f k=true)(u:∀p∈rows.map (·.1),hasP ks (keyO bl p)=true)(cv:∀p∈rows.map (·.1),hasP ks (keyO bl (plc ms p))=true)(C:last≠[])(h:hasP f (keyO bl last)=true):∀p∈rows.map (·.1),hasP f (keyO bl (plc (ms++nw) p))=true:=fun p B=>by
 by_cases c:p∈zf
 ·have g:=t.good gw;have D:fold bl (plc (ms++nw) p)∈(zf.tail++[last]).map (fold bl):=by
   rw[<- t.folds];exact Ac.mpr ⟨p,c,rfl⟩
  obtain⟨q,j,e⟩:=Ac.mp D;have ok:=(q1l hl g B).ne;rcases Ar.mp j with j|j
  ·have s:q∈zf:=Sz j;obtain⟨r,E,G⟩:=Ac.mp (t.un q s).1;have v:q≠[]:=by rw[<- G];exact(hl.ok r E).ne
   rw[<- q9t v ok e];exact hk (u q (t.un q s).1)
  ·rw[Aj.mp j] at e;rw[<- q9t C ok e];exact h
 ·rw[t.out c];exact hk (cv p B)
end
end
end K
set_option maxHeartbeats 4000000
namespace K
open PySem L2 TX SB HM
section
variable{P:Ay}{w:World}{K:Aq}{mg:Str->Option Value}{base:Heap}
theorem PDt.fd{a b:Addr}{H H':Hp}{d:Addr}{ps:List (Addr×Mv)}(x:PDt H d ps)(F:FeedAt H a b)(fd:Fd a b H H'):PDt H' d ps:=⟨x4q x.at_ F fd,fun y e=>tupFd F fd _ _ (x.pr y e)⟩
structure GWI (P:Ay) (w:World) (H:Hp) (a b m W t:Addr) (bl:Bool) (rows:List Rw) (i:Nat) (H':Hp) (ps:List (Addr×Mv)) (ks:List (PKey×Addr)):Prop where
 fd:Fd a b H H'
 m:H' m=some (dR (rows.map rR))
 wd:PDt H' W ps
 tk:DPr P w H' t ks
 kl:ks.length<=30+i
 gw:GoodW rows (ps.map (·.2))
 ap:Apart bl rows (plc (ps.map (·.2)))
 og:∀p∈rows.map (·.1),hasP ks (keyO bl p)=true
 cv:∀p∈rows.map (·.1),hasP ks (keyO bl (plc (ps.map (·.2)) p))=true
section
variable{H:Hp}{a b m W t:Addr}{bl:Bool}{rows:List Rw}{i:Nat}{H' H2:Hp}{ps:List (Addr×Mv)}{ks:List (PKey×Addr)}
theorem GWI.go(x:GWI P w H a b m W t bl rows i H' ps ks)(fd:Fd a b H' H2)(e:t≠a):GWI P w H a b m W t bl rows i H2 ps ks:=⟨x.fd.trans fd,x4q x.m x.fd.feed fd,x.wd.fd x.fd.feed fd,DPr.fd x.tk x.fd.feed fd e,x.kl,x.gw,x.ap,x.og,x.cv⟩
theorem GWI.same(x:GWI P w H a b m W t bl rows i H' ps ks)(s:Same H' H2):GWI P w H a b m W t bl rows i H2 ps ks:=⟨x.fd.same s,s _ _ x.m,x.wd.same s,x.tk.same s,x.kl,x.gw,x.ap,x.og,x.cv⟩
theorem GWI.up(x:GWI P w H a b m W t bl rows i H' ps ks):GWI P w H a b m W t bl rows (i+1) H' ps ks:=⟨x.fd,x.m,x.wd,x.tk,Fz x.kl,x.gw,x.ap,x.og,x.cv⟩
end
structure SomeOk (rows:List Rw) (ms:List Mv) (l:List Pth):Prop where
 nd:l.Nodup
 un:∀z∈l,z∈rows.map (·.1)/\z∉ms.map (·.1)
 go:(∀z∈l,∃k,(z,k)∈rows/\k≠none)\/∃d,∀z∈l,z.dropLast=d
theorem SomeOk.sub{rows:List Rw}{ms:List Mv}{l g r:List Pth}(x:SomeOk rows ms l)(p:(r++g).Perm l):SomeOk rows ms g:=by
 have e:∀z∈g,z∈l:=fun z f=>p.mem_iff.mp (Bm _ f);exact⟨(Dz.mp (p.nodup_iff.mpr x.nd)).2.1,fun z f=>x.un z (e z f),x.go.imp (fun h z f=>h z (e z f)) (fun⟨d,h⟩=>⟨d,fun z f=>h z (e z f)⟩)⟩
noncomputable def GP(H:Hp)(T:Addr)(p:Pth):Prop:=H T=some (.tup (vP p))/\okP p
theorem gg_P:GG K GP:=⟨fun h k=>⟨k _ _ h.1,h.2⟩,fun h=>⟨_,q2d h.1,q2v h.2.low⟩⟩
theorem z0b{xs:List V}{v:V}(h:xs.getLast?=some v):atI xs (-1)=some v:=by
 have f:xs≠[]:=fun z=>by rw[z] at h;cases h
 have hl:=Bw.mpr f;unfold atI ixN;rw[if_neg (by decide),if_pos (by lia)];rw[Cz] at h;rw[<- h];have e:((-1:Int)+(xs.length:Int)).toNat=xs.length-1:=by lia
 show xs[((-1:Int)+(xs.length:Int)).toNat]?=_;rw[e]
structure LastOk (bl:Bool) (rows:List Rw) (ms:List Mv) (ks:List (PKey×Addr)) (zf:List Pth) (q:Pth):Prop where
 ok:okP q
 kq:hasP ks (keyO bl q)=true
 or:zf.head?=some q\/((∀p∈rows.map (·.1),fold bl (plc ms p)≠fold bl q)/\IsD rows q.dropLast/\∀one,zf.getLast?=some one->∃k,(one,k)∈rows/\(q.dropLast=one.dropLast\/k≠none))
theorem GWI.take{H:Hp}{a b m W t e:Addr}{bl:Bool}{rows:List Rw}{i:Nat}{H':Hp}{ps:List (Addr×Mv)}{ks:List (PKey×Addr)}{g:PKey}(x:GWI P w H a b m W t bl rows i H' ps ks)(F:FeedAt H a b)(h:H t=none)(v:i<=30)(pk:PrK H' g e):GWI P w H a b m W t bl rows (i+1) (upd H' t (PdO P w t (ks++[(g,e)]))) ps (ks++[(g,e)]):=by
 have j:∀{c:Addr} {u:HO},H' c=some u->(∀f,u≠.ext f)->upd H' t (PdO P w t (ks++[(g,e)])) c=some u:=fun{c u} e n=>by
  rw[q0d (fun z=>by rw[z,x.tk.at_] at e;cases e;exact n _ rfl)];exact e
 refine⟨x.fd.put F h,j x.m (fun _ z=>by cases z),⟨j x.wd.at_ (fun _ z=>by cases z),fun y s=>j (x.wd.pr y s) (fun _ z=>by cases z)⟩,x.tk.put pk (by have:=x.kl;exact small' (by lia)),by rw[Al];have:=x.kl;show _+1<=_;lia,x.gw,x.ap,fun p q=>q6i (x.og p q),fun p q=>q6i (x.cv p q)⟩
structure ZI (P:Ay) (w:World) (H:Hp) (a b m W t M L7:Addr) (bl:Bool) (rows:List Rw) (zf pls:List (Addr×Pth)) (ps:List (Addr×Mv)) (ks:List (PKey×Addr)) (j:Nat) (H':Hp) (nw:List (Addr×Mv)):Prop where
 fd:Fd a b H H'
 m:H' m=some (dR (rows.map rR))
 wd:PDt H' W (ps++nw)
 tk:DPr P w H' t ks
 pz:PL H' M zf
 l7:H' L7=some (.lst (pls.map fun z=>V.ref z.1))
 pp:∀x∈pls,H' x.1=some (.tup (vP x.2))/\okP x.2
 ky:nw.map (·.2.1)=(zf.map (·.2)).take j
 vl:nw.map (fun y=>(y.2.2.dropLast,fold bl y.2.2))=((pls.map (·.2)).take j).map (fun p=>(p.dropLast,fold bl p))
 ok:∀y∈nw,okP y.2.2
section
variable{H:Hp}{a b m W t M L7:Addr}{bl:Bool}{rows:List Rw}{zf pls:List (Addr×Pth)}{ps nw:List (Addr×Mv)}{ks:List (PKey×Addr)}{j:Nat}{H' H2:Hp}
theorem ZI.go(x:ZI P w H a b m W t M L7 bl rows zf pls ps ks j H' nw)(fd:Fd a b H' H2)(f:t≠a)(g:M≠a)(h:L7≠a):ZI P w H a b m W t M L7 bl rows zf pls ps ks j H2 nw :=
 ⟨x.fd.trans fd,x4q x.m x.fd.feed fd,x.wd.fd x.fd.feed fd,DPr.fd x.tk x.fd.feed fd f,x.pz.fd x.fd.feed fd g,fd.at x.l7 h,fun y e=>⟨tupFd x.fd.feed fd _ _ (x.pp y e).1,(x.pp y e).2⟩,x.ky,x.vl,x.ok⟩
theorem ZI.same(x:ZI P w H a b m W t M L7 bl rows zf pls ps ks j H' nw)(s:Same H' H2):ZI P w H a b m W t M L7 bl rows zf pls ps ks j H2 nw :=
 ⟨x.fd.same s,s _ _ x.m,x.wd.same s,x.tk.same s,x.pz.same s,s _ _ x.l7,fun y e=>⟨s _ _ (x.pp y e).1,(x.pp y e).2⟩,x.ky,x.vl,x.ok⟩
theorem ZI.put{e:Addr}{one pl:Pth}{z y:Addr×Pth}(x:ZI P w H a b m W t M L7 bl rows zf pls ps ks j H' nw)(F:FeedAt H a b)(D:H W=none)(s:m≠W)(E:zf[j]?=some z)(G:pls[j]?=some y)(I:H' e=some (.tup (vP pl)))(okp:okP pl)(J:pl.dropLast=y.2.dropLast)(L:fold bl pl=fold bl y.2):
  ZI P w H a b m W t M L7 bl rows zf pls ps ks (j+1) (upd H' W (dR (((ps++nw).map fun x=>((x.2.1,.ref x.1):HRow))++[(z.2,.ref e)]))) (nw++[(e,(z.2,pl))]):=by
 have q:∀{c:Addr} {u:HO},H' c=some u->(∀v,u≠.dT v)->upd H' W (dR (((ps++nw).map fun x=>((x.2.1,.ref x.1):HRow))++[(z.2,.ref e)])) c=some u:=fun{c u} e n=>by
  rw[q0d (fun z=>by rw[z,x.wd.at_] at e;cases e;exact n _ rfl)];exact e
 have g:∀{c:Addr} {xs:List V},H' c=some (.tup xs)->upd H' W (dR (((ps++nw).map fun x=>((x.2.1,.ref x.1):HRow))++[(z.2,.ref e)])) c=some (.tup xs):=fun h=>q h (fun _ z=>by cases z);have B:(zf.map (·.2))[j]?=some z.2:=by rw[Ak,E];rfl
 have C:(pls.map (·.2))[j]?=some y.2:=by rw[Ak,G];rfl
 refine⟨x.fd.put F D,by rw[q0d s];exact x.m,⟨?_,fun u f=>?_⟩,⟨q x.tk.at_ (fun _ z=>by cases z),x.tk.sys,x.tk.len,fun u f=>by obtain⟨c,O,Q⟩:=x.tk.pk u f;exact⟨c,g O,g Q⟩⟩,⟨q x.pz.at_ (fun _ z=>by cases z),fun u f=>⟨g (x.pz.pr u f).1,(x.pz.pr u f).2⟩⟩,q x.l7 (fun _ z=>by cases z),fun u f=>⟨g (x.pp u f).1,(x.pp u f).2⟩,?_,?_,fun u f=>?_⟩
 ·rw[q0b,<- Fg,Ae (l₁:=ps++nw)];rfl
 ·rw[<- Fg] at f;rcases Ar.mp f with f|f
  ·exact g (x.wd.pr u f)
  ·rw[Aj.mp f];exact g I
 ·rw[Ae,x.ky,Br,B];rfl
 ·rw[Ae,x.vl,Br,C,Ae];show _++[(pl.dropLast,fold bl pl)]=_;rw[J,L];rfl
 ·rcases Ar.mp f with f|f
  ·exact x.ok u f
  ·rw[Aj.mp f];exact okp
end
structure CallsGW (P:Ay) (w:World) (K:Aq) (mg:Str->Option Value) (base:Heap):Prop where
 draw:Cal P w K mg base "_law_draw" 1 ["_law_feed", "_law_many"] spDraw
 fold:Cal P w K mg base "_law_fold" 1 ["_law_name", "_law_blind"] spFold
 free_place:Cal P w K mg base "_law_free_place" 4 ["_law_feed", "_law_marks", "_law_path", "_law_taken", "_law_blind"] (spFree P w)
 other_case:Cal P w K mg base "_law_other_case" 2 ["_law_feed", "_law_name"] spOther
 some_of:Cal P w K mg base "_law_some_of" 2 ["_law_feed", "_law_things", "_law_many"] (spSome K)
noncomputable def spGoodW(P:Ay)(w:World):Sp:=fun vs H Q _=>∃a b L bl n zs,vs=[.ref a,.ref L,.bl bl,.int n]/\FeedAt H a b/\RL H L zs/\Hl bl (zs.map (·.2))/\zs.length<=30/\L≠a/\0<n/\n<=20 /\
 ∀W ps H',Fd a b H H'->H W=none->PDt H' W ps->GoodW (zs.map (·.2)) (ps.map (·.2))->Apart bl (zs.map (·.2)) (plc (ps.map (·.2)))->Q (.ref W) H'
noncomputable abbrev q2x:Stmt:=top 46
theorem sc_good_wishes:FnScope ["_law_feed", "_law_rows_here", "_law_blind", "_law_most", "_law_marks", "_law_wishes", "_law_taken", "_law_path", "_law_turn", "_law_left", "_law_some", "_law_drawer", "_law_way", "_law_last", "_law_one", "_law_place", "_law_name"] ["_law_feed", "_law_rows_here", "_law_blind", "_law_most"] (defScope q2x):=by trivial
theorem q7s(D:Df K mg "_law_good_wishes" q2x ["_law_feed", "_law_rows_here", "_law_blind", "_law_most"])(T:Txt mg)(C:CallsGW P w K mg base):Cal P w K mg base "_law_good_wishes" 5 ["_law_feed", "_law_rows_here", "_law_blind", "_law_most"] (spGoodW P w):=by
 refine D.cal sc_good_wishes (fun vs H Q E h=>?_) (fun f r4 A outer s H vs Q E O h=>?_)
 ·obtain⟨a,b,L,bl,n,zs,rfl,_⟩:=h;rfl
 ·obtain⟨a,b,L,bl,n,zs,rfl,F,rl,hl,n9,r5,n0,r6,k⟩:=h;refine⟨_,(q0e (q0j (i:=4) sc_good_wishes.nd rfl (by trivial) (q1x (z5k O) (by rfl) T.b_dict (by trivial) (q0a (pv 1) q0c))) (q0e (q0j (i:=5) sc_good_wishes.nd rfl (by trivial) q6g) (q0e (q0j (i:=6) sc_good_wishes.nd rfl (by trivial) (z4j P w rfl rfl)) (q0e (z2v H rfl (q1u Ca rfl (@z4b _ _ _ _ K rfl (pv 4)) (q0h (i:=7) sc_good_wishes.nd rfl (by trivial)) (q0f (z2z P w rfl rfl (z1s O) (pv 6) (q1e (q0a (q0p (sl_k K rfl) (pv 7) q0r (q0s (q1w q0x q0g))) (q0a (pe_c C.fold O (q0a (q1k (ix_k K rfl) (pv 7) (q1w q0x q0g) (fun _ _=>rfl)) (q0a (pv 2) q0c))) q0c))) q6c rfl)))) (q0e (q1u Ca rfl (q3l rfl T.b_range (q0a (q1d q1j q0g (pe_c C.draw O (q0a (pv 0) (q0a (pv 3) q0c)))) q0c)) (q0h (i:=8) sc_good_wishes.nd rfl (by trivial)) (q0e (q3n (i:=9) ["_law_path"] [("_law_wishes",5)] sc_good_wishes.nd rfl (by trivial) rfl (@q1y _ _ _ _ K rfl (q0l (q3y O) (by rfl) T.b_sorted (by trivial) (q0a (pv 4) q0c))) (fun _ _ _ _ _=>(q0h (i:=0) (show(["_law_path", "_law_wishes"]:List Str).Nodup by trivial) rfl (by trivial))) (fun _ _ _ _ _=>(q3m (q2t (z1c (q1q O) (pv 0) (pv 1))))) (fun _ _ _ _ _=>(pv 0))) (q0e (q3n (i:=10) ["_law_path"] [("_law_marks",4)] sc_good_wishes.nd rfl (by trivial) rfl (@q1y _ _ _ _ K rfl (pv 9)) (fun _ _ _ _ _=>(q0h (i:=0) (show(["_law_path", "_law_marks"]:List Str).Nodup by trivial) rfl (by trivial))) (fun _ _ _ _ _=>(q3m (q2t (q6q (q1o (q1q O) (pv 1) (pv 0) (fun _ _=>rfl)))))) (fun _ _ _ _ _=>(pv 0))) (q3p (q1s (pt_j (@PW.pt _ _ _ (q3k (q0n (ne_k K rfl O) (pv 9) (q2a q0c) (nomark _)) (q2q (q0n (eq_k K rfl O) (pe_c C.draw O (q0a (pv 0) (q0a q0g q0c))) q0g (nomark _)))))) (q0e (q0j (i:=11) sc_good_wishes.nd rfl (by trivial) (q0p (sl_k K rfl) (q1k (ix_k K rfl) (pv 9) (pe_c C.draw O (q0a (pv 0) (q0a (q0l (q3o K rfl) (by rfl) T.b_len Cs (q0a (pv 9) q0c)) q0c))) (fun _ _=>rfl)) q0r (q0s (q1w q0x q0g)))) (q0f (q3n (i:=10) ["_law_path"] [("_law_drawer",11)] sc_good_wishes.nd rfl (by trivial) rfl (@q1y _ _ _ _ K rfl (pv 9)) (fun _ _ _ _ _=>(q0h (i:=0) (show(["_law_path", "_law_drawer"]:List Str).Nodup by trivial) rfl (by trivial))) (fun _ _ _ _ _=>(q3m (q0n (eq_k K rfl O) (q0p (sl_k K rfl) (pv 0) q0r (q0s (q1w q0x q0g))) (pv 1) (nomark _)))) (fun _ _ _ _ _=>(pv 0))))) q0o) (q0e (q0j (i:=10) sc_good_wishes.nd rfl (by trivial) (pe_c C.some_of O (q0a (pv 0) (q0a (pv 10) (q0a (q1d q1j q0g (pe_c C.draw O (q0a (pv 0) (q0a q0g q0c)))) q0c))))) (q0e (q0j (i:=12) sc_good_wishes.nd rfl (by trivial) (pe_c C.draw O (q0a (pv 0) (q0a q0g q0c)))) (q0e (q0j (i:=13) sc_good_wishes.nd rfl (by trivial) z3s) (q3p (q1s (pt_j (@PW.pt _ _ _ (q3k (q0n (ne_k K rfl O) (pv 10) (q2a q0c) (nomark _)) (q2q (q0n (eq_k K rfl O) (pv 12) q0g (nomark _)))))) (q0f (q0j (i:=13) sc_good_wishes.nd rfl (by trivial) (q1k (ix_k K rfl) (pv 10) q0g (fun _ _=>rfl)))) q0o) (q3p (q1s (pt_j (@PW.pt _ _ _ (q3k (q0n (ne_k K rfl O) (pv 10) (q2a q0c) (nomark _)) (q2q (q0n op_gt (pv 12) q0g (nomark _)))))) (q0f (q0j (i:=13) sc_good_wishes.nd rfl (by trivial) (pe_c C.free_place O (q0a (pv 0) (q0a (pv 4) (q0a (q1k (ix_k K rfl) (pv 10) (q1w q0x q0g) (fun _ _=>rfl)) (q0a (pv 6) (q0a (pv 2) q0c)))))))) q0o) (q0f (q1s (q2t (q6q (pv 13))) (q0f (q1u Ca rfl (@zip_k _ _ _ _ _ _ _ _ _ K rfl rfl T.b_zip (q0a (pv 10) (q0a (q1d q1j (q0p (sl_k K rfl) (pv 10) (q0s q0g) q0r) (q2a (q0a (pv 13) q0c))) q0c)) (by rfl) (by rfl)) (@q2l _ _ _ _ (2) _ K rfl rfl (q0k (q0h (i:=14) sc_good_wishes.nd rfl (by trivial)) (q0k (q0h (i:=15) sc_good_wishes.nd rfl (by trivial)) q1m)) (by rfl) (by rfl)) (q0e (q0j (i:=16) sc_good_wishes.nd rfl (by trivial) (q1k (ix_k K rfl) (pv 15) (q1w q0x q0g) (fun _ _=>rfl))) (q3p (q1s (@z2r _ _ _ K rfl (pv 2) (fun _=>rfl)) (q0f (q0j (i:=16) sc_good_wishes.nd rfl (by trivial) (pe_c C.other_case O (q0a (pv 0) (q0a (pv 16) q0c))))) q0o) (q0f (q4j (q1q O) (pv 5) (pv 14) (q1d q3r (q0p (sl_k K rfl) (pv 15) q0r (q0s (q1w q0x q0g))) (q1e (q0a (pv 16) q0c))) rfl)))))) q0o))))))))))) (q0f (q0m (pv 5)))))))),?_⟩;refine⟨_,rfl,L,zs.map (·.1),zs.map (fun z=>rR z.2),rfl,by rw[An];exact rl.at_,prs_zs rl.pr,by rw[Aa];lia,fun m hm=>?_⟩;rw[z8n hl];have s1:=(Same.refl H).new (o:=dR ((zs.map (·.2)).map rR)) hm;have c9:upd H m (dR ((zs.map (·.2)).map rR)) m=some (dR ((zs.map (·.2)).map rR)):=q0b;generalize upd H m (dR ((zs.map (·.2)).map rR))=H1 at s1 c9;generalize h7:zs.map (·.2)=rows at hl c9 k;have o0:rows.length<=30:=by rw[<- h7,Aa];exact n9
  have g0:=hl.ok;intro W hW;have s2:=s1.new (o:=.dT []) hW;have g1:=(Same.refl H1).new (o:=.dT []) hW _ _ c9;have g2:upd H1 W (.dT []) W=some (.dT []):=q0b;have j9:H W=none:=s1.free hW;have o1:m≠W:=fun z=>by rw[<- z,c9] at hW;cases hW
  generalize upd H1 W (.dT [])=H2 at s2 g1 g2;intro t ht e0;have s3':=(Same.refl H2).new (o:=PdO P w t []) ht;have s3:=s2.trans s3';have h8:=s3' _ _ g1;have h9:=s3' _ _ g2;have i0:H t=none:=s2.free ht;have a8:t≠a:=(F.na i0).symm;have i1:DPr P w (upd H2 t (PdO P w t [])) t []:=⟨q0b,e0,Bf _,(fun _ h=>nomatch h)⟩
  have i3:m≠t:=fun z=>by rw[<- z,g1] at ht;cases ht
  generalize upd H2 t (PdO P w t [])=H3 at s3' s3 h8 h9 i1;refine⟨m,(fun o v e=>by rw[hm] at e;cases e),?_⟩;refine⟨_,rfl,m,_,rfl,h8,fun ob=>?_⟩;refine z1d (fun i J R=>∃U x7 x8 x9 c4 X b7 b8 Y a0 a3,J=[some (.ref a),some (.ref L),some (.bl bl),some (.int n),some (.ref m),some (.ref W),some (.ref t),x7,x8,x9,c4,X,b7,b8,Y,a0,a3]/\R m=some (.frz ob (dR (rows.map rR)))/\DPr P w R t U/\(∀c u,c≠m->c≠t->H3 c=some u->R c=some u)/\U.length<=i/\(∀r∈rows.take i,hasP U (keyO bl r.1)=true)/\(∀kk,hasP U kk=true->∃r∈rows.take i,kk=keyO bl r.1))
   ⟨[],none,none,none,none,none,none,none,none,none,none,rfl,q0b,⟨by rw[q0d i3.symm];exact i1.at_,e0,Bf _,(fun _ h=>nomatch h)⟩,fun c u hc _ e=>by rw[q0d hc];exact e,Au _,(fun r O=>by rw[Lp] at O;cases O),(fun kk h=>by cases h)⟩ (fun i J R x=>by obtain⟨_,_,_,_,_,_,_,_,_,_,_,_,h,_⟩:=x;exact h) ?_ ?_
  ·rintro i ky v pb J H4 e5 hb ⟨U,x7,x8,x9,c4,X,b7,b8,Y,a0,a3,rfl,e6,d0,kp,kl,h1,h2⟩;obtain⟨r,O,rfl,rfl⟩:∃r,rows[i]?=some r/\ky=kP r.1/\v=mV r.2:=by
    rw[Ak,Ak] at e5;cases e:rows[i]? with
    |none=>rw[e] at e5;cases e5
    |some r=>rw[e] at e5;cases e5;exact⟨r,rfl,rfl,rfl⟩
   rw[q3a] at hb;have g3:=g0 r (Ah O);have r7:i<rows.length:=(Af.mp O).1;obtain⟨c1,c2⟩:=q1h g3.ne;refine⟨_,rfl,_,rfl,_,rfl,_,rfl,.inr (.inr ⟨pb,_,rfl,SqT.of hb,c2,fun t1 e7=>?_⟩)⟩;rw[c1];have s5:=(Same.refl H4).new (o:=.tup (vP r.1.dropLast)) e7;have k0:upd H4 t1 (.tup (vP r.1.dropLast)) t1=some (.tup (vP r.1.dropLast)):=q0b;generalize upd H4 t1 (.tup (vP r.1.dropLast))=H5 at s5 k0;refine⟨_,rfl,_,rfl,.inr (.inl ⟨pb,_,-1,_,rfl,rfl,SqT.of (s5 _ _ hb),q4o g3.ne,?_⟩)⟩;refine⟨_,rfl,_,bl,rfl,q2w g3,by show 2<=sizeLine;decide,fun p3 o2=>?_⟩;have s6:=(Same.refl H5).new (o:=.tup [.ref t1,.str (mk (if bl then lowN (r.1.getLastD []) else r.1.getLastD []))]) o2;have pk:PrK (upd H5 p3 (.tup [.ref t1,.str (mk (if bl then lowN (r.1.getLastD []) else r.1.getLastD []))])) (keyO bl r.1) p3:=⟨t1,q0b,by show _=some (HO.tup ((kP r.1.dropLast).map kV));rw[q3a];exact s6 _ _ k0⟩
   have g4:=s5.trans s6;generalize upd H5 p3 (.tup [.ref t1,.str (mk (if bl then lowN (r.1.getLastD []) else r.1.getLastD []))])=H6 at s6 pk g4;have d3:hasP U (keyO bl r.1)=false:=by
    cases e:hasP U (keyO bl r.1) with
    |false=>rfl
    |true =>
     obtain⟨r',a9,e2⟩:=h2 _ e;obtain⟨j,hj⟩:=Bg.mp a9;have d4:j<i:=by
      have:=(Af.mp hj).1;rw[Bp] at this;lia
     rw[Uj,if_pos d4] at hj;have hf:=x1g g3.ne (g0 r' (Ah hj)).ne e2;have a1:(rows.map fun r=>fold bl r.1)[i]?=some (fold bl r.1):=by rw[Ak,O];rfl
     have a2:(rows.map fun r=>fold bl r.1)[j]?=some (fold bl r.1):=by rw[Ak,hj,hf];rfl
     have:=(Ma (Af.mp a1).1 hl.nd).mp (a1.trans a2.symm);lia
   have k1:=d0.same g4;have k2:U.length<sizeLine:=small' (by lia);refine⟨t,U,p3,keyO bl r.1,rfl,rfl,rfl,k1,pk,d3,k2,?_⟩;have a6:rows.take (i+1)=rows.take i++[r]:=by rw[Br,O];rfl
   refine⟨U++[(keyO bl r.1,p3)],_,_,_,_,_,_,_,_,_,_,rfl,by rw[q0d i3];exact g4 _ _ e6,k1.put pk k2,fun c u hc k3 e=>by rw[q0d k3];exact g4 _ _ (kp c u hc k3 e),by rw[Al];exact Ij kl,fun r' a9=>?_,fun kk b9=>?_⟩
   ·rw[a6] at a9;rcases Ar.mp a9 with a9|a9
    ·exact q6i (h1 r' a9)
    ·rw[Aj.mp a9];exact q9u
   ·rw[a6];unfold hasP at b9;rw[Rc,Bool.or_eq_true] at b9;rcases b9 with b9|b9
    ·obtain⟨r',a9,e⟩:=h2 kk b9;exact⟨r',Ck _ a9,e⟩
    ·refine⟨r,Bm _ (Aj.mpr rfl),?_⟩;simp at b9;exact b9.symm
  rintro J H4 ⟨U,x7,x8,x9,c4,X,b7,b8,Y,a0,a3,rfl,e6,d0,kp,kl,h1,h2⟩;rw[Aa,Aa,Ba] at h1;rw[Aa,Aa] at kl;refine⟨ob,_,e6,?_⟩;have I0:GWI P w H a b m W t bl rows 0 (upd H4 m (dR (rows.map rR))) [] U:=by
   have o3:W≠m:=fun z=>by rw[z,c9] at hW;cases hW
   have o4:W≠t:=fun z=>by rw[<- z,g2] at ht;cases ht
   have kp':∀c u,c≠m->c≠t->H3 c=some u->upd H4 m (dR (rows.map rR)) c=some u:=fun c u h1 h2 e=>by rw[q0d h1];exact kp c u h1 h2 e
   have sF:Same H (upd H4 m (dR (rows.map rR))):=fun c u e=>kp' c u (q0i e hm) (q0i e i0) (s3 _ _ e);have k4:∀{c:Addr} {xs:List V},H4 c=some (.tup xs)->upd H4 m (dR (rows.map rR)) c=some (.tup xs):=fun{c xs} e=>by rw[q0d (fun z=>by rw[z,e6] at e;cases e)];exact e
   have og:∀p∈rows.map (·.1),hasP U (keyO bl p)=true:=fun p hp=>by
    obtain⟨r,O,rfl⟩:=Ac.mp hp;exact h1 r O
   refine⟨(Fd.refl F).same sF,q0b,⟨kp' W _ o3 o4 h9,(fun _ h=>nomatch h)⟩,⟨by rw[q0d i3.symm];exact d0.at_,e0,d0.len,fun y hy=>?_⟩,by lia,⟨(fun _ h=>nomatch h),.nil⟩,?_,og,og⟩
   ·obtain⟨c,e1,e2⟩:=d0.pk y hy;exact⟨c,k4 e1,k4 e2⟩
   ·show((rows.map (·.1)).map fun p=>fold bl p).Nodup;rw[An];exact hl.nd
  generalize upd H4 m (dR (rows.map rR))=H5 at I0;clear e6 d0 kp kl h1 h2 h8 h9 i1 s3' s3 g2 g1 s2 c9 s1 rl;refine⟨_,rfl,_,rfl,a,b,_,rfl,I0.fd.feed,by lia,by lia,fun r0 H6 r8 r9 a5=>.inl ⟨_,_,rfl,rfl,?_⟩⟩;have I1:=I0.go a5 a8;refine⟨1+r0,rfl,by lia,by lia,q4v (n:=(1+r0).toNat) (fun i J R=>∃ps U x7 x8 x9 c4 X b7 b8 Y a0 a3,J=[some (.ref a),some (.ref L),some (.bl bl),some (.int n),some (.ref m),some (.ref W),some (.ref t),x7,x8,x9,c4,X,b7,b8,Y,a0,a3]/\GWI P w H a b m W t bl rows i R ps U/\i<=(1+r0).toNat) ⟨[],U,_,_,_,_,_,_,_,_,_,_,rfl,I1,Bf _⟩ ?_ ?_⟩
  ·clear I1 I0 a5;rintro i J H1 hi ⟨ps,U,x7,x8,x9,c4,X,b7,b8,Y,a0,a3,rfl,I1,_⟩;refine⟨_,rfl,m,_,rfl,I1.m,by rw[Aa];lia,fun r O=>?_,fun L2 bs qs o5 e8 o6 k5=>?_⟩
   ·obtain⟨y,hy,rfl⟩:=Ac.mp O;exact(g0 y hy).ne
   obtain⟨ys,y1,y2,y3⟩:=x1e k5;have k6:(rows.map rR).map (·.1)=rows.map (·.1):=by rw[An];rfl
   rw[k6] at e8;rw[y1];have s2:=(Same.refl H1).new (o:=.lst (ys.map fun z=>V.ref z.1)) o5;have k7:∀y∈ys,y.2∈rows.map (·.1):=fun y hy=>e8.mem_iff.mp (by rw[<- y2];exact Ac.mpr ⟨y,hy,rfl⟩);have k8:(ys.map (·.2)).Nodup:=by rw[y2];exact e8.nodup_iff.mpr hl.paths
   have k9:∀y∈ys,okP y.2:=fun y hy=>by
    obtain⟨r,O,e⟩:=Ac.mp (k7 y hy);rw[<- e];exact g0 r O
   have h0:ys.length<=30:=by
    have e1:=congrArg List.length y2;have e2:=e8.length_eq;rw[Aa] at e1 e2;lia
   have hL2':upd H1 L2 (.lst (ys.map fun z=>V.ref z.1)) L2=some (.lst (ys.map fun z=>V.ref z.1)):=q0b;have g5:∀y∈ys,upd H1 L2 (.lst (ys.map fun z=>V.ref z.1)) y.1=some (.tup (vP y.2)):=fun y hy=>s2 _ _ (y3 y hy);have I2:=I1.same s2;generalize upd H1 L2 (.lst (ys.map fun z=>V.ref z.1))=H2 at s2 hL2' g5 I2;clear y3 k5 y1 e8 o6 I1 s2 y2;have o7:((ps.map (·.2)).map (·.1)).Nodup:=I2.gw.nd;refine .inl ⟨L2,rfl,⟨_,SqL.of hL2'⟩,fun Dc g6=>?_⟩;refine q1i (fun j vs R=>∃ds:List (Addr×Pth),vs=ds.map (fun z=>V.ref z.1)/\Same H2 R/\R Dc=some (.lst vs)/\ds.Sublist (ys.take j)/\j<=ys.length/\∀z∈ds,z.2∉(ps.map (·.2)).map (·.1)) ⟨[],rfl,(Same.refl H2).new g6,q0b,Qp _,Bf _,(fun _ h=>nomatch h)⟩ (fun j vs R h=>by obtain⟨ds,_,s',h',_⟩:=h;exact⟨h',SqL.of (s' _ _ hL2')⟩) ?_ ?_
   ·rintro j vs H3 v hv ⟨ds,rfl,s3,b0,g,_,b1⟩;obtain⟨y,hy,rfl⟩:=gR0 hv
    have hj:j<ys.length:=(Af.mp hy).1;have c5:=Ah hy;have a6:ys.take (j+1)=ys.take j++[y]:=by rw[Br,hy];rfl
    have h4:ds.length<=30:=by have:=g.length_le;rw[Bp] at this;lia
    rcases(I2.wd.same s3).get o7 (s3 _ _ (g5 y c5)) with⟨hn,dg⟩|⟨z,B,ez,dg,_⟩
    ·refine⟨q0u,_,rfl,_,rfl,W,_,rfl,dg,_,rfl,iteT ?_⟩;refine⟨_,rfl,b0,small' (by rw[Aa];lia),ds++[y],by rw[Ae];rfl,s3.put g6,q0b,by rw[a6];exact Og g (Mb _),hj,fun z B=>?_⟩;rcases Ar.mp B with B|B
     ·exact b1 z B
     ·rw[Aj.mp B];exact hn
    ·refine⟨q0u,_,rfl,_,rfl,W,_,rfl,dg,_,rfl,iteF ?_⟩;exact⟨ds,rfl,s3,b0,by rw[a6];exact g.trans (Lk _ _),hj,b1⟩
   rintro vs H3 ⟨lf,rfl,s3,l0,g,_,l1⟩;rw[Aa,Ba] at g;have i4:∀z∈lf,z∈ys:=fun z B=>g.subset B;have l2:(lf.map (·.2)).Nodup:=k8.sublist (g.map _);have h5:lf.length<=30:=Ce g.length_le h0;have I3:=I2.same s3;have f0:PL H3 Dc lf:=⟨l0,fun z B=>⟨s3 _ _ (g5 z (i4 z B)),k9 z (i4 z B)⟩⟩
   have h6:Dc≠a:=(I2.fd.feed.na g6).symm;have i5:∀z∈lf,z.2∈rows.map (·.1)/\z.2∉(ps.map (·.2)).map (·.1):=fun z B=>⟨k7 z (i4 z B),l1 z B⟩
   clear l0 g l1 g5 hL2' s3 g6 I2 k8 k9 h0;refine⟨_,rfl,.inl ⟨Dc,rfl,⟨_,SqL.of f0.at_⟩,fun S hS=>?_⟩⟩;refine q1i (fun j vs R=>∃ds:List (Addr×Pth),vs=ds.map (fun z=>V.ref z.1)/\Same H3 R/\R S=some (.lst vs)/\ds.Sublist (lf.take j)/\j<=lf.length/\∀z∈ds,∃k,(z.2,k)∈rows/\k≠none) ⟨[],rfl,(Same.refl H3).new hS,q0b,Qp _,Bf _,(fun _ h=>nomatch h)⟩ (fun j vs R h=>by obtain⟨ds,_,s',h',_⟩:=h;exact⟨h',SqL.of (s' _ _ f0.at_)⟩) ?_ ?_
   ·rintro j vs H4 v hv ⟨ds,rfl,s4,b0,g,_,b1⟩;obtain⟨y,hy,rfl⟩:=gR0 hv
    have hj:j<lf.length:=(Af.mp hy).1;have c5:=Ah hy;have a6:lf.take (j+1)=lf.take j++[y]:=by rw[Br,hy];rfl
    have h4:ds.length<=30:=by have:=g.length_le;rw[Bp] at this;lia
    obtain⟨r,O,er⟩:=Ac.mp (i5 y c5).1;have l3:(y.2,r.2)∈rows:=by rw[<- er];exact O
    refine⟨q0u,_,rfl,_,rfl,m,mV r.2,rfl,?_,_,rfl,?_⟩
    ·rw[<- q6j hl.paths l3];exact q5y (s4 _ _ I3.m) (s4 _ _ (f0.pr y c5).1)
    refine iteB (fun e=>?_) (fun e=>⟨ds,rfl,s4,b0,by rw[a6];exact g.trans (Lk _ _),hj,b1⟩);have hn:r.2≠none:=fun y=>by rw[y] at e;cases e
    refine⟨_,rfl,b0,small' (by rw[Aa];lia),ds++[y],by rw[Ae];rfl,s4.put hS,q0b,by rw[a6];exact Og g (Mb _),hj,fun z B=>?_⟩;rcases Ar.mp B with B|B
    ·exact b1 z B
    ·rw[Aj.mp B];exact⟨r.2,l3,hn⟩
   rintro vs H4 ⟨sm,rfl,s4,l4,g,_,l5⟩;rw[Aa,Ba] at g;have I4:=I3.same s4;have c6:=f0.same s4;have d5:PL H4 S sm:=⟨l4,fun z B=>c6.pr z (g.subset B)⟩
   have f1:SomeOk rows (ps.map (·.2)) (sm.map (·.2)):=⟨l2.sublist (g.map _),fun z B=>by obtain⟨y,hy,rfl⟩:=Ac.mp B;exact i5 y (g.subset hy),.inl fun z B=>by obtain⟨y,hy,rfl⟩:=Ac.mp B;exact l5 y hy⟩
   have g7:sm.length<=30:=Ce g.length_le h5;have d6:S≠a:=(I3.fd.feed.na hS).symm;clear l4 g l5 s4 hS I3 f0;refine⟨fun J R=>∃S sm x7 X,J=[some (.ref a),some (.ref L),some (.bl bl),some (.int n),some (.ref m),some (.ref W),some (.ref t),x7,some (.int (0+(i:Int))),some (.ref Dc),some (.ref S),X,b7,b8,Y,a0,a3]/\GWI P w H a b m W t bl rows i R ps U/\PL R S sm/\SomeOk rows (ps.map (·.2)) (sm.map (·.2))/\sm.length<=30/\S≠a,?_,?_⟩;rotate_left
   ·refine⟨fun bb R=>GWI P w H a b m W t bl rows i R ps U/\PL R Dc lf/\PL R S sm/\(bb=true->lf≠[]),?_,?_⟩
    ·rintro bb H5 ⟨I5,l6,f2,hb⟩;refine ite2 (fun e=>?_) (fun e=>⟨S,sm,_,_,rfl,I5,f2,f1,g7,d6⟩);have r2:=Bw.mpr (hb e);refine⟨_,rfl,_,rfl,_,rfl,_,_,rfl,.inl ⟨_,SqL.of l6.at_,rfl⟩,a,b,_,rfl,I5.fd.feed,by rw[Aa];lia,by rw[Aa];lia,fun r1 H6 o8 o9 a5=>?_⟩;rw[Aa] at o9;have I6:=I5.go a5 a8;have f3:=l6.fd I5.fd.feed a5 h6;obtain⟨y,c5,i6⟩:=f3.get o8 (by lia);have b2:=(f3.pr y c5).2;obtain⟨c1,c2⟩:=q1h b2.ne;refine .inl ⟨Dc,_,r1,_,rfl,rfl,SqL.of f3.at_,i6,_,rfl,_,rfl,.inr (.inr ⟨y.1,_,rfl,SqT.of (f3.pr y c5).1,c2,fun t1 e7=>?_⟩)⟩;rw[c1];have s7:=(Same.refl H6).new (o:=.tup (vP y.2.dropLast)) e7;have l8:upd H6 t1 (.tup (vP y.2.dropLast)) t1=some (.tup (vP y.2.dropLast)):=q0b;have I7:=I6.same s7;have f4:=f3.same s7;generalize upd H6 t1 (.tup (vP y.2.dropLast))=H7 at s7 l8 I7 f4;refine⟨_,rfl,.inl ⟨Dc,rfl,⟨_,SqL.of f4.at_⟩,fun S2 i7=>?_⟩⟩;refine q1i (fun j vs R=>∃ds:List (Addr×Pth),vs=ds.map (fun z=>V.ref z.1)/\Same H7 R/\R S2=some (.lst vs)/\ds.Sublist (lf.take j)/\j<=lf.length/\∀z∈ds,z.2.dropLast=y.2.dropLast) ⟨[],rfl,(Same.refl H7).new i7,q0b,Qp _,Bf _,(fun _ h=>nomatch h)⟩ (fun j vs R h=>by obtain⟨ds,_,s',h',_⟩:=h;exact⟨h',SqL.of (s' _ _ f4.at_)⟩) ?_ ?_
     ·rintro j vs H8 v hv ⟨ds,rfl,s8,b0,g,_,b1⟩;obtain⟨x,hx,rfl⟩:=gR0 hv
      have hj:j<lf.length:=(Af.mp hx).1;have p0:=Ah hx;have a6:lf.take (j+1)=lf.take j++[x]:=by rw[Br,hx];rfl
      have h4:ds.length<=30:=by have:=g.length_le;rw[Bp] at this;lia
      obtain⟨p1,l9⟩:=f4.pr x p0;obtain⟨d1,d2⟩:=q1h l9.ne;refine⟨q0u,_,rfl,_,rfl,_,rfl,.inr (.inr ⟨x.1,_,rfl,SqT.of (s8 _ _ p1),d2,fun u1 p2=>?_⟩)⟩;rw[d1];have s9:=(Same.refl H8).new (o:=.tup (vP x.2.dropLast)) p2;have i8:=s8.trans s9;refine⟨_,rfl,q2g q0b (i8 _ _ l8) (q2n l9.low) (q2n b2.low) ⟨_,rfl,iteB (fun e=>?_) (fun e=>⟨ds,rfl,i8,s9 _ _ b0,by rw[a6];exact g.trans (Lk _ _),hj,b1⟩)⟩⟩;refine⟨_,rfl,s9 _ _ b0,small' (by rw[Aa];lia),ds++[x],by rw[Ae];rfl,i8.put i7,q0b,by rw[a6];exact Og g (Mb _),hj,fun z B=>?_⟩;rcases Ar.mp B with B|B
      ·exact b1 z B
      ·rw[Aj.mp B];exact of_decide_eq_true e
     ·rintro vs H8 ⟨ds,rfl,s8,b0,g,_,b1⟩;rw[Aa,Ba] at g;refine⟨S2,ds,_,_,rfl,I7.same s8,⟨b0,fun z B=>(f4.same s8).pr z (g.subset B)⟩,⟨l2.sublist (g.map _),fun z B=>by obtain⟨x,hx,rfl⟩:=Ac.mp B;exact i5 x (g.subset hx),.inr ⟨y.2.dropLast,fun z B=>by obtain⟨x,hx,rfl⟩:=Ac.mp B;exact b1 x hx⟩⟩,Ce g.length_le h5,(I7.fd.feed.na i7).symm⟩
    ·refine⟨_,rfl,by show 0<=sizeLine;decide,fun E1 f5=>?_⟩;have sE:=(Same.refl H4).new (o:=.lst []) f5;refine z4h (c6.same sE).at_ (fun z B=>((c6.same sE).pr z B).1) q0b (fun z B=>(c6.pr z B).2.low) ⟨_,rfl,iteB (fun e=>?_) (fun e=>⟨I4.same sE,c6.same sE,d5.same sE,(fun z=>by cases z)⟩)⟩;have a4:lf≠[]:=by simpa using e
     have IE:=I4.same sE;exact⟨_,rfl,a,b,_,rfl,IE.fd.feed,by decide,by decide,fun r1 H6 _ _ a5=>.inl ⟨rfl,_,rfl,IE.go a5 a8,(c6.same sE).fd IE.fd.feed a5 h6,(d5.same sE).fd IE.fd.feed a5 d6,fun _=>a4⟩⟩
   clear I4 c6 d5 f1 g7 d6 S sm;rintro J H4 ⟨S,sm,x7,X,rfl,I4,d5,f1,g7,d6⟩;refine⟨_,rfl,_,rfl,_,rfl,a,b,_,rfl,I4.fd.feed,by decide,by decide,fun r1 H5 _ _ i9=>.inl ⟨_,_,rfl,rfl,?_⟩⟩;have I5:=I4.go i9 a8;have f2:=d5.fd I4.fd.feed i9 d6;refine⟨Pth,GP,a,b,S,sm,1+r1,gg_P,rfl,I5.fd.feed,⟨f2.at_,f2.pr⟩,by lia,fun M G zr H6 a5 hM j0 j1 _=>?_⟩;have I6:=I5.go a5 a8;have m0:PL H6 M G:=⟨j0.at_,j0.pr⟩
   have g8:M≠a:=(I5.fd.feed.na hM).symm;have b5:SomeOk rows (ps.map (·.2)) (G.map (·.2)):=f1.sub (r:=zr.map (·.2)) (by rw[<- Ae];exact j1.map _);have zl:G.length<=30:=by have:=j1.length_eq;rw[Al] at this;lia
   clear j0 j1 hM a5 f2 I5 i9 d5 f1 I4 g7 d6;refine⟨_,rfl,a,b,_,rfl,I6.fd.feed,by decide,by decide,fun wy H7 w0 w1 j3=>?_⟩;have I7:=I6.go j3 a8;have b3:=m0.fd I6.fd.feed j3 g8;clear m0 I6 j3;have m1:∀z∈G,hasP U (keyO bl z.2)=true:=fun z B=>I7.og _ (b5.un z.2 (Ac.mpr ⟨z,B,rfl⟩)).1;refine⟨fun J R=>∃b4,J=[some (.ref a),some (.ref L),some (.bl bl),some (.int n),some (.ref m),some (.ref W),some (.ref t),x7,some (.int (0+(i:Int))),some (.ref Dc),some (.ref M),X,some (.int wy),some b4,Y,a0,a3]/\GWI P w H a b m W t bl rows i R ps U/\PL R M G/\(b4=.non\/∃z,G.head?=some z/\b4=.ref z.1/\wy=0),?_,?_⟩;rotate_left
   ·refine⟨fun bb R=>GWI P w H a b m W t bl rows i R ps U/\PL R M G/\(bb=true->G≠[]/\wy=0),?_,?_⟩
    ·rintro bb H8 ⟨I8,a7,hb⟩;refine ite2 (fun e=>?_) (fun e=>⟨_,rfl,I8,a7,.inl rfl⟩);obtain⟨a4,rfl⟩:=hb e;obtain⟨z,d7,rfl⟩:∃z d7,G=z::d7:=by
      cases G with
      |nil=>exact absurd rfl a4
      |cons z d7=>exact⟨z,d7,rfl⟩
     have i6:atI ((z::d7).map fun z=>V.ref z.1) 0=some (.ref z.1):=by
      obtain⟨v,h1,h2⟩:=q7z (xs:=(z::d7).map fun z=>V.ref z.1) (i:=0) (by decide) (by rw[Aa,Cg];lia);cases h1;exact h2
     exact⟨_,rfl,.inl ⟨M,_,0,_,rfl,rfl,SqL.of a7.at_,i6,_,rfl,I8,a7,.inr ⟨z,rfl,rfl,rfl⟩⟩⟩
    ·refine⟨_,rfl,by show 0<=sizeLine;decide,fun E1 f5=>?_⟩;have sE:=(Same.refl H7).new (o:=.lst []) f5;have b6:=b3.same sE;refine z4h b6.at_ (fun z B=>(b6.pr z B).1) q0b (fun z B=>(b3.pr z B).2.low) ⟨_,rfl,iteB (fun e=>?_) (fun e=>⟨I7.same sE,b6,(fun z=>by cases z)⟩)⟩;have a4:G≠[]:=by simpa using e
     exact⟨_,rfl,.inl ⟨rfl,_,rfl,I7.same sE,b6,fun e2=>⟨a4,by simpa using e2⟩⟩⟩
   clear I7 b3;rintro J H7 ⟨b4,rfl,I7,b3,c7⟩;refine⟨fun J R=>∃b4 U,J=[some (.ref a),some (.ref L),some (.bl bl),some (.int n),some (.ref m),some (.ref W),some (.ref t),x7,some (.int (0+(i:Int))),some (.ref Dc),some (.ref M),X,some (.int wy),some b4,Y,a0,a3]/\GWI P w H a b m W t bl rows (i+1) R ps U/\PL R M G/\(b4=.non\/∃e q,b4=.ref e/\R e=some (.tup (vP q))/\G≠[]/\LastOk bl rows (ps.map (·.2)) U (G.map (·.2)) q),?_,?_⟩;rotate_left
   ·refine⟨fun bb R=>GWI P w H a b m W t bl rows i R ps U/\PL R M G/\(bb=true->G≠[]),?_,?_⟩
    ·rintro bb H8 ⟨I8,a7,hb⟩;refine ite2 (fun e=>?_) (fun e=>⟨_,U,rfl,I8.up,a7,c7.imp id fun⟨z,B,e2,_⟩=>?_⟩)
     ·have a4:=hb e;obtain⟨z,B⟩:∃z,G.getLast?=some z:=⟨_,Bh a4⟩
      have d8:=Ee B;obtain⟨p4,_⟩:=a7.pr z d8;obtain⟨r,O,er⟩:=Ac.mp (b5.un z.2 (Ac.mpr ⟨z,d8,rfl⟩)).1;have m2:(z.2,r.2)∈rows:=by rw[<- er];exact O
      refine⟨_,rfl,_,rfl,_,rfl,_,rfl,.inl ⟨M,_,-1,_,rfl,rfl,SqL.of a7.at_,z0b (by rw[Eo,B];rfl),?_⟩⟩;refine⟨_,rfl,_,rfl,a,b,m,z.1,t,bl,rows,z.2,r.2,U,rfl,I8.fd.feed,I8.m,hl,o0,p4,m2,I8.tk,a8,by have:=I8.kl;lia,fun H9 f6=>?_,fun e9 q kb H9 j4 f6 d3 pk m3 dq p5 c0 he=>?_⟩
      ·exact⟨_,U,rfl,(I8.go f6 a8).up,a7.fd I8.fd.feed f6 g8,.inl rfl⟩
      ·have I9:=I8.go f6 a8;have j5:=a7.fd I8.fd.feed f6 g8;have d9:=(I9.take F i0 (by lia) pk).same c0;have nt:∀{c:Addr} {u:HO},H9 c=some u->(∀f,u≠.ext f)->upd H9 t (PdO P w t (U++[(keyO bl q,kb)])) c=some u:=fun{c u} e n=>by
        rw[q0d (fun z=>by rw[z,I9.tk.at_] at e;cases e;exact n _ rfl)];exact e
       have c3:PL j4 M G:=⟨c0 _ _ (nt j5.at_ (fun _ z=>by cases z)),fun x hx=>⟨c0 _ _ (nt (j5.pr x hx).1 (fun _ z=>by cases z)),(j5.pr x hx).2⟩⟩
       refine⟨_,_,rfl,d9,c3,.inr ⟨e9,q,rfl,he,a4,m3,q9u,.inr ⟨fun p hp e2=>?_,dq,fun one h1=>?_⟩⟩⟩
       ·have h3:=I8.cv p hp;rw[q9t (q1l hl I8.gw hp).ne m3.ne e2] at h3;rw[h3] at d3;cases d3
       ·rw[Eo,B] at h1;cases h1;exact⟨r.2,m2,p5⟩
     ·have d8:z∈G:=Sk B;refine⟨z.1,z.2,e2,(a7.pr z d8).1,fun y=>by(rw[y] at B;cases B),(a7.pr z d8).2,m1 z d8,.inl ?_⟩;rw[List.head?_map,B];rfl
    ·refine⟨_,rfl,by show 0<=sizeLine;decide,fun E1 f5=>?_⟩;have sE:=(Same.refl H7).new (o:=.lst []) f5;have b6:=b3.same sE;refine z4h b6.at_ (fun z B=>(b6.pr z B).1) q0b (fun z B=>(b3.pr z B).2.low) ⟨_,rfl,iteB (fun e=>?_) (fun e=>⟨I7.same sE,b6,(fun z=>by cases z)⟩)⟩;have a4:G≠[]:=by simpa using e
     exact⟨_,rfl,_,_,rfl,rfl,_,rfl,I7.same sE,b6,fun _=>a4⟩
   clear I7 b3 c7 m1 b4 U;rintro J H7 ⟨b4,U,rfl,I7,b3,c7⟩;have m4:i+1<=(1+r0).toNat:=hi;rcases c7 with rfl|⟨e,q,rfl,he,a4,lo⟩
   ·exact⟨_,rfl,_,rfl,iteF ⟨ps,U,_,_,_,_,_,_,_,_,_,_,rfl,I7,m4⟩⟩
   refine⟨_,rfl,_,rfl,iteT ?_⟩;have r3:=Bw.mpr a4;refine .inr ⟨_,rfl,_,rfl,_,rfl,.inr (.inl ⟨M,_,rfl,SqL.of b3.at_,fun L5 p6=>?_⟩)⟩;have ec:cutV (G.map fun z=>V.ref z.1) (some 1) none=(G.drop 1).map fun z=>V.ref z.1:=by
    rw[q7n (by decide) (by rw[Aa];lia),Ja];rfl
   rw[ec];have s8:=(Same.refl H7).new (o:=.lst ((G.drop 1).map fun z=>V.ref z.1)) p6;have m5:upd H7 L5 (.lst ((G.drop 1).map fun z=>V.ref z.1)) L5=some (.lst ((G.drop 1).map fun z=>V.ref z.1)):=q0b;generalize upd H7 L5 (.lst ((G.drop 1).map fun z=>V.ref z.1))=H8 at s8 m5;refine⟨_,rfl,by show 1<=sizeLine;decide,fun L6 p7=>?_⟩;have s9:=(Same.refl H8).new (o:=.lst [.ref e]) p7;have m6:upd H8 L6 (.lst [.ref e]) L6=some (.lst [.ref e]):=q0b;generalize upd H8 L6 (.lst [.ref e])=H9 at s9 m6;refine .inr (.inr ⟨L5,L6,_,_,rfl,rfl,s9 _ _ m5,m6,small (by rw[Aa,Dx];show _+1<=_;lia),fun L7 m7=>?_⟩);have p8:((G.drop 1).map fun z=>V.ref z.1)++[.ref e]=(G.drop 1++[(e,q)]).map fun z=>V.ref z.1:=by rw[Ae];rfl
   rw[p8];have s10':=(Same.refl H9).new (o:=.lst ((G.drop 1++[(e,q)]).map fun z=>V.ref z.1)) m7;have c8:upd H9 L7 (.lst ((G.drop 1++[(e,q)]).map fun z=>V.ref z.1)) L7=some (.lst ((G.drop 1++[(e,q)]).map fun z=>V.ref z.1)):=q0b;have c0:=(s8.trans s9).trans s10';have m8:L7≠a:=((I7.same (s8.trans s9)).fd.feed.na m7).symm;generalize upd H9 L7 (.lst ((G.drop 1++[(e,q)]).map fun z=>V.ref z.1))=j4 at s10' c8 c0;have d9:=I7.same c0;have c3:=b3.same c0;have Z0:ZI P w H a b m W t M L7 bl rows G (G.drop 1++[(e,q)]) ps U 0 j4 []:=⟨d9.fd,d9.m,by rw[Du];exact d9.wd,d9.tk,c3,c8,fun x hx=>by
    rcases Ar.mp hx with hx|hx
    ·exact c3.pr x (Kg hx)
    ·rw[Aj.mp hx];exact⟨c0 _ _ he,lo.ok⟩,rfl,rfl,(fun _ h=>nomatch h)⟩
   have f7:(G.drop 1++[(e,q)]).length=G.length:=by rw[Al,Dx];show _+1=_;lia
   generalize m9:G.drop 1++[(e,q)]=f8 at Z0 f7 c8;refine⟨M,L7,_,_,rfl,SqL.of c3.at_,SqL.of c8,x0c (xs:=G.map fun z=>V.ref z.1) (ys:=f8.map fun z=>V.ref z.1) (fun j J R=>∃nw Y a0 a3,J=[some (.ref a),some (.ref L),some (.bl bl),some (.int n),some (.ref m),some (.ref W),some (.ref t),x7,some (.int (0+(i:Int))),some (.ref Dc),some (.ref M),X,some (.int wy),some (.ref e),Y,a0,a3]/\ZI P w H a b m W t M L7 bl rows G f8 ps U j R nw) ⟨[],_,_,_,rfl,Z0⟩ (fun j J R x=>by obtain⟨_,_,_,_,_,Z⟩:=x;exact⟨SqL.of Z.pz.at_,SqL.of Z.l7⟩) ?_ ?_⟩
   ·rintro j v v' T' J j6 hv p9 ⟨nw,Y,a0,a3,rfl,Z⟩ hT;obtain⟨z,B,rfl⟩:=gR0 hv
    obtain⟨y,hy,rfl⟩:=gR0 p9
    have sT:=(Same.refl j6).new (o:=.tup [.ref z.1,.ref y.1]) hT;refine⟨T',_,rfl,SqT.of q0b,rfl,_,_,rfl,_,_,rfl,rfl,?_⟩;have Z1:=Z.same sT;generalize upd j6 T' (.tup [.ref z.1,.ref y.1])=s0 at Z1;clear Z sT;obtain⟨q1,b2⟩:=Z1.pp y (Ah hy);refine⟨_,rfl,_,rfl,.inr (.inl ⟨y.1,_,-1,_,rfl,rfl,SqT.of q1,q4o b2.ne,?_⟩)⟩;have n1:=q2w b2;refine⟨fun J R=>∃nm,J=[some (.ref a),some (.ref L),some (.bl bl),some (.int n),some (.ref m),some (.ref W),some (.ref t),x7,some (.int (0+(i:Int))),some (.ref Dc),some (.ref M),X,some (.int wy),some (.ref e),some (.ref z.1),some (.ref y.1),some (.str (mk nm))]/\ZI P w H a b m W t M L7 bl rows G f8 ps U j R nw/\okN nm/\(if bl then lowN nm=lowN (y.2.getLastD []) else nm=y.2.getLastD []),?_,?_⟩;rotate_left
    ·refine⟨_,rfl,bl,rfl,?_⟩;cases bl with
     |false=>exact iteF ⟨_,rfl,Z1,n1,rfl⟩
     |true =>
      refine iteT ⟨_,rfl,_,rfl,a,b,_,rfl,Z1.fd.feed,n1,fun n' g9 okn q3 n2=>?_⟩;exact⟨n',rfl,Z1.go n2 a8 g8 m8,okn,q3⟩
    rintro J g9 ⟨nm,rfl,Z2,okn,q4⟩;have n3:=(Z2.pp y (Ah hy)).1;obtain⟨c1,c2⟩:=q1h b2.ne;refine⟨_,rfl,_,rfl,_,rfl,.inr (.inr ⟨y.1,_,rfl,SqT.of n3,c2,fun t1 e7=>?_⟩)⟩;rw[c1];have sA:=(Same.refl g9).new (o:=.tup (vP y.2.dropLast)) e7;have n4:upd g9 t1 (.tup (vP y.2.dropLast)) t1=some (.tup (vP y.2.dropLast)):=q0b;generalize upd g9 t1 (.tup (vP y.2.dropLast))=HA at sA n4;refine⟨_,rfl,by show 1<=sizeLine;decide,fun t2 q5=>?_⟩;have sB:=(Same.refl HA).new (o:=.tup [.str (mk nm)]) q5;have y6:y.2.length<=6:=b2.few;refine⟨t1,t2,_,_,rfl,rfl,sB _ _ n4,q0b,by rw[q1b,Cc];exact small (by show _+1<=_;lia),fun e2 HC sC q6 _=>?_⟩;have he2':HC e2=some (.tup (vP (y.2.dropLast++[nm]))):=by rw[q6];show _=some (HO.tup ((y.2.dropLast++[nm]).map _));rw[Ae];rfl
    have ZC:=Z2.same ((sA.trans sB).trans sC);have okp:okP (y.2.dropLast++[nm]):=by
     refine⟨by simp,by rw[Al,Cc];show _+1<=6;have:=Bw.mpr b2.ne;lia,fun x hx=>?_⟩;rcases Ar.mp hx with hx|hx
     ·exact b2.all x (Ob _ hx)
     ·rw[Aj.mp hx];exact okn
    have q7:=(ZC.pz.pr z (Ah B)).1;have d3:∀r∈((ps++nw).map fun x=>((x.2.1,.ref x.1):HRow)),r.1≠z.2:=fun r O e3=>by
     obtain⟨x,hx,rfl⟩:=Ac.mp O;rcases Ar.mp hx with hx|hx
     ·refine(b5.un z.2 (Ac.mpr ⟨z,Ah B,rfl⟩)).2 ?_;rw[An];exact Ac.mpr ⟨x,hx,e3⟩
     ·have h1:z.2∈(G.map (·.2)).take j:=by rw[<- ZC.ky];exact Ac.mpr ⟨x,hx,e3⟩
      obtain⟨j2,d4⟩:=Bg.mp h1;have j7:j2<j:=by have:=(Af.mp d4).1;rw[Bp] at this;lia
      rw[Uj,if_pos j7] at d4;have h3:(G.map (·.2))[j]?=some z.2:=by rw[Ak,B];rfl
      have:=(Ma (Af.mp d4).1 b5.nd).mp (d4.trans h3.symm);lia
    have t0:(ps++nw).length<=60:=by
     have e1:=congrArg List.length ZC.ky;have e2:=I7.gw.len;rw[Aa] at e2;rw[Aa,Bp,Aa] at e1;rw[Al];lia
    refine⟨_,rfl,_,rfl,W,_,rfl,DPut.t (k:=kP z.2) ZC.wd.at_ (by rw[q3a];exact q7) (by rw[Aa,Aa];exact small' (by lia)),?_⟩;rw[q4b (p:=z.2) (v:=.ref e2) d3];have hg:(y.2.dropLast++[nm]).getLastD []=nm:=Fy;refine⟨_,_,_,_,rfl,ZC.put (one:=z.2) F j9 o1 B hy he2' okp (by rw[Co]) ?_⟩;refine(q4m okp.ne b2.ne).mpr ⟨by rw[Co],?_⟩;rw[hg];exact q4
   ·rintro J j6 ⟨nw,Y,a0,a3,rfl,Z⟩;have n5:min (G.map fun z=>V.ref z.1).length (f8.map fun z=>V.ref z.1).length=G.length:=by rw[Aa,Aa,f7,Ud]
    rw[n5] at Z;have q8:nw.map (·.2.1)=G.map (·.2):=by have:=Z.ky;rw[<- Aa (f:=fun z:Addr×Pth=>z.2),Ba] at this;exact this
    have n6:f8.map (·.2)=(G.map (·.2)).tail++[q]:=by
     rw[<- m9,Ae,Ja,List.drop_one];rfl
    have q9:nw.map (fun y=>(y.2.2.dropLast,fold bl y.2.2))=((G.map (·.2)).tail++[q]).map (fun p=>(p.dropLast,fold bl p)):=by
     have:=Z.vl;rw[<- f7,<- Aa (f:=fun z:Addr×Pth=>z.2),Ba,n6] at this;exact this
    have j8:∀p∈G.map (·.2),IsD rows p.dropLast:=fun p hp=>by
     obtain⟨r,O,e2⟩:=Ac.mp (b5.un p hp).1;rw[<- e2];exact hl.dr r O
    have n7:∀p∈G.map (·.2),∀one∈G.map (·.2),∃k,(one,k)∈rows/\(p.dropLast=one.dropLast\/k≠none):=fun p hp one ho=>by
     rcases b5.go with h|⟨d,h⟩
     ·obtain⟨k,hk,hn⟩:=h one ho;exact⟨k,hk,.inr hn⟩
     ·obtain⟨r,O,e2⟩:=Ac.mp (b5.un one ho).1;exact⟨r.2,by rw[<- e2];exact O,.inl (by rw[h p hp,h one ho])⟩
    have T1:Turn1 bl rows (ps.map (·.2)) (nw.map (·.2)) (G.map (·.2)) q:=by
     refine⟨fun z=>a4 (Km.mp z),b5.nd,b5.un,by rw[An];exact q8,by rw[An];exact q9,fun m hm=>?_,fun i2 one q2 h1 h2=>?_⟩
     ·obtain⟨y,hy,rfl⟩:=Ac.mp hm;exact Z.ok y hy
     ·have ho:=Ah h1;have f9:q2∈G.map (·.2)->IsD rows q2.dropLast/\∃k,(one,k)∈rows/\(q2.dropLast=one.dropLast\/k≠none):=fun n8=>⟨j8 q2 n8,n7 q2 n8 one ho⟩
      by_cases j7:i2<(G.map (·.2)).tail.length
      ·rw[Bq j7] at h2;exact f9 (Sz (Ah h2))
      ·have e3:i2=(G.map (·.2)).tail.length:=by
        have:=(Af.mp h2).1;rw[Al] at this;have e4:i2<(G.map (·.2)).tail.length+1:=this;lia
       rw[e3,Cd (Au _),Uk] at h2;cases h2;rcases lo.or with h|⟨_,hd,hf⟩
       ·exact f9 (Sk h)
       ·refine⟨hd,hf one ?_⟩;rw[Cz,<- h1,e3,List.length_tail]
    have em:(ps++nw).map (·.2)=ps.map (·.2)++nw.map (·.2):=Ae;refine⟨ps++nw,U,_,_,_,_,_,_,_,_,_,_,rfl,⟨Z.fd,Z.m,Z.wd,Z.tk,I7.kl,by rw[em];exact T1.good I7.gw,?_,I7.og,?_⟩,m4⟩
    ·rw[em];rcases lo.or with h|⟨h,_⟩
     ·exact T1.ring hl.paths I7.ap h
     ·exact T1.chain hl.paths I7.ap h
    ·rw[em];exact T1.cov hl I7.gw (fun h=>h) I7.og I7.cv lo.ok.ne lo.kq
  ·rintro J H7 ⟨ps,U,x7,x8,x9,c4,X,b7,b8,Y,a0,a3,rfl,I,_⟩;exact⟨_,rfl,k W ps H7 I.fd j9 I.wd I.gw I.ap⟩
end
end K
set_option maxHeartbeats 4000000
namespace K
open PySem L2 TX SB HM
section
variable{P:Ay}{w:World}{K:Aq}{mg:Str->Option Value}{base:Heap}
noncomputable def okMs(ms:List Mv):Prop:=∀m∈ms,okP m.1/\okP m.2
theorem ne_dt{H:Hp}{x y:V}{d:Cw}{Q:VK}(e:Dt K H x d)(f:Dt K H y d)(l:d.canLay0=true)(dp:d.depth<=100)(k:Q (.bl false) H):rNeU K x y H Q:=by
 refine .inr ⟨_,_,e,f,l,l,by rw[Ud];exact dp,?_⟩;rw[SeqAt.eqv_refl _ l];exact k
noncomputable def dM(m:Mv):Cw:=.tuple [.tuple (dP m.1),.tuple (dP m.2)]
theorem dt_M{H:Hp}{T:Addr}{m:Mv}(h:MT H T m):Dt K H (.ref T) (dM m):=by
 obtain⟨A,B,e,f,g⟩:=h;exact .tup (SqT.of e) (.cons (q2d f) (.cons (q2d g) .nil))
theorem lay_M{m:Mv}(h:okP m.1/\okP m.2):(dM m).canLay0=true:=by
 unfold dM;simp only[Fe,Cf,q7e h.1.low,q7e h.2.low,Pf]
noncomputable def GM(H:Hp)(T:Addr)(m:Mv):Prop:=MT H T m/\okP m.1/\okP m.2
theorem gg_M:GG K GM:=⟨fun h k=>⟨h.1.keep k,h.2⟩,fun h=>⟨_,dt_M h.1,lay_M h.2⟩⟩
structure CallsIO (P:Ay) (w:World) (K:Aq) (mg:Str->Option Value) (base:Heap):Prop where
 some_of:Cal P w K mg base "_law_some_of" 2 ["_law_feed", "_law_things", "_law_many"] (spSome K)
noncomputable def spInOrder:Sp:=fun vs H Q _=>∃a b W ps,vs=[.ref a,.ref W]/\FeedAt H a b/\PDt H W ps/\((ps.map (·.2)).map (·.1)).Nodup/\okMs (ps.map (·.2))/\ps.length<=60/\∀M zs H',Fd a b H H'->H M=none->ML H' M zs->(zs.map (·.2)).Perm (ps.map (·.2))->Q (.ref M) H'
noncomputable abbrev q4q:Stmt:=top 47
theorem z3i:FnScope ["_law_feed", "_law_wishes"] ["_law_feed", "_law_wishes"] (defScope q4q):=by trivial
theorem z3j(D:Df K mg "_law_in_order" q4q ["_law_feed", "_law_wishes"])(T:Txt mg)(C:CallsIO P w K mg base):Cal P w K mg base "_law_in_order" 3 ["_law_feed", "_law_wishes"] spInOrder:=by
 refine D.cal z3i (fun vs H Q E h=>?_) (fun f c1 A outer s H vs Q E Z h=>?_)
 ·obtain⟨a,b,W,I,rfl,_⟩:=h;rfl
 ·obtain⟨a,b,W,I,rfl,F,pd,nd,a0,c2,k⟩:=h;refine⟨_,(q0f (q0m (pe_c C.some_of Z (q0a (pv 0) (q0a (q1g ["_law_path"] [("_law_wishes",1)] rfl (@q1y _ _ _ _ K rfl (q0l (q3y Z) (by rfl) T.b_sorted (by trivial) (q0a (pv 1) q0c))) (fun _ _ _ _ _=>(q0h (i:=0) (show(["_law_path", "_law_wishes"]:List Str).Nodup by trivial) rfl (by trivial))) (fun _ _ _ _ _=>q1n) (fun _ _ _ _ _=>(q1e (q0a (pv 0) (q0a (q1o (q1q Z) (pv 1) (pv 0) (fun _ _=>rfl)) q0c))))) (q0a (q0l z8e (by rfl) T.b_len Cs (q0a (pv 1) q0c)) q0c)))))),?_⟩;have a9:(I.map fun x=>((x.2.1,.ref x.1):HRow)).map (·.1)=(I.map (·.2)).map (·.1):=by rw[An,An];rfl
  refine⟨_,rfl,_,rfl,W,_,rfl,pd.at_,by rw[Aa];lia,fun r Z=>?_,fun L2 bs Y b0 B c3 a1=>?_⟩
  ·obtain⟨x,g,rfl⟩:=Ac.mp Z;exact(a0 x.2 (Ac.mpr ⟨x,g,rfl⟩)).1.ne
  rw[a9] at B;have s2:=(Same.refl H).new (o:=.lst (bs.map V.ref)) b0;have O:upd H L2 (.lst (bs.map V.ref)) L2=some (.lst (bs.map V.ref)):=q0b;generalize upd H L2 (.lst (bs.map V.ref))=H2 at s2 O;have b1:bs.length=Y.length:=Ez a1;have b2:Y.length=I.length:=by have:=B.length_eq;rw[Aa,Aa] at this;exact this
  refine .inl ⟨L2,rfl,⟨_,SqL.of O⟩,fun Dc a2=>?_⟩;refine q3x (xs:=bs.map V.ref) (fun i ys G=>∃j:List (Addr×Mv),ys=j.map (fun z=>V.ref z.1)/\j.map (·.2.1)=Y.take i/\(∀x∈j,GM G x.1 x.2/\x.2∈I.map (·.2))/\Same H2 G/\G Dc=some (.lst ys)/\i<=Y.length)
   ⟨[],rfl,rfl,(fun _ h=>nomatch h),(Same.refl H2).new a2,q0b,Bf _⟩ (fun i ys G ⟨j,_,_,_,J,L,_⟩=>⟨L,SqL.of (J _ _ O)⟩) ?_ ?_
  ·rintro i ys G v hv ⟨j,rfl,q,u,J,L,c0⟩;obtain⟨b',hb,rfl⟩:∃b,bs[i]?=some b/\v=.ref b:=by
    rw[Ak] at hv;cases e:bs[i]? with
    |none=>rw[e] at hv;cases hv
    |some z=>rw[e] at hv;cases hv;exact⟨z,rfl,rfl⟩
   obtain⟨p,R,b3⟩:=Cu.at' a1 hb;have hi':i<Y.length:=(Af.mp R).1;have a3:=J _ _ (s2 _ _ b3);have a4:p∈(I.map (·.2)).map (·.1):=B.mem_iff.mp (Ah R);rcases(pd.same (s2.trans J)).get nd a3 with⟨hn,_⟩|⟨y,U,ey,dg,_⟩
   ·exact absurd a4 hn
   have b4:=(pd.same (s2.trans J)).pr y U;have a5:y.2∈I.map (·.2):=Ac.mpr ⟨y,U,rfl⟩;refine⟨_,rfl,_,rfl,_,rfl,W,_,rfl,dg,by show 2<=sizeLine;decide,fun Tn a6=>?_⟩;have sT:=(Same.refl G).new (o:=.tup [.ref b',.ref y.1]) a6;have c4:j.length=i:=by rw[<- Aa (f:=fun z:Addr×Mv=>z.2.1),q,Bp];lia
   have a7:Dc≠Tn:=fun z=>by rw[z,a6] at L;cases L
   have tk:∀S xs,upd G Tn (.tup [.ref b',.ref y.1]) S=some (.tup xs)->upd (upd G Tn (.tup [.ref b',.ref y.1])) Dc (.lst (j.map (fun z=>V.ref z.1)++[.ref Tn])) S=some (.tup xs):=fun S xs e=>by
    rw[q0d (fun z=>by rw[z,q0d a7,L] at e;cases e)];exact e
   refine⟨by rw[q0d a7];exact L,small' (by rw[Aa];lia),j++[(Tn,y.2)],by rw[Ae];rfl,?_,fun x g=>?_,(J.trans sT).put a2,q0b,hi'⟩
   ·rw[Ae,q,Br,R,<- ey];rfl
   ·rcases Ar.mp g with g|g
    ·exact⟨gg_M (K:=K).keep (gg_M (K:=K).keep (u x g).1 fun S xs e=>sT _ _ e) tk,(u x g).2⟩
    ·rw[Aj.mp g];exact⟨⟨⟨b',y.1,tk _ _ q0b,tk _ _ (sT _ _ (by rw[ey];exact a3)),tk _ _ (sT _ _ b4)⟩,a0 _ a5⟩,a5⟩
  ·rintro ys G ⟨j,rfl,q,u,J,L,_⟩;rw[Aa,b1,Ba] at q;have X:=s2.trans J;have b5:=pd.same X;have wl:j.length=I.length:=by rw[<- Aa (f:=fun z:Addr×Mv=>z.2.1),q,b2]
   have a8:=(Fd.refl F).same X;refine⟨_,rfl,W,_,rfl,b5.at_,?_⟩;refine⟨Mv,GM,a,b,Dc,j,_,gg_M,rfl,a8.feed,⟨L,fun x g=>(u x g).1⟩,by lia,fun M zf zr H4 b6 hM gl pm b7=>?_⟩;have b8:zr=[]:=by
    rcases b7 with h|h
    ·have e:=pm.length_eq;rw[Al] at e;rw[Aa,Aa] at h;exact Iy.mp (by lia)
    ·exact h
   subst b8;rw[Ks] at pm;refine k M zf H4 (a8.trans b6) (X.free hM) ⟨gl.at_,fun z hz=>(gl.pr z hz).1⟩ ((pm.map _).trans ?_);have wk:(j.map (·.2)).map (·.1)=Y:=by rw[An];exact q
   have b9:((j.map (·.2)).map (·.1)).Nodup:=by rw[wk];exact B.nodup_iff.mpr nd
   refine(Hz (q1a b9) (q1a nd)).mpr fun x=>⟨fun g=>?_,fun g=>?_⟩
   ·obtain⟨y,U,rfl⟩:=Ac.mp g;exact(u y U).2
   ·have h1:x.1∈(j.map (·.2)).map (·.1):=by rw[wk];exact B.mem_iff.mpr (Ac.mpr ⟨x,g,rfl⟩)
    obtain⟨y,U,e⟩:=Ac.mp h1;obtain⟨z,hz,rfl⟩:=Ac.mp U;rw[<- q0q nd (u z hz).2 g e];exact U
structure Fol (ps:List Pth) (g:Pth->Option Pth):Prop where
 inj:∀{p q x},g p=some x->g q=some x->p=q
 to:∀{p x},g p=some x->x∈ps
 dom:∀{p x},g p=some x->p∈ps
structure Trk (g:Pth->Option Pth) (p:Pth) (xs:List Pth):Prop where
 hd:xs[0]?=some p
 st:∀{i x y},xs[i]?=some x->xs[i+1]?=some y->g x=some y
 nd:xs.Nodup
structure Orb (g:Pth->Option Pth) (p:Pth) (xs:List Pth):Prop extends Trk g p xs where
 fin:∀{x},xs.getLast?=some x->g x=none\/g x=some p
section
variable{ps:List Pth}{g:Pth->Option Pth}{p x y:Pth}{xs ys:List Pth}
theorem z3k{e:Type}{l:List e}{i j:Nat}{x:e}(nd:l.Nodup)(f:l[i]?=some x)(g:l[j]?=some x):i=j :=
 (Ma (Af.mp f).1 nd).mp (f.trans g.symm)
theorem q2s{e:Type}{l:List e}{i:Nat}{x y:e}(h:l[i]?=some x)(g:l[i+1]?=none)(f:l.getLast?=some y):x=y:=by
 have j:=(Af.mp h).1;have q:=Ko.mp g;rw[Cz,show l.length-1=i by lia,h] at f;exact Bx f
theorem z8r{e:Type}{a:e}:[a].Nodup:=Bs.mpr ⟨by simp,.nil⟩
theorem Trk.one:Trk g p [p]:=⟨rfl,(fun{i x y} _ h=>by rw[Lu] at h;cases h),z8r⟩
theorem Trk.in_(t:Trk g p xs)(F:Fol ps g)(f:p∈ps):∀x∈xs,x∈ps:=fun x h=>by
 obtain⟨i,e⟩:=Bg.mp h;cases i with
 |zero=>rw[t.hd] at e;cases e;exact f
 |succ i =>
  have j:=(Af.mp e).1;exact F.to (t.st (Bu (show i<xs.length by lia)) e)
theorem Trk.new(t:Trk g p xs)(F:Fol ps g)(hl:xs.getLast?=some x)(h:g x=some y)(n:y≠p):y∉xs:=fun j=>by
 obtain⟨i,f⟩:=Bg.mp j;cases i with
 |zero=>rw[t.hd] at f;cases f;exact n rfl
 |succ i =>
  have q:=(Af.mp f).1;have e:=F.inj (t.st (Bu (show i<xs.length by lia)) f) h;rw[Cz,<- e] at hl;have:=z3k t.nd (Bu (show i<xs.length by lia)) hl;lia
theorem Trk.more(t:Trk g p xs)(F:Fol ps g)(hl:xs.getLast?=some x)(h:g x=some y)(n:y≠p):Trk g p (xs++[y]):=by
 have f:0<xs.length:=(Af.mp t.hd).1;refine⟨by rw[Bq f];exact t.hd,fun{i u v} hu hv=>?_,?_⟩
 ·by_cases j:i+1<xs.length
  ·rw[Bq (by lia)] at hu;rw[Bq j] at hv;exact t.st hu hv
  ·have q:=(Af.mp hv).1;rw[Al] at q;have e:i+1=xs.length:=by
    have:[y].length=1:=rfl;lia
   rw[Bq (by lia)] at hu;rw[Cd (by lia),e,Uk] at hv;cases hv;rw[Cz,show xs.length-1=i by lia,hu] at hl;cases hl;exact h
 ·exact Dz.mpr ⟨t.nd,z8r,fun a ha b s z=>by rw[Aj.mp s] at z;subst z;exact t.new F hl h n ha⟩
theorem q7t{e:Type}[DecidableEq e]:∀{l m:List e},l.Nodup->(∀x∈l,x∈m)->l.length<=m.length
 |[],_,_,_=>Bf _
 |a::l,m,nd,h=>by
  obtain⟨j,q⟩:=Bs.mp nd;have f:=h a As;have s:=q7t (m:=m.erase a) q fun x g=>(Sy (fun z:x=a=>j (by rw[<- z];exact g))).mpr (h x (Am _ g))
  rw[Qo f] at s;have:=Rx f;rw[Cg];lia
theorem Trk.len(t:Trk g p xs)(F:Fol ps g)(e:p∈ps):xs.length<=ps.length:=q7t t.nd (t.in_ F e)
theorem Orb.step(a:Orb g p xs)(b:Orb g p ys){i:Nat}(h:xs[i]?=ys[i]?):ys[i+1]?=none->xs[i+1]?=none:=fun u=>by
 cases e:xs[i+1]? with
 |none=>rfl
 |some y =>
  have v:=(Af.mp e).1;have j:=Bu (show i<xs.length by lia);have q:=a.st j e;rw[h] at j;have s:=q2s j u (Bh (fun z=>by rw[z] at j;cases j));rcases b.fin (Bh (fun z=>by rw[z] at j;cases j)) with f|f
  ·rw[<- s,q] at f;cases f
  ·rw[<- s,q] at f;cases f;have:=z3k a.nd e a.hd;lia
theorem Orb.uniq(a:Orb g p xs)(b:Orb g p ys):xs=ys:=by
 refine Vb fun i=>?_;induction i with
 |zero=>rw[a.hd,b.hd]
 |succ i ih =>
  cases e:xs[i+1]? with
  |none=>exact(b.step a ih.symm e).symm
  |some u =>
   cases e2:ys[i+1]? with
   |none=>rw[a.step b ih e2] at e;cases e
   |some v =>
    have j:=(Af.mp e).1;have f:=Bu (show i<xs.length by lia);have q:=a.st f e;rw[ih] at f;have h:=b.st f e2;rw[q] at h;exact h
theorem Orb.ex(F:Fol ps g)(j:p∈ps):∀(k:Nat) {xs:List Pth},ps.length-xs.length=k->Trk g p xs->∃t,Orb g p (xs++t)
 |k,xs,hk,t=>by
  have f:0<xs.length:=(Af.mp t.hd).1;have hl:=Bh (Bw.mp f);cases e:g (xs.getLast (Bw.mp f)) with
  |none=>exact⟨[],by rw[Du];exact⟨t,fun{x} hx=>by rw[hl] at hx;cases hx;exact .inl e⟩⟩
  |some y =>
   by_cases n:y=p
   ·exact⟨[],by rw[Du];exact⟨t,fun{x} hx=>by rw[hl] at hx;cases hx;rw[e,n];exact .inr rfl⟩⟩
   ·have q:=t.more F hl e n;have s:=q.len F j;rw[Al] at s;have v:xs.length+1<=ps.length:=s;cases k with
    |zero=>lia
    |succ k =>
     obtain⟨u,h⟩:=Orb.ex F j k (by rw[Al];show ps.length-(xs.length+1)=k;lia) q;exact⟨y::u,by rw[Fg] at h;exact h⟩
noncomputable def IsRing(g:Pth->Option Pth)(p:Pth):Prop:=∃xs x,Orb g p xs/\xs.getLast?=some x/\g x=some p
theorem Trk.ring(t:Trk g p xs)(hl:xs.getLast?=some x)(h:g x=some p):IsRing g p:=⟨xs,x,⟨t,fun{z} hz=>by rw[hl] at hz;cases hz;exact .inr h⟩,hl,h⟩
theorem IsRing.pred(F:Fol ps g)(r:IsRing g p)(h:g y=some p):IsRing g y:=by
 obtain⟨xs,x,o,hl,q⟩:=r;obtain rfl:=F.inj h q;obtain⟨f,rfl⟩:∃f,xs=f++[y]:=List.getLast?_eq_some_iff.mp hl;cases f with
 |nil =>
  have e:y=p:=Bx o.hd;subst e;exact o.toTrk.ring hl q
 |cons z f =>
  have e:z=p:=Bx o.hd;subst e;have pr:=Sl (l₁:=z::f) (l₂:=[y]);have j:(y::z::f).Nodup:=pr.nodup_iff.mp o.nd;refine Trk.ring (xs:=y::z::f) (x:=(z::f).getLast (by simp)) ⟨rfl,fun{i u v} hu hv=>?_,j⟩ (by rw[Ul,Bh (by simp)];rfl) ?_
  ·cases i with
   |zero=>cases hu;cases hv;exact h
   |succ i =>
    rw[Lu] at hu hv;have s:=(Af.mp hv).1;exact o.st (i:=i) (by rw[Bq (by lia)];exact hu) (by rw[Bq s];exact hv)
  ·refine o.st (i:=f.length) ?_ ?_
   ·rw[Bq (by simp),<- Bh (by simp),Cz];rfl
   ·rw[Cd (by simp)];simp
theorem IsRing.apart(F:Fol ps g){s:Pth}(hs:∀q,g q≠some s)(t:Trk g s ys):∀{i:Nat} {p:Pth},ys[i]?=some p->¬IsRing g p
 |0,p,h,r=>by
  rw[t.hd] at h;cases h;obtain⟨_,x,_,_,e⟩:=r;exact hs x e
 |i+1,p,h,r=>by
  have f:=(Af.mp h).1;have e:=Bu (show i<ys.length by lia);exact IsRing.apart F hs t e (r.pred F (t.st e h))
theorem z4p(F:Fol ps g)(C:¬IsRing g p):∀(k:Nat) {s:Pth} {xs:List Pth},ps.length-xs.length=k->s∈ps->Trk g s xs->xs.getLast?=some p->∃j ys,j∈ps/\(∀q,g q≠some j)/\Trk g j ys/\ys.getLast?=some p
 |k,s,xs,hk,hs,t,hl=>by
  by_cases h:∃q,g q=some s
  ·obtain⟨q,f⟩:=h;have B:q∉xs:=fun G=>by
    obtain⟨i,D⟩:=Bg.mp G;cases e:xs[i+1]? with
    |some v =>
     have:=t.st D e;rw[f] at this;cases this;have:=z3k t.nd e t.hd;lia
    |none =>
     obtain rfl:=q2s D e hl;exact C ((t.ring hl f).pred F f)
   have E:Trk g q (q::xs):=⟨rfl,(fun{i u v} hu hv=>by
    cases i with
    |zero =>
     cases hu;rw[Lu,t.hd] at hv;cases hv;exact f
    |succ i=>exact t.st (i:=i) hu hv),Bs.mpr ⟨B,t.nd⟩⟩
   have H:xs.length+1<=ps.length:=E.len F (F.dom f);cases k with
   |zero=>lia
   |succ k =>
    refine z4p F C k (xs:=q::xs) (by rw[Cg];lia) (F.dom f) E ?_;rw[Ul,hl];rfl
  ·exact⟨s,xs,hs,fun q f=>h ⟨q,f⟩,t,hl⟩
end
noncomputable def nx(bl:Bool)(ps:List Pth)(f:Pth->Pth)(p:Pth):Option Pth:=if p∈ps/\f p≠p then ps.find? (fun q=>decide (fold bl q=fold bl (f p)/\q≠p)) else none
theorem q0t{bl:Bool}{rows:List Rw}(hl:Hl bl rows){f:Pth->Pth}{p q:Pth}:nx bl (rows.map (·.1)) f p=some q↔p∈rows.map (·.1)/\f p≠p/\q∈rows.map (·.1)/\fold bl q=fold bl (f p)/\q≠p:=by
 unfold nx;constructor
 ·intro h;split at h
  ·rename_i hc;have g:=Wr h;have j:=Py h;exact⟨hc.1,hc.2,j,(of_decide_eq_true g).1,(of_decide_eq_true g).2⟩
  ·cases h
 ·rintro⟨g,j,s,u,v⟩;rw[if_pos ⟨g,j⟩];cases e:(rows.map (·.1)).find? (fun q=>decide (fold bl q=fold bl (f p)/\q≠p)) with
  |none=>exact absurd (decide_eq_true (show fold bl q=fold bl (f p)/\q≠p from⟨u,v⟩)) (by have:=List.find?_eq_none.mp e q s;simpa using this)
  |some z =>
   have B:=Wr e;have C:=of_decide_eq_true B;have D:=Py e;have nd:((rows.map (·.1)).map (fold bl)).Nodup:=by rw[An];exact hl.nd
   rw[q0q nd D s (C.1.trans u.symm)]
theorem z2d{bl:Bool}{rows:List Rw}(hl:Hl bl rows){f:Pth->Pth}(ap:Apart bl rows f):Fol (rows.map (·.1)) (nx bl (rows.map (·.1)) f):=by
 refine⟨fun{p q x} h1 h2=>?_,fun{p x} h=>((q0t hl).mp h).2.2.1,fun{p x} h=>((q0t hl).mp h).1⟩;obtain⟨e,_,_,g,_⟩:=(q0t hl).mp h1;obtain⟨j,_,_,s,_⟩:=(q0t hl).mp h2;have ap':((rows.map (·.1)).map fun p=>fold bl (f p)).Nodup:=ap;exact q0q ap' e j (g.symm.trans s)
end
end K
set_option maxHeartbeats 4000000
namespace K
open PySem L2 TX SB HM
section
variable{P:Ay}{w:World}{K:Aq}{mg:Str->Option Value}{base:Heap}
noncomputable abbrev qR(qs:List (Addr×Mv)):HO:=dR (qs.map fun x=>(x.2.1,.ref x.1))
noncomputable def mvs(ms:List Mv):List Pth:=(ms.filter fun m=>decide (m.2≠m.1)).map (·.1)
theorem mvs_in{ms:List Mv}{p:Pth}:p∈mvs ms↔∃q,(p,q)∈ms/\q≠p:=by
 unfold mvs;constructor
 ·intro h;obtain⟨m,g,rfl⟩:=Ac.mp h;obtain⟨e,f⟩:=Di.mp g;exact⟨m.2,e,of_decide_eq_true f⟩
 ·rintro⟨q,e,f⟩;exact Ac.mpr ⟨(p,q),Di.mpr ⟨e,decide_eq_true f⟩,rfl⟩
theorem x2k{ms:List Mv}(nd:(ms.map (·.1)).Nodup):(mvs ms).Nodup:=nd.sublist (Tr.map _)
theorem z8s{H:Hp}{D b:Addr}{ps:List (Addr×Mv)}{x:Addr×Mv}(rd:Rd H D (qR ps))(nd:((ps.map (·.2)).map (·.1)).Nodup)(f:x∈ps)(g:H b=some (.tup (vP x.2.1))):DGet H D (.ref b) (some (.ref x.1)):=by
 have e:=q5d (rs:=ps.map fun x=>((x.2.1,.ref x.1):HRow)) (r:=(x.2.1,.ref x.1)) (Ac.mpr ⟨x,f,rfl⟩) (by rw[An] at nd ⊢;exact nd);rw[<- e];exact .inr ⟨_,kP x.2.1,b,rd,rfl,by rw[q3a];exact g,rfl⟩
noncomputable def spMoves:Sp:=fun vs H Q _=>∃D qs,vs=[.ref D]/\PDt H D qs/\okMs (qs.map (·.2))/\((qs.map (·.2)).map (·.1)).Nodup/\qs.length<=60/\∀L zs H',H L=none->Same H H'->PL H' L zs->zs.map (·.2)=mvs (qs.map (·.2))->Q (.ref L) H'
noncomputable abbrev q1t:Stmt:=top 19
theorem q4r:FnScope ["places"] ["places"] (defScope q1t):=by trivial
theorem x1h(D:Df K mg "things_that_move" q1t ["places"])(T:Txt mg):Cal P w K mg base "things_that_move" 1 ["places"] spMoves:=by
 refine D.cal q4r (fun vs H Q E h=>?_) (fun f a3 A outer s H vs Q E hr h=>?_)
 ·obtain⟨D,B,rfl,_⟩:=h;rfl
 ·obtain⟨D,B,rfl,pd,a1,nd,a4,k⟩:=h;refine⟨_,(q0f (q0m (x4b H rfl (q1g ["path"] [("places",0)] rfl (@z4b _ _ _ _ K rfl (pv 0)) (fun _ _ _ _ _=>(q0h (i:=0) (show(["path", "places"]:List Str).Nodup by trivial) rfl (by trivial))) (fun _ _ _ _ _=>(q3m (q0n (ne_k K rfl hr) (q1o (q1q hr) (pv 1) (pv 0) (fun _ _=>rfl)) (pv 0) (nomark _)))) (fun _ _ _ _ _=>(pv 0)))))),?_⟩;refine⟨D,(fun o v e=>by rw[pd.at_] at e;cases e),?_⟩;refine⟨_,rfl,D,_,rfl,pd.at_,fun ob=>?_⟩;intro Dc L;have M:Dc≠D:=fun z=>by rw[z,q0b] at L;cases L
  have C:H Dc=none:=by rw[q0d M] at L;exact L
  have a0:((B.map fun x=>((x.2.1,.ref x.1):HRow)).map fun r=>(kP r.1,r.2)).length=B.length:=by rw[Aa,Aa]
  refine q5i (n:=B.length) (fun j U W=>∃J:List Zp,U=J.map (fun z=>V.ref z.1)/\J.map (·.2)=mvs ((B.map (·.2)).take j)/\(∀z∈J,W z.1=some (.tup (vP z.2))/\okP z.2)/\W D=some (.frz ob (qR B))/\(∀c u,c≠D->H c=some u->W c=some u)/\W Dc=some (.lst U))
   ⟨[],rfl,rfl,(fun _ h=>nomatch h),by rw[q0d M.symm];exact q0b,fun c u X e=>by rw[q0d (q0i e C),q0d X];exact e,q0b⟩ (fun j U W x=>by obtain⟨_,_,_,_,_,_,h⟩:=x;exact h) (fun j U W hj x=>by obtain⟨_,_,_,_,hf,_,_⟩:=x;exact⟨hf,by rw[a0];exact hj⟩) (fun U W x=>by obtain⟨_,_,_,_,hf,_,_⟩:=x;exact⟨hf,by rw[a0];exact Au _⟩) ?_ ?_
  ·rintro j U H1 v H2 hj ⟨J,rfl,R,Y,q,kp,G⟩ ⟨rfl,ky,vv,pb,I,hb,rfl⟩;obtain⟨y,hy,rfl,rfl⟩:∃y,B[j]?=some y/\ky=kP y.2.1/\vv=.ref y.1:=by
    rw[Ak,Ak] at I;cases e:B[j]? with
    |none=>rw[e] at I;cases I
    |some r=>rw[e] at I;cases I;exact⟨r,rfl,rfl,rfl⟩
   rw[q3a] at hb;have O:=Ah hy;have Z:=a1 y.2 (Ac.mpr ⟨y,O,rfl⟩);have a2:H2 y.1=some (.tup (vP y.2.2)):=kp _ _ (fun z=>by have e:=pd.pr y O;rw[z,pd.at_] at e;cases e) (pd.pr y O);have e1:(B.map (·.2)).take (j+1)=(B.map (·.2)).take j++[y.2]:=by rw[Br,Ak,hy];rfl
   have zl:J.length<=60:=by
    have:=congrArg List.length R;unfold mvs at this;rw[Aa,Aa] at this;have l2:=Dk (fun m:Mv=>decide (m.2≠m.1)) ((B.map (·.2)).take j);rw[Bp,Aa] at l2;lia
   refine⟨q0u,_,rfl,_,rfl,D,_,rfl,z8s (.inr ⟨ob,q⟩) nd O hb,_,rfl,q3z a2 hb Z.2.low Z.1.low ⟨_,rfl,?_⟩⟩;refine iteB (fun X=>?_) (fun X=>?_)
   ·have tk:∀S xs,H2 S=some (.tup xs)->upd H2 Dc (.lst (J.map (fun z=>V.ref z.1)++[.ref pb])) S=some (.tup xs):=fun S xs e=>by
     rw[q0d (fun z=>by rw[z,G] at e;cases e)];exact e
    refine⟨_,rfl,G,small' (by rw[Aa];lia),J++[(pb,y.2.1)],by rw[Ae];rfl,?_,fun z g=>?_,by rw[q0d M.symm];exact q,fun c u X e=>by rw[q0d (q0i e C)];exact kp c u X e,q0b⟩
    ·unfold mvs at R ⊢;rw[e1,Ed,Dm (by simpa using X),Ae,Ae,R];rfl
    ·rcases Ar.mp g with g|g
     ·exact⟨tk _ _ (Y z g).1,(Y z g).2⟩
     ·rw[Aj.mp g];exact⟨tk _ _ hb,Z.1⟩
   ·refine⟨J,rfl,?_,Y,q,kp,G⟩;unfold mvs at R ⊢;rw[e1,Ed,Dl (by simpa using X),Ae,R];simp
  ·rintro U H1 ⟨J,rfl,R,Y,q,kp,G⟩;rw[<- Aa (f:=fun x:Addr×Mv=>x.2),Ba] at R;have s1:Same H (upd H1 D (qR B)):=q5e pd.at_ kp;exact⟨ob,_,q,k Dc J _ C s1 ⟨by rw[q0d M];exact G,fun z g=>⟨by rw[q0d (fun y=>by have e:=(Y z g).1;rw[y,q] at e;cases e)];exact(Y z g).1,(Y z g).2⟩⟩ R⟩
noncomputable def nxL(g:Pth->Option Pth)(ps:List Pth):List Mv:=ps.filterMap fun p=>(g p).map fun q=>(p,q)
theorem nxL_in{g:Pth->Option Pth}{ps:List Pth}{m:Mv}:m∈nxL g ps↔m.1∈ps/\g m.1=some m.2:=by
 unfold nxL;constructor
 ·intro h;obtain⟨p,f,e⟩:=Kw.mp h;cases eg:g p with
  |none=>rw[eg] at e;cases e
  |some q=>rw[eg] at e;cases e;exact⟨f,eg⟩
 ·rintro⟨j,s⟩;exact Kw.mpr ⟨m.1,j,by rw[s];rfl⟩
theorem z0c{g:Pth->Option Pth}:∀{ps:List Pth},((nxL g ps).map (·.1)).Sublist ps
 |[]=>Mb _
 |p::ps=>by
  have e:=z0c (g:=g) (ps:=ps);unfold nxL at e ⊢;rw[Iv];cases g p with
  |none=>exact e.cons _
  |some q=>exact e.cons₂ _
theorem z3l{g:Pth->Option Pth}{ps:List Pth}{p:Pth}:nxL g (ps++[p])=nxL g ps++(match g p with|some q=>[(p,q)]|none=>[]):=by
 unfold nxL;rw[List.filterMap_append,Iv];cases g p<;>rfl
structure NxD (H:Hp) (N:Addr) (ns:List (Addr×Mv)) (g:Pth->Option Pth):Prop where
 pd:PDt H N ns
 nd:((ns.map (·.2)).map (·.1)).Nodup
 is:∀{m:Mv},m∈ns.map (·.2)↔g m.1=some m.2
theorem NxD.same{H H':Hp}{N:Addr}{ns:List (Addr×Mv)}{g:Pth->Option Pth}(x:NxD H N ns g)(s:Same H H'):NxD H' N ns g:=⟨x.pd.same s,x.nd,x.is⟩
theorem NxD.get{H:Hp}{N b:Addr}{ns:List (Addr×Mv)}{g:Pth->Option Pth}{p:Pth}(x:NxD H N ns g)(j:H b=some (.tup (vP p))):(g p=none/\DGet H N (.ref b) none)\/∃q e,g p=some q/\DGet H N (.ref b) (some (.ref e))/\H e=some (.tup (vP q)):=by
 rcases x.pd.get x.nd j with⟨s,dg⟩|⟨y,f,u,dg,_⟩
 ·left;refine⟨?_,dg⟩;cases e:g p with
  |none=>rfl
  |some q=>exact absurd (Ac.mpr ⟨(p,q),x.is.mpr e,rfl⟩) s
 ·have h:=x.is.mp (Ac.mpr ⟨y,f,rfl⟩);rw[u] at h;exact .inr ⟨y.2.2,y.1,h,dg,x.pd.pr y f⟩
structure CallsNx (P:Ay) (w:World) (K:Aq) (mg:Str->Option Value) (base:Heap) (c:Addr):Prop where
 things_that_move:Cal P w K mg base "things_that_move" 1 ["places"] spMoves
 m_there:MCal P w K mg base c "there" 3 ["self", "place"] (spThere1 c)
noncomputable def spNext(c:Addr):Sp:=fun vs H Q _=>∃h d D bl rows ms qs,vs=[.ref h,.ref D]/\HallAt c H h d bl rows/\Hl bl rows/\rows.length<=30/\GoodW rows ms/\PDt H D qs/\(qs.map (·.2)).Perm (rows.map fun r=>(r.1,plc ms r.1)) /\
 ∀N ns H',H N=none->Same H H'->NxD H' N ns (nx bl (rows.map (·.1)) (plc ms))->Q (.ref N) H'
theorem z0d{rows:List Rw}{f:Pth->Pth}{e:List (Addr×Mv)}(p:(e.map (·.2)).Perm (rows.map fun r=>(r.1,f r.1))):((e.map (·.2)).map (·.1)).Perm (rows.map (·.1)):=by
 have:=p.map (·.1);rw[An (l:=rows)] at this;exact this
theorem z8t{rows:List Rw}{f:Pth->Pth}{g:List (Addr×Mv)}(p:(g.map (·.2)).Perm (rows.map fun r=>(r.1,f r.1))){x:Addr×Mv}(h:x∈g):x.2.1∈rows.map (·.1)/\x.2.2=f x.2.1:=by
 obtain⟨r,j,e⟩:=Ac.mp (p.mem_iff.mp (Ac.mpr ⟨x,h,rfl⟩));rw[<- e];exact⟨Ac.mpr ⟨r,j,rfl⟩,rfl⟩
theorem x2l{bl:Bool}{rows:List Rw}{ms:List Mv}{f:List (Addr×Mv)}(hl:Hl bl rows)(gw:GoodW rows ms)(p:(f.map (·.2)).Perm (rows.map fun r=>(r.1,plc ms r.1))):okMs (f.map (·.2)):=fun m h=>by
 obtain⟨x,j,rfl⟩:=Ac.mp h;obtain⟨g,q⟩:=z8t p j;obtain⟨r,s,e⟩:=Ac.mp g;exact⟨by rw[<- e];exact hl.ok r s,by rw[q];exact q1l hl gw g⟩
theorem z3m{rows:List Rw}{f:Pth->Pth}{s:List (Addr×Mv)}(p:(s.map (·.2)).Perm (rows.map fun r=>(r.1,f r.1))){x:Pth}:x∈mvs (s.map (·.2))↔x∈rows.map (·.1)/\f x≠x:=by
 rw[mvs_in];constructor
 ·rintro⟨q,g,h⟩;obtain⟨r,j,e⟩:=Ac.mp (p.mem_iff.mp g);cases e;exact⟨Ac.mpr ⟨r,j,rfl⟩,h⟩
 ·rintro⟨g,h⟩;obtain⟨r,j,rfl⟩:=Ac.mp g;exact⟨f r.1,p.mem_iff.mpr (Ac.mpr ⟨r,j,rfl⟩),h⟩
noncomputable abbrev q3t:Stmt:=top 20
theorem sc_next_ones:FnScope ["hall", "places", "told", "path", "other"] ["hall", "places"] (defScope q3t):=by trivial
theorem x4v{c:Addr}(D:Df K mg "next_ones" q3t ["hall", "places"])(T:Txt mg)(C:CallsNx P w K mg base c):Cal P w K mg base "next_ones" 4 ["hall", "places"] (spNext c):=by
 refine D.cal sc_next_ones (fun vs H Q E h=>?_) (fun f c3 A outer s H vs Q E hr h=>?_)
 ·obtain⟨h,d,D,bl,rows,J,qs,rfl,_⟩:=h;rfl
 ·obtain⟨h,d,D,bl,rows,J,qs,rfl,hh,hl,c4,gw,pd,pm,k⟩:=h;refine⟨_,(q0e (q0j (i:=2) sc_next_ones.nd rfl (by trivial) q6g) (q0e (q1u Ca rfl (@q1y _ _ _ _ K rfl (pe_c C.things_that_move hr (q0a (pv 1) q0c))) (q0h (i:=3) sc_next_ones.nd rfl (by trivial)) (q0e (q0j (i:=4) sc_next_ones.nd rfl (by trivial) (pe_m C.m_there hr (pv 0) (q0a (q1o (q1q hr) (pv 1) (pv 3) (fun _ _=>rfl)) q0c))) (q0f (q1s (pt_j (@PW.pt _ _ _ (q3k (q2t (q6q (pv 4))) (q2q (q0n (ne_k K rfl hr) (pv 4) (pv 3) (nomark _)))))) (q0f (q4j (q1q hr) (pv 2) (pv 3) (pv 4) rfl)) q0o)))) (q0f (q0m (pv 2))))),?_⟩;have b0:=x2l hl gw pm;have U:((qs.map (·.2)).map (·.1)).Nodup:=(z0d pm).nodup_iff.mpr hl.paths;have ql:qs.length<=30:=by have:=pm.length_eq;rw[Aa,Aa] at this;lia
  obtain⟨dx,hi⟩:=hh.i;intro N hN;have s1:=(Same.refl H).new (o:=.dT []) hN;have a3:upd H N (.dT []) N=some (.dT []):=q0b;generalize upd H N (.dT [])=H1 at s1 a3;refine⟨_,rfl,D,qs,rfl,pd.same s1,b0,U,by lia,fun L O H2 hL s2 pl ez=>?_⟩;refine .inl ⟨L,rfl,⟨_,SqL.of pl.at_⟩,?_⟩;have a4:(O.map (·.2)).Nodup:=by rw[ez];exact x2k U
  have b1:=s2 _ _ a3;have b2:=s1.trans s2;refine q3v (fun i R H'=>∃ns x3 x4,R=[some (.ref h),some (.ref D),some (.ref N),x3,x4]/\Same H H'/\PL H' L O/\PDt H' N ns/\ns.map (·.2)=nxL (nx bl (rows.map (·.1)) (plc J)) ((O.map (·.2)).take i)) ⟨[],none,none,rfl,b2,pl,⟨b1,(fun _ h=>nomatch h)⟩,rfl⟩ (fun i R H' _ x=>by obtain⟨_,_,_,_,_,b3,_⟩:=x;exact SqL.of b3.at_) ?_ ?_
  ·rintro i v R H3 hv ⟨ns,x3,x4,rfl,W,S,X,j⟩;obtain⟨z,hz,rfl⟩:=gR0 hv
   have Y:=Ah hz;have b4:(O.map (·.2))[i]?=some z.2:=by rw[Ak,hz];rfl
   have e1:(O.map (·.2)).take (i+1)=(O.map (·.2)).take i++[z.2]:=by rw[Br,b4];rfl
   have a5:z.2∈mvs (qs.map (·.2)):=by rw[<- ez];exact Ac.mpr ⟨z,Y,rfl⟩
   obtain⟨a6,b5⟩:=(z3m pm).mp a5;obtain⟨q,hq,_⟩:=mvs_in.mp a5;obtain⟨x,hx,ex⟩:=Ac.mp hq;have Z:=(S.pr z Y).1;have a7:x.2.1=z.2:=by rw[ex]
   have b6:x.2.2=plc J z.2:=by rw[<- a7];exact(z8t pm hx).2
   have a8:=(pd.same W).pr x hx;rw[b6] at a8;have dg:=z8s (b:=z.1) (.inl (pd.same W).at_) U hx (by rw[a7];exact Z);refine⟨_,rfl,h,dx,_,rfl,W _ _ hi,rfl,_,rfl,_,rfl,D,_,rfl,dg,h,d,x.1,bl,rows,_,rfl,hh.same W,a8,q1l hl gw a6,hl.ok,fun H4 ov s4 b7=>?_⟩;have a0:=W.trans s4;have G:=S.same s4;have B:=X.same s4;have nl:ns.length<=30:=by
    have e:=congrArg List.length j;have l1:=(z0c (g:=nx bl (rows.map (·.1)) (plc J)) (ps:=(O.map (·.2)).take i)).length_le;rw[Aa] at l1 e;have l2:=congrArg List.length ez;unfold mvs at l2;have l3:=Dk (fun m:Mv=>decide (m.2≠m.1)) (qs.map (·.2));rw[Bp,Aa] at l1;rw[Aa,Aa] at l2;rw[Aa] at l3;lia
   rcases b7 with⟨rfl,no⟩|⟨a1,r,rfl,a2,hf,he⟩
   ·have I:nx bl (rows.map (·.1)) (plc J) z.2=none:=by
     cases e:nx bl (rows.map (·.1)) (plc J) z.2 with
     |none=>rfl
     |some q =>
      obtain⟨_,_,h3,h4,_⟩:=(q0t hl).mp e;obtain⟨r,b8,rfl⟩:=Ac.mp h3;exact absurd h4 (no r b8)
    refine⟨fun bb H5=>bb=false/\H5=H4,?_,⟨_,rfl,_,rfl,iteF ⟨rfl,rfl⟩⟩⟩;rintro bb H5 ⟨rfl,rfl⟩;exact iteF ⟨ns,_,_,rfl,a0,G,B,by rw[e1,z3l,I,j];simp⟩
   ·refine⟨fun bb H5=>bb=(!decide (r.1=z.2))/\H5=H4,?_,⟨_,rfl,_,rfl,iteT ⟨_,rfl,_,rfl,q3z he (s4 _ _ Z) (hl.ok r a2).low (S.pr z Y).2.low ⟨_,rfl,rfl,rfl⟩⟩⟩⟩;rintro bb H5 ⟨rfl,rfl⟩;refine iteB (fun hc=>?_) (fun hc=>?_)
    ·have hc':r.1≠z.2:=by simpa using hc
     have I:nx bl (rows.map (·.1)) (plc J) z.2=some r.1:=(q0t hl).mpr ⟨a6,b5,Ac.mpr ⟨r,a2,rfl⟩,hf,hc'⟩;have b9:∀y∈(ns.map fun x=>((x.2.1,.ref x.1):HRow)),y.1≠z.2:=fun y M z'=>by
      obtain⟨x',c0,rfl⟩:=Ac.mp M;have c1:x'.2∈nxL (nx bl (rows.map (·.1)) (plc J)) ((O.map (·.2)).take i):=by rw[<- j];exact Ac.mpr ⟨x',c0,rfl⟩
      have h1:=(nxL_in.mp c1).1;have z2:x'.2.1=z.2:=z';rw[z2] at h1;have a9:((O.map (·.2)).take (i+1)).Nodup:=a4.sublist (Lv _ _);rw[e1] at a9;exact(Dz.mp a9).2.2 _ h1 _ (Aj.mpr rfl) rfl
     refine⟨_,rfl,_,rfl,_,rfl,N,_,rfl,DPut.t (k:=kP z.2) B.at_ (by rw[q3a];exact s4 _ _ Z) (by rw[Aa,Aa];exact small' (by lia)),?_⟩;rw[q4b (v:=.ref a1) b9];have nN:∀(x:Addr) (u:HO),H5 x=some u->(∀c2,u≠.dT c2)->upd H5 N (dR ((ns.map fun x=>((x.2.1,.ref x.1):HRow))++[(z.2,.ref a1)])) x=some u:=fun x u e n=>by
      rw[q0d (fun y=>by rw[y,B.at_] at e;cases e;exact n _ rfl)];exact e
     refine⟨ns++[(a1,(z.2,r.1))],_,_,rfl,a0.put hN,⟨nN _ _ G.at_ (fun _ y=>by cases y),fun y M=>⟨nN _ _ (G.pr y M).1 (fun _ y=>by cases y),(G.pr y M).2⟩⟩,⟨by rw[q0b,Ae (l₁:=ns)];rfl,fun y M=>?_⟩,by rw[e1,z3l,I,Ae,j];rfl⟩;rcases Ar.mp M with M|M
     ·exact nN _ _ (B.pr y M) (fun _ y=>by cases y)
     ·rw[Aj.mp M];exact nN _ _ he (fun _ y=>by cases y)
    ·have hc':r.1=z.2:=by simpa using hc
     have I:nx bl (rows.map (·.1)) (plc J) z.2=none:=by
      cases e:nx bl (rows.map (·.1)) (plc J) z.2 with
      |none=>rfl
      |some q =>
       obtain⟨_,_,h3,h4,h5⟩:=(q0t hl).mp e;have nd:((rows.map (·.1)).map (fold bl)).Nodup:=by rw[An];exact hl.nd
       exact absurd ((q0q nd h3 (Ac.mpr ⟨r,a2,rfl⟩) (h4.trans hf.symm)).trans hc') h5
     exact⟨ns,_,_,rfl,a0,G,B,by rw[e1,z3l,I,j];simp⟩
  ·rintro R H3 ⟨ns,x3,x4,rfl,W,S,X,j⟩;rw[Aa,<- Aa (f:=fun z:Zp=>z.2),Ba] at j;refine⟨_,rfl,k N ns H3 hN W ⟨X,?_,fun{m}=>?_⟩⟩
   ·rw[j];exact a4.sublist z0c
   ·rw[j,nxL_in,ez,z3m pm];exact⟨fun x=>x.2,fun x=>⟨⟨((q0t hl).mp x).1,((q0t hl).mp x).2.1⟩,x⟩⟩
structure CallsAsk (P:Ay) (w:World) (K:Aq) (mg:Str->Option Value) (base:Heap) (c:Addr):Prop where
 ask_wishes:Cal P w K mg base "ask_wishes" 8 ["hall", "wishes"] (spAsk c)
 all_places:Cal P w K mg base "all_places" 6 ["hall", "wishes"] (spAllP c)
 things_that_move:Cal P w K mg base "things_that_move" 1 ["places"] spMoves
 next_ones:Cal P w K mg base "next_ones" 4 ["hall", "places"] (spNext c)
structure GW (c:Addr) (H:Hp) (h d L:Addr) (bl:Bool) (rows:List Rw) (zs:List Zm):Prop where
 ha:HallAt c H h d bl rows
 hl:Hl bl rows
 few:rows.length<=30
 ml:ML H L zs
 gw:GoodW rows (zs.map (·.2))
 len:zs.length<=60
 ap:Apart bl rows (plc (zs.map (·.2)))
theorem GW.same{c:Addr}{H H':Hp}{h d L:Addr}{bl:Bool}{rows:List Rw}{zs:List Zm}(g:GW c H h d L bl rows zs)(s:Same H H'):GW c H' h d L bl rows zs:=⟨g.ha.same s,g.hl,g.few,g.ml.same s,g.gw,g.len,g.ap⟩
structure Mvg (bl:Bool) (rows:List Rw) (f:Pth->Pth) (ms:List Pth):Prop where
 nd:ms.Nodup
 is:∀{p},p∈ms↔p∈rows.map (·.1)/\f p≠p
noncomputable def spAN(c:Addr):Sp:=fun vs H Q _=>∃h d L bl rows zs,vs=[.ref h,.ref L]/\GW c H h d L bl rows zs /\
 ∀T M mz N ns H',Same H H'->H M=none->H N=none->H' T=some (.tup [.ref M,.ref N])->PL H' M mz->Mvg bl rows (plc (zs.map (·.2))) (mz.map (·.2))->NxD H' N ns (nx bl (rows.map (·.1)) (plc (zs.map (·.2))))->Q (.ref T) H'
noncomputable abbrev q1z:Stmt:=top 21
theorem sc_asked_next_ones:FnScope ["hall", "wishes", "places"] ["hall", "wishes"] (defScope q1z):=by trivial
theorem x1i{c:Addr}(D:Df K mg "asked_next_ones" q1z ["hall", "wishes"])(T:Txt mg)(C:CallsAsk P w K mg base c):Cal P w K mg base "asked_next_ones" 9 ["hall", "wishes"] (spAN c):=by
 refine D.cal sc_asked_next_ones (fun vs H Q E h=>?_) (fun f a0 A outer s H vs Q E v h=>?_)
 ·obtain⟨h,d,L,bl,rows,B,rfl,_⟩:=h;rfl
 ·obtain⟨h,d,L,bl,rows,B,rfl,G,k⟩:=h;refine⟨_,(q0e (q2b (pe_c C.ask_wishes v (q0a (pv 0) (q0a (pv 1) q0c)))) (q0e (q0j (i:=2) sc_asked_next_ones.nd rfl (by trivial) (pe_c C.all_places v (q0a (pv 0) (q0a (pv 1) q0c)))) (q0f (q0m (q1e (q0a (pe_c C.things_that_move v (q0a (pv 2) q0c)) (q0a (pe_c C.next_ones v (q0a (pv 0) (q0a (pv 2) q0c))) q0c))))))),?_⟩;refine⟨_,rfl,_,rfl,h,d,L,bl,rows,B,rfl,G.ha,G.hl,G.few,G.ml,G.gw,G.len,G.ap,fun H1 U=>?_⟩;have W:=G.same U;refine⟨_,rfl,_,rfl,h,d,L,bl,rows,B,rfl,W.ha,G.hl,by have:=G.few;lia,W.ml,G.gw,G.len,fun X e rs H2 a1 s2 j I a2 e0=>?_⟩;have g:=U.trans s2;have pm:(e.map (·.2)).Perm (rows.map fun r=>(r.1,plc (B.map (·.2)) r.1)):=by rw[e0];exact I.map _
  have q:((e.map (·.2)).map (·.1)).Nodup:=(z0d pm).nodup_iff.mpr G.hl.paths;have pl:e.length<=30:=by have:=pm.length_eq;rw[Aa,Aa] at this;have:=G.few;lia
  refine⟨_,rfl,X,e,rfl,j,x2l G.hl G.gw pm,q,by lia,fun M mz H3 hM J O Y=>?_⟩;refine⟨_,rfl,_,rfl,h,d,X,bl,rows,_,e,rfl,(G.same (g.trans J)).ha,G.hl,G.few,G.gw,j.same J,pm,fun N ns H4 hN Z R=>?_⟩;refine⟨by show 2<=sizeLine;decide,fun T' hT=>?_⟩;have S:=(Same.refl H4).new (o:=.tup [.ref M,.ref N]) hT;have u:=g.trans J;exact k T' M mz N ns _ ((u.trans Z).trans S) (g.free hM) (u.free hN) q0b ((O.same Z).same S) ⟨by rw[Y];exact x2k q,fun{p}=>by rw[Y];exact z3m pm⟩ (R.same S)
theorem x4w{H:Hp}{b:Addr}{p:Pth}{Q:VK}(e:H b=some (.tup (vP p)))(f:Low p)(k:Q (.bl false) H):rEqU K .non (.ref b) H Q:=by
 refine .inr ⟨_,_,.non,q2d e,rfl,q2v f,by simp only[Ho];lia,?_⟩;simp only[Fw];exact k
noncomputable def spFrom:Sp:=fun vs H Q _=>∃b N ns g ps p,vs=[.ref b,.ref N]/\H b=some (.tup (vP p))/\NxD H N ns g/\Fol ps g/\p∈ps/\ps.length<=30/\(∀x∈ps,okP x)/\∀L zs H',H L=none->Same H H'->PL H' L zs->Orb g p (zs.map (·.2))->Q (.ref L) H'
noncomputable abbrev q2k:Stmt:=top 22
theorem sc_from_thing_on:FnScope ["path", "nexts", "told"] ["path", "nexts"] (defScope q2k):=by trivial
theorem x4x(D:Df K mg "from_thing_on" q2k ["path", "nexts"])(T:Txt mg):Cal P w K mg base "from_thing_on" 1 ["path", "nexts"] spFrom:=by
 refine D.cal sc_from_thing_on (fun vs H Q E h=>?_) (fun f a2 A outer s H vs Q E Y h=>?_)
 ·obtain⟨b,N,ns,g,ps,p,rfl,_⟩:=h;rfl
 ·obtain⟨b,N,ns,g,ps,p,rfl,hb,a0,F,hp,a3,v,k⟩:=h;refine⟨_,(q0e (q0j (i:=2) sc_from_thing_on.nd rfl (by trivial) (q2a (q0a (pv 0) q0c))) (q0e (q8v Ca (pt_j (@PW.pt _ _ _ (q3k (q2t (z7j (q1q Y) (q1k (ix_k K rfl) (pv 2) (q1w q0x q0g) (fun _ _=>rfl)) (pv 1))) (q2q (q0n (ne_k K rfl Y) (q1o (q1q Y) (pv 1) (q1k (ix_k K rfl) (pv 2) (q1w q0x q0g) (fun _ _=>rfl)) (fun _ _=>rfl)) (pv 0) (nomark _)))))) (q0f (q2b (@bm_k _ _ _ _ _ _ _ _ _ _ _ _ K rfl Cq Eu Ew q2f (pv 2) (q0a (q1o (q1q Y) (pv 1) (q1k (ix_k K rfl) (pv 2) (q1w q0x q0g) (fun _ _=>rfl)) (fun _ _=>rfl)) q0c) (by rfl) (by rfl) (by rfl) (by rfl) (by rfl))))) (q0f (q0m (pv 2))))),?_⟩;refine⟨_,rfl,by show 1<=sizeLine;decide,fun L hL=>?_⟩;have B:=(Same.refl H).new (o:=.lst [.ref b]) hL;refine q8w (fun M Z=>∃u:List Zp,M=[some (.ref b),some (.ref N),some (.ref L)]/\Same H Z/\PL Z L u/\Trk g p (u.map (·.2))) (fun _ Z=>100-lenAt L Z) ⟨[(b,p)],rfl,B,⟨q0b,fun z hz=>by rw[Aj.mp hz];exact⟨B _ _ hb,v p hp⟩⟩,Trk.one⟩ ?_ ?_
  ·rintro M H1 ⟨u,rfl,B,pl,t⟩;have O:u≠[]:=fun z=>by have:=t.hd;rw[z] at this;cases this
   have j:=Bh O;generalize u.getLast O=z at j;have C:atI (u.map fun z=>V.ref z.1) (-1)=some (.ref z.1):=z0b (by rw[Eo,j];rfl);have U:(u.map (·.2)).getLast?=some z.2:=by rw[Eo,j];rfl
   have a1:=Ee j;have W:=(pl.pr z a1).1;have zl:u.length<=30:=by have:=t.len F hp;rw[Aa] at this;lia
   have X:=a0.same B;refine⟨fun bb H2=>H2=H1/\(bb=true->∃q,g z.2=some q/\q≠p)/\(bb=false->g z.2=none\/g z.2=some p),?_,?_⟩
   ·rintro bb H2 ⟨rfl,hT,hF⟩;refine ite2 (fun h=>?_) (fun h=>⟨_,rfl,k L u _ hL B pl ⟨t,fun{x} hx=>by rw[U] at hx;cases hx;exact hF (by simpa using h)⟩⟩);obtain⟨q,G,nq⟩:=hT h;rcases X.get W with⟨e,_⟩|⟨q',e,I,dg,he⟩
    ·rw[G] at e;cases e
    rw[G] at I;cases I;refine⟨_,rfl,.inl ⟨rfl,_,SqL.of pl.at_⟩,_,rfl,_,rfl,_,rfl,.inl ⟨L,_,-1,_,rfl,rfl,SqL.of pl.at_,C,N,_,rfl,dg,?_⟩⟩;refine⟨L,_,_,rfl,rfl,pl.at_,by rw[Aa];exact small' (by lia),?_⟩;have tk:∀S xs,H2 S=some (.tup xs)->upd H2 L (.lst (u.map (fun z=>V.ref z.1)++[.ref e])) S=some (.tup xs):=fun S xs e=>by
     rw[q0d (fun z=>by rw[z,pl.at_] at e;cases e)];exact e
    have t2:=t.more F U G nq;refine⟨⟨u++[(e,q)],rfl,B.put hL,⟨by rw[q0b,Ae];rfl,fun y J=>?_⟩,by rw[Ae];exact t2⟩,?_⟩
    ·rcases Ar.mp J with J|J
     ·exact⟨tk _ _ (pl.pr y J).1,(pl.pr y J).2⟩
     ·rw[Aj.mp J];exact⟨tk _ _ he,v q (F.to G)⟩
    ·rw[q4c q0b,q4c pl.at_,Al,Aa];show 100-(u.length+1)<100-u.length;lia
   ·refine⟨_,rfl,_,rfl,.inl ⟨L,_,-1,_,rfl,rfl,SqL.of pl.at_,C,_,rfl,?_⟩⟩;rcases X.get W with⟨e,dg⟩|⟨q,e,I,dg,he⟩
    ·exact⟨N,_,rfl,dg,_,rfl,iteF ⟨rfl,(fun z=>by cases z),fun _=>.inl e⟩⟩
    ·refine⟨N,_,rfl,dg,_,rfl,iteT ?_⟩;refine⟨_,rfl,_,rfl,_,rfl,.inl ⟨L,_,-1,_,rfl,rfl,SqL.of pl.at_,C,N,_,rfl,dg,_,rfl,q3z he (B _ _ hb) (v q (F.to I)).low (v p hp).low ⟨_,rfl,rfl,fun h=>⟨q,I,by simpa using h⟩,fun h=>.inr (by rw[I];congr 1;simpa using h)⟩⟩⟩
  ·intro a4 H3 Q1 Q2 G h;obtain⟨R,h1,h2⟩:=h;exact⟨R,fun b H1 r=>G _ _ (h1 b H1 r),h2⟩
theorem Trk.headD{g:Pth->Option Pth}{p:Pth}{xs:List Pth}(t:Trk g p xs):xs.headD []=p:=by
 have:=t.hd;cases xs with
 |nil=>cases this
 |cons a l=>exact Bx this
theorem q8r{u:Type}{f:u->Pth}{rs j:List u}(so:(rs.map f).Pairwise (fun a b=>pLt b a=false))(s:(j.map f).Pairwise (fun a b=>pLt b a=false))(nd:(rs.map f).Nodup)(q:(j.map f).Nodup)(is:∀x,x∈rs↔x∈j):rs=j:=by
 have e:=q4n ((Hz nd q).mpr fun x=>⟨fun h=>by obtain⟨a,ha,rfl⟩:=Ac.mp h;exact Ac.mpr ⟨a,(is a).mp ha,rfl⟩,fun h=>by obtain⟨a,ha,rfl⟩:=Ac.mp h;exact Ac.mpr ⟨a,(is a).mpr ha,rfl⟩⟩) nd so s;refine Vb fun i=>?_;have g:=congrArg (fun l=>l[i]?) e;simp only[Ak] at g;cases h1:rs[i]? with
 |none =>
  cases h2:j[i]? with
  |none=>rfl
  |some y=>rw[h1,h2] at g;cases g
 |some x =>
  cases h2:j[i]? with
  |none=>rw[h1,h2] at g;cases g
  |some y =>
   rw[h1,h2] at g;rw[q0q q ((is x).mp (Ah h1)) (Ah h2) (Bx g)]
noncomputable abbrev Zl:=Addr×List Zp
noncomputable abbrev cont(z:Zl):List Pth:=z.2.map (·.2)
structure LLs (H:Hp) (L:Addr) (zs:List Zl):Prop where
 at_:H L=some (.lst (zs.map fun z=>V.ref z.1))
 pr:∀z∈zs,PL H z.1 z.2
theorem LLs.same{H H':Hp}{L:Addr}{zs:List Zl}(h:LLs H L zs)(s:Same H H'):LLs H' L zs:=⟨s _ _ h.at_,fun z e=>(h.pr z e).same s⟩
theorem PL.headAt{H:Hp}{L:Addr}{zs:List Zp}(h:PL H L zs)(ne:zs≠[]):HdL H L ((zs.map (·.2)).headD [])/\Low ((zs.map (·.2)).headD []):=by
 cases zs with
 |nil=>exact absurd rfl ne
 |cons z zs=>exact⟨⟨z.1,_,h.at_,(h.pr z As).1⟩,(h.pr z As).2.low⟩
structure CallsRg (P:Ay) (w:World) (K:Aq) (mg:Str->Option Value) (base:Heap) (c:Addr):Prop where
 asked_next_ones:Cal P w K mg base "asked_next_ones" 9 ["hall", "wishes"] (spAN c)
 from_thing_on:Cal P w K mg base "from_thing_on" 1 ["path", "nexts"] spFrom
noncomputable abbrev gOf(bl:Bool)(rows:List Rw)(ms:List Mv):Pth->Option Pth:=nx bl (rows.map (·.1)) (plc ms)
theorem Mvg.dom{bl:Bool}{rows:List Rw}{f:Pth->Pth}{ms:List Pth}{p q:Pth}(m:Mvg bl rows f ms)(hl:Hl bl rows)(h:nx bl (rows.map (·.1)) f p=some q):p∈ms:=m.is.mpr ⟨((q0t hl).mp h).1,((q0t hl).mp h).2.1⟩
structure ChnP (g:Pth->Option Pth) (p:Pth) (xs:List Pth):Prop where
 o:Orb g p xs
 st:∀q,g q≠some p
open Classical in
noncomputable def isSt (g:Pth->Option Pth) (p:Pth):Bool:=decide (∀q,g q≠some p)
theorem isSt_iff{g:Pth->Option Pth}{p:Pth}:isSt g p=true↔∀q,g q≠some p:=by unfold isSt;exact @decide_eq_true_iff _ (Classical.propDecidable _)
structure Chs (g:Pth->Option Pth) (mv:Pth->Prop) (rs:List (List Pth)):Prop where
 so:(rs.map (·.headD [])).Pairwise (fun a b=>pLt b a=false)
 nd:(rs.map (·.headD [])).Nodup
 is:∀{xs},xs∈rs↔∃p,mv p/\ChnP g p xs
theorem Chs.uniq{g:Pth->Option Pth}{mv:Pth->Prop}{rs e:List (List Pth)}(a:Chs g mv rs)(b:Chs g mv e):rs=e:=q8r a.so b.so a.nd b.nd fun _=>a.is.trans b.is.symm
theorem Chs.of{g:Pth->Option Pth}{mv:Pth->Prop}{rs:List (List Pth)}{ms:List Pth}(nd:ms.Nodup)(h:∀{p},p∈ms↔mv p)(all:∀xs∈rs,ChnP g (xs.headD []) xs)(e:(rs.map (·.headD [])).Perm (ms.filter (isSt g)))(so:(rs.map (·.headD [])).Pairwise (fun a b=>pLt b a=false)):Chs g mv rs:=by
 refine⟨so,e.nodup_iff.mpr (nd.filter _),fun{xs}=>⟨fun j=>?_,fun⟨p,v,c⟩=>?_⟩⟩
 ·have f:xs.headD []∈ms.filter (isSt g):=e.mem_iff.mp (Ac.mpr ⟨xs,j,rfl⟩);exact⟨_,h.mp (Di.mp f).1,all xs j⟩
 ·have f:p∈rs.map (·.headD []):=e.mem_iff.mpr (Di.mpr ⟨h.mpr v,isSt_iff.mpr c.st⟩);obtain⟨q,s,B⟩:=Ac.mp f;have u:=all q s;rw[show q.headD []=p from B] at u;rw[c.o.uniq u.o];exact s
noncomputable abbrev mvOf(rows:List Rw)(ms:List Mv):Pth->Prop:=fun p=>p∈rows.map (·.1)/\plc ms p≠p
noncomputable def spChains(c:Addr):Sp:=fun vs H Q _=>∃h d L bl rows zs,vs=[.ref h,.ref L]/\GW c H h d L bl rows zs /\
 ∀R rs H',H R=none->(∀z∈rs,H z.1=none)->Same H H'->LLs H' R rs->Chs (gOf bl rows (zs.map (·.2))) (mvOf rows (zs.map (·.2))) (rs.map cont)->(∀z∈rs,z.1≠R)->Q (.ref R) H'
noncomputable abbrev q7o:Stmt:=top 24
theorem sc_chains:FnScope ["hall", "wishes", "moving", "nexts", "followed"] ["hall", "wishes"] (defScope q7o):=by trivial
theorem z8u{c:Addr}(D:Df K mg "chains" q7o ["hall", "wishes"])(T:Txt mg)(C:CallsRg P w K mg base c):Cal P w K mg base "chains" 10 ["hall", "wishes"] (spChains c):=by
 refine D.cal sc_chains (fun vs H Q E h=>?_) (fun f c0 A outer s H vs Q E hr h=>?_)
 ·obtain⟨h,d,L,bl,rows,zs,rfl,_⟩:=h;rfl
 ·obtain⟨h,d,L,bl,rows,zs,rfl,G,k⟩:=h;refine⟨_,(q0e (q7u (pe_c C.asked_next_ones hr (q0a (pv 0) (q0a (pv 1) q0c))) (@q2l _ _ _ _ (2) _ K rfl rfl (q0k (q0h (i:=2) sc_chains.nd rfl (by trivial)) (q0k (q0h (i:=3) sc_chains.nd rfl (by trivial)) q1m)) (by rfl) (by rfl))) (q0e (q0j (i:=4) sc_chains.nd rfl (by trivial) (q1x (z5p rfl) (by rfl) T.b_list (by trivial) (q0a (@q9h _ _ _ _ _ _ _ _ _ K rfl Iw PySem.F.slot_dict_values PySem.F.type_dict_values z8k (pv 3) (by rfl) (by rfl)) q0c))) (q0f (q0m (q0l (q4a hr) (by rfl) T.b_sorted (by trivial) (q0a (q1g ["path"] [("nexts",3),("followed",4)] rfl (@q1y _ _ _ _ K rfl (pv 2)) (fun _ _ _ _ _=>(q0h (i:=0) (show(["path", "nexts", "followed"]:List Str).Nodup by trivial) rfl (by trivial))) (fun _ _ _ _ _=>(q3m (q0n (nin_P hr) (pv 0) (pv 2) (by with_unfolding_all rfl)))) (fun _ _ _ _ _=>(pe_c C.from_thing_on hr (q0a (pv 0) (q0a (pv 1) q0c))))) q0c)))))),?_⟩;refine⟨_,rfl,_,rfl,h,d,L,bl,rows,zs,rfl,G,fun T' M mz N ns H1 s1 hM hN hT pl mv I=>?_⟩;refine⟨T',_,rfl,SqT.of hT,rfl,_,_,rfl,_,_,rfl,rfl,?_⟩;have hl:=G.hl;have F:=z2d hl G.ap;have b0:(rows.map (·.1)).length<=30:=by rw[Aa];exact G.few
  have a1:∀x∈rows.map (·.1),okP x:=fun x j=>by obtain⟨r,b1,rfl⟩:=Ac.mp j;exact hl.ok r b1
  generalize hg:nx bl (rows.map (·.1)) (plc (zs.map (·.2)))=g at I F;have b2:mz.length<=30:=by
   have:=q7t mv.nd (m:=rows.map (·.1)) fun x j=>(mv.is.mp j).1;rw[Aa] at this;lia
  have c1:ns.length<=30:=by
   have:=q7t I.nd (m:=rows.map (·.1)) fun x j=>by obtain⟨m,hm,rfl⟩:=Ac.mp j;exact F.dom (I.is.mp hm)
   rw[Aa,Aa] at this;lia
  refine⟨_,rfl,.inr (.inr (.inl ⟨rfl,.inr ⟨_,I.pd.at_⟩⟩)),N,_,rfl,rfl,I.pd.at_,fun v hv=>?_⟩;have sv:=(Same.refl H1).new (o:=vlO v N) hv;refine⟨v,N,ns.map fun x=>(x.2.1,.ref x.1),rfl,q0b,sv _ _ I.pd.at_,by rw[Aa];lia,fun Fo b3=>?_⟩;have sF:=(Same.refl (upd H1 v (vlO v N))).new (o:=.lst ((ns.map fun x=>((x.2.1,.ref x.1):HRow)).map (·.2))) b3;have a2:upd (upd H1 v (vlO v N)) Fo (.lst ((ns.map fun x=>((x.2.1,.ref x.1):HRow)).map (·.2))) Fo=some (.lst ((ns.map (·.1)).map V.ref)):=by rw[q0b,An,An];rfl
  have R:=sv.trans sF;generalize upd (upd H1 v (vlO v N)) Fo (.lst ((ns.map fun x=>((x.2.1,.ref x.1):HRow)).map (·.2)))=H2 at R a2;have U:=pl.same R;have b4:=I.same R;refine⟨_,rfl,.inl ⟨M,rfl,⟨_,SqL.of U.at_⟩,fun Dc a3=>?_⟩⟩;refine q1i (fun i ys H'=>∃O:List Zl,ys=O.map (fun z=>V.ref z.1)/\Same H2 H'/\H' Dc=some (.lst ys)/\(∀z∈O,PL H' z.1 z.2/\H2 z.1=none/\z.1≠Dc/\ChnP g ((cont z).headD []) (cont z))/\O.map (fun z=>(cont z).headD [])=((mz.map (·.2)).take i).filter (isSt g)) ⟨[],rfl,(Same.refl H2).new a3,q0b,(fun _ h=>nomatch h),rfl⟩ (fun i ys H' h=>by obtain⟨O,_,s',h',_⟩:=h;exact⟨h',SqL.of (s' _ _ U.at_)⟩) ?_ ?_
  ·rintro i ys H3 v' b5 ⟨O,rfl,X,S,B,ers⟩;obtain⟨z,J,rfl⟩:=gR0 b5
   have Y:=Ah J;have b6:=(mv.is.mp (Ac.mpr ⟨z,Y,rfl⟩)).1;have e1:(mz.map (·.2)).take (i+1)=(mz.map (·.2)).take i++[z.2]:=by rw[Br,Ak,J];rfl
   have a4:=X _ _ (U.pr z Y).1;have b7:=(U.pr z Y).2;have W:=b4.same X;have rl:O.length<=30:=by
    have e:=congrArg List.length ers;rw[Aa] at e;rw[e];refine Ce (Dk _ _) ?_;rw[Bp,Aa];lia
   have a5:(ns.map (·.1)).any (inP H3 z.2)=true↔∃q,g q=some z.2:=by
    rw[Vy];constructor
    ·rintro⟨b,hb,e⟩;obtain⟨x,j,rfl⟩:=Ac.mp hb;rw[z1o (W.pd.pr x j)] at e;have e:=of_decide_eq_true e;exact⟨x.2.1,by rw[<- e];exact I.is.mp (Ac.mpr ⟨x,j,rfl⟩)⟩
    ·rintro⟨q,hq⟩;obtain⟨x,j,ex⟩:=Ac.mp (I.is.mpr (show g (q,z.2).1=some (q,z.2).2 from hq));refine⟨x.1,Ac.mpr ⟨x,j,rfl⟩,?_⟩;rw[z1o (W.pd.pr x j),ex];exact decide_eq_true rfl
   refine⟨q0u,_,rfl,_,rfl,z.1,Fo,ns.map (·.1),z.2,rfl,rfl,X _ _ a2,a4,b7.low,fun b hb=>?_,_,rfl,?_⟩
   ·obtain⟨x,j,rfl⟩:=Ac.mp hb;exact⟨x.2.2,W.pd.pr x j,(a1 _ (F.to (I.is.mp (Ac.mpr ⟨x,j,rfl⟩)))).low⟩
   refine iteB (fun hc=>?_) (fun hc=>?_)
   ·have hst':∀q,g q≠some z.2:=fun q hq=>by
     have:=a5.mpr ⟨q,hq⟩;rw[this] at hc;cases hc
    refine⟨_,rfl,_,rfl,z.1,N,ns,g,_,z.2,rfl,a4,W,F,b6,b0,a1,fun Lr zr H4 Z s4 b8 orb=>?_⟩;have a6:=s4 _ _ S;have a7:Lr≠Dc:=fun e=>by rw[e,S] at Z;cases Z
    have kD:∀{x:Addr} {xs:List Zp},x≠Dc->PL H4 x xs->PL (upd H4 Dc (.lst (O.map (fun z=>V.ref z.1)++[.ref Lr]))) x xs:=fun{x xs} n p=>⟨by rw[q0d n];exact p.at_,fun u hu=>⟨by rw[q0d (fun z=>by have e:=(p.pr u hu).1;rw[z,a6] at e;cases e)];exact(p.pr u hu).1,(p.pr u hu).2⟩⟩
    have hd:(zr.map (·.2)).headD []=z.2:=orb.headD;refine⟨a6,small' (by rw[Aa];lia),O++[(Lr,zr)],by rw[Ae];rfl,(X.trans s4).put a3,q0b,fun x j=>?_,?_⟩
    ·rcases Ar.mp j with j|j
     ·exact⟨kD (B x j).2.2.1 ((B x j).1.same s4),(B x j).2⟩
     ·rw[Aj.mp j];exact⟨kD a7 b8,X.free Z,a7,by show ChnP g ((zr.map (·.2)).headD []) (zr.map (·.2));rw[hd];exact⟨orb,hst'⟩⟩
    ·rw[e1,Ed,Dm (isSt_iff.mpr hst'),Ae,ers];show _++[(zr.map (·.2)).headD []]=_;rw[hd];rfl
   ·have hc':(ns.map (·.1)).any (inP H3 z.2)=true:=by simpa using hc
    obtain⟨q,hq⟩:=a5.mp hc';refine⟨O,rfl,X,S,B,?_⟩;rw[e1,Ed,Dl (fun h=>isSt_iff.mp h q hq),ers];simp
  ·rintro ys H3 ⟨O,rfl,X,S,B,ers⟩;rw[Aa,<- Aa (f:=fun z:Zp=>z.2),Ba] at ers;have b9:(O.map fun z=>(cont z).headD []).Nodup:=by rw[ers];exact mv.nd.filter _
   have rl:O.length<=30:=by
    have e:=congrArg List.length ers;rw[Aa] at e;rw[e];exact Ce (Dk _ _) (by rw[Aa];exact b2)
   have ne:∀z∈O,z.2≠[]:=fun z J e=>by
    have:=(B z J).2.2.2.o.hd;unfold cont at this;rw[e] at this;cases this
   refine⟨List Zp,(fun l=>(l.map (·.2)).headD []),Dc,O,rfl,S,by lia,fun z J=>(B z J).1.headAt (ne z J),b9,fun R2 a8 a0 pm pw=>?_⟩;have sR:=(Same.refl H3).new (o:=.lst (a8.map fun z=>V.ref z.1)) a0;have a9:=(s1.trans R).trans X;refine k R2 a8 _ (a9.free a0) (fun z J=>(s1.trans R).free (B z (pm.mem_iff.mp J)).2.1) (a9.trans sR) ⟨q0b,fun z J=>((B z (pm.mem_iff.mp J)).1).same sR⟩ ?_ (fun z J e=>by have e9:=(B z (pm.mem_iff.mp J)).1.at_;rw[e,a0] at e9;cases e9);show Chs (nx bl (rows.map (·.1)) (plc (zs.map (·.2)))) _ _;rw[hg];refine Chs.of mv.nd mv.is (fun xs j=>?_) ?_ (by rw[An];exact pw)
   ·obtain⟨z,J,rfl⟩:=Ac.mp j;exact(B z (pm.mem_iff.mp J)).2.2.2
   ·rw[An,<- ers];exact pm.map _
structure RingP (g:Pth->Option Pth) (p:Pth) (xs:List Pth):Prop where
 o:Orb g p xs
 r:∃x,xs.getLast?=some x/\g x=some p
 least:∀y∈xs,pLt y p=false
open Classical in
noncomputable def isRM (g:Pth->Option Pth) (p:Pth):Bool:=decide (∃xs,RingP g p xs)
theorem isRM_iff{g:Pth->Option Pth}{p:Pth}:isRM g p=true↔∃xs,RingP g p xs:=by unfold isRM;exact @decide_eq_true_iff _ (Classical.propDecidable _)
theorem z8v{g:Pth->Option Pth}{p:Pth}{xs:List Pth}(o:Orb g p xs):isRM g p=true↔RingP g p xs :=
 isRM_iff.trans ⟨fun⟨e,h⟩=>by rw[o.uniq h.o];exact h,fun h=>⟨xs,h⟩⟩
structure Rgs (g:Pth->Option Pth) (rs:List (List Pth)):Prop where
 so:(rs.map (·.headD [])).Pairwise (fun a b=>pLt b a=false)
 nd:(rs.map (·.headD [])).Nodup
 is:∀{xs},xs∈rs↔∃p,RingP g p xs
theorem Rgs.uniq{g:Pth->Option Pth}{rs e:List (List Pth)}(a:Rgs g rs)(b:Rgs g e):rs=e:=q8r a.so b.so a.nd b.nd fun _=>a.is.trans b.is.symm
theorem RingP.dom{g:Pth->Option Pth}{p:Pth}{xs:List Pth}(h:RingP g p xs):∃y,g p=some y:=by
 obtain⟨x,f,j⟩:=h.r;cases e:xs[1]? with
 |some y=>exact⟨y,h.o.st h.o.hd e⟩
 |none=>exact⟨p,by rw[q2s h.o.hd e f];rw[<- q2s h.o.hd e f] at j ⊢;exact j⟩
noncomputable def spRings(c:Addr):Sp:=fun vs H Q _=>∃h d L bl rows zs,vs=[.ref h,.ref L]/\GW c H h d L bl rows zs /\
 ∀R rs H',H R=none->(∀z∈rs,H z.1=none)->Same H H'->LLs H' R rs->Rgs (gOf bl rows (zs.map (·.2))) (rs.map cont)->(∀z∈rs,z.1≠R)->Q (.ref R) H'
noncomputable abbrev z0e:Stmt:=top 23
theorem sc_rings:FnScope ["hall", "wishes", "moving", "nexts", "told", "path", "ring"] ["hall", "wishes"] (defScope z0e):=by trivial
theorem x1j{c:Addr}(D:Df K mg "rings" z0e ["hall", "wishes"])(T:Txt mg)(C:CallsRg P w K mg base c):Cal P w K mg base "rings" 10 ["hall", "wishes"] (spRings c):=by
 refine D.cal sc_rings (fun vs H Q E h=>?_) (fun f c6 A outer s H vs Q E hr h=>?_)
 ·obtain⟨h,d,L,bl,rows,zs,rfl,_⟩:=h;rfl
 ·obtain⟨h,d,L,bl,rows,zs,rfl,G,k⟩:=h;refine⟨_,(q0e (q7u (pe_c C.asked_next_ones hr (q0a (pv 0) (q0a (pv 1) q0c))) (@q2l _ _ _ _ (2) _ K rfl rfl (q0k (q0h (i:=2) sc_rings.nd rfl (by trivial)) (q0k (q0h (i:=3) sc_rings.nd rfl (by trivial)) q1m)) (by rfl) (by rfl))) (q0e (q0j (i:=4) sc_rings.nd rfl (by trivial) (q2a q0c)) (q0e (q1u Ca rfl (@q1y _ _ _ _ K rfl (pv 2)) (q0h (i:=5) sc_rings.nd rfl (by trivial)) (q0e (q0j (i:=6) sc_rings.nd rfl (by trivial) (pe_c C.from_thing_on hr (q0a (pv 5) (q0a (pv 3) q0c)))) (q0f (q1s (pt_j (@PW.pt _ _ _ (q3k (q0n (eq_k K rfl hr) (x0g (q1q hr) (pv 3) (q1k (ix_k K rfl) (pv 6) (q1w q0x q0g) (fun _ _=>rfl)) ⟨rfl,rfl,rfl,rfl⟩) (pv 5) (nomark _)) (q2q (q0n (eq_k K rfl hr) (pv 5) (q0l (z1u rfl hr) (by rfl) T.b_min (by trivial) (q0a (pv 6) q0c)) (nomark _)))))) (q0f (q2b (@bm_k _ _ _ _ _ _ _ _ _ _ _ _ K rfl Cq Eu Ew q2f (pv 4) (q0a (pv 6) q0c) (by rfl) (by rfl) (by rfl) (by rfl) (by rfl)))) q0o)))) (q0f (q0m (q0l (q4a hr) (by rfl) T.b_sorted (by trivial) (q0a (pv 4) q0c))))))),?_⟩;refine⟨_,rfl,_,rfl,h,d,L,bl,rows,zs,rfl,G,fun T' M mz N ns H1 s1 hM hN hT pl mv a2=>?_⟩;refine⟨T',_,rfl,SqT.of hT,rfl,_,_,rfl,_,_,rfl,rfl,?_⟩;have hl:=G.hl;have F:=z2d hl G.ap;have c1:(rows.map (·.1)).length<=30:=by rw[Aa];exact G.few
  have b3:∀x∈rows.map (·.1),okP x:=fun x j=>by obtain⟨r,c2,rfl⟩:=Ac.mp j;exact hl.ok r c2
  generalize hg:nx bl (rows.map (·.1)) (plc (zs.map (·.2)))=g at a2 F;have c3:mz.length<=30:=by
   have:=q7t mv.nd (m:=rows.map (·.1)) fun x j=>(mv.is.mp j).1;rw[Aa] at this;lia
  refine⟨by show 0<=sizeLine;decide,fun R hR=>?_⟩;refine⟨_,rfl,.inl ⟨M,rfl,⟨_,SqL.of ((pl.same ((Same.refl H1).new hR)).at_)⟩,?_⟩⟩;refine q3v (fun i Y H'=>∃(S:List Zl) (x5 x6:Option V),Y=[some (.ref h),some (.ref L),some (.ref M),some (.ref N),some (.ref R),x5,x6]/\Same H1 H'/\H' R=some (.lst (S.map fun z=>V.ref z.1))/\(∀z∈S,PL H' z.1 z.2/\H1 z.1=none/\z.1≠R/\RingP g ((cont z).headD []) (cont z))/\S.map (fun z=>(cont z).headD [])=((mz.map (·.2)).take i).filter (isRM g)/\(S.map (·.1)).Nodup) ⟨[],_,_,rfl,(Same.refl H1).new hR,q0b,(fun _ h=>nomatch h),rfl,.nil⟩ (fun i Y H' _ x=>by obtain⟨_,_,_,_,s',_⟩:=x;exact SqL.of (s' _ _ pl.at_)) ?_ ?_
  ·rintro i v Y H2 hv ⟨S,x5,x6,rfl,s2,X,B,ers,a3⟩;obtain⟨z,O,rfl⟩:=gR0 hv
   have a4:=Ah O;have b4:=(mv.is.mp (Ac.mpr ⟨z,a4,rfl⟩)).1;have e1:(mz.map (·.2)).take (i+1)=(mz.map (·.2)).take i++[z.2]:=by rw[Br,Ak,O];rfl
   have b5:=s2 _ _ (pl.pr z a4).1;have a5:=(pl.pr z a4).2;have rl:S.length<=30:=by
    have e:=congrArg List.length ers;have l2:=Dk (isRM g) ((mz.map (·.2)).take i);rw[Aa] at e;rw[Bp,Aa] at l2;lia
   refine⟨_,rfl,_,rfl,z.1,N,ns,g,_,z.2,rfl,b5,a2.same s2,F,b4,c1,b3,fun Lr W H3 Z s3 U orb=>?_⟩;have a6:=s2.trans s3;have a7:W≠[]:=fun z=>by have:=orb.hd;rw[z] at this;cases this
   have I:=Bh a7;generalize W.getLast a7=y at I;have c4:atI (W.map fun z=>V.ref z.1) (-1)=some (.ref y.1):=z0b (by rw[Eo,I];rfl);have a8:(W.map (·.2)).getLast?=some y.2:=by rw[Eo,I];rfl
   have hy:=Ee I;have b6:=a2.same a6;have a9:=s3 _ _ b5;have c7:W.length<=30:=by have:=orb.len F b4;rw[Aa] at this;lia
   refine⟨fun bb H4=>H4=H3/\(bb=true↔RingP g z.2 (W.map (·.2))),?_,?_⟩;rotate_left
   ·refine⟨_,rfl,N,rfl,.inr ⟨_,.inl b6.pd.at_⟩,_,rfl,_,rfl,.inl ⟨Lr,_,-1,_,rfl,rfl,SqL.of U.at_,c4,?_⟩⟩;rcases b6.get (U.pr y hy).1 with⟨e,dg⟩|⟨q,e,e1,dg,he⟩
    ·refine⟨_,dg,_,rfl,x4w a9 a5.low ⟨_,rfl,iteF ⟨rfl,(fun z=>by cases z),fun r=>?_⟩⟩⟩;obtain⟨x,j,gx⟩:=r.r;rw[a8] at j;cases j;rw[e] at gx;cases gx
    ·refine⟨_,dg,_,rfl,q2g he a9 (b3 q (F.to e1)).low a5.low ⟨_,rfl,iteB (fun hc=>?_) (fun hc=>⟨rfl,(fun z=>by cases z),fun r=>?_⟩)⟩⟩
     ·have hc:=of_decide_eq_true hc;refine⟨_,rfl,_,rfl,Lr,W,rfl,U.at_,a7,Hj (small' (by lia)),fun u hu=>(U.pr u hu).1,fun u hu a0=>?_⟩;refine q2g a9 (U.pr u hu).1 a5.low (U.pr u hu).2.low ⟨_,rfl,rfl,fun hb=>?_,fun r=>?_⟩
      ·have eu:=of_decide_eq_true hb;refine⟨orb,⟨y.2,a8,by rw[e1,hc]⟩,fun p hp=>?_⟩;obtain⟨u',b0,rfl⟩:=Ac.mp hp;rw[eu];exact a0 u' b0
      ·refine decide_eq_true ?_;have b7:z.2∈W.map (·.2):=Ah orb.hd;obtain⟨u',b0,e5⟩:=Ac.mp b7;refine q5k ?_ (r.least u.2 (Ac.mpr ⟨u,hu,rfl⟩));rw[<- e5];exact a0 u' b0
     ·have hc:=of_decide_eq_false hc;obtain⟨x,j,gx⟩:=r.r;rw[a8] at j;cases j;rw[e1] at gx;cases gx;exact absurd rfl hc
   rintro bb H4 ⟨rfl,a1⟩;have hd:(W.map (·.2)).headD []=z.2:=orb.headD;have c5:H1 R=none:=hR;have J:∀x∈S,PL H4 x.1 x.2/\H1 x.1=none/\x.1≠R/\RingP g ((cont x).headD []) (cont x):=fun x j=>⟨(B x j).1.same s3,(B x j).2⟩
   refine ite2 (fun hb=>?_) (fun hb=>?_)
   ·have b1:=s3 _ _ X;have b8:Lr≠R:=fun e=>by rw[e,X] at Z;cases Z
    refine⟨_,rfl,.inl ⟨rfl,_,SqL.of b1⟩,_,rfl,R,_,_,rfl,rfl,b1,by rw[Aa];exact small' (by lia),?_⟩;have kR:∀{x:Addr} {xs:List Zp},x≠R->PL H4 x xs->PL (upd H4 R (.lst (S.map (fun z=>V.ref z.1)++[.ref Lr]))) x xs:=fun{x xs} n p=>⟨by rw[q0d n];exact p.at_,fun u hu=>⟨by rw[q0d (fun z=>by have e:=(p.pr u hu).1;rw[z,b1] at e;cases e)];exact(p.pr u hu).1,(p.pr u hu).2⟩⟩
    have rp:=a1.mp hb;refine⟨S++[(Lr,W)],_,_,rfl,a6.put c5,by rw[q0b,Ae];rfl,fun x j=>?_,?_,?_⟩
    ·rcases Ar.mp j with j|j
     ·exact⟨kR (J x j).2.2.1 (J x j).1,(J x j).2⟩
     ·rw[Aj.mp j];exact⟨kR b8 U,s2.free Z,b8,by show RingP g ((W.map (·.2)).headD []) (W.map (·.2));rw[hd];exact rp⟩
    ·rw[e1,Ed,Dm ((z8v orb).mpr rp),Ae,ers];show _++[(W.map (·.2)).headD []]=_;rw[hd];rfl
    ·rw[Ae];refine Dz.mpr ⟨a3,z8r,fun a ha b hb e=>?_⟩;rw[Aj.mp hb] at e;obtain⟨x,j,rfl⟩:=Ac.mp ha;have e9:=(B x j).1.at_;rw[show x.1=Lr from e,Z] at e9;cases e9
   ·refine⟨S,_,_,rfl,a6,s3 _ _ X,J,?_,a3⟩;rw[e1,Ed,Dl (fun h=>hb (a1.mpr ((z8v orb).mp h))),ers];simp
  ·rintro Y H2 ⟨S,x5,x6,rfl,s2,X,B,ers,a3⟩;rw[Aa,<- Aa (f:=fun z:Zp=>z.2),Ba] at ers;have b9:(S.map fun z=>(cont z).headD []).Nodup:=by rw[ers];exact mv.nd.filter _
   have rl:S.length<=30:=by
    have e:=congrArg List.length ers;rw[Aa] at e;rw[e];exact Ce (Dk _ _) (by rw[Aa];exact c3)
   have ne:∀z∈S,z.2≠[]:=fun z O e=>by
    have:=(B z O).2.2.2.o.hd;unfold cont at this;rw[e] at this;cases this
   refine⟨_,rfl,List Zp,(fun l=>(l.map (·.2)).headD []),R,S,rfl,X,by lia,fun z O=>(B z O).1.headAt (ne z O),b9,fun R2 c0 b2 pm pw=>?_⟩;have sR:=(Same.refl H2).new (o:=.lst (c0.map fun z=>V.ref z.1)) b2;refine k R2 c0 _ ((s1.trans s2).free b2) (fun z O=>s1.free (B z (pm.mem_iff.mp O)).2.1) ((s1.trans s2).trans sR) ⟨q0b,fun z O=>((B z (pm.mem_iff.mp O)).1).same sR⟩ ?_ (fun z O e=>by have e9:=(B z (pm.mem_iff.mp O)).1.at_;rw[e,b2] at e9;cases e9);show Rgs (nx bl (rows.map (·.1)) (plc (zs.map (·.2)))) _;rw[hg];refine⟨by rw[An];exact pw,by rw[An];exact(pm.map _).nodup_iff.mpr b9,fun{xs}=>⟨fun j=>?_,fun⟨p,hp⟩=>?_⟩⟩
   ·obtain⟨z,O,rfl⟩:=Ac.mp j;exact⟨_,(B z (pm.mem_iff.mp O)).2.2.2⟩
   ·obtain⟨y,hy⟩:=hp.dom;have hm:p∈mz.map (·.2):=by rw[<- hg] at hy;exact mv.dom hl hy
    have hf:p∈S.map fun z=>(cont z).headD []:=by rw[ers];exact Di.mpr ⟨hm,isRM_iff.mpr ⟨xs,hp⟩⟩
    obtain⟨z,O,e⟩:=Ac.mp hf;have rp:=(B z O).2.2.2;rw[e] at rp;rw[hp.o.uniq rp.o];exact Ac.mpr ⟨z,pm.mem_iff.mpr O,rfl⟩
theorem q4d{bl:Bool}{rows:List Rw}{ms:List Mv}(hl:Hl bl rows)(gw:GoodW rows ms):∀{k:Nat} {p:Pth},M6 rows k p->∀{n:Nat},k+1<=n->thenP (plc ms) n p=thenP (plc ms) (k+1) p
 |0,p,h,n,hn=>by
  rw[h.zero hl];cases n with
  |zero=>lia
  |succ n=>rfl
 |k+1,p,h,n,hn=>by
  cases n with
  |zero=>lia
  |succ n =>
   by_cases e:p=[]
   ·rw[e];rfl
   ·have f:=q4d hl gw (h.step hl gw e) (n:=n) (by lia);show(if p=[] then[] else thenP (plc ms) n (plc ms p).dropLast++[(plc ms p).getLastD []])=(if p=[] then[] else thenP (plc ms) (k+1) (plc ms p).dropLast++[(plc ms p).getLastD []])
    rw[if_neg e,if_neg e,f]
theorem q6k{bl:Bool}{rows:List Rw}{ms:List Mv}(hl:Hl bl rows)(gw:GoodW rows ms):∀{k:Nat} {p:Pth},(p=[]\/(p,none)∈rows)->p.length<=k->(thenP (plc ms) (k+1) p).length=p.length/\∀n∈thenP (plc ms) (k+1) p,okN n
 |0,p,_,h=>by
  have e:p=[]:=Iy.mp (by lia);rw[e];exact⟨rfl,fun _ h=>nomatch h⟩
 |k+1,p,hp,h=>by
  by_cases e:p=[]
  ·rw[e];exact⟨rfl,fun _ h=>nomatch h⟩
  ·have f:(p,none)∈rows:=hp.resolve_left e;have j:p∈rows.map (·.1):=Ac.mpr ⟨_,f,rfl⟩;have q:=(q1r hl gw j).2 f;have s:=Bw.mpr e;obtain⟨u,v⟩:=q6k hl gw (k:=k) (p:=p.dropLast) (hl.dr _ f) (by rw[Cc];lia);have eq:thenP (plc ms) (k+1+1) p=thenP (plc ms) (k+1) p.dropLast++[(plc ms p).getLastD []]:=by
    show(if p=[] then[] else thenP (plc ms) (k+1) (plc ms p).dropLast++[(plc ms p).getLastD []])=_;rw[if_neg e,q]
   rw[eq];refine⟨by rw[Al,u,Cc];show _+1=_;lia,fun n g=>?_⟩;rcases Ar.mp g with g|g
   ·exact v n g
   ·rw[Aj.mp g];exact q2w (q1l hl gw j)
theorem q2i{bl:Bool}{rows:List Rw}{ms:List Mv}(hl:Hl bl rows)(gw:GoodW rows ms){r:Rw}(f:r∈rows):thenP (plc ms) 7 r.1=thenP (plc ms) 7 (plc ms r.1).dropLast++[(plc ms r.1).getLastD []]/\IsD rows (plc ms r.1).dropLast/\(plc ms r.1).dropLast.length<=5:=by
 have g:r.1∈rows.map (·.1):=Ac.mpr ⟨r,f,rfl⟩;have hd:=(q1r hl gw g).1;have ok:=q1l hl gw g;have q:(plc ms r.1).length<=6:=ok.few;have h:(plc ms r.1).dropLast.length<=5:=by rw[Cc];lia
 have j:M6 rows 5 (plc ms r.1).dropLast:=hd.imp id fun z=>.inl ⟨z,h⟩;refine⟨?_,hd,h⟩;have e:=(hl.ok r f).ne;show(if r.1=[] then[] else thenP (plc ms) 6 (plc ms r.1).dropLast++[(plc ms r.1).getLastD []])=_;rw[if_neg e,q4d hl gw j (n:=7) (by lia)]
theorem z2e{bl:Bool}{rows:List Rw}{ms:List Mv}(hl:Hl bl rows)(gw:GoodW rows ms)(ap:Apart bl rows (plc ms)):Hl bl (gRows rows ms):=by
 have v:∀{d:Pth},IsD rows d->d.length<=5->M6 rows 6 d:=fun{d} h l=>h.imp id fun z=>.inl ⟨z,by lia⟩;have f:∀r∈rows,okP (thenP (plc ms) 7 r.1):=fun r g=>by
  obtain⟨e,hd,I⟩:=q2i hl gw g;obtain⟨s,J⟩:=q6k hl gw (k:=6) hd (by lia);have L:r.1∈rows.map (·.1):=Ac.mpr ⟨r,g,rfl⟩;rw[e];refine⟨by simp,by rw[Al,s];show _+1<=6;lia,fun n j=>?_⟩;rcases Ar.mp j with j|j
  ·exact J n j
  ·rw[Aj.mp j];exact q2w (q1l hl gw L)
 refine⟨fun r g=>?_,?_,fun r g=>?_⟩
 ·obtain⟨x,u,rfl⟩:=Ac.mp g;exact f x u
 ·unfold gRows;rw[An];have s:rows.Nodup:=q1a hl.paths;refine Jo.mpr (Iu (fun{p q} hp hq n z=>?_) s);have z':fold bl (thenP (plc ms) 7 p.1)=fold bl (thenP (plc ms) 7 q.1):=z;obtain⟨B,M,O⟩:=q2i hl gw hp;obtain⟨C,P,Q⟩:=q2i hl gw hq;have D:p.1∈rows.map (·.1):=Ac.mpr ⟨p,hp,rfl⟩;have E:q.1∈rows.map (·.1):=Ac.mpr ⟨q,hq,rfl⟩;obtain⟨G,H⟩:=(q4m (f p hp).ne (f q hq).ne).mp z';rw[B,C,Co,Co] at G;rw[B,C,Fy,Fy] at H;have R:=q5g hl gw ap (v M O) (v P Q) G;have S:fold bl (plc ms p.1)=fold bl (plc ms q.1):=(q4m (q1l hl gw D).ne (q1l hl gw E).ne).mpr ⟨R,H⟩;have ap':((rows.map (·.1)).map fun p=>fold bl (plc ms p)).Nodup:=ap;exact n (q0q hl.paths hp hq (q0q ap' D E S))
 ·obtain⟨x,u,rfl⟩:=Ac.mp g;obtain⟨e,hd,I⟩:=q2i hl gw u;show(thenP (plc ms) 7 x.1).dropLast=[]\/((thenP (plc ms) 7 x.1).dropLast,none)∈gRows rows ms;rw[e,Co];rcases hd with hd|hd
  ·rw[hd];exact .inl rfl
  ·exact .inr (Ac.mpr ⟨_,hd,rfl⟩)
section
variable{bl:Bool}{rows:List Rw}{ms ms':List Mv}{p q x:Pth}
noncomputable abbrev tn(ms:List Mv)(x:Pth):Pth:=thenP (plc ms) 7 x
structure Gd (bl:Bool) (rows:List Rw) (ms:List Mv):Prop where
 gw:GoodW rows ms
 ap:Apart bl rows (plc ms)
theorem Gd.nil(hl:Hl bl rows):Gd bl rows []:=⟨⟨(fun _ h=>nomatch h),.nil⟩,by show((rows.map (·.1)).map fun p=>fold bl p).Nodup;rw[An];exact hl.nd⟩
theorem m6_d{d:Pth}(h:IsD rows d)(l:d.length<=6):M6 rows 6 d:=h.imp id fun z=>.inl ⟨z,l⟩
theorem m6_p(h:p∈rows.map (·.1)):M6 rows 6 p:=.inr (.inr ⟨h,Au _⟩)
theorem q8s(hl:Hl bl rows)(g:Gd bl rows ms)(g':Gd bl rows ms')(q:∀x,x≠p->plc ms' x=plc ms x):∀{n:Nat} {d:Pth},IsD rows d->((p,none)∉rows\/d.length<p.length)->thenP (plc ms') n d=thenP (plc ms) n d
 |0,d,_,_=>rfl
 |n+1,d,hd,hc=>by
  unfold thenP;by_cases e:d=[]
  ·rw[if_pos e,if_pos e]
  ·rw[if_neg e,if_neg e];have f:(d,none)∈rows:=hd.resolve_left e;have s:d∈rows.map (·.1):=Ac.mpr ⟨_,f,rfl⟩;have j:d≠p:=fun z=>by
    rcases hc with h|h
    ·exact h (by rw[<- z];exact f)
    ·rw[z] at h;exact absurd h (Fq _)
   have u:=(q1r hl g.gw s).2 f;rw[q d j,u,q8s hl g g' q (hl.dr _ f) (hc.imp id fun h=>by rw[Cc];exact Lb (Nat.sub_le _ _) h)]
theorem take_snoc{e:Type}{l m:List e}{a:e}:(l++[a]).take m.length=m↔(l.take m.length=m\/l++[a]=m):=by
 by_cases h:m.length<=l.length
 ·rw[Od h];exact⟨.inl,fun z=>z.elim id fun z=>by have:=congrArg List.length z;rw[Al] at this;have g:l.length+1=m.length:=this;lia⟩
 ·have f:(l++[a]).length<=m.length:=by rw[Al];show l.length+1<=_;lia
  rw[Eh f];exact⟨.inr,fun z=>z.elim (fun z=>by have:=congrArg List.length z;rw[Bp] at this;lia) id⟩
theorem z5u(hl:Hl bl rows)(g:Gd bl rows ms)(g':Gd bl rows ms')(j:p∈rows.map (·.1))(I:∀x,x≠p->plc ms' x=plc ms x):
  ∀{k:Nat} {x:Pth},M6 rows k x->k<=6->carry (tn ms p) (tn ms (plc ms' p).dropLast++[(plc ms' p).getLastD []]) (thenP (plc ms) (k+1) x)=thenP (plc ms') (k+1) x:=by
 have hd:=(q1r hl g'.gw j).1;have M:=q1l hl g'.gw j;have stay:tn ms' (plc ms' p).dropLast=tn ms (plc ms' p).dropLast:=by
  refine q8s hl g g' I hd ?_;by_cases B:(p,none)∈rows
  ·right;rw[(q1r hl g'.gw j).2 B,Cc];have:=Bw.mpr (hl.ok _ B).ne;show p.length-1<p.length;have:0<p.length:=this;lia
  ·exact .inl B
 have q:tn ms p≠[]:=by
  obtain⟨r,J,rfl⟩:=Ac.mp j;rw[show tn ms r.1=_ from(q2i hl g.gw J).1];simp
 intro k;induction k with
 |zero =>
  intro x h _;rw[h.zero hl];show carry _ _ []=[]
  refine z4i ?_;rw[Pg];exact fun z=>q z.symm
 |succ k ih =>
  intro x h hk;by_cases e:x=[]
  ·rw[e];show carry _ _ []=[]
   refine z4i ?_;rw[Pg];exact fun z=>q z.symm
  ·have L:=h.in_ e;have C:thenP (plc ms) (k+1+1) x=tn ms x:=(q4d hl g.gw h (n:=7) (by lia)).symm;have e7':thenP (plc ms') (k+1+1) x=tn ms' x:=(q4d hl g'.gw h (n:=7) (by lia)).symm;obtain⟨r,J,rfl⟩:=Ac.mp L;by_cases f:r.1=p
   ·rw[C,e7',f];obtain⟨S,D,O⟩:=Ac.mp j;have P:tn ms' p=tn ms' (plc ms' p).dropLast++[(plc ms' p).getLastD []]:=by rw[<- O];exact(q2i hl g'.gw D).1
    rw[P,stay];have:=z8c (tn ms p) (tn ms (plc ms' p).dropLast++[(plc ms' p).getLastD []]) [];rw[Du,Du] at this;exact this
   ·have Q:thenP (plc ms) (k+1+1) r.1=thenP (plc ms) (k+1) (plc ms r.1).dropLast++[(plc ms r.1).getLastD []]:=if_neg e;have R:thenP (plc ms') (k+1+1) r.1=thenP (plc ms') (k+1) (plc ms r.1).dropLast++[(plc ms r.1).getLastD []]:=by rw[<- I r.1 f];exact if_neg e
    have E:=h.step hl g.gw e;have G:=ih E (by lia);have s:tn ms r.1≠tn ms p:=fun z=>f (q5g hl g.gw g.ap (m6_p L) (m6_p j) z);rw[R,<- G];rw[Q] at C ⊢;unfold carry;have u:((thenP (plc ms) (k+1) (plc ms r.1).dropLast++[(plc ms r.1).getLastD []]).take (tn ms p).length=tn ms p)↔((thenP (plc ms) (k+1) (plc ms r.1).dropLast).take (tn ms p).length=tn ms p) :=
     take_snoc.trans ⟨fun z=>z.resolve_right fun z=>s (C.symm.trans z),.inl⟩
    by_cases v:(thenP (plc ms) (k+1) (plc ms r.1).dropLast).take (tn ms p).length=tn ms p
    ·rw[if_pos v,if_pos (u.mpr v)];have H:(tn ms p).length<=(thenP (plc ms) (k+1) (plc ms r.1).dropLast).length:=by
      have:=congrArg List.length v;rw[Bp] at this;lia
     rw[List.drop_append_of_le_length H];simp only[Fg]
    ·rw[if_neg v,if_neg fun z=>v (u.mp z)]
inductive Way (bl:Bool) (rows:List Rw):List Mv->List Mv->Prop
 |nil:Way bl rows [] []
 |put {row ms ms':List Mv} {p:Pth}:Way bl rows row ms->Gd bl rows ms'->p∈rows.map (·.1)->(∀x,x≠p->plc ms' x=plc ms x)->plc ms' p≠plc ms p->Way bl rows (row++[(tn ms p,tn ms (plc ms' p).dropLast++[(plc ms' p).getLastD []])]) ms'
noncomputable def bhd(row:List Mv)(x:Pth):Pth:=row.foldl (fun x m=>carry m.1 m.2 x) x
theorem Way.gd(hl:Hl bl rows){e:List Mv}(w:Way bl rows e ms):Gd bl rows ms:=by
 cases w with
 |nil=>exact Gd.nil hl
 |put _ g=>exact g
theorem z2f(hl:Hl bl rows):∀{k:Nat} {p:Pth},M6 rows k p->thenP (plc []) (k+1) p=p
 |0,p,h=>by rw[h.zero hl];rfl
 |k+1,p,h=>by
  unfold thenP;by_cases e:p=[]
  ·rw[if_pos e,e]
  ·rw[if_neg e];have f:=z2f hl (h.step hl (Gd.nil hl).gw e);rw[f];exact(z2w e).symm
theorem Way.behind(hl:Hl bl rows){e:List Mv}(w:Way bl rows e ms){x:Pth}(f:M6 rows 6 x):bhd e x=tn ms x:=by
 induction w with
 |nil=>exact(z2f hl f).symm
 |put w g hp ho _ ih =>
  unfold bhd at ih ⊢;rw[Po,ih];exact z5u hl (w.gd hl) g hp ho f (Au _)
theorem Way.take{e:List Mv}(w:Way bl rows e ms):∀i,∃ms',Way bl rows (e.take i) ms':=by
 induction w with
 |nil=>exact fun i=>⟨[],by rw[Pg];exact .nil⟩
 | @put e ms ms' p w g hp ho hn ih =>
  intro i;by_cases f:i<=e.length
  ·rw[Od f];exact ih i
  ·rw[Eh (by rw[Al];show e.length+1<=i;lia)];exact⟨_,.put w g hp ho hn⟩
theorem tn_ok(hl:Hl bl rows)(g:Gd bl rows ms)(h:p∈rows.map (·.1)):okP (tn ms p):=by
 obtain⟨r,j,rfl⟩:=Ac.mp h;obtain⟨e,hd,u⟩:=q2i hl g.gw j;obtain⟨q,s⟩:=q6k hl g.gw (k:=6) hd (by lia);rw[show tn ms r.1=_ from e];refine⟨by simp,by rw[Al,q];show _+1<=6;lia,fun n f=>?_⟩;rcases Ar.mp f with f|f
 ·exact s n f
 ·rw[Aj.mp f];exact q2w (q1l hl g.gw h)
theorem z8w(hl:Hl bl rows)(g:Gd bl rows ms)(e:M6 rows 6 x):Low (tn ms x)/\(tn ms x).length<=7:=q5f hl g.gw e
theorem tn_to(hl:Hl bl rows)(g:Gd bl rows ms)(g':Gd bl rows ms')(f:p∈rows.map (·.1)):okP (tn ms (plc ms' p).dropLast++[(plc ms' p).getLastD []]):=by
 have ok:=q1l hl g'.gw f;have s:(plc ms' p).length<=6:=ok.few;have h:=Bw.mpr ok.ne;obtain⟨j,q⟩:=q6k hl g.gw (k:=6) (q1r hl g'.gw f).1 (by rw[Cc];lia);refine⟨by simp,by rw[Al,show(tn ms (plc ms' p).dropLast).length=_ from j,Cc];show _+1<=6;lia,fun n e=>?_⟩;rcases Ar.mp e with e|e
 ·exact q n e
 ·rw[Aj.mp e];exact q2w ok
theorem Way.ok(hl:Hl bl rows){e:List Mv}(w:Way bl rows e ms):okMs e:=by
 induction w with
 |nil=>exact fun _ h=>nomatch h
 |put w g hp ho _ ih =>
  intro m f;rcases Ar.mp f with f|f
  ·exact ih m f
  ·rw[Aj.mp f];exact⟨tn_ok hl (w.gd hl) hp,tn_to hl (w.gd hl) g hp⟩
noncomputable def setW(p q:Pth)(ms:List Mv):List Mv:=(p,q)::ms.filter fun m=>decide (m.1≠p)
theorem q5q{p x:Pth}(h:x≠p):∀{ms:List Mv},plc (ms.filter fun m=>decide (m.1≠p)) x=plc ms x
 |[]=>rfl
 |m::ms=>by
  by_cases e:m.1=p
  ·rw[Dl (by simpa using e),q5q h];conv=>rhs;unfold plc
   rw[if_neg fun z=>h (z.symm.trans e)]
  ·rw[Dm (by simpa using e)];unfold plc;rw[q5q h]
theorem z3n:plc (setW p q ms) p=q:=by
 unfold setW plc;rw[if_pos rfl]
theorem z8x(h:x≠p):plc (setW p q ms) x=plc ms x:=by
 unfold setW;conv=>lhs;unfold plc
 rw[if_neg fun z=>h z.symm];exact q5q h
theorem z8y(g:GoodW rows ms)(w:Wsh rows (p,q)):GoodW rows (setW p q ms):=by
 refine⟨fun m f=>?_,?_⟩
 ·rcases Bb.mp f with rfl|f
  ·exact w
  ·exact g.all m (Di.mp f).1
 ·unfold setW;rw[Ax,Bs];refine⟨fun h=>?_,g.nd.sublist (Tr.map _)⟩;obtain⟨m,f,e⟩:=Ac.mp h;exact of_decide_eq_true (Di.mp f).2 e
noncomputable def stO(f:Pth->Pth)(D:List Pth)(a:Option (Pth×Pth))(x:Pth):Pth:=if x∈D then f x else match a with|some (r,sp)=>if x=r then sp else x|none=>x
structure StO (bl:Bool) (rows:List Rw) (f:Pth->Pth) (D:List Pth) (a:Option (Pth×Pth)):Prop where
 cl:∀{x y},x∈D->nx bl (rows.map (·.1)) f x=some y->y∈D\/∃sp,a=some (y,sp)
 sub:∀x∈D,x∈rows.map (·.1)
 sp:∀{r sp},a=some (r,sp)->r∉D/\∀x∈rows.map (·.1),x≠r->fold bl (stO f D a x)≠fold bl sp
theorem StO.apart{f:Pth->Pth}{D:List Pth}{a:Option (Pth×Pth)}(hl:Hl bl rows)(ap:Apart bl rows f)(s:StO bl rows f D a):Apart bl rows (stO f D a):=by
 have H:((rows.map (·.1)).map (fold bl)).Nodup:=by rw[An];exact hl.nd
 have ap':((rows.map (·.1)).map fun p=>fold bl (f p)).Nodup:=ap;have I:∀{x y:Pth},x∈rows.map (·.1)->y∈rows.map (·.1)->x∈D->y∉D->(∀sp,a≠some (y,sp))->fold bl (f x)≠fold bl y:=fun{x y} hx hy hD hn ha e=>by
  by_cases G:y=x
  ·rw[G] at hn;exact hn hD
  ·by_cases L:f x=x
   ·rw[L] at e;exact G (q0q H hx hy e).symm
   ·rcases s.cl hD ((q0t hl).mpr ⟨hx,L,hy,e.symm,G⟩) with h|⟨sp,h⟩
    ·exact hn h
    ·exact ha sp h
 show((rows.map (·.1)).map fun p=>fold bl (stO f D a p)).Nodup;refine Jo.mpr (Iu (fun{x y} hx hy n z=>?_) hl.paths);have J:∀{r sp:Pth},a=some (r,sp)->stO f D a r=sp:=fun{r sp} e=>by
  unfold stO;rw[if_neg (s.sp e).1,e];simp
 by_cases C:∃sp,a=some (x,sp)
 ·obtain⟨sp,e⟩:=C;exact(s.sp e).2 y hy (fun q=>n q.symm) (by rw[<- z,J e])
 by_cases E:∃sp,a=some (y,sp)
 ·obtain⟨sp,e⟩:=E;exact(s.sp e).2 x hx n (by rw[z,J e])
 have g:∀{u:Pth},u∉D->(¬∃sp,a=some (u,sp))->stO f D a u=u:=fun{u} hu ha=>by
  unfold stO;rw[if_neg hu];cases ea:a with
  |none=>rfl
  |some v =>
   obtain⟨r,sp⟩:=v;show(if u=r then sp else u)=u;rw[if_neg fun q=>ha ⟨sp,by rw[ea,q]⟩]
 have done:∀{u:Pth},u∈D->stO f D a u=f u:=fun{u} hu=>by unfold stO;rw[if_pos hu]
 by_cases B:x∈D
 ·by_cases j:y∈D
  ·rw[done B,done j] at z;exact n (q0q ap' hx hy z)
  ·rw[done B,g j E] at z;exact I hx hy B j (fun sp e=>E ⟨sp,e⟩) z
 ·by_cases j:y∈D
  ·rw[g B C,done j] at z;exact I hy hx j B (fun sp e=>C ⟨sp,e⟩) z.symm
  ·rw[g B C,g j E] at z;exact n (q0q H hx hy z)
end
end
end K
set_option maxHeartbeats 4000000
namespace K
open PySem L2 TX SB HM
section
variable{P:Ay}{w:World}{K:Aq}{mg:Str->Option Value}{base:Heap}
section
variable{ps:List Pth}{g:Pth->Option Pth}{p q s t x y:Pth}{xs ys:List Pth}
structure RingO (g:Pth->Option Pth) (p:Pth) (xs:List Pth):Prop where
 o:Orb g p xs
 r:∃x,xs.getLast?=some x/\g x=some p
theorem RingP.ro(h:RingP g p xs):RingO g p xs:=⟨h.o,h.r⟩
theorem q6b(t:Trk g p xs)(i:Nat)(e:i<xs.length):∃u,xs[i]?=some u:=⟨_,Bu e⟩
theorem RingO.pred(h:RingO g p xs)(F:Fol ps g)(s:y∈xs)(e:g q=some y):q∈xs:=by
 obtain⟨i,f⟩:=Bg.mp s;cases i with
 |zero =>
  obtain⟨z,v,B⟩:=h.r;rw[h.o.hd] at f;cases f;rw[F.inj e B];exact Ee v
 |succ i =>
  have C:=(Af.mp f).1;obtain⟨u,j⟩:=q6b h.o.toTrk i (by lia);rw[F.inj e (h.o.st j f)];exact Ah j
theorem RingO.next(h:RingO g p xs)(q:x∈xs)(e:g x=some y):y∈xs:=by
 obtain⟨i,f⟩:=Bg.mp q;cases e2:xs[i+1]? with
 |some v =>
  have:=h.o.st f e2;rw[e] at this;cases this;exact Ah e2
 |none =>
  obtain⟨z,s,j⟩:=h.r;have:=q2s f e2 s;subst this;rw[e] at j;cases j;exact Ah h.o.hd
theorem RingO.back(h:RingO g p xs)(F:Fol ps g)(t:Trk g s ys):∀{i:Nat} {x:Pth},ys[i]?=some x->x∈xs->s∈xs
 |0,x,e,hx=>by rw[t.hd] at e;cases e;exact hx
 |i+1,x,e,hx=>by
  have j:=(Af.mp e).1;obtain⟨u,f⟩:=q6b t i (by lia);exact RingO.back h F t f (h.pred F hx (t.st f e))
theorem RingO.fwd(h:RingO g p xs)(t:Trk g s ys)(hs:s∈xs):∀{i:Nat} {x:Pth},ys[i]?=some x->x∈xs
 |0,x,e=>by rw[t.hd] at e;cases e;exact hs
 |i+1,x,e=>by
  have j:=(Af.mp e).1;obtain⟨u,f⟩:=q6b t i (by lia);exact h.next (RingO.fwd h t hs f) (t.st f e)
theorem RingO.mem(h:RingO g p xs)(F:Fol ps g):∀(k:Nat) {i:Nat} {x:Pth},xs.length-1-i=k->xs[i]?=some x->IsRing g x
 |k,i,x,hk,e=>by
  have s:=(Af.mp e).1;have u:IsRing g p:=let ⟨z,f,j⟩:=h.r;h.o.toTrk.ring f j;cases e2:xs[i+1]? with
  |none =>
   obtain⟨z,f,j⟩:=h.r;have:=q2s e e2 f;subst this;exact u.pred F j
  |some v =>
   have q:=(Af.mp e2).1;cases k with
   |zero=>lia
   |succ k=>exact(RingO.mem h F k (by lia) e2).pred F (h.o.st e e2)
theorem RingP.one(h:RingP g p xs)(e:RingP g q ys)(F:Fol ps g)(f:x∈xs)(s:x∈ys):p=q:=by
 obtain⟨i,u⟩:=Bg.mp f;obtain⟨j,v⟩:=Bg.mp s;have a:=e.ro.back F h.o.toTrk u s;have b:=h.ro.back F e.o.toTrk v f;exact q5k (e.least p a) (h.least q b)
theorem ChnP.one(F:Fol ps g)(h:ChnP g s xs)(e:ChnP g t ys):∀{i j:Nat} {x:Pth},xs[i]?=some x->ys[j]?=some x->s=t
 |0,0,x,e1,e2=>by rw[h.o.hd] at e1;rw[e.o.hd] at e2;cases e1;cases e2;rfl
 |0,j+1,x,e1,e2=>by
  rw[h.o.hd] at e1;cases e1;have q:=(Af.mp e2).1;obtain⟨u,f⟩:=q6b e.o.toTrk j (by lia);exact absurd (e.o.st f e2) (h.st u)
 |i+1,0,x,e1,e2=>by
  rw[e.o.hd] at e2;cases e2;have q:=(Af.mp e1).1;obtain⟨u,f⟩:=q6b h.o.toTrk i (by lia);exact absurd (h.o.st f e1) (e.st u)
 |i+1,j+1,x,e1,e2=>by
  have C:=(Af.mp e1).1;have D:=(Af.mp e2).1;obtain⟨u,f⟩:=q6b h.o.toTrk i (by lia);obtain⟨v,B⟩:=q6b e.o.toTrk j (by lia);have:=F.inj (h.o.st f e1) (e.o.st B e2);subst this;exact ChnP.one F h e f B
theorem z5v(F:Fol ps g)(h:ChnP g s xs)(e:RingP g q ys)(f:x∈xs):x∉ys:=fun u=>by
 obtain⟨i,v⟩:=Bg.mp f;obtain⟨j,B⟩:=Bg.mp u;exact IsRing.apart F h.st h.o.toTrk v (e.ro.mem F _ rfl B)
theorem z0f:∀{l:List Pth},l≠[]->∃m∈l,∀y∈l,pLt y m=false
 |[],h=>absurd rfl h
 |[a],_=>⟨a,As,fun y f=>by rw[Aj.mp f];exact q1f _⟩
 |a::b::l,_=>by
  obtain⟨m,g,h⟩:=z0f (l:=b::l) (by simp);cases e:pLt a m with
  |false=>exact⟨m,Am _ g,fun y f=>by
    rcases Bb.mp f with rfl|f
    ·exact e
    ·exact h y f⟩
  |true =>
   refine⟨a,As,fun y f=>?_⟩;rcases Bb.mp f with rfl|f
   ·exact q1f _
   ·refine z1t ?_ (h y f);cases e2:pLt m a with
    |false=>rfl
    |true=>have:=q3q e e2;rw[q1f] at this;cases this
theorem covers(F:Fol ps g)(H:p∈ps):(∃m ys,RingP g m ys/\p∈ys)\/∃s ys,s∈ps/\(s=p\/∃y,g s=some y)/\ChnP g s ys/\p∈ys:=by
 by_cases h:IsRing g p
 ·left;obtain⟨xs,x,o,hl,I⟩:=h;have ro:RingO g p xs:=⟨o,x,hl,I⟩
  obtain⟨m,C,least⟩:=z0f (l:=xs) (fun z=>by rw[z] at hl;cases hl);obtain⟨i,D⟩:=Bg.mp C;obtain⟨ys,y,q,f,E⟩:=ro.mem F _ rfl D;have B:RingO g m ys:=⟨q,y,f,E⟩
  refine⟨m,ys,⟨q,⟨y,f,E⟩,fun u J=>?_⟩,B.back F o.toTrk D (Ah q.hd)⟩;obtain⟨j,L⟩:=Bg.mp J;exact least u (ro.fwd q.toTrk C L)
 ·right;obtain⟨s,ys,G,M,t,hl⟩:=z4p F h _ rfl H Trk.one rfl;obtain⟨u,o⟩:=Orb.ex F G _ rfl t;refine⟨s,ys++u,G,?_,⟨o,M⟩,Ck _ (Ee hl)⟩;cases e:ys[1]? with
  |some v=>exact .inr ⟨v,t.st t.hd e⟩
  |none=>exact .inl (q2s t.hd e hl)
end
section
variable{bl:Bool}{rows:List Rw}{ms row W:List Mv}{D D':List Pth}{a a':Option (Pth×Pth)}{x q:Pth}
theorem Way.step(hl:Hl bl rows)(j:Gd bl rows W)(w:Way bl rows row ms)(hs:∀u∈rows.map (·.1),plc ms u=stO (plc W) D a u)(s:StO bl rows (plc W) D' a')(g:x∈rows.map (·.1))(v:stO (plc W) D' a' x=q)(B:Wsh rows (x,q))(C:∀u∈rows.map (·.1),u≠x->stO (plc W) D' a' u=stO (plc W) D a u)(E:q≠stO (plc W) D a x):
  ∃ms',Way bl rows (row++[(tn ms x,tn ms q.dropLast++[q.getLastD []])]) ms'/\∀u∈rows.map (·.1),plc ms' u=stO (plc W) D' a' u:=by
 have hs':∀u∈rows.map (·.1),plc (setW x q ms) u=stO (plc W) D' a' u:=fun u f=>by
  by_cases e:u=x
  ·rw[e,z3n,v]
  ·rw[z8x e,C u f e,hs u f]
 have g':Gd bl rows (setW x q ms):=by
  refine⟨z8y (w.gd hl).gw B,?_⟩;have ap:=s.apart hl j.ap;show((rows.map (·.1)).map fun p=>fold bl (plc (setW x q ms) p)).Nodup;rw[Ct fun u f=>congrArg (fold bl) (hs' u f)];exact ap
 refine⟨setW x q ms,?_,hs'⟩;have h:=Way.put (ms':=setW x q ms) (p:=x) w g' g (fun u f=>z8x f) (by rw[z3n,hs x g];exact E);rw[z3n] at h;exact h
theorem x4y(hl:Hl bl rows)(g:GoodW rows W)(f:x∈rows.map (·.1)):Wsh rows (x,plc W x):=by
 obtain⟨q,s⟩:=q1r hl g f;obtain⟨r,h,e⟩:=Ac.mp f;refine⟨⟨r.2,by rw[<- e];exact h,?_⟩,q1l hl g f,q⟩;by_cases j:r.2=none
 ·exact .inl (s (by rw[<- e,<- j];exact h))
 ·exact .inr j
end
end
end K
set_option maxHeartbeats 4000000
namespace K
open PySem L2 TX SB HM
section
variable{P:Ay}{w:World}{K:Aq}{mg:Str->Option Value}{base:Heap}
noncomputable def spCarried:Sp:=fun vs H Q _=>∃a b c x p q,vs=[.ref a,.ref b,.ref c]/\H a=some (.tup (vP x))/\H b=some (.tup (vP p))/\H c=some (.tup (vP q))/\Low x/\Low p/\x.length<=100/\q.length<=100/\∀e H',Same H H'->H' e=some (.tup (vP (carry p q x)))->Q (.ref e) H'
theorem x1k{p:Pth}{n:Nat}(h:Low p):Low (p.take n):=fun x e=>h x (Gy e)
noncomputable abbrev q5r:Stmt:=top 28
theorem z5w:FnScope ["path", "moved", "place"] ["path", "moved", "place"] (defScope q5r):=by trivial
theorem z5x(D:Df K mg "carried" q5r ["path", "moved", "place"])(T:Txt mg):Cal P w K mg base "carried" 1 ["path", "moved", "place"] spCarried:=by
 refine D.cal z5w (fun vs H Q E h=>?_) (fun f G A outer s H vs Q E I h=>?_)
 ·obtain⟨a,b,c,x,p,q,rfl,_⟩:=h;rfl
 ·obtain⟨a,b,c,x,p,q,rfl,ha,u,J,L,M,X,Y,k⟩:=h;refine⟨_,(q0e (q1s (q0n (eq_k K rfl I) (q0p sl_P (pv 0) q0r (q0s (q0l (q3o K rfl) (by rfl) T.b_len Cs (q0a (pv 1) q0c)))) (pv 1) (nomark _)) (q0f (q0m (q1d q3r (pv 2) (q0p sl_P (pv 0) (q0s (q0l (q3o K rfl) (by rfl) T.b_len Cs (q0a (pv 1) q0c))) q0r)))) q0o) (q0f (q0m (pv 0)))),?_⟩;refine⟨_,rfl,_,rfl,_,_,rfl,.inr ⟨_,SqT.of u,rfl⟩,_,rfl,a,_,rfl,ha,fun Z O g v=>?_⟩;rw[q1b,cut_to] at v;refine⟨_,rfl,q2g v (g _ _ u) (x1k L) M ⟨_,rfl,?_⟩⟩;refine iteB (fun j=>?_) (fun j=>?_)
  ·have j:=of_decide_eq_true j;refine⟨_,rfl,_,rfl,_,rfl,_,_,rfl,.inr ⟨_,SqT.of (g _ _ u),rfl⟩,_,rfl,a,_,rfl,g _ _ ha,fun R H2 B C=>?_⟩;rw[q1b,x1b] at C;refine⟨c,R,_,_,rfl,rfl,B _ _ (g _ _ J),C,by rw[q1b,q1b,Dx];exact small (by lia),fun e S U W _=>?_⟩;refine k e S ((g.trans B).trans U) ?_;rw[W,<- z8m];unfold carry;rw[if_pos j]
  ·have j:=of_decide_eq_false j;refine⟨_,rfl,k a O g ?_⟩;unfold carry;rw[if_neg j];exact g _ _ ha
structure CallsPB (P:Ay) (w:World) (K:Aq) (mg:Str->Option Value) (base:Heap):Prop where
 carried:Cal P w K mg base "carried" 1 ["path", "moved", "place"] spCarried
structure RW (H:Hp) (L:Addr) (bl:Bool) (rows:List Rw) (zs:List Zm) (ms:List Mv):Prop where
 ml:ML H L zs
 hl:Hl bl rows
 w:Way bl rows (zs.map (·.2)) ms
 len:zs.length<=100
theorem RW.same{H H':Hp}{L:Addr}{bl:Bool}{rows:List Rw}{zs:List Zm}{ms:List Mv}(r:RW H L bl rows zs ms)(s:Same H H'):RW H' L bl rows zs ms:=⟨r.ml.same s,r.hl,r.w,r.len⟩
theorem RW.keep{H H':Hp}{L D:Addr}{o:HO}{bl:Bool}{rows:List Rw}{zs:List Zm}{ms:List Mv}(r:RW H L bl rows zs ms)(hd:H D=some o)(f:∀xs,o≠.lst xs)(g:∀xs,o≠.tup xs)(kp:∀c u,c≠D->H c=some u->H' c=some u):RW H' L bl rows zs ms :=
 ⟨⟨kp _ _ (fun z=>by have e:=r.ml.at_;rw[z,hd] at e;cases e;exact f _ rfl) r.ml.at_,fun z h=>(r.ml.pr z h).keep fun T xs e=>kp _ _ (fun z=>by rw[z,hd] at e;cases e;exact g _ rfl) e⟩,r.hl,r.w,r.len⟩
noncomputable def spBehind:Sp:=fun vs H Q _=>∃b L bl rows zs ms x,vs=[.ref b,.ref L]/\RW H L bl rows zs ms/\H b=some (.tup (vP x))/\M6 rows 6 x/\∀e H',Same H H'->H' e=some (.tup (vP (tn ms x)))->Q (.ref e) H'
noncomputable abbrev q2y:Stmt:=top 31
theorem sc_path_behind:FnScope ["path", "row", "moved", "place"] ["path", "row"] (defScope q2y):=by trivial
theorem z8z(D:Df K mg "path_behind" q2y ["path", "row"])(T:Txt mg)(C:CallsPB P w K mg base):Cal P w K mg base "path_behind" 2 ["path", "row"] spBehind:=by
 refine D.cal sc_path_behind (fun vs H Q E h=>?_) (fun f X A outer s H vs Q E Y h=>?_)
 ·obtain⟨b,L,bl,rows,j,Z,x,rfl,_⟩:=h;rfl
 ·obtain⟨b,L,bl,rows,j,Z,x,rfl,r,hb,I,k⟩:=h;refine⟨_,(q0e (q1u Ca rfl (@q1y _ _ _ _ K rfl (pv 1)) (@q2l _ _ _ _ (2) _ K rfl rfl (q0k (q0h (i:=2) sc_path_behind.nd rfl (by trivial)) (q0k (q0h (i:=3) sc_path_behind.nd rfl (by trivial)) q1m)) (by rfl) (by rfl)) (q0f (q0j (i:=0) sc_path_behind.nd rfl (by trivial) (pe_c C.carried Y (q0a (pv 0) (q0a (pv 2) (q0a (pv 3) q0c))))))) (q0f (q0m (pv 0)))),?_⟩;have J:=r.w.ok r.hl;have low:∀i,Low (bhd ((j.map (·.2)).take i) x)/\(bhd ((j.map (·.2)).take i) x).length<=7:=fun i=>by
   obtain⟨a0,S⟩:=r.w.take i;rw[S.behind r.hl I];exact z8w r.hl (S.gd r.hl) I
  refine⟨_,rfl,.inl ⟨L,rfl,⟨_,SqL.of r.ml.at_⟩,?_⟩⟩;refine q3v (fun i g M=>∃e O R,g=[some (.ref e),some (.ref L),O,R]/\Same H M/\M e=some (.tup (vP (bhd ((j.map (·.2)).take i) x)))) ⟨b,none,none,rfl,Same.refl H,hb⟩ (fun i g M _ x=>by obtain⟨_,_,_,_,s',_⟩:=x;exact SqL.of (s' _ _ r.ml.at_)) ?_ ?_
  ·rintro i v g U hv ⟨e,O,R,rfl,B,G⟩;obtain⟨z,W,rfl⟩:=gR0 hv
   have q:=Ah W;obtain⟨A1,B1,g1,g2,g3⟩:=(r.ml.same B).pr z q;have u:=J z.2 (Ac.mpr ⟨z,q,rfl⟩);refine⟨z.1,_,rfl,SqT.of g1,rfl,_,_,rfl,_,_,rfl,rfl,?_⟩;have l7:=(low i).2;have l6:z.2.2.length<=6:=u.2.few;refine⟨_,rfl,_,rfl,_,rfl,e,A1,B1,_,_,_,rfl,G,g2,g3,(low i).1,u.1.low,by lia,by lia,fun e2 H2 s2 h2=>?_⟩;refine⟨e2,_,_,rfl,B.trans s2,?_⟩;rw[h2];have e1:(j.map (·.2)).take (i+1)=(j.map (·.2)).take i++[z.2]:=by rw[Br,Ak,W];rfl
   rw[e1];unfold bhd;rw[Po];rfl
  ·rintro g U ⟨e,O,R,rfl,B,G⟩;rw[Aa,<- Aa (f:=fun z:Zm=>z.2),Ba,r.w.behind r.hl I] at G;exact⟨_,rfl,k e U B G⟩
structure CallsPM (P:Ay) (w:World) (K:Aq) (mg:Str->Option Value) (base:Heap):Prop where
 path_behind:Cal P w K mg base "path_behind" 2 ["path", "row"] spBehind
noncomputable def spPutM:Sp:=fun vs H Q _=>∃b c L bl rows zs ms x q,vs=[.ref L,.ref b,.ref c]/\RW H L bl rows zs ms/\zs.length<100/\H b=some (.tup (vP x))/\H c=some (.tup (vP q))/\x∈rows.map (·.1)/\okP q/\IsD rows q.dropLast /\
 ∀T' H',(∀a u,a≠L->H a=some u->H' a=some u)->ML H' L (zs++[(T',(tn ms x,tn ms q.dropLast++[q.getLastD []]))])->Q .non H'
noncomputable abbrev q4s:Stmt:=top 33
theorem z3o:FnScope ["row", "path", "place"] ["row", "path", "place"] (defScope q4s):=by trivial
theorem x4z(D:Df K mg "put_move" q4s ["row", "path", "place"])(T:Txt mg)(C:CallsPM P w K mg base):Cal P w K mg base "put_move" 3 ["row", "path", "place"] spPutM:=by
 refine D.cal z3o (fun vs H Q E h=>?_) (fun f a2 A outer s H vs Q E hr h=>?_)
 ·obtain⟨b,c,L,bl,rows,X,Y,x,q,rfl,_⟩:=h;rfl
 ·obtain⟨b,c,L,bl,rows,X,Y,x,q,rfl,r,len,hb,hc,hx,g,hd,k⟩:=h;refine⟨_,(q0f (q2b (@bm_k _ _ _ _ _ _ _ _ _ _ _ _ K rfl Cq Eu Ew q2f (pv 0) (q0a (q1e (q0a (pe_c C.path_behind hr (q0a (pv 1) (q0a (pv 0) q0c))) (q0a (q1d q3r (pe_c C.path_behind hr (q0a (q0p sl_P (pv 2) q0r (q0s (q1w q0x q0g))) (q0a (pv 0) q0c))) (q0p sl_P (pv 2) (q0s (q1w q0x q0g)) q0r)) q0c))) q0c) (by rfl) (by rfl) (by rfl) (by rfl) (by rfl)))),?_⟩;have l5:q.dropLast.length<=6:=by rw[Cc];have:q.length<=6:=g.few;lia
  refine⟨_,rfl,.inl ⟨rfl,_,SqL.of r.ml.at_⟩,_,rfl,_,rfl,b,L,bl,rows,X,Y,x,rfl,r,hb,m6_p hx,fun G H1 Z h1=>?_⟩;refine⟨_,rfl,_,rfl,_,rfl,c,_,rfl,Z _ _ hc,fun t1 H2 s2 h2=>?_⟩;rw[(q1h g.ne).1] at h2;have I:=Z.trans s2;refine⟨_,rfl,t1,L,bl,rows,X,Y,_,rfl,r.same I,h2,m6_d hd l5,fun e2 H3 s3 h3=>?_⟩;have a0:=I.trans s3;refine⟨_,rfl,_,rfl,_,rfl,c,_,rfl,a0 _ _ hc,fun t2 H4 s4 h4=>?_⟩;rw[z2c g.ne] at h4;have l7:=(z8w r.hl (r.w.gd r.hl) (m6_d hd l5)).2;refine⟨e2,t2,_,_,rfl,rfl,s4 _ _ h3,h4,by rw[q1b,q1b];exact small (by show _+1<=_;lia),fun J H5 s5 h5 _=>?_⟩;rw[<- z8m] at h5;refine⟨by show 2<=sizeLine;decide,fun M hT=>?_⟩;have sT:=(Same.refl H5).new (o:=.tup [.ref G,.ref J]) hT;have a1:=(s3.trans s4).trans s5;have j:=(s2.trans a1).trans sT;have v:=Z.trans j;have O:upd H5 M (.tup [.ref G,.ref J]) M=some (.tup [.ref G,.ref J]):=q0b;have R:=sT _ _ h5;have U:=j _ _ h1;generalize upd H5 M (.tup [.ref G,.ref J])=H6 at sT j v O R U;have B:=r.ml.same v;refine⟨L,_,_,rfl,rfl,B.at_,by rw[Aa];exact small' (by lia),?_⟩;have tk:∀S xs,H6 S=some (.tup xs)->upd H6 L (.lst (X.map (fun z=>V.ref z.1)++[.ref M])) S=some (.tup xs):=fun S xs e=>by
   rw[q0d (fun z=>by rw[z,B.at_] at e;cases e)];exact e
  refine k M _ (fun a u ha e=>by rw[q0d ha];exact v _ _ e) ⟨by rw[Ae];exact q0b,fun z W=>?_⟩;rcases Ar.mp W with W|W
  ·exact(B.pr z W).keep tk
  ·rw[Aj.mp W];exact⟨G,J,tk _ _ O,tk _ _ U,tk _ _ R⟩
theorem dg_inj{m n:Nat}(g:m<1000)(j:n<1000)(h:dg m=dg n):m=n:=by
 have e:=z7m (m:=m) (by lia);have f:=z7m (m:=n) (by lia);rw[h,f] at e;have:=Bx e;lia
theorem fi_ns:∀c∈FI,c∈HM.NS:=by trivial
theorem lo_fi:∀c∈HM.NS,Bd c∈FI->Bd c=c:=by trivial
theorem lo_fig:∀c∈FI,Bd c=c:=by trivial
theorem okN_dg{m:Nat}(h:m<1000):okN (dg m):=⟨dg_pos m,Ce (x2b 2 m (by lia)) (by lia),fun c e=>fi_ns c (z7l m c e)⟩
theorem low_dg{m:Nat}:lowN (dg m)=dg m:=by
 unfold lowN;exact(Ct fun c e=>lo_fig c (z7l m c e)).trans (Vg _)
theorem low_is{n:List Nat}{m:Nat}(f:okN n)(h:lowN n=dg m):n=dg m:=by
 rw[<- h];unfold lowN;refine((Ct fun c e=>?_).trans (Vg _)).symm;refine lo_fi c (f.all c e) (z7l m _ ?_);rw[<- h];exact Ac.mpr ⟨c,e,rfl⟩
theorem x1l{tk:List (List Nat)}{n:List Nat}:inV (.str (mk n)) (tk.map fun n=>V.str (mk n))=decide (n∈tk):=by
 unfold inV;rw[List.any_map];cases h:decide (n∈tk) with
 |true=>exact Vy.mpr ⟨n,of_decide_eq_true h,by show(mk n==mk n)=true;simp⟩
 |false =>
  refine Uq.mpr fun x f e=>of_decide_eq_false h ?_;have g:(mk x==mk n)=true:=e;rw[<- SB.mk_inj (eq_of_beq g)];exact f
noncomputable def spSpare:Sp:=fun vs H Q _=>∃b D L bl rows zs ms qs d,vs=[.ref b,.ref D,.ref L]/\RW H L bl rows zs ms/\rows.length<=30/\H b=some (.tup (vP d))/\IsD rows d/\d.length<=5/\PDt H D qs/\((qs.map (·.2)).map (·.1)).Perm (rows.map (·.1)) /\
 ∀n H',Same H H'->okN n->(∀x∈rows.map (·.1),fold bl (plc ms x)≠fold bl (d++[n]))->Q (.str (mk n)) H'
noncomputable abbrev q3h:Stmt:=top 32
theorem sc_spare_name:FnScope ["drawer", "paths", "row", "drawer_then", "paths_then", "taken", "number"] ["drawer", "paths", "row"] (defScope q3h):=by trivial
theorem x1m(D:Df K mg "spare_name" q3h ["drawer", "paths", "row"])(T:Txt mg)(C:CallsPM P w K mg base):Cal P w K mg base "spare_name" 3 ["drawer", "paths", "row"] spSpare:=by
 refine D.cal sc_spare_name (fun vs H Q E h=>?_) (fun f d1 A outer s H vs Q E hr h=>?_)
 ·obtain⟨b,D,L,bl,rows,zs,M,G,d,rfl,_⟩:=h;rfl
 ·obtain⟨b,D,L,bl,rows,zs,M,G,d,rfl,r,d2,hb,hd,l5,pd,pm,k⟩:=h;refine⟨_,(q0e (q0j (i:=3) sc_spare_name.nd rfl (by trivial) (pe_c C.path_behind hr (q0a (pv 0) (q0a (pv 2) q0c)))) (q0e (z2v H rfl (q3n (i:=4) ["path"] [("row",2)] sc_spare_name.nd rfl (by trivial) rfl (@z4b _ _ _ _ K rfl (pv 1)) (fun _ _ _ _ _=>(q0h (i:=0) (show(["path", "row"]:List Str).Nodup by trivial) rfl (by trivial))) (fun _ _ _ _ _=>q1n) (fun _ _ _ _ _=>(pe_c C.path_behind hr (q0a (pv 0) (q0a (pv 1) q0c)))))) (q0e (q3n (i:=5) ["path"] [("drawer_then",3)] sc_spare_name.nd rfl (by trivial) rfl (@q1y _ _ _ _ K rfl (pv 4)) (fun _ _ _ _ _=>(q0h (i:=0) (show(["path", "drawer_then"]:List Str).Nodup by trivial) rfl (by trivial))) (fun _ _ _ _ _=>(q3m (q0n (eq_k K rfl hr) (q0p (sl_k K rfl) (pv 0) q0r (q0s (q1w q0x q0g))) (pv 1) (nomark _)))) (fun _ _ _ _ _=>(q1k (ix_k K rfl) (pv 0) (q1w q0x q0g) (fun _ _=>rfl)))) (q0e (q0j (i:=6) sc_spare_name.nd rfl (by trivial) q0g) (q0e (q8v Ca (q0n (in_k K rfl) (q1x z1n (by rfl) T.b_str (by trivial) (q0a (pv 6) q0c)) (pv 5) (by with_unfolding_all rfl)) (q0f (ps_aug (i:=6) sc_spare_name.nd rfl (by trivial) q0g x2w))) (q0f (q0m (q1x z1n (by rfl) T.b_str (by trivial) (q0a (pv 6) q0c))))))))),?_⟩;have hl:=r.hl;have g:=r.w.gd hl;have a9:M6 rows 6 d:=m6_d hd (by lia);have ql:G.length<=30:=by have:=pm.length_eq;rw[Aa,Aa,Aa] at this;lia
  have b0:∀x∈G,x.2.1∈rows.map (·.1):=fun x O=>pm.mem_iff.mp (Ac.mpr ⟨x.2,Ac.mpr ⟨x,O,rfl⟩,rfl⟩);refine⟨_,rfl,_,rfl,b,L,bl,rows,zs,M,d,rfl,r,hb,a9,fun e1 H1 s1 h1=>?_⟩;have a4:=pd.same s1;have r1:=r.same s1;refine⟨D,(fun o v e=>by rw[pd.at_] at e;cases e),?_⟩;refine⟨_,rfl,D,_,rfl,a4.at_,fun ob=>?_⟩;intro Dc a0;have a1:Dc≠D:=fun z=>by rw[z,q0b] at a0;cases a0
  have a3:H1 Dc=none:=by rw[q0d a1] at a0;exact a0
  have b1:((G.map fun x=>((x.2.1,.ref x.1):HRow)).map fun r=>(kP r.1,r.2)).length=G.length:=by rw[Aa,Aa]
  refine q5i (n:=G.length) (fun j R U=>∃I:List Zp,R=I.map (fun z=>V.ref z.1)/\I.map (·.2)=((G.map (·.2)).take j).map (fun m=>tn M m.1)/\(∀z∈I,U z.1=some (.tup (vP z.2)))/\U D=some (.frz ob (qR G))/\(∀c u,c≠D->H1 c=some u->U c=some u)/\U Dc=some (.lst R))
   ⟨[],rfl,rfl,(fun _ h=>nomatch h),by rw[q0d a1.symm];exact q0b,fun c u hc e=>by rw[q0d (q0i e a3),q0d hc];exact e,q0b⟩ (fun j R U x=>by obtain⟨_,_,_,_,_,_,h⟩:=x;exact h) (fun j R U hj x=>by obtain⟨_,_,_,_,hf,_,_⟩:=x;exact⟨hf,by rw[b1];exact hj⟩) (fun R U x=>by obtain⟨_,_,_,_,hf,_,_⟩:=x;exact⟨hf,by rw[b1];exact Au _⟩) ?_ ?_
  ·rintro j R H2 v H3 hj ⟨I,rfl,ew,hw,Y,kp,B⟩ ⟨rfl,ky,vv,pb,Z,b2,rfl⟩;obtain⟨y,hy,rfl,rfl⟩:∃y,G[j]?=some y/\ky=kP y.2.1/\vv=.ref y.1:=by
    rw[Ak,Ak] at Z;cases e:G[j]? with
    |none=>rw[e] at Z;cases Z
    |some r=>rw[e] at Z;cases Z;exact⟨r,rfl,rfl,rfl⟩
   rw[q3a] at b2;have c3:=Ah hy;have r3:RW H3 L bl rows zs M:=r1.keep a4.at_ (fun _ e=>by cases e) (fun _ e=>by cases e) kp;have W:(G.map (·.2)).take (j+1)=(G.map (·.2)).take j++[y.2]:=by rw[Br,Ak,hy];rfl
   have wl:I.length<=30:=by
    have:=congrArg List.length ew;rw[Aa,Aa,Bp,Aa] at this;lia
   refine⟨q0u,z3g (iteT ⟨_,rfl,_,rfl,pb,L,bl,rows,zs,M,y.2.1,rfl,r3,b2,m6_p (b0 y c3),fun e2 H4 s4 h4=>?_⟩)⟩;have b3:=s4 _ _ B;have tk:∀S xs,H4 S=some (.tup xs)->upd H4 Dc (.lst (I.map (fun z=>V.ref z.1)++[.ref e2])) S=some (.tup xs):=fun S xs e=>by
    rw[q0d (fun z=>by rw[z,b3] at e;cases e)];exact e
   refine⟨b3,small' (by rw[Aa];lia),I++[(e2,tn M y.2.1)],by rw[Ae];rfl,by rw[Ae,ew,W,Ae];rfl,fun z X=>?_,by rw[q0d a1.symm];exact s4 _ _ Y,fun c u hc e=>by rw[q0d (q0i e a3)];exact s4 _ _ (kp c u hc e),q0b⟩;rcases Ar.mp X with X|X
   ·exact tk _ _ (s4 _ _ (hw z X))
   ·rw[Aj.mp X];exact tk _ _ h4
  rintro R H2 ⟨I,rfl,ew,hw,Y,kp,B⟩;rw[<- Aa (f:=fun x:Addr×Mv=>x.2),Ba] at ew;refine⟨ob,_,Y,?_⟩;have s2:Same H1 (upd H2 D (qR G)):=q5e a4.at_ kp;have a5:upd H2 D (qR G) Dc=some (.lst (I.map fun z=>V.ref z.1)):=by rw[q0d a1];exact B
  have b4:∀z∈I,upd H2 D (qR G) z.1=some (.tup (vP z.2)):=fun z X=>by rw[q0d (fun e=>by have e9:=hw z X;rw[e,Y] at e9;cases e9)];exact hw z X
  generalize upd H2 D (qR G)=H3 at s2 a5 b4;clear Y kp B hw;have wl:I.length<=30:=by
   have:=congrArg List.length ew;rw[Aa,Aa,Aa] at this;lia
  have c4:∀z∈I,okP z.2:=fun z X=>by
   have:z.2∈(G.map (·.2)).map (fun m=>tn M m.1):=by rw[<- ew];exact Ac.mpr ⟨z,X,rfl⟩
   obtain⟨m,hm,e⟩:=Ac.mp this;obtain⟨x,O,rfl⟩:=Ac.mp hm;rw[<- e];exact tn_ok hl g (b0 x O)
  have c5:=s2 _ _ h1;refine⟨_,rfl,.inl ⟨Dc,rfl,⟨_,SqL.of a5⟩,fun De b5=>?_⟩⟩;refine q1i (fun i R U=>∃tk:List (List Nat),R=tk.map (fun n=>V.str (mk n))/\tk=(((I.map (·.2)).take i).filter fun p=>decide (p.dropLast=tn M d)).map (fun p=>p.getLastD [])/\Same H3 U/\U De=some (.lst R)) ⟨[],rfl,rfl,(Same.refl H3).new b5,q0b⟩ (fun i R U h=>by obtain⟨tk,_,_,s',h'⟩:=h;exact⟨h',SqL.of (s' _ _ a5)⟩) ?_ ?_
  ·rintro i R H4 v hv ⟨tk,rfl,J,s4,B⟩;obtain⟨z,X,rfl⟩:=gR0 hv
   have b6:=Ah X;have a6:=c4 z b6;have b7:=s4 _ _ (b4 z b6);have W:(I.map (·.2)).take (i+1)=(I.map (·.2)).take i++[z.2]:=by rw[Br,Ak,X];rfl
   have tl:tk.length<=30:=by
    rw[J,Aa];refine Ce (Dk _ _) ?_;rw[Bp,Aa];lia
   obtain⟨c1,c2⟩:=q1h a6.ne;refine⟨q0u,_,rfl,_,rfl,_,rfl,.inr (.inr ⟨z.1,_,rfl,SqT.of b7,c2,fun t1 c6=>?_⟩)⟩;rw[c1];have s5:=(Same.refl H4).new (o:=.tup (vP z.2.dropLast)) c6;refine⟨_,rfl,q2g q0b (s5 _ _ (s4 _ _ c5)) (q2n a6.low) (z8w hl g a9).1 ⟨_,rfl,?_⟩⟩;generalize upd H4 t1 (.tup (vP z.2.dropLast))=H5 at s5;have b8:=s4.trans s5;refine iteB (fun hc=>?_) (fun hc=>?_)
   ·refine⟨_,rfl,_,rfl,.inr (.inl ⟨z.1,_,-1,_,rfl,rfl,SqT.of (s5 _ _ b7),q4o a6.ne,s5 _ _ B,small' (by rw[Aa];lia),tk++[z.2.getLastD []],by rw[Ae];rfl,?_,b8.put b5,q0b⟩)⟩;rw[W,Ed,Dm (by simpa using hc),Ae,<- J];rfl
   ·refine⟨tk,rfl,?_,b8,s5 _ _ B⟩;rw[W,Ed,Dl (by simpa using hc),Ae,<- J];simp
  rintro R H4 ⟨tk,rfl,J,s4,B⟩;rw[Aa,<- Aa (f:=fun z:Zp=>z.2),Ba] at J;have tl:tk.length<=30:=by
   rw[J,Aa];refine Ce (Dk _ _) ?_;rw[Aa];exact wl
  have c7:=(s1.trans s2).trans s4;have flat:(tk.map fun n=>V.str (mk n)).all flatV=true:=Qi.mpr fun x O=>by obtain⟨n,_,rfl⟩:=Ac.mp O;rfl
  refine q8w (fun a2 U=>∃m:Nat,a2=[some (.ref b),some (.ref D),some (.ref L),some (.ref e1),some (.ref Dc),some (.ref De),some (.int (m:Int))]/\U=H4/\m<=31/\∀j,j<m->dg j∈tk) (fun a2 _=>match a2 with | [_,_,_,_,_,_,some (.int m)]=>100-m.toNat|_=>0) ⟨0,rfl,rfl,Bf _,fun j hj=>absurd hj (Nat.not_lt_zero _)⟩ ?_ ?_
  ·rintro a2 H5 ⟨m,rfl,rfl,d3,hm⟩;have d4:m<=tk.length:=by
    have nd:((List.range m).map dg).Nodup:=Jo.mpr (Iu (fun{x y} O hy n z=>n (dg_inj (by have:=Oh.mp O;lia) (by have:=Oh.mp hy;lia) z)) List.nodup_range);have:=q7t nd (m:=tk) fun x O=>by
     obtain⟨j,hj,rfl⟩:=Ac.mp O;exact hm j (Oh.mp hj)
    rw[Aa,List.length_range] at this;exact this
   refine⟨_,rfl,m,rfl,by lia,_,rfl,.inr ⟨De,_,rfl,.inl (SqL.of B),rfl,flat,?_⟩⟩;rw[dg_mk,x1l];refine⟨_,rfl,?_⟩;refine ite2 (fun a7=>?_) (fun a7=>?_)
   ·have a8:=of_decide_eq_true a7;refine⟨_,rfl,_,_,rfl,rfl,⟨m+1,?_,rfl,by lia,fun j hj=>?_⟩,?_⟩
    ·show[some (V.ref b),some (.ref D),some (.ref L),some (.ref e1),some (.ref Dc),some (.ref De),some (.int ((m:Int)+1))]=_;rfl
    ·by_cases e:j=m
     ·rw[e];exact a8
     ·exact hm j (by lia)
    ·show 100-((m:Int)+1).toNat<100-(m:Int).toNat;lia
   ·have b9:dg m∉tk:=fun h=>a7 (decide_eq_true h);refine⟨_,rfl,m,rfl,by lia,?_⟩;rw[dg_mk];refine k (dg m) _ c7 (okN_dg (by lia)) fun x O e=>b9 ?_;have c0:=q1l hl g.gw O;obtain⟨f1,f2⟩:=(q4m c0.ne (by simp)).mp e;rw[Co] at f1;rw[Fy] at f2;have e2:(plc M x).getLastD []=dg m:=by
     cases bl with
     |false=>exact f2
     |true=>exact low_is (q2w c0) (by rw[<- low_dg (m:=m)];exact f2)
    obtain⟨r',c8,e3⟩:=Ac.mp O;have e4:tn M x=tn M d++[dg m]:=by
     have:=(q2i hl g.gw c8).1;rw[e3,f1,e2] at this;exact this
    rw[J];have c9:x∈(G.map (·.2)).map (·.1):=pm.mem_iff.mpr O;obtain⟨m1,d0,em⟩:=Ac.mp c9;have a8:tn M x∈I.map (·.2):=by rw[ew];exact Ac.mpr ⟨m1,d0,by rw[em]⟩
    exact Ac.mpr ⟨tn M x,Di.mpr ⟨a8,by rw[e4,Co];exact decide_eq_true rfl⟩,by rw[e4,Fy]⟩
  ·intro d5 d6 Q1 Q2 hq h;obtain⟨v,e0,n,W,e2,w',e3,h⟩:=h;refine⟨v,e0,n,W,e2,w',e3,?_⟩;rcases h with⟨i,j,e4,e5,c,e6,q⟩|⟨p,xs,e4,hs,f1,f2,c,e6,q⟩
   ·exact .inl ⟨i,j,e4,e5,c,e6,hq _ _ q⟩
   ·exact .inr ⟨p,xs,e4,hs,f1,f2,c,e6,hq _ _ q⟩
theorem q6l{bl:Bool}{rows:List Rw}{f:Pth->Pth}(hl:Hl bl rows)(ap:Apart bl rows f){x y:Pth}(h:nx bl (rows.map (·.1)) f x=some y):(x∈rows.map (·.1)/\f x≠x)/\(y∈rows.map (·.1)/\f y≠y):=by
 obtain⟨g,q,j,s,u⟩:=(q0t hl).mp h;refine⟨⟨g,q⟩,j,fun e=>u ?_⟩;have ap':((rows.map (·.1)).map fun p=>fold bl (f p)).Nodup:=ap;exact q0q ap' j g (by show fold bl (f y)=fold bl (f x);rw[e];exact s)
section
variable{bl:Bool}{rows:List Rw}{W:List Mv}{D:List Pth}{a:Option (Pth×Pth)}{x r sp:Pth}{f:Pth->Pth}
theorem z2g(h:x∈D):stO f D a x=f x:=by unfold stO;rw[if_pos h]
theorem q4t(h:x∉D):stO f D none x=x:=by unfold stO;rw[if_neg h]
theorem z9a(h:r∉D):stO f D (some (r,sp)) r=sp:=by unfold stO;rw[if_neg h];simp
theorem z0g(h:x≠r):stO f D (some (r,sp)) x=stO f D none x:=by
 unfold stO;by_cases e:x∈D
 ·rw[if_pos e,if_pos e]
 ·rw[if_neg e,if_neg e];show(if x=r then sp else x)=x;rw[if_neg h]
theorem q6m{y:Pth}(h:x≠y):stO f (y::D) a x=stO f D a x:=by
 unfold stO;by_cases e:x∈D
 ·rw[if_pos (Am _ e),if_pos e]
 ·rw[if_neg (fun z=>(Bb.mp z).elim h e),if_neg e]
theorem StO.nil:StO bl rows f [] none:=⟨(fun h=>nomatch h),(fun _ h=>nomatch h),(fun h=>nomatch h)⟩
theorem StO.add(s:StO bl rows f D a)(q:x∈rows.map (·.1))(v:∀y,nx bl (rows.map (·.1)) f x=some y->y∈D\/∃sp,a=some (y,sp))(ha:∀r sp,a=some (r,sp)->x≠r/\fold bl (f x)≠fold bl sp):StO bl rows f (x::D) a:=by
 refine⟨fun{u y} g e=>?_,fun u g=>?_,fun{r sp} e=>⟨fun h=>?_,fun u g n=>?_⟩⟩
 ·rcases Bb.mp g with rfl|g
  ·exact(v y e).imp (Am _) id
  ·exact(s.cl g e).imp (Am _) id
 ·rcases Bb.mp g with rfl|g
  ·exact q
  ·exact s.sub u g
 ·rcases Bb.mp h with h|h
  ·exact(ha r sp e).1 h.symm
  ·exact(s.sp e).1 h
 ·by_cases j:u=x
  ·rw[j,z2g As];exact(ha r sp e).2
  ·rw[q6m j];exact(s.sp e).2 u g n
theorem StO.home(s:StO bl rows f D (some (r,sp)))(j:r∈rows.map (·.1))(q:∀y,nx bl (rows.map (·.1)) f r=some y->y∈D):StO bl rows f (r::D) none:=by
 refine⟨fun{u y} g e=>?_,fun u g=>?_,fun h=>nomatch h⟩
 ·rcases Bb.mp g with rfl|g
  ·exact .inl (Am _ (q y e))
  ·rcases s.cl g e with h|⟨v,h⟩
   ·exact .inl (Am _ h)
   ·injection h with h;injection h with h _;rw[<- h];exact .inl As
 ·rcases Bb.mp g with rfl|g
  ·exact j
  ·exact s.sub u g
theorem StO.aside(s:StO bl rows f D none)(q:r∉D)(g:∀u∈rows.map (·.1),fold bl (stO f D none u)≠fold bl sp):StO bl rows f D (some (r,sp)):=by
 refine⟨fun{u y} j e=>(s.cl j e).imp id fun⟨_,h⟩=>(nomatch h),s.sub,fun{r' sp'} e=>?_⟩;injection e with e;injection e with e1 e2;subst e1 e2;exact⟨q,fun u j n=>by rw[z0g n];exact g u j⟩
end
theorem x2m{e:Type}{l:List e}{j:Nat}{x:e}(h:l.reverse[j]?=some x):j<l.length/\l[l.length-1-j]?=some x:=by
 have f:j<l.length:=by have:=(Af.mp h).1;rwa [List.length_reverse] at this
 rw[List.getElem?_reverse f] at h;exact⟨f,h⟩
theorem z2h{g:Type}{l:List g}{j:Nat}{x:g}(u:j<l.length)(h:l[l.length-1-j]?=some x):l.drop (l.length-(j+1))=x::l.drop (l.length-j):=by
 have f:l.length-(j+1)<l.length:=by lia
 rw[Pz f];have e:l.length-(j+1)=l.length-1-j:=by lia
 have s:l.length-(j+1)+1=l.length-j:=by lia
 rw[s];congr 1;have q:=h;rw[<- e,Bu f] at q;exact Bx q
theorem Orb.next{g:Pth->Option Pth}{p y v:Pth}{xs:List Pth}{i:Nat}(o:Orb g p xs)(h:xs[i]?=some y)(e:g y=some v):xs[i+1]?=some v\/(xs[i+1]?=none/\v=p):=by
 cases e2:xs[i+1]? with
 |some w =>
  have:=o.st h e2;rw[e] at this;exact .inl this.symm
 |none =>
  right;refine⟨rfl,?_⟩;have j:xs≠[]:=fun z=>by rw[z] at h;cases h
  have hl:=Bh j;rw[<- q2s h e2 hl] at hl;rcases o.fin hl with f|f
  ·rw[e] at f;cases f
  ·rw[e] at f;exact Bx f
theorem at_0{v:V}{xs:List V}:atI (v::xs) 0=some v:=by
 unfold atI ixN;simp
structure CallsRF (P:Ay) (w:World) (K:Aq) (mg:Str->Option Value) (base:Heap) (c:Addr):Prop where
 ask_wishes:Cal P w K mg base "ask_wishes" 8 ["hall", "wishes"] (spAsk c)
 all_places:Cal P w K mg base "all_places" 6 ["hall", "wishes"] (spAllP c)
 chains:Cal P w K mg base "chains" 10 ["hall", "wishes"] (spChains c)
 rings:Cal P w K mg base "rings" 10 ["hall", "wishes"] (spRings c)
 put_move:Cal P w K mg base "put_move" 3 ["row", "path", "place"] spPutM
 spare_name:Cal P w K mg base "spare_name" 3 ["drawer", "paths", "row"] spSpare
structure Does (bl:Bool) (rows:List Rw) (W row:List Mv):Prop where
 w:∃ms,Way bl rows row ms/\∀u∈rows.map (·.1),plc ms u=plc W u
 len:∃(D:List Pth) (rs:List (List Pth)),D.Nodup/\(∀x,x∈D↔mvOf rows W x)/\Rgs (gOf bl rows W) rs/\row.length=D.length+rs.length
noncomputable def spRowFor(c:Addr):Sp:=fun vs H Q _=>∃h d L bl rows zs,vs=[.ref h,.ref L]/\GW c H h d L bl rows zs /\
 ∀R ws H',H R=none->Same H H'->ML H' R ws->ws.length<=60->Does bl rows (zs.map (·.2)) (ws.map (·.2))->Q (.ref R) H'
structure RSt (H4 H':Hp) (L:Addr) (bl:Bool) (rows:List Rw) (W:List Mv) (D:List Pth) (a:Option (Pth×Pth)) (n:Nat) (zs:List Zm) (ms:List Mv):Prop where
 kp:∀c u,c≠L->H4 c=some u->H' c=some u
 rw:RW H' L bl rows zs ms
 hs:∀u∈rows.map (·.1),plc ms u=stO (plc W) D a u
 st:StO bl rows (plc W) D a
 nd:D.Nodup
 len:zs.length=D.length+n
theorem RSt.same{f H' g:Hp}{L:Addr}{bl:Bool}{rows:List Rw}{W:List Mv}{D:List Pth}{a:Option (Pth×Pth)}{n:Nat}{zs:List Zm}{ms:List Mv}(r:RSt f H' L bl rows W D a n zs ms)(s:Same H' g):RSt f g L bl rows W D a n zs ms:=⟨fun c u h e=>s _ _ (r.kp c u h e),r.rw.same s,r.hs,r.st,r.nd,r.len⟩
theorem RSt.put{v H' g:Hp}{L E:Addr}{bl:Bool}{rows:List Rw}{W:List Mv}{D D':List Pth}{a a':Option (Pth×Pth)}{n n':Nat}{zs:List Zm}{ms:List Mv}{x q:Pth}(r:RSt v H' L bl rows W D a n zs ms)(G:Gd bl rows W)(few:zs.length<100)(kp:∀c u,c≠L->H' c=some u->g c=some u)(ml:ML g L (zs++[(E,(tn ms x,tn ms q.dropLast++[q.getLastD []]))]))(B:StO bl rows (plc W) D' a')(H:x∈rows.map (·.1))(I:stO (plc W) D' a' x=q)(J:Wsh rows (x,q))(M:∀u∈rows.map (·.1),u≠x->stO (plc W) D' a' u=stO (plc W) D a u)(O:q≠stO (plc W) D a x)(h:D'.Nodup)(f:zs.length+1=D'.length+n'):∃j ms',RSt v g L bl rows W D' a' n' j ms':=by
 obtain⟨ms',P,s⟩:=r.rw.w.step r.rw.hl G r.hs B H I J M O;refine⟨_,ms',fun c u C e=>kp c u C (r.kp c u C e),⟨ml,r.rw.hl,?_,by rw[Al];exact few⟩,s,B,h,by rw[Al];exact f⟩;rw[Ae];exact P
noncomputable abbrev q5s:Stmt:=top 34
theorem sc_row_for:FnScope ["hall", "wishes", "places", "row", "chain", "path", "ring", "drawer"] ["hall", "wishes"] (defScope q5s):=by trivial
theorem z5y{c:Addr}(D:Df K mg "row_for" q5s ["hall", "wishes"])(T:Txt mg)(C:CallsRF P w K mg base c):Cal P w K mg base "row_for" 11 ["hall", "wishes"] (spRowFor c):=by
 refine D.cal sc_row_for (fun vs H Q E h=>?_) (fun f m3 A outer s H vs Q E hr h=>?_)
 ·obtain⟨h,d,L,bl,rows,zs,rfl,_⟩:=h;rfl
 ·obtain⟨h,d,M,bl,rows,zs,rfl,G,k⟩:=h;refine⟨_,(q0e (q2b (pe_c C.ask_wishes hr (q0a (pv 0) (q0a (pv 1) q0c)))) (q0e (q0j (i:=2) sc_row_for.nd rfl (by trivial) (pe_c C.all_places hr (q0a (pv 0) (q0a (pv 1) q0c)))) (q0e (q0j (i:=3) sc_row_for.nd rfl (by trivial) (q2a q0c)) (q0e (q1u Ca rfl (@q1y _ _ _ _ K rfl (pe_c C.chains hr (q0a (pv 0) (q0a (pv 1) q0c)))) (q0h (i:=4) sc_row_for.nd rfl (by trivial)) (q0f (q1u Ca rfl (@rev_k _ _ _ _ _ _ K rfl rfl T.b_reversed (q0a (pv 4) q0c) (by rfl)) (q0h (i:=5) sc_row_for.nd rfl (by trivial)) (q0f (q2b (pe_c C.put_move hr (q0a (pv 3) (q0a (pv 5) (q0a (q1o (q1q hr) (pv 2) (pv 5) (fun _ _=>rfl)) q0c))))))))) (q0e (q1u Ca rfl (@q1y _ _ _ _ K rfl (pe_c C.rings hr (q0a (pv 0) (q0a (pv 1) q0c)))) (q0h (i:=6) sc_row_for.nd rfl (by trivial)) (q0e (q0j (i:=7) sc_row_for.nd rfl (by trivial) (q0p sl_P (q1k (ix_k K rfl) (pv 6) q0g (fun _ _=>rfl)) q0r (q0s (q1w q0x q0g)))) (q0e (q2b (pe_c C.put_move hr (q0a (pv 3) (q0a (q1k (ix_k K rfl) (pv 6) q0g (fun _ _=>rfl)) (q0a (q1d q3r (pv 7) (q1e (q0a (pe_c C.spare_name hr (q0a (pv 7) (q0a (pv 2) (q0a (pv 3) q0c)))) q0c))) q0c))))) (q0f (q1u Ca rfl (@rev_k _ _ _ _ _ _ K rfl rfl T.b_reversed (q0a (pv 6) q0c) (by rfl)) (q0h (i:=5) sc_row_for.nd rfl (by trivial)) (q0f (q2b (pe_c C.put_move hr (q0a (pv 3) (q0a (pv 5) (q0a (q1o (q1q hr) (pv 2) (pv 5) (fun _ _=>rfl)) q0c))))))))))) (q0f (q0m (pv 3)))))))),?_⟩;have hl:=G.hl;refine⟨_,rfl,_,rfl,h,d,M,bl,rows,zs,rfl,G.ha,hl,G.few,G.ml,G.gw,G.len,G.ap,fun H1 s1=>?_⟩;have G1:=G.same s1;refine⟨_,rfl,_,rfl,h,d,M,bl,rows,zs,rfl,G1.ha,hl,by have:=G.few;lia,G1.ml,G.gw,G.len,fun D0 qs m4 H2 m5 s2 pd i9 m6 e0=>?_⟩;have d7:=s1.trans s2;have G2:=G.same d7;have gW:Gd bl rows (zs.map (·.2)):=⟨G.gw,G.ap⟩
  have d8:(qs.map (·.2)).Perm (rows.map fun r=>(r.1,plc (zs.map (·.2)) r.1)):=by rw[e0];exact i9.map _
  have few:=G.few;have F:=z2d hl G.ap;have kq:((qs.map (·.2)).map (·.1)).Perm (rows.map (·.1)):=z0d d8;have j0:((qs.map (·.2)).map (·.1)).Nodup:=kq.nodup_iff.mpr hl.paths;generalize hW:zs.map (·.2)=W at gW d8 F;refine⟨by show 0<=sizeLine;decide,fun L hL=>?_⟩;have s3:=(Same.refl H2).new (o:=.lst []) hL;have d9:upd H2 L (.lst []) L=some (.lst []):=q0b;generalize upd H2 L (.lst [])=H3 at s3 d9;have G3:=G2.same s3;refine⟨_,rfl,_,rfl,h,d,M,bl,rows,zs,rfl,G3,fun R cs H4 hR j1 s4 b0 a6 _=>?_⟩;rw[hW] at a6;have j2:=s3.trans s4;have g6:=s4 _ _ d9;have e4:∀{S:Hp},(∀c u,c≠L->H4 c=some u->S c=some u)->Same H2 S:=fun{S} kp c u e=>kp _ _ (fun z=>by rw[z,hL] at e;cases e) (j2 _ _ e);have g7:∀{c:Addr},H3 c=none->c≠L:=fun{c} e z=>by rw[z,d9] at e;cases e
  have g8:∀x∈rows.map (·.1),okP x:=fun x hx=>by obtain⟨r,b5,rfl⟩:=Ac.mp hx;exact hl.ok r b5
  have a8:∀{D:List Pth},D.Nodup->(∀x∈D,x∈rows.map (·.1))->D.length<=30:=fun{D} nd hs=>by
   have:=q7t nd hs;rw[Aa] at this;lia
  have b6:∀{S:Hp} {e:Addr} {x:Pth},Same H2 S->x∈rows.map (·.1)->S e=some (.tup (vP x))->∃e2,DGet S D0 (.ref e) (some (.ref e2))/\S e2=some (.tup (vP (plc W x))):=fun{S e x} s' hx he=>by
   have j3:=kq.mem_iff.mpr hx;obtain⟨m,Y,em⟩:=Ac.mp j3;obtain⟨y,X,rfl⟩:=Ac.mp Y;refine⟨y.1,z8s (.inl (pd.same s').at_) j0 X (by rw[em];exact he),?_⟩;rw[<- em,<- (z8t d8 X).2];exact(pd.same s').pr y X
  have e5:∀{x:Pth},x∈rows.map (·.1)->Wsh rows (x,plc W x):=fun hx=>x4y hl gW.gw hx;have j4:RSt H4 H4 L bl rows W [] none 0 [] []:=⟨fun c u _ e=>e,⟨⟨g6,(fun _ h=>nomatch h)⟩,hl,.nil,Bf _⟩,fun u _=>(q4t Fm).symm,StO.nil,.nil,rfl⟩
  refine .inl ⟨R,rfl,⟨_,SqL.of b0.at_⟩,?_⟩;have j5:R≠L:=g7 hR;have e6:∀{S:Hp},(∀c u,c≠L->H4 c=some u->S c=some u)->∀z∈cs,PL S z.1 z.2:=fun{S} kp z hz=>⟨kp _ _ (g7 (j1 z hz)) (b0.pr z hz).at_,fun u hu=>⟨kp _ _ (fun q=>by have e:=((b0.pr z hz).pr u hu).1;rw[q,g6] at e;cases e) ((b0.pr z hz).pr u hu).1,((b0.pr z hz).pr u hu).2⟩⟩
  refine q3v (fun i I S=>∃ws ms D x4 x5,I=[some (.ref h),some (.ref M),some (.ref D0),some (.ref L),x4,x5,none,none]/\RSt H4 S L bl rows W D none 0 ws ms/\∀x,x∈D↔∃xs∈(cs.map cont).take i,x∈xs) ⟨[],[],[],none,none,rfl,j4,fun x=>⟨(fun h=>nomatch h),fun⟨xs,h,_⟩=>by rw[Lp] at h;cases h⟩⟩ (fun i I S _ x=>by obtain⟨_,_,_,_,_,_,r,_⟩:=x;exact SqL.of (r.kp _ _ j5 b0.at_)) ?_ ?_
  ·rintro i v I H5 hv ⟨ws,ms,D,x4,x5,rfl,st,hD⟩;obtain⟨z,hz,rfl⟩:=gR0 hv
   have a1:=Ah hz;obtain⟨p,a2,a3⟩:=a6.is.mp (Ac.mpr ⟨z,a1,rfl⟩);have e7:(cs.map cont).take (i+1)=(cs.map cont).take i++[cont z]:=by rw[Br,Ak,hz];rfl
   have e8:(cs.map cont)[i]?=some (cont z):=by rw[Ak,hz];rfl
   have b7:∀y∈cont z,y∉D:=fun y X f0=>by
    obtain⟨xs,a7,b8⟩:=(hD y).mp f0;obtain⟨q,_,c9⟩:=a6.is.mp (Gy a7);obtain⟨i1,h1⟩:=Bg.mp X;obtain⟨i2,h2⟩:=Bg.mp b8;have f1:=ChnP.one F a3 c9 h1 h2;exact q9w a6.nd e8 a7 (by rw[a3.o.headD,c9.o.headD,f1])
   have b9:∀y∈cont z,y∈rows.map (·.1):=a3.o.in_ F a2.1;have j6:=e6 st.kp z a1;refine⟨_,rfl,z.1,_,rfl,j6.at_,?_⟩;refine z7k (xs:=z.2.map fun z=>V.ref z.1) (fun j I S=>∃ws ms x5,I=[some (.ref h),some (.ref M),some (.ref D0),some (.ref L),some (.ref z.1),x5,none,none]/\RSt H4 S L bl rows W ((cont z).drop ((cont z).length-j)++D) none 0 ws ms) ⟨ws,ms,_,rfl,by rw[Jx,Qn];exact st⟩ (fun j I S x=>by obtain⟨_,_,_,_,r⟩:=x;exact SqL.of (e6 r.kp z a1).at_) ?_ ?_
   ·rintro j v I H6 hv ⟨d0,f2,x5,rfl,B⟩;rw[<- Vz,Ak] at hv;obtain⟨u,hu,rfl⟩:∃u,z.2.reverse[j]?=some u/\v=.ref u.1:=by
     cases e:z.2.reverse[j]? with
     |none=>rw[e] at hv;cases hv
     |some u=>rw[e] at hv;cases hv;exact⟨u,rfl,rfl⟩
    obtain⟨hj,c0⟩:=x2m hu;have cl:(cont z).length=z.2.length:=Aa _;have J:(cont z)[(cont z).length-1-j]?=some u.2:=by rw[cl,Ak,c0];rfl
    have hj':j<(cont z).length:=by rw[cl];exact hj
    have b1:=z2h hj' J;have b2:=Ah J;have g:=b9 u.2 b2;have j7:=e6 B.kp z a1;have g9:=(j7.pr u (Ah c0)).1;have Z:u.2∉(cont z).drop ((cont z).length-j)++D:=fun Y=>by
     rcases Ar.mp Y with Y|Y
     ·have c1:=a3.o.nd.sublist (Vc ((cont z).length-(j+1)) _);rw[b1] at c1;exact(Bs.mp c1).1 Y
     ·exact b7 u.2 b2 Y
    have f3:plc W u.2≠u.2:=by
     by_cases e:(cont z).length-1-j=0
     ·rw[e,a3.o.hd] at J;cases J;exact a2.2
     ·have f4:=(Af.mp J).1;have e9:(cont z).length-1-j=((cont z).length-1-j-1)+1:=by lia
      rw[e9] at J;exact(q6l hl gW.ap (a3.o.st (Bu (show(cont z).length-1-j-1<(cont z).length by lia)) J)).2.2
    obtain⟨e2,dg,f5⟩:=b6 (e4 B.kp) g g9;have c2:d0.length<=30:=by rw[B.len];exact a8 B.nd B.st.sub
    refine⟨_,rfl,_,rfl,_,rfl,_,rfl,D0,_,rfl,dg,u.1,e2,L,bl,rows,d0,f2,u.2,_,rfl,B.rw,by lia,g9,f5,g,q1l hl gW.gw g,(q1r hl gW.gw g).1,fun T' H7 j8 j9=>?_⟩;have nd':(u.2::((cont z).drop ((cont z).length-j)++D)).Nodup:=Bs.mpr ⟨Z,B.nd⟩;obtain⟨a4,b3,O⟩:=B.put gW (by lia) j8 j9 (D':=u.2::((cont z).drop ((cont z).length-j)++D)) (a':=none) (n':=0) (B.st.add g (fun y X=>by
     rcases a3.o.next J X with h|⟨_,h⟩
     ·left;refine Ck _ ?_;have e9:(cont z).length-1-j+1=(cont z).length-j:=by lia
      rw[e9] at h;exact Bg.mpr ⟨0,by rw[Pa];exact h⟩
     ·rw[h] at X;exact absurd X (a3.st _)) (fun _ _ e=>nomatch e)) g (z2g As) (e5 g) (fun y X n=>q6m n) (by rw[q4t Z];exact f3) nd' (by rw[B.len,Cg])
    exact⟨a4,b3,_,rfl,by rw[b1];exact O⟩
   ·rintro I H6 ⟨d0,f2,x5,rfl,B⟩;rw[show(cont z).length-(z.2.map fun z=>V.ref z.1).length=0 by rw[Aa,Aa];lia,Jy] at B;refine⟨d0,f2,_,_,_,rfl,B,fun x=>?_⟩;rw[Ar,hD x,e7];constructor
    ·rintro(h|⟨xs,h1,h2⟩)
     ·exact⟨_,Bm _ (Aj.mpr rfl),h⟩
     ·exact⟨xs,Ck _ h1,h2⟩
    ·rintro⟨xs,h1,h2⟩;rcases Ar.mp h1 with h1|h1
     ·exact .inr ⟨xs,h1,h2⟩
     ·rw[Aj.mp h1] at h2;exact .inl h2
  rintro I H5 ⟨ws,ms,D,x4,x5,rfl,st,hD⟩;rw[Aa,<- Aa (f:=cont),Ba] at hD;have G5:=G2.same (e4 st.kp);refine⟨_,rfl,_,rfl,h,d,M,bl,rows,zs,rfl,G5,fun R2 rs H6 k0 k1 s6 b4 a0 _=>?_⟩;rw[hW] at a0;have B:=st.same s6;have k2:=B.rw.ml.at_;have k3:H5 L≠none:=fun e=>by have:=st.rw.ml.at_;rw[e] at this;cases this
  have d3:∀{c:Addr},H5 c=none->c≠L:=fun{c} e z=>k3 (by rw[<- z];exact e);have c3:∀{S:Hp},(∀c u,c≠L->H6 c=some u->S c=some u)->Same H2 S:=fun{S} kp c u e=>kp _ _ (fun z=>by rw[z,hL] at e;cases e) (s6 _ _ (e4 st.kp _ _ e));have d1:∀{S:Hp},(∀c u,c≠L->H6 c=some u->S c=some u)->∀z∈rs,PL S z.1 z.2:=fun{S} kp z hz=>⟨kp _ _ (d3 (k1 z hz)) (b4.pr z hz).at_,fun u hu=>⟨kp _ _ (fun q=>by have e:=((b4.pr z hz).pr u hu).1;rw[q,k2] at e;cases e) ((b4.pr z hz).pr u hu).1,((b4.pr z hz).pr u hu).2⟩⟩
  have h0:RSt H6 H6 L bl rows W D none 0 ws ms:=⟨fun c u _ e=>e,B.rw,B.hs,B.st,B.nd,B.len⟩
  have h3:R2≠L:=d3 k0;refine .inl ⟨R2,rfl,⟨_,SqL.of b4.at_⟩,?_⟩;refine q3v (fun i I S=>∃ws ms D2 x5 x6 x7,I=[some (.ref h),some (.ref M),some (.ref D0),some (.ref L),x4,x5,x6,x7]/\RSt H6 S L bl rows W D2 none i ws ms/\i<=rs.length/\∀x,x∈D2↔x∈D\/∃xs∈(rs.map cont).take i,x∈xs) ⟨ws,ms,D,_,_,_,rfl,h0,Bf _,fun x=>⟨.inl,fun h=>h.elim id fun⟨xs,h,_⟩=>by rw[Lp] at h;cases h⟩⟩ (fun i I S _ x=>by obtain⟨_,_,_,_,_,_,_,r,_⟩:=x;exact SqL.of (r.kp _ _ h3 b4.at_)) ?_ ?_
  ·rintro i v I H7 hv ⟨a4,b3,D2,x5,x6,x7,rfl,O,_,c4⟩;obtain⟨z,hz,rfl⟩:=gR0 hv
   have a1:=Ah hz;have k4:=(Af.mp hz).1;obtain⟨p,rp⟩:=a0.is.mp (Ac.mpr ⟨z,a1,rfl⟩);have e7:(rs.map cont).take (i+1)=(rs.map cont).take i++[cont z]:=by rw[Br,Ak,hz];rfl
   have e8:(rs.map cont)[i]?=some (cont z):=by rw[Ak,hz];rfl
   obtain⟨v1,k5⟩:=rp.dom;have a2:p∈rows.map (·.1):=((q0t hl).mp k5).1;have b9:∀y∈cont z,y∈rows.map (·.1):=rp.o.in_ F a2;have b7:∀y∈cont z,y∉D2:=fun y X f0=>by
    rcases(c4 y).mp f0 with h|⟨xs,a7,b8⟩
    ·obtain⟨xs,a7,b8⟩:=(hD y).mp h;obtain⟨q,_,c9⟩:=a6.is.mp a7;exact z5v F c9 rp b8 X
    ·obtain⟨q,rq⟩:=a0.is.mp (Gy a7);have f1:=rp.one rq F X b8;exact q9w a0.nd e8 a7 (by rw[rp.o.headD,rq.o.headD,f1])
   have f6:=d1 O.kp z a1;have rl:rs.length<=30:=by
    have:=q7t a0.nd (m:=rows.map (·.1)) fun x hx=>by
     obtain⟨y,X,rfl⟩:=Ac.mp hx;obtain⟨q,rq⟩:=a0.is.mp X;rw[rq.o.headD];obtain⟨v2,f7⟩:=rq.dom;exact((q0t hl).mp f7).1
    rw[Aa,Aa,Aa] at this;lia
   have k6:a4.length<=60:=by have:=O.len;have:=a8 O.nd O.st.sub;lia
   have h4:z.2≠[]:=fun e=>by have:=rp.o.hd;unfold cont at this;rw[e] at this;cases this
   obtain⟨u0,zr,ez⟩:∃u0 zr,z.2=u0::zr:=by
    cases e:z.2 with
    |nil=>exact absurd e h4
    |cons a l=>exact⟨a,l,rfl⟩
   have k7:u0.2=p:=by have:=rp.o.hd;unfold cont at this;rw[ez] at this;exact Bx this
   have d4:atI (z.2.map fun z=>V.ref z.1) 0=some (.ref u0.1):=by rw[ez];exact at_0
   have h5:u0∈z.2:=by rw[ez];exact As
   have f8:=(f6.pr u0 h5).1;rw[k7] at f8;have okp:=g8 p a2;have f9:p∈cont z:=Ah rp.o.hd;have d2:=b7 p f9;have dd:IsD rows p.dropLast:=by obtain⟨r',b5,e⟩:=Ac.mp a2;rw[<- e];exact hl.dr r' b5
   have l5:p.dropLast.length<=5:=by rw[Cc];have:p.length<=6:=okp.few;lia
   refine⟨_,rfl,.inl ⟨z.1,_,0,_,rfl,rfl,SqL.of f6.at_,d4,_,rfl,_,rfl,u0.1,_,rfl,f8,fun t1 H8 s8 h8=>?_⟩⟩;rw[(q1h okp.ne).1] at h8;have g0:=O.same s8;have k8:=f6.same s8;refine⟨_,rfl,_,rfl,.inl ⟨z.1,_,0,_,rfl,rfl,SqL.of k8.at_,d4,_,rfl,_,rfl,_,rfl,_,rfl,t1,D0,L,bl,rows,a4,b3,qs,p.dropLast,rfl,g0.rw,few,h8,dd,l5,pd.same (c3 g0.kp),kq,fun n H9 s9 okn h6=>?_⟩⟩;refine⟨by show 1<=sizeLine;decide,fun t2 k9=>?_⟩;have sX:=(Same.refl H9).new (o:=.tup [.str (mk n)]) k9;refine⟨t1,t2,_,_,rfl,rfl,sX _ _ (s9 _ _ h8),q0b,by rw[q1b];exact small (by show _+1<=_;lia),fun e3 HA sA hA _=>?_⟩;have h7:HA e3=some (.tup (vP (p.dropLast++[n]))):=by rw[hA];show _=some (HO.tup ((_++[n]).map _));rw[Ae];rfl
   have h9:=(s9.trans sX).trans sA;have c5:=g0.same h9;generalize d5:p.dropLast++[n]=sp at h7 h6;have d6:okP sp:=by
    rw[<- d5];refine⟨by simp,by rw[Al];show _+1<=6;lia,fun m Y=>?_⟩;rcases Ar.mp Y with Y|Y
    ·exact okp.all m (Ob _ Y)
    ·rw[Aj.mp Y];exact okn
   have g1:sp.dropLast=p.dropLast:=by rw[<- d5,Co]
   have hsp':∀u∈rows.map (·.1),fold bl (stO (plc W) D2 none u)≠fold bl sp:=fun u hu=>by rw[<- O.hs u hu];exact h6 u hu
   have i0:p≠sp:=fun e=>hsp' p a2 (by rw[q4t d2,<- e]);refine⟨u0.1,e3,L,bl,rows,a4,b3,p,sp,rfl,c5.rw,by lia,h9 _ _ (s8 _ _ f8),h7,a2,d6,by rw[g1];exact dd,fun T' HB l0 l1=>?_⟩;obtain⟨l2,l3,i3⟩:=c5.put gW (by lia) l0 l1 (D':=D2) (a':=some (p,sp)) (n':=i+1) (c5.st.aside d2 hsp') a2 (z9a d2) ⟨by obtain⟨r',b5,e⟩:=Ac.mp a2;exact⟨r'.2,by rw[<- e];exact b5,.inl g1⟩,d6,by show IsD rows sp.dropLast;rw[g1];exact dd⟩ (fun u hu nn=>z0g nn) (by rw[q4t d2];exact fun e=>i0 e.symm) c5.nd (by have:=c5.len;lia);have l4:=d1 i3.kp z a1;have n2:∀{y:Pth},y∈cont z->fold bl (plc W y)≠fold bl sp:=fun{y} X=>by
    obtain⟨j,hj⟩:=Bg.mp X;have l6:∃v,nx bl (rows.map (·.1)) (plc W) y=some v/\v∈cont z:=by
     cases e:(cont z)[j+1]? with
     |some v=>exact⟨v,rp.o.st hj e,Ah e⟩
     |none =>
      obtain⟨w',c6,a5⟩:=rp.r;rw[<- q2s hj e c6] at a5;exact⟨p,a5,f9⟩
    obtain⟨v,hv,l8⟩:=l6;have i4:=(q0t hl).mp hv;rw[<- i4.2.2.2.1];have:=hsp' v i4.2.2.1;rw[q4t (b7 v l8)] at this;exact this
   refine⟨_,rfl,z.1,_,rfl,l4.at_,?_⟩;have cl:(cont z).length=z.2.length:=Aa _;refine z7k (xs:=z.2.map fun z=>V.ref z.1) (fun j I S=>∃ws ms x5,I=[some (.ref h),some (.ref M),some (.ref D0),some (.ref L),x4,x5,some (.ref z.1),some (.ref t1)]/\RSt H6 S L bl rows W ((cont z).drop ((cont z).length-j)++D2) (if j<(cont z).length then some (p,sp) else none) (i+1) ws ms) ⟨l2,l3,_,rfl,by rw[Jx,Qn,if_pos (by rw[cl];exact Bw.mpr h4)];exact i3⟩ (fun j I S x=>by obtain⟨_,_,_,_,r⟩:=x;exact SqL.of (d1 r.kp z a1).at_) ?_ ?_
   ·rintro j v I HC hv ⟨c7,g2,x5,rfl,U⟩;rw[<- Vz,Ak] at hv;obtain⟨u,hu,rfl⟩:∃u,z.2.reverse[j]?=some u/\v=.ref u.1:=by
     cases e:z.2.reverse[j]? with
     |none=>rw[e] at hv;cases hv
     |some u=>rw[e] at hv;cases hv;exact⟨u,rfl,rfl⟩
    obtain⟨hj,c0⟩:=x2m hu;have J:(cont z)[(cont z).length-1-j]?=some u.2:=by rw[cl,Ak,c0];rfl
    have hj':j<(cont z).length:=by rw[cl];exact hj
    rw[if_pos hj'] at U;have b1:=z2h hj' J;have b2:=Ah J;have g:=b9 u.2 b2;have l9:=d1 U.kp z a1;have i5:=(l9.pr u (Ah c0)).1;have Z:u.2∉(cont z).drop ((cont z).length-j)++D2:=fun Y=>by
     rcases Ar.mp Y with Y|Y
     ·have c1:=rp.o.nd.sublist (Vc ((cont z).length-(j+1)) _);rw[b1] at c1;exact(Bs.mp c1).1 Y
     ·exact b7 u.2 b2 Y
    obtain⟨e2,dg,f5⟩:=b6 (c3 U.kp) g i5;have c2:c7.length<=70:=by have:=U.len;have:=a8 U.nd U.st.sub;lia
    refine⟨_,rfl,_,rfl,_,rfl,_,rfl,D0,_,rfl,dg,u.1,e2,L,bl,rows,c7,g2,u.2,_,rfl,U.rw,by lia,i5,f5,g,q1l hl gW.gw g,(q1r hl gW.gw g).1,fun T2 HD i6 i7=>?_⟩;have nd':(u.2::((cont z).drop ((cont z).length-j)++D2)).Nodup:=Bs.mpr ⟨Z,U.nd⟩;have a9:∀{y:Pth},nx bl (rows.map (·.1)) (plc W) u.2=some y->y∈(cont z).drop ((cont z).length-j)++D2\/y=p:=fun{y} X=>by
     rcases rp.o.next J X with h|⟨_,h⟩
     ·left;refine Ck _ ?_;have e9:(cont z).length-1-j+1=(cont z).length-j:=by lia
      rw[e9] at h;exact Bg.mpr ⟨0,by rw[Pa];exact h⟩
     ·exact .inr h
    have c8:c7.length+1=(u.2::((cont z).drop ((cont z).length-j)++D2)).length+(i+1):=by rw[U.len,Cg];lia
    by_cases up:u.2=p
    ·have m0:j+1=(cont z).length:=by
      have:=z3k rp.o.nd J (by rw[up];exact rp.o.hd);lia
     obtain⟨g3,g4,g5⟩:=U.put gW (by lia) i6 i7 (D':=u.2::((cont z).drop ((cont z).length-j)++D2)) (a':=none) (n':=i+1) (by
      have s9:=U.st;rw[up] at g ⊢;refine s9.home g fun y X=>?_;rw[<- up] at X;rcases a9 X with h|h
      ·exact h
      ·rw[h,up] at X;exact absurd rfl ((q0t hl).mp X).2.2.2.2) g (z2g As) (e5 g) (fun y X nn=>by rw[q6m nn,up] at *;exact(z0g nn).symm) (by
       rw[up] at Z ⊢;rw[z9a Z];exact fun e=>n2 f9 (by rw[e])) nd' c8
     exact⟨g3,g4,_,rfl,by rw[b1,if_neg (by lia)];exact g5⟩
    ·have f4:j+1<(cont z).length:=by
      by_cases e:j+1=(cont z).length
      ·have e9:(cont z).length-1-j=0:=by lia
       rw[e9,rp.o.hd] at J;cases J;exact absurd rfl up
      ·lia
     have f3:plc W u.2≠u.2:=by
      cases e:(cont z)[(cont z).length-1-j+1]? with
      |some v=>exact((q0t hl).mp (rp.o.st J e)).2.1
      |none =>
       obtain⟨w',c6,a5⟩:=rp.r;rw[<- q2s J e c6] at a5;exact((q0t hl).mp a5).2.1
     obtain⟨g3,g4,g5⟩:=U.put gW (by lia) i6 i7 (D':=u.2::((cont z).drop ((cont z).length-j)++D2)) (a':=some (p,sp)) (n':=i+1) (U.st.add g (fun y X=>(a9 X).imp id fun h=>⟨sp,by rw[h]⟩) (fun r' m7 e=>by injection e with e;injection e with e1 e2;subst e1 e2;exact⟨up,n2 b2⟩)) g (z2g As) (e5 g) (fun y X nn=>q6m nn) (by rw[z0g up,q4t Z];exact f3) nd' c8;exact⟨g3,g4,_,rfl,by rw[b1,if_pos f4];exact g5⟩
   ·rintro I HC ⟨c7,g2,x5,rfl,U⟩;rw[show(cont z).length-(z.2.map fun z=>V.ref z.1).length=0 by rw[Aa,Aa];lia,Jy,if_neg (by rw[Aa,Aa];lia)] at U;refine⟨c7,g2,_,_,_,_,rfl,U,k4,fun x=>?_⟩;rw[Ar,c4 x,e7];constructor
    ·rintro(h|h|⟨xs,h1,h2⟩)
     ·exact .inr ⟨_,Bm _ (Aj.mpr rfl),h⟩
     ·exact .inl h
     ·exact .inr ⟨xs,Ck _ h1,h2⟩
    ·rintro(h|⟨xs,h1,h2⟩)
     ·exact .inr (.inl h)
     ·rcases Ar.mp h1 with h1|h1
      ·exact .inr (.inr ⟨xs,h1,h2⟩)
      ·rw[Aj.mp h1] at h2;exact .inl h2
  ·rintro I H7 ⟨a4,b3,D2,x5,x6,x7,rfl,O,_,c4⟩;rw[Aa,<- Aa (f:=cont),Ba] at c4;have i8:∀x,x∈D2↔mvOf rows W x:=fun x=>by
    rw[c4 x,hD x];constructor
    ·rintro(⟨xs,h1,h2⟩|⟨xs,h1,h2⟩)
     ·obtain⟨p,Y,ch⟩:=a6.is.mp h1;obtain⟨j,hj⟩:=Bg.mp h2;cases j with
      |zero=>rw[ch.o.hd] at hj;cases hj;exact Y
      |succ j =>
       have f4:=(Af.mp hj).1;obtain⟨u,hu⟩:=q6b ch.o.toTrk j (by lia);exact(q6l hl gW.ap (ch.o.st hu hj)).2
     ·obtain⟨p,rp⟩:=a0.is.mp h1;obtain⟨j,hj⟩:=Bg.mp h2;have:∃v,nx bl (rows.map (·.1)) (plc W) x=some v:=by
       cases e:xs[j+1]? with
       |some v=>exact⟨v,rp.o.st hj e⟩
       |none =>
        obtain⟨w',c6,a5⟩:=rp.r;rw[<- q2s hj e c6] at a5;exact⟨p,a5⟩
      obtain⟨v,hv⟩:=this;exact(q6l hl gW.ap hv).1
    ·intro Y;rcases covers F Y.1 with⟨m,ys,rp,hx⟩|⟨s',ys,m8,m1,ch,hx⟩
     ·exact .inr ⟨ys,a0.is.mpr ⟨m,rp⟩,hx⟩
     ·refine .inl ⟨ys,a6.is.mpr ⟨s',?_,ch⟩,hx⟩;rcases m1 with rfl|⟨y,X⟩
      ·exact Y
      ·exact(q6l hl gW.ap X).1
   have m2:=c3 O.kp;have c2:a4.length=D2.length+rs.length:=by have:=O.len;rw[Aa] at this;exact this
   have rl:rs.length<=30:=by
    have:=q7t a0.nd (m:=rows.map (·.1)) fun x hx=>by
     obtain⟨y,X,rfl⟩:=Ac.mp hx;obtain⟨q,rq⟩:=a0.is.mp X;rw[rq.o.headD];obtain⟨v2,f7⟩:=rq.dom;exact((q0t hl).mp f7).1
    rw[Aa,Aa,Aa] at this;lia
   have ld:=a8 O.nd O.st.sub;refine⟨_,rfl,k L a4 H7 (d7.free hL) (d7.trans m2) O.rw.ml (by lia) ?_⟩;rw[hW];refine⟨⟨b3,O.rw.w,fun u hu=>?_⟩,D2,rs.map cont,O.nd,i8,a0,by rw[Aa,Aa];exact c2⟩;rw[O.hs u hu];by_cases e:u∈D2
   ·exact z2g e
   ·rw[q4t e];by_cases e2:plc W u=u
    ·exact e2.symm
    ·exact absurd ((i8 u).mpr ⟨hu,e2⟩) e
end
end K
set_option maxHeartbeats 4000000
namespace K
open PySem L2 TX SB HM
section
variable{P:Ay}{w:World}{K:Aq}{mg:Str->Option Value}{base:Heap}
structure Tp (g g':Pth->Option Pth) (f:Pth->Pth) (ps ps':List Pth):Prop where
 F:Fol ps g
 F':Fol ps' g'
 im:∀q,q∈ps'↔∃p∈ps,f p=q
 inj:∀p∈ps,∀q∈ps,f p=f q->p=q
 com:∀p∈ps,g' (f p)=(g p).map f
section
variable{g g':Pth->Option Pth}{f:Pth->Pth}{ps ps':List Pth}{p q m:Pth}{xs ys:List Pth}
theorem q4h{j q:Type}{f:j->q}:∀{l:List j},(∀x∈l,∀y∈l,f x=f y->x=y)->l.Nodup->(l.map f).Nodup
 |[],_,_=>.nil
 |a::l,h,nd=>by
  obtain⟨s,u⟩:=Bs.mp nd;rw[Ax];refine Bs.mpr ⟨fun z=>?_,q4h (fun x v y B=>h x (Am _ v) y (Am _ B)) u⟩;obtain⟨b,g,e⟩:=Ac.mp z;rw[h b (Am _ g) a As e] at g;exact s g
theorem Tp.orb(t:Tp g g' f ps ps')(j:p∈ps)(o:Orb g p xs):Orb g' (f p) (xs.map f):=by
 have e:=o.toTrk.in_ t.F j;refine⟨⟨by rw[Ak,o.hd];rfl,fun{i x y} h1 h2=>?_,q4h (fun x q y s=>t.inj x (e x q) y (e y s)) o.nd⟩,fun{x} h=>?_⟩
 ·rw[Ak] at h1 h2;obtain⟨a,ha,rfl⟩:=Bv.mp h1;obtain⟨b,u,rfl⟩:=Bv.mp h2;rw[t.com a (e a (Ah ha)),o.st ha u];rfl
 ·rw[Eo] at h;obtain⟨a,ha,rfl⟩:=Bv.mp h;rw[t.com a (e a (Ee ha))];rcases o.fin ha with z|z
  ·exact .inl (by rw[z];rfl)
  ·exact .inr (by rw[z];rfl)
theorem Tp.ring(t:Tp g g' f ps ps')(e:p∈ps)(o:RingO g p xs):RingO g' (f p) (xs.map f):=by
 obtain⟨x,h,j⟩:=o.r;refine⟨t.orb e o.o,f x,by rw[Eo,h];rfl,?_⟩;rw[t.com x (o.o.toTrk.in_ t.F e x (Ee h)),j];rfl
theorem x1n(a:RingO g p (xs++m::ys)):RingO g m (m::ys++xs):=by
 obtain⟨x,f,j⟩:=a.r;have nd:(m::ys++xs).Nodup:=(Sl.nodup_iff).mp a.o.nd;have st:∀{i:Nat} {u v:Pth},(m::ys++xs)[i]?=some u->(m::ys++xs)[i+1]?=some v->g u=some v:=fun{i u v} e1 e2=>by
  rcases Ui (i+1) (m::ys).length with z|z
  ·rw[Bq (by lia)] at e1;rw[Bq z] at e2;refine a.o.st (i:=xs.length+i) ?_ ?_
   ·rw[Cd (by lia),show xs.length+i-xs.length=i by lia];exact e1
   ·rw[Cd (by lia),show xs.length+i+1-xs.length=i+1 by lia];exact e2
  rcases Ui i (m::ys).length with y|y
  ·have C:i=(m::ys).length-1:=by lia
   rw[Bq y,C,<- Cz] at e1;rw[Cd z,show i+1-(m::ys).length=0 by lia] at e2;have q:(xs++m::ys).getLast?=some u:=by rw[Ta,e1];rfl
   rw[f] at q;have h:=a.o.hd;cases xs with
   |nil=>cases e2
   |cons b l =>
    cases q;cases e2;cases h;exact j
  ·rw[Cd y] at e1;rw[Cd z] at e2;have hl:=(Af.mp e2).1;refine a.o.st (i:=i-(m::ys).length) ?_ ?_
   ·rw[Bq (by lia)];exact e1
   ·rw[Bq (by lia),show i-(m::ys).length+1=i+1-(m::ys).length by lia];exact e2
 have s:∀{u:Pth},(m::ys++xs).getLast?=some u->g u=some m:=fun{u} e=>by
  cases hx:xs.getLast? with
  |none =>
   have:xs=[]:=List.getLast?_eq_none_iff.mp hx;subst this;rw[Du] at e;rw[Ks,e] at f;cases f;have h:=a.o.hd;cases h;exact j
  |some v =>
   rw[Ta,hx] at e;cases e;have hl:xs.length-1<xs.length:=by have:=Bw.mpr (fun z:xs=[]=>by rw[z] at hx;cases hx);lia
   rw[Cz] at hx;refine a.o.st (i:=xs.length-1) ?_ ?_
   ·rw[Bq hl];exact hx
   ·rw[Cd (by lia),show xs.length-1+1-xs.length=0 by lia];rfl
 refine⟨⟨⟨rfl,st,nd⟩,fun{u} e=>.inr (s e)⟩,?_⟩;obtain⟨u,B⟩:∃u,(m::ys++xs).getLast?=some u:=⟨_,Bh (by simp)⟩
 exact⟨u,B,s B⟩
noncomputable def FL(xs zs:List Pth):Prop:=∃a m b,xs=a++m::b/\zs=m::b++a/\∀y∈xs,pLt y m=false
theorem FL.ring(h:FL xs ys)(o:RingO g p xs):∃m,RingP g m ys/\m∈xs:=by
 obtain⟨a,m,b,rfl,rfl,hl⟩:=h;have r:=x1n o;exact⟨m,⟨r.o,r.r,fun y e=>hl y (by rcases Ar.mp e with z|z;exact Bm _ z;exact Ck _ z)⟩,by simp⟩
theorem FL.ex(h:xs≠[]):∃ys,FL xs ys:=by
 obtain⟨m,e,hl⟩:=z0f h;obtain⟨a,b,rfl⟩:=List.append_of_mem e;exact⟨_,a,m,b,rfl,rfl,hl⟩
theorem RingP.in_(h:RingP g p xs)(F:Fol ps g):p∈ps:=by
 obtain⟨y,e⟩:=h.dom;exact F.dom e
theorem Tp.rgs(t:Tp g g' f ps ps'){rs:List (List Pth)}(R:Rgs g rs){zs:List (List Pth)}(U:∀xs∈rs,∃ys∈zs,FL (xs.map f) ys)(W:∀ys∈zs,∃xs∈rs,FL (xs.map f) ys)(so:(zs.map (·.headD [])).Pairwise (fun a b=>pLt b a=false))(nd:zs.Nodup):Rgs g' zs:=by
 have up:∀ys∈zs,∃m,RingP g' m ys:=fun ys X=>by
  obtain⟨xs,Y,Z⟩:=W ys X;obtain⟨p,J⟩:=R.is.mp Y;obtain⟨m,r,_⟩:=Z.ring (t.ring (J.in_ t.F) J.ro);exact⟨m,r⟩
 refine⟨so,q4h (fun a ha b hb e=>?_) nd,fun{ys}=>⟨up ys,fun⟨q,h⟩=>?_⟩⟩
 ·obtain⟨m,L⟩:=up a ha;obtain⟨n,M⟩:=up b hb;rw[L.o.toTrk.headD,M.o.toTrk.headD] at e;subst e;exact L.o.uniq M.o
 ·obtain⟨p,s,rfl⟩:=(t.im q).mp (h.in_ t.F');obtain⟨k,o⟩:=Orb.ex t.F s _ rfl (Trk.one (g:=g) (p:=p));have o2:=t.orb s o;have e:=o2.uniq h.o;obtain⟨x,O,P⟩:=h.r;rw[<- e,Eo] at O;obtain⟨B,Q,rfl⟩:=Bv.mp O;have C:=o.toTrk.in_ t.F s B (Ee Q);rw[t.com B C] at P;obtain⟨v,S,l5⟩:=Bv.mp P;have l6:=t.inj v (t.F.to S) p s l5;subst l6;have ro:RingO g v ([v]++k):=⟨o,B,Q,S⟩
  obtain⟨D,fl⟩:=FL.ex (xs:=[v]++k) (by simp);obtain⟨m,E,hm⟩:=fl.ring ro;obtain⟨a0,G,H⟩:=U D (R.is.mpr ⟨m,E⟩);obtain⟨n,I,hn⟩:=H.ring (t.ring (E.in_ t.F) E.ro);have j:n∈ys:=by
   rw[<- e];obtain⟨u,T,rfl⟩:=Ac.mp hn;refine Ac.mpr ⟨u,?_,rfl⟩;obtain⟨a,m',b,e1,e2,_⟩:=fl;rw[e1];rw[e2] at T;rcases Ar.mp T with z|z
   ·exact Bm _ z
   ·exact Ck _ z
  have e3:=I.one h t.F' (I.o.toTrk.hd|>Ah) j;subst e3;rw[<- I.o.uniq h.o];exact G
theorem Tp.chs(t:Tp g g' f ps ps'){mv mv':Pth->Prop}(j:∀p∈ps,mv p↔mv' (f p))(s:∀p,mv p->p∈ps)(u:∀q,mv' q->q∈ps'){rs:List (List Pth)}(R:Chs g mv rs){zs:List (List Pth)}(is:∀{ys},ys∈zs↔ys∈rs.map (·.map f))(so:(zs.map (·.headD [])).Pairwise (fun a b=>pLt b a=false))(nd:zs.Nodup):Chs g' mv' zs:=by
 have B:∀{p xs},p∈ps->ChnP g p xs->ChnP g' (f p) (xs.map f):=fun{p xs} h c=>⟨t.orb h c.o,fun q e=>by
  obtain⟨q0,v,rfl⟩:=(t.im q).mp (t.F'.dom e);rw[t.com q0 v] at e;obtain⟨y,C,I⟩:=Bv.mp e;rw[t.inj y (t.F.to C) p h I] at C;exact c.st q0 C⟩
 have up:∀ys∈zs,∃q,mv' q/\ChnP g' q ys:=fun ys J=>by
  obtain⟨xs,L,rfl⟩:=Ac.mp (is.mp J);obtain⟨p,h,c⟩:=R.is.mp L;exact⟨f p,(j p (s p h)).mp h,B (s p h) c⟩
 refine⟨so,q4h (fun a ha b M e=>?_) nd,fun{ys}=>⟨up ys,fun⟨q,v,D⟩=>?_⟩⟩
 ·obtain⟨m,_,E⟩:=up a ha;obtain⟨n,_,G⟩:=up b M;rw[E.o.toTrk.headD,G.o.toTrk.headD] at e;subst e;exact E.o.uniq G.o
 ·obtain⟨p,h,rfl⟩:=(t.im q).mp (u q v);obtain⟨k,o⟩:=Orb.ex t.F h _ rfl (Trk.one (g:=g) (p:=p));have e:=(t.orb h o).uniq D.o;refine is.mpr (Ac.mpr ⟨_,R.is.mpr ⟨p,(j p h).mpr v,⟨o,fun q0 H=>?_⟩⟩,e⟩);have:=D.st (f q0);rw[t.com q0 (t.F.dom H),H] at this;exact this rfl
end
end
end K
set_option maxHeartbeats 4000000
namespace K
open PySem L2 TX SB HM
section
variable{P:Ay}{w:World}{K:Aq}{mg:Str->Option Value}{base:Heap}
structure Ex (σ:Nat->Nat):Prop where
 ns:∀c∈NS,σ c∈NS
 inj:∀c∈NS,∀d∈NS,σ c=σ d->c=d
 lo:∀c∈NS,Bd (σ c)=σ (Bd c)
noncomputable abbrev pn(σ:Nat->Nat)(n:List Nat):List Nat:=n.map σ
noncomputable abbrev pu(σ:Nat->Nat)(p:Pth):Pth:=p.map (pn σ)
noncomputable def puR(σ:Nat->Nat)(r:Rw):Rw:=(pu σ r.1,r.2)
noncomputable def puM(σ:Nat->Nat)(m:Mv):Mv:=(pu σ m.1,pu σ m.2)
noncomputable def Nm(p:Pth):Prop:=∀n∈p,∀c∈n,c∈NS
theorem nmP{p:Pth}(h:okP p):Nm p:=fun n e=>(h.all n e).all
theorem Nm.drop{p:Pth}(h:Nm p):Nm p.dropLast:=fun n e=>h n ((List.dropLast_sublist p).subset e)
theorem z9b:∀c∈NS,Bd c∈NS:=by trivial
section
variable{σ:Nat->Nat}{p q:Pth}{bl:Bool}{rows:List Rw}{ms:List Mv}
theorem Ex.name(e:Ex σ):∀{n m:List Nat},(∀c∈n,c∈NS)->(∀c∈m,c∈NS)->pn σ n=pn σ m->n=m
 |[],[],_,_,_=>rfl
 |[],_::_,_,_,h=>by cases h
 |_::_,[],_,_,h=>by cases h
 |a::n,b::m,hn,hm,h=>by
  have h:σ a::pn σ n=σ b::pn σ m:=h;injection h with h1 h2;rw[e.inj a (hn a As) b (hm b As) h1,e.name (fun c f=>hn c (Am _ f)) (fun c f=>hm c (Am _ f)) h2]
theorem Ex.path(e:Ex σ):∀{p q:Pth},Nm p->Nm q->pu σ p=pu σ q->p=q
 |[],[],_,_,_=>rfl
 |[],_::_,_,_,h=>by cases h
 |_::_,[],_,_,h=>by cases h
 |a::p,b::q,hp,hq,h=>by
  have h:pn σ a::pu σ p=pn σ b::pu σ q:=h;injection h with h1 h2;rw[e.name (hp a As) (hq b As) h1,e.path (fun n f=>hp n (Am _ f)) (fun n f=>hq n (Am _ f)) h2]
theorem Ex.okn(e:Ex σ){n:List Nat}(h:okN n):okN (pn σ n):=⟨by rw[Aa];exact h.one,by rw[Aa];exact h.few,fun c f=>by obtain⟨d,hd,rfl⟩:=Ac.mp f;exact e.ns d (h.all d hd)⟩
theorem Ex.okp(e:Ex σ)(h:okP p):okP (pu σ p):=⟨fun z=>h.ne (Km.mp z),by rw[Aa];exact h.few,fun n f=>by obtain⟨m,g,rfl⟩:=Ac.mp f;exact e.okn (h.all m g)⟩
theorem q5t:(pu σ p).dropLast=pu σ p.dropLast:=List.map_dropLast.symm
theorem z9c:(pu σ p).getLastD []=pn σ (p.getLastD []):=by
 rw[Cy,Cy,Eo];cases p.getLast?<;>rfl
theorem pu_nil:pu σ p=[]↔p=[]:=Km
theorem Ex.low(e:Ex σ){n:List Nat}(h:∀c∈n,c∈NS):lowN (pn σ n)=pn σ (lowN n):=by
 show(n.map σ).map Bd=(n.map Bd).map σ;rw[An,An];exact Ct fun c f=>e.lo c (h c f)
theorem z9d(h:Nm p):∀c∈p.getLastD [],c∈NS:=by
 rw[Cy];cases hl:p.getLast? with
 |none=>exact fun _ h=>nomatch h
 |some n=>exact h n (Ee hl)
theorem Ex.fol(e:Ex σ)(h:Nm p):fold bl (pu σ p)=pu σ (fold bl p):=by
 cases bl with
 |false=>rfl
 |true =>
  show(pu σ p).dropLast++[lowN ((pu σ p).getLastD [])]=(p.dropLast++[lowN (p.getLastD [])]).map (pn σ);rw[Ae,q5t,z9c,e.low (z9d h)];rfl
theorem q5u(h:Nm p):Nm (fold bl p):=by
 cases bl with
 |false=>exact h
 |true =>
  intro n f c e;rcases Ar.mp (show n∈p.dropLast++[lowN (p.getLastD [])] from f) with z|z
  ·exact h.drop n z c e
  ·rw[Aj.mp z] at e;obtain⟨d,hd,rfl⟩:=Ac.mp e;exact z9b d (z9d h d hd)
theorem Ex.fol_iff(e:Ex σ)(f:Nm p)(g:Nm q):fold bl (pu σ p)=fold bl (pu σ q)↔fold bl p=fold bl q:=by
 rw[e.fol f,e.fol g];exact⟨e.path (q5u f) (q5u g),fun z=>by rw[z]⟩
theorem z9e(e:Ex σ)(j:∀r∈rows,Nm r.1)(q:Nm p){k:Option Int}:(pu σ p,k)∈rows.map (puR σ)↔(p,k)∈rows:=by
 refine⟨fun h=>?_,fun h=>Ac.mpr ⟨_,h,rfl⟩⟩;obtain⟨r,g,f⟩:=Ac.mp h;have f:(pu σ r.1,r.2)=(pu σ p,k):=f;injection f with h3 h4;rw[<- e.path (j r g) q h3,<- h4];exact g
theorem q4e:(rows.map (puR σ)).map (·.1)=(rows.map (·.1)).map (pu σ):=by rw[An,An];rfl
theorem Ex.hl(e:Ex σ)(hl:Hl bl rows):Hl bl (rows.map (puR σ)):=by
 have h:∀r∈rows,Nm r.1:=fun r f=>(nmP (hl.ok r f))
 refine⟨fun r f=>?_,?_,fun r f=>?_⟩
 ·obtain⟨x,g,rfl⟩:=Ac.mp f;exact e.okp (hl.ok x g)
 ·have j:(rows.map (puR σ)).map (fun r=>fold bl r.1)=(rows.map fun r=>fold bl r.1).map (pu σ):=by
   rw[An,An];exact Ct fun r f=>e.fol (h r f)
  rw[j];refine q4h (fun a ha b q z=>?_) hl.nd;obtain⟨x,g,rfl⟩:=Ac.mp ha;obtain⟨y,s,rfl⟩:=Ac.mp q;exact e.path (q5u (h x g)) (q5u (h y s)) z
 ·obtain⟨x,g,rfl⟩:=Ac.mp f;show(pu σ x.1).dropLast=[]\/((pu σ x.1).dropLast,none)∈_;rw[q5t];exact(hl.dr x g).imp pu_nil.mpr fun z=>(z9e e h (h x g).drop).mpr z
theorem Ex.plw(e:Ex σ):∀{ms:List Mv},(∀m∈ms,Nm m.1)->∀{p:Pth},Nm p->plc (ms.map (puM σ)) (pu σ p)=pu σ (plc ms p)
 |[],_,_,_=>rfl
 |m::ms,h,p,hp=>by
  have f:=e.plw (ms:=ms) (fun x g=>h x (Am _ g)) hp;show(if pu σ m.1=pu σ p then pu σ m.2 else _)=pu σ (if m.1=p then m.2 else _);by_cases z:m.1=p
  ·rw[if_pos (by rw[z]),if_pos z]
  ·rw[if_neg (fun y=>z (e.path (h m As) hp y)),if_neg z];exact f
theorem q8t(h:∀m∈ms,Nm m.2)(e:Nm p):Nm (plc ms p):=by
 induction ms with
 |nil=>exact e
 |cons m ms ih =>
  show Nm (if m.1=p then m.2 else plc ms p);split
  ·exact h m As
  ·exact ih fun x f=>h x (Am _ f)
theorem Ex.gw(e:Ex σ)(hl:Hl bl rows)(g:GoodW rows ms):GoodW (rows.map (puR σ)) (ms.map (puM σ)):=by
 have f:∀r∈rows,Nm r.1:=fun r u=>(nmP (hl.ok r u))
 refine⟨fun m v=>?_,?_⟩
 ·obtain⟨x,h,rfl⟩:=Ac.mp v;obtain⟨k,q,s⟩:=(g.all x h).th;have j:=(g.all x h).ok;refine⟨⟨k,(z9e e f (f _ q)).mpr q,?_⟩,e.okp j,?_⟩
  ·show(pu σ x.2).dropLast=(pu σ x.1).dropLast\/_;rw[q5t,q5t];exact s.imp (fun z=>by rw[z]) id
  ·show(pu σ x.2).dropLast=[]\/((pu σ x.2).dropLast,none)∈_;rw[q5t];exact(g.all x h).dr.imp pu_nil.mpr fun z=>(z9e e f (nmP j).drop).mpr z
 ·have B:(ms.map (puM σ)).map (·.1)=(ms.map (·.1)).map (pu σ):=by rw[An,An];rfl
  rw[B];refine q4h (fun a ha b C z=>?_) g.nd;obtain⟨x,h,rfl⟩:=Ac.mp ha;obtain⟨y,D,rfl⟩:=Ac.mp C;obtain⟨_,q,_⟩:=(g.all x h).th;obtain⟨_,s,_⟩:=(g.all y D).th;exact e.path (f _ q) (f _ s) z
theorem GoodW.nm1(hl:Hl bl rows)(g:GoodW rows ms):∀m∈ms,Nm m.1:=fun m e=>by obtain⟨_,h,_⟩:=(g.all m e).th;exact(nmP (hl.ok _ h))
theorem GoodW.nm2(g:GoodW rows ms):∀m∈ms,Nm m.2:=fun m e=>nmP (g.all m e).ok
theorem Ex.apart(e:Ex σ)(hl:Hl bl rows)(g:GoodW rows ms)(ap:Apart bl rows (plc ms)):Apart bl (rows.map (puR σ)) (plc (ms.map (puM σ))):=by
 show(((rows.map (puR σ)).map (·.1)).map fun p=>fold bl (plc (ms.map (puM σ)) p)).Nodup;have j:((rows.map (puR σ)).map (·.1)).map (fun p=>fold bl (plc (ms.map (puM σ)) p))=((rows.map (·.1)).map fun p=>fold bl (plc ms p)).map (pu σ):=by
  rw[q4e,An,An,An,An];refine Ct fun r f=>?_;have h:=nmP (hl.ok r f);show fold bl (plc (ms.map (puM σ)) (pu σ r.1))=pu σ (fold bl (plc ms r.1));rw[e.plw (g.nm1 hl) h,e.fol (q8t g.nm2 h)]
 rw[j];refine q4h (fun a ha b q z=>?_) ap;obtain⟨x,u,rfl⟩:=Ac.mp ha;obtain⟨y,v,rfl⟩:=Ac.mp q;obtain⟨r,f,rfl⟩:=Ac.mp u;obtain⟨s,hs,rfl⟩:=Ac.mp v;exact e.path (q5u (q8t g.nm2 (nmP (hl.ok r f)))) (q5u (q8t g.nm2 (nmP (hl.ok s hs)))) z
theorem Ex.tp(e:Ex σ)(hl:Hl bl rows)(g:GoodW rows ms)(ap:Apart bl rows (plc ms)):Tp (gOf bl rows ms) (gOf bl (rows.map (puR σ)) (ms.map (puM σ))) (pu σ) (rows.map (·.1)) ((rows.map (puR σ)).map (·.1)):=by
 have hl':=e.hl hl;have v:∀p∈rows.map (·.1),Nm p:=fun p f=>by obtain⟨r,H,rfl⟩:=Ac.mp f;exact(nmP (hl.ok r H))
 refine⟨z2d hl ap,z2d hl' (e.apart hl g ap),fun q=>by rw[q4e];exact Ac,fun p f q j=>e.path (v p f) (v q j),fun p f=>?_⟩;have B:=v p f;have s:∀q∈rows.map (·.1),(gOf bl (rows.map (puR σ)) (ms.map (puM σ)) (pu σ p)=some (pu σ q)↔gOf bl rows ms p=some q):=fun q j=>by
  rw[q0t hl',q0t hl,q4e,e.plw (g.nm1 hl) B];have G:=v q j;have u:=q8t g.nm2 B;rw[e.fol_iff G u];exact⟨fun⟨_,C,_,D,E⟩=>⟨f,fun z=>C (by rw[z]),j,D,fun z=>E (by rw[z])⟩,fun⟨_,C,_,D,E⟩=>⟨Ac.mpr ⟨p,f,rfl⟩,fun z=>C (e.path u B z),Ac.mpr ⟨q,j,rfl⟩,D,fun z=>E (e.path G B z)⟩⟩
 cases h:gOf bl rows ms p with
 |some q=>exact(s q ((q0t hl).mp h).2.2.1).mpr h
 |none =>
  cases h':gOf bl (rows.map (puR σ)) (ms.map (puM σ)) (pu σ p) with
  |none=>rfl
  |some q' =>
   have:=((q0t hl').mp h').2.2.1;rw[q4e] at this;obtain⟨q,j,rfl⟩:=Ac.mp this;rw[(s q j).mp h'] at h;cases h
theorem Ex.mv(e:Ex σ)(hl:Hl bl rows)(g:GoodW rows ms)(h:p∈rows.map (·.1)):mvOf rows ms p↔mvOf (rows.map (puR σ)) (ms.map (puM σ)) (pu σ p):=by
 have f:Nm p:=by obtain⟨r,j,rfl⟩:=Ac.mp h;exact(nmP (hl.ok r j))
 show(_/\plc ms p≠p)↔(_/\plc (ms.map (puM σ)) (pu σ p)≠pu σ p);rw[e.plw (g.nm1 hl) f,q4e];exact⟨fun⟨a,b⟩=>⟨Ac.mpr ⟨p,a,rfl⟩,fun z=>b (e.path (q8t g.nm2 f) f z)⟩,fun⟨_,b⟩=>⟨h,fun z=>b (by rw[z])⟩⟩
theorem Ex.len(e:Ex σ)(hl:Hl bl rows)(g:GoodW rows ms)(ap:Apart bl rows (plc ms)){a b:List Mv}{R R':List (List Pth)}(G:Rgs (gOf bl rows ms) R)(H:Rgs (gOf bl (rows.map (puR σ)) (ms.map (puM σ))) R')(I:R'.length=R.length)(da:Does bl rows ms a)(J:Does bl (rows.map (puR σ)) (ms.map (puM σ)) b):b.length=a.length:=by
 obtain⟨D,T,nd,is,L,M⟩:=da.len;obtain⟨O,P,j,s,u,v⟩:=J.len;rw[M,v,L.uniq G,u.uniq H,I];have pm:O.Perm (D.map (pu σ)):=by
  have B:∀x∈D,x∈rows.map (·.1):=fun x f=>((is x).mp f).1;have C:∀x∈D,Nm x:=fun x f=>by obtain⟨r,Q,rfl⟩:=Ac.mp (B x f);exact(nmP (hl.ok r Q))
  refine(Hz j (q4h (fun x f y S=>e.path (C x f) (C y S)) nd)).mpr fun q=>?_;rw[s q];refine⟨fun z=>?_,fun z=>?_⟩
  ·have E:=z.1;rw[q4e] at E;obtain⟨p,h,rfl⟩:=Ac.mp E;exact Ac.mpr ⟨p,(is p).mpr ((e.mv hl g h).mpr z),rfl⟩
  ·obtain⟨p,h,rfl⟩:=Ac.mp z;exact(e.mv hl g (B p h)).mp ((is p).mp h)
 have:=pm.length_eq;rw[Aa] at this;lia
theorem z9f(e:Ex σ)(f:∀m∈ms,Nm m.1)(g:∀m∈ms,Nm m.2):∀(k:Nat) {p:Pth},Nm p->thenP (plc (ms.map (puM σ))) k (pu σ p)=pu σ (thenP (plc ms) k p)
 |0,_,_=>rfl
 |k+1,p,hp=>by
  show(if pu σ p=[] then[] else _)=pu σ (if p=[] then[] else _);by_cases z:p=[]
  ·rw[if_pos (pu_nil.mpr z),if_pos z];rfl
  ·rw[if_neg (fun y=>z (pu_nil.mp y)),if_neg z,e.plw f hp,q5t,z9c,z9f e f g k (q8t g hp).drop];show(thenP (plc ms) k (plc ms p).dropLast).map (pn σ)++[pn σ ((plc ms p).getLastD [])]=(thenP (plc ms) k (plc ms p).dropLast++[(plc ms p).getLastD []]).map (pn σ);rw[Ae];rfl
theorem Ex.goal(e:Ex σ)(hl:Hl bl rows)(g:GoodW rows ms):gRows (rows.map (puR σ)) (ms.map (puM σ))=(gRows rows ms).map (puR σ):=by
 unfold gRows;rw[An,An];refine Ct fun r f=>?_;show(thenP (plc (ms.map (puM σ))) 7 (pu σ r.1),r.2)=(pu σ (thenP (plc ms) 7 r.1),r.2)
 rw[z9f e (g.nm1 hl) g.nm2 7 (nmP (hl.ok r f))]
end
end
end K
set_option maxHeartbeats 4000000
namespace K
open PySem L2 TX SB HM
section
variable{P:Ay}{w:World}{K:Aq}{mg:Str->Option Value}{base:Heap}
noncomputable abbrev chs(l:List Nat):List V:=l.map fun c=>V.str (mk [c])
noncomputable def LO:List Nat:=[97,98,99,100,101,102,103,104,105,106,107,108,109,110,111,112,113,114,115,116,117,118,119,120,121,122]
noncomputable def FG:List Nat:=[48,49,50,51,52,53,54,55,56,57]
noncomputable def gS(as fs:List Nat)(c:Nat):Option Nat:=if c=45\/c=95\/c=46 then some c else if 97<=c/\c<=122 then as[c-97]? else if 65<=c/\c<=90 then(as[c-65]?).map (· - 32) else if 48<=c/\c<=57 then fs[c-48]? else none
structure SgD (H:Hp) (D:Addr) (as fs:List Nat):Prop where
 ex:∃kvs:List (Key×V),H D=some (.dK kvs)/\kvs.length<=3+2*as.length+fs.length/\∀c,valV kvs (.inr (mk [c]))=(gS as fs c).map fun d=>V.str (mk [d])
theorem LO_at{i c:Nat}(h:LO[i]?=some c):c=97+i/\i<26:=by
 have e:i<26:=(Af.mp h).1;have:∀i<26,LO[i]?=some (97+i):=by decide
 rw[this i e] at h;cases h;exact⟨rfl,e⟩
theorem FG_at{i c:Nat}(h:FG[i]?=some c):c=48+i/\i<10:=by
 have e:i<10:=(Af.mp h).1;have:∀i<10,FG[i]?=some (48+i):=by decide
 rw[this i e] at h;cases h;exact⟨rfl,e⟩
theorem x5a:∀c∈LO,97<=c/\c<=122:=by decide
theorem FG_in:∀c∈FG,48<=c/\c<=57:=by decide
theorem one_key{c d:Nat}:((Sum.inr (mk [c]):Key)=.inr (mk [d]))↔c=d:=by
 refine⟨fun z=>?_,fun z=>by rw[z]⟩;injection z with z;have:=congrArg tl z;rw[q2m,q2m] at this;injection this
theorem q6n{kvs:List (Key×V)}{k:Key}{v:V}:(putK kvs k v).length<=kvs.length+1:=by
 unfold putK;split
 ·rw[Aa];lia
 ·rw[Al,Cr];lia
theorem q4f{as:List Nat}{o k:Nat}:(as++[o])[k]?=if k=as.length then some o else as[k]?:=by
 rcases Nat.lt_trichotomy k as.length with z|z|z
 ·rw[Bq z,if_neg (by lia)]
 ·rw[z,if_pos rfl,Cd (Au _),Uk];rfl
 ·rw[Cd (by lia),if_neg (by lia),Sm (by rw[Cr];lia),Sm (by lia)]
theorem gS_lo{as fs:List Nat}{o c:Nat}(h:as.length<26):gS (as++[o]) fs c=if c=97+as.length then some o else if c=65+as.length then some (o-32) else gS as fs c:=by
 by_cases j:c=97+as.length
 ·rw[if_pos j];unfold gS;rw[if_neg (by lia),if_pos (by lia),q4f,if_pos (by lia)]
 rw[if_neg j];by_cases q:c=65+as.length
 ·rw[if_pos q];unfold gS;rw[if_neg (by lia),if_neg (by lia),if_pos (by lia),q4f,if_pos (by lia)];rfl
 rw[if_neg q];unfold gS;by_cases e:c=45\/c=95\/c=46
 ·rw[if_pos e,if_pos e]
 rw[if_neg e,if_neg e];by_cases f:97<=c/\c<=122
 ·rw[if_pos f,if_pos f,q4f,if_neg (by lia)]
 rw[if_neg f,if_neg f];by_cases g:65<=c/\c<=90
 ·rw[if_pos g,if_pos g,q4f,if_neg (by lia)]
 rw[if_neg g,if_neg g]
theorem gS_fg{as fs:List Nat}{o c:Nat}(h:fs.length<10):gS as (fs++[o]) c=if c=48+fs.length then some o else gS as fs c:=by
 by_cases q:c=48+fs.length
 ·rw[if_pos q];unfold gS;rw[if_neg (by lia),if_neg (by lia),if_neg (by lia),if_pos (by lia),q4f,if_pos (by lia)]
 rw[if_neg q];unfold gS;by_cases e:c=45\/c=95\/c=46
 ·rw[if_pos e,if_pos e]
 rw[if_neg e,if_neg e];by_cases f:97<=c/\c<=122
 ·rw[if_pos f,if_pos f]
 rw[if_neg f,if_neg f];by_cases g:65<=c/\c<=90
 ·rw[if_pos g,if_pos g]
 rw[if_neg g,if_neg g];by_cases j:48<=c/\c<=57
 ·rw[if_pos j,if_pos j,q4f,if_neg (by lia)]
 rw[if_neg j,if_neg j]
theorem sgd_lo{H:Hp}{D:Addr}{as fs:List Nat}{o:Nat}{kvs:List (Key×V)}(hl:kvs.length<=3+2*as.length+fs.length)(g:∀c,valV kvs (.inr (mk [c]))=(gS as fs c).map fun d=>V.str (mk [d]))(h:as.length<26):SgD (upd H D (.dK (putK (putK kvs (.inr (mk [97+as.length])) (.str (mk [o]))) (.inr (mk [65+as.length])) (.str (mk [o-32]))))) D (as++[o]) fs:=by
 refine⟨_,q0b,?_,fun c=>?_⟩
 ·have j:=q6n (kvs:=putK kvs (.inr (mk [97+as.length])) (.str (mk [o]))) (k:=.inr (mk [65+as.length])) (v:=.str (mk [o-32]));have q:=q6n (kvs:=kvs) (k:=.inr (mk [97+as.length])) (v:=.str (mk [o]));rw[Al,Cr];lia
 ·rw[q6f,q6f,g,gS_lo h];by_cases e:c=97+as.length
  ·rw[if_neg (fun z=>by have:=one_key.mp z;lia),if_pos (by rw[e]),if_pos e];rfl
  rw[if_neg e];by_cases f:c=65+as.length
  ·rw[if_pos (by rw[f]),if_pos f];rfl
  rw[if_neg (fun z=>f (one_key.mp z)),if_neg (fun z=>e (one_key.mp z)),if_neg f]
theorem sgd_fg{H:Hp}{D:Addr}{as fs:List Nat}{o:Nat}{kvs:List (Key×V)}(hl:kvs.length<=3+2*as.length+fs.length)(f:∀c,valV kvs (.inr (mk [c]))=(gS as fs c).map fun d=>V.str (mk [d]))(h:fs.length<10):SgD (upd H D (.dK (putK kvs (.inr (mk [48+fs.length])) (.str (mk [o]))))) D as (fs++[o]):=by
 refine⟨_,q0b,?_,fun c=>?_⟩
 ·have g:=q6n (kvs:=kvs) (k:=.inr (mk [48+fs.length])) (v:=.str (mk [o]));rw[Al,Cr];lia
 ·rw[q6f,f,gS_fg h];by_cases e:c=48+fs.length
  ·rw[if_pos (by rw[e]),if_pos e];rfl
  rw[if_neg (fun z=>e (one_key.mp z)),if_neg e]
theorem x5b:∀c∈NS,(c=45\/c=95\/c=46)\/(97<=c/\c<=122)\/(65<=c/\c<=90)\/(48<=c/\c<=57):=by trivial
theorem ns_of:∀c<128,((c=45\/c=95\/c=46)\/(97<=c/\c<=122)\/(65<=c/\c<=90)\/(48<=c/\c<=57))->c∈NS:=by trivial
theorem z2i:∀c<128,Bd c=if 65<=c/\c<=90 then c+32 else c:=by trivial
theorem up_is:∀c<128,97<=c/\c<=122->Kh c=c-32:=by trivial
section
variable{as fs:List Nat}{c d i:Nat}
theorem z0h{l m:List Nat}{i:Nat}(p:l.Perm m)(h:i<m.length):∃d,l[i]?=some d/\d∈m:=⟨_,Bu (by rw[p.length_eq];exact h),p.mem_iff.mp (Wa _)⟩
theorem q7p(j:as.Perm LO)(q:fs.Perm FG)(s:c∈NS):((c=45\/c=95\/c=46)/\gS as fs c=some c)\/(∃i d,i<26/\c=97+i/\as[i]?=some d/\97<=d/\d<=122/\gS as fs c=some d)\/(∃i d,i<26/\c=65+i/\as[i]?=some d/\97<=d/\d<=122/\gS as fs c=some (d-32))\/∃i d,i<10/\c=48+i/\fs[i]?=some d/\48<=d/\d<=57/\gS as fs c=some d:=by
 rcases x5b c s with h|h|h|h
 ·exact .inl ⟨h,if_pos h⟩
 ·obtain⟨d,e,g⟩:=z0h (i:=c-97) j (by show _<26;lia);have f:=x5a d g;refine .inr (.inl ⟨c-97,d,by lia,by lia,e,f.1,f.2,?_⟩);unfold gS;rw[if_neg (by lia),if_pos h,e]
 ·obtain⟨d,e,g⟩:=z0h (i:=c-65) j (by show _<26;lia);have f:=x5a d g;refine .inr (.inr (.inl ⟨c-65,d,by lia,by lia,e,f.1,f.2,?_⟩));unfold gS;rw[if_neg (by lia),if_neg (by lia),if_pos h,e];rfl
 ·obtain⟨d,e,g⟩:=z0h (i:=c-48) q (by show _<10;lia);have f:=FG_in d g;refine .inr (.inr (.inr ⟨c-48,d,by lia,by lia,e,f.1,f.2,?_⟩));unfold gS;rw[if_neg (by lia),if_neg (by lia),if_neg (by lia),if_pos h,e]
noncomputable abbrev sgO(as fs:List Nat)(c:Nat):Nat:=(gS as fs c).getD c
theorem nd_LO:LO.Nodup:=by decide
theorem nd_FG:FG.Nodup:=by decide
theorem ex_of(C:as.Perm LO)(D:fs.Perm FG):Ex (sgO as fs):=by
 have na:=C.nodup_iff.mpr nd_LO;have O:=D.nodup_iff.mpr nd_FG;refine⟨fun c v=>?_,fun c v d hd e=>?_,fun c v=>?_⟩
 ·rcases q7p C D v with⟨h,e⟩|⟨i,d,_,_,_,q,s,e⟩|⟨i,d,_,_,_,q,s,e⟩|⟨i,d,_,_,_,q,s,e⟩<;>(show(gS as fs c).getD c∈NS;rw[e,Wb];exact ns_of _ (by lia) (by lia))
 ·rcases q7p C D v with⟨h,g⟩|⟨i,x,E,G,u,q,s,g⟩|⟨i,x,E,G,u,q,s,g⟩|⟨i,x,E,G,u,q,s,g⟩<;>rcases q7p C D hd with⟨P,B⟩|⟨j,y,I,J,H,L,M,B⟩|⟨j,y,I,J,H,L,M,B⟩|⟨j,y,I,J,H,L,M,B⟩<;>(have e:(gS as fs c).getD c=(gS as fs d).getD d:=e;rw[g,B] at e;simp only[Wb] at e)<;>first|lia|(have:i=j:=z3k na u (by rw[show x=y by lia];exact H);lia)|(have:i=j:=z3k O u (by rw[show x=y by lia];exact H);lia)
 ·have f:=x0d c v;have hl:Bd c∈NS:=z9b c v;show Bd ((gS as fs c).getD c)=(gS as fs (Bd c)).getD (Bd c);rcases q7p C D v with⟨h,g⟩|⟨i,x,E,G,u,q,s,g⟩|⟨i,x,E,G,u,q,s,g⟩|⟨i,x,E,G,u,q,s,g⟩
  ·rw[z2i c f,if_neg (by lia),g];show Bd c=c;rw[z2i c f,if_neg (by lia)]
  ·rw[z2i c f,if_neg (by lia),g];show Bd x=x;rw[z2i x (by lia),if_neg (by lia)]
  ·rw[z2i c f,if_pos (by lia),g];have B:gS as fs (c+32)=some x:=by
    unfold gS;rw[if_neg (by lia),if_pos (by lia),show c+32-97=i by lia,u]
   rw[B];show Bd (x-32)=x;rw[z2i _ (by lia),if_pos (by lia)];lia
  ·rw[z2i c f,if_neg (by lia),g];show Bd x=x;rw[z2i x (by lia),if_neg (by lia)]
end
end
end K
set_option maxHeartbeats 4000000
namespace K
open PySem L2 TX SB HM
section
variable{P:Ay}{w:World}{K:Aq}{mg:Str->Option Value}{base:Heap}
structure CallsEx (P:Ay) (w:World) (K:Aq) (mg:Str->Option Value) (base:Heap):Prop where
 draw:Cal P w K mg base "_law_draw" 1 ["_law_feed", "_law_many"] spDraw
noncomputable def spExch:Sp:=fun vs H Q _=>∃a b,vs=[.ref a]/\FeedAt H a b/\∀D as fs H',Fd a b H H'->H D=none->SgD H' D as fs->as.Perm LO->fs.Perm FG->Q (.ref D) H'
noncomputable abbrev kv3:List (Key×V):=[(.inr (mk [45]),.str (mk [45])),(.inr (mk [95]),.str (mk [95])),(.inr (mk [46]),.str (mk [46]))]
theorem sgd_0{H:Hp}{D:Addr}:SgD (upd H D (.dK (mergeK [] kv3))) D [] []:=by
 have e:mergeK [] kv3=kv3:=by trivial
 rw[e];refine⟨_,q0b,by decide,fun c=>?_⟩;unfold gS;by_cases f:c=45
 ·rw[q0z (one_key.mpr f.symm),if_pos (.inl f),f];rfl
 rw[q0y (fun z=>f (one_key.mp z).symm)];by_cases g:c=95
 ·rw[q0z (one_key.mpr g.symm),if_pos (.inr (.inl g)),g];rfl
 rw[q0y (fun z=>g (one_key.mp z).symm)];by_cases h:c=46
 ·rw[q0z (one_key.mpr h.symm),if_pos (.inr (.inr h)),h];rfl
 rw[q0y (fun z=>h (one_key.mp z).symm),if_neg (by lia)];split
 ·rfl
 split
 ·rfl
 split
 ·rfl
 ·rfl
theorem q2z{e g:Type}{f:e->g}:∀{l:List e} {n:Nat},(l.map f).eraseIdx n=(l.eraseIdx n).map f
 |[],_=>rfl
 |_::_,0=>rfl
 |a::l,n+1=>by show f a::(l.map f).eraseIdx n=f a::(l.eraseIdx n).map f;rw[q2z]
theorem z0i{e:Type}:∀{l:List e} {n:Nat} {x:e},l[n]?=some x->(x::l.eraseIdx n).Perm l
 |_::_,0,_,h=>by cases h;exact .refl _
 |a::l,n+1,x,h=>(List.Perm.swap a x _).trans ((z0i (l:=l) h).cons a)
theorem z9g{n len:Nat}(h:n<len):Qx ((n:Nat):Int) len=some n:=by
 have e:¬((n:Nat):Int)<0:=by lia
 have f:((n:Nat):Int)<(len:Int):=by lia
 have g:(0:Int)<=((n:Nat):Int):=by lia
 simp[Qx,e,f,g]
noncomputable abbrev q4u:Stmt:=top 49
theorem sc_exchange:FnScope ["_law_feed", "_law_small", "_law_figures", "_law_signs", "_law_sign", "_law_other"] ["_law_feed"] (defScope q4u):=by trivial
set_option maxHeartbeats 40000000 in
theorem z3p(D:Df K mg "_law_exchange" q4u ["_law_feed"])(T:Txt mg)(C:CallsEx P w K mg base):Cal P w K mg base "_law_exchange" 2 ["_law_feed"] spExch:=by
 refine D.cal sc_exchange (fun vs H Q E h=>?_) (fun f c6 A outer s H vs Q E hr h=>?_)
 ·obtain⟨a,b,rfl,_⟩:=h;rfl
 ·obtain⟨a,b,rfl,F,k⟩:=h;refine⟨_,(q0e (q0j (i:=1) sc_exchange.nd rfl (by trivial) (q1x (q8k rfl) (by rfl) T.b_list (by trivial) (q0a q1v q0c))) (q0e (q0j (i:=2) sc_exchange.nd rfl (by trivial) (q1x (q8k rfl) (by rfl) T.b_list (by trivial) (q0a q1v q0c))) (q0e (q0j (i:=3) sc_exchange.nd rfl (by trivial) (x3q (q9m q1v q1v (q9m q1v q1v (q9m q1v q1v x3p))) rfl rfl (by simp) (by decide))) (q0e (q1u Ca rfl (@q1y _ _ _ _ K rfl q1v) (q0h (i:=4) sc_exchange.nd rfl (by trivial)) (q0e (q0j (i:=5) sc_exchange.nd rfl (by trivial) (@bm_k _ _ _ _ _ _ _ _ _ _ _ _ K rfl Cq Nc Nd q9c (pv 1) (q0a (pe_c C.draw hr (q0a (pv 0) (q0a (q0l (q3o K rfl) (by rfl) T.b_len Cs (q0a (pv 1) q0c)) q0c))) q0c) (by rfl) (by rfl) (by rfl) (by rfl) (by rfl))) (q0e (q4j (q1q hr) (pv 3) (pv 4) (pv 5) rfl) (q0f (q4j (q1q hr) (pv 3) (@q9h _ _ _ _ _ _ _ _ _ K rfl Dd Mi Mj q9f (pv 4) (by rfl) (by rfl)) (@q9h _ _ _ _ _ _ _ _ _ K rfl Dd Mi Mj q9f (pv 5) (by rfl) (by rfl)) rfl))))) (q0e (q1u Ca rfl (@q1y _ _ _ _ K rfl q1v) (q0h (i:=4) sc_exchange.nd rfl (by trivial)) (q0f (q4j (q1q hr) (pv 3) (pv 4) (@bm_k _ _ _ _ _ _ _ _ _ _ _ _ K rfl Cq Nc Nd q9c (pv 2) (q0a (pe_c C.draw hr (q0a (pv 0) (q0a (q0l (q3o K rfl) (by rfl) T.b_len Cs (q0a (pv 2) q0c)) q0c))) q0c) (by rfl) (by rfl) (by rfl) (by rfl) (by rfl)) rfl))) (q0f (q0m (pv 3)))))))),?_⟩;refine⟨_,rfl,by trivial,fun S hS=>?_⟩;rw[show tl (Ap "abcdefghijklmnopqrstuvwxyz")=LO by trivial];have Z:=(Fd.refl F).new (o:=.lst (chs LO)) hS;have a2:upd H S (.lst (chs LO)) S=some (.lst (chs LO)):=q0b;have b7:S≠a:=(F.na hS).symm;generalize upd H S (.lst (chs LO))=H1 at Z a2;refine⟨_,rfl,by trivial,fun G hG=>?_⟩;rw[show tl (Ap "0123456789")=FG by trivial];have a0:=Z.new (o:=.lst (chs FG)) hG;have a6:G≠a:=(Z.feed.na hG).symm;have b8:=Z.free hG;have a7:S≠G:=fun z=>by rw[<- z,a2] at hG;cases hG
  have a3:upd H1 G (.lst (chs FG)) G=some (.lst (chs FG)):=q0b;have a4:upd H1 G (.lst (chs FG)) S=some (.lst (chs LO)):=by rw[q0d a7];exact a2
  generalize upd H1 G (.lst (chs FG))=H2 at a0 a3 a4;refine fun D hD=>⟨q0b,kv3,by rw[show Ap "-" = mk [45] by trivial,show Ap "_" = mk [95] by trivial,show Ap "." = mk [46] by trivial];rfl,by decide,?_⟩
  have L:=a0.free hD;have a8:D≠a:=(a0.feed.na hD).symm;have O:S≠D:=fun z=>by rw[<- z,a4] at hD;cases hD
  have M:G≠D:=fun z=>by rw[<- z,a3] at hD;cases hD
  have a9:SgD (upd (upd H2 D (.dK [])) D (.dK (mergeK [] kv3))) D [] []:=sgd_0;have b0:Fd a b H (upd (upd H2 D (.dK [])) D (.dK (mergeK [] kv3))):=(a0.put F L).put F L;have b1:upd (upd H2 D (.dK [])) D (.dK (mergeK [] kv3)) S=some (.lst (chs LO)):=by rw[q0d O,q0d O];exact a4
  have b2:upd (upd H2 D (.dK [])) D (.dK (mergeK [] kv3)) G=some (.lst (chs FG)):=by rw[q0d M,q0d M];exact a3
  generalize upd (upd H2 D (.dK [])) D (.dK (mergeK [] kv3))=H3 at a9 b0 b1 b2;refine .inr (.inr ⟨_,rfl,z6y (z:=Ap "abcdefghijklmnopqrstuvwxyz") (fun i B H'=>∃(xs as:List Nat) (x4 x5:Option V),B=[some (.ref a),some (.ref S),some (.ref G),some (.ref D),x4,x5]/\as.length=i/\(xs++as).Perm LO/\Fd a b H H'/\H' S=some (.lst (chs xs))/\H' G=some (.lst (chs FG))/\SgD H' D as []) ⟨LO,[],none,none,rfl,rfl,by rw[Du],b0,b1,b2,a9⟩ ?_ ?_⟩)
  ·rintro i c B H4 hc ⟨xs,as,x4,x5,rfl,hi,pm,e,a1,g,I⟩;have a5:LO[i]?=some c:=by have:=get hc;rwa [show tl (Ap "abcdefghijklmnopqrstuvwxyz")=LO by trivial] at this
   obtain⟨rfl,b3⟩:=LO_at a5;have b9:xs.length+i=26:=by have:=pm.length_eq;rw[Al,hi] at this;exact this
   refine⟨_,rfl,.inl ⟨rfl,⟨_,SqL.of a1⟩⟩,_,rfl,_,rfl,_,_,rfl,.inl ⟨_,SqL.of a1,rfl⟩,a,b,_,rfl,e.feed,by rw[Aa];lia,by rw[Aa];lia,fun n H5 n0 n1 j=>?_⟩;obtain⟨n,rfl⟩:∃m:Nat,n=m:=⟨n.toNat,by lia⟩
   rw[Aa] at n1;have hn:n<xs.length:=by lia
   have b4:=j.at a1 b7;have R:=j.at g a6;obtain⟨q,k1,k2,k3⟩:=I.ex;have U:=j.at k1 a8;have ox:=Bu hn;have om:xs[n]∈LO:=pm.mem_iff.mp (Ck _ (Wa hn));have op:=z0i ox;generalize xs[n]=o at ox om op;have b5:=x5a o om;refine⟨S,_,_,n,_,rfl,rfl,b4,by lia,by lia,?_,by rw[Ak,ox];rfl,?_⟩
   ·exact z9g (by rw[Aa];exact hn)
   rw[show(chs xs).eraseIdx n=chs (xs.eraseIdx n) from q2z];have W:=(e.trans j).put F hS (o:=.lst (chs (xs.eraseIdx n)));have b6:upd H5 S (.lst (chs (xs.eraseIdx n))) S=some (.lst (chs (xs.eraseIdx n))):=q0b;have X:upd H5 S (.lst (chs (xs.eraseIdx n))) G=some (.lst (chs FG)):=by rw[q0d (Ei a7)];exact R
   have Y:upd H5 S (.lst (chs (xs.eraseIdx n))) D=some (.dK q):=by rw[q0d (Ei O)];exact U
   generalize upd H5 S (.lst (chs (xs.eraseIdx n)))=H6 at W b6 X Y;have c0:q.length<=100:=by rw[Gw] at k2;lia
   refine⟨_,rfl,_,rfl,_,rfl,D,_,rfl,DPut.k (k:=.inr (mk [97+i])) Y (TX.small' (by lia)),?_⟩;have c1:upd H6 D (.dK (putK q (.inr (mk [97+i])) (.str (mk [o])))) D=_:=q0b;have eu:Ny (mk [o])=mk [o-32]:=by rw[q9p (n:=[o]) (fun x hx=>by rw[Aj.mp hx];lia)];exact congrArg mk (congrArg (fun x=>[x]) (up_is o (by lia) b5))
   have c2:Ny (mk [97+i])=mk [65+i]:=by rw[q9p (n:=[97+i]) (fun x hx=>by rw[Aj.mp hx];lia)];exact congrArg mk (congrArg (fun x=>[x]) ((up_is (97+i) (by lia) (by lia)).trans (by lia)))
   refine⟨_,rfl,rfl,mk [o],rfl,rfl,by show 3*1<=sizeLine;decide,?_⟩;rw[eu];refine⟨_,rfl,_,rfl,rfl,mk [97+i],rfl,rfl,by show 3*1<=sizeLine;decide,?_⟩;rw[c2];refine⟨D,_,rfl,DPut.k (k:=.inr (mk [65+i])) c1 (TX.small' (by have:=q6n (kvs:=q) (k:=.inr (mk [97+i])) (v:=.str (mk [o]));lia)),?_⟩;have sg:=sgd_lo (H:=H6) (D:=D) (o:=o) k2 k3 (by lia);rw[hi] at sg;refine⟨xs.eraseIdx n,as++[o],_,_,rfl,by rw[Al,hi];rfl,?_,(W.put F L).put F L,?_,?_,?_⟩
   ·refine List.Perm.trans ?_ pm;rw[<- Fg];refine(Gn _ _).trans ?_;exact op.append_right as
   ·rw[q0d O,q0d O];exact b6
   ·rw[q0d M,q0d M];exact X
   ·obtain⟨c5,z1,z2,z3⟩:=sg.ex;rw[q0b] at z1;cases z1;exact⟨_,q0b,z2,z3⟩
  ·rintro B H4 ⟨xs,as,x4,x5,rfl,hi,pm,e,a1,g,I⟩;have hi:as.length=26:=hi;have c3:xs=[]:=Oe (by have:=pm.length_eq;rw[Al,hi] at this;exact Tb (this.trans (show LO.length=0+26 from rfl)));rw[c3,Ks] at pm;refine .inr (.inr ⟨_,rfl,z6y (z:=Ap "0123456789") (fun i B H'=>∃(u fs:List Nat) (x4 x5:Option V),B=[some (.ref a),some (.ref S),some (.ref G),some (.ref D),x4,x5]/\fs.length=i/\(u++fs).Perm FG/\Fd a b H H'/\H' G=some (.lst (chs u))/\SgD H' D as fs) ⟨FG,[],_,_,rfl,rfl,by rw[Du],e,g,I⟩ ?_ ?_⟩)
   ·rintro i c B H4 hc ⟨u,fs,x4,x5,rfl,J,pf,e,g,I⟩;have a5:FG[i]?=some c:=by have:=get hc;rwa [show tl (Ap "0123456789")=FG by trivial] at this
    obtain⟨rfl,b3⟩:=FG_at a5;have b9:u.length+i=10:=by have:=pf.length_eq;rw[Al,J] at this;exact this
    refine⟨_,rfl,.inl ⟨rfl,⟨_,SqL.of g⟩⟩,_,rfl,_,rfl,_,_,rfl,.inl ⟨_,SqL.of g,rfl⟩,a,b,_,rfl,e.feed,by rw[Aa];lia,by rw[Aa];lia,fun n H5 n0 n1 j=>?_⟩;obtain⟨n,rfl⟩:∃m:Nat,n=m:=⟨n.toNat,by lia⟩
    rw[Aa] at n1;have hn:n<u.length:=by lia
    have R:=j.at g a6;obtain⟨q,k1,k2,k3⟩:=I.ex;have U:=j.at k1 a8;have ox:=Bu hn;have op:=z0i ox;generalize u[n]=o at ox op;refine⟨G,_,_,n,_,rfl,rfl,R,by lia,by lia,?_,by rw[Ak,ox];rfl,?_⟩
    ·exact z9g (by rw[Aa];exact hn)
    rw[show(chs u).eraseIdx n=chs (u.eraseIdx n) from q2z];have W:=(e.trans j).put F b8 (o:=.lst (chs (u.eraseIdx n)));have X:upd H5 G (.lst (chs (u.eraseIdx n))) G=some (.lst (chs (u.eraseIdx n))):=q0b;have Y:upd H5 G (.lst (chs (u.eraseIdx n))) D=some (.dK q):=by rw[q0d (Ei M)];exact U
    generalize upd H5 G (.lst (chs (u.eraseIdx n)))=H6 at W X Y;have c0:q.length<=100:=by lia
    refine⟨_,rfl,_,rfl,D,_,rfl,DPut.k (k:=.inr (mk [48+i])) Y (TX.small' (by lia)),?_⟩;have sg:=sgd_fg (H:=H6) (D:=D) (o:=o) k2 k3 (by lia);rw[J] at sg;refine⟨u.eraseIdx n,fs++[o],_,_,rfl,by rw[Al,J];rfl,?_,W.put F L,by rw[q0d M];exact X,sg⟩;refine List.Perm.trans ?_ pf;rw[<- Fg];exact(Gn _ _).trans (op.append_right fs)
   ·rintro B H4 ⟨u,fs,x4,x5,rfl,J,pf,e,g,I⟩;have J:fs.length=10:=J;have c4:u=[]:=Oe (by have:=pf.length_eq;rw[Al,J] at this;exact Tb (this.trans (show FG.length=0+10 from rfl)));rw[c4,Ks] at pf;exact⟨_,rfl,k D as fs H4 e L I pm pf⟩
end
end K
set_option maxHeartbeats 4000000
namespace K
open PySem L2 TX SB HM
section
variable{P:Ay}{w:World}{K:Aq}{mg:Str->Option Value}{base:Heap}
noncomputable def spPut:Sp:=fun vs H Q _=>∃D p as fs q,vs=[.ref D,.ref p]/\SgD H D as fs/\as.Perm LO/\fs.Perm FG/\H p=some (.tup (vP q))/\Nm q/\(∀n∈q,n.length<=20)/\q.length<=20/\∀T H',H T=none->Same H H'->H' T=some (.tup (vP (pu (sgO as fs) q)))->Q (.ref T) H'
theorem Nm.ok{p:Pth}(h:okP p):Nm p/\(∀n∈p,n.length<=20)/\p.length<=20:=⟨nmP h,fun n e=>Ce (h.all n e).few (by decide),Ce h.few (by decide)⟩
noncomputable abbrev z9h:Stmt:=top 50
theorem sc_put:FnScope ["_law_signs", "_law_path"] ["_law_signs", "_law_path"] (defScope z9h):=by trivial
set_option maxHeartbeats 40000000 in
theorem ok_put(D:Df K mg "_law_put" z9h ["_law_signs", "_law_path"])(T:Txt mg):Cal P w K mg base "_law_put" 1 ["_law_signs", "_law_path"] spPut:=by
 refine D.cal sc_put (fun vs H Q E h=>?_) (fun f a0 A outer s H vs Q E hr h=>?_)
 ·obtain⟨D,p,as,fs,q,rfl,_⟩:=h;rfl
 ·obtain⟨D,p,as,fs,q,rfl,sg,pa,pf,W,nm,J,hq,k⟩:=h;refine⟨_,(q0f (q0m (q1x (x3i K rfl) (by rfl) T.b_tuple (by trivial) (q0a (q1g ["_law_name"] [("_law_signs",0)] rfl (@q1y _ _ _ _ K rfl (pv 1)) (fun _ _ _ _ _=>(q0h (i:=0) (show(["_law_name", "_law_signs"]:List Str).Nodup by trivial) rfl (by trivial))) (fun _ _ _ _ _=>q1n) (fun _ _ _ _ _=>(@bm_k _ _ _ _ _ _ _ _ _ _ _ _ K rfl Dd Na Nb (z7b K rfl) q1v (q0a (q1g ["_law_sign"] [("_law_signs",1)] rfl (@q1y _ _ _ _ K rfl (pv 0)) (fun _ _ _ _ _=>(q0h (i:=0) (show(["_law_sign", "_law_signs"]:List Str).Nodup by trivial) rfl (by trivial))) (fun _ _ _ _ _=>q1n) (fun _ _ _ _ _=>(q1o (q1q hr) (pv 1) (pv 0) (fun _ _=>rfl)))) q0c) (by rfl) (by rfl) (by rfl) (by rfl) (by rfl)))) q0c)))),?_⟩;obtain⟨a1,k1,k2,k3⟩:=sg.ex;refine⟨_,rfl,.inr (.inl ⟨p,rfl,⟨_,SqT.of W⟩,fun L X=>?_⟩)⟩;refine z7c (xs:=vP q) (fun i g C=>g=vP (pu (sgO as fs) (q.take i))/\Same H C/\C L=some (.lst g)/\i<=q.length) ⟨rfl,(Same.refl H).new X,q0b,Bf _⟩ (fun i g C ⟨_,sm,h,_⟩=>⟨h,SqT.of (sm _ _ W)⟩) ?_ ?_
  ·rintro i g O x Y ⟨rfl,sm,v,hi⟩;rw[Ak] at Y;obtain⟨n,R,rfl⟩:=Bv.mp Y;have I:=Ah R;have Z:=J n I;have hi':=(Af.mp R).1;refine⟨rfl,_,rfl,.inr (.inr ⟨mk n,rfl,fun M hM=>?_⟩)⟩;refine z0w (fun j g C=>g=chs ((n.take j).map (sgO as fs))/\Same O C/\C M=some (.lst g)/\j<=n.length) ⟨rfl,(Same.refl O).new hM,q0b,Bf _⟩ (fun j g C ⟨_,_,h,_⟩=>h) ?_ ?_
   ·rintro j g H3 c hc ⟨rfl,u,B,hj⟩;have G:n[j]?=some c:=by have:=get hc;rw[q2m] at this;exact this
    have S:=nm n I c (Ah G);obtain⟨d,hd⟩:∃d,gS as fs c=some d:=by
     rcases q7p pa pf S with⟨_,e⟩|⟨i,d,_,_,_,_,_,e⟩|⟨i,d,_,_,_,_,_,e⟩|⟨i,d,_,_,_,_,_,e⟩<;>exact⟨_,e⟩
    have U:sgO as fs c=d:=by show(gS as fs c).getD c=d;rw[hd];rfl
    have dg:DGet H3 D (.str ⟨#[c]⟩) (some (.str (mk [sgO as fs c]))):=by
     have:=DGet.k (k:=.inr (mk [c])) (u _ _ (sm _ _ k1));rw[k3 c,hd] at this;rw[U];exact this
    have hj':=(Af.mp G).1;refine⟨_,rfl,_,rfl,D,_,rfl,dg,B,TX.small' (by rw[Aa,Aa,Bp];lia),?_,u.put hM,q0b,hj'⟩;rw[Et,G,Ae];show _=(_++[sgO as fs c]).map _;rw[Ae];rfl
   ·rintro g H3 ⟨rfl,u,B,_⟩;have e0:(n.take (mk n).length)=n:=by rw[q8b];exact Ba
    rw[e0] at B;have e:chs (n.map (sgO as fs))=((n.map (sgO as fs)).map fun c=>(⟨#[c]⟩:Str)).map V.str:=by rw[An];rfl
    refine⟨_,M,(n.map (sgO as fs)).map fun c=>⟨#[c]⟩,rfl,rfl,.inl (SqL.of (by rw[<- e];exact B)),?_,?_⟩
    ·rw[q9i,Aa,Aa];have:(Ap "").length=0:=by trivial
     rw[this];lia
    ·rw[q7a];refine⟨u _ _ v,TX.small' (by rw[Aa,Aa,Bp];lia),?_,(sm.trans u).put X,q0b,hi'⟩;rw[Et,R];show _=(((q.take i)++[n]).map (pn (sgO as fs))).map _;rw[Ae,Ae];rfl
  ·rintro g O ⟨rfl,sm,v,_⟩;rw[show(vP q).length=q.length from Aa ..,Ba] at v;exact⟨L,_,rfl,.inl ⟨SqL.of v,fun T hT=>k T _ (sm.free hT) (sm.new hT) q0b⟩⟩
end
end K
set_option maxHeartbeats 4000000
namespace K
open PySem L2 TX SB HM
section
variable{P:Ay}{w:World}{K:Aq}{mg:Str->Option Value}{base:Heap}
noncomputable def spFL:Sp:=fun vs H Q _=>∃L zs,vs=[.ref L]/\PL H L zs/\zs≠[]/\(zs.map (·.2)).Nodup/\zs.length<=100/\∀M ys H',H M=none->Same H H'->PL H' M ys->FL (zs.map (·.2)) (ys.map (·.2))->Q (.ref M) H'
theorem x5c{xs:List V}{n:Nat}:cutV xs none (some (n:Int))=xs.take n:=by
 unfold cutV;have e:HT.sIx xs.length 0 none=0:=rfl;have f:HT.sIx xs.length xs.length (some (n:Int))=min n xs.length:=by
  show(if (n:Int)<0 then((n:Int)+(xs.length:Int)).toNat else min (n:Int).toNat xs.length)=_;rw[if_neg (by lia)];rfl
 rw[e,f,Jx,Jy];rcases Nat.le_total n xs.length with h|h
 ·rw[Rb h]
 ·rw[Vx h,Ba,Eh h]
noncomputable abbrev q3i:Stmt:=top 51
theorem sc_from_least:FnScope ["_law_ring", "_law_at"] ["_law_ring"] (defScope q3i):=by trivial
theorem z0j(D:Df K mg "_law_from_least" q3i ["_law_ring"])(T:Txt mg):Cal P w K mg base "_law_from_least" 1 ["_law_ring"] spFL:=by
 refine D.cal sc_from_least (fun vs H Q E h=>?_) (fun f X A outer s H vs Q E O h=>?_)
 ·obtain⟨L,g,rfl,_⟩:=h;rfl
 ·obtain⟨L,g,rfl,pl,ne,nd,few,k⟩:=h;refine⟨_,(q0e (q0j (i:=1) sc_from_least.nd rfl (by trivial) (@bm_k _ _ _ _ _ _ _ _ _ _ _ _ K rfl Cq PySem.F.slot_list_index PySem.F.type_list_index (z8d O) (pv 0) (q0a (q0l (z1u rfl O) (by rfl) T.b_min (by trivial) (q0a (pv 0) q0c)) q0c) (by rfl) (by rfl) (by rfl) (by rfl) (by rfl))) (q0f (q0m (q1d q1j (q0p (sl_k K rfl) (pv 0) (q0s (pv 1)) q0r) (q0p (sl_k K rfl) (pv 0) q0r (q0s (pv 1))))))),?_⟩;refine⟨_,rfl,.inl ⟨rfl,⟨_,SqL.of pl.at_⟩⟩,_,rfl,L,g,rfl,pl.at_,ne,TX.small (by lia),fun z q=>(pl.pr z q).1,fun m C hl=>?_⟩;obtain⟨j,G⟩:=Bg.mp C;have hj':=(Af.mp G).1;refine⟨L,m.1,g.map (·.1),m.2,j,rfl,rfl,by rw[An];exact pl.at_,(pl.pr m C).1,(pl.pr m C).2.low,fun b I=>?_,⟨m.1,by rw[Ak,G];rfl,(pl.pr m C).1⟩,fun i b hi I=>?_,?_⟩
  ·obtain⟨z,q,rfl⟩:=Ac.mp I;exact⟨z.2,(pl.pr z q).1,(pl.pr z q).2.low⟩
  ·rw[Ak] at I;obtain⟨z,q,rfl⟩:=Bv.mp I;rw[z1o (pl.pr z (Ah q)).1];refine decide_eq_false fun e=>?_;have:=z3k nd (i:=i) (j:=j) (x:=m.2) (by rw[Ak,q,<- e];rfl) (by rw[Ak,G];rfl);lia
  have u:g.drop j=m::g.drop (j+1):=by
   rw[Pz hj',(Af.mp G).2]
  refine⟨_,rfl,_,rfl,_,rfl,.inr (.inl ⟨L,_,rfl,SqL.of pl.at_,fun A Y=>?_⟩)⟩;rw[q7n (by lia) (by rw[Aa];lia),show((j:Nat):Int).toNat=j from rfl,Ja.symm];have J:=(Same.refl H).new (o:=.lst ((g.drop j).map fun z=>V.ref z.1)) Y;have v:upd H A (.lst ((g.drop j).map fun z=>V.ref z.1)) A=some (.lst ((g.drop j).map fun z=>V.ref z.1)):=q0b;generalize upd H A (.lst ((g.drop j).map fun z=>V.ref z.1))=Z at J v;refine⟨_,rfl,_,rfl,_,rfl,.inr (.inl ⟨L,_,rfl,SqL.of (J _ _ pl.at_),fun B hB=>?_⟩)⟩;rw[x5c,Jb.symm];have R:=(Same.refl Z).new (o:=.lst ((g.take j).map fun z=>V.ref z.1)) hB;refine .inr (.inr ⟨A,B,_,_,rfl,rfl,R _ _ v,q0b,by rw[Aa,Aa,Dx,Bp];exact TX.small (by lia),fun M S=>?_⟩);rw[<- Ae];have U:=J.trans R;have W:=U.new (o:=.lst ((g.drop j++g.take j).map fun z=>V.ref z.1)) S;refine k M (g.drop j++g.take j) _ (U.free S) W ⟨q0b,fun z q=>?_⟩ ⟨(g.take j).map (·.2),m.2,(g.drop (j+1)).map (·.2),?_,?_,fun y hy=>?_⟩
  ·have hz':z∈g:=(Ar.mp q).elim Kg Gy;exact⟨W _ _ (pl.pr z hz').1,(pl.pr z hz').2⟩
  ·rw[<- Ax (f:=fun z:Zp=>z.2),<- u,<- Ae,List.take_append_drop]
  ·rw[<- Ax (f:=fun z:Zp=>z.2),<- u,Ae]
  ·obtain⟨z,q,rfl⟩:=Ac.mp hy;exact hl z q
theorem x5d{bl:Bool}{rows:List Rw}{ms:List Mv}(gw:GoodW rows ms)(hl:Hl bl rows):okMs ms:=fun m e=>by
 obtain⟨f,hk,_⟩:=(gw.all m e).th;exact⟨hl.ok _ hk,(gw.all m e).ok⟩
theorem z4q{rows:List Rw}(nd:(rows.map (·.1)).Nodup):∀{l m:List Rw},(∀r∈l,r∈rows)->(∀r∈m,r∈rows)->l.map (·.1)=m.map (·.1)->l=m
 |[],[],_,_,_=>rfl
 |[],_::_,_,_,h=>by cases h
 |_::_,[],_,_,h=>by cases h
 |a::l,b::m,h1,h2,h=>by
  rw[Ax,Ax] at h;injection h with e1 e2;rw[q0q (f:=fun r:Rw=>r.1) nd (h1 a As) (h2 b As) e1,z4q nd (fun r e=>h1 r (Am _ e)) (fun r e=>h2 r (Am _ e)) e2]
theorem x1o{ms hs:List Mv}(nd:(ms.map (·.1)).Nodup)(p:hs.Perm ms):plc hs=plc ms:=by
 funext x;have e:(hs.map (·.1)).Nodup:=(p.map _).nodup_iff.mpr nd;by_cases h:x∈ms.map (·.1)
 ·obtain⟨m,f,rfl⟩:=Ac.mp h;rw[q8q nd f,q8q e (p.mem_iff.mpr f)]
 ·rw[q5z h,q5z fun z=>h ((p.map _).mem_iff.mp z)]
theorem GoodW.perm{rows:List Rw}{ms hs:List Mv}(g:GoodW rows ms)(p:hs.Perm ms):GoodW rows hs:=⟨fun m e=>g.all m (p.mem_iff.mp e),(p.map _).nodup_iff.mpr g.nd⟩
theorem z9i{l m:List Rw}(p:l.Perm m)(nd:(m.map (·.1)).Nodup)(f:(l.map (·.1)).Pairwise (fun a b=>pLt b a=false))(g:(m.map (·.1)).Pairwise (fun a b=>pLt b a=false)):l=m :=
 z4q nd (fun r e=>p.mem_iff.mp e) (fun r e=>e) (q4n (p.map _) ((p.map _).nodup_iff.mpr nd) f g)
noncomputable def dPs(ps:List Pth):Cw:=.list (ps.map fun p=>.tuple (dP p))
theorem x2n{H:Hp}:∀{zs:List Zp},(∀z∈zs,H z.1=some (.tup (vP z.2))/\okP z.2)->Dts K H (zs.map fun z=>V.ref z.1) ((zs.map (·.2)).map fun p=>.tuple (dP p))
 |[],_=>.nil
 |z::zs,h=>.cons (q2d (h z As).1) (x2n fun y e=>h y (Am _ e))
theorem z9j{H:Hp}:∀{zs:List Zl},(∀z∈zs,PL H z.1 z.2)->Dts K H (zs.map fun z=>V.ref z.1) ((zs.map cont).map dPs)
 |[],_=>.nil
 |z::zs,h=>.cons (.lst (SqL.of (h z As).at_) (x2n (h z As).pr)) (z9j fun y e=>h y (Am _ e))
theorem x2o:∀{ps:List Pth},(∀p∈ps,Low p)->Cf (ps.map fun p=>.tuple (dP p))=true
 |[],_=>by simp[Cf]
 |p::ps,h=>by
  rw[Ax];simp only[Cf,Fe,q7e (h p As),x2o fun y e=>h y (Am _ e),Pf]
theorem x2p:∀ps:List Pth,Ec (ps.map fun p=>.tuple (dP p))<=20
 |[]=>by simp[Ec]
 |p::ps=>by
  have e:=q6h p;have f:=x2p ps;rw[Ax];simp only[Ec,Ho];lia
theorem x2q:∀{rs:List (List Pth)},(∀r∈rs,∀p∈r,Low p)->Cf (rs.map dPs)=true
 |[],_=>by simp[Cf]
 |r::rs,h=>by
  rw[Ax];unfold dPs;simp only[Cf,Fe,x2o (h r As),Bool.true_and];exact x2q fun y e=>h y (Am _ e)
theorem x2r:∀rs:List (List Pth),Ec (rs.map dPs)<=30
 |[]=>by simp[Ec]
 |r::rs=>by
  have f:=x2p r;have e:=x2r rs;rw[Ax];unfold dPs at e ⊢;simp only[Ec,Ho];lia
theorem x2s{H:Hp}{L M:Addr}{zs ys:List Zl}{Q:VK}(h:LLs H L zs)(g:LLs H M ys)(e:zs.map cont=ys.map cont)(k:Q (.bl false) H):rNeU K (.ref L) (.ref M) H Q :=
 ne_dt (d:=.list ((zs.map cont).map dPs)) (.lst (SqL.of h.at_) (z9j h.pr)) (.lst (SqL.of g.at_) (by rw[e];exact z9j g.pr)) (by
  simp only[Fe];refine x2q fun r f p j=>?_;obtain⟨z,q,rfl⟩:=Ac.mp f;obtain⟨u,s,rfl⟩:=Ac.mp j;exact((h.pr z q).pr u s).2.low) (by have:=x2r (zs.map cont);simp only[Ho];lia) k
theorem SgD.kp{H H':Hp}{D:Addr}{as fs:List Nat}(h:SgD H D as fs)(k:∀u,H D=some u->H' D=some u):SgD H' D as fs:=let ⟨e,f,g,j⟩:=h.ex;⟨⟨e,k _ f,g,j⟩⟩
theorem SgD.same{H H':Hp}{D:Addr}{as fs:List Nat}(h:SgD H D as fs)(s:Same H H'):SgD H' D as fs:=h.kp fun _ e=>s _ _ e
section
variable{σ:Nat->Nat}{g g':Pth->Option Pth}{f:Pth->Pth}{ps ps':List Pth}{xs ys:List Pth}
theorem z0k{e:Hp}{B:Addr}{ys:List V}{o:HO}(f:e B=some (.lst ys))(T:Addr)(xs:List V)(q:e T=some (.tup xs)):upd e B o T=some (.tup xs):=by
 rw[q0d (fun z=>by rw[z,f] at q;cases q)];exact q
theorem PL.off{H:Hp}{B E:Addr}{ys:List V}{o:HO}{e:List Zp}(h:PL H E e)(g:H B=some (.lst ys))(n:E≠B):PL (upd H B o) E e :=
 ⟨by rw[q0d n];exact h.at_,fun z f=>⟨z0k g _ _ (h.pr z f).1,(h.pr z f).2⟩⟩
theorem puts(e:Ex σ){H:Hp}{D R:Addr}{as fs:List Nat}(sg:SgD H D as fs)(pa:as.Perm LO)(pf:fs.Perm FG)(Y:sgO as fs=σ){rs:List Zl}(ll:LLs H R rs)(few:rs.length<=40)(fw:∀z∈rs,z.2.length<=40){B:Addr}(hB:H B=none){Fin:List V->Hp->Prop}(k:∀(f:List Zl) H',LLs H' B f->Same H H'->f.map cont=(rs.map cont).map (·.map (pu σ))->Fin (f.map fun z=>V.ref z.1) H'):
  CompW (Itl K R) (gName 0) tIf0 (tComp (iAny K (tVar 0)) (gName 0) tIf0 (tCall spPut [] E0 (tCons (tVar 1) (tCons (tVar 0) tNil))) ["_law_path"] [("_law_signs",1)]) [none,some (.ref D)] B Fin H:=by
 refine q3x (xs:=rs.map fun z=>V.ref z.1) (fun j g H'=>∃f:List Zl,g=f.map (fun z=>V.ref z.1)/\f.map cont=((rs.take j).map cont).map (·.map (pu σ))/\(∀z∈f,PL H' z.1 z.2/\z.1≠B)/\f.length=j/\j<=rs.length/\Same H H'/\H' B=some (.lst g)) ⟨[],rfl,rfl,(fun _ h=>nomatch h),rfl,Bf _,(Same.refl H).new hB,q0b⟩ (fun j g H' ⟨_,_,_,_,_,_,sm,h⟩=>⟨h,SqL.of (sm _ _ ll.at_)⟩) ?_ ?_
 ·rintro j g U x O ⟨f,rfl,W,q,ul,hj,sm,v⟩;rw[Ak] at O;obtain⟨z,P,rfl⟩:=Bv.mp O;have Q:=Ah P;have hj':=(Af.mp P).1;have pl:=(ll.pr z Q).same sm;have zf:=fw z Q;refine⟨_,rfl,.inl ⟨z.1,rfl,⟨_,SqL.of pl.at_⟩,fun E Z=>?_⟩⟩;have S:E≠B:=(q0i v Z).symm;refine q3x (xs:=z.2.map fun y=>V.ref y.1) (fun i g H'=>∃C:List Zp,g=C.map (fun y=>V.ref y.1)/\C.map (·.2)=((z.2.take i).map (·.2)).map (pu σ)/\(∀y∈C,H' y.1=some (.tup (vP y.2))/\okP y.2)/\C.length=i/\i<=z.2.length/\Same U H'/\H' E=some (.lst g)) ⟨[],rfl,rfl,(fun _ h=>nomatch h),rfl,Bf _,(Same.refl U).new Z,q0b⟩ (fun i g H' ⟨_,_,_,_,_,_,s',h⟩=>⟨h,SqL.of (s' _ _ pl.at_)⟩) ?_ ?_
  ·rintro i g H9 x O ⟨C,rfl,eq,X,ql,hi,I,J⟩;rw[Ak] at O;obtain⟨y,hy,rfl⟩:=Bv.mp O;have a0:=Ah hy;have hi':=(Af.mp hy).1;obtain⟨b1,ok⟩:=pl.pr y a0;obtain⟨n1,n2,n3⟩:=Nm.ok ok;refine⟨_,rfl,_,rfl,D,y.1,as,fs,y.2,rfl,(sg.same sm).same I,pa,pf,I _ _ b1,n1,n2,n3,fun T a1 hT L G=>?_⟩;rw[Y] at G;have s:=L _ _ J;refine⟨s,TX.small' (by rw[Aa];lia),C++[(T,pu σ y.2)],by rw[Ae];rfl,by rw[Et,hy,Ae,Ae,Ae,eq];rfl,fun w hw=>?_,by rw[Al,ql];rfl,hi',(I.trans L).put Z,q0b⟩;rcases Ar.mp hw with u|u
   ·exact⟨z0k s _ _ (L _ _ (X w u).1),(X w u).2⟩
   ·rw[Aj.mp u];exact⟨z0k s _ _ G,e.okp ok⟩
  ·rintro g H9 ⟨C,rfl,eq,X,_,_,I,J⟩;rw[Aa,Ba] at eq;have M:=I _ _ v;refine⟨M,TX.small' (by rw[Aa];lia),f++[(E,C)],by rw[Ae];rfl,?_,fun w hw=>?_,by rw[Al,ul];rfl,hj',(sm.trans I).put hB,q0b⟩
   ·rw[Et,P,Ae,Ae,Ae,W];show _++[C.map (·.2)]=_;rw[eq];rfl
   rcases Ar.mp hw with u|u
   ·exact⟨((q w u).1.same I).off M (q w u).2,(q w u).2⟩
   ·rw[Aj.mp u];exact⟨PL.off ⟨J,X⟩ M S,S⟩
 ·rintro g U ⟨f,rfl,W,q,_,_,sm,v⟩;rw[Aa,Ba] at W;exact k f U ⟨v,fun z P=>(q z P).1⟩ sm W
theorem fls{u:Hp}{R:Addr}{rs:List Zl}(J:LLs u R rs)(few:rs.length<=40)(Q:∀z∈rs,z.2.length<=40)(ne:∀z∈rs,z.2≠[])(nd:∀z∈rs,(cont z).Nodup){B:Addr}(L:u B=none){Fin:List V->Hp->Prop}(k:∀(e:List Zl) H',LLs H' B e->Same u H'->Cu FL (rs.map cont) (e.map cont)->Fin (e.map fun z=>V.ref z.1) H'):
  CompW (Itl K R) (gName 0) tIf0 (tCall spFL [] E0 (tCons (tVar 0) tNil)) [none] B Fin u:=by
 refine q3x (xs:=rs.map fun z=>V.ref z.1) (fun j v H'=>∃e:List Zl,v=e.map (fun z=>V.ref z.1)/\Cu FL ((rs.take j).map cont) (e.map cont)/\(∀z∈e,PL H' z.1 z.2/\z.1≠B)/\e.length=j/\j<=rs.length/\Same u H'/\H' B=some (.lst v)) ⟨[],rfl,.nil,(fun _ h=>nomatch h),rfl,Bf _,(Same.refl u).new L,q0b⟩ (fun j v H' ⟨_,_,_,_,_,_,sm,h⟩=>⟨h,SqL.of (sm _ _ J.at_)⟩) ?_ ?_
 ·rintro j v O x P ⟨e,rfl,G,f,S,X,sm,g⟩;rw[Ak] at P;obtain⟨z,C,rfl⟩:=Bv.mp P;have q:=Ah C;have hj':=(Af.mp C).1;have pl:=(J.pr z q).same sm;have Y:=Q z q;refine⟨_,rfl,z.1,z.2,rfl,pl,ne z q,nd z q,by lia,fun M T Z U H I fl=>?_⟩;have D:M≠B:=(q0i g U).symm;have s:=H _ _ g;refine⟨s,TX.small' (by rw[Aa];lia),e++[(M,T)],by rw[Ae];rfl,?_,fun w W=>?_,by rw[Al,S];rfl,hj',(sm.trans H).put L,q0b⟩
  ·rw[Et,C,Ae,Ae];exact q7i fl G
  rcases Ar.mp W with E|E
  ·exact⟨((f w E).1.same H).off s (f w E).2,(f w E).2⟩
  ·rw[Aj.mp E];exact⟨I.off s D,D⟩
 ·rintro v O ⟨e,rfl,G,f,_,_,sm,g⟩;rw[Aa,Ba] at G;exact k e O ⟨g,fun z C=>(f z C).1⟩ sm G
theorem z4r{f g:Type}{F:f->g->Prop}:∀{l:List f} {m:List g},Cu F l m->∀b∈m,∃a∈l,F a b
 |[],[],_,_,h=>nomatch h
 |a::_,b'::_,.cons h t,b,e=>by
  rcases Bb.mp e with rfl|e
  ·exact⟨a,As,h⟩
  ·obtain⟨a',j,q⟩:=z4r t b e;exact⟨a',Am _ j,q⟩
theorem x2t{e f:Type}{F:e->f->Prop}:∀{l:List e} {m:List f},Cu F l m->∀a∈l,∃b∈m,F a b
 |[],[],_,_,h=>nomatch h
 |a'::_,b::_,.cons h t,a,ha=>by
  rcases Bb.mp ha with rfl|ha
  ·exact⟨b,As,h⟩
  ·obtain⟨g,j,q⟩:=x2t t a ha;exact⟨g,Am _ j,q⟩
theorem FL.hd(h:FL xs ys):ys.headD []∈xs:=by
 obtain⟨a,m,b,rfl,rfl,_⟩:=h;exact Bm _ As
theorem fl_nd(t:Tp g g' f ps ps'):∀{rs:List (List Pth)},(∀xs∈rs,∃p,RingP g p xs)->(rs.map (·.headD [])).Nodup->∀{zs:List (List Pth)},Cu FL (rs.map (·.map f)) zs->(zs.map (·.headD [])).Nodup
 |[],_,_,[],_=>.nil
 |xs::rs,h,nd,ys::zs,.cons fl tl=>by
  rw[Ax] at nd ⊢;obtain⟨J,L⟩:=Bs.mp nd;refine Bs.mpr ⟨fun z=>?_,fl_nd t (fun x M=>h x (Am _ M)) L tl⟩;obtain⟨O,C,e⟩:=Ac.mp z;obtain⟨S,D,P⟩:=z4r tl O C;obtain⟨G,j,rfl⟩:=Ac.mp D;obtain⟨p,s⟩:=h xs As;obtain⟨q,B⟩:=h G (Am _ j);obtain⟨u,H,Q⟩:=Ac.mp fl.hd;obtain⟨v,I,R⟩:=Ac.mp P.hd;have E:u=v:=t.inj _ (s.o.in_ t.F (s.in_ t.F) _ H) _ (B.o.in_ t.F (B.in_ t.F) _ I) (by rw[Q,R,e]);subst E;exact J (Ac.mpr ⟨G,j,by rw[s.o.headD,B.o.headD,s.one B t.F H I]⟩)
end
theorem z4s{g:Pth->Option Pth}{ps:List Pth}(F:Fol ps g)(few:ps.length<=40){rs:List Zl}(nd:((rs.map cont).map (·.headD [])).Nodup)(h:∀z∈rs,∃p∈ps,Orb g p (cont z)):rs.length<=40/\∀z∈rs,z.2.length<=40/\z.2≠[]/\(cont z).Nodup/\∀x∈cont z,x∈ps:=by
 refine⟨?_,fun z f=>?_⟩
 ·have:=q7t nd (m:=ps) fun x j=>by
   obtain⟨y,s,rfl⟩:=Ac.mp j;obtain⟨z,f,rfl⟩:=Ac.mp s;obtain⟨p,e,o⟩:=h z f;rw[o.headD];exact e
  rw[Aa,Aa] at this;lia
 ·obtain⟨p,e,o⟩:=h z f;have l:=o.len F e;rw[Aa] at l;exact⟨by lia,fun n=>(by have q:=o.hd;unfold cont at q;rw[n] at q;cases q),o.nd,o.in_ F e⟩
theorem hds_nd{f:Nat->Nat}(e:Ex f){rs:List (List Pth)}(h:∀xs∈rs,Nm (xs.headD []))(nd:(rs.map (·.headD [])).Nodup):((rs.map (·.map (pu f))).map (·.headD [])).Nodup:=by
 have j:(rs.map (·.map (pu f))).map (·.headD [])=(rs.map (·.headD [])).map (pu f):=by
  rw[An,An];refine Ct fun xs _=>?_;cases xs<;>rfl
 rw[j];exact q4h (fun x q y s=>e.path (by obtain⟨r,g,rfl⟩:=Ac.mp q;exact h r g) (by obtain⟨r,g,rfl⟩:=Ac.mp s;exact h r g)) nd
theorem FL.ne{xs ys:List Pth}(h:FL xs ys):ys≠[]:=by
 obtain⟨a,m,b,_,rfl,_⟩:=h;exact fun z=>nomatch z
end
end K
set_option maxHeartbeats 4000000
namespace K
open PySem L2 TX SB HM
section
variable{P:Ay}{w:World}{K:Aq}{mg:Str->Option Value}{base:Heap}
structure CallsL (P:Ay) (w:World) (K:Aq) (mg:Str->Option Value) (base:Heap) (c:Addr):Prop where
 draw:Cal P w K mg base "_law_draw" 1 ["_law_feed", "_law_many"] spDraw
 rows:Cal P w K mg base "_law_rows" 4 ["_law_feed", "_law_blind", "_law_most"] spRows
 good_wishes:Cal P w K mg base "_law_good_wishes" 5 ["_law_feed", "_law_rows_here", "_law_blind", "_law_most"] (spGoodW P w)
 exchange:Cal P w K mg base "_law_exchange" 2 ["_law_feed"] spExch
 put:Cal P w K mg base "_law_put" 1 ["_law_signs", "_law_path"] spPut
 from_least:Cal P w K mg base "_law_from_least" 1 ["_law_ring"] spFL
 in_order:Cal P w K mg base "_law_in_order" 3 ["_law_feed", "_law_wishes"] spInOrder
 goal:Cal P w K mg base "goal" 9 ["hall", "wishes"] (spGoal c)
 rings:Cal P w K mg base "rings" 10 ["hall", "wishes"] (spRings c)
 chains:Cal P w K mg base "chains" 10 ["hall", "wishes"] (spChains c)
 row_for:Cal P w K mg base "row_for" 11 ["hall", "wishes"] (spRowFor c)
 k_Hall:KCal P w K mg base c "Hall" 4 ["self", "rows", "blind"] (spInit c)
noncomputable def spLaw(K:Aq):Sp:=fun vs H Q _=>∃(a:Addr) (ns:List Int),vs=[.ref a]/\SqL K H a (ns.map V.int)/\ns.length<=63/\∀H',Q (.bl true) H'
noncomputable abbrev q3u:Stmt:=top 52
theorem sc_law:FnScope ["_law_script", "_law_feed", "_law_k", "_law_blind", "_law_rows_here", "_law_wishes", "_law_signs", "_law_handed", "_law_hall", "_law_other", "_law_turned", "_law_rounds", "_law_rest"] ["_law_script"] (defScope q3u):=by trivial
set_option maxHeartbeats 40000000 in
theorem x1p{c:Addr}(T:Txt mg)(C:CallsL P w K mg base c)(f:Addr)(n6:Value)(A:Around)(outer:List Env)(s:Ag)(H:Hp)(vs:List V)(Q:VK)(E:XK)(v:Room 11 (A.deeper (PyProof.Rows.envOfC "law" (defScope q3u) s.heap.objs.size f n6)))(h:spLaw K vs H Q E):
  ∃t,PSs (cxOf CX0 P w K mg base ["_law_script", "_law_feed", "_law_k", "_law_blind", "_law_rows_here", "_law_wishes", "_law_signs", "_law_handed", "_law_hall", "_law_other", "_law_turned", "_law_rounds", "_law_rest"] "law" (defScope q3u) f n6 A outer s H E).nox (defBody q3u) t/\t { nx:=fun _ H'=>Q .non H',rt:=Q } (L2.start ["_law_script", "_law_feed", "_law_k", "_law_blind", "_law_rows_here", "_law_wishes", "_law_signs", "_law_handed", "_law_hall", "_law_other", "_law_turned", "_law_rounds", "_law_rest"] vs) H:=by
  obtain⟨sc,ns,rfl,hS,v0,k⟩:=h;refine⟨_,(q0e (q0j (i:=1) sc_law.nd rfl (by trivial) (q2a (q0a (q1x (x1y K rfl) (by rfl) T.b_list (by trivial) (q0a (pv 0) q0c)) (q0a q0g (q0a q0g q0c))))) (q0e (q1u Ca rfl (q3l rfl T.b_range (q0a (q0l (z6l rfl) (by rfl) T.b_max (by trivial) (q0a q0g (q0a (q0l (z6m rfl) (by rfl) T.b_min (by trivial) (q0a q0g (q0a (q0l (q3o K rfl) (by rfl) T.b_len Cs (q0a (pv 0) q0c)) q0c))) q0c))) q0c)) (q0h (i:=2) sc_law.nd rfl (by trivial)) (q0e (q0j (i:=3) sc_law.nd rfl (by trivial) (q6r (eq_k K rfl v) (pe_c C.draw v (q0a (pv 1) (q0a q0g q0c))) q0g (nomark _))) (q0e (q0j (i:=4) sc_law.nd rfl (by trivial) (pe_c C.rows v (q0a (pv 1) (q0a (pv 3) (q0a q0g q0c))))) (q0e (q0j (i:=5) sc_law.nd rfl (by trivial) (pe_c C.good_wishes v (q0a (pv 1) (q0a (pv 4) (q0a (pv 3) (q0a q0g q0c)))))) (q0e (q0j (i:=6) sc_law.nd rfl (by trivial) (pe_c C.exchange v (q0a (pv 1) q0c))) (q0e (q0j (i:=7) sc_law.nd rfl (by trivial) (pe_c C.in_order v (q0a (pv 1) (q0a (pv 5) q0c)))) (q0e (q0j (i:=8) sc_law.nd rfl (by trivial) (pe_k C.k_Hall v (q0a (pv 4) (q0a (pv 3) q0c)))) (q0e (q0j (i:=9) sc_law.nd rfl (by trivial) (pe_k C.k_Hall v (q0a (q1g ["_law_path", "_law_mark"] [("_law_signs",6)] rfl (@q1y _ _ _ _ K rfl (pv 4)) (fun _ _ _ _ _=>(@q2l _ _ _ _ (2) _ K rfl rfl (q0k (q0h (i:=0) (show(["_law_path", "_law_mark", "_law_signs"]:List Str).Nodup by trivial) rfl (by trivial)) (q0k (q0h (i:=1) (show(["_law_path", "_law_mark", "_law_signs"]:List Str).Nodup by trivial) rfl (by trivial)) q1m)) (by rfl) (by rfl))) (fun _ _ _ _ _=>q1n) (fun _ _ _ _ _=>(q1e (q0a (pe_c C.put v (q0a (pv 2) (q0a (pv 0) q0c))) (q0a (pv 1) q0c))))) (q0a (pv 3) q0c)))) (q0e (q3n (i:=10) ["_law_path", "_law_place"] [("_law_signs",6)] sc_law.nd rfl (by trivial) rfl (@q1y _ _ _ _ K rfl (pv 7)) (fun _ _ _ _ _=>(@q2l _ _ _ _ (2) _ K rfl rfl (q0k (q0h (i:=0) (show(["_law_path", "_law_place", "_law_signs"]:List Str).Nodup by trivial) rfl (by trivial)) (q0k (q0h (i:=1) (show(["_law_path", "_law_place", "_law_signs"]:List Str).Nodup by trivial) rfl (by trivial)) q1m)) (by rfl) (by rfl))) (fun _ _ _ _ _=>q1n) (fun _ _ _ _ _=>(q1e (q0a (pe_c C.put v (q0a (pv 2) (q0a (pv 0) q0c))) (q0a (pe_c C.put v (q0a (pv 2) (q0a (pv 1) q0c))) q0c))))) (q0e (q1s (q0n (ne_k K rfl v) (pe_c C.goal v (q0a (pv 9) (q0a (pv 10) q0c))) (q0l (q8n v) (by rfl) T.b_sorted (by trivial) (q0a (q1g ["_law_path", "_law_mark"] [("_law_signs",6)] rfl (@q1y _ _ _ _ K rfl (pe_c C.goal v (q0a (pv 8) (q0a (pv 7) q0c)))) (fun _ _ _ _ _=>(@q2l _ _ _ _ (2) _ K rfl rfl (q0k (q0h (i:=0) (show(["_law_path", "_law_mark", "_law_signs"]:List Str).Nodup by trivial) rfl (by trivial)) (q0k (q0h (i:=1) (show(["_law_path", "_law_mark", "_law_signs"]:List Str).Nodup by trivial) rfl (by trivial)) q1m)) (by rfl) (by rfl))) (fun _ _ _ _ _=>q1n) (fun _ _ _ _ _=>(q1e (q0a (pe_c C.put v (q0a (pv 2) (q0a (pv 0) q0c))) (q0a (pv 1) q0c))))) q0c)) (nomark _)) (q0f (q0m q6c)) q0o) (q0e (q3n (i:=11) ["_law_ring"] [("_law_signs",6)] sc_law.nd rfl (by trivial) rfl (@q1y _ _ _ _ K rfl (pe_c C.rings v (q0a (pv 8) (q0a (pv 7) q0c)))) (fun _ _ _ _ _=>(q0h (i:=0) (show(["_law_ring", "_law_signs"]:List Str).Nodup by trivial) rfl (by trivial))) (fun _ _ _ _ _=>q1n) (fun _ _ _ _ _=>(q1g ["_law_path"] [("_law_signs",1)] rfl (@q1y _ _ _ _ K rfl (pv 0)) (fun _ _ _ _ _=>(q0h (i:=0) (show(["_law_path", "_law_signs"]:List Str).Nodup by trivial) rfl (by trivial))) (fun _ _ _ _ _=>q1n) (fun _ _ _ _ _=>(pe_c C.put v (q0a (pv 1) (q0a (pv 0) q0c))))))) (q0e (q1s (q0n (ne_k K rfl v) (pe_c C.rings v (q0a (pv 9) (q0a (pv 10) q0c))) (q0l (q4a v) (by rfl) T.b_sorted (by trivial) (q0a (q1g ["_law_ring"] [] rfl (@q1y _ _ _ _ K rfl (pv 11)) (fun _ _ _ _ _=>(q0h (i:=0) (show(["_law_ring"]:List Str).Nodup by trivial) rfl (by trivial))) (fun _ _ _ _ _=>q1n) (fun _ _ _ _ _=>(pe_c C.from_least v (q0a (pv 0) q0c)))) q0c)) (nomark _)) (q0f (q0m q6c)) q0o) (q0e (q3n (i:=12) ["_law_chain"] [("_law_signs",6)] sc_law.nd rfl (by trivial) rfl (@q1y _ _ _ _ K rfl (pe_c C.chains v (q0a (pv 8) (q0a (pv 7) q0c)))) (fun _ _ _ _ _=>(q0h (i:=0) (show(["_law_chain", "_law_signs"]:List Str).Nodup by trivial) rfl (by trivial))) (fun _ _ _ _ _=>q1n) (fun _ _ _ _ _=>(q1g ["_law_path"] [("_law_signs",1)] rfl (@q1y _ _ _ _ K rfl (pv 0)) (fun _ _ _ _ _=>(q0h (i:=0) (show(["_law_path", "_law_signs"]:List Str).Nodup by trivial) rfl (by trivial))) (fun _ _ _ _ _=>q1n) (fun _ _ _ _ _=>(pe_c C.put v (q0a (pv 1) (q0a (pv 0) q0c))))))) (q0f (q1s (pt_j (@PW.pt _ _ _ (pw_or (q0n (ne_k K rfl v) (pe_c C.chains v (q0a (pv 9) (q0a (pv 10) q0c))) (q0l (q4a v) (by rfl) T.b_sorted (by trivial) (q0a (pv 12) q0c)) (nomark _)) (x1r (q0n (ne_k K rfl v) (q0l (q3o K rfl) (by rfl) T.b_len Cs (q0a (pe_c C.row_for v (q0a (pv 9) (q0a (pv 10) q0c))) q0c)) (q0l (q3o K rfl) (by rfl) T.b_len Cs (q0a (pe_c C.row_for v (q0a (pv 8) (q0a (pv 7) q0c))) q0c)) (nomark _)))))) (q0f (q0m q6c)) q0o))))))))))))))) (q0f (q0m q6c)))),?_⟩;refine⟨_,rfl,sc,_,rfl,.inl hS,fun b hb=>⟨by show 3<=sizeLine;decide,fun a ha=>?_⟩⟩;have r8:b≠a:=q0i q0b ha;have F:FeedAt (upd (upd H b (.lst (ns.map V.int))) a (.lst [.ref b,.int 0,.int 0])) a b:=⟨⟨0,0,q0b⟩,ns,by rw[q0d r8];exact q0b⟩
  have sS:Same H (upd (upd H b (.lst (ns.map V.int))) a (.lst [.ref b,.int 0,.int 0])):=((Same.refl H).new hb).new ha;generalize r9:upd (upd H b _) a _=H1;rw[r9] at F sS;refine⟨_,rfl,_,_,rfl,.inl ⟨_,sS.seq hS,rfl⟩,?_⟩;refine⟨_,_,rfl,_,_,rfl,_,rfl,?_,?_,q4v (fun i j7 H'=>∃x2 x3 x4 x5 x6 x7 x8 x9 j8 j9 k3,j7=[some (.ref sc),some (.ref a),x2,x3,x4,x5,x6,x7,x8,x9,j8,j9,k3]/\Fd a b H1 H') ⟨none,none,none,none,none,none,none,none,none,none,none,rfl,Fd.refl F⟩ ?_ ?_⟩
  ·rw[Aa];split<;>split<;>lia
  ·rw[Aa];split<;>split<;>lia
  ·rintro i j7 Hs hi ⟨x2,x3,x4,x5,x6,x7,x8,x9,j8,j9,k3,rfl,fd⟩;have Fs:=fd.feed;refine⟨_,rfl,a,b,_,rfl,Fs,by decide,by decide,fun r0 H2 v1 v2 f6=>.inl ⟨rfl,?_⟩⟩;generalize decide (V.int r0=V.int 1)=bl;refine⟨_,rfl,_,rfl,a,b,bl,18,rfl,f6.feed,by decide,by decide,fun L I H3 n7 hL rl hl len=>?_⟩;have c7:I.length<=20:=by lia
   have fd3':=f6.trans n7;have s0:Hs L=none:=f6.free hL;have f7:L≠a:=(Fs.na s0).symm;refine⟨_,rfl,_,rfl,_,rfl,a,b,L,bl,5,I,rfl,fd3'.feed,rl,hl,by lia,f7,by decide,by decide,fun W ps H4 k4 hW pd gw ap=>?_⟩;have fd4':=fd3'.trans k4;have c8:=rl.fd fd3'.feed k4 f7;have n8:okMs (ps.map (·.2)):=x5d gw hl;have v3:ps.length<=20:=by have:=gw.len;rw[Aa,Aa] at this;lia
   have r7:(I.map (·.2)).length<=20:=by rw[Aa];exact c7
   have s1:=@fd4'.feed;refine⟨_,rfl,a,b,rfl,fd4'.feed,fun D as fs H5 f8 hD sg pa pf=>?_⟩;have s2:D≠a:=(fd4'.feed.na hD).symm;have e:=ex_of pa pf;have fd5':=fd4'.trans f8;have n9:=c8.fd fd4'.feed f8 f7;have o0:=pd.fd fd4'.feed f8;refine⟨_,rfl,_,rfl,a,b,W,ps,rfl,fd5'.feed,o0,gw.nd,n8,by lia,fun M ws H6 f9 hM ml pm=>?_⟩;have fd6':=fd5'.trans f9;have k5:=n9.fd fd5'.feed f9 f7;have o1:SgD H6 D as fs:=sg.kp fun u e=>f9.at e s2;have h8:=x1o gw.nd pm;have gW:=gw.perm pm;have v4:ws.length<=20:=by have:=pm.length_eq;rw[Aa,Aa] at this;lia
   have c1:Apart bl (I.map (·.2)) (plc (ws.map (·.2))):=by rw[h8];exact ap
   clear f6 n7 fd3' k4 rl hL hW c8 n9 pd o0 fd4' f8 fd5' f9 sg ap gw n8 pm h8 hM s1;refine⟨_,rfl,_,rfl,fun h dx hh k6 n=>?_⟩;refine⟨h,dx,L,bl,I,rfl,q0b,z8o k5 hh k6,hl,by lia,fun d H7 hd i1 i2 i3=>⟨rfl,?_⟩⟩;obtain⟨s7,_⟩:=z2b hh k6 hd i3;have o2:HallAt c H7 h d bl (I.map (·.2)):=⟨⟨dx,i1⟩,i2⟩
   have o3:=fd6'.same s7;have g0:=k5.same s7;have k7:=o1.same s7;have o4:=ml.same s7;clear i1 i2 i3 hd s7 k6 n hh fd6' k5 o1 ml;have k8:∀r∈I.map (·.2),okP r.1:=hl.ok;generalize c2:sgO as fs=σ at e;have v5:(I.map (·.2)).length<=20:=by rw[Aa];exact c7
   have gen:∀{H8:Hp} {B:Addr} {J:List V} {o:HO},H8 B=some (.lst J)->∀T xs,H8 T=some (.tup xs)->upd H8 B o T=some (.tup xs):=fun{H8 B J o} hB T xs q=>by
    rw[q0d (fun z=>by rw[z,hB] at q;cases q)];exact q
   refine⟨_,rfl,.inl ⟨L,rfl,⟨_,SqL.of g0.at_⟩,fun B hB=>?_⟩⟩;refine q1i (xs:=I.map fun z=>V.ref z.1) (fun j J H'=>∃Z:List Zr,J=Z.map (fun z=>V.ref z.1)/\Z.map (·.2)=((I.take j).map (·.2)).map (puR σ)/\(∀z∈Z,PR H' z.1 (rR z.2))/\Z.length=j/\j<=I.length/\Same H7 H'/\H' B=some (.lst J)) ⟨[],rfl,rfl,(fun _ h=>nomatch h),rfl,Bf _,(Same.refl H7).new hB,q0b⟩ (fun j J H' ⟨_,_,_,_,_,_,sm,h⟩=>⟨h,SqL.of (sm _ _ g0.at_)⟩) ?_ ?_
   ·rintro j J H8 x X ⟨Z,rfl,eu,g5,ul,hj,sm,c3⟩;rw[Ak] at X;obtain⟨z,g,rfl⟩:=Bv.mp X;have a2:=Ah g;have hj':=(Af.mp g).1;obtain⟨bp,b1,b2⟩:=g0.pr z a2;obtain⟨n1,n2,n3⟩:=Nm.ok (k8 z.2 (Ac.mpr ⟨z,a2,rfl⟩));refine⟨z.1,_,rfl,SqT.of (sm _ _ b1),rfl,_,_,rfl,_,_,rfl,rfl,q2p,?_⟩;refine⟨_,rfl,_,rfl,D,bp,as,fs,z.2.1,rfl,k7.same sm,pa,pf,sm _ _ b2,n1,n2,n3,fun T H9 hT s9 c9=>?_⟩;rw[c2] at c9;refine⟨_,rfl,by show 2<=sizeLine;decide,fun U hU=>?_⟩;have O:=(Same.refl H9).new (o:=.tup [.ref T,mV z.2.2]) hU;have b0:=O _ _ (s9 _ _ c3);refine⟨b0,TX.small' (by rw[Aa];lia),Z++[(U,puR σ z.2)],by rw[Ae];rfl,by rw[Et,g,Ae,Ae,Ae,eu];rfl,fun y hy=>?_,by rw[Al,ul];rfl,hj',(sm.trans (s9.trans O)).put hB,q0b⟩;rcases Ar.mp hy with w|w
    ·exact PR.same (g5 y w) fun T xs q=>gen b0 _ _ (O _ _ (s9 _ _ q))
    ·rw[Aj.mp w];exact⟨T,gen b0 _ _ q0b,gen b0 _ _ (O _ _ c9)⟩
   rintro J H8 ⟨Z,rfl,eu,g5,ul,_,o5,c3⟩;rw[Aa,Ba] at eu;have ul:Z.length=I.length:=by rw[ul,Aa]
   have g6:Hl bl (Z.map (·.2)):=by rw[eu];exact e.hl hl
   refine⟨_,rfl,fun h2 o6 k9 d0 n2=>?_⟩;refine⟨h2,o6,B,bl,Z,rfl,q0b,z8o ⟨c3,g5⟩ k9 d0,g6,by lia,fun d2 H9 o7 i1 i2 i3=>⟨rfl,?_⟩⟩;obtain⟨o8,_⟩:=z2b k9 d0 o7 i3;have o9:HallAt c H9 h2 d2 bl (Z.map (·.2)):=⟨⟨o6,i1⟩,i2⟩
   have d1:=o5.trans o8;have p0:=o2.same d1;have d3:=o4.same d1;have g7:=k7.same d1;have p1:=o3.same d1;clear i1 i2 i3 o7 d0 n2 k9 g5 c3 o5 o8 g0 o2 o4 k7 o3 d1;refine⟨_,rfl,.inl ⟨M,rfl,⟨_,SqL.of d3.at_⟩,fun N hN=>?_⟩⟩;refine q1i (xs:=ws.map fun z=>V.ref z.1) (fun j J H'=>∃vs:List Zm,J=vs.map (fun z=>V.ref z.1)/\vs.map (·.2)=((ws.take j).map (·.2)).map (puM σ)/\(∀z∈vs,MT H' z.1 z.2)/\vs.length=j/\j<=ws.length/\Same H9 H'/\H' N=some (.lst J)) ⟨[],rfl,rfl,(fun _ h=>nomatch h),rfl,Bf _,(Same.refl H9).new hN,q0b⟩ (fun j J H' ⟨_,_,_,_,_,_,sm,h⟩=>⟨h,SqL.of (sm _ _ d3.at_)⟩) ?_ ?_
   ·rintro j J c4 x X ⟨vs,rfl,ev,b4,vl,hj,sm,b5⟩;rw[Ak] at X;obtain⟨z,g,rfl⟩:=Bv.mp X;have a2:=Ah g;have hj':=(Af.mp g).1;obtain⟨A1,A2,b1,b2,b3⟩:=d3.pr z a2;have p2:z.2∈ws.map (·.2):=Ac.mpr ⟨z,a2,rfl⟩;obtain⟨k0,s3,_⟩:=(gW.all z.2 p2).th;obtain⟨n1,n2,n3⟩:=Nm.ok (k8 _ s3);obtain⟨m1,m2,m3⟩:=Nm.ok (gW.all z.2 p2).ok;refine⟨z.1,_,rfl,SqT.of (sm _ _ b1),rfl,_,_,rfl,_,_,rfl,rfl,q2p,?_⟩;refine⟨_,rfl,_,rfl,D,A1,as,fs,z.2.1,rfl,g7.same sm,pa,pf,sm _ _ b2,n1,n2,n3,fun T s4 hT a3 h9=>?_⟩;rw[c2] at h9;refine⟨_,rfl,_,rfl,D,A2,as,fs,z.2.2,rfl,(g7.same sm).same a3,pa,pf,a3 _ _ (sm _ _ b3),m1,m2,m3,fun T2 g8 v6 a7 i0=>?_⟩;rw[c2] at i0;refine⟨by show 2<=sizeLine;decide,fun U hU=>?_⟩;have a4:=(Same.refl g8).new (o:=.tup [.ref T,.ref T2]) hU;have a5:=a4 _ _ (a7 _ _ (a3 _ _ b5));refine⟨a5,TX.small' (by rw[Aa];lia),vs++[(U,puM σ z.2)],by rw[Ae];rfl,by rw[Et,g,Ae,Ae,Ae,ev];rfl,fun y hy=>?_,by rw[Al,vl];rfl,hj',(sm.trans (a3.trans (a7.trans a4))).put hN,q0b⟩;rcases Ar.mp hy with w|w
    ·exact(b4 y w).keep fun T xs q=>gen a5 _ _ (a4 _ _ (a7 _ _ (a3 _ _ q)))
    ·rw[Aj.mp w];exact⟨T,T2,gen a5 _ _ q0b,gen a5 _ _ (a4 _ _ (a7 _ _ h9)),gen a5 _ _ (a4 _ _ i0)⟩
   rintro J c4 ⟨vs,rfl,ev,b4,vl,_,O,b5⟩;rw[Aa,Ba] at ev;have vl:vs.length=ws.length:=by rw[vl,Aa]
   have p3:ML c4 N vs:=⟨b5,b4⟩
   have i4:=p0.same O;have i5:=o9.same O;have i6:=d3.same O;have d4:=g7.same O;have p5:=p1.same O;have l0:GoodW (Z.map (·.2)) (vs.map (·.2)):=by rw[eu,ev];exact e.gw hl gW
   have l1:Apart bl (Z.map (·.2)) (plc (vs.map (·.2))):=by rw[eu,ev];exact e.apart hl gW c1
   have i7:(Z.map (·.2)).length<=30:=by rw[Aa];lia
   have i8:(I.map (·.2)).length<=30:=by lia
   have a0:∀{H':Hp},Same c4 H'->GW c H' h d M bl (I.map (·.2)) ws:=fun{H'} s=>⟨i4.same s,hl,i8,i6.same s,gW,by lia,c1⟩
   have a1:∀{H':Hp},Same c4 H'->GW c H' h2 d2 N bl (Z.map (·.2)) vs:=fun{H'} s=>⟨i5.same s,g6,i7,p3.same s,l0,by lia,l1⟩
   clear p0 o9 d3 g7 p1 O b5 b4 p3 i4 i5 i6;have t:=e.tp hl gW c1;rw[<- eu,<- ev] at t;have d5:((I.map (·.2)).map (·.1)).length<=40:=by rw[Aa];lia
   have nm:∀p∈(I.map (·.2)).map (·.1),Nm p:=fun p hp=>by obtain⟨r,v,rfl⟩:=Ac.mp hp;exact nmP (k8 r v)
   have G2:=a1 (Same.refl c4);refine⟨_,rfl,_,rfl,h2,d2,N,bl,_,vs,rfl,G2.ha,g6,i7,G2.ml,l0,G2.len,l1,fun G J s4 hG a3 i9 d6 j0=>?_⟩;have G1:=a0 a3;refine⟨_,rfl,_,rfl,h,d,M,bl,_,ws,rfl,G1.ha,hl,i8,G1.ml,gW,G1.len,c1,fun G' y1 g8 v7 a7 b6 b7 p6=>.inl ⟨G',rfl,⟨_,SqL.of b6.at_⟩,fun B2 p7=>?_⟩⟩;have d7:=a3.trans a7;have p8:Hl bl (gRows (I.map (·.2)) (ws.map (·.2))):=z2e hl gW c1;have b8:Hl bl (gRows (Z.map (·.2)) (vs.map (·.2))):=z2e g6 l0 l1;have s5:y1.length<=20:=by have:=b7.length_eq;unfold gRows at this;rw[Aa,Aa,Aa] at this;lia
   have p9:∀r∈y1.map (·.2),okP r.1:=fun r v=>p8.ok r (b7.mem_iff.mp v);refine q1i (xs:=y1.map fun z=>V.ref z.1) (fun j J H'=>∃ts:List Zr,J=ts.map (fun z=>V.ref z.1)/\ts.map (·.2)=((y1.take j).map (·.2)).map (puR σ)/\(∀z∈ts,PR H' z.1 (rR z.2))/\ts.length=j/\j<=y1.length/\Same g8 H'/\H' B2=some (.lst J)) ⟨[],rfl,rfl,(fun _ h=>nomatch h),rfl,Bf _,(Same.refl g8).new p7,q0b⟩ (fun j J H' ⟨_,_,_,_,_,_,sm,h⟩=>⟨h,SqL.of (sm _ _ b6.at_)⟩) ?_ ?_
   ·rintro j J H8 x X ⟨ts,rfl,et,s6,tl,hj,sm,c3⟩;rw[Ak] at X;obtain⟨z,g,rfl⟩:=Bv.mp X;have a2:=Ah g;have hj':=(Af.mp g).1;obtain⟨bp,b1,b2⟩:=b6.pr z a2;obtain⟨n1,n2,n3⟩:=Nm.ok (p9 z.2 (Ac.mpr ⟨z,a2,rfl⟩));refine⟨z.1,_,rfl,SqT.of (sm _ _ b1),rfl,_,_,rfl,_,_,rfl,rfl,q2p,?_⟩;refine⟨_,rfl,_,rfl,D,bp,as,fs,z.2.1,rfl,d4.same (d7.trans sm),pa,pf,sm _ _ b2,n1,n2,n3,fun T H9 hT s9 c9=>?_⟩;rw[c2] at c9;refine⟨_,rfl,by show 2<=sizeLine;decide,fun U hU=>?_⟩;have sU:=(Same.refl H9).new (o:=.tup [.ref T,mV z.2.2]) hU;have g9:=sU _ _ (s9 _ _ c3);refine⟨g9,TX.small' (by rw[Aa];lia),ts++[(U,puR σ z.2)],by rw[Ae];rfl,by rw[Et,g,Ae,Ae,Ae,et];rfl,fun y hy=>?_,by rw[Al,tl];rfl,hj',(sm.trans (s9.trans sU)).put p7,q0b⟩;rcases Ar.mp hy with w|w
    ·exact PR.same (s6 y w) fun T xs q=>gen g9 _ _ (sU _ _ (s9 _ _ q))
    ·rw[Aj.mp w];exact⟨T,gen g9 _ _ q0b,gen g9 _ _ (sU _ _ c9)⟩
   rintro v8 l2 ⟨ts,rfl,et,d8,tl,_,a4,j1⟩;rw[Aa,Ba] at et;rw[Aa] at tl;have h3:(ts.map (·.2)).Perm (gRows (Z.map (·.2)) (vs.map (·.2))):=by rw[et,eu,ev,e.goal hl gW];exact b7.map _
   refine⟨B2,ts.map fun z=>(z.1,rR z.2),rfl,by rw[An];exact j1,by rw[Aa];lia,fun z g=>?_,?_,fun L3 zs3 s8 j2 d9=>?_⟩
   ·obtain⟨y,hy,rfl⟩:=Ac.mp g;exact⟨d8 y hy,(b8.ok y.2 (h3.mem_iff.mp (Ac.mpr ⟨y,hy,rfl⟩))).low⟩
   ·have:=(h3.map (·.1)).nodup_iff.mpr b8.paths;rw[An] at this ⊢;exact this
   obtain⟨zs4,q1,rfl⟩:=SB.perm_map_inv j2 rfl;rw[An] at d9;rw[show(zs4.map fun z=>((z.1,rR z.2):Zq)).map (fun z=>V.ref z.1)=zs4.map fun z=>V.ref z.1 from by rw[An];rfl];have sL:=(Same.refl l2).new (o:=.lst (zs4.map fun z=>V.ref z.1)) s8;have c8:RL (upd l2 L3 (.lst (zs4.map fun z=>V.ref z.1))) L3 zs4:=⟨q0b,fun z g=>PR.same (d8 z (q1.mem_iff.mp g)) fun T xs e=>sL _ _ e⟩
   have p4:(zs4.map (·.2)).Perm (gRows (Z.map (·.2)) (vs.map (·.2))):=(q1.map _).trans h3;have e3:J.map (·.2)=zs4.map (·.2):=z9i (d6.trans p4.symm) ((p4.map _).nodup_iff.mpr b8.paths) (by rw[An];exact j0) (by rw[An];exact d9);refine x4a (i9.same (a7.trans (a4.trans sL))) c8 e3 (fun r v=>(b8.ok r (d6.mem_iff.mp v)).low) ⟨_,rfl,iteF ?_⟩;have l6:=(d7.trans a4).trans sL;generalize upd l2 L3 (.lst (zs4.map fun z=>V.ref z.1))=v9 at l6;clear G1 G2 i9 d6 j0 b6 b7 p6 p9 s5 p8 d8 h3 c8 p4 e3 sL j1 q1 d9 j2;have q2:∀{rs:List Zl},Rgs (gOf bl (I.map (·.2)) (ws.map (·.2))) (rs.map cont)->∀z∈rs,∃p∈(I.map (·.2)).map (·.1),Orb (gOf bl (I.map (·.2)) (ws.map (·.2))) p (cont z):=fun{rs} R z g=>by
    obtain⟨p,rp⟩:=R.is.mp (Ac.mpr ⟨z,g,rfl⟩);exact⟨p,rp.in_ t.F,rp.o⟩
   refine⟨_,rfl,_,rfl,h,d,M,bl,_,ws,rfl,a0 l6,fun R rs w0 hR _ t0 e2 Y _=>.inl ⟨R,rfl,⟨_,SqL.of e2.at_⟩,fun B3 t1=>?_⟩⟩;have a8:=l6.trans t0;obtain⟨f1,f2⟩:=z4s t.F d5 Y.nd (q2 Y);refine puts e (d4.same a8) pa pf c2 e2 f1 (fun z g=>(f2 z g).1) t1 fun e4 w1 e6 t2 c5=>?_;have a9:=a8.trans t2;have q3:∀{rs e4:List Zl},e4.map cont=(rs.map cont).map (·.map (pu σ))->(∀z∈rs,z.2.length<=40/\z.2≠[]/\(cont z).Nodup/\∀x∈cont z,x∈(I.map (·.2)).map (·.1))->e4.length=rs.length/\∀z∈e4,z.2.length<=40/\z.2≠[]/\(cont z).Nodup:=fun{rs e4} c5 f2=>by
    refine⟨by have:=congrArg List.length c5;rw[Aa,Aa,Aa] at this;exact this,fun z g=>?_⟩;have h1:cont z∈(rs.map cont).map (·.map (pu σ)):=c5▸Ac.mpr ⟨z,g,rfl⟩;obtain⟨xs,X,e1⟩:=Ac.mp h1;obtain⟨y,hy,rfl⟩:=Ac.mp X;obtain⟨g1,g2,g3,g4⟩:=f2 y hy;have l:=congrArg List.length e1;rw[Aa,Aa,Aa] at l;refine⟨by lia,fun n=>?_,?_⟩
    ·rw[n] at l;exact g2 (Iy.mp l)
    ·rw[<- e1];exact q4h (fun x X y hy=>e.path (nm x (g4 x X)) (nm y (g4 y hy))) g3
   refine⟨_,rfl,_,rfl,h2,d2,N,bl,_,vs,rfl,a1 a9,fun R2 m0 w2 w3 _ m4 j3 j4 _=>⟨_,rfl,.inl ⟨B3,rfl,⟨_,SqL.of (m4 _ _ e6.at_)⟩,fun B4 t3=>?_⟩⟩⟩;obtain⟨l3,f3⟩:=q3 c5 f2;refine fls (e6.same m4) (by lia) (fun z g=>(f3 z g).1) (fun z g=>(f3 z g).2.1) (fun z g=>(f3 z g).2.2) t3 fun m5 m6 b9 q4 S=>?_;rw[c5] at S;have h4:=fl_nd t (fun xs X=>Y.is.mp X) Y.nd S;have l4:m5.length=rs.length:=by have:=Ez S;rw[Aa,Aa,Aa] at this;lia
   have q5:∀z∈m5,z.2≠[]:=fun z g n=>by
    obtain⟨xs,_,fl⟩:=z4r S (cont z) (Ac.mpr ⟨z,g,rfl⟩);exact fl.ne (by unfold cont;rw[n];rfl)
   refine⟨List Zp,fun z=>(z.map (·.2)).headD [],B4,m5,rfl,b9.at_,by lia,fun z g=>(b9.pr z g).headAt (q5 z g),by rw[An] at h4;exact h4,fun L5 zs5 t4 c6 q6=>?_⟩;have h5:=(Same.refl m6).new (o:=.lst (zs5.map fun z=>V.ref z.1)) t4;have q7:LLs (upd m6 L5 (.lst (zs5.map fun z=>V.ref z.1))) L5 zs5:=⟨q0b,fun z g=>(b9.pr z (c6.mem_iff.mp g)).same h5⟩
   have q8:((zs5.map cont).map (·.headD [])).Nodup:=((c6.map cont).map _).nodup_iff.mpr h4;have q9:((zs5.map cont).map (·.headD [])).Pairwise (fun a b=>pLt b a=false):=by rw[An];exact q6
   have r1:=t.rgs Y (zs:=zs5.map cont) (fun xs X=>by
     obtain⟨J,hy,fl⟩:=x2t S (xs.map (pu σ)) (Ac.mpr ⟨xs,X,rfl⟩);exact⟨J,(c6.map cont).mem_iff.mpr hy,fl⟩) (fun J hy=>by
     obtain⟨xs,X,fl⟩:=z4r S J ((c6.map cont).mem_iff.mp hy);obtain⟨x0,h0,rfl⟩:=Ac.mp X;exact⟨x0,h0,fl⟩) q9 (q1a q8)
   have e5:m0.map cont=zs5.map cont:=j4.uniq r1;have er:(m0.map cont).length=(rs.map cont).length:=by rw[e5,Aa,Aa,c6.length_eq,l4]
   refine x2s (j3.same (q4.trans h5)) q7 e5 ⟨_,rfl,iteF ?_⟩;have m7:=((a9.trans m4).trans q4).trans h5;generalize upd m6 L5 (.lst (zs5.map fun z=>V.ref z.1))=w4 at m7;clear q7 q8 q9 r1 e5 c6 q6 h5 q5 l4 h4 S b9 l3 f3 j3 e6 e2 a9 a8 c5 f1 f2;refine⟨_,rfl,_,rfl,h,d,M,bl,_,ws,rfl,a0 m7,fun R3 r2 w5 w6 _ t5 j5 c0 _=>.inl ⟨R3,rfl,⟨_,SqL.of j5.at_⟩,fun B5 t6=>?_⟩⟩;have e8:=m7.trans t5;have j6:∀z∈r2,∃p∈(I.map (·.2)).map (·.1),Orb (gOf bl (I.map (·.2)) (ws.map (·.2))) p (cont z):=fun z g=>by
    obtain⟨p,hm,cp⟩:=c0.is.mp (Ac.mpr ⟨z,g,rfl⟩);exact⟨p,hm.1,cp.o⟩
   obtain⟨k1,k2⟩:=z4s t.F d5 c0.nd j6;refine puts e (d4.same e8) pa pf c2 j5 k1 (fun z g=>(k2 z g).1) t6 fun t7 w7 e9 t8 m8=>?_
   have f0:=e8.trans t8;obtain⟨l5,f5⟩:=q3 m8 k2;refine⟨fun bb H'=>bb=false/\Same c4 H',?_,?_⟩
   ·rintro bb H' ⟨rfl,s'⟩;exact iteF ⟨_,_,_,_,_,_,_,_,_,_,_,rfl,fd.trans (p5.same s')⟩
   refine⟨_,rfl,_,rfl,h2,d2,N,bl,_,vs,rfl,a1 f0,fun R6 t9 m9 x1 _ h6 r3 r4 _=>?_⟩;have h7:=hds_nd e (rs:=r2.map cont) (fun xs X=>by
    obtain⟨z,g,rfl⟩:=Ac.mp X;obtain⟨p,hp,o⟩:=j6 z g;rw[o.headD];exact nm p hp) c0.nd
   rw[<- m8] at h7;refine⟨_,rfl,List Zp,fun z=>(z.map (·.2)).headD [],B5,t7,rfl,h6 _ _ e9.at_,by lia,fun z g=>((e9.same h6).pr z g).headAt (f5 z g).2.1,by rw[An] at h7;exact h7,fun L7 a6 u0 n0 u1=>?_⟩;have n4:=(Same.refl m9).new (o:=.lst (a6.map fun z=>V.ref z.1)) u0;have u2:LLs (upd m9 L7 (.lst (a6.map fun z=>V.ref z.1))) L7 a6:=⟨q0b,fun z g=>((e9.same h6).pr z (n0.mem_iff.mp g)).same n4⟩
   have u3:((a6.map cont).map (·.headD [])).Nodup:=((n0.map cont).map _).nodup_iff.mpr h7;have u4:((a6.map cont).map (·.headD [])).Pairwise (fun a b=>pLt b a=false):=by rw[An];exact u1
   have u5:=t.chs (mv:=mvOf (I.map (·.2)) (ws.map (·.2))) (mv':=mvOf (Z.map (·.2)) (vs.map (·.2))) (fun p hp=>by rw[eu,ev];exact e.mv hl gW hp) (fun p hp=>hp.1) (fun q hq=>hq.1) c0 (zs:=a6.map cont) (by rw[<- m8];exact(n0.map cont).mem_iff) u4 (q1a u3);have e7:t9.map cont=a6.map cont:=r4.uniq u5;refine x2s (r3.same n4) u2 e7 ⟨_,rfl,iteF ?_⟩;have n5:=(f0.trans h6).trans n4;generalize upd m9 L7 (.lst (a6.map fun z=>V.ref z.1))=y0 at n5;refine⟨_,rfl,_,rfl,h2,d2,N,bl,_,vs,rfl,a1 n5,fun R8 w8 y2 y3 u6 r5 l8 u7=>⟨_,_,rfl,.inl ⟨_,SqL.of r5.at_,rfl⟩,?_⟩⟩;have f4:=n5.trans u6;refine⟨_,rfl,_,rfl,h,d,M,bl,_,ws,rfl,a0 f4,fun R9 w9 y4 y5 u8 r6 l9 u9=>⟨_,_,rfl,.inl ⟨_,SqL.of r6.at_,rfl⟩,?_⟩⟩;have en:=e.len hl gW c1 (R':=m0.map cont) Y (by rw[<- eu,<- ev];exact j4) er u9 (by rw[<- eu,<- ev];exact u7);rw[Aa,Aa] at en;have e0:(V.int ((w8.map fun z=>V.ref z.1).length:Nat)=V.int ((w9.map fun z=>V.ref z.1).length:Nat)):=by rw[Aa,Aa,en]
   refine .inl ⟨rfl,?_⟩;rw[decide_eq_true e0];exact⟨_,rfl,rfl,f4.trans u8⟩
  ·rintro j7 H' ⟨x2,x3,x4,x5,x6,x7,x8,x9,j8,j9,k3,rfl,fd⟩;exact k H'
end
end K
set_option maxHeartbeats 4000000
namespace K
open PySem L2 TX SB HM
theorem df_mk{K:Aq}{mg:Str->Option Value}{h:Heap}{x:Str}{st:Stmt}{ps:List Str}{f:Addr}{s:Value}{u j:Option Addr}{q:Array (Option Value)}{kV g pm e ct:Value}(X:K.In h)(G:h.Ns Ef mg)(a:W.nsIn K Ef x=some (some (.ref f)))(l:K.lookup f=some ⟨s,u,.func (Jp x x (defArgs st) (defBody st) (defScope st) .none kV g pm j e ct),q⟩)(c:Mq K e x=true)(k:Ih K (.ref f)=true)(v:∀(kV g pm:Value) (j:Option Addr) (e ct:Value) (us:List Value),us.length=ps.length->bindArgs (Jp x x (defArgs st) (defBody st) (defScope st) .none kV g pm j e ct) ⟨us,[]⟩=pure (ps.zip us)):Df K mg x st ps :=
 ⟨f,_,z0u l c k,W.mg_of X G a,(z0u (st:=st) l c k).binds v⟩
theorem mf_mk{K:Aq}{C:Addr}{m e:Str}{st:Stmt}{ps:List Str}{f:Addr}{s:Value}{u j:Option Addr}{q:Array (Option Value)}{kV h pm g ct:Value}(a:Gu K (.ref C) m=some (some (.ref f)))(l:K.lookup f=some ⟨s,u,.func (Jp m e (defArgs st) (defBody st) (defScope st) .none kV h pm j g ct),q⟩)(c:Mq K g e=true)(k:Ih K (.ref f)=true)(i:We K (.ref f)=true)(v:∀(kV h pm:Value) (j:Option Addr) (g ct:Value) (us:List Value),us.length=ps.length->bindArgs (Jp m e (defArgs st) (defBody st) (defScope st) .none kV h pm j g ct) ⟨us,[]⟩=pure (ps.zip us)):Mf K C m e st ps :=
 ⟨⟨f,_,z0u l c k,⟨a,i,k⟩,(z0u (st:=st) l c k).binds v⟩⟩
theorem len_1{e:List Value}(h:e.length=1):∃f,e=[f]:=by
 match e,h with
 |[f],_=>exact⟨f,rfl⟩
theorem len_2{e:List Value}(h:e.length=2):∃f g,e=[f,g]:=by
 match e,h with
 |[f,g],_=>exact⟨f,g,rfl⟩
theorem len_3{e:List Value}(h:e.length=3):∃f g j,e=[f,g,j]:=by
 match e,h with
 |[f,g,j],_=>exact⟨f,g,j,rfl⟩
theorem len_4{e:List Value}(h:e.length=4):∃f g j q,e=[f,g,j,q]:=by
 match e,h with
 |[f,g,j,q],_=>exact⟨f,g,j,q,rfl⟩
theorem len_5{e:List Value}(h:e.length=5):∃f g j q s,e=[f,g,j,q,s]:=by
 match e,h with
 |[f,g,j,q,s],_=>exact⟨f,g,j,q,s,rfl⟩
theorem all_mk{g:Ww}{w:World}{K:Aq}{h:Heap}{mg:Str->Option Value}{fa:Addr}(X:K.In h)(G:h.Ns Ef mg)(j0:mg "law" = some (.ref fa)){i1:Addr}{i4 h6:Option Addr}{i5:Array (Option Value)}{i6 h7 h8 h9 f0 i0:Value}{f:Addr}{u:Addr}{a7 a8:Option Addr}{a9:Array (Option Value)}{b0 b1 b2 b3 I b4:Value}{J:Addr}{f1:Option Addr}{f2:Array (Option Value)}{f3:Nat}(c0:Df K mg "is_wish" q5o ["hall", "path", "place", "places"])(B:Df K mg "wished_places" q2j ["hall", "wishes"])(S:Df K mg "all_places" q3d ["hall", "wishes"])(b5:Df K mg "meetings" q4p ["hall", "wishes"])(U:Df K mg "ask_wishes" q3f ["hall", "wishes"])(a4:Df K mg "path_then" q2h ["path", "places"])(g3:Df K mg "goal" z3h ["hall", "wishes"])(j:Df K mg "things_that_move" q1t ["places"])(a5:Df K mg "next_ones" q3t ["hall", "places"])(q:Df K mg "asked_next_ones" q1z ["hall", "wishes"])(C:Df K mg "from_thing_on" q2k ["path", "nexts"])(f4:Df K mg "rings" z0e ["hall", "wishes"])(d9:Df K mg "chains" q7o ["hall", "wishes"])(f5:Df K mg "alike" q9v ["one", "other"])(d0:Df K mg "carried" q5r ["path", "moved", "place"])(L:Df K mg "path_behind" q2y ["path", "row"])(Z:Df K mg "spare_name" q3h ["drawer", "paths", "row"])(b6:Df K mg "put_move" q4s ["row", "path", "place"])(d6:Df K mg "row_for" q5s ["hall", "wishes"])(g4:Df K mg "_law_draw" z3c ["_law_feed", "_law_many"])(a0:Df K mg "_law_name_signs" q3b [])(g5:Df K mg "_law_text" z3d ["_law_feed", "_law_signs", "_law_size"])(e0:Df K mg "_law_a_name" q7l ["_law_feed"])(g6:Df K mg "_law_fold" z3e ["_law_name", "_law_blind"])(g7:Df K mg "_law_rows" z3f ["_law_feed", "_law_blind", "_law_most"])(a1:Df K mg "_law_other_case" q3e ["_law_feed", "_law_name"])(d7:Df K mg "_law_some_of" q5p ["_law_feed", "_law_things", "_law_many"])(a2:Df K mg "_law_free_place" q3g ["_law_feed", "_law_marks", "_law_path", "_law_taken", "_law_blind"])(M:Df K mg "_law_good_wishes" q2x ["_law_feed", "_law_rows_here", "_law_blind", "_law_most"])(b7:Df K mg "_law_in_order" q4q ["_law_feed", "_law_wishes"])(b8:Df K mg "_law_exchange" q4u ["_law_feed"])(i2:Df K mg "_law_put" z9h ["_law_signs", "_law_path"])(a3:Df K mg "_law_from_least" q3i ["_law_ring"])(j1:W.nsIn K Ef "law" = some (some (.ref i1)))(j2:K.lookup i1=some ⟨i6,i4,.func (Jp "law" "law" (defArgs q3u) (defBody q3u) (defScope q3u) .none h7 h8 h9 h6 f0 i0),i5⟩)(j3:Mq K f0 "law" = true)(j4:Ih K (.ref i1)=true)(T:Txt mg)(g8:W.nsIn K Ef "Hall" = some (some (.ref f)))(f6:Pp K f Str.empty=true)(f7:Rh K f=true)(f8:Vd K f=true)(f9:Gu K (.ref f) "__setattr__" = some (some (.builtin "object.__setattr__")))(O:Gu K (.ref f) "blind" = some none)(R:Gu K (.ref f) "marks" = some none)(g9:Gu K (.ref f) "__init__" = some (some (.ref u)))(h0:K.lookup u=some ⟨b0,a7,.func (Jp "__init__" "Hall.__init__" (defArgs q0w) (defBody q0w) (defScope q0w) (.ref J) b1 b2 b3 a8 I b4),a9⟩)(h1:Mq K I "Hall.__init__" = true)(i9:Ih K (.ref u)=true)(h2:We K (.ref u)=true)(g0:Wu K f=true)(g1:Ih K (.ref f)=true)(d8:K.lookup J=some ⟨.type "tuple",f1,.seq #[.bool false] f3,f2⟩)(a6:Mf K f "is_drawer" "Hall.is_drawer" q2e ["self", "path"])(D:Mf K f "is_one_place" "Hall.is_one_place" q1p ["self", "one", "other"])(h3:Mf K f "rows" "Hall.rows" q3s ["self"])(g2:Mf K f "there" "Hall.there" q3c ["self", "place"]):
  ∃fd:Mo,(∀(s:Ag) (v:Value),Sa s fd ⟨[v],[]⟩ [("_law_script",v)])/\∀base:Heap,K.In base->base.Ns Ef mg->FnOk g.prog w K mg base CX0 12 fa fd ["_law_script"] (spLaw K):=by
 have e:=j0.symm.trans (W.mg_of X G j1);cases e;have b9:Cls K f:=⟨f6,f7,f8,f9⟩
 have h4:Kf K mg f "Hall" "Hall.__init__" q0w ["self", "rows", "blind"]:=⟨⟨u,_,b0,a7,.ref J,b1,b2,b3,a8,I,b4,a9,rfl,h0,h1,⟨g0,g9,h2,g1⟩,fun s us Y hl=>by obtain⟨_,_,_,rfl⟩:=len_3 (by rw[Du] at hl;exact hl:us.length=3);exact W.binds_K Y rfl d8 rfl rfl rfl,fun s us Y hl=>by obtain⟨_,_,rfl⟩:=len_2 (by rw[Al] at hl;exact Nat.succ.inj hl:us.length=2);exact W.binds_K Y rfl d8 rfl rfl rfl⟩,W.mg_of X G g8,b9⟩
 have FL:=z0u (st:=q3u) j2 j3 j4;refine⟨Jp "law" "law" (defArgs q3u) (defBody q3u) (defScope q3u) .none h7 h8 h9 h6 f0 i0,fun s v=>.of_eq rfl,fun base _ _=>?_⟩;have hk:Hk K f:=⟨b9,O,R⟩
 have c1:=x4e (P:=g.prog) (w:=w) (base:=base) g4 T;have c2:=x4g (P:=g.prog) (w:=w) (base:=base) g5 T c1;have c3:=q9s (P:=g.prog) (w:=w) (base:=base) a0;have c4:=z8l (P:=g.prog) (w:=w) (base:=base) e0 T ⟨c1,c2,c3⟩;have c5:=x4i (P:=g.prog) (w:=w) (base:=base) g6 T;have c6:=x4j (P:=g.prog) (w:=w) (base:=base) g7 T ⟨c1,c4,c5⟩;have c7:=x0y (P:=g.prog) (w:=w) (base:=base) f5 T;have c8:=z1w (P:=g.prog) (w:=w) (base:=base) D hk T ⟨c7⟩;have c9:=x0z (P:=g.prog) (w:=w) (base:=base) g2 hk T ⟨c8⟩;have j5:=x4k (P:=g.prog) (w:=w) (base:=base) h4 hk T ⟨c9⟩;have i7:=x1a (P:=g.prog) (w:=w) (base:=base) h3 hk T;have j6:=z1z (P:=g.prog) (w:=w) (base:=base) a6 hk T;have j7:=z5r (P:=g.prog) (w:=w) (base:=base) c0 T ⟨there1 c9,j6⟩;have j8:=z5s (P:=g.prog) (w:=w) (base:=base) B T ⟨j7⟩;have h5:=x4l (P:=g.prog) (w:=w) (base:=base) S T ⟨j8,i7⟩;have j9:=x4n (P:=g.prog) (w:=w) (base:=base) b5 T ⟨h5,c8⟩;have k0:=q9y (P:=g.prog) (w:=w) (base:=base) a1 T ⟨c1⟩;have i8:=z5t (P:=g.prog) (w:=w) (base:=base) d7 T ⟨c1⟩;have i3:=q9z (P:=g.prog) (w:=w) (base:=base) U T ⟨j9⟩;have k1:=q5h (P:=g.prog) (w:=w) (base:=base) a4 T 6;have k2:=x4s (P:=g.prog) (w:=w) (base:=base) g3 T ⟨i3,h5,k1,i7⟩;have k3:=x4t (P:=g.prog) (w:=w) (base:=base) a2 T ⟨c1,c4,c5⟩;have k4:=q7s (P:=g.prog) (w:=w) (base:=base) M T ⟨c1,c5,k3,k0,i8⟩;have k5:=z3j (P:=g.prog) (w:=w) (base:=base) b7 T ⟨i8⟩;have d1:=x1h (P:=g.prog) (w:=w) (base:=base) j T;have d2:=x4v (P:=g.prog) (w:=w) (base:=base) a5 T ⟨d1,there1 c9⟩;have d3:=x1i (P:=g.prog) (w:=w) (base:=base) q T ⟨i3,h5,d1,d2⟩;have d4:=x4x (P:=g.prog) (w:=w) (base:=base) C T;have d5:=x1j (P:=g.prog) (w:=w) (base:=base) f4 T ⟨d3,d4⟩;have e1:=z8u (P:=g.prog) (w:=w) (base:=base) d9 T ⟨d3,d4⟩;have e2:=z5x (P:=g.prog) (w:=w) (base:=base) d0 T;have e3:=z8z (P:=g.prog) (w:=w) (base:=base) L T ⟨e2⟩;have e4:=x4z (P:=g.prog) (w:=w) (base:=base) b6 T ⟨e3⟩;have e5:=x1m (P:=g.prog) (w:=w) (base:=base) Z T ⟨e3⟩;have e6:=z5y (P:=g.prog) (w:=w) (base:=base) d6 T ⟨i3,h5,e1,d5,e4,e5⟩;have e7:=z3p (P:=g.prog) (w:=w) (base:=base) b8 T ⟨c1⟩;have e8:=ok_put (P:=g.prog) (w:=w) (base:=base) i2 T;have e9:=z0j (P:=g.prog) (w:=w) (base:=base) a3 T;have CL:CallsL g.prog w K mg base f:=⟨c1,c6,k4,e7,e8,e9,k5,k2,d5,e1,e6,j5⟩
 exact FL.ok sc_law (fun vs H Q E h=>by obtain⟨a,ns,rfl,_⟩:=h;rfl) (fun k6 A outer s H vs Q E hr h=>x1p T CL _ k6 A outer s H vs Q E hr h)
theorem walk{l:Ww}{q:Ay}{loose:List Str}{XP:(Str->Option Value)->Heap->Prop}{YP:World->Heap->Prop}{d:DefRec}{K:Params->Aq}(g:l.most=some 63)(e:d.params.defaults=[])(j:∀(w:World) (h:Heap),YP w h->(K w.params).In h)(F:∀(w:World) (mg:Str->Option Value) (fa:Addr) (h:Heap),(K w.params).In h->h.Ns Ef mg->mg d.name=some (.ref fa) ->
   ∃fd:Mo,(∀(s:Ag) (u:Value),Sa s fd ⟨[u],[]⟩ [("_law_script",u)])/\∀base:Heap,(K w.params).In base->base.Ns Ef mg->FnOk l.prog w (K w.params) mg base CX0 12 fa fd ["_law_script"] (spLaw (K w.params))):
  W.WalkO q loose XP YP l.row.toRowW d [] (fun f vs=>Wl f vs) :=
 L2.walk_of (n:=63) (k:=12) (x := "_law_script") (CX:=fun _=>CX0) (sp:=fun w=>spLaw (K w.params)) g (by decide) e ⟨rfl,by decide,by decide,rfl⟩ j F (fun _ _ a ns hl _ v=>⟨a,ns,rfl,v,hl,fun _=>rfl⟩) fun _ _ _ _ _ z=>z
end K
open PySem PySem.W PyProof.Rows
local macro_rules | `(tactic| o_head $H) => `(tactic| (
  refine holds_open (q := K.vw) (loose := K.loose) (Xt := K.xt) (XP := XL K.vw []) (Yf := Hook.obs $H) (Ya := Hook.val $H) (YP := Hook.says $H) (N := 60000) ?hl (Hook.of $H) (Hook.keeps $H) (fun s e => xl_of s (Jz.mp e).1) XL.keeps
    (by rfl) (by rfl) (by rfl) (fun s e => recFacts_of (Jz.mp e).2) (by rfl) (by first | assumption | decide +kernel) (by decide +kernel) ⟨rfl, rfl, rfl, rfl, rfl, by decide +kernel⟩ ?hw ?hc))
set_option maxRecDepth 100000 in
set_option maxHeartbeats 0 in
theorem PySem.Challenge.cw_renamehall_k91_whole_letters_exchanged_holds : PySem.Challenge.rw_renamehall_k91_whole_letters_exchanged.Holds := by
  w_on; o_law; k_head; (case hw => w_witness2)
  (case hl =>
    refine HD.left (by kernel_rfl) (by rfl) (fun _ => by kernel_rfl) fun w os => ?_
    exact K.half0 w os)
  k_fill
  refine K.walk (l := PySem.Challenge.rw_renamehall_k91_whole_letters_exchanged) rfl rfl (fun w h Y => PySem.W.kIn_of Y) ?F
  case F =>
    intro w mg fa h KX G hmg
    refine' K.all_mk KX G hmg (K.df_mk KX G ?_ ?_ ?_ ?_ ?_) (K.df_mk KX G ?_ ?_ ?_ ?_ ?_) (K.df_mk KX G ?_ ?_ ?_ ?_ ?_) (K.df_mk KX G ?_ ?_ ?_ ?_ ?_) (K.df_mk KX G ?_ ?_ ?_ ?_ ?_) (K.df_mk KX G ?_ ?_ ?_ ?_ ?_) (K.df_mk KX G ?_ ?_ ?_ ?_ ?_) (K.df_mk KX G ?_ ?_ ?_ ?_ ?_) (K.df_mk KX G ?_ ?_ ?_ ?_ ?_) (K.df_mk KX G ?_ ?_ ?_ ?_ ?_) (K.df_mk KX G ?_ ?_ ?_ ?_ ?_) (K.df_mk KX G ?_ ?_ ?_ ?_ ?_) (K.df_mk KX G ?_ ?_ ?_ ?_ ?_) (K.df_mk KX G ?_ ?_ ?_ ?_ ?_) (K.df_mk KX G ?_ ?_ ?_ ?_ ?_) (K.df_mk KX G ?_ ?_ ?_ ?_ ?_) (K.df_mk KX G ?_ ?_ ?_ ?_ ?_) (K.df_mk KX G ?_ ?_ ?_ ?_ ?_) (K.df_mk KX G ?_ ?_ ?_ ?_ ?_) (K.df_mk KX G ?_ ?_ ?_ ?_ ?_) (K.df_mk KX G ?_ ?_ ?_ ?_ ?_) (K.df_mk KX G ?_ ?_ ?_ ?_ ?_) (K.df_mk KX G ?_ ?_ ?_ ?_ ?_) (K.df_mk KX G ?_ ?_ ?_ ?_ ?_) (K.df_mk KX G ?_ ?_ ?_ ?_ ?_) (K.df_mk KX G ?_ ?_ ?_ ?_ ?_) (K.df_mk KX G ?_ ?_ ?_ ?_ ?_) (K.df_mk KX G ?_ ?_ ?_ ?_ ?_) (K.df_mk KX G ?_ ?_ ?_ ?_ ?_) (K.df_mk KX G ?_ ?_ ?_ ?_ ?_) (K.df_mk KX G ?_ ?_ ?_ ?_ ?_) (K.df_mk KX G ?_ ?_ ?_ ?_ ?_) (K.df_mk KX G ?_ ?_ ?_ ?_ ?_) ?_ ?_ ?_ ?_ ⟨mg_none_of KX G ?_, mg_none_of KX G ?_, mg_none_of KX G ?_, mg_none_of KX G ?_, mg_none_of KX G ?_, mg_none_of KX G ?_, mg_none_of KX G ?_, mg_none_of KX G ?_, mg_none_of KX G ?_, mg_none_of KX G ?_, mg_none_of KX G ?_, mg_none_of KX G ?_, mg_none_of KX G ?_, mg_none_of KX G ?_⟩ ?_ ?_ ?_ ?_ ?_ ?_ ?_ ?_ ?_ ?_ ?_ ?_ ?_ ?_ ?_ (K.mf_mk ?_ ?_ ?_ ?_ ?_ ?_) (K.mf_mk ?_ ?_ ?_ ?_ ?_ ?_) (K.mf_mk ?_ ?_ ?_ ?_ ?_ ?_) (K.mf_mk ?_ ?_ ?_ ?_ ?_ ?_)
    all_goals try (first | k_is | kit_is | rfl | decide +kernel | (intro _ _ _ _ _ _ us hl; first | (obtain ⟨_, rfl⟩ := K.len_1 hl; rfl) | (obtain ⟨_, _, rfl⟩ := K.len_2 hl; rfl) | (obtain ⟨_, _, _, rfl⟩ := K.len_3 hl; rfl) | (obtain ⟨_, _, _, _, rfl⟩ := K.len_4 hl; rfl) | (obtain ⟨_, _, _, _, _, rfl⟩ := K.len_5 hl; rfl) | (cases us with | nil => rfl | cons _ _ => cases hl)))
