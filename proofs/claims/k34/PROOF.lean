import PyProof.Rows.All
import Wide.All
import OpenK.AllK
import Wide.FinOn
import Lean
import PyProof.EqAt
import PyProof.EqKinds
import PyProof.TupleCall
import PySem.Challenge.RW_renamehall_k34_sowing_refused
import KE.IntTextLaws
import KE.KIsAll
import PyProof.ExcArgsOwn
import PyProof.ExcBaseAll.ValueError
import PyProof.ExcClass2
import PyProof.ExcInit
import PyProof.InstStore
import PyProof.Rows.CatchBare
import PyProof.Rows.CatchOwn
import PyProof.StationsW
import PyProof.SumWalk
import PyProof.ReprRoads
set_option Elab.async false
set_option linter.all false
set_option maxRecDepth 100000
set_option genSizeOf false
local macro_rules|`(tactic|trivial)=>`(tactic|first|exact Or.inl rfl|exact Or.inr rfl|exact Or.inr (Or.inl rfl)|exact Or.inr (Or.inr rfl)|decide +kernel|assumption|(refine⟨rfl,rfl,rfl,?_,rfl,?_,?_⟩<;>decide +kernel)|fail)
open Array renaming getElem?_eq_some_iff→Ey,getElem?_eq_getElem→Gh,length_toList→Iu,find?_toList→Pb,getD_eq_getD_getElem?→Pk,forIn_toList→Pn,perm_iff_toList_perm→Px,toList_map→Qx,getElem?_eq_none→Sd,getElem?_toList→Sw,mem_toList_iff→Tf
open Array.Perm renaming refl→Xn
open Bool renaming false_ne_true→Bl,false_eq_true→Bp,and_eq_true→Cz,and_self→Dx,not_true→Fp,and_eq_true_iff→Jy,eq_iff_iff→Nq,not_false→Ot,decide_or→Oy,or_false→Pu,or_true→Qz,false_and→Sk,true_and→Ug
open Classical renaming byContradiction→Kx
open Eq renaming symm→Xv
open Int renaming toNat_natCast→Hy,emod_lt_of_pos→Pg,emod_nonneg→Ro,le_refl→Se,natAbs_natCast→Vf
open List renaming length_map→Af,length_append→Aj,mem_singleton→Ao,mem_cons_of_mem→Ap,map_cons→Ar,getElem?_eq_some_iff→As,map_append→Au,mem_cons_self→Av,mem_map→Aw,size_toArray→Ay,mem_cons→Az,mem_append→Ba,mem_of_getElem?→Bd,length_cons→Be,length_singleton→Bk,getElem?_map→Bm,getElem?_eq_getElem→Bt,mem_append_right→Bw,find?_cons→Ca,mem_append_left→Co,length_take→Dg,length_drop→Dh,take_length→Dj,append_nil→Dq,mem_filter→Dw,map_map→Dy,length_pos_iff→Ea,dropLast_concat_getLast→Es,all_eq_true→Eu,take_of_length_le→Ez,nodup_cons→Fh,not_mem_nil→Fl,take_succ→Gf,exists_cons_of_length_eq_add_one→Hc,filter_append→Hm,length_nil→Ho,getElem?_append_right→Hv,mem_of_mem_take→Ih,contains_cons→Jg,getLast?_eq_some_getLast→Jk,lookup_cons→Kb,drop_length→Kg,any_cons→Kj,getD_eq_getElem?_getD→Kn,getElem?_append_left→Ks,getLastD_eq_getLast?→Kv,zip_cons_cons→Ll,pairwise_cons→Ln,filter_cons_of_neg→Lz,filter_cons_of_pos→Ma,append_assoc→Mi,take_add_one→Mj,drop_of_length_le→Mu,length_replicate→Nb,take_append_drop→Nc,findSome?_append→Nh,getElem?_set_ne→Nm,foldl_cons→Nt,filterMap_cons→Oh,replicate_succ→Oi,filter_sublist→Oj,take_zero→Ox,getElem?_drop→Po,flatten_cons→Qd,nodup_append→Qg,drop_eq_getElem_cons→Qn,pairwise_singleton→Ri,of_mem_zip→Rm,forIn_cons→Rn,getElem?_set_self→Rt,mem_range→Si,nodup_nil→Sq,drop_zero→Sy,dropLast_concat→Tv,all_cons→Ub,length_reverse→Uj,mem_filterMap→Uw,filterMap_map→Vc,zip_nil_right→Vh,take_sublist→Vp,reverse_cons→Vr,zip_nil_left→Vy,mapM_toArray→Vz,cons_append→Wr,zipIdx_cons→Wx,getLast_mem→Wy,filter_cons→Wz,nil_append→Xo
open Nat renaming le_refl→Ai,zero_le→Bf,le_trans→Bg,ne_of_lt→Bj,lt_of_lt_of_le→Bo,ne_of_gt→Ex,le_succ_of_le→Gs,lt_irrefl→Gu,le_succ→Ii,not_lt→Jf,le_of_lt→Jl,lt_succ_self→Ka,le_of_eq→Lc,lt_of_le_of_lt→Li,lt_succ_of_lt→Mg,min_le_right→Mz,pow_le_pow_right→Od,sub_zero→Qw,succ_le_succ→Ra,le_of_not_lt→Rb,le_of_ble_eq_true→Tc,add_le_add_left→Uk,min_self→Vg,sub_self→Vk,not_lt_zero→Xq
open Nat.succ renaming inj→Rg
open Ne renaming symm→Bz
open Option renaming map_eq_some_iff→Ck,bind_some→Ga,isSome_iff_exists→Ik,isSome_map→Me,map_some→Nw,getD_none→Wn
open Option.some renaming inj→Cu
open Prod renaming ext→Wk
open PyProof.Rows renaming wpS_bind→Cs,callWith_type1→Ed,slot_tuple_getitem→Eg,wpS_pure→Ej,envOfC→Hx,StrsAre→Iz,SortSt→Je,get?_update_seq→Ju,lo1→Kh,seqObj→Kl,wpS_forRange→Lk,listItems_at→Lm,AllBare→Lr,SortKind→My,callWith_builtin1→Nr,mirror→Nz,pendingOf→Rq,subscriptTail_builtinR→Ry,mirror_perm→Sf,wpS_reverse→Sg,wpS_get→Sx,FormattedValue_plain→Tu,Constant_none→Tw,listUpdate_at→Ud,lt_str→Um,args_tuple_getitem→Vd,IntsAre→Vl,tuples'→Vm,seqEpoch_at→Wj,failedOf→Wu,wpS_mono→Wv,Subscript_→Xe,wpS_modify→Xm
open PyProof.Rows.IsTup renaming new→Xy
open PySem renaming wpAny_bind→Ac,wpAny_pure→Ad,Shared→Ag,Program→Ak,starEach→Bc,NameKind→Bh,boot_len→Br,wpAny_field→Bs,wpAny_call_entry→By,wpAny_mono→Cb,wpAny_newObj_type→Cc,wpAny_callSpecial?_slot→Cg,mainGlobals→Ci,compareOp→Cj,wpAny_holding→Cq,PyData→Cv,wpAny_standAt→De,wpAny_setField_rec→Dl,sysModules→Dp,excClassObj→Ds,Builtin→Du,wpAny_attempt→Eh,rawInt→El,wpAny_truthy_bool→Em,wpAny_loadPart_at→Eo,sizeLine_eq→Et,backTo→Ew,wpAny_Call_Name_kw→Fj,importedModules→Fu,mem_of_lookup→Fv,wpAny_isInstance→Fz,wpAny_seqItems→Ge,bootBuiltins→Gi,binaryOp→Gj,wpAny_call→Gk,compEnvC→Gm,codeAny_call_builtin→Gn,wpAny_typeNameOfWhole_itemiter→Gp,codeAny→Gq,attributeBase→Gv,wpAny_typeNameOfWhole_keyiter→Gx,wpAny_setField→Hb,wpAny_rule→Hd,codeAny_mono→Hi,tupleKind_room_in1→Hj,wpAny_passesOwn→Hn,behindInMarks→Hu,Paired→Hw,wpAny_dictEntries→Hz,wpAny_typeNameOf_itemiter→Ie,strIterType→Ij,wpAny_typeNameOf_keyiter→Im,wpAny_forIn_list→Io,tupleKeyHash→Ip,wpAny_isSubtype_exc→Iy,swapsWith→Jb,wpAny_dictEpoch→Jd,keywordEach→Jj,pyNext→Jm,wpAny_typeOf→Jo,builtinLookup_eq_fast→Jq,isSubtype_type→Jr,DictEntry→Jw,assignEach→Jz,find?_eq_fast→Kk,holding→Ko,sliceBounds→Kp,wpAny_of_eq→Kq,wpAny_execs_nil→Kr,wpAny_specialOf→Kt,codeAny_builtin→Ku,tupleKind→Ky,FuncData→Ld,wpAny_comprehension_free→Lj,OsState→Lo,call_meets→Ls,isSubtype_stop→Lu,intText?→Lw,foldedSetIterable→Md,pyIter→Ml,IsPart→Mp,IsPair→Mr,wpAny_Assign_Subscript→Ms,wpAny_isOneOf_itemiter→Mt,backToKw→Mw,wpAny_Dict_empty→Mx,getMethod→Na,isSubtype_tuple_tuple→Ng,plainObj_wpAny_Assign_Attribute→Nj,Within→Nl,letOwnedTupleGo→Nn,wpAny_updateSeq_pair→Nu,typeLookup_type→Nx,ExcBaseFacts→Oc,standAt→Ol,wpAny_loadPart→Om,wpAny_newTuple→Oo,wpAny_fieldsOf→Oq,OwnTail→Ou,wpAny_letGo→Oz,treeTable→Pa,wpAny_setItem_heap→Ph,wpAny_tupleItemsOf→Pm,wpAny_onRaise→Pw,plainId_quiet→Py,wpAny_assign_Name→Qb,wpAny_pyIter_slot→Qe,entryOfKey→Qh,typeLookup→Qk,codeAny_call_builtin_code→Qo,wpAny_check_type_call_sub→Qp,callerA→Qq,wpAny_execs_cons→Qr,wpAny_lookBehind→Qs,pastItsLine_dict→Qt,noFill_tuple_add→Qv,codeAny_call_builtin_at→Rj,codeAny_of_tree→Rp,wpAny_updateSeq→Rr,seqIndex_of→Ru,subscripted→Rx,wpAny_getItem_list_neg→Rz,wpAny_isTrue_Compare1→Sj,BindsTo→Sm,Keyword→Sn,exec_Assign_Name_used→So,firstArgMember→Sr,wpAny_notOrdered_dict→Su,wpAny_isOneOf_keyiter→Sv,wpAny_typeLookup_tail→Sz,GenState→Td,wpAny_loadName_local→Te,callWith→Tg,typeIs_str→Th,PlainAttrs→Ti,wpAny_newFunctionEnv→Tn,wpAny_check_new_subT→Tq,codeAny_exc_new_subT→Tr,seq_tuple_add→Ua,wpAny_handled→Uc,wpAny_loadName_cell→Uh,inplaceOp→Uu,PassesOwn→Uv,wpAny_nsSet1→Uy,concat_meets→Vb,eqIsQuiet→Vj,wpAny_sequenceKey→Vq,wpAny_pyIter_list→Vs,wpAny_pyIter_strU→Vu,wpAny_pyIter_enum→Vv,eqIsQuiet_byValue→We,wpAny_throw→Wi,entryFor→Ws,wpAny_Name→Xa,wpAny_load→Xb,typeIs_int→Xg,call→Xi,closureFor→Xj,refuseLoop→Xp,getAttr→Xr,setAttr→Xs
open PySem.Around renaming under_plainId→Ke,under→Qu
open PySem.AutoSeq1 renaming list_insert_list_int_val_1→Lv,wpAny_loadPart'→Ob
open PySem.Builtin.Dict renaming showsAll→Nd
open PySem.Builtin.Dict_items renaming ownsTuple→Jt,ownedTupleFields→Lx
open PySem.Builtin.List renaming listItems→He,listTooLong→Lh,listFitsIndex→Qa,listSameRef→Qy
open PySem.Builtin.Slice renaming slicePlaces→Ic,sliceAdjust→Qj
open PySem.Builtin.SmallTypes renaming nextOf→Ql
open PySem.Builtin.Str renaming occurrences→Gy,strSliceIndices→Jx
open PySem.Builtin.Tuple renaming tupleHashOf→Ig,tupleItemsOf→Ki
open PySem.Calls renaming callWith_builtin→Mq,spliced_cons→Pd,Name_function_global→Pq,evalArgs_plain→Tj,spliced_nil→Vo
open PySem.Code renaming quiet_builtin→Jc,isFrame→Va
open PySem.F renaming plainAttrs_list→Bi,slot_list_append→Ce,type_list_append→Cf,plainAttrs_str→Ek,slot_dict_itemiterator_next→Fi,slot_dict_keyiterator_next→Ft,slot_str_lower→Hf,type_str_lower→Hg,slot_list_extend→Iq,type_list_extend→Ir,plain_extend_loop→Iw,slot_enumerate_next→Jp,slot_list_reversed→Kc,excBase_ValueError→Km,args_tuple_add_2→Lg,entry_tuple_add→Ly,slot_tuple_hash→Mh,slot_tuple_add→Mo,args_dict_itemiterator_next_1→Nk,slot_zip_next→Nv,args_dict_keyiterator_next_1→Ny,entry_dict_itemiterator_next→Oa,slot_tuple_eq→Of,entry_dict_keyiterator_next→Og,excAttr_ValueError→Pz,slot_dict_getitem→Qm,slot_list_insert→Rc,type_list_insert→Rf,args_enumerate_next_1→Rh,plainAttrs_dict→Rk,entry_enumerate_next→Sb,slot_dict_items_iter→Sh,entry_bexc_ga→Ta,slot_dict_get→Tb,args_list_insert_3→Tp,args_bexc_ga→Tt,entry_list_insert→Ul,entry_extend_loop→Uo,slot_list_insert→Ve,args_zip_next_1→Vt,plain_list_iadd→Wb,entry_zip_next→Wq,slot_dict_iter→Wt,slot_int_rmul→Xh
open PySem.Heap renaming get?_push_of_some→Ae,lt_size→Al,get?_push_size→An,get?_update_other→Bu,get?_update_self→Er,SameBut→Fx,size_push→Gd,get?_none_of_le→Ib,MadeExcOf→Ov,ExtBut→Sa,get?_push_at→Wc
open PySem.Heap.Ns1 renaming of_empty→Vn
open PySem.Heap.SameBut renaming update→Iv,refl→Qf
open PySem.NumText renaming digitsVal→Fb
open PySem.Obj renaming data_mapFields→Fm,mapFields→Fo,mapSeq→Fq,isFreed_of_fields→Js,cls_mapFields→Vx
open PySem.Paired renaming length→Ht,snoc→Wh
open PySem.PassesOwn renaming never→Dc
open PySem.PyData renaming canLayAll0→Bv,canLay0→Dk,strOk→Dm,eqv→Fy,depthAll→Gg,canLayAll0→Ia,eqvAll→Ja,depthAll→Jh,canLay0→Jv,shownAll→Kw,depth→Oe,keyHash→Ow,depth→Pj,showableAll→Pl,hasDictAll→Wd
open PySem.SeqAt renaming EqAt→En,notIn_tupleAt→Ui,eqAt_reads→Ww
open PySem.SeqAt.EqAt renaming str_str→Pe,int_str→Ur,str_int→Ut,same→Xf
open PySem.Str renaming ofString→Ab,empty→Lb,join→To
open PySem.StrLaws renaming sliceText→Gr,sliceText_nat→Ss
open PySem.Txt renaming lower→Ji,slice→Pf,join→Wo,slice→Xk,rjustF→Xl
open PySem.W renaming Frag→Ah,findIn→Bq,kitAny→Dz,emptyDict→Ei,keepIn→Ff,kitOne→Fg,kia_one→Gw,nsIn→Gz,fnOf→Il,looks_findIn→Jn,instObj→Kz,InstAt→La,callWith_K→Le,codeIn→Lf,hasDictIn→Mm,specialIn→Mn,clsIn→Nf,mg_of→Ni,Frag→Np,looks_clsIn→Pr,plainGet→Qi,methodCall_KW→Rl,mroIn→Sl,plainGet_of→Tz,looks_mroIn→Ue,takesIn→Uz,check_slot→Vi,plainOver→Wf,set_plain→Wg,lookIn→Wl,cellsFrom_some→Wm,handedIn→Xc,isFn→Xd,Looks→Xu,takerIn→Xw,makesIn→Xx,OpenLaw→Xz,findObj→Yb
open PySem.W.Fast renaming te10110043849684766642→Lp,te14364793385576792824→Lq,te4187177175401517315→Mb,te5923862056798008813→Mc
open PySem.W.Looks renaming here→Ux
open PySem.Within renaming cons→Qc
noncomputable abbrev Z0:List PySem.Str:=["template", "at"]
noncomputable abbrev Z1:List PySem.Str:=["_law_script", "_law_feed", "_law_k", "_law_blind", "_law_rows_here", "_law_hall", "_law_rules", "_law_at", "_law_due", "_law_rule", "_law_texts", "_law_first", "_law_things"]
noncomputable abbrev Z2:List PySem.Str:=["template", "at", "gap"]
noncomputable abbrev Z3:List PySem.Str:=["template", "at", "signs"]
noncomputable abbrev Z4:List PySem.Str:=["piece", "kind", "gap_signs"]
noncomputable abbrev Z5:List PySem.Str:=["_law_feed", "_law_many"]
noncomputable abbrev Z6:List PySem.Str:=["_law_feed", "_law_signs", "_law_size"]
noncomputable abbrev Z7:List PySem.Str:=["_law_feed", "_law_blind", "_law_most"]
noncomputable abbrev Z8:List PySem.Str:=["_law_hall", "_law_at", "_law_rules"]
noncomputable abbrev Z9:List PySem.Str:=["self", "path"]
noncomputable abbrev Za:List PySem.Str:=["path", "mark", "rules", "counted"]
noncomputable abbrev Zb:List PySem.Str:=["template", "at", "signs", "most"]
noncomputable abbrev Zc:List PySem.Str:=["self", "at"]
noncomputable abbrev Zd:List PySem.Str:=["piece", "gap_signs"]
noncomputable abbrev Ze:List PySem.Str:=["_law_feed"]
noncomputable abbrev Zf:List PySem.Str:=["pattern"]
noncomputable abbrev Zg:List PySem.Str:=["_law_name", "_law_blind"]
noncomputable abbrev Zh:List PySem.Str:=["piece", "gap_texts", "count"]
noncomputable abbrev Zi:List PySem.Str:=["self", "path", "texts"]
noncomputable abbrev Zj:List PySem.Str:=["hall", "path", "texts"]
noncomputable abbrev Zk:List PySem.Str:=["self", "one", "other"]
noncomputable abbrev Zl:List PySem.Str:=["part", "name", "later"]
noncomputable abbrev Zn:List PySem.Str:=["rule", "name", "count"]
noncomputable abbrev Zo:List PySem.Str:=["self", "rows", "blind"]
noncomputable abbrev Zq:List PySem.Str:=["hall", "path", "rules"]
noncomputable abbrev Zs:List PySem.Str:=["gap_sign", "text"]
noncomputable abbrev Zu:List PySem.Str:=["text", "signs"]
noncomputable abbrev Zv:List PySem.Str:=["text", "width"]
noncomputable abbrev Zw:List PySem.Str:=["template"]
noncomputable abbrev Zx:List PySem.Str:=["pattern", "name"]
noncomputable abbrev Zy:List PySem.Str:=["sort", "what"]
noncomputable abbrev Zz:List PySem.Str:=["one", "other"]
noncomputable abbrev Y0:List PySem.Str:=["rule", "mark"]
noncomputable abbrev Y1:List PySem.Str:=["text"]
noncomputable abbrev Y2:List PySem.Str:=["hall", "drawer"]
noncomputable abbrev Y3:List PySem.Str:=["_law_path", "_law_mark", "_law_rule"]
noncomputable abbrev Y4:List PySem.Str:=["parts", "name"]
noncomputable abbrev Y5:List PySem.Str:=["piece", "text"]
noncomputable abbrev Y6:List PySem.Str:=["self", "place"]
noncomputable abbrev Y7:List PySem.Str:=["part", "text"]
noncomputable abbrev Y8:List PySem.Str:=["rule"]
namespace HD
open PySem PySem.W PyProof.Rows
def end0:(∃f,endAt 0 t=some f)/\through t=true\/endAt 0 t=none/\through t=false:=by
 unfold endAt through;obtain⟨g,h,j,stack⟩:=t;cases stack with
 |cons a r=>exact .inr ⟨by cases g<;>rfl,rfl⟩
 |nil =>
  cases g with
  |pure f =>
   cases f with
   |done f=>simp_all
   |_=>simp_all
  |_=>exact .inr ⟨rfl,rfl⟩
theorem z5e{tb:String->Option Du}{p:Ak}{w:World}{g:Nat}{j:Option Value}:∀{n:Nat} {s s':Ag} {t:Thread} {f:Flow} {c:Code} {q:Pos},segRun tb p w g j 0 n s t=some (f,s',c,q)->topRun tb p w g j n s t=some s'
 |0,_,_,_,_,_,_,h=>by cases h
 |n+1,s,s',t,f,c,q,h=>by
  unfold segRun at h;unfold topRun;rcases end0 (t:=t) with⟨⟨u,e⟩,o⟩|⟨e,o⟩
  ·rw[e] at h;rw[o];cases h;rfl
  ·rw[e] at h;rw[o];dsimp only at h ⊢;cases ok:stepOk g j t with
   |false=>rw[ok] at h;cases h
   |true =>
    rw[ok] at h;dsimp only at h ⊢;cases st:step (denote tb) p w s t with
    |go s1 t1=>rw[st] at h;exact z5e h
    |halt _ _=>rw[st] at h;cases h
noncomputable def mkT(l:List Obj):BT:=(l.foldl (λ(a:BT×Nat) o=>(a.1.ins a.2 o,a.2+1)) (BT.nil,0)).1
noncomputable def bootT (P:Params) (os:Lo):SharedT:=⟨mkT (boot_heap P).objs.toList,11,(boot_heap P).life,#[],boot_drawn,boot_toks,os⟩
def x1u(P:Params)(os:Lo):(bootT P os).abs=⟨boot_heap P,#[],boot_drawn,boot_toks,os⟩:=by kernel_rfl
def z7r(P:Params):((boot_heap P).isNs Ci&&(#[]:Array Td).size==0,(boot_heap P).objs.size,(boot_heap P).nsMap Ci "__annotations__")=(true,11,some (.ref 6)):=by kernel_rfl
def left{Yf:Ag->α}{Ya:World->α}(e:opening p=plainProg p.main.scope.names)(g:Nat.ble 600 N=true)(f:∀s,fenceModules? p s=some s)(h:∀(w:World) (os:Lo),(segRunT Pa p w 11 (some (.ref 6)) 0 N (bootT w.params os) (topStub p)).map (λr=>((staticsOk (Fu p.main.body) (boot_heap w.params) r.2.1.abs.heap&&namesBound p r.2.1.abs.heap&&gensDone r.2.1.abs&&laidKept (boot_heap w.params) r.2.1.abs.heap),
   openSeen q loose (Fu p.main.body) Xt true r.2.1.abs,Yf r.2.1.abs))=some (true,openGood q loose,Ya w)):LeftO p q loose Xt Yf Ya N:=λw=>by
 obtain⟨⟨j,o,d,k,os⟩,u,v⟩:=Ck.mp (boot_open e g f w);obtain⟨rfl,rfl,rfl,rfl⟩:j=boot_heap w.params/\o=#[]/\d=boot_drawn/\k=boot_toks:=by simpa using v
 obtain⟨B,C,D⟩:_/\_/\_:=by simpa only[Prod.mk.injEq] using z7r w.params
 obtain⟨⟨fl,st,c,J⟩,E,F⟩:=Ck.mp (h w os);obtain⟨G,H,I⟩:_/\_/\_:=by simpa only[Prod.mk.injEq] using F
 have r:=z5e (segRun_of E);rw[x1u] at r;have t:topFrom Pa p w N ⟨boot_heap w.params,#[],boot_drawn,boot_toks,os⟩=some st.abs:=by
  unfold topFrom;rw[B,C,D,r];show(match staticsOk (Fu p.main.body) (boot_heap w.params) st.abs.heap&&namesBound p st.abs.heap&&gensDone st.abs&&laidKept (boot_heap w.params) st.abs.heap with|true=>_|false=>_)=_;rw[G]
 unfold openEnds;rw[u];show(topFrom Pa p w N _).map _=_;rw[t];exact congrArg some (Wk H I)
def left2(g:String){Yf:Ag->α}{Ya:World->α}(e:opening p=plainProg p.main.scope.names)(j:Nat.ble 600 N=true)(f:∀s,fenceModules? p s=some s)(h:∀(b:Bool) (w:World) (os:Lo),(segRunT Pa p (w.withFollow g b) 11 (some (.ref 6)) 0 N (bootT (w.withFollow g b).params os) (topStub p)).map (λr=>((staticsOk (Fu p.main.body) (boot_heap (w.withFollow g b).params) r.2.1.abs.heap&&namesBound p r.2.1.abs.heap&&gensDone r.2.1.abs&&laidKept (boot_heap (w.withFollow g b).params) r.2.1.abs.heap),
   openSeen q loose (Fu p.main.body) Xt true r.2.1.abs,Yf r.2.1.abs))=some (true,openGood q loose,Ya (w.withFollow g b))):LeftO p q loose Xt Yf Ya N :=
 left e j f λw os=>by
  have:=h (w.params.followText g) w os
  rwa [World.withFollow_self w g] at this
end HD
section
namespace K
open PySem PySem.W PyProof.Rows
noncomputable abbrev loose:List Str:=[Ab "_wall",Ab "HallError",Ab "NoPattern",Ab "NoTemplate",Ab "NoHall",Ab "NoDrawer",Ab "NoWish",Ab "Meets",Ab "NoPlace",Ab "NoRule",Ab "FIGURES",Ab "LETTERS",Ab "NAME_SIGNS",Ab "MOST_SIGNS",Ab "MOST_NAMES",Ab "all_of",Ab "is_name",Ab "alike",Ab "GAP_SIGNS",Ab "MOST_GAPS",Ab "ask_signs",Ab "text_parts",Ab "parts_of",Ab "FROM_ONE",Ab "FROM_TWO",Ab "MOST_FIGURES",Ab "CASES",Ab "asked",Ab "end_of",Ab "read_count",Ab "read_noughts",Ab "read_more",Ab "read_gap",Ab "read_mark",Ab "read_into",Ab "read_text",Ab "read_piece",Ab "pieces_of",Ab "KINDS",Ab "OF_A_GAP",Ab "MOST_START",Ab "ask_gap",Ab "ask_piece",Ab "ask_rule",Ab "gap_takes",Ab "takes",Ab "furthest_ends",Ab "ends_of_parts",Ab "reading",Ab "with_noughts",Ab "gap_text",Ab "piece_text",Ab "tells",Ab "rows_beneath",Ab "is_for",Ab "told_texts",Ab "place_of",Ab "wishes_of",Ab "Hall",Ab "_law_draw",Ab "_law_name_signs",Ab "_law_other_signs",Ab "_law_text",Ab "_law_a_name",Ab "_law_fold",Ab "_law_rows",Ab "_law_bad_rule",Ab "_law_last_rule",Ab "_law_told_of"]
noncomputable abbrev vw:Ak:=view PySem.Challenge.pw_renamehall_k34_sowing_refused [79]
noncomputable abbrev xt(s:Ag):Bool:=xlAt vw [] s&&recOk [] s
end K
open PySem PySem.W PyProof.Rows
local macro_rules | `(tactic| o_head $H) => `(tactic| (
  refine holds_open (q := K.vw) (loose := K.loose) (Xt := K.xt) (XP := XL K.vw []) (Yf := Hook.obs $H) (Ya := Hook.val $H) (YP := Hook.says $H) (N := 60000) ?hl (Hook.of $H) (Hook.keeps $H) (λs e => xl_of s (Jy.mp e).1) XL.keeps
    (by rfl) (by rfl) (by rfl) (λs e => recFacts_of (Jy.mp e).2) (by rfl) (by first | assumption | decide +kernel) (by decide +kernel) ⟨rfl, rfl, rfl, rfl, rfl, by decide +kernel⟩ ?hw ?hc))
set_option maxRecDepth 100000 in
set_option maxHeartbeats 0 in
theorem K.pre(h:False):PySem.Challenge.rw_renamehall_k34_sowing_refused.Holds:=by w_on;o_law;k_head;all_goals exact h.elim
def K.q0:(Nat.ble PySem.Challenge.pw_renamehall_k34_sowing_refused.main.body.length 100000)=true:=by k_qdec
noncomputable abbrev K.as:List Nat:=[2,3,15,17,18,20,21,22,29,30,31,32,35,42,44,45,47,48,49,50,51,54,61,63,64,66,67,68,69,70,73,80,82,83,85,86,87,88,89,92,99,101,102,104,105,106,107,108,111,118,120,121,123,124,125,126,127,130,137,139,140,142,143,144,145,146,149,156,158,159,161,162,163,164,165,168,175,176,177,180,183,184,185,187,188,190,191,192,194,195,197,198,199,201,202,204,205,206,208,209,211,212,213,215,216,218,219,220,221,223,224,226,227,228,230,231,233,234,235,237,238,240,241,242,244,245,247,248,249,251,252,254,255,256,258,259,261,262,263,265,266,268,269,270,272,273,275,276,277,279,280,282,283,284,286,287,289,290,291,293,294,296,297,298,299,300,302,303,305,306,307,309,310,312,313,314,317,318,319,321,322,324,325,326,328,329,331,332,333,335,336,338,339,340,342,343,345,346,347,349,350,352,353,354,356,357,359,360,361,363,364,366,367,368,370,371,373,374,375,377,378,380,381,382,384,385,387,388,389,391,392,394,395,396,398,399,401,402,403,406,407,408,410,411,413,414,422,423,426,427,428,430,431,433,434,435,437,438,440,441,442,444,445,447,448,449,451,452,454,455,456,458,459,461,462,463,465,466,468,469,470,472,473,475,476,477,479,480,482,483,484,486,487,489,490,491,493,494,496,497,498,500,501,503,504,505,507,508,510,511,512,513,514,515,516,519,521,522,524,525,526,528,529,531,532,540,543,544,545,547,548,550,551,552,554,555,557,558,559,561,562,564,565,566,568,569,571,572,573,575,576,578,579,580,582,583,585,586,587,590,591]
set_option maxRecDepth 100000 in
set_option maxHeartbeats 0 in
theorem K.half0(w:World)(os:Lo):(segRunT Pa PySem.Challenge.pw_renamehall_k34_sowing_refused (w.withFollow "special-get-raises" false) 11 (some (.ref 6)) 0 60000 (HD.bootT (w.withFollow "special-get-raises" false).params os) (topStub PySem.Challenge.pw_renamehall_k34_sowing_refused)).map (λr=>((staticsOk (Fu PySem.Challenge.pw_renamehall_k34_sowing_refused.main.body) (boot_heap (w.withFollow "special-get-raises" false).params) r.2.1.abs.heap&&namesBound PySem.Challenge.pw_renamehall_k34_sowing_refused r.2.1.abs.heap&&gensDone r.2.1.abs&&laidKept (boot_heap (w.withFollow "special-get-raises" false).params) r.2.1.abs.heap),openSeen K.vw K.loose (Fu PySem.Challenge.pw_renamehall_k34_sowing_refused.main.body) K.xt true r.2.1.abs,(kHook K.pre.heap_39 K.as (λ_=>by kernel_rfl)).obs r.2.1.abs))=some (true,openGood K.vw K.loose,(kHook K.pre.heap_39 K.as (λ_=>by kernel_rfl)).val (w.withFollow "special-get-raises" false)):=by
 unfold K.xt K.vw;rw[Lp,Mb,Lq,Mc,PySem.W.Fast.te4957614176200007134];kernel_rfl
set_option maxRecDepth 100000 in
set_option maxHeartbeats 0 in
theorem K.half1(w:World)(os:Lo):(segRunT Pa PySem.Challenge.pw_renamehall_k34_sowing_refused (w.withFollow "special-get-raises" true) 11 (some (.ref 6)) 0 60000 (HD.bootT (w.withFollow "special-get-raises" true).params os) (topStub PySem.Challenge.pw_renamehall_k34_sowing_refused)).map (λr=>((staticsOk (Fu PySem.Challenge.pw_renamehall_k34_sowing_refused.main.body) (boot_heap (w.withFollow "special-get-raises" true).params) r.2.1.abs.heap&&namesBound PySem.Challenge.pw_renamehall_k34_sowing_refused r.2.1.abs.heap&&gensDone r.2.1.abs&&laidKept (boot_heap (w.withFollow "special-get-raises" true).params) r.2.1.abs.heap),openSeen K.vw K.loose (Fu PySem.Challenge.pw_renamehall_k34_sowing_refused.main.body) K.xt true r.2.1.abs,(kHook K.pre.heap_39 K.as (λ_=>by kernel_rfl)).obs r.2.1.abs))=some (true,openGood K.vw K.loose,(kHook K.pre.heap_39 K.as (λ_=>by kernel_rfl)).val (w.withFollow "special-get-raises" true)):=by
 unfold K.xt K.vw;rw[Lp,Mb,Lq,Mc,PySem.W.Fast.te4957614176200007134];kernel_rfl
end
set_option Elab.async false
set_option linter.all false
set_option maxRecDepth 100000
namespace L2
open PySem PySem.Spec PyProof.Rows
noncomputable abbrev Key:=Sum Int Str
noncomputable def keyIs:Key->Value->Bool
 |.inl k,v=>Value.isInt k v
 |.inr x,v=>Value.isStrOf x v
noncomputable def keyH(w:World):Key->Int
 |.inl k=>hashInt k
 |.inr x=>hashStr w x
theorem q1f:∀{k:Key} {v:Value},keyIs k v=true->(∃i t,k=Sum.inl i/\v=Value.int i t)\/(∃x t,k=Sum.inr x/\v=Value.str x t)
 |.inl i,v,h=>by
  obtain⟨t,e⟩:=Value.isInt_shape (k:=i) (v:=v) h;exact .inl ⟨i,t,rfl,e⟩
 |.inr x,v,h=>by
  obtain⟨t,e⟩:=Value.isStrOf_shape h;exact .inr ⟨x,t,rfl,e⟩
def z7s(i:Int)(t:Tok):keyIs (.inl i) (.int i t)=true:=by simp[keyIs,Value.isInt]
def q6z(x:Str)(t:Tok):keyIs (.inr x) (.str x t)=true:=by simp[keyIs,Value.isStrOf]
def key_ll(a b:Int):decide ((Sum.inl a:Key)=Sum.inl b)=(a==b):=by grind
def key_rr(a b:Str):decide ((Sum.inr a:Key)=Sum.inr b)=decide (a=b):=by grind
def key_lr(a:Int)(b:Str):decide ((Sum.inl a:Key)=Sum.inr b)=false:=decide_eq_false (λq=>nomatch q)
def key_rl(a:Str)(b:Int):decide ((Sum.inr a:Key)=Sum.inl b)=false:=decide_eq_false (λq=>nomatch q)
noncomputable def mixKind(prog:Ak)(w:World):PySem.KeyKind prog w Key where
 is:=keyIs
 hash:=keyH w
 inj:=λv a b ha hb=>by
  rcases q1f ha with⟨i,t,rfl,rfl⟩|⟨x,t,rfl,rfl⟩
  ·rcases q1f hb with⟨j,u,rfl,e⟩|⟨y,u,rfl,e⟩
   ·injection e with e1 _;rw[e1]
   ·exact nomatch e
  ·rcases q1f hb with⟨j,u,rfl,e⟩|⟨y,u,rfl,e⟩
   ·exact nomatch e
   ·injection e with e1 _;rw[e1]
 byValue:=λk v h=>by
  rcases q1f h with⟨i,t,rfl,rfl⟩|⟨x,t,rfl,rfl⟩<;>rfl
 pyHash:=λhv h=>by
  rcases q1f hv with⟨i,t,rfl,rfl⟩|⟨x,t,rfl,rfl⟩
  ·exact wpAny_pyHash_int h
  ·exact wpAny_pyHash_str h
 eqBool:=λhu hv h=>by
  rcases q1f hu with⟨i,t,rfl,rfl⟩|⟨x,t,rfl,rfl⟩
  ·rcases q1f hv with⟨j,u,rfl,rfl⟩|⟨y,u,rfl,rfl⟩
   ·rw[key_ll] at h;exact wpAny_eqBool_int h
   ·rw[key_lr] at h;exact Ur i t y u _ _ _ _ h
  ·rcases q1f hv with⟨j,u,rfl,rfl⟩|⟨y,u,rfl,rfl⟩
   ·rw[key_rl] at h;exact Ut x t j u _ _ _ _ h
   ·rw[key_rr] at h;exact wpAny_eqBool_str h
 «strs» := λk x t v h=>by
  rcases q1f h with⟨i,u,rfl,e⟩|⟨y,u,rfl,e⟩
  ·exact nomatch e
  ·injection e with e1 _
   subst e1
   cases v<;>rfl
def z3r(prog:Ak)(w:World)(i:Int)(t:Tok):(mixKind prog w).is (.inl i) (.int i t)=true:=z7s i t
def z3s(prog:Ak)(w:World)(x:Str)(t:Tok):(mixKind prog w).is (.inr x) (.str x t)=true:=q6z x t
inductive V where
 |non|bl (b:Bool)|int (i:Int)|str (x:Str)|byt (b:Array UInt8)|flt (b:UInt64)|ref (a:Addr)|ty (n:String)
 deriving DecidableEq
noncomputable def RelV:V->Value->Prop
 |.non,u=>u=Value.none
 |.bl b,u=>u=Value.bool b
 |.int i,u=>∃t,u=Value.int i t
 |.str x,u=>∃t,u=Value.str x t
 |.byt b,u=>∃t,u=Value.bytes b t
 |.flt b,u=>∃t,u=Value.float b t
 |.ref a,u=>u=Value.ref a
 |.ty n,u=>u=Value.type n
noncomputable abbrev Vals:List V->List Value->Prop:=Hw RelV
def Vals.length(r:Vals xs us):xs.length=us.length:=Ht r
theorem Vals.get:∀{xs:List V} {us:List Value} {i:Nat} {x:V},Vals xs us->xs[i]?=some x->∃u,us[i]?=some u/\RelV x u
 |_,_,_,_,.nil,e=>by simp at e
 |_,_,0,_,.cons r _,e=>by simp at e;subst e;exact⟨_,rfl,r⟩
 |_,_,i+1,x,.cons _ t,e=>by
  obtain⟨u,f,g⟩:=Vals.get (i:=i) (x:=x) t (by simpa using e);exact⟨u,by simpa using f,g⟩
theorem Vals.set{x:V}{u:Value}(r:RelV x u):∀{xs:List V} {us:List Value} (i:Nat),Vals xs us->Vals (xs.set i x) (us.set i u)
 |_,_,_,.nil=>.nil
 |_,_,0,.cons _ t=>.cons r t
 |_,_,i+1,.cons q t=>.cons q (Vals.set r i t)
def Vals.append{xs ys:List V}{f g:List Value}(h:Vals xs f)(u:Vals ys g):Vals (xs++ys) (f++g):=by
 induction h with
 |nil=>exact u
 |cons r _ ih=>exact .cons r ih
theorem Vals.take:∀{xs:List V} {us:List Value} (n:Nat),Vals xs us->Vals (xs.take n) (us.take n)
 |_,_,0,_=>.nil
 |_,_,_+1,.nil=>.nil
 |_,_,n+1,.cons r t=>.cons r (Vals.take n t)
theorem Vals.drop:∀{xs:List V} {us:List Value} (n:Nat),Vals xs us->Vals (xs.drop n) (us.drop n)
 |_,_,0,r=>r
 |_,_,_+1,.nil=>.nil
 |_,_,n+1,.cons _ t=>Vals.drop n t
noncomputable def RelO:Option V->Option Value->Prop
 |some v,some u=>RelV v u
 |none,none=>True
 |_,_=>False
noncomputable def KV{κ:Type}:List (κ×V)->List (κ×Value)->Prop:=Hw λ(p:κ×V) (q:κ×Value)=>p.1=q.1/\RelV p.2 q.2
noncomputable def kV:Key->V
 |.inl i=>.int i
 |.inr x=>.str x
inductive HO where
 |lst (xs:List V)
 |tup (xs:List V)
 |dK (kvs:List (Key×V))|dT (kvs:List (List Key×V))
 |set (S:Int->Bool) (n:Nat)
 |ins (C dx:Addr) (fs:List (Str×V))
 |own (x:Addr)
 |xd (fs:List (Str×V))
 |met (f x:Addr)
 |rng (lo hi:Int)
 |frz (o:Obj) (u:HO)
 |tbl (ps:Array Value)
 |ext (φ:Heap->Prop)
noncomputable abbrev Hp:=Addr->Option HO
noncomputable def upd(H:Hp)(a:Addr)(o:HO):Hp:=λb=>if b=a then some o else H b
def q0d:upd H a o a=some o:=by unfold upd;rw[if_pos rfl]
def q0f(h:b≠a):upd H a o b=H b:=by unfold upd;rw[if_neg h]
def x5m:upd (upd H a o) a u=upd H a u:=by
 funext b;unfold upd;split<;>rfl
def x1v{H:Hp}(h:H a=some o)(h':H b=some u)(d:o≠u):a≠b:=by grind
def q0t{H:Hp}(h:H a=some o)(h':H b=none):a≠b:=by
 intro e;subst e;rw[h] at h';cases h'
section
variable(P:Ak)(w:World)
noncomputable def ObjOk(H:Hp)(h:Heap)(a:Addr):HO->Prop
 |.lst xs=>xs.length<=sizeLine/\∃(its:List Value) (n:Nat),Vals xs its/\h.get? a=some { cls:=.type "list",data:=.seq its.toArray n }
 |.tup xs=>xs.length<=sizeLine/\∃its:List Value,Vals xs its/\IsTup h a its.toArray
 |.dK kvs=>kvs.length<=sizeLine/\(a==Dp)=false/\∃vs,KV kvs vs/\h.DictOf (mixKind P w) a vs
 |.dT kvs=>kvs.length<=sizeLine/\(a==Dp)=false/\∃xs:List (List Key×Addr×Value),
   Hw (λ(p:List Key×V) (q:List Key×Addr×Value)=>p.1=q.1/\H q.2.1=some (.tup (p.1.map kV))/\RelV p.2 q.2.2) kvs xs /\
   ∃o es ep,h.get? a=some o/\o.ExactDict/\o.data=.dict es ep/\es.toList=xs.map (Qh (Ky (mixKind P w)))/\(xs.map (·.1)).Nodup
 |.set S n=>h.SetOf (intKind P w) a S n
 |.ins C dx fs=>H dx=some (.own a)/\fs.length<=1000/\dx≠a/\h.get? a=some (Kz C dx) /\
   ∃mA,h.Ns1 dx mA/\(∀f,RelO (fs.lookup f) (mA f))/\Nl mA (fs.map (·.1))
 |.own _=>∃o,h.get? a=some o
 |.xd fs=>∃mA,h.Ns1 a mA/\∀f,RelO (fs.lookup f) (mA f)
 |.rng lo hi=>∃t u v,h.get? a=some { cls:=.type "range",data:=.fields #[.int lo t,.int hi u,.int 1 v] }
 |.frz o u=>h.get? a=some o/\ObjOk H h a u
 |.tbl ps=>h.get? a=some { cls:=.none,data:=.fields ps }
 |.met f x=>h.get? a=some (W.methodObj (.ref f) (.ref x))
 |.ext φ=>φ h/\(∃o,h.get? a=some o)/\∀h1 h2:Heap,φ h1->(∀o,h1.get? a=some o->h2.get? a=some o)->φ h2
noncomputable def HOk(H:Hp)(h:Heap):Prop:=∀a o,H a=some o->ObjOk P w H h a o
end
section
variable{P:Ak}{w:World}{H H':Hp}{h h':Heap}{a:Addr}{o:HO}
def ObjOk.lt(x:ObjOk P w H h a o):a<h.objs.size:=by
 cases o with
 |lst xs=>obtain⟨_,_,_,_,e⟩:=x;exact Al e
 |tup xs=>obtain⟨_,_,_,p⟩:=x;exact p.lt
 |dK kvs=>obtain⟨_,_,_,_,o,_,_,e,_⟩:=x;exact Al e
 |dT kvs=>obtain⟨_,_,_,_,o,_,_,e,_⟩:=x;exact Al e
 |set S n=>obtain⟨o,_,_,_,e,_⟩:=x;exact Al e
 |ins C dx fs=>obtain⟨_,_,_,e,_⟩:=x;exact Al e
 |own y=>obtain⟨_,e⟩:=x;exact Al e
 |xd fs=>obtain⟨_,⟨_,_,_,e,_⟩,_⟩:=x;exact Al e
 |rng lo hi=>obtain⟨_,_,_,e⟩:=x;exact Al e
 |frz ob u=>obtain⟨e,_⟩:=x;exact Al e
 |tbl ps=>exact Al (show h.get? a=some _ from x)
 |met f y=>exact Al (show h.get? a=some _ from x)
 |ext φ=>obtain⟨_,⟨_,e⟩,_⟩:=x;exact Al e
def Hw.mapP{j o:Type}{F G:j->o->Prop}{f:List j}{g:List o}(h:Hw F f g)(k:∀a b,F a b->G a b):Hw G f g:=by
 induction h with
 |nil=>exact .nil
 |cons r _ ih=>exact .cons (k _ _ r) ih
def ObjOk.stay(x:ObjOk P w H h a o)(k:∀b u,(b=a\/H b=some (.own a))->h.get? b=some u->h'.get? b=some u)(F:∀b,H b=some (.own a)->H' b=some (.own a))(G:∀b xs,H b=some (.tup xs)->H' b=some (.tup xs)):ObjOk P w H' h' a o:=by
 induction o with
 |lst xs=>obtain⟨z,B,n,r,e⟩:=x;exact⟨z,B,n,r,k _ _ (.inl rfl) e⟩
 |tup xs=>obtain⟨z,B,r,g,e,c⟩:=x;exact⟨z,B,r,g,k _ _ (.inl rfl) e,c⟩
 |dK kvs=>obtain⟨z,y,vs,r,g,j,s,e,c⟩:=x;exact⟨z,y,vs,r,g,j,s,k _ _ (.inl rfl) e,c⟩
 |dT kvs =>
  obtain⟨z,y,xs,r,g,j,s,e,c⟩:=x;exact⟨z,y,xs,Hw.mapP r λp q z=>⟨z.1,G _ _ z.2.1,z.2.2⟩,g,j,s,k _ _ (.inl rfl) e,c⟩
 |set S n=>obtain⟨g,j,s,t,e,c⟩:=x;exact⟨g,j,s,t,k _ _ (.inl rfl) e,c⟩
 |ins C dx fs =>
  obtain⟨d,z,ne,e,D,⟨E,j,s,I,c⟩,r⟩:=x;exact⟨F _ d,z,ne,k _ _ (.inl rfl) e,D,⟨E,j,s,k _ _ (.inr d) I,c⟩,r⟩
 |own y=>obtain⟨g,e⟩:=x;exact⟨g,k _ _ (.inl rfl) e⟩
 |xd fs=>obtain⟨D,⟨E,j,s,e,c⟩,r⟩:=x;exact⟨D,⟨E,j,s,k _ _ (.inl rfl) e,c⟩,r⟩
 |rng lo hi=>obtain⟨t,u,v,e⟩:=x;exact⟨t,u,v,k _ _ (.inl rfl) e⟩
 |frz g u ih=>obtain⟨e,q⟩:=x;exact⟨k _ _ (.inl rfl) e,ih q⟩
 |tbl ps =>
  have e:h.get? a=some { cls:=.none,data:=.fields ps }:=x;exact k a _ (.inl rfl) e
 |met f y =>
  have e:=x;exact k a _ (.inl rfl) e
 |ext φ=>obtain⟨p,⟨o,e⟩,st⟩:=x;exact⟨st _ _ p λo q=>k _ _ (.inl rfl) q,⟨o,k _ _ (.inl rfl) e⟩,st⟩
def HOk.lt(x:HOk P w H h)(e:H a=some o):a<h.objs.size:=(x a o e).lt
def HOk.fresh(x:HOk P w H h)(e:h.objs.size<=a):H a=none:=by
 cases q:H a with
 |none=>rfl
 |some u=>exact absurd (Bo (x.lt q) e) (Gu _)
def HOk.kept(x:HOk P w H h)(k:∀b u,h.get? b=some u->h'.get? b=some u):HOk P w H h':=λa o e =>
 (x a o e).stay (λb u _ q=>k b u q) (λ_ q=>q) λ_ _ q=>q
def HOk.laid(x:HOk P w H h)(k:∀b u,h.get? b=some u->h'.get? b=some u)(g:h.objs.size<=a)(new:ObjOk P w (upd H a o) h' a o):HOk P w (upd H a o) h':=λb u e=>by
 have hn:=x.fresh g;by_cases f:b=a
 ·subst f;rw[q0d] at e;cases e;exact new
 ·rw[q0f f] at e;exact(x b u e).stay (λc v _ q=>k c v q) (λc q=>by rw[q0f (q0t q hn)];exact q) λc j q=>by rw[q0f (q0t q hn)];exact q
end
noncomputable def Rd(H:Hp)(a:Addr)(u:HO):Prop:=H a=some u\/∃o,H a=some (.frz o u)
def Rd.ok(r:Rd H a u)(x:HOk P w H h):ObjOk P w H h a u:=by
 rcases r with r|⟨o,r⟩
 ·exact x a u r
 ·obtain⟨_,q⟩:=x a _ r;exact q
noncomputable def Mut:Option HO->Prop
 |some (.lst _)=>True
 |some (.dK _)=>True
 |some (.dT _)=>True
 |some (.set _ _)=>True
 |some (.ins _ _ _)=>True
 |some (.ext _)=>True
 |_=>False
section
variable{P:Ak}{w:World}{H:Hp}{h h':Heap}{x e:Addr}{o':HO}
def HOk.write(ok:HOk P w H h)(o:Mut (H x))(E:e=x\/H e=some (.own x))(k:∀b u,b≠e->h.get? b=some u->h'.get? b=some u)(B:∃u,h'.get? e=some u)(new:ObjOk P w (upd H x o') h' x o'):HOk P w (upd H x o') h':=λb u q=>by
 have g:∀c y,H c=some (.own y)->c≠x:=λc y r z=>by subst z;rw[r] at o;exact o
 have j:∀c s,H c=some (.tup s)->c≠x:=λc s r z=>by subst z;rw[r] at o;exact o
 by_cases C:b=x
 ·subst C;rw[q0d] at q;cases q;exact new
 ·rw[q0f C] at q;by_cases f:b=e
  ·have q':H b=some (.own x):=by
    rcases E with z|z
    ·grind
    ·rw[f];exact z
   rw[q] at q';cases q';obtain⟨v,F⟩:=B;exact⟨v,by rw[f];exact F⟩
  ·refine(ok b u q).stay (λc v D r=>k c v ?_ r) (λc r=>by rw[q0f (g c b r)];exact r) λc s r=>by rw[q0f (j c s r)];exact r
   rcases D with rfl|D
   ·exact f
   ·grind
end
structure Un (fs ex:List Addr) (H H':Hp) (h h':Heap):Prop where
 keep:∀b o,h.get? b=some o->H b=none->b∉fs->b∉ex->h'.get? b=some o
 slot:∀b o,h.get? b=some o->H b=none->b∈fs->b∉ex->∃sl,h'.get? b=some { o with slots:=sl }
 free:∀b o,h.get? b=some o->H b=none->b∉ex->H' b=none
 there:∀b o,h.get? b=some o->b∉ex->∃o',h'.get? b=some o'
 tups:∀b xs,H b=some (.tup xs)->H' b=some (.tup xs)
 frzs:∀b o u,H b=some (.frz o u)->H' b=some (.frz o u)
 tbls:∀b ps,H b=some (.tbl ps)->∃more,H' b=some (.tbl (ps++more))
section
variable{fs fs' ex ex':List Addr}{H H1 H2:Hp}{h h1 h2 h':Heap}{a x e:Addr}{o:HO}
def Un.any(u:Un fs ex H H1 h h1)(q:h.get? b=some ob)(n:H b=none)(f:b∉ex):∃j,h1.get? b=some { ob with slots:=j }:=by
 by_cases g:b∈fs
 ·exact u.slot b ob q n g f
 ·exact⟨ob.slots,u.keep b ob q n g f⟩
def Un.kept(k:∀b u,h.get? b=some u->h'.get? b=some u):Un fs ex H H h h' :=
 ⟨λb f q _ _ _=>k b f q,λb f q _ _ _=>⟨f.slots,k b f q⟩,λ_ _ _ n _=>n,λb f q _=>⟨f,k b f q⟩,λ_ _ q=>q,λ_ _ _ q=>q,λ_ g q=>⟨#[],by rw[q];simp⟩⟩
def Un.refl:Un fs ex H H h h:=Un.kept λ_ _ q=>q
def Un.laid(k:∀b u,h.get? b=some u->h'.get? b=some u)(f:h.objs.size<=a)(hn:H a=none):Un fs ex H (upd H a o) h h' where
 keep:=λb u q _ _ _=>k b u q
 slot:=λb u q _ _ _=>⟨u.slots,k b u q⟩
 free:=λb u q n _=>by rw[q0f (Bj (Bo (Al q) f))];exact n
 there:=λb u q _=>⟨u,k b u q⟩
 tups:=λb g q=>by rw[q0f (q0t q hn)];exact q
 frzs:=λb u g q=>by rw[q0f (q0t q hn)];exact q
 tbls:=λb j q=>⟨#[],by rw[q0f (q0t q hn),q];simp⟩
def Un.write(f:Mut (H x))(C:e=x\/H e=some (.own x))(k:∀b u,b≠e->h.get? b=some u->h'.get? b=some u)(g:∃u,h'.get? e=some u):Un fs ex H (upd H x o) h h':=by
 have v:∀b,H b=none->b≠x:=λb n z=>by subst z;rw[n] at f;exact f
 have B:∀b,H b=none->b≠e:=λb n z=>by
  subst z;rcases C with r|r
  ·exact v b n r
  ·rw[n] at r;cases r
 have j:∀b u,H b=some u->¬Mut (some u)->b≠x:=λb u q nm z=>by subst z;rw[q] at f;exact nm f
 refine⟨λb u q n _ _=>k b u (B b n) q,λb u q n _ _=>⟨u.slots,k b u (B b n) q⟩,λb u q n _=>by rw[q0f (v b n)];exact n,λb u q _=>?_,
  λb D q=>by rw[q0f (j b _ q λz=>z)];exact q,λb u D q=>by rw[q0f (j b _ q λz=>z)];exact q,λb E q=>⟨#[],by rw[q0f (j b _ q λz=>z),q];simp⟩⟩
 by_cases s:b=e
 ·subst s;exact g
 ·grind
end
noncomputable def trk(h:Heap)(H:Hp):List Addr:=(List.range h.objs.size).filter λa=>(H a).isSome
noncomputable def hidT(h:Heap)(H:Hp):Heap:=W.hideAll h (trk h H)
def z7t(h:Heap)(H:Hp):(hidT h H).objs.size=h.objs.size:=W.hideAll_size _ _
def x1w(e:h.get? b=some o)(n:H b=none):(hidT h H).get? b=some o :=
 W.hideAll_get _ e λf=>by
  have q:=(Dw.mp f).2;rw[n] at q;simp at q
def x5n(e:(hidT h H).get? b=some o):h.get? b=some o/\H b=none:=by
 have e':=W.of_hideAll (trk h H) e;refine⟨e',?_⟩;cases q:H b with
 |none=>rfl
 |some x =>
  have f:b∈trk h H:=Dw.mpr ⟨Si.mpr (Al e'),by simp[q]⟩;have z:(hidT h H).get? b=none:=W.hideAll_none (trk h H) f;rw[z] at e;cases e
noncomputable def allNews(g h:Heap)(L:Addr):List (Addr×Obj):=(List.range h.objs.size).filterMap λa=>if a=L\/(g.get? a).isSome=true then none else(h.get? a).map λo=>(a,o)
noncomputable def rest(g h:Heap)(L d:Addr):List (Addr×Obj):=(allNews g h L).filter λp=>decide (p.1≠d)
structure Mod (K:Ah) (mg:Str->Option Value) (base:Heap):Prop where
 kin:K.In base
 glob:base.Ns Ci mg
 blt:∃mb,base.Ns builtinsNs mb/\∀x:Str,x ≠ "__name__" -> mb x=Gi x
 nolimit:base.NoLimit
structure Cx where
 prog:Ak
 w:World
 K:Ah
 mg:Str->Option Value
 base:Heap
 A:Around
 N:List Str
 s₀:Ag
 H₀:Hp
 env:Env
 outer:List Env
 stack:List Env
 ex:List Addr
 fn:Str->Bool
 calm:Bool
 pn:List (Addr×Obj)
 xe:Value->Ag->Prop
noncomputable def frs(l:List Env):List Addr:=l.filterMap (·.frame)
noncomputable abbrev Cx.fs(X:Cx):List Addr:=frs X.outer
noncomputable def Vis(sc:Scope)(x:Str):Prop:=sc.names.lookup x=some .local\/sc.names.lookup x=some .cell\/sc.names.lookup x=some .free
noncomputable def Loc(sc:Scope)(x:Str):Prop:=sc.names.lookup x=some .local\/sc.names.lookup x=some .cell
noncomputable def Look(env:Env)(h:Heap)(m:Str->Option Value)(x:Str)(u:Value):Prop :=
 (env.kindOf x=some .local/\m x=some u)\/((env.kindOf x=some .cell\/env.kindOf x=some .free)/\∃c,env.cells.lookup x=some c/\h.IsCell c (some u))
structure Cx.Ok (X:Cx):Prop where
 mod:Mod X.K X.mg X.base
 kind:X.env.scope.kind=.function
 glob:X.env.globals=Ci
 blt:X.env.builtins=builtinsNs
 above:X.s₀.heap.objs.size<=X.env.locals
 inj:∀x y c,X.env.cells.lookup x=some c->X.env.cells.lookup y=some c->x=y
 has:∀x,(X.env.kindOf x=some .cell\/X.env.kindOf x=some .free)->∃c,X.env.cells.lookup x=some c
 cab:∀x c,X.fn x=true->X.env.cells.lookup x=some c->X.s₀.heap.objs.size<=c
 hd:X.calm=true->X.A.handled=none
 frames:X.A.frames=some X.stack
 stk:X.stack=X.outer\/(X.stack=X.env::X.outer/\X.env.frame=some X.env.locals)
 exf:∀b∈X.ex,b≠X.env.locals/\∀x c,X.env.cells.lookup x=some c->c≠b
 bs:∀b o,X.base.get? b=some o->X.s₀.heap.get? b=some o/\X.H₀ b=none
 bsz:X.base.objs.size<=X.s₀.heap.objs.size
 noex:∀b o,X.base.get? b=some o->b∉X.ex
 exfs:∀b∈X.ex,b∉X.fs
 funs:X.s₀.heap.FunFrames X.base X.outer
 frf:∀b∈X.fs,X.H₀ b=none
structure Inv (X:Cx) (pins:List (Addr×Obj)) (σ:List (Option V)) (H:Hp) (s:Ag):Prop where
 ok:X.Ok
 os:s.os=X.s₀.os
 bare:Lr s.gens
 base:Un X.fs X.ex X.H₀ H X.s₀.heap s.heap
 loc:∃m,s.heap.Ns X.env.locals m/\∀(i:Nat) (x:Str) (v:V),X.N[i]?=some x->σ[i]?=some (some v)->Vis X.env.scope x->∃u,RelV v u/\Look X.env s.heap m x u
 cell:∀x c,X.env.cells.lookup x=some c->∃v,s.heap.IsCell c v
 free:H X.env.locals=none
 freeC:∀x c,X.env.cells.lookup x=some c->H c=none
 pin:∀p∈X.pn++pins,s.heap.get? p.1=some p.2/\H p.1=none/\p.1≠X.env.locals/\p.1∉X.fs/\∀v,p.2.data≠.cell v
 hok:HOk X.prog X.w H s.heap
 len:σ.length=X.N.length
section
variable{X:Cx}{pins:List (Addr×Obj)}{σ:List (Option V)}{H H':Hp}{s:Ag}{h':Heap}
def Cx.Ok.nofr(ok:X.Ok)(e:X.base.get? b=some o):b∉X.fs:=λf=>by
 have:=(ok.funs.mem f).1;rw[e] at this;cases this
def Inv.bs(I:Inv X pins σ H s):∀b o,X.base.get? b=some o->s.heap.get? b=some o/\H b=none:=λb o e =>
 ⟨I.base.keep b o (I.ok.bs b o e).1 (I.ok.bs b o e).2 (I.ok.nofr e) (I.ok.noex b o e),I.base.free b o (I.ok.bs b o e).1 (I.ok.bs b o e).2 (I.ok.noex b o e)⟩
def Inv.bk(I:Inv X pins σ H s):∀b o,X.base.get? b=some o->s.heap.get? b=some o:=λb o e=>(I.bs b o e).1
def Inv.mod(I:Inv X pins σ H s):Mod X.K X.mg X.base:=I.ok.mod
def Inv.kIn(I:Inv X pins σ H s):X.K.In s.heap:=I.ok.mod.kin.keeps I.bk
def Inv.lt(I:Inv X pins σ H s):X.env.locals<s.heap.objs.size:=let ⟨_,hn,_⟩:=I.loc;hn.lt
def Inv.sz(I:Inv X pins σ H s):X.s₀.heap.objs.size<=s.heap.objs.size:=Bg I.ok.above (Jl I.lt)
def Inv.nofs(I:Inv X pins σ H s){a:Addr}(h:s.heap.objs.size<=a):a∉X.fs:=λf=>by
 obtain⟨_,o,g,_⟩:=I.ok.funs.mem f;exact absurd (Bo (Al g) (Bg I.sz h)) (Gu _)
def Inv.cne(I:Inv X pins σ H s):∀x c,X.env.cells.lookup x=some c->c≠X.env.locals:=λx c e z=>by
 obtain⟨v,o,h,hd⟩:=I.cell x c e;obtain⟨m,⟨j,u,B,f,g,_⟩,_⟩:=I.loc;rw[z,f] at h;cases h;rw[g] at hd;cases hd
def Inv.funs(I:Inv X pins σ H s):s.heap.FunFrames X.base X.outer:=by
 have all:∀(l:List Env),(∀b∈frs l,b∈X.fs)->X.s₀.heap.FunFrames X.base l->s.heap.FunFrames X.base l:=by
  intro l;induction l with
  |nil=>intro _ _;trivial
  |cons env r ih =>
   intro j hl;obtain⟨hk,⟨L,o,f,hn,u,hd⟩,v⟩:=hl;have g:=j L (by unfold frs;rw[Oh,f];exact Av);obtain⟨B,e⟩:=I.base.slot L o u (I.ok.frf L g) g λz=>I.ok.exfs L z g;exact⟨hk,⟨L,_,f,hn,e,hd⟩,ih (λb h=>j b (by unfold frs;rw[Oh,f];exact Ap _ h)) v⟩
 exact all X.outer (λ_ h=>h) I.ok.funs
def Inv.stack(I:Inv X pins σ H s):s.heap.FunFrames X.base X.stack:=by
 rcases I.ok.stk with e|⟨e,f⟩
 ·rw[e];exact I.funs
 ·rw[e];obtain⟨m,hn,_⟩:=I.loc;refine .cons (by rw[I.ok.kind];decide) f hn ?_ I.funs;exact Ib (Bg I.ok.bsz I.ok.above)
def Inv.stkSub(I:Inv X pins σ H s):∀b∈frs X.stack,b∈X.env.locals::X.fs:=λb f=>by
 rcases I.ok.stk with e|⟨e,g⟩
 ·grind
 ·rw[e] at f;unfold frs at f;rw[Oh,g] at f;exact f
def Inv.stkFree(I:Inv X pins σ H s):∀b∈frs X.stack,H b=none:=λb f=>by
 rcases Az.mp (I.stkSub b f) with e|f
 ·rw[e];exact I.free
 ·obtain⟨_,o,g,_⟩:=I.ok.funs.mem f;exact I.base.free b o g (I.ok.frf b f) λz=>I.ok.exfs b z f
def Inv.step{ch:List Addr}(I:Inv X pins σ H s)(g:∀b∈ch,(b∈X.ex\/X.s₀.heap.objs.size<=b)/\b≠X.env.locals/\(∀x c,X.env.cells.lookup x=some c->c≠b)/\∀p∈X.pn++pins,p.1≠b)(keep:∀b o,b≠X.env.locals->b∉X.fs->b∉ch->s.heap.get? b=some o->H b=none->h'.get? b=some o)(slot:∀b o,b≠X.env.locals->b∈X.fs->b∉ch->s.heap.get? b=some o->H b=none->∃L,h'.get? b=some { o with slots:=L })(free:∀b o,b∉ch->s.heap.get? b=some o->H b=none->H' b=none)(there:∀b o,b∉ch->s.heap.get? b=some o->∃F,h'.get? b=some F)(tups:∀b xs,H b=some (.tup xs)->H' b=some (.tup xs))(frzs:∀b o u,H b=some (.frz o u)->H' b=some (.frz o u))(tbls:∀b ps,H b=some (.tbl ps)->∃more,H' b=some (.tbl (ps++more)))(ns:∀m,s.heap.Ns X.env.locals m->h'.Ns X.env.locals m)(hok:HOk X.prog X.w H' h')(R:Lr g'):
  Inv X pins σ H' { s with heap:=h',gens:=g',drawn:=d',toks:=t' }:=by
 have G:∀b o,X.s₀.heap.get? b=some o->b≠X.env.locals:=λb o e=>Bj (Bo (Al e) I.ok.above);have B:∀b o,X.s₀.heap.get? b=some o->b∉X.ex->b∉ch:=λb o e f D=>by
  rcases(g b D).1 with z|z
  ·exact f z
  ·exact absurd (Bo (Al e) z) (Gu _)
 have h:∀x c,X.env.cells.lookup x=some c->∀v,s.heap.IsCell c v->h'.IsCell c v:=λx c e v ⟨o,E,hd⟩=>by
  have j:=λz=>(g c z).2.2.1 x c e rfl;by_cases O:c∈X.fs
  ·obtain⟨L,q⟩:=slot c o (I.cne x c e) O j E (I.freeC x c e);exact⟨_,q,hd⟩
  ·exact⟨o,keep c o (I.cne x c e) O j E (I.freeC x c e),hd⟩
 refine⟨I.ok,I.os,R,⟨λb o e n D f=>?_,λb o e n D f=>?_,λb o e n f=>?_,λb o e f=>?_,λb xs e=>tups b xs (I.base.tups b xs e),λb o xs e=>frzs b o xs (I.base.frzs b o xs e),λb ps e=>?_⟩,?_,λx c e=>?_,?_,λx c e=>?_,λp P=>?_,hok,I.len⟩
 ·exact keep b o (G b o e) D (B b o e f) (I.base.keep b o e n D f) (I.base.free b o e n f)
 ·obtain⟨L,C⟩:=I.base.slot b o e n D f;obtain⟨M,J⟩:=slot b _ (G b o e) D (B b o e f) C (I.base.free b o e n f);exact⟨M,J⟩
 ·obtain⟨F,C⟩:=I.base.there b o e f;exact free b F (B b o e f) C (I.base.free b o e n f)
 ·obtain⟨F,C⟩:=I.base.there b o e f;exact there b F (B b o e f) C
 ·obtain⟨S,C⟩:=I.base.tbls b ps e;obtain⟨T,J⟩:=tbls b _ C;exact⟨S++T,by rw[J,Array.append_assoc]⟩
 ·obtain⟨m,hn,hl⟩:=I.loc;refine⟨m,ns m hn,λi x v C J U=>?_⟩;obtain⟨u,r,l⟩:=hl i x v C J U;refine⟨u,r,?_⟩;rcases l with l|⟨k,c,e,z⟩
  ·exact .inl l
  ·exact .inr ⟨k,c,e,h x c e _ z⟩
 ·obtain⟨v,z⟩:=I.cell x c e;exact⟨v,h x c e v z⟩
 ·obtain⟨m,⟨o,_,_,E,_⟩,_⟩:=I.loc;exact free _ o (λz=>(g _ z).2.1 rfl) E I.free
 ·obtain⟨v,o,E,hd⟩:=I.cell x c e;exact free c o (λz=>(g c z).2.2.1 x c e rfl) E (I.freeC x c e)
 ·obtain⟨e,n,ne,Q,d⟩:=I.pin p P;have j:=λz=>(g p.1 z).2.2.2 p P rfl
  exact⟨keep p.1 p.2 ne Q j e n,free p.1 p.2 j e n,ne,Q,d⟩
def Inv.un(I:Inv X pins σ H s)(u:Un X.fs [] H H' s.heap h')(hok:HOk X.prog X.w H' h'):Inv X pins σ H' { s with heap:=h',toks:=t' }:=by
 obtain⟨m,⟨o,E,F,v,r⟩,_⟩:=id I.loc;obtain⟨G,B⟩:=u.any v I.free (by simp);exact I.step (g':=s.gens) (d':=s.drawn) (ch:=[]) (λ_ z=>nomatch z) (λb o _ g _ e n=>u.keep b o e n g (by simp)) (λb o _ g _ e n=>u.slot b o e n g (by simp)) (λb o _ e n=>u.free b o e n (by simp)) (λb o _ e=>u.there b o e (by simp)) u.tups u.frzs u.tbls (λJ C=>by
  obtain⟨L,h,j,f,D⟩:=C;rw[v] at f;cases f;exact⟨_,h,j,B,D⟩) hok I.bare
def Inv.call(I:Inv X pins σ H s)(u:Un (frs X.stack) ch H H' s.heap h')(hok:HOk X.prog X.w H' h')(D:Lr g')(g:∀b∈ch,(b∈X.ex\/X.s₀.heap.objs.size<=b)/\b≠X.env.locals/\(∀x c,X.env.cells.lookup x=some c->c≠b)/\∀p∈X.pn++pins,p.1≠b):
  Inv X pins σ H' { s with heap:=h',gens:=g',drawn:=d',toks:=t' }:=by
 obtain⟨m,⟨o,J,L,C,r⟩,_⟩:=id I.loc;obtain⟨M,j⟩:=u.any C I.free λz=>(g _ z).2.1 rfl
 exact I.step g (λb o j E f e n=>u.keep b o e n (λz=>(Az.mp (I.stkSub b z)).elim j E) f) (λb o _ _ f e n=>u.any e n f) (λb o f e n=>u.free b o e n f) (λb o f e=>u.there b o e f) u.tups u.frzs u.tbls (λO F=>by
  obtain⟨P,v,B,h,G⟩:=F;rw[C] at h;cases h;exact⟨_,v,B,j,G⟩) hok D
def Inv.turned(I:Inv X pins σ H s)(k:∀b o,b≠it->s.heap.get? b=some o->h'.get? b=some o)(hn:H it=none)(h:it≠X.env.locals)(j:it∈X.ex\/X.s₀.heap.objs.size<=it)(B:∀x c,X.env.cells.lookup x=some c->c≠it)(C:∀p∈X.pn++pins,p.1≠it):Inv X pins σ H { s with heap:=h',toks:=t' }:=by
 have g:∀b u,H b=some u->b≠it:=λb u e z=>by rw[z,hn] at e;cases e
 refine I.step (g':=s.gens) (d':=s.drawn) (ch:=[it]) (λb D=>?_) (λb o _ _ f e _=>k b o (λz=>f (by simp[z])) e) (λb o _ _ f e _=>⟨o.slots,k b o (λz=>f (by simp[z])) e⟩) (λ_ _ _ _ n=>n)
  (λb o f e=>⟨o,k b o (λz=>f (by simp[z])) e⟩) (λ_ _ e=>e) (λ_ _ _ e=>e) (λb L e=>⟨#[],by rw[e];simp⟩) (λm E=>?_) (λb u e=>?_) I.bare
 ·have e:b=it:=by simpa using D
  subst e;exact⟨j,h,B,C⟩
 ·obtain⟨o,F,G,J,r⟩:=E;exact⟨o,F,G,k _ o (Bz h) J,r⟩
 ·refine(I.hok b u e).stay (λc v f q=>k c v ?_ q) (λ_ q=>q) λ_ _ q=>q;rcases f with z|z
  ·rw[z];exact g b u e
  ·exact g c _ z
def Inv.tok(I:Inv X pins σ H s)(t:Nat):Inv X pins σ H { s with toks:=t }:=I.un (h':=s.heap) (t':=t) Un.refl I.hok
def Inv.kept(I:Inv X pins σ H s)(k:∀b u,s.heap.get? b=some u->h'.get? b=some u):Inv X pins σ H { s with heap:=h',toks:=t' }:=I.un (Un.kept k) (I.hok.kept k)
def Inv.laid{a:Addr}(I:Inv X pins σ H s)(k:∀b u,s.heap.get? b=some u->h'.get? b=some u)(f:s.heap.objs.size<=a)(new:ObjOk X.prog X.w (upd H a o) h' a o):
  Inv X pins σ (upd H a o) { s with heap:=h',toks:=t' }:=I.un (Un.laid k f (I.hok.fresh f)) (I.hok.laid k f new)
def Inv.write(I:Inv X pins σ H s)(g:Mut (H x))(h:e=x\/H e=some (.own x))(k:∀b u,b≠e->s.heap.get? b=some u->h'.get? b=some u)(f:∃u,h'.get? e=some u)(new:ObjOk X.prog X.w (upd H x o) h' x o):Inv X pins σ (upd H x o) { s with heap:=h',toks:=t' }:=I.un (Un.write g h k f) (I.hok.write g h k f new)
def Inv.weak(I:Inv X pins σ H s)(hl:σ'.length=σ.length)(w:∀(i:Nat) v,σ'[i]?=some (some v)->σ[i]?=some (some v)):Inv X pins σ' H s :=
 ⟨I.ok,I.os,I.bare,I.base,let ⟨m,hn,f⟩:=I.loc;⟨m,hn,λi x v g h j=>f i x v g (w i v h) j⟩,I.cell,I.free,I.freeC,I.pin,I.hok,hl.trans I.len⟩
def Inv.pins_of(I:Inv X pins σ H s)(h:∀p∈pins',s.heap.get? p.1=some p.2/\H p.1=none/\p.1≠X.env.locals/\p.1∉X.fs/\∀v,p.2.data≠.cell v):Inv X pins' σ H s :=
 ⟨I.ok,I.os,I.bare,I.base,I.loc,I.cell,I.free,I.freeC,λp f=>(Ba.mp f).elim (λz=>I.pin p (Co _ z)) (h p),I.hok,I.len⟩
def q9j{N:List Str}(f:N.Nodup){j:Nat}(a:N[i]?=some x)(b:N[j]?=some x):i=j:=by
 obtain⟨o,g⟩:=As.mp a;obtain⟨s,h⟩:=As.mp b;exact(List.getElem_inj f).mp (g.trans h.symm)
def q7a(I:Inv X pins σ H s)(hN:X.N.Nodup)(R:X.N[i]?=some x)(C:Loc X.env.scope x)(r:RelV v u)(h:∀s',Inv X pins (σ.set i (some v)) H s'->(∃a,Fx a s.heap s'.heap/\(a=X.env.locals\/X.env.cells.lookup x=some a))->Q () s')(hf:X.fn x=true\/X.env.scope.names.lookup x=some .local:=by trivial):wpAny M A (storeName X.env x u) Q E s:=by
 obtain⟨m,hn,hl⟩:=id I.loc;have S:(X.env.scope.kind==.class||(X.env.scope.kind==.module&&X.env.locals != X.env.globals))=false:=by rw[I.ok.kind];rfl
 have G:i<σ.length:=by rw[I.len];exact(As.mp R).1
 have cne:=I.cne;have g:∀{a:Addr} {P:Heap},(∃o,s.heap.get? a=some o/\H a=none)->Fx a s.heap P->HOk X.prog X.w H P:=λ{a P} ha f b ob e=>by
  obtain⟨_,_,Z⟩:=ha;refine(I.hok b ob e).stay (λc W D q=>(f.2 c ?_).trans q) (λ_ q=>q) λ_ _ q=>q
  rcases D with rfl|D
  ·grind
  ·grind
 rcases C with hk|hk
 ·refine wpAny_storeName_local hk hn (λP a0 f=>?_) S;obtain⟨oL,_,_,a1,_⟩:=id hn;refine h _ ⟨I.ok,I.os,I.bare,⟨λb o e n J C=>?_,λb o e n J C=>?_,I.base.free,λb o e C=>?_,I.base.tups,I.base.frzs,I.base.tbls⟩,⟨_,a0,λj y v' B F e3=>?_⟩,λy c e=>?_,I.free,I.freeC,λp hp=>?_,g ⟨oL,a1,I.free⟩ f,by simpa using I.len⟩ ⟨_,f,.inl rfl⟩
  ·exact(f.2 b (Bj (Bo (Al e) I.ok.above))).trans (I.base.keep b o e n J C)
  ·obtain⟨sl,B⟩:=I.base.slot b o e n J C;exact⟨sl,(f.2 b (Bj (Bo (Al e) I.ok.above))).trans B⟩
  ·obtain⟨o',B⟩:=I.base.there b o e C;exact⟨o',(f.2 b (Bj (Bo (Al e) I.ok.above))).trans B⟩
  ·by_cases L:j=i
   ·subst L;rw[R] at B;cases B;rw[Rt G] at F;cases F;exact⟨u,r,.inl ⟨hk,by simp⟩⟩
   ·rw[Nm (Bz L)] at F;obtain⟨u',r',q⟩:=hl j y v' B F e3;refine⟨u',r',?_⟩;rcases q with⟨k,e⟩|⟨k,c,e,z⟩
    ·refine .inl ⟨k,?_⟩;have:y≠x:=λe=>L (q9j hN B (e▸R));simp[this,e]
    ·exact .inr ⟨k,c,e,z.sameBut f (cne y c e)⟩
  ·obtain⟨W,z⟩:=I.cell y c e;exact⟨W,z.sameBut f (cne y c e)⟩
  ·obtain⟨e,n,ne,nf,d⟩:=I.pin p hp;exact⟨(f.2 p.1 ne).trans e,n,ne,nf,d⟩
 ·have O:X.fn x=true:=by
   rcases hf with z|z
   ·exact z
   ·grind
  obtain⟨c,D⟩:=I.ok.has x (.inl hk);obtain⟨W,z⟩:=I.cell x c D;refine wpAny_storeName_cell I.ok.kind hk D z (λP a2 f=>?_);obtain⟨oc,T,U⟩:=id z;refine h { s with heap:=P } ⟨I.ok,I.os,I.bare,⟨λb o e n J C=>?_,λb o e n J C=>?_,I.base.free,λb o e C=>?_,I.base.tups,I.base.frzs,I.base.tbls⟩,⟨m,hn.sameBut f (Bz (cne x c D)),λj y v' B F e3=>?_⟩,λy Y e=>?_,I.free,I.freeC,λp hp=>?_,g ⟨oc,T,I.freeC x c D⟩ f,by simpa using I.len⟩ ⟨c,f,.inr D⟩
  ·exact(f.2 b (Bj (Bo (Al e) (I.ok.cab x c O D)))).trans (I.base.keep b o e n J C)
  ·obtain⟨sl,B⟩:=I.base.slot b o e n J C;exact⟨sl,(f.2 b (Bj (Bo (Al e) (I.ok.cab x c O D)))).trans B⟩
  ·obtain⟨o',B⟩:=I.base.there b o e C;exact⟨o',(f.2 b (Bj (Bo (Al e) (I.ok.cab x c O D)))).trans B⟩
  ·by_cases L:j=i
   ·subst L;rw[R] at B;cases B;rw[Rt G] at F;cases F;exact⟨u,r,.inr ⟨.inl hk,c,D,a2⟩⟩
   ·rw[Nm (Bz L)] at F;obtain⟨u',r',q⟩:=hl j y v' B F e3;refine⟨u',r',?_⟩;rcases q with q|⟨k,Y,e,z'⟩
    ·exact .inl q
    ·refine .inr ⟨k,Y,e,z'.sameBut f ?_⟩;rintro rfl;exact L (q9j hN B (I.ok.inj _ _ _ e D▸R))
  ·by_cases a3:Y=c
   ·grind
   ·obtain⟨w2,z2⟩:=I.cell y Y e;exact⟨w2,z2.sameBut f a3⟩
  ·obtain⟨e,n,ne,nf,d⟩:=I.pin p hp;refine⟨(f.2 p.1 ?_).trans e,n,ne,nf,d⟩;intro q;rw[q,T] at e;have q':=Cu e;exact d W (by rw[<- q'];exact U)
def q6t(I:Inv X pins σ H s)(f:X.N.Nodup)(g:X.N[i]?=some x)(j:Loc X.env.scope x)(r:RelV v u)(h:∀s',Inv X pins (σ.set i (some v)) H s'->Q () s')(o:X.fn x=true\/X.env.scope.names.lookup x=some .local:=by trivial):wpAny M A (storeName X.env x u) Q E s :=
 q7a I f g j r (λs' B _=>h s' B) o
def Inv.call'(I:Inv X pins σ H s)(o:s'.os=s.os)(u:Un (frs X.stack) ch H H' s.heap s'.heap)(hok:HOk X.prog X.w H' s'.heap)(v:Lr s'.gens)(f:∀b∈ch,(b∈X.ex\/X.s₀.heap.objs.size<=b)/\b≠X.env.locals/\(∀x c,X.env.cells.lookup x=some c->c≠b)/\∀p∈X.pn++pins,p.1≠b):Inv X pins σ H' s':=by
 obtain⟨B,g,h,j,C⟩:=s';have e:=o;subst e;exact I.call (g':=g) (t':=j) (d':=h) u hok v f
end
noncomputable abbrev XK:=Value->Option Addr->Hp->Prop
noncomputable abbrev St:=List (Option V)
noncomputable abbrev VK:=V->Hp->Prop
noncomputable abbrev TE:=St->Hp->VK->Prop
noncomputable abbrev TT:=St->Hp->(Bool->Hp->Prop)->Prop
noncomputable abbrev TA:=St->Hp->(List V->Hp->Prop)->Prop
structure Ends where
 nx:St->Hp->Prop
 rt:VK
 bk:St->Hp->Prop:=λ_ _=>False
 ct:St->Hp->Prop:=λ_ _=>False
noncomputable abbrev TS:=Ends->St->Hp->Prop
noncomputable def EP(X:Cx)(pins:List (Addr×Obj))(σ:St)(Q:VK)(u:Value)(s':Ag):Prop:=∃v H',Inv X pins σ H' s'/\RelV v u/\Q v H'
noncomputable def TP(X:Cx)(pins:List (Addr×Obj))(σ:St)(Q:Bool->Hp->Prop)(b:Bool)(s':Ag):Prop:=∃H',Inv X pins σ H' s'/\Q b H'
noncomputable def AP(X:Cx)(pins:List (Addr×Obj))(σ:St)(Q:List V->Hp->Prop)(us:List Value)(s':Ag):Prop:=∃vs H',Inv X pins σ H' s'/\Vals vs us/\Q vs H'
noncomputable def SP(X:Cx)(pins:List (Addr×Obj))(D:Ends)(f:Flow)(s':Ag):Prop :=
 match f with
 |.next=>∃σ' H',Inv X pins σ' H' s'/\D.nx σ' H'
 |.brk=>∃σ' H',Inv X pins σ' H' s'/\D.bk σ' H'
 |.cont=>∃σ' H',Inv X pins σ' H' s'/\D.ct σ' H'
 |.ret u=>∃v σ' H',Inv X pins σ' H' s'/\RelV v u/\D.rt v H'
noncomputable def PE(X:Cx)(e:Expr)(t:TE):Prop :=
 ∀(pins:List (Addr×Obj)) (s:Ag) (σ:St) (H:Hp) (Q:VK),Inv X pins σ H s->t σ H Q->wpAny (model X.prog X.w) X.A (eval e X.env) (EP X pins σ Q) X.xe s
noncomputable def PT(X:Cx)(e:Expr)(t:TT):Prop :=
 ∀(pins:List (Addr×Obj)) (s:Ag) (σ:St) (H:Hp) (Q:Bool->Hp->Prop),Inv X pins σ H s->t σ H Q->wpAny (model X.prog X.w) X.A (isTrue e X.env (eval e X.env)) (TP X pins σ Q) X.xe s
noncomputable def PW(X:Cx)(e:Expr)(t:TT):Prop :=
 ∀(whole:Sem Value) (pins:List (Addr×Obj)) (s:Ag) (σ:St) (H:Hp) (Q:Bool->Hp->Prop),Inv X pins σ H s->t σ H Q->wpAny (model X.prog X.w) X.A (isTrue e X.env whole) (TP X pins σ Q) X.xe s
def PW.pt{X:Cx}{e:Expr}{t:TT}(h:PW X e t):PT X e t:=h _
noncomputable def PA(X:Cx)(es:List Expr)(t:TA):Prop :=
 ∀(pos:Pos) (pins:List (Addr×Obj)) (s:Ag) (σ:St) (H:Hp) (Q:List V->Hp->Prop),Inv X pins σ H s->t σ H Q->wpAny (model X.prog X.w) X.A (spliced (Ew pos (Bc es X.env))) (AP X pins σ Q) X.xe s
noncomputable def PS(X:Cx)(st:Stmt)(t:TS):Prop :=
 ∀(pins:List (Addr×Obj)) (s:Ag) (σ:St) (H:Hp) (D:Ends),Inv X pins σ H s->t D σ H->wpAny (model X.prog X.w) X.A (exec st X.env) (SP X pins D) X.xe s
noncomputable def PSs(X:Cx)(st:List Stmt)(t:TS):Prop :=
 ∀(pins:List (Addr×Obj)) (s:Ag) (σ:St) (H:Hp) (D:Ends),Inv X pins σ H s->t D σ H->wpAny (model X.prog X.w) X.A (execs st X.env) (SP X pins D) X.xe s
def thn{t:Sem α}{Q f:α->Ag->Prop}(h:wpAny M A t Q E s)(g:∀a s,Q a s->f a s):wpAny M A t f E s:=Cb h g λ_ _ x=>x
def thnE{X:Cx}{f:List (Addr×Obj)}{g:St}{M:Model}{A:Around}{E:Value->Ag->Prop}{s:Ag}{t:Sem Value}{Q:VK}{j:Value->Ag->Prop}(h:wpAny M A t (EP X f g Q) E s)(k:∀u s' v H',Inv X f g H' s'->RelV v u->Q v H'->j u s'):wpAny M A t j E s:=thn h λu s' ⟨v,H',a,b,c⟩=>k u s' v H' a b c
def thnT{X:Cx}{f:List (Addr×Obj)}{g:St}{M:Model}{A:Around}{E:Value->Ag->Prop}{s:Ag}{t:Sem Bool}{Q:Bool->Hp->Prop}{j:Bool->Ag->Prop}(h:wpAny M A t (λb s'=>∃H',Inv X f g H' s'/\Q b H') E s)(k:∀b s' H',Inv X f g H' s'->Q b H'->j b s'):wpAny M A t j E s:=thn h λu s' ⟨H',a,c⟩=>k u s' H' a c
section
variable{X:Cx}
noncomputable def tVar(i:Nat):TE:=λσ H Q=>∃v,σ[i]?=some (some v)/\Q v H
noncomputable def tC(v:V):TE:=λ_ H Q=>Q v H
def pe_var{o:Pos}(D:X.N[i]?=some x)(E:Vis X.env.scope x)(hd:(x==("__debug__" : Str))=false:=by decide)(B:(x==("__classdict__" : Str))=false:=by decide):PE X (.Name x o) (tVar i):=by
 intro j s F H Q I h;obtain⟨v,e,h⟩:=h;obtain⟨m,hn,hl⟩:=I.loc;obtain⟨u,r,l⟩:=hl i x v D e E;have g:EP X j F Q u s:=⟨v,H,I,r,h⟩
 rcases l with⟨hk,G⟩|⟨hk,c,C,f⟩
 ·exact Xa (Te I.ok.kind hk hn G g) hd
 ·rcases hk with hk|hk
  ·exact Xa (Uh I.ok.kind hk C f g) hd
  ·exact Xa (wpAny_loadName_free I.ok.kind hk C f g B) hd
def q0g{i j pos}:PE X (.Constant (.int i) j pos) (tC (.int i)):=λ_ _ _ H _ I h=>wpAny_Constant_int ⟨.int i,H,I.tok _,⟨_,rfl⟩,h⟩
def q4y{b j pos}:PE X (.Constant (.bool b) j pos) (tC (.bl b)):=λ_ _ _ H _ I h=>Constant_bool ⟨.bl b,H,I,rfl,h⟩
def q8q{j pos}:PE X (.Constant .none j pos) (tC .non):=λ_ _ _ H _ I h=>Tw ⟨.non,H,I,rfl,h⟩
def q0i{x j pos}:PE X (.Constant (.str x) j pos) (tC (.str x)):=λ_ _ _ H _ I h=>Calls.Constant_str ⟨.str x,H,I.tok _,⟨_,rfl⟩,h⟩
noncomputable def Gl(X:Cx)(x:Str):Prop:=X.env.kindOf x=some .globalImplicit
def q2q{f:St}(I:Inv X pins f H s)(g:Gl X x)(j:X.mg x=some u)(h:Q u s)(hd:(x==("__debug__" : Str))=false:=by decide):wpAny (model X.prog X.w) X.A (eval (.Name x pos) X.env) Q E s :=
 Pq I.ok.kind g (Calls.loadGlobal_global (by rw[I.ok.glob];exact I.mod.glob.keeps I.bk) j h) hd
def q4z{E:Value->Ag->Prop}{g:St}{f:Pos}(I:Inv X pins g H s)(j:Gl X x)(o:X.mg x=none)(v:Gi x=some u)(h:Q u s)(hn:x ≠ "__name__" := by decide)(hd:(x==("__debug__" : Str))=false:=by decide):wpAny (model X.prog X.w) X.A (eval (.Name x f) X.env) Q E s:=by
 obtain⟨D,B,C⟩:=I.mod.blt;exact Pq I.ok.kind j (Calls.loadGlobal_builtin (by rw[I.ok.glob];exact I.mod.glob.keeps I.bk) o (by rw[I.ok.blt];exact B.keeps I.bk) ((C x hn).trans v) h) hd
def q0m{x:Str}{v:V}{u:Value}{f:Pos}(g:Gl X x)(j:X.mg x=some u)(r:RelV v u)(hd:(x==("__debug__" : Str))=false:=by decide):PE X (.Name x f) (tC v) :=
 λ_ _ _ H _ I h=>q2q I g j ⟨v,H,I,r,h⟩ hd
def z3t{x:Str}{v:V}{u:Value}{f:Pos}(g:Gl X x)(j:X.mg x=none)(o:Gi x=some u)(r:RelV v u)(hn:x ≠ "__name__" := by decide)(hd:(x==("__debug__" : Str))=false:=by decide):PE X (.Name x f) (tC v) :=
 λ_ _ _ H _ I h=>q4z I g j o ⟨v,H,I,r,h⟩ hn hd
variable{a b:Expr}{ta tb:TE}{pos:Pos}
noncomputable def PC(X:Cx)(op:CmpOp)(a b:Expr)(t:TE):Prop :=
 ∀(pins:List (Addr×Obj)) (s:Ag) (σ:St) (H:Hp) (Q:VK),Inv X pins σ H s->t σ H Q ->
  wpAny (model X.prog X.w) X.A (eval a X.env) (λv s₁=>wpAny (model X.prog X.w) X.A (eval b X.env) (λu s₂=>wpAny (model X.prog X.w) X.A (Cj op v u) (EP X pins σ Q) X.xe s₂) X.xe s₁) X.xe s
def nobehind(b:Expr)(h:op≠.In)(j:op≠.NotIn):Hu op b=false:=by
 have f:(op==CmpOp.In)=false:=by grind
 have g:(op==CmpOp.NotIn)=false:=by grind
 cases b<;>simp[Hu,f,g]
noncomputable def tIsN(ta:TE):TE:=λσ H Q=>ta σ H λx H1=>Q (.bl (decide (x=.non))) H1
noncomputable def tNotN(ta:TE):TE:=λσ H Q=>ta σ H λx H1=>Q (.bl (!decide (x=.non))) H1
def RelV.none_iff(r:RelV x v):(v==Value.none)=decide (x=.non):=by
 cases x with
 |non=>cases r;rfl
 |bl _=>cases r;rfl
 |int _=>obtain⟨t,rfl⟩:=r;rfl
 |str _=>obtain⟨t,rfl⟩:=r;rfl
 |byt _=>obtain⟨t,rfl⟩:=r;rfl
 |flt _=>obtain⟨t,rfl⟩:=r;rfl
 |ref _=>cases r;rfl
 |ty _=>cases r;rfl
def z1c{j pos'}(ha:PE X a ta):PC X .Is a (.Constant .none j pos') (tIsN ta):=by
 intro f s g H Q I h;refine thnE (ha f s g H _ I h) λv D x o u B C=>?_;exact Tw (is_none_gen ⟨.bl _,o,u,by rw[B.none_iff];rfl,C⟩)
def q9k{j pos'}(ha:PE X a ta):PC X .IsNot a (.Constant .none j pos') (tNotN ta):=by
 intro f s g H Q I h;refine thnE (ha f s g H _ I h) λv D x o u B C=>?_;exact Tw (isnot_none_gen ⟨.bl _,o,u,by rw[B.none_iff];rfl,C⟩)
noncomputable def tB(t:TE):TT:=λσ H Q=>t σ H λx H1=>∃c,x=.bl c/\Q c H1
def x4m{op:CmpOp}{t:TE}(h:PC X op a b t)(g:Hu op b=false:=by first|exact nobehind _ (by decide) (by decide)|rfl):PE X (.Compare a [op] [b] pos) t:=λf s j H Q I o=>wpAny_Compare1 (h f s j H Q I o) g
def q3i{op:CmpOp}{t:TE}(h:PC X op a b t)(g:Hu op b=false:=by first|exact nobehind _ (by decide) (by decide)|rfl):PT X (.Compare a [op] [b] pos) (tB t):=by
 intro f s j H Q I o;refine Sj (thn (h f s j H _ I o) λv G g=>thn g λu J B=>thnE B λc L x C D E F=>?_) g;obtain⟨d,rfl,q⟩:=F;cases E;exact Em ⟨C,D,q⟩
variable{tA tB':TT}{rest:List Expr}
noncomputable def tAnd(t u:TT):TT:=λσ H Q=>t σ H λc H1=>if c=true then u σ H1 Q else Q false H1
noncomputable def tOr(t u:TT):TT:=λσ H Q=>t σ H λc H1=>if c=true then Q true H1 else u σ H1 Q
noncomputable def tNot(t:TT):TT:=λσ H Q=>t σ H λc H1=>Q (!c) H1
def q2w(ha:PT X a tA):PW X (.BoolOp .And [a] pos) tA:=by
 intro j f s g H Q I h;refine isTrue_and (thn (ha f s g H Q I h) λc o e=>?_);cases c with
 |true=>exact isTrue_and_nil e
 |false=>exact e
def q3l(ha:PT X a tA):PW X (.BoolOp .Or [a] pos) tA:=by
 intro j f s g H Q I h;refine isTrue_or (thn (ha f s g H Q I h) λc o e=>?_);cases c with
 |false=>exact isTrue_or_nil e
 |true=>exact e
def q5a(ha:PT X a tA)(v:PW X (.BoolOp .And (b::rest) pos) tB'):PW X (.BoolOp .And (a::b::rest) pos) (tAnd tA tB'):=by
 intro B f s g H Q I h;refine isTrue_and (thnT (ha f s g H _ I h) λc C j o u=>?_);cases c with
 |true=>exact v B f C g j Q o u
 |false=>exact⟨j,o,u⟩
def q7b(ha:PT X a tA)(v:PW X (.BoolOp .Or (b::rest) pos) tB'):PW X (.BoolOp .Or (a::b::rest) pos) (tOr tA tB'):=by
 intro B f s g H Q I h;refine isTrue_or (thnT (ha f s g H _ I h) λc C j o u=>?_);cases c with
 |true=>exact⟨j,o,u⟩
 |false=>exact v B f C g j Q o u
def z7u(ha:PT X a tA):PT X (.UnaryOp .Not a pos) (tNot tA):=by
 intro f s g H Q I h;exact isTrue_not (ha f s g H (λc j=>Q (!c) j) I h)
noncomputable def tAndV(ta tb:TE):TE:=λσ H Q=>ta σ H λx H1=>∃c,x=.bl c/\if c=true then tb σ H1 Q else Q (.bl false) H1
noncomputable def tOrV(ta tb:TE):TE:=λσ H Q=>ta σ H λx H1=>∃c,x=.bl c/\if c=true then Q (.bl true) H1 else tb σ H1 Q
noncomputable def tNotV(ta:TE):TE:=λσ H Q=>ta σ H λx H1=>∃c,x=.bl c/\Q (.bl (!c)) H1
def q5b{op}{t:TE}(h:PE X a t):PE X (.BoolOp op [a] pos) t:=λf s g H Q I j=>BoolOp_one (h f s g H Q I j)
def q6h(ha:PE X a ta)(B:PE X (.BoolOp .And (b::rest) pos) tb):PE X (.BoolOp .And (a::b::rest) pos) (tAndV ta tb):=by
 intro f s j H Q I h;refine BoolOp_and (thnE (ha f s j H _ I h) λv C x o u D g=>?_);obtain⟨c,rfl,g⟩:=g;cases D;refine Em ?_;cases c with
 |true=>exact B f C j o Q u g
 |false=>exact⟨.bl false,o,u,rfl,g⟩
def pe_or(ha:PE X a ta)(B:PE X (.BoolOp .Or (b::rest) pos) tb):PE X (.BoolOp .Or (a::b::rest) pos) (tOrV ta tb):=by
 intro f s j H Q I h;refine BoolOp_or (thnE (ha f s j H _ I h) λv C x o u D g=>?_);obtain⟨c,rfl,g⟩:=g;cases D;refine Em ?_;cases c with
 |false=>exact B f C j o Q u g
 |true=>exact⟨.bl true,o,u,rfl,g⟩
def z1d(ha:PE X a ta):PE X (.UnaryOp .Not a pos) (tNotV ta):=by
 intro f s j H Q I h;refine UnaryOp_ (thnE (ha f s j H _ I h) λv C x o u B g=>?_);obtain⟨c,rfl,g⟩:=g;cases B;exact not_of (Em ⟨.bl (!c),o,u,rfl,g⟩)
noncomputable def tIf(t:TT)(ta tb:TE):TE:=λσ H Q=>t σ H λc H1=>if c=true then ta σ H1 Q else tb σ H1 Q
def q6u{c:Expr}(B:PT X c tA)(ha:PE X a ta)(C:PE X b tb):PE X (.IfExp c a b pos) (tIf tA ta tb):=by
 intro f s g H Q I h;refine wpAny_IfExp (thnT (B f s g H _ I h) λd j o u v=>?_);cases d with
 |true=>exact ha f j g o Q u v
 |false=>exact C f j g o Q u v
end
noncomputable def SqL(K:Ah)(H:Hp)(a:Addr)(xs:List V):Prop :=
 Rd H a (.lst xs) \/
  ∃(o:Obj) (its:Array Value) (n:Nat),K.lookup a=some o/\o.cls=.type "list" /\ o.dict=none/\o.data=.seq its n/\its.size<=sizeLine/\Vals xs its.toList
noncomputable def SqT(K:Ah)(H:Hp)(a:Addr)(xs:List V):Prop :=
 Rd H a (.tup xs) \/
  ∃(o:Obj) (its:Array Value) (n:Nat),K.lookup a=some o/\o.cls=.type "tuple" /\ o.data=.seq its n/\its.size<=sizeLine/\Vals xs its.toList
noncomputable def absV:Value->Option V
 |.none=>some .non
 |.bool b=>some (.bl b)
 |.int i _=>some (.int i)
 |.str x _=>some (.str x)
 |.bytes b _=>some (.byt b)
 |.float b _=>some (.flt b)
 |.ref a=>some (.ref a)
 |.type n=>some (.ty n)
 |_=>none
def RelV.abs(r:RelV x u):absV u=some x:=by
 cases x with
 |non=>cases r;rfl
 |bl _=>cases r;rfl
 |int _=>obtain⟨t,rfl⟩:=r;rfl
 |str _=>obtain⟨t,rfl⟩:=r;rfl
 |byt _=>obtain⟨t,rfl⟩:=r;rfl
 |flt _=>obtain⟨t,rfl⟩:=r;rfl
 |ref _=>cases r;rfl
 |ty _=>cases r;rfl
def RelV.inj(r:RelV x u)(q:RelV y u):x=y:=Cu (r.abs.symm.trans q.abs)
def Vals.inj{xs ys:List V}{f:List Value}(h:Vals xs f)(g:Vals ys f):xs=ys:=by
 induction h generalizing ys with
 |nil=>cases g;rfl
 |cons r _ ih=>cases g with|cons r' t'=>rw[r.inj r',ih t']
section
variable{X:Cx}{pins:List (Addr×Obj)}{σ:St}{H:Hp}{s:Ag}{a:Addr}{xs ys:List V}
def SqL.of{K:Ah}(h:H a=some (.lst xs)):SqL K H a xs:=.inl (.inl h)
def SqT.of{K:Ah}(h:H a=some (.tup xs)):SqT K H a xs:=.inl (.inl h)
def Inv.list(I:Inv X pins σ H s)(h:SqL X.K H a xs):∃f:List Value,Vals xs f/\PlainL s.heap a f.toArray/\xs.length<=sizeLine:=by
 rcases h with h|⟨o,f,n,hk,g,hd,j,u,r⟩
 ·obtain⟨z,f,n,r,e⟩:=h.ok I.hok;exact⟨f,r,⟨_,n,e,rfl,rfl,rfl⟩,z⟩
 ·refine⟨f.toList,r,⟨o,n,I.kIn a o hk,g,hd,by simpa using j⟩,?_⟩;have e:=r.length;simp only[Iu] at e;lia
def Inv.tuple(I:Inv X pins σ H s)(h:SqT X.K H a xs):∃f:List Value,Vals xs f/\IsTup s.heap a f.toArray/\xs.length<=sizeLine:=by
 rcases h with h|⟨o,f,n,hk,g,j,u,r⟩
 ·obtain⟨z,f,r,p⟩:=h.ok I.hok;exact⟨f,r,p,z⟩
 ·refine⟨f.toList,r,⟨o,I.kIn a o hk,g,n,by simpa using j⟩,?_⟩;have e:=r.length;simp only[Iu] at e;lia
def Inv.list_inj(I:Inv X pins σ H s)(h:SqL X.K H a xs)(h':SqL X.K H a ys):xs=ys:=by
 obtain⟨g,r,⟨o,n,e,_,_,d⟩,_⟩:=I.list h;obtain⟨f,j,⟨u,v,B,_,_,C⟩,_⟩:=I.list h';have:g=f:=by grind
 subst this;exact r.inj j
def Inv.tuple_inj(I:Inv X pins σ H s)(h:SqT X.K H a xs)(h':SqT X.K H a ys):xs=ys:=by
 obtain⟨g,r,⟨o,e,_,n,d⟩,_⟩:=I.tuple h;obtain⟨f,j,⟨u,v,_,B,C⟩,_⟩:=I.tuple h';have:g=f:=by grind
 subst this;exact r.inj j
end
noncomputable abbrev Cx.wish(X:Cx)(E:Value->Ag->Prop):Cx:={ X with xe:=E }
noncomputable abbrev Cx.nox(X:Cx):Cx:=X.wish λ_ _=>False
def Cx.Ok.wish{X:Cx}(ok:X.Ok)(E:Value->Ag->Prop):(X.wish E).Ok :=
 ⟨ok.mod,ok.kind,ok.glob,ok.blt,ok.above,ok.inj,ok.has,ok.cab,ok.hd,ok.frames,ok.stk,ok.exf,ok.bs,ok.bsz,ok.noex,ok.exfs,ok.funs,ok.frf⟩
def Cx.Ok.unwish{X:Cx}(ok:(X.wish E).Ok):X.Ok :=
 ⟨ok.mod,ok.kind,ok.glob,ok.blt,ok.above,ok.inj,ok.has,ok.cab,ok.hd,ok.frames,ok.stk,ok.exf,ok.bs,ok.bsz,ok.noex,ok.exfs,ok.funs,ok.frf⟩
section
variable{X:Cx}{pins:List (Addr×Obj)}{σ:St}{H:Hp}{s:Ag}{E:Value->Ag->Prop}
def Inv.wish(I:Inv X pins σ H s)(E:Value->Ag->Prop):Inv (X.wish E) pins σ H s:=⟨I.ok.wish E,I.os,I.bare,I.base,I.loc,I.cell,I.free,I.freeC,I.pin,I.hok,I.len⟩
def Inv.unwish(I:Inv (X.wish E) pins σ H s):Inv X pins σ H s:=⟨I.ok.unwish,I.os,I.bare,I.base,I.loc,I.cell,I.free,I.freeC,I.pin,I.hok,I.len⟩
def SP.unwish(h:SP (X.wish E) pins D f s'):SP X pins D f s':=by
 cases f with
 |next=>obtain⟨g,j,I,q⟩:=h;exact⟨g,j,I.unwish,q⟩
 |brk=>obtain⟨g,j,I,q⟩:=h;exact⟨g,j,I.unwish,q⟩
 |cont=>obtain⟨g,j,I,q⟩:=h;exact⟨g,j,I.unwish,q⟩
 |ret u=>obtain⟨v,g,j,I,r,q⟩:=h;exact⟨v,g,j,I.unwish,r,q⟩
def PSs.nox{st:List Stmt}(h:PSs X.nox st t):PSs X st t:=λf s g H D I j =>
 Cb (h f s g H D (I.wish _) j) (λ_ _ q=>q.unwish) λ_ _ z=>False.elim z
end
section
variable{X:Cx}{st:Stmt}{rest:List Stmt}{t u:TS}{e:Expr}{te:TE}{pos:Pos}
noncomputable def tNext:TS:=λD σ H=>D.nx σ H
noncomputable def tSeq(t u:TS):TS:=λD σ H=>t { D with nx:=u D } σ H
def q0j:PSs X [] tNext:=λ_ _ f H _ I h=>Kr ⟨f,H,I,h⟩
def q0b(o:PS X st t)(B:PSs X rest u):PSs X (st::rest) (tSeq t u):=by
 intro g s C H D I h;refine Qr (thn (o g s C H { D with nx:=u D } I h) λf E q=>?_);cases f with
 |next =>
  obtain⟨j,F,G,q⟩:=q;exact B g E j F D G q
 |ret v=>exact q
 |brk=>exact q
 |cont=>exact q
def q0e(j:PS X st t):PSs X [st] t:=by
 intro g s o H D I h;refine Qr (thn (j g s o H D I h) λf u q=>?_);cases f with
 |next=>exact Kr q
 |ret v=>exact q
 |brk=>exact q
 |cont=>exact q
def Inv.quiet{f:St}(I:Inv X pins f H s):interactive X.env=false:=by simp[interactive,I.ok.kind]
noncomputable def tDrop(te:TE):TS:=λD σ H=>te σ H λ_ H1=>D.nx σ H1
def q0u(j:PE X e te)(o:Jb e none pos.line X.env=pure false:=by rfl):PS X (.Expr e pos) (tDrop te):=by
 intro f s g H D I h;exact wpAny_Expr_any (thnE (j f s g H _ I h) λv E x u B F C=>⟨g,u,B,C⟩) I.quiet o
noncomputable def tRet(te:TE):TS:=λD σ H=>te σ H D.rt
def q0l(j:PE X e te):PS X (.Return (some e) pos) (tRet te):=by
 intro f s g H D I h;exact wpAny_Return_some (thnE (j f s g H _ I h) λv E x o u B C=>⟨x,g,o,u,B,C⟩)
noncomputable def tIfS(c:TT)(t u:TS):TS:=λD σ H=>c σ H λb H1=>if b=true then t D σ H1 else u D σ H1
def q0s{c:Expr}{a b:List Stmt}{j:TT}(E:PT X c j)(ha:PSs X a t)(F:PSs X b u):PS X (.If c a b pos) (tIfS j t u):=by
 intro f s g H D I h;refine wpAny_If (thnT (E f s g H _ I h) λd o v B C=>?_);cases d with
 |true=>exact ha f o g v D B C
 |false=>exact F f o g v D B C
noncomputable def tNever:TS:=λ_ _ _=>False
def q1r:PS X st tNever:=λ_ _ _ _ _ _ h=>h.elim
end
noncomputable abbrev TG:=V->St->Hp->(St->Hp->Prop)->Prop
noncomputable abbrev TGs:=List V->St->Hp->(St->Hp->Prop)->Prop
noncomputable def PG(X:Cx)(target:Expr)(t:TG):Prop :=
 ∀(pins:List (Addr×Obj)) (s:Ag) (σ:St) (H:Hp) (v:V) (u:Value) (Q:St->Hp->Prop),Inv X pins σ H s->RelV v u->t v σ H Q ->
  wpAny (model X.prog X.w) X.A (assign target X.env u) (λ_ s'=>∃σ' H',Inv X pins σ' H' s'/\Q σ' H') X.xe s
noncomputable def PGs(X:Cx)(ts:List Expr)(t:TGs):Prop :=
 ∀(pins:List (Addr×Obj)) (s:Ag) (σ:St) (H:Hp) (vs:List V) (us:List Value) (Q:St->Hp->Prop),Inv X pins σ H s->Vals vs us->t vs σ H Q ->
  wpAny (model X.prog X.w) X.A (assignInOrder ((Jz ts X.env).map (·.2)) us) (λ_ s'=>∃σ' H',Inv X pins σ' H' s'/\Q σ' H') X.xe s
noncomputable abbrev TSet:=V->V->V->Hp->(Hp->Prop)->Prop
noncomputable def PSet(X:Cx)(t:TSet):Prop :=
 ∀(pins:List (Addr×Obj)) (s:Ag) (σ:St) (H:Hp) (o i v:V) (ov iv u:Value) (Q:Hp->Prop),Inv X pins σ H s->RelV o ov->RelV i iv->RelV v u->t o i v H Q ->
  wpAny (model X.prog X.w) X.A (setItem ov iv u) (λ_ s'=>∃H',Inv X pins σ H' s'/\Q H') X.xe s
noncomputable abbrev TIp:=V->V->Hp->VK->Prop
noncomputable def PIp(X:Cx)(op:Operator)(t:TIp):Prop :=
 ∀(pins:List (Addr×Obj)) (s:Ag) (σ:St) (H:Hp) (x y:V) (v u:Value) (Q:VK),Inv X pins σ H s->RelV x v->RelV y u->t x y H Q ->
  wpAny (model X.prog X.w) X.A (Uu op v u) (EP X pins σ Q) X.xe s
section
variable{X:Cx}{pos:Pos}
noncomputable def gName(i:Nat):TG:=λv σ H Q=>Q (σ.set i (some v)) H
def q0n{i:Nat}{x:Str}(g:X.N.Nodup)(j:X.N[i]?=some x)(o:Loc X.env.scope x)(B:X.fn x=true\/X.env.scope.names.lookup x=some .local:=by trivial):PG X (.Name x pos) (gName i):=by
 intro f s D H v u Q I r h;exact Qb (q6t I g j o r (λE C=>⟨_,H,C,h⟩) B)
noncomputable def gNil:TGs:=λvs σ H Q=>vs=[]/\Q σ H
noncomputable def gCons(t:TG)(u:TGs):TGs:=λvs σ H Q=>∃v r,vs=v::r/\t v σ H λσ' H'=>u r σ' H' Q
def q1b:PGs X [] gNil:=by
 intro f s g H vs j Q I r h;obtain⟨e,h⟩:=h;exact assignInOrder_nil ⟨g,H,I,h⟩
def q0p{e:Expr}{g:List Expr}{t:TG}{u:TGs}(o:PG X e t)(B:PGs X g u)(C:(Jz (e::g) X.env).map (·.2)=assign e X.env::(Jz g X.env).map (·.2):=by rfl):PGs X (e::g) (gCons t u):=by
 intro f s D H vs O Q I r h;obtain⟨v,P,E,h⟩:=h;subst E;cases r with
 |cons r rr =>
  rw[C];refine assignInOrder_cons (thn (o f s D H _ _ _ I r h) λ_ F G=>?_);obtain⟨j,J,L,M⟩:=G;exact B f F j J _ _ Q L rr M
noncomputable def gTup(K:Ah)(n:Nat)(t:TGs):TG:=λv σ H Q=>∃a xs,v=.ref a/\SqT K H a xs/\xs.length=n/\t xs σ H Q
def pg_tup{k:Nat}(D:X.calm=true)(h:PGs X es t)(hn:(Jz es X.env).length=n:=by rfl)(g:(Jz es X.env).findIdx? (·.1)=none:=by rfl):PG X (.Tuple es k pos) (gTup X.K n t):=by
 intro f s B H v u Q I r j;obtain⟨a,E,F,G,hl,j⟩:=j;subst F;cases r;obtain⟨J,C,L,R⟩:=I.tuple G;refine assign_Tuple_tuple (I.ok.hd D) L (by simp[hn,<- hl,C.length]) g λM O=>?_;have P:Inv X f B H { s with heap:=M }:=I.kept (t':=s.toks) λb o e=>O b o (Bj (Al e)) e;exact h f _ B H E _ Q P (by simpa using C) j
noncomputable def gSub(to ti:TE)(t:TSet):TG:=λv σ H Q=>to σ H λo H1=>ti σ H1 λi H2=>t o i v H2 λH3=>Q σ H3
def z7v{o i:Expr}{C D:TE}{t:TSet}(E:PE X o C)(F:PE X i D)(G:PSet X t)(ha:∀v,assign (.Subscript o i pos) X.env v=(do
   let g<-Ko [v] (eval o X.env);let j<-Ko [v,g] (eval i X.env)
   Ol pos
   Ko [v,g,j] (setItem g j v)
   release [v,g,j] []):=by intro _;rfl):PG X (.Subscript o i pos) (gSub C D t):=by
 intro f s B H v u Q I r h;refine Ac (Cq (thnE (E f s B H _ I h) λg J x L M O P=>?_));refine Ac (Cq (thnE (F f J B L _ M P) λj R y S T U W=>?_));refine Ac (De (Ac (Cq (thn (G f R B S x y v g j u _ T O U r W) λ_ s3 Y=>?_))));obtain⟨Z,I3,q3⟩:=Y;exact wpAny_release ⟨B,Z,I3,q3⟩
noncomputable def tAsg(te:TE)(g:TG):TS:=λD σ H=>te σ H λx H1=>g x σ H1 D.nx
def q4j{j e:Expr}{o:TE}{g:TG}(B:PE X e o)(C:PG X j g)(E:swapsWithSole [j] e pos.line X.env=pure false:=by rfl)(F:swappedStores [j] e X.env=pure none:=by rfl)(G:(Jz [j] X.env).map (·.2)=[assign j X.env]:=by rfl):PS X (.Assign [j] e pos) (tAsg o g):=by
 intro f s u H D I h;refine wpAny_Assign_stores (thnE (B f s u H _ I h) λv J x L M O P=>?_) E F;rw[G];exact thn (C f J u L x v _ M O P) λ_ Q q=>q
def q0k{i:Nat}{x:Str}{e:Expr}{j:TE}{f:Pos}(o:X.N.Nodup)(u:X.N[i]?=some x)(B:Loc X.env.scope x)(C:PE X e j)(E:Jb e (some (.Name x f)) pos.line X.env=pure false:=by rfl)(F:X.fn x=true\/X.env.scope.names.lookup x=some .local:=by trivial):
  PS X (.Assign [.Name x f] e pos) (tAsg j (gName i)):=by
 intro g s G H D I h;refine wpAny_Assign_Name (thnE (C g s G H _ I h) λv Q y J L M O=>?_) E;exact q6t L o u B M (λR P=>⟨_,J,P,O⟩) F
noncomputable def tAug(i:Nat)(te:TE)(ti:TIp):TS:=λD σ H=>∃x,σ[i]?=some (some x)/\te σ H λy H1=>ti x y H1 λz H2=>D.nx (σ.set i (some z)) H2
def z7w{i:Nat}{x:Str}{e:Expr}{F:TE}{op:Operator}{G:TIp}{j:Pos}(M:X.N.Nodup)(J:X.N[i]?=some x)(C:Loc X.env.scope x)(O:PE X e F)(P:PIp X op G)(Q:X.fn x=true\/X.env.scope.names.lookup x=some .local:=by trivial):
  PS X (.AugAssign (.Name x j) op e pos) (tAug i F G):=by
 intro f s L H D I h;obtain⟨v,R,h⟩:=h;obtain⟨m,hn,hl⟩:=I.loc;have E:Vis X.env.scope x:=by rcases C with k|k;exact .inl k;exact .inr (.inl k)
 obtain⟨u,r,l⟩:=hl i x v J R E;refine wpAny_AugAssign_Name ?_;have go:wpAny (model X.prog X.w) X.A (eval e X.env) (λw o=>wpAny (model X.prog X.w) X.A (Uu op u w) (λr B=>wpAny (model X.prog X.w) X.A (storeName X.env x r) (λ_=>SP X f D .next) X.xe B) X.xe o) X.xe s:=by
  refine thnE (O f s L H _ I h) λw S y T U W Y=>?_;refine thnE (P f S L T v y u w _ U r W Y) λz s2 zv Z I2 r2 q2=>?_;exact q6t I2 M J C r2 (λs3 I3=>⟨_,Z,I3,q2⟩) Q
 rcases l with⟨hk,hm⟩|⟨hk,c,hc,g⟩
 ·exact Te I.ok.kind hk hn hm go
 ·rcases hk with hk|hk
  ·exact Uh I.ok.kind hk hc g go
  ·rcases C with k|k
   ·have:X.env.scope.names.lookup x=some .free:=hk;rw[k] at this;cases this
   ·have:X.env.scope.names.lookup x=some .free:=hk;rw[k] at this;cases this
noncomputable def tAugS(to ti te:TE)(tget:V->V->Hp->VK->Prop)(tip:TIp)(tset:TSet):TS:=λD σ H=>to σ H λo H1=>ti σ H1 λi H2=>tget o i H2 λx H3=>te σ H3 λy H4=>tip x y H4 λz H5=>tset o i z H5 λH6=>D.nx σ H6
noncomputable def PGet(X:Cx)(t:V->V->Hp->VK->Prop):Prop :=
 ∀(pins:List (Addr×Obj)) (s:Ag) (σ:St) (H:Hp) (o i:V) (ov iv:Value) (Q:VK),Inv X pins σ H s->RelV o ov->RelV i iv->t o i H Q ->
  wpAny (model X.prog X.w) X.A (getItem ov iv) (EP X pins σ Q) X.xe s
def x5o(J:PE X o to)(L:PE X i ti)(M:PGet X tget)(O:PE X e te)(P:PIp X op tip)(Q:PSet X tset)(ha:∀g j new,augStore i g j new=(do Ko [new,g,j] (setItem g j new);release [new,g,j] [];pure .next):=by intros;rfl):PS X (.AugAssign (.Subscript o i tpos) op e pos) (tAugS to ti te tget tip tset):=by
 intro f s u H D I h;refine wpAny_AugAssign_SubscriptAny (thnE (J f s u H _ I h) λg R C S T E U=>?_) ha;refine thnE (L f R u S _ T U) λj W F Y Z G q2=>?_;refine thnE (M f W u Y C F g j _ Z E G q2) λB s3 x3 H3 I3 r3 q3=>?_;refine thnE (O f s3 u H3 _ I3 q3) λv s4 x4 H4 I4 r4 q4=>?_;refine thnE (P f s4 u H4 x3 x4 B v _ I4 r3 r4 q4) λnew s5 x5 H5 I5 r5 q5=>?_;exact thn (Q f s5 u H5 C F x5 g j new _ I5 E G r5 q5) λ_ s6 ⟨H6,I6,q6⟩=>⟨u,H6,I6,q6⟩
end
section
variable{X:Cx}{pos:Pos}
noncomputable def tWhile(c:TT)(tb:TS):TS:=λD σ H=>∃W:Nat->St->Hp->Prop,(∃m,W m σ H)/\∀m σ H,W m σ H ->
 c σ H λb H1=>if b=true then ∃N:St->Hp->Prop,(∀σ' H',N σ' H'->∃m',m'<m/\W m' σ' H')/\tb { D with nx:=N,ct:=N,bk:=D.nx } σ H1 else D.nx σ H1
def q9l{c:Expr}{u:List Stmt}{Q:TT}{tb:TS}(R:Uv (model X.prog X.w) X.A X.env X.xe)(hc:PT X c Q)(hb:PSs X u tb):PS X (.While c u [] pos) (tWhile Q tb):=by
 intro g s σ H D I h;obtain⟨W,⟨m0,w0⟩,B⟩:=h;refine wpAny_While (codeAny_whileLoop (λn s'=>∃C S,Inv X g C S s'/\W n C S) ?_ m0 ⟨σ,H,I,w0⟩);rintro n s1 ⟨o,T,I1,w1⟩;refine Hn R (thnT (hc g s1 o T _ I1 (B n o T w1)) λb s2 U Y F=>?_);cases b with
 |true =>
  obtain⟨N,Z,F⟩:=F;refine Hn R (thn (hb g s2 o U _ Y F) λf s3 G=>?_);cases f with
  |next =>
   obtain⟨j,E,J,L⟩:=G;obtain⟨M,O,P⟩:=Z j E L;exact⟨M,O,j,E,J,P⟩
  |cont =>
   obtain⟨j,E,J,L⟩:=G;obtain⟨M,O,P⟩:=Z j E L;exact⟨M,O,j,E,J,P⟩
  |brk=>exact G
  |ret v=>exact G
 |false =>
  exact Kr ⟨o,U,Y,F⟩
end
structure It where
 go:Nat->Hp->Prop
 yld:Nat->Hp->V->Hp->Prop
 stop:Nat->Hp->Prop
noncomputable def FpOk(X:Cx)(pins:List (Addr×Obj))(H:Hp)(b:Addr):Prop :=
 H b=none/\b≠X.env.locals/\b∉X.fs/\(b∈X.ex\/X.s₀.heap.objs.size<=b)/\(∀x c,X.env.cells.lookup x=some c->c≠b)/\∀p∈X.pn++pins,p.1≠b
def Inv.fpOk{g:St}{b:Addr}(I:Inv X pins g H s)(f:s.heap.objs.size<=b)(hn:H' b=none):FpOk X pins H' b:=by
 refine⟨hn,Ex (Bo I.lt f),I.nofs f,.inr (Bg I.sz f),λx c e z=>?_,λp h z=>?_⟩
 ·obtain⟨v,q⟩:=I.cell x c e;exact absurd (Bo q.lt (by rw[z];exact f)) (Gu _)
 ·exact absurd (Bo (Al (I.pin p h).1) (by rw[z];exact f)) (Gu _)
structure Turn (P:Ak) (w:World) (K:Ah) (tg:Expr) (J:It) (fp:List Addr) (it:Addr) (tn:Nat->Heap->Prop):Prop where
 mem:it∈fp
 obj:∀i h,tn i h->∀b∈fp,∃o,h.get? b=some o/\∀v,o.data≠.cell v
 keep:∀i h h',tn i h->(∀b∈fp,∀o,h.get? b=some o->h'.get? b=some o)->tn i h'
 item:∀(X:Cx),X.prog=P->X.w=w->X.K=K->X.calm=true->∀(i:Nat) (pins:List (Addr×Obj)) (s:Ag) (σ:St) (H:Hp) (E:Value->Ag->Prop),Inv X pins σ H s->(∀b∈fp,FpOk X pins H b)->tn i s.heap->J.go i H ->
  wpAny (model P w) X.A (Jm (.ref it)) (λr s1=>∃u,r=some u /\
   wpAny (model P w) X.A (Nn tg (.ref it) u) (λ_ s2=>∃x H',Inv X pins σ H' s2/\RelV x u/\J.yld i H x H'/\tn (i+1) s2.heap/\∀b∈fp,H' b=none) E s1) E s
 done:∀(X:Cx),X.prog=P->X.w=w->X.K=K->X.calm=true->∀(i:Nat) (pins:List (Addr×Obj)) (s:Ag) (σ:St) (H:Hp) (E:Value->Ag->Prop),Inv X pins σ H s->(∀b∈fp,FpOk X pins H b)->tn i s.heap->J.stop i H ->
  wpAny (model P w) X.A (Jm (.ref it)) (λr s1=>r=none/\Inv X pins σ H s1) E s
 self:∀(A:Around) (i:Nat) (s:Ag) (Q:Value->Ag->Prop) (E:Value->Ag->Prop),tn i s.heap->Q (.ref it) s->wpAny (model P w) A (Ml (.ref it)) Q E s
noncomputable abbrev TI:=St->Hp->(It->Hp->Prop)->Prop
noncomputable def PIE(X:Cx)(pins:List (Addr×Obj))(σ:St)(tg:Expr)(R:It->Hp->Prop)(itv:Value)(s2:Ag):Prop :=
 ∃(it:Addr) (fp:List Addr) (tn:Nat->Heap->Prop) (J:It) (H':Hp),itv=.ref it/\Inv X pins σ H' s2/\Turn X.prog X.w X.K tg J fp it tn/\tn 0 s2.heap/\(∀b∈fp,FpOk X pins H' b)/\R J H'
noncomputable def PI(X:Cx)(tg iter:Expr)(wi:TI):Prop :=
 ∀(pins:List (Addr×Obj)) (s:Ag) (σ:St) (H:Hp) (R:It->Hp->Prop),Inv X pins σ H s->wi σ H R ->
  wpAny (model X.prog X.w) X.A (eval iter X.env) (λv s1=>wpAny (model X.prog X.w) X.A (Ml v) (PIE X pins σ tg R) X.xe s1) X.xe s
def z3u (g : s.heap.get? it = some o) (j : o.cls = .type n) (hd : o.data = .fields vs)
    (hn : ["enumerate", "zip", "dict_itemiterator", "dict_reverseitemiterator", "odict_iterator", "itertools.zip_longest", "itertools.pairwise"].contains n = false) (f : Q () s) : wpAny M A (Nn tg (.ref it) u) Q E s := by
  cases tg <;> first
    | exact Ad f
    | (cases u <;> first
        | exact Ad f
        | (refine Ac (Xb g ?_)
           rw [j, hd]
           show wpAny M A (if (["enumerate", "zip", "dict_itemiterator", "dict_reverseitemiterator", "odict_iterator", "itertools.zip_longest", "itertools.pairwise"].contains n && vs[0]? == some (El _)) = true then _ else _) Q E s
           rw [if_neg (by intro h; rw [hn, Sk] at h; cases h)]
           exact Ad f))
noncomputable def Itl(K:Ah)(a:Addr):It :=
 ⟨λi H=>∃xs x,SqL K H a xs/\xs[i]?=some x,λi H x H'=>H'=H/\∀xs,SqL K H a xs->xs[i]?=some x,λi H=>∃xs,SqL K H a xs/\xs.length<=i⟩
noncomputable def Itt(K:Ah)(a:Addr):It :=
 ⟨λi H=>∃xs x,SqT K H a xs/\xs[i]?=some x,λi H x H'=>H'=H/\∀xs,SqT K H a xs->xs[i]?=some x,λi H=>∃xs,SqT K H a xs/\xs.length<=i⟩
noncomputable def Itr(lo:Int)(n:Nat):It:=⟨λi _=>i<n,λi H x H'=>H'=H/\x=.int (lo+i),λi _=>n<=i⟩
def z7x{K:Ah}(a it:Addr):Turn P w K tg (Itl K a) [it] it (λi h=>h.IsListIter it a i) where
 mem:=by simp
 obj:=λi h st b g=>by
  have e:b=it:=by grind
  subst e;obtain⟨o,e,c,d⟩:=st;exact⟨o,e,λv z=>by rw[d] at z;cases z⟩
 keep:=λi h D st k=>st.at λo e=>k it (by simp) o e
 item:=by
  intro X F G J W i f s Y H E I B st L;subst F G J;obtain⟨Z,x,C,M⟩:=L;obtain⟨O,Q,p,hz⟩:=I.list C;obtain⟨u,hu,ru⟩:=Q.get M;obtain⟨f0,R,f2,S,T,U⟩:=B it (by simp);refine wpAny_pyNext_list_item st p.isList (by simpa using hu) λD j sb=>?_;have I1:Inv X f Y H { s with heap:=D }:=I.turned (t':=s.toks) (λb o g e=>(sb.2 b g).trans e) f0 R S T U;obtain⟨o,e,c,d⟩:=id j;exact⟨u,rfl,z3u e c d (by decide) ⟨x,H,I1,ru,⟨rfl,λys hy=>by rw[I.list_inj hy C];exact M⟩,j,λb g=>(B b g).1⟩⟩
 done:=by
  intro X F G J W i f s Y H E I B st L;subst F G J;obtain⟨Z,C,M⟩:=L;obtain⟨O,Q,p,hz⟩:=I.list C;obtain⟨f0,R,f2,S,T,U⟩:=B it (by simp);have hl:=Q.length;exact wpAny_pyNext_list_end (I.ok.hd W) st p.isList (by simp;lia) λD eb=>⟨rfl,I.turned (t':=s.toks) (λb o g e=>eb b o g e) f0 R S T U⟩
 self:=λ_ _ _ _ _ st h=>wpAny_pyIter_listiter st h
def z6i{K:Ah}(a it:Addr):Turn P w K tg (Itt K a) [it] it (λi h=>h.IsTupleIter it a i) where
 mem:=by simp
 obj:=λi h st b j=>by
  have e:b=it:=by grind
  subst e;obtain⟨o,e,c,d⟩:=st;exact⟨o,e,λv z=>by rw[d] at z;cases z⟩
 keep:=λi h F st k=>st.at λo e=>k it (by simp) o e
 item:=by
  intro X G J L W i f s Y H E I C st M;subst G J L;obtain⟨Z,x,D,O⟩:=M;obtain⟨g,Q,p,hz⟩:=I.tuple D;obtain⟨u,hu,ru⟩:=Q.get O;obtain⟨f0,R,f2,S,T,U⟩:=C it (by simp);refine wpAny_pyNext_tuple_item st (show s.heap.IsTuple a g.toArray from p) (by simpa using hu) λF B sb=>?_;have I1:Inv X f Y H { s with heap:=F }:=I.turned (t':=s.toks) (λb o j e=>(sb.2 b j).trans e) f0 R S T U;obtain⟨o,e,c,d⟩:=id B;exact⟨u,rfl,z3u e c d (by decide) ⟨x,H,I1,ru,⟨rfl,λys hy=>by rw[I.tuple_inj hy D];exact O⟩,B,λb j=>(C b j).1⟩⟩
 done:=by
  intro X G J L W i f s Y H E I C st M;subst G J L;obtain⟨Z,D,O⟩:=M;obtain⟨g,Q,p,hz⟩:=I.tuple D;obtain⟨f0,R,f2,S,T,U⟩:=C it (by simp);have hl:=Q.length;exact wpAny_pyNext_tuple_end (I.ok.hd W) st (show s.heap.IsTuple a g.toArray from p) (by simp;lia) λF eb=>⟨rfl,I.turned (t':=s.toks) (λb o j e=>eb b o j e) f0 R S T U⟩
 self:=λ_ _ _ _ _ st h=>wpAny_pyIter_tupleiter st h
def z6j{K:Np}(it:Addr)(u:Int)(n:Nat):Turn P w K tg (Itr u n) [it] it (λi h=>IsRangeIter h it (u+(i:Nat)*1) ((n:Int)-(i:Nat)) 1) where
 mem:=by simp
 obj:=λi h st b g=>by
  have e:b=it:=by grind
  subst e;exact⟨_,st,λv z=>by
   have z':=z;cases z'⟩
 keep:=λi h C st k=>k it (by simp) _ st
 item:=by
  intro X O Q R D i f s S H E I B st F;subst O Q R;obtain⟨f0,G,T,J,L,M⟩:=B it (by simp);have W:=Walks.range (prog:=X.prog) (w:=X.w) (I.ok.hd D) it u 1 n;refine W.item i s _ _ F st λv C tk U j Y=>?_;obtain⟨t,rfl⟩:=U;have Z:Inv X f S H { s with heap:=C,toks:=tk }:=I.turned (λb o g e=>Y b o (by simpa using g) e) f0 G J L M;refine⟨_,rfl,z3u j rfl rfl (by decide) ⟨.int (u+i),H,Z,⟨t,?_⟩,⟨rfl,rfl⟩,j,λb g=>(B b g).1⟩⟩;rw[Int.mul_one]
 done:=by
  intro X O Q R D i f s S H E I B st F;obtain⟨f0,G,T,J,L,M⟩:=B it (by simp);exact wpAny_pyNext_range_end (I.ok.hd D) st (by have:n<=i:=F;lia) λC eb=>⟨rfl,I.turned (t':=s.toks) (λb o g e=>eb b o g e) f0 G J L M⟩
 self:=λ_ _ _ _ _ st h=>wpAny_pyIter_rangeiter st h
section
variable{X:Cx}{tg:Expr}
def z5f{g:St}{f:Int}(I:Inv X pins g H s)(j : -(2^62)<=f)(B:f<2^62)(C : -(2^62)<=hi)(D:hi<2^62)(q:R (Itr f (hi-f).toNat) H):wpAny (model X.prog X.w) X.A (Ml (.ref s.heap.objs.size)) (PIE X pins g tg R) E { s with heap:=s.heap.push { cls:=.type "range",data:=.fields #[.int f t,.int hi u,.int 1 v] },toks:=tk }:=by
 refine wpAny_pyIter_range (IsRange.new ..) (small_one j B C D) ?_;have h:Inv X pins g H { s with heap:=s.heap.push { cls:=.type "range",data:=.fields #[.int f t,.int hi u,.int 1 v] },toks:=tk }:=I.kept λb o e=>Ae _ e;refine⟨(s.heap.push { cls:=.type "range",data:=.fields #[.int f t,.int hi u,.int 1 v] }).objs.size,[(s.heap.push { cls:=.type "range",data:=.fields #[.int f t,.int hi u,.int 1 v] }).objs.size],_,_,H,rfl,
  h.kept (t':=tk) λb o e=>Ae _ e,z6j _ f (hi-f).toNat,?_,λb F=>?_,q⟩
 ·have G:f+((0:Nat):Int)*1=f:=by simp
  have J:(((hi-f).toNat:Nat):Int)-((0:Nat):Int)=Du.Range.rangeSize f hi 1:=by rw[rangeSize_one];split<;>lia
  rw[G,J];exact An _ rfl
 ·have e:b=(s.heap.push { cls:=.type "range",data:=.fields #[.int f t,.int hi u,.int 1 v] }).objs.size:=by simpa using F
  subst e;exact h.fpOk (Ai _) (h.hok.fresh (Ai _))
noncomputable def iRng1(ta:TA):TI:=λσ H R=>ta σ H λvs H1=>∃j:Int,vs=[.int j] /\ -(2^62)<=j/\j<2^62/\R (Itr 0 j.toNat) H1
noncomputable def iRng2(ta:TA):TI:=λσ H R=>ta σ H λvs H1=>∃i j:Int,vs=[.int i,.int j]/\(-(2^62)<=i/\i<2^62 /\ -(2^62)<=j/\j<2^62)/\R (Itr i (j-i).toNat) H1
def q3m{a:Expr}{u:TA}{p f:Pos}(v:Gl X "range")(B:X.mg "range" = none)(ha:PA X [a] u)(C:Bc [a] X.env=[(false,eval a X.env)]:=by rfl):PI X tg (.Call (.Name "range" p) [a] [] f) (iRng1 u):=by
 intro g s D H R I h;refine Call_ (q4z I v B boot_range (Ed (thn (ha f g s D H _ I h) λL M E=>?_) C rfl));obtain⟨vs,O,F,G,o⟩:=E;obtain⟨j,e,o,J,q⟩:=o;subst e;cases G with
 |cons r rr =>
  cases rr;obtain⟨t,rfl⟩:=r;exact call_range_1 (z5f F (by lia) (by lia) o J (by simpa using q))
def z7y{a b:Expr}{v:TA}{p f:Pos}(B:Gl X "range")(C:X.mg "range" = none)(ha:PA X [a,b] v)(D:Bc [a,b] X.env=[(false,eval a X.env),(false,eval b X.env)]:=by rfl)(g:Bc [b] X.env=[(false,eval b X.env)]:=by rfl):
  PI X tg (.Call (.Name "range" p) [a,b] [] f) (iRng2 v):=by
 intro o s E H R I h;refine Call_ (q4z I B C boot_range (Ed (thn (ha f o s E H _ I h) λP Q F=>?_) (by rw[D,g]) (by rw[g];rfl)));obtain⟨vs,S,G,J,u⟩:=F;obtain⟨i,j,e,⟨u,L,M,O⟩,q⟩:=u;subst e;cases J with
 |cons r rr =>
  cases rr with
  |cons r' rr =>
   cases rr;obtain⟨t,rfl⟩:=r;obtain⟨T,rfl⟩:=r';exact call_range_2 (z5f G u L M O q)
noncomputable def tFor(wi:TI)(g:TG)(tb:TS):TS:=λD σ H=>wi σ H λJ H1=>∃W:Nat->Nat->St->Hp->Prop,(∃m,W 0 m σ H1)/\∀i m σ H,W i m σ H ->
 (J.stop i H/\D.nx σ H)\/(J.go i H/\∃N:St->Hp->Prop,(∀σ' H',N σ' H'->∃m',m'<m/\W (i+1) m' σ' H')/\∀x H',J.yld i H x H'->g x σ H' λσ2 H2=>tb { D with nx:=N,ct:=N,bk:=D.nx } σ2 H2)
noncomputable def pinsAt(fp:List Addr)(h:Heap):List (Addr×Obj):=fp.filterMap λb=>(h.get? b).map λo=>(b,o)
def q2d(f:b∈fp)(e:h.get? b=some o):(b,o)∈pinsAt fp h:=Uw.mpr ⟨b,f,by rw[e];rfl⟩
def z7z(f:p∈pinsAt fp h):p.1∈fp/\h.get? p.1=some p.2:=by
 obtain⟨b,g,e⟩:=Uw.mp f;cases q:h.get? b with
 |none=>rw[q] at e;cases e
 |some o =>
  rw[q] at e;have e':=Cu e;subst e';exact⟨g,q⟩
def Inv.pinned{f:St}(I:Inv X pins f H s)(j:∀b∈fp,FpOk X pins H b)(u:∀b∈fp,∃o,s.heap.get? b=some o/\∀v,o.data≠.cell v):Inv X (pins++pinsAt fp s.heap) f H s :=
 I.pins_of λp B=>(Ba.mp B).elim (λz=>I.pin p (Bw _ z)) λz=>by
  obtain⟨g,e⟩:=z7z z;obtain⟨f0,C,D,_⟩:=j p.1 g;obtain⟨o,h,d⟩:=u p.1 g;rw[e] at h;cases h;exact⟨e,f0,C,D,d⟩
def Inv.unpinned{f:St}(I:Inv X (pins++pl) f H s):Inv X pins f H s:=I.pins_of λp g=>I.pin p (Bw _ (Co _ g))
def q1u{C:Expr}{R:List Stmt}{wi:TI}{g:TG}{tb:TS}{a3:Pos}(Y:Uv (model X.prog X.w) X.A X.env X.xe)(hc:X.calm=true)(hi:PI X tg C wi)(hg:PG X tg g)(E:PSs X R tb)(hs:∀x,Md C X.env x=pure x:=by intro _;rfl):PS X (.For tg C R [] a3) (tFor wi g tb):=by
 intro j s σ H D I h;refine wpAny_For (thn (hi j s σ H _ I h) λv s1 h1=>thn h1 λa7 s2 h2=>?_) hs;obtain⟨it,Z,tn,J,H2,e,I2,T,a4,f2,W,⟨m0,w0⟩,a0⟩:=h2;subst e;have F:∀{Q:Hp},(∀b∈Z,Q b=none)->∀b∈Z,FpOk X j Q b:=λhn b E=>⟨hn b E,(f2 b E).2⟩
 refine codeAny_forLoop_any (λn s'=>∃i G Q,Inv X j G Q s'/\tn i s'.heap/\(∀b∈Z,Q b=none)/\W i n G Q) ?_ m0 ⟨0,σ,H2,I2,a4,λb E=>(f2 b E).1,w0⟩;rintro n s3 ⟨i,L,H3,I3,a1,a2,w3⟩;rcases a0 i n L H3 w3 with⟨stop,qn⟩|⟨go,N,hN,step⟩
 ·refine Hn Y (thn (T.done X rfl rfl rfl hc i j s3 L H3 X.xe I3 (F a2) a1 stop) λr s4 ⟨hr,I4⟩=>?_);subst hr;exact Kr ⟨L,H3,I4,qn⟩
 ·refine Hn Y (thn (T.item X rfl rfl rfl hc i j s3 L H3 X.xe I3 (F a2) a1 go) λr s4 qz=>?_);obtain⟨u,hr,h4⟩:=qz;subst hr;refine Hn Y (thn h4 λ_ s5 qz=>?_);obtain⟨x,H5,I5,r5,y5,U,a5⟩:=qz;have I5':=I5.pinned (F a5) (T.obj _ _ U);refine Hn Y (thn (hg _ s5 L H5 x u _ I5' r5 (step x H5 y5)) λ_ s6 qz=>?_);obtain⟨a6,H6,I6,q6⟩:=qz;refine Hn Y (thn (E _ s6 a6 H6 _ I6 q6) λf s7 S=>?_);have M:∀{B:St} {O:Hp},Inv X (j++pinsAt Z s5.heap) B O s7->N B O->∃m,m<n/\∃i G Q,Inv X j G Q s7/\tn i s7.heap/\(∀b∈Z,Q b=none)/\W i m G Q:=λ{B O} P n7=>by
   obtain⟨m',hm,w7⟩:=hN B O n7;refine⟨m',hm,i+1,B,O,P.unpinned,T.keep _ _ _ U λb E o e=>(P.pin (b,o) (Bw _ (Bw _ (q2d E e)))).1,λb E=>?_,w7⟩;obtain⟨o,e,d⟩:=T.obj _ _ U b E;exact(P.pin (b,o) (Bw _ (Bw _ (q2d E e)))).2.1
  cases f with
  |next=>obtain⟨B,O,P,n7⟩:=S;exact M P n7
  |cont=>obtain⟨B,O,P,n7⟩:=S;exact M P n7
  |brk=>obtain⟨B,O,P,S⟩:=S;exact⟨B,O,P.unpinned,S⟩
  |ret v=>obtain⟨x7,B,O,P,r7,S⟩:=S;exact⟨x7,B,O,P.unpinned,r7,S⟩
end
def q3z{K:Np}{g:TG}{tb:TS}{D:Ends}(h:Nat->St->Hp->Prop)(B:h 0 f H)(hl:∀i f H,i<=xs.length->h i f H->SqL K H a xs)(C:∀i x f H,xs[i]?=some x->h i f H->g x f H λj u=>tb { D with nx:=h (i+1),ct:=h (i+1),bk:=D.nx } j u)(hd:∀f H,h xs.length f H->D.nx f H):
  ∃W:Nat->Nat->St->Hp->Prop,(∃m,W 0 m f H)/\∀i m f H,W i m f H ->
   ((Itl K a).stop i H/\D.nx f H)\/((Itl K a).go i H/\∃N:St->Hp->Prop,(∀o H',N o H'->∃v,v<m/\W (i+1) v o H')/\∀x H',(Itl K a).yld i H x H'->g x f H' λj u=>tb { D with nx:=N,ct:=N,bk:=D.nx } j u):=by
 refine⟨λi m f H=>m=xs.length-i/\i<=xs.length/\h i f H,⟨xs.length,by simp,Bf _,B⟩,?_⟩;rintro i m f H ⟨rfl,E,p⟩;have q:=hl i f H E p;by_cases s:i<xs.length
 ·refine .inr ⟨⟨xs,xs[i],q,by simp[s]⟩,h (i+1),λo H' F=>⟨xs.length-(i+1),by lia,rfl,s,F⟩,λx H' y=>?_⟩;obtain⟨e,y⟩:=y;subst e;exact C i x f _ (y xs q) p
 ·have e:i=xs.length:=by lia
  subst e;exact .inl ⟨⟨xs,q,Ai _⟩,hd f H p⟩
def q5c{u:Int}{g:TG}{tb:TS}{D:Ends}(h:Nat->St->Hp->Prop)(C:h 0 f H)(E:∀i f H,i<n->h i f H->g (.int (u+i)) f H λj v=>tb { D with nx:=h (i+1),ct:=h (i+1),bk:=D.nx } j v)(hd:∀f H,h n f H->D.nx f H):
  ∃W:Nat->Nat->St->Hp->Prop,(∃m,W 0 m f H)/\∀i m f H,W i m f H ->
   ((Itr u n).stop i H/\D.nx f H)\/((Itr u n).go i H/\∃N:St->Hp->Prop,(∀o H',N o H'->∃B,B<m/\W (i+1) B o H')/\∀x H',(Itr u n).yld i H x H'->g x f H' λj v=>tb { D with nx:=N,ct:=N,bk:=D.nx } j v):=by
 refine⟨λi m f H=>m=n-i/\i<=n/\h i f H,⟨n,by simp,Bf _,C⟩,?_⟩;rintro i m f H ⟨rfl,G,p⟩;by_cases s:i<n
 ·refine .inr ⟨s,h (i+1),λo H' F=>⟨n-(i+1),by lia,rfl,s,F⟩,λx H' y=>?_⟩;obtain⟨e,y⟩:=y;subst e y;exact E i f _ s p
 ·have e:i=n:=by lia
  subst e;exact .inl ⟨Ai _,hd f H p⟩
def q9m(j:St->Hp->Prop)(o:St->Hp->Nat)(u:j f H)(v:∀f H,j f H->c f H λb h=>if b=true then tb { D with nx:=λg H'=>j g H'/\o g H'<o f H,ct:=λg H'=>j g H'/\o g H'<o f H,bk:=D.nx } f h else D.nx f h)(mono:∀f H Q s,(∀b h,Q b h->s b h)->c f H Q->c f H s):tWhile c tb D f H:=by
 refine⟨λm f H=>m=o f H/\j f H,⟨_,rfl,u⟩,?_⟩;rintro m f H ⟨rfl,p⟩;refine mono f H _ _ (λb h q=>?_) (v f H p);cases b with
 |true=>exact⟨_,λg H' ⟨B,l⟩=>⟨_,l,rfl,B⟩,q⟩
 |false=>exact q
noncomputable abbrev R2:=V->V->Hp->VK->Prop
noncomputable def OpR(X:Cx)(f:Value->Value->Sem Value)(r:R2):Prop :=
 ∀(pins:List (Addr×Obj)) (s:Ag) (σ:St) (H:Hp) (x y:V) (v u:Value) (Q:VK),Inv X pins σ H s->RelV x v->RelV y u->r x y H Q ->
  wpAny (model X.prog X.w) X.A (f v u) (EP X pins σ Q) X.xe s
noncomputable def UnR(X:Cx)(f:Value->Sem Value)(r:V->Hp->VK->Prop):Prop :=
 ∀(pins:List (Addr×Obj)) (s:Ag) (σ:St) (H:Hp) (x:V) (v:Value) (Q:VK),Inv X pins σ H s->RelV x v->r x H Q ->
  wpAny (model X.prog X.w) X.A (f v) (EP X pins σ Q) X.xe s
noncomputable def CallR(X:Cx)(f:Value)(r:List V->Hp->VK->Prop):Prop :=
 ∀(pins:List (Addr×Obj)) (s:Ag) (σ:St) (H:Hp) (xs:List V) (us:List Value) (Q:VK),Inv X pins σ H s->Vals xs us->r xs H Q ->
  wpAny (model X.prog X.w) X.A (call f us) (EP X pins σ Q) X.xe s
noncomputable def TruR(X:Cx)(r:V->Hp->(Bool->Hp->Prop)->Prop):Prop :=
 ∀(pins:List (Addr×Obj)) (s:Ag) (σ:St) (H:Hp) (x:V) (v:Value) (Q:Bool->Hp->Prop),Inv X pins σ H s->RelV x v->r x H Q ->
  wpAny (model X.prog X.w) X.A (truthy v) (TP X pins σ Q) X.xe s
noncomputable def tOp(r:R2)(ta tb:TE):TE:=λσ H Q=>ta σ H λx H1=>tb σ H1 λy H2=>r x y H2 Q
noncomputable def tUn(r:V->Hp->VK->Prop)(ta:TE):TE:=λσ H Q=>ta σ H λx H1=>r x H1 Q
noncomputable def rI(C:Int->Int->Prop)(g:Int->Int->V):R2:=λx y H Q=>∃i j,x=.int i/\y=.int j/\C i j/\Q (g i j) H
noncomputable def rI0(g:Int->Int->V):R2:=λx y H Q=>∃i j,x=.int i/\y=.int j/\Q (g i j) H
noncomputable def rU(g:Int->V):V->Hp->VK->Prop:=λx H Q=>∃i,x=.int i/\Q (g i) H
section
variable{X:Cx}{a b c:Expr}{ta tb tc:TE}{pos:Pos}
def binT(ha:PE X a ta)(E:PE X b tb){g:St}{R:V->V->Hp->Prop}(I:Inv X pins g H s)(h:ta g H λx D=>tb g D λy j=>R x y j){f:Value->Value->Sem Value}(F:∀v u C x y j,Inv X pins g j C->RelV x v->RelV y u->R x y j->wpAny (model X.prog X.w) X.A (f v u) Q X.xe C):
  wpAny (model X.prog X.w) X.A (eval a X.env) (λv o=>wpAny (model X.prog X.w) X.A (eval b X.env) (λu B=>wpAny (model X.prog X.w) X.A (f v u) Q X.xe B) X.xe o) X.xe s:=by
 refine thnE (ha pins s g H _ I h) λv G x D J L M=>?_;refine thnE (E pins G g D _ J M) λu C y j O P S=>?_;exact F v u C x y j O L P S
def q0v{op:Operator}{r:R2}(g:OpR X (Gj op) r)(ha:PE X a ta)(j:PE X b tb):PE X (.BinOp a op b pos) (tOp r ta tb):=by
 intro f s o H Q I h;exact wpAny_BinOp (binT ha j I h λv u B x y C D E F q=>g f B o C x y v u Q D E F q)
def q5d{op:UnaryOp}{r:V->Hp->VK->Prop}(j:UnR X (unaryOp op) r)(ha:PE X a ta):PE X (.UnaryOp op a pos) (tUn r ta):=by
 intro f s g H Q I h;exact UnaryOp_ (thnE (ha f s g H _ I h) λv o x u B C D=>j f o g u x v Q B C D)
def opI{g:Int->Int->Int}(o:∀(i j:Int) (t u:Tok) (s:Ag) (Q:Value->Ag->Prop) (E:Value->Ag->Prop),C i j->Q (.int (g i j) s.toks) { s with toks:=s.toks+1 }->wpAny (model X.prog X.w) X.A (f (.int i t) (.int j u)) Q E s):
  OpR X f (rI C λi j=>.int (g i j)):=by
 intro B s L H x y v u Q I D F h;obtain⟨i,j,rfl,rfl,G,q⟩:=h;obtain⟨t,rfl⟩:=D;obtain⟨J,rfl⟩:=F;exact o i j t J s _ _ G ⟨.int (g i j),H,I.tok _,⟨_,rfl⟩,q⟩
def opI0{g:Int->Int->Int}(o:∀(i j:Int) (t u:Tok) (s:Ag) (Q:Value->Ag->Prop) (E:Value->Ag->Prop),Q (.int (g i j) s.toks) { s with toks:=s.toks+1 }->wpAny (model X.prog X.w) X.A (f (.int i t) (.int j u)) Q E s):
  OpR X f (rI0 λi j=>.int (g i j)):=by
 intro B s G H x y v u Q I C D h;obtain⟨i,j,rfl,rfl,q⟩:=h;obtain⟨t,rfl⟩:=C;obtain⟨F,rfl⟩:=D;exact o i j t F s _ _ ⟨.int (g i j),H,I.tok _,⟨_,rfl⟩,q⟩
def opB0{g:Int->Int->Bool}(o:∀(i j:Int) (t u:Tok) (s:Ag) (Q:Value->Ag->Prop) (E:Value->Ag->Prop),Q (.bool (g i j)) s->wpAny (model X.prog X.w) X.A (f (.int i t) (.int j u)) Q E s):
  OpR X f (rI0 λi j=>.bl (g i j)):=by
 intro B s G H x y v u Q I C D h;obtain⟨i,j,rfl,rfl,q⟩:=h;obtain⟨t,rfl⟩:=C;obtain⟨F,rfl⟩:=D;exact o i j t F s _ _ ⟨.bl (g i j),H,I,rfl,q⟩
noncomputable def CDiv(i j:Int):Prop:=0<j/\j<1073741824
noncomputable def CPow(i j:Int):Prop:=0<=j/\j<=1000000/\i.natAbs<2^64
noncomputable def CMul(i j:Int):Prop:=(-(2^64)<i/\i<2^64)\/(-(2^64)<j/\j<2^64)
def CMul.ok(h:CMul i j):IntMulOk i j:=by
 rcases h with⟨f,g⟩|⟨f,g⟩
 ·exact .of_left (intBits_le_64 f g)
 ·exact .of_right (intBits_le_64 f g)
def op_add:OpR X (Gj .Add) (rI0 λi j=>.int (i+j)):=opI0 λ_ _ _ _ _ _ _ q=>add_int q
def z5g:OpR X (Gj .Sub) (rI0 λi j=>.int (i-j)):=opI0 λ_ _ _ _ _ _ _ q=>sub_int q
def op_mul:OpR X (Gj .Mult) (rI CMul λi j=>.int (i*j)):=opI λ_ _ _ _ _ _ _ f q=>mul_int q f.ok
def z8a:OpR X (Gj .FloorDiv) (rI CDiv λi j=>.int (i / j)):=opI λi j _ _ _ _ _ f q=>by
 have g:=f.1;have h:=f.2;exact floordiv_int (by lia) (by rw[Int.fdiv_eq_ediv_of_nonneg i (by lia)];exact q) (.inl (PyProof.noPylong_small (by lia)))
def q8r:OpR X (Gj .Mod) (rI (λ_ j=>0<j) λi j=>.int (i%j)):=opI λi j _ _ _ _ _ f q=>by
 exact mod_int' (by lia) (by rw[Int.fmod_eq_emod_of_nonneg i (by lia)];exact q)
def x4n:OpR X (Gj .Pow) (rI CPow λi j=>.int (i^j.toNat)):=opI λ_ _ _ _ _ _ _ f q=>pow_int_small f.1 f.2.1 f.2.2 q
def z3v:OpR X (Uu .Add) (rI0 λi j=>.int (i+j)):=opI0 λ_ _ _ _ _ _ _ q=>iadd_int q
def unI{g:Int->Int}(j:∀(i:Int) (t:Tok) (s:Ag) (Q:Value->Ag->Prop) (E:Value->Ag->Prop),Q (.int (g i) s.toks) { s with toks:=s.toks+1 }->wpAny (model X.prog X.w) X.A (f (.int i t)) Q E s):
  UnR X f (rU λi=>.int (g i)):=by
 intro o s B H x v Q I u h;obtain⟨i,rfl,q⟩:=h;obtain⟨t,rfl⟩:=u;exact j i t s _ _ ⟨.int (g i),H,I.tok _,⟨_,rfl⟩,q⟩
def q2j:UnR X (unaryOp .USub) (rU λi=>.int (-i)):=unI λ_ _ _ _ _ q=>neg_int q
end
noncomputable def scal:V->V->Bool
 |.non,.non=>true|.non,.int _=>true|.int _,.non=>true|.non,.bl _=>true|.bl _,.non=>true|.non,.str _=>true|.str _,.non=>true
 |.int _,.int _=>true|.bl _,.bl _=>true|.str _,.str _=>true|.byt _,.byt _=>true
 |.int _,.str _=>true|.str _,.int _=>true|.bl _,.str _=>true|.str _,.bl _=>true
 |_,_=>false
noncomputable def rEq:R2:=λx y H Q=>scal x y=true/\Q (.bl (decide (x=y))) H
noncomputable def rNe:R2:=λx y H Q=>scal x y=true/\Q (.bl (!decide (x=y))) H
def z8b:decide (V.int i=V.int j)=(i==j):=by
 rw[Nq];simp
def x4o:decide (V.bl i=V.bl j)=(i==j):=by
 rw[Nq];simp
def dec_str:decide (V.str i=V.str j)=(i==j):=by
 rw[Nq];simp
def z8c:decide (V.byt i=V.byt j)=(i.toList==j.toList):=by
 rw[Nq];cases i;cases j;simp
section
variable{X:Cx}{a b c:Expr}{ta tb tc:TE}{pos:Pos}
def q0y{f:St}(I:Inv X pins f H s)(q:Q (.bl k) H)(e:k=k'):EP X pins f Q (.bool k') s:=by
 subst e;exact⟨.bl k,H,I,rfl,q⟩
def op_eq:OpR X (Cj .Eq) rEq:=by
 intro C s D H x y v u Q I B f h;obtain⟨o,q⟩:=h;cases x with
 |non =>
  cases B;cases y with
  |non=>cases f;exact PySem.EqNone.eq_none_none (q0y I q (by simp))
  |bl j=>cases f;exact PySem.EqNone.eq_none_bool (q0y I q (by simp))
  |int j=>obtain⟨g,rfl⟩:=f;exact PySem.EqNone.eq_none_int (q0y I q (by simp))
  |str j=>obtain⟨g,rfl⟩:=f;exact PySem.EqNone.eq_none_str (q0y I q (by simp))
  |_=>exact absurd (show false=true from o) Bl
 |bl i =>
  cases B;cases y with
  |non=>cases f;exact PySem.EqNone.eq_bool_none (q0y I q (by simp))
  |bl j=>cases f;exact eq_bool (q0y I q x4o)
  |str j=>obtain⟨g,rfl⟩:=f;exact PySem.EqMixed.eq_bool_str (q0y I q (by simp))
  |_=>exact absurd (show false=true from o) Bl
 |int i =>
  obtain⟨t,rfl⟩:=B;cases y with
  |non=>cases f;exact PySem.EqNone.eq_int_none (q0y I q (by simp))
  |int j=>obtain⟨g,rfl⟩:=f;exact eq_int (q0y I q z8b)
  |str j=>obtain⟨g,rfl⟩:=f;exact PySem.EqMixed.eq_int_str (q0y I q (by simp))
  |_=>exact absurd (show false=true from o) Bl
 |str i =>
  obtain⟨t,rfl⟩:=B;cases y with
  |non=>cases f;exact PySem.EqNone.eq_str_none (q0y I q (by simp))
  |bl j=>cases f;exact PySem.EqMixed.eq_str_bool (q0y I q (by simp))
  |int j=>obtain⟨g,rfl⟩:=f;exact PySem.EqMixed.eq_str_int (q0y I q (by simp))
  |str j=>obtain⟨g,rfl⟩:=f;exact eq_str (q0y I q dec_str)
  |_=>exact absurd (show false=true from o) Bl
 |byt i =>
  obtain⟨t,rfl⟩:=B;cases y with
  |byt j=>obtain⟨g,rfl⟩:=f;exact W.eq_bytes (q0y I q z8c)
  |_=>exact absurd (show false=true from o) Bl
 |_=>cases y<;>exact absurd (show false=true from o) Bl
def op_ne:OpR X (Cj .NotEq) rNe:=by
 intro C s D H x y v u Q I B f h;obtain⟨o,q⟩:=h;cases x with
 |non =>
  cases B;cases y with
  |non=>cases f;exact PySem.EqNone.ne_none_none (q0y I q (by simp))
  |bl j=>cases f;exact PySem.EqNone.ne_none_bool (q0y I q (by simp))
  |int j=>obtain⟨g,rfl⟩:=f;exact PySem.EqNone.ne_none_int (q0y I q (by simp))
  |str j=>obtain⟨g,rfl⟩:=f;exact PySem.EqNone.ne_none_str (q0y I q (by simp))
  |_=>exact absurd (show false=true from o) Bl
 |bl i =>
  cases B;cases y with
  |non=>cases f;exact PySem.EqNone.ne_bool_none (q0y I q (by simp))
  |bl j=>cases f;exact ne_bool (q0y I q (congrArg not x4o))
  |str j=>obtain⟨g,rfl⟩:=f;exact PySem.EqMixed.ne_bool_str (q0y I q (by simp))
  |_=>exact absurd (show false=true from o) Bl
 |int i =>
  obtain⟨t,rfl⟩:=B;cases y with
  |non=>cases f;exact PySem.EqNone.ne_int_none (q0y I q (by simp))
  |int j=>obtain⟨g,rfl⟩:=f;exact ne_int (q0y I q (congrArg not z8b))
  |str j=>obtain⟨g,rfl⟩:=f;exact PySem.EqMixed.ne_int_str (q0y I q (by simp))
  |_=>exact absurd (show false=true from o) Bl
 |str i =>
  obtain⟨t,rfl⟩:=B;cases y with
  |non=>cases f;exact PySem.EqNone.ne_str_none (q0y I q (by simp))
  |bl j=>cases f;exact PySem.EqMixed.ne_str_bool (q0y I q (by simp))
  |int j=>obtain⟨g,rfl⟩:=f;exact PySem.EqMixed.ne_str_int (q0y I q (by simp))
  |str j=>obtain⟨g,rfl⟩:=f;exact ne_str (q0y I q (congrArg not dec_str))
  |_=>exact absurd (show false=true from o) Bl
 |byt i =>
  obtain⟨t,rfl⟩:=B;cases y with
  |byt j=>obtain⟨g,rfl⟩:=f;exact W.ne_bytes (q0y I q (congrArg not z8c))
  |_=>exact absurd (show false=true from o) Bl
 |_=>cases y<;>exact absurd (show false=true from o) Bl
def z3w:OpR X (Cj .Lt) (rI0 λi j=>.bl (decide (i<j))):=opB0 λ_ _ _ _ _ _ _ q=>lt_int q
def op_le:OpR X (Cj .LtE) (rI0 λi j=>.bl (decide (i<=j))):=opB0 λ_ _ _ _ _ _ _ q=>le_int q
def z1e:OpR X (Cj .Gt) (rI0 λi j=>.bl (decide (j<i))):=opB0 λ_ _ _ _ _ _ _ q=>gt_int q
def op_ge:OpR X (Cj .GtE) (rI0 λi j=>.bl (decide (j<=i))):=opB0 λ_ _ _ _ _ _ _ q=>ge_int q
def op_in_str:OpR X (Cj .In) (λx y H Q=>∃i j,x=.str i/\y=.str j/\Q (.bl (!(Gy j i 0 j.length 1).isEmpty)) H):=by
 intro f s B H x y v u Q I g o h;obtain⟨i,j,rfl,rfl,q⟩:=h;obtain⟨t,rfl⟩:=g;obtain⟨C,rfl⟩:=o;exact in_str (q0y I q rfl)
def OpR.or(h:OpR X f r)(h':OpR X f r'):OpR X f (λx y H Q=>r x y H Q\/r' x y H Q):=by
 intro g s j H x y v u Q I o B q;rcases q with q|q
 ·exact h g s j H x y v u Q I o B q
 ·exact h' g s j H x y v u Q I o B q
def nomark(b:Expr)(h:op≠.In:=by decide)(j:op≠.NotIn:=by decide):Hu op b=false:=by
 have f:(op==CmpOp.In)=false:=by grind
 have g:(op==CmpOp.NotIn)=false:=by grind
 cases b<;>simp[Hu,f,g]
def q2r{op:CmpOp}{r:R2}(g:OpR X (Cj op) r)(ha:PE X a ta)(j:PE X b tb)(o:Hu op b=false):PE X (.Compare a [op] [b] pos) (tOp r ta tb):=by
 intro f s B H Q I h;exact wpAny_Compare1 (binT ha j I h λv u C x y D E F G q=>g f C B D x y v u Q E F G q) o
noncomputable def tTest(t:TE):TT:=λσ H Q=>t σ H λx H'=>∃k,x=.bl k/\Q k H'
def q0h{op:CmpOp}{r:R2}(j:OpR X (Cj op) r)(ha:PE X a ta)(o:PE X b tb)(B:Hu op b=false):PT X (.Compare a [op] [b] pos) (tTest (tOp r ta tb)):=by
 intro f s g H Q I h;refine Sj (thnE (ha f s g H _ I h) λv C x D E F G=>thnE (o f C g D _ E G) λu J y L M O P =>
  thnE (j f J g L x y v u _ M F O P) λc W z R S T ⟨k,e,U⟩=>?_) B
 subst e;cases T;exact Em ⟨R,S,U⟩
noncomputable def TruV(K:Ah)(x:V)(H:Hp)(k:Bool):Prop :=
 match x with
 |.non=>k=false
 |.bl b=>k=b
 |.int i=>k=(i != 0)
 |.str y=>y.length<=sizeLine/\k=((y.length:Int) != 0)
 |.byt y=>y.size<=sizeLine/\k=((y.size:Int) != 0)
 |.ref p=>(∃xs,SqL K H p xs/\k = !xs.isEmpty)\/(∃xs,SqT K H p xs/\k = !xs.isEmpty)\/∃kvs,H p=some (.dK kvs)/\k = !kvs.isEmpty
 |_=>False
def z6k{kvs:List (κ×V)}{vs:List (κ×Value)}(r:KV kvs vs):(!vs.isEmpty) = !kvs.isEmpty:=by
 cases r<;>rfl
def q8s(r:Vals xs its):(!its.toArray.isEmpty) = !xs.isEmpty:=by
 cases r<;>simp
def line63:(sizeLine:Nat)<2^63:=by rw[Et];decide
def tru_ok:TruR X (λx H Q=>∃k,TruV X.K x H k/\Q k H):=by
 intro D s L H x v Q I j h;obtain⟨k,e,q⟩:=h;have M:=Et;cases x with
 |non =>
  cases j;have f:=e;subst f;exact truthy_none ⟨H,I,q⟩
 |bl b =>
  cases j;have f:=e;subst f;exact Em ⟨H,I,q⟩
 |int i =>
  obtain⟨t,rfl⟩:=j;have f:=e;subst f;exact PySem.P.truthy_int ⟨H,I,q⟩
 |str y =>
  obtain⟨t,rfl⟩:=j;obtain⟨F,f⟩:y.length<=sizeLine/\k=((y.length:Int) != 0):=e;subst f;exact PySem.P.truthy_str (by lia) ⟨H,I.tok _,q⟩
 |byt y =>
  obtain⟨t,rfl⟩:=j;obtain⟨F,f⟩:y.size<=sizeLine/\k=((y.size:Int) != 0):=e;subst f;exact W.truthy_bytes (by lia) ⟨H,I.tok _,q⟩
 |ref p =>
  cases j;have f:=e;rcases f with⟨G,o,f⟩|⟨G,o,f⟩|⟨u,o,f⟩
  ·subst f;obtain⟨B,r,C,E⟩:=I.list o;have g:=r.length;exact wpAny_truthy_list C.isList (by simp only[Ay];lia) ⟨H,I.tok _,by rw[q8s r];exact q⟩
  ·subst f;obtain⟨B,r,C,E⟩:=I.tuple o;have g:=r.length;exact truthy_tuple C (by simp only[Ay];lia) ⟨H,I.tok _,by rw[q8s r];exact q⟩
  ·subst f;obtain⟨E,J,vs,r,m⟩:u.length<=sizeLine/\(p==Dp)=false/\∃vs,KV u vs/\s.heap.DictOf (mixKind X.prog X.w) p vs:=I.hok p _ o;have g:=Ht r;exact wpAny_truthy_dict J m (by lia) ⟨H,I.tok _,by rw[z6k r];exact q⟩
 |_=>exact(show False from e).elim
def x1x(ha:PE X a ta)(o:∀f,isTrue a X.env f=(do let v<-f;Ol a.pos;Ko [v] (truthy v))):
  PT X a (λj H Q=>ta j H λx H'=>∃k,TruV X.K x H' k/\Q k H'):=by
 intro g s j H Q I h;exact isTrue_plain (thnE (ha g s j H _ I h) λv u x B C D E=>tru_ok g u j B x v Q C D E) (o _)
def op_add_str:OpR X (Gj .Add) (λx y H Q=>∃i j,x=.str i/\y=.str j/\i.length+j.length<=sizeLine/\Q (.str (i++j)) H):=by
 intro f s D H x y v u Q I g o h;obtain⟨i,j,rfl,rfl,B,q⟩:=h;obtain⟨t,rfl⟩:=g;obtain⟨C,rfl⟩:=o;exact add_str (λC tk=>⟨.str (i++j),H,I.tok _,⟨_,rfl⟩,q⟩) B
def z3x:OpR X (Uu .Add) (λx y H Q=>∃i j,x=.str i/\y=.str j/\i.length+j.length<=sizeLine/\Q (.str (i++j)) H):=by
 intro f s D H x y v u Q I g o h;obtain⟨i,j,rfl,rfl,B,q⟩:=h;obtain⟨t,rfl⟩:=g;obtain⟨C,rfl⟩:=o;exact iadd_str (λC tk=>⟨.str (i++j),H,I.tok _,⟨_,rfl⟩,q⟩) B
def vals1(r:Vals [x] us):∃u,us=[u]/\RelV x u:=by
 cases r with
 |cons r1 r2=>cases r2;exact⟨_,rfl,r1⟩
def vals2(r:Vals [x,y] us):∃u f,us=[u,f]/\RelV x u/\RelV y f:=by
 cases r with
 |cons r1 r2 =>
  cases r2 with
  |cons r3 r4=>cases r4;exact⟨_,_,rfl,r1,r3⟩
def z8d(o:X.calm=true):CallR X (.builtin "max") (λxs H Q=>∃i j,xs=[.int i,.int j]/\Q (.int (if j>i then j else i)) H):=by
 intro g s v H xs B Q I r h;obtain⟨i,j,rfl,q⟩:=h;obtain⟨u,C,rfl,⟨t,rfl⟩,⟨D,rfl⟩⟩:=vals2 r;refine max_two_ints (I.ok.hd o) λE tk k=>⟨_,H,I.kept k,?_,q⟩
 by_cases f:j>i
 ·rw[if_pos f,if_pos f];exact⟨_,rfl⟩
 ·rw[if_neg f,if_neg f];exact⟨_,rfl⟩
def z1f(o:X.calm=true):CallR X (.builtin "min") (λxs H Q=>∃i j,xs=[.int i,.int j]/\Q (.int (if j<i then j else i)) H):=by
 intro g s v H xs B Q I r h;obtain⟨i,j,rfl,q⟩:=h;obtain⟨u,C,rfl,⟨t,rfl⟩,⟨D,rfl⟩⟩:=vals2 r;refine min_two_ints (I.ok.hd o) λE tk k=>⟨_,H,I.kept k,?_,q⟩
 by_cases f:j<i
 ·rw[if_pos f,if_pos f];exact⟨_,rfl⟩
 ·rw[if_neg f,if_neg f];exact⟨_,rfl⟩
def call_int1:CallR X (.type "int") (λxs H Q=>(∃i,xs=[.int i]/\Q (.int i) H)\/∃k,xs=[.bl k]/\Q (.int (if k then 1 else 0)) H):=by
 intro f s j H xs o Q I r h;rcases h with⟨i,rfl,q⟩|⟨k,rfl,q⟩
 ·obtain⟨u,rfl,t,rfl⟩:=vals1 r;exact call_int_int ⟨.int i,H,I,⟨_,rfl⟩,q⟩
 ·obtain⟨u,rfl,g⟩:=vals1 r;cases g;exact call_int_bool ⟨.int (if k then 1 else 0),H,I.tok _,⟨_,rfl⟩,q⟩
noncomputable def LenV(K:Ah)(x:V)(H:Hp)(n:Nat):Prop :=
 match x with
 |.str y=>y.length<=sizeLine/\n=y.length
 |.byt y=>y.size<=sizeLine/\n=y.size
 |.ref p=>(∃xs,SqL K H p xs/\n=xs.length)\/∃xs,SqT K H p xs/\n=xs.length
 |_=>False
def x1y:CallR X (.builtin "len") (λxs H Q=>∃x n,xs=[x]/\LenV X.K x H n/\Q (.int n) H):=by
 intro D s G H xs J Q I r h;obtain⟨x,n,rfl,e,q⟩:=h;obtain⟨u,rfl,j⟩:=vals1 r;have L:=Et;cases x with
 |str y =>
  obtain⟨t,rfl⟩:=j;obtain⟨E,g⟩:y.length<=sizeLine/\n=y.length:=e;subst g;exact len_str (by lia) ⟨.int _,H,I.tok _,⟨_,rfl⟩,q⟩
 |byt y =>
  obtain⟨t,rfl⟩:=j;obtain⟨E,g⟩:y.size<=sizeLine/\n=y.size:=e;subst g;exact W.len_bytes (by lia) ⟨.int _,H,I.tok _,⟨_,rfl⟩,q⟩
 |ref p =>
  cases j;have g:=e;rcases g with⟨xs,o,g⟩|⟨xs,o,g⟩
  ·subst g;obtain⟨v,B,C,F⟩:=I.list o;have f:=B.length;exact Calls.call_len_list C.isList (by simp only[Ay];lia) ⟨.int xs.length,H,I.tok _,⟨_,by simp only[Ay];rw[f]⟩,q⟩
  ·subst g;obtain⟨v,B,C,F⟩:=I.tuple o;have f:=B.length;exact len_tuple C (by simp only[Ay];lia) ⟨.int xs.length,H,I.tok _,⟨_,by simp only[Ay];rw[f]⟩,q⟩
 |_=>exact(show False from e).elim
end
structure ObjM (h:Heap) (x dx C:Addr) (mA:Str->Option Value):Prop where
 obj:h.get? x=some (Kz C dx)
 ns:h.Ns1 dx mA
 ne:dx≠x
def z1g{h:Heap}(n:h.Ns1 dx mA):∃j,h.get? dx=some j/\∀f,Wl f j=some (mA f):=by
 obtain⟨o,s,C,u,hd,hk,_,v⟩:=n;refine⟨o,u,λf=>?_⟩;have e:=v f;unfold nsFind findBy at e;rw[<- Pb] at e;unfold Wl;rw[hd];dsimp only;split
 ·grind
 ·rename_i q;rw[q] at e;have a:s.toList.any (·.refKey)=false:=by
   rw[List.any_eq_false];intro y B;obtain⟨z,t,g⟩:=hk y (Tf.mp B);simp[Jw.refKey,g]
  have a':¬s.toList.any (·.refKey)=true:=by grind
  rw[if_neg a'];exact congrArg some e
def ObjM.look(I:ObjM h x dx C mA):∃g,La h x (Kz C dx) C (some g)/\∀f,Wl f g=some (mA f) :=
 let ⟨g,j,hl⟩:=z1g I.ns
 ⟨g,⟨I.obj,rfl,rfl,j⟩,hl⟩
section
variable{prog:Ak}{w:World}{A:Around}{E:Value->Ag->Prop}{s:Ag}{K:Ah}{x dx C f:Addr}{mA:Str->Option Value}{name:Str}{v:Value}
def x5p(X:K.In s.heap)(I:ObjM s.heap x dx C mA)(g:Qi K C name=true)(j:Mm K C=true)(ha:Bq K (.ref C) name=some none)(o:mA name=some v)(f:Xc v=true)(h:Q v { s with toks:=s.toks+1 }):
  wpAny (model prog w) A (Xr (.ref x) name expr) Q E s:=by
 obtain⟨u,J,hl⟩:=I.look;exact W.get_value X J (Tz g).1 (W.findObj_own j ha rfl (by rw[hl,o])) f h
def x1z(X:K.In s.heap)(I:ObjM s.heap x dx C mA)(g:Qi K C name=true)(j:Bq K (.ref C) name=some (some (.ref f)))(o:Xd K (.ref f)=true)(u:mA name=none)(h:Q (.ref f,[.ref x]) s):
  wpAny (model prog w) A (Na (.ref x) name pl) Q E s:=by
 obtain⟨v,J,hl⟩:=I.look;exact W.method_fn X J (Tz g).1 (Tz g).2 j (beq_iff_eq.mp o) (by show(Wl name v).map (·.isSome)=some false;rw[hl,u];rfl) h
def x5q(X:K.In s.heap)(I:ObjM s.heap x dx C mA)(D:Bq K (.ref C) "__setattr__" = some (some (.builtin "object.__setattr__")))(F:Wf K C=true)(G:Xw K C name=some none)(H:Mm K C=true)(L:Nl mA ns)(M:ns.length<=sizeLine)(h:∀h',ObjM h' x dx C (λy=>if y=name then some v else mA y)->Fx dx s.heap h'->Q () { s with heap:=h',toks:=s.toks+2 }):
  wpAny (model prog w) A (Xs (.ref x) name v) Q E s:=by
 obtain⟨T,J,hl⟩:=I.look;refine Wg X J D (W.osa_open X J F G λb=>?_);obtain⟨U,O,j⟩:=W.any_some H;have P:=I.obj;refine Ac (Ad (Ac (Ac (Om P (Ac (Ux (Pr X O) ?_))))));rw[j];refine Ad (Ac (Ad (Ac ?_)));refine Uy I.ns λh' f g=>?_
 obtain⟨Y,R,S,o,u,B⟩:=f.count (Qc name v L);refine Ac (Qs o (by rw[u];exact Qt (Bg B (by rw[Be];lia))) ?_);exact Ad (h _ ⟨(g.2 _ (Bz I.ne)).trans I.obj,f,I.ne⟩ g)
def x2a(X:K.In s.heap)(g:Xx K C=true)(j:Bq K (.ref C) "__init__" = some (some (.ref f)))(o:W.typeIn K (.ref f)=some (.type "function"))(h:Gq (model prog w) (A.under (.builtin "type.__call__" ⟨.ref C::vs,kw⟩)) (.call (.ref f) ⟨.ref (s.heap.objs.size+1)::vs,kw⟩) (W.InitBack (s.heap.objs.size+1) R)
   { s with heap:=(s.heap.push Ei).push (Kz C s.heap.objs.size) }):
  Gq (model prog w) A (.call (.ref C) ⟨vs,kw⟩) R s:=by
 exact W.make_core (W.makes_of X g) (Jn X j) (λself=>W.bind_fn X self o) (.inl rfl) h
end
noncomputable def putF(f:Str)(v:V):List (Str×V)->List (Str×V)
 |[]=>[(f,v)]
 |(g,x)::r=>if g=f then(g,v)::r else(g,x)::putF f v r
theorem q2x(f g:Str)(v:V):∀fs:List (Str×V),(putF f v fs).lookup g=if g=f then some v else fs.lookup g
 |[]=>by
  show List.lookup g [(f,v)]=_;by_cases h:g=f
  ·have j:(g==f)=true:=beq_iff_eq.mpr h;simp only[List.lookup,j,if_pos h]
  ·simp_all
 |(k,x)::r=>by
  have o:=q2x f g v r;rw[show putF f v ((k,x)::r)=(if k=f then(k,v)::r else(k,x)::putF f v r) from rfl];by_cases hk:k=f
  ·rw[if_pos hk];by_cases h:g=k
   ·simp_all
   ·have j:(g==k)=false:=beq_eq_false_iff_ne.mpr h;simp only[List.lookup,j,if_neg (λe:g=f=>h (e.trans hk.symm))]
  ·rw[if_neg hk];by_cases h:g=k
   ·simp_all
   ·have j:(g==k)=false:=beq_eq_false_iff_ne.mpr h;simp only[List.lookup,j];exact o
theorem q3n(f:Str)(v:V):∀fs:List (Str×V),f∈(putF f v fs).map (·.1)/\∀g,g∈fs.map (·.1)->g∈(putF f v fs).map (·.1)
 |[]=>⟨by simp[putF],λg h=>by simp at h⟩
 |(k,x)::r=>by
  obtain⟨j,o⟩:=q3n f v r;rw[show putF f v ((k,x)::r)=(if k=f then(k,v)::r else(k,x)::putF f v r) from rfl];by_cases hk:k=f
  ·grind
  ·grind
theorem q7c(f:Str)(v:V):∀fs:List (Str×V),(putF f v fs).length<=fs.length+1
 |[]=>by simp[putF]
 |(k,x)::r=>by
  have g:=q7c f v r;rw[show putF f v ((k,x)::r)=(if k=f then(k,v)::r else(k,x)::putF f v r) from rfl];by_cases hk:k=f
  ·grind
  ·grind
def RelO.some_of(r:RelO (some v) o):∃u,o=some u/\RelV v u:=by
 cases o with
 |none=>exact(show False from r).elim
 |some u=>exact⟨u,rfl,r⟩
def RelO.none_of(r:RelO none o):o=none:=by
 cases o with
 |none=>rfl
 |some u=>exact(show False from r).elim
def z1h(r:RelV v u):Xc u=true:=by
 cases v with
 |non=>cases(show u=Value.none from r);rfl
 |bl b=>cases(show u=Value.bool b from r);rfl
 |int i=>obtain⟨t,e⟩:=(show ∃t,u=Value.int i t from r);cases e;rfl
 |str x=>obtain⟨t,e⟩:=(show ∃t,u=Value.str x t from r);cases e;rfl
 |byt b=>obtain⟨t,e⟩:=(show ∃t,u=Value.bytes b t from r);cases e;rfl
 |flt b=>obtain⟨t,e⟩:=(show ∃t,u=Value.float b t from r);cases e;rfl
 |ref a=>cases(show u=Value.ref a from r);rfl
 |ty n=>cases(show u=Value.type n from r);rfl
section
variable{P:Ak}{w:World}{H H':Hp}{h h':Heap}{a C dx:Addr}{fs fs':List (Str×V)}
def q9n(hok:HOk P w H h)(e:H a=some (.ins C dx fs)):∃g,ObjM h a dx C g/\(∀f,RelO (fs.lookup f) (g f))/\Nl g (fs.map (·.1))/\fs.length<=1000/\H dx=some (.own a):=by
 obtain⟨d,z,ne,j,g,n,r,q⟩:=(show ObjOk P w H h a (.ins C dx fs) from hok a _ e)
 exact⟨g,⟨j,n,ne⟩,r,q,z,d⟩
end
structure Cls (K:Ah) (C:Addr):Prop where
 pg:Qi K C Lb=true
 hd:Mm K C=true
 po:Wf K C=true
 sa:Bq K (.ref C) "__setattr__" = some (some (.builtin "object.__setattr__"))
def Cls.get{K:Ah}(c:Cls K C)(f:Str):Qi K C f=true:=c.pg
noncomputable def NoAttr(K:Ah)(C:Addr)(f:Str):Prop:=Bq K (.ref C) f=some none
def NoAttr.taker{K:Ah}(n:NoAttr K C f):Xw K C f=some none:=by
 unfold Xw;rw[show Bq K (.ref C) f=some none from n];rfl
structure Meth (K:Ah) (C:Addr) (m:Str) (f:Addr):Prop where
 at_:Bq K (.ref C) m=some (some (.ref f))
 fn:Xd K (.ref f)=true
 kp:Ff K (.ref f)=true
section
variable{X:Cx}{pins:List (Addr×Obj)}{σ:St}{H:Hp}{s:Ag}{a C dx:Addr}{fs:List (Str×V)}{f:Str}{v:V}{A:Around}{E:Value->Ag->Prop}
def z6l(I:Inv X pins σ H s)(e:H a=some (.ins C dx fs))(c:Cls X.K C)(n:NoAttr X.K C f)(l:fs.lookup f=some v)(h:∀u s',Inv X pins σ H s'->RelV v u->Q u s'):wpAny (model X.prog X.w) A (Xr (.ref a) f b) Q E s:=by
 obtain⟨o,O,r,_,_,_⟩:=q9n I.hok e;obtain⟨u,j,g⟩:=RelO.some_of (by rw[<- l];exact r f);exact x5p I.kIn O (c.get f) c.hd n j (z1h g) (h u _ (I.tok _) g)
def q8t(I:Inv X pins σ H s)(e:H a=some (.ins C dx fs))(c:Cls X.K C)(k:Meth X.K C m g)(l:fs.lookup m=none)(h:Q (.ref g,[.ref a]) s):wpAny (model X.prog X.w) A (Na (.ref a) m pl) Q E s:=by
 obtain⟨f,O,r,_,_,_⟩:=q9n I.hok e;have hn:=RelO.none_of (by rw[<- l];exact r m);exact x1z I.kIn O (c.get m) k.at_ k.fn hn h
def z6m(I:Inv X pins σ H s)(e:H a=some (.ins C dx fs))(c:Cls X.K C)(n:NoAttr X.K C f)(hl:fs.length<1000)(F:RelV y u)(h:∀s',Inv X pins σ (upd H a (.ins C dx (putF f y fs))) s'->Q () s'):wpAny (model X.prog X.w) A (Xs (.ref a) f u) Q E s:=by
 obtain⟨v,O,r,B,_,D⟩:=q9n I.hok e;have G:(fs.map (·.1)).length<=sizeLine:=by rw[Af,Et];lia
 refine x5q I.kIn O c.sa c.po n.taker c.hd B G λJ j L=>h _ ?_;have hd:∃o,J.get? dx=some o:=let ⟨o,_,_,M,_⟩:=j.ns;⟨o,M⟩;refine I.write (by rw[e];exact True.intro) (.inr D) (λb q P z=>(L.2 b P).trans z) hd ?_;refine⟨by rw[q0f O.ne];exact D,?_,O.ne,j.obj,_,j.ns,λg=>?_,λg R=>?_⟩
 ·have:=q7c f y fs;lia
 ·show RelO ((putF f y fs).lookup g) (if g=f then some u else v g);rw[q2x];by_cases q:g=f
  ·rw[if_pos q,if_pos q];exact F
  ·grind
 ·by_cases q:g=f
  ·rw[q];exact(q3n f y fs).1
  ·refine(q3n f y fs).2 g (B g λz=>R ?_);show(if g=f then some u else v g)=none;rw[if_neg q];exact z
def Inv.made(I:Inv X pins σ H s):Inv X pins σ (upd (upd H s.heap.objs.size (.own (s.heap.objs.size+1))) (s.heap.objs.size+1) (.ins C s.heap.objs.size []))
  { s with heap:=(s.heap.push Ei).push (Kz C s.heap.objs.size) }:=by
 have f:(s.heap.push Ei).get? s.heap.objs.size=some Ei:=An s.heap rfl;have g:((s.heap.push Ei).push (Kz C s.heap.objs.size)).get? (s.heap.objs.size+1)=some (Kz C s.heap.objs.size):=by
  have:=An (s.heap.push Ei) (o:=Kz C s.heap.objs.size) rfl
  rwa [Gd] at this
 have h:(s.heap.push Ei).Ns s.heap.objs.size (λ_=>none):=⟨Ei,#[],_,f,rfl,(λe j=>absurd j (by simp)),λ_=>rfl⟩
 have v:=I.laid (o:=.own (s.heap.objs.size+1)) (h':=s.heap.push Ei) (t':=s.toks) (λb u q=>Ae _ q) (Ai _) ⟨_,f⟩;refine v.laid (t':=s.toks) (λb u q=>Ae _ q) (Lc (Gd _ _)) ?_;have ne:s.heap.objs.size≠s.heap.objs.size+1:=Bj (Ka _);refine⟨by rw[q0f ne,q0d],Bf _,ne,g,λ_=>none,(Vn h).at λo q=>Ae _ q,λ_=>True.intro,λy B=>absurd rfl B⟩
def z8e(j:Gv e f env (eval e env)=eval e env)(h:wpAny (model prog w) A (eval e env) (λo g=>wpAny (model prog w) A (Xr o f true) Q E g) E s):wpAny (model prog w) A (eval (.Attribute e f pos) env) Q E s :=
 Attribute_any_ h (by rw[arm_eval_Attribute,j])
end
noncomputable def tFld(K:Ah)(ta:TE)(f:Str):TE:=λσ H Q=>ta σ H λx H1=>∃a C dx fs v,x=.ref a/\H1 a=some (.ins C dx fs)/\Cls K C/\NoAttr K C f/\fs.lookup f=some v/\Q v H1
noncomputable def sFld(K:Ah)(ta tv:TE)(f:Str):TS:=λD σ H=>tv σ H λy H1=>ta σ H1 λx H2=>∃a C dx fs,x=.ref a/\H2 a=some (.ins C dx fs)/\Cls K C/\NoAttr K C f/\fs.length<1000 /\
 D.nx σ (upd H2 a (.ins C dx (putF f y fs)))
section
variable{X:Cx}{o e value:Expr}{f:Str}{pos pos' tpos:Pos}{ta tv:TE}
def pe_fld(j:PE X e ta)(o:Gv e f X.env (eval e X.env)=eval e X.env):PE X (.Attribute e f pos) (tFld X.K ta f):=by
 intro g s B H Q I h;refine z8e o (thnE (j g s B H _ I h) λu O x D E F G=>?_);obtain⟨a,C,P,fs,v,ex,J,c,n,l,q⟩:=G;subst ex;obtain rfl:u=Value.ref a:=F;exact z6l E J c n l λR S L M=>⟨v,D,L,M,q⟩
def ps_fld(ha:PE X o ta)(v:PE X value tv)(B:Jb value (some (.Attribute o f pos')) pos.line X.env=pure false):PS X (.Assign [.Attribute o f pos'] value pos) (sFld X.K ta tv f):=by
 intro g s j H D I h;refine Nj (thnE (v g s j H _ I h) λu E y F G J q=>thnE (ha g E j F _ G q) λL T x U M O P=>?_) B;obtain⟨a,C,W,fs,ex,Q,c,n,l,R⟩:=P;subst ex;obtain rfl:L=Value.ref a:=O;exact z6m M Q c n l J λY S=>⟨j,_,S,R⟩
end
section
variable{X:Cx}{pins:List (Addr×Obj)}{σ:St}{H:Hp}{s:Ag}{A:Around}{E:Value->Ag->Prop}{Q:Value->Ag->Prop}{c:Value}{b:Bool}
inductive TyOf (K:Ah) (H:Hp):V->Value->Prop where
 |non:TyOf K H .non (.type "NoneType")
 |bl (x:Bool):TyOf K H (.bl x) (.type "bool")
 |int (i:Int):TyOf K H (.int i) (.type "int")
 |str (x:Str):TyOf K H (.str x) (.type "str")
 |flt (x:UInt64):TyOf K H (.flt x) (.type "float")
 |lst {a:Addr} {xs:List V} (e:H a=some (.lst xs)):TyOf K H (.ref a) (.type "list")
 |frz {a:Addr} {o:Obj} {xs:List V} (e:H a=some (.frz o (.lst xs))):TyOf K H (.ref a) (.type "list")
 |tup {a:Addr} {xs:List V} (e:H a=some (.tup xs)):TyOf K H (.ref a) (.type "tuple")
 |dK {a:Addr} {kvs:List (Key×V)} (e:H a=some (.dK kvs)):TyOf K H (.ref a) (.type "dict")
 |dT {a:Addr} {kvs:List (List Key×V)} (e:H a=some (.dT kvs)):TyOf K H (.ref a) (.type "dict")
 |ins {a C dx:Addr} {fs:List (Str×V)} (e:H a=some (.ins C dx fs)) (cl:Cls K C) (ha:Bq K (.ref C) "__class__" = some (some (.builtin "object.__class__")))
   (hn:Mn K (.builtin "object.__class__") "__get__" = some (some (.builtin "getset_descriptor.__get__"))) (htk:Uz K (.builtin "object.__class__")=some true)
   (hm:Sl K C (.type "object")=some true):TyOf K H (.ref a) (.ref C)
def z8f(I:Inv X pins σ H s)(f:RelV x u)(ty:TyOf X.K H x t)(e:Fg X.K t c=some b)(h:∀tk,Q (.bool b) { s with toks:=tk }):
  wpAny (model X.prog X.w) A (call (.builtin "isinstance") [u,c]) Q E s:=by
 cases ty with
 |non=>cases(show u=Value.none from f);exact Gw W.kitx_none I.kIn True.intro e (λz=>nomatch z) h
 |bl y=>cases(show u=Value.bool y from f);exact Gw W.kitx_bool I.kIn True.intro e (λz=>nomatch z) h
 |int i=>obtain⟨t,q⟩:=(show ∃t,u=Value.int i t from f);cases q;exact Gw W.kitx_int I.kIn True.intro e (λz=>nomatch z) h
 |str y=>obtain⟨t,q⟩:=(show ∃t,u=Value.str y t from f);cases q;exact Gw W.kitx_str I.kIn True.intro e (λz=>nomatch z) h
 |flt y=>obtain⟨t,q⟩:=(show ∃t,u=Value.float y t from f);cases q;exact Gw W.kitx_float I.kIn True.intro e (λz=>nomatch z) h
 | @lst a j ea =>
  cases(show u=Value.ref a from f);obtain⟨_,_,n,_,g⟩:=(show ObjOk X.prog X.w H s.heap a (.lst j) from I.hok a _ ea)
  exact Gw W.kitx_list I.kIn ⟨_,g,rfl⟩ e (λz=>nomatch z) h
 | @frz a ob j ea =>
  cases(show u=Value.ref a from f);obtain⟨_,_,_,n,_,g⟩:=(show ObjOk X.prog X.w H s.heap a (.frz ob (.lst j)) from I.hok a _ ea)
  exact Gw W.kitx_list I.kIn ⟨_,g,rfl⟩ e (λz=>nomatch z) h
 | @tup a j ea =>
  cases(show u=Value.ref a from f);obtain⟨_,_,_,p⟩:=(show ObjOk X.prog X.w H s.heap a (.tup j) from I.hok a _ ea)
  obtain⟨o,g,v,_⟩:=p;exact Gw W.kitx_tuple I.kIn ⟨o,g,v⟩ e (λz=>nomatch z) h
 | @dK a kvs ea =>
  cases(show u=Value.ref a from f);obtain⟨_,_,vs,_,p⟩:=(show ObjOk X.prog X.w H s.heap a (.dK kvs) from I.hok a _ ea)
  obtain⟨o,B,D,g,v,_⟩:=p;exact Gw W.kitx_dict I.kIn ⟨o,g,v.1⟩ e (λz=>nomatch z) h
 | @dT a kvs ea =>
  cases(show u=Value.ref a from f);obtain⟨_,_,j,_,o,B,D,g,v,_⟩:=(show ObjOk X.prog X.w H s.heap a (.dT kvs) from I.hok a _ ea)
  exact Gw W.kitx_dict I.kIn ⟨o,g,v.1⟩ e (λz=>nomatch z) h
 | @ins a C dx fs ea cl ha hn htk hm =>
  cases(show u=Value.ref a from f);obtain⟨F,O,_⟩:=q9n I.hok ea;obtain⟨G,J,_⟩:=O.look;exact Gw (W.kitx_own (cl.get _) cl.hd ha hn htk hm) I.kIn J e (λz=>nomatch z) h
end
structure Room (k:Nat) (A:Around):Prop where
 hd:A.handled=none
 dp:A.depth+3*k+5<recursionLimit
 un:A.units+16*k+200<cLine
 gd:A.guards=some []
def Room.mono(r:Room k A)(h:j<=k):Room j A:=⟨r.hd,by have:=r.dp;lia,by have:=r.un;lia,r.gd⟩
def Room.deeper(r:Room (k+1) A)(env:Env):Room k (A.deeper env) :=
 ⟨r.hd,by have:=r.dp;show A.depth+1+3*k+5<_;lia,by have:=r.un;show A.units+3+16*k+200<_;lia,r.gd⟩
def z6n{A:Around}:(A.under (.builtin "type.__call__" ⟨.ref C::us,kw⟩)).depth=A.depth+1:=by
 first|rfl|simp[Qu,Code.weight,Code.isCreation,Code.isGuard,Code.isCaller,Code.frames,Va,guardIds]
def z6o{A:Around}:(A.under (.builtin "type.__call__" ⟨.ref C::us,kw⟩)).units=A.units+1:=by
 first|rfl|simp[Qu,Code.cUnits,Code.frames,Va]
def make_guards{A:Around}:(A.under (.builtin "type.__call__" ⟨.ref C::us,kw⟩)).guards=A.guards:=by
 have:(Code.builtin "type.__call__" ⟨.ref C::us,kw⟩).guards=[]:=by simp[Code.guards,Code.isGuard,guardIds]
 unfold Qu;rw[this];cases e:A.guards<;>simp[pushGuards,e]
def Room.make(r:Room (k+1) A)(C:Addr)(f:List Value)(g:List (Str×Value)):Room k (A.under (.builtin "type.__call__" ⟨.ref C::f,g⟩)) :=
 ⟨r.hd,by have:=r.dp;rw[z6n];lia,by have:=r.un;rw[z6o];lia,make_guards.trans r.gd⟩
def Room.depth(r:Room k A):A.depth<recursionLimit:=by have:=r.dp;lia
def Room.units(r:Room k A):A.units+64<cLine:=by have:=r.un;lia
noncomputable def tNil:TA:=λ_ H Q=>Q [] H
noncomputable def tCons(ta:TE)(tr:TA):TA:=λσ H Q=>ta σ H λx H1=>tr σ H1 λxs H2=>Q (x::xs) H2
section
variable{X:Cx}{e:Expr}{es:List Expr}{te:TE}{t:TA}{pos:Pos}
def q0c:PA X [] tNil:=λ_ _ _ _ H Q I h=>Vo ⟨[],H,I,.nil,h⟩
def q0a(ha:PE X e te)(o:PA X es t)(v:Bc (e::es) X.env=(false,eval e X.env)::Bc es X.env:=by rfl):PA X (e::es) (tCons te t):=by
 intro g f s j H Q I h;rw[v];refine Pd (thnE (ha f s j H _ I h) λu B x C D E F=>?_);exact thn (o g f B j C _ D F) λP R ⟨G,J,L,M,O⟩=>⟨x::G,J,L,.cons E M,O⟩
noncomputable def tTup(t:TA):TE:=λσ H Q=>t σ H λxs H1=>xs.length<=sizeLine/\∀p,H1 p=none->Q (.ref p) (upd H1 p (.tup xs))
noncomputable def tLst(t:TA):TE:=λσ H Q=>t σ H λxs H1=>xs.length<=sizeLine/\∀p,H1 p=none->Q (.ref p) (upd H1 p (.lst xs))
def q0o{x1}(h:PA X es t):PE X (.Tuple es x1 pos) (tTup t):=by
 intro f s o H Q I v;refine wpAny_Tuple_spliced (thn (h pos f s o H _ I v) λB g ⟨C,D,j,r,z,q⟩=>⟨by rw[<- r.length];exact z,?_⟩);have E:=j.hok.fresh (Ai _);refine⟨.ref g.heap.objs.size,upd D g.heap.objs.size (.tup C),j.laid (t':=g.toks) (λb u e=>Ae _ e) (Ai _) ?_,rfl,q _ E⟩;exact⟨z,B,r,⟨_,An _ rfl,rfl,_,rfl⟩⟩
def q1j(h:PA X es t):PE X (.List es pos) (tLst t):=by
 intro f s o H Q I v;refine wpAny_List_spliced (thn (h pos f s o H _ I v) λB g ⟨C,D,j,r,z,q⟩=>⟨by rw[<- r.length];exact z,?_⟩);have E:=j.hok.fresh (Ai _);refine⟨.ref g.heap.objs.size,upd D g.heap.objs.size (.lst C),j.laid (t':=g.toks) (λb u e=>Ae _ e) (Ai _) ?_,rfl,q _ E⟩;exact⟨z,B,0,r,An _ rfl⟩
end
noncomputable abbrev Sp:=List V->Hp->VK->XK->Prop
noncomputable abbrev CXT:=List Env->Hp->Ag->XK->Value->Ag->Prop
structure Env0 (P:Ak) (w:World) (K:Ah) (mg:Str->Option Value) (base:Heap) (A:Around) (outer:List Env) (s:Ag) (H:Hp):Prop where
 frames:A.frames=some outer
 mod:Mod K mg base
 bs:∀b o,base.get? b=some o->s.heap.get? b=some o/\H b=none
 bsz:base.objs.size<=s.heap.objs.size
 funs:s.heap.FunFrames base outer
 frf:∀b∈frs outer,H b=none
 hok:HOk P w H s.heap
 bare:Lr s.gens
noncomputable def CE(outer:List Env)(P:Ak)(w:World)(H:Hp)(s:Ag)(Q:VK)(u:Value)(s':Ag):Prop :=
 ∃v H',s'.os=s.os/\Lr s'.gens/\Un (frs outer) [] H H' s.heap s'.heap/\HOk P w H' s'.heap/\RelV v u/\Q v H'
noncomputable def CR(CX:CXT)(outer:List Env)(P:Ak)(w:World)(H:Hp)(s:Ag)(Q:VK)(E:XK)(r:Result)(s':Ag):Prop :=
 match r with
 |.ok (.ret u)=>CE outer P w H s Q u s'
 |.ok _=>False
 |.error e=>CX outer H s E e s'
structure FnOk (P:Ak) (w:World) (K:Ah) (mg:Str->Option Value) (base:Heap) (CX:CXT) (k:Nat) (f:Addr) (fd:Ld) (ps:List Str) (sp:Sp):Prop where
 len:∀vs H Q E,sp vs H Q E->vs.length=ps.length
 run:∀(A:Around) (outer:List Env) (s:Ag) (H:Hp) (args:Args) (us:List Value) (vs:List V) (Q:VK) (E:XK),Room k A->Env0 P w K mg base A outer s H->Sm s fd args (ps.zip us)->Vals vs us->sp vs H Q E ->
  Gq (model P w) A (.call (.ref f) args) (CR CX outer P w H s Q E) s
def Env0.make{K:Ah}(e:Env0 P w K mg base A outer s H)(C:Addr)(f:List Value)(g:List (Str×Value)):
  Env0 P w K mg base (A.under (.builtin "type.__call__" ⟨.ref C::f,g⟩)) outer s H:=⟨by first|exact e.frames|(simpa[Qu,Code.envs,Va,pushEnvs] using e.frames),e.mod,e.bs,e.bsz,e.funs,e.frf,e.hok,e.bare⟩
section
variable{X:Cx}{pins:List (Addr×Obj)}{σ:St}{H:Hp}{s s':Ag}
def Inv.env0(I:Inv X pins σ H s):Env0 X.prog X.w X.K X.mg X.base X.A X.stack s H :=
 ⟨I.ok.frames,I.ok.mod,I.bs,Bg I.ok.bsz I.sz,I.stack,I.stkFree,I.hok,I.bare⟩
def Inv.after(I:Inv X pins σ H s)(h:CE X.stack X.prog X.w H s Q u s'):EP X pins σ Q u s':=by
 obtain⟨v,j,os,bare,un,hok,r,q⟩:=h;obtain⟨o,g,d,t,f⟩:=s';obtain rfl:f=s.os:=os;exact⟨v,j,I.call (h':=o) (g':=g) (d':=d) (t':=t) un hok bare (λb z=>absurd z (by simp)),r,q⟩
end
noncomputable def tCall(sp:Sp)(dvs:List V)(E:XK)(t:TA):TE:=λσ H Q=>t σ H λvs H1=>sp (vs++dvs) H1 Q E
noncomputable def tMeth(C:Addr)(m:Str)(sp:Sp)(dvs:List V)(E:XK)(ta:TE)(t:TA):TE:=λσ H Q=>ta σ H λx H1=>∃a dx fs,x=.ref a/\H1 a=some (.ins C dx fs)/\fs.lookup m=none /\
 t σ H1 λvs H2=>sp (x::(vs++dvs)) H2 Q E
noncomputable def tMake(C:Addr)(sp:Sp)(dvs:List V)(E:XK)(t:TA):TE:=λσ H Q=>t σ H λvs H1=>∀x dx,H1 x=none->H1 dx=none->dx≠x ->
 sp (.ref x::(vs++dvs)) (upd (upd H1 dx (.own x)) x (.ins C dx [])) (λv H2=>v=.non/\Q (.ref x) H2) E
noncomputable def Binds(K:Ah)(fd:Ld)(ps:List Str)(ds:List Value):Prop :=
 ∀(s:Ag) (us:List Value),K.In s.heap->(us++ds).length=ps.length->Sm s fd ⟨us,[]⟩ (ps.zip (us++ds))
def Binds.all{K:Ah}(h:∀f:List Value,f.length=ps.length->bindArgs fd ⟨f,[]⟩=pure (ps.zip f)):Binds K fd ps []:=λs f _ hl=>by
 rw[Dq] at hl ⊢;exact .of_eq (h f hl)
noncomputable def Passes(CX:CXT)(X:Cx)(E:XK):Prop:=∀(pins:List (Addr×Obj)) (σ:St) (H:Hp) (s:Ag) (e:Value) (s':Ag),Inv X pins σ H s->CX X.stack H s E e s'->X.xe e s'
section
variable{X:Cx}{CX:CXT}{k:Nat}{f C:Addr}{fd:Ld}{ps:List Str}{sp:Sp}{dvs:List V}{ds:List Value}{E:XK}{x m:Str}{p pos apos:Pos}{e o:Expr}{es:List Expr}{ta:TE}{t:TA}
def z5h{j:St}(F:FnOk X.prog X.w X.K X.mg X.base CX k f fd ps sp)(v:Room k X.A)(B:Binds X.K fd ps ds)(hd:Vals dvs ds)(C:Passes CX X E)(I:Inv X pins j H s)(r:Vals vs us)(h:sp (vs++dvs) H Q E):wpAny (model X.prog X.w) X.A (call (.ref f) us) (EP X pins j Q) X.xe s:=by
 have o:=r.append hd;have hl:(us++ds).length=ps.length:=by rw[<- o.length];exact F.len _ _ _ _ h
 refine Gk (Hi (F.run X.A X.stack s H ⟨us,[]⟩ (us++ds) (vs++dvs) Q E v I.env0 (B s us I.kIn hl) o h) λr D g=>?_);cases r with
 |error e=>exact C pins j H s e D I g
 |ok fl =>
  cases fl with
  |ret u=>exact I.after g
  |next=>exact False.elim g
  |brk=>exact False.elim g
  |cont=>exact False.elim g
def x5r(F:FnOk X.prog X.w X.K X.mg X.base CX k f fd ps sp)(v:Room k X.A)(B:Gl X x)(C:X.mg x=some (.ref f))(hk:Ff X.K (.ref f)=true)(D:Binds X.K fd ps ds)(hd:Vals dvs ds)(G:Passes CX X E)(ha:PA X (e::es) t)(j:(x==("__debug__" : Str))=false:=by decide)(J:Bc (e::es) X.env=(false,eval e X.env)::Bc es X.env:=by rfl)(o:(Ew pos (Bc es X.env)).any (·.1)=false:=by rfl):
  PE X (.Call (.Name x p) (e::es) [] pos) (tCall sp dvs E t):=by
 intro g s L H Q I h;refine Fj (q2q I B C ?_ j);refine Le I.ok.mod.kin hk (thn (ha pos g s L H _ I h) λM O ⟨vs,P,u,r,q⟩=>⟨u.kIn,?_⟩) J o;exact z5h F v D hd G u r q
def x2b(F:FnOk X.prog X.w X.K X.mg X.base CX k f fd ps sp)(o:Room k X.A)(u:Gl X x)(v:X.mg x=some (.ref f))(hk:Ff X.K (.ref f)=true)(B:Binds X.K fd ps ds)(hd:Vals dvs ds)(C:Passes CX X E)(g:(x==("__debug__" : Str))=false:=by decide):PE X (.Call (.Name x p) [] [] pos) (tCall sp dvs E tNil):=by
 intro j s D H Q I h;refine Fj (q2q I u v ?_ g);exact W.callWith_K0 I.kIn hk (z5h F o B hd C I .nil h)
def x5s{M:Sem Bool}(O:PE X o ta)(c:Cls X.K C)(B:Meth X.K C m f)(F:FnOk X.prog X.w X.K X.mg X.base CX k f fd ps sp)(P:Room k X.A)(R:Binds X.K fd ps ds)(hd:Vals dvs ds)(S:Passes CX X E)(ha:PA X (e::es) t)(j:Bc (e::es) X.env=(false,eval e X.env)::Bc es X.env:=by rfl)(v:(Ew pos (Bc es X.env)).any (·.1)=false:=by rfl)(T:eval (.Call (.Attribute o m apos) (e::es) [] pos) X.env=(do
   let D<-eval o X.env
   Ol apos.atName
   let (f,first)<-Ko [D] (Na D m M)
   Tg pos f first (Ew pos (Bc (e::es) X.env)) (Mw pos (Jj [] X.env))):=by rfl):
  PE X (.Call (.Attribute o m apos) (e::es) [] pos) (tMeth C m sp dvs E ta t):=by
 intro g s G H Q I h;refine Rl (thnE (O g s G H _ I h) λu U x W J Y Z=>?_) T;obtain⟨a,dx,fs,ex,ea,l,q⟩:=Z;subst ex;obtain rfl:u=Value.ref a:=Y;refine q8t J ea c B l ?_;refine Le I.ok.mod.kin B.kp (thn (ha pos g U G W _ J q) λus s2 ⟨vs,H2,L,r,q2⟩=>⟨L.kIn,?_⟩) j v;exact z5h (vs:=.ref a::vs) F P R hd S L (.cons rfl r) q2
def x2c(D:PE X o ta)(c:Cls X.K C)(v:Meth X.K C m f)(F:FnOk X.prog X.w X.K X.mg X.base CX k f fd ps sp)(G:Room k X.A)(J:Binds X.K fd ps ds)(hd:Vals dvs ds)(L:Passes CX X E)(M:eval (.Call (.Attribute o m apos) [] [] pos) X.env=(do
   let B<-eval o X.env
   Ol apos.atName
   let (f,first)<-Ko [B] (Na B m pl)
   Tg pos f first (Ew pos (Bc [] X.env)) (Mw pos (Jj [] X.env))):=by rfl):
  PE X (.Call (.Attribute o m apos) [] [] pos) (tMeth C m sp dvs E ta tNil):=by
 intro g s O H Q I h;refine Rl (thnE (D g s O H _ I h) λu T x U j P R=>?_) M;obtain⟨a,Y,fs,ex,S,l,q⟩:=R;subst ex;obtain rfl:u=Value.ref a:=P;refine q8t j S c v l ?_;exact W.callWith_K0 j.kIn v.kp (z5h (vs:=[.ref a]) F G J hd L j (.cons rfl .nil) q)
structure Mk (K:Ah) (C f:Addr):Prop where
 makes:Xx K C=true
 init:Bq K (.ref C) "__init__" = some (some (.ref f))
 fn:Xd K (.ref f)=true
 kp:Ff K (.ref C)=true
def x2d{B:St}(M:Mk X.K C f)(F:FnOk X.prog X.w X.K X.mg X.base CX k f fd ps sp)(J:Room (k+1) X.A)(L:Binds X.K fd ps ds)(hd:Vals dvs ds)(O:Passes CX X E)(I:Inv X pins B H s)(r:Vals vs us)(h:∀x j,H x=none->H j=none->j≠x->sp (.ref x::(vs++dvs)) (upd (upd H j (.own x)) x (.ins C j [])) (λv P=>v=.non/\Q (.ref x) P) E):
  wpAny (model X.prog X.w) X.A (call (.ref C) us) (EP X pins B Q) X.xe s:=by
 have D:=h (s.heap.objs.size+1) s.heap.objs.size (I.hok.fresh (Ii _)) (I.hok.fresh (Ai _)) (Bj (Ka _));have o:=Inv.made (C:=C) I;have G:Vals (V.ref (s.heap.objs.size+1)::(vs++dvs)) (Value.ref (s.heap.objs.size+1)::(us++ds)):=.cons rfl (r.append hd);have hl:(Value.ref (s.heap.objs.size+1)::us++ds).length=ps.length:=by
  have e:=G.length;rw[F.len _ _ _ _ D] at e;exact e.symm
 refine Gk (x2a I.kIn M.makes M.init (beq_iff_eq.mp M.fn) (Hi (F.run _ X.stack _ _ ⟨Value.ref (s.heap.objs.size+1)::us,[]⟩ (Value.ref (s.heap.objs.size+1)::(us++ds)) _ _ E (J.make C us [])
  (o.env0.make C us []) (L _ (Value.ref (s.heap.objs.size+1)::us) o.kIn hl) G D) λr R g=>?_))
 cases r with
 |error e=>exact O pins B _ _ e R o g
 |ok fl =>
  cases fl with
  |ret u =>
   obtain⟨v,S,T,U,W,Y⟩:=o.after g;subst W;exact⟨U,⟨V.ref (s.heap.objs.size+1),S,T,rfl,Y⟩⟩
  |next=>exact False.elim g
  |brk=>exact False.elim g
  |cont=>exact False.elim g
def x5t(M:Mk X.K C f)(F:FnOk X.prog X.w X.K X.mg X.base CX k f fd ps sp)(v:Room (k+1) X.A)(B:Gl X x)(D:X.mg x=some (.ref C))(G:Binds X.K fd ps ds)(hd:Vals dvs ds)(J:Passes CX X E)(ha:PA X (e::es) t)(j:(x==("__debug__" : Str))=false:=by decide)(L:Bc (e::es) X.env=(false,eval e X.env)::Bc es X.env:=by rfl)(o:(Ew pos (Bc es X.env)).any (·.1)=false:=by rfl):
  PE X (.Call (.Name x p) (e::es) [] pos) (tMake C sp dvs E t):=by
 intro g s O H Q I h;refine Fj (q2q I B D ?_ j);refine Le I.ok.mod.kin M.kp (thn (ha pos g s O H _ I h) λP R ⟨vs,S,u,r,q⟩=>⟨u.kIn,?_⟩) L o;exact x2d M F v G hd J u r q
end
structure FnScope (N P:List Str) (sc:Scope):Prop where
 kind:sc.kind=.function
 co:sc.isCoroutine=false
 gen:sc.isGenerator=false
 nd:N.Nodup
 pre:N.take P.length=P
 par:∀x∈P,sc.names.lookup x=some .local\/sc.names.lookup x=some .cell
 nofree:∀y∈sc.names,y.2≠.free
theorem z1i{f:Str->Option Bh}:∀{binds:List (Str×Value)} {m:Str->Option Value},(∀v,(x,v)∉binds)->bindL f binds m x=m x
 |[],_,_=>rfl
 |(n,v)::r,m,h=>by
  unfold bindL;rw[z1i λw g=>h w (Ap _ g)];split
  ·have:x≠n:=by rintro rfl;exact h v Av
   simp[this]
  ·rfl
theorem z1j{f:Str->Option Bh}:∀{binds:List (Str×Value)} {m:Str->Option Value},(∀v,(x,v)∉binds)->bindC f binds m x=m x
 |[],_,_=>rfl
 |(n,v)::r,m,h=>by
  unfold bindC;rw[z1j λw g=>h w (Ap _ g)];split
  ·rfl
  ·have:x≠n:=by rintro rfl;exact h v Av
   simp[this]
theorem z1k{f:Str->Option Bh}{x:Str}{v:Value}:∀{P:List Str} {vs:List Value} {i:Nat} {m:Str->Option Value},P.Nodup->P[i]?=some x->vs[i]?=some v->f x=some .local ->
  bindL f (P.zip vs) m x=some v
 |[],_,_,_,_,h,_,_=>by simp at h
 |_::_,[],_,_,_,_,h,_=>by simp at h
 |p::P,w::vs,0,m,nd,h1,h2,hk=>by
  simp at h1 h2;subst h1;subst h2;show bindL f ((p,w)::P.zip vs) m p=_;unfold bindL;rw[z1i λv g=>(Fh.mp nd).1 (Rm g).1,if_pos hk];simp
 |p::P,w::vs,i+1,m,nd,h1,h2,hk=>by
  show bindL f ((p,w)::P.zip vs) m x=_;unfold bindL;exact z1k (i:=i) (Fh.mp nd).2 (by simpa using h1) (by simpa using h2) hk
theorem z1l{f:Str->Option Bh}{x:Str}{v:Value}:∀{P:List Str} {vs:List Value} {i:Nat} {m:Str->Option Value},P.Nodup->P[i]?=some x->vs[i]?=some v->f x≠some .local ->
  bindC f (P.zip vs) m x=some v
 |[],_,_,_,_,h,_,_=>by simp at h
 |_::_,[],_,_,_,_,h,_=>by simp at h
 |p::P,w::vs,0,m,nd,h1,h2,hk=>by
  simp at h1 h2;subst h1;subst h2;show bindC f ((p,w)::P.zip vs) m p=_;unfold bindC;rw[z1j λv g=>(Fh.mp nd).1 (Rm g).1,if_neg hk];simp
 |p::P,w::vs,i+1,m,nd,h1,h2,hk=>by
  show bindC f ((p,w)::P.zip vs) m x=_;unfold bindC;exact z1l (i:=i) (Fh.mp nd).2 (by simpa using h1) (by simpa using h2) hk
noncomputable def start(N:List Str)(vs:List V):St:=vs.map some++List.replicate (N.length-vs.length) none
noncomputable def cxOf(CX:CXT)(P:Ak)(w:World)(K:Ah)(mg:Str->Option Value)(base:Heap)(N:List Str)(qual:Str)(scope:Scope)(f:Addr)(cd:Value)(A:Around)(outer:List Env)(s:Ag)(H:Hp)(E:XK):Cx where
 prog:=P
 w:=w
 K:=K
 mg:=mg
 base:=base
 A:=A.deeper (Hx qual scope s.heap.objs.size f cd)
 N:=N
 s₀:=s
 H₀:=H
 env:=Hx qual scope s.heap.objs.size f cd
 outer:=outer
 stack:=Hx qual scope s.heap.objs.size f cd::outer
 ex:=[]
 calm:=true
 fn:=λ_=>true
 pn:=[]
 xe:=λe s'=>wpAny (model P w) (A.deeper (Hx qual scope s.heap.objs.size f cd)) (leaving (Hx qual scope s.heap.objs.size f cd) e) (λ_ s''=>CX outer H s E e s'') (λe' s''=>CX outer H s E e' s'') s'
def z5i{f:Scope}(h:f.names.lookup x=some .cell):∃c,(cellsFrom n f.names []).lookup x=some c:=by
 have q:=Wm f.names n [] (.inl h);exact Ik.mp q
def z8g{K:Ah}(S:FnScope N ps scope)(hd:A.handled=none)(g:Env0 P w K mg base A outer s H)(hl:vs.length=ps.length)(r:Vals vs us)(x:InCallC s s.heap.objs.size (bindL (Hx qual scope s.heap.objs.size f cd).kindOf (ps.zip us) λ_=>none) (cellsFrom (s.heap.objs.size+1) scope.names []) (bindC (Hx qual scope s.heap.objs.size f cd).kindOf (ps.zip us) λ_=>none) s1):
  Inv (cxOf CX P w K mg base N qual scope f cd A outer s H E) [] (start N vs) H s1:=by
 have J:ps.length<=N.length:=by have:=congrArg List.length S.pre;rw[Dg] at this;lia
 obtain⟨F,tk,rfl,hk⟩:=x.done;have o:∀b:Addr,b∉(cxOf CX P w K mg base N qual scope f cd A outer s H E).ex:=λb z=>absurd (show b∈([]:List Addr) from z) (by simp)
 refine⟨⟨g.mod,S.kind,rfl,rfl,Ai _,λy z c F j=>?_,λy B=>?_,λy c _ h=>?_,λ_=>hd,Around.frames_deeper g.frames,.inr ⟨rfl,rfl⟩,λb z=>absurd z (o b),g.bs,g.bsz,λb _ _=>o b,λb z=>absurd z (o b),g.funs,g.frf⟩,
  rfl,g.bare,Un.kept hk,⟨_,x.toInCall.ns,λi y v F j M=>?_⟩,λy c h=>⟨_,x.cell y c h⟩,g.hok.fresh (Ai _),λy c h=>?_,λp C=>absurd (show p∈([]:List (Addr×Obj)) from C) (by simp),g.hok.kept hk,?_⟩
 ·exact name_of_addr x.apart (Fv F) (Fv j)
 ·have B:scope.names.lookup y=some .cell\/scope.names.lookup y=some .free:=B;rcases B with B|B
  ·exact z5i B
  ·exact absurd rfl (S.nofree _ (Fv B))
 ·exact Jl (x.above y c (Fv h))
 ·have G:i<vs.length:=by
   unfold start at j;by_cases G:i<vs.length
   ·exact G
   ·rw[Hv (by simpa using G)] at j;rw[List.getElem?_replicate] at j;split at j<;>cases j
  have ha:vs[i]?=some v:=by
   unfold start at j;rw[Ks (by simpa using G),Bm] at j;cases e:vs[i]? with
   |none=>simp_all
   |some a=>grind
  obtain⟨u,I,L⟩:=r.get ha;have C:ps[i]?=some y:=by
   rw[<- S.pre,List.getElem?_take_of_lt (by lia)];exact F
  have D:ps.Nodup:=by rw[<- S.pre];exact S.nd.sublist (Vp _ _)
  refine⟨u,L,?_⟩;rcases S.par y (Bd C) with k|k
  ·exact .inl ⟨k,z1k D C I k⟩
  ·obtain⟨c,e⟩:=z5i k;refine .inr ⟨.inl k,c,e,?_⟩;have q:=x.cell y c e;rw[z1l D C I (by show scope.names.lookup y≠_;rw[k];decide)] at q;exact q
 ·exact g.hok.fresh (Jl (x.above y c (Fv h)))
 ·unfold start;show _=N.length;rw[Aj,Af,Nb];lia
def x5u{K:Ah}{kV:Value}(Y:K.lookup f=some ⟨oc,od,.func (Il name qual params body scope dV kV doc pm an cdv ct),osl⟩)(G:Lf K cdv qual=true)(S:FnScope N ps scope)(len:∀vs H Q E,sp vs H Q E->vs.length=ps.length)(h:∀(A:Around) (outer:List Env) (s:Ag) (H:Hp) (vs:List V) (Q:VK) (E:XK),Room k (A.deeper (Hx qual scope s.heap.objs.size f cdv))->sp vs H Q E ->
   ∃t,PSs (cxOf CX P w K mg base N qual scope f cdv A outer s H E) body t/\t { nx:=λ_ H'=>Q .non H',rt:=Q } (start N vs) H):
  FnOk P w K mg base CX (k+1) f (Il name qual params body scope dV kV doc pm an cdv ct) ps sp:=by
 refine⟨len,λA outer s H T Z vs Q E L C hb r D=>?_⟩;have hl:=len _ _ _ _ D;have U:=C.mod.kin.keeps λb o e=>(C.bs b o e).1;have M:=C.mod.nolimit.keeps λb o e=>(C.bs b o e).1;have j:∀y∈ps.zip Z,scope.names.lookup y.1=some .local\/(scope.names.lookup y.1=some .cell/\((cellsFrom (s.heap.objs.size+1) scope.names []).lookup y.1).isSome=true):=λ⟨n,v⟩ hy=>by
  rcases S.par n (Rm hy).1 with q|q
  ·exact .inl q
  ·exact .inr ⟨q,Wm _ _ _ (.inl q)⟩
 refine codeAny_call_function L.depth (U _ _ Y) rfl S.co S.gen rfl (W.codeRec_of U G) (hb _ _ _ _ ?_);refine wpAny_newFunctionEnv_cells S.kind j λenv he X x=>?_;subst he;refine⟨M.keeps x.toInCall.keep,codeAny_func ?_⟩;obtain⟨t,ht,hq⟩:=h A outer s H vs Q E (L.deeper _) D;have I:Inv (cxOf CX P w K mg base N qual scope f cdv A outer s H E) [] (start N vs) H X:=z8g S L.hd C hl r x;refine Cb (ht [] X (start N vs) H _ I hq) (λfl O B=>?_) λe O B=>B;have F:∀{g:St} {H':Hp} {v:V} {u:Value},Inv (cxOf CX P w K mg base N qual scope f cdv A outer s H E) [] g H' O->RelV v u->Q v H'->CE outer P w H s Q u O :=
  λ{g H' v u} J R q=>⟨v,H',J.os,J.bare,J.base,J.hok,R,q⟩
 cases fl with
 |ret u =>
  obtain⟨v,g,H',J,R,q⟩:=B;exact F J R q
 |next =>
  obtain⟨g,H',J,q⟩:=B;exact F (v:=V.non) J rfl q
 |brk =>
  obtain⟨_,_,_,q⟩:=B;exact False.elim q
 |cont =>
  obtain⟨_,_,_,q⟩:=B;exact False.elim q
section
variable{X:Cx}{x:Str}{p pos:Pos}{e:Expr}{es:List Expr}{t:TA}{id T:String}{r:List V->Hp->VK->Prop}
noncomputable def tCB(r:List V->Hp->VK->Prop)(t:TA):TE:=λσ H Q=>t σ H λvs H1=>r vs H1 Q
def q0q(u:CallR X (.builtin id) r)(v:Gl X x)(B:X.mg x=none)(C:Gi x=some (.builtin id))(ha:PA X (e::es) t)(hn:x ≠ "__name__" := by decide)(g:(x==("__debug__" : Str))=false:=by decide)(D:Bc (e::es) X.env=(false,eval e X.env)::Bc es X.env:=by rfl)(j:(Ew pos (Bc es X.env)).any (·.1)=false:=by rfl):PE X (.Call (.Name x p) (e::es) [] pos) (tCB r t):=by
 intro f s o H Q I h;refine Fj (q4z I v B C ?_ hn g);exact Nr (thn (ha pos f s o H _ I h) λE F ⟨vs,G,J,L,M⟩=>u f F o G vs E Q J L M) D j
def q1p(u:CallR X (.type T) r)(v:Gl X x)(B:X.mg x=none)(C:Gi x=some (.type T))(ha:PA X (e::es) t)(hn:x ≠ "__name__" := by decide)(g:(x==("__debug__" : Str))=false:=by decide)(D:Bc (e::es) X.env=(false,eval e X.env)::Bc es X.env:=by rfl)(j:(Ew pos (Bc es X.env)).any (·.1)=false:=by rfl):PE X (.Call (.Name x p) (e::es) [] pos) (tCB r t):=by
 intro f s o H Q I h;refine Fj (q4z I v B C ?_ hn g);exact Ed (thn (ha pos f s o H _ I h) λE F ⟨vs,G,J,L,M⟩=>u f F o G vs E Q J L M) D j
end
end L2
namespace HT
open PySem PyProof.Rows
section
variable{prog:Ak}{w:World}{A:Around}{E:Value->Ag->Prop}{s:Ag}
def cat_tup(I:IsTup s.heap t vs.toArray)(J:IsTup s.heap b ws.toArray)(D:vs≠[])(L:ws=[]->Q (.ref t) s)(M:ws≠[]->Q (.ref s.heap.objs.size) { s with heap:=s.heap.push { cls:=.type "tuple",data:=.seq (vs++ws).toArray } })(u:vs.length+ws.length<=sizeLine):wpAny (model prog w) A (Gj .Add (.ref t) (.ref b)) Q E s:=by
 obtain⟨⟨cls,dd,data,F⟩,j,O,n,hd⟩:=id I;obtain⟨⟨G,g,v,h⟩,f,B,H,C⟩:=id J;subst O hd B C;have e:vs.toArray++ws.toArray=(vs++ws).toArray:=by simp
 by_cases o:ws=[]
 ·exact Vb ⟨_,j,rfl⟩ ⟨_,f,rfl⟩ Qv Ua Mo Ly (Lg _ _)
   (tuple_addW1 t b vs.toArray ws.toArray n H dd g F h (by simpa using D) (by simp[o])) ⟨j,f,L o⟩
 ·refine Vb ⟨_,j,rfl⟩ ⟨_,f,rfl⟩ Qv Ua Mo Ly (Lg _ _)
   (tuple_addW2 t b vs.toArray ws.toArray n H dd g F h (by simpa using D) (by simpa using o) (by rw[Ay,Ay];exact u)) ⟨j,f,?_⟩
  rw[e];exact M o
noncomputable def sIx(n d:Nat):Option Int->Nat
 |none=>d
 |some v=>if v<0 then(v+(n:Int)).toNat else min v.toNat n
def z8h(v:Int)(n d:Nat):(if v<0 then max (v+(n:Int)) 0 else min v (n:Int))=((sIx n d (some v):Nat):Int):=by
 show(if v<0 then max (v+(n:Int)) 0 else min v (n:Int))=(((if v<0 then(v+(n:Int)).toNat else min v.toNat n):Nat):Int)
 by_cases f:v<0
 ·grind
 ·grind
def z6p(f g:Option Int)(n:Nat):Qj f g 1 (n:Int)=(((sIx n 0 f:Nat):Int),((sIx n n g:Nat):Int)):=by
 refine Wk ?_ ?_
 ·cases f with
  |none=>rfl
  |some v=>exact z8h v n 0
 ·cases g with
  |none=>rfl
  |some v=>exact z8h v n n
def z6q(i j:Nat):Ic (i:Int) (j:Int) 1=j-i:=by
 unfold Ic;have f:(1:Int)>0:=by lia
 simp only[f,if_true,Int.ediv_one];split<;>lia
def q8u(p:Mp v o)(h:Q o s):wpAny (model prog w) A (Du.Slice.slicePartIndex v) Q E s:=by
 cases p with
 |none=>exact slicePart_none h
 |int i t=>exact slicePart_int h
def q3j{f:Option Int}{n:Nat}(o:s.heap.IsSliceOf sl vl vu .none)(u:Mp vl f)(v:Mp vu hi)(h:Q (((sIx n 0 f:Nat):Int),1,sIx n n hi-sIx n 0 f) s):wpAny (model prog w) A (Du.Slice.sliceApplied (.ref sl) (pure (n:Int))) Q E s:=by
 obtain⟨os,g,B,j⟩:=id o;refine Ac (Ac (Bs g j rfl (Ac (Bs g j rfl (Ac (Bs g j rfl (Ad ?_)))))));refine Ac (slicePart_none ?_);refine Ac (q8u u (Ac (q8u v (Ac (Ad ?_)))));show wpAny _ _ (match Qj f hi 1 (n:Int) with|(f,hi)=>pure (f,(1:Int),Ic f hi 1)) _ _ s;rw[z6p f hi n];show wpAny _ _ (pure (((sIx n 0 f:Nat):Int),(1:Int),Ic ((sIx n 0 f:Nat):Int) ((sIx n n hi:Nat):Int) 1)) _ _ s;rw[z6q];exact Ad h
def x2e(xs:Array Value)(i k:Nat):((List.range k).filterMap λ(m:Nat)=>xs[((i:Int)+(m:Int)*1).toNat]?).toArray=((xs.toList.drop i).take k).toArray:=by
 have e:(λ(m:Nat)=>xs[((i:Int)+(m:Int)*1).toNat]?)=λm=>xs[i+m]?:=by grind
 rw[e];have:=pick_run xs i k;rw[Vc] at this;have f:((λx=>xs[x]?)∘λx=>i+x)=λm=>xs[i+m]?:=rfl;rw[f] at this;rw[this]
def getItem_tuple_cut{g:Option Int}(j:IsTup s.heap t items)(C:s.heap.IsSliceOf sl vl vu .none)(D:Mp vl g)(F:Mp vu hi)(I:¬(sIx items.size 0 g=0/\sIx items.size items.size hi=items.size))(h:Q (.ref s.heap.objs.size) { s with heap:=s.heap.push { cls:=.type "tuple",data:=.seq ((items.toList.drop (sIx items.size 0 g)).take (sIx items.size items.size hi-sIx items.size 0 g)).toArray } })(G:items.size<=sizeLine):wpAny (model prog w) A (getItem (.ref t) (.ref sl)) Q E s:=by
 have f:sizeOk (.seq ((items.toList.drop (sIx items.size 0 g)).take (sIx items.size items.size hi-sIx items.size 0 g)).toArray):=by
  show((items.toList.drop (sIx items.size 0 g)).take (sIx items.size items.size hi-sIx items.size 0 g)).toArray.size<=sizeLine;rw[Ay,Dg,Dh,Iu];lia
 obtain⟨os,o,u,H⟩:=id C;have v:s.TypeIs (.ref sl) "slice" := ⟨os,o,u⟩
 unfold getItem;try with_reducible refine Cq ?_
 refine Ac (Vq j.typeIs (by decide) ?_);refine Ac (Cg j.typeIs Eg
  (By Eg j.typeIs entry_tuple_getitem ?_ (Vd _ _)))
 show wpAny _ _ (Ki (.ref t) >>= _) _ _ s;refine Ac (tupleItemsOf_ j ?_);refine Ac (Jo v ?_);refine Ac (q3j C D F ?_);have B:¬((((sIx items.size 0 g:Nat):Int)==0&&(1:Int)==1&&(sIx items.size items.size hi-sIx items.size 0 g)==items.size)=true):=by grind
 show wpAny _ _ (if (((sIx items.size 0 g:Nat):Int)==0&&(1:Int)==1&&(sIx items.size items.size hi-sIx items.size 0 g)==items.size)=true then _ else _) _ _ s;rw[if_neg B,x2e];first
  |exact Ac (Cc (Ad ⟨_,rfl,Ad h⟩) f)
  |exact Ac (Cc (Ac (Ad (Ad ⟨_,rfl,Ad h⟩))) f)
  |exact Ac (Ac (Cc (Ad (Ad ⟨_,rfl,Ad h⟩)) f))
  |exact Ac (Ac (Cc (Ad ⟨_,rfl,Ad h⟩) f))
end
end HT
namespace L2
open PySem PySem.Spec PyProof.Rows
noncomputable abbrev TO:=St->Hp->(Option Int->Hp->Prop)->Prop
noncomputable def PO(X:Cx)(e:Option Expr)(t:TO):Prop :=
 ∀(pins:List (Addr×Obj)) (s:Ag) (σ:St) (H:Hp) (Q:Option Int->Hp->Prop),Inv X pins σ H s->t σ H Q ->
  wpAny (model X.prog X.w) X.A (evalPart e X.env) (λu s'=>∃o H',Inv X pins σ H' s'/\Mp u o/\Q o H') X.xe s
noncomputable def tNoPart:TO:=λ_ H Q=>Q none H
noncomputable def tPart(t:TE):TO:=λσ H Q=>t σ H λx H1=>∃i,x=.int i/\Q (some i) H1
section
variable{X:Cx}{e:Expr}{te:TE}{lo hi:Option Expr}{tl th:TO}{pos p2:Pos}
def q2s:PO X none tNoPart:=by
 intro f s g H Q I h;exact Ad ⟨none,H,I,.none,h⟩
def q0z(h:PE X e te):PO X (some e) (tPart te):=by
 intro f s g H Q I j;refine thnE (h f s g H _ I j) λu D x o v B C=>?_;obtain⟨i,rfl,q⟩:=C;obtain⟨t,rfl⟩:=B;exact⟨some i,o,v,.int i t,q⟩
noncomputable def SlR(X:Cx)(r:V->Option Int->Option Int->Hp->VK->Prop):Prop :=
 ∀(pins:List (Addr×Obj)) (s:Ag) (σ:St) (H:Hp) (x:V) (v vl vu:Value) (lo hi:Option Int) (sl:Addr) (Q:VK),Inv X pins σ H s->RelV x v->s.heap.IsSliceOf sl vl vu .none->Mp vl lo->Mp vu hi->r x lo hi H Q ->
  ∃T id,Qk (.type T) "__getitem__" = pure (some (.builtin id))/\s.TypeIs v T/\wpAny (model X.prog X.w) X.A (getItem v (.ref sl)) (EP X pins σ Q) X.xe s
def SlR.or(h:SlR X r)(h':SlR X r'):SlR X (λx g j H Q=>r x g j H Q\/r' x g j H Q):=by
 intro f s o H x v u B g j C Q I D E F G q;rcases q with q|q
 ·exact h f s o H x v u B g j C Q I D E F G q
 ·exact h' f s o H x v u B g j C Q I D E F G q
noncomputable def tSl(r:V->Option Int->Option Int->Hp->VK->Prop)(te:TE)(tl th:TO):TE:=λσ H Q=>te σ H λx H1=>tl σ H1 λl H2=>th σ H2 λu H3=>r x l u H3 Q
def q1c{r:V->Option Int->Option Int->Hp->VK->Prop}(D:SlR X r)(E:PE X e te)(hl:PO X lo tl)(F:PO X hi th):PE X (.Subscript e (.Slice lo hi none p2) pos) (tSl r te tl th):=by
 intro f s j H Q I h;refine Xe (thnE (E f s j H _ I h) λv G x J L M O=>?_);refine wpAny_Slice (thn (hl f G j J _ L O) λo P ⟨l,R,S,U,W⟩=>thn (F f P j R _ S W) λB g Y=>?_);obtain⟨u,C,Z,pu,q3⟩:=Y;refine Ad ?_;have I4:Inv X f j C { g with heap:=g.heap.push { cls:=.type "slice",data:=.fields #[o,B,.none] } }:=Z.kept (t':=g.toks) λb ob q=>Ae _ q;obtain⟨T,id,hT,ht,hg⟩:=D f { g with heap:=g.heap.push { cls:=.type "slice",data:=.fields #[o,B,.none] } } j C x v o B l u g.heap.objs.size Q I4 M (Heap.IsSliceOf.new ..) U pu q3;exact tail_any ht hT hg (by with_unfolding_all rfl)
noncomputable def cutV(xs:List V)(lo hi:Option Int):List V:=(xs.drop (HT.sIx xs.length 0 lo)).take (HT.sIx xs.length xs.length hi-HT.sIx xs.length 0 lo)
def q7d(xs:List V)(f g:Option Int):(cutV xs f g).length<=xs.length:=by
 unfold cutV;rw[Dg,Dh];lia
noncomputable def rSlT(K:Ah):V->Option Int->Option Int->Hp->VK->Prop:=λx lo hi H Q=>∃a xs,x=.ref a/\SqT K H a xs /\
 ¬(HT.sIx xs.length 0 lo=0/\HT.sIx xs.length xs.length hi=xs.length)/\∀p,H p=none->Q (.ref p) (upd H p (.tup (cutV xs lo hi)))
def x4p:SlR X (rSlT X.K):=by
 intro u s O H x v P R j B S Q I E F G J h;obtain⟨a,g,rfl,L,M,q⟩:=h;cases E;obtain⟨o,r,C,D⟩:=I.tuple L;have f:o.toArray.size=g.length:=by rw[Ay];exact r.length.symm
 refine⟨"tuple",_,Eg.lookup,C.typeIs,?_⟩;refine HT.getItem_tuple_cut C F G J (by rw[f];exact M) ?_ (by rw[f];exact D);rw[f];refine⟨.ref s.heap.objs.size,_,I.laid (t':=s.toks) (λb T q=>Ae _ q) (Ai _) ?_,rfl,q _ (I.hok.fresh (Ai _))⟩;exact⟨Bg (q7d g j B) D,_,(r.drop (HT.sIx g.length 0 j)).take (HT.sIx g.length g.length B-HT.sIx g.length 0 j),Xy _ _⟩
def Vals.nil_iff(r:Vals xs us):us=[]↔xs=[]:=by
 cases r with
 |nil=>simp
 |cons _ _=>simp
end
noncomputable def ixN(n:Nat)(i:Int):Option Nat:=if 0<=i then(if i<n then some i.toNat else none) else if -(n:Int)<=i then some (i+n).toNat else none
noncomputable def atI{α:Type}(xs:List α)(i:Int):Option α:=(ixN xs.length i).bind λj=>xs[j]?
def z8i(h:ixN n i=some j):seqIndex? i n=some j/\j<n /\ -(n:Int)<=i/\i<n:=by
 unfold ixN at h;by_cases g:0<=i
 ·rw[if_pos g] at h;by_cases f:i<n
  ·rw[if_pos f] at h;have e:=Cu h;exact⟨by rw[Ru g f,e],by lia,by lia,f⟩
  ·grind
 ·rw[if_neg g] at h;by_cases f : -(n:Int)<=i
  ·rw[if_pos f] at h;have e:=Cu h;exact⟨by rw[seqIndex_neg (by lia) f,e],by lia,f,by lia⟩
  ·grind
def q9o{xs:List α}{v:α}(h:atI xs i=some v):∃j,seqIndex? i xs.length=some j/\xs[j]?=some v/\j<xs.length /\ -(xs.length:Int)<=i/\i<xs.length:=by
 unfold atI at h;cases e:ixN xs.length i with
 |none=>rw[e] at h;cases h
 |some j =>
  rw[e] at h;obtain⟨f,g,o,s⟩:=z8i e;exact⟨j,f,h,g,o,s⟩
def q1m{xs:List α}{j:Nat}{v:α}(h:xs[j]?=some v):atI xs (j:Int)=some v:=by
 have f:=(As.mp h).1;have e:ixN xs.length (j:Int)=some j:=by
  unfold ixN;rw[if_pos (by lia),if_pos (by lia)];simp
 unfold atI;rw[e];exact h
noncomputable def PlainIx(b:Expr):Prop:=∀o i,Rx b false o i=operate [o,i] (getItem o i)
noncomputable def IxR(X:Cx)(r:R2):Prop :=
 ∀(value slice:Expr) (pins:List (Addr×Obj)) (s:Ag) (σ:St) (H:Hp) (x y:V) (v u:Value) (Q:VK),Inv X pins σ H s->RelV x v->RelV y u->r x y H Q ->
  Rx slice false v u=operate [v,u] (getItem v u)->wpAny (model X.prog X.w) X.A (subscriptTail value slice v u) (EP X pins σ Q) X.xe s
noncomputable def MtR(X:Cx)(id:String)(r:V->List V->Hp->VK->Prop):Prop :=
 ∀(pins:List (Addr×Obj)) (s:Ag) (σ:St) (H:Hp) (x:V) (xs:List V) (v:Value) (us:List Value) (Q:VK),Inv X pins σ H s->RelV x v->Vals xs us->r x xs H Q ->
  wpAny (model X.prog X.w) X.A (call (.builtin id) (v::us)) (EP X pins σ Q) X.xe s
section
variable{X:Cx}{a b:Expr}{ta tb:TE}{pos:Pos}
def IxR.or(h:IxR X r)(h':IxR X r'):IxR X (λx y H Q=>r x y H Q\/r' x y H Q):=by
 intro f g j s o H x y v u Q I B C q D;rcases q with q|q
 ·exact h f g j s o H x y v u Q I B C q D
 ·exact h' f g j s o H x y v u Q I B C q D
def q0w{r:R2}(g:IxR X r)(ha:PE X a ta)(j:PE X b tb)(o:PlainIx b):PE X (.Subscript a b pos) (tOp r ta tb):=by
 intro f s B H Q I h;exact Xe (binT ha j I h λv u C x y D E F G q=>g a b f C B D x y v u Q E F G q (o _ _))
noncomputable def rIxL(K:Ah):R2:=λx y H Q=>∃p xs i v,x=.ref p/\y=.int i/\SqL K H p xs/\atI xs i=some v/\Q v H
noncomputable def rIxT(K:Ah):R2:=λx y H Q=>∃p xs i v,x=.ref p/\y=.int i/\SqT K H p xs/\atI xs i=some v/\Q v H
noncomputable def rIxS:R2:=λx y H Q=>∃z i c,x=.str z/\y=.int i/\z.length<=sizeLine/\atI z.cps.toList i=some c/\Q (.str ⟨#[c]⟩) H
def ix_list:IxR X (rIxL X.K):=by
 intro B C f s O H x y v u Q I P R h J;obtain⟨p,Z,i,z,rfl,rfl,S,T,q⟩:=h;cases P;obtain⟨t,rfl⟩:=R;obtain⟨D,r,E,hz⟩:=I.list S;obtain⟨j,o,U,h3,W,Y⟩:=q9o T;obtain⟨w,L,F⟩:=r.get U;have hl:=r.length;have hn:=line63;have g:EP X f O Q w s:=⟨z,H,I,F,q⟩
 by_cases M:0<=i
 ·have G:i.toNat=j:=by
   rw[Ru M Y] at o;exact Cu o
  exact item_listR E.isList M (by lia) (by rw[G];simpa using L) g J
 ·have G:(i+(D.toArray.size:Int)).toNat=j:=by
   rw[seqIndex_neg (by lia) W] at o;rw[Ay,<- hl];exact Cu o
  exact Ry E.isList.typeIs slot_list_getitem.lookup
   (Rz E.isList (by lia) (by rw[Ay]<;>lia) (by lia) (by rw[G];simpa using L) ⟨rfl,g⟩) J
def ix_tup:IxR X (rIxT X.K):=by
 intro g o f s E H x y v u Q I F G h J;obtain⟨p,T,i,z,rfl,rfl,L,M,q⟩:=h;cases F;obtain⟨t,rfl⟩:=G;obtain⟨O,r,D,U⟩:=I.tuple L;obtain⟨j,P,R,W,Y,Z⟩:=q9o M;obtain⟨w,S,B⟩:=r.get R;have hl:=r.length;have hn:=line63;have C:EP X f E Q w s:=⟨z,H,I,B,q⟩
 exact Ry D.typeIs slot_tuple_getitem.lookup
  (getItem_tuple D (by lia) (by lia) (by rw[Ay,<- hl];exact P) (by simpa using S) ⟨rfl,C⟩) J
def ix_str:IxR X rIxS:=by
 intro f g o s P H x y v u Q I C D h E;obtain⟨z,i,c,rfl,rfl,R,F,q⟩:=h;obtain⟨t,rfl⟩:=C;obtain⟨S,rfl⟩:=D;obtain⟨j,B,G,T,J,L⟩:=q9o F;have hl:z.cps.toList.length=z.length:=by simp[Str.length]
 rw[hl] at B J L;have hn:=line63;exact tail_any (Th s z t) slot_str_getitem.lookup (getItem_str (by
  have M:decide (i < -(2^63:Int))=false:=decide_eq_false (by lia);have O:decide (i>=2^63)=false:=decide_eq_false (by lia);rw[M,O,Pu]) (by rw[B];simpa using G) ⟨.str ⟨#[c]⟩,H,I.tok _,⟨_,rfl⟩,q⟩) E
noncomputable def rIx(K:Ah):R2:=λx y H Q=>rIxL K x y H Q\/rIxT K x y H Q\/rIxS x y H Q
def ix_seq:IxR X (rIx X.K):=ix_list.or (ix_tup.or ix_str)
def z6r(f:List Value)(n j:Nat)(u:Value):Fq (·.setIfInBounds j u) { cls:=.type "list",data:=.seq f.toArray n }={ cls:=.type "list",data:=.seq (f.set j u).toArray n }:=by
 simp[Fq]
def Inv.lst{g:List (Addr×Obj)}{j:St}{H:Hp}{s:Ag}{p:Addr}{xs:List V}(I:Inv X g j H s)(h:H p=some (.lst xs)):
  ∃(f:List Value) (n:Nat),Vals xs f/\s.heap.get? p=some { cls:=.type "list",data:=.seq f.toArray n }/\xs.length<=sizeLine:=by
 obtain⟨z,f,n,r,e⟩:=I.hok p _ h;exact⟨f,n,r,e,z⟩
def Inv.lstUpd{j:St}{g:List Value}(I:Inv X pins j H s)(h:H p=some (.lst xs))(v:s.heap.get? p=some { cls:=.type "list",data:=.seq g.toArray n })(o:f { cls:=.type "list",data:=.seq g.toArray n }={ cls:=.type "list",data:=.seq its'.toArray n' })(r:Vals ys its')(B:ys.length<=sizeLine)(t:Nat):
  Inv X pins j (upd H p (.lst ys)) { s with heap:=s.heap.update p f,toks:=t }:=by
 have e:(s.heap.update p f).get? p=some { cls:=.type "list",data:=.seq its'.toArray n' }:=by
  rw[Er f v (by rw[o]<;>rfl),o]
 refine I.write (by rw[h];trivial) (.inl rfl) (λb u C q=>(Bu _ _ (Bz C)).trans q) ⟨_,e⟩ ?_;exact⟨B,its',n',r,e⟩
noncomputable def rSetL:V->V->V->Hp->(Hp->Prop)->Prop:=λo i v H Q=>∃p xs k j,o=.ref p/\i=.int k/\H p=some (.lst xs)/\ixN xs.length k=some j/\Q (upd H p (.lst (xs.set j v)))
def q6v:PSet X rSetL:=by
 intro f s J H o i v T U u Q I L M O h;obtain⟨p,P,k,j,rfl,rfl,D,R,q⟩:=h;cases L;obtain⟨t,rfl⟩:=M;obtain⟨g,n,r,C,S⟩:=I.lst D;obtain⟨B,Y,E,F⟩:=z8i R;have hl:=r.length;have hn:=line63;have I':Inv X f J (upd H p (.lst (P.set j v))) { s with heap:=s.heap.update p (Fq (·.setIfInBounds j u)) } :=
  I.lstUpd D C (z6r g n j u) (r.set O j) (by rw[List.length_set];exact S) s.toks
 by_cases G:0<=k
 ·have hk:k.toNat=j:=by
   rw[Ru G F] at B;exact Cu B
  exact W.ki_setAt C G (by lia) (by rw[Ay,<- hl];exact F) (by rw[hk];exact⟨_,I',q⟩)
 ·have hk:(k+(g.toArray.size:Int)).toNat=j:=by
   rw[seqIndex_neg (by lia) E] at B;rw[Ay,<- hl];exact Cu B
  exact W.ki_setBack C (by lia) (by rw[Ay,<- hl];exact E) (by lia) (by rw[hk];exact⟨_,I',q⟩)
def z1m(f g:Option Int)(n:Nat):(Kp f g none n).1=((HT.sIx n 0 f:Nat):Int)/\(Kp f g none n).2.1=((HT.sIx n n g:Nat):Int)/\(Kp f g none n).2.2=1:=by
 refine⟨?_,?_,rfl⟩
 ·cases f with
  |none=>simp[Kp,HT.sIx]
  |some i =>
   simp only[Kp,HT.sIx,Wn,show(1:Int)>0 by decide,if_true];by_cases h:i<0
   ·simp only[h,if_true]<;>lia
   ·simp only[h,if_false]<;>lia
 ·cases g with
  |none=>simp[Kp,HT.sIx]
  |some i =>
   simp only[Kp,HT.sIx,Wn,show(1:Int)>0 by decide,if_true];by_cases h:i<0
   ·simp only[h,if_true]<;>lia
   ·simp only[h,if_false]<;>lia
def q9p(f:List Value)(g h:Option Int):slicePick f.toArray g h none=((f.drop (HT.sIx f.length 0 g)).take (HT.sIx f.length f.length h-HT.sIx f.length 0 g)).toArray:=by
 obtain⟨j,o,s⟩:=z1m g h f.toArray.size;unfold slicePick;rw[j,o,s];simp only[sliceRange_one,pick_run,Ay]<;>rfl
noncomputable def rSlL(K:Ah):V->Option Int->Option Int->Hp->VK->Prop:=λx lo hi H Q=>∃a xs,x=.ref a/\SqL K H a xs/\∀p,H p=none->Q (.ref p) (upd H p (.lst (cutV xs lo hi)))
def sl_list:SlR X (rSlL X.K):=by
 intro o s M H x v O P j u R Q I C D E F h;obtain⟨a,f,rfl,G,q⟩:=h;cases C;obtain⟨J,r,B,L⟩:=I.list G;have g:=r.length;refine⟨"list",_,slot_list_getitem.lookup,B.isList.typeIs,?_⟩;refine wpAny_getItem_list_slice B.isList D E F .none (by simp) ?_ (by rw[Ay]<;>lia);rw[q9p,<- g];refine⟨.ref s.heap.objs.size,_,I.laid (t':=s.toks) (λb S q=>Ae _ q) (Ai _) ?_,rfl,q _ (I.hok.fresh (Ai _))⟩;exact⟨Bg (q7d f j u) L,_,0,(r.drop (HT.sIx f.length 0 j)).take (HT.sIx f.length f.length u-HT.sIx f.length 0 j),An _ rfl⟩
noncomputable def flatV:V->Bool
 |.non=>true
 |.bl _=>true
 |.int _=>true
 |.str _=>true
 |_=>false
noncomputable def eqV:V->V->Bool
 |.non,.non=>true
 |.bl a,.bl b=>a==b
 |.bl a,.int b=>(if a then 1 else 0)==b
 |.int a,.bl b=>a==(if b then 1 else 0)
 |.int a,.int b=>a==b
 |.str a,.str b=>a==b
 |_,_=>false
def eqAt_V(h:RelV y u)(f:RelV x v)(o:flatV y=true)(j:flatV x=true):En A s u v (eqV y x):=by
 cases y with
 |non =>
  cases h;cases x with
  |non=>cases f;exact Xf _
  |bl b=>cases f;exact En.none_bool b
  |int b=>obtain⟨t,rfl⟩:=f;exact En.none_int b t
  |str b=>obtain⟨t,rfl⟩:=f;exact En.none_str b t
  |_=>exact absurd (show false=true from j) Bl
 |bl a =>
  cases h;cases x with
  |non=>cases f;exact En.bool_none a
  |bl b=>cases f;exact En.bool_bool a b
  |int b=>obtain⟨t,rfl⟩:=f;exact En.bool_int a b t
  |str b=>obtain⟨t,rfl⟩:=f;exact En.bool_str a b t
  |_=>exact absurd (show false=true from j) Bl
 |int a =>
  obtain⟨g,rfl⟩:=h;cases x with
  |non=>cases f;exact En.int_none a g
  |bl b=>cases f;exact En.int_bool a g b
  |int b=>obtain⟨t,rfl⟩:=f;exact En.int_int a g b t
  |str b=>obtain⟨t,rfl⟩:=f;exact Ur a g b t
  |_=>exact absurd (show false=true from j) Bl
 |str a =>
  obtain⟨g,rfl⟩:=h;cases x with
  |non=>cases f;exact En.str_none a g
  |bl b=>cases f;exact En.str_bool a g b
  |int b=>obtain⟨t,rfl⟩:=f;exact Ut a g b t
  |str b=>obtain⟨t,rfl⟩:=f;exact Pe a g b t
  |_=>exact absurd (show false=true from j) Bl
 |_=>exact absurd (show false=true from o) Bl
noncomputable def eqU(x:V)(u:Value):Bool:=match u with
 |.none=>eqV .non x
 |.bool b=>eqV (.bl b) x
 |.int i _=>eqV (.int i) x
 |.str z _=>eqV (.str z) x
 |_=>false
def x4q(r:RelV y u)(f:flatV y=true):eqU x u=eqV y x:=by
 cases y with
 |non=>cases r;rfl
 |bl b=>cases r;rfl
 |int i=>obtain⟨t,rfl⟩:=r;rfl
 |str z=>obtain⟨t,rfl⟩:=r;rfl
 |_=>exact absurd (show false=true from f) Bl
theorem q7e{x:V}:∀{xs:List V} {us:List Value},Vals xs us->xs.all flatV=true->us.any (eqU x)=xs.any λy=>eqV y x
 |_,_,.nil,_=>rfl
 |y::xs,u::us,.cons r t,f=>by
  rw[Ub,Cz] at f;rw[Kj,Kj,x4q r f.1,q7e t f.2]
theorem q5e{A:Around}{s:Ag}{x:V}{v:Value}(h:RelV x v)(j:flatV x=true):∀{xs:List V} {us:List Value},Vals xs us->xs.all flatV=true->∀u∈us,En A s u v (eqU x u)
 |_,_,.nil,_=>λu g=>by cases g
 |y::xs,u::us,.cons r t,f=>λo g=>by
  rw[Ub,Cz] at f;rcases Az.mp g with rfl|g
  ·rw[x4q r f.1];exact eqAt_V r h f.1 j
  ·exact q5e h j t f.2 o g
noncomputable def inV(x:V)(xs:List V):Bool:=xs.any λy=>eqV y x
noncomputable def rIn(K:Ah)(neg:Bool):R2:=λx y H Q=>∃p xs,y=.ref p/\(SqL K H p xs\/SqT K H p xs)/\flatV x=true/\xs.all flatV=true/\Q (.bl (if neg then !inV x xs else inV x xs)) H
def z8j:OpR X (Cj .In) (rIn X.K false):=by
 intro B s G H x y v u Q I C E h;obtain⟨p,J,rfl,g,D,fs,q⟩:=h;cases E;rcases g with g|g
 ·obtain⟨f,r,j,F⟩:=I.list g;refine SeqAt.in_listAt (eqU x) j.isList (λw o=>q5e C D r fs w (by simpa using o)) ⟨.bl _,H,I,rfl,?_⟩;rw[show f.toArray.any (eqU x)=f.any (eqU x) by simp,q7e r fs];exact q
 ·obtain⟨f,r,j,F⟩:=I.tuple g;refine SeqAt.in_tupleAt (eqU x) j (λw o=>q5e C D r fs w (by simpa using o)) ⟨.bl _,H,I,rfl,?_⟩;rw[show f.toArray.any (eqU x)=f.any (eqU x) by simp,q7e r fs];exact q
def z1n:OpR X (Cj .NotIn) (rIn X.K true):=by
 intro B s G H x y v u Q I C E h;obtain⟨p,J,rfl,g,D,fs,q⟩:=h;cases E;rcases g with g|g
 ·obtain⟨f,r,j,F⟩:=I.list g;refine SeqAt.notIn_listAt (eqU x) j.isList (λw o=>q5e C D r fs w (by simpa using o)) ⟨.bl _,H,I,rfl,?_⟩;rw[show f.toArray.any (eqU x)=f.any (eqU x) by simp,q7e r fs];exact q
 ·obtain⟨f,r,j,F⟩:=I.tuple g;refine Ui (eqU x) j (λw o=>q5e C D r fs w (by simpa using o)) ⟨.bl _,H,I,rfl,?_⟩;rw[show f.toArray.any (eqU x)=f.any (eqU x) by simp,q7e r fs];exact q
def op_notIn_str:OpR X (Cj .NotIn) (λx y H Q=>∃i j,x=.str i/\y=.str j/\Q (.bl (!(!(Gy j i 0 j.length 1).isEmpty))) H):=by
 intro f s B H x y v u Q I g o h;obtain⟨i,j,rfl,rfl,q⟩:=h;obtain⟨t,rfl⟩:=g;obtain⟨C,rfl⟩:=o;exact notIn_str ⟨.bl _,H,I,rfl,q⟩
def CallR.or(h:CallR X f r)(h':CallR X f r'):CallR X f (λxs H Q=>r xs H Q\/r' xs H Q):=by
 intro g s j H xs o Q I u q;rcases q with q|q
 ·exact h g s j H xs o Q I u q
 ·exact h' g s j H xs o Q I u q
def z1o:CallR X (.type "list") (λxs H Q=>∃p ys,xs=[.ref p]/\(SqL X.K H p ys\/SqT X.K H p ys)/\∀l,H l=none->Q (.ref l) (upd H l (.lst ys))):=by
 intro B s O H xs R Q I r h;obtain⟨p,ys,rfl,C,q⟩:=h;obtain⟨u,rfl,P⟩:=vals1 r;cases P;have D:∀(f:List Value),Vals ys f->ys.length<=sizeLine->∀(g:Heap) (j:Nat),(∀b M,s.heap.get? b=some M->g.get? b=some M) ->
   g.get? s.heap.objs.size=some { cls:=.type "list",dict:=none,data:=.seq f.toArray j,slots:=#[] }->EP X B O Q (.ref s.heap.objs.size) { s with heap:=g }:=λf v E g j kp e =>
  ⟨.ref s.heap.objs.size,_,I.laid (t':=s.toks) kp (Ai _) (show ObjOk X.prog X.w _ g _ (.lst ys) from⟨E,f,j,v,e⟩),rfl,q _ (I.hok.fresh (Ai _))⟩
 rcases C with C|C
 ·obtain⟨f,v,G,E⟩:=I.list C;have F:=v.length;obtain⟨o,J,L,n,hd⟩:=G.isList;exact call_list_seq p (.inl rfl) J L hd (λg j kp e=>D f v E g j kp e) (by simp only[Ay]<;>lia)
 ·obtain⟨f,v,G,E⟩:=I.tuple C;have F:=v.length;obtain⟨o,J,L,n,hd⟩:=G;exact call_list_seq p (.inr rfl) J L hd (λg j kp e=>D f v E g j kp e) (by simp only[Ay]<;>lia)
def q9q:CallR X (.type "tuple") (λxs H Q=>∃p ys,xs=[.ref p]/\((SqL X.K H p ys/\∀l,H l=none->Q (.ref l) (upd H l (.tup ys)))\/(SqT X.K H p ys/\Q (.ref p) H))):=by
 intro f s D H xs M Q I r h;obtain⟨p,ys,rfl,h⟩:=h;obtain⟨u,rfl,J⟩:=vals1 r;cases J;rcases h with⟨v,q⟩|⟨v,q⟩
 ·obtain⟨g,B,C,E⟩:=I.list v;have F:=B.length;refine call_tuple_list C.isList (λj kp=>?_) (by simp only[Ay]<;>lia);have G:Inv X f D H { s with heap:=j }:=I.kept (t':=s.toks) kp;have L:Inv X f D (upd H j.objs.size (.tup ys)) { s with heap:=j.push { cls:=.type "tuple",data:=.seq g.toArray } } :=
   G.laid (t':=s.toks) (λb o e=>Ae _ e) (Ai _) (show ObjOk X.prog X.w _ _ _ (.tup ys) from⟨E,g,B,Xy _ _⟩)
  exact⟨.ref j.objs.size,_,L,rfl,q _ (G.hok.fresh (Ai _))⟩
 ·obtain⟨g,B,C,E⟩:=I.tuple v;exact call_tuple_same C ⟨.ref p,H,I,rfl,q⟩
noncomputable def tyV(K:Ah)(T:String)(x:V)(H:Hp):Prop:=match x with
 |.str _=>T = "str"
 |.int _=>T = "int"
 |.ref p=>(T = "list" /\ ∃xs,SqL K H p xs)\/(T = "tuple" /\ ∃o,K.lookup p=some o/\o.cls=.type "tuple" /\ o.dict=none) \/
   (T = "dict" /\ ((∃kvs,H p=some (.dK kvs))\/∃kvs,H p=some (.dT kvs)))\/(T = "set" /\ ∃S n,H p=some (.set S n))
 |_=>False
def x4r{u:St}(I:Inv X pins u H s)(r:RelV x v)(ty:tyV X.K T x H):
  s.TypeIs v T/\∀a,v=.ref a->∃h,s.heap.get? a=some h/\h.dict=none:=by
 cases x with
 |str z =>
  obtain⟨t,rfl⟩:=r;cases(show T = "str" from ty);exact⟨Th s z t,λ_ e=>nomatch e⟩
 |int i =>
  obtain⟨t,rfl⟩:=r;cases(show T = "int" from ty);exact⟨Xg s i t,λ_ e=>nomatch e⟩
 |ref p =>
  cases r;rcases ty with⟨rfl,E,B⟩|⟨rfl,o,hk,C,hd⟩|⟨rfl,hk⟩|⟨rfl,S,n,hk⟩
  ·obtain⟨D,_,j,_⟩:=I.list B;refine⟨j.isList.typeIs,λa e=>?_⟩;cases e;obtain⟨o,n,e,c,hd,_⟩:=j;exact⟨o,e,hd⟩
  ·refine⟨⟨o,I.kIn p o hk,C⟩,λa e=>?_⟩;cases e;exact⟨o,I.kIn _ o hk,hd⟩
  ·have z:∃o,s.heap.get? p=some o/\o.ExactDict:=by
    rcases hk with⟨f,hk⟩|⟨f,hk⟩
    ·obtain⟨_,_,_,_,o,_,_,e,ex,_⟩:=I.hok p _ hk;exact⟨o,e,ex⟩
    ·obtain⟨_,_,_,_,o,_,_,e,ex,_⟩:=I.hok p _ hk;exact⟨o,e,ex⟩
   obtain⟨o,e,ex⟩:=z;refine⟨⟨o,e,ex.1⟩,λa g=>?_⟩;cases g;exact⟨o,e,ex.2.1⟩
  ·obtain⟨o,_,_,_,e,ex,_⟩:=I.hok p _ hk;refine⟨⟨o,e,ex.1⟩,λa g=>?_⟩;cases g;exact⟨o,e,ex.2.1⟩
 |_=>exact False.elim ty
noncomputable def tBM0(K:Ah)(T:String)(r:V->List V->Hp->VK->Prop)(to:TE):TE:=λσ H Q=>to σ H λx H1=>tyV K T x H1/\r x [] H1 Q
noncomputable def tBM(K:Ah)(T:String)(r:V->List V->Hp->VK->Prop)(to:TE)(t:TA):TE:=λσ H Q=>to σ H λx H1=>tyV K T x H1/\t σ H1 λxs H2=>r x xs H2 Q
variable{o e:Expr}{es:List Expr}{to:TE}{t:TA}{name:Str}{apos cpos:Pos}{T id:String}{r:V->List V->Hp->VK->Prop}
def pe_bm0(E:Ti T)(slot:Slot T name id)(u:typeOf (.builtin id)=pure (.type "method_descriptor"))(F:MtR X id r)(G:PE X o to)(g:Gv o name X.env (eval o X.env)=eval o X.env:=by rfl)(j:(apos.endLine==cpos.line)=true:=by rfl):PE X (.Call (.Attribute o name apos) [] [] cpos) (tBM0 X.K T r to):=by
 intro f s B H Q I h;refine wpAny_Call_method0_late g j (thnE (G f s B H _ I h) λv J x L C D ⟨ty,M⟩=>?_);obtain⟨O,P⟩:=x4r C D ty;exact⟨T,id,E,slot,u,O,P,Mq rfl (PySem.evalArgs_none (F f J B L x [] v [] Q C D .nil M))⟩
def pe_bm(J:Ti T)(slot:Slot T name id)(C:typeOf (.builtin id)=pure (.type "method_descriptor"))(L:MtR X id r)(M:PE X o to)(ha:PA X (e::es) t)(j:Gv o name X.env (eval o X.env)=eval o X.env:=by rfl)(B:((Ew cpos (Bc (e::es) X.env)).all (λx => !x.1)&&(Mw cpos (Jj [] X.env)).all (λx=>x.1.isSome)
   && decide ((e::es).length+([]:List Sn).length+(if ([]:List Sn).isEmpty then 0 else 1)<30))=true:=by rfl)(u:(apos.endLine==cpos.line)=true:=by rfl)(O:Bc (e::es) X.env=(false,eval e X.env)::Bc es X.env:=by rfl)(g:(Ew cpos (Bc es X.env)).any (·.1)=false:=by rfl):
  PE X (.Call (.Attribute o name apos) (e::es) [] cpos) (tBM X.K T r to t):=by
 intro f s D H Q I h;refine wpAny_Call_method_late j B u rfl (thnE (M f s D H _ I h) λv P x R E F ⟨ty,S⟩=>?_);obtain⟨U,W⟩:=x4r E F ty;refine⟨T,id,J,slot,C,U,W,?_⟩;have G:=ha cpos f P D R _ E S;rw[O] at G ⊢;refine Mq (by show(false||(Ew cpos (Bc es X.env)).any (·.1))=false;rw[g]<;>rfl) (Tj ?_);exact thn G λY Z ⟨vs,H2,I2,r2,q2⟩=>L f Z D H2 x vs v Y Q I2 F r2 q2
end
noncomputable def MtM(X:Cx)(id:String)(r:V->List V->Hp->VK->Prop):Prop :=
 ∀(pins:List (Addr×Obj)) (s:Ag) (σ:St) (H:Hp) (x:V) (xs:List V) (v:Value) (us:List Value) (Q:VK),Inv X pins σ H s->RelV x v->Vals xs us->r x xs H Q ->
  wpAny (model X.prog X.w) X.A (call (.builtin id) (v::us)) (EP X pins σ Q) X.xe s
def Vals.one:∀{x:V} {us:List Value},Vals [x] us->∃u,us=[u]/\RelV x u:=λr=>vals1 r
def Vals.two:∀{x y:V} {us:List Value},Vals [x,y] us->∃u v,us=[u,v]/\RelV x u/\RelV y v:=λr=>vals2 r
theorem Vals.zero:∀{us:List Value},Vals [] us->us=[]
 |_,.nil=>rfl
def Vals.reverse(h:Vals xs us):Vals xs.reverse us.reverse:=by
 induction h with
 |nil=>exact .nil
 |cons r t ih=>rw[Vr,Vr];exact Vals.append ih (.cons r .nil)
theorem Vals.rep{xs:List V}{f:List Value}(h:Vals xs f):∀k:Nat,Vals (List.replicate k xs).flatten (List.replicate k f).flatten
 |0=>.nil
 |k+1=>by
  rw[Oi,Oi,Qd,Qd];exact Vals.append h (Vals.rep h k)
theorem z1p(f:List Value):∀(k:Nat) (acc:List Value),
  List.foldl (λg h=>g++h) acc.toArray (List.replicate k f.toArray)=(acc++(List.replicate k f).flatten).toArray
 |0,acc=>by simp
 |k+1,acc=>by
  have e:acc.toArray++f.toArray=(acc++f).toArray:=by simp
  have j:(acc++f)++(List.replicate k f).flatten=acc++(List.replicate (k+1) f).flatten:=by grind
  rw[<- j,<- z1p f k (acc++f),<- e,Oi,Nt]
section
variable{X:Cx}{pins:List (Addr×Obj)}{σ:St}{H:Hp}{s:Ag}{l b:Addr}{xs ys zs:List V}
def Inv.lset{g:List Value}(I:Inv X pins σ H s)(h:H l=some (.lst xs))(e:s.heap.get? l=some { cls:=.type "list",data:=.seq g.toArray n })(j:f g.toArray=its'.toArray)(o:Vals ys its')(v:ys.length<=sizeLine):
  Inv X pins σ (upd H l (.lst ys)) { s with heap:=s.heap.update l (Fq f),toks:=t' }:=by
 have q:=PySem.IsL.update e f;rw[j] at q;refine I.write (by rw[h];exact trivial) (.inl rfl) (λD u B C=>(Bu s.heap (Fq f) (Bz B)).trans C) ⟨_,q⟩ ?_;exact⟨v,its',_,o,q⟩
def Inv.lnew(I:Inv X pins σ H s)(f:Vals ys its)(g:ys.length<=sizeLine):
  Inv X pins σ (upd H s.heap.objs.size (.lst ys)) { s with heap:=s.heap.push { cls:=.type "list",data:=.seq its.toArray },toks:=t' } :=
 I.laid (λ_ _ q=>Ae _ q) (Ai _) ⟨g,its,0,f,An _ rfl⟩
def Inv.fresh(I:Inv X pins σ H s):H s.heap.objs.size=none:=I.hok.fresh (Ai _)
def Inv.lstM(I:Inv X pins σ H s)(g:H l=some (.lst xs)):xs.length<=sizeLine/\∃(f:List Value) (n:Nat),Vals xs f/\xs.length=f.length/\s.heap.get? l=some { cls:=.type "list",data:=.seq f.toArray n }:=by
 obtain⟨z,f,n,r,e⟩:=I.hok l _ g;exact⟨z,f,n,r,r.length,e⟩
def notLongL(h:n<=sizeLine):Lh n=false:=by
 exact decide_eq_false (by lia)
end
section
variable{X:Cx}
noncomputable def rAppend:V->List V->Hp->VK->Prop:=λx vs H Q=>∃l xs y,x=.ref l/\vs=[y]/\H l=some (.lst xs)/\xs.length<sizeLine/\Q .non (upd H l (.lst (xs++[y])))
def q1d:MtM X "list.append" rAppend:=by
 intro g s D H x vs v E Q I o B h;obtain⟨l,G,y,rfl,rfl,j,J,q⟩:=h;cases o;obtain⟨u,rfl,C⟩:=B.one;obtain⟨z,f,n,r,hl,e⟩:=I.lstM j;refine Ls F.slot_list_append ⟨_,e,rfl⟩ F.entry_list_append (F.args_list_append_2 _ _) (PySem.list_append l f.toArray n u (by rw[Ay];lia)) ⟨e,?_⟩;refine⟨.non,_,I.lset (its':=f++[u]) j e (by simp) (r.append (.cons C .nil)) ?_,rfl,q⟩;rw[Aj,Bk];lia
noncomputable def rExtend:V->List V->Hp->VK->Prop:=λx vs H Q=>∃l b xs zs,x=.ref l/\vs=[.ref b]/\H l=some (.lst xs)/\H b=some (.lst zs)/\xs.length+zs.length<=sizeLine/\Q .non (upd H l (.lst (xs++zs)))
def q5f:MtM X "list.extend" rExtend:=by
 intro B s R H x vs v S Q I D E h;obtain⟨l,b,T,U,rfl,rfl,C,G,W,q⟩:=h;cases D;obtain⟨u,rfl,J⟩:=E.one;cases J;obtain⟨z,g,n,r,hl,e⟩:=I.lstM C;obtain⟨Y,f,L,M,O,P⟩:=I.lstM G;have o:g.toArray.size+f.toArray.size<=sizeLine:=by grind
 have j:¬(!g.toArray.isEmpty&&Lh (g.toArray.size+f.toArray.size))=true:=by
  rw[notLongL o,Bool.and_false];exact Bl
 refine Ls F.slot_list_extend ⟨_,e,rfl⟩ F.entry_list_extend (F.args_list_extend_2 _ _)
  (AutoSeq1.list_extend_list_list_0 l g.toArray n b f.toArray L j (by rw[Ay];lia) (by lia)) ⟨e,P,?_⟩
 refine⟨.non,_,I.lset (its':=g++f) C e (by simp) (r.append M) ?_,rfl,q⟩;rw[Aj];lia
noncomputable def rReverse:V->List V->Hp->VK->Prop:=λx vs H Q=>∃l xs,x=.ref l/\vs=[]/\H l=some (.lst xs)/\Q .non (upd H l (.lst xs.reverse))
def z6s:MtM X "list.reverse" rReverse:=by
 intro j s C H x vs v D Q I u B h;obtain⟨l,E,rfl,rfl,o,q⟩:=h;cases u;have g:=B.zero;subst g;obtain⟨z,f,n,r,hl,e⟩:=I.lstM o;refine Ls F.slot_list_reverse ⟨_,e,rfl⟩ F.entry_list_reverse (F.args_list_reverse_1 _) (AutoSeq1.list_reverse_list_0 l f.toArray n (by rw[Ay];lia)) ⟨e,?_⟩;refine⟨.non,_,I.lset (its':=f.reverse) o e (by simp) r.reverse ?_,rfl,q⟩;rw[Uj];lia
noncomputable def rCat:R2:=λx y H Q=>∃l b xs zs,x=.ref l/\y=.ref b/\H l=some (.lst xs)/\H b=some (.lst zs)/\xs.length+zs.length<=sizeLine/\∀p,H p=none->Q (.ref p) (upd H p (.lst (xs++zs)))
def op_cat:OpR X (Gj .Add) rCat:=by
 intro j s L H x y v u Q I o B h;obtain⟨l,b,M,O,rfl,rfl,C,D,R,q⟩:=h;cases o;cases B;obtain⟨z,g,n,r,hl,e⟩:=I.lstM C;obtain⟨S,f,T,E,F,G⟩:=I.lstM D;refine PySem.P.add_list e G ?_ (by rw[Ay,Ay];lia);have J:g.toArray++f.toArray=(g++f).toArray:=by simp
 rw[J];exact⟨.ref _,_,I.lnew (t':=s.toks) (r.append E) (by rw[Aj];lia),rfl,q _ I.fresh⟩
noncomputable def rRep:R2:=λx y H Q=>∃l k xs,x=.ref l/\y=.int k/\H l=some (.lst xs) /\ -(2^63)<=k/\k<2^63/\xs.length*k.toNat<=sizeLine /\
 ∀p,H p=none->Q (.ref p) (upd H p (.lst (List.replicate k.toNat xs).flatten))
def x5v{f:Type}(xs:List f)(k:Nat):(List.replicate k xs).flatten.length=k*xs.length:=by simp_all
def op_rep:OpR X (Gj .Mult) rRep:=by
 intro G s T H x y v u Q I J L h;obtain⟨l,k,U,rfl,rfl,M,O,P,R,q⟩:=h;cases J;obtain⟨t,rfl⟩:=L;obtain⟨z,f,n,r,hl,e⟩:=I.lstM M;have j:f.toArray.size*k.toNat<=sizeLine:=by simp_all
 have o:¬f.toArray.size*k.toNat>(2^63-1) / 8:=by
  have:(sizeLine:Nat)<=(2^63-1) / 8:=by decide
  lia
 have B:¬(!Builtin.List.listFitsIndex k)=true:=by
  rw[fitsIndex_both O P];exact Bl
 have g:¬Lh (f.toArray.size*k.toNat)=true:=by
  rw[notLongL j];exact Bl
 have C:List.foldl (λD E=>D++E) #[] (List.replicate (if f.toArray.isEmpty=true then 0 else k.toNat) f.toArray)=(List.replicate k.toNat f).flatten.toArray:=by
  have f0:∀m:Nat,List.foldl (λD E=>D++E) #[] (List.replicate m f.toArray)=(List.replicate m f).flatten.toArray:=λm=>by
   have:=z1p f m [];exact this
  cases f with
  |nil=>simp
  |cons a r'=>grind
 refine wpAny_binaryOp_repeat_ref (by decide) ⟨_,e,rfl⟩ (λS=>Xg S k t) noFill_list_mul F.fills_int_mul Xh repeat_list F.slot_int_index.lookup
  (Ls Xh (Xg s k t) F.entry_int_rmul (F.args_int_rmul_2 _ _) (int___rmul___int_list k t l f.toArray n)
   ⟨e,rfl,⟨_,e,rfl⟩,Ls F.slot_list_mul ⟨_,e,rfl⟩ F.entry_list_mul (F.args_list_mul_2 _ _) (AutoListH.list___mul___list_int_3 l f.toArray n k t B o g) ⟨e,?_⟩⟩)
 rw[C];exact⟨.ref _,_,I.lnew (t':=s.toks) (r.rep k.toNat) (by rw[x5v,Nat.mul_comm];exact R),rfl,q _ I.fresh⟩
end
end L2
namespace Att
open PySem PySem.W PySem.Calls PyProof.Rows
def q7f:∀(ns:List Int) (vs:List Value),WellAll P h vs (ns.map WData.int)->Vl vs ns:=by
 intro ns;induction ns with
 |nil =>
  intro vs w;cases w;exact .nil
 |cons n ns ih =>
  intro vs w;cases w with
  |cons a b =>
   cases a;exact .cons _ _ (ih _ b)
def z8k{l:OpenLaw}(hn:l.most=some n)(f:l.row.toRowW.claim.pre args=true)(o:WellAll P h vals args):
  ∃a vs ns,vals=[Value.ref a]/\args=[WData.list (ns.map WData.int)]/\h.get? a=some { cls:=.type "list",data:=.seq vs.toArray }/\Vl vs ns/\ns.length<=n:=by
 have s:=(pre_splitW f).1;have v:l.pre.holds [] { args:=args }=true:=(pre_splitW f).2;obtain⟨d,r,rfl,B,C⟩:=hasAllW_cons s;obtain rfl:=hasAllW_nil C;obtain⟨E,rfl,D⟩:=hasW_list B;obtain⟨ns,rfl⟩:=items_int D;have g:ns.length<=n:=by
  have j:(WTm.not (.lt (.lit (.int (n:Int))) (.len (.arg 0)))).holds [] { args:=[.list (ns.map .int)] }=true:=by
   have j:=(holds_andW v).1;rw[hn] at j;exact j
  have u:=condW_of j (w_not (w_lt w_lit (w_len_list (w_arg rfl))));first
   |(rw[decide_eq_true q'] at u;exact absurd u (by decide))
   |(simp at u;lia)
 cases o with
 |cons w1 w2 =>
  cases w2;cases w1 with
  |list ho hall=>exact⟨_,_,ns,rfl,rfl,ho,q7f ns _ hall,g⟩
def z8l(l:OpenLaw)(args:List WData):l.row.toRowW.claim.post args (.bool true) args=true :=
 postW_of
  (show WShape.has [] (.bool true) .bool=true by first|rfl|decide|simp[WShape.has,WShape.arms,WShape.armsAll])
  (show(WTm.eq .res (.lit (.bool true))).value [] { args:=args,res:=some (.bool true),after:=args }=some (.bool (true==true)) from w_eq_bool (w_res rfl) w_lit) rfl
def attach_call{l:OpenLaw}(hn:l.most=some n)(C:d.params.defaults=[])(call:∀(w:World) (s₀ g:Ag) (mg D:Str->Option Value) (fa:Addr) (o:Obj) (pm B h:Value) (a:Addr) (vs:List Value) (ns:List Int),
   Ground q loose [] XP w s₀ mg D g.heap->YP w g.heap ->
   g.heap.get? fa=some o->o.data=.func (docDef d.name d.params d.body d.scope pm B h)->g.heap.CodeRec B d.name->mg d.name=some (.ref fa) ->
   g.heap.get? a=some { cls:=.type "list",data:=.seq vs.toArray }->Vl vs ns->ns.length<=n->g.gens=#[] ->
   Gq (model l.prog w) Qq (.call (.ref fa) ⟨[.ref a],[]⟩) (λr s'=>r=.ok (.ret (.bool true))/\OldK g.heap s'.heap/\s'.os=g.os/\Lr s'.gens) g):
  WalkO q loose XP YP l.row.toRowW d [] (λf vs=>Xi f vs):=by
 intro w s₀ g mg D G Y fa o pm B h O kV P hd E I F Q J L as s M R H S;obtain rfl:O=.none:=Dflts.none I C;obtain rfl:kV=.none:=Dflts.noKw I;obtain⟨a,vs,ns,rfl,rfl,u,j,v⟩:=z8k hn s H;refine enter_call (Hi (call w s₀ g mg D fa o pm B h a vs ns G Y P (fd_plain hd) E F u j v Q) λr s' T=>?_);obtain⟨rfl,U,W,X⟩:=T;exact⟨.inl ⟨.bool true,.bool true,[],rfl,λ_=>rfl,.bool true,z8l l _,λ_=>⟨List.Pairwise.nil,λ_ Z=>(nomatch Z)⟩⟩,U,W,X⟩
end Att
namespace L2
open PySem PySem.Spec PyProof.Rows
theorem z1q:∀{vs:List Value} {ns:List Int},Vl vs ns->Vals (ns.map V.int) vs
 |_,_,.nil=>.nil
 |_,_,.cons n t h=>.cons ⟨t,rfl⟩ (z1q h)
noncomputable def Only(H:Hp):Prop:=∀b,H b=none\/∃o xs,H b=some (.frz o (.lst xs))
def x2f{K:Ah}(R:K.In s₁.heap)(D:s₁.heap.Ns Ci mg)(B:s₁.heap.Ns builtinsNs mb)(L:∀x:Str,x ≠ "__name__" -> mb x=Gi x)(E:s₁.heap.NoLimit)(Y:s₁.gens=#[])(ha:s₁.heap.get? a=some { cls:=.type "list",data:=.seq vs.toArray })(S:Vl vs ns)(hl:ns.length<=sizeLine)(Z:Room k Qq)(F:∀base:Heap,K.In base->base.Ns Ci mg->FnOk P w K mg base CX k fa fd [x] sp)(C:∀(s:Ag) (u:Value),Sm s fd ⟨[u],[]⟩ [(x,u)])(M:∀H:Hp,Only H->SqL K H a (ns.map V.int)->sp [.ref a] H (λv _=>v=.bl true) λ_ _ _=>False)(O:∀H e s',CX [] H s₁ (λ_ _ _=>False) e s'->False):
  Gq (model P w) Qq (.call (.ref fa) ⟨[.ref a],[]⟩) (λr s'=>r=.ok (.ret (.bool true))/\OldK s₁.heap s'.heap/\s'.os=s₁.os/\Lr s'.gens) s₁:=by
 have T:=z1q S;have G:=S.length;have j:∀H:Hp,Only H->SqL K H a (ns.map V.int)->HOk P w H s₁.heap->(∀b,H b≠none->b=a)->(H a≠none->K.lookup a=none) ->
   Gq (model P w) Qq (.call (.ref fa) ⟨[.ref a],[]⟩) (λr s'=>r=.ok (.ret (.bool true))/\OldK s₁.heap s'.heap/\s'.os=s₁.os/\Lr s'.gens) s₁:=by
  intro H U hS hok W hK;have f:∀{b:Addr} {o:Obj},s₁.heap.get? b=some o->H b=none->(hidT s₁.heap H).get? b=some o:=λe n=>x1w e n;have Q:∀{b:Addr} {o:Obj} {es:Array Jw} {ep:Nat},s₁.heap.get? b=some o->o.data=.dict es ep->H b=none:=λ{b o es ep} e d=>by
   cases q:H b with
   |none=>rfl
   |some u =>
    have e':=W b (by rw[q];simp);subst e';rw[ha] at e;cases e;have d':=d;cases d'
  have g:∀{b:Addr} {m:Str->Option Value},s₁.heap.Ns b m->(hidT s₁.heap H).Ns b m:=λ{b m} ⟨o,es,ep,e,d,r⟩=>⟨o,es,ep,f e (Q e d),d,r⟩
  have I:=λb o e=>f (R b o e) (by
   cases q:H b with
   |none=>rfl
   |some u =>
    have e':=W b (by rw[q];simp);subst e';rw[hK (by rw[q];simp)] at e;cases e)
  have hM:Mod K mg (hidT s₁.heap H):=⟨I,g D,⟨mb,g B,L⟩,let ⟨mc,h1,h2⟩:=E;⟨mc,g h1,h2⟩⟩
  have e0:Env0 P w K mg (hidT s₁.heap H) Qq [] s₁ H:=⟨rfl,hM,λb o e=>x5n e,Lc (z7t _ _),trivial,λb B=>absurd (show b∈([]:List Addr) from B) (by simp),hok,.of_eq Y⟩
  refine Hi ((F _ I (g D)).run Qq [] s₁ H ⟨[.ref a],[]⟩ [.ref a] [.ref a] _ _ Z e0 (C s₁ (.ref a)) (.cons rfl .nil) (M H U hS)) λr s' h=>?_;cases r with
  |error e=>exact(O H e s' h).elim
  |ok fl =>
   cases fl with
   |next=>exact False.elim h
   |brk=>exact False.elim h
   |cont=>exact False.elim h
   |ret u =>
    obtain⟨v,H',os,bare,un,J,r',q⟩:=h;have q':=q;subst q';obtain rfl:u=Value.bool true:=r';refine⟨rfl,OldK.of_keep λb o e=>?_,os,bare⟩;cases q:H b with
    |none=>exact un.keep b o e q (by intro z;exact absurd (show b∈([]:List Addr) from z) (by simp)) (by simp)
    |some u =>
     rcases U b with z|⟨ob,xs,z⟩
     ·grind
     ·have z2:=un.frzs b ob _ z;obtain⟨X,_⟩:=hok b _ z;obtain⟨e2,_⟩:=J b _ z2;rw[e] at X;cases X;exact e2
 cases hk:K.lookup a with
 |some o =>
  have e:=R a o hk;rw[ha] at e;cases e;refine j (λ_=>none) (λ_=>.inl rfl) (.inr ⟨_,vs.toArray,_,hk,rfl,rfl,rfl,by rw[Ay,G];exact hl,by simpa using T⟩) (λb u z=>by have z':(none:Option HO)=some u:=z;cases z') (λb z=>absurd rfl z) λz=>absurd rfl z
 |none =>
  refine j (λb=>if b=a then some (.frz { cls:=.type "list",data:=.seq vs.toArray } (.lst (ns.map V.int))) else none) (λb=>?_) (.inl (.inr ⟨{ cls:=.type "list",data:=.seq vs.toArray },if_pos rfl⟩)) (λb u z=>?_) (λb z=>?_) λ_=>hk
  ·by_cases B:b=a
   ·simp_all
   ·simp_all
  ·by_cases B:b=a
   ·have z':=(if_pos B).symm.trans z;cases z';subst B;exact⟨ha,by rw[Af];exact hl,vs,_,T,ha⟩
   ·grind
  ·grind
def walk_of{l:Xz}{K:Params->Ah}{CX:World->CXT}{sp:World->Sp}(hn:l.most=some n)(E:n<=sizeLine)(I:d.params.defaults=[])(P:Room k Qq)(Q:∀(w:World) (h:Heap),YP w h->(K w.params).In h)(F:∀(w:World) (mg:Str->Option Value) (fa:Addr) (h:Heap),(K w.params).In h->h.Ns Ci mg->mg d.name=some (.ref fa) ->
   ∃fd:Ld,(∀(s:Ag) (u:Value),Sm s fd ⟨[u],[]⟩ [(x,u)]) /\
    ∀base:Heap,(K w.params).In base->base.Ns Ci mg->FnOk l.prog w (K w.params) mg base (CX w) k fa fd [x] (sp w))(J:∀(w:World) (H:Hp) (a:Addr) (ns:List Int),ns.length<=n->Only H->SqL (K w.params) H a (ns.map V.int)->sp w [.ref a] H (λv _=>v=.bl true) λ_ _ _=>False)(L:∀(w:World) (H:Hp) (s:Ag) (e:Value) (s':Ag),CX w [] H s (λ_ _ _=>False) e s'->False):
  W.WalkO q loose XP YP l.row.toRowW d [] (λf vs=>Xi f vs):=by
 refine Att.attach_call hn I λw s₀ C mg mb fa o pm cd R a vs ns G Y ho hd S M D B j U=>?_;have O:=Q w _ Y;obtain⟨fd,X,hF⟩:=F w mg fa _ O G.T.g M;exact x2f O G.T.g G.T.b G.T.builtins G.T.nolimit U D B (Bg j E) P hF X (λH Z hS=>J w H a ns j Z hS) λH e s'=>L w H C e s'
noncomputable def inClass(s:Stmt)(j:Nat):Stmt:=match s with
 |.ClassDef _ _ _ body _ _ _ _ _ _ _=>body.getD j (.Pass ⟨0,0,0,0⟩)
 |_=>.Pass ⟨0,0,0,0⟩
noncomputable def defArgs(s:Stmt):Arguments:=match s with
 |.FunctionDef _ a _ _ _ _ _ _ _ _=>a
 |_=>{ posonlyargs:=[],args:=[],vararg:=none,kwonlyargs:=[],kw_defaults:=[],kwarg:=none,defaults:=[] }
noncomputable def defBody(s:Stmt):List Stmt:=match s with
 |.FunctionDef _ _ b _ _ _ _ _ _ _=>b
 |_=>[]
noncomputable def defScope(s:Stmt):Scope:=match s with
 |.FunctionDef _ _ _ _ _ _ sc _ _ _=>sc
 |_=>{ kind:=.function,names:=[],isGenerator:=false,isCoroutine:=false }
noncomputable abbrev CX0:CXT:=λ_ _ _ _ _ _=>False
noncomputable abbrev E0:XK:=λ_ _ _=>False
def pass0:Passes CX0 X E0:=λ_ _ _ _ _ _ _ h=>h.elim
structure Fun (K:Ah) (x qual:Str) (st:Stmt) (f:Addr) (fd:Ld):Prop where
 ex:∃(oc:Value) (od:Option Addr) (kV doc pm:Value) (an:Option Addr) (cdv ct:Value) (osl:Array (Option Value)),
  fd=Il x qual (defArgs st) (defBody st) (defScope st) .none kV doc pm an cdv ct/\K.lookup f=some ⟨oc,od,.func fd,osl⟩/\Lf K cdv qual=true
 kp:Ff K (.ref f)=true
section
variable{P:Ak}{w:World}{K:Ah}{mg:Str->Option Value}{base:Heap}
def Fun.ok{st:Stmt}(F:Fun K x qual st f fd)(S:FnScope N ps (defScope st))(len:∀vs H Q E,sp vs H Q E->vs.length=ps.length)(j:∀(g:Value) (A:Around) (outer:List Env) (s:Ag) (H:Hp) (vs:List V) (Q:VK) (E:XK),Room k (A.deeper (Hx qual (defScope st) s.heap.objs.size f g))->sp vs H Q E ->
   ∃t,PSs (cxOf CX0 P w K mg base N qual (defScope st) f g A outer s H E).nox (defBody st) t/\t { nx:=λ_ H'=>Q .non H',rt:=Q } (start N vs) H):FnOk P w K mg base CX0 (k+1) f fd ps sp:=by
 obtain⟨G,I,kV,v,pm,J,g,ct,B,rfl,C,o⟩:=F.ex;refine x5u C o S len λA outer s H vs Q E D u=>?_
 obtain⟨t,h,q⟩:=j g A outer s H vs Q E D u;exact⟨t,h.nox,q⟩
def Fun.binds{st:Stmt}(F:Fun K x qual st f fd)(h:∀(kV g pm:Value) (o:Option Addr) (j ct:Value) (us:List Value),us.length=ps.length->bindArgs (Il x qual (defArgs st) (defBody st) (defScope st) .none kV g pm o j ct) ⟨us,[]⟩=pure (ps.zip us)):Binds K fd ps []:=by
 obtain⟨v,B,kV,g,pm,o,j,ct,s,rfl,C,u⟩:=F.ex;exact .all (h kV g pm o j ct)
def q7g{st:Stmt}{kV:Value}(l:K.lookup f=some ⟨oc,od,.func (Il x qual (defArgs st) (defBody st) (defScope st) .none kV doc pm an cdv ct),osl⟩)(c:Lf K cdv qual=true)(k:Ff K (.ref f)=true):Fun K x qual st f (Il x qual (defArgs st) (defBody st) (defScope st) .none kV doc pm an cdv ct):=⟨⟨oc,od,kV,doc,pm,an,cdv,ct,osl,rfl,l,c⟩,k⟩
end
def q9r(f:Room k A):A.units+1<cLine:=Li (Uk (by decide:1<=64) _) f.units
section
variable{X:Cx}
def pv(i:Nat){x:Str}{f:Pos}(h:X.N[i]?=some x:=by rfl)(j:Vis X.env.scope x:=by trivial)(hd:(x==("__debug__" : Str))=false:=by decide)(g:(x==("__classdict__" : Str))=false:=by decide):PE X (.Name x f) (tVar i):=pe_var h j hd g
end
def iteF{B:Prop}(h:B):if false=true then A else B:=by
 exact h
def iteT{B:Prop}(h:A):if true=true then A else B:=by
 exact h
def ite2{B:Prop}[Decidable c](f:c->A)(g:¬c->B):if c then A else B:=by grind
noncomputable def Same(H H':Hp):Prop:=∀b o,H b=some o->H' b=some o
def Same.refl(H:Hp):Same H H:=λ_ _ h=>h
def Same.trans(a:Same H H1)(b:Same H1 H2):Same H H2:=λc o h=>b c o (a c o h)
def Same.free(e:Same H H')(h:H' l=Option.none):H l=Option.none:=by
 cases q:H l with
 |none=>rfl
 |some o =>
  rw[e l o q] at h;cases h
def Same.seq{K:Ah}(e:Same H H')(h:SqL K H a xs):SqL K H' a xs:=by
 rcases h with(h|⟨o,h⟩)|h
 ·exact .inl (.inl (e _ _ h))
 ·exact .inl (.inr ⟨o,e _ _ h⟩)
 ·exact .inr h
noncomputable abbrev Caps:=List (Str×Nat)
noncomputable def capV(σ:St):Caps->St
 |[]=>[]
 |(_,i)::r=>(σ[i]?).join::capV σ r
noncomputable def CapOk(X:Cx)(scope:Scope):Caps->Prop
 |[]=>True
 |(x,i)::r=>(X.N[i]?=some x/\scope.names.lookup x=some .free/\(X.env.scope.names.lookup x=some .cell\/X.env.scope.names.lookup x=some .free))/\CapOk X scope r
noncomputable def cxComp(X:Cx)(N:List Str)(scope:Scope)(cl:List (Str×Addr))(C:Addr)(fp:List Addr)(s:Ag)(H:Hp):Cx where
 prog:=X.prog
 w:=X.w
 K:=X.K
 mg:=X.mg
 base:=X.base
 A:=X.A
 N:=N
 s₀:=s
 H₀:=H
 env:=Gm scope cl C X.env
 outer:=X.stack
 stack:=X.stack
 ex:=fp
 fn:=λ_=>false
 calm:=X.calm
 pn:=[]
 xe:=λ_ _=>False
theorem z6t(names:List (Str×Bh))(j:∀x,(x,Bh.free)∈names->∃c,env.cells.lookup x=some c):∀acc:List (Str×Addr),
  ∃cl,(forIn names acc (λ(x:Str×Bh) (r:List (Str×Addr))=>match x with
   |(f,kind)=>if (kind==Bh.free)=true then do let a<-cellOf env f;pure (ForInStep.yield ((f,a)::r)) else pure (ForInStep.yield r)):Sem (List (Str×Addr)))=pure cl /\
   (∀x c,(x,c)∈cl->(x,c)∈acc\/env.cells.lookup x=some c)/\(∀x,((x,Bh.free)∈names\/∃c,(x,c)∈acc)->∃c,(x,c)∈cl):=by
 induction names with
 |nil=>intro acc;exact⟨acc,rfl,λx c h=>.inl h,λx h=>h.elim (λz=>nomatch z) id⟩
 |cons n r ih =>
  intro acc;obtain⟨f,kind⟩:=n;by_cases hk:kind=Bh.free
  ·subst hk;obtain⟨c,u⟩:=j f Av;obtain⟨cl,e,o,s⟩:=ih (λx g=>j x (Ap _ g)) ((f,c)::acc);refine⟨cl,?_,λx d hd=>?_,λx g=>?_⟩
   ·rw[Rn];have:cellOf env f=pure c:=by unfold cellOf;rw[u]
    simp only[beq_self_eq_true,if_true,this];exact e
   ·rcases o x d hd with z|z
    ·rcases Az.mp z with z|z
     ·cases z;exact .inr u
     ·exact .inl z
    ·exact .inr z
   ·refine s x ?_;rcases g with g|⟨d,hd⟩
    ·rcases Az.mp g with z|z
     ·simp_all
     ·exact .inl z
    ·grind
  ·obtain⟨cl,e,o,s⟩:=ih (λx g=>j x (Ap _ g)) acc;refine⟨cl,?_,o,λx g=>s x ?_⟩
   ·simp_all
   ·grind
def q9s{cl:List (Str×Addr)}(h:(x,c)∈cl):∃d,cl.lookup x=some d:=by
 induction cl with
 |nil=>cases h
 |cons y r ih =>
  obtain⟨n,a⟩:=y;cases e:x==n with
  |true=>simp_all
  |false =>
   rcases Az.mp h with z|z
   ·cases z;simp at e
   ·obtain⟨d,hd⟩:=ih z;exact⟨d,by simp only[Kb,e];exact hd⟩
def z6u(f:∀x,(x,Bh.free)∈scope.names->∃c,env.cells.lookup x=some c):
  ∃cl,Xj scope env=pure cl/\(∀x c,cl.lookup x=some c->env.cells.lookup x=some c)/\∀x,(x,Bh.free)∈scope.names->∃c,cl.lookup x=some c:=by
 obtain⟨cl,e,g,j⟩:=z6t scope.names f [];refine⟨cl,?_,λx c h=>?_,λx o=>?_⟩
 ·unfold Xj;have s:=congrArg (λm:Sem (List (Str×Addr))=>m >>= λu=>(pure u:Sem _)) e;exact s
 ·rcases g x c (Fv h) with z|z
  ·cases z
  ·exact z
 ·obtain⟨c,v⟩:=j x (.inl o);exact q9s v
theorem q4n{env:Env}{k:Bh}(hk:k=.cell\/k=.free):∀{names:List (Str×Bh)} {x:Str},(∀y∈names,y.2≠.cell) ->
  (names.map λ(n,k)=>if (k==Bh.free&&env.scope.kind==.function&&env.kindOf n==some .cell) then(n,Bh.cell) else(n,k)).lookup x=some k->(x,Bh.free)∈names
 |[],_,_,h=>by simp at h
 |(n,k')::r,x,hc,h=>by
  have f:=@q4n env k hk r x λy g=>hc y (Ap _ g);by_cases c:(k'==Bh.free&&env.scope.kind==.function&&env.kindOf n==some .cell)=true
  ·have h':((n,Bh.cell)::r.map λ(n,k)=>if (k==Bh.free&&env.scope.kind==.function&&env.kindOf n==some .cell) then(n,Bh.cell) else(n,k)).lookup x=some k:=by
    have e:(if (k'==Bh.free&&env.scope.kind==.function&&env.kindOf n==some .cell)=true then(n,Bh.cell) else(n,k'))=(n,Bh.cell):=if_pos c;rw[<- e];exact h
   cases e:x==n with
   |true =>simp_all
   |false=>exact Ap _ (f (by simp only[Kb,e] at h';exact h'))
  ·have h':((n,k')::r.map λ(n,k)=>if (k==Bh.free&&env.scope.kind==.function&&env.kindOf n==some .cell) then(n,Bh.cell) else(n,k)).lookup x=some k:=by
    have e:(if (k'==Bh.free&&env.scope.kind==.function&&env.kindOf n==some .cell)=true then(n,Bh.cell) else(n,k'))=(n,k'):=if_neg c;rw[<- e];exact h
   cases e:x==n with
   |true =>simp_all
   |false=>exact Ap _ (f (by simp only[Kb,e] at h';exact h'))
theorem q6i{env:Env}:∀{names:List (Str×Bh)} {x:Str},names.lookup x=some .free ->
    ((names.map λ(n,k)=>if (k==Bh.free&&env.scope.kind==.function&&env.kindOf n==some .cell) then(n,Bh.cell) else(n,k)).lookup x=some .cell \/
     (names.map λ(n,k)=>if (k==Bh.free&&env.scope.kind==.function&&env.kindOf n==some .cell) then(n,Bh.cell) else(n,k)).lookup x=some .free)
  |[],_,h=>by simp at h
  |(n,k')::r,x,h=>by
    have f:=@q6i env r x;by_cases c:(k'==Bh.free&&env.scope.kind==.function&&env.kindOf n==some .cell)=true
    · have e:(if (k'==Bh.free&&env.scope.kind==.function&&env.kindOf n==some .cell)=true then(n,Bh.cell) else(n,k'))=(n,Bh.cell):=if_pos c;show(List.lookup x ((if (k'==Bh.free&&env.scope.kind==.function&&env.kindOf n==some .cell)=true then(n,Bh.cell) else(n,k'))::_)=_\/List.lookup x ((if (k'==Bh.free&&env.scope.kind==.function&&env.kindOf n==some .cell)=true then(n,Bh.cell) else(n,k'))::_)=_);rw[e];cases ex:x==n with
      |true=>simp_all
      |false =>
        simp only[Kb,ex] at h ⊢;exact f h
    · have e:(if (k'==Bh.free&&env.scope.kind==.function&&env.kindOf n==some .cell)=true then(n,Bh.cell) else(n,k'))=(n,k'):=if_neg c;show(List.lookup x ((if (k'==Bh.free&&env.scope.kind==.function&&env.kindOf n==some .cell)=true then(n,Bh.cell) else(n,k'))::_)=_\/List.lookup x ((if (k'==Bh.free&&env.scope.kind==.function&&env.kindOf n==some .cell)=true then(n,Bh.cell) else(n,k'))::_)=_);rw[e];cases ex:x==n with
      |true =>simp_all
      |false =>
        simp only[Kb,ex] at h ⊢;exact f h
theorem q7h(g:St):∀f:Caps,(capV g f).length=f.length
 |[]=>rfl
 |(_,_)::r=>congrArg (· + 1) (q7h g r)
theorem z5j:∀{caps:Caps} {j:Nat} {x:Str} {v:V},CapOk X scope caps->(caps.map (·.1))[j]?=some x->(capV σ caps)[j]?=some (some v) ->
  ∃i:Nat,X.N[i]?=some x/\σ[i]?=some (some v)/\scope.names.lookup x=some .free/\(X.env.scope.names.lookup x=some .cell\/X.env.scope.names.lookup x=some .free)
 |[],_,_,_,_,h,_=>by simp at h
 |(y,i)::r,0,x,v,hc,h1,h2=>by
  simp at h1;subst h1;have e:(σ[i]?).join=some v:=by simpa[capV] using h2
  refine⟨i,hc.1.1,?_,hc.1.2⟩;cases q:σ[i]? with
  |none=>rw[q] at e;cases e
  |some z=>simp_all
 |(y,i)::r,j+1,x,v,hc,h1,h2=>z5j hc.2 (by simpa using h1) (by simpa[capV] using h2)
noncomputable def tg0(tg:List Str)(σ:St)(caps:Caps):St:=tg.map (λ_=>none)++capV σ caps
def Inv.ofcomp{L:St}{C:Addr}(g:List Str)(I:Inv X pins L H s)(B:scope.kind=.function)(G:∀y∈scope.names,y.2≠.cell)(f:∀x c,cl.lookup x=some c->X.env.cells.lookup x=some c)(D:∀x,(x,Bh.free)∈scope.names->∃c,cl.lookup x=some c)(M:∀b∈fp,FpOk X pins H b)(O:∀b∈fp,∃o,s.heap.get? b=some o)(P:s.heap.objs.size<=C)(Q:h₁.Ns C m)(hk:∀b o,s.heap.get? b=some o->h₁.get? b=some o)(co:CapOk X scope caps):
  Inv (cxComp X (g++caps.map (·.1)) scope cl C fp s H) [] (tg0 g L caps) H { s with heap:=h₁,toks:=tk }:=by
 have R:∀b∈fp,b∉frs X.stack:=λb E F=>by
  rcases Az.mp (I.stkSub b F) with z|z
  ·exact(M b E).2.1 z
  ·exact(M b E).2.2.1 z
 have ok:(cxComp X (g++caps.map (·.1)) scope cl C fp s H).Ok:=by
  refine⟨I.ok.mod,B,I.ok.glob,I.ok.blt,P,λx y c S T=>I.ok.inj x y c (f x c S) (f y c T),λx F=>?_,λx c h=>(nomatch h),I.ok.hd,I.ok.frames,.inl rfl,λb E=>⟨?_,λx c h=>(M b E).2.2.2.2.1 x c (f x c h)⟩,
   I.bs,Bg I.ok.bsz I.sz,λb o e E=>?_,R,I.stack,I.stkFree⟩
  ·rcases F with F|F
   ·exact D x (q4n (.inl rfl) G F)
   ·exact D x (q4n (.inr rfl) G F)
  ·obtain⟨o,e⟩:=O b E;exact Bj (Bo (Al e) P)
  ·rcases(M b E).2.2.2.1 with z|z
   ·exact I.ok.noex b o e z
   ·exact absurd (Bo (Al (I.ok.bs b o e).1) z) (Gu _)
 refine⟨ok,rfl,I.bare,Un.kept hk,⟨m,Q,λj x v S T h3=>?_⟩,λx c h=>?_,I.hok.fresh P,λx c h=>I.freeC x c (f x c h),λp hp=>(nomatch hp),I.hok.kept hk,?_⟩
 ·have h1':(g++caps.map (·.1))[j]?=some x:=S;have h2':(g.map (λ_=>none)++capV L caps)[j]?=some (some v):=T;by_cases Z:j<g.length
  ·rw[Ks (by simpa using Z),Bm] at h2';cases e:g[j]? with
   |none=>grind
   |some z=>simp_all
  ·rw[Hv (by simpa using Z)] at h2' h1';rw[Af] at h2';obtain⟨i,e1,e2,e3,J⟩:=z5j co h1' h2';obtain⟨mX,hn,hl⟩:=I.loc;obtain⟨u,r,l⟩:=hl i x v e1 e2 (.inr J);refine⟨u,r,?_⟩;have U:∃c,X.env.cells.lookup x=some c/\s.heap.IsCell c (some u):=by
    rcases l with⟨k,_⟩|⟨_,c,e,z⟩
    ·have k':X.env.scope.names.lookup x=some .local:=k;rcases J with J|J <;> · rw[J] at k';cases k'
    ·exact⟨c,e,z⟩
   obtain⟨c,ec,o,W,hd⟩:=U;obtain⟨d,ed⟩:=D x (Fv e3);have Y:=Cu ((f x d ed).symm.trans ec);subst Y;exact .inr ⟨q6i e3,d,ed,o,hk _ o W,hd⟩
 ·obtain⟨v,o,W,hd⟩:=I.cell x c (f x c h);exact⟨v,o,hk _ o W,hd⟩
 ·show(g.map (λ_=>(none:Option V))++capV L caps).length=(g++caps.map (·.1)).length;rw[Aj,Aj,Af,Af,q7h]
noncomputable def PIfs(X:Cx)(ifs:List Expr)(t:TT):Prop :=
 ∀(pins:List (Addr×Obj)) (s:Ag) (σ:St) (H:Hp) (Q:Bool->Hp->Prop),Inv X pins σ H s->t σ H Q ->
  wpAny (model X.prog X.w) X.A (forIn ifs true λc r=>if r=true then do let ok<-isTrue c X.env (eval c X.env);pure (ForInStep.yield ok) else pure (ForInStep.yield r)) (TP X pins σ Q) X.xe s
noncomputable def tIf0:TT:=λ_ H Q=>Q true H
def q9t:PIfs X [] tIf0:=λf s g H Q I h=>wpAny_tests_nil ⟨H,I,h⟩
def q7i{X:Cx}{c:Expr}{t:TT}(h:PT X c t):PIfs X [c] t:=λf s g H Q I q=>wpAny_tests_one (h f s g H Q I q)
noncomputable def Keeps0(σ0 σ2:St):Prop:=σ0.length=σ2.length/\∀(i:Nat) v,σ0[i]?=some (some v)->σ2[i]?=some (some v)
noncomputable def CompW(J:It)(g:TG)(tt:TT)(te:TE)(σ0:St)(D:Addr)(Fin:List V->Hp->Prop)(H1:Hp):Prop :=
 ∃W:Nat->Nat->List V->Hp->Prop,(∃m,W 0 m [] (upd H1 D (.lst [])))/\∀i m ys H,W i m ys H->H D=some (.lst ys) /\
  ((J.stop i H/\Fin ys H)\/(J.go i H/\∃N:List V->Hp->Prop,(∀zs H',N zs H'->∃m',m'<m/\W (i+1) m' zs H')/\∀x H',J.yld i H x H'->g x σ0 H' λσ2 H2=>Keeps0 σ0 σ2/\tt σ2 H2 λb H3 =>
   if b=true then te σ2 H3 λv H4=>H4 D=some (.lst ys)/\ys.length<sizeLine/\N (ys++[v]) (upd H4 D (.lst (ys++[v])))
   else N ys H3))
def z5k{j:St}{Fin:Addr->List V->Hp->Prop}{RR:Value->Addr->Result->Ag->Prop}(hc:X.calm=true)(U:scope.kind=.function)(b6:∀y∈scope.names,y.2≠.cell)(d1:∀x c,cl.lookup x=some c->X.env.cells.lookup x=some c)(d2:∀x,(x,Bh.free)∈scope.names->∃c,cl.lookup x=some c)(co:CapOk X scope caps)(hg:∀C s H,PG (cxComp X (tg++caps.map (·.1)) scope cl C fp s H) target g)(ht:∀C s H,PIfs (cxComp X (tg++caps.map (·.1)) scope cl C fp s H) ifs tt)(he:∀C s H,PE (cxComp X (tg++caps.map (·.1)) scope cl C fp s H) elt te)(I2:Inv X h j H1 s₂)(T:Turn X.prog X.w X.K target J fp it tn)(st:tn 0 s₂.heap)(hf:∀b∈fp,FpOk X h H1 b)(hw:∀D,H1 D=none->CompW J g tt te (tg0 tg j caps) D (Fin D) H1)(d3:∀D C ys H' s',H1 D=none->Inv X h j H' s'->(∃m,s'.heap.Ns C m)->FpOk X h H' C->Fin D ys H'->RR (.ref D) C (.ok .next) s'):
  wpAny (model X.prog X.w) X.A (newList []) (λacc G=>wpAny (model X.prog X.w) X.A (newFunctionEnv scope X.env.globals cl [] X.env.qual none .none (some X.env)) (λa6 b7 =>
   Gq (model X.prog X.w) X.A (.compStart (.ListComp elt [⟨target,iter,ifs,0⟩] scope pos) 0 (.ref it) acc { a6 with scope:=relabel scope X.env }) (RR acc a6.locals) b7) E G) E s₂:=by
 have I3:Inv X h j (upd H1 s₂.heap.objs.size (.lst [])) { s₂ with heap:=s₂.heap.push { cls:=.type "list",dict:=none,data:=.seq ([]:List Value).toArray },toks:=s₂.toks }:=I2.lnew .nil (Bf _);have a9:=I2.fresh;refine Cc (Tn b6 (by intro y hy;simp at hy) (λZ B F=>?_) U);dsimp only at B F ⊢;generalize b0:s₂.heap.objs.size=D at I3 a9 B F ⊢;generalize e7:({ s₂ with heap:=s₂.heap.push { cls:=.type "list",dict:=none,data:=.seq ([]:List Value).toArray } }:Ag)=G at I3 B F ⊢;have e3:s₂.heap.push { cls:=.type "list",dict:=none,data:=.seq ([]:List Value).toArray }=G.heap:=by grind
 have o3:({ s₂ with heap:=Z,toks:=s₂.toks+([]:List (Str×Value)).length }:Ag)={ G with heap:=Z,toks:=s₂.toks }:=by grind
 have b1:G.heap.objs.size=D+1:=by rw[<- e3,Gd,b0]
 rw[e3] at B F ⊢;have a7:∀b o,s₂.heap.get? b=some o->G.heap.get? b=some o:=λb o e=>by rw[<- e3];exact Ae _ e
 generalize a3:G.heap.objs.size=C at B F ⊢;have hk:=λb o e=>F.extBut b o (by rw[<- a3];exact Bj (Al e)) (Ae _ e);have b8:∀b∈fp,∃o,s₂.heap.get? b=some o:=λb I=>by obtain⟨o,e,_⟩:=T.obj 0 _ st b I;exact⟨o,e⟩
 have b9:∀b∈fp,b≠D:=λb I=>by obtain⟨o,e⟩:=b8 b I;rw[<- b0];exact Bj (Al e)
 have c0:∀b∈fp,FpOk X h (upd H1 D (.lst [])) b:=λb I=>⟨by rw[q0f (b9 b I)];exact(hf b I).1,(hf b I).2⟩
 have IY:=Inv.ofcomp (tk:=s₂.toks) tg I3 U b6 d1 d2 c0 (λb I=>let ⟨o,e⟩:=b8 b I;⟨o,a7 b o e⟩) (Lc a3) B hk co;have FC:FpOk X h H1 C:=by
  have z:=I3.fpOk (H':=H1) (Lc a3) (I2.hok.fresh (by rw[b0,<- a3,b1];exact Ii _));exact z
 generalize hY:cxComp X (tg++caps.map (·.1)) scope cl C fp G (upd H1 D (.lst []))=Y at IY;have d4:PG Y target g:=by grind
 have d5:PIfs Y ifs tt:=by grind
 have d6:PE Y elt te:=by grind
 have O:Y.prog=X.prog:=by rw[<- hY];rfl
 have P:Y.w=X.w:=by rw[<- hY];rfl
 have c1:Y.K=X.K:=by rw[<- hY];rfl
 have S:Y.A=X.A:=by rw[<- hY];rfl
 have a0:Y.env=Gm scope cl C X.env:=by rw[<- hY];rfl
 have a4:Y.ex=fp:=by rw[<- hY];rfl
 have e8:Y.pn=[]:=by rw[<- hY];rfl
 have c2:Y.calm=true:=by rw[<- hY];exact hc
 have R:Y.xe=λ_ _=>False:=by rw[<- hY];rfl
 have b2:∀{H':Hp},(∀b∈fp,H' b=none)->∀b∈fp,FpOk Y [] H' b:=λ{H'} hn b I=>by
  refine⟨hn b I,?_,?_,.inl (by rw[a4];exact I),λx c e=>?_,λp hp=>?_⟩
  ·have:=(IY.ok.exf b (by rw[a4];exact I)).1;exact this
  ·exact IY.ok.exfs b (by rw[a4];exact I)
  ·exact(IY.ok.exf b (by rw[a4];exact I)).2 x c e
  ·grind
 obtain⟨W,⟨m0,w0⟩,c3⟩:=hw D a9;have c4:=T.keep 0 _ _ st λb I o e=>hk b o (a7 b o e)
 have c5:∀{H':Hp} {s':Ag} {a1:St},Inv Y [] a1 H' s'->Inv X h j H' s':=λ{H' s' a1} M=>by
  have c6:=M.base;have c7:=M.os;rw[<- hY] at c6 c7;exact I3.call' c7 c6 (by have z:=M.hok;rw[O,P] at z;exact z) M.bare λb I=>⟨(hf b I).2.2.2.1,(hf b I).2.1,(hf b I).2.2.2.2.1,(hf b I).2.2.2.2.2⟩
 have gY:∀h s j H v u Q (L:Value->Ag->Prop),Inv Y h j H s->RelV v u->g v j H Q->wpAny (model X.prog X.w) X.A (assign target (Gm scope cl C X.env) u) (λ_ s'=>∃a1 H',Inv Y h a1 H' s'/\Q a1 H') L s:=λh s j H v u Q L M r q=>by
  have z:=d4 h s j H v u Q M r q;rw[O,P,S,a0,R] at z;exact Cb z (λ_ _ x=>x) λ_ _ f=>f.elim
 have tY:∀h s j H Q (L:Value->Ag->Prop),Inv Y h j H s->tt j H Q->wpAny (model X.prog X.w) X.A (forIn ifs true λc r=>if r=true then do let ok<-isTrue c (Gm scope cl C X.env) (eval c (Gm scope cl C X.env));pure (ForInStep.yield ok) else pure (ForInStep.yield r)) (TP Y h j Q) L s:=λh s j H Q L M q=>by
  have z:=d5 h s j H Q M q;rw[O,P,S,a0,R] at z;exact Cb z (λ_ _ x=>x) λ_ _ f=>f.elim
 have eY:∀h s j H Q (L:Value->Ag->Prop),Inv Y h j H s->te j H Q->wpAny (model X.prog X.w) X.A (eval elt (Gm scope cl C X.env)) (EP Y h j Q) L s:=λh s j H Q L M q=>by
  have z:=d6 h s j H Q M q;rw[O,P,S,a0,R] at z;exact Cb z (λ_ _ x=>x) λ_ _ f=>f.elim
 have aY:∀h s j H ys v u Q (L:Value->Ag->Prop),Inv Y h j H s->RelV v u->H D=some (.lst ys)->ys.length<sizeLine->Q .non (upd H D (.lst (ys++[v])))->wpAny (model X.prog X.w) X.A (call (.builtin "list.append") [.ref D,u]) (EP Y h j Q) L s:=λh s j H ys v u Q L M r hH hz q=>by
  have z:=q1d h s j H (.ref D) [v] (.ref D) [u] Q M rfl (.cons r .nil) ⟨D,ys,v,rfl,rfl,hH,hz,q⟩;rw[O,P,S,R] at z;exact Cb z (λ_ _ x=>x) λ_ _ f=>f.elim
 have d7:∀i h s j H (L:Value->Ag->Prop),Inv Y h j H s->(∀b∈fp,FpOk Y h H b)->tn i s.heap->J.go i H ->
   wpAny (model X.prog X.w) X.A (Jm (.ref it)) (λr s1=>∃u,r=some u /\
    wpAny (model X.prog X.w) X.A (Nn target (.ref it) u) (λ_ s2=>∃x H',Inv Y h j H' s2/\RelV x u/\J.yld i H x H'/\tn (i+1) s2.heap/\∀b∈fp,H' b=none) L s1) L s:=λi h s j H L M b3 st go=>by
  have z:=T.item Y O P c1 c2 i h s j H L M b3 st go;rw[S] at z;exact z
 have d8:∀i h s j H (L:Value->Ag->Prop),Inv Y h j H s->(∀b∈fp,FpOk Y h H b)->tn i s.heap->J.stop i H ->
   wpAny (model X.prog X.w) X.A (Jm (.ref it)) (λr s1=>r=none/\Inv Y h j H s1) L s:=λi h s j H L M b3 st go=>by
  have z:=T.done Y O P c1 c2 i h s j H L M b3 st go;rw[S] at z;exact z
 have a8:Gq (model X.prog X.w) X.A (.compLoop (.ListComp elt [⟨target,iter,ifs,0⟩] scope pos) 0 (.ref it) (.ref D) (Gm scope cl C X.env)) (RR (.ref D) C) { G with heap:=Z,toks:=s₂.toks }:=by
  refine codeAny_loop rfl (λn s'=>∃i ys H',Inv Y [] (tg0 tg j caps) H' s'/\tn i s'.heap/\(∀b∈fp,H' b=none)/\W i n ys H') ?_ m0 ⟨0,[],_,IY,c4,λb I=>(c0 b I).1,w0⟩;rintro n s4 ⟨i,ys,H4,I4,c8,c9,w4⟩;refine wpAny_noted ?_;obtain⟨e9,d9⟩:=c3 i n ys H4 w4;rcases d9 with⟨stop,e0⟩|⟨go,N,hN,step⟩
  ·refine Ac (De (Ac (thn (d8 i [] s4 _ H4 _ I4 (b2 c9) c8 stop) λr s5 ⟨hr,I5⟩=>?_)));subst hr;refine Ad (d3 D C ys H4 s5 a9 (c5 I5) ?_ ⟨?_,FC.2⟩ e0)
   ·obtain⟨m,hm,_⟩:=I5.loc;rw[a0] at hm;exact⟨m,hm⟩
   ·have z:=I5.free;rw[a0] at z;exact z
  ·refine Ac (De (Ac (thn (d7 i [] s4 _ H4 _ I4 (b2 c9) c8 go) λr s5 qz=>?_)));obtain⟨u,hr,h5⟩:=qz;subst hr;refine Ac (thn h5 λ_ s6 qz=>?_);obtain⟨x,H6,I6,r6,y6,b4,e1⟩:=qz;have I6':=I6.pinned (b2 e1) (T.obj _ _ b4);refine Ac (thn (gY _ s6 _ H6 x u _ _ I6' r6 (step x H6 y6)) λ_ s7 qz=>?_);obtain⟨a5,H7,I7,kp,q7⟩:=qz;refine Ac (thnT (tY _ s7 a5 H7 _ _ I7 q7) λb s8 H8 I8 q8=>?_);have a2:∀{H9:Hp} {s9:Ag} {zs:List V} {m':Nat},Inv Y ([]++pinsAt fp s6.heap) a5 H9 s9->m'<n->W (i+1) m' zs H9->∃m,m<n/\∃i ys H',Inv Y [] (tg0 tg j caps) H' s9/\tn i s9.heap/\(∀b∈fp,H' b=none)/\W i m ys H':=λ{H9 s9 zs m'} I9 hm w9=>by
    refine⟨m',hm,i+1,zs,H9,I9.unpinned.weak kp.1 kp.2,T.keep _ _ _ b4 λb I o e=>(I9.pin (b,o) (Bw _ (Bw _ (q2d I e)))).1,λb I=>?_,w9⟩;obtain⟨o,e,d⟩:=T.obj _ _ b4 b I;exact(I9.pin (b,o) (Bw _ (Bw _ (q2d I e)))).2.1
   cases b with
   |true =>
    refine Ac (Ac (thnE (eY _ s8 a5 H8 _ _ I8 q8) λv s9 vv H9 I9 r9 qz=>?_));obtain⟨e2,e4,n9⟩:=qz;obtain⟨m',b5,w9⟩:=hN _ _ n9;refine Ac (thnE (aY _ s9 a5 H9 ys vv v (λ_ d0=>W (i+1) m' (ys++[vv]) d0) _ I9 r9 e2 e4 w9) λ_ f1 _ d0 e5 _ e6=>?_);exact Ad (Ad ⟨rfl,a2 e5 b5 e6⟩)
   |false =>
    obtain⟨m',b5,w8⟩:=hN _ _ q8;exact Ad ⟨rfl,a2 I8 b5 w8⟩
 rw[o3];exact codeAny_compStart_list a8 (T.self _ 0 _ _ _ c4 a8)
noncomputable def isCF(k:Option Bh):Bool:=k==some .cell||k==some .free
noncomputable def capChk(N:List Str)(names outer:List (Str×Bh)):Caps->Bool
 |[]=>true
 |(x,i)::r=>decide (N[i]?=some x)&&(names.lookup x==some .free)&&isCF (outer.lookup x)&&capChk N names outer r
noncomputable def compChk(N:List Str)(outer scope:Scope)(caps:Caps):Bool :=
 (scope.kind==.function)&&(scope.names.all λy=>y.2 != .cell&&(y.2 != .local||scope.names.lookup y.1==some .local)&&(y.2 != .free||isCF (outer.names.lookup y.1)))&&capChk N scope.names outer.names caps
def z8m(h:isCF k=true):k=some .cell\/k=some .free:=by
 unfold isCF at h;simpa using h
theorem z1r:∀{caps:Caps},capChk X.N scope.names X.env.scope.names caps=true->CapOk X scope caps
 |[],_=>trivial
 |(x,i)::r,h=>by
  unfold capChk at h;simp only[Cz] at h;obtain⟨⟨⟨f,g⟩,j⟩,o⟩:=h;exact⟨⟨of_decide_eq_true f,by simpa using g,z8m j⟩,z1r o⟩
def q5s(h:compChk X.N X.env.scope scope caps=true):
  scope.kind=.function/\(∀y∈scope.names,y.2≠.cell)/\(∀y∈scope.names,y.2=.local->scope.names.lookup y.1=some .local)/\(∀x,(x,Bh.free)∈scope.names->X.env.scope.names.lookup x=some .cell\/X.env.scope.names.lookup x=some .free)/\CapOk X scope caps:=by
 unfold compChk at h;simp only[Cz,Eu] at h;obtain⟨⟨j,f⟩,o⟩:=h;refine⟨by simpa using j,λy g e=>?_,λy g e=>?_,λx s=>?_,z1r o⟩
 ·have z:=(f y g).1.1;rw[e] at z;simp at z
 ·have z:=(f y g).1.2;rw[e] at z;simpa using z
 ·have z:=(f _ s).2;exact z8m (by simpa using z)
noncomputable def tComp(wi:TI)(g:TG)(tt:TT)(te:TE)(tg:List Str)(caps:Caps):TE:=λσ H Q=>wi σ H λJ H1=>∀D,H1 D=none->CompW J g tt te (tg0 tg σ caps) D (λ_ H'=>Q (.ref D) H') H1
section
variable{X:Cx}{iter target elt:Expr}{ifs:List Expr}{scope:Scope}{pos:Pos}{wi:TI}{g:TG}{tt:TT}{te:TE}
def z3y{g:St}(I:Inv X pins g H s)(f:∀x,(x,Bh.free)∈scope.names->X.env.scope.names.lookup x=some .cell\/X.env.scope.names.lookup x=some .free):
  ∃cl,Xj scope X.env=pure cl/\(∀x c,cl.lookup x=some c->X.env.cells.lookup x=some c)/\∀x,(x,Bh.free)∈scope.names->∃c,cl.lookup x=some c :=
 z6u λx h=>I.ok.has x (f x h)
def q6w(M:List Str)(f:Caps)(Z:X.calm=true)(hi:PI X target iter wi)(hg:∀cl C u s H,PG (cxComp X (M++f.map (·.1)) scope cl C u s H) target g)(ht:∀cl C u s H,PIfs (cxComp X (M++f.map (·.1)) scope cl C u s H) ifs tt)(he:∀cl C u s H,PE (cxComp X (M++f.map (·.1)) scope cl C u s H) elt te)(hk:compChk X.N X.env.scope scope f=true:=by rfl)(hs:∀x,Md iter X.env x=pure x:=by intro _;rfl):
  PE X (.ListComp elt [⟨target,iter,ifs,0⟩] scope pos) (tComp wi g tt te M f):=by
 intro L s σ H Q I h;obtain⟨j,O,B,E,co⟩:=q5s hk;obtain⟨cl,G,P,R⟩:=z3y I E;refine Lj rfl hs G j B (thn (hi L s σ H _ I h) λv s1 h1=>thn h1 λa0 s2 h2=>?_);obtain⟨it,u,tn,J,H2,e,I2,T,S,f2,hw⟩:=h2;subst e;refine z5k Z j O P R co (λC s H=>hg cl C u s H) (λC s H=>ht cl C u s H) (λC s H=>he cl C u s H) I2 T S f2 hw ?_;intro D C ys H' s' hD I' U F W;obtain⟨m,U⟩:=U;refine⟨m,U,λh' Y=>⟨.ref D,H',I'.turned (t':=s'.toks) (λb o hb e=>(Y.2 b hb).trans e) F.1 F.2.1 F.2.2.2.1 F.2.2.2.2.1 F.2.2.2.2.2,rfl,W⟩⟩
noncomputable def tSetC(wi:TI)(g:TG)(tt:TT)(te:TE)(tg:List Str)(caps:Caps)(i:Nat):TS:=λD' σ H=>wi σ H λJ H1=>∀D,H1 D=none->CompW J g tt te (tg0 tg σ caps) D (λ_ H'=>D'.nx (σ.set i (some (.ref D))) H') H1
def q9u{i:Nat}{y:Str}{O E:Pos}(P:List Str)(f:Caps)(hN:X.N.Nodup)(Q:X.N[i]?=some y)(hx:Loc X.env.scope y)(hc:X.calm=true)(hi:PI X target iter wi)(hg:∀cl C u s H,PG (cxComp X (P++f.map (·.1)) scope cl C u s H) target g)(ht:∀cl C u s H,PIfs (cxComp X (P++f.map (·.1)) scope cl C u s H) ifs tt)(he:∀cl C u s H,PE (cxComp X (P++f.map (·.1)) scope cl C u s H) elt te)(hk:compChk X.N X.env.scope scope f=true:=by rfl)(hs:∀x,Md iter X.env x=pure x:=by intro _;rfl)(R:Jb (.ListComp elt [⟨target,iter,ifs,0⟩] scope pos) (some (.Name y O)) E.line X.env=pure true:=by rfl)(hf:X.fn y=true\/X.env.scope.names.lookup y=some .local:=by trivial):
  PS X (.Assign [.Name y O] (.ListComp elt [⟨target,iter,ifs,0⟩] scope pos) E) (tSetC wi g tt te P f i):=by
 intro G s σ H D' I h;obtain⟨j,S,B,L,co⟩:=q5s hk;obtain⟨cl,M,U,W⟩:=z3y I L;rw[So _ _ _ _ R];refine Ac (De (Ac ?_));refine Ac (Cb (Lj (use:=some (assign (.Name y O) X.env)) rfl hs M j B
  (thn (hi G s σ H _ I h) λv s1 h1=>thn h1 λa6 s2 h2=>?_)) (λ_ Y hq=>Ad (Ad hq)) λ_ _ e=>e)
 obtain⟨it,u,tn,J,H2,e,I2,T,Z,f2,hw⟩:=h2;subst e;refine z5k (RR:=λacc C=>compPost (model X.prog X.w) X.A X.xe (some (assign (.Name y O) X.env)) (λ_ Y=>SP X G D' .next Y) acc C) (Fin:=λD _ H'=>D'.nx (σ.set i (some (.ref D))) H') hc j S U W co (λC s H=>hg cl C u s H) (λC s H=>ht cl C u s H) (λC s H=>he cl C u s H) I2 T Z f2 hw ?_;intro D C ys H' Y hD I' hm F a0;obtain⟨m,hm⟩:=hm;refine Qb (q7a (v:=.ref D) I' hN Q hx rfl (λa1 a2 a3=>?_) hf);obtain⟨a,sb,ha⟩:=a3;have a4:C≠a:=by
  rcases ha with ha|ha
  ·rw[ha];exact F.2.1
  ·exact λz=>F.2.2.2.2.1 y a ha z.symm
 refine⟨m,hm.sameBut sb a4,λh' a5=>?_⟩;exact⟨_,H',a2.turned (t':=a1.toks) (λb o hb e=>(a5.2 b hb).trans e) F.1 F.2.1 F.2.2.2.1 F.2.2.2.2.1 F.2.2.2.2.2,a0⟩
end
def q9v{Fin:List V->Hp->Prop}(f:Nat->List V->Hp->Prop)(C:f 0 [] (upd H1 D (.lst [])))(hl:∀i ys H,f i ys H->H D=some (.lst ys))(o:∀i ys H,i<n->f i ys H->J.go i H)(s:∀ys H,f n ys H->J.stop n H)(E:∀i ys H x H',i<n->f i ys H->J.yld i H x H'->g x σ0 H' λh F=>Keeps0 σ0 h/\tt h F λb u =>
   if b=true then te h u λv B=>B D=some (.lst ys)/\ys.length<sizeLine/\f (i+1) (ys++[v]) (upd B D (.lst (ys++[v]))) else f (i+1) ys u)(hd:∀ys H,f n ys H->Fin ys H):CompW J g tt te σ0 D Fin H1:=by
 refine⟨λi m ys H=>m=n-i/\i<=n/\f i ys H,⟨n,by simp,Bf _,C⟩,?_⟩;rintro i m ys H ⟨rfl,G,p⟩;refine⟨hl i ys H p,?_⟩;by_cases j:i<n
 ·exact .inr ⟨o i ys H j p,f (i+1),λI H' q=>⟨n-(i+1),by lia,rfl,j,q⟩,λx H' y=>E i ys H x H' j p y⟩
 ·grind
def z6v{o:Int}{Fin:List V->Hp->Prop}(f:Nat->List V->Hp->Prop)(B:f 0 [] (upd H1 D (.lst [])))(hl:∀i ys H,f i ys H->H D=some (.lst ys))(C:∀i ys H,i<n->f i ys H->g (.int (o+i)) σ0 H λj E=>Keeps0 σ0 j/\tt j E λb s =>
   if b=true then te j s λv u=>u D=some (.lst ys)/\ys.length<sizeLine/\f (i+1) (ys++[v]) (upd u D (.lst (ys++[v]))) else f (i+1) ys s)(hd:∀ys H,f n ys H->Fin ys H):CompW (Itr o n) g tt te σ0 D Fin H1 :=
 q9v f B hl (λi ys H h _=>h) (λys H _=>Ai _) (λi ys H x F h p y=>by obtain⟨e,y⟩:=y;subst e y;exact C i ys _ h p) hd
def q5g{K:Ah}{Fin:List V->Hp->Prop}(f:Nat->List V->Hp->Prop)(u:f 0 [] (upd H1 D (.lst [])))(hl:∀i ys H,f i ys H->H D=some (.lst ys)/\SqL K H a xs)(B:∀i ys H x,xs[i]?=some x->f i ys H->g x σ0 H λj C=>Keeps0 σ0 j/\tt j C λb o =>
   if b=true then te j o λv s=>s D=some (.lst ys)/\ys.length<sizeLine/\f (i+1) (ys++[v]) (upd s D (.lst (ys++[v]))) else f (i+1) ys o)(hd:∀ys H,f xs.length ys H->Fin ys H):CompW (Itl K a) g tt te σ0 D Fin H1 :=
 q9v f u (λi ys H p=>(hl i ys H p).1) (λi ys H h p=>⟨xs,xs[i],(hl i ys H p).2,by simp[h]⟩) (λys H p=>⟨xs,(hl _ ys H p).2,Ai _⟩)
  (λi ys H x E h p y=>by obtain⟨e,y⟩:=y;subst e;exact B i ys _ x (y xs (hl i ys _ p).2) p) hd
def x2g{K:Ah}{Fin:List V->Hp->Prop}(f:Nat->List V->Hp->Prop)(u:f 0 [] (upd H1 D (.lst [])))(hl:∀i ys H,f i ys H->H D=some (.lst ys)/\SqT K H a xs)(B:∀i ys H x,xs[i]?=some x->f i ys H->g x σ0 H λj C=>Keeps0 σ0 j/\tt j C λb o =>
   if b=true then te j o λv s=>s D=some (.lst ys)/\ys.length<sizeLine/\f (i+1) (ys++[v]) (upd s D (.lst (ys++[v]))) else f (i+1) ys o)(hd:∀ys H,f xs.length ys H->Fin ys H):CompW (Itt K a) g tt te σ0 D Fin H1 :=
 q9v f u (λi ys H p=>(hl i ys H p).1) (λi ys H h p=>⟨xs,xs[i],(hl i ys H p).2,by simp[h]⟩) (λys H p=>⟨xs,(hl _ ys H p).2,Ai _⟩)
  (λi ys H x E h p y=>by obtain⟨e,y⟩:=y;subst e;exact B i ys _ x (y xs (hl i ys _ p).2) p) hd
def q4a{r:St}:Keeps0 (none::r) (v::r):=⟨rfl,λi w h=>by
 cases i with
 |zero=>cases h
 |succ i=>exact h⟩
def q4b{r:St}:Keeps0 (none::none::r) (v::w::r):=⟨rfl,λi u h=>by
 cases i with
 |zero=>cases h
 |succ i=>cases i with
  |zero=>cases h
  |succ i=>exact h⟩
section
variable{X:Cx}
noncomputable def rSlS:V->Option Int->Option Int->Hp->VK->Prop:=λx lo hi H Q=>∃z,x=.str z/\z.length<=sizeLine/\Q (.str (Pf z lo hi)) H
def q7j(h:Mp v o):∃p:Option (Int×Tok),v=partValue p/\o=p.map (·.1):=by
 cases h with
 |none=>exact⟨none,rfl,rfl⟩
 |int i t=>exact⟨some (i,t),rfl,rfl⟩
def sl_str:SlR X rSlS:=by
 intro f s G H x v J L M O P Q I g j o u h;obtain⟨z,rfl,B,q⟩:=h;obtain⟨t,rfl⟩:=g;obtain⟨C,rfl,rfl⟩:=q7j o;obtain⟨D,rfl,rfl⟩:=q7j u;refine⟨"str",_,F.slot_str_getitem.lookup,Th _ _ _,wpAny_getItem_str_slice (st:=none) j rfl
  (post_val_or_str ⟨Bg (Txt.slice_le z _ _) B,λE k=>⟨.str (Pf z (C.map (·.1)) (D.map (·.1))),H,I.tok _,⟨E,rfl⟩,q⟩⟩)⟩
noncomputable def rLower:V->List V->Hp->VK->Prop:=λx vs H Q=>∃z,x=.str z/\vs=[]/\3*z.length<=sizeLine/\Q (.str (Txt.lower z)) H
def fit3(h:n<=3*m)(f:3*m<=sizeLine):Du.Str.tooLong n=false:=by
 exact decide_eq_false (by lia)
def q5h:MtM X "str.lower" rLower:=by
 intro f s u H x vs v B Q I g j h;obtain⟨z,rfl,rfl,o,q⟩:=h;obtain⟨t,rfl⟩:=g;cases j.zero;exact SC.lower (fit3 (len_lower z) o) ⟨.str _,H,I.tok _,⟨_,rfl⟩,q⟩
noncomputable def rUpper:V->List V->Hp->VK->Prop:=λx vs H Q=>∃z,x=.str z/\vs=[]/\3*z.length<=sizeLine/\Q (.str (Txt.upper z)) H
def x2h:MtM X "str.upper" rUpper:=by
 intro f s u H x vs v B Q I g j h;obtain⟨z,rfl,rfl,o,q⟩:=h;obtain⟨t,rfl⟩:=g;cases j.zero;exact SC.upper (fit3 (len_upper z) o) ⟨.str _,H,I.tok _,⟨_,rfl⟩,q⟩
theorem q5t:∀{ys:List Str} {us:List Value},Vals (ys.map V.str) us->Iz us ys
 |[],_,.nil=>.nil
 |y::ys,_,.cons r t=>by obtain⟨k,rfl⟩:=r;exact .cons y k (q5t t)
noncomputable def rJoin(K:Ah):V->List V->Hp->VK->Prop:=λx vs H Q=>∃(z:Str) (p:Addr) (ys:List Str),x=.str z/\vs=[.ref p]/\(SqL K H p (ys.map V.str)\/SqT K H p (ys.map V.str))/\(ys.map (·.length)).sum+ys.length*z.length<=16777216/\Q (.str (Wo z ys)) H
def x5w:MtM X "str.join" (rJoin X.K):=by
 intro o s G H x vs v J Q I C D h;obtain⟨z,p,L,rfl,rfl,f,B,q⟩:=h;obtain⟨t,rfl⟩:=C;obtain⟨u,rfl,E⟩:=D.one;cases E;rcases f with f|f
 ·obtain⟨g,r,j,_⟩:=I.list f;exact join_list j.isList (q5t (by simpa using r)) B λF k=>⟨.str _,H,I.tok _,⟨_,rfl⟩,q⟩
 ·obtain⟨g,r,j,_⟩:=I.tuple f;exact join_tuple j (q5t (by simpa using r)) B λF k=>⟨.str _,H,I.tok _,⟨_,rfl⟩,q⟩
noncomputable def rMulS:R2:=λx y H Q=>∃z n,x=.str z/\y=.int n/\MulOk z n/\Q (.str (Txt.mul z n)) H
def op_mulS:OpR X (Gj .Mult) rMulS:=by
 intro f s B H x y v u Q I g j h;obtain⟨z,n,rfl,rfl,o,q⟩:=h;obtain⟨t,rfl⟩:=g;obtain⟨C,rfl⟩:=j;exact SB.mul o λD k=>⟨.str _,H,I.tok _,⟨_,rfl⟩,q⟩
theorem q7k:∀{bs:List Bool} {us:List Value},Vals (bs.map V.bl) us->LSm.BoolsAre us bs
 |[],_,.nil=>.nil
 |b::bs,_,.cons r t=>by cases r;exact .cons b (q7k t)
def x2i(D:X.calm=true):CallR X (.builtin "all") (λxs H Q=>∃(p:Addr) (bs:List Bool),xs=[.ref p]/\SqL X.K H p (bs.map V.bl)/\Q (.bl (bs.all id)) H):=by
 intro o s L H xs M Q I r h;obtain⟨p,bs,rfl,E,q⟩:=h;obtain⟨u,rfl,F⟩:=vals1 r;cases F;obtain⟨f,G,g,O⟩:=I.list E;have B:=q7k G;have j:p<s.heap.objs.size:=by obtain⟨_,e,_⟩:=g.isList;exact Al e
 refine call_all_walk (Vs g.isList ?_);refine⟨s.heap.objs.size,[s.heap.objs.size,p],[s.heap.objs.size],f.toArray.size,_,_,λi=>(bs[i]?).getD true,rfl,Walks.list (A:=X.A.in1) (I.ok.hd D) _ p (Bj j) f.toArray,
  ⟨⟨_,An _ rfl,rfl,rfl⟩,g.isList.push _⟩,λi v P R S J C=>?_,λT tk hk=>?_⟩
 ·obtain⟨b,e,rfl⟩:=B.get i v (by simpa using J);simp only[e,Option.getD_some] at C;exact Em C
 ·have e:((List.range f.toArray.size).all λi=>(bs[i]?).getD true)=bs.all id:=by
   rw[Ay,B.length];exact LSm.range_all bs
  rw[e];exact⟨.bl _,H,I.kept (t':=tk) (LSm.kept_iter hk),rfl,q⟩
def z3z:CallR X (.builtin "isinstance") (λxs H Q=>∃x c t b,xs=[x,.ty c]/\TyOf X.K H x t/\Fg X.K t (.type c)=some b/\Q (.bl b) H):=by
 intro f s o H xs B Q I r h;obtain⟨x,c,t,b,rfl,ty,e,q⟩:=h;obtain⟨u,v,rfl,g,j⟩:=r.two;cases j;exact z8f I g ty e λtk=>⟨.bl b,H,I.tok _,rfl,q⟩
noncomputable def Its(z:Str):It:=⟨λi _=>i<z.length,λi H x H'=>H'=H/\∃c,z.cps[i]?=some c/\x=.str ⟨#[c]⟩,λi _=>z.length<=i⟩
end
def z8n{K:Ah}(it:Addr)(z:Str)(t:Tok):Turn P w K tg (Its z) [it] it (λi h=>i<=z.length/\h.IsStrIter it "str_ascii_iterator" z t i) where
 mem:=by simp
 obj:=λi h st b j=>by
  have e:b=it:=by grind
  subst e;obtain⟨_,o,e,c,d⟩:=st;exact⟨o,e,λv z=>by rw[d] at z;cases z⟩
 keep:=λi h C st k=>⟨st.1,let ⟨o,e,c,d⟩:=st.2;⟨o,k it (by simp) o e,c,d⟩⟩
 item:=by
  intro X R S T O i f s Q H E I u st B;obtain⟨f0,D,U,F,G,J⟩:=u it (by simp);have L:i<z.cps.size:=B;refine wpAny_pyNext_ascii_item st.2 (c:=z.cps[i]) (by simp[L]) λC g M=>?_;have W:Inv X f Q H { s with heap:=C,toks:=s.toks+1 }:=I.turned (λb o j e=>(M.2 b j).trans e) f0 D F G J;obtain⟨o,e,c,d⟩:=id g;exact⟨_,rfl,z3u e c d (by decide) ⟨.str ⟨#[z.cps[i]]⟩,H,W,⟨_,rfl⟩,⟨rfl,_,by simp[L],rfl⟩,⟨B,g⟩,λb j=>(u b j).1⟩⟩
 done:=by
  intro X R S T O i f s Q H E I u st B;obtain⟨f0,D,U,F,G,J⟩:=u it (by simp);have L:z.cps.size<=i:=B;exact wpAny_pyNext_ascii_end (I.ok.hd O) st.2 (by simp;lia) λC Y=>⟨rfl,I.turned (t':=s.toks) (λb o j e=>Y b o j e) f0 D F G J⟩
 self:=λ_ _ _ _ _ st h=>wpAny_pyIter_striter_ascii st.2 h
def z8o{K:Ah}(it:Addr)(z:Str)(t:Tok):Turn P w K tg (Its z) [it] it (λi h=>i<=z.length/\h.IsStrIter it "str_iterator" z t i) where
 mem:=by simp
 obj:=λi h st b j=>by
  have e:b=it:=by grind
  subst e;obtain⟨_,o,e,c,d⟩:=st;exact⟨o,e,λv z=>by rw[d] at z;cases z⟩
 keep:=λi h C st k=>⟨st.1,let ⟨o,e,c,d⟩:=st.2;⟨o,k it (by simp) o e,c,d⟩⟩
 item:=by
  intro X R S T O i f s Q H E I u st B;obtain⟨f0,D,U,F,G,J⟩:=u it (by simp);have L:i<z.cps.size:=B;refine wpAny_pyNext_wide_item st.2 (c:=z.cps[i]) (by simp[L]) λC g M=>?_;have W:Inv X f Q H { s with heap:=C,toks:=s.toks+1 }:=I.turned (λb o j e=>(M.2 b j).trans e) f0 D F G J;obtain⟨o,e,c,d⟩:=id g;exact⟨_,rfl,z3u e c d (by decide) ⟨.str ⟨#[z.cps[i]]⟩,H,W,⟨_,rfl⟩,⟨rfl,_,by simp[L],rfl⟩,⟨B,g⟩,λb j=>(u b j).1⟩⟩
 done:=by
  intro X R S T O i f s Q H E I u st B;obtain⟨f0,D,U,F,G,J⟩:=u it (by simp);have L:z.cps.size<=i:=B;exact wpAny_pyNext_wide_end (I.ok.hd O) st.2 (by simp;lia) λC Y=>⟨rfl,I.turned (t':=s.toks) (λb o j e=>Y b o j e) f0 D F G J⟩
 self:=λ_ _ _ _ _ st h=>wpAny_pyIter_striter_wide st.2 h
def x2j{Fin:List V->Hp->Prop}(f:Nat->List V->Hp->Prop)(u:f 0 [] (upd H1 D (.lst [])))(hl:∀i ys H,f i ys H->H D=some (.lst ys))(B:∀i ys H c,z.cps[i]?=some c->f i ys H->g (.str ⟨#[c]⟩) σ0 H λj C=>Keeps0 σ0 j/\tt j C λb o =>
   if b=true then te j o λv s=>s D=some (.lst ys)/\ys.length<sizeLine/\f (i+1) (ys++[v]) (upd s D (.lst (ys++[v]))) else f (i+1) ys o)(hd:∀ys H,f z.length ys H->Fin ys H):CompW (Its z) g tt te σ0 D Fin H1 :=
 q9v f u hl (λi ys H h _=>h) (λys H _=>Ai _) (λi ys H x F h p y=>by obtain⟨e,c,E,y⟩:=y;subst e y;exact B i ys _ c E p) hd
structure Vw (K:Ah) (H:Hp) (h:Heap):Prop where
 lst:∀a xs,SqL K H a xs->∃its:List Value,Vals xs its/\h.IsList a its.toArray
 tup:∀a xs,SqT K H a xs->∃its:List Value,Vals xs its/\h.IsTuple a its.toArray
def SqL.ne{K:Ah}(h:SqL K H a xs)(f:H b=none)(hk:K.lookup b=none):a≠b:=by
 rintro rfl;rcases h with(h|⟨o,h⟩)|⟨o,_,_,h,_⟩
 ·rw[f] at h;cases h
 ·rw[f] at h;cases h
 ·rw[hk] at h;cases h
def SqT.ne{K:Ah}(h:SqT K H a xs)(f:H b=none)(hk:K.lookup b=none):a≠b:=by
 rintro rfl;rcases h with(h|⟨o,h⟩)|⟨o,_,_,h,_⟩
 ·rw[f] at h;cases h
 ·rw[f] at h;cases h
 ·rw[hk] at h;cases h
def Vw.but{K:Ah}(v:Vw K H h)(j:H b=none)(hk:K.lookup b=none)(k:∀c o,c≠b->h.get? c=some o->h'.get? c=some o):Vw K H h' :=
 ⟨λa g q=>let ⟨f,r,l⟩:=v.lst a g q;⟨f,r,l.at λo e=>k a o (q.ne j hk) e⟩,λa g q=>let ⟨f,r,l⟩:=v.tup a g q;⟨f,r,by
  obtain⟨o,e,z⟩:=l;exact⟨o,k a o (q.ne j hk) e,z⟩⟩⟩
def Vw.linj{K:Ah}(v:Vw K H h)(p:SqL K H a xs)(q:SqL K H a ys):xs=ys:=by
 obtain⟨g,r,o,e,_,n,d⟩:=v.lst a xs p;obtain⟨f,j,s,u,_,B,C⟩:=v.lst a ys q;have:g=f:=by grind
 subst this;exact r.inj j
def Inv.vw{g:St}(I:Inv X pins g H s):Vw X.K H s.heap :=
 ⟨λa h q=>let ⟨f,r,l,_⟩:=I.list q;⟨f,r,l.isList⟩,λa h q=>let ⟨f,r,l,_⟩:=I.tuple q;⟨f,r,l⟩⟩
structure Srce (P:Ak) (w:World) (K:Ah) (J:It) (it:Addr) (st:Nat->Heap->Prop):Prop where
 obj:∀i h,st i h->∃o,h.get? it=some o/\∀v,o.data≠.cell v
 keep:∀i h h',st i h->(∀o,h.get? it=some o->h'.get? it=some o)->st i h'
 item:∀(A:Around) (i:Nat) (s:Ag) (H:Hp) (Q:Value->Ag->Prop) (E:Value->Ag->Prop),A.handled=none->Vw K H s.heap->H it=none->K.lookup it=none->st i s.heap->J.go i H ->
  (∀u x h' tk,RelV x u->J.yld i H x H->st (i+1) h'->Fx it s.heap h'->Q u { s with heap:=h',toks:=tk })->wpAny (model P w) A (Ql (.ref it)) Q E s
 done:∀(A:Around) (i:Nat) (s:Ag) (H:Hp) (Q:Value->Ag->Prop) (E:Value->Ag->Prop),A.handled=none->Vw K H s.heap->H it=none->K.lookup it=none->st i s.heap->J.stop i H ->
  (∀h' e,Sa it s.heap h'->(∃o,h'.get? e=some o/\o.cls=.type "StopIteration")->E (.ref e) { s with heap:=h' })->wpAny (model P w) A (Ql (.ref it)) Q E s
def q7l{K:Ah}(a it:Addr):Srce P w K (Itl K a) it (λi h=>h.IsListIter it a i) where
 obj:=λi h st=>by obtain⟨o,e,c,d⟩:=st;exact⟨o,e,λv z=>by rw[d] at z;cases z⟩
 keep:=λi h F st k=>st.at λo e=>k o e
 item:=λA i s H Q E G vw hn hk st go I=>by
  obtain⟨g,x,f,j⟩:=go;obtain⟨B,C,p⟩:=vw.lst a g f;obtain⟨u,J,L⟩:=C.get j;refine wpAny_nextOf_list_item st p (by simpa using J) λF D M=>?_
  exact I u x F s.toks L ⟨rfl,λS O=>by rw[vw.linj O f];exact j⟩ D M
 done:=λA i s H Q E G vw hn hk st stop R=>by
  obtain⟨g,f,j⟩:=stop;obtain⟨B,C,p⟩:=vw.lst a g f;have hl:=C.length;exact wpAny_nextOf_list_end G st p (by simp;lia) R
noncomputable def stStr(it:Addr)(z:Str)(t:Tok)(i:Nat)(h:Heap):Prop:=h.IsStrIter it (Ij z) z t i
def q9w{K:Ah}(it:Addr)(z:Str)(t:Tok):Srce P w K (Its z) it (stStr it z t) where
 obj:=λi h st=>by obtain⟨o,e,c,d⟩:=st;exact⟨o,e,λv z=>by rw[d] at z;cases z⟩
 keep:=λi h u st k=>by obtain⟨o,e,r⟩:=st;exact⟨o,k o e,r⟩
 item:=λA i s H Q E B vw hn hk st go C=>by
  have j:i<z.cps.size:=go;unfold stStr Ij at st;cases ha:z.cps.all (· < 128)
  ·rw[ha] at st;refine wpAny_nextOf_wide_item st (c:=z.cps[i]) (by simp[j]) λu f g=>?_;exact C _ (.str ⟨#[z.cps[i]]⟩) u (s.toks+1) ⟨_,rfl⟩ ⟨rfl,_,by simp[j],rfl⟩ (by unfold stStr Ij;rw[ha];exact f) g
  ·rw[ha] at st;refine wpAny_nextOf_ascii_item st (c:=z.cps[i]) (by simp[j]) λu f g=>?_;exact C _ (.str ⟨#[z.cps[i]]⟩) u (s.toks+1) ⟨_,rfl⟩ ⟨rfl,_,by simp[j],rfl⟩ (by unfold stStr Ij;rw[ha];exact f) g
 done:=λA i s H Q E B vw hn hk st stop D=>by
  have j:z.cps.size<=i:=stop;unfold stStr Ij at st;cases ha:z.cps.all (· < 128)
  ·rw[ha] at st;exact wpAny_nextOf_wide_end B st (by simp;lia) D
  ·rw[ha] at st;exact wpAny_nextOf_ascii_end B st (by simp;lia) D
def Inv.turnedL{B:St}{ch:List Addr}(I:Inv X pins B H s)(k:∀b o,b∉ch->s.heap.get? b=some o->h'.get? b=some o)(g:∀b∈ch,FpOk X pins H b):Inv X pins B H { s with heap:=h',toks:=t' }:=by
 have h:∀b u,H b=some u->b∉ch:=λb u e z=>by rw[(g b z).1] at e;cases e
 refine I.step (g':=s.gens) (d':=s.drawn) (λb j=>?_) (λb o _ _ f e _=>k b o f e) (λb o _ _ f e _=>⟨o.slots,k b o f e⟩) (λ_ _ _ _ n=>n)
  (λb o f e=>?_) (λ_ _ e=>e) (λ_ _ _ e=>e) (λb G e=>⟨#[],by rw[e];simp⟩) (λm C=>?_) (λb u e=>?_) I.bare
 ·exact⟨(g b j).2.2.2.1,(g b j).2.1,(g b j).2.2.2.2.1,(g b j).2.2.2.2.2⟩
 ·exact⟨o,k b o f e⟩
 ·obtain⟨o,D,E,F,r⟩:=C;exact⟨o,D,E,k _ o (λz=>(g _ z).2.1 rfl) F,r⟩
 ·refine(I.hok b u e).stay (λc v f q=>k c v ?_ q) (λ_ q=>q) λ_ _ q=>q;rcases f with z|z
  ·rw[z];exact h b u e
  ·exact h c _ z
def Inv.track{g:St}{T:Addr}(I:Inv X pins g H s)(B:X.s₀.heap.objs.size<=T)(hF:FpOk X pins H T)(new:ObjOk X.prog X.w (upd H T o) s.heap T o):Inv X pins g (upd H T o) s:=by
 have hn:=hF.1;refine⟨I.ok,I.os,I.bare,⟨I.base.keep,I.base.slot,λb f e n C=>?_,I.base.there,λb h e=>?_,λb f u e=>?_,λb D e=>?_⟩,I.loc,I.cell,?_,λx c e=>?_,λp j=>?_,λb u e=>?_,I.len⟩
 ·rw[q0f (Bj (Bo (Al e) B))];exact I.base.free b f e n C
 ·have z:=I.base.tups b h e;rw[q0f (q0t z hn)];exact z
 ·have z:=I.base.frzs b f u e;rw[q0f (q0t z hn)];exact z
 ·obtain⟨m,z⟩:=I.base.tbls b D e;exact⟨m,by rw[q0f (q0t z hn)];exact z⟩
 ·rw[q0f (Bz hF.2.1)];exact I.free
 ·rw[q0f (hF.2.2.2.2.1 x c e)];exact I.freeC x c e
 ·obtain⟨e,n,ne,E,d⟩:=I.pin p j;exact⟨e,by rw[q0f (hF.2.2.2.2.2 p j)];exact n,ne,E,d⟩
 ·by_cases v:b=T
  ·subst v;rw[q0d] at e;cases e;exact new
  ·rw[q0f v] at e;exact(I.hok b u e).stay (λ_ _ _ q=>q) (λc q=>by rw[q0f (q0t q hn)];exact q) λc h q=>by rw[q0f (q0t q hn)];exact q
def FpOk.noK{h:St}(I:Inv X pins h H' s)(f:FpOk X pins H b):X.K.lookup b=none:=by
 cases e:X.K.lookup b with
 |none=>rfl
 |some o =>
  have g:=I.ok.mod.kin b o e;rcases f.2.2.2.1 with z|z
  ·exact absurd z (I.ok.noex b o g)
  ·exact absurd (Bo (Al (I.ok.bs b o g).1) z) (Gu _)
structure ZipA (z TI TO i1 i2:Addr):Prop where
 TIz:TI≠z
 TOz:TO≠z
 i1z:i1≠z
 i2z:i2≠z
 TITO:TI≠TO
 TIi1:TI≠i1
 TIi2:TI≠i2
 TOi1:TO≠i1
 TOi2:TO≠i2
 i12:i1≠i2
section
variable{prog:Ak}{w:World}{K:Ah}{A:Around}{E:Value->Ag->Prop}{s:Ag}{J1 J2:It}{t1 t2:Nat->Heap->Prop}{z TI TO i1 i2:Addr}{H:Hp}
def z8p{Q:Value->Ag->Prop}(D:ZipA z TI TO i1 i2)(S1:Srce prog w K J1 i1 t1)(S2:Srce prog w K J2 i2 t2)(hh:A.handled=none)(vw:Vw K H s.heap)(nH:∀b∈[z,TI,TO,i1,i2],H b=none)(nK:∀b∈[z,TI,TO,i1,i2],K.lookup b=none)(hz:IsZip s.heap z TI TO .none)(a9:Mr s.heap TI (.ref i1) (.ref i2))(b0:Mr s.heap TO a b)(h1:t1 i s.heap)(h2:t2 i s.heap)(g1:J1.go i H)(g2:J2.go i H)(hQ:∀u v x y h' tk,RelV x u->RelV y v->J1.yld i H x H->J2.yld i H y H->IsZip h' z TI TO (El s.heap.objs.size)->Mr h' TO u v->t1 (i+1) h'->t2 (i+1) h'->Mr h' s.heap.objs.size u v->h'.objs.size=s.heap.objs.size+1 ->
   (∀c o,c≠z->c≠TO->c≠i1->c≠i2->s.heap.get? c=some o->h'.get? c=some o)->Q (.ref s.heap.objs.size) { s with heap:=h',toks:=tk }):
  wpAny (model prog w) A (Du.«zip.__next__» ⟨[.ref z],[]⟩) (λb1 s'=>∃v,b1=.done (.ret v)/\Q v s') E s:=by
 show wpAny _ _ (field (.ref z) 2 >>= _) _ _ _;refine Ac (Bs hz rfl rfl ?_);refine Ac (Bs hz rfl rfl ?_);refine Ac (Ge a9 rfl ?_);refine Ac ?_;refine Ac (Bs hz rfl rfl (Ad ?_));refine Ac (Hd ?_);refine Ac (Bs hz rfl rfl ?_);refine Ac (Dl hz (by simp) λa6 G f=>?_);replace G:IsZip a6 z TI TO .ellipsis:=G;have O:=vw.but (nH z (by simp)) (nK z (by simp)) λc o hc e=>f.extBut _ _ hc e;refine Ac ?_;refine Ac (Ac (Pw ?_));refine Ac (S1.item _ i _ H _ _ hh O (nH i1 (by simp)) (nK i1 (by simp)) (S1.keep _ _ _ h1 λo e=>f.extBut _ _ D.i1z e) g1 λu x b3 b2 rx yx X g=>Ad ?_);have L:=g.extBut _ _ D.TOi1 (f.extBut _ _ D.TOz b0);refine Ac (Ge L rfl ?_);refine Ac (Nu L λb4 U h=>?_);have Y:=(O.but (nH i1 (by simp)) (nK i1 (by simp)) λc o hc e=>g.extBut _ _ hc e).but (nH TO (by simp)) (nK TO (by simp)) λc o hc e=>h.extBut _ _ hc e;refine Ac (Oz (Ad ?_));refine Ac (Ac (Pw ?_));refine Ac (S2.item _ i _ H _ _ hh Y (nH i2 (by simp)) (nK i2 (by simp)) (S2.keep _ _ _ h2 λo e=>h.extBut _ _ D.TOi2.symm (g.extBut _ _ D.i12.symm (f.extBut _ _ D.i2z e))) g2 λv y b5 Z ry yy a0 B=>Ad ?_);have M:=B.extBut _ _ D.TOi2 U;refine Ac (Ge M rfl ?_);refine Ac (Nu M λF j C=>?_);replace j:Mr F TO u v:=j;refine Ac (Oz (Ad (Ad ?_)));refine Ac (Ge j rfl ?_);refine Ac (Oo ?_);have a7:F.objs.size=s.heap.objs.size:=by rw[C.1,B.1,h.1,g.1,f.1]
 have P:=C.extBut _ _ D.TOz.symm (B.extBut _ _ D.i2z.symm (h.extBut _ _ D.TOz.symm (g.extBut _ _ D.i1z.symm G)));have a1:∀c o,c≠z->c≠TO->c≠i1->c≠i2->s.heap.get? c=some o->F.get? c=some o:=λc o c1 c2 c3 c4 e =>
  C.extBut _ _ c2 (B.extBut _ _ c4 (h.extBut _ _ c2 (g.extBut _ _ c3 (f.extBut _ _ c1 e))))
 have a2:=S1.keep _ _ _ X λo e=>C.extBut _ _ D.TOi1.symm (B.extBut _ _ D.i12 (h.extBut _ _ D.TOi1.symm e));have a3:=S2.keep _ _ _ a0 λo e=>C.extBut _ _ D.TOi2.symm e;have W:=Al P;refine Ac ?_;have a4:IsZip (F.push { cls:=.type "tuple",data:=.seq #[u,v] }) z TI TO .ellipsis:=Ae _ P;refine Ac (Dl a4 (by simp) λb6 a5 I=>?_);refine Dl a5 (by simp) λR S J=>?_;have up:∀c o,c≠z->F.get? c=some o->R.get? c=some o:=λc o c1 e=>J.extBut _ _ c1 (I.extBut _ _ c1 (Ae _ e));have T:=J.extBut _ _ (Ex W) (I.extBut _ _ (Ex W) (An _ rfl));have a8:R.objs.size=F.objs.size+1:=by rw[J.1,I.1,Gd]
 rw[a7] at S T a8;refine Ad ⟨_,rfl,?_⟩;rw[a7];exact hQ u v x y R Z rx ry yx yy S (up _ _ D.TOz j) (S1.keep _ _ _ a2 λo e=>up _ o D.i1z e) (S2.keep _ _ _ a3 λo e=>up _ o D.i2z e) T a8 λc o c1 c2 c3 c4 e=>up c o c1 (a1 c o c1 c2 c3 c4 e)
def x2k(D:ZipA z TI TO i1 i2)(S1:Srce prog w K J1 i1 t1)(S2:Srce prog w K J2 i2 t2)(hh:A.handled=none)(vw:Vw K H s.heap)(R:∀b∈[z,TI,TO,i1,i2],H b=none)(S:∀b∈[z,TI,TO,i1,i2],K.lookup b=none)(T:IsZip s.heap z TI TO .none)(a1:Mr s.heap TI (.ref i1) (.ref i2))(a2:Mr s.heap TO a b)(h1:t1 i s.heap)(h2:t2 i s.heap)(U:J1.stop i H\/(J1.go i H/\J2.stop i H))(hE:∀h' e tk,(∀c o,c≠z->c≠TO->c≠i1->c≠i2->s.heap.get? c=some o->h'.get? c=some o)->(∃o,h'.get? e=some o/\o.cls=.type "StopIteration")->E (.ref e) { s with heap:=h',toks:=tk }):
  wpAny (model prog w) A (Du.«zip.__next__» ⟨[.ref z],[]⟩) Q E s:=by
 show wpAny _ _ (field (.ref z) 2 >>= _) _ _ _;refine Ac (Bs T rfl rfl ?_);refine Ac (Bs T rfl rfl ?_);refine Ac (Ge a1 rfl ?_);refine Ac ?_;refine Ac (Bs T rfl rfl (Ad ?_));refine Ac (Hd ?_);refine Ac (Bs T rfl rfl ?_);refine Ac (Dl T (by simp) λa5 C g=>?_);have j:=vw.but (R z (by simp)) (S z (by simp)) λc o W e=>g.extBut _ _ W e;refine Ac ?_;refine Ac (Ac (Pw ?_));rcases U with st|⟨g1,st⟩
 ·refine Ac (S1.done _ i _ H _ _ hh j (R i1 (by simp)) (S i1 (by simp)) (S1.keep _ _ _ h1 λo e=>g.extBut _ _ D.i1z e) st λX e f he=>?_);obtain⟨oe,v,F⟩:=he;have G:=f _ _ D.i1z.symm C;have O:e≠z:=λx=>by subst x;rw[G] at v;cases v;simp at F
  refine Dl G (by simp) λM _ h=>hE M e _ (λc o Y _ c3 _ x=>h.extBut _ _ Y (f _ _ c3 (g.extBut _ _ Y x))) ⟨oe,h.extBut _ _ O v,F⟩
 ·refine Ac (S1.item _ i _ H _ _ hh j (R i1 (by simp)) (S i1 (by simp)) (S1.keep _ _ _ h1 λo e=>g.extBut _ _ D.i1z e) g1 λu x X a3 rx yx a4 f=>Ad ?_);have B:=f.extBut _ _ D.TOi1 (g.extBut _ _ D.TOz a2);refine Ac (Ge B rfl ?_);refine Ac (Nu B λM a0 h=>?_);have P:=(j.but (R i1 (by simp)) (S i1 (by simp)) λc o W e=>f.extBut _ _ W e).but (R TO (by simp)) (S TO (by simp)) λc o W e=>h.extBut _ _ W e;refine Ac (Oz (Ad ?_));refine Ac (Ac (Pw ?_));refine Ac (S2.done _ i _ H _ _ hh P (R i2 (by simp)) (S i2 (by simp)) (S2.keep _ _ _ h2 λo e=>h.extBut _ _ D.TOi2.symm (f.extBut _ _ D.i12.symm (g.extBut _ _ D.i2z e))) st λa6 e I he=>?_);obtain⟨oe,v,F⟩:=he;have J:=I _ _ D.i2z.symm (h.extBut _ _ D.TOz.symm (f.extBut _ _ D.i1z.symm C));have O:e≠z:=λx=>by subst x;rw[J] at v;cases v;simp at F
  refine Dl J (by simp) λZ _ L=>hE Z e _ (λc o Y c2 c3 c4 x=>L.extBut _ _ Y (I _ _ c4 (h.extBut _ _ c2 (f.extBut _ _ c3 (g.extBut _ _ Y x))))) ⟨oe,L.extBut _ _ O v,F⟩
end
noncomputable def Itz(J1 J2:It):It:=⟨λi H=>J1.go i H/\J2.go i H,λi H x H'=>∃T x1 x2,H T=none/\J1.yld i H x1 H/\J2.yld i H x2 H/\x=.ref T/\H'=upd H T (.tup [x1,x2]),λi H=>J1.stop i H\/(J1.go i H/\J2.stop i H)⟩
noncomputable def tnZip(z TI TO i1 i2:Addr)(t1 t2:Nat->Heap->Prop)(i:Nat)(h:Heap):Prop:=IsZip h z TI TO .none/\Mr h TI (.ref i1) (.ref i2)/\(∃a b,Mr h TO a b)/\t1 i h/\t2 i h
def x2l{K:Ah}{TI TO:Addr}(D:ZipA z TI TO i1 i2)(Q:Srce P w K J1 i1 t1)(R:Srce P w K J2 i2 t2):
  Turn P w K (.Tuple elts kk pos) (Itz J1 J2) [z,TI,TO,i1,i2] z (tnZip z TI TO i1 i2 t1 t2) where
 mem:=by simp
 obj:=λi h st b j=>by
  obtain⟨G,g,⟨a,c,B⟩,J,L⟩:=st;simp only[Az,Fl,or_false] at j;rcases j with rfl|rfl|rfl|rfl|rfl
  ·simp_all
  ·grind
  ·grind
  ·exact Q.obj i h J
  ·exact R.obj i h L
 keep:=λi h h' st k=>by
  obtain⟨G,g,⟨a,c,B⟩,J,L⟩:=st;exact⟨k z (by simp) _ G,k TI (by simp) _ g,⟨a,c,k TO (by simp) _ B⟩,Q.keep _ _ _ J λo e=>k i1 (by simp) o e,R.keep _ _ _ L λo e=>k i2 (by simp) o e⟩
 item:=by
  intro X U W Y Z i F s σ H E I M st T;subst U W Y;obtain⟨G,g,⟨a,c,B⟩,J,L⟩:=st;have S:s.TypeIs (.ref z) "zip" := ⟨_,G,rfl⟩
  refine Ac (Eh (Cg S Nv
   (By Nv S Wq
    (z8p D Q R (I.ok.hd Z) I.vw (λb j=>(M b j).1) (λb j=>(M b j).noK I) G g B J L T.1 T.2 λu v x y h' tk rx ry yx yy a1 a2 a3 a4 a5 a6 a7=>Ad ?_) (Vt _))))
  refine⟨_,rfl,?_⟩;refine wpAny_letOwnedTupleGo_zip a1 λO a0 C=>?_;have k2:∀c o,c∉[z,TI,TO,i1,i2]->s.heap.get? c=some o->O.get? c=some o:=λc o f e=>by
   simp only[Az,Fl,or_false,not_or] at f;exact C.extBut _ _ f.1 (a7 c o f.1 f.2.2.1 f.2.2.2.1 f.2.2.2.2 e)
  have a8:=Al G;have I1:Inv X F σ H { s with heap:=O,toks:=tk }:=I.turnedL k2 M;have FT:=I.fpOk (Ai _) I.fresh;have a9:=C.extBut _ _ (Ex a8) a5;have I2:Inv X F σ (upd H s.heap.objs.size (.tup [x,y])) { s with heap:=O,toks:=tk } :=
   I1.track I.sz FT ⟨by show 2<=sizeLine;decide,[u,v],.cons rx (.cons ry .nil),⟨_,a9,rfl,_,rfl⟩⟩
  refine⟨.ref s.heap.objs.size,_,I2,rfl,⟨_,x,y,I.fresh,yx,yy,rfl,rfl⟩,⟨a0,?_,⟨_,_,C.extBut _ _ D.TOz a2⟩,Q.keep _ _ _ a3 λo e=>C.extBut _ _ D.i1z e,R.keep _ _ _ a4 λo e=>C.extBut _ _ D.i2z e⟩,λb j=>?_⟩
  ·exact C.extBut _ _ D.TIz (a7 _ _ D.TIz D.TITO D.TIi1 D.TIi2 g)
  ·have b0:=(M b j).1;rw[q0f]
   ·exact b0
   ·have:∃o,s.heap.get? b=some o:=by
     simp only[Az,Fl,or_false] at j;rcases j with rfl|rfl|rfl|rfl|rfl
     ·exact⟨_,G⟩
     ·grind
     ·grind
     ·obtain⟨o,e,_⟩:=Q.obj _ _ J;exact⟨o,e⟩
     ·obtain⟨o,e,_⟩:=R.obj _ _ L;exact⟨o,e⟩
    obtain⟨o,e⟩:=this;exact Bj (Al e)
 done:=by
  intro X U W Y Z i F s σ H E I M st T;subst U W Y;obtain⟨G,g,⟨a,c,B⟩,J,L⟩:=st;have S:s.TypeIs (.ref z) "zip" := ⟨_,G,rfl⟩
  refine Ac (Eh (Cg S Nv
   (By Nv S Wq
    (x2k D Q R (I.ok.hd Z) I.vw (λb j=>(M b j).1) (λb j=>(M b j).noK I) G g B J L T λh' e tk hk he=>?_) (Vt _))))
  obtain⟨o,ho,b1⟩:=he;refine Ac (Fz ⟨o,ho,b1⟩ Lu ?_);refine Ad ⟨rfl,I.turnedL (λc o f e=>?_) M⟩;simp only[Az,Fl,or_false,not_or] at f;exact hk c o f.1 f.2.2.1 f.2.2.2.1 f.2.2.2.2 e
 self:=λ_ _ _ _ _ st h=>wpAny_pyIter_zip st.1 h
noncomputable abbrev zs1(h:Heap)(x:Str)(t:Tok):Heap:=h.push { cls:=.type (Ij x),data:=.fields #[.str x t,.int 0 0] }
noncomputable abbrev zs2(h:Heap)(x y:Str)(t u:Tok):Heap:=(zs1 h x t).push { cls:=.type (Ij y),data:=.fields #[.str y u,.int 0 0] }
noncomputable abbrev zs3(h:Heap)(x y:Str)(t u:Tok):Heap:=(zs2 h x y t u).push { cls:=.type "tuple",data:=.seq #[.ref h.objs.size,.ref (zs1 h x t).objs.size] }
noncomputable abbrev zs4(h:Heap)(x y:Str)(t u:Tok):Heap:=(zs3 h x y t u).push { cls:=.type "tuple",data:=.seq #[.none,.none] }
noncomputable abbrev zs5(h:Heap)(x y:Str)(t u:Tok):Heap:=(zs4 h x y t u).push { cls:=.type "zip",data:=.fields #[.none,.bool false,.bool false,.ref (zs2 h x y t u).objs.size,.ref (zs3 h x y t u).objs.size] }
set_option maxHeartbeats 4000000 in
def z4a(x y:Str)(t u:Tok):
  Meets (Du.«zip.__new__» ⟨[.type "zip",.str x t,.str y u],[]⟩) (λ_ R s=>R (.ok (.ret (.ref (zs4 s.heap x y t u).objs.size))) { s with heap:=zs5 s.heap x y t u }) :=
 .of_wp λprog w A R s h=>by
  obtain⟨f,g,d,tk,os⟩:=s;have j:=sub_zip;have o:∀{A:Around} {E:Value->Ag->Prop} {Q:Value->Ag->Prop},Q (.ref f.objs.size) ⟨zs1 f x t,g,d,tk,os⟩->wpAny (model prog w) A (Ml (.str x t)) Q E ⟨f,g,d,tk,os⟩:=λq=>Vu q
  have v:∀{A:Around} {E:Value->Ag->Prop} {Q:Value->Ag->Prop},Q (.ref (zs1 f x t).objs.size) ⟨zs2 f x y t u,g,d,tk,os⟩->wpAny (model prog w) A (Ml (.str y u)) Q E ⟨zs1 f x t,g,d,tk,os⟩:=λq=>Vu q
  wp_walk using o,v
  exact⟨_,rfl,h⟩
def z8q(n:Nat):ZipA (n+4) (n+2) (n+3) n (n+1):=by
 constructor<;>(show(_:Nat)≠_;lia)
section
variable{X:Cx}{elts:List Expr}{kk:Nat}{tpos:Pos}
def z5l{h:St}(I:Inv X pins h H s)(u:Srce X.prog X.w X.K J1 s.heap.objs.size t1)(v:Srce X.prog X.w X.K J2 (s.heap.objs.size+1) t2)(j:IsZip h' (s.heap.objs.size+4) (s.heap.objs.size+2) (s.heap.objs.size+3) .none)(f:Mr h' (s.heap.objs.size+2) (.ref s.heap.objs.size) (.ref (s.heap.objs.size+1)))(g:Mr h' (s.heap.objs.size+3) .none .none)(B:t1 0 h')(C:t2 0 h')(hk:∀c o,s.heap.get? c=some o->h'.get? c=some o)(q:R (Itz J1 J2) H):
  wpAny (model X.prog X.w) X.A (Ml (.ref (s.heap.objs.size+4))) (PIE X pins h (.Tuple elts kk tpos) R) E { s with heap:=h' }:=by
 refine wpAny_pyIter_zip j ?_;refine⟨_,_,_,_,H,rfl,I.kept (t':=s.toks) hk,x2l (z8q s.heap.objs.size) u v,⟨j,f,⟨_,_,g⟩,B,C⟩,λb D=>?_,q⟩;have hb':s.heap.objs.size<=b:=by grind
 exact I.fpOk hb' (I.hok.fresh hb')
noncomputable def iZipS(ta:TA):TI:=λσ H R=>ta σ H λvs H1=>∃x y,vs=[.str x,.str y]/\R (Itz (Its x) (Its y)) H1
def x5x{p j:Pos}(W:Gl X "zip")(Y:X.mg "zip" = none)(ha:PA X [a,b] ta)(Z:Bc [a,b] X.env=[(false,eval a X.env),(false,eval b X.env)]:=by rfl)(B:Bc [b] X.env=[(false,eval b X.env)]:=by rfl):
  PI X (.Tuple elts kk tpos) (.Call (.Name "zip" p) [a,b] [] j) (iZipS ta):=by
 intro C s σ H R I h;refine Call_ (q4z I W Y (by decide +kernel:Gi "zip" = some (.type "zip")) (Ed (thn (ha j C s σ H _ I h) λus f qz=>?_) (by rw[Z,B]) (by rw[B];rfl)));obtain⟨vs,H1,I1,r1,q1⟩:=qz;obtain⟨x,y,e,q⟩:=q1;subst e;obtain⟨u,v,rfl,⟨t,rfl⟩,⟨g,rfl⟩⟩:=r1.two;refine callType_new F.called_zip (by decide) (F.typeCall_zip_2 _ _) (F.newCall_zip_2 _ _) (λobj=>F.args_object_init_3 obj _ _) F.entry_zip_new (z4a x y t g) ?_;have L:(zs1 f.heap x t).objs.size=f.heap.objs.size+1:=Gd ..;have M:(zs2 f.heap x y t g).objs.size=f.heap.objs.size+2:=by simp_all
 have O:(zs3 f.heap x y t g).objs.size=f.heap.objs.size+3:=by simp_all
 have P:(zs4 f.heap x y t g).objs.size=f.heap.objs.size+4:=by simp_all
 have k1:∀c o,f.heap.get? c=some o->(zs1 f.heap x t).get? c=some o:=λc o e=>Ae _ e;have Q:∀c o,(zs1 f.heap x t).get? c=some o->(zs2 f.heap x y t g).get? c=some o:=λc o e=>Ae _ e;have G:∀c o,(zs2 f.heap x y t g).get? c=some o->(zs3 f.heap x y t g).get? c=some o:=λc o e=>Ae _ e;have E:∀c o,(zs3 f.heap x y t g).get? c=some o->(zs4 f.heap x y t g).get? c=some o:=λc o e=>Ae _ e;have D:∀c o,(zs4 f.heap x y t g).get? c=some o->(zs5 f.heap x y t g).get? c=some o:=λc o e=>Ae _ e;have g1:(zs1 f.heap x t).get? f.heap.objs.size=some { cls:=.type (Ij x),data:=.fields #[.str x t,.int 0 0] }:=An _ rfl;have S:(zs2 f.heap x y t g).get? (zs1 f.heap x t).objs.size=some { cls:=.type (Ij y),data:=.fields #[.str y g,.int 0 0] }:=An _ rfl;have T:(zs3 f.heap x y t g).get? (zs2 f.heap x y t g).objs.size=some { cls:=.type "tuple",data:=.seq #[.ref f.heap.objs.size,.ref (zs1 f.heap x t).objs.size] }:=An _ rfl;have U:(zs4 f.heap x y t g).get? (zs3 f.heap x y t g).objs.size=some { cls:=.type "tuple",data:=.seq #[.none,.none] }:=An _ rfl;have J:(zs5 f.heap x y t g).get? (zs4 f.heap x y t g).objs.size=some { cls:=.type "zip",data:=.fields #[.none,.bool false,.bool false,.ref (zs2 f.heap x y t g).objs.size,.ref (zs3 f.heap x y t g).objs.size] }:=An _ rfl;rw[L] at S;rw[M,L] at T;rw[O] at U;rw[P,M,O] at J;rw[P];exact⟨⟨_,J,rfl⟩,z5l I1 (q9w _ x t) (q9w _ y g) J (D _ _ (E _ _ T)) (D _ _ U) ⟨_,D _ _ (E _ _ (G _ _ (Q _ _ g1))),rfl,rfl⟩ ⟨_,D _ _ (E _ _ (G _ _ S)),rfl,rfl⟩ (λc o e=>D _ _ (E _ _ (G _ _ (Q _ _ (k1 _ _ e))))) q⟩
noncomputable def iZipL(K:Ah)(ta:TA):TI:=λσ H R=>ta σ H λvs H1=>∃a b xs ys,vs=[.ref a,.ref b]/\SqL K H1 a xs/\SqL K H1 b ys/\R (Itz (Itl K a) (Itl K b)) H1
def x5y{p f:Pos}(E:Gl X "zip")(F:X.mg "zip" = none)(ha:PA X [a,b] ta)(G:Bc [a,b] X.env=[(false,eval a X.env),(false,eval b X.env)]:=by rfl)(g:Bc [b] X.env=[(false,eval b X.env)]:=by rfl):
  PI X (.Tuple elts kk tpos) (.Call (.Name "zip" p) [a,b] [] f) (iZipL X.K ta):=by
 intro j s J H R I h;refine Call_ (q4z I E F (by decide +kernel:Gi "zip" = some (.type "zip")) (Ed (thn (ha f j s J H _ I h) λus s1 L=>?_) (by rw[G,g]) (by rw[g];rfl)));obtain⟨vs,H1,o,B,M⟩:=L;obtain⟨O,P,xs,ys,e,Q,S,q⟩:=M;subst e;obtain⟨u,v,rfl,B,T⟩:=B.two;cases B;cases T;obtain⟨U,rv,W,_⟩:=o.list Q;obtain⟨D,Y,C,_⟩:=o.list S;exact call_zip_2 W.isList C.isList λh' Z a2 a3 a4 a5 a6 a7=>z5l o (q7l O _) (q7l P _) Z a2 a3 a4 a5 a7 q
def z1s{J:It}{g:TG}{tb:TS}{D:Ends}(h:Nat->St->Hp->Prop)(E:h 0 f H)(u:∀i f H,i<n->h i f H->J.go i H)(v:∀f H,h n f H->J.stop n H)(F:∀i x f H H',i<n->h i f H->J.yld i H x H'->g x f H' λj B=>tb { D with nx:=h (i+1),ct:=h (i+1),bk:=D.nx } j B)(hd:∀f H,h n f H->D.nx f H):
  ∃W:Nat->Nat->St->Hp->Prop,(∃m,W 0 m f H)/\∀i m f H,W i m f H ->
   (J.stop i H/\D.nx f H)\/(J.go i H/\∃N:St->Hp->Prop,(∀o H',N o H'->∃C,C<m/\W (i+1) C o H')/\∀x H',J.yld i H x H'->g x f H' λj B=>tb { D with nx:=N,ct:=N,bk:=D.nx } j B):=by
 refine⟨λi m f H=>m=n-i/\i<=n/\h i f H,⟨n,by simp,Bf _,E⟩,?_⟩;rintro i m f H ⟨rfl,I,p⟩;by_cases s:i<n
 ·exact .inr ⟨u i f H s p,h (i+1),λo H' G=>⟨n-(i+1),by lia,rfl,s,G⟩,λx H' y=>F i x f H H' s p y⟩
 ·grind
def x2m{K:Np}{g:TG}{tb:TS}{D:Ends}(j:Nat->St->Hp->Prop)(C:j 0 f H)(hl:∀i f H,j i f H->SqL K H a xs/\SqL K H b ys)(E:∀i x y T f H,xs[i]?=some x->ys[i]?=some y->j i f H->H T=none->g (.ref T) f (upd H T (.tup [x,y])) λo u=>tb { D with nx:=j (i+1),ct:=j (i+1),bk:=D.nx } o u)(hd:∀f H,j (min xs.length ys.length) f H->D.nx f H):
  ∃W:Nat->Nat->St->Hp->Prop,(∃m,W 0 m f H)/\∀i m f H,W i m f H ->
   ((Itz (Itl K a) (Itl K b)).stop i H/\D.nx f H)\/((Itz (Itl K a) (Itl K b)).go i H/\∃N:St->Hp->Prop,(∀s H',N s H'->∃B,B<m/\W (i+1) B s H')/\∀v H',(Itz (Itl K a) (Itl K b)).yld i H v H'->g v f H' λo u=>tb { D with nx:=N,ct:=N,bk:=D.nx } o u):=by
 refine z1s j C (λi f H h p=>⟨?_,?_⟩) (λf H p=>?_) (λi v f H H' h p F=>?_) hd
 ·exact⟨xs,xs[i]'(by lia),(hl i f H p).1,by simp⟩
 ·exact⟨ys,ys[i]'(by lia),(hl i f H p).2,by simp⟩
 ·by_cases G:xs.length<=ys.length
  ·exact .inl ⟨xs,(hl _ f H p).1,by lia⟩
  ·exact .inr ⟨⟨xs,xs[min xs.length ys.length]'(by lia),(hl _ f H p).1,by simp⟩,ys,(hl _ f H p).2,by lia⟩
 ·obtain⟨T,I,J,L,⟨_,M⟩,⟨_,O⟩,rfl,rfl⟩:=F;exact E i I J T f H (M xs (hl i f H p).1) (O ys (hl i f H p).2) p L
end
structure Cal (P:Ak) (w:World) (K:Ah) (mg:Str->Option Value) (base:Heap) (x:Str) (k:Nat) (ps:List Str) (sp:Sp):Prop where
 ex:∃f fd,FnOk P w K mg base CX0 k f fd ps sp/\mg x=some (.ref f)/\Ff K (.ref f)=true/\Binds K fd ps []
structure Df (K:Ah) (mg:Str->Option Value) (x:Str) (st:Stmt) (ps:List Str):Prop where
 ex:∃f fd,Fun K x x st f fd/\mg x=some (.ref f)/\Binds K fd ps []
def Df.cal{K:Ah}{st:Stmt}(D:Df K mg x st ps)(S:FnScope N ps (defScope st))(len:∀vs H Q E,sp vs H Q E->vs.length=ps.length)(j:∀(f:Addr) (g:Value) (A:Around) (outer:List Env) (s:Ag) (H:Hp) (vs:List V) (Q:VK) (E:XK),Room k (A.deeper (Hx x (defScope st) s.heap.objs.size f g))->sp vs H Q E ->
   ∃t,PSs (cxOf CX0 P w K mg base N x (defScope st) f g A outer s H E).nox (defBody st) t/\t { nx:=λ_ H'=>Q .non H',rt:=Q } (start N vs) H):Cal P w K mg base x (k+1) ps sp:=by
 obtain⟨f,fd,F,o,u⟩:=D.ex;exact⟨f,fd,F.ok S len λg A outer s H vs Q E v h=>j f g A outer s H vs Q E v h,o,F.kp,u⟩
section
variable{X:Cx}{x:Str}{k j:Nat}{ps:List Str}{sp:Sp}{p pos:Pos}{e:Expr}{es:List Expr}{t:TA}
def pe_c(C:Cal X.prog X.w X.K X.mg X.base x k ps sp)(s:Room j X.A)(ha:PA X (e::es) t)(g:k<=j:=by decide)(u:Gl X x:=by rfl)(h:(x==("__debug__" : Str))=false:=by decide)(v:Bc (e::es) X.env=(false,eval e X.env)::Bc es X.env:=by rfl)(o:(Ew pos (Bc es X.env)).any (·.1)=false:=by rfl):
  PE X (.Call (.Name x p) (e::es) [] pos) (tCall sp [] E0 t):=by
 obtain⟨f,fd,F,B,hk,D⟩:=C.ex;exact x5r F (s.mono g) u B hk D .nil pass0 ha h v o
def pe_c0(C:Cal X.prog X.w X.K X.mg X.base x k ps sp)(o:Room j X.A)(g:k<=j:=by decide)(s:Gl X x:=by rfl)(h:(x==("__debug__" : Str))=false:=by decide):
  PE X (.Call (.Name x p) [] [] pos) (tCall sp [] E0 tNil):=by
 obtain⟨f,fd,F,u,hk,v⟩:=C.ex;exact x2b F (o.mono g) s u hk v .nil pass0 h
end
def PI.or(j:PI X tg l w1)(o:PI X tg l w2):PI X tg l (λg H R=>w1 g H R\/w2 g H R):=by
 intro f s g H R I h;rcases h with h|h
 ·exact j f s g H R I h
 ·exact o f s g H R I h
structure FeedAt (H:Hp) (a b:Addr):Prop where
 fa:∃i j:Int,H a=some (.lst [.ref b,.int i,.int j])
 fb:∃ns:List Int,H b=some (.lst (ns.map V.int))
structure Fd (a b:Addr) (H H':Hp):Prop where
 feed:FeedAt H' a b
 keep:∀c o,H c=some o->c≠a->H' c=some o
def FeedAt.ne(F:FeedAt H a b):b≠a:=by
 obtain⟨⟨i,j,h⟩,ns,f⟩:=F;refine x1v f h ?_;intro z;cases ns with
 |nil=>cases z
 |cons n r=>simp at z
def Fd.refl(F:FeedAt H a b):Fd a b H H:=⟨F,λ_ _ h _=>h⟩
def Fd.trans(x:Fd a b H H1)(y:Fd a b H1 H2):Fd a b H H2:=⟨y.feed,λc o h f=>y.keep c o (x.keep c o h f) f⟩
def Fd.free(x:Fd a b H H')(h:H' p=none):H p=none:=by
 cases e:H p with
 |none=>rfl
 |some o =>
  by_cases f:p=a
  ·subst f;obtain⟨i,j,q⟩:=x.feed.fa;rw[h] at q;cases q
  ·rw[x.keep p o e f] at h;cases h
def FeedAt.upd(F:FeedAt H a b)(ha:a≠p)(f:b≠p):FeedAt (upd H p o) a b :=
 ⟨let ⟨i,j,h⟩:=F.fa;⟨i,j,by rw[q0f ha];exact h⟩,let ⟨ns,h⟩:=F.fb;⟨ns,by rw[q0f f];exact h⟩⟩
def FeedAt.na(F:FeedAt H a b)(h:H p=none):a≠p:=by obtain⟨i,j,q⟩:=F.fa;exact q0t q h
def FeedAt.nb(F:FeedAt H a b)(h:H p=none):b≠p:=by obtain⟨ns,q⟩:=F.fb;exact q0t q h
def Fd.put(x:Fd a b H H')(F:FeedAt H a b)(h:H p=none):Fd a b H (upd H' p o) :=
 ⟨x.feed.upd (F.na h) (F.nb h),λc u e f=>by rw[q0f (q0t e h)];exact x.keep c u e f⟩
def Fd.new(x:Fd a b H H')(h:H' p=none):Fd a b H (upd H' p o) :=
 ⟨x.feed.upd (x.feed.na h) (x.feed.nb h),λc u e f=>by rw[q0f (q0t (x.keep c u e f) h)];exact x.keep c u e f⟩
def Fd.at(x:Fd a b H H')(h:H c=some o)(f:c≠a):H' c=some o:=x.keep c o h f
def Fd.same(x:Fd a b H H')(s:Same H' H2):Fd a b H H2 :=
 ⟨⟨let ⟨i,j,h⟩:=x.feed.fa;⟨i,j,s _ _ h⟩,let ⟨ns,h⟩:=x.feed.fb;⟨ns,s _ _ h⟩⟩,λc o e f=>s _ _ (x.keep c o e f)⟩
def Same.new(s:Same H H')(h:H' p=none):Same H (upd H' p o):=λc u e=>by rw[q0f (q0t (s c u e) h)];exact s c u e
def Same.put(s:Same H H')(h:H p=none):Same H (upd H' p o):=λc u e=>by rw[q0f (q0t e h)];exact s c u e
noncomputable def spDraw:Sp:=λvs H Q _=>∃a b m,vs=[.ref a,.int m]/\FeedAt H a b/\0<m/\m<1073741824/\∀(r:Int) H',0<=r->r<m->Fd a b H H'->Q (.int r) H'
noncomputable def spConst(x:Str):Sp:=λvs H Q _=>vs=[]/\Q (.str x) H
def x5z{xs:List α}(i:Int)(h:xs≠[]):∃x,x∈xs/\atI xs (i%(xs.length:Int))=some x:=by
 have hl:0<(xs.length:Int):=by
  cases xs with
  |nil=>exact absurd rfl h
  |cons a r=>grind
 have f:=Ro i (show(xs.length:Int)≠0 by lia);have g:=Pg i hl;have hn:(i%(xs.length:Int)).toNat<xs.length:=by lia
 unfold atI ixN;rw[if_pos f,if_pos g];simp[hn]
def x4s{xs:List α}(f:0<=i)(g:i<(xs.length:Int)):∃x,xs[i.toNat]?=some x/\atI xs i=some x:=by
 have hn:i.toNat<xs.length:=by lia
 unfold atI ixN;rw[if_pos f,if_pos g];simp[hn]
mutual
inductive Dt (K : Ah) (H : Hp) : V → Cv → Prop
  | non : Dt K H .non .none
  | bl (b : Bool) : Dt K H (.bl b) (.bool b)
  | int (i : Int) : Dt K H (.int i) (.int i)
  | str (x : Str) : Dt K H (.str x) (.str x)
  | lst {a : Addr} {xs : List V} {ds : List Cv} : SqL K H a xs → Dts K H xs ds → Dt K H (.ref a) (.list ds)
  | tup {a : Addr} {xs : List V} {ds : List Cv} : SqT K H a xs → Dts K H xs ds → Dt K H (.ref a) (.tuple ds)
inductive Dts (K : Ah) (H : Hp) : List V → List Cv → Prop
  | nil : Dts K H [] []
  | cons {x : V} {xs : List V} {d : Cv} {ds : List Cv} : Dt K H x d → Dts K H xs ds → Dts K H (x :: xs) (d :: ds)
end
section
variable{X:Cx}{pins:List (Addr×Obj)}{σ:St}{H:Hp}{s:Ag}
def Dt.reads(I:Inv X pins σ H s){x:V}{d:Cv}{u:Value}(h:Dt X.K H x d):RelV x u->∃as,Reads s.heap u d as:=by
 refine Dt.rec (motive_1:=λx d _=>∀{u:Value},RelV x u->∃as,Reads s.heap u d as) (motive_2:=λf ds _=>∀{g:List Value},Vals f g->∃as,ReadsAll s.heap g ds as) ?_ ?_ ?_ ?_ ?_ ?_ ?_ ?_ h
 ·intro u r;cases r;exact⟨_,.none⟩
 ·intro b u r;cases r;exact⟨_,.bool b⟩
 ·intro i u r;obtain⟨t,rfl⟩:=r;exact⟨_,.int i t⟩
 ·intro x u r;obtain⟨t,rfl⟩:=r;exact⟨_,.str x t⟩
 ·intro a f ds q _ j u r;cases r;obtain⟨v,B,⟨o,n,e,c,_,d⟩,_⟩:=I.list q;obtain⟨as,h⟩:=j B;exact⟨_,.list e c d (by simpa using h)⟩
 ·intro a f ds q _ j u r;cases r;obtain⟨v,B,⟨o,e,c,n,d⟩,_⟩:=I.tuple q;obtain⟨as,h⟩:=j B;exact⟨_,.tuple e c d (by simpa using h)⟩
 ·intro g r;cases r;exact⟨_,.nil⟩
 ·intro x f d ds _ _ C D g r;cases r with
  |cons r rs =>
   obtain⟨as,h⟩:=C r;obtain⟨bs,E⟩:=D rs;exact⟨_,.cons h E⟩
end
section
variable{X:Cx}{k:Nat}
noncomputable def rEqD(K:Ah):R2:=λx y H Q=>∃d e,Dt K H x d/\Dt K H y e/\d.canLay0=true/\e.canLay0=true/\min d.depth e.depth<=100/\Q (.bl (Fy d e)) H
noncomputable def rNeD(K:Ah):R2:=λx y H Q=>∃d e,Dt K H x d/\Dt K H y e/\d.canLay0=true/\e.canLay0=true/\min d.depth e.depth<=100/\Q (.bl (!PyData.eqv d e)) H
def op_eqD(g:Room k X.A):OpR X (Cj .Eq) (rEqD X.K):=by
 intro f s G H x y v u Q I j o h;obtain⟨d,e,hd,B,C,D,J,q⟩:=h;obtain⟨as,E⟩:=hd.reads I j;obtain⟨bs,F⟩:=B.reads I o;have L:=g.un;exact SeqAt.rcAt_reads E F C D (by lia) X.prog X.w X.xe _ ⟨.bl _,H,I,rfl,q⟩
def op_neD(g:Room k X.A):OpR X (Cj .NotEq) (rNeD X.K):=by
 intro f s G H x y v u Q I j o h;obtain⟨d,e,hd,B,C,D,J,q⟩:=h;obtain⟨as,E⟩:=hd.reads I j;obtain⟨bs,F⟩:=B.reads I o;have L:=g.un;exact SeqAt.rcNeAt_reads E F C D (by lia) X.prog X.w X.xe _ ⟨.bl _,H,I,rfl,q⟩
noncomputable def rAddU:R2:=λx y H Q=>(∃i j,x=.int i/\y=.int j/\Q (.int (i+j)) H)\/(∃i j,x=.str i/\y=.str j/\i.length+j.length<=sizeLine/\Q (.str (i++j)) H)\/rCat x y H Q
def q0r:OpR X (Gj .Add) rAddU:=op_add.or (op_add_str.or op_cat)
noncomputable def rMulU:R2:=λx y H Q=>(∃i j,x=.int i/\y=.int j/\CMul i j/\Q (.int (i*j)) H)\/rMulS x y H Q\/rRep x y H Q
def z4b:OpR X (Gj .Mult) rMulU:=op_mul.or (op_mulS.or op_rep)
noncomputable def rEqU(K:Ah):R2:=λx y H Q=>rEq x y H Q\/rEqD K x y H Q
def op_eqU(f:Room k X.A):OpR X (Cj .Eq) (rEqU X.K):=op_eq.or (op_eqD f)
noncomputable def rNeU(K:Ah):R2:=λx y H Q=>rNe x y H Q\/rNeD K x y H Q
def op_neU(f:Room k X.A):OpR X (Cj .NotEq) (rNeU X.K):=op_ne.or (op_neD f)
noncomputable def rInU(K:Ah):R2:=λx y H Q=>(∃i j,x=.str i/\y=.str j/\Q (.bl (!(Gy j i 0 j.length 1).isEmpty)) H)\/rIn K false x y H Q
def op_inU:OpR X (Cj .In) (rInU X.K):=op_in_str.or z8j
noncomputable def rNinU(K:Ah):R2:=λx y H Q=>(∃i j,x=.str i/\y=.str j/\Q (.bl (!(!(Gy j i 0 j.length 1).isEmpty))) H)\/rIn K true x y H Q
def x6a:OpR X (Cj .NotIn) (rNinU X.K):=op_notIn_str.or z1n
noncomputable def rSlU(K:Ah):V->Option Int->Option Int->Hp->VK->Prop:=λx lo hi H Q=>rSlS x lo hi H Q\/rSlL K x lo hi H Q\/rSlT K x lo hi H Q
def sl_U:SlR X (rSlU X.K):=sl_str.or (sl_list.or x4p)
noncomputable def iAny(K:Ah)(tl:TE):TI:=λσ H R=>tl σ H λx H1=>(∃a,x=.ref a/\(∃xs,SqL K H1 a xs)/\R (Itl K a) H1)\/(∃a,x=.ref a/\(∃xs,SqT K H1 a xs)/\R (Itt K a) H1)\/∃z,x=.str z/\R (Its z) H1
def pi_any(hl:PE X l tl):PI X tg l (iAny X.K tl):=by
 intro g s F H R I h;refine thnE (hl g s F H _ I h) λv f x u j D G=>?_;have C:∀b∈[f.heap.objs.size],FpOk X g u b:=λb O=>by
  have e:b=f.heap.objs.size:=by grind
  subst e;exact j.fpOk (Ai _) (j.hok.fresh (Ai _))
 rcases G with⟨a,e,⟨J,E⟩,q⟩|⟨a,e,⟨J,E⟩,q⟩|⟨z,e,q⟩
 ·subst e;cases D;obtain⟨B,L,p,M⟩:=j.list E;exact Vs p.isList ⟨f.heap.objs.size,[f.heap.objs.size],_,_,u,rfl,j.kept (t':=f.toks) λb o e=>Ae _ e,z7x a _,⟨_,An _ rfl,rfl,rfl⟩,C,q⟩
 ·subst e;cases D;obtain⟨B,L,p,M⟩:=j.tuple E;exact wpAny_pyIter_tuple (show f.heap.IsTuple a B.toArray from p) ⟨f.heap.objs.size,[f.heap.objs.size],_,_,u,rfl,j.kept (t':=f.toks) λb o e=>Ae _ e,z6i a _,⟨_,An _ rfl,rfl,rfl⟩,C,q⟩
 ·subst e;obtain⟨t,rfl⟩:=D;cases ha:z.cps.all (· < 128)
  ·exact wpAny_pyIter_wide ha ⟨f.heap.objs.size,[f.heap.objs.size],_,_,u,rfl,j.kept (t':=f.toks) λb o e=>Ae _ e,z8o _ z t,⟨Bf _,_,An _ rfl,rfl,rfl⟩,C,q⟩
  ·exact wpAny_pyIter_ascii ha ⟨f.heap.objs.size,[f.heap.objs.size],_,_,u,rfl,j.kept (t':=f.toks) λb o e=>Ae _ e,z8n _ z t,⟨Bf _,_,An _ rfl,rfl,rfl⟩,C,q⟩
noncomputable def iZip(K:Ah)(ta:TA):TI:=λσ H R=>iZipS ta σ H R\/iZipL K ta σ H R
def pi_zip{f:List Expr}{v:Nat}{g:Pos}{p j:Pos}(o:Gl X "zip")(s:X.mg "zip" = none)(ha:PA X [a,b] ta)(u:Bc [a,b] X.env=[(false,eval a X.env),(false,eval b X.env)]:=by rfl)(h:Bc [b] X.env=[(false,eval b X.env)]:=by rfl):
  PI X (.Tuple f v g) (.Call (.Name "zip" p) [a,b] [] j) (iZip X.K ta):=(x5x o s ha u h).or (x5y o s ha u h)
end
section
variable{X:Cx}{a b o e l:Expr}{es:List Expr}{ta tb to te tl:TE}{t:TA}{pos p2 apos cpos:Pos}{k:Nat}{name:Str}{T idn:String}{r:V->List V->Hp->VK->Prop}
def ix_k(K:Ah)(f:X.K=K):IxR X (rIx K):=by subst f;exact ix_seq
def q1z(K:Ah)(f:X.K=K):CallR X (.builtin "len") (λxs H Q=>∃x n,xs=[x]/\LenV K x H n/\Q (.int n) H):=by subst f;exact x1y
def eq_k(K:Ah)(f:X.K=K)(g:Room k X.A):OpR X (Cj .Eq) (rEqU K):=by subst f;exact op_eqU g
def ne_k(K:Ah)(f:X.K=K)(g:Room k X.A):OpR X (Cj .NotEq) (rNeU K):=by subst f;exact op_neU g
def in_k(K:Ah)(f:X.K=K):OpR X (Cj .In) (rInU K):=by subst f;exact op_inU
def z4c(K:Ah)(f:X.K=K):OpR X (Cj .NotIn) (rNinU K):=by subst f;exact x6a
def sl_k(K:Ah)(f:X.K=K):SlR X (rSlU K):=by subst f;exact sl_U
def q5u{f:Expr}(K:Ah)(g:X.K=K)(hl:PE X l tl):PI X f l (iAny K tl):=by subst g;exact pi_any hl
def zip_k{f:List Expr}{j:Nat}{g:Pos}{p:Pos}(K:Ah)(o:X.K=K)(s:Gl X "zip")(u:X.mg "zip" = none)(ha:PA X [a,b] t)(v:Bc [a,b] X.env=[(false,eval a X.env),(false,eval b X.env)]:=by rfl)(h:Bc [b] X.env=[(false,eval b X.env)]:=by rfl):
  PI X (.Tuple f j g) (.Call (.Name "zip" p) [a,b] [] pos) (iZip K t):=by subst o;exact pi_zip s u ha v h
def all_k(K:Ah)(f:X.K=K)(g:X.calm=true):CallR X (.builtin "all") (λxs H Q=>∃(p:Addr) (bs:List Bool),xs=[.ref p]/\SqL K H p (bs.map V.bl)/\Q (.bl (bs.all id)) H):=by subst f;exact x2i g
def isi_k(K:Ah)(f:X.K=K):CallR X (.builtin "isinstance") (λxs H Q=>∃x c t b,xs=[x,.ty c]/\TyOf K H x t/\Fg K t (.type c)=some b/\Q (.bl b) H):=by subst f;exact z3z
def list_k(K:Ah)(f:X.K=K):CallR X (.type "list") (λxs H Q=>∃p ys,xs=[.ref p]/\(SqL K H p ys\/SqT K H p ys)/\∀l,H l=none->Q (.ref l) (upd H l (.lst ys))):=by subst f;exact z1o
def x6b(K:Ah)(f:X.K=K):CallR X (.type "tuple") (λxs H Q=>∃p ys,xs=[.ref p]/\((SqL K H p ys/\∀l,H l=none->Q (.ref l) (upd H l (.tup ys)))\/(SqT K H p ys/\Q (.ref p) H))):=by subst f;exact q9q
def join_k(K:Ah)(f:X.K=K):MtM X "str.join" (rJoin K):=by subst f;exact x5w
def q1q{g n:Nat}{u:TGs}(K:Ah)(j:X.K=K)(o:X.calm=true)(h:PGs X es u)(hn:(Jz es X.env).length=n:=by rfl)(f:(Jz es X.env).findIdx? (·.1)=none:=by rfl):PG X (.Tuple es g pos) (gTup K n u):=by subst j;exact pg_tup o h hn f
def bm_k(K:Ah)(u:X.K=K)(v:Ti T)(slot:Slot T name idn)(s:typeOf (.builtin idn)=pure (.type "method_descriptor"))(B:MtR X idn r)(C:PE X o to)(ha:PA X (e::es) t)(g:Gv o name X.env (eval o X.env)=eval o X.env:=by rfl)(j:((Ew cpos (Bc (e::es) X.env)).all (λx => !x.1)&&(Mw cpos (Jj [] X.env)).all (λx=>x.1.isSome)
   && decide ((e::es).length+([]:List Sn).length+(if ([]:List Sn).isEmpty then 0 else 1)<30))=true:=by rfl)(h:(apos.endLine==cpos.line)=true:=by rfl)(D:Bc (e::es) X.env=(false,eval e X.env)::Bc es X.env:=by rfl)(f:(Ew cpos (Bc es X.env)).any (·.1)=false:=by rfl):
  PE X (.Call (.Attribute o name apos) (e::es) [] cpos) (tBM K T r to t):=by subst u;exact pe_bm v slot s B C ha g j h D f
def z1t(K:Ah)(j:X.K=K)(s:Ti T)(slot:Slot T name idn)(h:typeOf (.builtin idn)=pure (.type "method_descriptor"))(u:MtR X idn r)(v:PE X o to)(f:Gv o name X.env (eval o X.env)=eval o X.env:=by rfl)(g:(apos.endLine==cpos.line)=true:=by rfl):PE X (.Call (.Attribute o name apos) [] [] cpos) (tBM0 K T r to):=by subst j;exact pe_bm0 s slot h u v f g
def q9x(K:Ah)(g:X.K=K)(ha:PE X a ta)(h:∀f,isTrue a X.env f=(do let v<-f;Ol a.pos;Ko [v] (truthy v))):
  PT X a (λj H Q=>ta j H λx H'=>∃k,TruV K x H' k/\Q k H'):=by subst g;exact x1x ha h
end
def q7m{j:Int}{r:St}{Fin:List V->Hp->Prop}(f:Nat->List V->Hp->Prop)(o:f 0 [] (upd H1 D (.lst [])))(hl:∀i ys H,f i ys H->H D=some (.lst ys))(s:∀i ys H,i<n->f i ys H->te (some (.int (j+i))::r) H λv g=>g D=some (.lst ys)/\ys.length<sizeLine/\f (i+1) (ys++[v]) (upd g D (.lst (ys++[v]))))(hd:∀ys H,f n ys H->Fin ys H):CompW (Itr j n) (gName 0) tIf0 te (none::r) D Fin H1 :=
 z6v f o hl (λi ys H h p=>(⟨q4a,iteT (s i ys H h p)⟩:Keeps0 (none::r) (some (.int (j+i))::r)/\if true=true then te (some (.int (j+i))::r) H λv g=>g D=some (.lst ys)/\ys.length<sizeLine/\f (i+1) (ys++[v]) (upd g D (.lst (ys++[v]))) else f (i+1) ys H)) hd
def z8r{r:St}{Fin:List V->Hp->Prop}(f:Nat->List V->Hp->Prop)(j:f 0 [] (upd H1 D (.lst [])))(hl:∀i ys H,f i ys H->H D=some (.lst ys))(o:∀i ys H c,z.cps[i]?=some c->f i ys H->te (some (.str ⟨#[c]⟩)::r) H λv g=>g D=some (.lst ys)/\ys.length<sizeLine/\f (i+1) (ys++[v]) (upd g D (.lst (ys++[v]))))(hd:∀ys H,f z.length ys H->Fin ys H):CompW (Its z) (gName 0) tIf0 te (none::r) D Fin H1 :=
 x2j f j hl (λi ys H c h p=>(⟨q4a,iteT (o i ys H c h p)⟩:Keeps0 (none::r) (some (.str ⟨#[c]⟩)::r)/\if true=true then te (some (.str ⟨#[c]⟩)::r) H λv g=>g D=some (.lst ys)/\ys.length<sizeLine/\f (i+1) (ys++[v]) (upd g D (.lst (ys++[v]))) else f (i+1) ys H)) hd
def z8s{K:Ah}{r:St}{Fin:List V->Hp->Prop}(f:Nat->List V->Hp->Prop)(j:f 0 [] (upd H1 D (.lst [])))(hl:∀i ys H,f i ys H->H D=some (.lst ys)/\SqT K H a xs)(o:∀i ys H x,xs[i]?=some x->f i ys H->te (some x::r) H λv g=>g D=some (.lst ys)/\ys.length<sizeLine/\f (i+1) (ys++[v]) (upd g D (.lst (ys++[v]))))(hd:∀ys H,f xs.length ys H->Fin ys H):CompW (Itt K a) (gName 0) tIf0 te (none::r) D Fin H1 :=
 x2g f j hl (λi ys H x h p=>(⟨q4a,iteT (o i ys H x h p)⟩:Keeps0 (none::r) (some x::r)/\if true=true then te (some x::r) H λv g=>g D=some (.lst ys)/\ys.length<sizeLine/\f (i+1) (ys++[v]) (upd g D (.lst (ys++[v]))) else f (i+1) ys H)) hd
noncomputable def tSeqJ(t u:TS):TS:=λD σ H=>∃J:St->Hp->Prop,(∀σ' H',J σ' H'->u D σ' H')/\t { D with nx:=J } σ H
def q1v{X:Cx}{st:Stmt}{rest:List Stmt}{t u:TS}(B:PS X st t)(C:PSs X rest u):PSs X (st::rest) (tSeqJ t u):=by
 intro g s E H D I h;obtain⟨J,F,h⟩:=h;refine Qr (thn (B g s E H { D with nx:=J } I h) λf G q=>?_);cases f with
 |next =>
  obtain⟨j,o,L,q⟩:=q;exact C g G j o D L (F j o q)
 |ret v=>exact q
 |brk=>exact q
 |cont=>exact q
noncomputable def tVJ(t:TE):TE:=λσ H Q=>∃J:VK,(∀v H',J v H'->Q v H')/\t σ H J
def pe_j{X:Cx}{e:Expr}{t:TE}(h:PE X e t):PE X e (tVJ t):=by
 intro f s o H Q I g;obtain⟨J,B,g⟩:=g;exact thnE (h f s o H J I g) λu D v j C r q=>⟨v,j,C,r,B v j q⟩
noncomputable def tTJ(t:TT):TT:=λσ H Q=>∃J:Bool->Hp->Prop,(∀b H',J b H'->Q b H')/\t σ H J
def pt_j{X:Cx}{e:Expr}{t:TT}(h:PT X e t):PT X e (tTJ t):=by
 intro f s o H Q I g;obtain⟨J,v,g⟩:=g;exact thnT (h f s o H J I g) λu C j B q=>⟨j,B,v u j q⟩
def iteB{B:Prop}(f:c=true->A)(g:c=false->B):if c=true then A else B:=by grind
end L2
namespace TX
open PySem PySem.Spec PyProof.Rows L2
noncomputable abbrev tl(x:Str):List Nat:=x.cps.toList
noncomputable abbrev mk(l:List Nat):Str:=⟨l.toArray⟩
def q1g(l:List Nat):tl (mk l)=l:=by simp[tl,mk]
def z8t(x:Str):mk (tl x)=x:=by simp[tl,mk]
def ext(h:tl x=tl y):x=y:=ext_toList h
def len(x:Str):x.length=(tl x).length:=by simp[tl,Str.length]
def q8v(x y:Str):tl (x++y)=tl x++tl y:=by
 show(x.cps++y.cps).toList=_;simp[tl]
def app_len(x y:Str):(x++y).length=x.length+y.length:=by rw[len,len,len,q8v,Aj]
def get{i:Nat}(h:x.cps[i]?=some c):(tl x)[i]?=some c:=by simpa[tl] using h
def x6c(z:Str)(ts:List Str):Wo z ts=To z ts:=StrLaws.glued_eq_join z ts
def x6d:∀ts:List Str,tl (Wo (Ab "") ts)=(ts.map tl).flatten:=by
 intro ts;rw[x6c];induction ts with
 |nil=>rfl
 |cons a r ih =>
  cases r with
  |nil=>simp[To]
  |cons b r =>
   show tl (a++Ab "" ++ To (Ab "") (b::r))=_;rw[q8v,q8v,ih];have e:tl (Ab "")=[]:=by trivial
   rw[e];simp
def z8u(f:List Nat):Wo (Ab "") (f.map λc=>(⟨#[c]⟩:Str))=mk f:=by
 apply ext;rw[x6d,q1g,Dy];induction f with
 |nil=>rfl
 |cons c r ih=>rw[Ar,Qd,ih];rfl
def x2n(f:List Nat):((f.map λc=>(⟨#[c]⟩:Str)).map (·.length)).sum=f.length:=by
 induction f with
 |nil=>rfl
 |cons c r ih=>rw[Ar,Ar,List.sum_cons,ih,Be];show 1+_=_;lia
def z6w{i:Int}(f:0<=i)(g:i<=(tl x).length):Pf x (some i) none=mk ((tl x).drop i.toNat):=by
 show Gr x (some i) none=_;rw[StrLaws.sliceText_from ⟨f,g⟩];rw[Ez];rw[Dh];lia
def q6j(x:Str)(c:Nat):(!(Gy x ⟨#[c]⟩ 0 x.length 1).isEmpty)=decide (c∈tl x):=StrLaws.found_one x c
def lower(h:∀c∈tl x,c<128):tl (Txt.lower x)=(tl x).map lo1:=by
 rw[lower_ascii h];simp[tl]
def small(h:n<=1000000):n<=sizeLine:=by rw[Et];lia
def small'(h:n<=1000000):n<sizeLine:=by rw[Et];lia
end TX
namespace L2
open PySem PySem.Spec PyProof.Rows TX
noncomputable def spText:Sp:=λvs H Q _=>∃a b g n,vs=[.ref a,.str g,.int n]/\FeedAt H a b/\0<g.length/\g.length<=1000/\0<=n/\n<=1000 /\
 ∀(t:List Nat) H',t.length=n.toNat->(∀c∈t,c∈tl g)->Fd a b H H'->Q (.str (mk t)) H'
def q1t{f:Type}{l:List f}{x:f}(h:l[i]?=some x):l.take (i+1)=l.take i++[x]:=by
 rw[Gf,h];rfl
section
variable{prog:Ak}{w:World}{K:Ah}{A:Around}{E:Value->Ag->Prop}{s:Ag}{J:It}{st:Nat->Heap->Prop}{e it:Addr}{H:Hp}
def z6x{i:Nat}{Q:Value->Ag->Prop}(S:Srce prog w K J it st)(hh:A.handled=none)(vw:Vw K H s.heap)(nH:H it=none)(nK:K.lookup it=none)(he:IsEnum s.heap e it i old)(a6:st i s.heap)(go:J.go i H)(P:e≠it)(hQ:∀u x h' tk,RelV x u->J.yld i H x H->IsEnumOut h' e it ((i:Int)+1) u s.heap.objs.size->st (i+1) h'->h'.get? s.heap.objs.size=some { cls:=.type "tuple",data:=.seq #[.int i tk,u] }->h'.objs.size=s.heap.objs.size+1 ->
   (∀b o,b≠e->b≠it->s.heap.get? b=some o->h'.get? b=some o)->Q (.ref s.heap.objs.size) { s with heap:=h',toks:=tk+1 }):
  wpAny (model prog w) A (Du.«enumerate.__next__» ⟨[.ref e],[]⟩) (λa7 s'=>∃v,a7=.done (.ret v)/\Q v s') E s:=by
 obtain⟨hp,g,d,a8,os⟩:=s;show wpAny _ _ (field (.ref e) 2 >>= _) _ _ _;refine Ac (Bs he rfl rfl ?_);refine Ac (S.item _ i _ H _ _ hh vw nH nK a6 go λu x b0 tk rx yx T j=>?_);have B:=(j.2 e P).trans he;refine Ac (Bs B rfl rfl ?_);refine Ac (Bs B rfl rfl ?_);refine Ac (wpAny_mkInt ?_);refine Ac (Dl B (by simp) λb1 U C=>?_);refine Ac (Dl U (by simp) λG W D=>?_);refine Ac (Oo ?_);have f:IsEnum (G.push { cls:=.type "tuple",data:=.seq #[.int i tk,u] }) e it ((i:Int)+1) old:=Ae _ W;generalize h:G.push { cls:=.type "tuple",data:=.seq #[.int i tk,u] }=F at f;have X:G.objs.size=hp.objs.size:=by rw[D.1,C.1,j.1]
 have a9:=Al he;have Y:F.get? hp.objs.size=some { cls:=.type "tuple",data:=.seq #[.int i tk,u] }:=by rw[<- h,<- X];exact An _ rfl
 have Z:F.objs.size=hp.objs.size+1:=by rw[<- h,Gd,X]
 have a0:∀b o,b≠e->b≠it->hp.get? b=some o->F.get? b=some o:=λb o I a1 hb=>by
  rw[<- h];exact Ae _ (D.extBut b o I (C.extBut b o I (j.extBut b o a1 hb)))
 have R:st (i+1) F:=S.keep _ _ _ T λo y=>by
  rw[<- h];exact Ae _ (D.extBut it o P.symm (C.extBut it o P.symm y))
 rw[X];refine Ac ?_;refine Ac (Bs f rfl rfl (Ad ?_));refine Ac (Hd ?_);refine Ac (Bs f rfl rfl ?_);refine Ac (Dl f (by simp) λb2 a2 L=>?_);refine Ac ?_;refine Ac (Dl a2 (by simp) λb3 a3 M=>?_);refine Dl a3 (by simp) λa5 a4 O=>?_;have up:=λb o hb y=>O.extBut b o hb (M.extBut b o hb (L.extBut b o hb y));refine Ac (Oz (Ad ⟨_,rfl,hQ u x a5 tk rx yx a4 (S.keep _ _ _ R λo y=>up _ o P.symm y) (up _ _ (Ex a9) Y) ?_ λb o I a1 hb=>up b o I (a0 b o I a1 hb)⟩));rw[O.1,M.1,L.1,Z]
end
noncomputable def Ite(J:It):It:=⟨λi H=>J.go i H,λi H x H'=>∃T y,H T=none/\J.yld i H y H/\x=.ref T/\H'=upd H T (.tup [.int i,y]),λi H=>J.stop i H⟩
def z8v{K:Ah}{st:Nat->Heap->Prop}(G:e≠it)(S:Srce P w K J it st):
  Turn P w K (.Tuple elts kk pos) (Ite J) [e,it] e (λi h=>(∃f,IsEnum h e it i f)/\st i h) where
 mem:=by simp
 obj:=λi h B b M=>by
  obtain⟨⟨f,j⟩,C⟩:=B;simp only[Az,Fl,or_false] at M;rcases M with rfl|rfl
  ·grind
  ·exact S.obj i h C
 keep:=λi h h' B k=>by
  obtain⟨⟨f,j⟩,C⟩:=B;exact⟨⟨f,k e (by simp) _ j⟩,S.keep _ _ _ C λo y=>k it (by simp) o y⟩
 item:=by
  intro X Q R T U i v s W H E I D B Y;subst Q R T;obtain⟨⟨f,j⟩,C⟩:=B;have L:s.TypeIs (.ref e) "enumerate" := ⟨_,j,rfl⟩
  refine Ac (Eh (Cg L Jp
   (By Jp L Sb
    (z6x S (I.ok.hd U) I.vw (D it (by simp)).1 ((D it (by simp)).noK I) j C Y G λu x h' tk rx yx a1 a2 a3 a4 a5=>Ad ?_) (Rh _))))
  refine⟨_,rfl,?_⟩;refine wpAny_letOwnedTupleGo_enum a1 λO Z F=>?_;have k2:∀c o,c∉[e,it]->s.heap.get? c=some o->O.get? c=some o:=λc o g y=>by
   simp only[Az,Fl,or_false,not_or] at g;exact F.extBut _ _ g.1 (a5 c o g.1 g.2 y)
  have a0:=Al j;have b1:it<s.heap.objs.size:=by obtain⟨o,y,_⟩:=S.obj _ _ C;exact Al y
  have I1:Inv X v W H { s with heap:=O,toks:=tk+1 }:=I.turnedL k2 D;have FT:=I.fpOk (Ai _) I.fresh;have a6:O.get? s.heap.objs.size=some { cls:=.type "tuple",data:=.seq #[.int i tk,u] }:=F.extBut _ _ (Ex a0) a3;have I2:Inv X v W (upd H s.heap.objs.size (.tup [.int i,x])) { s with heap:=O,toks:=tk+1 } :=
   I1.track I.sz FT ⟨by show 2<=sizeLine;decide,[.int i tk,u],.cons ⟨_,rfl⟩ (.cons rx .nil),⟨_,a6,rfl,_,rfl⟩⟩
  refine⟨.ref s.heap.objs.size,_,I2,rfl,⟨_,x,I.fresh,yx,rfl,rfl⟩,⟨⟨u,by simpa using Z⟩,S.keep _ _ _ a2 λo y=>F.extBut _ _ G.symm y⟩,λb M=>?_⟩;have a7:=(D b M).1;rw[q0f]
  ·exact a7
  ·grind
 done:=by
  intro X Q R T U i v s W H E I D B Y;subst Q R T;obtain⟨⟨f,j⟩,C⟩:=B;have L:s.TypeIs (.ref e) "enumerate" := ⟨_,j,rfl⟩
  refine Ac (Eh (Cg L Jp
   (By Jp L Sb ?_ (Rh _))))
  show wpAny _ _ (field (.ref e) 2 >>= _) _ _ _;refine Ac (Bs j rfl rfl ?_);refine Ac (S.done _ i _ H _ _ (I.ok.hd U) I.vw (D it (by simp)).1 ((D it (by simp)).noK I) C Y λh' x a8 a9=>?_);obtain⟨o,ho,b0⟩:=a9;refine Ac (Fz ⟨o,ho,b0⟩ Lu ?_);refine Ad ⟨rfl,I.turnedL (t':=s.toks) (λc o g y=>?_) D⟩;simp only[Az,Fl,or_false,not_or] at g;exact a8 c o g.2 y
 self:=λ_ _ _ _ _ B h=>by
  obtain⟨⟨f,j⟩,_⟩:=B;exact Vv j h
section
variable{X:Cx}{elts:List Expr}{kk:Nat}{tpos:Pos}
def z1u{f:St}{st:Nat->Heap->Prop}(I:Inv X pins f H s)(S:Srce X.prog X.w X.K J s.heap.objs.size st)(g:IsEnum h' (s.heap.objs.size+1) s.heap.objs.size 0 .none)(j:st 0 h')(hk:∀c o,s.heap.get? c=some o->h'.get? c=some o)(q:R (Ite J) H):
  wpAny (model X.prog X.w) X.A (Ml (.ref (s.heap.objs.size+1))) (PIE X pins f (.Tuple elts kk tpos) R) E { s with heap:=h' }:=by
 refine Vv g ?_;refine⟨_,_,_,_,H,rfl,I.kept (t':=s.toks) hk,z8v (show(s.heap.objs.size+1:Nat)≠s.heap.objs.size by lia) S,⟨⟨_,g⟩,j⟩,λb h=>?_,q⟩;have hb':s.heap.objs.size<=b:=by
  simp only[Az,Fl,or_false] at h;rcases h with rfl|rfl
  ·exact Ii _
  ·exact Ai _
 exact I.fpOk hb' (I.hok.fresh hb')
noncomputable def iEnum(K:Ah)(ta:TA):TI:=λσ H R=>ta σ H λvs H1=>(∃z,vs=[.str z]/\R (Ite (Its z)) H1)\/∃a xs,vs=[.ref a]/\SqL K H1 a xs/\R (Ite (Itl K a)) H1
def x6e(B:Gl X "enumerate")(C:X.mg "enumerate" = none)(ha:PA X [a] ta)(D:Bc [a] X.env=[(false,eval a X.env)]:=by rfl):
  PI X (.Tuple elts kk tpos) (.Call (.Name "enumerate" p) [a] [] pos) (iEnum X.K ta):=by
 intro f s E H R I h;refine Call_ (q4z I B C (by decide +kernel:Gi "enumerate" = some (.type "enumerate")) (Ed (thn (ha pos f s E H _ I h) λQ S F=>?_) D rfl));obtain⟨vs,T,g,v,G⟩:=F;rcases G with⟨z,e,q⟩|⟨l,U,e,J,q⟩
 ·subst e;obtain⟨u,rfl,t,rfl⟩:=vals1 v;exact call_enumerate_str λL j o M hk=>z1u g (q9w _ z t) j o hk q
 ·subst e;obtain⟨u,rfl,r⟩:=vals1 v;cases r;obtain⟨O,W,P,_⟩:=g.list J;exact call_enumerate_list P.isList λL j o M hk=>z1u g (q7l l _) j o hk q
def q8w{a:Expr}{g:TA}{p f:Pos}(K:Ah)(h:X.K=K)(j:Gl X "enumerate")(o:X.mg "enumerate" = none)(ha:PA X [a] g)(s:Bc [a] X.env=[(false,eval a X.env)]:=by rfl):
  PI X (.Tuple elts kk tpos) (.Call (.Name "enumerate" p) [a] [] f) (iEnum K g):=by subst h;exact x6e j o ha s
def q7n{g:TG}{tb:TS}{D:Ends}(o:Nat->St->Hp->Prop)(C:o 0 f H)(E:∀i c T f H,z.cps[i]?=some c->o i f H->H T=none->g (.ref T) f (upd H T (.tup [.int i,.str ⟨#[c]⟩])) λj u=>tb { D with nx:=o (i+1),ct:=o (i+1),bk:=D.nx } j u)(hd:∀f H,o z.length f H->D.nx f H):
  ∃W:Nat->Nat->St->Hp->Prop,(∃m,W 0 m f H)/\∀i m f H,W i m f H ->
   ((Ite (Its z)).stop i H/\D.nx f H)\/((Ite (Its z)).go i H/\∃N:St->Hp->Prop,(∀s H',N s H'->∃B,B<m/\W (i+1) B s H')/\∀v H',(Ite (Its z)).yld i H v H'->g v f H' λj u=>tb { D with nx:=N,ct:=N,bk:=D.nx } j u):=by
 refine z1s o C (λi f H h _=>h) (λf H _=>Ai _) (λi v f H H' h p F=>?_) hd;obtain⟨T,y,G,⟨_,c,I,rfl⟩,rfl,rfl⟩:=F;exact E i c T f H I p G
end
end L2
namespace K
open PySem L2 TX
noncomputable def NSs:Str:=Ab "abcdefghijklmnopqrstuvwxyzABCDEFGHIJKLMNOPQRSTUVWXYZ0123456789-_."
noncomputable def GSs:Str:=Ab "?*#@"
noncomputable abbrev NS:List Nat:=tl NSs
noncomputable abbrev GS:List Nat:=tl GSs
def x2o:∀c∈NS,c<128:=by trivial
inductive Pt where
 |tx (l:List Nat)
 |gp (c:Nat)
namespace Pt
noncomputable def fl:Pt->List Nat
 |tx l=>l
 |gp c=>[c]
noncomputable def isG:Pt->Bool
 |tx _=>false
 |gp _=>true
noncomputable def ok:Pt->Prop
 |tx l=>l≠[]/\∀c∈l,c∈NS
 |gp c=>c∈GS
noncomputable def word:Pt->Str
 |tx _=>Ab "text"
 |gp _=>Ab "gap"
noncomputable def vs(p:Pt):List V:=[.str p.word,.str (mk p.fl)]
end Pt
noncomputable def gaps(ps:List Pt):Nat:=(ps.filter Pt.isG).length
noncomputable def tp(t:List Nat):List Pt:=if t=[] then[] else[.tx t]
noncomputable def parse(cur:List Nat):List Nat->List Pt
 |[]=>tp cur
 |c::r=>if c∈GS then tp cur++.gp c::parse [] r else parse (cur++[c]) r
structure Good (l:List Nat):Prop where
 ne:l≠[]
 sg:∀c∈l,c∈GS\/c∈NS
 gp:(l.filter λc=>decide (c∈GS)).length<=9
 len:l.length<=1000
noncomputable def TKeep(H H':Hp):Prop:=∀T xs,H T=some (.tup xs)->H' T=some (.tup xs)
noncomputable abbrev Tups(H:Hp):List Addr->List Pt->Prop:=Hw λT p=>H T=some (.tup p.vs)
structure HL (H:Hp) (L:Addr) (ps:List Pt):Prop where
 ex:∃Ts:List Addr,H L=some (.lst (Ts.map V.ref))/\Tups H Ts ps
def Tups.keep{H H':Hp}(k:TKeep H H'){f:List Addr}{ps:List Pt}(h:Tups H f ps):Tups H' f ps:=by
 induction h with
 |nil=>exact .nil
 |cons r _ ih=>exact .cons (k _ _ r) ih
def Tups.len(h:Tups H Ts ps):Ts.length=ps.length:=Ht h
def Tups.app{H:Hp}{f g:List Addr}{ps qs:List Pt}(h:Tups H f ps)(u:Tups H g qs):Tups H (f++g) (ps++qs):=by
 induction h with
 |nil=>exact u
 |cons r _ ih=>exact .cons r ih
def Tups.get{f:List Addr}{ps:List Pt}{i:Nat}{x:V}(h:Tups H f ps)(e:(f.map V.ref)[i]?=some x):∃T p,x=.ref T/\ps[i]?=some p/\H T=some (.tup p.vs):=by
 induction h generalizing i with
 |nil=>simp at e
 |cons r _ ih =>
  cases i with
  |zero=>cases e;exact⟨_,_,rfl,rfl,r⟩
  |succ i=>exact ih e
def TKeep.refl(H:Hp):TKeep H H:=λ_ _ h=>h
def TKeep.lst{H H':Hp}{p:Addr}{ys zs:List V}(k:TKeep H H')(h:H' p=some (.lst ys)):TKeep H (upd H' p (.lst zs)):=λT f e=>by
 rw[q0f (x1v (k T f e) h (by intro z;cases z))];exact k T f e
def Same.tk(s:Same H H'):TKeep H H':=λT f e=>s _ _ e
def HL.same(h:HL H L ps)(s:Same H H'):HL H' L ps:=by
 obtain⟨f,g,j⟩:=h.ex;exact⟨f,s _ _ g,j.keep (Same.tk s)⟩
def HL.new(h:HL H L ps)(f:H p=none):HL (upd H p o) L ps:=h.same ((Same.refl H).new f)
def HL.sq(h:HL H L ps):∃xs,SqL K H L xs:=by obtain⟨g,f,_⟩:=h.ex;exact⟨_,SqL.of f⟩
def x2p(f:List Addr)(T:Addr):atI ((f++[T]).map V.ref) (-1)=some (.ref T):=by
 unfold atI ixN;rw[if_neg (by decide),if_pos (by simp;lia)];have e:(-1+(((f++[T]).map V.ref).length:Int)).toNat=f.length:=by simp;lia
 rw[e];simp
def x2q(h:∀c∈l,c<128):Dm (mk l)=true:=by
 unfold Dm;rw[Array.all_eq_true'];intro c f;have:=h c (by simpa[mk] using f);simp;lia
end K
namespace L2
open PySem PySem.Spec PyProof.Rows
section
variable{κ:Type}[DecidableEq κ]
noncomputable def valV(kvs:List (κ×V))(k:κ):Option V:=(kvs.find? λkv=>decide (kv.1=k)).map (·.2)
noncomputable def putK(kvs:List (κ×V))(k:κ)(v:V):List (κ×V) :=
 if (kvs.any λkv=>decide (kv.1=k))=true then kvs.map (λkv=>if kv.1=k then(kv.1,v) else kv) else kvs++[(k,v)]
def q1l{p:κ×V}(e:p.1=k):valV (p::r) k=some p.2:=by simp[valV,Ca,e]
def q1i{p:κ×V}(e:¬p.1=k):valV (p::r) k=valV r k:=by simp[valV,Ca,e]
theorem q5i(k:κ):∀kvs:List (κ×V),(kvs.any λf=>decide (f.1=k))=(valV kvs k).isSome
 |[]=>rfl
 |p::r=>by
  rw[Kj];by_cases e:p.1=k
  ·simp only[q1l e,decide_eq_true e,Bool.true_or,Option.isSome_some]
  ·rw[q1i e,decide_eq_false e,Bool.false_or];exact q5i k r
theorem z5m(k j:κ)(y:V):∀kvs:List (κ×V),valV (kvs.map λf=>if f.1=k then(f.1,y) else f) j=(valV kvs j).map λx=>if j=k then y else x
 |[]=>rfl
 |p::r=>by
  have g:=z5m k j y r;rw[Ar];by_cases h:p.1=k
  ·rw[if_pos h];by_cases e:p.1=j
   ·rw[q1l (p:=(p.1,y)) e,q1l e,Nw,if_pos (e.symm.trans h)]
   ·rw[q1i (p:=(p.1,y)) e,q1i e,g]
  ·rw[if_neg h];by_cases e:p.1=j
   ·rw[q1l e,q1l e,Nw,if_neg (λz=>h (e.trans z))]
   ·rw[q1i e,q1i e,g]
theorem z1v(k j:κ)(y:V):∀kvs:List (κ×V),valV kvs k=none->valV (kvs++[(k,y)]) j=if j=k then some y else valV kvs j
 |[],_=>by
  by_cases e:k=j
  ·rw[if_pos e.symm];exact q1l (p:=(k,y)) e
  ·rw[if_neg (λz=>e z.symm)];exact q1i (p:=(k,y)) e
 |p::r,hn=>by
  rw[Wr];have hk:¬p.1=k:=λz=>by rw[q1l z] at hn;cases hn
  rw[q1i hk] at hn;have f:=z1v k j y r hn;by_cases e:p.1=j
  ·rw[q1l e,q1l e,if_neg (λz=>hk (e.trans z))]
  ·rw[q1i e,q1i e,f]
def z5n(kvs:List (κ×V))(k j:κ)(y:V):valV (putK kvs k y) j=if j=k then some y else valV kvs j:=by
 unfold putK;by_cases a:(kvs.any λf=>decide (f.1=k))=true
 ·rw[if_pos a,z5m];rw[q5i] at a;by_cases e:j=k
  ·obtain⟨x,g⟩:=Ik.mp a;rw[if_pos e,e,g,Nw,if_pos rfl]
  ·simp_all
 ·rw[if_neg a];refine z1v k j y kvs ?_;rw[q5i] at a;cases q:valV kvs k with
  |none=>rfl
  |some x=>grind
def q1w(kvs:List (κ×V))(k:κ)(v:V):(putK kvs k v).length<=kvs.length+1:=by
 unfold putK;split
 ·grind
 ·grind
def x2r{kvs:List (κ×V)}(v:V)(h:valV kvs k=none):putK kvs k v=kvs++[(k,v)]:=by
 unfold putK;rw[q5i,h];exact if_neg (by decide)
def RelO.isSome_eq(r:RelO o u):o.isSome=u.isSome:=by
 cases o with
 |none=>cases u with
  |none=>rfl
  |some _=>exact(show False from r).elim
 |some _=>cases u with
  |none=>exact(show False from r).elim
  |some _=>rfl
def KV.val(r:KV kvs vs)(k:κ):RelO (valV kvs k) (valueAt vs k):=by
 induction r with
 |nil=>exact True.intro
 | @cons p q ps qs h t ih =>
  obtain⟨f,g⟩:=h;by_cases e:p.1=k
  ·have e':q.1=k:=f.symm.trans e;have b:valueAt (q::qs) k=some q.2:=by simp[valueAt,Ca,e']
   rw[q1l e,b];exact g
  ·have e':¬q.1=k:=λz=>e (f.trans z);have b:valueAt (q::qs) k=valueAt qs k:=by simp[valueAt,Ca,e']
   rw[q1i e,b];exact ih
def KV.any(r:KV kvs vs)(k:κ):(kvs.any λf=>decide (f.1=k))=vs.any λf=>decide (f.1=k):=by
 induction r with
 |nil=>rfl
 |cons h t ih=>simp_all
def KV.repl(r:KV kvs vs)(k:κ)(g:RelV y u):
  KV (kvs.map λf=>if f.1=k then(f.1,y) else f) (vs.map λf=>if f.1=k then(f.1,u) else f):=by
 induction r with
 |nil=>exact .nil
 | @cons p q ps qs h t ih =>
  refine .cons ?_ ih;by_cases e:p.1=k
  ·simp_all
  ·simp_all
def KV.put(r:KV kvs vs)(k:κ)(f:RelV y u):KV (putK kvs k y) (stored vs k u):=by
 unfold putK stored;rw[r.any k];by_cases e:(vs.any λg=>decide (g.1=k))=true
 ·rw[if_pos e,if_pos e];exact r.repl k f
 ·rw[if_neg e,if_neg e];exact Wh r ⟨rfl,f⟩
def KV.length{kvs:List (κ×V)}(r:KV kvs vs):kvs.length=vs.length:=Ht r
end
def z1w(r:RelV (kV k) u):(mixKind P w).is k u=true:=by
 cases k with
 |inl i=>obtain⟨t,e⟩:=(show ∃t,u=Value.int i t from r);subst e;exact z3r P w i t
 |inr x=>obtain⟨t,e⟩:=(show ∃t,u=Value.str x t from r);subst e;exact z3s P w x t
theorem z1x{P:Ak}{w:World}:∀{ks:List Key} {us:List Value},Vals (ks.map kV) us->ItemsAre (mixKind P w) ks us
 |[],_,r=>by rw[List.map_nil] at r;cases r;exact .nil
 |k::ks,_,r=>by
  rw[Ar] at r;cases r with
  |cons h t=>exact .cons (z1w h) (z1x t)
noncomputable abbrev KT(H:Hp):List (List Key×V)->List (List Key×Addr×Value)->Prop:=Hw λp q=>p.1=q.1/\H q.2.1=some (.tup (p.1.map kV))/\RelV p.2 q.2.2
def KT.val(r:KT H kvs xs)(k:List Key):RelO (valV kvs k) ((atKey xs k).map (·.2)):=by
 induction r with
 |nil=>exact True.intro
 | @cons p q ps qs h t ih =>
  obtain⟨f,_,g⟩:=h;by_cases e:p.1=k
  ·have e':q.1=k:=f.symm.trans e;have b:atKey (q::qs) k=some q.2:=by simp[atKey,Ca,e']
   rw[q1l e,b];exact g
  ·have e':¬q.1=k:=λz=>e (f.trans z);have b:atKey (q::qs) k=atKey qs k:=by simp[atKey,Ca,e']
   rw[q1i e,b];exact ih
def KT.repl(r:KT H kvs xs)(k:List Key)(g:RelV y u):
  KT H (kvs.map λf=>if f.1=k then(f.1,y) else f) (xs.map (putAt k u)):=by
 induction r with
 |nil=>exact .nil
 | @cons p q ps qs h t ih =>
  refine .cons ?_ ih;unfold putAt;by_cases e:p.1=k
  ·simp_all
  ·simp_all
def KT.put(r:KT H kvs xs)(k:List Key)(g:H b=some (.tup (k.map kV)))(f:RelV y u):
  KT H (putK kvs k y) (storedH xs k b u):=by
 have e:(kvs.any λh=>decide (h.1=k))=(atKey xs k).isSome:=by
  rw[q5i,(r.val k).isSome_eq,Me]
 unfold putK storedH;rw[e];by_cases q:(atKey xs k).isSome=true
 ·rw[if_pos q,if_pos q];exact r.repl k f
 ·rw[if_neg q,if_neg q];exact Wh r ⟨rfl,g,f⟩
def KT.keeps(r:KT H kvs xs)(f:∀b ys,H b=some (.tup ys)->H' b=some (.tup ys)):KT H' kvs xs :=
 Hw.mapP r λ_ _ z=>⟨z.1,f _ _ z.2.1,z.2.2⟩
section
variable{P:Ak}{w:World}{H:Hp}{h:Heap}{a:Addr}
def rd_of(ok:HOk P w H h)(e:Rd H a u):ObjOk P w H h a u:=e.ok ok
def z8w(ok:HOk P w H h)(e:Rd H a (.dK kvs)):kvs.length<=sizeLine/\(a==Dp)=false/\∃vs,KV kvs vs/\h.DictOf (mixKind P w) a vs :=
 show ObjOk P w H h a (.dK kvs) from rd_of ok e
def dk_of(ok:HOk P w H h)(e:H a=some (.dK kvs)):kvs.length<=sizeLine/\(a==Dp)=false/\∃vs,KV kvs vs/\h.DictOf (mixKind P w) a vs:=z8w ok (.inl e)
def q7o(ok:HOk P w H h)(e:H a=some (.tup (ks.map kV))):(Ky (mixKind P w)).is h ks a:=by
 obtain⟨_,f,r,o,g,j,n,s⟩:=(show ObjOk P w H h a (.tup (ks.map kV)) from ok a _ e)
 exact⟨o,f.toArray,n,g,j,s,by simpa using z1x r⟩
def z8x(ok:HOk P w H h)(e:Rd H a (.dT kvs)):kvs.length<=sizeLine/\(a==Dp)=false /\
  ∃xs,KT H kvs xs/\h.DictOfH (Ky (mixKind P w)) a xs:=by
 obtain⟨z,y,xs,r,o,g,j,s,u,v,B,C⟩:=(show ObjOk P w H h a (.dT kvs) from rd_of ok e)
 refine⟨z,y,xs,r,o,g,j,s,u,v,B,λx f=>?_,C⟩;have all:∀{l:List (List Key×V)} {m:List (List Key×Addr×Value)},KT H l m->∀x∈m,(Ky (mixKind P w)).is h x.1 x.2.1:=by
  intro l m q;induction q with
  |nil=>grind
  | @cons p q ps qs hq t ih =>
   intro x f;rcases Az.mp f with e|f
   ·subst e;exact q7o ok (by rw[<- hq.1];exact hq.2.1)
   ·exact ih x f
 exact all r x f
def dt_of(ok:HOk P w H h)(e:H a=some (.dT kvs)):kvs.length<=sizeLine/\(a==Dp)=false /\
  ∃xs,KT H kvs xs/\h.DictOfH (Ky (mixKind P w)) a xs:=z8x ok (.inl e)
end
noncomputable def DGet(H:Hp)(a:Addr)(y:V)(r:Option V):Prop :=
 (∃kvs k,Rd H a (.dK kvs)/\y=kV k/\r=valV kvs k)\/∃kvs k b,Rd H a (.dT kvs)/\y=.ref b/\H b=some (.tup (k.map kV))/\r=valV kvs k
noncomputable def DPut(H:Hp)(a:Addr)(y v:V)(H':Hp):Prop :=
 (∃kvs k,H a=some (.dK kvs)/\y=kV k/\kvs.length<sizeLine/\H'=upd H a (.dK (putK kvs k v))) \/
 ∃kvs k b,H a=some (.dT kvs)/\y=.ref b/\H b=some (.tup (k.map kV))/\kvs.length<sizeLine/\H'=upd H a (.dT (putK kvs k v))
def DGet.k{k:Key}(e:H a=some (.dK kvs)):DGet H a (kV k) (valV kvs k):=.inl ⟨kvs,k,.inl e,rfl,rfl⟩
def DGet.t{k:List Key}(e:H a=some (.dT kvs))(f:H b=some (.tup (k.map kV))):DGet H a (.ref b) (valV kvs k):=.inr ⟨kvs,k,b,.inl e,rfl,f,rfl⟩
def DPut.k{k:Key}(e:H a=some (.dK kvs))(hl:kvs.length<sizeLine):DPut H a (kV k) v (upd H a (.dK (putK kvs k v))):=.inl ⟨kvs,k,e,rfl,hl,rfl⟩
def DPut.t{k:List Key}(e:H a=some (.dT kvs))(f:H b=some (.tup (k.map kV)))(hl:kvs.length<sizeLine):
  DPut H a (.ref b) v (upd H a (.dT (putK kvs k v))):=.inr ⟨kvs,k,b,e,rfl,f,hl,rfl⟩
section
variable{X:Cx}{pins:List (Addr×Obj)}{σ:St}{H:Hp}{s:Ag}{a:Addr}{y v:V}{u r:Value}{o:Option V}{A:Around}{E:Value->Ag->Prop}
def Inv.big(I:Inv X pins σ H s):Dp<s.heap.objs.size:=by
 have h:=(I.mod.glob.keeps I.bk).lt;exact Nat.lt_trans (by decide) h
def z8y(J:A.units+1<cLine)(I:Inv X pins σ H s)(g:DGet H a y (some v))(G:RelV y u)(h:∀o s',Inv X pins σ H s'->RelV v o->Q o s'):
  wpAny (model X.prog X.w) A (getItem (.ref a) u) Q E s:=by
 rcases g with⟨B,k,e,C,l⟩|⟨B,k,b,e,C,L,l⟩
 ·subst C;obtain⟨z,hd,vs,f,dd⟩:=z8w I.hok e;obtain⟨o,D,j⟩:=RelO.some_of (by rw[l];exact f.val k);exact wpAny_getItem_of (z1w G) dd.mapOf D (h o _ (I.tok _) j)
 ·subst C;cases(show u=Value.ref b from G);obtain⟨z,hd,O,f,dd⟩:=z8x I.hok e;obtain⟨o,D,j⟩:=RelO.some_of (by rw[l];exact f.val k);obtain⟨p,M,F⟩:=Ck.mp D;refine wpAny_getItem_heap (Hj J) (q7o I.hok L) dd M ?_;rw[F];exact h o _ (I.tok _) j
def d_in(C:A.units+1<cLine)(I:Inv X pins σ H s)(g:DGet H a y o)(B:RelV y u)(h:∀s',Inv X pins σ H s'->Q (.bool o.isSome) s'):
  wpAny (model X.prog X.w) A (Cj .In u (.ref a)) Q E s:=by
 rcases g with⟨j,k,e,v,l⟩|⟨j,k,b,e,v,D,l⟩
 ·subst v;obtain⟨z,hd,vs,f,dd⟩:=z8w I.hok e;refine wpAny_in_of (z1w B) hd dd.mapOf ?_;rw[<- (f.val k).isSome_eq,<- l];exact h _ (I.tok _)
 ·subst v;cases(show u=Value.ref b from B);obtain⟨z,hd,F,f,dd⟩:=z8x I.hok e;refine wpAny_in_heap (Hj C) (q7o I.hok D) hd dd ?_;have q:=(f.val k).isSome_eq;rw[Me] at q;rw[<- q,<- l];exact h _ (I.tok _)
def x6f(C:A.units+1<cLine)(I:Inv X pins σ H s)(g:DGet H a y o)(B:RelV y u)(h:∀s',Inv X pins σ H s'->Q (.bool (!o.isSome)) s'):
  wpAny (model X.prog X.w) A (Cj .NotIn u (.ref a)) Q E s:=by
 rcases g with⟨j,k,e,v,l⟩|⟨j,k,b,e,v,D,l⟩
 ·subst v;obtain⟨z,hd,vs,f,dd⟩:=z8w I.hok e;refine wpAny_notIn_of (z1w B) hd dd.mapOf ?_;rw[<- (f.val k).isSome_eq,<- l];exact h _ (I.tok _)
 ·subst v;cases(show u=Value.ref b from B);obtain⟨z,hd,F,f,dd⟩:=z8x I.hok e;refine wpAny_notIn_heap (Hj C) (q7o I.hok D) hd dd ?_;have q:=(f.val k).isSome_eq;rw[Me] at q;rw[<- q,<- l];exact h _ (I.tok _)
def q9y(I:Inv X pins σ H s)(f:Mut (H a))(g:Fx a s.heap h')(h:∃q,h'.get? a=some q)(new:ObjOk X.prog X.w (upd H a ob) h' a ob):
  Inv X pins σ (upd H a ob) { s with heap:=h',toks:=t' } :=
 I.write f (.inl rfl) (λb q j z=>(g.2 b j).trans z) h new
def x4t(z:kvs.length<=sizeLine)(hd:(a==Dp)=false)(f:KV kvs vs)(dd:h'.DictOf (mixKind P w) a vs):
  ObjOk P w H' h' a (.dK kvs):=⟨z,hd,vs,f,dd⟩
def z8z(P:A.units+1<cLine)(I:Inv X pins σ H s)(g:DPut H a y v H')(G:RelV y u)(J:RelV v r)(h:∀s',Inv X pins σ H' s'->Q () s'):
  wpAny (model X.prog X.w) A (setItem (.ref a) u r) Q E s:=by
 rcases g with⟨f,k,e,C,l,D⟩|⟨f,k,b,e,C,L,l,D⟩
 ·subst C D;obtain⟨z,hd,vs,j,dd⟩:=dk_of I.hok e;have R:vs.length<=sizeLine:=by rw[<- j.length];exact z
  have hl:(putK f k v).length<=sizeLine:=by have:=q1w f k v;lia
  refine wpAny_setItem_pairs (z1w G) dd λM o F=>h _ ?_;have S:∃q,M.get? a=some q:=let ⟨q,_,_,B,_⟩:=o;⟨q,B⟩;exact q9y I (by rw[e];exact True.intro) F S (x4t hl hd (j.put k J) o)
 ·subst C D;cases(show u=Value.ref b from G);obtain⟨z,hd,T,j,dd⟩:=dt_of I.hok e;have R:T.length<=sizeLine:=by rw[<- Ht j];exact z
  have hl:(putK f k v).length<=sizeLine:=by have:=q1w f k v;lia
  refine Ph (Hj P) (q7o I.hok L) dd λM o F=>h _ ?_;obtain⟨q,U,W,B,Y,Z,h4,_,h5⟩:=o;refine q9y I (by rw[e];exact True.intro) F ⟨q,B⟩ ⟨hl,hd,_,(j.put k L J).keeps λc ys O=>?_,q,U,W,B,Y,Z,h4,h5⟩;rw[q0f (x1v O e (λz=>nomatch z))];exact O
end
noncomputable def NoSl(i:Expr):Prop:=∀ov iv,Rx i false ov iv=operate [ov,iv] (getItem ov iv)
def z9a{id:String}(hl:Qk (.type T) "__getitem__" = pure (some (.builtin id)))(D:NoSl slice)(h:wpAny (model prog w) A (eval value env) (λo j=>wpAny (model prog w) A (eval slice env) (λi f=>f.TypeIs o T/\wpAny (model prog w) A (getItem o i) Q E f) E j) E s):
  wpAny (model prog w) A (eval (.Subscript value slice pos) env) Q E s:=by
 refine Xe (Cb h (λo j B=>Cb B (λi f g=>?_) λ_ _ x=>x) λ_ _ x=>x);obtain⟨F,g⟩:=g;refine Ac ?_;refine Ac (Kt F hl ?_);have v:wpAny (model prog w) A (Rx slice false o i) (λr u=>wpAny (model prog w) A (letTemporaryGo value o r >>= λ_=>pure r) Q E u) E f:=by
  rw[D o i];exact wpAny_operating (Cb g (λr u C=>Ac (wpAny_letTemporaryGo (Ad C))) λ_ _ x=>x)
 first
  |exact Ad (Ac v)
  |exact Ac (Ad (Ac v))
  |exact Ac v
def z4d{h:St}(I:Inv X pins h H s)(g:DGet H a y o):s.TypeIs (.ref a) "dict" := by
 rcases g with⟨f,k,e,_,_⟩|⟨f,k,b,e,_,_,_⟩
 ·obtain⟨_,_,vs,_,dd⟩:=z8w I.hok e;exact dd.typeIs
 ·obtain⟨_,_,j,_,dd⟩:=z8x I.hok e;exact dd.typeIs
noncomputable def tDGet(td ty:TE):TE:=λσ H Q=>td σ H λx H1=>ty σ H1 λy H2=>∃a v,x=.ref a/\DGet H2 a y (some v)/\Q v H2
noncomputable def tDIn(ty td:TE):TE:=λσ H Q=>ty σ H λy H1=>td σ H1 λx H2=>∃a o,x=.ref a/\DGet H2 a y o/\Q (.bl o.isSome) H2
noncomputable def tDNotIn(ty td:TE):TE:=λσ H Q=>ty σ H λy H1=>td σ H1 λx H2=>∃a o,x=.ref a/\DGet H2 a y o/\Q (.bl (!o.isSome)) H2
noncomputable def sDPut(td ty tv:TE):TS:=λD σ H=>tv σ H λv H1=>td σ H1 λx H2=>ty σ H2 λy H3=>∃a H4,x=.ref a/\DPut H3 a y v H4/\D.nx σ H4
section
variable{X:Cx}{o i e value:Expr}{pos pos' tpos:Pos}{td ty tv:TE}
def z9b(D:X.A.units+1<cLine)(E:PE X o td)(F:PE X i ty)(G:NoSl i):PE X (.Subscript o i pos) (tDGet td ty):=by
 intro f s B H Q I h;refine z9a Qm.lookup G (thnE (E f s B H _ I h) λu J x L M O P=>thnE (F f J B L _ M P) λY Z y R C S T=>?_);obtain⟨a,v,ex,g,U⟩:=T;subst ex;obtain rfl:u=Value.ref a:=O;exact⟨z4d C g,z8y D C g S λw' s3 W j=>⟨v,R,W,j,U⟩⟩
def x4u(v:X.A.units+1<cLine)(B:PE X i ty)(C:PE X o td):PC X .In i o (tDIn ty td):=by
 intro f s j H Q I h;refine thnE (B f s j H _ I h) λU D y E F G J=>thnE (C f D j E _ F J) λu W x L M O P=>?_;obtain⟨a,R,ex,g,S⟩:=P;subst ex;obtain rfl:u=Value.ref a:=O;exact d_in v M g G λY T=>⟨.bl R.isSome,L,T,rfl,S⟩
def z1y(v:X.A.units+1<cLine)(B:PE X i ty)(C:PE X o td):PC X .NotIn i o (tDNotIn ty td):=by
 intro f s j H Q I h;refine thnE (B f s j H _ I h) λU D y E F G J=>thnE (C f D j E _ F J) λu W x L M O P=>?_;obtain⟨a,R,ex,g,S⟩:=P;subst ex;obtain rfl:u=Value.ref a:=O;exact x6f v M g G λY T=>⟨.bl (!R.isSome),L,T,rfl,S⟩
def z9c(B:X.A.units+1<cLine)(C:PE X o td)(E:PE X i ty)(F:PE X value tv)(G:Jb value (some (.Subscript o i pos')) pos.line X.env=pure false):
  PS X (.Assign [.Subscript o i pos'] value pos) (sDPut td ty tv):=by
 intro f s j H D I h;refine Ms (thnE (F f s j H _ I h) λr J v L M O P=>thnE (C f J j L _ M P) λu Q x R S T U=>thnE (E f Q j R _ S U) λiv s3 y H3 W Y Z=>?_) G;obtain⟨a,H4,ex,g,q3⟩:=Z;subst ex;obtain rfl:u=Value.ref a:=T;exact z8z B W g Y O λs4 I4=>⟨j,H4,I4,q3⟩
end
def z5o(h:Heap)(f:Dp<h.objs.size):ObjOk P w H (h.push { cls:=.type "dict",data:=.dict #[] }) h.objs.size (.dK []) :=
 ⟨Bf _,beq_eq_false_iff_ne.mpr (Bz (Bj f)),[],.nil,Heap.DictOf.new h⟩
def z5p(h:Heap)(f:Dp<h.objs.size):ObjOk P w H (h.push { cls:=.type "dict",data:=.dict #[] }) h.objs.size (.dT []) :=
 ⟨Bf _,beq_eq_false_iff_ne.mpr (Bz (Bj f)),[],.nil,_,#[],0,An _ rfl,⟨rfl,rfl,rfl⟩,rfl,rfl,Sq⟩
noncomputable def tDNewK:TE:=λ_ H Q=>∀p,H p=none->Q (.ref p) (upd H p (.dK []))
noncomputable def tDNewT:TE:=λ_ H Q=>∀p,H p=none->Q (.ref p) (upd H p (.dT []))
section
variable{X:Cx}{pos:Pos}
def x2s:PE X (.Dict [] [] pos) tDNewK:=λf s g H Q I h =>
 Mx ⟨.ref s.heap.objs.size,_,I.laid (t':=s.toks) (λ_ _ q=>Ae _ q) (Ai _) (z5o s.heap I.big),rfl,h _ (I.hok.fresh (Ai _))⟩
def x2t:PE X (.Dict [] [] pos) tDNewT:=λf s g H Q I h =>
 Mx ⟨.ref s.heap.objs.size,_,I.laid (t':=s.toks) (λ_ _ q=>Ae _ q) (Ai _) (z5p s.heap I.big),rfl,h _ (I.hok.fresh (Ai _))⟩
end
noncomputable def tPairs:List (TE×TE)->St->Hp->(List (V×V)->Hp->Prop)->Prop
 |[],_,H,Q=>Q [] H
 |(tk,tv)::r,σ,H,Q=>tk σ H λx H1=>tv σ H1 λy H2=>tPairs r σ H2 λps H3=>Q ((x,y)::ps) H3
noncomputable abbrev VV:List (V×V)->List (Value×Value)->Prop:=Hw λp q=>RelV p.1 q.1/\RelV p.2 q.2
noncomputable def PPs(X:Cx)(pos:Pos)(keys:List (Option Expr))(values:List Expr)(trs:List (TE×TE)):Prop :=
 ∀(pins:List (Addr×Obj)) (s:Ag) (σ:St) (H:Hp) (Q:List (V×V)->Hp->Prop),Inv X pins σ H s->tPairs trs σ H Q ->
  wpAny (model X.prog X.w) X.A (evalPairs (pairTrees keys values X.env pos)) (λvs s'=>∃ps H',Inv X pins σ H' s'/\VV ps vs/\Q ps H') X.xe s
def x6g:PPs X pos [] [] []:=λf s g H Q I h=>pairTrees_nil_walk ⟨[],H,I,.nil,h⟩
def x2u{X:Cx}{g:Pos}{k v:Expr}{ks:List (Option Expr)}{vs:List Expr}{tk C:TE}{j:List (TE×TE)}(hk:PE X k tk)(D:PE X v C)(E:PPs X g ks vs j):
  PPs X g (some k::ks) (v::vs) ((tk,C)::j):=λf s o H Q I h =>
 pairTrees_cons_walk (thnE (hk f s o H _ I h) λu F x G J L M=>thnE (D f F o G _ J M) λw2 O y P R S T =>
  thn (E f O o P _ R T) λws s3 ⟨U,W,Y,B,Z⟩=>⟨(x,y)::U,W,Y,.cons ⟨L,S⟩ B,Z⟩)
noncomputable def mergeK(kvs more:List (Key×V)):List (Key×V):=more.foldl (λacc kv=>putK acc kv.1 kv.2) kvs
def KV.merge:∀{more:List (Key×V)} {rs:List (Key×Value)} {kvs:List (Key×V)} {vs:List (Key×Value)},KV more rs->KV kvs vs->KV (mergeK kvs more) (merged vs rs):=by
 intro more rs kvs vs r;induction r generalizing kvs vs with
 |nil=>intro q;exact q
 | @cons p q ps qs h t ih =>
  intro f;have e:KV (putK kvs p.1 p.2) (stored vs q.1 q.2):=by
   have:=f.put p.1 h.2;rw[<- h.1];exact this
  exact ih e
theorem q5j:∀(more kvs:List (Key×V)),(mergeK kvs more).length<=kvs.length+more.length
 |[],kvs=>by show kvs.length<=kvs.length+0;lia
 |p::r,kvs=>by
  have f:=q5j r (putK kvs p.1 p.2);have g:=q1w kvs p.1 p.2;show(mergeK (putK kvs p.1 p.2) r).length<=_;rw[Be];lia
theorem q8x:∀{kvs:List (Key×V)} {ws:List (Value×Value)},VV (kvs.map λf=>(kV f.1,f.2)) ws->∃rs,Carries (mixKind P w) ws rs/\KV kvs rs
 |[],_,r=>by rw[List.map_nil] at r;cases r;exact⟨[],True.intro,.nil⟩
 |p::kvs,_,r=>by
  rw[Ar] at r;cases r with
  | @cons a b as bs h t =>
   obtain⟨rs,c,q⟩:=q8x (P:=P) (w:=w) t;obtain⟨j,g⟩:=b;exact⟨(p.1,g)::rs,⟨z1w h.1,rfl,c⟩,.cons ⟨rfl,h.2⟩ q⟩
noncomputable def tDisp(trs:List (TE×TE)):TE:=λσ H Q=>∀p,H p=none->tPairs trs σ (upd H p (.dK [])) λps H2=>H2 p=some (.dK [])/\∃kvs:List (Key×V),ps=kvs.map (λkv=>(kV kv.1,kv.2))/\kvs.length<=15/\Q (.ref p) (upd H2 p (.dK (mergeK [] kvs)))
def x6h{X:Cx}{j:Pos}{f:List (Option Expr)}{g:List Expr}{o:List (TE×TE)}(h:PPs X j f g o)(u:f.all (·.isSome)=true)(hl:f.length=g.length)(J:f≠[])(D:f.length<=15):PE X (.Dict f g j) (tDisp o):=by
 intro v s L H Q I q;have hn:=I.hok.fresh (Ai s.heap.objs.size);have M:=I.laid (h':=s.heap.push { cls:=.type "dict",data:=.dict #[] }) (t':=s.toks) (λ_ _ q=>Ae _ q) (Ai _) (z5o s.heap I.big);refine wpAny_Dict_walk (knd:=mixKind X.prog X.w) u hl J D (thn (h v _ L _ _ M (q _ hn)) λws s2 O=>?_);obtain⟨ps,H2,G,E,e,B,P,lk,R⟩:=O;subst P;obtain⟨S,c,rk⟩:=q8x E;obtain⟨z,hd,T,U,dd⟩:=dk_of G.hok e;cases U;refine⟨S,c,dd,λF C W=>⟨.ref s.heap.objs.size,_,?_,rfl,R⟩⟩;have Y:(mergeK [] B).length<=sizeLine:=by
  have Z:=q5j B [];rw[Ho] at Z;rw[Et];lia
 have he:∃q,F.get? s.heap.objs.size=some q:=let ⟨q,_,_,hq,_⟩:=C;⟨q,hq⟩;exact q9y G (by rw[e];exact True.intro) W he (x4t Y hd (rk.merge .nil) C)
structure M2 (X:Cx) (o:Expr) (m:Str) (apos:Pos) (e f:Expr) (cpos:Pos):Prop where
 base:Gv o m X.env (eval o X.env)=eval o X.env
 few:((Ew cpos (Bc [e,f] X.env)).all (λx => !x.1)&&(Mw cpos (Jj [] X.env)).all (λx=>x.1.isSome)
  && decide (([e,f]:List Expr).length+([]:List Sn).length+(if ([]:List Sn).isEmpty then 0 else 1)<30))=true
 line:(apos.endLine==cpos.line)=true
 trees:Ew cpos (Bc [e,f] X.env)=[(false,eval e X.env),(false,eval f X.env)]
end L2
namespace K
open PySem L2 TX
noncomputable def FIs:Str:=Ab "0123456789"
noncomputable def LEs:Str:=Ab "abcdefghijklmnopqrstuvwxyzABCDEFGHIJKLMNOPQRSTUVWXYZ"
noncomputable abbrev FI:List Nat:=tl FIs
noncomputable abbrev LE:List Nat:=tl LEs
noncomputable def allOf(t s:List Nat):Bool:=decide (t≠[])&&t.all λc=>decide (c∈s)
noncomputable def gapTakes(c:Nat)(t:List Nat):Bool:=if c=63 then decide (t.length=1) else if c=35 then allOf t FI else if c=64 then allOf t LE else true
noncomputable def Pt.takes:Pt->List Nat->Bool
 |.tx l,t=>decide (t=l)
 |.gp c,t=>gapTakes c t
noncomputable def cut(n:List Nat)(b e:Nat):List Nat:=(n.drop b).take (e-b)
noncomputable def farTo(p:Pt)(n:List Nat)(L:Nat->Bool)(b k:Nat):Option Nat:=((List.range' b k).filter λe=>L e&&p.takes (cut n b e)).getLast?
noncomputable def far(p:Pt)(n:List Nat)(L:Nat->Bool)(b:Nat):Option Nat:=if b<=n.length then farTo p n L b (n.length+1-b) else none
noncomputable def fits(n:List Nat):List Pt->Nat->Bool
 |[],b=>decide (b=n.length)
 |p::ps,b=>(far p n (fits n ps) b).isSome
noncomputable def rd(n:List Nat):List Pt->Nat->List (List Nat)
 |[],_=>[]
 |p::ps,b=>(if p.isG then[cut n b ((far p n (fits n ps) b).getD 0)] else[])++rd n ps ((far p n (fits n ps) b).getD 0)
def q5v(p:Pt)(n:List Nat)(L:Nat->Bool)(b k:Nat):farTo p n L b (k+1)=if (L (b+k)&&p.takes (cut n b (b+k)))=true then some (b+k) else farTo p n L b k:=by
 unfold farTo;rw[List.range'_concat,Hm];by_cases h:(L (b+k)&&p.takes (cut n b (b+k)))=true
 ·simp_all
 ·simp_all
def z6y(p:Pt)(n:List Nat)(L:Nat->Bool)(b:Nat):farTo p n L b 0=none:=rfl
theorem q8y:∀{k:Nat} {p:Pt} {n:List Nat} {L:Nat->Bool} {b e:Nat},farTo p n L b k=some e->b<=e/\e<b+k/\L e=true/\p.takes (cut n b e)=true/\∀f,e<f->f<b+k->(L f&&p.takes (cut n b f))=false
 |0,p,n,L,b,e,h=>by rw[z6y] at h;cases h
 |k+1,p,n,L,b,e,h=>by
  rw[q5v] at h;by_cases c:(L (b+k)&&p.takes (cut n b (b+k)))=true
  ·rw[if_pos c] at h;cases h;rw[Cz] at c;exact⟨by lia,by lia,c.1,c.2,λf j g=>absurd g (by lia)⟩
  ·rw[if_neg c] at h;obtain⟨o,v,s,u,B⟩:=q8y h;refine⟨o,by lia,s,u,λf j g=>?_⟩;by_cases z:f=b+k
   ·grind
   ·grind
def z5q(h:far p n L b=some e):b<=e/\e<=n.length/\L e=true/\p.takes (cut n b e)=true/\∀f,e<f->f<=n.length->(L f&&p.takes (cut n b f))=false:=by
 unfold far at h;by_cases g:b<=n.length
 ·rw[if_pos g] at h;obtain⟨j,B,o,s,u⟩:=q8y h;exact⟨j,by lia,o,s,λf v C=>u f v (by lia)⟩
 ·grind
noncomputable def gsOf:List Pt->List Nat
 |[]=>[]
 |.gp c::ps=>c::gsOf ps
 |.tx _::ps=>gsOf ps
noncomputable def glue:List Pt->List (List Nat)->List Nat
 |[],_=>[]
 |.tx l::ps,ts=>l++glue ps ts
 |.gp _::ps,[]=>glue ps []
 |.gp _::ps,t::ts=>t++glue ps ts
def z5r(h:b<=e):cut n b e++n.drop e=n.drop b:=by
 unfold cut;have:n.drop e=(n.drop b).drop (e-b):=by simp_all
 rw[this,Nc]
theorem z9d(n:List Nat):∀(ps:List Pt) (b:Nat),fits n ps b=true->(rd n ps b).length=(gsOf ps).length/\(∀(i c:Nat) (t:List Nat),(gsOf ps)[i]?=some c->(rd n ps b)[i]?=some t->gapTakes c t=true)/\glue ps (rd n ps b)=n.drop b/\∀t∈rd n ps b,t.length<=n.length
 |[],b,h=>by
  have E:b=n.length:=of_decide_eq_true h;refine⟨rfl,λi c t h=>by simp[gsOf] at h,?_,λt f=>by simp[rd] at f⟩;subst E;simp[glue]
 |p::ps,b,h=>by
  have h':(far p n (fits n ps) b).isSome=true:=h;cases hf:far p n (fits n ps) b with
  |none=>grind
  |some e =>
   obtain⟨s,H,F,u,_⟩:=z5q hf;obtain⟨v,B,C,D⟩:=z9d n ps e F;cases p with
   |tx l =>
    have g:rd n (.tx l::ps) b=rd n ps e:=by simp[rd,Pt.isG,hf]
    have G:=of_decide_eq_true u;rw[g];refine⟨v,B,?_,D⟩;show l++glue ps (rd n ps e)=_;rw[C,<- G,z5r s]
   |gp c =>
    have g:rd n (.gp c::ps) b=cut n b e::rd n ps e:=by simp[rd,Pt.isG,hf]
    rw[g];refine⟨by simp[gsOf,v],λi d t j o=>?_,?_,λt f=>?_⟩
    ·cases i with
     |zero =>
      simp[gsOf] at j o;subst j o;exact u
     |succ i=>exact B i d t (by simpa[gsOf] using j) (by simpa using o)
    ·show cut n b e++glue ps (rd n ps e)=_;rw[C,z5r s]
    ·rcases Az.mp f with rfl|f
     ·unfold cut;rw[Dg,Dh];lia
     ·exact D t f
def allOf_iff:allOf t s=true↔t≠[]/\∀c∈t,c∈s:=by
 unfold allOf;simp
theorem q9z:∀(l cur:List Nat),(∀c∈cur,c∈NS)->(∀c∈l,c∈GS\/c∈NS)->∀p∈parse cur l,p.ok
 |[],cur,h1,_=>λp f=>by
  have hp':p∈tp cur:=f;unfold tp at hp';split at hp'
  ·cases hp'
  ·rename_i hne;rw[Ao.mp hp'];exact⟨hne,h1⟩
 |c::r,cur,h1,h2=>λp f=>by
  have e:parse cur (c::r)=if c∈GS then tp cur++.gp c::parse [] r else parse (cur++[c]) r:=rfl
  rw[e] at f;have g:=λd hd=>h2 d (Ap _ hd);split at f
  ·rename_i hc;rcases Ba.mp f with z|z
   ·unfold tp at z;split at z
    ·cases z
    ·rename_i hne;rw[Ao.mp z];exact⟨hne,h1⟩
   ·rcases Az.mp z with rfl|z
    ·exact hc
    ·exact q9z r [] (λ_ h=>nomatch h) g p z
  ·rename_i hc;refine q9z r (cur++[c]) (λd hd=>?_) g p f;rcases Ba.mp hd with z|z
   ·exact h1 d z
   ·grind
theorem x4v:∀(l cur:List Nat),(cur≠[]\/l≠[])->parse cur l≠[]
 |[],cur,h=>by
  have f:cur≠[]:=h.resolve_right (λz=>z rfl);show tp cur≠[];unfold tp;rw[if_neg f];simp
 |c::r,cur,h=>by
  have e:parse cur (c::r)=if c∈GS then tp cur++.gp c::parse [] r else parse (cur++[c]) r:=rfl
  rw[e];split
  ·simp
  ·exact x4v r _ (.inl (by simp))
theorem q7p:∀(l cur:List Nat),(parse cur l).length<=2*l.length+1
 |[],cur=>by show(tp cur).length<=_;unfold tp;split<;>simp
 |c::r,cur=>by
  have e:parse cur (c::r)=if c∈GS then tp cur++.gp c::parse [] r else parse (cur++[c]) r:=rfl
  rw[e];have f:(tp cur).length<=1:=by unfold tp;split<;>simp
  split
  ·have:=q7p r [];rw[Aj,Be,Be];lia
  ·have:=q7p r (cur++[c]);rw[Be];lia
structure DF (H:Hp) (a:Addr) (f:Nat->Option Nat):Prop where
 ex:∃kvs:List (Key×V),H a=some (.dK kvs)/\kvs.length<=5000/\∀b:Nat,valV kvs (Sum.inl (b:Int))=(f b).map λe=>V.int (e:Nat)
def DF.same(h:DF H a f)(sm:Same H H'):DF H' a f:=by obtain⟨g,j,o,s⟩:=h.ex;exact⟨g,sm _ _ j,o,s⟩
def DF.get(h:DF H a f)(b:Nat):DGet H a (.int (b:Int)) ((f b).map λe=>V.int (e:Nat)):=by
 obtain⟨g,j,s,o⟩:=h.ex;have:=DGet.k (k:=Sum.inl (b:Int)) j;rw[o] at this;exact this
def DF.new(h:DF H a f)(g:H b=none):DF (upd H b o) a f:=h.same ((Same.refl H).new g)
def key_inj{i j:Nat}:((Sum.inl (i:Int):Key)=Sum.inl (j:Int))↔i=j:=by grind
inductive DS (H:Hp) (n:List Nat):List Addr->List Pt->Prop
 |nil:DS H n [] []
 |cons {d:Addr} {p:Pt} {ds:List Addr} {ps:List Pt}:DF H d (far p n (fits n ps))->DS H n ds ps->DS H n (d::ds) (p::ps)
def DS.same(h:DS H n ds ps)(sm:Same H H'):DS H' n ds ps:=by
 induction h with
 |nil=>exact .nil
 |cons a _ ih=>exact .cons (a.same sm) ih
def DS.keepL(h:DS H n ds ps)(k:∀b kvs,H b=some (.dK kvs)->H' b=some (.dK kvs)):DS H' n ds ps:=by
 induction h with
 |nil=>exact .nil
 |cons a _ ih=>obtain⟨kvs,f,g,j⟩:=a.ex;exact .cons ⟨kvs,k _ _ f,g,j⟩ ih
def DS.len(h:DS H n ds ps):ds.length=ps.length:=by
 induction h with
 |nil=>rfl
 |cons _ _ ih=>simp[ih]
def DS.get(h:DS H n ds ps):∀{i:Nat} {d:Addr},ds[i]?=some d->∃p,ps[i]?=some p/\DF H d (far p n (fits n (ps.drop (i+1)))):=by
 induction h with
 |nil=>simp_all
 | @cons d0 p ds ps a _ ih =>
  intro i d h;cases i with
  |zero=>simp_all
  |succ i =>simp_all
def x4w{kvs:List (Key×V)}{b e:Nat}{f:Nat->Option Nat}(h:∀c:Nat,valV kvs (Sum.inl (c:Int))=(f c).map λe=>V.int (e:Nat))(c:Nat):
  valV (putK kvs (Sum.inl (b:Int)) (.int (e:Int))) (Sum.inl (c:Int))=((λc=>if c=b then some e else f c) c).map λe=>V.int (e:Nat):=by
 rw[z5n];by_cases z:c=b
 ·grind
 ·rw[if_neg (λh=>z (key_inj.mp h)),h];show _=Option.map _ (if c=b then _ else _);rw[if_neg z]
noncomputable abbrev vN(ns:List (List Nat)):List V:=ns.map λn=>V.str (mk n)
def q0x(l:List Nat):(mk l).length=l.length:=by rw[len,q1g]
def dec_str(a b:List Nat):decide (V.str (mk a)=V.str (mk b))=decide (a=b):=by simp_all
def q2k{f:Type}{l:List f}{x:f}(h:l[i]?=some x):l.drop i=x::l.drop (i+1):=by
 have g:=(As.mp h).1;rw[Qn g];congr 1;exact(As.mp h).2
end K
namespace L2
open PySem PySem.Spec PyProof.Rows
section
variable{X:Cx}
noncomputable def rInsert0:V->List V->Hp->VK->Prop:=λx vs H Q=>∃l xs y,x=.ref l/\vs=[.int 0,y]/\H l=some (.lst xs)/\xs.length<sizeLine/\Q .non (upd H l (.lst (y::xs)))
def z9e:MtM X "list.insert" rInsert0:=by
 intro g s F H x vs v G Q I o B h;obtain⟨l,J,y,rfl,rfl,j,L,q⟩:=h;cases o;obtain⟨M,u,rfl,C,D⟩:=B.two;obtain⟨E,rfl⟩:=C;obtain⟨z,f,n,r,hl,e⟩:=I.lstM j;refine Ls Ve ⟨_,e,rfl⟩ Ul (Tp _ _ _) (Lv l f.toArray n 0 E u (by decide) (by rw[Ay];lia)) ⟨e,?_⟩;refine⟨.non,_,I.lset (its':=u::f) j e (by simp) (.cons D r) ?_,rfl,q⟩;rw[Be];lia
end
end L2
namespace PySem.Rv
open Sem (wp)
namespace F
def q6k:mroOf (.type "reversed")=pure [.type "reversed",.type "object"]:=by rw[mroOf_type];kernel_rfl
def q4o:Qk (.type "reversed") "__new__" = pure (some (.builtin "reversed.__new__")):=by rw[Nx,Jq];kernel_rfl
def q5k:Slot "reversed" "__init__" "object.__init__" :=
 .of (owner := "object") (n := "__init__") (by rw[Nx,Jq];kernel_rfl) (by trivial) (by trivial) (by trivial)
  (by first|exact .inl (by rw[Kk];kernel_rfl)|exact .inr (by rw[Kk];kernel_rfl)) (by rw[Jr];kernel_rfl)
def called_reversed:TypeCalled "reversed" "reversed.__new__" "object.__init__" :=
 ⟨by trivial,by trivial,⟨_,_,q6k⟩,madeBy_type q6k q4o (by trivial),by trivial,by rw[Jr];kernel_rfl,q5k⟩
def typeCall_reversed_1(a:Value):checkTypeCall "reversed" ⟨[a],[]⟩=pure ():=by kernel_rfl
def newCall_reversed_1(a:Value):checkBuiltinCall "reversed.__new__" ⟨[.type "reversed",a],[]⟩=pure ():=by kernel_rfl
def entry_reversed_new:Ws table "reversed.__new__" = some Du.«reversed.__new__» := entryFor_of_tree (by kernel_rfl)
def slot_lrev_next:Slot "list_reverseiterator" "__next__" "list_reverseiterator.__next__" :=
 .of (owner := "list_reverseiterator") (n := "__next__") (by rw[Nx,Jq];kernel_rfl) (by trivial) (by trivial) (by trivial)
  (by first|exact .inl (by rw[Kk];kernel_rfl)|exact .inr (by rw[Kk];kernel_rfl)) (by rw[Jr];kernel_rfl)
def entry_lrev_next:Ws table "list_reverseiterator.__next__" = some Du.«list_reverseiterator.__next__» := entryFor_of_tree (by kernel_rfl)
def slot_lrev_iter:Slot "list_reverseiterator" "__iter__" "list_reverseiterator.__iter__" :=
 .of (owner := "list_reverseiterator") (n := "__iter__") (by rw[Nx,Jq];kernel_rfl) (by trivial) (by trivial) (by trivial)
  (by first|exact .inl (by rw[Kk];kernel_rfl)|exact .inr (by rw[Kk];kernel_rfl)) (by rw[Jr];kernel_rfl)
def entry_lrev_iter:Ws table "list_reverseiterator.__iter__" = some Du.«dict_keyiterator.__iter__» :=
 entryFor_alias (id' := "dict_keyiterator.__iter__") (by kernel_rfl) (by first|rfl|decide +kernel|(unfold String.splitOn;simp +decide [String.splitOnAux])) (by trivial) (by kernel_rfl)
def q8z:Manifest.owners.lookup (String.ofList ['r', 'o', 't', 'a', 'r', 'e', 't', 'i', 'e', 's', 'r', 'e', 'v', 'e', 'r', '_', 't', 's', 'i', 'l'].reverse)=some Manifest.sig_list_reverseiterator:=by kernel_rfl
def args_lrev_next_1(a:Value):argsOk "list_reverseiterator.__next__" ⟨[a],[]⟩:=by
 unfold argsOk;rw[signature?_of (n:=['_', '_', 't', 'x', 'e', 'n', '_', '_']) (by kernel_rfl) q8z];kernel_rfl
def args_lrev_iter_1(a:Value):argsOk "list_reverseiterator.__iter__" ⟨[a],[]⟩:=by
 unfold argsOk;rw[signature?_of (n:=['_', '_', 'r', 'e', 't', 'i', '_', '_']) (by kernel_rfl) q8z];kernel_rfl
def sub_reversed:isSubtype (.type "reversed") (.type "reversed")=pure true:=by rw[Jr];kernel_rfl
def sub_lrev:isSubtype (.type "list_reverseiterator") (.type "reversed")=pure false:=by rw[Jr];kernel_rfl
end F
open Sem (wp)
noncomputable def IsRevIter(h:Heap)(it l:Addr)(k:Int):Prop:=∃o,h.get? it=some o/\o.cls=.type "list_reverseiterator" /\ o.data=.fields #[.ref l,.int k 0]
section
variable{prog:Ak}{w:World}{A:Around}{E:Value->Ag->Prop}{s:Ag}
def wpAny_pyNext_rev_item{k:Nat}{items}(g:IsRevIter s.heap it l k)(hl:s.heap.IsList l items)(B:items[k]?=some x)(C:∀h',IsRevIter h' it l ((k:Int)-1)->Fx it s.heap h'->Q (some x) { s with heap:=h' }):wpAny (model prog w) A (Jm (.ref it)) Q E s:=by
 obtain⟨o,f,u,hd⟩:=id g;obtain⟨D,h,_,G,j⟩:=hl;have v:s.TypeIs (.ref it) "list_reverseiterator" := ⟨o,f,u⟩
 refine Ac (Eh (Cg v F.slot_lrev_next
  (By F.slot_lrev_next v F.entry_lrev_next ?_ (F.args_lrev_next_1 _))))
 show wpAny _ _ (field (.ref it) 1 >>= _) _ _ s;refine Ac (Bs f hd rfl ?_);refine Ac (Bs f hd rfl ?_);refine Ac (Ge h j ?_);simp only[Hy,B];refine Ac (Hb f hd (by simp) (Ad ⟨x,rfl,Ad (C _ ?_ (Iv ..))⟩));exact⟨_,Er _ f (Js (Fm hd _)),(Vx ..).trans u,by
  rw[Fm hd];simp[El]⟩
def wpAny_pyNext_rev_end(j:A.handled=none)(f:IsRevIter s.heap it l k)(hk:k<0)(u:∀h',Sa it s.heap h'->Q none { s with heap:=h' }):wpAny (model prog w) A (Jm (.ref it)) Q E s:=by
 obtain⟨o,g,v,hd⟩:=id f;have h:s.TypeIs (.ref it) "list_reverseiterator" := ⟨o,g,v⟩
 refine Ac (Eh (Cg h F.slot_lrev_next
  (By F.slot_lrev_next h F.entry_lrev_next ?_ (F.args_lrev_next_1 _))))
 show wpAny _ _ (field (.ref it) 1 >>= _) _ _ s;refine Ac (Bs g hd rfl ?_);show wpAny _ _ (if (k<0) then _ else _) _ _ s;rw[if_pos hk];refine Ac (Hd (Ac ?_));refine Ac ?_;refine Ac (Cc ?_ (by size_fits));refine Ac (Kq (by first|rfl|(simp only[Sr];rfl)) ?_);refine Cc ?_ (by size_fits);refine Ac (Uc ?_);rw[show A.in1.handled=none from j];refine Ac (Ad (Wi ?_));refine Ac (Fz ⟨_,An _ rfl,rfl⟩ Lu ?_);exact Ad (u _ (λb o _ e=>Ae _ (Ae _ e)))
def wpAny_pyIter_rev(f:IsRevIter s.heap it l k)(h:Q (.ref it) s):wpAny (model prog w) A (Ml (.ref it)) Q E s:=by
 obtain⟨o,j,u,hd⟩:=id f;have g:s.TypeIs (.ref it) "list_reverseiterator" := ⟨o,j,u⟩
 refine Qe g F.slot_lrev_iter (By F.slot_lrev_iter g F.entry_lrev_iter ?_ (F.args_lrev_iter_1 _));exact Ad ⟨_,rfl, "list_reverseiterator",_,g,F.slot_lrev_next.lookup,h⟩
def q4p(l:Addr)(f:Array Value)(n:Nat):
  Meets (Du.«reversed.__new__» ⟨[.type "reversed",.ref l],[]⟩) (λ_ R s=>s.heap.get? l=some { cls:=.type "list",dict:=none,data:=.seq f n,slots:=#[] } /\
   R (.ok (.ret (.ref s.heap.objs.size))) { s with heap:=s.heap.push { cls:=.type "list_reverseiterator",data:=.fields #[.ref l,El (((f.size:Nat):Int)-1)] } }) :=
 .of_wp λprog w A R s h=>by
  obtain⟨j,g,d,tk,os⟩:=s;obtain⟨hl,h⟩:=h;have v:Ag.TypeIs ⟨j,g,d,tk,os⟩ (.ref l) "list" := ⟨_,hl,rfl⟩
  wp_walk
  refine Kq F.sub_reversed ?_
  wp_walk
  refine Kq Kc.lookup ?_
  wp_walk
  refine Kq (Kc.bind (Value.ref l)) ?_
  wp_walk
  have u:Gq (model prog w) A.in1 (Code.call (.builtin "list.__reversed__") ⟨[.ref l],[]⟩) (λr o=>r=.ok (.ret (.ref j.objs.size))/\o=(⟨j.push { cls:=.type "list_reverseiterator",data:=.fields #[.ref l,El (((f.size:Nat):Int)-1)] },g,d,tk,os⟩:Ag)) ⟨j,g,d,tk,os⟩ :=
   Gn Kc.plain F.entry_list_reversed (Kc.check _ _ _ _ _ _ _ _ v (F.args_list_reversed_1 _) (AutoListH.list___reversed___list_0 l f n prog w A.in1 (λr o=>r=.ok (.ret (.ref j.objs.size))/\o=(⟨j.push { cls:=.type "list_reverseiterator",data:=.fields #[.ref l,El (((f.size:Nat):Int)-1)] },g,d,tk,os⟩:Ag)) ⟨j,g,d,tk,os⟩ ⟨hl,rfl,rfl⟩))
  refine Hi u λr o B=>?_;obtain⟨rfl,rfl⟩:=B;exact Ad ⟨_,rfl,h⟩
def q8n(o:TypeCalled T newId initId)(u:isSubtype (.type U) (.type T)=pure false)(G:checkTypeCall T ⟨args,[]⟩=pure ())(v:checkBuiltinCall newId ⟨.type T::args,[]⟩=pure ())(j:Ws table newId=some Bn)(g:Meets (Bn ⟨.type T::args,[]⟩) S)(h:S A.in1 (wants (λobj f=>f.TypeIs obj U/\Q obj f) E) s):wpAny (model prog w) A (call (.type T) args) Q E s:=by
 obtain⟨c,tl,D⟩:=o.mro;have B:=o.made;refine Gk (Rp ?_);refine Ad ⟨Jc _ (by trivial),Ku F.entry_type_call ?_⟩;have H:=o.notType;have I:=o.canCreate;repeat (any_goals (first|assumption|wp_step))
 refine Hi (Gn o.plain j (Kq v (g prog w A.in1 _ s h))) λr f C=>?_;cases r with
 |error e=>exact C
 |ok fl =>
  cases fl with
  |ret obj =>
   obtain⟨J,L⟩:=C;repeat (any_goals (first|assumption|wp_step))
  |_=>exact C.elim
def call_reversed_list(hl:s.heap.get? l=some { cls:=.type "list",dict:=none,data:=.seq items n,slots:=#[] })(h:Q (.ref s.heap.objs.size) { s with heap:=s.heap.push { cls:=.type "list_reverseiterator",data:=.fields #[.ref l,El (((items.size:Nat):Int)-1)] } }):
  wpAny (model prog w) A (call (.type "reversed") [.ref l]) Q E s :=
 q8n F.called_reversed F.sub_lrev (F.typeCall_reversed_1 _) (F.newCall_reversed_1 _) F.entry_reversed_new (q4p l items n) ⟨hl,⟨_,An _ rfl,rfl⟩,h⟩
end
end PySem.Rv
namespace L2
open PySem PySem.Spec PyProof.Rows
noncomputable def Itv(K:Ah)(a:Addr)(n:Nat):It :=
 ⟨λi H=>∃xs x,SqL K H a xs/\xs.length=n/\xs.reverse[i]?=some x,λi H x H'=>H'=H/\∀xs,SqL K H a xs->xs.reverse[i]?=some x,λi _=>n<=i⟩
def z6z(x:PySem.Rv.IsRevIter h it l k)(e:∀o,h.get? it=some o->h'.get? it=some o):PySem.Rv.IsRevIter h' it l k:=by obtain⟨o,f,r⟩:=x;exact⟨o,e _ f,r⟩
def x2v{K:Ah}(a it:Addr)(n:Nat):Turn P w K tg (Itv K a n) [it] it (λi h=>PySem.Rv.IsRevIter h it a ((n:Int)-1-i)) where
 mem:=by simp
 obj:=λi h st b g=>by
  have e:b=it:=by grind
  subst e;obtain⟨o,e,c,d⟩:=st;exact⟨o,e,λv z=>by rw[d] at z;cases z⟩
 keep:=λi h D st k=>z6z st λo e=>k it (by simp) o e
 item:=by
  intro X O Q R S i f s T H E I C st F;subst O Q R;obtain⟨j,x,U,hn,W⟩:=F;obtain⟨Y,Z,p,hz⟩:=I.list U;have hi:i<j.length:=by have:=(As.mp W).1;simpa using this
  have hx':j[j.length-1-i]?=some x:=by grind
  obtain⟨u,hu,ru⟩:=Z.get hx';obtain⟨f0,G,f2,J,L,M⟩:=C it (by simp);have a0:((n:Int)-1-(i:Int))=((j.length-1-i:Nat):Int):=by lia
  have st1:PySem.Rv.IsRevIter s.heap it a ((j.length-1-i:Nat):Int):=by simp_all
  refine PySem.Rv.wpAny_pyNext_rev_item st1 p.isList (by simpa using hu) λD B sb=>?_;have I1:Inv X f T H { s with heap:=D }:=I.turned (t':=s.toks) (λb o g e=>(sb.2 b g).trans e) f0 G J L M;obtain⟨o,e,c,d⟩:=id B;refine⟨u,rfl,z3u e c d (by decide) ⟨x,H,I1,ru,⟨rfl,λys hy=>by rw[I.list_inj hy U];exact W⟩,?_,λb g=>(C b g).1⟩⟩;have e2:((n:Int)-1-((i+1:Nat):Int))=((j.length-1-i:Nat):Int)-1:=by lia
  rw[e2];exact B
 done:=by
  intro X O Q R S i f s T H E I C st F;obtain⟨f0,G,f2,J,L,M⟩:=C it (by simp);have a1:n<=i:=F;exact PySem.Rv.wpAny_pyNext_rev_end (I.ok.hd S) st (by lia) λD eb=>⟨rfl,I.turned (t':=s.toks) (λb o g e=>eb b o g e) f0 G J L M⟩
 self:=λ_ _ _ _ _ st h=>PySem.Rv.wpAny_pyIter_rev st h
section
variable{X:Cx}{tg:Expr}
noncomputable def iRev(K:Ah)(ta:TA):TI:=λσ H R=>ta σ H λvs H1=>∃a xs,vs=[.ref a]/\H1 a=some (.lst xs)/\R (Itv K a xs.length) H1
def pi_rev(D:Gl X "reversed")(E:X.mg "reversed" = none)(ha:PA X [a] ta)(F:Bc [a] X.env=[(false,eval a X.env)]:=by rfl):
  PI X tg (.Call (.Name "reversed" p) [a] [] pos) (iRev X.K ta):=by
 intro g s G H R I h;refine Call_ (q4z I D E (by decide +kernel:Gi "reversed" = some (.type "reversed")) (Ed (thn (ha pos g s G H _ I h) λQ f J=>?_) F rfl));obtain⟨vs,L,v,M,O⟩:=J;obtain⟨l,C,e,P,q⟩:=O;subst e;obtain⟨u,rfl,r⟩:=vals1 M;cases r;obtain⟨z,B,n,S,hl,e⟩:=v.lstM P;refine PySem.Rv.call_reversed_list e ?_;have j:PySem.Rv.IsRevIter (f.heap.push { cls:=.type "list_reverseiterator",data:=.fields #[.ref l,El (((B.toArray.size:Nat):Int)-1)] }) f.heap.objs.size l ((C.length:Int)-1-((0:Nat):Int)):=by
  refine⟨_,An _ rfl,rfl,?_⟩;rw[Ay,<- hl];simp[El]
 refine PySem.Rv.wpAny_pyIter_rev j ?_;refine⟨f.heap.objs.size,[f.heap.objs.size],_,_,L,rfl,v.kept (t':=f.toks) λb o e=>Ae _ e,x2v l _ C.length,j,λb T=>?_,q⟩;have e:b=f.heap.objs.size:=by grind
 subst e;exact v.fpOk (Ai _) (v.hok.fresh (Ai _))
def rev_k{a:Expr}{g:TA}{p f:Pos}(K:Ah)(h:X.K=K)(j:Gl X "reversed")(o:X.mg "reversed" = none)(ha:PA X [a] g)(s:Bc [a] X.env=[(false,eval a X.env)]:=by rfl):
  PI X tg (.Call (.Name "reversed" p) [a] [] f) (iRev K g):=by subst h;exact pi_rev j o ha s
def x6i{K:Np}{g:TG}{tb:TS}{D:Ends}(j:Nat->St->Hp->Prop)(C:j 0 f H)(hl:∀i f H,j i f H->SqL K H a xs)(E:∀i x f H,xs.reverse[i]?=some x->j i f H->g x f H λo u=>tb { D with nx:=j (i+1),ct:=j (i+1),bk:=D.nx } o u)(hd:∀f H,j xs.length f H->D.nx f H):
  ∃W:Nat->Nat->St->Hp->Prop,(∃m,W 0 m f H)/\∀i m f H,W i m f H ->
   ((Itv K a xs.length).stop i H/\D.nx f H)\/((Itv K a xs.length).go i H/\∃N:St->Hp->Prop,(∀s H',N s H'->∃B,B<m/\W (i+1) B s H')/\∀x H',(Itv K a xs.length).yld i H x H'->g x f H' λo u=>tb { D with nx:=N,ct:=N,bk:=D.nx } o u):=by
 refine z1s j C (λi f H h p=>⟨xs,xs.reverse[i]'(by simpa using h),hl i f H p,rfl,Bt _⟩) (λf H _=>Ai _) (λi v f H H' h p F=>?_) hd;obtain⟨rfl,y⟩:=F;exact E i v f _ (y xs (hl i f _ p)) p
end
def Inv.freezeK{j:St}(I:Inv X pins j H s)(hd:H d=some u)(D:s.heap.get? d=some ob)(E:(∃kvs,u=.dK kvs)\/∃kvs,u=.dT kvs):Inv X pins j (upd H d (.frz ob u)) s:=by
 have f:∀{v:HO} {b:Addr},H b=some v->((∀kvs,v≠.dK kvs)/\∀kvs,v≠.dT kvs)->b≠d:=λ{v b} z hv y=>by
  subst y;rw[hd] at z;cases z;rcases E with⟨kvs,rfl⟩|⟨kvs,rfl⟩
  ·exact hv.1 _ rfl
  ·exact hv.2 _ rfl
 have g:∀{b:Addr},H b=none->b≠d:=λ{b} z y=>by subst y;rw[hd] at z;cases z
 refine⟨I.ok,I.os,I.bare,⟨I.base.keep,I.base.slot,λb o e n F=>?_,I.base.there,λb B e=>?_,λb o v e=>?_,λb G e=>?_⟩,I.loc,I.cell,?_,λx c e=>?_,λp J=>?_,λb v e=>?_,I.len⟩
 ·have z:=I.base.free b o e n F;rw[q0f (g z)];exact z
 ·have z:=I.base.tups b B e;rw[q0f (f z ⟨λ_ y=>(by cases y),λ_ y=>(by cases y)⟩)];exact z
 ·have z:=I.base.frzs b o v e;rw[q0f (f z ⟨λ_ y=>(by cases y),λ_ y=>(by cases y)⟩)];exact z
 ·obtain⟨m,z⟩:=I.base.tbls b G e;exact⟨m,by rw[q0f (f z ⟨λ_ y=>(by cases y),λ_ y=>(by cases y)⟩)];exact z⟩
 ·rw[q0f (g I.free)];exact I.free
 ·rw[q0f (g (I.freeC x c e))];exact I.freeC x c e
 ·obtain⟨e,n,ne,h,dd⟩:=I.pin p J;exact⟨e,by rw[q0f (g n)];exact n,ne,h,dd⟩
 ·have st:∀{b:Addr} {v:HO},ObjOk X.prog X.w H s.heap b v->ObjOk X.prog X.w (upd H d (.frz ob u)) s.heap b v:=λx =>
   x.stay (λ_ _ _ q=>q) (λc q=>by rw[q0f (f q ⟨λ_ y=>(by cases y),λ_ y=>(by cases y)⟩)];exact q) λc B q=>by rw[q0f (f q ⟨λ_ y=>(by cases y),λ_ y=>(by cases y)⟩)];exact q
  by_cases C:b=d
  ·subst C;rw[q0d] at e;cases e;exact⟨D,st (I.hok b u hd)⟩
  ·rw[q0f C] at e;exact st (I.hok b v e)
end L2
namespace K
open PySem L2 TX
def z0a(l:Option Int)(len:Nat)(h:(len:Int)<=j):Jx l (some j) 1 len=Jx l (some (len:Int)) 1 len:=by
 have a:¬(j<0):=by lia
 have b:¬((len:Int)<0):=by lia
 have c:min j (len:Int)=(len:Int):=by lia
 simp[Jx,a,b,c]
def z1z{l:List Nat}(g:i<=j)(o:i<=l.length):Xk (mk l) (some (i:Int)) (some (j:Int))=mk ((l.drop i).take (j-i)):=by
 have f:(mk l).cps.toList=l:=q1g l;by_cases h:j<=l.length
 ·show Gr (mk l) (some (i:Int)) (some (j:Int))=_;rw[Ss (mk l) g (by rw[q0x];exact h),f]
 ·have e:Gr (mk l) (some (i:Int)) (some (j:Int))=Gr (mk l) (some (i:Int)) (some (((mk l).length:Nat):Int)):=by
   unfold Gr;rw[z0a (some (i:Int)) (mk l).length (by rw[q0x];lia)]
  show Gr (mk l) (some (i:Int)) (some (j:Int))=_;rw[e,Ss (mk l) (by rw[q0x];exact o) (Ai _),f,q0x];rw[Ez (by rw[Dh];lia),Ez (by rw[Dh];lia)]
end K
namespace L2
open PySem PySem.Spec PyProof.Rows
section
variable{X:Cx}
def z9f:CallR X (.type "int") (λxs H Q=>∃x n,xs=[.str x]/\Lw x=some n/\x.length<=640/\Q (.int n) H):=by
 intro f s o H xs v Q I r h;obtain⟨x,n,rfl,g,j,q⟩:=h;obtain⟨u,rfl,t,rfl⟩:=vals1 r;exact W.KIN.call_text g j ⟨.int n,H,I.tok _,⟨_,rfl⟩,q⟩
def q2u:CallR X (.type "int") (λxs H Q=>((∃i,xs=[.int i]/\Q (.int i) H)\/∃k,xs=[.bl k]/\Q (.int (if k then 1 else 0)) H)\/∃x n,xs=[.str x]/\Lw x=some n/\x.length<=640/\Q (.int n) H):=call_int1.or z9f
end
end L2
namespace K
open PySem L2 TX
noncomputable def dg(m:Nat):List Nat:=tl (Ab (toString (m:Int)))
def z9g(m:Nat):Ab (toString (m:Int))=mk (dg m):=(z8t _).symm
def x2w(m:Nat):dg m=(Nat.toDigits 10 m).map Char.toNat:=W.KIN.signs_num m
def q4c(h:m<10):dg m=[48+m]:=by
 rw[x2w,Nat.toDigits_of_lt_base h];exact(by decide:∀m:Nat,m<10->[Nat.digitChar m].map Char.toNat=[48+m]) m h
def z4e(h:10<=m):dg m=dg (m / 10)++[48+m%10]:=by
 have f:m%10<10:=Nat.mod_lt m (by decide);have t:Nat.toDigits 10 (m / 10)++Nat.toDigits 10 (m%10)=Nat.toDigits 10 (10*(m / 10)+m%10):=Nat.toDigits_append_toDigits (by decide) (by lia) f;rw[Nat.div_add_mod] at t;rw[x2w,x2w,<- t,Au];congr 1;exact(x2w (m%10)).symm.trans (q4c f)
def x4x(m:Nat):∀c∈dg m,c∈FI:=by
 have g:∀d:Nat,d<10->48+d∈FI:=by trivial
 induction m using Nat.strongRecOn with
 |_ m ih =>
  by_cases h:m<10
  ·rw[q4c h];intro c f;rw[Ao.mp f];exact g m h
  ·rw[z4e (by lia)];intro c f;rcases Ba.mp f with z|z
   ·grind
   ·rw[Ao.mp z];exact g _ (Nat.mod_lt m (by decide))
def x6j(m:Nat):∃d r,dg m=(48+d)::r/\d<10/\(d=0->m=0/\r=[]):=by
 induction m using Nat.strongRecOn with
 |_ m ih =>
  by_cases h:m<10
  ·exact⟨m,[],q4c h,h,λz=>⟨z,rfl⟩⟩
  ·obtain⟨d,r,f,g,j⟩:=ih (m / 10) (by lia);refine⟨d,r++[48+m%10],by rw[z4e (by lia),f];rfl,g,λz=>?_⟩;have:=(j z).1;lia
theorem q6l:∀(k m:Nat),m<10^(k+1)->(dg m).length<=k+1
 |0,m,h=>by rw[q4c (by simpa using h)];exact Ai _
 |k+1,m,h=>by
  by_cases f:m<10
  ·rw[q4c f];simp
  ·rw[z4e (by lia),Aj,Bk];have:=q6l k (m / 10) (by rw[Nat.pow_succ] at h;lia);lia
def z9h(h:m<10^10):Lw (mk (dg m))=some (m:Int):=by
 exact W.KIN.num_reads (by lia) (by lia)
end K
namespace L2
open PySem PySem.Spec PyProof.Rows
structure KDict (P:Ak) (w:World) (K:Ah) (d:Addr) (kvs:List (Key×V)):Prop where
 ex:∃ob vs,K.lookup d=some ob/\KV kvs vs/\∀h:Heap,h.get? d=some ob->h.DictOf (mixKind P w) d vs
noncomputable def tKGet(kvs:List (Key×V))(ty:TE):TE:=λσ H Q=>ty σ H λy H1=>∃k v,y=kV k/\valV kvs k=some v/\Q v H1
def z9i{X:Cx}{x:Str}{d:Addr}{kvs:List (Key×V)}{i:Expr}{ty:TE}{p g:Pos}(C:Gl X x)(E:X.mg x=some (.ref d))(D:KDict X.prog X.w X.K d kvs)(F:PE X i ty)(G:NoSl i)(j:(x==("__debug__" : Str))=false:=by decide):
  PE X (.Subscript (.Name x p) i g) (tKGet kvs ty):=by
 intro f s J H Q I h;refine z9a Qm.lookup G (q2q I C E (thnE (F f s J H _ I h) λU W y L B M O=>?_) j);obtain⟨k,v,P,l,R⟩:=O;subst P;obtain⟨S,vs,hk,o,hd⟩:=D.ex;have dd:=hd _ (B.kIn d S hk);obtain⟨Y,T,u⟩:=RelO.some_of (by rw[<- l];exact o.val k);exact⟨dd.typeIs,wpAny_getItem_of (z1w M) dd.mapOf T ⟨v,L,B.tok _,u,R⟩⟩
section
variable{X:Cx}
def x2x:PGet X (rIxL X.K):=by
 intro f s J H x y v u Q I L M h;obtain⟨p,U,i,z,rfl,rfl,O,P,q⟩:=h;cases L;obtain⟨t,rfl⟩:=M;obtain⟨B,r,E,W⟩:=I.list O;obtain⟨j,o,R,Y,S,T⟩:=q9o P;obtain⟨w,F,C⟩:=r.get R;have hl:=r.length;have hn:=line63;have g:EP X f J Q w s:=⟨z,H,I,C,q⟩
 by_cases G:0<=i
 ·have D:i.toNat=j:=by
   rw[Ru G T] at o;exact Cu o
  exact wpAny_getItem_list E.isList G (by lia) (by rw[D];simpa using F) g
 ·have D:(i+(B.toArray.size:Int)).toNat=j:=by
   rw[seqIndex_neg (by lia) S] at o;rw[Ay,<- hl];exact Cu o
  exact Rz E.isList (by lia) (by rw[Ay]<;>lia) (by lia) (by rw[D];simpa using F) g
def get_k(K:Ah)(f:X.K=K):PGet X (rIxL K):=by subst f;exact x2x
end
section
variable{X:Cx}
noncomputable def rRjust:V->List V->Hp->VK->Prop:=λx vs H Q=>∃z i c,x=.str z/\vs=[.int i,.str c]/\PadOk i=true/\c.length=1/\Q (.str (Xl z i (c.cps.getD 0 0))) H
def x2y:MtM X "str.rjust" rRjust:=by
 intro g s E H x vs v F Q I j o h;obtain⟨z,i,c,rfl,rfl,B,C,q⟩:=h;obtain⟨t,rfl⟩:=j;obtain⟨u,w,rfl,D,f⟩:=o.two;obtain⟨G,rfl⟩:=D;obtain⟨J,rfl⟩:=f;exact rjust_fill B C λL k=>⟨.str _,H,I.tok _,⟨_,rfl⟩,q⟩
def z2a:CallR X (.type "str") (λxs H Q=>∃n:Nat,xs=[.int (n:Int)]/\n<=10^14/\Q (.str (Ab (toString (n:Int)))) H):=by
 intro f s v H xs B Q I r h;obtain⟨n,rfl,j,q⟩:=h;obtain⟨u,rfl,t,rfl⟩:=vals1 r;refine PySem.P.str_of_int ?_ ⟨.str (Ab (toString (n:Int))),H,I.tok _,⟨_,rfl⟩,q⟩;rw[Vf];have o:n<2^50:=Li j (by decide);have:n.log2<50:=by
  by_cases g:n=0
  ·rw[g];decide
  ·exact(Nat.log2_lt g).mpr o
 lia
end
end L2
namespace K
open PySem L2 TX
noncomputable def wn(w:Nat)(t:List Nat):List Nat:=List.replicate (w-t.length) 48++t
def rj{w:Nat}:Xl (mk t) (w:Int) 48=mk (wn w t):=by
 have hl:(mk t).length=t.length:=by rw[len,q1g]
 unfold Xl wn;by_cases h:((w:Nat):Int)<=((mk t).length:Int)
 ·simp_all
 ·rw[if_neg h,hl];simp[Du.Str.padded,tl,mk]
end K
namespace L2
open PySem PySem.Spec PyProof.Rows
def Inv.thaw{j:St}(I:Inv X pins j H s)(hd:H d=some (.frz ob u))(D:∀o v,X.H₀ d≠some (.frz o v)):Inv X pins j (upd H d u) s:=by
 have f:∀{v:HO} {b:Addr},H b=some v->(∀o z,v≠.frz o z)->b≠d:=λ{v b} z hv y=>by
  subst y;rw[hd] at z;cases z;exact hv _ _ rfl
 have g:∀{b:Addr},H b=none->b≠d:=λ{b} z y=>by subst y;rw[hd] at z;cases z
 refine⟨I.ok,I.os,I.bare,⟨I.base.keep,I.base.slot,λb o e n E=>?_,I.base.there,λb B e=>?_,λb o v e=>?_,λb F e=>?_⟩,I.loc,I.cell,?_,λx c e=>?_,λp G=>?_,λb v e=>?_,I.len⟩
 ·have z:=I.base.free b o e n E;rw[q0f (g z)];exact z
 ·have z:=I.base.tups b B e;rw[q0f (f z λ_ _ y=>(by cases y))];exact z
 ·have z:=I.base.frzs b o v e;rw[q0f (λy=>by subst y;exact D _ _ e)];exact z
 ·obtain⟨m,z⟩:=I.base.tbls b F e;exact⟨m,by rw[q0f (f z λ_ _ y=>(by cases y))];exact z⟩
 ·rw[q0f (g I.free)];exact I.free
 ·rw[q0f (g (I.freeC x c e))];exact I.freeC x c e
 ·obtain⟨e,n,ne,h,dd⟩:=I.pin p G;exact⟨e,by rw[q0f (g n)];exact n,ne,h,dd⟩
 ·have st:∀{b:Addr} {v:HO},ObjOk X.prog X.w H s.heap b v->ObjOk X.prog X.w (upd H d u) s.heap b v:=λx =>
   x.stay (λ_ _ _ q=>q) (λc q=>by rw[q0f (f q λ_ _ y=>(by cases y))];exact q) λc B q=>by rw[q0f (f q λ_ _ y=>(by cases y))];exact q
  by_cases C:b=d
  ·subst C;rw[q0d] at e;cases e;exact st (I.hok b _ hd).2
  ·rw[q0f C] at e;exact st (I.hok b v e)
noncomputable def Ends.thaw(D:Ends)(d:Addr):Ends where
 nx:=λσ H=>∃ob u,H d=some (.frz ob u)/\D.nx σ (upd H d u)
 rt:=λv H=>∃ob u,H d=some (.frz ob u)/\D.rt v (upd H d u)
 bk:=λσ H=>∃ob u,H d=some (.frz ob u)/\D.bk σ (upd H d u)
 ct:=λσ H=>∃ob u,H d=some (.frz ob u)/\D.ct σ (upd H d u)
noncomputable def tThaw(h₀:Hp)(t:TS):TS:=λD σ H=>∃d,(∀o v,h₀ d≠some (.frz o v))/\t (D.thaw d) σ H
def x6k{X:Cx}{st:Stmt}{t:TS}(j:Hp)(F:X.H₀=j)(h:PS X st t):PS X st (tThaw j t):=by
 subst F;intro B s G H D I q;obtain⟨d,hd,q⟩:=q;refine Cb (h B s G H _ I q) (λf J z=>?_) λ_ _ z=>z;cases f with
 |next=>obtain⟨g,C,o,E,u,e,n⟩:=z;exact⟨g,_,o.thaw e hd,n⟩
 |brk=>obtain⟨g,C,o,E,u,e,n⟩:=z;exact⟨g,_,o.thaw e hd,n⟩
 |cont=>obtain⟨g,C,o,E,u,e,n⟩:=z;exact⟨g,_,o.thaw e hd,n⟩
 |ret v=>obtain⟨x,g,C,o,r,E,u,e,n⟩:=z;exact⟨x,g,_,o.thaw e hd,r,n⟩
end L2
namespace PySem.Rv
open Sem (wp)
section
variable{prog:Ak}{w:World}{A:Around}{E:Value->Ag->Prop}{s:Ag}{it d:Addr}{i ep:Nat}{dob:Obj}{ens:Array Jw}
def keys_iter(f:(d==Dp)=false)(j:s.TypeIs (.ref d) "dict")(g:s.heap.get? d=some dob)(h:dob.data=.dict ens ep)(o:Q (.ref s.heap.objs.size) { s with heap:=s.heap.push { cls:=.type "dict_keyiterator",data:=.fields #[.ref d,.int 0 0,.int ens.size 0,.int ep 0] } }):
  wpAny (model prog w) A (Ml (.ref d)) Q E s:=by
 refine Qe j Wt (By Wt j F.entry_dict_iter ?_ (F.args_dict_iter_1 _));refine Ac (Ac (Su j (Ad ?_)));show wpAny _ _ (Nd d >>= _) _ _ s;unfold Nd;rw[if_neg (by rw[f];decide)];refine Ac (Ad (Ac (Hz g h (Ac (Jd g h ?_)))));refine Ac (Cc (Ad ⟨_,rfl, "dict_keyiterator",_,⟨_,An _ rfl,rfl⟩,Ft.lookup,?_⟩));simpa[El] using o
def keys_item(f:s.heap.IsKeyIter it d i ens.size ep)(o:s.heap.get? d=some dob)(u:dob.data=.dict ens ep)(v:i<ens.size)(C:∀h',h'.IsKeyIter it d (i+1) ens.size ep->Fx it s.heap h'->Q (some ens[i].key) { s with heap:=h' }):wpAny (model prog w) A (Jm (.ref it)) Q E s:=by
 obtain⟨io,j,B,g⟩:=id f;refine Ac (Eh (Cg f.typeIs Ft
  (By Ft f.typeIs Og ?_ (Ny _))))
 refine Ac (Ad (Ac (Ac ?_)));first|refine Ac (Gx f.typeIs (Ad ?_))|refine Ac (Im f.typeIs (Ad ?_))
 refine Ac (Oq j g ?_);refine Ac (Ad (Ac (Hz o u ?_)));rw[if_neg (by simp)];refine Ac (Ad (Ac (Jd o u ?_)));rw[if_neg (by simp)];refine Ad ?_;simp only[show ¬((i:Int)<0) from by lia,if_false,Hy,Gh v];refine Ac ?_;first|refine Ac (Gx f.typeIs (Ad ?_))|refine Ac (Im f.typeIs (Ad ?_))
 refine Ac (Sv f.typeIs ?_);show wpAny _ _ (setField (.ref it) 1 (El ((i:Int)+1)) >>= _) _ _ s;refine Ac (Hb j g (by simp) ?_);have h:(s.heap.update it (Fo (·.setIfInBounds 1 (El ((i:Int)+1))))).IsKeyIter it d (i+1) ens.size ep :=
  ⟨_,Er _ j (Js (Fm g _)),(Vx ..).trans B,by rw[Fm g];simp[El]⟩
 refine Ac (Cq (Ac (Sv (s:={ s with heap:=s.heap.update it (Fo (·.setIfInBounds 1 (El ((i:Int)+1)))) }) h.typeIs ?_)));exact Ad (Ad ⟨_,rfl,Ad (C _ h (Iv ..))⟩)
def keys_end(v:A.handled=none)(f:s.heap.IsKeyIter it d i ens.size ep)(g:s.heap.get? d=some dob)(h:dob.data=.dict ens ep)(u:ens.size<=i)(B:∀h',Sa it s.heap h'->Q none { s with heap:=h' }):wpAny (model prog w) A (Jm (.ref it)) Q E s:=by
 obtain⟨io,j,C,o⟩:=id f;refine Ac (Eh (Cg f.typeIs Ft
  (By Ft f.typeIs Og ?_ (Ny _))))
 refine Ac (Ad (Ac (Ac ?_)));first|refine Ac (Gx f.typeIs (Ad ?_))|refine Ac (Im f.typeIs (Ad ?_))
 refine Ac (Oq j o ?_);refine Ac (Ad (Ac (Hz g h ?_)));rw[if_neg (by simp)];refine Ac (Ad (Ac (Jd g h ?_)));rw[if_neg (by simp)];refine Ad ?_;simp only[show ¬((i:Int)<0) from by lia,if_false,Hy,Sd u];refine Ac ?_;first|refine Ac (Gx f.typeIs (Ad ?_))|refine Ac (Im f.typeIs (Ad ?_))
 show wpAny _ _ (setField (.ref it) 0 .none >>= _) _ _ s;refine Ac (Hb j o (by simp) ?_);refine Ac ?_;refine Ac (Cc ?_ (by size_fits));refine Ac (Kq (by first|rfl|(simp only[Sr];rfl)) ?_);refine Cc ?_ (by size_fits);refine Ac (Uc ?_);rw[show A.in1.handled=none from v];refine Ac (Ad (Wi ?_));refine Ac (Fz ⟨_,An _ rfl,rfl⟩ Lu ?_);exact Ad (B _ (((Iv ..).extBut.push _).push _))
end
end PySem.Rv
namespace L2
open PySem PySem.Spec PyProof.Rows
noncomputable def Itk(d:Addr)(ob:Obj)(kvs:List (List Key×V)):It :=
 ⟨λi H=>H d=some (.frz ob (.dT kvs))/\i<kvs.length,λi H x H'=>H'=H/\∃k v b,kvs[i]?=some (k,v)/\H b=some (.tup (k.map kV))/\x=.ref b,λi H=>H d=some (.frz ob (.dT kvs))/\kvs.length<=i⟩
def Hw.at'{F:α->β->Prop}{l:List α}{m:List β}{i:Nat}{p:α}(h:Hw F l m)(e:l[i]?=some p):∃q,m[i]?=some q/\F p q:=by
 induction h generalizing i with
 |nil=>simp at e
 |cons r _ ih =>
  cases i with
  |zero=>cases e;exact⟨_,rfl,r⟩
  |succ i=>exact ih e
def z9j(ok:HOk P w H h)(g:H d=some (.frz ob (.dT kvs)))(j:ob.data=.dict ens ep):
  h.get? d=some ob/\ens.size=kvs.length/\∀{i:Nat} {k:List Key} {v:V} (hlt:i<ens.size),kvs[i]?=some (k,v)->∃b,ens[i].key=.ref b/\H b=some (.tup (k.map kV)):=by
 obtain⟨f,z,s,D,u,o,I,E,B,J,C,F,L⟩:=(show ObjOk P w H h d (.frz ob (.dT kvs)) from ok d _ g)
 rw[f] at B;cases B;rw[j] at C;cases C;have hl:=Ht u;have M:ens.size=D.length:=by rw[<- Iu,F,Af]
 refine⟨f,by lia,λ{i k v} hlt hk=>?_⟩;obtain⟨q,O,Q,G,R⟩:=Hw.at' u hk;refine⟨q.2.1,?_,G⟩;have:ens.toList[i]?=some (Qh (Ky (mixKind P w)) q):=by simp_all
 rw[Sw,Gh hlt] at this;injection this with this;rw[this];rfl
def z7a{K:Ah}(d it:Addr)(Z:Obj)(kvs:List (List Key×V))(B:Array Jw)(ep:Nat)(g:Z.data=.dict B ep):
  Turn P w K tg (Itk d Z kvs) [it] it (λi h=>h.IsKeyIter it d i B.size ep) where
 mem:=by simp
 obj:=λi h st b D=>by
  have e:b=it:=by grind
  subst e;obtain⟨o,e,c,dd⟩:=st;exact⟨o,e,λv z=>by rw[dd] at z;cases z⟩
 keep:=λi h M st k=>st.at λo e=>k it (by simp) o e
 item:=by
  intro X hP hw hK hc i j s σ H E I L st O;obtain⟨C,hi⟩:=O;obtain⟨f,Q,u⟩:=z9j I.hok C g;obtain⟨f0,R,f2,S,T,U⟩:=L it (by simp);obtain⟨⟨k,v⟩,F⟩:∃p,kvs[i]?=some p:=⟨kvs[i],by simp[hi]⟩
  have G:i<B.size:=by lia
  obtain⟨b,W,Y⟩:=u G F;refine PySem.Rv.keys_item st f g G λM J sb=>?_
  rw[W];have I1:Inv X j σ H { s with heap:=M }:=I.turned (t':=s.toks) (λb o D e=>(sb.2 b D).trans e) f0 R S T U;obtain⟨o,e,c,dd⟩:=id J;exact⟨.ref b,rfl,z3u e c dd (by decide) ⟨.ref b,H,I1,rfl,⟨rfl,k,v,b,F,Y,rfl⟩,J,λb D=>(L b D).1⟩⟩
 done:=by
  intro X hP hw hK hc i j s σ H E I L st O;obtain⟨C,hi⟩:=O;obtain⟨f,Q,u⟩:=z9j I.hok C g;obtain⟨f0,R,f2,S,T,U⟩:=L it (by simp);exact PySem.Rv.keys_end (I.ok.hd hc) st f g (by lia) λM eb=>⟨rfl,I.turned (t':=s.toks) (λb o D e=>eb b o D e) f0 R S T U⟩
 self:=λ_ _ _ _ _ st h=>wpAny_pyIter_keyiter st h
section
variable{X:Cx}{tg l:Expr}{tl:TE}
noncomputable def iDictT(tl:TE):TI:=λσ H R=>tl σ H λx H1=>∃d kvs,x=.ref d/\H1 d=some (.dT kvs)/\∀ob,R (Itk d ob kvs) (upd H1 d (.frz ob (.dT kvs)))
def x2z(hl:PE X l tl):PI X tg l (iDictT tl):=by
 intro g s M H R I h;refine thnE (hl g s M H _ I h) λv f x O D P Q=>?_;obtain⟨d,j,e,hd,q⟩:=Q;subst e;cases P;obtain⟨z,u,T,U,F,B,L,E,G,C,W,Y⟩:=(show ObjOk X.prog X.w O f.heap d (.dT j) from D.hok d _ hd)
 refine PySem.Rv.keys_iter u ⟨F,E,G.1⟩ E C ?_;have J:=Bj (Al E);have S:=(D.freezeK hd E (.inr ⟨_,rfl⟩)).kept (t':=f.toks) (h':=f.heap.push { cls:=.type "dict_keyiterator",data:=.fields #[.ref d,.int 0 0,.int B.size 0,.int L 0] }) λb o e=>Ae _ e;refine⟨f.heap.objs.size,[f.heap.objs.size],_,_,_,rfl,S,z7a d _ F j B L C,⟨_,An _ rfl,rfl,rfl⟩,λb Z=>?_,q F⟩;have e:b=f.heap.objs.size:=by grind
 subst e;exact D.fpOk (Ai _) (by rw[q0f (Bz J)];exact D.hok.fresh (Ai _))
def ditT_k(K:Ah)(f:X.K=K)(hl:PE X l tl):PI X tg l (iDictT tl):=x2z hl
def z9k{g:TG}{tb:TS}{D:Ends}(j:Nat->St->Hp->Prop)(C:j 0 f H)(hl:∀i f H,j i f H->H d=some (.frz ob (.dT kvs)))(E:∀i k v b f H,kvs[i]?=some (k,v)->H b=some (.tup (k.map kV))->j i f H->g (.ref b) f H λo u=>tb { D with nx:=j (i+1),ct:=j (i+1),bk:=D.nx } o u)(hd:∀f H,j kvs.length f H->D.nx f H):
  ∃W:Nat->Nat->St->Hp->Prop,(∃m,W 0 m f H)/\∀i m f H,W i m f H ->
   ((Itk d ob kvs).stop i H/\D.nx f H)\/((Itk d ob kvs).go i H/\∃N:St->Hp->Prop,(∀s H',N s H'->∃B,B<m/\W (i+1) B s H')/\∀x H',(Itk d ob kvs).yld i H x H'->g x f H' λo u=>tb { D with nx:=N,ct:=N,bk:=D.nx } o u):=by
 refine z1s j C (λi f H h p=>⟨hl i f H p,h⟩) (λf H p=>⟨hl _ f H p,Ai _⟩) (λi x f H H' h p F=>?_) hd;obtain⟨rfl,k,v,b,hk,G,rfl⟩:=F;exact E i k v b f _ hk G p
end
end L2
namespace SB
open PySem PyProof.Rows
section
variable{prog:Ak}{w:World}{A:Around}{E:Value->Ag->Prop}{s:Ag}
noncomputable def Tells(prog:Ak)(w:World)(A:Around)(s:Ag)(kd:My)(S:Value->Prop)(r:Value->Int):Prop :=
 ∀(E:Value->Ag->Prop) (x y:Value) (Q:Bool->Ag->Prop),S x->S y->Q (decide (r x<r y)) s->wpAny (model prog w) A (keyLt' kd x y) Q E s
noncomputable def rk(r:Value->Int)(xs:Array Keyed)(i:Nat):Int:=((xs[i]?).map λp=>r p.1).getD 0
def x6l(h:xs[i]?=ys[j]?):rk r xs i=rk r ys j:=by unfold rk;rw[h]
def rk_if[Decidable c](h:xs[i]?=if c then ys[a]? else ys[b]?):rk r xs i=if c then rk r ys a else rk r ys b:=by
 by_cases f:c
 ·rw[if_pos f] at h ⊢;exact x6l h
 ·rw[if_neg f] at h ⊢;exact x6l h
def z9l(f:j<=xs.size)(k:Nat):rk r (Nz xs i j ((j-i) / 2)) k=if i<=k/\k<j then rk r xs (i+j-1-k) else rk r xs k:=rk_if (getElem?_mirror_all f k)
def x4y(hn:n<xs.size)(hd:d<=n)(k:Nat):rk r (bubble xs n d) k=if k=n-d then rk r xs n else if n-d<k/\k<=n then rk r xs (k-1) else rk r xs k:=by
 have e:=getElem?_bubble hn d hd k;by_cases h:k=n-d
 ·rw[if_pos h] at e ⊢;exact x6l e
 ·rw[if_neg h] at e ⊢;exact rk_if e
structure Mid (kd:My) (a₀:Array Keyed) (st:Je):Prop where
 pm:(arrOf st).Perm a₀
 kn:kindOf st=kd
 fl:Wu st=none
 pd:Rq st=#[]
variable{kd:My}{S:Value->Prop}{r:Value->Int}{a₀:Array Keyed}
def Mid.sz{st:Je}(h:Mid kd a₀ st):(arrOf st).size=a₀.size:=h.pm.size_eq
def Mid.put{st:Je}(h:Mid kd a₀ st)(p:xs.Perm (arrOf st)):Mid kd a₀ (setArr st xs):=⟨p.trans h.pm,h.kn,h.fl,h.pd⟩
def z9m{st:Je}(T:Tells prog w A s kd S r)(f:∀p∈a₀.toList,S p.1)(m:Mid kd a₀ st)(g:i<a₀.size)(o:j<a₀.size)(h:Q (some (decide (rk r (arrOf st) i<rk r (arrOf st) j))) st):wpS (model prog w) A E s (ltAt' i j) Q st:=by
 have get:∀{k:Nat},k<a₀.size->∃p,(arrOf st)[k]?=some p/\S p.1/\rk r (arrOf st) k=r p.1:=λ{k} hk=>by
  have hk':k<(arrOf st).size:=by rw[m.sz];exact hk
  have e:(arrOf st)[k]?=some (arrOf st)[k]:=getElem?_pos _ k hk';refine⟨_,e,f _ ((Px.mp m.pm).mem_iff.mp (by simp)),?_⟩;unfold rk;rw[e];rfl
 obtain⟨p,u,v,B⟩:=get g;obtain⟨q,C,D,F⟩:=get o;rw[B,F] at h;refine Cs (Sx ?_);show wpS _ _ _ _ (elem' (arrOf st) i >>= λx=>elem' (arrOf st) j >>= λy=>lt' x y) Q st;rw[elem'_eq,elem'_eq,u,C];refine Cs (Ej (Cs (Ej ?_)));rw[lt'_eq];refine Cs (Sx ?_);rw[m.kn];exact Cs (wpS_lift (Eh (T _ p.1 q.1 _ v D ⟨rfl,Ej h⟩)))
noncomputable def Up(r:Value->Int)(xs:Array Keyed)(n:Nat):Prop:=∀i j,i<=j->j<n->rk r xs i<=rk r xs j
noncomputable def Down(r:Value->Int)(xs:Array Keyed)(n:Nat):Prop:=∀i j,i<=j->j<n->rk r xs j<=rk r xs i
def Up.one:Up r xs 1:=λi j f g=>by rw[show i=j by lia];exact Se _
def Up.more(h:Up r xs n)(g:1<=n)(e:rk r xs (n-1)<=rk r xs n):Up r xs (n+1):=λi j a b=>by
 by_cases z:j<n
 ·exact h i j a z
 ·have f:j=n:=by lia
  subst f;by_cases y:i=j
  ·grind
  ·have:=h i (j-1) (by lia) (by lia);lia
def Down.more(h:Down r xs n)(g:1<=n)(e:rk r xs n<=rk r xs (n-1)):Down r xs (n+1):=λi j a b=>by
 by_cases z:j<n
 ·exact h i j a z
 ·have f:j=n:=by lia
  subst f;by_cases y:i=j
  ·grind
  ·have:=h i (j-1) (by lia) (by lia);lia
def Down.mir(h:Down r xs n)(hn:n<=xs.size):Up r (Nz xs 0 n ((n-0) / 2)) n:=λi j a b=>by
 rw[z9l hn,z9l hn,if_pos (by lia),if_pos (by lia)];exact h _ _ (by lia) (by lia)
def q7q(f:j<=xs.size)(h:∀k,i<=k->k<j->rk r xs k=rk r xs (j-1))(k:Nat):rk r (Nz xs i j ((j-i) / 2)) k=rk r xs k:=by
 rw[z9l f];by_cases z:i<=k/\k<j
 ·grind
 ·rw[if_neg z]
def x4z{st:Je}(T:Tells prog w A s kd S r)(o:∀p∈a₀.toList,S p.1)(m:Mid kd a₀ st)(hn:n<=a₀.size)(D:1<=a)(v:a<=n)(u:Up r (arrOf st) a)(h:∀k,a<=k->k<=n->Up r (arrOf st) k->(k=n\/rk r (arrOf st) k<rk r (arrOf st) (k-1))->Q (none,k) st):wpS (model prog w) A E s (ascLoop a n) Q st:=by
 refine Lk (λx c t=>t=st/\c=(none,x)/\Up r (arrOf st) x) (λx c t B C ⟨g,j,f⟩=>?_) (λc t ⟨g,j,f⟩=>?_) ⟨rfl,rfl,u⟩
 ·subst g j;refine Cs (z9m T o m (by lia) (by lia) ?_);by_cases z:rk r (arrOf t) x<rk r (arrOf t) (x-1)
  ·simp only[decide_eq_true z,if_true];exact Ej (h x B (by lia) f (.inr z))
  ·simp only[decide_eq_false z,Bp,if_false];exact Ej ⟨rfl,rfl,f.more (by lia) (by lia)⟩
 ·grind
def z9n{st:Je}(T:Tells prog w A s kd S r)(o:∀p∈a₀.toList,S p.1)(m:Mid kd a₀ st)(hn:n<=a₀.size)(v:1<=k)(f:k<=n)(d:Down r (arrOf st) k)(h:∀j t,Mid kd a₀ t->1<=j->j<=n->Up r (arrOf t) j->Q (some j) t):wpS (model prog w) A E s (tail3 k n) Q st:=by
 have g:=m.put (Sf (arrOf st) 0 k ((k-0) / 2));refine Cs (Sg (Cs (x4z T o g hn v f (d.mir (by rw[m.sz];lia)) λj a b u _=>Ej (h j _ g (by lia) b u))))
def x6m{st:Je}(T:Tells prog w A s kd S r)(v:∀p∈a₀.toList,S p.1)(m:Mid kd a₀ st)(hn:n<=a₀.size)(J:1<=k)(D:k<=n)(d:Down r (arrOf st) k)(h:∀j q t,Mid kd a₀ t->k<=j->j<=n->Down r (arrOf t) j->q+1<=j->(∀i,j-(q+1)<=i->i<j->rk r (arrOf t) i=rk r (arrOf t) (j-1))->Q (none,j,q) t):wpS (model prog w) A E s (descLoop k n) Q st:=by
 refine Lk (λx c t=>∃q,c=(none,x,q)/\Mid kd a₀ t/\Down r (arrOf t) x/\q+1<=x/\∀i,x-(q+1)<=i->i<x->rk r (arrOf t) i=rk r (arrOf t) (x-1))
  (λx c t F G ⟨q,B,f,g,C,u⟩=>?_) (λc t ⟨q,B,f,g,C,u⟩=>?_) ⟨0,rfl,m,d,by lia,λi a b=>by rw[show i=k-1 by lia]⟩
 ·subst B;have H:x<=(arrOf t).size:=by rw[f.sz];lia
  dsimp only;refine Cs (z9m T v f (by lia) (by lia) ?_);by_cases z:rk r (arrOf t) x<rk r (arrOf t) (x-1)
  ·simp only[decide_eq_true z,if_true];by_cases y:q>0
   ·rw[if_pos y];have o:=λk=>q7q H u k;have I:Down r (Nz (arrOf t) (x-(q+1)) x ((x-(x-(q+1))) / 2)) x:=λi j a b=>by rw[o,o];exact g i j a b
    exact Cs (Sg (Ej ⟨0,rfl,f.put (Sf _ _ _ _),I.more (by lia) (by rw[o,o];lia),by lia,λi a b=>by rw[show i=x+1-1 by lia]⟩))
   ·rw[if_neg y];exact Ej ⟨0,rfl,f,g.more (by lia) (by lia),by lia,λi a b=>by rw[show i=x+1-1 by lia]⟩
  ·simp only[decide_eq_false z,Bp,if_false];refine Cs (z9m T v f (by lia) (by lia) ?_);by_cases y:rk r (arrOf t) (x-1)<rk r (arrOf t) x
   ·simp only[decide_eq_true y,if_true];exact Ej (h x q t f F (by lia) g C u)
   ·simp only[decide_eq_false y,Bp,if_false];have ex:rk r (arrOf t) x=rk r (arrOf t) (x-1):=by lia
    refine Ej ⟨q+1,rfl,f,g.more (by lia) (by lia),by lia,λi a b=>?_⟩;rw[show x+1-1=x by lia,ex];by_cases c:i=x
    ·rw[c,ex]
    ·grind
 ·grind
def z9o{st:Je}(T:Tells prog w A s kd S r)(f:∀p∈a₀.toList,S p.1)(m:Mid kd a₀ st)(hn:n<=a₀.size)(g:k+1<=n)(d:Down r (arrOf st) (k+1))(h:∀j t,Mid kd a₀ t->1<=j->j<=n->Up r (arrOf t) j->Q (some j) t):wpS (model prog w) A E s (descPart k n) Q st:=by
 refine Cs (wpS_lift (Hd ⟨rfl,Cs (x6m T f m hn (by lia) g d λj q t o a b dt F u=>?_)⟩));have v:j<=(arrOf t).size:=by rw[o.sz];lia
 dsimp only;by_cases y:q>0
 ·rw[if_pos y];exact Cs (Sg (z9n T f (o.put (Sf _ _ _ _)) hn (by lia) b (λi B C D=>by show rk r (Nz _ _ _ _) B<=rk r (Nz _ _ _ _) i;rw[q7q v u,q7q v u];exact dt i B C D) h))
 ·rw[if_neg y];exact z9n T f o hn (by lia) b dt h
def run_ok{st:Je}(T:Tells prog w A s kd S r)(v:∀p∈a₀.toList,S p.1)(m:Mid kd a₀ st)(hn:n<=a₀.size)(C:1<=n)(h:∀j t,Mid kd a₀ t->1<=j->j<=n->Up r (arrOf t) j->Q (some j) t):wpS (model prog w) A E s (countRun' 0 n) Q st:=by
 rw[countRun0_eq];refine Cs (x4z T v m hn (Ai 1) C Up.one λk a b u o=>?_);have B:k<=(arrOf st).size:=by rw[m.sz];lia
 dsimp only;by_cases e:k=n
 ·rw[if_pos (by simpa using e)];exact Ej (h k st m a b u)
 rw[if_neg (by simpa using e)];by_cases g:k>1
 ·rw[if_pos g];refine Cs (z9m T v m (by lia) (by lia) ?_);by_cases z:rk r (arrOf st) 0<rk r (arrOf st) (k-1)
  ·simp only[decide_eq_true z,if_true];exact Ej (h k st m a b u)
  ·simp only[decide_eq_false z,Bp,if_false];have f:∀i,0<=i->i<k->rk r (arrOf st) i=rk r (arrOf st) (k-1):=λi _ D=>by
    have H:=u 0 i (by lia) D;have I:=u i (k-1) (by lia) (by lia);lia
   refine Cs (Sg (z9o T v (m.put (Sf _ _ _ _)) hn (by lia) (Down.more (λi j F G=>?_) (by lia) ?_) h))
   ·show rk r (Nz _ _ _ _) j<=rk r (Nz _ _ _ _) i;rw[q7q B f,q7q B f,f i (by lia) (by lia),f j (by lia) (by lia)];exact Se _
   ·show rk r (Nz _ _ _ _) k<=rk r (Nz _ _ _ _) (k-1);rw[q7q B f,q7q B f];lia
 ·rw[if_neg g];exact z9o T v m hn (by lia) (Down.more (λi j F G=>by rw[show i=j by lia];exact Se _) (by lia) (by lia)) h
def ins_ok{st:Je}(T:Tells prog w A s kd S r)(L:∀p∈a₀.toList,S p.1)(m:Mid kd a₀ st)(hn:n<=a₀.size)(hk:k<=n)(u:Up r (arrOf st) k)(h:∀t,Mid kd a₀ t->Up r (arrOf t) n->Q true t):wpS (model prog w) A E s (binarySort' 0 n k) Q st:=by
 rw[binarySort'_eq];simp only[Nat.zero_add];refine Cs (Wv (Lk (λj c t=>c=(none,())/\Mid kd a₀ t/\Up r (arrOf t) (min j n)) (Q:=λc t=>c=(none,())/\Mid kd a₀ t/\Up r (arrOf t) n) ?step ?fin ⟨rfl,m,?init⟩) ?post)
 case step =>
  rintro j c t Z M ⟨rfl,B,o⟩;refine Cs (Wv (Lk (λx c v=>v=t/\∃f g,c=(none,f,g)/\f<=g/\g<=j/\g-f<=j-x/\(∀i,i<f->rk r (arrOf t) i<=rk r (arrOf t) j)/\∀i,g<=i->i<j->rk r (arrOf t) j<rk r (arrOf t) i)
   (Q:=λc v=>v=t/\∃f g,c=(none,f,g)/\f<=j/\(∀i,i<f->rk r (arrOf t) i<=rk r (arrOf t) j)/\∀i,f<=i->i<j->rk r (arrOf t) j<rk r (arrOf t) i)
   ?st2 ?fi2 ⟨rfl,0,j,rfl,by lia,by lia,by lia,λi z=>by lia,λi z y=>by lia⟩) ?po2)
  case st2 =>
   rintro x c v hx O ⟨rfl,f,g,rfl,G,H,P,C,D⟩;dsimp only;by_cases z:f>=g
   ·rw[if_pos z];exact Ej ⟨rfl,f,g,rfl,by lia,C,λi b c=>D i (by lia) c⟩
   ·rw[if_neg z];refine Cs (z9m T L B (by lia) (by lia) ?_);by_cases y:rk r (arrOf v) j<rk r (arrOf v) ((f+g) / 2)
    ·simp only[decide_eq_true y,if_true];refine Ej ⟨rfl,f,(f+g) / 2,rfl,by lia,by lia,by lia,C,λi b c=>?_⟩;have:=o ((f+g) / 2) i b (by lia);lia
    ·simp only[decide_eq_false y,Bp,if_false];refine Ej ⟨rfl,(f+g) / 2+1,g,rfl,by lia,H,by lia,λi b=>?_,D⟩;have:=o i ((f+g) / 2) (by lia) (by lia);lia
  case fi2 =>
   rintro c v ⟨rfl,f,g,rfl,G,H,P,C,D⟩;exact⟨rfl,f,g,rfl,by lia,C,λi b c=>D i (by lia) c⟩
  case po2 =>
   rintro c v ⟨rfl,f,g,rfl,G,C,D⟩;rw[moveDown'_eq];have I:j<(arrOf v).size:=by rw[B.sz];lia
   refine Cs (Xm (Ej ⟨rfl,B.put (bubble_perm _ _ _),λi F b c=>?_⟩));have R:j-(j-f)=f:=by lia
   rw[x4y I (by lia),x4y I (by lia),R];by_cases U:i=f
   ·grind
   ·rw[if_neg U];by_cases W:F=f
    ·grind
    ·rw[if_neg W];by_cases J:f<i/\i<=j
     ·rw[if_pos J,if_pos (by lia)];exact o _ _ (by lia) (by lia)
     ·rw[if_neg J];by_cases X:f<F/\F<=j
      ·grind
      ·rw[if_neg X];exact o _ _ b (by lia)
 case fin =>
  rintro c t ⟨Y,B,o⟩;have e:min (max (max k 1) n) n=n:=by lia
  rw[e] at o;exact⟨Y,B,o⟩
 case init =>
  intro i j a b;by_cases z:k=0
  ·grind
  ·exact u i j a (by lia)
 case post =>
  rintro c t ⟨rfl,B,o⟩;exact Ej (h t B o)
structure Fin' (a₀:Array Keyed) (r:Value->Int) (st:Je):Prop where
 pm:(arrOf st).Perm a₀
 fl:Wu st=none
 pd:Rq st=#[(0,a₀.size,0)]
 up:Up r (arrOf st) a₀.size
def x6n{st:Je}(T:Tells prog w A s kd S r)(H:∀p∈a₀.toList,S p.1)(m:Mid kd a₀ st)(P:2<=a₀.size)(I:a₀.size<64)(h:∀t,(arrOf t).Perm a₀->Wu t=none->Up r (arrOf t) a₀.size->Q () t):wpS (model prog w) A E s sortRuns' Q st:=by
 rw[sortRuns'_eq];have J:minRun' a₀.size a₀.size 0=a₀.size:=by
  cases z:a₀.size with
  |zero=>rfl
  |succ f=>rw[minRun'_succ,if_pos (by lia)]
 have C:∀{t:Je},Mid kd a₀ t->Up r (arrOf t) a₀.size->Fin' a₀ r (setPending t ((Rq t).push (0,a₀.size,0))):=λ{t} u ut=>⟨u.pm,u.fl,by show(Rq t).push _=_;rw[u.pd];rfl,ut⟩
 have g:∀{t:Je},Mid kd a₀ t->(Rq t).back?=none:=λ{t} u=>by rw[u.pd];rfl
 refine Cs (Sx ?_);simp only[m.sz,J];refine Cs (Wv (Lk (λx c t=>(x=0/\c=(none,0)/\Mid kd a₀ t)\/(1<=x/\c=(none,a₀.size)/\Fin' a₀ r t)) (Q:=λc t=>c=(none,a₀.size)/\Fin' a₀ r t) ?st1 ?fi1 (.inl ⟨rfl,rfl,m⟩)) ?po1)
 case st1 =>
  intro x c t _ R o;rcases o with⟨rfl,rfl,u⟩|⟨U,rfl,f⟩
  ·dsimp only;rw[if_neg (by lia)];simp only[Qw,Vg,Nat.zero_add];refine Cs (run_ok T H u (Ai _) (by lia) λj B v W L D=>?_);dsimp only;by_cases z:j<a₀.size
   ·rw[if_pos z];refine Cs (wpS_lift (Hd ⟨rfl,Cs (ins_ok T H v (Ai _) L D λX F G=>?_)⟩));refine Cs (Sx ?_);rw[g F];exact Cs (Xm (Ej (.inr ⟨by lia,rfl,C F G⟩)))
   ·rw[if_neg z];have M:j=a₀.size:=by lia
    subst M;refine Cs (Sx ?_);rw[g v];exact Cs (Xm (Ej (.inr ⟨by lia,rfl,C v D⟩)))
  ·dsimp only;rw[if_pos (Ai _)];exact Ej ⟨rfl,f⟩
 case fi1 =>
  intro c t o;rcases o with⟨z,_⟩|⟨_,O,f⟩
  ·lia
  ·exact⟨O,f⟩
 case po1 =>
  rintro c t ⟨rfl,f⟩;refine Cs (Wv (Lk (λ_ c B=>B=t/\c=(none,())) (Q:=λc B=>B=t/\c=(none,())) ?st3 (λ_ _ z=>z) ⟨rfl,rfl⟩) ?po3)
  case st3 =>
   rintro x c B _ _ ⟨rfl,rfl⟩;refine Cs (Sx ?_);rw[if_pos (by rw[f.pd];exact Ai 1)];exact Ej ⟨rfl,rfl⟩
  case po3 =>
   rintro c B ⟨rfl,rfl⟩;exact Ej (h _ f.pm f.fl f.up)
end
end SB
namespace PySem.Rv
open Sem (wp)
noncomputable abbrev itemObj(d:Addr)(i n ep:Nat)(f0 f1 ok ov:Value):Obj:={ cls:=.type "dict_itemiterator",dict:=none,data:=.fields #[f0,f1,.ref d,.int i 0,.int n 0,.int ep 0,ok,ov],slots:=#[] }
noncomputable def ItemIt(h:Heap)(it d:Addr)(i n ep:Nat):Prop:=∃f0 f1 ok ov,h.get? it=some (itemObj d i n ep f0 f1 ok ov)/\(f0=.none\/∃a:Addr,f0=El a)
def ItemIt.typeIs{s:Ag}(x:ItemIt s.heap it d i n ep):s.TypeIs (.ref it) "dict_itemiterator" := by
 obtain⟨f0,f,ok,g,e,_⟩:=x;exact⟨_,e,rfl⟩
def ItemIt.lt(x:ItemIt h it d i n ep):it<h.objs.size:=by
 obtain⟨f0,f,ok,g,e,_⟩:=x;exact Al e
def ItemIt.keep(x:ItemIt h it d i n ep)(k:∀o,h.get? it=some o->h'.get? it=some o):ItemIt h' it d i n ep:=by
 obtain⟨f0,f,ok,g,e,z⟩:=x;exact⟨f0,f,ok,g,k _ e,z⟩
section
variable{prog:Ak}{w:World}{A:Around}{E:Value->Ag->Prop}{s:Ag}{it d v:Addr}{i ep:Nat}{dob:Obj}{ens:Array Jw}
def items_iter(h:s.heap.IsItemsView v d)(f:s.heap.get? d=some dob)(g:dob.data=.dict ens ep)(j:Q (.ref s.heap.objs.size) { s with heap:=s.heap.push (itemObj d 0 ens.size ep .none (.bool false) .none .none) }):wpAny (model prog w) A (Ml (.ref v)) Q E s:=by
 obtain⟨o,u,C,B⟩:=id h;refine Qe h.typeIs Sh (By Sh h.typeIs F.entry_dict_items_iter ?_ (F.args_dict_items_iter_1 _));unfold Du.«dict_items.__iter__»;refine Ac (Ad (Ac ?_));unfold Du.Dict_items.dictOf;refine Ac (Bs u B rfl (Ad (Ac ?_)));unfold Du.Dict_items.newIterator;refine Ac (Hz f g (Ac (Jd f g ?_)));simp only[show Jt "dict_itemiterator" = true from by decide,if_true];refine Cc (Ad ⟨_,rfl, "dict_itemiterator",_,⟨_,An _ rfl,rfl⟩,Fi.lookup,?_⟩) (by simp[sizeOk,Lx,Et]);simpa[El,itemObj,Lx] using j
def q9a(e:s.heap.get? it=some (itemObj d i n ep f0 f1 ok ov))(hk:k<8)(f:∀h',h'.get? it=some { cls:=.type "dict_itemiterator",dict:=none,data:=.fields ((#[f0,f1,.ref d,.int i 0,.int n 0,.int ep 0,ok,ov]:Array Value).setIfInBounds k x),slots:=#[] }->Fx it s.heap h'->Q () { s with heap:=h' }):
  wpAny (model prog w) A (setField (.ref it) k x) Q E s:=Dl e (by simpa using hk) f
def owned(x:ItemIt s.heap it d i n ep)(f:∀b h',ItemIt h' it d i n ep->Fx it s.heap h'->Q b { s with heap:=h' }):
  wpAny (model prog w) A (Du.Dict_items.ownedTupleIsFree (.ref it)) Q E s:=by
 obtain⟨f0,g,ok,v,e,z⟩:=id x;refine Ac (Bs e rfl rfl ?_);rcases z with rfl|⟨a,rfl⟩
 ·exact Ad (f true s.heap x (Qf _ _))
 ·show wpAny _ _ (loadIfAlive (Int.toNat (a:Int)) >>= _) _ _ _;have j:∀{Q':Option Obj->Ag->Prop},Q' (s.heap.get? (Int.toNat (a:Int))) s->wpAny (model prog w) A (loadIfAlive (Int.toNat (a:Int))) Q' E s:=λh' _ _ _=>h';refine Ac (j ?_);by_cases hn:(s.heap.get? (Int.toNat (a:Int))).isNone=true
  ·rw[if_pos hn];exact Ad (f true s.heap x (Qf _ _))
  ·rw[if_neg hn];refine Ac (Bs e rfl (x:=g) rfl ?_);by_cases h:(g != Value.bool true)=true
   ·rw[if_pos h];refine Ac (q9a e (by decide) λh' o u=>Ad (f false h' ⟨_,_,_,_,o,.inr ⟨a,rfl⟩⟩ u))
   ·rw[if_neg h];exact Ad (f false s.heap x (Qf _ _))
def items_item(x:ItemIt s.heap it d i ens.size ep)(R:s.heap.get? d=some dob)(S:dob.data=.dict ens ep)(a0:i<ens.size)(hQ:∀h',ItemIt h' it d (i+1) ens.size ep->h'.get? s.heap.objs.size=some { cls:=.type "tuple",data:=.seq #[ens[i].key,ens[i].val] }->h'.objs.size=s.heap.objs.size+1 ->
   (∀b o,b≠it->s.heap.get? b=some o->h'.get? b=some o)->Q (some (.ref s.heap.objs.size)) { s with heap:=h' }):wpAny (model prog w) A (Jm (.ref it)) Q E s:=by
 obtain⟨f0,f1,ok,ov,e,z⟩:=id x;have P:=x.typeIs;refine Ac (Eh (Cg P Fi (By Fi P Oa ?_ (Nk _))));refine Ac (Ad (Ac (Ac ?_)));first|refine Ac (Gp P (Ad ?_))|refine Ac (Ie P (Ad ?_))
 refine Ac (Oq e rfl ?_);simp only[show Jt "dict_itemiterator" = true from by decide,if_true];refine Ac (Ad (Ac (Hz R S ?_)));rw[if_neg (by simp)];refine Ac (Ad (Ac (Jd R S ?_)));rw[if_neg (by simp)];refine Ad ?_;simp only[show ¬((i:Int)<0) from by lia,if_false,Hy,Gh a0];refine Ac ?_;first|refine Ac (Gp P (Ad ?_))|refine Ac (Ie P (Ad ?_))
 refine Ac (Mt P ?_);show wpAny _ _ (setField (.ref it) 3 (El ((i:Int)+1)) >>= _) _ _ s;refine Ac (q9a e (by decide) λh T j=>?_);have u:ItemIt h it d (i+1) ens.size ep:=⟨f0,f1,ok,ov,by rw[T];simp[itemObj,El],z⟩
 refine Ac (Cq ?_);refine Ac (Mt u.typeIs (Ac (Mt u.typeIs ?_)));have v:=j.1;have U:=Bj x.lt;refine Ac (Oo ?_);refine Ac (owned (u.keep λo q=>Ae _ q) λb f I g=>?_);have J:f.get? s.heap.objs.size=some { cls:=.type "tuple",data:=.seq #[ens[i].key,ens[i].val] }:=by
  rw[g.2 _ (Bz U),<- v];exact An _ rfl
 have L:f.objs.size=s.heap.objs.size+1:=by rw[g.1];show(h.push _).objs.size=_;rw[Gd,v]
 have M:∀b o,b≠it->s.heap.get? b=some o->f.get? b=some o:=λb o H q=>by
  rw[g.2 b H];exact Ae _ ((j.2 b H).trans q)
 have ez:(Value.ref h.objs.size)=.ref s.heap.objs.size:=by rw[v]
 cases b with
 |false =>
  refine Ad (Ad ⟨_,rfl,Ad ?_⟩);rw[ez];exact hQ f I J L M
 |true =>
  obtain⟨g0,g1,a4,a5,B,_⟩:=I;refine Ac (Bs B rfl rfl (Ac (Bs B rfl rfl ?_)));refine Ac (q9a B (by decide) λa1 W C=>?_);refine Ac (q9a W (by decide) λa2 X D=>?_);refine Ac (q9a X (by decide) λa3 Y F=>?_);refine Ac (q9a Y (by decide) λO Z G=>?_);have kk:∀b o,b≠it->f.get? b=some o->O.get? b=some o:=λb o H q=>(G.2 b H).trans ((F.2 b H).trans ((D.2 b H).trans ((C.2 b H).trans q)))
  refine Ac (Oz (Ad (Ad ⟨_,rfl,Ad ?_⟩)));rw[ez];refine hQ O ⟨_,_,_,_,Z,.inr ⟨_,rfl⟩⟩ (kk _ _ (Bz U) J) ?_ λb o H q=>kk b o H (M b o H q);rw[G.1];rw[F.1];rw[D.1];rw[C.1];exact L
def items_end(o:A.handled=none)(x:ItemIt s.heap it d i ens.size ep)(g:s.heap.get? d=some dob)(h:dob.data=.dict ens ep)(j:ens.size<=i)(u:∀h',Sa it s.heap h'->Q none { s with heap:=h' }):wpAny (model prog w) A (Jm (.ref it)) Q E s:=by
 obtain⟨f0,v,ok,B,e,z⟩:=id x;have f:=x.typeIs;refine Ac (Eh (Cg f Fi (By Fi f Oa ?_ (Nk _))));refine Ac (Ad (Ac (Ac ?_)));first|refine Ac (Gp f (Ad ?_))|refine Ac (Ie f (Ad ?_))
 refine Ac (Oq e rfl ?_);simp only[show Jt "dict_itemiterator" = true from by decide,if_true];refine Ac (Ad (Ac (Hz g h ?_)));rw[if_neg (by simp)];refine Ac (Ad (Ac (Jd g h ?_)));rw[if_neg (by simp)];refine Ad ?_;simp only[show ¬((i:Int)<0) from by lia,if_false,Hy,Sd j];refine Ac ?_;first|refine Ac (Gp f (Ad ?_))|refine Ac (Ie f (Ad ?_))
 show wpAny _ _ (setField (.ref it) 2 .none >>= _) _ _ s;refine Ac (Hb e rfl (by simp) ?_);show wpAny _ _ (newExc (.type "StopIteration") [] >>= _) _ _ _;refine Ac ?_;refine Ac (Cc (Ac (Kq (by first|rfl|(simp only[Sr];rfl)) ?_)) (by size_fits));refine Cc ?_ (by size_fits);refine Ac (Uc ?_);rw[show A.in1.handled=none from o];refine Ac (Ad (Wi ?_));refine Ac (Fz ⟨_,An _ rfl,rfl⟩ Lu ?_);exact Ad (u _ (((Iv ..).extBut.push _).push _))
end
end PySem.Rv
namespace SB
open PySem PyProof.Rows TX
noncomputable abbrev Pth:=List (List Nat)
noncomputable def pLt:Pth->Pth->Bool
 |[],[]=>false
 |[],_::_=>true
 |_::_,[]=>false
 |a::r,b::t=>if a=b then pLt r t else decide (a<b)
def q5l(a b:List Nat)(r t:Pth):pLt (a::r) (b::t)=if a=b then pLt r t else decide (a<b):=rfl
theorem q5w:∀p:Pth,pLt p p=false
 |[]=>rfl
 |a::r=>by rw[q5l,if_pos rfl];exact q5w r
def z2b{c:List Nat}(h:a<b)(h':b<c):a<c:=List.lt_trans h h'
def x6o{b:List Nat}(h:¬a<b)(h':¬b<a):a=b:=List.le_antisymm (List.not_lt.mp h') (List.not_lt.mp h)
theorem z2c:∀{p q t:Pth},pLt p q=true->pLt q t=true->pLt p t=true
 |[],[],_,h,_=>by cases h
 |_::_,[],_,h,_=>by cases h
 |_,_::_,[],_,h=>by cases h
 |[],_::_,_::_,_,_=>rfl
 |a::p,b::q,c::t,h,h'=>by
  rw[q5l] at h h' ⊢;by_cases g:a=b
  ·subst g;rw[if_pos rfl] at h;by_cases f:a=c
   ·rw[if_pos f] at h' ⊢;exact z2c h h'
   ·rw[if_neg f] at h' ⊢;exact h'
  ·rw[if_neg g] at h;by_cases f:b=c
   ·subst f;rw[if_neg g];exact h
   ·rw[if_neg f] at h';have j:=of_decide_eq_true h;have o:=of_decide_eq_true h';have s:=z2b j o;rw[if_neg (λe=>by subst e;exact absurd (z2b j o) (List.lt_irrefl _))];exact decide_eq_true s
theorem z4f:∀{p q:Pth},pLt p q=false->pLt q p=false->p=q
 |[],[],_,_=>rfl
 |[],_::_,h,_=>by cases h
 |_::_,[],_,h=>by cases h
 |a::p,b::q,h,h'=>by
  rw[q5l] at h h';by_cases e:a=b
  ·subst e;rw[if_pos rfl] at h h';rw[z4f h h']
  ·rw[if_neg e] at h;rw[if_neg (Bz e)] at h';exact absurd (x6o (of_decide_eq_false h) (of_decide_eq_false h')) e
noncomputable def pRank(ps:List Pth)(p:Pth):Nat:=(ps.filter λq=>pLt q p).length
theorem z2d{j:Type}{f g:j->Bool}:∀(l:List j),(∀x∈l,f x=true->g x=true)->(l.filter f).length<=(l.filter g).length
 |[],_=>Ai _
 |x::r,h=>by
  have o:=z2d r λy s=>h y (Ap _ s);by_cases u:f x=true
  ·simp_all
  ·rw[Lz u];by_cases v:g x=true
   ·rw[Ma v];exact Gs o
   ·simp_all
theorem z2e{o:Type}{f g:o->Bool}{y:o}:∀(l:List o),(∀x∈l,f x=true->g x=true)->y∈l->f y=false->g y=true->(l.filter f).length<(l.filter g).length
 |[],_,j,_,_=>by cases j
 |x::r,h,j,h1,h2=>by
  rcases Az.mp j with e|j
  ·subst e;rw[Lz (by rw[h1];decide),Ma h2];exact Nat.lt_succ_of_le (z2d r λz s=>h z (Ap _ s))
  ·have u:=z2e r (λz s=>h z (Ap _ s)) j h1 h2;by_cases v:f x=true
   ·simp_all
   ·rw[Lz v];by_cases B:g x=true
    ·rw[Ma B];exact Mg u
    ·simp_all
def q9b(f:p∈ps)(h:pLt p q=true):pRank ps p<pRank ps q :=
 z2e ps (λx _ g=>z2c g h) f (q5w p) h
def z4g(f:p∈ps)(g:q∈ps):pLt p q=decide ((pRank ps p:Int)<(pRank ps q:Int)):=by
 cases h:pLt p q with
 |true=>have:=q9b f h;exact(decide_eq_true (by lia)).symm
 |false =>
  cases h':pLt q p with
  |true=>have:=q9b g h';exact(decide_eq_false (by lia)).symm
  |false=>rw[z4f h h'];exact(decide_eq_false (by lia)).symm
noncomputable def PathAt(h:Heap)(v:Value)(p:Pth):Prop:=∃a its,v=.ref a/\IsTup h a its/\Iz its.toList (p.map mk)
def mk_inj(h:mk a=mk b):a=b:=by have:=congrArg tl h;rwa [q1g,q1g] at this
theorem q7r:∀{vs:List Value} {ss ts:List Str},Iz vs ss->Iz vs ts->ss=ts
 |_,_,_,.nil,.nil=>rfl
 |_,_,_,.cons y t h,.cons _ _ h'=>by rw[q7r h h']
theorem q9c:∀{p q:Pth},p.map mk=q.map mk->p=q
 |[],[],_=>rfl
 |[],_::_,h=>by simp at h
 |_::_,[],h=>by simp at h
 |a::p,b::q,h=>by
  rw[Ar,Ar] at h;injection h with h1 h2;rw[mk_inj h1,q9c h2]
theorem q2f:∀{vs:List Value} {p:Pth},Iz vs (p.map mk)->vs.length=p.length
 |_,[],.nil=>rfl
 |vs,n::p,h=>by
  rw[Ar] at h;cases h with
  |cons _ _ h'=>rw[Be,Be,q2f h']
def IsTup.inj(j:IsTup h a x)(s:IsTup h a y):x=y:=by
 obtain⟨o,e,_,n,d⟩:=j;obtain⟨u,f,_,v,g⟩:=s;rw[e] at f;cases f;rw[d] at g;cases g;rfl
def PathAt.inj(g:PathAt h v p)(j:PathAt h v q):p=q:=by
 obtain⟨a,o,rfl,t,s⟩:=g;obtain⟨C,f,e,u,B⟩:=j;cases e;rw[IsTup.inj t u] at s;exact q9c (q7r s B)
def IsTup.keep(t:IsTup h a x)(k:∀o,h.get? a=some o->h'.get? a=some o):IsTup h' a x:=by obtain⟨o,e,r⟩:=t;exact⟨o,k o e,r⟩
def PathAt.keep(x:PathAt h v p)(k:∀b o,h.get? b=some o->h'.get? b=some o):PathAt h' v p:=by obtain⟨a,f,e,t,s⟩:=x;exact⟨a,f,e,IsTup.keep t λo=>k a o,s⟩
noncomputable def dP(p:Pth):List Cv:=p.map λn=>Cv.str (mk n)
noncomputable def Low(p:Pth):Prop:=∀n∈p,∀c∈n,c<128
theorem q9d:∀{p:Pth} {vs:List Value},Iz vs (p.map mk)->∃as,ReadsAll h vs (dP p) as
 |[],_,.nil=>⟨_,.nil⟩
 |n::p,vs,x=>by
  rw[Ar] at x;cases x with
  |cons y t s =>
   obtain⟨as,f⟩:=q9d s;exact⟨_,.cons (.str _ t) f⟩
def PathAt.reads(x:PathAt h v p):∃as,Reads h v (.tuple (dP p)) as:=by
 obtain⟨a,f,rfl,⟨o,e,c,n,d⟩,s⟩:=x;obtain⟨as,r⟩:=q9d s;exact⟨_,.tuple e c d r⟩
def z9p(h:∀c∈l,c<128):Dm (mk l)=true:=by
 unfold Dm;simp only[mk,List.all_toArray,Eu];intro c f;have:=h c f;simp;lia
theorem q7s:∀{p:Pth},Low p->Bv (dP p)=true
 |[],_=>rfl
 |n::r,h=>by
  have f:=z9p (h n Av);have g:=q7s λx j=>h x (Ap _ j);show Bv (Cv.str (mk n)::dP r)=true;simp only[Bv,Dk,f,g,Dx]
theorem q4d:∀p:Pth,Gg (dP p)<=1
 |[]=>by simp[dP,Gg]
 |n::r=>by
  have f:=q4d r;show Gg (Cv.str (mk n)::dP r)<=1;simp only[Gg,Pj];lia
theorem q7t:∀p q:Pth,Ja (dP p) (dP q)=decide (p=q)
 |[],[]=>rfl
 |[],_::_=>rfl
 |_::_,[]=>rfl
 |a::p,b::q=>by
  show Ja (Cv.str (mk a)::dP p) (Cv.str (mk b)::dP q)=_;have e:Ja (Cv.str (mk a)::dP p) (Cv.str (mk b)::dP q)=(Fy (Cv.str (mk a)) (Cv.str (mk b))&&Ja (dP p) (dP q)):=by simp only[Ja]
  have f:Fy (Cv.str (mk a)) (Cv.str (mk b))=(mk a==mk b):=by simp only[Fy]
  rw[e,f,q7t p q];by_cases h:a=b
  ·subst h;simp
  ·grind
section
variable{prog:Ak}{w:World}{A:Around}{E:Value->Ag->Prop}{s:Ag}{x y:Value}{p q:Pth}
def x3a(f:PathAt s.heap x p)(g:PathAt s.heap y q)(j:Low p)(o:Low q)(B:A.units+2<cLine):En A s x y (decide (p=q)):=by
 obtain⟨as,u⟩:=f.reads;obtain⟨bs,v⟩:=g.reads;have h:=Ww (.tuple (dP p)) (.tuple (dP q)) A s x y as bs u v (by simp only[Dk,q7s j]) (by simp only[Dk,q7s o]) (by
  have C:(Cv.tuple (dP p)).depth=Gg (dP p)+1:=by simp only[Pj]
  have:=q4d p;lia)
 have e:Fy (.tuple (dP p)) (.tuple (dP q))=decide (p=q):=by simp only[Fy,q7t]
 rwa [e] at h
def z2f(l b:Addr)(j f:Array Value)(n U:Nat)(dd L:Option Addr)(W M:Array (Option Value))(p q:Pth)(S:Iz j.toList (p.map mk))(T:Iz f.toList (q.map mk)):
  Meets (Du.«tuple.__lt__» ⟨[.ref l,.ref b],[]⟩)
   (λ_ R s=>s.heap.get? l=some { cls:=.type "tuple",dict:=dd,data:=.seq j n,slots:=W }/\s.heap.get? b=some { cls:=.type "tuple",dict:=L,data:=.seq f U,slots:=M } /\
    R (.ok (.ret (.bool (pLt p q)))) s) :=
 .of_wp λprog w A R s h=>by
  obtain⟨I,g,d,tk,os⟩:=s;obtain⟨hl,X,h⟩:=h;have f2:=AutoSeq1.sub_tuple_tuple;have z1:j.size=p.length:=by have:=q2f S;simpa using this
  have z2:f.size=q.length:=by have:=q2f T;simpa using this
  wp_walk using Ob hl,Ob X,Io _ (λrest c O=>c.1=none/\O=⟨I,g,d,tk,os⟩/\∃(vs J:List Value) (D C:Pth),rest=vs.zip J /\
   Iz vs (D.map mk)/\Iz J (C.map mk)/\D.length+f.size=C.length+j.size/\R (.ok (.ret (.bool (pLt D C)))) ⟨I,g,d,tk,os⟩) _
  case turn =>
   rintro⟨y,x⟩ rest c O ⟨H,rfl,vs,J,D,C,F,v,B,o,G⟩;cases D with
   |nil=>cases v;rw[Vy] at F;cases F
   |cons m D =>
    cases C with
    |nil=>cases B;rw[Vh] at F;cases F
    |cons m' C =>
     rw[Ar] at v B;cases v with
     |cons _ t hvi' =>
      cases B with
      |cons _ u hwi' =>
       rw[Ll] at F;injection F with hyx hrest;injection hyx with hy hx;subst hy hx;rw[q5l] at G;simp only[Be] at o;refine Ac (Pe (mk m) t (mk m') u (A:=A.in1) (s:=⟨I,g,d,tk,os⟩) prog w _ _ ?_);by_cases e:m=m'
       ·subst e;rw[if_pos rfl] at G;rw[beq_self_eq_true]
        wp_walk
        exact⟨rfl,rfl,_,_,_,_,hrest,hvi',hwi',by lia,G⟩
       ·rw[if_neg e] at G;have Y:(mk m==mk m')=false:=beq_eq_false_iff_ne.mpr λz=>e (mk_inj z);rw[Y];have P:∀(E:Value->Ag->Prop) (Q:Value->Ag->Prop),Q (.bool (decide (m<m'))) ⟨I,g,d,tk,os⟩->wpAny (model prog w) A.in1 (richCompare .Lt (.str (mk m) t) (.str (mk m') u)) Q E ⟨I,g,d,tk,os⟩:=λE Q Z =>
         (Um (by
          have e3:(mk m).cps.toList=m:=q1g m;have e4:(mk m').cps.toList=m':=q1g m';rw[e3,e4];exact Z):wpAny (model prog w) A.in1 (Cj .Lt (.str (mk m) t) (.str (mk m') u)) Q E ⟨I,g,d,tk,os⟩)
        wp_walk using P
        exact⟨_,rfl,by simpa using G⟩
  case fin =>
   rintro⟨b1,b2⟩ O ⟨H,rfl,vs,J,D,C,F,v,B,o,G⟩;simp only at H;subst H;have hv:pLt D C=decide (j.size<f.size):=by
    cases D with
    |nil =>
     cases C with
     |nil=>exact(decide_eq_false (by simp only[Ho] at o;lia)).symm
     |cons m' C=>exact(decide_eq_true (by simp only[Ho,Be] at o;lia)).symm
    |cons m D =>
     cases C with
     |nil=>exact(decide_eq_false (by simp only[Ho,Be] at o;lia)).symm
     |cons m' C =>
      rw[Ar] at v B;cases v with
      |cons _ t _=>cases B with|cons _ u _=>rw[Ll] at F;cases F
   rw[hv] at G
   wp_walk
   exact⟨_,rfl,by simpa[Du.Tuple.tupleCompareSizes] using G⟩
  case h =>
   exact⟨rfl,rfl,j.toList,f.toList,p,q,rfl,S,T,by lia,h⟩
def x3b{Q:Value->Ag->Prop}(J:PathAt s.heap x p)(L:PathAt s.heap y q)(M:A.units<cLine)(h:Q (.bool (pLt p q)) s):wpAny (model prog w) A (Cj .Lt x y) Q E s:=by
 obtain⟨l,g,rfl,hl,O⟩:=J;obtain⟨b,f,rfl,P,R⟩:=L;obtain⟨⟨cls,dd,D,S⟩,G,H,n,hd⟩:=id hl;obtain⟨⟨I,v,B,C⟩,j,o,T,u⟩:=id P;simp only at H hd o u;subst H hd o u;exact richCompare_meets_room (op:=.Lt) ⟨_,G,rfl⟩ ⟨_,j,rfl⟩ PySem.F.slot_tuple_lt PySem.F.entry_tuple_lt (PySem.F.args_tuple_lt_2 _ _) (z2f l b g f n T dd v S C p q O R)
  ⟨G,j,show Value.bool (pLt p q)≠Value.notImplemented/\Q (.bool (pLt p q)) s from⟨(λx=>nomatch x),h⟩⟩ M
def x6p{b:Bool}{m f:List Nat}{t u:Tok}{Q:Bool->Ag->Prop}(h:Q (decide (m<f)) s):wpAny (model prog w) A (oneLt' b (.str (mk m) t) (.str (mk f) u)) Q E s:=by
 have g:(mk m).cps.toList=m:=q1g m;have j:(mk f).cps.toList=f:=q1g f;cases b with
 |true=>exact oneLt_str (by rw[g,j];exact h)
 |false =>
  rw[oneLt'_eq];simp only[Bp,if_false];exact Ac ((Um (by rw[g,j];exact Em h):wpAny (model prog w) A (Cj .Lt (.str (mk m) t) (.str (mk f) u)) _ E s))
def x3c{Q:Bool->Ag->Prop}(f:PathAt s.heap x p)(g:PathAt s.heap y q)(j:A.units<cLine)(h:Q (pLt p q) s):wpAny (model prog w) A (oneLt' false x y) Q E s:=by
 rw[oneLt'_eq];simp only[Bp,if_false];exact Ac (x3b f g j (Em h):wpAny (model prog w) A (Cj .Lt x y) _ E s)
def z9q{b:Bool}{Q:Bool->Ag->Prop}(P:PathAt s.heap x p)(R:PathAt s.heap y q)(h:Q (pLt p q) s):wpAny (model prog w) A (keyLt' (Vm b) x y) Q E s:=by
 obtain⟨l,g,rfl,⟨o,S,I,n,hd⟩,M⟩:=P;obtain⟨m,f,rfl,⟨W,J,T,X,L⟩,O⟩:=R;refine Ac (m:=He (.ref l)) (Lm S hd (Ac (m:=He (.ref m)) (Lm J L ?_)));have Y:g.size=p.length:=by have:=q2f M;simpa using this
 have Z:f.size=q.length:=by have:=q2f O;simpa using this
 refine Ac (Io _ (λrest c C=>c=(none,())/\C=s/\∃(vs H:List Value) (v j:Pth) (k:Nat),rest=(vs.zip H).zipIdx k/\Iz vs (v.map mk)/\Iz H (j.map mk) /\
   v.length+f.size=j.length+g.size/\Q (pLt v j) s) (λc C=>match c.1 with|some r=>Q r C|none=>c.1=none/\Q (decide (g.size<f.size)) C) ?turn ?fin _ _ ?h0|>λz=>Cb z ?post λ_ _ e=>e)
 case post =>
  rintro⟨c,⟨⟩⟩ C I;cases c with
  |none=>exact Ad I.2
  |some r=>exact Ad I
 case h0=>exact⟨rfl,rfl,g.toList,f.toList,p,q,0,rfl,M,O,by lia,h⟩
 case fin =>
  rintro c C ⟨rfl,rfl,vs,H,v,j,k,B,F,G,hl,D⟩;have e:pLt v j=decide (g.size<f.size):=by
   cases v with
   |nil =>
    cases j with
    |nil=>exact(decide_eq_false (by simp only[Ho] at hl;lia)).symm
    |cons m' j=>exact(decide_eq_true (by simp only[Ho,Be] at hl;lia)).symm
   |cons m v =>
    cases j with
    |nil=>exact(decide_eq_false (by simp only[Ho,Be] at hl;lia)).symm
    |cons m' j =>
     rw[Ar] at F G;cases F with
     |cons _ t _=>cases G with|cons _ u _=>rw[Ll,Wx] at B;cases B
  rw[e] at D;exact⟨rfl,D⟩
 case turn =>
  rintro⟨⟨y,x⟩,i⟩ rest c C ⟨rfl,rfl,vs,H,v,j,k,B,F,G,hl,D⟩;cases v with
  |nil=>cases F;rw[Vy] at B;cases B
  |cons m v =>
   cases j with
   |nil=>cases G;rw[Vh] at B;cases B
   |cons m' j =>
    rw[Ar] at F G;cases F with
    |cons _ t hv' =>
     cases G with
     |cons _ u hw' =>
      rw[Ll,Wx] at B;injection B with h1 h2;injection h1 with h1 h3;injection h1 with h4 h5;subst h4 h5 h3;rw[q5l] at D;simp only[Be] at hl;refine Ac (Pe (mk m) t (mk m') u (A:=A) (s:=C) prog w _ _ ?_);by_cases e:m=m'
      ·subst e;rw[if_pos rfl] at D;rw[beq_self_eq_true];simp only[Fp,Bp,if_false];exact Ad ⟨rfl,rfl,_,_,_,_,_,h2,hv',hw',by lia,D⟩
      ·rw[if_neg e] at D;have U:(mk m==mk m')=false:=beq_eq_false_iff_ne.mpr λz=>e (mk_inj z);rw[U];simp only[Ot,if_true];exact Ac (x6p (b:=b&&i==0) (Ad D))
noncomputable def PairAt(h:Heap)(v:Value)(p:Pth)(m:Value):Prop:=∃a k,v=.ref a/\IsTup h a #[k,m]/\PathAt h k p
def PairAt.keep{h h':Heap}{v m:Value}{p:Pth}(x:PairAt h v p m)(k:∀b o,h.get? b=some o->h'.get? b=some o):PairAt h' v p m:=by obtain⟨a,z,e,t,s⟩:=x;exact⟨a,z,e,IsTup.keep t λo=>k a o,s.keep k⟩
def z9r{m j:Value}{Q:Bool->Ag->Prop}(D:PairAt s.heap x p m)(F:PairAt s.heap y q j)(u:p=q->x=y)(G:Low p)(H:Low q)(I:A.units+2<cLine)(h:Q (pLt p q) s):wpAny (model prog w) A (keyLt' (Vm false) x y) Q E s:=by
 obtain⟨l,k,rfl,hl,hk⟩:=D;obtain⟨J,C,rfl,f,g⟩:=F;obtain⟨o,L,S,n,hd⟩:=id hl;obtain⟨T,v,M,U,B⟩:=id f;refine Ac (m:=He (.ref l)) (Lm L hd (Ac (m:=He (.ref J)) (Lm v B ?_)));show wpAny (model prog w) A (forIn [((k,C),0),((m,j),1)] ((none,()):Option Bool×Unit) _ >>= _) Q E s;rw[Rn];refine Ac (Ac (Ac (x3a hk g G H I prog w _ _ ?_)));by_cases e:p=q
 ·have O:=u e;cases O;have P:=IsTup.inj hl f;have R:k=C/\m=j:=by
   have:=congrArg Array.toList P;simpa using this
  obtain⟨rfl,rfl⟩:=R;subst e;rw[decide_eq_true rfl];simp only[Fp,Bp,if_false];refine Ad ?_;dsimp only;rw[Rn];refine Ac (Ac (Xf m (A:=A) (s:=s) prog w _ _ ?_));simp only[Fp,Bp,if_false];refine Ad ?_;dsimp only;rw[List.forIn_nil];refine Ad (Ad ?_);rw[q5w] at h;simpa using h
 ·rw[decide_eq_false e];simp only[Ot,if_true,Sk];refine Ac (x3c hk g (by lia) (Ad ?_));exact Ad (Ad h)
theorem z4h{o j:Type}{f:o->Sem j}{g:o->j}:∀(l:List o) {Q:List j->Ag->Prop},(∀a∈l,∀(Q':j->Ag->Prop),Q' (g a) s->wpAny (model prog w) A (f a) Q' E s)->Q (l.map g) s->wpAny (model prog w) A (l.mapM f) Q E s
 |[],Q,_,h=>by rw[List.mapM_nil];exact Ad h
 |a::l,Q,hf,h=>by
  rw[List.mapM_cons];refine Ac (hf a Av _ (Ac (z4h l (λb u=>hf b (Ap _ u)) (Ad h))))
def x3d{a:Addr}{f:Array Value}{Q:Option Value->Ag->Prop}(t:IsTup s.heap a f)(h:Q f[0]? s):wpAny (model prog w) A (firstOfTuple' (.ref a)) Q E s:=by
 obtain⟨o,g,j,n,hd⟩:=t;refine Ac (m:=typeOf (.ref a)) (Jo (T := "tuple") ⟨o,g,j⟩ ?_);have e:(Value.type "tuple" != Value.type "tuple")=false:=by decide
 rw[e];simp only[Bp,if_false];exact Ac (m:=He (.ref a)) (Lm g hd (Ad h))
def z9s{T:String}{vs:List Value}{fs:Value->Value}{Q:My->Ag->Prop}(o:vs≠[])(C:∀v∈vs,∃a f,v=.ref a/\IsTup s.heap a f/\f[0]?=some (fs v))(D:∀v∈vs,s.TypeIs (fs v) T)(h:Q (Vm (Value.type T != Value.type "tuple")) s):wpAny (model prog w) A (keyKind' vs.toArray) Q E s:=by
 rw[keyKind'_eq,Vz];refine Ac (Ac (z4h (g:=λv=>some (fs v)) vs (λv u F B=>?_) (Ad ?_)))
 ·obtain⟨a,f,rfl,t,e⟩:=C v u;exact x3d t (by rw[e];exact B)
 ·have j:((vs.map λv=>some (fs v)).toArray.all λx=>x.isSome)=true:=by simp
  rw[if_pos (by simpa using j)];refine Ac (Hd ?_);rw[oneTypeOnly'_eq];have e:Array.filterMap id (vs.map λv=>some (fs v)).toArray=(vs.map fs).toArray:=by
   simp[Vc]
  rw[e,Vz];refine Ac (Ac (Ac (z4h (g:=λ_=>Value.type T) (vs.map fs) (λx G F B=>?_) (Ad ?_))))
  ·obtain⟨v,u,rfl⟩:=Aw.mp G;exact Jo (D v u) B
  ·cases vs with
   |nil=>exact absurd rfl o
   |cons v vs =>
    have H:(((v::vs).map fs).map λ_=>Value.type T).toArray[0]?=some (Value.type T):=by simp
    have I:((((v::vs).map fs).map λ_=>Value.type T).toArray.all λx=>x==Value.type T)=true:=by simp
    rw[H];dsimp only;rw[I];simp only[if_true];exact Ad (Ad (by simpa using h))
end
section
variable{prog:Ak}{w:World}{A:Around}{E:Value->Ag->Prop}{s:Ag}{kd:My}{S:Value->Prop}{r:Value->Int}{vs:List Value}
noncomputable def KeptBut(a:Addr)(h h':Heap):Prop:=∀b o,b≠a->h.get? b=some o->h'.get? b=some o
structure Sorted (r:Value->Int) (vs:List Value) (out:Array Value):Prop where
 perm:out.toList.Perm vs
 rise:out.toList.Pairwise λx y=>r x<=r y
def x3e{xs:Array Keyed}(g:xs.Perm (pairsOf vs)):(∀p∈xs.toList,p.1=p.2)/\(xs.map (·.2)).toList.Perm vs:=by
 have hl:xs.toList.Perm (vs.zip vs):=by rw[<- pairsOf_toList];exact Px.mp g
 refine⟨λp f=>(mem_zip_self (hl.mem_iff.mp f)).1,?_⟩;rw[Qx];have:=hl.map (·.2)
 rwa [List.map_snd_zip (Ai _)] at this
def z2g{st:Je}(g:(arrOf st).Perm (pairsOf vs))(u:Up r (arrOf st) (pairsOf vs).size):Sorted r vs ((arrOf st).map (·.2)):=by
 obtain⟨h,o⟩:=x3e g;refine⟨o,?_⟩;rw[List.pairwise_iff_getElem];intro i j s v f;have hi':i<(arrOf st).size:=by simp_all
 have hj':j<(arrOf st).size:=by simp_all
 have e:=u i j (Jl f) (by rw[<- g.size_eq];exact hj');have k:∀{n:Nat} (hn:n<(arrOf st).size),rk r (arrOf st) n=r (arrOf st)[n].2:=λ{n} hn=>by
  unfold rk;rw[getElem?_pos (arrOf st) n hn];show r (arrOf st)[n].1=_;rw[h (arrOf st)[n] (by simp)]
 rw[k hi',k hj'] at e;simpa using e
def z9t(B:s.heap.get? a=some (Kl "list" vs.toArray n))(I:vs.length<64)(J:∀v∈vs,S v)(hk:2<=vs.length->∀s' (E:Value->Ag->Prop) (Q:My->Ag->Prop),KeptBut a s.heap s'.heap->Q kd s'->wpAny (model prog w) A (keyKind' vs.toArray) Q E s')(T:∀s',KeptBut a s.heap s'.heap->Tells prog w A s' kd S r)(h:∀out,Sorted r vs out->P (.done (.ret .none)) { s with heap:=sortedHeap s.heap a vs out }):
  wpAny (model prog w) A (Du.«list.sort» ⟨[.ref a],[]⟩) P E s:=by
 have L:=pairsOf_size vs;have M:vs.length<=sizeLine:=by rw[Et];lia
 rw[list_sort_plain];refine Ac (Lm B rfl (Ac (Ud B rfl ?_)));have D:=get?_update_seq B (λ_=>#[]);refine Ac (Wj D rfl (Ac (Oo (Ac (wpAny_newList (Cq ?_))))));generalize C:(((s.heap.update a (Fq λ_=>#[])).push (Kl "tuple" vs.toArray 0)).push (Kl "list" #[] 0))=g;have F:KeptBut a s.heap g:=λb o O e=>by
  rw[<- C];exact Ae _ (Ae _ ((Bu _ _ (Bz O)).trans e))
 have f:=Ae (Kl "list" #[] 0) (Ae (Kl "tuple" vs.toArray 0) D);rw[C] at f;have u:∀out,Sorted r vs out->P (.done (.ret .none)) { s with heap:=g.update a (Fq λ_=>out) }:=λout R=>by
  have:=h out R;unfold sortedHeap at this
  rwa [C] at this
 by_cases G:vs.length<2
 ·have h2':vs.toArray.size<2:=by simpa using G
  simp only[if_pos h2'];refine Ac (Ad ?_);refine Ac (Ad (Ac (Wj f rfl (Ac (Ud f rfl ?_ (hsz2:=by show((pairsOf vs).map _).size<=_;rw[Array.size_map];lia))))));simp only[bne_self_eq_false,Bp,if_false];exact Ad (u _ (z2g (Xn _) λi j Y Z=>by rw[show i=j by lia];exact Se _))
 ·have h2':¬vs.toArray.size<2:=by simpa using G
  simp only[if_neg h2'];refine Ac (hk (by lia) _ _ _ F ?_);refine Ac (Cb (x6n (a₀:=pairsOf vs) (Q:=λ_ t=>(arrOf t).Perm (pairsOf vs)/\Wu t=none/\Up r (arrOf t) (pairsOf vs).size) (T _ F) (λp H=>J _ ?_)
   ⟨Xn _,rfl,rfl,rfl⟩ (by lia) (by lia) λt U W X=>⟨U,W,X⟩) ?_ λ_ _ e=>e)
  ·rw[pairsOf_toList] at H;exact(mem_zip_self H).2
  ·rintro⟨⟨⟩,t⟩ s' ⟨rfl,pm,fl,up⟩;refine Ac (Wj f rfl (Ac (Ud f rfl ?_ (hsz2:=by show((arrOf t).map _).size<=_;rw[Array.size_map,pm.size_eq];lia))));rw[fl];simp only[bne_self_eq_false,Bp,if_false];exact Ad (u _ (z2g pm up))
end
section
variable{prog:Ak}{w:World}{A:Around}{E:Value->Ag->Prop}{s:Ag}
structure Ready (prog:Ak) (w:World) (A:Around) (vs:List Value) (h:Heap) (kd:My) (S:Value->Prop) (r:Value->Int):Prop where
 few:vs.length<64
 all:∀v∈vs,S v
 kind:2<=vs.length->∀A' s' (E:Value->Ag->Prop) (Q:My->Ag->Prop),A'.units<=A.units+9->(∀b o,h.get? b=some o->s'.heap.get? b=some o)->Q kd s'->wpAny (model prog w) A' (keyKind' vs.toArray) Q E s'
 tells:∀A' s',A'.units<=A.units+9->(∀b o,h.get? b=some o->s'.heap.get? b=some o)->Tells prog w A' s' kd S r
theorem sorted_ok
  (B:∀{Q':List Value->Ag->Prop},(∀vs h tk kd S r,Ready prog w A vs h kd S r ->
    (∀h' out,Sorted r vs out->(∀b o,h.get? b=some o->h'.get? b=some o)->(∃e,h'.get? h.objs.size=some (Kl "list" out e))->Q (.ref h.objs.size) { s with heap:=h',toks:=tk })->Q' vs { s with heap:=h,toks:=tk }) ->
   wpAny (model prog w) A.in1 (collect x) Q' E s):wpAny (model prog w) A (call (.builtin "sorted") [x]) Q E s:=by
 refine Calls.call_function_entry kind_sorted plain_sorted entry_sorted (args_sorted1 _) ?_;refine Ac (Ad (Ac (B λvs h tk kd S r rd C=>?_)));have D:vs.length<=sizeLine:=by have:=rd.few;rw[Et];lia
 refine Ac (wpAny_newList ?_);have j:(h.push (Kl "list" vs.toArray 0)).get? h.objs.size=some (Kl "list" vs.toArray 0):=An _ rfl;have v:∀{g:Heap},KeptBut h.objs.size (h.push (Kl "list" vs.toArray 0)) g->∀b o,h.get? b=some o->g.get? b=some o:=λf b o e=>f b o (Bj (Al e)) (Ae _ e);refine Ac (Cq (By slot_list_sort ⟨_,j,rfl⟩ entry_list_sort (z9t j rd.few rd.all (λF u E Q f q=>rd.kind F _ u E Q (by show A.units+1+1<=_;lia) (v f) q) (λu f=>rd.tells _ u (by show A.units+1+1<=_;lia) (v f)) λout G=>⟨_,rfl,?_⟩) (args_list_sort _)));refine Ad ⟨_,rfl,C _ out G (λb o e=>?_) (sortedHeap_at j)⟩;have:=sortedHeap_old (vs:=vs) (out:=out) (h:=h.push (Kl "list" vs.toArray 0)) (Bj (Al e)) (by rw[size_push'];exact Mg (Al e));rw[this];exact Ae _ e
def perm_map_inv {α β : Type} {g : α → β} : ∀ {l m : List β}, l.Perm m → ∀ {zs : List α}, m = zs.map g → ∃ zs' : List α, zs'.Perm zs ∧ l = zs'.map g := by
  intro l m h;induction h with
  | nil => simp_all
  | cons x h ih => intro zs e; cases zs with
    | nil => cases e
    | cons z zs =>
      injection e with e1 e2;obtain ⟨zs', h1, h2⟩ := ih e2;exact ⟨z :: zs', h1.cons z, by rw [Ar, ← h2, e1]⟩
  | swap x y l => intro zs e; cases zs with
    | nil => cases e
    | cons z zs => cases zs with
      | nil => cases e
      | cons z2 zs =>
        injection e with e1 e2;injection e2 with e2 e3;exact ⟨z2 :: z :: zs, List.Perm.swap _ _ _, by rw [Ar, Ar, ← e1, ← e2, ← e3]⟩
  | trans h1 h2 ih1 ih2 => intro zs e
                           obtain ⟨zs', p1, e1⟩ := ih2 e;obtain ⟨zs2, p2, e2⟩ := ih1 e1;exact ⟨zs2, p2.trans p1, e2⟩
open Classical in
noncomputable def keyBy (K:Value->Pth->Prop) (v:Value):Pth:=if h:∃p,K v p then choose h else[]
def q4e{K:Value->Pth->Prop}(g:∀v p q,K v p->K v q->p=q){v:Value}{p:Pth}(h:K v p):keyBy K v=p:=by
 unfold keyBy;have f:∃p,K v p:=⟨p,h⟩
 rw[dif_pos f];exact g v _ _ (Classical.choose_spec f) h
theorem rise_paths{K:Value->Pth->Prop}(o:∀v p q,K v p->K v q->p=q){s:Type}{g:s->Value}{f:s->Pth}:∀{zs:List s},(∀z∈zs,K (g z) (f z)/\f z∈ps)->(zs.map g).Pairwise (λx y=>(pRank ps (keyBy K x):Int)<=(pRank ps (keyBy K y):Int))->(zs.map f).Pairwise λa b=>pLt b a=false
 |[],_,_=>.nil
 |z::zs,hz,h=>by
  rw[Ar] at h ⊢;obtain⟨u,B⟩:=Ln.mp h;refine Ln.mpr ⟨λb C=>?_,rise_paths o (λy j=>hz y (Ap _ j)) B⟩;obtain⟨y,j,rfl⟩:=Aw.mp C;obtain⟨D,E⟩:=hz z Av;obtain⟨F,G⟩:=hz y (Ap _ j);have:=u (g y) (Aw.mpr ⟨y,j,rfl⟩);rw[q4e o D,q4e o F] at this;rw[z4g G E];exact decide_eq_false (by lia)
def ready_paths(few:vs.length<64)(G:∀v∈vs,∃p∈ps,p≠[]/\PathAt h v p):
  Ready prog w A vs h (Vm true) (λv=>∃p∈ps,PathAt h v p) (λv=>(pRank ps (keyBy (PathAt h) v):Int)) where
 few:=few
 all:=λv g=>let ⟨p,a,_,b⟩:=G v g;⟨p,a,b⟩
 kind:=λH M u E Q _ k q=>by
  have j:vs≠[]:=λz=>by rw[z] at H;simp at H
  have ex:∀v∈vs,∃a f n p t,v=.ref a/\IsTup u.heap a f/\f[0]?=some (.str (mk n) t):=λv g=>by
   obtain⟨p,_,j,x⟩:=G v g;obtain⟨a,f,rfl,tt,st⟩:=x.keep k;cases p with
   |nil=>exact absurd rfl j
   |cons n p =>
    obtain⟨l⟩:=f;cases st with
    |cons _ t st'=>exact⟨a,_,n,p,t,rfl,tt,rfl⟩
  refine z9s (fs:=λv=>(match v with|.ref a=>(match u.heap.get? a with|some o=>(match o.data with|.seq f _=>f.getD 0 .none|_=>.none)|none=>.none)|_=>.none)) j (λv g=>?_) (λv g=>?_) (by rw[show(Value.type "str" != Value.type "tuple")=true from by decide];exact q)
  ·obtain⟨a,f,n,p,t,rfl,tt,e⟩:=ex v g;refine⟨a,f,rfl,tt,?_⟩;obtain⟨o,s,B,m,C⟩:=tt;simp only[s,C];rw[e,Pk,e];rfl
  ·obtain⟨a,f,n,p,t,rfl,tt,e⟩:=ex v g;obtain⟨o,s,B,m,C⟩:=tt;simp only[s,C];rw[Pk,e];exact Th _ _ _
 tells:=λM u _ k E x y Q ⟨p,D,I⟩ ⟨q,F,J⟩ O=>by
  refine z9q (I.keep k) (J.keep k) ?_;have L:∀v p q,PathAt h v p->PathAt h v q->p=q:=λ_ _ _ a b=>a.inj b;have s:=q4e L I;have B:=q4e L J;rw[z4g D F,<- s,<- B];exact O
def PairAt.inj(f:PairAt h v p m)(g:PairAt h v q m'):p=q:=by
 obtain⟨a,k,rfl,t,s⟩:=f;obtain⟨C,j,e,o,u⟩:=g;cases e;have e:=congrArg Array.toList (IsTup.inj t o);have B:k=j:=by grind
 subst B;exact s.inj u
def ready_pairs(few:vs.length<64)(B:∀v∈vs,∃p∈ps,∃m,Low p/\PairAt h v p m)(T:∀u∈vs,∀v∈vs,∀p m C,PairAt h u p m->PairAt h v p C->u=v)(hu:A.units+12<cLine):
  Ready prog w A vs h (Vm false) (λv=>v∈vs) (λv=>(pRank ps (keyBy (λv p=>∃m,PairAt h v p m) v):Int)) where
 few:=few
 all:=λv g=>g
 kind:=λO U s E Q _ k q=>by
  have D:vs≠[]:=λz=>by rw[z] at O;simp at O
  have ex:∀v∈vs,∃a b f m,v=.ref a/\IsTup s.heap a #[.ref b,m]/\IsTup s.heap b f:=λv g=>by
   obtain⟨p,_,m,_,x⟩:=B v g;obtain⟨a,z,rfl,tt,b,f,rfl,F,_⟩:=x.keep k;exact⟨a,b,f,m,rfl,tt,F⟩
  refine z9s (fs:=λv=>(match v with|.ref a=>(match s.heap.get? a with|some o=>(match o.data with|.seq f _=>f.getD 0 .none|_=>.none)|none=>.none)|_=>.none)) D (λv g=>?_) (λv g=>?_) (by rw[show(Value.type "tuple" != Value.type "tuple")=false from by decide];exact q)
  ·obtain⟨a,b,f,m,rfl,tt,_⟩:=ex v g;refine⟨a,_,rfl,tt,?_⟩;obtain⟨o,j,G,n,H⟩:=tt;simp only[j,H];rfl
  ·obtain⟨a,b,f,m,rfl,tt,F⟩:=ex v g;obtain⟨o,j,G,n,H⟩:=tt;simp only[j,H];obtain⟨W,X,Y,_⟩:=F;exact⟨W,X,Y⟩
 tells:=λU s hA k E x y Q P R Z=>by
  obtain⟨p,I,m,lp,J⟩:=B x P;obtain⟨q,L,C,lq,M⟩:=B y R;refine z9r (J.keep k) (M.keep k) (λe=>by subst e;exact T x P y R _ _ _ J M) lp lq (by lia) ?_;have S:∀v p q,(∃m,PairAt h v p m)->(∃m,PairAt h v q m)->p=q:=λv p q ⟨_,a⟩ ⟨_,b⟩=>PairAt.inj a b
  have j:=q4e S ⟨m,J⟩;have G:=q4e S ⟨C,M⟩;rw[z4g I L,<- j,<- G];exact Z
end
end SB
namespace PySem.Rv
open Sem (wp)
structure Runs (prog:Ak) (w:World) (A:Around) (S I:Addr) (n:Nat) (Fc:List Value->Heap->Prop) (It:Nat->Heap->Prop):Prop where
 keepF:∀acc h h',Fc acc h->(∀b o,b≠S->b≠I->h.get? b=some o->h'.get? b=some o)->Fc acc h'
 keepI:∀i h h',It i h->(∀b o,b≠S->h.get? b=some o->h'.get? b=some o)->It i h'
 item:∀acc (s:Ag) (Q:Option Value->Ag->Prop) (E:Value->Ag->Prop),acc.length<n->Fc acc s.heap->It acc.length s.heap ->
  (∀v h',Fc (acc++[v]) h'->It (acc.length+1) h'->(∀b o,b≠I->s.heap.get? b=some o->h'.get? b=some o)->Q (some v) { s with heap:=h' })->wpAny (model prog w) A.in1 (Jm (.ref I)) Q E s
 done:∀(s:Ag) (Q:Option Value->Ag->Prop) (E:Value->Ag->Prop),It n s.heap->(∀h',(∀b o,b≠I->s.heap.get? b=some o->h'.get? b=some o)->Q none { s with heap:=h' })->wpAny (model prog w) A.in1 (Jm (.ref I)) Q E s
section
variable{prog:Ak}{w:World}{A:Around}{E:Value->Ag->Prop}{S I:Addr}{n:Nat}{Fc:List Value->Heap->Prop}{It:Nat->Heap->Prop}
def grow(W:Runs prog w A S I n Fc It)(u:S≠I)(hn:n<=sizeLine)(res:Value):∀(k:Nat) (acc:List Value) (s:Ag) (c:Nat),n-acc.length=k->acc.length<=n->Fc acc s.heap->It acc.length s.heap ->
  s.heap.get? S=some { cls:=.type "list",data:=.seq acc.toArray c } ->
  (∀g h' C,g.length=n->Fc g h'->(∀b o,b≠S->b≠I->s.heap.get? b=some o->h'.get? b=some o)->h'.get? S=some { cls:=.type "list",data:=.seq g.toArray C }->R (.ok (.ret res)) { s with heap:=h' }) ->
  Gq (model prog w) A (.builtin "list.extend.loop" ⟨[.ref S,.ref I,res],[]⟩) R s:=by
 intro k;induction k with
 |zero =>
  intro acc s c hk hl f i D E;refine Ku Uo ?_;rw[Ke Iw _];have e:acc.length=n:=by lia
  refine Ac (W.done s _ _ (by rw[<- e];exact i) λh' kp=>Ad ?_);exact E acc h' c e (W.keepF _ _ _ f λb o _ h q=>kp b o h q) (λb o _ h q=>kp b o h q) (kp S _ u D)
 |succ k ih =>
  intro acc s c hk hl f i D E;refine Ku Uo ?_;rw[Ke Iw _];refine Ac (W.item acc s _ _ (by lia) f i λv h' G H kp=>?_);have hS':=kp S _ u D;have j:∀b o,b≠S->h'.get? b=some o->(h'.update S (Fq (·.push v))).get? b=some o:=λb o h q=>(Bu _ _ (Bz h)).trans q;have F:(h'.update S (Fq (·.push v))).get? S=some { cls:=.type "list",data:=.seq (acc++[v]).toArray (c+1) }:=by
   have:=Ju hS' (λx=>x.push v);rw[this];simp
  refine Ac (Rr hS' rfl (Ad ⟨Py Iw _,ih (acc++[v]) _ (c+1) (by rw[Aj,Bk];lia) (by rw[Aj,Bk];lia)
   (W.keepF _ _ _ G λb o h _ q=>j b o h q) (by rw[Aj,Bk];exact W.keepI _ _ _ H j) F λg J C L M O P=>E g J C L M (λb o h B q=>O b o h B (j b o h (kp b o B q))) P⟩) (by rw[Ay];lia) (by simp;lia))
def collect_runs(U:∀h,(∀b o,s.heap.get? b=some o->h.get? b=some o)->(⟨h,s.gens,s.drawn,s.toks,s.os⟩:Ag).TypeIs (.ref v) T)(Z:v<s.heap.objs.size)(h1:(Value.type T==Value.type "list")=false)(h2:(Value.type T==Value.type "tuple")=false)(G:∀(A:Around) (E:Value->Ag->Prop) (s':Ag) (Q:Bool->Ag->Prop),s'.TypeIs (.ref v) T->Q false s'->wpAny (model prog w) A (Du.List.listLengthHint (.ref v)) Q E s')(H:∀(A:Around) (E:Value->Ag->Prop) (h:Heap) (Q:Value->Ag->Prop),(∀b o,s.heap.get? b=some o->h.get? b=some o)->Q (.ref h.objs.size) { s with heap:=h.push oI }->wpAny (model prog w) A (Ml (.ref v)) Q E { s with heap:=h })(a0:∀h:Heap,(h.push oI).get? h.objs.size=some oI)(W:Runs prog w A s.heap.objs.size (s.heap.objs.size+1) n Fc It)(hn:n<=sizeLine)(h0:∀h,(∀b o,s.heap.get? b=some o->h.get? b=some o)->h.get? (s.heap.objs.size+1)=some oI->Fc [] h/\It 0 h)(hQ:∀acc h,acc.length=n->Fc acc h->s.heap.objs.size<=h.objs.size->(∀b o,s.heap.get? b=some o->h.get? b=some o)->Q acc { s with heap:=h }):wpAny (model prog w) A (collect (.ref v)) Q E s:=by
 refine Ac (wpAny_runValue (Ku F.entry_proto_collect ?_));rw[Ke F.plain_proto_collect _];refine Ac (Cc (Ad ⟨Py Wb _,Ku F.entry_list_iadd ?_⟩));rw[Ke Wb _];show wpAny _ A.in1 (Du.List.listExtendWith (.ref s.heap.objs.size) (.ref v) (.ref s.heap.objs.size)) _ _ { s with heap:=s.heap.push { cls:=.type "list",data:=.seq ([]:List Value).toArray } };generalize O:s.heap.push { cls:=.type "list",data:=.seq ([]:List Value).toArray }=g;have I:∀b o,s.heap.get? b=some o->g.get? b=some o:=λb o q=>by rw[<- O];exact Ae _ q
 have gz:g.objs.size=s.heap.objs.size+1:=by rw[<- O];exact Gd _ _
 have gS:g.get? s.heap.objs.size=some { cls:=.type "list",data:=.seq ([]:List Value).toArray }:=by rw[<- O];exact An _ rfl
 refine Ac (Jo (U g I) ?_);have hs:Qy (.ref s.heap.objs.size) (.ref v)=false:=by simp[Qy,Ex Z]
 simp only[hs,h1,h2,Pu,Bp,if_false];refine Ac (H _ _ g _ I ?_);rw[gz];have L:∀b o,g.get? b=some o->(g.push oI).get? b=some o:=λb o q=>Ae _ q;have j:=L _ _ gS;have put:∀(h:Heap) (c:Nat),(∀b o,b≠s.heap.objs.size->(g.push oI).get? b=some o->h.get? b=some o)->h.get? s.heap.objs.size=some { cls:=.type "list",data:=.seq ([]:List Value).toArray c }->h.get? (s.heap.objs.size+1)=some oI ->
   Gq (model prog w) A (.builtin "list.extend.loop" ⟨[.ref s.heap.objs.size,.ref (s.heap.objs.size+1),.ref s.heap.objs.size],[]⟩) (λr s'=>∃acc B,r=.ok (.ret (.ref s.heap.objs.size))/\s'.heap.get? s.heap.objs.size=some { cls:=.type "list",data:=.seq acc B }/\Q acc.toList s') { s with heap:=h }:=by
  intro h c M P S;obtain⟨f,i⟩:=h0 h (λb o q=>M b o (Bj (Al q)) (L b o (I b o q))) S;refine grow W (Bj (Ka _)) hn _ n [] _ c (by simp) (Bf _) f i P λacc h' B e f' k' s'=>⟨acc.toArray,B,rfl,s',?_⟩
  have:=hQ acc h' e f' (Jl (Al s')) λb o q=>k' b o (Bj (Al q)) (Bj (Mg (Al q))) (M b o (Bj (Al q)) (L b o (I b o q)));simpa using this
 have X:(g.push oI).get? (s.heap.objs.size+1)=some oI:=by grind
 refine Ac (Cq (G _ _ _ _ (U (g.push oI) λb o q=>L b o (I b o q)) ?_));have C:∀(h:Heap) (c:Nat),(∀b o,b≠s.heap.objs.size->(g.push oI).get? b=some o->h.get? b=some o)->h.get? s.heap.objs.size=some { cls:=.type "list",data:=.seq ([]:List Value).toArray c }->h.get? (s.heap.objs.size+1)=some oI->∀{R:Result->Ag->Prop},
   (∀s' acc B,s'.heap.get? s.heap.objs.size=some { cls:=.type "list",data:=.seq acc B }->Q acc.toList s'->R (.ok (.ret (.ref s.heap.objs.size))) s')->Gq (model prog w) A (.builtin "list.extend.loop" ⟨[.ref s.heap.objs.size,.ref (s.heap.objs.size+1),.ref s.heap.objs.size],[]⟩) R { s with heap:=h }:=by
  intro h c M P S R hR;refine Hi (put h c M P S) λr s' z=>?_;obtain⟨acc,B,rfl,e,q⟩:=z;exact hR s' acc B e q
 refine wpAny_ite_split (λ_=>?_) (λ_=>?_)
 ·refine Ac (Hd (Ac ?_));show wpAny _ _ (updateSeq s.heap.objs.size (·.push .none) >>= λ_=>updateSeq s.heap.objs.size (·.pop)) _ _ _;refine Ac (Rr j rfl ?_);have u:=Ju j (λx=>x.push Value.none);refine Rr u rfl ?_;have D:=Ju u (λx=>x.pop);have J:∀b o,b≠s.heap.objs.size->(g.push oI).get? b=some o->(((g.push oI).update s.heap.objs.size (Fq λx=>x.push Value.none)).update s.heap.objs.size (Fq λx=>x.pop)).get? b=some o :=
   λb o Y q=>(Bu _ _ (Bz Y)).trans ((Bu _ _ (Bz Y)).trans q)
  refine Ad ⟨Py Iw _,C _ _ J D (J _ _ (Ex (Ka _)) X) λs' acc B e q=>?_⟩;exact Ac (Xb e (Ad q))
 ·refine Ad ⟨Py Iw _,C _ _ (λb o _ q=>q) j X λs' acc B e q=>?_⟩;exact Ac (Xb e (Ad q))
end
end PySem.Rv
namespace L2
open PySem PySem.Spec PyProof.Rows SB TX
noncomputable def kP(p:Pth):List Key:=p.map λn=>Sum.inr (mk n)
noncomputable abbrev vP(p:Pth):List V:=p.map λn=>V.str (mk n)
def z2h(p:Pth):(kP p).map kV=vP p:=by unfold kP;rw[Dy];rfl
noncomputable abbrev HRow:=Pth×V
noncomputable abbrev dR(rows:List HRow):HO:=.dT (rows.map λr=>(kP r.1,r.2))
theorem z2i:∀{p:Pth} {us:List Value},Vals (vP p) us->Iz us (p.map mk)
 |[],_,.nil=>.nil
 |n::p,us,h=>by
  cases h with
  |cons r t =>
   obtain⟨k,rfl⟩:=r;exact .cons _ k (z2i t)
section
variable{X:Cx}{pins:List (Addr×Obj)}{σ:St}{H:Hp}{s:Ag}
def Inv.path(I:Inv X pins σ H s)(h:H b=some (.tup (vP p))):PathAt s.heap (.ref b) p:=by
 obtain⟨z,f,r,t⟩:=I.hok b _ h;exact⟨b,f.toArray,rfl,t,by simpa using z2i r⟩
def Inv.rows(I:Inv X pins σ H s){rows:List HRow}(hd:H d=some (dR rows)):(d==Dp)=false/\rows.length<=sizeLine/\∃g o u,s.heap.get? d=some g/\g.ExactDict/\g.data=.dict o u/\(rows.map (·.1)).Nodup /\
  ∃zs:List (Addr×Value×HRow),zs.map (·.2.2)=rows/\o.toList.map (λe=>(e.key,e.val))=zs.map (λz=>(Value.ref z.1,z.2.1))/\∀z∈zs,H z.1=some (.tup (vP z.2.2.1))/\RelV z.2.2.2 z.2.1:=by
 obtain⟨z,j,f,F,g,o,u,G,v,B,J,C⟩:=(show ObjOk X.prog X.w H s.heap d (dR rows) from I.hok d _ hd)
 rw[Af] at z;have go:∀(rows:List HRow) (f:List (List Key×Addr×Value)),Hw (λ(p:List Key×V) (q:List Key×Addr×Value)=>p.1=q.1/\H q.2.1=some (.tup (p.1.map kV))/\RelV p.2 q.2.2) (rows.map λr=>(kP r.1,r.2)) f ->
   f.map (·.1)=rows.map (λr=>kP r.1)/\∃zs:List (Addr×Value×HRow),zs.map (·.2.2)=rows/\(f.map (Qh (Ky (mixKind X.prog X.w)))).map (λe=>(e.key,e.val))=zs.map (λz=>(Value.ref z.1,z.2.1))/\∀z∈zs,H z.1=some (.tup (vP z.2.2.1))/\RelV z.2.2.2 z.2.1:=by
  intro rows;induction rows with
  |nil=>intro f h;cases h;exact⟨rfl,[],rfl,rfl,λ_ h=>nomatch h⟩
  |cons r rows ih =>
   intro f h;cases h with
   |cons hq t =>
    rename_i q ys;obtain⟨L,M,O⟩:=hq;obtain⟨P,zs,Q,R,S⟩:=ih ys t;refine⟨by rw[Ar,Ar,P,<- L],(q.2.1,q.2.2,r)::zs,by rw[Ar,Q],by rw[Ar,Ar,Ar,R];rfl,λz D=>?_⟩;rcases Az.mp D with rfl|D
    ·exact⟨by rw[<- z2h];exact M,O⟩
    ·exact S z D
 obtain⟨T,zs,U,W,Y⟩:=go rows f F;refine⟨j,z,g,o,u,G,v,B,?_,zs,U,by rw[J];exact W,Y⟩;rw[T] at C;have e:rows.map (λr=>kP r.1)=(rows.map (·.1)).map kP:=by simp_all
 rw[e] at C;exact(List.pairwise_map.mp C).imp λE z=>E (by rw[z])
end
theorem z2j:∀(bs:List Addr),Vals (bs.map V.ref) (bs.map Value.ref)
 |[]=>.nil
 |b::bs=>.cons rfl (z2j bs)
noncomputable def vwO(v d:Addr):HO:=.ext λh=>h.IsItemsView v d
noncomputable def rItems:V->List V->Hp->VK->Prop:=λx vs H Q=>∃d rows,x=.ref d/\vs=[]/\H d=some (dR rows)/\∀v,H v=none->Q (.ref v) (upd H v (vwO v d))
def x3f:MtR X "dict.items" rItems:=by
 intro B s L H x vs v M Q I E G h;obtain⟨d,rows,rfl,rfl,hd,q⟩:=h;cases E;have j:=G.zero;subst j;obtain⟨f,O,C,P,R,D,g,J,_⟩:=I.rows hd;refine By F.slot_dict_items ⟨C,D,g.1⟩ F.entry_dict_items ?_ (F.args_dict_items_1 _);refine Ac ?_;unfold Du.Dict.noArgs;refine Ac (Su ⟨C,D,g.1⟩ ?_);show wpAny _ _ (pure d) _ _ s;refine Ad ?_;unfold Nd;rw[if_neg (by rw[f];exact Bl)];refine Ac (Ad (Ac (Cc (Ad ⟨_,rfl,.ref s.heap.objs.size,_,I.laid (t':=s.toks) (λb u e=>Ae _ e) (Ai _) ?_,rfl,q _ I.fresh⟩))));exact⟨⟨_,An _ rfl,rfl,rfl⟩,⟨_,An _ rfl⟩,λS T ⟨o,e,c,dd⟩ k=>⟨o,k o e,c,dd⟩⟩
noncomputable def PR(H:Hp)(a:Addr)(r:HRow):Prop:=∃b,H a=some (.tup [.ref b,r.2])/\H b=some (.tup (vP r.1))
noncomputable abbrev PRs(H:Hp):List Addr->List HRow->Prop:=Hw (PR H)
noncomputable def rSortV:List V->Hp->VK->Prop:=λvs H Q=>∃v d rows,vs=[.ref v]/\H v=some (vwO v d)/\H d=some (dR rows)/\rows.length<64/\(∀r∈rows,Low r.1) /\
 ∀L as rs H',H L=none->rs.Perm rows->(rs.map (·.1)).Pairwise (λa b=>pLt b a=false)->Same H H'->H' L=some (.lst (as.map V.ref))->PRs H' as rs->Q (.ref L) H'
def Inv.tracks{u:St}:∀{zs:List (Addr×List V)} {H:Hp},Inv X pins u H s->X.s₀.heap.objs.size<=n->(zs.map (·.1)).Nodup ->
  (∀z∈zs,n<=z.1/\FpOk X pins H z.1/\z.2.length<=sizeLine/\∃f,Vals z.2 f/\IsTup s.heap z.1 f.toArray)->∃H',Inv X pins u H' s/\Same H H'/\(∀z∈zs,H' z.1=some (.tup z.2))/\∀b,(∀z∈zs,z.1≠b)->H' b=H b:=by
 intro zs;induction zs with
 |nil=>intro H I _ _ _;exact⟨H,I,Same.refl H,(λ_ h=>nomatch h),λ_ _=>rfl⟩
 |cons z zs ih =>
  intro H I hn nd v;obtain⟨D,B,E,f,F,G⟩:=v z Av;rw[Ar,Fh] at nd;have L:=I.track (o:=.tup z.2) (Bg hn D) B ⟨E,f,F,G⟩;obtain⟨H',J,sm,M,O⟩:=ih L hn nd.2 (λy g=>by
   obtain⟨P,C,Q,R⟩:=v y (Ap _ g);exact⟨P,⟨by rw[q0f (λe=>nd.1 (by rw[<- e];exact Aw.mpr ⟨y,g,rfl⟩))];exact C.1,C.2⟩,Q,R⟩)
  refine⟨H',J,((Same.refl H).new B.1).trans sm,λy g=>?_,λb j=>?_⟩
  ·rcases Az.mp g with rfl|g
   ·exact sm _ _ q0d
   ·exact M y g
  ·rw[O b λy g=>j y (Ap _ g),q0f (Bz (j z Av))]
theorem z0b{o u:Type}{f:o->u}:∀{l:List o},(l.map f).Nodup->∀{x y:o},x∈l->y∈l->f x=f y->x=y
 |[],_,_,_,h,_,_=>nomatch h
 |a::l,nd,x,y,hx,hy,e=>by
  rw[Ar,Fh] at nd;rcases Az.mp hx with ex|j
  ·rcases Az.mp hy with s|g
   ·rw[ex,s]
   ·exact absurd (by rw[<- ex,e];exact Aw.mpr ⟨y,g,rfl⟩) nd.1
  ·rcases Az.mp hy with s|g
   ·exact absurd (by rw[<- s,<- e];exact Aw.mpr ⟨x,j,rfl⟩) nd.1
   ·exact z0b nd.2 j g e
noncomputable abbrev Zt:=Addr×Value×HRow
structure Made (h:Heap) (lo:Nat) (ws:List (Addr×Zt)):Prop where
 rise:(ws.map (·.1)).Pairwise λa b:Nat=>a<b
 low:∀x∈ws,lo<=(show Nat from x.1)
 at_:∀x∈ws,IsTup h x.1 #[.ref x.2.1,x.2.2.1]
def Made.keep{f:Nat}(m:Made h f ws)(k:∀(a:Nat) o,f<=a->h.get? a=some o->h'.get? a=some o):Made h' f ws :=
 ⟨m.rise,m.low,λx g=>SB.IsTup.keep (m.at_ x g) λo e=>k _ o (m.low x g) e⟩
theorem x5a{H:Hp}{j:Type}{f:j->Addr}{g:j->HRow}:∀{zs:List j},(∀z∈zs,PR H (f z) (g z))->PRs H (zs.map f) (zs.map g)
 |[],_=>.nil
 |z::zs,h=>.cons (h z Av) (x5a λy o=>h y (Ap _ o))
def z7b(hr:Room k X.A):CallR X (.builtin "sorted") rSortV:=by
 intro c1 s σ H xs us Q I rv h;obtain⟨v,d,rows,rfl,hv,hd,few,c2,q⟩:=h;obtain⟨u,rfl,ru⟩:=rv.one;cases ru;obtain⟨c3,hz,ob,F,ep,ho,c5,U,nd,Y,z1,z2,z3⟩:=I.rows hd;obtain⟨vo,Z,vc,vd⟩:s.heap.IsItemsView v d:=(I.hok v _ hv).1;have c4:F.size=rows.length:=by
  have:=congrArg List.length z2;rw[Af,Af,Iu] at this;rw[this,<- z1,Af]
 have a0:∀{i:Nat} (hi:i<F.size),∃z∈Y,Y[i]?=some z/\F[i].key=.ref z.1/\F[i].val=z.2.1:=λ{i} hi=>by
  have e:=congrArg (λl=>l[i]?) z2;simp only[Bm,Sw,Gh hi,Nw] at e;cases G:Y[i]? with
  |none=>simp_all
  |some z =>
   rw[G] at e;injection e with e;injection e with R D;exact⟨z,Bd G,rfl,R,D⟩
 have a4:Y.length=F.size:=by grind
 have a5:=Al ho;have hu:=hr.un;refine SB.sorted_ok λ{Q'} kk=>?_;refine PySem.Rv.collect_runs (n:=F.size) (oI:=PySem.Rv.itemObj d 0 F.size ep .none (.bool false) .none .none) (Fc:=λacc h=>∃B,acc=B.map (λx=>Value.ref x.1)/\B.map (·.2)=Y.take acc.length/\Made h (s.heap.objs.size+2) B)
  (It:=λi h=>PySem.Rv.ItemIt h (s.heap.objs.size+1) d i F.size ep/\h.get? d=some ob) (λh L=>⟨vo,L _ _ Z,vc⟩) (Al Z) (by decide) (by decide) (λA E s' Q hT hq=>W.kdx_hint hT hq)
  (λA E h Q L hq=>PySem.Rv.items_iter ⟨vo,L _ _ Z,vc,vd⟩ (L _ _ ho) U hq) (λh=>An _ rfl) ⟨?_,λi h S ⟨f1,f2⟩ kp=>⟨f1.keep λo e=>kp _ _ (Ex (Ka _)) e,kp _ _ (Bj a5) f2⟩,?_,?_⟩ (by lia)
  (λh L ki=>⟨⟨[],rfl,rfl,.nil,(λ_ z=>nomatch z),(λ_ z=>nomatch z)⟩,⟨_,_,_,_,ki,.inl rfl⟩,L _ _ ho⟩) (λacc h el f M L=>?_)
 ·rintro acc h S ⟨B,R,D,m⟩ kp;refine⟨B,R,D,m.keep λa o ha e=>kp a o (λz=>?_) (λz=>?_) e⟩
  ·rw[z] at ha;exact absurd ha (by lia)
  ·grind
 ·rintro acc s' Q E hl ⟨B,R,D,m⟩ ⟨i1,i2⟩ hq;refine PySem.Rv.items_item i1 i2 U hl λS j1 j2 j3 j4=>?_;obtain⟨z,c6,G,b1,b2⟩:=a0 hl;have lo:=i1.lt;have ni:∀{a:Nat},s.heap.objs.size+2<=a->a≠s.heap.objs.size+1:=λh=>by lia
  refine hq _ S ⟨B++[(s'.heap.objs.size,z)],by rw[R,Au];rfl,?_,?_⟩ ⟨j1,j4 d ob (Bj (Mg a5)) i2⟩ j4
  ·rw[Au,D,Aj,Bk,Gf,G];rfl
  ·have m':=m.keep (h':=S) λa o ha e=>j4 a o (ni ha) e;refine⟨?_,λx g=>?_,λx g=>?_⟩
   ·rw[Au];refine List.pairwise_append.mpr ⟨m.rise,Ri _ _,λa ha b hb=>?_⟩;obtain⟨x,g,rfl⟩:=Aw.mp ha;have hb':b=s'.heap.objs.size:=by simpa using hb
    rw[hb'];obtain⟨o,eo,_⟩:=m.at_ x g;exact Al eo
   ·rcases Ba.mp g with g|g
    ·exact m.low x g
    ·rw[Ao.mp g];exact lo
   ·rcases Ba.mp g with g|g
    ·exact m'.at_ x g
    ·rw[Ao.mp g];refine⟨_,j2,rfl,0,?_⟩;rw[b1,b2]
 ·rintro s' Q E ⟨i1,i2⟩ hq;exact PySem.Rv.items_end hr.hd i1 i2 U (Ai _) λS eb=>hq S λb o hb e=>eb b o hb e
 ·obtain⟨B,R,D,m⟩:=f;rw[el,<- a4,Dj] at D;have O:∀{x:Addr×Zt},x∈B->x.2∈Y:=λ{x} g=>by rw[<- D];exact Aw.mpr ⟨x,g,rfl⟩
  have a6:∀{x:Addr×Zt},x∈B->x.2.2.2∈rows:=λ{x} g=>by rw[<- z1];exact Aw.mpr ⟨_,O g,rfl⟩
  have a1:∀{x:Addr×Zt},x∈B->PairAt h (.ref x.1) x.2.2.2.1 x.2.2.1:=λ{x} g=>⟨x.1,.ref x.2.1,rfl,m.at_ x g,(I.path (z3 _ (O g)).1).keep L⟩
  have b3:(B.map λx=>x.2.2.2.1).Nodup:=by grind
  have T:∀{w:Value},w∈acc->∃x∈B,w=.ref x.1:=λ{w} hw=>by
   rw[R] at hw;obtain⟨x,g,rfl⟩:=Aw.mp hw;exact⟨x,g,rfl⟩
  refine kk acc h s.toks _ _ _ (SB.ready_pairs (ps:=rows.map (·.1)) (by lia) (λw hw=>?_) (λw hw y hy p mm c7 b4 b5=>?_) (by lia)) λS b6 so a7 ⟨e,he⟩=>?_
  ·grind
  ·obtain⟨x,g,rfl⟩:=T hw;obtain⟨x2,a8,rfl⟩:=T hy;have q1:=SB.PairAt.inj b4 (a1 g);have q2:=SB.PairAt.inj b5 (a1 a8);rw[z0b b3 g a8 (q1.symm.trans q2)]
  ·have pm:=so.perm;rw[R] at pm;obtain⟨j,P,p2⟩:=SB.perm_map_inv pm rfl;have C:=so.rise;rw[p2] at C;have b7:=SB.rise_paths (λw a b ⟨_,x⟩ ⟨_,y⟩=>SB.PairAt.inj x y) (λx g=>by
    have a9:=P.mem_iff.mp g;exact⟨⟨_,a1 a9⟩,Aw.mpr ⟨_,a6 a9,rfl⟩⟩) C
   have keep:=λb o z=>a7 b o (L b o z);have I1:=I.kept (t':=s.toks) keep;have a2:=λ{x} g=>Bg (Nat.le_add_right _ 2) (m.low x (P.mem_iff.mp g));have b8:(j.map (·.1)).Nodup:=by
    have:(B.map (·.1)).Nodup:=m.rise.imp λh e=>by subst e;exact absurd h (Gu _)
    exact(P.map (·.1)).nodup_iff.mpr this
   obtain⟨H1,J,sm,ht,b9⟩:=I1.tracks (zs:=j.map λx=>(x.1,[V.ref x.2.1,x.2.2.2.2])) I.sz (by rw[Dy];exact b8) (λz hz=>by
    obtain⟨x,g,rfl⟩:=Aw.mp hz;refine⟨a2 g,I.fpOk (a2 g) (I.hok.fresh (a2 g)),by show 2<=sizeLine;decide,[.ref x.2.1,x.2.2.1],.cons rfl (.cons (z3 _ (O (P.mem_iff.mp g))).2 .nil),?_⟩;exact SB.IsTup.keep (m.at_ x (P.mem_iff.mp g)) λo e=>a7 _ o e)
   have a3:H1 h.objs.size=none:=by
    rw[b9 _ λz hz e=>?_]
    ·exact I.hok.fresh M
    ·obtain⟨x,g,rfl⟩:=Aw.mp hz;obtain⟨o,eo,_⟩:=m.at_ x (P.mem_iff.mp g);exact absurd (Al eo) (by rw[show x.1=h.objs.size from e];exact Gu _)
   have c0:(j.map (·.1)).length=F.size:=by rw[Af,P.length_eq,<- a4,<- D,Af]
   have eo:b6.toList=(j.map (·.1)).map Value.ref:=by rw[p2,Dy];rfl
   have J2:=J.track (o:=.lst ((j.map (·.1)).map V.ref)) (Bg I.sz M) (I.fpOk M a3) ⟨by rw[Af,c0];lia,_,e,z2j _,by rw[<- eo];exact he⟩;have b0:Same H (upd H1 h.objs.size (.lst ((j.map (·.1)).map V.ref))):=sm.trans ((Same.refl H1).new a3);refine⟨.ref h.objs.size,_,J2,rfl,q _ (j.map (·.1)) (j.map λx=>x.2.2.2) _ (I.hok.fresh M) ?_ (by rw[Dy];exact b7) b0 q0d (x5a λx g=>?_)⟩
   ·have e3:B.map (λx=>x.2.2.2)=rows:=by rw[<- z1,<- D,Dy];rfl
    rw[<- e3];exact P.map _
   ·refine⟨x.2.1,?_,b0 _ _ (z3 _ (O (P.mem_iff.mp g))).1⟩;exact(Same.refl H1).new a3 _ _ (ht _ (Aw.mpr ⟨x,g,rfl⟩))
def d_set{j:St}(F:A.units+1<cLine)(I:Inv X pins j H s)(e:H a=some (.dT kvs))(u:H b=some (.tup (k.map kV)))(l:kvs.length<sizeLine)(G:RelV v r)(h:∀s',Inv X pins j (upd H a (.dT (putK kvs k v))) s'->(∀b o,b≠a->s.heap.get? b=some o->s'.heap.get? b=some o)->Q () s'):wpAny (model X.prog X.w) A (dictSet a (.ref b) r) Q E s:=by
 obtain⟨z,hd,J,f,dd⟩:=dt_of I.hok e;have U:J.length<=sizeLine:=by rw[<- Ht f];exact z
 have hl:(putK kvs k v).length<=sizeLine:=by have:=q1w kvs k v;lia
 refine wpAny_dictSet_heap (show(Ky (mixKind X.prog X.w)).room A from Nat.lt_of_succ_lt F) (q7o I.hok u) dd λW g B=>h _ ?_ λb o L e=>(B.2 b L).trans e;obtain⟨q,M,O,C,P,R,S,_,T⟩:=g;refine q9y I (by rw[e];exact True.intro) B ⟨q,C⟩ ⟨hl,hd,_,(f.put k u G).keeps λc Y D=>?_,q,M,O,C,P,R,S,T⟩;rw[q0f (x1v D e (λz=>nomatch z))];exact D
noncomputable def CompWD(J:It)(g:TG)(tt:TT)(tk tv:TE)(σ0:St)(D:Addr)(Fin:List (List Key×V)->Hp->Prop)(H1:Hp):Prop :=
 ∃W:Nat->Nat->List (List Key×V)->Hp->Prop,(∃m,W 0 m [] (upd H1 D (.dT [])))/\∀i m ys H,W i m ys H->H D=some (.dT ys) /\
  ((J.stop i H/\Fin ys H)\/(J.go i H/\∃N:List (List Key×V)->Hp->Prop,(∀zs H',N zs H'->∃m',m'<m/\W (i+1) m' zs H')/\∀x H',J.yld i H x H'->g x σ0 H' λσ2 H2=>Keeps0 σ0 σ2/\tt σ2 H2 λb H3 =>
   if b=true then tk σ2 H3 λy H4=>tv σ2 H4 λv H5=>∃k c,y=.ref c/\H5 c=some (.tup (k.map kV))/\H5 D=some (.dT ys)/\ys.length<sizeLine/\N (putK ys k v) (upd H5 D (.dT (putK ys k v)))
   else N ys H3))
def z9u{j:St}{Fin:Addr->List (List Key×V)->Hp->Prop}{RR:Value->Addr->Result->Ag->Prop}(hc:X.calm=true)(Z:scope.kind=.function)(b6:∀y∈scope.names,y.2≠.cell)(d2:∀x c,cl.lookup x=some c->X.env.cells.lookup x=some c)(d3:∀x,(x,Bh.free)∈scope.names->∃c,cl.lookup x=some c)(co:CapOk X scope caps)(hg:∀C s H,PG (cxComp X (tg++caps.map (·.1)) scope cl C fp s H) target g)(ht:∀C s H,PIfs (cxComp X (tg++caps.map (·.1)) scope cl C fp s H) ifs tt)(he:∀C s H,PE (cxComp X (tg++caps.map (·.1)) scope cl C fp s H) kx tk)(hv:∀C s H,PE (cxComp X (tg++caps.map (·.1)) scope cl C fp s H) vx tv)(hu:X.A.units+1<cLine)(I2:Inv X h j H1 s₂)(T:Turn X.prog X.w X.K target J fp it tn)(st:tn 0 s₂.heap)(hf:∀b∈fp,FpOk X h H1 b)(hw:∀D,H1 D=none->CompWD J g tt tk tv (tg0 tg j caps) D (Fin D) H1)(d4:∀D C ys H' s',H1 D=none->Inv X h j H' s'->(∃m,s'.heap.Ns C m)->FpOk X h H' C->Fin D ys H'->RR (.ref D) C (.ok .next) s'):
  wpAny (model X.prog X.w) X.A newDict (λacc G=>wpAny (model X.prog X.w) X.A (newFunctionEnv scope X.env.globals cl [] X.env.qual none .none (some X.env)) (λa6 b7 =>
   Gq (model X.prog X.w) X.A (.compStart (.DictComp kx vx [⟨target,iter,ifs,0⟩] scope pos) 0 (.ref it) acc { a6 with scope:=relabel scope X.env }) (RR acc a6.locals) b7) E G) E s₂:=by
 have I3:Inv X h j (upd H1 s₂.heap.objs.size (.dT [])) { s₂ with heap:=s₂.heap.push { cls:=.type "dict",dict:=none,data:=.dict #[] },toks:=s₂.toks }:=I2.laid (λ_ _ q=>Ae _ q) (Ai _) (z5p s₂.heap I2.big);have a9:=I2.fresh;refine Cc (Tn b6 (by intro y hy;simp at hy) (λa0 B F=>?_) Z);dsimp only at B F ⊢;generalize b0:s₂.heap.objs.size=D at I3 a9 B F ⊢;generalize f3:({ s₂ with heap:=s₂.heap.push { cls:=.type "dict",dict:=none,data:=.dict #[] } }:Ag)=G at I3 B F ⊢;have e3:s₂.heap.push { cls:=.type "dict",dict:=none,data:=.dict #[] }=G.heap:=by grind
 have o3:({ s₂ with heap:=a0,toks:=s₂.toks+([]:List (Str×Value)).length }:Ag)={ G with heap:=a0,toks:=s₂.toks }:=by grind
 have b1:G.heap.objs.size=D+1:=by rw[<- e3,Gd,b0]
 rw[e3] at B F ⊢;have a7:∀b o,s₂.heap.get? b=some o->G.heap.get? b=some o:=λb o e=>by rw[<- e3];exact Ae _ e
 generalize a4:G.heap.objs.size=C at B F ⊢;have hk:=λb o e=>F.extBut b o (by rw[<- a4];exact Bj (Al e)) (Ae _ e);have b8:∀b∈fp,∃o,s₂.heap.get? b=some o:=λb I=>by obtain⟨o,e,_⟩:=T.obj 0 _ st b I;exact⟨o,e⟩
 have b9:∀b∈fp,b≠D:=λb I=>by obtain⟨o,e⟩:=b8 b I;rw[<- b0];exact Bj (Al e)
 have c0:∀b∈fp,FpOk X h (upd H1 D (.dT [])) b:=λb I=>⟨by rw[q0f (b9 b I)];exact(hf b I).1,(hf b I).2⟩
 have IY:=Inv.ofcomp (tk:=s₂.toks) tg I3 Z b6 d2 d3 c0 (λb I=>let ⟨o,e⟩:=b8 b I;⟨o,a7 b o e⟩) (Lc a4) B hk co;have FC:FpOk X h H1 C:=by
  have z:=I3.fpOk (H':=H1) (Lc a4) (I2.hok.fresh (by rw[b0,<- a4,b1];exact Ii _));exact z
 generalize hY:cxComp X (tg++caps.map (·.1)) scope cl C fp G (upd H1 D (.dT []))=Y at IY;have d5:PG Y target g:=by grind
 have d6:PIfs Y ifs tt:=by grind
 have d7:PE Y kx tk:=by grind
 have d8:PE Y vx tv:=by grind
 have M:Y.prog=X.prog:=by rw[<- hY];rfl
 have O:Y.w=X.w:=by rw[<- hY];rfl
 have c1:Y.K=X.K:=by rw[<- hY];rfl
 have S:Y.A=X.A:=by rw[<- hY];rfl
 have U:Y.env=Gm scope cl C X.env:=by rw[<- hY];rfl
 have a5:Y.ex=fp:=by rw[<- hY];rfl
 have f4:Y.pn=[]:=by rw[<- hY];rfl
 have c2:Y.calm=true:=by rw[<- hY];exact hc
 have R:Y.xe=λ_ _=>False:=by rw[<- hY];rfl
 have b2:∀{H':Hp},(∀b∈fp,H' b=none)->∀b∈fp,FpOk Y [] H' b:=λ{H'} hn b I=>by
  refine⟨hn b I,?_,?_,.inl (by rw[a5];exact I),λx c e=>?_,λp hp=>?_⟩
  ·have:=(IY.ok.exf b (by rw[a5];exact I)).1;exact this
  ·exact IY.ok.exfs b (by rw[a5];exact I)
  ·exact(IY.ok.exf b (by rw[a5];exact I)).2 x c e
  ·grind
 obtain⟨W,⟨m0,w0⟩,c3⟩:=hw D a9;have c4:=T.keep 0 _ _ st λb I o e=>hk b o (a7 b o e)
 have c5:∀{H':Hp} {s':Ag} {a1:St},Inv Y [] a1 H' s'->Inv X h j H' s':=λ{H' s' a1} P=>by
  have c6:=P.base;have c7:=P.os;rw[<- hY] at c6 c7;exact I3.call' c7 c6 (by have z:=P.hok;rw[M,O] at z;exact z) P.bare λb I=>⟨(hf b I).2.2.2.1,(hf b I).2.1,(hf b I).2.2.2.2.1,(hf b I).2.2.2.2.2⟩
 have gY:∀h s j H v u Q (L:Value->Ag->Prop),Inv Y h j H s->RelV v u->g v j H Q->wpAny (model X.prog X.w) X.A (assign target (Gm scope cl C X.env) u) (λ_ s'=>∃a1 H',Inv Y h a1 H' s'/\Q a1 H') L s:=λh s j H v u Q L P r q=>by
  have z:=d5 h s j H v u Q P r q;rw[M,O,S,U,R] at z;exact Cb z (λ_ _ x=>x) λ_ _ f=>f.elim
 have tY:∀h s j H Q (L:Value->Ag->Prop),Inv Y h j H s->tt j H Q->wpAny (model X.prog X.w) X.A (forIn ifs true λc r=>if r=true then do let ok<-isTrue c (Gm scope cl C X.env) (eval c (Gm scope cl C X.env));pure (ForInStep.yield ok) else pure (ForInStep.yield r)) (TP Y h j Q) L s:=λh s j H Q L P q=>by
  have z:=d6 h s j H Q P q;rw[M,O,S,U,R] at z;exact Cb z (λ_ _ x=>x) λ_ _ f=>f.elim
 have eY:∀h s j H Q (L:Value->Ag->Prop),Inv Y h j H s->tk j H Q->wpAny (model X.prog X.w) X.A (eval kx (Gm scope cl C X.env)) (EP Y h j Q) L s:=λh s j H Q L P q=>by
  have z:=d7 h s j H Q P q;rw[M,O,S,U,R] at z;exact Cb z (λ_ _ x=>x) λ_ _ f=>f.elim
 have vY:∀h s j H Q (L:Value->Ag->Prop),Inv Y h j H s->tv j H Q->wpAny (model X.prog X.w) X.A (eval vx (Gm scope cl C X.env)) (EP Y h j Q) L s:=λh s j H Q L P q=>by
  have z:=d8 h s j H Q P q;rw[M,O,S,U,R] at z;exact Cb z (λ_ _ x=>x) λ_ _ f=>f.elim
 have d9:∀i h s j H (L:Value->Ag->Prop),Inv Y h j H s->(∀b∈fp,FpOk Y h H b)->tn i s.heap->J.go i H ->
   wpAny (model X.prog X.w) X.A (Jm (.ref it)) (λr s1=>∃u,r=some u /\
    wpAny (model X.prog X.w) X.A (Nn target (.ref it) u) (λ_ s2=>∃x H',Inv Y h j H' s2/\RelV x u/\J.yld i H x H'/\tn (i+1) s2.heap/\∀b∈fp,H' b=none) L s1) L s:=λi h s j H L P b3 st go=>by
  have z:=T.item Y M O c1 c2 i h s j H L P b3 st go;rw[S] at z;exact z
 have e0:∀i h s j H (L:Value->Ag->Prop),Inv Y h j H s->(∀b∈fp,FpOk Y h H b)->tn i s.heap->J.stop i H ->
   wpAny (model X.prog X.w) X.A (Jm (.ref it)) (λr s1=>r=none/\Inv Y h j H s1) L s:=λi h s j H L P b3 st go=>by
  have z:=T.done Y M O c1 c2 i h s j H L P b3 st go;rw[S] at z;exact z
 have a8:Gq (model X.prog X.w) X.A (.compLoop (.DictComp kx vx [⟨target,iter,ifs,0⟩] scope pos) 0 (.ref it) (.ref D) (Gm scope cl C X.env)) (RR (.ref D) C) { G with heap:=a0,toks:=s₂.toks }:=by
  refine codeAny_loop rfl (λn s'=>∃i ys H',Inv Y [] (tg0 tg j caps) H' s'/\tn i s'.heap/\(∀b∈fp,H' b=none)/\W i n ys H') ?_ m0 ⟨0,[],_,IY,c4,λb I=>(c0 b I).1,w0⟩;rintro n s4 ⟨i,ys,H4,I4,c8,c9,w4⟩;refine wpAny_noted ?_;obtain⟨f5,e1⟩:=c3 i n ys H4 w4;rcases e1 with⟨stop,e2⟩|⟨go,N,hN,step⟩
  ·refine Ac (De (Ac (thn (e0 i [] s4 _ H4 _ I4 (b2 c9) c8 stop) λr s5 ⟨hr,I5⟩=>?_)));subst hr;refine Ad (d4 D C ys H4 s5 a9 (c5 I5) ?_ ⟨?_,FC.2⟩ e2)
   ·obtain⟨m,hm,_⟩:=I5.loc;rw[U] at hm;exact⟨m,hm⟩
   ·have z:=I5.free;rw[U] at z;exact z
  ·refine Ac (De (Ac (thn (d9 i [] s4 _ H4 _ I4 (b2 c9) c8 go) λr s5 ⟨u,hr,h5⟩=>?_)));subst hr;refine Ac (thn h5 λ_ s6 ⟨x,H6,I6,r6,y6,b4,e4⟩=>?_);have I6':=I6.pinned (b2 e4) (T.obj _ _ b4);refine Ac (thn (gY _ s6 _ H6 x u _ _ I6' r6 (step x H6 y6)) λ_ s7 ⟨a2,H7,I7,kp,q7⟩=>?_);refine Ac (thnT (tY _ s7 a2 H7 _ _ I7 q7) λb s8 H8 I8 q8=>?_);have a3:∀{H9:Hp} {s9:Ag} {zs:List (List Key×V)} {m':Nat},Inv Y ([]++pinsAt fp s6.heap) a2 H9 s9->m'<n->W (i+1) m' zs H9->∃m,m<n/\∃i ys H',Inv Y [] (tg0 tg j caps) H' s9/\tn i s9.heap/\(∀b∈fp,H' b=none)/\W i m ys H':=λ{H9 s9 zs m'} I9 hm w9=>by
    refine⟨m',hm,i+1,zs,H9,I9.unpinned.weak kp.1 kp.2,T.keep _ _ _ b4 λb I o e=>(I9.pin (b,o) (Bw _ (Bw _ (q2d I e)))).1,λb I=>?_,w9⟩;obtain⟨o,e,d⟩:=T.obj _ _ b4 b I;exact(I9.pin (b,o) (Bw _ (Bw _ (q2d I e)))).2.1
   cases b with
   |true =>
    refine Ac (Ac (thnE (eY _ s8 a2 H8 _ _ I8 q8) λkv s9 yy H9 I9 r9 q9=>?_));refine Ac (Cq (thnE (vY _ s9 a2 H9 _ _ I9 q9) λvv f6 v e5 e6 e7 ⟨kk,bb,ey,e8,d0,d1,e9⟩=>?_));subst ey;cases r9;obtain⟨m',b5,f1⟩:=hN _ _ e9;refine Ac (De (Cq ?_));have z:=d_set (E:=notedBy (model X.prog X.w) X.A (Gm scope cl C X.env) λe s'=>RR (.ref D) C (.error e) s') (Q:=λ_ s'=>Inv Y ([]++pinsAt fp s6.heap) a2 (upd e5 D (.dT (putK ys kk v))) s') hu e6 d0 e8 d1 e7 λs' I' _=>I';rw[M,O] at z;exact thn z λ_ f7 f2=>Ad ⟨rfl,a3 f2 b5 f1⟩
   |false =>
    obtain⟨m',b5,w8⟩:=hN _ _ q8;exact Ad ⟨rfl,a3 I8 b5 w8⟩
 rw[o3];exact codeAny_compStart_dict a8 (T.self _ 0 _ _ _ c4 a8)
section
variable{X:Cx}{iter target kx vx:Expr}{ifs:List Expr}{scope:Scope}{pos:Pos}{wi:TI}{g:TG}{tt:TT}{tk tv:TE}
noncomputable def tSetDC(wi:TI)(g:TG)(tt:TT)(tk tv:TE)(tg:List Str)(caps:Caps)(i:Nat):TS:=λD' σ H=>wi σ H λJ H1=>∀D,H1 D=none->CompWD J g tt tk tv (tg0 tg σ caps) D (λ_ H'=>D'.nx (σ.set i (some (.ref D))) H') H1
def x3g{i:Nat}{y:Str}{P E:Pos}(O:List Str)(f:Caps)(hN:X.N.Nodup)(Q:X.N[i]?=some y)(hx:Loc X.env.scope y)(hc:X.calm=true)(hi:PI X target iter wi)(hg:∀cl C j s H,PG (cxComp X (O++f.map (·.1)) scope cl C j s H) target g)(ht:∀cl C j s H,PIfs (cxComp X (O++f.map (·.1)) scope cl C j s H) ifs tt)(he:∀cl C j s H,PE (cxComp X (O++f.map (·.1)) scope cl C j s H) kx tk)(hv:∀cl C j s H,PE (cxComp X (O++f.map (·.1)) scope cl C j s H) vx tv)(hu:X.A.units+1<cLine)(hk:compChk X.N X.env.scope scope f=true:=by rfl)(hs:∀x,Md iter X.env x=pure x:=by intro _;rfl)(R:Jb (.DictComp kx vx [⟨target,iter,ifs,0⟩] scope pos) (some (.Name y P)) E.line X.env=pure true:=by rfl)(hf:X.fn y=true\/X.env.scope.names.lookup y=some .local:=by trivial):
  PS X (.Assign [.Name y P] (.DictComp kx vx [⟨target,iter,ifs,0⟩] scope pos) E) (tSetDC wi g tt tk tv O f i):=by
 intro G s σ H D' I h;obtain⟨u,S,B,L,co⟩:=q5s hk;obtain⟨cl,M,U,W⟩:=z3y I L;rw[So _ _ _ _ R];refine Ac (De (Ac ?_));refine Ac (Cb (Lj (use:=some (assign (.Name y P) X.env)) rfl hs M u B
  (thn (hi G s σ H _ I h) λv s1 h1=>thn h1 λa6 s2 h2=>?_)) (λ_ Y hq=>Ad (Ad hq)) λ_ _ e=>e)
 obtain⟨it,j,tn,J,H2,e,I2,T,Z,f2,hw⟩:=h2;subst e;refine z9u (RR:=λacc C=>compPost (model X.prog X.w) X.A X.xe (some (assign (.Name y P) X.env)) (λ_ Y=>SP X G D' .next Y) acc C) (Fin:=λD _ H'=>D'.nx (σ.set i (some (.ref D))) H') hc u S U W co (λC s H=>hg cl C j s H) (λC s H=>ht cl C j s H) (λC s H=>he cl C j s H) (λC s H=>hv cl C j s H) hu I2 T Z f2 hw ?_;intro D C ys H' Y hD I' hm F a0;obtain⟨m,hm⟩:=hm;refine Qb (q7a (v:=.ref D) I' hN Q hx rfl (λa1 a2 a3=>?_) hf);obtain⟨a,sb,ha⟩:=a3;have a4:C≠a:=by
  rcases ha with ha|ha
  ·rw[ha];exact F.2.1
  ·exact λz=>F.2.2.2.2.1 y a ha z.symm
 refine⟨m,hm.sameBut sb a4,λh' a5=>?_⟩;exact⟨_,H',a2.turned (t':=a1.toks) (λb o hb e=>(a5.2 b hb).trans e) F.1 F.2.1 F.2.2.2.1 F.2.2.2.2.1 F.2.2.2.2.2,a0⟩
end
def x3h{Fin:List (List Key×V)->Hp->Prop}(f:Nat->List (List Key×V)->Hp->Prop)(C:f 0 [] (upd H1 D (.dT [])))(hl:∀i ys H,f i ys H->H D=some (.dT ys))(s:∀i ys H,i<n->f i ys H->J.go i H)(j:∀ys H,f n ys H->J.stop n H)(E:∀i ys H x H',i<n->f i ys H->J.yld i H x H'->g x σ0 H' λh F=>Keeps0 σ0 h/\tt h F λb B =>
   if b=true then tk h B λy G=>tv h G λv u=>∃k c,y=.ref c/\u c=some (.tup (k.map kV))/\u D=some (.dT ys)/\ys.length<sizeLine/\f (i+1) (putK ys k v) (upd u D (.dT (putK ys k v))) else f (i+1) ys B)(hd:∀ys H,f n ys H->Fin ys H):CompWD J g tt tk tv σ0 D Fin H1:=by
 refine⟨λi m ys H=>m=n-i/\i<=n/\f i ys H,⟨n,by simp,Bf _,C⟩,?_⟩;rintro i m ys H ⟨rfl,I,p⟩;refine⟨hl i ys H p,?_⟩;by_cases o:i<n
 ·exact .inr ⟨s i ys H o p,f (i+1),λL H' q=>⟨n-(i+1),by lia,rfl,o,q⟩,λx H' y=>E i ys H x H' o p y⟩
 ·have e:i=n:=by lia
  subst e;exact .inl ⟨j ys H p,hd ys H p⟩
def z7c{K:Ah}{Fin:List (List Key×V)->Hp->Prop}(j:Nat->List (List Key×V)->Hp->Prop)(u:j 0 [] (upd H1 D (.dT [])))(hl:∀i ys H,j i ys H->H D=some (.dT ys)/\SqL K H a xs)(B:∀i ys H x,xs[i]?=some x->j i ys H->g x σ0 H λf C=>Keeps0 σ0 f/\tt f C λb s =>
   if b=true then tk f s λy E=>tv f E λv o=>∃k c,y=.ref c/\o c=some (.tup (k.map kV))/\o D=some (.dT ys)/\ys.length<sizeLine/\j (i+1) (putK ys k v) (upd o D (.dT (putK ys k v))) else j (i+1) ys s)(hd:∀ys H,j xs.length ys H->Fin ys H):CompWD (Itl K a) g tt tk tv σ0 D Fin H1 :=
 x3h j u (λi ys H p=>(hl i ys H p).1) (λi ys H h p=>⟨xs,xs[i],(hl i ys H p).2,by simp[h]⟩) (λys H p=>⟨xs,(hl _ ys H p).2,Ai _⟩)
  (λi ys H x F h p y=>by obtain⟨e,y⟩:=y;subst e;exact B i ys _ x (y xs (hl i ys _ p).2) p) hd
section
variable{X:Cx}{pins:List (Addr×Obj)}{σ:St}
def x6q(I:Inv X pins σ H s)(h:H L=some (.lst xs)):∃f,Vals xs f/\s.heap.IsList L f.toArray:=by
 obtain⟨z,f,n,r,e⟩:=I.hok L _ h;exact⟨f,r,_,e,rfl,n,rfl⟩
end
structure Mf (K:Ah) (C:Addr) (m qual:Str) (st:Stmt) (ps:List Str):Prop where
 ex:∃f fd,Fun K m qual st f fd/\Meth K C m f/\Binds K fd ps []
structure MCal (P:Ak) (w:World) (K:Ah) (mg:Str->Option Value) (base:Heap) (C:Addr) (m:Str) (k:Nat) (ps:List Str) (sp:Sp):Prop where
 ex:∃f fd,FnOk P w K mg base CX0 k f fd ps sp/\Meth K C m f/\Binds K fd ps []
 cl:Cls K C
def Mf.cal{K:Ah}{st:Stmt}(D:Mf K C m qual st ps)(cl:Cls K C)(S:FnScope N ps (defScope st))(len:∀vs H Q E,sp vs H Q E->vs.length=ps.length)(j:∀(f:Addr) (g:Value) (A:Around) (outer:List Env) (s:Ag) (H:Hp) (vs:List V) (Q:VK) (E:XK),Room k (A.deeper (Hx qual (defScope st) s.heap.objs.size f g))->sp vs H Q E ->
   ∃t,PSs (cxOf CX0 P w K mg base N qual (defScope st) f g A outer s H E).nox (defBody st) t/\t { nx:=λ_ H'=>Q .non H',rt:=Q } (start N vs) H):MCal P w K mg base C m (k+1) ps sp:=by
 obtain⟨f,fd,F,o,u⟩:=D.ex;exact⟨⟨f,fd,F.ok S len λg A outer s H vs Q E v h=>j f g A outer s H vs Q E v h,o,u⟩,cl⟩
section
variable{X:Cx}{C:Addr}{x m:Str}{k j:Nat}{ps:List Str}{sp:Sp}{p pos apos:Pos}{o e:Expr}{es:List Expr}{ta:TE}{t:TA}
def pe_m{v:Sem Bool}(M:MCal X.prog X.w X.K X.mg X.base C m k ps sp)(B:Room j X.A)(D:PE X o ta)(ha:PA X (e::es) t)(g:k<=j:=by decide)(h:Bc (e::es) X.env=(false,eval e X.env)::Bc es X.env:=by rfl)(s:(Ew pos (Bc es X.env)).any (·.1)=false:=by rfl)(E:eval (.Call (.Attribute o m apos) (e::es) [] pos) X.env=(do
   let u<-eval o X.env
   Ol apos.atName
   let (f,first)<-Ko [u] (Na u m v)
   Tg pos f first (Ew pos (Bc (e::es) X.env)) (Mw pos (Jj [] X.env))):=by rfl):PE X (.Call (.Attribute o m apos) (e::es) [] pos) (tMeth C m sp [] E0 ta t):=by
 obtain⟨f,fd,F,G,H⟩:=M.ex;exact x5s D M.cl G F (B.mono g) H .nil pass0 ha h s E
def pe_m0{s:Sem Bool}(M:MCal X.prog X.w X.K X.mg X.base C m k ps sp)(u:Room j X.A)(v:PE X o ta)(g:k<=j:=by decide)(B:eval (.Call (.Attribute o m apos) [] [] pos) X.env=(do
   let h<-eval o X.env
   Ol apos.atName
   let (f,first)<-Ko [h] (Na h m s)
   Tg pos f first (Ew pos (Bc [] X.env)) (Mw pos (Jj [] X.env))):=by rfl):PE X (.Call (.Attribute o m apos) [] [] pos) (tMeth C m sp [] E0 ta tNil):=by
 obtain⟨f,fd,F,D,E⟩:=M.ex;exact x2c v M.cl D F (u.mono g) E .nil pass0 B
end
structure Kf (K:Ah) (mg:Str->Option Value) (C:Addr) (x qual:Str) (st:Stmt) (ps:List Str):Prop where
 ex:∃(f:Addr) (fd:Ld) (oc:Value) (od:Option Addr) (dV kV doc pm:Value) (an:Option Addr) (cdv ct:Value) (osl:Array (Option Value)),fd=Il "__init__" qual (defArgs st) (defBody st) (defScope st) dV kV doc pm an cdv ct /\
  K.lookup f=some ⟨oc,od,.func fd,osl⟩/\Lf K cdv qual=true/\Mk K C f/\Binds K fd ps []/\Binds K fd ps [.bool false]
 at_:mg x=some (.ref C)
 cl:Cls K C
structure KCal (P:Ak) (w:World) (K:Ah) (mg:Str->Option Value) (base:Heap) (C:Addr) (x:Str) (k:Nat) (ps:List Str) (sp:Sp):Prop where
 ex:∃f fd,FnOk P w K mg base CX0 k f fd ps sp/\Mk K C f/\Binds K fd ps []/\Binds K fd ps [.bool false]
 at_:mg x=some (.ref C)
 cl:Cls K C
def Kf.cal{K:Ah}{st:Stmt}(D:Kf K mg C x qual st ps)(S:FnScope N ps (defScope st))(len:∀vs H Q E,sp vs H Q E->vs.length=ps.length)(j:∀(f:Addr) (g:Value) (A:Around) (outer:List Env) (s:Ag) (H:Hp) (vs:List V) (Q:VK) (E:XK),Room k (A.deeper (Hx qual (defScope st) s.heap.objs.size f g))->sp vs H Q E ->
   ∃t,PSs (cxOf CX0 P w K mg base N qual (defScope st) f g A outer s H E).nox (defBody st) t/\t { nx:=λ_ H'=>Q .non H',rt:=Q } (start N vs) H):KCal P w K mg base C x (k+1) ps sp:=by
 obtain⟨f,fd,L,O,R,kV,v,pm,T,g,ct,B,rfl,F,o,M,G,I⟩:=D.ex;refine⟨⟨f,_,x5u F o S len λA outer s H vs Q E J u=>?_,M,G,I⟩,D.at_,D.cl⟩;obtain⟨t,h,q⟩:=j f g A outer s H vs Q E J u;exact⟨t,h.nox,q⟩
section
variable{X:Cx}{C:Addr}{x:Str}{k j:Nat}{ps:List Str}{sp:Sp}{p pos:Pos}{e:Expr}{es:List Expr}{t:TA}
def pe_k(M:KCal X.prog X.w X.K X.mg X.base C x k ps sp)(s:Room j X.A)(ha:PA X (e::es) t)(g:k+1<=j:=by decide)(u:Gl X x:=by rfl)(h:(x==("__debug__" : Str))=false:=by decide)(v:Bc (e::es) X.env=(false,eval e X.env)::Bc es X.env:=by rfl)(o:(Ew pos (Bc es X.env)).any (·.1)=false:=by rfl):PE X (.Call (.Name x p) (e::es) [] pos) (tMake C sp [] E0 t):=by
 obtain⟨f,fd,F,m,B,_⟩:=M.ex;exact x5t m F (s.mono g) u M.at_ B .nil pass0 ha h v o
end
def z2k{K:Np}{g:TG}{tb:TS}{D:Ends}(j:Nat->St->Hp->Prop)(C:j 0 f H)(hl:∀i f H,j i f H->SqL K H a xs)(E:∀i x T f H,xs[i]?=some x->j i f H->H T=none->g (.ref T) f (upd H T (.tup [.int i,x])) λo u=>tb { D with nx:=j (i+1),ct:=j (i+1),bk:=D.nx } o u)(hd:∀f H,j xs.length f H->D.nx f H):
  ∃W:Nat->Nat->St->Hp->Prop,(∃m,W 0 m f H)/\∀i m f H,W i m f H ->
   ((Ite (Itl K a)).stop i H/\D.nx f H)\/((Ite (Itl K a)).go i H/\∃N:St->Hp->Prop,(∀s H',N s H'->∃B,B<m/\W (i+1) B s H')/\∀v H',(Ite (Itl K a)).yld i H v H'->g v f H' λo u=>tb { D with nx:=N,ct:=N,bk:=D.nx } o u):=by
 refine z1s j C (λi f H h p=>⟨xs,xs[i],hl i f H p,by simp[h]⟩) (λf H p=>⟨xs,hl _ f H p,Ai _⟩) (λi v f H H' h p F=>?_) hd;obtain⟨T,y,G,⟨_,I⟩,rfl,rfl⟩:=F;exact E i y T f H (I xs (hl i f H p)) p G
noncomputable def rCatP:R2:=λx y H Q=>∃a b xs ys,x=.ref a/\y=.ref b/\H a=some (.tup xs)/\H b=some (.tup ys)/\xs.length+ys.length<=sizeLine/\∀p H',Same H H'->H' p=some (.tup (xs++ys))->(∀c,c≠p->H' c=H c)->Q (.ref p) H'
def z4i:OpR X (Gj .Add) rCatP:=by
 intro M s σ H x y v u Q I Y Z h;obtain⟨a,b,xs,ys,rfl,rfl,ha,O,P,q⟩:=h;cases Y;cases Z;obtain⟨za,f,o,R⟩:=I.hok a _ ha;obtain⟨zb,g,B,S⟩:=I.hok b _ O;by_cases C:f=[]
 ·have hx':xs=[]:=o.nil_iff.mp C;obtain⟨⟨cls,dd,T,sl⟩,U,D,n,hd⟩:=id R;obtain⟨⟨W,E,F,G⟩,j,J,n2,L⟩:=id S;subst D hd J L;refine Vb ⟨_,U,rfl⟩ ⟨_,j,rfl⟩ Qv Ua Mo Ly (Lg _ _) (tuple_addW0 a b f.toArray g.toArray n n2 dd E sl G (by simp[C])) ⟨U,j,?_⟩;exact⟨.ref b,H,I,rfl,q b H (Same.refl H) (by rw[hx',Xo];exact O) λ_ _=>rfl⟩
 ·refine HT.cat_tup R S C (λz=>?_) (λz=>?_) (by rw[<- o.length,<- B.length];exact P)
  ·have hy:ys=[]:=B.nil_iff.mp z;exact⟨.ref a,H,I,rfl,q a H (Same.refl H) (by rw[hy,Dq];exact ha) λ_ _=>rfl⟩
  ·refine⟨.ref s.heap.objs.size,_,I.laid (t':=s.toks) (λb ob q=>Ae _ q) (Ai _) ?_,rfl,q _ _ ((Same.refl H).new I.fresh) q0d λc D=>q0f D⟩;exact⟨by rw[Aj];exact P,_,o.append B,Xy _ _⟩
def z7d{X:Cx}{e:Expr}{f:Str}{g:Pos}{h:TE}(K:Ah)(j:X.K=K)(o:PE X e h)(s:Gv e f X.env (eval e X.env)=eval e X.env:=by rfl):PE X (.Attribute e f g) (tFld K h f):=by subst j;exact pe_fld o s
def x5b{X:Cx}{o g:Expr}{f:Str}{j h:Pos}{s u:TE}(K:Ah)(v:X.K=K)(ha:PE X o s)(B:PE X g u)(C:Jb g (some (.Attribute o f h)) j.line X.env=pure false:=by rfl):PS X (.Assign [.Attribute o f h] g j) (sFld K s u f):=by subst v;exact ps_fld ha B C
end L2
namespace HM
open PySem PySem.Spec PyProof.Rows L2 TX SB
noncomputable def NSs:Str:=Ab "abcdefghijklmnopqrstuvwxyzABCDEFGHIJKLMNOPQRSTUVWXYZ0123456789-_."
noncomputable abbrev NS:List Nat:=tl NSs
def z9v:∀c∈NS,c<128:=by trivial
structure okN (n:List Nat):Prop where
 one:1<=n.length
 few:n.length<=12
 all:∀c∈n,c∈NS
def okN.low(h:okN n):∀c∈n,c<128:=λc f=>z9v c (h.all c f)
structure okP (p:Pth):Prop where
 ne:p≠[]
 few:p.length<=6
 all:∀n∈p,okN n
def okP.low(h:okP p):Low p:=λn hn=>(h.all n hn).low
noncomputable abbrev Rw:=Pth×Option Int
noncomputable def mV:Option Int->V
 |none=>.non
 |some i=>.int i
noncomputable def rR(r:Rw):HRow:=(r.1,mV r.2)
def mV_inj(h:mV a=mV b):a=b:=by
 cases a with
 |none=>cases b with
  |none=>rfl
  |some j=>cases h
 |some i=>cases b with
  |none=>cases h
  |some j=>cases h;rfl
def mV_none:mV a=.non↔a=none:=⟨λh=>mV_inj (b:=none) h,λh=>by rw[h];rfl⟩
noncomputable def lowN(n:List Nat):List Nat:=n.map lo1
noncomputable def fold(bl:Bool)(p:Pth):Pth:=if bl then p.dropLast++[lowN (p.getLastD [])] else p
def x5c(p:Pth):fold false p=p:=rfl
def x5d(p:Pth):fold true p=p.dropLast++[lowN (p.getLastD [])]:=rfl
def z9w{p:Pth}(h:p≠[]):p=p.dropLast++[p.getLastD []]:=by
 have e:=Es h;have f:p.getLastD []=p.getLast h:=by rw[Kv,Jk h];rfl
 rw[f];exact e.symm
def z9x{p q:Pth}(f:p≠[])(g:q≠[]):fold bl p=fold bl q↔p.dropLast=q.dropLast/\(if bl then lowN (p.getLastD [])=lowN (q.getLastD []) else p.getLastD []=q.getLastD []):=by
 cases bl with
 |true =>
  rw[x5d,x5d];constructor
  ·simp_all
  ·simp_all
 |false =>
  rw[x5c,x5c];constructor
  ·grind
  ·rintro⟨h,j⟩;rw[z9w f,z9w g,h,j]
structure Hl (bl:Bool) (rows:List Rw):Prop where
 ok:∀r∈rows,okP r.1
 nd:(rows.map λr=>fold bl r.1).Nodup
 dr:∀r∈rows,r.1.dropLast=[]\/(r.1.dropLast,none)∈rows
def Hl.nil(bl:Bool):Hl bl []:=⟨(λ_ h=>nomatch h),.nil,(λ_ h=>nomatch h)⟩
theorem q6m{g j:Type}{f:g->j}:∀{l:List g},(l.map f).Nodup->l.Nodup
 |[],_=>.nil
 |a::l,h=>by
  rw[Ar,Fh] at h;exact Fh.mpr ⟨λz=>h.1 (Aw.mpr ⟨a,z,rfl⟩),q6m h.2⟩
def Hl.paths(h:Hl bl rows):(rows.map (·.1)).Nodup:=by
 have e:rows.map (λr=>fold bl r.1)=(rows.map (·.1)).map (fold bl):=by simp_all
 have:=h.nd;rw[e] at this;exact q6m this
noncomputable abbrev Zr:=Addr×Rw
structure RL (H:Hp) (L:Addr) (zs:List Zr):Prop where
 at_:H L=some (.lst (zs.map λz=>V.ref z.1))
 pr:∀z∈zs,PR H z.1 (rR z.2)
def PR.same(h:PR H a r)(k:∀T xs,H T=some (.tup xs)->H' T=some (.tup xs)):PR H' a r:=by obtain⟨b,f,g⟩:=h;exact⟨b,k _ _ f,k _ _ g⟩
def RL.same(h:RL H L zs)(s:Same H H'):RL H' L zs:=⟨s _ _ h.at_,λz f=>PR.same (h.pr z f) λT g e=>s _ _ e⟩
def tupFd(F:FeedAt H a b)(fd:Fd a b H H'):∀T xs,H T=some (.tup xs)->H' T=some (.tup xs):=λT xs e=>fd.at e λz=>by
 subst z;obtain⟨i,j,q⟩:=F.fa;rw[q] at e;cases e
def RL.fd(h:RL H L zs)(F:FeedAt H a b)(fd:Fd a b H H')(f:L≠a):RL H' L zs:=⟨fd.at h.at_ f,λz g=>PR.same (h.pr z g) (tupFd F fd)⟩
theorem zs_of:∀{as:List Addr} {rs:List HRow} {rows:List Rw},PRs H as rs->rs=rows.map rR->∃zs:List Zr,zs.map (·.1)=as/\zs.map (·.2)=rows/\∀z∈zs,PR H z.1 (rR z.2)
 |_,_,[],.nil,_=>⟨[],rfl,rfl,(λ_ h=>nomatch h)⟩
 |_,_,_::_,.nil,e=>by cases e
 |_,_,[],.cons _ _,e=>by cases e
 |a::as,_,r::rows,.cons h t,e=>by
  rw[Ar] at e;injection e with e1 e2;obtain⟨zs,g,j,o⟩:=zs_of t e2;refine⟨(a,r)::zs,by rw[Ar,g],by rw[Ar,j],λz f=>?_⟩;rcases Az.mp f with rfl|f
  ·rw[<- e1];exact h
  ·exact o z f
theorem q7u:∀{l m:List Pth},l.Perm m->l.Nodup->l.Pairwise (λa b=>pLt b a=false)->m.Pairwise (λa b=>pLt b a=false)->l=m
 |[],m,p,_,_,_=>(List.perm_nil.mp p.symm).symm
 |a::l,[],p,_,_,_=>absurd (p.length_eq) (by simp)
 |a::l,b::m,p,nd,h1,h2=>by
  obtain⟨u,g⟩:=Fh.mp nd;obtain⟨h,j⟩:=Ln.mp h1;obtain⟨o,s⟩:=Ln.mp h2;have e:a=b:=by
   have ha:=p.mem_iff.mp Av;have f:=p.mem_iff.mpr Av;rcases Az.mp ha with e|ha
   ·exact e
   ·rcases Az.mp f with e|f
    ·exact e.symm
    ·exact z4f (o a ha) (h b f)
  subst e;rw[q7u ((List.perm_cons a).mp p) g j s]
theorem z5s{K:Ah}{H:Hp}:∀p:Pth,Dts K H (vP p) (dP p)
 |[]=>.nil
 |n::p=>.cons (.str _) (z5s p)
def q2y{K:Ah}(h:H a=some (.tup (vP p))):Dt K H (.ref a) (.tuple (dP p)):=.tup (SqT.of h) (z5s p)
def q5x(h:Low p):(Cv.tuple (dP p)).canLay0=true:=by simp only[Dk,q7s h]
def q7v(p:Pth):(Cv.tuple (dP p)).depth<=2:=by
 have f:(Cv.tuple (dP p)).depth=Gg (dP p)+1:=by simp only[Pj]
 have:=q4d p;lia
def q7w(p q:Pth):Fy (.tuple (dP p)) (.tuple (dP q))=decide (p=q):=by simp only[Fy,q7t]
def z0c{K:Ah}(ha:H a=some (.tup (vP p)))(f:H b=some (.tup (vP q)))(g:Low p)(h:Low q)(k:Q (.bl (!decide (p=q))) H):rNeU K (.ref a) (.ref b) H Q:=by
 refine .inr ⟨_,_,q2y ha,q2y f,q5x g,q5x h,by have:=q7v p;lia,?_⟩;rw[q7w];exact k
end HM
namespace L2
open PySem PySem.Spec PyProof.Rows SB
noncomputable abbrev Zp:=Addr×Pth
noncomputable def rSortL:List V->Hp->VK->Prop:=λvs H Q=>∃l,∃zs:List Zp,vs=[.ref l]/\H l=some (.lst (zs.map λz=>V.ref z.1))/\zs.length<64/\(∀z∈zs,H z.1=some (.tup (vP z.2))/\z.2≠[]) /\
 ∀(L:Addr) (zs':List Zp),H L=none->zs'.Perm zs->(zs'.map (·.2)).Pairwise (λa b=>pLt b a=false)->Q (.ref L) (upd H L (.lst (zs'.map λz=>V.ref z.1)))
theorem z9y:∀{zs:List Zp} {us:List Value},Vals (zs.map λz=>V.ref z.1) us->us=zs.map λz=>Value.ref z.1
 |[],_,.nil=>rfl
 |z::zs,_,.cons r t=>by cases r;rw[z9y t];rfl
theorem q9e:∀(zs:List Zp),Vals (zs.map λz=>V.ref z.1) (zs.map λz=>Value.ref z.1)
 |[]=>.nil
 |z::zs=>.cons rfl (q9e zs)
def z7e(hr:Room k X.A):CallR X (.builtin "sorted") rSortL:=by
 intro S s σ H xs us Q I W h;obtain⟨l,B,rfl,hl,few,E,q⟩:=h;obtain⟨u,rfl,Y⟩:=W.one;cases Y;obtain⟨Z,F,G⟩:=x6q I hl;have e1:=z9y F;subst e1;refine SB.sorted_ok λ{Q'} kk=>?_;refine PyProof.Rows.collect_list G ?_;have D:∀b o,s.heap.get? b=some o->((s.heap.push (Kl "list" #[] 0)).update s.heap.objs.size (Fq (· ++ (B.map λz=>Value.ref z.1).toArray))).get? b=some o:=λb o e=>by
  rw[(Iv ..).2 b (Bj (Al e))];exact Ae _ e
 have j:s.heap.objs.size<=((s.heap.push (Kl "list" #[] 0)).update s.heap.objs.size (Fq (· ++ (B.map λz=>Value.ref z.1).toArray))).objs.size:=by simp_all
 generalize (s.heap.push (Kl "list" #[] 0)).update s.heap.objs.size (Fq (· ++ (B.map λz=>Value.ref z.1).toArray))=h at D j;have J:∀v∈B.map (λz=>Value.ref z.1),∃p∈B.map (·.2),p≠[]/\PathAt h v p:=λv hv=>by
  obtain⟨z,f,rfl⟩:=Aw.mp hv;exact⟨z.2,Aw.mpr ⟨_,f,rfl⟩,(E z f).2,(I.path (E z f).1).keep D⟩
 refine kk (B.map λz=>Value.ref z.1) h s.toks _ _ _ (SB.ready_paths (by rw[Af];exact few) J) λh' a0 T L ⟨e,he⟩=>?_;obtain⟨C,M,U⟩:=SB.perm_map_inv T.perm rfl;have g:=T.rise;rw[U] at g;have O:=SB.rise_paths (λ_ _ _ a b=>a.inj b) (λz P=>by
  have f:=M.mem_iff.mp P;exact⟨(I.path (E z f).1).keep D,Aw.mpr ⟨_,f,rfl⟩⟩) g
 have keep:=λb o z=>L b o (D b o z);have R:=I.hok.fresh j;refine⟨.ref h.objs.size,upd H h.objs.size (.lst (C.map λz=>V.ref z.1)),I.laid (t':=s.toks) keep j ⟨by rw[Af,M.length_eq,Et];lia,_,e,q9e _,?_⟩,rfl,q _ C R M O⟩;rw[he,<- U]
end L2
namespace HM
open PySem PySem.Spec PyProof.Rows L2 TX SB
def q7x{K:Ah}(ha:H a=some (.tup (vP p)))(f:H b=some (.tup (vP q)))(g:Low p)(h:Low q)(k:Q (.bl (decide (p=q))) H):rEqU K (.ref a) (.ref b) H Q:=by
 refine .inr ⟨_,_,q2y ha,q2y f,q5x g,q5x h,by have:=q7v p;lia,?_⟩;rw[q7w];exact k
def x5e(e:H a=some (dR rs))(f:H b=some (.tup (vP p))):DGet H a (.ref b) (valV (rs.map λr=>(kP r.1,r.2)) (kP p)) :=
 .inr ⟨_,kP p,b,.inl e,rfl,by rw[z2h];exact f,rfl⟩
end HM
namespace HT
open PySem PyProof.Rows
section
variable{prog:Ak}{w:World}{A:Around}{E:Value->Ag->Prop}{s:Ag}
def getItem_tuple_whole{g:Option Int}(f:IsTup s.heap t items)(v:s.heap.IsSliceOf sl vl vu .none)(C:Mp vl g)(D:Mp vu hi)(B:sIx items.size 0 g=0/\sIx items.size items.size hi=items.size)(h:Q (.ref t) s):wpAny (model prog w) A (getItem (.ref t) (.ref sl)) Q E s:=by
 obtain⟨os,j,o,F⟩:=id v;have u:s.TypeIs (.ref sl) "slice" := ⟨os,j,o⟩
 unfold getItem;try with_reducible refine Cq ?_
 refine Ac (Vq f.typeIs (by decide) ?_);refine Ac (Cg f.typeIs Eg
  (By Eg f.typeIs entry_tuple_getitem ?_ (Vd _ _)))
 show wpAny _ _ (Ki (.ref t) >>= _) _ _ s;refine Ac (tupleItemsOf_ f ?_);refine Ac (Jo u ?_);refine Ac (q3j v C D ?_);show wpAny _ _ (if (((sIx items.size 0 g:Nat):Int)==0&&(1:Int)==1&&(sIx items.size items.size hi-sIx items.size 0 g)==items.size)=true then _ else _) _ _ s;rw[if_pos (by rw[B.1,B.2];simp)];refine Ac (Ac (Jo f.typeIs (Ad ?_)));exact Ac (Hd (Ad ⟨_,rfl,Ad h⟩))
end
end HT
namespace L2
open PySem PySem.Spec PyProof.Rows
noncomputable def rSlP:V->Option Int->Option Int->Hp->VK->Prop:=λx lo hi H Q=>∃a xs,x=.ref a/\H a=some (.tup xs)/\∀c H',Same H H'->H' c=some (.tup (cutV xs lo hi))->Q (.ref c) H'
def sl_P:SlR X rSlP:=by
 intro g s M H x v O P C D R Q I E F G J h;obtain⟨a,f,rfl,u,q⟩:=h;by_cases o:HT.sIx f.length 0 C=0/\HT.sIx f.length f.length D=f.length
 ·cases E;obtain⟨B,r,L,T⟩:=I.tuple (SqT.of u);have j:B.toArray.size=f.length:=by rw[Ay];exact r.length.symm
  refine⟨"tuple",_,Eg.lookup,L.typeIs,?_⟩;refine HT.getItem_tuple_whole L F G J (by rw[j];exact o) ⟨.ref a,H,I,rfl,q a H (Same.refl H) ?_⟩;unfold cutV;rw[o.1,o.2,Sy,Qw,Dj];exact u
 ·exact x4p g s M H _ v O P C D R Q I E F G J ⟨a,f,rfl,SqT.of u,o,λp S=>q p _ ((Same.refl H).new S) q0d⟩
end L2
namespace HM
open PySem PySem.Spec PyProof.Rows L2 TX SB
noncomputable abbrev Mv:=Pth×Pth
section
variable{bl:Bool}
noncomputable def tb(ms:List Mv):List Mv:=ms.reverse.map λm=>(m.2,m.1)
end
noncomputable def MT(H:Hp)(T:Addr)(m:Mv):Prop:=∃A B,H T=some (.tup [.ref A,.ref B])/\H A=some (.tup (vP m.1))/\H B=some (.tup (vP m.2))
noncomputable abbrev Zm:=Addr×Mv
structure ML (H:Hp) (L:Addr) (zs:List Zm):Prop where
 at_:H L=some (.lst (zs.map λz=>V.ref z.1))
 pr:∀z∈zs,MT H z.1 z.2
def MT.keep(h:MT H T m)(k:∀T xs,H T=some (.tup xs)->H' T=some (.tup xs)):MT H' T m:=by obtain⟨A,B,f,g,j⟩:=h;exact⟨A,B,k _ _ f,k _ _ g,k _ _ j⟩
def ML.same(h:ML H L zs)(s:Same H H'):ML H' L zs:=⟨s _ _ h.at_,λz f=>(h.pr z f).keep λT g e=>s _ _ e⟩
def ML.nil(h:H L=some (.lst [])):ML H L []:=⟨h,λ_ z=>nomatch z⟩
end HM
namespace L2
open PySem PySem.Spec PyProof.Rows
section
variable{M:Model}{A:Around}{E:Value->Ag->Prop}{s:Ag}
noncomputable def TbAt(h:Heap)(e:Addr)(vs:Array Value)(T:Addr)(fl:Value):Prop:=vs[1]?=some (.ref T)/\T≠e/\∃oT ts,h.get? T=some oT/\oT.data=.fields ts/\ts[3]?=some fl
noncomputable def TbOk(L:Addr)(h:Heap)(e:Addr)(vs:Array Value):Prop:=vs[1]?=some .none\/∃T,TbAt h e vs T .none\/TbAt h e vs T (El L)
structure LeftX (fr:List Addr) (e:Addr) (oe:Obj) (vs:Array Value) (fl:Value) (h h':Heap):Prop where
 ex:∃T,(h.objs.size<=T\/vs[1]?=some (.ref T))/\T≠e/\h'.get? e=some (oe.mapFields (·.setIfInBounds 1 (.ref T)))/\∃oT ts,h'.get? T=some oT/\oT.data=.fields ts/\ts[3]?=some fl
 keep:∀b o,h.get? b=some o->b≠e->vs[1]?≠some (.ref b)->b∉fr->h'.get? b=some o
 slot:∀b o,h.get? b=some o->b∈fr->∃sl,h'.get? b=some { o with slots:=sl }
def z2l{f:Obj}(hd:f.data=.fields vs)(g:vs[1]?=some x):f.mapFields (·.setIfInBounds 1 x)=f:=by
 obtain⟨c,d,dt,h⟩:=f;cases hd;have e:vs.setIfInBounds 1 x=vs:=by
  have j:=(Ey.mp g)
  obtain⟨o,u⟩:=j;apply Array.ext
  ·simp
  ·intro i v s;rw[Array.getElem_setIfInBounds (by simpa using s)];split
   ·grind
   ·rfl
 show(⟨c,d,.fields (vs.setIfInBounds 1 x),h⟩:Obj)=_;rw[e]
theorem entryX
  (P:A.frames=some (env::outer))(hl:s.heap.FunFrames base (env::outer))(hf:env.frame=some L)(Y:s.heap.get? e=some oe)(hd:oe.data=.fields vs)(R:1<vs.size)(h:∀h',(∃T,s.heap.objs.size<=T/\h'.get? e=some (oe.mapFields (·.setIfInBounds 1 (.ref T)))/\∃Z ts,h'.get? T=some Z/\Z.data=.fields ts/\ts[3]?=some (El L)) ->
   (∀b o,s.heap.get? b=some o->b≠e->b∉(env::outer).filterMap (·.frame)->h'.get? b=some o) ->
   (∀b o,s.heap.get? b=some o->b∈(env::outer).filterMap (·.frame)->∃S,h'.get? b=some { o with slots:=S })->Q () { s with heap:=h' }):
  wpAny M A (do let a<-frameOf env;let I<-entryPlaceOf L hadNext;let b<-EntryCells.newEntry head a .none (El L) .none I;setField (.ref e) 1 b) Q E s:=by
 have B:e∉(env::outer).filterMap (·.frame):=λhm=>by
  obtain⟨_,o,O,U⟩:=hl.mem hm;rw[Y] at O;injection O with O;subst O;exact U vs hd
 refine Ac (wpAny_frameOf_fun P hl hf λf g=>?_);refine Ac (wpAny_entryPlaceOf λI J=>?_);refine Ac (Cc ?_ (J.sizeOk5 _ _ _ _ _));have u:=(g.2.1 e B).trans Y;have v:=Ae { cls:=.type "traceback",dict:=none,data:=.fields ([head,.ref L,.none,El L,.none]++(if I.isEmpty then List.replicate 6 Value.none else I)).toArray } u;have W:=Ex (Al u);have C:=Fm hd (·.setIfInBounds 1 (Value.ref f.objs.size));have D:=Er (Fo (·.setIfInBounds 1 (Value.ref f.objs.size))) v (Js C);have F:=(Bu (f.push { cls:=.type "traceback",dict:=none,data:=.fields ([head,.ref L,.none,El L,.none]++(if I.isEmpty then List.replicate 6 Value.none else I)).toArray })
  (Fo (·.setIfInBounds 1 (Value.ref f.objs.size))) (Bz W)).trans (An f rfl)
 refine Hb v hd R (h _ ⟨f.objs.size,by rw[g.1];exact Ai _,D,_,_,F,rfl,by first|(simp;done)|(rcases J with rfl|⟨_,_,_,_,_,_,_,rfl⟩<;>simp)⟩ ?_ ?_)
 ·intro b o X G H;have j:=(g.2.1 b H).trans X;rw[Bu _ _ (Bz G)];exact Ae _ j
 ·intro b o X H;have G:b≠e:=λz=>B (z▸H);obtain⟨S,j⟩:=g.2.2 b o X;refine⟨S,?_⟩;rw[Bu _ _ (Bz G)];exact Ae _ j
theorem noteX
  (P:A.frames=some (env::outer))(hl:s.heap.FunFrames base (env::outer))(W:env.frame=some L)(G:s.heap.get? e=some oe)(hd:oe.data=.fields vs)(ht:TbOk L s.heap e vs)(h:∀h',LeftX ((env::outer).filterMap (·.frame)) e oe vs (El L) s.heap h'->Q () { s with heap:=h' }):wpAny M A (noteFrame (.ref e) env) Q E s:=by
 have F:=Al G;unfold noteFrame;simp only[W];rcases ht with B|⟨T,⟨B,H,oT,S,I,g,R⟩|⟨B,H,oT,S,I,g,R⟩⟩
 ·refine Ac (Bs G hd B ?_);refine entryX P hl W G hd (Ey.mp B).1 λh' ⟨T,O,X,Y⟩ b c=>h h' ⟨⟨T,.inl O,λz=>absurd F (Jf.mpr (z▸O)),X,Y⟩,λx o C J _ j=>b x o C J j,c⟩
 ·refine Ac (Bs G hd B ?_);refine Ac (Bs I g R ?_);refine Ac (Hb I g (Ey.mp R).1 ?_);have f:∀b,b≠T->(s.heap.update T (Fo (·.setIfInBounds 3 Value.none))).get? b=s.heap.get? b:=λb D=>Bu _ _ (Bz D);have u:∀b o,s.heap.get? b=some o->(∀vs,o.data≠.fields vs)->b≠T:=λb o D v q=>by
   rw[q,I] at D;injection D with D;subst D;exact v S g
  have Z:T∉(env::outer).filterMap (·.frame):=λhm=>by
   obtain⟨_,o,U,v⟩:=hl.mem hm;rw[I] at U;injection U with U;subst U;exact v S g
  have a0:(s.heap.update T (Fo (·.setIfInBounds 3 Value.none))).objs.size=s.heap.objs.size:=by simp_all
  refine entryX P (hl.of_keeps λb o D v=>⟨o,(f b (u b o D v)).trans D,rfl⟩) W ((f e (Bz H)).trans G) hd (Ey.mp B).1 λh' a b c=>h h' ⟨?_,λx o C J a1 j=>?_,λx o C j=>?_⟩
  ·obtain⟨T',O,X,Y⟩:=a;rw[a0] at O;exact⟨T',.inl O,λz=>absurd F (Jf.mpr (z▸O)),X,Y⟩
  ·exact b x o ((f x λz=>a1 (by rw[z];exact B)).trans C) J j
  ·exact c x o ((f x λz=>Z (z▸j)).trans C) j
 ·refine Ac (Bs G hd B ?_);refine Ac (Bs I g R ?_);rw[if_pos (show(El L==El L)=true from by simp)];refine Ad (h s.heap ⟨⟨T,.inr B,H,by rw[z2l hd B];exact G,oT,S,I,g,R⟩,λx o C _ _ _=>C,λx o C _=>⟨o.slots,C⟩⟩)
def flightX(G:s.heap.get? e=some oe)(hd:oe.data=.fields vs)(J:TbAt s.heap e vs T fl)(B:T∉fr)(h:∀h',LeftX fr e oe vs (f.elim .none λf=>El f) s.heap h'->Q () { s with heap:=h' }):wpAny M A (setFlight (.ref e) f) Q E s:=by
 obtain⟨v,u,O,P,H,j,I⟩:=J;have g:∀b,b≠T->(s.heap.update T (Fo (·.setIfInBounds 3 (f.elim Value.none λf=>El f)))).get? b=s.heap.get? b:=λb L=>Bu _ _ (Bz L)
 refine Ac (Bs G hd v ?_);refine Hb H j (Ey.mp I).1 (h _ ⟨⟨T,.inr v,u,?_,_,_,Er _ H (Js (Fm j _)),Fm j _,?_⟩,λx o C _ D _=>?_,λx o C F=>?_⟩)
 ·rw[z2l hd v,g e (Bz u)];exact G
 ·simp[(Ey.mp I).1]
 ·rw[g x λz=>D (by rw[z];exact v)];exact C
 ·rw[g x λz=>B (z▸F)];exact⟨o.slots,C⟩
end
noncomputable def ExO(C:Value)(dd:Option Addr)(e:Addr):HO:=.ext λh=>∃vs sl,h.get? e=some { cls:=C,dict:=dd,data:=.fields vs,slots:=sl }/\vs.size=6
structure FlX (X:Cx) (pins:List (Addr×Obj)) (H:Hp) (s:Ag) (e:Addr):Prop where
 at_:∃C dd,H e=some (ExO C dd e)
 tb:∃oe vs,s.heap.get? e=some oe/\oe.data=.fields vs/\TbOk X.env.locals s.heap e vs/\∀T,vs[1]?=some (.ref T)->X.s₀.heap.objs.size<=T/\H T=none/\T≠X.env.locals/\(∀x c,X.env.cells.lookup x=some c->c≠T)/\∀p∈X.pn++pins,p.1≠T
 new:X.s₀.heap.objs.size<=e
section
variable{X:Cx}{pins:List (Addr×Obj)}{σ:St}{H:Hp}{s:Ag}{e:Addr}{oe:Obj}{vs:Array Value}{fl:Value}{h':Heap}
noncomputable def chOf(vs:Array Value):List Addr:=match vs[(1:Nat)]? with|some (Value.ref T)=>[T]|_=>[]
def chOf_mem:b∈chOf vs↔vs[(1:Nat)]?=some (Value.ref b):=by
 unfold chOf;constructor
 ·intro h;split at h
  ·simp_all
  ·cases h
 ·simp_all
def Inv.leftX(I:Inv X pins σ H s)(F:FlX X pins H s e)(he:s.heap.get? e=some oe)(hd:oe.data=.fields vs)(a2:fl=.none\/fl=El X.env.locals)(W:∀T,vs[1]?=some (.ref T)->X.s₀.heap.objs.size<=T/\H T=none/\T≠X.env.locals/\(∀x c,X.env.cells.lookup x=some c->c≠T)/\∀p∈X.pn++pins,p.1≠T)(L:LeftX (frs X.stack) e oe vs fl s.heap h'):Inv X pins σ H { s with heap:=h' }/\FlX X pins H { s with heap:=h' } e/\∃E G T,h'.get? e=some E/\E.data=.fields G/\TbAt h' e G T fl:=by
 obtain⟨C,dd,J⟩:=F.at_;obtain⟨B,M,O,g,oT,ts,q1,q2,q3⟩:=L.ex;have Y:∀b,H b=none->b≠e:=λb h z=>by rw[z,J] at h;cases h
 have un:Un (frs X.stack) (chOf vs) H H s.heap h':=⟨λb o f n Z S=>L.keep b o f (Y b n) (λz=>S (chOf_mem.mpr z)) Z,λb o f n Z S=>L.slot b o f Z,λ_ _ _ n _=>n,λb o f S=>by
   by_cases z:b=e
   ·simp_all
   ·by_cases y:b∈frs X.stack
    ·obtain⟨U,k⟩:=L.slot b o f y;exact⟨_,k⟩
    ·exact⟨o,L.keep b o f z (λx=>S (chOf_mem.mpr x)) y⟩,
  λ_ _ q=>q,λ_ _ _ q=>q,λ_ ps q=>⟨#[],by rw[q];simp⟩⟩
 have j:vs.size=6/\oe.cls=C/\oe.dict=dd:=by
  obtain⟨⟨a6,U,z,z6⟩,_,_⟩:=I.hok e _ J;rw[he] at z;cases z;cases hd;exact⟨z6,rfl,rfl⟩
 have hok:HOk X.prog X.w H h':=λa o ha=>by
  by_cases z:a=e
  ·subst z;rw[J] at ha;cases ha;refine⟨⟨vs.setIfInBounds 1 (.ref B),oe.slots,?_,by simpa using j.1⟩,⟨_,g⟩,λh1 h2 ⟨ws,U,k1,k2⟩ k=>⟨ws,U,k _ k1,k2⟩⟩;rw[g];obtain⟨c,d,dt,U⟩:=oe;cases hd;obtain⟨_,rfl,rfl⟩:=j;rfl
  ·refine(I.hok a o ha).stay (λb u f hu=>?_) (λ_ q=>q) λ_ _ q=>q;have D:H b≠none/\b≠e:=by
    rcases f with rfl|f
    ·grind
    ·refine⟨by rw[f];simp,λy=>?_⟩;rw[y,J] at f;cases f
   exact L.keep b u hu D.2 (λy=>D.1 (W b y).2.1) λy=>D.1 (I.stkFree b y)
 have a0:∀b∈chOf vs,(b∈X.ex\/X.s₀.heap.objs.size<=b)/\b≠X.env.locals/\(∀x c,X.env.cells.lookup x=some c->c≠b)/\∀p∈X.pn++pins,p.1≠b:=λb f=>by
  obtain⟨a1,_,a3,a4,a5⟩:=W b (chOf_mem.mp f);exact⟨.inr a1,a3,a4,a5⟩
 have I':Inv X pins σ H { s with heap:=h' }:=I.call' (s':={ s with heap:=h' }) rfl un hok I.bare a0;have hd':=Fm hd (·.setIfInBounds 1 (Value.ref B));have P:1<vs.size:=by grind
 have Q:TbAt h' e (vs.setIfInBounds 1 (.ref B)) B fl:=⟨by simp[P],O,oT,ts,q1,q2,q3⟩
 refine⟨I',⟨⟨C,dd,J⟩,⟨_,_,g,hd',.inr ⟨B,?_⟩,λT R=>?_⟩,F.new⟩,_,_,B,g,hd',Q⟩
 ·lia
 ·have:T=B:=by
   have z:=Q.1;rw[z] at R;injection R with y;injection y with y;exact y.symm
  subst this;rcases M with k|k
  ·refine⟨Bg I.sz k,I.hok.fresh k,λz=>absurd I.lt (Jf.mpr (z▸k)),λx c hx z=>?_,λp hp z=>?_⟩
   ·obtain⟨v,o,ho,_⟩:=I.cell x c hx;exact absurd (Al ho) (Jf.mpr (z▸k))
   ·obtain⟨ho,_⟩:=I.pin p hp;exact absurd (Al ho) (Jf.mpr (z▸k))
  ·exact W T k
noncomputable def XE(X:Cx)(J:Addr->St->Hp->Prop)(e:Value)(s:Ag):Prop:=∃pins σ H ea,e=.ref ea/\Inv X pins σ H s/\FlX X pins H s ea/\J ea σ H
def x5f(f:X.stack=X.env::X.outer):frs X.stack=(X.env::X.outer).filterMap (·.frame):=by rw[f];rfl
def passX(f:X.stack=X.env::X.outer)(P:X.env.frame=some X.env.locals):Uv (model X.prog X.w) X.A X.env (XE X J):=by
 rintro e W ⟨g,Y,H,Z,rfl,I,F,j⟩;obtain⟨oe,vs,Q,hd,ht,hT⟩:=F.tb;have B:X.A.frames=some (X.env::X.outer):=by rw[<- f];exact I.ok.frames
 have hl:W.heap.FunFrames X.base (X.env::X.outer):=by rw[<- f];exact I.stack
 refine noteX B hl P Q hd ht λh1 R=>?_;rw[<- x5f f] at R;obtain⟨S,T,C,D,T1,E,G,L⟩:=I.leftX F Q hd (.inr rfl) hT R;refine Ac (Bs E G L.1 ?_);have h:T1∉frs X.stack:=λhm=>by
  obtain⟨_,_,oT,ts,q1,q2,_⟩:=L;obtain⟨_,o,v,M⟩:=S.stack.mem hm;rw[q1] at v;injection v with v;subst v;exact M ts q2
 obtain⟨s,u,a0,a1,_,O⟩:=T.tb;have q:s=C/\u=D:=by grind
 obtain⟨rfl,rfl⟩:=q;refine flightX E G L h λh2 U=>?_
 rw[P] at U;obtain⟨I2,F2,_⟩:=S.leftX T E G (.inr rfl) O U;exact⟨g,Y,H,Z,rfl,I2,F2,j⟩
end
noncomputable def CXR(P:Ak)(w:World):CXT:=λouter H s E e s'=>∃ea H',e=.ref ea/\s'.os=s.os/\Lr s'.gens/\Un (frs outer) [] H H' s.heap s'.heap/\HOk P w H' s'.heap/\s.heap.objs.size<=ea/\(∃C dd,H' ea=some (ExO C dd ea)) /\
 (∃oe vs,s'.heap.get? ea=some oe/\oe.data=.fields vs/\(vs[1]?=some .none\/∃T,TbAt s'.heap ea vs T .none)/\∀T,vs[1]?=some (.ref T)->s.heap.objs.size<=T/\H' T=none)/\E (.ref ea) none H'
section
variable{X:Cx}{J J':Addr->St->Hp->Prop}{E:Value->Ag->Prop}{e:Value}{s:Ag}
def FlX.unwish(F:FlX (X.wish E) pins H s ea):FlX X pins H s ea:=⟨F.at_,F.tb,F.new⟩
def XE.unwish(h:XE (X.wish E) J e s):XE X J e s:=by
 obtain⟨f,g,H,o,rfl,I,F,j⟩:=h;exact⟨f,g,H,o,rfl,I.unwish,F.unwish,j⟩
structure AccX (X:Cx) (J:Addr->St->Hp->Prop):Prop where
 acc:∀e s,XE X J e s->X.xe e s
def AccX.of:AccX (X.wish (XE X J)) J:=⟨λ_ _ h=>h.unwish⟩
def PSs.wishX{st:List Stmt}(g:∀e s,E e s->X.xe e s)(h:PSs (X.wish E) st t):PSs X st t:=λf s j H D I o =>
 Cb (h f s j H D (I.wish _) o) (λ_ _ q=>q.unwish) g
def leaves{K:Ah}(h:XE (cxOf (CXR P w) P w K mg base N qual scope f cd A outer s₀ H₀ E₀) (λL _ H'=>E₀ (.ref L) none H') e s):(cxOf (CXR P w) P w K mg base N qual scope f cd A outer s₀ H₀ E₀).xe e s:=by
 obtain⟨X,σ,H,L,rfl,I,F,j⟩:=h;obtain⟨oe,vs,Y,hd,ht,hT⟩:=F.tb;refine Ac (noteX I.ok.frames I.stack rfl Y hd ht λh1 L1=>?_);obtain⟨Z,F1,M,O,T1,e1,d1,t1⟩:=I.leftX F Y hd (.inr rfl) hT L1;have g:T1∉frs (cxOf (CXR P w) P w K mg base N qual scope f cd A outer s₀ H₀ E₀).stack:=λhm=>by
  obtain⟨_,_,oT,ts,q1,q2,_⟩:=t1;obtain⟨_,o,G,Q⟩:=Z.stack.mem hm;rw[q1] at G;injection G with G;subst G;exact Q ts q2
 obtain⟨u,v,a0,a1,_,R⟩:=F1.tb;have q:u=M/\v=O:=by grind
 obtain⟨rfl,rfl⟩:=q;refine flightX e1 d1 t1 g λh2 L2=>?_
 obtain⟨J,S,U,W,T2,e2,d2,t2⟩:=Z.leftX F1 e1 d1 (.inl rfl) R L2;obtain⟨B,C,a2,a3,_,D⟩:=S.tb;have q:B=U/\C=W:=by grind
 obtain⟨rfl,rfl⟩:=q;exact⟨L,H,rfl,J.os,J.bare,J.base,J.hok,S.new,S.at_,⟨_,_,e2,d2,.inr ⟨T2,t2⟩,λT E=>⟨(D T E).1,(D T E).2.1⟩⟩,j⟩
end
noncomputable abbrev cxX(P:Ak)(w:World)(K:Ah)(mg:Str->Option Value)(base:Heap)(N:List Str)(qual:Str)(scope:Scope)(f:Addr)(cd:Value)(A:Around)(outer:List Env)(s:Ag)(H:Hp)(E:XK):Cx :=
 (cxOf (CXR P w) P w K mg base N qual scope f cd A outer s H E).wish (XE (cxOf (CXR P w) P w K mg base N qual scope f cd A outer s H E) λea _ H'=>E (.ref ea) none H')
section
variable{P:Ak}{w:World}{K:Ah}{mg:Str->Option Value}{base:Heap}
def accX:AccX (cxX P w K mg base N qual scope f cd A outer s H E) λg _ H'=>E (.ref g) none H':=AccX.of
def passDef:Uv (model P w) (A.deeper (Hx qual scope s.heap.objs.size f cd)) (Hx qual scope s.heap.objs.size f cd) (cxX P w K mg base N qual scope f cd A outer s H E).xe :=
 passX rfl rfl
def Fun.okX{st:Stmt}(F:Fun K x qual st f fd)(S:FnScope N ps (defScope st))(len:∀vs H Q E,sp vs H Q E->vs.length=ps.length)(j:∀(g:Value) (A:Around) (outer:List Env) (s:Ag) (H:Hp) (vs:List V) (Q:VK) (E:XK),Room k (A.deeper (Hx qual (defScope st) s.heap.objs.size f g))->sp vs H Q E ->
   ∃t,PSs (cxX P w K mg base N qual (defScope st) f g A outer s H E) (defBody st) t/\t { nx:=λ_ H'=>Q .non H',rt:=Q } (start N vs) H):FnOk P w K mg base (CXR P w) (k+1) f fd ps sp:=by
 obtain⟨G,I,kV,v,pm,J,g,ct,B,rfl,C,o⟩:=F.ex;refine x5u C o S len λA outer s H vs Q E D u=>?_
 obtain⟨t,h,q⟩:=j g A outer s H vs Q E D u;exact⟨t,PSs.wishX (λe L z=>leaves z) h,q⟩
structure CalX (P:Ak) (w:World) (K:Ah) (mg:Str->Option Value) (base:Heap) (x:Str) (k:Nat) (ps:List Str) (sp:Sp):Prop where
 ex:∃f fd,FnOk P w K mg base (CXR P w) k f fd ps sp/\mg x=some (.ref f)/\Ff K (.ref f)=true/\Binds K fd ps []
def Df.calX{st:Stmt}(D:Df K mg x st ps)(S:FnScope N ps (defScope st))(len:∀vs H Q E,sp vs H Q E->vs.length=ps.length)(j:∀(f:Addr) (g:Value) (A:Around) (outer:List Env) (s:Ag) (H:Hp) (vs:List V) (Q:VK) (E:XK),Room k (A.deeper (Hx x (defScope st) s.heap.objs.size f g))->sp vs H Q E ->
   ∃t,PSs (cxX P w K mg base N x (defScope st) f g A outer s H E) (defBody st) t/\t { nx:=λ_ H'=>Q .non H',rt:=Q } (start N vs) H):CalX P w K mg base x (k+1) ps sp:=by
 obtain⟨f,fd,F,o,u⟩:=D.ex;exact⟨f,fd,F.okX S len λg A outer s H vs Q E v h=>j f g A outer s H vs Q E v h,o,F.kp,u⟩
end
section
variable{X:Cx}{J:Addr->St->Hp->Prop}{k j:Nat}{f:Addr}{fd:Ld}{ps:List Str}{sp:Sp}{x:Str}{p pos:Pos}{e:Expr}{es:List Expr}{t:TA}
noncomputable def tCallX(sp:Sp)(J:Addr->St->Hp->Prop)(t:TA):TE:=λσ H Q=>t σ H λvs H1=>sp vs H1 Q λe _ H'=>∀ea,e=.ref ea->J ea σ H'
def x6r{D:St}(F:FnOk X.prog X.w X.K X.mg X.base (CXR X.prog X.w) k f fd ps sp)(O:Room k X.A)(P:Binds X.K fd ps [])(R:AccX X J)(I:Inv X pins D H s)(r:Vals vs us)(h:sp vs H Q λe _ H'=>∀B,e=.ref B->J B D H'):wpAny (model X.prog X.w) X.A (call (.ref f) us) (EP X pins D Q) X.xe s:=by
 have hl:(us++[]).length=ps.length:=by rw[Dq,<- r.length];exact F.len _ _ _ _ h
 have hb':=P s us I.kIn hl;rw[Dq] at hb';refine Gk (Hi (F.run X.A X.stack s H ⟨us,[]⟩ us vs Q _ O I.env0 hb' r h) λr s' g=>?_);cases r with
 |error e =>
  obtain⟨B,H',rfl,os,bare,un,hok,C,G,⟨S,U,W,hd,Y,Z⟩,j⟩:=g;have I':=I.call' os un hok bare λb z=>absurd z (by simp)
  refine R.acc _ _ ⟨pins,D,H',B,rfl,I',⟨G,⟨S,U,W,hd,?_,λT L=>?_⟩,Bg I.sz C⟩,j B rfl⟩
  ·rcases Y with z|⟨T,z⟩
   ·exact .inl z
   ·exact .inr ⟨T,.inl z⟩
  ·obtain⟨E,a2⟩:=Z T L;refine⟨Bg I.sz E,a2,λz=>absurd I.lt (Jf.mpr (z▸E)),λy c hy z=>?_,λq g z=>?_⟩
   ·obtain⟨v,o,M,_⟩:=I.cell y c hy;exact absurd (Al M) (Jf.mpr (z▸E))
   ·obtain⟨M,_⟩:=I.pin q g;exact absurd (Al M) (Jf.mpr (z▸E))
 |ok fl =>
  cases fl with
  |ret u=>exact I.after g
  |next=>exact False.elim g
  |brk=>exact False.elim g
  |cont=>exact False.elim g
def q5m(C:CalX X.prog X.w X.K X.mg X.base x k ps sp)(D:Room j X.A)(E:AccX X J)(ha:PA X (e::es) t)(o:k<=j:=by decide)(G:Gl X x:=by rfl)(u:(x==("__debug__" : Str))=false:=by decide)(L:Bc (e::es) X.env=(false,eval e X.env)::Bc es X.env:=by rfl)(v:(Ew pos (Bc es X.env)).any (·.1)=false:=by rfl):
  PE X (.Call (.Name x p) (e::es) [] pos) (tCallX sp J t):=by
 obtain⟨f,fd,F,M,hk,O⟩:=C.ex;intro g s P H Q I h;refine Fj (q2q I G M ?_ u);refine Le I.ok.mod.kin hk (thn (ha pos g s P H _ I h) λR S ⟨vs,T,B,r,q⟩=>⟨B.kIn,?_⟩) L v;exact x6r F (D.mono o) O E B r q
end
structure ECls (K:Ah) (C:Addr) (bm:List Value):Prop where
 ex:∃nm q N bs hdct sn sub ab col dd k0 k1 k2 k3 k5 newId,K.lookup C=some (Ds nm q C N bs bm hdct sn sub ab col dd k0 k1 k2 k3 k5 newId)
 base:bm.contains (.type "BaseException")=true
section
variable{M:Model}{A:Around}{E:Value->Ag->Prop}{h:Heap}{g:Array Td}{d:Drawn}{t:Nat}{os:Lo}
variable{nm q:Str}{C N:Addr}{bs bm:List Value}{hdct:Bool}{sn:List Str}{sub:List Value}{ab:Bool}{col:Option Bool}{dd:Option Addr}{k0 k1 k2 k3 k5:Option Value}{newId:String}
variable{nm' q':Str}{D N':Addr}{bs' bm':List Value}{hdct':Bool}{sn':List Str}{sub':List Value}{ab':Bool}{col':Option Bool}{dd':Option Addr}{k0' k1' k2' k3' k5':Option Value}{newId':String}
def excMatchX(B:h.get? C=some (Ds nm q C N bs bm hdct sn sub ab col dd k0 k1 k2 k3 k5 newId))(u:h.get? D=some (Ds nm' q' D N' bs' bm' hdct' sn' sub' ab' col' dd' k0' k1' k2' k3' k5' newId'))(F:h.get? e=some oe)(j:oe.cls=.ref C)(o:bm'.contains (.type "BaseException")=true)(v:Q ((Value.ref C::bm).contains (.ref D)) ⟨h,g,d,t,os⟩):wpAny M A (excMatches (.ref e) (.ref D)) Q E ⟨h,g,d,t,os⟩:=by
 have s:(Value.ref D::bm').contains (.type "BaseException")=true:=by grind
 have f:=tc_notTuple;repeat (first|(with_reducible refine Eo F ?_;rw[j])|with_reducible refine Eo u ?_|(with_reducible refine Iy u ?_;rw[s])|(with_reducible refine Iy B ?_)|wp_step)
 cases hb:(Value.ref C::bm).contains (.ref D)<;>(rw[hb] at v;wp_walk;exact v)
end
section
variable{X:Cx}{pins:List (Addr×Obj)}{σ:St}{H:Hp}{s:Ag}
def z0d(I:Inv X pins σ H s)(U:X.N.Nodup)(L:X.N[i]?=some x)(hk:X.env.scope.names.lookup x=some .local)(h:∀s',Inv X pins (σ.set i none) H s'->Q () s'):wpAny M A (do bindName X.env x .none;unbindBehindTheSuite X.env x pos) Q E s:=by
 obtain⟨m,hn,hl⟩:=id I.loc;have B:(X.env.scope.kind==.class||(X.env.scope.kind==.module&&X.env.locals != X.env.globals))=false:=by rw[I.ok.kind];rfl
 have O:i<σ.length:=by rw[I.len];exact(As.mp L).1
 have cne:=I.cne;have f:∀{a:Addr} {D:Heap},(∃o,s.heap.get? a=some o/\H a=none)->Fx a s.heap D->HOk X.prog X.w H D:=λ{a D} ha g b ob e=>by
  refine(I.hok b ob e).stay (λc P R q=>(g.2 c ?_).trans q) (λ_ q=>q) λ_ _ q=>q;rcases R with rfl|R
  ·grind
  ·grind
 refine wpAny_nameGoes_keeps hk hn B λD v F g=>?_;obtain⟨W,_,_,G,_⟩:=id hn;refine h _ ⟨I.ok,I.os,I.bare,⟨λb o e n J C=>?_,λb o e n J C=>?_,I.base.free,λb o e C=>?_,I.base.tups,I.base.frzs,I.base.tbls⟩,⟨_,F,λj y Y u S Z=>?_⟩,λy c e=>?_,I.free,I.freeC,λp hp=>?_,f ⟨W,G,I.free⟩ g,by simpa using I.len⟩
 ·exact(g.2 b (Bj (Bo (Al e) I.ok.above))).trans (I.base.keep b o e n J C)
 ·obtain⟨sl,u⟩:=I.base.slot b o e n J C;exact⟨sl,(g.2 b (Bj (Bo (Al e) I.ok.above))).trans u⟩
 ·obtain⟨o',u⟩:=I.base.there b o e C;exact⟨o',(g.2 b (Bj (Bo (Al e) I.ok.above))).trans u⟩
 ·by_cases T:j=i
  ·simp_all
  ·rw[Nm (Bz T)] at S;obtain⟨u',r',q⟩:=hl j y Y u S Z;refine⟨u',r',?_⟩;rcases q with⟨k,e⟩|⟨k,c,e,z⟩
   ·refine .inl ⟨k,?_⟩;have:y≠x:=λe=>T (q9j U u (e▸L));simp[this,e]
   ·exact .inr ⟨k,c,e,z.sameBut g (cne y c e)⟩
 ·obtain⟨P,z⟩:=I.cell y c e;exact⟨P,z.sameBut g (cne y c e)⟩
 ·obtain⟨e,n,ne,nf,d⟩:=I.pin p hp;exact⟨(g.2 p.1 ne).trans e,n,ne,nf,d⟩
noncomputable abbrev Cx.pinned(X:Cx)(pn:List (Addr×Obj)):Cx:={ X with pn:=pn }
def Cx.Ok.pinned{pn:List (Addr×Obj)}(ok:X.Ok):(X.pinned pn).Ok:=⟨ok.mod,ok.kind,ok.glob,ok.blt,ok.above,ok.inj,ok.has,ok.cab,ok.hd,ok.frames,ok.stk,ok.exf,ok.bs,ok.bsz,ok.noex,ok.exfs,ok.funs,ok.frf⟩
def Cx.Ok.unpin{pn:List (Addr×Obj)}(ok:(X.pinned pn).Ok):X.Ok:=⟨ok.mod,ok.kind,ok.glob,ok.blt,ok.above,ok.inj,ok.has,ok.cab,ok.hd,ok.frames,ok.stk,ok.exf,ok.bs,ok.bsz,ok.noex,ok.exfs,ok.funs,ok.frf⟩
def Inv.toPn(I:Inv X pins σ H s):Inv (X.pinned (X.pn++pins)) [] σ H s:=⟨I.ok.pinned,I.os,I.bare,I.base,I.loc,I.cell,I.free,I.freeC,λp f=>I.pin p (by simpa using f),I.hok,I.len⟩
def Inv.ofPn(I:Inv (X.pinned (X.pn++pins)) pins' σ H s):Inv X pins σ H s:=⟨I.ok.unpin,I.os,I.bare,I.base,I.loc,I.cell,I.free,I.freeC,λp f=>I.pin p (Co _ f),I.hok,I.len⟩
def FlX.ofPn(F:FlX (X.pinned (X.pn++pins)) pins' H s e):FlX X pins H s e:=by
 obtain⟨g,vs,h,j,o,u⟩:=F.tb;exact⟨F.at_,⟨g,vs,h,j,o,λT v=>let ⟨a,b,c,d,f⟩:=u T v;⟨a,b,c,d,λp B=>f p (Co _ B)⟩⟩,F.new⟩
noncomputable abbrev Cx.hand(X:Cx)(e:Addr):Cx:={ X with A:=X.A.mark (some (.ref e)),calm:=false,xe:=λ_ _=>False }
def Cx.Ok.hand(ok:X.Ok):(X.hand e).Ok:=⟨ok.mod,ok.kind,ok.glob,ok.blt,ok.above,ok.inj,ok.has,ok.cab,(λz=>by cases z),ok.frames,ok.stk,ok.exf,ok.bs,ok.bsz,ok.noex,ok.exfs,ok.funs,ok.frf⟩
def Inv.hand(I:Inv X pins σ H s)(e:Addr):Inv (X.hand e) pins σ H s:=⟨I.ok.hand,I.os,I.bare,I.base,I.loc,I.cell,I.free,I.freeC,I.pin,I.hok,I.len⟩
def Inv.unhand(I:Inv (X.hand e) pins σ H s)(ok:X.Ok):Inv X pins σ H s:=⟨ok,I.os,I.bare,I.base,I.loc,I.cell,I.free,I.freeC,I.pin,I.hok,I.len⟩
noncomputable def gone(i:Nat)(D:Ends):Ends:=⟨λσ H=>D.nx (σ.set i none) H,D.rt,λσ H=>D.bk (σ.set i none) H,λσ H=>D.ct (σ.set i none) H⟩
end
section
variable{prog:Ak}{w:World}{A:Around}{E:Value->Ag->Prop}{h:Heap}{g:Array Td}{d:Drawn}{t:Nat}{os:Lo}
variable{nm q:Str}{C N:Addr}{bs bm bmB:List Value}{hdct:Bool}{sn:List Str}{sub:List Value}{ab:Bool}{col:Option Bool}{dd:Option Addr}{k0 k1 k2 k3 k5:Option Value}{B newId initId:String}
def q4q(F:Oc B newId initId bmB)(T:Ou h bmB bm){rest:List Value}(D:h.get? C=some (Ds nm q C N bs bm hdct sn sub ab col dd k0 k1 k2 k3 k5 newId))(hn:h.Ns N mN)(L:mN "__init__" = some (.ref fI))(H:h.get? fI=some oI)(I:oI.cls=.type "function")(M:∀h' e,Ov h h' e (.ref C) rest->h.objs.size<=e ->
   wpAny (model prog w) A (call (.ref fI) (.ref e::rest)) (λr s'=>r=.none/\Q (.done (.ret (.ref e))) s') E ⟨h',g,d,t,os⟩)(u:rest.length<=sizeLine:=by size_fits):
  wpAny (model prog w) A (Du.«type.__call__» ⟨.ref C::rest,[]⟩) Q E ⟨h,g,d,t,os⟩:=by
 repeat (first|with_reducible refine Eo D ?_|with_reducible refine wpAny_madeBy_exc D ?_|wp_step)
 refine Qo (Jc _ F.quiet) (Tq F T D ?_);refine Tr F T D ?_ u;have f:=Ae { cls:=.ref C,data:=.fields #[.ref h.objs.size,.none,.none,.none,.bool false,.none] }
  (Ae { cls:=.type "tuple",data:=.seq rest.toArray } D)
 have j:=Ae { cls:=.ref C,data:=.fields #[.ref h.objs.size,.none,.none,.none,.bool false,.none] }
  (Ae { cls:=.type "tuple",data:=.seq rest.toArray } H)
 have v:((h.push { cls:=.type "tuple",data:=.seq rest.toArray }).push { cls:=.ref C,data:=.fields #[.ref h.objs.size,.none,.none,.none,.bool false,.none] }).Ns N mN :=
  let ⟨o,O,P,e,r⟩:=hn;⟨o,O,P,Ae _ (Ae _ e),r⟩
 have s:((h.push { cls:=.type "tuple",data:=.seq rest.toArray }).push
   { cls:=.ref C,data:=.fields #[.ref h.objs.size,.none,.none,.none,.bool false,.none] }).get? (h.objs.size+1)=some
   { cls:=.ref C,data:=.fields #[.ref h.objs.size,.none,.none,.none,.bool false,.none] }:=by heap_get
 have G:=T.keeps (h':=(h.push { cls:=.type "tuple",data:=.seq rest.toArray }).push { cls:=.ref C,data:=.fields #[.ref h.objs.size,.none,.none,.none,.bool false,.none] })
  λb o e=>Ae _ (Ae _ e)
 have J:(Value.ref C::bm).contains (.ref C)=true:=by simp
 repeat (first|with_reducible refine Eo s ?_|(with_reducible refine Iy f ?_;rw[J])|wp_step)
 refine Sz f v G F.mroIs F.init.lookup ?_;rw[L];refine Cq (Ac ?_);refine Ac (Jo ⟨_,j,I⟩ ?_);refine Ad (Ac (Cb (M _ (h.objs.size+1) ⟨λb o R=>Ae _ (Ae _ R),Ib (Ii _),h.objs.size,s,Ib (Ai _),?_⟩ (Ii _)) (λr s' S=>?_) λ_ _ x=>x))
 ·exact Ae _ (Wc rfl rfl)
 ·obtain⟨rfl,U⟩:=S
  wp_walk
  exact U
def q8o(F:Oc B newId initId bmB)(T:Ou h bmB bm){rest:List Value}(f:h.get? C=some (Ds nm q C N bs bm hdct sn sub ab col dd k0 k1 k2 k3 k5 newId))(hn:h.Ns N mN)(v:mN "__init__" = some (.ref fI))(j:h.get? fI=some oI)(o:oI.cls=.type "function")(D:∀h' e,Ov h h' e (.ref C) rest->h.objs.size<=e ->
   wpAny (model prog w) (A.under (.builtin "type.__call__" ⟨.ref C::rest,[]⟩)) (call (.ref fI) (.ref e::rest)) (λr s'=>r=.none/\Q (.ref e) s') E ⟨h',g,d,t,os⟩)(s:rest.length<=sizeLine:=by size_fits):
  wpAny (model prog w) A (call (.ref C) rest) Q E ⟨h,g,d,t,os⟩:=by
 have H:=tc_lookup;have I:=tc_bind (.ref C);refine Gk (Rp ?_);repeat (any_goals (first|assumption|with_reducible refine Eo f ?_|wp_step))
 refine⟨rfl,?_⟩;refine Rj (Jc _ (by trivial)) entry_typeCall (Qp f (q4q F T f hn v j o λh' e G u=>?_));exact D h' e G u
def raiseX(j:bm.contains (.type "BaseException")=true)(G:A.handled=none)(h:wpAny M A x (λv f=>∃e u vs B,v=.ref e/\f.heap.get? C=some (Ds nm q C N bs bm hdct sn sub ab col dd k0 k1 k2 k3 k5 newId) /\
   f.heap.get? e=some { cls:=.ref C,dict:=u,data:=.fields vs,slots:=B }/\vs[1]?=some .none/\E (.ref e) f) E s):
  wpAny M A (raiseStmt env (some x) none) Q E s:=by
 have o:(Value.ref C::bm).contains (.type "BaseException")=true:=by grind
 refine Ac (Cb h (λv f g=>?_) λ_ _ x=>x);obtain⟨e,u,vs,B,rfl,D,F,H,I⟩:=g;repeat (first|with_reducible refine Eo F ?_|with_reducible refine Eo D ?_|(with_reducible refine Iy D ?_;rw[o])|(with_reducible refine Bs F rfl H ?_)|wp_step)
 exact wpAny_raiseNew_none G I
end
noncomputable def ExN(C:Value)(dd:Option Addr)(e:Addr):HO:=.ext λh=>∃vs sl,h.get? e=some { cls:=C,dict:=dd,data:=.fields vs,slots:=sl }/\vs.size=6/\vs[1]?=some .none
noncomputable abbrev bmV:List Value:=[.type "ValueError",.type "Exception",.type "BaseException",.type "object"]
structure EMk (K:Ah) (C fI:Addr) (bm:List Value):Prop where
 ex:∃nm q N bs hdct sn sub ab col dd k0 k1 k2 k3 k5 mN,K.lookup C=some (Ds nm q C N bs bm hdct sn sub ab col dd k0 k1 k2 k3 k5 "ValueError.__new__")/\(∀h:Heap,K.In h->h.Ns N mN)/\mN "__init__" = some (.ref fI)
 tail:∀h:Heap,K.In h->Ou h bmV bm
 fn:∃oI,K.lookup fI=some oI/\oI.cls=.type "function"
 kp:Ff K (.ref C)=true
def EMk.base{K:Ah}(M:EMk K C fI bm)(f:K.In h):bm.contains (.type "BaseException")=true:=(M.tail h f).hasType (by decide)
section
variable{X:Cx}{pins:List (Addr×Obj)}{σ:St}{H:Hp}{s:Ag}{e:Addr}
def Inv.asO(I:Inv X pins σ H s)(h:H e=some (ExN C dd e)):Inv X pins σ (upd H e (ExO C dd e)) s:=by
 have un:Un (frs X.stack) [] H (upd H e (ExO C dd e)) s.heap s.heap:=by
  have hk:∀{b:Addr} {o:HO},H b=some o->b≠e\/o=ExN C dd e:=λ{b o} f=>by
   by_cases z:b=e
   ·grind
   ·exact .inl z
  refine⟨λb o f _ _ _=>f,λb o f _ _ _=>⟨o.slots,f⟩,λb o _ n _=>?_,λb o f _=>⟨o,f⟩,λb j q=>?_,λb o u q=>?_,λb J q=>⟨#[],?_⟩⟩
  ·rw[q0f (λz=>by rw[z,h] at n;cases n)];exact n
  ·rcases hk q with z|z
   ·rw[q0f z];exact q
   ·cases z
  ·rcases hk q with z|z
   ·rw[q0f z];exact q
   ·cases z
  ·rcases hk q with z|z
   ·rw[q0f z,q];simp
   ·cases z
 have hok:HOk X.prog X.w (upd H e (ExO C dd e)) s.heap:=λa o ha=>by
  by_cases z:a=e
  ·subst z;rw[q0d] at ha;cases ha;obtain⟨⟨vs,g,v,B,_⟩,D,_⟩:=I.hok a _ h;exact⟨⟨vs,g,v,B⟩,D,λL M ⟨E,g,F,G⟩ k=>⟨E,g,k _ F,G⟩⟩
  ·rw[q0f z] at ha;refine(I.hok a o ha).stay (λb u _ q=>q) (λb q=>?_) λb j q=>?_
   ·rw[q0f (λy=>by rw[y,h] at q;cases q)];exact q
   ·rw[q0f (λy=>by rw[y,h] at q;cases q)];exact q
 exact I.call' (s':=s) rfl un hok I.bare λb z=>absurd z (by simp)
noncomputable def tRaise(C:Addr)(sp:Sp)(J:Addr->St->Hp->Prop)(t:TA):TS:=λ_ σ H=>t σ H λvs H1=>∀ea,H1 ea=none ->
 sp (.ref ea::vs) (upd H1 ea (ExN (.ref C) none ea)) (λv H2=>v=.non/\∃dd,H2 ea=some (ExN (.ref C) dd ea)/\J ea σ (upd H2 ea (ExO (.ref C) dd ea))) E0
def x3i{np B a0:Pos}(M:EMk X.K C fI bm)(F:FnOk X.prog X.w X.K X.mg X.base CX0 k fI fd ps sp)(hr:Room (k+1) X.A)(hb:Binds X.K fd ps [])(hx:AccX X J)(hc:X.calm=true)(hg:Gl X x)(hm:X.mg x=some (.ref C))(ha:PA X (e₀::es) t)(a8:ps.length<=100:=by decide)(a1:(x==("__debug__" : Str))=false:=by decide)(he:Bc (e₀::es) X.env=(false,eval e₀ X.env)::Bc es X.env:=by rfl)(a2:(Ew B (Bc es X.env)).any (·.1)=false:=by rfl):
  PS X (.Raise (some (.Call (.Name x np) (e₀::es) [] B)) none a0) (tRaise C sp J t):=by
 intro E s σ H D I h;obtain⟨nm,q,N,bs,S,sn,a3,ab,a4,dd,k0,k1,k2,k3,k5,mN,lk,hN,hi⟩:=M.ex;obtain⟨oI,a5,a6⟩:=M.fn;have O:wpAny (model X.prog X.w) X.A (eval (.Call (.Name x np) (e₀::es) [] B) X.env) (λv f=>∃e de vs U,v=.ref e/\f.heap.get? C=some (Ds nm q C N bs bm S sn a3 ab a4 dd k0 k1 k2 k3 k5 "ValueError.__new__") /\
   f.heap.get? e=some { cls:=.ref C,dict:=de,data:=.fields vs,slots:=U }/\vs[1]?=some .none/\X.xe (.ref e) f) X.xe s:=by
  refine Fj (q2q I hg hm ?_ a1);refine Le I.ok.mod.kin M.kp (thn (ha B E s σ H _ I h) λG s1 ⟨vs,H1,R,r,hq⟩=>⟨R.kIn,?_⟩) he a2;obtain⟨hp,g,dr,tk,os⟩:=s1;have Z:=R.kIn;have a7:G.length<=sizeLine:=by
   have hh:=F.len _ _ _ _ (hq hp.objs.size (R.hok.fresh (Ai _)));rw[Be] at hh;rw[<- r.length,Et];lia
  refine q8o Km (M.tail hp Z) (Z _ _ lk) (hN hp Z) hi (Z _ _ a5) a6 λh' e W P=>?_;have Q:=R.hok.fresh P;obtain⟨t0,L,_,_⟩:=W.there;have I2:Inv X E σ (upd H1 e (ExN (.ref C) none e)) ⟨h',g,dr,tk,os⟩:=R.laid (h':=h') (t':=tk) (λb u q=>W.keeps b u q) P ⟨⟨_,_,L,rfl,rfl⟩,⟨_,L⟩,λh1 h2 ⟨ws,U,k1,k2⟩ k=>⟨ws,U,k _ k1,k2⟩⟩;have hq':=hq e Q;have r2:Vals (V.ref e::vs) (Value.ref e::G):=.cons rfl r;have hl:((Value.ref e::G)++[]).length=ps.length:=by rw[Dq,<- r2.length];exact F.len _ _ _ _ hq'
  have hb':=hb ⟨h',g,dr,tk,os⟩ (Value.ref e::G) I2.kIn hl;rw[Dq] at hb';refine Gk (Hi (F.run _ X.stack _ _ ⟨Value.ref e::G,[]⟩ (Value.ref e::G) _ _ _ (hr.make C G []) (I2.env0.make C G []) hb' r2 hq') λr s' Y=>?_);cases r with
  |error e=>exact Y.elim
  |ok fl =>
   cases fl with
   |ret u =>
    obtain⟨v,H',I3,rv,ev,de,hE,j⟩:=I2.after Y;subst ev;refine⟨rv,?_⟩;obtain⟨⟨ws,U,q1,q2,q3⟩,_,_⟩:=I3.hok e _ hE;refine⟨e,de,ws,U,rfl,I3.kIn _ _ lk,q1,q3,hx.acc _ _ ⟨E,σ,_,e,rfl,I3.asO hE,⟨⟨_,_,q0d⟩,⟨_,ws,q1,rfl,.inl q3,λT hT=>?_⟩,Bg R.sz P⟩,j⟩⟩;rw[q3] at hT;cases hT
   |next=>exact False.elim Y
   |brk=>exact False.elim Y
   |cont=>exact False.elim Y
 have o:=M.base I.kIn;first
  |exact Ac (De (raiseX o (I.ok.hd hc) (Ac (Cb O (λv f z=>Ac (De (Ad z))) λ_ _ z=>z))))
  |(simp only[evalOpt,Option.map];exact Ac (De (raiseX o (I.ok.hd hc) (Ac (Cb O (λv f z=>Ac (De (Ad z))) λ_ _ z=>z)))))
  |exact Ac (De (raiseX o (I.ok.hd hc) O))
end
section
variable{prog:Ak}{w:World}{A:Around}{R:Result->Ag->Prop}{h:Heap}{g:Array Td}{d:Drawn}{t:Nat}{os:Lo}
variable{nm q:Str}{C N:Addr}{bs bm bmB:List Value}{hdct:Bool}{sn:List Str}{sub:List Value}{ab:Bool}{col:Option Bool}{dd:Option Addr}{k0 k1 k2 k3 k5:Option Value}{B newId initId:String}
def z2m(F:Oc B newId initId bmB)(T:Ou h bmB bm){rest:List Value}(s:h.get? C=some (Ds nm q C N bs bm hdct sn sub ab col dd k0 k1 k2 k3 k5 newId))(o:h.get? e=some { cls:=.ref C,dict:=de,data:=.fields vs,slots:=sl })(E:vs.size=6)(f:rest.length<=sizeLine)(u:R (.ok (.ret .none)) ⟨(h.push { cls:=.type "tuple",data:=.seq rest.toArray }).update e (Fo (·.setIfInBounds 0 (.ref h.objs.size))),g,d,t,os⟩):
  Gq (model prog w) A (.call (.builtin initId) ⟨.ref e::rest,[]⟩) R ⟨h,g,d,t,os⟩:=by
 refine Gn F.init.plain F.initEntry (wpAny_check_init_subT F T s o rfl ?_);have j:=Ae { cls:=.type "tuple",data:=.seq rest.toArray } o
 wp_walk
 have v:vs[(0:Nat)]?=some (vs[0]'(by lia)):=Gh (by lia);rw[v];refine Ad (Ac (Hb j rfl (by lia) ?_));generalize vs[0]'(by lia)=D;cases D<;>(wp_walk;exact u)
end
def upd_id(h:H a=some o):upd H a o=H:=by
 funext b;by_cases z:b=a
 ·rw[z,q0d,h]
 ·rw[q0f z]
structure ELow (K:Ah) (C:Addr) (bm:List Value):Prop where
 ex:∃nm q N bs hdct sn sub ab col dd k0 k1 k2 k3 k5,K.lookup C=some (Ds nm q C N bs bm hdct sn sub ab col dd k0 k1 k2 k3 k5 "ValueError.__new__")
 tail:∀h:Heap,K.In h->Ou h bmV bm
def EMk.low{K:Ah}(M:EMk K C fI bm):ELow K C bm:=by
 obtain⟨nm,q,N,bs,f,j,g,o,h,dd,s,u,v,B,D,F,E,_⟩:=M.ex;exact⟨⟨nm,q,N,bs,f,j,g,o,h,dd,s,u,v,B,D,E⟩,M.tail⟩
structure EIni (K:Ah) (D:Addr) (mc:Value):Prop where
 sp:Mn K (.ref D) "__getattribute__" = some (some (.builtin "type.__getattribute__"))
 rd:W.readsIn K D mc=true
 fc:W.findCls K (.ref D) mc "__init__" = some (.val (.builtin "ValueError.__init__"))
section
variable{X:Cx}{x:Str}{p pos apos:Pos}{a b:Expr}{t:TA}{C D:Addr}{bm:List Value}{mc:Value}
noncomputable def tIni(C:Addr)(t:TA):TE:=λσ H Q=>t σ H λvs H1=>∃ea v de,vs=[.ref ea,v]/\H1 ea=some (ExN (.ref C) de ea)/\Q .non H1
def z5t{pl:Sem Bool}(L:ELow X.K C bm)(N:EIni X.K D mc)(hg:Gl X x)(hm:X.mg x=some (.ref D))(ha:PA X [a,b] t)(J:(x==("__debug__" : Str))=false:=by decide)(M:Bc [a,b] X.env=(false,eval a X.env)::Bc [b] X.env:=by rfl)(O:(Ew pos (Bc [b] X.env)).any (·.1)=false:=by rfl)(ht:eval (.Call (.Attribute (.Name x p) "__init__" apos) [a,b] [] pos) X.env=(do
   let T<-eval (.Name x p) X.env
   Ol apos.atName
   let (f,first)<-Ko [T] (Na T "__init__" pl)
   Tg pos f first (Ew pos (Bc [a,b] X.env)) (Mw pos (Jj [] X.env))):=by rfl):
  PE X (.Call (.Attribute (.Name x p) "__init__" apos) [a,b] [] pos) (tIni C t):=by
 intro B s σ H Q I h;refine Rl (q2q I hg hm ?_ J) ht;refine W.method_cls I.kIn N.sp (W.cls_value I.kIn N.rd N.fc rfl ?_);refine Nr (thn (ha pos B _ σ H _ (I.tok _) h) λus s1 qz=>?_) M O;obtain⟨vs,H1,F,r,G,v,de,ev,P,q⟩:=qz;subst ev;obtain⟨u1,U,rfl,ru,rv⟩:=r.two;obtain rfl:u1=Value.ref G:=ru;obtain⟨E,g,dr,tk,os⟩:=s1;obtain⟨nm,q0,N0,bs,Y,sn,a0,ab,a1,dd,k0,Z,k2,k3,k5,lk⟩:=L.ex;obtain⟨⟨R,S,q1,q2,q3⟩,_,_⟩:=F.hok G _ P;refine Gk (z2m Km (L.tail E F.kIn) (F.kIn _ _ lk) q1 q2 (by show 1<=sizeLine;decide) ?_);have q1':=Ae { cls:=.type "tuple",data:=.seq #[U] } q1;have j:=Er (Fo (·.setIfInBounds 0 (Value.ref E.objs.size))) q1' rfl;have I2:=F.write (o:=ExN (.ref C) de G) (t':=tk) (h':=(E.push { cls:=.type "tuple",data:=.seq #[U] }).update G (Fo (·.setIfInBounds 0 (Value.ref E.objs.size)))) (by rw[P];exact trivial) (.inl rfl)
  (λb u hb hu=>by rw[Bu _ _ (Bz hb)];exact Ae _ hu) ⟨_,j⟩
  ⟨⟨R.setIfInBounds 0 (.ref E.objs.size),S,j,by simpa using q2,by rw[Array.getElem?_setIfInBounds_ne (by decide)];exact q3⟩,⟨_,j⟩,λh1 h2 ⟨R,S,Z,k2⟩ k=>⟨R,S,k _ Z,k2⟩⟩
 rw[upd_id P] at I2;exact⟨.non,H1,I2,rfl,q⟩
end
noncomputable def ExMro(l:List Value):Prop:=∃rs:List Addr,l=rs.map Value.ref++bmV
def z7f(self:Value):Xp self "__setattr__" bmV=pure ():=by kernel_rfl
def z9z(self:Value)(h:ExMro l):Xp self "__setattr__" l=pure ():=by
 obtain⟨f,rfl⟩:=h;induction f with
 |nil=>exact z7f self
 |cons c r ih=>show Xp self "__setattr__" (.ref c::(r.map Value.ref++bmV))=_;rw[refuseLoop_ref];exact ih
def q9f(h:ExMro l):l.contains (.type "object")=true/\l.isEmpty=false:=by
 obtain⟨f,rfl⟩:=h;refine⟨?_,?_⟩
 ·induction f with
  |nil=>decide
  |cons c r ih=>show(Value.ref c::(r.map Value.ref++bmV)).contains _=true;rw[Jg,ih,Qz]
 ·cases f<;>rfl
structure ESet (K:Ah) (C:Addr) (f:Str):Prop where
 cls:∃cd,Nf K C=some cd/\ExMro cd.mro/\cd.hasDict=true
 sa:Bq K (.ref C) "__setattr__" = some (some (.builtin "object.__setattr__"))
 tk:Bq K (.ref C) f=some none
section
variable{prog:Ak}{w:World}{A:Around}{R:Result->Ag->Prop}{s:Ag}{K:Ah}{x C:Addr}
def z2n(X:K.In s.heap)(I:La s.heap x ox C od)(S:ESet K C name)(h:wpAny (model prog w) A.in1 (Du.ObjectAttr.storeInOwnDict (.ref x) (.ref C) (.str name tk) name v false)
   (λj s'=>match j with|.done f=>R (.ok f) s'|.again c'=>c'.quiet=true/\Gq (model prog w) A c' R s') (λe s'=>R (.error e) s') s):
  Gq (model prog w) A (.call (.builtin "object.__setattr__") ⟨[.ref x,.str name tk,v],[]⟩) R s:=by
 have g:=PySem.F.store_object;obtain⟨D,B,o,_⟩:=S.cls;have u:Xu (model prog w) s.heap (isInstance (.ref x) (.type "object")) true:=I.type.andThen (Ue X (by unfold Sl;rw[B,Ga,if_neg (by rw[(q9f o).2];decide),(q9f o).1]));refine Gn g.slot.plain g.entry (@Vi (model prog w) _ _ s "object.__setattr__" "object" "__setattr__" (.ref x) [.str name tk,v] [] _ g.kind g.split u (g.args (.ref x) (.str name tk) v) ?_);have E:Xu (model prog w) s.heap (mroOf (.ref C)) D.mro:=(Pr X B).andThen .now;rw[W.osa_eq,refuse_eq];refine Ac (Ac (I.type.here (Ac (E.here ?_))));rw[z9z _ o];refine Ad (Ac (I.type.here (Ac ((Jn X S.tk).here (Ac ?_)))));exact Ad h
end
noncomputable def XdO(d:Addr)(fs:List (Str×V)):HO:=.ext λh=>∃mA,h.Ns1 d mA/\(∀f,RelO (fs.lookup f) (mA f))/\Nl mA (fs.map (·.1))
def x6s(n:h.Ns1 d g)(r:∀f,RelO (fs.lookup f) (g f))(j:Nl g (fs.map (·.1))):ObjOk P w H h d (XdO d fs) :=
 ⟨⟨g,n,r,j⟩,let ⟨o,_,_,e,_⟩:=n;⟨o,e⟩,λs u ⟨g,n,r,j⟩ k=>⟨g,n.at k,r,j⟩⟩
def exn_ok(g:h.get? e=some { cls:=C,dict:=dd,data:=.fields vs,slots:=f })(j:vs.size=6)(o:vs[1]?=some .none):ObjOk P w H h e (ExN C dd e) :=
 ⟨⟨vs,f,g,j,o⟩,⟨_,g⟩,λB D ⟨s,f,u,v⟩ k=>⟨s,f,k _ u,v⟩⟩
section
variable{X:Cx}{pins:List (Addr×Obj)}{σ:St}{H:Hp}{s:Ag}{x C d:Addr}{f:Str}{y:V}{u:Value}{A:Around}{E:Value->Ag->Prop}{Q:Unit->Ag->Prop}
def x0a(I:Inv X pins σ H s)(P:H x=some (ExN (.ref C) (some d) x))(hd:H d=some (XdO d fs))(S:ESet X.K C f)(hl:fs.length<1000)(R:RelV y u)(h:∀s',Inv X pins σ (upd H d (XdO d (putF f y fs))) s'->Q () s'):wpAny (model X.prog X.w) A (Xs (.ref x) f u) Q E s:=by
 obtain⟨⟨vs,T,L,q2,q3⟩,_,_⟩:=I.hok x _ P;obtain⟨⟨U,n,r,M⟩,⟨W,v⟩,_⟩:=I.hok d _ hd;have J:La s.heap x { cls:=.ref C,dict:=some d,data:=.fields vs,slots:=T } C (some W):=⟨L,rfl,rfl,v⟩
 refine Wg I.kIn J S.sa (z2n I.kIn J S ?_);obtain⟨cd,Y,_,B⟩:=S.cls;refine Ac (Ad (Ac (Ac (Om L (Ac (Ux (Pr I.kIn Y) ?_))))));rw[B];refine Ad (Ac (Ad (Ac ?_)));refine Uy n λO j D=>?_;obtain⟨oD,Z,a0,o,F,G⟩:=j.count (Qc f u M);refine Ac (Qs o (by rw[F];exact Qt (Bg G (by rw[Be,Af,Et];lia))) ?_);refine Ad (h _ (I.write (t':=s.toks+1+1) (h':=O) (by rw[hd];exact trivial) (.inl rfl) (λb q hb z=>(D.2 b hb).trans z) ⟨_,o⟩ (x6s j (λg=>?_) λg hg=>?_)))
 ·show RelO ((putF f y fs).lookup g) (if g=f then some u else U g);rw[q2x];by_cases q:g=f
  ·rw[if_pos q,if_pos q];exact R
  ·grind
 ·by_cases q:g=f
  ·rw[q];exact(q3n f y fs).1
  ·refine(q3n f y fs).2 g (M g λz=>hg ?_);rw[if_neg q];exact z
def x0b(I:Inv X pins σ H s)(Z:H x=some (ExN (.ref C) none x))(S:ESet X.K C f)(ry:RelV y u)(h:∀d s',H d=none->d≠x->Inv X pins σ (upd (upd (upd H d (XdO d [])) x (ExN (.ref C) (some d) x)) d (XdO d [(f,y)])) s'->Q () s'):wpAny (model X.prog X.w) A (Xs (.ref x) f u) Q E s:=by
 obtain⟨⟨vs,sl,M,q2,q3⟩,_,_⟩:=I.hok x _ Z;have J:La s.heap x { cls:=.ref C,dict:=none,data:=.fields vs,slots:=sl } C none:=⟨M,rfl,rfl,trivial⟩
 refine Wg I.kIn J S.sa (z2n I.kIn J S ?_);obtain⟨cd,hc,_,P⟩:=S.cls;refine Ac (Ad (Ac (Ac (Om M (Ac (Ux (Pr I.kIn hc) ?_))))));rw[P];have D:=Al M;have j:=I.hok.fresh (Ai s.heap.objs.size);have B:=Ex D;have e1:(s.heap.push Ei).get? s.heap.objs.size=some Ei:=An s.heap rfl;have e3:(s.heap.push Ei).Ns s.heap.objs.size (λ_=>none):=⟨Ei,#[],_,e1,rfl,(λe he=>absurd he (by simp)),λ_=>rfl⟩
 have I1:=I.laid (o:=XdO s.heap.objs.size []) (h':=s.heap.push Ei) (t':=s.toks+1) (λb u q=>Ae _ q) (Ai _) (x6s (Vn e3) (λ_=>True.intro) λy hy=>absurd rfl hy);have q1':=Ae Ei M;have v:=Er (λo:Obj=>{ o with dict:=some s.heap.objs.size }) q1' rfl;have R:upd H s.heap.objs.size (XdO s.heap.objs.size []) x=some (ExN (.ref C) none x):=by rw[q0f (Bz B)];exact Z
 have I2:=I1.write (t':=s.toks+1) (h':=(s.heap.push Ei).update x (λo:Obj=>{ o with dict:=some s.heap.objs.size })) (by rw[R];exact trivial) (.inl rfl)
  (λb u T hu=>by rw[Bu _ _ (Bz T)];exact hu) ⟨_,v⟩ (exn_ok v q2 q3)
 have F:upd (upd H s.heap.objs.size (XdO s.heap.objs.size [])) x (ExN (.ref C) (some s.heap.objs.size) x) s.heap.objs.size=some (XdO s.heap.objs.size []):=by rw[q0f B,q0d]
 obtain⟨⟨mA,n,r,wi⟩,⟨od,a0⟩,_⟩:=I2.hok _ _ F;refine Ac (wpAny_alloc (Ac (wpAny_update q1' ?_)));refine Ad (Ac (Ad (Ac ?_)));refine Uy n λO G U=>?_
 obtain⟨oD,a1,a2,L,W,Y⟩:=G.count (Qc f u wi);refine Ac (Qs L (by rw[W];exact Qt (Bg Y (by rw[Be,Af,Et];decide))) ?_);refine Ad (h s.heap.objs.size _ j B (I2.write (t':=s.toks+1+1) (h':=O) (by rw[F];exact trivial) (.inl rfl) (λb q T z=>(U.2 b T).trans z) ⟨_,L⟩ (x6s G (λg=>?_) λg hg=>?_)))
 ·have e:(putF f y []).lookup g=if g=f then some y else List.lookup g []:=q2x f g y []
  show RelO ((putF f y []).lookup g) (if g=f then some u else mA g);rw[e];by_cases q:g=f
  ·rw[if_pos q,if_pos q];exact ry
  ·grind
 ·by_cases q:g=f
  ·grind
  ·exfalso;have:=wi g λz=>hg (by show(if g=f then some u else mA g)=none;rw[if_neg q];exact z);cases this
end
structure EGet (K:Ah) (C:Addr) (f:Str):Prop where
 cls:∃cd,Nf K C=some cd/\ExMro cd.mro/\cd.hasDict=true
 ga:Bq K (.ref C) "__getattribute__" = some (some (.builtin "BaseException.__getattribute__"))
 gh:Bq K (.ref C) "__getattr__" = some none
 tk:Bq K (.ref C) f=some none
def x0c(h:ExMro l):l.contains (.type "BaseException")=true:=by
 obtain⟨f,rfl⟩:=h;induction f with
 |nil=>decide
 |cons c r ih=>show(Value.ref c::(r.map Value.ref++bmV)).contains _=true;rw[Jg,ih,Qz]
section
variable{prog:Ak}{w:World}{A:Around}{E:Value->Ag->Prop}{s:Ag}{K:Ah}{x C:Addr}{ox:Obj}{od:Option Obj}{name:Str}{expr:Bool}{v:Value}{Q:Value->Ag->Prop}
def getE(X:K.In s.heap)(I:La s.heap x ox C od)(G:EGet K C name)(D:Yb K C od name=some (.value v))(F:Xc v=true)(h:Q v { s with toks:=s.toks+1 }):
  wpAny (model prog w) A (Xr (.ref x) name expr) Q E s:=by
 obtain⟨H,g,d,t,os⟩:=s;have u:=I.type (M:=model prog w);have J:=Jn (M:=model prog w) X G.ga;have L:=Jn (M:=model prog w) X G.gh;have O:=W.looks_find (M:=model prog w) X I D;have P:=Pz.ga;obtain⟨S,R,B,_⟩:=G.cls;have j:Xu (model prog w) H (isInstance (.ref x) (.type "BaseException")) true:=I.type.andThen (Ue X (by unfold Sl;rw[R,Ga,if_neg (by rw[(q9f B).2];decide),x0c B]));have hk:builtinKind "BaseException.__getattribute__" = some .slot:=by trivial
 have f:splitId "BaseException.__getattribute__" = some ("BaseException", "__getattribute__"):=by trivial
 refine Ac (wpAny_mkText (Cq (Ac (u.at (Ac (J.at ?_))))));refine Ac (show wpAny _ _ (Qk (.ref C) "__getattr__") _ _ _ from L.at ?_);have o:(expr&&onTheHeap (Value.builtin "BaseException.__getattribute__"))=false:=by cases expr<;>rfl
 unfold callGetattribute boundAndCalled;rw[o];refine Ac (Eh (Cq (show wpAny _ _ (bindSpecial _ _ >>= _) _ _ _ from ?_)));refine Ac (Ad (Gk (Gn P.plain Ta (@Vi (model prog w) _ _ _ "BaseException.__getattribute__" "BaseException" "__getattribute__" (.ref x) [.str name t] [] _ hk f j (Tt (.ref x) (.str name t)) ?_))));refine Ac (Ad (Ac (Ad (Ac (u.at (Ac (O.at ?_)))))));refine Ad ?_;show wpAny _ _ (handedOut v) _ _ _;rw[W.handedOut_of F];exact Ad h
end
section
variable{X:Cx}{e o value:Expr}{f:Str}{pos pos':Pos}{ta tv:TE}
noncomputable def tEfld(K:Ah)(ta:TE)(f:Str):TE:=λσ H Q=>ta σ H λx H1=>∃a C d fs v,x=.ref a/\(H1 a=some (ExO (.ref C) (some d) a)\/H1 a=some (ExN (.ref C) (some d) a))/\H1 d=some (XdO d fs)/\EGet K C f/\fs.lookup f=some v/\Q v H1
def z2o(K:Ah)(S:X.K=K)(T:PE X e ta)(U:Gv e f X.env (eval e X.env)=eval e X.env:=by rfl):PE X (.Attribute e f pos) (tEfld K ta f):=by
 subst S;intro j s Y H Q I h;refine z8e U (thnE (T j s Y H _ I h) λu P x Z o rx qz=>?_);obtain⟨a,C,d,fs,v,ex,B,hd,G,l,q⟩:=qz;subst ex;obtain rfl:u=Value.ref a:=rx;obtain⟨⟨mA,n,r,wi⟩,_,_⟩:=o.hok d _ hd;obtain⟨od,L,M⟩:=z1g n;have D:∃vs g,P.heap.get? a=some { cls:=.ref C,dict:=some d,data:=.fields vs,slots:=g }:=by
  rcases B with B|B
  ·obtain⟨⟨vs,g,E,_⟩,_,_⟩:=o.hok a _ B;exact⟨vs,g,E⟩
  ·obtain⟨⟨vs,g,E,_⟩,_,_⟩:=o.hok a _ B;exact⟨vs,g,E⟩
 obtain⟨vs,g,E⟩:=D;have J:La P.heap a { cls:=.ref C,dict:=some d,data:=.fields vs,slots:=g } C (some od):=⟨E,rfl,rfl,L⟩
 have F:=r f;rw[l] at F;cases hm:mA f with
 |none=>rw[hm] at F;exact F.elim
 |some u =>
  rw[hm] at F;have R:=F;have hh:Mm X.K C=true:=by
   obtain⟨cd,hc,_,O⟩:=G.cls;unfold Mm;rw[hc];exact O
  exact getE o.kIn J G (W.findObj_own hh G.tk rfl (by rw[M,hm])) (z1h R) ⟨v,Z,o.tok _,R,q⟩
noncomputable def sEfld(K:Ah)(ta tv:TE)(f:Str):TS:=λD σ H=>tv σ H λy H1=>ta σ H1 λx H2=>∃a C,x=.ref a/\ESet K C f /\
 ((H2 a=some (ExN (.ref C) none a)/\∀d,H2 d=none->d≠a->D.nx σ (upd (upd (upd H2 d (XdO d [])) a (ExN (.ref C) (some d) a)) d (XdO d [(f,y)]))) \/
  ∃d fs,H2 a=some (ExN (.ref C) (some d) a)/\H2 d=some (XdO d fs)/\fs.length<1000/\D.nx σ (upd H2 d (XdO d (putF f y fs))))
def z2p(K:Ah)(L:X.K=K)(ha:PE X o ta)(M:PE X value tv)(O:Jb value (some (.Attribute o f pos')) pos.line X.env=pure false:=by rfl):PS X (.Assign [.Attribute o f pos'] value pos) (sEfld K ta tv f):=by
 subst L;intro g s v H D I h;refine Nj (thnE (M g s v H _ I h) λu P y Q R G q=>thnE (ha g P v Q _ R q) λT Z x H2 J U W=>?_) O;obtain⟨a,C,ex,S,j⟩:=W;subst ex;obtain rfl:T=Value.ref a:=U;rcases j with⟨B,j⟩|⟨d,fs,B,hd,hl,j⟩
 ·exact x0b J B S G λd Y hn E F=>⟨v,_,F,j d hn E⟩
 ·exact x0a J B hd S hl G λY F=>⟨v,_,F,j⟩
end
structure EIsi (K:Ah) (C:Addr):Prop where
 cls:∃cd,Nf K C=some cd/\ExMro cd.mro/\cd.hasDict=true
 ga:Bq K (.ref C) "__getattribute__" = some (some (.builtin "BaseException.__getattribute__"))
 gh:Bq K (.ref C) "__getattr__" = some none
 ha:Bq K (.ref C) "__class__" = some (some (.builtin "object.__class__"))
 hn:Mn K (.builtin "object.__class__") "__get__" = some (some (.builtin "getset_descriptor.__get__"))
 htk:Uz K (.builtin "object.__class__")=some true
section
variable{prog:Ak}{w:World}{A:Around}{E:Value->Ag->Prop}{s:Ag}{K:Ah}{x C:Addr}{ox:Obj}{od:Option Obj}
def EIsi.obj(G:EIsi K C):Sl K C (.type "object")=some true:=by
 obtain⟨h,g,f,_⟩:=G.cls;unfold Sl;rw[g,Ga,if_neg (by rw[(q9f f).2];decide),(q9f f).1]
def classE{j:Bool}(X:K.In s.heap)(I:La s.heap x ox C od)(G:EIsi K C)(h:Q (.ref C) s):
  wpAny (model prog w) A (getAttrBy (.ref x) (.str "__class__" tk) j expr) Q E s:=by
 obtain⟨F,g,d,t,os⟩:=s;have v:=I.type (M:=model prog w);have H:=Jn (M:=model prog w) X G.ga;have J:=Jn (M:=model prog w) X G.gh;obtain⟨R,B,D,_⟩:=G.cls;have L:Yb K C od "__class__" = some (.bind (.builtin "getset_descriptor.__get__") (.builtin "object.__class__")):=by
  unfold Yb;rw[B,Ga,G.ha,Ga];dsimp only;rw[G.hn,Ga];dsimp only;rw[G.htk,Ga]
 have O:=W.looks_find (M:=model prog w) X I L;have P:=Pz.ga;have o:Xu (model prog w) F (isInstance (.ref x) (.type "BaseException")) true:=I.type.andThen (Ue X (by unfold Sl;rw[B,Ga,if_neg (by rw[(q9f D).2];decide),x0c D]));have hk:builtinKind "BaseException.__getattribute__" = some .slot:=by trivial
 have f:splitId "BaseException.__getattribute__" = some ("BaseException", "__getattribute__"):=by trivial
 refine Cq (Ac (v.at (Ac (H.at ?_))));refine Ac (show wpAny _ _ (Qk (.ref C) "__getattr__") _ _ _ from J.at ?_);have u:(expr&&onTheHeap (Value.builtin "BaseException.__getattribute__"))=false:=by cases expr<;>rfl
 unfold callGetattribute boundAndCalled;rw[u];refine Ac (Eh (Cq (show wpAny _ _ (bindSpecial _ _ >>= _) _ _ _ from ?_)));refine Ac (Ad (Gk (Gn P.plain Ta (@Vi (model prog w) _ _ _ "BaseException.__getattribute__" "BaseException" "__getattribute__" (.ref x) [.str "__class__" tk] [] _ hk f o (Tt (.ref x) (.str "__class__" tk)) ?_))));refine Ac (Ad (Ac (Ad (Ac (v.at (Ac (O.at ?_)))))));refine Ac (Cq (Gk (W.class_get X I G.obj (Ad ?_))));exact Ad h
def z0e(G:EIsi K C):W.KitX K (.ref x) (.ref C) (λh=>∃o u,La h x o C u) where
 ty:=λ_ _ _ ⟨_,_,I⟩=>I.type
 it:=λ_ _ X _=>by
  obtain⟨g,f,_⟩:=G.cls;unfold Nf at f;split at f
  ·rename_i c' d' cd' sl' ho;intro B D F H k q;exact Ac (Om (k _ _ (X _ _ ho)) (Ad q))
  ·cases f
 ne:=λh tp dd v n J X j=>by
  obtain⟨g,f,_⟩:=G.cls;refine Bool.eq_false_iff.mpr λq=>?_
  have e:=Value.ref.inj (beq_iff_eq.mp q);subst e;unfold Nf at f;split at f
  ·rename_i c' d' cd' sl' ho;have z:=(X _ _ ho).symm.trans j;cases z
  ·cases f
 ca:=λ{prog w A E Q s} X ⟨o,u,I⟩ k=>by
  refine Ac (wpAny_mkText (Ac (Eh (classE X I G ?_))));exact Ad k
end
noncomputable def strKey(e:Jw):Bool:=match e.key with|.str _ _=>true|_=>false
noncomputable def isNsK(K:Ah)(N:Addr):Bool:=match K.lookup N with|some ⟨_,_,.dict es _,_⟩=>es.toList.all strKey|_=>false
noncomputable def nsMapK(K:Ah)(N:Addr)(name:Str):Option Value:=match K.lookup N with|some ⟨_,_,.dict es _,_⟩=>nsFind es name|_=>none
def ns_K{K:Ah}(e:isNsK K N=true)(h:Heap)(X:K.In h):h.Ns N (nsMapK K N):=by
 unfold isNsK at e;split at e
 ·rename_i c d es ep sl q;refine⟨_,es,ep,X _ _ q,rfl,λx g=>?_,λf=>?_⟩
  ·have hx':=Eu.mp e x (Tf.mpr g);unfold strKey at hx';split at hx'
   ·grind
   ·cases hx'
  ·unfold nsMapK;rw[q]
 ·cases e
def z4j{K:Ah}(e:Gz K N name=some (some v)):nsMapK K N name=some v:=by
 unfold Gz at e;unfold nsMapK;split at e
 ·rename_i c d es ep sl q;rw[q];dsimp only;split at e
  ·rename_i x hx;unfold nsFind findBy;rw[<- Pb,hx];exact Cu e
  ·split at e<;>cases e
 ·cases e
def q7y{K:Ah}(e:Gz K N name=some none):nsMapK K N name=none:=by
 unfold Gz at e;unfold nsMapK;split at e
 ·rename_i c d es ep sl q;rw[q];dsimp only;split at e
  ·cases e
  ·rename_i hx;unfold nsFind findBy;rw[<- Pb,hx];rfl
 ·cases e
def z0f{K:Ah}(l:K.lookup N=some ⟨oc,od,.dict es ep,sl⟩)(h:es.toList.all strKey=true):isNsK K N=true:=by
 unfold isNsK;rw[l];exact h
structure EBase (K:Ah) (D:Addr):Prop where
 ex:∃nm q N bs sn sub ab col dd k0 k1 k2 k3 k5,K.lookup D=some (Ds nm q D N bs bmV true sn sub ab col dd k0 k1 k2 k3 k5 "ValueError.__new__")/\isNsK K N=true/\Gz K N "__init__" = some none
def EBase.tail{K:Ah}(B:EBase K D)(h:Heap)(X:K.In h):Ou h bmV (.ref D::bmV):=by
 obtain⟨nm,q,N,bs,s,f,u,g,dd,v,C,E,F,G,j,hn,o⟩:=B.ex;exact .own (X _ _ j) (ns_K hn h X) (q7y o) .base
structure ELaw (K:Ah) (C D fI:Addr):Prop where
 ex:∃nm q N bs sn sub ab col dd k0 k1 k2 k3 k5,K.lookup C=some (Ds nm q C N bs (.ref D::bmV) true sn sub ab col dd k0 k1 k2 k3 k5 "ValueError.__new__")/\isNsK K N=true/\Gz K N "__init__" = some (some (.ref fI))
 fn:∃oI,K.lookup fI=some oI/\oI.cls=.type "function"
 kp:Ff K (.ref C)=true
section
variable{K:Ah}{C D fI:Addr}
def ELaw.mk_(L:ELaw K C D fI)(B:EBase K D):EMk K C fI (.ref D::bmV):=by
 obtain⟨nm,q,N,bs,j,f,o,g,dd,s,u,v,E,F,G,hn,H⟩:=L.ex;exact⟨⟨nm,q,N,bs,true,j,f,o,g,dd,s,u,v,E,F,nsMapK K N,G,ns_K hn,z4j H⟩,λh X=>B.tail h X,L.fn,L.kp⟩
def ELaw.cls(L:ELaw K C D fI):ECls K C (.ref D::bmV):=by
 obtain⟨nm,q,N,bs,h,f,j,g,dd,o,s,u,v,B,E,_⟩:=L.ex;exact⟨⟨nm,q,N,bs,true,h,f,j,g,dd,o,s,u,v,B,_,E⟩,by rw[Jg,show bmV.contains (.type "BaseException")=true from by decide,Qz]⟩
def ELaw.clsIn(L:ELaw K C D fI):∃f,Nf K C=some f/\ExMro f.mro/\f.hasDict=true:=by
 obtain⟨nm,q,N,bs,o,g,s,h,dd,u,v,B,E,F,j,_⟩:=L.ex;unfold Nf;rw[j];exact⟨_,rfl,⟨[C,D],rfl⟩,rfl⟩
def ELaw.set(L:ELaw K C D fI)(sa:Bq K (.ref C) "__setattr__" = some (some (.builtin "object.__setattr__")))(tk:Bq K (.ref C) f=some none):ESet K C f:=⟨L.clsIn,sa,tk⟩
def ELaw.get(L:ELaw K C D fI)(ga:Bq K (.ref C) "__getattribute__" = some (some (.builtin "BaseException.__getattribute__")))(gh:Bq K (.ref C) "__getattr__" = some none)(tk:Bq K (.ref C) f=some none):EGet K C f:=⟨L.clsIn,ga,gh,tk⟩
end
structure CalE (P:Ak) (w:World) (K:Ah) (mg:Str->Option Value) (base:Heap) (x:Str) (C:Addr) (k:Nat) (ps:List Str) (sp:Sp):Prop where
 ex:∃fI fd bm,EMk K C fI bm/\FnOk P w K mg base CX0 k fI fd ps sp/\Binds K fd ps []
 at_:mg x=some (.ref C)
 sz:ps.length<=100
section
variable{X:Cx}{J:Addr->St->Hp->Prop}{k j:Nat}{C:Addr}{ps:List Str}{sp:Sp}{x:Str}{np cpos pos:Pos}{e₀:Expr}{es:List Expr}{t:TA}
def z4k(F:CalE X.prog X.w X.K X.mg X.base x C k ps sp)(o:Room j X.A)(s:AccX X J)(u:X.calm=true)(ha:PA X (e₀::es) t)(f:k+1<=j:=by decide)(v:Gl X x:=by rfl)(g:(x==("__debug__" : Str))=false:=by decide)(B:Bc (e₀::es) X.env=(false,eval e₀ X.env)::Bc es X.env:=by rfl)(h:(Ew cpos (Bc es X.env)).any (·.1)=false:=by rfl):
  PS X (.Raise (some (.Call (.Name x np) (e₀::es) [] cpos)) none pos) (tRaise C sp J t):=by
 obtain⟨G,fd,H,M,D,E⟩:=F.ex;exact x3i M D (o.mono f) E s u v F.at_ ha F.sz g B h
end
noncomputable def spIni1(C:Addr)(f:Str):Sp:=λvs H Q _=>∃ea v,vs=[.ref ea,v]/\H ea=some (ExN (.ref C) none ea)/\(∃n:Nat,v=.int (n:Int)/\n<=10^12)/\∀d,H d=none->d≠ea->Q .non (upd (upd (upd H d (XdO d [])) ea (ExN (.ref C) (some d) ea)) d (XdO d [(f,v)]))
structure Rfd (H:Hp) (ea C:Addr) (f:Str) (v:V):Prop where
 ex:∃d,H ea=some (ExO (.ref C) (some d) ea)/\H d=some (XdO d [(f,v)])
def raised1(hd:upd H1 ea (ExN (.ref C) none ea) d=none)(g:d≠ea):
  ∃dd,(upd (upd (upd (upd H1 ea (ExN (.ref C) none ea)) d (XdO d [])) ea (ExN (.ref C) (some d) ea)) d (XdO d [(f,v)])) ea=some (ExN (.ref C) dd ea) /\
   Rfd (upd (upd (upd (upd (upd H1 ea (ExN (.ref C) none ea)) d (XdO d [])) ea (ExN (.ref C) (some d) ea)) d (XdO d [(f,v)])) ea (ExO (.ref C) dd ea)) ea C f v:=by
 refine⟨some d,?_,d,?_,?_⟩
 ·rw[q0f (Bz g),q0d]
 ·rw[q0d]
 ·rw[q0f g,q0d]
structure Ef (K:Ah) (mg:Str->Option Value) (x:Str) (C D:Addr) (qual:Str) (st:Stmt) (ps:List Str):Prop where
 ex:∃f fd mc,Fun K "__init__" qual st f fd/\ELaw K C D f/\EBase K D/\EIni K D mc/\Binds K fd ps []
 at_:mg x=some (.ref C)
def Ef.cal{K:Ah}{st:Stmt}(F:Ef K mg x C D qual st ps)(S:FnScope N ps (defScope st))(len:∀vs H Q E,sp vs H Q E->vs.length=ps.length)(o:ps.length<=100)(j:∀(u:Value) (f:Addr) (g:Value) (A:Around) (outer:List Env) (s:Ag) (H:Hp) (vs:List V) (Q:VK) (E:XK),ELow K C (.ref D::bmV)->EIni K D u->Room k (A.deeper (Hx qual (defScope st) s.heap.objs.size f g))->sp vs H Q E ->
   ∃t,PSs (cxOf CX0 P w K mg base N qual (defScope st) f g A outer s H E).nox (defBody st) t/\t { nx:=λ_ H'=>Q .non H',rt:=Q } (start N vs) H):CalE P w K mg base x C (k+1) ps sp:=by
 obtain⟨f,fd,u,v,L,B,I,G⟩:=F.ex;exact⟨⟨f,fd,_,L.mk_ B,v.ok S len λg A outer s H vs Q E J h=>j u f g A outer s H vs Q E (L.mk_ B).low I J h,G⟩,F.at_,o⟩
structure Err (H:Hp) (a C:Addr):Prop where
 ex:∃dd,(H a=some (ExO (.ref C) dd a)\/H a=some (ExN (.ref C) dd a))/\(dd=none\/∃d fs,dd=some d/\H d=some (XdO d fs))
def Rfd.err(r:Rfd H ea C f v):Err H ea C:=by
 obtain⟨d,g,h⟩:=r.ex;exact⟨some d,.inl g,.inr ⟨d,_,rfl,h⟩⟩
def Err.same(r:Err H ea C)(sm:∀b o,H b=some o->H' b=some o):Err H' ea C:=by
 obtain⟨dd,g,f⟩:=r.ex;refine⟨dd,g.imp (sm _ _) (sm _ _),?_⟩;rcases f with f|⟨d,fs,f,h⟩
 ·exact .inl f
 ·exact .inr ⟨d,fs,f,sm _ _ h⟩
theorem q5y:∀{cs:List Addr} {us:List Value},Vals (cs.map V.ref) us->us=cs.map Value.ref
 |[],_,.nil=>rfl
 |c::cs,_,.cons r t=>by
  have h:_=Value.ref c:=r;rw[h,q5y t,Ar]
section
variable{X:Cx}
def q4k(K:Ah)(P:X.K=K):CallR X (.builtin "isinstance") (λxs H Q=>∃a C b,(∃c,xs=[.ref a,c]/\((∃D,c=.ref D/\Fg K (.ref C) (.ref D)=some b)\/(∃n,c=.ty n/\Fg K (.ref C) (.type n)=some b)\/∃(T:Addr) (E:List Addr),c=.ref T/\SqT K H T (E.map V.ref)/\Dz K (.ref C) (E.map Value.ref)=some b))/\Err H a C/\EIsi K C/\Q (.bl b) H):=by
 subst P;intro O s σ H xs us Q I r h;obtain⟨a,C,b,⟨c,rfl,R⟩,⟨dd,ha,F⟩,G,q⟩:=h;obtain⟨u,v,rfl,S,J⟩:=r.two;obtain rfl:u=Value.ref a:=S;have f:∃U g,La s.heap a U C g:=by
  have Y:∃vs j,s.heap.get? a=some { cls:=.ref C,dict:=dd,data:=.fields vs,slots:=j }:=by
   rcases ha with L|L
   ·obtain⟨⟨vs,j,B,_⟩,_,_⟩:=I.hok a _ L;exact⟨vs,j,B⟩
   ·obtain⟨⟨vs,j,B,_⟩,_,_⟩:=I.hok a _ L;exact⟨vs,j,B⟩
  obtain⟨vs,j,B⟩:=Y;rcases F with rfl|⟨d,fs,rfl,hd⟩
  ·exact⟨_,none,B,rfl,rfl,trivial⟩
  ·obtain⟨_,⟨g,M⟩,_⟩:=I.hok d _ hd;exact⟨_,some g,B,rfl,rfl,M⟩
 rcases R with⟨D,rfl,e⟩|⟨n,rfl,e⟩|⟨T,E,rfl,Z,e⟩
 ·obtain rfl:v=Value.ref D:=J;exact Gw (z0e G) I.kIn f e (λz=>nomatch z) λtk=>⟨.bl b,H,I.tok _,rfl,q⟩
 ·obtain rfl:v=Value.type n:=J;exact Gw (z0e G) I.kIn f e (λz=>nomatch z) λtk=>⟨.bl b,H,I.tok _,rfl,q⟩
 ·obtain rfl:v=Value.ref T:=J;obtain⟨a0,r',⟨o,ho,oc,n,g⟩,_⟩:=I.tuple Z;rw[q5y r'] at g;obtain⟨c0,d0,a1,a2⟩:=o;subst oc;subst g;exact W.kia_tup (z0e G) I.kIn f ho e (λz=>nomatch z) λtk=>⟨.bl b,H,I.tok _,rfl,q⟩
end
noncomputable abbrev TF:=St->Hp->(Str->Hp->Prop)->Prop
noncomputable def PF1(X:Cx)(e:Expr)(t:TF):Prop:=∀(pins:List (Addr×Obj)) (s:Ag) (σ:St) (H:Hp) (R:Str->Hp->Prop),Inv X pins σ H s->t σ H R ->
 wpAny (model X.prog X.w) X.A (eval e X.env) (λv s1=>∃y k H1,v=.str y k/\Inv X pins σ H1 s1/\R y H1) X.xe s
noncomputable def PFs(X:Cx):List Expr->List TF->Prop
 |[],[]=>True
 |e::es,t::ts=>PF1 X e t/\PFs X es ts
 |_,_=>False
noncomputable def tFs:List TF->Str->St->Hp->VK->Prop
 |[],acc,_,H,Q=>acc.length<=sizeLine/\Q (.str acc) H
 |t::ts,acc,σ,H,Q=>t σ H λy H1=>(acc++y).length<=sizeLine/\tFs ts (acc++y) σ H1 Q
section
variable{X:Cx}
def x3j{o:St}:∀{ts:List TF} {g:List Expr} {acc:Str} {H:Hp} {s:Ag},PFs X g ts->Inv X pins o H s->tFs ts acc o H Q ->
  Joins (model X.prog X.w) X.A X.xe (evalEach g X.env) acc (λout f=>out.length<=sizeLine/\EP X pins o Q (.str out f.toks) { f with toks:=f.toks+1 }) s:=by
 intro ts;induction ts with
 |nil =>
  intro g acc H s j I h;cases g with
  |nil=>exact⟨h.1,.str acc,H,I.tok _,⟨_,rfl⟩,h.2⟩
  |cons e g=>exact False.elim j
 |cons t ts ih =>
  intro g acc H s j I h;cases g with
  |nil=>exact False.elim j
  |cons e g =>
   refine Cb (j.1 pins s o H _ I h) (λv D z=>?_) λ_ _ z=>z;obtain⟨y,k,E,u,B,C,q⟩:=z;exact⟨y,k,u,C,ih j.2 B q⟩
def q5z{j o:Expr}{rest:List Expr}{u:Pos}{f g:TF}{ts:List TF}(C:PF1 X j f)(D:PF1 X o g)(E:PFs X rest ts):PE X (.JoinedStr (j::o::rest) u) (λv H Q=>tFs (f::g::ts) Lb v H Q):=by
 intro B s v H Q I h;exact wpAny_JoinedStr (x3j (ts:=f::g::ts) ⟨C,D,E⟩ I h)
def q6a:PFs X [] []:=trivial
def q5n{e:Expr}{f:List Expr}{t:TF}{ts:List TF}(h:PF1 X e t)(r:PFs X f ts):PFs X (e::f) (t::ts):=⟨h,r⟩
noncomputable def tFv(te:TE):TF:=λσ H R=>te σ H λv H1=>(∃x,v=.str x/\x.length<=sizeLine/\R x H1)\/∃n:Nat,v=.int (n:Int)/\n<=10^12/\R (Ab (toString (n:Int))) H1
def x0d{n:Nat}(h:n<=10^12):(n:Int).natAbs.log2<1920:=by
 rw[Vf];by_cases f:n=0
 ·subst f;decide
 ·rw[Nat.log2_lt f];exact Li h (Bo (by decide:10^12<2^64) (Od (by decide) (by decide)))
def z5u{e:Expr}{g:Pos}{j:TE}(D:PE X e j):PF1 X (.FormattedValue e (-1) none g) (tFv j):=by
 intro f s E H R I h;refine Tu (thnE (D f s E H _ I h) λu J v o B C q=>?_);rcases q with⟨x,rfl,F,q⟩|⟨n,rfl,hn,q⟩
 ·obtain⟨t,rfl⟩:=C;exact formatField_str (λG tk=>⟨x,G,o,rfl,B.tok _,q⟩) F
 ·obtain⟨t,rfl⟩:=C;exact formatField_int_small (x0d hn) ⟨_,_,o,rfl,B.tok _,q⟩
def q4l:PF1 X (.Constant (.str c) k pos) (λ_ H R=>R c H):=by
 intro f s j H R I h;exact thnE (q0i f s j H (λv g=>∃y,v=.str y/\R y g) I ⟨c,rfl,h⟩) λu D v g o B ⟨y,C,q⟩=>by
  subst C;obtain⟨t,rfl⟩:=B;exact⟨y,t,g,rfl,o,q⟩
end
theorem x0e{K:Ah}{H:Hp}:∀xs:List Str,Dts K H (xs.map V.str) (xs.map Cv.str)
 |[]=>.nil
 |x::xs=>.cons (.str x) (x0e xs)
theorem x0f:∀xs:List Str,Pl (xs.map Cv.str)=true
 |[]=>rfl
 |x::xs=>by
  rw[Ar];unfold Pl Cv.showable;rw[x0f xs];rfl
theorem x0g:∀xs:List Str,Wd (xs.map Cv.str)=false
 |[]=>rfl
 |x::xs=>by
  rw[Ar];unfold Wd Cv.hasDict;rw[x0g xs];rfl
theorem x0h:∀xs:List Str,Jh (xs.map Cv.str)<=2
 |[]=>by simp[Jh]
 |x::xs=>by
  have:=x0h xs;rw[Ar];simp only[Jh,Oe];lia
theorem z2q:∀xs:List Str,(∀x∈xs,x.length<=100/\∀c∈x.cps.toList,c<16^8)->piled (Kw (xs.map Cv.str))<=1004*xs.length
 |[],_=>by simp[Kw,piled]
 |x::xs,h=>by
  have j:=z2q xs λy f=>h y (Ap _ f);obtain⟨o,g⟩:=h x Av;have s:=StrLaws.reprText_len x g;rw[Ar];unfold Kw;rw[piled_cons,Be];show(reprText x).length+2+_<=_;lia
def q7z(x y:Str):(x++y).length=x.length+y.length:=TX.app_len x y
def z0g:(tupleText ts).length<=piled ts+10:=by
 unfold tupleText;rw[q7z,q7z];have g:(Ab "(").length=1:=by trivial
 have h:(To ", " ts).length<=piled ts:=by
  cases ts with
  |nil=>show(To ", " []).length<=_;decide +kernel
  |cons t ts=>have:=join_length_add (t::ts) (by simp);lia
 have f:∀b:Bool,(Ab (if b=true then ",)" else ")" : String)).length<=2:=by intro b;cases b<;>decide +kernel
 have j:=f (ts.length==1);lia
section
variable{X:Cx}{k:Nat}
noncomputable def tFt(K:Ah)(te:TE):TF:=λσ H R=>te σ H λv H1=>∃(a:Addr) (xs:List Str),v=.ref a/\SqT K H1 a (xs.map V.str)/\xs.length<=100/\(∀x∈xs,x.length<=100/\∀c∈x.cps.toList,c<16^8)/\∀y:Str,y.length<=200000->R y H1
def x0i(K:Ah)(D:X.K=K)(j:Room k X.A)(E:PE X e te):PF1 X (.FormattedValue e (-1) none pos) (tFt K te):=by
 subst D;intro g s F H R I h;refine Tu (thnE (E g s F H _ I h) λu P v G B J L=>?_);obtain⟨a,f,M,ha,hl,O,q⟩:=L;subst M;obtain rfl:u=Value.ref a:=J;obtain⟨as,rd⟩:=Dt.reads B (.tup ha (x0e f)) (show RelV (.ref a) (.ref a) from rfl);have Q:=j.un;have hd:(Cv.tuple (f.map Cv.str)).depth<=3:=by
  have:=x0h f;simp only[Oe];lia
 have C:(Cv.tuple (f.map Cv.str)).shown.length<=200000:=by
  show(tupleText (Kw (f.map Cv.str))).length<=_;have S:=z0g (ts:=Kw (f.map Cv.str));have T:=z2q f O;lia
 refine formatField_of_reads rd (show Pl _=true from x0f f) (λz=>?_) j.gd (by lia) (λb o h=>h) (λU u tk hk=>⟨_,u,G,rfl,B.kept hk,q _ C⟩) (Bg C (TX.small (by lia)));rw[show(Cv.tuple (f.map Cv.str)).hasDict=false from x0g f] at z;cases z
end
section
variable{prog:Ak}{w:World}{A:Around}{E:Value->Ag->Prop}{h:Heap}{g:Array Td}{d:Drawn}{t:Nat}{os:Lo}
variable{nm q:Str}{C N:Addr}{bs bm bmB:List Value}{hdct:Bool}{sn:List Str}{sub:List Value}{ab:Bool}{col:Option Bool}{dd:Option Addr}{k0 k1 k2 k3 k5:Option Value}{B newId initId:String}
def q6p(F:Oc B newId initId bmB)(T:Ou h bmB bm){rest:List Value}(G:h.get? C=some (Ds nm q C N bs bm hdct sn sub ab col dd k0 k1 k2 k3 k5 newId))(hn:h.Ns N mN)(R:mN "__init__" = none)(S:∀h' e,Ov h h' e (.ref C) rest->h.objs.size<=e ->
   Q (.done (.ret (.ref e))) ⟨h',g,d,t,os⟩)(j:rest.length<=sizeLine:=by size_fits):
  wpAny (model prog w) A (Du.«type.__call__» ⟨.ref C::rest,[]⟩) Q E ⟨h,g,d,t,os⟩:=by
 repeat (first|with_reducible refine Eo G ?_|with_reducible refine wpAny_madeBy_exc G ?_|wp_step)
 refine Qo (Jc _ F.quiet) (Tq F T G ?_);refine Tr F T G ?_ j;have f:=Ae { cls:=.ref C,data:=.fields #[.ref h.objs.size,.none,.none,.none,.bool false,.none] }
  (Ae { cls:=.type "tuple",data:=.seq rest.toArray } G)
 have v:((h.push { cls:=.type "tuple",data:=.seq rest.toArray }).push { cls:=.ref C,data:=.fields #[.ref h.objs.size,.none,.none,.none,.bool false,.none] }).Ns N mN :=
  let ⟨o,U,W,e,r⟩:=hn;⟨o,U,W,Ae _ (Ae _ e),r⟩
 have s:((h.push { cls:=.type "tuple",data:=.seq rest.toArray }).push
   { cls:=.ref C,data:=.fields #[.ref h.objs.size,.none,.none,.none,.bool false,.none] }).get? (h.objs.size+1)=some
   { cls:=.ref C,data:=.fields #[.ref h.objs.size,.none,.none,.none,.bool false,.none] }:=by heap_get
 have u:=T.keeps (h':=(h.push { cls:=.type "tuple",data:=.seq rest.toArray }).push { cls:=.ref C,data:=.fields #[.ref h.objs.size,.none,.none,.none,.bool false,.none] })
  λb o e=>Ae _ (Ae _ e)
 have J:(Value.ref C::bm).contains (.ref C)=true:=by simp
 repeat (first|with_reducible refine Eo s ?_|(with_reducible refine Iy f ?_;rw[J])|wp_step)
 refine Sz f v u F.mroIs F.init.lookup ?_;rw[R];refine Cq (Ac ?_);have I:=F.init.bind (.ref (h.objs.size+1));rw[I];refine Ad (Ac (Gk (z2m F u f s rfl j ?_)));have D:=Ae { cls:=.type "tuple",data:=.seq rest.toArray } s;generalize O:(h.push { cls:=.type "tuple",data:=.seq rest.toArray }).push { cls:=.ref C,data:=.fields #[.ref h.objs.size,.none,.none,.none,.bool false,.none] }=P at *;have H:=Er (Fo (·.setIfInBounds 0 (Value.ref P.objs.size))) D rfl;have L:P.objs.size=h.objs.size+2:=by rw[<- O];simp[Heap.push]
 wp_walk
 refine S _ (h.objs.size+1) ⟨λb o I=>?_,Ib (Ii _),P.objs.size,H,Ib (by lia),?_⟩ (Ii _)
 ·have M:=Al I;rw[Bu _ _ (λz=>absurd M (Jf.mpr (by rw[<- z];exact Ii _)))];refine Ae _ ?_;rw[<- O];exact Ae _ (Ae _ I)
 ·rw[Bu _ _ (λz=>absurd (L.symm.trans z.symm) (by lia))];exact Wc rfl rfl
def z4l(F:Oc B newId initId bmB)(T:Ou h bmB bm){rest:List Value}(f:h.get? C=some (Ds nm q C N bs bm hdct sn sub ab col dd k0 k1 k2 k3 k5 newId))(hn:h.Ns N mN)(s:mN "__init__" = none)(u:∀h' e,Ov h h' e (.ref C) rest->h.objs.size<=e ->
   Q (.ref e) ⟨h',g,d,t,os⟩)(j:rest.length<=sizeLine:=by size_fits):
  wpAny (model prog w) A (call (.ref C) rest) Q E ⟨h,g,d,t,os⟩:=by
 have D:=tc_lookup;have G:=tc_bind (.ref C);refine Gk (Rp ?_);repeat (any_goals (first|assumption|with_reducible refine Eo f ?_|wp_step))
 refine⟨rfl,?_⟩;refine Rj (Jc _ (by trivial)) entry_typeCall (Qp f (q6p F T f hn s λh' e v o=>?_));exact u h' e v o
end
structure ELaw0 (K:Ah) (C D:Addr):Prop where
 ex:∃nm q N bs sn sub ab col dd k0 k1 k2 k3 k5,K.lookup C=some (Ds nm q C N bs (.ref D::bmV) true sn sub ab col dd k0 k1 k2 k3 k5 "ValueError.__new__")/\isNsK K N=true/\Gz K N "__init__" = some none
 kp:Ff K (.ref C)=true
 base:EBase K D
def ELaw0.clsIn{K:Ah}(L:ELaw0 K C D):∃f,Nf K C=some f/\ExMro f.mro/\f.hasDict=true:=by
 obtain⟨nm,q,N,bs,o,g,s,h,dd,u,v,B,E,F,j,_⟩:=L.ex;unfold Nf;rw[j];exact⟨_,rfl,⟨[C,D],rfl⟩,rfl⟩
section
variable{X:Cx}{J:Addr->St->Hp->Prop}{C D:Addr}{x:Str}{np cpos pos:Pos}{e₀:Expr}{es:List Expr}{t:TA}
noncomputable def tRaise0(C:Addr)(J:Addr->St->Hp->Prop)(t:TA):TS:=λ_ σ H=>t σ H λvs H1=>vs.length<=100/\∀ea,H1 ea=none->J ea σ (upd (upd H1 ea (ExN (.ref C) none ea)) ea (ExO (.ref C) none ea))
def q3o(M:ELaw0 X.K C D)(hx:AccX X J)(S:X.calm=true)(hm:X.mg x=some (.ref C))(ha:PA X (e₀::es) t)(hg:Gl X x:=by rfl)(U:(x==("__debug__" : Str))=false:=by decide)(he:Bc (e₀::es) X.env=(false,eval e₀ X.env)::Bc es X.env:=by rfl)(W:(Ew cpos (Bc es X.env)).any (·.1)=false:=by rfl):
  PS X (.Raise (some (.Call (.Name x np) (e₀::es) [] cpos)) none pos) (tRaise0 C J t):=by
 intro B s Y H Dn I h;obtain⟨nm,q,N,bs,sn,Z,ab,a0,dd,k0,k1,k2,k3,k5,lk,hN,hi⟩:=M.ex;have F:wpAny (model X.prog X.w) X.A (eval (.Call (.Name x np) (e₀::es) [] cpos) X.env) (λv f=>∃e de vs O,v=.ref e/\f.heap.get? C=some (Ds nm q C N bs (.ref D::bmV) true sn Z ab a0 dd k0 k1 k2 k3 k5 "ValueError.__new__") /\
   f.heap.get? e=some { cls:=.ref C,dict:=de,data:=.fields vs,slots:=O }/\vs[1]?=some .none/\X.xe (.ref e) f) X.xe s:=by
  refine Fj (q2q I hg hm ?_ U);refine Le I.ok.mod.kin M.kp (thn (ha cpos B s Y H _ I h) λus s1 ⟨vs,H1,P,r,a2,hq⟩=>⟨P.kIn,?_⟩) he W;obtain⟨hp,g,dr,tk,os⟩:=s1;have KX:=P.kIn;have a1:us.length<=sizeLine:=by
   rw[<- r.length,Et];lia
  refine z4l Km (M.base.tail hp KX) (KX _ _ lk) (ns_K hN hp KX) (q7y hi) λh' e Q G=>?_;have L:=P.hok.fresh G;obtain⟨t0,E,_,_⟩:=Q.there;have I2:Inv X B Y (upd H1 e (ExN (.ref C) none e)) ⟨h',g,dr,tk,os⟩:=P.laid (h':=h') (t':=tk) (λb u q=>Q.keeps b u q) G ⟨⟨_,_,E,rfl,rfl⟩,⟨_,E⟩,λh1 h2 ⟨R,O,k1,k2⟩ k=>⟨R,O,k _ k1,k2⟩⟩;have j:=hq e L;have hE:upd H1 e (ExN (.ref C) none e) e=some (ExN (.ref C) none e):=q0d;obtain⟨⟨R,O,q1,q2,q3⟩,_,_⟩:=I2.hok e _ hE;refine⟨e,none,R,O,rfl,I2.kIn _ _ lk,q1,q3,hx.acc _ _ ⟨B,Y,_,e,rfl,I2.asO hE,⟨⟨_,_,q0d⟩,⟨_,R,q1,rfl,.inl q3,λT hT=>?_⟩,Bg P.sz G⟩,j⟩⟩;rw[q3] at hT;cases hT
 have o:=(M.base.tail _ I.kIn).hasType (show bmV.contains (.type "BaseException")=true by decide);first
  |exact Ac (De (raiseX o (I.ok.hd S) (Ac (Cb F (λv f z=>Ac (De (Ad z))) λ_ _ z=>z))))
  |(simp only[evalOpt,Option.map];exact Ac (De (raiseX o (I.ok.hd S) (Ac (Cb F (λv f z=>Ac (De (Ad z))) λ_ _ z=>z)))))
  |exact Ac (De (raiseX o (I.ok.hd S) F))
end
section
variable{X:Cx}{pins:List (Addr×Obj)}{σ:St}{H:Hp}{s:Ag}
noncomputable def Lnd(h:Heap)(ea:Addr):Prop:=∃oe vs T,h.get? ea=some oe/\oe.data=.fields vs/\TbAt h ea vs T .none
def x0j{g:Addr}{j:Obj}{vs:Array Value}{T:Addr}{fl:Value}{M:Around}{O:Value->Ag->Prop}{Q:Unit->Ag->Prop}(I:Inv X pins σ H s)(F:FlX X pins H s g)(e:s.heap.get? g=some j)(d:j.data=.fields vs)(t:TbAt s.heap g vs T fl)(k:∀h',Inv X pins σ H { s with heap:=h' }->FlX X pins H { s with heap:=h' } g->Lnd h' g->Q () { s with heap:=h' }):wpAny (model X.prog X.w) M (setFlight (.ref g) none) Q O s:=by
 have u:T∉frs X.stack:=λP=>by
  obtain⟨_,_,oT,R,S,U,_⟩:=t;obtain⟨_,o,h,v⟩:=I.stack.mem P;rw[S] at h;injection h with h;subst h;exact v R U
 obtain⟨B,C,J,L,_,D⟩:=F.tb;have q:B=j/\C=vs:=by
  rw[e] at J;injection J with z;subst z;rw[d] at L;injection L with y;exact⟨rfl,y.symm⟩
 obtain⟨rfl,rfl⟩:=q;refine flightX (f:=none) e d t u λW Y=>?_
 obtain⟨Z,F3,E,G,T3,e3,d3,t3⟩:=I.leftX F e d (.inl rfl) D Y;exact k W Z F3 ⟨E,G,T3,e3,d3,t3⟩
noncomputable def PH(X:Cx)(hs:List ExceptHandler)(t:Addr->TS):Prop:=∀ea pins s σ H D E,X.Ok->Inv X pins σ H s->FlX X pins H s ea->Lnd s.heap ea->t ea D σ H->wpAny (model X.prog X.w) X.A (handleBy (.ref ea) X.env hs) (SP X pins D) E s
noncomputable def tTryH(th:Addr->TS)(tb:(Addr->St->Hp->Prop)->TS):TS:=λD σ H=>∃J:Addr->St->Hp->Prop,(∀ea σ' H',J ea σ' H'->th ea D σ' H')/\tb J D σ H
def x6t{o:List Stmt}{B:ExceptHandler}{U:List ExceptHandler}{Q:Pos}{tb:(Addr->St->Hp->Prop)->TS}{W:Addr->TS}(C:X.stack=X.env::X.outer)(hf:X.env.frame=some X.env.locals)(hb:∀pn J,PSs ((X.pinned pn).wish (XE (X.pinned pn) J)) o (tb J))(hh:PH X (B::U) W):PS X (.Try o (B::U) [] [] Q) (tTryH W tb):=by
 intro h s σ H D I ⟨J,hJ,q⟩;refine wpAny_Try_except (Cb (hb (X.pn++h) J [] s σ H D (I.toPn.wish _) q) (λf R z=>?_) λe R z=>?_)
 ·have z':=z.unwish;have M:SP X h D f R:=by
   cases f with
   |next=>obtain⟨g,E,F,G⟩:=z';exact⟨g,E,F.ofPn,G⟩
   |brk=>obtain⟨g,E,F,G⟩:=z';exact⟨g,E,F.ofPn,G⟩
   |cont=>obtain⟨g,E,F,G⟩:=z';exact⟨g,E,F.ofPn,G⟩
   |ret u=>obtain⟨v,g,E,F,r,G⟩:=z';exact⟨v,g,E,F.ofPn,r,G⟩
  cases f with
  |next=>exact Kr M
  |ret v=>exact M
  |brk=>exact M
  |cont=>exact M
 ·obtain⟨S,L,Y,Z,rfl,O,P,j⟩:=z;have O:=O.ofPn;have P:=P.ofPn;obtain⟨oe,vs,he,hd,ht,hT⟩:=P.tb;have T:X.A.frames=some (X.env::X.outer):=by rw[<- C];exact I.ok.frames
  have hl:R.heap.FunFrames X.base (X.env::X.outer):=by rw[<- C];exact O.stack
  refine noteX T hl hf he hd ht λh2 L2=>?_;rw[<- x5f C] at L2;obtain⟨I2,F2,a0,a1,T2,e2,d2,t2⟩:=O.leftX P he hd (.inr rfl) hT L2;exact x0j I2 F2 e2 d2 t2 λh3 I3 F3 l3=>hh Z h _ L Y D _ I.ok I3 F3 l3 (hJ Z L Y j)
noncomputable def subE(c:Addr)(bm:List Value)(C:Addr):Bool:=(Value.ref c::bm).contains (.ref C)
def cls_at{c:Addr}{dd:Option Addr}{f:Addr}(I:Inv X pins σ H s)(h:H f=some (ExO (.ref c) dd f)):∃g,s.heap.get? f=some g/\g.cls=.ref c:=by
 obtain⟨⟨j,o,z,_⟩,_,_⟩:=I.hok f _ h;exact⟨_,z,rfl⟩
def ph_nil:PH X [] (λ_ _ _ _=>False):=λ_ _ _ _ _ _ _ _ _ _ _ h=>h.elim
noncomputable def hAs(K:Ah)(i:Nat)(C:Addr)(th:TS)(tr:Addr->TS):Addr->TS:=λea D σ H=>∃c bm dd,H ea=some (ExO (.ref c) dd ea)/\ECls K c bm/\if subE c bm C=true then th (gone i D) (σ.set i (some (.ref ea))) H else tr ea D σ H
def x0k{g:List Stmt}{j:Stmt}{dn n:Str}{i:Nat}{C:Addr}{R:List Value}{dp hp:Pos}{rest:List ExceptHandler}{th:TS}{tr:Addr->TS}(K:Ah)(hK:X.K=K)(O:X.N.Nodup)(P:X.N[i]?=some n)(hk:X.env.scope.names.lookup n=some .local)(hg:Gl X dn)(hm:X.mg dn=some (.ref C))(eC:ECls X.K C R)(hh:∀h,PSs (X.hand h) (j::g) th)(hr:PH X rest tr)(S:(dn==("__debug__" : Str))=false:=by decide):
  PH X (.ExceptHandler (some (.Name dn dp)) (some n) (j::g) hp::rest) (hAs K i C th tr):=by
 subst hK;intro h o s σ H D E ok I F ⟨oe,vs,T,e3,d3,t3⟩ ⟨c,bm,dd,U,W,q⟩;refine wpAny_handleBy_cons (codeAny_handlers_test ?_) (by intro z;cases z);refine q2q (X:=X.hand h) (I.hand h) hg hm ?_ S;obtain⟨nm,q0,N,bs,a1,sn,a5,ab,a6,a7,k0,k1,k2,k3,k5,Y,lk⟩:=W.ex;obtain⟨a8,a9,N',b0,Z,b1,a2,b2,a3,a4,b3,b4,b5,b6,b7,Q,a0⟩:=eC.ex;obtain⟨b8,e4,c4⟩:=cls_at I U;refine excMatchX (I.kIn _ _ lk) (I.kIn _ _ a0) e4 c4 eC.base ?_;cases hs:(Value.ref c::bm).contains (.ref C) with
 |false =>
  unfold subE at q;rw[hs,if_neg (by decide)] at q;exact hr h o s σ H D E ok I F ⟨oe,vs,T,e3,d3,t3⟩ q
 |true =>
 unfold subE at q;rw[hs,if_pos rfl] at q;refine codeAny_handlers_suite_as (x0j I F e3 d3 t3 λh5 I5 F5 _=>?_);refine q6t (X:=X.hand h) (I5.hand h) O P (.inl hk) (show RelV (.ref h) (.ref h) from rfl) (λs6 I6=>?_) (.inr hk);refine Cb (hh h o s6 _ H (gone i D) I6 q) (λf s7 z=>?_) λ_ _ z=>z.elim;cases f with
 |next =>
  obtain⟨B,G,J,L⟩:=z;exact z0d (J.unhand ok) O P hk λs8 M=>⟨_,G,M,L⟩
 |brk =>
  obtain⟨B,G,J,L⟩:=z;exact z0d (J.unhand ok) O P hk λs8 M=>⟨_,G,M,L⟩
 |cont =>
  obtain⟨B,G,J,L⟩:=z;exact z0d (J.unhand ok) O P hk λs8 M=>⟨_,G,M,L⟩
 |ret u =>
  obtain⟨v,B,G,J,r,L⟩:=z;exact z0d (J.unhand ok) O P hk λs8 M=>⟨v,_,G,M,r,L⟩
end
section
variable{P:Ak}{w:World}
noncomputable def IsPairKey(P:Ak)(w:World)(h:Heap)(k:List Key×Key)(a:Addr):Prop:=∃o n b v,h.get? a=some o/\o.cls=.type "tuple" /\ o.data=.seq #[.ref b,v] n/\IsTupleKey (mixKind P w) h k.1 b/\(mixKind P w).is k.2 v=true
def IsPairKey.typeIs{s:Ag}{k:List Key×Key}{a:Addr}(x:IsPairKey P w s.heap k a):s.TypeIs (.ref a) "tuple" := by obtain⟨o,_,_,_,f,g,_⟩:=x;exact⟨o,f,g⟩
def IsPairKey.inj{h:Heap}{a:Addr}{x y:List Key×Key}(u:IsPairKey P w h x a)(B:IsPairKey P w h y a):x=y:=by
 obtain⟨o,n,b,v,C,_,hd,D,E⟩:=u;obtain⟨F,H,I,J,g,_,f,j,s⟩:=B;obtain rfl:o=F:=Cu (C.symm.trans g);rw[hd] at f;injection f with e1 _;have G:=congrArg Array.toList e1;injection G with e3 e4;injection e3 with e3;injection e4 with e4 _;subst e3 e4;exact Wk (D.inj j) ((mixKind P w).inj _ _ _ E s)
def IsPairKey.keeps{h h':Heap}{k:List Key×Key}{a d:Addr}{o:Obj}{es ep}(x:IsPairKey P w h k a)(s:h.get? d=some o)(hd:o.data=.dict es ep)(u:Fx d h h'):IsPairKey P w h' k a:=by
 obtain⟨B,n,b,v,g,C,f,D,E⟩:=x;have j:a≠d:=by
  rintro rfl;obtain rfl:B=o:=Cu (g.symm.trans s);rw[hd] at f;exact nomatch f
 exact⟨B,n,b,v,(u.2 a j).trans g,C,f,D.keeps s hd u,E⟩
noncomputable def pairHash(P:Ak)(w:World)(k:List Key×Key):Int:=reduceHash (Ig [Ip (mixKind P w) k.1,(mixKind P w).hash k.2])
variable{A:Around}{E:Value->Ag->Prop}{s:Ag}
def x0l{k:List Key×Key}{a:Addr}{Q:Int->Ag->Prop}(g:A.units+1<cLine)(hk:IsPairKey P w s.heap k a)(h:Q (pairHash P w k) { s with toks:=s.toks+(k.1.length+3) }):
  wpAny (model P w) A (pyHash (.ref a)) Q E s:=by
 have f:=hk.typeIs;obtain⟨o,n,b,v,j,_,hd,u,B⟩:=hk;unfold pyHash;first|unfold pyHashByItsType|skip
 first|refine Ac (wpAny_cRoomFor_or (.inr (by lia)) ?_)|skip
 refine Ac (Kt f Mh.lookup ?_);show wpAny _ _ (if (some (Value.builtin "tuple.__hash__")==some Value.none)=true then _ else _) Q E s;rw[if_neg (by rw[beq_builtin_none];exact Bl)];refine Ac (Kt f Mh.lookup ?_);show wpAny _ _ (callSpecialIfBoundUnlessNone? (.ref a) "__hash__" _ >>= _) Q E s;refine Ac (wpAny_callSpecialIfBoundUnlessNone?_slot f Mh (By Mh f F.entry_tuple_hash ?_ (F.args_tuple_hash_1 _)));show wpAny _ _ (Ki (.ref a) >>= _) _ _ s;refine Ac (Pm j hd ?_);refine Ac ?_;rw[<- Pn];refine Io _
  (λrest (c:Array Int) s'=>(rest=[.ref b,v]/\c.toList=[]/\s'=s)\/(rest=[v]/\c.toList=[Ip (mixKind P w) k.1]/\s'={ s with toks:=s.toks+(k.1.length+1) }) \/
   (rest=[]/\c.toList=[Ip (mixKind P w) k.1,(mixKind P w).hash k.2]/\s'={ s with toks:=s.toks+(k.1.length+2) }))
  _ ?_ ?_ _ _ (.inl ⟨rfl,rfl,rfl⟩)
 ·rintro x rest c s' (⟨e,hc,rfl⟩|⟨e,hc,rfl⟩|⟨e,_⟩)
  ·cases e;refine Ac (wpAny_pyHash_tuple (Hj (knd:=mixKind P w) g) u ?_);have q:∀{x:Array Int},x=c.push (Ip (mixKind P w) k.1)->x.toList=[Ip (mixKind P w) k.1]:=λe=>by rw[e];simp[hc]
   first
    |exact Ad (.inr (.inl ⟨rfl,q rfl,rfl⟩))
    |exact Ac (Ad (Ad (.inr (.inl ⟨rfl,q rfl,rfl⟩))))
  ·cases e;refine Ac ((mixKind P w).pyHash B ?_);have q:∀{x:Array Int},x=c.push ((mixKind P w).hash k.2)->x.toList=[Ip (mixKind P w) k.1,(mixKind P w).hash k.2]:=λe=>by rw[e];simp[hc]
   first
    |exact Ad (.inr (.inr ⟨rfl,q rfl,rfl⟩))
    |exact Ac (Ad (Ad (.inr (.inr ⟨rfl,q rfl,rfl⟩))))
  ·cases e
 ·rintro c s' (⟨e,_⟩|⟨e,_⟩|⟨_,hc,rfl⟩)
  ·cases e
  ·cases e
  show wpAny _ _ (retInt (Ig c.toList)) _ _ _;rw[hc];refine wpAny_ret_mkInt ?_;show wpAny _ _ (if (decide (-(2:Int)^63<=Ig [Ip (mixKind P w) k.1,(mixKind P w).hash k.2])&&decide (Ig [Ip (mixKind P w) k.1,(mixKind P w).hash k.2]<2^63))=true then _ else _) Q E _;unfold pairHash reduceHash at h;split
  ·rename_i hr;rw[if_pos hr] at h;exact Ad h
  ·rename_i hr;rw[if_neg hr] at h;exact Ac (Hd (Ad h))
def z2r{x y:List Key×Key}{a b:Addr}{R:Fin->Ag->Prop}(O:A.units<cLine)(Q:IsPairKey P w s.heap x a)(J:IsPairKey P w s.heap y b)(h:R (.done (.ret (.bool (decide (x=y))))) s):
  wpAny (model P w) A (Du.«tuple.__eq__» ⟨[.ref a,.ref b],[]⟩) R E s:=by
 have f:=J.typeIs;obtain⟨U,na,S,L,g,_,j,o,B⟩:=Q;obtain⟨W,nb,T,M,C,_,D,F,G⟩:=J;show wpAny _ _ (isInstance (.ref b) (.type "tuple") >>= _) _ _ s;refine Ac (Fz f Ng ?_);simp only[Fp,Bp,if_false];refine Ac (Pm g j ?_);refine Ac (Pm C D ?_);refine Ac ?_;refine Io _
  (λrest r H=>r.1=none/\H=s/\((rest=[(.ref S,.ref T),(L,M)])\/(rest=[(L,M)]/\x.1=y.1)\/(rest=[]/\x=y)))
  _ ?_ ?_ _ _ ⟨rfl,rfl,.inl rfl⟩
 ·rintro⟨u,v⟩ rest r H ⟨hr,rfl,e|⟨e,e1⟩|⟨e,_⟩⟩
  ·cases e;refine Ac (wpAny_eqBool_tuple O o F ?_);by_cases hk:x.1=y.1
   ·rw[decide_eq_true hk];simp only[Fp,Bp,if_false];exact Ad ⟨rfl,rfl,.inr (.inl ⟨by trivial,hk⟩)⟩
   ·rw[decide_eq_false hk];simp only[Ot,if_true];have I:decide (x=y)=false:=decide_eq_false λz=>hk (by rw[z]);rw[I] at h;exact Ac (Ad (Ad (Ad h)))
  ·cases e;refine Ac ((mixKind P w).eqBool (a:=x.2) (b:=y.2) B G ?_);by_cases hk:x.2=y.2
   ·rw[decide_eq_true hk];simp only[Fp,Bp,if_false];exact Ad ⟨rfl,rfl,.inr (.inr ⟨by trivial,Wk e1 hk⟩)⟩
   ·rw[decide_eq_false hk];simp only[Ot,if_true];have I:decide (x=y)=false:=decide_eq_false λz=>hk (by rw[z]);rw[I] at h;exact Ac (Ad (Ad (Ad h)))
  ·cases e
 ·rintro⟨r1,r2⟩ H ⟨hr,rfl,e|⟨e,_⟩|⟨_,e⟩⟩
  ·cases e
  ·cases e
  simp only at hr;subst hr;refine Ad ?_;rw[decide_eq_true e] at h;exact h
def x6u{x y:List Key×Key}{a b:Addr}{Q:Bool->Ag->Prop}(o:A.units+1<cLine)(g:IsPairKey P w s.heap x a)(j:IsPairKey P w s.heap y b)(h:Q (decide (x=y)) s):
  wpAny (model P w) A (eqBool (.ref a) (.ref b)) Q E s:=by
 unfold eqBool;try with_reducible refine Cq ?_
 show wpAny _ _ (if (Value.ref a==Value.ref b)=true then _ else _) Q E s;by_cases f:(Value.ref a==Value.ref b)=true
 ·rw[if_pos f];have e:a=b:=by have:=eq_of_beq f;injection this
  subst e;obtain rfl:=g.inj j;exact Ac (Hd (Ad (by simpa using h)))
 ·rw[if_neg f];exact Ac (wpAny_richCompare_same_room (op:=.Eq) g.typeIs j.typeIs Of
   (By Of g.typeIs F.entry_tuple_eq (z2r (Hj (knd:=mixKind P w) o) g j ⟨_,rfl,(λe=>nomatch e),Em h⟩) (F.args_tuple_eq_2 _ _)) (by lia))
def z4m{n:Nat}{ks:List Key}{a:Addr}{Q:Bool->Ag->Prop}(hk:IsTupleKey (mixKind P w) s.heap ks a)(h:Q true s):wpAny (model P w) A (Vj (n+1) (.ref a)) Q E s:=by
 have D:=hk.typeIs;obtain⟨o,g,m,F,_,hd,G⟩:=hk;unfold Vj;refine Ac (Kt D Of.lookup ?_);show wpAny _ _ (isInstance (.ref a) (.type "tuple") >>= _) _ _ s;refine Ac (Fz D Ng ?_);simp only[Fp,Bp,if_false];refine Ac (Ge F hd ?_);refine Ac ?_;show wpAny _ _ (forIn g _ _) _ _ s;rw[<- Pn];refine Io _ (λrest r j=>r.1=none/\j=s/\∀v∈rest,carriedByValue v=true) _ ?_ ?_ _ _ ⟨rfl,rfl,G.byValue⟩
 ·rintro v rest r j ⟨B,rfl,f⟩;rw[We _ (f v Av)];refine Ac (Ad ?_);simp only[Fp,Bp,if_false];exact Ad ⟨rfl,rfl,λu C=>f u (Ap _ C)⟩
 ·rintro⟨H,I⟩ j ⟨B,rfl,_⟩;simp only at B;subst B;exact Ad h
def z7g{k:List Key×Key}{a:Addr}{Q:Bool->Ag->Prop}(hk:IsPairKey P w s.heap k a)(h:Q true s):wpAny (model P w) A (Vj 8 (.ref a)) Q E s:=by
 have j:=hk.typeIs;obtain⟨o,m,b,v,B,_,hd,C,D⟩:=hk;unfold Vj;refine Ac (Kt j Of.lookup ?_);show wpAny _ _ (isInstance (.ref a) (.type "tuple") >>= _) _ _ s;refine Ac (Fz j Ng ?_);simp only[Fp,Bp,if_false];refine Ac (Ge B hd ?_);refine Ac ?_;show wpAny _ _ (forIn #[Value.ref b,v] _ _) _ _ s;rw[<- Pn];refine Io _ (λrest r f=>r.1=none/\f=s/\(rest=[.ref b,v]\/rest=[v]\/rest=[])) _ ?_ ?_ _ _ ⟨rfl,rfl,.inl rfl⟩
 ·rintro u rest r f ⟨g,rfl,e|e|e⟩
  ·cases e;refine Ac (z4m C ?_);simp only[Fp,Bp,if_false];exact Ad ⟨rfl,rfl,.inr (.inl (by trivial))⟩
  ·cases e;rw[We _ ((mixKind P w).byValue _ _ D)];refine Ac (Ad ?_);simp only[Fp,Bp,if_false];exact Ad ⟨rfl,rfl,.inr (.inr (by trivial))⟩
  ·cases e
 ·rintro⟨F,G⟩ f ⟨g,rfl,_⟩;simp only at g;subst g;exact Ad h
noncomputable def pairKind(P:Ak)(w:World):HeapKind P w (List Key×Key) where
 is:=IsPairKey P w
 hash:=pairHash P w
 draws:=λk=>k.1.length+3
 room:=λA=>A.units+1<cLine
 inj:=λhx hy=>hx.inj hy
 keeps:=λx ho hd hs=>x.keeps ho hd hs
 pyHash:=λhu hk h=>x0l hu hk h
 eqBool:=λhu hx hy h=>x6u hu hx hy h
 quiet:=λhk h=>z7g hk h
end
noncomputable abbrev PKey:=List Key×Key
noncomputable def hasP(ks:List (PKey×Addr))(k:PKey):Bool:=ks.any λx=>decide (x.1=k)
noncomputable def entP(ks:List (PKey×Addr)):List (PKey×Addr×Value):=ks.map λx=>(x.1,x.2,.bool true)
noncomputable def PdO(P:Ak)(w:World)(d:Addr)(ks:List (PKey×Addr)):HO:=.ext λh=>∃o es ep,h.get? d=some o/\o.ExactDict/\o.data=.dict es ep/\es.toList=(entP ks).map (Qh (pairKind P w))/\((entP ks).map (·.1)).Nodup
noncomputable def PrK(H:Hp)(k:PKey)(a:Addr):Prop:=∃c,H a=some (.tup [.ref c,kV k.2])/\H c=some (.tup (k.1.map kV))
structure DPr (P:Ak) (w:World) (H:Hp) (d:Addr) (ks:List (PKey×Addr)):Prop where
 at_:H d=some (PdO P w d ks)
 sys:(d==Dp)=false
 len:ks.length<=sizeLine
 pk:∀x∈ks,PrK H x.1 x.2
section
variable{P:Ak}{w:World}{H:Hp}{h:Heap}{d a:Addr}{ks:List (PKey×Addr)}{k:PKey}
def PrK.of(ok:HOk P w H h)(e:PrK H k a):(pairKind P w).is h k a:=by
 obtain⟨c,f,g⟩:=e;obtain⟨_,j,r,o,s,u,n,v⟩:=(show ObjOk P w H h a (.tup [.ref c,kV k.2]) from ok a _ f)
 cases r with
 |cons r1 r =>
 cases r with
 |cons r2 r =>
 cases r;cases(show _=Value.ref c from r1);exact⟨o,n,c,_,s,u,v,q7o ok g,z1w r2⟩
def DPr.of(x:DPr P w H d ks)(ok:HOk P w H h):h.DictOfH (pairKind P w) d (entP ks):=by
 obtain⟨⟨o,f,g,j,s,u,v,B⟩,_⟩:=(show ObjOk P w H h d (PdO P w d ks) from ok d _ x.at_)
 refine⟨o,f,g,j,s,u,v,λy C=>?_,B⟩;obtain⟨z,D,rfl⟩:=Aw.mp C;exact(x.pk z D).of ok
def q9g:(atKey (entP ks) k).isSome=hasP ks k:=by
 unfold atKey entP hasP;rw[Me];induction ks with
 |nil=>rfl
 |cons x xs ih =>
  rw[Ar,Ca,Kj];cases e:decide (x.1=k)
  ·rw[<- ih];simp[e]
  ·simp[e]
end
def PrK.same{H H':Hp}{k:PKey}{a:Addr}(h:PrK H k a)(s:Same H H'):PrK H' k a:=let ⟨c,f,g⟩:=h;⟨c,s _ _ f,s _ _ g⟩
def DPr.same{P:Ak}{w:World}{H H':Hp}{d:Addr}{ks:List (PKey×Addr)}(x:DPr P w H d ks)(s:Same H H'):DPr P w H' d ks:=⟨s _ _ x.at_,x.sys,x.len,λy f=>(x.pk y f).same s⟩
def DPr.put{P:Ak}{w:World}{H:Hp}{d b:Addr}{ks:List (PKey×Addr)}{k:PKey}(x:DPr P w H d ks)(e:PrK H k b)(l:ks.length<sizeLine):DPr P w (upd H d (PdO P w d (ks++[(k,b)]))) d (ks++[(k,b)]):=by
 have g:∀{c:Addr} {ys:List V},H c=some (.tup ys)->upd H d (PdO P w d (ks++[(k,b)])) c=some (.tup ys):=λ{c ys} e=>by
  rw[q0f (λz=>by rw[z,x.at_] at e;cases e)];exact e
 have pk:∀{k':PKey} {a:Addr},PrK H k' a->PrK (upd H d (PdO P w d (ks++[(k,b)]))) k' a:=λ⟨c,h,j⟩=>⟨c,g h,g j⟩
 refine⟨q0d,x.sys,by rw[Aj];exact l,λy f=>?_⟩;rcases Ba.mp f with f|f
 ·exact pk (x.pk y f)
 ·rw[Ao.mp f];exact pk e
section
variable{X:Cx}
noncomputable def tDNewP(P:Ak)(w:World):TE:=λ_ H Q=>∀p,H p=none->(p==Dp)=false->Q (.ref p) (upd H p (PdO P w p []))
def x3k{f:Pos}(P:Ak)(w:World)(j:X.prog=P)(u:X.w=w):PE X (.Dict [] [] f) (tDNewP P w):=λg s F H Q I h=>by
 subst j u;have v:=I.big;have B:(s.heap.objs.size==Dp)=false:=by rw[beq_eq_false_iff_ne];exact Ex v
 refine Mx ⟨.ref s.heap.objs.size,_,I.laid (o:=PdO X.prog X.w s.heap.objs.size []) (t':=s.toks) (λ_ _ q=>Ae _ q) (Ai _) ⟨⟨_,#[],0,An _ rfl,⟨rfl,rfl,rfl⟩,rfl,rfl,Sq⟩,⟨_,An _ rfl⟩,λG J ⟨o,C,D,E,q⟩ k=>⟨o,C,D,k _ E,q⟩⟩,rfl,h _ (I.hok.fresh (Ai _)) B⟩
noncomputable def tPNotIn(P:Ak)(w:World)(ty td:TE):TE:=λσ H Q=>ty σ H λy H1=>td σ H1 λx H2=>∃d ks b k,x=.ref d/\y=.ref b/\DPr P w H2 d ks/\PrK H2 k b/\Q (.bl (!hasP ks k)) H2
def x0m{i o:Expr}{ty j:TE}(P:Ak)(w:World)(B:X.prog=P)(C:X.w=w)(D:X.A.units+2<cLine)(E:PE X i ty)(F:PE X o j):PC X .NotIn i o (tPNotIn P w ty j):=by
 subst B C;intro f s v H Q I h;refine thnE (E f s v H _ I h) λG J y L M O R=>thnE (F f J v L _ M R) λu s2 x S g T U=>?_;obtain⟨d,W,b,k,ex,Y,dp,pk,Z⟩:=U;subst ex Y;obtain rfl:u=Value.ref d:=T;obtain rfl:G=Value.ref b:=O;refine wpAny_notIn_heap (knd:=pairKind X.prog X.w) D (pk.of g.hok) dp.sys (dp.of g.hok) ?_;rw[q9g];exact⟨.bl (!hasP W k),S,g.tok _,rfl,Z⟩
noncomputable def sPPut(P:Ak)(w:World)(td ty tv:TE):TS:=λD σ H=>tv σ H λv H1=>td σ H1 λx H2=>ty σ H2 λy H3=>∃d ks b k,x=.ref d/\y=.ref b/\v=.bl true/\DPr P w H3 d ks/\PrK H3 k b/\hasP ks k=false/\ks.length<sizeLine/\D.nx σ (upd H3 d (PdO P w d (ks++[(k,b)])))
def x6v{i o f:Expr}{Q ty R:TE}{C j:Pos}(P:Ak)(w:World)(S:X.prog=P)(T:X.w=w)(U:X.A.units+2<cLine)(W:PE X o Q)(Y:PE X i ty)(Z:PE X f R)(F:Jb f (some (.Subscript o i j)) C.line X.env=pure false):
  PS X (.Assign [.Subscript o i j] f C) (sPPut P w Q ty R):=by
 subst S T;intro g s E H D I h;refine Ms (thnE (Z g s E H _ I h) λr s1 v H1 I1 rv G=>thnE (W g s1 E H1 _ I1 G) λu s2 x H2 I2 rx q2=>thnE (Y g s2 E H2 _ I2 q2) λiv s3 y H3 J ry qz=>?_) F;obtain⟨d,B,b,k,ex,ey,ev,dp,pk,nk,lk,q3⟩:=qz;subst ex ey ev;obtain rfl:u=Value.ref d:=rx;obtain rfl:iv=Value.ref b:=ry;obtain rfl:r=Value.bool true:=rv;refine Ph (knd:=pairKind X.prog X.w) U (pk.of J.hok) (dp.of J.hok) (λh' dd F=>?_) (by unfold entP;rw[Af];exact Jl lk);have hn:atKey (entP B) k=none:=by
  have:=q9g (ks:=B) (k:=k);rw[nk] at this;cases e:atKey (entP B) k with
  |none=>rfl
  |some _=>rw[e] at this;cases this
 rw[storedH_new hn] at dd;have ee:entP B++[(k,b,Value.bool true)]=entP (B++[(k,b)]):=by unfold entP;rw[Au];rfl
 rw[ee] at dd;obtain⟨o,L,M,O,e2,e3,e4,_,e5⟩:=dd;refine⟨E,_,J.write (x:=d) (e:=d) (o:=PdO X.prog X.w d (B++[(k,b)])) (by rw[dp.at_];exact True.intro) (.inl rfl) (λc q hc z=>(F.2 c hc).trans z) ⟨o,O⟩ ⟨⟨o,L,M,O,e2,e3,e4,e5⟩,⟨o,O⟩,λh1 h2 ⟨o,L,M,G,q⟩ k=>⟨o,L,M,k _ G,q⟩⟩,q3⟩
end
def z2s{k:Nat}{A:Around}(f:Room k A):A.units+2<cLine:=Li (Uk (by decide:2<=64) _) f.units
open PySem PySem.Spec PyProof.Rows SB
noncomputable abbrev PVal:=PKey×Addr×Addr
structure PKd (P:Ak) (w:World) where
 knd:HeapKind P w PKey
 pr:Hp->PKey->Addr->Prop
 of:∀{H:Hp} {h:Heap} {k:PKey} {a:Addr},HOk P w H h->pr H k a->knd.is h k a
 room:∀{A:Around},A.units+1<cLine->knd.room A
 keep:∀{H H':Hp} {k:PKey} {a:Addr},(∀T xs,H T=some (.tup xs)->H' T=some (.tup xs))->pr H k a->pr H' k a
noncomputable def pkA(P:Ak)(w:World):PKd P w:=⟨pairKind P w,PrK,λok e=>PrK.of ok e,λh=>h,λk ⟨c,e1,e2⟩=>⟨c,k _ _ e1,k _ _ e2⟩⟩
noncomputable abbrev PInt:=PKey×Addr×Int
noncomputable def entIs(ks:List PInt)(es:List (PKey×Addr×Value)):Prop:=es.map (λx=>(x.1,x.2.1))=ks.map (λx=>(x.1,x.2.1))/\∀(i:Nat) (x:PInt),ks[i]?=some x->∃t:Tok,es[i]?=some (x.1,x.2.1,Value.int x.2.2 t)
noncomputable def valI(ks:List PInt)(k:PKey):Option Int:=(ks.find? λx=>decide (x.1=k)).map (·.2.2)
noncomputable def putI(ks:List PInt)(k:PKey)(b:Addr)(v:Int):List PInt:=if (valI ks k).isSome then ks.map λx=>if x.1=k then(x.1,x.2.1,v) else x else ks++[(k,b,v)]
noncomputable def PiO{P:Ak}{w:World}(kd:PKd P w)(d:Addr)(ks:List PInt):HO:=.ext λh=>∃o es ep ents,h.get? d=some o/\o.ExactDict/\o.data=.dict es ep/\es.toList=ents.map (Qh kd.knd)/\(ents.map (·.1)).Nodup/\entIs ks ents
structure DPi {P:Ak} {w:World} (kd:PKd P w) (H:Hp) (d:Addr) (ks:List PInt):Prop where
 at_:H d=some (PiO kd d ks)
 sys:(d==Dp)=false
 len:ks.length<=sizeLine
 pk:∀x∈ks,kd.pr H x.1 x.2.1
section
variable{P:Ak}{w:World}{kd:PKd P w}{H H':Hp}{h:Heap}{d a b:Addr}{ks:List PInt}{k:PKey}{v:Int}
def entIs.mem{f:List (PKey×Addr×Value)}(e:entIs ks f){y:PKey×Addr×Value}(g:y∈f):∃x∈ks,x.1=y.1/\x.2.1=y.2.1:=by
 have:(y.1,y.2.1)∈ks.map (λx=>(x.1,x.2.1)):=by rw[<- e.1];exact Aw.mpr ⟨y,g,rfl⟩
 obtain⟨x,h,q⟩:=Aw.mp this;injection q with q1 q2;exact⟨x,h,q1,q2⟩
def entIs.len{f:List (PKey×Addr×Value)}(e:entIs ks f):f.length=ks.length:=by
 have:=congrArg List.length e.1
 rwa [Af,Af] at this
def entIs.tl{x:PInt}{y:PKey×Addr×Value}{f:List (PKey×Addr×Value)}(e:entIs (x::ks) (y::f)):(∃t,y=(x.1,x.2.1,.int x.2.2 t))/\entIs ks f:=by
 refine⟨?_,?_,λi z g=>?_⟩
 ·obtain⟨t,h⟩:=e.2 0 x rfl;exact⟨t,Cu h⟩
 ·have:=e.1;rw[Ar,Ar] at this;exact(List.cons.inj this).2
 ·obtain⟨t,h⟩:=e.2 (i+1) z g;exact⟨t,h⟩
def entIs.cons{x:PInt}{t:Tok}{f:List (PKey×Addr×Value)}(e:entIs ks f):entIs (x::ks) ((x.1,x.2.1,.int x.2.2 t)::f):=by
 refine⟨by rw[Ar,Ar,e.1],λi z g=>?_⟩;cases i with
 |zero=>cases g;exact⟨t,rfl⟩
 |succ i=>exact e.2 i z g
def entIs.nil:entIs [] []:=⟨rfl,λi z f=>by cases f⟩
theorem entIs.at_:∀{ks:List PInt} {es:List (PKey×Addr×Value)},entIs ks es->(valI ks k=none/\atKey es k=none)\/∃n t a,valI ks k=some n/\atKey es k=some (a,.int n t)
 |[],[],_=>.inl ⟨rfl,rfl⟩
 |[],_::_,e=>by have:=e.len;cases this
 |_::_,[],e=>by have:=e.len;cases this
 |x::ks,y::es,e=>by
  obtain⟨⟨t,rfl⟩,f⟩:=e.tl;unfold valI atKey;rw[Ca,Ca];cases q:decide (x.1=k)
  ·exact entIs.at_ f
  ·exact .inr ⟨x.2.2,t,x.2.1,rfl,rfl⟩
theorem entIs.put:∀{ks:List PInt} {es:List (PKey×Addr×Value)},entIs ks es->entIs (ks.map λx=>if x.1=k then(x.1,x.2.1,v) else x) (es.map (putAt k (.int v t)))
 |[],[],_=>entIs.nil
 |[],_::_,e=>by have:=e.len;cases this
 |_::_,[],e=>by have:=e.len;cases this
 |x::ks,y::es,e=>by
  obtain⟨⟨t,rfl⟩,f⟩:=e.tl;rw[Ar,Ar];unfold putAt;by_cases q:x.1=k
  ·rw[if_pos q,if_pos q];exact(entIs.put f).cons (x:=(x.1,x.2.1,v))
  ·rw[if_neg q,if_neg q];exact(entIs.put f).cons
theorem entIs.snoc:∀{ks:List PInt} {es:List (PKey×Addr×Value)},entIs ks es->entIs (ks++[(k,b,v)]) (es++[(k,b,.int v t)])
 |[],[],_=>entIs.nil.cons (x:=(k,b,v))
 |[],_::_,e=>by have:=e.len;cases this
 |_::_,[],e=>by have:=e.len;cases this
 |x::ks,y::es,e=>by
  obtain⟨⟨t,rfl⟩,f⟩:=e.tl;exact(entIs.snoc f).cons
def DPi.of(x:DPi kd H d ks)(ok:HOk P w H h):∃f,h.DictOfH kd.knd d f/\entIs ks f:=by
 obtain⟨⟨o,j,s,f,u,v,B,C,D,g⟩,_⟩:=(show ObjOk P w H h d (PiO kd d ks) from ok d _ x.at_)
 refine⟨f,⟨o,j,s,u,v,B,C,λy E=>?_,D⟩,g⟩;obtain⟨z,F,G,I⟩:=g.mem E;rw[<- G,<- I];exact kd.of ok (x.pk z F)
def DPi.same(x:DPi kd H d ks)(s:Same H H'):DPi kd H' d ks:=⟨s _ _ x.at_,x.sys,x.len,λy f=>kd.keep (λT g e=>s _ _ e) (x.pk y f)⟩
def x3l{x:PInt}(h:x∈putI ks k b v):(∃y∈ks,y.1=x.1/\y.2.1=x.2.1)\/(x.1=k/\x.2.1=b):=by
 unfold putI at h;split at h
 ·obtain⟨y,f,rfl⟩:=Aw.mp h;refine .inl ⟨y,f,?_⟩;split<;>exact⟨rfl,rfl⟩
 ·rcases Ba.mp h with h|h
  ·exact .inl ⟨x,h,rfl,rfl⟩
  ·rw[Ao.mp h];exact .inr ⟨rfl,rfl⟩
def z5v:(putI ks k b v).length<=ks.length+1:=by
 unfold putI;split
 ·rw[Af];lia
 ·rw[Aj];exact Ai _
def x3m{j:PKey}:valI (putI ks k b v) j=if j=k then some v else valI ks j:=by
 unfold putI;cases e:valI ks k with
 |some n =>
  rw[if_pos (show(some n).isSome=true from rfl)];induction ks with
  |nil=>cases e
  |cons x ks ih =>
   unfold valI at e ih ⊢;rw[Ca] at e;rw[Ar,Ca,Ca];by_cases q:x.1=k
   ·rw[if_pos q];by_cases r:j=k
    ·rw[if_pos r,show decide (x.1=j)=true from decide_eq_true (q.trans r.symm)];rfl
    ·have h:decide (x.1=j)=false:=decide_eq_false λz=>r (z.symm.trans q);rw[if_neg r];simp only[h];clear e ih;induction ks with
     |nil=>rfl
     |cons y ks ih2 =>
      rw[Ar,Ca,Ca];by_cases f:y.1=k
      ·rw[if_pos f];have g:decide (y.1=j)=false:=decide_eq_false λz=>r (z.symm.trans f);simp only[g];exact ih2
      ·rw[if_neg f];cases decide (y.1=j)
       ·exact ih2
       ·rfl
   ·rw[show decide (x.1=k)=false from decide_eq_false q] at e;rw[if_neg q];cases z:decide (x.1=j)
    ·exact ih e
    ·have:j≠k:=λy=>q ((of_decide_eq_true z).trans y);rw[if_neg this]
 |none =>
  rw[if_neg (by simp)];induction ks with
  |nil =>
   unfold valI;rw[Xo,Ca];by_cases r:j=k
   ·rw[if_pos r,show decide (k=j)=true from decide_eq_true r.symm];rfl
   ·rw[if_neg r,show decide (k=j)=false from decide_eq_false λz=>r z.symm]
  |cons x ks ih =>
   unfold valI at e ih ⊢;rw[Ca] at e;rw[Wr,Ca,Ca];cases q:decide (x.1=k)
   ·rw[q] at e;cases z:decide (x.1=j)
    ·exact ih e
    ·have:j≠k:=λy=>(of_decide_eq_false q) ((of_decide_eq_true z).trans y)
     rw[if_neg this]
   ·rw[q] at e;cases e
def DPi.put(x:DPi kd H d ks)(e:kd.pr H k b)(l:ks.length<sizeLine):DPi kd (upd H d (PiO kd d (putI ks k b v))) d (putI ks k b v):=by
 have j:∀(c:Addr) (f:List V),H c=some (.tup f)->upd H d (PiO kd d (putI ks k b v)) c=some (.tup f):=λc f e=>by
  rw[q0f (λz=>by rw[z,x.at_] at e;cases e)];exact e
 refine⟨q0d,x.sys,Bg z5v l,λy o=>kd.keep j ?_⟩;rcases x3l o with⟨z,s,g,h⟩|⟨g,h⟩
 ·rw[<- g,<- h];exact x.pk z s
 ·rw[g,h];exact e
end
section
variable{X:Cx}{P:Ak}{w:World}
noncomputable def tDNewI(kd:PKd P w):TE:=λ_ H Q=>∀p,H p=none->(p==Dp)=false->Q (.ref p) (upd H p (PiO kd p []))
def x3n{g:Pos}(kd:PKd P w)(u:X.prog=P)(v:X.w=w):PE X (.Dict [] [] g) (tDNewI kd):=λj s G H Q I h=>by
 subst u v;have B:=I.big;have C:(s.heap.objs.size==Dp)=false:=by rw[beq_eq_false_iff_ne];exact Ex B
 refine Mx ⟨.ref s.heap.objs.size,_,I.laid (o:=PiO kd s.heap.objs.size []) (t':=s.toks) (λ_ _ q=>Ae _ q) (Ai _) ⟨⟨_,#[],0,[],An _ rfl,⟨rfl,rfl,rfl⟩,rfl,rfl,Sq,entIs.nil⟩,⟨_,An _ rfl⟩,λJ L ⟨o,D,E,f,F,q⟩ k=>⟨o,D,E,f,k _ F,q⟩⟩,rfl,h _ (I.hok.fresh (Ai _)) C⟩
def x6w{kd:PKd P w}{H:Hp}{p:Addr}(f:(p==Dp)=false):DPi kd (upd H p (PiO kd p [])) p []:=⟨q0d,f,Bf _,λ_ h=>nomatch h⟩
noncomputable def sIPut(kd:PKd P w)(td ty tv:TE):TS:=λD σ H=>tv σ H λv H1=>td σ H1 λx H2=>ty σ H2 λy H3=>∃d ks b k n,x=.ref d/\y=.ref b/\v=.int n/\DPi kd H3 d ks/\kd.pr H3 k b/\ks.length<sizeLine/\D.nx σ (upd H3 d (PiO kd d (putI ks k b n)))
def x6x{i o f:Expr}{U ty W:TE}{C B:Pos}(kd:PKd P w)(Z:X.prog=P)(hw:X.w=w)(hu:X.A.units+2<cLine)(ho:PE X o U)(hi:PE X i ty)(hv:PE X f W)(G:Jb f (some (.Subscript o i B)) C.line X.env=pure false):
  PS X (.Assign [.Subscript o i B] f C) (sIPut kd U ty W):=by
 subst Z hw;intro g s E H D I h;refine Ms (thnE (hv g s E H _ I h) λr s1 v H1 I1 rv J=>thnE (ho g s1 E H1 _ I1 J) λu s2 x H2 I2 rx q2=>thnE (hi g s2 E H2 _ I2 q2) λiv s3 y H3 L ry qz=>?_) G;obtain⟨d,Y,b,k,n,ex,ey,ev,dp,pk,lk,q3⟩:=qz;subst ex ey ev;obtain rfl:u=Value.ref d:=rx;obtain rfl:iv=Value.ref b:=ry;obtain⟨t,rfl⟩:=rv;obtain⟨j,M,F⟩:=dp.of L.hok;refine Ph (knd:=kd.knd) (kd.room hu) (kd.of L.hok pk) M (λh' dd G=>?_) (by rw[F.len];exact Jl lk);have ee:entIs (putI Y k b n) (storedH j k b (.int n t)):=by
  unfold putI;rcases F.at_ (k:=k) with⟨O,Q⟩|⟨m,t',a',O,Q⟩
  ·rw[O,storedH_new Q];exact F.snoc
  ·rw[O,storedH_old Q];exact F.put
 obtain⟨o,R,S,T,e2,e3,e4,_,e5⟩:=dd;refine⟨E,_,L.write (x:=d) (e:=d) (o:=PiO kd d (putI Y k b n)) (by rw[dp.at_];exact True.intro) (.inl rfl) (λc q hc z=>(G.2 c hc).trans z) ⟨o,T⟩ ⟨⟨o,R,S,_,T,e2,e3,e4,e5,ee⟩,⟨o,T⟩,λh1 h2 ⟨o,R,S,j,J,q⟩ k=>⟨o,R,S,j,k _ J,q⟩⟩,q3⟩
noncomputable def tIGet(kd:PKd P w)(td ty tx:TE):TE:=λσ H Q=>td σ H λx H1=>∃d ks,x=.ref d/\DPi kd H1 d ks/\ty σ H1 λy H2=>tx σ H2 λz H3=>∃b k m,y=.ref b/\z=.int m/\DPi kd H3 d ks/\kd.pr H3 k b/\Q (.int ((valI ks k).getD m)) H3
def x0n{o e f:Expr}{v B:Pos}{O ty tx:TE}(kd:PKd P w)(U:X.prog=P)(W:X.w=w)(Y:X.A.units+2<cLine)(Z:PE X o O)(he:PE X e ty)(hf:PE X f tx)(m:M2 X o "get" v e f B):PE X (.Call (.Attribute o "get" v) [e,f] [] B) (tIGet kd O ty tx):=by
 subst U W;intro g s E H Q I h;refine wpAny_Call_method m.base m.few m.line Rk Tb PySem.F.type_dict_get (thnE (Z g s E H _ I h) λu s1 x H1 R rx qz=>?_);obtain⟨d,ks,ex,dp,q1⟩:=qz;subst ex;obtain rfl:u=Value.ref d:=rx;obtain⟨S,dd,_⟩:=dp.of R.hok;refine⟨dd.typeIs,λb q=>?_,?_⟩
 ·cases q;obtain⟨ob,_,_,h1,h2,_⟩:=dd;exact⟨ob,h1,h2.2.1⟩
 rw[m.trees];refine Mq rfl (Tj (Pd (thnE (he g s1 E H1 _ R q1) λiv s2 y H2 I2 ry q2 =>
  Pd (thnE (hf g s2 E H2 _ I2 q2) λfv s3 z T G rz ⟨b,k,m,ey,ez,C,pk,J⟩=>Vo ?_))))
 subst ey ez;obtain rfl:iv=Value.ref b:=ry;obtain⟨t,rfl⟩:=rz;obtain⟨j,D,ei⟩:=C.of G.hok;refine call_meetsIn Tb D.typeIs PySem.F.entry_dict_get (PySem.F.args_dict_get_3 _ _ _) (meetsH_dict_get_default kd.knd d b C.sys (.int m t)) ⟨kd.room Y,k,j,kd.of G.hok pk,D,?_⟩;show EP X g E Q (((atKey j k).map (·.2)).getD (.int m t)) _;rcases ei.at_ (k:=k) with⟨L,M⟩|⟨n,t',a',L,M⟩
 ·rw[M];rw[L] at J;exact⟨.int m,T,G.tok _,⟨t,rfl⟩,J⟩
 ·rw[M];rw[L] at J;exact⟨.int n,T,G.tok _,⟨t',rfl⟩,J⟩
end
def q4r{X:Cx}{e:Expr}{f g:TE}(u:PE X e f)(v:PE X e g):PE X e (λo H Q=>f o H Q\/g o H Q):=by
 intro j s o H Q I h;rcases h with h|h
 ·exact u j s o H Q I h
 ·exact v j s o H Q I h
def ELaw0.cls{K:Ah}(L:ELaw0 K C D):ECls K C (.ref D::bmV):=by
 obtain⟨nm,q,N,bs,h,f,j,g,dd,o,s,u,v,B,E,_⟩:=L.ex;exact⟨⟨nm,q,N,bs,true,h,f,j,g,dd,o,s,u,v,B,_,E⟩,by rw[Jg,show bmV.contains (.type "BaseException")=true from by decide,Qz]⟩
end L2
namespace HM
open PySem PySem.Spec PyProof.Rows L2 TX SB
noncomputable def inP(H:Hp)(q:Pth)(a:Addr):Bool:=match H a with|some (.tup xs)=>decide (xs=vP q)|_=>false
def vP_inj(h:vP p=vP q):p=q:=by
 have e:(vP p).map (λv=>match v with|.str s=>tl s|_=>[])=(vP q).map (λv=>match v with|.str s=>tl s|_=>[]):=by rw[h]
 have f:∀x:Pth,(vP x).map (λv=>match v with|.str s=>tl s|_=>[])=x:=λx=>by
  rw[Dy];refine Eq.trans (List.map_congr_left λn _=>q1g n) (List.map_id x)
 rw[f,f] at e;exact e
def x0o(h:H a=some (.tup (vP r))):inP H q a=decide (r=q):=by
 unfold inP;rw[h];exact decide_eq_decide.mpr ⟨vP_inj,λz=>by rw[z]⟩
section
variable{X:Cx}{k:Nat}
noncomputable def eR(H:Hp)(q:Pth):Value->Bool|.ref a=>inP H q a|_=>false
def any_eR(bs:List Addr):(bs.map Value.ref).toArray.any (eR H q)=bs.any (inP H q):=by
 rw[show(bs.map Value.ref).toArray.any (eR H q)=(bs.map Value.ref).any (eR H q) by simp,List.any_map];rfl
def x0p(h:Room k X.A){j:L2.St}(I:Inv X pins j H s){bs:List Addr}(o:H p=some (.tup (vP q)))(u:Low q)(v:∀b∈bs,∃r,H b=some (.tup (vP r))/\Low r):
  ∀w∈(bs.map Value.ref).toArray,En X.A.in1 s w (.ref p) (eR H q w):=λw J=>by
 obtain⟨b,g,rfl⟩:∃b∈bs,w=.ref b:=by
  have:w∈bs.map Value.ref:=by grind
  obtain⟨b,B,C⟩:=Aw.mp this;exact⟨b,B,C.symm⟩
 obtain⟨r,f,D⟩:=v b g;obtain⟨as,E⟩:=(q2y f).reads I rfl;obtain⟨F,G⟩:=(q2y o).reads I rfl;have hd:=q7v r;have L:=h.un;have e:=Ww _ _ X.A.in1 s _ _ _ _ E G (q5x D) (q5x u) (by show X.A.units+1+_<_;lia);rw[q7w] at e;show En X.A.in1 s (.ref b) (.ref p) (inP H q b);rw[x0o f];exact e
end
noncomputable def rInPT(neg:Bool):R2:=λx y H Q=>∃(p L:Addr) (bs:List Addr) (q:Pth),x=.ref p/\y=.ref L/\H L=some (.tup (bs.map V.ref))/\H p=some (.tup (vP q))/\Low q/\(∀b∈bs,∃r,H b=some (.tup (vP r))/\Low r)/\Q (.bl (if neg then !bs.any (inP H q) else bs.any (inP H q))) H
section
variable{X:Cx}{k:Nat}
def nin_PT(g:Room k X.A):OpR X (Cj .NotIn) (rInPT true):=by
 intro f s M H x y v u Q I j o h;obtain⟨p,L,bs,q,rfl,rfl,B,C,D,E,F⟩:=h;cases j;cases o;obtain⟨G,r,J,O⟩:=I.tuple (SqT.of B);obtain rfl:=q5y r;exact Ui (eR H q) J (x0p g I C D E) ⟨.bl _,H,I,rfl,by rw[any_eR];exact F⟩
end
end HM
namespace L2
open PySem PySem.Spec PyProof.Rows
section
variable{X:Cx}
noncomputable def insN{α:Type}(xs:List α)(n:Nat)(y:α):List α:=xs.take n++y::xs.drop n
noncomputable def rInsertN:V->List V->Hp->VK->Prop:=λx vs H Q=>∃(l:Addr) (xs:List V) (y:V) (n:Nat),x=.ref l/\vs=[.int (n:Int),y]/\H l=some (.lst xs)/\xs.length<sizeLine/\n<=xs.length/\n<1000/\Q .non (upd H l (.lst (insN xs n y)))
def z7h:MtM X "list.insert" rInsertN:=by
 intro j s P H x vs v R Q I D E h;obtain⟨l,F,y,n,rfl,rfl,o,S,hn,G,q⟩:=h;cases D;obtain⟨T,u,rfl,J,L⟩:=E.two;obtain⟨M,rfl⟩:=J;obtain⟨z,f,m,r,hl,e⟩:=I.lstM o;have B:f.length=F.length:=r.length.symm;have C:Qa (n:Int)=true:=by
  unfold Qa;rw[Cz,decide_eq_true_eq,decide_eq_true_eq];exact⟨Int.le_trans (by decide) (Int.natCast_nonneg n),Int.lt_trans (Int.ofNat_lt.mpr G) (by decide)⟩
 have g:∃x:Int,x=(n:Int):=⟨_,rfl⟩
 obtain⟨x,g⟩:=g;rw[<- g] at C ⊢;refine Ls Ve ⟨_,e,rfl⟩ Ul (Tp _ _ _) (Lv l f.toArray m x M u (by rw[C];decide) (by rw[Ay];lia)) ⟨e,?_⟩;refine⟨.non,_,I.lset (its':=insN f n u) o e ?_ ((r.take n).append (.cons L (r.drop n))) ?_,rfl,q⟩
 ·have O:(if x<0 then(x+(f.toArray.size:Int)).toNat else min x.toNat f.toArray.size)=n:=by
   rw[if_neg (by lia),Ay];lia
  show(f.toArray.extract 0 (if x<0 then(x+(f.toArray.size:Int)).toNat else min x.toNat f.toArray.size)).push u++f.toArray.extract (if x<0 then(x+(f.toArray.size:Int)).toNat else min x.toNat f.toArray.size)=(insN f n u).toArray;rw[O];unfold insN;simp;exact Ez (by rw[Dh];exact Ai _)
 ·rw[Aj,Be,Dg,Dh];lia
end
def gE{a b:TS}{D:Ends}{f:St}{H:Hp}(h:∀g X,g=D->X=b->tSeq a X g f H):tSeq a b D f H:=h D b rfl rfl
def gY{X a b:TS}{D:Ends}{f:St}{H:Hp}(g:X=tSeq a b)(h:∀Y,Y=b->tSeq a Y D f H):X D f H:=by rw[g];exact h b rfl
def gZ{a b:TS}{D:Ends}{f:St}{H:Hp}(h:∀X,X=b->tSeq a X D f H):tSeq a b D f H:=h b rfl
end L2
set_option maxHeartbeats 4000000
namespace K
open PySem L2 TX
noncomputable def top(i:Nat):Stmt:=PySem.Challenge.pw_renamehall_k34_sowing_refused.main.body.getD i (.Pass ⟨0,0,0,0⟩)
structure Txt (mg:Str->Option Value):Prop where
 b_ValueError:mg "ValueError" = none
 b_all:mg "all" = none
 b_dict:mg "dict" = none
 b_enumerate:mg "enumerate" = none
 b_int:mg "int" = none
 b_isinstance:mg "isinstance" = none
 b_len:mg "len" = none
 b_list:mg "list" = none
 b_max:mg "max" = none
 b_min:mg "min" = none
 b_range:mg "range" = none
 b_reversed:mg "reversed" = none
 b_sorted:mg "sorted" = none
 b_str:mg "str" = none
 b_tuple:mg "tuple" = none
 b_zip:mg "zip" = none
 NAME_SIGNS:∃t,mg "NAME_SIGNS" = some (.str (Ab "abcdefghijklmnopqrstuvwxyzABCDEFGHIJKLMNOPQRSTUVWXYZ0123456789-_.") t)
 GAP_SIGNS:∃t,mg "GAP_SIGNS" = some (.str (Ab "?*#@") t)
 MOST_GAPS:∃t,mg "MOST_GAPS" = some (.int 9 t)
 FIGURES:∃t,mg "FIGURES" = some (.str (Ab "0123456789") t)
 LETTERS:∃t,mg "LETTERS" = some (.str (Ab "abcdefghijklmnopqrstuvwxyzABCDEFGHIJKLMNOPQRSTUVWXYZ") t)
 FROM_ONE:∃t,mg "FROM_ONE" = some (.str (Ab "123456789") t)
 FROM_TWO:∃t,mg "FROM_TWO" = some (.str (Ab "23456789") t)
 MOST_FIGURES:∃t,mg "MOST_FIGURES" = some (.int 9 t)
 MOST_SIGNS:∃t,mg "MOST_SIGNS" = some (.int 12 t)
 MOST_NAMES:∃t,mg "MOST_NAMES" = some (.int 6 t)
 MOST_START:∃t,mg "MOST_START" = some (.int 1000000000 t)
structure Calls (P:Ak) (w:World) (K:Ah) (mg:Str->Option Value) (base:Heap):Prop where
 draw:Cal P w K mg base "_law_draw" 1 Z5 spDraw
section
variable{P:Ak}{w:World}{K:Ah}{mg:Str->Option Value}{base:Heap}
noncomputable abbrev z4n:Stmt:=top 69
def sc_draw:FnScope ["_law_feed", "_law_many", "_law_cell", "_law_number", "_law_found"] Z5 (defScope z4n):=by trivial
def x6y (D : Df K mg "_law_draw" z4n Z5) (T : Txt mg) : Cal P w K mg base "_law_draw" 1 Z5 spDraw := by
  refine D.cal sc_draw (λvs H Q E h => ?_) (λf cdv A outer s H vs Q E hr h => ?_)
  · obtain ⟨a, b, m, rfl, _⟩ := h; rfl
  · obtain ⟨a, b, m, rfl, ⟨⟨i, j, ha⟩, ns, hb⟩, hm0, hm1, k⟩ := h;refine ⟨_, (q0b (q4j (q0v q0r (q0w (ix_k K rfl) (pv 0) q0g (λ_ _ => rfl)) q0g) (z7v (pv 0) q0g q6v)) (q0b (q0s (q0h (eq_k K rfl hr) (q0w (ix_k K rfl) (pv 0) q0g (λ_ _ => rfl)) q0g (nomark _)) (q0b (q0k (i := 2) sc_draw.nd rfl (by first | exact Or.inl rfl | exact Or.inr rfl) (q0w (ix_k K rfl) (pv 0) q0g (λ_ _ => rfl))) (q0b (q0s (q0h z1e (q0q (q1z K rfl) (by rfl) T.b_len Br (q0a (q0w (ix_k K rfl) (pv 0) q0g (λ_ _ => rfl)) q0c)) q0g (nomark _)) (q0e (q0k (i := 2) sc_draw.nd rfl (by first | exact Or.inl rfl | exact Or.inr rfl) (q0w (ix_k K rfl) (q0w (ix_k K rfl) (pv 0) q0g (λ_ _ => rfl)) (q0v q8r (q0w (ix_k K rfl) (pv 0) q0g (λ_ _ => rfl)) (q0q (q1z K rfl) (by rfl) T.b_len Br (q0a (q0w (ix_k K rfl) (pv 0) q0g (λ_ _ => rfl)) q0c))) (λ_ _ => rfl)))) q0j) (q0b (q0s (q0h z3w (pv 2) (q0v x4n q0g q0g) (nomark _)) (q0b (q0k (i := 3) sc_draw.nd rfl (by first | exact Or.inl rfl | exact Or.inr rfl) (q0v q8r (q0v z4b (q0v q0r (q0v q0r (q0v q8r (pv 2) q0g) (q0v z4b q0g (q0w (ix_k K rfl) (pv 0) q0g (λ_ _ => rfl)))) q0g) q0g) q0g)) (q0b (q0k (i := 3) sc_draw.nd rfl (by first | exact Or.inl rfl | exact Or.inr rfl) (q0v q8r (q0v z4b (pv 3) (q0v q0r (pv 3) q0g)) q0g)) (q0e (q0l (q0v q8r (q0v z8a (pv 3) q0g) (pv 1)))))) q0j) (q0e (q4j (pv 2) (z7v (pv 0) q0g q6v)))))) q0j) (q0b (q0k (i := 4) sc_draw.nd rfl (by first | exact Or.inl rfl | exact Or.inr rfl) (q0v q8r (q0w (ix_k K rfl) (pv 0) q0g (λ_ _ => rfl)) (pv 1))) (q0b (q4j (q0v z8a (q0w (ix_k K rfl) (pv 0) q0g (λ_ _ => rfl)) (pv 1)) (z7v (pv 0) q0g q6v)) (q0e (q0l (pv 4))))))), ?_⟩;have nba := FeedAt.ne ⟨⟨i, j, ha⟩, ns, hb⟩;refine ⟨_, rfl, .inl ⟨a, _, 1, _, rfl, rfl, SqL.of ha, rfl, .inl ⟨_, _, rfl, rfl, _, rfl, a, _, 1, 1, rfl, rfl, ha, rfl, ?_⟩⟩⟩;generalize hH1 : upd H a _ = H1;have ha1 : H1 a = some (.lst [.ref b, .int (i + 1), .int j]) := by rw [← hH1]; exact q0d
    have hb1 : H1 b = some (.lst (ns.map V.int)) := by rw [← hH1, q0f nba]; exact hb
    have fd : ∀ (x y : Int), Fd a b H (upd H1 a (.lst [.ref b, .int x, .int y])) := λx y => ⟨⟨⟨x, y, q0d⟩, ns, by rw [q0f nba]; exact hb1⟩, λc o e hc => by rw [q0f hc, ← hH1, q0f hc]; exact e⟩
    have fd1 : Fd a b H H1 := ⟨⟨⟨_, _, ha1⟩, ns, hb1⟩, λc o e hc => by rw [← hH1, q0f hc]; exact e⟩
    refine ⟨_, rfl, .inl ⟨a, _, 2, _, rfl, rfl, SqL.of ha1, rfl, .inl ⟨rfl, _, rfl, ?_⟩⟩⟩;have last : ∀ (H2 : Hp) (x2 x3 x4 : Option V) (y : Int), H2 a = some (.lst [.ref b, .int (i + 1), .int y]) → (∀ x y : Int, Fd a b H (upd H2 a (.lst [.ref b, .int x, .int y]))) →
        tSeq (tAsg (tOp (rI (λ_ j => 0 < j) λi j => .int (i % j)) (tOp (rIx K) (tVar 0) (tC (.int 2))) (tVar 1)) (gName 4)) (tSeq (tAsg (tOp (rI CDiv λi j => .int (i / j)) (tOp (rIx K) (tVar 0) (tC (.int 2))) (tVar 1)) (gSub (tVar 0) (tC (.int 2)) rSetL)) (tRet (tVar 4))) { nx := λ_ H' => Q .non H', rt := Q } [some (.ref a), some (.int m), x2, x3, x4] H2 := by
      intro H2 x2 x3 x4 y h2 f2;refine ⟨_, rfl, .inl ⟨a, _, 2, _, rfl, rfl, SqL.of h2, rfl, _, rfl, _, _, rfl, rfl, hm0, ?_⟩⟩;refine ⟨_, rfl, .inl ⟨a, _, 2, _, rfl, rfl, SqL.of h2, rfl, _, rfl, _, _, rfl, rfl, ⟨hm0, hm1⟩, _, rfl, a, _, 2, 2, rfl, rfl, h2, rfl, _, rfl, ?_⟩⟩;exact k _ _ (Ro _ (by lia)) (Pg _ hm0) (f2 _ _)
    refine ite2 (λ_ => ?_) (λ_ => last H1 _ _ _ j ha1 fd);refine ⟨_, rfl, .inl ⟨a, _, 1, _, rfl, rfl, SqL.of ha1, rfl, ?_⟩⟩;refine ⟨_, rfl, .inl ⟨a, _, 0, _, rfl, rfl, SqL.of ha1, rfl, ⟨_, _, rfl, .inl ⟨_, SqL.of hb1, rfl⟩, ⟨_, _, rfl, rfl, _, rfl, ?_⟩⟩⟩⟩
    have rest : ∀ cell : Int, tSeq (tIfS (tTest (tOp (rI0 λi j => .bl (decide (i < j))) (tVar 2) (tOp (rI CPow λi j => .int (i ^ j.toNat)) (tC (.int 10)) (tC (.int 18)))))
          (tSeq (tAsg (tOp (rI (λ_ j => 0 < j) λi j => .int (i % j)) (tOp rMulU (tOp rAddU (tOp rAddU (tOp (rI (λ_ j => 0 < j) λi j => .int (i % j)) (tVar 2) (tC (.int 2147483647))) (tOp rMulU (tC (.int 613)) (tOp (rIx K) (tVar 0) (tC (.int 1))))) (tC (.int 7))) (tC (.int 48271))) (tC (.int 2147483647))) (gName 3))
            (tSeq (tAsg (tOp (rI (λ_ j => 0 < j) λi j => .int (i % j)) (tOp rMulU (tVar 3) (tOp rAddU (tVar 3) (tC (.int 69621)))) (tC (.int 2147483629))) (gName 3))
              (tRet (tOp (rI (λ_ j => 0 < j) λi j => .int (i % j)) (tOp (rI CDiv λi j => .int (i / j)) (tVar 3) (tC (.int 64))) (tVar 1))))) tNext)
          (tAsg (tVar 2) (gSub (tVar 0) (tC (.int 2)) rSetL))
        { nx := λσ2 H2 => tSeq (tAsg (tOp (rI (λ_ j => 0 < j) λi j => .int (i % j)) (tOp (rIx K) (tVar 0) (tC (.int 2))) (tVar 1)) (gName 4)) (tSeq (tAsg (tOp (rI CDiv λi j => .int (i / j)) (tOp (rIx K) (tVar 0) (tC (.int 2))) (tVar 1)) (gSub (tVar 0) (tC (.int 2)) rSetL)) (tRet (tVar 4))) { nx := λ_ H' => Q .non H', rt := Q } σ2 H2, rt := Q }
        [some (.ref a), some (.int m), some (.int cell), none, none] H1 := by
      intro cell;refine ⟨_, rfl, _, _, rfl, rfl, ⟨by decide, by decide, by decide⟩, _, _, rfl, rfl, _, rfl, ?_⟩;refine ite2 (λ_ => ?_) (λ_ => ?_)
      · refine ⟨_, rfl, _, _, rfl, rfl, (by show (0 : Int) < 2147483647; decide), ?_⟩;refine ⟨_, rfl, .inl ⟨a, _, 1, _, rfl, rfl, SqL.of ha1, rfl, .inl ⟨_, _, rfl, rfl, .inl ⟨by decide, by decide⟩, .inl ⟨_, _, rfl, rfl, .inl ⟨_, _, rfl, rfl, .inl ⟨_, _, rfl, rfl, .inr ⟨by decide, by decide⟩, _, _, rfl, rfl, (by show (0 : Int) < 2147483647; decide), ?_⟩⟩⟩⟩⟩⟩;refine ⟨_, rfl, _, rfl, .inl ⟨_, _, rfl, rfl, .inl ⟨_, _, rfl, rfl, .inl ⟨by lia, by lia⟩, _, _, rfl, rfl, (by show (0 : Int) < 2147483629; decide), ?_⟩⟩⟩;refine ⟨_, rfl, _, _, rfl, rfl, ⟨by decide, by decide⟩, _, rfl, _, _, rfl, rfl, hm0, ?_⟩;exact k _ _ (Ro _ (by lia)) (Pg _ hm0) fd1
      · refine ⟨_, rfl, _, rfl, a, _, 2, 2, rfl, rfl, ha1, rfl, ?_⟩;refine last _ _ _ _ cell q0d (λx y => ?_);have := fd x y;rw [x5m];exact this
    refine ite2 (λhl => ?_) (λ_ => rest _);have hne : ns.map V.int ≠ [] := by grind
    obtain ⟨x, hx, ex⟩ := x5z (i + 1) hne;obtain ⟨c, rfl⟩ : ∃ c, x = V.int c := by
      obtain ⟨c, _, e⟩ := Aw.mp hx;exact ⟨c, e.symm⟩
    refine ⟨_, rfl, .inl ⟨a, _, 0, _, rfl, rfl, SqL.of ha1, rfl, ⟨_, rfl, .inl ⟨a, _, 1, _, rfl, rfl, SqL.of ha1, rfl, ⟨_, rfl, .inl ⟨a, _, 0, _, rfl, rfl, SqL.of ha1, rfl, ⟨_, _, rfl, .inl ⟨_, SqL.of hb1, rfl⟩, _, _, rfl, rfl, ?_, ?_⟩⟩⟩⟩⟩⟩⟩
    · grind
    · exact .inl ⟨b, _, _, _, rfl, rfl, SqL.of hb1, ex, rest c⟩
noncomputable abbrev z4o:Stmt:=top 72
def x6z:FnScope Z6 Z6 (defScope z4o):=by trivial
def x7a(D:Df K mg "_law_text" z4o Z6)(T:Txt mg)(draw:Cal P w K mg base "_law_draw" 1 Z5 spDraw):Cal P w K mg base "_law_text" 2 Z6 spText:=by
 refine D.cal x6z (λvs H Q E h=>?_) (λf M A outer s H vs Q E O h=>?_)
 ·obtain⟨a,b,g,n,rfl,_⟩:=h;rfl
 ·obtain⟨a,b,g,n,rfl,F,R,S,U,W,k⟩:=h;have C:Calls P w K mg base:=⟨draw⟩
  refine⟨_,(q0e (q0l (@bm_k _ _ _ _ _ _ _ _ _ _ _ _ K rfl Ek PySem.F.slot_str_join PySem.F.type_str_join (join_k K rfl) q0i (q0a (q6w ["_law_k"] [("_law_signs",1),("_law_feed",0)] rfl (q3m rfl T.b_range (q0a (pv 2) q0c)) (λ_ _ _ _ _=>(q0n (i:=0) (show(["_law_k", "_law_signs", "_law_feed"]:List Str).Nodup by trivial) rfl (by trivial))) (λ_ _ _ _ _=>q9t) (λ_ _ _ _ _=>(q0w (ix_k K rfl) (pv 1) (pe_c C.draw O (q0a (pv 2) (q0a (q0q (q1z K rfl) (by rfl) T.b_len Br (q0a (pv 1) q0c)) q0c))) (λ_ _=>rfl)))) q0c) (by rfl) (by rfl) (by rfl) (by rfl) (by rfl)))),?_⟩;refine⟨rfl,_,rfl,n,rfl,by lia,by lia,λD G=>?_⟩;refine q7m (λi v u=>∃j:List Nat,v=j.map (λc=>V.str ⟨#[c]⟩)/\j.length=i/\i<=n.toNat/\(∀c∈j,c∈tl g)/\Fd a b H u/\u D=some (.lst v)) ⟨[],rfl,rfl,Bf _,λ_ h=>(nomatch h),(Fd.refl F).new G,q0d⟩ (λi v u ⟨j,_,_,_,_,_,h⟩=>h) ?_ ?_
  ·rintro i v u hi ⟨j,rfl,hl,_,I,fd,o⟩;refine⟨_,rfl,_,rfl,_,rfl,_,_,rfl,⟨small (by lia),rfl⟩,a,b,_,rfl,fd.feed,by lia,by lia,λr H2 X r1 B=>?_⟩;have Y:=(len g).symm;obtain⟨c,Z,J⟩:=x4s (xs:=tl g) X (by lia);refine .inr (.inr ⟨g,r,c,rfl,rfl,small (by lia),J,?_⟩);have L:D≠a:=λz=>by subst z;exact F.na G rfl
   refine⟨B.at o L,small' (by rw[Af];lia),j++[c],by rw[Au];rfl,by rw[Aj,hl];rfl,by lia,λd hd=>?_,(fd.trans B).put F G,q0d⟩;rcases Ba.mp hd with z|z
   ·exact I d z
   ·grind
  ·rintro v u ⟨j,rfl,hl,_,I,fd,o⟩;have e:j.map (λc=>V.str ⟨#[c]⟩)=(j.map λc=>(⟨#[c]⟩:Str)).map V.str:=by simp_all
   refine⟨_,D,j.map λc=>⟨#[c]⟩,rfl,rfl,.inl (SqL.of (by rw[<- e];exact o)),?_,?_⟩
   ·rw[x2n,Af];have:(Ab "").length=0:=by trivial
    rw[this];lia
   ·have z:=z8u j;rw[z];exact k j u hl I fd
noncomputable abbrev q2z:Stmt:=top 70
def z0h:FnScope [] [] (defScope q2z):=by trivial
def z0i(D:Df K mg "_law_name_signs" q2z []):Cal P w K mg base "_law_name_signs" 1 [] (spConst NSs):=by
 refine D.cal z0h (λvs H Q E h=>?_) (λf g A outer s H vs Q E j h=>?_)
 ·obtain⟨rfl,_⟩:=h;rfl
 ·obtain⟨rfl,k⟩:=h;refine⟨_,(q0e (q0l q0i)),?_⟩;exact k
noncomputable def spAsk:Sp:=λvs H Q _=>∃l,vs=[.str (mk l)]/\Good l/\∀H',Same H H'->Q .non H'
def gn_in:∀c,decide (c∈tl (Ab "?*#@" ++ Ab "abcdefghijklmnopqrstuvwxyzABCDEFGHIJKLMNOPQRSTUVWXYZ0123456789-_."))=decide (c∈GS\/c∈NS):=λc=>by
 rw[q8v];exact decide_eq_decide.mpr Ba
noncomputable abbrev q2l:Stmt:=top 23
def sc_ask_signs:FnScope ["pattern", "gaps", "at", "sign"] Zf (defScope q2l):=by trivial
def z2t(D:Df K mg "ask_signs" q2l Zf)(T:Txt mg):Cal P w K mg base "ask_signs" 1 Zf spAsk:=by
 refine D.cal sc_ask_signs (λvs H Q E h=>?_) (λf Z A outer s H vs Q E hr h=>?_)
 ·obtain⟨l,rfl,_⟩:=h;rfl
 ·obtain⟨l,rfl,R,k⟩:=h;obtain⟨_,j⟩:=T.NAME_SIGNS;obtain⟨_,g⟩:=T.GAP_SIGNS;obtain⟨_,o⟩:=T.MOST_GAPS;refine⟨_,(q0b (q0k (i:=1) sc_ask_signs.nd rfl (by trivial) q0g) (q0e (q1u Dc rfl (@q8w _ _ _ _ _ _ _ _ K rfl rfl T.b_enumerate (q0a (pv 0) q0c) (by rfl)) (@q1q _ _ _ _ (2) _ K rfl rfl (q0p (q0n (i:=2) sc_ask_signs.nd rfl (by trivial)) (q0p (q0n (i:=3) sc_ask_signs.nd rfl (by trivial)) q1b)) (by rfl) (by rfl)) (q1v (q0s (q0h (in_k K rfl) (pv 3) (q0m (v:=.str (Ab "?*#@")) (by rfl) g ⟨_,rfl⟩) (by with_unfolding_all rfl)) (q0e (z7w (i:=1) sc_ask_signs.nd rfl (by trivial) q0g z3v)) q0j) (q0e (q0s (pt_j (@PW.pt _ _ _ (q7b (q0h z1e (pv 1) (q0m (v:=.int 9) (by rfl) o ⟨_,rfl⟩) (nomark _)) (q3l (q0h (z4c K rfl) (pv 3) (q0v q0r (q0m (v:=.str (Ab "?*#@")) (by rfl) g ⟨_,rfl⟩) (q0m (v:=.str (Ab "abcdefghijklmnopqrstuvwxyzABCDEFGHIJKLMNOPQRSTUVWXYZ0123456789-_.")) (by rfl) j ⟨_,rfl⟩)) (by with_unfolding_all rfl)))))) (q0e q1r) q0j)))))),?_⟩;refine⟨_,rfl,.inl ⟨_,rfl,q7n (λi C I=>∃S U,C=[some (.str (mk l)),some (.int (((l.take i).filter λc=>decide (c∈GS)).length:Nat)),S,U]/\Same H I) ⟨none,none,rfl,Same.refl H⟩ ?_ ?_⟩⟩
  ·rintro i c W C I hc ⟨S,U,rfl,sm⟩ hT;have B:l[i]?=some c:=by have:=get hc;exact this
   have J:=Bd B;have hi:=(As.mp B).1;have G:((l.take (i+1)).filter λc=>decide (c∈GS)).length<=9:=by
    refine Bg (List.Sublist.length_le ?_) R.gp;exact(Vp _ _).filter _
   have u:((l.take (i+1)).filter λc=>decide (c∈GS)).length=((l.take i).filter λc=>decide (c∈GS)).length+(if c∈GS then 1 else 0):=by
    rw[q1t B,Hm,Aj];by_cases h:c∈GS
    ·simp_all
    ·grind
   refine⟨W,_,rfl,SqT.of q0d,rfl,_,_,rfl,_,_,rfl,rfl,?_⟩;generalize L:upd I W _=X;have M:Same H X:=by rw[<- L];exact sm.new hT
   refine⟨λF O=>F=[some (.str (mk l)),some (.int (((l.take (i+1)).filter λc=>decide (c∈GS)).length:Nat)),some (.int (i:Nat)),some (.str ⟨#[c]⟩)]/\O=X,?_,?_⟩
   ·rintro F O ⟨rfl,rfl⟩;refine⟨λb Y=>b=false/\Y=O,?_,?_⟩
    ·rintro b Y ⟨rfl,rfl⟩;exact iteF ⟨_,_,rfl,M⟩
    ·refine⟨_,rfl,_,_,rfl,rfl,_,rfl,?_⟩;refine iteB (λh=>?_) (λh=>?_)
     ·grind
     ·refine⟨_,rfl,.inr (.inl ⟨_,_,rfl,rfl,by trivial,.inl ⟨_,_,rfl,rfl,_,rfl,?_,rfl⟩⟩)⟩;rw[q6j,gn_in,decide_eq_true (R.sg c J)];rfl
   ·refine⟨_,rfl,.inl ⟨_,_,rfl,rfl,_,rfl,?_⟩⟩;rw[q6j];refine ite2 (λh=>?_) (λh=>?_)
    ·have h':c∈GS:=of_decide_eq_true h;refine⟨_,rfl,_,_,rfl,rfl,?_,rfl⟩;rw[u,if_pos h'];rfl
    ·have h':¬c∈GS:=λz=>h (decide_eq_true z);refine⟨?_,rfl⟩;rw[u,if_neg h'];rfl
  ·grind
noncomputable def spTextParts:Sp:=λvs H Q _=>∃t,vs=[.str (mk t)]/\∀L H',H L=none->Same H H'->HL H' L (tp t)->Q (.ref L) H'
def z5w:decide (V.str (mk t)=V.str (Ab ""))=decide (t=[]):=by
 refine decide_eq_decide.mpr ⟨λh=>?_,λh=>by rw[h];rfl⟩;injection h with h;have:=congrArg tl h;rw[q1g] at this;rw[this];decide +kernel
noncomputable abbrev q3a:Stmt:=top 24
def z0j:FnScope Y1 Y1 (defScope q3a):=by trivial
def q5o(D:Df K mg "text_parts" q3a Y1)(T:Txt mg):Cal P w K mg base "text_parts" 1 Y1 spTextParts:=by
 refine D.cal z0j (λvs H Q E h=>?_) (λf u A outer s H vs Q E v h=>?_)
 ·obtain⟨t,rfl,_⟩:=h;rfl
 ·obtain⟨t,rfl,k⟩:=h;refine⟨_,(q0b (q0s (q0h (eq_k K rfl v) (pv 0) q0i (nomark _)) (q0e (q0l (q1j q0c))) q0j) (q0e (q0l (q1j (q0a (q0o (q0a q0i (q0a (pv 0) q0c))) q0c))))),?_⟩;refine⟨_,rfl,.inl ⟨rfl,_,rfl,?_⟩⟩;rw[z5w];refine ite2 (λh=>?_) (λh=>?_)
  ·have h':=of_decide_eq_true h;refine⟨by decide,λL g=>k L _ g ((Same.refl H).new g) ⟨[],q0d,?_⟩⟩;unfold tp;rw[if_pos h'];exact .nil
  ·have h':¬t=[]:=λz=>h (decide_eq_true z);refine⟨_,rfl,by show 2<=sizeLine;decide,λj o=>⟨by show 1<=sizeLine;decide,λL g=>k L _ ?_ (((Same.refl H).new o).new g) ⟨[j],q0d,?_⟩⟩⟩
   ·have B:Same H (upd H j (.tup [.str (Ab "text"),.str (mk t)])):=(Same.refl H).new o;exact B.free g
   ·unfold tp;rw[if_neg h'];refine .cons ?_ .nil;have:=q0t q0d g;rw[q0f this];exact q0d
structure Calls1 (P:Ak) (w:World) (K:Ah) (mg:Str->Option Value) (base:Heap):Prop where
 ask_signs:Cal P w K mg base "ask_signs" 1 Zf spAsk
 text_parts:Cal P w K mg base "text_parts" 1 Y1 spTextParts
noncomputable def spPartsOf:Sp:=λvs H Q _=>∃l,vs=[.str (mk l)]/\Good l/\∀L H',H L=none->Same H H'->HL H' L (parse [] l)->Q (.ref L) H'
def q8a{l:List Nat}(h:i<=j)(o:j<=l.length):Xk (mk l) (some (i:Int)) (some (j:Int))=mk ((l.drop i).take (j-i)):=by
 show Gr (mk l) (some (i:Int)) (some (j:Int))=_;rw[StrLaws.sliceText_plain ⟨by lia,by lia,by rw[show((mk l).cps.toList).length=l.length from congrArg List.length (q1g l)];lia⟩];have f:((i:Nat):Int).toNat=i:=by lia
 have g:(((j:Nat):Int)-((i:Nat):Int)).toNat=j-i:=by lia
 rw[show(mk l).cps.toList=l from q1g l,f,g]
noncomputable abbrev q3b:Stmt:=top 25
def sc_parts_of:FnScope ["pattern", "parts", "begin", "at", "sign"] Zf (defScope q3b):=by trivial
def z4p(D:Df K mg "parts_of" q3b Zf)(T:Txt mg)(C:Calls1 P w K mg base):Cal P w K mg base "parts_of" 2 Zf spPartsOf:=by
 refine D.cal sc_parts_of (λvs H Q E h=>?_) (λf b2 A outer s H vs Q E hr h=>?_)
 ·obtain⟨l,rfl,_⟩:=h;rfl
 ·obtain⟨l,rfl,hg,k⟩:=h;obtain⟨_,F⟩:=T.NAME_SIGNS;obtain⟨_,j⟩:=T.GAP_SIGNS;refine⟨_,(q0b (q0s (q0h (eq_k K rfl hr) (pv 0) q0i (nomark _)) (q0e q1r) q0j) (q0b (q0u (pe_c C.ask_signs hr (q0a (pv 0) q0c))) (q0b (q0k (i:=1) sc_parts_of.nd rfl (by trivial) (q1j q0c)) (q0b (q0k (i:=2) sc_parts_of.nd rfl (by trivial) q0g) (q0b (q1u Dc rfl (@q8w _ _ _ _ _ _ _ _ K rfl rfl T.b_enumerate (q0a (pv 0) q0c) (by rfl)) (@q1q _ _ _ _ (2) _ K rfl rfl (q0p (q0n (i:=3) sc_parts_of.nd rfl (by trivial)) (q0p (q0n (i:=4) sc_parts_of.nd rfl (by trivial)) q1b)) (by rfl) (by rfl)) (q0e (q0s (q0h (in_k K rfl) (pv 4) (q0m (v:=.str (Ab "?*#@")) (by rfl) j ⟨_,rfl⟩) (by with_unfolding_all rfl)) (q0b (q0u (@bm_k _ _ _ _ _ _ _ _ _ _ _ _ K rfl Bi Iq Ir q5f (pv 1) (q0a (pe_c C.text_parts hr (q0a (q1c (sl_k K rfl) (pv 0) (q0z (pv 2)) (q0z (pv 3))) q0c)) q0c) (by rfl) (by rfl) (by rfl) (by rfl) (by rfl))) (q0b (q0u (@bm_k _ _ _ _ _ _ _ _ _ _ _ _ K rfl Bi Ce Cf q1d (pv 1) (q0a (q0o (q0a q0i (q0a (pv 4) q0c))) q0c) (by rfl) (by rfl) (by rfl) (by rfl) (by rfl))) (q0e (q0k (i:=2) sc_parts_of.nd rfl (by trivial) (q0v q0r (pv 3) q0g))))) q0j))) (q0b (q0u (@bm_k _ _ _ _ _ _ _ _ _ _ _ _ K rfl Bi Iq Ir q5f (pv 1) (q0a (pe_c C.text_parts hr (q0a (q1c (sl_k K rfl) (pv 0) (q0z (pv 2)) q2s) q0c)) q0c) (by rfl) (by rfl) (by rfl) (by rfl) (by rfl))) (q0e (q0l (pv 1))))))))),?_⟩;have a0:(mk l).length=l.length:=by rw[len,q1g]
  have b3:=hg.len;refine⟨_,rfl,.inl ⟨rfl,_,rfl,?_⟩⟩;rw[z5w,decide_eq_false hg.ne];refine iteF ?_;refine⟨_,rfl,l,rfl,hg,λH1 a1=>?_⟩;refine⟨by show 0<=sizeLine;decide,λL hL=>?_⟩;have O:H L=none:=a1.free hL;have ext:∀(u:Hp) (acc:List Pt) (t:List Nat) (M:Addr) (o:Hp),HL u L acc->acc.length<=5000->Same H u->u M=none->Same u o->HL o M (tp t) ->
    ∃I J,o L=some (.lst I)/\o M=some (.lst J)/\I.length+J.length<=sizeLine/\HL (upd o L (.lst (I++J))) L (acc++tp t)/\Same H (upd o L (.lst (I++J))):=by
   intro u acc t M o hl ha sm hM B hm;obtain⟨Ts,Y,h2⟩:=hl.ex;obtain⟨Us,h3,h4⟩:=hm.ex;have l1:=h2.len;have l2:=h4.len;have l3:(tp t).length<=1:=by unfold tp;split<;>simp
   have R:o L=some (.lst (Ts.map V.ref)):=B _ _ Y;refine⟨_,_,R,h3,by rw[Af,Af];exact small (by lia),⟨Ts++Us,by rw[Au];exact q0d,?_⟩,(sm.trans B).put O⟩;exact Tups.app ((h2.keep (Same.tk B)).keep ((TKeep.refl o).lst R)) (h4.keep ((TKeep.refl o).lst R))
  refine⟨_,rfl,.inl ⟨_,rfl,q7n (λi S u=>∃acc x3 x4 g,S=[some (.str (mk l)),some (.ref L),some (.int (g:Nat)),x3,x4]/\Same H u/\HL u L acc/\g<=i/\i<=l.length/\acc.length<=2*i/\acc++parse ((l.drop g).take (i-g)) (l.drop i)=parse [] l) ⟨[],none,none,0,rfl,(a1.new hL),⟨[],q0d,.nil⟩,Ai _,Bf _,Ai _,by simp⟩ ?_ ?_⟩⟩
  ·rintro i c T' S u hc ⟨acc,x3,x4,g,rfl,sm,hl,a2,a3,a7,G⟩ hT;have U:l[i]?=some c:=by have:=get hc;rw[q1g] at this;exact this
   have hi:i<l.length:=(As.mp U).1;have a8:l.drop i=c::l.drop (i+1):=by
    have:=Qn hi;rw[this];congr 1;exact(As.mp U).2
   refine⟨T',_,rfl,SqT.of q0d,rfl,_,_,rfl,_,_,rfl,rfl,?_⟩;generalize a9:upd u T' _=o;have a4:Same u o:=by rw[<- a9];exact(Same.refl u).new hT
   have B:Same H o:=sm.trans a4;have W:HL o L acc:=hl.same a4;refine⟨_,rfl,.inl ⟨_,_,rfl,rfl,_,rfl,?_⟩⟩;rw[q6j];rw[a8,parse] at G;refine ite2 (λh=>?_) (λh=>?_)
   ·have h':c∈GS:=of_decide_eq_true h;rw[if_pos h'] at G;refine⟨_,rfl,.inl ⟨rfl,W.sq⟩,_,rfl,_,rfl,_,rfl,_,rfl,_,rfl,.inl ⟨_,rfl,small (by lia),?_⟩⟩;rw[q8a a2 a3];refine⟨_,rfl,λM H3 hM X hm=>?_⟩;obtain⟨I,J,e1,e2,e3,Z,e5⟩:=ext o acc _ M H3 W (by lia) B hM X hm;refine⟨L,M,I,J,rfl,rfl,e1,e2,e3,?_⟩;generalize b0:upd H3 L _=H4;rw[b0] at Z e5;refine⟨_,rfl,.inl ⟨rfl,Z.sq⟩,_,rfl,by show 2<=sizeLine;decide,λT2 a5=>?_⟩;have e6:HL (upd H4 T2 (.tup (Pt.gp c).vs)) L _:=Z.new a5;obtain⟨Ts,Y,h2⟩:=e6.ex;have b4:(tp ((l.drop g).take (i-g))).length<=1:=by unfold tp;split<;>simp
    have b1:=h2.len;rw[Aj] at b1;refine⟨L,_,_,rfl,rfl,Y,by rw[Af];exact small' (by lia),?_⟩;refine⟨_,rfl,.inl ⟨_,_,rfl,rfl,?_⟩⟩;have a6:T2≠L:=λz=>by subst z;rw[q0d] at Y;cases Y
    refine⟨acc++tp ((l.drop g).take (i-g))++[.gp c],some (.int (i:Nat)),some (.str ⟨#[c]⟩),i+1,rfl,(e5.new a5).put O,⟨Ts++[T2],by rw[Au];exact q0d,?_⟩,Ai _,hi,by rw[Aj,Aj,Bk];lia,?_⟩
    ·refine Tups.app (h2.keep ((TKeep.refl _).lst Y)) (.cons ?_ .nil);rw[q0f a6];exact q0d
    ·rw[<- G];simp
   ·have h':¬c∈GS:=λz=>h (decide_eq_true z);rw[if_neg h'] at G;refine⟨acc,_,_,g,rfl,B,W,by lia,hi,by lia,?_⟩;rw[<- G];congr 2;have e1:i+1-g=(i-g)+1:=by lia
    rw[e1];refine q1t ?_;rw[Po];have e2:g+(i-g)=i:=by lia
    rw[e2];exact U
  ·rintro S u ⟨acc,x3,x4,g,rfl,sm,hl,a2,a3,a7,G⟩;refine⟨_,rfl,.inl ⟨rfl,hl.sq⟩,_,rfl,_,rfl,_,rfl,.inl ⟨_,rfl,small (by lia),?_⟩⟩;have b5:g<=l.length:=by lia
   rw[z6w (by lia) (by rw[q1g];lia),q1g];refine⟨_,rfl,λM H3 hM X hm=>?_⟩;obtain⟨I,J,e1,e2,e3,Z,e5⟩:=ext u acc _ M H3 hl (by lia) sm hM X hm;refine⟨L,M,I,J,rfl,rfl,e1,e2,e3,_,rfl,?_⟩;refine k L _ O e5 ?_;rw[a0] at G;have e6:(l.drop g).take (l.length-g)=l.drop g:=Ez (by rw[Dh];exact Ai _);rw[Kg,parse,e6] at G;have e7:((g:Nat):Int).toNat=g:=by lia
   rw[e7] at Z;rw[<- G];exact Z
noncomputable def spAllOf:Sp:=λvs H Q _=>∃t g,vs=[.str (mk t),.str g]/\t.length<=1000/\∀H',Same H H'->Q (.bl (allOf t (tl g))) H'
noncomputable abbrev q8b:Stmt:=top 17
def x0q:FnScope Zu Zu (defScope q8b):=by trivial
def x0r(D:Df K mg "all_of" q8b Zu)(T:Txt mg):Cal P w K mg base "all_of" 1 Zu spAllOf:=by
 refine D.cal x0q (λvs H Q E h=>?_) (λf G A outer s H vs Q E I h=>?_)
 ·obtain⟨t,g,rfl,_⟩:=h;rfl
 ·obtain⟨t,g,rfl,hl,k⟩:=h;refine⟨_,(q0e (q0l (pe_j (q6h (q2r (ne_k K rfl I) (pv 0) q0i (nomark _)) (q5b (q0q (all_k K rfl rfl) (by rfl) T.b_all (by trivial) (q0a (q6w ["sign"] [("signs",1)] rfl (@q5u _ _ _ _ K rfl (pv 0)) (λ_ _ _ _ _=>(q0n (i:=0) (show(["sign", "signs"]:List Str).Nodup by trivial) rfl (by trivial))) (λ_ _ _ _ _=>q9t) (λ_ _ _ _ _=>(q2r (in_k K rfl) (pv 0) (pv 1) (by with_unfolding_all rfl)))) q0c))))))),?_⟩;refine⟨λv j=>v=.bl (allOf t (tl g))/\Same H j,?_,?_⟩
  ·rintro v j ⟨rfl,sm⟩;exact k j sm
  refine⟨_,rfl,.inl ⟨rfl,_,rfl,?_⟩⟩;rw[z5w];refine iteB (λh=>?_) (λh=>?_)
  ·have C:¬t=[]:=λz=>by rw[decide_eq_true z] at h;cases h
   refine⟨_,rfl,.inr (.inr ⟨mk t,rfl,λD F=>?_⟩)⟩;refine z8r (λi u j=>u=(t.take i).map (λc=>V.bl (decide (c∈tl g)))/\Same H j/\j D=some (.lst u)/\u.length<=i/\i<=t.length) ⟨rfl,(Same.refl H).new F,q0d,Ai _,Bf _⟩ (λi u j h=>h.2.2.1) ?_ ?_
   ·rintro i u j c J ⟨rfl,sm,o,L,_⟩;have B:t[i]?=some c:=by have:=get J;rw[q1g] at this;exact this
    have M:i<t.length:=(As.mp B).1;refine⟨_,rfl,_,rfl,.inl ⟨_,_,rfl,rfl,o,small' (by lia),?_,sm.put F,q0d,?_,M⟩⟩
    ·rw[q1t B,Au,q6j];rfl
    ·rw[Aj,Bk];lia
   ·rintro u j ⟨rfl,sm,o,_,_⟩;have O:t.take (mk t).length=t:=by rw[q0x];exact Ez (Ai _)
    rw[O] at o;refine⟨D,t.map λc=>decide (c∈tl g),rfl,SqL.of (by rw[Dy];exact o),?_,sm⟩;unfold allOf;rw[decide_eq_true C,Ug,List.all_map];rfl
  ·have R:t=[]:=Kx λz=>by rw[decide_eq_false z] at h;cases h
   refine⟨?_,Same.refl H⟩;subst R;rfl
noncomputable def spGapTakes:Sp:=λvs H Q _=>∃c t,vs=[.str (mk [c]),.str (mk t)]/\t.length<=1000/\∀H',Same H H'->Q (.bl (gapTakes c t)) H'
structure CallsA (P:Ak) (w:World) (K:Ah) (mg:Str->Option Value) (base:Heap):Prop where
 all_of:Cal P w K mg base "all_of" 1 Zu spAllOf
def lit1(c d:Nat)(s:String)(h:Ab s=mk [d]):decide (V.str (mk [c])=V.str (Ab s))=decide (c=d):=by
 rw[h,dec_str];exact decide_eq_decide.mpr ⟨λz=>by injection z,λz=>by rw[z]⟩
def x7b(t:List Nat):decide (V.int (((mk t).length:Nat):Int)=V.int 1)=decide (t.length=1):=by
 rw[q0x];exact decide_eq_decide.mpr ⟨λz=>by injection z with z;lia,λz=>by rw[z];rfl⟩
noncomputable abbrev q3p:Stmt:=top 50
def z2u:FnScope Zs Zs (defScope q3p):=by trivial
def z2v(D:Df K mg "gap_takes" q3p Zs)(T:Txt mg)(C:CallsA P w K mg base):Cal P w K mg base "gap_takes" 2 Zs spGapTakes:=by
 refine D.cal z2u (λvs H Q E h=>?_) (λf I A outer s H vs Q E o h=>?_)
 ·obtain⟨c,t,rfl,_⟩:=h;rfl
 ·obtain⟨c,t,rfl,hl,k⟩:=h;obtain⟨_,g⟩:=T.FIGURES;obtain⟨_,j⟩:=T.LETTERS;refine⟨_,(q0b (q0s (q0h (eq_k K rfl o) (pv 0) q0i (nomark _)) (q0e (q0l (q2r (eq_k K rfl o) (q0q (q1z K rfl) (by rfl) T.b_len Br (q0a (pv 1) q0c)) q0g (nomark _)))) q0j) (q0b (q0s (q0h (eq_k K rfl o) (pv 0) q0i (nomark _)) (q0e (q0l (pe_c C.all_of o (q0a (pv 1) (q0a (q0m (v:=.str (Ab "0123456789")) (by rfl) g ⟨_,rfl⟩) q0c))))) q0j) (q0b (q0s (q0h (eq_k K rfl o) (pv 0) q0i (nomark _)) (q0e (q0l (pe_c C.all_of o (q0a (pv 1) (q0a (q0m (v:=.str (Ab "abcdefghijklmnopqrstuvwxyzABCDEFGHIJKLMNOPQRSTUVWXYZ")) (by rfl) j ⟨_,rfl⟩) q0c))))) q0j) (q0e (q0l q4y))))),?_⟩;have F:=q0x t;refine⟨_,rfl,.inl ⟨rfl,_,rfl,?_⟩⟩;rw[lit1 c 63 "?" (by trivial)];refine ite2 (λh=>?_) (λh=>?_)
  ·have h':c=63:=of_decide_eq_true h;refine⟨_,rfl,_,_,rfl,⟨small (by lia),rfl⟩,.inl ⟨rfl,?_⟩⟩;rw[x7b];have:=k H (Same.refl H);unfold gapTakes at this;rw[if_pos h'] at this;exact this
  have u:¬c=63:=λz=>h (decide_eq_true z);refine⟨_,rfl,.inl ⟨rfl,_,rfl,?_⟩⟩;rw[lit1 c 35 "#" (by trivial)];refine ite2 (λh=>?_) (λh=>?_)
  ·have h':c=35:=of_decide_eq_true h;refine⟨_,rfl,t,_,rfl,hl,λB sm=>?_⟩;have:=k B sm;unfold gapTakes at this;rw[if_neg u,if_pos h'] at this;exact this
  have G:¬c=35:=λz=>h (decide_eq_true z);refine⟨_,rfl,.inl ⟨rfl,_,rfl,?_⟩⟩;rw[lit1 c 64 "\x40" (by trivial)];refine ite2 (λh=>?_) (λh=>?_)
  ·have h':c=64:=of_decide_eq_true h;refine⟨_,rfl,t,_,rfl,hl,λB sm=>?_⟩;have:=k B sm;unfold gapTakes at this;rw[if_neg u,if_neg G,if_pos h'] at this;exact this
  have J:¬c=64:=λz=>h (decide_eq_true z);have:=k H (Same.refl H);unfold gapTakes at this;rw[if_neg u,if_neg G,if_neg J] at this;exact this
structure CallsB (P:Ak) (w:World) (K:Ah) (mg:Str->Option Value) (base:Heap):Prop where
 gap_takes:Cal P w K mg base "gap_takes" 2 Zs spGapTakes
noncomputable def spTakes:Sp:=λvs H Q _=>∃(a:Addr) (p:Pt) (t:List Nat),vs=[.ref a,.str (mk t)]/\H a=some (.tup p.vs)/\p.ok/\t.length<=1000/\∀H',Same H H'->Q (.bl (p.takes t)) H'
noncomputable abbrev z0k:Stmt:=top 51
def sc_takes:FnScope ["part", "text", "sort", "what"] Y7 (defScope z0k):=by trivial
def x3o(D:Df K mg "takes" z0k Y7)(T:Txt mg)(C:CallsB P w K mg base):Cal P w K mg base "takes" 3 Y7 spTakes:=by
 refine D.cal sc_takes (λvs H Q E h=>?_) (λf j A outer s H vs Q E g h=>?_)
 ·obtain⟨a,p,t,rfl,_⟩:=h;rfl
 ·obtain⟨a,p,t,rfl,ha,hok,hl,k⟩:=h;refine⟨_,(q0b (q4j (pv 0) (@q1q _ _ _ _ (2) _ K rfl rfl (q0p (q0n (i:=2) sc_takes.nd rfl (by trivial)) (q0p (q0n (i:=3) sc_takes.nd rfl (by trivial)) q1b)) (by rfl) (by rfl))) (q0b (q0s (q0h (eq_k K rfl g) (pv 2) q0i (nomark _)) (q0e (q0l (q2r (eq_k K rfl g) (pv 1) (pv 3) (nomark _)))) q0j) (q0e (q0l (pe_c C.gap_takes g (q0a (pv 3) (q0a (pv 1) q0c))))))),?_⟩;refine⟨_,rfl,a,_,rfl,SqT.of ha,rfl,_,_,rfl,_,_,rfl,rfl,?_⟩;cases p with
  |tx l =>
   refine⟨_,rfl,.inl ⟨rfl,_,rfl,?_⟩⟩;refine⟨_,rfl,_,rfl,.inl ⟨rfl,?_⟩⟩;have:=k H (Same.refl H);rw[show(Pt.tx l).takes t=decide (V.str (mk t)=V.str (mk l)) from(dec_str t l).symm] at this;exact this
  |gp c =>
   refine⟨_,rfl,.inl ⟨rfl,_,rfl,?_⟩⟩;exact⟨_,rfl,_,rfl,c,t,rfl,hl,λo sm=>k o sm⟩
structure CallsC (P:Ak) (w:World) (K:Ah) (mg:Str->Option Value) (base:Heap):Prop where
 takes:Cal P w K mg base "takes" 3 Y7 spTakes
noncomputable def spFurthest:Sp:=λvs H Q _=>∃a p n d g,vs=[.ref a,.str (mk n),.ref d]/\H a=some (.tup p.vs)/\p.ok/\n.length<=60/\DF H d g/\∀e H',H e=none->Same H H'->DF H' e (far p n λx=>(g x).isSome)->Q (.ref e) H'
noncomputable abbrev q2a:Stmt:=top 52
def sc_furthest_ends:FnScope ["part", "name", "later", "ends", "begin", "end"] Zl (defScope q2a):=by trivial
def q6q(D:Df K mg "furthest_ends" q2a Zl)(T:Txt mg)(C:CallsC P w K mg base):Cal P w K mg base "furthest_ends" 4 Zl spFurthest:=by
 refine D.cal sc_furthest_ends (λvs H Q E h=>?_) (λf a2 A outer s H vs Q E X h=>?_)
 ·obtain⟨a,p,n,d,g,rfl,_⟩:=h;rfl
 ·obtain⟨a,p,n,d,g,rfl,ha,hok,hn,hd,k⟩:=h;refine⟨_,(q0b (q0k (i:=3) sc_furthest_ends.nd rfl (by trivial) x2s) (q0b (q1u Dc rfl (q3m rfl T.b_range (q0a (q0v q0r (q0q (q1z K rfl) (by rfl) T.b_len Br (q0a (pv 1) q0c)) q0g) q0c)) (q0n (i:=4) sc_furthest_ends.nd rfl (by trivial)) (q0e (q1u Dc rfl (z7y rfl T.b_range (q0a (pv 4) (q0a (q0v q0r (q0q (q1z K rfl) (by rfl) T.b_len Br (q0a (pv 1) q0c)) q0g) q0c))) (q0n (i:=5) sc_furthest_ends.nd rfl (by trivial)) (q0e (q0s (pt_j (@PW.pt _ _ _ (q5a (q3i (x4u (q9r X) (pv 5) (pv 2))) (q2w (@q9x _ _ _ K rfl (pe_c C.takes X (q0a (pv 0) (q0a (q1c (sl_k K rfl) (pv 1) (q0z (pv 4)) (q0z (pv 5))) q0c))) (λ_=>rfl)))))) (q0e (z9c (q9r X) (pv 3) (pv 4) (pv 5) rfl)) q0j))))) (q0e (q0l (pv 3))))),?_⟩;have a1:=q0x n;intro e Y;generalize hL:(λx=>(g x).isSome)=L at k;refine⟨_,rfl,_,_,rfl,⟨small (by lia),rfl⟩,.inl ⟨_,_,rfl,rfl,?_⟩⟩;refine⟨_,rfl,by lia,by lia,q5c (λi J U=>∃Z I o,J=[some (.ref a),some (.str (mk n)),some (.ref d),some (.ref e),Z,I]/\Same H U/\U e=some (.dK o)/\o.length<=i*61/\∀b:Nat,valV o (Sum.inl (b:Int))=(if b<i then far p n L b else none).map λe=>V.int (e:Nat))
   ⟨none,none,[],rfl,(Same.refl H).new Y,q0d,Bf _,λb=>by rw[if_neg (Xq b)];rfl⟩ ?_ ?_⟩
  ·rintro i J U hi ⟨Z,I,o,rfl,sm,M,O,G⟩;have hi':i<=n.length:=by lia
   rw[show(0:Int)+(i:Int)=((i:Nat):Int) from by lia];refine⟨_,rfl,_,rfl,_,_,rfl,⟨small (by lia),rfl⟩,.inl ⟨_,_,rfl,rfl,?_⟩⟩;have ek:((((mk n).length:Nat):Int)+1-((i:Nat):Int)).toNat=n.length+1-i:=by lia
   refine⟨_,_,rfl,⟨by lia,by lia,by lia,by lia⟩,?_⟩;rw[ek];refine q5c (λj R S=>∃I o,R=[some (.ref a),some (.str (mk n)),some (.ref d),some (.ref e),some (.int (i:Nat)),I]/\Same H S/\S e=some (.dK o)/\o.length<=i*61+j/\∀b:Nat,valV o (Sum.inl (b:Int))=(if b<i then far p n L b else if b=i then farTo p n L i j else none).map λe=>V.int (e:Nat))
    ⟨I,o,rfl,sm,M,O,λb=>?_⟩ ?_ ?_
   ·rw[G b];by_cases z:b<i
    ·grind
    ·rw[if_neg z,if_neg z];split<;>rfl
   ·rintro j R S hj ⟨I,o,rfl,B,u,W,v⟩;rw[show((i:Nat):Int)+(j:Int)=((i+j:Nat):Int) from by lia];have a0:=q5v p n L i j;refine⟨λbb H3=>bb=(L (i+j)&&p.takes (cut n i (i+j)))/\Same S H3,?_,?_⟩
    ·rintro bb H3 ⟨rfl,F⟩;refine ite2 (λh=>?_) (λh=>?_)
     ·refine⟨_,rfl,_,rfl,_,rfl,e,_,rfl,DPut.k (k:=Sum.inl ((i:Nat):Int)) (F _ _ u) (small' (by lia)),?_⟩;refine⟨_,_,rfl,(B.trans F).put Y,q0d,Bg (q1w _ _ _) (by lia),λb=>?_⟩;have:=x4w (b:=i) (e:=i+j) v b;by_cases z:b=i
      ·grind
      ·grind
     ·refine⟨_,_,rfl,B.trans F,F _ _ u,by lia,λb=>?_⟩;rw[v b,a0,if_neg h]
    ·refine⟨_,rfl,_,rfl,d,_,rfl,(hd.same B).get (i+j),_,rfl,?_⟩;have eL:((g (i+j)).map λe=>V.int (e:Nat)).isSome=L (i+j):=by grind
     rw[eL];refine iteB (λh=>?_) (λh=>?_)
     ·refine⟨_,rfl,_,rfl,_,rfl,_,rfl,_,rfl,_,rfl,.inl ⟨_,rfl,small (by lia),?_⟩⟩;rw[q8a (by lia) (by lia)];refine⟨a,p,cut n i (i+j),rfl,B _ _ ha,hok,?_,λH3 F=>⟨_,rfl,?_,F⟩⟩
      ·unfold cut;rw[Dg,Dh];lia
      ·grind
     ·refine⟨?_,Same.refl S⟩;rw[h,Sk]
   ·rintro R S ⟨I,o,rfl,B,u,W,v⟩;refine⟨_,_,o,rfl,B,u,by lia,λb=>?_⟩;rw[v b];by_cases z:b<i
    ·grind
    ·rw[if_neg z];by_cases z2:b=i
     ·subst z2;rw[if_pos rfl,if_pos (by lia)];unfold far;rw[if_pos hi']
     ·grind
  ·rintro J U ⟨Z,I,o,rfl,sm,M,O,G⟩;have et:((((mk n).length:Nat):Int)+1).toNat=n.length+1:=by lia
   rw[et] at O G;refine⟨_,rfl,k e U Y sm ⟨o,M,?_,λb=>?_⟩⟩
   ·grind
   ·rw[G b];by_cases z:b<n.length+1
    ·rw[if_pos z]
    ·rw[if_neg z];unfold far;rw[if_neg (by lia)]
structure CallsD (P:Ak) (w:World) (K:Ah) (mg:Str->Option Value) (base:Heap):Prop where
 furthest_ends:Cal P w K mg base "furthest_ends" 4 Zl spFurthest
noncomputable def spEnds:Sp:=λvs H Q _=>∃L n ps,vs=[.ref L,.str (mk n)]/\HL H L ps/\(∀p∈ps,p.ok)/\ps.length<=3000/\n.length<=60/\∀E H' ds,H E=none->Same H H'->H' E=some (.lst (ds.map V.ref))->DS H' n ds ps->Q (.ref E) H'
def x7c{f:Type}{l:List f}{x:f}(h:l.reverse[i]?=some x):i<l.length/\l[l.length-1-i]?=some x:=by
 have g:i<l.length:=by
  have:=(As.mp h).1;simpa using this
 exact⟨g,by rwa [List.getElem?_reverse g] at h⟩
noncomputable abbrev q2b:Stmt:=top 53
def sc_ends_of_parts:FnScope ["parts", "name", "later", "ends", "part"] Y4 (defScope q2b):=by trivial
def q6r(D:Df K mg "ends_of_parts" q2b Y4)(T:Txt mg)(C:CallsD P w K mg base):Cal P w K mg base "ends_of_parts" 5 Y4 spEnds:=by
 refine D.cal sc_ends_of_parts (λvs H Q E h=>?_) (λf b0 A outer s H vs Q E hr h=>?_)
 ·obtain⟨L,n,j,rfl,_⟩:=h;rfl
 ·obtain⟨L,n,j,rfl,hL,hok,b1,hn,k⟩:=h;refine⟨_,(q0b (q0k (i:=2) sc_ends_of_parts.nd rfl (by trivial) (x6h (x2u (q0q (q1z K rfl) (by rfl) T.b_len Br (q0a (pv 1) q0c)) (q0q (q1z K rfl) (by rfl) T.b_len Br (q0a (pv 1) q0c)) x6g) rfl rfl (by simp) (by decide))) (q0b (q0k (i:=3) sc_ends_of_parts.nd rfl (by trivial) (q1j q0c)) (q0b (q1u Dc rfl (@rev_k _ _ _ _ _ _ K rfl rfl T.b_reversed (q0a (pv 0) q0c) (by rfl)) (q0n (i:=4) sc_ends_of_parts.nd rfl (by trivial)) (q0b (q0k (i:=2) sc_ends_of_parts.nd rfl (by trivial) (pe_c C.furthest_ends hr (q0a (pv 4) (q0a (pv 1) (q0a (pv 2) q0c))))) (q0e (q0u (@bm_k _ _ _ _ _ _ _ _ _ _ _ _ K rfl Bi Ce Cf q1d (pv 3) (q0a (pv 2) q0c) (by rfl) (by rfl) (by rfl) (by rfl) (by rfl)))))) (q0b (q0u (@z1t _ _ _ _ _ _ _ _ _ K rfl Bi PySem.F.slot_list_reverse PySem.F.type_list_reverse z6s (pv 3) (by rfl) (by rfl))) (q0e (q0l (pv 3))))))),?_⟩;have U:=q0x n;obtain⟨Ts,h1,h2⟩:=hL.ex;have W:=h2.len;intro I X;refine⟨_,rfl,_,_,rfl,⟨small (by lia),rfl⟩,_,rfl,_,_,rfl,⟨small (by lia),rfl⟩,q0d,[(Sum.inl ((n.length:Nat):Int),.int ((n.length:Nat):Int))],?_,Tc rfl,?_⟩
  ·rw[U];rfl
  have M:Same H (upd (upd H I (.dK [])) I (.dK (mergeK [] [(Sum.inl ((n.length:Nat):Int),.int ((n.length:Nat):Int))]))):=((Same.refl H).new X).put X;have Y:DF (upd (upd H I (.dK [])) I (.dK (mergeK [] [(Sum.inl ((n.length:Nat):Int),.int ((n.length:Nat):Int))]))) I (λb=>if b=n.length then some n.length else none):=by
   refine⟨_,q0d,Tc rfl,λb=>?_⟩;have:=x4w (kvs:=[]) (b:=n.length) (e:=n.length) (f:=λ_=>none) (λc=>rfl) b;exact this
  generalize b2:upd (upd H I (.dK [])) I _=H1 at M Y;refine⟨by show 0<=sizeLine;decide,λE hE=>?_⟩;have B:H E=none:=M.free hE;have Z:Same H (upd H1 E (.lst [])):=M.new hE;have b3:E≠L:=λz=>by subst z;rw[B] at h1;cases h1
  refine⟨_,rfl,L,_,rfl,Z _ _ h1,?_⟩;refine x6i (xs:=Ts.map V.ref) (λi G O=>∃d g x4 ds,G=[some (.ref L),some (.str (mk n)),some (.ref d),some (.ref E),x4]/\Same H O/\DF O d g/\(∀b,(g b).isSome=fits n (j.drop (j.length-i)) b)/\O E=some (.lst (ds.map V.ref))/\DS O n ds.reverse (j.drop (j.length-i))/\i<=j.length)
   ⟨I,_,none,[],rfl,Z,Y.new hE,λb=>?_,q0d,?_,Bf _⟩ (λi G O q=>by obtain⟨_,_,_,_,_,sm,_⟩:=q;exact SqL.of (sm _ _ h1)) ?_ ?_
  ·rw[show j.length-0=j.length from rfl,Kg];show(if b=n.length then some n.length else none).isSome=decide (b=n.length);by_cases z:b=n.length
   ·rw[if_pos z,decide_eq_true z];rfl
   ·rw[if_neg z,decide_eq_false z];rfl
  ·rw[show j.length-0=j.length from rfl,Kg];exact .nil
  ·rintro i x G O hx ⟨d,g,x4,ds,rfl,sm,hd,hg,o,u,a6⟩;obtain⟨hi,a0⟩:=x7c hx;rw[Af] at hi a0;obtain⟨T1,p,rfl,hp,a7⟩:=h2.get a0;rw[W] at hp hi;have a8:p∈j:=Bd hp;have a4:j.drop (j.length-(i+1))=p::j.drop (j.length-i):=by
    have:=q2k hp;rw[show j.length-1-i=j.length-(i+1) from by lia,show j.length-(i+1)+1=j.length-i from by lia] at this;exact this
   refine⟨_,rfl,_,rfl,_,rfl,T1,p,n,d,g,rfl,sm _ _ a7,hok p a8,hn,hd,λe H2 he R a5=>?_⟩;have eg:(λx=>(g x).isSome)=fits n (j.drop (j.length-i)):=funext hg;rw[eg] at a5;have a9:=u.len;rw[Uj,Dh] at a9;have S:H2 E=some (.lst (ds.map V.ref)):=R _ _ o;refine⟨_,rfl,.inl ⟨rfl,_,SqL.of S⟩,_,rfl,E,_,_,rfl,rfl,S,by rw[Af];exact small' (by lia),?_⟩;have eE:E≠e:=λz=>by subst z;rw[he] at o;cases o
   have J:DF (upd H2 E (.lst (ds.map V.ref++[.ref e]))) e (far p n (fits n (j.drop (j.length-i)))):=by
    obtain⟨v,a1,a2,a3⟩:=a5.ex;exact⟨v,by rw[q0f (Bz eE)];exact a1,a2,a3⟩
   refine⟨e,_,_,ds++[e],rfl,(sm.trans R).put B,J,λb=>?_,by rw[Au];exact q0d,?_,by lia⟩
   ·rw[a4];rfl
   ·rw[a4,List.reverse_append];refine .cons J ?_;refine(u.same R).keepL ?_;exact λb v z=>by rw[q0f (λy=>by subst y;rw[S] at z;cases z)];exact z
  ·rintro G O ⟨d,g,x4,ds,rfl,sm,hd,hg,o,u,a6⟩;rw[Af,W,Vk,Sy] at u;refine⟨_,rfl,.inl ⟨rfl,_,SqL.of o⟩,E,_,rfl,rfl,o,?_⟩;refine⟨_,rfl,k E _ ds.reverse B (sm.put B) (by rw[<- List.map_reverse];exact q0d) (u.keepL ?_)⟩;exact λb v z=>by rw[q0f (λy=>by subst y;rw[o] at z;cases z)];exact z
structure CallsE (P:Ak) (w:World) (K:Ah) (mg:Str->Option Value) (base:Heap):Prop where
 parts_of:Cal P w K mg base "parts_of" 2 Zf spPartsOf
 ends_of_parts:Cal P w K mg base "ends_of_parts" 5 Y4 spEnds
noncomputable def spReading:Sp:=λvs H Q _=>∃l n,vs=[.str (mk l),.str (mk n)]/\Good l/\n.length<=60/\(fits n (parse [] l) 0=false->∀H',Same H H'->Q .non H') /\
 (fits n (parse [] l) 0=true->∀L H',H L=none->Same H H'->H' L=some (.lst (vN (rd n (parse [] l) 0)))->Q (.ref L) H')
def wgg(p:Pt):decide (V.str p.word=V.str (Ab "gap"))=p.isG:=by
 cases p with
 |tx l=>show decide (V.str (Ab "text")=V.str (Ab "gap"))=false;decide +kernel
 |gp c=>exact decide_eq_true rfl
noncomputable abbrev q6b:Stmt:=top 54
def sc_reading:FnScope ["pattern", "name", "parts", "ends", "texts", "begin", "part", "part_ends", "end"] Zx (defScope q6b):=by trivial
def z7i(D:Df K mg "reading" q6b Zx)(T:Txt mg)(C:CallsE P w K mg base):Cal P w K mg base "reading" 6 Zx spReading:=by
 refine D.cal sc_reading (λvs H Q E h=>?_) (λf d7 A outer s H vs Q E hr h=>?_)
 ·obtain⟨l,n,rfl,_⟩:=h;rfl
 ·obtain⟨l,n,rfl,hg,hn,kN,kS⟩:=h;refine⟨_,(q0b (q0k (i:=2) sc_reading.nd rfl (by trivial) (pe_c C.parts_of hr (q0a (pv 0) q0c))) (q0b (q0k (i:=3) sc_reading.nd rfl (by trivial) (pe_c C.ends_of_parts hr (q0a (pv 2) (q0a (pv 1) q0c)))) (q0b (q0s (q3i (z1y (q9r hr) q0g (q0w (ix_k K rfl) (pv 3) q0g (λ_ _=>rfl)))) (q0e (q0l q8q)) q0j) (q0b (q0k (i:=4) sc_reading.nd rfl (by trivial) (q1j q0c)) (q0b (q0k (i:=5) sc_reading.nd rfl (by trivial) q0g) (q0b (q1u Dc rfl (@zip_k _ _ _ _ _ _ _ _ _ K rfl rfl T.b_zip (q0a (pv 2) (q0a (pv 3) q0c)) (by rfl) (by rfl)) (@q1q _ _ _ _ (2) _ K rfl rfl (q0p (q0n (i:=6) sc_reading.nd rfl (by trivial)) (q0p (q0n (i:=7) sc_reading.nd rfl (by trivial)) q1b)) (by rfl) (by rfl)) (q0b (q0k (i:=8) sc_reading.nd rfl (by trivial) (z9b (q9r hr) (pv 7) (pv 5) (λ_ _=>rfl))) (q1v (q0s (q0h (eq_k K rfl hr) (q0w (ix_k K rfl) (pv 6) q0g (λ_ _=>rfl)) q0i (nomark _)) (q0e (q0u (@bm_k _ _ _ _ _ _ _ _ _ _ _ _ K rfl Bi Ce Cf q1d (pv 4) (q0a (q1c (sl_k K rfl) (pv 1) (q0z (pv 5)) (q0z (pv 8))) q0c) (by rfl) (by rfl) (by rfl) (by rfl) (by rfl)))) q0j) (q0e (q0k (i:=5) sc_reading.nd rfl (by trivial) (pv 8)))))) (q0e (q0l (pv 4))))))))),?_⟩;have d6:=q0x n;have d8:=hg.len;refine⟨_,rfl,l,rfl,hg,λL H1 hL c1 M=>?_⟩;have hok:=q9z l [] (λ_ h=>nomatch h) hg.sg;have a8:=x4v l [] (.inr hg.ne);have a9:=q7p l [];generalize c2:parse [] l=o at M hok a8 a9 kN kS;refine⟨_,rfl,_,rfl,L,n,o,rfl,M,hok,by lia,hn,λE Z ds hE b0 O F=>?_⟩;have G:=c1.trans b0;have R:=F.len;obtain⟨u,g,rfl⟩:∃u g,o=u::g:=by cases o with|nil=>exact absurd rfl a8|cons a b=>exact⟨a,b,rfl⟩
  obtain⟨d0,a0,rfl⟩:∃d0 a0,ds=d0::a0:=by cases ds with|nil=>simp at R|cons a b=>exact⟨a,b,rfl⟩
  have c3:fits n (u::g) 0=(far u n (fits n g) 0).isSome:=rfl;obtain⟨q0,c4,b1⟩:=F.get (i:=0) rfl;cases c4;refine⟨_,rfl,.inl ⟨E,_,0,.ref d0,rfl,rfl,SqL.of O,q1m (j:=0) rfl,d0,_,rfl,b1.get 0,_,rfl,?_⟩⟩;have eS:((far u n (fits n ((u::g).drop (0+1))) 0).map λe=>V.int (e:Nat)).isSome=fits n (u::g) 0:=by
   rw[c3];show(Option.map _ (far u n (fits n g) 0)).isSome=_;cases far u n (fits n g) 0<;>rfl
  rw[eS];refine iteB (λh=>?_) (λh=>?_)
  ·refine kN ?_ Z G;cases hz:fits n (u::g) 0 with
   |false=>rfl
   |true=>rw[hz] at h;cases h
  have I:fits n (u::g) 0=true:=by
   cases hz:fits n (u::g) 0 with
   |true=>rfl
   |false=>rw[hz] at h;cases h
  replace kS:=kS I;generalize c2:u::g=o at M hok R F I kS a9;generalize d9:d0::a0=ds at R F O;refine⟨by show 0<=sizeLine;decide,λX hX=>?_⟩;have c5:H X=none:=G.free hX;have a5:Same Z (upd Z X (.lst [])):=(Same.refl Z).new hX;have b2:HL Z L o:=M.same b0;obtain⟨Ts,h1,h2⟩:=b2.ex;have c6:=h2.len;refine .inr ⟨_,rfl,_,rfl,L,E,_,_,rfl,SqL.of (a5 _ _ h1),SqL.of (a5 _ _ O),x2m (xs:=Ts.map V.ref) (ys:=ds.map V.ref) (λi S U=>∃b v x6 x7 x8,S=[some (.str (mk l)),some (.str (mk n)),some (.ref L),some (.ref E),some (.ref X),some (.int (b:Nat)),x6,x7,x8]/\Same Z U/\U X=some (.lst (vN v))/\fits n (o.drop i) b=true/\v++rd n (o.drop i) b=rd n o 0/\v.length<=i/\i<=o.length) ⟨0,[],none,none,none,rfl,a5,q0d,I,rfl,Ai _,Bf _⟩ (λi S U q=>by obtain⟨_,_,_,_,_,_,sm,_⟩:=q;exact⟨SqL.of (sm _ _ h1),SqL.of (sm _ _ O)⟩) ?_ ?_⟩
  ·rintro i x y T' S U hx hy ⟨b,v,x6,x7,x8,rfl,sm,a6,a7,B,c7,c8⟩ c9;obtain⟨T1,p,rfl,hp,d1⟩:=h2.get hx;obtain⟨d,hd,rfl⟩:∃d,ds[i]?=some d/\y=V.ref d:=by
    rw[Bm] at hy;cases hz:ds[i]? with
    |none=>rw[hz] at hy;cases hy
    |some d=>rw[hz] at hy;cases hy;exact⟨d,rfl,rfl⟩
   obtain⟨p',b3,d2⟩:=F.get hd;rw[hp] at b3;cases b3;have d3:=q2k hp;rw[d3] at a7 B;have hf:(far p n (fits n (o.drop (i+1))) b).isSome=true:=a7;obtain⟨e,he⟩:∃e,far p n (fits n (o.drop (i+1))) b=some e:=by
    cases hz:far p n (fits n (o.drop (i+1))) b with
    |none=>rw[hz] at hf;cases hf
    |some e=>exact⟨e,rfl⟩
   obtain⟨a1,a2,a3,a4,_⟩:=z5q he;have hi:i<o.length:=(As.mp hp).1;refine⟨T',_,rfl,SqT.of q0d,rfl,_,_,rfl,_,_,rfl,rfl,?_⟩;generalize d4:upd U T' _=H3;have b4:Same U H3:=by rw[<- d4];exact(Same.refl U).new c9
   have W:Same Z H3:=sm.trans b4;have b5:=(d2.same W).get b;rw[he] at b5;refine⟨_,rfl,_,rfl,d,_,rfl,b5,?_⟩;have J:H3 X=some (.lst (vN v)):=b4 _ _ a6;have b6:H3 T1=some (.tup p.vs):=W _ _ d1;refine⟨λb7 H4=>∃Y,b7=[some (.str (mk l)),some (.str (mk n)),some (.ref L),some (.ref E),some (.ref X),some (.int (b:Nat)),some (.ref T1),some (.ref d),some (.int (e:Nat))]/\Same Z H4/\H4 X=some (.lst (vN Y))/\Y=(if p.isG then v++[cut n b e] else v),?_,?_⟩
   ·rintro b7 H4 ⟨Y,rfl,d5,b8,b9⟩;refine⟨_,rfl,e,Y,_,_,_,rfl,d5,b8,a3,?_,?_,hi⟩
    ·rw[<- B,b9];show _=v++rd n (p::o.drop (i+1)) b;cases hG:p.isG with
     |true=>simp[rd,hG,he]
     |false=>simp[rd,hG,he]
    ·rw[b9];split
     ·rw[Aj,Bk];lia
     ·lia
   ·refine⟨_,rfl,.inr (.inl ⟨T1,_,0,_,rfl,rfl,SqT.of b6,rfl,.inl ⟨rfl,_,rfl,?_⟩⟩)⟩;rw[wgg];refine ite2 (λh=>?_) (λh=>?_)
    ·refine⟨_,rfl,.inl ⟨rfl,_,SqL.of J⟩,_,rfl,_,rfl,_,rfl,_,rfl,_,rfl,.inl ⟨_,rfl,small (by lia),?_⟩⟩;rw[q8a a1 a2];refine⟨X,_,_,rfl,rfl,J,by rw[Af];exact small' (by lia),?_⟩;exact⟨v++[cut n b e],rfl,W.put hX,by rw[show vN (v++[cut n b e])=vN v++[V.str (mk (cut n b e))] from Au];exact q0d,by rw[if_pos h]⟩
    ·exact⟨v,rfl,W,J,by rw[if_neg h]⟩
  ·rintro S U ⟨b,v,x6,x7,x8,rfl,sm,a6,a7,B,c7,c8⟩;have c0:min (Ts.map V.ref).length (ds.map V.ref).length=o.length:=by rw[Af,Af,c6,R,Vg]
   rw[c0,Kg] at B;rw[show rd n [] b=[] from rfl,Dq] at B;refine⟨_,rfl,kS X U c5 (G.trans sm) ?_⟩;rw[<- B];exact a6
end
end K
set_option maxHeartbeats 4000000
namespace K
open PySem L2 TX
section
variable{P:Ak}{w:World}{K:Ah}{mg:Str->Option Value}{base:Heap}
noncomputable def spAsked:Sp:=λvs H Q _=>∃(l:List Nat) (at_ c:Nat) (g:Str),vs=[.str (mk l),.int (at_:Int),.str g]/\l[at_]?=some c/\c∈tl g/\l.length<=1000/\Q (.str (mk [c])) H
noncomputable abbrev q6x:Stmt:=top 31
def z5x:FnScope Z3 Z3 (defScope q6x):=by trivial
def x3p(D:Df K mg "asked" q6x Z3)(T:Txt mg):Cal P w K mg base "asked" 1 Z3 spAsked:=by
 refine D.cal z5x (λvs H Q E h=>?_) (λf B A outer s H vs Q E G h=>?_)
 ·obtain⟨l,at_,c,g,rfl,_⟩:=h;rfl
 ·obtain⟨l,at_,c,g,rfl,o,C,hl,k⟩:=h;refine⟨_,(q0b (q0s (pt_j (@PW.pt _ _ _ (q7b (q0h op_ge (pv 1) (q0q (q1z K rfl) (by rfl) T.b_len Br (q0a (pv 0) q0c)) (nomark _)) (q3l (q0h (z4c K rfl) (q0w (ix_k K rfl) (pv 0) (pv 1) (λ_ _=>rfl)) (pv 2) (by with_unfolding_all rfl)))))) (q0e q1r) q0j) (q0e (q0l (q0w (ix_k K rfl) (pv 0) (pv 1) (λ_ _=>rfl))))),?_⟩;have u:=q0x l;have F:=(As.mp o).1;have j:atI (tl (mk l)) ((at_:Nat):Int)=some c:=q1m (by rw[q1g];exact o);refine⟨λb v=>b=false/\v=H,?_,?_⟩;rotate_left
  ·refine⟨_,rfl,_,rfl,_,_,rfl,⟨small (by lia),rfl⟩,_,_,rfl,rfl,_,rfl,?_⟩;refine iteB (λh=>absurd (of_decide_eq_true h) (by lia)) (λh=>?_);refine⟨_,rfl,_,rfl,.inr (.inr ⟨mk l,_,c,rfl,rfl,small (by lia),j,_,rfl,.inl ⟨_,_,rfl,rfl,_,rfl,?_,rfl⟩⟩)⟩;rw[q6j,decide_eq_true C];rfl
  rintro b v ⟨rfl,rfl⟩;exact iteF ⟨_,rfl,_,rfl,.inr (.inr ⟨mk l,_,c,rfl,rfl,small (by lia),j,k⟩)⟩
noncomputable def spEndOf:Sp:=λvs H Q _=>∃(l:List Nat) (at_ most k:Nat) (g:Str),vs=[.str (mk l),.int (at_:Int),.str g,.int (most:Int)]/\l.length<=1000/\at_+k<=l.length/\k<=most/\(∀j,j<k->∃c,l[at_+j]?=some c/\c∈tl g)/\(k=most\/at_+k=l.length\/∃c,l[at_+k]?=some c/\¬c∈tl g)/\Q (.int ((at_+k:Nat):Int)) H
noncomputable def enMeas(n:Nat)(σ:St):Nat:=match σ[4]? with|some (some (V.int e))=>n-e.toNat|_=>0
noncomputable abbrev q8c:Stmt:=top 32
def sc_end_of:FnScope ["template", "at", "signs", "most", "end"] Zb (defScope q8c):=by trivial
def x0s(D:Df K mg "end_of" q8c Zb)(T:Txt mg):Cal P w K mg base "end_of" 1 Zb spEndOf:=by
 refine D.cal sc_end_of (λvs H Q E h=>?_) (λf L A outer s H vs Q E Y h=>?_)
 ·obtain⟨l,at_,o,n,g,rfl,_⟩:=h;rfl
 ·obtain⟨l,at_,o,n,g,rfl,hl,M,Z,O,R,k⟩:=h;refine⟨_,(q0b (q0k (i:=4) sc_end_of.nd rfl (by trivial) (pv 1)) (q0b (q9l Dc (pt_j (@PW.pt _ _ _ (q5a (q0h z3w (pv 4) (q0q (z1f rfl) (by rfl) T.b_min (by trivial) (q0a (q0q (q1z K rfl) (by rfl) T.b_len Br (q0a (pv 0) q0c)) (q0a (q0v q0r (pv 1) (pv 3)) q0c))) (nomark _)) (q2w (q0h (in_k K rfl) (q0w (ix_k K rfl) (pv 0) (pv 4) (λ_ _=>rfl)) (pv 2) (by with_unfolding_all rfl)))))) (q0e (z7w (i:=4) sc_end_of.nd rfl (by trivial) q0g z3v))) (q0e (q0l (pv 4))))),?_⟩;have C:=q0x l;refine⟨_,rfl,?_⟩;refine q9m (λu v=>∃j:Nat,u=[some (.str (mk l)),some (.int (at_:Int)),some (.str g),some (.int (o:Int)),some (.int ((at_+j:Nat):Int))]/\v=H/\j<=n) (λu _=>enMeas (at_+n+1) u) ⟨0,rfl,rfl,Bf _⟩ ?_ ?_
  ·rintro u v ⟨j,rfl,rfl,hj⟩;refine⟨λb F=>F=v/\b=decide (j<n),?_,?_⟩;rotate_left
   ·refine⟨_,rfl,_,rfl,_,_,rfl,⟨small (by lia),rfl⟩,_,rfl,_,rfl,.inl ⟨_,_,rfl,rfl,_,_,rfl,?_⟩⟩;refine⟨_,_,rfl,rfl,_,rfl,?_⟩;refine iteB (λh=>?_) (λh=>?_)
    ·have h1:=of_decide_eq_true h;have B:at_+j<l.length/\j<o:=by grind
     have hd:=Bt B.1;refine⟨_,rfl,_,rfl,.inr (.inr ⟨mk l,_,l[at_+j],rfl,rfl,small (by lia),q1m (show(tl (mk l))[at_+j]?=_ by rw[q1g];exact hd),_,rfl,.inl ⟨_,_,rfl,rfl,_,rfl,rfl,?_⟩⟩)⟩;rw[q6j];by_cases G:j<n
     ·grind
     ·grind
    ·grind
   rintro b F ⟨rfl,rfl⟩;refine ite2 (λh=>?_) (λh=>?_)
   ·have G:=of_decide_eq_true h;refine⟨_,rfl,_,_,rfl,rfl,⟨j+1,rfl,rfl,by lia⟩,?_⟩;show at_+n+1-(((at_+j:Nat):Int)+1).toNat<at_+n+1-((at_+j:Nat):Int).toNat;lia
   ·have G:¬j<n:=λz=>h (decide_eq_true z);have S:j=n:=by lia
    subst S;exact⟨_,rfl,k⟩
  ·rintro σ H Q Q' U ⟨J,W,X⟩;exact⟨J,λb I z=>U b I (W b I z),X⟩
inductive Pc where
 |tx (l:List Nat)
 |gap (k:Nat)
 |great (k:Nat)
 |small (k:Nat)
 |nou (k w:Nat)
 |more (k m:Nat)
 |cnt (v:Nat)
 |into
noncomputable def Pc.vs:Pc->List V
 |.tx l=>[.str (Ab "text"),.str (mk l)]
 |.gap k=>[.str (Ab "gap"),.int (k:Int)]
 |.great k=>[.str (Ab "great"),.int (k:Int)]
 |.small k=>[.str (Ab "small"),.int (k:Int)]
 |.nou k w=>[.str (Ab "noughts"),.int (k:Int),.int (w:Int)]
 |.more k m=>[.str (Ab "more"),.int (k:Int),.int (m:Int)]
 |.cnt v=>[.str (Ab "count"),.int (v:Int)]
 |.into=>[.str (Ab "into")]
noncomputable def cntW(v:Nat):List Nat:=if v=1 then[125] else[48+v,125]
noncomputable def Pc.wr:Pc->List Nat
 |.tx l=>l
 |.gap k=>123::(48+k)::[125]
 |.great k=>123::(48+k)::[117,125]
 |.small k=>123::(48+k)::[108,125]
 |.nou k w=>123::(48+k)::122::[48+w,125]
 |.more k m=>123::(48+k)::43::(dg m++[125])
 |.cnt v=>123::110::cntW v
 |.into=>[47]
noncomputable def Pc.ok:Pc->Prop
 |.tx l=>l≠[]/\∀c∈l,c∈NS
 |.gap k=>1<=k/\k<=9
 |.great k=>1<=k/\k<=9
 |.small k=>1<=k/\k<=9
 |.nou k w=>(1<=k/\k<=9)/\1<=w/\w<=9
 |.more k m=>(1<=k/\k<=9)/\m<10^9
 |.cnt v=>1<=v/\v<=9
 |.into=>True
noncomputable def RT(H:Hp)(Q:VK)(p:Pc)(e:Nat):Prop:=∀T1 T2 H',H T1=none->H T2=none->Same H H'->H' T1=some (.tup p.vs)->H' T2=some (.tup [.ref T1,.int ((e:Nat):Int)])->Q (.ref T2) H'
def RT.go(h:RT H Q p e)(o:i=((e:Nat):Int))(j:H T1=none)(g:upd H T1 (.tup p.vs) T2=none):Q (.ref T2) (upd (upd H T1 (.tup p.vs)) T2 (.tup [.ref T1,.int i])):=by
 subst o;have f:=q0t q0d g;refine h T1 T2 _ j (by rw[q0f (Bz f)] at g;exact g) (((Same.refl H).new j).new g) ?_ q0d;rw[q0f f];exact q0d
def q1e{l:List Nat}(h:l.drop i=c::r):l[i]?=some c/\l.drop (i+1)=r:=by
 have f:=congrArg (λx=>x[0]?) h;refine⟨by simpa[Po] using f,?_⟩;rw[<- List.drop_drop,h];rfl
def z5y(h:v<10):Lw (mk [48+v])=some (v:Int):=by rw[<- q4c h];exact z9h (by lia)
structure CallsT (P:Ak) (w:World) (K:Ah) (mg:Str->Option Value) (base:Heap):Prop where
 asked:Cal P w K mg base "asked" 1 Z3 spAsked
 end_of:Cal P w K mg base "end_of" 1 Zb spEndOf
noncomputable def spCount:Sp:=λvs H Q _=>∃(l r:List Nat) (a v:Nat),vs=[.str (mk l),.int (a:Int)]/\l.length<=1000/\1<=v/\v<=9/\l.drop a=cntW v++r/\RT H Q (.cnt v) (a+(cntW v).length)
def in_two:∀v,v<10->2<=v->48+v∈tl (Ab "}" ++ Ab "23456789"):=by trivial
def x7d:∀v,v<10->1<=v->48+v∈tl (Ab "123456789"):=by trivial
def in_fig:∀v,v<10->48+v∈tl (Ab "0123456789"):=by trivial
noncomputable abbrev q3c:Stmt:=top 33
def sc_read_count:FnScope ["template", "at", "sign"] Z0 (defScope q3c):=by trivial
def z0l(D:Df K mg "read_count" q3c Z0)(T:Txt mg)(C:CallsT P w K mg base):Cal P w K mg base "read_count" 2 Z0 spCount:=by
 refine D.cal sc_read_count (λvs H Q E h=>?_) (λf J A outer s H vs Q E u h=>?_)
 ·obtain⟨l,r,a,v,rfl,_⟩:=h;rfl
 ·obtain⟨l,r,a,v,rfl,hl,L,M,hd,k⟩:=h;obtain⟨_,g⟩:=T.FROM_TWO;refine⟨_,(q0b (q0k (i:=2) sc_read_count.nd rfl (by trivial) (pe_c C.asked u (q0a (pv 0) (q0a (pv 1) (q0a (q0v q0r q0i (q0m (v:=.str (Ab "23456789")) (by rfl) g ⟨_,rfl⟩)) q0c))))) (q0b (q0s (q0h (eq_k K rfl u) (pv 2) q0i (nomark _)) (q0e (q0l (q0o (q0a (q0o (q0a q0i (q0a q0g q0c))) (q0a (q0v q0r (pv 1) q0g) q0c))))) q0j) (q0b (q0u (pe_c C.asked u (q0a (pv 0) (q0a (q0v q0r (pv 1) q0g) (q0a q0i q0c))))) (q0e (q0l (q0o (q0a (q0o (q0a q0i (q0a (q1p q2u (by rfl) T.b_int (by trivial) (q0a (pv 2) q0c)) q0c))) (q0a (q0v q0r (pv 1) q0g) q0c)))))))),?_⟩;have U:(Ab "}").length+(Ab "23456789").length<=1000:=by trivial
  by_cases I:v=1
  ·subst I;have hd':=hd;obtain⟨B,_⟩:=q1e hd';refine⟨_,rfl,_,rfl,.inr (.inl ⟨_,_,rfl,rfl,small (by lia),l,a,125,_,rfl,B,by trivial,hl,?_⟩)⟩;refine⟨_,rfl,.inl ⟨rfl,_,rfl,?_⟩⟩;refine iteT ⟨by decide,λO j=>⟨_,rfl,.inl ⟨_,_,rfl,rfl,by show 2<=sizeLine;decide,λR o=>?_⟩⟩⟩;exact k.go (by show(a:Int)+1=((a+1:Nat):Int);lia) j o
  ·have S:cntW v=[48+v,125]:=by unfold cntW;rw[if_neg I]
   rw[S] at hd k;obtain⟨B,F⟩:=q1e (show l.drop a=(48+v)::(125::r) from hd);obtain⟨G,_⟩:=q1e F;refine⟨_,rfl,_,rfl,.inr (.inl ⟨_,_,rfl,rfl,small (by lia),l,a,48+v,_,rfl,B,in_two v (by lia) (by lia),hl,?_⟩)⟩;refine⟨_,rfl,.inl ⟨rfl,_,rfl,?_⟩⟩;rw[lit1 (48+v) 125 "}" (by trivial),decide_eq_false (by lia)];refine iteF ⟨_,rfl,_,rfl,.inl ⟨_,_,rfl,rfl,l,a+1,125,_,by rfl,G,by trivial,hl,?_⟩⟩;refine⟨_,rfl,.inr ⟨_,_,rfl,z5y (by lia),by rw[q0x];show 1<=640;decide,by show 2<=sizeLine;decide,λO j=>⟨_,rfl,.inl ⟨_,_,rfl,rfl,by show 2<=sizeLine;decide,λR o=>?_⟩⟩⟩⟩;exact k.go (by show(a:Int)+2=((a+2:Nat):Int);lia) j o
noncomputable def spNoughts:Sp:=λvs H Q _=>∃(l r:List Nat) (a g v:Nat),vs=[.str (mk l),.int (a:Int),.int (g:Int)]/\l.length<=1000/\1<=v/\v<=9/\l.drop a=(48+v)::125::r/\RT H Q (.nou g v) (a+2)
noncomputable abbrev q2g:Stmt:=top 34
def sc_read_noughts:FnScope ["template", "at", "gap", "width"] Z2 (defScope q2g):=by trivial
def q8d(D:Df K mg "read_noughts" q2g Z2)(T:Txt mg)(C:CallsT P w K mg base):Cal P w K mg base "read_noughts" 2 Z2 spNoughts:=by
 refine D.cal sc_read_noughts (λvs H Q E h=>?_) (λf I A outer s H vs Q E G h=>?_)
 ·obtain⟨l,r,a,g,v,rfl,_⟩:=h;rfl
 ·obtain⟨l,r,a,g,v,rfl,hl,J,L,hd,k⟩:=h;obtain⟨_,j⟩:=T.FROM_ONE;refine⟨_,(q0b (q0k (i:=3) sc_read_noughts.nd rfl (by trivial) (pe_c C.asked G (q0a (pv 0) (q0a (pv 1) (q0a (q0m (v:=.str (Ab "123456789")) (by rfl) j ⟨_,rfl⟩) q0c))))) (q0b (q0u (pe_c C.asked G (q0a (pv 0) (q0a (q0v q0r (pv 1) q0g) (q0a q0i q0c))))) (q0e (q0l (q0o (q0a (q0o (q0a q0i (q0a (pv 2) (q0a (q1p q2u (by rfl) T.b_int (by trivial) (q0a (pv 3) q0c)) q0c)))) (q0a (q0v q0r (pv 1) q0g) q0c))))))),?_⟩;obtain⟨M,o⟩:=q1e hd;obtain⟨u,_⟩:=q1e o;refine⟨_,rfl,_,rfl,l,a,48+v,_,rfl,M,x7d v (by lia) (by lia),hl,?_⟩;refine⟨_,rfl,_,rfl,.inl ⟨_,_,rfl,rfl,l,a+1,125,_,by rfl,u,by trivial,hl,?_⟩⟩;refine⟨_,rfl,_,rfl,.inr ⟨_,_,rfl,z5y (by lia),by rw[q0x];show 1<=640;decide,by show 3<=sizeLine;decide,λO B=>⟨_,rfl,.inl ⟨_,_,rfl,rfl,by show 2<=sizeLine;decide,λR F=>?_⟩⟩⟩⟩;exact k.go (by show(a:Int)+2=((a+2:Nat):Int);lia) B F
noncomputable def spMore:Sp:=λvs H Q _=>∃(l r:List Nat) (a g m:Nat),vs=[.str (mk l),.int (a:Int),.int (g:Int)]/\l.length<=1000/\m<10^9/\l.drop a=dg m++125::r/\RT H Q (.more g m) (a+(dg m).length+1)
def z0m{l:List Nat}(h:l.drop a=x++y)(f:j<x.length):∃c,l[a+j]?=some c/\x[j]?=some c:=by
 refine⟨x[j],?_,Bt f⟩;rw[<- Po,h,Ks f];exact Bt f
def z5z{l:List Nat}(h:l.drop a=x++y):l.drop (a+x.length)=y:=by
 rw[<- List.drop_drop,h,List.drop_left]
def z6a{l:List Nat}(h:l.drop a=x++y)(f:x≠[]):a+x.length<=l.length:=by
 have g:=congrArg List.length h;rw[Dh,Aj] at g;have:=Ea.mpr f;lia
noncomputable abbrev q3q:Stmt:=top 35
def sc_read_more:FnScope ["template", "at", "gap", "first", "end"] Z2 (defScope q3q):=by trivial
def z2w(D:Df K mg "read_more" q3q Z2)(T:Txt mg)(C:CallsT P w K mg base):Cal P w K mg base "read_more" 2 Z2 spMore:=by
 refine D.cal sc_read_more (λvs H Q E h=>?_) (λf a1 A outer s H vs Q E G h=>?_)
 ·obtain⟨l,r,a,g,m,rfl,_⟩:=h;rfl
 ·obtain⟨l,r,a,g,m,rfl,hl,hm,hd,k⟩:=h;obtain⟨_,u⟩:=T.FIGURES;obtain⟨_,o⟩:=T.MOST_FIGURES;refine⟨_,(q0b (q0k (i:=3) sc_read_more.nd rfl (by trivial) (pe_c C.asked G (q0a (pv 0) (q0a (pv 1) (q0a (q0m (v:=.str (Ab "0123456789")) (by rfl) u ⟨_,rfl⟩) q0c))))) (q0b (q0k (i:=4) sc_read_more.nd rfl (by trivial) (pe_c C.end_of G (q0a (pv 0) (q0a (pv 1) (q0a (q0m (v:=.str (Ab "0123456789")) (by rfl) u ⟨_,rfl⟩) (q0a (pe_j (q6u (q0h (eq_k K rfl G) (pv 3) q0i (nomark _)) q0g (q0m (v:=.int 9) (by rfl) o ⟨_,rfl⟩))) q0c)))))) (q0b (q0u (pe_c C.asked G (q0a (pv 0) (q0a (pv 4) (q0a q0i q0c))))) (q0e (q0l (q0o (q0a (q0o (q0a q0i (q0a (pv 2) (q0a (q1p q2u (by rfl) T.b_int (by trivial) (q0a (q1c (sl_k K rfl) (pv 0) (q0z (pv 1)) (q0z (pv 4))) q0c)) q0c)))) (q0a (q0v q0r (pv 4) q0g) q0c)))))))),?_⟩;have a0:=q0x l;obtain⟨I,r0,J,L,M⟩:=x6j m;have S:=q6l 8 m (by lia);have U:dg m≠[]:=by grind
  have W:=z6a hd U;have O:=x4x m;obtain⟨X,_⟩:=q1e (show l.drop a=(48+I)::(r0++125::r) by rw[hd,J];rfl);obtain⟨R,_⟩:=q1e (z5z hd);refine⟨_,rfl,_,rfl,l,a,48+I,_,rfl,X,in_fig I L,hl,?_⟩;refine⟨_,rfl,_,rfl,?_⟩;refine⟨λv H'=>H'=H/\∃B:Nat,v=.int (B:Int)/\(dg m).length<=B,?_,?_⟩;rotate_left
  ·refine⟨_,rfl,.inl ⟨rfl,_,rfl,?_⟩⟩;rw[lit1 (48+I) 48 "0" (by trivial)];refine ite2 (λh=>?_) (λh=>?_)
   ·have hz:I=0:=by have:=of_decide_eq_true h;lia
    have G:=(M hz).2;exact⟨rfl,1,rfl,by rw[J,G];simp⟩
   ·exact⟨rfl,9,rfl,S⟩
  rintro v H' ⟨rfl,B,rfl,F⟩;refine⟨l,a,B,(dg m).length,_,rfl,hl,W,F,λj hj=>?_,.inr (.inr ⟨125,R,by trivial⟩),?_⟩
  ·obtain⟨c,h1,h2⟩:=z0m hd hj;exact⟨c,h1,O c (Bd h2)⟩
  refine⟨_,rfl,_,rfl,l,a+(dg m).length,125,_,rfl,R,by trivial,hl,?_⟩;refine⟨_,rfl,_,rfl,_,rfl,_,rfl,_,rfl,_,rfl,.inl ⟨_,rfl,small (by lia),?_⟩⟩;rw[z1z (by lia) (by lia),show a+(dg m).length-a=(dg m).length from by lia,hd,List.take_left];refine .inr ⟨_,_,rfl,z9h (by lia),by rw[q0x];lia,by show 3<=sizeLine;decide,λT1 Y=>⟨_,rfl,.inl ⟨_,_,rfl,rfl,by show 2<=sizeLine;decide,λT2 Z=>?_⟩⟩⟩;exact k.go (by show((a+(dg m).length:Nat):Int)+1=((a+(dg m).length+1:Nat):Int);lia) Y Z
noncomputable def spRText:Sp:=λvs H Q _=>∃(l t r:List Nat) (a:Nat),vs=[.str (mk l),.int (a:Int)]/\l.length<=1000/\l.drop a=t++r/\t≠[]/\(∀c∈t,c∈NS)/\(∀c r',r=c::r'->¬c∈NS)/\RT H Q (.tx t) (a+t.length)
noncomputable abbrev q3r:Stmt:=top 39
def sc_read_text:FnScope ["template", "at", "end"] Z0 (defScope q3r):=by trivial
def z2x(D:Df K mg "read_text" q3r Z0)(T:Txt mg)(C:CallsT P w K mg base):Cal P w K mg base "read_text" 2 Z0 spRText:=by
 refine D.cal sc_read_text (λvs H Q E h=>?_) (λf S A outer s H vs Q E O h=>?_)
 ·obtain⟨l,t,r,a,rfl,_⟩:=h;rfl
 ·obtain⟨l,t,r,a,rfl,hl,hd,o,u,F,k⟩:=h;obtain⟨_,g⟩:=T.NAME_SIGNS;refine⟨_,(q0b (q0u (pe_c C.asked O (q0a (pv 0) (q0a (pv 1) (q0a (q0m (v:=.str (Ab "abcdefghijklmnopqrstuvwxyzABCDEFGHIJKLMNOPQRSTUVWXYZ0123456789-_.")) (by rfl) g ⟨_,rfl⟩) q0c))))) (q0b (q0k (i:=2) sc_read_text.nd rfl (by trivial) (pe_c C.end_of O (q0a (pv 0) (q0a (pv 1) (q0a (q0m (v:=.str (Ab "abcdefghijklmnopqrstuvwxyzABCDEFGHIJKLMNOPQRSTUVWXYZ0123456789-_.")) (by rfl) g ⟨_,rfl⟩) (q0a (q0q (q1z K rfl) (by rfl) T.b_len Br (q0a (pv 0) q0c)) q0c)))))) (q0e (q0l (q0o (q0a (q0o (q0a q0i (q0a (q1c (sl_k K rfl) (pv 0) (q0z (pv 1)) (q0z (pv 2))) q0c))) (q0a (pv 2) q0c))))))),?_⟩;have B:=q0x l;have G:=z6a hd o;have U:=Ea.mpr o;obtain⟨R,I,J⟩:=z0m hd U;refine⟨_,rfl,_,rfl,l,a,R,_,rfl,I,u R (Bd J),hl,?_⟩;refine⟨_,rfl,_,rfl,_,rfl,_,_,rfl,⟨small (by lia),rfl⟩,?_⟩;refine⟨l,a,l.length,t.length,_,by rw[B];rfl,hl,G,by lia,λj W=>?_,?_,?_⟩
  ·obtain⟨c,X,Y⟩:=z0m hd W;exact⟨c,X,u c (Bd Y)⟩
  ·cases r with
   |nil =>grind
   |cons c r'=>exact .inr (.inr ⟨c,(q1e (z5z hd)).1,F c r' rfl⟩)
  refine⟨_,rfl,_,rfl,_,rfl,_,rfl,_,rfl,.inl ⟨_,rfl,small (by lia),?_⟩⟩;rw[z1z (by lia) (by lia),show a+t.length-a=t.length from by lia,hd,List.take_left];refine⟨by show 2<=sizeLine;decide,λZ L=>⟨_,rfl,by show 2<=sizeLine;decide,λT2 M=>?_⟩⟩;exact k.go rfl L M
noncomputable def spInto:Sp:=λvs H Q _=>∃(l:List Nat) (a c:Nat),vs=[.str (mk l),.int (a:Int)]/\l.length<=1000/\1<=a/\l[a-1]?=some c/\c≠47/\RT H Q .into (a+1)
noncomputable abbrev q3s:Stmt:=top 38
def z2y:FnScope Z0 Z0 (defScope q3s):=by trivial
def z2z(D:Df K mg "read_into" q3s Z0)(T:Txt mg):Cal P w K mg base "read_into" 1 Z0 spInto:=by
 refine D.cal z2y (λvs H Q E h=>?_) (λf B A outer s H vs Q E o h=>?_)
 ·obtain⟨l,a,c,rfl,_⟩:=h;rfl
 ·obtain⟨l,a,c,rfl,hl,ha,C,hn,k⟩:=h;refine⟨_,(q0b (q0s (pt_j (@PW.pt _ _ _ (q7b (q0h (eq_k K rfl o) (pv 1) q0g (nomark _)) (q3l (q0h (eq_k K rfl o) (q0w (ix_k K rfl) (pv 0) (q0v z5g (pv 1) q0g) (λ_ _=>rfl)) q0i (nomark _)))))) (q0e q1r) q0j) (q0e (q0l (q0o (q0a (q0o (q0a q0i q0c)) (q0a (q0v q0r (pv 1) q0g) q0c)))))),?_⟩;have u:=q0x l;refine⟨λb v=>b=false/\v=H,?_,?_⟩;rotate_left
  ·refine⟨_,rfl,.inl ⟨rfl,_,rfl,?_⟩⟩;refine iteB (λh=>?_) (λh=>?_)
   ·grind
   refine⟨_,rfl,_,rfl,_,_,rfl,rfl,.inr (.inr ⟨mk l,_,c,rfl,rfl,small (by lia),?_,.inl ⟨rfl,_,rfl,?_,rfl⟩⟩)⟩
   ·rw[show((a:Nat):Int)-1=((a-1:Nat):Int) from by lia];exact q1m (show(tl (mk l))[a-1]?=_ by rw[q1g];exact C)
   ·show decide (V.str (mk [c])=V.str (Ab "/"))=false;rw[lit1 c 47 "/" (by trivial),decide_eq_false hn]
  rintro b v ⟨rfl,rfl⟩;refine iteF ⟨by decide,λF g=>⟨_,rfl,.inl ⟨_,_,rfl,rfl,by show 2<=sizeLine;decide,λG j=>?_⟩⟩⟩;exact k.go (by show(a:Int)+1=((a+1:Nat):Int);lia) g j
noncomputable def casesKV:List (Key×V):=[(Sum.inr (Ab "u"),.str (Ab "great")),(Sum.inr (Ab "l"),.str (Ab "small"))]
structure CallsU (P:Ak) (w:World) (K:Ah) (mg:Str->Option Value) (base:Heap):Prop where
 asked:Cal P w K mg base "asked" 1 Z3 spAsked
 read_noughts:Cal P w K mg base "read_noughts" 2 Z2 spNoughts
 read_more:Cal P w K mg base "read_more" 2 Z2 spMore
 cases_:∃d,mg "CASES" = some (.ref d)/\KDict P w K d casesKV
noncomputable def Pc.gt:Pc->Option (Nat×List Nat)
 |.gap k=>some (k,[125])
 |.great k=>some (k,[117,125])
 |.small k=>some (k,[108,125])
 |.nou k w=>some (k,[122,48+w,125])
 |.more k m=>some (k,43::(dg m++[125]))
 |_=>none
noncomputable def spGap:Sp:=λvs H Q _=>∃(l r t:List Nat) (a g:Nat) (p:Pc),vs=[.str (mk l),.int (a:Int),.int (g:Int)]/\l.length<=1000/\p.ok/\p.gt=some (g,t)/\l.drop a=t++r/\RT H Q p (a+t.length)
noncomputable abbrev q3d:Stmt:=top 36
def sc_read_gap:FnScope ["template", "at", "gap", "sign"] Z2 (defScope q3d):=by trivial
def z4q(D:Df K mg "read_gap" q3d Z2)(T:Txt mg)(C:CallsU P w K mg base):Cal P w K mg base "read_gap" 3 Z2 spGap:=by
 refine D.cal sc_read_gap (λvs H Q E h=>?_) (λf W A outer s H vs Q E L h=>?_)
 ·obtain⟨l,r,t,a,g,p,rfl,_⟩:=h;rfl
 ·obtain⟨l,r,t,a,g,p,rfl,hl,hok,j,hd,k⟩:=h;obtain⟨Y,u,B⟩:=C.cases_;refine⟨_,(q0b (q0k (i:=3) sc_read_gap.nd rfl (by trivial) (pe_c C.asked L (q0a (pv 0) (q0a (pv 1) (q0a q0i q0c))))) (q0b (q0s (q0h (eq_k K rfl L) (pv 3) q0i (nomark _)) (q0e (q0l (q0o (q0a (q0o (q0a q0i (q0a (pv 2) q0c))) (q0a (q0v q0r (pv 1) q0g) q0c))))) q0j) (q0b (q0s (q0h (eq_k K rfl L) (pv 3) q0i (nomark _)) (q0e (q0l (pe_c C.read_noughts L (q0a (pv 0) (q0a (q0v q0r (pv 1) q0g) (q0a (pv 2) q0c)))))) q0j) (q0b (q0s (q0h (eq_k K rfl L) (pv 3) q0i (nomark _)) (q0e (q0l (pe_c C.read_more L (q0a (pv 0) (q0a (q0v q0r (pv 1) q0g) (q0a (pv 2) q0c)))))) q0j) (q0b (q0u (pe_c C.asked L (q0a (pv 0) (q0a (q0v q0r (pv 1) q0g) (q0a q0i q0c))))) (q0e (q0l (q0o (q0a (q0o (q0a (z9i (by rfl) u B (pv 3) (λ_ _=>rfl)) (q0a (pv 2) q0c))) (q0a (q0v q0r (pv 1) q0g) q0c)))))))))),?_⟩;have I:∀(c d:Nat) (s:String),Ab s=mk [d]->c≠d->decide (V.str (mk [c])=V.str (Ab s))=false:=λc d s R X=>by rw[lit1 c d s R,decide_eq_false X]
  have M:∀(c:Nat) (s:String),Ab s=mk [c]->decide (V.str (mk [c])=V.str (Ab s))=true:=λc s R=>by rw[lit1 c c s R,decide_eq_true rfl]
  cases p with
  |tx l=>cases j
  |cnt v=>cases j
  |into=>cases j
  |gap kk =>
   cases j;obtain⟨J,_⟩:=q1e (show l.drop a=125::r from hd);refine⟨_,rfl,_,rfl,l,a,125,_,rfl,J,by trivial,hl,?_⟩;refine⟨_,rfl,.inl ⟨rfl,_,rfl,?_⟩⟩;rw[M 125 "}" (by trivial)];refine iteT ⟨_,rfl,by show 2<=sizeLine;decide,λS F=>⟨_,rfl,.inl ⟨_,_,rfl,rfl,by show 2<=sizeLine;decide,λU G=>?_⟩⟩⟩;exact k.go (by show(a:Int)+1=((a+1:Nat):Int);lia) F G
  |great kk =>
   cases j;obtain⟨J,o⟩:=q1e (show l.drop a=117::(125::r) from hd);obtain⟨O,_⟩:=q1e o;refine⟨_,rfl,_,rfl,l,a,117,_,rfl,J,by trivial,hl,?_⟩;refine⟨_,rfl,.inl ⟨rfl,_,rfl,?_⟩⟩;rw[I 117 125 "}" (by trivial) (by decide)];refine iteF ⟨_,rfl,.inl ⟨rfl,_,rfl,?_⟩⟩;rw[I 117 122 "z" (by trivial) (by decide)];refine iteF ⟨_,rfl,.inl ⟨rfl,_,rfl,?_⟩⟩;rw[I 117 43 "+" (by trivial) (by decide)];refine iteF ⟨_,rfl,_,rfl,.inl ⟨_,_,rfl,rfl,l,a+1,125,_,by rfl,O,by trivial,hl,?_⟩⟩;refine⟨_,rfl,Sum.inr (Ab "u"),.str (Ab "great"),?_,by trivial,_,rfl,by show 2<=sizeLine;decide,λS F=>⟨_,rfl,.inl ⟨_,_,rfl,rfl,by show 2<=sizeLine;decide,λU G=>?_⟩⟩⟩
   ·exact congrArg V.str (by decide +kernel:mk [117]=Ab "u")
   exact k.go (by show(a:Int)+2=((a+2:Nat):Int);lia) F G
  |small kk =>
   cases j;obtain⟨J,o⟩:=q1e (show l.drop a=108::(125::r) from hd);obtain⟨O,_⟩:=q1e o;refine⟨_,rfl,_,rfl,l,a,108,_,rfl,J,by trivial,hl,?_⟩;refine⟨_,rfl,.inl ⟨rfl,_,rfl,?_⟩⟩;rw[I 108 125 "}" (by trivial) (by decide)];refine iteF ⟨_,rfl,.inl ⟨rfl,_,rfl,?_⟩⟩;rw[I 108 122 "z" (by trivial) (by decide)];refine iteF ⟨_,rfl,.inl ⟨rfl,_,rfl,?_⟩⟩;rw[I 108 43 "+" (by trivial) (by decide)];refine iteF ⟨_,rfl,_,rfl,.inl ⟨_,_,rfl,rfl,l,a+1,125,_,by rfl,O,by trivial,hl,?_⟩⟩;refine⟨_,rfl,Sum.inr (Ab "l"),.str (Ab "small"),?_,by trivial,_,rfl,by show 2<=sizeLine;decide,λS F=>⟨_,rfl,.inl ⟨_,_,rfl,rfl,by show 2<=sizeLine;decide,λU G=>?_⟩⟩⟩
   ·exact congrArg V.str (by decide +kernel:mk [108]=Ab "l")
   exact k.go (by show(a:Int)+2=((a+2:Nat):Int);lia) F G
  |nou kk ww =>
   cases j;obtain⟨J,o⟩:=q1e (show l.drop a=122::((48+ww)::125::r) from hd);refine⟨_,rfl,_,rfl,l,a,122,_,rfl,J,by trivial,hl,?_⟩;refine⟨_,rfl,.inl ⟨rfl,_,rfl,?_⟩⟩;rw[I 122 125 "}" (by trivial) (by decide)];refine iteF ⟨_,rfl,.inl ⟨rfl,_,rfl,?_⟩⟩;rw[M 122 "z" (by trivial)];refine iteT ⟨_,rfl,_,rfl,.inl ⟨_,_,rfl,rfl,_,rfl,l,r,a+1,g,ww,by rfl,hl,hok.2.1,hok.2.2,o,?_⟩⟩;rw[show a+1+2=a+[122,48+ww,125].length from rfl];exact k
  |more kk m =>
   cases j;obtain⟨J,o⟩:=q1e (show l.drop a=43::((dg m++[125])++r) from hd);refine⟨_,rfl,_,rfl,l,a,43,_,rfl,J,by trivial,hl,?_⟩;refine⟨_,rfl,.inl ⟨rfl,_,rfl,?_⟩⟩;rw[I 43 125 "}" (by trivial) (by decide)];refine iteF ⟨_,rfl,.inl ⟨rfl,_,rfl,?_⟩⟩;rw[I 43 122 "z" (by trivial) (by decide)];refine iteF ⟨_,rfl,.inl ⟨rfl,_,rfl,?_⟩⟩;rw[M 43 "+" (by trivial)];refine iteT ⟨_,rfl,_,rfl,.inl ⟨_,_,rfl,rfl,_,rfl,l,r,a+1,g,m,by rfl,hl,hok.2,by rw[o,Mi];rfl,?_⟩⟩;rw[show a+1+(dg m).length+1=a+(43::(dg m++[125])).length from by rw[Be,Aj,Bk];lia];exact k
structure CallsV (P:Ak) (w:World) (K:Ah) (mg:Str->Option Value) (base:Heap):Prop where
 asked:Cal P w K mg base "asked" 1 Z3 spAsked
 read_count:Cal P w K mg base "read_count" 2 Z0 spCount
 read_gap:Cal P w K mg base "read_gap" 3 Z2 spGap
noncomputable def spMark:Sp:=λvs H Q _=>∃(l r t:List Nat) (a:Nat) (p:Pc),vs=[.str (mk l),.int (a:Int)]/\l.length<=1000/\p.ok/\p.wr=123::t/\(∀x,p≠.tx x)/\l.drop a=t++r/\RT H Q p (a+t.length)
def in_n:∀v,v<10->1<=v->48+v∈tl (Ab "n" ++ Ab "123456789"):=by trivial
def gt_of{p:Pc}{t:List Nat}(hok:p.ok)(f:p.wr=123::t)(j:∀x,p≠.tx x):(∃v,p=.cnt v/\t=110::cntW v)\/∃g u,p.gt=some (g,u)/\t=(48+g)::u/\1<=g/\g<=9:=by
 cases p with
 |tx l=>exact absurd rfl (j l)
 |into=>injection f with h _;exact absurd h (by decide)
 |cnt v=>injection f with _ f;exact .inl ⟨v,rfl,f.symm⟩
 |gap k=>injection f with _ f;exact .inr ⟨k,_,rfl,f.symm,hok.1,hok.2⟩
 |great k=>injection f with _ f;exact .inr ⟨k,_,rfl,f.symm,hok.1,hok.2⟩
 |small k=>injection f with _ f;exact .inr ⟨k,_,rfl,f.symm,hok.1,hok.2⟩
 |nou k v=>injection f with _ f;exact .inr ⟨k,_,rfl,f.symm,hok.1.1,hok.1.2⟩
 |more k m=>injection f with _ f;exact .inr ⟨k,_,rfl,f.symm,hok.1.1,hok.1.2⟩
noncomputable abbrev q2m:Stmt:=top 37
def sc_read_mark:FnScope ["template", "at", "sign"] Z0 (defScope q2m):=by trivial
def z3a(D:Df K mg "read_mark" q2m Z0)(T:Txt mg)(C:CallsV P w K mg base):Cal P w K mg base "read_mark" 4 Z0 spMark:=by
 refine D.cal sc_read_mark (λvs H Q E h=>?_) (λf J A outer s H vs Q E B h=>?_)
 ·obtain⟨l,r,t,a,p,rfl,_⟩:=h;rfl
 ·obtain⟨l,r,t,a,p,rfl,hl,hok,L,M,hd,k⟩:=h;obtain⟨_,j⟩:=T.FROM_ONE;refine⟨_,(q0b (q0k (i:=2) sc_read_mark.nd rfl (by trivial) (pe_c C.asked B (q0a (pv 0) (q0a (pv 1) (q0a (q0v q0r q0i (q0m (v:=.str (Ab "123456789")) (by rfl) j ⟨_,rfl⟩)) q0c))))) (q0b (q0s (q0h (eq_k K rfl B) (pv 2) q0i (nomark _)) (q0e (q0l (pe_c C.read_count B (q0a (pv 0) (q0a (q0v q0r (pv 1) q0g) q0c))))) q0j) (q0e (q0l (pe_c C.read_gap B (q0a (pv 0) (q0a (q0v q0r (pv 1) q0g) (q0a (q1p q2u (by rfl) T.b_int (by trivial) (q0a (pv 2) q0c)) q0c)))))))),?_⟩;have R:(Ab "n").length+(Ab "123456789").length<=1000:=by trivial
  rcases gt_of hok L M with⟨v,rfl,rfl⟩|⟨g,u,F,rfl,G,O⟩
  ·obtain⟨I,o⟩:=q1e (show l.drop a=110::(cntW v++r) from hd);refine⟨_,rfl,_,rfl,.inr (.inl ⟨_,_,rfl,rfl,TX.small (by lia),l,a,110,_,rfl,I,by trivial,hl,?_⟩)⟩;refine⟨_,rfl,.inl ⟨rfl,_,rfl,?_⟩⟩;rw[lit1 110 110 "n" (by trivial),decide_eq_true rfl];refine iteT ⟨_,rfl,_,rfl,.inl ⟨_,_,rfl,rfl,l,r,a+1,v,by rfl,hl,hok.1,hok.2,o,?_⟩⟩;rw[show a+1+(cntW v).length=a+(110::cntW v).length from by rw[Be];lia];exact k
  ·obtain⟨I,o⟩:=q1e (show l.drop a=(48+g)::(u++r) from hd);refine⟨_,rfl,_,rfl,.inr (.inl ⟨_,_,rfl,rfl,TX.small (by lia),l,a,48+g,_,rfl,I,in_n g (by lia) G,hl,?_⟩)⟩;refine⟨_,rfl,.inl ⟨rfl,_,rfl,?_⟩⟩;rw[lit1 (48+g) 110 "n" (by trivial),decide_eq_false (by lia)];refine iteF ⟨_,rfl,_,rfl,.inl ⟨_,_,rfl,rfl,_,rfl,.inr ⟨_,_,rfl,z5y (by lia),by rw[q0x];show 1<=640;decide,l,r,u,a+1,g,p,by rfl,hl,hok,F,o,?_⟩⟩⟩;rw[show a+1+u.length=a+((48+g)::u).length from by rw[Be];lia];exact k
structure CallsW (P:Ak) (w:World) (K:Ah) (mg:Str->Option Value) (base:Heap):Prop where
 read_mark:Cal P w K mg base "read_mark" 4 Z0 spMark
 read_into:Cal P w K mg base "read_into" 1 Z0 spInto
 read_text:Cal P w K mg base "read_text" 2 Z0 spRText
noncomputable def spPiece:Sp:=λvs H Q _=>∃(l r:List Nat) (a:Nat) (p:Pc),vs=[.str (mk l),.int (a:Int)]/\l.length<=1000/\p.ok/\l.drop a=p.wr++r/\((∃x,p=.tx x)->∀c r',r=c::r'->¬c∈NS)/\(p=.into->1<=a/\∃c,l[a-1]?=some c/\c≠47)/\RT H Q p (a+p.wr.length)
def no123:(123:Nat)∉NS:=by trivial
def no47:(47:Nat)∉NS:=by trivial
def x7e{p:Pc}(f:∀x,p≠.tx x)(g:p≠.into):∃t,p.wr=123::t:=by
 cases p with
 |tx l=>exact absurd rfl (f l)
 |into=>exact absurd rfl g
 |_=>exact⟨_,rfl⟩
noncomputable abbrev q2c:Stmt:=top 40
def q5p:FnScope Z0 Z0 (defScope q2c):=by trivial
def z0n(D:Df K mg "read_piece" q2c Z0)(T:Txt mg)(C:CallsW P w K mg base):Cal P w K mg base "read_piece" 5 Z0 spPiece:=by
 refine D.cal q5p (λvs H Q E h=>?_) (λf R A outer s H vs Q E o h=>?_)
 ·obtain⟨l,r,a,p,rfl,_⟩:=h;rfl
 ·obtain⟨l,r,a,p,rfl,hl,hok,hd,v,B,k⟩:=h;refine⟨_,(q0b (q0s (q0h (eq_k K rfl o) (q0w (ix_k K rfl) (pv 0) (pv 1) (λ_ _=>rfl)) q0i (nomark _)) (q0e (q0l (pe_c C.read_mark o (q0a (pv 0) (q0a (q0v q0r (pv 1) q0g) q0c))))) q0j) (q0b (q0s (q0h (eq_k K rfl o) (q0w (ix_k K rfl) (pv 0) (pv 1) (λ_ _=>rfl)) q0i (nomark _)) (q0e (q0l (pe_c C.read_into o (q0a (pv 0) (q0a (pv 1) q0c))))) q0j) (q0e (q0l (pe_c C.read_text o (q0a (pv 0) (q0a (pv 1) q0c))))))),?_⟩;have J:=q0x l;have at_:∀c,l[a]?=some c->atI (tl (mk l)) ((a:Nat):Int)=some c:=λc g=>q1m (by rw[q1g];exact g)
  by_cases L:∃x,p=.tx x
  ·obtain⟨t,rfl⟩:=L;obtain⟨c,j,rfl⟩:∃c j,t=c::j:=by cases t with|nil=>exact absurd rfl hok.1|cons c j=>exact⟨c,j,rfl⟩
   have u:=hok.2 c Av;obtain⟨g,_⟩:=q1e (show l.drop a=c::(j++r) from hd);refine⟨_,rfl,_,rfl,.inr (.inr ⟨mk l,_,c,rfl,rfl,TX.small (by lia),at_ c g,.inl ⟨rfl,_,rfl,?_⟩⟩)⟩;show if decide (V.str (mk [c])=V.str (Ab "{"))=true then _ else _
   rw[lit1 c 123 "{" (by trivial),decide_eq_false (λz:c=123=>no123 (z▸u))];refine iteF ⟨_,rfl,_,rfl,.inr (.inr ⟨mk l,_,c,rfl,rfl,TX.small (by lia),at_ c g,.inl ⟨rfl,_,rfl,?_⟩⟩)⟩;show if decide (V.str (mk [c])=V.str (Ab "/"))=true then _ else _
   rw[lit1 c 47 "/" (by trivial),decide_eq_false (λz:c=47=>no47 (z▸u))];refine iteF ⟨_,rfl,_,rfl,l,c::j,r,a,by rfl,hl,hd,hok.1,hok.2,v ⟨_,rfl⟩,k⟩
  ·by_cases M:p=.into
   ·subst M;obtain⟨g,_⟩:=q1e (show l.drop a=47::r from hd);obtain⟨ha,c,F,G⟩:=B rfl;refine⟨_,rfl,_,rfl,.inr (.inr ⟨mk l,_,47,rfl,rfl,TX.small (by lia),at_ 47 g,.inl ⟨rfl,_,rfl,?_⟩⟩)⟩;show if decide (V.str (mk [47])=V.str (Ab "{"))=true then _ else _
    rw[lit1 47 123 "{" (by trivial),decide_eq_false (by decide)];refine iteF ⟨_,rfl,_,rfl,.inr (.inr ⟨mk l,_,47,rfl,rfl,TX.small (by lia),at_ 47 g,.inl ⟨rfl,_,rfl,?_⟩⟩)⟩;show if decide (V.str (mk [47])=V.str (Ab "/"))=true then _ else _
    rw[lit1 47 47 "/" (by trivial),decide_eq_true rfl];exact iteT ⟨_,rfl,_,rfl,l,a,c,by rfl,hl,ha,F,G,k⟩
   ·have h1':∀x,p≠.tx x:=λx z=>L ⟨x,z⟩;obtain⟨t,O⟩:=x7e h1' M;rw[O] at hd k;obtain⟨g,I⟩:=q1e (show l.drop a=123::(t++r) from hd);refine⟨_,rfl,_,rfl,.inr (.inr ⟨mk l,_,123,rfl,rfl,TX.small (by lia),at_ 123 g,.inl ⟨rfl,_,rfl,?_⟩⟩)⟩;show if decide (V.str (mk [123])=V.str (Ab "{"))=true then _ else _
    rw[lit1 123 123 "{" (by trivial),decide_eq_true rfl];refine iteT ⟨_,rfl,_,rfl,.inl ⟨_,_,rfl,rfl,l,r,t,a+1,p,by rfl,hl,hok,O,h1',I,?_⟩⟩;rw[show a+1+t.length=a+(123::t).length from by rw[Be];lia];exact k
noncomputable def flatP(ps:List Pc):List Nat:=(ps.map Pc.wr).flatten
def q2e(p:Pc)(ps:List Pc):flatP (p::ps)=p.wr++flatP ps:=by simp[flatP]
def q8e(a b:List Pc):flatP (a++b)=flatP a++flatP b:=by simp[flatP]
def x3q{p:Pc}(h:p.ok):p.wr≠[]:=by
 cases p with
 |tx l=>exact h.1
 |_=>simp[Pc.wr]
structure WP (ps:List Pc):Prop where
 ne:ps≠[]
 ok:∀p∈ps,p.ok
 tt:∀i x y,ps[i]?=some (.tx x)->ps[i+1]?≠some (.tx y)
 ii:∀i,ps[i]?=some .into->1<=i/\ps[i-1]?≠some .into
 la:∀q,ps.getLast?=some q->q≠.into
 sz:(flatP ps).length<=100
def x7f{p:Pc}(h:∀x,p≠.tx x):∃c t,p.wr=c::t/\¬c∈NS:=by
 cases p with
 |tx l=>grind
 |into=>exact⟨47,[],rfl,no47⟩
 |_=>exact⟨123,_,rfl,no123⟩
def x7g{p:Pc}(hok:p.ok)(h:p≠.into):∃t c,p.wr=t++[c]/\c≠47:=by
 cases p with
 |tx l =>
  refine⟨l.dropLast,l.getLast hok.1,(Es hok.1).symm,λz=>?_⟩;have:=hok.2 _ (Wy hok.1);rw[z] at this;exact no47 this
 |into=>exact absurd rfl h
 |gap k=>exact⟨[123,48+k],125,rfl,by decide⟩
 |great k=>exact⟨[123,48+k,117],125,rfl,by decide⟩
 |small k=>exact⟨[123,48+k,108],125,rfl,by decide⟩
 |nou k w=>exact⟨[123,48+k,122,48+w],125,rfl,by decide⟩
 |more k m=>exact⟨123::(48+k)::43::dg m,125,rfl,by decide⟩
 |cnt v =>
  by_cases f:v=1
  ·exact⟨[123,110],125,by show 123::110::cntW v=_;unfold cntW;rw[if_pos f];rfl,by decide⟩
  ·exact⟨[123,110,48+v],125,by show 123::110::cntW v=_;unfold cntW;rw[if_neg f];rfl,by decide⟩
noncomputable abbrev PTu(H:Hp):List Addr->List Pc->Prop:=Hw λT p=>H T=some (.tup p.vs)
structure HP (H:Hp) (L:Addr) (ps:List Pc):Prop where
 ex:∃Ts,H L=some (.lst (Ts.map V.ref))/\PTu H Ts ps
def PTu.keep{H H':Hp}(k:∀T xs,H T=some (.tup xs)->H' T=some (.tup xs)){f:List Addr}{ps:List Pc}(h:PTu H f ps):PTu H' f ps:=by
 induction h with
 |nil=>exact .nil
 |cons r _ ih=>exact .cons (k _ _ r) ih
def PTu.len(h:PTu H Ts ps):Ts.length=ps.length:=Ht h
def PTu.snoc{H:Hp}{T:Addr}{p:Pc}(g:H T=some (.tup p.vs)){f:List Addr}{ps:List Pc}(h:PTu H f ps):PTu H (f++[T]) (ps++[p]):=Wh h g
def PTu.get{f:List Addr}{ps:List Pc}{i:Nat}{T:Addr}(h:PTu H f ps)(e:f[i]?=some T):∃p,ps[i]?=some p/\H T=some (.tup p.vs):=by
 induction h generalizing i with
 |nil=>simp at e
 |cons r _ ih =>
  cases i with
  |zero=>cases e;exact⟨_,rfl,r⟩
  |succ i=>exact ih e
def HP.same(h:HP H L ps)(s:Same H H'):HP H' L ps:=by obtain⟨f,g,j⟩:=h.ex;exact⟨f,s _ _ g,j.keep λT o e=>s _ _ e⟩
def HP.sq(h:HP H L ps):∃xs,SqL K H L xs:=by obtain⟨g,f,_⟩:=h.ex;exact⟨_,SqL.of f⟩
noncomputable def Pc.ds:Pc->List Cv
 |.tx l=>[.str (Ab "text"),.str (mk l)]
 |.gap k=>[.str (Ab "gap"),.int (k:Int)]
 |.great k=>[.str (Ab "great"),.int (k:Int)]
 |.small k=>[.str (Ab "small"),.int (k:Int)]
 |.nou k w=>[.str (Ab "noughts"),.int (k:Int),.int (w:Int)]
 |.more k m=>[.str (Ab "more"),.int (k:Int),.int (m:Int)]
 |.cnt v=>[.str (Ab "count"),.int (v:Int)]
 |.into=>[.str (Ab "into")]
def Pc.dts(p:Pc):Dts K H p.vs p.ds:=by
 cases p<;>first|exact .cons (.str _) (.cons (.str _) .nil)|exact .cons (.str _) (.cons (.int _) .nil)|exact .cons (.str _) (.cons (.int _) (.cons (.int _) .nil))|exact .cons (.str _) .nil
theorem PTu.dts{K:Ah}{H:Hp}:∀{Ts:List Addr} {ps:List Pc},PTu H Ts ps->Dts K H (Ts.map V.ref) (ps.map λp=>.tuple p.ds)
 |_,_,.nil=>.nil
 |_,_,.cons h t=>.cons (.tup (SqT.of h) (Pc.dts _)) (PTu.dts t)
def Pc.lay {p : Pc} (h : p.ok) : (Cv.tuple p.ds).canLay0 = true := by
  cases p with
  | tx l =>
    have h1 := x2q λc hc => x2o c (h.2 c hc);have h2 : Dm (Ab "text") = true := by trivial
    show Bv [.str (Ab "text"), .str (mk l)] = true;simp only [Bv, Dk, h1, h2, Dx]
  | gap k => have h2 : Dm (Ab "gap") = true := by trivial
             simp only [Pc.ds, Bv, Dk, h2, Dx]
  | great k => have h2 : Dm (Ab "great") = true := by trivial
               simp only [Pc.ds, Bv, Dk, h2, Dx]
  | small k => have h2 : Dm (Ab "small") = true := by trivial
               simp only [Pc.ds, Bv, Dk, h2, Dx]
  | nou k w => have h2 : Dm (Ab "noughts") = true := by trivial
               simp only [Pc.ds, Bv, Dk, h2, Dx]
  | more k m => have h2 : Dm (Ab "more") = true := by trivial
                simp only [Pc.ds, Bv, Dk, h2, Dx]
  | cnt v => have h2 : Dm (Ab "count") = true := by trivial
             simp only [Pc.ds, Bv, Dk, h2, Dx]
  | into => decide +kernel
def lays:∀{ps:List Pc},(∀p∈ps,p.ok)->(Cv.list (ps.map λp=>.tuple p.ds)).canLay0=true:=by
 intro ps;show _->Bv (ps.map λp=>.tuple p.ds)=true;induction ps with
 |nil=>intro _;rfl
 |cons p r ih =>
  intro h;have f:=Pc.lay (h p Av);have g:=ih λq j=>h q (Ap _ j);show Bv (.tuple p.ds::r.map λp=>.tuple p.ds)=true;simp only[Bv,f,g,Dx]
def z6b{p:Pc}(h:p≠.into):Fy (.tuple p.ds) (.tuple [.str (Ab "into")])=false:=by
 cases p with
 |into=>exact absurd rfl h
 |_=>simp[Pc.ds,Fy,Ja]
def x3r{ps:List Pc}(h:ps≠[]):Fy (.list (ps.map λp=>.tuple p.ds)) (.list [])=false:=by
 cases ps with
 |nil=>exact absurd rfl h
 |cons p r=>simp[Fy,Ja]
structure CallsX (P:Ak) (w:World) (K:Ah) (mg:Str->Option Value) (base:Heap):Prop where
 read_piece:Cal P w K mg base "read_piece" 5 Z0 spPiece
noncomputable def spPieces:Sp:=λvs H Q _=>∃ps:List Pc,vs=[.str (mk (flatP ps))]/\WP ps/\∀L H',H L=none->Same H H'->HP H' L ps->Q (.ref L) H'
noncomputable def pcMeas(n:Nat)(σ:St):Nat:=match σ[2]? with|some (some (V.int e))=>n-e.toNat|_=>0
noncomputable abbrev q2n:Stmt:=top 41
def sc_pieces_of:FnScope ["template", "pieces", "at", "piece"] Zw (defScope q2n):=by trivial
def z3b(D:Df K mg "pieces_of" q2n Zw)(T:Txt mg)(C:CallsX P w K mg base):Cal P w K mg base "pieces_of" 6 Zw spPieces:=by
 refine D.cal sc_pieces_of (λvs H Q E h=>?_) (λf c7 A outer s H vs Q E J h=>?_)
 ·obtain⟨g,rfl,_⟩:=h;rfl
 ·obtain⟨g,rfl,wp,k⟩:=h;refine⟨_,(q0b (q0k (i:=1) sc_pieces_of.nd rfl (by trivial) (q1j q0c)) (q0b (q0k (i:=2) sc_pieces_of.nd rfl (by trivial) q0g) (q0b (q9l Dc (q0h z3w (pv 2) (q0q (q1z K rfl) (by rfl) T.b_len Br (q0a (pv 0) q0c)) (nomark _)) (q0b (q4j (pe_c C.read_piece J (q0a (pv 0) (q0a (pv 2) q0c))) (@q1q _ _ _ _ (2) _ K rfl rfl (q0p (q0n (i:=3) sc_pieces_of.nd rfl (by trivial)) (q0p (q0n (i:=2) sc_pieces_of.nd rfl (by trivial)) q1b)) (by rfl) (by rfl))) (q0e (q0u (@bm_k _ _ _ _ _ _ _ _ _ _ _ _ K rfl Bi Ce Cf q1d (pv 1) (q0a (pv 3) q0c) (by rfl) (by rfl) (by rfl) (by rfl) (by rfl)))))) (q0b (q0s (pt_j (@PW.pt _ _ _ (q7b (q0h (eq_k K rfl J) (pv 1) (q1j q0c) (nomark _)) (q3l (q0h (eq_k K rfl J) (q0w (ix_k K rfl) (pv 1) (q5d q2j q0g) (λ_ _=>rfl)) (q0o (q0a q0i q0c)) (nomark _)))))) (q0e q1r) q0j) (q0e (q0l (pv 1))))))),?_⟩;generalize hl:flatP g=l;have c6:=q0x l;have c8:l.length<=100:=by rw[<- hl];exact wp.sz
  refine⟨by show 0<=sizeLine;decide,λL hL=>?_⟩;have a8:g.length<=100:=by
   have:∀qs:List Pc,(∀p∈qs,p.ok)->qs.length<=(flatP qs).length:=by
    intro qs;induction qs with
    |nil=>intro _;exact Ai _
    |cons q r ih =>
     intro u;have h1:=ih λp M=>u p (Ap _ M);have h2:=Ea.mpr (x3q (u q Av));rw[q2e,Aj,Be];lia
   have:=this g wp.ok;rw[hl] at this;lia
  refine q9m (λB F=>∃(i:Nat) (x3:Option V),B=[some (.str (mk l)),some (.ref L),some (.int (((flatP (g.take i)).length:Nat):Int)),x3]/\Same H F/\HP F L (g.take i)/\i<=g.length) (λB _=>pcMeas (l.length+1) B) ⟨0,none,rfl,(Same.refl H).new hL,⟨[],q0d,.nil⟩,Bf _⟩ ?_ ?_
  ·rintro B F ⟨i,x3,rfl,sm,M,hi⟩;have O:flatP (g.take i)++flatP (g.drop i)=l:=by rw[<- q8e,Nc,hl]
   have v:(flatP (g.take i)).length+(flatP (g.drop i)).length=l.length:=by rw[<- O,Aj]
   refine⟨_,rfl,_,rfl,_,_,rfl,⟨TX.small (by lia),rfl⟩,_,_,rfl,rfl,_,rfl,?_⟩;refine ite2 (λh=>?_) (λh=>?_)
   ·have h1:=of_decide_eq_true h;have hi':i<g.length:=by
     rcases Nat.lt_or_ge i g.length with z|z
     ·exact z
     ·rw[Mu z] at v;simp[flatP] at v;simp[flatP] at h1;lia
    have j:g[i]?=some g[i]:=Bt hi';generalize g[i]=p at j;have hok:=wp.ok p (Bd j);have a9:=q2k j;have b0:l.drop (flatP (g.take i)).length=p.wr++flatP (g.drop (i+1)):=by rw[<- O,List.drop_left,a9,q2e]
    refine⟨_,rfl,_,rfl,l,flatP (g.drop (i+1)),(flatP (g.take i)).length,p,rfl,by lia,hok,b0,?_,?_,λT1 T2 H4 c9 d0 Y R b3=>?_⟩
    ·rintro⟨x,rfl⟩ c r' J;cases u:g[i+1]? with
     |none =>
      rw[Mu (List.getElem?_eq_none_iff.mp u)] at J;cases J
     |some q =>
      have b4:∀y,q≠.tx y:=λy z=>wp.tt i x y j (by rw[u,z]);obtain⟨c',t',Z,hn⟩:=x7f b4;rw[q2k u,q2e,Z] at J;cases J;exact hn
    ·rintro rfl;obtain⟨d1,S⟩:=wp.ii i j;obtain⟨q,u⟩:∃q,g[i-1]?=some q:=⟨_,Bt (by lia)⟩
     have b5:q≠.into:=λz=>S (by rw[u,z]);obtain⟨t,c,Z,hc⟩:=x7g (wp.ok q (Bd u)) b5;have b6:g.take i=g.take (i-1)++[q]:=by
      have:=q1t u
      rwa [show i-1+1=i from by lia] at this
     have a0:flatP (g.take i)=(flatP (g.take (i-1))++t)++[c]:=by rw[b6,q8e,show flatP [q]=q.wr from by simp[flatP],Z,Mi]
     refine⟨by rw[a0,Aj,Bk];lia,c,?_,hc⟩;rw[<- O,a0,Aj,Bk,Nat.add_sub_cancel,Mi,Hv (Ai _),Vk];rfl
    ·refine⟨T2,_,rfl,SqT.of b3,rfl,_,_,rfl,_,_,rfl,rfl,?_⟩;have a3:=M.same Y;obtain⟨Ts,a1,a2⟩:=a3.ex;have a4:=a2.len;rw[Dg] at a4;refine⟨_,rfl,.inl ⟨rfl,a3.sq⟩,_,rfl,L,_,_,rfl,rfl,a1,by rw[Af];exact TX.small' (by lia),?_⟩;have b7:T1≠L:=λz=>by subst z;rw[a1] at R;cases R
     have b8:flatP (g.take (i+1))=flatP (g.take i)++p.wr:=by rw[q1t j,q8e];simp[flatP]
     refine⟨⟨i+1,some (.ref T1),?_,(sm.trans Y).put hL,⟨Ts++[T1],by rw[Au];exact q0d,?_⟩,hi'⟩,?_⟩
     ·rw[b8,Aj];rfl
     ·rw[q1t j];refine PTu.snoc (by rw[q0f b7];exact R) (a2.keep λTx xs e=>?_);rw[q0f (λz=>by subst z;rw[a1] at e;cases e)];exact e
     ·show l.length+1-(((flatP (g.take i)).length+p.wr.length:Nat):Int).toNat<l.length+1-(((flatP (g.take i)).length:Nat):Int).toNat;have:=Ea.mpr (x3q hok);lia
   ·have h1:¬(((flatP (g.take i)).length:Nat):Int)<(((mk l).length:Nat):Int):=λz=>h (decide_eq_true z);have hi':i=g.length:=by
     rcases Nat.lt_or_ge i g.length with z|z
     ·have j:g[i]?=some g[i]:=Bt z;have:=Ea.mpr (x3q (wp.ok _ (Bd j)));rw[q2k j,q2e,Aj] at v;lia
     ·lia
    subst hi';rw[Dj] at M;obtain⟨Ts,a1,a2⟩:=M.ex;have a4:=a2.len;obtain⟨qs,q,G⟩:∃qs q,g=qs++[q]:=⟨g.dropLast,g.getLast wp.ne,(Es wp.ne).symm⟩
    have b9:q≠.into:=wp.la q (by rw[G];simp);refine⟨λb H'=>b=false/\Same F H',?_,?_⟩
    ·rintro b H' ⟨rfl,a5⟩;exact iteF ⟨_,rfl,k L H' hL (sm.trans a5) (M.same a5)⟩
    refine⟨_,rfl,by show 0<=sizeLine;decide,λE0 c0=>?_⟩;have a6:Same F (upd F E0 (.lst [])):=(Same.refl F).new c0;have c1:=M.same a6;obtain⟨U,b1,b2⟩:=c1.ex;refine .inr ⟨_,_,.lst (SqL.of b1) b2.dts,.lst (SqL.of q0d) .nil,lays wp.ok,rfl,?_,_,rfl,?_⟩
    ·refine Bg (Mz _ _) ?_;decide +kernel
    rw[x3r wp.ne];refine iteF ?_;have I:=b2.len;have o:U≠[]:=λz=>by rw[z] at I;rw[G] at I;simp at I
    have c2:=(Es o).symm;have W:U[g.length-1]?=some (U.getLast o):=by rw[<- I];simp[List.getLast_eq_getElem]
    obtain⟨q',X,c3⟩:=b2.get W;have eq':q'=q:=by rw[G] at X;simp at X;exact X.symm
    subst eq';have c4:atI (U.map V.ref) (-1)=some (.ref (U.getLast o)):=by
     have:=x2p U.dropLast (U.getLast o)
     rwa [<- c2] at this
    refine⟨_,rfl,_,rfl,.inl ⟨L,_,-1,_,rfl,rfl,SqL.of b1,c4,by show 1<=sizeLine;decide,λT3 c5=>?_⟩⟩;have a7:Same (upd F E0 (.lst [])) (upd (upd F E0 (.lst [])) T3 (.tup [.str (Ab "into")])):=(Same.refl _).new c5;refine .inr ⟨_,_,.tup (SqT.of (a7 _ _ c3)) (Pc.dts _),.tup (SqT.of q0d) (.cons (.str _) .nil),Pc.lay (wp.ok _ (by rw[G];simp)),by trivial,?_,_,rfl,?_,a6.trans a7⟩
    ·refine Bg (Mz _ _) ?_;decide +kernel
    ·exact z6b b9
  ·intro σ H Q Q' u Z;obtain⟨x,e1,y,e2,n',z,e3,e4,a',b',e5,e6,c',e7,hh⟩:=Z;exact⟨x,e1,y,e2,n',z,e3,e4,a',b',e5,e6,c',e7,u _ _ hh⟩
def x3s{P:Ak}{w:World}{K:Ah}{u:Addr}{v:Nat}{g j o s:Tok}(D:K.lookup u=some ⟨.type "dict",none,.dict #[⟨Ow w.params (Ab "u"),.str (Ab "u") g,.str (Ab "great") j⟩,⟨Ow w.params (Ab "l"),.str (Ab "l") o,.str (Ab "small") s⟩] v,#[]⟩):KDict P w K u casesKV:=by
 refine⟨_,[(Sum.inr (Ab "u"),.str (Ab "great") j),(Sum.inr (Ab "l"),.str (Ab "small") s)],D,.cons ⟨rfl,j,rfl⟩ (.cons ⟨rfl,s,rfl⟩ .nil),λh e=>?_⟩;have B:(mixKind P w).is (Sum.inr (Ab "u")) (.str (Ab "u") g)=true:=q6z (Ab "u") g;have C:(mixKind P w).is (Sum.inr (Ab "l")) (.str (Ab "l") o)=true:=q6z (Ab "l") o;refine⟨_,_,v,e,⟨rfl,rfl,rfl⟩,rfl,λE f=>?_,.cons B rfl (.cons C rfl .nil),?_⟩
 ·simp only[List.mem_toArray,Az,Fl,or_false] at f;rcases f with rfl|rfl
  ·exact⟨_,B,rfl⟩
  ·exact⟨_,C,rfl⟩
 ·exact(by decide +kernel:([Sum.inr (Ab "u"),Sum.inr (Ab "l")]:List Key).Nodup)
noncomputable abbrev vG(gs:List Nat):List V:=gs.map λc=>V.str (mk [c])
noncomputable def gapNo:Pc->Option Nat
 |.gap k=>some k
 |.great k=>some k
 |.small k=>some k
 |.nou k _=>some k
 |.more k _=>some k
 |_=>none
noncomputable def isMo:Pc->Bool
 |.more _ _=>true
 |_=>false
noncomputable def pcWd:Pc->Str
 |.tx _=>Ab "text"
 |.gap _=>Ab "gap"
 |.great _=>Ab "great"
 |.small _=>Ab "small"
 |.nou _ _=>Ab "noughts"
 |.more _ _=>Ab "more"
 |.cnt _=>Ab "count"
 |.into=>Ab "into"
noncomputable def pcI:Pc->Bool
 |.into=>true
 |_=>false
def pw0(p:Pc):atI p.vs 0=some (.str (pcWd p)):=by cases p<;>rfl
def pwM(p:Pc):decide (V.str (pcWd p)=V.str (Ab "more"))=isMo p:=by
 rw[L2.dec_str];cases p<;>(simp only[pcWd,isMo];decide +kernel)
def pwI(p:Pc):decide (V.str (pcWd p)=V.str (Ab "into"))=pcI p:=by
 rw[L2.dec_str];cases p<;>(simp only[pcWd,pcI];decide +kernel)
def z6c(h:gapNo p=some k):atI p.vs 1=some (.int (k:Int)):=by cases p<;>cases h<;>rfl
noncomputable abbrev ofGap:List V:=[.str (Ab "gap"),.str (Ab "great"),.str (Ab "small"),.str (Ab "noughts"),.str (Ab "more")]
noncomputable abbrev kinds3:List V:=[.str (Ab "slip"),.str (Ab "drawer"),.str (Ab "all")]
def inGap(p:Pc):inV (.str (pcWd p)) ofGap=(gapNo p).isSome:=by cases p<;>(simp only[pcWd,gapNo,Option.isSome];decide +kernel)
structure AskOk (kd:Str) (gs:List Nat) (p:Pc):Prop where
 gp:∀k,gapNo p=some k->1<=k/\k<=gs.length
 mo:∀k m,p=.more k m->gs[k-1]?=some 35
 io:p=.into->kd=Ab "slip"
noncomputable def spAskGap:Sp:=λvs H Q _=>∃T G p k gs kd,vs=[.ref T,.ref G]/\H T=some (.tup p.vs)/\gapNo p=some k/\H G=some (.lst (vG gs))/\gs.length<=3000/\AskOk kd gs p/\Q .non H
def vG_at{k:Nat}(hk:1<=k)(h:gs[k-1]?=some c):atI (vG gs) ((k:Int)-1)=some (.str (mk [c])):=by
 have e:((k:Int)-1)=((k-1:Nat):Int):=by lia
 rw[e];refine q1m ?_;rw[Bm,h];rfl
noncomputable abbrev q4f:Stmt:=top 46
def sc_ask_gap:FnScope ["piece", "gap_signs", "sort", "gap"] Zd (defScope q4f):=by trivial
def z7j(D:Df K mg "ask_gap" q4f Zd)(T:Txt mg):Cal P w K mg base "ask_gap" 1 Zd spAskGap:=by
 refine D.cal sc_ask_gap (λvs H Q E h=>?_) (λf L A outer s H vs Q E u h=>?_)
 ·obtain⟨g,G,p,k,M,kd,rfl,_⟩:=h;rfl
 ·obtain⟨g,G,p,n,M,kd,rfl,v,j,B,O,C,k⟩:=h;refine⟨_,(q0b (q0k (i:=2) sc_ask_gap.nd rfl (by trivial) (q0w (ix_k K rfl) (pv 0) q0g (λ_ _=>rfl))) (q0b (q0k (i:=3) sc_ask_gap.nd rfl (by trivial) (q0w (ix_k K rfl) (pv 0) q0g (λ_ _=>rfl))) (q0b (q0s (q0h z1e (pv 3) (q0q (q1z K rfl) (by rfl) T.b_len Br (q0a (pv 1) q0c)) (nomark _)) (q0e q1r) q0j) (q0e (q0s (pt_j (@PW.pt _ _ _ (q5a (q0h (eq_k K rfl u) (pv 2) q0i (nomark _)) (q2w (q0h (ne_k K rfl u) (q0w (ix_k K rfl) (pv 1) (q0v z5g (pv 3) q0g) (λ_ _=>rfl)) q0i (nomark _)))))) (q0e q1r) q0j))))),?_⟩;obtain⟨o,R⟩:=C.gp n j;refine⟨_,rfl,.inr (.inl ⟨g,_,0,_,rfl,rfl,SqT.of v,pw0 p,?_⟩)⟩;refine⟨_,rfl,.inr (.inl ⟨g,_,1,_,rfl,rfl,SqT.of v,z6c j,?_⟩)⟩;refine⟨_,rfl,_,rfl,_,_,rfl,.inl ⟨_,SqL.of B,rfl⟩,_,_,rfl,rfl,_,rfl,?_⟩;rw[Af];refine ite2 (λh=>absurd (of_decide_eq_true h) (by lia)) (λ_=>?_);refine⟨λF I=>F=false/\I=H,?_,?_⟩
  ·rintro F I ⟨rfl,rfl⟩;exact iteF k
  refine⟨_,rfl,.inl ⟨rfl,_,rfl,?_⟩⟩;refine iteB (λh=>?_) (λh=>⟨rfl,rfl⟩);obtain⟨J,m,rfl⟩:∃J m,p=.more J m:=by cases p<;>first|exact⟨_,_,rfl⟩|cases h
  cases j;refine⟨_,rfl,_,rfl,_,_,rfl,rfl,.inl ⟨G,_,_,_,rfl,rfl,SqL.of B,vG_at o (C.mo _ _ rfl),.inl ⟨rfl,_,rfl,?_,rfl⟩⟩⟩;rfl
structure CallsR (P:Ak) (w:World) (K:Ah) (mg:Str->Option Value) (base:Heap):Prop where
 ask_gap:Cal P w K mg base "ask_gap" 1 Zd spAskGap
 of_a_gap:∃d,mg "OF_A_GAP" = some (.ref d)/\∀H,SqT K H d ofGap
noncomputable def spAskPiece:Sp:=λvs H Q _=>∃T G p gs kd,vs=[.ref T,.str kd,.ref G]/\H T=some (.tup p.vs)/\H G=some (.lst (vG gs))/\gs.length<=3000/\AskOk kd gs p/\Q .non H
noncomputable abbrev q2o:Stmt:=top 47
def sc_ask_piece:FnScope ["piece", "kind", "gap_signs", "sort"] Z4 (defScope q2o):=by trivial
def z3c(D:Df K mg "ask_piece" q2o Z4)(T:Txt mg)(C:CallsR P w K mg base):Cal P w K mg base "ask_piece" 2 Z4 spAskPiece:=by
 refine D.cal sc_ask_piece (λvs H Q E h=>?_) (λf S A outer s H vs Q E B h=>?_)
 ·obtain⟨u,G,p,J,kd,rfl,_⟩:=h;rfl
 ·obtain⟨u,G,p,J,kd,rfl,L,U,F,M,k⟩:=h;obtain⟨g,j,hd⟩:=C.of_a_gap;refine⟨_,(q0b (q0k (i:=3) sc_ask_piece.nd rfl (by trivial) (q0w (ix_k K rfl) (pv 0) q0g (λ_ _=>rfl))) (q1v (q0s (q0h (in_k K rfl) (pv 3) (q0m (v:=.ref g) (by rfl) j rfl) (by with_unfolding_all rfl)) (q0e (q0u (pe_c C.ask_gap B (q0a (pv 0) (q0a (pv 2) q0c))))) q0j) (q0e (q0s (pt_j (@PW.pt _ _ _ (q5a (q0h (eq_k K rfl B) (pv 3) q0i (nomark _)) (q2w (q0h (ne_k K rfl B) (pv 1) q0i (nomark _)))))) (q0e q1r) q0j)))),?_⟩;refine⟨_,rfl,.inr (.inl ⟨u,_,0,_,rfl,rfl,SqT.of L,pw0 p,?_⟩)⟩;refine⟨λo I=>o=[some (.ref u),some (.str kd),some (.ref G),some (.str (pcWd p))]/\I=H,?_,?_⟩;rotate_left
  ·refine⟨_,rfl,.inr ⟨g,_,rfl,.inr (hd H),rfl,by trivial,_,rfl,?_⟩⟩;rw[inGap];refine ite2 (λh=>?_) (λh=>⟨rfl,rfl⟩);obtain⟨n,hn⟩:=Ik.mp h;exact⟨_,rfl,_,rfl,u,G,p,n,J,kd,rfl,L,hn,U,F,M,rfl,rfl⟩
  rintro o I ⟨rfl,rfl⟩;refine⟨λO R=>O=false/\R=I,?_,?_⟩
  ·rintro O R ⟨rfl,rfl⟩;exact iteF k
  refine⟨_,rfl,.inl ⟨rfl,_,rfl,?_⟩⟩;refine iteB (λh=>?_) (λh=>⟨rfl,rfl⟩);have W:p=.into:=by cases p<;>first|rfl|cases h
  refine⟨_,rfl,.inl ⟨rfl,_,rfl,?_,rfl⟩⟩;rw[M.io W,decide_eq_true rfl];rfl
structure RuleAt (K:Ah) (H:Hp) (R:Addr) (kd:Str) (l:List Nat) (qs:List Pc) (st:Int):Prop where
 at_:H R=some (.tup [.str kd,.str (mk l),.str (mk (flatP qs)),.int st])
 kok:inV (.str kd) kinds3=true
 good:Good l
 wp:WP qs
 st0:0<=st
 st1:st<=1000000000
 ask:∀q∈qs,AskOk kd (gsOf (parse [] l)) q
def RuleAt.same(h:RuleAt K H R kd l qs st)(s:Same H H'):RuleAt K H' R kd l qs st:=⟨s _ _ h.at_,h.kok,h.good,h.wp,h.st0,h.st1,h.ask⟩
structure CallsS (P:Ak) (w:World) (K:Ah) (mg:Str->Option Value) (base:Heap):Prop where
 parts_of:Cal P w K mg base "parts_of" 2 Zf spPartsOf
 pieces_of:Cal P w K mg base "pieces_of" 6 Zw spPieces
 ask_piece:Cal P w K mg base "ask_piece" 2 Z4 spAskPiece
 kinds:∃d,mg "KINDS" = some (.ref d)/\∀H,SqT K H d kinds3
noncomputable def spAskRule(K:Ah):Sp:=λvs H Q _=>∃R kd l qs st,vs=[.ref R]/\RuleAt K H R kd l qs st/\∀H',Same H H'->Q (.bl true) H'
def q5q{ps:List Pt}(h:ps[i]?=some p):gsOf (ps.take (i+1))=gsOf (ps.take i)++gsOf [p]:=by
 have e:ps.take (i+1)=ps.take i++[p]:=by rw[Gf,h];rfl
 rw[e];generalize ps.take i=qs;induction qs with
 |nil=>rfl
 |cons q r ih=>cases q with
  |tx t=>exact ih
  |gp c=>show c::gsOf (r++[p])=c::(gsOf r++gsOf [p]);rw[ih]
def q6y(ps:List Pt):(gsOf ps).length<=ps.length:=by
 induction ps with
 |nil=>exact Ai _
 |cons q r ih=>cases q with
  |tx t=>show(gsOf r).length<=r.length+1;lia
  |gp c=>show(gsOf r).length+1<=r.length+1;lia
noncomputable abbrev q3e:Stmt:=top 48
def sc_ask_rule:FnScope ["rule", "kind", "pattern", "template", "start", "parts", "pieces", "gap_signs", "piece"] Y8 (defScope q3e):=by trivial
def z4r(D:Df K mg "ask_rule" q3e Y8)(T:Txt mg)(C:CallsS P w K mg base):Cal P w K mg base "ask_rule" 7 Y8 (spAskRule K):=by
 refine D.cal sc_ask_rule (λvs H Q E h=>?_) (λf a3 A outer s H vs Q E U h=>?_)
 ·obtain⟨R,kd,l,qs,st,rfl,_⟩:=h;rfl
 ·obtain⟨R,kd,l,qs,st,rfl,I,k⟩:=h;obtain⟨j,u,hd⟩:=C.kinds;obtain⟨_,g⟩:=T.MOST_START;refine⟨_,(q0b (q4j (pv 0) (@q1q _ _ _ _ (4) _ K rfl rfl (q0p (q0n (i:=1) sc_ask_rule.nd rfl (by trivial)) (q0p (q0n (i:=2) sc_ask_rule.nd rfl (by trivial)) (q0p (q0n (i:=3) sc_ask_rule.nd rfl (by trivial)) (q0p (q0n (i:=4) sc_ask_rule.nd rfl (by trivial)) q1b)))) (by rfl) (by rfl))) (q0b (q0k (i:=5) sc_ask_rule.nd rfl (by trivial) (pe_c C.parts_of U (q0a (pv 2) q0c))) (q0b (q0k (i:=6) sc_ask_rule.nd rfl (by trivial) (pe_c C.pieces_of U (q0a (pv 3) q0c))) (q0b (q0s (q0h (z4c K rfl) (pv 1) (q0m (v:=.ref j) (by rfl) u rfl) (by with_unfolding_all rfl)) (q0e q1r) q0j) (q0b (q9u (i:=7) Zy [] sc_ask_rule.nd rfl (by trivial) rfl (@q5u _ _ _ _ K rfl (pv 5)) (λ_ _ _ _ _=>(@q1q _ _ _ _ (2) _ K rfl rfl (q0p (q0n (i:=0) (show(Zy:List Str).Nodup by trivial) rfl (by trivial)) (q0p (q0n (i:=1) (show(Zy:List Str).Nodup by trivial) rfl (by trivial)) q1b)) (by rfl) (by rfl))) (λ_ _ _ _ _=>(q7i (q0h (eq_k K rfl U) (pv 0) q0i (nomark _)))) (λ_ _ _ _ _=>(pv 1))) (q0b (q1u Dc rfl (@q5u _ _ _ _ K rfl (pv 6)) (q0n (i:=8) sc_ask_rule.nd rfl (by trivial)) (q0e (q0u (pe_c C.ask_piece U (q0a (pv 8) (q0a (pv 1) (q0a (pv 7) q0c))))))) (q0b (q0s (pt_j (@PW.pt _ _ _ (q7b (q0h z3w (pv 4) q0g (nomark _)) (q3l (q0h z1e (pv 4) (q0m (v:=.int 1000000000) (by rfl) g ⟨_,rfl⟩) (nomark _)))))) (q0e q1r) q0j) (q0e (q0l q4y))))))))),?_⟩;refine⟨_,rfl,R,_,rfl,SqT.of I.at_,rfl,_,_,rfl,_,_,rfl,_,_,rfl,_,_,rfl,rfl,?_⟩;refine⟨_,rfl,l,rfl,I.good,λL H1 hL W X=>?_⟩;refine⟨_,rfl,qs,rfl,I.wp,λM Y hM J Z=>?_⟩;refine⟨_,rfl,.inr ⟨j,_,rfl,.inr (hd Y),rfl,by trivial,_,rfl,?_⟩⟩;rw[I.kok];obtain⟨Ts,t1,t2⟩:=(X.same J).ex;have a0:=t2.len;have a4:=q7p l [];have a5:=I.good.len;refine⟨_,rfl,.inl ⟨L,rfl,⟨_,SqL.of t1⟩,λD hD=>?_⟩⟩;refine q5g (λi O F=>O=vG (gsOf ((parse [] l).take i))/\Same Y F/\F D=some (.lst O)/\i<=(parse [] l).length) ⟨rfl,(Same.refl Y).new hD,q0d,Bf _⟩ (λi O F ⟨_,sm,o,_⟩=>⟨o,SqL.of (sm _ _ t1)⟩) ?_ ?_
  ·rintro i O F x hx ⟨rfl,sm,o,hi⟩;obtain⟨T1,p,rfl,B,ht⟩:=t2.get hx;have hi':=(As.mp B).1;refine⟨T1,_,rfl,SqT.of (sm _ _ ht),rfl,_,_,rfl,_,_,rfl,rfl,q4b,?_⟩;refine⟨_,rfl,.inl ⟨rfl,_,rfl,?_⟩⟩;have hg:=q6y ((parse [] l).take i);rw[Dg] at hg;cases p with
   |tx t =>
    refine iteF ⟨?_,sm,o,hi'⟩;rw[q5q B];show vG _=vG (_++[]);rw[Dq]
   |gp c =>
    refine iteT ⟨_,rfl,o,TX.small' (by rw[Af];lia),?_,sm.put hD,q0d,hi'⟩;rw[q5q B];show _=(gsOf _++[c]).map _;rw[Au];rfl
  rintro O H3 ⟨rfl,S,o,_⟩;rw[Af,a0,Dj] at o;have a1:=Z.same S;obtain⟨Us,u1,u2⟩:=a1.ex;have a6:=q6y (parse [] l);refine⟨_,rfl,.inl ⟨M,rfl,⟨_,SqL.of u1⟩,?_⟩⟩;refine q3z (λi G F=>∃x8,G=[some (.ref R),some (.str kd),some (.str (mk l)),some (.str (mk (flatP qs))),some (.int st),some (.ref L),some (.ref M),some (.ref D),x8]/\F=H3) ⟨none,rfl,rfl⟩ (λi G F _ ⟨_,_,e⟩=>by subst e;exact SqL.of u1) ?_ ?_
  ·rintro i x G F hx ⟨x8,rfl,rfl⟩;obtain⟨T1,a2,rfl⟩:∃T,Us[i]?=some T/\x=.ref T:=by
    rw[Bm] at hx;cases hz:Us[i]? with
    |none=>grind
    |some T=>grind
   obtain⟨p,B,ht⟩:=u2.get a2;refine⟨_,rfl,_,rfl,_,rfl,T1,D,p,gsOf (parse [] l),kd,rfl,ht,o,by lia,I.ask p (Bd B),⟨_,rfl,rfl⟩⟩
  ·rintro G F ⟨x8,rfl,rfl⟩;refine⟨λbb H4=>bb=false/\H4=F,?_,?_⟩
   ·rintro bb H4 ⟨rfl,rfl⟩;exact iteF (k _ ((W.trans J).trans S))
   have h0:=I.st0;have h1:=I.st1;refine⟨_,rfl,_,_,rfl,rfl,_,rfl,?_⟩;refine iteB (λh=>absurd (of_decide_eq_true h) (by lia)) (λ_=>?_);refine⟨_,rfl,_,_,rfl,rfl,_,rfl,?_,rfl⟩;exact decide_eq_false (by lia)
def x3t(a b:List Nat):mk a++mk b=mk (a++b):=by apply ext;rw[q8v,q1g,q1g,q1g]
noncomputable abbrev up1:=PyProof.Rows.up1
noncomputable abbrev lo1:=Kh
noncomputable def gapG:Pc->List Nat->List Nat
 |.great _,t=>t.map up1
 |.small _,t=>t.map lo1
 |.nou _ w,t=>wn w t
 |.more _ m,t=>wn t.length (dg (Fb t+m))
 |_,t=>t
noncomputable def pcText(ts:List (List Nat))(cn:Nat):Pc->List Nat
 |.tx t=>t
 |.gap k=>ts.getD (k-1) []
 |.great k=>(ts.getD (k-1) []).map up1
 |.small k=>(ts.getD (k-1) []).map lo1
 |.nou k w=>wn w (ts.getD (k-1) [])
 |.more k m=>wn (ts.getD (k-1) []).length (dg (Fb (ts.getD (k-1) [])+m))
 |.cnt w=>wn w (dg cn)
 |.into=>[]
structure GTx (ts:List (List Nat)) (p:Pc):Prop where
 gp:∀k,gapNo p=some k->1<=k/\k<=ts.length
 tx:∀t∈ts,t.length<=12/\∀c∈t,c<128
 mo:∀k m,p=.more k m->ts.getD (k-1) []≠[]/\∀c∈ts.getD (k-1) [],c∈FI
def x5g:∀c∈FI,48<=c/\c<=57:=by trivial
theorem x0t:∀(t:List Nat) (a:Nat),(∀c∈t,c∈FI)->t.foldl (λacc c=>acc*10+(c-48)) a<(a+1)*10^t.length
 |[],a,_=>by simp
 |c::r,a,h=>by
  have g:=x5g c (h c Av);have j:=x0t r (a*10+(c-48)) λx f=>h x (Ap _ f);rw[Nt,Be,Nat.pow_succ];have o:(a*10+(c-48)+1)*10^r.length<=((a+1)*10)*10^r.length:=Nat.mul_le_mul_right _ (by lia);have s:((a+1)*10)*10^r.length=(a+1)*(10^r.length*10):=by grind
  lia
def dv_lt(t:List Nat)(h:∀c∈t,c∈FI):Fb t<10^t.length:=by
 have:=x0t t 0 h;simpa[Fb] using this
noncomputable def spWN:Sp:=λvs H Q _=>∃(t:List Nat) (w:Nat),vs=[.str (mk t),.int (w:Int)]/\w<=1000/\Q (.str (mk (wn w t))) H
noncomputable abbrev q2h:Stmt:=top 56
def q8f:FnScope Zv Zv (defScope q2h):=by trivial
def q8g(D:Df K mg "with_noughts" q2h Zv)(T:Txt mg):Cal P w K mg base "with_noughts" 1 Zv spWN:=by
 refine D.cal q8f (λvs H Q E h=>?_) (λf g A outer s H vs Q E j h=>?_)
 ·obtain⟨t,n,rfl,_⟩:=h;rfl
 ·obtain⟨t,n,rfl,hn,k⟩:=h;refine⟨_,(q0e (q0l (@bm_k _ _ _ _ _ _ _ _ _ _ _ _ K rfl Ek PySem.F.slot_str_rjust PySem.F.type_str_rjust x2y (pv 0) (q0a (pv 1) (q0a q0i q0c)) (by rfl) (by rfl) (by rfl) (by rfl) (by rfl)))),?_⟩;refine⟨_,rfl,rfl,_,rfl,_,_,_,rfl,rfl,PyProof.Rows.padOk_of (by lia) (by lia),by trivial,?_⟩;have e:(Ab "0").cps.getD 0 0=48:=by trivial
  rw[e,rj];exact k
def wne(h:(Ab x==Ab y)=false):decide (V.str (Ab x)=V.str (Ab y))=false:=by rw[L2.dec_str];exact h
def upper14(h:∀c∈n,c<128):PySem.Txt.upper (mk n)=mk (n.map up1):=by
 rw[PyProof.Rows.upper_ascii (by show ∀c∈tl (mk n),c<128;exact h)];apply ext;rw[q1g];rw[Qx]
def lower14(h:∀c∈n,c<128):Ji (mk n)=mk (n.map lo1):=by
 rw[PyProof.Rows.lower_ascii (by show ∀c∈tl (mk n),c<128;exact h)];apply ext;rw[q1g];rw[Qx]
def x3u(f:t≠[])(h:∀c∈t,c∈FI)(hl:t.length<=12):Lw (mk t)=some ((Fb t:Nat):Int):=by
 have e:(mk t).cps.toList=t:=q1g t;have:=PySem.intText_digits (by rw[e];exact λd hd=>x5g d (h d hd)) (by rw[e];exact f) (by rw[q0x];lia);exact this
structure CallsWN (P:Ak) (w:World) (K:Ah) (mg:Str->Option Value) (base:Heap):Prop where
 with_noughts:Cal P w K mg base "with_noughts" 1 Zv spWN
noncomputable def spGapText:Sp:=λvs H Q _=>∃T p t,vs=[.ref T,.str (mk t)]/\H T=some (.tup p.vs)/\p.ok/\gapNo p≠none/\t.length<=12/\(∀c∈t,c<128)/\(∀k m,p=.more k m->t≠[]/\∀c∈t,c∈FI)/\Q (.str (mk (gapG p t))) H
noncomputable abbrev q4s:Stmt:=top 57
def sc_gap_text:FnScope ["piece", "text", "sort"] Y5 (defScope q4s):=by trivial
def z4s(D:Df K mg "gap_text" q4s Y5)(T:Txt mg)(C:CallsWN P w K mg base):Cal P w K mg base "gap_text" 2 Y5 spGapText:=by
 refine D.cal sc_gap_text (λvs H Q E h=>?_) (λf I A outer s H vs Q E o h=>?_)
 ·obtain⟨g,p,t,rfl,_⟩:=h;rfl
 ·obtain⟨g,p,t,rfl,j,ok,u,hl,B,J,k⟩:=h;refine⟨_,(q0b (q0k (i:=2) sc_gap_text.nd rfl (by trivial) (q0w (ix_k K rfl) (pv 0) q0g (λ_ _=>rfl))) (q0b (q0s (q0h (eq_k K rfl o) (pv 2) q0i (nomark _)) (q0e (q0l (@z1t _ _ _ _ _ _ _ _ _ K rfl Ek PySem.F.slot_str_upper PySem.F.type_str_upper x2h (pv 1) (by rfl) (by rfl)))) q0j) (q0b (q0s (q0h (eq_k K rfl o) (pv 2) q0i (nomark _)) (q0e (q0l (@z1t _ _ _ _ _ _ _ _ _ K rfl Ek Hf Hg q5h (pv 1) (by rfl) (by rfl)))) q0j) (q0b (q0s (q0h (eq_k K rfl o) (pv 2) q0i (nomark _)) (q0e (q0l (pe_c C.with_noughts o (q0a (pv 1) (q0a (q0w (ix_k K rfl) (pv 0) q0g (λ_ _=>rfl)) q0c))))) q0j) (q0b (q0s (q0h (eq_k K rfl o) (pv 2) q0i (nomark _)) (q0e (q0l (pe_c C.with_noughts o (q0a (q1p z2a (by rfl) T.b_str (by trivial) (q0a (q0v q0r (q1p q2u (by rfl) T.b_int (by trivial) (q0a (pv 1) q0c)) (q0w (ix_k K rfl) (pv 0) q0g (λ_ _=>rfl))) q0c)) (q0a (q0q (q1z K rfl) (by rfl) T.b_len Br (q0a (pv 1) q0c)) q0c))))) q0j) (q0e (q0l (pv 1)))))))),?_⟩;have L:(mk t).length<=sizeLine:=TX.small (by rw[q0x];lia);cases p with
  |tx l=>exact absurd rfl u
  |cnt v=>exact absurd rfl u
  |into=>exact absurd rfl u
  |gap n =>
   refine⟨_,rfl,.inr (.inl ⟨g,_,0,.str (Ab "gap"),rfl,rfl,SqT.of j,rfl,?_⟩)⟩;refine⟨_,rfl,.inl ⟨rfl,_,rfl,?_⟩⟩;refine iteF ⟨_,rfl,.inl ⟨rfl,_,rfl,?_⟩⟩;refine iteF ⟨_,rfl,.inl ⟨rfl,_,rfl,?_⟩⟩;refine iteF ⟨_,rfl,.inl ⟨rfl,_,rfl,?_⟩⟩;exact iteF ⟨_,rfl,k⟩
  |great n =>
   refine⟨_,rfl,.inr (.inl ⟨g,_,0,.str (Ab "great"),rfl,rfl,SqT.of j,rfl,?_⟩)⟩;refine⟨_,rfl,.inl ⟨rfl,_,rfl,?_⟩⟩;refine iteT ⟨_,rfl,rfl,_,rfl,rfl,TX.small (by rw[q0x];lia),?_⟩;rw[upper14 B];exact k
  |small n =>
   refine⟨_,rfl,.inr (.inl ⟨g,_,0,.str (Ab "small"),rfl,rfl,SqT.of j,rfl,?_⟩)⟩;refine⟨_,rfl,.inl ⟨rfl,_,rfl,?_⟩⟩;refine iteF ⟨_,rfl,.inl ⟨rfl,_,rfl,?_⟩⟩;refine iteT ⟨_,rfl,rfl,_,rfl,rfl,TX.small (by rw[q0x];lia),?_⟩;rw[lower14 B];exact k
  |nou n v =>
   have S:=ok.2.2;refine⟨_,rfl,.inr (.inl ⟨g,_,0,.str (Ab "noughts"),rfl,rfl,SqT.of j,rfl,?_⟩)⟩;refine⟨_,rfl,.inl ⟨rfl,_,rfl,?_⟩⟩;refine iteF ⟨_,rfl,.inl ⟨rfl,_,rfl,?_⟩⟩;refine iteF ⟨_,rfl,.inl ⟨rfl,_,rfl,?_⟩⟩;exact iteT ⟨_,rfl,_,rfl,.inr (.inl ⟨g,_,2,.int (v:Int),rfl,rfl,SqT.of j,rfl,t,v,rfl,by lia,k⟩)⟩
  |more n m =>
   have M:=ok.2;obtain⟨O,G⟩:=J n m rfl;have hd:=dv_lt t G;have R:10^t.length<=10^12:=Od (by decide) hl;refine⟨_,rfl,.inr (.inl ⟨g,_,0,.str (Ab "more"),rfl,rfl,SqT.of j,rfl,?_⟩)⟩;refine⟨_,rfl,.inl ⟨rfl,_,rfl,?_⟩⟩;refine iteF ⟨_,rfl,.inl ⟨rfl,_,rfl,?_⟩⟩;refine iteF ⟨_,rfl,.inl ⟨rfl,_,rfl,?_⟩⟩;refine iteF ⟨_,rfl,.inl ⟨rfl,_,rfl,?_⟩⟩;refine iteT ⟨_,rfl,.inr ⟨_,_,rfl,x3u O G hl,by rw[q0x];lia,?_⟩⟩;refine⟨_,rfl,.inr (.inl ⟨g,_,2,.int (m:Int),rfl,rfl,SqT.of j,rfl,.inl ⟨_,_,rfl,rfl,Fb t+m,rfl,by lia,?_⟩⟩)⟩;refine⟨_,rfl,_,_,rfl,⟨L,rfl⟩,dg (Fb t+m),t.length,by rw[z9g,q0x];rfl,by lia,k⟩
structure CallsGT (P:Ak) (w:World) (K:Ah) (mg:Str->Option Value) (base:Heap):Prop where
 gap_text:Cal P w K mg base "gap_text" 2 Y5 spGapText
 with_noughts:Cal P w K mg base "with_noughts" 1 Zv spWN
noncomputable def spPieceText:Sp:=λvs H Q _=>∃T G p ts,∃cn:Nat,vs=[.ref T,.ref G,.int (cn:Int)]/\H T=some (.tup p.vs)/\p.ok/\pcI p=false/\H G=some (.lst (vN ts))/\GTx ts p/\cn<=10^12/\Q (.str (mk (pcText ts cn p))) H
def x7h(h:gapNo p=some k):pcText ts cn p=gapG p (ts.getD (k-1) []):=by
 cases p<;>first|(cases h;rfl)|cases h
def gap_vs(h:gapNo p=some k):∃(w:String) (r:List V),p.vs=.str (Ab w)::.int (k:Int)::r/\(Ab w==Ab "text")=false/\(Ab w==Ab "count")=false:=by
 cases p with
 |tx l=>cases h
 |cnt v=>cases h
 |into=>cases h
 |gap n=>cases h;exact⟨"gap",[],rfl,by trivial,by trivial⟩
 |great n=>cases h;exact⟨"great",[],rfl,by trivial,by trivial⟩
 |small n=>cases h;exact⟨"small",[],rfl,by trivial,by trivial⟩
 |nou n v=>cases h;exact⟨"noughts",_,rfl,by trivial,by trivial⟩
 |more n v=>cases h;exact⟨"more",_,rfl,by trivial,by trivial⟩
noncomputable abbrev q3f:Stmt:=top 58
def sc_piece_text:FnScope ["piece", "gap_texts", "count", "sort"] Zh (defScope q3f):=by trivial
def z0o(D:Df K mg "piece_text" q3f Zh)(T:Txt mg)(C:CallsGT P w K mg base):Cal P w K mg base "piece_text" 3 Zh spPieceText:=by
 refine D.cal sc_piece_text (λvs H Q E h=>?_) (λf O A outer s H vs Q E B h=>?_)
 ·obtain⟨g,G,p,j,F,rfl,_⟩:=h;rfl
 ·obtain⟨g,G,p,j,F,rfl,o,ok,I,R,gt,S,k⟩:=h;refine⟨_,(q0b (q0k (i:=3) sc_piece_text.nd rfl (by trivial) (q0w (ix_k K rfl) (pv 0) q0g (λ_ _=>rfl))) (q0b (q0s (q0h (eq_k K rfl B) (pv 3) q0i (nomark _)) (q0e (q0l (q0w (ix_k K rfl) (pv 0) q0g (λ_ _=>rfl)))) q0j) (q0b (q0s (q0h (eq_k K rfl B) (pv 3) q0i (nomark _)) (q0e (q0l (pe_c C.with_noughts B (q0a (q1p z2a (by rfl) T.b_str (by trivial) (q0a (pv 2) q0c)) (q0a (q0w (ix_k K rfl) (pv 0) q0g (λ_ _=>rfl)) q0c))))) q0j) (q0e (q0l (pe_c C.gap_text B (q0a (pv 0) (q0a (q0w (ix_k K rfl) (pv 1) (q0v z5g (q0w (ix_k K rfl) (pv 0) q0g (λ_ _=>rfl)) q0g) (λ_ _=>rfl)) q0c)))))))),?_⟩;cases hgn:gapNo p with
  |none =>
   cases p with
   |gap n=>cases hgn
   |great n=>cases hgn
   |small n=>cases hgn
   |nou n v=>cases hgn
   |more n v=>cases hgn
   |into=>cases I
   |tx t =>
    refine⟨_,rfl,.inr (.inl ⟨g,_,0,.str (Ab "text"),rfl,rfl,SqT.of o,rfl,?_⟩)⟩;refine⟨_,rfl,.inl ⟨rfl,_,rfl,?_⟩⟩;exact iteT ⟨_,rfl,.inr (.inl ⟨g,_,1,_,rfl,rfl,SqT.of o,rfl,k⟩)⟩
   |cnt v =>
    have hv:=ok.2;refine⟨_,rfl,.inr (.inl ⟨g,_,0,.str (Ab "count"),rfl,rfl,SqT.of o,rfl,?_⟩)⟩;refine⟨_,rfl,.inl ⟨rfl,_,rfl,?_⟩⟩;refine iteF ⟨_,rfl,.inl ⟨rfl,_,rfl,?_⟩⟩;exact iteT ⟨_,rfl,F,rfl,by lia,_,rfl,.inr (.inl ⟨g,_,1,.int (v:Int),rfl,rfl,SqT.of o,rfl,dg F,v,by rw[z9g];rfl,by lia,k⟩)⟩
  |some n =>
   obtain⟨h1,h2⟩:=gt.gp n hgn;obtain⟨U,r0,W,X,Y⟩:=gap_vs hgn;have hT':=o;rw[W] at hT';refine⟨_,rfl,.inr (.inl ⟨g,_,0,.str (Ab U),rfl,rfl,SqT.of hT',q1m rfl,?_⟩)⟩;refine⟨_,rfl,.inl ⟨rfl,_,rfl,?_⟩⟩;rw[wne X];refine iteF ⟨_,rfl,.inl ⟨rfl,_,rfl,?_⟩⟩;rw[wne Y];have J:n-1<j.length:=by lia
   have Z:j.getD (n-1) []=j[n-1]:=by grind
   have L:atI (vN j) ((n:Int)-1)=some (.str (mk (j.getD (n-1) []))):=by
    have e:((n:Int)-1)=((n-1:Nat):Int):=by lia
    rw[e];refine q1m ?_;simp[Kn,Bt (show n-1<j.length by lia)]
   have u:=gt.tx (j.getD (n-1) []) (by rw[Z];exact List.getElem_mem J);refine iteF ⟨_,rfl,_,rfl,_,rfl,.inr (.inl ⟨g,_,1,.int (n:Int),rfl,rfl,SqT.of hT',q1m rfl,_,_,rfl,rfl,.inl ⟨G,_,_,_,rfl,rfl,SqL.of R,L,g,p,_,rfl,o,ok,by rw[hgn];simp,u.1,u.2,λM m z=>?_,?_⟩⟩)⟩
   ·have e2:M=n:=by rw[z] at hgn;exact Cu hgn
    have:=gt.mo M m z;rw[e2] at this;exact this
   ·rw[<- x7h hgn];exact k
structure CallsTl (P:Ak) (w:World) (K:Ah) (mg:Str->Option Value) (base:Heap):Prop where
 ask_rule:Cal P w K mg base "ask_rule" 7 Y8 (spAskRule K)
 reading:Cal P w K mg base "reading" 6 Zx spReading
 pieces_of:Cal P w K mg base "pieces_of" 6 Zw spPieces
 piece_text:Cal P w K mg base "piece_text" 3 Zh spPieceText
noncomputable def stepT(ts:List (List Nat))(cn:Nat)(acc:List (List Nat))(p:Pc):List (List Nat):=if pcI p then acc++[[]] else acc.dropLast++[acc.getLast?.getD []++pcText ts cn p]
noncomputable def tellT(ts:List (List Nat))(cn:Nat)(qs:List Pc):List (List Nat):=qs.foldl (stepT ts cn) [[]]
def q2v(ts:List (List Nat))(cn:Nat)(qs:List Pc)(p:Pc):tellT ts cn (qs++[p])=stepT ts cn (tellT ts cn qs) p:=by simp[tellT]
def z7k(ts:List (List Nat))(cn:Nat)(acc:List (List Nat))(p:Pc):∃i l,stepT ts cn acc p=i++[l]:=by
 unfold stepT;split
 ·exact⟨_,_,rfl⟩
 ·exact⟨_,_,rfl⟩
def z7l(ts:List (List Nat))(cn:Nat)(qs:List Pc):∃i l,tellT ts cn qs=i++[l]:=by
 by_cases h:qs=[]
 ·subst h;exact⟨[],[],rfl⟩
 ·rw[<- Es h,q2v];exact z7k _ _ _ _
def q9h(ts:List (List Nat))(cn:Nat)(i:List (List Nat)):stepT ts cn i .into=i++[[]]:=rfl
def q4t(h:pcI p=false):stepT ts cn (i++[l]) p=i++[l++pcText ts cn p]:=by
 unfold stepT;rw[if_neg (by rw[h];decide)];simp
def x0u(ts:List (List Nat))(cn:Nat)(acc:List (List Nat))(p:Pc):(stepT ts cn acc p).length<=acc.length+1:=by
 unfold stepT;split
 ·simp_all
 ·simp_all
theorem z3d(ts:List (List Nat))(cn:Nat):∀(qs:List Pc) (acc:List (List Nat)),(qs.foldl (stepT ts cn) acc).length<=acc.length+qs.length
 |[],acc=>Ai _
 |q::r,acc=>by
  have f:=z3d ts cn r (stepT ts cn acc q);have g:=x0u ts cn acc q;rw[Nt,Be];lia
def x0v(ts:List (List Nat))(cn:Nat)(qs:List Pc):(tellT ts cn qs).length<=qs.length+1:=by
 have:=z3d ts cn qs [[]];unfold tellT;simp only[Bk] at this;lia
noncomputable def spTells(K:Ah):Sp:=λvs H Q _=>∃R kd l qs st n,∃cn:Nat,vs=[.ref R,.str (mk n),.int (cn:Int)]/\RuleAt K H R kd l qs st/\n.length<=12/\(∀t∈rd n (parse [] l) 0,∀c∈t,c<128)/\cn<=10^12/\(fits n (parse [] l) 0=false->∀H',Same H H'->Q .non H') /\
 (fits n (parse [] l) 0=true->∀T H',H T=none->Same H H'->H' T=some (.tup (vN (tellT (rd n (parse [] l) 0) cn qs)))->Q (.ref T) H')
def x7i(h:c∈cut n b e):c∈n:=List.mem_of_mem_drop (Ih h)
theorem x0w{n:List Nat}:∀(ps:List Pt) (b:Nat),∀t∈rd n ps b,∀c∈t,c∈n
 |[],_,_,h=>by cases h
 |p::ps,b,t,h=>by
  rcases Ba.mp h with z|z
  ·split at z
   ·rw[Ao.mp z];exact λc f=>x7i f
   ·cases z
  ·exact x0w ps _ t z
def wr_le(h:q∈qs):q.wr.length<=(flatP qs).length:=by
 induction qs with
 |nil=>cases h
 |cons p r ih =>
  rw[q2e,Aj];rcases Az.mp h with rfl|h
  ·lia
  ·have:=ih h;lia
def z7m(h:pcI p=false):p≠.into:=λz=>by subst z;cases h
def x0x(w:Nat)(t:List Nat):(wn w t).length<=w+t.length:=by unfold wn;rw[Aj,Nb];lia
def x7j(f:p.ok)(v:cn<=10^12)(B:∀t∈ts,t.length<=12)(h:p.wr.length<=100)(j:gapNo p≠none->GTx ts p):(pcText ts cn p).length<=100:=by
 have hd:∀k,(ts.getD (k-1) []).length<=12:=by grind
 cases p with
 |tx t=>exact h
 |gap k=>have:=hd k;show(ts.getD (k-1) []).length<=100;lia
 |great k=>have:=hd k;show((ts.getD (k-1) []).map _).length<=100;rw[Af];lia
 |small k=>have:=hd k;show((ts.getD (k-1) []).map _).length<=100;rw[Af];lia
 |nou k w =>
  have:=hd k;have g:=x0x w (ts.getD (k-1) []);have:=f.2.2;show(wn w (ts.getD (k-1) [])).length<=100;lia
 |more k m =>
  have o:=hd k;have g:=x0x (ts.getD (k-1) []).length (dg (Fb (ts.getD (k-1) [])+m));have C:=f.2;obtain⟨D,s⟩:=(j (by simp[gapNo])).mo k m rfl;have E:=dv_lt (ts.getD (k-1) []) s;have F:10^(ts.getD (k-1) []).length<=10^12:=Od (by decide) o;have u:=q6l 13 (Fb (ts.getD (k-1) [])+m) (by lia);show(wn _ _).length<=100;lia
 |cnt w =>
  have:=f.2;have g:=x0x w (dg cn);have u:=q6l 13 cn (by lia);show(wn w (dg cn)).length<=100;lia
 |into=>exact Bf _
def neg_at(i:List (List Nat))(l:List Nat):atI (vN (i++[l])) (-1)=some (.str (mk l)):=by
 have e:vN (i++[l])=vN i++[V.str (mk l)]:=by grind
 rw[e];unfold atI ixN;rw[if_neg (by decide),if_pos (by rw[Aj,Bk];lia)];have h:((-1:Int)+((vN i++[V.str (mk l)]).length:Int)).toNat=(vN i).length:=by grind
 show(vN i++[V.str (mk l)])[((-1:Int)+((vN i++[V.str (mk l)]).length:Int)).toNat]?=_;rw[h,Hv (Ai _),Vk];rfl
def neg_ix(i:List (List Nat))(l:List Nat):ixN (vN (i++[l])).length (-1)=some i.length:=by
 unfold ixN;rw[if_neg (by decide),Af,Aj,Bk,if_pos (by lia)];congr 1;lia
def x3v(i:List (List Nat))(l m:List Nat):(vN (i++[l])).set i.length (.str (mk m))=vN (i++[m]):=by simp_all
noncomputable abbrev z0p:Stmt:=top 59
def sc_tells:FnScope ["rule", "name", "count", "gap_texts", "texts", "piece"] Zn (defScope z0p):=by trivial
def x3w(D:Df K mg "tells" z0p Zn)(T:Txt mg)(C:CallsTl P w K mg base):Cal P w K mg base "tells" 8 Zn (spTells K):=by
 refine D.cal sc_tells (λvs H Q E h=>?_) (λf d0 A outer s H vs Q E hr h=>?_)
 ·obtain⟨R,kd,l,qs,st,n,B,rfl,_⟩:=h;rfl
 ·obtain⟨R,kd,l,qs,st,n,B,rfl,F,a9,c2,b0,kN,kS⟩:=h;refine⟨_,(q0b (q0u (pe_c C.ask_rule hr (q0a (pv 0) q0c))) (q0b (q0k (i:=3) sc_tells.nd rfl (by trivial) (pe_c C.reading hr (q0a (q0w (ix_k K rfl) (pv 0) q0g (λ_ _=>rfl)) (q0a (pv 1) q0c)))) (q0b (q0s (q3i (z1c (pv 3))) (q0e (q0l q8q)) q0j) (q0b (q0k (i:=4) sc_tells.nd rfl (by trivial) (q1j (q0a q0i q0c))) (q0b (q1u Dc rfl (@q5u _ _ _ _ K rfl (pe_c C.pieces_of hr (q0a (q0w (ix_k K rfl) (pv 0) q0g (λ_ _=>rfl)) q0c))) (q0n (i:=5) sc_tells.nd rfl (by trivial)) (q0e (q0s (q0h (eq_k K rfl hr) (pv 5) (q0o (q0a q0i q0c)) (nomark _)) (q0e (q0u (@bm_k _ _ _ _ _ _ _ _ _ _ _ _ K rfl Bi Ce Cf q1d (pv 4) (q0a q0i q0c) (by rfl) (by rfl) (by rfl) (by rfl) (by rfl)))) (q0e (x5o (pv 4) (q5d q2j q0g) (get_k K rfl) (pe_c C.piece_text hr (q0a (pv 5) (q0a (pv 3) (q0a (pv 2) q0c)))) z3x q6v))))) (q0e (q0l (q1p (x6b K rfl) (by rfl) T.b_tuple (by trivial) (q0a (pv 4) q0c))))))))),?_⟩;refine⟨_,rfl,R,kd,l,qs,st,rfl,F,λH1 a2=>?_⟩;have b1:=F.same a2;refine⟨_,rfl,.inr (.inl ⟨R,_,1,_,rfl,rfl,SqT.of b1.at_,rfl,_,rfl,l,n,rfl,F.good,by lia,λhf H2 X=>?_,λa1 G H2 hG X a3=>?_⟩)⟩
  ·exact⟨_,rfl,true,rfl,iteT (kN hf _ (a2.trans X))⟩
  obtain⟨b2,c3,d1,b3⟩:=z9d n (parse [] l) 0 a1;have k:=kS a1;generalize d2:rd n (parse [] l) 0=u at *;refine⟨_,rfl,false,rfl,iteF ?_⟩;refine⟨by show 1<=sizeLine;decide,λL hL=>?_⟩;have e0:Ab "" = mk []:=by trivial
  have s3:=(Same.refl H2).new (o:=.lst [.str (Ab "")]) hL;have c4:=(b1.same X).same s3;refine⟨_,rfl,.inr (.inl ⟨R,_,2,_,rfl,rfl,SqT.of c4.at_,rfl,qs,rfl,F.wp,λM H4 hM a4 b4=>.inl ⟨M,rfl,b4.sq,?_⟩⟩)⟩;obtain⟨Us,u1,u2⟩:=b4.ex;have c5:=u2.len;have d3:=Bg (show qs.length<=(flatP qs).length from by
   have:∀qs:List Pc,(∀p∈qs,p.ok)->qs.length<=(flatP qs).length:=by
    intro qs;induction qs with
    |nil=>intro _;exact Ai _
    |cons q r ih =>
     intro hq;have h1:=ih λp hp=>hq p (Ap _ hp);have h2:=Ea.mpr (x3q (hq q Av));rw[q2e,Aj,Be];lia
   exact this qs F.wp.ok) F.wp.sz
  have sA:=(a2.trans X)
  have b5:M≠L:=λz=>by rw[z,q0d] at hM;cases hM
  have b6:G≠L:=λz=>by rw[z] at a3;rw[a3] at hL;cases hL
  have c6:H4 G=some (.lst (vN u)):=a4 _ _ (s3 _ _ a3);refine q3z (xs:=Us.map V.ref) (λi Y S=>∃x5,Y=[some (.ref R),some (.str (mk n)),some (.int (B:Int)),some (.ref G),some (.ref L),x5]/\Same H2 S/\S L=some (.lst (vN (tellT u B (qs.take i))))/\(∀T xs,H4 T=some (.tup xs)->S T=some (.tup xs))/\S M=some (.lst (Us.map V.ref))/\S G=some (.lst (vN u))/\(∀t∈tellT u B (qs.take i),t.length<=100*i)/\i<=qs.length)
   ⟨none,rfl,s3.trans a4,by rw[Ox];show H4 L=some (.lst [.str (mk [])]);rw[<- e0];exact a4 _ _ q0d,λ_ _ e=>e,u1,c6,λt U=>(by rw[Ox] at U;rw[Ao.mp U];exact Bf _),Bf _⟩ (λi Y S _ q=>by obtain⟨_,_,_,_,_,e,_⟩:=q;exact SqL.of e) ?_ ?_
  ·rintro i x Y S hx ⟨x5,rfl,I,g,kt,a5,Z,j,hi⟩;obtain⟨T1,c7,rfl⟩:∃T,Us[i]?=some T/\x=.ref T:=by
    rw[Bm] at hx;cases hz:Us[i]? with
    |none=>rw[hz] at hx;cases hx
    |some T=>rw[hz] at hx;cases hx;exact⟨T,rfl,rfl⟩
   obtain⟨p,a6,U⟩:=u2.get c7;have J:=Bd a6;have hi':=(As.mp a6).1;have a0:qs.take (i+1)=qs.take i++[p]:=by rw[Gf,a6];rfl
   have c8:=x0v u B (qs.take i);rw[Dg] at c8;refine⟨_,rfl,by show 1<=sizeLine;decide,λE0 a7=>?_⟩;have v:=(Same.refl S).new (o:=.tup [.str (Ab "into")]) a7;have keepL:∀(ys:List V) (T2:Addr) (xs:List V),H4 T2=some (.tup xs)->upd (upd S E0 (.tup [.str (Ab "into")])) L (.lst ys) T2=some (.tup xs):=by
    intro ys T2 xs e;have:=v _ _ (kt _ _ e);rw[q0f (λz=>by rw[z,v _ _ g] at this;cases this)];exact this
   refine .inr ⟨_,_,.tup (SqT.of (v _ _ (kt _ _ U))) (Pc.dts _),.tup (SqT.of q0d) (.cons (.str _) .nil),Pc.lay (F.wp.ok _ J),by trivial,?_,_,rfl,?_⟩
   ·refine Bg (Mz _ _) ?_;decide +kernel
   by_cases b7:pcI p=true
   ·have c9:p=.into:=by cases p<;>first|rfl|cases b7
    subst c9;rw[show Fy (.tuple (Pc.ds .into)) (.tuple [.str (Ab "into")])=true from by trivial];refine iteT ?_;refine⟨_,rfl,.inl ⟨rfl,⟨_,SqL.of (v _ _ g)⟩⟩,L,_,_,rfl,rfl,v _ _ g,by rw[Af];exact TX.small' (by lia),?_⟩;have eL:vN (tellT u B (qs.take i))++[V.str (Ab "")]=vN (tellT u B (qs.take (i+1))):=by
     rw[a0,q2v,q9h,e0];show _=(_++[[]]).map _;rw[Au];rfl
    refine⟨_,rfl,(I.new a7).put hL,by rw[q0d,eL],keepL _,by rw[q0f b5];exact v _ _ a5,by rw[q0f b6];exact v _ _ Z,λt O=>?_,hi'⟩;rw[a0,q2v,q9h] at O;rcases Ba.mp O with z|z
    ·have:=j t z;lia
    ·rw[Ao.mp z];exact Bf _
   ·have hpi':pcI p=false:=by simpa using b7
    rw[z6b (z7m hpi')];refine iteF ?_;have ao:=F.ask p J;have b8:GTx u p:=⟨λW b9=>⟨(ao.gp W b9).1,by rw[b2];exact(ao.gp W b9).2⟩,λt U=>⟨Bg (b3 t U) a9,c2 t U⟩,λW m hz=>by
     have hg:=ao.mo W m hz;obtain⟨o1,o2⟩:=ao.gp W (by rw[hz];rfl);have c0:W-1<u.length:=by rw[b2];lia
     have e:u.getD (W-1) []=u[W-1]:=by rw[Kn,Bt c0];rfl
     have:=c3 (W-1) 35 u[W-1] hg (Bt c0);unfold gapTakes at this;rw[if_neg (by decide),if_pos rfl] at this;rw[e];exact allOf_iff.mp this⟩
    obtain⟨ini,la,a8⟩:=z7l u B (qs.take i);rw[a8] at g j;refine⟨_,rfl,_,rfl,L,_,-1,_,rfl,rfl,SqL.of (v _ _ g),neg_at ini la,?_⟩;refine⟨_,rfl,_,rfl,_,rfl,T1,G,p,u,B,rfl,v _ _ (kt _ _ U),F.wp.ok _ J,hpi',v _ _ Z,b8,b0,?_⟩;have d4:=x7j (cn:=B) (F.wp.ok _ J) b0 (λt U=>Bg (b3 t U) a9) (Bg (wr_le J) F.wp.sz) λ_=>b8
    have d5:=j la (by simp);refine⟨_,_,rfl,rfl,TX.small (by rw[q0x,q0x];lia),L,_,_,_,rfl,rfl,v _ _ g,neg_ix ini la,?_⟩;rw[x3t,x3v];refine⟨_,rfl,(I.new a7).put hL,?_,keepL _,by rw[q0f b5];exact v _ _ a5,by rw[q0f b6];exact v _ _ Z,λt O=>?_,hi'⟩
    ·rw[q0d,a0,q2v,a8,q4t hpi']
    ·rw[a0,q2v,a8,q4t hpi'] at O;rcases Ba.mp O with z|z
     ·have:=j t (Co _ z);lia
     ·rw[Ao.mp z,Aj];lia
  ·rintro Y S ⟨x5,rfl,I,g,kt,a5,Z,j,hi⟩;rw[Af,c5,Dj] at g;refine⟨_,rfl,L,_,rfl,.inl ⟨SqL.of g,λT5 c1=>?_⟩⟩;exact k T5 _ (sA.free (I.free c1)) ((sA.trans I).new c1) q0d
end
end K
set_option maxHeartbeats 4000000
namespace K
open PySem L2 TX SB HM
section
variable{P:Ak}{w:World}{K:Ah}{mg:Str->Option Value}{base:Heap}
def q2p(p:Pth):(vP p).length=p.length:=Af _
def q4g{q:Pth}(h:q≠[]):cutV (vP q) none (some (-1))=vP q.dropLast/\¬(HT.sIx (vP q).length 0 none=0/\HT.sIx (vP q).length (vP q).length (some (-1))=(vP q).length):=by
 have hl:=Ea.mpr h;have e:HT.sIx (vP q).length (vP q).length (some (-1))=q.length-1:=by
  show(if (-1:Int)<0 then((-1:Int)+((vP q).length:Int)).toNat else min (-1:Int).toNat (vP q).length)=_;rw[if_pos (by decide),q2p];lia
 refine⟨?_,λz=>by rw[e,q2p] at z;lia⟩;unfold cutV;rw[e];show(vP q).take (q.length-1-0)=_;rw[Qw,<- List.map_take,<- List.dropLast_eq_take]
def q8h{q:Pth}(h:q≠[]):atI (vP q) (-1)=some (.str (mk (q.getLastD []))):=by
 have hl:=Ea.mpr h;unfold atI ixN;rw[if_neg (by decide),if_pos (by rw[q2p];lia)];have e:((-1:Int)+((vP q).length:Int)).toNat=q.length-1:=by rw[q2p];lia
 show(vP q)[((-1:Int)+((vP q).length:Int)).toNat]?=_;rw[e,Bm,<- List.getLast?_eq_getElem?,Kv,Jk h];rfl
def q6c(h:okP q):okN (q.getLastD []):=by
 rw[Kv,Jk h.ne];exact h.all _ (Wy h.ne)
def z6d(h:∀c∈n,c<128):Ji (mk n)=mk (lowN n):=by
 apply ext;rw[TX.lower (by rw[q1g];exact h),q1g,q1g];rfl
structure CallsAN (P:Ak) (w:World) (K:Ah) (mg:Str->Option Value) (base:Heap):Prop where
 draw:Cal P w K mg base "_law_draw" 1 Z5 spDraw
 text:Cal P w K mg base "_law_text" 2 Z6 spText
 name_signs:Cal P w K mg base "_law_name_signs" 1 [] (spConst NSs)
noncomputable def spName:Sp:=λvs H Q _=>∃a b,vs=[.ref a]/\FeedAt H a b/\∀(t:List Nat) H',okN t->Fd a b H H'->Q (.str (mk t)) H'
def fig_in:∀c∈tl (Ab "0123456789"),c∈HM.NS:=by trivial
noncomputable abbrev q8i:Stmt:=top 73
def sc_a_name:FnScope ["_law_feed", "_law_way"] Ze (defScope q8i):=by trivial
def x0y(D:Df K mg "_law_a_name" q8i Ze)(T:Txt mg)(C:CallsAN P w K mg base):Cal P w K mg base "_law_a_name" 3 Ze spName:=by
 refine D.cal sc_a_name (λvs H Q E h=>?_) (λf a0 A outer s H vs Q E B h=>?_)
 ·obtain⟨a,b,rfl,_⟩:=h;rfl
 ·obtain⟨a,b,rfl,F,k⟩:=h;refine⟨_,(q0b (q0k (i:=1) sc_a_name.nd rfl (by trivial) (pe_c C.draw B (q0a (pv 0) (q0a q0g q0c)))) (q0b (q0s (q0h (eq_k K rfl B) (pv 1) q0g (nomark _)) (q0e (q0l (pe_c C.text B (q0a (pv 0) (q0a (pe_c0 C.name_signs B) (q0a (q0v q0r q0g (pe_c C.draw B (q0a (pv 0) (q0a q0g q0c)))) q0c)))))) q0j) (q0b (q0s (q0h (eq_k K rfl B) (pv 1) q0g (nomark _)) (q0e (q0l (q0v q0r (q0w (ix_k K rfl) (q1j (q0a q0i (q0a q0i (q0a q0i q0c)))) (pe_c C.draw B (q0a (pv 0) (q0a q0g q0c))) (λ_ _=>rfl)) (pe_c C.text B (q0a (pv 0) (q0a q0i (q0a (q0v q0r q0g (pe_c C.draw B (q0a (pv 0) (q0a q0g q0c)))) q0c))))))) q0j) (q0e (q0l (pe_c C.text B (q0a (pv 0) (q0a (q1c (sl_k K rfl) q0i q2s (q0z (q0v q0r q0g (pe_c C.draw B (q0a (pv 0) (q0a q0g q0c)))))) (q0a (q0v q0r q0g (pe_c C.draw B (q0a (pv 0) (q0a q0g q0c)))) q0c))))))))),?_⟩;refine⟨_,rfl,a,b,_,rfl,F,by decide,by decide,λr1 H1 a1 a2 j=>?_⟩;have kN:∀{g:Str} {n:Int} {J:Hp},Fd a b H J->(∀c∈tl g,c∈HM.NS)->1<=n->n<=12->∀(t:List Nat) H',t.length=n.toNat->(∀c∈t,c∈tl g)->Fd a b J H'->Q (.str (mk t)) H':=λ{g n J} fd hg n1 n2 t H' l S fd'=>k t H' ⟨by lia,by lia,λc h=>hg c (S c h)⟩ (fd.trans fd')
  refine⟨_,rfl,.inl ⟨rfl,_,rfl,ite2 (λh=>?_) (λh=>?_)⟩⟩
  ·refine⟨_,rfl,rfl,_,rfl,a,b,_,rfl,j.feed,by decide,by decide,λv J L O u=>.inl ⟨_,_,rfl,rfl,?_⟩⟩;exact⟨a,b,HM.NSs,_,rfl,(j.trans u).feed,by trivial,by trivial,by lia,by lia,kN (j.trans u) (λc h=>h) (by lia) (by lia)⟩
  refine⟨_,rfl,.inl ⟨rfl,_,rfl,ite2 (λh=>?_) (λh=>?_)⟩⟩
  ·refine⟨by decide,λM hM=>?_⟩;have R:=j.new (o:=.lst [.str (Ab "img"),.str (Ab "IMG"),.str (Ab "a")]) hM;have U:=(j.feed.na hM).symm;refine⟨_,rfl,a,b,_,rfl,R.feed,by decide,by decide,λv J L O u=>?_⟩;have I:∃g:List Nat,atI [V.str (Ab "img"),V.str (Ab "IMG"),V.str (Ab "a")] v=some (.str (mk g))/\g.length<=3/\∀c∈g,c∈HM.NS:=by
    have e:v=0\/v=1\/v=2:=by lia
    rcases e with rfl|rfl|rfl
    ·exact⟨tl (Ab "img"),by rw[z8t];rfl,by trivial,by trivial⟩
    ·exact⟨tl (Ab "IMG"),by rw[z8t];rfl,by trivial,by trivial⟩
    ·exact⟨tl (Ab "a"),by rw[z8t];rfl,by trivial,by trivial⟩
   obtain⟨g,I,a3,W⟩:=I;refine .inl ⟨M,_,v,_,rfl,rfl,SqL.of (u.at q0d U),I,?_⟩;have fd2':=R.trans u;refine⟨_,rfl,_,rfl,a,b,_,rfl,fd2'.feed,by decide,by decide,λr3 H3 X Y G=>.inl ⟨_,_,rfl,rfl,?_⟩⟩;have fd3':=fd2'.trans G;refine⟨a,b,Ab "0123456789",_,rfl,fd3'.feed,by trivial,by trivial,by lia,by lia,λt H4 l S Z=>.inr (.inl ⟨_,_,rfl,rfl,?_,?_⟩)⟩
   ·rw[q0x,q0x];exact small (by lia)
   ·have e:mk g++mk t=mk (g++t):=by rw[<- z8t (mk g++mk t),q8v,q1g,q1g]
    rw[e];refine k (g++t) H4 ⟨by rw[Aj];lia,by rw[Aj];lia,λc h=>?_⟩ (fd3'.trans Z);rcases Ba.mp h with h|h
    ·exact W c h
    ·exact fig_in c (S c h)
  ·refine⟨_,rfl,_,rfl,a,b,_,rfl,j.feed,by decide,by decide,λv J L O u=>.inl ⟨_,_,rfl,rfl,?_⟩⟩;have fd2':=j.trans u;have hs:0<(Pf (Ab "aAbB-") none (some (2+v))).length/\(Pf (Ab "aAbB-") none (some (2+v))).length<=1000/\∀c∈tl (Pf (Ab "aAbB-") none (some (2+v))),c∈HM.NS:=by
    have e:v=0\/v=1\/v=2\/v=3:=by lia
    rcases e with rfl|rfl|rfl|rfl<;>decide +kernel
   refine⟨_,rfl,.inl ⟨_,rfl,by trivial,_,rfl,a,b,_,rfl,fd2'.feed,by decide,by decide,λr3 H3 X Y G=>.inl ⟨_,_,rfl,rfl,?_⟩⟩⟩;exact⟨a,b,_,_,rfl,(fd2'.trans G).feed,hs.1,hs.2.1,by lia,by lia,kN (fd2'.trans G) hs.2.2 (by lia) (by lia)⟩
noncomputable def spFold:Sp:=λvs H Q _=>∃(t:List Nat) (bl:Bool),vs=[.str (mk t),.bl bl]/\okN t/\Q (.str (mk (if bl then lowN t else t))) H
noncomputable abbrev z4t:Stmt:=top 74
def x7k:FnScope Zg Zg (defScope z4t):=by trivial
def x7l(D:Df K mg "_law_fold" z4t Zg)(T:Txt mg):Cal P w K mg base "_law_fold" 1 Zg spFold:=by
 refine D.cal x7k (λvs H Q E h=>?_) (λf j A outer s H vs Q E B h=>?_)
 ·obtain⟨t,bl,rfl,_⟩:=h;rfl
 ·obtain⟨t,bl,rfl,ok,k⟩:=h;refine⟨_,(q0e (q0l (pe_j (q6u (@q9x _ _ _ K rfl (pv 1) (λ_=>rfl)) (@z1t _ _ _ _ _ _ _ _ _ K rfl Ek Hf Hg q5h (pv 0) (by rfl) (by rfl)) (pv 0))))),?_⟩;refine⟨λv g=>v=.str (mk (if bl then lowN t else t))/\g=H,λv g ⟨o,u⟩=>by rw[o,u];exact k,?_⟩;refine⟨_,rfl,bl,rfl,?_⟩;cases bl with
  |true =>
   refine iteT ⟨_,rfl,rfl,_,rfl,rfl,small (by rw[q0x];have:=ok.few;lia),?_,rfl⟩;exact congrArg V.str (z6d ok.low)
  |false=>exact iteF ⟨_,rfl,rfl,rfl⟩
theorem z3e:∀{p q:Pth},kP p=kP q->p=q
 |[],[],_=>rfl
 |[],_::_,h=>by cases h
 |_::_,[],h=>by cases h
 |a::p,b::q,h=>by
  unfold kP at h;rw[Ar,Ar] at h;injection h with h1 h2;injection h1 with h1;rw[SB.mk_inj h1,z3e h2]
def x0z{rs:List HRow}(h:∀r∈rs,r.1≠p):valV (rs.map λr=>(kP r.1,r.2)) (kP p)=none:=by
 induction rs with
 |nil=>rfl
 |cons r rs ih =>
  rw[Ar,q1i (λz=>h r Av (z3e z))];exact ih λx f=>h x (Ap _ f)
def x1a{rs:List HRow}(f:r∈rs)(nd:(rs.map (·.1)).Nodup):valV (rs.map λr=>(kP r.1,r.2)) (kP r.1)=some r.2:=by
 induction rs with
 |nil=>cases f
 |cons x rs ih =>
  rw[Ar,Fh] at nd;rcases Az.mp f with rfl|f
  ·exact q1l rfl
  ·rw[Ar,q1i (λz=>nd.1 (by rw[z3e z];exact Aw.mpr ⟨r,f,rfl⟩))];exact ih f nd.2
def x3x{rs:List HRow}(h:∀r∈rs,r.1≠p):putK (rs.map λr=>(kP r.1,r.2)) (kP p) v=(rs++[(p,v)]).map λr=>(kP r.1,r.2):=by
 rw[x2r v (x0z h),Au];rfl
noncomputable def keyO(bl:Bool)(p:Pth):PKey:=(kP p.dropLast,.inr (mk (if bl then lowN (p.getLastD []) else p.getLastD [])))
def x7m{p q:Pth}(f:p≠[])(g:q≠[])(h:fold bl p=fold bl q):keyO bl p=keyO bl q:=by
 obtain⟨j,o⟩:=(z9x f g).mp h;unfold keyO;cases bl with
 |true=>simp_all
 |false=>simp_all
def x3y(h:hasP ks k=true):hasP (ks++[(k',b)]) k=true:=by
 unfold hasP at *;rw[List.any_append,h,Bool.true_or]
def x3z:hasP (ks++[(k,b)]) k=true:=by
 unfold hasP;simp
structure RwI (P:Ak) (w:World) (H:Hp) (a b L Dr d:Addr) (bl:Bool) (i:Nat) (H':Hp) (zs:List Zr) (ds:List (Addr×Pth)) (ks:List (PKey×Addr)):Prop where
 fd:Fd a b H H'
 rl:RL H' L zs
 hl:Hl bl (zs.map (·.2))
 len:zs.length<=i
 da:H' Dr=some (.lst (ds.map λz=>V.ref z.1))
 dt:∀z∈ds,H' z.1=some (.tup (vP z.2))/\(z.2=[]\/((z.2,none)∈zs.map (·.2)))
 dn:ds≠[]
 dl:ds.length<=i+1
 hd:DPr P w H' d ks
 kl:ks.length<=i
 hk:∀z∈zs,hasP ks (keyO bl z.2.1)=true
def DPr.fd(x:DPr P w H d ks)(F:FeedAt H a b)(fd:Fd a b H H')(hd:d≠a):DPr P w H' d ks :=
 ⟨fd.at x.at_ hd,x.sys,x.len,λy f=>by obtain⟨c,g,h⟩:=x.pk y f;exact⟨c,tupFd F fd _ _ g,tupFd F fd _ _ h⟩⟩
section
variable{H:Hp}{a b L Dr d:Addr}{bl:Bool}{i:Nat}{H' H2:Hp}{zs:List Zr}{ds:List (Addr×Pth)}{ks:List (PKey×Addr)}
def RwI.go(x:RwI P w H a b L Dr d bl i H' zs ds ks)(fd:Fd a b H' H2)(g:L≠a)(h:Dr≠a)(hd:d≠a):RwI P w H a b L Dr d bl i H2 zs ds ks :=
 ⟨x.fd.trans fd,x.rl.fd x.fd.feed fd g,x.hl,x.len,fd.at x.da h,λz f=>⟨tupFd x.fd.feed fd _ _ (x.dt z f).1,(x.dt z f).2⟩,x.dn,x.dl,DPr.fd x.hd x.fd.feed fd hd,x.kl,x.hk⟩
def RwI.sm(x:RwI P w H a b L Dr d bl i H' zs ds ks)(s:Same H' H2):RwI P w H a b L Dr d bl i H2 zs ds ks :=
 ⟨x.fd.same s,x.rl.same s,x.hl,x.len,s _ _ x.da,λz f=>⟨s _ _ (x.dt z f).1,(x.dt z f).2⟩,x.dn,x.dl,x.hd.same s,x.kl,x.hk⟩
def RwI.dput(x:RwI P w H a b L Dr d bl i H' zs ds ks)(F:FeedAt H a b)(hd:H d=none)(pk:PrK H' k e)(l:ks.length<sizeLine)(g:L≠d)(h:Dr≠d):RwI P w H a b L Dr d bl (i+1) (upd H' d (PdO P w d (ks++[(k,e)]))) zs ds (ks++[(k,e)]):=by
 have tk:∀S j,H' S=some (.tup j)->upd H' d (PdO P w d (ks++[(k,e)])) S=some (.tup j):=λS j e=>by rw[q0f (λz=>by rw[z,x.hd.at_] at e;cases e)];exact e
 exact⟨x.fd.put F hd,⟨by rw[q0f g];exact x.rl.at_,λz f=>PR.same (x.rl.pr z f) tk⟩,x.hl,Gs x.len,by rw[q0f h];exact x.da,λz f=>⟨tk _ _ (x.dt z f).1,(x.dt z f).2⟩,x.dn,Gs x.dl,x.hd.put pk l,by rw[Aj];exact Ra x.kl,λz f=>x3y (x.hk z f)⟩
def RwI.rput(x:RwI P w H a b L Dr d bl (i+1) H' zs ds ks)(F:FeedAt H a b)(C:H L=none)(j:L≠d)(o:Dr≠L)(f:zs.length<=i)(D:H' T=some (.tup [.ref p,mV m]))(E:H' p=some (.tup (vP q)))(ok:okP q)(h:∀z∈zs,fold bl z.2.1≠fold bl q)(G:q.dropLast=[]\/(q.dropLast,none)∈zs.map (·.2))(hk:hasP ks (keyO bl q)=true):RwI P w H a b L Dr d bl (i+1) (upd H' L (.lst (zs.map (λz=>V.ref z.1)++[.ref T]))) (zs++[(T,(q,m))]) ds ks:=by
 have tk:∀S s,H' S=some (.tup s)->upd H' L (.lst (zs.map (λz=>V.ref z.1)++[.ref T])) S=some (.tup s):=λS s e=>by rw[q0f (λz=>by rw[z,x.rl.at_] at e;cases e)];exact e
 have B:(zs++[(T,(q,m))]).map (·.2)=zs.map (·.2)++[(q,m)]:=by simp_all
 refine⟨x.fd.put F C,⟨by rw[q0d,Au];rfl,λz f=>?_⟩,?_,by rw[Aj];exact Ra f,by rw[q0f o];exact x.da,λz f=>⟨tk _ _ (x.dt z f).1,(x.dt z f).2.imp id λy=>by rw[B];exact Co _ y⟩,x.dn,x.dl,⟨by rw[q0f j.symm];exact x.hd.at_,x.hd.sys,x.hd.len,λy u=>by obtain⟨c,I,J⟩:=x.hd.pk y u;exact⟨c,tk _ _ I,tk _ _ J⟩⟩,x.kl,λz f=>?_⟩
 ·rcases Ba.mp f with f|f
  ·exact PR.same (x.rl.pr z f) tk
  ·rw[Ao.mp f];exact⟨p,tk _ _ D,tk _ _ E⟩
 ·rw[B];refine⟨λr g=>?_,?_,λr g=>?_⟩
  ·rcases Ba.mp g with g|g
   ·exact x.hl.ok r g
   ·simp_all
  ·rw[Au];refine Qg.mpr ⟨x.hl.nd,(Ri _ _),λy u M v=>?_⟩;rw[Ao.mp v];obtain⟨r,g,rfl⟩:=Aw.mp u;obtain⟨z,f,rfl⟩:=Aw.mp g;exact h z f
  ·rcases Ba.mp g with g|g
   ·exact(x.hl.dr r g).imp id λz=>Co _ z
   ·rw[Ao.mp g];exact G.imp id λz=>Co _ z
 ·rcases Ba.mp f with f|f
  ·exact x.hk z f
  ·grind
def RwI.draw(x:RwI P w H a b L Dr d bl (i+1) H' zs ds ks)(F:FeedAt H a b)(o:H Dr=none)(g:Dr≠L)(h:Dr≠d)(hl:ds.length<=i+1)(B:H' p=some (.tup (vP q)))(C:(q,none)∈zs.map (·.2)):RwI P w H a b L Dr d bl (i+1) (upd H' Dr (.lst (ds.map (λz=>V.ref z.1)++[.ref p]))) zs (ds++[(p,q)]) ks:=by
 have tk:∀S j,H' S=some (.tup j)->upd H' Dr (.lst (ds.map (λz=>V.ref z.1)++[.ref p])) S=some (.tup j):=λS j e=>by rw[q0f (λz=>by rw[z,x.da] at e;cases e)];exact e
 refine⟨x.fd.put F o,⟨by rw[q0f g.symm];exact x.rl.at_,λz f=>PR.same (x.rl.pr z f) tk⟩,x.hl,x.len,by rw[q0d,Au];rfl,λz f=>?_,by simp,by rw[Aj];exact Ra hl,⟨by rw[q0f h.symm];exact x.hd.at_,x.hd.sys,x.hd.len,λy s=>by obtain⟨c,u,v⟩:=x.hd.pk y s;exact⟨c,tk _ _ u,tk _ _ v⟩⟩,x.kl,x.hk⟩;rcases Ba.mp f with f|f
 ·exact⟨tk _ _ (x.dt z f).1,(x.dt z f).2⟩
 ·simp_all
end
structure CallsN (P:Ak) (w:World) (K:Ah) (mg:Str->Option Value) (base:Heap):Prop where
 draw:Cal P w K mg base "_law_draw" 1 Z5 spDraw
 a_name:Cal P w K mg base "_law_a_name" 3 Ze spName
 fold:Cal P w K mg base "_law_fold" 1 Zg spFold
noncomputable def spRows:Sp:=λvs H Q _=>∃a b bl m,vs=[.ref a,.bl bl,.int m]/\FeedAt H a b/\0<=m/\m<=60/\∀L zs H',Fd a b H H'->H L=none->RL H' L zs->Hl bl (zs.map (·.2))->zs.length<=m.toNat->Q (.ref L) H'
noncomputable abbrev z4u:Stmt:=top 75
def sc_rows:FnScope ["_law_feed", "_law_blind", "_law_most", "_law_rows_here", "_law_drawers", "_law_there", "_law_k", "_law_drawer", "_law_name", "_law_mark"] Z7 (defScope z4u):=by trivial
def x7n(D:Df K mg "_law_rows" z4u Z7)(T:Txt mg)(C:CallsN P w K mg base):Cal P w K mg base "_law_rows" 4 Z7 spRows:=by
 refine D.cal sc_rows (λvs H Q E h=>?_) (λf e3 A outer s H vs Q E U h=>?_)
 ·obtain⟨a,b,bl,m,rfl,_⟩:=h;rfl
 ·obtain⟨a,b,bl,m,rfl,F,e4,e5,k⟩:=h;refine⟨_,(q0b (q0k (i:=3) sc_rows.nd rfl (by trivial) (q1j q0c)) (q0b (q0k (i:=4) sc_rows.nd rfl (by trivial) (q1j (q0a (q0o q0c) q0c))) (q0b (q0k (i:=5) sc_rows.nd rfl (by trivial) (x3k P w rfl rfl)) (q0b (q1u Dc rfl (q3m rfl T.b_range (q0a (pe_c C.draw U (q0a (pv 0) (q0a (q0v q0r (pv 2) q0g) q0c))) q0c)) (q0n (i:=6) sc_rows.nd rfl (by trivial)) (q0b (q0k (i:=7) sc_rows.nd rfl (by trivial) (q0w (ix_k K rfl) (pv 4) (pe_c C.draw U (q0a (pv 0) (q0a (q0q (q1z K rfl) (by rfl) T.b_len Br (q0a (pv 4) q0c)) q0c))) (λ_ _=>rfl))) (q0b (q0k (i:=8) sc_rows.nd rfl (by trivial) (pe_c C.a_name U (q0a (pv 0) q0c))) (q0b (q0k (i:=9) sc_rows.nd rfl (by trivial) (q0w (ix_k K rfl) (q1j (q0a q8q (q0a q0g (q0a (pe_c C.draw U (q0a (pv 0) (q0a q0g q0c))) (q0a (pe_c C.draw U (q0a (pv 0) (q0a (q0v q0r (q0v x4n q0g q0g) q0g) q0c))) q0c))))) (pe_c C.draw U (q0a (pv 0) (q0a q0g q0c))) (λ_ _=>rfl))) (q0e (q0s (pt_j (@PW.pt _ _ _ (q5a (q0h z3w (q0q (q1z K rfl) (by rfl) T.b_len Br (q0a (pv 7) q0c)) q0g (nomark _)) (q2w (q3i (x0m P w rfl rfl (z2s U) (q0o (q0a (pv 7) (q0a (pe_c C.fold U (q0a (pv 8) (q0a (pv 1) q0c))) q0c))) (pv 5))))))) (q0b (x6v P w rfl rfl (z2s U) (pv 5) (q0o (q0a (pv 7) (q0a (pe_c C.fold U (q0a (pv 8) (q0a (pv 1) q0c))) q0c))) q4y rfl) (q0b (q0u (@bm_k _ _ _ _ _ _ _ _ _ _ _ _ K rfl Bi Ce Cf q1d (pv 3) (q0a (q0o (q0a (q0v z4i (pv 7) (q0o (q0a (pv 8) q0c))) (q0a (pv 9) q0c))) q0c) (by rfl) (by rfl) (by rfl) (by rfl) (by rfl))) (q0e (q0s (q3i (z1c (pv 9))) (q0e (q0u (@bm_k _ _ _ _ _ _ _ _ _ _ _ _ K rfl Bi Ce Cf q1d (pv 4) (q0a (q0v z4i (pv 7) (q0o (q0a (pv 8) q0c))) q0c) (by rfl) (by rfl) (by rfl) (by rfl) (by rfl)))) q0j)))) q0j)))))) (q0e (q0l (pv 3))))))),?_⟩;refine⟨by show 0<=sizeLine;decide,λL hL=>⟨by show 0<=sizeLine;decide,λp0 a3=>⟨by show 1<=sizeLine;decide,λR u=>?_⟩⟩⟩;intro d hd a9;have B:L≠a:=(q0t F.fa.choose_spec.choose_spec hL).symm;have s1:=(Same.refl H).new (o:=.lst []) hL;have s2:=s1.new (o:=.tup []) a3;have s3:=s2.new (o:=.lst [.ref p0]) u;have s4:=s3.new (o:=PdO P w d []) hd;have a1:H R=none:=s2.free u;have b0:H d=none:=s3.free hd;have G:R≠a:=(q0t F.fa.choose_spec.choose_spec a1).symm;have I:d≠a:=(q0t F.fa.choose_spec.choose_spec b0).symm;have a4:p0≠L:=λz=>by rw[z,q0d] at a3;cases a3
  have j:R≠L:=λz=>by rw[z,q0f a4.symm,q0d] at u;cases u
  have a2:R≠p0:=λz=>by rw[z,q0d] at u;cases u
  have a5:d≠L:=λz=>by rw[z,q0f j.symm,q0f a4.symm,q0d] at hd;cases hd
  have a6:d≠R:=λz=>by rw[z,q0d] at hd;cases hd
  have c5:d≠p0:=λz=>by rw[z,q0f a2.symm,q0d] at hd;cases hd
  have I0:RwI P w H a b L R d bl 0 (upd (upd (upd (upd H L (.lst [])) p0 (.tup [])) R (.lst [.ref p0])) d (PdO P w d [])) [] [(p0,[])] []:=by
   refine⟨(Fd.refl F).same s4,⟨?_,(λ_ h=>nomatch h)⟩,Hl.nil bl,Ai _,?_,λz hz=>?_,by simp,Ai _,⟨q0d,a9,Bf _,(λ_ h=>nomatch h)⟩,Ai _,(λ_ h=>nomatch h)⟩
   ·rw[q0f a5.symm,q0f j.symm,q0f a4.symm];exact q0d
   ·rw[q0f a6.symm];exact q0d
   ·rw[Ao.mp hz];exact⟨by rw[q0f c5.symm,q0f a2.symm];exact q0d,.inl rfl⟩
  refine⟨_,rfl,_,rfl,.inl ⟨_,_,rfl,rfl,a,b,_,rfl,I0.fd.feed,by lia,by lia,λr0 H1 e6 e7 c6=>?_⟩⟩;have I1:=I0.go c6 B G I;refine⟨r0,rfl,by lia,by lia,q5c (n:=r0.toNat) (λi a7 H'=>∃X ds S x6 x7 x8 x9,a7=[some (.ref a),some (.bl bl),some (.int m),some (.ref L),some (.ref R),some (.ref d),x6,x7,x8,x9]/\RwI P w H a b L R d bl i H' X ds S/\i<=r0.toNat) ⟨[],_,_,none,none,none,none,rfl,I1,Bf _⟩ ?_ ?_⟩
  ·rintro i a7 H' hi ⟨X,ds,S,x6,x7,x8,x9,rfl,W,_⟩;have c7:=W.dl;have e8:0<ds.length:=Ea.mpr W.dn;refine⟨_,rfl,_,rfl,_,rfl,_,_,rfl,.inl ⟨_,SqL.of W.da,rfl⟩,a,b,_,rfl,W.fd.feed,by rw[Af];lia,by rw[Af];lia,λr1 H2 c8 b1 b2=>?_⟩;have I3:=W.go b2 B G I;rw[Af] at b1;obtain⟨v,J,b3⟩:=x4s (xs:=ds.map λz=>V.ref z.1) c8 (by rw[Af];exact b1);obtain⟨z,hz,rfl⟩:∃z∈ds,v=V.ref z.1:=by
    rw[Bm] at J;cases e:ds[r1.toNat]? with
    |none=>rw[e] at J;cases J
    |some z=>rw[e] at J;cases J;exact⟨z,Bd e,rfl⟩
   refine .inl ⟨R,_,r1,_,rfl,rfl,SqL.of I3.da,b3,?_⟩;refine⟨_,rfl,a,b,rfl,I3.fd.feed,λt H3 a8 b4=>?_⟩;have I4:=I3.go b4 B G I;refine⟨_,rfl,a,b,_,rfl,I4.fd.feed,by decide,by decide,λm1 H5 e9 f1 b5=>?_⟩;have I5:=I4.go b5 B G I;refine⟨_,rfl,_,_,rfl,rfl,⟨by decide,by decide,by decide⟩,.inl ⟨_,_,rfl,rfl,a,b,_,rfl,I5.fd.feed,by decide,by decide,λm2 H6 f2 f3 b6=>⟨by show 4<=sizeLine;decide,λM hM=>?_⟩⟩⟩;have I6:=I5.go b6 B G I;have b7:M≠a:=(I6.fd.feed.na hM).symm;have I7:=I6.sm ((Same.refl H6).new (o:=.lst [.non,.int 0,.int m1,.int m2]) hM);refine⟨_,rfl,a,b,_,rfl,I7.fd.feed,by decide,by decide,λm3 H8 f4 f5 b8=>?_⟩;have I8:=I7.go b8 B G I;have Y:∃O:Option Int,atI [V.non,V.int 0,V.int m1,V.int m2] m3=some (mV O):=by
    have e:m3=0\/m3=1\/m3=2\/m3=3:=by lia
    rcases e with rfl|rfl|rfl|rfl
    ·exact⟨none,rfl⟩
    ·exact⟨some 0,rfl⟩
    ·exact⟨some m1,rfl⟩
    ·exact⟨some m2,rfl⟩
   obtain⟨O,Y⟩:=Y;refine .inl ⟨M,_,m3,_,rfl,rfl,SqL.of (b8.at q0d b7),Y,?_⟩;clear Y I7 I6 I5 I4 I3 b2 b4 b5 b6 J b3 b7;obtain⟨zt,zd⟩:=I8.dt z hz;have b9:z.2++[t]≠[]:=by simp
   have c9:keyO bl (z.2++[t])=(kP z.2,.inr (mk (if bl then lowN t else t))):=by
    unfold keyO;rw[Tv,List.getLastD_concat]
   have pk:∀{Z:Hp} {p:Addr},Z z.1=some (.tup (vP z.2))->Z p=some (.tup [.ref z.1,.str (mk (if bl then lowN t else t))])->PrK Z (keyO bl (z.2++[t])) p:=λ{Z p} e1 e2=>by
    rw[c9];exact⟨z.1,e2,by rw[z2h];exact e1⟩
   refine⟨λbb Z=>RwI P w H a b L R d bl i Z X ds S/\(bb=true->z.2.length<6/\hasP S (keyO bl (z.2++[t]))=false),?_,?_⟩;rotate_left
   ·refine⟨_,rfl,_,_,rfl,.inr ⟨_,SqT.of zt,rfl⟩,_,_,rfl,rfl,_,rfl,?_⟩;refine iteB (λhb=>?_) (λhb=>⟨I8,(λz=>by cases z)⟩);have hb':z.2.length<6:=by
     have e:=of_decide_eq_true hb;rw[q2p] at e;lia
    refine⟨_,rfl,_,rfl,_,rfl,t,bl,rfl,a8,by show 2<=sizeLine;decide,λp2 d0=>?_⟩;have s9:=(Same.refl H8).new (o:=.tup [.ref z.1,.str (mk (if bl then lowN t else t))]) d0;exact⟨_,rfl,d,S,p2,keyO bl (z.2++[t]),rfl,rfl,(I8.sm s9).hd,pk (s9 _ _ zt) q0d,_,rfl,I8.sm s9,λe=>⟨hb',by simpa using e⟩⟩
   rintro bb Z ⟨g,c0⟩;refine ite2 (λhb=>?_) (λhb=>⟨X,ds,S,_,_,_,_,rfl,⟨g.fd,g.rl,g.hl,Gs g.len,g.da,g.dt,g.dn,Gs g.dl,g.hd,Gs g.kl,g.hk⟩,hi⟩);obtain⟨h6,a0⟩:=c0 hb;obtain⟨c1,_⟩:=g.dt z hz;refine⟨_,rfl,_,rfl,_,rfl,_,rfl,t,bl,rfl,a8,by show 2<=sizeLine;decide,λp3 d1=>?_⟩;have sA:=(Same.refl Z).new (o:=.tup [.ref z.1,.str (mk (if bl then lowN t else t))]) d1;have IA:=g.sm sA;have pkA:=pk (sA _ _ c1) (p:=p3) q0d;have c2:S.length<sizeLine:=by have:=g.kl;exact small' (by lia)
   refine⟨d,S,p3,keyO bl (z.2++[t]),rfl,rfl,rfl,IA.hd,pkA,a0,c2,?_⟩;have IB:=IA.dput F b0 pkA c2 a5.symm a6.symm;have d2:X.length<=i:=g.len;have c3:∀y∈X,fold bl y.2.1≠fold bl (z.2++[t]):=λy hy e=>by
    have h1:=g.hk y hy;rw[x7m (g.hl.ok _ (Aw.mpr ⟨y,hy,rfl⟩)).ne b9 e] at h1;rw[h1] at a0;cases a0
   have d3:okP (z.2++[t]):=by
    refine⟨by simp,by rw[Aj];show _+1<=6;lia,λn hn=>?_⟩;rcases Ba.mp hn with hn|hn
    ·rcases zd with e|e
     ·rw[e] at hn;cases hn
     ·exact(g.hl.ok _ e).all n hn
    ·rw[Ao.mp hn];exact a8
   have d4:(z.2++[t]).dropLast=[]\/((z.2++[t]).dropLast,none)∈X.map (·.2):=by rw[Tv];exact zd
   have c4:hasP (S++[(keyO bl (z.2++[t]),p3)]) (keyO bl (z.2++[t]))=true:=x3z;clear IA I8 zt c1 pkA pk a0 c0 g sA;generalize upd (upd Z p3 (.tup [.ref z.1,.str (mk (if bl then lowN t else t))])) d _=HB at IB;generalize S++[(keyO bl (z.2++[t]),p3)]=f6 at IB c4;obtain⟨d5,_⟩:=IB.dt z hz;refine⟨_,rfl,.inl ⟨rfl,_,SqL.of IB.rl.at_⟩,_,rfl,_,rfl,by show 1<=sizeLine;decide,λp4 d6=>?_⟩;have s5:=(Same.refl HB).new (o:=.tup [.str (mk t)]) d6;refine⟨z.1,p4,_,_,rfl,rfl,s5 _ _ d5,q0d,by rw[q2p];exact small (by show _+1<=_;lia),λp5 HC sC d7 _=>?_⟩;have hp5':HC p5=some (.tup (vP (z.2++[t]))):=by rw[d7];show _=some (HO.tup ((z.2++[t]).map _));rw[Au];rfl
   have IC:=IB.sm (s5.trans sC);refine⟨_,rfl,by show 2<=sizeLine;decide,λT1 d8=>?_⟩;have sD:=(Same.refl HC).new (o:=.tup [.ref p5,mV O]) d8;have ID:=IC.sm sD;refine⟨L,_,_,rfl,rfl,ID.rl.at_,by rw[Af];exact small' (by lia),?_⟩;have IE:=ID.rput (m:=O) F hL a5.symm j d2 q0d (sD _ _ hp5') d3 c3 d4 c4;have zE:=(IE.dt z hz).1;generalize upd (upd HC T1 (.tup [.ref p5,mV O])) L _=HE at IE zE;refine⟨_,rfl,_,rfl,?_⟩;cases O with
   |some x=>exact iteF ⟨_,_,_,_,_,_,_,rfl,IE,hi⟩
   |none =>
    refine iteT ⟨_,rfl,.inl ⟨rfl,_,SqL.of IE.da⟩,_,rfl,_,rfl,by show 1<=sizeLine;decide,λp6 d9=>?_⟩;have s6:=(Same.refl HE).new (o:=.tup [.str (mk t)]) d9;refine⟨z.1,p6,_,_,rfl,rfl,s6 _ _ zE,q0d,by rw[q2p];exact small (by show _+1<=_;lia),λp7 HF sF e0 _=>?_⟩;have hp7':HF p7=some (.tup (vP (z.2++[t]))):=by rw[e0];show _=some (HO.tup ((z.2++[t]).map _));rw[Au];rfl
    have IF:=IE.sm (s6.trans sF);refine⟨R,_,_,rfl,rfl,IF.da,by rw[Af];exact small' (by lia),?_⟩;exact⟨_,_,_,_,_,_,_,rfl,IF.draw F a1 j a6.symm c7 hp7' (by simp),hi⟩
  ·rintro a7 H' ⟨X,ds,S,x6,x7,x8,x9,rfl,W,_⟩;exact⟨_,rfl,k L X H' W.fd hL W.rl W.hl (by have:=W.len;lia)⟩
end
end K
set_option maxHeartbeats 4000000
namespace K
open PySem L2 TX SB HM
section
variable{P:Ak}{w:World}{K:Ah}{mg:Str->Option Value}{base:Heap}
structure Hk (K:Ah) (c:Addr):Prop where
 cl:Cls K c
 b:NoAttr K c "blind"
 m:NoAttr K c "marks"
noncomputable abbrev hF(bl:Bool)(d:Addr):List (Str×V):=[("blind",.bl bl),("marks",.ref d)]
structure HallAt (c:Addr) (H:Hp) (h d:Addr) (bl:Bool) (rows:List Rw):Prop where
 i:∃dx,H h=some (.ins c dx (hF bl d))
 d:H d=some (dR (rows.map rR))
def HallAt.same{d:Addr}(x:HallAt c H h d bl rows)(s:Same H H'):HallAt c H' h d bl rows:=⟨x.i.imp λf e=>s _ _ e,s _ _ x.d⟩
noncomputable def spAlike:Sp:=λvs H Q _=>∃x y,vs=[.str x,.str y]/\(∀c∈tl x,c<128)/\(∀c∈tl y,c<128)/\x.length<=1000/\y.length<=1000/\Q (.bl (decide ((tl x).map Kh=(tl y).map Kh))) H
noncomputable abbrev z0q:Stmt:=top 19
def x4a:FnScope Zz Zz (defScope z0q):=by trivial
def x4b(D:Df K mg "alike" z0q Zz)(T:Txt mg):Cal P w K mg base "alike" 1 Zz spAlike:=by
 refine D.cal x4a (λvs H Q E h=>?_) (λf g A outer s H vs Q E j h=>?_)
 ·obtain⟨x,y,rfl,_⟩:=h;rfl
 ·obtain⟨x,y,rfl,o,u,v,B,k⟩:=h;refine⟨_,(q0e (q0l (q2r (eq_k K rfl j) (@z1t _ _ _ _ _ _ _ _ _ K rfl Ek Hf Hg q5h (pv 0) (by rfl) (by rfl)) (@z1t _ _ _ _ _ _ _ _ _ K rfl Ek Hf Hg q5h (pv 1) (by rfl) (by rfl)) (nomark _)))),?_⟩;refine⟨_,rfl,rfl,_,rfl,rfl,small (by lia),⟨_,rfl,rfl,_,rfl,rfl,small (by lia),.inl ⟨rfl,?_⟩⟩⟩;have e:decide ((V.str (Ji x))=V.str (Ji y))=decide ((tl x).map Kh=(tl y).map Kh):=by
   rw[<- TX.lower o,<- TX.lower u];by_cases h:Ji x=Ji y
   ·rw[h];simp
   ·rw[decide_eq_false (λz=>h (V.str.inj z)),decide_eq_false (λz=>h (TX.ext z))]
  rw[e];exact k
structure CallsH (P:Ak) (w:World) (K:Ah) (mg:Str->Option Value) (base:Heap):Prop where
 alike:Cal P w K mg base "alike" 1 Zz spAlike
def z0r(h:Low p):Low p.dropLast:=λn hn=>h n (List.dropLast_subset _ hn)
noncomputable def spOneP(c:Addr):Sp:=λvs H Q _=>∃h p q bl dx fs one other,vs=[.ref h,.ref p,.ref q]/\H h=some (.ins c dx fs)/\fs.lookup ("blind" : Str)=some (V.bl bl)/\H p=some (.tup (vP one))/\H q=some (.tup (vP other))/\okP one/\okP other /\
 ∀H',Same H H'->Q (.bl (decide (fold bl one=fold bl other))) H'
noncomputable abbrev q1n:Stmt:=inClass (top 67) 3
def q4h:FnScope Zk Zk (defScope q1n):=by trivial
def z3f(D:Mf K c "is_one_place" "Hall.is_one_place" q1n Zk)(hk:Hk K c)(T:Txt mg)(C:CallsH P w K mg base):MCal P w K mg base c "is_one_place" 2 Zk (spOneP c):=by
 refine D.cal hk.cl q4h (λvs H Q E h=>?_) (λf Y A outer s H vs Q E G h=>?_)
 ·obtain⟨h,p,q,bl,S,fs,one,g,rfl,_⟩:=h;rfl
 ·obtain⟨h,p,q,bl,S,fs,one,g,rfl,Z,hb,I,J,j,u,k⟩:=h;refine⟨_,(q0b (q0s (q0h (ne_k K rfl G) (q1c (sl_k K rfl) (pv 1) q2s (q0z (q5d q2j q0g))) (q1c (sl_k K rfl) (pv 2) q2s (q0z (q5d q2j q0g))) (nomark _)) (q0e (q0l q4y)) q0j) (q0b (q0s (@q9x _ _ _ K rfl (@z7d _ _ _ _ _ K rfl (pv 0) (by rfl)) (λ_=>rfl)) (q0e (q0l (pe_c C.alike G (q0a (q0w (ix_k K rfl) (pv 1) (q5d q2j q0g) (λ_ _=>rfl)) (q0a (q0w (ix_k K rfl) (pv 2) (q5d q2j q0g) (λ_ _=>rfl)) q0c))))) q0j) (q0e (q0l (q2r (eq_k K rfl G) (q0w (ix_k K rfl) (pv 1) (q5d q2j q0g) (λ_ _=>rfl)) (q0w (ix_k K rfl) (pv 2) (q5d q2j q0g) (λ_ _=>rfl)) (nomark _)))))),?_⟩;obtain⟨c1,c2⟩:=q4g j.ne;obtain⟨d1,d2⟩:=q4g u.ne;refine⟨_,rfl,_,rfl,_,rfl,.inr (.inr ⟨p,_,rfl,SqT.of I,c2,λL M=>?_⟩)⟩;rw[c1];have U:=(Same.refl H).new (o:=.tup (vP one.dropLast)) M;refine⟨_,rfl,_,rfl,_,rfl,.inr (.inr ⟨q,_,rfl,SqT.of (U _ _ J),d2,λO B=>?_⟩)⟩;rw[d1];have v:=U.new (o:=.tup (vP g.dropLast)) B;have hp1':upd (upd H L (.tup (vP one.dropLast))) O (.tup (vP g.dropLast)) L=some (.tup (vP one.dropLast)):=by
   rw[q0f (λz=>by rw[<- z,q0d] at B;cases B)];exact q0d
  generalize R:upd (upd H L (.tup (vP one.dropLast))) O (.tup (vP g.dropLast))=H2 at v hp1';have hp2':H2 O=some (.tup (vP g.dropLast)):=by rw[<- R];exact q0d
  have fe:=z9x (bl:=bl) j.ne u.ne;refine z0c hp1' hp2' (z0r j.low) (z0r u.low) ⟨_,rfl,ite2 (λF=>?_) (λF=>?_)⟩
  ·have hne':one.dropLast≠g.dropLast:=by simpa using F
   have e:=decide_eq_false λz=>hne' (fe.mp z).1;rw[<- e];exact k _ v
  ·have a0:one.dropLast=g.dropLast:=by simpa using F
   refine⟨_,rfl,h,c,S,fs,_,rfl,v _ _ Z,hk.cl,hk.b,hb,_,rfl,?_⟩;have W:=q6c j;have X:=q6c u;cases bl with
   |true =>
    refine iteT ⟨_,rfl,_,rfl,.inr (.inl ⟨p,_,-1,_,rfl,rfl,SqT.of (v _ _ I),q8h j.ne,?_⟩)⟩;refine⟨_,rfl,_,rfl,.inr (.inl ⟨q,_,-1,_,rfl,rfl,SqT.of (v _ _ J),q8h u.ne,?_⟩)⟩;refine⟨_,_,rfl,by rw[q1g];exact W.low,by rw[q1g];exact X.low,by rw[q0x];have:=W.few;lia,by rw[q0x];have:=X.few;lia,?_⟩;have e:decide (fold true one=fold true g)=decide (lowN (one.getLastD [])=lowN (g.getLastD [])):=by grind
    have:=k _ v;rw[e] at this;exact this
   |false =>
    refine iteF ⟨_,rfl,_,rfl,.inr (.inl ⟨p,_,-1,_,rfl,rfl,SqT.of (v _ _ I),q8h j.ne,?_⟩)⟩;refine⟨_,rfl,_,rfl,.inr (.inl ⟨q,_,-1,_,rfl,rfl,SqT.of (v _ _ J),q8h u.ne,?_⟩)⟩;refine .inl ⟨rfl,?_⟩;have e:decide (fold false one=fold false g)=decide (V.str (mk (one.getLastD []))=V.str (mk (g.getLastD []))):=by simp_all
    have:=k _ v;rw[e] at this;exact this
noncomputable def spThere(c:Addr):Sp:=λvs H Q _=>∃h d p bl rows place,vs=[.ref h,.ref p]/\HallAt c H h d bl rows/\H p=some (.tup (vP place))/\okP place/\(∀r∈rows,okP r.1) /\
 (∀H',Same H H'->(∀r∈rows,fold bl r.1≠fold bl place)->Q .non H')/\∀H' b r,Same H H'->r∈rows->fold bl r.1=fold bl place->H' b=some (.tup (vP r.1))->Q (.ref b) H'
structure CallsI (P:Ak) (w:World) (K:Ah) (mg:Str->Option Value) (base:Heap) (c:Addr):Prop where
 m_is_one_place:MCal P w K mg base c "is_one_place" 2 Zk (spOneP c)
def z3g(hd:H d=some o)(k:∀a u,a≠d->H a=some u->H' a=some u):Same H (upd H' d o):=λa u e=>by
 by_cases z:a=d
 ·subst z;rw[q0d,<- hd];exact e
 ·rw[q0f z];exact k a u z e
noncomputable abbrev q3g:Stmt:=inClass (top 67) 4
def sc_Hall_there:FnScope ["self", "place", "path"] Y6 (defScope q3g):=by trivial
def x4c(D:Mf K c "there" "Hall.there" q3g Y6)(hk:Hk K c)(T:Txt mg)(C:CallsI P w K mg base c):MCal P w K mg base c "there" 3 Y6 (spThere c):=by
 refine D.cal hk.cl sc_Hall_there (λvs H Q E h=>?_) (λf a0 A outer s H vs Q E j h=>?_)
 ·obtain⟨h,d,p,bl,rows,g,rfl,_⟩:=h;rfl
 ·obtain⟨h,d,p,bl,rows,g,rfl,Y,R,ok,S,k1,k2⟩:=h;refine⟨_,(q0b (x6k H rfl (q1u Dc rfl (@ditT_k _ _ _ _ K rfl (@z7d _ _ _ _ _ K rfl (pv 0) (by rfl))) (q0n (i:=2) sc_Hall_there.nd rfl (by trivial)) (q0e (q0s (@q9x _ _ _ K rfl (pe_m C.m_is_one_place j (pv 0) (q0a (pv 2) (q0a (pv 1) q0c))) (λ_=>rfl)) (q0e (q0l (pv 2))) q0j)))) (q0e (q0l q8q))),?_⟩;obtain⟨U,F⟩:=Y.i;have hd:=Y.d;have G:h≠d:=λz=>by rw[z,hd] at F;cases F
  have W:p≠d:=λz=>by rw[z,hd] at R;cases R
  refine⟨d,(λo v e=>by rw[hd] at e;cases e),?_⟩;refine⟨_,rfl,h,c,U,_,_,rfl,F,hk.cl,hk.m,rfl,d,_,rfl,hd,λX=>?_⟩;refine z9k (λi B I=>(∃x,B=[some (.ref h),some (.ref p),x])/\I d=some (.frz X (dR (rows.map rR)))/\(∀a u,a≠d->H a=some u->I a=some u)/\∀r∈rows.take i,fold bl r.1≠fold bl g)
   ⟨⟨none,rfl⟩,q0d,λa u n e=>by rw[q0f n];exact e,λr j=>by rw[Ox] at j;cases j⟩ (λi B I x=>x.2.1) ?_ ?_
  ·rintro i ky v b B I hk' hb ⟨⟨x,rfl⟩,hfz,kp,hno⟩;obtain⟨r,j,rfl,rfl⟩:∃r,rows[i]?=some r/\ky=kP r.1/\v=mV r.2:=by
    rw[Bm,Bm] at hk';cases e:rows[i]? with
    |none=>grind
    |some r=>rw[e] at hk';cases hk';exact⟨r,rfl,rfl,rfl⟩
   have J:=Bd j;rw[z2h] at hb;refine⟨_,rfl,h,U,_,rfl,kp _ _ G F,rfl,_,rfl,_,rfl,h,b,p,bl,U,_,r.1,g,rfl,kp _ _ G F,rfl,hb,kp _ _ W R,S r J,ok,λH2 O=>⟨_,rfl,?_⟩⟩;have L:=λa u n e=>O _ _ (kp a u n e);refine iteB (λZ=>?_) (λZ=>?_)
   ·refine⟨_,rfl,X,_,O _ _ hfz,k2 _ b r (z3g hd L) J (of_decide_eq_true Z) ?_⟩;rw[q0f (λz=>by rw[z,hfz] at hb;cases hb)];exact O _ _ hb
   ·refine⟨⟨_,rfl⟩,O _ _ hfz,L,λy M=>?_⟩;rw[Mj,j] at M;rcases Ba.mp M with M|M
    ·exact hno y M
    ·simp_all
  ·rintro B I ⟨⟨x,rfl⟩,hfz,kp,hno⟩;refine⟨X,_,hfz,k1 _ (z3g hd kp) λr j=>hno r ?_⟩;rw[Af,Af,Dj];exact j
noncomputable def spHRows(c:Addr):Sp:=λvs H Q _=>∃h d bl rows,vs=[.ref h]/\HallAt c H h d bl rows/\rows.length<64/\(∀r∈rows,Low r.1) /\
 ∀L zs H',H L=none->Same H H'->RL H' L zs->(zs.map (·.2)).Perm rows->(zs.map (·.2.1)).Pairwise (λa b=>pLt b a=false)->Q (.ref L) H'
noncomputable abbrev q3t:Stmt:=inClass (top 67) 1
def z3h:FnScope ["self"] ["self"] (defScope q3t):=by trivial
def x4d(D:Mf K c "rows" "Hall.rows" q3t ["self"])(hk:Hk K c)(T:Txt mg):MCal P w K mg base c "rows" 2 ["self"] (spHRows c):=by
 refine D.cal hk.cl z3h (λvs H Q E h=>?_) (λf R A outer s H vs Q E B h=>?_)
 ·obtain⟨h,d,bl,rows,rfl,_⟩:=h;rfl
 ·obtain⟨h,d,bl,rows,rfl,u,C,j,k⟩:=h;refine⟨_,(q0e (q0l (q0q (z7b B) (by rfl) T.b_sorted (by trivial) (q0a (@z1t _ _ _ _ _ _ _ _ _ K rfl Rk PySem.F.slot_dict_items PySem.F.type_dict_items x3f (@z7d _ _ _ _ _ K rfl (pv 0) (by rfl)) (by rfl) (by rfl)) q0c)))),?_⟩;obtain⟨S,U⟩:=u.i;refine⟨_,rfl,h,c,S,_,_,rfl,U,hk.cl,hk.m,rfl,.inr (.inr (.inl ⟨rfl,.inr ⟨_,u.d⟩⟩)),d,_,rfl,rfl,u.d,λv W=>?_⟩;have G:=(Same.refl H).new (o:=vwO v d) W;refine⟨v,d,rows.map rR,rfl,q0d,G _ _ u.d,by rw[Af];exact C,λr B=>?_,λL as rs X Y Z hs sm I J=>?_⟩
  ·obtain⟨x,hx,rfl⟩:=Aw.mp B;exact j x hx
  ·obtain⟨g,p',rfl⟩:=perm_map_inv Z rfl;obtain⟨M,z1,O,z3⟩:=zs_of J rfl;refine k L M X (G.free Y) (G.trans sm) ⟨?_,z3⟩ (by rw[O];exact p') ?_
   ·rw[I,<- z1,Dy];rfl
   ·have e:M.map (·.2.1)=(g.map rR).map (·.1):=by rw[<- O,Dy,Dy];rfl
    rw[e];exact hs
theorem z6e{f:Type}:∀{l:List f} {i:Nat} {r:f},l[i]?=some r->l=l.take i++r::l.drop (i+1)
 |[],_,_,h=>by cases h
 |a::l,0,_,h=>by cases h;rfl
 |a::l,i+1,r,h=>by show a::l=a::(l.take i++r::l.drop (i+1));rw[<- z6e (l:=l) (i:=i) h]
def x1b{g o:Type}{f:g->o}{l:List g}{r h:g}(nd:(l.map f).Nodup)(s:l[i]?=some r)(j:h∈l.take i):f h≠f r:=by
 rw[z6e s,Au,Ar] at nd;exact λz=>(Qg.mp nd).2.2 _ (Aw.mpr ⟨h,j,rfl⟩) _ Av z
structure InInv (c:Addr) (H:Hp) (x dx d Dr:Addr) (bl:Bool) (rows:List Rw) (ys:List (List Key×V)) (i:Nat) (H':Hp):Prop where
 ins:H' x=some (.ins c dx (hF bl d))
 d:H' d=some (dR ((rows.take i).map rR))
 r:H' Dr=some (.dT ys)
 k:∀a u,a≠x->H a=some u->H' a=some u
def InInv.same{d:Addr}(v:InInv c H x dx d Dr bl rows ys i H')(s:Same H' H2):InInv c H x dx d Dr bl rows ys i H2:=⟨s _ _ v.ins,s _ _ v.d,s _ _ v.r,λa u n e=>s _ _ (v.k a u n e)⟩
noncomputable def spInit(c:Addr):Sp:=λvs H Q _=>∃x dx L bl zs,vs=[.ref x,.ref L,.bl bl]/\H x=some (.ins c dx [])/\RL H L zs/\Hl bl (zs.map (·.2))/\zs.length<=60 /\
 ∀d H',H d=none->H' x=some (.ins c dx (hF bl d))->H' d=some (dR ((zs.map (·.2)).map rR))->(∀a u,a≠x->H a=some u->H' a=some u)->Q .non H'
structure CallsK (P:Ak) (w:World) (K:Ah) (mg:Str->Option Value) (base:Heap) (c:Addr):Prop where
 m_there:MCal P w K mg base c "there" 3 Y6 (spThere c)
noncomputable abbrev q1a:Stmt:=inClass (top 67) 0
def sc_Hall___init__:FnScope ["self", "rows", "blind", "drawers", "at", "path", "mark", "drawer"] Zo (defScope q1a):=by trivial
def x7o(D:Kf K mg c "Hall" "Hall.__init__" q1a Zo)(hk:Hk K c)(T:Txt mg)(C:CallsK P w K mg base c):KCal P w K mg base c "Hall" 4 Zo (spInit c):=by
 refine D.cal sc_Hall___init__ (λvs H Q E h=>?_) (λf b2 A outer s H vs Q E G h=>?_)
 ·obtain⟨x,J,L,bl,j,rfl,_⟩:=h;rfl
 ·obtain⟨x,J,L,bl,j,rfl,hx,hl,hH,b3,k⟩:=h;refine⟨_,(q0b (@x5b _ _ _ _ _ _ _ _ K rfl (pv 0) (pv 2) (by rfl)) (q0b (@x5b _ _ _ _ _ _ _ _ K rfl (pv 0) x2t (by rfl)) (q0b (x3g (i:=3) ["path", "mark"] [] sc_Hall___init__.nd rfl (by trivial) rfl (@q5u _ _ _ _ K rfl (pv 1)) (λ_ _ _ _ _=>(@q1q _ _ _ _ (2) _ K rfl rfl (q0p (q0n (i:=0) (show(["path", "mark"]:List Str).Nodup by trivial) rfl (by trivial)) (q0p (q0n (i:=1) (show(["path", "mark"]:List Str).Nodup by trivial) rfl (by trivial)) q1b)) (by rfl) (by rfl))) (λ_ _ _ _ _=>(q7i (q3i (z1c (pv 1))))) (λ_ _ _ _ _=>(pv 0)) (λ_ _ _ _ _=>q4y) (q9r G)) (q0e (q1u Dc rfl (@q8w _ _ _ _ _ _ _ _ K rfl rfl T.b_enumerate (q0a (pv 1) q0c) (by rfl)) (@q1q _ _ _ _ (2) _ K rfl rfl (q0p (q0n (i:=4) sc_Hall___init__.nd rfl (by trivial)) (q0p (@q1q _ _ _ _ (2) _ K rfl rfl (q0p (q0n (i:=5) sc_Hall___init__.nd rfl (by trivial)) (q0p (q0n (i:=6) sc_Hall___init__.nd rfl (by trivial)) q1b)) (by rfl) (by rfl)) q1b)) (by rfl) (by rfl)) (q0b (q0k (i:=7) sc_Hall___init__.nd rfl (by trivial) (q1c (sl_k K rfl) (pv 5) q2s (q0z (q5d q2j q0g)))) (q0b (q0s (pt_j (@PW.pt _ _ _ (q5a (q0h (ne_k K rfl G) (pv 7) (q0o q0c) (nomark _)) (q2w (q3i (z1y (q9r G) (pv 7) (pv 3))))))) (q0e q1r) q0j) (q0b (q0s (q3i (q9k (pe_m C.m_there G (pv 0) (q0a (pv 5) q0c)))) (q0e q1r) q0j) (q0e (z9c (q9r G) (@z7d _ _ _ _ _ K rfl (pv 0) (by rfl)) (pv 5) (pv 6) rfl)))))))))),?_⟩;have a8:L≠x:=λz=>by have e:=hl.at_;rw[z,hx] at e;cases e
  refine⟨_,rfl,_,rfl,x,c,J,_,rfl,hx,hk.cl,hk.b,by decide,?_⟩;intro d hd;have R:d≠x:=λz=>by rw[z,q0d] at hd;cases hd
  have a0:H d=none:=by rw[q0f R] at hd;exact hd
  refine⟨_,rfl,x,c,J,_,rfl,by rw[q0f R.symm];exact q0d,hk.cl,hk.m,by show 1<1000;decide,?_⟩;have pf:putF ("marks" : Str) (V.ref d) (putF ("blind" : Str) (V.bl bl) [])=hF bl d:=rfl;generalize a1:upd (upd (upd H x (.ins c J (putF ("blind" : Str) (.bl bl) []))) d (.dT [])) x (.ins c J (putF ("marks" : Str) (.ref d) (putF ("blind" : Str) (.bl bl) [])))=H3;have k3:∀a u,a≠x->H a=some u->H3 a=some u:=λa u n e=>by
   rw[<- a1,q0f n,q0f (λz=>by rw[z,a0] at e;cases e),q0f n];exact e
  have i3:H3 x=some (.ins c J (hF bl d)):=by rw[<- a1,<- pf];exact q0d
  have d3:H3 d=some (.dT []):=by rw[<- a1,q0f R];exact q0d
  have F:∀{M:Hp},(∀a u,a≠x->H a=some u->M a=some u)->RL M L j:=λ{M} kk=>⟨kk _ _ a8 hl.at_,λz Y=>PR.same (hl.pr z Y) λT' xs e=>kk _ _ (λy=>by rw[y,hx] at e;cases e) e⟩
  refine⟨_,rfl,.inl ⟨L,rfl,⟨_,SqL.of (F k3).at_⟩,λDr S=>?_⟩⟩;refine z7c (λi O M=>M Dr=some (.dT O)/\Same H3 M/\O.length<=i/\i<=j.length/\∀p,(p,none)∈(j.take i).map (·.2)->(valV O (kP p)).isSome=true) ⟨q0d,(Same.refl H3).new S,Ai _,Bf _,λp B=>by rw[Ox] at B;cases B⟩ (λi O M h=>⟨h.1,SqL.of (h.2.1 _ _ (F k3).at_)⟩) ?_ ?_
  ·rintro i O M v hv ⟨U,s',a3,_,g⟩;obtain⟨z,Y,rfl⟩:∃z,j[i]?=some z/\v=.ref z.1:=by
    rw[Bm] at hv;cases e:j[i]? with
    |none=>grind
    |some z=>grind
   have hi:=(As.mp Y).1;obtain⟨b,h1,h2⟩:=((F k3).same s').pr z (Bd Y);refine⟨z.1,_,rfl,SqT.of h1,rfl,_,_,rfl,_,_,rfl,rfl,q4b,?_⟩;refine⟨_,rfl,_,rfl,?_⟩;refine iteB (λhm=>?_) (λhm=>?_)
   ·refine⟨_,rfl,kP z.2.1,b,rfl,by rw[z2h];exact h2,U,small' (by lia),q0d,λa u e=>?_,?_,hi,λp B=>?_⟩
    ·rw[q0f (λy=>by rw[y] at e;rw[S] at e;cases e)];exact s' _ _ e
    ·have:=q1w O (kP z.2.1) (.bl true);lia
    ·rw[z5n];by_cases e:kP p=kP z.2.1
     ·simp_all
     ·rw[if_neg e];rw[Mj,Y,Au] at B;rcases Ba.mp B with B|B
      ·simp_all
      ·grind
   ·refine⟨U,s',by lia,hi,λp B=>?_⟩;rw[Mj,Y,Au] at B;rcases Ba.mp B with B|B
    ·exact g p B
    ·exfalso;have e:(p,none)=z.2:=Ao.mp B;refine of_decide_eq_false hm ?_;rw[<- e];rfl
  ·rintro O M ⟨U,s',a3,_,g⟩;rw[Af,Dj] at g;have I0:InInv c H x J d Dr bl (j.map (·.2)) O 0 M:=⟨s' _ _ i3,s' _ _ d3,U,λa u n e=>s' _ _ (k3 a u n e)⟩
   have a9:Dr≠d:=λz=>by rw[z,d3] at S;cases S
   refine⟨_,rfl,.inr ⟨L,_,rfl,SqL.of (F I0.k).at_,?_⟩⟩;refine z2k (λi W H2=>∃x4 x5 x6 x7,W=[some (.ref x),some (.ref L),some (.bl bl),some (.ref Dr),x4,x5,x6,x7]/\InInv c H x J d Dr bl (j.map (·.2)) O i H2) ⟨none,none,none,none,rfl,I0⟩ (λi W H2 h=>by obtain⟨_,_,_,_,_,h⟩:=h;exact SqL.of (F h.k).at_) ?_ ?_
   ·rintro i v T' W H2 hv ⟨x4,x5,x6,x7,rfl,I⟩ hT;obtain⟨z,Y,rfl⟩:∃z,j[i]?=some z/\v=.ref z.1:=by
     rw[Bm] at hv;cases e:j[i]? with
     |none=>grind
     |some z=>grind
    have X:(j.map (·.2))[i]?=some z.2:=by grind
    have a4:=Bd X;have a2:=hH.ok _ a4;have sT:=(Same.refl H2).new (o:=.tup [.int i,.ref z.1]) hT;have I1:=I.same sT;obtain⟨b,h1,h2⟩:=(F I1.k).pr z (Bd Y);refine⟨T',_,rfl,SqT.of q0d,rfl,_,_,rfl,_,_,rfl,z.1,_,rfl,SqT.of h1,rfl,_,_,rfl,_,_,rfl,rfl,rfl,?_⟩;generalize upd H2 T' (.tup [.int i,.ref z.1])=H4 at sT I1 h1 h2;replace h2:H4 b=some (.tup (vP z.2.1)):=h2;obtain⟨c1,c2⟩:=q4g a2.ne;refine⟨_,rfl,_,rfl,_,rfl,.inr (.inr ⟨b,_,rfl,SqT.of h2,c2,λp1 b0=>?_⟩)⟩;rw[c1];have s5:=(Same.refl H4).new (o:=.tup (vP z.2.1.dropLast)) b0;have I2:=I1.same s5;have h2':=s5 _ _ h2;have hp1':upd H4 p1 (.tup (vP z.2.1.dropLast)) p1=some (.tup (vP z.2.1.dropLast)):=q0d;generalize upd H4 p1 (.tup (vP z.2.1.dropLast))=H5 at s5 I2 h2' hp1';refine⟨λbb H6=>bb=false/\Same H5 H6,?_,?_⟩
    ·rintro bb H6 ⟨rfl,Z⟩;have I3:=I2.same Z;refine⟨_,rfl,x,J,_,rfl,I3.ins,rfl,_,rfl,x,d,b,bl,_,z.2.1,rfl,⟨⟨J,I3.ins⟩,I3.d⟩,Z _ _ h2',a2,λr G=>hH.ok r (Ih G),λH7 s7 _=>?_,λH7 b' r s7 G e _=>absurd e (x1b (f:=λr:Rw=>fold bl r.1) hH.nd X G)⟩;refine⟨_,rfl,iteF ?_⟩;have I4:=I3.same s7;refine⟨_,rfl,_,rfl,x,c,J,_,_,rfl,I4.ins,hk.cl,hk.m,rfl,_,rfl,d,_,rfl,DPut.t I4.d (by rw[z2h];exact s7 _ _ (Z _ _ h2')) (by rw[Af,Af,Dg,Af];exact small' (by lia)),?_⟩;have a5:∀r∈((j.map (·.2)).take i).map rR,r.1≠z.2.1:=λr G=>by
      obtain⟨y,hy,rfl⟩:=Aw.mp G;exact x1b hH.paths X hy
     rw[x3x a5];refine⟨_,_,_,_,rfl,?_,?_,?_,λa u n e=>?_⟩
     ·rw[q0f R.symm];exact I4.ins
     ·have e:((j.map (·.2)).take (i+1)).map rR=((j.map (·.2)).take i).map rR++[(z.2.1,mV z.2.2)]:=by rw[Mj,X,Au];rfl
      rw[e];exact q0d
     ·rw[q0f a9];exact I4.r
     ·rw[q0f (λy=>by rw[y,a0] at e;cases e)];exact I4.k a u n e
    ·refine⟨_,rfl,by decide,λe0 b1=>?_⟩;have Z:=(Same.refl H5).new (o:=.tup []) b1;refine z0c (q:=[]) (Z _ _ hp1') q0d (z0r a2.low) (λ_ h=>nomatch h) ⟨_,rfl,?_⟩;refine iteB (λa6=>?_) (λa6=>?_)
     ·have hne':z.2.1.dropLast≠[]:=by simpa using a6
      have b4:=g _ ((hH.dr _ a4).resolve_left hne');refine⟨_,rfl,_,rfl,Dr,_,rfl,DGet.t (I2.same Z).r (by rw[z2h];exact Z _ _ hp1'),_,rfl,?_,Z⟩;cases e:valV O (kP z.2.1.dropLast) with
      |none=>grind
      |some v=>rfl
     ·grind
   ·rintro W H2 ⟨x4,x5,x6,x7,rfl,I⟩;have a7:=I.d;rw[Af,<- Af,Dj] at a7;exact k d H2 a0 I.ins a7 I.k
def vP_app(p q:Pth):vP (p++q)=vP p++vP q:=Au
def cut_to(x:Pth)(n:Nat):cutV (vP x) none (some (n:Int))=vP (x.take n):=by
 unfold cutV;have f:HT.sIx (vP x).length 0 none=0:=rfl;have g:HT.sIx (vP x).length (vP x).length (some (n:Int))=min n x.length:=by
  show(if (n:Int)<0 then((n:Int)+((vP x).length:Int)).toNat else min ((n:Int)).toNat (vP x).length)=_;rw[if_neg (by lia),q2p,Hy]
 rw[f,g,Sy,Qw,<- List.map_take];rw[<- List.take_take,Dj]
def x4e{rs:List HRow}(h:valV (rs.map λr=>(kP r.1,r.2)) (kP p)=some v):(p,v)∈rs:=by
 induction rs with
 |nil=>cases h
 |cons r rs ih =>
  rw[Ar] at h;by_cases e:kP r.1=kP p
  ·rw[q1l e] at h;cases h;rw[<- z3e e];exact Av
  ·rw[q1i e] at h;exact Ap _ (ih h)
def x4f{rows:List Rw}(nd:(rows.map (·.1)).Nodup)(h:(p,m)∈rows):valV ((rows.map rR).map λr=>(kP r.1,r.2)) (kP p)=some (mV m) :=
 x1a (Aw.mpr ⟨_,h,rfl⟩) (by rw[Dy];exact nd)
def z3i{rows:List Rw}(h:valV ((rows.map rR).map λr=>(kP r.1,r.2)) (kP p)=some v):∃m,v=mV m/\(p,m)∈rows:=by
 obtain⟨r,f,e⟩:=Aw.mp (x4e h);cases e;exact⟨r.2,rfl,f⟩
noncomputable def spIsDrawer(c:Addr):Sp:=λvs H Q _=>∃h d p bl rows q,vs=[.ref h,.ref p]/\HallAt c H h d bl rows/\H p=some (.tup (vP q))/\Low q/\(rows.map (·.1)).Nodup/\∀H' bb,Same H H'->(bb=true↔q=[]\/(q,none)∈rows)->Q (.bl bb) H'
noncomputable abbrev q1x:Stmt:=inClass (top 67) 6
def q6d:FnScope Z9 Z9 (defScope q1x):=by trivial
def z3j(D:Mf K c "is_drawer" "Hall.is_drawer" q1x Z9)(hk:Hk K c)(T:Txt mg):MCal P w K mg base c "is_drawer" 1 Z9 (spIsDrawer c):=by
 refine D.cal hk.cl q6d (λvs H Q E h=>?_) (λf O A outer s H vs Q E C h=>?_)
 ·obtain⟨h,d,p,bl,rows,q,rfl,_⟩:=h;rfl
 ·obtain⟨h,d,p,bl,rows,q,rfl,F,G,R,nd,k⟩:=h;refine⟨_,(q0e (q0l (pe_j (pe_or (q2r (eq_k K rfl C) (pv 1) (q0o q0c) (nomark _)) (q5b (pe_j (q6h (x4m (x4u (q9r C) (pv 1) (@z7d _ _ _ _ _ K rfl (pv 0) (by rfl)))) (q5b (x4m (z1c (z9b (q9r C) (@z7d _ _ _ _ _ K rfl (pv 0) (by rfl)) (pv 1) (λ_ _=>rfl)))))))))))),?_⟩;obtain⟨L,M⟩:=F.i;refine⟨λv u=>∃j,v=.bl j/\Same H u/\(j=true↔q=[]\/(q,none)∈rows),λv u x=>?_,?_⟩
  ·obtain⟨j,rfl,g,e⟩:=x;exact k u j g e
  refine⟨_,rfl,by decide,λS I=>?_⟩;have g:=(Same.refl H).new (o:=.tup []) I;refine q7x (q:=[]) (g _ _ G) q0d R (λ_ h=>nomatch h) ⟨_,rfl,?_⟩;refine iteB (λB=>?_) (λB=>?_)
  ·grind
  have B:=of_decide_eq_false B;refine⟨λv u=>∃j,v=.bl j/\Same H u/\(j=true↔q=[]\/(q,none)∈rows),λv u x=>x,?_⟩;refine⟨_,rfl,_,rfl,h,c,L,_,_,rfl,g _ _ M,hk.cl,hk.m,rfl,d,_,rfl,x5e (g _ _ F.d) (g _ _ G),_,rfl,?_⟩;cases hv:valV ((rows.map rR).map λr=>(kP r.1,r.2)) (kP q) with
  |none =>
   refine iteF ⟨false,rfl,g,⟨(λz=>by cases z),λz=>?_⟩⟩;rw[x4f nd (z.resolve_left B)] at hv;cases hv
  |some v =>
   obtain⟨m,rfl,J⟩:=z3i hv;refine iteT ⟨_,rfl,h,c,L,_,_,rfl,g _ _ M,hk.cl,hk.m,rfl,_,rfl,d,mV m,rfl,?_,_,rfl,g,?_⟩
   ·rw[<- hv];exact x5e (g _ _ F.d) (g _ _ G)
   ·rw[decide_eq_true_iff];refine⟨λz=>.inr (by rw[mV_none.mp z] at J;exact J),λz=>mV_none.mpr ?_⟩;have:=z0b nd J (z.resolve_left B) rfl;cases this;rfl
def x1c(g:H1 x=none)(f:H1 dx=none)(hd:upd (upd H1 dx (.own x)) x (.ins c dx []) d=none)(k:∀a u,a≠x->upd (upd H1 dx (.own x)) x (.ins c dx []) a=some u->H' a=some u):Same H1 H'/\H1 d=none:=by
 refine⟨λa u e=>k a u (λz=>by rw[z,g] at e;cases e) ?_,?_⟩
 ·rw[q0f (λz=>by rw[z,g] at e;cases e),q0f (λz=>by rw[z,f] at e;cases e)];exact e
 ·have h:d≠x:=λz=>by rw[z,q0d] at hd;cases hd
  rw[q0f h] at hd;have j:d≠dx:=λz=>by rw[z,q0d] at hd;cases hd
  rw[q0f j] at hd;exact hd
def x7p(h:RL H1 L zs)(g:H1 x=none)(f:H1 dx=none):RL (upd (upd H1 dx (.own x)) x (.ins c dx [])) L zs:=h.same λa u e=>by
 rw[q0f (λz=>by rw[z,g] at e;cases e),q0f (λz=>by rw[z,f] at e;cases e)];exact e
noncomputable def isName(l:List Nat):Bool:=decide (1<=l.length)&&(decide (l.length<=12)&&l.all λc=>decide (c∈NS))
noncomputable def spIsName:Sp:=λvs H Q _=>∃t,vs=[.str t]/\t.length<=1000/\∀H',Same H H'->Q (.bl (isName (tl t))) H'
structure CallsNm (P:Ak) (w:World) (K:Ah) (mg:Str->Option Value) (base:Heap):Prop where
 all_of:Cal P w K mg base "all_of" 1 Zu spAllOf
noncomputable abbrev q6e:Stmt:=top 18
def z7n:FnScope Y1 Y1 (defScope q6e):=by trivial
def z7o(D:Df K mg "is_name" q6e Y1)(T:Txt mg)(C:CallsNm P w K mg base):Cal P w K mg base "is_name" 2 Y1 spIsName:=by
 refine D.cal z7n (λvs H Q E h=>?_) (λf u A outer s H vs Q E B h=>?_)
 ·obtain⟨t,rfl,_⟩:=h;rfl
 ·obtain⟨t,rfl,hl,k⟩:=h;obtain⟨_,g⟩:=T.NAME_SIGNS;obtain⟨_,j⟩:=T.MOST_SIGNS;refine⟨_,(q0e (q0l (pe_j (q6h (q2r op_le (q0q (q1z K rfl) (by rfl) T.b_len Br (q0a (pv 0) q0c)) (q0m (v:=.int 12) (by rfl) j ⟨_,rfl⟩) (nomark _)) (q5b (pe_c C.all_of B (q0a (pv 0) (q0a (q0m (v:=.str (Ab "abcdefghijklmnopqrstuvwxyzABCDEFGHIJKLMNOPQRSTUVWXYZ0123456789-_.")) (by rfl) g ⟨_,rfl⟩) q0c)))))))),?_⟩;have e:=len t;refine⟨λv o=>v=.bl (isName (tl t))/\Same H o,?_,?_⟩
  ·grind
  refine⟨_,rfl,_,_,rfl,⟨small (by lia),rfl⟩,_,_,rfl,rfl,_,rfl,?_⟩;refine iteB (λh=>?_) (λh=>?_)
  ·have h':=of_decide_eq_true h;refine⟨_,rfl,tl t,NSs,?_,by lia,λo sm=>⟨?_,sm⟩⟩
   ·rfl
   ·unfold isName allOf;rw[decide_eq_true (show(tl t).length<=12 by lia),Ug];have F:decide (¬tl t=[])=decide (1<=(tl t).length):=decide_eq_decide.mpr (by rw[<- List.length_eq_zero_iff];lia);rw[F]
  ·have h':=of_decide_eq_false h;refine⟨?_,Same.refl H⟩;unfold isName;rw[decide_eq_false (show ¬(tl t).length<=12 by lia)];simp
structure RD where
 kd:Str
 l:List Nat
 qs:List Pc
 st:Nat
noncomputable def pcB:Pc->Nat
 |.tx l=>l.length
 |.into=>0
 |_=>13
noncomputable def wsz(qs:List Pc):Nat:=(qs.map pcB).sum
structure ROk (r:RD):Prop where
 st:r.st<=1000000000
 io:(r.qs.filter pcI).length<=10
 nm:∀q∈r.qs,isMo q=false
 pk:∀q∈r.qs,q.ok
 sz:wsz r.qs<=100
structure RuL (K:Ah) (H:Hp) (L:Addr) (rs:List RD):Prop where
 ex:∃Rs:List Addr,H L=some (.lst (Rs.map V.ref))/\Rs.length=rs.length/\∀(i:Nat) (R:Addr) (r:RD),Rs[i]?=some R->rs[i]?=some r->RuleAt K H R r.kd r.l r.qs (r.st:Int)
 ok:∀r∈rs,ROk r
def RuL.same(h:RuL K H L rs)(s:Same H H'):RuL K H' L rs:=by obtain⟨f,g,j,o⟩:=h.ex;exact⟨⟨f,s _ _ g,j,λi R r a b=>(o i R r a b).same s⟩,h.ok⟩
noncomputable def tellO(r:RD)(n:List Nat)(cn:Nat):Option (List (List Nat)):=if fits n (parse [] r.l) 0 then some (tellT (rd n (parse [] r.l) 0) cn r.qs) else none
noncomputable def kdM(m:Option Int):Str:=if m=none then Ab "drawer" else Ab "slip"
noncomputable def forB(kd:Str)(m:Option Int):Bool:=decide (V.str kd=V.str (Ab "all"))||decide (V.str kd=V.str (kdM m))
noncomputable def pick(f:Nat->Nat)(n:List Nat)(m:Option Int):List RD->Nat->Option (Nat×List (List Nat))
 |[],_=>none
 |r::rs,j=>if forB r.kd m then(match tellO r n (r.st+f j) with|some ts=>some (j,ts)|none=>pick f n m rs (j+1)) else pick f n m rs (j+1)
noncomputable def bump(f:Pth->Nat->Nat)(q:Pth)(j:Nat):Pth->Nat->Nat:=λp i=>if p=q/\i=j then f p i+1 else f p i
noncomputable def Kd(d:Addr)(H H':Hp):Prop:=∀a u,a≠d->H a=some u->H' a=some u
def Kd.of(s:Same H H'):Kd d H H':=λa u _ e=>s a u e
def Kd.put(h:Kd d H H1):Kd d H (upd H1 d o):=λa u n e=>by rw[q0f n];exact h a u n e
def Kd.same(h:Kd d H H')(s:Same H0 H)(hd:H0 d=none):Same H0 H':=λa u e=>h a u (λz=>by rw[z,hd] at e;cases e) (s a u e)
structure Cnt {P:Ak} {w:World} (kd:PKd P w) (H:Hp) (d:Addr) (f:Pth->Nat->Nat) (b:Nat):Prop where
 ex:∃ks,DPi kd H d ks/\ks.length<=b/\∀(p:Pth) (j:Nat),(valI ks (kP p,Sum.inl (j:Int))).getD 0=((f p j:Nat):Int)
 le:∀p j,f p j<=b
def Cnt.same{kd:PKd P w}(h:Cnt kd H d f b)(s:Same H H'):Cnt kd H' d f b:=⟨let ⟨g,j,o⟩:=h.ex;⟨g,j.same s,o⟩,h.le⟩
def Cnt.put{kd:PKd P w}{j:Nat}(x:DPi kd H d ks)(l:ks.length<=n)(v:∀(p:Pth) (j:Nat),(valI ks (kP p,Sum.inl (j:Int))).getD 0=((f p j:Nat):Int))(le:∀p j,f p j<=n)(e:kd.pr H (kP q,Sum.inl (j:Int)) b)(hn:n<=1000)(g:H2=upd H d (PiO kd d (putI ks (kP q,Sum.inl (j:Int)) b (((f q j:Nat):Int)+1)))):Cnt kd H2 d (bump f q j) (n+1):=by
 subst g;refine⟨⟨_,x.put e (TX.small' (by lia)),Bg z5v (by lia),λp i=>?_⟩,λp i=>?_⟩
 ·rw[x3m];unfold bump;by_cases z:p=q/\i=j
  ·simp_all
  ·rw[if_neg z,if_neg (λy=>z ?_)]
   ·exact v p i
   ·injection y with y1 y2;injection y2 with y2;exact⟨z3e y1,by lia⟩
 ·unfold bump;have:=le p i;split<;>lia
def Cnt.new{kd:PKd P w}(f:(p==Dp)=false):Cnt kd (upd H p (PiO kd p [])) p (λ_ _=>0) 0:=⟨⟨[],x6w f,Ai _,λ_ _=>rfl⟩,λ_ _=>Ai _⟩
noncomputable def spIsFor(K:Ah):Sp:=λvs H Q _=>∃R kd xs m,vs=[.ref R,mV m]/\H R=some (.tup (.str kd::xs))/\Q (.bl (forB kd m)) H
noncomputable abbrev q8j:Stmt:=top 62
def x1d:FnScope Y0 Y0 (defScope q8j):=by trivial
def x1e(D:Df K mg "is_for" q8j Y0)(T:Txt mg):Cal P w K mg base "is_for" 1 Y0 (spIsFor K):=by
 refine D.cal x1d (λvs H Q E h=>?_) (λf u A outer s H vs Q E g h=>?_)
 ·obtain⟨R,kd,B,m,rfl,_⟩:=h;rfl
 ·obtain⟨R,kd,B,m,rfl,j,k⟩:=h;refine⟨_,(q0b (q0s (q0h (eq_k K rfl g) (q0w (ix_k K rfl) (pv 0) q0g (λ_ _=>rfl)) q0i (nomark _)) (q0e (q0l q4y)) q0j) (q0e (q0l (q2r (eq_k K rfl g) (q0w (ix_k K rfl) (pv 0) q0g (λ_ _=>rfl)) (pe_j (q6u (q3i (z1c (pv 1))) q0i q0i)) (nomark _))))),?_⟩;refine⟨_,rfl,.inr (.inl ⟨R,_,0,.str kd,rfl,rfl,SqT.of j,q1m rfl,.inl ⟨rfl,_,rfl,?_⟩⟩)⟩;unfold forB at k;refine ite2 (λh=>?_) (λh=>?_)
  ·rw[h] at k;exact k
  ·rw[eq_false_of_ne_true h,Bool.false_or] at k;refine⟨_,rfl,.inr (.inl ⟨R,_,0,.str kd,rfl,rfl,SqT.of j,q1m rfl,?_⟩)⟩;refine⟨λv o=>v=.str (kdM m)/\o=H,?_,?_⟩
   ·rintro v o ⟨rfl,rfl⟩;exact .inl ⟨rfl,k⟩
   ·refine⟨_,rfl,_,rfl,ite2 (λz=>?_) (λz=>?_)⟩
    ·exact⟨by rw[mV_none.mp (of_decide_eq_true z)];rfl,rfl⟩
    ·have:m≠none:=λy=>z (decide_eq_true (mV_none.mpr y));exact⟨by unfold kdM;rw[if_neg this],rfl⟩
structure PB (q:Pth):Prop where
 few:q.length<=20
 all:∀n∈q,n.length<=100/\∀c∈n,c<128
def okP.pb(h:okP q):PB q:=⟨Bg h.few (by decide),λn hn=>⟨Bg (h.all n hn).few (by decide),(h.all n hn).low⟩⟩
def x1f(q:Pth):vP q=(q.map mk).map V.str:=by rw[Dy];rfl
def z4v(h:PB q):∀x∈q.map mk,x.length<=100/\∀c∈x.cps.toList,c<16^8:=λx f=>by
 obtain⟨n,hn,rfl⟩:=Aw.mp f;obtain⟨j,g⟩:=h.all n hn;refine⟨by rw[q0x];lia,λc o=>?_⟩;have:c∈n:=by grind
 have:=g c this;lia
noncomputable def spIniN(C:Addr):Sp:=λvs H Q _=>∃ea a b q1 q2,vs=[.ref ea,.ref a,.ref b]/\H ea=some (ExN (.ref C) none ea)/\(H a=some (.tup (vP q1))/\PB q1)/\(H b=some (.tup (vP q2))/\PB q2) /\
 ∀d,H d=none->d≠ea->Q .non (upd (upd (upd (upd H d (XdO d [])) ea (ExN (.ref C) (some d) ea)) d (XdO d [("path",.ref a)])) d (XdO d (putF "texts" (.ref b) [("path",.ref a)])))
noncomputable abbrev q1s:Stmt:=inClass (top 9) 0
def q4u:FnScope Zi Zi (defScope q1s):=by trivial
def q8k(F:Ef K mg "NoPlace" Cn Dn "NoPlace.__init__" q1s Zi)(g_HallError:mg "HallError" = some (.ref Dn))(J:ESet K Cn "path")(L:ESet K Cn "texts"):CalE P w K mg base "NoPlace" Cn 1 Zi (spIniN Cn):=by
 refine F.cal q4u (λvs H Q E h=>?_) (by decide) (λU f M A outer s H vs Q E g j v h=>?_)
 ·obtain⟨u,a,b,B,C,rfl,_⟩:=h;rfl
 ·obtain⟨u,a,b,B,C,rfl,D,⟨O,G⟩,⟨R,I⟩,k⟩:=h;refine⟨_,(q0b (q0u (z5t g j rfl g_HallError (q0a (pv 0) (q0a (q5z q4l (x0i K rfl v (pv 1)) (q5n q4l (q5n (x0i K rfl v (pv 2)) q6a))) q0c)))) (q0b (z2p K rfl (pv 0) (pv 1)) (q0e (z2p K rfl (pv 0) (pv 2))))),?_⟩;have W:(Ab "no place for ").length<=100:=by trivial
  have X:(Ab ": ").length<=100:=by trivial
  have Y:Lb.length=0:=by trivial
  refine⟨_,rfl,TX.small (by rw[app_len];lia),_,rfl,a,B.map mk,rfl,SqT.of (by rw[<- x1f];exact O),by rw[Af];have:=G.few;lia,z4v G,λZ S=>⟨TX.small (by rw[app_len,app_len];lia),TX.small (by rw[app_len,app_len,app_len];lia),?_⟩⟩;refine⟨_,rfl,b,C.map mk,rfl,SqT.of (by rw[<- x1f];exact R),by rw[Af];have:=I.few;lia,z4v I,λy2 T=>⟨TX.small (by rw[app_len,app_len,app_len,app_len];lia),TX.small (by rw[app_len,app_len,app_len,app_len];lia),?_⟩⟩;refine⟨u,_,none,rfl,D,_,rfl,_,rfl,u,Cn,rfl,J,.inl ⟨D,λd hd o=>?_⟩⟩;exact⟨_,rfl,_,rfl,u,Cn,rfl,L,.inr ⟨d,_,by rw[q0f (Bz o)];exact q0d,q0d,by show 1<1000;decide,k d hd o⟩⟩
structure RfN (H:Hp) (ea C:Addr) (q:Pth) (ts:Pth):Prop where
 ex:∃d a b,H ea=some (ExO (.ref C) (some d) ea)/\H d=some (XdO d (putF "texts" (.ref b) [("path",.ref a)]))/\H a=some (.tup (vP q))/\H b=some (.tup (vP ts))
def q6n(sm:Same H H1)(s:H1 ea=none)(j:upd H1 ea o1 d=none):Same H (upd (upd (upd (upd (upd (upd H1 ea o1) d o2) ea o3) d o4) d o5) ea o6):=λb o u=>by
 have f:=sm b o u;have g:b≠ea:=λz=>by rw[z,s] at f;cases f
 have h:b≠d:=λz=>by rw[<- z,q0f g,f] at j;cases j
 rw[q0f g,q0f h,q0f h,q0f g,q0f h,q0f g];exact f
noncomputable def benB(q:Pth)(r:Rw):Bool := !decide (r.1=q)&&decide (r.1.take q.length=q)
structure CallsRB (P:Ak) (w:World) (K:Ah) (mg:Str->Option Value) (base:Heap) (c:Addr):Prop where
 m_rows:MCal P w K mg base c "rows" 2 ["self"] (spHRows c)
noncomputable def spBen(c:Addr):Sp:=λvs H Q _=>∃h d p bl rows q,vs=[.ref h,.ref p]/\HallAt c H h d bl rows/\rows.length<64/\(∀r∈rows,Low r.1)/\H p=some (.tup (vP q))/\Low q /\
 ∀(L:Addr) (zs:List Zr) (rs:List Rw) H',H L=none->Same H H'->RL H' L zs->rs.Perm rows->(rs.map (·.1)).Pairwise (λa b=>pLt b a=false)->zs.map (·.2)=rs.filter (benB q)->Q (.ref L) H'
def x4g(h:Low p):Low (p.take n):=λx f=>h x (Ih f)
def x1g{g:Type}{f:g->Bool}{l:List g}{x:g}(h:l[i]?=some x):(l.take (i+1)).filter f=(l.take i).filter f++(if f x then[x] else[]):=by
 rw[Gf,h,Hm];cases e:f x<;>simp[e]
noncomputable abbrev q2i:Stmt:=top 61
def sc_rows_beneath:FnScope ["hall", "drawer", "rows", "path", "mark"] Y2 (defScope q2i):=by trivial
def q8l(D:Df K mg "rows_beneath" q2i Y2)(T:Txt mg)(C:CallsRB P w K mg base c):Cal P w K mg base "rows_beneath" 3 Y2 (spBen c):=by
 refine D.cal sc_rows_beneath (λvs H Q E h=>?_) (λf b3 A outer s H vs Q E hr h=>?_)
 ·obtain⟨h,d,p,bl,rows,q,rfl,_⟩:=h;rfl
 ·obtain⟨h,d,p,bl,rows,q,rfl,hh,a2,I,hp,lq,k⟩:=h;refine⟨_,(q0b (q0k (i:=2) sc_rows_beneath.nd rfl (by trivial) (q1j q0c)) (q0b (q1u Dc rfl (@q5u _ _ _ _ K rfl (pe_m0 C.m_rows hr (pv 0))) (@q1q _ _ _ _ (2) _ K rfl rfl (q0p (q0n (i:=3) sc_rows_beneath.nd rfl (by trivial)) (q0p (q0n (i:=4) sc_rows_beneath.nd rfl (by trivial)) q1b)) (by rfl) (by rfl)) (q0e (q0s (pt_j (@PW.pt _ _ _ (q5a (q0h (ne_k K rfl hr) (pv 3) (pv 1) (nomark _)) (q2w (q0h (eq_k K rfl hr) (q1c sl_P (pv 3) q2s (q0z (q0q (q1z K rfl) (by rfl) T.b_len Br (q0a (pv 1) q0c)))) (pv 1) (nomark _)))))) (q0e (q0u (@bm_k _ _ _ _ _ _ _ _ _ _ _ _ K rfl Bi Ce Cf q1d (pv 2) (q0a (q0o (q0a (pv 3) (q0a (pv 4) q0c))) q0c) (by rfl) (by rfl) (by rfl) (by rfl) (by rfl)))) q0j))) (q0e (q0l (pv 2))))),?_⟩
  with_reducible refine gE λa8 a9 J M=>?_
  refine⟨by decide,λD hD=>?_⟩;have s0:=(Same.refl H).new (o:=.lst []) hD;have Z:upd H D (.lst []) D=some (.lst []):=q0d;obtain⟨dx,hi⟩:=hh.i;refine gY M λb0 O=>?_;refine⟨_,rfl,h,dx,_,rfl,s0 _ _ hi,rfl,h,d,bl,rows,rfl,hh.same s0,a2,I,λL zs H1 hL s1 rl pm sd=>?_⟩;have a3:D≠L:=λz=>by rw[<- z,Z] at hL;cases hL
  have a4:=s0.trans s1;have b4:zs.length=rows.length:=by have:=pm.length_eq;rwa [Af] at this
  refine .inl ⟨L,rfl,⟨_,SqL.of rl.at_⟩,?_⟩;refine q3z (λi B F=>∃x3 x4 v,B=[some (.ref h),some (.ref p),some (.ref D),x3,x4]/\Same H F/\RL F L zs/\RL F D v/\v.map (·.2)=((zs.map (·.2)).take i).filter (benB q)/\v.length<=i/\i<=zs.length) ⟨none,none,[],rfl,a4,rl,⟨s1 _ _ Z,λ_ h=>nomatch h⟩,rfl,Bf _,Bf _⟩ (λi B F _ q=>by obtain⟨_,_,_,_,_,r,_⟩:=q;exact SqL.of r.at_) ?_ ?_
  ·rintro i x B F hx ⟨x3,x4,v,rfl,sm,g,ry,R,a5,hi⟩;rw[Bm] at hx;obtain⟨z,hz,rfl⟩:=Ck.mp hx;have a0:=Bd hz;have hi':=(As.mp hz).1;obtain⟨b,b1,b2⟩:=g.pr z a0;have a6:=pm.mem_iff.mp (Aw.mpr ⟨z,a0,rfl⟩);have lz:=I _ a6;have a7:=x1g (f:=benB q) (x:=z.2) (by rw[Bm,hz];rfl);refine⟨z.1,_,rfl,SqT.of b1,rfl,_,_,rfl,_,_,rfl,rfl,?_⟩;refine⟨λbb S=>bb=benB q z.2/\Same F S,?_,?_⟩
   ·rintro bb S ⟨rfl,j⟩;refine ite2 (λe=>?_) (λe=>?_)
    ·refine⟨_,rfl,.inl ⟨rfl,⟨_,SqL.of (j _ _ ry.at_)⟩⟩,_,rfl,_,rfl,by show 2<=sizeLine;decide,λX U=>?_⟩;have s3:=(Same.refl S).new (o:=.tup [.ref b,mV z.2.2]) U;have G:=ry.same j;refine⟨D,_,_,rfl,rfl,s3 _ _ G.at_,TX.small' (by rw[Af];lia),?_⟩;have e3:=s3 _ _ G.at_;have kD:∀T xs,S T=some (.tup xs)->upd (upd S X (.tup [.ref b,mV z.2.2])) D (.lst (v.map (λz=>V.ref z.1)++[V.ref X])) T=some (.tup xs):=λT xs e=>by
      have:=s3 _ _ e;rw[q0f (λy=>by rw[y,e3] at this;cases this)];exact this
     have kL:∀a u,a≠D->F a=some u->upd (upd S X (.tup [.ref b,mV z.2.2])) D (.lst (v.map (λz=>V.ref z.1)++[V.ref X])) a=some u:=λa u n e=>by
      rw[q0f n];exact s3 _ _ (j _ _ e)
     refine⟨_,_,v++[(X,z.2)],rfl,λa u e=>kL a u (λy=>by rw[y,hD] at e;cases e) (sm a u e),⟨kL _ _ (Bz a3) g.at_,λY W=>PR.same (g.pr Y W) λT xs e=>kD T xs (j _ _ e)⟩,⟨by rw[Au];exact q0d,λY W=>?_⟩,?_,by rw[Aj,Bk];lia,hi'⟩
     ·rcases Ba.mp W with Y|Y
      ·exact PR.same (G.pr _ Y) kD
      ·rw[Ao.mp Y];have a1:X≠D:=λy=>by rw[y,G.at_] at U;cases U
       exact⟨b,by rw[q0f a1];exact q0d,kD _ _ (j _ _ b2)⟩
     ·grind
    ·have e:=eq_false_of_ne_true e;refine⟨_,_,v,rfl,sm.trans j,g.same j,ry.same j,?_,by lia,hi'⟩;rw[R,a7,e];simp
   ·refine⟨_,rfl,_,rfl,z0c b2 (sm _ _ hp) lz lq ⟨_,rfl,?_⟩⟩;unfold benB;refine iteB (λe=>?_) (λe=>?_)
    ·have e:(!decide (z.2.1=q))=true:=e;refine⟨_,rfl,_,rfl,_,_,rfl,   .inr ⟨_,SqT.of (sm _ _ hp),rfl⟩,_,rfl,b,_,rfl,b2,λt1 S j h2=>?_⟩;rw[q2p,cut_to] at h2;refine⟨_,rfl,q7x h2 (j _ _ (sm _ _ hp)) (x4g lz) lq ⟨_,rfl,?_,j⟩⟩;rw[e];rfl
    ·have e:(!decide (z.2.1=q))=false:=e;refine⟨?_,Same.refl _⟩;rw[e];rfl
  ·rintro B F ⟨x3,x4,v,rfl,sm,g,ry,R,a5,hi⟩;subst J;subst O;refine⟨_,rfl,k D v (zs.map (·.2)) F hD sm ry pm (by rw[Dy];exact sd) ?_⟩;rw[R,Af];congr 1;exact Ez (by rw[Af];exact Ai _)
noncomputable def TsOk(ts:Pth):Prop:=ts≠[]/\ts.length<=20/\∀t∈ts,t.length<=100/\∀c∈t,c∈NS
def x5h{w:Nat}(h:c∈wn w t):c=48\/c∈t:=by
 rcases Ba.mp h with z|z
 ·grind
 ·exact .inr z
def wn_le{w:Nat}(f:w<=n)(g:t.length<=n):(wn w t).length<=n:=by
 unfold wn;rw[Aj,Nb];lia
def fi_ns:∀c∈FI,c∈NS:=by trivial
def up_ns:∀c∈NS,up1 c∈NS:=by trivial
def lo_ns:∀c∈NS,lo1 c∈NS:=by trivial
def x7q{ts:List (List Nat)}{f:List Nat->Prop}(h:∀t∈ts,f t)(g:f []):f (ts.getD k []):=by
 rw[Kn];cases hz:ts[k]? with
 |none=>exact g
 |some t=>exact h t (Bd hz)
def pct_ok(j:p.ok)(f:cn<=10^12)(s:isMo p=false)(u:pcI p=false)(h:∀t∈ts,t.length<=12/\∀c∈t,c∈NS):(pcText ts cn p).length<=pcB p/\∀c∈pcText ts cn p,c∈NS:=by
 have g:∀k,(ts.getD k []).length<=12/\∀c∈ts.getD k [],c∈NS:=λk=>x7q h ⟨Bf _,λ_ h=>nomatch h⟩;cases p with
 |into=>cases u
 |more k m=>cases s
 |tx t=>exact⟨Ai _,j.2⟩
 |gap k=>exact⟨Bg (g (k-1)).1 (by show 12<=13;decide),(g (k-1)).2⟩
 |great k =>
  refine⟨?_,λc f=>?_⟩
  ·show((ts.getD (k-1) []).map up1).length<=13;have:=(g (k-1)).1;rw[Af];lia
  ·obtain⟨x,o,rfl⟩:=Aw.mp (show c∈(ts.getD (k-1) []).map up1 from f);exact up_ns _ ((g (k-1)).2 x o)
 |small k =>
  refine⟨?_,λc f=>?_⟩
  ·show((ts.getD (k-1) []).map lo1).length<=13;have:=(g (k-1)).1;rw[Af];lia
  ·obtain⟨x,o,rfl⟩:=Aw.mp (show c∈(ts.getD (k-1) []).map lo1 from f);exact lo_ns _ ((g (k-1)).2 x o)
 |nou k v =>
  have B:=j.2.2;have:=(g (k-1)).1;refine⟨wn_le (n:=13) (by lia) (by lia),λc f=>?_⟩;rcases x5h (show c∈wn v (ts.getD (k-1) []) from f) with rfl|z
  ·decide +kernel
  ·exact(g (k-1)).2 c z
 |cnt v =>
  have B:=j.2;have:=q6l 12 cn (by lia);refine⟨wn_le (n:=13) (by lia) (by lia),λc f=>?_⟩;rcases x5h (show c∈wn v (dg cn) from f) with rfl|z
  ·decide +kernel
  ·exact fi_ns _ (x4x cn c z)
theorem z4w(g:cn<=10^12)(h:∀t∈ts,t.length<=12/\∀c∈t,c∈NS):∀{qs:List Pc} {acc:Pth} {n:Nat},(∀q∈qs,q.ok/\isMo q=false)->acc≠[]->(∀t∈acc,t.length<=n/\∀c∈t,c∈NS) ->
  qs.foldl (stepT ts cn) acc≠[]/\(qs.foldl (stepT ts cn) acc).length<=acc.length+(qs.filter pcI).length/\∀t∈qs.foldl (stepT ts cn) acc,t.length<=n+wsz qs/\∀c∈t,c∈NS
 |[],acc,n,_,h0,ha=>⟨h0,Ai _,ha⟩
 |q::qs,acc,n,j,h0,ha=>by
  obtain⟨o,s⟩:=j q Av;have hq':=λp u=>j p (Ap _ u)
  rw[Nt];have C:wsz (q::qs)=pcB q+wsz qs:=rfl;cases hi:pcI q with
  |true =>
   have v:stepT ts cn acc q=acc++[[]]:=by unfold stepT;rw[if_pos hi]
   obtain⟨a,b,c⟩:=z4w g h (acc:=acc++[[]]) hq' (by simp) (λt f=>by
    rcases Ba.mp f with z|z
    ·exact ha t z
    ·rw[Ao.mp z];exact⟨Bf _,λ_ h=>nomatch h⟩)
   rw[v];refine⟨a,?_,λt f=>⟨by have:=(c t f).1;lia,(c t f).2⟩⟩;rw[Aj,Bk] at b;rw[Wz,if_pos hi,Be];lia
  |false =>
   obtain⟨d,e⟩:=pct_ok o g s hi h;obtain⟨ini,la,rfl⟩:∃i l,acc=i++[l]:=⟨acc.dropLast,acc.getLast h0,(Es h0).symm⟩
   rw[q4t hi];obtain⟨a,b,c⟩:=z4w g h (acc:=ini++[la++pcText ts cn q]) (n:=n+pcB q) hq' (by simp) (λt f=>by
    rcases Ba.mp f with z|z
    ·grind
    ·rw[Ao.mp z];have:=ha la (by simp);exact⟨by rw[Aj];lia,λx B=>(Ba.mp B).elim (this.2 x) (e x)⟩)
   refine⟨a,?_,λt f=>⟨by have:=(c t f).1;lia,(c t f).2⟩⟩;rw[Wz,hi];simpa using b
theorem x5i{n:List Nat}:∀(ps:List Pt) (b:Nat),∀t∈rd n ps b,t.length<=n.length
 |[],_,_,h=>by cases h
 |p::ps,b,t,h=>by
  unfold rd at h;rcases Ba.mp h with z|z
  ·split at z
   ·rw[Ao.mp z];unfold cut;rw[Dg,Dh];lia
   ·cases z
  ·exact x5i ps _ t z
def x4h{ts:Pth}(ok:ROk r)(hn:okN n)(g:cn<=10^12)(h:tellO r n cn=some ts):TsOk ts:=by
 unfold tellO at h;split at h
 ·obtain⟨a,b,c⟩:=z4w g (λt f=>⟨Bg (x5i _ _ t f) hn.few,λc g=>hn.all c (x0w _ _ t f c g)⟩) (acc:=[[]]) (n:=0) (λq j=>⟨ok.pk q j,ok.nm q j⟩) (by simp) (λt f=>by rw[Ao.mp f];exact⟨Ai _,λ_ h=>nomatch h⟩);cases h;refine⟨a,Bg b (by have:=ok.io;show 1+_<=_;lia),λt f=>⟨by have:=(c t f).1;have:=ok.sz;lia,(c t f).2⟩⟩
 ·cases h
theorem x1h(hn:okN n)(o:∀j,f j<=1000):∀{rs:List RD} {j i:Nat} {ts:Pth},(∀r∈rs,ROk r)->pick f n m rs j=some (i,ts)->TsOk ts
 |[],_,_,_,_,h=>by cases h
 |r::rs,j,i,ts,ok,h=>by
  have s:=λh=>x1h (m:=m) hn o (rs:=rs) (j:=j+1) (i:=i) (ts:=ts) (λr u=>ok r (Ap _ u)) h;have g:=ok r Av;unfold pick at h;split at h
  ·cases e:tellO r n (r.st+f j) with
   |none=>simp_all
   |some us =>
    rw[e] at h;cases h;exact x4h g hn (by have:=g.st;have:=o j;lia) e
  ·exact s h
def x1i{rs:List RD}(h:rs[i]?=some r):pick f n m (rs.drop i) i=if forB r.kd m then(match tellO r n (r.st+f i) with|some ts=>some (i,ts)|none=>pick f n m (rs.drop (i+1)) (i+1)) else pick f n m (rs.drop (i+1)) (i+1):=by
 rw[q2k h];rfl
structure CallsTT (P:Ak) (w:World) (K:Ah) (mg:Str->Option Value) (base:Heap):Prop where
 is_for:Cal P w K mg base "is_for" 1 Y0 (spIsFor K)
 tells:Cal P w K mg base "tells" 8 Zn (spTells K)
noncomputable def spTold(P:Ak)(w:World)(K:Ah):Sp:=λvs H Q _=>∃p m L d q rs f b,vs=[.ref p,mV m,.ref L,.ref d]/\H p=some (.tup (vP q))/\okP q/\RuL K H L rs/\Cnt (pkA P w) H d f b/\b<=1000 /\
 (pick (f q.dropLast) (q.getLastD []) m rs 0=none->∀H',Same H H'->Q .non H') /\
 ∀j ts,pick (f q.dropLast) (q.getLastD []) m rs 0=some (j,ts)->∀T H',H T=none->Kd d H H'->H' T=some (.tup (vP ts))->Cnt (pkA P w) H' d (bump f q.dropLast j) (b+1)->Q (.ref T) H'
noncomputable abbrev q3h:Stmt:=top 63
def sc_told_texts:FnScope ["path", "mark", "rules", "counted", "number", "rule", "key", "texts"] Za (defScope q3h):=by trivial
def z0s(D:Df K mg "told_texts" q3h Za)(T:Txt mg)(C:CallsTT P w K mg base):Cal P w K mg base "told_texts" 9 Za (spTold P w K):=by
 refine D.cal sc_told_texts (λvs H Q E h=>?_) (λf a4 A outer s H vs Q E W h=>?_)
 ·obtain⟨p,m,L,d,q,S,f,b,rfl,_⟩:=h;rfl
 ·obtain⟨p,m,L,d,q,S,g,b,rfl,hp,G,ru,ct,hb,kN,kS⟩:=h;refine⟨_,(q0b (q1u Dc rfl (@q8w _ _ _ _ _ _ _ _ K rfl rfl T.b_enumerate (q0a (pv 2) q0c) (by rfl)) (@q1q _ _ _ _ (2) _ K rfl rfl (q0p (q0n (i:=4) sc_told_texts.nd rfl (by trivial)) (q0p (q0n (i:=5) sc_told_texts.nd rfl (by trivial)) q1b)) (by rfl) (by rfl)) (q0b (q0k (i:=6) sc_told_texts.nd rfl (by trivial) (q0o (q0a (q1c sl_P (pv 0) q2s (q0z (q5d q2j q0g))) (q0a (pv 4) q0c)))) (q0e (q0s (@q9x _ _ _ K rfl (pe_c C.is_for W (q0a (pv 5) (q0a (pv 1) q0c))) (λ_=>rfl)) (q0b (q0k (i:=7) sc_told_texts.nd rfl (by trivial) (pe_c C.tells W (q0a (pv 5) (q0a (q0w (ix_k K rfl) (pv 0) (q5d q2j q0g) (λ_ _=>rfl)) (q0a (q0v q0r (q0w (ix_k K rfl) (pv 5) q0g (λ_ _=>rfl)) (x0n (pkA P w) rfl rfl (z2s W) (pv 3) (pv 6) q0g ⟨rfl,rfl,rfl,rfl⟩)) q0c))))) (q0e (q0s (q3i (q9k (pv 7))) (q0b (x6x (pkA P w) rfl rfl (z2s W) (pv 3) (pv 6) (q0v q0r (x0n (pkA P w) rfl rfl (z2s W) (pv 3) (pv 6) q0g ⟨rfl,rfl,rfl,rfl⟩) q0g) rfl) (q0e (q0l (pv 7)))) q0j))) q0j)))) (q0e (q0l q8q))),?_⟩;obtain⟨Rs,r1,r2,r3⟩:=ru.ex;obtain⟨ks,k1,k2,k3⟩:=ct.ex;have X:=q6c G;refine⟨_,rfl,.inr ⟨L,_,rfl,SqL.of r1,?_⟩⟩;refine z2k (λi u Y=>∃x4 x5 x6 x7,u=[some (.ref p),some (mV m),some (.ref L),some (.ref d),x4,x5,x6,x7]/\Same H Y/\pick (g q.dropLast) (q.getLastD []) m S 0=pick (g q.dropLast) (q.getLastD []) m (S.drop i) i/\i<=S.length) ⟨none,none,none,none,rfl,Same.refl H,rfl,Bf _⟩ (λi u Y q=>by obtain⟨_,_,_,_,_,sm,_⟩:=q;exact SqL.of (sm _ _ r1)) ?_ ?_
  ·rintro i x T' u Y hx ⟨x4,x5,x6,x7,rfl,sm,j,hi⟩ hT;rw[Bm] at hx;obtain⟨R,hR,rfl⟩:=Ck.mp hx;have hi':i<S.length:=by grind
   have v:=Bt hi';generalize S[i]=r at v;have a2:=ru.ok r (Bd v);have ra:=r3 i R r hR v;rw[x1i v] at j;refine⟨T',_,rfl,SqT.of q0d,rfl,_,_,rfl,_,_,rfl,rfl,?_⟩;have s2:=sm.new (o:=.tup [.int (i:Nat),.ref R]) hT;refine⟨_,rfl,_,rfl,_,rfl,p,_,rfl,s2 _ _ hp,λt1 H3 s3 h3=>?_⟩;rw[(q4g G.ne).1] at h3;refine⟨_,rfl,by show 2<=sizeLine;decide,λU Z=>?_⟩;have B:=(s2.trans s3).new (o:=.tup [.ref t1,.int (i:Nat)]) Z;have a0:PrK (upd H3 U (.tup [.ref t1,.int (i:Nat)])) (kP q.dropLast,Sum.inl ((i:Nat):Int)) U:=⟨t1,q0d,by rw[z2h];exact((Same.refl H3).new Z) _ _ h3⟩
   have I:=ra.same B;refine⟨_,rfl,_,rfl,R,r.kd,_,m,rfl,I.at_,?_⟩;cases hf:forB r.kd m with
   |false =>
    rw[hf] at j;exact⟨_,rfl,iteF ⟨_,_,_,_,rfl,B,j,hi'⟩⟩
   |true =>
    rw[hf,if_pos rfl] at j;refine⟨_,rfl,iteT ?_⟩;have a5:=ct.le q.dropLast i;have a6:=a2.st;have hv:=k3 q.dropLast i;refine⟨_,rfl,_,rfl,_,rfl,.inr (.inl ⟨p,_,-1,_,rfl,rfl,SqT.of (B _ _ hp),q8h G.ne,?_⟩)⟩;refine⟨_,rfl,.inr (.inl ⟨R,_,3,.int (r.st:Int),rfl,rfl,SqT.of I.at_,q1m rfl,?_⟩)⟩;refine⟨_,rfl,d,ks,rfl,k1.same B,_,rfl,U,(kP q.dropLast,Sum.inl ((i:Nat):Int)),0,rfl,rfl,k1.same B,a0,?_⟩;rw[hv];refine .inl ⟨_,_,rfl,rfl,R,r.kd,r.l,r.qs,r.st,q.getLastD [],r.st+g q.dropLast i,rfl,I,X.few,λt ht c hc=>X.low c (x0w _ _ t ht c hc),by lia,λJ H5 s5=>?_,λJ T7 H5 M s5 h5=>?_⟩
    ·have et:tellO r (q.getLastD []) (r.st+g q.dropLast i)=none:=by unfold tellO;rw[J];rfl
     rw[et] at j;exact⟨_,rfl,_,rfl,iteF ⟨_,_,_,_,rfl,B.trans s5,j,hi'⟩⟩
    ·have et:tellO r (q.getLastD []) (r.st+g q.dropLast i)=some (tellT (rd (q.getLastD []) (parse [] r.l) 0) (r.st+g q.dropLast i) r.qs):=by unfold tellO;rw[J];rfl
     rw[et] at j;have a1:=B.trans s5;have O:PrK H5 (kP q.dropLast,Sum.inl ((i:Nat):Int)) U:=let ⟨c,e1,e2⟩:=a0;⟨c,s5 _ _ e1,s5 _ _ e2⟩;have F:=k1.same a1;refine⟨_,rfl,_,rfl,iteT ?_⟩;refine⟨_,rfl,d,ks,rfl,F,_,rfl,U,(kP q.dropLast,Sum.inl ((i:Nat):Int)),0,rfl,rfl,F,O,?_⟩;rw[hv];refine .inl ⟨_,_,rfl,rfl,_,rfl,_,rfl,d,ks,U,(kP q.dropLast,Sum.inl ((i:Nat):Int)),_,rfl,rfl,rfl,F,O,TX.small' (by lia),?_⟩;have a3:T7≠d:=λz=>by rw[z,(k1.same B).at_] at M;cases M
     exact⟨_,rfl,kS _ _ j T7 _ (B.free M) ((Kd.of a1).put) (by rw[q0f a3];exact h5) (Cnt.put F k2 k3 ct.le O hb rfl)⟩
  ·rintro u Y ⟨x4,x5,x6,x7,rfl,sm,j,hi⟩;rw[Af,r2,Kg] at j;exact kN j Y sm
noncomputable def spIniP(C:Addr)(f:Str):Sp:=λvs H Q _=>∃ea p q,vs=[.ref ea,.ref p]/\H ea=some (ExN (.ref C) none ea)/\H p=some (.tup (vP q))/\PB q/\∀d,H d=none->d≠ea->Q .non (upd (upd (upd H d (XdO d [])) ea (ExN (.ref C) (some d) ea)) d (XdO d [(f,.ref p)]))
noncomputable def RE(H:Hp)(E:XK)(Cn:Addr)(i:Nat):Prop:=∀ea H',Same H H'->H ea=none->Rfd H' ea Cn "at" (.int ((i:Nat):Int))->E (.ref ea) none H'
def RE.same(h:RE H E Cn i)(s:Same H H1):RE H1 E Cn i:=λg j sm f r=>h g j (s.trans sm) (s.free f) r
def RE.up(h:RE H E Cn i):RE H (λe _ H'=>∀f,e=.ref f->E (.ref f) none H') Cn i:=λf H' sm g r j o=>by
 cases o;exact h f H' sm g r
def q1y(sm:Same H H1)(s:H1 ea=none)(h:upd H1 ea o1 d=none):Same H (upd (upd (upd (upd (upd H1 ea o1) d o2) ea o3) d o4) ea o5):=λb o u=>by
 have f:=sm b o u;have g:b≠ea:=λz=>by rw[z,s] at f;cases f
 have j:b≠d:=λz=>by rw[<- z,q0f g,f] at h;cases h
 rw[q0f g,q0f j,q0f g,q0f j,q0f g];exact f
noncomputable def BP(l:List Nat)(i:Nat):Prop:=(l=[]/\i=0)\/(l=[97,32,98]/\i=1)
structure CallsXX (P:Ak) (w:World) (K:Ah) (mg:Str->Option Value) (base:Heap) (C:Addr):Prop where
 e_NoPattern:CalE P w K mg base "NoPattern" C 1 Zc (spIni1 C "at")
noncomputable def spAskX(C:Addr):Sp:=λvs H _ E=>vs=[.str (mk [97,32,98])]/\RE H E C 1
def z0t(D:Df K mg "ask_signs" q2l Zf)(T:Txt mg)(C:CallsXX P w K mg base Cn):CalX P w K mg base "ask_signs" 3 Zf (spAskX Cn):=by
 refine D.calX sc_ask_signs (λvs H Q E h=>?_) (λf a0 A outer s H vs Q E hr h=>?_)
 ·obtain⟨rfl,_⟩:=h;rfl
 ·obtain⟨rfl,kE⟩:=h;obtain⟨_,j⟩:=T.NAME_SIGNS;obtain⟨_,g⟩:=T.GAP_SIGNS;obtain⟨_,o⟩:=T.MOST_GAPS;refine⟨_,(q0b (q0k (i:=1) sc_ask_signs.nd rfl (by trivial) q0g) (q0e (q1u passDef rfl (@q8w _ _ _ _ _ _ _ _ K rfl rfl T.b_enumerate (q0a (pv 0) q0c) (by rfl)) (@q1q _ _ _ _ (2) _ K rfl rfl (q0p (q0n (i:=2) sc_ask_signs.nd rfl (by trivial)) (q0p (q0n (i:=3) sc_ask_signs.nd rfl (by trivial)) q1b)) (by rfl) (by rfl)) (q1v (q0s (q0h (in_k K rfl) (pv 3) (q0m (v:=.str (Ab "?*#@")) (by rfl) g ⟨_,rfl⟩) (by with_unfolding_all rfl)) (q0e (z7w (i:=1) sc_ask_signs.nd rfl (by trivial) q0g z3v)) q0j) (q0e (q0s (pt_j (@PW.pt _ _ _ (q7b (q0h z1e (pv 1) (q0m (v:=.int 9) (by rfl) o ⟨_,rfl⟩) (nomark _)) (q3l (q0h (z4c K rfl) (pv 3) (q0v q0r (q0m (v:=.str (Ab "?*#@")) (by rfl) g ⟨_,rfl⟩) (q0m (v:=.str (Ab "abcdefghijklmnopqrstuvwxyzABCDEFGHIJKLMNOPQRSTUVWXYZ0123456789-_.")) (by rfl) j ⟨_,rfl⟩)) (by with_unfolding_all rfl)))))) (q0e (z4k C.e_NoPattern hr accX rfl (q0a (pv 2) q0c))) q0j)))))),?_⟩;refine⟨_,rfl,.inl ⟨_,rfl,q7n (λi u J=>∃L M,u=[some (.str (mk [97,32,98])),some (.int 0),L,M]/\Same H J/\i<=1) ⟨none,none,rfl,Same.refl H,Bf _⟩ ?_ ?_⟩⟩
  ·rintro i c Y u J hc ⟨L,M,rfl,sm,O⟩ hT;have F:(i=0/\c=97)\/(i=1/\c=32):=by
    rcases Nat.le_one_iff_eq_zero_or_eq_one.mp O with rfl|rfl
    ·grind
    ·simp_all
   have R:decide (c∈GS)=false:=by rcases F with⟨_,rfl⟩|⟨_,rfl⟩<;>decide
   have S:decide (c∈GS\/c∈NS) = !decide (i=1):=by rcases F with⟨rfl,rfl⟩|⟨rfl,rfl⟩<;>decide +kernel
   refine⟨Y,_,rfl,SqT.of q0d,rfl,_,_,rfl,_,_,rfl,rfl,?_⟩;generalize U:upd J Y _=Z;have B:Same H Z:=by rw[<- U];exact sm.new hT
   refine⟨λG W=>G=[some (.str (mk [97,32,98])),some (.int 0),some (.int (i:Nat)),some (.str ⟨#[c]⟩)]/\W=Z,?_,?_⟩
   ·rintro G W ⟨rfl,rfl⟩;refine⟨λb H4=>b=decide (i=1)/\H4=W,?_,?_⟩
    ·rintro b H4 ⟨rfl,rfl⟩;refine ite2 (λh=>?_) (λh=>⟨_,_,rfl,B,by have:i≠1:=λz=>h (decide_eq_true z);lia⟩)
     ·cases of_decide_eq_true h;refine⟨_,rfl,λea I=>⟨ea,_,rfl,q0d,⟨1,rfl,by lia⟩,λd hd X=>⟨rfl,?_⟩⟩⟩;obtain⟨dd,r1,r2⟩:=raised1 (v:=.int ((1:Nat):Int)) hd X;exact⟨dd,r1,kE ea _ (q1y B I hd) (B.free I) r2⟩
    ·refine⟨_,rfl,_,_,rfl,rfl,_,rfl,?_⟩;refine⟨_,rfl,.inr (.inl ⟨_,_,rfl,rfl,by trivial,.inl ⟨_,_,rfl,rfl,_,rfl,?_⟩⟩)⟩;rw[q6j,gn_in,S,Bool.not_not];exact⟨rfl,rfl⟩
   ·refine⟨_,rfl,.inl ⟨_,_,rfl,rfl,_,rfl,?_⟩⟩;rw[q6j];exact ite2 (λh=>absurd (of_decide_eq_true h) (of_decide_eq_false R)) (λ_=>⟨rfl,rfl⟩)
  ·rintro u J ⟨L,M,rfl,sm,O⟩;exact absurd O (by decide)
structure Calls1X (P:Ak) (w:World) (K:Ah) (mg:Str->Option Value) (base:Heap) (Cn:Addr):Prop where
 e_NoPattern:CalE P w K mg base "NoPattern" Cn 1 Zc (spIni1 Cn "at")
 ask_signs:CalX P w K mg base "ask_signs" 3 Zf (spAskX Cn)
 text_parts:Cal P w K mg base "text_parts" 1 Y1 spTextParts
noncomputable def spPartsX(C:Addr):Sp:=λvs H _ E=>∃l i,vs=[.str (mk l)]/\BP l i/\RE H E C i
def z3k(D:Df K mg "parts_of" q3b Zf)(T:Txt mg)(C:Calls1X P w K mg base Cn):CalX P w K mg base "parts_of" 4 Zf (spPartsX Cn):=by
 refine D.calX sc_parts_of (λvs H Q E h=>?_) (λf G A outer s H vs Q E j h=>?_)
 ·obtain⟨l,i,rfl,_⟩:=h;rfl
 ·obtain⟨l,i,rfl,I,B⟩:=h;obtain⟨_,g⟩:=T.GAP_SIGNS;refine⟨_,(q0b (q0s (q0h (eq_k K rfl j) (pv 0) q0i (nomark _)) (q0e (z4k C.e_NoPattern j accX rfl (q0a q0g q0c))) q0j) (q0b (q0u (q5m C.ask_signs j accX (q0a (pv 0) q0c))) (q0b (q0k (i:=1) sc_parts_of.nd rfl (by trivial) (q1j q0c)) (q0b (q0k (i:=2) sc_parts_of.nd rfl (by trivial) q0g) (q0b (q1u passDef rfl (@q8w _ _ _ _ _ _ _ _ K rfl rfl T.b_enumerate (q0a (pv 0) q0c) (by rfl)) (@q1q _ _ _ _ (2) _ K rfl rfl (q0p (q0n (i:=3) sc_parts_of.nd rfl (by trivial)) (q0p (q0n (i:=4) sc_parts_of.nd rfl (by trivial)) q1b)) (by rfl) (by rfl)) (q0e (q0s (q0h (in_k K rfl) (pv 4) (q0m (v:=.str (Ab "?*#@")) (by rfl) g ⟨_,rfl⟩) (by with_unfolding_all rfl)) (q0b (q0u (@bm_k _ _ _ _ _ _ _ _ _ _ _ _ K rfl Bi Iq Ir q5f (pv 1) (q0a (pe_c C.text_parts j (q0a (q1c (sl_k K rfl) (pv 0) (q0z (pv 2)) (q0z (pv 3))) q0c)) q0c) (by rfl) (by rfl) (by rfl) (by rfl) (by rfl))) (q0b (q0u (@bm_k _ _ _ _ _ _ _ _ _ _ _ _ K rfl Bi Ce Cf q1d (pv 1) (q0a (q0o (q0a q0i (q0a (pv 4) q0c))) q0c) (by rfl) (by rfl) (by rfl) (by rfl) (by rfl))) (q0e (q0k (i:=2) sc_parts_of.nd rfl (by trivial) (q0v q0r (pv 3) q0g))))) q0j))) (q0b (q0u (@bm_k _ _ _ _ _ _ _ _ _ _ _ _ K rfl Bi Iq Ir q5f (pv 1) (q0a (pe_c C.text_parts j (q0a (q1c (sl_k K rfl) (pv 0) (q0z (pv 2)) q2s) q0c)) q0c) (by rfl) (by rfl) (by rfl) (by rfl) (by rfl))) (q0e (q0l (pv 1))))))))),?_⟩;refine⟨_,rfl,.inl ⟨rfl,_,rfl,?_⟩⟩;rw[z5w];rcases I with⟨rfl,rfl⟩|⟨rfl,rfl⟩
  ·rw[decide_eq_true rfl];refine iteT (λF o=>⟨F,_,rfl,q0d,⟨0,rfl,by decide⟩,λd hd u=>⟨rfl,?_⟩⟩);obtain⟨dd,J,L⟩:=raised1 (v:=.int ((0:Nat):Int)) hd u;exact⟨dd,J,B F _ (q1y (Same.refl H) o hd) o L⟩
  ·rw[decide_eq_false (by decide)];exact iteF ⟨_,rfl,rfl,B.up⟩
noncomputable abbrev q1k:Stmt:=inClass (top 3) 0
def q3u:FnScope Zc Zc (defScope q1k):=by trivial
def q6f(F:Ef K mg "NoPattern" Cn Dn "NoPattern.__init__" q1k Zc)(g_HallError:mg "HallError" = some (.ref Dn))(S:ESet K Cn "at"):CalE P w K mg base "NoPattern" Cn 1 Zc (spIni1 Cn "at"):=by
 refine F.cal q3u (λvs H Q E h=>?_) (by decide) (λG f C A outer s H vs Q E g j I h=>?_)
 ·obtain⟨o,v,rfl,_⟩:=h;rfl
 ·obtain⟨o,v,rfl,B,⟨n,rfl,hn⟩,k⟩:=h;refine⟨_,(q0b (q0u (z5t g j rfl g_HallError (q0a (pv 0) (q0a (q5z q4l (z5u (pv 1)) (q5n q4l q6a)) q0c)))) (q0e (z2p K rfl (pv 0) (pv 1)))),?_⟩;have D:=q6l 12 n (by lia);have J:(Ab "no pattern: wrong behind ").length<=100:=by trivial
  have L:(Ab " signs").length<=100:=by trivial
  have M:Lb.length=0:=by trivial
  have O:(Ab (toString (n:Int))).length<=13:=by rw[z9g,q0x];exact D
  refine⟨_,rfl,TX.small (by rw[app_len];lia),_,rfl,.inr ⟨n,rfl,hn,TX.small (by rw[app_len,app_len];lia),TX.small (by rw[app_len,app_len,app_len];lia),TX.small (by rw[app_len,app_len,app_len];lia),?_⟩⟩;exact⟨o,_,none,rfl,B,_,rfl,_,rfl,o,Cn,rfl,S,.inl ⟨B,λd hd u=>k d hd u⟩⟩
noncomputable abbrev q1h:Stmt:=inClass (top 4) 0
def q3k:FnScope Zc Zc (defScope q1h):=by trivial
def q5r(F:Ef K mg "NoTemplate" Cn Dn "NoTemplate.__init__" q1h Zc)(g_HallError:mg "HallError" = some (.ref Dn))(S:ESet K Cn "at"):CalE P w K mg base "NoTemplate" Cn 1 Zc (spIni1 Cn "at"):=by
 refine F.cal q3k (λvs H Q E h=>?_) (by decide) (λG f C A outer s H vs Q E g j I h=>?_)
 ·obtain⟨o,v,rfl,_⟩:=h;rfl
 ·obtain⟨o,v,rfl,B,⟨n,rfl,hn⟩,k⟩:=h;refine⟨_,(q0b (q0u (z5t g j rfl g_HallError (q0a (pv 0) (q0a (q5z q4l (z5u (pv 1)) (q5n q4l q6a)) q0c)))) (q0e (z2p K rfl (pv 0) (pv 1)))),?_⟩;have D:=q6l 12 n (by lia);have J:(Ab "no template: wrong behind ").length<=100:=by trivial
  have L:(Ab " signs").length<=100:=by trivial
  have M:Lb.length=0:=by trivial
  have O:(Ab (toString (n:Int))).length<=13:=by rw[z9g,q0x];exact D
  refine⟨_,rfl,TX.small (by rw[app_len];lia),_,rfl,.inr ⟨n,rfl,hn,TX.small (by rw[app_len,app_len];lia),TX.small (by rw[app_len,app_len,app_len];lia),TX.small (by rw[app_len,app_len,app_len];lia),?_⟩⟩;exact⟨o,_,none,rfl,B,_,rfl,_,rfl,o,Cn,rfl,S,.inl ⟨B,λd hd u=>k d hd u⟩⟩
noncomputable abbrev q1o:Stmt:=inClass (top 6) 0
def q4i:FnScope Z9 Z9 (defScope q1o):=by trivial
def q6s(F:Ef K mg "NoDrawer" Cn Dn "NoDrawer.__init__" q1o Z9)(g_HallError:mg "HallError" = some (.ref Dn))(S:ESet K Cn "path"):CalE P w K mg base "NoDrawer" Cn 1 Z9 (spIniP Cn "path"):=by
 refine F.cal q4i (λvs H Q E h=>?_) (by decide) (λG f B A outer s H vs Q E g j C h=>?_)
 ·obtain⟨o,p,q,rfl,_⟩:=h;rfl
 ·obtain⟨o,p,q,rfl,v,D,pb,k⟩:=h;refine⟨_,(q0b (q0u (z5t g j rfl g_HallError (q0a (pv 0) (q0a (q5z q4l (x0i K rfl C (pv 1)) q6a) q0c)))) (q0e (z2p K rfl (pv 0) (pv 1)))),?_⟩;have I:Lb.length=0:=by trivial
  have J:(Ab "no drawer has the path ").length<=100:=by trivial
  refine⟨_,rfl,TX.small (by rw[app_len];lia),_,rfl,p,q.map mk,rfl,SqT.of (by rw[<- x1f];exact D),by rw[Af];have:=pb.few;lia,z4v pb,λy L=>⟨TX.small (by rw[app_len,app_len];lia),TX.small (by rw[app_len,app_len];lia),?_⟩⟩;exact⟨o,_,none,rfl,v,_,rfl,_,rfl,o,Cn,rfl,S,.inl ⟨v,λd hd u=>k d hd u⟩⟩
noncomputable def BT(l:List Nat)(i:Nat):Prop:=(l=[]/\i=0)\/(l=[123,49]/\i=2)
structure CallsN6 (P:Ak) (w:World) (K:Ah) (mg:Str->Option Value) (base:Heap) (Cn:Addr):Prop where
 e_NoTemplate:CalE P w K mg base "NoTemplate" Cn 1 Zc (spIni1 Cn "at")
noncomputable def spAskedX(Cn:Addr):Sp:=λvs H _ E=>∃g,vs=[.str (mk [123,49]),.int 2,.str g]/\RE H E Cn 2
def x1j(D:Df K mg "asked" q6x Z3)(T:Txt mg)(C:CallsN6 P w K mg base Cn):CalX P w K mg base "asked" 3 Z3 (spAskedX Cn):=by
 refine D.calX z5x (λvs H Q E h=>?_) (λf F A outer s H vs Q E G h=>?_)
 ·obtain⟨g,rfl,_⟩:=h;rfl
 ·obtain⟨g,rfl,I⟩:=h;refine⟨_,(q0b (q0s (pt_j (@PW.pt _ _ _ (q7b (q0h op_ge (pv 1) (q0q (q1z K rfl) (by rfl) T.b_len Br (q0a (pv 0) q0c)) (nomark _)) (q3l (q0h (z4c K rfl) (q0w (ix_k K rfl) (pv 0) (pv 1) (λ_ _=>rfl)) (pv 2) (by with_unfolding_all rfl)))))) (q0e (z4k C.e_NoTemplate G accX rfl (q0a (pv 1) q0c))) q0j) (q0e (q0l (q0w (ix_k K rfl) (pv 0) (pv 1) (λ_ _=>rfl))))),?_⟩;refine⟨λb o=>b=true/\o=H,?_,?_⟩;rotate_left
  ·refine⟨_,rfl,_,rfl,_,_,rfl,⟨small (by decide),rfl⟩,_,_,rfl,rfl,_,rfl,?_⟩;exact iteB (λh=>⟨rfl,rfl⟩) (λh=>absurd h (by decide))
  rintro b o ⟨rfl,rfl⟩;refine iteT ⟨_,rfl,λB j=>⟨B,_,rfl,q0d,⟨2,rfl,by lia⟩,λd hd u=>⟨rfl,?_⟩⟩⟩;obtain⟨dd,J,L⟩:=raised1 (v:=.int ((2:Nat):Int)) hd u;exact⟨dd,J,I B _ (q1y (Same.refl o) j hd) j L⟩
structure CallsU6 (P:Ak) (w:World) (K:Ah) (mg:Str->Option Value) (base:Heap) (Cn:Addr):Prop where
 asked:Cal P w K mg base "asked" 1 Z3 spAsked
 askedX:CalX P w K mg base "asked" 3 Z3 (spAskedX Cn)
 read_noughts:Cal P w K mg base "read_noughts" 2 Z2 spNoughts
 read_more:Cal P w K mg base "read_more" 2 Z2 spMore
 cases_:∃d,mg "CASES" = some (.ref d)/\KDict P w K d casesKV
noncomputable def spGapX(Cn:Addr):Sp:=λvs H _ E=>∃g,vs=[.str (mk [123,49]),.int 2,g]/\RE H E Cn 2
def z3l(D:Df K mg "read_gap" q3d Z2)(T:Txt mg)(C:CallsU6 P w K mg base Cn):CalX P w K mg base "read_gap" 4 Z2 (spGapX Cn):=by
 refine D.calX sc_read_gap (λvs H Q E h=>?_) (λf v A outer s H vs Q E u h=>?_)
 ·obtain⟨g,rfl,_⟩:=h;rfl
 ·obtain⟨g,rfl,B⟩:=h;obtain⟨F,j,o⟩:=C.cases_;refine⟨_,(q0b (q0k (i:=3) sc_read_gap.nd rfl (by trivial) (q4r (pe_c C.asked u (q0a (pv 0) (q0a (pv 1) (q0a q0i q0c)))) (q5m C.askedX u accX (q0a (pv 0) (q0a (pv 1) (q0a q0i q0c)))))) (q0b (q0s (q0h (eq_k K rfl u) (pv 3) q0i (nomark _)) (q0e (q0l (q0o (q0a (q0o (q0a q0i (q0a (pv 2) q0c))) (q0a (q0v q0r (pv 1) q0g) q0c))))) q0j) (q0b (q0s (q0h (eq_k K rfl u) (pv 3) q0i (nomark _)) (q0e (q0l (pe_c C.read_noughts u (q0a (pv 0) (q0a (q0v q0r (pv 1) q0g) (q0a (pv 2) q0c)))))) q0j) (q0b (q0s (q0h (eq_k K rfl u) (pv 3) q0i (nomark _)) (q0e (q0l (pe_c C.read_more u (q0a (pv 0) (q0a (q0v q0r (pv 1) q0g) (q0a (pv 2) q0c)))))) q0j) (q0b (q0u (q4r (pe_c C.asked u (q0a (pv 0) (q0a (q0v q0r (pv 1) q0g) (q0a q0i q0c)))) (q5m C.askedX u accX (q0a (pv 0) (q0a (q0v q0r (pv 1) q0g) (q0a q0i q0c)))))) (q0e (q0l (q0o (q0a (q0o (q0a (z9i (by rfl) j o (pv 3) (λ_ _=>rfl)) (q0a (pv 2) q0c))) (q0a (q0v q0r (pv 1) q0g) q0c)))))))))),?_⟩;exact .inr ⟨_,rfl,_,rfl,_,rfl,B.up⟩
structure CallsV6 (P:Ak) (w:World) (K:Ah) (mg:Str->Option Value) (base:Heap) (Cn:Addr):Prop where
 asked:Cal P w K mg base "asked" 1 Z3 spAsked
 askedX:CalX P w K mg base "asked" 3 Z3 (spAskedX Cn)
 read_count:Cal P w K mg base "read_count" 2 Z0 spCount
 read_gap:CalX P w K mg base "read_gap" 4 Z2 (spGapX Cn)
noncomputable def spMarkX(Cn:Addr):Sp:=λvs H _ E=>vs=[.str (mk [123,49]),.int 1]/\RE H E Cn 2
def z0u(D:Df K mg "read_mark" q2m Z0)(T:Txt mg)(C:CallsV6 P w K mg base Cn):CalX P w K mg base "read_mark" 5 Z0 (spMarkX Cn):=by
 refine D.calX sc_read_mark (λvs H Q E h=>?_) (λf o A outer s H vs Q E j h=>?_)
 ·obtain⟨rfl,_⟩:=h;rfl
 ·obtain⟨rfl,u⟩:=h;obtain⟨_,g⟩:=T.FROM_ONE;refine⟨_,(q0b (q0k (i:=2) sc_read_mark.nd rfl (by trivial) (q4r (pe_c C.asked j (q0a (pv 0) (q0a (pv 1) (q0a (q0v q0r q0i (q0m (v:=.str (Ab "123456789")) (by rfl) g ⟨_,rfl⟩)) q0c)))) (q5m C.askedX j accX (q0a (pv 0) (q0a (pv 1) (q0a (q0v q0r q0i (q0m (v:=.str (Ab "123456789")) (by rfl) g ⟨_,rfl⟩)) q0c)))))) (q0b (q0s (q0h (eq_k K rfl j) (pv 2) q0i (nomark _)) (q0e (q0l (pe_c C.read_count j (q0a (pv 0) (q0a (q0v q0r (pv 1) q0g) q0c))))) q0j) (q0e (q0l (q5m C.read_gap j accX (q0a (pv 0) (q0a (q0v q0r (pv 1) q0g) (q0a (q1p q2u (by rfl) T.b_int (by trivial) (q0a (pv 2) q0c)) q0c)))))))),?_⟩;have B:(Ab "n").length+(Ab "123456789").length<=1000:=by trivial
  refine .inl ⟨_,rfl,_,rfl,.inr (.inl ⟨_,_,rfl,rfl,TX.small (by lia),[123,49],1,49,_,rfl,rfl,by trivial,by decide,?_⟩)⟩;refine⟨_,rfl,.inl ⟨rfl,_,rfl,?_⟩⟩;exact iteF ⟨_,rfl,_,rfl,.inl ⟨_,_,rfl,rfl,_,rfl,.inr ⟨_,_,rfl,z5y (v:=1) (by lia),by rw[q0x];decide,_,rfl,u.up⟩⟩⟩
structure CallsW6 (P:Ak) (w:World) (K:Ah) (mg:Str->Option Value) (base:Heap) (Cn:Addr):Prop where
 read_mark:CalX P w K mg base "read_mark" 5 Z0 (spMarkX Cn)
 read_into:Cal P w K mg base "read_into" 1 Z0 spInto
 read_text:Cal P w K mg base "read_text" 2 Z0 spRText
noncomputable def spPieceX(Cn:Addr):Sp:=λvs H _ E=>vs=[.str (mk [123,49]),.int 0]/\RE H E Cn 2
def q8p(D:Df K mg "read_piece" q2c Z0)(T:Txt mg)(C:CallsW6 P w K mg base Cn):CalX P w K mg base "read_piece" 6 Z0 (spPieceX Cn):=by
 refine D.calX q5p (λvs H Q E h=>?_) (λf j A outer s H vs Q E g h=>?_)
 ·obtain⟨rfl,_⟩:=h;rfl
 ·obtain⟨rfl,o⟩:=h;refine⟨_,(q0b (q0s (q0h (eq_k K rfl g) (q0w (ix_k K rfl) (pv 0) (pv 1) (λ_ _=>rfl)) q0i (nomark _)) (q0e (q0l (q5m C.read_mark g accX (q0a (pv 0) (q0a (q0v q0r (pv 1) q0g) q0c))))) q0j) (q0b (q0s (q0h (eq_k K rfl g) (q0w (ix_k K rfl) (pv 0) (pv 1) (λ_ _=>rfl)) q0i (nomark _)) (q0e (q0l (pe_c C.read_into g (q0a (pv 0) (q0a (pv 1) q0c))))) q0j) (q0e (q0l (pe_c C.read_text g (q0a (pv 0) (q0a (pv 1) q0c))))))),?_⟩;refine⟨_,rfl,_,rfl,.inr (.inr ⟨mk [123,49],_,123,rfl,rfl,TX.small (by decide),rfl,.inl ⟨rfl,_,rfl,?_⟩⟩)⟩;exact iteT ⟨_,rfl,_,rfl,.inl ⟨_,_,rfl,rfl,rfl,o.up⟩⟩
structure CallsQ6 (P:Ak) (w:World) (K:Ah) (mg:Str->Option Value) (base:Heap) (Cn:Addr):Prop where
 e_NoTemplate:CalE P w K mg base "NoTemplate" Cn 1 Zc (spIni1 Cn "at")
 read_piece:CalX P w K mg base "read_piece" 6 Z0 (spPieceX Cn)
noncomputable def spPiecesX(Cn:Addr):Sp:=λvs H _ E=>∃l i,vs=[.str (mk l)]/\BT l i/\RE H E Cn i
def z0v(D:Df K mg "pieces_of" q2n Zw)(T:Txt mg)(C:CallsQ6 P w K mg base Cn):CalX P w K mg base "pieces_of" 8 Zw (spPiecesX Cn):=by
 refine D.calX sc_pieces_of (λvs H Q E h=>?_) (λf X A outer s H vs Q E G h=>?_)
 ·obtain⟨l,i,rfl,_⟩:=h;rfl
 ·obtain⟨l,i,rfl,R,S⟩:=h;refine⟨_,(q0b (q0k (i:=1) sc_pieces_of.nd rfl (by trivial) (q1j q0c)) (q0b (q0k (i:=2) sc_pieces_of.nd rfl (by trivial) q0g) (q0b (q9l passDef (q0h z3w (pv 2) (q0q (q1z K rfl) (by rfl) T.b_len Br (q0a (pv 0) q0c)) (nomark _)) (q0b (q4j (q5m C.read_piece G accX (q0a (pv 0) (q0a (pv 2) q0c))) (@q1q _ _ _ _ (2) _ K rfl rfl (q0p (q0n (i:=3) sc_pieces_of.nd rfl (by trivial)) (q0p (q0n (i:=2) sc_pieces_of.nd rfl (by trivial)) q1b)) (by rfl) (by rfl))) (q0e (q0u (@bm_k _ _ _ _ _ _ _ _ _ _ _ _ K rfl Bi Ce Cf q1d (pv 1) (q0a (pv 3) q0c) (by rfl) (by rfl) (by rfl) (by rfl) (by rfl)))))) (q0b (q0s (pt_j (@PW.pt _ _ _ (q7b (q0h (eq_k K rfl G) (pv 1) (q1j q0c) (nomark _)) (q3l (q0h (eq_k K rfl G) (q0w (ix_k K rfl) (pv 1) (q5d q2j q0g) (λ_ _=>rfl)) (q0o (q0a q0i q0c)) (nomark _)))))) (q0e (z4k C.e_NoTemplate G accX rfl (q0a (q0q (q1z K rfl) (by rfl) T.b_len Br (q0a (pv 0) q0c)) q0c))) q0j) (q0e (q0l (pv 1))))))),?_⟩;refine⟨by decide,λL Y=>?_⟩;have I:=(Same.refl H).new (o:=.lst []) Y;have j:upd H L (.lst []) L=some (.lst []):=q0d;generalize upd H L (.lst [])=Z at I j;refine q9m (λg J=>g=[some (.str (mk l)),some (.ref L),some (.int 0),none]/\J=Z) (λg _=>pcMeas (l.length+1) g) ⟨rfl,rfl⟩ ?_ ?_
  ·rintro g J ⟨rfl,rfl⟩;refine⟨_,rfl,_,rfl,_,_,rfl,⟨TX.small (by rcases R with⟨rfl,_⟩|⟨rfl,_⟩<;>decide),rfl⟩,_,_,rfl,rfl,_,rfl,?_⟩;rcases R with⟨rfl,rfl⟩|⟨rfl,rfl⟩
   ·refine ite2 (λh=>absurd h (by decide)) (λ_=>?_);refine⟨λb U=>b=true/\Same J U,?_,?_⟩
    ·rintro b U ⟨rfl,u⟩;refine iteT ⟨_,rfl,_,_,rfl,⟨TX.small (by decide),rfl⟩,λW B=>⟨W,_,rfl,q0d,⟨0,rfl,by decide⟩,λd hd M=>⟨rfl,?_⟩⟩⟩;obtain⟨dd,r1,r2⟩:=raised1 (v:=.int ((0:Nat):Int)) hd M;exact⟨dd,r1,S W _ (q1y (I.trans u) B hd) ((I.trans u).free B) r2⟩
    ·refine⟨_,rfl,by decide,λE0 O=>?_⟩;have F:=(Same.refl J).new (o:=.lst []) O;refine .inr ⟨_,_,.lst (SqL.of (F _ _ j)) .nil,.lst (SqL.of q0d) .nil,rfl,rfl,?_,_,rfl,?_⟩
     ·exact Bg (Mz _ _) (by trivial)
     exact iteT ⟨rfl,F⟩
   ·refine ite2 (λ_=>?_) (λh=>absurd (by decide) h);exact⟨_,rfl,_,rfl,rfl,(S.same I).up⟩
  ·intro σ H Q Q' hq hw;obtain⟨x,e1,y,e2,n',z,e3,e4,a',b',e5,e6,c',e7,hh⟩:=hw;exact⟨x,e1,y,e2,n',z,e3,e4,a',b',e5,e6,c',e7,hq _ _ hh⟩
noncomputable def Rul(Cr:Addr)(H:Hp)(E:XK):Prop:=∀ea H',Same H H'->H ea=none->H' ea=some (ExO (.ref Cr) none ea)->E (.ref ea) none H'
def Rul.same(h:Rul Cr H E)(s:Same H H1):Rul Cr H1 E:=λg j sm f r=>h g j (s.trans sm) (s.free f) r
def Rul.up(h:Rul Cr H E):Rul Cr H (λe _ H'=>∀f,e=.ref f->E (.ref f) none H'):=λf H' sm g r j o=>by
 cases o;exact h f H' sm g r
def Rul.go(h:Rul Cr H E)(f:H ea=none):E (.ref ea) none (upd (upd H ea (ExN (.ref Cr) none ea)) ea (ExO (.ref Cr) none ea)) :=
 h ea _ (λb o e=>by
  have n:b≠ea:=λz=>by rw[z,f] at e;cases e
  rw[q0f n,q0f n];exact e) f q0d
noncomputable def Bdp(kd:Str)(gs:List Nat)(p:Pc):Prop:=(∃k,gapNo p=some k/\(gs.length<k\/(k<=gs.length/\isMo p=true/\gs[k-1]?≠some 35)))\/(p=.into/\kd≠Ab "slip")
def x5j(h:p.ok)(g:gapNo p=some k):1<=k/\k<=9:=by
 cases p<;>cases g
 ·exact h
 ·exact h
 ·exact h
 ·exact h.1
 ·exact h.1
def ask_or(kd:Str)(g:List Nat)(h:p.ok):AskOk kd g p\/Bdp kd g p:=by
 by_cases f:Bdp kd g p
 ·exact .inr f
 refine .inl ⟨λk hk=>⟨(x5j h hk).1,Rb λz=>f (.inl ⟨k,hk,.inl z⟩)⟩,λk m e=>Kx λz=>?_,λe=>Kx λz=>f (.inr ⟨e,z⟩)⟩;have hk:gapNo p=some k:=by rw[e];rfl
 by_cases hl:k<=g.length
 ·exact f (.inl ⟨k,hk,.inr ⟨hl,by rw[e];rfl,z⟩⟩)
 ·exact f (.inl ⟨k,hk,.inl (by lia)⟩)
structure CallsG7 (K:Ah) (mg:Str->Option Value) (Cr Dn:Addr):Prop where
 f_NoRule:ELaw0 K Cr Dn
 g_NoRule:mg "NoRule" = some (.ref Cr)
noncomputable def spAskGapX(Cr:Addr):Sp:=λvs H _ E=>∃T G p k gs,vs=[.ref T,.ref G]/\H T=some (.tup p.vs)/\gapNo p=some k/\1<=k/\k<=9/\H G=some (.lst (vG gs))/\gs.length<=3000/\(gs.length<k\/(k<=gs.length/\isMo p=true/\gs[k-1]?≠some 35))/\Rul Cr H E
def z4x(D:Df K mg "ask_gap" q4f Zd)(T:Txt mg)(C:CallsG7 K mg Cr Dn):CalX P w K mg base "ask_gap" 1 Zd (spAskGapX Cr):=by
 refine D.calX sc_ask_gap (λvs H Q E h=>?_) (λf M A outer s H vs Q E B h=>?_)
 ·obtain⟨o,G,p,k,g,rfl,_⟩:=h;rfl
 ·obtain⟨o,G,p,n,g,rfl,F,O,u,R,I,S,U,k⟩:=h;refine⟨_,(q0b (q0k (i:=2) sc_ask_gap.nd rfl (by trivial) (q0w (ix_k K rfl) (pv 0) q0g (λ_ _=>rfl))) (q0b (q0k (i:=3) sc_ask_gap.nd rfl (by trivial) (q0w (ix_k K rfl) (pv 0) q0g (λ_ _=>rfl))) (q0b (q0s (q0h z1e (pv 3) (q0q (q1z K rfl) (by rfl) T.b_len Br (q0a (pv 1) q0c)) (nomark _)) (q0e (q3o C.f_NoRule accX rfl C.g_NoRule (q0a (q5z q4l (z5u (pv 3)) q6a) q0c))) q0j) (q0e (q0s (pt_j (@PW.pt _ _ _ (q5a (q0h (eq_k K rfl B) (pv 2) q0i (nomark _)) (q2w (q0h (ne_k K rfl B) (q0w (ix_k K rfl) (pv 1) (q0v z5g (pv 3) q0g) (λ_ _=>rfl)) q0i (nomark _)))))) (q0e (q3o C.f_NoRule accX rfl C.g_NoRule (q0a (q5z q4l (z5u (pv 3)) (q5n q4l q6a)) q0c))) q0j))))),?_⟩;have W:=q6l 12 n (by lia);have l1:(Ab "there is no gap ").length<=100:=by trivial
  have l2:(Ab "gap ").length<=100:=by trivial
  have l3:(Ab " is no number").length<=100:=by trivial
  have l0:Lb.length=0:=by trivial
  have e1:(Ab (toString (n:Int))).length<=13:=by rw[z9g,q0x];exact W
  refine⟨_,rfl,.inr (.inl ⟨o,_,0,_,rfl,rfl,SqT.of F,pw0 p,?_⟩)⟩;refine⟨_,rfl,.inr (.inl ⟨o,_,1,_,rfl,rfl,SqT.of F,z6c O,?_⟩)⟩;refine⟨_,rfl,_,rfl,_,_,rfl,.inl ⟨_,SqL.of I,rfl⟩,_,_,rfl,rfl,_,rfl,?_⟩;rw[Af];refine ite2 (λh=>?_) (λh=>?_)
  ·refine⟨TX.small (by rw[app_len];lia),_,rfl,.inr ⟨n,rfl,by lia,TX.small (by rw[app_len,app_len];lia),TX.small (by rw[app_len,app_len];lia),by show 1<=100;decide,λX j=>k.go j⟩⟩
  have Y:n<=g.length:=Rb λz=>h (decide_eq_true (by lia));obtain⟨_,Z,v⟩:n<=g.length/\isMo p=true/\g[n-1]?≠some 35:=by
   rcases U with z|z
   ·lia
   ·exact z
  refine⟨λJ L=>J=true/\L=H,?_,?_⟩
  ·rintro J L ⟨rfl,rfl⟩;exact iteT ⟨TX.small (by rw[app_len];lia),_,rfl,.inr ⟨n,rfl,by lia,TX.small (by rw[app_len,app_len];lia),TX.small (by rw[app_len,app_len,app_len];lia),TX.small (by rw[app_len,app_len,app_len];lia),by show 1<=100;decide,λX j=>k.go j⟩⟩
  refine⟨_,rfl,.inl ⟨rfl,_,rfl,?_⟩⟩;rw[pwM,Z];have hd:g[n-1]?=some g[n-1]:=Bt (by lia);refine⟨_,rfl,_,rfl,_,_,rfl,rfl,.inl ⟨G,_,_,_,rfl,rfl,SqL.of I,vG_at u hd,.inl ⟨rfl,_,rfl,?_,rfl⟩⟩⟩;have:decide (V.str (mk [g[n-1]])=V.str (Ab "#"))=false:=by
   refine decide_eq_false λz=>v ?_;injection z with z;have:=congrArg tl z;rw[q1g,show tl (Ab "#")=[35] by trivial] at this;injection this with h1 _;rw[hd,h1]
  rw[this];rfl
structure CallsR7 (P:Ak) (w:World) (K:Ah) (mg:Str->Option Value) (base:Heap) (Cr Dn:Addr):Prop where
 ask_gap:CalX P w K mg base "ask_gap" 1 Zd (spAskGapX Cr)
 of_a_gap:∃d,mg "OF_A_GAP" = some (.ref d)/\∀H,SqT K H d ofGap
 f_NoRule:ELaw0 K Cr Dn
 g_NoRule:mg "NoRule" = some (.ref Cr)
noncomputable def spAskPieceX(Cr:Addr):Sp:=λvs H _ E=>∃T G p gs kd,vs=[.ref T,.str kd,.ref G]/\H T=some (.tup p.vs)/\p.ok/\H G=some (.lst (vG gs))/\gs.length<=3000/\Bdp kd gs p/\Rul Cr H E
def z0w(D:Df K mg "ask_piece" q2o Z4)(T:Txt mg)(C:CallsR7 P w K mg base Cr Dn):CalX P w K mg base "ask_piece" 2 Z4 (spAskPieceX Cr):=by
 refine D.calX sc_ask_piece (λvs H Q E h=>?_) (λf X A outer s H vs Q E I h=>?_)
 ·obtain⟨B,G,p,R,kd,rfl,_⟩:=h;rfl
 ·obtain⟨B,G,p,R,kd,rfl,S,J,Y,L,F,k⟩:=h;obtain⟨g,j,hd⟩:=C.of_a_gap;refine⟨_,(q0b (q0k (i:=3) sc_ask_piece.nd rfl (by trivial) (q0w (ix_k K rfl) (pv 0) q0g (λ_ _=>rfl))) (q1v (q0s (q0h (in_k K rfl) (pv 3) (q0m (v:=.ref g) (by rfl) j rfl) (by with_unfolding_all rfl)) (q0e (q0u (q5m C.ask_gap I accX (q0a (pv 0) (q0a (pv 2) q0c))))) q0j) (q0e (q0s (pt_j (@PW.pt _ _ _ (q5a (q0h (eq_k K rfl I) (pv 3) q0i (nomark _)) (q2w (q0h (ne_k K rfl I) (pv 1) q0i (nomark _)))))) (q0e (q3o C.f_NoRule accX rfl C.g_NoRule (q0a q0i q0c))) q0j)))),?_⟩;refine⟨_,rfl,.inr (.inl ⟨B,_,0,_,rfl,rfl,SqT.of S,pw0 p,?_⟩)⟩;refine⟨λu M=>u=[some (.ref B),some (.str kd),some (.ref G),some (.str (pcWd p))]/\M=H/\gapNo p=none,?_,?_⟩;rotate_left
  ·refine⟨_,rfl,.inr ⟨g,_,rfl,.inr (hd H),rfl,by trivial,_,rfl,?_⟩⟩;rw[inGap];refine ite2 (λh=>?_) (λh=>⟨rfl,rfl,by simpa using h⟩);obtain⟨n,hn⟩:=Ik.mp h;obtain⟨Z,h9⟩:=x5j J hn;rcases F with⟨n',o,F⟩|⟨e,_⟩
   ·rw[hn] at o;cases o;exact⟨_,rfl,_,rfl,B,G,p,n,R,rfl,S,hn,Z,h9,Y,L,F,k.up⟩
   ·rw[e] at hn;cases hn
  rintro u M ⟨rfl,rfl,hn⟩;obtain⟨hi,hk⟩:p=.into/\kd≠Ab "slip" := by
   rcases F with⟨n',o,_⟩|z
   ·grind
   ·exact z
  refine⟨λU W=>U=true/\W=M,?_,?_⟩
  ·rintro U W ⟨rfl,rfl⟩;exact iteT ⟨by decide,λea O=>k.go O⟩
  refine⟨_,rfl,.inl ⟨rfl,_,rfl,?_⟩⟩;rw[pwI,hi];refine iteT ⟨_,rfl,.inl ⟨rfl,_,rfl,?_,rfl⟩⟩;rw[decide_eq_false (λz=>hk (by injection z))];rfl
noncomputable def nmB(ts:Pth):Bool:=ts.all isName
structure CallsPl (P:Ak) (w:World) (K:Ah) (mg:Str->Option Value) (base:Heap) (c Cn:Addr):Prop where
 m_is_drawer:MCal P w K mg base c "is_drawer" 1 Z9 (spIsDrawer c)
 is_name:Cal P w K mg base "is_name" 2 Y1 spIsName
 e_NoPlace:CalE P w K mg base "NoPlace" Cn 1 Zi (spIniN Cn)
noncomputable def RN(H:Hp)(E:XK)(Cn:Addr)(q ts:Pth):Prop:=∀ea H',Same H H'->H ea=none->RfN H' ea Cn q ts->E (.ref ea) none H'
noncomputable def plG(rows:List Rw)(q ts:Pth):Option Pth:=if 6<ts.length\/nmB ts=false then none else if ts.length=1 then some (q.dropLast++ts) else if (ts.dropLast,(none:Option Int))∈rows then some ts else none
noncomputable def spPlace(c Cn:Addr):Sp:=λvs H Q E=>∃h d p X bl rows q ts,vs=[.ref h,.ref p,.ref X]/\HallAt c H h d bl rows/\(rows.map (·.1)).Nodup/\H p=some (.tup (vP q))/\okP q/\H X=some (.tup (vP ts))/\TsOk ts/\(∀r,plG rows q ts=some r->∀a H',Same H H'->H' a=some (.tup (vP r))->Q (.ref a) H')/\(plG rows q ts=none->RN H E Cn q ts)
def TsOk.pb(h:TsOk ts):PB ts:=⟨h.2.1,λn hn=>⟨(h.2.2 n hn).1,λc f=>z9v c ((h.2.2 n hn).2 c f)⟩⟩
def TsOk.low(h:TsOk ts):Low ts:=λn hn c f=>z9v c ((h.2.2 n hn).2 c f)
noncomputable abbrev q4v:Stmt:=top 64
def z4y:FnScope Zj Zj (defScope q4v):=by trivial
def z4z(D:Df K mg "place_of" q4v Zj)(T:Txt mg)(C:CallsPl P w K mg base c Cn):CalX P w K mg base "place_of" 3 Zj (spPlace c Cn):=by
 refine D.calX z4y (λvs H Q E h=>?_) (λf a4 A outer s H vs Q E Z h=>?_)
 ·obtain⟨h,d,p,X,bl,rows,q,g,rfl,_⟩:=h;rfl
 ·obtain⟨h,d,p,X,bl,rows,q,g,rfl,hh,a1,hp,M,J,U,k,kE⟩:=h;obtain⟨_,j⟩:=T.MOST_NAMES;refine⟨_,(q0b (q0s (pt_j (@PW.pt _ _ _ (q7b (q0h z1e (q0q (q1z K rfl) (by rfl) T.b_len Br (q0a (pv 2) q0c)) (q0m (v:=.int 6) (by rfl) j ⟨_,rfl⟩) (nomark _)) (q3l (z7u (@q9x _ _ _ K rfl (q0q (all_k K rfl rfl) (by rfl) T.b_all (by trivial) (q0a (q6w Y1 [] rfl (@q5u _ _ _ _ K rfl (pv 2)) (λ_ _ _ _ _=>(q0n (i:=0) (show(Y1:List Str).Nodup by trivial) rfl (by trivial))) (λ_ _ _ _ _=>q9t) (λ_ _ _ _ _=>(pe_c C.is_name Z (q0a (pv 0) q0c)))) q0c)) (λ_=>rfl))))))) (q0e (z4k C.e_NoPlace Z accX rfl (q0a (pv 1) (q0a (pv 2) q0c)))) q0j) (q0b (q0s (q0h (eq_k K rfl Z) (q0q (q1z K rfl) (by rfl) T.b_len Br (q0a (pv 2) q0c)) q0g (nomark _)) (q0e (q0l (q0v z4i (q1c sl_P (pv 1) q2s (q0z (q5d q2j q0g))) (pv 2)))) q0j) (q0b (q0s (z7u (@q9x _ _ _ K rfl (pe_m C.m_is_drawer Z (pv 0) (q0a (q1c sl_P (pv 2) q2s (q0z (q5d q2j q0g))) q0c)) (λ_=>rfl))) (q0e (z4k C.e_NoPlace Z accX rfl (q0a (pv 1) (q0a (pv 2) q0c)))) q0j) (q0e (q0l (pv 2)))))),?_⟩;have pb:=U.pb;obtain⟨dx,hi⟩:=hh.i;refine⟨λbb H'=>bb=(decide (6<g.length) || !nmB g)/\Same H H',?_,?_⟩
  ·rintro bb H1 ⟨rfl,G⟩;refine ite2 (λe=>?_) (λe=>?_)
   ·have e:plG rows q g=none:=by
     unfold plG;rcases Bool.or_eq_true_iff.mp e with z|z
     ·grind
     ·grind
    refine⟨_,rfl,_,rfl,λL F=>⟨L,p,X,q,g,rfl,q0d,?_⟩⟩;have se:=(Same.refl H1).new (o:=ExN (.ref Cn) none L) F;refine⟨⟨se _ _ (G _ _ hp),okP.pb M⟩,⟨se _ _ (G _ _ J),pb⟩,λd hd u=>⟨rfl,some d,by rw[q0f (Bz u),q0f (Bz u),q0d],?_⟩⟩;have R:=q6n (o2:=XdO d []) (o3:=ExN (.ref Cn) (some d) L) (o4:=XdO d [("path",.ref p)]) (o5:=XdO d (putF "texts" (.ref X) [("path",.ref p)])) (o6:=ExO (.ref Cn) (some d) L) (Same.refl H1) F hd;exact kE e L _ (G.trans R) (G.free F) ⟨d,p,X,q0d,by rw[q0f u];exact q0d,R _ _ (G _ _ hp),R _ _ (G _ _ J)⟩
   ·have e1:¬(6<g.length\/nmB g=false):=λz=>e (by
     rcases z with z|z
     ·grind
     ·rw[z];simp)
    refine⟨_,rfl,_,_,rfl,.inr ⟨_,SqT.of (G _ _ J),rfl⟩,.inl ⟨rfl,_,rfl,?_⟩⟩;rw[q2p];refine ite2 (λO=>?_) (λO=>?_)
    ·have O:g.length=1:=by have:=of_decide_eq_true O;injection this with this;lia
     refine⟨_,rfl,_,rfl,_,rfl,p,_,rfl,G _ _ hp,λt1 S s2 h2=>?_⟩;rw[(q4g M.ne).1] at h2;have hl:=M.few;refine⟨_,rfl,t1,X,_,_,rfl,rfl,h2,s2 _ _ (G _ _ J),TX.small (by rw[q2p,q2p,List.length_dropLast];lia),λa W Y h3 _=>?_⟩;exact k (q.dropLast++g) (by unfold plG;rw[if_neg e1,if_pos O]) a W ((G.trans s2).trans Y) (by rw[h3,<- vP_app])
    ·have O:g.length≠1:=λz=>O (decide_eq_true (by rw[z];rfl));have u:g.dropLast≠[]:=λz=>by
      have:=congrArg List.length z;have:=Ea.mpr U.1;simp at *;lia
     refine⟨_,rfl,h,dx,_,rfl,G _ _ hi,rfl,_,rfl,_,rfl,_,rfl,X,_,rfl,G _ _ J,λt1 S s2 h2=>?_⟩;rw[(q4g U.1).1] at h2;refine⟨h,d,t1,bl,rows,g.dropLast,rfl,(hh.same G).same s2,h2,λn hn=>U.low n ((List.dropLast_sublist g).subset hn),a1,λW bb Y a0=>⟨_,rfl,?_⟩⟩;have B:=(G.trans s2).trans Y;cases bb
     ·have a2:¬(g.dropLast,(none:Option Int))∈rows:=λz=>by have:=a0.mpr (.inr z);cases this
      have e:plG rows q g=none:=by unfold plG;rw[if_neg e1,if_neg O,if_neg a2]
      refine iteT ⟨_,rfl,_,rfl,λL F=>⟨L,p,X,q,g,rfl,q0d,?_⟩⟩;have se:=(Same.refl W).new (o:=ExN (.ref Cn) none L) F;refine⟨⟨se _ _ (B _ _ hp),okP.pb M⟩,⟨se _ _ (B _ _ J),pb⟩,λd hd u=>⟨rfl,some d,by rw[q0f (Bz u),q0f (Bz u),q0d],?_⟩⟩;have R:=q6n (o2:=XdO d []) (o3:=ExN (.ref Cn) (some d) L) (o4:=XdO d [("path",.ref p)]) (o5:=XdO d (putF "texts" (.ref X) [("path",.ref p)])) (o6:=ExO (.ref Cn) (some d) L) (Same.refl W) F hd;exact kE e L _ (B.trans R) (B.free F) ⟨d,p,X,q0d,by rw[q0f u];exact q0d,R _ _ (B _ _ hp),R _ _ (B _ _ J)⟩
     ·have hm:(g.dropLast,(none:Option Int))∈rows:=(a0.mp rfl).resolve_left u;exact iteF ⟨_,rfl,k g (by unfold plG;rw[if_neg e1,if_neg O,if_pos hm]) X W B (B _ _ J)⟩
  ·refine⟨_,rfl,_,_,rfl,.inr ⟨_,SqT.of J,rfl⟩,_,_,rfl,rfl,_,rfl,?_⟩;rw[q2p];refine iteB (λz=>⟨?_,Same.refl H⟩) (λz=>?_)
   ·grind
   have a3:decide (6<g.length)=false:=decide_eq_false (by have:=of_decide_eq_false z;lia);refine⟨_,rfl,.inr (.inl ⟨X,rfl,⟨_,SqT.of J⟩,λD hD=>?_⟩)⟩;refine z8s (λi ys S=>ys=(g.take i).map (λn=>V.bl (isName n))/\Same H S/\S D=some (.lst ys)/\i<=g.length) ⟨rfl,(Same.refl H).new hD,q0d,Bf _⟩ (λi ys S q=>by obtain⟨_,sm,I,_⟩:=q;exact⟨I,SqT.of (sm _ _ J)⟩) ?_ ?_
   ·rintro i ys S x hx ⟨rfl,sm,I,hi⟩;rw[Bm] at hx;obtain⟨t,ht,rfl⟩:=Ck.mp hx;have hi':=(As.mp ht).1;have tok:=U.2.2 t (Bd ht);have a5:=U.2.1;refine⟨_,rfl,mk t,rfl,by rw[q0x];lia,λW Y=>⟨Y _ _ I,TX.small' (by rw[Af,Dg];lia),?_,(sm.trans Y).put hD,q0d,hi'⟩⟩;rw[q1g,Gf,ht,Au];rfl
   ·rintro ys S ⟨rfl,sm,I,hi⟩;rw[q2p,Dj] at I;refine⟨D,g.map isName,rfl,SqL.of (by rw[Dy];exact I),_,rfl,?_,sm⟩;rw[a3];unfold nmB;simp
inductive Dv where
 |ok
 |pat (i:Nat)
 |tem (i:Nat)
 |rul
 |drw (q:Pth)
 |plc (q ts:Pth)
noncomputable def NoGo(kd:Str)(l:List Nat)(qs:List Pc):Prop:=inV (.str kd) kinds3=false\/∃q∈qs,Bdp kd (gsOf (parse [] l)) q
structure CallsS7 (P:Ak) (w:World) (K:Ah) (mg:Str->Option Value) (base:Heap) (Cp Ct Cr Dn:Addr):Prop where
 parts_of:Cal P w K mg base "parts_of" 2 Zf spPartsOf
 parts_ofX:CalX P w K mg base "parts_of" 4 Zf (spPartsX Cp)
 pieces_of:Cal P w K mg base "pieces_of" 6 Zw spPieces
 pieces_ofX:CalX P w K mg base "pieces_of" 8 Zw (spPiecesX Ct)
 ask_piece:Cal P w K mg base "ask_piece" 2 Z4 spAskPiece
 ask_pieceX:CalX P w K mg base "ask_piece" 2 Z4 (spAskPieceX Cr)
 kinds:∃d,mg "KINDS" = some (.ref d)/\∀H,SqT K H d kinds3
 f_NoRule:ELaw0 K Cr Dn
 g_NoRule:mg "NoRule" = some (.ref Cr)
noncomputable def BdR(kd:Str)(l tt:List Nat):Dv->Prop
 |.pat i=>BP l i
 |.tem i=>Good l/\BT tt i
 |.rul=>Good l/\∃qs,tt=flatP qs/\WP qs/\NoGo kd l qs
 |_=>False
noncomputable def Rsd(Cp Ct Cr Cd Cn:Addr)(H:Hp)(E:XK):Dv->Prop
 |.ok=>True
 |.pat i=>RE H E Cp i
 |.tem i=>RE H E Ct i
 |.rul=>Rul Cr H E
 |.drw q=>∀ea H' p,Same H H'->H ea=none->Rfd H' ea Cd "path" (.ref p)->H' p=some (.tup (vP q))->E (.ref ea) none H'
 |.plc q ts=>RN H E Cn q ts
def Rsd.up(h:Rsd Cp Ct Cr Cd Cn H E d):Rsd Cp Ct Cr Cd Cn H (λe _ H'=>∀f,e=.ref f->E (.ref f) none H') d:=by
 cases d with
 |ok=>trivial
 |pat i=>exact RE.up h
 |tem i=>exact RE.up h
 |rul=>exact Rul.up h
 |drw q=>exact λf H' p a b c e g j=>by cases j;exact h f H' p a b c e
 |plc q ts=>exact λf H' a b c g j=>by cases j;exact h f H' a b c
def Rsd.same(h:Rsd Cp Ct Cr Cd Cn H E d)(s:Same H H1):Rsd Cp Ct Cr Cd Cn H1 E d:=by
 cases d with
 |ok=>trivial
 |pat i=>exact RE.same h s
 |tem i=>exact RE.same h s
 |rul=>exact Rul.same h s
 |drw q=>exact λf g p a b c e=>h f g p (s.trans a) (s.free b) c e
 |plc q ts=>exact λf g a b c=>h f g (s.trans a) (s.free b) c
noncomputable def spAskRuleX(Cp Ct Cr Cd Cn:Addr):Sp:=λvs H _ E=>∃R kd l tt st d,vs=[.ref R]/\H R=some (.tup [.str kd,.str (mk l),.str (mk tt),.int st])/\BdR kd l tt d/\Rsd Cp Ct Cr Cd Cn H E d
def z3m(D:Df K mg "ask_rule" q3e Y8)(T:Txt mg)(C:CallsS7 P w K mg base Cp Ct Cr Dn):CalX P w K mg base "ask_rule" 9 Y8 (spAskRuleX Cp Ct Cr Cd Cn):=by
 refine D.calX sc_ask_rule (λvs H Q E h=>?_) (λf b4 A outer s H vs Q E S h=>?_)
 ·obtain⟨R,kd,l,tt,st,d,rfl,_⟩:=h;rfl
 ·obtain⟨R,kd,l,tt,st,d,rfl,hR,bad,rs⟩:=h;obtain⟨o,B,hd⟩:=C.kinds;obtain⟨_,g⟩:=T.MOST_START;refine⟨_,(q0b (q4j (pv 0) (@q1q _ _ _ _ (4) _ K rfl rfl (q0p (q0n (i:=1) sc_ask_rule.nd rfl (by trivial)) (q0p (q0n (i:=2) sc_ask_rule.nd rfl (by trivial)) (q0p (q0n (i:=3) sc_ask_rule.nd rfl (by trivial)) (q0p (q0n (i:=4) sc_ask_rule.nd rfl (by trivial)) q1b)))) (by rfl) (by rfl))) (q0b (q0k (i:=5) sc_ask_rule.nd rfl (by trivial) (q4r (pe_c C.parts_of S (q0a (pv 2) q0c)) (q5m C.parts_ofX S accX (q0a (pv 2) q0c)))) (q0b (q0k (i:=6) sc_ask_rule.nd rfl (by trivial) (q4r (pe_c C.pieces_of S (q0a (pv 3) q0c)) (q5m C.pieces_ofX S accX (q0a (pv 3) q0c)))) (q0b (q0s (q0h (z4c K rfl) (pv 1) (q0m (v:=.ref o) (by rfl) B rfl) (by with_unfolding_all rfl)) (q0e (q3o C.f_NoRule accX rfl C.g_NoRule (q0a q0i q0c))) q0j) (q0b (q9u (i:=7) Zy [] sc_ask_rule.nd rfl (by trivial) rfl (@q5u _ _ _ _ K rfl (pv 5)) (λ_ _ _ _ _=>(@q1q _ _ _ _ (2) _ K rfl rfl (q0p (q0n (i:=0) (show(Zy:List Str).Nodup by trivial) rfl (by trivial)) (q0p (q0n (i:=1) (show(Zy:List Str).Nodup by trivial) rfl (by trivial)) q1b)) (by rfl) (by rfl))) (λ_ _ _ _ _=>(q7i (q0h (eq_k K rfl S) (pv 0) q0i (nomark _)))) (λ_ _ _ _ _=>(pv 1))) (q0b (q1u passDef rfl (@q5u _ _ _ _ K rfl (pv 6)) (q0n (i:=8) sc_ask_rule.nd rfl (by trivial)) (q0e (q0u (q4r (pe_c C.ask_piece S (q0a (pv 8) (q0a (pv 1) (q0a (pv 7) q0c)))) (q5m C.ask_pieceX S accX (q0a (pv 8) (q0a (pv 1) (q0a (pv 7) q0c)))))))) (q0b (q0s (pt_j (@PW.pt _ _ _ (q7b (q0h z3w (pv 4) q0g (nomark _)) (q3l (q0h z1e (pv 4) (q0m (v:=.int 1000000000) (by rfl) g ⟨_,rfl⟩) (nomark _)))))) (q0e (q3o C.f_NoRule accX rfl C.g_NoRule (q0a q0i q0c))) q0j) (q0e (q0l q4y))))))))),?_⟩
  with_reducible refine gE λb5 b6 b2 J=>?_
  refine⟨_,rfl,R,_,rfl,SqT.of hR,rfl,_,_,rfl,_,_,rfl,_,_,rfl,_,_,rfl,rfl,?_⟩;have a4:(∃i,d=.pat i/\BP l i)\/Good l/\((∃i,d=.tem i/\BT tt i)\/(d=.rul/\∃qs,tt=flatP qs/\WP qs/\NoGo kd l qs)):=by
   cases d with
   |pat i=>exact .inl ⟨i,rfl,bad⟩
   |tem i=>exact .inr ⟨bad.1,.inl ⟨i,rfl,bad.2⟩⟩
   |rul=>exact .inr ⟨bad.1,.inr ⟨rfl,bad.2⟩⟩
   |_=>exact bad.elim
  rcases a4 with⟨i,rfl,O⟩|⟨good,W⟩
  ·subst J;exact .inr ⟨_,rfl,l,i,rfl,O,RE.up rs⟩
  subst J;refine .inl ⟨_,rfl,l,rfl,good,λL H1 hL X a5=>?_⟩;rcases W with⟨i,rfl,O⟩|⟨rfl,qs,rfl,wp,ng⟩
  ·exact .inr ⟨_,rfl,tt,i,rfl,O,RE.up (RE.same rs X)⟩
  refine .inl ⟨_,rfl,qs,rfl,wp,λM H2 hM Y a6=>?_⟩;have ru:=rs;have Z:=(ru.same X).same Y;refine⟨_,rfl,.inr ⟨o,_,rfl,.inr (hd H2),rfl,by trivial,_,rfl,?_⟩⟩;refine ite2 (λ_=>⟨by decide,λea a7=>Z.go a7⟩) (λhk=>?_);replace ng:∃q∈qs,Bdp kd (gsOf (parse [] l)) q:=by
   rcases ng with z|z
   ·simp_all
   ·exact z
  obtain⟨Ts,t1,t2⟩:=(a5.same Y).ex;have a8:=t2.len;have b7:=q7p l [];have b8:=good.len;refine⟨_,rfl,.inl ⟨L,rfl,⟨_,SqL.of t1⟩,λD hD=>?_⟩⟩;refine q5g (λi ys G=>ys=vG (gsOf ((parse [] l).take i))/\Same H2 G/\G D=some (.lst ys)/\i<=(parse [] l).length) ⟨rfl,(Same.refl H2).new hD,q0d,Bf _⟩ (λi ys G q=>by obtain⟨_,sm,u,_⟩:=q;exact⟨u,SqL.of (sm _ _ t1)⟩) ?_ ?_
  ·rintro i ys G x hx ⟨rfl,sm,u,hi⟩;obtain⟨T1,p,rfl,F,W⟩:=t2.get hx;have hi':=(As.mp F).1;refine⟨T1,_,rfl,SqT.of (sm _ _ W),rfl,_,_,rfl,_,_,rfl,rfl,q4b,?_⟩;refine⟨_,rfl,.inl ⟨rfl,_,rfl,?_⟩⟩;have hg:=q6y ((parse [] l).take i);rw[Dg] at hg;cases p with
   |tx t =>
    refine iteF ⟨?_,sm,u,hi'⟩;rw[q5q F];show vG _=vG (_++[]);rw[Dq]
   |gp c =>
    refine iteT ⟨_,rfl,u,TX.small' (by rw[Af];lia),?_,sm.put hD,q0d,hi'⟩;rw[q5q F];show _=(gsOf _++[c]).map _;rw[Au];rfl
  rintro ys H3 ⟨rfl,a0,u,_⟩;rw[Af,a8,Dj] at u;have a9:=Z.same a0;have b0:=a6.same a0;obtain⟨Us,u1,u2⟩:=b0.ex;have b9:=q6y (parse [] l)
  with_reducible refine gZ λb3 U=>?_
  refine⟨_,rfl,.inl ⟨M,rfl,⟨_,SqL.of u1⟩,?_⟩⟩;refine q3z (λi I G=>∃x8,I=[some (.ref R),some (.str kd),some (.str (mk l)),some (.str (mk (flatP qs))),some (.int st),some (.ref L),some (.ref M),some (.ref D),x8]/\G=H3/\∀j q,j<i->qs[j]?=some q->¬Bdp kd (gsOf (parse [] l)) q) ⟨none,rfl,rfl,λj q z=>absurd z (Xq j)⟩ (λi I G _ q=>by obtain⟨_,_,e,_⟩:=q;subst e;exact SqL.of u1) ?_ ?_
  ·rintro i x I G hx ⟨x8,rfl,rfl,a1⟩;obtain⟨T1,b1,rfl⟩:∃T,Us[i]?=some T/\x=.ref T:=by
    cases hz:Us[i]? with
    |none=>grind
    |some T=>grind
   obtain⟨p,F,W⟩:=u2.get b1;have a2:=wp.ok p (Bd F);by_cases O:Bdp kd (gsOf (parse [] l)) p
   ·exact .inr ⟨_,rfl,_,rfl,_,rfl,T1,D,p,gsOf (parse [] l),kd,rfl,W,a2,u,by lia,O,a9.up⟩
   ·refine .inl ⟨_,rfl,_,rfl,_,rfl,T1,D,p,gsOf (parse [] l),kd,rfl,W,u,by lia,(ask_or kd _ a2).resolve_right O,⟨_,rfl,rfl,λj q hj hq=>?_⟩⟩;rcases Nat.lt_or_eq_of_le (Nat.le_of_lt_succ hj) with z|z
    ·exact a1 j q z hq
    ·grind
  ·rintro I G ⟨x8,rfl,rfl,a3⟩;obtain⟨q,hq,O⟩:=ng;obtain⟨j,hj,e⟩:=List.mem_iff_getElem.mp hq;have c0:=u2.len;subst U;exact absurd O (a3 j q (by rw[Af];lia) (by rw[Bt hj,e]))
noncomputable def sow(rows:List Rw)(rs:List RD):List Rw->(Pth->Nat->Nat)->List Mv->Sum (Pth×Pth) (List Mv)
 |[],_,ms=>.inr ms
 |r::R,f,ms=>match pick (f r.1.dropLast) (r.1.getLastD []) r.2 rs 0 with
  |none=>sow rows rs R f ms
  |some x=>match plG rows r.1 x.2 with
   |some y=>sow rows rs R (bump f r.1.dropLast x.1) (ms++[(r.1,y)])
   |none=>.inl (r.1,x.2)
noncomputable def Srt(rows rs:List Rw):Prop:=rs.Perm rows/\(rs.map (·.1)).Pairwise (λa b=>pLt b a=false)
noncomputable def f0:Pth->Nat->Nat:=λ_ _=>0
inductive RK where
 |ok (r:RD)
 |bad (d:Dv)
noncomputable def RkAt(K:Ah)(H:Hp)(R:Addr):RK->Prop
 |.ok r=>RuleAt K H R r.kd r.l r.qs (r.st:Int)
 |.bad d=>∃kd l tt st,H R=some (.tup [.str kd,.str (mk l),.str (mk tt),.int st])/\BdR kd l tt d
def RkAt.same(h:RkAt K H R k)(s:Same H H'):RkAt K H' R k:=by
 cases k with
 |ok r=>exact RuleAt.same h s
 |bad d=>obtain⟨kd,l,tt,st,a,b⟩:=h;exact⟨kd,l,tt,st,s _ _ a,b⟩
structure RkL (K:Ah) (H:Hp) (L:Addr) (ks:List RK):Prop where
 ex:∃Rs:List Addr,H L=some (.lst (Rs.map V.ref))/\Rs.length=ks.length/\∀(i:Nat) (R:Addr) (k:RK),Rs[i]?=some R->ks[i]?=some k->RkAt K H R k
 ok:∀r,RK.ok r∈ks->ROk r
def RkL.same(h:RkL K H L ks)(s:Same H H'):RkL K H' L ks:=by obtain⟨f,g,j,o⟩:=h.ex;exact⟨⟨f,s _ _ g,j,λi R k a b=>(o i R k a b).same s⟩,h.ok⟩
noncomputable def RK.due:RK->Option Dv
 |.ok _=>none
 |.bad d=>some d
noncomputable def RK.rd:RK->Option RD
 |.ok r=>some r
 |.bad _=>none
noncomputable def DueW(rows:List Rw)(q:Pth)(ks:List RK)(d:Dv):Prop:=match ks.findSome? RK.due with
 |some d0=>d=d0
 |none=>if q=[]\/(q,(none:Option Int))∈rows then ∀sr,Srt rows sr->(match sow rows (ks.filterMap RK.rd) (sr.filter (benB q)) f0 [] with|.inl x=>d=.plc x.1 x.2|.inr _=>d=.ok) else d=.drw q
def x4i{ks:List RK}(hk:ks[i]?=some k):ks=ks.take i++k::ks.drop (i+1):=by
 have:=Nc i ks;rw[q2k hk] at this;exact this.symm
def fs_at{ks:List RK}(h:(ks.take i).findSome? RK.due=none)(hk:ks[i]?=some (.bad d)):ks.findSome? RK.due=some d:=by
 rw[x4i hk,Nh,h];rfl
def x7r{ks:List RK}(h:(ks.take i).findSome? RK.due=none)(hk:ks[i]?=some (.ok r)):(ks.take (i+1)).findSome? RK.due=none:=by
 rw[Gf,hk,Nh,h];rfl
theorem x5k:∀{ks:List RK},ks.findSome? RK.due=none->ks=(ks.filterMap RK.rd).map RK.ok
 |[],_=>rfl
 |.ok r::ks,h=>by
  show RK.ok r::ks=RK.ok r::(ks.filterMap RK.rd).map RK.ok;rw[<- x5k (ks:=ks) h]
 |.bad d::ks,h=>by cases h
structure CallsWi (P:Ak) (w:World) (K:Ah) (mg:Str->Option Value) (base:Heap) (c Cp Ct Cr Cd Cn:Addr):Prop where
 ask_ruleX:CalX P w K mg base "ask_rule" 9 Y8 (spAskRuleX Cp Ct Cr Cd Cn)
 e_NoDrawer:CalE P w K mg base "NoDrawer" Cd 1 Z9 (spIniP Cd "path")
 ask_rule:Cal P w K mg base "ask_rule" 7 Y8 (spAskRule K)
 m_is_drawer:MCal P w K mg base c "is_drawer" 1 Z9 (spIsDrawer c)
 rows_beneath:Cal P w K mg base "rows_beneath" 3 Y2 (spBen c)
 told_texts:Cal P w K mg base "told_texts" 9 Za (spTold P w K)
 place_of:CalX P w K mg base "place_of" 3 Zj (spPlace c Cn)
noncomputable def spWi(K:Ah)(c Cp Ct Cr Cd Cn:Addr):Sp:=λvs H Q E=>∃h d p L bl rows q ks du,vs=[.ref h,.ref p,.ref L]/\HallAt c H h d bl rows/\Hl bl rows/\rows.length<=30/\H p=some (.tup (vP q))/\PB q/\RkL K H L ks/\DueW rows q ks du /\
 (du=.ok->∀G H',Same H H'->(∃xs,H' G=some (.lst xs))->Q (.ref G) H')/\Rsd Cp Ct Cr Cd Cn H E du
noncomputable abbrev q3v:Stmt:=top 65
def sc_wishes_of:FnScope ["hall", "path", "rules", "rule", "wishes", "counted", "thing", "mark", "texts"] Zq (defScope q3v):=by trivial
set_option maxHeartbeats 40000000 in
def z3n{c Cp Ct Cr Cd Cn:Addr}(D:Df K mg "wishes_of" q3v Zq)(T:Txt mg)(C:CallsWi P w K mg base c Cp Ct Cr Cd Cn):CalX P w K mg base "wishes_of" 11 Zq (spWi K c Cp Ct Cr Cd Cn):=by
 refine D.calX sc_wishes_of (λvs H Q E h=>?_) (λf e4 A outer s H vs Q E Y h=>?_)
 ·obtain⟨h,d,p,L,bl,rows,q,ks,du,rfl,_⟩:=h;rfl
 ·obtain⟨h,d,p,L,bl,rows,q,ks,du,rfl,hh,hl,e7,hp,b4,rk,F,k,kE⟩:=h;have lq:Low q:=λn hn=>(b4.all n hn).2
  refine⟨_,(q0b (q1u passDef rfl (@q5u _ _ _ _ K rfl (pv 2)) (q0n (i:=3) sc_wishes_of.nd rfl (by trivial)) (q0e (q0u (q4r (pe_c C.ask_rule Y (q0a (pv 3) q0c)) (q5m C.ask_ruleX Y accX (q0a (pv 3) q0c)))))) (q0b (q0s (z7u (@q9x _ _ _ K rfl (pe_m C.m_is_drawer Y (pv 0) (q0a (pv 1) q0c)) (λ_=>rfl))) (q0e (z4k C.e_NoDrawer Y accX rfl (q0a (pv 1) q0c))) q0j) (q0b (q0k (i:=4) sc_wishes_of.nd rfl (by trivial) (q1j q0c)) (q0b (q0k (i:=5) sc_wishes_of.nd rfl (by trivial) (x3n (pkA P w) rfl rfl)) (q0b (q1u passDef rfl (@q5u _ _ _ _ K rfl (pe_c C.rows_beneath Y (q0a (pv 0) (q0a (pv 1) q0c)))) (@q1q _ _ _ _ (2) _ K rfl rfl (q0p (q0n (i:=6) sc_wishes_of.nd rfl (by trivial)) (q0p (q0n (i:=7) sc_wishes_of.nd rfl (by trivial)) q1b)) (by rfl) (by rfl)) (q0b (q0k (i:=8) sc_wishes_of.nd rfl (by trivial) (pe_c C.told_texts Y (q0a (pv 6) (q0a (pv 7) (q0a (pv 2) (q0a (pv 5) q0c)))))) (q0e (q0s (q3i (q9k (pv 8))) (q0e (q0u (@bm_k _ _ _ _ _ _ _ _ _ _ _ _ K rfl Bi Ce Cf q1d (pv 4) (q0a (q0o (q0a (pv 6) (q0a (q5m C.place_of Y accX (q0a (pv 0) (q0a (pv 6) (q0a (pv 8) q0c)))) q0c))) q0c) (by rfl) (by rfl) (by rfl) (by rfl) (by rfl)))) q0j)))) (q0e (q0l (pv 4)))))))),?_⟩;obtain⟨Rs,r1,r2,r3⟩:=rk.ex;obtain⟨dx,hi⟩:=hh.i;unfold DueW at F
  with_reducible refine gE λe8 e9 b5 b6=>?_
  refine⟨_,rfl,.inl ⟨L,rfl,⟨_,SqL.of r1⟩,?_⟩⟩;refine q3z (xs:=Rs.map V.ref) (λi I O=>∃x3,I=[some (.ref h),some (.ref p),some (.ref L),x3,none,none,none,none,none]/\Same H O/\(ks.take i).findSome? RK.due=none) ⟨none,rfl,Same.refl H,rfl⟩ (λi I O _ q=>by obtain⟨_,_,sm,_⟩:=q;exact SqL.of (sm _ _ r1)) ?_ ?_
  ·rintro i x I O hx ⟨x3,rfl,sm,hn⟩;rw[Bm] at hx;obtain⟨R,hR,rfl⟩:=Ck.mp hx;have hi':i<ks.length:=by rw[<- r2];exact(As.mp hR).1
   have hk:=Bt hi';have ra:=r3 i R _ hR hk;generalize ks[i]=kk at hk ra;cases kk with
   |ok r =>
    have ra:RuleAt K H R r.kd r.l r.qs (r.st:Int):=ra;exact .inl ⟨_,rfl,R,_,_,_,_,rfl,ra.same sm,λH2 s2=>⟨_,rfl,sm.trans s2,x7r hn hk⟩⟩
   |bad d0 =>
    rw[fs_at hn hk] at F;have F:du=d0:=F;subst F;obtain⟨kd,l,tt,st,t1,t2⟩:=ra;exact .inr ⟨_,rfl,R,kd,l,tt,st,du,rfl,sm _ _ t1,t2,(kE.same sm).up⟩
  rintro I O ⟨x3,rfl,sm,hn⟩;rw[Af,r2,Dj] at hn;rw[hn] at F;have F:if q=[]\/(q,(none:Option Int))∈rows then _ else _:=F
  subst b6;refine⟨_,rfl,h,dx,_,rfl,sm _ _ hi,rfl,_,rfl,h,d,p,bl,rows,q,rfl,hh.same sm,sm _ _ hp,lq,hl.paths,λH1 bb s1 b7=>?_⟩;by_cases hq:q=[]\/(q,(none:Option Int))∈rows;rotate_left
  ·rw[if_neg hq] at F;subst F;have hb:bb=false:=by cases bb with|true=>exact absurd (b7.mp rfl) hq|false=>rfl
   rw[hb];refine⟨_,rfl,iteT ⟨_,rfl,λea S=>⟨ea,p,q,rfl,q0d,?_⟩⟩⟩;have J:=sm.trans s1;have se:=(Same.refl H1).new (o:=ExN (.ref Cd) none ea) S;refine⟨se _ _ (J _ _ hp),b4,λd hd c6=>⟨rfl,?_⟩⟩;obtain⟨dd,r1,r2⟩:=raised1 (f := "path") (v:=.ref p) hd c6;exact⟨dd,r1,kE ea _ p (q1y J S hd) (J.free S) r2 (q1y J S hd _ _ hp)⟩
  rw[if_pos hq] at F;rw[b7.mpr hq];have ru:RuL K H L (ks.filterMap RK.rd):=by
   have e:=x5k hn;refine⟨⟨Rs,r1,by have:=congrArg List.length e;rw[Af] at this;lia,λi R r a b=>?_⟩,λr Y=>rk.ok r (by rw[e];exact Aw.mpr ⟨r,Y,rfl⟩)⟩;exact r3 i R (.ok r) a (by rw[e,Bm,b];rfl)
  generalize ks.filterMap RK.rd=rs at ru F;refine⟨_,rfl,iteF ?_⟩;have J:=sm.trans s1;refine⟨by show 0<=sizeLine;decide,λG hG=>?_⟩;have s2:=J.new (o:=.lst []) hG;have a5:upd H1 G (.lst []) G=some (.lst []):=q0d;have c7:=J.free hG;generalize upd H1 G (.lst [])=H2 at s2 a5;intro U a6 b8;have s3:=s2.new (o:=PiO (pkA P w) U []) a6;have a8:Cnt (pkA P w) (upd H2 U (PiO (pkA P w) U [])) U f0 0:=Cnt.new b8;have a9:upd H2 U (PiO (pkA P w) U []) G=some (.lst []):=((Same.refl H2).new a6) _ _ a5;have c9:=s2.free a6;have b9:G≠U:=λz=>by rw[z,a6] at a5;cases a5
  generalize upd H2 U (PiO (pkA P w) U [])=H3 at s3 a8 a9;refine⟨_,rfl,_,rfl,h,d,p,bl,rows,q,rfl,hh.same s3,by lia,λr Y=>(hl.ok r Y).low,s3 _ _ hp,lq,λB zs sr H4 hB s4 rl pm sd ez=>?_⟩;have c0:Srt rows sr:=⟨pm,sd⟩
  have d1:G≠B:=λz=>by rw[<- z,a9] at hB;cases hB
  have d2:B≠U:=λz=>by obtain⟨ks,x,_⟩:=a8.ex;rw[z,x.at_] at hB;cases hB
  have d3:=s3.trans s4;have f1:zs.length<=30:=by
   have h1:=congrArg List.length ez;rw[Af] at h1;have h2:=List.length_filter_le (benB q) sr;have h3:=pm.length_eq;lia
  refine .inl ⟨B,rfl,⟨_,SqL.of rl.at_⟩,?_⟩;refine q3z (xs:=zs.map λz=>V.ref z.1) (λi I O=>∃x3 x6 x7 x8 ys g,I=[some (.ref h),some (.ref p),some (.ref L),x3,some (.ref G),some (.ref U),x6,x7,x8]/\Same H O/\RL O B zs/\ML O G ys/\Cnt (pkA P w) O U g i/\sow rows rs (sr.filter (benB q)) f0 []=sow rows rs ((sr.filter (benB q)).drop i) g (ys.map (·.2))/\ys.length<=i/\i<=zs.length) ⟨_,none,none,none,[],f0,rfl,d3,rl,ML.nil (s4 _ _ a9),a8.same s4,rfl,Bf _,Bf _⟩ (λi I O _ q=>by obtain⟨_,_,_,_,_,_,_,_,r,_⟩:=q;exact SqL.of r.at_) ?_ ?_
  ·rintro i x I O hx ⟨x3,x6,x7,x8,ys,g,rfl,Z,a0,a1,W,M,d4,d5⟩;rw[Bm] at hx;obtain⟨z,hz,rfl⟩:=Ck.mp hx;have d6:=Bd hz;have hi':=(As.mp hz).1;obtain⟨b,b1,b2⟩:=a0.pr z d6;have c1:(sr.filter (benB q))[i]?=some z.2:=by rw[<- ez,Bm,hz];rfl
   have d7:z.2∈rows:=pm.mem_iff.mp (Dw.mp (Bd c1)).1;have b0:=hl.ok _ d7;rw[q2k c1] at M;refine⟨z.1,_,rfl,SqT.of b1,rfl,_,_,rfl,_,_,rfl,rfl,?_⟩
   with_reducible refine gE λe2 e3 a2 a3=>?_
   refine⟨_,rfl,_,rfl,_,rfl,_,rfl,b,z.2.2,L,U,z.2.1,rs,g,i,rfl,b2,b0,ru.same Z,W,by lia,λa4 H6 s6=>?_,λj ts a4 X H6 hX k6 d8 d9=>?_⟩
   ·subst a2;subst a3;refine⟨_,rfl,_,rfl,iteF ⟨_,_,_,_,ys,g,rfl,Z.trans s6,a0.same s6,a1.same s6,⟨(W.same s6).ex.imp λks x=>⟨x.1,by lia,x.2.2⟩,λp j=>Gs (W.le p j)⟩,?_,by lia,hi'⟩⟩;rw[M,sow,a4]
   ·have s6:=k6.same Z c9;have a7:∀T xs,O T=some (.tup xs)->H6 T=some (.tup xs):=λT xs e=>k6 _ _ (λy=>by obtain⟨ks,x,_⟩:=W.ex;rw[y,x.at_] at e;cases e) e;have c2:RL H6 B zs:=⟨k6 _ _ d2 a0.at_,λz hz=>PR.same (a0.pr z hz) a7⟩
    have c3:ML H6 G ys:=⟨k6 _ _ b9 a1.at_,λz hz=>(a1.pr z hz).keep a7⟩
    have tok:TsOk ts:=x1h (q6c b0) (λj=>by have:=W.le z.2.1.dropLast j;lia) ru.ok a4;subst a3;refine⟨_,rfl,_,rfl,iteT ?_⟩;refine⟨_,rfl,.inl ⟨rfl,⟨_,SqL.of c3.at_⟩⟩,_,rfl,_,rfl,_,rfl,_,rfl,h,d,b,X,bl,rows,z.2.1,ts,rfl,hh.same s6,hl.paths,a7 _ _ b2,b0,d8,tok,λy hn a H7 s7 h7=>?_,λhn=>?_⟩
    ·refine⟨by show 2<=sizeLine;decide,λT1 c4=>?_⟩;have s8:=s7.new (o:=.tup [.ref b,.ref a]) c4;have c5:MT (upd H7 T1 (.tup [.ref b,.ref a])) T1 (z.2.1,y):=⟨b,a,q0d,s8 _ _ (a7 _ _ b2),((Same.refl H7).new c4) _ _ h7⟩
     generalize upd H7 T1 (.tup [.ref b,.ref a])=H8 at s8 c5;have b3:=c3.same s8;have k9:∀a u,a≠G->H8 a=some u->upd H8 G (.lst (ys.map (λz=>V.ref z.1)++[V.ref T1])) a=some u:=λa u n e=>by rw[q0f n];exact e
     have t9:∀T xs,H8 T=some (.tup xs)->upd H8 G (.lst (ys.map (λz=>V.ref z.1)++[V.ref T1])) T=some (.tup xs):=λT xs e=>k9 _ _ (λy=>by rw[y,b3.at_] at e;cases e) e;refine⟨G,_,_,rfl,rfl,b3.at_,TX.small' (by rw[Af];lia),?_⟩;subst a2;refine⟨_,_,_,_,ys++[(T1,(z.2.1,y))],bump g z.2.1.dropLast j,rfl,λa u e=>k9 a u (λy=>by rw[y,c7] at e;cases e) (s8 _ _ (s6 _ _ e)),⟨k9 _ _ (Bz d1) (s8 _ _ c2.at_),λz hz=>PR.same (c2.pr z hz) λT xs e=>t9 _ _ (s8 _ _ e)⟩,⟨by rw[Au];exact q0d,λz' e0=>?_⟩,?_,?_,by rw[Aj,Bk];lia,hi'⟩
     ·rcases Ba.mp e0 with y'|y'
      ·exact(b3.pr _ y').keep t9
      ·rw[Ao.mp y'];exact c5.keep t9
     ·have c8:=d9.same s8;exact⟨c8.ex.imp λks x=>⟨⟨k9 _ _ (Bz b9) x.1.at_,x.1.sys,x.1.len,λy hy=>(pkA P w).keep t9 (x.1.pk y hy)⟩,x.2⟩,c8.le⟩
     ·rw[M,sow,a4];show(match plG rows z.2.1 ts with|some y=>_|none=>_)=_;rw[hn,Au];rfl
    ·intro ea H7 s7 S rf f2 e1;cases e1;have e6:sow rows rs (sr.filter (benB q)) f0 []=.inl (z.2.1,ts):=by
      rw[M,sow,a4];show(match plG rows z.2.1 ts with|some y=>_|none=>_)=_;rw[hn]
     have F:=F sr c0;rw[e6] at F;have F:du=.plc z.2.1 ts:=F;subst F;exact kE ea H7 (s6.trans s7) (s6.free S) rf
  ·rintro I O ⟨x3,x6,x7,x8,ys,g,rfl,Z,a0,a1,W,M,d4,d5⟩;have e5:(sr.filter (benB q)).drop (zs.map λz=>V.ref z.1).length=[]:=by
    rw[<- ez,Af];exact Mu (by rw[Af];exact Ai _)
   rw[e5,sow] at M;have F:=F sr c0;rw[M] at F;subst b5;exact⟨_,rfl,k F G O Z ⟨_,a1.at_⟩⟩
end
end K
set_option maxHeartbeats 4000000
namespace K
open PySem L2 TX SB HM
section
variable{P:Ak}{w:World}{K:Ah}{mg:Str->Option Value}{base:Heap}
noncomputable def DvAt(H:Hp)(T:Addr):Dv->Prop
 |.ok=>H T=some (.tup [.str (Ab "wishes"),.bl true])
 |.pat i=>H T=some (.tup [.str (Ab "pattern"),.int (i:Int)])
 |.tem i=>H T=some (.tup [.str (Ab "template"),.int (i:Int)])
 |.rul=>H T=some (.tup [.str (Ab "rule"),.int 0])
 |.drw q=>∃p,H T=some (.tup [.str (Ab "drawer"),.ref p])/\H p=some (.tup (vP q))
 |.plc q ts=>∃p x,H T=some (.tup [.str (Ab "place"),.ref p,.ref x])/\H p=some (.tup (vP q))/\H x=some (.tup (vP ts))
def q3w{c:Addr}{f:List Value}:subE c f c=true:=by unfold subE;rw[Jg];simp
def q2t{c d e:Addr}(f:Dz K (.ref c) [.ref e]=some false)(hd:Fg K (.ref c) (.ref d)=some true):subE c (.ref d::bmV) e=false:=by
 have g:c≠e:=λz=>by subst z;simp[Dz,Fg] at f
 have h:d≠e:=λz=>by subst z;simp[Dz,hd] at f
 unfold subE;simp[bmV,Bz g,Bz h]
structure CallsTo (P:Ak) (w:World) (K:Ah) (mg:Str->Option Value) (base:Heap) (c Cp Ct Cr Cd Cn Ch Cw Cm Dn:Addr) (bm:List Value):Prop where
 wishes_of:CalX P w K mg base "wishes_of" 11 Zq (spWi K c Cp Ct Cr Cd Cn)
 g_HallError:mg "HallError" = some (.ref Dn)
 g_NoHall:mg "NoHall" = some (.ref Ch)
 g_NoWish:mg "NoWish" = some (.ref Cw)
 g_Meets:mg "Meets" = some (.ref Cm)
 g_NoPattern:mg "NoPattern" = some (.ref Cp)
 g_NoTemplate:mg "NoTemplate" = some (.ref Ct)
 g_NoRule:mg "NoRule" = some (.ref Cr)
 g_NoDrawer:mg "NoDrawer" = some (.ref Cd)
 g_NoPlace:mg "NoPlace" = some (.ref Cn)
 e_NoPattern:ECls K Cp bm
 e_NoTemplate:ECls K Ct bm
 e_NoRule:ECls K Cr bm
 e_NoDrawer:ECls K Cd bm
 e_NoPlace:ECls K Cn bm
 sTP:subE Ct bm Cp=false
 sRP:subE Cr bm Cp=false
 sRT:subE Cr bm Ct=false
 sDP:subE Cd bm Cp=false
 sDT:subE Cd bm Ct=false
 sDR:subE Cd bm Cr=false
 sNP:subE Cn bm Cp=false
 sNT:subE Cn bm Ct=false
 sNR:subE Cn bm Cr=false
 sND:subE Cn bm Cd=false
 isiP:EIsi K Cp
 isiT:EIsi K Ct
 isiR:EIsi K Cr
 isiD:EIsi K Cd
 isiN:EIsi K Cn
 getP:EGet K Cp "at"
 getT:EGet K Ct "at"
 getD:EGet K Cd "path"
 getN:EGet K Cn "path"
 getM:EGet K Cn "texts"
 oneP:Fg K (.ref Cp) (.ref Dn)=some true
 oneT:Fg K (.ref Ct) (.ref Dn)=some true
 oneR:Fg K (.ref Cr) (.ref Dn)=some true
 oneD:Fg K (.ref Cd) (.type "ValueError")=some true
 oneN:Fg K (.ref Cn) (.type "ValueError")=some true
 anyP:Dz K (.ref Cp) ([Ct,Cr,Cd,Cn,Ch].map Value.ref)=some false
 anyT:Dz K (.ref Ct) ([Cp,Cr,Cd,Cn,Ch].map Value.ref)=some false
 anyR:Dz K (.ref Cr) ([Cp,Ct,Cd,Cn,Ch].map Value.ref)=some false
 anyD:Dz K (.ref Cd) ([Cp,Ct,Cr,Cn,Ch].map Value.ref)=some false
 anyN:Dz K (.ref Cn) ([Cp,Ct,Cr,Cd,Cw,Cm].map Value.ref)=some false
noncomputable def spTo(K:Ah)(c:Addr):Sp:=λvs H Q _=>∃h d p L bl rows q ks du,vs=[.ref h,.ref p,.ref L]/\HallAt c H h d bl rows/\Hl bl rows/\rows.length<=30/\H p=some (.tup (vP q))/\PB q/\RkL K H L ks/\DueW rows q ks du/\∀T H',Same H H'->DvAt H' T du->Q (.ref T) H'
noncomputable def Cau(Cp Ct Cr Cd Cn:Addr)(H':Hp)(ea:Addr):Dv->Prop
 |.ok=>False
 |.pat i=>Rfd H' ea Cp "at" (.int (i:Int))
 |.tem i=>Rfd H' ea Ct "at" (.int (i:Int))
 |.rul=>H' ea=some (ExO (.ref Cr) none ea)
 |.drw q=>∃p,Rfd H' ea Cd "path" (.ref p)/\H' p=some (.tup (vP q))
 |.plc q ts=>RfN H' ea Cn q ts
def x7s{h j o Cd Cn:Addr}{H:Hp}{E:XK}{d:Dv}(k:∀f H',Same H H'->Cau h j o Cd Cn H' f d->E (.ref f) none H'):Rsd h j o Cd Cn H E d:=by
 cases d with
 |ok=>trivial
 |drw q=>exact λf H' p g _ r e=>k f H' g ⟨p,r,e⟩
 |_=>exact λf H' g _ r=>k f H' g r
noncomputable abbrev q6g:Stmt:=top 78
def sc_told_of:FnScope ["_law_hall", "_law_at", "_law_rules", "_law_told", "_law_lone", "e"] Z8 (defScope q6g):=by trivial
set_option maxHeartbeats 40000000 in
def z7p{c Cp Ct Cr Cd Cn Ch Cw Cm Dn:Addr}{bm:List Value}(D:Df K mg "_law_told_of" q6g Z8)(T:Txt mg)(C:CallsTo P w K mg base c Cp Ct Cr Cd Cn Ch Cw Cm Dn bm):Cal P w K mg base "_law_told_of" 12 Z8 (spTo K c):=by
 refine D.cal sc_told_of (λvs H Q E h=>?_) (λf b8 A outer s H vs Q E hr h=>?_)
 ·obtain⟨h,d,p,L,bl,rows,q,ks,du,rfl,_⟩:=h;rfl
 ·obtain⟨h,d,p,L,bl,rows,q,ks,du,rfl,hh,hl,a5,hp,a6,rk,dw,k⟩:=h;have g_HallError:=C.g_HallError;have g_NoHall:=C.g_NoHall;have g_NoWish:=C.g_NoWish;have g_Meets:=C.g_Meets;have g_NoPattern:=C.g_NoPattern;have g_NoTemplate:=C.g_NoTemplate;have g_NoRule:=C.g_NoRule;have g_NoDrawer:=C.g_NoDrawer;have g_NoPlace:=C.g_NoPlace;have e_NoPattern:=C.e_NoPattern;have e_NoTemplate:=C.e_NoTemplate;have e_NoRule:=C.e_NoRule;have e_NoDrawer:=C.e_NoDrawer;have e_NoPlace:=C.e_NoPlace;revert g_HallError g_NoHall g_NoWish g_Meets g_NoPattern g_NoTemplate g_NoRule g_NoDrawer g_NoPlace e_NoPattern e_NoTemplate e_NoRule e_NoDrawer e_NoPlace;generalize a7:Dn=B;generalize a8:Ch=J;generalize a9:Cw=a1;generalize b0:Cm=a2;generalize b1:Cp=j;generalize b2:Ct=g;generalize b3:Cr=M;generalize b4:Cd=u;generalize b5:Cn=F;intro g_HallError g_NoHall g_NoWish g_Meets g_NoPattern g_NoTemplate g_NoRule g_NoDrawer g_NoPlace e_NoPattern e_NoTemplate e_NoRule e_NoDrawer e_NoPlace;refine⟨_,(q0b (q0k (i:=3) sc_told_of.nd rfl (by trivial) (q0o (q0a q0i q0c))) (q0b (q0k (i:=4) sc_told_of.nd rfl (by trivial) q4y) (q0b (x6t rfl rfl (λ_ _=>(q0b (q0k (i:=3) sc_told_of.nd rfl (by trivial) (q0o (q0a q0i (q0a (q0q (isi_k K rfl) (by rfl) T.b_isinstance (by trivial) (q0a (q5m C.wishes_of hr AccX.of (q0a (pv 0) (q0a (pv 1) (q0a (pv 2) q0c)))) (q0a (z3t (by rfl) T.b_list (by trivial) (show RelV (.ty "list") _ from rfl)) q0c))) q0c)))) (q0e (q0k (i:=4) sc_told_of.nd rfl (by trivial) q4y))))
    (x0k (i:=5) K rfl sc_told_of.nd rfl rfl rfl g_NoPattern e_NoPattern (λ_=>(q0b (q0k (i:=3) sc_told_of.nd rfl (by trivial) (q0o (q0a q0i (q0a (z2o K rfl (pv 5)) q0c)))) (q0e (q0k (i:=4) sc_told_of.nd rfl (by trivial) (pe_j (q6h (z1d (q0q (q4k K rfl) (by rfl) T.b_isinstance (by trivial) (q0a (pv 5) (q0a (q0o (q0a (q0m (v:=.ref g) (by rfl) g_NoTemplate rfl) (q0a (q0m (v:=.ref M) (by rfl) g_NoRule rfl) (q0a (q0m (v:=.ref u) (by rfl) g_NoDrawer rfl) (q0a (q0m (v:=.ref F) (by rfl) g_NoPlace rfl) (q0a (q0m (v:=.ref J) (by rfl) g_NoHall rfl) q0c)))))) q0c)))) (q5b (q0q (q4k K rfl) (by rfl) T.b_isinstance (by trivial) (q0a (pv 5) (q0a (q0m (v:=.ref B) (by rfl) g_HallError rfl) q0c)))))))))) (x0k (i:=5) K rfl sc_told_of.nd rfl rfl rfl g_NoTemplate e_NoTemplate (λ_=>(q0b (q0k (i:=3) sc_told_of.nd rfl (by trivial) (q0o (q0a q0i (q0a (z2o K rfl (pv 5)) q0c)))) (q0e (q0k (i:=4) sc_told_of.nd rfl (by trivial) (pe_j (q6h (z1d (q0q (q4k K rfl) (by rfl) T.b_isinstance (by trivial) (q0a (pv 5) (q0a (q0o (q0a (q0m (v:=.ref j) (by rfl) g_NoPattern rfl) (q0a (q0m (v:=.ref M) (by rfl) g_NoRule rfl) (q0a (q0m (v:=.ref u) (by rfl) g_NoDrawer rfl) (q0a (q0m (v:=.ref F) (by rfl) g_NoPlace rfl) (q0a (q0m (v:=.ref J) (by rfl) g_NoHall rfl) q0c)))))) q0c)))) (q5b (q0q (q4k K rfl) (by rfl) T.b_isinstance (by trivial) (q0a (pv 5) (q0a (q0m (v:=.ref B) (by rfl) g_HallError rfl) q0c)))))))))) (x0k (i:=5) K rfl sc_told_of.nd rfl rfl rfl g_NoRule e_NoRule (λ_=>(q0b (q0k (i:=3) sc_told_of.nd rfl (by trivial) (q0o (q0a q0i (q0a q0g q0c)))) (q0e (q0k (i:=4) sc_told_of.nd rfl (by trivial) (pe_j (q6h (z1d (q0q (q4k K rfl) (by rfl) T.b_isinstance (by trivial) (q0a (pv 5) (q0a (q0o (q0a (q0m (v:=.ref j) (by rfl) g_NoPattern rfl) (q0a (q0m (v:=.ref g) (by rfl) g_NoTemplate rfl) (q0a (q0m (v:=.ref u) (by rfl) g_NoDrawer rfl) (q0a (q0m (v:=.ref F) (by rfl) g_NoPlace rfl) (q0a (q0m (v:=.ref J) (by rfl) g_NoHall rfl) q0c)))))) q0c)))) (q5b (q0q (q4k K rfl) (by rfl) T.b_isinstance (by trivial) (q0a (pv 5) (q0a (q0m (v:=.ref B) (by rfl) g_HallError rfl) q0c)))))))))) (x0k (i:=5) K rfl sc_told_of.nd rfl rfl rfl g_NoDrawer e_NoDrawer (λ_=>(q0b (q0k (i:=3) sc_told_of.nd rfl (by trivial) (q0o (q0a q0i (q0a (z2o K rfl (pv 5)) q0c)))) (q0e (q0k (i:=4) sc_told_of.nd rfl (by trivial) (pe_j (q6h (z1d (q0q (q4k K rfl) (by rfl) T.b_isinstance (by trivial) (q0a (pv 5) (q0a (q0o (q0a (q0m (v:=.ref j) (by rfl) g_NoPattern rfl) (q0a (q0m (v:=.ref g) (by rfl) g_NoTemplate rfl) (q0a (q0m (v:=.ref M) (by rfl) g_NoRule rfl) (q0a (q0m (v:=.ref F) (by rfl) g_NoPlace rfl) (q0a (q0m (v:=.ref J) (by rfl) g_NoHall rfl) q0c)))))) q0c)))) (q5b (q0q (q4k K rfl) (by rfl) T.b_isinstance (by trivial) (q0a (pv 5) (q0a (z3t (by rfl) T.b_ValueError (by trivial) (show RelV (.ty "ValueError") _ from rfl)) q0c)))))))))) (x0k (i:=5) K rfl sc_told_of.nd rfl rfl rfl g_NoPlace e_NoPlace (λ_=>(q0b (q0k (i:=3) sc_told_of.nd rfl (by trivial) (q0o (q0a q0i (q0a (z2o K rfl (pv 5)) (q0a (z2o K rfl (pv 5)) q0c))))) (q0e (q0k (i:=4) sc_told_of.nd rfl (by trivial) (pe_j (q6h (z1d (q0q (q4k K rfl) (by rfl) T.b_isinstance (by trivial) (q0a (pv 5) (q0a (q0o (q0a (q0m (v:=.ref j) (by rfl) g_NoPattern rfl) (q0a (q0m (v:=.ref g) (by rfl) g_NoTemplate rfl) (q0a (q0m (v:=.ref M) (by rfl) g_NoRule rfl) (q0a (q0m (v:=.ref u) (by rfl) g_NoDrawer rfl) (q0a (q0m (v:=.ref a1) (by rfl) g_NoWish rfl) (q0a (q0m (v:=.ref a2) (by rfl) g_Meets rfl) q0c))))))) q0c)))) (q5b (q0q (q4k K rfl) (by rfl) T.b_isinstance (by trivial) (q0a (pv 5) (q0a (z3t (by rfl) T.b_ValueError (by trivial) (show RelV (.ty "ValueError") _ from rfl)) q0c)))))))))) ph_nil)))))) (q0e (q0l (pe_j (q6u (@q9x _ _ _ K rfl (pv 4) (λ_=>rfl)) (pv 3) (q0o (q0a q0i q0c))))))))),?_⟩
  subst a7 a8 a9 b0 b1 b2 b3 b4 b5;refine⟨by show 1<=sizeLine;decide,λT0 b6=>?_⟩;have s0:=(Same.refl H).new (o:=.tup [.str (Ab "other")]) b6;generalize upd H T0 (.tup [.str (Ab "other")])=H0 at s0;refine⟨λW a4 U=>a4=[some (.ref h),some (.ref p),some (.ref L),some (.ref T0),some (.bl false),none]/\Same H0 U/\Cau Cp Ct Cr Cd Cn U W du,?_,?_⟩
  ·rintro W a4 U ⟨rfl,sm,ca⟩;have a3:∀{R:Addr} {O:Hp},Same U O->DvAt O R du->Q (.ref R) O:=λI e=>k _ _ (s0.trans (sm.trans I)) e;cases du with
   |ok=>exact ca.elim
   |pat i =>
    have rf:Rfd U W Cp "at" (.int (i:Int)):=ca;obtain⟨Z,X,q2⟩:=rf.ex;refine⟨Cp,_,some Z,X,C.e_NoPattern,?_⟩;rw[q3w];refine iteT ⟨_,rfl,W,Cp,Z,_,_,rfl,.inl X,q2,C.getP,rfl,by show 2<=sizeLine;decide,λR Y=>?_⟩;have S:=(Same.refl U).new (o:=.tup [.str (Ab "pattern"),.int (i:Int)]) Y;have t1:upd U R (.tup [.str (Ab "pattern"),.int (i:Int)]) R=some (.tup [.str (Ab "pattern"),.int (i:Int)]):=q0d;generalize upd U R (.tup [.str (Ab "pattern"),.int (i:Int)])=H1 at S t1;refine⟨λv O=>v=.bl true/\Same H1 O,?_,⟨_,rfl,by show 5<=sizeLine;decide,λU1 a0=>?_⟩⟩;rotate_left
    ·have I:=(Same.refl H1).new (o:=.tup ([Ct,Cr,Cd,Cn,Ch].map V.ref)) a0;exact⟨W,Cp,false,⟨_,rfl,.inr (.inr ⟨U1,[Ct,Cr,Cd,Cn,Ch],rfl,SqT.of q0d,C.anyP⟩)⟩,rf.err.same (S.trans I),C.isiP,false,rfl,true,rfl,iteT ⟨_,rfl,W,Cp,true,⟨_,rfl,.inl ⟨Dn,rfl,C.oneP⟩⟩,rf.err.same (S.trans I),C.isiP,rfl,I⟩⟩
    rintro v O ⟨rfl,I⟩;exact⟨λv H3=>v=.ref R/\H3=O,(λv H3 ⟨e1,e2⟩=>by rw[e1,e2];exact a3 (S.trans I) (I _ _ t1)),⟨_,rfl,true,rfl,iteT ⟨_,rfl,rfl,rfl⟩⟩⟩
   |tem i =>
    have rf:Rfd U W Ct "at" (.int (i:Int)):=ca;obtain⟨Z,X,q2⟩:=rf.ex;refine⟨Ct,_,some Z,X,C.e_NoTemplate,?_⟩;rw[C.sTP];refine iteF ⟨Ct,_,some Z,X,C.e_NoTemplate,?_⟩;rw[q3w];refine iteT ⟨_,rfl,W,Ct,Z,_,_,rfl,.inl X,q2,C.getT,rfl,by show 2<=sizeLine;decide,λR Y=>?_⟩;have S:=(Same.refl U).new (o:=.tup [.str (Ab "template"),.int (i:Int)]) Y;have t1:upd U R (.tup [.str (Ab "template"),.int (i:Int)]) R=some (.tup [.str (Ab "template"),.int (i:Int)]):=q0d;generalize upd U R (.tup [.str (Ab "template"),.int (i:Int)])=H1 at S t1;refine⟨λv O=>v=.bl true/\Same H1 O,?_,⟨_,rfl,by show 5<=sizeLine;decide,λU1 a0=>?_⟩⟩;rotate_left
    ·have I:=(Same.refl H1).new (o:=.tup ([Cp,Cr,Cd,Cn,Ch].map V.ref)) a0;exact⟨W,Ct,false,⟨_,rfl,.inr (.inr ⟨U1,[Cp,Cr,Cd,Cn,Ch],rfl,SqT.of q0d,C.anyT⟩)⟩,rf.err.same (S.trans I),C.isiT,false,rfl,true,rfl,iteT ⟨_,rfl,W,Ct,true,⟨_,rfl,.inl ⟨Dn,rfl,C.oneT⟩⟩,rf.err.same (S.trans I),C.isiT,rfl,I⟩⟩
    rintro v O ⟨rfl,I⟩;exact⟨λv H3=>v=.ref R/\H3=O,(λv H3 ⟨e1,e2⟩=>by rw[e1,e2];exact a3 (S.trans I) (I _ _ t1)),⟨_,rfl,true,rfl,iteT ⟨_,rfl,rfl,rfl⟩⟩⟩
   |rul =>
    have rf:U W=some (ExO (.ref Cr) none W):=ca;have er:∀{O:Hp},Same U O->Err O W Cr:=λ{O} s=>⟨none,.inl (s _ _ rf),.inl rfl⟩
    refine⟨Cr,_,none,rf,C.e_NoRule,?_⟩;rw[C.sRP];refine iteF ⟨Cr,_,none,rf,C.e_NoRule,?_⟩;rw[C.sRT];refine iteF ⟨Cr,_,none,rf,C.e_NoRule,?_⟩;rw[q3w];refine iteT ⟨by show 2<=sizeLine;decide,λR Y=>?_⟩;have S:=(Same.refl U).new (o:=.tup [.str (Ab "rule"),.int 0]) Y;have t1:upd U R (.tup [.str (Ab "rule"),.int 0]) R=some (.tup [.str (Ab "rule"),.int 0]):=q0d;generalize upd U R (.tup [.str (Ab "rule"),.int 0])=H1 at S t1;refine⟨λv O=>v=.bl true/\Same H1 O,?_,⟨_,rfl,by show 5<=sizeLine;decide,λU1 a0=>?_⟩⟩;rotate_left
    ·have I:=(Same.refl H1).new (o:=.tup ([Cp,Ct,Cd,Cn,Ch].map V.ref)) a0;exact⟨W,Cr,false,⟨_,rfl,.inr (.inr ⟨U1,[Cp,Ct,Cd,Cn,Ch],rfl,SqT.of q0d,C.anyR⟩)⟩,er (S.trans I),C.isiR,false,rfl,true,rfl,iteT ⟨_,rfl,W,Cr,true,⟨_,rfl,.inl ⟨Dn,rfl,C.oneR⟩⟩,er (S.trans I),C.isiR,rfl,I⟩⟩
    rintro v O ⟨rfl,I⟩;exact⟨λv H3=>v=.ref R/\H3=O,(λv H3 ⟨e1,e2⟩=>by rw[e1,e2];exact a3 (S.trans I) (I _ _ t1)),⟨_,rfl,true,rfl,iteT ⟨_,rfl,rfl,rfl⟩⟩⟩
   |drw X =>
    obtain⟨p1,rf,b7⟩:=ca;obtain⟨Z,X,q2⟩:=rf.ex;refine⟨Cd,_,some Z,X,C.e_NoDrawer,?_⟩;rw[C.sDP];refine iteF ⟨Cd,_,some Z,X,C.e_NoDrawer,?_⟩;rw[C.sDT];refine iteF ⟨Cd,_,some Z,X,C.e_NoDrawer,?_⟩;rw[C.sDR];refine iteF ⟨Cd,_,some Z,X,C.e_NoDrawer,?_⟩;rw[q3w];refine iteT ⟨_,rfl,W,Cd,Z,_,_,rfl,.inl X,q2,C.getD,rfl,by show 2<=sizeLine;decide,λR Y=>?_⟩;have S:=(Same.refl U).new (o:=.tup [.str (Ab "drawer"),.ref p1]) Y;have t1:upd U R (.tup [.str (Ab "drawer"),.ref p1]) R=some (.tup [.str (Ab "drawer"),.ref p1]):=q0d;generalize upd U R (.tup [.str (Ab "drawer"),.ref p1])=H1 at S t1;refine⟨λv O=>v=.bl true/\Same H1 O,?_,⟨_,rfl,by show 5<=sizeLine;decide,λU1 a0=>?_⟩⟩;rotate_left
    ·have I:=(Same.refl H1).new (o:=.tup ([Cp,Ct,Cr,Cn,Ch].map V.ref)) a0;exact⟨W,Cd,false,⟨_,rfl,.inr (.inr ⟨U1,[Cp,Ct,Cr,Cn,Ch],rfl,SqT.of q0d,C.anyD⟩)⟩,rf.err.same (S.trans I),C.isiD,false,rfl,true,rfl,iteT ⟨_,rfl,W,Cd,true,⟨_,rfl,.inr (.inl ⟨_,rfl,C.oneD⟩)⟩,rf.err.same (S.trans I),C.isiD,rfl,I⟩⟩
    rintro v O ⟨rfl,I⟩;exact⟨λv H3=>v=.ref R/\H3=O,(λv H3 ⟨e1,e2⟩=>by rw[e1,e2];exact a3 (S.trans I) ⟨p1,I _ _ t1,I _ _ (S _ _ b7)⟩),⟨_,rfl,true,rfl,iteT ⟨_,rfl,rfl,rfl⟩⟩⟩
   |plc X ts =>
    obtain⟨Z,A1,B1,X,q2,q3,q4⟩:=RfN.ex ca;have er:∀{O:Hp},Same U O->Err O W Cn:=λ{O} s=>⟨some Z,.inl (s _ _ X),.inr ⟨Z,_,rfl,s _ _ q2⟩⟩
    refine⟨Cn,_,some Z,X,C.e_NoPlace,?_⟩;rw[C.sNP];refine iteF ⟨Cn,_,some Z,X,C.e_NoPlace,?_⟩;rw[C.sNT];refine iteF ⟨Cn,_,some Z,X,C.e_NoPlace,?_⟩;rw[C.sNR];refine iteF ⟨Cn,_,some Z,X,C.e_NoPlace,?_⟩;rw[C.sND];refine iteF ⟨Cn,_,some Z,X,C.e_NoPlace,?_⟩;rw[q3w];refine iteT ⟨_,rfl,W,Cn,Z,_,_,rfl,.inl X,q2,C.getN,rfl,_,rfl,W,Cn,Z,_,_,rfl,.inl X,q2,C.getM,rfl,by show 3<=sizeLine;decide,λR Y=>?_⟩;have S:=(Same.refl U).new (o:=.tup [.str (Ab "place"),.ref A1,.ref B1]) Y;have t1:upd U R (.tup [.str (Ab "place"),.ref A1,.ref B1]) R=some (.tup [.str (Ab "place"),.ref A1,.ref B1]):=q0d;generalize upd U R (.tup [.str (Ab "place"),.ref A1,.ref B1])=H1 at S t1;refine⟨λv O=>v=.bl true/\Same H1 O,?_,⟨_,rfl,by show 6<=sizeLine;decide,λU1 a0=>?_⟩⟩;rotate_left
    ·have I:=(Same.refl H1).new (o:=.tup ([Cp,Ct,Cr,Cd,Cw,Cm].map V.ref)) a0;exact⟨W,Cn,false,⟨_,rfl,.inr (.inr ⟨U1,[Cp,Ct,Cr,Cd,Cw,Cm],rfl,SqT.of q0d,C.anyN⟩)⟩,er (S.trans I),C.isiN,false,rfl,true,rfl,iteT ⟨_,rfl,W,Cn,true,⟨_,rfl,.inr (.inl ⟨_,rfl,C.oneN⟩)⟩,er (S.trans I),C.isiN,rfl,I⟩⟩
    rintro v O ⟨rfl,I⟩;exact⟨λv H3=>v=.ref R/\H3=O,(λv H3 ⟨e1,e2⟩=>by rw[e1,e2];exact a3 (S.trans I) ⟨A1,B1,I _ _ t1,I _ _ (S _ _ q3),I _ _ (S _ _ q4)⟩),⟨_,rfl,true,rfl,iteT ⟨_,rfl,rfl,rfl⟩⟩⟩
  ·refine⟨_,rfl,_,rfl,_,rfl,h,d,p,L,bl,rows,q,ks,du,rfl,hh.same s0,hl,a5,s0 _ _ hp,a6,rk.same s0,dw,λe G H1 S ⟨xs,hG⟩=>?_,x7s λW U s' ca b9 ez=>?_⟩
   ·subst e;refine⟨_, "list",_,true,rfl,.lst hG,rfl,by show 2<=sizeLine;decide,λR Y=>?_⟩;exact⟨λv H3=>v=.ref R/\H3=_,(λv H3 ⟨e1,e2⟩=>by rw[e1,e2];exact k _ _ (s0.trans (S.new Y)) q0d),⟨_,rfl,true,rfl,iteT ⟨_,rfl,rfl,rfl⟩⟩⟩
   ·cases ez;exact⟨rfl,s',ca⟩
end
end K
set_option maxHeartbeats 4000000
namespace K
open PySem L2 TX SB HM
section
variable{P:Ak}{w:World}{K:Ah}{mg:Str->Option Value}{base:Heap}
noncomputable def wS:List Nat:=[115,108,105,112]
noncomputable def wD:List Nat:=[100,114,97,119,101,114]
noncomputable def wI:List Nat:=[105,110]
noncomputable def wO:List (List Nat):=[wS,wD,[110,111],[97]]
noncomputable def three(m:Int):List Rw:=[([wS],some 1),([wD],none),([wD,wI],some m)]
noncomputable def kpB(r:Rw):Bool := !decide (lowN (r.1.headD [])∈wO)
def q8m{p:Pth}(h:p.dropLast≠[]):p.dropLast.headD []=p.headD []:=by
 match p,h with
 |[],h=>exact absurd rfl h
 |[_],h=>exact absurd rfl h
 |_::_::_,_=>rfl
def z3o{p:Pth}(h:p≠[])(e:p.dropLast=[]):p.getLastD []=p.headD []:=by
 match p,h,e with
 |[_],_,_=>rfl
def x1k{p q:Pth}(o:p≠[])(s:q≠[])(e:fold bl p=fold bl q):lowN (p.headD [])=lowN (q.headD []):=by
 cases bl with
 |false=>rw[show p=q from e]
 |true =>
  obtain⟨f,g⟩:=List.append_inj' e rfl;by_cases h:p.dropLast=[]
  ·rw[z3o o h,z3o s (f▸h)] at g;injection g
  ·have h':q.dropLast≠[]:=λz=>h (f.trans z);have j:=q8m h;rw[f,q8m h'] at j;rw[j]
def x1l(h:kpB r=true):¬lowN (r.1.headD [])∈wO:=by simpa[kpB] using h
def z7q(h:x∈three m):lowN (x.1.headD [])∈wO/\x.1≠[]:=by
 rcases Az.mp h with rfl|h
 ·exact⟨by decide,by simp⟩
 rcases Az.mp h with rfl|h
 ·exact⟨by decide,by simp⟩
 rw[Ao.mp h];exact⟨by show lowN wD∈wO;decide,by simp⟩
def z5a(h:isName n=true):okN n:=by
 have h:(decide (1<=n.length)&&(decide (n.length<=12)&&n.all λc=>decide (c∈NS)))=true:=h;simp only[Cz,decide_eq_true_eq,Eu] at h;exact⟨h.1,h.2.1,h.2.2⟩
def x1m(h:okN n):isName n=true:=by
 show(decide (1<=n.length)&&(decide (n.length<=12)&&n.all λc=>decide (c∈NS)))=true;simp only[Cz,decide_eq_true_eq,Eu];exact⟨h.one,h.few,h.all⟩
def okS:okN wS:=z5a (by trivial)
def okD:okN wD:=z5a (by trivial)
def okI:okN wI:=z5a (by trivial)
def hl34(hl:Hl bl rows):Hl bl (three m++rows.filter kpB):=by
 refine⟨λr g=>?_,?_,λr g=>?_⟩
 ·rcases Ba.mp g with h|h
  ·rcases Az.mp h with rfl|h
   ·exact⟨by simp,by decide,λn hn=>by rw[Ao.mp hn];exact okS⟩
   rcases Az.mp h with rfl|h
   ·exact⟨by simp,by decide,λn hn=>by rw[Ao.mp hn];exact okD⟩
   rw[Ao.mp h];exact⟨by simp,by show 2<=6;decide,λn hn=>by
    rcases Az.mp hn with rfl|hn
    ·exact okD
    ·rw[Ao.mp hn];exact okI⟩
  ·exact hl.ok r (Dw.mp h).1
 ·rw[Au];refine Qg.mpr ⟨by cases bl with|false=>show([[wS],[wD],[wD,wI]]:List Pth).Nodup;decide|true=>show([[lowN wS],[lowN wD],[wD,lowN wI]]:List Pth).Nodup;decide,(Oj.map _).nodup hl.nd,λa ha b s e=>?_⟩;obtain⟨x,u,rfl⟩:=Aw.mp ha;obtain⟨y,v,rfl⟩:=Aw.mp s;obtain⟨j,f⟩:=Dw.mp v;obtain⟨o,B⟩:=z7q u;rw[x1k B (hl.ok y j).ne e] at o;exact x1l f o
 ·rcases Ba.mp g with h|h
  ·rcases Az.mp h with rfl|h
   ·exact .inl rfl
   rcases Az.mp h with rfl|h
   ·exact .inl rfl
   rw[Ao.mp h];exact .inr (Co _ (by simp[three]))
  ·obtain⟨j,f⟩:=Dw.mp h;rcases hl.dr r j with z|z
   ·exact .inl z
   by_cases hd:r.1.dropLast=[]
   ·exact .inl hd
   refine .inr (Bw _ (Dw.mpr ⟨z,?_⟩));unfold kpB at f ⊢;rw[q8m hd];exact f
def mem34{rows:List Rw}(h:lowN (q.headD [])∈wO):(q,v)∈three m++rows.filter kpB↔(q,v)∈three m:=by
 refine⟨λz=>(Ba.mp z).resolve_right λy=>x1l (Dw.mp y).2 h,λz=>Co _ z⟩
def ben34{rows:List Rw}:(three m++rows.filter kpB).filter (benB [wD])=[([wD,wI],some m)]:=by
 rw[Hm];have e:(rows.filter kpB).filter (benB [wD])=[]:=by
  refine List.filter_eq_nil_iff.mpr λr j f=>?_;have g:=x1l (Dw.mp j).2;unfold benB at f;rw[Cz] at f;have h:=of_decide_eq_true f.2;match hr1:r.1,h with
  |a::t,h =>
   rw[hr1] at g;have ha:a=wD:=by grind
   exact g (by show lowN a∈wO;rw[ha];decide)
 rw[e];rfl
noncomputable def TeN(r:RD):Prop:=∀n cn ts,okN n->tellO r n cn=some ts->∃t,ts=[t]/\isName t=true
theorem z0x{n:List Nat}{m:Option Int}(hn:okN n):∀{rs:List RD} {j i:Nat} {ts:Pth},(∀r∈rs,TeN r)->pick f n m rs j=some (i,ts)->∃t,ts=[t]/\isName t=true
 |[],_,_,_,_,h=>by cases h
 |r::rs,j,i,ts,ht,h=>by
  unfold pick at h;have s:=@z0x f n m hn rs (j+1) i ts λx g=>ht x (Ap _ g);by_cases o:forB r.kd m=true
  ·rw[if_pos o] at h;cases e:tellO r n (r.st+f j) with
   |none=>simp_all
   |some us =>
    rw[e] at h;cases h;exact ht r Av n _ _ hn e
  ·simp_all
def x1n(h:isName t=true):plG rows q [t]=some (q.dropLast++[t]):=by
 unfold plG;have e:nmB [t]=true:=by unfold nmB;rw[Ub,h];rfl
 rw[if_neg (by rw[e];simp),if_pos (show[t].length=1 from rfl)]
theorem z0y(h:∀r∈rs,TeN r):∀{R:List Rw} {f:Pth->Nat->Nat} {ms:List Mv},(∀r∈R,okP r.1)->∃g,sow rows rs R f ms=.inr g
 |[],_,ms,_=>⟨ms,rfl⟩
 |r::R,f,ms,j=>by
  have ho':∀x∈R,okP x.1:=λx o=>j x (Ap _ o);rw[sow];cases e:pick (f r.1.dropLast) (r.1.getLastD []) r.2 rs 0 with
  |none=>exact z0y h ho'
  |some x =>
   obtain⟨t,s,u⟩:=z0x (q6c (j r Av)) h e;show ∃g,(match plG rows r.1 x.2 with|some y=>_|none=>_)=Sum.inr g;rw[s,x1n u];exact z0y h ho'
noncomputable def LaR(rows:List Rw)(r:RD)(ts:Pth):Prop:=(∀n cn,tellO r n cn=some ts)/\∀q,plG rows q ts=none
theorem z0z(g:∀r∈ds,TeN r)(la:LaR rows r0 ts):∀{R:List Rw} {f:Pth->Nat->Nat} {ms:List Mv} {x:Rw},(∀r∈R,okP r.1)->R.find? (λr=>forB r0.kd r.2)=some x->sow rows (r0::ds) R f ms=.inl (x.1,ts)
 |[],_,_,_,_,h=>by cases h
 |r::R,f,ms,x,j,h=>by
  have ho':∀x∈R,okP x.1:=λx o=>j x (Ap _ o);rw[sow];rw[Ca] at h;unfold pick;cases hf:forB r0.kd r.2 with
  |true =>
   rw[hf] at h;cases h;rw[if_pos rfl,la.1];show(match plG rows r.1 ts with|some y=>_|none=>_)=_;rw[la.2]
  |false =>
   rw[hf] at h;cases e:pick (f r.1.dropLast) (r.1.getLastD []) r.2 ds (0+1) with
   |none=>exact z0z g la ho' h
   |some x' =>
    obtain⟨t,s,u⟩:=z0x (q6c (j r Av)) g e;show(match plG rows r.1 x'.2 with|some y=>_|none=>_)=_;rw[s,x1n u];exact z0z g la ho' h
theorem x7t:∀{ks:List RK},(∀k∈ks,∃r,k=.ok r)->ks.findSome? RK.due=none
 |[],_=>rfl
 |k::ks,h=>by
  obtain⟨r,rfl⟩:=h k Av;exact x7t (ks:=ks) λx f=>h x (Ap _ f)
def x1o(rs:List RD):(rs.map RK.ok).findSome? RK.due=none:=x7t λk hk=>let ⟨r,_,e⟩:=Aw.mp hk;⟨r,e.symm⟩
theorem x1p:∀rs:List RD,(rs.map RK.ok).filterMap RK.rd=rs
 |[]=>rfl
 |r::rs=>by show r::(rs.map RK.ok).filterMap RK.rd=_;rw[x1p rs]
def x1q{rs:List RD}:DueW rows q (insN (rs.map RK.ok) n (.bad d)++tl') d:=by
 unfold DueW insN;have e:((rs.map RK.ok).take n).findSome? RK.due=none:=x7t λk hk=>let ⟨r,_,e⟩:=Aw.mp (Ih hk);⟨r,e.symm⟩;rw[Mi,Nh,e];rfl
def x7u{q:Pth}{rs:List RD}(h:¬(q=[]\/(q,(none:Option Int))∈rows)):DueW rows q (rs.map RK.ok) (.drw q):=by
 unfold DueW;rw[x1o];rw[if_neg h]
def x5l{rows:List Rw}{q:Pth}{rs:List RD}(j:∀r∈rows,okP r.1)(h:q=[]\/(q,(none:Option Int))∈rows)(o:∀r∈rs,TeN r):DueW rows q (rs.map RK.ok) .ok:=by
 unfold DueW;rw[x1o];rw[if_pos h,x1p];intro s f;obtain⟨u,e⟩:=z0y o λr g=>j r (f.1.mem_iff.mp (Dw.mp g).1);rw[e]
def x7v{q:Pth}(o:∀r∈rows,okP r.1)(h:q=[]\/(q,(none:Option Int))∈rows)(s:∀r∈ds,TeN r)(la:LaR rows r0 ts)(u:∀g,Srt rows g->∃x,(g.filter (benB q)).find? (λr=>forB r0.kd r.2)=some x/\x.1=p):DueW rows q ((r0::ds).map RK.ok) (.plc p ts):=by
 unfold DueW;rw[x1o];rw[if_pos h,x1p];intro g f;obtain⟨x,v,rfl⟩:=u g f;rw[z0z s la (λr j=>o r (f.1.mem_iff.mp (Dw.mp j).1)) v]
noncomputable def okB:Pc->Bool
 |.tx l=>decide (l≠[])&&l.all λc=>decide (c∈NS)
 |.gap k=>decide (1<=k)&&decide (k<=9)
 |.more k m=>(decide (1<=k)&&decide (k<=9))&&decide (m<10^9)
 |.into=>true
 |_=>false
def okB_ok(h:okB p=true):p.ok:=by
 cases p with
 |tx l =>
  have h:(decide (l≠[])&&l.all λc=>decide (c∈NS))=true:=h;simp only[Cz,decide_eq_true_eq,Eu] at h;exact h
 |gap k =>
  have h':1<=k/\k<=9:=by simpa[okB] using h
  exact h'
 |more k m =>
  have h:((decide (1<=k)&&decide (k<=9))&&decide (m<10^9))=true:=h;simp only[Cz,decide_eq_true_eq] at h;exact h
 |into=>trivial
 |_=>cases h
noncomputable def askB(kd:Str)(g:Nat):Pc->Bool
 |.tx _=>true
 |.gap k=>decide (1<=k)&&decide (k<=g)
 |.into=>decide (kd=Ab "slip")
 |_=>false
def x1r(h:askB kd gs.length p=true):AskOk kd gs p/\isMo p=false:=by
 cases p with
 |tx l=>exact⟨⟨(λ_ e=>by cases e),(λ_ _ e=>by cases e),(λe=>by cases e)⟩,rfl⟩
 |gap k=>exact⟨⟨(λ_ e=>by cases e;simpa[askB] using h),(λ_ _ e=>by cases e),(λe=>by cases e)⟩,rfl⟩
 |into=>exact⟨⟨(λ_ e=>by cases e),(λ_ _ e=>by cases e),(λ_=>of_decide_eq_true h)⟩,rfl⟩
 |_=>cases h
noncomputable def pcT:Pc->Bool
 |.tx _=>true
 |_=>false
noncomputable def wpB(ps:List Pc):Bool:=ps.all okB&&((List.range ps.length).all (λi => !(ps[i]?.any pcT&&ps[i+1]?.any pcT) && !(ps[i]?.any pcI&&(decide (i<1)||ps[i-1]?.any pcI)))&&(ps.getLast?.any (λp => !pcI p)&&decide ((flatP ps).length<=100)))
def q9i(h:wpB ps=true):WP ps:=by
 unfold wpB at h;simp only[Cz,Eu,decide_eq_true_eq,Si] at h;obtain⟨o,g,f,s⟩:=h;refine⟨(λe=>by rw[e] at f;cases f),λp u=>okB_ok (o p u),λi x y j v=>?_,λi e=>?_,λq e z=>?_,s⟩
 ·have:=(g i (As.mp j).1).1;rw[j,v] at this;cases this
 ·have:=(g i (As.mp e).1).2;rw[e] at this;simp only[Option.any_some,show pcI .into=true from rfl,Ug,Bool.not_eq_true',Bool.or_eq_false_iff,decide_eq_false_iff_not] at this;exact⟨Rb this.1,λz=>by rw[z] at this;exact absurd this.2 (by decide)⟩
 ·rw[e,z] at f;cases f
noncomputable def goodB(l:List Nat):Bool:=decide (l≠[])&&(l.all (λc=>decide (c∈GS\/c∈NS))&&(decide ((l.filter λc=>decide (c∈GS)).length<=9)&&decide (l.length<=1000)))
def z1a(h:goodB l=true):Good l:=by
 unfold goodB at h;simp only[Cz,decide_eq_true_eq,Eu] at h;exact⟨h.1,h.2.1,h.2.2.1,h.2.2.2⟩
noncomputable def rB(kd:Str)(l:List Nat)(qs:List Pc):Bool:=inV (.str kd) kinds3&&(goodB l&&(wpB qs&&(qs.all (askB kd (gsOf (parse [] l)).length)&&(decide ((qs.filter pcI).length<=10)&&decide (wsz qs<=100)))))
def z1b(b:rB r.kd r.l r.qs=true)(s:r.st<=100)(f:mk r.l=p)(g:mk (flatP r.qs)=t)(j:(r.st:Int)=st)(h:H R=some (.tup [.str r.kd,.str p,.str t,.int st])):RkAt K H R (.ok r):=by
 unfold rB at b;simp only[Cz,Eu,decide_eq_true_eq] at b;subst f g j;exact⟨h,b.1,z1a b.2.1,q9i b.2.2.1,by lia,by lia,λq o=>(x1r (b.2.2.2.1 q o)).1⟩
def q4w(b:rB r.kd r.l r.qs=true)(g:r.st<=100):ROk r:=by
 unfold rB at b;simp only[Cz,Eu,decide_eq_true_eq] at b;exact⟨by lia,b.2.2.2.2.1,λq f=>(x1r (b.2.2.2.1 q f)).2,(q9i b.2.2.1).ok,b.2.2.2.2.2⟩
def x1s(f:b<=n.length)(h:L n.length=true):far (.gp 42) n L b=some n.length:=by
 unfold far;rw[if_pos f,show n.length+1-b=(n.length-b)+1 by lia,q5v,show b+(n.length-b)=n.length by lia,h];rfl
def fit0(n:List Nat):fits n [] n.length=true:=decide_eq_true rfl
def fit1(f:b<=n.length):far (.gp 42) n (fits n []) b=some n.length:=x1s f (fit0 n)
def star1(n:List Nat):fits n [.gp 42] 0=true:=by
 show(far (.gp 42) n (fits n []) 0).isSome=true;rw[fit1 (Bf _)];rfl
def star2(n:List Nat):fits n [.gp 42,.gp 42] 0=true/\rd n [.gp 42,.gp 42] 0=[n,[]]:=by
 have e:far (.gp 42) n (fits n [.gp 42]) 0=some n.length:=x1s (Bf _) (by
  show(far (.gp 42) n (fits n []) n.length).isSome=true;rw[fit1 (Ai _)];rfl)
 refine⟨by show(far (.gp 42) n (fits n [.gp 42]) 0).isSome=true;rw[e];rfl,?_⟩;show[cut n 0 ((far (.gp 42) n (fits n [.gp 42]) 0).getD 0)]++([cut n ((far (.gp 42) n (fits n [.gp 42]) 0).getD 0) ((far (.gp 42) n (fits n []) ((far (.gp 42) n (fits n [.gp 42]) 0).getD 0)).getD 0)]++[])=_;rw[e];unfold cut;simp
def tell1(h:r.l=[42]):tellO r n cn=some (tellT (rd n [.gp 42] 0) cn r.qs):=by
 unfold tellO;rw[h];exact if_pos (star1 n)
def tell2(h:r.l=[42,42]):tellO r n cn=some (tellT [n,[]] cn r.qs):=by
 unfold tellO;rw[h,show parse [] [42,42]=[.gp 42,.gp 42] from rfl,if_pos (star2 n).1,(star2 n).2]
def rd_one(h:fits n ps 0=true)(f:(gsOf ps).length=1):∃g,rd n ps 0=[g]/\glue ps [g]=n:=by
 obtain⟨a,_,c,_⟩:=z9d n ps 0 h;obtain⟨g,f⟩:∃g,rd n ps 0=[g]:=by
  cases hr:rd n ps 0 with
  |nil=>grind
  |cons g r=>simp_all
 rw[f] at c;exact⟨g,f,c⟩
noncomputable def rDr(j:Nat):RD:=⟨Ab "drawer",[35],[.gap 1],j⟩
noncomputable def rIn':RD:=⟨Ab "all",[105,110],[.tx [111,117,116]],0⟩
def te_dr(j:Nat):TeN (rDr j):=λn u v hn h=>by
 unfold tellO at h;by_cases o:fits n (parse [] (rDr j).l) 0=true
 ·rw[if_pos o] at h;obtain⟨g,s,f⟩:=rd_one (ps:=[.gp 35]) o rfl;have f:g++[]=n:=f;rw[Dq] at f;rw[show parse [] (rDr j).l=[.gp 35] from rfl,s] at h;injection h with h;exact⟨n,by rw[<- h,<- f];rfl,x1m hn⟩
 ·grind
def te_in:TeN rIn':=λn g j hn h=>by
 unfold tellO at h;by_cases f:fits n (parse [] rIn'.l) 0=true
 ·rw[if_pos f] at h;injection h with h;exact⟨[111,117,116],by rw[<- h];rfl,by trivial⟩
 ·grind
def ok_dr(h:j<=100):ROk (rDr j):=q4w (r:=rDr j) (by show rB (Ab "drawer") [35] [.gap 1]=true;decide +kernel) h
def dr_at(h:j<=100)(e:H R=some (.tup [.str (Ab "drawer"),.str (Ab "#"),.str (Ab "{1}"),.int (j:Int)])):RkAt K H R (.ok (rDr j)):=z1b (r:=rDr j) (by show rB (Ab "drawer") [35] [.gap 1]=true;decide +kernel) h (by show mk [35]=_;decide +kernel) (by show mk (flatP [.gap 1])=_;decide +kernel) rfl e
def ok_in:ROk rIn':=q4w (by trivial) (by decide)
def in_at(e:H R=some (.tup [.str (Ab "all"),.str (Ab "in"),.str (Ab "out"),.int 0])):RkAt K H R (.ok rIn'):=z1b (r:=rIn') (by trivial) (by decide) (by trivial) (by trivial) rfl e
structure LaOk (r:RD) (ts:Pth):Prop where
 ok:ROk r
 kd:r.kd=Ab "all" \/ r.kd=Ab "slip"
 la:∀(rows:List Rw) (m:Int),LaR (three m++rows.filter kpB) r ts
 low:Low ts
def z6f(h:6<ts.length\/nmB ts=false):plG rows q ts=none:=by
 unfold plG;rw[if_pos h]
noncomputable def rL0:RD:=⟨Ab "all",[42],[.tx [97,98,99,100,101,102,103,104,105,106,107,108,109]],0⟩
noncomputable def rL1:RD:=⟨Ab "all",[42,42],[.gap 2],0⟩
noncomputable def rL2:RD:=⟨Ab "slip",[42],[.tx [97],.into,.tx [98],.into,.tx [99],.into,.tx [100],.into,.tx [101],.into,.tx [102],.into,.tx [103]],0⟩
noncomputable def rL3:RD:=⟨Ab "slip",[42],[.tx [78,111],.into,.tx [120]],0⟩
noncomputable def rL4:RD:=⟨Ab "slip",[42,42],[.gap 2,.into,.tx [120]],0⟩
def la0:LaOk rL0 [[97,98,99,100,101,102,103,104,105,106,107,108,109]]:=⟨q4w (by trivial) (by decide),.inl rfl,λrows m=>⟨λn f=>tell1 rfl,λq=>z6f (.inr (by trivial))⟩,by unfold Low;decide⟩
def la1:LaOk rL1 [[]]:=⟨q4w (by trivial) (by decide),.inl rfl,λrows m=>⟨λn f=>tell2 rfl,λq=>z6f (.inr (by trivial))⟩,by unfold Low;decide⟩
def tl2(ts:List (List Nat))(cn:Nat):tellT ts cn rL2.qs=[[97],[98],[99],[100],[101],[102],[103]]:=by
 unfold tellT rL2;simp[stepT,pcI,pcText]
def la2:LaOk rL2 [[97],[98],[99],[100],[101],[102],[103]]:=⟨q4w (by trivial) (by decide),.inr rfl,λrows m=>⟨λn f=>(tell1 rfl).trans (by rw[tl2]),λq=>z6f (.inl (by decide))⟩,by unfold Low;decide⟩
def la3:LaOk rL3 [[78,111],[120]]:=⟨q4w (by trivial) (by decide),.inr rfl,λrows m=>⟨λn f=>tell1 rfl,λq=>by
 unfold plG;rw[if_neg (by
  rintro(z|z)
  ·simp_all
  ·exact absurd z (by trivial)),if_neg (by decide)]
 have h:lowN (([[78,111]]:Pth).headD [])∈wO:=by decide
 refine if_neg λz=>?_;have z:=(mem34 h).mp z;rcases Az.mp z with z|z
 ·grind
 rcases Az.mp z with z|z
 ·exact absurd z (by decide)
 have z:=Ao.mp z;injection z with z _;exact absurd z (by decide)⟩,by unfold Low;decide⟩
def la4:LaOk rL4 [[],[120]]:=⟨q4w (by trivial) (by decide),.inr rfl,λrows m=>⟨λn f=>tell2 rfl,λq=>z6f (.inr (by trivial))⟩,by unfold Low;decide⟩
section
variable{X:Cx}{a b c:Str}{i:Int}{k1 k2 k3 k4 k:Nat}{p1 p2 p3 p4 p:Pos}
def t_0:PE X (.Tuple [] k p) (tTup tNil):=q0o q0c
def t_1:PE X (.Tuple [.Constant (.str a) k1 p1] k p) (tTup (tCons (tC (.str a)) tNil)):=q0o (q0a q0i q0c)
def t_2:PE X (.Tuple [.Constant (.str a) k1 p1,.Constant (.int i) k2 p2] k p) (tTup (tCons (tC (.str a)) (tCons (tC (.int i)) tNil))):=q0o (q0a q0i (q0a q0g q0c))
def t_s2:PE X (.Tuple [.Constant (.str a) k1 p1,.Constant (.str b) k2 p2] k p) (tTup (tCons (tC (.str a)) (tCons (tC (.str b)) tNil))):=q0o (q0a q0i (q0a q0i q0c))
def t_4:PE X (.Tuple [.Constant (.str a) k1 p1,.Constant (.str b) k2 p2,.Constant (.str c) k3 p3,.Constant (.int i) k4 p4] k p) (tTup (tCons (tC (.str a)) (tCons (tC (.str b)) (tCons (tC (.str c)) (tCons (tC (.int i)) tNil))))):=q0o (q0a q0i (q0a q0i (q0a q0i (q0a q0g q0c))))
end
noncomputable def Dv.lit:Dv->Bool
 |.pat i=>decide (i<=2)
 |.tem i=>decide (i<=2)
 |.rul=>true
 |_=>false
structure PrAt (K:Ah) (H:Hp) (T:Addr) (d:Dv):Prop where
 ex:∃A B,H T=some (.tup [.ref A,.ref B])/\RkAt K H A (.bad d)/\DvAt H B d
 dd:d.lit=true
def DvAt.keep{H H':Hp}{T:Addr}{d:Dv}(h:DvAt H T d)(s:∀T xs,H T=some (.tup xs)->H' T=some (.tup xs)):DvAt H' T d:=by
 cases d with
 |drw q=>obtain⟨p,a,b⟩:=h;exact⟨p,s _ _ a,s _ _ b⟩
 |plc q ts=>obtain⟨p,x,a,b,c⟩:=h;exact⟨p,x,s _ _ a,s _ _ b,s _ _ c⟩
 |_=>exact s _ _ h
def DvAt.same{H H':Hp}{T:Addr}{d:Dv}(h:DvAt H T d)(s:Same H H'):DvAt H' T d:=h.keep λT f e=>s _ _ e
def PrAt.keep{H H':Hp}{T:Addr}{d:Dv}(h:PrAt K H T d)(s:∀T xs,H T=some (.tup xs)->H' T=some (.tup xs)):PrAt K H' T d:=by obtain⟨A,B,a,⟨kd,l,tt,st,f,g⟩,c⟩:=h.ex;exact⟨⟨A,B,s _ _ a,⟨kd,l,tt,st,s _ _ f,g⟩,c.keep s⟩,h.dd⟩
def PrAt.same{H H':Hp}{T:Addr}{d:Dv}(h:PrAt K H T d)(s:Same H H'):PrAt K H' T d:=h.keep λT f e=>s _ _ e
def q6o{H:Hp}{A B T:Addr}{kd p t f:Str}{st i:Int}{l tt:List Nat}{d:Dv}(j:H A=none)(s:upd H A (.tup [.str kd,.str p,.str t,.int st]) B=none)(u:upd (upd H A (.tup [.str kd,.str p,.str t,.int st])) B (.tup [.str f,.int i]) T=none)(v:mk l=p)(C:mk tt=t)(D:BdR kd l tt d)(hd:∀(H:Hp) (T:Addr),H T=some (.tup [.str f,.int i])->DvAt H T d)(dl:d.lit=true):
  PrAt K (upd (upd (upd H A (.tup [.str kd,.str p,.str t,.int st])) B (.tup [.str f,.int i])) T (.tup [.ref A,.ref B])) T d/\Same H (upd (upd (upd H A (.tup [.str kd,.str p,.str t,.int st])) B (.tup [.str f,.int i])) T (.tup [.ref A,.ref B])):=by
 have E:=(Same.refl H).new (o:=.tup [.str kd,.str p,.str t,.int st]) j;have h:=(Same.refl _).new (o:=.tup [.str f,.int i]) s;have g:=(Same.refl _).new (o:=.tup [.ref A,.ref B]) u;subst v C;exact⟨⟨⟨A,B,q0d,⟨kd,l,tt,st,g _ _ (h _ _ q0d),D⟩,(hd _ B q0d).same g⟩,dl⟩,(E.trans h).trans g⟩
structure CallsBr (P:Ak) (w:World) (K:Ah) (mg:Str->Option Value) (base:Heap):Prop where
 draw:Cal P w K mg base "_law_draw" 1 Z5 spDraw
noncomputable def spBad(K:Ah):Sp:=λvs H Q _=>∃a b,vs=[.ref a]/\FeedAt H a b/\∀T d H',Fd a b H H'->PrAt K H' T d->Q (.ref T) H'
def gd1:Good [42]:=z1a (by trivial)
noncomputable abbrev q4x:Stmt:=top 76
def sc_bad_rule:FnScope ["_law_feed", "_law_some"] Ze (defScope q4x):=by trivial
set_option maxHeartbeats 40000000 in
def z5b(D:Df K mg "_law_bad_rule" q4x Ze)(T:Txt mg)(C:CallsBr P w K mg base):Cal P w K mg base "_law_bad_rule" 2 Ze (spBad K):=by
 refine D.cal sc_bad_rule (λvs H Q E h=>?_) (λf c2 A outer s H vs Q E hr h=>?_)
 ·obtain⟨a,b,rfl,_⟩:=h;rfl
 ·obtain⟨a,b,rfl,F,k⟩:=h;refine⟨_,(@q0b _ _ _ _ _ (@q0k _ _ (1) _ _ _ _ sc_bad_rule.nd rfl (by trivial) (@q1j _ _ _ _ (@q0a _ _ _ _ _ (@q0o _ _ _ _ _ (@q0a _ _ _ _ _ t_4 (@q0a _ _ _ _ _ t_2 q0c (by rfl)) (by rfl))) (@q0a _ _ _ _ _ (@q0o _ _ _ _ _ (@q0a _ _ _ _ _ t_4 (@q0a _ _ _ _ _ t_2 q0c (by rfl)) (by rfl))) (@q0a _ _ _ _ _ (@q0o _ _ _ _ _ (@q0a _ _ _ _ _ t_4 (@q0a _ _ _ _ _ t_2 q0c (by rfl)) (by rfl))) (@q0a _ _ _ _ _ (@q0o _ _ _ _ _ (@q0a _ _ _ _ _ t_4 (@q0a _ _ _ _ _ t_2 q0c (by rfl)) (by rfl))) (@q0a _ _ _ _ _ (@q0o _ _ _ _ _ (@q0a _ _ _ _ _ t_4 (@q0a _ _ _ _ _ t_2 q0c (by rfl)) (by rfl))) (@q0a _ _ _ _ _ (@q0o _ _ _ _ _ (@q0a _ _ _ _ _ t_4 (@q0a _ _ _ _ _ t_2 q0c (by rfl)) (by rfl))) (@q0a _ _ _ _ _ (@q0o _ _ _ _ _ (@q0a _ _ _ _ _ t_4 (@q0a _ _ _ _ _ t_2 q0c (by rfl)) (by rfl))) (@q0a _ _ _ _ _ (@q0o _ _ _ _ _ (@q0a _ _ _ _ _ t_4 (@q0a _ _ _ _ _ t_2 q0c (by rfl)) (by rfl))) q0c (by rfl)) (by rfl)) (by rfl)) (by rfl)) (by rfl)) (by rfl)) (by rfl)) (by rfl))) (by rfl) (by trivial)) (@q0e _ _ _ (@q0l _ _ _ _ (@q0w _ _ _ _ _ _ _ (ix_k K rfl) (pv 1) (@pe_c _ _ _ _ _ _ _ _ _ _ _ C.draw hr (@q0a _ _ _ _ _ (pv 0) (@q0a _ _ _ _ _ q0g q0c (by rfl)) (by rfl)) (by decide) (by rfl) (by decide) (by rfl) (by rfl)) (λ_ _=>rfl))))),?_⟩;have O:=Fd.refl F
  with_reducible refine gE λc3 c4 R S=>?_
  refine⟨by show 4<=sizeLine;decide,λA1 U=>⟨by show 2<=sizeLine;decide,λB1 W=>⟨by show 2<=sizeLine;decide,λg X=>?_⟩⟩⟩;obtain⟨p1,s1⟩:=q6o (K:=K) (l:=[]) (tt:=[120]) (d:=.pat 0) U W X (by trivial) (by trivial) (by exact .inl ⟨rfl,rfl⟩) (λ_ _ e=>e) rfl;generalize upd (upd (upd H A1 _) B1 _) g _=H1 at p1 s1;refine⟨by show 4<=sizeLine;decide,λA2 Y=>⟨by show 2<=sizeLine;decide,λB2 Z=>⟨by show 2<=sizeLine;decide,λj a0=>?_⟩⟩⟩;obtain⟨p2,s2⟩:=q6o (K:=K) (l:=[97,32,98]) (tt:=[120]) (d:=.pat 1) Y Z a0 (by trivial) (by trivial) (by exact .inr ⟨rfl,rfl⟩) (λ_ _ e=>e) rfl;generalize upd (upd (upd H1 A2 _) B2 _) j _=H2 at p2 s2;refine⟨by show 4<=sizeLine;decide,λA3 a1=>⟨by show 2<=sizeLine;decide,λB3 a2=>⟨by show 2<=sizeLine;decide,λu a3=>?_⟩⟩⟩;obtain⟨p3,s3⟩:=q6o (K:=K) (l:=[42]) (tt:=[]) (d:=.tem 0) a1 a2 a3 (by trivial) (by trivial) (by exact⟨gd1,.inl ⟨rfl,rfl⟩⟩) (λ_ _ e=>e) rfl;generalize upd (upd (upd H2 A3 _) B3 _) u _=H3 at p3 s3;refine⟨by show 4<=sizeLine;decide,λA4 a4=>⟨by show 2<=sizeLine;decide,λB4 a5=>⟨by show 2<=sizeLine;decide,λv a6=>?_⟩⟩⟩;obtain⟨p4,s4⟩:=q6o (K:=K) (l:=[42]) (tt:=[123,49]) (d:=.tem 2) a4 a5 a6 (by trivial) (by trivial) (by exact⟨gd1,.inr ⟨rfl,rfl⟩⟩) (λ_ _ e=>e) rfl;generalize upd (upd (upd H3 A4 _) B4 _) v _=H4 at p4 s4;refine⟨by show 4<=sizeLine;decide,λA5 a7=>⟨by show 2<=sizeLine;decide,λB5 a8=>⟨by show 2<=sizeLine;decide,λB a9=>?_⟩⟩⟩;obtain⟨p5,s5⟩:=q6o (K:=K) (l:=[42]) (tt:=(flatP [.tx [120]])) (d:=.rul) a7 a8 a9 (by trivial) (by trivial) (by exact⟨gd1,[.tx [120]],rfl,q9i (by trivial),.inl (by trivial)⟩) (λ_ _ e=>e) rfl;generalize upd (upd (upd H4 A5 _) B5 _) B _=H5 at p5 s5;refine⟨by show 4<=sizeLine;decide,λA6 b0=>⟨by show 2<=sizeLine;decide,λB6 b1=>⟨by show 2<=sizeLine;decide,λG b2=>?_⟩⟩⟩;obtain⟨p6,s6⟩:=q6o (K:=K) (l:=[42]) (tt:=(flatP [.tx [97],.into,.tx [98]])) (d:=.rul) b0 b1 b2 (by trivial) (by trivial) (by exact⟨gd1,[.tx [97],.into,.tx [98]],rfl,q9i (by trivial),.inr ⟨.into,by simp,.inr ⟨rfl,by trivial⟩⟩⟩) (λ_ _ e=>e) rfl;generalize upd (upd (upd H5 A6 _) B6 _) G _=H6 at p6 s6;refine⟨by show 4<=sizeLine;decide,λA7 b3=>⟨by show 2<=sizeLine;decide,λB7 b4=>⟨by show 2<=sizeLine;decide,λI b5=>?_⟩⟩⟩;obtain⟨p7,s7⟩:=q6o (K:=K) (l:=[42]) (tt:=(flatP [.gap 2])) (d:=.rul) b3 b4 b5 (by trivial) (by trivial) (by exact⟨gd1,[.gap 2],rfl,q9i (by trivial),.inr ⟨.gap 2,by simp,.inl ⟨2,rfl,.inl (by decide)⟩⟩⟩) (λ_ _ e=>e) rfl;generalize upd (upd (upd H6 A7 _) B7 _) I _=H7 at p7 s7;refine⟨by show 4<=sizeLine;decide,λA8 b6=>⟨by show 2<=sizeLine;decide,λB8 b7=>⟨by show 2<=sizeLine;decide,λJ b8=>?_⟩⟩⟩;obtain⟨p8,s8⟩:=q6o (K:=K) (l:=[64]) (tt:=(flatP [.more 1 1])) (d:=.rul) b6 b7 b8 (by trivial) (by trivial) (by exact⟨z1a (by trivial),[.more 1 1],rfl,q9i (by trivial),.inr ⟨.more 1 1,by simp,.inl ⟨1,rfl,.inr ⟨by decide,rfl,by decide⟩⟩⟩⟩) (λ_ _ e=>e) rfl;generalize upd (upd (upd H7 A8 _) B8 _) J _=H8 at p8 s8;have sA:=(((((((s1.trans s2).trans s3).trans s4).trans s5).trans s6).trans s7).trans s8)
  refine⟨by show 8<=sizeLine;decide,λL hL=>?_⟩;have M:=(O.same sA).new (o:=.lst [.ref g,.ref j,.ref u,.ref v,.ref B,.ref G,.ref I,.ref J]) hL;have b9:L≠a:=λz=>(O.same sA).feed.na hL z.symm;have sL:=(Same.refl H8).new (o:=.lst [.ref g,.ref j,.ref u,.ref v,.ref B,.ref G,.ref I,.ref J]) hL;have c0:upd H8 L (.lst [.ref g,.ref j,.ref u,.ref v,.ref B,.ref G,.ref I,.ref J]) L=some (.lst [.ref g,.ref j,.ref u,.ref v,.ref B,.ref G,.ref I,.ref J]):=q0d;generalize upd H8 L (.lst [.ref g,.ref j,.ref u,.ref v,.ref B,.ref G,.ref I,.ref J])=H9 at *;have u8:=sL;have u7:=s8.trans u8;have u6:=s7.trans u7;have u5:=s6.trans u6;have u4:=s5.trans u5;have u3:=s4.trans u4;have u2:=s3.trans u3;have u1:=s2.trans u2;subst S;refine⟨_,rfl,_,rfl,a,b,8,rfl,M.feed,by decide,by decide,λr Hr r0 r8 fdr=>?_⟩;have c1:∃T d,atI [V.ref g,.ref j,.ref u,.ref v,.ref B,.ref G,.ref I,.ref J] r=some (.ref T)/\PrAt K H9 T d:=by
   obtain⟨n,rfl⟩:∃n:Nat,r=n:=⟨r.toNat,by lia⟩
   have hn:n<8:=by lia
   match n,hn with
   |0,_=>exact⟨g,_,rfl,p1.same u1⟩
   |1,_=>exact⟨j,_,rfl,p2.same u2⟩
   |2,_=>exact⟨u,_,rfl,p3.same u3⟩
   |3,_=>exact⟨v,_,rfl,p4.same u4⟩
   |4,_=>exact⟨B,_,rfl,p5.same u5⟩
   |5,_=>exact⟨G,_,rfl,p6.same u6⟩
   |6,_=>exact⟨I,_,rfl,p7.same u7⟩
   |7,_=>exact⟨J,_,rfl,p8.same u8⟩
  obtain⟨T,d,e,pr⟩:=c1;subst R;exact .inl ⟨L,_,_,_,rfl,rfl,SqL.of (fdr.at c0 b9),e,k T d Hr (M.trans fdr) (pr.keep (tupFd M.feed fdr))⟩
end
end K
set_option maxHeartbeats 4000000
namespace K
open PySem L2 TX SB HM
section
variable{P:Ak}{w:World}{K:Ah}{mg:Str->Option Value}{base:Heap}
structure PlAt (K:Ah) (H:Hp) (T:Addr) (r:RD) (ts:Pth):Prop where
 ex:∃A B,H T=some (.tup [.ref A,.ref B])/\RkAt K H A (.ok r)/\H B=some (.tup (vP ts))
 la:LaOk r ts
def RkAt.keep{H H':Hp}{R:Addr}{k:RK}(h:RkAt K H R k)(s:∀T xs,H T=some (.tup xs)->H' T=some (.tup xs)):RkAt K H' R k:=by
 cases k with
 |ok r=>have h:RuleAt K H R r.kd r.l r.qs (r.st:Int):=h;exact⟨s _ _ h.at_,h.kok,h.good,h.wp,h.st0,h.st1,h.ask⟩
 |bad d=>obtain⟨kd,l,tt,st,a,b⟩:=h;exact⟨kd,l,tt,st,s _ _ a,b⟩
def PlAt.keep{H H':Hp}{T:Addr}{r:RD}{ts:Pth}(h:PlAt K H T r ts)(s:∀T xs,H T=some (.tup xs)->H' T=some (.tup xs)):PlAt K H' T r ts:=by obtain⟨A,B,a,b,c⟩:=h.ex;exact⟨⟨A,B,s _ _ a,b.keep s,s _ _ c⟩,h.la⟩
def PlAt.same{H H':Hp}{T:Addr}{r:RD}{ts:Pth}(h:PlAt K H T r ts)(s:Same H H'):PlAt K H' T r ts:=h.keep λT f e=>s _ _ e
def z3p{H:Hp}{A B T:Addr}{kd p t:Str}{st:Int}{xs:List V}{r:RD}{ts:Pth}(h:H A=none)(j:upd H A (.tup [.str kd,.str p,.str t,.int st]) B=none)(s:upd (upd H A (.tup [.str kd,.str p,.str t,.int st])) B (.tup xs) T=none)(b:rB r.kd r.l r.qs=true)(u:r.st<=100)(v:r.kd=kd)(C:mk r.l=p)(D:mk (flatP r.qs)=t)(E:(r.st:Int)=st)(F:vP ts=xs)(la:LaOk r ts):
  PlAt K (upd (upd (upd H A (.tup [.str kd,.str p,.str t,.int st])) B (.tup xs)) T (.tup [.ref A,.ref B])) T r ts/\Same H (upd (upd (upd H A (.tup [.str kd,.str p,.str t,.int st])) B (.tup xs)) T (.tup [.ref A,.ref B])):=by
 have G:=(Same.refl H).new (o:=.tup [.str kd,.str p,.str t,.int st]) h;have g:=(Same.refl _).new (o:=.tup xs) j;have f:=(Same.refl _).new (o:=.tup [.ref A,.ref B]) s;subst v;refine⟨⟨⟨A,B,q0d,z1b b u C D E (f _ _ (g _ _ q0d)),?_⟩,la⟩,(G.trans g).trans f⟩;rw[F];exact f _ _ q0d
noncomputable def spLast(K:Ah):Sp:=λvs H Q _=>∃a b,vs=[.ref a]/\FeedAt H a b/\∀T r ts H',Fd a b H H'->PlAt K H' T r ts->Q (.ref T) H'
noncomputable abbrev q3x:Stmt:=top 77
def sc_last_rule:FnScope ["_law_feed", "_law_some"] Ze (defScope q3x):=by trivial
set_option maxHeartbeats 40000000 in
def z3q(D:Df K mg "_law_last_rule" q3x Ze)(T:Txt mg)(C:CallsBr P w K mg base):Cal P w K mg base "_law_last_rule" 2 Ze (spLast K):=by
 refine D.cal sc_last_rule (λvs H Q E h=>?_) (λf a9 A outer s H vs Q E hr h=>?_)
 ·obtain⟨a,b,rfl,_⟩:=h;rfl
 ·obtain⟨a,b,rfl,F,k⟩:=h;refine⟨_,(@q0b _ _ _ _ _ (@q0k _ _ (1) _ _ _ _ sc_last_rule.nd rfl (by trivial) (@q1j _ _ _ _ (@q0a _ _ _ _ _ (@q0o _ _ _ _ _ (@q0a _ _ _ _ _ t_4 (@q0a _ _ _ _ _ t_1 q0c (by rfl)) (by rfl))) (@q0a _ _ _ _ _ (@q0o _ _ _ _ _ (@q0a _ _ _ _ _ t_4 (@q0a _ _ _ _ _ t_1 q0c (by rfl)) (by rfl))) (@q0a _ _ _ _ _ (@q0o _ _ _ _ _ (@q0a _ _ _ _ _ t_4 (@q0a _ _ _ _ _ (@q0o _ _ _ _ _ (@q0a _ _ _ _ _ q0i (@q0a _ _ _ _ _ q0i (@q0a _ _ _ _ _ q0i (@q0a _ _ _ _ _ q0i (@q0a _ _ _ _ _ q0i (@q0a _ _ _ _ _ q0i (@q0a _ _ _ _ _ q0i q0c (by rfl)) (by rfl)) (by rfl)) (by rfl)) (by rfl)) (by rfl)) (by rfl))) q0c (by rfl)) (by rfl))) (@q0a _ _ _ _ _ (@q0o _ _ _ _ _ (@q0a _ _ _ _ _ t_4 (@q0a _ _ _ _ _ t_s2 q0c (by rfl)) (by rfl))) (@q0a _ _ _ _ _ (@q0o _ _ _ _ _ (@q0a _ _ _ _ _ t_4 (@q0a _ _ _ _ _ t_s2 q0c (by rfl)) (by rfl))) q0c (by rfl)) (by rfl)) (by rfl)) (by rfl)) (by rfl))) (by rfl) (by trivial)) (@q0e _ _ _ (@q0l _ _ _ _ (@q0w _ _ _ _ _ _ _ (ix_k K rfl) (pv 1) (@pe_c _ _ _ _ _ _ _ _ _ _ _ C.draw hr (@q0a _ _ _ _ _ (pv 0) (@q0a _ _ _ _ _ q0g q0c (by rfl)) (by rfl)) (by decide) (by rfl) (by decide) (by rfl) (by rfl)) (λ_ _=>rfl))))),?_⟩;have I:=Fd.refl F;refine⟨by show 4<=sizeLine;decide,λA1 J=>⟨by show 1<=sizeLine;decide,λB1 M=>⟨by show 2<=sizeLine;decide,λg O=>?_⟩⟩⟩;obtain⟨p1,s1⟩:=z3p (K:=K) (r:=rL0) J M O (by trivial) (by decide) rfl (by trivial) (by trivial) rfl (by trivial) la0;generalize upd (upd (upd H A1 _) B1 _) g _=H1 at p1 s1;refine⟨by show 4<=sizeLine;decide,λA2 R=>⟨by show 1<=sizeLine;decide,λB2 S=>⟨by show 2<=sizeLine;decide,λj U=>?_⟩⟩⟩;obtain⟨p2,W⟩:=z3p (K:=K) (r:=rL1) R S U (by trivial) (by decide) rfl (by trivial) (by trivial) rfl (by trivial) la1;generalize upd (upd (upd H1 A2 _) B2 _) j _=H2 at p2 W;refine⟨by show 4<=sizeLine;decide,λA3 X=>⟨by show 7<=sizeLine;decide,λB3 Y=>⟨by show 2<=sizeLine;decide,λu Z=>?_⟩⟩⟩;obtain⟨p3,s3⟩:=z3p (K:=K) (r:=rL2) X Y Z (by trivial) (by decide) rfl (by trivial) (by trivial) rfl (by trivial) la2;generalize upd (upd (upd H2 A3 _) B3 _) u _=H3 at p3 s3;refine⟨by show 4<=sizeLine;decide,λA4 a0=>⟨by show 2<=sizeLine;decide,λB4 a1=>⟨by show 2<=sizeLine;decide,λv a2=>?_⟩⟩⟩;obtain⟨p4,s4⟩:=z3p (K:=K) (r:=rL3) a0 a1 a2 (by trivial) (by decide) rfl (by trivial) (by trivial) rfl (by trivial) la3;generalize upd (upd (upd H3 A4 _) B4 _) v _=H4 at p4 s4;refine⟨by show 4<=sizeLine;decide,λA5 a3=>⟨by show 2<=sizeLine;decide,λB5 a4=>⟨by show 2<=sizeLine;decide,λB a5=>?_⟩⟩⟩;obtain⟨p5,s5⟩:=z3p (K:=K) (r:=rL4) a3 a4 a5 (by trivial) (by decide) rfl (by trivial) (by trivial) rfl (by trivial) la4;generalize upd (upd (upd H4 A5 _) B5 _) B _=H5 at p5 s5;have sA:=((((s1.trans W).trans s3).trans s4).trans s5)
  refine⟨by show 5<=sizeLine;decide,λL hL=>?_⟩;have G:=(I.same sA).new (o:=.lst [.ref g,.ref j,.ref u,.ref v,.ref B]) hL;have a6:L≠a:=λz=>(I.same sA).feed.na hL z.symm;have sL:=(Same.refl H5).new (o:=.lst [.ref g,.ref j,.ref u,.ref v,.ref B]) hL;have a7:upd H5 L (.lst [.ref g,.ref j,.ref u,.ref v,.ref B]) L=some (.lst [.ref g,.ref j,.ref u,.ref v,.ref B]):=q0d;generalize upd H5 L (.lst [.ref g,.ref j,.ref u,.ref v,.ref B])=H9 at *;have u5:=sL;have u4:=s5.trans u5;have u3:=s4.trans u4;have u2:=s3.trans u3;have u1:=W.trans u2;refine⟨_,rfl,_,rfl,a,b,5,rfl,G.feed,by decide,by decide,λr Hr r0 r8 fdr=>?_⟩;have a8:∃T r' ts,atI [V.ref g,.ref j,.ref u,.ref v,.ref B] r=some (.ref T)/\PlAt K H9 T r' ts:=by
   obtain⟨n,rfl⟩:∃n:Nat,r=n:=⟨r.toNat,by lia⟩
   have hn:n<5:=by lia
   match n,hn with
   |0,_=>exact⟨g,_,_,rfl,p1.same u1⟩
   |1,_=>exact⟨j,_,_,rfl,p2.same u2⟩
   |2,_=>exact⟨u,_,_,rfl,p3.same u3⟩
   |3,_=>exact⟨v,_,_,rfl,p4.same u4⟩
   |4,_=>exact⟨B,_,_,rfl,p5.same u5⟩
  obtain⟨T,r',ts,e,pr⟩:=a8;exact .inl ⟨L,_,_,_,rfl,rfl,SqL.of (fdr.at a7 a6),e,k T r' ts Hr (G.trans fdr) (pr.keep (tupFd G.feed fdr))⟩
end
end K
set_option maxHeartbeats 4000000
namespace K
open PySem L2 TX SB HM
section
variable{P:Ak}{w:World}{K:Ah}{mg:Str->Option Value}{base:Heap}
def z6g(l t:List Nat):(mk t==mk l)=decide (l=t):=by grind
def in_wO(l:List Nat):inV (.str (mk l)) [.str (Ab "slip"),.str (Ab "drawer"),.str (Ab "no"),.str (Ab "a")]=decide (l∈wO):=by
 show((mk wS==mk l)||((mk wD==mk l)||((mk [110,111]==mk l)||((mk [97]==mk l)||false))))=_;rw[z6g,z6g,z6g,z6g,Pu,<- Oy,<- Oy,<- Oy];exact decide_eq_decide.mpr (by simp[wO])
def HallAt.fd{d:Addr}(x:HallAt c H h d bl rows)(F:FeedAt H a b)(fd:Fd a b H H'):HallAt c H' h d bl rows:=by
 obtain⟨i,j,e⟩:=F.fa;obtain⟨g,f⟩:=x.i;exact⟨⟨g,fd.at f (λz=>by rw[z,e] at f;cases f)⟩,fd.at x.d (λz=>by have:=x.d;rw[z,e] at this;cases this)⟩
structure LS (K:Ah) (c:Addr) (Hs H:Hp) (a b h d:Addr) (bl:Bool) (zz:List Zr) (L4 M:Addr) (ws:List (Addr×RK)):Prop where
 fs:FeedAt Hs a b
 fd:Fd a b Hs H
 ha:HallAt c H h d bl (zz.map (·.2))
 rl:RL H L4 zz
 at_:H M=some (.lst (ws.map λw=>V.ref w.1))
 pk:∀w∈ws,RkAt K H w.1 w.2
 ok:∀w∈ws,∀r,w.2=.ok r->ROk r
 ma:M≠a
 hM:Hs M=none
 la:L4≠a
 lm:L4≠M
section
variable{c a b h d L4 M:Addr}{Hs H H':Hp}{bl:Bool}{zz:List Zr}{ws ws':List (Addr×RK)}
def LS.same(x:LS K c Hs H a b h d bl zz L4 M ws)(s:Same H H'):LS K c Hs H' a b h d bl zz L4 M ws:=⟨x.fs,x.fd.same s,x.ha.same s,x.rl.same s,s _ _ x.at_,λw f=>(x.pk w f).same s,x.ok,x.ma,x.hM,x.la,x.lm⟩
def LS.fdr(x:LS K c Hs H a b h d bl zz L4 M ws)(fd:Fd a b H H'):LS K c Hs H' a b h d bl zz L4 M ws:=by
 exact⟨x.fs,x.fd.trans fd,x.ha.fd x.fd.feed fd,x.rl.fd x.fd.feed fd x.la,fd.at x.at_ x.ma,λw f=>(x.pk w f).keep (tupFd x.fd.feed fd),x.ok,x.ma,x.hM,x.la,x.lm⟩
def LS.put(x:LS K c Hs H a b h d bl zz L4 M ws)(e:H'=upd H M (.lst (ws'.map λw=>V.ref w.1)))(s:∀w∈ws',w∈ws\/(RkAt K H w.1 w.2/\∀r,w.2=.ok r->ROk r)):LS K c Hs H' a b h d bl zz L4 M ws':=by
 subst e;have f:∀T u,T≠M->H T=some u->upd H M (.lst (ws'.map λw=>V.ref w.1)) T=some u:=λT u n e=>by rw[q0f n];exact e
 have kt:∀T g,H T=some (.tup g)->upd H M (.lst (ws'.map λw=>V.ref w.1)) T=some (.tup g):=λT g e=>f _ _ (λz=>by rw[z,x.at_] at e;cases e) e;obtain⟨v,j⟩:=x.ha.i;refine⟨x.fs,x.fd.put x.fs x.hM,⟨⟨v,f _ _ (λz=>by rw[z,x.at_] at j;cases j) j⟩,f _ _ (λz=>by have:=x.ha.d;rw[z,x.at_] at this;cases this) x.ha.d⟩,⟨f _ _ x.lm x.rl.at_,λz B=>PR.same (x.rl.pr z B) kt⟩,q0d,λw o=>?_,λw o r e=>?_,x.ma,x.hM,x.la,x.lm⟩
 ·rcases s w o with z|z
  ·exact(x.pk w z).keep kt
  ·exact z.1.keep kt
 ·rcases s w o with z|z
  ·exact x.ok w z r e
  ·exact z.2 r e
def LS.kt(x:LS K c Hs H a b h d bl zz L4 M ws)(e:H'=upd H M (.lst (ws'.map λw=>V.ref w.1))):∀T xs,H T=some (.tup xs)->H' T=some (.tup xs):=λT xs f=>by
 subst e;rw[q0f (λz=>by rw[z,x.at_] at f;cases f)];exact f
def LS.rkl(x:LS K c Hs H a b h d bl zz L4 M ws):RkL K H M (ws.map (·.2)):=by
 refine⟨⟨ws.map (·.1),by rw[Dy];exact x.at_,by rw[Af,Af],λi R k j g=>?_⟩,λr o=>?_⟩
 ·rw[Bm] at j g;obtain⟨w,f,rfl⟩:=Ck.mp j;rw[f] at g;cases g;exact x.pk w (Bd f)
 ·obtain⟨w,f,e⟩:=Aw.mp o;exact x.ok w f r e
end
def z6h(f:α->β)(xs:List α)(n:Nat)(y:α):insN (xs.map f) n (f y)=(insN xs n y).map f:=by simp[insN]
def x4j{xs:List α}{y w:α}(h:w∈insN xs n y):w∈xs\/w=y:=by
 rcases Ba.mp h with z|z
 ·exact .inl (Ih z)
 rcases Az.mp z with z|z
 ·exact .inr z
 ·grind
noncomputable def dvD:Dv->Cv
 |.ok=>.tuple [.str (Ab "wishes"),.bool true]
 |.pat i=>.tuple [.str (Ab "pattern"),.int (i:Int)]
 |.tem i=>.tuple [.str (Ab "template"),.int (i:Int)]
 |.rul=>.tuple [.str (Ab "rule"),.int 0]
 |.drw q=>.tuple [.str (Ab "drawer"),.tuple (dP q)]
 |.plc q ts=>.tuple [.str (Ab "place"),.tuple (dP q),.tuple (dP ts)]
noncomputable def LowD:Dv->Prop
 |.drw q=>Low q
 |.plc q ts=>Low q/\Low ts
 |_=>True
def DvAt.dt(h:DvAt H T d):Dt K H (.ref T) (dvD d):=by
 cases d with
 |ok=>exact .tup (SqT.of h) (.cons (.str _) (.cons (.bl _) .nil))
 |pat i=>exact .tup (SqT.of h) (.cons (.str _) (.cons (.int _) .nil))
 |tem i=>exact .tup (SqT.of h) (.cons (.str _) (.cons (.int _) .nil))
 |rul=>exact .tup (SqT.of h) (.cons (.str _) (.cons (.int _) .nil))
 |drw q=>obtain⟨p,a,b⟩:=h;exact .tup (SqT.of a) (.cons (.str _) (.cons (q2y b) .nil))
 |plc q ts=>obtain⟨p,x,a,b,c⟩:=h;exact .tup (SqT.of a) (.cons (.str _) (.cons (q2y b) (.cons (q2y c) .nil)))
def z5c(h:LowD d):(dvD d).canLay0=true:=by
 have e:∀s∈["wishes", "pattern", "template", "rule", "drawer", "place"],Dm (Ab s)=true:=by trivial
 cases d with
 |drw q=>have h:Low q:=h;simp only[dvD,Jv,Ia,q7s h,e "drawer" (by decide),Dx]
 |plc q ts=>have h:Low q/\Low ts:=h;simp only[dvD,Jv,Ia,q7s h.1,q7s h.2,e "place" (by decide),Dx]
 |ok=>simp only[dvD,Jv,Ia,e "wishes" (by decide),Dx]
 |pat i=>simp only[dvD,Jv,Ia,e "pattern" (by decide),Dx]
 |tem i=>simp only[dvD,Jv,Ia,e "template" (by decide),Dx]
 |rul=>simp only[dvD,Jv,Ia,e "rule" (by decide),Dx]
def x7w(d:Dv):(dvD d).depth<=100:=by
 cases d with
 |drw q=>have f:=q4d q;simp only[dvD,Oe,Jh];lia
 |plc q ts=>have f:=q4d q;have g:=q4d ts;simp only[dvD,Oe,Jh];lia
 |_=>simp[dvD,Oe,Jh]
def ne_dv(ha:DvAt H A d)(f:DvAt H B d)(l:LowD d)(k:Q (.bl false) H):rNeU K (.ref A) (.ref B) H Q:=by
 refine .inr ⟨_,_,ha.dt,f.dt,z5c l,z5c l,by rw[Vg];exact x7w d,?_⟩;rw[SeqAt.eqv_refl _ (z5c l)];exact k
def PrAt.low(h:PrAt K H T d):LowD d:=by
 have:=h.dd;cases d with
 |drw q=>cases this
 |plc q ts=>cases this
 |_=>trivial
def q4m{P:Addr}(f:H P=none)(e:vP q=xs):upd H P (.tup xs) P=some (.tup (vP q))/\Same H (upd H P (.tup xs)):=⟨by rw[q0d,e],(Same.refl H).new f⟩
def z5d(h:kd=Ab "all" \/ kd=Ab "slip"):forB kd v=(decide (v≠none)||decide (V.str kd=V.str (Ab "all"))):=by
 rcases h with rfl|rfl<;>cases v with
 |none=>decide +kernel
 |some x=>show forB _ (some x)=(true||_);unfold forB;rw[show kdM (some x)=Ab "slip" from rfl];decide +kernel
def x7x{f:List Rw}(h:∀r∈f,r.1≠[]):f.filter (benB [])=f:=List.filter_eq_self.mpr λr g=>by
 unfold benB;rw[decide_eq_false (h r g)];simp
def x4k{bl:Bool}{f:List Rw}(e:rows=three m++f.filter kpB)(h:kd=Ab "all" \/ kd=Ab "slip")(g:Srt rows sr):∃x,(sr.filter (benB [wD])).find? (λr=>forB kd r.2)=some x/\x.1=[wD,wI]:=by
 have j:=g.1.filter (benB [wD]);rw[e,ben34] at j;rw[List.perm_singleton.mp j];refine⟨([wD,wI],some m),?_,rfl⟩;rw[Ca,z5d h];rfl
def x1t{g:List Pth}(hl:Hl bl rows)(e:g.Perm ((rows.filter p).map (·.1)))(s:g.Pairwise (λa b=>pLt b a=false))(h:g.head?=some u)(f:Srt rows sr):∃x,(sr.filter (benB [])).find? p=some x/\x.1=u:=by
 rw[x7x λr v=>(hl.ok r (f.1.mem_iff.mp v)).ne];have j:=(f.1.filter p).map (·.1);have nd:=j.nodup_iff.mpr ((Oj.map _).nodup hl.paths);have B:=q7u (j.trans e.symm) nd (List.Pairwise.sublist (Oj.map _) f.2) s;rw[<- B,List.head?_map] at h;obtain⟨x,o,C⟩:=Ck.mp h;rw[List.head?_filter] at o;exact⟨x,o,C⟩
end
end K
set_option maxHeartbeats 4000000
namespace K
open PySem L2 TX SB HM
section
variable{P:Ak}{w:World}{K:Ah}{mg:Str->Option Value}{base:Heap}
structure CallsL (P:Ak) (w:World) (K:Ah) (mg:Str->Option Value) (base:Heap) (c:Addr):Prop where
 draw:Cal P w K mg base "_law_draw" 1 Z5 spDraw
 rows:Cal P w K mg base "_law_rows" 4 Z7 spRows
 k_Hall:KCal P w K mg base c "Hall" 4 Zo (spInit c)
 bad_rule:Cal P w K mg base "_law_bad_rule" 2 Ze (spBad K)
 last_rule:Cal P w K mg base "_law_last_rule" 2 Ze (spLast K)
 told_of:Cal P w K mg base "_law_told_of" 12 Z8 (spTo K c)
noncomputable def spLaw(K:Ah):Sp:=λvs H Q _=>∃(a:Addr) (ns:List Int),vs=[.ref a]/\SqL K H a (ns.map V.int)/\ns.length<=63/\∀H',Q (.bl true) H'
def pr3{H:Hp}{A T:Addr}{xs:List V}{v:V}{r:Rw}(g:H A=none)(h:upd H A (.tup xs) T=none)(e:vP r.1=xs)(j:mV r.2=v):PR (upd (upd H A (.tup xs)) T (.tup [.ref A,v])) T (rR r)/\Same H (upd (upd H A (.tup xs)) T (.tup [.ref A,v])):=by
 have s:=(Same.refl H).new (o:=.tup xs) g;have f:=(Same.refl _).new (o:=.tup [.ref A,v]) h;subst e j;exact⟨⟨A,q0d,f _ _ q0d⟩,s.trans f⟩
noncomputable abbrev q3y:Stmt:=top 79
def sc_law:FnScope Z1 ["_law_script"] (defScope q3y):=by trivial
set_option maxHeartbeats 40000000 in
def x4l{c:Addr}(T:Txt mg)(C:CallsL P w K mg base c)(f:Addr)(k1:Value)(A:Around)(outer:List Env)(s:Ag)(H:Hp)(vs:List V)(Q:VK)(E:XK)(O:Room 12 (A.deeper (PyProof.Rows.envOfC "law" (defScope q3y) s.heap.objs.size f k1)))(h:spLaw K vs H Q E):
  ∃t,PSs (cxOf CX0 P w K mg base Z1 "law" (defScope q3y) f k1 A outer s H E).nox (defBody q3y) t/\t { nx:=λ_ H'=>Q .non H',rt:=Q } (L2.start Z1 vs) H:=by
  obtain⟨sc,ns,rfl,hS,x0,k⟩:=h;refine⟨_,(@q0b _ _ _ _ _ (@q0k _ _ (1) _ _ _ _ sc_law.nd rfl (by trivial) (@q1j _ _ _ _ (@q0a _ _ _ _ _ (@q1p _ _ _ _ _ _ _ _ _ (list_k K rfl) (by rfl) T.b_list (by trivial) (@q0a _ _ _ _ _ (pv 0) q0c (by rfl)) (by decide) (by decide) (by rfl) (by rfl)) (@q0a _ _ _ _ _ q0g (@q0a _ _ _ _ _ q0g q0c (by rfl)) (by rfl)) (by rfl))) (by rfl) (by trivial)) (@q0b _ _ _ _ _ (@q1u _ _ _ _ _ _ _ _ Dc rfl (@q3m _ _ _ _ _ _ rfl T.b_range (@q0a _ _ _ _ _ (@q0q _ _ _ _ _ _ _ _ _ (z8d rfl) (by rfl) T.b_max (by trivial) (@q0a _ _ _ _ _ q0g (@q0a _ _ _ _ _ (@q0q _ _ _ _ _ _ _ _ _ (z1f rfl) (by rfl) T.b_min (by trivial) (@q0a _ _ _ _ _ q0g (@q0a _ _ _ _ _ (@q0q _ _ _ _ _ _ _ _ _ (q1z K rfl) (by rfl) T.b_len Br (@q0a _ _ _ _ _ (pv 0) q0c (by rfl)) (by decide) (by decide) (by rfl) (by rfl)) q0c (by rfl)) (by rfl)) (by decide) (by decide) (by rfl) (by rfl)) q0c (by rfl)) (by rfl)) (by decide) (by decide) (by rfl) (by rfl)) q0c (by rfl)) (by rfl)) (@q0n _ _ (2) _ sc_law.nd rfl (by trivial) (by trivial)) (@q0b _ _ _ _ _ (@q0k _ _ (3) _ _ _ _ sc_law.nd rfl (by trivial) (@q2r _ _ _ _ _ _ _ _ (eq_k K rfl O) (@pe_c _ _ _ _ _ _ _ _ _ _ _ C.draw O (@q0a _ _ _ _ _ (pv 1) (@q0a _ _ _ _ _ q0g q0c (by rfl)) (by rfl)) (by decide) (by rfl) (by decide) (by rfl) (by rfl)) q0g (nomark _)) (by rfl) (by trivial)) (@q0b _ _ _ _ _ (@q9u _ _ _ _ _ _ _ _ _ _ _ (4) _ _ _ ["_law_row"] [] sc_law.nd rfl (by trivial) rfl (@q5u _ _ _ _ K rfl (@pe_c _ _ _ _ _ _ _ _ _ _ _ C.rows O (@q0a _ _ _ _ _ (pv 1) (@q0a _ _ _ _ _ (pv 3) (@q0a _ _ _ _ _ q0g q0c (by rfl)) (by rfl)) (by rfl)) (by decide) (by rfl) (by decide) (by rfl) (by rfl))) (λ_ _ _ _ _=>(@q0n _ _ (0) _ (show(["_law_row"]:List Str).Nodup by trivial) rfl (by trivial) (by trivial))) (λ_ _ _ _ _=>(@q7i _ _ _ (@q0h _ _ _ _ _ _ _ _ (z4c K rfl) (@z1t _ _ _ _ _ _ _ _ _ K rfl Ek Hf Hg q5h (@q0w _ _ _ _ _ _ _ (ix_k K rfl) (@q0w _ _ _ _ _ _ _ (ix_k K rfl) (pv 0) q0g (λ_ _=>rfl)) q0g (λ_ _=>rfl)) (by rfl) (by rfl)) (@q0o _ _ _ _ _ (@q0a _ _ _ _ _ q0i (@q0a _ _ _ _ _ q0i (@q0a _ _ _ _ _ q0i (@q0a _ _ _ _ _ q0i q0c (by rfl)) (by rfl)) (by rfl)) (by rfl))) (by with_unfolding_all rfl)))) (λ_ _ _ _ _=>(pv 0)) (by rfl) (by intro _;rfl) (by rfl) (by trivial)) (@q0b _ _ _ _ _ (@q0k _ _ (4) _ _ _ _ sc_law.nd rfl (by trivial) (@q0v _ _ _ _ _ _ _ _ q0r (@q1j _ _ _ _ (@q0a _ _ _ _ _ (@q0o _ _ _ _ _ (@q0a _ _ _ _ _ t_1 (@q0a _ _ _ _ _ q0g q0c (by rfl)) (by rfl))) (@q0a _ _ _ _ _ (@q0o _ _ _ _ _ (@q0a _ _ _ _ _ t_1 (@q0a _ _ _ _ _ q8q q0c (by rfl)) (by rfl))) (@q0a _ _ _ _ _ (@q0o _ _ _ _ _ (@q0a _ _ _ _ _ t_s2 (@q0a _ _ _ _ _ (@pe_c _ _ _ _ _ _ _ _ _ _ _ C.draw O (@q0a _ _ _ _ _ (pv 1) (@q0a _ _ _ _ _ q0g q0c (by rfl)) (by rfl)) (by decide) (by rfl) (by decide) (by rfl) (by rfl)) q0c (by rfl)) (by rfl))) q0c (by rfl)) (by rfl)) (by rfl))) (pv 4)) (by rfl) (by trivial)) (@q0b _ _ _ _ _ (@q0k _ _ (5) _ _ _ _ sc_law.nd rfl (by trivial) (@pe_k _ _ _ _ _ _ _ _ _ _ _ _ C.k_Hall O (@q0a _ _ _ _ _ (pv 4) (@q0a _ _ _ _ _ (pv 3) q0c (by rfl)) (by rfl)) (by decide) (by rfl) (by decide) (by rfl) (by rfl)) (by rfl) (by trivial)) (@q0b _ _ _ _ _ (@q9u _ _ _ _ _ _ _ _ _ _ _ (6) _ _ _ ["_law_j"] [] sc_law.nd rfl (by trivial) rfl (@q3m _ _ _ _ _ _ rfl T.b_range (@q0a _ _ _ _ _ (@q0v _ _ _ _ _ _ _ _ q0r q0g (@pe_c _ _ _ _ _ _ _ _ _ _ _ C.draw O (@q0a _ _ _ _ _ (pv 1) (@q0a _ _ _ _ _ q0g q0c (by rfl)) (by rfl)) (by decide) (by rfl) (by decide) (by rfl) (by rfl))) q0c (by rfl)) (by rfl)) (λ_ _ _ _ _=>(@q0n _ _ (0) _ (show(["_law_j"]:List Str).Nodup by trivial) rfl (by trivial) (by trivial))) (λ_ _ _ _ _=>q9t) (λ_ _ _ _ _=>(@q0o _ _ _ _ _ (@q0a _ _ _ _ _ q0i (@q0a _ _ _ _ _ q0i (@q0a _ _ _ _ _ q0i (@q0a _ _ _ _ _ (pv 0) q0c (by rfl)) (by rfl)) (by rfl)) (by rfl)))) (by rfl) (by intro _;rfl) (by rfl) (by trivial)) (@q0b _ _ _ _ _ (@q0k _ _ (7) _ _ _ _ sc_law.nd rfl (by trivial) (@q0w _ _ _ _ _ _ _ (ix_k K rfl) (@q1j _ _ _ _ (@q0a _ _ _ _ _ t_0 (@q0a _ _ _ _ _ t_1 (@q0a _ _ _ _ _ t_s2 (@q0a _ _ _ _ _ t_1 (@q0a _ _ _ _ _ t_1 (@q0a _ _ _ _ _ t_0 q0c (by rfl)) (by rfl)) (by rfl)) (by rfl)) (by rfl)) (by rfl))) (@pe_c _ _ _ _ _ _ _ _ _ _ _ C.draw O (@q0a _ _ _ _ _ (pv 1) (@q0a _ _ _ _ _ q0g q0c (by rfl)) (by rfl)) (by decide) (by rfl) (by decide) (by rfl) (by rfl)) (λ_ _=>rfl)) (by rfl) (by trivial)) (@q0b _ _ _ _ _ (@q0k _ _ (8) _ _ _ _ sc_law.nd rfl (by trivial) (@q0o _ _ _ _ _ (@q0a _ _ _ _ _ q0i (@q0a _ _ _ _ _ q4y q0c (by rfl)) (by rfl))) (by rfl) (by trivial)) (@q1v _ _ _ _ _ (@q0s _ _ _ _ _ _ _ _ (@q0h _ _ _ _ _ _ _ _ (eq_k K rfl O) (@pe_c _ _ _ _ _ _ _ _ _ _ _ C.draw O (@q0a _ _ _ _ _ (pv 1) (@q0a _ _ _ _ _ q0g q0c (by rfl)) (by rfl)) (by decide) (by rfl) (by decide) (by rfl) (by rfl)) q0g (nomark _)) (@q0b _ _ _ _ _ (@q4j _ _ _ _ _ _ (@pe_c _ _ _ _ _ _ _ _ _ _ _ C.last_rule O (@q0a _ _ _ _ _ (pv 1) q0c (by rfl)) (by decide) (by rfl) (by decide) (by rfl) (by rfl)) (@q1q _ _ _ _ (2) _ K rfl rfl (@q0p _ _ _ _ _ (@q0n _ _ (9) _ sc_law.nd rfl (by trivial) (by trivial)) (@q0p _ _ _ _ _ (@q0n _ _ (10) _ sc_law.nd rfl (by trivial) (by trivial)) q1b (by rfl)) (by rfl)) (by rfl) (by rfl)) (by rfl) (by rfl) (by rfl)) (@q0b _ _ _ _ _ (@q0u _ _ _ _ (@bm_k _ _ _ _ _ _ _ _ _ _ _ _ K rfl Bi Rc Rf z9e (pv 6) (@q0a _ _ _ _ _ q0g (@q0a _ _ _ _ _ (pv 9) q0c (by rfl)) (by rfl)) (by rfl) (by rfl) (by rfl) (by rfl) (by rfl)) (by rfl)) (@q0b _ _ _ _ _ (@q0k _ _ (11) _ _ _ _ sc_law.nd rfl (by trivial) t_s2 (by rfl) (by trivial)) (@q1v _ _ _ _ _ (@q0s _ _ _ _ _ _ _ _ (@q0h _ _ _ _ _ _ _ _ (eq_k K rfl O) (pv 7) t_0 (nomark _)) (@q0b _ _ _ _ _ (@q0k _ _ (12) _ _ _ _ sc_law.nd rfl (by trivial) (@q0q _ _ _ _ _ _ _ _ _ (z7e O) (by rfl) T.b_sorted (by trivial) (@q0a _ _ _ _ _ (@q6w _ _ _ _ _ _ _ _ _ _ _ ["_law_path", "_law_mark"] [("_law_rule",9)] rfl (@q5u _ _ _ _ K rfl (pv 4)) (λ_ _ _ _ _=>(@q1q _ _ _ _ (2) _ K rfl rfl (@q0p _ _ _ _ _ (@q0n _ _ (0) _ (show(Y3:List Str).Nodup by trivial) rfl (by trivial) (by trivial)) (@q0p _ _ _ _ _ (@q0n _ _ (1) _ (show(Y3:List Str).Nodup by trivial) rfl (by trivial) (by trivial)) q1b (by rfl)) (by rfl)) (by rfl) (by rfl))) (λ_ _ _ _ _=>(@q7i _ _ _ (@pt_j _ _ _ (@PW.pt _ _ _ (@q7b _ _ _ _ _ _ _ (@q3i _ _ _ _ _ _ (@q9k _ _ _ _ _ (pv 1)) (by first|exact nobehind _ (by decide) (by decide)|rfl)) (@q3l _ _ _ _ (@q0h _ _ _ _ _ _ _ _ (eq_k K rfl O) (@q0w _ _ _ _ _ _ _ (ix_k K rfl) (pv 2) q0g (λ_ _=>rfl)) q0i (nomark _)))))))) (λ_ _ _ _ _=>(pv 0)) (by rfl) (by intro _;rfl)) q0c (by rfl)) (by decide) (by decide) (by rfl) (by rfl)) (by rfl) (by trivial)) (@q0e _ _ _ (@q0k _ _ (11) _ _ _ _ sc_law.nd rfl (by trivial) (@q0w _ _ _ _ _ _ _ (ix_k K rfl) (pv 12) q0g (λ_ _=>rfl)) (by rfl) (by trivial)))) q0j) (@q0e _ _ _ (@q0k _ _ (8) _ _ _ _ sc_law.nd rfl (by trivial) (@q0o _ _ _ _ _ (@q0a _ _ _ _ _ q0i (@q0a _ _ _ _ _ (pv 11) (@q0a _ _ _ _ _ (pv 10) q0c (by rfl)) (by rfl)) (by rfl))) (by rfl) (by trivial))))))) q0j) (@q1v _ _ _ _ _ (@q0s _ _ _ _ _ _ _ _ (@q0h _ _ _ _ _ _ _ _ (nin_PT O) (pv 7) (@q0o _ _ _ _ _ (@q0a _ _ _ _ _ t_0 (@q0a _ _ _ _ _ t_1 q0c (by rfl)) (by rfl))) (by with_unfolding_all rfl)) (@q0e _ _ _ (@q0k _ _ (8) _ _ _ _ sc_law.nd rfl (by trivial) (@q0o _ _ _ _ _ (@q0a _ _ _ _ _ q0i (@q0a _ _ _ _ _ (pv 7) q0c (by rfl)) (by rfl))) (by rfl) (by trivial))) q0j) (@q1v _ _ _ _ _ (@q0s _ _ _ _ _ _ _ _ (@q0h _ _ _ _ _ _ _ _ (eq_k K rfl O) (@pe_c _ _ _ _ _ _ _ _ _ _ _ C.draw O (@q0a _ _ _ _ _ (pv 1) (@q0a _ _ _ _ _ q0g q0c (by rfl)) (by rfl)) (by decide) (by rfl) (by decide) (by rfl) (by rfl)) q0g (nomark _)) (@q0b _ _ _ _ _ (@q4j _ _ _ _ _ _ (@pe_c _ _ _ _ _ _ _ _ _ _ _ C.bad_rule O (@q0a _ _ _ _ _ (pv 1) q0c (by rfl)) (by decide) (by rfl) (by decide) (by rfl) (by rfl)) (@q1q _ _ _ _ (2) _ K rfl rfl (@q0p _ _ _ _ _ (@q0n _ _ (9) _ sc_law.nd rfl (by trivial) (by trivial)) (@q0p _ _ _ _ _ (@q0n _ _ (8) _ sc_law.nd rfl (by trivial) (by trivial)) q1b (by rfl)) (by rfl)) (by rfl) (by rfl)) (by rfl) (by rfl) (by rfl)) (@q0b _ _ _ _ _ (@q0u _ _ _ _ (@bm_k _ _ _ _ _ _ _ _ _ _ _ _ K rfl Bi Rc Rf z7h (pv 6) (@q0a _ _ _ _ _ (@pe_c _ _ _ _ _ _ _ _ _ _ _ C.draw O (@q0a _ _ _ _ _ (pv 1) (@q0a _ _ _ _ _ (@q0v _ _ _ _ _ _ _ _ q0r (@q0q _ _ _ _ _ _ _ _ _ (q1z K rfl) (by rfl) T.b_len Br (@q0a _ _ _ _ _ (pv 6) q0c (by rfl)) (by decide) (by decide) (by rfl) (by rfl)) q0g) q0c (by rfl)) (by rfl)) (by decide) (by rfl) (by decide) (by rfl) (by rfl)) (@q0a _ _ _ _ _ (pv 9) q0c (by rfl)) (by rfl)) (by rfl) (by rfl) (by rfl) (by rfl) (by rfl)) (by rfl)) (@q0e _ _ _ (@q0s _ _ _ _ _ _ _ _ (@q0h _ _ _ _ _ _ _ _ (eq_k K rfl O) (@pe_c _ _ _ _ _ _ _ _ _ _ _ C.draw O (@q0a _ _ _ _ _ (pv 1) (@q0a _ _ _ _ _ q0g q0c (by rfl)) (by rfl)) (by decide) (by rfl) (by decide) (by rfl) (by rfl)) q0g (nomark _)) (@q0e _ _ _ (@q0u _ _ _ _ (@bm_k _ _ _ _ _ _ _ _ _ _ _ _ K rfl Bi Ce Cf q1d (pv 6) (@q0a _ _ _ _ _ (@q0w _ _ _ _ _ _ _ (ix_k K rfl) (@pe_c _ _ _ _ _ _ _ _ _ _ _ C.bad_rule O (@q0a _ _ _ _ _ (pv 1) q0c (by rfl)) (by decide) (by rfl) (by decide) (by rfl) (by rfl)) q0g (λ_ _=>rfl)) q0c (by rfl)) (by rfl) (by rfl) (by rfl) (by rfl) (by rfl)) (by rfl))) q0j)))) q0j) (@q0b _ _ _ _ _ (@q0s _ _ _ _ _ _ _ _ (@q0h _ _ _ _ _ _ _ _ (ne_k K rfl O) (@pe_c _ _ _ _ _ _ _ _ _ _ _ C.told_of O (@q0a _ _ _ _ _ (pv 5) (@q0a _ _ _ _ _ (pv 7) (@q0a _ _ _ _ _ (pv 6) q0c (by rfl)) (by rfl)) (by rfl)) (by decide) (by rfl) (by decide) (by rfl) (by rfl)) (pv 8) (nomark _)) (@q0e _ _ _ (@q0l _ _ _ _ q4y)) q0j) (@q0e _ _ _ (@q0s _ _ _ _ _ _ _ _ (@q0h _ _ _ _ _ _ _ _ (ne_k K rfl O) (@pe_c _ _ _ _ _ _ _ _ _ _ _ C.told_of O (@q0a _ _ _ _ _ (pv 5) (@q0a _ _ _ _ _ t_1 (@q0a _ _ _ _ _ (@q1j _ _ _ _ (@q0a _ _ _ _ _ t_4 q0c (by rfl))) q0c (by rfl)) (by rfl)) (by rfl)) (by decide) (by rfl) (by decide) (by rfl) (by rfl)) (@q0o _ _ _ _ _ (@q0a _ _ _ _ _ q0i (@q0a _ _ _ _ _ q4y q0c (by rfl)) (by rfl))) (nomark _)) (@q0e _ _ _ (@q0l _ _ _ _ q4y)) q0j))))))))))))) (by intro _;rfl)) (@q0e _ _ _ (@q0l _ _ _ _ q4y)))),?_⟩
  with_reducible refine gE λx1 y0 k2 k3=>?_
  refine⟨_,rfl,sc,_,rfl,.inl hS,λb hb=>⟨by show 3<=sizeLine;decide,λa ha=>?_⟩⟩;have p4:b≠a:=q0t q0d ha;have F:FeedAt (upd (upd H b (.lst (ns.map V.int))) a (.lst [.ref b,.int 0,.int 0])) a b:=⟨⟨0,0,q0d⟩,ns,by rw[q0f p4];exact q0d⟩
  have sS:Same H (upd (upd H b (.lst (ns.map V.int))) a (.lst [.ref b,.int 0,.int 0])):=((Same.refl H).new hb).new ha;generalize p5:upd (upd H b _) a _=H1;rw[p5] at F sS;refine gY k3 λy3 k4=>?_;refine⟨_,rfl,_,_,rfl,.inl ⟨_,sS.seq hS,rfl⟩,?_⟩;refine⟨_,_,rfl,_,_,rfl,_,rfl,?_,?_,q5c (λi S H'=>∃x2 x3 x4 x5 x6 x7 x8 x9 g9 h0 h3,S=[some (.ref sc),some (.ref a),x2,x3,x4,x5,x6,x7,x8,x9,g9,h0,h3]/\Fd a b H1 H') ⟨none,none,none,none,none,none,none,none,none,none,none,rfl,Fd.refl F⟩ ?_ ?_⟩
  ·rw[Af];split<;>split<;>lia
  ·rw[Af];split<;>split<;>lia
  ·rintro i S Hs hi ⟨x2,x3,x4,x5,x6,x7,x8,x9,g9,h0,h3,rfl,fd⟩;have Fs:=fd.feed;refine⟨_,rfl,a,b,_,rfl,Fs,by decide,by decide,λr0 H2 y4 y5 h4=>.inl ⟨rfl,?_⟩⟩;generalize decide (V.int r0=V.int 1)=bl;refine⟨_,rfl,_,rfl,a,b,bl,8,rfl,h4.feed,by decide,by decide,λL zs H3 p6 hL rl hl len=>?_⟩;have len:zs.length<=8:=len;have fd3':=h4.trans p6;have p7:=h4.free hL;have y6:L≠a:=(Fs.na p7).symm;refine .inl ⟨L,rfl,⟨_,SqL.of rl.at_⟩,λM hM=>?_⟩;have p8:=fd3'.free hM;have p9:M≠a:=(Fs.na p8).symm;refine q5g (xs:=zs.map λz=>V.ref z.1) (λj ys H'=>∃g:List Zr,ys=g.map (λz=>V.ref z.1)/\g.map (·.2)=((zs.take j).map (·.2)).filter kpB/\(∀z∈g,z∈zs)/\g.length<=j/\j<=zs.length/\Same H3 H'/\H' M=some (.lst ys)) ⟨[],rfl,rfl,(λ_ h=>nomatch h),Ai _,Bf _,(Same.refl H3).new hM,q0d⟩ (λj ys H' q=>by obtain⟨_,_,_,_,_,_,sm,h⟩:=q;exact⟨h,SqL.of (sm _ _ rl.at_)⟩) ?_ ?_
   ·rintro j ys H5 x hx ⟨g,rfl,ew,d3,wl,hj,sm,a7⟩;rw[Bm] at hx;obtain⟨z,hz,rfl⟩:=Ck.mp hx;have b7:=Bd hz;have hj':=(As.mp hz).1;obtain⟨bp,b1,b2⟩:=rl.pr z b7;have d4:=hl.ok z.2 (Aw.mpr ⟨z,b7,rfl⟩);obtain⟨n,q,hq⟩:∃n q,z.2.1=n::q:=by cases h:z.2.1 with|nil=>exact absurd h d4.ne|cons n q=>exact⟨n,q,rfl⟩
    have k5:=d4.all n (by rw[hq];exact Av);have ek:kpB z.2 = !decide (lowN n∈wO):=by unfold kpB;rw[hq];rfl
    have et:((zs.take (j+1)).map (·.2)).filter kpB=((zs.take j).map (·.2)).filter kpB++(if kpB z.2 then[z.2] else[]):=by
     rw[Gf,hz,Au,Hm];cases e:kpB z.2<;>simp[e]
    refine⟨q4a,_,rfl,.inr (.inl ⟨z.1,_,0,_,rfl,rfl,SqT.of (sm _ _ b1),rfl,.inr (.inl ⟨bp,_,0,.str (mk n),rfl,rfl,SqT.of (sm _ _ b2),?_,?_⟩)⟩)⟩
    ·rw[show vP (rR z.2).1=vP z.2.1 from rfl,hq];exact q1m (j:=0) rfl
    refine⟨rfl,mk n,rfl,rfl,by rw[q0x];have:=k5.few;exact TX.small (by lia),?_⟩;rw[z6d k5.low];refine⟨by show 4<=sizeLine;decide,λU hU=>.inr ⟨U,_,rfl,.inr (SqT.of q0d),rfl,by trivial,?_⟩⟩;refine⟨_,rfl,?_⟩;show if (!inV (V.str (mk (lowN n))) _)=true then _ else _
    rw[in_wO,<- ek];have k6:=sm.new (o:=.tup [.str (Ab "slip"),.str (Ab "drawer"),.str (Ab "no"),.str (Ab "a")]) hU;have k8:=((Same.refl H5).new (o:=.tup [.str (Ab "slip"),.str (Ab "drawer"),.str (Ab "no"),.str (Ab "a")]) hU) _ _ a7;refine ite2 (λe=>?_) (λe=>?_)
    ·refine⟨_,rfl,k8,TX.small' (by rw[Af];lia),g++[z],by rw[Au];rfl,by rw[Au,ew,et,if_pos e];rfl,λy hy=>?_,by rw[Aj,Bk];lia,hj',k6.put hM,q0d⟩;rcases Ba.mp hy with y1|y1
     ·exact d3 y y1
     ·rw[Ao.mp y1];exact b7
    ·exact⟨g,rfl,by rw[ew,et,if_neg e,Dq],d3,by lia,hj',k6,k8⟩
   rintro ys H5 ⟨g,rfl,ew,d3,wl,_,sm,a7⟩;rw[Af,Dj] at ew;have q4:=(fd3'.trans ((Fd.refl fd3'.feed).same sm))
   have k9:RL H5 M g:=⟨a7,λz hz=>PR.same (rl.pr z (d3 z hz)) λT I e=>sm _ _ e⟩
   have y7:g.length<=8:=by lia
   with_reducible refine gE λy8 z0 l0 l1=>?_
   refine⟨by show 1<=sizeLine;decide,λA1 q5=>⟨by show 2<=sizeLine;decide,λT1 q6=>⟨by show 1<=sizeLine;decide,λA2 l2=>⟨by show 2<=sizeLine;decide,λT2 l3=>⟨by show 2<=sizeLine;decide,λA3 h5=>?_⟩⟩⟩⟩⟩;obtain⟨l4,s1⟩:=pr3 (v:=.int 1) (r:=([wS],some 1)) q5 q6 (by trivial) rfl;generalize upd (upd H5 A1 _) T1 _=H6 at l4 s1 l2 l3 h5;obtain⟨d5,s2⟩:=pr3 (v:=.non) (r:=([wD],none)) l2 l3 (by trivial) rfl;generalize upd (upd H6 A2 _) T2 _=H7 at d5 s2 h5;have s3:=(Same.refl H7).new (o:=.tup [.str (Ab "drawer"),.str (Ab "in")]) h5;have hA3':upd H7 A3 (.tup [.str (Ab "drawer"),.str (Ab "in")]) A3=some (.tup (vP [wD,wI])):=by
    rw[q0d,show vP [wD,wI]=[.str (Ab "drawer"),.str (Ab "in")] by trivial]
   generalize upd H7 A3 (.tup [.str (Ab "drawer"),.str (Ab "in")])=Ha at s3 hA3';have h6:=(s1.trans s2).trans s3;have h7:=q4.same h6;refine⟨_,rfl,a,b,9,rfl,h7.feed,by decide,by decide,λm H8 m0 m9 h8=>?_⟩;have d6:=tupFd h7.feed h8;have l5:RL H8 M g:=⟨h8.at (h6 _ _ k9.at_) p9,λz hz=>PR.same (k9.pr z hz) λT I e=>d6 _ _ (h6 _ _ e)⟩
   have p1:PR H8 T1 (rR ([wS],some 1)):=PR.same l4 λT I e=>d6 _ _ (s3 _ _ (s2 _ _ e));have p2:PR H8 T2 (rR ([wD],none)):=PR.same d5 λT I e=>d6 _ _ (s3 _ _ e);have a3:=d6 _ _ hA3';have fd8':=h7.trans h8;refine⟨by show 2<=sizeLine;decide,λT3 q7=>⟨by show 3<=sizeLine;decide,λL3 q8=>?_⟩⟩;have s9:=(Same.refl H8).new (o:=.tup [.ref A3,.int m]) q7;have p3:PR (upd H8 T3 (.tup [.ref A3,.int m])) T3 (rR ([wD,wI],some m)):=⟨A3,q0d,s9 _ _ a3⟩
   have sL:=(Same.refl _).new (o:=.lst [.ref T1,.ref T2,.ref T3]) q8;refine⟨_,rfl,.inr (.inr ⟨L3,M,_,_,rfl,rfl,q0d,sL _ _ (s9 _ _ l5.at_),by rw[Af];exact TX.small (by show 3+_<=_;lia),λL4 l6=>?_⟩)⟩;have sM:=(Same.refl _).new (o:=.lst ([.ref T1,.ref T2,.ref T3]++g.map λz=>V.ref z.1)) l6;have l7:=(s9.trans sL).trans sM;have f4:L4≠a:=((fd8'.same (s9.trans sL)).feed.na l6).symm;have kt:∀T I,H8 T=some (.tup I)->_:=λT I e=>l7 _ _ e;have c0:RL (upd (upd (upd H8 T3 (.tup [.ref A3,.int m])) L3 (.lst [.ref T1,.ref T2,.ref T3])) L4 (.lst ([.ref T1,.ref T2,.ref T3]++g.map λz=>V.ref z.1))) L4 ((T1,([wS],some 1))::(T2,([wD],none))::(T3,([wD,wI],some m))::g):=by
    refine⟨q0d,λz hz=>?_⟩;rcases Az.mp hz with rfl|hz
    ·exact PR.same p1 kt
    rcases Az.mp hz with rfl|hz
    ·exact PR.same p2 kt
    rcases Az.mp hz with rfl|hz
    ·exact PR.same p3 λT I e=>sM _ _ (sL _ _ e)
    ·exact PR.same (l5.pr z hz) kt
   have l8:=fd8'.same l7;generalize upd (upd (upd H8 T3 (.tup [.ref A3,.int m])) L3 (.lst [.ref T1,.ref T2,.ref T3])) L4 (.lst ([.ref T1,.ref T2,.ref T3]++g.map λz=>V.ref z.1))=H9 at c0 l8;have G:(((T1,([wS],some 1))::(T2,([wD],none))::(T3,([wD,wI],some m))::g:List Zr).map (·.2))=three m++(zs.map (·.2)).filter kpB:=by rw[<- ew];rfl
   have b3:=hl34 (m:=m) hl;rw[<- G] at b3;have zl:((T1,([wS],some 1))::(T2,([wD],none))::(T3,([wD,wI],some m))::g:List Zr).length<=11:=by show g.length+1+1+1<=11;lia
   generalize ((T1,([wS],some 1))::(T2,([wD],none))::(T3,([wD,wI],some m))::g:List Zr)=W at c0 G b3 zl;generalize zs.map (·.2)=q9 at G;refine gY l1 λw0 h9=>?_;refine⟨_,rfl,_,rfl,λh dx hh l9 n'=>?_⟩;refine⟨h,dx,L4,bl,W,rfl,q0d,x7p c0 hh l9,b3,by lia,λd Hh hd i1 i2 i3=>⟨rfl,?_⟩⟩;obtain⟨sh,_⟩:=x1c hh l9 hd i3;have ha:HallAt c Hh h d bl (W.map (·.2)):=⟨⟨dx,i1⟩,i2⟩
   have d7:=l8.same sh;have r3:=c0.same sh;refine gY h9 λw1 i0=>?_;refine⟨_,rfl,a,b,3,rfl,d7.feed,by decide,by decide,λnr Hr z1 z2 fdr=>.inl ⟨_,_,rfl,rfl,_,rfl,by lia,by lia,λM6 d8=>?_⟩⟩;have fdr':=d7.trans fdr;have f5:=fdr'.free d8;have m1:M6≠a:=(Fs.na f5).symm;refine q7m (λj ys H'=>∃g:List (Addr×RK),ys=g.map (λw=>V.ref w.1)/\g.map (·.2)=((List.range j).map rDr).map RK.ok/\j<=3/\(∀w∈g,RkAt K H' w.1 w.2)/\Same Hr H'/\H' M6=some (.lst ys)) ⟨[],rfl,rfl,by lia,(λ_ h=>nomatch h),(Same.refl Hr).new d8,q0d⟩ (λj ys H' q=>by obtain⟨_,_,_,_,_,_,h⟩:=q;exact h) ?_ ?_
   ·rintro j ys H5 hj ⟨g,rfl,ew,i4,i5,c1,a7⟩;have z3:g.length=j:=by have:=congrArg List.length ew;simpa using this
    refine⟨_,rfl,by show 4<=sizeLine;decide,λR hR=>?_⟩;have s6:=(Same.refl H5).new (o:=.tup [.str (Ab "drawer"),.str (Ab "#"),.str (Ab "{1}"),.int (0+(j:Int))]) hR;have m2:upd H5 R (.tup [.str (Ab "drawer"),.str (Ab "#"),.str (Ab "{1}"),.int (0+(j:Int))]) R=some (.tup [.str (Ab "drawer"),.str (Ab "#"),.str (Ab "{1}"),.int (j:Int)]):=by rw[q0d,Int.zero_add]
    generalize upd H5 R (.tup [.str (Ab "drawer"),.str (Ab "#"),.str (Ab "{1}"),.int (0+(j:Int))])=H6 at s6 m2;have k7:∀T I,H6 T=some (.tup I)->upd H6 M6 (.lst (g.map (λw=>V.ref w.1)++[V.ref R])) T=some (.tup I):=λT I e=>by rw[q0f (λz=>by rw[z,s6 _ _ a7] at e;cases e)];exact e
    refine⟨s6 _ _ a7,TX.small' (by rw[Af];lia),g++[(R,.ok (rDr j))],by rw[Au];rfl,by rw[Au,ew,List.range_succ,Au,Au];rfl,by lia,λw hw=>?_,(c1.trans s6).put d8,q0d⟩;rcases Ba.mp hw with z|z
    ·exact((i5 w z).same s6).keep k7
    ·rw[Ao.mp z];exact(dr_at (by lia) m2).keep k7
   rintro ys H5 ⟨g,rfl,ew,i4,i5,c1,a7⟩;generalize ((1:Int)+nr).toNat=j0 at ew i4;have r4:LS K c Hs H5 a b h d bl W L4 M6 g:=by
    have m3:=r3.fd d7.feed fdr f4;exact⟨Fs,fdr'.same c1,(ha.fd d7.feed fdr).same c1,m3.same c1,a7,i5,λw hw r e=>by
     have:w.2∈((List.range j0).map rDr).map RK.ok:=ew▸Aw.mpr ⟨w,hw,rfl⟩;obtain⟨r',h1,h2⟩:=Aw.mp this;obtain⟨j,hj,rfl⟩:=Aw.mp h1;rw[<- h2] at e;cases e;exact ok_dr (by have:=Si.mp hj;lia),m1,f5,f4,λz=>by have:=m3.at_;rw[z,d8] at this;cases this⟩
   have i6:∀r∈(List.range j0).map rDr,TeN r:=λr O=>by
    obtain⟨j,_,rfl⟩:=Aw.mp O;exact te_dr j
   have r5:((List.range j0).map rDr).length<=3:=by rw[Af,List.length_range];exact i4
   generalize (List.range j0).map rDr=ds at ew i6 r5;subst i0;refine⟨by show 0<=sizeLine;decide,λP0 r7=>?_⟩;obtain⟨e0,t0⟩:=q4m (xs:=[]) (q:=[]) r7 rfl;generalize upd H5 P0 (.tup [])=G0 at e0 t0;refine⟨by show 1<=sizeLine;decide,λP1 r8=>?_⟩;obtain⟨e1,t1⟩:=q4m (xs:=[.str (Ab "drawer")]) (q:=[wD]) r8 (by trivial);generalize upd G0 P1 (.tup [.str (Ab "drawer")])=G1 at e1 t1;refine⟨by show 2<=sizeLine;decide,λP2 r9=>?_⟩;obtain⟨e2,t2⟩:=q4m (xs:=[.str (Ab "drawer"),.str (Ab "no")]) (q:=[wD,[110,111]]) r9 (by trivial);generalize upd G1 P2 (.tup [.str (Ab "drawer"),.str (Ab "no")])=G2 at e2 t2;refine⟨by show 1<=sizeLine;decide,λP3 s0=>?_⟩;obtain⟨e3,t3⟩:=q4m (xs:=[.str (Ab "slip")]) (q:=[wS]) s0 (by trivial);generalize upd G2 P3 (.tup [.str (Ab "slip")])=G3 at e3 t3;refine⟨by show 1<=sizeLine;decide,λP4 s4=>?_⟩;obtain⟨e4,t4⟩:=q4m (xs:=[.str (Ab "Drawer")]) (q:=[[68,114,97,119,101,114]]) s4 (by trivial);generalize upd G3 P4 (.tup [.str (Ab "Drawer")])=G4 at e4 t4;refine⟨by show 0<=sizeLine;decide,λP5 s5=>?_⟩;obtain⟨e5,t5⟩:=q4m (xs:=[]) (q:=[]) s5 rfl;generalize upd G4 P5 (.tup [])=G5 at e5 t5;refine⟨by show 6<=sizeLine;decide,λLP s7=>?_⟩;have tL:=(Same.refl G5).new (o:=.lst [.ref P0,.ref P1,.ref P2,.ref P3,.ref P4,.ref P5]) s7;have eL:upd G5 LP (.lst [.ref P0,.ref P1,.ref P2,.ref P3,.ref P4,.ref P5]) LP=some (.lst [.ref P0,.ref P1,.ref P2,.ref P3,.ref P4,.ref P5]):=q0d;generalize upd G5 LP (.lst [.ref P0,.ref P1,.ref P2,.ref P3,.ref P4,.ref P5])=G6 at tL eL;have m4:=t5.trans tL;have m5:=t4.trans m4;have m6:=t3.trans m5;have m7:=t2.trans m6;have m8:=t1.trans m7;have d9:=r4.same (t0.trans m8);have n2:LP≠a:=λz=>by obtain⟨i,j,e⟩:=d9.fd.feed.fa;rw[<- z,eL] at e;cases e
   refine⟨_,rfl,a,b,6,rfl,d9.fd.feed,by decide,by decide,λr Hq r0 r6 i7=>?_⟩;have s8:∃p q,atI [V.ref P0,.ref P1,.ref P2,.ref P3,.ref P4,.ref P5] r=some (.ref p)/\G6 p=some (.tup (vP q))/\(q=[]\/(lowN (q.headD [])∈wO/\q.length<=2/\(∀n∈q,n.length<=6/\∀c∈n,c<128)/\((q,(none:Option Int))∈three m->q=[wD]))):=by
    obtain⟨n,rfl⟩:∃n:Nat,r=n:=⟨r.toNat,by lia⟩
    have hn:n<6:=by lia
    have no:∀q:Pth,q≠[wD]->(q,(none:Option Int))∈three m->q=[wD]:=λq hq z=>by
     rcases Az.mp z with z|z
     ·injection z with _ z;cases z
     rcases Az.mp z with z|z
     ·injection z
     have z:=Ao.mp z;injection z with _ z;cases z
    match n,hn with
    |0,_=>exact⟨P0,[],rfl,m8 _ _ e0,.inl rfl⟩
    |1,_=>exact⟨P1,[wD],rfl,m7 _ _ e1,.inr ⟨by decide,by decide,by decide,λ_=>rfl⟩⟩
    |2,_=>exact⟨P2,_,rfl,m6 _ _ e2,.inr ⟨by decide,by decide,by decide,no _ (by decide)⟩⟩
    |3,_=>exact⟨P3,_,rfl,m5 _ _ e3,.inr ⟨by decide,by decide,by decide,no _ (by decide)⟩⟩
    |4,_=>exact⟨P4,_,rfl,m4 _ _ e4,.inr ⟨by decide,by decide,by decide,no _ (by decide)⟩⟩
    |5,_=>exact⟨P5,_,rfl,tL _ _ e5,.inl rfl⟩
   obtain⟨p,q,e7,e8,hq⟩:=s8;have t6:=d9.fdr i7;have t7:=tupFd d9.fd.feed i7 _ _ e8;refine .inl ⟨LP,_,_,_,rfl,rfl,SqL.of (i7.at eL n2),e7,?_⟩;have n3:PB q:=by
    rcases hq with rfl|⟨_,h1,h2,_⟩
    ·exact⟨Bf _,(λ_ h=>nomatch h)⟩
    ·exact⟨by lia,λn hn=>⟨Bg (h2 n hn).1 (by decide),(h2 n hn).2⟩⟩
   refine⟨by show 2<=sizeLine;decide,λB0 t8=>?_⟩;have sB:=(Same.refl Hq).new (o:=.tup [.str (Ab "wishes"),.bl true]) t8;have n4:DvAt (upd Hq B0 (.tup [.str (Ab "wishes"),.bl true])) B0 .ok:=q0d;generalize upd Hq B0 (.tup [.str (Ab "wishes"),.bl true])=z4 at sB n4;have a5:=t6.same sB;have f6:=sB _ _ t7;have c2:Low q:=λn hn=>(n3.all n hn).2;have c3:∀r∈W.map (·.2),okP r.1:=b3.ok;have n5:(q=[]\/(q,(none:Option Int))∈W.map (·.2))->q=[]\/q=[wD]:=λz=>by
    rcases z with z|z
    ·exact .inl z
    rcases hq with y|⟨y1,_,_,y2⟩
    ·exact .inl y
    ·rw[G] at z;exact .inr (y2 ((mem34 y1).mp z))
   have t9:q=[]\/q=[wD]->(q=[]\/(q,(none:Option Int))∈W.map (·.2)):=λz=>z.imp id λz=>by
    rw[G,z];exact Co _ (Ap _ Av)
   have u1:([wD]:Pth)=[]\/([wD],(none:Option Int))∈W.map (·.2):=.inr (by rw[G];exact Co _ (Ap _ Av));refine⟨λS H'=>∃(B:Addr) (du:Dv) (rs:List RD) (g:List (Addr×RK)) (y9 a8 a9 a0:Option V),S=[some (.ref sc),some (.ref a),some (.int (0+(i:Int))),some (.bl bl),some (.ref L4),some (.ref h),some (.ref M6),some (.ref p),some (.ref B),y9,a8,a9,a0]/\LS K c Hs H' a b h d bl W L4 M6 g/\g.map (·.2)=rs.map RK.ok/\rs.length<=4/\H' p=some (.tup (vP q))/\DvAt H' B du/\LowD du/\((q=[]\/(q,(none:Option Int))∈W.map (·.2))->DueW (W.map (·.2)) q (rs.map RK.ok) du),?_,?_⟩
   ·rintro S n6 ⟨B,du,rs,g,y9,a8,a9,a0,rfl,ls,ew,c0,hp,dv,lo,dw⟩;refine⟨λS H'=>∃(B:Addr) (du:Dv) (y9 a8 a9 a0:Option V),S=[some (.ref sc),some (.ref a),some (.int (0+(i:Int))),some (.bl bl),some (.ref L4),some (.ref h),some (.ref M6),some (.ref p),some (.ref B),y9,a8,a9,a0]/\LS K c Hs H' a b h d bl W L4 M6 g/\H' p=some (.tup (vP q))/\DvAt H' B du/\LowD du/\DueW (W.map (·.2)) q (rs.map RK.ok) du,?_,?_⟩
    ·rintro S e6 ⟨B,du,y9,a8,a9,a0,rfl,ls,hp,dv,lo,dw⟩;refine⟨λS H'=>∃(B:Addr) (du:Dv) (g:List (Addr×RK)) (y9 a8 a9 a0:Option V),S=[some (.ref sc),some (.ref a),some (.int (0+(i:Int))),some (.bl bl),some (.ref L4),some (.ref h),some (.ref M6),some (.ref p),some (.ref B),y9,a8,a9,a0]/\LS K c Hs H' a b h d bl W L4 M6 g/\H' p=some (.tup (vP q))/\DvAt H' B du/\LowD du/\DueW (W.map (·.2)) q (g.map (·.2)) du,?_,?_⟩
     ·rintro S i8 ⟨B,du,g,y9,a8,a9,a0,rfl,ls,hp,dv,lo,dw⟩
      with_reducible refine gZ λw2 i9=>?_
      refine⟨_,rfl,_,rfl,_,rfl,h,d,p,M6,bl,W.map (·.2),q,g.map (·.2),du,rfl,ls.ha,b3,by rw[Af];lia,hp,n3,ls.rkl,dw,λT c4 n7 dT=>⟨_,rfl,ne_dv dT (dv.same n7) lo ⟨_,rfl,iteF ?_⟩⟩⟩;have J:=ls.same n7;subst i9;refine⟨_,rfl,by show 1<=sizeLine;decide,λD1 u2=>⟨by show 4<=sizeLine;decide,λR1 u3=>⟨by show 1<=sizeLine;decide,λLR u4=>?_⟩⟩⟩;obtain⟨eD,tD⟩:=q4m (xs:=[.str (Ab "drawer")]) (q:=[wD]) u2 (by trivial);have tR:=(Same.refl _).new (o:=.tup [.str (Ab "all"),.str (Ab "in"),.str (Ab "out"),.int 0]) u3;have tl:=(Same.refl _).new (o:=.lst [.ref R1]) u4;have n8:=J.same ((tD.trans tR).trans tl);have u5:=in_at (K:=K) (tl _ _ (q0d (a:=R1) (o:=.tup [.str (Ab "all"),.str (Ab "in"),.str (Ab "out"),.int 0])));refine⟨h,d,D1,LR,bl,W.map (·.2),[wD],[.ok rIn'],.ok,rfl,n8.ha,b3,by rw[Af];lia,tl _ _ (tR _ _ eD),⟨by decide,by decide⟩,⟨⟨[R1],q0d,rfl,λi R k e1 e2=>?_⟩,λr O=>?_⟩,x5l (rs:=[rIn']) c3 u1 (λr O=>by rw[Ao.mp O];exact te_in),λT2 X u6 u7=>?_⟩
      ·match i,e1,e2 with
       |0,e1,e2=>cases e1;cases e2;exact u5
      ·cases Ao.mp O;exact ok_in
      refine⟨by show 2<=sizeLine;decide,λB2 c5=>?_⟩;have n9:=(Same.refl X).new (o:=.tup [.str (Ab "wishes"),.bl true]) c5;subst l0;exact ne_dv (u7.same n9) (show DvAt _ B2 .ok from q0d) trivial ⟨_,rfl,iteF ⟨_,_,_,_,_,_,_,_,_,_,_,rfl,fd.trans (n8.same (u6.trans n9)).fd⟩⟩
     ·refine⟨_,rfl,a,b,2,rfl,ls.fd.feed,by decide,by decide,λr1 i8 u8 u9 a1=>.inl ⟨rfl,_,rfl,ite2 (λ_=>?_) (λ_=>?_)⟩⟩;rotate_left
      ·exact⟨B,du,_,_,_,_,_,rfl,ls.fdr a1,tupFd ls.fd.feed a1 _ _ hp,dv.keep (tupFd ls.fd.feed a1),lo,ew▸dw⟩
      have b4:=ls.fdr a1
      with_reducible refine gE λw3 w4 c6 j1=>?_
      refine⟨_,rfl,a,b,rfl,a1.feed,λT d1 c4 c7 pr=>?_⟩;obtain⟨A,Bb,p1,p2,p3⟩:=pr.ex;have J:=b4.fdr c7;have a6:=tupFd a1.feed c7 _ _ (tupFd ls.fd.feed a1 _ _ hp);refine⟨T,_,rfl,SqT.of p1,rfl,_,_,rfl,_,_,rfl,rfl,?_⟩;have wl:g.length<=4:=by have:=congrArg List.length ew;rw[Af,Af] at this;lia
      subst j1;refine⟨_,rfl,.inl ⟨rfl,⟨_,SqL.of J.at_⟩⟩,_,rfl,_,rfl,_,_,rfl,.inl ⟨_,SqL.of J.at_,rfl⟩,.inl ⟨_,_,rfl,rfl,a,b,_,rfl,J.fd.feed,by lia,by rw[Af];lia,λn X n0 n1 f7=>?_⟩⟩;obtain⟨n,rfl⟩:∃n':Nat,n=n':=⟨n.toNat,by lia⟩
      rw[Af] at n1;have b0:=J.fdr f7;have p2':=p2;refine⟨_,rfl,M6,_,_,n,rfl,rfl,b0.at_,TX.small' (by rw[Af];lia),by rw[Af];lia,by lia,?_⟩;have eI:insN (g.map λw=>V.ref w.1) n (.ref A)=(insN g n (A,RK.bad d1)).map λw=>V.ref w.1:=z6h (λw:Addr×RK=>V.ref w.1) g n (A,.bad d1);have f8:=tupFd c7.feed f7;have Y:=b0.put (H':=upd X M6 (.lst (insN (g.map λw=>V.ref w.1) n (.ref A)))) (ws':=insN g n (A,.bad d1)) (by rw[eI]) λw hw=>(x4j hw).imp id λz=>by
       rw[z];exact⟨p2.keep f8,λr e=>by cases e⟩
      have c8:∀T I,c4 T=some (.tup I)->upd X M6 (.lst (insN (g.map λw=>V.ref w.1) n (.ref A))) T=some (.tup I):=λT I e=>b0.kt (ws':=insN g n (A,.bad d1)) (by rw[eI]) _ _ (f8 _ _ e);have lo1:=pr.low;have wl':(insN g n (A,RK.bad d1)).length<=5:=by unfold insN;rw[Aj,Be,Dg,Dh];lia
      have ew':(insN g n (A,RK.bad d1)).map (·.2)=insN (rs.map RK.ok) n (.bad d1):=by rw[<- ew];exact(z6h (λw:Addr×RK=>w.2) g n (A,.bad d1)).symm
      generalize upd X M6 (.lst (insN (g.map λw=>V.ref w.1) n (.ref A)))=e9 at Y c8;have f9:=c8 _ _ a6;have g0:=p3.keep c8;generalize insN g n (A,RK.bad d1)=wi at Y wl' ew';refine⟨_,rfl,a,b,2,rfl,Y.fd.feed,by decide,by decide,λr2 z5 z6 z7 a2=>.inl ⟨rfl,_,rfl,ite2 (λ_=>?_) (λ_=>?_)⟩⟩;rotate_left
      ·subst c6;exact⟨Bb,d1,wi,_,_,_,_,rfl,Y.fdr a2,tupFd Y.fd.feed a2 _ _ f9,g0.keep (tupFd Y.fd.feed a2),lo1,by rw[ew'];have:=x1q (rows:=W.map (·.2)) (q:=q) (rs:=rs) (n:=n) (d:=d1) (tl':=[]);rwa [Dq] at this⟩
      have g1:=Y.fdr a2;refine⟨_,rfl,.inl ⟨rfl,⟨_,SqL.of g1.at_⟩⟩,_,rfl,a,b,rfl,a2.feed,λT2 d2 j2 g2 d5=>?_⟩;obtain⟨Ax,Bx,q1,q2,q3⟩:=d5.ex;have c9:=g1.fdr g2;have g3:∀T I,e9 T=some (.tup I)->j2 T=some (.tup I):=λT I e=>tupFd a2.feed g2 _ _ (tupFd Y.fd.feed a2 _ _ e);refine .inr (.inl ⟨T2,_,0,_,rfl,rfl,SqT.of q1,q1m (j:=0) rfl,M6,_,_,rfl,rfl,c9.at_,TX.small' (by rw[Af];lia),?_⟩);have o0:(wi.map λw=>V.ref w.1)++[V.ref Ax]=(wi++[(Ax,RK.bad d2)]).map λw=>V.ref w.1:=by rw[Au];rfl
      have o1:=c9.put (H':=upd j2 M6 (.lst ((wi.map λw=>V.ref w.1)++[V.ref Ax]))) (ws':=wi++[(Ax,.bad d2)]) (by rw[o0]) λw hw=>(Ba.mp hw).imp id λz=>by
       rw[Ao.mp z];exact⟨q2,λr e=>by cases e⟩
      have g4:=c9.kt (H':=upd j2 M6 (.lst ((wi.map λw=>V.ref w.1)++[V.ref Ax]))) (ws':=wi++[(Ax,.bad d2)]) (by rw[o0]);subst c6;exact⟨Bb,d1,wi++[(Ax,.bad d2)],_,_,_,_,rfl,o1,g4 _ _ (g3 _ _ f9),(g0.keep g3).keep g4,lo1,by rw[Au,ew'];exact x1q⟩
    ·refine⟨_,rfl,by show 0<=sizeLine;decide,λQ0 v0=>⟨by show 1<=sizeLine;decide,λQ1 v1=>⟨by show 2<=sizeLine;decide,λU hU=>?_⟩⟩⟩;obtain⟨e0,t0⟩:=q4m (xs:=[]) (q:=[]) v0 rfl;obtain⟨e1,t1⟩:=q4m (xs:=[.str (Ab "drawer")]) (q:=[wD]) v1 (by trivial);have tU:=(Same.refl _).new (o:=.tup [.ref Q0,.ref Q1]) hU;have o2:=ls.same ((t0.trans t1).trans tU);have f2:=tU _ _ (t1 _ _ (t0 _ _ hp));have f0:=tU _ _ (t1 _ _ e0);have f1:=tU _ _ e1;have v2:=dv.same ((t0.trans t1).trans tU);refine⟨p,U,[Q0,Q1],q,rfl,rfl,q0d,f2,c2,λb' j3=>?_,?_⟩
     ·rcases Az.mp j3 with rfl|j3
      ·exact⟨_,f0,λ_ h=>nomatch h⟩
      ·rw[Ao.mp j3];exact⟨_,f1,by unfold Low;decide⟩
     have ea:[Q0,Q1].any (inP (upd (upd (upd n6 Q0 (.tup [])) Q1 (.tup [.str (Ab "drawer")])) U (.tup [.ref Q0,.ref Q1])) q)=decide (q=[]\/q=[wD]):=by
      rw[Kj,Kj,List.any_nil,x0o f0,x0o f1,Pu,<- Oy];exact decide_eq_decide.mpr ⟨λz=>z.imp Xv Xv,λz=>z.imp Xv Xv⟩
     refine⟨_,rfl,?_⟩;show if (!([Q0,Q1].any _))=true then _ else _
     rw[ea];by_cases f3:q=[]\/q=[wD]
     ·rw[decide_eq_true f3];exact iteF ⟨B,du,_,_,_,_,rfl,o2,f2,v2,lo,dw (t9 f3)⟩
     ·rw[decide_eq_false f3];refine iteT ⟨_,rfl,by show 2<=sizeLine;decide,λB2 c5=>?_⟩;have t2:=(Same.refl _).new (o:=.tup [.str (Ab "drawer"),.ref p]) c5;exact⟨B2,.drw q,_,_,_,_,rfl,o2.same t2,t2 _ _ f2,⟨p,q0d,t2 _ _ f2⟩,c2,x7u λz=>f3 (n5 z)⟩
   ·refine⟨_,rfl,a,b,2,rfl,a5.fd.feed,by decide,by decide,λr1 n6 u8 u9 a4=>.inl ⟨rfl,_,rfl,ite2 (λ_=>?_) (λ_=>?_)⟩⟩;rotate_left
    ·exact⟨B0,.ok,ds,g,_,_,_,_,rfl,a5.fdr a4,ew,by lia,tupFd a5.fd.feed a4 _ _ f6,n4.keep (tupFd a5.fd.feed a4),trivial,λz=>x5l c3 z i6⟩
    have o3:=a5.fdr a4
    with_reducible refine gE λw5 w6 j4 j5=>?_
    refine⟨_,rfl,a,b,rfl,a4.feed,λT r ts e6 g5 pl=>?_⟩;obtain⟨A,Tx,p1,p2,p3⟩:=pl.ex;have b5:=o3.fdr g5;have o4:=tupFd a4.feed g5 _ _ (tupFd a5.fd.feed a4 _ _ f6);refine⟨T,_,rfl,SqT.of p1,rfl,_,_,rfl,_,_,rfl,rfl,?_⟩;have wl:g.length<=3:=by have:=congrArg List.length ew;rw[Af,Af] at this;lia
    subst j5;refine⟨_,rfl,.inl ⟨rfl,⟨_,SqL.of b5.at_⟩⟩,_,rfl,M6,_,_,rfl,rfl,b5.at_,TX.small' (by rw[Af];lia),?_⟩;have b4:=b5.put (H':=upd e6 M6 (.lst (V.ref A::g.map λw=>V.ref w.1))) (ws':=(A,.ok r)::g) rfl λw hw=>(Az.mp hw).symm.imp id λz=>by
     rw[z];exact⟨p2,λr' e=>by cases e;exact pl.la.ok⟩
    have g6:=b5.kt (H':=upd e6 M6 (.lst (V.ref A::g.map λw=>V.ref w.1))) (ws':=(A,.ok r)::g) rfl;have g7:=g6 _ _ o4;have g8:=g6 _ _ p3;generalize upd e6 M6 (.lst (V.ref A::g.map λw=>V.ref w.1))=i8 at b4 g7 g8
    with_reducible refine gZ λw7 j6=>?_
    refine⟨by show 2<=sizeLine;decide,λF hF=>?_⟩;obtain⟨eF,tF⟩:=q4m (xs:=[.str (Ab "drawer"),.str (Ab "in")]) (q:=[wD,wI]) hF (by trivial);have J:=b4.same tF;have a6:=tF _ _ g7;have d0:=tF _ _ g8;generalize upd i8 F (.tup [.str (Ab "drawer"),.str (Ab "in")])=c4 at J a6 d0 eF;subst j6;refine⟨λS H'=>∃(F:Addr) (fp:Pth) (a0:Option V),S=[some (.ref sc),some (.ref a),some (.int (0+(i:Int))),some (.bl bl),some (.ref L4),some (.ref h),some (.ref M6),some (.ref p),some (.ref B0),some (.ref A),some (.ref Tx),some (.ref F),a0]/\LS K c Hs H' a b h d bl W L4 M6 ((A,.ok r)::g)/\H' p=some (.tup (vP q))/\H' F=some (.tup (vP fp))/\H' Tx=some (.tup (vP ts))/\Low fp/\((q=[]\/(q,(none:Option Int))∈W.map (·.2))->∀sr,Srt (W.map (·.2)) sr->∃x,(sr.filter (benB q)).find? (λr'=>forB r.kd r'.2)=some x/\x.1=fp),?_,?_⟩
    ·rintro S X ⟨F,fp,a0,rfl,b0,o5,o6,o7,lf,v3⟩;refine⟨_,rfl,_,rfl,by show 3<=sizeLine;decide,λB2 c5=>?_⟩;have t2:=(Same.refl X).new (o:=.tup [.str (Ab "place"),.ref F,.ref Tx]) c5;subst j4;exact⟨B2,.plc fp ts,r::ds,(A,.ok r)::g,_,_,_,_,rfl,b0.same t2,by rw[Ar,ew];rfl,by rw[Be];lia,t2 _ _ o5,⟨F,Tx,q0d,t2 _ _ o6,t2 _ _ o7⟩,⟨lf,pl.la.low⟩,λz=>x7v c3 z i6 (by rw[G];exact pl.la.la _ _) (v3 z)⟩
    ·refine⟨_,rfl,by show 0<=sizeLine;decide,λZ hZ=>?_⟩;have tZ:=(Same.refl c4).new (o:=.tup []) hZ;refine q7x (q:=[]) (tZ _ _ a6) q0d c2 (λ_ h=>nomatch h) ⟨_,rfl,ite2 (λe=>?_) (λe=>?_)⟩;rotate_left
     ·have v4:q≠[]:=λz=>e (decide_eq_true z);refine⟨F,[wD,wI],_,rfl,J.same tZ,tZ _ _ a6,tZ _ _ eF,tZ _ _ d0,by unfold Low;decide,λz sr j7=>?_⟩;rw[(n5 z).resolve_left v4];exact x4k (bl:=bl) G pl.la.kd j7
     have v5:q=[]:=of_decide_eq_true e;have b8:=J.same tZ;have o8:=tZ _ _ a6;have o9:=tZ _ _ d0;generalize upd c4 Z (.tup [])=X at b8 o8 o9
     with_reducible refine gE λw8 w9 j8 j9=>?_
     refine⟨_,rfl,.inl ⟨L4,rfl,⟨_,SqL.of b8.rl.at_⟩,λD hD=>?_⟩⟩;have p0:=pl.la.kd;have v6:∃I,X A=some (.tup (.str r.kd::I)):=⟨_,(show RuleAt K X A r.kd r.l r.qs (r.st:Int) from b8.pk _ Av).at_⟩
     refine q5g (xs:=W.map λz=>V.ref z.1) (λj ys H'=>∃us:List Zp,ys=us.map (λu=>V.ref u.1)/\us.map (·.2)=(((W.take j).map (·.2)).filter λr'=>forB r.kd r'.2).map (·.1)/\(∀u∈us,X u.1=some (.tup (vP u.2))/\u.2≠[])/\us.length<=j/\j<=W.length/\Same X H'/\H' D=some (.lst ys)) ⟨[],rfl,rfl,(λ_ h=>nomatch h),Ai _,Bf _,(Same.refl X).new hD,q0d⟩ (λj ys H' q=>by obtain⟨_,_,_,_,_,_,sm,h⟩:=q;exact⟨h,SqL.of (sm _ _ b8.rl.at_)⟩) ?_ ?_
     ·rintro j ys e9 x hx ⟨us,rfl,eu,b9,ul,hj,sm,b6⟩;rw[Bm] at hx;obtain⟨z,hz,rfl⟩:=Ck.mp hx;have b7:=Bd hz;have hj':=(As.mp hz).1;obtain⟨bp,b1,b2⟩:=b8.rl.pr z b7;obtain⟨I,hA⟩:=v6;have d4:=c3 z.2 (Aw.mpr ⟨z,b7,rfl⟩);have et:((W.take (j+1)).map (·.2)).filter (λr'=>forB r.kd r'.2)=((W.take j).map (·.2)).filter (λr'=>forB r.kd r'.2)++(if forB r.kd z.2.2 then[z.2] else[]):=by
       rw[Gf,hz,Au,Hm];cases e:forB r.kd z.2.2<;>simp[e]
      refine⟨z.1,_,rfl,SqT.of (sm _ _ b1),rfl,_,_,rfl,_,_,rfl,rfl,q4b,?_⟩;refine⟨λbb H2=>bb=forB r.kd z.2.2/\H2=e9,?_,?_⟩
      ·rintro bb H2 ⟨rfl,rfl⟩;refine ite2 (λe=>?_) (λe=>?_)
       ·refine⟨_,rfl,b6,TX.small' (by rw[Af];lia),us++[(bp,z.2.1)],by rw[Au];rfl,by rw[Au,eu,et,if_pos e,Au];rfl,λu hu=>?_,by rw[Aj,Bk];lia,hj',sm.put hD,q0d⟩;rcases Ba.mp hu with y|y
        ·exact b9 u y
        ·rw[Ao.mp y];exact⟨b2,d4.ne⟩
       ·exact⟨us,rfl,by rw[eu,et,if_neg e,Dq],b9,by lia,hj',sm,b6⟩
      rw[z5d p0];refine⟨_,rfl,_,rfl,?_⟩;show if (!decide (mV z.2.2=V.non))=true then _ else _
      cases z.2.2 with
      |some v=>exact iteT ⟨rfl,rfl⟩
      |none=>exact iteF ⟨_,rfl,.inr (.inl ⟨A,_,0,.str r.kd,rfl,rfl,SqT.of (sm _ _ hA),q1m (j:=0) rfl,.inl ⟨rfl,_,rfl,rfl,rfl⟩⟩)⟩
     rintro ys e9 ⟨us,rfl,eu,b9,ul,_,sm,b6⟩;rw[Af,Dj] at eu;refine⟨D,us,rfl,b6,by rw[Af] at ul;lia,λu hu=>⟨sm _ _ (b9 u hu).1,(b9 u hu).2⟩,λL' k0 v7 pm pw=>?_⟩;have e1:(k0.map (·.2)).Perm (((W.map (·.2)).filter λr'=>forB r.kd r'.2).map (·.1)):=by
      have:=pm.map (·.2)
      rwa [eu] at this
     have sA:=sm.new (o:=.lst (k0.map λu=>V.ref u.1)) v7;cases k0 with
     |nil =>
      have h1:(([wS],some 1):Rw)∈(W.map (·.2)).filter λr'=>forB r.kd r'.2:=by
       refine Dw.mpr ⟨by rw[G];exact Co _ Av,?_⟩;rw[z5d p0];rfl
      have h2:=e1.mem_iff.mpr (Aw.mpr ⟨_,h1,rfl⟩);cases h2
     |cons u0 us1 =>
      have v8:=b9 u0 (pm.mem_iff.mp Av);have v9:Low u0.2:=by
       obtain⟨x,hx,e⟩:=Aw.mp (e1.mem_iff.mp (Aw.mpr ⟨u0,Av,rfl⟩));rw[<- e];exact(c3 x (Dw.mp hx).1).low
      subst j8;subst j9;exact⟨_,rfl,.inl ⟨L',_,0,_,rfl,rfl,SqL.of q0d,q1m (j:=0) rfl,u0.1,u0.2,_,rfl,b8.same sA,sA _ _ o8,sA _ _ v8.1,sA _ _ o9,v9,λ_ sr j7=>by rw[v5];exact x1t b3 e1 pw rfl j7⟩⟩
  ·rintro S H' ⟨x2,x3,x4,x5,x6,x7,x8,x9,g9,h0,h3,rfl,fd⟩;subst k2;subst k4;exact k H'
end
end K
set_option maxHeartbeats 4000000
namespace K
open PySem L2 TX SB HM
def df_mk{K:Ah}{mg:Str->Option Value}{h:Heap}{x:Str}{st:Stmt}{ps:List Str}{f:Addr}{u:Value}{v o:Option Addr}{s:Array (Option Value)}{kV j pm g ct:Value}(X:K.In h)(G:h.Ns Ci mg)(a:Gz K Ci x=some (some (.ref f)))(l:K.lookup f=some ⟨u,v,.func (Il x x (defArgs st) (defBody st) (defScope st) .none kV j pm o g ct),s⟩)(c:Lf K g x=true)(k:Ff K (.ref f)=true)(B:∀(kV j pm:Value) (o:Option Addr) (g ct:Value) (us:List Value),us.length=ps.length->bindArgs (Il x x (defArgs st) (defBody st) (defScope st) .none kV j pm o g ct) ⟨us,[]⟩=pure (ps.zip us)):Df K mg x st ps :=
 ⟨f,_,q7g l c k,Ni X G a,(q7g (st:=st) l c k).binds B⟩
def mf_mk{K:Ah}{C:Addr}{m g:Str}{st:Stmt}{ps:List Str}{f:Addr}{u:Value}{v o:Option Addr}{s:Array (Option Value)}{kV j pm h ct:Value}(a:Bq K (.ref C) m=some (some (.ref f)))(l:K.lookup f=some ⟨u,v,.func (Il m g (defArgs st) (defBody st) (defScope st) .none kV j pm o h ct),s⟩)(c:Lf K h g=true)(k:Ff K (.ref f)=true)(i:Xd K (.ref f)=true)(B:∀(kV j pm:Value) (o:Option Addr) (h ct:Value) (us:List Value),us.length=ps.length->bindArgs (Il m g (defArgs st) (defBody st) (defScope st) .none kV j pm o h ct) ⟨us,[]⟩=pure (ps.zip us)):Mf K C m g st ps :=
 ⟨⟨f,_,q7g l c k,⟨a,i,k⟩,(q7g (st:=st) l c k).binds B⟩⟩
structure Eb (K:Ah) (mg:Str->Option Value) (D:Addr) (mc:Value):Prop where
 gl:mg "HallError" = some (.ref D)
 base:EBase K D
 ini:EIni K D mc
 hn:Mn K (.builtin "object.__class__") "__get__" = some (some (.builtin "getset_descriptor.__get__"))
 htk:Uz K (.builtin "object.__class__")=some true
def eb_mk{K:Ah}{mg:Str->Option Value}{h:Heap}(X:K.In h)(G:h.Ns Ci mg){D:Addr}{nm u:Str}{N:Addr}{bs:List Value}{v:List Str}{f:List Value}{B:Bool}{j:Option Bool}{dd:Option Addr}{C E F H I:Option Value}{L o:Value}{M:Option Addr}{J:Array Jw}{O:Nat}{P:Array (Option Value)}(g:Gz K Ci "HallError" = some (some (.ref D)))(l:K.lookup D=some (Ds nm u D N bs bmV true v f B j dd C E F H I "ValueError.__new__"))(n:K.lookup N=some ⟨L,M,.dict J O,P⟩)(s:J.toList.all strKey=true)(i:Gz K N "__init__" = some none)(sp:Mn K (.ref D) "__getattribute__" = some (some (.builtin "type.__getattribute__")))(Q:W.typeIn K (.ref D)=some o)(rd:W.readsIn K D o=true)(fc:W.findCls K (.ref D) o "__init__" = some (.val (.builtin "ValueError.__init__")))(hn:Mn K (.builtin "object.__class__") "__get__" = some (some (.builtin "getset_descriptor.__get__")))(htk:Uz K (.builtin "object.__class__")=some true):Eb K mg D o :=
 ⟨Ni X G g,⟨nm,u,N,bs,v,f,B,j,dd,C,E,F,H,I,l,z0f n s,i⟩,⟨sp,rd,fc⟩,hn,htk⟩
structure Ec (K:Ah) (mg:Str->Option Value) (x:Str) (C D:Addr) (qual:Str) (st:Stmt) (ps:List Str):Prop where
 gl:mg x=some (.ref C)
 ex:∃f fd,Fun K "__init__" qual st f fd/\ELaw K C D f/\Binds K fd ps []
 sa:Bq K (.ref C) "__setattr__" = some (some (.builtin "object.__setattr__"))
 ga:Bq K (.ref C) "__getattribute__" = some (some (.builtin "BaseException.__getattribute__"))
 gh:Bq K (.ref C) "__getattr__" = some none
 ha:Bq K (.ref C) "__class__" = some (some (.builtin "object.__class__"))
section
variable{K:Ah}{mg:Str->Option Value}{x:Str}{C D:Addr}{qual:Str}{st:Stmt}{ps:List Str}{mc:Value}{f:Str}
def Ec.ef(E:Ec K mg x C D qual st ps)(B:Eb K mg D mc):Ef K mg x C D qual st ps:=by
 obtain⟨f,fd,g,h,j⟩:=E.ex;exact⟨⟨f,fd,mc,g,h,B.base,B.ini,j⟩,E.gl⟩
def Ec.set(E:Ec K mg x C D qual st ps)(tk:Bq K (.ref C) f=some none):ESet K C f:=by
 obtain⟨_,_,_,h,_⟩:=E.ex;exact h.set E.sa tk
def Ec.get(E:Ec K mg x C D qual st ps)(tk:Bq K (.ref C) f=some none):EGet K C f:=by
 obtain⟨_,_,_,h,_⟩:=E.ex;exact h.get E.ga E.gh tk
def Ec.isi(E:Ec K mg x C D qual st ps)(B:Eb K mg D mc):EIsi K C:=by
 obtain⟨_,_,_,h,_⟩:=E.ex;exact⟨h.clsIn,E.ga,E.gh,E.ha,B.hn,B.htk⟩
def Ec.cls(E:Ec K mg x C D qual st ps):ECls K C (.ref D::bmV):=by
 obtain⟨_,_,_,h,_⟩:=E.ex;exact h.cls
def ec_mk{h:Heap}(X:K.In h)(G:h.Ns Ci mg){nm H:Str}{N:Addr}{bs:List Value}{I:List Str}{f:List Value}{J:Bool}{j:Option Bool}{dd:Option Addr}{L M O P Q:Option Value}{W:Value}{Y:Option Addr}{R:Array Jw}{Z:Nat}{sl:Array (Option Value)}{u:Addr}{v B:Option Addr}{E:Array (Option Value)}{o kV dc pm S ct:Value}(g:Gz K Ci x=some (some (.ref C)))(l:K.lookup C=some (Ds nm H C N bs (.ref D::bmV) true I f J j dd L M O P Q "ValueError.__new__"))(n:K.lookup N=some ⟨W,Y,.dict R Z,sl⟩)(s:R.toList.all strKey=true)(i:Gz K N "__init__" = some (some (.ref u)))(F:K.lookup u=some ⟨o,v,.func (Il "__init__" qual (defArgs st) (defBody st) (defScope st) .none kV dc pm B S ct),E⟩)(T:Lf K S qual=true)(U:Ff K (.ref u)=true)(ti:o=.type "function")(kp:Ff K (.ref C)=true)(sa:Bq K (.ref C) "__setattr__" = some (some (.builtin "object.__setattr__")))(ga:Bq K (.ref C) "__getattribute__" = some (some (.builtin "BaseException.__getattribute__")))(gh:Bq K (.ref C) "__getattr__" = some none)(ha:Bq K (.ref C) "__class__" = some (some (.builtin "object.__class__")))(hb:∀(kV doc pm:Value) (B:Option Addr) (cdv ct:Value) (us:List Value),us.length=ps.length->bindArgs (Il "__init__" qual (defArgs st) (defBody st) (defScope st) .none kV doc pm B cdv ct) ⟨us,[]⟩=pure (ps.zip us)):Ec K mg x C D qual st ps :=
 ⟨Ni X G g,⟨u,_,q7g F T U,⟨⟨nm,H,N,bs,I,f,J,j,dd,L,M,O,P,Q,l,z0f n s,i⟩,⟨_,F,ti⟩,kp⟩,(q7g (st:=st) F T U).binds hb⟩,sa,ga,gh,ha⟩
end
structure Ec0 (K:Ah) (mg:Str->Option Value) (x:Str) (C D:Addr):Prop where
 gl:mg x=some (.ref C)
 lw:EBase K D->ELaw0 K C D
 ga:Bq K (.ref C) "__getattribute__" = some (some (.builtin "BaseException.__getattribute__"))
 gh:Bq K (.ref C) "__getattr__" = some none
 ha:Bq K (.ref C) "__class__" = some (some (.builtin "object.__class__"))
section
variable{K:Ah}{mg:Str->Option Value}{x:Str}{C D:Addr}{mc:Value}
def Ec0.law(E:Ec0 K mg x C D)(B:Eb K mg D mc):ELaw0 K C D:=E.lw B.base
def Ec0.isi(E:Ec0 K mg x C D)(B:Eb K mg D mc):EIsi K C:=⟨(E.law B).clsIn,E.ga,E.gh,E.ha,B.hn,B.htk⟩
def ec0_mk{h:Heap}(X:K.In h)(G:h.Ns Ci mg){nm o:Str}{N:Addr}{bs:List Value}{u:List Str}{f:List Value}{v:Bool}{j:Option Bool}{dd:Option Addr}{E F H I J:Option Value}{M:Value}{O:Option Addr}{L:Array Jw}{P:Nat}{Q:Array (Option Value)}(g:Gz K Ci x=some (some (.ref C)))(l:K.lookup C=some (Ds nm o C N bs (.ref D::bmV) true u f v j dd E F H I J "ValueError.__new__"))(n:K.lookup N=some ⟨M,O,.dict L P,Q⟩)(s:L.toList.all strKey=true)(i:Gz K N "__init__" = some none)(kp:Ff K (.ref C)=true)(ga:Bq K (.ref C) "__getattribute__" = some (some (.builtin "BaseException.__getattribute__")))(gh:Bq K (.ref C) "__getattr__" = some none)(ha:Bq K (.ref C) "__class__" = some (some (.builtin "object.__class__"))):Ec0 K mg x C D :=
 ⟨Ni X G g,λB=>⟨⟨nm,o,N,bs,u,f,v,j,dd,E,F,H,I,J,l,z0f n s,i⟩,kp,B⟩,ga,gh,ha⟩
end
def len_1{f:List Value}(h:f.length=1):∃g,f=[g]:=List.length_eq_one_iff.mp h
def len_2{f:List Value}(h:f.length=2):∃g j,f=[g,j]:=by
 obtain⟨a,r,rfl⟩:=Hc h;obtain⟨o,rfl⟩:=len_1 (Rg h);exact⟨a,o,rfl⟩
def len_3{f:List Value}(h:f.length=3):∃g j o,f=[g,j,o]:=by
 obtain⟨a,r,rfl⟩:=Hc h;obtain⟨s,u,rfl⟩:=len_2 (Rg h);exact⟨a,s,u,rfl⟩
def len_4{f:List Value}(h:f.length=4):∃g j o s,f=[g,j,o,s]:=by
 obtain⟨a,r,rfl⟩:=Hc h;obtain⟨u,v,B,rfl⟩:=len_3 (Rg h);exact⟨a,u,v,B,rfl⟩
def all_mk{lw:Xz}{w:World}{K:Ah}{h:Heap}{mg:Str->Option Value}{fa:Addr}(X:K.In h)(G:h.Ns Ci mg)(r2:mg "law" = some (.ref fa)){o8:Addr}{p1 o3:Option Addr}{p2:Array (Option Value)}{p3 o4 o5 o6 l6 o7:Value}{g:Addr}{r3:Value}{u:Addr}{f:Addr}{a5:Addr}{o:Addr}{g1:Addr}{h7:Addr}{B:Addr}{L:Addr}{M:Addr}{d5:Addr}{i8 i9:Option Addr}{j0:Array (Option Value)}{j1 j2 j3 j4 g2 j5:Value}{g3:Addr}{l7:Option Addr}{l8:Array (Option Value)}{l9:Nat}{dC:Addr}{ep:Nat}{r4 r5 r6 r7:Tok}{dK:Addr}{r8:Nat}{r9:Option Addr}{s0:Array (Option Value)}{p4 p5 p6:Tok}{dO:Addr}{s1:Nat}{s2:Option Addr}{s3:Array (Option Value)}{p7 p8 p9 q1 q2:Tok}(l1:Df K mg "all_of" q8b Zu)(k4:Df K mg "is_name" q6e Y1)(m0:Df K mg "alike" z0q Zz)(d6:Df K mg "ask_signs" q2l Zf)(d3:Df K mg "text_parts" q3a Y1)(f4:Df K mg "parts_of" q3b Zf)(j6:Df K mg "asked" q6x Z3)(l2:Df K mg "end_of" q8c Zb)(h0:Df K mg "read_count" q3c Z0)(f7:Df K mg "read_noughts" q2g Z2)(h8:Df K mg "read_more" q3q Z2)(f5:Df K mg "read_gap" q3d Z2)(d7:Df K mg "read_mark" q2m Z0)(h9:Df K mg "read_into" q3s Z0)(i0:Df K mg "read_text" q3r Z0)(d4:Df K mg "read_piece" q2c Z0)(d8:Df K mg "pieces_of" q2n Zw)(g4:Df K mg "ask_gap" q4f Zd)(d9:Df K mg "ask_piece" q2o Z4)(f6:Df K mg "ask_rule" q3e Y8)(i1:Df K mg "gap_takes" q3p Zs)(m1:Df K mg "takes" z0k Y7)(e6:Df K mg "furthest_ends" q2a Zl)(e7:Df K mg "ends_of_parts" q2b Y4)(k5:Df K mg "reading" q6b Zx)(f8:Df K mg "with_noughts" q2h Zv)(j7:Df K mg "gap_text" q4s Y5)(h1:Df K mg "piece_text" q3f Zh)(m2:Df K mg "tells" z0p Zn)(f9:Df K mg "rows_beneath" q2i Y2)(l3:Df K mg "is_for" q8j Y0)(h2:Df K mg "told_texts" q3h Za)(j8:Df K mg "place_of" q4v Zj)(i2:Df K mg "wishes_of" q3v Zq)(n2:Df K mg "_law_draw" z4n Z5)(h3:Df K mg "_law_name_signs" q2z [])(n3:Df K mg "_law_text" z4o Z6)(l4:Df K mg "_law_a_name" q8i Ze)(n4:Df K mg "_law_fold" z4t Zg)(n5:Df K mg "_law_rows" z4u Z7)(j9:Df K mg "_law_bad_rule" q4x Ze)(i3:Df K mg "_law_last_rule" q3x Ze)(k6:Df K mg "_law_told_of" q6g Z8)(s4:Gz K Ci "law" = some (some (.ref o8)))(s5:K.lookup o8=some ⟨p3,p1,.func (Il "law" "law" (defArgs q3y) (defBody q3y) (defScope q3y) .none o4 o5 o6 o3 l6 o7),p2⟩)(s6:Lf K l6 "law" = true)(s7:Ff K (.ref o8)=true)(T:Txt mg)(E0:Eb K mg g r3)(Z:Ec K mg "NoPattern" u g "NoPattern.__init__" q1k Zc)(b8:Bq K (.ref u) "at" = some none)(R:Ec K mg "NoTemplate" f g "NoTemplate.__init__" q1h Zc)(a6:Bq K (.ref f) "at" = some none)(k7:mg "NoHall" = some (.ref a5))(a2:Ec K mg "NoDrawer" o g "NoDrawer.__init__" q1o Z9)(a7:Bq K (.ref o) "path" = some none)(k8:mg "NoWish" = some (.ref g1))(l5:mg "Meets" = some (.ref h7))(S:Ec K mg "NoPlace" B g "NoPlace.__init__" q1s Zi)(b9:Bq K (.ref B) "path" = some none)(a8:Bq K (.ref B) "texts" = some none)(e8:Ec0 K mg "NoRule" L g)(O:Fg K (.ref o) (.ref g)=some true)(a9:Fg K (.ref o) (.type "ValueError")=some true)(b0:Fg K (.ref u) (.ref g)=some true)(J:Fg K (.ref B) (.ref g)=some true)(b3:Fg K (.ref B) (.type "ValueError")=some true)(U:Fg K (.ref L) (.ref g)=some true)(a0:Fg K (.ref f) (.ref g)=some true)(b1:Dz K (.ref o) [.ref u]=some false)(C:Dz K (.ref o) [.ref u,.ref f,.ref L,.ref B,.ref a5]=some false)(d1:Dz K (.ref o) [.ref L]=some false)(a4:Dz K (.ref o) [.ref f]=some false)(D:Dz K (.ref u) [.ref f,.ref L,.ref o,.ref B,.ref a5]=some false)(c0:Dz K (.ref B) [.ref o]=some false)(b4:Dz K (.ref B) [.ref u]=some false)(j:Dz K (.ref B) [.ref u,.ref f,.ref L,.ref o,.ref g1,.ref h7]=some false)(d2:Dz K (.ref B) [.ref L]=some false)(b2:Dz K (.ref B) [.ref f]=some false)(d0:Dz K (.ref L) [.ref u]=some false)(F:Dz K (.ref L) [.ref u,.ref f,.ref o,.ref B,.ref a5]=some false)(b5:Dz K (.ref L) [.ref f]=some false)(a3:Dz K (.ref f) [.ref u]=some false)(I:Dz K (.ref f) [.ref u,.ref L,.ref o,.ref B,.ref a5]=some false)(n6:Gz K Ci "Hall" = some (some (.ref M)))(m3:Qi K M Lb=true)(m4:Mm K M=true)(m5:Wf K M=true)(m6:Bq K (.ref M) "__setattr__" = some (some (.builtin "object.__setattr__")))(g5:Bq K (.ref M) "blind" = some none)(g6:Bq K (.ref M) "marks" = some none)(n7:Bq K (.ref M) "__init__" = some (some (.ref d5)))(n8:K.lookup d5=some ⟨j1,i8,.func (Il "__init__" "Hall.__init__" (defArgs q1a) (defBody q1a) (defScope q1a) (.ref g3) j2 j3 j4 i9 g2 j5),j0⟩)(n9:Lf K g2 "Hall.__init__" = true)(r1:Ff K (.ref d5)=true)(o0:Xd K (.ref d5)=true)(m7:Xx K M=true)(m8:Ff K (.ref M)=true)(l0:K.lookup g3=some ⟨.type "tuple",l7,.seq #[.bool false] l9,l8⟩)(i4:Mf K M "is_drawer" "Hall.is_drawer" q1x Z9)(g0:Mf K M "is_one_place" "Hall.is_one_place" q1n Zk)(o1:Mf K M "rows" "Hall.rows" q3t ["self"])(m9:Mf K M "there" "Hall.there" q3g Y6)(gC:Gz K Ci "CASES" = some (some (.ref dC)))(lC:K.lookup dC=some ⟨.type "dict",none,.dict #[⟨Ow w.params (Ab "u"),.str (Ab "u") r4,.str (Ab "great") r5⟩,⟨Ow w.params (Ab "l"),.str (Ab "l") r6,.str (Ab "small") r7⟩] ep,#[]⟩)(gK:Gz K Ci "KINDS" = some (some (.ref dK)))(lK:K.lookup dK=some ⟨.type "tuple",r9,.seq #[.str (Ab "slip") p4,.str (Ab "drawer") p5,.str (Ab "all") p6] r8,s0⟩)(gO:Gz K Ci "OF_A_GAP" = some (some (.ref dO)))(lO:K.lookup dO=some ⟨.type "tuple",s2,.seq #[.str (Ab "gap") p7,.str (Ab "great") p8,.str (Ab "small") p9,.str (Ab "noughts") q1,.str (Ab "more") q2] s1,s3⟩):
  ∃fd:Ld,(∀(s:Ag) (v:Value),Sm s fd ⟨[v],[]⟩ [("_law_script",v)])/\∀base:Heap,K.In base->base.Ns Ci mg->FnOk lw.prog w K mg base CX0 13 fa fd ["_law_script"] (spLaw K):=by
 have e:=r2.symm.trans (Ni X G s4);cases e;have n1:=E0.base;have a1:=E0.gl;have h4:=Z.ef E0;have e9:=Z.set b8;have f1:=Z.get b8;have h5:=Z.isi E0;have h6:=Z.gl;have g7:=R.ef E0;have e0:=R.set a6;have e1:=R.get a6;have g8:=R.isi E0;have g9:=R.gl;have i5:=a2.ef E0;have e2:=a2.set a7;have e3:=a2.get a7;have i6:=a2.isi E0;have i7:=a2.gl;have k0:=S.ef E0;have f2:=S.set b9;have f3:=S.get b9;have e4:=S.set a8;have e5:=S.get a8;have k1:=S.isi E0;have k2:=S.gl;have b6:=e8.law E0;have k9:=e8.isi E0;have b7:=e8.gl;have k3:Cls K M:=⟨m3,m4,m5,m6⟩
 have o2:Kf K mg M "Hall" "Hall.__init__" q1a Zo:=⟨⟨d5,_,j1,i8,.ref g3,j2,j3,j4,i9,g2,j5,j0,rfl,n8,n9,⟨m7,n7,o0,m8⟩,λs us Y hl=>by obtain⟨_,_,_,rfl⟩:=len_3 (by rw[Dq] at hl;exact hl:us.length=3);exact W.binds_K Y rfl l0 rfl rfl rfl,λs us Y hl=>by obtain⟨_,_,rfl⟩:=len_2 (by rw[Aj] at hl;exact Rg hl:us.length=2);exact W.binds_K Y rfl l0 rfl rfl rfl⟩,Ni X G n6,k3⟩
 have FL:=q7g (st:=q3y) s5 s6 s7;refine⟨Il "law" "law" (defArgs q3y) (defBody q3y) (defScope q3y) .none o4 o5 o6 o3 l6 o7,λs v=>.of_eq rfl,λbase _ _=>?_⟩;have hk:Hk K M:=⟨k3,g5,g6⟩
 have c1:=x6y (P:=lw.prog) (w:=w) (base:=base) n2 T;have c2:=x7a (P:=lw.prog) (w:=w) (base:=base) n3 T c1;have c3:=z0i (P:=lw.prog) (w:=w) (base:=base) h3;have c4:=x0y (P:=lw.prog) (w:=w) (base:=base) l4 T ⟨c1,c2,c3⟩;have c5:=x7l (P:=lw.prog) (w:=w) (base:=base) n4 T;have c6:=x7n (P:=lw.prog) (w:=w) (base:=base) n5 T ⟨c1,c4,c5⟩;have c7:=x4b (P:=lw.prog) (w:=w) (base:=base) m0 T;have c8:=z3f (P:=lw.prog) (w:=w) (base:=base) g0 hk T ⟨c7⟩;have c9:=x4c (P:=lw.prog) (w:=w) (base:=base) m9 hk T ⟨c8⟩;have s8:=x7o (P:=lw.prog) (w:=w) (base:=base) o2 hk T ⟨c9⟩;have s9:=x4d (P:=lw.prog) (w:=w) (base:=base) o1 hk T;have q3:=z3j (P:=lw.prog) (w:=w) (base:=base) i4 hk T;have C1:Calls1 lw.prog w K mg base:=⟨z2t d6 T,q5o d3 T⟩
 have q4:=x0r (P:=lw.prog) (w:=w) (base:=base) l1 T;have CA:CallsA lw.prog w K mg base:=⟨q4⟩
 have CB:CallsB lw.prog w K mg base:=⟨z2v i1 T CA⟩
 have CC:CallsC lw.prog w K mg base:=⟨x3o m1 T CB⟩
 have CD:CallsD lw.prog w K mg base:=⟨q6q e6 T CC⟩
 have o9:=z4p (P:=lw.prog) (w:=w) (base:=base) f4 T C1;have CE:CallsE lw.prog w K mg base:=⟨o9,q6r e7 T CD⟩
 have n0:=x3p (P:=lw.prog) (w:=w) (base:=base) j6 T;have CT:CallsT lw.prog w K mg base:=⟨n0,x0s l2 T⟩
 have CU:CallsU lw.prog w K mg base:=⟨n0,q8d f7 T CT,z2w h8 T CT,⟨dC,Ni X G gC,x3s lC⟩⟩
 have CV:CallsV lw.prog w K mg base:=⟨n0,z0l h0 T CT,z4q f5 T CU⟩
 have CW:CallsW lw.prog w K mg base:=⟨z3a d7 T CV,z2z h9 T,z2x i0 T CT⟩
 have CX:CallsX lw.prog w K mg base:=⟨z0n d4 T CW⟩
 have p0:=z3b (P:=lw.prog) (w:=w) (base:=base) d8 T CX;have CR:CallsR lw.prog w K mg base:=⟨z7j g4 T,⟨dO,Ni X G gO,λH=>.inr ⟨_,_,_,lO,rfl,rfl,by show 5<=sizeLine;decide,.cons ⟨_,rfl⟩ (.cons ⟨_,rfl⟩ (.cons ⟨_,rfl⟩ (.cons ⟨_,rfl⟩ (.cons ⟨_,rfl⟩ .nil))))⟩⟩⟩
 have CS:CallsS lw.prog w K mg base:=⟨o9,p0,z3c d9 T CR,⟨dK,Ni X G gK,λH=>.inr ⟨_,_,_,lK,rfl,rfl,by show 3<=sizeLine;decide,.cons ⟨_,rfl⟩ (.cons ⟨_,rfl⟩ (.cons ⟨_,rfl⟩ .nil))⟩⟩⟩
 have q5:=q8g (P:=lw.prog) (w:=w) (base:=base) f8 T;have CG:CallsGT lw.prog w K mg base:=⟨z4s j7 T ⟨q5⟩,q5⟩
 have q6:=z4r (P:=lw.prog) (w:=w) (base:=base) f6 T CS;have t0:CallsTl lw.prog w K mg base:=⟨q6,z7i k5 T CE,p0,z0o h1 T CG⟩
 have t1:=x3w (P:=lw.prog) (w:=w) (base:=base) m2 T t0;have t2:=z7o (P:=lw.prog) (w:=w) (base:=base) k4 T ⟨q4⟩;have eN:=q8k (P:=lw.prog) (w:=w) (base:=base) k0 a1 f2 e4;have t3:=q8l (P:=lw.prog) (w:=w) (base:=base) f9 T ⟨s9⟩;have t4:=x1e (P:=lw.prog) (w:=w) (base:=base) l3 T;have t5:=z0s (P:=lw.prog) (w:=w) (base:=base) h2 T ⟨t4,t1⟩;have q7:=q6f (P:=lw.prog) (w:=w) (base:=base) h4 a1 e9;have t6:=z3k (P:=lw.prog) (w:=w) (base:=base) f4 T ⟨q7,z0t d6 T ⟨q7⟩,q5o d3 T⟩;have q8:=q5r (P:=lw.prog) (w:=w) (base:=base) g7 a1 e0;have q9:=x1j (P:=lw.prog) (w:=w) (base:=base) j6 T ⟨q8⟩;have t7:=z3l (P:=lw.prog) (w:=w) (base:=base) f5 T ⟨n0,q9,CU.read_noughts,CU.read_more,CU.cases_⟩;have t8:=z0u (P:=lw.prog) (w:=w) (base:=base) d7 T ⟨n0,q9,CV.read_count,t7⟩;have r0:=z0v (P:=lw.prog) (w:=w) (base:=base) d8 T ⟨q8,q8p d4 T ⟨t8,CW.read_into,CW.read_text⟩⟩;have t9:CallsR7 lw.prog w K mg base L g:=⟨z4x g4 T ⟨b6,b7⟩,CR.of_a_gap,b6,b7⟩
 have u0:=q6s (P:=lw.prog) (w:=w) (base:=base) i5 a1 e2;have u1:=z3m (P:=lw.prog) (w:=w) (base:=base) (Cd:=o) (Cn:=B) f6 T ⟨o9,t6,p0,r0,CS.ask_piece,z0w d9 T t9,CS.kinds,b6,b7⟩;have u2:=z4z (P:=lw.prog) (w:=w) (base:=base) j8 T ⟨q3,t2,eN⟩;have u3:=z3n (P:=lw.prog) (w:=w) (base:=base) i2 T ⟨u1,u0,q6,q3,t3,t5,u2⟩;have u4:CallsTo lw.prog w K mg base M u f L o B a5 g1 h7 g (.ref g::bmV):=⟨u3,a1,k7,k8,l5,h6,g9,b7,i7,k2,Z.cls,R.cls,ELaw0.cls b6,a2.cls,S.cls,q2t a3 a0,q2t d0 U,q2t b5 U,q2t b1 O,q2t a4 O,q2t d1 O,q2t b4 J,q2t b2 J,q2t d2 J,q2t c0 J,h5,g8,k9,i6,k1,f1,e1,e3,f3,e5,b0,a0,U,a9,b3,D,I,F,C,j⟩
 have u5:=z7p (P:=lw.prog) (w:=w) (base:=base) k6 T u4;have u6:=z5b (P:=lw.prog) (w:=w) (base:=base) j9 T ⟨c1⟩;have u7:=z3q (P:=lw.prog) (w:=w) (base:=base) i3 T ⟨c1⟩;have CL:CallsL lw.prog w K mg base M:=⟨c1,c6,s8,u6,u7,u5⟩
 exact FL.ok sc_law (λvs H Q E h=>by obtain⟨a,ns,rfl,_⟩:=h;rfl) (λu8 A outer s H vs Q E hr h=>x4l T CL _ u8 A outer s H vs Q E hr h)
def walk{l:Xz}{q:Ak}{loose:List Str}{XP:(Str->Option Value)->Heap->Prop}{YP:World->Heap->Prop}{d:DefRec}{K:Params->Ah}(hn:l.most=some 63)(g:d.params.defaults=[])(j:∀(w:World) (h:Heap),YP w h->(K w.params).In h)(F:∀(w:World) (mg:Str->Option Value) (fa:Addr) (h:Heap),(K w.params).In h->h.Ns Ci mg->mg d.name=some (.ref fa) ->
   ∃fd:Ld,(∀(s:Ag) (u:Value),Sm s fd ⟨[u],[]⟩ [("_law_script",u)])/\∀base:Heap,(K w.params).In base->base.Ns Ci mg->FnOk l.prog w (K w.params) mg base CX0 13 fa fd ["_law_script"] (spLaw (K w.params))):
  W.WalkO q loose XP YP l.row.toRowW d [] (λf vs=>Xi f vs) :=
 L2.walk_of (n:=63) (k:=13) (x := "_law_script") (CX:=λ_=>CX0) (sp:=λw=>spLaw (K w.params)) hn (by decide) g ⟨rfl,by decide,by decide,rfl⟩ j F (λ_ _ a ns hl _ o=>⟨a,ns,rfl,o,hl,λ_=>rfl⟩) λ_ _ _ _ _ z=>z
end K
open PySem PySem.W PyProof.Rows
set_option maxRecDepth 100000 in
set_option maxHeartbeats 0 in
theorem PySem.Challenge.cw_renamehall_k34_sowing_refused_holds : PySem.Challenge.rw_renamehall_k34_sowing_refused.Holds := by
  w_on; o_law; refine holds_open (q := K.vw) (loose := K.loose) (Xt := K.xt) (XP := XL K.vw []) (Yf := Hook.obs (kHook K.pre.heap_39 K.as (λ_ => by kernel_rfl))) (Ya := Hook.val (kHook K.pre.heap_39 K.as (λ_ => by kernel_rfl))) (YP := Hook.says (kHook K.pre.heap_39 K.as (λ_ => by kernel_rfl))) (N := 60000) ?hl (Hook.of (kHook K.pre.heap_39 K.as (λ_ => by kernel_rfl))) (Hook.keeps (kHook K.pre.heap_39 K.as (λ_ => by kernel_rfl))) (λs e => xl_of s (Jy.mp e).1) XL.keeps (by rfl) (by rfl) (by rfl) (λs e => recFacts_of (Jy.mp e).2) (by rfl) (by first | assumption | decide +kernel) (by decide +kernel) ⟨rfl, rfl, rfl, rfl, rfl, by decide +kernel⟩ ?hw ?hc
  (case hw => w_witness2)
  (case hl =>
    refine HD.left2 "special-get-raises" (by kernel_rfl) (by rfl) (λ_ => by kernel_rfl) λb => ?_
    cases b
    · exact λw os => K.half0 w os
    · exact λw os => K.half1 w os)
  k_fill
  refine K.walk (l := PySem.Challenge.rw_renamehall_k34_sowing_refused) rfl rfl (λw h Y => PySem.W.kIn_of Y) ?F
  case F =>
    intro w mg fa h KX G hmg
    refine' K.all_mk KX G hmg (K.df_mk KX G ?_ ?_ ?_ ?_ ?_) (K.df_mk KX G ?_ ?_ ?_ ?_ ?_) (K.df_mk KX G ?_ ?_ ?_ ?_ ?_) (K.df_mk KX G ?_ ?_ ?_ ?_ ?_) (K.df_mk KX G ?_ ?_ ?_ ?_ ?_) (K.df_mk KX G ?_ ?_ ?_ ?_ ?_) (K.df_mk KX G ?_ ?_ ?_ ?_ ?_) (K.df_mk KX G ?_ ?_ ?_ ?_ ?_) (K.df_mk KX G ?_ ?_ ?_ ?_ ?_) (K.df_mk KX G ?_ ?_ ?_ ?_ ?_) (K.df_mk KX G ?_ ?_ ?_ ?_ ?_) (K.df_mk KX G ?_ ?_ ?_ ?_ ?_) (K.df_mk KX G ?_ ?_ ?_ ?_ ?_) (K.df_mk KX G ?_ ?_ ?_ ?_ ?_) (K.df_mk KX G ?_ ?_ ?_ ?_ ?_) (K.df_mk KX G ?_ ?_ ?_ ?_ ?_) (K.df_mk KX G ?_ ?_ ?_ ?_ ?_) (K.df_mk KX G ?_ ?_ ?_ ?_ ?_) (K.df_mk KX G ?_ ?_ ?_ ?_ ?_) (K.df_mk KX G ?_ ?_ ?_ ?_ ?_) (K.df_mk KX G ?_ ?_ ?_ ?_ ?_) (K.df_mk KX G ?_ ?_ ?_ ?_ ?_) (K.df_mk KX G ?_ ?_ ?_ ?_ ?_) (K.df_mk KX G ?_ ?_ ?_ ?_ ?_) (K.df_mk KX G ?_ ?_ ?_ ?_ ?_) (K.df_mk KX G ?_ ?_ ?_ ?_ ?_) (K.df_mk KX G ?_ ?_ ?_ ?_ ?_) (K.df_mk KX G ?_ ?_ ?_ ?_ ?_) (K.df_mk KX G ?_ ?_ ?_ ?_ ?_) (K.df_mk KX G ?_ ?_ ?_ ?_ ?_) (K.df_mk KX G ?_ ?_ ?_ ?_ ?_) (K.df_mk KX G ?_ ?_ ?_ ?_ ?_) (K.df_mk KX G ?_ ?_ ?_ ?_ ?_) (K.df_mk KX G ?_ ?_ ?_ ?_ ?_) (K.df_mk KX G ?_ ?_ ?_ ?_ ?_) (K.df_mk KX G ?_ ?_ ?_ ?_ ?_) (K.df_mk KX G ?_ ?_ ?_ ?_ ?_) (K.df_mk KX G ?_ ?_ ?_ ?_ ?_) (K.df_mk KX G ?_ ?_ ?_ ?_ ?_) (K.df_mk KX G ?_ ?_ ?_ ?_ ?_) (K.df_mk KX G ?_ ?_ ?_ ?_ ?_) (K.df_mk KX G ?_ ?_ ?_ ?_ ?_) (K.df_mk KX G ?_ ?_ ?_ ?_ ?_) ?_ ?_ ?_ ?_ ⟨mg_none_of KX G ?_, mg_none_of KX G ?_, mg_none_of KX G ?_, mg_none_of KX G ?_, mg_none_of KX G ?_, mg_none_of KX G ?_, mg_none_of KX G ?_, mg_none_of KX G ?_, mg_none_of KX G ?_, mg_none_of KX G ?_, mg_none_of KX G ?_, mg_none_of KX G ?_, mg_none_of KX G ?_, mg_none_of KX G ?_, mg_none_of KX G ?_, mg_none_of KX G ?_, ⟨_, mg_of KX G ?_⟩, ⟨_, mg_of KX G ?_⟩, ⟨_, mg_of KX G ?_⟩, ⟨_, mg_of KX G ?_⟩, ⟨_, mg_of KX G ?_⟩, ⟨_, mg_of KX G ?_⟩, ⟨_, mg_of KX G ?_⟩, ⟨_, mg_of KX G ?_⟩, ⟨_, mg_of KX G ?_⟩, ⟨_, mg_of KX G ?_⟩, ⟨_, mg_of KX G ?_⟩⟩ (K.eb_mk KX G ?_ ?_ ?_ ?_ ?_ ?_ ?_ ?_ ?_ ?_ ?_) (K.ec_mk KX G ?_ ?_ ?_ ?_ ?_ ?_ ?_ ?_ ?_ ?_ ?_ ?_ ?_ ?_ ?_) ?_ (K.ec_mk KX G ?_ ?_ ?_ ?_ ?_ ?_ ?_ ?_ ?_ ?_ ?_ ?_ ?_ ?_ ?_) ?_ (mg_of KX G ?_) (K.ec_mk KX G ?_ ?_ ?_ ?_ ?_ ?_ ?_ ?_ ?_ ?_ ?_ ?_ ?_ ?_ ?_) ?_ (mg_of KX G ?_) (mg_of KX G ?_) (K.ec_mk KX G ?_ ?_ ?_ ?_ ?_ ?_ ?_ ?_ ?_ ?_ ?_ ?_ ?_ ?_ ?_) ?_ ?_ (K.ec0_mk KX G ?_ ?_ ?_ ?_ ?_ ?_ ?_ ?_ ?_) ?_ ?_ ?_ ?_ ?_ ?_ ?_ ?_ ?_ ?_ ?_ ?_ ?_ ?_ ?_ ?_ ?_ ?_ ?_ ?_ ?_ ?_ ?_ ?_ ?_ ?_ ?_ ?_ ?_ ?_ ?_ ?_ ?_ ?_ ?_ ?_ ?_ (K.mf_mk ?_ ?_ ?_ ?_ ?_ ?_) (K.mf_mk ?_ ?_ ?_ ?_ ?_ ?_) (K.mf_mk ?_ ?_ ?_ ?_ ?_ ?_) (K.mf_mk ?_ ?_ ?_ ?_ ?_ ?_) ?_ ?_ ?_ ?_ ?_ ?_
    all_goals try (first | k_is | kit_is | rfl | decide +kernel | (intro _ _ _ _ _ _ us hl; first | (obtain ⟨_, rfl⟩ := K.len_1 hl; rfl) | (obtain ⟨_, _, rfl⟩ := K.len_2 hl; rfl) | (obtain ⟨_, _, _, rfl⟩ := K.len_3 hl; rfl) | (obtain ⟨_, _, _, _, rfl⟩ := K.len_4 hl; rfl) | (obtain ⟨_, _, _, _, _, rfl⟩ := K.len_5 hl; rfl) | (cases us with | nil => rfl | cons _ _ => cases hl)))
