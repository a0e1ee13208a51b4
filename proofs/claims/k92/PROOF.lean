import PyProof.Rows.All
import Wide.All
import OpenK.AllK
import Wide.FinOn
import Lean
import PyProof.EqAt
import PyProof.EqKinds
import PyProof.TupleCall
import PySem.Challenge.RW_renamehall_k92_whole_alike_rules_alike_w
import KE.IntTextLaws
import KE.KIsAll
import PyProof.ExcArgsOwn
import PyProof.ExcBaseAll.ValueError
import PyProof.ExcClass2
import PyProof.ExcInit
import PyProof.InstStore
import PyProof.Rows.CatchBare
import PyProof.Rows.CatchOwn
import PyProof.StationsW
import PyProof.SumWalk
import PyProof.ReprRoads
set_option Elab.async false
set_option linter.all false
set_option maxRecDepth 100000
set_option maxHeartbeats 80000000
set_option genSizeOf false
local macro_rules|`(tactic|lia)=>`(tactic|first|with_reducible assumption|exact Nat.le_trans (by with_reducible assumption) (by decide)|exact Nat.lt_of_le_of_lt (by with_reducible assumption) (by decide)|fail)
local macro_rules|`(tactic|trivial)=>`(tactic|first|exact Or.inl rfl|exact Or.inr rfl|exact Or.inr (Or.inl rfl)|exact Or.inr (Or.inr rfl)|decide +kernel|assumption|(refine⟨rfl,rfl,rfl,?_,rfl,?_,?_⟩<;>decide +kernel)|fail)
open Array renaming getElem?_eq_some_iff→Ff,getElem?_eq_getElem→Gp,length_toList→He,find?_toList→Pg,forIn_toList→Py,perm_iff_toList_perm→Qf,toList_map→Rj,getElem?_eq_none→Ss,getElem?_toList→Ti,mem_toList_iff→Uc,size_push→Xx
open Array.Perm renaming refl→Xu
open Bool renaming false_ne_true→Bm,false_eq_true→Bq,and_self→Ek,not_true→Gg,eq_iff_iff→Iz,and_eq_true→Jz,and_eq_true_iff→Ol,false_and→Ow,not_false→Tn,or_false→Uo,or_true→Vs
open Classical renaming byContradiction→Gq
open Int renaming toNat_natCast→Hz,emod_lt_of_pos→Pn,emod_nonneg→Sd,le_refl→Su
open List renaming length_map→Ae,length_append→Af,mem_cons_of_mem→Ak,mem_cons_self→Al,map_cons→Am,mem_singleton→Ao,getElem?_eq_some_iff→Ap,mem_of_getElem?→Ar,mem_append→Au,mem_cons→Av,mem_map→Az,map_append→Bb,length_cons→Bc,getElem?_map→Be,mem_append_right→Bf,size_toArray→Bg,length_singleton→Bi,mem_filter→Bt,mem_append_left→Bu,getElem?_eq_getElem→Bv,length_pos_iff→Bw,length_drop→Ca,not_mem_nil→Cc,append_nil→Cd,length_take→Cg,take_length→Ci,find?_cons→Cq,map_map→Ct,length_filter_le→Di,append_assoc→Dj,take_of_length_le→Dl,getElem?_append_right→Dx,dropLast_concat_getLast→Ed,mem_of_mem_take→En,getElem?_append_left→Er,nodup_cons→Eu,foldl_cons→Ew,flatten_cons→Fh,take_succ→Fu,getD_eq_getElem?_getD→Gh,mem_flatten→Hg,mem_flatMap→Hh,exists_cons_of_length_eq_add_one→Hi,length_nil→Hu,take_zero→Ih,all_eq_true→Ik,drop_length→Ip,filter_cons_of_neg→Iu,filter_cons_of_pos→Iv,filter_append→Jc,getLast?_eq_some_getLast→Ji,foldl_append→Jj,take_append_drop→Jp,lookup_cons→Kc,filter_cons→Kn,map_congr_left→Kw,flatten_append→Kx,drop_eq_getElem_cons→La,getLastD_eq_getLast?→Lc,pairwise_cons→Lp,contains_cons→Lq,getElem?_drop→Lr,drop_zero→Mb,take_add_one→Ml,drop_of_length_le→Mw,append_eq_nil_iff→Mx,length_replicate→Nd,mem_iff_getElem?→Nk,getElem?_set_ne→Nr,forIn_cons→Nv,nil_append→Og,mem_of_mem_drop→Oj,take_append_of_le_length→Oo,filterMap_cons→Oq,replicate_succ→Ot,length_reverse→Ou,countP_eq_length_filter→Pb,any_cons→Qd,map_take→Qi,reverse_cons→Ql,cons_append→Rg,map_nil→Rh,flatMap_def→Rp,pairwise_singleton→Rt,length_eq_zero_iff→Ry,of_mem_zip→Sa,getElem?_set_self→Si,nodup_nil→Td,drop_drop→Tr,take_left→Tu,drop_left→Tv,dropLast_concat→Ui,getLastD_concat→Uj,flatMap_append→Uy,mem_filterMap→Vf,filterMap_map→Vl,zip_cons_cons→Vq,append_of_mem→Vv,any_eq_false→Vy,take_sublist→Wa,mapM_toArray→Wh,nodup_append→Wn,getLast_mem→Xg
open Nat renaming le_refl→Aj,le_trans→Ay,zero_le→Ba,ne_of_lt→Bl,lt_of_lt_of_le→Bp,le_succ_of_le→Dy,ne_of_gt→Ez,le_of_eq→Fb,succ_le_succ→Gj,lt_irrefl→Hc,lt_succ_iff_lt_or_eq→Iq,le_of_lt→Jk,lt_succ_self→Jx,not_lt→Kj,mul_le_mul_right→Kk,pow_le_pow_right→Km,le_succ→Kr,sub_zero→Lo,lt_succ_of_lt→Mi,sub_self→Oi,lt_of_le_of_lt→Ph,add_sub_cancel→Pz,min_le_right→Rn,le_of_ble_eq_true→Ua,add_le_add_left→Uu,pow_succ→Vo,min_self→Vp,min_le_left→Xy
open Nat.succ renaming inj→Rq
open Ne renaming symm→Cp
open Option renaming map_eq_some_iff→Bh,isSome_iff_exists→Lj,isSome_map→Mh,map_some→Nz,getD_none→Wy,bind_some→Xe
open Option.some renaming inj→Co
open Prod renaming ext→Wv
open PyProof.Rows renaming wpS_bind→Cy,callWith_type1→Ei,slot_tuple_getitem→Ej,wpS_pure→Ep,envOfC→Hy,SortSt→Je,get?_update_seq→Ju,lo1→Kl,StrsAre→Kt,wpS_forRange→Ln,AllBare→Lw,SortKind→Na,callWith_builtin1→Nu,mirror→Oc,seqObj→Of,listItems_at→Ri,upper_ascii→Ro,pendingOf→Sg,subscriptTail_builtinR→Sl,mirror_perm→Sv,wpS_reverse→Sw,wpS_get→Tj,Constant_none→Uk,listUpdate_at→Ur,args_tuple_getitem→Vm,IntsAre→Vx,seqEpoch_at→Wt,failedOf→Xc,wpS_mono→Xd,Subscript_→Xl,wpS_modify→Xs
open PyProof.Rows.IsTup renaming new→Yh
open PySem renaming wpAny_bind→Ac,wpAny_pure→Ad,Shared→Ah,Program→Aq,starEach→Bd,NameKind→Bk,wpAny_field→Br,wpAny_mono→Bs,boot_len→By,wpAny_call_entry→Cb,PyData→Ce,wpAny_newObj_type→Cf,wpAny_callSpecial?_slot→Cj,mainGlobals→Cr,wpAny_standAt→Cw,compareOp→Cz,compEnvC→De,wpAny_holding→Dh,sysModules→Dk,wpAny_setField_rec→Dv,Builtin→Ea,backTo→El,rawInt→Es,sizeLine_eq→Et,codeAny→Ey,wpAny_attempt→Fe,excClassObj→Fg,attributeBase→Fs,wpAny_truthy_bool→Fw,foldedSetIterable→Fx,importedModules→Fz,mem_of_lookup→Ga,wpAny_rule→Ge,wpAny_isInstance→Gi,wpAny_Call_Name_kw→Gk,wpAny_seqItems→Gm,binaryOp→Gr,codeAny_mono→Gs,codeAny_call_builtin→Gu,wpAny_typeNameOfWhole_itemiter→Gv,wpAny_dictEntries→Gy,wpAny_loadPart_at→Gz,wpAny_typeNameOfWhole_keyiter→Hd,wpAny_setField→Hf,keywordEach→Hj,bootBuiltins→Ho,pyNext→Hr,tupleKind_room_in1→Hs,wpAny_passesOwn→Ht,behindInMarks→Hw,Paired→Hx,wpAny_typeNameOf_itemiter→Ic,strIterType→Ig,wpAny_comprehension_free→Il,wpAny_typeNameOf_keyiter→Im,tupleKeyHash→Io,swapsWith→Iw,letOwnedTupleGo→Iy,wpAny_call→Ja,typeIs_str→Jb,wpAny_dictEpoch→Jd,wpAny_of_eq→Jf,holding→Jl,pyIter→Jm,wpAny_typeOf→Jn,builtinLookup_eq_fast→Jq,isSubtype_type→Jr,assignEach→Jw,backToKw→Jy,call_meets→Kb,wpAny_forIn_list→Kh,find?_eq_fast→Kp,standAt→Kq,sliceBounds→Ks,wpAny_isSubtype_exc→Kv,wpAny_execs_nil→Ky,wpAny_specialOf→Kz,codeAny_builtin→Lb,tupleKind→Le,DictEntry→Lh,FuncData→Li,Keyword→Lx,isSubtype_stop→Ly,intText?→Lz,IsPart→Mo,wpAny_Call_method_late→Mp,IsPair→Mq,wpAny_letGo→Mr,wpAny_Assign_Subscript→Ms,wpAny_isOneOf_itemiter→Mt,wpAny_Dict_empty→My,checkBuiltinCall→Mz,OsState→Nb,getMethod→Nc,wpAny_notOrdered_dict→Ng,isSubtype_tuple_tuple→Ni,plainObj_wpAny_Assign_Attribute→Nm,Within→Np,wpAny_newFunctionEnv→Nw,wpAny_updateSeq_pair→Nx,typeLookup_type→Oa,wpAny_newTuple→Oy,wpAny_fieldsOf→Oz,treeTable→Pf,wpAny_setItem_heap→Po,wpAny_tupleItemsOf→Px,wpAny_onRaise→Qe,plainId_quiet→Qg,wpAny_assign_Name→Qj,wpAny_pyIter_slot→Qn,entryOfKey→Qp,callerA→Qv,wpAny_execs_cons→Qw,wpAny_lookBehind→Qy,pastItsLine_dict→Qz,noFill_tuple_add→Rb,codeAny_loop→Rc,wpAny_tests_nil→Sb,codeAny_of_tree→Se,wpAny_updateSeq→Sh,seqIndex_of→Sj,subscripted→Sk,wpAny_getItem_list_neg→Sm,wpAny_noted→Sn,codeAny_compStart_list→So,wpAny_isTrue_Compare1→Sy,wpAny_loadPart→Sz,BindsTo→Ta,newFunctionEnv→Tb,exec_Assign_Name_used→Tc,firstArgMember→Te,wpAny_isOneOf_keyiter→Th,OwnTail→To,wpAny_loadName_local→Ub,callWith→Ud,typeLookup→Ue,PlainAttrs→Ug,seq_tuple_add→Um,wpAny_handled→Uq,wpAny_loadName_cell→Ut,length_partsBetween→Ux,wpAny_Constant_int→Vc,inplaceOp→Vd,PassesOwn→Ve,wpAny_nsSet1→Vh,concat_meets→Vk,ExcBaseFacts→Vr,eqIsQuiet→Vt,wpAny_sequenceKey→Wb,wpAny_pyIter_list→Wc,wpAny_pyIter_strU→We,wpAny_pyIter_enum→Wf,eqIsQuiet_byValue→Wl,wpAny_throw→Ws,GenState→Wu,entryFor→Xa,wpAny_Name→Xh,wpAny_load→Xi,typeIs_int→Xn,call→Xp,closureFor→Xq,refuseLoop→Xv,getAttr→Xz,setAttr→Yb
open PySem.Around renaming under_plainId→Ki,under→Ra
open PySem.AutoSeq1 renaming wpAny_loadPart'→Oe
open PySem.Builtin.Dict renaming showsAll→Nh,pendingCount→Qu
open PySem.Builtin.Dict_items renaming ownsTuple→Jt,ownedTupleFields→Ma
open PySem.Builtin.List renaming listTooLong→Lm,listItems→Mu,listSameRef→Rk
open PySem.Builtin.Slice renaming slicePlaces→Ib,sliceAdjust→Qr
open PySem.Builtin.SmallTypes renaming nextOf→Qs
open PySem.Builtin.Str renaming occurrences→Ex,strSliceIndices→Jv,strKind→Uv
open PySem.Builtin.Tuple renaming tupleHashOf→Ie,tupleItemsOf→Ko
open PySem.Calls renaming spliced_cons→Em,callWith_builtin→Hn,Constant_str→Hq,evalArgs_plain→Ka,spliced_nil→Mg,Name_function_global→Qb
open PySem.Code renaming quiet_builtin→Pq,isFrame→Vj
open PySem.F renaming plainAttrs_str→Bo,plainAttrs_list→Bz,slot_list_append→Cu,type_list_append→Cv,slot_str_lower→Dp,type_str_lower→Dq,slot_dict_itemiterator_next→Fp,slot_dict_keyiterator_next→Fv,plain_extend_loop→Ir,slot_str_upper→Jg,type_str_upper→Jh,slot_enumerate_next→Jo,slot_list_reversed→Kg,args_tuple_add_2→Ll,entry_tuple_add→Mc,slot_tuple_hash→Mj,slot_tuple_add→Mn,args_dict_itemiterator_next_1→Nn,slot_zip_next→Ny,args_dict_keyiterator_next_1→Ob,entry_dict_itemiterator_next→Od,slot_tuple_eq→Oh,entry_dict_keyiterator_next→Om,args_str_split_2→Pm,slot_str_replace→Qa,excBase_ValueError→Qh,entry_str_split→Qm,slot_dict_getitem→Qt,slot_str_split→Rf,slot_list_extend→Rl,type_list_extend→Rm,args_enumerate_next_1→Rr,plainAttrs_dict→Ru,entry_enumerate_next→Sr,slot_dict_items_iter→Sx,slot_dict_len→Tp,slot_dict_get→Tq,slot_str_join→Tw,type_str_join→Tz,entry_extend_loop→Uw,type_str_replace→Vu,args_zip_next_1→Wd,plain_list_iadd→Wj,entry_zip_next→Wz,slot_dict_iter→Xb,plainAttrs_str→Xf,slot_int_rmul→Xo
open PySem.Heap renaming get?_push_of_some→Ag,lt_size→As,get?_push_size→Aw,get?_update_other→Cm,get?_update_self→Fo,size_push→Ft,SameBut→Gd,get?_none_of_le→Nq,ExtBut→Sq
open PySem.Heap.Ns1 renaming of_empty→Vz
open PySem.Heap.SameBut renaming update→Ku,refl→Qo
open PySem.NumText renaming digitsVal→Fi
open PySem.Obj renaming data_mapFields→Fq,mapFields→Gf,mapSeq→Hm,isFreed_of_fields→Js,cls_mapFields→Wg
open PySem.Paired renaming length→Hb,snoc→Wr
open PySem.PassesOwn renaming never→Bj
open PySem.PyData renaming canLayAll0→Bx,eqv→Dg,canLay0→Dm,depthAll→Dw,strOk→Dz,eqvAll→Eg,canLayAll0→Fj,depthAll→Gn,depth→Gw,canLay0→Ii,shownAll→Ld,keyHash→Pa,depth→Pr,showableAll→Pu,hasDictAll→Wk
open PySem.SeqAt renaming EqAt→Fm
open PySem.SeqAt.EqAt renaming int_str→Va,str_int→Vb,str_str→Vn,same→Xm
open PySem.Str renaming ofString→Ab,join→Ke,empty→Vi
open PySem.StrLaws renaming sliceText→Gx,glued_eq_join→Nf,occ_length_le→Nj,partsBetween_eq→Rx,sliceText_nat→Tg,strSub_toList→Tt,partsFrom→Wm,occBody→Xw
open PySem.Txt renaming lower→Hv,replace→Pe,lower→Pj,upper→Pk,split→Pl,slice→Sf,join→Uh,rjustF→Xr,slice→Yj
open PySem.W renaming Frag→Ai,findIn→Ck,emptyDict→Eo,keepIn→Fy,nsIn→Ia,fnOf→Ij,instObj→Lf,Frag→Lg,codeIn→Lk,hasDictIn→Mm,mg_of→Nl,callWith_K→Nt,looks_findIn→Ox,specialIn→Pd,looks_clsIn→Qc,plainGet→Qq,InstAt→Qx,methodCall_KW→Rz,plainGet_of→Ul,plainOver→Wo,set_plain→Wq,lookIn→Ww,cellsFrom_some→Wx,handedIn→Xj,isFn→Xk,clsIn→Yc,takerIn→Yd,makesIn→Ye,takesIn→Yg,OpenLaw→Yi
open PySem.W.Fast renaming te10110043849684766642→Lu,te14364793385576792824→Lv,te4187177175401517315→Md,te5923862056798008813→Me
open PySem.W.Looks renaming here→Vg
open PySem.Within renaming cons→Qk
noncomputable abbrev Z0:List PySem.Str:=["_law_script", "_law_feed", "_law_k", "_law_signs_here", "_law_one", "_law_other", "_law_kind", "_law_most_here", "_law_menu", "_law_rows", "_law_hall", "_law_path", "_law_first", "_law_second"]
noncomputable abbrev Z1:List PySem.Str:=["template", "at"]
noncomputable abbrev Z2:List PySem.Str:=["template", "at", "gap"]
noncomputable abbrev Z3:List PySem.Str:=["_law_feed", "_law_signs_here", "_law_size"]
noncomputable abbrev Z4:List PySem.Str:=["_law_feed", "_law_many"]
noncomputable abbrev Z5:List PySem.Str:=["_law_feed", "_law_signs_here", "_law_most_here"]
noncomputable abbrev Z6:List PySem.Str:=["_law_hall", "_law_path", "_law_rule_here"]
noncomputable abbrev Z7:List PySem.Str:=["template", "at", "signs"]
noncomputable abbrev Z8:List PySem.Str:=["rule", "name", "count"]
noncomputable abbrev Z9:List PySem.Str:=["path", "mark", "rules", "counted"]
noncomputable abbrev Za:List PySem.Str:=["template", "at", "signs", "most"]
noncomputable abbrev Zb:List PySem.Str:=["_law_rules", "_law_most_here"]
noncomputable abbrev Zc:List PySem.Str:=["_law_feed", "_law_signs_here"]
noncomputable abbrev Zd:List PySem.Str:=["one", "other"]
noncomputable abbrev Ze:List PySem.Str:=["piece", "gap_texts", "count"]
noncomputable abbrev Zf:List PySem.Str:=["_law_feed", "_law_rule_here"]
noncomputable abbrev Zg:List PySem.Str:=["piece", "kind", "gap_signs"]
noncomputable abbrev Zh:List PySem.Str:=["self", "path", "texts"]
noncomputable abbrev Zi:List PySem.Str:=["hall", "path", "texts"]
noncomputable abbrev Zj:List PySem.Str:=["self", "one", "other"]
noncomputable abbrev Zk:List PySem.Str:=["_law_feed", "_law_rules"]
noncomputable abbrev Zl:List PySem.Str:=["part", "name", "later"]
noncomputable abbrev Zn:List PySem.Str:=["self", "rows", "blind"]
noncomputable abbrev Zo:List PySem.Str:=["hall", "path", "rules"]
noncomputable abbrev Zp:List PySem.Str:=["one", "other", "most"]
noncomputable abbrev Zq:List PySem.Str:=["gap_sign", "text"]
noncomputable abbrev Zs:List PySem.Str:=["text", "signs"]
noncomputable abbrev Zu:List PySem.Str:=["text", "width"]
noncomputable abbrev Zv:List PySem.Str:=["pattern"]
noncomputable abbrev Zw:List PySem.Str:=["piece", "gap_signs"]
noncomputable abbrev Zx:List PySem.Str:=["self", "path"]
noncomputable abbrev Zy:List PySem.Str:=["names", "named"]
noncomputable abbrev Zz:List PySem.Str:=["rule"]
noncomputable abbrev Y0:List PySem.Str:=["pattern", "name"]
noncomputable abbrev Y4:List PySem.Str:=["rule", "mark"]
noncomputable abbrev Y5:List PySem.Str:=["hall", "drawer"]
noncomputable abbrev Y6:List PySem.Str:=["text"]
noncomputable abbrev Y7:List PySem.Str:=["parts", "name"]
noncomputable abbrev Y8:List PySem.Str:=["piece", "text"]
noncomputable abbrev Y9:List PySem.Str:=["name", "named"]
noncomputable abbrev Yk:List PySem.Str:=["self", "place"]
noncomputable abbrev Yl:List PySem.Str:=["_law_path", "_law_mark"]
noncomputable abbrev Ym:List PySem.Str:=["part", "text"]
noncomputable abbrev Yn:List PySem.Str:=["many", "most"]
noncomputable abbrev Yo:List PySem.Str:=["template"]
noncomputable abbrev Yp:List PySem.Str:=["_law_rules"]
namespace HD
open PySem PySem.W PyProof.Rows
def end0:(∃f,endAt 0 t=some f)/\through t=true\/endAt 0 t=none/\through t=false:=by
 unfold endAt through;obtain⟨g,h,j,stack⟩:=t;cases stack with
 |cons a r=>exact .inr ⟨by cases g<;>rfl,rfl⟩
 |nil =>
  cases g with
  |pure f =>
   cases f with
   |done f=>simp_all
   |_=>simp_all
  |_=>exact .inr ⟨rfl,rfl⟩
theorem z5u:∀{n} {s s'} {t} {f} {c} {q},segRun tb p w g j 0 n s t=some (f,s',c,q)->topRun tb p w g j n s t=some s'
 |0,_,_,_,_,_,_,h=>by cases h
 |n+1,s,s',t,f,c,q,h=>by
  unfold segRun at h;unfold topRun;rcases end0 (t:=t) with⟨⟨u,e⟩,o⟩|⟨e,o⟩
  ·rw[e] at h;rw[o];cases h;rfl
  ·rw[e] at h;rw[o];dsimp only at h ⊢;cases ok:stepOk g j t with
   |false=>rw[ok] at h;cases h
   |true =>
    rw[ok] at h;dsimp only at h ⊢;cases st:step (denote tb) p w s t with
    |go s1 t1=>rw[st] at h;exact z5u h
    |halt _ _=>rw[st] at h;cases h
noncomputable def mkT(l:List Obj):BT:=(l.foldl (λa  o=>(a.1.ins a.2 o,a.2+1)) (BT.nil,0)).1
noncomputable def bootT (P:Params) (os:Nb):SharedT:=⟨mkT (boot_heap P).objs.toList,11,(boot_heap P).life,#[],boot_drawn,boot_toks,os⟩
def x3j(P)(os):(bootT P os).abs=⟨boot_heap P,#[],boot_drawn,boot_toks,os⟩:=by kernel_rfl
def z8v(P):((boot_heap P).isNs Cr&&(#[]:Array Wu).size==0,(boot_heap P).objs.size,(boot_heap P).nsMap Cr "__annotations__")=(true,11,some (.ref 6)):=by kernel_rfl
def left{Yf:Ah->α}(e:opening p=plainProg p.main.scope.names)(g:Nat.ble 600 N=true)(f:∀s,fenceModules? p s=some s)(h:∀ w   os ,(segRunT Pf p w 11 (some (.ref 6)) 0 N (bootT w.params os) (topStub p)).map (λr=>((staticsOk (Fz p.main.body) (boot_heap w.params) r.2.1.abs.heap&&namesBound p r.2.1.abs.heap&&gensDone r.2.1.abs&&laidKept (boot_heap w.params) r.2.1.abs.heap),
   openSeen q loose (Fz p.main.body) Xt true r.2.1.abs,Yf r.2.1.abs))=some (true,openGood q loose,Ya w)):LeftO p q loose Xt Yf Ya N:=λw=>by
 obtain⟨⟨j,o,d,k,os⟩,u,v⟩:=Bh.mp (boot_open e g f w);obtain⟨rfl,rfl,rfl,rfl⟩:j=boot_heap w.params/\o=#[]/\d=boot_drawn/\k=boot_toks:=by simpa using v
 obtain⟨B,C,D⟩:_/\_/\_:=by simpa only[Prod.mk.injEq] using z8v w.params
 obtain⟨⟨fl,st,c,J⟩,E,F⟩:=Bh.mp (h w os);obtain⟨G,H,I⟩:_/\_/\_:=by simpa only[Prod.mk.injEq] using F
 have r:=z5u (segRun_of E);rw[x3j] at r;have t:topFrom Pf p w N ⟨boot_heap w.params,#[],boot_drawn,boot_toks,os⟩=some st.abs:=by
  unfold topFrom;rw[B,C,D,r];show(match staticsOk (Fz p.main.body) (boot_heap w.params) st.abs.heap&&namesBound p st.abs.heap&&gensDone st.abs&&laidKept (boot_heap w.params) st.abs.heap with|true=>_|false=>_)=_;rw[G]
 unfold openEnds;rw[u];show(topFrom Pf p w N _).map _=_;rw[t];exact congrArg some (Wv H I)
def left2(g){Yf:Ah->α}(e:opening p=plainProg p.main.scope.names)(j:Nat.ble 600 N=true)(f:∀s,fenceModules? p s=some s)(h:∀ b  (w:World)  os ,(segRunT Pf p (w.withFollow g b) 11 (some (.ref 6)) 0 N (bootT (w.withFollow g b).params os) (topStub p)).map (λr=>((staticsOk (Fz p.main.body) (boot_heap (w.withFollow g b).params) r.2.1.abs.heap&&namesBound p r.2.1.abs.heap&&gensDone r.2.1.abs&&laidKept (boot_heap (w.withFollow g b).params) r.2.1.abs.heap),
   openSeen q loose (Fz p.main.body) Xt true r.2.1.abs,Yf r.2.1.abs))=some (true,openGood q loose,Ya (w.withFollow g b))):LeftO p q loose Xt Yf Ya N :=
 left e j f λw os=>by
  have:=h (w.params.followText g) w os
  rwa [World.withFollow_self w g] at this
end HD
section
namespace K
open PySem PySem.W PyProof.Rows
noncomputable abbrev loose:List Str:=[Ab "_wall",Ab "HallError",Ab "NoPattern",Ab "NoTemplate",Ab "NoHall",Ab "NoDrawer",Ab "NoPlace",Ab "NoRule",Ab "NoSame",Ab "TooMuch",Ab "FIGURES",Ab "LETTERS",Ab "NAME_SIGNS",Ab "MOST_SIGNS",Ab "MOST_NAMES",Ab "all_of",Ab "is_name",Ab "alike",Ab "GAP_SIGNS",Ab "MOST_GAPS",Ab "ask_signs",Ab "text_parts",Ab "parts_of",Ab "FROM_ONE",Ab "FROM_TWO",Ab "MOST_FIGURES",Ab "CASES",Ab "asked",Ab "end_of",Ab "read_count",Ab "read_noughts",Ab "read_more",Ab "read_gap",Ab "read_mark",Ab "read_into",Ab "read_text",Ab "read_piece",Ab "pieces_of",Ab "KINDS",Ab "OF_A_GAP",Ab "MOST_START",Ab "ask_gap",Ab "ask_piece",Ab "ask_rule",Ab "gap_takes",Ab "takes",Ab "furthest_ends",Ab "ends_of_parts",Ab "reading",Ab "with_noughts",Ab "gap_text",Ab "piece_text",Ab "tells",Ab "SORTS",Ab "MOST_NAMES_ASKED",Ab "ask_pieces",Ab "text_of",Ab "signs_of",Ab "ask_bound",Ab "other_signs",Ab "longer_names",Ab "compared",Ab "Hall",Ab "rows_beneath",Ab "is_for",Ab "told_texts",Ab "place_of",Ab "wishes_of",Ab "_law_draw",Ab "_law_name_signs",Ab "_law_other_signs",Ab "_law_text",Ab "_law_signs",Ab "_law_shapes",Ab "_law_most",Ab "_law_rule",Ab "_law_varied",Ab "_law_short_rows",Ab "_law_found"]
noncomputable abbrev vw:Aq:=view PySem.Challenge.pw_renamehall_k92_whole_alike_rules_alike_w [90]
noncomputable abbrev xt(s:Ah):Bool:=xlAt vw [] s&&recOk [] s
end K
open PySem PySem.W PyProof.Rows
local macro_rules | `(tactic| o_head $H) => `(tactic| exact False.elim (by assumption))
noncomputable def PySem.W.Fast.tw4792387133119668518:=PySem.Challenge.pw_renamehall_k92_whole_alike_rules_alike_w
theorem PySem.W.Fast.te4792387133119668518:PySem.Challenge.pw_renamehall_k92_whole_alike_rules_alike_w=PySem.W.Fast.tw4792387133119668518:=rfl
set_option maxRecDepth 100000 in
set_option maxHeartbeats 0 in
theorem K.pre(h:False):PySem.Challenge.rw_renamehall_k92_whole_alike_rules_alike_w.Holds:=by w_on;o_law;k_head;all_goals exact h.elim
def K.q0:(Nat.ble PySem.Challenge.pw_renamehall_k92_whole_alike_rules_alike_w.main.body.length 100000)=true:=by k_qdec
noncomputable abbrev K.zas:List Nat:=[2,3,15,17,18,20,21,22,29,30,31,32,35,42,44,45,47,48,49,50,51,54,61,63,64,66,67,68,69,70,73,80,82,83,85,86,87,88,89,92,99,101,102,104,105,106,107,108,111,118,120,121,123,124,125,126,127,130,137,138,139,142,149,150,151,154,161,162,163,166,169,170,171,173,174,176,177,178,180,181,183,184,185,187,188,190,191,192,194,195,197,198,199,201,202,204,205,206,207,209,210,212,213,214,216,217,219,220,221,223,224,226,227,228,230,231,233,234,235,237,238,240,241,242,244,245,247,248,249,251,252,254,255,256,258,259,261,262,263,265,266,268,269,270,272,273,275,276,277,279,280,282,283,284,285,286,288,289,291,292,293,295,296,298,299,300,303,304,305,307,308,310,311,312,314,315,317,318,319,321,322,324,325,326,328,329,331,332,333,335,336,338,339,340,342,343,345,346,347,349,350,352,353,354,356,357,359,360,361,363,364,366,367,368,369,371,372,374,375,376,378,379,381,382,383,386,387,388,390,391,393,394,395,398,399,400,403,404,405,407,408,410,411,419,420,423,424,425,427,428,430,431,432,434,435,437,438,439,441,442,444,445,446,448,449,451,452,453,455,456,458,459,460,462,463,465,466,467,469,470,472,473,474,476,477,479,480,481,483,484,486,487,488,490,491,493,494,495,497,498,500,501,502,504,505,507,508,509,510,511,512,513,516,518,519,521,522,523,525,526,528,529,530,532,533,535,536,537,540,541,542,544,545,547,548,549,551,552,554,555,556,558,559,561,562,570,573,574,575,578,579,580,582,583,585,586,587,589,590,592,593,594,596,597,599,600,601,603,604,606,607,608,610,611,613,614,615,617,618,620,621,622,625,626]
set_option maxRecDepth 100000 in
set_option maxHeartbeats 0 in
theorem K.half0(w:World)(os:Nb):(segRunT Pf PySem.Challenge.pw_renamehall_k92_whole_alike_rules_alike_w (w.withFollow "special-get-raises" false) 11 (some (.ref 6)) 0 60000 (HD.bootT (w.withFollow "special-get-raises" false).params os) (topStub PySem.Challenge.pw_renamehall_k92_whole_alike_rules_alike_w)).map (λr=>((staticsOk (Fz PySem.Challenge.pw_renamehall_k92_whole_alike_rules_alike_w.main.body) (boot_heap (w.withFollow "special-get-raises" false).params) r.2.1.abs.heap&&namesBound PySem.Challenge.pw_renamehall_k92_whole_alike_rules_alike_w r.2.1.abs.heap&&gensDone r.2.1.abs&&laidKept (boot_heap (w.withFollow "special-get-raises" false).params) r.2.1.abs.heap),openSeen K.vw K.loose (Fz PySem.Challenge.pw_renamehall_k92_whole_alike_rules_alike_w.main.body) K.xt true r.2.1.abs,(kHook K.pre.heap_39 K.zas (λ_=>by kernel_rfl)).obs r.2.1.abs))=some (true,openGood K.vw K.loose,(kHook K.pre.heap_39 K.zas (λ_=>by kernel_rfl)).val (w.withFollow "special-get-raises" false)):=by
 unfold K.xt K.vw;rw[Lu,Md,Lv,Me,PySem.W.Fast.te4792387133119668518];kernel_rfl
set_option maxRecDepth 100000 in
set_option maxHeartbeats 0 in
theorem K.half1(w:World)(os:Nb):(segRunT Pf PySem.Challenge.pw_renamehall_k92_whole_alike_rules_alike_w (w.withFollow "special-get-raises" true) 11 (some (.ref 6)) 0 60000 (HD.bootT (w.withFollow "special-get-raises" true).params os) (topStub PySem.Challenge.pw_renamehall_k92_whole_alike_rules_alike_w)).map (λr=>((staticsOk (Fz PySem.Challenge.pw_renamehall_k92_whole_alike_rules_alike_w.main.body) (boot_heap (w.withFollow "special-get-raises" true).params) r.2.1.abs.heap&&namesBound PySem.Challenge.pw_renamehall_k92_whole_alike_rules_alike_w r.2.1.abs.heap&&gensDone r.2.1.abs&&laidKept (boot_heap (w.withFollow "special-get-raises" true).params) r.2.1.abs.heap),openSeen K.vw K.loose (Fz PySem.Challenge.pw_renamehall_k92_whole_alike_rules_alike_w.main.body) K.xt true r.2.1.abs,(kHook K.pre.heap_39 K.zas (λ_=>by kernel_rfl)).obs r.2.1.abs))=some (true,openGood K.vw K.loose,(kHook K.pre.heap_39 K.zas (λ_=>by kernel_rfl)).val (w.withFollow "special-get-raises" true)):=by
 unfold K.xt K.vw;rw[Lu,Md,Lv,Me,PySem.W.Fast.te4792387133119668518];kernel_rfl
end
set_option Elab.async false
set_option linter.all false
set_option maxRecDepth 100000
namespace L2
open PySem PySem.Spec PyProof.Rows
noncomputable abbrev Key:=Sum Int Str
noncomputable def keyIs:Key->Value->Bool
 |.inl k,v=>Value.isInt k v
 |.inr x,v=>Value.isStrOf x v
noncomputable def keyH(w:World):Key->Int
 |.inl k=>hashInt k
 |.inr x=>hashStr w x
theorem q1k:∀{k} {v},keyIs k v=true->(∃i t,k=Sum.inl i/\v=Value.int i t)\/(∃x t,k=Sum.inr x/\v=Value.str x t)
 |.inl i,v,h=>by
  obtain⟨t,e⟩:=Value.isInt_shape (k:=i) (v:=v) h;exact .inl ⟨i,t,rfl,e⟩
 |.inr x,v,h=>by
  obtain⟨t,e⟩:=Value.isStrOf_shape h;exact .inr ⟨x,t,rfl,e⟩
def z8w(i)(t):keyIs (.inl i) (.int i t)=true:=by simp[keyIs,Value.isInt]
def q6v(x)(t):keyIs (.inr x) (.str x t)=true:=by simp[keyIs,Value.isStrOf]
def key_ll(a b):decide ((Sum.inl a:Key)=Sum.inl b)=(a==b):=by grind
def key_rr(a b):decide ((Sum.inr a:Key)=Sum.inr b)=decide (a=b):=by grind
def key_lr(a)(b):decide ((Sum.inl a:Key)=Sum.inr b)=false:=decide_eq_false (λq=>nomatch q)
def key_rl(a)(b):decide ((Sum.inr a:Key)=Sum.inl b)=false:=decide_eq_false (λq=>nomatch q)
noncomputable def mixKind(prog)(w):PySem.KeyKind prog w Key where
 is:=keyIs
 hash:=keyH w
 inj:=λv a b ha hb=>by
  rcases q1k ha with⟨i,t,rfl,rfl⟩|⟨x,t,rfl,rfl⟩
  ·rcases q1k hb with⟨j,u,rfl,e⟩|⟨y,u,rfl,e⟩
   ·injection e with e1 _;rw[e1]
   ·exact nomatch e
  ·rcases q1k hb with⟨j,u,rfl,e⟩|⟨y,u,rfl,e⟩
   ·exact nomatch e
   ·injection e with e1 _;rw[e1]
 byValue:=λk v h=>by
  rcases q1k h with⟨i,t,rfl,rfl⟩|⟨x,t,rfl,rfl⟩<;>rfl
 pyHash:=λhv h=>by
  rcases q1k hv with⟨i,t,rfl,rfl⟩|⟨x,t,rfl,rfl⟩
  ·exact wpAny_pyHash_int h
  ·exact wpAny_pyHash_str h
 eqBool:=λhu hv h=>by
  rcases q1k hu with⟨i,t,rfl,rfl⟩|⟨x,t,rfl,rfl⟩
  ·rcases q1k hv with⟨j,u,rfl,rfl⟩|⟨y,u,rfl,rfl⟩
   ·rw[key_ll] at h;exact wpAny_eqBool_int h
   ·rw[key_lr] at h;exact Va i t y u _ _ _ _ h
  ·rcases q1k hv with⟨j,u,rfl,rfl⟩|⟨y,u,rfl,rfl⟩
   ·rw[key_rl] at h;exact Vb x t j u _ _ _ _ h
   ·rw[key_rr] at h;exact wpAny_eqBool_str h
 «strs» := λk x t v h=>by
  rcases q1k h with⟨i,u,rfl,e⟩|⟨y,u,rfl,e⟩
  ·exact nomatch e
  ·injection e with e1 _
   subst e1
   cases v<;>rfl
def z4i(prog)(w)(i)(t):(mixKind prog w).is (.inl i) (.int i t)=true:=z8w i t
def z4j(prog)(w)(x)(t):(mixKind prog w).is (.inr x) (.str x t)=true:=q6v x t
inductive V where
 |non|bl (b:Bool)|int (i:Int)|str (x:Str)|byt (b:Array UInt8)|flt (b:UInt64)|ref (a:Addr)|ty (n:String)
 deriving DecidableEq
noncomputable def RelV:V->Value->Prop
 |.non,u=>u=Value.none
 |.bl b,u=>u=Value.bool b
 |.int i,u=>∃t,u=Value.int i t
 |.str x,u=>∃t,u=Value.str x t
 |.byt b,u=>∃t,u=Value.bytes b t
 |.flt b,u=>∃t,u=Value.float b t
 |.ref a,u=>u=Value.ref a
 |.ty n,u=>u=Value.type n
noncomputable abbrev Vals:List V->List Value->Prop:=Hx RelV
def Vals.length(r:Vals xs us):xs.length=us.length:=Hb r
theorem Vals.get:∀{xs} {us} {i:Nat} {x},Vals xs us->xs[i]?=some x->∃u,us[i]?=some u/\RelV x u
 |_,_,_,_,.nil,e=>by simp at e
 |_,_,0,_,.cons r _,e=>by simp at e;subst e;exact⟨_,rfl,r⟩
 |_,_,i+1,x,.cons _ t,e=>by
  obtain⟨u,f,g⟩:=Vals.get (i:=i) (x:=x) t (by simpa using e);exact⟨u,by simpa using f,g⟩
theorem Vals.set(r:RelV x u):∀{xs} {us}  i ,Vals xs us->Vals (xs.set i x) (us.set i u)
 |_,_,_,.nil=>.nil
 |_,_,0,.cons _ t=>.cons r t
 |_,_,i+1,.cons q t=>.cons q (Vals.set r i t)
def Vals.append(h:Vals xs f)(u:Vals ys g):Vals (xs++ys) (f++g):=by
 induction h with
 |nil=>exact u
 |cons r _ ih=>exact .cons r ih
theorem Vals.take:∀{xs} {us}  n ,Vals xs us->Vals (xs.take n) (us.take n)
 |_,_,0,_=>.nil
 |_,_,_+1,.nil=>.nil
 |_,_,n+1,.cons r t=>.cons r (Vals.take n t)
theorem Vals.drop:∀{xs} {us}  n ,Vals xs us->Vals (xs.drop n) (us.drop n)
 |_,_,0,r=>r
 |_,_,_+1,.nil=>.nil
 |_,_,n+1,.cons _ t=>Vals.drop n t
noncomputable def RelO:Option V->Option Value->Prop
 |some v,some u=>RelV v u
 |none,none=>True
 |_,_=>False
noncomputable def KV:List (κ×V)->List (κ×Value)->Prop:=Hx λp   q =>p.1=q.1/\RelV p.2 q.2
noncomputable def kV:Key->V
 |.inl i=>.int i
 |.inr x=>.str x
inductive HO where
 |lst (xs:List V)
 |tup (xs:List V)
 |dK (kvs:List (Key×V))|dT (kvs:List (List Key×V))
 |set (S:Int->Bool) (n:Nat)
 |ins (C dx:Addr) (fs:List (Str×V))
 |own (x:Addr)
 |xd (fs:List (Str×V))
 |met (f x:Addr)
 |rng (lo hi:Int)
 |frz (o:Obj) (u:HO)
 |tbl (ps:Array Value)
 |ext (φ:Heap->Prop)
noncomputable abbrev Hp:=Addr->Option HO
noncomputable def upd(H:Hp)(a:Addr)(o:HO):Hp:=λb=>if b=a then some o else H b
def q0c:upd H a o a=some o:=by unfold upd;rw[if_pos rfl]
def q0g(h:b≠a):upd H a o b=H b:=by unfold upd;rw[if_neg h]
def x8c:upd (upd H a o) a u=upd H a u:=by
 funext b;unfold upd;split<;>rfl
def x3k{H:Hp}(h:H a=some o)(h':H b=some u)(d:o≠u):a≠b:=by grind
def q0q{H:Hp}(h:H a=some o)(h':H b=none):a≠b:=by
 intro e;subst e;rw[h] at h';cases h'
section
variable(P:Aq)(w:World)
noncomputable def ObjOk(H:Hp)(h:Heap)(a:Addr):HO->Prop
 |.lst xs=>xs.length<=sizeLine/\∃(its:List Value) (n:Nat),Vals xs its/\h.get? a=some { cls:=.type "list",data:=.seq its.toArray n }
 |.tup xs=>xs.length<=sizeLine/\∃its,Vals xs its/\IsTup h a its.toArray
 |.dK kvs=>kvs.length<=sizeLine/\(a==Dk)=false/\∃vs,KV kvs vs/\h.DictOf (mixKind P w) a vs
 |.dT kvs=>kvs.length<=sizeLine/\(a==Dk)=false/\∃xs,
   Hx (λp   q =>p.1=q.1/\H q.2.1=some (.tup (p.1.map kV))/\RelV p.2 q.2.2) kvs xs /\
   ∃o es ep,h.get? a=some o/\o.ExactDict/\o.data=.dict es ep/\es.toList=xs.map (Qp (Le (mixKind P w)))/\(xs.map (·.1)).Nodup
 |.set S n=>h.SetOf (intKind P w) a S n
 |.ins C dx fs=>H dx=some (.own a)/\fs.length<=1000/\dx≠a/\h.get? a=some (Lf C dx) /\
   ∃mA,h.Ns1 dx mA/\(∀f,RelO (fs.lookup f) (mA f))/\Np mA (fs.map (·.1))
 |.own _=>∃o,h.get? a=some o
 |.xd fs=>∃mA,h.Ns1 a mA/\∀f,RelO (fs.lookup f) (mA f)
 |.rng lo hi=>∃t u v,h.get? a=some { cls:=.type "range",data:=.fields #[.int lo t,.int hi u,.int 1 v] }
 |.frz o u=>h.get? a=some o/\ObjOk H h a u
 |.tbl ps=>h.get? a=some { cls:=.none,data:=.fields ps }
 |.met f x=>h.get? a=some (W.methodObj (.ref f) (.ref x))
 |.ext φ=>φ h/\(∃o,h.get? a=some o)/\∀h1 h2,φ h1->(∀o,h1.get? a=some o->h2.get? a=some o)->φ h2
noncomputable def HOk(H:Hp)(h:Heap):Prop:=∀a o,H a=some o->ObjOk P w H h a o
end
section
variable{P:Aq}{w:World}{H H':Hp}{h h':Heap}{a:Addr}{o:HO}
def ObjOk.lt(x:ObjOk P w H h a o):a<h.objs.size:=by
 cases o with
 |lst xs=>obtain⟨_,_,_,_,e⟩:=x;exact As e
 |tup xs=>obtain⟨_,_,_,p⟩:=x;exact p.lt
 |dK kvs=>obtain⟨_,_,_,_,o,_,_,e,_⟩:=x;exact As e
 |dT kvs=>obtain⟨_,_,_,_,o,_,_,e,_⟩:=x;exact As e
 |set S n=>obtain⟨o,_,_,_,e,_⟩:=x;exact As e
 |ins C dx fs=>obtain⟨_,_,_,e,_⟩:=x;exact As e
 |own y=>obtain⟨_,e⟩:=x;exact As e
 |xd fs=>obtain⟨_,⟨_,_,_,e,_⟩,_⟩:=x;exact As e
 |rng lo hi=>obtain⟨_,_,_,e⟩:=x;exact As e
 |frz ob u=>obtain⟨e,_⟩:=x;exact As e
 |tbl ps=>exact As (show h.get? a=some _ from x)
 |met f y=>exact As (show h.get? a=some _ from x)
 |ext φ=>obtain⟨_,⟨_,e⟩,_⟩:=x;exact As e
def Hx.mapP{j o}{F G:j->o->Prop}{f}{g}(h:Hx F f g)(k:∀a b,F a b->G a b):Hx G f g:=by
 induction h with
 |nil=>exact .nil
 |cons r _ ih=>exact .cons (k _ _ r) ih
def ObjOk.stay(x:ObjOk P w H h a o)(k:∀b u,(b=a\/H b=some (.own a))->h.get? b=some u->h'.get? b=some u)(F:∀b,H b=some (.own a)->H' b=some (.own a))(G:∀b xs,H b=some (.tup xs)->H' b=some (.tup xs)):ObjOk P w H' h' a o:=by
 induction o with
 |lst xs=>obtain⟨z,B,n,r,e⟩:=x;exact⟨z,B,n,r,k _ _ (.inl rfl) e⟩
 |tup xs=>obtain⟨z,B,r,g,e,c⟩:=x;exact⟨z,B,r,g,k _ _ (.inl rfl) e,c⟩
 |dK kvs=>obtain⟨z,y,vs,r,g,j,s,e,c⟩:=x;exact⟨z,y,vs,r,g,j,s,k _ _ (.inl rfl) e,c⟩
 |dT kvs =>
  obtain⟨z,y,xs,r,g,j,s,e,c⟩:=x;exact⟨z,y,xs,Hx.mapP r λp q z=>⟨z.1,G _ _ z.2.1,z.2.2⟩,g,j,s,k _ _ (.inl rfl) e,c⟩
 |set S n=>obtain⟨g,j,s,t,e,c⟩:=x;exact⟨g,j,s,t,k _ _ (.inl rfl) e,c⟩
 |ins C dx fs =>
  obtain⟨d,z,ne,e,D,⟨E,j,s,I,c⟩,r⟩:=x;exact⟨F _ d,z,ne,k _ _ (.inl rfl) e,D,⟨E,j,s,k _ _ (.inr d) I,c⟩,r⟩
 |own y=>obtain⟨g,e⟩:=x;exact⟨g,k _ _ (.inl rfl) e⟩
 |xd fs=>obtain⟨D,⟨E,j,s,e,c⟩,r⟩:=x;exact⟨D,⟨E,j,s,k _ _ (.inl rfl) e,c⟩,r⟩
 |rng lo hi=>obtain⟨t,u,v,e⟩:=x;exact⟨t,u,v,k _ _ (.inl rfl) e⟩
 |frz g u ih=>obtain⟨e,q⟩:=x;exact⟨k _ _ (.inl rfl) e,ih q⟩
 |tbl ps =>
  have e:h.get? a=some { cls:=.none,data:=.fields ps }:=x;exact k a _ (.inl rfl) e
 |met f y =>
  have e:=x;exact k a _ (.inl rfl) e
 |ext φ=>obtain⟨p,⟨o,e⟩,st⟩:=x;exact⟨st _ _ p λo q=>k _ _ (.inl rfl) q,⟨o,k _ _ (.inl rfl) e⟩,st⟩
def HOk.lt(x:HOk P w H h)(e:H a=some o):a<h.objs.size:=(x a o e).lt
def HOk.fresh(x:HOk P w H h)(e:h.objs.size<=a):H a=none:=by
 cases q:H a with
 |none=>rfl
 |some u=>exact absurd (Bp (x.lt q) e) (Hc _)
def HOk.kept(x:HOk P w H h)(k:∀b u,h.get? b=some u->h'.get? b=some u):HOk P w H h':=λa o e =>
 (x a o e).stay (λb u _ q=>k b u q) (λ_ q=>q) λ_ _ q=>q
def HOk.laid(x:HOk P w H h)(k:∀b u,h.get? b=some u->h'.get? b=some u)(g:h.objs.size<=a)(new:ObjOk P w (upd H a o) h' a o):HOk P w (upd H a o) h':=λb u e=>by
 have hn:=x.fresh g;by_cases f:b=a
 ·subst f;rw[q0c] at e;cases e;exact new
 ·rw[q0g f] at e;exact(x b u e).stay (λc v _ q=>k c v q) (λc q=>by rw[q0g (q0q q hn)];exact q) λc j q=>by rw[q0g (q0q q hn)];exact q
end
noncomputable def Rd(H:Hp)(a:Addr)(u:HO):Prop:=H a=some u\/∃o,H a=some (.frz o u)
def Rd.ok(r:Rd H a u)(x:HOk P w H h):ObjOk P w H h a u:=by
 rcases r with r|⟨o,r⟩
 ·exact x a u r
 ·obtain⟨_,q⟩:=x a _ r;exact q
noncomputable def Mut:Option HO->Prop
 |some (.lst _)=>True
 |some (.dK _)=>True
 |some (.dT _)=>True
 |some (.set _ _)=>True
 |some (.ins _ _ _)=>True
 |some (.ext _)=>True
 |_=>False
section
variable{P:Aq}{w:World}{H:Hp}{h h':Heap}{x e:Addr}{o':HO}
def HOk.write(ok:HOk P w H h)(o:Mut (H x))(E:e=x\/H e=some (.own x))(k:∀b u,b≠e->h.get? b=some u->h'.get? b=some u)(B:∃u,h'.get? e=some u)(new:ObjOk P w (upd H x o') h' x o'):HOk P w (upd H x o') h':=λb u q=>by
 have g:∀c y,H c=some (.own y)->c≠x:=λc y r z=>by subst z;rw[r] at o;exact o
 have j:∀c s,H c=some (.tup s)->c≠x:=λc s r z=>by subst z;rw[r] at o;exact o
 by_cases C:b=x
 ·subst C;rw[q0c] at q;cases q;exact new
 ·rw[q0g C] at q;by_cases f:b=e
  ·have q':H b=some (.own x):=by
    rcases E with z|z
    ·grind
    ·rw[f];exact z
   rw[q] at q';cases q';obtain⟨v,F⟩:=B;exact⟨v,by rw[f];exact F⟩
  ·refine(ok b u q).stay (λc v D r=>k c v ?_ r) (λc r=>by rw[q0g (g c b r)];exact r) λc s r=>by rw[q0g (j c s r)];exact r
   rcases D with rfl|D
   ·exact f
   ·grind
end
structure Un (fs ex:List Addr) (H H':Hp) (h h':Heap):Prop where
 keep:∀b o,h.get? b=some o->H b=none->b∉fs->b∉ex->h'.get? b=some o
 slot:∀b o,h.get? b=some o->H b=none->b∈fs->b∉ex->∃sl,h'.get? b=some { o with slots:=sl }
 free:∀b o,h.get? b=some o->H b=none->b∉ex->H' b=none
 there:∀b o,h.get? b=some o->b∉ex->∃o',h'.get? b=some o'
 tups:∀b xs,H b=some (.tup xs)->H' b=some (.tup xs)
 frzs:∀b o u,H b=some (.frz o u)->H' b=some (.frz o u)
 tbls:∀b ps,H b=some (.tbl ps)->∃more,H' b=some (.tbl (ps++more))
section
variable{fs fs' ex ex':List Addr}{H H1 H2:Hp}{h h1 h2 h':Heap}{a x e:Addr}{o:HO}
def Un.any(u:Un fs ex H H1 h h1)(q:h.get? b=some ob)(n:H b=none)(f:b∉ex):∃j,h1.get? b=some { ob with slots:=j }:=by
 by_cases g:b∈fs
 ·exact u.slot b ob q n g f
 ·exact⟨ob.slots,u.keep b ob q n g f⟩
def Un.kept(k:∀b u,h.get? b=some u->h'.get? b=some u):Un fs ex H H h h' :=
 ⟨λb f q _ _ _=>k b f q,λb f q _ _ _=>⟨f.slots,k b f q⟩,λ_ _ _ n _=>n,λb f q _=>⟨f,k b f q⟩,λ_ _ q=>q,λ_ _ _ q=>q,λ_ g q=>⟨#[],by rw[q];simp⟩⟩
def Un.refl:Un fs ex H H h h:=Un.kept λ_ _ q=>q
def Un.laid(k:∀b u,h.get? b=some u->h'.get? b=some u)(f:h.objs.size<=a)(hn:H a=none):Un fs ex H (upd H a o) h h' where
 keep:=λb u q _ _ _=>k b u q
 slot:=λb u q _ _ _=>⟨u.slots,k b u q⟩
 free:=λb u q n _=>by rw[q0g (Bl (Bp (As q) f))];exact n
 there:=λb u q _=>⟨u,k b u q⟩
 tups:=λb g q=>by rw[q0g (q0q q hn)];exact q
 frzs:=λb u g q=>by rw[q0g (q0q q hn)];exact q
 tbls:=λb j q=>⟨#[],by rw[q0g (q0q q hn),q];simp⟩
def Un.write(f:Mut (H x))(C:e=x\/H e=some (.own x))(k:∀b u,b≠e->h.get? b=some u->h'.get? b=some u)(g:∃u,h'.get? e=some u):Un fs ex H (upd H x o) h h':=by
 have v:∀b,H b=none->b≠x:=λb n z=>by subst z;rw[n] at f;exact f
 have B:∀b,H b=none->b≠e:=λb n z=>by
  subst z;rcases C with r|r
  ·exact v b n r
  ·rw[n] at r;cases r
 have j:∀b u,H b=some u->¬Mut (some u)->b≠x:=λb u q nm z=>by subst z;rw[q] at f;exact nm f
 refine⟨λb u q n _ _=>k b u (B b n) q,λb u q n _ _=>⟨u.slots,k b u (B b n) q⟩,λb u q n _=>by rw[q0g (v b n)];exact n,λb u q _=>?_,
  λb D q=>by rw[q0g (j b _ q λz=>z)];exact q,λb u D q=>by rw[q0g (j b _ q λz=>z)];exact q,λb E q=>⟨#[],by rw[q0g (j b _ q λz=>z),q];simp⟩⟩
 by_cases s:b=e
 ·subst s;exact g
 ·grind
end
noncomputable def trk(h:Heap)(H:Hp):List Addr:=(List.range h.objs.size).filter λa=>(H a).isSome
noncomputable def hidT(h:Heap)(H:Hp):Heap:=W.hideAll h (trk h H)
def z8x(h)(H):(hidT h H).objs.size=h.objs.size:=W.hideAll_size _ _
def x3l(e:h.get? b=some o)(n:H b=none):(hidT h H).get? b=some o :=
 W.hideAll_get _ e λf=>by
  have q:=(Bt.mp f).2;rw[n] at q;simp at q
def x8d(e:(hidT h H).get? b=some o):h.get? b=some o/\H b=none:=by
 have e':=W.of_hideAll (trk h H) e;refine⟨e',?_⟩;cases q:H b with
 |none=>rfl
 |some x =>
  have f:b∈trk h H:=Bt.mpr ⟨List.mem_range.mpr (As e'),by simp[q]⟩;have z:(hidT h H).get? b=none:=W.hideAll_none (trk h H) f;rw[z] at e;cases e
noncomputable def allNews(g h:Heap)(L:Addr):List (Addr×Obj):=(List.range h.objs.size).filterMap λa=>if a=L\/(g.get? a).isSome=true then none else(h.get? a).map λo=>(a,o)
noncomputable def rest(g h:Heap)(L d:Addr):List (Addr×Obj):=(allNews g h L).filter λp=>decide (p.1≠d)
structure Mod (K:Ai) (mg) (base):Prop where
 kin:K.In base
 glob:base.Ns Cr mg
 blt:∃mb,base.Ns builtinsNs mb/\∀x:Str,x ≠ "__name__" -> mb x=Ho x
 nolimit:base.NoLimit
structure Cx where
 prog:Aq
 w:World
 K:Ai
 mg:Str->Option Value
 base:Heap
 A:Around
 N:List Str
 s₀:Ah
 H₀:Hp
 env:Env
 outer:List Env
 stack:List Env
 ex:List Addr
 fn:Str->Bool
 calm:Bool
 pn:List (Addr×Obj)
 xe:Value->Ah->Prop
noncomputable def frs(l:List Env):List Addr:=l.filterMap (·.frame)
noncomputable abbrev Cx.fs(X:Cx):List Addr:=frs X.outer
noncomputable def Vis(sc:Scope)(x:Str):Prop:=sc.names.lookup x=some .local\/sc.names.lookup x=some .cell\/sc.names.lookup x=some .free
noncomputable def Loc(sc:Scope)(x:Str):Prop:=sc.names.lookup x=some .local\/sc.names.lookup x=some .cell
noncomputable def Look(env:Env)(h:Heap)(m:Str->Option Value)(x:Str)(u:Value):Prop :=
 (env.kindOf x=some .local/\m x=some u)\/((env.kindOf x=some .cell\/env.kindOf x=some .free)/\∃c,env.cells.lookup x=some c/\h.IsCell c (some u))
structure Cx.Ok (X:Cx):Prop where
 mod:Mod X.K X.mg X.base
 kind:X.env.scope.kind=.function
 glob:X.env.globals=Cr
 blt:X.env.builtins=builtinsNs
 above:X.s₀.heap.objs.size<=X.env.locals
 inj:∀x y c,X.env.cells.lookup x=some c->X.env.cells.lookup y=some c->x=y
 has:∀x,(X.env.kindOf x=some .cell\/X.env.kindOf x=some .free)->∃c,X.env.cells.lookup x=some c
 cab:∀x c,X.fn x=true->X.env.cells.lookup x=some c->X.s₀.heap.objs.size<=c
 hd:X.calm=true->X.A.handled=none
 frames:X.A.frames=some X.stack
 stk:X.stack=X.outer\/(X.stack=X.env::X.outer/\X.env.frame=some X.env.locals)
 exf:∀b∈X.ex,b≠X.env.locals/\∀x c,X.env.cells.lookup x=some c->c≠b
 bs:∀b o,X.base.get? b=some o->X.s₀.heap.get? b=some o/\X.H₀ b=none
 bsz:X.base.objs.size<=X.s₀.heap.objs.size
 noex:∀b o,X.base.get? b=some o->b∉X.ex
 exfs:∀b∈X.ex,b∉X.fs
 funs:X.s₀.heap.FunFrames X.base X.outer
 frf:∀b∈X.fs,X.H₀ b=none
structure Inv (X:Cx) (pins) (σ:List (Option V)) (H) (s:Ah):Prop where
 ok:X.Ok
 os:s.os=X.s₀.os
 bare:Lw s.gens
 base:Un X.fs X.ex X.H₀ H X.s₀.heap s.heap
 loc:∃m,s.heap.Ns X.env.locals m/\∀(i:Nat)  x   v ,X.N[i]?=some x->σ[i]?=some (some v)->Vis X.env.scope x->∃u,RelV v u/\Look X.env s.heap m x u
 cell:∀x c,X.env.cells.lookup x=some c->∃v,s.heap.IsCell c v
 free:H X.env.locals=none
 freeC:∀x c,X.env.cells.lookup x=some c->H c=none
 pin:∀p∈X.pn++pins,s.heap.get? p.1=some p.2/\H p.1=none/\p.1≠X.env.locals/\p.1∉X.fs/\∀v,p.2.data≠.cell v
 hok:HOk X.prog X.w H s.heap
 len:σ.length=X.N.length
section
variable{X:Cx}{pins:List (Addr×Obj)}{σ:List (Option V)}{H H':Hp}{s:Ah}{h':Heap}
def Cx.Ok.nofr(ok:X.Ok)(e:X.base.get? b=some o):b∉X.fs:=λf=>by
 have:=(ok.funs.mem f).1;rw[e] at this;cases this
def Inv.bs(I:Inv X pins σ H s):∀b o,X.base.get? b=some o->s.heap.get? b=some o/\H b=none:=λb o e =>
 ⟨I.base.keep b o (I.ok.bs b o e).1 (I.ok.bs b o e).2 (I.ok.nofr e) (I.ok.noex b o e),I.base.free b o (I.ok.bs b o e).1 (I.ok.bs b o e).2 (I.ok.noex b o e)⟩
def Inv.bk(I:Inv X pins σ H s):∀b o,X.base.get? b=some o->s.heap.get? b=some o:=λb o e=>(I.bs b o e).1
def Inv.mod(I:Inv X pins σ H s):Mod X.K X.mg X.base:=I.ok.mod
def Inv.kIn(I:Inv X pins σ H s):X.K.In s.heap:=I.ok.mod.kin.keeps I.bk
def Inv.lt(I:Inv X pins σ H s):X.env.locals<s.heap.objs.size:=let ⟨_,hn,_⟩:=I.loc;hn.lt
def Inv.sz(I:Inv X pins σ H s):X.s₀.heap.objs.size<=s.heap.objs.size:=Ay I.ok.above (Jk I.lt)
def Inv.nofs(I:Inv X pins σ H s){a:Addr}(h:s.heap.objs.size<=a):a∉X.fs:=λf=>by
 obtain⟨_,o,g,_⟩:=I.ok.funs.mem f;exact absurd (Bp (As g) (Ay I.sz h)) (Hc _)
def Inv.cne(I:Inv X pins σ H s):∀x c,X.env.cells.lookup x=some c->c≠X.env.locals:=λx c e z=>by
 obtain⟨v,o,h,hd⟩:=I.cell x c e;obtain⟨m,⟨j,u,B,f,g,_⟩,_⟩:=I.loc;rw[z,f] at h;cases h;rw[g] at hd;cases hd
def Inv.funs(I:Inv X pins σ H s):s.heap.FunFrames X.base X.outer:=by
 have all:∀(l:List Env),(∀b∈frs l,b∈X.fs)->X.s₀.heap.FunFrames X.base l->s.heap.FunFrames X.base l:=by
  intro l;induction l with
  |nil=>intro _ _;trivial
  |cons env r ih =>
   intro j hl;obtain⟨hk,⟨L,o,f,hn,u,hd⟩,v⟩:=hl;have g:=j L (by unfold frs;rw[Oq,f];exact Al);obtain⟨B,e⟩:=I.base.slot L o u (I.ok.frf L g) g λz=>I.ok.exfs L z g;exact⟨hk,⟨L,_,f,hn,e,hd⟩,ih (λb h=>j b (by unfold frs;rw[Oq,f];exact Ak _ h)) v⟩
 exact all X.outer (λ_ h=>h) I.ok.funs
def Inv.stack(I:Inv X pins σ H s):s.heap.FunFrames X.base X.stack:=by
 rcases I.ok.stk with e|⟨e,f⟩
 ·rw[e];exact I.funs
 ·rw[e];obtain⟨m,hn,_⟩:=I.loc;refine .cons (by rw[I.ok.kind];decide) f hn ?_ I.funs;exact Nq (Ay I.ok.bsz I.ok.above)
def Inv.stkSub(I:Inv X pins σ H s):∀b∈frs X.stack,b∈X.env.locals::X.fs:=λb f=>by
 rcases I.ok.stk with e|⟨e,g⟩
 ·grind
 ·rw[e] at f;unfold frs at f;rw[Oq,g] at f;exact f
def Inv.stkFree(I:Inv X pins σ H s):∀b∈frs X.stack,H b=none:=λb f=>by
 rcases Av.mp (I.stkSub b f) with e|f
 ·rw[e];exact I.free
 ·obtain⟨_,o,g,_⟩:=I.ok.funs.mem f;exact I.base.free b o g (I.ok.frf b f) λz=>I.ok.exfs b z f
def Inv.step{ch:List Addr}(I:Inv X pins σ H s)(g:∀b∈ch,(b∈X.ex\/X.s₀.heap.objs.size<=b)/\b≠X.env.locals/\(∀x c,X.env.cells.lookup x=some c->c≠b)/\∀p∈X.pn++pins,p.1≠b)(keep:∀b o,b≠X.env.locals->b∉X.fs->b∉ch->s.heap.get? b=some o->H b=none->h'.get? b=some o)(slot:∀b o,b≠X.env.locals->b∈X.fs->b∉ch->s.heap.get? b=some o->H b=none->∃L,h'.get? b=some { o with slots:=L })(free:∀b o,b∉ch->s.heap.get? b=some o->H b=none->H' b=none)(there:∀b o,b∉ch->s.heap.get? b=some o->∃F,h'.get? b=some F)(tups:∀b xs,H b=some (.tup xs)->H' b=some (.tup xs))(frzs:∀b o u,H b=some (.frz o u)->H' b=some (.frz o u))(tbls:∀b ps,H b=some (.tbl ps)->∃more,H' b=some (.tbl (ps++more)))(ns:∀m,s.heap.Ns X.env.locals m->h'.Ns X.env.locals m)(hok:HOk X.prog X.w H' h')(R:Lw g'):
  Inv X pins σ H' { s with heap:=h',gens:=g',drawn:=d',toks:=t' }:=by
 have G:∀b o,X.s₀.heap.get? b=some o->b≠X.env.locals:=λb o e=>Bl (Bp (As e) I.ok.above);have B:∀b o,X.s₀.heap.get? b=some o->b∉X.ex->b∉ch:=λb o e f D=>by
  rcases(g b D).1 with z|z
  ·exact f z
  ·exact absurd (Bp (As e) z) (Hc _)
 have h:∀x c,X.env.cells.lookup x=some c->∀v,s.heap.IsCell c v->h'.IsCell c v:=λx c e v ⟨o,E,hd⟩=>by
  have j:=λz=>(g c z).2.2.1 x c e rfl;by_cases O:c∈X.fs
  ·obtain⟨L,q⟩:=slot c o (I.cne x c e) O j E (I.freeC x c e);exact⟨_,q,hd⟩
  ·exact⟨o,keep c o (I.cne x c e) O j E (I.freeC x c e),hd⟩
 refine⟨I.ok,I.os,R,⟨λb o e n D f=>?_,λb o e n D f=>?_,λb o e n f=>?_,λb o e f=>?_,λb xs e=>tups b xs (I.base.tups b xs e),λb o xs e=>frzs b o xs (I.base.frzs b o xs e),λb ps e=>?_⟩,?_,λx c e=>?_,?_,λx c e=>?_,λp P=>?_,hok,I.len⟩
 ·exact keep b o (G b o e) D (B b o e f) (I.base.keep b o e n D f) (I.base.free b o e n f)
 ·obtain⟨L,C⟩:=I.base.slot b o e n D f;obtain⟨M,J⟩:=slot b _ (G b o e) D (B b o e f) C (I.base.free b o e n f);exact⟨M,J⟩
 ·obtain⟨F,C⟩:=I.base.there b o e f;exact free b F (B b o e f) C (I.base.free b o e n f)
 ·obtain⟨F,C⟩:=I.base.there b o e f;exact there b F (B b o e f) C
 ·obtain⟨S,C⟩:=I.base.tbls b ps e;obtain⟨T,J⟩:=tbls b _ C;exact⟨S++T,by rw[J,Array.append_assoc]⟩
 ·obtain⟨m,hn,hl⟩:=I.loc;refine⟨m,ns m hn,λi x v C J U=>?_⟩;obtain⟨u,r,l⟩:=hl i x v C J U;refine⟨u,r,?_⟩;rcases l with l|⟨k,c,e,z⟩
  ·exact .inl l
  ·exact .inr ⟨k,c,e,h x c e _ z⟩
 ·obtain⟨v,z⟩:=I.cell x c e;exact⟨v,h x c e v z⟩
 ·obtain⟨m,⟨o,_,_,E,_⟩,_⟩:=I.loc;exact free _ o (λz=>(g _ z).2.1 rfl) E I.free
 ·obtain⟨v,o,E,hd⟩:=I.cell x c e;exact free c o (λz=>(g c z).2.2.1 x c e rfl) E (I.freeC x c e)
 ·obtain⟨e,n,ne,Q,d⟩:=I.pin p P;have j:=λz=>(g p.1 z).2.2.2 p P rfl
  exact⟨keep p.1 p.2 ne Q j e n,free p.1 p.2 j e n,ne,Q,d⟩
def Inv.un(I:Inv X pins σ H s)(u:Un X.fs [] H H' s.heap h')(hok:HOk X.prog X.w H' h'):Inv X pins σ H' { s with heap:=h',toks:=t' }:=by
 obtain⟨m,⟨o,E,F,v,r⟩,_⟩:=id I.loc;obtain⟨G,B⟩:=u.any v I.free (by simp);exact I.step (g':=s.gens) (d':=s.drawn) (ch:=[]) (λ_ z=>nomatch z) (λb o _ g _ e n=>u.keep b o e n g (by simp)) (λb o _ g _ e n=>u.slot b o e n g (by simp)) (λb o _ e n=>u.free b o e n (by simp)) (λb o _ e=>u.there b o e (by simp)) u.tups u.frzs u.tbls (λJ C=>by
  obtain⟨L,h,j,f,D⟩:=C;rw[v] at f;cases f;exact⟨_,h,j,B,D⟩) hok I.bare
def Inv.call(I:Inv X pins σ H s)(u:Un (frs X.stack) ch H H' s.heap h')(hok:HOk X.prog X.w H' h')(D:Lw g')(g:∀b∈ch,(b∈X.ex\/X.s₀.heap.objs.size<=b)/\b≠X.env.locals/\(∀x c,X.env.cells.lookup x=some c->c≠b)/\∀p∈X.pn++pins,p.1≠b):
  Inv X pins σ H' { s with heap:=h',gens:=g',drawn:=d',toks:=t' }:=by
 obtain⟨m,⟨o,J,L,C,r⟩,_⟩:=id I.loc;obtain⟨M,j⟩:=u.any C I.free λz=>(g _ z).2.1 rfl
 exact I.step g (λb o j E f e n=>u.keep b o e n (λz=>(Av.mp (I.stkSub b z)).elim j E) f) (λb o _ _ f e n=>u.any e n f) (λb o f e n=>u.free b o e n f) (λb o f e=>u.there b o e f) u.tups u.frzs u.tbls (λO F=>by
  obtain⟨P,v,B,h,G⟩:=F;rw[C] at h;cases h;exact⟨_,v,B,j,G⟩) hok D
def Inv.turned(I:Inv X pins σ H s)(k:∀b o,b≠it->s.heap.get? b=some o->h'.get? b=some o)(hn:H it=none)(h:it≠X.env.locals)(j:it∈X.ex\/X.s₀.heap.objs.size<=it)(B:∀x c,X.env.cells.lookup x=some c->c≠it)(C:∀p∈X.pn++pins,p.1≠it):Inv X pins σ H { s with heap:=h',toks:=t' }:=by
 have g:∀b u,H b=some u->b≠it:=λb u e z=>by rw[z,hn] at e;cases e
 refine I.step (g':=s.gens) (d':=s.drawn) (ch:=[it]) (λb D=>?_) (λb o _ _ f e _=>k b o (λz=>f (by simp[z])) e) (λb o _ _ f e _=>⟨o.slots,k b o (λz=>f (by simp[z])) e⟩) (λ_ _ _ _ n=>n)
  (λb o f e=>⟨o,k b o (λz=>f (by simp[z])) e⟩) (λ_ _ e=>e) (λ_ _ _ e=>e) (λb L e=>⟨#[],by rw[e];simp⟩) (λm E=>?_) (λb u e=>?_) I.bare
 ·have e:b=it:=by simpa using D
  subst e;exact⟨j,h,B,C⟩
 ·obtain⟨o,F,G,J,r⟩:=E;exact⟨o,F,G,k _ o (Cp h) J,r⟩
 ·refine(I.hok b u e).stay (λc v f q=>k c v ?_ q) (λ_ q=>q) λ_ _ q=>q;rcases f with z|z
  ·rw[z];exact g b u e
  ·exact g c _ z
def Inv.tok(I:Inv X pins σ H s)(t):Inv X pins σ H { s with toks:=t }:=I.un (h':=s.heap) (t':=t) Un.refl I.hok
def Inv.kept(I:Inv X pins σ H s)(k:∀b u,s.heap.get? b=some u->h'.get? b=some u):Inv X pins σ H { s with heap:=h',toks:=t' }:=I.un (Un.kept k) (I.hok.kept k)
def Inv.laid{a:Addr}(I:Inv X pins σ H s)(k:∀b u,s.heap.get? b=some u->h'.get? b=some u)(f:s.heap.objs.size<=a)(new:ObjOk X.prog X.w (upd H a o) h' a o):
  Inv X pins σ (upd H a o) { s with heap:=h',toks:=t' }:=I.un (Un.laid k f (I.hok.fresh f)) (I.hok.laid k f new)
def Inv.write(I:Inv X pins σ H s)(g:Mut (H x))(h:e=x\/H e=some (.own x))(k:∀b u,b≠e->s.heap.get? b=some u->h'.get? b=some u)(f:∃u,h'.get? e=some u)(new:ObjOk X.prog X.w (upd H x o) h' x o):Inv X pins σ (upd H x o) { s with heap:=h',toks:=t' }:=I.un (Un.write g h k f) (I.hok.write g h k f new)
def Inv.weak(I:Inv X pins σ H s)(hl:σ'.length=σ.length)(w:∀(i:Nat) v,σ'[i]?=some (some v)->σ[i]?=some (some v)):Inv X pins σ' H s :=
 ⟨I.ok,I.os,I.bare,I.base,let ⟨m,hn,f⟩:=I.loc;⟨m,hn,λi x v g h j=>f i x v g (w i v h) j⟩,I.cell,I.free,I.freeC,I.pin,I.hok,hl.trans I.len⟩
def Inv.pins_of(I:Inv X pins σ H s)(h:∀p∈pins',s.heap.get? p.1=some p.2/\H p.1=none/\p.1≠X.env.locals/\p.1∉X.fs/\∀v,p.2.data≠.cell v):Inv X pins' σ H s :=
 ⟨I.ok,I.os,I.bare,I.base,I.loc,I.cell,I.free,I.freeC,λp f=>(Au.mp f).elim (λz=>I.pin p (Bu _ z)) (h p),I.hok,I.len⟩
def q9o{N:List Str}(f:N.Nodup){j:Nat}(a:N[i]?=some x)(b:N[j]?=some x):i=j:=by
 obtain⟨o,g⟩:=Ap.mp a;obtain⟨s,h⟩:=Ap.mp b;exact(List.getElem_inj f).mp (g.trans h.symm)
def q6w(I:Inv X pins σ H s)(hN:X.N.Nodup)(R:X.N[i]?=some x)(C:Loc X.env.scope x)(r:RelV v u)(h:∀s',Inv X pins (σ.set i (some v)) H s'->(∃a,Gd a s.heap s'.heap/\(a=X.env.locals\/X.env.cells.lookup x=some a))->Q () s')(hf:X.fn x=true\/X.env.scope.names.lookup x=some .local:=by trivial):wpAny M A (storeName X.env x u) Q E s:=by
 obtain⟨m,hn,hl⟩:=id I.loc;have S:(X.env.scope.kind==.class||(X.env.scope.kind==.module&&X.env.locals != X.env.globals))=false:=by rw[I.ok.kind];rfl
 have G:i<σ.length:=by rw[I.len];exact(Ap.mp R).1
 have cne:=I.cne;have g:∀{a:Addr} {P:Heap},(∃o,s.heap.get? a=some o/\H a=none)->Gd a s.heap P->HOk X.prog X.w H P:=λ{a P} ha f b ob e=>by
  obtain⟨_,_,Z⟩:=ha;refine(I.hok b ob e).stay (λc W D q=>(f.2 c ?_).trans q) (λ_ q=>q) λ_ _ q=>q
  rcases D with rfl|D
  ·grind
  ·grind
 rcases C with hk|hk
 ·refine wpAny_storeName_local hk hn (λP a0 f=>?_) S;obtain⟨oL,_,_,a1,_⟩:=id hn;refine h _ ⟨I.ok,I.os,I.bare,⟨λb o e n J C=>?_,λb o e n J C=>?_,I.base.free,λb o e C=>?_,I.base.tups,I.base.frzs,I.base.tbls⟩,⟨_,a0,λj y v' B F e3=>?_⟩,λy c e=>?_,I.free,I.freeC,λp hp=>?_,g ⟨oL,a1,I.free⟩ f,by simpa using I.len⟩ ⟨_,f,.inl rfl⟩
  ·exact(f.2 b (Bl (Bp (As e) I.ok.above))).trans (I.base.keep b o e n J C)
  ·obtain⟨sl,B⟩:=I.base.slot b o e n J C;exact⟨sl,(f.2 b (Bl (Bp (As e) I.ok.above))).trans B⟩
  ·obtain⟨o',B⟩:=I.base.there b o e C;exact⟨o',(f.2 b (Bl (Bp (As e) I.ok.above))).trans B⟩
  ·by_cases L:j=i
   ·subst L;rw[R] at B;cases B;rw[Si G] at F;cases F;exact⟨u,r,.inl ⟨hk,by simp⟩⟩
   ·rw[Nr (Cp L)] at F;obtain⟨u',r',q⟩:=hl j y v' B F e3;refine⟨u',r',?_⟩;rcases q with⟨k,e⟩|⟨k,c,e,z⟩
    ·refine .inl ⟨k,?_⟩;have:y≠x:=λe=>L (q9o hN B (e▸R));simp[this,e]
    ·exact .inr ⟨k,c,e,z.sameBut f (cne y c e)⟩
  ·obtain⟨W,z⟩:=I.cell y c e;exact⟨W,z.sameBut f (cne y c e)⟩
  ·obtain⟨e,n,ne,nf,d⟩:=I.pin p hp;exact⟨(f.2 p.1 ne).trans e,n,ne,nf,d⟩
 ·have O:X.fn x=true:=by
   rcases hf with z|z
   ·exact z
   ·grind
  obtain⟨c,D⟩:=I.ok.has x (.inl hk);obtain⟨W,z⟩:=I.cell x c D;refine wpAny_storeName_cell I.ok.kind hk D z (λP a2 f=>?_);obtain⟨oc,T,U⟩:=id z;refine h { s with heap:=P } ⟨I.ok,I.os,I.bare,⟨λb o e n J C=>?_,λb o e n J C=>?_,I.base.free,λb o e C=>?_,I.base.tups,I.base.frzs,I.base.tbls⟩,⟨m,hn.sameBut f (Cp (cne x c D)),λj y v' B F e3=>?_⟩,λy Y e=>?_,I.free,I.freeC,λp hp=>?_,g ⟨oc,T,I.freeC x c D⟩ f,by simpa using I.len⟩ ⟨c,f,.inr D⟩
  ·exact(f.2 b (Bl (Bp (As e) (I.ok.cab x c O D)))).trans (I.base.keep b o e n J C)
  ·obtain⟨sl,B⟩:=I.base.slot b o e n J C;exact⟨sl,(f.2 b (Bl (Bp (As e) (I.ok.cab x c O D)))).trans B⟩
  ·obtain⟨o',B⟩:=I.base.there b o e C;exact⟨o',(f.2 b (Bl (Bp (As e) (I.ok.cab x c O D)))).trans B⟩
  ·by_cases L:j=i
   ·subst L;rw[R] at B;cases B;rw[Si G] at F;cases F;exact⟨u,r,.inr ⟨.inl hk,c,D,a2⟩⟩
   ·rw[Nr (Cp L)] at F;obtain⟨u',r',q⟩:=hl j y v' B F e3;refine⟨u',r',?_⟩;rcases q with q|⟨k,Y,e,z'⟩
    ·exact .inl q
    ·refine .inr ⟨k,Y,e,z'.sameBut f ?_⟩;rintro rfl;exact L (q9o hN B (I.ok.inj _ _ _ e D▸R))
  ·by_cases a3:Y=c
   ·grind
   ·obtain⟨w2,z2⟩:=I.cell y Y e;exact⟨w2,z2.sameBut f a3⟩
  ·obtain⟨e,n,ne,nf,d⟩:=I.pin p hp;refine⟨(f.2 p.1 ?_).trans e,n,ne,nf,d⟩;intro q;rw[q,T] at e;have q':=Co e;exact d W (by rw[<- q'];exact U)
def q6l(I:Inv X pins σ H s)(f:X.N.Nodup)(g:X.N[i]?=some x)(j:Loc X.env.scope x)(r:RelV v u)(h:∀s',Inv X pins (σ.set i (some v)) H s'->Q () s')(o:X.fn x=true\/X.env.scope.names.lookup x=some .local:=by trivial):wpAny M A (storeName X.env x u) Q E s :=
 q6w I f g j r (λs' B _=>h s' B) o
def Inv.call'(I:Inv X pins σ H s)(o:s'.os=s.os)(u:Un (frs X.stack) ch H H' s.heap s'.heap)(hok:HOk X.prog X.w H' s'.heap)(v:Lw s'.gens)(f:∀b∈ch,(b∈X.ex\/X.s₀.heap.objs.size<=b)/\b≠X.env.locals/\(∀x c,X.env.cells.lookup x=some c->c≠b)/\∀p∈X.pn++pins,p.1≠b):Inv X pins σ H' s':=by
 obtain⟨B,g,h,j,C⟩:=s';have e:=o;subst e;exact I.call (g':=g) (t':=j) (d':=h) u hok v f
end
noncomputable abbrev XK:=Value->Option Addr->Hp->Prop
noncomputable abbrev St:=List (Option V)
noncomputable abbrev VK:=V->Hp->Prop
noncomputable abbrev TE:=St->Hp->VK->Prop
noncomputable abbrev TT:=St->Hp->(Bool->Hp->Prop)->Prop
noncomputable abbrev TA:=St->Hp->(List V->Hp->Prop)->Prop
structure Ends where
 nx:St->Hp->Prop
 rt:VK
 bk:St->Hp->Prop:=λ_ _=>False
 ct:St->Hp->Prop:=λ_ _=>False
noncomputable abbrev TS:=Ends->St->Hp->Prop
noncomputable def EP(X:Cx)(pins:List (Addr×Obj))(σ:St)(Q:VK)(u:Value)(s':Ah):Prop:=∃v H',Inv X pins σ H' s'/\RelV v u/\Q v H'
noncomputable def TP(X:Cx)(pins:List (Addr×Obj))(σ:St)(Q:Bool->Hp->Prop)(b:Bool)(s':Ah):Prop:=∃H',Inv X pins σ H' s'/\Q b H'
noncomputable def AP(X:Cx)(pins:List (Addr×Obj))(σ:St)(Q:List V->Hp->Prop)(us:List Value)(s':Ah):Prop:=∃vs H',Inv X pins σ H' s'/\Vals vs us/\Q vs H'
noncomputable def SP(X:Cx)(pins:List (Addr×Obj))(D:Ends)(f:Flow)(s':Ah):Prop :=
 match f with
 |.next=>∃σ' H',Inv X pins σ' H' s'/\D.nx σ' H'
 |.brk=>∃σ' H',Inv X pins σ' H' s'/\D.bk σ' H'
 |.cont=>∃σ' H',Inv X pins σ' H' s'/\D.ct σ' H'
 |.ret u=>∃v σ' H',Inv X pins σ' H' s'/\RelV v u/\D.rt v H'
noncomputable def PE(X:Cx)(e:Expr)(t:TE):Prop :=
 ∀ pins   s  (σ:St)  H   Q ,Inv X pins σ H s->t σ H Q->wpAny (model X.prog X.w) X.A (eval e X.env) (EP X pins σ Q) X.xe s
noncomputable def PT(X:Cx)(e:Expr)(t:TT):Prop :=
 ∀ pins   s  (σ:St)  H   Q ,Inv X pins σ H s->t σ H Q->wpAny (model X.prog X.w) X.A (isTrue e X.env (eval e X.env)) (TP X pins σ Q) X.xe s
noncomputable def PW(X:Cx)(e:Expr)(t:TT):Prop :=
 ∀ whole   pins   s  (σ:St)  H   Q ,Inv X pins σ H s->t σ H Q->wpAny (model X.prog X.w) X.A (isTrue e X.env whole) (TP X pins σ Q) X.xe s
def PW.pt(h:PW X e t):PT X e t:=h _
noncomputable def PA(X:Cx)(es:List Expr)(t:TA):Prop :=
 ∀ pos   pins   s  (σ:St)  H   Q ,Inv X pins σ H s->t σ H Q->wpAny (model X.prog X.w) X.A (spliced (El pos (Bd es X.env))) (AP X pins σ Q) X.xe s
noncomputable def PS(X:Cx)(st:Stmt)(t:TS):Prop :=
 ∀ pins   s  (σ:St)  H   D ,Inv X pins σ H s->t D σ H->wpAny (model X.prog X.w) X.A (exec st X.env) (SP X pins D) X.xe s
noncomputable def PSs(X:Cx)(st:List Stmt)(t:TS):Prop :=
 ∀ pins   s  (σ:St)  H   D ,Inv X pins σ H s->t D σ H->wpAny (model X.prog X.w) X.A (execs st X.env) (SP X pins D) X.xe s
def thn{t:Sem α}(h:wpAny M A t Q E s)(g:∀a s,Q a s->f a s):wpAny M A t f E s:=Bs h g λ_ _ x=>x
def thnE(h:wpAny M A t (EP X f g Q) E s)(k:∀u s' v H',Inv X f g H' s'->RelV v u->Q v H'->j u s'):wpAny M A t j E s:=thn h λu s' ⟨v,H',a,b,c⟩=>k u s' v H' a b c
def thnT{g:St}{Q:Bool->Hp->Prop}(h:wpAny M A t (λb s'=>∃H',Inv X f g H' s'/\Q b H') E s)(k:∀b s' H',Inv X f g H' s'->Q b H'->j b s'):wpAny M A t j E s:=thn h λu s' ⟨H',a,c⟩=>k u s' H' a c
section
variable{X:Cx}
noncomputable def tVar(i:Nat):TE:=λσ H Q=>∃v,σ[i]?=some (some v)/\Q v H
noncomputable def tC(v:V):TE:=λ_ H Q=>Q v H
def pe_var{pos}(C:X.N[i]?=some x)(D:Vis X.env.scope x)(hd:(x==("__debug__" : Str))=false:=by decide)(o:(x==("__classdict__" : Str))=false:=by decide):PE X (.Name x pos) (tVar i):=by
 intro j s E H Q I h;obtain⟨v,e,h⟩:=h;obtain⟨m,hn,hl⟩:=I.loc;obtain⟨u,r,l⟩:=hl i x v C e D;have g:EP X j E Q u s:=⟨v,H,I,r,h⟩
 rcases l with⟨hk,F⟩|⟨hk,c,B,f⟩
 ·exact Xh (Ub I.ok.kind hk hn F g) hd
 ·rcases hk with hk|hk
  ·exact Xh (Ut I.ok.kind hk B f g) hd
  ·exact Xh (wpAny_loadName_free I.ok.kind hk B f g o) hd
def q0f{i j pos}:PE X (.Constant (.int i) j pos) (tC (.int i)):=λ_ _ _ H _ I h=>Vc ⟨.int i,H,I.tok _,⟨_,rfl⟩,h⟩
def q6g{b j pos}:PE X (.Constant (.bool b) j pos) (tC (.bl b)):=λ_ _ _ H _ I h=>Constant_bool ⟨.bl b,H,I,rfl,h⟩
def z1v{j pos}:PE X (.Constant .none j pos) (tC .non):=λ_ _ _ H _ I h=>Uk ⟨.non,H,I,rfl,h⟩
def q0i{x j pos}:PE X (.Constant (.str x) j pos) (tC (.str x)):=λ_ _ _ H _ I h=>Hq ⟨.str x,H,I.tok _,⟨_,rfl⟩,h⟩
noncomputable def Gl(X:Cx)(x:Str):Prop:=X.env.kindOf x=some .globalImplicit
def q3c{f:St}(I:Inv X pins f H s)(g:Gl X x)(j:X.mg x=some u)(h:Q u s)(hd:(x==("__debug__" : Str))=false:=by decide):wpAny (model X.prog X.w) X.A (eval (.Name x pos) X.env) Q E s :=
 Qb I.ok.kind g (Calls.loadGlobal_global (by rw[I.ok.glob];exact I.mod.glob.keeps I.bk) j h) hd
def q5z{E}{f:St}{pos}(I:Inv X pins f H s)(g:Gl X x)(j:X.mg x=none)(o:Ho x=some u)(h:Q u s)(hn:x ≠ "__name__" := by decide)(hd:(x==("__debug__" : Str))=false:=by decide):wpAny (model X.prog X.w) X.A (eval (.Name x pos) X.env) Q E s:=by
 obtain⟨C,v,B⟩:=I.mod.blt;exact Qb I.ok.kind g (Calls.loadGlobal_builtin (by rw[I.ok.glob];exact I.mod.glob.keeps I.bk) j (by rw[I.ok.blt];exact v.keeps I.bk) ((B x hn).trans o) h) hd
def q0z(f:Gl X x)(g:X.mg x=some u)(r:RelV v u)(hd:(x==("__debug__" : Str))=false:=by decide):PE X (.Name x pos) (tC v) :=
 λ_ _ _ H _ I h=>q3c I f g ⟨v,H,I,r,h⟩ hd
variable{a b:Expr}{ta tb:TE}{pos:Pos}
noncomputable def PC(X:Cx)(op:CmpOp)(a b:Expr)(t:TE):Prop :=
 ∀ pins   s  (σ:St)  H   Q ,Inv X pins σ H s->t σ H Q ->
  wpAny (model X.prog X.w) X.A (eval a X.env) (λv s₁=>wpAny (model X.prog X.w) X.A (eval b X.env) (λu s₂=>wpAny (model X.prog X.w) X.A (Cz op v u) (EP X pins σ Q) X.xe s₂) X.xe s₁) X.xe s
def nobehind(b)(h:op≠.In)(j:op≠.NotIn):Hw op b=false:=by
 have f:(op==CmpOp.In)=false:=by grind
 have g:(op==CmpOp.NotIn)=false:=by grind
 cases b<;>simp[Hw,f,g]
noncomputable def tIsN(ta:TE):TE:=λσ H Q=>ta σ H λx H1=>Q (.bl (decide (x=.non))) H1
noncomputable def tNotN(ta:TE):TE:=λσ H Q=>ta σ H λx H1=>Q (.bl (!decide (x=.non))) H1
def RelV.none_iff(r:RelV x v):(v==Value.none)=decide (x=.non):=by
 cases x with
 |non=>cases r;rfl
 |bl _=>cases r;rfl
 |int _=>obtain⟨t,rfl⟩:=r;rfl
 |str _=>obtain⟨t,rfl⟩:=r;rfl
 |byt _=>obtain⟨t,rfl⟩:=r;rfl
 |flt _=>obtain⟨t,rfl⟩:=r;rfl
 |ref _=>cases r;rfl
 |ty _=>cases r;rfl
def q8s{j pos'}(ha:PE X a ta):PC X .Is a (.Constant .none j pos') (tIsN ta):=by
 intro f s g H Q I h;refine thnE (ha f s g H _ I h) λv D x o u B C=>?_;exact Uk (is_none_gen ⟨.bl _,o,u,by rw[B.none_iff];rfl,C⟩)
def z4k{j pos'}(ha:PE X a ta):PC X .IsNot a (.Constant .none j pos') (tNotN ta):=by
 intro f s g H Q I h;refine thnE (ha f s g H _ I h) λv D x o u B C=>?_;exact Uk (isnot_none_gen ⟨.bl _,o,u,by rw[B.none_iff];rfl,C⟩)
noncomputable def tB(t:TE):TT:=λσ H Q=>t σ H λx H1=>∃c,x=.bl c/\Q c H1
def x6p(h:PC X op a b t)(g:Hw op b=false:=by first|exact nobehind _ (by decide) (by decide)|rfl):PE X (.Compare a [op] [b] pos) t:=λf s j H Q I o=>wpAny_Compare1 (h f s j H Q I o) g
def q3r(h:PC X op a b t)(g:Hw op b=false:=by first|exact nobehind _ (by decide) (by decide)|rfl):PT X (.Compare a [op] [b] pos) (tB t):=by
 intro f s j H Q I o;refine Sy (thn (h f s j H _ I o) λv G g=>thn g λu J B=>thnE B λc L x C D E F=>?_) g;obtain⟨d,rfl,q⟩:=F;cases E;exact Fw ⟨C,D,q⟩
variable{tA tB':TT}{rest:List Expr}
noncomputable def tAnd(t u:TT):TT:=λσ H Q=>t σ H λc H1=>if c=true then u σ H1 Q else Q false H1
noncomputable def tOr(t u:TT):TT:=λσ H Q=>t σ H λc H1=>if c=true then Q true H1 else u σ H1 Q
noncomputable def tNot(t:TT):TT:=λσ H Q=>t σ H λc H1=>Q (!c) H1
def q2c(ha:PT X a tA):PW X (.BoolOp .And [a] pos) tA:=by
 intro j f s g H Q I h;refine isTrue_and (thn (ha f s g H Q I h) λc o e=>?_);cases c with
 |true=>exact isTrue_and_nil e
 |false=>exact e
def q6x(ha:PT X a tA):PW X (.BoolOp .Or [a] pos) tA:=by
 intro j f s g H Q I h;refine isTrue_or (thn (ha f s g H Q I h) λc o e=>?_);cases c with
 |false=>exact isTrue_or_nil e
 |true=>exact e
def q2v(ha:PT X a tA)(v:PW X (.BoolOp .And (b::rest) pos) tB'):PW X (.BoolOp .And (a::b::rest) pos) (tAnd tA tB'):=by
 intro B f s g H Q I h;refine isTrue_and (thnT (ha f s g H _ I h) λc C j o u=>?_);cases c with
 |true=>exact v B f C g j Q o u
 |false=>exact⟨j,o,u⟩
def z4l(ha:PT X a tA)(v:PW X (.BoolOp .Or (b::rest) pos) tB'):PW X (.BoolOp .Or (a::b::rest) pos) (tOr tA tB'):=by
 intro B f s g H Q I h;refine isTrue_or (thnT (ha f s g H _ I h) λc C j o u=>?_);cases c with
 |true=>exact⟨j,o,u⟩
 |false=>exact v B f C g j Q o u
def z5v(ha:PT X a tA):PT X (.UnaryOp .Not a pos) (tNot tA):=by
 intro f s g H Q I h;exact isTrue_not (ha f s g H (λc j=>Q (!c) j) I h)
noncomputable def tAndV(ta tb:TE):TE:=λσ H Q=>ta σ H λx H1=>∃c,x=.bl c/\if c=true then tb σ H1 Q else Q (.bl false) H1
noncomputable def tOrV(ta tb:TE):TE:=λσ H Q=>ta σ H λx H1=>∃c,x=.bl c/\if c=true then Q (.bl true) H1 else tb σ H1 Q
def q8t{op}(h:PE X a t):PE X (.BoolOp op [a] pos) t:=λf s g H Q I j=>BoolOp_one (h f s g H Q I j)
def z5w(ha:PE X a ta)(B:PE X (.BoolOp .And (b::rest) pos) tb):PE X (.BoolOp .And (a::b::rest) pos) (tAndV ta tb):=by
 intro f s j H Q I h;refine BoolOp_and (thnE (ha f s j H _ I h) λv C x o u D g=>?_);obtain⟨c,rfl,g⟩:=g;cases D;refine Fw ?_;cases c with
 |true=>exact B f C j o Q u g
 |false=>exact⟨.bl false,o,u,rfl,g⟩
def pe_or(ha:PE X a ta)(B:PE X (.BoolOp .Or (b::rest) pos) tb):PE X (.BoolOp .Or (a::b::rest) pos) (tOrV ta tb):=by
 intro f s j H Q I h;refine BoolOp_or (thnE (ha f s j H _ I h) λv C x o u D g=>?_);obtain⟨c,rfl,g⟩:=g;cases D;refine Fw ?_;cases c with
 |false=>exact B f C j o Q u g
 |true=>exact⟨.bl true,o,u,rfl,g⟩
noncomputable def tIf(t:TT)(ta tb:TE):TE:=λσ H Q=>t σ H λc H1=>if c=true then ta σ H1 Q else tb σ H1 Q
def z5x(B:PT X c tA)(ha:PE X a ta)(C:PE X b tb):PE X (.IfExp c a b pos) (tIf tA ta tb):=by
 intro f s g H Q I h;refine wpAny_IfExp (thnT (B f s g H _ I h) λd j o u v=>?_);cases d with
 |true=>exact ha f j g o Q u v
 |false=>exact C f j g o Q u v
end
noncomputable def SqL(K:Ai)(H:Hp)(a:Addr)(xs:List V):Prop :=
 Rd H a (.lst xs) \/
  ∃(o:Obj) (its:Array Value) (n:Nat),K.lookup a=some o/\o.cls=.type "list" /\ o.dict=none/\o.data=.seq its n/\its.size<=sizeLine/\Vals xs its.toList
noncomputable def SqT(K:Ai)(H:Hp)(a:Addr)(xs:List V):Prop :=
 Rd H a (.tup xs) \/
  ∃(o:Obj) (its:Array Value) (n:Nat),K.lookup a=some o/\o.cls=.type "tuple" /\ o.data=.seq its n/\its.size<=sizeLine/\Vals xs its.toList
noncomputable def absV:Value->Option V
 |.none=>some .non
 |.bool b=>some (.bl b)
 |.int i _=>some (.int i)
 |.str x _=>some (.str x)
 |.bytes b _=>some (.byt b)
 |.float b _=>some (.flt b)
 |.ref a=>some (.ref a)
 |.type n=>some (.ty n)
 |_=>none
def RelV.abs(r:RelV x u):absV u=some x:=by
 cases x with
 |non=>cases r;rfl
 |bl _=>cases r;rfl
 |int _=>obtain⟨t,rfl⟩:=r;rfl
 |str _=>obtain⟨t,rfl⟩:=r;rfl
 |byt _=>obtain⟨t,rfl⟩:=r;rfl
 |flt _=>obtain⟨t,rfl⟩:=r;rfl
 |ref _=>cases r;rfl
 |ty _=>cases r;rfl
def RelV.inj(r:RelV x u)(q:RelV y u):x=y:=Co (r.abs.symm.trans q.abs)
def Vals.inj(h:Vals xs f)(g:Vals ys f):xs=ys:=by
 induction h generalizing ys with
 |nil=>cases g;rfl
 |cons r _ ih=>cases g with|cons r' t'=>rw[r.inj r',ih t']
section
variable{X:Cx}{pins:List (Addr×Obj)}{σ:St}{H:Hp}{s:Ah}{a:Addr}{xs ys:List V}
def SqL.of{K}(h:H a=some (.lst xs)):SqL K H a xs:=.inl (.inl h)
def SqT.of{K}(h:H a=some (.tup xs)):SqT K H a xs:=.inl (.inl h)
def Inv.list(I:Inv X pins σ H s)(h:SqL X.K H a xs):∃f,Vals xs f/\PlainL s.heap a f.toArray/\xs.length<=sizeLine:=by
 rcases h with h|⟨o,f,n,hk,g,hd,j,u,r⟩
 ·obtain⟨z,f,n,r,e⟩:=h.ok I.hok;exact⟨f,r,⟨_,n,e,rfl,rfl,rfl⟩,z⟩
 ·refine⟨f.toList,r,⟨o,n,I.kIn a o hk,g,hd,by simpa using j⟩,?_⟩;have e:=r.length;simp only[He] at e;lia
def Inv.tuple(I:Inv X pins σ H s)(h:SqT X.K H a xs):∃f,Vals xs f/\IsTup s.heap a f.toArray/\xs.length<=sizeLine:=by
 rcases h with h|⟨o,f,n,hk,g,j,u,r⟩
 ·obtain⟨z,f,r,p⟩:=h.ok I.hok;exact⟨f,r,p,z⟩
 ·refine⟨f.toList,r,⟨o,I.kIn a o hk,g,n,by simpa using j⟩,?_⟩;have e:=r.length;simp only[He] at e;lia
def Inv.list_inj(I:Inv X pins σ H s)(h:SqL X.K H a xs)(h':SqL X.K H a ys):xs=ys:=by
 obtain⟨g,r,⟨o,n,e,_,_,d⟩,_⟩:=I.list h;obtain⟨f,j,⟨u,v,B,_,_,C⟩,_⟩:=I.list h';have:g=f:=by grind
 subst this;exact r.inj j
def Inv.tuple_inj(I:Inv X pins σ H s)(h:SqT X.K H a xs)(h':SqT X.K H a ys):xs=ys:=by
 obtain⟨g,r,⟨o,e,_,n,d⟩,_⟩:=I.tuple h;obtain⟨f,j,⟨u,v,_,B,C⟩,_⟩:=I.tuple h';have:g=f:=by grind
 subst this;exact r.inj j
end
noncomputable abbrev Cx.wish(X:Cx)(E:Value->Ah->Prop):Cx:={ X with xe:=E }
noncomputable abbrev Cx.nox(X:Cx):Cx:=X.wish λ_ _=>False
def Cx.Ok.wish{X:Cx}(ok:X.Ok)(E):(X.wish E).Ok :=
 ⟨ok.mod,ok.kind,ok.glob,ok.blt,ok.above,ok.inj,ok.has,ok.cab,ok.hd,ok.frames,ok.stk,ok.exf,ok.bs,ok.bsz,ok.noex,ok.exfs,ok.funs,ok.frf⟩
def Cx.Ok.unwish{X:Cx}(ok:(X.wish E).Ok):X.Ok :=
 ⟨ok.mod,ok.kind,ok.glob,ok.blt,ok.above,ok.inj,ok.has,ok.cab,ok.hd,ok.frames,ok.stk,ok.exf,ok.bs,ok.bsz,ok.noex,ok.exfs,ok.funs,ok.frf⟩
section
variable{X:Cx}{pins:List (Addr×Obj)}{σ:St}{H:Hp}{s:Ah}{E:Value->Ah->Prop}
def Inv.wish(I:Inv X pins σ H s)(E):Inv (X.wish E) pins σ H s:=⟨I.ok.wish E,I.os,I.bare,I.base,I.loc,I.cell,I.free,I.freeC,I.pin,I.hok,I.len⟩
def Inv.unwish(I:Inv (X.wish E) pins σ H s):Inv X pins σ H s:=⟨I.ok.unwish,I.os,I.bare,I.base,I.loc,I.cell,I.free,I.freeC,I.pin,I.hok,I.len⟩
def SP.unwish(h:SP (X.wish E) pins D f s'):SP X pins D f s':=by
 cases f with
 |next=>obtain⟨g,j,I,q⟩:=h;exact⟨g,j,I.unwish,q⟩
 |brk=>obtain⟨g,j,I,q⟩:=h;exact⟨g,j,I.unwish,q⟩
 |cont=>obtain⟨g,j,I,q⟩:=h;exact⟨g,j,I.unwish,q⟩
 |ret u=>obtain⟨v,g,j,I,r,q⟩:=h;exact⟨v,g,j,I.unwish,r,q⟩
def PSs.nox{st}(h:PSs X.nox st t):PSs X st t:=λf s g H D I j =>
 Bs (h f s g H D (I.wish _) j) (λ_ _ q=>q.unwish) λ_ _ z=>False.elim z
end
section
variable{X:Cx}{st:Stmt}{rest:List Stmt}{t u:TS}{e:Expr}{te:TE}{pos:Pos}
noncomputable def tNext:TS:=λD σ H=>D.nx σ H
noncomputable def tSeq(t u:TS):TS:=λD σ H=>t { D with nx:=u D } σ H
def q0j:PSs X [] tNext:=λ_ _ f H _ I h=>Ky ⟨f,H,I,h⟩
def q0b(o:PS X st t)(B:PSs X rest u):PSs X (st::rest) (tSeq t u):=by
 intro g s C H D I h;refine Qw (thn (o g s C H { D with nx:=u D } I h) λf E q=>?_);cases f with
 |next =>
  obtain⟨j,F,G,q⟩:=q;exact B g E j F D G q
 |ret v=>exact q
 |brk=>exact q
 |cont=>exact q
def q0e(j:PS X st t):PSs X [st] t:=by
 intro g s o H D I h;refine Qw (thn (j g s o H D I h) λf u q=>?_);cases f with
 |next=>exact Ky q
 |ret v=>exact q
 |brk=>exact q
 |cont=>exact q
def Inv.quiet{f:St}(I:Inv X pins f H s):interactive X.env=false:=by simp[interactive,I.ok.kind]
noncomputable def tDrop(te:TE):TS:=λD σ H=>te σ H λ_ H1=>D.nx σ H1
def q0y(j:PE X e te)(o:Iw e none pos.line X.env=pure false:=by rfl):PS X (.Expr e pos) (tDrop te):=by
 intro f s g H D I h;exact wpAny_Expr_any (thnE (j f s g H _ I h) λv E x u B F C=>⟨g,u,B,C⟩) I.quiet o
noncomputable def tRet(te:TE):TS:=λD σ H=>te σ H D.rt
def q0m(j:PE X e te):PS X (.Return (some e) pos) (tRet te):=by
 intro f s g H D I h;exact wpAny_Return_some (thnE (j f s g H _ I h) λv E x o u B C=>⟨x,g,o,u,B,C⟩)
noncomputable def tIfS(c:TT)(t u:TS):TS:=λD σ H=>c σ H λb H1=>if b=true then t D σ H1 else u D σ H1
def q0t(E:PT X c j)(ha:PSs X a t)(F:PSs X b u):PS X (.If c a b pos) (tIfS j t u):=by
 intro f s g H D I h;refine wpAny_If (thnT (E f s g H _ I h) λd o v B C=>?_);cases d with
 |true=>exact ha f o g v D B C
 |false=>exact F f o g v D B C
noncomputable def tNever:TS:=λ_ _ _=>False
def q1l:PS X st tNever:=λ_ _ _ _ _ _ h=>h.elim
end
noncomputable abbrev TG:=V->St->Hp->(St->Hp->Prop)->Prop
noncomputable abbrev TGs:=List V->St->Hp->(St->Hp->Prop)->Prop
noncomputable def PG(X:Cx)(target:Expr)(t:TG):Prop :=
 ∀ pins   s  (σ:St)  H   v   u   Q ,Inv X pins σ H s->RelV v u->t v σ H Q ->
  wpAny (model X.prog X.w) X.A (assign target X.env u) (λ_ s'=>∃σ' H',Inv X pins σ' H' s'/\Q σ' H') X.xe s
noncomputable def PGs(X:Cx)(ts:List Expr)(t:TGs):Prop :=
 ∀ pins   s  (σ:St)  H   vs   us   Q ,Inv X pins σ H s->Vals vs us->t vs σ H Q ->
  wpAny (model X.prog X.w) X.A (assignInOrder ((Jw ts X.env).map (·.2)) us) (λ_ s'=>∃σ' H',Inv X pins σ' H' s'/\Q σ' H') X.xe s
noncomputable abbrev TSet:=V->V->V->Hp->(Hp->Prop)->Prop
noncomputable def PSet(X:Cx)(t:TSet):Prop :=
 ∀ pins   s  (σ:St)  H  (o i v) (ov iv u)  Q ,Inv X pins σ H s->RelV o ov->RelV i iv->RelV v u->t o i v H Q ->
  wpAny (model X.prog X.w) X.A (setItem ov iv u) (λ_ s'=>∃H',Inv X pins σ H' s'/\Q H') X.xe s
noncomputable abbrev TIp:=V->V->Hp->VK->Prop
noncomputable def PIp(X:Cx)(op:Operator)(t:TIp):Prop :=
 ∀ pins   s  (σ:St)  H  (x y) (v u)  Q ,Inv X pins σ H s->RelV x v->RelV y u->t x y H Q ->
  wpAny (model X.prog X.w) X.A (Vd op v u) (EP X pins σ Q) X.xe s
section
variable{X:Cx}{pos:Pos}
noncomputable def gName(i:Nat):TG:=λv σ H Q=>Q (σ.set i (some v)) H
def q0k(g:X.N.Nodup)(j:X.N[i]?=some x)(o:Loc X.env.scope x)(B:X.fn x=true\/X.env.scope.names.lookup x=some .local:=by trivial):PG X (.Name x pos) (gName i):=by
 intro f s D H v u Q I r h;exact Qj (q6l I g j o r (λE C=>⟨_,H,C,h⟩) B)
noncomputable def gNil:TGs:=λvs σ H Q=>vs=[]/\Q σ H
noncomputable def gCons(t:TG)(u:TGs):TGs:=λvs σ H Q=>∃v r,vs=v::r/\t v σ H λσ' H'=>u r σ' H' Q
def q1s:PGs X [] gNil:=by
 intro f s g H vs j Q I r h;obtain⟨e,h⟩:=h;exact assignInOrder_nil ⟨g,H,I,h⟩
def q0p(o:PG X e t)(B:PGs X g u)(C:(Jw (e::g) X.env).map (·.2)=assign e X.env::(Jw g X.env).map (·.2):=by rfl):PGs X (e::g) (gCons t u):=by
 intro f s D H vs O Q I r h;obtain⟨v,P,E,h⟩:=h;subst E;cases r with
 |cons r rr =>
  rw[C];refine assignInOrder_cons (thn (o f s D H _ _ _ I r h) λ_ F G=>?_);obtain⟨j,J,L,M⟩:=G;exact B f F j J _ _ Q L rr M
noncomputable def gTup(K:Ai)(n:Nat)(t:TGs):TG:=λv σ H Q=>∃a xs,v=.ref a/\SqT K H a xs/\xs.length=n/\t xs σ H Q
def pg_tup{k}(D:X.calm=true)(h:PGs X es t)(hn:(Jw es X.env).length=n:=by rfl)(g:(Jw es X.env).findIdx? (·.1)=none:=by rfl):PG X (.Tuple es k pos) (gTup X.K n t):=by
 intro f s B H v u Q I r j;obtain⟨a,E,F,G,hl,j⟩:=j;subst F;cases r;obtain⟨J,C,L,R⟩:=I.tuple G;refine assign_Tuple_tuple (I.ok.hd D) L (by simp[hn,<- hl,C.length]) g λM O=>?_;have P:Inv X f B H { s with heap:=M }:=I.kept (t':=s.toks) λb o e=>O b o (Bl (As e)) e;exact h f _ B H E _ Q P (by simpa using C) j
noncomputable def gSub(to ti:TE)(t:TSet):TG:=λv σ H Q=>to σ H λo H1=>ti σ H1 λi H2=>t o i v H2 λH3=>Q σ H3
def z8y(D:PE X o C)(E:PE X i ti)(F:PSet X t)(ha:∀v,assign (.Subscript o i pos) X.env v=(do
   let g<-Jl [v] (eval o X.env);let j<-Jl [v,g] (eval i X.env)
   Kq pos
   Jl [v,g,j] (setItem g j v)
   release [v,g,j] []):=by intro _;rfl):PG X (.Subscript o i pos) (gSub C ti t):=by
 intro f s B H v u Q I r h;refine Ac (Dh (thnE (D f s B H _ I h) λg G x J L M O=>?_));refine Ac (Dh (thnE (E f G B J _ L O) λj P y R S T U=>?_));refine Ac (Cw (Ac (Dh (thn (F f P B R x y v g j u _ S M T r U) λ_ s3 W=>?_))));obtain⟨Y,Z,q3⟩:=W;exact wpAny_release ⟨B,Y,Z,q3⟩
noncomputable def tAsg(te:TE)(g:TG):TS:=λD σ H=>te σ H λx H1=>g x σ H1 D.nx
def q6y(B:PE X e o)(C:PG X j g)(E:swapsWithSole [j] e pos.line X.env=pure false:=by rfl)(F:swappedStores [j] e X.env=pure none:=by rfl)(G:(Jw [j] X.env).map (·.2)=[assign j X.env]:=by rfl):PS X (.Assign [j] e pos) (tAsg o g):=by
 intro f s u H D I h;refine wpAny_Assign_stores (thnE (B f s u H _ I h) λv J x L M O P=>?_) E F;rw[G];exact thn (C f J u L x v _ M O P) λ_ Q q=>q
def q0l(o:X.N.Nodup)(u:X.N[i]?=some x)(B:Loc X.env.scope x)(C:PE X e j)(E:Iw e (some (.Name x f)) pos.line X.env=pure false:=by rfl)(F:X.fn x=true\/X.env.scope.names.lookup x=some .local:=by trivial):
  PS X (.Assign [.Name x f] e pos) (tAsg j (gName i)):=by
 intro g s G H D I h;refine wpAny_Assign_Name (thnE (C g s G H _ I h) λv Q y J L M O=>?_) E;exact q6l L o u B M (λR P=>⟨_,J,P,O⟩) F
noncomputable def tAug(i:Nat)(te:TE)(ti:TIp):TS:=λD σ H=>∃x,σ[i]?=some (some x)/\te σ H λy H1=>ti x y H1 λz H2=>D.nx (σ.set i (some z)) H2
def z5y(L:X.N.Nodup)(G:X.N[i]?=some x)(C:Loc X.env.scope x)(M:PE X e F)(O:PIp X op ti)(P:X.fn x=true\/X.env.scope.names.lookup x=some .local:=by trivial):
  PS X (.AugAssign (.Name x j) op e pos) (tAug i F ti):=by
 intro f s J H D I h;obtain⟨v,Q,h⟩:=h;obtain⟨m,hn,hl⟩:=I.loc;have E:Vis X.env.scope x:=by rcases C with k|k;exact .inl k;exact .inr (.inl k)
 obtain⟨u,r,l⟩:=hl i x v G Q E;refine wpAny_AugAssign_Name ?_;have go:wpAny (model X.prog X.w) X.A (eval e X.env) (λw o=>wpAny (model X.prog X.w) X.A (Vd op u w) (λr B=>wpAny (model X.prog X.w) X.A (storeName X.env x r) (λ_=>SP X f D .next) X.xe B) X.xe o) X.xe s:=by
  refine thnE (M f s J H _ I h) λw R y S T U W=>?_;refine thnE (O f R J S v y u w _ T r U W) λz s2 zv Y Z r2 q2=>?_;exact q6l Z L G C r2 (λs3 I3=>⟨_,Y,I3,q2⟩) P
 rcases l with⟨hk,hm⟩|⟨hk,c,hc,g⟩
 ·exact Ub I.ok.kind hk hn hm go
 ·rcases hk with hk|hk
  ·exact Ut I.ok.kind hk hc g go
  ·rcases C with k|k
   ·have:X.env.scope.names.lookup x=some .free:=hk;rw[k] at this;cases this
   ·have:X.env.scope.names.lookup x=some .free:=hk;rw[k] at this;cases this
noncomputable def tAugS(to ti te:TE)(tget:V->V->Hp->VK->Prop)(tip:TIp)(tset:TSet):TS:=λD σ H=>to σ H λo H1=>ti σ H1 λi H2=>tget o i H2 λx H3=>te σ H3 λy H4=>tip x y H4 λz H5=>tset o i z H5 λH6=>D.nx σ H6
noncomputable def PGet(X:Cx)(t:V->V->Hp->VK->Prop):Prop :=
 ∀ pins   s  (σ:St)  H  (o i) (ov iv)  Q ,Inv X pins σ H s->RelV o ov->RelV i iv->t o i H Q ->
  wpAny (model X.prog X.w) X.A (getItem ov iv) (EP X pins σ Q) X.xe s
def x8e(J:PE X o to)(L:PE X i ti)(M:PGet X tget)(O:PE X e te)(P:PIp X op tip)(Q:PSet X tset)(ha:∀g j new,augStore i g j new=(do Jl [new,g,j] (setItem g j new);release [new,g,j] [];pure .next):=by intros;rfl):PS X (.AugAssign (.Subscript o i tpos) op e pos) (tAugS to ti te tget tip tset):=by
 intro f s u H D I h;refine wpAny_AugAssign_SubscriptAny (thnE (J f s u H _ I h) λg R C S T E U=>?_) ha;refine thnE (L f R u S _ T U) λj W F Y Z G q2=>?_;refine thnE (M f W u Y C F g j _ Z E G q2) λB s3 x3 H3 I3 r3 q3=>?_;refine thnE (O f s3 u H3 _ I3 q3) λv s4 x4 H4 I4 r4 q4=>?_;refine thnE (P f s4 u H4 x3 x4 B v _ I4 r3 r4 q4) λnew s5 x5 H5 I5 r5 q5=>?_;exact thn (Q f s5 u H5 C F x5 g j new _ I5 E G r5 q5) λ_ s6 ⟨H6,I6,q6⟩=>⟨u,H6,I6,q6⟩
end
section
variable{X:Cx}{pos:Pos}
noncomputable def tWhile(c:TT)(tb:TS):TS:=λD σ H=>∃W:Nat->St->Hp->Prop,(∃m,W m σ H)/\∀m σ H,W m σ H ->
 c σ H λb H1=>if b=true then ∃N,(∀σ' H',N σ' H'->∃m',m'<m/\W m' σ' H')/\tb { D with nx:=N,ct:=N,bk:=D.nx } σ H1 else D.nx σ H1
def q9p(R:Ve (model X.prog X.w) X.A X.env X.xe)(hc:PT X c Q)(hb:PSs X u tb):PS X (.While c u [] pos) (tWhile Q tb):=by
 intro g s σ H D I h;obtain⟨W,⟨m0,w0⟩,B⟩:=h;refine wpAny_While (codeAny_whileLoop (λn s'=>∃C S,Inv X g C S s'/\W n C S) ?_ m0 ⟨σ,H,I,w0⟩);rintro n s1 ⟨o,T,I1,w1⟩;refine Ht R (thnT (hc g s1 o T _ I1 (B n o T w1)) λb s2 U Y F=>?_);cases b with
 |true =>
  obtain⟨N,Z,F⟩:=F;refine Ht R (thn (hb g s2 o U _ Y F) λf s3 G=>?_);cases f with
  |next =>
   obtain⟨j,E,J,L⟩:=G;obtain⟨M,O,P⟩:=Z j E L;exact⟨M,O,j,E,J,P⟩
  |cont =>
   obtain⟨j,E,J,L⟩:=G;obtain⟨M,O,P⟩:=Z j E L;exact⟨M,O,j,E,J,P⟩
  |brk=>exact G
  |ret v=>exact G
 |false =>
  exact Ky ⟨o,U,Y,F⟩
end
structure It where
 go:Nat->Hp->Prop
 yld:Nat->Hp->V->Hp->Prop
 stop:Nat->Hp->Prop
noncomputable def FpOk(X:Cx)(pins:List (Addr×Obj))(H:Hp)(b:Addr):Prop :=
 H b=none/\b≠X.env.locals/\b∉X.fs/\(b∈X.ex\/X.s₀.heap.objs.size<=b)/\(∀x c,X.env.cells.lookup x=some c->c≠b)/\∀p∈X.pn++pins,p.1≠b
def Inv.fpOk{g:St}{b:Addr}(I:Inv X pins g H s)(f:s.heap.objs.size<=b)(hn:H' b=none):FpOk X pins H' b:=by
 refine⟨hn,Ez (Bp I.lt f),I.nofs f,.inr (Ay I.sz f),λx c e z=>?_,λp h z=>?_⟩
 ·obtain⟨v,q⟩:=I.cell x c e;exact absurd (Bp q.lt (by rw[z];exact f)) (Hc _)
 ·exact absurd (Bp (As (I.pin p h).1) (by rw[z];exact f)) (Hc _)
structure Turn (P) (w) (K) (tg) (J:It) (fp:List Addr) (it) (tn:Nat->Heap->Prop):Prop where
 mem:it∈fp
 obj:∀i h,tn i h->∀b∈fp,∃o,h.get? b=some o/\∀v,o.data≠.cell v
 keep:∀i h h',tn i h->(∀b∈fp,∀o,h.get? b=some o->h'.get? b=some o)->tn i h'
 item:∀ X ,X.prog=P->X.w=w->X.K=K->X.calm=true->∀ i   pins   s  (σ:St)  H   E ,Inv X pins σ H s->(∀b∈fp,FpOk X pins H b)->tn i s.heap->J.go i H ->
  wpAny (model P w) X.A (Hr (.ref it)) (λr s1=>∃u,r=some u /\
   wpAny (model P w) X.A (Iy tg (.ref it) u) (λ_ s2=>∃x H',Inv X pins σ H' s2/\RelV x u/\J.yld i H x H'/\tn (i+1) s2.heap/\∀b∈fp,H' b=none) E s1) E s
 done:∀ X ,X.prog=P->X.w=w->X.K=K->X.calm=true->∀ i   pins   s  (σ:St)  H   E ,Inv X pins σ H s->(∀b∈fp,FpOk X pins H b)->tn i s.heap->J.stop i H ->
  wpAny (model P w) X.A (Hr (.ref it)) (λr s1=>r=none/\Inv X pins σ H s1) E s
 self:∀ A   i   s   Q   E ,tn i s.heap->Q (.ref it) s->wpAny (model P w) A (Jm (.ref it)) Q E s
noncomputable abbrev TI:=St->Hp->(It->Hp->Prop)->Prop
noncomputable def PIE(X:Cx)(pins:List (Addr×Obj))(σ:St)(tg:Expr)(R:It->Hp->Prop)(itv:Value)(s2:Ah):Prop :=
 ∃(it:Addr) (fp:List Addr) (tn:Nat->Heap->Prop) (J:It) (H':Hp),itv=.ref it/\Inv X pins σ H' s2/\Turn X.prog X.w X.K tg J fp it tn/\tn 0 s2.heap/\(∀b∈fp,FpOk X pins H' b)/\R J H'
noncomputable def PI(X:Cx)(tg iter:Expr)(wi:TI):Prop :=
 ∀ pins   s  (σ:St)  H   R ,Inv X pins σ H s->wi σ H R ->
  wpAny (model X.prog X.w) X.A (eval iter X.env) (λv s1=>wpAny (model X.prog X.w) X.A (Jm v) (PIE X pins σ tg R) X.xe s1) X.xe s
def z4m (g : s.heap.get? it = some o) (j : o.cls = .type n) (hd : o.data = .fields vs)
    (hn : ["enumerate", "zip", "dict_itemiterator", "dict_reverseitemiterator", "odict_iterator", "itertools.zip_longest", "itertools.pairwise"].contains n = false) (f : Q () s) : wpAny M A (Iy tg (.ref it) u) Q E s := by
  cases tg <;> first
    | exact Ad f
    | (cases u <;> first
        | exact Ad f
        | (refine Ac (Xi g ?_)
           rw [j, hd]
           show wpAny M A (if (["enumerate", "zip", "dict_itemiterator", "dict_reverseitemiterator", "odict_iterator", "itertools.zip_longest", "itertools.pairwise"].contains n && vs[0]? == some (Es _)) = true then _ else _) Q E s
           rw [if_neg (by intro h; rw [hn, Ow] at h; cases h)]
           exact Ad f))
noncomputable def Itl(K:Ai)(a:Addr):It :=
 ⟨λi H=>∃xs x,SqL K H a xs/\xs[i]?=some x,λi H x H'=>H'=H/\∀xs,SqL K H a xs->xs[i]?=some x,λi H=>∃xs,SqL K H a xs/\xs.length<=i⟩
noncomputable def Itt(K:Ai)(a:Addr):It :=
 ⟨λi H=>∃xs x,SqT K H a xs/\xs[i]?=some x,λi H x H'=>H'=H/\∀xs,SqT K H a xs->xs[i]?=some x,λi H=>∃xs,SqT K H a xs/\xs.length<=i⟩
noncomputable def Itr(lo:Int)(n:Nat):It:=⟨λi _=>i<n,λi H x H'=>H'=H/\x=.int (lo+i),λi _=>n<=i⟩
def z8z{K:Ai}(a g:Addr):Turn P w K tg (Itl K a) [g] g (λi h=>h.IsListIter g a i) where
 mem:=by simp
 obj:=λi h st b j=>by
  have e:b=g:=by grind
  subst e;obtain⟨o,e,c,d⟩:=st;exact⟨o,e,λv z=>by rw[d] at z;cases z⟩
 keep:=λi h F st k=>st.at λo e=>k g (by simp) o e
 item:=by
  intro X G J L Y i f s Z H E I C st M;subst G J L;obtain⟨xs,x,D,O⟩:=M;obtain⟨Q,R,p,hz⟩:=I.list D;obtain⟨u,hu,ru⟩:=R.get O;obtain⟨f0,S,f2,T,U,W⟩:=C g (by simp);refine wpAny_pyNext_list_item st p.isList (by simpa using hu) λF B sb=>?_;have I1:Inv X f Z H { s with heap:=F }:=I.turned (t':=s.toks) (λb o j e=>(sb.2 b j).trans e) f0 S T U W;obtain⟨o,e,c,d⟩:=id B;exact⟨u,rfl,z4m e c d (by decide) ⟨x,H,I1,ru,⟨rfl,λys hy=>by rw[I.list_inj hy D];exact O⟩,B,λb j=>(C b j).1⟩⟩
 done:=by
  intro X G J L Y i f s Z H E I C st M;subst G J L;obtain⟨xs,D,O⟩:=M;obtain⟨Q,R,p,hz⟩:=I.list D;obtain⟨f0,S,f2,T,U,W⟩:=C g (by simp);have hl:=R.length;exact wpAny_pyNext_list_end (I.ok.hd Y) st p.isList (by simp;lia) λF eb=>⟨rfl,I.turned (t':=s.toks) (λb o j e=>eb b o j e) f0 S T U W⟩
 self:=λ_ _ _ _ _ st h=>wpAny_pyIter_listiter st h
def z7l{K:Ai}(a g:Addr):Turn P w K tg (Itt K a) [g] g (λi h=>h.IsTupleIter g a i) where
 mem:=by simp
 obj:=λi h st b B=>by
  have e:b=g:=by grind
  subst e;obtain⟨o,e,c,d⟩:=st;exact⟨o,e,λv z=>by rw[d] at z;cases z⟩
 keep:=λi h G st k=>st.at λo e=>k g (by simp) o e
 item:=by
  intro X J L M Y i f s Z H E I D st O;subst J L M;obtain⟨xs,x,F,Q⟩:=O;obtain⟨j,R,p,hz⟩:=I.tuple F;obtain⟨u,hu,ru⟩:=R.get Q;obtain⟨f0,S,f2,T,U,W⟩:=D g (by simp);refine wpAny_pyNext_tuple_item st (show s.heap.IsTuple a j.toArray from p) (by simpa using hu) λG C sb=>?_;have I1:Inv X f Z H { s with heap:=G }:=I.turned (t':=s.toks) (λb o B e=>(sb.2 b B).trans e) f0 S T U W;obtain⟨o,e,c,d⟩:=id C;exact⟨u,rfl,z4m e c d (by decide) ⟨x,H,I1,ru,⟨rfl,λys hy=>by rw[I.tuple_inj hy F];exact Q⟩,C,λb B=>(D b B).1⟩⟩
 done:=by
  intro X J L M Y i f s Z H E I D st O;subst J L M;obtain⟨xs,F,Q⟩:=O;obtain⟨j,R,p,hz⟩:=I.tuple F;obtain⟨f0,S,f2,T,U,W⟩:=D g (by simp);have hl:=R.length;exact wpAny_pyNext_tuple_end (I.ok.hd Y) st (show s.heap.IsTuple a j.toArray from p) (by simp;lia) λG eb=>⟨rfl,I.turned (t':=s.toks) (λb o B e=>eb b o B e) f0 S T U W⟩
 self:=λ_ _ _ _ _ st h=>wpAny_pyIter_tupleiter st h
def z7m{K:Lg}(f:Addr)(lo:Int)(n:Nat):Turn P w K tg (Itr lo n) [f] f (λi h=>IsRangeIter h f (lo+(i:Nat)*1) ((n:Int)-(i:Nat)) 1) where
 mem:=by simp
 obj:=λi h st b j=>by
  have e:b=f:=by grind
  subst e;exact⟨_,st,λv z=>by
   have z':=z;cases z'⟩
 keep:=λi h C st k=>k f (by simp) _ st
 item:=by
  intro X O Q R D i g s S H E I B st F;subst O Q R;obtain⟨f0,G,T,J,L,M⟩:=B f (by simp);have W:=Walks.range (prog:=X.prog) (w:=X.w) (I.ok.hd D) f lo 1 n;refine W.item i s _ _ F st λv C tk U u Y=>?_;obtain⟨t,rfl⟩:=U;have Z:Inv X g S H { s with heap:=C,toks:=tk }:=I.turned (λb o j e=>Y b o (by simpa using j) e) f0 G J L M;refine⟨_,rfl,z4m u rfl rfl (by decide) ⟨.int (lo+i),H,Z,⟨t,?_⟩,⟨rfl,rfl⟩,u,λb j=>(B b j).1⟩⟩;rw[Int.mul_one]
 done:=by
  intro X O Q R D i g s S H E I B st F;obtain⟨f0,G,T,J,L,M⟩:=B f (by simp);exact wpAny_pyNext_range_end (I.ok.hd D) st (by have:n<=i:=F;lia) λC eb=>⟨rfl,I.turned (t':=s.toks) (λb o j e=>eb b o j e) f0 G J L M⟩
 self:=λ_ _ _ _ _ st h=>wpAny_pyIter_rangeiter st h
section
variable{X:Cx}{tg:Expr}
def z5z{f:St}{lo}(I:Inv X pins f H s)(h : -(2^62)<=lo)(j:lo<2^62)(B : -(2^62)<=hi)(C:hi<2^62)(q:R (Itr lo (hi-lo).toNat) H):wpAny (model X.prog X.w) X.A (Jm (.ref s.heap.objs.size)) (PIE X pins f tg R) E { s with heap:=s.heap.push { cls:=.type "range",data:=.fields #[.int lo t,.int hi u,.int 1 v] },toks:=tk }:=by
 refine wpAny_pyIter_range (IsRange.new ..) (small_one h j B C) ?_;have g:Inv X pins f H { s with heap:=s.heap.push { cls:=.type "range",data:=.fields #[.int lo t,.int hi u,.int 1 v] },toks:=tk }:=I.kept λb o e=>Ag _ e;refine⟨(s.heap.push { cls:=.type "range",data:=.fields #[.int lo t,.int hi u,.int 1 v] }).objs.size,[(s.heap.push { cls:=.type "range",data:=.fields #[.int lo t,.int hi u,.int 1 v] }).objs.size],_,_,H,rfl,
  g.kept (t':=tk) λb o e=>Ag _ e,z7m _ lo (hi-lo).toNat,?_,λb D=>?_,q⟩
 ·have F:lo+((0:Nat):Int)*1=lo:=by simp
  have G:(((hi-lo).toNat:Nat):Int)-((0:Nat):Int)=Ea.Range.rangeSize lo hi 1:=by rw[rangeSize_one];split<;>lia
  rw[F,G];exact Aw _ rfl
 ·have e:b=(s.heap.push { cls:=.type "range",data:=.fields #[.int lo t,.int hi u,.int 1 v] }).objs.size:=by simpa using D
  subst e;exact g.fpOk (Aj _) (g.hok.fresh (Aj _))
noncomputable def iRng1(ta:TA):TI:=λσ H R=>ta σ H λvs H1=>∃j,vs=[.int j] /\ -(2^62)<=j/\j<2^62/\R (Itr 0 j.toNat) H1
noncomputable def iRng2(ta:TA):TI:=λσ H R=>ta σ H λvs H1=>∃i j,vs=[.int i,.int j]/\(-(2^62)<=i/\i<2^62 /\ -(2^62)<=j/\j<2^62)/\R (Itr i (j-i).toNat) H1
def q1w(u:Gl X "range")(v:X.mg "range" = none)(ha:PA X [a] o)(B:Bd [a] X.env=[(false,eval a X.env)]:=by rfl):PI X tg (.Call (.Name "range" p) [a] [] pos) (iRng1 o):=by
 intro f s C H R I h;refine Call_ (q5z I u v boot_range (Ei (thn (ha pos f s C H _ I h) λJ L D=>?_) B rfl));obtain⟨vs,M,E,F,g⟩:=D;obtain⟨j,e,g,G,q⟩:=g;subst e;cases F with
 |cons r rr =>
  cases rr;obtain⟨t,rfl⟩:=r;exact call_range_1 (z5z E (by lia) (by lia) g G (by simpa using q))
def z9a{p pos}(v:Gl X "range")(B:X.mg "range" = none)(ha:PA X [a,b] u)(C:Bd [a,b] X.env=[(false,eval a X.env),(false,eval b X.env)]:=by rfl)(f:Bd [b] X.env=[(false,eval b X.env)]:=by rfl):
  PI X tg (.Call (.Name "range" p) [a,b] [] pos) (iRng2 u):=by
 intro g s D H R I h;refine Call_ (q5z I v B boot_range (Ei (thn (ha pos g s D H _ I h) λO P E=>?_) (by rw[C,f]) (by rw[f];rfl)));obtain⟨vs,Q,F,G,o⟩:=E;obtain⟨i,j,e,⟨o,J,L,M⟩,q⟩:=o;subst e;cases G with
 |cons r rr =>
  cases rr with
  |cons r' rr =>
   cases rr;obtain⟨t,rfl⟩:=r;obtain⟨S,rfl⟩:=r';exact call_range_2 (z5z F o J L M q)
noncomputable def tFor(wi:TI)(g:TG)(tb:TS):TS:=λD σ H=>wi σ H λJ H1=>∃W:Nat->Nat->St->Hp->Prop,(∃m,W 0 m σ H1)/\∀i m σ H,W i m σ H ->
 (J.stop i H/\D.nx σ H)\/(J.go i H/\∃N,(∀σ' H',N σ' H'->∃m',m'<m/\W (i+1) m' σ' H')/\∀x H',J.yld i H x H'->g x σ H' λσ2 H2=>tb { D with nx:=N,ct:=N,bk:=D.nx } σ2 H2)
noncomputable def pinsAt(fp:List Addr)(h:Heap):List (Addr×Obj):=fp.filterMap λb=>(h.get? b).map λo=>(b,o)
def q1m(f:b∈fp)(e:h.get? b=some o):(b,o)∈pinsAt fp h:=Vf.mpr ⟨b,f,by rw[e];rfl⟩
def z9b(f:p∈pinsAt fp h):p.1∈fp/\h.get? p.1=some p.2:=by
 obtain⟨b,g,e⟩:=Vf.mp f;cases q:h.get? b with
 |none=>rw[q] at e;cases e
 |some o =>
  rw[q] at e;have e':=Co e;subst e';exact⟨g,q⟩
def Inv.pinned{f:St}(I:Inv X pins f H s)(j:∀b∈fp,FpOk X pins H b)(u:∀b∈fp,∃o,s.heap.get? b=some o/\∀v,o.data≠.cell v):Inv X (pins++pinsAt fp s.heap) f H s :=
 I.pins_of λp B=>(Au.mp B).elim (λz=>I.pin p (Bf _ z)) λz=>by
  obtain⟨g,e⟩:=z9b z;obtain⟨f0,C,D,_⟩:=j p.1 g;obtain⟨o,h,d⟩:=u p.1 g;rw[e] at h;cases h;exact⟨e,f0,C,D,d⟩
def Inv.unpinned{f:St}(I:Inv X (pins++pl) f H s):Inv X pins f H s:=I.pins_of λp g=>I.pin p (Bf _ (Bu _ g))
def q1g(Y:Ve (model X.prog X.w) X.A X.env X.xe)(hc:X.calm=true)(hi:PI X tg C wi)(hg:PG X tg g)(E:PSs X R tb)(hs:∀x,Fx C X.env x=pure x:=by intro _;rfl):PS X (.For tg C R [] pos) (tFor wi g tb):=by
 intro j s σ H D I h;refine wpAny_For (thn (hi j s σ H _ I h) λv s1 h1=>thn h1 λa6 s2 h2=>?_) hs;obtain⟨it,Z,tn,J,H2,e,I2,T,a3,f2,W,⟨m0,w0⟩,a0⟩:=h2;subst e;have F:∀{Q:Hp},(∀b∈Z,Q b=none)->∀b∈Z,FpOk X j Q b:=λhn b E=>⟨hn b E,(f2 b E).2⟩
 refine codeAny_forLoop_any (λn s'=>∃i G Q,Inv X j G Q s'/\tn i s'.heap/\(∀b∈Z,Q b=none)/\W i n G Q) ?_ m0 ⟨0,σ,H2,I2,a3,λb E=>(f2 b E).1,w0⟩;rintro n s3 ⟨i,L,H3,I3,a1,a2,w3⟩;rcases a0 i n L H3 w3 with⟨stop,qn⟩|⟨go,N,hN,step⟩
 ·refine Ht Y (thn (T.done X rfl rfl rfl hc i j s3 L H3 X.xe I3 (F a2) a1 stop) λr s4 ⟨hr,I4⟩=>?_);subst hr;exact Ky ⟨L,H3,I4,qn⟩
 ·refine Ht Y (thn (T.item X rfl rfl rfl hc i j s3 L H3 X.xe I3 (F a2) a1 go) λr s4 qz=>?_);obtain⟨u,hr,h4⟩:=qz;subst hr;refine Ht Y (thn h4 λ_ s5 qz=>?_);obtain⟨x,H5,I5,r5,y5,U,a4⟩:=qz;have I5':=I5.pinned (F a4) (T.obj _ _ U);refine Ht Y (thn (hg _ s5 L H5 x u _ I5' r5 (step x H5 y5)) λ_ s6 qz=>?_);obtain⟨a5,H6,I6,q6⟩:=qz;refine Ht Y (thn (E _ s6 a5 H6 _ I6 q6) λf s7 S=>?_);have M:∀{B:St} {O:Hp},Inv X (j++pinsAt Z s5.heap) B O s7->N B O->∃m,m<n/\∃i G Q,Inv X j G Q s7/\tn i s7.heap/\(∀b∈Z,Q b=none)/\W i m G Q:=λ{B O} P n7=>by
   obtain⟨m',hm,w7⟩:=hN B O n7;refine⟨m',hm,i+1,B,O,P.unpinned,T.keep _ _ _ U λb E o e=>(P.pin (b,o) (Bf _ (Bf _ (q1m E e)))).1,λb E=>?_,w7⟩;obtain⟨o,e,d⟩:=T.obj _ _ U b E;exact(P.pin (b,o) (Bf _ (Bf _ (q1m E e)))).2.1
  cases f with
  |next=>obtain⟨B,O,P,n7⟩:=S;exact M P n7
  |cont=>obtain⟨B,O,P,n7⟩:=S;exact M P n7
  |brk=>obtain⟨B,O,P,S⟩:=S;exact⟨B,O,P.unpinned,S⟩
  |ret v=>obtain⟨x7,B,O,P,r7,S⟩:=S;exact⟨x7,B,O,P.unpinned,r7,S⟩
end
def q1x{K}{g:TG}{tb:TS}{D:Ends}(h:Nat->St->Hp->Prop)(B:h 0 f H)(hl:∀i f H,i<=xs.length->h i f H->SqL K H a xs)(C:∀i x f H,xs[i]?=some x->h i f H->g x f H λj u=>tb { D with nx:=h (i+1),ct:=h (i+1),bk:=D.nx } j u)(hd:∀f H,h xs.length f H->D.nx f H):
  ∃W:Nat->Nat->St->Hp->Prop,(∃m,W 0 m f H)/\∀i m f H,W i m f H ->
   ((Itl K a).stop i H/\D.nx f H)\/((Itl K a).go i H/\∃N,(∀o H',N o H'->∃v,v<m/\W (i+1) v o H')/\∀x H',(Itl K a).yld i H x H'->g x f H' λj u=>tb { D with nx:=N,ct:=N,bk:=D.nx } j u):=by
 refine⟨λi m f H=>m=xs.length-i/\i<=xs.length/\h i f H,⟨xs.length,by simp,Ba _,B⟩,?_⟩;rintro i m f H ⟨rfl,E,p⟩;have q:=hl i f H E p;by_cases s:i<xs.length
 ·refine .inr ⟨⟨xs,xs[i],q,by simp[s]⟩,h (i+1),λo H' F=>⟨xs.length-(i+1),by lia,rfl,s,F⟩,λx H' y=>?_⟩;obtain⟨e,y⟩:=y;subst e;exact C i x f _ (y xs q) p
 ·have e:i=xs.length:=by lia
  subst e;exact .inl ⟨⟨xs,q,Aj _⟩,hd f H p⟩
def x8f{K}{g:TG}{tb:TS}{D:Ends}(h:Nat->St->Hp->Prop)(B:h 0 f H)(hl:∀i f H,i<=xs.length->h i f H->SqT K H a xs)(C:∀i x f H,xs[i]?=some x->h i f H->g x f H λj u=>tb { D with nx:=h (i+1),ct:=h (i+1),bk:=D.nx } j u)(hd:∀f H,h xs.length f H->D.nx f H):
  ∃W:Nat->Nat->St->Hp->Prop,(∃m,W 0 m f H)/\∀i m f H,W i m f H ->
   ((Itt K a).stop i H/\D.nx f H)\/((Itt K a).go i H/\∃N,(∀o H',N o H'->∃v,v<m/\W (i+1) v o H')/\∀x H',(Itt K a).yld i H x H'->g x f H' λj u=>tb { D with nx:=N,ct:=N,bk:=D.nx } j u):=by
 refine⟨λi m f H=>m=xs.length-i/\i<=xs.length/\h i f H,⟨xs.length,by simp,Ba _,B⟩,?_⟩;rintro i m f H ⟨rfl,E,p⟩;have q:=hl i f H E p;by_cases s:i<xs.length
 ·refine .inr ⟨⟨xs,xs[i],q,by simp[s]⟩,h (i+1),λo H' F=>⟨xs.length-(i+1),by lia,rfl,s,F⟩,λx H' y=>?_⟩;obtain⟨e,y⟩:=y;subst e;exact C i x f _ (y xs q) p
 ·have e:i=xs.length:=by lia
  subst e;exact .inl ⟨⟨xs,q,Aj _⟩,hd f H p⟩
def q1y{lo}{g:TG}{tb:TS}{D:Ends}(h:Nat->St->Hp->Prop)(B:h 0 f H)(C:∀i f H,i<n->h i f H->g (.int (lo+i)) f H λj u=>tb { D with nx:=h (i+1),ct:=h (i+1),bk:=D.nx } j u)(hd:∀f H,h n f H->D.nx f H):
  ∃W:Nat->Nat->St->Hp->Prop,(∃m,W 0 m f H)/\∀i m f H,W i m f H ->
   ((Itr lo n).stop i H/\D.nx f H)\/((Itr lo n).go i H/\∃N,(∀o H',N o H'->∃v,v<m/\W (i+1) v o H')/\∀x H',(Itr lo n).yld i H x H'->g x f H' λj u=>tb { D with nx:=N,ct:=N,bk:=D.nx } j u):=by
 refine⟨λi m f H=>m=n-i/\i<=n/\h i f H,⟨n,by simp,Ba _,B⟩,?_⟩;rintro i m f H ⟨rfl,F,p⟩;by_cases s:i<n
 ·refine .inr ⟨s,h (i+1),λo H' E=>⟨n-(i+1),by lia,rfl,s,E⟩,λx H' y=>?_⟩;obtain⟨e,y⟩:=y;subst e y;exact C i f _ s p
 ·have e:i=n:=by lia
  subst e;exact .inl ⟨Aj _,hd f H p⟩
def q9q(j:St->Hp->Prop)(o:St->Hp->Nat)(u:j f H)(v:∀f H,j f H->c f H λb h=>if b=true then tb { D with nx:=λg H'=>j g H'/\o g H'<o f H,ct:=λg H'=>j g H'/\o g H'<o f H,bk:=D.nx } f h else D.nx f h)(mono:∀f H Q s,(∀b h,Q b h->s b h)->c f H Q->c f H s):tWhile c tb D f H:=by
 refine⟨λm f H=>m=o f H/\j f H,⟨_,rfl,u⟩,?_⟩;rintro m f H ⟨rfl,p⟩;refine mono f H _ _ (λb h q=>?_) (v f H p);cases b with
 |true=>exact⟨_,λg H' ⟨B,l⟩=>⟨_,l,rfl,B⟩,q⟩
 |false=>exact q
noncomputable abbrev R2:=V->V->Hp->VK->Prop
noncomputable def OpR(X:Cx)(f:Value->Value->Sem Value)(r:R2):Prop :=
 ∀ pins   s  (σ:St)  H  (x y) (v u)  Q ,Inv X pins σ H s->RelV x v->RelV y u->r x y H Q ->
  wpAny (model X.prog X.w) X.A (f v u) (EP X pins σ Q) X.xe s
noncomputable def UnR(X:Cx)(f:Value->Sem Value)(r:V->Hp->VK->Prop):Prop :=
 ∀ pins   s  (σ:St)  H   x   v   Q ,Inv X pins σ H s->RelV x v->r x H Q ->
  wpAny (model X.prog X.w) X.A (f v) (EP X pins σ Q) X.xe s
noncomputable def CallR(X:Cx)(f:Value)(r:List V->Hp->VK->Prop):Prop :=
 ∀ pins   s  (σ:St)  H   xs   us   Q ,Inv X pins σ H s->Vals xs us->r xs H Q ->
  wpAny (model X.prog X.w) X.A (call f us) (EP X pins σ Q) X.xe s
noncomputable def TruR(X:Cx)(r:V->Hp->(Bool->Hp->Prop)->Prop):Prop :=
 ∀ pins   s  (σ:St)  H   x   v   Q ,Inv X pins σ H s->RelV x v->r x H Q ->
  wpAny (model X.prog X.w) X.A (truthy v) (TP X pins σ Q) X.xe s
noncomputable def tOp(r:R2)(ta tb:TE):TE:=λσ H Q=>ta σ H λx H1=>tb σ H1 λy H2=>r x y H2 Q
noncomputable def tUn(r:V->Hp->VK->Prop)(ta:TE):TE:=λσ H Q=>ta σ H λx H1=>r x H1 Q
noncomputable def rI(C:Int->Int->Prop)(g:Int->Int->V):R2:=λx y H Q=>∃i j,x=.int i/\y=.int j/\C i j/\Q (g i j) H
noncomputable def rI0(g:Int->Int->V):R2:=λx y H Q=>∃i j,x=.int i/\y=.int j/\Q (g i j) H
noncomputable def rU(g:Int->V):V->Hp->VK->Prop:=λx H Q=>∃i,x=.int i/\Q (g i) H
section
variable{X:Cx}{a b c:Expr}{ta tb tc:TE}{pos:Pos}
def binT(ha:PE X a ta)(E:PE X b tb){g:St}{R:V->V->Hp->Prop}(I:Inv X pins g H s)(h:ta g H λx D=>tb g D λy j=>R x y j){f:Value->Value->Sem Value}(F:∀v u C x y j,Inv X pins g j C->RelV x v->RelV y u->R x y j->wpAny (model X.prog X.w) X.A (f v u) Q X.xe C):
  wpAny (model X.prog X.w) X.A (eval a X.env) (λv o=>wpAny (model X.prog X.w) X.A (eval b X.env) (λu B=>wpAny (model X.prog X.w) X.A (f v u) Q X.xe B) X.xe o) X.xe s:=by
 refine thnE (ha pins s g H _ I h) λv G x D J L M=>?_;refine thnE (E pins G g D _ J M) λu C y j O P S=>?_;exact F v u C x y j O L P S
def q0u(g:OpR X (Gr op) r)(ha:PE X a ta)(j:PE X b tb):PE X (.BinOp a op b pos) (tOp r ta tb):=by
 intro f s o H Q I h;exact wpAny_BinOp (binT ha j I h λv u B x y C D E F q=>g f B o C x y v u Q D E F q)
def q4o(j:UnR X (unaryOp op) r)(ha:PE X a ta):PE X (.UnaryOp op a pos) (tUn r ta):=by
 intro f s g H Q I h;exact UnaryOp_ (thnE (ha f s g H _ I h) λv o x u B C D=>j f o g u x v Q B C D)
def opI{g:Int->Int->Int}(rule:∀(i j) (t u)  s   Q   E ,C i j->Q (.int (g i j) s.toks) { s with toks:=s.toks+1 }->wpAny (model X.prog X.w) X.A (f (.int i t) (.int j u)) Q E s):
  OpR X f (rI C λi j=>.int (g i j)):=by
 intro o s J H x y v u Q I B D h;obtain⟨i,j,rfl,rfl,F,q⟩:=h;obtain⟨t,rfl⟩:=B;obtain⟨G,rfl⟩:=D;exact rule i j t G s _ _ F ⟨.int (g i j),H,I.tok _,⟨_,rfl⟩,q⟩
def opI0{g:Int->Int->Int}(rule:∀(i j) (t u)  s   Q   E ,Q (.int (g i j) s.toks) { s with toks:=s.toks+1 }->wpAny (model X.prog X.w) X.A (f (.int i t) (.int j u)) Q E s):
  OpR X f (rI0 λi j=>.int (g i j)):=by
 intro o s F H x y v u Q I B C h;obtain⟨i,j,rfl,rfl,q⟩:=h;obtain⟨t,rfl⟩:=B;obtain⟨D,rfl⟩:=C;exact rule i j t D s _ _ ⟨.int (g i j),H,I.tok _,⟨_,rfl⟩,q⟩
def opB0{g:Int->Int->Bool}(rule:∀(i j) (t u)  s   Q   E ,Q (.bool (g i j)) s->wpAny (model X.prog X.w) X.A (f (.int i t) (.int j u)) Q E s):
  OpR X f (rI0 λi j=>.bl (g i j)):=by
 intro o s F H x y v u Q I B C h;obtain⟨i,j,rfl,rfl,q⟩:=h;obtain⟨t,rfl⟩:=B;obtain⟨D,rfl⟩:=C;exact rule i j t D s _ _ ⟨.bl (g i j),H,I,rfl,q⟩
noncomputable def CDiv(i j:Int):Prop:=0<j/\j<1073741824
noncomputable def CPow(i j:Int):Prop:=0<=j/\j<=1000000/\i.natAbs<2^64
noncomputable def CMul(i j:Int):Prop:=(-(2^64)<i/\i<2^64)\/(-(2^64)<j/\j<2^64)
def CMul.ok(h:CMul i j):IntMulOk i j:=by
 rcases h with⟨f,g⟩|⟨f,g⟩
 ·exact .of_left (intBits_le_64 f g)
 ·exact .of_right (intBits_le_64 f g)
def op_add:OpR X (Gr .Add) (rI0 λi j=>.int (i+j)):=opI0 λ_ _ _ _ _ _ _ q=>add_int q
def z6a:OpR X (Gr .Sub) (rI0 λi j=>.int (i-j)):=opI0 λ_ _ _ _ _ _ _ q=>sub_int q
def op_mul:OpR X (Gr .Mult) (rI CMul λi j=>.int (i*j)):=opI λ_ _ _ _ _ _ _ f q=>mul_int q f.ok
def z9c:OpR X (Gr .FloorDiv) (rI CDiv λi j=>.int (i / j)):=opI λi j _ _ _ _ _ f q=>by
 have g:=f.1;have h:=f.2;exact floordiv_int (by lia) (by rw[Int.fdiv_eq_ediv_of_nonneg i (by lia)];exact q) (.inl (PyProof.noPylong_small (by lia)))
def q8u:OpR X (Gr .Mod) (rI (λ_ j=>0<j) λi j=>.int (i%j)):=opI λi j _ _ _ _ _ f q=>by
 exact mod_int' (by lia) (by rw[Int.fmod_eq_emod_of_nonneg i (by lia)];exact q)
def op_pow:OpR X (Gr .Pow) (rI CPow λi j=>.int (i^j.toNat)):=opI λ_ _ _ _ _ _ _ f q=>pow_int_small f.1 f.2.1 f.2.2 q
def z9d:OpR X (Vd .Add) (rI0 λi j=>.int (i+j)):=opI0 λ_ _ _ _ _ _ _ q=>iadd_int q
def unI{g:Int->Int}(rule:∀ i   t   s   Q   E ,Q (.int (g i) s.toks) { s with toks:=s.toks+1 }->wpAny (model X.prog X.w) X.A (f (.int i t)) Q E s):
  UnR X f (rU λi=>.int (g i)):=by
 intro j s u H x v Q I o h;obtain⟨i,rfl,q⟩:=h;obtain⟨t,rfl⟩:=o;exact rule i t s _ _ ⟨.int (g i),H,I.tok _,⟨_,rfl⟩,q⟩
def q2l:UnR X (unaryOp .USub) (rU λi=>.int (-i)):=unI λ_ _ _ _ _ q=>neg_int q
end
noncomputable def scal:V->V->Bool
 |.non,.non=>true|.non,.int _=>true|.int _,.non=>true|.non,.bl _=>true|.bl _,.non=>true|.non,.str _=>true|.str _,.non=>true
 |.int _,.int _=>true|.bl _,.bl _=>true|.str _,.str _=>true|.byt _,.byt _=>true
 |.int _,.str _=>true|.str _,.int _=>true|.bl _,.str _=>true|.str _,.bl _=>true
 |_,_=>false
noncomputable def rEq:R2:=λx y H Q=>scal x y=true/\Q (.bl (decide (x=y))) H
noncomputable def rNe:R2:=λx y H Q=>scal x y=true/\Q (.bl (!decide (x=y))) H
def z9e:decide (V.int i=V.int j)=(i==j):=by
 rw[Iz];simp
def x6q:decide (V.bl i=V.bl j)=(i==j):=by
 rw[Iz];simp
def dec_str:decide (V.str i=V.str j)=(i==j):=by
 rw[Iz];simp
def z9f:decide (V.byt i=V.byt j)=(i.toList==j.toList):=by
 rw[Iz];cases i;cases j;simp
section
variable{X:Cx}{a b c:Expr}{ta tb tc:TE}{pos:Pos}
def q1c{f:St}(I:Inv X pins f H s)(q:Q (.bl k) H)(e:k=k'):EP X pins f Q (.bool k') s:=by
 subst e;exact⟨.bl k,H,I,rfl,q⟩
def op_eq:OpR X (Cz .Eq) rEq:=by
 intro C s D H x y v u Q I B f h;obtain⟨o,q⟩:=h;cases x with
 |non =>
  cases B;cases y with
  |non=>cases f;exact PySem.EqNone.eq_none_none (q1c I q (by simp))
  |bl j=>cases f;exact PySem.EqNone.eq_none_bool (q1c I q (by simp))
  |int j=>obtain⟨g,rfl⟩:=f;exact PySem.EqNone.eq_none_int (q1c I q (by simp))
  |str j=>obtain⟨g,rfl⟩:=f;exact PySem.EqNone.eq_none_str (q1c I q (by simp))
  |_=>exact absurd (show false=true from o) Bm
 |bl i =>
  cases B;cases y with
  |non=>cases f;exact PySem.EqNone.eq_bool_none (q1c I q (by simp))
  |bl j=>cases f;exact eq_bool (q1c I q x6q)
  |str j=>obtain⟨g,rfl⟩:=f;exact PySem.EqMixed.eq_bool_str (q1c I q (by simp))
  |_=>exact absurd (show false=true from o) Bm
 |int i =>
  obtain⟨t,rfl⟩:=B;cases y with
  |non=>cases f;exact PySem.EqNone.eq_int_none (q1c I q (by simp))
  |int j=>obtain⟨g,rfl⟩:=f;exact eq_int (q1c I q z9e)
  |str j=>obtain⟨g,rfl⟩:=f;exact PySem.EqMixed.eq_int_str (q1c I q (by simp))
  |_=>exact absurd (show false=true from o) Bm
 |str i =>
  obtain⟨t,rfl⟩:=B;cases y with
  |non=>cases f;exact PySem.EqNone.eq_str_none (q1c I q (by simp))
  |bl j=>cases f;exact PySem.EqMixed.eq_str_bool (q1c I q (by simp))
  |int j=>obtain⟨g,rfl⟩:=f;exact PySem.EqMixed.eq_str_int (q1c I q (by simp))
  |str j=>obtain⟨g,rfl⟩:=f;exact eq_str (q1c I q dec_str)
  |_=>exact absurd (show false=true from o) Bm
 |byt i =>
  obtain⟨t,rfl⟩:=B;cases y with
  |byt j=>obtain⟨g,rfl⟩:=f;exact W.eq_bytes (q1c I q z9f)
  |_=>exact absurd (show false=true from o) Bm
 |_=>cases y<;>exact absurd (show false=true from o) Bm
def op_ne:OpR X (Cz .NotEq) rNe:=by
 intro C s D H x y v u Q I B f h;obtain⟨o,q⟩:=h;cases x with
 |non =>
  cases B;cases y with
  |non=>cases f;exact PySem.EqNone.ne_none_none (q1c I q (by simp))
  |bl j=>cases f;exact PySem.EqNone.ne_none_bool (q1c I q (by simp))
  |int j=>obtain⟨g,rfl⟩:=f;exact PySem.EqNone.ne_none_int (q1c I q (by simp))
  |str j=>obtain⟨g,rfl⟩:=f;exact PySem.EqNone.ne_none_str (q1c I q (by simp))
  |_=>exact absurd (show false=true from o) Bm
 |bl i =>
  cases B;cases y with
  |non=>cases f;exact PySem.EqNone.ne_bool_none (q1c I q (by simp))
  |bl j=>cases f;exact ne_bool (q1c I q (congrArg not x6q))
  |str j=>obtain⟨g,rfl⟩:=f;exact PySem.EqMixed.ne_bool_str (q1c I q (by simp))
  |_=>exact absurd (show false=true from o) Bm
 |int i =>
  obtain⟨t,rfl⟩:=B;cases y with
  |non=>cases f;exact PySem.EqNone.ne_int_none (q1c I q (by simp))
  |int j=>obtain⟨g,rfl⟩:=f;exact ne_int (q1c I q (congrArg not z9e))
  |str j=>obtain⟨g,rfl⟩:=f;exact PySem.EqMixed.ne_int_str (q1c I q (by simp))
  |_=>exact absurd (show false=true from o) Bm
 |str i =>
  obtain⟨t,rfl⟩:=B;cases y with
  |non=>cases f;exact PySem.EqNone.ne_str_none (q1c I q (by simp))
  |bl j=>cases f;exact PySem.EqMixed.ne_str_bool (q1c I q (by simp))
  |int j=>obtain⟨g,rfl⟩:=f;exact PySem.EqMixed.ne_str_int (q1c I q (by simp))
  |str j=>obtain⟨g,rfl⟩:=f;exact ne_str (q1c I q (congrArg not dec_str))
  |_=>exact absurd (show false=true from o) Bm
 |byt i =>
  obtain⟨t,rfl⟩:=B;cases y with
  |byt j=>obtain⟨g,rfl⟩:=f;exact W.ne_bytes (q1c I q (congrArg not z9f))
  |_=>exact absurd (show false=true from o) Bm
 |_=>cases y<;>exact absurd (show false=true from o) Bm
def z9g:OpR X (Cz .Lt) (rI0 λi j=>.bl (decide (i<j))):=opB0 λ_ _ _ _ _ _ _ q=>lt_int q
def op_le:OpR X (Cz .LtE) (rI0 λi j=>.bl (decide (i<=j))):=opB0 λ_ _ _ _ _ _ _ q=>le_int q
def q6h:OpR X (Cz .Gt) (rI0 λi j=>.bl (decide (j<i))):=opB0 λ_ _ _ _ _ _ _ q=>gt_int q
def op_ge:OpR X (Cz .GtE) (rI0 λi j=>.bl (decide (j<=i))):=opB0 λ_ _ _ _ _ _ _ q=>ge_int q
def op_in_str:OpR X (Cz .In) (λx y H Q=>∃i j,x=.str i/\y=.str j/\Q (.bl (!(Ex j i 0 j.length 1).isEmpty)) H):=by
 intro f s B H x y v u Q I g o h;obtain⟨i,j,rfl,rfl,q⟩:=h;obtain⟨t,rfl⟩:=g;obtain⟨C,rfl⟩:=o;exact in_str (q1c I q rfl)
def OpR.or(h:OpR X f r)(h':OpR X f r'):OpR X f (λx y H Q=>r x y H Q\/r' x y H Q):=by
 intro g s j H x y v u Q I o B q;rcases q with q|q
 ·exact h g s j H x y v u Q I o B q
 ·exact h' g s j H x y v u Q I o B q
def nomark(b)(h:op≠.In:=by decide)(j:op≠.NotIn:=by decide):Hw op b=false:=by
 have f:(op==CmpOp.In)=false:=by grind
 have g:(op==CmpOp.NotIn)=false:=by grind
 cases b<;>simp[Hw,f,g]
def q2g(g:OpR X (Cz op) r)(ha:PE X a ta)(j:PE X b tb)(o:Hw op b=false):PE X (.Compare a [op] [b] pos) (tOp r ta tb):=by
 intro f s B H Q I h;exact wpAny_Compare1 (binT ha j I h λv u C x y D E F G q=>g f C B D x y v u Q E F G q) o
noncomputable def tTest(t:TE):TT:=λσ H Q=>t σ H λx H'=>∃k,x=.bl k/\Q k H'
def q0h(j:OpR X (Cz op) r)(ha:PE X a ta)(o:PE X b tb)(B:Hw op b=false):PT X (.Compare a [op] [b] pos) (tTest (tOp r ta tb)):=by
 intro f s g H Q I h;refine Sy (thnE (ha f s g H _ I h) λv C x D E F G=>thnE (o f C g D _ E G) λu J y L M O P =>
  thnE (j f J g L x y v u _ M F O P) λc W z R S T ⟨k,e,U⟩=>?_) B
 subst e;cases T;exact Fw ⟨R,S,U⟩
noncomputable def TruV(K:Ai)(x:V)(H:Hp)(k:Bool):Prop :=
 match x with
 |.non=>k=false
 |.bl b=>k=b
 |.int i=>k=(i != 0)
 |.str y=>y.length<=sizeLine/\k=((y.length:Int) != 0)
 |.byt y=>y.size<=sizeLine/\k=((y.size:Int) != 0)
 |.ref p=>(∃xs,SqL K H p xs/\k = !xs.isEmpty)\/(∃xs,SqT K H p xs/\k = !xs.isEmpty)\/∃kvs,H p=some (.dK kvs)/\k = !kvs.isEmpty
 |_=>False
def z7n{kvs:List (κ×V)}(r:KV kvs vs):(!vs.isEmpty) = !kvs.isEmpty:=by
 cases r<;>rfl
def q8v(r:Vals xs its):(!its.toArray.isEmpty) = !xs.isEmpty:=by
 cases r<;>simp
def line63:(sizeLine)<2^63:=by rw[Et];decide
def tru_ok:TruR X (λx H Q=>∃k,TruV X.K x H k/\Q k H):=by
 intro D s L H x v Q I j h;obtain⟨k,e,q⟩:=h;have M:=Et;cases x with
 |non =>
  cases j;have f:=e;subst f;exact truthy_none ⟨H,I,q⟩
 |bl b =>
  cases j;have f:=e;subst f;exact Fw ⟨H,I,q⟩
 |int i =>
  obtain⟨t,rfl⟩:=j;have f:=e;subst f;exact PySem.P.truthy_int ⟨H,I,q⟩
 |str y =>
  obtain⟨t,rfl⟩:=j;obtain⟨F,f⟩:y.length<=sizeLine/\k=((y.length:Int) != 0):=e;subst f;exact PySem.P.truthy_str (by lia) ⟨H,I.tok _,q⟩
 |byt y =>
  obtain⟨t,rfl⟩:=j;obtain⟨F,f⟩:y.size<=sizeLine/\k=((y.size:Int) != 0):=e;subst f;exact W.truthy_bytes (by lia) ⟨H,I.tok _,q⟩
 |ref p =>
  cases j;have f:=e;rcases f with⟨G,o,f⟩|⟨G,o,f⟩|⟨u,o,f⟩
  ·subst f;obtain⟨B,r,C,E⟩:=I.list o;have g:=r.length;exact wpAny_truthy_list C.isList (by simp only[Bg];lia) ⟨H,I.tok _,by rw[q8v r];exact q⟩
  ·subst f;obtain⟨B,r,C,E⟩:=I.tuple o;have g:=r.length;exact truthy_tuple C (by simp only[Bg];lia) ⟨H,I.tok _,by rw[q8v r];exact q⟩
  ·subst f;obtain⟨E,J,vs,r,m⟩:u.length<=sizeLine/\(p==Dk)=false/\∃vs,KV u vs/\s.heap.DictOf (mixKind X.prog X.w) p vs:=I.hok p _ o;have g:=Hb r;exact wpAny_truthy_dict J m (by lia) ⟨H,I.tok _,by rw[z7n r];exact q⟩
 |_=>exact(show False from e).elim
def x3m(ha:PE X a ta)(o:∀f,isTrue a X.env f=(do let v<-f;Kq a.pos;Jl [v] (truthy v))):
  PT X a (λj H Q=>ta j H λx H'=>∃k,TruV X.K x H' k/\Q k H'):=by
 intro g s j H Q I h;exact isTrue_plain (thnE (ha g s j H _ I h) λv u x B C D E=>tru_ok g u j B x v Q C D E) (o _)
def op_add_str:OpR X (Gr .Add) (λx y H Q=>∃i j,x=.str i/\y=.str j/\i.length+j.length<=sizeLine/\Q (.str (i++j)) H):=by
 intro f s D H x y v u Q I g o h;obtain⟨i,j,rfl,rfl,B,q⟩:=h;obtain⟨t,rfl⟩:=g;obtain⟨C,rfl⟩:=o;exact add_str (λC tk=>⟨.str (i++j),H,I.tok _,⟨_,rfl⟩,q⟩) B
def q4t:OpR X (Vd .Add) (λx y H Q=>∃i j,x=.str i/\y=.str j/\i.length+j.length<=sizeLine/\Q (.str (i++j)) H):=by
 intro f s D H x y v u Q I g o h;obtain⟨i,j,rfl,rfl,B,q⟩:=h;obtain⟨t,rfl⟩:=g;obtain⟨C,rfl⟩:=o;exact iadd_str (λC tk=>⟨.str (i++j),H,I.tok _,⟨_,rfl⟩,q⟩) B
def vals1(r:Vals [x] us):∃u,us=[u]/\RelV x u:=by
 cases r with
 |cons r1 r2=>cases r2;exact⟨_,rfl,r1⟩
def vals2(r:Vals [x,y] us):∃u f,us=[u,f]/\RelV x u/\RelV y f:=by
 cases r with
 |cons r1 r2 =>
  cases r2 with
  |cons r3 r4=>cases r4;exact⟨_,_,rfl,r1,r3⟩
def z9h(o:X.calm=true):CallR X (.builtin "max") (λxs H Q=>∃i j,xs=[.int i,.int j]/\Q (.int (if j>i then j else i)) H):=by
 intro g s v H xs B Q I r h;obtain⟨i,j,rfl,q⟩:=h;obtain⟨u,C,rfl,⟨t,rfl⟩,⟨D,rfl⟩⟩:=vals2 r;refine max_two_ints (I.ok.hd o) λE tk k=>⟨_,H,I.kept k,?_,q⟩
 by_cases f:j>i
 ·rw[if_pos f,if_pos f];exact⟨_,rfl⟩
 ·rw[if_neg f,if_neg f];exact⟨_,rfl⟩
def q6z(o:X.calm=true):CallR X (.builtin "min") (λxs H Q=>∃i j,xs=[.int i,.int j]/\Q (.int (if j<i then j else i)) H):=by
 intro g s v H xs B Q I r h;obtain⟨i,j,rfl,q⟩:=h;obtain⟨u,C,rfl,⟨t,rfl⟩,⟨D,rfl⟩⟩:=vals2 r;refine min_two_ints (I.ok.hd o) λE tk k=>⟨_,H,I.kept k,?_,q⟩
 by_cases f:j<i
 ·rw[if_pos f,if_pos f];exact⟨_,rfl⟩
 ·rw[if_neg f,if_neg f];exact⟨_,rfl⟩
def call_int1:CallR X (.type "int") (λxs H Q=>(∃i,xs=[.int i]/\Q (.int i) H)\/∃k,xs=[.bl k]/\Q (.int (if k then 1 else 0)) H):=by
 intro f s j H xs o Q I r h;rcases h with⟨i,rfl,q⟩|⟨k,rfl,q⟩
 ·obtain⟨u,rfl,t,rfl⟩:=vals1 r;exact call_int_int ⟨.int i,H,I,⟨_,rfl⟩,q⟩
 ·obtain⟨u,rfl,g⟩:=vals1 r;cases g;exact call_int_bool ⟨.int (if k then 1 else 0),H,I.tok _,⟨_,rfl⟩,q⟩
noncomputable def LenV(K:Ai)(x:V)(H:Hp)(n:Nat):Prop :=
 match x with
 |.str y=>y.length<=sizeLine/\n=y.length
 |.byt y=>y.size<=sizeLine/\n=y.size
 |.ref p=>(∃xs,SqL K H p xs/\n=xs.length)\/∃xs,SqT K H p xs/\n=xs.length
 |_=>False
def x3n:CallR X (.builtin "len") (λxs H Q=>∃x n,xs=[x]/\LenV X.K x H n/\Q (.int n) H):=by
 intro D s G H xs J Q I r h;obtain⟨x,n,rfl,e,q⟩:=h;obtain⟨u,rfl,j⟩:=vals1 r;have L:=Et;cases x with
 |str y =>
  obtain⟨t,rfl⟩:=j;obtain⟨E,g⟩:y.length<=sizeLine/\n=y.length:=e;subst g;exact len_str (by lia) ⟨.int _,H,I.tok _,⟨_,rfl⟩,q⟩
 |byt y =>
  obtain⟨t,rfl⟩:=j;obtain⟨E,g⟩:y.size<=sizeLine/\n=y.size:=e;subst g;exact W.len_bytes (by lia) ⟨.int _,H,I.tok _,⟨_,rfl⟩,q⟩
 |ref p =>
  cases j;have g:=e;rcases g with⟨xs,o,g⟩|⟨xs,o,g⟩
  ·subst g;obtain⟨v,B,C,F⟩:=I.list o;have f:=B.length;exact Calls.call_len_list C.isList (by simp only[Bg];lia) ⟨.int xs.length,H,I.tok _,⟨_,by simp only[Bg];rw[f]⟩,q⟩
  ·subst g;obtain⟨v,B,C,F⟩:=I.tuple o;have f:=B.length;exact len_tuple C (by simp only[Bg];lia) ⟨.int xs.length,H,I.tok _,⟨_,by simp only[Bg];rw[f]⟩,q⟩
 |_=>exact(show False from e).elim
end
structure ObjM (h:Heap) (x dx C) (mA):Prop where
 obj:h.get? x=some (Lf C dx)
 ns:h.Ns1 dx mA
 ne:dx≠x
def z1w{h:Heap}(n:h.Ns1 dx mA):∃j,h.get? dx=some j/\∀f,Ww f j=some (mA f):=by
 obtain⟨o,s,C,u,hd,hk,_,v⟩:=n;refine⟨o,u,λf=>?_⟩;have e:=v f;unfold nsFind findBy at e;rw[<- Pg] at e;unfold Ww;rw[hd];dsimp only;split
 ·grind
 ·rename_i q;rw[q] at e;have a:s.toList.any (·.refKey)=false:=by
   rw[Vy];intro y B;obtain⟨z,t,g⟩:=hk y (Uc.mp B);simp[Lh.refKey,g]
  have a':¬s.toList.any (·.refKey)=true:=by grind
  rw[if_neg a'];exact congrArg some e
def ObjM.look(I:ObjM h x dx C mA):∃g,Qx h x (Lf C dx) C (some g)/\∀f,Ww f g=some (mA f) :=
 let ⟨g,j,hl⟩:=z1w I.ns
 ⟨g,⟨I.obj,rfl,rfl,j⟩,hl⟩
section
variable{prog:Aq}{w:World}{A:Around}{E:Value->Ah->Prop}{s:Ah}{K:Ai}{x dx C f:Addr}{mA:Str->Option Value}{name:Str}{v:Value}
def x8g(X:K.In s.heap)(I:ObjM s.heap x dx C mA)(g:Qq K C name=true)(j:Mm K C=true)(ha:Ck K (.ref C) name=some none)(o:mA name=some v)(f:Xj v=true)(h:Q v { s with toks:=s.toks+1 }):
  wpAny (model prog w) A (Xz (.ref x) name expr) Q E s:=by
 obtain⟨u,J,hl⟩:=I.look;exact W.get_value X J (Ul g).1 (W.findObj_own j ha rfl (by rw[hl,o])) f h
def x3o(X:K.In s.heap)(I:ObjM s.heap x dx C mA)(g:Qq K C name=true)(j:Ck K (.ref C) name=some (some (.ref f)))(o:Xk K (.ref f)=true)(u:mA name=none)(h:Q (.ref f,[.ref x]) s):
  wpAny (model prog w) A (Nc (.ref x) name pl) Q E s:=by
 obtain⟨v,J,hl⟩:=I.look;exact W.method_fn X J (Ul g).1 (Ul g).2 j (beq_iff_eq.mp o) (by show(Ww name v).map (·.isSome)=some false;rw[hl,u];rfl) h
def x8h(X:K.In s.heap)(I:ObjM s.heap x dx C mA)(D:Ck K (.ref C) "__setattr__" = some (some (.builtin "object.__setattr__")))(F:Wo K C=true)(G:Yd K C name=some none)(H:Mm K C=true)(L:Np mA ns)(M:ns.length<=sizeLine)(h:∀h',ObjM h' x dx C (λy=>if y=name then some v else mA y)->Gd dx s.heap h'->Q () { s with heap:=h',toks:=s.toks+2 }):
  wpAny (model prog w) A (Yb (.ref x) name v) Q E s:=by
 obtain⟨T,J,hl⟩:=I.look;refine Wq X J D (W.osa_open X J F G λb=>?_);obtain⟨U,O,j⟩:=W.any_some H;have P:=I.obj;refine Ac (Ad (Ac (Ac (Sz P (Ac (Vg (Qc X O) ?_))))));rw[j];refine Ad (Ac (Ad (Ac ?_)));refine Vh I.ns λh' f g=>?_
 obtain⟨Y,R,S,o,u,B⟩:=f.count (Qk name v L);refine Ac (Qy o (by rw[u];exact Qz (Ay B (by rw[Bc];lia))) ?_);exact Ad (h _ ⟨(g.2 _ (Cp I.ne)).trans I.obj,f,I.ne⟩ g)
def x3p(X:K.In s.heap)(g:Ye K C=true)(j:Ck K (.ref C) "__init__" = some (some (.ref f)))(o:W.typeIn K (.ref f)=some (.type "function"))(h:Ey (model prog w) (A.under (.builtin "type.__call__" ⟨.ref C::vs,kw⟩)) (.call (.ref f) ⟨.ref (s.heap.objs.size+1)::vs,kw⟩) (W.InitBack (s.heap.objs.size+1) R)
   { s with heap:=(s.heap.push Eo).push (Lf C s.heap.objs.size) }):
  Ey (model prog w) A (.call (.ref C) ⟨vs,kw⟩) R s:=by
 exact W.make_core (W.makes_of X g) (Ox X j) (λself=>W.bind_fn X self o) (.inl rfl) h
end
noncomputable def putF(f:Str)(v:V):List (Str×V)->List (Str×V)
 |[]=>[(f,v)]
 |(g,x)::r=>if g=f then(g,v)::r else(g,x)::putF f v r
theorem q3d(f g)(v):∀fs,(putF f v fs).lookup g=if g=f then some v else fs.lookup g
 |[]=>by
  show List.lookup g [(f,v)]=_;by_cases h:g=f
  ·have j:(g==f)=true:=beq_iff_eq.mpr h;simp only[List.lookup,j,if_pos h]
  ·simp_all
 |(k,x)::r=>by
  have o:=q3d f g v r;rw[show putF f v ((k,x)::r)=(if k=f then(k,v)::r else(k,x)::putF f v r) from rfl];by_cases hk:k=f
  ·rw[if_pos hk];by_cases h:g=k
   ·simp_all
   ·have j:(g==k)=false:=beq_eq_false_iff_ne.mpr h;simp only[List.lookup,j,if_neg (λe:g=f=>h (e.trans hk.symm))]
  ·rw[if_neg hk];by_cases h:g=k
   ·simp_all
   ·have j:(g==k)=false:=beq_eq_false_iff_ne.mpr h;simp only[List.lookup,j];exact o
theorem q3u(f)(v):∀fs,f∈(putF f v fs).map (·.1)/\∀g,g∈fs.map (·.1)->g∈(putF f v fs).map (·.1)
 |[]=>⟨by simp[putF],λg h=>by simp at h⟩
 |(k,x)::r=>by
  obtain⟨j,o⟩:=q3u f v r;rw[show putF f v ((k,x)::r)=(if k=f then(k,v)::r else(k,x)::putF f v r) from rfl];by_cases hk:k=f
  ·grind
  ·grind
theorem q7a(f)(v):∀fs,(putF f v fs).length<=fs.length+1
 |[]=>by simp[putF]
 |(k,x)::r=>by
  have g:=q7a f v r;rw[show putF f v ((k,x)::r)=(if k=f then(k,v)::r else(k,x)::putF f v r) from rfl];by_cases hk:k=f
  ·grind
  ·grind
def RelO.some_of(r:RelO (some v) o):∃u,o=some u/\RelV v u:=by
 cases o with
 |none=>exact(show False from r).elim
 |some u=>exact⟨u,rfl,r⟩
def RelO.none_of(r:RelO none o):o=none:=by
 cases o with
 |none=>rfl
 |some u=>exact(show False from r).elim
def z1x(r:RelV v u):Xj u=true:=by
 cases v with
 |non=>cases(show u=Value.none from r);rfl
 |bl b=>cases(show u=Value.bool b from r);rfl
 |int i=>obtain⟨t,e⟩:=(show ∃t,u=Value.int i t from r);cases e;rfl
 |str x=>obtain⟨t,e⟩:=(show ∃t,u=Value.str x t from r);cases e;rfl
 |byt b=>obtain⟨t,e⟩:=(show ∃t,u=Value.bytes b t from r);cases e;rfl
 |flt b=>obtain⟨t,e⟩:=(show ∃t,u=Value.float b t from r);cases e;rfl
 |ref a=>cases(show u=Value.ref a from r);rfl
 |ty n=>cases(show u=Value.type n from r);rfl
section
variable{P:Aq}{w:World}{H H':Hp}{h h':Heap}{a C dx:Addr}{fs fs':List (Str×V)}
def z4n(hok:HOk P w H h)(e:H a=some (.ins C dx fs)):∃g,ObjM h a dx C g/\(∀f,RelO (fs.lookup f) (g f))/\Np g (fs.map (·.1))/\fs.length<=1000/\H dx=some (.own a):=by
 obtain⟨d,z,ne,j,g,n,r,q⟩:=(show ObjOk P w H h a (.ins C dx fs) from hok a _ e)
 exact⟨g,⟨j,n,ne⟩,r,q,z,d⟩
end
structure Cls (K) (C):Prop where
 pg:Qq K C Vi=true
 hd:Mm K C=true
 po:Wo K C=true
 sa:Ck K (.ref C) "__setattr__" = some (some (.builtin "object.__setattr__"))
def Cls.get{K}(c:Cls K C)(f):Qq K C f=true:=c.pg
noncomputable def NoAttr(K:Ai)(C:Addr)(f:Str):Prop:=Ck K (.ref C) f=some none
def NoAttr.taker{K}(n:NoAttr K C f):Yd K C f=some none:=by
 unfold Yd;rw[show Ck K (.ref C) f=some none from n];rfl
structure Meth (K) (C) (m) (f):Prop where
 at_:Ck K (.ref C) m=some (some (.ref f))
 fn:Xk K (.ref f)=true
 kp:Fy K (.ref f)=true
section
variable{X:Cx}{pins:List (Addr×Obj)}{σ:St}{H:Hp}{s:Ah}{a C dx:Addr}{fs:List (Str×V)}{f:Str}{v:V}{A:Around}{E:Value->Ah->Prop}
def z7o(I:Inv X pins σ H s)(e:H a=some (.ins C dx fs))(c:Cls X.K C)(n:NoAttr X.K C f)(l:fs.lookup f=some v)(h:∀u s',Inv X pins σ H s'->RelV v u->Q u s'):wpAny (model X.prog X.w) A (Xz (.ref a) f b) Q E s:=by
 obtain⟨o,O,r,_,_,_⟩:=z4n I.hok e;obtain⟨u,j,g⟩:=RelO.some_of (by rw[<- l];exact r f);exact x8g I.kIn O (c.get f) c.hd n j (z1x g) (h u _ (I.tok _) g)
def q8w(I:Inv X pins σ H s)(e:H a=some (.ins C dx fs))(c:Cls X.K C)(k:Meth X.K C m g)(l:fs.lookup m=none)(h:Q (.ref g,[.ref a]) s):wpAny (model X.prog X.w) A (Nc (.ref a) m pl) Q E s:=by
 obtain⟨f,O,r,_,_,_⟩:=z4n I.hok e;have hn:=RelO.none_of (by rw[<- l];exact r m);exact x3o I.kIn O (c.get m) k.at_ k.fn hn h
def z7p(I:Inv X pins σ H s)(e:H a=some (.ins C dx fs))(c:Cls X.K C)(n:NoAttr X.K C f)(hl:fs.length<1000)(F:RelV y u)(h:∀s',Inv X pins σ (upd H a (.ins C dx (putF f y fs))) s'->Q () s'):wpAny (model X.prog X.w) A (Yb (.ref a) f u) Q E s:=by
 obtain⟨v,O,r,B,_,D⟩:=z4n I.hok e;have G:(fs.map (·.1)).length<=sizeLine:=by rw[Ae,Et];lia
 refine x8h I.kIn O c.sa c.po n.taker c.hd B G λJ j L=>h _ ?_;have hd:∃o,J.get? dx=some o:=let ⟨o,_,_,M,_⟩:=j.ns;⟨o,M⟩;refine I.write (by rw[e];exact True.intro) (.inr D) (λb q P z=>(L.2 b P).trans z) hd ?_;refine⟨by rw[q0g O.ne];exact D,?_,O.ne,j.obj,_,j.ns,λg=>?_,λg R=>?_⟩
 ·have:=q7a f y fs;lia
 ·show RelO ((putF f y fs).lookup g) (if g=f then some u else v g);rw[q3d];by_cases q:g=f
  ·rw[if_pos q,if_pos q];exact F
  ·grind
 ·by_cases q:g=f
  ·rw[q];exact(q3u f y fs).1
  ·refine(q3u f y fs).2 g (B g λz=>R ?_);show(if g=f then some u else v g)=none;rw[if_neg q];exact z
def Inv.made(I:Inv X pins σ H s):Inv X pins σ (upd (upd H s.heap.objs.size (.own (s.heap.objs.size+1))) (s.heap.objs.size+1) (.ins C s.heap.objs.size []))
  { s with heap:=(s.heap.push Eo).push (Lf C s.heap.objs.size) }:=by
 have f:(s.heap.push Eo).get? s.heap.objs.size=some Eo:=Aw s.heap rfl;have g:((s.heap.push Eo).push (Lf C s.heap.objs.size)).get? (s.heap.objs.size+1)=some (Lf C s.heap.objs.size):=by
  have:=Aw (s.heap.push Eo) (o:=Lf C s.heap.objs.size) rfl
  rwa [Ft] at this
 have h:(s.heap.push Eo).Ns s.heap.objs.size (λ_=>none):=⟨Eo,#[],_,f,rfl,(λe j=>absurd j (by simp)),λ_=>rfl⟩
 have v:=I.laid (o:=.own (s.heap.objs.size+1)) (h':=s.heap.push Eo) (t':=s.toks) (λb u q=>Ag _ q) (Aj _) ⟨_,f⟩;refine v.laid (t':=s.toks) (λb u q=>Ag _ q) (Fb (Ft _ _)) ?_;have ne:s.heap.objs.size≠s.heap.objs.size+1:=Bl (Jx _);refine⟨by rw[q0g ne,q0c],Ba _,ne,g,λ_=>none,(Vz h).at λo q=>Ag _ q,λ_=>True.intro,λy B=>absurd rfl B⟩
def z9i(j:Fs e f env (eval e env)=eval e env)(h:wpAny (model prog w) A (eval e env) (λo g=>wpAny (model prog w) A (Xz o f true) Q E g) E s):wpAny (model prog w) A (eval (.Attribute e f pos) env) Q E s :=
 Attribute_any_ h (by rw[arm_eval_Attribute,j])
end
noncomputable def tFld(K:Ai)(ta:TE)(f:Str):TE:=λσ H Q=>ta σ H λx H1=>∃a C dx fs v,x=.ref a/\H1 a=some (.ins C dx fs)/\Cls K C/\NoAttr K C f/\fs.lookup f=some v/\Q v H1
noncomputable def sFld(K:Ai)(ta tv:TE)(f:Str):TS:=λD σ H=>tv σ H λy H1=>ta σ H1 λx H2=>∃a C dx fs,x=.ref a/\H2 a=some (.ins C dx fs)/\Cls K C/\NoAttr K C f/\fs.length<1000 /\
 D.nx σ (upd H2 a (.ins C dx (putF f y fs)))
section
variable{X:Cx}{o e value:Expr}{f:Str}{pos pos' tpos:Pos}{ta tv:TE}
def pe_fld(j:PE X e ta)(o:Fs e f X.env (eval e X.env)=eval e X.env):PE X (.Attribute e f pos) (tFld X.K ta f):=by
 intro g s B H Q I h;refine z9i o (thnE (j g s B H _ I h) λu O x D E F G=>?_);obtain⟨a,C,P,fs,v,ex,J,c,n,l,q⟩:=G;subst ex;obtain rfl:u=Value.ref a:=F;exact z7o E J c n l λR S L M=>⟨v,D,L,M,q⟩
def ps_fld(ha:PE X o ta)(v:PE X value tv)(B:Iw value (some (.Attribute o f pos')) pos.line X.env=pure false):PS X (.Assign [.Attribute o f pos'] value pos) (sFld X.K ta tv f):=by
 intro g s j H D I h;refine Nm (thnE (v g s j H _ I h) λu E y F G J q=>thnE (ha g E j F _ G q) λL T x U M O P=>?_) B;obtain⟨a,C,W,fs,ex,Q,c,n,l,R⟩:=P;subst ex;obtain rfl:L=Value.ref a:=O;exact z7p M Q c n l J λY S=>⟨j,_,S,R⟩
end
section
variable{X:Cx}{pins:List (Addr×Obj)}{σ:St}{H:Hp}{s:Ah}{A:Around}{E:Value->Ah->Prop}{Q:Value->Ah->Prop}{c:Value}{b:Bool}
inductive TyOf (K:Ai) (H:Hp):V->Value->Prop where
 |non:TyOf K H .non (.type "NoneType")
 |bl (x:Bool):TyOf K H (.bl x) (.type "bool")
 |int (i:Int):TyOf K H (.int i) (.type "int")
 |str (x:Str):TyOf K H (.str x) (.type "str")
 |flt (x:UInt64):TyOf K H (.flt x) (.type "float")
 |lst {a:Addr} {xs:List V} (e:H a=some (.lst xs)):TyOf K H (.ref a) (.type "list")
 |frz {a:Addr} {o:Obj} {xs:List V} (e:H a=some (.frz o (.lst xs))):TyOf K H (.ref a) (.type "list")
 |tup {a:Addr} {xs:List V} (e:H a=some (.tup xs)):TyOf K H (.ref a) (.type "tuple")
 |dK {a:Addr} {kvs:List (Key×V)} (e:H a=some (.dK kvs)):TyOf K H (.ref a) (.type "dict")
 |dT {a:Addr} {kvs:List (List Key×V)} (e:H a=some (.dT kvs)):TyOf K H (.ref a) (.type "dict")
 |ins {a C dx:Addr} {fs:List (Str×V)} (e:H a=some (.ins C dx fs)) (cl:Cls K C) (ha:Ck K (.ref C) "__class__" = some (some (.builtin "object.__class__")))
   (hn:Pd K (.builtin "object.__class__") "__get__" = some (some (.builtin "getset_descriptor.__get__"))) (htk:Yg K (.builtin "object.__class__")=some true)
   (hm:W.mroIn K C (.type "object")=some true):TyOf K H (.ref a) (.ref C)
end
structure Room (k) (A:Around):Prop where
 hd:A.handled=none
 dp:A.depth+3*k+5<recursionLimit
 un:A.units+16*k+200<cLine
 gd:A.guards=some []
def Room.mono(r:Room k A)(h:j<=k):Room j A:=⟨r.hd,by have:=r.dp;lia,by have:=r.un;lia,r.gd⟩
def Room.deeper(r:Room (k+1) A)(env):Room k (A.deeper env) :=
 ⟨r.hd,by have:=r.dp;show A.depth+1+3*k+5<_;lia,by have:=r.un;show A.units+3+16*k+200<_;lia,r.gd⟩
def z7q{A:Around}:(A.under (.builtin "type.__call__" ⟨.ref C::us,kw⟩)).depth=A.depth+1:=by
 first|rfl|simp[Ra,Code.weight,Code.isCreation,Code.isGuard,Code.isCaller,Code.frames,Vj,guardIds]
def z7r{A:Around}:(A.under (.builtin "type.__call__" ⟨.ref C::us,kw⟩)).units=A.units+1:=by
 first|rfl|simp[Ra,Code.cUnits,Code.frames,Vj]
def make_guards{A:Around}:(A.under (.builtin "type.__call__" ⟨.ref C::us,kw⟩)).guards=A.guards:=by
 have:(Code.builtin "type.__call__" ⟨.ref C::us,kw⟩).guards=[]:=by simp[Code.guards,Code.isGuard,guardIds]
 unfold Ra;rw[this];cases e:A.guards<;>simp[pushGuards,e]
def Room.make(r:Room (k+1) A)(C)(f)(g):Room k (A.under (.builtin "type.__call__" ⟨.ref C::f,g⟩)) :=
 ⟨r.hd,by have:=r.dp;rw[z7q];lia,by have:=r.un;rw[z7r];lia,make_guards.trans r.gd⟩
def Room.depth(r:Room k A):A.depth<recursionLimit:=by have:=r.dp;lia
def Room.units(r:Room k A):A.units+64<cLine:=by have:=r.un;lia
noncomputable def tNil:TA:=λ_ H Q=>Q [] H
noncomputable def tCons(ta:TE)(tr:TA):TA:=λσ H Q=>ta σ H λx H1=>tr σ H1 λxs H2=>Q (x::xs) H2
section
variable{X:Cx}{e:Expr}{es:List Expr}{te:TE}{t:TA}{pos:Pos}
def q0d:PA X [] tNil:=λ_ _ _ _ H Q I h=>Mg ⟨[],H,I,.nil,h⟩
def q0a(ha:PE X e te)(o:PA X es t)(v:Bd (e::es) X.env=(false,eval e X.env)::Bd es X.env:=by rfl):PA X (e::es) (tCons te t):=by
 intro g f s j H Q I h;rw[v];refine Em (thnE (ha f s j H _ I h) λu B x C D E F=>?_);exact thn (o g f B j C _ D F) λP R ⟨G,J,L,M,O⟩=>⟨x::G,J,L,.cons E M,O⟩
noncomputable def tTup(t:TA):TE:=λσ H Q=>t σ H λxs H1=>xs.length<=sizeLine/\∀p,H1 p=none->Q (.ref p) (upd H1 p (.tup xs))
noncomputable def tLst(t:TA):TE:=λσ H Q=>t σ H λxs H1=>xs.length<=sizeLine/\∀p,H1 p=none->Q (.ref p) (upd H1 p (.lst xs))
def q0v{x1}(h:PA X es t):PE X (.Tuple es x1 pos) (tTup t):=by
 intro f s o H Q I v;refine wpAny_Tuple_spliced (thn (h pos f s o H _ I v) λB g ⟨C,D,j,r,z,q⟩=>⟨by rw[<- r.length];exact z,?_⟩);have E:=j.hok.fresh (Aj _);refine⟨.ref g.heap.objs.size,upd D g.heap.objs.size (.tup C),j.laid (t':=g.toks) (λb u e=>Ag _ e) (Aj _) ?_,rfl,q _ E⟩;exact⟨z,B,r,⟨_,Aw _ rfl,rfl,_,rfl⟩⟩
def q1p(h:PA X es t):PE X (.List es pos) (tLst t):=by
 intro f s o H Q I v;refine wpAny_List_spliced (thn (h pos f s o H _ I v) λB g ⟨C,D,j,r,z,q⟩=>⟨by rw[<- r.length];exact z,?_⟩);have E:=j.hok.fresh (Aj _);refine⟨.ref g.heap.objs.size,upd D g.heap.objs.size (.lst C),j.laid (t':=g.toks) (λb u e=>Ag _ e) (Aj _) ?_,rfl,q _ E⟩;exact⟨z,B,0,r,Aw _ rfl⟩
end
noncomputable abbrev Sp:=List V->Hp->VK->XK->Prop
noncomputable abbrev CXT:=List Env->Hp->Ah->XK->Value->Ah->Prop
structure Env0 (P) (w) (K) (mg) (base) (A:Around) (outer) (s:Ah) (H:Hp):Prop where
 frames:A.frames=some outer
 mod:Mod K mg base
 bs:∀b o,base.get? b=some o->s.heap.get? b=some o/\H b=none
 bsz:base.objs.size<=s.heap.objs.size
 funs:s.heap.FunFrames base outer
 frf:∀b∈frs outer,H b=none
 hok:HOk P w H s.heap
 bare:Lw s.gens
noncomputable def CE(outer:List Env)(P:Aq)(w:World)(H:Hp)(s:Ah)(Q:VK)(u:Value)(s':Ah):Prop :=
 ∃v H',s'.os=s.os/\Lw s'.gens/\Un (frs outer) [] H H' s.heap s'.heap/\HOk P w H' s'.heap/\RelV v u/\Q v H'
noncomputable def CR(CX:CXT)(outer:List Env)(P:Aq)(w:World)(H:Hp)(s:Ah)(Q:VK)(E:XK)(r:Result)(s':Ah):Prop :=
 match r with
 |.ok (.ret u)=>CE outer P w H s Q u s'
 |.ok _=>False
 |.error e=>CX outer H s E e s'
structure FnOk (P) (w) (K) (mg) (base) (CX) (k) (f) (fd) (ps:List Str) (sp:Sp):Prop where
 len:∀vs H Q E,sp vs H Q E->vs.length=ps.length
 run:∀ A   outer   s   H   args   us   vs   Q   E ,Room k A->Env0 P w K mg base A outer s H->Ta s fd args (ps.zip us)->Vals vs us->sp vs H Q E ->
  Ey (model P w) A (.call (.ref f) args) (CR CX outer P w H s Q E) s
def FnOk.imp{K}(F:FnOk P w K mg base CX k f fd ps sp)(h:∀vs H Q E,sp' vs H Q E->sp vs H Q E):FnOk P w K mg base CX k f fd ps sp' :=
 ⟨λvs H Q E q=>F.len vs H Q E (h _ _ _ _ q),λA outer s H g j vs Q E o u v B C=>F.run A outer s H g j vs Q E o u v B (h _ _ _ _ C)⟩
def Env0.make{K}(e:Env0 P w K mg base A outer s H)(C)(f)(g):
  Env0 P w K mg base (A.under (.builtin "type.__call__" ⟨.ref C::f,g⟩)) outer s H:=⟨by first|exact e.frames|(simpa[Ra,Code.envs,Vj,pushEnvs] using e.frames),e.mod,e.bs,e.bsz,e.funs,e.frf,e.hok,e.bare⟩
section
variable{X:Cx}{pins:List (Addr×Obj)}{σ:St}{H:Hp}{s s':Ah}
def Inv.env0(I:Inv X pins σ H s):Env0 X.prog X.w X.K X.mg X.base X.A X.stack s H :=
 ⟨I.ok.frames,I.ok.mod,I.bs,Ay I.ok.bsz I.sz,I.stack,I.stkFree,I.hok,I.bare⟩
def Inv.after(I:Inv X pins σ H s)(h:CE X.stack X.prog X.w H s Q u s'):EP X pins σ Q u s':=by
 obtain⟨v,j,os,bare,un,hok,r,q⟩:=h;obtain⟨o,g,d,t,f⟩:=s';obtain rfl:f=s.os:=os;exact⟨v,j,I.call (h':=o) (g':=g) (d':=d) (t':=t) un hok bare (λb z=>absurd z (by simp)),r,q⟩
end
noncomputable def tCall(sp:Sp)(dvs:List V)(E:XK)(t:TA):TE:=λσ H Q=>t σ H λvs H1=>sp (vs++dvs) H1 Q E
noncomputable def tMeth(C:Addr)(m:Str)(sp:Sp)(dvs:List V)(E:XK)(ta:TE)(t:TA):TE:=λσ H Q=>ta σ H λx H1=>∃a dx fs,x=.ref a/\H1 a=some (.ins C dx fs)/\fs.lookup m=none /\
 t σ H1 λvs H2=>sp (x::(vs++dvs)) H2 Q E
noncomputable def tMake(C:Addr)(sp:Sp)(dvs:List V)(E:XK)(t:TA):TE:=λσ H Q=>t σ H λvs H1=>∀x dx,H1 x=none->H1 dx=none->dx≠x ->
 sp (.ref x::(vs++dvs)) (upd (upd H1 dx (.own x)) x (.ins C dx [])) (λv H2=>v=.non/\Q (.ref x) H2) E
noncomputable def Binds(K:Ai)(fd:Li)(ps:List Str)(ds:List Value):Prop :=
 ∀ s   us ,K.In s.heap->(us++ds).length=ps.length->Ta s fd ⟨us,[]⟩ (ps.zip (us++ds))
def Binds.all{K}(h:∀f,f.length=ps.length->bindArgs fd ⟨f,[]⟩=pure (ps.zip f)):Binds K fd ps []:=λs f _ hl=>by
 rw[Cd] at hl ⊢;exact .of_eq (h f hl)
noncomputable def Passes(CX:CXT)(X:Cx)(E:XK):Prop:=∀ pins  (σ:St)  H   s   e   s' ,Inv X pins σ H s->CX X.stack H s E e s'->X.xe e s'
section
variable{X:Cx}{CX:CXT}{k:Nat}{f C:Addr}{fd:Li}{ps:List Str}{sp:Sp}{dvs:List V}{ds:List Value}{E:XK}{x m:Str}{p pos apos:Pos}{e o:Expr}{es:List Expr}{ta:TE}{t:TA}
def z6b{j:St}(F:FnOk X.prog X.w X.K X.mg X.base CX k f fd ps sp)(v:Room k X.A)(B:Binds X.K fd ps ds)(hd:Vals dvs ds)(C:Passes CX X E)(I:Inv X pins j H s)(r:Vals vs us)(h:sp (vs++dvs) H Q E):wpAny (model X.prog X.w) X.A (call (.ref f) us) (EP X pins j Q) X.xe s:=by
 have o:=r.append hd;have hl:(us++ds).length=ps.length:=by rw[<- o.length];exact F.len _ _ _ _ h
 refine Ja (Gs (F.run X.A X.stack s H ⟨us,[]⟩ (us++ds) (vs++dvs) Q E v I.env0 (B s us I.kIn hl) o h) λr D g=>?_);cases r with
 |error e=>exact C pins j H s e D I g
 |ok fl =>
  cases fl with
  |ret u=>exact I.after g
  |next=>exact False.elim g
  |brk=>exact False.elim g
  |cont=>exact False.elim g
def x8i(F:FnOk X.prog X.w X.K X.mg X.base CX k f fd ps sp)(v:Room k X.A)(B:Gl X x)(C:X.mg x=some (.ref f))(hk:Fy X.K (.ref f)=true)(D:Binds X.K fd ps ds)(hd:Vals dvs ds)(G:Passes CX X E)(ha:PA X (e::es) t)(j:(x==("__debug__" : Str))=false:=by decide)(J:Bd (e::es) X.env=(false,eval e X.env)::Bd es X.env:=by rfl)(o:(El pos (Bd es X.env)).any (·.1)=false:=by rfl):
  PE X (.Call (.Name x p) (e::es) [] pos) (tCall sp dvs E t):=by
 intro g s L H Q I h;refine Gk (q3c I B C ?_ j);refine Nt I.ok.mod.kin hk (thn (ha pos g s L H _ I h) λM O ⟨vs,P,u,r,q⟩=>⟨u.kIn,?_⟩) J o;exact z6b F v D hd G u r q
def x3q(F:FnOk X.prog X.w X.K X.mg X.base CX k f fd ps sp)(o:Room k X.A)(u:Gl X x)(v:X.mg x=some (.ref f))(hk:Fy X.K (.ref f)=true)(B:Binds X.K fd ps ds)(hd:Vals dvs ds)(C:Passes CX X E)(g:(x==("__debug__" : Str))=false:=by decide):PE X (.Call (.Name x p) [] [] pos) (tCall sp dvs E tNil):=by
 intro j s D H Q I h;refine Gk (q3c I u v ?_ g);exact W.callWith_K0 I.kIn hk (z6b F o B hd C I .nil h)
def x8j{M}(O:PE X o ta)(c:Cls X.K C)(B:Meth X.K C m f)(F:FnOk X.prog X.w X.K X.mg X.base CX k f fd ps sp)(P:Room k X.A)(R:Binds X.K fd ps ds)(hd:Vals dvs ds)(S:Passes CX X E)(ha:PA X (e::es) t)(j:Bd (e::es) X.env=(false,eval e X.env)::Bd es X.env:=by rfl)(v:(El pos (Bd es X.env)).any (·.1)=false:=by rfl)(T:eval (.Call (.Attribute o m apos) (e::es) [] pos) X.env=(do
   let D<-eval o X.env
   Kq apos.atName
   let (f,first)<-Jl [D] (Nc D m M)
   Ud pos f first (El pos (Bd (e::es) X.env)) (Jy pos (Hj [] X.env))):=by rfl):
  PE X (.Call (.Attribute o m apos) (e::es) [] pos) (tMeth C m sp dvs E ta t):=by
 intro g s G H Q I h;refine Rz (thnE (O g s G H _ I h) λu U x W J Y Z=>?_) T;obtain⟨a,dx,fs,ex,ea,l,q⟩:=Z;subst ex;obtain rfl:u=Value.ref a:=Y;refine q8w J ea c B l ?_;refine Nt I.ok.mod.kin B.kp (thn (ha pos g U G W _ J q) λus s2 ⟨vs,H2,L,r,q2⟩=>⟨L.kIn,?_⟩) j v;exact z6b (vs:=.ref a::vs) F P R hd S L (.cons rfl r) q2
def x3r(D:PE X o ta)(c:Cls X.K C)(v:Meth X.K C m f)(F:FnOk X.prog X.w X.K X.mg X.base CX k f fd ps sp)(G:Room k X.A)(J:Binds X.K fd ps ds)(hd:Vals dvs ds)(L:Passes CX X E)(M:eval (.Call (.Attribute o m apos) [] [] pos) X.env=(do
   let B<-eval o X.env
   Kq apos.atName
   let (f,first)<-Jl [B] (Nc B m pl)
   Ud pos f first (El pos (Bd [] X.env)) (Jy pos (Hj [] X.env))):=by rfl):
  PE X (.Call (.Attribute o m apos) [] [] pos) (tMeth C m sp dvs E ta tNil):=by
 intro g s O H Q I h;refine Rz (thnE (D g s O H _ I h) λu T x U j P R=>?_) M;obtain⟨a,Y,fs,ex,S,l,q⟩:=R;subst ex;obtain rfl:u=Value.ref a:=P;refine q8w j S c v l ?_;exact W.callWith_K0 j.kIn v.kp (z6b (vs:=[.ref a]) F G J hd L j (.cons rfl .nil) q)
structure Mk (K) (C f):Prop where
 makes:Ye K C=true
 init:Ck K (.ref C) "__init__" = some (some (.ref f))
 fn:Xk K (.ref f)=true
 kp:Fy K (.ref C)=true
def x3s{B:St}(M:Mk X.K C f)(F:FnOk X.prog X.w X.K X.mg X.base CX k f fd ps sp)(J:Room (k+1) X.A)(L:Binds X.K fd ps ds)(hd:Vals dvs ds)(O:Passes CX X E)(I:Inv X pins B H s)(r:Vals vs us)(h:∀x j,H x=none->H j=none->j≠x->sp (.ref x::(vs++dvs)) (upd (upd H j (.own x)) x (.ins C j [])) (λv P=>v=.non/\Q (.ref x) P) E):
  wpAny (model X.prog X.w) X.A (call (.ref C) us) (EP X pins B Q) X.xe s:=by
 have D:=h (s.heap.objs.size+1) s.heap.objs.size (I.hok.fresh (Kr _)) (I.hok.fresh (Aj _)) (Bl (Jx _));have o:=Inv.made (C:=C) I;have G:Vals (V.ref (s.heap.objs.size+1)::(vs++dvs)) (Value.ref (s.heap.objs.size+1)::(us++ds)):=.cons rfl (r.append hd);have hl:(Value.ref (s.heap.objs.size+1)::us++ds).length=ps.length:=by
  have e:=G.length;rw[F.len _ _ _ _ D] at e;exact e.symm
 refine Ja (x3p I.kIn M.makes M.init (beq_iff_eq.mp M.fn) (Gs (F.run _ X.stack _ _ ⟨Value.ref (s.heap.objs.size+1)::us,[]⟩ (Value.ref (s.heap.objs.size+1)::(us++ds)) _ _ E (J.make C us [])
  (o.env0.make C us []) (L _ (Value.ref (s.heap.objs.size+1)::us) o.kIn hl) G D) λr R g=>?_))
 cases r with
 |error e=>exact O pins B _ _ e R o g
 |ok fl =>
  cases fl with
  |ret u =>
   obtain⟨v,S,T,U,W,Y⟩:=o.after g;subst W;exact⟨U,⟨V.ref (s.heap.objs.size+1),S,T,rfl,Y⟩⟩
  |next=>exact False.elim g
  |brk=>exact False.elim g
  |cont=>exact False.elim g
def x8k(M:Mk X.K C f)(F:FnOk X.prog X.w X.K X.mg X.base CX k f fd ps sp)(v:Room (k+1) X.A)(B:Gl X x)(D:X.mg x=some (.ref C))(G:Binds X.K fd ps ds)(hd:Vals dvs ds)(J:Passes CX X E)(ha:PA X (e::es) t)(j:(x==("__debug__" : Str))=false:=by decide)(L:Bd (e::es) X.env=(false,eval e X.env)::Bd es X.env:=by rfl)(o:(El pos (Bd es X.env)).any (·.1)=false:=by rfl):
  PE X (.Call (.Name x p) (e::es) [] pos) (tMake C sp dvs E t):=by
 intro g s O H Q I h;refine Gk (q3c I B D ?_ j);refine Nt I.ok.mod.kin M.kp (thn (ha pos g s O H _ I h) λP R ⟨vs,S,u,r,q⟩=>⟨u.kIn,?_⟩) L o;exact x3s M F v G hd J u r q
end
structure FnScope (N P:List Str) (sc:Scope):Prop where
 kind:sc.kind=.function
 co:sc.isCoroutine=false
 gen:sc.isGenerator=false
 nd:N.Nodup
 pre:N.take P.length=P
 par:∀x∈P,sc.names.lookup x=some .local\/sc.names.lookup x=some .cell
 nofree:∀y∈sc.names,y.2≠.free
theorem z1y:∀{binds} {m},(∀v,(x,v)∉binds)->bindL f binds m x=m x
 |[],_,_=>rfl
 |(n,v)::r,m,h=>by
  unfold bindL;rw[z1y λw g=>h w (Ak _ g)];split
  ·have:x≠n:=by rintro rfl;exact h v Al
   simp[this]
  ·rfl
theorem z1z:∀{binds} {m},(∀v,(x,v)∉binds)->bindC f binds m x=m x
 |[],_,_=>rfl
 |(n,v)::r,m,h=>by
  unfold bindC;rw[z1z λw g=>h w (Ak _ g)];split
  ·rfl
  ·have:x≠n:=by rintro rfl;exact h v Al
   simp[this]
theorem z2a:∀{P:List Str} {vs} {i:Nat} {m},P.Nodup->P[i]?=some x->vs[i]?=some v->f x=some .local ->
  bindL f (P.zip vs) m x=some v
 |[],_,_,_,_,h,_,_=>by simp at h
 |_::_,[],_,_,_,_,h,_=>by simp at h
 |p::P,w::vs,0,m,nd,h1,h2,hk=>by
  simp at h1 h2;subst h1;subst h2;show bindL f ((p,w)::P.zip vs) m p=_;unfold bindL;rw[z1y λv g=>(Eu.mp nd).1 (Sa g).1,if_pos hk];simp
 |p::P,w::vs,i+1,m,nd,h1,h2,hk=>by
  show bindL f ((p,w)::P.zip vs) m x=_;unfold bindL;exact z2a (i:=i) (Eu.mp nd).2 (by simpa using h1) (by simpa using h2) hk
theorem z2b:∀{P:List Str} {vs} {i:Nat} {m},P.Nodup->P[i]?=some x->vs[i]?=some v->f x≠some .local ->
  bindC f (P.zip vs) m x=some v
 |[],_,_,_,_,h,_,_=>by simp at h
 |_::_,[],_,_,_,_,h,_=>by simp at h
 |p::P,w::vs,0,m,nd,h1,h2,hk=>by
  simp at h1 h2;subst h1;subst h2;show bindC f ((p,w)::P.zip vs) m p=_;unfold bindC;rw[z1z λv g=>(Eu.mp nd).1 (Sa g).1,if_neg hk];simp
 |p::P,w::vs,i+1,m,nd,h1,h2,hk=>by
  show bindC f ((p,w)::P.zip vs) m x=_;unfold bindC;exact z2b (i:=i) (Eu.mp nd).2 (by simpa using h1) (by simpa using h2) hk
noncomputable def start(N:List Str)(vs:List V):St:=vs.map some++List.replicate (N.length-vs.length) none
noncomputable def cxOf(CX:CXT)(P:Aq)(w:World)(K:Ai)(mg:Str->Option Value)(base:Heap)(N:List Str)(qual:Str)(scope:Scope)(f:Addr)(cd:Value)(A:Around)(outer:List Env)(s:Ah)(H:Hp)(E:XK):Cx where
 prog:=P
 w:=w
 K:=K
 mg:=mg
 base:=base
 A:=A.deeper (Hy qual scope s.heap.objs.size f cd)
 N:=N
 s₀:=s
 H₀:=H
 env:=Hy qual scope s.heap.objs.size f cd
 outer:=outer
 stack:=Hy qual scope s.heap.objs.size f cd::outer
 ex:=[]
 calm:=true
 fn:=λ_=>true
 pn:=[]
 xe:=λe s'=>wpAny (model P w) (A.deeper (Hy qual scope s.heap.objs.size f cd)) (leaving (Hy qual scope s.heap.objs.size f cd) e) (λ_ s''=>CX outer H s E e s'') (λe' s''=>CX outer H s E e' s'') s'
def z6c{sc:Scope}(h:sc.names.lookup x=some .cell):∃c,(cellsFrom n sc.names []).lookup x=some c:=by
 have q:=Wx sc.names n [] (.inl h);exact Lj.mp q
def z9j{K}(S:FnScope N ps scope)(hd:A.handled=none)(g:Env0 P w K mg base A outer s H)(hl:vs.length=ps.length)(r:Vals vs us)(x:InCallC s s.heap.objs.size (bindL (Hy qual scope s.heap.objs.size f cd).kindOf (ps.zip us) λ_=>none) (cellsFrom (s.heap.objs.size+1) scope.names []) (bindC (Hy qual scope s.heap.objs.size f cd).kindOf (ps.zip us) λ_=>none) s1):
  Inv (cxOf CX P w K mg base N qual scope f cd A outer s H E) [] (start N vs) H s1:=by
 have J:ps.length<=N.length:=by have:=congrArg List.length S.pre;rw[Cg] at this;lia
 obtain⟨F,tk,rfl,hk⟩:=x.done;have o:∀b:Addr,b∉(cxOf CX P w K mg base N qual scope f cd A outer s H E).ex:=λb z=>absurd (show b∈([]:List Addr) from z) (by simp)
 refine⟨⟨g.mod,S.kind,rfl,rfl,Aj _,λy z c F j=>?_,λy B=>?_,λy c _ h=>?_,λ_=>hd,Around.frames_deeper g.frames,.inr ⟨rfl,rfl⟩,λb z=>absurd z (o b),g.bs,g.bsz,λb _ _=>o b,λb z=>absurd z (o b),g.funs,g.frf⟩,
  rfl,g.bare,Un.kept hk,⟨_,x.toInCall.ns,λi y v F j M=>?_⟩,λy c h=>⟨_,x.cell y c h⟩,g.hok.fresh (Aj _),λy c h=>?_,λp C=>absurd (show p∈([]:List (Addr×Obj)) from C) (by simp),g.hok.kept hk,?_⟩
 ·exact name_of_addr x.apart (Ga F) (Ga j)
 ·have B:scope.names.lookup y=some .cell\/scope.names.lookup y=some .free:=B;rcases B with B|B
  ·exact z6c B
  ·exact absurd rfl (S.nofree _ (Ga B))
 ·exact Jk (x.above y c (Ga h))
 ·have G:i<vs.length:=by
   unfold start at j;by_cases G:i<vs.length
   ·exact G
   ·rw[Dx (by simpa using G)] at j;rw[List.getElem?_replicate] at j;split at j<;>cases j
  have ha:vs[i]?=some v:=by
   unfold start at j;rw[Er (by simpa using G),Be] at j;cases e:vs[i]? with
   |none=>simp_all
   |some a=>grind
  obtain⟨u,I,L⟩:=r.get ha;have C:ps[i]?=some y:=by
   rw[<- S.pre,List.getElem?_take_of_lt (by lia)];exact F
  have D:ps.Nodup:=by rw[<- S.pre];exact S.nd.sublist (Wa _ _)
  refine⟨u,L,?_⟩;rcases S.par y (Ar C) with k|k
  ·exact .inl ⟨k,z2a D C I k⟩
  ·obtain⟨c,e⟩:=z6c k;refine .inr ⟨.inl k,c,e,?_⟩;have q:=x.cell y c e;rw[z2b D C I (by show scope.names.lookup y≠_;rw[k];decide)] at q;exact q
 ·exact g.hok.fresh (Jk (x.above y c (Ga h)))
 ·unfold start;show _=N.length;rw[Af,Ae,Nd];lia
def x8l{K}{kV}(Y:K.lookup f=some ⟨oc,od,.func (Ij name qual params body scope dV kV doc pm an cdv ct),osl⟩)(G:Lk K cdv qual=true)(S:FnScope N ps scope)(len:∀vs H Q E,sp vs H Q E->vs.length=ps.length)(h:∀ A   outer   s   H   vs   Q   E ,Room k (A.deeper (Hy qual scope s.heap.objs.size f cdv))->sp vs H Q E ->
   ∃t,PSs (cxOf CX P w K mg base N qual scope f cdv A outer s H E) body t/\t { nx:=λ_ H'=>Q .non H',rt:=Q } (start N vs) H):
  FnOk P w K mg base CX (k+1) f (Ij name qual params body scope dV kV doc pm an cdv ct) ps sp:=by
 refine⟨len,λA outer s H T Z vs Q E L C hb r D=>?_⟩;have hl:=len _ _ _ _ D;have U:=C.mod.kin.keeps λb o e=>(C.bs b o e).1;have M:=C.mod.nolimit.keeps λb o e=>(C.bs b o e).1;have j:∀y∈ps.zip Z,scope.names.lookup y.1=some .local\/(scope.names.lookup y.1=some .cell/\((cellsFrom (s.heap.objs.size+1) scope.names []).lookup y.1).isSome=true):=λ⟨n,v⟩ hy=>by
  rcases S.par n (Sa hy).1 with q|q
  ·exact .inl q
  ·exact .inr ⟨q,Wx _ _ _ (.inl q)⟩
 refine codeAny_call_function L.depth (U _ _ Y) rfl S.co S.gen rfl (W.codeRec_of U G) (hb _ _ _ _ ?_);refine wpAny_newFunctionEnv_cells S.kind j λenv he X x=>?_;subst he;refine⟨M.keeps x.toInCall.keep,codeAny_func ?_⟩;obtain⟨t,ht,hq⟩:=h A outer s H vs Q E (L.deeper _) D;have I:Inv (cxOf CX P w K mg base N qual scope f cdv A outer s H E) [] (start N vs) H X:=z9j S L.hd C hl r x;refine Bs (ht [] X (start N vs) H _ I hq) (λfl O B=>?_) λe O B=>B;have F:∀{g:St} {H':Hp} {v:V} {u:Value},Inv (cxOf CX P w K mg base N qual scope f cdv A outer s H E) [] g H' O->RelV v u->Q v H'->CE outer P w H s Q u O :=
  λ{g H' v u} J R q=>⟨v,H',J.os,J.bare,J.base,J.hok,R,q⟩
 cases fl with
 |ret u =>
  obtain⟨v,g,H',J,R,q⟩:=B;exact F J R q
 |next =>
  obtain⟨g,H',J,q⟩:=B;exact F (v:=V.non) J rfl q
 |brk =>
  obtain⟨_,_,_,q⟩:=B;exact False.elim q
 |cont =>
  obtain⟨_,_,_,q⟩:=B;exact False.elim q
section
variable{X:Cx}{x:Str}{p pos:Pos}{e:Expr}{es:List Expr}{t:TA}{id T:String}{r:List V->Hp->VK->Prop}
noncomputable def tCB(r:List V->Hp->VK->Prop)(t:TA):TE:=λσ H Q=>t σ H λvs H1=>r vs H1 Q
def q0r(u:CallR X (.builtin id) r)(v:Gl X x)(B:X.mg x=none)(C:Ho x=some (.builtin id))(ha:PA X (e::es) t)(hn:x ≠ "__name__" := by decide)(g:(x==("__debug__" : Str))=false:=by decide)(D:Bd (e::es) X.env=(false,eval e X.env)::Bd es X.env:=by rfl)(j:(El pos (Bd es X.env)).any (·.1)=false:=by rfl):PE X (.Call (.Name x p) (e::es) [] pos) (tCB r t):=by
 intro f s o H Q I h;refine Gk (q5z I v B C ?_ hn g);exact Nu (thn (ha pos f s o H _ I h) λE F ⟨vs,G,J,L,M⟩=>u f F o G vs E Q J L M) D j
def q1u(u:CallR X (.type T) r)(v:Gl X x)(B:X.mg x=none)(C:Ho x=some (.type T))(ha:PA X (e::es) t)(hn:x ≠ "__name__" := by decide)(g:(x==("__debug__" : Str))=false:=by decide)(D:Bd (e::es) X.env=(false,eval e X.env)::Bd es X.env:=by rfl)(j:(El pos (Bd es X.env)).any (·.1)=false:=by rfl):PE X (.Call (.Name x p) (e::es) [] pos) (tCB r t):=by
 intro f s o H Q I h;refine Gk (q5z I v B C ?_ hn g);exact Ei (thn (ha pos f s o H _ I h) λE F ⟨vs,G,J,L,M⟩=>u f F o G vs E Q J L M) D j
end
end L2
namespace HT
open PySem PyProof.Rows
section
variable{prog:Aq}{w:World}{A:Around}{E:Value->Ah->Prop}{s:Ah}
def cat_tup(J:IsTup s.heap t vs.toArray)(L:IsTup s.heap b ws.toArray)(D:vs≠[])(M:ws=[]->Q (.ref t) s)(O:ws≠[]->Q (.ref s.heap.objs.size) { s with heap:=s.heap.push { cls:=.type "tuple",data:=.seq (vs++ws).toArray } })(u:vs.length+ws.length<=sizeLine):wpAny (model prog w) A (Gr .Add (.ref t) (.ref b)) Q E s:=by
 obtain⟨⟨cls,F,data,G⟩,j,P,n,hd⟩:=id J;obtain⟨⟨H,g,v,h⟩,f,B,I,C⟩:=id L;subst P hd B C;have e:vs.toArray++ws.toArray=(vs++ws).toArray:=by simp
 by_cases o:ws=[]
 ·exact Vk ⟨_,j,rfl⟩ ⟨_,f,rfl⟩ Rb Um Mn Mc (Ll _ _)
   (tuple_addW1 t b vs.toArray ws.toArray n I F g G h (by simpa using D) (by simp[o])) ⟨j,f,M o⟩
 ·refine Vk ⟨_,j,rfl⟩ ⟨_,f,rfl⟩ Rb Um Mn Mc (Ll _ _)
   (tuple_addW2 t b vs.toArray ws.toArray n I F g G h (by simpa using D) (by simpa using o) (by rw[Bg,Bg];exact u)) ⟨j,f,?_⟩
  rw[e];exact O o
noncomputable def sIx(n d:Nat):Option Int->Nat
 |none=>d
 |some v=>if v<0 then(v+(n)).toNat else min v.toNat n
def z9k(v:Int)(n d:Nat):(if v<0 then max (v+(n)) 0 else min v (n))=((sIx n d (some v):Nat):Int):=by
 show(if v<0 then max (v+(n:Int)) 0 else min v (n:Int))=(((if v<0 then(v+(n:Int)).toNat else min v.toNat n):Nat):Int)
 by_cases f:v<0
 ·grind
 ·grind
def z7s(lo f)(n:Nat):Qr lo f 1 (n)=(((sIx n 0 lo:Nat):Int),((sIx n n f):Int)):=by
 refine Wv ?_ ?_
 ·cases lo with
  |none=>rfl
  |some v=>exact z9k v n 0
 ·cases f with
  |none=>rfl
  |some v=>exact z9k v n n
def z7t(i j:Nat):Ib (i) (j) 1=j-i:=by
 unfold Ib;have f:(1:Int)>0:=by lia
 simp only[f,if_true,Int.ediv_one];split<;>lia
def q8x(p:Mo v o)(h:Q o s):wpAny (model prog w) A (Ea.Slice.slicePartIndex v) Q E s:=by
 cases p with
 |none=>exact slicePart_none h
 |int i t=>exact slicePart_int h
def q3s{lo}{n:Nat}(j:s.heap.IsSliceOf sl vl vu .none)(o:Mo vl lo)(u:Mo vu hi)(h:Q (((sIx n 0 lo:Nat):Int),1,sIx n n hi-sIx n 0 lo) s):wpAny (model prog w) A (Ea.Slice.sliceApplied (.ref sl) (pure (n))) Q E s:=by
 obtain⟨os,f,v,g⟩:=id j;refine Ac (Ac (Br f g rfl (Ac (Br f g rfl (Ac (Br f g rfl (Ad ?_)))))));refine Ac (slicePart_none ?_);refine Ac (q8x o (Ac (q8x u (Ac (Ad ?_)))));show wpAny _ _ (match Qr lo hi 1 (n:Int) with|(lo,hi)=>pure (lo,(1:Int),Ib lo hi 1)) _ _ s;rw[z7s lo hi n];show wpAny _ _ (pure (((sIx n 0 lo:Nat):Int),(1:Int),Ib ((sIx n 0 lo:Nat):Int) ((sIx n n hi:Nat):Int) 1)) _ _ s;rw[z7t];exact Ad h
def x3t(xs:Array Value)(i k:Nat):((List.range k).filterMap λ(m:Nat)=>xs[((i:Int)+(m)*1).toNat]?).toArray=((xs.toList.drop i).take k).toArray:=by
 have e:(λ(m:Nat)=>xs[((i:Int)+(m:Int)*1).toNat]?)=λm=>xs[i+m]?:=by grind
 rw[e];have:=pick_run xs i k;rw[Vl] at this;have f:((λx=>xs[x]?)∘λx=>i+x)=λm=>xs[i+m]?:=rfl;rw[f] at this;rw[this]
def getItem_tuple_cut{lo}(g:IsTup s.heap t items)(B:s.heap.IsSliceOf sl vl vu .none)(C:Mo vl lo)(D:Mo vu hi)(H:¬(sIx items.size 0 lo=0/\sIx items.size items.size hi=items.size))(h:Q (.ref s.heap.objs.size) { s with heap:=s.heap.push { cls:=.type "tuple",data:=.seq ((items.toList.drop (sIx items.size 0 lo)).take (sIx items.size items.size hi-sIx items.size 0 lo)).toArray } })(F:items.size<=sizeLine):wpAny (model prog w) A (getItem (.ref t) (.ref sl)) Q E s:=by
 have f:sizeOk (.seq ((items.toList.drop (sIx items.size 0 lo)).take (sIx items.size items.size hi-sIx items.size 0 lo)).toArray):=by
  show((items.toList.drop (sIx items.size 0 lo)).take (sIx items.size items.size hi-sIx items.size 0 lo)).toArray.size<=sizeLine;rw[Bg,Cg,Ca,He];lia
 obtain⟨os,j,o,G⟩:=id B;have u:s.TypeIs (.ref sl) "slice" := ⟨os,j,o⟩
 unfold getItem;try with_reducible refine Dh ?_
 refine Ac (Wb g.typeIs (by decide) ?_);refine Ac (Cj g.typeIs Ej
  (Cb Ej g.typeIs entry_tuple_getitem ?_ (Vm _ _)))
 show wpAny _ _ (Ko (.ref t) >>= _) _ _ s;refine Ac (tupleItemsOf_ g ?_);refine Ac (Jn u ?_);refine Ac (q3s B C D ?_);have v:¬((((sIx items.size 0 lo:Nat):Int)==0&&(1:Int)==1&&(sIx items.size items.size hi-sIx items.size 0 lo)==items.size)=true):=by grind
 show wpAny _ _ (if (((sIx items.size 0 lo:Nat):Int)==0&&(1:Int)==1&&(sIx items.size items.size hi-sIx items.size 0 lo)==items.size)=true then _ else _) _ _ s;rw[if_neg v,x3t];first
  |exact Ac (Cf (Ad ⟨_,rfl,Ad h⟩) f)
  |exact Ac (Cf (Ac (Ad (Ad ⟨_,rfl,Ad h⟩))) f)
  |exact Ac (Ac (Cf (Ad (Ad ⟨_,rfl,Ad h⟩)) f))
  |exact Ac (Ac (Cf (Ad ⟨_,rfl,Ad h⟩) f))
end
end HT
namespace L2
open PySem PySem.Spec PyProof.Rows
noncomputable abbrev TO:=St->Hp->(Option Int->Hp->Prop)->Prop
noncomputable def PO(X:Cx)(e:Option Expr)(t:TO):Prop :=
 ∀ pins   s  (σ:St)  H   Q ,Inv X pins σ H s->t σ H Q ->
  wpAny (model X.prog X.w) X.A (evalPart e X.env) (λu s'=>∃o H',Inv X pins σ H' s'/\Mo u o/\Q o H') X.xe s
noncomputable def tNoPart:TO:=λ_ H Q=>Q none H
noncomputable def tPart(t:TE):TO:=λσ H Q=>t σ H λx H1=>∃i,x=.int i/\Q (some i) H1
section
variable{X:Cx}{e:Expr}{te:TE}{lo hi:Option Expr}{tl th:TO}{pos p2:Pos}
def q2h:PO X none tNoPart:=by
 intro f s g H Q I h;exact Ad ⟨none,H,I,.none,h⟩
def q1a(h:PE X e te):PO X (some e) (tPart te):=by
 intro f s g H Q I j;refine thnE (h f s g H _ I j) λu D x o v B C=>?_;obtain⟨i,rfl,q⟩:=C;obtain⟨t,rfl⟩:=B;exact⟨some i,o,v,.int i t,q⟩
noncomputable def SlR(X:Cx)(r:V->Option Int->Option Int->Hp->VK->Prop):Prop :=
 ∀ pins   s  (σ:St)  H   x  (v vl vu) (lo hi)  sl   Q ,Inv X pins σ H s->RelV x v->s.heap.IsSliceOf sl vl vu .none->Mo vl lo->Mo vu hi->r x lo hi H Q ->
  ∃T id,Ue (.type T) "__getitem__" = pure (some (.builtin id))/\s.TypeIs v T/\wpAny (model X.prog X.w) X.A (getItem v (.ref sl)) (EP X pins σ Q) X.xe s
def SlR.or(h:SlR X r)(h':SlR X r'):SlR X (λx lo g H Q=>r x lo g H Q\/r' x lo g H Q):=by
 intro f s j H x v o u lo g B Q I C D E F q;rcases q with q|q
 ·exact h f s j H x v o u lo g B Q I C D E F q
 ·exact h' f s j H x v o u lo g B Q I C D E F q
noncomputable def tSl(r:V->Option Int->Option Int->Hp->VK->Prop)(te:TE)(tl th:TO):TE:=λσ H Q=>te σ H λx H1=>tl σ H1 λl H2=>th σ H2 λu H3=>r x l u H3 Q
def q1d(D:SlR X r)(E:PE X e te)(hl:PO X lo tl)(F:PO X hi th):PE X (.Subscript e (.Slice lo hi none p2) pos) (tSl r te tl th):=by
 intro f s j H Q I h;refine Xl (thnE (E f s j H _ I h) λv G x J L M O=>?_);refine wpAny_Slice (thn (hl f G j J _ L O) λo P ⟨l,R,S,U,W⟩=>thn (F f P j R _ S W) λB g Y=>?_);obtain⟨u,C,Z,pu,q3⟩:=Y;refine Ad ?_;have I4:Inv X f j C { g with heap:=g.heap.push { cls:=.type "slice",data:=.fields #[o,B,.none] } }:=Z.kept (t':=g.toks) λb ob q=>Ag _ q;obtain⟨T,id,hT,ht,hg⟩:=D f { g with heap:=g.heap.push { cls:=.type "slice",data:=.fields #[o,B,.none] } } j C x v o B l u g.heap.objs.size Q I4 M (Heap.IsSliceOf.new ..) U pu q3;exact tail_any ht hT hg (by with_unfolding_all rfl)
noncomputable def cutV(xs:List V)(lo hi:Option Int):List V:=(xs.drop (HT.sIx xs.length 0 lo)).take (HT.sIx xs.length xs.length hi-HT.sIx xs.length 0 lo)
def q7b(xs)(lo f):(cutV xs lo f).length<=xs.length:=by
 unfold cutV;rw[Cg,Ca];lia
noncomputable def rSlT(K:Ai):V->Option Int->Option Int->Hp->VK->Prop:=λx lo hi H Q=>∃a xs,x=.ref a/\SqT K H a xs /\
 ¬(HT.sIx xs.length 0 lo=0/\HT.sIx xs.length xs.length hi=xs.length)/\∀p,H p=none->Q (.ref p) (upd H p (.tup (cutV xs lo hi)))
def x6r:SlR X (rSlT X.K):=by
 intro o s M H x v O P lo u R Q I D E F G h;obtain⟨a,g,rfl,J,L,q⟩:=h;cases D;obtain⟨j,r,B,C⟩:=I.tuple J;have f:j.toArray.size=g.length:=by rw[Bg];exact r.length.symm
 refine⟨"tuple",_,Ej.lookup,B.typeIs,?_⟩;refine HT.getItem_tuple_cut B E F G (by rw[f];exact L) ?_ (by rw[f];exact C);rw[f];refine⟨.ref s.heap.objs.size,_,I.laid (t':=s.toks) (λb S q=>Ag _ q) (Aj _) ?_,rfl,q _ (I.hok.fresh (Aj _))⟩;exact⟨Ay (q7b g lo u) C,_,(r.drop (HT.sIx g.length 0 lo)).take (HT.sIx g.length g.length u-HT.sIx g.length 0 lo),Yh _ _⟩
def Vals.nil_iff(r:Vals xs us):us=[]↔xs=[]:=by
 cases r with
 |nil=>simp
 |cons _ _=>simp
end
noncomputable def ixN(n:Nat)(i:Int):Option Nat:=if 0<=i then(if i<n then some i.toNat else none) else if -(n)<=i then some (i+n).toNat else none
noncomputable def atI{α:Type}(xs:List α)(i:Int):Option α:=(ixN xs.length i).bind λj=>xs[j]?
def z9l(h:ixN n i=some j):seqIndex? i n=some j/\j<n /\ -(n)<=i/\i<n:=by
 unfold ixN at h;by_cases g:0<=i
 ·rw[if_pos g] at h;by_cases f:i<n
  ·rw[if_pos f] at h;have e:=Co h;exact⟨by rw[Sj g f,e],by lia,by lia,f⟩
  ·grind
 ·rw[if_neg g] at h;by_cases f : -(n:Int)<=i
  ·rw[if_pos f] at h;have e:=Co h;exact⟨by rw[seqIndex_neg (by lia) f,e],by lia,f,by lia⟩
  ·grind
def q9r{xs:List α}(h:atI xs i=some v):∃j,seqIndex? i xs.length=some j/\xs[j]?=some v/\j<xs.length /\ -(xs.length:Int)<=i/\i<xs.length:=by
 unfold atI at h;cases e:ixN xs.length i with
 |none=>rw[e] at h;cases h
 |some j =>
  rw[e] at h;obtain⟨f,g,o,s⟩:=z9l e;exact⟨j,f,h,g,o,s⟩
def q1n{xs:List α}{j:Nat}(h:xs[j]?=some v):atI xs (j)=some v:=by
 have f:=(Ap.mp h).1;have e:ixN xs.length (j:Int)=some j:=by
  unfold ixN;rw[if_pos (by lia),if_pos (by lia)];simp
 unfold atI;rw[e];exact h
noncomputable def PlainIx(b:Expr):Prop:=∀o i,Sk b false o i=operate [o,i] (getItem o i)
noncomputable def IxR(X:Cx)(r:R2):Prop :=
 ∀(value slice)  pins   s  (σ:St)  H  (x y) (v u)  Q ,Inv X pins σ H s->RelV x v->RelV y u->r x y H Q ->
  Sk slice false v u=operate [v,u] (getItem v u)->wpAny (model X.prog X.w) X.A (subscriptTail value slice v u) (EP X pins σ Q) X.xe s
noncomputable def MtR(X:Cx)(id:String)(r:V->List V->Hp->VK->Prop):Prop :=
 ∀ pins   s  (σ:St)  H   x   xs   v   us   Q ,Inv X pins σ H s->RelV x v->Vals xs us->r x xs H Q ->
  wpAny (model X.prog X.w) X.A (call (.builtin id) (v::us)) (EP X pins σ Q) X.xe s
section
variable{X:Cx}{a b:Expr}{ta tb:TE}{pos:Pos}
def IxR.or(h:IxR X r)(h':IxR X r'):IxR X (λx y H Q=>r x y H Q\/r' x y H Q):=by
 intro f g j s o H x y v u Q I B C q D;rcases q with q|q
 ·exact h f g j s o H x y v u Q I B C q D
 ·exact h' f g j s o H x y v u Q I B C q D
def q0w(g:IxR X r)(ha:PE X a ta)(j:PE X b tb)(o:PlainIx b):PE X (.Subscript a b pos) (tOp r ta tb):=by
 intro f s B H Q I h;exact Xl (binT ha j I h λv u C x y D E F G q=>g a b f C B D x y v u Q E F G q (o _ _))
noncomputable def rIxL(K:Ai):R2:=λx y H Q=>∃p xs i v,x=.ref p/\y=.int i/\SqL K H p xs/\atI xs i=some v/\Q v H
noncomputable def rIxT(K:Ai):R2:=λx y H Q=>∃p xs i v,x=.ref p/\y=.int i/\SqT K H p xs/\atI xs i=some v/\Q v H
noncomputable def rIxS:R2:=λx y H Q=>∃z i c,x=.str z/\y=.int i/\z.length<=sizeLine/\atI z.cps.toList i=some c/\Q (.str ⟨#[c]⟩) H
def ix_list:IxR X (rIxL X.K):=by
 intro B C f s O H x y v u Q I P R h J;obtain⟨p,Z,i,z,rfl,rfl,S,T,q⟩:=h;cases P;obtain⟨t,rfl⟩:=R;obtain⟨D,r,E,hz⟩:=I.list S;obtain⟨j,o,U,h3,W,Y⟩:=q9r T;obtain⟨w,L,F⟩:=r.get U;have hl:=r.length;have hn:=line63;have g:EP X f O Q w s:=⟨z,H,I,F,q⟩
 by_cases M:0<=i
 ·have G:i.toNat=j:=by
   rw[Sj M Y] at o;exact Co o
  exact item_listR E.isList M (by lia) (by rw[G];simpa using L) g J
 ·have G:(i+(D.toArray.size:Int)).toNat=j:=by
   rw[seqIndex_neg (by lia) W] at o;rw[Bg,<- hl];exact Co o
  exact Sl E.isList.typeIs slot_list_getitem.lookup
   (Sm E.isList (by lia) (by rw[Bg]<;>lia) (by lia) (by rw[G];simpa using L) ⟨rfl,g⟩) J
def ix_tup:IxR X (rIxT X.K):=by
 intro g o f s E H x y v u Q I F G h J;obtain⟨p,T,i,z,rfl,rfl,L,M,q⟩:=h;cases F;obtain⟨t,rfl⟩:=G;obtain⟨O,r,D,U⟩:=I.tuple L;obtain⟨j,P,R,W,Y,Z⟩:=q9r M;obtain⟨w,S,B⟩:=r.get R;have hl:=r.length;have hn:=line63;have C:EP X f E Q w s:=⟨z,H,I,B,q⟩
 exact Sl D.typeIs slot_tuple_getitem.lookup
  (getItem_tuple D (by lia) (by lia) (by rw[Bg,<- hl];exact P) (by simpa using S) ⟨rfl,C⟩) J
def ix_str:IxR X rIxS:=by
 intro f g o s P H x y v u Q I C D h E;obtain⟨z,i,c,rfl,rfl,R,F,q⟩:=h;obtain⟨t,rfl⟩:=C;obtain⟨S,rfl⟩:=D;obtain⟨j,B,G,T,J,L⟩:=q9r F;have hl:z.cps.toList.length=z.length:=by simp[Str.length]
 rw[hl] at B J L;have hn:=line63;exact tail_any (Jb s z t) slot_str_getitem.lookup (getItem_str (by
  have M:decide (i < -(2^63:Int))=false:=decide_eq_false (by lia);have O:decide (i>=2^63)=false:=decide_eq_false (by lia);rw[M,O,Uo]) (by rw[B];simpa using G) ⟨.str ⟨#[c]⟩,H,I.tok _,⟨_,rfl⟩,q⟩) E
noncomputable def rIx(K:Ai):R2:=λx y H Q=>rIxL K x y H Q\/rIxT K x y H Q\/rIxS x y H Q
def ix_seq:IxR X (rIx X.K):=ix_list.or (ix_tup.or ix_str)
def z7u(f:List Value)(n j)(u):Hm (·.setIfInBounds j u) { cls:=.type "list",data:=.seq f.toArray n }={ cls:=.type "list",data:=.seq (f.set j u).toArray n }:=by
 simp[Hm]
def Inv.lst{j:St}(I:Inv X g j H s)(h:H p=some (.lst xs)):
  ∃(f:List Value) (n:Nat),Vals xs f/\s.heap.get? p=some { cls:=.type "list",data:=.seq f.toArray n }/\xs.length<=sizeLine:=by
 obtain⟨z,f,n,r,e⟩:=I.hok p _ h;exact⟨f,n,r,e,z⟩
def Inv.lstUpd{j:St}{g:List Value}(I:Inv X pins j H s)(h:H p=some (.lst xs))(v:s.heap.get? p=some { cls:=.type "list",data:=.seq g.toArray n })(o:f { cls:=.type "list",data:=.seq g.toArray n }={ cls:=.type "list",data:=.seq its'.toArray n' })(r:Vals ys its')(B:ys.length<=sizeLine)(t):
  Inv X pins j (upd H p (.lst ys)) { s with heap:=s.heap.update p f,toks:=t }:=by
 have e:(s.heap.update p f).get? p=some { cls:=.type "list",data:=.seq its'.toArray n' }:=by
  rw[Fo f v (by rw[o]<;>rfl),o]
 refine I.write (by rw[h];trivial) (.inl rfl) (λb u C q=>(Cm _ _ (Cp C)).trans q) ⟨_,e⟩ ?_;exact⟨B,its',n',r,e⟩
noncomputable def rSetL:V->V->V->Hp->(Hp->Prop)->Prop:=λo i v H Q=>∃p xs k j,o=.ref p/\i=.int k/\H p=some (.lst xs)/\ixN xs.length k=some j/\Q (upd H p (.lst (xs.set j v)))
def q6m:PSet X rSetL:=by
 intro f s J H o i v T U u Q I L M O h;obtain⟨p,P,k,j,rfl,rfl,D,R,q⟩:=h;cases L;obtain⟨t,rfl⟩:=M;obtain⟨g,n,r,C,S⟩:=I.lst D;obtain⟨B,Y,E,F⟩:=z9l R;have hl:=r.length;have hn:=line63;have I':Inv X f J (upd H p (.lst (P.set j v))) { s with heap:=s.heap.update p (Hm (·.setIfInBounds j u)) } :=
  I.lstUpd D C (z7u g n j u) (r.set O j) (by rw[List.length_set];exact S) s.toks
 by_cases G:0<=k
 ·have hk:k.toNat=j:=by
   rw[Sj G F] at B;exact Co B
  exact W.ki_setAt C G (by lia) (by rw[Bg,<- hl];exact F) (by rw[hk];exact⟨_,I',q⟩)
 ·have hk:(k+(g.toArray.size:Int)).toNat=j:=by
   rw[seqIndex_neg (by lia) E] at B;rw[Bg,<- hl];exact Co B
  exact W.ki_setBack C (by lia) (by rw[Bg,<- hl];exact E) (by lia) (by rw[hk];exact⟨_,I',q⟩)
def z2c(lo f)(n):(Ks lo f none n).1=((HT.sIx n 0 lo:Nat):Int)/\(Ks lo f none n).2.1=((HT.sIx n n f:Nat):Int)/\(Ks lo f none n).2.2=1:=by
 refine⟨?_,?_,rfl⟩
 ·cases lo with
  |none=>simp[Ks,HT.sIx]
  |some i =>
   simp only[Ks,HT.sIx,Wy,show(1:Int)>0 by decide,if_true];by_cases h:i<0
   ·simp only[h,if_true]<;>lia
   ·simp only[h,if_false]<;>lia
 ·cases f with
  |none=>simp[Ks,HT.sIx]
  |some i =>
   simp only[Ks,HT.sIx,Wy,show(1:Int)>0 by decide,if_true];by_cases h:i<0
   ·simp only[h,if_true]<;>lia
   ·simp only[h,if_false]<;>lia
def q9s(f:List Value)(lo g):slicePick f.toArray lo g none=((f.drop (HT.sIx f.length 0 lo)).take (HT.sIx f.length f.length g-HT.sIx f.length 0 lo)).toArray:=by
 obtain⟨h,j,o⟩:=z2c lo g f.toArray.size;unfold slicePick;rw[h,j,o];simp only[sliceRange_one,pick_run,Bg]<;>rfl
noncomputable def rSlL(K:Ai):V->Option Int->Option Int->Hp->VK->Prop:=λx lo hi H Q=>∃a xs,x=.ref a/\SqL K H a xs/\∀p,H p=none->Q (.ref p) (upd H p (.lst (cutV xs lo hi)))
def sl_list:SlR X (rSlL X.K):=by
 intro j s L H x v M O lo o P Q I B C D E h;obtain⟨a,f,rfl,F,q⟩:=h;cases B;obtain⟨G,r,u,J⟩:=I.list F;have g:=r.length;refine⟨"list",_,slot_list_getitem.lookup,u.isList.typeIs,?_⟩;refine wpAny_getItem_list_slice u.isList C D E .none (by simp) ?_ (by rw[Bg]<;>lia);rw[q9s,<- g];refine⟨.ref s.heap.objs.size,_,I.laid (t':=s.toks) (λb R q=>Ag _ q) (Aj _) ?_,rfl,q _ (I.hok.fresh (Aj _))⟩;exact⟨Ay (q7b f lo o) J,_,0,(r.drop (HT.sIx f.length 0 lo)).take (HT.sIx f.length f.length o-HT.sIx f.length 0 lo),Aw _ rfl⟩
noncomputable def flatV:V->Bool
 |.non=>true
 |.bl _=>true
 |.int _=>true
 |.str _=>true
 |_=>false
noncomputable def eqV:V->V->Bool
 |.non,.non=>true
 |.bl a,.bl b=>a==b
 |.bl a,.int b=>(if a then 1 else 0)==b
 |.int a,.bl b=>a==(if b then 1 else 0)
 |.int a,.int b=>a==b
 |.str a,.str b=>a==b
 |_,_=>false
def eqAt_V(h:RelV y u)(f:RelV x v)(o:flatV y=true)(j:flatV x=true):Fm A s u v (eqV y x):=by
 cases y with
 |non =>
  cases h;cases x with
  |non=>cases f;exact Xm _
  |bl b=>cases f;exact Fm.none_bool b
  |int b=>obtain⟨t,rfl⟩:=f;exact Fm.none_int b t
  |str b=>obtain⟨t,rfl⟩:=f;exact Fm.none_str b t
  |_=>exact absurd (show false=true from j) Bm
 |bl a =>
  cases h;cases x with
  |non=>cases f;exact Fm.bool_none a
  |bl b=>cases f;exact Fm.bool_bool a b
  |int b=>obtain⟨t,rfl⟩:=f;exact Fm.bool_int a b t
  |str b=>obtain⟨t,rfl⟩:=f;exact Fm.bool_str a b t
  |_=>exact absurd (show false=true from j) Bm
 |int a =>
  obtain⟨g,rfl⟩:=h;cases x with
  |non=>cases f;exact Fm.int_none a g
  |bl b=>cases f;exact Fm.int_bool a g b
  |int b=>obtain⟨t,rfl⟩:=f;exact Fm.int_int a g b t
  |str b=>obtain⟨t,rfl⟩:=f;exact Va a g b t
  |_=>exact absurd (show false=true from j) Bm
 |str a =>
  obtain⟨g,rfl⟩:=h;cases x with
  |non=>cases f;exact Fm.str_none a g
  |bl b=>cases f;exact Fm.str_bool a g b
  |int b=>obtain⟨t,rfl⟩:=f;exact Vb a g b t
  |str b=>obtain⟨t,rfl⟩:=f;exact Vn a g b t
  |_=>exact absurd (show false=true from j) Bm
 |_=>exact absurd (show false=true from o) Bm
noncomputable def eqU(x:V)(u:Value):Bool:=match u with
 |.none=>eqV .non x
 |.bool b=>eqV (.bl b) x
 |.int i _=>eqV (.int i) x
 |.str z _=>eqV (.str z) x
 |_=>false
def x6s(r:RelV y u)(f:flatV y=true):eqU x u=eqV y x:=by
 cases y with
 |non=>cases r;rfl
 |bl b=>cases r;rfl
 |int i=>obtain⟨t,rfl⟩:=r;rfl
 |str z=>obtain⟨t,rfl⟩:=r;rfl
 |_=>exact absurd (show false=true from f) Bm
theorem q7c:∀{xs} {us},Vals xs us->xs.all flatV=true->us.any (eqU x)=xs.any λy=>eqV y x
 |_,_,.nil,_=>rfl
 |y::xs,u::us,.cons r t,f=>by
  rw[List.all_cons,Jz] at f;rw[Qd,Qd,x6s r f.1,q7c t f.2]
theorem q5i(h:RelV x v)(j:flatV x=true):∀{xs} {us},Vals xs us->xs.all flatV=true->∀u∈us,Fm A s u v (eqU x u)
 |_,_,.nil,_=>λu g=>by cases g
 |y::xs,u::us,.cons r t,f=>λo g=>by
  rw[List.all_cons,Jz] at f;rcases Av.mp g with rfl|g
  ·rw[x6s r f.1];exact eqAt_V r h f.1 j
  ·exact q5i h j t f.2 o g
noncomputable def inV(x:V)(xs:List V):Bool:=xs.any λy=>eqV y x
noncomputable def rIn(K:Ai)(neg:Bool):R2:=λx y H Q=>∃p xs,y=.ref p/\(SqL K H p xs\/SqT K H p xs)/\flatV x=true/\xs.all flatV=true/\Q (.bl (if neg then !inV x xs else inV x xs)) H
def z9m:OpR X (Cz .In) (rIn X.K false):=by
 intro B s G H x y v u Q I C E h;obtain⟨p,J,rfl,g,D,fs,q⟩:=h;cases E;rcases g with g|g
 ·obtain⟨f,r,j,F⟩:=I.list g;refine SeqAt.in_listAt (eqU x) j.isList (λw o=>q5i C D r fs w (by simpa using o)) ⟨.bl _,H,I,rfl,?_⟩;rw[show f.toArray.any (eqU x)=f.any (eqU x) by simp,q7c r fs];exact q
 ·obtain⟨f,r,j,F⟩:=I.tuple g;refine SeqAt.in_tupleAt (eqU x) j (λw o=>q5i C D r fs w (by simpa using o)) ⟨.bl _,H,I,rfl,?_⟩;rw[show f.toArray.any (eqU x)=f.any (eqU x) by simp,q7c r fs];exact q
def z2d:OpR X (Cz .NotIn) (rIn X.K true):=by
 intro B s G H x y v u Q I C E h;obtain⟨p,J,rfl,g,D,fs,q⟩:=h;cases E;rcases g with g|g
 ·obtain⟨f,r,j,F⟩:=I.list g;refine SeqAt.notIn_listAt (eqU x) j.isList (λw o=>q5i C D r fs w (by simpa using o)) ⟨.bl _,H,I,rfl,?_⟩;rw[show f.toArray.any (eqU x)=f.any (eqU x) by simp,q7c r fs];exact q
 ·obtain⟨f,r,j,F⟩:=I.tuple g;refine SeqAt.notIn_tupleAt (eqU x) j (λw o=>q5i C D r fs w (by simpa using o)) ⟨.bl _,H,I,rfl,?_⟩;rw[show f.toArray.any (eqU x)=f.any (eqU x) by simp,q7c r fs];exact q
def op_notIn_str:OpR X (Cz .NotIn) (λx y H Q=>∃i j,x=.str i/\y=.str j/\Q (.bl (!(!(Ex j i 0 j.length 1).isEmpty))) H):=by
 intro f s B H x y v u Q I g o h;obtain⟨i,j,rfl,rfl,q⟩:=h;obtain⟨t,rfl⟩:=g;obtain⟨C,rfl⟩:=o;exact notIn_str ⟨.bl _,H,I,rfl,q⟩
def CallR.or(h:CallR X f r)(h':CallR X f r'):CallR X f (λxs H Q=>r xs H Q\/r' xs H Q):=by
 intro g s j H xs o Q I u q;rcases q with q|q
 ·exact h g s j H xs o Q I u q
 ·exact h' g s j H xs o Q I u q
def z2e:CallR X (.type "list") (λxs H Q=>∃p ys,xs=[.ref p]/\(SqL X.K H p ys\/SqT X.K H p ys)/\∀l,H l=none->Q (.ref l) (upd H l (.lst ys))):=by
 intro B s O H xs R Q I r h;obtain⟨p,ys,rfl,C,q⟩:=h;obtain⟨u,rfl,P⟩:=vals1 r;cases P;have D:∀(f:List Value),Vals ys f->ys.length<=sizeLine->∀(g:Heap) (j:Nat),(∀b M,s.heap.get? b=some M->g.get? b=some M) ->
   g.get? s.heap.objs.size=some { cls:=.type "list",dict:=none,data:=.seq f.toArray j,slots:=#[] }->EP X B O Q (.ref s.heap.objs.size) { s with heap:=g }:=λf v E g j kp e =>
  ⟨.ref s.heap.objs.size,_,I.laid (t':=s.toks) kp (Aj _) (show ObjOk X.prog X.w _ g _ (.lst ys) from⟨E,f,j,v,e⟩),rfl,q _ (I.hok.fresh (Aj _))⟩
 rcases C with C|C
 ·obtain⟨f,v,G,E⟩:=I.list C;have F:=v.length;obtain⟨o,J,L,n,hd⟩:=G.isList;exact call_list_seq p (.inl rfl) J L hd (λg j kp e=>D f v E g j kp e) (by simp only[Bg]<;>lia)
 ·obtain⟨f,v,G,E⟩:=I.tuple C;have F:=v.length;obtain⟨o,J,L,n,hd⟩:=G;exact call_list_seq p (.inr rfl) J L hd (λg j kp e=>D f v E g j kp e) (by simp only[Bg]<;>lia)
def q9t:CallR X (.type "tuple") (λxs H Q=>∃p ys,xs=[.ref p]/\((SqL X.K H p ys/\∀l,H l=none->Q (.ref l) (upd H l (.tup ys)))\/(SqT X.K H p ys/\Q (.ref p) H))):=by
 intro f s D H xs M Q I r h;obtain⟨p,ys,rfl,h⟩:=h;obtain⟨u,rfl,J⟩:=vals1 r;cases J;rcases h with⟨v,q⟩|⟨v,q⟩
 ·obtain⟨g,B,C,E⟩:=I.list v;have F:=B.length;refine call_tuple_list C.isList (λj kp=>?_) (by simp only[Bg]<;>lia);have G:Inv X f D H { s with heap:=j }:=I.kept (t':=s.toks) kp;have L:Inv X f D (upd H j.objs.size (.tup ys)) { s with heap:=j.push { cls:=.type "tuple",data:=.seq g.toArray } } :=
   G.laid (t':=s.toks) (λb o e=>Ag _ e) (Aj _) (show ObjOk X.prog X.w _ _ _ (.tup ys) from⟨E,g,B,Yh _ _⟩)
  exact⟨.ref j.objs.size,_,L,rfl,q _ (G.hok.fresh (Aj _))⟩
 ·obtain⟨g,B,C,E⟩:=I.tuple v;exact call_tuple_same C ⟨.ref p,H,I,rfl,q⟩
noncomputable def tyV(K:Ai)(T:String)(x:V)(H:Hp):Prop:=match x with
 |.str _=>T = "str"
 |.int _=>T = "int"
 |.ref p=>(T = "list" /\ ∃xs,SqL K H p xs)\/(T = "tuple" /\ ∃o,K.lookup p=some o/\o.cls=.type "tuple" /\ o.dict=none) \/
   (T = "dict" /\ ((∃kvs,H p=some (.dK kvs))\/∃kvs,H p=some (.dT kvs)))\/(T = "set" /\ ∃S n,H p=some (.set S n))
 |_=>False
def x6t{B:St}(I:Inv X pins B H s)(r:RelV x v)(f:tyV X.K T x H):
  s.TypeIs v T/\∀a,v=.ref a->∃j,s.heap.get? a=some j/\j.dict=none:=by
 cases x with
 |str z =>
  obtain⟨t,rfl⟩:=r;cases(show T = "str" from f);exact⟨Jb s z t,λ_ e=>nomatch e⟩
 |int i =>
  obtain⟨t,rfl⟩:=r;cases(show T = "int" from f);exact⟨Xn s i t,λ_ e=>nomatch e⟩
 |ref p =>
  cases r;rcases f with⟨rfl,F,C⟩|⟨rfl,o,hk,D,hd⟩|⟨rfl,hk⟩|⟨rfl,S,n,hk⟩
  ·obtain⟨E,_,u,_⟩:=I.list C;refine⟨u.isList.typeIs,λa e=>?_⟩;cases e;obtain⟨o,n,e,c,hd,_⟩:=u;exact⟨o,e,hd⟩
  ·refine⟨⟨o,I.kIn p o hk,D⟩,λa e=>?_⟩;cases e;exact⟨o,I.kIn _ o hk,hd⟩
  ·have z:∃o,s.heap.get? p=some o/\o.ExactDict:=by
    rcases hk with⟨g,hk⟩|⟨g,hk⟩
    ·obtain⟨_,_,_,_,o,_,_,e,ex,_⟩:=I.hok p _ hk;exact⟨o,e,ex⟩
    ·obtain⟨_,_,_,_,o,_,_,e,ex,_⟩:=I.hok p _ hk;exact⟨o,e,ex⟩
   obtain⟨o,e,ex⟩:=z;refine⟨⟨o,e,ex.1⟩,λa h=>?_⟩;cases h;exact⟨o,e,ex.2.1⟩
  ·obtain⟨o,_,_,_,e,ex,_⟩:=I.hok p _ hk;refine⟨⟨o,e,ex.1⟩,λa h=>?_⟩;cases h;exact⟨o,e,ex.2.1⟩
 |_=>exact False.elim f
noncomputable def tBM0(K:Ai)(T:String)(r:V->List V->Hp->VK->Prop)(to:TE):TE:=λσ H Q=>to σ H λx H1=>tyV K T x H1/\r x [] H1 Q
noncomputable def tBM(K:Ai)(T:String)(r:V->List V->Hp->VK->Prop)(to:TE)(t:TA):TE:=λσ H Q=>to σ H λx H1=>tyV K T x H1/\t σ H1 λxs H2=>r x xs H2 Q
variable{o e:Expr}{es:List Expr}{to:TE}{t:TA}{name:Str}{apos cpos:Pos}{T id:String}{r:V->List V->Hp->VK->Prop}
def pe_bm0(E:Ug T)(slot:Slot T name id)(u:typeOf (.builtin id)=pure (.type "method_descriptor"))(F:MtR X id r)(G:PE X o to)(g:Fs o name X.env (eval o X.env)=eval o X.env:=by rfl)(j:(apos.endLine==cpos.line)=true:=by rfl):PE X (.Call (.Attribute o name apos) [] [] cpos) (tBM0 X.K T r to):=by
 intro f s B H Q I h;refine wpAny_Call_method0_late g j (thnE (G f s B H _ I h) λv J x L C D ⟨M,O⟩=>?_);obtain⟨P,R⟩:=x6t C D M;exact⟨T,id,E,slot,u,P,R,Hn rfl (PySem.evalArgs_none (F f J B L x [] v [] Q C D .nil O))⟩
def pe_bm(J:Ug T)(slot:Slot T name id)(C:typeOf (.builtin id)=pure (.type "method_descriptor"))(L:MtR X id r)(M:PE X o to)(ha:PA X (e::es) t)(j:Fs o name X.env (eval o X.env)=eval o X.env:=by rfl)(B:((El cpos (Bd (e::es) X.env)).all (λx => !x.1)&&(Jy cpos (Hj [] X.env)).all (λx=>x.1.isSome)
   && decide ((e::es).length+([]:List Lx).length+(if ([]:List Lx).isEmpty then 0 else 1)<30))=true:=by rfl)(u:(apos.endLine==cpos.line)=true:=by rfl)(O:Bd (e::es) X.env=(false,eval e X.env)::Bd es X.env:=by rfl)(g:(El cpos (Bd es X.env)).any (·.1)=false:=by rfl):
  PE X (.Call (.Attribute o name apos) (e::es) [] cpos) (tBM X.K T r to t):=by
 intro f s D H Q I h;refine Mp j B u rfl (thnE (M f s D H _ I h) λv P x R E F ⟨S,U⟩=>?_);obtain⟨W,Y⟩:=x6t E F S;refine⟨T,id,J,slot,C,W,Y,?_⟩;have G:=ha cpos f P D R _ E U;rw[O] at G ⊢;refine Hn (by show(false||(El cpos (Bd es X.env)).any (·.1))=false;rw[g]<;>rfl) (Ka ?_);exact thn G λZ s2 ⟨vs,H2,I2,r2,q2⟩=>L f s2 D H2 x vs v Z Q I2 F r2 q2
end
noncomputable def MtM(X:Cx)(id:String)(r:V->List V->Hp->VK->Prop):Prop :=
 ∀ pins   s  (σ:St)  H   x   xs   v   us   Q ,Inv X pins σ H s->RelV x v->Vals xs us->r x xs H Q ->
  wpAny (model X.prog X.w) X.A (call (.builtin id) (v::us)) (EP X pins σ Q) X.xe s
def Vals.one:∀{x} {us},Vals [x] us->∃u,us=[u]/\RelV x u:=λr=>vals1 r
def Vals.two:∀{x y} {us},Vals [x,y] us->∃u v,us=[u,v]/\RelV x u/\RelV y v:=λr=>vals2 r
theorem Vals.zero:∀{us},Vals [] us->us=[]
 |_,.nil=>rfl
def Vals.reverse(h:Vals xs us):Vals xs.reverse us.reverse:=by
 induction h with
 |nil=>exact .nil
 |cons r t ih=>rw[Ql,Ql];exact Vals.append ih (.cons r .nil)
theorem Vals.rep(h:Vals xs f):∀k,Vals (List.replicate k xs).flatten (List.replicate k f).flatten
 |0=>.nil
 |k+1=>by
  rw[Ot,Ot,Fh,Fh];exact Vals.append h (Vals.rep h k)
theorem z2f(f:List Value):∀ k   acc ,
  List.foldl (λg h=>g++h) acc.toArray (List.replicate k f.toArray)=(acc++(List.replicate k f).flatten).toArray
 |0,acc=>by simp
 |k+1,acc=>by
  have e:acc.toArray++f.toArray=(acc++f).toArray:=by simp
  have j:(acc++f)++(List.replicate k f).flatten=acc++(List.replicate (k+1) f).flatten:=by grind
  rw[<- j,<- z2f f k (acc++f),<- e,Ot,Ew]
section
variable{X:Cx}{pins:List (Addr×Obj)}{σ:St}{H:Hp}{s:Ah}{l b:Addr}{xs ys zs:List V}
def Inv.lset{g:List Value}(I:Inv X pins σ H s)(h:H l=some (.lst xs))(e:s.heap.get? l=some { cls:=.type "list",data:=.seq g.toArray n })(j:f g.toArray=its'.toArray)(o:Vals ys its')(v:ys.length<=sizeLine):
  Inv X pins σ (upd H l (.lst ys)) { s with heap:=s.heap.update l (Hm f),toks:=t' }:=by
 have q:=PySem.IsL.update e f;rw[j] at q;refine I.write (by rw[h];exact trivial) (.inl rfl) (λD u B C=>(Cm s.heap (Hm f) (Cp B)).trans C) ⟨_,q⟩ ?_;exact⟨v,its',_,o,q⟩
def Inv.lnew(I:Inv X pins σ H s)(f:Vals ys its)(g:ys.length<=sizeLine):
  Inv X pins σ (upd H s.heap.objs.size (.lst ys)) { s with heap:=s.heap.push { cls:=.type "list",data:=.seq its.toArray },toks:=t' } :=
 I.laid (λ_ _ q=>Ag _ q) (Aj _) ⟨g,its,0,f,Aw _ rfl⟩
def Inv.fresh(I:Inv X pins σ H s):H s.heap.objs.size=none:=I.hok.fresh (Aj _)
def Inv.lstM(I:Inv X pins σ H s)(g:H l=some (.lst xs)):xs.length<=sizeLine/\∃(f:List Value) (n:Nat),Vals xs f/\xs.length=f.length/\s.heap.get? l=some { cls:=.type "list",data:=.seq f.toArray n }:=by
 obtain⟨z,f,n,r,e⟩:=I.hok l _ g;exact⟨z,f,n,r,r.length,e⟩
def notLongL(h:n<=sizeLine):Lm n=false:=by
 exact decide_eq_false (by lia)
end
section
variable{X:Cx}
noncomputable def rAppend:V->List V->Hp->VK->Prop:=λx vs H Q=>∃l xs y,x=.ref l/\vs=[y]/\H l=some (.lst xs)/\xs.length<sizeLine/\Q .non (upd H l (.lst (xs++[y])))
def q1i:MtM X "list.append" rAppend:=by
 intro g s D H x vs v E Q I o B h;obtain⟨l,G,y,rfl,rfl,j,J,q⟩:=h;cases o;obtain⟨u,rfl,C⟩:=B.one;obtain⟨z,f,n,r,hl,e⟩:=I.lstM j;refine Kb F.slot_list_append ⟨_,e,rfl⟩ F.entry_list_append (F.args_list_append_2 _ _) (PySem.list_append l f.toArray n u (by rw[Bg];lia)) ⟨e,?_⟩;refine⟨.non,_,I.lset (its':=f++[u]) j e (by simp) (r.append (.cons C .nil)) ?_,rfl,q⟩;rw[Af,Bi];lia
noncomputable def rExtend:V->List V->Hp->VK->Prop:=λx vs H Q=>∃l b xs zs,x=.ref l/\vs=[.ref b]/\H l=some (.lst xs)/\H b=some (.lst zs)/\xs.length+zs.length<=sizeLine/\Q .non (upd H l (.lst (xs++zs)))
def z2g:MtM X "list.extend" rExtend:=by
 intro B s R H x vs v S Q I D E h;obtain⟨l,b,T,U,rfl,rfl,C,G,W,q⟩:=h;cases D;obtain⟨u,rfl,J⟩:=E.one;cases J;obtain⟨z,g,n,r,hl,e⟩:=I.lstM C;obtain⟨Y,f,L,M,O,P⟩:=I.lstM G;have o:g.toArray.size+f.toArray.size<=sizeLine:=by grind
 have j:¬(!g.toArray.isEmpty&&Lm (g.toArray.size+f.toArray.size))=true:=by
  rw[notLongL o,Bool.and_false];exact Bm
 refine Kb F.slot_list_extend ⟨_,e,rfl⟩ F.entry_list_extend (F.args_list_extend_2 _ _)
  (AutoSeq1.list_extend_list_list_0 l g.toArray n b f.toArray L j (by rw[Bg];lia) (by lia)) ⟨e,P,?_⟩
 refine⟨.non,_,I.lset (its':=g++f) C e (by simp) (r.append M) ?_,rfl,q⟩;rw[Af];lia
noncomputable def rReverse:V->List V->Hp->VK->Prop:=λx vs H Q=>∃l xs,x=.ref l/\vs=[]/\H l=some (.lst xs)/\Q .non (upd H l (.lst xs.reverse))
def z7v:MtM X "list.reverse" rReverse:=by
 intro j s C H x vs v D Q I u B h;obtain⟨l,E,rfl,rfl,o,q⟩:=h;cases u;have g:=B.zero;subst g;obtain⟨z,f,n,r,hl,e⟩:=I.lstM o;refine Kb F.slot_list_reverse ⟨_,e,rfl⟩ F.entry_list_reverse (F.args_list_reverse_1 _) (AutoSeq1.list_reverse_list_0 l f.toArray n (by rw[Bg];lia)) ⟨e,?_⟩;refine⟨.non,_,I.lset (its':=f.reverse) o e (by simp) r.reverse ?_,rfl,q⟩;rw[Ou];lia
noncomputable def rCat:R2:=λx y H Q=>∃l b xs zs,x=.ref l/\y=.ref b/\H l=some (.lst xs)/\H b=some (.lst zs)/\xs.length+zs.length<=sizeLine/\∀p,H p=none->Q (.ref p) (upd H p (.lst (xs++zs)))
def op_cat:OpR X (Gr .Add) rCat:=by
 intro j s L H x y v u Q I o B h;obtain⟨l,b,M,O,rfl,rfl,C,D,R,q⟩:=h;cases o;cases B;obtain⟨z,g,n,r,hl,e⟩:=I.lstM C;obtain⟨S,f,T,E,F,G⟩:=I.lstM D;refine PySem.P.add_list e G ?_ (by rw[Bg,Bg];lia);have J:g.toArray++f.toArray=(g++f).toArray:=by simp
 rw[J];exact⟨.ref _,_,I.lnew (t':=s.toks) (r.append E) (by rw[Af];lia),rfl,q _ I.fresh⟩
noncomputable def rRep:R2:=λx y H Q=>∃l k xs,x=.ref l/\y=.int k/\H l=some (.lst xs) /\ -(2^63)<=k/\k<2^63/\xs.length*k.toNat<=sizeLine /\
 ∀p,H p=none->Q (.ref p) (upd H p (.lst (List.replicate k.toNat xs).flatten))
def x8m{f:Type}(xs:List f)(k):(List.replicate k xs).flatten.length=k*xs.length:=by simp_all
def op_rep:OpR X (Gr .Mult) rRep:=by
 intro G s T H x y v u Q I J L h;obtain⟨l,k,U,rfl,rfl,M,O,P,R,q⟩:=h;cases J;obtain⟨t,rfl⟩:=L;obtain⟨z,f,n,r,hl,e⟩:=I.lstM M;have j:f.toArray.size*k.toNat<=sizeLine:=by simp_all
 have o:¬f.toArray.size*k.toNat>(2^63-1) / 8:=by
  have:(sizeLine:Nat)<=(2^63-1) / 8:=by decide
  lia
 have B:¬(!Builtin.List.listFitsIndex k)=true:=by
  rw[fitsIndex_both O P];exact Bm
 have g:¬Lm (f.toArray.size*k.toNat)=true:=by
  rw[notLongL j];exact Bm
 have C:List.foldl (λD E=>D++E) #[] (List.replicate (if f.toArray.isEmpty=true then 0 else k.toNat) f.toArray)=(List.replicate k.toNat f).flatten.toArray:=by
  have f0:∀m:Nat,List.foldl (λD E=>D++E) #[] (List.replicate m f.toArray)=(List.replicate m f).flatten.toArray:=λm=>by
   have:=z2f f m [];exact this
  cases f with
  |nil=>simp
  |cons a r'=>grind
 refine wpAny_binaryOp_repeat_ref (by decide) ⟨_,e,rfl⟩ (λS=>Xn S k t) noFill_list_mul F.fills_int_mul Xo repeat_list F.slot_int_index.lookup
  (Kb Xo (Xn s k t) F.entry_int_rmul (F.args_int_rmul_2 _ _) (int___rmul___int_list k t l f.toArray n)
   ⟨e,rfl,⟨_,e,rfl⟩,Kb F.slot_list_mul ⟨_,e,rfl⟩ F.entry_list_mul (F.args_list_mul_2 _ _) (AutoListH.list___mul___list_int_3 l f.toArray n k t B o g) ⟨e,?_⟩⟩)
 rw[C];exact⟨.ref _,_,I.lnew (t':=s.toks) (r.rep k.toNat) (by rw[x8m,Nat.mul_comm];exact R),rfl,q _ I.fresh⟩
end
end L2
namespace Att
open PySem PySem.W PySem.Calls PyProof.Rows
def q7d:∀ ns   vs ,WellAll P h vs (ns.map WData.int)->Vx vs ns:=by
 intro ns;induction ns with
 |nil =>
  intro vs w;cases w;exact .nil
 |cons n ns ih =>
  intro vs w;cases w with
  |cons a b =>
   cases a;exact .cons _ _ (ih _ b)
def z9n{l:OpenLaw}(hn:l.most=some n)(f:l.row.toRowW.claim.pre args=true)(o:WellAll P h vals args):
  ∃a vs ns,vals=[Value.ref a]/\args=[WData.list (ns.map WData.int)]/\h.get? a=some { cls:=.type "list",data:=.seq vs.toArray }/\Vx vs ns/\ns.length<=n:=by
 have s:=(pre_splitW f).1;have v:l.pre.holds [] { args:=args }=true:=(pre_splitW f).2;obtain⟨d,r,rfl,B,C⟩:=hasAllW_cons s;obtain rfl:=hasAllW_nil C;obtain⟨E,rfl,D⟩:=hasW_list B;obtain⟨ns,rfl⟩:=items_int D;have g:ns.length<=n:=by
  have j:(WTm.not (.lt (.lit (.int (n:Int))) (.len (.arg 0)))).holds [] { args:=[.list (ns.map .int)] }=true:=by
   have j:=(holds_andW v).1;rw[hn] at j;exact j
  have u:=condW_of j (w_not (w_lt w_lit (w_len_list (w_arg rfl))));first
   |(rw[decide_eq_true q'] at u;exact absurd u (by decide))
   |(simp at u;lia)
 cases o with
 |cons w1 w2 =>
  cases w2;cases w1 with
  |list ho hall=>exact⟨_,_,ns,rfl,rfl,ho,q7d ns _ hall,g⟩
def z9o(l:OpenLaw)(args):l.row.toRowW.claim.post args (.bool true) args=true :=
 postW_of
  (show WShape.has [] (.bool true) .bool=true by first|rfl|decide|simp[WShape.has,WShape.arms,WShape.armsAll])
  (show(WTm.eq .res (.lit (.bool true))).value [] { args:=args,res:=some (.bool true),after:=args }=some (.bool (true==true)) from w_eq_bool (w_res rfl) w_lit) rfl
def attach_call{l:OpenLaw}(hn:l.most=some n)(C:d.params.defaults=[])(call:∀ w  (s₀ g) (mg D)  fa   o  (pm B h)  a   vs   ns ,
   Ground q loose [] XP w s₀ mg D g.heap->YP w g.heap ->
   g.heap.get? fa=some o->o.data=.func (docDef d.name d.params d.body d.scope pm B h)->g.heap.CodeRec B d.name->mg d.name=some (.ref fa) ->
   g.heap.get? a=some { cls:=.type "list",data:=.seq vs.toArray }->Vx vs ns->ns.length<=n->g.gens=#[] ->
   Ey (model l.prog w) Qv (.call (.ref fa) ⟨[.ref a],[]⟩) (λr s'=>r=.ok (.ret (.bool true))/\OldK g.heap s'.heap/\s'.os=g.os/\Lw s'.gens) g):
  WalkO q loose XP YP l.row.toRowW d [] (λf vs=>Xp f vs):=by
 intro w s₀ g mg D G Y fa o pm B h O kV P hd E I F Q J L as s M R H S;obtain rfl:O=.none:=Dflts.none I C;obtain rfl:kV=.none:=Dflts.noKw I;obtain⟨a,vs,ns,rfl,rfl,u,j,v⟩:=z9n hn s H;refine enter_call (Gs (call w s₀ g mg D fa o pm B h a vs ns G Y P (fd_plain hd) E F u j v Q) λr s' T=>?_);obtain⟨rfl,U,W,X⟩:=T;exact⟨.inl ⟨.bool true,.bool true,[],rfl,λ_=>rfl,.bool true,z9o l _,λ_=>⟨List.Pairwise.nil,λ_ Z=>(nomatch Z)⟩⟩,U,W,X⟩
end Att
namespace L2
open PySem PySem.Spec PyProof.Rows
theorem z2h:∀{vs} {ns},Vx vs ns->Vals (ns.map V.int) vs
 |_,_,.nil=>.nil
 |_,_,.cons n t h=>.cons ⟨t,rfl⟩ (z2h h)
noncomputable def Only(H:Hp):Prop:=∀b,H b=none\/∃o xs,H b=some (.frz o (.lst xs))
def x3u{K}(R:K.In s₁.heap)(D:s₁.heap.Ns Cr mg)(B:s₁.heap.Ns builtinsNs mb)(L:∀x:Str,x ≠ "__name__" -> mb x=Ho x)(E:s₁.heap.NoLimit)(Y:s₁.gens=#[])(ha:s₁.heap.get? a=some { cls:=.type "list",data:=.seq vs.toArray })(S:Vx vs ns)(hl:ns.length<=sizeLine)(Z:Room k Qv)(F:∀base,K.In base->base.Ns Cr mg->FnOk P w K mg base CX k fa fd [x] sp)(C:∀ s   u ,Ta s fd ⟨[u],[]⟩ [(x,u)])(M:∀H,Only H->SqL K H a (ns.map V.int)->sp [.ref a] H (λv _=>v=.bl true) λ_ _ _=>False)(O:∀H e s',CX [] H s₁ (λ_ _ _=>False) e s'->False):
  Ey (model P w) Qv (.call (.ref fa) ⟨[.ref a],[]⟩) (λr s'=>r=.ok (.ret (.bool true))/\OldK s₁.heap s'.heap/\s'.os=s₁.os/\Lw s'.gens) s₁:=by
 have T:=z2h S;have G:=S.length;have j:∀H:Hp,Only H->SqL K H a (ns.map V.int)->HOk P w H s₁.heap->(∀b,H b≠none->b=a)->(H a≠none->K.lookup a=none) ->
   Ey (model P w) Qv (.call (.ref fa) ⟨[.ref a],[]⟩) (λr s'=>r=.ok (.ret (.bool true))/\OldK s₁.heap s'.heap/\s'.os=s₁.os/\Lw s'.gens) s₁:=by
  intro H U hS hok W hK;have f:∀{b:Addr} {o:Obj},s₁.heap.get? b=some o->H b=none->(hidT s₁.heap H).get? b=some o:=λe n=>x3l e n;have Q:∀{b:Addr} {o:Obj} {es:Array Lh} {ep:Nat},s₁.heap.get? b=some o->o.data=.dict es ep->H b=none:=λ{b o es ep} e d=>by
   cases q:H b with
   |none=>rfl
   |some u =>
    have e':=W b (by rw[q];simp);subst e';rw[ha] at e;cases e;have d':=d;cases d'
  have g:∀{b:Addr} {m:Str->Option Value},s₁.heap.Ns b m->(hidT s₁.heap H).Ns b m:=λ{b m} ⟨o,es,ep,e,d,r⟩=>⟨o,es,ep,f e (Q e d),d,r⟩
  have I:=λb o e=>f (R b o e) (by
   cases q:H b with
   |none=>rfl
   |some u =>
    have e':=W b (by rw[q];simp);subst e';rw[hK (by rw[q];simp)] at e;cases e)
  have hM:Mod K mg (hidT s₁.heap H):=⟨I,g D,⟨mb,g B,L⟩,let ⟨mc,h1,h2⟩:=E;⟨mc,g h1,h2⟩⟩
  have e0:Env0 P w K mg (hidT s₁.heap H) Qv [] s₁ H:=⟨rfl,hM,λb o e=>x8d e,Fb (z8x _ _),trivial,λb B=>absurd (show b∈([]:List Addr) from B) (by simp),hok,.of_eq Y⟩
  refine Gs ((F _ I (g D)).run Qv [] s₁ H ⟨[.ref a],[]⟩ [.ref a] [.ref a] _ _ Z e0 (C s₁ (.ref a)) (.cons rfl .nil) (M H U hS)) λr s' h=>?_;cases r with
  |error e=>exact(O H e s' h).elim
  |ok fl =>
   cases fl with
   |next=>exact False.elim h
   |brk=>exact False.elim h
   |cont=>exact False.elim h
   |ret u =>
    obtain⟨v,H',os,bare,un,J,r',q⟩:=h;have q':=q;subst q';obtain rfl:u=Value.bool true:=r';refine⟨rfl,OldK.of_keep λb o e=>?_,os,bare⟩;cases q:H b with
    |none=>exact un.keep b o e q (by intro z;exact absurd (show b∈([]:List Addr) from z) (by simp)) (by simp)
    |some u =>
     rcases U b with z|⟨ob,xs,z⟩
     ·grind
     ·have z2:=un.frzs b ob _ z;obtain⟨X,_⟩:=hok b _ z;obtain⟨e2,_⟩:=J b _ z2;rw[e] at X;cases X;exact e2
 cases hk:K.lookup a with
 |some o =>
  have e:=R a o hk;rw[ha] at e;cases e;refine j (λ_=>none) (λ_=>.inl rfl) (.inr ⟨_,vs.toArray,_,hk,rfl,rfl,rfl,by rw[Bg,G];exact hl,by simpa using T⟩) (λb u z=>by have z':(none:Option HO)=some u:=z;cases z') (λb z=>absurd rfl z) λz=>absurd rfl z
 |none =>
  refine j (λb=>if b=a then some (.frz { cls:=.type "list",data:=.seq vs.toArray } (.lst (ns.map V.int))) else none) (λb=>?_) (.inl (.inr ⟨{ cls:=.type "list",data:=.seq vs.toArray },if_pos rfl⟩)) (λb u z=>?_) (λb z=>?_) λ_=>hk
  ·by_cases B:b=a
   ·simp_all
   ·simp_all
  ·by_cases B:b=a
   ·have z':=(if_pos B).symm.trans z;cases z';subst B;exact⟨ha,by rw[Ae];exact hl,vs,_,T,ha⟩
   ·grind
  ·grind
def walk_of{l:Yi}{K:Params->Ai}{CX:World->CXT}{sp:World->Sp}(hn:l.most=some n)(E:n<=sizeLine)(I:d.params.defaults=[])(P:Room k Qv)(Q:∀ w   h ,YP w h->(K w.params).In h)(F:∀ w   mg   fa   h ,(K w.params).In h->h.Ns Cr mg->mg d.name=some (.ref fa) ->
   ∃fd,(∀ s   u ,Ta s fd ⟨[u],[]⟩ [(x,u)]) /\
    ∀base,(K w.params).In base->base.Ns Cr mg->FnOk l.prog w (K w.params) mg base (CX w) k fa fd [x] (sp w))(J:∀ w   H   a  (ns:List Int),ns.length<=n->Only H->SqL (K w.params) H a (ns.map V.int)->sp w [.ref a] H (λv _=>v=.bl true) λ_ _ _=>False)(L:∀ w   H   s   e   s' ,CX w [] H s (λ_ _ _=>False) e s'->False):
  W.WalkO q loose XP YP l.row.toRowW d [] (λf vs=>Xp f vs):=by
 refine Att.attach_call hn I λw s₀ C mg mb fa o pm cd R a vs ns G Y ho hd S M D B j U=>?_;have O:=Q w _ Y;obtain⟨fd,X,hF⟩:=F w mg fa _ O G.T.g M;exact x3u O G.T.g G.T.b G.T.builtins G.T.nolimit U D B (Ay j E) P hF X (λH Z hS=>J w H a ns j Z hS) λH e s'=>L w H C e s'
noncomputable def inClass(s:Stmt)(j:Nat):Stmt:=match s with
 |.ClassDef _ _ _ body _ _ _ _ _ _ _=>body.getD j (.Pass ⟨0,0,0,0⟩)
 |_=>.Pass ⟨0,0,0,0⟩
noncomputable def defArgs(s:Stmt):Arguments:=match s with
 |.FunctionDef _ a _ _ _ _ _ _ _ _=>a
 |_=>{ posonlyargs:=[],args:=[],vararg:=none,kwonlyargs:=[],kw_defaults:=[],kwarg:=none,defaults:=[] }
noncomputable def defBody(s:Stmt):List Stmt:=match s with
 |.FunctionDef _ _ b _ _ _ _ _ _ _=>b
 |_=>[]
noncomputable def defScope(s:Stmt):Scope:=match s with
 |.FunctionDef _ _ _ _ _ _ sc _ _ _=>sc
 |_=>{ kind:=.function,names:=[],isGenerator:=false,isCoroutine:=false }
noncomputable abbrev CX0:CXT:=λ_ _ _ _ _ _=>False
noncomputable abbrev E0:XK:=λ_ _ _=>False
def pass0:Passes CX0 X E0:=λ_ _ _ _ _ _ _ h=>h.elim
structure Fun (K) (x qual) (st) (f) (fd):Prop where
 ex:∃(oc:Value) (od:Option Addr) (kV doc pm:Value) (an:Option Addr) (cdv ct:Value) (osl:Array (Option Value)),
  fd=Ij x qual (defArgs st) (defBody st) (defScope st) .none kV doc pm an cdv ct/\K.lookup f=some ⟨oc,od,.func fd,osl⟩/\Lk K cdv qual=true
 kp:Fy K (.ref f)=true
section
variable{P:Aq}{w:World}{K:Ai}{mg:Str->Option Value}{base:Heap}
def Fun.ok{st}(F:Fun K x qual st f fd)(S:FnScope N ps (defScope st))(len:∀vs H Q E,sp vs H Q E->vs.length=ps.length)(j:∀ g   A   outer   s   H   vs   Q   E ,Room k (A.deeper (Hy qual (defScope st) s.heap.objs.size f g))->sp vs H Q E ->
   ∃t,PSs (cxOf CX0 P w K mg base N qual (defScope st) f g A outer s H E).nox (defBody st) t/\t { nx:=λ_ H'=>Q .non H',rt:=Q } (start N vs) H):FnOk P w K mg base CX0 (k+1) f fd ps sp:=by
 obtain⟨oc,G,kV,v,pm,I,g,ct,B,rfl,C,o⟩:=F.ex;refine x8l C o S len λA outer s H vs Q E D u=>?_
 obtain⟨t,h,q⟩:=j g A outer s H vs Q E D u;exact⟨t,h.nox,q⟩
def Fun.binds{st}(F:Fun K x qual st f fd)(h:∀(kV g pm)  o  (j ct)  us ,us.length=ps.length->bindArgs (Ij x qual (defArgs st) (defBody st) (defScope st) .none kV g pm o j ct) ⟨us,[]⟩=pure (ps.zip us)):Binds K fd ps []:=by
 obtain⟨oc,v,kV,g,pm,o,j,ct,s,rfl,B,u⟩:=F.ex;exact .all (h kV g pm o j ct)
def q7e{st}{kV}(l:K.lookup f=some ⟨oc,od,.func (Ij x qual (defArgs st) (defBody st) (defScope st) .none kV doc pm an cdv ct),osl⟩)(c:Lk K cdv qual=true)(k:Fy K (.ref f)=true):Fun K x qual st f (Ij x qual (defArgs st) (defBody st) (defScope st) .none kV doc pm an cdv ct):=⟨⟨oc,od,kV,doc,pm,an,cdv,ct,osl,rfl,l,c⟩,k⟩
end
def q6i(f:Room k A):A.units+1<cLine:=Ph (Uu (by decide:1<=64) _) f.units
section
variable{X:Cx}
def pv(i){pos}(g:X.N[i]?=some x:=by rfl)(h:Vis X.env.scope x:=by trivial)(hd:(x==("__debug__" : Str))=false:=by decide)(f:(x==("__classdict__" : Str))=false:=by decide):PE X (.Name x pos) (tVar i):=pe_var g h hd f
end
def iteF{B:Prop}(h:B):if false=true then A else B:=by
 exact h
def iteT{B:Prop}(h:A):if true=true then A else B:=by
 exact h
def ite2{B:Prop}[Decidable c](f:c->A)(g:¬c->B):if c then A else B:=by grind
noncomputable def Same(H H':Hp):Prop:=∀b o,H b=some o->H' b=some o
def Same.refl(H):Same H H:=λ_ _ h=>h
def Same.trans(a:Same H H1)(b:Same H1 H2):Same H H2:=λc o h=>b c o (a c o h)
def Same.free(e:Same H H')(h:H' l=Option.none):H l=Option.none:=by
 cases q:H l with
 |none=>rfl
 |some o =>
  rw[e l o q] at h;cases h
def Same.seq{K}(e:Same H H')(h:SqL K H a xs):SqL K H' a xs:=by
 rcases h with(h|⟨o,h⟩)|h
 ·exact .inl (.inl (e _ _ h))
 ·exact .inl (.inr ⟨o,e _ _ h⟩)
 ·exact .inr h
noncomputable abbrev Caps:=List (Str×Nat)
noncomputable def capV(σ:St):Caps->St
 |[]=>[]
 |(_,i)::r=>(σ[i]?).join::capV σ r
noncomputable def CapOk(X:Cx)(scope:Scope):Caps->Prop
 |[]=>True
 |(x,i)::r=>(X.N[i]?=some x/\scope.names.lookup x=some .free/\(X.env.scope.names.lookup x=some .cell\/X.env.scope.names.lookup x=some .free))/\CapOk X scope r
noncomputable def cxComp(X:Cx)(N:List Str)(scope:Scope)(cl:List (Str×Addr))(C:Addr)(fp:List Addr)(s:Ah)(H:Hp):Cx where
 prog:=X.prog
 w:=X.w
 K:=X.K
 mg:=X.mg
 base:=X.base
 A:=X.A
 N:=N
 s₀:=s
 H₀:=H
 env:=De scope cl C X.env
 outer:=X.stack
 stack:=X.stack
 ex:=fp
 fn:=λ_=>false
 calm:=X.calm
 pn:=[]
 xe:=λ_ _=>False
theorem z7w(names:List (Str×Bk))(j:∀x,(x,Bk.free)∈names->∃c,env.cells.lookup x=some c):∀acc,
  ∃cl,(forIn names acc (λx   r =>match x with
   |(f,kind)=>if (kind==Bk.free)=true then do let a<-cellOf env f;pure (ForInStep.yield ((f,a)::r)) else pure (ForInStep.yield r)):Sem (List (Str×Addr)))=pure cl /\
   (∀x c,(x,c)∈cl->(x,c)∈acc\/env.cells.lookup x=some c)/\(∀x,((x,Bk.free)∈names\/∃c,(x,c)∈acc)->∃c,(x,c)∈cl):=by
 induction names with
 |nil=>intro acc;exact⟨acc,rfl,λx c h=>.inl h,λx h=>h.elim (λz=>nomatch z) id⟩
 |cons n r ih =>
  intro acc;obtain⟨f,kind⟩:=n;by_cases hk:kind=Bk.free
  ·subst hk;obtain⟨c,u⟩:=j f Al;obtain⟨cl,e,o,s⟩:=ih (λx g=>j x (Ak _ g)) ((f,c)::acc);refine⟨cl,?_,λx d hd=>?_,λx g=>?_⟩
   ·rw[Nv];have:cellOf env f=pure c:=by unfold cellOf;rw[u]
    simp only[beq_self_eq_true,if_true,this];exact e
   ·rcases o x d hd with z|z
    ·rcases Av.mp z with z|z
     ·cases z;exact .inr u
     ·exact .inl z
    ·exact .inr z
   ·refine s x ?_;rcases g with g|⟨d,hd⟩
    ·rcases Av.mp g with z|z
     ·simp_all
     ·exact .inl z
    ·grind
  ·obtain⟨cl,e,o,s⟩:=ih (λx g=>j x (Ak _ g)) acc;refine⟨cl,?_,o,λx g=>s x ?_⟩
   ·simp_all
   ·grind
def q9u{cl:List (Str×Addr)}(h:(x,c)∈cl):∃d,cl.lookup x=some d:=by
 induction cl with
 |nil=>cases h
 |cons y r ih =>
  obtain⟨n,a⟩:=y;cases e:x==n with
  |true=>simp_all
  |false =>
   rcases Av.mp h with z|z
   ·cases z;simp at e
   ·obtain⟨d,hd⟩:=ih z;exact⟨d,by simp only[Kc,e];exact hd⟩
def z7x(f:∀x,(x,Bk.free)∈scope.names->∃c,env.cells.lookup x=some c):
  ∃cl,Xq scope env=pure cl/\(∀x c,cl.lookup x=some c->env.cells.lookup x=some c)/\∀x,(x,Bk.free)∈scope.names->∃c,cl.lookup x=some c:=by
 obtain⟨cl,e,g,j⟩:=z7w scope.names f [];refine⟨cl,?_,λx c h=>?_,λx o=>?_⟩
 ·unfold Xq;have s:=congrArg (λm:Sem (List (Str×Addr))=>m >>= λu=>(pure u:Sem _)) e;exact s
 ·rcases g x c (Ga h) with z|z
  ·cases z
  ·exact z
 ·obtain⟨c,v⟩:=j x (.inl o);exact q9u v
theorem q4u{env:Env}(hk:k=.cell\/k=.free):∀{names:List (Str×Bk)} {x},(∀y∈names,y.2≠.cell) ->
  (names.map λ(n,k)=>if (k==Bk.free&&env.scope.kind==.function&&env.kindOf n==some .cell) then(n,Bk.cell) else(n,k)).lookup x=some k->(x,Bk.free)∈names
 |[],_,_,h=>by simp at h
 |(n,k')::r,x,hc,h=>by
  have f:=@q4u k env hk r x λy g=>hc y (Ak _ g);by_cases c:(k'==Bk.free&&env.scope.kind==.function&&env.kindOf n==some .cell)=true
  ·have h':((n,Bk.cell)::r.map λ(n,k)=>if (k==Bk.free&&env.scope.kind==.function&&env.kindOf n==some .cell) then(n,Bk.cell) else(n,k)).lookup x=some k:=by
    have e:(if (k'==Bk.free&&env.scope.kind==.function&&env.kindOf n==some .cell)=true then(n,Bk.cell) else(n,k'))=(n,Bk.cell):=if_pos c;rw[<- e];exact h
   cases e:x==n with
   |true =>simp_all
   |false=>exact Ak _ (f (by simp only[Kc,e] at h';exact h'))
  ·have h':((n,k')::r.map λ(n,k)=>if (k==Bk.free&&env.scope.kind==.function&&env.kindOf n==some .cell) then(n,Bk.cell) else(n,k)).lookup x=some k:=by
    have e:(if (k'==Bk.free&&env.scope.kind==.function&&env.kindOf n==some .cell)=true then(n,Bk.cell) else(n,k'))=(n,k'):=if_neg c;rw[<- e];exact h
   cases e:x==n with
   |true =>simp_all
   |false=>exact Ak _ (f (by simp only[Kc,e] at h';exact h'))
theorem q6a{env:Env}:∀{names:List (Str×Bk)} {x},names.lookup x=some .free ->
    ((names.map λ(n,k)=>if (k==Bk.free&&env.scope.kind==.function&&env.kindOf n==some .cell) then(n,Bk.cell) else(n,k)).lookup x=some .cell \/
     (names.map λ(n,k)=>if (k==Bk.free&&env.scope.kind==.function&&env.kindOf n==some .cell) then(n,Bk.cell) else(n,k)).lookup x=some .free)
  |[],_,h=>by simp at h
  |(n,k')::r,x,h=>by
    have f:=@q6a env r x;by_cases c:(k'==Bk.free&&env.scope.kind==.function&&env.kindOf n==some .cell)=true
    · have e:(if (k'==Bk.free&&env.scope.kind==.function&&env.kindOf n==some .cell)=true then(n,Bk.cell) else(n,k'))=(n,Bk.cell):=if_pos c;show(List.lookup x ((if (k'==Bk.free&&env.scope.kind==.function&&env.kindOf n==some .cell)=true then(n,Bk.cell) else(n,k'))::_)=_\/List.lookup x ((if (k'==Bk.free&&env.scope.kind==.function&&env.kindOf n==some .cell)=true then(n,Bk.cell) else(n,k'))::_)=_);rw[e];cases ex:x==n with
      |true=>simp_all
      |false =>
        simp only[Kc,ex] at h ⊢;exact f h
    · have e:(if (k'==Bk.free&&env.scope.kind==.function&&env.kindOf n==some .cell)=true then(n,Bk.cell) else(n,k'))=(n,k'):=if_neg c;show(List.lookup x ((if (k'==Bk.free&&env.scope.kind==.function&&env.kindOf n==some .cell)=true then(n,Bk.cell) else(n,k'))::_)=_\/List.lookup x ((if (k'==Bk.free&&env.scope.kind==.function&&env.kindOf n==some .cell)=true then(n,Bk.cell) else(n,k'))::_)=_);rw[e];cases ex:x==n with
      |true =>simp_all
      |false =>
        simp only[Kc,ex] at h ⊢;exact f h
theorem q7f(g):∀f,(capV g f).length=f.length
 |[]=>rfl
 |(_,_)::r=>congrArg (· + 1) (q7f g r)
theorem z6d:∀{caps} {j:Nat} {x} {v},CapOk X scope caps->(caps.map (·.1))[j]?=some x->(capV σ caps)[j]?=some (some v) ->
  ∃i:Nat,X.N[i]?=some x/\σ[i]?=some (some v)/\scope.names.lookup x=some .free/\(X.env.scope.names.lookup x=some .cell\/X.env.scope.names.lookup x=some .free)
 |[],_,_,_,_,h,_=>by simp at h
 |(y,i)::r,0,x,v,hc,h1,h2=>by
  simp at h1;subst h1;have e:(σ[i]?).join=some v:=by simpa[capV] using h2
  refine⟨i,hc.1.1,?_,hc.1.2⟩;cases q:σ[i]? with
  |none=>rw[q] at e;cases e
  |some z=>simp_all
 |(y,i)::r,j+1,x,v,hc,h1,h2=>z6d hc.2 (by simpa using h1) (by simpa[capV] using h2)
noncomputable def tg0(tg:List Str)(σ:St)(caps:Caps):St:=tg.map (λ_=>none)++capV σ caps
def Inv.ofcomp{L:St}{C:Addr}(g)(I:Inv X pins L H s)(B:scope.kind=.function)(G:∀y∈scope.names,y.2≠.cell)(f:∀x c,cl.lookup x=some c->X.env.cells.lookup x=some c)(D:∀x,(x,Bk.free)∈scope.names->∃c,cl.lookup x=some c)(M:∀b∈fp,FpOk X pins H b)(O:∀b∈fp,∃o,s.heap.get? b=some o)(P:s.heap.objs.size<=C)(Q:h₁.Ns C m)(hk:∀b o,s.heap.get? b=some o->h₁.get? b=some o)(co:CapOk X scope caps):
  Inv (cxComp X (g++caps.map (·.1)) scope cl C fp s H) [] (tg0 g L caps) H { s with heap:=h₁,toks:=tk }:=by
 have R:∀b∈fp,b∉frs X.stack:=λb E F=>by
  rcases Av.mp (I.stkSub b F) with z|z
  ·exact(M b E).2.1 z
  ·exact(M b E).2.2.1 z
 have ok:(cxComp X (g++caps.map (·.1)) scope cl C fp s H).Ok:=by
  refine⟨I.ok.mod,B,I.ok.glob,I.ok.blt,P,λx y c S T=>I.ok.inj x y c (f x c S) (f y c T),λx F=>?_,λx c h=>(nomatch h),I.ok.hd,I.ok.frames,.inl rfl,λb E=>⟨?_,λx c h=>(M b E).2.2.2.2.1 x c (f x c h)⟩,
   I.bs,Ay I.ok.bsz I.sz,λb o e E=>?_,R,I.stack,I.stkFree⟩
  ·rcases F with F|F
   ·exact D x (q4u (.inl rfl) G F)
   ·exact D x (q4u (.inr rfl) G F)
  ·obtain⟨o,e⟩:=O b E;exact Bl (Bp (As e) P)
  ·rcases(M b E).2.2.2.1 with z|z
   ·exact I.ok.noex b o e z
   ·exact absurd (Bp (As (I.ok.bs b o e).1) z) (Hc _)
 refine⟨ok,rfl,I.bare,Un.kept hk,⟨m,Q,λj x v S T h3=>?_⟩,λx c h=>?_,I.hok.fresh P,λx c h=>I.freeC x c (f x c h),λp hp=>(nomatch hp),I.hok.kept hk,?_⟩
 ·have h1':(g++caps.map (·.1))[j]?=some x:=S;have h2':(g.map (λ_=>none)++capV L caps)[j]?=some (some v):=T;by_cases Z:j<g.length
  ·rw[Er (by simpa using Z),Be] at h2';cases e:g[j]? with
   |none=>grind
   |some z=>simp_all
  ·rw[Dx (by simpa using Z)] at h2' h1';rw[Ae] at h2';obtain⟨i,e1,e2,e3,J⟩:=z6d co h1' h2';obtain⟨mX,hn,hl⟩:=I.loc;obtain⟨u,r,l⟩:=hl i x v e1 e2 (.inr J);refine⟨u,r,?_⟩;have U:∃c,X.env.cells.lookup x=some c/\s.heap.IsCell c (some u):=by
    rcases l with⟨k,_⟩|⟨_,c,e,z⟩
    ·have k':X.env.scope.names.lookup x=some .local:=k;rcases J with J|J <;> · rw[J] at k';cases k'
    ·exact⟨c,e,z⟩
   obtain⟨c,ec,o,W,hd⟩:=U;obtain⟨d,ed⟩:=D x (Ga e3);have Y:=Co ((f x d ed).symm.trans ec);subst Y;exact .inr ⟨q6a e3,d,ed,o,hk _ o W,hd⟩
 ·obtain⟨v,o,W,hd⟩:=I.cell x c (f x c h);exact⟨v,o,hk _ o W,hd⟩
 ·show(g.map (λ_=>(none:Option V))++capV L caps).length=(g++caps.map (·.1)).length;rw[Af,Af,Ae,Ae,q7f]
noncomputable def PIfs(X:Cx)(ifs:List Expr)(t:TT):Prop :=
 ∀ pins   s  (σ:St)  H   Q ,Inv X pins σ H s->t σ H Q ->
  wpAny (model X.prog X.w) X.A (forIn ifs true λc r=>if r=true then do let ok<-isTrue c X.env (eval c X.env);pure (ForInStep.yield ok) else pure (ForInStep.yield r)) (TP X pins σ Q) X.xe s
noncomputable def tIf0:TT:=λ_ H Q=>Q true H
def q9v:PIfs X [] tIf0:=λf s g H Q I h=>Sb ⟨H,I,h⟩
def q4v(h:PT X c t):PIfs X [c] t:=λf s g H Q I q=>wpAny_tests_one (h f s g H Q I q)
noncomputable def Keeps0(σ0 σ2:St):Prop:=σ0.length=σ2.length/\∀(i:Nat) v,σ0[i]?=some (some v)->σ2[i]?=some (some v)
noncomputable def CompW(J:It)(g:TG)(tt:TT)(te:TE)(σ0:St)(D:Addr)(Fin:List V->Hp->Prop)(H1:Hp):Prop :=
 ∃W:Nat->Nat->List V->Hp->Prop,(∃m,W 0 m [] (upd H1 D (.lst [])))/\∀i m ys H,W i m ys H->H D=some (.lst ys) /\
  ((J.stop i H/\Fin ys H)\/(J.go i H/\∃N:List V->Hp->Prop,(∀zs H',N zs H'->∃m',m'<m/\W (i+1) m' zs H')/\∀x H',J.yld i H x H'->g x σ0 H' λσ2 H2=>Keeps0 σ0 σ2/\tt σ2 H2 λb H3 =>
   if b=true then te σ2 H3 λv H4=>H4 D=some (.lst ys)/\ys.length<sizeLine/\N (ys++[v]) (upd H4 D (.lst (ys++[v])))
   else N ys H3))
def z6e{j:St}{Fin:Addr->List V->Hp->Prop}{RR:Value->Addr->Result->Ah->Prop}(hc:X.calm=true)(U:scope.kind=.function)(b6:∀y∈scope.names,y.2≠.cell)(d1:∀x c,cl.lookup x=some c->X.env.cells.lookup x=some c)(d2:∀x,(x,Bk.free)∈scope.names->∃c,cl.lookup x=some c)(co:CapOk X scope caps)(hg:∀C s H,PG (cxComp X (tg++caps.map (·.1)) scope cl C fp s H) target g)(ht:∀C s H,PIfs (cxComp X (tg++caps.map (·.1)) scope cl C fp s H) ifs tt)(he:∀C s H,PE (cxComp X (tg++caps.map (·.1)) scope cl C fp s H) elt te)(I2:Inv X h j H1 s₂)(T:Turn X.prog X.w X.K target J fp it tn)(st:tn 0 s₂.heap)(hf:∀b∈fp,FpOk X h H1 b)(hw:∀D,H1 D=none->CompW J g tt te (tg0 tg j caps) D (Fin D) H1)(d3:∀D C ys H' s',H1 D=none->Inv X h j H' s'->(∃m,s'.heap.Ns C m)->FpOk X h H' C->Fin D ys H'->RR (.ref D) C (.ok .next) s'):
  wpAny (model X.prog X.w) X.A (newList []) (λacc G=>wpAny (model X.prog X.w) X.A (Tb scope X.env.globals cl [] X.env.qual none .none (some X.env)) (λa6 b7 =>
   Ey (model X.prog X.w) X.A (.compStart (.ListComp elt [⟨target,iter,ifs,0⟩] scope pos) 0 (.ref it) acc { a6 with scope:=relabel scope X.env }) (RR acc a6.locals) b7) E G) E s₂:=by
 have I3:Inv X h j (upd H1 s₂.heap.objs.size (.lst [])) { s₂ with heap:=s₂.heap.push { cls:=.type "list",dict:=none,data:=.seq ([]:List Value).toArray },toks:=s₂.toks }:=I2.lnew .nil (Ba _);have a9:=I2.fresh;refine Cf (Nw b6 (by intro y hy;simp at hy) (λZ B F=>?_) U);dsimp only at B F ⊢;generalize b0:s₂.heap.objs.size=D at I3 a9 B F ⊢;generalize e7:({ s₂ with heap:=s₂.heap.push { cls:=.type "list",dict:=none,data:=.seq ([]:List Value).toArray } }:Ah)=G at I3 B F ⊢;have e3:s₂.heap.push { cls:=.type "list",dict:=none,data:=.seq ([]:List Value).toArray }=G.heap:=by grind
 have o3:({ s₂ with heap:=Z,toks:=s₂.toks+([]:List (Str×Value)).length }:Ah)={ G with heap:=Z,toks:=s₂.toks }:=by grind
 have b1:G.heap.objs.size=D+1:=by rw[<- e3,Ft,b0]
 rw[e3] at B F ⊢;have a7:∀b o,s₂.heap.get? b=some o->G.heap.get? b=some o:=λb o e=>by rw[<- e3];exact Ag _ e
 generalize a3:G.heap.objs.size=C at B F ⊢;have hk:=λb o e=>F.extBut b o (by rw[<- a3];exact Bl (As e)) (Ag _ e);have b8:∀b∈fp,∃o,s₂.heap.get? b=some o:=λb I=>by obtain⟨o,e,_⟩:=T.obj 0 _ st b I;exact⟨o,e⟩
 have b9:∀b∈fp,b≠D:=λb I=>by obtain⟨o,e⟩:=b8 b I;rw[<- b0];exact Bl (As e)
 have c0:∀b∈fp,FpOk X h (upd H1 D (.lst [])) b:=λb I=>⟨by rw[q0g (b9 b I)];exact(hf b I).1,(hf b I).2⟩
 have IY:=Inv.ofcomp (tk:=s₂.toks) tg I3 U b6 d1 d2 c0 (λb I=>let ⟨o,e⟩:=b8 b I;⟨o,a7 b o e⟩) (Fb a3) B hk co;have FC:FpOk X h H1 C:=by
  have z:=I3.fpOk (H':=H1) (Fb a3) (I2.hok.fresh (by rw[b0,<- a3,b1];exact Kr _));exact z
 generalize hY:cxComp X (tg++caps.map (·.1)) scope cl C fp G (upd H1 D (.lst []))=Y at IY;have d4:PG Y target g:=by grind
 have d5:PIfs Y ifs tt:=by grind
 have d6:PE Y elt te:=by grind
 have O:Y.prog=X.prog:=by rw[<- hY];rfl
 have P:Y.w=X.w:=by rw[<- hY];rfl
 have c1:Y.K=X.K:=by rw[<- hY];rfl
 have S:Y.A=X.A:=by rw[<- hY];rfl
 have a0:Y.env=De scope cl C X.env:=by rw[<- hY];rfl
 have a4:Y.ex=fp:=by rw[<- hY];rfl
 have e8:Y.pn=[]:=by rw[<- hY];rfl
 have c2:Y.calm=true:=by rw[<- hY];exact hc
 have R:Y.xe=λ_ _=>False:=by rw[<- hY];rfl
 have b2:∀{H':Hp},(∀b∈fp,H' b=none)->∀b∈fp,FpOk Y [] H' b:=λ{H'} hn b I=>by
  refine⟨hn b I,?_,?_,.inl (by rw[a4];exact I),λx c e=>?_,λp hp=>?_⟩
  ·have:=(IY.ok.exf b (by rw[a4];exact I)).1;exact this
  ·exact IY.ok.exfs b (by rw[a4];exact I)
  ·exact(IY.ok.exf b (by rw[a4];exact I)).2 x c e
  ·grind
 obtain⟨W,⟨m0,w0⟩,c3⟩:=hw D a9;have c4:=T.keep 0 _ _ st λb I o e=>hk b o (a7 b o e)
 have c5:∀{H':Hp} {s':Ah} {a1:St},Inv Y [] a1 H' s'->Inv X h j H' s':=λ{H' s' a1} M=>by
  have c6:=M.base;have c7:=M.os;rw[<- hY] at c6 c7;exact I3.call' c7 c6 (by have z:=M.hok;rw[O,P] at z;exact z) M.bare λb I=>⟨(hf b I).2.2.2.1,(hf b I).2.1,(hf b I).2.2.2.2.1,(hf b I).2.2.2.2.2⟩
 have gY:∀h s j H v u Q (L:Value->Ah->Prop),Inv Y h j H s->RelV v u->g v j H Q->wpAny (model X.prog X.w) X.A (assign target (De scope cl C X.env) u) (λ_ s'=>∃a1 H',Inv Y h a1 H' s'/\Q a1 H') L s:=λh s j H v u Q L M r q=>by
  have z:=d4 h s j H v u Q M r q;rw[O,P,S,a0,R] at z;exact Bs z (λ_ _ x=>x) λ_ _ f=>f.elim
 have tY:∀h s j H Q (L:Value->Ah->Prop),Inv Y h j H s->tt j H Q->wpAny (model X.prog X.w) X.A (forIn ifs true λc r=>if r=true then do let ok<-isTrue c (De scope cl C X.env) (eval c (De scope cl C X.env));pure (ForInStep.yield ok) else pure (ForInStep.yield r)) (TP Y h j Q) L s:=λh s j H Q L M q=>by
  have z:=d5 h s j H Q M q;rw[O,P,S,a0,R] at z;exact Bs z (λ_ _ x=>x) λ_ _ f=>f.elim
 have eY:∀h s j H Q (L:Value->Ah->Prop),Inv Y h j H s->te j H Q->wpAny (model X.prog X.w) X.A (eval elt (De scope cl C X.env)) (EP Y h j Q) L s:=λh s j H Q L M q=>by
  have z:=d6 h s j H Q M q;rw[O,P,S,a0,R] at z;exact Bs z (λ_ _ x=>x) λ_ _ f=>f.elim
 have aY:∀h s j H ys v u Q (L:Value->Ah->Prop),Inv Y h j H s->RelV v u->H D=some (.lst ys)->ys.length<sizeLine->Q .non (upd H D (.lst (ys++[v])))->wpAny (model X.prog X.w) X.A (call (.builtin "list.append") [.ref D,u]) (EP Y h j Q) L s:=λh s j H ys v u Q L M r hH hz q=>by
  have z:=q1i h s j H (.ref D) [v] (.ref D) [u] Q M rfl (.cons r .nil) ⟨D,ys,v,rfl,rfl,hH,hz,q⟩;rw[O,P,S,R] at z;exact Bs z (λ_ _ x=>x) λ_ _ f=>f.elim
 have d7:∀i h s j H (L:Value->Ah->Prop),Inv Y h j H s->(∀b∈fp,FpOk Y h H b)->tn i s.heap->J.go i H ->
   wpAny (model X.prog X.w) X.A (Hr (.ref it)) (λr s1=>∃u,r=some u /\
    wpAny (model X.prog X.w) X.A (Iy target (.ref it) u) (λ_ s2=>∃x H',Inv Y h j H' s2/\RelV x u/\J.yld i H x H'/\tn (i+1) s2.heap/\∀b∈fp,H' b=none) L s1) L s:=λi h s j H L M b3 st go=>by
  have z:=T.item Y O P c1 c2 i h s j H L M b3 st go;rw[S] at z;exact z
 have d8:∀i h s j H (L:Value->Ah->Prop),Inv Y h j H s->(∀b∈fp,FpOk Y h H b)->tn i s.heap->J.stop i H ->
   wpAny (model X.prog X.w) X.A (Hr (.ref it)) (λr s1=>r=none/\Inv Y h j H s1) L s:=λi h s j H L M b3 st go=>by
  have z:=T.done Y O P c1 c2 i h s j H L M b3 st go;rw[S] at z;exact z
 have a8:Ey (model X.prog X.w) X.A (.compLoop (.ListComp elt [⟨target,iter,ifs,0⟩] scope pos) 0 (.ref it) (.ref D) (De scope cl C X.env)) (RR (.ref D) C) { G with heap:=Z,toks:=s₂.toks }:=by
  refine Rc rfl (λn s'=>∃i ys H',Inv Y [] (tg0 tg j caps) H' s'/\tn i s'.heap/\(∀b∈fp,H' b=none)/\W i n ys H') ?_ m0 ⟨0,[],_,IY,c4,λb I=>(c0 b I).1,w0⟩;rintro n s4 ⟨i,ys,H4,I4,c8,c9,w4⟩;refine Sn ?_;obtain⟨e9,d9⟩:=c3 i n ys H4 w4;rcases d9 with⟨stop,e0⟩|⟨go,N,hN,step⟩
  ·refine Ac (Cw (Ac (thn (d8 i [] s4 _ H4 _ I4 (b2 c9) c8 stop) λr s5 ⟨hr,I5⟩=>?_)));subst hr;refine Ad (d3 D C ys H4 s5 a9 (c5 I5) ?_ ⟨?_,FC.2⟩ e0)
   ·obtain⟨m,hm,_⟩:=I5.loc;rw[a0] at hm;exact⟨m,hm⟩
   ·have z:=I5.free;rw[a0] at z;exact z
  ·refine Ac (Cw (Ac (thn (d7 i [] s4 _ H4 _ I4 (b2 c9) c8 go) λr s5 qz=>?_)));obtain⟨u,hr,h5⟩:=qz;subst hr;refine Ac (thn h5 λ_ s6 qz=>?_);obtain⟨x,H6,I6,r6,y6,b4,e1⟩:=qz;have I6':=I6.pinned (b2 e1) (T.obj _ _ b4);refine Ac (thn (gY _ s6 _ H6 x u _ _ I6' r6 (step x H6 y6)) λ_ s7 qz=>?_);obtain⟨a5,H7,I7,kp,q7⟩:=qz;refine Ac (thnT (tY _ s7 a5 H7 _ _ I7 q7) λb s8 H8 I8 q8=>?_);have a2:∀{H9:Hp} {s9:Ah} {zs:List V} {m':Nat},Inv Y ([]++pinsAt fp s6.heap) a5 H9 s9->m'<n->W (i+1) m' zs H9->∃m,m<n/\∃i ys H',Inv Y [] (tg0 tg j caps) H' s9/\tn i s9.heap/\(∀b∈fp,H' b=none)/\W i m ys H':=λ{H9 s9 zs m'} I9 hm w9=>by
    refine⟨m',hm,i+1,zs,H9,I9.unpinned.weak kp.1 kp.2,T.keep _ _ _ b4 λb I o e=>(I9.pin (b,o) (Bf _ (Bf _ (q1m I e)))).1,λb I=>?_,w9⟩;obtain⟨o,e,d⟩:=T.obj _ _ b4 b I;exact(I9.pin (b,o) (Bf _ (Bf _ (q1m I e)))).2.1
   cases b with
   |true =>
    refine Ac (Ac (thnE (eY _ s8 a5 H8 _ _ I8 q8) λv s9 vv H9 I9 r9 qz=>?_));obtain⟨e2,e4,n9⟩:=qz;obtain⟨m',b5,w9⟩:=hN _ _ n9;refine Ac (thnE (aY _ s9 a5 H9 ys vv v (λ_ d0=>W (i+1) m' (ys++[vv]) d0) _ I9 r9 e2 e4 w9) λ_ f1 _ d0 e5 _ e6=>?_);exact Ad (Ad ⟨rfl,a2 e5 b5 e6⟩)
   |false =>
    obtain⟨m',b5,w8⟩:=hN _ _ q8;exact Ad ⟨rfl,a2 I8 b5 w8⟩
 rw[o3];exact So a8 (T.self _ 0 _ _ _ c4 a8)
noncomputable def isCF(k:Option Bk):Bool:=k==some .cell||k==some .free
noncomputable def capChk(N:List Str)(names outer:List (Str×Bk)):Caps->Bool
 |[]=>true
 |(x,i)::r=>decide (N[i]?=some x)&&(names.lookup x==some .free)&&isCF (outer.lookup x)&&capChk N names outer r
noncomputable def compChk(N:List Str)(outer scope:Scope)(caps:Caps):Bool :=
 (scope.kind==.function)&&(scope.names.all λy=>y.2 != .cell&&(y.2 != .local||scope.names.lookup y.1==some .local)&&(y.2 != .free||isCF (outer.names.lookup y.1)))&&capChk N scope.names outer.names caps
def z9p(h:isCF k=true):k=some .cell\/k=some .free:=by
 unfold isCF at h;simpa using h
theorem z2i:∀{caps},capChk X.N scope.names X.env.scope.names caps=true->CapOk X scope caps
 |[],_=>trivial
 |(x,i)::r,h=>by
  unfold capChk at h;simp only[Jz] at h;obtain⟨⟨⟨f,g⟩,j⟩,o⟩:=h;exact⟨⟨of_decide_eq_true f,by simpa using g,z9p j⟩,z2i o⟩
def q4k(h:compChk X.N X.env.scope scope caps=true):
  scope.kind=.function/\(∀y∈scope.names,y.2≠.cell)/\(∀y∈scope.names,y.2=.local->scope.names.lookup y.1=some .local)/\(∀x,(x,Bk.free)∈scope.names->X.env.scope.names.lookup x=some .cell\/X.env.scope.names.lookup x=some .free)/\CapOk X scope caps:=by
 unfold compChk at h;simp only[Jz,Ik] at h;obtain⟨⟨j,f⟩,o⟩:=h;refine⟨by simpa using j,λy g e=>?_,λy g e=>?_,λx s=>?_,z2i o⟩
 ·have z:=(f y g).1.1;rw[e] at z;simp at z
 ·have z:=(f y g).1.2;rw[e] at z;simpa using z
 ·have z:=(f _ s).2;exact z9p (by simpa using z)
noncomputable def tComp(wi:TI)(g:TG)(tt:TT)(te:TE)(tg:List Str)(caps:Caps):TE:=λσ H Q=>wi σ H λJ H1=>∀D,H1 D=none->CompW J g tt te (tg0 tg σ caps) D (λ_ H'=>Q (.ref D) H') H1
section
variable{X:Cx}{iter target elt:Expr}{ifs:List Expr}{scope:Scope}{pos:Pos}{wi:TI}{g:TG}{tt:TT}{te:TE}
def q9w{g:St}(I:Inv X pins g H s)(f:∀x,(x,Bk.free)∈scope.names->X.env.scope.names.lookup x=some .cell\/X.env.scope.names.lookup x=some .free):
  ∃cl,Xq scope X.env=pure cl/\(∀x c,cl.lookup x=some c->X.env.cells.lookup x=some c)/\∀x,(x,Bk.free)∈scope.names->∃c,cl.lookup x=some c :=
 z7x λx h=>I.ok.has x (f x h)
def q4l(M)(f)(Z:X.calm=true)(hi:PI X target iter wi)(hg:∀cl C u s H,PG (cxComp X (M++f.map (·.1)) scope cl C u s H) target g)(ht:∀cl C u s H,PIfs (cxComp X (M++f.map (·.1)) scope cl C u s H) ifs tt)(he:∀cl C u s H,PE (cxComp X (M++f.map (·.1)) scope cl C u s H) elt te)(hk:compChk X.N X.env.scope scope f=true:=by rfl)(hs:∀x,Fx iter X.env x=pure x:=by intro _;rfl):
  PE X (.ListComp elt [⟨target,iter,ifs,0⟩] scope pos) (tComp wi g tt te M f):=by
 intro L s σ H Q I h;obtain⟨j,O,B,E,co⟩:=q4k hk;obtain⟨cl,G,P,R⟩:=q9w I E;refine Il rfl hs G j B (thn (hi L s σ H _ I h) λv s1 h1=>thn h1 λa0 s2 h2=>?_);obtain⟨it,u,tn,J,H2,e,I2,T,S,f2,hw⟩:=h2;subst e;refine z6e Z j O P R co (λC s H=>hg cl C u s H) (λC s H=>ht cl C u s H) (λC s H=>he cl C u s H) I2 T S f2 hw ?_;intro D C ys H' s' hD I' U F W;obtain⟨m,U⟩:=U;refine⟨m,U,λh' Y=>⟨.ref D,H',I'.turned (t':=s'.toks) (λb o hb e=>(Y.2 b hb).trans e) F.1 F.2.1 F.2.2.2.1 F.2.2.2.2.1 F.2.2.2.2.2,rfl,W⟩⟩
noncomputable def tSetC(wi:TI)(g:TG)(tt:TT)(te:TE)(tg:List Str)(caps:Caps)(i:Nat):TS:=λD' σ H=>wi σ H λJ H1=>∀D,H1 D=none->CompW J g tt te (tg0 tg σ caps) D (λ_ H'=>D'.nx (σ.set i (some (.ref D))) H') H1
def q9x{O E}(P)(f)(hN:X.N.Nodup)(Q:X.N[i]?=some y)(hx:Loc X.env.scope y)(hc:X.calm=true)(hi:PI X target iter wi)(hg:∀cl C u s H,PG (cxComp X (P++f.map (·.1)) scope cl C u s H) target g)(ht:∀cl C u s H,PIfs (cxComp X (P++f.map (·.1)) scope cl C u s H) ifs tt)(he:∀cl C u s H,PE (cxComp X (P++f.map (·.1)) scope cl C u s H) elt te)(hk:compChk X.N X.env.scope scope f=true:=by rfl)(hs:∀x,Fx iter X.env x=pure x:=by intro _;rfl)(R:Iw (.ListComp elt [⟨target,iter,ifs,0⟩] scope pos) (some (.Name y O)) E.line X.env=pure true:=by rfl)(hf:X.fn y=true\/X.env.scope.names.lookup y=some .local:=by trivial):
  PS X (.Assign [.Name y O] (.ListComp elt [⟨target,iter,ifs,0⟩] scope pos) E) (tSetC wi g tt te P f i):=by
 intro G s σ H D' I h;obtain⟨j,S,B,L,co⟩:=q4k hk;obtain⟨cl,M,U,W⟩:=q9w I L;rw[Tc _ _ _ _ R];refine Ac (Cw (Ac ?_));refine Ac (Bs (Il (use:=some (assign (.Name y O) X.env)) rfl hs M j B
  (thn (hi G s σ H _ I h) λv s1 h1=>thn h1 λa6 s2 h2=>?_)) (λ_ Y hq=>Ad (Ad hq)) λ_ _ e=>e)
 obtain⟨it,u,tn,J,H2,e,I2,T,Z,f2,hw⟩:=h2;subst e;refine z6e (RR:=λacc C=>compPost (model X.prog X.w) X.A X.xe (some (assign (.Name y O) X.env)) (λ_ Y=>SP X G D' .next Y) acc C) (Fin:=λD _ H'=>D'.nx (σ.set i (some (.ref D))) H') hc j S U W co (λC s H=>hg cl C u s H) (λC s H=>ht cl C u s H) (λC s H=>he cl C u s H) I2 T Z f2 hw ?_;intro D C ys H' Y hD I' hm F a0;obtain⟨m,hm⟩:=hm;refine Qj (q6w (v:=.ref D) I' hN Q hx rfl (λa1 a2 a3=>?_) hf);obtain⟨a,sb,ha⟩:=a3;have a4:C≠a:=by
  rcases ha with ha|ha
  ·rw[ha];exact F.2.1
  ·exact λz=>F.2.2.2.2.1 y a ha z.symm
 refine⟨m,hm.sameBut sb a4,λh' a5=>?_⟩;exact⟨_,H',a2.turned (t':=a1.toks) (λb o hb e=>(a5.2 b hb).trans e) F.1 F.2.1 F.2.2.2.1 F.2.2.2.2.1 F.2.2.2.2.2,a0⟩
end
def q9y{Fin}(f:Nat->List V->Hp->Prop)(C:f 0 [] (upd H1 D (.lst [])))(hl:∀i ys H,f i ys H->H D=some (.lst ys))(o:∀i ys H,i<n->f i ys H->J.go i H)(s:∀ys H,f n ys H->J.stop n H)(E:∀i ys H x H',i<n->f i ys H->J.yld i H x H'->g x σ0 H' λh F=>Keeps0 σ0 h/\tt h F λb u =>
   if b=true then te h u λv B=>B D=some (.lst ys)/\ys.length<sizeLine/\f (i+1) (ys++[v]) (upd B D (.lst (ys++[v]))) else f (i+1) ys u)(hd:∀ys H,f n ys H->Fin ys H):CompW J g tt te σ0 D Fin H1:=by
 refine⟨λi m ys H=>m=n-i/\i<=n/\f i ys H,⟨n,by simp,Ba _,C⟩,?_⟩;rintro i m ys H ⟨rfl,G,p⟩;refine⟨hl i ys H p,?_⟩;by_cases j:i<n
 ·exact .inr ⟨o i ys H j p,f (i+1),λI H' q=>⟨n-(i+1),by lia,rfl,j,q⟩,λx H' y=>E i ys H x H' j p y⟩
 ·grind
def z7y{lo}{Fin}(f:Nat->List V->Hp->Prop)(u:f 0 [] (upd H1 D (.lst [])))(hl:∀i ys H,f i ys H->H D=some (.lst ys))(B:∀i ys H,i<n->f i ys H->g (.int (lo+i)) σ0 H λj C=>Keeps0 σ0 j/\tt j C λb o =>
   if b=true then te j o λv s=>s D=some (.lst ys)/\ys.length<sizeLine/\f (i+1) (ys++[v]) (upd s D (.lst (ys++[v]))) else f (i+1) ys o)(hd:∀ys H,f n ys H->Fin ys H):CompW (Itr lo n) g tt te σ0 D Fin H1 :=
 q9y f u hl (λi ys H h _=>h) (λys H _=>Aj _) (λi ys H x E h p y=>by obtain⟨e,y⟩:=y;subst e y;exact B i ys _ h p) hd
def q3v{K}{Fin}(f:Nat->List V->Hp->Prop)(u:f 0 [] (upd H1 D (.lst [])))(hl:∀i ys H,f i ys H->H D=some (.lst ys)/\SqL K H a xs)(B:∀i ys H x,xs[i]?=some x->f i ys H->g x σ0 H λj C=>Keeps0 σ0 j/\tt j C λb o =>
   if b=true then te j o λv s=>s D=some (.lst ys)/\ys.length<sizeLine/\f (i+1) (ys++[v]) (upd s D (.lst (ys++[v]))) else f (i+1) ys o)(hd:∀ys H,f xs.length ys H->Fin ys H):CompW (Itl K a) g tt te σ0 D Fin H1 :=
 q9y f u (λi ys H p=>(hl i ys H p).1) (λi ys H h p=>⟨xs,xs[i],(hl i ys H p).2,by simp[h]⟩) (λys H p=>⟨xs,(hl _ ys H p).2,Aj _⟩)
  (λi ys H x E h p y=>by obtain⟨e,y⟩:=y;subst e;exact B i ys _ x (y xs (hl i ys _ p).2) p) hd
def x3v{K}{Fin}(f:Nat->List V->Hp->Prop)(u:f 0 [] (upd H1 D (.lst [])))(hl:∀i ys H,f i ys H->H D=some (.lst ys)/\SqT K H a xs)(B:∀i ys H x,xs[i]?=some x->f i ys H->g x σ0 H λj C=>Keeps0 σ0 j/\tt j C λb o =>
   if b=true then te j o λv s=>s D=some (.lst ys)/\ys.length<sizeLine/\f (i+1) (ys++[v]) (upd s D (.lst (ys++[v]))) else f (i+1) ys o)(hd:∀ys H,f xs.length ys H->Fin ys H):CompW (Itt K a) g tt te σ0 D Fin H1 :=
 q9y f u (λi ys H p=>(hl i ys H p).1) (λi ys H h p=>⟨xs,xs[i],(hl i ys H p).2,by simp[h]⟩) (λys H p=>⟨xs,(hl _ ys H p).2,Aj _⟩)
  (λi ys H x E h p y=>by obtain⟨e,y⟩:=y;subst e;exact B i ys _ x (y xs (hl i ys _ p).2) p) hd
def q1q{r:St}:Keeps0 (none::r) (v::r):=⟨rfl,λi w h=>by
 cases i with
 |zero=>cases h
 |succ i=>exact h⟩
def q5n{r:St}:Keeps0 (none::none::r) (v::w::r):=⟨rfl,λi u h=>by
 cases i with
 |zero=>cases h
 |succ i=>cases i with
  |zero=>cases h
  |succ i=>exact h⟩
section
variable{X:Cx}
noncomputable def rSlS:V->Option Int->Option Int->Hp->VK->Prop:=λx lo hi H Q=>∃z,x=.str z/\z.length<=sizeLine/\Q (.str (Yj z lo hi)) H
def q7g(h:Mo v o):∃p,v=partValue p/\o=p.map (·.1):=by
 cases h with
 |none=>exact⟨none,rfl,rfl⟩
 |int i t=>exact⟨some (i,t),rfl,rfl⟩
def sl_str:SlR X rSlS:=by
 intro f s G H x v J L lo M O Q I g j o u h;obtain⟨z,rfl,B,q⟩:=h;obtain⟨t,rfl⟩:=g;obtain⟨C,rfl,rfl⟩:=q7g o;obtain⟨D,rfl,rfl⟩:=q7g u;refine⟨"str",_,F.slot_str_getitem.lookup,Jb _ _ _,wpAny_getItem_str_slice (st:=none) j rfl
  (post_val_or_str ⟨Ay (Txt.slice_le z _ _) B,λE k=>⟨.str (Yj z (C.map (·.1)) (D.map (·.1))),H,I.tok _,⟨E,rfl⟩,q⟩⟩)⟩
noncomputable def rLower:V->List V->Hp->VK->Prop:=λx vs H Q=>∃z,x=.str z/\vs=[]/\3*z.length<=sizeLine/\Q (.str (Pj z)) H
def fit3(h:n<=3*m)(f:3*m<=sizeLine):Ea.Str.tooLong n=false:=by
 exact decide_eq_false (by lia)
def q2f:MtM X "str.lower" rLower:=by
 intro f s u H x vs v B Q I g j h;obtain⟨z,rfl,rfl,o,q⟩:=h;obtain⟨t,rfl⟩:=g;cases j.zero;exact SC.lower (fit3 (len_lower z) o) ⟨.str _,H,I.tok _,⟨_,rfl⟩,q⟩
noncomputable def rUpper:V->List V->Hp->VK->Prop:=λx vs H Q=>∃z,x=.str z/\vs=[]/\3*z.length<=sizeLine/\Q (.str (Pk z)) H
def q6n:MtM X "str.upper" rUpper:=by
 intro f s u H x vs v B Q I g j h;obtain⟨z,rfl,rfl,o,q⟩:=h;obtain⟨t,rfl⟩:=g;cases j.zero;exact SC.upper (fit3 (len_upper z) o) ⟨.str _,H,I.tok _,⟨_,rfl⟩,q⟩
theorem q5o:∀{ys} {us},Vals (ys.map V.str) us->Kt us ys
 |[],_,.nil=>.nil
 |y::ys,_,.cons r t=>by obtain⟨k,rfl⟩:=r;exact .cons y k (q5o t)
theorem q4s:∀ l ,Vals ((l.map (·.1)).map V.str) (strValues l)
 |[]=>.nil
 |(x,t)::r=>.cons ⟨t,rfl⟩ (q4s r)
noncomputable def rJoin(K:Ai):V->List V->Hp->VK->Prop:=λx vs H Q=>∃(z:Str) (p:Addr) (ys:List Str),x=.str z/\vs=[.ref p]/\(SqL K H p (ys.map V.str)\/SqT K H p (ys.map V.str))/\(ys.map (·.length)).sum+ys.length*z.length<=16777216/\Q (.str (Uh z ys)) H
def x8n:MtM X "str.join" (rJoin X.K):=by
 intro o s G H x vs v J Q I C D h;obtain⟨z,p,L,rfl,rfl,f,B,q⟩:=h;obtain⟨t,rfl⟩:=C;obtain⟨u,rfl,E⟩:=D.one;cases E;rcases f with f|f
 ·obtain⟨g,r,j,_⟩:=I.list f;exact join_list j.isList (q5o (by simpa using r)) B λF k=>⟨.str _,H,I.tok _,⟨_,rfl⟩,q⟩
 ·obtain⟨g,r,j,_⟩:=I.tuple f;exact join_tuple j (q5o (by simpa using r)) B λF k=>⟨.str _,H,I.tok _,⟨_,rfl⟩,q⟩
noncomputable def rSplit:V->List V->Hp->VK->Prop:=λx vs H Q=>∃z y,x=.str z/\vs=[.str y]/\(y.length==0)=false/\z.length+1<=sizeLine/\(Pl z y).length<=sizeLine/\(Ea.Str.partsBetween z (Ex z y 0 z.length (z.length+1)) y.length).length<=sizeLine/\∀p,H p=none->Q (.ref p) (upd H p (.lst ((Pl z y).map V.str)))
def x3w:MtM X "str.split" rSplit:=by
 intro g s D H x vs v J Q I E F h;obtain⟨z,y,rfl,rfl,C,L,o,B,q⟩:=h;obtain⟨t,rfl⟩:=E;obtain⟨u,rfl,G⟩:=F.one;obtain⟨j,rfl⟩:=G;have f:∀(l:List (Str×Tok)) (tk:Nat),l.map (·.1)=Pl z y->EP X g D Q (.ref s.heap.objs.size) { s with toks:=tk,heap:=s.heap.push { cls:=.type "list",data:=.seq (strValues l).toArray } }:=λl tk e=>by
  refine⟨.ref s.heap.objs.size,_,I.lnew (t':=tk) (by rw[<- e];exact q4s l) (by rw[Ae];exact o),rfl,q _ I.fresh⟩
 cases h1:(decide (z.length<y.length)||decide (Uv z<Uv y))
 ·cases hf:(Ex z y 0 z.length (z.length+1)).isEmpty
  ·refine Kb Rf (Jb _ _ _) Qm (Pm _ _) (meets_str_split_sep z y t j h1 C hf (by lia) B) ?_;rw[strsFrom_eq];exact f (numbered s.toks _) _ ((numbered_texts _ _).trans ((if_neg (ne_true_of_eq_false h1)).trans (if_neg (ne_true_of_eq_false hf))).symm)
  ·exact Kb Rf (Jb _ _ _) Qm (Pm _ _) (meets_str_split_not_found z y t j h1 C hf)
    (f [(z,t)] _ ((if_neg (ne_true_of_eq_false h1)).trans (if_pos hf)).symm)
 ·exact Kb Rf (Jb _ _ _) Qm (Pm _ _) (meets_str_split_cannot_occur z y t j h1)
   (f [(z,t)] _ (if_pos h1).symm)
noncomputable def rMulS:R2:=λx y H Q=>∃z n,x=.str z/\y=.int n/\MulOk z n/\Q (.str (Txt.mul z n)) H
def op_mulS:OpR X (Gr .Mult) rMulS:=by
 intro f s B H x y v u Q I g j h;obtain⟨z,n,rfl,rfl,o,q⟩:=h;obtain⟨t,rfl⟩:=g;obtain⟨C,rfl⟩:=j;exact SB.mul o λD k=>⟨.str _,H,I.tok _,⟨_,rfl⟩,q⟩
theorem q7h:∀{bs} {us},Vals (bs.map V.bl) us->LSm.BoolsAre us bs
 |[],_,.nil=>.nil
 |b::bs,_,.cons r t=>by cases r;exact .cons b (q7h t)
def x3x(D:X.calm=true):CallR X (.builtin "all") (λxs H Q=>∃(p:Addr) (bs:List Bool),xs=[.ref p]/\SqL X.K H p (bs.map V.bl)/\Q (.bl (bs.all id)) H):=by
 intro o s L H xs M Q I r h;obtain⟨p,bs,rfl,E,q⟩:=h;obtain⟨u,rfl,F⟩:=vals1 r;cases F;obtain⟨f,G,g,O⟩:=I.list E;have B:=q7h G;have j:p<s.heap.objs.size:=by obtain⟨_,e,_⟩:=g.isList;exact As e
 refine call_all_walk (Wc g.isList ?_);refine⟨s.heap.objs.size,[s.heap.objs.size,p],[s.heap.objs.size],f.toArray.size,_,_,λi=>(bs[i]?).getD true,rfl,Walks.list (A:=X.A.in1) (I.ok.hd D) _ p (Bl j) f.toArray,
  ⟨⟨_,Aw _ rfl,rfl,rfl⟩,g.isList.push _⟩,λi v P R S J C=>?_,λT tk hk=>?_⟩
 ·obtain⟨b,e,rfl⟩:=B.get i v (by simpa using J);simp only[e,Option.getD_some] at C;exact Fw C
 ·have e:((List.range f.toArray.size).all λi=>(bs[i]?).getD true)=bs.all id:=by
   rw[Bg,B.length];exact LSm.range_all bs
  rw[e];exact⟨.bl _,H,I.kept (t':=tk) (LSm.kept_iter hk),rfl,q⟩
noncomputable def Its(z:Str):It:=⟨λi _=>i<z.length,λi H x H'=>H'=H/\∃c,z.cps[i]?=some c/\x=.str ⟨#[c]⟩,λi _=>z.length<=i⟩
end
def z9q{K:Ai}(j:Addr)(z:Str)(t:Tok):Turn P w K tg (Its z) [j] j (λi h=>i<=z.length/\h.IsStrIter j "str_ascii_iterator" z t i) where
 mem:=by simp
 obj:=λi h st b u=>by
  have e:b=j:=by grind
  subst e;obtain⟨_,o,e,c,d⟩:=st;exact⟨o,e,λv z=>by rw[d] at z;cases z⟩
 keep:=λi h D st k=>⟨st.1,let ⟨o,e,c,d⟩:=st.2;⟨o,k j (by simp) o e,c,d⟩⟩
 item:=by
  intro X S T U Q i f s R H E I B st C;obtain⟨f0,F,W,G,J,L⟩:=B j (by simp);have M:i<z.cps.size:=C;refine wpAny_pyNext_ascii_item st.2 (c:=z.cps[i]) (by simp[M]) λD g O=>?_;have Y:Inv X f R H { s with heap:=D,toks:=s.toks+1 }:=I.turned (λb o u e=>(O.2 b u).trans e) f0 F G J L;obtain⟨o,e,c,d⟩:=id g;exact⟨_,rfl,z4m e c d (by decide) ⟨.str ⟨#[z.cps[i]]⟩,H,Y,⟨_,rfl⟩,⟨rfl,_,by simp[M],rfl⟩,⟨C,g⟩,λb u=>(B b u).1⟩⟩
 done:=by
  intro X S T U Q i f s R H E I B st C;obtain⟨f0,F,W,G,J,L⟩:=B j (by simp);have M:z.cps.size<=i:=C;exact wpAny_pyNext_ascii_end (I.ok.hd Q) st.2 (by simp;lia) λD Z=>⟨rfl,I.turned (t':=s.toks) (λb o u e=>Z b o u e) f0 F G J L⟩
 self:=λ_ _ _ _ _ st h=>wpAny_pyIter_striter_ascii st.2 h
def z9r{K:Ai}(j:Addr)(z:Str)(t:Tok):Turn P w K tg (Its z) [j] j (λi h=>i<=z.length/\h.IsStrIter j "str_iterator" z t i) where
 mem:=by simp
 obj:=λi h st b u=>by
  have e:b=j:=by grind
  subst e;obtain⟨_,o,e,c,d⟩:=st;exact⟨o,e,λv z=>by rw[d] at z;cases z⟩
 keep:=λi h D st k=>⟨st.1,let ⟨o,e,c,d⟩:=st.2;⟨o,k j (by simp) o e,c,d⟩⟩
 item:=by
  intro X S T U Q i f s R H E I B st C;obtain⟨f0,F,W,G,J,L⟩:=B j (by simp);have M:i<z.cps.size:=C;refine wpAny_pyNext_wide_item st.2 (c:=z.cps[i]) (by simp[M]) λD g O=>?_;have Y:Inv X f R H { s with heap:=D,toks:=s.toks+1 }:=I.turned (λb o u e=>(O.2 b u).trans e) f0 F G J L;obtain⟨o,e,c,d⟩:=id g;exact⟨_,rfl,z4m e c d (by decide) ⟨.str ⟨#[z.cps[i]]⟩,H,Y,⟨_,rfl⟩,⟨rfl,_,by simp[M],rfl⟩,⟨C,g⟩,λb u=>(B b u).1⟩⟩
 done:=by
  intro X S T U Q i f s R H E I B st C;obtain⟨f0,F,W,G,J,L⟩:=B j (by simp);have M:z.cps.size<=i:=C;exact wpAny_pyNext_wide_end (I.ok.hd Q) st.2 (by simp;lia) λD Z=>⟨rfl,I.turned (t':=s.toks) (λb o u e=>Z b o u e) f0 F G J L⟩
 self:=λ_ _ _ _ _ st h=>wpAny_pyIter_striter_wide st.2 h
def x8o{g:TG}{tb:TS}{D:Ends}(h:Nat->St->Hp->Prop)(B:h 0 f H)(C:∀i c f H,z.cps[i]?=some c->h i f H->g (.str ⟨#[c]⟩) f H λj u=>tb { D with nx:=h (i+1),ct:=h (i+1),bk:=D.nx } j u)(hd:∀f H,h z.length f H->D.nx f H):
  ∃W:Nat->Nat->St->Hp->Prop,(∃m,W 0 m f H)/\∀i m f H,W i m f H ->
   ((Its z).stop i H/\D.nx f H)\/((Its z).go i H/\∃N,(∀o H',N o H'->∃v,v<m/\W (i+1) v o H')/\∀x H',(Its z).yld i H x H'->g x f H' λj u=>tb { D with nx:=N,ct:=N,bk:=D.nx } j u):=by
 refine⟨λi m f H=>m=z.length-i/\i<=z.length/\h i f H,⟨z.length,by simp,Ba _,B⟩,?_⟩;rintro i m f H ⟨rfl,G,p⟩;by_cases s:i<z.length
 ·refine .inr ⟨s,h (i+1),λo H' E=>⟨z.length-(i+1),by lia,rfl,s,E⟩,λx H' y=>?_⟩;obtain⟨e,c,F,y⟩:=y;subst e y;exact C i c f _ F p
 ·have e:i=z.length:=by lia
  subst e;exact .inl ⟨Aj _,hd f H p⟩
def q9z{Fin}(f:Nat->List V->Hp->Prop)(u:f 0 [] (upd H1 D (.lst [])))(hl:∀i ys H,f i ys H->H D=some (.lst ys))(B:∀i ys H c,z.cps[i]?=some c->f i ys H->g (.str ⟨#[c]⟩) σ0 H λj C=>Keeps0 σ0 j/\tt j C λb o =>
   if b=true then te j o λv s=>s D=some (.lst ys)/\ys.length<sizeLine/\f (i+1) (ys++[v]) (upd s D (.lst (ys++[v]))) else f (i+1) ys o)(hd:∀ys H,f z.length ys H->Fin ys H):CompW (Its z) g tt te σ0 D Fin H1 :=
 q9y f u hl (λi ys H h _=>h) (λys H _=>Aj _) (λi ys H x F h p y=>by obtain⟨e,c,E,y⟩:=y;subst e y;exact B i ys _ c E p) hd
structure Vw (K) (H) (h:Heap):Prop where
 lst:∀a xs,SqL K H a xs->∃its,Vals xs its/\h.IsList a its.toArray
 tup:∀a xs,SqT K H a xs->∃its,Vals xs its/\h.IsTuple a its.toArray
def SqL.ne{K}(h:SqL K H a xs)(f:H b=none)(hk:K.lookup b=none):a≠b:=by
 rintro rfl;rcases h with(h|⟨o,h⟩)|⟨o,_,_,h,_⟩
 ·rw[f] at h;cases h
 ·rw[f] at h;cases h
 ·rw[hk] at h;cases h
def SqT.ne{K}(h:SqT K H a xs)(f:H b=none)(hk:K.lookup b=none):a≠b:=by
 rintro rfl;rcases h with(h|⟨o,h⟩)|⟨o,_,_,h,_⟩
 ·rw[f] at h;cases h
 ·rw[f] at h;cases h
 ·rw[hk] at h;cases h
def Vw.but{K}(v:Vw K H h)(j:H b=none)(hk:K.lookup b=none)(k:∀c o,c≠b->h.get? c=some o->h'.get? c=some o):Vw K H h' :=
 ⟨λa g q=>let ⟨f,r,l⟩:=v.lst a g q;⟨f,r,l.at λo e=>k a o (q.ne j hk) e⟩,λa g q=>let ⟨f,r,l⟩:=v.tup a g q;⟨f,r,by
  obtain⟨o,e,z⟩:=l;exact⟨o,k a o (q.ne j hk) e,z⟩⟩⟩
def Vw.linj{K}(v:Vw K H h)(p:SqL K H a xs)(q:SqL K H a ys):xs=ys:=by
 obtain⟨g,r,o,e,_,n,d⟩:=v.lst a xs p;obtain⟨f,j,s,u,_,B,C⟩:=v.lst a ys q;have:g=f:=by grind
 subst this;exact r.inj j
def Inv.vw{g:St}(I:Inv X pins g H s):Vw X.K H s.heap :=
 ⟨λa h q=>let ⟨f,r,l,_⟩:=I.list q;⟨f,r,l.isList⟩,λa h q=>let ⟨f,r,l,_⟩:=I.tuple q;⟨f,r,l⟩⟩
structure Srce (P) (w) (K) (J:It) (it) (st:Nat->Heap->Prop):Prop where
 obj:∀i h,st i h->∃o,h.get? it=some o/\∀v,o.data≠.cell v
 keep:∀i h h',st i h->(∀o,h.get? it=some o->h'.get? it=some o)->st i h'
 item:∀ A   i   s   H   Q   E ,A.handled=none->Vw K H s.heap->H it=none->K.lookup it=none->st i s.heap->J.go i H ->
  (∀u x h' tk,RelV x u->J.yld i H x H->st (i+1) h'->Gd it s.heap h'->Q u { s with heap:=h',toks:=tk })->wpAny (model P w) A (Qs (.ref it)) Q E s
 done:∀ A   i   s   H   Q   E ,A.handled=none->Vw K H s.heap->H it=none->K.lookup it=none->st i s.heap->J.stop i H ->
  (∀h' e,Sq it s.heap h'->(∃o,h'.get? e=some o/\o.cls=.type "StopIteration")->E (.ref e) { s with heap:=h' })->wpAny (model P w) A (Qs (.ref it)) Q E s
def q7i{K:Ai}(a F:Addr):Srce P w K (Itl K a) F (λi h=>h.IsListIter F a i) where
 obj:=λi h st=>by obtain⟨o,e,c,d⟩:=st;exact⟨o,e,λv z=>by rw[d] at z;cases z⟩
 keep:=λi h G st k=>st.at λo e=>k o e
 item:=λA i s H Q E I vw hn hk st go J=>by
  obtain⟨g,x,f,j⟩:=go;obtain⟨B,C,p⟩:=vw.lst a g f;obtain⟨u,L,M⟩:=C.get j;refine wpAny_nextOf_list_item st p (by simpa using L) λG D O=>?_
  exact J u x G s.toks M ⟨rfl,λT R=>by rw[vw.linj R f];exact j⟩ D O
 done:=λA i s H Q E I vw hn hk st stop S=>by
  obtain⟨g,f,j⟩:=stop;obtain⟨B,C,p⟩:=vw.lst a g f;have hl:=C.length;exact wpAny_nextOf_list_end I st p (by simp;lia) S
noncomputable def stStr(it:Addr)(z:Str)(t:Tok)(i:Nat)(h:Heap):Prop:=h.IsStrIter it (Ig z) z t i
def z0a{K:Ai}(C:Addr)(z:Str)(t:Tok):Srce P w K (Its z) C (stStr C z t) where
 obj:=λi h st=>by obtain⟨o,e,c,d⟩:=st;exact⟨o,e,λv z=>by rw[d] at z;cases z⟩
 keep:=λi h u st k=>by obtain⟨o,e,r⟩:=st;exact⟨o,k o e,r⟩
 item:=λA i s H Q E B vw hn hk st go D=>by
  have j:i<z.cps.size:=go;unfold stStr Ig at st;cases ha:z.cps.all (· < 128)
  ·rw[ha] at st;refine wpAny_nextOf_wide_item st (c:=z.cps[i]) (by simp[j]) λu f g=>?_;exact D _ (.str ⟨#[z.cps[i]]⟩) u (s.toks+1) ⟨_,rfl⟩ ⟨rfl,_,by simp[j],rfl⟩ (by unfold stStr Ig;rw[ha];exact f) g
  ·rw[ha] at st;refine wpAny_nextOf_ascii_item st (c:=z.cps[i]) (by simp[j]) λu f g=>?_;exact D _ (.str ⟨#[z.cps[i]]⟩) u (s.toks+1) ⟨_,rfl⟩ ⟨rfl,_,by simp[j],rfl⟩ (by unfold stStr Ig;rw[ha];exact f) g
 done:=λA i s H Q E B vw hn hk st stop F=>by
  have j:z.cps.size<=i:=stop;unfold stStr Ig at st;cases ha:z.cps.all (· < 128)
  ·rw[ha] at st;exact wpAny_nextOf_wide_end B st (by simp;lia) F
  ·rw[ha] at st;exact wpAny_nextOf_ascii_end B st (by simp;lia) F
def Inv.turnedL{B:St}{ch:List Addr}(I:Inv X pins B H s)(k:∀b o,b∉ch->s.heap.get? b=some o->h'.get? b=some o)(g:∀b∈ch,FpOk X pins H b):Inv X pins B H { s with heap:=h',toks:=t' }:=by
 have h:∀b u,H b=some u->b∉ch:=λb u e z=>by rw[(g b z).1] at e;cases e
 refine I.step (g':=s.gens) (d':=s.drawn) (λb j=>?_) (λb o _ _ f e _=>k b o f e) (λb o _ _ f e _=>⟨o.slots,k b o f e⟩) (λ_ _ _ _ n=>n)
  (λb o f e=>?_) (λ_ _ e=>e) (λ_ _ _ e=>e) (λb G e=>⟨#[],by rw[e];simp⟩) (λm C=>?_) (λb u e=>?_) I.bare
 ·exact⟨(g b j).2.2.2.1,(g b j).2.1,(g b j).2.2.2.2.1,(g b j).2.2.2.2.2⟩
 ·exact⟨o,k b o f e⟩
 ·obtain⟨o,D,E,F,r⟩:=C;exact⟨o,D,E,k _ o (λz=>(g _ z).2.1 rfl) F,r⟩
 ·refine(I.hok b u e).stay (λc v f q=>k c v ?_ q) (λ_ q=>q) λ_ _ q=>q;rcases f with z|z
  ·rw[z];exact h b u e
  ·exact h c _ z
def Inv.track{g:St}{T:Addr}(I:Inv X pins g H s)(B:X.s₀.heap.objs.size<=T)(hF:FpOk X pins H T)(new:ObjOk X.prog X.w (upd H T o) s.heap T o):Inv X pins g (upd H T o) s:=by
 have hn:=hF.1;refine⟨I.ok,I.os,I.bare,⟨I.base.keep,I.base.slot,λb f e n C=>?_,I.base.there,λb h e=>?_,λb f u e=>?_,λb D e=>?_⟩,I.loc,I.cell,?_,λx c e=>?_,λp j=>?_,λb u e=>?_,I.len⟩
 ·rw[q0g (Bl (Bp (As e) B))];exact I.base.free b f e n C
 ·have z:=I.base.tups b h e;rw[q0g (q0q z hn)];exact z
 ·have z:=I.base.frzs b f u e;rw[q0g (q0q z hn)];exact z
 ·obtain⟨m,z⟩:=I.base.tbls b D e;exact⟨m,by rw[q0g (q0q z hn)];exact z⟩
 ·rw[q0g (Cp hF.2.1)];exact I.free
 ·rw[q0g (hF.2.2.2.2.1 x c e)];exact I.freeC x c e
 ·obtain⟨e,n,ne,E,d⟩:=I.pin p j;exact⟨e,by rw[q0g (hF.2.2.2.2.2 p j)];exact n,ne,E,d⟩
 ·by_cases v:b=T
  ·subst v;rw[q0c] at e;cases e;exact new
  ·rw[q0g v] at e;exact(I.hok b u e).stay (λ_ _ _ q=>q) (λc q=>by rw[q0g (q0q q hn)];exact q) λc h q=>by rw[q0g (q0q q hn)];exact q
def FpOk.noK{h:St}(I:Inv X pins h H' s)(f:FpOk X pins H b):X.K.lookup b=none:=by
 cases e:X.K.lookup b with
 |none=>rfl
 |some o =>
  have g:=I.ok.mod.kin b o e;rcases f.2.2.2.1 with z|z
  ·exact absurd z (I.ok.noex b o g)
  ·exact absurd (Bp (As (I.ok.bs b o g).1) z) (Hc _)
structure ZipA (z TI TO i1 i2:Addr):Prop where
 TIz:TI≠z
 TOz:TO≠z
 i1z:i1≠z
 i2z:i2≠z
 TITO:TI≠TO
 TIi1:TI≠i1
 TIi2:TI≠i2
 TOi1:TO≠i1
 TOi2:TO≠i2
 i12:i1≠i2
section
variable{prog:Aq}{w:World}{K:Ai}{A:Around}{E:Value->Ah->Prop}{s:Ah}{J1 J2:It}{t1 t2:Nat->Heap->Prop}{z TI TO i1 i2:Addr}{H:Hp}
def z9s{Q:Value->Ah->Prop}(D:ZipA z TI TO i1 i2)(S1:Srce prog w K J1 i1 t1)(S2:Srce prog w K J2 i2 t2)(hh:A.handled=none)(vw:Vw K H s.heap)(nH:∀b∈[z,TI,TO,i1,i2],H b=none)(nK:∀b∈[z,TI,TO,i1,i2],K.lookup b=none)(hz:IsZip s.heap z TI TO .none)(a9:Mq s.heap TI (.ref i1) (.ref i2))(b0:Mq s.heap TO a b)(h1:t1 i s.heap)(h2:t2 i s.heap)(g1:J1.go i H)(g2:J2.go i H)(hQ:∀u v x y h' tk,RelV x u->RelV y v->J1.yld i H x H->J2.yld i H y H->IsZip h' z TI TO (Es s.heap.objs.size)->Mq h' TO u v->t1 (i+1) h'->t2 (i+1) h'->Mq h' s.heap.objs.size u v->h'.objs.size=s.heap.objs.size+1 ->
   (∀c o,c≠z->c≠TO->c≠i1->c≠i2->s.heap.get? c=some o->h'.get? c=some o)->Q (.ref s.heap.objs.size) { s with heap:=h',toks:=tk }):
  wpAny (model prog w) A (Ea.«zip.__next__» ⟨[.ref z],[]⟩) (λb1 s'=>∃v,b1=.done (.ret v)/\Q v s') E s:=by
 show wpAny _ _ (field (.ref z) 2 >>= _) _ _ _;refine Ac (Br hz rfl rfl ?_);refine Ac (Br hz rfl rfl ?_);refine Ac (Gm a9 rfl ?_);refine Ac ?_;refine Ac (Br hz rfl rfl (Ad ?_));refine Ac (Ge ?_);refine Ac (Br hz rfl rfl ?_);refine Ac (Dv hz (by simp) λa6 G f=>?_);replace G:IsZip a6 z TI TO .ellipsis:=G;have O:=vw.but (nH z (by simp)) (nK z (by simp)) λc o hc e=>f.extBut _ _ hc e;refine Ac ?_;refine Ac (Ac (Qe ?_));refine Ac (S1.item _ i _ H _ _ hh O (nH i1 (by simp)) (nK i1 (by simp)) (S1.keep _ _ _ h1 λo e=>f.extBut _ _ D.i1z e) g1 λu x b3 b2 rx yx X g=>Ad ?_);have L:=g.extBut _ _ D.TOi1 (f.extBut _ _ D.TOz b0);refine Ac (Gm L rfl ?_);refine Ac (Nx L λb4 U h=>?_);have Y:=(O.but (nH i1 (by simp)) (nK i1 (by simp)) λc o hc e=>g.extBut _ _ hc e).but (nH TO (by simp)) (nK TO (by simp)) λc o hc e=>h.extBut _ _ hc e;refine Ac (Mr (Ad ?_));refine Ac (Ac (Qe ?_));refine Ac (S2.item _ i _ H _ _ hh Y (nH i2 (by simp)) (nK i2 (by simp)) (S2.keep _ _ _ h2 λo e=>h.extBut _ _ D.TOi2.symm (g.extBut _ _ D.i12.symm (f.extBut _ _ D.i2z e))) g2 λv y b5 Z ry yy a0 B=>Ad ?_);have M:=B.extBut _ _ D.TOi2 U;refine Ac (Gm M rfl ?_);refine Ac (Nx M λF j C=>?_);replace j:Mq F TO u v:=j;refine Ac (Mr (Ad (Ad ?_)));refine Ac (Gm j rfl ?_);refine Ac (Oy ?_);have a7:F.objs.size=s.heap.objs.size:=by rw[C.1,B.1,h.1,g.1,f.1]
 have P:=C.extBut _ _ D.TOz.symm (B.extBut _ _ D.i2z.symm (h.extBut _ _ D.TOz.symm (g.extBut _ _ D.i1z.symm G)));have a1:∀c o,c≠z->c≠TO->c≠i1->c≠i2->s.heap.get? c=some o->F.get? c=some o:=λc o c1 c2 c3 c4 e =>
  C.extBut _ _ c2 (B.extBut _ _ c4 (h.extBut _ _ c2 (g.extBut _ _ c3 (f.extBut _ _ c1 e))))
 have a2:=S1.keep _ _ _ X λo e=>C.extBut _ _ D.TOi1.symm (B.extBut _ _ D.i12 (h.extBut _ _ D.TOi1.symm e));have a3:=S2.keep _ _ _ a0 λo e=>C.extBut _ _ D.TOi2.symm e;have W:=As P;refine Ac ?_;have a4:IsZip (F.push { cls:=.type "tuple",data:=.seq #[u,v] }) z TI TO .ellipsis:=Ag _ P;refine Ac (Dv a4 (by simp) λb6 a5 I=>?_);refine Dv a5 (by simp) λR S J=>?_;have up:∀c o,c≠z->F.get? c=some o->R.get? c=some o:=λc o c1 e=>J.extBut _ _ c1 (I.extBut _ _ c1 (Ag _ e));have T:=J.extBut _ _ (Ez W) (I.extBut _ _ (Ez W) (Aw _ rfl));have a8:R.objs.size=F.objs.size+1:=by rw[J.1,I.1,Ft]
 rw[a7] at S T a8;refine Ad ⟨_,rfl,?_⟩;rw[a7];exact hQ u v x y R Z rx ry yx yy S (up _ _ D.TOz j) (S1.keep _ _ _ a2 λo e=>up _ o D.i1z e) (S2.keep _ _ _ a3 λo e=>up _ o D.i2z e) T a8 λc o c1 c2 c3 c4 e=>up c o c1 (a1 c o c1 c2 c3 c4 e)
def x3y(D:ZipA z TI TO i1 i2)(S1:Srce prog w K J1 i1 t1)(S2:Srce prog w K J2 i2 t2)(hh:A.handled=none)(vw:Vw K H s.heap)(R:∀b∈[z,TI,TO,i1,i2],H b=none)(S:∀b∈[z,TI,TO,i1,i2],K.lookup b=none)(T:IsZip s.heap z TI TO .none)(a1:Mq s.heap TI (.ref i1) (.ref i2))(a2:Mq s.heap TO a b)(h1:t1 i s.heap)(h2:t2 i s.heap)(U:J1.stop i H\/(J1.go i H/\J2.stop i H))(hE:∀h' e tk,(∀c o,c≠z->c≠TO->c≠i1->c≠i2->s.heap.get? c=some o->h'.get? c=some o)->(∃o,h'.get? e=some o/\o.cls=.type "StopIteration")->E (.ref e) { s with heap:=h',toks:=tk }):
  wpAny (model prog w) A (Ea.«zip.__next__» ⟨[.ref z],[]⟩) Q E s:=by
 show wpAny _ _ (field (.ref z) 2 >>= _) _ _ _;refine Ac (Br T rfl rfl ?_);refine Ac (Br T rfl rfl ?_);refine Ac (Gm a1 rfl ?_);refine Ac ?_;refine Ac (Br T rfl rfl (Ad ?_));refine Ac (Ge ?_);refine Ac (Br T rfl rfl ?_);refine Ac (Dv T (by simp) λa5 C g=>?_);have j:=vw.but (R z (by simp)) (S z (by simp)) λc o W e=>g.extBut _ _ W e;refine Ac ?_;refine Ac (Ac (Qe ?_));rcases U with st|⟨g1,st⟩
 ·refine Ac (S1.done _ i _ H _ _ hh j (R i1 (by simp)) (S i1 (by simp)) (S1.keep _ _ _ h1 λo e=>g.extBut _ _ D.i1z e) st λX e f he=>?_);obtain⟨oe,v,F⟩:=he;have G:=f _ _ D.i1z.symm C;have O:e≠z:=λx=>by subst x;rw[G] at v;cases v;simp at F
  refine Dv G (by simp) λM _ h=>hE M e _ (λc o Y _ c3 _ x=>h.extBut _ _ Y (f _ _ c3 (g.extBut _ _ Y x))) ⟨oe,h.extBut _ _ O v,F⟩
 ·refine Ac (S1.item _ i _ H _ _ hh j (R i1 (by simp)) (S i1 (by simp)) (S1.keep _ _ _ h1 λo e=>g.extBut _ _ D.i1z e) g1 λu x X a3 rx yx a4 f=>Ad ?_);have B:=f.extBut _ _ D.TOi1 (g.extBut _ _ D.TOz a2);refine Ac (Gm B rfl ?_);refine Ac (Nx B λM a0 h=>?_);have P:=(j.but (R i1 (by simp)) (S i1 (by simp)) λc o W e=>f.extBut _ _ W e).but (R TO (by simp)) (S TO (by simp)) λc o W e=>h.extBut _ _ W e;refine Ac (Mr (Ad ?_));refine Ac (Ac (Qe ?_));refine Ac (S2.done _ i _ H _ _ hh P (R i2 (by simp)) (S i2 (by simp)) (S2.keep _ _ _ h2 λo e=>h.extBut _ _ D.TOi2.symm (f.extBut _ _ D.i12.symm (g.extBut _ _ D.i2z e))) st λa6 e I he=>?_);obtain⟨oe,v,F⟩:=he;have J:=I _ _ D.i2z.symm (h.extBut _ _ D.TOz.symm (f.extBut _ _ D.i1z.symm C));have O:e≠z:=λx=>by subst x;rw[J] at v;cases v;simp at F
  refine Dv J (by simp) λZ _ L=>hE Z e _ (λc o Y c2 c3 c4 x=>L.extBut _ _ Y (I _ _ c4 (h.extBut _ _ c2 (f.extBut _ _ c3 (g.extBut _ _ Y x))))) ⟨oe,L.extBut _ _ O v,F⟩
end
noncomputable def Itz(J1 J2:It):It:=⟨λi H=>J1.go i H/\J2.go i H,λi H x H'=>∃T x1 x2,H T=none/\J1.yld i H x1 H/\J2.yld i H x2 H/\x=.ref T/\H'=upd H T (.tup [x1,x2]),λi H=>J1.stop i H\/(J1.go i H/\J2.stop i H)⟩
noncomputable def tnZip(z TI TO i1 i2:Addr)(t1 t2:Nat->Heap->Prop)(i:Nat)(h:Heap):Prop:=IsZip h z TI TO .none/\Mq h TI (.ref i1) (.ref i2)/\(∃a b,Mq h TO a b)/\t1 i h/\t2 i h
def x3z{K:Ai}{TI TO:Addr}(D:ZipA z TI TO i1 i2)(Q:Srce P w K J1 i1 t1)(R:Srce P w K J2 i2 t2):
  Turn P w K (.Tuple elts kk pos) (Itz J1 J2) [z,TI,TO,i1,i2] z (tnZip z TI TO i1 i2 t1 t2) where
 mem:=by simp
 obj:=λi h st b j=>by
  obtain⟨G,g,⟨a,c,B⟩,J,L⟩:=st;simp only[Av,Cc,or_false] at j;rcases j with rfl|rfl|rfl|rfl|rfl
  ·simp_all
  ·grind
  ·grind
  ·exact Q.obj i h J
  ·exact R.obj i h L
 keep:=λi h h' st k=>by
  obtain⟨G,g,⟨a,c,B⟩,J,L⟩:=st;exact⟨k z (by simp) _ G,k TI (by simp) _ g,⟨a,c,k TO (by simp) _ B⟩,Q.keep _ _ _ J λo e=>k i1 (by simp) o e,R.keep _ _ _ L λo e=>k i2 (by simp) o e⟩
 item:=by
  intro X U W Y Z i F s σ H E I M st T;subst U W Y;obtain⟨G,g,⟨a,c,B⟩,J,L⟩:=st;have S:s.TypeIs (.ref z) "zip" := ⟨_,G,rfl⟩
  refine Ac (Fe (Cj S Ny
   (Cb Ny S Wz
    (z9s D Q R (I.ok.hd Z) I.vw (λb j=>(M b j).1) (λb j=>(M b j).noK I) G g B J L T.1 T.2 λu v x y h' tk rx ry yx yy a1 a2 a3 a4 a5 a6 a7=>Ad ?_) (Wd _))))
  refine⟨_,rfl,?_⟩;refine wpAny_letOwnedTupleGo_zip a1 λO a0 C=>?_;have k2:∀c o,c∉[z,TI,TO,i1,i2]->s.heap.get? c=some o->O.get? c=some o:=λc o f e=>by
   simp only[Av,Cc,or_false,not_or] at f;exact C.extBut _ _ f.1 (a7 c o f.1 f.2.2.1 f.2.2.2.1 f.2.2.2.2 e)
  have a8:=As G;have I1:Inv X F σ H { s with heap:=O,toks:=tk }:=I.turnedL k2 M;have FT:=I.fpOk (Aj _) I.fresh;have a9:=C.extBut _ _ (Ez a8) a5;have I2:Inv X F σ (upd H s.heap.objs.size (.tup [x,y])) { s with heap:=O,toks:=tk } :=
   I1.track I.sz FT ⟨by show 2<=sizeLine;decide,[u,v],.cons rx (.cons ry .nil),⟨_,a9,rfl,_,rfl⟩⟩
  refine⟨.ref s.heap.objs.size,_,I2,rfl,⟨_,x,y,I.fresh,yx,yy,rfl,rfl⟩,⟨a0,?_,⟨_,_,C.extBut _ _ D.TOz a2⟩,Q.keep _ _ _ a3 λo e=>C.extBut _ _ D.i1z e,R.keep _ _ _ a4 λo e=>C.extBut _ _ D.i2z e⟩,λb j=>?_⟩
  ·exact C.extBut _ _ D.TIz (a7 _ _ D.TIz D.TITO D.TIi1 D.TIi2 g)
  ·have b0:=(M b j).1;rw[q0g]
   ·exact b0
   ·have:∃o,s.heap.get? b=some o:=by
     simp only[Av,Cc,or_false] at j;rcases j with rfl|rfl|rfl|rfl|rfl
     ·exact⟨_,G⟩
     ·grind
     ·grind
     ·obtain⟨o,e,_⟩:=Q.obj _ _ J;exact⟨o,e⟩
     ·obtain⟨o,e,_⟩:=R.obj _ _ L;exact⟨o,e⟩
    obtain⟨o,e⟩:=this;exact Bl (As e)
 done:=by
  intro X U W Y Z i F s σ H E I M st T;subst U W Y;obtain⟨G,g,⟨a,c,B⟩,J,L⟩:=st;have S:s.TypeIs (.ref z) "zip" := ⟨_,G,rfl⟩
  refine Ac (Fe (Cj S Ny
   (Cb Ny S Wz
    (x3y D Q R (I.ok.hd Z) I.vw (λb j=>(M b j).1) (λb j=>(M b j).noK I) G g B J L T λh' e tk hk he=>?_) (Wd _))))
  obtain⟨o,ho,b1⟩:=he;refine Ac (Gi ⟨o,ho,b1⟩ Ly ?_);refine Ad ⟨rfl,I.turnedL (λc o f e=>?_) M⟩;simp only[Av,Cc,or_false,not_or] at f;exact hk c o f.1 f.2.2.1 f.2.2.2.1 f.2.2.2.2 e
 self:=λ_ _ _ _ _ st h=>wpAny_pyIter_zip st.1 h
noncomputable abbrev zs1(h:Heap)(x:Str)(t:Tok):Heap:=h.push { cls:=.type (Ig x),data:=.fields #[.str x t,.int 0 0] }
noncomputable abbrev zs2(h:Heap)(x y:Str)(t u:Tok):Heap:=(zs1 h x t).push { cls:=.type (Ig y),data:=.fields #[.str y u,.int 0 0] }
noncomputable abbrev zs3(h:Heap)(x y:Str)(t u:Tok):Heap:=(zs2 h x y t u).push { cls:=.type "tuple",data:=.seq #[.ref h.objs.size,.ref (zs1 h x t).objs.size] }
noncomputable abbrev zs4(h:Heap)(x y:Str)(t u:Tok):Heap:=(zs3 h x y t u).push { cls:=.type "tuple",data:=.seq #[.none,.none] }
noncomputable abbrev zs5(h:Heap)(x y:Str)(t u:Tok):Heap:=(zs4 h x y t u).push { cls:=.type "zip",data:=.fields #[.none,.bool false,.bool false,.ref (zs2 h x y t u).objs.size,.ref (zs3 h x y t u).objs.size] }
def z4o(x y)(t u):
  Meets (Ea.«zip.__new__» ⟨[.type "zip",.str x t,.str y u],[]⟩) (λ_ R s=>R (.ok (.ret (.ref (zs4 s.heap x y t u).objs.size))) { s with heap:=zs5 s.heap x y t u }) :=
 .of_wp λprog w A R s h=>by
  obtain⟨f,g,d,tk,os⟩:=s;have j:=sub_zip;have o:∀{A:Around} {E:Value->Ah->Prop} {Q:Value->Ah->Prop},Q (.ref f.objs.size) ⟨zs1 f x t,g,d,tk,os⟩->wpAny (model prog w) A (Jm (.str x t)) Q E ⟨f,g,d,tk,os⟩:=λq=>We q
  have v:∀{A:Around} {E:Value->Ah->Prop} {Q:Value->Ah->Prop},Q (.ref (zs1 f x t).objs.size) ⟨zs2 f x y t u,g,d,tk,os⟩->wpAny (model prog w) A (Jm (.str y u)) Q E ⟨zs1 f x t,g,d,tk,os⟩:=λq=>We q
  wp_walk using o,v
  exact⟨_,rfl,h⟩
def z9t(n:Nat):ZipA (n+4) (n+2) (n+3) n (n+1):=by
 constructor<;>(show(_:Nat)≠_;lia)
section
variable{X:Cx}{elts:List Expr}{kk:Nat}{tpos:Pos}
def z6f{h:St}(I:Inv X pins h H s)(u:Srce X.prog X.w X.K J1 s.heap.objs.size t1)(v:Srce X.prog X.w X.K J2 (s.heap.objs.size+1) t2)(j:IsZip h' (s.heap.objs.size+4) (s.heap.objs.size+2) (s.heap.objs.size+3) .none)(f:Mq h' (s.heap.objs.size+2) (.ref s.heap.objs.size) (.ref (s.heap.objs.size+1)))(g:Mq h' (s.heap.objs.size+3) .none .none)(B:t1 0 h')(C:t2 0 h')(hk:∀c o,s.heap.get? c=some o->h'.get? c=some o)(q:R (Itz J1 J2) H):
  wpAny (model X.prog X.w) X.A (Jm (.ref (s.heap.objs.size+4))) (PIE X pins h (.Tuple elts kk tpos) R) E { s with heap:=h' }:=by
 refine wpAny_pyIter_zip j ?_;refine⟨_,_,_,_,H,rfl,I.kept (t':=s.toks) hk,x3z (z9t s.heap.objs.size) u v,⟨j,f,⟨_,_,g⟩,B,C⟩,λb D=>?_,q⟩;have hb':s.heap.objs.size<=b:=by grind
 exact I.fpOk hb' (I.hok.fresh hb')
noncomputable def iZipS(ta:TA):TI:=λσ H R=>ta σ H λvs H1=>∃x y,vs=[.str x,.str y]/\R (Itz (Its x) (Its y)) H1
def x8p{p pos}(T:Gl X "zip")(U:X.mg "zip" = none)(ha:PA X [a,b] ta)(W:Bd [a,b] X.env=[(false,eval a X.env),(false,eval b X.env)]:=by rfl)(j:Bd [b] X.env=[(false,eval b X.env)]:=by rfl):
  PI X (.Tuple elts kk tpos) (.Call (.Name "zip" p) [a,b] [] pos) (iZipS ta):=by
 intro B s Y H R I h;refine Call_ (q5z I T U (by decide +kernel:Ho "zip" = some (.type "zip")) (Ei (thn (ha pos B s Y H _ I h) λus f Z=>?_) (by rw[W,j]) (by rw[j];rfl)));obtain⟨vs,H1,I1,r1,q1⟩:=Z;obtain⟨x,y,e,q⟩:=q1;subst e;obtain⟨u,v,rfl,⟨t,rfl⟩,⟨g,rfl⟩⟩:=r1.two;refine callType_new F.called_zip (by decide) (F.typeCall_zip_2 _ _) (F.newCall_zip_2 _ _) (λobj=>F.args_object_init_3 obj _ _) F.entry_zip_new (z4o x y t g) ?_;have G:(zs1 f.heap x t).objs.size=f.heap.objs.size+1:=Ft ..;have J:(zs2 f.heap x y t g).objs.size=f.heap.objs.size+2:=by simp_all
 have L:(zs3 f.heap x y t g).objs.size=f.heap.objs.size+3:=by simp_all
 have M:(zs4 f.heap x y t g).objs.size=f.heap.objs.size+4:=by simp_all
 have k1:∀c o,f.heap.get? c=some o->(zs1 f.heap x t).get? c=some o:=λc o e=>Ag _ e;have O:∀c o,(zs1 f.heap x t).get? c=some o->(zs2 f.heap x y t g).get? c=some o:=λc o e=>Ag _ e;have E:∀c o,(zs2 f.heap x y t g).get? c=some o->(zs3 f.heap x y t g).get? c=some o:=λc o e=>Ag _ e;have D:∀c o,(zs3 f.heap x y t g).get? c=some o->(zs4 f.heap x y t g).get? c=some o:=λc o e=>Ag _ e;have C:∀c o,(zs4 f.heap x y t g).get? c=some o->(zs5 f.heap x y t g).get? c=some o:=λc o e=>Ag _ e;have g1:(zs1 f.heap x t).get? f.heap.objs.size=some { cls:=.type (Ig x),data:=.fields #[.str x t,.int 0 0] }:=Aw _ rfl;have P:(zs2 f.heap x y t g).get? (zs1 f.heap x t).objs.size=some { cls:=.type (Ig y),data:=.fields #[.str y g,.int 0 0] }:=Aw _ rfl;have Q:(zs3 f.heap x y t g).get? (zs2 f.heap x y t g).objs.size=some { cls:=.type "tuple",data:=.seq #[.ref f.heap.objs.size,.ref (zs1 f.heap x t).objs.size] }:=Aw _ rfl;have S:(zs4 f.heap x y t g).get? (zs3 f.heap x y t g).objs.size=some { cls:=.type "tuple",data:=.seq #[.none,.none] }:=Aw _ rfl;have g5:(zs5 f.heap x y t g).get? (zs4 f.heap x y t g).objs.size=some { cls:=.type "zip",data:=.fields #[.none,.bool false,.bool false,.ref (zs2 f.heap x y t g).objs.size,.ref (zs3 f.heap x y t g).objs.size] }:=Aw _ rfl;rw[G] at P;rw[J,G] at Q;rw[L] at S;rw[M,J,L] at g5;rw[M];exact⟨⟨_,g5,rfl⟩,z6f I1 (z0a _ x t) (z0a _ y g) g5 (C _ _ (D _ _ Q)) (C _ _ S) ⟨_,C _ _ (D _ _ (E _ _ (O _ _ g1))),rfl,rfl⟩ ⟨_,C _ _ (D _ _ (E _ _ P)),rfl,rfl⟩ (λc o e=>C _ _ (D _ _ (E _ _ (O _ _ (k1 _ _ e))))) q⟩
noncomputable def iZipL(K:Ai)(ta:TA):TI:=λσ H R=>ta σ H λvs H1=>∃a b xs ys,vs=[.ref a,.ref b]/\SqL K H1 a xs/\SqL K H1 b ys/\R (Itz (Itl K a) (Itl K b)) H1
def x8q{p pos}(D:Gl X "zip")(E:X.mg "zip" = none)(ha:PA X [a,b] ta)(F:Bd [a,b] X.env=[(false,eval a X.env),(false,eval b X.env)]:=by rfl)(f:Bd [b] X.env=[(false,eval b X.env)]:=by rfl):
  PI X (.Tuple elts kk tpos) (.Call (.Name "zip" p) [a,b] [] pos) (iZipL X.K ta):=by
 intro g s G H R I h;refine Call_ (q5z I D E (by decide +kernel:Ho "zip" = some (.type "zip")) (Ei (thn (ha pos g s G H _ I h) λus s1 J=>?_) (by rw[F,f]) (by rw[f];rfl)));obtain⟨vs,H1,j,o,L⟩:=J;obtain⟨M,O,xs,ys,e,P,Q,q⟩:=L;subst e;obtain⟨u,v,rfl,o,S⟩:=o.two;cases o;cases S;obtain⟨T,rv,U,_⟩:=j.list P;obtain⟨C,W,B,_⟩:=j.list Q;exact call_zip_2 U.isList B.isList λh' Y Z a3 a4 a5 a6 a7=>z6f j (q7i M _) (q7i O _) Y Z a3 a4 a5 a7 q
def z2j{J:It}{g:TG}{tb:TS}{D:Ends}(h:Nat->St->Hp->Prop)(E:h 0 f H)(u:∀i f H,i<n->h i f H->J.go i H)(v:∀f H,h n f H->J.stop n H)(F:∀i x f H H',i<n->h i f H->J.yld i H x H'->g x f H' λj B=>tb { D with nx:=h (i+1),ct:=h (i+1),bk:=D.nx } j B)(hd:∀f H,h n f H->D.nx f H):
  ∃W:Nat->Nat->St->Hp->Prop,(∃m,W 0 m f H)/\∀i m f H,W i m f H ->
   (J.stop i H/\D.nx f H)\/(J.go i H/\∃N,(∀o H',N o H'->∃C,C<m/\W (i+1) C o H')/\∀x H',J.yld i H x H'->g x f H' λj B=>tb { D with nx:=N,ct:=N,bk:=D.nx } j B):=by
 refine⟨λi m f H=>m=n-i/\i<=n/\h i f H,⟨n,by simp,Ba _,E⟩,?_⟩;rintro i m f H ⟨rfl,I,p⟩;by_cases s:i<n
 ·exact .inr ⟨u i f H s p,h (i+1),λo H' G=>⟨n-(i+1),by lia,rfl,s,G⟩,λx H' y=>F i x f H H' s p y⟩
 ·grind
def x4a{K}{g:TG}{tb:TS}{D:Ends}(j:Nat->St->Hp->Prop)(C:j 0 f H)(hl:∀i f H,j i f H->SqL K H a xs/\SqL K H b ys)(E:∀i x y T f H,xs[i]?=some x->ys[i]?=some y->j i f H->H T=none->g (.ref T) f (upd H T (.tup [x,y])) λo u=>tb { D with nx:=j (i+1),ct:=j (i+1),bk:=D.nx } o u)(hd:∀f H,j (min xs.length ys.length) f H->D.nx f H):
  ∃W:Nat->Nat->St->Hp->Prop,(∃m,W 0 m f H)/\∀i m f H,W i m f H ->
   ((Itz (Itl K a) (Itl K b)).stop i H/\D.nx f H)\/((Itz (Itl K a) (Itl K b)).go i H/\∃N,(∀s H',N s H'->∃B,B<m/\W (i+1) B s H')/\∀v H',(Itz (Itl K a) (Itl K b)).yld i H v H'->g v f H' λo u=>tb { D with nx:=N,ct:=N,bk:=D.nx } o u):=by
 refine z2j j C (λi f H h p=>⟨?_,?_⟩) (λf H p=>?_) (λi v f H H' h p F=>?_) hd
 ·exact⟨xs,xs[i]'(by lia),(hl i f H p).1,by simp⟩
 ·exact⟨ys,ys[i]'(by lia),(hl i f H p).2,by simp⟩
 ·by_cases G:xs.length<=ys.length
  ·exact .inl ⟨xs,(hl _ f H p).1,by lia⟩
  ·exact .inr ⟨⟨xs,xs[min xs.length ys.length]'(by lia),(hl _ f H p).1,by simp⟩,ys,(hl _ f H p).2,by lia⟩
 ·obtain⟨T,I,J,L,⟨_,M⟩,⟨_,O⟩,rfl,rfl⟩:=F;exact E i I J T f H (M xs (hl i f H p).1) (O ys (hl i f H p).2) p L
end
structure Cal (P) (w) (K) (mg) (base) (x) (k) (ps) (sp):Prop where
 ex:∃f fd,FnOk P w K mg base CX0 k f fd ps sp/\mg x=some (.ref f)/\Fy K (.ref f)=true/\Binds K fd ps []
structure Df (K) (mg:Str->Option Value) (x) (st) (ps):Prop where
 ex:∃f fd,Fun K x x st f fd/\mg x=some (.ref f)/\Binds K fd ps []
def Df.cal{K}{st}(D:Df K mg x st ps)(S:FnScope N ps (defScope st))(len:∀vs H Q E,sp vs H Q E->vs.length=ps.length)(j:∀ f   g   A   outer   s   H   vs   Q   E ,Room k (A.deeper (Hy x (defScope st) s.heap.objs.size f g))->sp vs H Q E ->
   ∃t,PSs (cxOf CX0 P w K mg base N x (defScope st) f g A outer s H E).nox (defBody st) t/\t { nx:=λ_ H'=>Q .non H',rt:=Q } (start N vs) H):Cal P w K mg base x (k+1) ps sp:=by
 obtain⟨f,fd,F,o,u⟩:=D.ex;exact⟨f,fd,F.ok S len λg A outer s H vs Q E v h=>j f g A outer s H vs Q E v h,o,F.kp,u⟩
section
variable{X:Cx}{x:Str}{k j:Nat}{ps:List Str}{sp:Sp}{p pos:Pos}{e:Expr}{es:List Expr}{t:TA}
def pe_c(C:Cal X.prog X.w X.K X.mg X.base x k ps sp)(s:Room j X.A)(ha:PA X (e::es) t)(g:k<=j:=by decide)(u:Gl X x:=by rfl)(h:(x==("__debug__" : Str))=false:=by decide)(v:Bd (e::es) X.env=(false,eval e X.env)::Bd es X.env:=by rfl)(o:(El pos (Bd es X.env)).any (·.1)=false:=by rfl):
  PE X (.Call (.Name x p) (e::es) [] pos) (tCall sp [] E0 t):=by
 obtain⟨f,fd,F,B,hk,D⟩:=C.ex;exact x8i F (s.mono g) u B hk D .nil pass0 ha h v o
def pe_c0(C:Cal X.prog X.w X.K X.mg X.base x k ps sp)(o:Room j X.A)(g:k<=j:=by decide)(s:Gl X x:=by rfl)(h:(x==("__debug__" : Str))=false:=by decide):
  PE X (.Call (.Name x p) [] [] pos) (tCall sp [] E0 tNil):=by
 obtain⟨f,fd,F,u,hk,v⟩:=C.ex;exact x3q F (o.mono g) s u hk v .nil pass0 h
end
def PI.or(j:PI X tg l w1)(o:PI X tg l w2):PI X tg l (λg H R=>w1 g H R\/w2 g H R):=by
 intro f s g H R I h;rcases h with h|h
 ·exact j f s g H R I h
 ·exact o f s g H R I h
structure FeedAt (H:Hp) (a b):Prop where
 fa:∃i j,H a=some (.lst [.ref b,.int i,.int j])
 fb:∃ns:List Int,H b=some (.lst (ns.map V.int))
structure Fd (a b) (H H':Hp):Prop where
 feed:FeedAt H' a b
 keep:∀c o,H c=some o->c≠a->H' c=some o
def FeedAt.ne(F:FeedAt H a b):b≠a:=by
 obtain⟨⟨i,j,h⟩,ns,f⟩:=F;refine x3k f h ?_;intro z;cases ns with
 |nil=>cases z
 |cons n r=>simp at z
def Fd.refl(F:FeedAt H a b):Fd a b H H:=⟨F,λ_ _ h _=>h⟩
def Fd.trans(x:Fd a b H H1)(y:Fd a b H1 H2):Fd a b H H2:=⟨y.feed,λc o h f=>y.keep c o (x.keep c o h f) f⟩
def Fd.free(x:Fd a b H H')(h:H' p=none):H p=none:=by
 cases e:H p with
 |none=>rfl
 |some o =>
  by_cases f:p=a
  ·subst f;obtain⟨i,j,q⟩:=x.feed.fa;rw[h] at q;cases q
  ·rw[x.keep p o e f] at h;cases h
def FeedAt.upd(F:FeedAt H a b)(ha:a≠p)(f:b≠p):FeedAt (upd H p o) a b :=
 ⟨let ⟨i,j,h⟩:=F.fa;⟨i,j,by rw[q0g ha];exact h⟩,let ⟨ns,h⟩:=F.fb;⟨ns,by rw[q0g f];exact h⟩⟩
def FeedAt.na(F:FeedAt H a b)(h:H p=none):a≠p:=by obtain⟨i,j,q⟩:=F.fa;exact q0q q h
def FeedAt.nb(F:FeedAt H a b)(h:H p=none):b≠p:=by obtain⟨ns,q⟩:=F.fb;exact q0q q h
def Fd.put(x:Fd a b H H')(F:FeedAt H a b)(h:H p=none):Fd a b H (upd H' p o) :=
 ⟨x.feed.upd (F.na h) (F.nb h),λc u e f=>by rw[q0g (q0q e h)];exact x.keep c u e f⟩
def Fd.new(x:Fd a b H H')(h:H' p=none):Fd a b H (upd H' p o) :=
 ⟨x.feed.upd (x.feed.na h) (x.feed.nb h),λc u e f=>by rw[q0g (q0q (x.keep c u e f) h)];exact x.keep c u e f⟩
def Fd.at(x:Fd a b H H')(h:H c=some o)(f:c≠a):H' c=some o:=x.keep c o h f
def Fd.same(x:Fd a b H H')(s:Same H' H2):Fd a b H H2 :=
 ⟨⟨let ⟨i,j,h⟩:=x.feed.fa;⟨i,j,s _ _ h⟩,let ⟨ns,h⟩:=x.feed.fb;⟨ns,s _ _ h⟩⟩,λc o e f=>s _ _ (x.keep c o e f)⟩
def Same.new(s:Same H H')(h:H' p=none):Same H (upd H' p o):=λc u e=>by rw[q0g (q0q (s c u e) h)];exact s c u e
def Same.put(s:Same H H')(h:H p=none):Same H (upd H' p o):=λc u e=>by rw[q0g (q0q e h)];exact s c u e
noncomputable def spDraw:Sp:=λvs H Q _=>∃a b m,vs=[.ref a,.int m]/\FeedAt H a b/\0<m/\m<1073741824/\∀ r  H',0<=r->r<m->Fd a b H H'->Q (.int r) H'
noncomputable def spConst(x:Str):Sp:=λvs H Q _=>vs=[]/\Q (.str x) H
def x8r{xs:List α}(i)(h:xs≠[]):∃x,x∈xs/\atI xs (i%(xs.length:Int))=some x:=by
 have hl:0<(xs.length:Int):=by
  cases xs with
  |nil=>exact absurd rfl h
  |cons a r=>grind
 have f:=Sd i (show(xs.length:Int)≠0 by lia);have g:=Pn i hl;have hn:(i%(xs.length:Int)).toNat<xs.length:=by lia
 unfold atI ixN;rw[if_pos f,if_pos g];simp[hn]
def q8y{xs:List α}(f:0<=i)(g:i<(xs.length:Int)):∃x,xs[i.toNat]?=some x/\atI xs i=some x:=by
 have hn:i.toNat<xs.length:=by lia
 unfold atI ixN;rw[if_pos f,if_pos g];simp[hn]
mutual
inductive Dt (K : Ai) (H : Hp) : V → Ce → Prop
  | non : Dt K H .non .none
  | bl (b : Bool) : Dt K H (.bl b) (.bool b)
  | int (i : Int) : Dt K H (.int i) (.int i)
  | str (x : Str) : Dt K H (.str x) (.str x)
  | lst {a : Addr} {xs : List V} {ds : List Ce} : SqL K H a xs → Dts K H xs ds → Dt K H (.ref a) (.list ds)
  | tup {a : Addr} {xs : List V} {ds : List Ce} : SqT K H a xs → Dts K H xs ds → Dt K H (.ref a) (.tuple ds)
inductive Dts (K : Ai) (H : Hp) : List V → List Ce → Prop
  | nil : Dts K H [] []
  | cons {x : V} {xs : List V} {d : Ce} {ds : List Ce} : Dt K H x d → Dts K H xs ds → Dts K H (x :: xs) (d :: ds)
end
section
variable{X:Cx}{pins:List (Addr×Obj)}{σ:St}{H:Hp}{s:Ah}
def Dt.reads(I:Inv X pins σ H s)(h:Dt X.K H x d):RelV x u->∃f,Reads s.heap u d f:=by
 refine Dt.rec (motive_1:=λx d _=>∀{u:Value},RelV x u->∃f,Reads s.heap u d f) (motive_2:=λg ds _=>∀{j:List Value},Vals g j->∃f,ReadsAll s.heap j ds f) ?_ ?_ ?_ ?_ ?_ ?_ ?_ ?_ h
 ·intro u r;cases r;exact⟨_,.none⟩
 ·intro b u r;cases r;exact⟨_,.bool b⟩
 ·intro i u r;obtain⟨t,rfl⟩:=r;exact⟨_,.int i t⟩
 ·intro x u r;obtain⟨t,rfl⟩:=r;exact⟨_,.str x t⟩
 ·intro a g ds q _ v u r;cases r;obtain⟨B,C,⟨o,n,e,c,_,d⟩,_⟩:=I.list q;obtain⟨f,h⟩:=v C;exact⟨_,.list e c d (by simpa using h)⟩
 ·intro a g ds q _ v u r;cases r;obtain⟨B,C,⟨o,e,c,n,d⟩,_⟩:=I.tuple q;obtain⟨f,h⟩:=v C;exact⟨_,.tuple e c d (by simpa using h)⟩
 ·intro j r;cases r;exact⟨_,.nil⟩
 ·intro x g d ds _ _ D E j r;cases r with
  |cons r rs =>
   obtain⟨f,h⟩:=D r;obtain⟨bs,F⟩:=E rs;exact⟨_,.cons h F⟩
end
section
variable{X:Cx}{k:Nat}
noncomputable def rEqD(K:Ai):R2:=λx y H Q=>∃d e,Dt K H x d/\Dt K H y e/\d.canLay0=true/\e.canLay0=true/\min d.depth e.depth<=100/\Q (.bl (Dg d e)) H
noncomputable def rNeD(K:Ai):R2:=λx y H Q=>∃d e,Dt K H x d/\Dt K H y e/\d.canLay0=true/\e.canLay0=true/\min d.depth e.depth<=100/\Q (.bl (!PyData.eqv d e)) H
def op_eqD(g:Room k X.A):OpR X (Cz .Eq) (rEqD X.K):=by
 intro f s G H x y v u Q I j o h;obtain⟨d,e,hd,B,C,D,J,q⟩:=h;obtain⟨L,E⟩:=hd.reads I j;obtain⟨bs,F⟩:=B.reads I o;have M:=g.un;exact SeqAt.rcAt_reads E F C D (by lia) X.prog X.w X.xe _ ⟨.bl _,H,I,rfl,q⟩
def op_neD(g:Room k X.A):OpR X (Cz .NotEq) (rNeD X.K):=by
 intro f s G H x y v u Q I j o h;obtain⟨d,e,hd,B,C,D,J,q⟩:=h;obtain⟨L,E⟩:=hd.reads I j;obtain⟨bs,F⟩:=B.reads I o;have M:=g.un;exact SeqAt.rcNeAt_reads E F C D (by lia) X.prog X.w X.xe _ ⟨.bl _,H,I,rfl,q⟩
noncomputable def rAddU:R2:=λx y H Q=>(∃i j,x=.int i/\y=.int j/\Q (.int (i+j)) H)\/(∃i j,x=.str i/\y=.str j/\i.length+j.length<=sizeLine/\Q (.str (i++j)) H)\/rCat x y H Q
def q0n:OpR X (Gr .Add) rAddU:=op_add.or (op_add_str.or op_cat)
noncomputable def rMulU:R2:=λx y H Q=>(∃i j,x=.int i/\y=.int j/\CMul i j/\Q (.int (i*j)) H)\/rMulS x y H Q\/rRep x y H Q
def q7j:OpR X (Gr .Mult) rMulU:=op_mul.or (op_mulS.or op_rep)
noncomputable def rEqU(K:Ai):R2:=λx y H Q=>rEq x y H Q\/rEqD K x y H Q
def op_eqU(f:Room k X.A):OpR X (Cz .Eq) (rEqU X.K):=op_eq.or (op_eqD f)
noncomputable def rNeU(K:Ai):R2:=λx y H Q=>rNe x y H Q\/rNeD K x y H Q
def op_neU(f:Room k X.A):OpR X (Cz .NotEq) (rNeU X.K):=op_ne.or (op_neD f)
noncomputable def rInU(K:Ai):R2:=λx y H Q=>(∃i j,x=.str i/\y=.str j/\Q (.bl (!(Ex j i 0 j.length 1).isEmpty)) H)\/rIn K false x y H Q
def op_inU:OpR X (Cz .In) (rInU X.K):=op_in_str.or z9m
noncomputable def rNinU(K:Ai):R2:=λx y H Q=>(∃i j,x=.str i/\y=.str j/\Q (.bl (!(!(Ex j i 0 j.length 1).isEmpty))) H)\/rIn K true x y H Q
def x8s:OpR X (Cz .NotIn) (rNinU X.K):=op_notIn_str.or z2d
noncomputable def rSlU(K:Ai):V->Option Int->Option Int->Hp->VK->Prop:=λx lo hi H Q=>rSlS x lo hi H Q\/rSlL K x lo hi H Q\/rSlT K x lo hi H Q
def sl_U:SlR X (rSlU X.K):=sl_str.or (sl_list.or x6r)
noncomputable def iAny(K:Ai)(tl:TE):TI:=λσ H R=>tl σ H λx H1=>(∃a,x=.ref a/\(∃xs,SqL K H1 a xs)/\R (Itl K a) H1)\/(∃a,x=.ref a/\(∃xs,SqT K H1 a xs)/\R (Itt K a) H1)\/∃z,x=.str z/\R (Its z) H1
def pi_any(hl:PE X l tl):PI X tg l (iAny X.K tl):=by
 intro g s F H R I h;refine thnE (hl g s F H _ I h) λv f x u j D G=>?_;have C:∀b∈[f.heap.objs.size],FpOk X g u b:=λb O=>by
  have e:b=f.heap.objs.size:=by grind
  subst e;exact j.fpOk (Aj _) (j.hok.fresh (Aj _))
 rcases G with⟨a,e,⟨J,E⟩,q⟩|⟨a,e,⟨J,E⟩,q⟩|⟨z,e,q⟩
 ·subst e;cases D;obtain⟨B,L,p,M⟩:=j.list E;exact Wc p.isList ⟨f.heap.objs.size,[f.heap.objs.size],_,_,u,rfl,j.kept (t':=f.toks) λb o e=>Ag _ e,z8z a _,⟨_,Aw _ rfl,rfl,rfl⟩,C,q⟩
 ·subst e;cases D;obtain⟨B,L,p,M⟩:=j.tuple E;exact wpAny_pyIter_tuple (show f.heap.IsTuple a B.toArray from p) ⟨f.heap.objs.size,[f.heap.objs.size],_,_,u,rfl,j.kept (t':=f.toks) λb o e=>Ag _ e,z7l a _,⟨_,Aw _ rfl,rfl,rfl⟩,C,q⟩
 ·subst e;obtain⟨t,rfl⟩:=D;cases ha:z.cps.all (· < 128)
  ·exact wpAny_pyIter_wide ha ⟨f.heap.objs.size,[f.heap.objs.size],_,_,u,rfl,j.kept (t':=f.toks) λb o e=>Ag _ e,z9r _ z t,⟨Ba _,_,Aw _ rfl,rfl,rfl⟩,C,q⟩
  ·exact wpAny_pyIter_ascii ha ⟨f.heap.objs.size,[f.heap.objs.size],_,_,u,rfl,j.kept (t':=f.toks) λb o e=>Ag _ e,z9q _ z t,⟨Ba _,_,Aw _ rfl,rfl,rfl⟩,C,q⟩
noncomputable def iZip(K:Ai)(ta:TA):TI:=λσ H R=>iZipS ta σ H R\/iZipL K ta σ H R
def pi_zip{f}{u}{g}{p pos}(j:Gl X "zip")(o:X.mg "zip" = none)(ha:PA X [a,b] ta)(s:Bd [a,b] X.env=[(false,eval a X.env),(false,eval b X.env)]:=by rfl)(h:Bd [b] X.env=[(false,eval b X.env)]:=by rfl):
  PI X (.Tuple f u g) (.Call (.Name "zip" p) [a,b] [] pos) (iZip X.K ta):=(x8p j o ha s h).or (x8q j o ha s h)
end
section
variable{X:Cx}{a b o e l:Expr}{es:List Expr}{ta tb to te tl:TE}{t:TA}{pos p2 apos cpos:Pos}{k:Nat}{name:Str}{T idn:String}{r:V->List V->Hp->VK->Prop}
def ix_k(K)(f:X.K=K):IxR X (rIx K):=by subst f;exact ix_seq
def q2u(K)(f:X.K=K):CallR X (.builtin "len") (λxs H Q=>∃x n,xs=[x]/\LenV K x H n/\Q (.int n) H):=by subst f;exact x3n
def eq_k(K)(f:X.K=K)(g:Room k X.A):OpR X (Cz .Eq) (rEqU K):=by subst f;exact op_eqU g
def ne_k(K)(f:X.K=K)(g:Room k X.A):OpR X (Cz .NotEq) (rNeU K):=by subst f;exact op_neU g
def in_k(K)(f:X.K=K):OpR X (Cz .In) (rInU K):=by subst f;exact op_inU
def z9u(K)(f:X.K=K):OpR X (Cz .NotIn) (rNinU K):=by subst f;exact x8s
def sl_k(K)(f:X.K=K):SlR X (rSlU K):=by subst f;exact sl_U
def q2i(K)(g:X.K=K)(hl:PE X l tl):PI X f l (iAny K tl):=by subst g;exact pi_any hl
def zip_k{f}{j}{g}{p}(K)(o:X.K=K)(s:Gl X "zip")(u:X.mg "zip" = none)(ha:PA X [a,b] t)(v:Bd [a,b] X.env=[(false,eval a X.env),(false,eval b X.env)]:=by rfl)(h:Bd [b] X.env=[(false,eval b X.env)]:=by rfl):
  PI X (.Tuple f j g) (.Call (.Name "zip" p) [a,b] [] pos) (iZip K t):=by subst o;exact pi_zip s u ha v h
def all_k(K)(f:X.K=K)(g:X.calm=true):CallR X (.builtin "all") (λxs H Q=>∃(p:Addr) (bs:List Bool),xs=[.ref p]/\SqL K H p (bs.map V.bl)/\Q (.bl (bs.all id)) H):=by subst f;exact x3x g
def list_k(K)(f:X.K=K):CallR X (.type "list") (λxs H Q=>∃p ys,xs=[.ref p]/\(SqL K H p ys\/SqT K H p ys)/\∀l,H l=none->Q (.ref l) (upd H l (.lst ys))):=by subst f;exact z2e
def x8t(K)(f:X.K=K):CallR X (.type "tuple") (λxs H Q=>∃p ys,xs=[.ref p]/\((SqL K H p ys/\∀l,H l=none->Q (.ref l) (upd H l (.tup ys)))\/(SqT K H p ys/\Q (.ref p) H))):=by subst f;exact q9t
def x6u(K)(f:X.K=K):MtM X "str.join" (rJoin K):=by subst f;exact x8n
def q2m{g n}(K)(j:X.K=K)(o:X.calm=true)(h:PGs X es u)(hn:(Jw es X.env).length=n:=by rfl)(f:(Jw es X.env).findIdx? (·.1)=none:=by rfl):PG X (.Tuple es g pos) (gTup K n u):=by subst j;exact pg_tup o h hn f
def bm_k(K)(u:X.K=K)(v:Ug T)(slot:Slot T name idn)(s:typeOf (.builtin idn)=pure (.type "method_descriptor"))(B:MtR X idn r)(C:PE X o to)(ha:PA X (e::es) t)(g:Fs o name X.env (eval o X.env)=eval o X.env:=by rfl)(j:((El cpos (Bd (e::es) X.env)).all (λx => !x.1)&&(Jy cpos (Hj [] X.env)).all (λx=>x.1.isSome)
   && decide ((e::es).length+([]:List Lx).length+(if ([]:List Lx).isEmpty then 0 else 1)<30))=true:=by rfl)(h:(apos.endLine==cpos.line)=true:=by rfl)(D:Bd (e::es) X.env=(false,eval e X.env)::Bd es X.env:=by rfl)(f:(El cpos (Bd es X.env)).any (·.1)=false:=by rfl):
  PE X (.Call (.Attribute o name apos) (e::es) [] cpos) (tBM K T r to t):=by subst u;exact pe_bm v slot s B C ha g j h D f
def q4p(K)(j:X.K=K)(s:Ug T)(slot:Slot T name idn)(h:typeOf (.builtin idn)=pure (.type "method_descriptor"))(u:MtR X idn r)(v:PE X o to)(f:Fs o name X.env (eval o X.env)=eval o X.env:=by rfl)(g:(apos.endLine==cpos.line)=true:=by rfl):PE X (.Call (.Attribute o name apos) [] [] cpos) (tBM0 K T r to):=by subst j;exact pe_bm0 s slot h u v f g
def z2k(K)(g:X.K=K)(ha:PE X a ta)(h:∀f,isTrue a X.env f=(do let v<-f;Kq a.pos;Jl [v] (truthy v))):
  PT X a (λj H Q=>ta j H λx H'=>∃k,TruV K x H' k/\Q k H'):=by subst g;exact x3m ha h
end
def z4p{lo}{r:St}{Fin}(f:Nat->List V->Hp->Prop)(j:f 0 [] (upd H1 D (.lst [])))(hl:∀i ys H,f i ys H->H D=some (.lst ys))(o:∀i ys H,i<n->f i ys H->te (some (.int (lo+i))::r) H λv g=>g D=some (.lst ys)/\ys.length<sizeLine/\f (i+1) (ys++[v]) (upd g D (.lst (ys++[v]))))(hd:∀ys H,f n ys H->Fin ys H):CompW (Itr lo n) (gName 0) tIf0 te (none::r) D Fin H1 :=
 z7y f j hl (λi ys H h p=>(⟨q1q,iteT (o i ys H h p)⟩:Keeps0 (none::r) (some (.int (lo+i))::r)/\if true=true then te (some (.int (lo+i))::r) H λv g=>g D=some (.lst ys)/\ys.length<sizeLine/\f (i+1) (ys++[v]) (upd g D (.lst (ys++[v]))) else f (i+1) ys H)) hd
def z9v{r:St}{Fin}(f:Nat->List V->Hp->Prop)(j:f 0 [] (upd H1 D (.lst [])))(hl:∀i ys H,f i ys H->H D=some (.lst ys))(o:∀i ys H c,z.cps[i]?=some c->f i ys H->te (some (.str ⟨#[c]⟩)::r) H λv g=>g D=some (.lst ys)/\ys.length<sizeLine/\f (i+1) (ys++[v]) (upd g D (.lst (ys++[v]))))(hd:∀ys H,f z.length ys H->Fin ys H):CompW (Its z) (gName 0) tIf0 te (none::r) D Fin H1 :=
 q9z f j hl (λi ys H c h p=>(⟨q1q,iteT (o i ys H c h p)⟩:Keeps0 (none::r) (some (.str ⟨#[c]⟩)::r)/\if true=true then te (some (.str ⟨#[c]⟩)::r) H λv g=>g D=some (.lst ys)/\ys.length<sizeLine/\f (i+1) (ys++[v]) (upd g D (.lst (ys++[v]))) else f (i+1) ys H)) hd
def z7z{K}{r:St}{Fin}(f:Nat->List V->Hp->Prop)(j:f 0 [] (upd H1 D (.lst [])))(hl:∀i ys H,f i ys H->H D=some (.lst ys)/\SqL K H a xs)(o:∀i ys H x,xs[i]?=some x->f i ys H->te (some x::r) H λv g=>g D=some (.lst ys)/\ys.length<sizeLine/\f (i+1) (ys++[v]) (upd g D (.lst (ys++[v]))))(hd:∀ys H,f xs.length ys H->Fin ys H):CompW (Itl K a) (gName 0) tIf0 te (none::r) D Fin H1 :=
 q3v f j hl (λi ys H x h p=>(⟨q1q,iteT (o i ys H x h p)⟩:Keeps0 (none::r) (some x::r)/\if true=true then te (some x::r) H λv g=>g D=some (.lst ys)/\ys.length<sizeLine/\f (i+1) (ys++[v]) (upd g D (.lst (ys++[v]))) else f (i+1) ys H)) hd
def z9w{K}{r:St}{Fin}(f:Nat->List V->Hp->Prop)(j:f 0 [] (upd H1 D (.lst [])))(hl:∀i ys H,f i ys H->H D=some (.lst ys)/\SqT K H a xs)(o:∀i ys H x,xs[i]?=some x->f i ys H->te (some x::r) H λv g=>g D=some (.lst ys)/\ys.length<sizeLine/\f (i+1) (ys++[v]) (upd g D (.lst (ys++[v]))))(hd:∀ys H,f xs.length ys H->Fin ys H):CompW (Itt K a) (gName 0) tIf0 te (none::r) D Fin H1 :=
 x3v f j hl (λi ys H x h p=>(⟨q1q,iteT (o i ys H x h p)⟩:Keeps0 (none::r) (some x::r)/\if true=true then te (some x::r) H λv g=>g D=some (.lst ys)/\ys.length<sizeLine/\f (i+1) (ys++[v]) (upd g D (.lst (ys++[v]))) else f (i+1) ys H)) hd
noncomputable def tSeqJ(t u:TS):TS:=λD σ H=>∃J,(∀σ' H',J σ' H'->u D σ' H')/\t { D with nx:=J } σ H
def q2n{st}{rest}(B:PS X st t)(C:PSs X rest u):PSs X (st::rest) (tSeqJ t u):=by
 intro g s E H D I h;obtain⟨J,F,h⟩:=h;refine Qw (thn (B g s E H { D with nx:=J } I h) λf G q=>?_);cases f with
 |next =>
  obtain⟨j,o,L,q⟩:=q;exact C g G j o D L (F j o q)
 |ret v=>exact q
 |brk=>exact q
 |cont=>exact q
noncomputable def tVJ(t:TE):TE:=λσ H Q=>∃J,(∀v H',J v H'->Q v H')/\t σ H J
def pe_j(h:PE X e t):PE X e (tVJ t):=by
 intro f s o H Q I g;obtain⟨J,B,g⟩:=g;exact thnE (h f s o H J I g) λu D v j C r q=>⟨v,j,C,r,B v j q⟩
noncomputable def tTJ(t:TT):TT:=λσ H Q=>∃J,(∀b H',J b H'->Q b H')/\t σ H J
def pt_j(h:PT X e t):PT X e (tTJ t):=by
 intro f s o H Q I g;obtain⟨J,v,g⟩:=g;exact thnT (h f s o H J I g) λu C j B q=>⟨j,B,v u j q⟩
def iteB{B:Prop}(f:c=true->A)(g:c=false->B):if c=true then A else B:=by grind
end L2
namespace TX
open PySem PySem.Spec PyProof.Rows L2
noncomputable abbrev tl(x:Str):List Nat:=x.cps.toList
noncomputable abbrev mk(l:List Nat):Str:=⟨l.toArray⟩
def q0x(l):tl (mk l)=l:=by simp[tl,mk]
def z9x(x):mk (tl x)=x:=by simp[tl,mk]
def ext(h:tl x=tl y):x=y:=ext_toList h
def len(x):x.length=(tl x).length:=by simp[tl,Str.length]
def q2o(x y):tl (x++y)=tl x++tl y:=by
 show(x.cps++y.cps).toList=_;simp[tl]
def app_len(x y:Str):(x++y).length=x.length+y.length:=by rw[len,len,len,q2o,Af]
def get{i:Nat}(h:x.cps[i]?=some c):(tl x)[i]?=some c:=by simpa[tl] using h
def z4q(z)(ts):Uh z ts=Ke z ts:=Nf z ts
def z9y:∀ts,tl (Uh (Ab "") ts)=(ts.map tl).flatten:=by
 intro ts;rw[z4q];induction ts with
 |nil=>rfl
 |cons a r ih =>
  cases r with
  |nil=>simp[Ke]
  |cons b r =>
   show tl (a++Ab "" ++ Ke (Ab "") (b::r))=_;rw[q2o,q2o,ih];have e:tl (Ab "")=[]:=by trivial
   rw[e];simp
def z9z(f):Uh (Ab "") (f.map λc=>(⟨#[c]⟩:Str))=mk f:=by
 apply ext;rw[z9y,q0x,Ct];induction f with
 |nil=>rfl
 |cons c r ih=>rw[Am,Fh,ih];rfl
def x4b(f:List Nat):((f.map λc=>(⟨#[c]⟩:Str)).map (·.length)).sum=f.length:=by
 induction f with
 |nil=>rfl
 |cons c r ih=>rw[Am,Am,List.sum_cons,ih,Bc];show 1+_=_;lia
def z8a{i:Int}(f:0<=i)(g:i<=(tl x).length):Yj x (some i) none=mk ((tl x).drop i.toNat):=by
 show Gx x (some i) none=_;rw[StrLaws.sliceText_from ⟨f,g⟩];rw[Dl];rw[Ca];lia
def q3t(x)(c):(!(Ex x ⟨#[c]⟩ 0 x.length 1).isEmpty)=decide (c∈tl x):=StrLaws.found_one x c
def lower(h:∀c∈tl x,c<128):tl (Pj x)=(tl x).map lo1:=by
 rw[lower_ascii h];simp[tl]
def small(h:n<=1000000):n<=sizeLine:=by rw[Et];lia
def small'(h:n<=1000000):n<sizeLine:=by rw[Et];lia
end TX
namespace L2
open PySem PySem.Spec PyProof.Rows TX
noncomputable def spText:Sp:=λvs H Q _=>∃a b g n,vs=[.ref a,.str g,.int n]/\FeedAt H a b/\0<g.length/\g.length<=1000/\0<=n/\n<=1000 /\
 ∀ t  H',t.length=n.toNat->(∀c∈t,c∈tl g)->Fd a b H H'->Q (.str (mk t)) H'
def q1b{f:Type}{l:List f}{x}(h:l[i]?=some x):l.take (i+1)=l.take i++[x]:=by
 rw[Fu,h];rfl
section
variable{prog:Aq}{w:World}{K:Ai}{A:Around}{E:Value->Ah->Prop}{s:Ah}{J:It}{st:Nat->Heap->Prop}{e it:Addr}{H:Hp}
def z8b{i:Nat}{Q:Value->Ah->Prop}(S:Srce prog w K J it st)(hh:A.handled=none)(vw:Vw K H s.heap)(nH:H it=none)(nK:K.lookup it=none)(he:IsEnum s.heap e it i old)(a6:st i s.heap)(go:J.go i H)(P:e≠it)(hQ:∀u x h' tk,RelV x u->J.yld i H x H->IsEnumOut h' e it ((i)+1) u s.heap.objs.size->st (i+1) h'->h'.get? s.heap.objs.size=some { cls:=.type "tuple",data:=.seq #[.int i tk,u] }->h'.objs.size=s.heap.objs.size+1 ->
   (∀b o,b≠e->b≠it->s.heap.get? b=some o->h'.get? b=some o)->Q (.ref s.heap.objs.size) { s with heap:=h',toks:=tk+1 }):
  wpAny (model prog w) A (Ea.«enumerate.__next__» ⟨[.ref e],[]⟩) (λa7 s'=>∃v,a7=.done (.ret v)/\Q v s') E s:=by
 obtain⟨hp,g,d,a8,os⟩:=s;show wpAny _ _ (field (.ref e) 2 >>= _) _ _ _;refine Ac (Br he rfl rfl ?_);refine Ac (S.item _ i _ H _ _ hh vw nH nK a6 go λu x b0 tk rx yx T j=>?_);have B:=(j.2 e P).trans he;refine Ac (Br B rfl rfl ?_);refine Ac (Br B rfl rfl ?_);refine Ac (wpAny_mkInt ?_);refine Ac (Dv B (by simp) λb1 U C=>?_);refine Ac (Dv U (by simp) λG W D=>?_);refine Ac (Oy ?_);have f:IsEnum (G.push { cls:=.type "tuple",data:=.seq #[.int i tk,u] }) e it ((i:Int)+1) old:=Ag _ W;generalize h:G.push { cls:=.type "tuple",data:=.seq #[.int i tk,u] }=F at f;have X:G.objs.size=hp.objs.size:=by rw[D.1,C.1,j.1]
 have a9:=As he;have Y:F.get? hp.objs.size=some { cls:=.type "tuple",data:=.seq #[.int i tk,u] }:=by rw[<- h,<- X];exact Aw _ rfl
 have Z:F.objs.size=hp.objs.size+1:=by rw[<- h,Ft,X]
 have a0:∀b o,b≠e->b≠it->hp.get? b=some o->F.get? b=some o:=λb o I a1 hb=>by
  rw[<- h];exact Ag _ (D.extBut b o I (C.extBut b o I (j.extBut b o a1 hb)))
 have R:st (i+1) F:=S.keep _ _ _ T λo y=>by
  rw[<- h];exact Ag _ (D.extBut it o P.symm (C.extBut it o P.symm y))
 rw[X];refine Ac ?_;refine Ac (Br f rfl rfl (Ad ?_));refine Ac (Ge ?_);refine Ac (Br f rfl rfl ?_);refine Ac (Dv f (by simp) λb2 a2 L=>?_);refine Ac ?_;refine Ac (Dv a2 (by simp) λb3 a3 M=>?_);refine Dv a3 (by simp) λa5 a4 O=>?_;have up:=λb o hb y=>O.extBut b o hb (M.extBut b o hb (L.extBut b o hb y));refine Ac (Mr (Ad ⟨_,rfl,hQ u x a5 tk rx yx a4 (S.keep _ _ _ R λo y=>up _ o P.symm y) (up _ _ (Ez a9) Y) ?_ λb o I a1 hb=>up b o I (a0 b o I a1 hb)⟩));rw[O.1,M.1,L.1,Z]
end
noncomputable def Ite(J:It):It:=⟨λi H=>J.go i H,λi H x H'=>∃T y,H T=none/\J.yld i H y H/\x=.ref T/\H'=upd H T (.tup [.int i,y]),λi H=>J.stop i H⟩
def x0a{K:Ai}{st:Nat->Heap->Prop}(G:e≠it)(S:Srce P w K J it st):
  Turn P w K (.Tuple elts kk pos) (Ite J) [e,it] e (λi h=>(∃f,IsEnum h e it i f)/\st i h) where
 mem:=by simp
 obj:=λi h B b M=>by
  obtain⟨⟨f,j⟩,C⟩:=B;simp only[Av,Cc,or_false] at M;rcases M with rfl|rfl
  ·grind
  ·exact S.obj i h C
 keep:=λi h h' B k=>by
  obtain⟨⟨f,j⟩,C⟩:=B;exact⟨⟨f,k e (by simp) _ j⟩,S.keep _ _ _ C λo y=>k it (by simp) o y⟩
 item:=by
  intro X Q R T U i v s W H E I D B Y;subst Q R T;obtain⟨⟨f,j⟩,C⟩:=B;have L:s.TypeIs (.ref e) "enumerate" := ⟨_,j,rfl⟩
  refine Ac (Fe (Cj L Jo
   (Cb Jo L Sr
    (z8b S (I.ok.hd U) I.vw (D it (by simp)).1 ((D it (by simp)).noK I) j C Y G λu x h' tk rx yx a1 a2 a3 a4 a5=>Ad ?_) (Rr _))))
  refine⟨_,rfl,?_⟩;refine wpAny_letOwnedTupleGo_enum a1 λO Z F=>?_;have k2:∀c o,c∉[e,it]->s.heap.get? c=some o->O.get? c=some o:=λc o g y=>by
   simp only[Av,Cc,or_false,not_or] at g;exact F.extBut _ _ g.1 (a5 c o g.1 g.2 y)
  have a0:=As j;have b1:it<s.heap.objs.size:=by obtain⟨o,y,_⟩:=S.obj _ _ C;exact As y
  have I1:Inv X v W H { s with heap:=O,toks:=tk+1 }:=I.turnedL k2 D;have FT:=I.fpOk (Aj _) I.fresh;have a6:O.get? s.heap.objs.size=some { cls:=.type "tuple",data:=.seq #[.int i tk,u] }:=F.extBut _ _ (Ez a0) a3;have I2:Inv X v W (upd H s.heap.objs.size (.tup [.int i,x])) { s with heap:=O,toks:=tk+1 } :=
   I1.track I.sz FT ⟨by show 2<=sizeLine;decide,[.int i tk,u],.cons ⟨_,rfl⟩ (.cons rx .nil),⟨_,a6,rfl,_,rfl⟩⟩
  refine⟨.ref s.heap.objs.size,_,I2,rfl,⟨_,x,I.fresh,yx,rfl,rfl⟩,⟨⟨u,by simpa using Z⟩,S.keep _ _ _ a2 λo y=>F.extBut _ _ G.symm y⟩,λb M=>?_⟩;have a7:=(D b M).1;rw[q0g]
  ·exact a7
  ·grind
 done:=by
  intro X Q R T U i v s W H E I D B Y;subst Q R T;obtain⟨⟨f,j⟩,C⟩:=B;have L:s.TypeIs (.ref e) "enumerate" := ⟨_,j,rfl⟩
  refine Ac (Fe (Cj L Jo
   (Cb Jo L Sr ?_ (Rr _))))
  show wpAny _ _ (field (.ref e) 2 >>= _) _ _ _;refine Ac (Br j rfl rfl ?_);refine Ac (S.done _ i _ H _ _ (I.ok.hd U) I.vw (D it (by simp)).1 ((D it (by simp)).noK I) C Y λh' x a8 a9=>?_);obtain⟨o,ho,b0⟩:=a9;refine Ac (Gi ⟨o,ho,b0⟩ Ly ?_);refine Ad ⟨rfl,I.turnedL (t':=s.toks) (λc o g y=>?_) D⟩;simp only[Av,Cc,or_false,not_or] at g;exact a8 c o g.2 y
 self:=λ_ _ _ _ _ B h=>by
  obtain⟨⟨f,j⟩,_⟩:=B;exact Wf j h
section
variable{X:Cx}{elts:List Expr}{kk:Nat}{tpos:Pos}
def z2l{f:St}{st}(I:Inv X pins f H s)(S:Srce X.prog X.w X.K J s.heap.objs.size st)(g:IsEnum h' (s.heap.objs.size+1) s.heap.objs.size 0 .none)(j:st 0 h')(hk:∀c o,s.heap.get? c=some o->h'.get? c=some o)(q:R (Ite J) H):
  wpAny (model X.prog X.w) X.A (Jm (.ref (s.heap.objs.size+1))) (PIE X pins f (.Tuple elts kk tpos) R) E { s with heap:=h' }:=by
 refine Wf g ?_;refine⟨_,_,_,_,H,rfl,I.kept (t':=s.toks) hk,x0a (show(s.heap.objs.size+1:Nat)≠s.heap.objs.size by lia) S,⟨⟨_,g⟩,j⟩,λb h=>?_,q⟩;have hb':s.heap.objs.size<=b:=by
  simp only[Av,Cc,or_false] at h;rcases h with rfl|rfl
  ·exact Kr _
  ·exact Aj _
 exact I.fpOk hb' (I.hok.fresh hb')
noncomputable def iEnum(K:Ai)(ta:TA):TI:=λσ H R=>ta σ H λvs H1=>(∃z,vs=[.str z]/\R (Ite (Its z)) H1)\/∃a xs,vs=[.ref a]/\SqL K H1 a xs/\R (Ite (Itl K a)) H1
def x8u(B:Gl X "enumerate")(C:X.mg "enumerate" = none)(ha:PA X [a] ta)(D:Bd [a] X.env=[(false,eval a X.env)]:=by rfl):
  PI X (.Tuple elts kk tpos) (.Call (.Name "enumerate" p) [a] [] pos) (iEnum X.K ta):=by
 intro f s E H R I h;refine Call_ (q5z I B C (by decide +kernel:Ho "enumerate" = some (.type "enumerate")) (Ei (thn (ha pos f s E H _ I h) λQ S F=>?_) D rfl));obtain⟨vs,T,g,v,G⟩:=F;rcases G with⟨z,e,q⟩|⟨l,U,e,J,q⟩
 ·subst e;obtain⟨u,rfl,t,rfl⟩:=vals1 v;exact call_enumerate_str λL j o M hk=>z2l g (z0a _ z t) j o hk q
 ·subst e;obtain⟨u,rfl,r⟩:=vals1 v;cases r;obtain⟨O,W,P,_⟩:=g.list J;exact call_enumerate_list P.isList λL j o M hk=>z2l g (q7i l _) j o hk q
def z6g(K)(g:X.K=K)(h:Gl X "enumerate")(j:X.mg "enumerate" = none)(ha:PA X [a] f)(o:Bd [a] X.env=[(false,eval a X.env)]:=by rfl):
  PI X (.Tuple elts kk tpos) (.Call (.Name "enumerate" p) [a] [] pos) (iEnum K f):=by subst g;exact x8u h j ha o
def z2m{g:TG}{tb:TS}{D:Ends}(o:Nat->St->Hp->Prop)(C:o 0 f H)(E:∀i c T f H,z.cps[i]?=some c->o i f H->H T=none->g (.ref T) f (upd H T (.tup [.int i,.str ⟨#[c]⟩])) λj u=>tb { D with nx:=o (i+1),ct:=o (i+1),bk:=D.nx } j u)(hd:∀f H,o z.length f H->D.nx f H):
  ∃W:Nat->Nat->St->Hp->Prop,(∃m,W 0 m f H)/\∀i m f H,W i m f H ->
   ((Ite (Its z)).stop i H/\D.nx f H)\/((Ite (Its z)).go i H/\∃N,(∀s H',N s H'->∃B,B<m/\W (i+1) B s H')/\∀v H',(Ite (Its z)).yld i H v H'->g v f H' λj u=>tb { D with nx:=N,ct:=N,bk:=D.nx } j u):=by
 refine z2j o C (λi f H h _=>h) (λf H _=>Aj _) (λi v f H H' h p F=>?_) hd;obtain⟨T,y,G,⟨_,c,I,rfl⟩,rfl,rfl⟩:=F;exact E i c T f H I p G
end
end L2
namespace K
open PySem L2 TX
noncomputable def NSs:Str:=Ab "abcdefghijklmnopqrstuvwxyzABCDEFGHIJKLMNOPQRSTUVWXYZ0123456789-_."
noncomputable def GSs:Str:=Ab "?*#@"
noncomputable abbrev NS:List Nat:=tl NSs
noncomputable abbrev GS:List Nat:=tl GSs
def x4c:∀c∈NS,c<128:=by trivial
inductive Pt where
 |tx (l:List Nat)
 |gp (c:Nat)
namespace Pt
noncomputable def fl:Pt->List Nat
 |tx l=>l
 |gp c=>[c]
noncomputable def isG:Pt->Bool
 |tx _=>false
 |gp _=>true
noncomputable def ok:Pt->Prop
 |tx l=>l≠[]/\∀c∈l,c∈NS
 |gp c=>c∈GS
noncomputable def word:Pt->Str
 |tx _=>Ab "text"
 |gp _=>Ab "gap"
noncomputable def vs(p:Pt):List V:=[.str p.word,.str (mk p.fl)]
end Pt
noncomputable def gaps(ps:List Pt):Nat:=(ps.filter Pt.isG).length
noncomputable def tp(t:List Nat):List Pt:=if t=[] then[] else[.tx t]
noncomputable def parse(cur:List Nat):List Nat->List Pt
 |[]=>tp cur
 |c::r=>if c∈GS then tp cur++.gp c::parse [] r else parse (cur++[c]) r
structure Good (l):Prop where
 ne:l≠[]
 sg:∀c∈l,c∈GS\/c∈NS
 gp:(l.filter λc=>decide (c∈GS)).length<=9
 len:l.length<=1000
noncomputable def TKeep(H H':Hp):Prop:=∀T xs,H T=some (.tup xs)->H' T=some (.tup xs)
noncomputable abbrev Tups(H:Hp):List Addr->List Pt->Prop:=Hx λT p=>H T=some (.tup p.vs)
structure HL (H) (L) (ps):Prop where
 ex:∃Ts,H L=some (.lst (Ts.map V.ref))/\Tups H Ts ps
def Tups.keep(k:TKeep H H')(h:Tups H f ps):Tups H' f ps:=by
 induction h with
 |nil=>exact .nil
 |cons r _ ih=>exact .cons (k _ _ r) ih
def Tups.len(h:Tups H Ts ps):Ts.length=ps.length:=Hb h
def Tups.app(h:Tups H f ps)(u:Tups H g qs):Tups H (f++g) (ps++qs):=by
 induction h with
 |nil=>exact u
 |cons r _ ih=>exact .cons r ih
def Tups.get{i:Nat}(h:Tups H f ps)(e:(f.map V.ref)[i]?=some x):∃T p,x=.ref T/\ps[i]?=some p/\H T=some (.tup p.vs):=by
 induction h generalizing i with
 |nil=>simp at e
 |cons r _ ih =>
  cases i with
  |zero=>cases e;exact⟨_,_,rfl,rfl,r⟩
  |succ i=>exact ih e
def TKeep.refl(H):TKeep H H:=λ_ _ h=>h
def TKeep.lst(k:TKeep H H')(h:H' p=some (.lst ys)):TKeep H (upd H' p (.lst zs)):=λT f e=>by
 rw[q0g (x3k (k T f e) h (by intro z;cases z))];exact k T f e
def Same.tk(s:Same H H'):TKeep H H':=λT f e=>s _ _ e
def HL.same(h:HL H L ps)(s:Same H H'):HL H' L ps:=by
 obtain⟨f,g,j⟩:=h.ex;exact⟨f,s _ _ g,j.keep (Same.tk s)⟩
def HL.new(h:HL H L ps)(f:H p=none):HL (upd H p o) L ps:=h.same ((Same.refl H).new f)
def HL.sq(h:HL H L ps):∃xs,SqL K H L xs:=by obtain⟨g,f,_⟩:=h.ex;exact⟨_,SqL.of f⟩
def x4d(f)(T):atI ((f++[T]).map V.ref) (-1)=some (.ref T):=by
 unfold atI ixN;rw[if_neg (by decide),if_pos (by simp;lia)];have e:(-1+(((f++[T]).map V.ref).length:Int)).toNat=f.length:=by simp;lia
 rw[e];simp
def z0b(h:∀c∈l,c<128):Dz (mk l)=true:=by
 unfold Dz;rw[Array.all_eq_true'];intro c f;have:=h c (by simpa[mk] using f);simp;lia
end K
namespace L2
open PySem PySem.Spec PyProof.Rows
section
variable{X:Cx}{x c:Str}{k:Nat}{p pos apos cpos:Pos}{o:Expr}{to:TE}
noncomputable def rRepl(y z:Str):V->Hp->VK->Prop:=λv H Q=>∃s,v=.str s/\s.length+(s.length+1)*z.length<=16777216/\Q (.str (Pe s y z)) H
noncomputable def tRepl(y z:Str)(to:TE):TE:=λσ H Q=>to σ H λv H1=>rRepl y z v H1 Q
end
section
variable{κ:Type}[DecidableEq κ]
noncomputable def valV(kvs:List (κ×V))(k:κ):Option V:=(kvs.find? λkv=>decide (kv.1=k)).map (·.2)
noncomputable def putK(kvs:List (κ×V))(k:κ)(v:V):List (κ×V) :=
 if (kvs.any λkv=>decide (kv.1=k))=true then kvs.map (λkv=>if kv.1=k then(kv.1,v) else kv) else kvs++[(k,v)]
def q1r{p:κ×V}(e:p.1=k):valV (p::r) k=some p.2:=by simp[valV,Cq,e]
def q1o{p:κ×V}(e:¬p.1=k):valV (p::r) k=valV r k:=by simp[valV,Cq,e]
theorem q5j(k:κ):∀kvs,(kvs.any λf=>decide (f.1=k))=(valV kvs k).isSome
 |[]=>rfl
 |p::r=>by
  rw[Qd];by_cases e:p.1=k
  ·simp only[q1r e,decide_eq_true e,Bool.true_or,Option.isSome_some]
  ·rw[q1o e,decide_eq_false e,Bool.false_or];exact q5j k r
theorem z6h(k j:κ)(y):∀kvs,valV (kvs.map λf=>if f.1=k then(f.1,y) else f) j=(valV kvs j).map λx=>if j=k then y else x
 |[]=>rfl
 |p::r=>by
  have g:=z6h k j y r;rw[Am];by_cases h:p.1=k
  ·rw[if_pos h];by_cases e:p.1=j
   ·rw[q1r (p:=(p.1,y)) e,q1r e,Nz,if_pos (e.symm.trans h)]
   ·rw[q1o (p:=(p.1,y)) e,q1o e,g]
  ·rw[if_neg h];by_cases e:p.1=j
   ·rw[q1r e,q1r e,Nz,if_neg (λz=>h (e.trans z))]
   ·rw[q1o e,q1o e,g]
theorem z2n(k j:κ)(y):∀kvs,valV kvs k=none->valV (kvs++[(k,y)]) j=if j=k then some y else valV kvs j
 |[],_=>by
  by_cases e:k=j
  ·rw[if_pos e.symm];exact q1r (p:=(k,y)) e
  ·rw[if_neg (λz=>e z.symm)];exact q1o (p:=(k,y)) e
 |p::r,hn=>by
  rw[Rg];have hk:¬p.1=k:=λz=>by rw[q1r z] at hn;cases hn
  rw[q1o hk] at hn;have f:=z2n k j y r hn;by_cases e:p.1=j
  ·rw[q1r e,q1r e,if_neg (λz=>hk (e.trans z))]
  ·rw[q1o e,q1o e,f]
def z6i(kvs:List (κ×V))(k j)(y):valV (putK kvs k y) j=if j=k then some y else valV kvs j:=by
 unfold putK;by_cases a:(kvs.any λf=>decide (f.1=k))=true
 ·rw[if_pos a,z6h];rw[q5j] at a;by_cases e:j=k
  ·obtain⟨x,g⟩:=Lj.mp a;rw[if_pos e,e,g,Nz,if_pos rfl]
  ·simp_all
 ·rw[if_neg a];refine z2n k j y kvs ?_;rw[q5j] at a;cases q:valV kvs k with
  |none=>rfl
  |some x=>grind
def q2d(kvs:List (κ×V))(k)(v):(putK kvs k v).length<=kvs.length+1:=by
 unfold putK;split
 ·grind
 ·grind
def x4e{kvs:List (κ×V)}(v)(h:valV kvs k=none):putK kvs k v=kvs++[(k,v)]:=by
 unfold putK;rw[q5j,h];exact if_neg (by decide)
def RelO.isSome_eq(r:RelO o u):o.isSome=u.isSome:=by
 cases o with
 |none=>cases u with
  |none=>rfl
  |some _=>exact(show False from r).elim
 |some _=>cases u with
  |none=>exact(show False from r).elim
  |some _=>rfl
def KV.val(r:KV kvs vs)(k:κ):RelO (valV kvs k) (valueAt vs k):=by
 induction r with
 |nil=>exact True.intro
 | @cons p q ps qs h t ih =>
  obtain⟨f,g⟩:=h;by_cases e:p.1=k
  ·have e':q.1=k:=f.symm.trans e;have b:valueAt (q::qs) k=some q.2:=by simp[valueAt,Cq,e']
   rw[q1r e,b];exact g
  ·have e':¬q.1=k:=λz=>e (f.trans z);have b:valueAt (q::qs) k=valueAt qs k:=by simp[valueAt,Cq,e']
   rw[q1o e,b];exact ih
def KV.any(r:KV kvs vs)(k:κ):(kvs.any λf=>decide (f.1=k))=vs.any λf=>decide (f.1=k):=by
 induction r with
 |nil=>rfl
 |cons h t ih=>simp_all
def KV.repl(r:KV kvs vs)(k:κ)(g:RelV y u):
  KV (kvs.map λf=>if f.1=k then(f.1,y) else f) (vs.map λf=>if f.1=k then(f.1,u) else f):=by
 induction r with
 |nil=>exact .nil
 | @cons p q ps qs h t ih =>
  refine .cons ?_ ih;by_cases e:p.1=k
  ·simp_all
  ·simp_all
def KV.put(r:KV kvs vs)(k:κ)(f:RelV y u):KV (putK kvs k y) (stored vs k u):=by
 unfold putK stored;rw[r.any k];by_cases e:(vs.any λg=>decide (g.1=k))=true
 ·rw[if_pos e,if_pos e];exact r.repl k f
 ·rw[if_neg e,if_neg e];exact Wr r ⟨rfl,f⟩
def KV.length{kvs:List (κ×V)}(r:KV kvs vs):kvs.length=vs.length:=Hb r
end
def z2o(r:RelV (kV k) u):(mixKind P w).is k u=true:=by
 cases k with
 |inl i=>obtain⟨t,e⟩:=(show ∃t,u=Value.int i t from r);subst e;exact z4i P w i t
 |inr x=>obtain⟨t,e⟩:=(show ∃t,u=Value.str x t from r);subst e;exact z4j P w x t
theorem z2p:∀{ks} {us},Vals (ks.map kV) us->ItemsAre (mixKind P w) ks us
 |[],_,r=>by rw[Rh] at r;cases r;exact .nil
 |k::ks,_,r=>by
  rw[Am] at r;cases r with
  |cons h t=>exact .cons (z2o h) (z2p t)
noncomputable abbrev KT(H:Hp):List (List Key×V)->List (List Key×Addr×Value)->Prop:=Hx λp q=>p.1=q.1/\H q.2.1=some (.tup (p.1.map kV))/\RelV p.2 q.2.2
def KT.val(r:KT H kvs xs)(k):RelO (valV kvs k) ((atKey xs k).map (·.2)):=by
 induction r with
 |nil=>exact True.intro
 | @cons p q ps qs h t ih =>
  obtain⟨f,_,g⟩:=h;by_cases e:p.1=k
  ·have e':q.1=k:=f.symm.trans e;have b:atKey (q::qs) k=some q.2:=by simp[atKey,Cq,e']
   rw[q1r e,b];exact g
  ·have e':¬q.1=k:=λz=>e (f.trans z);have b:atKey (q::qs) k=atKey qs k:=by simp[atKey,Cq,e']
   rw[q1o e,b];exact ih
def KT.repl(r:KT H kvs xs)(k)(g:RelV y u):
  KT H (kvs.map λf=>if f.1=k then(f.1,y) else f) (xs.map (putAt k u)):=by
 induction r with
 |nil=>exact .nil
 | @cons p q ps qs h t ih =>
  refine .cons ?_ ih;unfold putAt;by_cases e:p.1=k
  ·simp_all
  ·simp_all
def KT.put(r:KT H kvs xs)(k)(g:H b=some (.tup (k.map kV)))(f:RelV y u):
  KT H (putK kvs k y) (storedH xs k b u):=by
 have e:(kvs.any λh=>decide (h.1=k))=(atKey xs k).isSome:=by
  rw[q5j,(r.val k).isSome_eq,Mh]
 unfold putK storedH;rw[e];by_cases q:(atKey xs k).isSome=true
 ·rw[if_pos q,if_pos q];exact r.repl k f
 ·rw[if_neg q,if_neg q];exact Wr r ⟨rfl,g,f⟩
def KT.keeps(r:KT H kvs xs)(f:∀b ys,H b=some (.tup ys)->H' b=some (.tup ys)):KT H' kvs xs :=
 Hx.mapP r λ_ _ z=>⟨z.1,f _ _ z.2.1,z.2.2⟩
section
variable{P:Aq}{w:World}{H:Hp}{h:Heap}{a:Addr}
def rd_of(ok:HOk P w H h)(e:Rd H a u):ObjOk P w H h a u:=e.ok ok
def x0b(ok:HOk P w H h)(e:Rd H a (.dK kvs)):kvs.length<=sizeLine/\(a==Dk)=false/\∃vs,KV kvs vs/\h.DictOf (mixKind P w) a vs :=
 show ObjOk P w H h a (.dK kvs) from rd_of ok e
def dk_of(ok:HOk P w H h)(e:H a=some (.dK kvs)):kvs.length<=sizeLine/\(a==Dk)=false/\∃vs,KV kvs vs/\h.DictOf (mixKind P w) a vs:=x0b ok (.inl e)
def q7k(ok:HOk P w H h)(e:H a=some (.tup (ks.map kV))):(Le (mixKind P w)).is h ks a:=by
 obtain⟨_,f,r,o,g,j,n,s⟩:=(show ObjOk P w H h a (.tup (ks.map kV)) from ok a _ e)
 exact⟨o,f.toArray,n,g,j,s,by simpa using z2p r⟩
def x0c(ok:HOk P w H h)(e:Rd H a (.dT kvs)):kvs.length<=sizeLine/\(a==Dk)=false /\
  ∃xs,KT H kvs xs/\h.DictOfH (Le (mixKind P w)) a xs:=by
 obtain⟨z,y,xs,r,o,g,j,s,u,v,B,C⟩:=(show ObjOk P w H h a (.dT kvs) from rd_of ok e)
 refine⟨z,y,xs,r,o,g,j,s,u,v,B,λx f=>?_,C⟩;have all:∀{l:List (List Key×V)} {m:List (List Key×Addr×Value)},KT H l m->∀x∈m,(Le (mixKind P w)).is h x.1 x.2.1:=by
  intro l m q;induction q with
  |nil=>grind
  | @cons p q ps qs hq t ih =>
   intro x f;rcases Av.mp f with e|f
   ·subst e;exact q7k ok (by rw[<- hq.1];exact hq.2.1)
   ·exact ih x f
 exact all r x f
def dt_of(ok:HOk P w H h)(e:H a=some (.dT kvs)):kvs.length<=sizeLine/\(a==Dk)=false /\
  ∃xs,KT H kvs xs/\h.DictOfH (Le (mixKind P w)) a xs:=x0c ok (.inl e)
end
noncomputable def DGet(H:Hp)(a:Addr)(y:V)(r:Option V):Prop :=
 (∃kvs k,Rd H a (.dK kvs)/\y=kV k/\r=valV kvs k)\/∃kvs k b,Rd H a (.dT kvs)/\y=.ref b/\H b=some (.tup (k.map kV))/\r=valV kvs k
noncomputable def DPut(H:Hp)(a:Addr)(y v:V)(H':Hp):Prop :=
 (∃kvs k,H a=some (.dK kvs)/\y=kV k/\kvs.length<sizeLine/\H'=upd H a (.dK (putK kvs k v))) \/
 ∃kvs k b,H a=some (.dT kvs)/\y=.ref b/\H b=some (.tup (k.map kV))/\kvs.length<sizeLine/\H'=upd H a (.dT (putK kvs k v))
def DGet.k{k}(e:H a=some (.dK kvs)):DGet H a (kV k) (valV kvs k):=.inl ⟨kvs,k,.inl e,rfl,rfl⟩
def DGet.t{k}(e:H a=some (.dT kvs))(f:H b=some (.tup (k.map kV))):DGet H a (.ref b) (valV kvs k):=.inr ⟨kvs,k,b,.inl e,rfl,f,rfl⟩
def DPut.k{k}(e:H a=some (.dK kvs))(hl:kvs.length<sizeLine):DPut H a (kV k) v (upd H a (.dK (putK kvs k v))):=.inl ⟨kvs,k,e,rfl,hl,rfl⟩
def DPut.t{k}(e:H a=some (.dT kvs))(f:H b=some (.tup (k.map kV)))(hl:kvs.length<sizeLine):
  DPut H a (.ref b) v (upd H a (.dT (putK kvs k v))):=.inr ⟨kvs,k,b,e,rfl,f,hl,rfl⟩
section
variable{X:Cx}{pins:List (Addr×Obj)}{σ:St}{H:Hp}{s:Ah}{a:Addr}{y v:V}{u r:Value}{o:Option V}{A:Around}{E:Value->Ah->Prop}
def Inv.big(I:Inv X pins σ H s):Dk<s.heap.objs.size:=by
 have h:=(I.mod.glob.keeps I.bk).lt;exact Nat.lt_trans (by decide) h
def x0d(L:A.units+1<cLine)(I:Inv X pins σ H s)(g:DGet H a y (some v))(J:RelV y u)(h:∀o s',Inv X pins σ H s'->RelV v o->Q o s'):
  wpAny (model X.prog X.w) A (getItem (.ref a) u) Q E s:=by
 rcases g with⟨B,k,e,C,l⟩|⟨B,k,b,e,C,M,l⟩
 ·subst C;obtain⟨z,hd,vs,f,D⟩:=x0b I.hok e;obtain⟨o,F,j⟩:=RelO.some_of (by rw[l];exact f.val k);exact wpAny_getItem_of (z2o J) D.mapOf F (h o _ (I.tok _) j)
 ·subst C;cases(show u=Value.ref b from J);obtain⟨z,hd,P,f,D⟩:=x0c I.hok e;obtain⟨o,F,j⟩:=RelO.some_of (by rw[l];exact f.val k);obtain⟨p,O,G⟩:=Bh.mp F;refine wpAny_getItem_heap (Hs L) (q7k I.hok M) D O ?_;rw[G];exact h o _ (I.tok _) j
def d_in(D:A.units+1<cLine)(I:Inv X pins σ H s)(g:DGet H a y o)(C:RelV y u)(h:∀s',Inv X pins σ H s'->Q (.bool o.isSome) s'):
  wpAny (model X.prog X.w) A (Cz .In u (.ref a)) Q E s:=by
 rcases g with⟨j,k,e,v,l⟩|⟨j,k,b,e,v,F,l⟩
 ·subst v;obtain⟨z,hd,vs,f,B⟩:=x0b I.hok e;refine wpAny_in_of (z2o C) hd B.mapOf ?_;rw[<- (f.val k).isSome_eq,<- l];exact h _ (I.tok _)
 ·subst v;cases(show u=Value.ref b from C);obtain⟨z,hd,G,f,B⟩:=x0c I.hok e;refine wpAny_in_heap (Hs D) (q7k I.hok F) hd B ?_;have q:=(f.val k).isSome_eq;rw[Mh] at q;rw[<- q,<- l];exact h _ (I.tok _)
def x8v(D:A.units+1<cLine)(I:Inv X pins σ H s)(g:DGet H a y o)(C:RelV y u)(h:∀s',Inv X pins σ H s'->Q (.bool (!o.isSome)) s'):
  wpAny (model X.prog X.w) A (Cz .NotIn u (.ref a)) Q E s:=by
 rcases g with⟨j,k,e,v,l⟩|⟨j,k,b,e,v,F,l⟩
 ·subst v;obtain⟨z,hd,vs,f,B⟩:=x0b I.hok e;refine wpAny_notIn_of (z2o C) hd B.mapOf ?_;rw[<- (f.val k).isSome_eq,<- l];exact h _ (I.tok _)
 ·subst v;cases(show u=Value.ref b from C);obtain⟨z,hd,G,f,B⟩:=x0c I.hok e;refine wpAny_notIn_heap (Hs D) (q7k I.hok F) hd B ?_;have q:=(f.val k).isSome_eq;rw[Mh] at q;rw[<- q,<- l];exact h _ (I.tok _)
def z0c(I:Inv X pins σ H s)(f:Mut (H a))(g:Gd a s.heap h')(h:∃q,h'.get? a=some q)(new:ObjOk X.prog X.w (upd H a ob) h' a ob):
  Inv X pins σ (upd H a ob) { s with heap:=h',toks:=t' } :=
 I.write f (.inl rfl) (λb q j z=>(g.2 b j).trans z) h new
def x6v(z:kvs.length<=sizeLine)(hd:(a==Dk)=false)(f:KV kvs vs)(g:h'.DictOf (mixKind P w) a vs):
  ObjOk P w H' h' a (.dK kvs):=⟨z,hd,vs,f,g⟩
def x0e(R:A.units+1<cLine)(I:Inv X pins σ H s)(g:DPut H a y v H')(J:RelV y u)(L:RelV v r)(h:∀s',Inv X pins σ H' s'->Q () s'):
  wpAny (model X.prog X.w) A (setItem (.ref a) u r) Q E s:=by
 rcases g with⟨f,k,e,C,l,D⟩|⟨f,k,b,e,C,M,l,D⟩
 ·subst C D;obtain⟨z,hd,vs,j,F⟩:=dk_of I.hok e;have S:vs.length<=sizeLine:=by rw[<- j.length];exact z
  have hl:(putK f k v).length<=sizeLine:=by have:=q2d f k v;lia
  refine wpAny_setItem_pairs (z2o J) F λO o G=>h _ ?_;have T:∃q,O.get? a=some q:=let ⟨q,_,_,B,_⟩:=o;⟨q,B⟩;exact z0c I (by rw[e];exact True.intro) G T (x6v hl hd (j.put k L) o)
 ·subst C D;cases(show u=Value.ref b from J);obtain⟨z,hd,U,j,F⟩:=dt_of I.hok e;have S:U.length<=sizeLine:=by rw[<- Hb j];exact z
  have hl:(putK f k v).length<=sizeLine:=by have:=q2d f k v;lia
  refine Po (Hs R) (q7k I.hok M) F λO o G=>h _ ?_;obtain⟨q,W,Y,B,Z,h3,h4,_,h5⟩:=o;refine z0c I (by rw[e];exact True.intro) G ⟨q,B⟩ ⟨hl,hd,_,(j.put k M L).keeps λc ys P=>?_,q,W,Y,B,Z,h3,h4,h5⟩;rw[q0g (x3k P e (λz=>nomatch z))];exact P
end
noncomputable def NoSl(i:Expr):Prop:=∀ov iv,Sk i false ov iv=operate [ov,iv] (getItem ov iv)
def x0f{id}(hl:Ue (.type T) "__getitem__" = pure (some (.builtin id)))(D:NoSl slice)(h:wpAny (model prog w) A (eval value env) (λo j=>wpAny (model prog w) A (eval slice env) (λi f=>f.TypeIs o T/\wpAny (model prog w) A (getItem o i) Q E f) E j) E s):
  wpAny (model prog w) A (eval (.Subscript value slice pos) env) Q E s:=by
 refine Xl (Bs h (λo j B=>Bs B (λi f g=>?_) λ_ _ x=>x) λ_ _ x=>x);obtain⟨F,g⟩:=g;refine Ac ?_;refine Ac (Kz F hl ?_);have v:wpAny (model prog w) A (Sk slice false o i) (λr u=>wpAny (model prog w) A (letTemporaryGo value o r >>= λ_=>pure r) Q E u) E f:=by
  rw[D o i];exact wpAny_operating (Bs g (λr u C=>Ac (wpAny_letTemporaryGo (Ad C))) λ_ _ x=>x)
 first
  |exact Ad (Ac v)
  |exact Ac (Ad (Ac v))
  |exact Ac v
def z4r{j:St}(I:Inv X pins j H s)(g:DGet H a y o):s.TypeIs (.ref a) "dict" := by
 rcases g with⟨f,k,e,_,_⟩|⟨f,k,b,e,_,_,_⟩
 ·obtain⟨_,_,vs,_,h⟩:=x0b I.hok e;exact h.typeIs
 ·obtain⟨_,_,u,_,h⟩:=x0c I.hok e;exact h.typeIs
noncomputable def tDGet(td ty:TE):TE:=λσ H Q=>td σ H λx H1=>ty σ H1 λy H2=>∃a v,x=.ref a/\DGet H2 a y (some v)/\Q v H2
noncomputable def tDIn(ty td:TE):TE:=λσ H Q=>ty σ H λy H1=>td σ H1 λx H2=>∃a o,x=.ref a/\DGet H2 a y o/\Q (.bl o.isSome) H2
noncomputable def tDNotIn(ty td:TE):TE:=λσ H Q=>ty σ H λy H1=>td σ H1 λx H2=>∃a o,x=.ref a/\DGet H2 a y o/\Q (.bl (!o.isSome)) H2
noncomputable def sDPut(td ty tv:TE):TS:=λD σ H=>tv σ H λv H1=>td σ H1 λx H2=>ty σ H2 λy H3=>∃a H4,x=.ref a/\DPut H3 a y v H4/\D.nx σ H4
section
variable{X:Cx}{o i e value:Expr}{pos pos' tpos:Pos}{td ty tv:TE}
def x0g(D:X.A.units+1<cLine)(E:PE X o td)(F:PE X i ty)(G:NoSl i):PE X (.Subscript o i pos) (tDGet td ty):=by
 intro f s B H Q I h;refine x0f Qt.lookup G (thnE (E f s B H _ I h) λu J x L M O P=>thnE (F f J B L _ M P) λY Z y R C S T=>?_);obtain⟨a,v,ex,g,U⟩:=T;subst ex;obtain rfl:u=Value.ref a:=O;exact⟨z4r C g,x0d D C g S λw' s3 W j=>⟨v,R,W,j,U⟩⟩
def x6w(v:X.A.units+1<cLine)(B:PE X i ty)(C:PE X o td):PC X .In i o (tDIn ty td):=by
 intro f s j H Q I h;refine thnE (B f s j H _ I h) λU D y E F G J=>thnE (C f D j E _ F J) λu W x L M O P=>?_;obtain⟨a,R,ex,g,S⟩:=P;subst ex;obtain rfl:u=Value.ref a:=O;exact d_in v M g G λY T=>⟨.bl R.isSome,L,T,rfl,S⟩
def z2q(v:X.A.units+1<cLine)(B:PE X i ty)(C:PE X o td):PC X .NotIn i o (tDNotIn ty td):=by
 intro f s j H Q I h;refine thnE (B f s j H _ I h) λU D y E F G J=>thnE (C f D j E _ F J) λu W x L M O P=>?_;obtain⟨a,R,ex,g,S⟩:=P;subst ex;obtain rfl:u=Value.ref a:=O;exact x8v v M g G λY T=>⟨.bl (!R.isSome),L,T,rfl,S⟩
def q7l(B:X.A.units+1<cLine)(C:PE X o td)(E:PE X i ty)(F:PE X value tv)(G:Iw value (some (.Subscript o i pos')) pos.line X.env=pure false):
  PS X (.Assign [.Subscript o i pos'] value pos) (sDPut td ty tv):=by
 intro f s j H D I h;refine Ms (thnE (F f s j H _ I h) λr J v L M O P=>thnE (C f J j L _ M P) λu Q x R S T U=>thnE (E f Q j R _ S U) λiv s3 y H3 W Y Z=>?_) G;obtain⟨a,H4,ex,g,q3⟩:=Z;subst ex;obtain rfl:u=Value.ref a:=T;exact x0e B W g Y O λs4 I4=>⟨j,H4,I4,q3⟩
end
def z6j(h:Heap)(f:Dk<h.objs.size):ObjOk P w H (h.push { cls:=.type "dict",data:=.dict #[] }) h.objs.size (.dK []) :=
 ⟨Ba _,beq_eq_false_iff_ne.mpr (Cp (Bl f)),[],.nil,Heap.DictOf.new h⟩
def z6k(h:Heap)(f:Dk<h.objs.size):ObjOk P w H (h.push { cls:=.type "dict",data:=.dict #[] }) h.objs.size (.dT []) :=
 ⟨Ba _,beq_eq_false_iff_ne.mpr (Cp (Bl f)),[],.nil,_,#[],0,Aw _ rfl,⟨rfl,rfl,rfl⟩,rfl,rfl,Td⟩
noncomputable def tDNewK:TE:=λ_ H Q=>∀p,H p=none->Q (.ref p) (upd H p (.dK []))
noncomputable def tDNewT:TE:=λ_ H Q=>∀p,H p=none->Q (.ref p) (upd H p (.dT []))
section
variable{X:Cx}{pos:Pos}
def z6l:PE X (.Dict [] [] pos) tDNewK:=λf s g H Q I h =>
 My ⟨.ref s.heap.objs.size,_,I.laid (t':=s.toks) (λ_ _ q=>Ag _ q) (Aj _) (z6j s.heap I.big),rfl,h _ (I.hok.fresh (Aj _))⟩
def x4f:PE X (.Dict [] [] pos) tDNewT:=λf s g H Q I h =>
 My ⟨.ref s.heap.objs.size,_,I.laid (t':=s.toks) (λ_ _ q=>Ag _ q) (Aj _) (z6k s.heap I.big),rfl,h _ (I.hok.fresh (Aj _))⟩
end
noncomputable def tPairs:List (TE×TE)->St->Hp->(List (V×V)->Hp->Prop)->Prop
 |[],_,H,Q=>Q [] H
 |(tk,tv)::r,σ,H,Q=>tk σ H λx H1=>tv σ H1 λy H2=>tPairs r σ H2 λps H3=>Q ((x,y)::ps) H3
noncomputable abbrev VV:List (V×V)->List (Value×Value)->Prop:=Hx λp q=>RelV p.1 q.1/\RelV p.2 q.2
noncomputable def PPs(X:Cx)(pos:Pos)(keys:List (Option Expr))(values:List Expr)(trs:List (TE×TE)):Prop :=
 ∀ pins   s  (σ:St)  H   Q ,Inv X pins σ H s->tPairs trs σ H Q ->
  wpAny (model X.prog X.w) X.A (evalPairs (pairTrees keys values X.env pos)) (λvs s'=>∃ps H',Inv X pins σ H' s'/\VV ps vs/\Q ps H') X.xe s
def x8w:PPs X pos [] [] []:=λf s g H Q I h=>pairTrees_nil_walk ⟨[],H,I,.nil,h⟩
def x4g(hk:PE X k tk)(C:PE X v B)(D:PPs X pos ks vs g):
  PPs X pos (some k::ks) (v::vs) ((tk,B)::g):=λf s j H Q I h =>
 pairTrees_cons_walk (thnE (hk f s j H _ I h) λu E x F G J L=>thnE (C f E j F _ G L) λZ M y O P R S =>
  thn (D f M j O _ P S) λws s3 ⟨T,U,W,o,Y⟩=>⟨(x,y)::T,U,W,.cons ⟨J,R⟩ o,Y⟩)
noncomputable def mergeK(kvs more:List (Key×V)):List (Key×V):=more.foldl (λacc kv=>putK acc kv.1 kv.2) kvs
def KV.merge:∀{more} {rs} {kvs} {vs},KV more rs->KV kvs vs->KV (mergeK kvs more) (merged vs rs):=by
 intro more rs kvs vs r;induction r generalizing kvs vs with
 |nil=>intro q;exact q
 | @cons p q ps qs h t ih =>
  intro f;have e:KV (putK kvs p.1 p.2) (stored vs q.1 q.2):=by
   have:=f.put p.1 h.2;rw[<- h.1];exact this
  exact ih e
theorem q5k:∀(more kvs),(mergeK kvs more).length<=kvs.length+more.length
 |[],kvs=>by show kvs.length<=kvs.length+0;lia
 |p::r,kvs=>by
  have f:=q5k r (putK kvs p.1 p.2);have g:=q2d kvs p.1 p.2;show(mergeK (putK kvs p.1 p.2) r).length<=_;rw[Bc];lia
theorem q8z:∀{kvs} {ws},VV (kvs.map λf=>(kV f.1,f.2)) ws->∃rs,Carries (mixKind P w) ws rs/\KV kvs rs
 |[],_,r=>by rw[Rh] at r;cases r;exact⟨[],True.intro,.nil⟩
 |p::kvs,_,r=>by
  rw[Am] at r;cases r with
  | @cons a b as bs h t =>
   obtain⟨rs,c,q⟩:=q8z (P:=P) (w:=w) t;obtain⟨j,g⟩:=b;exact⟨(p.1,g)::rs,⟨z2o h.1,rfl,c⟩,.cons ⟨rfl,h.2⟩ q⟩
noncomputable def tDisp(trs:List (TE×TE)):TE:=λσ H Q=>∀p,H p=none->tPairs trs σ (upd H p (.dK [])) λps H2=>H2 p=some (.dK [])/\∃kvs,ps=kvs.map (λkv=>(kV kv.1,kv.2))/\kvs.length<=15/\Q (.ref p) (upd H2 p (.dK (mergeK [] kvs)))
def x8x(h:PPs X pos f g j)(o:f.all (·.isSome)=true)(hl:f.length=g.length)(G:f≠[])(C:f.length<=15):PE X (.Dict f g pos) (tDisp j):=by
 intro u s J H Q I q;have hn:=I.hok.fresh (Aj s.heap.objs.size);have L:=I.laid (h':=s.heap.push { cls:=.type "dict",data:=.dict #[] }) (t':=s.toks) (λ_ _ q=>Ag _ q) (Aj _) (z6j s.heap I.big);refine wpAny_Dict_walk (knd:=mixKind X.prog X.w) o hl G C (thn (h u _ J _ _ L (q _ hn)) λws s2 M=>?_);obtain⟨ps,H2,F,D,e,v,O,lk,P⟩:=M;subst O;obtain⟨R,c,rk⟩:=q8z D;obtain⟨z,hd,S,T,U⟩:=dk_of F.hok e;cases T;refine⟨R,c,U,λE B W=>⟨.ref s.heap.objs.size,_,?_,rfl,P⟩⟩;have Y:(mergeK [] v).length<=sizeLine:=by
  have Z:=q5k v [];rw[Hu] at Z;rw[Et];lia
 have he:∃q,E.get? s.heap.objs.size=some q:=let ⟨q,_,_,hq,_⟩:=B;⟨q,hq⟩;exact z0c F (by rw[e];exact True.intro) W he (x6v Y hd (rk.merge .nil) B)
structure M2 (X:Cx) (o) (m) (apos:Pos) (e f) (cpos):Prop where
 base:Fs o m X.env (eval o X.env)=eval o X.env
 few:((El cpos (Bd [e,f] X.env)).all (λx => !x.1)&&(Jy cpos (Hj [] X.env)).all (λx=>x.1.isSome)
  && decide (([e,f]:List Expr).length+([]:List Lx).length+(if ([]:List Lx).isEmpty then 0 else 1)<30))=true
 line:(apos.endLine==cpos.line)=true
 trees:El cpos (Bd [e,f] X.env)=[(false,eval e X.env),(false,eval f X.env)]
end L2
namespace K
open PySem L2 TX
noncomputable def FIs:Str:=Ab "0123456789"
noncomputable def LEs:Str:=Ab "abcdefghijklmnopqrstuvwxyzABCDEFGHIJKLMNOPQRSTUVWXYZ"
noncomputable abbrev FI:List Nat:=tl FIs
noncomputable abbrev LE:List Nat:=tl LEs
noncomputable def allOf(t s:List Nat):Bool:=decide (t≠[])&&t.all λc=>decide (c∈s)
noncomputable def gapTakes(c:Nat)(t:List Nat):Bool:=if c=63 then decide (t.length=1) else if c=35 then allOf t FI else if c=64 then allOf t LE else true
noncomputable def Pt.takes:Pt->List Nat->Bool
 |.tx l,t=>decide (t=l)
 |.gp c,t=>gapTakes c t
noncomputable def cut(n:List Nat)(b e:Nat):List Nat:=(n.drop b).take (e-b)
noncomputable def farTo(p:Pt)(n:List Nat)(L:Nat->Bool)(b k:Nat):Option Nat:=((List.range' b k).filter λe=>L e&&p.takes (cut n b e)).getLast?
noncomputable def far(p:Pt)(n:List Nat)(L:Nat->Bool)(b:Nat):Option Nat:=if b<=n.length then farTo p n L b (n.length+1-b) else none
noncomputable def fits(n:List Nat):List Pt->Nat->Bool
 |[],b=>decide (b=n.length)
 |p::ps,b=>(far p n (fits n ps) b).isSome
noncomputable def rd(n:List Nat):List Pt->Nat->List (List Nat)
 |[],_=>[]
 |p::ps,b=>(if p.isG then[cut n b ((far p n (fits n ps) b).getD 0)] else[])++rd n ps ((far p n (fits n ps) b).getD 0)
def q9a(p)(n)(L)(b k):farTo p n L b (k+1)=if (L (b+k)&&p.takes (cut n b (b+k)))=true then some (b+k) else farTo p n L b k:=by
 unfold farTo;rw[List.range'_concat,Jc];by_cases h:(L (b+k)&&p.takes (cut n b (b+k)))=true
 ·simp_all
 ·simp_all
def z8c(p)(n)(L)(b):farTo p n L b 0=none:=rfl
theorem q9b:∀{k} {p} {n} {L} {b e},farTo p n L b k=some e->b<=e/\e<b+k/\L e=true/\p.takes (cut n b e)=true/\∀f,e<f->f<b+k->(L f&&p.takes (cut n b f))=false
 |0,p,n,L,b,e,h=>by rw[z8c] at h;cases h
 |k+1,p,n,L,b,e,h=>by
  rw[q9a] at h;by_cases c:(L (b+k)&&p.takes (cut n b (b+k)))=true
  ·rw[if_pos c] at h;cases h;rw[Jz] at c;exact⟨by lia,by lia,c.1,c.2,λf j g=>absurd g (by lia)⟩
  ·rw[if_neg c] at h;obtain⟨o,v,s,u,B⟩:=q9b h;refine⟨o,by lia,s,u,λf j g=>?_⟩;by_cases z:f=b+k
   ·grind
   ·grind
def z6m(h:far p n L b=some e):b<=e/\e<=n.length/\L e=true/\p.takes (cut n b e)=true/\∀f,e<f->f<=n.length->(L f&&p.takes (cut n b f))=false:=by
 unfold far at h;by_cases g:b<=n.length
 ·rw[if_pos g] at h;obtain⟨j,B,o,s,u⟩:=q9b h;exact⟨j,by lia,o,s,λf v C=>u f v (by lia)⟩
 ·grind
noncomputable def gsOf:List Pt->List Nat
 |[]=>[]
 |.gp c::ps=>c::gsOf ps
 |.tx _::ps=>gsOf ps
noncomputable def glue:List Pt->List (List Nat)->List Nat
 |[],_=>[]
 |.tx l::ps,ts=>l++glue ps ts
 |.gp _::ps,[]=>glue ps []
 |.gp _::ps,t::ts=>t++glue ps ts
def z6n(h:b<=e):cut n b e++n.drop e=n.drop b:=by
 unfold cut;have:n.drop e=(n.drop b).drop (e-b):=by simp_all
 rw[this,Jp]
theorem x6x(n):∀ ps   b ,fits n ps b=true->(rd n ps b).length=(gsOf ps).length/\(∀(i c:Nat)  t ,(gsOf ps)[i]?=some c->(rd n ps b)[i]?=some t->gapTakes c t=true)/\glue ps (rd n ps b)=n.drop b/\∀t∈rd n ps b,t.length<=n.length
 |[],b,h=>by
  have E:b=n.length:=of_decide_eq_true h;refine⟨rfl,λi c t h=>by simp[gsOf] at h,?_,λt f=>by simp[rd] at f⟩;subst E;simp[glue]
 |p::ps,b,h=>by
  have h':(far p n (fits n ps) b).isSome=true:=h;cases hf:far p n (fits n ps) b with
  |none=>grind
  |some e =>
   obtain⟨s,H,F,u,_⟩:=z6m hf;obtain⟨v,B,C,D⟩:=x6x n ps e F;cases p with
   |tx l =>
    have g:rd n (.tx l::ps) b=rd n ps e:=by simp[rd,Pt.isG,hf]
    have G:=of_decide_eq_true u;rw[g];refine⟨v,B,?_,D⟩;show l++glue ps (rd n ps e)=_;rw[C,<- G,z6n s]
   |gp c =>
    have g:rd n (.gp c::ps) b=cut n b e::rd n ps e:=by simp[rd,Pt.isG,hf]
    rw[g];refine⟨by simp[gsOf,v],λi d t j o=>?_,?_,λt f=>?_⟩
    ·cases i with
     |zero =>
      simp[gsOf] at j o;subst j o;exact u
     |succ i=>exact B i d t (by simpa[gsOf] using j) (by simpa using o)
    ·show cut n b e++glue ps (rd n ps e)=_;rw[C,z6n s]
    ·rcases Av.mp f with rfl|f
     ·unfold cut;rw[Cg,Ca];lia
     ·exact D t f
def allOf_iff:allOf t s=true↔t≠[]/\∀c∈t,c∈s:=by
 unfold allOf;simp
theorem q5l:∀(l cur),(∀c∈cur,c∈NS)->(∀c∈l,c∈GS\/c∈NS)->∀p∈parse cur l,p.ok
 |[],cur,h1,_=>λp f=>by
  have hp':p∈tp cur:=f;unfold tp at hp';split at hp'
  ·cases hp'
  ·rename_i hne;rw[Ao.mp hp'];exact⟨hne,h1⟩
 |c::r,cur,h1,h2=>λp f=>by
  have e:parse cur (c::r)=if c∈GS then tp cur++.gp c::parse [] r else parse (cur++[c]) r:=rfl
  rw[e] at f;have g:=λd hd=>h2 d (Ak _ hd);split at f
  ·rename_i hc;rcases Au.mp f with z|z
   ·unfold tp at z;split at z
    ·cases z
    ·rename_i hne;rw[Ao.mp z];exact⟨hne,h1⟩
   ·rcases Av.mp z with rfl|z
    ·exact hc
    ·exact q5l r [] (λ_ h=>nomatch h) g p z
  ·rename_i hc;refine q5l r (cur++[c]) (λd hd=>?_) g p f;rcases Au.mp hd with z|z
   ·exact h1 d z
   ·grind
theorem x6y:∀(l cur),(cur≠[]\/l≠[])->parse cur l≠[]
 |[],cur,h=>by
  have f:cur≠[]:=h.resolve_right (λz=>z rfl);show tp cur≠[];unfold tp;rw[if_neg f];simp
 |c::r,cur,h=>by
  have e:parse cur (c::r)=if c∈GS then tp cur++.gp c::parse [] r else parse (cur++[c]) r:=rfl
  rw[e];split
  ·simp
  ·exact x6y r _ (.inl (by simp))
theorem q7m:∀(l cur),(parse cur l).length<=2*l.length+1
 |[],cur=>by show(tp cur).length<=_;unfold tp;split<;>simp
 |c::r,cur=>by
  have e:parse cur (c::r)=if c∈GS then tp cur++.gp c::parse [] r else parse (cur++[c]) r:=rfl
  rw[e];have f:(tp cur).length<=1:=by unfold tp;split<;>simp
  split
  ·have:=q7m r [];rw[Af,Bc,Bc];lia
  ·have:=q7m r (cur++[c]);rw[Bc];lia
structure DF (H:Hp) (a) (f:Nat->Option Nat):Prop where
 ex:∃kvs,H a=some (.dK kvs)/\kvs.length<=5000/\∀b:Nat,valV kvs (Sum.inl (b))=(f b).map λe=>V.int (e:Nat)
def DF.same(h:DF H a f)(sm:Same H H'):DF H' a f:=by obtain⟨g,j,o,s⟩:=h.ex;exact⟨g,sm _ _ j,o,s⟩
def DF.get(h:DF H a f)(b:Nat):DGet H a (.int (b)) ((f b).map λe=>V.int (e:Nat)):=by
 obtain⟨g,j,s,o⟩:=h.ex;have:=DGet.k (k:=Sum.inl (b:Int)) j;rw[o] at this;exact this
def DF.new(h:DF H a f)(g:H b=none):DF (upd H b o) a f:=h.same ((Same.refl H).new g)
def key_inj{i j:Nat}:((Sum.inl (i):Key)=Sum.inl (j:Int))↔i=j:=by grind
inductive DS (H:Hp) (n:List Nat):List Addr->List Pt->Prop
 |nil:DS H n [] []
 |cons {d:Addr} {p:Pt} {ds:List Addr} {ps:List Pt}:DF H d (far p n (fits n ps))->DS H n ds ps->DS H n (d::ds) (p::ps)
def DS.same(h:DS H n ds ps)(sm:Same H H'):DS H' n ds ps:=by
 induction h with
 |nil=>exact .nil
 |cons a _ ih=>exact .cons (a.same sm) ih
def DS.keepL(h:DS H n ds ps)(k:∀b kvs,H b=some (.dK kvs)->H' b=some (.dK kvs)):DS H' n ds ps:=by
 induction h with
 |nil=>exact .nil
 |cons a _ ih=>obtain⟨kvs,f,g,j⟩:=a.ex;exact .cons ⟨kvs,k _ _ f,g,j⟩ ih
def DS.len(h:DS H n ds ps):ds.length=ps.length:=by
 induction h with
 |nil=>rfl
 |cons _ _ ih=>simp[ih]
def DS.get(h:DS H n ds ps):∀{i} {d},ds[i]?=some d->∃p,ps[i]?=some p/\DF H d (far p n (fits n (ps.drop (i+1)))):=by
 induction h with
 |nil=>simp_all
 | @cons d0 p ds ps a _ ih =>
  intro i d h;cases i with
  |zero=>simp_all
  |succ i =>simp_all
def x6z{kvs:List (Key×V)}{b e:Nat}{f:Nat->Option Nat}(h:∀c:Nat,valV kvs (Sum.inl (c))=(f c).map λe=>V.int (e:Nat))(c:Nat):
  valV (putK kvs (Sum.inl (b)) (.int (e))) (Sum.inl (c))=((λc=>if c=b then some e else f c) c).map λe=>V.int (e:Nat):=by
 rw[z6i];by_cases z:c=b
 ·grind
 ·rw[if_neg (λh=>z (key_inj.mp h)),h];show _=Option.map _ (if c=b then _ else _);rw[if_neg z]
noncomputable abbrev vN(ns:List (List Nat)):List V:=ns.map λn=>V.str (mk n)
def q0o(l):(mk l).length=l.length:=by rw[len,q0x]
def dec_str(a b):decide (V.str (mk a)=V.str (mk b))=decide (a=b):=by simp_all
def q3e{f:Type}{l:List f}{x}(h:l[i]?=some x):l.drop i=x::l.drop (i+1):=by
 have g:=(Ap.mp h).1;rw[La g];congr 1;exact(Ap.mp h).2
end K
namespace PySem.Rv
open Sem (wp)
namespace F
def q6b:mroOf (.type "reversed")=pure [.type "reversed",.type "object"]:=by rw[mroOf_type];kernel_rfl
def q4w:Ue (.type "reversed") "__new__" = pure (some (.builtin "reversed.__new__")):=by rw[Oa,Jq];kernel_rfl
def q5m:Slot "reversed" "__init__" "object.__init__" :=
 .of (owner := "object") (n := "__init__") (by rw[Oa,Jq];kernel_rfl) (by trivial) (by trivial) (by trivial)
  (by first|exact .inl (by rw[Kp];kernel_rfl)|exact .inr (by rw[Kp];kernel_rfl)) (by rw[Jr];kernel_rfl)
def called_reversed:TypeCalled "reversed" "reversed.__new__" "object.__init__" :=
 ⟨by trivial,by trivial,⟨_,_,q6b⟩,madeBy_type q6b q4w (by trivial),by trivial,by rw[Jr];kernel_rfl,q5m⟩
def typeCall_reversed_1(a):checkTypeCall "reversed" ⟨[a],[]⟩=pure ():=by kernel_rfl
def newCall_reversed_1(a):Mz "reversed.__new__" ⟨[.type "reversed",a],[]⟩=pure ():=by kernel_rfl
def entry_reversed_new:Xa table "reversed.__new__" = some Ea.«reversed.__new__» := entryFor_of_tree (by kernel_rfl)
def slot_lrev_next:Slot "list_reverseiterator" "__next__" "list_reverseiterator.__next__" :=
 .of (owner := "list_reverseiterator") (n := "__next__") (by rw[Oa,Jq];kernel_rfl) (by trivial) (by trivial) (by trivial)
  (by first|exact .inl (by rw[Kp];kernel_rfl)|exact .inr (by rw[Kp];kernel_rfl)) (by rw[Jr];kernel_rfl)
def entry_lrev_next:Xa table "list_reverseiterator.__next__" = some Ea.«list_reverseiterator.__next__» := entryFor_of_tree (by kernel_rfl)
def slot_lrev_iter:Slot "list_reverseiterator" "__iter__" "list_reverseiterator.__iter__" :=
 .of (owner := "list_reverseiterator") (n := "__iter__") (by rw[Oa,Jq];kernel_rfl) (by trivial) (by trivial) (by trivial)
  (by first|exact .inl (by rw[Kp];kernel_rfl)|exact .inr (by rw[Kp];kernel_rfl)) (by rw[Jr];kernel_rfl)
def entry_lrev_iter:Xa table "list_reverseiterator.__iter__" = some Ea.«dict_keyiterator.__iter__» :=
 entryFor_alias (id' := "dict_keyiterator.__iter__") (by kernel_rfl) (by first|rfl|decide +kernel|(unfold String.splitOn;simp +decide [String.splitOnAux])) (by trivial) (by kernel_rfl)
def q9c:Manifest.owners.lookup (String.ofList ['r', 'o', 't', 'a', 'r', 'e', 't', 'i', 'e', 's', 'r', 'e', 'v', 'e', 'r', '_', 't', 's', 'i', 'l'].reverse)=some Manifest.sig_list_reverseiterator:=by kernel_rfl
def args_lrev_next_1(a):argsOk "list_reverseiterator.__next__" ⟨[a],[]⟩:=by
 unfold argsOk;rw[signature?_of (n:=['_', '_', 't', 'x', 'e', 'n', '_', '_']) (by kernel_rfl) q9c];kernel_rfl
def args_lrev_iter_1(a):argsOk "list_reverseiterator.__iter__" ⟨[a],[]⟩:=by
 unfold argsOk;rw[signature?_of (n:=['_', '_', 'r', 'e', 't', 'i', '_', '_']) (by kernel_rfl) q9c];kernel_rfl
def sub_reversed:isSubtype (.type "reversed") (.type "reversed")=pure true:=by rw[Jr];kernel_rfl
def sub_lrev:isSubtype (.type "list_reverseiterator") (.type "reversed")=pure false:=by rw[Jr];kernel_rfl
end F
open Sem (wp)
noncomputable def IsRevIter(h:Heap)(it l:Addr)(k:Int):Prop:=∃o,h.get? it=some o/\o.cls=.type "list_reverseiterator" /\ o.data=.fields #[.ref l,.int k 0]
section
variable{prog:Aq}{w:World}{A:Around}{E:Value->Ah->Prop}{s:Ah}
def wpAny_pyNext_rev_item{k:Nat}{items}(g:IsRevIter s.heap it l k)(hl:s.heap.IsList l items)(B:items[k]?=some x)(C:∀h',IsRevIter h' it l ((k)-1)->Gd it s.heap h'->Q (some x) { s with heap:=h' }):wpAny (model prog w) A (Hr (.ref it)) Q E s:=by
 obtain⟨o,f,u,hd⟩:=id g;obtain⟨D,h,_,G,j⟩:=hl;have v:s.TypeIs (.ref it) "list_reverseiterator" := ⟨o,f,u⟩
 refine Ac (Fe (Cj v F.slot_lrev_next
  (Cb F.slot_lrev_next v F.entry_lrev_next ?_ (F.args_lrev_next_1 _))))
 show wpAny _ _ (field (.ref it) 1 >>= _) _ _ s;refine Ac (Br f hd rfl ?_);refine Ac (Br f hd rfl ?_);refine Ac (Gm h j ?_);simp only[Hz,B];refine Ac (Hf f hd (by simp) (Ad ⟨x,rfl,Ad (C _ ?_ (Ku ..))⟩));exact⟨_,Fo _ f (Js (Fq hd _)),(Wg ..).trans u,by
  rw[Fq hd];simp[Es]⟩
def wpAny_pyNext_rev_end(j:A.handled=none)(f:IsRevIter s.heap it l k)(hk:k<0)(u:∀h',Sq it s.heap h'->Q none { s with heap:=h' }):wpAny (model prog w) A (Hr (.ref it)) Q E s:=by
 obtain⟨o,g,v,hd⟩:=id f;have h:s.TypeIs (.ref it) "list_reverseiterator" := ⟨o,g,v⟩
 refine Ac (Fe (Cj h F.slot_lrev_next
  (Cb F.slot_lrev_next h F.entry_lrev_next ?_ (F.args_lrev_next_1 _))))
 show wpAny _ _ (field (.ref it) 1 >>= _) _ _ s;refine Ac (Br g hd rfl ?_);show wpAny _ _ (if (k<0) then _ else _) _ _ s;rw[if_pos hk];refine Ac (Ge (Ac ?_));refine Ac ?_;refine Ac (Cf ?_ (by size_fits));refine Ac (Jf (by first|rfl|(simp only[Te];rfl)) ?_);refine Cf ?_ (by size_fits);refine Ac (Uq ?_);rw[show A.in1.handled=none from j];refine Ac (Ad (Ws ?_));refine Ac (Gi ⟨_,Aw _ rfl,rfl⟩ Ly ?_);exact Ad (u _ (λb o _ e=>Ag _ (Ag _ e)))
def wpAny_pyIter_rev(f:IsRevIter s.heap it l k)(h:Q (.ref it) s):wpAny (model prog w) A (Jm (.ref it)) Q E s:=by
 obtain⟨o,j,u,hd⟩:=id f;have g:s.TypeIs (.ref it) "list_reverseiterator" := ⟨o,j,u⟩
 refine Qn g F.slot_lrev_iter (Cb F.slot_lrev_iter g F.entry_lrev_iter ?_ (F.args_lrev_iter_1 _));exact Ad ⟨_,rfl, "list_reverseiterator",_,g,F.slot_lrev_next.lookup,h⟩
def q4x(l)(f)(n):
  Meets (Ea.«reversed.__new__» ⟨[.type "reversed",.ref l],[]⟩) (λ_ R s=>s.heap.get? l=some { cls:=.type "list",dict:=none,data:=.seq f n,slots:=#[] } /\
   R (.ok (.ret (.ref s.heap.objs.size))) { s with heap:=s.heap.push { cls:=.type "list_reverseiterator",data:=.fields #[.ref l,Es (((f.size:Nat):Int)-1)] } }) :=
 .of_wp λprog w A R s h=>by
  obtain⟨j,g,d,tk,os⟩:=s;obtain⟨hl,h⟩:=h;have v:Ah.TypeIs ⟨j,g,d,tk,os⟩ (.ref l) "list" := ⟨_,hl,rfl⟩
  wp_walk
  refine Jf F.sub_reversed ?_
  wp_walk
  refine Jf Kg.lookup ?_
  wp_walk
  refine Jf (Kg.bind (Value.ref l)) ?_
  wp_walk
  have u:Ey (model prog w) A.in1 (Code.call (.builtin "list.__reversed__") ⟨[.ref l],[]⟩) (λr o=>r=.ok (.ret (.ref j.objs.size))/\o=(⟨j.push { cls:=.type "list_reverseiterator",data:=.fields #[.ref l,Es (((f.size:Nat):Int)-1)] },g,d,tk,os⟩:Ah)) ⟨j,g,d,tk,os⟩ :=
   Gu Kg.plain F.entry_list_reversed (Kg.check _ _ _ _ _ _ _ _ v (F.args_list_reversed_1 _) (AutoListH.list___reversed___list_0 l f n prog w A.in1 (λr o=>r=.ok (.ret (.ref j.objs.size))/\o=(⟨j.push { cls:=.type "list_reverseiterator",data:=.fields #[.ref l,Es (((f.size:Nat):Int)-1)] },g,d,tk,os⟩:Ah)) ⟨j,g,d,tk,os⟩ ⟨hl,rfl,rfl⟩))
  refine Gs u λr o B=>?_;obtain⟨rfl,rfl⟩:=B;exact Ad ⟨_,rfl,h⟩
def q8o(o:TypeCalled T newId initId)(u:isSubtype (.type U) (.type T)=pure false)(G:checkTypeCall T ⟨args,[]⟩=pure ())(v:Mz newId ⟨.type T::args,[]⟩=pure ())(j:Xa table newId=some Bn)(g:Meets (Bn ⟨.type T::args,[]⟩) S)(h:S A.in1 (wants (λobj f=>f.TypeIs obj U/\Q obj f) E) s):wpAny (model prog w) A (call (.type T) args) Q E s:=by
 obtain⟨c,tl,D⟩:=o.mro;have B:=o.made;refine Ja (Se ?_);refine Ad ⟨Pq _ (by trivial),Lb F.entry_type_call ?_⟩;have H:=o.notType;have I:=o.canCreate;repeat (any_goals (first|assumption|wp_step))
 refine Gs (Gu o.plain j (Jf v (g prog w A.in1 _ s h))) λr f C=>?_;cases r with
 |error e=>exact C
 |ok fl =>
  cases fl with
  |ret obj =>
   obtain⟨J,L⟩:=C;repeat (any_goals (first|assumption|wp_step))
  |_=>exact C.elim
def call_reversed_list(hl:s.heap.get? l=some { cls:=.type "list",dict:=none,data:=.seq items n,slots:=#[] })(h:Q (.ref s.heap.objs.size) { s with heap:=s.heap.push { cls:=.type "list_reverseiterator",data:=.fields #[.ref l,Es (((items.size:Nat):Int)-1)] } }):
  wpAny (model prog w) A (call (.type "reversed") [.ref l]) Q E s :=
 q8o F.called_reversed F.sub_lrev (F.typeCall_reversed_1 _) (F.newCall_reversed_1 _) F.entry_reversed_new (q4x l items n) ⟨hl,⟨_,Aw _ rfl,rfl⟩,h⟩
end
end PySem.Rv
namespace L2
open PySem PySem.Spec PyProof.Rows
noncomputable def Itv(K:Ai)(a:Addr)(n:Nat):It :=
 ⟨λi H=>∃xs x,SqL K H a xs/\xs.length=n/\xs.reverse[i]?=some x,λi H x H'=>H'=H/\∀xs,SqL K H a xs->xs.reverse[i]?=some x,λi _=>n<=i⟩
def z8d(x:PySem.Rv.IsRevIter h it l k)(e:∀o,h.get? it=some o->h'.get? it=some o):PySem.Rv.IsRevIter h' it l k:=by obtain⟨o,f,r⟩:=x;exact⟨o,e _ f,r⟩
def x4h{K:Ai}(a f:Addr)(n:Nat):Turn P w K tg (Itv K a n) [f] f (λi h=>PySem.Rv.IsRevIter h f a ((n:Int)-1-i)) where
 mem:=by simp
 obj:=λi h st b j=>by
  have e:b=f:=by grind
  subst e;obtain⟨o,e,c,d⟩:=st;exact⟨o,e,λv z=>by rw[d] at z;cases z⟩
 keep:=λi h F st k=>z8d st λo e=>k f (by simp) o e
 item:=by
  intro X Q R S T i g s U H E I D st G;subst Q R S;obtain⟨B,x,W,hn,Y⟩:=G;obtain⟨Z,rv,p,hz⟩:=I.list W;have hi:i<B.length:=by have:=(Ap.mp Y).1;simpa using this
  have hx':B[B.length-1-i]?=some x:=by grind
  obtain⟨u,hu,ru⟩:=rv.get hx';obtain⟨f0,J,f2,L,M,O⟩:=D f (by simp);have a0:((n:Int)-1-(i:Int))=((B.length-1-i:Nat):Int):=by lia
  have st1:PySem.Rv.IsRevIter s.heap f a ((B.length-1-i:Nat):Int):=by simp_all
  refine PySem.Rv.wpAny_pyNext_rev_item st1 p.isList (by simpa using hu) λF C sb=>?_;have I1:Inv X g U H { s with heap:=F }:=I.turned (t':=s.toks) (λb o j e=>(sb.2 b j).trans e) f0 J L M O;obtain⟨o,e,c,d⟩:=id C;refine⟨u,rfl,z4m e c d (by decide) ⟨x,H,I1,ru,⟨rfl,λys hy=>by rw[I.list_inj hy W];exact Y⟩,?_,λb j=>(D b j).1⟩⟩;have e2:((n:Int)-1-((i+1:Nat):Int))=((B.length-1-i:Nat):Int)-1:=by lia
  rw[e2];exact C
 done:=by
  intro X Q R S T i g s U H E I D st G;obtain⟨f0,J,f2,L,M,O⟩:=D f (by simp);have a1:n<=i:=G;exact PySem.Rv.wpAny_pyNext_rev_end (I.ok.hd T) st (by lia) λF eb=>⟨rfl,I.turned (t':=s.toks) (λb o j e=>eb b o j e) f0 J L M O⟩
 self:=λ_ _ _ _ _ st h=>PySem.Rv.wpAny_pyIter_rev st h
section
variable{X:Cx}{tg:Expr}
noncomputable def iRev(K:Ai)(ta:TA):TI:=λσ H R=>ta σ H λvs H1=>∃a xs,vs=[.ref a]/\H1 a=some (.lst xs)/\R (Itv K a xs.length) H1
def pi_rev(D:Gl X "reversed")(E:X.mg "reversed" = none)(ha:PA X [a] ta)(F:Bd [a] X.env=[(false,eval a X.env)]:=by rfl):
  PI X tg (.Call (.Name "reversed" p) [a] [] pos) (iRev X.K ta):=by
 intro g s G H R I h;refine Call_ (q5z I D E (by decide +kernel:Ho "reversed" = some (.type "reversed")) (Ei (thn (ha pos g s G H _ I h) λQ f J=>?_) F rfl));obtain⟨vs,L,v,M,O⟩:=J;obtain⟨l,C,e,P,q⟩:=O;subst e;obtain⟨u,rfl,r⟩:=vals1 M;cases r;obtain⟨z,B,n,S,hl,e⟩:=v.lstM P;refine PySem.Rv.call_reversed_list e ?_;have j:PySem.Rv.IsRevIter (f.heap.push { cls:=.type "list_reverseiterator",data:=.fields #[.ref l,Es (((B.toArray.size:Nat):Int)-1)] }) f.heap.objs.size l ((C.length:Int)-1-((0:Nat):Int)):=by
  refine⟨_,Aw _ rfl,rfl,?_⟩;rw[Bg,<- hl];simp[Es]
 refine PySem.Rv.wpAny_pyIter_rev j ?_;refine⟨f.heap.objs.size,[f.heap.objs.size],_,_,L,rfl,v.kept (t':=f.toks) λb o e=>Ag _ e,x4h l _ C.length,j,λb T=>?_,q⟩;have e:b=f.heap.objs.size:=by grind
 subst e;exact v.fpOk (Aj _) (v.hok.fresh (Aj _))
def rev_k(K)(g:X.K=K)(h:Gl X "reversed")(j:X.mg "reversed" = none)(ha:PA X [a] f)(o:Bd [a] X.env=[(false,eval a X.env)]:=by rfl):
  PI X tg (.Call (.Name "reversed" p) [a] [] pos) (iRev K f):=by subst g;exact pi_rev h j ha o
def x8y{K}{g:TG}{tb:TS}{D:Ends}(j:Nat->St->Hp->Prop)(C:j 0 f H)(hl:∀i f H,j i f H->SqL K H a xs)(E:∀i x f H,xs.reverse[i]?=some x->j i f H->g x f H λo u=>tb { D with nx:=j (i+1),ct:=j (i+1),bk:=D.nx } o u)(hd:∀f H,j xs.length f H->D.nx f H):
  ∃W:Nat->Nat->St->Hp->Prop,(∃m,W 0 m f H)/\∀i m f H,W i m f H ->
   ((Itv K a xs.length).stop i H/\D.nx f H)\/((Itv K a xs.length).go i H/\∃N,(∀s H',N s H'->∃B,B<m/\W (i+1) B s H')/\∀x H',(Itv K a xs.length).yld i H x H'->g x f H' λo u=>tb { D with nx:=N,ct:=N,bk:=D.nx } o u):=by
 refine z2j j C (λi f H h p=>⟨xs,xs.reverse[i]'(by simpa using h),hl i f H p,rfl,Bv _⟩) (λf H _=>Aj _) (λi v f H H' h p F=>?_) hd;obtain⟨rfl,y⟩:=F;exact E i v f _ (y xs (hl i f _ p)) p
end
def Inv.freezeK{j:St}(I:Inv X pins j H s)(hd:H d=some u)(D:s.heap.get? d=some ob)(E:(∃kvs,u=.dK kvs)\/∃kvs,u=.dT kvs):Inv X pins j (upd H d (.frz ob u)) s:=by
 have f:∀{v:HO} {b:Addr},H b=some v->((∀kvs,v≠.dK kvs)/\∀kvs,v≠.dT kvs)->b≠d:=λ{v b} z hv y=>by
  subst y;rw[hd] at z;cases z;rcases E with⟨kvs,rfl⟩|⟨kvs,rfl⟩
  ·exact hv.1 _ rfl
  ·exact hv.2 _ rfl
 have g:∀{b:Addr},H b=none->b≠d:=λ{b} z y=>by subst y;rw[hd] at z;cases z
 refine⟨I.ok,I.os,I.bare,⟨I.base.keep,I.base.slot,λb o e n F=>?_,I.base.there,λb B e=>?_,λb o v e=>?_,λb G e=>?_⟩,I.loc,I.cell,?_,λx c e=>?_,λp J=>?_,λb v e=>?_,I.len⟩
 ·have z:=I.base.free b o e n F;rw[q0g (g z)];exact z
 ·have z:=I.base.tups b B e;rw[q0g (f z ⟨λ_ y=>(by cases y),λ_ y=>(by cases y)⟩)];exact z
 ·have z:=I.base.frzs b o v e;rw[q0g (f z ⟨λ_ y=>(by cases y),λ_ y=>(by cases y)⟩)];exact z
 ·obtain⟨m,z⟩:=I.base.tbls b G e;exact⟨m,by rw[q0g (f z ⟨λ_ y=>(by cases y),λ_ y=>(by cases y)⟩)];exact z⟩
 ·rw[q0g (g I.free)];exact I.free
 ·rw[q0g (g (I.freeC x c e))];exact I.freeC x c e
 ·obtain⟨e,n,ne,h,L⟩:=I.pin p J;exact⟨e,by rw[q0g (g n)];exact n,ne,h,L⟩
 ·have st:∀{b:Addr} {v:HO},ObjOk X.prog X.w H s.heap b v->ObjOk X.prog X.w (upd H d (.frz ob u)) s.heap b v:=λx =>
   x.stay (λ_ _ _ q=>q) (λc q=>by rw[q0g (f q ⟨λ_ y=>(by cases y),λ_ y=>(by cases y)⟩)];exact q) λc B q=>by rw[q0g (f q ⟨λ_ y=>(by cases y),λ_ y=>(by cases y)⟩)];exact q
  by_cases C:b=d
  ·subst C;rw[q0c] at e;cases e;exact⟨D,st (I.hok b u hd)⟩
  ·rw[q0g C] at e;exact st (I.hok b v e)
end L2
namespace K
open PySem L2 TX
def z0d(l)(len:Nat)(h:(len:Int)<=j):Jv l (some j) 1 len=Jv l (some (len)) 1 len:=by
 have a:¬(j<0):=by lia
 have b:¬((len:Int)<0):=by lia
 have c:min j (len:Int)=(len:Int):=by lia
 simp[Jv,a,b,c]
def q7n{l:List Nat}(g:i<=j)(o:i<=l.length):Sf (mk l) (some (i)) (some (j))=mk ((l.drop i).take (j-i)):=by
 have f:(mk l).cps.toList=l:=q0x l;by_cases h:j<=l.length
 ·show Gx (mk l) (some (i:Int)) (some (j:Int))=_;rw[Tg (mk l) g (by rw[q0o];exact h),f]
 ·have e:Gx (mk l) (some (i:Int)) (some (j:Int))=Gx (mk l) (some (i:Int)) (some (((mk l).length:Nat):Int)):=by
   unfold Gx;rw[z0d (some (i:Int)) (mk l).length (by rw[q0o];lia)]
  show Gx (mk l) (some (i:Int)) (some (j:Int))=_;rw[e,Tg (mk l) (by rw[q0o];exact o) (Aj _),f,q0o];rw[Dl (by rw[Ca];lia),Dl (by rw[Ca];lia)]
end K
namespace L2
open PySem PySem.Spec PyProof.Rows
section
variable{X:Cx}
def x0h:CallR X (.type "int") (λxs H Q=>∃x n,xs=[.str x]/\Lz x=some n/\x.length<=640/\Q (.int n) H):=by
 intro f s o H xs v Q I r h;obtain⟨x,n,rfl,g,j,q⟩:=h;obtain⟨u,rfl,t,rfl⟩:=vals1 r;exact W.KIN.call_text g j ⟨.int n,H,I.tok _,⟨_,rfl⟩,q⟩
def q3w:CallR X (.type "int") (λxs H Q=>((∃i,xs=[.int i]/\Q (.int i) H)\/∃k,xs=[.bl k]/\Q (.int (if k then 1 else 0)) H)\/∃x n,xs=[.str x]/\Lz x=some n/\x.length<=640/\Q (.int n) H):=call_int1.or x0h
end
end L2
namespace K
open PySem L2 TX
noncomputable def dg(m:Nat):List Nat:=tl (Ab (toString (m:Int)))
def x8z(m:Nat):Ab (toString (m:Int))=mk (dg m):=(z9x _).symm
def x4i(m):dg m=(Nat.toDigits 10 m).map Char.toNat:=W.KIN.signs_num m
def q2w(h:m<10):dg m=[48+m]:=by
 rw[x4i,Nat.toDigits_of_lt_base h];exact(by decide:∀m:Nat,m<10->[Nat.digitChar m].map Char.toNat=[48+m]) m h
def z4s(h:10<=m):dg m=dg (m / 10)++[48+m%10]:=by
 have f:m%10<10:=Nat.mod_lt m (by decide);have t:Nat.toDigits 10 (m / 10)++Nat.toDigits 10 (m%10)=Nat.toDigits 10 (10*(m / 10)+m%10):=Nat.toDigits_append_toDigits (by decide) (by lia) f;rw[Nat.div_add_mod] at t;rw[x4i,x4i,<- t,Bb];congr 1;exact(x4i (m%10)).symm.trans (q2w f)
def x0i(m):∀c∈dg m,c∈FI:=by
 have g:∀d:Nat,d<10->48+d∈FI:=by trivial
 induction m using Nat.strongRecOn with
 |_ m ih =>
  by_cases h:m<10
  ·rw[q2w h];intro c f;rw[Ao.mp f];exact g m h
  ·rw[z4s (by lia)];intro c f;rcases Au.mp f with z|z
   ·grind
   ·rw[Ao.mp z];exact g _ (Nat.mod_lt m (by decide))
def x9a(m):∃d r,dg m=(48+d)::r/\d<10/\(d=0->m=0/\r=[]):=by
 induction m using Nat.strongRecOn with
 |_ m ih =>
  by_cases h:m<10
  ·exact⟨m,[],q2w h,h,λz=>⟨z,rfl⟩⟩
  ·obtain⟨d,r,f,g,j⟩:=ih (m / 10) (by lia);refine⟨d,r++[48+m%10],by rw[z4s (by lia),f];rfl,g,λz=>?_⟩;have:=(j z).1;lia
theorem z2r:∀(k m),m<10^(k+1)->(dg m).length<=k+1
 |0,m,h=>by rw[q2w (by simpa using h)];exact Aj _
 |k+1,m,h=>by
  by_cases f:m<10
  ·rw[q2w f];simp
  ·rw[z4s (by lia),Af,Bi];have:=z2r k (m / 10) (by rw[Vo] at h;lia);lia
def x0j(h:m<10^10):Lz (mk (dg m))=some (m:Int):=by
 exact W.KIN.num_reads (by lia) (by lia)
end K
namespace L2
open PySem PySem.Spec PyProof.Rows
structure KDict (P) (w) (K:Ai) (d) (kvs):Prop where
 ex:∃ob vs,K.lookup d=some ob/\KV kvs vs/\∀h:Heap,h.get? d=some ob->h.DictOf (mixKind P w) d vs
noncomputable def tKGet(kvs:List (Key×V))(ty:TE):TE:=λσ H Q=>ty σ H λy H1=>∃k v,y=kV k/\valV kvs k=some v/\Q v H1
def x9b(E:Gl X x)(F:X.mg x=some (.ref d))(D:KDict X.prog X.w X.K d kvs)(G:PE X i u)(J:NoSl i)(g:(x==("__debug__" : Str))=false:=by decide):
  PE X (.Subscript (.Name x p) i pos) (tKGet kvs u):=by
 intro f s L H Q I h;refine x0f Qt.lookup J (q3c I E F (thnE (G f s L H _ I h) λW Y y M B O P=>?_) g);obtain⟨k,v,R,l,S⟩:=P;subst R;obtain⟨T,vs,hk,j,hd⟩:=D.ex;have C:=hd _ (B.kIn d T hk);obtain⟨Z,U,o⟩:=RelO.some_of (by rw[<- l];exact j.val k);exact⟨C.typeIs,wpAny_getItem_of (z2o O) C.mapOf U ⟨v,M,B.tok _,o,S⟩⟩
section
variable{X:Cx}
def x4j:PGet X (rIxL X.K):=by
 intro f s J H x y v u Q I L M h;obtain⟨p,U,i,z,rfl,rfl,O,P,q⟩:=h;cases L;obtain⟨t,rfl⟩:=M;obtain⟨B,r,E,W⟩:=I.list O;obtain⟨j,o,R,Y,S,T⟩:=q9r P;obtain⟨w,F,C⟩:=r.get R;have hl:=r.length;have hn:=line63;have g:EP X f J Q w s:=⟨z,H,I,C,q⟩
 by_cases G:0<=i
 ·have D:i.toNat=j:=by
   rw[Sj G T] at o;exact Co o
  exact wpAny_getItem_list E.isList G (by lia) (by rw[D];simpa using F) g
 ·have D:(i+(B.toArray.size:Int)).toNat=j:=by
   rw[seqIndex_neg (by lia) S] at o;rw[Bg,<- hl];exact Co o
  exact Sm E.isList (by lia) (by rw[Bg]<;>lia) (by lia) (by rw[D];simpa using F) g
def get_k(K)(f:X.K=K):PGet X (rIxL K):=by subst f;exact x4j
end
section
variable{X:Cx}
noncomputable def rRjust:V->List V->Hp->VK->Prop:=λx vs H Q=>∃z i c,x=.str z/\vs=[.int i,.str c]/\PadOk i=true/\c.length=1/\Q (.str (Xr z i (c.cps.getD 0 0))) H
def x4k:MtM X "str.rjust" rRjust:=by
 intro g s E H x vs v F Q I j o h;obtain⟨z,i,c,rfl,rfl,B,C,q⟩:=h;obtain⟨t,rfl⟩:=j;obtain⟨u,w,rfl,D,f⟩:=o.two;obtain⟨G,rfl⟩:=D;obtain⟨J,rfl⟩:=f;exact rjust_fill B C λL k=>⟨.str _,H,I.tok _,⟨_,rfl⟩,q⟩
def q7o:CallR X (.type "str") (λxs H Q=>∃n:Nat,xs=[.int (n)]/\n<=10^14/\Q (.str (Ab (toString (n:Int)))) H):=by
 intro f s v H xs B Q I r h;obtain⟨n,rfl,j,q⟩:=h;obtain⟨u,rfl,t,rfl⟩:=vals1 r;refine PySem.P.str_of_int ?_ ⟨.str (Ab (toString (n:Int))),H,I.tok _,⟨_,rfl⟩,q⟩;rw[Int.natAbs_natCast];have o:n<2^50:=Ph j (by decide);have:n.log2<50:=by
  by_cases g:n=0
  ·rw[g];decide
  ·exact(Nat.log2_lt g).mpr o
 lia
end
end L2
namespace K
open PySem L2 TX
noncomputable def wn(w:Nat)(t:List Nat):List Nat:=List.replicate (w-t.length) 48++t
def rj{w:Nat}:Xr (mk t) (w) 48=mk (wn w t):=by
 have hl:(mk t).length=t.length:=by rw[len,q0x]
 unfold Xr wn;by_cases h:((w:Nat):Int)<=((mk t).length:Int)
 ·simp_all
 ·rw[if_neg h,hl];simp[Ea.Str.padded,tl,mk]
end K
namespace L2
open PySem PySem.Spec PyProof.Rows
def Inv.thaw{j:St}(I:Inv X pins j H s)(hd:H d=some (.frz ob u))(D:∀o v,X.H₀ d≠some (.frz o v)):Inv X pins j (upd H d u) s:=by
 have f:∀{v:HO} {b:Addr},H b=some v->(∀o z,v≠.frz o z)->b≠d:=λ{v b} z hv y=>by
  subst y;rw[hd] at z;cases z;exact hv _ _ rfl
 have g:∀{b:Addr},H b=none->b≠d:=λ{b} z y=>by subst y;rw[hd] at z;cases z
 refine⟨I.ok,I.os,I.bare,⟨I.base.keep,I.base.slot,λb o e n E=>?_,I.base.there,λb B e=>?_,λb o v e=>?_,λb F e=>?_⟩,I.loc,I.cell,?_,λx c e=>?_,λp G=>?_,λb v e=>?_,I.len⟩
 ·have z:=I.base.free b o e n E;rw[q0g (g z)];exact z
 ·have z:=I.base.tups b B e;rw[q0g (f z λ_ _ y=>(by cases y))];exact z
 ·have z:=I.base.frzs b o v e;rw[q0g (λy=>by subst y;exact D _ _ e)];exact z
 ·obtain⟨m,z⟩:=I.base.tbls b F e;exact⟨m,by rw[q0g (f z λ_ _ y=>(by cases y))];exact z⟩
 ·rw[q0g (g I.free)];exact I.free
 ·rw[q0g (g (I.freeC x c e))];exact I.freeC x c e
 ·obtain⟨e,n,ne,h,J⟩:=I.pin p G;exact⟨e,by rw[q0g (g n)];exact n,ne,h,J⟩
 ·have st:∀{b:Addr} {v:HO},ObjOk X.prog X.w H s.heap b v->ObjOk X.prog X.w (upd H d u) s.heap b v:=λx =>
   x.stay (λ_ _ _ q=>q) (λc q=>by rw[q0g (f q λ_ _ y=>(by cases y))];exact q) λc B q=>by rw[q0g (f q λ_ _ y=>(by cases y))];exact q
  by_cases C:b=d
  ·subst C;rw[q0c] at e;cases e;exact st (I.hok b _ hd).2
  ·rw[q0g C] at e;exact st (I.hok b v e)
noncomputable def Ends.thaw(D:Ends)(d:Addr):Ends where
 nx:=λσ H=>∃ob u,H d=some (.frz ob u)/\D.nx σ (upd H d u)
 rt:=λv H=>∃ob u,H d=some (.frz ob u)/\D.rt v (upd H d u)
 bk:=λσ H=>∃ob u,H d=some (.frz ob u)/\D.bk σ (upd H d u)
 ct:=λσ H=>∃ob u,H d=some (.frz ob u)/\D.ct σ (upd H d u)
noncomputable def tThaw(h₀:Hp)(t:TS):TS:=λD σ H=>∃d,(∀o v,h₀ d≠some (.frz o v))/\t (D.thaw d) σ H
def x9c{st}(j)(F:X.H₀=j)(h:PS X st t):PS X st (tThaw j t):=by
 subst F;intro B s G H D I q;obtain⟨d,hd,q⟩:=q;refine Bs (h B s G H _ I q) (λf J z=>?_) λ_ _ z=>z;cases f with
 |next=>obtain⟨g,C,o,E,u,e,n⟩:=z;exact⟨g,_,o.thaw e hd,n⟩
 |brk=>obtain⟨g,C,o,E,u,e,n⟩:=z;exact⟨g,_,o.thaw e hd,n⟩
 |cont=>obtain⟨g,C,o,E,u,e,n⟩:=z;exact⟨g,_,o.thaw e hd,n⟩
 |ret v=>obtain⟨x,g,C,o,r,E,u,e,n⟩:=z;exact⟨x,g,_,o.thaw e hd,r,n⟩
end L2
namespace PySem.Rv
open Sem (wp)
section
variable{prog:Aq}{w:World}{A:Around}{E:Value->Ah->Prop}{s:Ah}{it d:Addr}{i ep:Nat}{dob:Obj}{ens:Array Lh}
def keys_iter(f:(d==Dk)=false)(j:s.TypeIs (.ref d) "dict")(g:s.heap.get? d=some dob)(h:dob.data=.dict ens ep)(o:Q (.ref s.heap.objs.size) { s with heap:=s.heap.push { cls:=.type "dict_keyiterator",data:=.fields #[.ref d,.int 0 0,.int ens.size 0,.int ep 0] } }):
  wpAny (model prog w) A (Jm (.ref d)) Q E s:=by
 refine Qn j Xb (Cb Xb j F.entry_dict_iter ?_ (F.args_dict_iter_1 _));refine Ac (Ac (Ng j (Ad ?_)));show wpAny _ _ (Nh d >>= _) _ _ s;unfold Nh;rw[if_neg (by rw[f];decide)];refine Ac (Ad (Ac (Gy g h (Ac (Jd g h ?_)))));refine Ac (Cf (Ad ⟨_,rfl, "dict_keyiterator",_,⟨_,Aw _ rfl,rfl⟩,Fv.lookup,?_⟩));simpa[Es] using o
def keys_item(f:s.heap.IsKeyIter it d i ens.size ep)(o:s.heap.get? d=some dob)(u:dob.data=.dict ens ep)(v)(C:∀h',h'.IsKeyIter it d (i+1) ens.size ep->Gd it s.heap h'->Q (some ens[i].key) { s with heap:=h' }):wpAny (model prog w) A (Hr (.ref it)) Q E s:=by
 obtain⟨io,j,B,g⟩:=id f;refine Ac (Fe (Cj f.typeIs Fv
  (Cb Fv f.typeIs Om ?_ (Ob _))))
 refine Ac (Ad (Ac (Ac ?_)));first|refine Ac (Hd f.typeIs (Ad ?_))|refine Ac (Im f.typeIs (Ad ?_))
 refine Ac (Oz j g ?_);refine Ac (Ad (Ac (Gy o u ?_)));rw[if_neg (by simp)];refine Ac (Ad (Ac (Jd o u ?_)));rw[if_neg (by simp)];refine Ad ?_;simp only[show ¬((i:Int)<0) from by lia,if_false,Hz,Gp v];refine Ac ?_;first|refine Ac (Hd f.typeIs (Ad ?_))|refine Ac (Im f.typeIs (Ad ?_))
 refine Ac (Th f.typeIs ?_);show wpAny _ _ (setField (.ref it) 1 (Es ((i:Int)+1)) >>= _) _ _ s;refine Ac (Hf j g (by simp) ?_);have h:(s.heap.update it (Gf (·.setIfInBounds 1 (Es ((i:Int)+1))))).IsKeyIter it d (i+1) ens.size ep :=
  ⟨_,Fo _ j (Js (Fq g _)),(Wg ..).trans B,by rw[Fq g];simp[Es]⟩
 refine Ac (Dh (Ac (Th (s:={ s with heap:=s.heap.update it (Gf (·.setIfInBounds 1 (Es ((i:Int)+1)))) }) h.typeIs ?_)));exact Ad (Ad ⟨_,rfl,Ad (C _ h (Ku ..))⟩)
def keys_end(v:A.handled=none)(f:s.heap.IsKeyIter it d i ens.size ep)(g:s.heap.get? d=some dob)(h:dob.data=.dict ens ep)(u:ens.size<=i)(B:∀h',Sq it s.heap h'->Q none { s with heap:=h' }):wpAny (model prog w) A (Hr (.ref it)) Q E s:=by
 obtain⟨io,j,C,o⟩:=id f;refine Ac (Fe (Cj f.typeIs Fv
  (Cb Fv f.typeIs Om ?_ (Ob _))))
 refine Ac (Ad (Ac (Ac ?_)));first|refine Ac (Hd f.typeIs (Ad ?_))|refine Ac (Im f.typeIs (Ad ?_))
 refine Ac (Oz j o ?_);refine Ac (Ad (Ac (Gy g h ?_)));rw[if_neg (by simp)];refine Ac (Ad (Ac (Jd g h ?_)));rw[if_neg (by simp)];refine Ad ?_;simp only[show ¬((i:Int)<0) from by lia,if_false,Hz,Ss u];refine Ac ?_;first|refine Ac (Hd f.typeIs (Ad ?_))|refine Ac (Im f.typeIs (Ad ?_))
 show wpAny _ _ (setField (.ref it) 0 .none >>= _) _ _ s;refine Ac (Hf j o (by simp) ?_);refine Ac ?_;refine Ac (Cf ?_ (by size_fits));refine Ac (Jf (by first|rfl|(simp only[Te];rfl)) ?_);refine Cf ?_ (by size_fits);refine Ac (Uq ?_);rw[show A.in1.handled=none from v];refine Ac (Ad (Ws ?_));refine Ac (Gi ⟨_,Aw _ rfl,rfl⟩ Ly ?_);exact Ad (B _ (((Ku ..).extBut.push _).push _))
end
end PySem.Rv
namespace L2
open PySem PySem.Spec PyProof.Rows
noncomputable def Itk(d:Addr)(ob:Obj)(kvs:List (List Key×V)):It :=
 ⟨λi H=>H d=some (.frz ob (.dT kvs))/\i<kvs.length,λi H x H'=>H'=H/\∃k v b,kvs[i]?=some (k,v)/\H b=some (.tup (k.map kV))/\x=.ref b,λi H=>H d=some (.frz ob (.dT kvs))/\kvs.length<=i⟩
def Hx.at'{F:α->β->Prop}{i:Nat}(h:Hx F l m)(e:l[i]?=some p):∃q,m[i]?=some q/\F p q:=by
 induction h generalizing i with
 |nil=>simp at e
 |cons r _ ih =>
  cases i with
  |zero=>cases e;exact⟨_,rfl,r⟩
  |succ i=>exact ih e
def x0k(ok:HOk P w H h)(g:H d=some (.frz ob (.dT kvs)))(j:ob.data=.dict ens ep):
  h.get? d=some ob/\ens.size=kvs.length/\∀{i:Nat} {k} {v}  hlt ,kvs[i]?=some (k,v)->∃b,ens[i].key=.ref b/\H b=some (.tup (k.map kV)):=by
 obtain⟨f,z,s,D,u,o,I,E,B,J,C,F,L⟩:=(show ObjOk P w H h d (.frz ob (.dT kvs)) from ok d _ g)
 rw[f] at B;cases B;rw[j] at C;cases C;have hl:=Hb u;have M:ens.size=D.length:=by rw[<- He,F,Ae]
 refine⟨f,by lia,λ{i k v} hlt hk=>?_⟩;obtain⟨q,O,Q,G,R⟩:=Hx.at' u hk;refine⟨q.2.1,?_,G⟩;have:ens.toList[i]?=some (Qp (Le (mixKind P w)) q):=by simp_all
 rw[Ti,Gp hlt] at this;injection this with this;rw[this];rfl
def z8e{K:Ai}(d B:Addr)(ob:Obj)(kvs:List (List Key×V))(C:Array Lh)(ep:Nat)(g:ob.data=.dict C ep):
  Turn P w K tg (Itk d ob kvs) [B] B (λi h=>h.IsKeyIter B d i C.size ep) where
 mem:=by simp
 obj:=λi h st b F=>by
  have e:b=B:=by grind
  subst e;obtain⟨o,e,c,O⟩:=st;exact⟨o,e,λv z=>by rw[O] at z;cases z⟩
 keep:=λi h Q st k=>st.at λo e=>k B (by simp) o e
 item:=by
  intro X hP hw hK hc i j s σ H E I M st R;obtain⟨D,hi⟩:=R;obtain⟨f,S,u⟩:=x0k I.hok D g;obtain⟨f0,T,f2,U,W,Y⟩:=M B (by simp);obtain⟨⟨k,v⟩,G⟩:∃p,kvs[i]?=some p:=⟨kvs[i],by simp[hi]⟩
  have J:i<C.size:=by lia
  obtain⟨b,Z,a0⟩:=u J G;refine PySem.Rv.keys_item st f g J λQ L sb=>?_
  rw[Z];have I1:Inv X j σ H { s with heap:=Q }:=I.turned (t':=s.toks) (λb o F e=>(sb.2 b F).trans e) f0 T U W Y;obtain⟨o,e,c,O⟩:=id L;exact⟨.ref b,rfl,z4m e c O (by decide) ⟨.ref b,H,I1,rfl,⟨rfl,k,v,b,G,a0,rfl⟩,L,λb F=>(M b F).1⟩⟩
 done:=by
  intro X hP hw hK hc i j s σ H E I M st R;obtain⟨D,hi⟩:=R;obtain⟨f,S,u⟩:=x0k I.hok D g;obtain⟨f0,T,f2,U,W,Y⟩:=M B (by simp);exact PySem.Rv.keys_end (I.ok.hd hc) st f g (by lia) λQ eb=>⟨rfl,I.turned (t':=s.toks) (λb o F e=>eb b o F e) f0 T U W Y⟩
 self:=λ_ _ _ _ _ st h=>wpAny_pyIter_keyiter st h
section
variable{X:Cx}{tg l:Expr}{tl:TE}
noncomputable def iDictT(tl:TE):TI:=λσ H R=>tl σ H λx H1=>∃d kvs,x=.ref d/\H1 d=some (.dT kvs)/\∀ob,R (Itk d ob kvs) (upd H1 d (.frz ob (.dT kvs)))
def x4l(hl:PE X l tl):PI X tg l (iDictT tl):=by
 intro g s M H R I h;refine thnE (hl g s M H _ I h) λv f x O D P Q=>?_;obtain⟨d,j,e,hd,q⟩:=Q;subst e;cases P;obtain⟨z,u,T,U,F,B,L,E,G,C,W,Y⟩:=(show ObjOk X.prog X.w O f.heap d (.dT j) from D.hok d _ hd)
 refine PySem.Rv.keys_iter u ⟨F,E,G.1⟩ E C ?_;have J:=Bl (As E);have S:=(D.freezeK hd E (.inr ⟨_,rfl⟩)).kept (t':=f.toks) (h':=f.heap.push { cls:=.type "dict_keyiterator",data:=.fields #[.ref d,.int 0 0,.int B.size 0,.int L 0] }) λb o e=>Ag _ e;refine⟨f.heap.objs.size,[f.heap.objs.size],_,_,_,rfl,S,z8e d _ F j B L C,⟨_,Aw _ rfl,rfl,rfl⟩,λb Z=>?_,q F⟩;have e:b=f.heap.objs.size:=by grind
 subst e;exact D.fpOk (Aj _) (by rw[q0g (Cp J)];exact D.hok.fresh (Aj _))
def ditT_k(K)(f:X.K=K)(hl:PE X l tl):PI X tg l (iDictT tl):=x4l hl
def x0l{g:TG}{tb:TS}{D:Ends}(j:Nat->St->Hp->Prop)(C:j 0 f H)(hl:∀i f H,j i f H->H d=some (.frz ob (.dT kvs)))(E:∀i k v b f H,kvs[i]?=some (k,v)->H b=some (.tup (k.map kV))->j i f H->g (.ref b) f H λo u=>tb { D with nx:=j (i+1),ct:=j (i+1),bk:=D.nx } o u)(hd:∀f H,j kvs.length f H->D.nx f H):
  ∃W:Nat->Nat->St->Hp->Prop,(∃m,W 0 m f H)/\∀i m f H,W i m f H ->
   ((Itk d ob kvs).stop i H/\D.nx f H)\/((Itk d ob kvs).go i H/\∃N,(∀s H',N s H'->∃B,B<m/\W (i+1) B s H')/\∀x H',(Itk d ob kvs).yld i H x H'->g x f H' λo u=>tb { D with nx:=N,ct:=N,bk:=D.nx } o u):=by
 refine z2j j C (λi f H h p=>⟨hl i f H p,h⟩) (λf H p=>⟨hl _ f H p,Aj _⟩) (λi x f H H' h p F=>?_) hd;obtain⟨rfl,k,v,b,hk,G,rfl⟩:=F;exact E i k v b f _ hk G p
end
end L2
namespace SB
open PySem PyProof.Rows
section
variable{prog:Aq}{w:World}{A:Around}{E:Value->Ah->Prop}{s:Ah}
noncomputable def Tells(prog:Aq)(w:World)(A:Around)(s:Ah)(kd:Na)(S:Value->Prop)(r:Value->Int):Prop :=
 ∀ E  (x y)  Q ,S x->S y->Q (decide (r x<r y)) s->wpAny (model prog w) A (keyLt' kd x y) Q E s
noncomputable def rk(r:Value->Int)(xs:Array Keyed)(i:Nat):Int:=((xs[i]?).map λp=>r p.1).getD 0
def x9d(h:xs[i]?=ys[j]?):rk r xs i=rk r ys j:=by unfold rk;rw[h]
def rk_if[Decidable c](h:xs[i]?=if c then ys[a]? else ys[b]?):rk r xs i=if c then rk r ys a else rk r ys b:=by
 by_cases f:c
 ·rw[if_pos f] at h ⊢;exact x9d h
 ·rw[if_neg f] at h ⊢;exact x9d h
def x0m(f:j<=xs.size)(k):rk r (Oc xs i j ((j-i) / 2)) k=if i<=k/\k<j then rk r xs (i+j-1-k) else rk r xs k:=rk_if (getElem?_mirror_all f k)
def x7a(hn:n<xs.size)(hd:d<=n)(k):rk r (bubble xs n d) k=if k=n-d then rk r xs n else if n-d<k/\k<=n then rk r xs (k-1) else rk r xs k:=by
 have e:=getElem?_bubble hn d hd k;by_cases h:k=n-d
 ·rw[if_pos h] at e ⊢;exact x9d e
 ·rw[if_neg h] at e ⊢;exact rk_if e
structure Mid (kd) (a₀) (st):Prop where
 pm:(arrOf st).Perm a₀
 kn:kindOf st=kd
 fl:Xc st=none
 pd:Sg st=#[]
variable{kd:Na}{S:Value->Prop}{r:Value->Int}{a₀:Array Keyed}
def Mid.sz{st}(h:Mid kd a₀ st):(arrOf st).size=a₀.size:=h.pm.size_eq
def Mid.put{st}(h:Mid kd a₀ st)(p:xs.Perm (arrOf st)):Mid kd a₀ (setArr st xs):=⟨p.trans h.pm,h.kn,h.fl,h.pd⟩
def x0n{st}(T:Tells prog w A s kd S r)(f:∀p∈a₀.toList,S p.1)(m:Mid kd a₀ st)(g:i<a₀.size)(o:j<a₀.size)(h:Q (some (decide (rk r (arrOf st) i<rk r (arrOf st) j))) st):wpS (model prog w) A E s (ltAt' i j) Q st:=by
 have get:∀{k:Nat},k<a₀.size->∃p,(arrOf st)[k]?=some p/\S p.1/\rk r (arrOf st) k=r p.1:=λ{k} hk=>by
  have hk':k<(arrOf st).size:=by rw[m.sz];exact hk
  have e:(arrOf st)[k]?=some (arrOf st)[k]:=getElem?_pos _ k hk';refine⟨_,e,f _ ((Qf.mp m.pm).mem_iff.mp (by simp)),?_⟩;unfold rk;rw[e];rfl
 obtain⟨p,u,v,B⟩:=get g;obtain⟨q,C,D,F⟩:=get o;rw[B,F] at h;refine Cy (Tj ?_);show wpS _ _ _ _ (elem' (arrOf st) i >>= λx=>elem' (arrOf st) j >>= λy=>lt' x y) Q st;rw[elem'_eq,elem'_eq,u,C];refine Cy (Ep (Cy (Ep ?_)));rw[lt'_eq];refine Cy (Tj ?_);rw[m.kn];exact Cy (wpS_lift (Fe (T _ p.1 q.1 _ v D ⟨rfl,Ep h⟩)))
noncomputable def Up(r:Value->Int)(xs:Array Keyed)(n:Nat):Prop:=∀i j,i<=j->j<n->rk r xs i<=rk r xs j
noncomputable def Down(r:Value->Int)(xs:Array Keyed)(n:Nat):Prop:=∀i j,i<=j->j<n->rk r xs j<=rk r xs i
def Up.one:Up r xs 1:=λi j f g=>by rw[show i=j by lia];exact Su _
def Up.more(h:Up r xs n)(g:1<=n)(e:rk r xs (n-1)<=rk r xs n):Up r xs (n+1):=λi j a b=>by
 by_cases z:j<n
 ·exact h i j a z
 ·have f:j=n:=by lia
  subst f;by_cases y:i=j
  ·grind
  ·have:=h i (j-1) (by lia) (by lia);lia
def Down.more(h:Down r xs n)(g:1<=n)(e:rk r xs n<=rk r xs (n-1)):Down r xs (n+1):=λi j a b=>by
 by_cases z:j<n
 ·exact h i j a z
 ·have f:j=n:=by lia
  subst f;by_cases y:i=j
  ·grind
  ·have:=h i (j-1) (by lia) (by lia);lia
def Down.mir(h:Down r xs n)(hn:n<=xs.size):Up r (Oc xs 0 n ((n-0) / 2)) n:=λi j a b=>by
 rw[x0m hn,x0m hn,if_pos (by lia),if_pos (by lia)];exact h _ _ (by lia) (by lia)
def q7p(f:j<=xs.size)(h:∀k,i<=k->k<j->rk r xs k=rk r xs (j-1))(k):rk r (Oc xs i j ((j-i) / 2)) k=rk r xs k:=by
 rw[x0m f];by_cases z:i<=k/\k<j
 ·grind
 ·rw[if_neg z]
def x7b{st}(T:Tells prog w A s kd S r)(o:∀p∈a₀.toList,S p.1)(m:Mid kd a₀ st)(hn:n<=a₀.size)(D:1<=a)(v:a<=n)(u:Up r (arrOf st) a)(h:∀k,a<=k->k<=n->Up r (arrOf st) k->(k=n\/rk r (arrOf st) k<rk r (arrOf st) (k-1))->Q (none,k) st):wpS (model prog w) A E s (ascLoop a n) Q st:=by
 refine Ln (λx c t=>t=st/\c=(none,x)/\Up r (arrOf st) x) (λx c t B C ⟨g,j,f⟩=>?_) (λc t ⟨g,j,f⟩=>?_) ⟨rfl,rfl,u⟩
 ·subst g j;refine Cy (x0n T o m (by lia) (by lia) ?_);by_cases z:rk r (arrOf t) x<rk r (arrOf t) (x-1)
  ·simp only[decide_eq_true z,if_true];exact Ep (h x B (by lia) f (.inr z))
  ·simp only[decide_eq_false z,Bq,if_false];exact Ep ⟨rfl,rfl,f.more (by lia) (by lia)⟩
 ·grind
def x0o{st}(T:Tells prog w A s kd S r)(o:∀p∈a₀.toList,S p.1)(m:Mid kd a₀ st)(hn:n<=a₀.size)(v:1<=k)(f:k<=n)(d:Down r (arrOf st) k)(h:∀j t,Mid kd a₀ t->1<=j->j<=n->Up r (arrOf t) j->Q (some j) t):wpS (model prog w) A E s (tail3 k n) Q st:=by
 have g:=m.put (Sv (arrOf st) 0 k ((k-0) / 2));refine Cy (Sw (Cy (x7b T o g hn v f (d.mir (by rw[m.sz];lia)) λj a b u _=>Ep (h j _ g (by lia) b u))))
def x9e{st}(T:Tells prog w A s kd S r)(v:∀p∈a₀.toList,S p.1)(m:Mid kd a₀ st)(hn:n<=a₀.size)(J:1<=k)(D:k<=n)(d:Down r (arrOf st) k)(h:∀j q t,Mid kd a₀ t->k<=j->j<=n->Down r (arrOf t) j->q+1<=j->(∀i,j-(q+1)<=i->i<j->rk r (arrOf t) i=rk r (arrOf t) (j-1))->Q (none,j,q) t):wpS (model prog w) A E s (descLoop k n) Q st:=by
 refine Ln (λx c t=>∃q,c=(none,x,q)/\Mid kd a₀ t/\Down r (arrOf t) x/\q+1<=x/\∀i,x-(q+1)<=i->i<x->rk r (arrOf t) i=rk r (arrOf t) (x-1))
  (λx c t F G ⟨q,B,f,g,C,u⟩=>?_) (λc t ⟨q,B,f,g,C,u⟩=>?_) ⟨0,rfl,m,d,by lia,λi a b=>by rw[show i=k-1 by lia]⟩
 ·subst B;have H:x<=(arrOf t).size:=by rw[f.sz];lia
  dsimp only;refine Cy (x0n T v f (by lia) (by lia) ?_);by_cases z:rk r (arrOf t) x<rk r (arrOf t) (x-1)
  ·simp only[decide_eq_true z,if_true];by_cases y:q>0
   ·rw[if_pos y];have o:=λk=>q7p H u k;have I:Down r (Oc (arrOf t) (x-(q+1)) x ((x-(x-(q+1))) / 2)) x:=λi j a b=>by rw[o,o];exact g i j a b
    exact Cy (Sw (Ep ⟨0,rfl,f.put (Sv _ _ _ _),I.more (by lia) (by rw[o,o];lia),by lia,λi a b=>by rw[show i=x+1-1 by lia]⟩))
   ·rw[if_neg y];exact Ep ⟨0,rfl,f,g.more (by lia) (by lia),by lia,λi a b=>by rw[show i=x+1-1 by lia]⟩
  ·simp only[decide_eq_false z,Bq,if_false];refine Cy (x0n T v f (by lia) (by lia) ?_);by_cases y:rk r (arrOf t) (x-1)<rk r (arrOf t) x
   ·simp only[decide_eq_true y,if_true];exact Ep (h x q t f F (by lia) g C u)
   ·simp only[decide_eq_false y,Bq,if_false];have ex:rk r (arrOf t) x=rk r (arrOf t) (x-1):=by lia
    refine Ep ⟨q+1,rfl,f,g.more (by lia) (by lia),by lia,λi a b=>?_⟩;rw[show x+1-1=x by lia,ex];by_cases c:i=x
    ·rw[c,ex]
    ·grind
 ·grind
def x0p{st}(T:Tells prog w A s kd S r)(f:∀p∈a₀.toList,S p.1)(m:Mid kd a₀ st)(hn:n<=a₀.size)(g:k+1<=n)(d:Down r (arrOf st) (k+1))(h:∀j t,Mid kd a₀ t->1<=j->j<=n->Up r (arrOf t) j->Q (some j) t):wpS (model prog w) A E s (descPart k n) Q st:=by
 refine Cy (wpS_lift (Ge ⟨rfl,Cy (x9e T f m hn (by lia) g d λj q t o a b dt F u=>?_)⟩));have v:j<=(arrOf t).size:=by rw[o.sz];lia
 dsimp only;by_cases y:q>0
 ·rw[if_pos y];exact Cy (Sw (x0o T f (o.put (Sv _ _ _ _)) hn (by lia) b (λi B C D=>by show rk r (Oc _ _ _ _) B<=rk r (Oc _ _ _ _) i;rw[q7p v u,q7p v u];exact dt i B C D) h))
 ·rw[if_neg y];exact x0o T f o hn (by lia) b dt h
def run_ok{st}(T:Tells prog w A s kd S r)(v:∀p∈a₀.toList,S p.1)(m:Mid kd a₀ st)(hn:n<=a₀.size)(C:1<=n)(h:∀j t,Mid kd a₀ t->1<=j->j<=n->Up r (arrOf t) j->Q (some j) t):wpS (model prog w) A E s (countRun' 0 n) Q st:=by
 rw[countRun0_eq];refine Cy (x7b T v m hn (Aj 1) C Up.one λk a b u o=>?_);have B:k<=(arrOf st).size:=by rw[m.sz];lia
 dsimp only;by_cases e:k=n
 ·rw[if_pos (by simpa using e)];exact Ep (h k st m a b u)
 rw[if_neg (by simpa using e)];by_cases g:k>1
 ·rw[if_pos g];refine Cy (x0n T v m (by lia) (by lia) ?_);by_cases z:rk r (arrOf st) 0<rk r (arrOf st) (k-1)
  ·simp only[decide_eq_true z,if_true];exact Ep (h k st m a b u)
  ·simp only[decide_eq_false z,Bq,if_false];have f:∀i,0<=i->i<k->rk r (arrOf st) i=rk r (arrOf st) (k-1):=λi _ D=>by
    have H:=u 0 i (by lia) D;have I:=u i (k-1) (by lia) (by lia);lia
   refine Cy (Sw (x0p T v (m.put (Sv _ _ _ _)) hn (by lia) (Down.more (λi j F G=>?_) (by lia) ?_) h))
   ·show rk r (Oc _ _ _ _) j<=rk r (Oc _ _ _ _) i;rw[q7p B f,q7p B f,f i (by lia) (by lia),f j (by lia) (by lia)];exact Su _
   ·show rk r (Oc _ _ _ _) k<=rk r (Oc _ _ _ _) (k-1);rw[q7p B f,q7p B f];lia
 ·rw[if_neg g];exact x0p T v m hn (by lia) (Down.more (λi j F G=>by rw[show i=j by lia];exact Su _) (by lia) (by lia)) h
def ins_ok{st}(T:Tells prog w A s kd S r)(J:∀p∈a₀.toList,S p.1)(m:Mid kd a₀ st)(hn:n<=a₀.size)(hk:k<=n)(u:Up r (arrOf st) k)(h:∀t,Mid kd a₀ t->Up r (arrOf t) n->Q true t):wpS (model prog w) A E s (binarySort' 0 n k) Q st:=by
 rw[binarySort'_eq];simp only[Nat.zero_add];refine Cy (Xd (Ln (λj c t=>c=(none,())/\Mid kd a₀ t/\Up r (arrOf t) (min j n)) (Q:=λc t=>c=(none,())/\Mid kd a₀ t/\Up r (arrOf t) n) ?step ?fin ⟨rfl,m,?init⟩) ?post)
 case step =>
  rintro j c t Y L ⟨rfl,v,g⟩;refine Cy (Xd (Ln (λx c o=>o=t/\∃lo f,c=(none,lo,f)/\lo<=f/\f<=j/\f-lo<=j-x/\(∀i,i<lo->rk r (arrOf t) i<=rk r (arrOf t) j)/\∀i,f<=i->i<j->rk r (arrOf t) j<rk r (arrOf t) i)
   (Q:=λc o=>o=t/\∃lo f,c=(none,lo,f)/\lo<=j/\(∀i,i<lo->rk r (arrOf t) i<=rk r (arrOf t) j)/\∀i,lo<=i->i<j->rk r (arrOf t) j<rk r (arrOf t) i)
   ?st2 ?fi2 ⟨rfl,0,j,rfl,by lia,by lia,by lia,λi z=>by lia,λi z y=>by lia⟩) ?po2)
  case st2 =>
   rintro x c o Z M ⟨rfl,lo,f,rfl,F,G,O,B,C⟩;dsimp only;by_cases z:lo>=f
   ·rw[if_pos z];exact Ep ⟨rfl,lo,f,rfl,by lia,B,λi b c=>C i (by lia) c⟩
   ·rw[if_neg z];refine Cy (x0n T J v (by lia) (by lia) ?_);by_cases y:rk r (arrOf o) j<rk r (arrOf o) ((lo+f) / 2)
    ·simp only[decide_eq_true y,if_true];refine Ep ⟨rfl,lo,(lo+f) / 2,rfl,by lia,by lia,by lia,B,λi b c=>?_⟩;have:=g ((lo+f) / 2) i b (by lia);lia
    ·simp only[decide_eq_false y,Bq,if_false];refine Ep ⟨rfl,(lo+f) / 2+1,f,rfl,by lia,G,by lia,λi b=>?_,C⟩;have:=g i ((lo+f) / 2) (by lia) (by lia);lia
  case fi2 =>
   rintro c o ⟨rfl,lo,f,rfl,F,G,O,B,C⟩;exact⟨rfl,lo,f,rfl,by lia,B,λi b c=>C i (by lia) c⟩
  case po2 =>
   rintro c o ⟨rfl,lo,f,rfl,F,B,C⟩;rw[moveDown'_eq];have H:j<(arrOf o).size:=by rw[v.sz];lia
   refine Cy (Xs (Ep ⟨rfl,v.put (bubble_perm _ _ _),λi D b c=>?_⟩));have P:j-(j-lo)=lo:=by lia
   rw[x7a H (by lia),x7a H (by lia),P];by_cases R:i=lo
   ·grind
   ·rw[if_neg R];by_cases U:D=lo
    ·grind
    ·rw[if_neg U];by_cases I:lo<i/\i<=j
     ·rw[if_pos I,if_pos (by lia)];exact g _ _ (by lia) (by lia)
     ·rw[if_neg I];by_cases W:lo<D/\D<=j
      ·grind
      ·rw[if_neg W];exact g _ _ b (by lia)
 case fin =>
  rintro c t ⟨X,v,g⟩;have e:min (max (max k 1) n) n=n:=by lia
  rw[e] at g;exact⟨X,v,g⟩
 case init =>
  intro i j a b;by_cases z:k=0
  ·grind
  ·exact u i j a (by lia)
 case post =>
  rintro c t ⟨rfl,v,g⟩;exact Ep (h t v g)
structure Fin' (a₀) (r) (st):Prop where
 pm:(arrOf st).Perm a₀
 fl:Xc st=none
 pd:Sg st=#[(0,a₀.size,0)]
 up:Up r (arrOf st) a₀.size
def x9f{st}(T:Tells prog w A s kd S r)(H:∀p∈a₀.toList,S p.1)(m:Mid kd a₀ st)(P:2<=a₀.size)(I:a₀.size<64)(h:∀t,(arrOf t).Perm a₀->Xc t=none->Up r (arrOf t) a₀.size->Q () t):wpS (model prog w) A E s sortRuns' Q st:=by
 rw[sortRuns'_eq];have J:minRun' a₀.size a₀.size 0=a₀.size:=by
  cases z:a₀.size with
  |zero=>rfl
  |succ f=>rw[minRun'_succ,if_pos (by lia)]
 have C:∀{t:Je},Mid kd a₀ t->Up r (arrOf t) a₀.size->Fin' a₀ r (setPending t ((Sg t).push (0,a₀.size,0))):=λ{t} u ut=>⟨u.pm,u.fl,by show(Sg t).push _=_;rw[u.pd];rfl,ut⟩
 have g:∀{t:Je},Mid kd a₀ t->(Sg t).back?=none:=λ{t} u=>by rw[u.pd];rfl
 refine Cy (Tj ?_);simp only[m.sz,J];refine Cy (Xd (Ln (λx c t=>(x=0/\c=(none,0)/\Mid kd a₀ t)\/(1<=x/\c=(none,a₀.size)/\Fin' a₀ r t)) (Q:=λc t=>c=(none,a₀.size)/\Fin' a₀ r t) ?st1 ?fi1 (.inl ⟨rfl,rfl,m⟩)) ?po1)
 case st1 =>
  intro x c t _ R o;rcases o with⟨rfl,rfl,u⟩|⟨U,rfl,f⟩
  ·dsimp only;rw[if_neg (by lia)];simp only[Lo,Vp,Nat.zero_add];refine Cy (run_ok T H u (Aj _) (by lia) λj B v W L D=>?_);dsimp only;by_cases z:j<a₀.size
   ·rw[if_pos z];refine Cy (wpS_lift (Ge ⟨rfl,Cy (ins_ok T H v (Aj _) L D λX F G=>?_)⟩));refine Cy (Tj ?_);rw[g F];exact Cy (Xs (Ep (.inr ⟨by lia,rfl,C F G⟩)))
   ·rw[if_neg z];have M:j=a₀.size:=by lia
    subst M;refine Cy (Tj ?_);rw[g v];exact Cy (Xs (Ep (.inr ⟨by lia,rfl,C v D⟩)))
  ·dsimp only;rw[if_pos (Aj _)];exact Ep ⟨rfl,f⟩
 case fi1 =>
  intro c t o;rcases o with⟨z,_⟩|⟨_,O,f⟩
  ·lia
  ·exact⟨O,f⟩
 case po1 =>
  rintro c t ⟨rfl,f⟩;refine Cy (Xd (Ln (λ_ c B=>B=t/\c=(none,())) (Q:=λc B=>B=t/\c=(none,())) ?st3 (λ_ _ z=>z) ⟨rfl,rfl⟩) ?po3)
  case st3 =>
   rintro x c B _ _ ⟨rfl,rfl⟩;refine Cy (Tj ?_);rw[if_pos (by rw[f.pd];exact Aj 1)];exact Ep ⟨rfl,rfl⟩
  case po3 =>
   rintro c B ⟨rfl,rfl⟩;exact Ep (h _ f.pm f.fl f.up)
end
end SB
namespace PySem.Rv
open Sem (wp)
noncomputable abbrev itemObj(d:Addr)(i n ep:Nat)(f0 f1 ok ov:Value):Obj:={ cls:=.type "dict_itemiterator",dict:=none,data:=.fields #[f0,f1,.ref d,.int i 0,.int n 0,.int ep 0,ok,ov],slots:=#[] }
noncomputable def ItemIt(h:Heap)(it d:Addr)(i n ep:Nat):Prop:=∃f0 f1 ok ov,h.get? it=some (itemObj d i n ep f0 f1 ok ov)/\(f0=.none\/∃a:Addr,f0=Es a)
def ItemIt.typeIs{s:Ah}(x:ItemIt s.heap it d i n ep):s.TypeIs (.ref it) "dict_itemiterator" := by
 obtain⟨f0,f,ok,g,e,_⟩:=x;exact⟨_,e,rfl⟩
def ItemIt.lt(x:ItemIt h it d i n ep):it<h.objs.size:=by
 obtain⟨f0,f,ok,g,e,_⟩:=x;exact As e
def ItemIt.keep(x:ItemIt h it d i n ep)(k:∀o,h.get? it=some o->h'.get? it=some o):ItemIt h' it d i n ep:=by
 obtain⟨f0,f,ok,g,e,z⟩:=x;exact⟨f0,f,ok,g,k _ e,z⟩
section
variable{prog:Aq}{w:World}{A:Around}{E:Value->Ah->Prop}{s:Ah}{it d v:Addr}{i ep:Nat}{dob:Obj}{ens:Array Lh}
def items_iter(h:s.heap.IsItemsView v d)(f:s.heap.get? d=some dob)(g:dob.data=.dict ens ep)(j:Q (.ref s.heap.objs.size) { s with heap:=s.heap.push (itemObj d 0 ens.size ep .none (.bool false) .none .none) }):wpAny (model prog w) A (Jm (.ref v)) Q E s:=by
 obtain⟨o,u,C,B⟩:=id h;refine Qn h.typeIs Sx (Cb Sx h.typeIs F.entry_dict_items_iter ?_ (F.args_dict_items_iter_1 _));unfold Ea.«dict_items.__iter__»;refine Ac (Ad (Ac ?_));unfold Ea.Dict_items.dictOf;refine Ac (Br u B rfl (Ad (Ac ?_)));unfold Ea.Dict_items.newIterator;refine Ac (Gy f g (Ac (Jd f g ?_)));simp only[show Jt "dict_itemiterator" = true from by decide,if_true];refine Cf (Ad ⟨_,rfl, "dict_itemiterator",_,⟨_,Aw _ rfl,rfl⟩,Fp.lookup,?_⟩) (by simp[sizeOk,Ma,Et]);simpa[Es,itemObj,Ma] using j
def q9d(e:s.heap.get? it=some (itemObj d i n ep f0 f1 ok ov))(hk:k<8)(f:∀h',h'.get? it=some { cls:=.type "dict_itemiterator",dict:=none,data:=.fields ((#[f0,f1,.ref d,.int i 0,.int n 0,.int ep 0,ok,ov]:Array Value).setIfInBounds k x),slots:=#[] }->Gd it s.heap h'->Q () { s with heap:=h' }):
  wpAny (model prog w) A (setField (.ref it) k x) Q E s:=Dv e (by simpa using hk) f
def owned(x:ItemIt s.heap it d i n ep)(f:∀b h',ItemIt h' it d i n ep->Gd it s.heap h'->Q b { s with heap:=h' }):
  wpAny (model prog w) A (Ea.Dict_items.ownedTupleIsFree (.ref it)) Q E s:=by
 obtain⟨f0,g,ok,v,e,z⟩:=id x;refine Ac (Br e rfl rfl ?_);rcases z with rfl|⟨a,rfl⟩
 ·exact Ad (f true s.heap x (Qo _ _))
 ·show wpAny _ _ (loadIfAlive (Int.toNat (a:Int)) >>= _) _ _ _;have j:∀{Q':Option Obj->Ah->Prop},Q' (s.heap.get? (Int.toNat (a:Int))) s->wpAny (model prog w) A (loadIfAlive (Int.toNat (a:Int))) Q' E s:=λh' _ _ _=>h';refine Ac (j ?_);by_cases hn:(s.heap.get? (Int.toNat (a:Int))).isNone=true
  ·rw[if_pos hn];exact Ad (f true s.heap x (Qo _ _))
  ·rw[if_neg hn];refine Ac (Br e rfl (x:=g) rfl ?_);by_cases h:(g != Value.bool true)=true
   ·rw[if_pos h];refine Ac (q9d e (by decide) λh' o u=>Ad (f false h' ⟨_,_,_,_,o,.inr ⟨a,rfl⟩⟩ u))
   ·rw[if_neg h];exact Ad (f false s.heap x (Qo _ _))
def items_item(x:ItemIt s.heap it d i ens.size ep)(R:s.heap.get? d=some dob)(S:dob.data=.dict ens ep)(a0)(hQ:∀h',ItemIt h' it d (i+1) ens.size ep->h'.get? s.heap.objs.size=some { cls:=.type "tuple",data:=.seq #[ens[i].key,ens[i].val] }->h'.objs.size=s.heap.objs.size+1 ->
   (∀b o,b≠it->s.heap.get? b=some o->h'.get? b=some o)->Q (some (.ref s.heap.objs.size)) { s with heap:=h' }):wpAny (model prog w) A (Hr (.ref it)) Q E s:=by
 obtain⟨f0,f1,ok,ov,e,z⟩:=id x;have P:=x.typeIs;refine Ac (Fe (Cj P Fp (Cb Fp P Od ?_ (Nn _))));refine Ac (Ad (Ac (Ac ?_)));first|refine Ac (Gv P (Ad ?_))|refine Ac (Ic P (Ad ?_))
 refine Ac (Oz e rfl ?_);simp only[show Jt "dict_itemiterator" = true from by decide,if_true];refine Ac (Ad (Ac (Gy R S ?_)));rw[if_neg (by simp)];refine Ac (Ad (Ac (Jd R S ?_)));rw[if_neg (by simp)];refine Ad ?_;simp only[show ¬((i:Int)<0) from by lia,if_false,Hz,Gp a0];refine Ac ?_;first|refine Ac (Gv P (Ad ?_))|refine Ac (Ic P (Ad ?_))
 refine Ac (Mt P ?_);show wpAny _ _ (setField (.ref it) 3 (Es ((i:Int)+1)) >>= _) _ _ s;refine Ac (q9d e (by decide) λh T j=>?_);have u:ItemIt h it d (i+1) ens.size ep:=⟨f0,f1,ok,ov,by rw[T];simp[itemObj,Es],z⟩
 refine Ac (Dh ?_);refine Ac (Mt u.typeIs (Ac (Mt u.typeIs ?_)));have v:=j.1;have U:=Bl x.lt;refine Ac (Oy ?_);refine Ac (owned (u.keep λo q=>Ag _ q) λb f I g=>?_);have J:f.get? s.heap.objs.size=some { cls:=.type "tuple",data:=.seq #[ens[i].key,ens[i].val] }:=by
  rw[g.2 _ (Cp U),<- v];exact Aw _ rfl
 have L:f.objs.size=s.heap.objs.size+1:=by rw[g.1];show(h.push _).objs.size=_;rw[Ft,v]
 have M:∀b o,b≠it->s.heap.get? b=some o->f.get? b=some o:=λb o H q=>by
  rw[g.2 b H];exact Ag _ ((j.2 b H).trans q)
 have ez:(Value.ref h.objs.size)=.ref s.heap.objs.size:=by rw[v]
 cases b with
 |false =>
  refine Ad (Ad ⟨_,rfl,Ad ?_⟩);rw[ez];exact hQ f I J L M
 |true =>
  obtain⟨g0,g1,a4,a5,B,_⟩:=I;refine Ac (Br B rfl rfl (Ac (Br B rfl rfl ?_)));refine Ac (q9d B (by decide) λa1 W C=>?_);refine Ac (q9d W (by decide) λa2 X D=>?_);refine Ac (q9d X (by decide) λa3 Y F=>?_);refine Ac (q9d Y (by decide) λO Z G=>?_);have kk:∀b o,b≠it->f.get? b=some o->O.get? b=some o:=λb o H q=>(G.2 b H).trans ((F.2 b H).trans ((D.2 b H).trans ((C.2 b H).trans q)))
  refine Ac (Mr (Ad (Ad ⟨_,rfl,Ad ?_⟩)));rw[ez];refine hQ O ⟨_,_,_,_,Z,.inr ⟨_,rfl⟩⟩ (kk _ _ (Cp U) J) ?_ λb o H q=>kk b o H (M b o H q);rw[G.1];rw[F.1];rw[D.1];rw[C.1];exact L
def items_end(o:A.handled=none)(x:ItemIt s.heap it d i ens.size ep)(g:s.heap.get? d=some dob)(h:dob.data=.dict ens ep)(j:ens.size<=i)(u:∀h',Sq it s.heap h'->Q none { s with heap:=h' }):wpAny (model prog w) A (Hr (.ref it)) Q E s:=by
 obtain⟨f0,v,ok,B,e,z⟩:=id x;have f:=x.typeIs;refine Ac (Fe (Cj f Fp (Cb Fp f Od ?_ (Nn _))));refine Ac (Ad (Ac (Ac ?_)));first|refine Ac (Gv f (Ad ?_))|refine Ac (Ic f (Ad ?_))
 refine Ac (Oz e rfl ?_);simp only[show Jt "dict_itemiterator" = true from by decide,if_true];refine Ac (Ad (Ac (Gy g h ?_)));rw[if_neg (by simp)];refine Ac (Ad (Ac (Jd g h ?_)));rw[if_neg (by simp)];refine Ad ?_;simp only[show ¬((i:Int)<0) from by lia,if_false,Hz,Ss j];refine Ac ?_;first|refine Ac (Gv f (Ad ?_))|refine Ac (Ic f (Ad ?_))
 show wpAny _ _ (setField (.ref it) 2 .none >>= _) _ _ s;refine Ac (Hf e rfl (by simp) ?_);show wpAny _ _ (newExc (.type "StopIteration") [] >>= _) _ _ _;refine Ac ?_;refine Ac (Cf (Ac (Jf (by first|rfl|(simp only[Te];rfl)) ?_)) (by size_fits));refine Cf ?_ (by size_fits);refine Ac (Uq ?_);rw[show A.in1.handled=none from o];refine Ac (Ad (Ws ?_));refine Ac (Gi ⟨_,Aw _ rfl,rfl⟩ Ly ?_);exact Ad (u _ (((Ku ..).extBut.push _).push _))
end
end PySem.Rv
namespace SB
open PySem PyProof.Rows TX
noncomputable abbrev Pth:=List (List Nat)
noncomputable def pLt:Pth->Pth->Bool
 |[],[]=>false
 |[],_::_=>true
 |_::_,[]=>false
 |a::r,b::t=>if a=b then pLt r t else decide (a<b)
def q6o(a b)(r t:Pth):pLt (a::r) (b::t)=if a=b then pLt r t else decide (a<b):=rfl
theorem q5p:∀p,pLt p p=false
 |[]=>rfl
 |a::r=>by rw[q6o,if_pos rfl];exact q5p r
def z2s{c:List Nat}(h:a<b)(h':b<c):a<c:=List.lt_trans h h'
def x9g{b:List Nat}(h:¬a<b)(h':¬b<a):a=b:=List.le_antisymm (List.not_lt.mp h') (List.not_lt.mp h)
theorem z2t:∀{p q t},pLt p q=true->pLt q t=true->pLt p t=true
 |[],[],_,h,_=>by cases h
 |_::_,[],_,h,_=>by cases h
 |_,_::_,[],_,h=>by cases h
 |[],_::_,_::_,_,_=>rfl
 |a::p,b::q,c::t,h,h'=>by
  rw[q6o] at h h' ⊢;by_cases g:a=b
  ·subst g;rw[if_pos rfl] at h;by_cases f:a=c
   ·rw[if_pos f] at h' ⊢;exact z2t h h'
   ·rw[if_neg f] at h' ⊢;exact h'
  ·rw[if_neg g] at h;by_cases f:b=c
   ·subst f;rw[if_neg g];exact h
   ·rw[if_neg f] at h';have j:=of_decide_eq_true h;have o:=of_decide_eq_true h';have s:=z2s j o;rw[if_neg (λe=>by subst e;exact absurd (z2s j o) (List.lt_irrefl _))];exact decide_eq_true s
theorem z4t:∀{p q},pLt p q=false->pLt q p=false->p=q
 |[],[],_,_=>rfl
 |[],_::_,h,_=>by cases h
 |_::_,[],_,h=>by cases h
 |a::p,b::q,h,h'=>by
  rw[q6o] at h h';by_cases e:a=b
  ·subst e;rw[if_pos rfl] at h h';rw[z4t h h']
  ·rw[if_neg e] at h;rw[if_neg (Cp e)] at h';exact absurd (x9g (of_decide_eq_false h) (of_decide_eq_false h')) e
noncomputable def pRank(ps:List Pth)(p:Pth):Nat:=(ps.filter λq=>pLt q p).length
theorem z2u{j:Type}{f g}:∀(l:List j),(∀x∈l,f x=true->g x=true)->(l.filter f).length<=(l.filter g).length
 |[],_=>Aj _
 |x::r,h=>by
  have o:=z2u r λy s=>h y (Ak _ s);by_cases u:f x=true
  ·simp_all
  ·rw[Iu u];by_cases v:g x=true
   ·rw[Iv v];exact Dy o
   ·simp_all
theorem z2v{o:Type}{f g}{y}:∀(l:List o),(∀x∈l,f x=true->g x=true)->y∈l->f y=false->g y=true->(l.filter f).length<(l.filter g).length
 |[],_,j,_,_=>by cases j
 |x::r,h,j,h1,h2=>by
  rcases Av.mp j with e|j
  ·subst e;rw[Iu (by rw[h1];decide),Iv h2];exact Nat.lt_succ_of_le (z2u r λz s=>h z (Ak _ s))
  ·have u:=z2v r (λz s=>h z (Ak _ s)) j h1 h2;by_cases v:f x=true
   ·simp_all
   ·rw[Iu v];by_cases B:g x=true
    ·rw[Iv B];exact Mi u
    ·simp_all
def q9e(f:p∈ps)(h:pLt p q=true):pRank ps p<pRank ps q :=
 z2v ps (λx _ g=>z2t g h) f (q5p p) h
def x0q(f:p∈ps)(g:q∈ps):pLt p q=decide ((pRank ps p:Int)<(pRank ps q)):=by
 cases h:pLt p q with
 |true=>have:=q9e f h;exact(decide_eq_true (by lia)).symm
 |false =>
  cases h':pLt q p with
  |true=>have:=q9e g h';exact(decide_eq_false (by lia)).symm
  |false=>rw[z4t h h'];exact(decide_eq_false (by lia)).symm
noncomputable def PathAt(h:Heap)(v:Value)(p:Pth):Prop:=∃a its,v=.ref a/\IsTup h a its/\Kt its.toList (p.map mk)
def mk_inj(h:mk a=mk b):a=b:=by have:=congrArg tl h;rwa [q0x,q0x] at this
theorem q7q:∀{vs} {ss ts},Kt vs ss->Kt vs ts->ss=ts
 |_,_,_,.nil,.nil=>rfl
 |_,_,_,.cons y t h,.cons _ _ h'=>by rw[q7q h h']
theorem q9f:∀{p q:Pth},p.map mk=q.map mk->p=q
 |[],[],_=>rfl
 |[],_::_,h=>by simp at h
 |_::_,[],h=>by simp at h
 |a::p,b::q,h=>by
  rw[Am,Am] at h;injection h with h1 h2;rw[mk_inj h1,q9f h2]
theorem q4y:∀{vs} {p:Pth},Kt vs (p.map mk)->vs.length=p.length
 |_,[],.nil=>rfl
 |vs,n::p,h=>by
  rw[Am] at h;cases h with
  |cons _ _ h'=>rw[Bc,Bc,q4y h']
def IsTup.inj(j:IsTup h a x)(s:IsTup h a y):x=y:=by
 obtain⟨o,e,_,n,d⟩:=j;obtain⟨u,f,_,v,g⟩:=s;rw[e] at f;cases f;rw[d] at g;cases g;rfl
def PathAt.inj(g:PathAt h v p)(j:PathAt h v q):p=q:=by
 obtain⟨a,o,rfl,t,s⟩:=g;obtain⟨C,f,e,u,B⟩:=j;cases e;rw[IsTup.inj t u] at s;exact q9f (q7q s B)
def IsTup.keep(t:IsTup h a x)(k:∀o,h.get? a=some o->h'.get? a=some o):IsTup h' a x:=by obtain⟨o,e,r⟩:=t;exact⟨o,k o e,r⟩
def PathAt.keep(x:PathAt h v p)(k:∀b o,h.get? b=some o->h'.get? b=some o):PathAt h' v p:=by obtain⟨a,f,e,t,s⟩:=x;exact⟨a,f,e,IsTup.keep t λo=>k a o,s⟩
noncomputable def dP(p:Pth):List Ce:=p.map λn=>Ce.str (mk n)
noncomputable def Low(p:Pth):Prop:=∀n∈p,∀c∈n,c<128
theorem q9g:∀{p} {vs},Kt vs (p.map mk)->∃f,ReadsAll h vs (dP p) f
 |[],_,.nil=>⟨_,.nil⟩
 |n::p,vs,x=>by
  rw[Am] at x;cases x with
  |cons y t s =>
   obtain⟨f,g⟩:=q9g s;exact⟨_,.cons (.str _ t) g⟩
def PathAt.reads(x:PathAt h v p):∃f,Reads h v (.tuple (dP p)) f:=by
 obtain⟨a,g,rfl,⟨o,e,c,n,d⟩,s⟩:=x;obtain⟨f,r⟩:=q9g s;exact⟨_,.tuple e c d r⟩
def x0r(h:∀c∈l,c<128):Dz (mk l)=true:=by
 unfold Dz;simp only[mk,List.all_toArray,Ik];intro c f;have:=h c f;simp;lia
theorem q6c:∀{p},Low p->Bx (dP p)=true
 |[],_=>rfl
 |n::r,h=>by
  have f:=x0r (h n Al);have g:=q6c λx j=>h x (Ak _ j);show Bx (Ce.str (mk n)::dP r)=true;simp only[Bx,Dm,f,g,Ek]
theorem q3f:∀p,Gn (dP p)<=1
 |[]=>by simp[dP,Gn]
 |n::r=>by
  have f:=q3f r;show Gn (Ce.str (mk n)::dP r)<=1;simp only[Gn,Pr];lia
theorem q7r:∀p q,Eg (dP p) (dP q)=decide (p=q)
 |[],[]=>rfl
 |[],_::_=>rfl
 |_::_,[]=>rfl
 |a::p,b::q=>by
  show Eg (Ce.str (mk a)::dP p) (Ce.str (mk b)::dP q)=_;have e:Eg (Ce.str (mk a)::dP p) (Ce.str (mk b)::dP q)=(Dg (Ce.str (mk a)) (Ce.str (mk b))&&Eg (dP p) (dP q)):=by simp only[Eg]
  have f:Dg (Ce.str (mk a)) (Ce.str (mk b))=(mk a==mk b):=by simp only[Dg]
  rw[e,f,q7r p q];by_cases h:a=b
  ·subst h;simp
  ·grind
section
variable{prog:Aq}{w:World}{A:Around}{E:Value->Ah->Prop}{s:Ah}{x y:Value}{p q:Pth}
def x4m(f:PathAt s.heap x p)(g:PathAt s.heap y q)(j:Low p)(o:Low q)(C:A.units+2<cLine):Fm A s x y (decide (p=q)):=by
 obtain⟨u,v⟩:=f.reads;obtain⟨bs,B⟩:=g.reads;have h:=SeqAt.eqAt_reads (.tuple (dP p)) (.tuple (dP q)) A s x y u bs v B (by simp only[Dm,q6c j]) (by simp only[Dm,q6c o]) (by
  have D:(Ce.tuple (dP p)).depth=Gn (dP p)+1:=by simp only[Pr]
  have:=q3f p;lia)
 have e:Dg (.tuple (dP p)) (.tuple (dP q))=decide (p=q):=by simp only[Dg,q7r]
 rwa [e] at h
def z2w(l b)(j f)(n U)(W L)(X M)(p q)(S:Kt j.toList (p.map mk))(T:Kt f.toList (q.map mk)):
  Meets (Ea.«tuple.__lt__» ⟨[.ref l,.ref b],[]⟩)
   (λ_ R s=>s.heap.get? l=some { cls:=.type "tuple",dict:=W,data:=.seq j n,slots:=X }/\s.heap.get? b=some { cls:=.type "tuple",dict:=L,data:=.seq f U,slots:=M } /\
    R (.ok (.ret (.bool (pLt p q)))) s) :=
 .of_wp λprog w A R s h=>by
  obtain⟨I,g,d,tk,os⟩:=s;obtain⟨hl,Y,h⟩:=h;have f2:=AutoSeq1.sub_tuple_tuple;have z1:j.size=p.length:=by have:=q4y S;simpa using this
  have z2:f.size=q.length:=by have:=q4y T;simpa using this
  wp_walk using Oe hl,Oe Y,Kh _ (λrest c O=>c.1=none/\O=⟨I,g,d,tk,os⟩/\∃(vs J:List Value) (D C:Pth),rest=vs.zip J /\
   Kt vs (D.map mk)/\Kt J (C.map mk)/\D.length+f.size=C.length+j.size/\R (.ok (.ret (.bool (pLt D C)))) ⟨I,g,d,tk,os⟩) _
  case turn =>
   rintro⟨y,x⟩ rest c O ⟨H,rfl,vs,J,D,C,F,v,B,o,G⟩;cases D with
   |nil=>cases v;rw[List.zip_nil_left] at F;cases F
   |cons m D =>
    cases C with
    |nil=>cases B;rw[List.zip_nil_right] at F;cases F
    |cons m' C =>
     rw[Am] at v B;cases v with
     |cons _ t hvi' =>
      cases B with
      |cons _ u hwi' =>
       rw[Vq] at F;injection F with hyx hrest;injection hyx with hy hx;subst hy hx;rw[q6o] at G;simp only[Bc] at o;refine Ac (Vn (mk m) t (mk m') u (A:=A.in1) (s:=⟨I,g,d,tk,os⟩) prog w _ _ ?_);by_cases e:m=m'
       ·subst e;rw[if_pos rfl] at G;rw[beq_self_eq_true]
        wp_walk
        exact⟨rfl,rfl,_,_,_,_,hrest,hvi',hwi',by lia,G⟩
       ·rw[if_neg e] at G;have Z:(mk m==mk m')=false:=beq_eq_false_iff_ne.mpr λz=>e (mk_inj z);rw[Z];have P:∀(E:Value->Ah->Prop) (Q:Value->Ah->Prop),Q (.bool (decide (m<m'))) ⟨I,g,d,tk,os⟩->wpAny (model prog w) A.in1 (richCompare .Lt (.str (mk m) t) (.str (mk m') u)) Q E ⟨I,g,d,tk,os⟩:=λE Q hq =>
         (PyProof.Rows.lt_str (by
          have e3:(mk m).cps.toList=m:=q0x m;have e4:(mk m').cps.toList=m':=q0x m';rw[e3,e4];exact hq):wpAny (model prog w) A.in1 (Cz .Lt (.str (mk m) t) (.str (mk m') u)) Q E ⟨I,g,d,tk,os⟩)
        wp_walk using P
        exact⟨_,rfl,by simpa using G⟩
  case fin =>
   rintro⟨b1,b2⟩ O ⟨H,rfl,vs,J,D,C,F,v,B,o,G⟩;simp only at H;subst H;have hv:pLt D C=decide (j.size<f.size):=by
    cases D with
    |nil =>
     cases C with
     |nil=>exact(decide_eq_false (by simp only[Hu] at o;lia)).symm
     |cons m' C=>exact(decide_eq_true (by simp only[Hu,Bc] at o;lia)).symm
    |cons m D =>
     cases C with
     |nil=>exact(decide_eq_false (by simp only[Hu,Bc] at o;lia)).symm
     |cons m' C =>
      rw[Am] at v B;cases v with
      |cons _ t _=>cases B with|cons _ u _=>rw[Vq] at F;cases F
   rw[hv] at G
   wp_walk
   exact⟨_,rfl,by simpa[Ea.Tuple.tupleCompareSizes] using G⟩
  case h =>
   exact⟨rfl,rfl,j.toList,f.toList,p,q,rfl,S,T,by lia,h⟩
def x4n(J:PathAt s.heap x p)(L:PathAt s.heap y q)(M:A.units<cLine)(h:Q (.bool (pLt p q)) s):wpAny (model prog w) A (Cz .Lt x y) Q E s:=by
 obtain⟨l,g,rfl,hl,O⟩:=J;obtain⟨b,f,rfl,P,R⟩:=L;obtain⟨⟨cls,S,D,T⟩,G,H,n,hd⟩:=id hl;obtain⟨⟨I,v,B,C⟩,j,o,U,u⟩:=id P;simp only at H hd o u;subst H hd o u;exact richCompare_meets_room (op:=.Lt) ⟨_,G,rfl⟩ ⟨_,j,rfl⟩ PySem.F.slot_tuple_lt PySem.F.entry_tuple_lt (PySem.F.args_tuple_lt_2 _ _) (z2w l b g f n U S v T C p q O R)
  ⟨G,j,show Value.bool (pLt p q)≠Value.notImplemented/\Q (.bool (pLt p q)) s from⟨(λx=>nomatch x),h⟩⟩ M
def x4o(f:PathAt s.heap x p)(g:PathAt s.heap y q)(j:A.units<cLine)(h:Q (pLt p q) s):wpAny (model prog w) A (oneLt' false x y) Q E s:=by
 rw[oneLt'_eq];simp only[Bq,if_false];exact Ac (x4n f g j (Fw h):wpAny (model prog w) A (Cz .Lt x y) _ E s)
noncomputable def PairAt(h:Heap)(v:Value)(p:Pth)(m:Value):Prop:=∃a k,v=.ref a/\IsTup h a #[k,m]/\PathAt h k p
def PairAt.keep(x:PairAt h v p m)(k:∀b o,h.get? b=some o->h'.get? b=some o):PairAt h' v p m:=by obtain⟨a,z,e,t,s⟩:=x;exact⟨a,z,e,IsTup.keep t λo=>k a o,s.keep k⟩
def x0s(D:PairAt s.heap x p m)(F:PairAt s.heap y q j)(u:p=q->x=y)(G:Low p)(H:Low q)(I:A.units+2<cLine)(h:Q (pLt p q) s):wpAny (model prog w) A (keyLt' (tuples' false) x y) Q E s:=by
 obtain⟨l,k,rfl,hl,hk⟩:=D;obtain⟨J,C,rfl,f,g⟩:=F;obtain⟨o,L,S,n,hd⟩:=id hl;obtain⟨T,v,M,U,B⟩:=id f;refine Ac (m:=Mu (.ref l)) (Ri L hd (Ac (m:=Mu (.ref J)) (Ri v B ?_)));show wpAny (model prog w) A (forIn [((k,C),0),((m,j),1)] ((none,()):Option Bool×Unit) _ >>= _) Q E s;rw[Nv];refine Ac (Ac (Ac (x4m hk g G H I prog w _ _ ?_)));by_cases e:p=q
 ·have O:=u e;cases O;have P:=IsTup.inj hl f;have R:k=C/\m=j:=by
   have:=congrArg Array.toList P;simpa using this
  obtain⟨rfl,rfl⟩:=R;subst e;rw[decide_eq_true rfl];simp only[Gg,Bq,if_false];refine Ad ?_;dsimp only;rw[Nv];refine Ac (Ac (Xm m (A:=A) (s:=s) prog w _ _ ?_));simp only[Gg,Bq,if_false];refine Ad ?_;dsimp only;rw[List.forIn_nil];refine Ad (Ad ?_);rw[q5p] at h;simpa using h
 ·rw[decide_eq_false e];simp only[Tn,if_true,Ow];refine Ac (x4o hk g (by lia) (Ad ?_));exact Ad (Ad h)
theorem z4u{o j:Type}{f:o->Sem j}{g}:∀(l:List o) {Q},(∀a∈l,∀ Q' ,Q' (g a) s->wpAny (model prog w) A (f a) Q' E s)->Q (l.map g) s->wpAny (model prog w) A (l.mapM f) Q E s
 |[],Q,_,h=>by rw[List.mapM_nil];exact Ad h
 |a::l,Q,hf,h=>by
  rw[List.mapM_cons];refine Ac (hf a Al _ (Ac (z4u l (λb u=>hf b (Ak _ u)) (Ad h))))
def x4p(t:IsTup s.heap a f)(h:Q f[0]? s):wpAny (model prog w) A (firstOfTuple' (.ref a)) Q E s:=by
 obtain⟨o,g,j,n,hd⟩:=t;refine Ac (m:=typeOf (.ref a)) (Jn (T := "tuple") ⟨o,g,j⟩ ?_);have e:(Value.type "tuple" != Value.type "tuple")=false:=by decide
 rw[e];simp only[Bq,if_false];exact Ac (m:=Mu (.ref a)) (Ri g hd (Ad h))
def x9h{fs:Value->Value}(o:vs≠[])(C:∀v∈vs,∃a f,v=.ref a/\IsTup s.heap a f/\f[0]?=some (fs v))(D:∀v∈vs,s.TypeIs (fs v) T)(h:Q (tuples' (Value.type T != Value.type "tuple")) s):wpAny (model prog w) A (keyKind' vs.toArray) Q E s:=by
 rw[keyKind'_eq,Wh];refine Ac (Ac (z4u (g:=λv=>some (fs v)) vs (λv u F B=>?_) (Ad ?_)))
 ·obtain⟨a,f,rfl,t,e⟩:=C v u;exact x4p t (by rw[e];exact B)
 ·have j:((vs.map λv=>some (fs v)).toArray.all λx=>x.isSome)=true:=by simp
  rw[if_pos (by simpa using j)];refine Ac (Ge ?_);rw[oneTypeOnly'_eq];have e:Array.filterMap id (vs.map λv=>some (fs v)).toArray=(vs.map fs).toArray:=by
   simp[Vl]
  rw[e,Wh];refine Ac (Ac (Ac (z4u (g:=λ_=>Value.type T) (vs.map fs) (λx G F B=>?_) (Ad ?_))))
  ·obtain⟨v,u,rfl⟩:=Az.mp G;exact Jn (D v u) B
  ·cases vs with
   |nil=>exact absurd rfl o
   |cons v vs =>
    have H:(((v::vs).map fs).map λ_=>Value.type T).toArray[0]?=some (Value.type T):=by simp
    have I:((((v::vs).map fs).map λ_=>Value.type T).toArray.all λx=>x==Value.type T)=true:=by simp
    rw[H];dsimp only;rw[I];simp only[if_true];exact Ad (Ad (by simpa using h))
end
section
variable{prog:Aq}{w:World}{A:Around}{E:Value->Ah->Prop}{s:Ah}{kd:Na}{S:Value->Prop}{r:Value->Int}{vs:List Value}
noncomputable def KeptBut(a:Addr)(h h':Heap):Prop:=∀b o,b≠a->h.get? b=some o->h'.get? b=some o
structure Sorted (r:Value->Int) (vs) (out:Array Value):Prop where
 perm:out.toList.Perm vs
 rise:out.toList.Pairwise λx y=>r x<=r y
def x4q{xs:Array Keyed}(g:xs.Perm (pairsOf vs)):(∀p∈xs.toList,p.1=p.2)/\(xs.map (·.2)).toList.Perm vs:=by
 have hl:xs.toList.Perm (vs.zip vs):=by rw[<- pairsOf_toList];exact Qf.mp g
 refine⟨λp f=>(mem_zip_self (hl.mem_iff.mp f)).1,?_⟩;rw[Rj];have:=hl.map (·.2)
 rwa [List.map_snd_zip (Aj _)] at this
def z2x{st}(g:(arrOf st).Perm (pairsOf vs))(u:Up r (arrOf st) (pairsOf vs).size):Sorted r vs ((arrOf st).map (·.2)):=by
 obtain⟨h,o⟩:=x4q g;refine⟨o,?_⟩;rw[List.pairwise_iff_getElem];intro i j s v f;have hi':i<(arrOf st).size:=by simp_all
 have hj':j<(arrOf st).size:=by simp_all
 have e:=u i j (Jk f) (by rw[<- g.size_eq];exact hj');have k:∀{n:Nat} (hn:n<(arrOf st).size),rk r (arrOf st) n=r (arrOf st)[n].2:=λ{n} hn=>by
  unfold rk;rw[getElem?_pos (arrOf st) n hn];show r (arrOf st)[n].1=_;rw[h (arrOf st)[n] (by simp)]
 rw[k hi',k hj'] at e;simpa using e
def x0t(B:s.heap.get? a=some (Of "list" vs.toArray n))(I:vs.length<64)(J:∀v∈vs,S v)(hk:2<=vs.length->∀s'  E   Q ,KeptBut a s.heap s'.heap->Q kd s'->wpAny (model prog w) A (keyKind' vs.toArray) Q E s')(T:∀s',KeptBut a s.heap s'.heap->Tells prog w A s' kd S r)(h:∀out,Sorted r vs out->P (.done (.ret .none)) { s with heap:=sortedHeap s.heap a vs out }):
  wpAny (model prog w) A (Ea.«list.sort» ⟨[.ref a],[]⟩) P E s:=by
 have L:=pairsOf_size vs;have M:vs.length<=sizeLine:=by rw[Et];lia
 rw[list_sort_plain];refine Ac (Ri B rfl (Ac (Ur B rfl ?_)));have D:=get?_update_seq B (λ_=>#[]);refine Ac (Wt D rfl (Ac (Oy (Ac (wpAny_newList (Dh ?_))))));generalize C:(((s.heap.update a (Hm λ_=>#[])).push (Of "tuple" vs.toArray 0)).push (Of "list" #[] 0))=g;have F:KeptBut a s.heap g:=λb o O e=>by
  rw[<- C];exact Ag _ (Ag _ ((Cm _ _ (Cp O)).trans e))
 have f:=Ag (Of "list" #[] 0) (Ag (Of "tuple" vs.toArray 0) D);rw[C] at f;have u:∀out,Sorted r vs out->P (.done (.ret .none)) { s with heap:=g.update a (Hm λ_=>out) }:=λout R=>by
  have:=h out R;unfold sortedHeap at this
  rwa [C] at this
 by_cases G:vs.length<2
 ·have h2':vs.toArray.size<2:=by simpa using G
  simp only[if_pos h2'];refine Ac (Ad ?_);refine Ac (Ad (Ac (Wt f rfl (Ac (Ur f rfl ?_ (hsz2:=by show((pairsOf vs).map _).size<=_;rw[Array.size_map];lia))))));simp only[bne_self_eq_false,Bq,if_false];exact Ad (u _ (z2x (Xu _) λi j Y Z=>by rw[show i=j by lia];exact Su _))
 ·have h2':¬vs.toArray.size<2:=by simpa using G
  simp only[if_neg h2'];refine Ac (hk (by lia) _ _ _ F ?_);refine Ac (Bs (x9f (a₀:=pairsOf vs) (Q:=λ_ t=>(arrOf t).Perm (pairsOf vs)/\Xc t=none/\Up r (arrOf t) (pairsOf vs).size) (T _ F) (λp H=>J _ ?_)
   ⟨Xu _,rfl,rfl,rfl⟩ (by lia) (by lia) λt U W X=>⟨U,W,X⟩) ?_ λ_ _ e=>e)
  ·rw[pairsOf_toList] at H;exact(mem_zip_self H).2
  ·rintro⟨⟨⟩,t⟩ s' ⟨rfl,pm,fl,up⟩;refine Ac (Wt f rfl (Ac (Ur f rfl ?_ (hsz2:=by show((arrOf t).map _).size<=_;rw[Array.size_map,pm.size_eq];lia))));rw[fl];simp only[bne_self_eq_false,Bq,if_false];exact Ad (u _ (z2x pm up))
end
section
variable{prog:Aq}{w:World}{A:Around}{E:Value->Ah->Prop}{s:Ah}
structure Ready (prog) (w) (A:Around) (vs:List Value) (h:Heap) (kd) (S:Value->Prop) (r):Prop where
 few:vs.length<64
 all:∀v∈vs,S v
 kind:2<=vs.length->∀A' s'  E   Q ,A'.units<=A.units+9->(∀b o,h.get? b=some o->s'.heap.get? b=some o)->Q kd s'->wpAny (model prog w) A' (keyKind' vs.toArray) Q E s'
 tells:∀A' s',A'.units<=A.units+9->(∀b o,h.get? b=some o->s'.heap.get? b=some o)->Tells prog w A' s' kd S r
theorem sorted_ok
  (B:∀{Q'},(∀vs h tk kd S r,Ready prog w A vs h kd S r ->
    (∀h' out,Sorted r vs out->(∀b o,h.get? b=some o->h'.get? b=some o)->(∃e,h'.get? h.objs.size=some (Of "list" out e))->Q (.ref h.objs.size) { s with heap:=h',toks:=tk })->Q' vs { s with heap:=h,toks:=tk }) ->
   wpAny (model prog w) A.in1 (collect x) Q' E s):wpAny (model prog w) A (call (.builtin "sorted") [x]) Q E s:=by
 refine Calls.call_function_entry kind_sorted plain_sorted entry_sorted (args_sorted1 _) ?_;refine Ac (Ad (Ac (B λvs h tk kd S r rd C=>?_)));have D:vs.length<=sizeLine:=by have:=rd.few;rw[Et];lia
 refine Ac (wpAny_newList ?_);have j:(h.push (Of "list" vs.toArray 0)).get? h.objs.size=some (Of "list" vs.toArray 0):=Aw _ rfl;have v:∀{g:Heap},KeptBut h.objs.size (h.push (Of "list" vs.toArray 0)) g->∀b o,h.get? b=some o->g.get? b=some o:=λf b o e=>f b o (Bl (As e)) (Ag _ e);refine Ac (Dh (Cb slot_list_sort ⟨_,j,rfl⟩ entry_list_sort (x0t j rd.few rd.all (λF u E Q f q=>rd.kind F _ u E Q (by show A.units+1+1<=_;lia) (v f) q) (λu f=>rd.tells _ u (by show A.units+1+1<=_;lia) (v f)) λout G=>⟨_,rfl,?_⟩) (args_list_sort _)));refine Ad ⟨_,rfl,C _ out G (λb o e=>?_) (sortedHeap_at j)⟩;have:=sortedHeap_old (vs:=vs) (out:=out) (h:=h.push (Of "list" vs.toArray 0)) (Bl (As e)) (by rw[size_push'];exact Mi (As e));rw[this];exact Ag _ e
def perm_map_inv {α β : Type} {g : α → β} : ∀ {l m}, l.Perm m → ∀ {zs}, m = zs.map g → ∃ zs' : List α, zs'.Perm zs ∧ l = zs'.map g := by
  intro l m h;induction h with
  | nil => simp_all
  | cons x h ih => intro zs e; cases zs with
    | nil => cases e
    | cons z zs =>
      injection e with e1 e2;obtain ⟨zs', h1, h2⟩ := ih e2;exact ⟨z :: zs', h1.cons z, by rw [Am, ← h2, e1]⟩
  | swap x y l => intro zs e; cases zs with
    | nil => cases e
    | cons z zs => cases zs with
      | nil => cases e
      | cons z2 zs =>
        injection e with e1 e2;injection e2 with e2 e3;exact ⟨z2 :: z :: zs, List.Perm.swap _ _ _, by rw [Am, Am, ← e1, ← e2, ← e3]⟩
  | trans h1 h2 ih1 ih2 => intro zs e
                           obtain ⟨zs', p1, e1⟩ := ih2 e;obtain ⟨zs2, p2, e2⟩ := ih1 e1;exact ⟨zs2, p2.trans p1, e2⟩
open Classical in
noncomputable def keyBy (K:Value->Pth->Prop) (v:Value):Pth:=if h:∃p,K v p then choose h else[]
def q6p{K}(g:∀v p q,K v p->K v q->p=q)(h:K v p):keyBy K v=p:=by
 unfold keyBy;have f:∃p,K v p:=⟨p,h⟩
 rw[dif_pos f];exact g v _ _ (Classical.choose_spec f) h
theorem rise_paths{K}(o:∀v p q,K v p->K v q->p=q){s:Type}{g}{f}:∀{zs:List s},(∀z∈zs,K (g z) (f z)/\f z∈ps)->(zs.map g).Pairwise (λx y=>(pRank ps (keyBy K x):Int)<=(pRank ps (keyBy K y):Int))->(zs.map f).Pairwise λa b=>pLt b a=false
 |[],_,_=>.nil
 |z::zs,hz,h=>by
  rw[Am] at h ⊢;obtain⟨u,B⟩:=Lp.mp h;refine Lp.mpr ⟨λb C=>?_,rise_paths o (λy j=>hz y (Ak _ j)) B⟩;obtain⟨y,j,rfl⟩:=Az.mp C;obtain⟨D,E⟩:=hz z Al;obtain⟨F,G⟩:=hz y (Ak _ j);have:=u (g y) (Az.mpr ⟨y,j,rfl⟩);rw[q6p o D,q6p o F] at this;rw[x0q G E];exact decide_eq_false (by lia)
def PairAt.inj(f:PairAt h v p m)(g:PairAt h v q m'):p=q:=by
 obtain⟨a,k,rfl,t,s⟩:=f;obtain⟨C,j,e,o,u⟩:=g;cases e;have e:=congrArg Array.toList (IsTup.inj t o);have B:k=j:=by grind
 subst B;exact s.inj u
def ready_pairs(few:vs.length<64)(B:∀v∈vs,∃p∈ps,∃m,Low p/\PairAt h v p m)(T:∀u∈vs,∀v∈vs,∀p m C,PairAt h u p m->PairAt h v p C->u=v)(hu:A.units+12<cLine):
  Ready prog w A vs h (tuples' false) (λv=>v∈vs) (λv=>(pRank ps (keyBy (λv p=>∃m,PairAt h v p m) v):Int)) where
 few:=few
 all:=λv g=>g
 kind:=λO U s E Q _ k q=>by
  have D:vs≠[]:=λz=>by rw[z] at O;simp at O
  have ex:∀v∈vs,∃a b f m,v=.ref a/\IsTup s.heap a #[.ref b,m]/\IsTup s.heap b f:=λv g=>by
   obtain⟨p,_,m,_,x⟩:=B v g;obtain⟨a,z,rfl,tt,b,f,rfl,F,_⟩:=x.keep k;exact⟨a,b,f,m,rfl,tt,F⟩
  refine x9h (fs:=λv=>(match v with|.ref a=>(match s.heap.get? a with|some o=>(match o.data with|.seq f _=>f.getD 0 .none|_=>.none)|none=>.none)|_=>.none)) D (λv g=>?_) (λv g=>?_) (by rw[show(Value.type "tuple" != Value.type "tuple")=false from by decide];exact q)
  ·obtain⟨a,b,f,m,rfl,tt,_⟩:=ex v g;refine⟨a,_,rfl,tt,?_⟩;obtain⟨o,j,G,n,H⟩:=tt;simp only[j,H];rfl
  ·obtain⟨a,b,f,m,rfl,tt,F⟩:=ex v g;obtain⟨o,j,G,n,H⟩:=tt;simp only[j,H];obtain⟨W,X,Y,_⟩:=F;exact⟨W,X,Y⟩
 tells:=λU s hA k E x y Q P R Z=>by
  obtain⟨p,I,m,lp,J⟩:=B x P;obtain⟨q,L,C,lq,M⟩:=B y R;refine x0s (J.keep k) (M.keep k) (λe=>by subst e;exact T x P y R _ _ _ J M) lp lq (by lia) ?_;have S:∀v p q,(∃m,PairAt h v p m)->(∃m,PairAt h v q m)->p=q:=λv p q ⟨_,a⟩ ⟨_,b⟩=>PairAt.inj a b
  have j:=q6p S ⟨m,J⟩;have G:=q6p S ⟨C,M⟩;rw[x0q I L,<- j,<- G];exact Z
end
end SB
namespace PySem.Rv
open Sem (wp)
structure Runs (prog) (w) (A:Around) (S I) (n) (Fc:List Value->Heap->Prop) (It:Nat->Heap->Prop):Prop where
 keepF:∀acc h h',Fc acc h->(∀b o,b≠S->b≠I->h.get? b=some o->h'.get? b=some o)->Fc acc h'
 keepI:∀i h h',It i h->(∀b o,b≠S->h.get? b=some o->h'.get? b=some o)->It i h'
 item:∀acc  s   Q   E ,acc.length<n->Fc acc s.heap->It acc.length s.heap ->
  (∀v h',Fc (acc++[v]) h'->It (acc.length+1) h'->(∀b o,b≠I->s.heap.get? b=some o->h'.get? b=some o)->Q (some v) { s with heap:=h' })->wpAny (model prog w) A.in1 (Hr (.ref I)) Q E s
 done:∀ s   Q   E ,It n s.heap->(∀h',(∀b o,b≠I->s.heap.get? b=some o->h'.get? b=some o)->Q none { s with heap:=h' })->wpAny (model prog w) A.in1 (Hr (.ref I)) Q E s
section
variable{prog:Aq}{w:World}{A:Around}{E:Value->Ah->Prop}{S I:Addr}{n:Nat}{Fc:List Value->Heap->Prop}{It:Nat->Heap->Prop}
def grow(W:Runs prog w A S I n Fc It)(u:S≠I)(hn:n<=sizeLine)(res):∀ k   acc   s   c ,n-acc.length=k->acc.length<=n->Fc acc s.heap->It acc.length s.heap ->
  s.heap.get? S=some { cls:=.type "list",data:=.seq acc.toArray c } ->
  (∀g h' C,g.length=n->Fc g h'->(∀b o,b≠S->b≠I->s.heap.get? b=some o->h'.get? b=some o)->h'.get? S=some { cls:=.type "list",data:=.seq g.toArray C }->R (.ok (.ret res)) { s with heap:=h' }) ->
  Ey (model prog w) A (.builtin "list.extend.loop" ⟨[.ref S,.ref I,res],[]⟩) R s:=by
 intro k;induction k with
 |zero =>
  intro acc s c hk hl f i D E;refine Lb Uw ?_;rw[Ki Ir _];have e:acc.length=n:=by lia
  refine Ac (W.done s _ _ (by rw[<- e];exact i) λh' kp=>Ad ?_);exact E acc h' c e (W.keepF _ _ _ f λb o _ h q=>kp b o h q) (λb o _ h q=>kp b o h q) (kp S _ u D)
 |succ k ih =>
  intro acc s c hk hl f i D E;refine Lb Uw ?_;rw[Ki Ir _];refine Ac (W.item acc s _ _ (by lia) f i λv h' G H kp=>?_);have hS':=kp S _ u D;have j:∀b o,b≠S->h'.get? b=some o->(h'.update S (Hm (·.push v))).get? b=some o:=λb o h q=>(Cm _ _ (Cp h)).trans q;have F:(h'.update S (Hm (·.push v))).get? S=some { cls:=.type "list",data:=.seq (acc++[v]).toArray (c+1) }:=by
   have:=Ju hS' (λx=>x.push v);rw[this];simp
  refine Ac (Sh hS' rfl (Ad ⟨Qg Ir _,ih (acc++[v]) _ (c+1) (by rw[Af,Bi];lia) (by rw[Af,Bi];lia)
   (W.keepF _ _ _ G λb o h _ q=>j b o h q) (by rw[Af,Bi];exact W.keepI _ _ _ H j) F λg J C L M O P=>E g J C L M (λb o h B q=>O b o h B (j b o h (kp b o B q))) P⟩) (by rw[Bg];lia) (by simp;lia))
def collect_runs(U:∀h,(∀b o,s.heap.get? b=some o->h.get? b=some o)->(⟨h,s.gens,s.drawn,s.toks,s.os⟩:Ah).TypeIs (.ref v) T)(Z:v<s.heap.objs.size)(h1:(Value.type T==Value.type "list")=false)(h2:(Value.type T==Value.type "tuple")=false)(G:∀ A   E   s'   Q ,s'.TypeIs (.ref v) T->Q false s'->wpAny (model prog w) A (Ea.List.listLengthHint (.ref v)) Q E s')(H:∀ A   E   h   Q ,(∀b o,s.heap.get? b=some o->h.get? b=some o)->Q (.ref h.objs.size) { s with heap:=h.push oI }->wpAny (model prog w) A (Jm (.ref v)) Q E { s with heap:=h })(a0:∀h:Heap,(h.push oI).get? h.objs.size=some oI)(W:Runs prog w A s.heap.objs.size (s.heap.objs.size+1) n Fc It)(hn:n<=sizeLine)(h0:∀h,(∀b o,s.heap.get? b=some o->h.get? b=some o)->h.get? (s.heap.objs.size+1)=some oI->Fc [] h/\It 0 h)(hQ:∀acc h,acc.length=n->Fc acc h->s.heap.objs.size<=h.objs.size->(∀b o,s.heap.get? b=some o->h.get? b=some o)->Q acc { s with heap:=h }):wpAny (model prog w) A (collect (.ref v)) Q E s:=by
 refine Ac (wpAny_runValue (Lb F.entry_proto_collect ?_));rw[Ki F.plain_proto_collect _];refine Ac (Cf (Ad ⟨Qg Wj _,Lb F.entry_list_iadd ?_⟩));rw[Ki Wj _];show wpAny _ A.in1 (Ea.List.listExtendWith (.ref s.heap.objs.size) (.ref v) (.ref s.heap.objs.size)) _ _ { s with heap:=s.heap.push { cls:=.type "list",data:=.seq ([]:List Value).toArray } };generalize O:s.heap.push { cls:=.type "list",data:=.seq ([]:List Value).toArray }=g;have I:∀b o,s.heap.get? b=some o->g.get? b=some o:=λb o q=>by rw[<- O];exact Ag _ q
 have gz:g.objs.size=s.heap.objs.size+1:=by rw[<- O];exact Ft _ _
 have gS:g.get? s.heap.objs.size=some { cls:=.type "list",data:=.seq ([]:List Value).toArray }:=by rw[<- O];exact Aw _ rfl
 refine Ac (Jn (U g I) ?_);have hs:Rk (.ref s.heap.objs.size) (.ref v)=false:=by simp[Rk,Ez Z]
 simp only[hs,h1,h2,Uo,Bq,if_false];refine Ac (H _ _ g _ I ?_);rw[gz];have L:∀b o,g.get? b=some o->(g.push oI).get? b=some o:=λb o q=>Ag _ q;have j:=L _ _ gS;have put:∀(h:Heap) (c:Nat),(∀b o,b≠s.heap.objs.size->(g.push oI).get? b=some o->h.get? b=some o)->h.get? s.heap.objs.size=some { cls:=.type "list",data:=.seq ([]:List Value).toArray c }->h.get? (s.heap.objs.size+1)=some oI ->
   Ey (model prog w) A (.builtin "list.extend.loop" ⟨[.ref s.heap.objs.size,.ref (s.heap.objs.size+1),.ref s.heap.objs.size],[]⟩) (λr s'=>∃acc B,r=.ok (.ret (.ref s.heap.objs.size))/\s'.heap.get? s.heap.objs.size=some { cls:=.type "list",data:=.seq acc B }/\Q acc.toList s') { s with heap:=h }:=by
  intro h c M P S;obtain⟨f,i⟩:=h0 h (λb o q=>M b o (Bl (As q)) (L b o (I b o q))) S;refine grow W (Bl (Jx _)) hn _ n [] _ c (by simp) (Ba _) f i P λacc h' B e f' k' s'=>⟨acc.toArray,B,rfl,s',?_⟩
  have:=hQ acc h' e f' (Jk (As s')) λb o q=>k' b o (Bl (As q)) (Bl (Mi (As q))) (M b o (Bl (As q)) (L b o (I b o q)));simpa using this
 have X:(g.push oI).get? (s.heap.objs.size+1)=some oI:=by grind
 refine Ac (Dh (G _ _ _ _ (U (g.push oI) λb o q=>L b o (I b o q)) ?_));have C:∀(h:Heap) (c:Nat),(∀b o,b≠s.heap.objs.size->(g.push oI).get? b=some o->h.get? b=some o)->h.get? s.heap.objs.size=some { cls:=.type "list",data:=.seq ([]:List Value).toArray c }->h.get? (s.heap.objs.size+1)=some oI->∀{R:Result->Ah->Prop},
   (∀s' acc B,s'.heap.get? s.heap.objs.size=some { cls:=.type "list",data:=.seq acc B }->Q acc.toList s'->R (.ok (.ret (.ref s.heap.objs.size))) s')->Ey (model prog w) A (.builtin "list.extend.loop" ⟨[.ref s.heap.objs.size,.ref (s.heap.objs.size+1),.ref s.heap.objs.size],[]⟩) R { s with heap:=h }:=by
  intro h c M P S R hR;refine Gs (put h c M P S) λr s' z=>?_;obtain⟨acc,B,rfl,e,q⟩:=z;exact hR s' acc B e q
 refine wpAny_ite_split (λ_=>?_) (λ_=>?_)
 ·refine Ac (Ge (Ac ?_));show wpAny _ _ (updateSeq s.heap.objs.size (·.push .none) >>= λ_=>updateSeq s.heap.objs.size (·.pop)) _ _ _;refine Ac (Sh j rfl ?_);have u:=Ju j (λx=>x.push Value.none);refine Sh u rfl ?_;have D:=Ju u (λx=>x.pop);have J:∀b o,b≠s.heap.objs.size->(g.push oI).get? b=some o->(((g.push oI).update s.heap.objs.size (Hm λx=>x.push Value.none)).update s.heap.objs.size (Hm λx=>x.pop)).get? b=some o :=
   λb o Y q=>(Cm _ _ (Cp Y)).trans ((Cm _ _ (Cp Y)).trans q)
  refine Ad ⟨Qg Ir _,C _ _ J D (J _ _ (Ez (Jx _)) X) λs' acc B e q=>?_⟩;exact Ac (Xi e (Ad q))
 ·refine Ad ⟨Qg Ir _,C _ _ (λb o _ q=>q) j X λs' acc B e q=>?_⟩;exact Ac (Xi e (Ad q))
end
end PySem.Rv
namespace L2
open PySem PySem.Spec PyProof.Rows SB TX
noncomputable def kP(p:Pth):List Key:=p.map λn=>Sum.inr (mk n)
noncomputable abbrev vP(p:Pth):List V:=p.map λn=>V.str (mk n)
def z2y(p):(kP p).map kV=vP p:=by unfold kP;rw[Ct];rfl
noncomputable abbrev HRow:=Pth×V
noncomputable abbrev dR(rows:List HRow):HO:=.dT (rows.map λr=>(kP r.1,r.2))
theorem z2z:∀{p} {us},Vals (vP p) us->Kt us (p.map mk)
 |[],_,.nil=>.nil
 |n::p,us,h=>by
  cases h with
  |cons r t =>
   obtain⟨k,rfl⟩:=r;exact .cons _ k (z2z t)
section
variable{X:Cx}{pins:List (Addr×Obj)}{σ:St}{H:Hp}{s:Ah}
def Inv.path(I:Inv X pins σ H s)(h:H b=some (.tup (vP p))):PathAt s.heap (.ref b) p:=by
 obtain⟨z,f,r,t⟩:=I.hok b _ h;exact⟨b,f.toArray,rfl,t,by simpa using z2z r⟩
def Inv.rows(I:Inv X pins σ H s){rows}(hd:H d=some (dR rows)):(d==Dk)=false/\rows.length<=sizeLine/\∃g o u,s.heap.get? d=some g/\g.ExactDict/\g.data=.dict o u/\(rows.map (·.1)).Nodup /\
  ∃zs:List (Addr×Value×HRow),zs.map (·.2.2)=rows/\o.toList.map (λe=>(e.key,e.val))=zs.map (λz=>(Value.ref z.1,z.2.1))/\∀z∈zs,H z.1=some (.tup (vP z.2.2.1))/\RelV z.2.2.2 z.2.1:=by
 obtain⟨z,j,f,F,g,o,u,G,v,B,J,C⟩:=(show ObjOk X.prog X.w H s.heap d (dR rows) from I.hok d _ hd)
 rw[Ae] at z;have go:∀(rows:List HRow) (f:List (List Key×Addr×Value)),Hx (λ(p:List Key×V) (q:List Key×Addr×Value)=>p.1=q.1/\H q.2.1=some (.tup (p.1.map kV))/\RelV p.2 q.2.2) (rows.map λr=>(kP r.1,r.2)) f ->
   f.map (·.1)=rows.map (λr=>kP r.1)/\∃zs:List (Addr×Value×HRow),zs.map (·.2.2)=rows/\(f.map (Qp (Le (mixKind X.prog X.w)))).map (λe=>(e.key,e.val))=zs.map (λz=>(Value.ref z.1,z.2.1))/\∀z∈zs,H z.1=some (.tup (vP z.2.2.1))/\RelV z.2.2.2 z.2.1:=by
  intro rows;induction rows with
  |nil=>intro f h;cases h;exact⟨rfl,[],rfl,rfl,λ_ h=>nomatch h⟩
  |cons r rows ih =>
   intro f h;cases h with
   |cons hq t =>
    rename_i q ys;obtain⟨L,M,O⟩:=hq;obtain⟨P,zs,Q,R,S⟩:=ih ys t;refine⟨by rw[Am,Am,P,<- L],(q.2.1,q.2.2,r)::zs,by rw[Am,Q],by rw[Am,Am,Am,R];rfl,λz D=>?_⟩;rcases Av.mp D with rfl|D
    ·exact⟨by rw[<- z2y];exact M,O⟩
    ·exact S z D
 obtain⟨T,zs,U,W,Y⟩:=go rows f F;refine⟨j,z,g,o,u,G,v,B,?_,zs,U,by rw[J];exact W,Y⟩;rw[T] at C;have e:rows.map (λr=>kP r.1)=(rows.map (·.1)).map kP:=by simp_all
 rw[e] at C;exact(List.pairwise_map.mp C).imp λE z=>E (by rw[z])
end
theorem z3a:∀(bs:List Addr),Vals (bs.map V.ref) (bs.map Value.ref)
 |[]=>.nil
 |b::bs=>.cons rfl (z3a bs)
noncomputable def vwO(v d:Addr):HO:=.ext λh=>h.IsItemsView v d
noncomputable def rItems:V->List V->Hp->VK->Prop:=λx vs H Q=>∃d rows,x=.ref d/\vs=[]/\H d=some (dR rows)/\∀v,H v=none->Q (.ref v) (upd H v (vwO v d))
def x4r:MtR X "dict.items" rItems:=by
 intro B s M H x vs v O Q I E G h;obtain⟨d,rows,rfl,rfl,hd,q⟩:=h;cases E;have j:=G.zero;subst j;obtain⟨f,P,C,R,S,D,g,J,_⟩:=I.rows hd;refine Cb F.slot_dict_items ⟨C,D,g.1⟩ F.entry_dict_items ?_ (F.args_dict_items_1 _);refine Ac ?_;unfold Ea.Dict.noArgs;refine Ac (Ng ⟨C,D,g.1⟩ ?_);show wpAny _ _ (pure d) _ _ s;refine Ad ?_;unfold Nh;rw[if_neg (by rw[f];exact Bm)];refine Ac (Ad (Ac (Cf (Ad ⟨_,rfl,.ref s.heap.objs.size,_,I.laid (t':=s.toks) (λb u e=>Ag _ e) (Aj _) ?_,rfl,q _ I.fresh⟩))));exact⟨⟨_,Aw _ rfl,rfl,rfl⟩,⟨_,Aw _ rfl⟩,λT U ⟨o,e,c,L⟩ k=>⟨o,k o e,c,L⟩⟩
noncomputable def PR(H:Hp)(a:Addr)(r:HRow):Prop:=∃b,H a=some (.tup [.ref b,r.2])/\H b=some (.tup (vP r.1))
noncomputable abbrev PRs(H:Hp):List Addr->List HRow->Prop:=Hx (PR H)
noncomputable def rSortV:List V->Hp->VK->Prop:=λvs H Q=>∃v d rows,vs=[.ref v]/\H v=some (vwO v d)/\H d=some (dR rows)/\rows.length<64/\(∀r∈rows,Low r.1) /\
 ∀L as rs H',H L=none->rs.Perm rows->(rs.map (·.1)).Pairwise (λa b=>pLt b a=false)->Same H H'->H' L=some (.lst (as.map V.ref))->PRs H' as rs->Q (.ref L) H'
def Inv.tracks{u:St}:∀{zs:List (Addr×List V)} {H},Inv X pins u H s->X.s₀.heap.objs.size<=n->(zs.map (·.1)).Nodup ->
  (∀z∈zs,n<=z.1/\FpOk X pins H z.1/\z.2.length<=sizeLine/\∃f,Vals z.2 f/\IsTup s.heap z.1 f.toArray)->∃H',Inv X pins u H' s/\Same H H'/\(∀z∈zs,H' z.1=some (.tup z.2))/\∀b,(∀z∈zs,z.1≠b)->H' b=H b:=by
 intro zs;induction zs with
 |nil=>intro H I _ _ _;exact⟨H,I,Same.refl H,(λ_ h=>nomatch h),λ_ _=>rfl⟩
 |cons z zs ih =>
  intro H I hn nd v;obtain⟨D,B,E,f,F,G⟩:=v z Al;rw[Am,Eu] at nd;have L:=I.track (o:=.tup z.2) (Ay hn D) B ⟨E,f,F,G⟩;obtain⟨H',J,sm,M,O⟩:=ih L hn nd.2 (λy g=>by
   obtain⟨P,C,Q,R⟩:=v y (Ak _ g);exact⟨P,⟨by rw[q0g (λe=>nd.1 (by rw[<- e];exact Az.mpr ⟨y,g,rfl⟩))];exact C.1,C.2⟩,Q,R⟩)
  refine⟨H',J,((Same.refl H).new B.1).trans sm,λy g=>?_,λb j=>?_⟩
  ·rcases Av.mp g with rfl|g
   ·exact sm _ _ q0c
   ·exact M y g
  ·rw[O b λy g=>j y (Ak _ g),q0g (Cp (j z Al))]
theorem q6q{o u:Type}{f:o->u}:∀{l:List o},(l.map f).Nodup->∀{x y},x∈l->y∈l->f x=f y->x=y
 |[],_,_,_,h,_,_=>nomatch h
 |a::l,nd,x,y,hx,hy,e=>by
  rw[Am,Eu] at nd;rcases Av.mp hx with ex|j
  ·rcases Av.mp hy with s|g
   ·rw[ex,s]
   ·exact absurd (by rw[<- ex,e];exact Az.mpr ⟨y,g,rfl⟩) nd.1
  ·rcases Av.mp hy with s|g
   ·exact absurd (by rw[<- s,<- e];exact Az.mpr ⟨x,j,rfl⟩) nd.1
   ·exact q6q nd.2 j g e
noncomputable abbrev Zt:=Addr×Value×HRow
structure Made (h) (lo) (ws:List (Addr×Zt)):Prop where
 rise:(ws.map (·.1)).Pairwise λa b:Nat=>a<b
 low:∀x∈ws,lo<=(show Nat from x.1)
 at_:∀x∈ws,IsTup h x.1 #[.ref x.2.1,x.2.2.1]
def Made.keep{lo}(m:Made h lo ws)(k:∀ a  o,lo<=a->h.get? a=some o->h'.get? a=some o):Made h' lo ws :=
 ⟨m.rise,m.low,λx f=>SB.IsTup.keep (m.at_ x f) λo e=>k _ o (m.low x f) e⟩
theorem x7c{j:Type}{f}{g}:∀{zs:List j},(∀z∈zs,PR H (f z) (g z))->PRs H (zs.map f) (zs.map g)
 |[],_=>.nil
 |z::zs,h=>.cons (h z Al) (x7c λy o=>h y (Ak _ o))
def z8f(hr:Room k X.A):CallR X (.builtin "sorted") rSortV:=by
 intro c1 s σ H xs us Q I rv h;obtain⟨v,d,rows,rfl,hv,hd,few,c2,q⟩:=h;obtain⟨u,rfl,ru⟩:=rv.one;cases ru;obtain⟨c3,hz,ob,F,ep,ho,c5,U,nd,Y,z1,z2,z3⟩:=I.rows hd;obtain⟨vo,Z,vc,vd⟩:s.heap.IsItemsView v d:=(I.hok v _ hv).1;have c4:F.size=rows.length:=by
  have:=congrArg List.length z2;rw[Ae,Ae,He] at this;rw[this,<- z1,Ae]
 have a0:∀{i:Nat} (hi:i<F.size),∃z∈Y,Y[i]?=some z/\F[i].key=.ref z.1/\F[i].val=z.2.1:=λ{i} hi=>by
  have e:=congrArg (λl=>l[i]?) z2;simp only[Be,Ti,Gp hi,Nz] at e;cases G:Y[i]? with
  |none=>simp_all
  |some z =>
   rw[G] at e;injection e with e;injection e with R D;exact⟨z,Ar G,rfl,R,D⟩
 have a4:Y.length=F.size:=by grind
 have a5:=As ho;have hu:=hr.un;refine SB.sorted_ok λ{Q'} kk=>?_;refine PySem.Rv.collect_runs (n:=F.size) (oI:=PySem.Rv.itemObj d 0 F.size ep .none (.bool false) .none .none) (Fc:=λacc h=>∃B,acc=B.map (λx=>Value.ref x.1)/\B.map (·.2)=Y.take acc.length/\Made h (s.heap.objs.size+2) B)
  (It:=λi h=>PySem.Rv.ItemIt h (s.heap.objs.size+1) d i F.size ep/\h.get? d=some ob) (λh L=>⟨vo,L _ _ Z,vc⟩) (As Z) (by decide) (by decide) (λA E s' Q hT hq=>W.kdx_hint hT hq)
  (λA E h Q L hq=>PySem.Rv.items_iter ⟨vo,L _ _ Z,vc,vd⟩ (L _ _ ho) U hq) (λh=>Aw _ rfl) ⟨?_,λi h S ⟨f1,f2⟩ kp=>⟨f1.keep λo e=>kp _ _ (Ez (Jx _)) e,kp _ _ (Bl a5) f2⟩,?_,?_⟩ (by lia)
  (λh L ki=>⟨⟨[],rfl,rfl,.nil,(λ_ z=>nomatch z),(λ_ z=>nomatch z)⟩,⟨_,_,_,_,ki,.inl rfl⟩,L _ _ ho⟩) (λacc h el f M L=>?_)
 ·rintro acc h S ⟨B,R,D,m⟩ kp;refine⟨B,R,D,m.keep λa o ha e=>kp a o (λz=>?_) (λz=>?_) e⟩
  ·rw[z] at ha;exact absurd ha (by lia)
  ·grind
 ·rintro acc s' Q E hl ⟨B,R,D,m⟩ ⟨i1,i2⟩ hq;refine PySem.Rv.items_item i1 i2 U hl λS j1 j2 j3 j4=>?_;obtain⟨z,c6,G,b1,b2⟩:=a0 hl;have lo:=i1.lt;have ni:∀{a:Nat},s.heap.objs.size+2<=a->a≠s.heap.objs.size+1:=λh=>by lia
  refine hq _ S ⟨B++[(s'.heap.objs.size,z)],by rw[R,Bb];rfl,?_,?_⟩ ⟨j1,j4 d ob (Bl (Mi a5)) i2⟩ j4
  ·rw[Bb,D,Af,Bi,Fu,G];rfl
  ·have m':=m.keep (h':=S) λa o ha e=>j4 a o (ni ha) e;refine⟨?_,λx g=>?_,λx g=>?_⟩
   ·rw[Bb];refine List.pairwise_append.mpr ⟨m.rise,Rt _ _,λa ha b hb=>?_⟩;obtain⟨x,g,rfl⟩:=Az.mp ha;have hb':b=s'.heap.objs.size:=by simpa using hb
    rw[hb'];obtain⟨o,eo,_⟩:=m.at_ x g;exact As eo
   ·rcases Au.mp g with g|g
    ·exact m.low x g
    ·rw[Ao.mp g];exact lo
   ·rcases Au.mp g with g|g
    ·exact m'.at_ x g
    ·rw[Ao.mp g];refine⟨_,j2,rfl,0,?_⟩;rw[b1,b2]
 ·rintro s' Q E ⟨i1,i2⟩ hq;exact PySem.Rv.items_end hr.hd i1 i2 U (Aj _) λS eb=>hq S λb o hb e=>eb b o hb e
 ·obtain⟨B,R,D,m⟩:=f;rw[el,<- a4,Ci] at D;have O:∀{x:Addr×Zt},x∈B->x.2∈Y:=λ{x} g=>by rw[<- D];exact Az.mpr ⟨x,g,rfl⟩
  have a6:∀{x:Addr×Zt},x∈B->x.2.2.2∈rows:=λ{x} g=>by rw[<- z1];exact Az.mpr ⟨_,O g,rfl⟩
  have a1:∀{x:Addr×Zt},x∈B->PairAt h (.ref x.1) x.2.2.2.1 x.2.2.1:=λ{x} g=>⟨x.1,.ref x.2.1,rfl,m.at_ x g,(I.path (z3 _ (O g)).1).keep L⟩
  have b3:(B.map λx=>x.2.2.2.1).Nodup:=by grind
  have T:∀{w:Value},w∈acc->∃x∈B,w=.ref x.1:=λ{w} hw=>by
   rw[R] at hw;obtain⟨x,g,rfl⟩:=Az.mp hw;exact⟨x,g,rfl⟩
  refine kk acc h s.toks _ _ _ (SB.ready_pairs (ps:=rows.map (·.1)) (by lia) (λw hw=>?_) (λw hw y hy p mm c7 b4 b5=>?_) (by lia)) λS b6 so a7 ⟨e,he⟩=>?_
  ·grind
  ·obtain⟨x,g,rfl⟩:=T hw;obtain⟨x2,a8,rfl⟩:=T hy;have q1:=SB.PairAt.inj b4 (a1 g);have q2:=SB.PairAt.inj b5 (a1 a8);rw[q6q b3 g a8 (q1.symm.trans q2)]
  ·have pm:=so.perm;rw[R] at pm;obtain⟨j,P,p2⟩:=SB.perm_map_inv pm rfl;have C:=so.rise;rw[p2] at C;have b7:=SB.rise_paths (λw a b ⟨_,x⟩ ⟨_,y⟩=>SB.PairAt.inj x y) (λx g=>by
    have a9:=P.mem_iff.mp g;exact⟨⟨_,a1 a9⟩,Az.mpr ⟨_,a6 a9,rfl⟩⟩) C
   have keep:=λb o z=>a7 b o (L b o z);have I1:=I.kept (t':=s.toks) keep;have a2:=λ{x} g=>Ay (Nat.le_add_right _ 2) (m.low x (P.mem_iff.mp g));have b8:(j.map (·.1)).Nodup:=by
    have:(B.map (·.1)).Nodup:=m.rise.imp λh e=>by subst e;exact absurd h (Hc _)
    exact(P.map (·.1)).nodup_iff.mpr this
   obtain⟨H1,J,sm,ht,b9⟩:=I1.tracks (zs:=j.map λx=>(x.1,[V.ref x.2.1,x.2.2.2.2])) I.sz (by rw[Ct];exact b8) (λz hz=>by
    obtain⟨x,g,rfl⟩:=Az.mp hz;refine⟨a2 g,I.fpOk (a2 g) (I.hok.fresh (a2 g)),by show 2<=sizeLine;decide,[.ref x.2.1,x.2.2.1],.cons rfl (.cons (z3 _ (O (P.mem_iff.mp g))).2 .nil),?_⟩;exact SB.IsTup.keep (m.at_ x (P.mem_iff.mp g)) λo e=>a7 _ o e)
   have a3:H1 h.objs.size=none:=by
    rw[b9 _ λz hz e=>?_]
    ·exact I.hok.fresh M
    ·obtain⟨x,g,rfl⟩:=Az.mp hz;obtain⟨o,eo,_⟩:=m.at_ x (P.mem_iff.mp g);exact absurd (As eo) (by rw[show x.1=h.objs.size from e];exact Hc _)
   have c0:(j.map (·.1)).length=F.size:=by rw[Ae,P.length_eq,<- a4,<- D,Ae]
   have eo:b6.toList=(j.map (·.1)).map Value.ref:=by rw[p2,Ct];rfl
   have J2:=J.track (o:=.lst ((j.map (·.1)).map V.ref)) (Ay I.sz M) (I.fpOk M a3) ⟨by rw[Ae,c0];lia,_,e,z3a _,by rw[<- eo];exact he⟩;have b0:Same H (upd H1 h.objs.size (.lst ((j.map (·.1)).map V.ref))):=sm.trans ((Same.refl H1).new a3);refine⟨.ref h.objs.size,_,J2,rfl,q _ (j.map (·.1)) (j.map λx=>x.2.2.2) _ (I.hok.fresh M) ?_ (by rw[Ct];exact b7) b0 q0c (x7c λx g=>?_)⟩
   ·have e3:B.map (λx=>x.2.2.2)=rows:=by rw[<- z1,<- D,Ct];rfl
    rw[<- e3];exact P.map _
   ·refine⟨x.2.1,?_,b0 _ _ (z3 _ (O (P.mem_iff.mp g))).1⟩;exact(Same.refl H1).new a3 _ _ (ht _ (Az.mpr ⟨x,g,rfl⟩))
def d_set{j:St}(F:A.units+1<cLine)(I:Inv X pins j H s)(e:H a=some (.dT kvs))(u:H b=some (.tup (k.map kV)))(l:kvs.length<sizeLine)(G:RelV v r)(h:∀s',Inv X pins j (upd H a (.dT (putK kvs k v))) s'->(∀b o,b≠a->s.heap.get? b=some o->s'.heap.get? b=some o)->Q () s'):wpAny (model X.prog X.w) A (dictSet a (.ref b) r) Q E s:=by
 obtain⟨z,hd,J,f,L⟩:=dt_of I.hok e;have W:J.length<=sizeLine:=by rw[<- Hb f];exact z
 have hl:(putK kvs k v).length<=sizeLine:=by have:=q2d kvs k v;lia
 refine wpAny_dictSet_heap (show(Le (mixKind X.prog X.w)).room A from Nat.lt_of_succ_lt F) (q7k I.hok u) L λY g B=>h _ ?_ λb o M e=>(B.2 b M).trans e;obtain⟨q,O,P,C,R,S,T,_,U⟩:=g;refine z0c I (by rw[e];exact True.intro) B ⟨q,C⟩ ⟨hl,hd,_,(f.put k u G).keeps λc Z D=>?_,q,O,P,C,R,S,T,U⟩;rw[q0g (x3k D e (λz=>nomatch z))];exact D
noncomputable def CompWD(J:It)(g:TG)(tt:TT)(tk tv:TE)(σ0:St)(D:Addr)(Fin:List (List Key×V)->Hp->Prop)(H1:Hp):Prop :=
 ∃W:Nat->Nat->List (List Key×V)->Hp->Prop,(∃m,W 0 m [] (upd H1 D (.dT [])))/\∀i m ys H,W i m ys H->H D=some (.dT ys) /\
  ((J.stop i H/\Fin ys H)\/(J.go i H/\∃N:List (List Key×V)->Hp->Prop,(∀zs H',N zs H'->∃m',m'<m/\W (i+1) m' zs H')/\∀x H',J.yld i H x H'->g x σ0 H' λσ2 H2=>Keeps0 σ0 σ2/\tt σ2 H2 λb H3 =>
   if b=true then tk σ2 H3 λy H4=>tv σ2 H4 λv H5=>∃k c,y=.ref c/\H5 c=some (.tup (k.map kV))/\H5 D=some (.dT ys)/\ys.length<sizeLine/\N (putK ys k v) (upd H5 D (.dT (putK ys k v)))
   else N ys H3))
def x0u{j:St}{Fin:Addr->List (List Key×V)->Hp->Prop}{RR:Value->Addr->Result->Ah->Prop}(hc:X.calm=true)(Z:scope.kind=.function)(b6:∀y∈scope.names,y.2≠.cell)(d2:∀x c,cl.lookup x=some c->X.env.cells.lookup x=some c)(d3:∀x,(x,Bk.free)∈scope.names->∃c,cl.lookup x=some c)(co:CapOk X scope caps)(hg:∀C s H,PG (cxComp X (tg++caps.map (·.1)) scope cl C fp s H) target g)(ht:∀C s H,PIfs (cxComp X (tg++caps.map (·.1)) scope cl C fp s H) ifs tt)(he:∀C s H,PE (cxComp X (tg++caps.map (·.1)) scope cl C fp s H) kx tk)(hv:∀C s H,PE (cxComp X (tg++caps.map (·.1)) scope cl C fp s H) vx tv)(hu:X.A.units+1<cLine)(I2:Inv X h j H1 s₂)(T:Turn X.prog X.w X.K target J fp it tn)(st:tn 0 s₂.heap)(hf:∀b∈fp,FpOk X h H1 b)(hw:∀D,H1 D=none->CompWD J g tt tk tv (tg0 tg j caps) D (Fin D) H1)(d4:∀D C ys H' s',H1 D=none->Inv X h j H' s'->(∃m,s'.heap.Ns C m)->FpOk X h H' C->Fin D ys H'->RR (.ref D) C (.ok .next) s'):
  wpAny (model X.prog X.w) X.A newDict (λacc G=>wpAny (model X.prog X.w) X.A (Tb scope X.env.globals cl [] X.env.qual none .none (some X.env)) (λa6 b7 =>
   Ey (model X.prog X.w) X.A (.compStart (.DictComp kx vx [⟨target,iter,ifs,0⟩] scope pos) 0 (.ref it) acc { a6 with scope:=relabel scope X.env }) (RR acc a6.locals) b7) E G) E s₂:=by
 have I3:Inv X h j (upd H1 s₂.heap.objs.size (.dT [])) { s₂ with heap:=s₂.heap.push { cls:=.type "dict",dict:=none,data:=.dict #[] },toks:=s₂.toks }:=I2.laid (λ_ _ q=>Ag _ q) (Aj _) (z6k s₂.heap I2.big);have a9:=I2.fresh;refine Cf (Nw b6 (by intro y hy;simp at hy) (λa0 B F=>?_) Z);dsimp only at B F ⊢;generalize b0:s₂.heap.objs.size=D at I3 a9 B F ⊢;generalize f3:({ s₂ with heap:=s₂.heap.push { cls:=.type "dict",dict:=none,data:=.dict #[] } }:Ah)=G at I3 B F ⊢;have e3:s₂.heap.push { cls:=.type "dict",dict:=none,data:=.dict #[] }=G.heap:=by grind
 have o3:({ s₂ with heap:=a0,toks:=s₂.toks+([]:List (Str×Value)).length }:Ah)={ G with heap:=a0,toks:=s₂.toks }:=by grind
 have b1:G.heap.objs.size=D+1:=by rw[<- e3,Ft,b0]
 rw[e3] at B F ⊢;have a7:∀b o,s₂.heap.get? b=some o->G.heap.get? b=some o:=λb o e=>by rw[<- e3];exact Ag _ e
 generalize a4:G.heap.objs.size=C at B F ⊢;have hk:=λb o e=>F.extBut b o (by rw[<- a4];exact Bl (As e)) (Ag _ e);have b8:∀b∈fp,∃o,s₂.heap.get? b=some o:=λb I=>by obtain⟨o,e,_⟩:=T.obj 0 _ st b I;exact⟨o,e⟩
 have b9:∀b∈fp,b≠D:=λb I=>by obtain⟨o,e⟩:=b8 b I;rw[<- b0];exact Bl (As e)
 have c0:∀b∈fp,FpOk X h (upd H1 D (.dT [])) b:=λb I=>⟨by rw[q0g (b9 b I)];exact(hf b I).1,(hf b I).2⟩
 have IY:=Inv.ofcomp (tk:=s₂.toks) tg I3 Z b6 d2 d3 c0 (λb I=>let ⟨o,e⟩:=b8 b I;⟨o,a7 b o e⟩) (Fb a4) B hk co;have FC:FpOk X h H1 C:=by
  have z:=I3.fpOk (H':=H1) (Fb a4) (I2.hok.fresh (by rw[b0,<- a4,b1];exact Kr _));exact z
 generalize hY:cxComp X (tg++caps.map (·.1)) scope cl C fp G (upd H1 D (.dT []))=Y at IY;have d5:PG Y target g:=by grind
 have d6:PIfs Y ifs tt:=by grind
 have d7:PE Y kx tk:=by grind
 have d8:PE Y vx tv:=by grind
 have M:Y.prog=X.prog:=by rw[<- hY];rfl
 have O:Y.w=X.w:=by rw[<- hY];rfl
 have c1:Y.K=X.K:=by rw[<- hY];rfl
 have S:Y.A=X.A:=by rw[<- hY];rfl
 have U:Y.env=De scope cl C X.env:=by rw[<- hY];rfl
 have a5:Y.ex=fp:=by rw[<- hY];rfl
 have f4:Y.pn=[]:=by rw[<- hY];rfl
 have c2:Y.calm=true:=by rw[<- hY];exact hc
 have R:Y.xe=λ_ _=>False:=by rw[<- hY];rfl
 have b2:∀{H':Hp},(∀b∈fp,H' b=none)->∀b∈fp,FpOk Y [] H' b:=λ{H'} hn b I=>by
  refine⟨hn b I,?_,?_,.inl (by rw[a5];exact I),λx c e=>?_,λp hp=>?_⟩
  ·have:=(IY.ok.exf b (by rw[a5];exact I)).1;exact this
  ·exact IY.ok.exfs b (by rw[a5];exact I)
  ·exact(IY.ok.exf b (by rw[a5];exact I)).2 x c e
  ·grind
 obtain⟨W,⟨m0,w0⟩,c3⟩:=hw D a9;have c4:=T.keep 0 _ _ st λb I o e=>hk b o (a7 b o e)
 have c5:∀{H':Hp} {s':Ah} {a1:St},Inv Y [] a1 H' s'->Inv X h j H' s':=λ{H' s' a1} P=>by
  have c6:=P.base;have c7:=P.os;rw[<- hY] at c6 c7;exact I3.call' c7 c6 (by have z:=P.hok;rw[M,O] at z;exact z) P.bare λb I=>⟨(hf b I).2.2.2.1,(hf b I).2.1,(hf b I).2.2.2.2.1,(hf b I).2.2.2.2.2⟩
 have gY:∀h s j H v u Q (L:Value->Ah->Prop),Inv Y h j H s->RelV v u->g v j H Q->wpAny (model X.prog X.w) X.A (assign target (De scope cl C X.env) u) (λ_ s'=>∃a1 H',Inv Y h a1 H' s'/\Q a1 H') L s:=λh s j H v u Q L P r q=>by
  have z:=d5 h s j H v u Q P r q;rw[M,O,S,U,R] at z;exact Bs z (λ_ _ x=>x) λ_ _ f=>f.elim
 have tY:∀h s j H Q (L:Value->Ah->Prop),Inv Y h j H s->tt j H Q->wpAny (model X.prog X.w) X.A (forIn ifs true λc r=>if r=true then do let ok<-isTrue c (De scope cl C X.env) (eval c (De scope cl C X.env));pure (ForInStep.yield ok) else pure (ForInStep.yield r)) (TP Y h j Q) L s:=λh s j H Q L P q=>by
  have z:=d6 h s j H Q P q;rw[M,O,S,U,R] at z;exact Bs z (λ_ _ x=>x) λ_ _ f=>f.elim
 have eY:∀h s j H Q (L:Value->Ah->Prop),Inv Y h j H s->tk j H Q->wpAny (model X.prog X.w) X.A (eval kx (De scope cl C X.env)) (EP Y h j Q) L s:=λh s j H Q L P q=>by
  have z:=d7 h s j H Q P q;rw[M,O,S,U,R] at z;exact Bs z (λ_ _ x=>x) λ_ _ f=>f.elim
 have vY:∀h s j H Q (L:Value->Ah->Prop),Inv Y h j H s->tv j H Q->wpAny (model X.prog X.w) X.A (eval vx (De scope cl C X.env)) (EP Y h j Q) L s:=λh s j H Q L P q=>by
  have z:=d8 h s j H Q P q;rw[M,O,S,U,R] at z;exact Bs z (λ_ _ x=>x) λ_ _ f=>f.elim
 have d9:∀i h s j H (L:Value->Ah->Prop),Inv Y h j H s->(∀b∈fp,FpOk Y h H b)->tn i s.heap->J.go i H ->
   wpAny (model X.prog X.w) X.A (Hr (.ref it)) (λr s1=>∃u,r=some u /\
    wpAny (model X.prog X.w) X.A (Iy target (.ref it) u) (λ_ s2=>∃x H',Inv Y h j H' s2/\RelV x u/\J.yld i H x H'/\tn (i+1) s2.heap/\∀b∈fp,H' b=none) L s1) L s:=λi h s j H L P b3 st go=>by
  have z:=T.item Y M O c1 c2 i h s j H L P b3 st go;rw[S] at z;exact z
 have e0:∀i h s j H (L:Value->Ah->Prop),Inv Y h j H s->(∀b∈fp,FpOk Y h H b)->tn i s.heap->J.stop i H ->
   wpAny (model X.prog X.w) X.A (Hr (.ref it)) (λr s1=>r=none/\Inv Y h j H s1) L s:=λi h s j H L P b3 st go=>by
  have z:=T.done Y M O c1 c2 i h s j H L P b3 st go;rw[S] at z;exact z
 have a8:Ey (model X.prog X.w) X.A (.compLoop (.DictComp kx vx [⟨target,iter,ifs,0⟩] scope pos) 0 (.ref it) (.ref D) (De scope cl C X.env)) (RR (.ref D) C) { G with heap:=a0,toks:=s₂.toks }:=by
  refine Rc rfl (λn s'=>∃i ys H',Inv Y [] (tg0 tg j caps) H' s'/\tn i s'.heap/\(∀b∈fp,H' b=none)/\W i n ys H') ?_ m0 ⟨0,[],_,IY,c4,λb I=>(c0 b I).1,w0⟩;rintro n s4 ⟨i,ys,H4,I4,c8,c9,w4⟩;refine Sn ?_;obtain⟨f5,e1⟩:=c3 i n ys H4 w4;rcases e1 with⟨stop,e2⟩|⟨go,N,hN,step⟩
  ·refine Ac (Cw (Ac (thn (e0 i [] s4 _ H4 _ I4 (b2 c9) c8 stop) λr s5 ⟨hr,I5⟩=>?_)));subst hr;refine Ad (d4 D C ys H4 s5 a9 (c5 I5) ?_ ⟨?_,FC.2⟩ e2)
   ·obtain⟨m,hm,_⟩:=I5.loc;rw[U] at hm;exact⟨m,hm⟩
   ·have z:=I5.free;rw[U] at z;exact z
  ·refine Ac (Cw (Ac (thn (d9 i [] s4 _ H4 _ I4 (b2 c9) c8 go) λr s5 ⟨u,hr,h5⟩=>?_)));subst hr;refine Ac (thn h5 λ_ s6 ⟨x,H6,I6,r6,y6,b4,e4⟩=>?_);have I6':=I6.pinned (b2 e4) (T.obj _ _ b4);refine Ac (thn (gY _ s6 _ H6 x u _ _ I6' r6 (step x H6 y6)) λ_ s7 ⟨a2,H7,I7,kp,q7⟩=>?_);refine Ac (thnT (tY _ s7 a2 H7 _ _ I7 q7) λb s8 H8 I8 q8=>?_);have a3:∀{H9:Hp} {s9:Ah} {zs:List (List Key×V)} {m':Nat},Inv Y ([]++pinsAt fp s6.heap) a2 H9 s9->m'<n->W (i+1) m' zs H9->∃m,m<n/\∃i ys H',Inv Y [] (tg0 tg j caps) H' s9/\tn i s9.heap/\(∀b∈fp,H' b=none)/\W i m ys H':=λ{H9 s9 zs m'} I9 hm w9=>by
    refine⟨m',hm,i+1,zs,H9,I9.unpinned.weak kp.1 kp.2,T.keep _ _ _ b4 λb I o e=>(I9.pin (b,o) (Bf _ (Bf _ (q1m I e)))).1,λb I=>?_,w9⟩;obtain⟨o,e,d⟩:=T.obj _ _ b4 b I;exact(I9.pin (b,o) (Bf _ (Bf _ (q1m I e)))).2.1
   cases b with
   |true =>
    refine Ac (Ac (thnE (eY _ s8 a2 H8 _ _ I8 q8) λkv s9 yy H9 I9 r9 q9=>?_));refine Ac (Dh (thnE (vY _ s9 a2 H9 _ _ I9 q9) λvv f6 v e5 e6 e7 ⟨kk,bb,ey,e8,d0,d1,e9⟩=>?_));subst ey;cases r9;obtain⟨m',b5,f1⟩:=hN _ _ e9;refine Ac (Cw (Dh ?_));have z:=d_set (E:=notedBy (model X.prog X.w) X.A (De scope cl C X.env) λe s'=>RR (.ref D) C (.error e) s') (Q:=λ_ s'=>Inv Y ([]++pinsAt fp s6.heap) a2 (upd e5 D (.dT (putK ys kk v))) s') hu e6 d0 e8 d1 e7 λs' I' _=>I';rw[M,O] at z;exact thn z λ_ f7 f2=>Ad ⟨rfl,a3 f2 b5 f1⟩
   |false =>
    obtain⟨m',b5,w8⟩:=hN _ _ q8;exact Ad ⟨rfl,a3 I8 b5 w8⟩
 rw[o3];exact codeAny_compStart_dict a8 (T.self _ 0 _ _ _ c4 a8)
section
variable{X:Cx}{iter target kx vx:Expr}{ifs:List Expr}{scope:Scope}{pos:Pos}{wi:TI}{g:TG}{tt:TT}{tk tv:TE}
noncomputable def tSetDC(wi:TI)(g:TG)(tt:TT)(tk tv:TE)(tg:List Str)(caps:Caps)(i:Nat):TS:=λD' σ H=>wi σ H λJ H1=>∀D,H1 D=none->CompWD J g tt tk tv (tg0 tg σ caps) D (λ_ H'=>D'.nx (σ.set i (some (.ref D))) H') H1
def x4s{P E}(O)(f)(hN:X.N.Nodup)(Q:X.N[i]?=some y)(hx:Loc X.env.scope y)(hc:X.calm=true)(hi:PI X target iter wi)(hg:∀cl C j s H,PG (cxComp X (O++f.map (·.1)) scope cl C j s H) target g)(ht:∀cl C j s H,PIfs (cxComp X (O++f.map (·.1)) scope cl C j s H) ifs tt)(he:∀cl C j s H,PE (cxComp X (O++f.map (·.1)) scope cl C j s H) kx tk)(hv:∀cl C j s H,PE (cxComp X (O++f.map (·.1)) scope cl C j s H) vx tv)(hu:X.A.units+1<cLine)(hk:compChk X.N X.env.scope scope f=true:=by rfl)(hs:∀x,Fx iter X.env x=pure x:=by intro _;rfl)(R:Iw (.DictComp kx vx [⟨target,iter,ifs,0⟩] scope pos) (some (.Name y P)) E.line X.env=pure true:=by rfl)(hf:X.fn y=true\/X.env.scope.names.lookup y=some .local:=by trivial):
  PS X (.Assign [.Name y P] (.DictComp kx vx [⟨target,iter,ifs,0⟩] scope pos) E) (tSetDC wi g tt tk tv O f i):=by
 intro G s σ H D' I h;obtain⟨u,S,B,L,co⟩:=q4k hk;obtain⟨cl,M,U,W⟩:=q9w I L;rw[Tc _ _ _ _ R];refine Ac (Cw (Ac ?_));refine Ac (Bs (Il (use:=some (assign (.Name y P) X.env)) rfl hs M u B
  (thn (hi G s σ H _ I h) λv s1 h1=>thn h1 λa6 s2 h2=>?_)) (λ_ Y hq=>Ad (Ad hq)) λ_ _ e=>e)
 obtain⟨it,j,tn,J,H2,e,I2,T,Z,f2,hw⟩:=h2;subst e;refine x0u (RR:=λacc C=>compPost (model X.prog X.w) X.A X.xe (some (assign (.Name y P) X.env)) (λ_ Y=>SP X G D' .next Y) acc C) (Fin:=λD _ H'=>D'.nx (σ.set i (some (.ref D))) H') hc u S U W co (λC s H=>hg cl C j s H) (λC s H=>ht cl C j s H) (λC s H=>he cl C j s H) (λC s H=>hv cl C j s H) hu I2 T Z f2 hw ?_;intro D C ys H' Y hD I' hm F a0;obtain⟨m,hm⟩:=hm;refine Qj (q6w (v:=.ref D) I' hN Q hx rfl (λa1 a2 a3=>?_) hf);obtain⟨a,sb,ha⟩:=a3;have a4:C≠a:=by
  rcases ha with ha|ha
  ·rw[ha];exact F.2.1
  ·exact λz=>F.2.2.2.2.1 y a ha z.symm
 refine⟨m,hm.sameBut sb a4,λh' a5=>?_⟩;exact⟨_,H',a2.turned (t':=a1.toks) (λb o hb e=>(a5.2 b hb).trans e) F.1 F.2.1 F.2.2.2.1 F.2.2.2.2.1 F.2.2.2.2.2,a0⟩
end
def x4t{Fin}(f:Nat->List (List Key×V)->Hp->Prop)(C:f 0 [] (upd H1 D (.dT [])))(hl:∀i ys H,f i ys H->H D=some (.dT ys))(s:∀i ys H,i<n->f i ys H->J.go i H)(j:∀ys H,f n ys H->J.stop n H)(E:∀i ys H x H',i<n->f i ys H->J.yld i H x H'->g x σ0 H' λh F=>Keeps0 σ0 h/\tt h F λb B =>
   if b=true then tk h B λy G=>tv h G λv u=>∃k c,y=.ref c/\u c=some (.tup (k.map kV))/\u D=some (.dT ys)/\ys.length<sizeLine/\f (i+1) (putK ys k v) (upd u D (.dT (putK ys k v))) else f (i+1) ys B)(hd:∀ys H,f n ys H->Fin ys H):CompWD J g tt tk tv σ0 D Fin H1:=by
 refine⟨λi m ys H=>m=n-i/\i<=n/\f i ys H,⟨n,by simp,Ba _,C⟩,?_⟩;rintro i m ys H ⟨rfl,I,p⟩;refine⟨hl i ys H p,?_⟩;by_cases o:i<n
 ·exact .inr ⟨s i ys H o p,f (i+1),λL H' q=>⟨n-(i+1),by lia,rfl,o,q⟩,λx H' y=>E i ys H x H' o p y⟩
 ·have e:i=n:=by lia
  subst e;exact .inl ⟨j ys H p,hd ys H p⟩
def z8g{K}{Fin}(j:Nat->List (List Key×V)->Hp->Prop)(u:j 0 [] (upd H1 D (.dT [])))(hl:∀i ys H,j i ys H->H D=some (.dT ys)/\SqL K H a xs)(B:∀i ys H x,xs[i]?=some x->j i ys H->g x σ0 H λf C=>Keeps0 σ0 f/\tt f C λb s =>
   if b=true then tk f s λy E=>tv f E λv o=>∃k c,y=.ref c/\o c=some (.tup (k.map kV))/\o D=some (.dT ys)/\ys.length<sizeLine/\j (i+1) (putK ys k v) (upd o D (.dT (putK ys k v))) else j (i+1) ys s)(hd:∀ys H,j xs.length ys H->Fin ys H):CompWD (Itl K a) g tt tk tv σ0 D Fin H1 :=
 x4t j u (λi ys H p=>(hl i ys H p).1) (λi ys H h p=>⟨xs,xs[i],(hl i ys H p).2,by simp[h]⟩) (λys H p=>⟨xs,(hl _ ys H p).2,Aj _⟩)
  (λi ys H x F h p y=>by obtain⟨e,y⟩:=y;subst e;exact B i ys _ x (y xs (hl i ys _ p).2) p) hd
structure Mf (K) (C) (m qual) (st) (ps):Prop where
 ex:∃f fd,Fun K m qual st f fd/\Meth K C m f/\Binds K fd ps []
structure MCal (P) (w) (K) (mg) (base) (C) (m) (k) (ps) (sp):Prop where
 ex:∃f fd,FnOk P w K mg base CX0 k f fd ps sp/\Meth K C m f/\Binds K fd ps []
 cl:Cls K C
def Mf.cal{K}{st}(D:Mf K C m qual st ps)(cl:Cls K C)(S:FnScope N ps (defScope st))(len:∀vs H Q E,sp vs H Q E->vs.length=ps.length)(j:∀ f   g   A   outer   s   H   vs   Q   E ,Room k (A.deeper (Hy qual (defScope st) s.heap.objs.size f g))->sp vs H Q E ->
   ∃t,PSs (cxOf CX0 P w K mg base N qual (defScope st) f g A outer s H E).nox (defBody st) t/\t { nx:=λ_ H'=>Q .non H',rt:=Q } (start N vs) H):MCal P w K mg base C m (k+1) ps sp:=by
 obtain⟨f,fd,F,o,u⟩:=D.ex;exact⟨⟨f,fd,F.ok S len λg A outer s H vs Q E v h=>j f g A outer s H vs Q E v h,o,u⟩,cl⟩
section
variable{X:Cx}{C:Addr}{x m:Str}{k j:Nat}{ps:List Str}{sp:Sp}{p pos apos:Pos}{o e:Expr}{es:List Expr}{ta:TE}{t:TA}
def pe_m{v}(M:MCal X.prog X.w X.K X.mg X.base C m k ps sp)(B:Room j X.A)(D:PE X o ta)(ha:PA X (e::es) t)(g:k<=j:=by decide)(h:Bd (e::es) X.env=(false,eval e X.env)::Bd es X.env:=by rfl)(s:(El pos (Bd es X.env)).any (·.1)=false:=by rfl)(E:eval (.Call (.Attribute o m apos) (e::es) [] pos) X.env=(do
   let u<-eval o X.env
   Kq apos.atName
   let (f,first)<-Jl [u] (Nc u m v)
   Ud pos f first (El pos (Bd (e::es) X.env)) (Jy pos (Hj [] X.env))):=by rfl):PE X (.Call (.Attribute o m apos) (e::es) [] pos) (tMeth C m sp [] E0 ta t):=by
 obtain⟨f,fd,F,G,H⟩:=M.ex;exact x8j D M.cl G F (B.mono g) H .nil pass0 ha h s E
def pe_m0{s}(M:MCal X.prog X.w X.K X.mg X.base C m k ps sp)(u:Room j X.A)(v:PE X o ta)(g:k<=j:=by decide)(B:eval (.Call (.Attribute o m apos) [] [] pos) X.env=(do
   let h<-eval o X.env
   Kq apos.atName
   let (f,first)<-Jl [h] (Nc h m s)
   Ud pos f first (El pos (Bd [] X.env)) (Jy pos (Hj [] X.env))):=by rfl):PE X (.Call (.Attribute o m apos) [] [] pos) (tMeth C m sp [] E0 ta tNil):=by
 obtain⟨f,fd,F,D,E⟩:=M.ex;exact x3r v M.cl D F (u.mono g) E .nil pass0 B
end
structure Kf (K) (mg:Str->Option Value) (C) (x qual) (st) (ps):Prop where
 ex:∃(f:Addr) (fd:Li) (oc:Value) (od:Option Addr) (dV kV doc pm:Value) (an:Option Addr) (cdv ct:Value) (osl:Array (Option Value)),fd=Ij "__init__" qual (defArgs st) (defBody st) (defScope st) dV kV doc pm an cdv ct /\
  K.lookup f=some ⟨oc,od,.func fd,osl⟩/\Lk K cdv qual=true/\Mk K C f/\Binds K fd ps []/\Binds K fd ps [.bool false]
 at_:mg x=some (.ref C)
 cl:Cls K C
structure KCal (P) (w) (K) (mg) (base) (C) (x) (k) (ps) (sp):Prop where
 ex:∃f fd,FnOk P w K mg base CX0 k f fd ps sp/\Mk K C f/\Binds K fd ps []/\Binds K fd ps [.bool false]
 at_:mg x=some (.ref C)
 cl:Cls K C
def Kf.cal{K}{st}(D:Kf K mg C x qual st ps)(S:FnScope N ps (defScope st))(len:∀vs H Q E,sp vs H Q E->vs.length=ps.length)(j:∀ f   g   A   outer   s   H   vs   Q   E ,Room k (A.deeper (Hy qual (defScope st) s.heap.objs.size f g))->sp vs H Q E ->
   ∃t,PSs (cxOf CX0 P w K mg base N qual (defScope st) f g A outer s H E).nox (defBody st) t/\t { nx:=λ_ H'=>Q .non H',rt:=Q } (start N vs) H):KCal P w K mg base C x (k+1) ps sp:=by
 obtain⟨f,fd,oc,L,O,kV,v,pm,R,g,ct,B,rfl,F,o,M,G,I⟩:=D.ex;refine⟨⟨f,_,x8l F o S len λA outer s H vs Q E J u=>?_,M,G,I⟩,D.at_,D.cl⟩;obtain⟨t,h,q⟩:=j f g A outer s H vs Q E J u;exact⟨t,h.nox,q⟩
section
variable{X:Cx}{C:Addr}{x:Str}{k j:Nat}{ps:List Str}{sp:Sp}{p pos:Pos}{e:Expr}{es:List Expr}{t:TA}
def pe_k(M:KCal X.prog X.w X.K X.mg X.base C x k ps sp)(s:Room j X.A)(ha:PA X (e::es) t)(g:k+1<=j:=by decide)(u:Gl X x:=by rfl)(h:(x==("__debug__" : Str))=false:=by decide)(v:Bd (e::es) X.env=(false,eval e X.env)::Bd es X.env:=by rfl)(o:(El pos (Bd es X.env)).any (·.1)=false:=by rfl):PE X (.Call (.Name x p) (e::es) [] pos) (tMake C sp [] E0 t):=by
 obtain⟨f,fd,F,m,B,_⟩:=M.ex;exact x8k m F (s.mono g) u M.at_ B .nil pass0 ha h v o
end
def z3b{K}{g:TG}{tb:TS}{D:Ends}(j:Nat->St->Hp->Prop)(C:j 0 f H)(hl:∀i f H,j i f H->SqL K H a xs)(E:∀i x T f H,xs[i]?=some x->j i f H->H T=none->g (.ref T) f (upd H T (.tup [.int i,x])) λo u=>tb { D with nx:=j (i+1),ct:=j (i+1),bk:=D.nx } o u)(hd:∀f H,j xs.length f H->D.nx f H):
  ∃W:Nat->Nat->St->Hp->Prop,(∃m,W 0 m f H)/\∀i m f H,W i m f H ->
   ((Ite (Itl K a)).stop i H/\D.nx f H)\/((Ite (Itl K a)).go i H/\∃N,(∀s H',N s H'->∃B,B<m/\W (i+1) B s H')/\∀v H',(Ite (Itl K a)).yld i H v H'->g v f H' λo u=>tb { D with nx:=N,ct:=N,bk:=D.nx } o u):=by
 refine z2j j C (λi f H h p=>⟨xs,xs[i],hl i f H p,by simp[h]⟩) (λf H p=>⟨xs,hl _ f H p,Aj _⟩) (λi v f H H' h p F=>?_) hd;obtain⟨T,y,G,⟨_,I⟩,rfl,rfl⟩:=F;exact E i y T f H (I xs (hl i f H p)) p G
noncomputable def rCatP:R2:=λx y H Q=>∃a b xs ys,x=.ref a/\y=.ref b/\H a=some (.tup xs)/\H b=some (.tup ys)/\xs.length+ys.length<=sizeLine/\∀p H',Same H H'->H' p=some (.tup (xs++ys))->(∀c,c≠p->H' c=H c)->Q (.ref p) H'
def z4v:OpR X (Gr .Add) rCatP:=by
 intro M s σ H x y v u Q I Y Z h;obtain⟨a,b,xs,ys,rfl,rfl,ha,O,P,q⟩:=h;cases Y;cases Z;obtain⟨za,f,o,R⟩:=I.hok a _ ha;obtain⟨zb,g,B,S⟩:=I.hok b _ O;by_cases C:f=[]
 ·have hx':xs=[]:=o.nil_iff.mp C;obtain⟨⟨cls,dd,T,sl⟩,U,D,n,hd⟩:=id R;obtain⟨⟨W,E,F,G⟩,j,J,n2,L⟩:=id S;subst D hd J L;refine Vk ⟨_,U,rfl⟩ ⟨_,j,rfl⟩ Rb Um Mn Mc (Ll _ _) (tuple_addW0 a b f.toArray g.toArray n n2 dd E sl G (by simp[C])) ⟨U,j,?_⟩;exact⟨.ref b,H,I,rfl,q b H (Same.refl H) (by rw[hx',Og];exact O) λ_ _=>rfl⟩
 ·refine HT.cat_tup R S C (λz=>?_) (λz=>?_) (by rw[<- o.length,<- B.length];exact P)
  ·have hy:ys=[]:=B.nil_iff.mp z;exact⟨.ref a,H,I,rfl,q a H (Same.refl H) (by rw[hy,Cd];exact ha) λ_ _=>rfl⟩
  ·refine⟨.ref s.heap.objs.size,_,I.laid (t':=s.toks) (λb ob q=>Ag _ q) (Aj _) ?_,rfl,q _ _ ((Same.refl H).new I.fresh) q0c λc D=>q0g D⟩;exact⟨by rw[Af];exact P,_,o.append B,Yh _ _⟩
def z8h(K)(h:X.K=K)(j:PE X e g)(o:Fs e f X.env (eval e X.env)=eval e X.env:=by rfl):PE X (.Attribute e f pos) (tFld K g f):=by subst h;exact pe_fld j o
def x7d(K)(u:X.K=K)(ha:PE X o j)(v:PE X g s)(B:Iw g (some (.Attribute o f h)) pos.line X.env=pure false:=by rfl):PS X (.Assign [.Attribute o f h] g pos) (sFld K j s f):=by subst u;exact ps_fld ha v B
end L2
namespace HM
open PySem PySem.Spec PyProof.Rows L2 TX SB
noncomputable def NSs:Str:=Ab "abcdefghijklmnopqrstuvwxyzABCDEFGHIJKLMNOPQRSTUVWXYZ0123456789-_."
noncomputable abbrev NS:List Nat:=tl NSs
def x0v:∀c∈NS,c<128:=by trivial
structure okN (n:List Nat):Prop where
 one:1<=n.length
 few:n.length<=12
 all:∀c∈n,c∈NS
def okN.low(h:okN n):∀c∈n,c<128:=λc f=>x0v c (h.all c f)
structure okP (p:Pth):Prop where
 ne:p≠[]
 few:p.length<=6
 all:∀n∈p,okN n
def okP.low(h:okP p):Low p:=λn hn=>(h.all n hn).low
noncomputable abbrev Rw:=Pth×Option Int
noncomputable def mV:Option Int->V
 |none=>.non
 |some i=>.int i
noncomputable def rR(r:Rw):HRow:=(r.1,mV r.2)
def mV_inj(h:mV a=mV b):a=b:=by
 cases a with
 |none=>cases b with
  |none=>rfl
  |some j=>cases h
 |some i=>cases b with
  |none=>cases h
  |some j=>cases h;rfl
def mV_none:mV a=.non↔a=none:=⟨λh=>mV_inj (b:=none) h,λh=>by rw[h];rfl⟩
noncomputable def lowN(n:List Nat):List Nat:=n.map lo1
noncomputable def fold(bl:Bool)(p:Pth):Pth:=if bl then p.dropLast++[lowN (p.getLastD [])] else p
def x7e(p):fold false p=p:=rfl
def x7f(p):fold true p=p.dropLast++[lowN (p.getLastD [])]:=rfl
def x0w{p:Pth}(h:p≠[]):p=p.dropLast++[p.getLastD []]:=by
 have e:=Ed h;have f:p.getLastD []=p.getLast h:=by rw[Lc,Ji h];rfl
 rw[f];exact e.symm
def x0x{p q:Pth}(f:p≠[])(g:q≠[]):fold bl p=fold bl q↔p.dropLast=q.dropLast/\(if bl then lowN (p.getLastD [])=lowN (q.getLastD []) else p.getLastD []=q.getLastD []):=by
 cases bl with
 |true =>
  rw[x7f,x7f];constructor
  ·simp_all
  ·simp_all
 |false =>
  rw[x7e,x7e];constructor
  ·grind
  ·rintro⟨h,j⟩;rw[x0w f,x0w g,h,j]
def q4q{H:Hp}(e:H x=u)(h:H y=v)(n:u≠v:=by nofun):x≠y:=λz=>n (by rw[<- e,z,h])
def refAt{g:Type}{zs:List (Addr×g)}{i:Nat}(f:(zs.map λz=>V.ref z.1)[i]?=some v):∃z,zs[i]?=some z/\v=.ref z.1:=by
 rw[Be] at f;obtain⟨z,h,e⟩:=Bh.mp f;exact⟨z,h,e.symm⟩
def keyAt{g:Type}{zs:List g}{f:g->HRow}{i:Nat}(j:((zs.map f).map λr=>(kP r.1,r.2))[i]?=some (k,v)):∃z,zs[i]?=some z/\k=kP (f z).1/\v=(f z).2:=by
 rw[Be,Be] at j;obtain⟨r,h,e⟩:=Bh.mp j;obtain⟨z,o,rfl⟩:=Bh.mp h;cases e;exact⟨z,o,rfl,rfl⟩
structure Hl (bl) (rows:List Rw):Prop where
 ok:∀r∈rows,okP r.1
 nd:(rows.map λr=>fold bl r.1).Nodup
 dr:∀r∈rows,r.1.dropLast=[]\/(r.1.dropLast,none)∈rows
def Hl.nil(bl):Hl bl []:=⟨(λ_ h=>nomatch h),.nil,(λ_ h=>nomatch h)⟩
theorem q6d{g j:Type}{f:g->j}:∀{l:List g},(l.map f).Nodup->l.Nodup
 |[],_=>.nil
 |a::l,h=>by
  rw[Am,Eu] at h;exact Eu.mpr ⟨λz=>h.1 (Az.mpr ⟨a,z,rfl⟩),q6d h.2⟩
def Hl.paths(h:Hl bl rows):(rows.map (·.1)).Nodup:=by
 have e:rows.map (λr=>fold bl r.1)=(rows.map (·.1)).map (fold bl):=by simp_all
 have:=h.nd;rw[e] at this;exact q6d this
noncomputable abbrev Zr:=Addr×Rw
structure RL (H:Hp) (L) (zs:List Zr):Prop where
 at_:H L=some (.lst (zs.map λz=>V.ref z.1))
 pr:∀z∈zs,PR H z.1 (rR z.2)
def PR.same(h:PR H a r)(k:∀T xs,H T=some (.tup xs)->H' T=some (.tup xs)):PR H' a r:=by obtain⟨b,f,g⟩:=h;exact⟨b,k _ _ f,k _ _ g⟩
def RL.same(h:RL H L zs)(s:Same H H'):RL H' L zs:=⟨s _ _ h.at_,λz f=>PR.same (h.pr z f) λT g e=>s _ _ e⟩
def tupFd(F:FeedAt H a b)(fd:Fd a b H H'):∀T xs,H T=some (.tup xs)->H' T=some (.tup xs):=λT xs e=>fd.at e λz=>by
 subst z;obtain⟨i,j,q⟩:=F.fa;rw[q] at e;cases e
def RL.fd(h:RL H L zs)(F:FeedAt H a b)(fd:Fd a b H H')(f:L≠a):RL H' L zs:=⟨fd.at h.at_ f,λz g=>PR.same (h.pr z g) (tupFd F fd)⟩
theorem zs_of:∀{as} {rs} {rows},PRs H as rs->rs=rows.map rR->∃zs:List Zr,zs.map (·.1)=as/\zs.map (·.2)=rows/\∀z∈zs,PR H z.1 (rR z.2)
 |_,_,[],.nil,_=>⟨[],rfl,rfl,(λ_ h=>nomatch h)⟩
 |_,_,_::_,.nil,e=>by cases e
 |_,_,[],.cons _ _,e=>by cases e
 |a::as,_,r::rows,.cons h t,e=>by
  rw[Am] at e;injection e with e1 e2;obtain⟨zs,g,j,o⟩:=zs_of t e2;refine⟨(a,r)::zs,by rw[Am,g],by rw[Am,j],λz f=>?_⟩;rcases Av.mp f with rfl|f
  ·rw[<- e1];exact h
  ·exact o z f
theorem q7s:∀{l m:List Pth},l.Perm m->l.Nodup->l.Pairwise (λa b=>pLt b a=false)->m.Pairwise (λa b=>pLt b a=false)->l=m
 |[],m,p,_,_,_=>(List.perm_nil.mp p.symm).symm
 |a::l,[],p,_,_,_=>absurd (p.length_eq) (by simp)
 |a::l,b::m,p,nd,h1,h2=>by
  obtain⟨u,g⟩:=Eu.mp nd;obtain⟨h,j⟩:=Lp.mp h1;obtain⟨o,s⟩:=Lp.mp h2;have e:a=b:=by
   have ha:=p.mem_iff.mp Al;have f:=p.mem_iff.mpr Al;rcases Av.mp ha with e|ha
   ·exact e
   ·rcases Av.mp f with e|f
    ·exact e.symm
    ·exact z4t (o a ha) (h b f)
  subst e;rw[q7s ((List.perm_cons a).mp p) g j s]
theorem z6o{K}:∀p,Dts K H (vP p) (dP p)
 |[]=>.nil
 |n::p=>.cons (.str _) (z6o p)
def q3x{K}(h:H a=some (.tup (vP p))):Dt K H (.ref a) (.tuple (dP p)):=.tup (SqT.of h) (z6o p)
def z0e(h:Low p):(Ce.tuple (dP p)).canLay0=true:=by simp only[Dm,q6c h]
def z3c(p):(Ce.tuple (dP p)).depth<=2:=by
 have f:(Ce.tuple (dP p)).depth=Gn (dP p)+1:=by simp only[Pr]
 have:=q3f p;lia
def z3d(p q):Dg (.tuple (dP p)) (.tuple (dP q))=decide (p=q):=by simp only[Dg,q7r]
def z0f{K}(ha:H a=some (.tup (vP p)))(f:H b=some (.tup (vP q)))(g:Low p)(h:Low q)(k:Q (.bl (!decide (p=q))) H):rNeU K (.ref a) (.ref b) H Q:=by
 refine .inr ⟨_,_,q3x ha,q3x f,z0e g,z0e h,by have:=z3c p;lia,?_⟩;rw[z3d];exact k
def z3e{K}(ha:H a=some (.tup (vP p)))(f:H b=some (.tup (vP q)))(g:Low p)(h:Low q)(k:Q (.bl (decide (p=q))) H):rEqU K (.ref a) (.ref b) H Q:=by
 refine .inr ⟨_,_,q3x ha,q3x f,z0e g,z0e h,by have:=z3c p;lia,?_⟩;rw[z3d];exact k
def x7g(e:H a=some (dR rs))(f:H b=some (.tup (vP p))):DGet H a (.ref b) (valV (rs.map λr=>(kP r.1,r.2)) (kP p)) :=
 .inr ⟨_,kP p,b,.inl e,rfl,by rw[z2y];exact f,rfl⟩
end HM
namespace HT
open PySem PyProof.Rows
section
variable{prog:Aq}{w:World}{A:Around}{E:Value->Ah->Prop}{s:Ah}
def getItem_tuple_whole{lo}(f:IsTup s.heap t items)(u:s.heap.IsSliceOf sl vl vu .none)(B:Mo vl lo)(C:Mo vu hi)(v:sIx items.size 0 lo=0/\sIx items.size items.size hi=items.size)(h:Q (.ref t) s):wpAny (model prog w) A (getItem (.ref t) (.ref sl)) Q E s:=by
 obtain⟨os,g,j,D⟩:=id u;have o:s.TypeIs (.ref sl) "slice" := ⟨os,g,j⟩
 unfold getItem;try with_reducible refine Dh ?_
 refine Ac (Wb f.typeIs (by decide) ?_);refine Ac (Cj f.typeIs Ej
  (Cb Ej f.typeIs entry_tuple_getitem ?_ (Vm _ _)))
 show wpAny _ _ (Ko (.ref t) >>= _) _ _ s;refine Ac (tupleItemsOf_ f ?_);refine Ac (Jn o ?_);refine Ac (q3s u B C ?_);show wpAny _ _ (if (((sIx items.size 0 lo:Nat):Int)==0&&(1:Int)==1&&(sIx items.size items.size hi-sIx items.size 0 lo)==items.size)=true then _ else _) _ _ s;rw[if_pos (by rw[v.1,v.2];simp)];refine Ac (Ac (Jn f.typeIs (Ad ?_)));exact Ac (Ge (Ad ⟨_,rfl,Ad h⟩))
end
end HT
namespace L2
open PySem PySem.Spec PyProof.Rows
noncomputable def rSlP:V->Option Int->Option Int->Hp->VK->Prop:=λx lo hi H Q=>∃a xs,x=.ref a/\H a=some (.tup xs)/\∀c H',Same H H'->H' c=some (.tup (cutV xs lo hi))->Q (.ref c) H'
def sl_P:SlR X rSlP:=by
 intro g s L H x v M O lo C P Q I D E F G h;obtain⟨a,f,rfl,u,q⟩:=h;by_cases o:HT.sIx f.length 0 lo=0/\HT.sIx f.length f.length C=f.length
 ·cases D;obtain⟨B,r,J,S⟩:=I.tuple (SqT.of u);have j:B.toArray.size=f.length:=by rw[Bg];exact r.length.symm
  refine⟨"tuple",_,Ej.lookup,J.typeIs,?_⟩;refine HT.getItem_tuple_whole J E F G (by rw[j];exact o) ⟨.ref a,H,I,rfl,q a H (Same.refl H) ?_⟩;unfold cutV;rw[o.1,o.2,Mb,Lo,Ci];exact u
 ·exact x6r g s L H _ v M O lo C P Q I D E F G ⟨a,f,rfl,SqT.of u,o,λp R=>q p _ ((Same.refl H).new R) q0c⟩
end L2
namespace HM
open PySem PySem.Spec PyProof.Rows L2 TX SB
noncomputable abbrev Mv:=Pth×Pth
section
variable{bl:Bool}
noncomputable def tb(ms:List Mv):List Mv:=ms.reverse.map λm=>(m.2,m.1)
end
noncomputable def MT(H:Hp)(T:Addr)(m:Mv):Prop:=∃A B,H T=some (.tup [.ref A,.ref B])/\H A=some (.tup (vP m.1))/\H B=some (.tup (vP m.2))
noncomputable abbrev Zm:=Addr×Mv
structure ML (H:Hp) (L) (zs:List Zm):Prop where
 at_:H L=some (.lst (zs.map λz=>V.ref z.1))
 pr:∀z∈zs,MT H z.1 z.2
def MT.keep(h:MT H T m)(k:∀T xs,H T=some (.tup xs)->H' T=some (.tup xs)):MT H' T m:=by obtain⟨A,B,f,g,j⟩:=h;exact⟨A,B,k _ _ f,k _ _ g,k _ _ j⟩
def ML.same(h:ML H L zs)(s:Same H H'):ML H' L zs:=⟨s _ _ h.at_,λz f=>(h.pr z f).keep λT g e=>s _ _ e⟩
def ML.nil(h:H L=some (.lst [])):ML H L []:=⟨h,λ_ z=>nomatch z⟩
end HM
namespace L2
open PySem PySem.Spec PyProof.Rows
section
variable{M:Model}{A:Around}{E:Value->Ah->Prop}{s:Ah}
noncomputable def TbAt(h:Heap)(e:Addr)(vs:Array Value)(T:Addr)(fl:Value):Prop:=vs[1]?=some (.ref T)/\T≠e/\∃oT ts,h.get? T=some oT/\oT.data=.fields ts/\ts[3]?=some fl
noncomputable def TbOk(L:Addr)(h:Heap)(e:Addr)(vs:Array Value):Prop:=vs[1]?=some .none\/∃T,TbAt h e vs T .none\/TbAt h e vs T (Es L)
structure LeftX (fr:List Addr) (e:Addr) (oe:Obj) (vs:Array Value) (fl) (h h':Heap):Prop where
 ex:∃T,(h.objs.size<=T\/vs[1]?=some (.ref T))/\T≠e/\h'.get? e=some (oe.mapFields (·.setIfInBounds 1 (.ref T)))/\∃oT ts,h'.get? T=some oT/\oT.data=.fields ts/\ts[3]?=some fl
 keep:∀b o,h.get? b=some o->b≠e->vs[1]?≠some (.ref b)->b∉fr->h'.get? b=some o
 slot:∀b o,h.get? b=some o->b∈fr->∃sl,h'.get? b=some { o with slots:=sl }
def z3f{f:Obj}(hd:f.data=.fields vs)(g:vs[1]?=some x):f.mapFields (·.setIfInBounds 1 x)=f:=by
 obtain⟨c,d,dt,h⟩:=f;cases hd;have e:vs.setIfInBounds 1 x=vs:=by
  have j:=(Ff.mp g)
  obtain⟨o,u⟩:=j;apply Array.ext
  ·simp
  ·intro i v s;rw[Array.getElem_setIfInBounds (by simpa using s)];split
   ·grind
   ·rfl
 show(⟨c,d,.fields (vs.setIfInBounds 1 x),h⟩:Obj)=_;rw[e]
theorem entryX
  (P:A.frames=some (env::outer))(hl:s.heap.FunFrames base (env::outer))(hf:env.frame=some L)(Y:s.heap.get? e=some oe)(hd:oe.data=.fields vs)(R:1<vs.size)(h:∀h',(∃T,s.heap.objs.size<=T/\h'.get? e=some (oe.mapFields (·.setIfInBounds 1 (.ref T)))/\∃Z ts,h'.get? T=some Z/\Z.data=.fields ts/\ts[3]?=some (Es L)) ->
   (∀b o,s.heap.get? b=some o->b≠e->b∉(env::outer).filterMap (·.frame)->h'.get? b=some o) ->
   (∀b o,s.heap.get? b=some o->b∈(env::outer).filterMap (·.frame)->∃S,h'.get? b=some { o with slots:=S })->Q () { s with heap:=h' }):
  wpAny M A (do let a<-frameOf env;let I<-entryPlaceOf L hadNext;let b<-EntryCells.newEntry head a .none (Es L) .none I;setField (.ref e) 1 b) Q E s:=by
 have B:e∉(env::outer).filterMap (·.frame):=λhm=>by
  obtain⟨_,o,O,U⟩:=hl.mem hm;rw[Y] at O;injection O with O;subst O;exact U vs hd
 refine Ac (wpAny_frameOf_fun P hl hf λf g=>?_);refine Ac (wpAny_entryPlaceOf λI J=>?_);refine Ac (Cf ?_ (J.sizeOk5 _ _ _ _ _));have u:=(g.2.1 e B).trans Y;have v:=Ag { cls:=.type "traceback",dict:=none,data:=.fields ([head,.ref L,.none,Es L,.none]++(if I.isEmpty then List.replicate 6 Value.none else I)).toArray } u;have W:=Ez (As u);have C:=Fq hd (·.setIfInBounds 1 (Value.ref f.objs.size));have D:=Fo (Gf (·.setIfInBounds 1 (Value.ref f.objs.size))) v (Js C);have F:=(Cm (f.push { cls:=.type "traceback",dict:=none,data:=.fields ([head,.ref L,.none,Es L,.none]++(if I.isEmpty then List.replicate 6 Value.none else I)).toArray })
  (Gf (·.setIfInBounds 1 (Value.ref f.objs.size))) (Cp W)).trans (Aw f rfl)
 refine Hf v hd R (h _ ⟨f.objs.size,by rw[g.1];exact Aj _,D,_,_,F,rfl,by first|(simp;done)|(rcases J with rfl|⟨_,_,_,_,_,_,_,rfl⟩<;>simp)⟩ ?_ ?_)
 ·intro b o X G H;have j:=(g.2.1 b H).trans X;rw[Cm _ _ (Cp G)];exact Ag _ j
 ·intro b o X H;have G:b≠e:=λz=>B (z▸H);obtain⟨S,j⟩:=g.2.2 b o X;refine⟨S,?_⟩;rw[Cm _ _ (Cp G)];exact Ag _ j
theorem noteX
  (P:A.frames=some (env::outer))(hl:s.heap.FunFrames base (env::outer))(W:env.frame=some L)(G:s.heap.get? e=some oe)(hd:oe.data=.fields vs)(ht:TbOk L s.heap e vs)(h:∀h',LeftX ((env::outer).filterMap (·.frame)) e oe vs (Es L) s.heap h'->Q () { s with heap:=h' }):wpAny M A (noteFrame (.ref e) env) Q E s:=by
 have F:=As G;unfold noteFrame;simp only[W];rcases ht with B|⟨T,⟨B,H,oT,S,I,g,R⟩|⟨B,H,oT,S,I,g,R⟩⟩
 ·refine Ac (Br G hd B ?_);refine entryX P hl W G hd (Ff.mp B).1 λh' ⟨T,O,X,Y⟩ b c=>h h' ⟨⟨T,.inl O,λz=>absurd F (Kj.mpr (z▸O)),X,Y⟩,λx o C J _ j=>b x o C J j,c⟩
 ·refine Ac (Br G hd B ?_);refine Ac (Br I g R ?_);refine Ac (Hf I g (Ff.mp R).1 ?_);have f:∀b,b≠T->(s.heap.update T (Gf (·.setIfInBounds 3 Value.none))).get? b=s.heap.get? b:=λb D=>Cm _ _ (Cp D);have u:∀b o,s.heap.get? b=some o->(∀vs,o.data≠.fields vs)->b≠T:=λb o D v q=>by
   rw[q,I] at D;injection D with D;subst D;exact v S g
  have Z:T∉(env::outer).filterMap (·.frame):=λhm=>by
   obtain⟨_,o,U,v⟩:=hl.mem hm;rw[I] at U;injection U with U;subst U;exact v S g
  have a0:(s.heap.update T (Gf (·.setIfInBounds 3 Value.none))).objs.size=s.heap.objs.size:=by simp_all
  refine entryX P (hl.of_keeps λb o D v=>⟨o,(f b (u b o D v)).trans D,rfl⟩) W ((f e (Cp H)).trans G) hd (Ff.mp B).1 λh' a b c=>h h' ⟨?_,λx o C J a1 j=>?_,λx o C j=>?_⟩
  ·obtain⟨T',O,X,Y⟩:=a;rw[a0] at O;exact⟨T',.inl O,λz=>absurd F (Kj.mpr (z▸O)),X,Y⟩
  ·exact b x o ((f x λz=>a1 (by rw[z];exact B)).trans C) J j
  ·exact c x o ((f x λz=>Z (z▸j)).trans C) j
 ·refine Ac (Br G hd B ?_);refine Ac (Br I g R ?_);rw[if_pos (show(Es L==Es L)=true from by simp)];refine Ad (h s.heap ⟨⟨T,.inr B,H,by rw[z3f hd B];exact G,oT,S,I,g,R⟩,λx o C _ _ _=>C,λx o C _=>⟨o.slots,C⟩⟩)
def flightX(G:s.heap.get? e=some oe)(hd:oe.data=.fields vs)(J:TbAt s.heap e vs T fl)(B:T∉fr)(h:∀h',LeftX fr e oe vs (f.elim .none λf=>Es f) s.heap h'->Q () { s with heap:=h' }):wpAny M A (setFlight (.ref e) f) Q E s:=by
 obtain⟨v,u,O,P,H,j,I⟩:=J;have g:∀b,b≠T->(s.heap.update T (Gf (·.setIfInBounds 3 (f.elim Value.none λf=>Es f)))).get? b=s.heap.get? b:=λb L=>Cm _ _ (Cp L)
 refine Ac (Br G hd v ?_);refine Hf H j (Ff.mp I).1 (h _ ⟨⟨T,.inr v,u,?_,_,_,Fo _ H (Js (Fq j _)),Fq j _,?_⟩,λx o C _ D _=>?_,λx o C F=>?_⟩)
 ·rw[z3f hd v,g e (Cp u)];exact G
 ·simp[(Ff.mp I).1]
 ·rw[g x λz=>D (by rw[z];exact v)];exact C
 ·rw[g x λz=>B (z▸F)];exact⟨o.slots,C⟩
end
noncomputable def ExO(C:Value)(dd:Option Addr)(e:Addr):HO:=.ext λh=>∃vs sl,h.get? e=some { cls:=C,dict:=dd,data:=.fields vs,slots:=sl }/\vs.size=6
structure FlX (X:Cx) (pins) (H:Hp) (s:Ah) (e):Prop where
 at_:∃C dd,H e=some (ExO C dd e)
 tb:∃oe vs,s.heap.get? e=some oe/\oe.data=.fields vs/\TbOk X.env.locals s.heap e vs/\∀T,vs[1]?=some (.ref T)->X.s₀.heap.objs.size<=T/\H T=none/\T≠X.env.locals/\(∀x c,X.env.cells.lookup x=some c->c≠T)/\∀p∈X.pn++pins,p.1≠T
 new:X.s₀.heap.objs.size<=e
section
variable{X:Cx}{pins:List (Addr×Obj)}{σ:St}{H:Hp}{s:Ah}{e:Addr}{oe:Obj}{vs:Array Value}{fl:Value}{h':Heap}
noncomputable def chOf(vs:Array Value):List Addr:=match vs[(1:Nat)]? with|some (Value.ref T)=>[T]|_=>[]
def chOf_mem:b∈chOf vs↔vs[(1:Nat)]?=some (Value.ref b):=by
 unfold chOf;constructor
 ·intro h;split at h
  ·simp_all
  ·cases h
 ·simp_all
def Inv.leftX(I:Inv X pins σ H s)(F:FlX X pins H s e)(he:s.heap.get? e=some oe)(hd:oe.data=.fields vs)(a2:fl=.none\/fl=Es X.env.locals)(W:∀T,vs[1]?=some (.ref T)->X.s₀.heap.objs.size<=T/\H T=none/\T≠X.env.locals/\(∀x c,X.env.cells.lookup x=some c->c≠T)/\∀p∈X.pn++pins,p.1≠T)(L:LeftX (frs X.stack) e oe vs fl s.heap h'):Inv X pins σ H { s with heap:=h' }/\FlX X pins H { s with heap:=h' } e/\∃E G T,h'.get? e=some E/\E.data=.fields G/\TbAt h' e G T fl:=by
 obtain⟨C,dd,J⟩:=F.at_;obtain⟨B,M,O,g,oT,ts,q1,q2,q3⟩:=L.ex;have Y:∀b,H b=none->b≠e:=λb h z=>by rw[z,J] at h;cases h
 have un:Un (frs X.stack) (chOf vs) H H s.heap h':=⟨λb o f n Z S=>L.keep b o f (Y b n) (λz=>S (chOf_mem.mpr z)) Z,λb o f n Z S=>L.slot b o f Z,λ_ _ _ n _=>n,λb o f S=>by
   by_cases z:b=e
   ·simp_all
   ·by_cases y:b∈frs X.stack
    ·obtain⟨U,k⟩:=L.slot b o f y;exact⟨_,k⟩
    ·exact⟨o,L.keep b o f z (λx=>S (chOf_mem.mpr x)) y⟩,
  λ_ _ q=>q,λ_ _ _ q=>q,λ_ ps q=>⟨#[],by rw[q];simp⟩⟩
 have j:vs.size=6/\oe.cls=C/\oe.dict=dd:=by
  obtain⟨⟨a6,U,z,z6⟩,_,_⟩:=I.hok e _ J;rw[he] at z;cases z;cases hd;exact⟨z6,rfl,rfl⟩
 have hok:HOk X.prog X.w H h':=λa o ha=>by
  by_cases z:a=e
  ·subst z;rw[J] at ha;cases ha;refine⟨⟨vs.setIfInBounds 1 (.ref B),oe.slots,?_,by simpa using j.1⟩,⟨_,g⟩,λh1 h2 ⟨ws,U,k1,k2⟩ k=>⟨ws,U,k _ k1,k2⟩⟩;rw[g];obtain⟨c,d,dt,U⟩:=oe;cases hd;obtain⟨_,rfl,rfl⟩:=j;rfl
  ·refine(I.hok a o ha).stay (λb u f hu=>?_) (λ_ q=>q) λ_ _ q=>q;have D:H b≠none/\b≠e:=by
    rcases f with rfl|f
    ·grind
    ·refine⟨by rw[f];simp,λy=>?_⟩;rw[y,J] at f;cases f
   exact L.keep b u hu D.2 (λy=>D.1 (W b y).2.1) λy=>D.1 (I.stkFree b y)
 have a0:∀b∈chOf vs,(b∈X.ex\/X.s₀.heap.objs.size<=b)/\b≠X.env.locals/\(∀x c,X.env.cells.lookup x=some c->c≠b)/\∀p∈X.pn++pins,p.1≠b:=λb f=>by
  obtain⟨a1,_,a3,a4,a5⟩:=W b (chOf_mem.mp f);exact⟨.inr a1,a3,a4,a5⟩
 have I':Inv X pins σ H { s with heap:=h' }:=I.call' (s':={ s with heap:=h' }) rfl un hok I.bare a0;have hd':=Fq hd (·.setIfInBounds 1 (Value.ref B));have P:1<vs.size:=by grind
 have Q:TbAt h' e (vs.setIfInBounds 1 (.ref B)) B fl:=⟨by simp[P],O,oT,ts,q1,q2,q3⟩
 refine⟨I',⟨⟨C,dd,J⟩,⟨_,_,g,hd',.inr ⟨B,?_⟩,λT R=>?_⟩,F.new⟩,_,_,B,g,hd',Q⟩
 ·lia
 ·have:T=B:=by
   have z:=Q.1;rw[z] at R;injection R with y;injection y with y;exact y.symm
  subst this;rcases M with k|k
  ·refine⟨Ay I.sz k,I.hok.fresh k,λz=>absurd I.lt (Kj.mpr (z▸k)),λx c hx z=>?_,λp hp z=>?_⟩
   ·obtain⟨v,o,ho,_⟩:=I.cell x c hx;exact absurd (As ho) (Kj.mpr (z▸k))
   ·obtain⟨ho,_⟩:=I.pin p hp;exact absurd (As ho) (Kj.mpr (z▸k))
  ·exact W T k
noncomputable def XE(X:Cx)(J:Addr->St->Hp->Prop)(e:Value)(s:Ah):Prop:=∃pins σ H ea,e=.ref ea/\Inv X pins σ H s/\FlX X pins H s ea/\J ea σ H
def x7h(f:X.stack=X.env::X.outer):frs X.stack=(X.env::X.outer).filterMap (·.frame):=by rw[f];rfl
def passX(f:X.stack=X.env::X.outer)(P:X.env.frame=some X.env.locals):Ve (model X.prog X.w) X.A X.env (XE X J):=by
 rintro e W ⟨g,Y,H,Z,rfl,I,F,j⟩;obtain⟨oe,vs,Q,hd,ht,hT⟩:=F.tb;have B:X.A.frames=some (X.env::X.outer):=by rw[<- f];exact I.ok.frames
 have hl:W.heap.FunFrames X.base (X.env::X.outer):=by rw[<- f];exact I.stack
 refine noteX B hl P Q hd ht λh1 R=>?_;rw[<- x7h f] at R;obtain⟨S,T,C,D,T1,E,G,L⟩:=I.leftX F Q hd (.inr rfl) hT R;refine Ac (Br E G L.1 ?_);have h:T1∉frs X.stack:=λhm=>by
  obtain⟨_,_,oT,ts,q1,q2,_⟩:=L;obtain⟨_,o,v,M⟩:=S.stack.mem hm;rw[q1] at v;injection v with v;subst v;exact M ts q2
 obtain⟨s,u,a0,a1,_,O⟩:=T.tb;have q:s=C/\u=D:=by grind
 obtain⟨rfl,rfl⟩:=q;refine flightX E G L h λh2 U=>?_
 rw[P] at U;obtain⟨I2,F2,_⟩:=S.leftX T E G (.inr rfl) O U;exact⟨g,Y,H,Z,rfl,I2,F2,j⟩
end
noncomputable def CXR(P:Aq)(w:World):CXT:=λouter H s E e s'=>∃ea H',e=.ref ea/\s'.os=s.os/\Lw s'.gens/\Un (frs outer) [] H H' s.heap s'.heap/\HOk P w H' s'.heap/\s.heap.objs.size<=ea/\(∃C dd,H' ea=some (ExO C dd ea)) /\
 (∃oe vs,s'.heap.get? ea=some oe/\oe.data=.fields vs/\(vs[1]?=some .none\/∃T,TbAt s'.heap ea vs T .none)/\∀T,vs[1]?=some (.ref T)->s.heap.objs.size<=T/\H' T=none)/\E (.ref ea) none H'
section
variable{X:Cx}{J J':Addr->St->Hp->Prop}{E:Value->Ah->Prop}{e:Value}{s:Ah}
def FlX.unwish(F:FlX (X.wish E) pins H s ea):FlX X pins H s ea:=⟨F.at_,F.tb,F.new⟩
def XE.unwish(h:XE (X.wish E) J e s):XE X J e s:=by
 obtain⟨f,g,H,o,rfl,I,F,j⟩:=h;exact⟨f,g,H,o,rfl,I.unwish,F.unwish,j⟩
structure AccX (X) (J):Prop where
 acc:∀e s,XE X J e s->X.xe e s
def AccX.of:AccX (X.wish (XE X J)) J:=⟨λ_ _ h=>h.unwish⟩
def PSs.wishX{st}(g:∀e s,E e s->X.xe e s)(h:PSs (X.wish E) st t):PSs X st t:=λf s j H D I o =>
 Bs (h f s j H D (I.wish _) o) (λ_ _ q=>q.unwish) g
def leaves{K}(h:XE (cxOf (CXR P w) P w K mg base N qual scope f cd A outer s₀ H₀ E₀) (λL _ H'=>E₀ (.ref L) none H') e s):(cxOf (CXR P w) P w K mg base N qual scope f cd A outer s₀ H₀ E₀).xe e s:=by
 obtain⟨X,σ,H,L,rfl,I,F,j⟩:=h;obtain⟨oe,vs,Y,hd,ht,hT⟩:=F.tb;refine Ac (noteX I.ok.frames I.stack rfl Y hd ht λh1 L1=>?_);obtain⟨Z,F1,M,O,T1,e1,d1,t1⟩:=I.leftX F Y hd (.inr rfl) hT L1;have g:T1∉frs (cxOf (CXR P w) P w K mg base N qual scope f cd A outer s₀ H₀ E₀).stack:=λhm=>by
  obtain⟨_,_,oT,ts,q1,q2,_⟩:=t1;obtain⟨_,o,G,Q⟩:=Z.stack.mem hm;rw[q1] at G;injection G with G;subst G;exact Q ts q2
 obtain⟨u,v,a0,a1,_,R⟩:=F1.tb;have q:u=M/\v=O:=by grind
 obtain⟨rfl,rfl⟩:=q;refine flightX e1 d1 t1 g λh2 L2=>?_
 obtain⟨J,S,U,W,T2,e2,d2,t2⟩:=Z.leftX F1 e1 d1 (.inl rfl) R L2;obtain⟨B,C,a2,a3,_,D⟩:=S.tb;have q:B=U/\C=W:=by grind
 obtain⟨rfl,rfl⟩:=q;exact⟨L,H,rfl,J.os,J.bare,J.base,J.hok,S.new,S.at_,⟨_,_,e2,d2,.inr ⟨T2,t2⟩,λT E=>⟨(D T E).1,(D T E).2.1⟩⟩,j⟩
end
noncomputable abbrev cxX(P:Aq)(w:World)(K:Ai)(mg:Str->Option Value)(base:Heap)(N:List Str)(qual:Str)(scope:Scope)(f:Addr)(cd:Value)(A:Around)(outer:List Env)(s:Ah)(H:Hp)(E:XK):Cx :=
 (cxOf (CXR P w) P w K mg base N qual scope f cd A outer s H E).wish (XE (cxOf (CXR P w) P w K mg base N qual scope f cd A outer s H E) λea _ H'=>E (.ref ea) none H')
section
variable{P:Aq}{w:World}{K:Ai}{mg:Str->Option Value}{base:Heap}
def accX:AccX (cxX P w K mg base N qual scope f cd A outer s H E) λg _ H'=>E (.ref g) none H':=AccX.of
def passDef:Ve (model P w) (A.deeper (Hy qual scope s.heap.objs.size f cd)) (Hy qual scope s.heap.objs.size f cd) (cxX P w K mg base N qual scope f cd A outer s H E).xe :=
 passX rfl rfl
def Fun.okX{st}(F:Fun K x qual st f fd)(S:FnScope N ps (defScope st))(len:∀vs H Q E,sp vs H Q E->vs.length=ps.length)(j:∀ g   A   outer   s   H   vs   Q   E ,Room k (A.deeper (Hy qual (defScope st) s.heap.objs.size f g))->sp vs H Q E ->
   ∃t,PSs (cxX P w K mg base N qual (defScope st) f g A outer s H E) (defBody st) t/\t { nx:=λ_ H'=>Q .non H',rt:=Q } (start N vs) H):FnOk P w K mg base (CXR P w) (k+1) f fd ps sp:=by
 obtain⟨oc,G,kV,v,pm,I,g,ct,B,rfl,C,o⟩:=F.ex;refine x8l C o S len λA outer s H vs Q E D u=>?_
 obtain⟨t,h,q⟩:=j g A outer s H vs Q E D u;exact⟨t,PSs.wishX (λe J z=>leaves z) h,q⟩
structure CalX (P) (w) (K) (mg) (base) (x) (k) (ps) (sp):Prop where
 ex:∃f fd,FnOk P w K mg base (CXR P w) k f fd ps sp/\mg x=some (.ref f)/\Fy K (.ref f)=true/\Binds K fd ps []
def Df.calX{st}(D:Df K mg x st ps)(S:FnScope N ps (defScope st))(len:∀vs H Q E,sp vs H Q E->vs.length=ps.length)(j:∀ f   g   A   outer   s   H   vs   Q   E ,Room k (A.deeper (Hy x (defScope st) s.heap.objs.size f g))->sp vs H Q E ->
   ∃t,PSs (cxX P w K mg base N x (defScope st) f g A outer s H E) (defBody st) t/\t { nx:=λ_ H'=>Q .non H',rt:=Q } (start N vs) H):CalX P w K mg base x (k+1) ps sp:=by
 obtain⟨f,fd,F,o,u⟩:=D.ex;exact⟨f,fd,F.okX S len λg A outer s H vs Q E v h=>j f g A outer s H vs Q E v h,o,F.kp,u⟩
end
section
variable{X:Cx}{J:Addr->St->Hp->Prop}{k j:Nat}{f:Addr}{fd:Li}{ps:List Str}{sp:Sp}{x:Str}{p pos:Pos}{e:Expr}{es:List Expr}{t:TA}
noncomputable def tCallX(sp:Sp)(J:Addr->St->Hp->Prop)(t:TA):TE:=λσ H Q=>t σ H λvs H1=>sp vs H1 Q λe _ H'=>∀ea,e=.ref ea->J ea σ H'
def x9i{D:St}(F:FnOk X.prog X.w X.K X.mg X.base (CXR X.prog X.w) k f fd ps sp)(O:Room k X.A)(P:Binds X.K fd ps [])(R:AccX X J)(I:Inv X pins D H s)(r:Vals vs us)(h:sp vs H Q λe _ H'=>∀B,e=.ref B->J B D H'):wpAny (model X.prog X.w) X.A (call (.ref f) us) (EP X pins D Q) X.xe s:=by
 have hl:(us++[]).length=ps.length:=by rw[Cd,<- r.length];exact F.len _ _ _ _ h
 have hb':=P s us I.kIn hl;rw[Cd] at hb';refine Ja (Gs (F.run X.A X.stack s H ⟨us,[]⟩ us vs Q _ O I.env0 hb' r h) λr s' g=>?_);cases r with
 |error e =>
  obtain⟨B,H',rfl,os,bare,un,hok,C,G,⟨S,U,W,hd,Y,Z⟩,j⟩:=g;have I':=I.call' os un hok bare λb z=>absurd z (by simp)
  refine R.acc _ _ ⟨pins,D,H',B,rfl,I',⟨G,⟨S,U,W,hd,?_,λT L=>?_⟩,Ay I.sz C⟩,j B rfl⟩
  ·rcases Y with z|⟨T,z⟩
   ·exact .inl z
   ·exact .inr ⟨T,.inl z⟩
  ·obtain⟨E,a2⟩:=Z T L;refine⟨Ay I.sz E,a2,λz=>absurd I.lt (Kj.mpr (z▸E)),λy c hy z=>?_,λq g z=>?_⟩
   ·obtain⟨v,o,M,_⟩:=I.cell y c hy;exact absurd (As M) (Kj.mpr (z▸E))
   ·obtain⟨M,_⟩:=I.pin q g;exact absurd (As M) (Kj.mpr (z▸E))
 |ok fl =>
  cases fl with
  |ret u=>exact I.after g
  |next=>exact False.elim g
  |brk=>exact False.elim g
  |cont=>exact False.elim g
def pe_cX(C:CalX X.prog X.w X.K X.mg X.base x k ps sp)(D:Room j X.A)(E:AccX X J)(ha:PA X (e::es) t)(o:k<=j:=by decide)(G:Gl X x:=by rfl)(u:(x==("__debug__" : Str))=false:=by decide)(L:Bd (e::es) X.env=(false,eval e X.env)::Bd es X.env:=by rfl)(v:(El pos (Bd es X.env)).any (·.1)=false:=by rfl):
  PE X (.Call (.Name x p) (e::es) [] pos) (tCallX sp J t):=by
 obtain⟨f,fd,F,M,hk,O⟩:=C.ex;intro g s P H Q I h;refine Gk (q3c I G M ?_ u);refine Nt I.ok.mod.kin hk (thn (ha pos g s P H _ I h) λR S ⟨vs,T,B,r,q⟩=>⟨B.kIn,?_⟩) L v;exact x9i F (D.mono o) O E B r q
end
structure ECls (K:Ai) (C) (bm):Prop where
 ex:∃nm q N bs hdct sn sub ab col dd k0 k1 k2 k3 k5 newId,K.lookup C=some (Fg nm q C N bs bm hdct sn sub ab col dd k0 k1 k2 k3 k5 newId)
 base:bm.contains (.type "BaseException")=true
section
variable{M:Model}{A:Around}{E:Value->Ah->Prop}{h:Heap}{g:Array Wu}{d:Drawn}{t:Nat}{os:Nb}
variable{nm q:Str}{C N:Addr}{bs bm:List Value}{hdct:Bool}{sn:List Str}{sub:List Value}{ab:Bool}{col:Option Bool}{dd:Option Addr}{k0 k1 k2 k3 k5:Option Value}{newId:String}
variable{nm' q':Str}{D N':Addr}{bs' bm':List Value}{hdct':Bool}{sn':List Str}{sub':List Value}{ab':Bool}{col':Option Bool}{dd':Option Addr}{k0' k1' k2' k3' k5':Option Value}{newId':String}
def excMatchX(B:h.get? C=some (Fg nm q C N bs bm hdct sn sub ab col dd k0 k1 k2 k3 k5 newId))(u:h.get? D=some (Fg nm' q' D N' bs' bm' hdct' sn' sub' ab' col' dd' k0' k1' k2' k3' k5' newId'))(F:h.get? e=some oe)(j:oe.cls=.ref C)(o:bm'.contains (.type "BaseException")=true)(v:Q ((Value.ref C::bm).contains (.ref D)) ⟨h,g,d,t,os⟩):wpAny M A (excMatches (.ref e) (.ref D)) Q E ⟨h,g,d,t,os⟩:=by
 have s:(Value.ref D::bm').contains (.type "BaseException")=true:=by grind
 have f:=tc_notTuple;repeat (first|(with_reducible refine Gz F ?_;rw[j])|with_reducible refine Gz u ?_|(with_reducible refine Kv u ?_;rw[s])|(with_reducible refine Kv B ?_)|wp_step)
 cases hb:(Value.ref C::bm).contains (.ref D)<;>(rw[hb] at v;wp_walk;exact v)
end
section
variable{X:Cx}{pins:List (Addr×Obj)}{σ:St}{H:Hp}{s:Ah}
def z0g(I:Inv X pins σ H s)(U:X.N.Nodup)(L:X.N[i]?=some x)(hk:X.env.scope.names.lookup x=some .local)(h:∀s',Inv X pins (σ.set i none) H s'->Q () s'):wpAny M A (do bindName X.env x .none;unbindBehindTheSuite X.env x pos) Q E s:=by
 obtain⟨m,hn,hl⟩:=id I.loc;have B:(X.env.scope.kind==.class||(X.env.scope.kind==.module&&X.env.locals != X.env.globals))=false:=by rw[I.ok.kind];rfl
 have O:i<σ.length:=by rw[I.len];exact(Ap.mp L).1
 have cne:=I.cne;have f:∀{a:Addr} {D:Heap},(∃o,s.heap.get? a=some o/\H a=none)->Gd a s.heap D->HOk X.prog X.w H D:=λ{a D} ha g b ob e=>by
  refine(I.hok b ob e).stay (λc P R q=>(g.2 c ?_).trans q) (λ_ q=>q) λ_ _ q=>q;rcases R with rfl|R
  ·grind
  ·grind
 refine wpAny_nameGoes_keeps hk hn B λD v F g=>?_;obtain⟨W,_,_,G,_⟩:=id hn;refine h _ ⟨I.ok,I.os,I.bare,⟨λb o e n J C=>?_,λb o e n J C=>?_,I.base.free,λb o e C=>?_,I.base.tups,I.base.frzs,I.base.tbls⟩,⟨_,F,λj y Y u S Z=>?_⟩,λy c e=>?_,I.free,I.freeC,λp hp=>?_,f ⟨W,G,I.free⟩ g,by simpa using I.len⟩
 ·exact(g.2 b (Bl (Bp (As e) I.ok.above))).trans (I.base.keep b o e n J C)
 ·obtain⟨sl,u⟩:=I.base.slot b o e n J C;exact⟨sl,(g.2 b (Bl (Bp (As e) I.ok.above))).trans u⟩
 ·obtain⟨o',u⟩:=I.base.there b o e C;exact⟨o',(g.2 b (Bl (Bp (As e) I.ok.above))).trans u⟩
 ·by_cases T:j=i
  ·simp_all
  ·rw[Nr (Cp T)] at S;obtain⟨u',r',q⟩:=hl j y Y u S Z;refine⟨u',r',?_⟩;rcases q with⟨k,e⟩|⟨k,c,e,z⟩
   ·refine .inl ⟨k,?_⟩;have:y≠x:=λe=>T (q9o U u (e▸L));simp[this,e]
   ·exact .inr ⟨k,c,e,z.sameBut g (cne y c e)⟩
 ·obtain⟨P,z⟩:=I.cell y c e;exact⟨P,z.sameBut g (cne y c e)⟩
 ·obtain⟨e,n,ne,nf,d⟩:=I.pin p hp;exact⟨(g.2 p.1 ne).trans e,n,ne,nf,d⟩
noncomputable abbrev Cx.pinned(X:Cx)(pn:List (Addr×Obj)):Cx:={ X with pn:=pn }
def Cx.Ok.pinned{pn}(ok:X.Ok):(X.pinned pn).Ok:=⟨ok.mod,ok.kind,ok.glob,ok.blt,ok.above,ok.inj,ok.has,ok.cab,ok.hd,ok.frames,ok.stk,ok.exf,ok.bs,ok.bsz,ok.noex,ok.exfs,ok.funs,ok.frf⟩
def Cx.Ok.unpin{pn}(ok:(X.pinned pn).Ok):X.Ok:=⟨ok.mod,ok.kind,ok.glob,ok.blt,ok.above,ok.inj,ok.has,ok.cab,ok.hd,ok.frames,ok.stk,ok.exf,ok.bs,ok.bsz,ok.noex,ok.exfs,ok.funs,ok.frf⟩
def Inv.toPn(I:Inv X pins σ H s):Inv (X.pinned (X.pn++pins)) [] σ H s:=⟨I.ok.pinned,I.os,I.bare,I.base,I.loc,I.cell,I.free,I.freeC,λp f=>I.pin p (by simpa using f),I.hok,I.len⟩
def Inv.ofPn(I:Inv (X.pinned (X.pn++pins)) pins' σ H s):Inv X pins σ H s:=⟨I.ok.unpin,I.os,I.bare,I.base,I.loc,I.cell,I.free,I.freeC,λp f=>I.pin p (Bu _ f),I.hok,I.len⟩
def FlX.ofPn(F:FlX (X.pinned (X.pn++pins)) pins' H s e):FlX X pins H s e:=by
 obtain⟨g,vs,h,j,o,u⟩:=F.tb;exact⟨F.at_,⟨g,vs,h,j,o,λT v=>let ⟨a,b,c,d,f⟩:=u T v;⟨a,b,c,d,λp B=>f p (Bu _ B)⟩⟩,F.new⟩
noncomputable abbrev Cx.hand(X:Cx)(e:Addr):Cx:={ X with A:=X.A.mark (some (.ref e)),calm:=false,xe:=λ_ _=>False }
def Cx.Ok.hand(ok:X.Ok):(X.hand e).Ok:=⟨ok.mod,ok.kind,ok.glob,ok.blt,ok.above,ok.inj,ok.has,ok.cab,(λz=>by cases z),ok.frames,ok.stk,ok.exf,ok.bs,ok.bsz,ok.noex,ok.exfs,ok.funs,ok.frf⟩
def Inv.hand(I:Inv X pins σ H s)(e):Inv (X.hand e) pins σ H s:=⟨I.ok.hand,I.os,I.bare,I.base,I.loc,I.cell,I.free,I.freeC,I.pin,I.hok,I.len⟩
def Inv.unhand(I:Inv (X.hand e) pins σ H s)(ok:X.Ok):Inv X pins σ H s:=⟨ok,I.os,I.bare,I.base,I.loc,I.cell,I.free,I.freeC,I.pin,I.hok,I.len⟩
noncomputable def SubX(K:Ai)(C:Value)(D:Addr):Prop:=∃c bm,C=.ref c/\ECls K c bm/\(Value.ref c::bm).contains (.ref D)=true
noncomputable def gone(i:Nat)(D:Ends):Ends:=⟨λσ H=>D.nx (σ.set i none) H,D.rt,λσ H=>D.bk (σ.set i none) H,λσ H=>D.ct (σ.set i none) H⟩
noncomputable def tTry(K:Ai)(i:Nat)(C:Addr)(th:TS)(tb:(Addr->St->Hp->Prop)->TS):TS:=λD σ H=>∃J,
 (∀ea σ' H',J ea σ' H'->(∃c dd,H' ea=some (ExO c dd ea)/\SubX K c C)/\th (gone i D) (σ'.set i (some (.ref ea))) H')/\tb J D σ H
def ps_try(K)(hK:X.K=K)(P:X.stack=X.env::X.outer)(hf:X.env.frame=some X.env.locals)(Y:X.N.Nodup)(Z:X.N[i]?=some n)(hk:X.env.scope.names.lookup n=some .local)(hg:Gl X dn)(hm:X.mg dn=some (.ref C))(eC:ECls X.K C bmC)(hb:∀pn J,PSs ((X.pinned pn).wish (XE (X.pinned pn) J)) body (tb J))(hh:∀B,PSs (X.hand B) (b₀::suite) th)(a9:(dn==("__debug__" : Str))=false:=by decide):
  PS X (.Try body [.ExceptHandler (some (.Name dn dp)) (some n) (b₀::suite) hp] [] [] pos) (tTry K i C th tb):=by
 subst hK;intro g s σ H D I ⟨J,hJ,q⟩;refine wpAny_Try_except (Bs (hb (X.pn++g) J [] s σ H D (I.toPn.wish _) q) (λf s1 z=>?_) λe s1 z=>?_)
 ·have z':=z.unwish;have z2:SP X g D f s1:=by
   cases f with
   |next=>obtain⟨h,F,E,G⟩:=z';exact⟨h,F,E.ofPn,G⟩
   |brk=>obtain⟨h,F,E,G⟩:=z';exact⟨h,F,E.ofPn,G⟩
   |cont=>obtain⟨h,F,E,G⟩:=z';exact⟨h,F,E.ofPn,G⟩
   |ret u=>obtain⟨v,h,F,E,r,G⟩:=z';exact⟨v,h,F,E.ofPn,r,G⟩
  cases f with
  |next=>exact Ky z2
  |ret v=>exact z2
  |brk=>exact z2
  |cont=>exact z2
 ·obtain⟨b0,R,W,B,rfl,I1,F1,j⟩:=z;have I1:=I1.ofPn;have F1:=F1.ofPn;obtain⟨⟨c,dd,b1,cc,bm,rfl,b2,a0⟩,b3⟩:=hJ B R W j;obtain⟨M,vs,he,hd,ht,hT⟩:=F1.tb;have b4:X.A.frames=some (X.env::X.outer):=by rw[<- P];exact I.ok.frames
  have hl:s1.heap.FunFrames X.base (X.env::X.outer):=by rw[<- P];exact I1.stack
  refine noteX b4 hl hf he hd ht λh2 L2=>?_;rw[<- x7h P] at L2;obtain⟨I2,F2,c6,c7,T2,e2,d2,t2⟩:=I1.leftX F1 he hd (.inr rfl) hT L2;have O:∀{L:Ah} {M:Obj} {vs:Array Value} {T:Addr} {fl:Value} {Aa:Around} {Ee:Value->Ah->Prop} {Q:Unit->Ah->Prop},Inv X g R W L->FlX X g W L B->L.heap.get? B=some M->M.data=.fields vs->TbAt L.heap B vs T fl ->
    (∀h',Inv X g R W { L with heap:=h' }->FlX X g W { L with heap:=h' } B->(∃a1 a2 T',h'.get? B=some a1/\a1.data=.fields a2/\TbAt h' B a2 T' .none)->Q () { L with heap:=h' })->wpAny (model X.prog X.w) Aa (setFlight (.ref B) none) Q Ee L:=by
   intro L M vs T fl Aa Ee Q E F' e' d' t' k;have b5:T∉frs X.stack:=λhm=>by
    obtain⟨_,_,oT,ts,q1,q2,_⟩:=t';obtain⟨_,o,ho,b6⟩:=E.stack.mem hm;rw[q1] at ho;injection ho with ho;subst ho;exact b6 ts q2
   obtain⟨a3,a4,c8,c9,_,b7⟩:=F'.tb;have q:a3=M/\a4=vs:=by grind
   obtain⟨rfl,rfl⟩:=q;refine flightX e' d' t' b5 λh3 L3=>?_
   obtain⟨S,F3,a5,a6,T3,e3,d3,t3⟩:=E.leftX F' e' d' (.inl rfl) b7 L3;exact k h3 S F3 ⟨a5,a6,T3,e3,d3,t3⟩
  refine O I2 F2 e2 d2 t2 λh3 S F3 qz=>?_;obtain⟨a5,a6,T3,e3,d3,t3⟩:=qz;refine wpAny_handleBy_cons (codeAny_handlers_test ?_) (by intro z;cases z);refine q3c (S.hand B) hg hm ?_ a9;obtain⟨nm,q0,N,bs,c1,sn,sub,ab,d0,d1,k0,k1,k2,k3,k5,b8,lk⟩:=b2.ex;obtain⟨d4,d5,N',d6,b9,d7,c2,d8,c3,c5,d9,e0,e1,e5,e6,a8,c0⟩:=eC.ex;have a7:∃M,h3.get? B=some M/\M.cls=.ref cc:=by
   obtain⟨⟨ws,sl,z,_⟩,_,_⟩:=S.hok B _ b1;exact⟨_,z,rfl⟩
  obtain⟨e7,e4,c4⟩:=a7;refine excMatchX (S.kIn _ _ lk) (S.kIn _ _ c0) e4 c4 eC.base ?_;rw[a0];refine codeAny_handlers_suite_as (O S F3 e3 d3 t3 λh5 I5 F5 _=>?_);refine q6l (X:=X.hand B) (I5.hand B) Y Z (.inl hk) (show RelV (.ref B) (.ref B) from rfl) (λs6 I6=>?_) (.inr hk);refine Bs (hh B g s6 _ W (gone i D) I6 b3) (λf s7 z=>?_) λ_ _ z=>z.elim
  cases f with
  |next =>
   obtain⟨h,F,E,G⟩:=z;exact z0g (E.unhand I.ok) Y Z hk λs8 U=>⟨_,F,U,G⟩
  |brk =>
   obtain⟨h,F,E,G⟩:=z;exact z0g (E.unhand I.ok) Y Z hk λs8 U=>⟨_,F,U,G⟩
  |cont =>
   obtain⟨h,F,E,G⟩:=z;exact z0g (E.unhand I.ok) Y Z hk λs8 U=>⟨_,F,U,G⟩
  |ret u =>
   obtain⟨v,h,F,E,r,G⟩:=z;exact z0g (E.unhand I.ok) Y Z hk λs8 U=>⟨v,_,F,U,r,G⟩
end
section
variable{prog:Aq}{w:World}{A:Around}{E:Value->Ah->Prop}{h:Heap}{g:Array Wu}{d:Drawn}{t:Nat}{os:Nb}
variable{nm q:Str}{C N:Addr}{bs bm bmB:List Value}{hdct:Bool}{sn:List Str}{sub:List Value}{ab:Bool}{col:Option Bool}{dd:Option Addr}{k0 k1 k2 k3 k5:Option Value}{B newId initId:String}
def q4z(F:Vr B newId initId bmB)(T:To h bmB bm){rest}(D:h.get? C=some (Fg nm q C N bs bm hdct sn sub ab col dd k0 k1 k2 k3 k5 newId))(hn:h.Ns N mN)(L:mN "__init__" = some (.ref fI))(H:h.get? fI=some oI)(I:oI.cls=.type "function")(M:∀h' e,Heap.MadeExcOf h h' e (.ref C) rest->h.objs.size<=e ->
   wpAny (model prog w) A (call (.ref fI) (.ref e::rest)) (λr s'=>r=.none/\Q (.done (.ret (.ref e))) s') E ⟨h',g,d,t,os⟩)(u:rest.length<=sizeLine:=by size_fits):
  wpAny (model prog w) A (Ea.«type.__call__» ⟨.ref C::rest,[]⟩) Q E ⟨h,g,d,t,os⟩:=by
 repeat (first|with_reducible refine Gz D ?_|with_reducible refine wpAny_madeBy_exc D ?_|wp_step)
 refine codeAny_call_builtin_code (Pq _ F.quiet) (wpAny_check_new_subT F T D ?_);refine codeAny_exc_new_subT F T D ?_ u;have f:=Ag { cls:=.ref C,data:=.fields #[.ref h.objs.size,.none,.none,.none,.bool false,.none] }
  (Ag { cls:=.type "tuple",data:=.seq rest.toArray } D)
 have j:=Ag { cls:=.ref C,data:=.fields #[.ref h.objs.size,.none,.none,.none,.bool false,.none] }
  (Ag { cls:=.type "tuple",data:=.seq rest.toArray } H)
 have v:((h.push { cls:=.type "tuple",data:=.seq rest.toArray }).push { cls:=.ref C,data:=.fields #[.ref h.objs.size,.none,.none,.none,.bool false,.none] }).Ns N mN :=
  let ⟨o,O,P,e,r⟩:=hn;⟨o,O,P,Ag _ (Ag _ e),r⟩
 have s:((h.push { cls:=.type "tuple",data:=.seq rest.toArray }).push
   { cls:=.ref C,data:=.fields #[.ref h.objs.size,.none,.none,.none,.bool false,.none] }).get? (h.objs.size+1)=some
   { cls:=.ref C,data:=.fields #[.ref h.objs.size,.none,.none,.none,.bool false,.none] }:=by heap_get
 have G:=T.keeps (h':=(h.push { cls:=.type "tuple",data:=.seq rest.toArray }).push { cls:=.ref C,data:=.fields #[.ref h.objs.size,.none,.none,.none,.bool false,.none] })
  λb o e=>Ag _ (Ag _ e)
 have J:(Value.ref C::bm).contains (.ref C)=true:=by simp
 repeat (first|with_reducible refine Gz s ?_|(with_reducible refine Kv f ?_;rw[J])|wp_step)
 refine wpAny_typeLookup_tail f v G F.mroIs F.init.lookup ?_;rw[L];refine Dh (Ac ?_);refine Ac (Jn ⟨_,j,I⟩ ?_);refine Ad (Ac (Bs (M _ (h.objs.size+1) ⟨λb o R=>Ag _ (Ag _ R),Nq (Kr _),h.objs.size,s,Nq (Aj _),?_⟩ (Kr _)) (λr s' S=>?_) λ_ _ x=>x))
 ·exact Ag _ (Heap.get?_push_at rfl rfl)
 ·obtain⟨rfl,U⟩:=S
  wp_walk
  exact U
def q8p(F:Vr B newId initId bmB)(T:To h bmB bm){rest}(f:h.get? C=some (Fg nm q C N bs bm hdct sn sub ab col dd k0 k1 k2 k3 k5 newId))(hn:h.Ns N mN)(v:mN "__init__" = some (.ref fI))(j:h.get? fI=some oI)(o:oI.cls=.type "function")(D:∀h' e,Heap.MadeExcOf h h' e (.ref C) rest->h.objs.size<=e ->
   wpAny (model prog w) (A.under (.builtin "type.__call__" ⟨.ref C::rest,[]⟩)) (call (.ref fI) (.ref e::rest)) (λr s'=>r=.none/\Q (.ref e) s') E ⟨h',g,d,t,os⟩)(s:rest.length<=sizeLine:=by size_fits):
  wpAny (model prog w) A (call (.ref C) rest) Q E ⟨h,g,d,t,os⟩:=by
 have H:=tc_lookup;have I:=tc_bind (.ref C);refine Ja (Se ?_);repeat (any_goals (first|assumption|with_reducible refine Gz f ?_|wp_step))
 refine⟨rfl,?_⟩;refine codeAny_call_builtin_at (Pq _ (by trivial)) entry_typeCall (wpAny_check_type_call_sub f (q4z F T f hn v j o λh' e G u=>?_));exact D h' e G u
def raiseX(j:bm.contains (.type "BaseException")=true)(G:A.handled=none)(h:wpAny M A x (λv f=>∃e u vs B,v=.ref e/\f.heap.get? C=some (Fg nm q C N bs bm hdct sn sub ab col dd k0 k1 k2 k3 k5 newId) /\
   f.heap.get? e=some { cls:=.ref C,dict:=u,data:=.fields vs,slots:=B }/\vs[1]?=some .none/\E (.ref e) f) E s):
  wpAny M A (raiseStmt env (some x) none) Q E s:=by
 have o:(Value.ref C::bm).contains (.type "BaseException")=true:=by grind
 refine Ac (Bs h (λv f g=>?_) λ_ _ x=>x);obtain⟨e,u,vs,B,rfl,D,F,H,I⟩:=g;repeat (first|with_reducible refine Gz F ?_|with_reducible refine Gz D ?_|(with_reducible refine Kv D ?_;rw[o])|(with_reducible refine Br F rfl H ?_)|wp_step)
 exact wpAny_raiseNew_none G I
end
noncomputable def ExN(C:Value)(dd:Option Addr)(e:Addr):HO:=.ext λh=>∃vs sl,h.get? e=some { cls:=C,dict:=dd,data:=.fields vs,slots:=sl }/\vs.size=6/\vs[1]?=some .none
noncomputable abbrev bmV:List Value:=[.type "ValueError",.type "Exception",.type "BaseException",.type "object"]
structure EMk (K:Ai) (C fI) (bm):Prop where
 ex:∃nm q N bs hdct sn sub ab col dd k0 k1 k2 k3 k5 mN,K.lookup C=some (Fg nm q C N bs bm hdct sn sub ab col dd k0 k1 k2 k3 k5 "ValueError.__new__")/\(∀h,K.In h->h.Ns N mN)/\mN "__init__" = some (.ref fI)
 tail:∀h,K.In h->To h bmV bm
 fn:∃oI,K.lookup fI=some oI/\oI.cls=.type "function"
 kp:Fy K (.ref C)=true
def EMk.base{K}(M:EMk K C fI bm)(f:K.In h):bm.contains (.type "BaseException")=true:=(M.tail h f).hasType (by decide)
section
variable{X:Cx}{pins:List (Addr×Obj)}{σ:St}{H:Hp}{s:Ah}{e:Addr}
def Inv.asO(I:Inv X pins σ H s)(h:H e=some (ExN C dd e)):Inv X pins σ (upd H e (ExO C dd e)) s:=by
 have un:Un (frs X.stack) [] H (upd H e (ExO C dd e)) s.heap s.heap:=by
  have hk:∀{b:Addr} {o:HO},H b=some o->b≠e\/o=ExN C dd e:=λ{b o} f=>by
   by_cases z:b=e
   ·grind
   ·exact .inl z
  refine⟨λb o f _ _ _=>f,λb o f _ _ _=>⟨o.slots,f⟩,λb o _ n _=>?_,λb o f _=>⟨o,f⟩,λb j q=>?_,λb o u q=>?_,λb J q=>⟨#[],?_⟩⟩
  ·rw[q0g (λz=>by rw[z,h] at n;cases n)];exact n
  ·rcases hk q with z|z
   ·rw[q0g z];exact q
   ·cases z
  ·rcases hk q with z|z
   ·rw[q0g z];exact q
   ·cases z
  ·rcases hk q with z|z
   ·rw[q0g z,q];simp
   ·cases z
 have hok:HOk X.prog X.w (upd H e (ExO C dd e)) s.heap:=λa o ha=>by
  by_cases z:a=e
  ·subst z;rw[q0c] at ha;cases ha;obtain⟨⟨vs,g,v,B,_⟩,D,_⟩:=I.hok a _ h;exact⟨⟨vs,g,v,B⟩,D,λL M ⟨E,g,F,G⟩ k=>⟨E,g,k _ F,G⟩⟩
  ·rw[q0g z] at ha;refine(I.hok a o ha).stay (λb u _ q=>q) (λb q=>?_) λb j q=>?_
   ·rw[q0g (λy=>by rw[y,h] at q;cases q)];exact q
   ·rw[q0g (λy=>by rw[y,h] at q;cases q)];exact q
 exact I.call' (s':=s) rfl un hok I.bare λb z=>absurd z (by simp)
noncomputable def tRaise(C:Addr)(sp:Sp)(J:Addr->St->Hp->Prop)(t:TA):TS:=λ_ σ H=>t σ H λvs H1=>∀ea,H1 ea=none ->
 sp (.ref ea::vs) (upd H1 ea (ExN (.ref C) none ea)) (λv H2=>v=.non/\∃dd,H2 ea=some (ExN (.ref C) dd ea)/\J ea σ (upd H2 ea (ExO (.ref C) dd ea))) E0
def x4u{np B pos}(M:EMk X.K C fI bm)(F:FnOk X.prog X.w X.K X.mg X.base CX0 k fI fd ps sp)(hr:Room (k+1) X.A)(hb:Binds X.K fd ps [])(hx:AccX X J)(hc:X.calm=true)(hg:Gl X x)(hm:X.mg x=some (.ref C))(ha:PA X (e₀::es) t)(a6:ps.length<=100:=by decide)(a0:(x==("__debug__" : Str))=false:=by decide)(he:Bd (e₀::es) X.env=(false,eval e₀ X.env)::Bd es X.env:=by rfl)(a1:(El B (Bd es X.env)).any (·.1)=false:=by rfl):
  PS X (.Raise (some (.Call (.Name x np) (e₀::es) [] B)) none pos) (tRaise C sp J t):=by
 intro E s σ H D I h;obtain⟨nm,q,N,bs,S,sn,sub,ab,a2,dd,k0,k1,k2,k3,k5,mN,lk,hN,hi⟩:=M.ex;obtain⟨oI,a3,a4⟩:=M.fn;have O:wpAny (model X.prog X.w) X.A (eval (.Call (.Name x np) (e₀::es) [] B) X.env) (λv f=>∃e de vs U,v=.ref e/\f.heap.get? C=some (Fg nm q C N bs bm S sn sub ab a2 dd k0 k1 k2 k3 k5 "ValueError.__new__") /\
   f.heap.get? e=some { cls:=.ref C,dict:=de,data:=.fields vs,slots:=U }/\vs[1]?=some .none/\X.xe (.ref e) f) X.xe s:=by
  refine Gk (q3c I hg hm ?_ a0);refine Nt I.ok.mod.kin M.kp (thn (ha B E s σ H _ I h) λG s1 ⟨vs,H1,R,r,hq⟩=>⟨R.kIn,?_⟩) he a1;obtain⟨hp,g,dr,tk,os⟩:=s1;have Z:=R.kIn;have a5:G.length<=sizeLine:=by
   have hh:=F.len _ _ _ _ (hq hp.objs.size (R.hok.fresh (Aj _)));rw[Bc] at hh;rw[<- r.length,Et];lia
  refine q8p Qh (M.tail hp Z) (Z _ _ lk) (hN hp Z) hi (Z _ _ a3) a4 λh' e W P=>?_;have Q:=R.hok.fresh P;obtain⟨t0,L,_,_⟩:=W.there;have I2:Inv X E σ (upd H1 e (ExN (.ref C) none e)) ⟨h',g,dr,tk,os⟩:=R.laid (h':=h') (t':=tk) (λb u q=>W.keeps b u q) P ⟨⟨_,_,L,rfl,rfl⟩,⟨_,L⟩,λh1 h2 ⟨ws,U,k1,k2⟩ k=>⟨ws,U,k _ k1,k2⟩⟩;have hq':=hq e Q;have r2:Vals (V.ref e::vs) (Value.ref e::G):=.cons rfl r;have hl:((Value.ref e::G)++[]).length=ps.length:=by rw[Cd,<- r2.length];exact F.len _ _ _ _ hq'
  have hb':=hb ⟨h',g,dr,tk,os⟩ (Value.ref e::G) I2.kIn hl;rw[Cd] at hb';refine Ja (Gs (F.run _ X.stack _ _ ⟨Value.ref e::G,[]⟩ (Value.ref e::G) _ _ _ (hr.make C G []) (I2.env0.make C G []) hb' r2 hq') λr s' Y=>?_);cases r with
  |error e=>exact Y.elim
  |ok fl =>
   cases fl with
   |ret u =>
    obtain⟨v,H',I3,rv,ev,de,hE,j⟩:=I2.after Y;subst ev;refine⟨rv,?_⟩;obtain⟨⟨ws,U,q1,q2,q3⟩,_,_⟩:=I3.hok e _ hE;refine⟨e,de,ws,U,rfl,I3.kIn _ _ lk,q1,q3,hx.acc _ _ ⟨E,σ,_,e,rfl,I3.asO hE,⟨⟨_,_,q0c⟩,⟨_,ws,q1,rfl,.inl q3,λT hT=>?_⟩,Ay R.sz P⟩,j⟩⟩;rw[q3] at hT;cases hT
   |next=>exact False.elim Y
   |brk=>exact False.elim Y
   |cont=>exact False.elim Y
 have o:=M.base I.kIn;first
  |exact Ac (Cw (raiseX o (I.ok.hd hc) (Ac (Bs O (λv f z=>Ac (Cw (Ad z))) λ_ _ z=>z))))
  |(simp only[evalOpt,Option.map];exact Ac (Cw (raiseX o (I.ok.hd hc) (Ac (Bs O (λv f z=>Ac (Cw (Ad z))) λ_ _ z=>z)))))
  |exact Ac (Cw (raiseX o (I.ok.hd hc) O))
end
section
variable{prog:Aq}{w:World}{A:Around}{R:Result->Ah->Prop}{h:Heap}{g:Array Wu}{d:Drawn}{t:Nat}{os:Nb}
variable{nm q:Str}{C N:Addr}{bs bm bmB:List Value}{hdct:Bool}{sn:List Str}{sub:List Value}{ab:Bool}{col:Option Bool}{dd:Option Addr}{k0 k1 k2 k3 k5:Option Value}{B newId initId:String}
def x0y(F:Vr B newId initId bmB)(T:To h bmB bm){rest}(s:h.get? C=some (Fg nm q C N bs bm hdct sn sub ab col dd k0 k1 k2 k3 k5 newId))(o:h.get? e=some { cls:=.ref C,dict:=de,data:=.fields vs,slots:=sl })(E:vs.size=6)(f:rest.length<=sizeLine)(u:R (.ok (.ret .none)) ⟨(h.push { cls:=.type "tuple",data:=.seq rest.toArray }).update e (Gf (·.setIfInBounds 0 (.ref h.objs.size))),g,d,t,os⟩):
  Ey (model prog w) A (.call (.builtin initId) ⟨.ref e::rest,[]⟩) R ⟨h,g,d,t,os⟩:=by
 refine Gu F.init.plain F.initEntry (wpAny_check_init_subT F T s o rfl ?_);have j:=Ag { cls:=.type "tuple",data:=.seq rest.toArray } o
 wp_walk
 have v:vs[(0:Nat)]?=some (vs[0]'(by lia)):=Gp (by lia);rw[v];refine Ad (Ac (Hf j rfl (by lia) ?_));generalize vs[0]'(by lia)=D;cases D<;>(wp_walk;exact u)
end
def upd_id(h:H a=some o):upd H a o=H:=by
 funext b;by_cases z:b=a
 ·rw[z,q0c,h]
 ·rw[q0g z]
structure ELow (K:Ai) (C) (bm):Prop where
 ex:∃nm q N bs hdct sn sub ab col dd k0 k1 k2 k3 k5,K.lookup C=some (Fg nm q C N bs bm hdct sn sub ab col dd k0 k1 k2 k3 k5 "ValueError.__new__")
 tail:∀h,K.In h->To h bmV bm
def EMk.low{K}(M:EMk K C fI bm):ELow K C bm:=by
 obtain⟨nm,q,N,bs,f,h,sub,j,g,o,s,u,v,B,D,F,E,_⟩:=M.ex;exact⟨⟨nm,q,N,bs,f,h,sub,j,g,o,s,u,v,B,D,E⟩,M.tail⟩
structure EIni (K) (D) (mc):Prop where
 sp:Pd K (.ref D) "__getattribute__" = some (some (.builtin "type.__getattribute__"))
 rd:W.readsIn K D mc=true
 fc:W.findCls K (.ref D) mc "__init__" = some (.val (.builtin "ValueError.__init__"))
section
variable{X:Cx}{x:Str}{p pos apos:Pos}{a b:Expr}{t:TA}{C D:Addr}{bm:List Value}{mc:Value}
noncomputable def tIni(C:Addr)(t:TA):TE:=λσ H Q=>t σ H λvs H1=>∃ea v de,vs=[.ref ea,v]/\H1 ea=some (ExN (.ref C) de ea)/\Q .non H1
def pe_ini{pl}(L:ELow X.K C bm)(N:EIni X.K D mc)(hg:Gl X x)(hm:X.mg x=some (.ref D))(ha:PA X [a,b] t)(J:(x==("__debug__" : Str))=false:=by decide)(M:Bd [a,b] X.env=(false,eval a X.env)::Bd [b] X.env:=by rfl)(O:(El pos (Bd [b] X.env)).any (·.1)=false:=by rfl)(ht:eval (.Call (.Attribute (.Name x p) "__init__" apos) [a,b] [] pos) X.env=(do
   let T<-eval (.Name x p) X.env
   Kq apos.atName
   let (f,first)<-Jl [T] (Nc T "__init__" pl)
   Ud pos f first (El pos (Bd [a,b] X.env)) (Jy pos (Hj [] X.env))):=by rfl):
  PE X (.Call (.Attribute (.Name x p) "__init__" apos) [a,b] [] pos) (tIni C t):=by
 intro B s σ H Q I h;refine Rz (q3c I hg hm ?_ J) ht;refine W.method_cls I.kIn N.sp (W.cls_value I.kIn N.rd N.fc rfl ?_);refine Nu (thn (ha pos B _ σ H _ (I.tok _) h) λus s1 qz=>?_) M O;obtain⟨vs,H1,F,r,G,v,de,ev,P,q⟩:=qz;subst ev;obtain⟨u1,U,rfl,ru,rv⟩:=r.two;obtain rfl:u1=Value.ref G:=ru;obtain⟨E,g,dr,tk,os⟩:=s1;obtain⟨nm,q0,N0,bs,Y,sn,sub,ab,a0,dd,k0,Z,k2,k3,k5,lk⟩:=L.ex;obtain⟨⟨R,S,q1,q2,q3⟩,_,_⟩:=F.hok G _ P;refine Ja (x0y Qh (L.tail E F.kIn) (F.kIn _ _ lk) q1 q2 (by show 1<=sizeLine;decide) ?_);have q1':=Ag { cls:=.type "tuple",data:=.seq #[U] } q1;have j:=Fo (Gf (·.setIfInBounds 0 (Value.ref E.objs.size))) q1' rfl;have I2:=F.write (o:=ExN (.ref C) de G) (t':=tk) (h':=(E.push { cls:=.type "tuple",data:=.seq #[U] }).update G (Gf (·.setIfInBounds 0 (Value.ref E.objs.size)))) (by rw[P];exact trivial) (.inl rfl)
  (λb u hb hu=>by rw[Cm _ _ (Cp hb)];exact Ag _ hu) ⟨_,j⟩
  ⟨⟨R.setIfInBounds 0 (.ref E.objs.size),S,j,by simpa using q2,by rw[Array.getElem?_setIfInBounds_ne (by decide)];exact q3⟩,⟨_,j⟩,λh1 h2 ⟨R,S,Z,k2⟩ k=>⟨R,S,k _ Z,k2⟩⟩
 rw[upd_id P] at I2;exact⟨.non,H1,I2,rfl,q⟩
end
noncomputable def ExMro(l:List Value):Prop:=∃rs:List Addr,l=rs.map Value.ref++bmV
def z8i(self):Xv self "__setattr__" bmV=pure ():=by kernel_rfl
def x0z(self)(h:ExMro l):Xv self "__setattr__" l=pure ():=by
 obtain⟨f,rfl⟩:=h;induction f with
 |nil=>exact z8i self
 |cons c r ih=>show Xv self "__setattr__" (.ref c::(r.map Value.ref++bmV))=_;rw[refuseLoop_ref];exact ih
def x1a(h:ExMro l):l.contains (.type "object")=true/\l.isEmpty=false:=by
 obtain⟨f,rfl⟩:=h;refine⟨?_,?_⟩
 ·induction f with
  |nil=>decide
  |cons c r ih=>show(Value.ref c::(r.map Value.ref++bmV)).contains _=true;rw[Lq,ih,Vs]
 ·cases f<;>rfl
structure ESet (K) (C) (f):Prop where
 cls:∃cd,Yc K C=some cd/\ExMro cd.mro/\cd.hasDict=true
 sa:Ck K (.ref C) "__setattr__" = some (some (.builtin "object.__setattr__"))
 tk:Ck K (.ref C) f=some none
section
variable{prog:Aq}{w:World}{A:Around}{R:Result->Ah->Prop}{s:Ah}{K:Ai}{x C:Addr}
def z3g(X:K.In s.heap)(I:Qx s.heap x ox C od)(S:ESet K C name)(h:wpAny (model prog w) A.in1 (Ea.ObjectAttr.storeInOwnDict (.ref x) (.ref C) (.str name tk) name v false)
   (λj s'=>match j with|.done f=>R (.ok f) s'|.again c'=>c'.quiet=true/\Ey (model prog w) A c' R s') (λe s'=>R (.error e) s') s):
  Ey (model prog w) A (.call (.builtin "object.__setattr__") ⟨[.ref x,.str name tk,v],[]⟩) R s:=by
 have g:=PySem.F.store_object;obtain⟨B,u,o,_⟩:=S.cls;have sub:W.Looks (model prog w) s.heap (isInstance (.ref x) (.type "object")) true:=I.type.andThen (W.looks_mroIn X (by unfold W.mroIn;rw[u,Xe,if_neg (by rw[(x1a o).2];decide),(x1a o).1]));refine Gu g.slot.plain g.entry (@W.check_slot (model prog w) _ _ s "object.__setattr__" "object" "__setattr__" (.ref x) [.str name tk,v] [] _ g.kind g.split sub (g.args (.ref x) (.str name tk) v) ?_);have D:W.Looks (model prog w) s.heap (mroOf (.ref C)) B.mro:=(Qc X u).andThen .now;rw[W.osa_eq,refuse_eq];refine Ac (Ac (I.type.here (Ac (D.here ?_))));rw[x0z _ o];refine Ad (Ac (I.type.here (Ac ((Ox X S.tk).here (Ac ?_)))));exact Ad h
end
noncomputable def XdO(d:Addr)(fs:List (Str×V)):HO:=.ext λh=>∃mA,h.Ns1 d mA/\(∀f,RelO (fs.lookup f) (mA f))/\Np mA (fs.map (·.1))
def x9j(n:h.Ns1 d g)(r:∀f,RelO (fs.lookup f) (g f))(j:Np g (fs.map (·.1))):ObjOk P w H h d (XdO d fs) :=
 ⟨⟨g,n,r,j⟩,let ⟨o,_,_,e,_⟩:=n;⟨o,e⟩,λs u ⟨g,n,r,j⟩ k=>⟨g,n.at k,r,j⟩⟩
def exn_ok(g:h.get? e=some { cls:=C,dict:=dd,data:=.fields vs,slots:=f })(j:vs.size=6)(o:vs[1]?=some .none):ObjOk P w H h e (ExN C dd e) :=
 ⟨⟨vs,f,g,j,o⟩,⟨_,g⟩,λB D ⟨s,f,u,v⟩ k=>⟨s,f,k _ u,v⟩⟩
section
variable{X:Cx}{pins:List (Addr×Obj)}{σ:St}{H:Hp}{s:Ah}{x C d:Addr}{f:Str}{y:V}{u:Value}{A:Around}{E:Value->Ah->Prop}{Q:Unit->Ah->Prop}
def x1b(I:Inv X pins σ H s)(P:H x=some (ExN (.ref C) (some d) x))(hd:H d=some (XdO d fs))(S:ESet X.K C f)(hl:fs.length<1000)(R:RelV y u)(h:∀s',Inv X pins σ (upd H d (XdO d (putF f y fs))) s'->Q () s'):wpAny (model X.prog X.w) A (Yb (.ref x) f u) Q E s:=by
 obtain⟨⟨vs,T,L,q2,q3⟩,_,_⟩:=I.hok x _ P;obtain⟨⟨U,n,r,M⟩,⟨W,v⟩,_⟩:=I.hok d _ hd;have J:Qx s.heap x { cls:=.ref C,dict:=some d,data:=.fields vs,slots:=T } C (some W):=⟨L,rfl,rfl,v⟩
 refine Wq I.kIn J S.sa (z3g I.kIn J S ?_);obtain⟨cd,Y,_,B⟩:=S.cls;refine Ac (Ad (Ac (Ac (Sz L (Ac (Vg (Qc I.kIn Y) ?_))))));rw[B];refine Ad (Ac (Ad (Ac ?_)));refine Vh n λO j D=>?_;obtain⟨oD,Z,a0,o,F,G⟩:=j.count (Qk f u M);refine Ac (Qy o (by rw[F];exact Qz (Ay G (by rw[Bc,Ae,Et];lia))) ?_);refine Ad (h _ (I.write (t':=s.toks+1+1) (h':=O) (by rw[hd];exact trivial) (.inl rfl) (λb q hb z=>(D.2 b hb).trans z) ⟨_,o⟩ (x9j j (λg=>?_) λg hg=>?_)))
 ·show RelO ((putF f y fs).lookup g) (if g=f then some u else U g);rw[q3d];by_cases q:g=f
  ·rw[if_pos q,if_pos q];exact R
  ·grind
 ·by_cases q:g=f
  ·rw[q];exact(q3u f y fs).1
  ·refine(q3u f y fs).2 g (M g λz=>hg ?_);rw[if_neg q];exact z
def x1c(I:Inv X pins σ H s)(Z:H x=some (ExN (.ref C) none x))(S:ESet X.K C f)(ry:RelV y u)(h:∀d s',H d=none->d≠x->Inv X pins σ (upd (upd (upd H d (XdO d [])) x (ExN (.ref C) (some d) x)) d (XdO d [(f,y)])) s'->Q () s'):wpAny (model X.prog X.w) A (Yb (.ref x) f u) Q E s:=by
 obtain⟨⟨vs,sl,M,q2,q3⟩,_,_⟩:=I.hok x _ Z;have J:Qx s.heap x { cls:=.ref C,dict:=none,data:=.fields vs,slots:=sl } C none:=⟨M,rfl,rfl,trivial⟩
 refine Wq I.kIn J S.sa (z3g I.kIn J S ?_);obtain⟨cd,hc,_,P⟩:=S.cls;refine Ac (Ad (Ac (Ac (Sz M (Ac (Vg (Qc I.kIn hc) ?_))))));rw[P];have D:=As M;have j:=I.hok.fresh (Aj s.heap.objs.size);have B:=Ez D;have e1:(s.heap.push Eo).get? s.heap.objs.size=some Eo:=Aw s.heap rfl;have e3:(s.heap.push Eo).Ns s.heap.objs.size (λ_=>none):=⟨Eo,#[],_,e1,rfl,(λe he=>absurd he (by simp)),λ_=>rfl⟩
 have I1:=I.laid (o:=XdO s.heap.objs.size []) (h':=s.heap.push Eo) (t':=s.toks+1) (λb u q=>Ag _ q) (Aj _) (x9j (Vz e3) (λ_=>True.intro) λy hy=>absurd rfl hy);have q1':=Ag Eo M;have v:=Fo (λo:Obj=>{ o with dict:=some s.heap.objs.size }) q1' rfl;have R:upd H s.heap.objs.size (XdO s.heap.objs.size []) x=some (ExN (.ref C) none x):=by rw[q0g (Cp B)];exact Z
 have I2:=I1.write (t':=s.toks+1) (h':=(s.heap.push Eo).update x (λo:Obj=>{ o with dict:=some s.heap.objs.size })) (by rw[R];exact trivial) (.inl rfl)
  (λb u T hu=>by rw[Cm _ _ (Cp T)];exact hu) ⟨_,v⟩ (exn_ok v q2 q3)
 have F:upd (upd H s.heap.objs.size (XdO s.heap.objs.size [])) x (ExN (.ref C) (some s.heap.objs.size) x) s.heap.objs.size=some (XdO s.heap.objs.size []):=by rw[q0g B,q0c]
 obtain⟨⟨mA,n,r,wi⟩,⟨od,a0⟩,_⟩:=I2.hok _ _ F;refine Ac (wpAny_alloc (Ac (wpAny_update q1' ?_)));refine Ad (Ac (Ad (Ac ?_)));refine Vh n λO G U=>?_
 obtain⟨oD,a1,a2,L,W,Y⟩:=G.count (Qk f u wi);refine Ac (Qy L (by rw[W];exact Qz (Ay Y (by rw[Bc,Ae,Et];decide))) ?_);refine Ad (h s.heap.objs.size _ j B (I2.write (t':=s.toks+1+1) (h':=O) (by rw[F];exact trivial) (.inl rfl) (λb q T z=>(U.2 b T).trans z) ⟨_,L⟩ (x9j G (λg=>?_) λg hg=>?_)))
 ·have e:(putF f y []).lookup g=if g=f then some y else List.lookup g []:=q3d f g y []
  show RelO ((putF f y []).lookup g) (if g=f then some u else mA g);rw[e];by_cases q:g=f
  ·rw[if_pos q,if_pos q];exact ry
  ·grind
 ·by_cases q:g=f
  ·grind
  ·exfalso;have:=wi g λz=>hg (by show(if g=f then some u else mA g)=none;rw[if_neg q];exact z);cases this
end
structure EGet (K) (C) (f):Prop where
 cls:∃cd,Yc K C=some cd/\ExMro cd.mro/\cd.hasDict=true
 ga:Ck K (.ref C) "__getattribute__" = some (some (.builtin "BaseException.__getattribute__"))
 gh:Ck K (.ref C) "__getattr__" = some none
 tk:Ck K (.ref C) f=some none
def x9k(h:ExMro l):l.contains (.type "BaseException")=true:=by
 obtain⟨f,rfl⟩:=h;induction f with
 |nil=>decide
 |cons c r ih=>show(Value.ref c::(r.map Value.ref++bmV)).contains _=true;rw[Lq,ih,Vs]
section
variable{prog:Aq}{w:World}{A:Around}{E:Value->Ah->Prop}{s:Ah}{K:Ai}{x C:Addr}{ox:Obj}{od:Option Obj}{name:Str}{expr:Bool}{v:Value}{Q:Value->Ah->Prop}
def getE(X:K.In s.heap)(I:Qx s.heap x ox C od)(G:EGet K C name)(B:W.findObj K C od name=some (.value v))(D:Xj v=true)(h:Q v { s with toks:=s.toks+1 }):
  wpAny (model prog w) A (Xz (.ref x) name expr) Q E s:=by
 obtain⟨H,g,d,t,os⟩:=s;have o:=I.type (M:=model prog w);have J:=Ox (M:=model prog w) X G.ga;have L:=Ox (M:=model prog w) X G.gh;have O:=W.looks_find (M:=model prog w) X I B;have P:=PySem.F.excAttr_ValueError.ga;obtain⟨S,R,u,_⟩:=G.cls;have sub:W.Looks (model prog w) H (isInstance (.ref x) (.type "BaseException")) true:=I.type.andThen (W.looks_mroIn X (by unfold W.mroIn;rw[R,Xe,if_neg (by rw[(x1a u).2];decide),x9k u]));have hk:builtinKind "BaseException.__getattribute__" = some .slot:=by trivial
 have f:splitId "BaseException.__getattribute__" = some ("BaseException", "__getattribute__"):=by trivial
 refine Ac (wpAny_mkText (Dh (Ac (o.at (Ac (J.at ?_))))));refine Ac (show wpAny _ _ (Ue (.ref C) "__getattr__") _ _ _ from L.at ?_);have j:(expr&&onTheHeap (Value.builtin "BaseException.__getattribute__"))=false:=by cases expr<;>rfl
 unfold callGetattribute boundAndCalled;rw[j];refine Ac (Fe (Dh (show wpAny _ _ (bindSpecial _ _ >>= _) _ _ _ from ?_)));refine Ac (Ad (Ja (Gu P.plain PySem.F.entry_bexc_ga (@W.check_slot (model prog w) _ _ _ "BaseException.__getattribute__" "BaseException" "__getattribute__" (.ref x) [.str name t] [] _ hk f sub (PySem.F.args_bexc_ga (.ref x) (.str name t)) ?_))));refine Ac (Ad (Ac (Ad (Ac (o.at (Ac (O.at ?_)))))));refine Ad ?_;show wpAny _ _ (handedOut v) _ _ _;rw[W.handedOut_of D];exact Ad h
end
section
variable{X:Cx}{e o value:Expr}{f:Str}{pos pos':Pos}{ta tv:TE}
noncomputable def tEfld(K:Ai)(ta:TE)(f:Str):TE:=λσ H Q=>ta σ H λx H1=>∃a C d fs v,x=.ref a/\(H1 a=some (ExO (.ref C) (some d) a)\/H1 a=some (ExN (.ref C) (some d) a))/\H1 d=some (XdO d fs)/\EGet K C f/\fs.lookup f=some v/\Q v H1
def x7i(K)(S:X.K=K)(T:PE X e ta)(U:Fs e f X.env (eval e X.env)=eval e X.env:=by rfl):PE X (.Attribute e f pos) (tEfld K ta f):=by
 subst S;intro j s Y H Q I h;refine z9i U (thnE (T j s Y H _ I h) λu P x Z o rx qz=>?_);obtain⟨a,C,d,fs,v,ex,B,hd,G,l,q⟩:=qz;subst ex;obtain rfl:u=Value.ref a:=rx;obtain⟨⟨mA,n,r,wi⟩,_,_⟩:=o.hok d _ hd;obtain⟨od,L,M⟩:=z1w n;have D:∃vs g,P.heap.get? a=some { cls:=.ref C,dict:=some d,data:=.fields vs,slots:=g }:=by
  rcases B with B|B
  ·obtain⟨⟨vs,g,E,_⟩,_,_⟩:=o.hok a _ B;exact⟨vs,g,E⟩
  ·obtain⟨⟨vs,g,E,_⟩,_,_⟩:=o.hok a _ B;exact⟨vs,g,E⟩
 obtain⟨vs,g,E⟩:=D;have J:Qx P.heap a { cls:=.ref C,dict:=some d,data:=.fields vs,slots:=g } C (some od):=⟨E,rfl,rfl,L⟩
 have F:=r f;rw[l] at F;cases hm:mA f with
 |none=>rw[hm] at F;exact F.elim
 |some u =>
  rw[hm] at F;have R:=F;have hh:Mm X.K C=true:=by
   obtain⟨cd,hc,_,O⟩:=G.cls;unfold Mm;rw[hc];exact O
  exact getE o.kIn J G (W.findObj_own hh G.tk rfl (by rw[M,hm])) (z1x R) ⟨v,Z,o.tok _,R,q⟩
noncomputable def sEfld(K:Ai)(ta tv:TE)(f:Str):TS:=λD σ H=>tv σ H λy H1=>ta σ H1 λx H2=>∃a C,x=.ref a/\ESet K C f /\
 ((H2 a=some (ExN (.ref C) none a)/\∀d,H2 d=none->d≠a->D.nx σ (upd (upd (upd H2 d (XdO d [])) a (ExN (.ref C) (some d) a)) d (XdO d [(f,y)]))) \/
  ∃d fs,H2 a=some (ExN (.ref C) (some d) a)/\H2 d=some (XdO d fs)/\fs.length<1000/\D.nx σ (upd H2 d (XdO d (putF f y fs))))
def x7j(K)(L:X.K=K)(ha:PE X o ta)(M:PE X value tv)(O:Iw value (some (.Attribute o f pos')) pos.line X.env=pure false:=by rfl):PS X (.Assign [.Attribute o f pos'] value pos) (sEfld K ta tv f):=by
 subst L;intro g s v H D I h;refine Nm (thnE (M g s v H _ I h) λu P y Q R G q=>thnE (ha g P v Q _ R q) λT Z x H2 J U W=>?_) O;obtain⟨a,C,ex,S,j⟩:=W;subst ex;obtain rfl:T=Value.ref a:=U;rcases j with⟨B,j⟩|⟨d,fs,B,hd,hl,j⟩
 ·exact x1c J B S G λd Y hn E F=>⟨v,_,F,j d hn E⟩
 ·exact x1b J B hd S hl G λY F=>⟨v,_,F,j⟩
end
noncomputable def strKey(e:Lh):Bool:=match e.key with|.str _ _=>true|_=>false
noncomputable def isNsK(K:Ai)(N:Addr):Bool:=match K.lookup N with|some ⟨_,_,.dict es _,_⟩=>es.toList.all strKey|_=>false
noncomputable def nsMapK(K:Ai)(N:Addr)(name:Str):Option Value:=match K.lookup N with|some ⟨_,_,.dict es _,_⟩=>nsFind es name|_=>none
def ns_K{K}(e:isNsK K N=true)(h)(X:K.In h):h.Ns N (nsMapK K N):=by
 unfold isNsK at e;split at e
 ·rename_i c d es ep sl q;refine⟨_,es,ep,X _ _ q,rfl,λx g=>?_,λf=>?_⟩
  ·have hx':=Ik.mp e x (Uc.mpr g);unfold strKey at hx';split at hx'
   ·grind
   ·cases hx'
  ·unfold nsMapK;rw[q]
 ·cases e
def z4w{K}(e:Ia K N name=some (some v)):nsMapK K N name=some v:=by
 unfold Ia at e;unfold nsMapK;split at e
 ·rename_i c d es ep sl q;rw[q];dsimp only;split at e
  ·rename_i x hx;unfold nsFind findBy;rw[<- Pg,hx];exact Co e
  ·split at e<;>cases e
 ·cases e
def z4x{K}(e:Ia K N name=some none):nsMapK K N name=none:=by
 unfold Ia at e;unfold nsMapK;split at e
 ·rename_i c d es ep sl q;rw[q];dsimp only;split at e
  ·cases e
  ·rename_i hx;unfold nsFind findBy;rw[<- Pg,hx];rfl
 ·cases e
def z6p{K}(l:K.lookup N=some ⟨oc,od,.dict es ep,sl⟩)(h:es.toList.all strKey=true):isNsK K N=true:=by
 unfold isNsK;rw[l];exact h
structure EBase (K) (D):Prop where
 ex:∃nm q N bs sn sub ab col dd k0 k1 k2 k3 k5,K.lookup D=some (Fg nm q D N bs bmV true sn sub ab col dd k0 k1 k2 k3 k5 "ValueError.__new__")/\isNsK K N=true/\Ia K N "__init__" = some none
def EBase.tail{K}(B:EBase K D)(h)(X:K.In h):To h bmV (.ref D::bmV):=by
 obtain⟨nm,q,N,bs,o,sub,s,f,u,v,C,E,F,G,g,hn,j⟩:=B.ex;exact .own (X _ _ g) (ns_K hn h X) (z4x j) .base
structure ELaw (K) (C D fI):Prop where
 ex:∃nm q N bs sn sub ab col dd k0 k1 k2 k3 k5,K.lookup C=some (Fg nm q C N bs (.ref D::bmV) true sn sub ab col dd k0 k1 k2 k3 k5 "ValueError.__new__")/\isNsK K N=true/\Ia K N "__init__" = some (some (.ref fI))
 fn:∃oI,K.lookup fI=some oI/\oI.cls=.type "function"
 kp:Fy K (.ref C)=true
section
variable{K:Ai}{C D fI:Addr}
def ELaw.mk_(L:ELaw K C D fI)(B:EBase K D):EMk K C fI (.ref D::bmV):=by
 obtain⟨nm,q,N,bs,g,sub,j,f,o,s,u,v,E,F,G,hn,H⟩:=L.ex;exact⟨⟨nm,q,N,bs,true,g,sub,j,f,o,s,u,v,E,F,nsMapK K N,G,ns_K hn,z4w H⟩,λh X=>B.tail h X,L.fn,L.kp⟩
def ELaw.cls(L:ELaw K C D fI):ECls K C (.ref D::bmV):=by
 obtain⟨nm,q,N,bs,g,sub,h,f,j,o,s,u,v,B,E,_⟩:=L.ex;exact⟨⟨nm,q,N,bs,true,g,sub,h,f,j,o,s,u,v,B,_,E⟩,by rw[Lq,show bmV.contains (.type "BaseException")=true from by decide,Vs]⟩
def ELaw.clsIn(L:ELaw K C D fI):∃f,Yc K C=some f/\ExMro f.mro/\f.hasDict=true:=by
 obtain⟨nm,q,N,bs,j,sub,o,g,s,u,v,B,E,F,h,_⟩:=L.ex;unfold Yc;rw[h];exact⟨_,rfl,⟨[C,D],rfl⟩,rfl⟩
def ELaw.set(L:ELaw K C D fI)(sa:Ck K (.ref C) "__setattr__" = some (some (.builtin "object.__setattr__")))(tk:Ck K (.ref C) f=some none):ESet K C f:=⟨L.clsIn,sa,tk⟩
def ELaw.get(L:ELaw K C D fI)(ga:Ck K (.ref C) "__getattribute__" = some (some (.builtin "BaseException.__getattribute__")))(gh:Ck K (.ref C) "__getattr__" = some none)(tk:Ck K (.ref C) f=some none):EGet K C f:=⟨L.clsIn,ga,gh,tk⟩
end
structure CalE (P) (w) (K) (mg) (base) (x) (C) (k) (ps) (sp):Prop where
 ex:∃fI fd bm,EMk K C fI bm/\FnOk P w K mg base CX0 k fI fd ps sp/\Binds K fd ps []
 at_:mg x=some (.ref C)
 sz:ps.length<=100
section
variable{X:Cx}{J:Addr->St->Hp->Prop}{k j:Nat}{C:Addr}{ps:List Str}{sp:Sp}{x:Str}{np cpos pos:Pos}{e₀:Expr}{es:List Expr}{t:TA}
def ps_rs(F:CalE X.prog X.w X.K X.mg X.base x C k ps sp)(o:Room j X.A)(s:AccX X J)(u:X.calm=true)(ha:PA X (e₀::es) t)(f:k+1<=j:=by decide)(v:Gl X x:=by rfl)(g:(x==("__debug__" : Str))=false:=by decide)(B:Bd (e₀::es) X.env=(false,eval e₀ X.env)::Bd es X.env:=by rfl)(h:(El cpos (Bd es X.env)).any (·.1)=false:=by rfl):
  PS X (.Raise (some (.Call (.Name x np) (e₀::es) [] cpos)) none pos) (tRaise C sp J t):=by
 obtain⟨G,fd,H,M,D,E⟩:=F.ex;exact x4u M D (o.mono f) E s u v F.at_ ha F.sz g B h
end
structure Ef (K) (mg:Str->Option Value) (x) (C D) (qual) (st) (ps):Prop where
 ex:∃f fd mc,Fun K "__init__" qual st f fd/\ELaw K C D f/\EBase K D/\EIni K D mc/\Binds K fd ps []
 at_:mg x=some (.ref C)
def Ef.cal{K}{st}(F:Ef K mg x C D qual st ps)(S:FnScope N ps (defScope st))(len:∀vs H Q E,sp vs H Q E->vs.length=ps.length)(o:ps.length<=100)(j:∀ u   f   g   A   outer   s   H   vs   Q   E ,ELow K C (.ref D::bmV)->EIni K D u->Room k (A.deeper (Hy qual (defScope st) s.heap.objs.size f g))->sp vs H Q E ->
   ∃t,PSs (cxOf CX0 P w K mg base N qual (defScope st) f g A outer s H E).nox (defBody st) t/\t { nx:=λ_ H'=>Q .non H',rt:=Q } (start N vs) H):CalE P w K mg base x C (k+1) ps sp:=by
 obtain⟨f,fd,u,v,L,B,I,G⟩:=F.ex;exact⟨⟨f,fd,_,L.mk_ B,v.ok S len λg A outer s H vs Q E J h=>j u f g A outer s H vs Q E (L.mk_ B).low I J h,G⟩,F.at_,o⟩
noncomputable abbrev TF:=St->Hp->(Str->Hp->Prop)->Prop
noncomputable def PF1(X:Cx)(e:Expr)(t:TF):Prop:=∀ pins   s  (σ:St)  H   R ,Inv X pins σ H s->t σ H R ->
 wpAny (model X.prog X.w) X.A (eval e X.env) (λv s1=>∃y k H1,v=.str y k/\Inv X pins σ H1 s1/\R y H1) X.xe s
noncomputable def PFs(X:Cx):List Expr->List TF->Prop
 |[],[]=>True
 |e::es,t::ts=>PF1 X e t/\PFs X es ts
 |_,_=>False
noncomputable def tFs:List TF->Str->St->Hp->VK->Prop
 |[],acc,_,H,Q=>acc.length<=sizeLine/\Q (.str acc) H
 |t::ts,acc,σ,H,Q=>t σ H λy H1=>(acc++y).length<=sizeLine/\tFs ts (acc++y) σ H1 Q
section
variable{X:Cx}
def x4v{o:St}:∀{ts} {g} {acc} {H} {s},PFs X g ts->Inv X pins o H s->tFs ts acc o H Q ->
  Joins (model X.prog X.w) X.A X.xe (evalEach g X.env) acc (λout f=>out.length<=sizeLine/\EP X pins o Q (.str out f.toks) { f with toks:=f.toks+1 }) s:=by
 intro ts;induction ts with
 |nil =>
  intro g acc H s j I h;cases g with
  |nil=>exact⟨h.1,.str acc,H,I.tok _,⟨_,rfl⟩,h.2⟩
  |cons e g=>exact False.elim j
 |cons t ts ih =>
  intro g acc H s j I h;cases g with
  |nil=>exact False.elim j
  |cons e g =>
   refine Bs (j.1 pins s o H _ I h) (λv D z=>?_) λ_ _ z=>z;obtain⟨y,k,E,u,B,C,q⟩:=z;exact⟨y,k,u,C,ih j.2 B q⟩
def x9l{rest}(B:PF1 X j f)(C:PF1 X o g)(D:PFs X rest ts):PE X (.JoinedStr (j::o::rest) pos) (λu H Q=>tFs (f::g::ts) Vi u H Q):=by
 intro v s u H Q I h;exact wpAny_JoinedStr (x4v (ts:=f::g::ts) ⟨B,C,D⟩ I h)
def x9m:PFs X [] []:=trivial
def z6q(h:PF1 X e t)(r:PFs X f ts):PFs X (e::f) (t::ts):=⟨h,r⟩
def x7k:PF1 X (.Constant (.str c) k pos) (λ_ H R=>R c H):=by
 intro f s j H R I h;exact thnE (q0i f s j H (λv g=>∃y,v=.str y/\R y g) I ⟨c,rfl,h⟩) λu D v g o B ⟨y,C,q⟩=>by
  subst C;obtain⟨t,rfl⟩:=B;exact⟨y,t,g,rfl,o,q⟩
end
theorem x1d{K}:∀xs:List Str,Dts K H (xs.map V.str) (xs.map Ce.str)
 |[]=>.nil
 |x::xs=>.cons (.str x) (x1d xs)
theorem x1e:∀xs:List Str,Pu (xs.map Ce.str)=true
 |[]=>rfl
 |x::xs=>by
  rw[Am];unfold Pu Ce.showable;rw[x1e xs];rfl
theorem x1f:∀xs:List Str,Wk (xs.map Ce.str)=false
 |[]=>rfl
 |x::xs=>by
  rw[Am];unfold Wk Ce.hasDict;rw[x1f xs];rfl
theorem x1g:∀xs:List Str,Dw (xs.map Ce.str)<=2
 |[]=>by simp[Dw]
 |x::xs=>by
  have:=x1g xs;rw[Am];simp only[Dw,Gw];lia
theorem z3h:∀xs:List Str,(∀x∈xs,x.length<=100/\∀c∈x.cps.toList,c<16^8)->piled (Ld (xs.map Ce.str))<=1004*xs.length
 |[],_=>by simp[Ld,piled]
 |x::xs,h=>by
  have j:=z3h xs λy f=>h y (Ak _ f);obtain⟨o,g⟩:=h x Al;have s:=StrLaws.reprText_len x g;rw[Am];unfold Ld;rw[piled_cons,Bc];show(reprText x).length+2+_<=_;lia
def q7t(x y:Str):(x++y).length=x.length+y.length:=TX.app_len x y
def z0h:(tupleText ts).length<=piled ts+10:=by
 unfold tupleText;rw[q7t,q7t];have g:(Ab "(").length=1:=by trivial
 have h:(Ke ", " ts).length<=piled ts:=by
  cases ts with
  |nil=>show(Ke ", " []).length<=_;decide +kernel
  |cons t ts=>have:=join_length_add (t::ts) (by simp);lia
 have f:∀b:Bool,(Ab (if b=true then ",)" else ")" : String)).length<=2:=by intro b;cases b<;>decide +kernel
 have j:=f (ts.length==1);lia
section
variable{X:Cx}{k:Nat}
noncomputable def tFt(K:Ai)(te:TE):TF:=λσ H R=>te σ H λv H1=>∃(a:Addr) (xs:List Str),v=.ref a/\SqT K H1 a (xs.map V.str)/\xs.length<=100/\(∀x∈xs,x.length<=100/\∀c∈x.cps.toList,c<16^8)/\∀y,y.length<=200000->R y H1
def x7l(K)(D:X.K=K)(j:Room k X.A)(E:PE X e te):PF1 X (.FormattedValue e (-1) none pos) (tFt K te):=by
 subst D;intro g s F H R I h;refine FormattedValue_plain (thnE (E g s F H _ I h) λu P v G B J L=>?_);obtain⟨a,f,M,ha,hl,O,q⟩:=L;subst M;obtain rfl:u=Value.ref a:=J;obtain⟨Q,rd⟩:=Dt.reads B (.tup ha (x1d f)) (show RelV (.ref a) (.ref a) from rfl);have S:=j.un;have hd:(Ce.tuple (f.map Ce.str)).depth<=3:=by
  have:=x1g f;simp only[Gw];lia
 have C:(Ce.tuple (f.map Ce.str)).shown.length<=200000:=by
  show(tupleText (Ld (f.map Ce.str))).length<=_;have T:=z0h (ts:=Ld (f.map Ce.str));have U:=z3h f O;lia
 refine formatField_of_reads rd (show Pu _=true from x1e f) (λz=>?_) j.gd (by lia) (λb o h=>h) (λW u tk hk=>⟨_,u,G,rfl,B.kept hk,q _ C⟩) (Ay C (TX.small (by lia)));rw[show(Ce.tuple (f.map Ce.str)).hasDict=false from x1f f] at z;cases z
end
def z0i(u:s.heap.get? a=some o)(v:o.ExactDict)(hd:o.data=.dict es ep)(B:(a==Dk)=false)(C:es.size<=sizeLine)(h:∀t t',Q (.int es.size t) { s with toks:=t' }):wpAny (model prog w) A (call (.builtin "len") [.ref a]) Q E s:=by
  have g:s.TypeIs (.ref a) "dict" := ⟨o,u,v.1⟩
  have f:¬((es.size:Nat):Int)>=2^63:=by rw[Et] at C;lia
  refine Ja (Gu (by trivial) entry_len ?_);have j:Mz "len" ⟨[.ref a],[]⟩=pure ():=by
    first
      |exact checkBuiltinCall_of_none (by trivial) (by trivial) _
      |rfl
      |(unfold Mz;rfl)
  refine Jf j ?_;refine Ac ?_;refine Ad (Ac (Cj g Tp (Cb Tp g PySem.F.entry_dict_len ?_ (PySem.F.args_dict_len_1 _))));refine Ac (Ac (Ng g ?_));refine Ad ?_;show wpAny _ _ (do
      let __do_lift<-dictSize a;let __do_lift_1<-Qu a
      retInt (↑__do_lift + ↑__do_lift_1)) _ _ _
  unfold dictSize Qu;rw[B];refine Ac (Ac (Gy u hd (Ad ?_)));refine Ac (Ad ?_);have D:((es.size:Nat):Int)+((0:Nat):Int)=es.size:=by lia
  rw[D]
  wp_walk
  refine⟨_,rfl,?_⟩;have hn:¬((es.size:Nat):Int)<0:=by lia
  refine Ac (Dh ?_);refine Ad (Ac (Mr ?_));rw[if_neg hn,if_neg f]
  wp_walk
  exact h _ _
section
variable{P:Aq}{w:World}
noncomputable def IsPairKey(P:Aq)(w:World)(h:Heap)(k:List Key×Key)(a:Addr):Prop:=∃o n b v,h.get? a=some o/\o.cls=.type "tuple" /\ o.data=.seq #[.ref b,v] n/\IsTupleKey (mixKind P w) h k.1 b/\(mixKind P w).is k.2 v=true
def IsPairKey.typeIs{s:Ah}(x:IsPairKey P w s.heap k a):s.TypeIs (.ref a) "tuple" := by obtain⟨o,_,_,_,f,g,_⟩:=x;exact⟨o,f,g⟩
def IsPairKey.inj(u:IsPairKey P w h x a)(B:IsPairKey P w h y a):x=y:=by
 obtain⟨o,n,b,v,C,_,hd,D,E⟩:=u;obtain⟨F,H,I,J,g,_,f,j,s⟩:=B;obtain rfl:o=F:=Co (C.symm.trans g);rw[hd] at f;injection f with e1 _;have G:=congrArg Array.toList e1;injection G with e3 e4;injection e3 with e3;injection e4 with e4 _;subst e3 e4;exact Wv (D.inj j) ((mixKind P w).inj _ _ _ E s)
def IsPairKey.keeps{es ep}(x:IsPairKey P w h k a)(s:h.get? d=some o)(hd:o.data=.dict es ep)(u:Gd d h h'):IsPairKey P w h' k a:=by
 obtain⟨B,n,b,v,g,C,f,D,E⟩:=x;have j:a≠d:=by
  rintro rfl;obtain rfl:B=o:=Co (g.symm.trans s);rw[hd] at f;exact nomatch f
 exact⟨B,n,b,v,(u.2 a j).trans g,C,f,D.keeps s hd u,E⟩
noncomputable def pairHash(P:Aq)(w:World)(k:List Key×Key):Int:=reduceHash (Ie [Io (mixKind P w) k.1,(mixKind P w).hash k.2])
variable{A:Around}{E:Value->Ah->Prop}{s:Ah}
def x1h(g:A.units+1<cLine)(hk:IsPairKey P w s.heap k a)(h:Q (pairHash P w k) { s with toks:=s.toks+(k.1.length+3) }):
  wpAny (model P w) A (pyHash (.ref a)) Q E s:=by
 have f:=hk.typeIs;obtain⟨o,n,b,v,j,_,hd,u,B⟩:=hk;unfold pyHash;first|unfold pyHashByItsType|skip
 first|refine Ac (wpAny_cRoomFor_or (.inr (by lia)) ?_)|skip
 refine Ac (Kz f Mj.lookup ?_);show wpAny _ _ (if (some (Value.builtin "tuple.__hash__")==some Value.none)=true then _ else _) Q E s;rw[if_neg (by rw[beq_builtin_none];exact Bm)];refine Ac (Kz f Mj.lookup ?_);show wpAny _ _ (callSpecialIfBoundUnlessNone? (.ref a) "__hash__" _ >>= _) Q E s;refine Ac (wpAny_callSpecialIfBoundUnlessNone?_slot f Mj (Cb Mj f F.entry_tuple_hash ?_ (F.args_tuple_hash_1 _)));show wpAny _ _ (Ko (.ref a) >>= _) _ _ s;refine Ac (Px j hd ?_);refine Ac ?_;rw[<- Py];refine Kh _
  (λrest (c:Array Int) s'=>(rest=[.ref b,v]/\c.toList=[]/\s'=s)\/(rest=[v]/\c.toList=[Io (mixKind P w) k.1]/\s'={ s with toks:=s.toks+(k.1.length+1) }) \/
   (rest=[]/\c.toList=[Io (mixKind P w) k.1,(mixKind P w).hash k.2]/\s'={ s with toks:=s.toks+(k.1.length+2) }))
  _ ?_ ?_ _ _ (.inl ⟨rfl,rfl,rfl⟩)
 ·rintro x rest c s' (⟨e,hc,rfl⟩|⟨e,hc,rfl⟩|⟨e,_⟩)
  ·cases e;refine Ac (wpAny_pyHash_tuple (Hs (knd:=mixKind P w) g) u ?_);have q:∀{x:Array Int},x=c.push (Io (mixKind P w) k.1)->x.toList=[Io (mixKind P w) k.1]:=λe=>by rw[e];simp[hc]
   first
    |exact Ad (.inr (.inl ⟨rfl,q rfl,rfl⟩))
    |exact Ac (Ad (Ad (.inr (.inl ⟨rfl,q rfl,rfl⟩))))
  ·cases e;refine Ac ((mixKind P w).pyHash B ?_);have q:∀{x:Array Int},x=c.push ((mixKind P w).hash k.2)->x.toList=[Io (mixKind P w) k.1,(mixKind P w).hash k.2]:=λe=>by rw[e];simp[hc]
   first
    |exact Ad (.inr (.inr ⟨rfl,q rfl,rfl⟩))
    |exact Ac (Ad (Ad (.inr (.inr ⟨rfl,q rfl,rfl⟩))))
  ·cases e
 ·rintro c s' (⟨e,_⟩|⟨e,_⟩|⟨_,hc,rfl⟩)
  ·cases e
  ·cases e
  show wpAny _ _ (retInt (Ie c.toList)) _ _ _;rw[hc];refine wpAny_ret_mkInt ?_;show wpAny _ _ (if (decide (-(2:Int)^63<=Ie [Io (mixKind P w) k.1,(mixKind P w).hash k.2])&&decide (Ie [Io (mixKind P w) k.1,(mixKind P w).hash k.2]<2^63))=true then _ else _) Q E _;unfold pairHash reduceHash at h;split
  ·rename_i hr;rw[if_pos hr] at h;exact Ad h
  ·rename_i hr;rw[if_neg hr] at h;exact Ac (Ge (Ad h))
def z3i(O:A.units<cLine)(Q:IsPairKey P w s.heap x a)(J:IsPairKey P w s.heap y b)(h:R (.done (.ret (.bool (decide (x=y))))) s):
  wpAny (model P w) A (Ea.«tuple.__eq__» ⟨[.ref a,.ref b],[]⟩) R E s:=by
 have f:=J.typeIs;obtain⟨U,na,S,L,g,_,j,o,B⟩:=Q;obtain⟨W,nb,T,M,C,_,D,F,G⟩:=J;show wpAny _ _ (isInstance (.ref b) (.type "tuple") >>= _) _ _ s;refine Ac (Gi f Ni ?_);simp only[Gg,Bq,if_false];refine Ac (Px g j ?_);refine Ac (Px C D ?_);refine Ac ?_;refine Kh _
  (λrest r H=>r.1=none/\H=s/\((rest=[(.ref S,.ref T),(L,M)])\/(rest=[(L,M)]/\x.1=y.1)\/(rest=[]/\x=y)))
  _ ?_ ?_ _ _ ⟨rfl,rfl,.inl rfl⟩
 ·rintro⟨u,v⟩ rest r H ⟨hr,rfl,e|⟨e,e1⟩|⟨e,_⟩⟩
  ·cases e;refine Ac (wpAny_eqBool_tuple O o F ?_);by_cases hk:x.1=y.1
   ·rw[decide_eq_true hk];simp only[Gg,Bq,if_false];exact Ad ⟨rfl,rfl,.inr (.inl ⟨by trivial,hk⟩)⟩
   ·rw[decide_eq_false hk];simp only[Tn,if_true];have I:decide (x=y)=false:=decide_eq_false λz=>hk (by rw[z]);rw[I] at h;exact Ac (Ad (Ad (Ad h)))
  ·cases e;refine Ac ((mixKind P w).eqBool (a:=x.2) (b:=y.2) B G ?_);by_cases hk:x.2=y.2
   ·rw[decide_eq_true hk];simp only[Gg,Bq,if_false];exact Ad ⟨rfl,rfl,.inr (.inr ⟨by trivial,Wv e1 hk⟩)⟩
   ·rw[decide_eq_false hk];simp only[Tn,if_true];have I:decide (x=y)=false:=decide_eq_false λz=>hk (by rw[z]);rw[I] at h;exact Ac (Ad (Ad (Ad h)))
  ·cases e
 ·rintro⟨r1,r2⟩ H ⟨hr,rfl,e|⟨e,_⟩|⟨_,e⟩⟩
  ·cases e
  ·cases e
  simp only at hr;subst hr;refine Ad ?_;rw[decide_eq_true e] at h;exact h
def x9n(o:A.units+1<cLine)(g:IsPairKey P w s.heap x a)(j:IsPairKey P w s.heap y b)(h:Q (decide (x=y)) s):
  wpAny (model P w) A (eqBool (.ref a) (.ref b)) Q E s:=by
 unfold eqBool;try with_reducible refine Dh ?_
 show wpAny _ _ (if (Value.ref a==Value.ref b)=true then _ else _) Q E s;by_cases f:(Value.ref a==Value.ref b)=true
 ·rw[if_pos f];have e:a=b:=by have:=eq_of_beq f;injection this
  subst e;obtain rfl:=g.inj j;exact Ac (Ge (Ad (by simpa using h)))
 ·rw[if_neg f];exact Ac (wpAny_richCompare_same_room (op:=.Eq) g.typeIs j.typeIs Oh
   (Cb Oh g.typeIs F.entry_tuple_eq (z3i (Hs (knd:=mixKind P w) o) g j ⟨_,rfl,(λe=>nomatch e),Fw h⟩) (F.args_tuple_eq_2 _ _)) (by lia))
def z4y(hk:IsTupleKey (mixKind P w) s.heap ks a)(h:Q true s):wpAny (model P w) A (Vt (n+1) (.ref a)) Q E s:=by
 have D:=hk.typeIs;obtain⟨o,g,m,F,_,hd,G⟩:=hk;unfold Vt;refine Ac (Kz D Oh.lookup ?_);show wpAny _ _ (isInstance (.ref a) (.type "tuple") >>= _) _ _ s;refine Ac (Gi D Ni ?_);simp only[Gg,Bq,if_false];refine Ac (Gm F hd ?_);refine Ac ?_;show wpAny _ _ (forIn g _ _) _ _ s;rw[<- Py];refine Kh _ (λrest r j=>r.1=none/\j=s/\∀v∈rest,carriedByValue v=true) _ ?_ ?_ _ _ ⟨rfl,rfl,G.byValue⟩
 ·rintro v rest r j ⟨B,rfl,f⟩;rw[Wl _ (f v Al)];refine Ac (Ad ?_);simp only[Gg,Bq,if_false];exact Ad ⟨rfl,rfl,λu C=>f u (Ak _ C)⟩
 ·rintro⟨H,I⟩ j ⟨B,rfl,_⟩;simp only at B;subst B;exact Ad h
def z8j(hk:IsPairKey P w s.heap k a)(h:Q true s):wpAny (model P w) A (Vt 8 (.ref a)) Q E s:=by
 have j:=hk.typeIs;obtain⟨o,m,b,v,B,_,hd,C,D⟩:=hk;unfold Vt;refine Ac (Kz j Oh.lookup ?_);show wpAny _ _ (isInstance (.ref a) (.type "tuple") >>= _) _ _ s;refine Ac (Gi j Ni ?_);simp only[Gg,Bq,if_false];refine Ac (Gm B hd ?_);refine Ac ?_;show wpAny _ _ (forIn #[Value.ref b,v] _ _) _ _ s;rw[<- Py];refine Kh _ (λrest r f=>r.1=none/\f=s/\(rest=[.ref b,v]\/rest=[v]\/rest=[])) _ ?_ ?_ _ _ ⟨rfl,rfl,.inl rfl⟩
 ·rintro u rest r f ⟨g,rfl,e|e|e⟩
  ·cases e;refine Ac (z4y C ?_);simp only[Gg,Bq,if_false];exact Ad ⟨rfl,rfl,.inr (.inl (by trivial))⟩
  ·cases e;rw[Wl _ ((mixKind P w).byValue _ _ D)];refine Ac (Ad ?_);simp only[Gg,Bq,if_false];exact Ad ⟨rfl,rfl,.inr (.inr (by trivial))⟩
  ·cases e
 ·rintro⟨F,G⟩ f ⟨g,rfl,_⟩;simp only at g;subst g;exact Ad h
noncomputable def pairKind(P)(w):HeapKind P w (List Key×Key) where
 is:=IsPairKey P w
 hash:=pairHash P w
 draws:=λk=>k.1.length+3
 room:=λA=>A.units+1<cLine
 inj:=λhx hy=>hx.inj hy
 keeps:=λx ho hd hs=>x.keeps ho hd hs
 pyHash:=λhu hk h=>x1h hu hk h
 eqBool:=λhu hx hy h=>x9n hu hx hy h
 quiet:=λhk h=>z8j hk h
end
noncomputable abbrev PKey:=List Key×Key
noncomputable def hasP(ks:List (PKey×Addr))(k:PKey):Bool:=ks.any λx=>decide (x.1=k)
noncomputable def entP(ks:List (PKey×Addr)):List (PKey×Addr×Value):=ks.map λx=>(x.1,x.2,.bool true)
noncomputable def PdO(P:Aq)(w:World)(d:Addr)(ks:List (PKey×Addr)):HO:=.ext λh=>∃o es ep,h.get? d=some o/\o.ExactDict/\o.data=.dict es ep/\es.toList=(entP ks).map (Qp (pairKind P w))/\((entP ks).map (·.1)).Nodup
noncomputable def PrK(H:Hp)(k:PKey)(a:Addr):Prop:=∃c,H a=some (.tup [.ref c,kV k.2])/\H c=some (.tup (k.1.map kV))
structure DPr (P) (w) (H:Hp) (d) (ks):Prop where
 at_:H d=some (PdO P w d ks)
 sys:(d==Dk)=false
 len:ks.length<=sizeLine
 pk:∀x∈ks,PrK H x.1 x.2
section
variable{P:Aq}{w:World}{H:Hp}{h:Heap}{d a:Addr}{ks:List (PKey×Addr)}{k:PKey}
def PrK.of(ok:HOk P w H h)(e:PrK H k a):(pairKind P w).is h k a:=by
 obtain⟨c,f,g⟩:=e;obtain⟨_,j,r,o,s,u,n,v⟩:=(show ObjOk P w H h a (.tup [.ref c,kV k.2]) from ok a _ f)
 cases r with
 |cons r1 r =>
 cases r with
 |cons r2 r =>
 cases r;cases(show _=Value.ref c from r1);exact⟨o,n,c,_,s,u,v,q7k ok g,z2o r2⟩
def DPr.of(x:DPr P w H d ks)(ok:HOk P w H h):h.DictOfH (pairKind P w) d (entP ks):=by
 obtain⟨⟨o,f,g,j,s,u,v,B⟩,_⟩:=(show ObjOk P w H h d (PdO P w d ks) from ok d _ x.at_)
 refine⟨o,f,g,j,s,u,v,λy C=>?_,B⟩;obtain⟨z,D,rfl⟩:=Az.mp C;exact(x.pk z D).of ok
def q9h:(atKey (entP ks) k).isSome=hasP ks k:=by
 unfold atKey entP hasP;rw[Mh];induction ks with
 |nil=>rfl
 |cons x xs ih =>
  rw[Am,Cq,Qd];cases e:decide (x.1=k)
  ·rw[<- ih];simp[e]
  ·simp[e]
end
def PrK.same(h:PrK H k a)(s:Same H H'):PrK H' k a:=let ⟨c,f,g⟩:=h;⟨c,s _ _ f,s _ _ g⟩
def DPr.same(x:DPr P w H d ks)(s:Same H H'):DPr P w H' d ks:=⟨s _ _ x.at_,x.sys,x.len,λy f=>(x.pk y f).same s⟩
def DPr.put(x:DPr P w H d ks)(e:PrK H k b)(l:ks.length<sizeLine):DPr P w (upd H d (PdO P w d (ks++[(k,b)]))) d (ks++[(k,b)]):=by
 have g:∀{c:Addr} {ys:List V},H c=some (.tup ys)->upd H d (PdO P w d (ks++[(k,b)])) c=some (.tup ys):=λ{c ys} e=>by
  rw[q0g (λz=>by rw[z,x.at_] at e;cases e)];exact e
 have pk:∀{k':PKey} {a:Addr},PrK H k' a->PrK (upd H d (PdO P w d (ks++[(k,b)]))) k' a:=λ⟨c,h,j⟩=>⟨c,g h,g j⟩
 refine⟨q0c,x.sys,by rw[Af];exact l,λy f=>?_⟩;rcases Au.mp f with f|f
 ·exact pk (x.pk y f)
 ·rw[Ao.mp f];exact pk e
section
variable{X:Cx}
noncomputable def tDNewP(P:Aq)(w:World):TE:=λ_ H Q=>∀p,H p=none->(p==Dk)=false->Q (.ref p) (upd H p (PdO P w p []))
def x4w(P)(w)(g:X.prog=P)(j:X.w=w):PE X (.Dict [] [] pos) (tDNewP P w):=λf s E H Q I h=>by
 subst g j;have u:=I.big;have v:(s.heap.objs.size==Dk)=false:=by rw[beq_eq_false_iff_ne];exact Ez u
 refine My ⟨.ref s.heap.objs.size,_,I.laid (o:=PdO X.prog X.w s.heap.objs.size []) (t':=s.toks) (λ_ _ q=>Ag _ q) (Aj _) ⟨⟨_,#[],0,Aw _ rfl,⟨rfl,rfl,rfl⟩,rfl,rfl,Td⟩,⟨_,Aw _ rfl⟩,λF G ⟨o,B,C,D,q⟩ k=>⟨o,B,C,k _ D,q⟩⟩,rfl,h _ (I.hok.fresh (Aj _)) v⟩
noncomputable def tPNotIn(P:Aq)(w:World)(ty td:TE):TE:=λσ H Q=>ty σ H λy H1=>td σ H1 λx H2=>∃d ks b k,x=.ref d/\y=.ref b/\DPr P w H2 d ks/\PrK H2 k b/\Q (.bl (!hasP ks k)) H2
def x1i(P)(w)(C:X.prog=P)(D:X.w=w)(E:X.A.units+2<cLine)(F:PE X i j)(G:PE X o v):PC X .NotIn i o (tPNotIn P w j v):=by
 subst C D;intro f s B H Q I h;refine thnE (F f s B H _ I h) λJ L y M O R S=>thnE (G f L B M _ O S) λu s2 x T g U W=>?_;obtain⟨d,Y,b,k,ex,Z,dp,pk,q2⟩:=W;subst ex Z;obtain rfl:u=Value.ref d:=U;obtain rfl:J=Value.ref b:=R;refine wpAny_notIn_heap (knd:=pairKind X.prog X.w) E (pk.of g.hok) dp.sys (dp.of g.hok) ?_;rw[q9h];exact⟨.bl (!hasP Y k),T,g.tok _,rfl,q2⟩
noncomputable def sPPut(P:Aq)(w:World)(td ty tv:TE):TS:=λD σ H=>tv σ H λv H1=>td σ H1 λx H2=>ty σ H2 λy H3=>∃d ks b k,x=.ref d/\y=.ref b/\v=.bl true/\DPr P w H3 d ks/\PrK H3 k b/\hasP ks k=false/\ks.length<sizeLine/\D.nx σ (upd H3 d (PdO P w d (ks++[(k,b)])))
def x9o(P)(w)(T:X.prog=P)(U:X.w=w)(W:X.A.units+2<cLine)(Y:PE X o Q)(Z:PE X i R)(hv:PE X f S)(E:Iw f (some (.Subscript o i j)) pos.line X.env=pure false):
  PS X (.Assign [.Subscript o i j] f pos) (sPPut P w Q R S):=by
 subst T U;intro g s C H D I h;refine Ms (thnE (hv g s C H _ I h) λr s1 v H1 I1 rv F=>thnE (Y g s1 C H1 _ I1 F) λu s2 x H2 I2 rx q2=>thnE (Z g s2 C H2 _ I2 q2) λiv s3 y H3 G ry qz=>?_) E;obtain⟨d,B,b,k,ex,ey,ev,dp,pk,nk,lk,q3⟩:=qz;subst ex ey ev;obtain rfl:u=Value.ref d:=rx;obtain rfl:iv=Value.ref b:=ry;obtain rfl:r=Value.bool true:=rv;refine Po (knd:=pairKind X.prog X.w) W (pk.of G.hok) (dp.of G.hok) (λh' J E=>?_) (by unfold entP;rw[Ae];exact Jk lk);have hn:atKey (entP B) k=none:=by
  have:=q9h (ks:=B) (k:=k);rw[nk] at this;cases e:atKey (entP B) k with
  |none=>rfl
  |some _=>rw[e] at this;cases this
 rw[storedH_new hn] at J;have ee:entP B++[(k,b,Value.bool true)]=entP (B++[(k,b)]):=by unfold entP;rw[Bb];rfl
 rw[ee] at J;obtain⟨o,L,M,O,e2,e3,e4,_,e5⟩:=J;refine⟨C,_,G.write (x:=d) (e:=d) (o:=PdO X.prog X.w d (B++[(k,b)])) (by rw[dp.at_];exact True.intro) (.inl rfl) (λc q hc z=>(E.2 c hc).trans z) ⟨o,O⟩ ⟨⟨o,L,M,O,e2,e3,e4,e5⟩,⟨o,O⟩,λh1 h2 ⟨o,L,M,F,q⟩ k=>⟨o,L,M,k _ F,q⟩⟩,q3⟩
end
def z3j(f:Room k A):A.units+2<cLine:=Ph (Uu (by decide:2<=64) _) f.units
open PySem PySem.Spec PyProof.Rows SB
noncomputable abbrev PVal:=PKey×Addr×Addr
structure PKd (P) (w) where
 knd:HeapKind P w PKey
 pr:Hp->PKey->Addr->Prop
 of:∀{H} {h} {k} {a},HOk P w H h->pr H k a->knd.is h k a
 room:∀{A},A.units+1<cLine->knd.room A
 keep:∀{H H'} {k} {a},(∀T xs,H T=some (.tup xs)->H' T=some (.tup xs))->pr H k a->pr H' k a
noncomputable def pkA(P)(w):PKd P w:=⟨pairKind P w,PrK,λok e=>PrK.of ok e,λh=>h,λk ⟨c,e1,e2⟩=>⟨c,k _ _ e1,k _ _ e2⟩⟩
noncomputable abbrev PInt:=PKey×Addr×Int
noncomputable def entIs(ks:List PInt)(es:List (PKey×Addr×Value)):Prop:=es.map (λx=>(x.1,x.2.1))=ks.map (λx=>(x.1,x.2.1))/\∀(i:Nat)  x ,ks[i]?=some x->∃t,es[i]?=some (x.1,x.2.1,Value.int x.2.2 t)
noncomputable def valI(ks:List PInt)(k:PKey):Option Int:=(ks.find? λx=>decide (x.1=k)).map (·.2.2)
noncomputable def putI(ks:List PInt)(k:PKey)(b:Addr)(v:Int):List PInt:=if (valI ks k).isSome then ks.map λx=>if x.1=k then(x.1,x.2.1,v) else x else ks++[(k,b,v)]
noncomputable def PiO{w}(kd:PKd P w)(d:Addr)(ks:List PInt):HO:=.ext λh=>∃o es ep ents,h.get? d=some o/\o.ExactDict/\o.data=.dict es ep/\es.toList=ents.map (Qp kd.knd)/\(ents.map (·.1)).Nodup/\entIs ks ents
structure DPi  {w} (kd:PKd P w) (H:Hp) (d) (ks):Prop where
 at_:H d=some (PiO kd d ks)
 sys:(d==Dk)=false
 len:ks.length<=sizeLine
 pk:∀x∈ks,kd.pr H x.1 x.2.1
section
variable{P:Aq}{w:World}{kd:PKd P w}{H H':Hp}{h:Heap}{d a b:Addr}{ks:List PInt}{k:PKey}{v:Int}
def entIs.mem(e:entIs ks f)(g:y∈f):∃x∈ks,x.1=y.1/\x.2.1=y.2.1:=by
 have:(y.1,y.2.1)∈ks.map (λx=>(x.1,x.2.1)):=by rw[<- e.1];exact Az.mpr ⟨y,g,rfl⟩
 obtain⟨x,h,q⟩:=Az.mp this;injection q with q1 q2;exact⟨x,h,q1,q2⟩
def entIs.len(e:entIs ks f):f.length=ks.length:=by
 have:=congrArg List.length e.1
 rwa [Ae,Ae] at this
def entIs.tl(e:entIs (x::ks) (y::f)):(∃t,y=(x.1,x.2.1,.int x.2.2 t))/\entIs ks f:=by
 refine⟨?_,?_,λi z g=>?_⟩
 ·obtain⟨t,h⟩:=e.2 0 x rfl;exact⟨t,Co h⟩
 ·have:=e.1;rw[Am,Am] at this;exact(List.cons.inj this).2
 ·obtain⟨t,h⟩:=e.2 (i+1) z g;exact⟨t,h⟩
def entIs.cons(e:entIs ks f):entIs (x::ks) ((x.1,x.2.1,.int x.2.2 t)::f):=by
 refine⟨by rw[Am,Am,e.1],λi z g=>?_⟩;cases i with
 |zero=>cases g;exact⟨t,rfl⟩
 |succ i=>exact e.2 i z g
def entIs.nil:entIs [] []:=⟨rfl,λi z f=>by cases f⟩
theorem entIs.at_:∀{ks} {es},entIs ks es->(valI ks k=none/\atKey es k=none)\/∃n t a,valI ks k=some n/\atKey es k=some (a,.int n t)
 |[],[],_=>.inl ⟨rfl,rfl⟩
 |[],_::_,e=>by have:=e.len;cases this
 |_::_,[],e=>by have:=e.len;cases this
 |x::ks,y::es,e=>by
  obtain⟨⟨t,rfl⟩,f⟩:=e.tl;unfold valI atKey;rw[Cq,Cq];cases q:decide (x.1=k)
  ·exact entIs.at_ f
  ·exact .inr ⟨x.2.2,t,x.2.1,rfl,rfl⟩
theorem entIs.put:∀{ks} {es},entIs ks es->entIs (ks.map λx=>if x.1=k then(x.1,x.2.1,v) else x) (es.map (putAt k (.int v t)))
 |[],[],_=>entIs.nil
 |[],_::_,e=>by have:=e.len;cases this
 |_::_,[],e=>by have:=e.len;cases this
 |x::ks,y::es,e=>by
  obtain⟨⟨t,rfl⟩,f⟩:=e.tl;rw[Am,Am];unfold putAt;by_cases q:x.1=k
  ·rw[if_pos q,if_pos q];exact(entIs.put f).cons (x:=(x.1,x.2.1,v))
  ·rw[if_neg q,if_neg q];exact(entIs.put f).cons
theorem entIs.snoc:∀{ks} {es},entIs ks es->entIs (ks++[(k,b,v)]) (es++[(k,b,.int v t)])
 |[],[],_=>entIs.nil.cons (x:=(k,b,v))
 |[],_::_,e=>by have:=e.len;cases this
 |_::_,[],e=>by have:=e.len;cases this
 |x::ks,y::es,e=>by
  obtain⟨⟨t,rfl⟩,f⟩:=e.tl;exact(entIs.snoc f).cons
def DPi.of(x:DPi kd H d ks)(ok:HOk P w H h):∃f,h.DictOfH kd.knd d f/\entIs ks f:=by
 obtain⟨⟨o,j,s,f,u,v,B,C,D,g⟩,_⟩:=(show ObjOk P w H h d (PiO kd d ks) from ok d _ x.at_)
 refine⟨f,⟨o,j,s,u,v,B,C,λy E=>?_,D⟩,g⟩;obtain⟨z,F,G,I⟩:=g.mem E;rw[<- G,<- I];exact kd.of ok (x.pk z F)
def DPi.same(x:DPi kd H d ks)(s:Same H H'):DPi kd H' d ks:=⟨s _ _ x.at_,x.sys,x.len,λy f=>kd.keep (λT g e=>s _ _ e) (x.pk y f)⟩
def x4x(h:x∈putI ks k b v):(∃y∈ks,y.1=x.1/\y.2.1=x.2.1)\/(x.1=k/\x.2.1=b):=by
 unfold putI at h;split at h
 ·obtain⟨y,f,rfl⟩:=Az.mp h;refine .inl ⟨y,f,?_⟩;split<;>exact⟨rfl,rfl⟩
 ·rcases Au.mp h with h|h
  ·exact .inl ⟨x,h,rfl,rfl⟩
  ·rw[Ao.mp h];exact .inr ⟨rfl,rfl⟩
def z6r:(putI ks k b v).length<=ks.length+1:=by
 unfold putI;split
 ·rw[Ae];lia
 ·rw[Af];exact Aj _
def x4y:valI (putI ks k b v) j=if j=k then some v else valI ks j:=by
 unfold putI;cases e:valI ks k with
 |some n =>
  rw[if_pos (show(some n).isSome=true from rfl)];induction ks with
  |nil=>cases e
  |cons x ks ih =>
   unfold valI at e ih ⊢;rw[Cq] at e;rw[Am,Cq,Cq];by_cases q:x.1=k
   ·rw[if_pos q];by_cases r:j=k
    ·rw[if_pos r,show decide (x.1=j)=true from decide_eq_true (q.trans r.symm)];rfl
    ·have h:decide (x.1=j)=false:=decide_eq_false λz=>r (z.symm.trans q);rw[if_neg r];simp only[h];clear e ih;induction ks with
     |nil=>rfl
     |cons y ks ih2 =>
      rw[Am,Cq,Cq];by_cases f:y.1=k
      ·rw[if_pos f];have g:decide (y.1=j)=false:=decide_eq_false λz=>r (z.symm.trans f);simp only[g];exact ih2
      ·rw[if_neg f];cases decide (y.1=j)
       ·exact ih2
       ·rfl
   ·rw[show decide (x.1=k)=false from decide_eq_false q] at e;rw[if_neg q];cases z:decide (x.1=j)
    ·exact ih e
    ·have:j≠k:=λy=>q ((of_decide_eq_true z).trans y);rw[if_neg this]
 |none =>
  rw[if_neg (by simp)];induction ks with
  |nil =>
   unfold valI;rw[Og,Cq];by_cases r:j=k
   ·rw[if_pos r,show decide (k=j)=true from decide_eq_true r.symm];rfl
   ·rw[if_neg r,show decide (k=j)=false from decide_eq_false λz=>r z.symm]
  |cons x ks ih =>
   unfold valI at e ih ⊢;rw[Cq] at e;rw[Rg,Cq,Cq];cases q:decide (x.1=k)
   ·rw[q] at e;cases z:decide (x.1=j)
    ·exact ih e
    ·have:j≠k:=λy=>(of_decide_eq_false q) ((of_decide_eq_true z).trans y)
     rw[if_neg this]
   ·rw[q] at e;cases e
def DPi.put(x:DPi kd H d ks)(e:kd.pr H k b)(l:ks.length<sizeLine):DPi kd (upd H d (PiO kd d (putI ks k b v))) d (putI ks k b v):=by
 have j:∀(c:Addr) (f:List V),H c=some (.tup f)->upd H d (PiO kd d (putI ks k b v)) c=some (.tup f):=λc f e=>by
  rw[q0g (λz=>by rw[z,x.at_] at e;cases e)];exact e
 refine⟨q0c,x.sys,Ay z6r l,λy o=>kd.keep j ?_⟩;rcases x4x o with⟨z,s,g,h⟩|⟨g,h⟩
 ·rw[<- g,<- h];exact x.pk z s
 ·rw[g,h];exact e
end
section
variable{X:Cx}{P:Aq}{w:World}
noncomputable def tDNewI(kd:PKd P w):TE:=λ_ H Q=>∀p,H p=none->(p==Dk)=false->Q (.ref p) (upd H p (PiO kd p []))
def x4z(kd:PKd P w)(j:X.prog=P)(u:X.w=w):PE X (.Dict [] [] pos) (tDNewI kd):=λg s F H Q I h=>by
 subst j u;have v:=I.big;have B:(s.heap.objs.size==Dk)=false:=by rw[beq_eq_false_iff_ne];exact Ez v
 refine My ⟨.ref s.heap.objs.size,_,I.laid (o:=PiO kd s.heap.objs.size []) (t':=s.toks) (λ_ _ q=>Ag _ q) (Aj _) ⟨⟨_,#[],0,[],Aw _ rfl,⟨rfl,rfl,rfl⟩,rfl,rfl,Td,entIs.nil⟩,⟨_,Aw _ rfl⟩,λG J ⟨o,C,D,f,E,q⟩ k=>⟨o,C,D,f,k _ E,q⟩⟩,rfl,h _ (I.hok.fresh (Aj _)) B⟩
def x9p{kd:PKd P w}(f:(p==Dk)=false):DPi kd (upd H p (PiO kd p [])) p []:=⟨q0c,f,Ba _,λ_ h=>nomatch h⟩
noncomputable def sIPut(kd:PKd P w)(td ty tv:TE):TS:=λD σ H=>tv σ H λv H1=>td σ H1 λx H2=>ty σ H2 λy H3=>∃d ks b k n,x=.ref d/\y=.ref b/\v=.int n/\DPi kd H3 d ks/\kd.pr H3 k b/\ks.length<sizeLine/\D.nx σ (upd H3 d (PiO kd d (putI ks k b n)))
def x9q(kd:PKd P w)(Z:X.prog=P)(hw:X.w=w)(hu:X.A.units+2<cLine)(ho:PE X o T)(hi:PE X i U)(hv:PE X f W)(F:Iw f (some (.Subscript o i B)) pos.line X.env=pure false):
  PS X (.Assign [.Subscript o i B] f pos) (sIPut kd T U W):=by
 subst Z hw;intro g s C H D I h;refine Ms (thnE (hv g s C H _ I h) λr s1 v H1 I1 rv G=>thnE (ho g s1 C H1 _ I1 G) λu s2 x H2 I2 rx q2=>thnE (hi g s2 C H2 _ I2 q2) λiv s3 y H3 J ry qz=>?_) F;obtain⟨d,Y,b,k,n,ex,ey,ev,dp,pk,lk,q3⟩:=qz;subst ex ey ev;obtain rfl:u=Value.ref d:=rx;obtain rfl:iv=Value.ref b:=ry;obtain⟨t,rfl⟩:=rv;obtain⟨j,L,E⟩:=dp.of J.hok;refine Po (knd:=kd.knd) (kd.room hu) (kd.of J.hok pk) L (λh' dd F=>?_) (by rw[E.len];exact Jk lk);have ee:entIs (putI Y k b n) (storedH j k b (.int n t)):=by
  unfold putI;rcases E.at_ (k:=k) with⟨M,O⟩|⟨m,t',a',M,O⟩
  ·rw[M,storedH_new O];exact E.snoc
  ·rw[M,storedH_old O];exact E.put
 obtain⟨o,Q,R,S,e2,e3,e4,_,e5⟩:=dd;refine⟨C,_,J.write (x:=d) (e:=d) (o:=PiO kd d (putI Y k b n)) (by rw[dp.at_];exact True.intro) (.inl rfl) (λc q hc z=>(F.2 c hc).trans z) ⟨o,S⟩ ⟨⟨o,Q,R,_,S,e2,e3,e4,e5,ee⟩,⟨o,S⟩,λh1 h2 ⟨o,Q,R,j,G,q⟩ k=>⟨o,Q,R,j,k _ G,q⟩⟩,q3⟩
noncomputable def tIGet(kd:PKd P w)(td ty tx:TE):TE:=λσ H Q=>td σ H λx H1=>∃d ks,x=.ref d/\DPi kd H1 d ks/\ty σ H1 λy H2=>tx σ H2 λz H3=>∃b k m,y=.ref b/\z=.int m/\DPi kd H3 d ks/\kd.pr H3 k b/\Q (.int ((valI ks k).getD m)) H3
def x1j(kd:PKd P w)(Y:X.prog=P)(Z:X.w=w)(hu:X.A.units+2<cLine)(ho:PE X o O)(he:PE X e R)(hf:PE X f tx)(m:M2 X o "get" v e f B):PE X (.Call (.Attribute o "get" v) [e,f] [] B) (tIGet kd O R tx):=by
 subst Y Z;intro g s E H Q I h;refine wpAny_Call_method m.base m.few m.line Ru Tq PySem.F.type_dict_get (thnE (ho g s E H _ I h) λu s1 x H1 S rx qz=>?_);obtain⟨d,ks,ex,dp,q1⟩:=qz;subst ex;obtain rfl:u=Value.ref d:=rx;obtain⟨T,U,_⟩:=dp.of S.hok;refine⟨U.typeIs,λb q=>?_,?_⟩
 ·cases q;obtain⟨ob,_,_,h1,h2,_⟩:=U;exact⟨ob,h1,h2.2.1⟩
 rw[m.trees];refine Hn rfl (Ka (Em (thnE (he g s1 E H1 _ S q1) λiv s2 y H2 I2 ry q2 =>
  Em (thnE (hf g s2 E H2 _ I2 q2) λfv s3 z W G rz ⟨b,k,m,ey,ez,C,pk,J⟩=>Mg ?_))))
 subst ey ez;obtain rfl:iv=Value.ref b:=ry;obtain⟨t,rfl⟩:=rz;obtain⟨j,D,ei⟩:=C.of G.hok;refine call_meetsIn Tq D.typeIs PySem.F.entry_dict_get (PySem.F.args_dict_get_3 _ _ _) (meetsH_dict_get_default kd.knd d b C.sys (.int m t)) ⟨kd.room hu,k,j,kd.of G.hok pk,D,?_⟩;show EP X g E Q (((atKey j k).map (·.2)).getD (.int m t)) _;rcases ei.at_ (k:=k) with⟨L,M⟩|⟨n,t',a',L,M⟩
 ·rw[M];rw[L] at J;exact⟨.int m,W,G.tok _,⟨t,rfl⟩,J⟩
 ·rw[M];rw[L] at J;exact⟨.int n,W,G.tok _,⟨t',rfl⟩,J⟩
end
noncomputable def InnW(J2:It)(g2:TG)(te:TE)(σ2:St)(D:Addr)(ys0:List V)(N:List V->Hp->Prop)(H3:Hp):Prop :=
 ∃W:Nat->Nat->List V->Hp->Prop,(∃m,W 0 m ys0 H3)/\∀i m ys H,W i m ys H->(J2.stop i H/\N ys H)\/(J2.go i H/\∃N2:List V->Hp->Prop,(∀zs H',N2 zs H'->∃m',m'<m/\W (i+1) m' zs H')/\∀x H',J2.yld i H x H'->g2 x σ2 H' λσ4 H4=>Keeps0 σ2 σ4/\te σ4 H4 λv H5=>H5 D=some (.lst ys)/\ys.length<sizeLine/\N2 (ys++[v]) (upd H5 D (.lst (ys++[v]))))
noncomputable def CompW2(J:It)(g:TG)(wi2:TI)(g2:TG)(te:TE)(σ0:St)(D:Addr)(Fin:List V->Hp->Prop)(H1:Hp):Prop :=
 ∃W:Nat->Nat->List V->Hp->Prop,(∃m,W 0 m [] (upd H1 D (.lst [])))/\∀i m ys H,W i m ys H->H D=some (.lst ys) /\
  ((J.stop i H/\Fin ys H)\/(J.go i H/\∃N,(∀zs H',N zs H'->∃m',m'<m/\W (i+1) m' zs H')/\∀x H',J.yld i H x H'->g x σ0 H' λσ2 H2=>Keeps0 σ0 σ2/\wi2 σ2 H2 λJ2 H3=>InnW J2 g2 te σ2 D ys N H3))
def q3g{elt target2 iter2 ifs2 c0 scope pos it acc env}(j:Ey (model prog w) A (.compLoop (.ListComp elt [c0,⟨target2,iter2,ifs2,0⟩] scope pos) 1 it acc env) R s)(h:wpAny (model prog w) A (Jm it) (λf s'=>Ey (model prog w) A (.compLoop (.ListComp elt [c0,⟨target2,iter2,ifs2,0⟩] scope pos) 1 f acc env) R s')
   (notedBy (model prog w) A env λx s'=>R (.error x) s') s):
  Ey (model prog w) A (.compStart (.ListComp elt [c0,⟨target2,iter2,ifs2,0⟩] scope pos) 1 it acc env) R s:=by
 refine Se ?_;show wpAny _ _ ((compStart (.ListComp elt [c0,⟨target2,iter2,ifs2,0⟩] scope pos) 1 it acc env).onRaise (λx=>do noteFrame x env;Kq theWindowsPlace)) _ _ s;refine wpAny_notedAt ?_;unfold compStart;show wpAny _ _ (ask >>= _) _ _ s;refine Ac (wpAny_askSetting (wpAny_ite ?_));split
 ·first
   |exact Ac (Ad (Ad (And.intro rfl j)))
   |exact Ad (And.intro rfl j)
 ·first
   |exact Ac (Ge (Ac (Cw (Ac (Bs h (λf s' g=>Ad (And.intro rfl g)) λ_ _ x=>x)))))
   |(refine Ac (Ge ?_);show wpAny _ _ (Kq iter2.pos >>= _) _ _ s;exact Ac (Cw (Ac (Bs h (λf s' g=>Ad (And.intro rfl g)) λ_ _ x=>x))))
def x1k{j:St}{Fin:Addr->List V->Hp->Prop}{RR:Value->Addr->Result->Ah->Prop}(hc:X.calm=true)(a4:scope.kind=.function)(d3:∀y∈scope.names,y.2≠.cell)(f7:∀x c,cl.lookup x=some c->X.env.cells.lookup x=some c)(f8:∀x,(x,Bk.free)∈scope.names->∃c,cl.lookup x=some c)(co:CapOk X scope caps)(hg:∀C s H,PG (cxComp X (tg++caps.map (·.1)) scope cl C fp s H) target g)(g0:∀C s H,PI (cxComp X (tg++caps.map (·.1)) scope cl C fp s H) target2 iter2 wi2)(g1:∀C s H,PG (cxComp X (tg++caps.map (·.1)) scope cl C fp s H) target2 g2)(g3:∀C x,Fx iter2 (De scope cl C X.env) x=pure x)(he:∀C s H,PE (cxComp X (tg++caps.map (·.1)) scope cl C fp s H) elt te)(I2:Inv X h j H1 s₂)(T:Turn X.prog X.w X.K target J fp it tn)(st:tn 0 s₂.heap)(hf:∀b∈fp,FpOk X h H1 b)(hw:∀D,H1 D=none->CompW2 J g wi2 g2 te (tg0 tg j caps) D (Fin D) H1)(g4:∀D C ys H' s',H1 D=none->Inv X h j H' s'->(∃m,s'.heap.Ns C m)->FpOk X h H' C->Fin D ys H'->RR (.ref D) C (.ok .next) s'):
  wpAny (model X.prog X.w) X.A (newList []) (λacc L=>wpAny (model X.prog X.w) X.A (Tb scope X.env.globals cl [] X.env.qual none .none (some X.env)) (λb3 d4 =>
   Ey (model X.prog X.w) X.A (.compStart (.ListComp elt [⟨target,iter,[],0⟩,⟨target2,iter2,[],0⟩] scope pos) 0 (.ref it) acc { b3 with scope:=relabel scope X.env }) (RR acc b3.locals) d4) E L) E s₂:=by
 have I3:Inv X h j (upd H1 s₂.heap.objs.size (.lst [])) { s₂ with heap:=s₂.heap.push { cls:=.type "list",dict:=none,data:=.seq ([]:List Value).toArray },toks:=s₂.toks }:=I2.lnew .nil (Ba _);have b8:=I2.fresh;refine Cf (Nw d3 (by intro y hy;simp at hy) (λa5 F G=>?_) a4);dsimp only at F G ⊢;generalize b9:s₂.heap.objs.size=D at I3 b8 F G ⊢;generalize j1:({ s₂ with heap:=s₂.heap.push { cls:=.type "list",dict:=none,data:=.seq ([]:List Value).toArray } }:Ah)=L at I3 F G ⊢;have e3:s₂.heap.push { cls:=.type "list",dict:=none,data:=.seq ([]:List Value).toArray }=L.heap:=by grind
 have o3:({ s₂ with heap:=a5,toks:=s₂.toks+([]:List (Str×Value)).length }:Ah)={ L with heap:=a5,toks:=s₂.toks }:=by grind
 have c0:L.heap.objs.size=D+1:=by rw[<- e3,Ft,b9]
 rw[e3] at F G ⊢;have b4:∀b o,s₂.heap.get? b=some o->L.heap.get? b=some o:=λb o e=>by rw[<- e3];exact Ag _ e
 generalize a8:L.heap.objs.size=C at F G ⊢;have hk:=λb o e=>G.extBut b o (by rw[<- a8];exact Bl (As e)) (Ag _ e);have d5:∀b∈fp,∃o,s₂.heap.get? b=some o:=λb B=>by obtain⟨o,e,_⟩:=T.obj 0 _ st b B;exact⟨o,e⟩
 have d6:∀b∈fp,b≠D:=λb B=>by obtain⟨o,e⟩:=d5 b B;rw[<- b9];exact Bl (As e)
 have d7:∀b∈fp,FpOk X h (upd H1 D (.lst [])) b:=λb B=>⟨by rw[q0g (d6 b B)];exact(hf b B).1,(hf b B).2⟩
 have IY:=Inv.ofcomp (tk:=s₂.toks) tg I3 a4 d3 f7 f8 d7 (λb B=>let ⟨o,e⟩:=d5 b B;⟨o,b4 b o e⟩) (Fb a8) F hk co;have FC:FpOk X h H1 C:=by
  have z:=I3.fpOk (H':=H1) (Fb a8) (I2.hok.fresh (by rw[b9,<- a8,c0];exact Kr _));exact z
 generalize hY:cxComp X (tg++caps.map (·.1)) scope cl C fp L (upd H1 D (.lst []))=Y at IY;have g6:PG Y target g:=by rw[<- hY];exact hg _ _ _
 have d8:PI Y target2 iter2 wi2:=by rw[<- hY];exact g0 _ _ _
 have d9:PG Y target2 g2:=by rw[<- hY];exact g1 _ _ _
 have g7:PE Y elt te:=by rw[<- hY];exact he _ _ _
 have M:Y.prog=X.prog:=by rw[<- hY];rfl
 have O:Y.w=X.w:=by rw[<- hY];rfl
 have c1:Y.K=X.K:=by rw[<- hY];rfl
 have P:Y.A=X.A:=by rw[<- hY];rfl
 have a3:Y.env=De scope cl C X.env:=by rw[<- hY];rfl
 have a9:Y.ex=fp:=by rw[<- hY];rfl
 have j2:Y.pn=[]:=by rw[<- hY];rfl
 have b0:Y.calm=true:=by rw[<- hY];exact hc
 have U:Y.xe=λ_ _=>False:=by rw[<- hY];rfl
 have c2:∀{H':Hp},(∀b∈fp,H' b=none)->∀b∈fp,FpOk Y [] H' b:=λ{H'} hn b B=>by
  refine⟨hn b B,?_,?_,.inl (by rw[a9];exact B),λx c e=>?_,λp hp=>?_⟩
  ·have:=(IY.ok.exf b (by rw[a9];exact B)).1;exact this
  ·exact IY.ok.exfs b (by rw[a9];exact B)
  ·exact(IY.ok.exf b (by rw[a9];exact B)).2 x c e
  ·grind
 obtain⟨W,⟨m0,w0⟩,e0⟩:=hw D b8;have e1:=T.keep 0 _ _ st λb B o e=>hk b o (b4 b o e)
 have e2:∀{H':Hp} {s':Ah} {Z:St},Inv Y [] Z H' s'->Inv X h j H' s':=λ{H' s' Z} S=>by
  have e4:=S.base;have e5:=S.os;rw[<- hY] at e4 e5;exact I3.call' e5 e4 (by have z:=S.hok;rw[M,O] at z;exact z) S.bare λb B=>⟨(hf b B).2.2.2.1,(hf b B).2.1,(hf b B).2.2.2.2.1,(hf b B).2.2.2.2.2⟩
 have gY:∀h s j H v u Q (I:Value->Ah->Prop),Inv Y h j H s->RelV v u->g v j H Q->wpAny (model X.prog X.w) X.A (assign target (De scope cl C X.env) u) (λ_ s'=>∃Z H',Inv Y h Z H' s'/\Q Z H') I s:=λh s j H v u Q I S r q=>by
  have z:=g6 h s j H v u Q S r q;rw[M,O,P,a3,U] at z;exact Bs z (λ_ _ x=>x) λ_ _ f=>f.elim
 have g8:∀h s j H v u Q (I:Value->Ah->Prop),Inv Y h j H s->RelV v u->g2 v j H Q->wpAny (model X.prog X.w) X.A (assign target2 (De scope cl C X.env) u) (λ_ s'=>∃Z H',Inv Y h Z H' s'/\Q Z H') I s:=λh s j H v u Q I S r q=>by
  have z:=d9 h s j H v u Q S r q;rw[M,O,P,a3,U] at z;exact Bs z (λ_ _ x=>x) λ_ _ f=>f.elim
 have g9:∀h s j H R (I:Value->Ah->Prop),Inv Y h j H s->wi2 j H R->wpAny (model X.prog X.w) X.A (eval iter2 (De scope cl C X.env)) (λv s1=>wpAny (model X.prog X.w) X.A (Jm v) (PIE Y h j target2 R) I s1) I s:=λh s j H R I S q=>by
  have z:=d8 h s j H R S q;rw[M,O,P,a3,U] at z;exact Bs z (λ_ _ x=>Bs x (λ_ _ y=>y) λ_ _ f=>f.elim) λ_ _ f=>f.elim
 have eY:∀h s j H Q (I:Value->Ah->Prop),Inv Y h j H s->te j H Q->wpAny (model X.prog X.w) X.A (eval elt (De scope cl C X.env)) (EP Y h j Q) I s:=λh s j H Q I S q=>by
  have z:=g7 h s j H Q S q;rw[M,O,P,a3,U] at z;exact Bs z (λ_ _ x=>x) λ_ _ f=>f.elim
 have aY:∀h s j H ys v u Q (I:Value->Ah->Prop),Inv Y h j H s->RelV v u->H D=some (.lst ys)->ys.length<sizeLine->Q .non (upd H D (.lst (ys++[v])))->wpAny (model X.prog X.w) X.A (call (.builtin "list.append") [.ref D,u]) (EP Y h j Q) I s:=λh s j H ys v u Q I S r hH hz q=>by
  have z:=q1i h s j H (.ref D) [v] (.ref D) [u] Q S rfl (.cons r .nil) ⟨D,ys,v,rfl,rfl,hH,hz,q⟩;rw[M,O,P,U] at z;exact Bs z (λ_ _ x=>x) λ_ _ f=>f.elim
 have h0:∀i h s j H (I:Value->Ah->Prop),Inv Y h j H s->(∀b∈fp,FpOk Y h H b)->tn i s.heap->J.go i H ->
   wpAny (model X.prog X.w) X.A (Hr (.ref it)) (λr s1=>∃u,r=some u /\
    wpAny (model X.prog X.w) X.A (Iy target (.ref it) u) (λ_ s2=>∃x H',Inv Y h j H' s2/\RelV x u/\J.yld i H x H'/\tn (i+1) s2.heap/\∀b∈fp,H' b=none) I s1) I s:=λi h s j H I S c3 st go=>by
  have z:=T.item Y M O c1 b0 i h s j H I S c3 st go;rw[P] at z;exact z
 have h1:∀i h s j H (I:Value->Ah->Prop),Inv Y h j H s->(∀b∈fp,FpOk Y h H b)->tn i s.heap->J.stop i H ->
   wpAny (model X.prog X.w) X.A (Hr (.ref it)) (λr s1=>r=none/\Inv Y h j H s1) I s:=λi h s j H I S c3 st go=>by
  have z:=T.done Y M O c1 b0 i h s j H I S c3 st go;rw[P] at z;exact z
 have b5:Ey (model X.prog X.w) X.A (.compLoop (.ListComp elt [⟨target,iter,[],0⟩,⟨target2,iter2,[],0⟩] scope pos) 0 (.ref it) (.ref D) (De scope cl C X.env)) (RR (.ref D) C) { L with heap:=a5,toks:=s₂.toks }:=by
  refine Rc rfl (λn s'=>∃i ys H',Inv Y [] (tg0 tg j caps) H' s'/\tn i s'.heap/\(∀b∈fp,H' b=none)/\W i n ys H') ?_ m0 ⟨0,[],_,IY,e1,λb B=>(d7 b B).1,w0⟩;rintro n s4 ⟨i,ys,H4,I4,e6,e7,w4⟩;refine Sn ?_;obtain⟨j3,h2⟩:=e0 i n ys H4 w4;rcases h2 with⟨stop,h3⟩|⟨go,N,hN,step⟩
  ·refine Ac (Cw (Ac (thn (h1 i [] s4 _ H4 _ I4 (c2 e7) e6 stop) λr s5 ⟨hr,I5⟩=>?_)));subst hr;refine Ad (g4 D C ys H4 s5 b8 (e2 I5) ?_ ⟨?_,FC.2⟩ h3)
   ·obtain⟨m,hm,_⟩:=I5.loc;rw[a3] at hm;exact⟨m,hm⟩
   ·have z:=I5.free;rw[a3] at z;exact z
  ·refine Ac (Cw (Ac (thn (h0 i [] s4 _ H4 _ I4 (c2 e7) e6 go) λr s5 ⟨u,hr,h5⟩=>?_)));subst hr;refine Ac (thn h5 λ_ s6 ⟨x,H6,I6,r6,y6,c4,h4⟩=>?_);have I6':=I6.pinned (c2 h4) (T.obj _ _ c4);refine Ac (thn (gY _ s6 _ H6 x u _ _ I6' r6 (step x H6 y6)) λ_ s7 ⟨a0,H7,I7,kp,q7⟩=>?_);have c5:∀{H9:Hp} {s9:Ah} {zs:List V} {m':Nat},Inv Y ([]++pinsAt fp s6.heap) a0 H9 s9->m'<n->W (i+1) m' zs H9->∃m,m<n/\∃i ys H',Inv Y [] (tg0 tg j caps) H' s9/\tn i s9.heap/\(∀b∈fp,H' b=none)/\W i m ys H':=λ{H9 s9 zs m'} I9 hm w9=>by
    refine⟨m',hm,i+1,zs,H9,I9.unpinned.weak kp.1 kp.2,T.keep _ _ _ c4 λb B o e=>(I9.pin (b,o) (Bf _ (Bf _ (q1m B e)))).1,λb B=>?_,w9⟩;obtain⟨o,e,d⟩:=T.obj _ _ c4 b B;exact(I9.pin (b,o) (Bf _ (Bf _ (q1m B e)))).2.1
   refine Ac (Sb ?_);show wpAny _ _ (eval iter2 (De scope cl C X.env) >>= λx=>Kq iter2.pos >>= λ_=>Fx iter2 (De scope cl C X.env) x >>= λx=>Jl [x] (Jm x) >>= λa1=>runOwn (.compStart (.ListComp elt [⟨target,iter,[],0⟩,⟨target2,iter2,[],0⟩] scope pos) 1 a1 (.ref D) (De scope cl C X.env)) (De scope cl C X.env) >>= λ_=>PySem.again (.compLoop (.ListComp elt [⟨target,iter,[],0⟩,⟨target2,iter2,[],0⟩] scope pos) 0 (.ref it) (.ref D) (De scope cl C X.env))) _ _ _;refine Ac (thn (g9 _ s7 a0 H7 _ _ I7 q7) λv s8 h8=>?_);refine Ac (Cw ?_);rw[g3];refine Ac (Ad (Ac (Dh (thn h8 λj4 s9 h9=>?_))));obtain⟨a1,b1,e8,J2,H9,e9,I9,T2,f1,f9,W2,⟨m2,w2⟩,c6⟩:=h9;subst e9;have a2:∀{H':Hp},(∀b∈b1,H' b=none)->∀b∈b1,FpOk Y ([]++pinsAt fp s6.heap) H' b:=λhn b B=>⟨hn b B,(f9 b B).2⟩
   have a6:Ey (model X.prog X.w) X.A (.compLoop (.ListComp elt [⟨target,iter,[],0⟩,⟨target2,iter2,[],0⟩] scope pos) 1 (.ref a1) (.ref D) (De scope cl C X.env)) (λr s'=>r=.ok .next/\∃zs H',Inv Y ([]++pinsAt fp s6.heap) a0 H' s'/\N zs H') s9:=by
    refine Rc rfl (λn s'=>∃i ys H',Inv Y ([]++pinsAt fp s6.heap) a0 H' s'/\e8 i s'.heap/\(∀b∈b1,H' b=none)/\W2 i n ys H') ?_ m2 ⟨0,ys,_,I9,f1,λb B=>(f9 b B).1,w2⟩;rintro n2 t4 ⟨i2,b2,K4,J4,b6,b7,h7⟩;refine Sn ?_;rcases c6 i2 n2 b2 K4 h7 with⟨c7,f2⟩|⟨i0,N2,i1,c8⟩
    ·have z:∀I:Value->Ah->Prop,wpAny (model X.prog X.w) X.A (Hr (.ref a1)) (λr s1=>r=none/\Inv Y ([]++pinsAt fp s6.heap) a0 K4 s1) I t4:=λI=>by
      have z:=T2.done Y rfl rfl rfl b0 i2 _ t4 a0 K4 I J4 (a2 b7) b6 c7;rw[M,O,P] at z;exact z
     refine Ac (Cw (Ac (thn (z _) λr t5 c9=>?_)));obtain⟨hr,J5⟩:=c9;subst hr;exact Ad ⟨rfl,b2,K4,J5,f2⟩
    ·have z:∀I:Value->Ah->Prop,wpAny (model X.prog X.w) X.A (Hr (.ref a1)) (λr s1=>∃u,r=some u /\
       wpAny (model X.prog X.w) X.A (Iy target2 (.ref a1) u) (λ_ s2=>∃x H',Inv Y ([]++pinsAt fp s6.heap) a0 H' s2/\RelV x u/\J2.yld i2 K4 x H'/\e8 (i2+1) s2.heap/\∀b∈b1,H' b=none) I s1) I t4:=λI=>by
      have z:=T2.item Y rfl rfl rfl b0 i2 _ t4 a0 K4 I J4 (a2 b7) b6 i0;rw[M,O,P] at z;exact z
     refine Ac (Cw (Ac (thn (z _) λr t5 c9=>?_)));obtain⟨u,hr,h5⟩:=c9;subst hr;refine Ac (thn h5 λ_ t6 h6=>?_);obtain⟨x2,K6,J6,i3,i4,a7,f3⟩:=h6;have J6':=J6.pinned (a2 f3) (T2.obj _ _ a7);refine Ac (thn (g8 _ t6 _ K6 x2 u _ _ J6' i3 (c8 x2 K6 i4)) λ_ t7 ⟨f4,K7,J7,f5,i5⟩=>?_);refine Ac (Sb ?_);show wpAny _ _ ((eval elt (De scope cl C X.env) >>= λx=>call (.builtin "list.append") [.ref D,x] >>= λ_=>pure ()) >>= λ_=>PySem.again (.compLoop (.ListComp elt [⟨target,iter,[],0⟩,⟨target2,iter2,[],0⟩] scope pos) 1 (.ref a1) (.ref D) (De scope cl C X.env))) _ _ _;refine Ac (Ac (thnE (eY _ t7 f4 K7 _ _ J7 i5) λv t9 vv K9 J9 r9 ⟨i6,i7,n9⟩=>?_));obtain⟨m',d0,w9⟩:=i1 _ _ n9;refine Ac (thnE (aY _ t9 f4 K9 b2 vv v (λ_ f6=>W2 (i2+1) m' (b2++[vv]) f6) _ J9 r9 i6 i7 w9) λ_ j5 _ i8 d1 _ d2=>?_);refine Ad (Ad ⟨rfl,m',d0,i2+1,_,i8,d1.unpinned.weak f5.1 f5.2,T2.keep _ _ _ a7 λb B o e=>(d1.pin (b,o) (Bf _ (Bf _ (q1m B e)))).1,λb B=>?_,d2⟩);obtain⟨o,e,d⟩:=T2.obj _ _ a7 b B;exact(d1.pin (b,o) (Bf _ (Bf _ (q1m B e)))).2.1
   refine Ac (wpAny_runOwn ?_);rw[Around.mark_none];have T2':=T2;rw[M,O,c1] at T2';refine Gs (q3g a6 (T2'.self _ 0 _ _ _ f1 a6)) λr t hr=>?_;obtain⟨rfl,zs,f6,i9,j0⟩:=hr;obtain⟨m',d0,d2⟩:=hN _ _ j0;exact Ad ⟨rfl,c5 i9 d0 d2⟩
 rw[o3];exact So b5 (T.self _ 0 _ _ _ e1 b5)
noncomputable def tComp2(wi:TI)(g:TG)(wi2:TI)(g2:TG)(te:TE)(tg:List Str)(caps:Caps):TE:=λσ H Q=>wi σ H λJ H1=>∀D,H1 D=none->CompW2 J g wi2 g2 te (tg0 tg σ caps) D (λ_ H'=>Q (.ref D) H') H1
section
variable{X:Cx}{iter target iter2 target2 elt:Expr}{scope:Scope}{pos:Pos}{wi wi2:TI}{g g2:TG}{te:TE}
def x1l(L)(f)(hc:X.calm=true)(hi:PI X target iter wi)(hg:∀cl C j s H,PG (cxComp X (L++f.map (·.1)) scope cl C j s H) target g)(O:∀cl C j s H,PI (cxComp X (L++f.map (·.1)) scope cl C j s H) target2 iter2 wi2)(P:∀cl C j s H,PG (cxComp X (L++f.map (·.1)) scope cl C j s H) target2 g2)(he:∀cl C j s H,PE (cxComp X (L++f.map (·.1)) scope cl C j s H) elt te)(hk:compChk X.N X.env.scope scope f=true:=by rfl)(hs:∀x,Fx iter X.env x=pure x:=by intro _;rfl)(R:∀env x,Fx iter2 env x=pure x:=by intro _ _;rfl):
  PE X (.ListComp elt [⟨target,iter,[],0⟩,⟨target2,iter2,[],0⟩] scope pos) (tComp2 wi g wi2 g2 te L f):=by
 intro M s σ H Q I h;obtain⟨u,S,B,E,co⟩:=q4k hk;obtain⟨cl,G,U,W⟩:=q9w I E;refine Il rfl hs G u B (thn (hi M s σ H _ I h) λv s1 h1=>thn h1 λa2 s2 h2=>?_);obtain⟨it,j,tn,J,H2,e,I2,T,Y,f2,hw⟩:=h2;subst e;refine x1k hc u S U W co (λC s H=>hg cl C j s H) (λC s H=>O cl C j s H) (λC s H=>P cl C j s H) (λC x=>R _ x) (λC s H=>he cl C j s H) I2 T Y f2 hw ?_;intro D C ys H' s' hD I' Z F a0;obtain⟨m,Z⟩:=Z;refine⟨m,Z,λh' a1=>⟨.ref D,H',I'.turned (t':=s'.toks) (λb o hb e=>(a1.2 b hb).trans e) F.1 F.2.1 F.2.2.2.1 F.2.2.2.2.1 F.2.2.2.2.2,rfl,a0⟩⟩
end
def z8k{r:St}:Keeps0 (a::none::r) (a::v::r):=⟨rfl,λi w h=>by
 cases i with
 |zero=>exact h
 |succ i=>cases i with
  |zero=>cases h
  |succ i=>exact h⟩
def z8l{K}{Fin}(h:Nat->List V->Hp->Prop)(C:h 0 [] (upd B D (.lst [])))(hl:∀i ys H,h i ys H->H D=some (.lst ys)/\SqL K H a xs)(E:∀i ys H x,xs[i]?=some x->h i ys H->g x f H λj F=>Keeps0 f j/\o j F λG I=>InnW G u v j D ys (h (i+1)) I)(hd:∀ys H,h xs.length ys H->Fin ys H):CompW2 (Itl K a) g o u v f D Fin B:=by
 refine⟨λi m ys H=>m=xs.length-i/\i<=xs.length/\h i ys H,⟨xs.length,by simp,Ba _,C⟩,?_⟩;rintro i m ys H ⟨rfl,L,p⟩;refine⟨(hl i ys H p).1,?_⟩;by_cases s:i<xs.length
 ·exact .inr ⟨⟨xs,xs[i],(hl i ys H p).2,by simp[s]⟩,h (i+1),λM J q=>⟨xs.length-(i+1),by lia,rfl,s,q⟩,λx J y=>by
   obtain⟨e,y⟩:=y;subst e;exact E i ys _ x (y xs (hl i ys _ p).2) p⟩
 ·have e:i=xs.length:=by lia
  subst e;exact .inl ⟨⟨xs,(hl _ ys H p).2,Aj _⟩,hd ys H p⟩
def x5a{K}(g:Nat->List V->Hp->Prop)(F:g 0 h C)(hl:∀i ys H,g i ys H->SqL K H s xs2)(G:∀i ys H x,xs2[i]?=some x->g i ys H->u x f H λj I=>Keeps0 f j/\B j I λv E=>E D=some (.lst ys)/\ys.length<sizeLine/\g (i+1) (ys++[v]) (upd E D (.lst (ys++[v]))))(hd:∀ys H,g xs2.length ys H->N ys H):InnW (Itl K s) u B f D h N C:=by
 refine⟨λi m ys H=>m=xs2.length-i/\i<=xs2.length/\g i ys H,⟨xs2.length,by simp,Ba _,F⟩,?_⟩;rintro i m ys H ⟨rfl,L,p⟩;by_cases o:i<xs2.length
 ·exact .inr ⟨⟨xs2,xs2[i],hl i ys H p,by simp[o]⟩,g (i+1),λM J q=>⟨xs2.length-(i+1),by lia,rfl,o,q⟩,λx J y=>by
   obtain⟨e,y⟩:=y;subst e;exact G i ys _ x (y xs2 (hl i ys _ p)) p⟩
 ·have e:i=xs2.length:=by lia
  subst e;exact .inl ⟨⟨xs2,hl _ ys H p,Aj _⟩,hd ys H p⟩
def KV.len:∀{kvs:List (Key×V)} {vs},KV kvs vs->vs.length=kvs.length:=by
 intro kvs vs h;have:=Hb h;lia
def x1m:CallR X (.builtin "len") (λxs H Q=>∃d kvs,xs=[V.ref d]/\H d=some (.dK kvs)/\Q (.int kvs.length) H):=by
 intro B s G H xs J Q I r h;obtain⟨d,kvs,rfl,e,q⟩:=h;obtain⟨u,rfl,C⟩:=vals1 r;cases C;obtain⟨z,hd,vs,g,D⟩:=(show ObjOk X.prog X.w H s.heap d (.dK kvs) from I.hok d _ e)
 obtain⟨L,E,M,j,F,o,O,v,hn⟩:=D;have f:E.size=kvs.length:=by
  have:=Pairs.length v;rw[He,KV.len g] at this;exact this
 refine z0i j F o hd (by rw[f];exact z) λt P=>⟨.int kvs.length,H,I.tok _,⟨t,by rw[f]⟩,q⟩
open PySem PySem.Spec PyProof.Rows PySem.Builtin PySem.Builtin.Str
noncomputable def replace1(x y z:Str):Str :=
 if ((occurrences x y 0 x.length 1).isEmpty||(y.length==0&&z.length==0))=true then x
 else glued z (partsBetween x (occurrences x y 0 x.length 1) y.length)
def q8q (x y z) (t u v c)
    (hf : ((occurrences x y 0 x.length 1).isEmpty || (y.length == 0 && z.length == 0)) = false →
      (u == 0 || v == 0) = false ∧ (u == v) = false ∧ (y == z) = false ∧ tooLong (x.length + (occurrences x y 0 x.length 1).length * z.length) = false) :
    Gives («str.replace» ⟨[.str x t, .str y u, .str z v, .int 1 c], []⟩) (if ((occurrences x y 0 x.length 1).isEmpty || (y.length == 0 && z.length == 0)) = true then .val (.str x t) else .str (glued z (partsBetween x (occurrences x y 0 x.length 1) y.length))) := by
  show Gives (if ((occurrences x y 0 x.length 1).isEmpty || (y.length == 0 && z.length == 0)) = true then (do rule "str.replace.nothing"; ret (.str x t)) else
          (do let same ← isSame (.str y u) (.str z v)
              if same = true then (do rule "str.replace.old-is-new"; ret (.str x t)) else
              if tooLong (x.length + (occurrences x y 0 x.length 1).length * z.length) = true then unsupported "str.replace:memory" else
              retStr (glued z (partsBetween x (occurrences x y 0 x.length 1) y.length)))) _
  cases hc : ((occurrences x y 0 x.length 1).isEmpty || (y.length == 0 && z.length == 0))
  · obtain ⟨h0, huv, hyz, hl⟩ := hf hc;rw [isSame_str_other y z u v h0 huv hyz, hl];exact .of_eq rfl
  · exact .rule (.of_eq rfl)
def z0j(y)(h:x.length+z.length<=16777216):
  (glued z (partsBetween x (occurrences x y 0 x.length 1) y.length)).length<=sizeLine:=by
 have f:=Nj x y 0 x.length 1;have g:(glued y (partsBetween x (occurrences x y 0 x.length 1) y.length)).length=x.length:=by rw[StrLaws.glued_between_self]
 rw[size_glued,Ux,Pz] at g;rw[size_glued,Ux,Pz,Et];have j:(occurrences x y 0 x.length 1).length*z.length<=1*z.length:=Kk _ f;lia
def z0k(h:u≠0)(j:v≠0)(f:u≠v)(g:(y==z)=false)(o:x.length+z.length<=16777216)(B:∀t' k,Q (.str (replace1 x y z) t') { s with toks:=k }):wpAny (model prog w) A (call (.builtin "str.replace") [.str x t,.str y u,.str z v,.int 1 c]) Q E s:=by
 have hl:tooLong (x.length+(occurrences x y 0 x.length 1).length*z.length)=false:=by
  have C:=Nj x y 0 x.length 1;have D:(occurrences x y 0 x.length 1).length*z.length<=1*z.length:=Kk _ C;have e:(2:Nat)^24=16777216:=by decide
  unfold tooLong sizeLine;exact decide_eq_false (by lia)
 refine call_gives Qa (Jb _ _ _) F.entry_str_replace (F.args_str_replace_4 _ _ _ _)
  (q8q x y z t u v c λ_=>⟨by simp[h,j],by simp[f],g,hl⟩) ?_
 have hq':=B;unfold replace1 at hq';cases hc:((occurrences x y 0 x.length 1).isEmpty||(y.length==0&&z.length==0))
 ·rw[hc] at hq';simp only[Bq,if_false] at hq' ⊢;exact⟨z0j y o,hq' _ _⟩
 ·rw[hc] at hq';simp only[if_true] at hq' ⊢;exact hq' t s.toks
noncomputable def PEQ(X:Cx)(e:Expr)(t:TE):Prop :=
 ∀ pins   s  (σ:St)  H   Q ,0<s.toks->Inv X pins σ H s->t σ H Q->wpAny (model X.prog X.w) X.A (eval e X.env) (EP X pins σ Q) X.xe s
noncomputable def PAQ(X:Cx)(es:List Expr)(t:TA):Prop :=
 ∀ pos   pins   s  (σ:St)  H   Q ,0<s.toks->Inv X pins σ H s->t σ H Q->wpAny (model X.prog X.w) X.A (spliced (El pos (Bd es X.env))) (AP X pins σ Q) X.xe s
def tkn{t:Sem f}{Q}(hn:0<s.toks)(h:wpAny M A t Q E s):wpAny M A t (λa s'=>0<s'.toks/\Q a s') E s :=
 Bs (wpAny_toks_of (show 1<=s.toks from hn) h) (λ_ _ z=>z) λ_ _ z=>z.2
section
variable{X:Cx}{e:Expr}{es:List Expr}{te:TE}{t:TA}{pos apos cpos:Pos}{o:Expr}{to:TE}{y z:Str}
def PE.q(h:PE X e te):PEQ X e te:=λf s g H Q _ I q=>h f s g H Q I q
def q5q:PAQ X [] tNil:=λg f s j H Q _ I h=>q0d g f s j H Q I h
def q1e(ha:PEQ X e te)(o:PAQ X es t)(v:Bd (e::es) X.env=(false,eval e X.env)::Bd es X.env:=by rfl):PAQ X (e::es) (tCons te t):=by
 intro g f s j H Q hn I h;rw[v];refine Em (thn (tkn hn (ha f s j H _ hn I h)) λu B C=>?_);obtain⟨D,x,E,F,G,J⟩:=C;exact thn (o g f B j E _ D F J) λS T ⟨L,M,O,P,R⟩=>⟨x::L,M,O,.cons G P,R⟩
def q4m(u:PAQ X es t)(v:Bd (.Constant (.str x) j p::es) X.env=(false,eval (.Constant (.str x) j p) X.env)::Bd es X.env:=by rfl):PA X (.Constant (.str x) j p::es) (tCons (tC (.str x)) t):=by
 intro g f s o H Q I h;rw[v];refine Em (Hq (k:=j) (pos:=p) ?_);have J:Inv X f o H { s with toks:=s.toks+1 }:=I.tok _;exact thn (u g f _ o H _ (Nat.succ_pos _) J h) λG L ⟨B,C,D,E,F⟩=>⟨.str x::B,C,D,.cons ⟨_,rfl⟩ E,F⟩
def q6r{j u}{B C}(J:PE X o to)(G:(y==z)=false)(f:Fs o "replace" X.env (eval o X.env)=eval o X.env:=by rfl)(D:((El cpos (Bd [.Constant (.str y) j B,.Constant (.str z) u C] X.env)).all (λx => !x.1)&&(Jy cpos (Hj [] X.env)).all (λx=>x.1.isSome)
   && decide (([.Constant (.str y) j B,.Constant (.str z) u C]:List Expr).length+([]:List Lx).length+(if ([]:List Lx).isEmpty then 0 else 1)<30))=true:=by rfl)(g:(apos.endLine==cpos.line)=true:=by rfl)(L:El cpos (Bd [.Constant (.str y) j B,.Constant (.str z) u C] X.env)=[(false,eval (.Constant (.str y) j B) X.env),(false,eval (.Constant (.str z) u C) X.env)]:=by rfl):
  PEQ X (.Call (.Attribute o "replace" apos) [.Constant (.str y) j B,.Constant (.str z) u C] [] cpos) (tRepl y z to):=by
 intro E s M H Q hn I h;refine Mp f D g rfl (thn (tkn hn (J E s M H _ I h)) λv F O=>?_);obtain⟨W,x,P,R,S,T⟩:=O;obtain⟨a,rfl,U,q⟩:=T;obtain⟨t,rfl⟩:=S;refine⟨"str", "str.replace",Xf,Qa,Vu,Jb _ _ _,(λ_ e=>nomatch e),?_⟩;rw[L];refine Hn rfl (Ka ?_);refine Em (Hq (Em (Hq (Mg ?_))));exact SC.replace (show F.toks≠0 by lia) (show F.toks+1≠0 by lia) (show F.toks≠F.toks+1 by lia) G U λY k=>⟨.str _,P,R.tok _,⟨_,rfl⟩,q⟩
noncomputable def rRepl1(y z:Str):V->Hp->VK->Prop:=λv H Q=>∃s,v=.str s/\s.length+z.length<=16777216/\Q (.str (replace1 s y z)) H
noncomputable def tRepl1(y z:Str)(to:TE):TE:=λσ H Q=>to σ H λv H1=>rRepl1 y z v H1 Q
def z3k{j u B}{C D E}(M:PE X o to)(L:(y==z)=false)(f:Fs o "replace" X.env (eval o X.env)=eval o X.env:=by rfl)(F:((El cpos (Bd [.Constant (.str y) j C,.Constant (.str z) u D,.Constant (.int 1) B E] X.env)).all (λx => !x.1)&&(Jy cpos (Hj [] X.env)).all (λx=>x.1.isSome)
   && decide (([.Constant (.str y) j C,.Constant (.str z) u D,.Constant (.int 1) B E]:List Expr).length+([]:List Lx).length+(if ([]:List Lx).isEmpty then 0 else 1)<30))=true:=by rfl)(g:(apos.endLine==cpos.line)=true:=by rfl)(O:El cpos (Bd [.Constant (.str y) j C,.Constant (.str z) u D,.Constant (.int 1) B E] X.env)=[(false,eval (.Constant (.str y) j C) X.env),(false,eval (.Constant (.str z) u D) X.env),(false,eval (.Constant (.int 1) B E) X.env)]:=by rfl):
  PEQ X (.Call (.Attribute o "replace" apos) [.Constant (.str y) j C,.Constant (.str z) u D,.Constant (.int 1) B E] [] cpos) (tRepl1 y z to):=by
 intro G s P H Q hn I h;refine Mp f F g rfl (thn (tkn hn (M G s P H _ I h)) λv J R=>?_);obtain⟨Z,x,S,T,U,W⟩:=R;obtain⟨a,rfl,Y,q⟩:=W;obtain⟨t,rfl⟩:=U;refine⟨"str", "str.replace",Xf,Qa,Vu,Jb _ _ _,(λ_ e=>nomatch e),?_⟩;rw[O];refine Hn rfl (Ka ?_);refine Em (Hq (Em (Hq (Em (Vc (Mg ?_))))));exact z0k (show J.toks≠0 by lia) (show J.toks+1≠0 by lia) (show J.toks≠J.toks+1 by lia) L Y λt' k=>⟨.str _,S,T.tok _,⟨_,rfl⟩,q⟩
def peq_j(h:PEQ X e te):PEQ X e (tVJ te):=by
 intro f s o H Q hn I g;obtain⟨J,B,g⟩:=g;exact thnE (h f s o H J hn I g) λu D v j C r q=>⟨v,j,C,r,B v j q⟩
def x1n{o tb}(E:PT X c j)(ha:PEQ X a o)(F:PEQ X b tb):PEQ X (.IfExp c a b pos) (tIf j o tb):=by
 intro f s g H Q hn I h;refine wpAny_IfExp (thn (tkn hn (E f s g H _ I h)) λd u G=>?_);obtain⟨v,B,C,D⟩:=G;cases d with
 |true=>exact ha f u g B Q v C D
 |false=>exact F f u g B Q v C D
end
end L2
namespace TX
open PySem PySem.Builtin PySem.Builtin.Str
noncomputable def oc(L w:Nat)(b:Nat->Bool):Nat->Nat->Nat->Nat->List Nat
 |0,_,_,_=>[]
 |n+1,i,fr,k=>if ((0<k/\fr<=i)/\i+w<=L)/\b i=true then i::oc L w b n (i+1) (i+w) (k-1) else oc L w b n (i+1) fr k
theorem x1o(s sub)(j f):∀(n i fr)  arr ,arr.size<=f->(forIn (List.range' i n) (arr,fr) (Xw s sub j f)).run.fst.toList=arr.toList++oc j sub.length (subAt s sub) n i fr (f-arr.size)
 |0,i,fr,arr,_=>by show arr.toList=_++[];rw[Cd]
 |n+1,i,fr,arr,h=>by
  rw[List.range'_succ,Nv];unfold Xw;have e:(arr.size<f)↔0<f-arr.size:=by lia
  split
  ·rename_i g;have g:((arr.size<f/\fr<=i)/\i+sub.length<=j)/\subAt s sub i=true:=g;refine Eq.trans (x1o s sub j f n (i+1) (i+sub.length) (arr.push i) (by rw[Xx];lia)) ?_;rw[oc,if_pos ⟨⟨⟨e.mp g.1.1.1,g.1.1.2⟩,g.1.2⟩,g.2⟩,Array.toList_push,Xx,Dj,Nat.sub_sub];rfl
  ·rename_i g;have g:¬(((arr.size<f/\fr<=i)/\i+sub.length<=j)/\subAt s sub i=true):=g;refine Eq.trans (x1o s sub j f n (i+1) fr arr h) ?_;rw[oc,if_neg λz=>g ⟨⟨⟨e.mpr z.1.1.1,z.1.1.2⟩,z.1.2⟩,z.2⟩]
theorem oc_fr:∀{n i fr fr' k},fr<=i->fr'<=i->oc L w b n i fr k=oc L w b n i fr' k
 |0,_,_,_,_,_,_=>rfl
 |n+1,i,fr,fr',k,h,h'=>by
  have e:(((0<k/\fr<=i)/\i+w<=L)/\b i=true)↔(((0<k/\fr'<=i)/\i+w<=L)/\b i=true):=by simp only[h,h']
  rw[oc,oc];by_cases f:((0<k/\fr<=i)/\i+w<=L)/\b i=true
  ·rw[if_pos f,if_pos (e.mp f)]
  ·rw[if_neg f,if_neg λz=>f (e.mpr z),oc_fr (n:=n) (i:=i+1) (fr:=fr) (fr':=fr') (by lia) (by lia)]
theorem x1p:∀(d n i),i+d=fr->oc L w b (n+d) i fr k=oc L w b n fr fr k
 |0,n,i,h=>by rw[Nat.add_zero] at h;rw[h];rfl
 |d+1,n,i,h=>by
  show oc L w b (n+d+1) i fr k=_;rw[oc,if_neg (λz=>by have:=z.1.1.2;lia)];exact x1p d n (i+1) (by lia)
noncomputable def rpl(y z:List Nat):Nat->Nat->List Nat->List Nat
 |0,_,l=>l
 |n+1,k,l=>if 0<k/\l.take y.length=y then z++rpl y z n (k-1) (l.drop y.length) else match l with
  |[]=>[]
  |c::r=>c::rpl y z n k r
noncomputable def nxt(f:List Nat->List Nat):List Nat->List Nat
 |[]=>[]
 |c::r=>c::f r
def z3l(y z)(n k)(l):rpl y z (n+1) k l=if 0<k/\l.take y.length=y then z++rpl y z n (k-1) (l.drop y.length) else nxt (rpl y z n k) l:=by
 cases l<;>rfl
theorem z0l(g:y≠[]):∀{n m k} {l},l.length<n->l.length<m->rpl y z n k l=rpl y z m k l
 |0,_,_,_,h,_=>absurd h (by lia)
 |_+1,0,_,_,_,h=>absurd h (by lia)
 |n+1,m+1,k,l,h,h'=>by
  rw[z3l,z3l];have j:=Bw.mpr g;by_cases f:0<k/\l.take y.length=y
  ·have hl:y.length<=l.length:=by
    have:=congrArg List.length f.2;rw[Cg] at this;lia
   rw[if_pos f,if_pos f,z0l g (n:=n) (m:=m) (by rw[Ca];lia) (by rw[Ca];lia)]
  ·rw[if_neg f,if_neg f];cases l with
   |nil=>rfl
   |cons c r =>
    rw[Bc] at h h';show c::rpl y z n k r=c::rpl y z m k r;rw[z0l g (n:=n) (m:=m) (by lia) (by lia)]
noncomputable def fj(l z:List Nat)(w:Nat):Nat->List Nat->List Nat
 |a,[]=>l.drop a
 |a,c::r=>(l.drop a).take (c-a)++(z++fj l z w (c+w) r)
def fj_oc(o:y≠[])(s:∀i,i+y.length<=l.length->(b i=true↔(l.drop i).take y.length=y)):∀(n i a k),i+n=l.length+1->a<=i->i<=l.length->fj l z y.length a (oc l.length y.length b n i i k)=(l.drop a).take (i-a)++rpl y z n k (l.drop i):=by
 intro n;induction n using Nat.strongRecOn with
 |ind n ih =>
  intro i a k hn ha v;have B:=Bw.mpr o;cases n with
  |zero=>lia
  |succ m =>
   rw[oc,z3l];by_cases f:((0<k/\i<=i)/\i+y.length<=l.length)/\b i=true
   ·have hc':0<k/\(l.drop i).take y.length=y:=⟨f.1.1.1,(s i f.1.2).mp f.2⟩
    rw[if_pos f,if_pos hc'];show(l.drop a).take (i-a)++(z++fj l z y.length (i+y.length) _)=_;have h:=f.1.2;rw[show m=(m-(y.length-1))+(y.length-1) by lia,x1p (y.length-1) _ (i+1) (by lia),ih (m-(y.length-1)) (by lia) (i+y.length) (i+y.length) (k-1) (by lia) (Aj _) h,Oi,Ih,Og,Tr];rw[z0l o (n:=m-(y.length-1)) (m:=m-(y.length-1)+(y.length-1)) (by rw[Ca];lia) (by rw[Ca];lia)]
   ·have hc':¬(0<k/\(l.drop i).take y.length=y):=λz=>f (by
     have hl:i+y.length<=l.length:=by
      have:=congrArg List.length z.2;rw[Cg,Ca] at this;lia
     exact⟨⟨⟨z.1,Aj _⟩,hl⟩,(s i hl).mpr z.2⟩)
    rw[if_neg f,if_neg hc'];by_cases j:i=l.length
    ·have u:m=0:=by lia
     rw[u,j,Ip];show l.drop a=(l.drop a).take (l.length-a)++[]
     rw[Cd,Dl (by rw[Ca];lia)]
    ·have g:i<l.length:=by lia
     rw[oc_fr (fr:=i) (fr':=i+1) (by lia) (Aj _),ih m (by lia) (i+1) a k (by lia) (by lia) g,La g];show _=(l.drop a).take (i-a)++(l[i]::rpl y z m k (l.drop (i+1)))
     have e:(l.drop a).take (i+1-a)=(l.drop a).take (i-a)++[l[i]]:=by
      rw[show i+1-a=(i-a)+1 by lia,Fu,Lr,show a+(i-a)=i by lia,Bv g];rfl
     rw[e,Dj];rfl
theorem z4z(x z)(w):∀ a   cuts ,tl (Ke z (Wm x w a cuts))=fj (tl x) (tl z) w a cuts
 |a,[]=>by
  show(strSub x a x.length).cps.toList=(x.cps.toList).drop a;rw[Tt,Dl];rw[Ca];show x.cps.toList.length-a<=x.cps.size-a;simp
 |a,c::r=>by
  have f:=z4z x z w (c+w) r;obtain⟨p,q,e⟩:=StrLaws.partsFrom_ne x w (c+w) r;show tl (Ke z (strSub x a c::Wm x w (c+w) r))=(tl x |>.drop a).take (c-a)++(tl z++fj (tl x) (tl z) w (c+w) r)
  rw[<- f,e];show tl (strSub x a c++z++Ke z (p::q))=_;rw[q2o,q2o,Dj];congr 1;exact Tt x a c
def x1q(x y z)(k)(h:tl y≠[]):tl (glued z (partsBetween x (occurrences x y 0 x.length k) y.length))=rpl (tl y) (tl z) ((tl x).length+1) k (tl x):=by
 have g:(tl x).length=x.length:=(len x).symm;have f:(tl y).length=y.length:=(len y).symm;rw[Nf,Rx,z4z,StrLaws.occ_eq];have j:=x1o x y x.length k (x.length+1) 0 0 #[] (Ba _);rw[show x.length+1-0=x.length+1 by lia,j];have:=fj_oc (l:=tl x) (y:=tl y) (z:=tl z) (b:=subAt x y) h (λi _=>by
  rw[StrLaws.subAt_eq,f];exact beq_iff_eq) (x.length+1) 0 0 k (by lia) (Aj _) (Ba _)
 rw[g,f] at this;show fj (tl x) (tl z) y.length 0 ([]++oc x.length y.length (subAt x y) (x.length+1) 0 0 (k-0))=_;rw[Og,Lo,this,g];rfl
def q9i(x y z)(k)(f:tl y≠[]):tl (if ((occurrences x y 0 x.length k).isEmpty||(y.length==0&&z.length==0))=true then x else glued z (partsBetween x (occurrences x y 0 x.length k) y.length))=rpl (tl y) (tl z) ((tl x).length+1) k (tl x):=by
 have g:(y.length==0)=false:=by
  have:=Bw.mpr f;rw[<- len] at this;exact beq_eq_false_iff_ne.mpr (by lia)
 rw[g,Ow,Uo,<- x1q x y z k f];split
 ·rename_i h;have e:occurrences x y 0 x.length k=[]:=List.isEmpty_iff.mp h;rw[e,Nf,Rx,z4z];show tl x=(tl x).drop 0;rw[Mb]
 ·rfl
def q9j(x y z)(f:tl y≠[]):tl (Pe x y z)=rpl (tl y) (tl z) ((tl x).length+1) ((tl x).length+1) (tl x):=by
 unfold Pe;have:=q9i x y z (x.length+1) f;rw[len x] at this ⊢;exact this
def q7u(x y z)(f:tl y≠[]):tl (L2.replace1 x y z)=rpl (tl y) (tl z) ((tl x).length+1) 1 (tl x):=q9i x y z 1 f
def q6s(hk:0<k):rpl y z (n+1) k (y++r)=z++rpl y z n (k-1) r:=by
 rw[z3l,if_pos ⟨hk,Tu⟩,Tv]
def z0m(h:(c::r).take y.length≠y):rpl y z (n+1) k (c::r)=c::rpl y z n k r:=by
 rw[z3l,if_neg λw=>h w.2];rfl
theorem z0n:∀{n} {l},rpl y z n 0 l=l
 |0,_=>rfl
 |n+1,l=>by
  rw[z3l,if_neg λw=>by have:=w.1;lia];cases l with
  |nil=>rfl
  |cons c r=>show c::rpl y z n 0 r=_;rw[z0n]
theorem q2x(f:y=d::ys):∀{a r} {n k},(∀c∈a,c≠d)->rpl y z (n+a.length) k (a++r)=a++rpl y z n k r
 |[],r,n,k,_=>rfl
 |c::a,r,n,k,h=>by
  have g:=h c Al;show rpl y z (n+a.length+1) k (c::(a++r))=c::(a++_)
  rw[z0m (λw=>by rw[f,Bc,List.take_succ_cons] at w;injection w with w;exact g w),q2x f λx j=>h x (Ak _ j)]
end TX
namespace PM
open PySem PySem.Spec PyProof.Rows L2 TX
noncomputable def sp:List Nat->List (List Nat)
 |[]=>[[]]
 |c::r=>if c=47 then[]::sp r else match sp r with | []=>[[c]]|p::q=>(c::p)::q
end PM
namespace PC
open PySem PySem.Spec PyProof.Rows L2 TX
noncomputable def jc(s:Nat):List (List Nat)->List Nat
 |[]=>[]
 |[a]=>a
 |a::b::r=>a++s::jc s (b::r)
noncomputable def sc(s:Nat):List Nat->List (List Nat)
 |[]=>[[]]
 |c::r=>if c=s then[]::sc s r else match sc s r with | []=>[[c]]|p::q=>(c::p)::q
theorem x7m:∀{a}  l ,s∉a->sc s (a++s::l)=a::sc s l
 |[],l,_=>by show(if s=s then _ else _)=_;rw[if_pos rfl]
 |c::a,l,h=>by
  have f:c≠s:=λz=>h (by rw[z];exact Al);have g:=x7m l λz=>h (Ak _ z);show(if c=s then _ else _)=_;rw[if_neg f];show(match sc s (a++s::l) with | []=>[[c]]|p::q=>(c::p)::q)=_;rw[g]
theorem x7n:∀{a},s∉a->sc s a=[a]
 |[],_=>rfl
 |c::a,h=>by
  have f:c≠s:=λz=>h (by rw[z];exact Al);have g:=x7n λz=>h (Ak _ z);show(if c=s then _ else _)=_;rw[if_neg f,g]
theorem sc_jc:∀{xs},xs≠[]->(∀x∈xs,s∉x)->sc s (jc s xs)=xs
 |[],h,_=>absurd rfl h
 |[a],_,f=>x7n (f a Al)
 |a::b::r,_,f=>by
  show sc s (a++s::jc s (b::r))=_;rw[x7m _ (f a Al),sc_jc (by simp) λx g=>f x (Ak _ g)]
def x5b(s):∀ts,tl (Uh ((⟨#[s]⟩:Str)) ts)=jc s (ts.map tl):=by
 intro ts;rw[z4q];induction ts with
 |nil=>rfl
 |cons a r ih =>
  cases r with
  |nil=>simp[Ke,jc]
  |cons b r =>
   show tl (a++(⟨#[s]⟩:Str)++Ke ((⟨#[s]⟩:Str)) (b::r))=_;rw[q2o,q2o,ih];have e:tl (⟨#[s]⟩:Str)=[s]:=rfl;rw[e];show _=tl a++s::jc s (tl b::r.map tl);simp
def split_sc(s)(z):(Pl z ((⟨#[s]⟩:Str))).map tl=sc s (tl z):=by
 have f:=StrLaws.join_split z ((⟨#[s]⟩:Str));rw[<- z4q] at f;have g:=x5b s (Pl z ((⟨#[s]⟩:Str)));rw[f] at g;have h:=StrLaws.split_free z s;have j:=split_pos z ((⟨#[s]⟩:Str));rw[g,sc_jc]
 ·intro z;have:=congrArg List.length z;rw[Ae,Hu] at this;lia
 ·grind
def split_mk(s)(z):(Pl z ((⟨#[s]⟩:Str))).map V.str=(sc s (tl z)).map λn=>V.str (mk n):=by
 rw[<- split_sc s,Ct];refine Kw λp _=>?_;show V.str p=V.str (mk (tl p));rw[z9x]
theorem sc_len:∀l,(sc s l).length<=l.length+1
 |[]=>Aj _
 |c::r=>by
  have f:=sc_len (s:=s) r;show(if c=s then[]::sc s r else match sc s r with | []=>[[c]]|p::q=>(c::p)::q).length<=_;split
  ·simp;lia
  ·cases e:sc s r with
   |nil=>simp
   |cons p q=>grind
end PC
namespace L2
open PySem PySem.Spec PyProof.Rows
def gE(h:∀j X,j=D->X=b->(tSeq f X) j g H):(tSeq f b) D g H:=h D b rfl rfl
def gY(j:X=tSeq f b)(h:∀Y,Y=b->(tSeq f Y) D g H):X D g H:=by rw[j];exact h b rfl
def gZ(h:∀X,X=b->(tSeq f X) D g H):(tSeq f b) D g H:=h b rfl
def gE2(h:∀o X,o=D->X=b->(tSeq f (tSeq g X)) o j H):(tSeq f (tSeq g b)) D j H:=h D b rfl rfl
def gY2(o:X=tSeq f (tSeq g b))(h:∀Y,Y=b->(tSeq f (tSeq g Y)) D j H):X D j H:=by rw[o];exact h b rfl
def gE3(h:∀s X,s=D->X=b->(tSeq f (tSeq g (tSeq j X))) s o H):(tSeq f (tSeq g (tSeq j b))) D o H:=h D b rfl rfl
end L2
namespace K
open PySem L2 TX
noncomputable def top(i:Nat):Stmt:=PySem.Challenge.pw_renamehall_k92_whole_alike_rules_alike_w.main.body.getD i (.Pass ⟨0,0,0,0⟩)
structure Txt (mg:Str->Option Value):Prop where
 b_all:mg "all" = none
 b_dict:mg "dict" = none
 b_enumerate:mg "enumerate" = none
 b_int:mg "int" = none
 b_isinstance:mg "isinstance" = none
 b_len:mg "len" = none
 b_list:mg "list" = none
 b_max:mg "max" = none
 b_min:mg "min" = none
 b_range:mg "range" = none
 b_reversed:mg "reversed" = none
 b_sorted:mg "sorted" = none
 b_str:mg "str" = none
 b_tuple:mg "tuple" = none
 b_zip:mg "zip" = none
 NAME_SIGNS:∃t,mg "NAME_SIGNS" = some (.str (Ab "abcdefghijklmnopqrstuvwxyzABCDEFGHIJKLMNOPQRSTUVWXYZ0123456789-_.") t)
 GAP_SIGNS:∃t,mg "GAP_SIGNS" = some (.str (Ab "?*#@") t)
 MOST_GAPS:∃t,mg "MOST_GAPS" = some (.int 9 t)
 FIGURES:∃t,mg "FIGURES" = some (.str (Ab "0123456789") t)
 LETTERS:∃t,mg "LETTERS" = some (.str (Ab "abcdefghijklmnopqrstuvwxyzABCDEFGHIJKLMNOPQRSTUVWXYZ") t)
 FROM_ONE:∃t,mg "FROM_ONE" = some (.str (Ab "123456789") t)
 FROM_TWO:∃t,mg "FROM_TWO" = some (.str (Ab "23456789") t)
 MOST_FIGURES:∃t,mg "MOST_FIGURES" = some (.int 9 t)
 MOST_SIGNS:∃t,mg "MOST_SIGNS" = some (.int 12 t)
 MOST_NAMES:∃t,mg "MOST_NAMES" = some (.int 6 t)
 MOST_NAMES_ASKED:∃t,mg "MOST_NAMES_ASKED" = some (.int 1000 t)
 MOST_START:∃t,mg "MOST_START" = some (.int 1000000000 t)
structure Calls (P) (w) (K) (mg) (base):Prop where
 draw:Cal P w K mg base "_law_draw" 1 Z4 spDraw
section
variable{P:Aq}{w:World}{K:Ai}{mg:Str->Option Value}{base:Heap}
noncomputable abbrev z5a:Stmt:=top 79
def sc_draw:FnScope ["_law_feed", "_law_many", "_law_cell", "_law_number", "_law_found_here"] Z4 (defScope z5a):=by trivial
def x9r (D : Df K mg "_law_draw" z5a Z4) (T : Txt mg) : Cal P w K mg base "_law_draw" 1 Z4 spDraw := by
  refine D.cal sc_draw (λvs H Q E h => ?_) (λf cdv A outer s H vs Q E hr h => ?_)
  · obtain ⟨a, b, m, rfl, _⟩ := h; rfl
  · obtain ⟨a, b, m, rfl, ⟨⟨i, j, ha⟩, ns, hb⟩, hm0, hm1, k⟩ := h;refine ⟨_, (q0b (q6y (q0u q0n (q0w (ix_k K rfl) (pv 0) q0f (λ_ _ => rfl)) q0f) (z8y (pv 0) q0f q6m)) (q0b (q0t (q0h (eq_k K rfl hr) (q0w (ix_k K rfl) (pv 0) q0f (λ_ _ => rfl)) q0f (nomark _)) (q0b (q0l (i := 2) sc_draw.nd rfl (by first | exact Or.inl rfl | exact Or.inr rfl) (q0w (ix_k K rfl) (pv 0) q0f (λ_ _ => rfl))) (q0b (q0t (q0h q6h (q0r (q2u K rfl) (by rfl) T.b_len By (q0a (q0w (ix_k K rfl) (pv 0) q0f (λ_ _ => rfl)) q0d)) q0f (nomark _)) (q0e (q0l (i := 2) sc_draw.nd rfl (by first | exact Or.inl rfl | exact Or.inr rfl) (q0w (ix_k K rfl) (q0w (ix_k K rfl) (pv 0) q0f (λ_ _ => rfl)) (q0u q8u (q0w (ix_k K rfl) (pv 0) q0f (λ_ _ => rfl)) (q0r (q2u K rfl) (by rfl) T.b_len By (q0a (q0w (ix_k K rfl) (pv 0) q0f (λ_ _ => rfl)) q0d))) (λ_ _ => rfl)))) q0j) (q0b (q0t (q0h z9g (pv 2) (q0u op_pow q0f q0f) (nomark _)) (q0b (q0l (i := 3) sc_draw.nd rfl (by first | exact Or.inl rfl | exact Or.inr rfl) (q0u q8u (q0u q7j (q0u q0n (q0u q0n (q0u q8u (pv 2) q0f) (q0u q7j q0f (q0w (ix_k K rfl) (pv 0) q0f (λ_ _ => rfl)))) q0f) q0f) q0f)) (q0b (q0l (i := 3) sc_draw.nd rfl (by first | exact Or.inl rfl | exact Or.inr rfl) (q0u q8u (q0u q7j (pv 3) (q0u q0n (pv 3) q0f)) q0f)) (q0e (q0m (q0u q8u (q0u z9c (pv 3) q0f) (pv 1)))))) q0j) (q0e (q6y (pv 2) (z8y (pv 0) q0f q6m)))))) q0j) (q0b (q0l (i := 4) sc_draw.nd rfl (by first | exact Or.inl rfl | exact Or.inr rfl) (q0u q8u (q0w (ix_k K rfl) (pv 0) q0f (λ_ _ => rfl)) (pv 1))) (q0b (q6y (q0u z9c (q0w (ix_k K rfl) (pv 0) q0f (λ_ _ => rfl)) (pv 1)) (z8y (pv 0) q0f q6m)) (q0e (q0m (pv 4))))))), ?_⟩;have nba := FeedAt.ne ⟨⟨i, j, ha⟩, ns, hb⟩;refine ⟨_, rfl, .inl ⟨a, _, 1, _, rfl, rfl, SqL.of ha, rfl, .inl ⟨_, _, rfl, rfl, _, rfl, a, _, 1, 1, rfl, rfl, ha, rfl, ?_⟩⟩⟩;generalize hH1 : upd H a _ = H1;have ha1 : H1 a = some (.lst [.ref b, .int (i + 1), .int j]) := by rw [← hH1]; exact q0c
    have hb1 : H1 b = some (.lst (ns.map V.int)) := by rw [← hH1, q0g nba]; exact hb
    have fd : ∀ (x y : Int), Fd a b H (upd H1 a (.lst [.ref b, .int x, .int y])) := λx y => ⟨⟨⟨x, y, q0c⟩, ns, by rw [q0g nba]; exact hb1⟩, λc o e hc => by rw [q0g hc, ← hH1, q0g hc]; exact e⟩
    have fd1 : Fd a b H H1 := ⟨⟨⟨_, _, ha1⟩, ns, hb1⟩, λc o e hc => by rw [← hH1, q0g hc]; exact e⟩
    refine ⟨_, rfl, .inl ⟨a, _, 2, _, rfl, rfl, SqL.of ha1, rfl, .inl ⟨rfl, _, rfl, ?_⟩⟩⟩;have last : ∀ (H2 : Hp) (x2 x3 x4 : Option V) (y : Int), H2 a = some (.lst [.ref b, .int (i + 1), .int y]) → (∀ x y : Int, Fd a b H (upd H2 a (.lst [.ref b, .int x, .int y]))) →
        tSeq (tAsg (tOp (rI (λ_ j => 0 < j) λi j => .int (i % j)) (tOp (rIx K) (tVar 0) (tC (.int 2))) (tVar 1)) (gName 4)) (tSeq (tAsg (tOp (rI CDiv λi j => .int (i / j)) (tOp (rIx K) (tVar 0) (tC (.int 2))) (tVar 1)) (gSub (tVar 0) (tC (.int 2)) rSetL)) (tRet (tVar 4))) { nx := λ_ H' => Q .non H', rt := Q } [some (.ref a), some (.int m), x2, x3, x4] H2 := by
      intro H2 x2 x3 x4 y h2 f2;refine ⟨_, rfl, .inl ⟨a, _, 2, _, rfl, rfl, SqL.of h2, rfl, _, rfl, _, _, rfl, rfl, hm0, ?_⟩⟩;refine ⟨_, rfl, .inl ⟨a, _, 2, _, rfl, rfl, SqL.of h2, rfl, _, rfl, _, _, rfl, rfl, ⟨hm0, hm1⟩, _, rfl, a, _, 2, 2, rfl, rfl, h2, rfl, _, rfl, ?_⟩⟩;exact k _ _ (Sd _ (by lia)) (Pn _ hm0) (f2 _ _)
    refine ite2 (λ_ => ?_) (λ_ => last H1 _ _ _ j ha1 fd);refine ⟨_, rfl, .inl ⟨a, _, 1, _, rfl, rfl, SqL.of ha1, rfl, ?_⟩⟩;refine ⟨_, rfl, .inl ⟨a, _, 0, _, rfl, rfl, SqL.of ha1, rfl, ⟨_, _, rfl, .inl ⟨_, SqL.of hb1, rfl⟩, ⟨_, _, rfl, rfl, _, rfl, ?_⟩⟩⟩⟩
    have rest : ∀ cell : Int, tSeq (tIfS (tTest (tOp (rI0 λi j => .bl (decide (i < j))) (tVar 2) (tOp (rI CPow λi j => .int (i ^ j.toNat)) (tC (.int 10)) (tC (.int 18)))))
          (tSeq (tAsg (tOp (rI (λ_ j => 0 < j) λi j => .int (i % j)) (tOp rMulU (tOp rAddU (tOp rAddU (tOp (rI (λ_ j => 0 < j) λi j => .int (i % j)) (tVar 2) (tC (.int 2147483647))) (tOp rMulU (tC (.int 613)) (tOp (rIx K) (tVar 0) (tC (.int 1))))) (tC (.int 7))) (tC (.int 48271))) (tC (.int 2147483647))) (gName 3))
            (tSeq (tAsg (tOp (rI (λ_ j => 0 < j) λi j => .int (i % j)) (tOp rMulU (tVar 3) (tOp rAddU (tVar 3) (tC (.int 69621)))) (tC (.int 2147483629))) (gName 3))
              (tRet (tOp (rI (λ_ j => 0 < j) λi j => .int (i % j)) (tOp (rI CDiv λi j => .int (i / j)) (tVar 3) (tC (.int 64))) (tVar 1))))) tNext)
          (tAsg (tVar 2) (gSub (tVar 0) (tC (.int 2)) rSetL))
        { nx := λσ2 H2 => tSeq (tAsg (tOp (rI (λ_ j => 0 < j) λi j => .int (i % j)) (tOp (rIx K) (tVar 0) (tC (.int 2))) (tVar 1)) (gName 4)) (tSeq (tAsg (tOp (rI CDiv λi j => .int (i / j)) (tOp (rIx K) (tVar 0) (tC (.int 2))) (tVar 1)) (gSub (tVar 0) (tC (.int 2)) rSetL)) (tRet (tVar 4))) { nx := λ_ H' => Q .non H', rt := Q } σ2 H2, rt := Q }
        [some (.ref a), some (.int m), some (.int cell), none, none] H1 := by
      intro cell;refine ⟨_, rfl, _, _, rfl, rfl, ⟨by decide, by decide, by decide⟩, _, _, rfl, rfl, _, rfl, ?_⟩;refine ite2 (λ_ => ?_) (λ_ => ?_)
      · refine ⟨_, rfl, _, _, rfl, rfl, (by show (0 : Int) < 2147483647; decide), ?_⟩;refine ⟨_, rfl, .inl ⟨a, _, 1, _, rfl, rfl, SqL.of ha1, rfl, .inl ⟨_, _, rfl, rfl, .inl ⟨by decide, by decide⟩, .inl ⟨_, _, rfl, rfl, .inl ⟨_, _, rfl, rfl, .inl ⟨_, _, rfl, rfl, .inr ⟨by decide, by decide⟩, _, _, rfl, rfl, (by show (0 : Int) < 2147483647; decide), ?_⟩⟩⟩⟩⟩⟩;refine ⟨_, rfl, _, rfl, .inl ⟨_, _, rfl, rfl, .inl ⟨_, _, rfl, rfl, .inl ⟨by lia, by lia⟩, _, _, rfl, rfl, (by show (0 : Int) < 2147483629; decide), ?_⟩⟩⟩;refine ⟨_, rfl, _, _, rfl, rfl, ⟨by decide, by decide⟩, _, rfl, _, _, rfl, rfl, hm0, ?_⟩;exact k _ _ (Sd _ (by lia)) (Pn _ hm0) fd1
      · refine ⟨_, rfl, _, rfl, a, _, 2, 2, rfl, rfl, ha1, rfl, ?_⟩;refine last _ _ _ _ cell q0c (λx y => ?_);have := fd x y;rw [x8c];exact this
    refine ite2 (λhl => ?_) (λ_ => rest _);have hne : ns.map V.int ≠ [] := by grind
    obtain ⟨x, hx, ex⟩ := x8r (i + 1) hne;obtain ⟨c, rfl⟩ : ∃ c, x = V.int c := by
      obtain ⟨c, _, e⟩ := Az.mp hx;exact ⟨c, e.symm⟩
    refine ⟨_, rfl, .inl ⟨a, _, 0, _, rfl, rfl, SqL.of ha1, rfl, ⟨_, rfl, .inl ⟨a, _, 1, _, rfl, rfl, SqL.of ha1, rfl, ⟨_, rfl, .inl ⟨a, _, 0, _, rfl, rfl, SqL.of ha1, rfl, ⟨_, _, rfl, .inl ⟨_, SqL.of hb1, rfl⟩, _, _, rfl, rfl, ?_, ?_⟩⟩⟩⟩⟩⟩⟩
    · grind
    · exact .inl ⟨b, _, _, _, rfl, rfl, SqL.of hb1, ex, rest c⟩
noncomputable abbrev z5b:Stmt:=top 82
def x9s:FnScope Z3 Z3 (defScope z5b):=by trivial
def x9t(D:Df K mg "_law_text" z5b Z3)(T:Txt mg)(draw:Cal P w K mg base "_law_draw" 1 Z4 spDraw):Cal P w K mg base "_law_text" 2 Z3 spText:=by
 refine D.cal x9s (λvs H Q E h=>?_) (λf O A outer s H vs Q E R h=>?_)
 ·obtain⟨a,b,g,n,rfl,_⟩:=h;rfl
 ·obtain⟨a,b,g,n,rfl,F,S,U,W,X,k⟩:=h;have C:Calls P w K mg base:=⟨draw⟩
  refine⟨_,(q0e (q0m (@bm_k _ _ _ _ _ _ _ _ _ _ _ _ K rfl Bo Tw Tz (x6u K rfl) q0i (q0a (q4l ["_law_k"] [("_law_signs_here",1),("_law_feed",0)] rfl (q1w rfl T.b_range (q0a (pv 2) q0d)) (λ_ _ _ _ _=>(q0k (i:=0) (show(["_law_k", "_law_signs_here", "_law_feed"]:List Str).Nodup by trivial) rfl (by trivial))) (λ_ _ _ _ _=>q9v) (λ_ _ _ _ _=>(q0w (ix_k K rfl) (pv 1) (pe_c C.draw R (q0a (pv 2) (q0a (q0r (q2u K rfl) (by rfl) T.b_len By (q0a (pv 1) q0d)) q0d))) (λ_ _=>rfl)))) q0d) (by rfl) (by rfl) (by rfl) (by rfl) (by rfl)))),?_⟩;refine⟨rfl,_,rfl,n,rfl,by lia,by lia,λD G=>?_⟩;refine z4p (n:=n.toNat) (λi v u=>∃j:List Nat,v=j.map (λc=>V.str ⟨#[c]⟩)/\j.length=i/\i<=n.toNat/\(∀c∈j,c∈tl g)/\Fd a b H u/\u D=some (.lst v)) ⟨[],rfl,rfl,Ba _,λ_ h=>(nomatch h),(Fd.refl F).new G,q0c⟩ (λi v u ⟨j,_,_,_,_,_,h⟩=>h) ?_ ?_
  ·rintro i v u hi ⟨j,rfl,hl,_,I,fd,o⟩;refine⟨_,rfl,_,rfl,_,rfl,_,_,rfl,⟨small (by lia),rfl⟩,a,b,_,rfl,fd.feed,by lia,by lia,λr H2 Y r1 B=>?_⟩;have Z:(tl g).length=g.length:=(len g).symm;obtain⟨c,J,L⟩:=q8y (xs:=tl g) Y (by lia);refine .inr (.inr ⟨g,r,c,rfl,rfl,small (by lia),L,?_⟩);have M:D≠a:=λz=>by subst z;exact F.na G rfl
   refine⟨B.at o M,small' (by rw[Ae];lia),j++[c],by rw[Bb];rfl,by rw[Af,hl];rfl,by lia,λd hd=>?_,(fd.trans B).put F G,q0c⟩;rcases Au.mp hd with z|z
   ·exact I d z
   ·rw[Ao.mp z];exact Ar J
  ·rintro v u ⟨j,rfl,hl,_,I,fd,o⟩;have e:j.map (λc=>V.str ⟨#[c]⟩)=(j.map λc=>(⟨#[c]⟩:Str)).map V.str:=by rw[Ct];rfl
   refine⟨_,D,j.map λc=>⟨#[c]⟩,rfl,rfl,.inl (SqL.of (by rw[<- e];exact o)),?_,?_⟩
   ·rw[x4b,Ae];have:(Ab "").length=0:=by trivial
    rw[this];lia
   ·have z:=z9z j;rw[z];exact k j u hl I fd
noncomputable abbrev q3h:Stmt:=top 80
def z0o:FnScope [] [] (defScope q3h):=by trivial
def z0p(D:Df K mg "_law_name_signs" q3h []):Cal P w K mg base "_law_name_signs" 1 [] (spConst NSs):=by
 refine D.cal z0o (λvs H Q E h=>?_) (λf g A outer s H vs Q E j h=>?_)
 ·obtain⟨rfl,_⟩:=h;rfl
 ·obtain⟨rfl,k⟩:=h;refine⟨_,(q0e (q0m q0i)),?_⟩;exact k
noncomputable def spAsk:Sp:=λvs H Q _=>∃l,vs=[.str (mk l)]/\Good l/\∀H',Same H H'->Q .non H'
def gn_in:∀c,decide (c∈tl (Ab "?*#@" ++ Ab "abcdefghijklmnopqrstuvwxyzABCDEFGHIJKLMNOPQRSTUVWXYZ0123456789-_."))=decide (c∈GS\/c∈NS):=λc=>by
 rw[q2o];exact decide_eq_decide.mpr Au
noncomputable abbrev q3y:Stmt:=top 23
def sc_ask_signs:FnScope ["pattern", "gaps", "at", "sign"] Zv (defScope q3y):=by trivial
def z3m(D:Df K mg "ask_signs" q3y Zv)(T:Txt mg):Cal P w K mg base "ask_signs" 1 Zv spAsk:=by
 refine D.cal sc_ask_signs (λvs H Q E h=>?_) (λf Z A outer s H vs Q E hr h=>?_)
 ·obtain⟨l,rfl,_⟩:=h;rfl
 ·obtain⟨l,rfl,R,k⟩:=h;obtain⟨_,j⟩:=T.NAME_SIGNS;obtain⟨_,g⟩:=T.GAP_SIGNS;obtain⟨_,o⟩:=T.MOST_GAPS;refine⟨_,(q0b (q0l (i:=1) sc_ask_signs.nd rfl (by trivial) q0f) (q0e (q1g Bj rfl (@z6g _ _ _ _ _ _ _ _ K rfl rfl T.b_enumerate (q0a (pv 0) q0d) (by rfl)) (@q2m _ _ _ _ _ (2) K rfl rfl (q0p (q0k (i:=2) sc_ask_signs.nd rfl (by trivial)) (q0p (q0k (i:=3) sc_ask_signs.nd rfl (by trivial)) q1s)) (by rfl) (by rfl)) (q2n (q0t (q0h (in_k K rfl) (pv 3) (q0z (v:=.str (Ab "?*#@")) (by rfl) g ⟨_,rfl⟩) (by with_unfolding_all rfl)) (q0e (z5y (i:=1) sc_ask_signs.nd rfl (by trivial) q0f z9d)) q0j) (q0e (q0t (pt_j (@PW.pt _ _ _ (z4l (q0h q6h (pv 1) (q0z (v:=.int 9) (by rfl) o ⟨_,rfl⟩) (nomark _)) (q6x (q0h (z9u K rfl) (pv 3) (q0u q0n (q0z (v:=.str (Ab "?*#@")) (by rfl) g ⟨_,rfl⟩) (q0z (v:=.str (Ab "abcdefghijklmnopqrstuvwxyzABCDEFGHIJKLMNOPQRSTUVWXYZ0123456789-_.")) (by rfl) j ⟨_,rfl⟩)) (by with_unfolding_all rfl)))))) (q0e q1l) q0j)))))),?_⟩;refine⟨_,rfl,.inl ⟨_,rfl,z2m (λi C I=>∃S U,C=[some (.str (mk l)),some (.int (((l.take i).filter λc=>decide (c∈GS)).length:Nat)),S,U]/\Same H I) ⟨none,none,rfl,Same.refl H⟩ ?_ ?_⟩⟩
  ·rintro i c W C I hc ⟨S,U,rfl,sm⟩ hT;have B:l[i]?=some c:=by have:=get hc;exact this
   have J:=Ar B;have hi:=(Ap.mp B).1;have G:((l.take (i+1)).filter λc=>decide (c∈GS)).length<=9:=by
    refine Ay (List.Sublist.length_le ?_) R.gp;exact(Wa _ _).filter _
   have u:((l.take (i+1)).filter λc=>decide (c∈GS)).length=((l.take i).filter λc=>decide (c∈GS)).length+(if c∈GS then 1 else 0):=by
    rw[q1b B,Jc,Af];by_cases h:c∈GS
    ·simp_all
    ·grind
   refine⟨W,_,rfl,SqT.of q0c,rfl,_,_,rfl,_,_,rfl,rfl,?_⟩;generalize L:upd I W _=X;have M:Same H X:=by rw[<- L];exact sm.new hT
   refine⟨λF O=>F=[some (.str (mk l)),some (.int (((l.take (i+1)).filter λc=>decide (c∈GS)).length:Nat)),some (.int (i:Nat)),some (.str ⟨#[c]⟩)]/\O=X,?_,?_⟩
   ·rintro F O ⟨rfl,rfl⟩;refine⟨λb Y=>b=false/\Y=O,?_,?_⟩
    ·rintro b Y ⟨rfl,rfl⟩;exact iteF ⟨_,_,rfl,M⟩
    ·refine⟨_,rfl,_,_,rfl,rfl,_,rfl,?_⟩;refine iteB (λh=>?_) (λh=>?_)
     ·grind
     ·refine⟨_,rfl,.inr (.inl ⟨_,_,rfl,rfl,by trivial,.inl ⟨_,_,rfl,rfl,_,rfl,?_,rfl⟩⟩)⟩;rw[q3t,gn_in,decide_eq_true (R.sg c J)];rfl
   ·refine⟨_,rfl,.inl ⟨_,_,rfl,rfl,_,rfl,?_⟩⟩;rw[q3t];refine ite2 (λh=>?_) (λh=>?_)
    ·have h':c∈GS:=of_decide_eq_true h;refine⟨_,rfl,_,_,rfl,rfl,?_,rfl⟩;rw[u,if_pos h'];rfl
    ·have h':¬c∈GS:=λz=>h (decide_eq_true z);refine⟨?_,rfl⟩;rw[u,if_neg h'];rfl
  ·grind
noncomputable def spTextParts:Sp:=λvs H Q _=>∃t,vs=[.str (mk t)]/\∀L H',H L=none->Same H H'->HL H' L (tp t)->Q (.ref L) H'
def x1r:decide (V.str (mk t)=V.str (Ab ""))=decide (t=[]):=by
 refine decide_eq_decide.mpr ⟨λh=>?_,λh=>by rw[h];rfl⟩;injection h with h;have:=congrArg tl h;rw[q0x] at this;rw[this];decide +kernel
noncomputable abbrev q3i:Stmt:=top 24
def z0q:FnScope Y6 Y6 (defScope q3i):=by trivial
def z0r(D:Df K mg "text_parts" q3i Y6)(T:Txt mg):Cal P w K mg base "text_parts" 1 Y6 spTextParts:=by
 refine D.cal z0q (λvs H Q E h=>?_) (λf u A outer s H vs Q E v h=>?_)
 ·obtain⟨t,rfl,_⟩:=h;rfl
 ·obtain⟨t,rfl,k⟩:=h;refine⟨_,(q0b (q0t (q0h (eq_k K rfl v) (pv 0) q0i (nomark _)) (q0e (q0m (q1p q0d))) q0j) (q0e (q0m (q1p (q0a (q0v (q0a q0i (q0a (pv 0) q0d))) q0d))))),?_⟩;refine⟨_,rfl,.inl ⟨rfl,_,rfl,?_⟩⟩;rw[x1r];refine ite2 (λh=>?_) (λh=>?_)
  ·have h':=of_decide_eq_true h;refine⟨by decide,λL g=>k L _ g ((Same.refl H).new g) ⟨[],q0c,?_⟩⟩;unfold tp;rw[if_pos h'];exact .nil
  ·have h':¬t=[]:=λz=>h (decide_eq_true z);refine⟨_,rfl,by show 2<=sizeLine;decide,λj o=>⟨by show 1<=sizeLine;decide,λL g=>k L _ ?_ (((Same.refl H).new o).new g) ⟨[j],q0c,?_⟩⟩⟩
   ·have B:Same H (upd H j (.tup [.str (Ab "text"),.str (mk t)])):=(Same.refl H).new o;exact B.free g
   ·unfold tp;rw[if_neg h'];refine .cons ?_ .nil;have:=q0q q0c g;rw[q0g this];exact q0c
structure Calls1 (P) (w) (K) (mg) (base):Prop where
 ask_signs:Cal P w K mg base "ask_signs" 1 Zv spAsk
 text_parts:Cal P w K mg base "text_parts" 1 Y6 spTextParts
noncomputable def spPartsOf:Sp:=λvs H Q _=>∃l,vs=[.str (mk l)]/\Good l/\∀L H',H L=none->Same H H'->HL H' L (parse [] l)->Q (.ref L) H'
def q7v{l:List Nat}(h:i<=j)(o:j<=l.length):Sf (mk l) (some (i)) (some (j))=mk ((l.drop i).take (j-i)):=by
 show Gx (mk l) (some (i:Int)) (some (j:Int))=_;rw[StrLaws.sliceText_plain ⟨by lia,by lia,by rw[show((mk l).cps.toList).length=l.length from congrArg List.length (q0x l)];lia⟩];have f:((i:Nat):Int).toNat=i:=by lia
 have g:(((j:Nat):Int)-((i:Nat):Int)).toNat=j-i:=by lia
 rw[show(mk l).cps.toList=l from q0x l,f,g]
noncomputable abbrev q5a:Stmt:=top 25
def sc_parts_of:FnScope ["pattern", "parts", "begin", "at", "sign"] Zv (defScope q5a):=by trivial
def z5c(D:Df K mg "parts_of" q5a Zv)(T:Txt mg)(C:Calls1 P w K mg base):Cal P w K mg base "parts_of" 2 Zv spPartsOf:=by
 refine D.cal sc_parts_of (λvs H Q E h=>?_) (λf c4 A outer s H vs Q E hr h=>?_)
 ·obtain⟨l,rfl,_⟩:=h;rfl
 ·obtain⟨l,rfl,hg,k⟩:=h;obtain⟨_,F⟩:=T.NAME_SIGNS;obtain⟨_,j⟩:=T.GAP_SIGNS;refine⟨_,(q0b (q0t (q0h (eq_k K rfl hr) (pv 0) q0i (nomark _)) (q0e q1l) q0j) (q0b (q0y (pe_c C.ask_signs hr (q0a (pv 0) q0d))) (q0b (q0l (i:=1) sc_parts_of.nd rfl (by trivial) (q1p q0d)) (q0b (q0l (i:=2) sc_parts_of.nd rfl (by trivial) q0f) (q0b (q1g Bj rfl (@z6g _ _ _ _ _ _ _ _ K rfl rfl T.b_enumerate (q0a (pv 0) q0d) (by rfl)) (@q2m _ _ _ _ _ (2) K rfl rfl (q0p (q0k (i:=3) sc_parts_of.nd rfl (by trivial)) (q0p (q0k (i:=4) sc_parts_of.nd rfl (by trivial)) q1s)) (by rfl) (by rfl)) (q0e (q0t (q0h (in_k K rfl) (pv 4) (q0z (v:=.str (Ab "?*#@")) (by rfl) j ⟨_,rfl⟩) (by with_unfolding_all rfl)) (q0b (q0y (@bm_k _ _ _ _ _ _ _ _ _ _ _ _ K rfl Bz Rl Rm z2g (pv 1) (q0a (pe_c C.text_parts hr (q0a (q1d (sl_k K rfl) (pv 0) (q1a (pv 2)) (q1a (pv 3))) q0d)) q0d) (by rfl) (by rfl) (by rfl) (by rfl) (by rfl))) (q0b (q0y (@bm_k _ _ _ _ _ _ _ _ _ _ _ _ K rfl Bz Cu Cv q1i (pv 1) (q0a (q0v (q0a q0i (q0a (pv 4) q0d))) q0d) (by rfl) (by rfl) (by rfl) (by rfl) (by rfl))) (q0e (q0l (i:=2) sc_parts_of.nd rfl (by trivial) (q0u q0n (pv 3) q0f))))) q0j))) (q0b (q0y (@bm_k _ _ _ _ _ _ _ _ _ _ _ _ K rfl Bz Rl Rm z2g (pv 1) (q0a (pe_c C.text_parts hr (q0a (q1d (sl_k K rfl) (pv 0) (q1a (pv 2)) q2h) q0d)) q0d) (by rfl) (by rfl) (by rfl) (by rfl) (by rfl))) (q0e (q0m (pv 1))))))))),?_⟩;show tSeq _ _ _ _ _;refine gE2 λc2 a5 O R=>?_
  have a6:(mk l).length=l.length:=by rw[len,q0x]
  have c5:=hg.len;refine⟨_,rfl,.inl ⟨rfl,_,rfl,?_⟩⟩;rw[x1r,decide_eq_false hg.ne];refine iteF ?_;refine⟨_,rfl,l,rfl,hg,λH1 a7=>?_⟩;show a5 _ _ _;refine gY R λa8 S=>?_;refine⟨by show 0<=sizeLine;decide,λL hL=>?_⟩;show a8 _ _ _;refine gY2 S λa9 U=>?_;have W:H L=none:=a7.free hL;have ext:∀(u:Hp) (acc:List Pt) (t:List Nat) (M:Addr) (o:Hp),HL u L acc->acc.length<=5000->Same H u->u M=none->Same u o->HL o M (tp t) ->
    ∃I J,o L=some (.lst I)/\o M=some (.lst J)/\I.length+J.length<=sizeLine/\HL (upd o L (.lst (I++J))) L (acc++tp t)/\Same H (upd o L (.lst (I++J))):=by
   intro u acc t M o hl ha sm hM B hm;obtain⟨Ts,h1,h2⟩:=hl.ex;obtain⟨Us,h3,h4⟩:=hm.ex;have l1:=h2.len;have l2:=h4.len;have l3:(tp t).length<=1:=by unfold tp;split<;>simp
   have X:o L=some (.lst (Ts.map V.ref)):=B _ _ h1;refine⟨_,_,X,h3,by rw[Ae,Ae];exact small (by lia),⟨Ts++Us,by rw[Bb];exact q0c,?_⟩,(sm.trans B).put W⟩;exact Tups.app ((h2.keep (Same.tk B)).keep ((TKeep.refl o).lst X)) (h4.keep ((TKeep.refl o).lst X))
  refine⟨_,rfl,.inl ⟨_,rfl,z2m (λi Y u=>∃acc x3 x4 g,Y=[some (.str (mk l)),some (.ref L),some (.int (g:Nat)),x3,x4]/\Same H u/\HL u L acc/\g<=i/\i<=l.length/\acc.length<=2*i/\acc++parse ((l.drop g).take (i-g)) (l.drop i)=parse [] l) ⟨[],none,none,0,rfl,(a7.new hL),⟨[],q0c,.nil⟩,Aj _,Ba _,Aj _,by simp⟩ ?_ ?_⟩⟩
  ·rintro i c T' Y u hc ⟨acc,x3,x4,g,rfl,sm,hl,b0,b1,b7,G⟩ hT;have Z:l[i]?=some c:=by have:=get hc;rw[q0x] at this;exact this
   have hi:i<l.length:=(Ap.mp Z).1;have b8:l.drop i=c::l.drop (i+1):=by
    have:=La hi;rw[this];congr 1;exact(Ap.mp Z).2
   refine⟨T',_,rfl,SqT.of q0c,rfl,_,_,rfl,_,_,rfl,rfl,?_⟩;generalize b9:upd u T' _=o;have b2:Same u o:=by rw[<- b9];exact(Same.refl u).new hT
   have B:Same H o:=sm.trans b2;have a0:HL o L acc:=hl.same b2;refine⟨_,rfl,.inl ⟨_,_,rfl,rfl,_,rfl,?_⟩⟩;rw[q3t];rw[b8,parse] at G;refine ite2 (λh=>?_) (λh=>?_)
   ·show tSeq _ _ _ _ _;refine gE λc3 b3 a1 a2=>?_;have h':c∈GS:=of_decide_eq_true h;rw[if_pos h'] at G;refine⟨_,rfl,.inl ⟨rfl,a0.sq⟩,_,rfl,_,rfl,_,rfl,_,rfl,_,rfl,.inl ⟨_,rfl,small (by lia),?_⟩⟩;rw[q7v b0 b1];refine⟨_,rfl,λM H3 hM a3 hm=>?_⟩;obtain⟨I,J,e1,e2,e3,e4,e5⟩:=ext o acc _ M H3 a0 (by lia) B hM a3 hm;refine⟨L,M,I,J,rfl,rfl,e1,e2,e3,?_⟩;show b3 _ _ _;refine gY a2 λb4 a4=>?_;generalize c0:upd H3 L _=H4;rw[c0] at e4 e5;refine⟨_,rfl,.inl ⟨rfl,e4.sq⟩,_,rfl,by show 2<=sizeLine;decide,λT2 b5=>?_⟩;have e6:HL (upd H4 T2 (.tup (Pt.gp c).vs)) L _:=e4.new b5;obtain⟨Ts,h1,h2⟩:=e6.ex;have c6:(tp ((l.drop g).take (i-g))).length<=1:=by unfold tp;split<;>simp
    have c1:=h2.len;rw[Af] at c1;refine⟨L,_,_,rfl,rfl,h1,by rw[Ae];exact small' (by lia),?_⟩;show b4 _ _ _;subst a4;refine⟨_,rfl,.inl ⟨_,_,rfl,rfl,?_⟩⟩;subst a1;have b6:T2≠L:=λz=>by subst z;rw[q0c] at h1;cases h1
    refine⟨acc++tp ((l.drop g).take (i-g))++[.gp c],some (.int (i:Nat)),some (.str ⟨#[c]⟩),i+1,rfl,(e5.new b5).put W,⟨Ts++[T2],by rw[Bb];exact q0c,?_⟩,Aj _,hi,by rw[Af,Af,Bi];lia,?_⟩
    ·refine Tups.app (h2.keep ((TKeep.refl _).lst h1)) (.cons ?_ .nil);rw[q0g b6];exact q0c
    ·rw[<- G];simp
   ·have h':¬c∈GS:=λz=>h (decide_eq_true z);rw[if_neg h'] at G;refine⟨acc,_,_,g,rfl,B,a0,by lia,hi,by lia,?_⟩;rw[<- G];congr 2;have e1:i+1-g=(i-g)+1:=by lia
    rw[e1];refine q1b ?_;rw[Lr];have e2:g+(i-g)=i:=by lia
    rw[e2];exact Z
  ·rintro Y u ⟨acc,x3,x4,g,rfl,sm,hl,b0,b1,b7,G⟩;show a9 _ _ _;subst U;refine⟨_,rfl,.inl ⟨rfl,hl.sq⟩,_,rfl,_,rfl,_,rfl,.inl ⟨_,rfl,small (by lia),?_⟩⟩;have c7:g<=l.length:=by lia
   rw[z8a (by lia) (by rw[q0x];lia),q0x];refine⟨_,rfl,λM H3 hM a3 hm=>?_⟩;obtain⟨I,J,e1,e2,e3,e4,e5⟩:=ext u acc _ M H3 hl (by lia) sm hM a3 hm;refine⟨L,M,I,J,rfl,rfl,e1,e2,e3,_,rfl,?_⟩;subst O;refine k L _ W e5 ?_;rw[a6] at G;have e6:(l.drop g).take (l.length-g)=l.drop g:=Dl (by rw[Ca];exact Aj _);rw[Ip,parse,e6] at G;have e7:((g:Nat):Int).toNat=g:=by lia
   rw[e7] at e4;rw[<- G];exact e4
noncomputable def spAllOf:Sp:=λvs H Q _=>∃t g,vs=[.str (mk t),.str g]/\t.length<=1000/\∀H',Same H H'->Q (.bl (allOf t (tl g))) H'
noncomputable abbrev q7w:Stmt:=top 17
def x1s:FnScope Zs Zs (defScope q7w):=by trivial
def x1t(D:Df K mg "all_of" q7w Zs)(T:Txt mg):Cal P w K mg base "all_of" 1 Zs spAllOf:=by
 refine D.cal x1s (λvs H Q E h=>?_) (λf G A outer s H vs Q E I h=>?_)
 ·obtain⟨t,g,rfl,_⟩:=h;rfl
 ·obtain⟨t,g,rfl,hl,k⟩:=h;refine⟨_,(q0e (q0m (pe_j (z5w (q2g (ne_k K rfl I) (pv 0) q0i (nomark _)) (q8t (q0r (all_k K rfl rfl) (by rfl) T.b_all (by trivial) (q0a (q4l ["sign"] [("signs",1)] rfl (@q2i _ _ _ _ K rfl (pv 0)) (λ_ _ _ _ _=>(q0k (i:=0) (show(["sign", "signs"]:List Str).Nodup by trivial) rfl (by trivial))) (λ_ _ _ _ _=>q9v) (λ_ _ _ _ _=>(q2g (in_k K rfl) (pv 0) (pv 1) (by with_unfolding_all rfl)))) q0d))))))),?_⟩;refine⟨λv j=>v=.bl (allOf t (tl g))/\Same H j,?_,?_⟩
  ·rintro v j ⟨rfl,sm⟩;exact k j sm
  refine⟨_,rfl,.inl ⟨rfl,_,rfl,?_⟩⟩;rw[x1r];refine iteB (λh=>?_) (λh=>?_)
  ·have C:¬t=[]:=λz=>by rw[decide_eq_true z] at h;cases h
   refine⟨_,rfl,.inr (.inr ⟨mk t,rfl,λD F=>?_⟩)⟩;refine z9v (λi u j=>u=(t.take i).map (λc=>V.bl (decide (c∈tl g)))/\Same H j/\j D=some (.lst u)/\u.length<=i/\i<=t.length) ⟨rfl,(Same.refl H).new F,q0c,Aj _,Ba _⟩ (λi u j h=>h.2.2.1) ?_ ?_
   ·rintro i u j c J ⟨rfl,sm,o,L,_⟩;have B:t[i]?=some c:=by have:=get J;rw[q0x] at this;exact this
    have M:i<t.length:=(Ap.mp B).1;refine⟨_,rfl,_,rfl,.inl ⟨_,_,rfl,rfl,o,small' (by lia),?_,sm.put F,q0c,?_,M⟩⟩
    ·rw[q1b B,Bb,q3t];rfl
    ·rw[Af,Bi];lia
   ·rintro u j ⟨rfl,sm,o,_,_⟩;have O:t.take (mk t).length=t:=by rw[q0o];exact Dl (Aj _)
    rw[O] at o;refine⟨D,t.map λc=>decide (c∈tl g),rfl,SqL.of (by rw[Ct];exact o),?_,sm⟩;unfold allOf;rw[decide_eq_true C,Bool.true_and,List.all_map];rfl
  ·have R:t=[]:=Gq λz=>by rw[decide_eq_false z] at h;cases h
   refine⟨?_,Same.refl H⟩;subst R;rfl
noncomputable def spGapTakes:Sp:=λvs H Q _=>∃c t,vs=[.str (mk [c]),.str (mk t)]/\t.length<=1000/\∀H',Same H H'->Q (.bl (gapTakes c t)) H'
structure CallsA (P) (w) (K) (mg) (base):Prop where
 all_of:Cal P w K mg base "all_of" 1 Zs spAllOf
def lit1(c d)(s)(h:Ab s=mk [d]):decide (V.str (mk [c])=V.str (Ab s))=decide (c=d):=by
 rw[h,dec_str];exact decide_eq_decide.mpr ⟨λz=>by injection z,λz=>by rw[z]⟩
def x9u(t):decide (V.int (((mk t).length:Nat):Int)=V.int 1)=decide (t.length=1):=by
 rw[q0o];exact decide_eq_decide.mpr ⟨λz=>by injection z with z;lia,λz=>by rw[z];rfl⟩
noncomputable abbrev q3z:Stmt:=top 50
def z3n:FnScope Zq Zq (defScope q3z):=by trivial
def z3o(D:Df K mg "gap_takes" q3z Zq)(T:Txt mg)(C:CallsA P w K mg base):Cal P w K mg base "gap_takes" 2 Zq spGapTakes:=by
 refine D.cal z3n (λvs H Q E h=>?_) (λf I A outer s H vs Q E o h=>?_)
 ·obtain⟨c,t,rfl,_⟩:=h;rfl
 ·obtain⟨c,t,rfl,hl,k⟩:=h;obtain⟨_,g⟩:=T.FIGURES;obtain⟨_,j⟩:=T.LETTERS;refine⟨_,(q0b (q0t (q0h (eq_k K rfl o) (pv 0) q0i (nomark _)) (q0e (q0m (q2g (eq_k K rfl o) (q0r (q2u K rfl) (by rfl) T.b_len By (q0a (pv 1) q0d)) q0f (nomark _)))) q0j) (q0b (q0t (q0h (eq_k K rfl o) (pv 0) q0i (nomark _)) (q0e (q0m (pe_c C.all_of o (q0a (pv 1) (q0a (q0z (v:=.str (Ab "0123456789")) (by rfl) g ⟨_,rfl⟩) q0d))))) q0j) (q0b (q0t (q0h (eq_k K rfl o) (pv 0) q0i (nomark _)) (q0e (q0m (pe_c C.all_of o (q0a (pv 1) (q0a (q0z (v:=.str (Ab "abcdefghijklmnopqrstuvwxyzABCDEFGHIJKLMNOPQRSTUVWXYZ")) (by rfl) j ⟨_,rfl⟩) q0d))))) q0j) (q0e (q0m q6g))))),?_⟩;have F:=q0o t;refine⟨_,rfl,.inl ⟨rfl,_,rfl,?_⟩⟩;rw[lit1 c 63 "?" (by trivial)];refine ite2 (λh=>?_) (λh=>?_)
  ·have h':c=63:=of_decide_eq_true h;refine⟨_,rfl,_,_,rfl,⟨small (by lia),rfl⟩,.inl ⟨rfl,?_⟩⟩;rw[x9u];have:=k H (Same.refl H);unfold gapTakes at this;rw[if_pos h'] at this;exact this
  have u:¬c=63:=λz=>h (decide_eq_true z);refine⟨_,rfl,.inl ⟨rfl,_,rfl,?_⟩⟩;rw[lit1 c 35 "#" (by trivial)];refine ite2 (λh=>?_) (λh=>?_)
  ·have h':c=35:=of_decide_eq_true h;refine⟨_,rfl,t,_,rfl,hl,λB sm=>?_⟩;have:=k B sm;unfold gapTakes at this;rw[if_neg u,if_pos h'] at this;exact this
  have G:¬c=35:=λz=>h (decide_eq_true z);refine⟨_,rfl,.inl ⟨rfl,_,rfl,?_⟩⟩;rw[lit1 c 64 "\x40" (by trivial)];refine ite2 (λh=>?_) (λh=>?_)
  ·have h':c=64:=of_decide_eq_true h;refine⟨_,rfl,t,_,rfl,hl,λB sm=>?_⟩;have:=k B sm;unfold gapTakes at this;rw[if_neg u,if_neg G,if_pos h'] at this;exact this
  have J:¬c=64:=λz=>h (decide_eq_true z);have:=k H (Same.refl H);unfold gapTakes at this;rw[if_neg u,if_neg G,if_neg J] at this;exact this
structure CallsB (P) (w) (K) (mg) (base):Prop where
 gap_takes:Cal P w K mg base "gap_takes" 2 Zq spGapTakes
noncomputable def spTakes:Sp:=λvs H Q _=>∃(a:Addr) (p:Pt) (t:List Nat),vs=[.ref a,.str (mk t)]/\H a=some (.tup p.vs)/\p.ok/\t.length<=1000/\∀H',Same H H'->Q (.bl (p.takes t)) H'
noncomputable abbrev z0s:Stmt:=top 51
def sc_takes:FnScope ["part", "text", "sort", "what"] Ym (defScope z0s):=by trivial
def x5c(D:Df K mg "takes" z0s Ym)(T:Txt mg)(C:CallsB P w K mg base):Cal P w K mg base "takes" 3 Ym spTakes:=by
 refine D.cal sc_takes (λvs H Q E h=>?_) (λf j A outer s H vs Q E g h=>?_)
 ·obtain⟨a,p,t,rfl,_⟩:=h;rfl
 ·obtain⟨a,p,t,rfl,ha,hok,hl,k⟩:=h;refine⟨_,(q0b (q6y (pv 0) (@q2m _ _ _ _ _ (2) K rfl rfl (q0p (q0k (i:=2) sc_takes.nd rfl (by trivial)) (q0p (q0k (i:=3) sc_takes.nd rfl (by trivial)) q1s)) (by rfl) (by rfl))) (q0b (q0t (q0h (eq_k K rfl g) (pv 2) q0i (nomark _)) (q0e (q0m (q2g (eq_k K rfl g) (pv 1) (pv 3) (nomark _)))) q0j) (q0e (q0m (pe_c C.gap_takes g (q0a (pv 3) (q0a (pv 1) q0d))))))),?_⟩;refine⟨_,rfl,a,_,rfl,SqT.of ha,rfl,_,_,rfl,_,_,rfl,rfl,?_⟩;cases p with
  |tx l =>
   refine⟨_,rfl,.inl ⟨rfl,_,rfl,?_⟩⟩;refine⟨_,rfl,_,rfl,.inl ⟨rfl,?_⟩⟩;have:=k H (Same.refl H);rw[show(Pt.tx l).takes t=decide (V.str (mk t)=V.str (mk l)) from(dec_str t l).symm] at this;exact this
  |gp c =>
   refine⟨_,rfl,.inl ⟨rfl,_,rfl,?_⟩⟩;exact⟨_,rfl,_,rfl,c,t,rfl,hl,λo sm=>k o sm⟩
structure CallsC (P) (w) (K) (mg) (base):Prop where
 takes:Cal P w K mg base "takes" 3 Ym spTakes
noncomputable def spFurthest:Sp:=λvs H Q _=>∃a p n d g,vs=[.ref a,.str (mk n),.ref d]/\H a=some (.tup p.vs)/\p.ok/\n.length<=60/\DF H d g/\∀e H',H e=none->Same H H'->DF H' e (far p n λx=>(g x).isSome)->Q (.ref e) H'
noncomputable abbrev q2j:Stmt:=top 52
def sc_furthest_ends:FnScope ["part", "name", "later", "ends", "begin", "end"] Zl (defScope q2j):=by trivial
def q6j(D:Df K mg "furthest_ends" q2j Zl)(T:Txt mg)(C:CallsC P w K mg base):Cal P w K mg base "furthest_ends" 4 Zl spFurthest:=by
 refine D.cal sc_furthest_ends (λvs H Q E h=>?_) (λf a2 A outer s H vs Q E X h=>?_)
 ·obtain⟨a,p,n,d,g,rfl,_⟩:=h;rfl
 ·obtain⟨a,p,n,d,g,rfl,ha,hok,hn,hd,k⟩:=h;refine⟨_,(q0b (q0l (i:=3) sc_furthest_ends.nd rfl (by trivial) z6l) (q0b (q1g Bj rfl (q1w rfl T.b_range (q0a (q0u q0n (q0r (q2u K rfl) (by rfl) T.b_len By (q0a (pv 1) q0d)) q0f) q0d)) (q0k (i:=4) sc_furthest_ends.nd rfl (by trivial)) (q0e (q1g Bj rfl (z9a rfl T.b_range (q0a (pv 4) (q0a (q0u q0n (q0r (q2u K rfl) (by rfl) T.b_len By (q0a (pv 1) q0d)) q0f) q0d))) (q0k (i:=5) sc_furthest_ends.nd rfl (by trivial)) (q0e (q0t (pt_j (@PW.pt _ _ _ (q2v (q3r (x6w (q6i X) (pv 5) (pv 2))) (q2c (@z2k _ _ _ K rfl (pe_c C.takes X (q0a (pv 0) (q0a (q1d (sl_k K rfl) (pv 1) (q1a (pv 4)) (q1a (pv 5))) q0d))) (λ_=>rfl)))))) (q0e (q7l (q6i X) (pv 3) (pv 4) (pv 5) rfl)) q0j))))) (q0e (q0m (pv 3))))),?_⟩;have a1:=q0o n;intro e Y;generalize hL:(λx=>(g x).isSome)=L at k;refine⟨_,rfl,_,_,rfl,⟨small (by lia),rfl⟩,.inl ⟨_,_,rfl,rfl,?_⟩⟩;refine⟨_,rfl,by lia,by lia,q1y (λi J U=>∃Z I o,J=[some (.ref a),some (.str (mk n)),some (.ref d),some (.ref e),Z,I]/\Same H U/\U e=some (.dK o)/\o.length<=i*61/\∀b:Nat,valV o (Sum.inl (b:Int))=(if b<i then far p n L b else none).map λe=>V.int (e:Nat))
   ⟨none,none,[],rfl,(Same.refl H).new Y,q0c,Ba _,λb=>by rw[if_neg (Nat.not_lt_zero b)];rfl⟩ ?_ ?_⟩
  ·rintro i J U hi ⟨Z,I,o,rfl,sm,M,O,G⟩;have hi':i<=n.length:=by lia
   rw[show(0:Int)+(i:Int)=((i:Nat):Int) from by lia];refine⟨_,rfl,_,rfl,_,_,rfl,⟨small (by lia),rfl⟩,.inl ⟨_,_,rfl,rfl,?_⟩⟩;have ek:((((mk n).length:Nat):Int)+1-((i:Nat):Int)).toNat=n.length+1-i:=by lia
   refine⟨_,_,rfl,⟨by lia,by lia,by lia,by lia⟩,?_⟩;rw[ek];refine q1y (λj R S=>∃I o,R=[some (.ref a),some (.str (mk n)),some (.ref d),some (.ref e),some (.int (i:Nat)),I]/\Same H S/\S e=some (.dK o)/\o.length<=i*61+j/\∀b:Nat,valV o (Sum.inl (b:Int))=(if b<i then far p n L b else if b=i then farTo p n L i j else none).map λe=>V.int (e:Nat))
    ⟨I,o,rfl,sm,M,O,λb=>?_⟩ ?_ ?_
   ·rw[G b];by_cases z:b<i
    ·grind
    ·rw[if_neg z,if_neg z];split<;>rfl
   ·rintro j R S hj ⟨I,o,rfl,B,u,W,v⟩;rw[show((i:Nat):Int)+(j:Int)=((i+j:Nat):Int) from by lia];have a0:=q9a p n L i j;refine⟨λbb H3=>bb=(L (i+j)&&p.takes (cut n i (i+j)))/\Same S H3,?_,?_⟩
    ·rintro bb H3 ⟨rfl,F⟩;refine ite2 (λh=>?_) (λh=>?_)
     ·refine⟨_,rfl,_,rfl,_,rfl,e,_,rfl,DPut.k (k:=Sum.inl ((i:Nat):Int)) (F _ _ u) (small' (by lia)),?_⟩;refine⟨_,_,rfl,(B.trans F).put Y,q0c,Ay (q2d _ _ _) (by lia),λb=>?_⟩;have:=x6z (b:=i) (e:=i+j) v b;by_cases z:b=i
      ·grind
      ·grind
     ·refine⟨_,_,rfl,B.trans F,F _ _ u,by lia,λb=>?_⟩;rw[v b,a0,if_neg h]
    ·refine⟨_,rfl,_,rfl,d,_,rfl,(hd.same B).get (i+j),_,rfl,?_⟩;have eL:((g (i+j)).map λe=>V.int (e:Nat)).isSome=L (i+j):=by grind
     rw[eL];refine iteB (λh=>?_) (λh=>?_)
     ·refine⟨_,rfl,_,rfl,_,rfl,_,rfl,_,rfl,_,rfl,.inl ⟨_,rfl,small (by lia),?_⟩⟩;rw[q7v (by lia) (by lia)];refine⟨a,p,cut n i (i+j),rfl,B _ _ ha,hok,?_,λH3 F=>⟨_,rfl,?_,F⟩⟩
      ·unfold cut;rw[Cg,Ca];lia
      ·grind
     ·refine⟨?_,Same.refl S⟩;rw[h,Ow]
   ·rintro R S ⟨I,o,rfl,B,u,W,v⟩;refine⟨_,_,o,rfl,B,u,by lia,λb=>?_⟩;rw[v b];by_cases z:b<i
    ·grind
    ·rw[if_neg z];by_cases z2:b=i
     ·subst z2;rw[if_pos rfl,if_pos (by lia)];unfold far;rw[if_pos hi']
     ·grind
  ·rintro J U ⟨Z,I,o,rfl,sm,M,O,G⟩;have et:((((mk n).length:Nat):Int)+1).toNat=n.length+1:=by lia
   rw[et] at O G;refine⟨_,rfl,k e U Y sm ⟨o,M,?_,λb=>?_⟩⟩
   ·grind
   ·rw[G b];by_cases z:b<n.length+1
    ·rw[if_pos z]
    ·rw[if_neg z];unfold far;rw[if_neg (by lia)]
structure CallsD (P) (w) (K) (mg) (base):Prop where
 furthest_ends:Cal P w K mg base "furthest_ends" 4 Zl spFurthest
noncomputable def spEnds:Sp:=λvs H Q _=>∃L n ps,vs=[.ref L,.str (mk n)]/\HL H L ps/\(∀p∈ps,p.ok)/\ps.length<=3000/\n.length<=60/\∀E H' ds,H E=none->Same H H'->H' E=some (.lst (ds.map V.ref))->DS H' n ds ps->Q (.ref E) H'
def x9v{f:Type}{l:List f}{x}(h:l.reverse[i]?=some x):i<l.length/\l[l.length-1-i]?=some x:=by
 have g:i<l.length:=by
  have:=(Ap.mp h).1;simpa using this
 exact⟨g,by rwa [List.getElem?_reverse g] at h⟩
noncomputable abbrev q2k:Stmt:=top 53
def sc_ends_of_parts:FnScope ["parts", "name", "later", "ends", "part"] Y7 (defScope q2k):=by trivial
def q6k(D:Df K mg "ends_of_parts" q2k Y7)(T:Txt mg)(C:CallsD P w K mg base):Cal P w K mg base "ends_of_parts" 5 Y7 spEnds:=by
 refine D.cal sc_ends_of_parts (λvs H Q E h=>?_) (λf b0 A outer s H vs Q E hr h=>?_)
 ·obtain⟨L,n,j,rfl,_⟩:=h;rfl
 ·obtain⟨L,n,j,rfl,hL,hok,b1,hn,k⟩:=h;refine⟨_,(q0b (q0l (i:=2) sc_ends_of_parts.nd rfl (by trivial) (x8x (x4g (q0r (q2u K rfl) (by rfl) T.b_len By (q0a (pv 1) q0d)) (q0r (q2u K rfl) (by rfl) T.b_len By (q0a (pv 1) q0d)) x8w) rfl rfl (by simp) (by decide))) (q0b (q0l (i:=3) sc_ends_of_parts.nd rfl (by trivial) (q1p q0d)) (q0b (q1g Bj rfl (@rev_k _ _ _ _ _ _ K rfl rfl T.b_reversed (q0a (pv 0) q0d) (by rfl)) (q0k (i:=4) sc_ends_of_parts.nd rfl (by trivial)) (q0b (q0l (i:=2) sc_ends_of_parts.nd rfl (by trivial) (pe_c C.furthest_ends hr (q0a (pv 4) (q0a (pv 1) (q0a (pv 2) q0d))))) (q0e (q0y (@bm_k _ _ _ _ _ _ _ _ _ _ _ _ K rfl Bz Cu Cv q1i (pv 3) (q0a (pv 2) q0d) (by rfl) (by rfl) (by rfl) (by rfl) (by rfl)))))) (q0b (q0y (@q4p _ _ _ _ _ _ _ _ _ K rfl Bz PySem.F.slot_list_reverse PySem.F.type_list_reverse z7v (pv 3) (by rfl) (by rfl))) (q0e (q0m (pv 3))))))),?_⟩;have U:=q0o n;obtain⟨Ts,h1,h2⟩:=hL.ex;have W:=h2.len;intro I X;refine⟨_,rfl,_,_,rfl,⟨small (by lia),rfl⟩,_,rfl,_,_,rfl,⟨small (by lia),rfl⟩,q0c,[(Sum.inl ((n.length:Nat):Int),.int ((n.length:Nat):Int))],?_,Ua rfl,?_⟩
  ·rw[U];rfl
  have M:Same H (upd (upd H I (.dK [])) I (.dK (mergeK [] [(Sum.inl ((n.length:Nat):Int),.int ((n.length:Nat):Int))]))):=((Same.refl H).new X).put X;have Y:DF (upd (upd H I (.dK [])) I (.dK (mergeK [] [(Sum.inl ((n.length:Nat):Int),.int ((n.length:Nat):Int))]))) I (λb=>if b=n.length then some n.length else none):=by
   refine⟨_,q0c,Ua rfl,λb=>?_⟩;have:=x6z (kvs:=[]) (b:=n.length) (e:=n.length) (f:=λ_=>none) (λc=>rfl) b;exact this
  generalize b2:upd (upd H I (.dK [])) I _=H1 at M Y;refine⟨by show 0<=sizeLine;decide,λE hE=>?_⟩;have B:H E=none:=M.free hE;have Z:Same H (upd H1 E (.lst [])):=M.new hE;have b3:E≠L:=λz=>by subst z;rw[B] at h1;cases h1
  refine⟨_,rfl,L,_,rfl,Z _ _ h1,?_⟩;refine x8y (xs:=Ts.map V.ref) (λi G O=>∃d g x4 ds,G=[some (.ref L),some (.str (mk n)),some (.ref d),some (.ref E),x4]/\Same H O/\DF O d g/\(∀b,(g b).isSome=fits n (j.drop (j.length-i)) b)/\O E=some (.lst (ds.map V.ref))/\DS O n ds.reverse (j.drop (j.length-i))/\i<=j.length)
   ⟨I,_,none,[],rfl,Z,Y.new hE,λb=>?_,q0c,?_,Ba _⟩ (λi G O ⟨_,_,_,_,_,sm,_⟩=>SqL.of (sm _ _ h1)) ?_ ?_
  ·rw[show j.length-0=j.length from rfl,Ip];show(if b=n.length then some n.length else none).isSome=decide (b=n.length);by_cases z:b=n.length
   ·rw[if_pos z,decide_eq_true z];rfl
   ·rw[if_neg z,decide_eq_false z];rfl
  ·rw[show j.length-0=j.length from rfl,Ip];exact .nil
  ·rintro i x G O hx ⟨d,g,x4,ds,rfl,sm,hd,hg,o,u,a6⟩;obtain⟨hi,a0⟩:=x9v hx;rw[Ae] at hi a0;obtain⟨T1,p,rfl,hp,a7⟩:=h2.get a0;rw[W] at hp hi;have a8:p∈j:=Ar hp;have a4:j.drop (j.length-(i+1))=p::j.drop (j.length-i):=by
    have:=q3e hp;rw[show j.length-1-i=j.length-(i+1) from by lia,show j.length-(i+1)+1=j.length-i from by lia] at this;exact this
   refine⟨_,rfl,_,rfl,_,rfl,T1,p,n,d,g,rfl,sm _ _ a7,hok p a8,hn,hd,λe H2 he R a5=>?_⟩;have eg:(λx=>(g x).isSome)=fits n (j.drop (j.length-i)):=funext hg;rw[eg] at a5;have a9:=u.len;rw[Ou,Ca] at a9;have S:H2 E=some (.lst (ds.map V.ref)):=R _ _ o;refine⟨_,rfl,.inl ⟨rfl,_,SqL.of S⟩,_,rfl,E,_,_,rfl,rfl,S,by rw[Ae];exact small' (by lia),?_⟩;have eE:E≠e:=λz=>by subst z;rw[he] at o;cases o
   have J:DF (upd H2 E (.lst (ds.map V.ref++[.ref e]))) e (far p n (fits n (j.drop (j.length-i)))):=by
    obtain⟨v,a1,a2,a3⟩:=a5.ex;exact⟨v,by rw[q0g (Cp eE)];exact a1,a2,a3⟩
   refine⟨e,_,_,ds++[e],rfl,(sm.trans R).put B,J,λb=>?_,by rw[Bb];exact q0c,?_,by lia⟩
   ·rw[a4];rfl
   ·rw[a4,List.reverse_append];refine .cons J ?_;refine(u.same R).keepL ?_;exact λb v z=>by rw[q0g (λy=>by subst y;rw[S] at z;cases z)];exact z
  ·rintro G O ⟨d,g,x4,ds,rfl,sm,hd,hg,o,u,a6⟩;rw[Ae,W,Oi,Mb] at u;refine⟨_,rfl,.inl ⟨rfl,_,SqL.of o⟩,E,_,rfl,rfl,o,?_⟩;refine⟨_,rfl,k E _ ds.reverse B (sm.put B) (by rw[<- List.map_reverse];exact q0c) (u.keepL ?_)⟩;exact λb v z=>by rw[q0g (λy=>by subst y;rw[o] at z;cases z)];exact z
structure CallsE (P) (w) (K) (mg) (base):Prop where
 parts_of:Cal P w K mg base "parts_of" 2 Zv spPartsOf
 ends_of_parts:Cal P w K mg base "ends_of_parts" 5 Y7 spEnds
noncomputable def spReading:Sp:=λvs H Q _=>∃l n,vs=[.str (mk l),.str (mk n)]/\Good l/\n.length<=60/\(fits n (parse [] l) 0=false->∀H',Same H H'->Q .non H') /\
 (fits n (parse [] l) 0=true->∀L H',H L=none->Same H H'->H' L=some (.lst (vN (rd n (parse [] l) 0)))->Q (.ref L) H')
def wgg(p:Pt):decide (V.str p.word=V.str (Ab "gap"))=p.isG:=by
 cases p with
 |tx l=>show decide (V.str (Ab "text")=V.str (Ab "gap"))=false;decide +kernel
 |gp c=>exact decide_eq_true rfl
noncomputable abbrev q5r:Stmt:=top 54
def sc_reading:FnScope ["pattern", "name", "parts", "ends", "texts", "begin", "part", "part_ends", "end"] Y0 (defScope q5r):=by trivial
def z8m(D:Df K mg "reading" q5r Y0)(T:Txt mg)(C:CallsE P w K mg base):Cal P w K mg base "reading" 6 Y0 spReading:=by
 refine D.cal sc_reading (λvs H Q E h=>?_) (λf f1 A outer s H vs Q E hr h=>?_)
 ·obtain⟨l,n,rfl,_⟩:=h;rfl
 ·obtain⟨l,n,rfl,hg,hn,kN,kS⟩:=h;refine⟨_,(q0b (q0l (i:=2) sc_reading.nd rfl (by trivial) (pe_c C.parts_of hr (q0a (pv 0) q0d))) (q0b (q0l (i:=3) sc_reading.nd rfl (by trivial) (pe_c C.ends_of_parts hr (q0a (pv 2) (q0a (pv 1) q0d)))) (q0b (q0t (q3r (z2q (q6i hr) q0f (q0w (ix_k K rfl) (pv 3) q0f (λ_ _=>rfl)))) (q0e (q0m z1v)) q0j) (q0b (q0l (i:=4) sc_reading.nd rfl (by trivial) (q1p q0d)) (q0b (q0l (i:=5) sc_reading.nd rfl (by trivial) q0f) (q0b (q1g Bj rfl (@zip_k _ _ _ _ _ _ _ _ _ K rfl rfl T.b_zip (q0a (pv 2) (q0a (pv 3) q0d)) (by rfl) (by rfl)) (@q2m _ _ _ _ _ (2) K rfl rfl (q0p (q0k (i:=6) sc_reading.nd rfl (by trivial)) (q0p (q0k (i:=7) sc_reading.nd rfl (by trivial)) q1s)) (by rfl) (by rfl)) (q0b (q0l (i:=8) sc_reading.nd rfl (by trivial) (x0g (q6i hr) (pv 7) (pv 5) (λ_ _=>rfl))) (q2n (q0t (q0h (eq_k K rfl hr) (q0w (ix_k K rfl) (pv 6) q0f (λ_ _=>rfl)) q0i (nomark _)) (q0e (q0y (@bm_k _ _ _ _ _ _ _ _ _ _ _ _ K rfl Bz Cu Cv q1i (pv 4) (q0a (q1d (sl_k K rfl) (pv 1) (q1a (pv 5)) (q1a (pv 8))) q0d) (by rfl) (by rfl) (by rfl) (by rfl) (by rfl)))) q0j) (q0e (q0l (i:=5) sc_reading.nd rfl (by trivial) (pv 8)))))) (q0e (q0m (pv 4))))))))),?_⟩;show tSeq _ _ _ _ _;refine gE λe7 b4 o a0=>?_
  have e8:=q0o n;have f2:=hg.len;refine⟨_,rfl,l,rfl,hg,λL H1 hL d3 O=>?_⟩;show b4 _ _ _;refine gY a0 λb5 a5=>?_;have hok:=q5l l [] (λ_ h=>nomatch h) hg.sg;have b6:=x6y l [] (.inr hg.ne);have b7:=q7m l [];generalize d4:parse [] l=u at O hok b6 b7 kN kS;refine⟨_,rfl,_,rfl,L,n,u,rfl,O,hok,by lia,hn,λE H2 ds hE b8 R G=>?_⟩;show b5 _ _ _;refine gY2 a5 λb9 a6=>?_;have I:=d3.trans b8;have S:=G.len;obtain⟨v,g,rfl⟩:∃v g,u=v::g:=by cases u with|nil=>exact absurd rfl b6|cons a b=>exact⟨a,b,rfl⟩
  obtain⟨d0,a7,rfl⟩:∃d0 a7,ds=d0::a7:=by cases ds with|nil=>simp at S|cons a b=>exact⟨a,b,rfl⟩
  have d5:fits n (v::g) 0=(far v n (fits n g) 0).isSome:=rfl;obtain⟨q0,d6,c0⟩:=G.get (i:=0) rfl;cases d6;refine⟨_,rfl,.inl ⟨E,_,0,.ref d0,rfl,rfl,SqL.of R,q1n (j:=0) rfl,d0,_,rfl,c0.get 0,_,rfl,?_⟩⟩;have eS:((far v n (fits n ((v::g).drop (0+1))) 0).map λe=>V.int (e:Nat)).isSome=fits n (v::g) 0:=by
   rw[d5];show(Option.map _ (far v n (fits n g) 0)).isSome=_;cases far v n (fits n g) 0<;>rfl
  rw[eS];refine iteB (λh=>?_) (λh=>?_)
  ·subst o;refine kN ?_ H2 I;cases hz:fits n (v::g) 0 with
   |false=>rfl
   |true=>rw[hz] at h;cases h
  have J:fits n (v::g) 0=true:=by
   cases hz:fits n (v::g) 0 with
   |true=>rfl
   |false=>rw[hz] at h;cases h
  replace kS:=kS J;generalize d4:v::g=u at O hok S G J kS b7;generalize f3:d0::a7=ds at S G R;refine⟨by show 0<=sizeLine;decide,λX hX=>?_⟩;show b9 _ _ _;refine gY2 a6 λc1 a8=>?_;have d7:H X=none:=I.free hX;have a9:Same H2 (upd H2 X (.lst [])):=(Same.refl H2).new hX;have c2:HL H2 L u:=O.same b8;obtain⟨Ts,h1,h2⟩:=c2.ex;have d8:=h2.len;refine .inr ⟨_,rfl,_,rfl,L,E,_,_,rfl,SqL.of (a9 _ _ h1),SqL.of (a9 _ _ R),x4a (xs:=Ts.map V.ref) (ys:=ds.map V.ref) (λi U W=>∃b B x6 x7 x8,U=[some (.str (mk l)),some (.str (mk n)),some (.ref L),some (.ref E),some (.ref X),some (.int (b:Nat)),x6,x7,x8]/\Same H2 W/\W X=some (.lst (vN B))/\fits n (u.drop i) b=true/\B++rd n (u.drop i) b=rd n u 0/\B.length<=i/\i<=u.length) ⟨0,[],none,none,none,rfl,a9,q0c,J,rfl,Aj _,Ba _⟩ (λi U W ⟨_,_,_,_,_,_,sm,_⟩=>⟨SqL.of (sm _ _ h1),SqL.of (sm _ _ R)⟩) ?_ ?_⟩
  ·rintro i x y T' U W hx hy ⟨b,B,x6,x7,x8,rfl,sm,b0,b1,F,d9,e0⟩ e1;obtain⟨T1,p,rfl,hp,e2⟩:=h2.get hx;obtain⟨d,hd,rfl⟩:∃d,ds[i]?=some d/\y=V.ref d:=by
    rw[Be] at hy;cases hz:ds[i]? with
    |none=>rw[hz] at hy;cases hy
    |some d=>rw[hz] at hy;cases hy;exact⟨d,rfl,rfl⟩
   obtain⟨p',c3,e3⟩:=G.get hd;rw[hp] at c3;cases c3;have e4:=q3e hp;rw[e4] at b1 F;have hf:(far p n (fits n (u.drop (i+1))) b).isSome=true:=b1;obtain⟨e,he⟩:∃e,far p n (fits n (u.drop (i+1))) b=some e:=by
    cases hz:far p n (fits n (u.drop (i+1))) b with
    |none=>rw[hz] at hf;cases hf
    |some e=>exact⟨e,rfl⟩
   obtain⟨a1,a2,a3,a4,_⟩:=z6m he;have hi:i<u.length:=(Ap.mp hp).1;refine⟨T',_,rfl,SqT.of q0c,rfl,_,_,rfl,_,_,rfl,rfl,?_⟩;show tSeq _ _ _ _ _;refine gE λe9 c4 b2 b3=>?_
   generalize e5:upd W T' _=H3;have c5:Same W H3:=by rw[<- e5];exact(Same.refl W).new e1
   have Y:Same H2 H3:=sm.trans c5;have c6:=(e3.same Y).get b;rw[he] at c6;refine⟨_,rfl,_,rfl,d,_,rfl,c6,?_⟩;show c4 _ _ _;subst b3;have M:H3 X=some (.lst (vN B)):=c5 _ _ b0;have c7:H3 T1=some (.tup p.vs):=Y _ _ e2;refine⟨λc8 H4=>∃Z,c8=[some (.str (mk l)),some (.str (mk n)),some (.ref L),some (.ref E),some (.ref X),some (.int (b:Nat)),some (.ref T1),some (.ref d),some (.int (e:Nat))]/\Same H2 H4/\H4 X=some (.lst (vN Z))/\Z=(if p.isG then B++[cut n b e] else B),?_,?_⟩
   ·rintro c8 H4 ⟨Z,rfl,e6,c9,d1⟩;subst b2;refine⟨_,rfl,e,Z,_,_,_,rfl,e6,c9,a3,?_,?_,hi⟩
    ·subst o;rw[<- F,d1];show _=B++rd n (p::u.drop (i+1)) b;cases hG:p.isG with
     |true=>simp[rd,hG,he]
     |false=>simp[rd,hG,he]
    ·rw[d1];split
     ·rw[Af,Bi];lia
     ·lia
   ·refine⟨_,rfl,.inr (.inl ⟨T1,_,0,_,rfl,rfl,SqT.of c7,rfl,.inl ⟨rfl,_,rfl,?_⟩⟩)⟩;rw[wgg];refine ite2 (λh=>?_) (λh=>?_)
    ·refine⟨_,rfl,.inl ⟨rfl,_,SqL.of M⟩,_,rfl,_,rfl,_,rfl,_,rfl,_,rfl,.inl ⟨_,rfl,small (by lia),?_⟩⟩;rw[q7v a1 a2];refine⟨X,_,_,rfl,rfl,M,by rw[Ae];exact small' (by lia),?_⟩;exact⟨B++[cut n b e],rfl,Y.put hX,by rw[show vN (B++[cut n b e])=vN B++[V.str (mk (cut n b e))] from Bb];exact q0c,by rw[if_pos h]⟩
    ·exact⟨B,rfl,Y,M,by rw[if_neg h]⟩
  ·rintro U W ⟨b,B,x6,x7,x8,rfl,sm,b0,b1,F,d9,e0⟩;show c1 _ _ _;subst a8;have d2:min (Ts.map V.ref).length (ds.map V.ref).length=u.length:=by rw[Ae,Ae,d8,S,Vp]
   rw[d2,Ip] at F;rw[show rd n [] b=[] from rfl,Cd] at F;subst o;refine⟨_,rfl,kS X W d7 (I.trans sm) ?_⟩;rw[<- F];exact b0
end
end K
namespace K
open PySem L2 TX
section
variable{P:Aq}{w:World}{K:Ai}{mg:Str->Option Value}{base:Heap}
noncomputable def spAsked:Sp:=λvs H Q _=>∃(l:List Nat) (at_ c:Nat) (g:Str),vs=[.str (mk l),.int (at_),.str g]/\l[at_]?=some c/\c∈tl g/\l.length<=1000/\Q (.str (mk [c])) H
noncomputable abbrev z0t:Stmt:=top 31
def x5d:FnScope Z7 Z7 (defScope z0t):=by trivial
def x5e(D:Df K mg "asked" z0t Z7)(T:Txt mg):Cal P w K mg base "asked" 1 Z7 spAsked:=by
 refine D.cal x5d (λvs H Q E h=>?_) (λf B A outer s H vs Q E G h=>?_)
 ·obtain⟨l,at_,c,g,rfl,_⟩:=h;rfl
 ·obtain⟨l,at_,c,g,rfl,o,C,hl,k⟩:=h;refine⟨_,(q0b (q0t (pt_j (@PW.pt _ _ _ (z4l (q0h op_ge (pv 1) (q0r (q2u K rfl) (by rfl) T.b_len By (q0a (pv 0) q0d)) (nomark _)) (q6x (q0h (z9u K rfl) (q0w (ix_k K rfl) (pv 0) (pv 1) (λ_ _=>rfl)) (pv 2) (by with_unfolding_all rfl)))))) (q0e q1l) q0j) (q0e (q0m (q0w (ix_k K rfl) (pv 0) (pv 1) (λ_ _=>rfl))))),?_⟩;have u:=q0o l;have F:=(Ap.mp o).1;have j:atI (tl (mk l)) ((at_:Nat):Int)=some c:=q1n (by rw[q0x];exact o);refine⟨λb v=>b=false/\v=H,?_,?_⟩;rotate_left
  ·refine⟨_,rfl,_,rfl,_,_,rfl,⟨small (by lia),rfl⟩,_,_,rfl,rfl,_,rfl,?_⟩;refine iteB (λh=>absurd (of_decide_eq_true h) (by lia)) (λh=>?_);refine⟨_,rfl,_,rfl,.inr (.inr ⟨mk l,_,c,rfl,rfl,small (by lia),j,_,rfl,.inl ⟨_,_,rfl,rfl,_,rfl,?_,rfl⟩⟩)⟩;rw[q3t,decide_eq_true C];rfl
  rintro b v ⟨rfl,rfl⟩;exact iteF ⟨_,rfl,_,rfl,.inr (.inr ⟨mk l,_,c,rfl,rfl,small (by lia),j,k⟩)⟩
noncomputable def spEndOf:Sp:=λvs H Q _=>∃(l:List Nat) (at_ most k:Nat) (g:Str),vs=[.str (mk l),.int (at_),.str g,.int (most)]/\l.length<=1000/\at_+k<=l.length/\k<=most/\(∀j,j<k->∃c,l[at_+j]?=some c/\c∈tl g)/\(k=most\/at_+k=l.length\/∃c,l[at_+k]?=some c/\¬c∈tl g)/\Q (.int ((at_+k:Nat):Int)) H
noncomputable def enMeas(n:Nat)(σ:St):Nat:=match σ[4]? with|some (some (V.int e))=>n-e.toNat|_=>0
noncomputable abbrev q7x:Stmt:=top 32
def sc_end_of:FnScope ["template", "at", "signs", "most", "end"] Za (defScope q7x):=by trivial
def x1u(D:Df K mg "end_of" q7x Za)(T:Txt mg):Cal P w K mg base "end_of" 1 Za spEndOf:=by
 refine D.cal sc_end_of (λvs H Q E h=>?_) (λf I A outer s H vs Q E X h=>?_)
 ·obtain⟨l,at_,most,n,g,rfl,_⟩:=h;rfl
 ·obtain⟨l,at_,most,n,g,rfl,hl,L,Y,M,O,k⟩:=h;refine⟨_,(q0b (q0l (i:=4) sc_end_of.nd rfl (by trivial) (pv 1)) (q0b (q9p Bj (pt_j (@PW.pt _ _ _ (q2v (q0h z9g (pv 4) (q0r (q6z rfl) (by rfl) T.b_min (by trivial) (q0a (q0r (q2u K rfl) (by rfl) T.b_len By (q0a (pv 0) q0d)) (q0a (q0u q0n (pv 1) (pv 3)) q0d))) (nomark _)) (q2c (q0h (in_k K rfl) (q0w (ix_k K rfl) (pv 0) (pv 4) (λ_ _=>rfl)) (pv 2) (by with_unfolding_all rfl)))))) (q0e (z5y (i:=4) sc_end_of.nd rfl (by trivial) q0f z9d))) (q0e (q0m (pv 4))))),?_⟩;have B:=q0o l;refine⟨_,rfl,?_⟩;refine q9q (λo u=>∃j:Nat,o=[some (.str (mk l)),some (.int (at_:Int)),some (.str g),some (.int (most:Int)),some (.int ((at_+j:Nat):Int))]/\u=H/\j<=n) (λo _=>enMeas (at_+n+1) o) ⟨0,rfl,rfl,Ba _⟩ ?_ ?_
  ·rintro o u ⟨j,rfl,rfl,Z⟩;refine⟨λb C=>C=u/\b=decide (j<n),?_,?_⟩;rotate_left
   ·refine⟨_,rfl,_,rfl,_,_,rfl,⟨small (by lia),rfl⟩,_,rfl,_,rfl,.inl ⟨_,_,rfl,rfl,_,_,rfl,?_⟩⟩;refine⟨_,_,rfl,rfl,_,rfl,?_⟩;refine iteB (λh=>?_) (λh=>?_)
    ·have h1:=of_decide_eq_true h;have v:at_+j<l.length/\j<most:=by grind
     have hd:=Bv v.1;refine⟨_,rfl,_,rfl,.inr (.inr ⟨mk l,_,l[at_+j],rfl,rfl,small (by lia),q1n (show(tl (mk l))[at_+j]?=_ by rw[q0x];exact hd),_,rfl,.inl ⟨_,_,rfl,rfl,_,rfl,rfl,?_⟩⟩)⟩;rw[q3t];by_cases F:j<n
     ·grind
     ·grind
    ·grind
   rintro b C ⟨rfl,rfl⟩;refine ite2 (λh=>?_) (λh=>?_)
   ·have F:=of_decide_eq_true h;refine⟨_,rfl,_,_,rfl,rfl,⟨j+1,rfl,rfl,by lia⟩,?_⟩;show at_+n+1-(((at_+j:Nat):Int)+1).toNat<at_+n+1-((at_+j:Nat):Int).toNat;lia
   ·have F:¬j<n:=λz=>h (decide_eq_true z);have R:j=n:=by lia
    subst R;exact⟨_,rfl,k⟩
  ·rintro σ H Q Q' S ⟨J,U,W⟩;exact⟨J,λb G z=>S b G (U b G z),W⟩
inductive Pc where
 |tx (l:List Nat)
 |gap (k:Nat)
 |great (k:Nat)
 |small (k:Nat)
 |nou (k w:Nat)
 |more (k m:Nat)
 |cnt (v:Nat)
 |into
noncomputable def Pc.vs:Pc->List V
 |.tx l=>[.str (Ab "text"),.str (mk l)]
 |.gap k=>[.str (Ab "gap"),.int (k)]
 |.great k=>[.str (Ab "great"),.int (k)]
 |.small k=>[.str (Ab "small"),.int (k)]
 |.nou k w=>[.str (Ab "noughts"),.int (k),.int (w)]
 |.more k m=>[.str (Ab "more"),.int (k),.int (m)]
 |.cnt v=>[.str (Ab "count"),.int (v)]
 |.into=>[.str (Ab "into")]
noncomputable def cntW(v:Nat):List Nat:=if v=1 then[125] else[48+v,125]
noncomputable def Pc.wr:Pc->List Nat
 |.tx l=>l
 |.gap k=>123::(48+k)::[125]
 |.great k=>123::(48+k)::[117,125]
 |.small k=>123::(48+k)::[108,125]
 |.nou k w=>123::(48+k)::122::[48+w,125]
 |.more k m=>123::(48+k)::43::(dg m++[125])
 |.cnt v=>123::110::cntW v
 |.into=>[47]
noncomputable def Pc.ok:Pc->Prop
 |.tx l=>l≠[]/\∀c∈l,c∈NS
 |.gap k=>1<=k/\k<=9
 |.great k=>1<=k/\k<=9
 |.small k=>1<=k/\k<=9
 |.nou k w=>(1<=k/\k<=9)/\1<=w/\w<=9
 |.more k m=>(1<=k/\k<=9)/\m<10^9
 |.cnt v=>1<=v/\v<=9
 |.into=>True
noncomputable def RT(H:Hp)(Q:VK)(p:Pc)(e:Nat):Prop:=∀T1 T2 H',H T1=none->H T2=none->Same H H'->H' T1=some (.tup p.vs)->H' T2=some (.tup [.ref T1,.int ((e):Int)])->Q (.ref T2) H'
def RT.go(h:RT H Q p e)(o:i=((e):Int))(j:H T1=none)(g:upd H T1 (.tup p.vs) T2=none):Q (.ref T2) (upd (upd H T1 (.tup p.vs)) T2 (.tup [.ref T1,.int i])):=by
 subst o;have f:=q0q q0c g;refine h T1 T2 _ j (by rw[q0g (Cp f)] at g;exact g) (((Same.refl H).new j).new g) ?_ q0c;rw[q0g f];exact q0c
def q1j{l:List Nat}(h:l.drop i=c::r):l[i]?=some c/\l.drop (i+1)=r:=by
 have f:=congrArg (λx=>x[0]?) h;refine⟨by simpa[Lr] using f,?_⟩;rw[<- Tr,h];rfl
def x1v(h:v<10):Lz (mk [48+v])=some (v:Int):=by rw[<- q2w h];exact x0j (by lia)
structure CallsT (P) (w) (K) (mg) (base):Prop where
 asked:Cal P w K mg base "asked" 1 Z7 spAsked
 end_of:Cal P w K mg base "end_of" 1 Za spEndOf
noncomputable def spCount:Sp:=λvs H Q _=>∃(l r:List Nat) (a v:Nat),vs=[.str (mk l),.int (a)]/\l.length<=1000/\1<=v/\v<=9/\l.drop a=cntW v++r/\RT H Q (.cnt v) (a+(cntW v).length)
def in_two:∀v,v<10->2<=v->48+v∈tl (Ab "}" ++ Ab "23456789"):=by trivial
def x9w:∀v,v<10->1<=v->48+v∈tl (Ab "123456789"):=by trivial
def in_fig:∀v,v<10->48+v∈tl (Ab "0123456789"):=by trivial
noncomputable abbrev q3j:Stmt:=top 33
def sc_read_count:FnScope ["template", "at", "sign"] Z1 (defScope q3j):=by trivial
def z0u(D:Df K mg "read_count" q3j Z1)(T:Txt mg)(C:CallsT P w K mg base):Cal P w K mg base "read_count" 2 Z1 spCount:=by
 refine D.cal sc_read_count (λvs H Q E h=>?_) (λf J A outer s H vs Q E u h=>?_)
 ·obtain⟨l,r,a,v,rfl,_⟩:=h;rfl
 ·obtain⟨l,r,a,v,rfl,hl,L,M,hd,k⟩:=h;obtain⟨_,g⟩:=T.FROM_TWO;refine⟨_,(q0b (q0l (i:=2) sc_read_count.nd rfl (by trivial) (pe_c C.asked u (q0a (pv 0) (q0a (pv 1) (q0a (q0u q0n q0i (q0z (v:=.str (Ab "23456789")) (by rfl) g ⟨_,rfl⟩)) q0d))))) (q0b (q0t (q0h (eq_k K rfl u) (pv 2) q0i (nomark _)) (q0e (q0m (q0v (q0a (q0v (q0a q0i (q0a q0f q0d))) (q0a (q0u q0n (pv 1) q0f) q0d))))) q0j) (q0b (q0y (pe_c C.asked u (q0a (pv 0) (q0a (q0u q0n (pv 1) q0f) (q0a q0i q0d))))) (q0e (q0m (q0v (q0a (q0v (q0a q0i (q0a (q1u q3w (by rfl) T.b_int (by trivial) (q0a (pv 2) q0d)) q0d))) (q0a (q0u q0n (pv 1) q0f) q0d)))))))),?_⟩;have U:(Ab "}").length+(Ab "23456789").length<=1000:=by trivial
  by_cases I:v=1
  ·subst I;have hd':=hd;obtain⟨B,_⟩:=q1j hd';refine⟨_,rfl,_,rfl,.inr (.inl ⟨_,_,rfl,rfl,small (by lia),l,a,125,_,rfl,B,by trivial,hl,?_⟩)⟩;refine⟨_,rfl,.inl ⟨rfl,_,rfl,?_⟩⟩;refine iteT ⟨by decide,λO j=>⟨_,rfl,.inl ⟨_,_,rfl,rfl,by show 2<=sizeLine;decide,λR o=>?_⟩⟩⟩;exact k.go (by show(a:Int)+1=((a+1:Nat):Int);lia) j o
  ·have S:cntW v=[48+v,125]:=by unfold cntW;rw[if_neg I]
   rw[S] at hd k;obtain⟨B,F⟩:=q1j (show l.drop a=(48+v)::(125::r) from hd);obtain⟨G,_⟩:=q1j F;refine⟨_,rfl,_,rfl,.inr (.inl ⟨_,_,rfl,rfl,small (by lia),l,a,48+v,_,rfl,B,in_two v (by lia) (by lia),hl,?_⟩)⟩;refine⟨_,rfl,.inl ⟨rfl,_,rfl,?_⟩⟩;rw[lit1 (48+v) 125 "}" (by trivial),decide_eq_false (by lia)];refine iteF ⟨_,rfl,_,rfl,.inl ⟨_,_,rfl,rfl,l,a+1,125,_,by rfl,G,by trivial,hl,?_⟩⟩;refine⟨_,rfl,.inr ⟨_,_,rfl,x1v (by lia),by rw[q0o];show 1<=640;decide,by show 2<=sizeLine;decide,λO j=>⟨_,rfl,.inl ⟨_,_,rfl,rfl,by show 2<=sizeLine;decide,λR o=>?_⟩⟩⟩⟩;exact k.go (by show(a:Int)+2=((a+2:Nat):Int);lia) j o
noncomputable def spNoughts:Sp:=λvs H Q _=>∃(l r:List Nat) (a g v:Nat),vs=[.str (mk l),.int (a),.int (g)]/\l.length<=1000/\1<=v/\v<=9/\l.drop a=(48+v)::125::r/\RT H Q (.nou g v) (a+2)
noncomputable abbrev q2p:Stmt:=top 34
def sc_read_noughts:FnScope ["template", "at", "gap", "width"] Z2 (defScope q2p):=by trivial
def q7y(D:Df K mg "read_noughts" q2p Z2)(T:Txt mg)(C:CallsT P w K mg base):Cal P w K mg base "read_noughts" 2 Z2 spNoughts:=by
 refine D.cal sc_read_noughts (λvs H Q E h=>?_) (λf I A outer s H vs Q E G h=>?_)
 ·obtain⟨l,r,a,g,v,rfl,_⟩:=h;rfl
 ·obtain⟨l,r,a,g,v,rfl,hl,J,L,hd,k⟩:=h;obtain⟨_,j⟩:=T.FROM_ONE;refine⟨_,(q0b (q0l (i:=3) sc_read_noughts.nd rfl (by trivial) (pe_c C.asked G (q0a (pv 0) (q0a (pv 1) (q0a (q0z (v:=.str (Ab "123456789")) (by rfl) j ⟨_,rfl⟩) q0d))))) (q0b (q0y (pe_c C.asked G (q0a (pv 0) (q0a (q0u q0n (pv 1) q0f) (q0a q0i q0d))))) (q0e (q0m (q0v (q0a (q0v (q0a q0i (q0a (pv 2) (q0a (q1u q3w (by rfl) T.b_int (by trivial) (q0a (pv 3) q0d)) q0d)))) (q0a (q0u q0n (pv 1) q0f) q0d))))))),?_⟩;obtain⟨M,o⟩:=q1j hd;obtain⟨u,_⟩:=q1j o;refine⟨_,rfl,_,rfl,l,a,48+v,_,rfl,M,x9w v (by lia) (by lia),hl,?_⟩;refine⟨_,rfl,_,rfl,.inl ⟨_,_,rfl,rfl,l,a+1,125,_,by rfl,u,by trivial,hl,?_⟩⟩;refine⟨_,rfl,_,rfl,.inr ⟨_,_,rfl,x1v (by lia),by rw[q0o];show 1<=640;decide,by show 3<=sizeLine;decide,λO B=>⟨_,rfl,.inl ⟨_,_,rfl,rfl,by show 2<=sizeLine;decide,λR F=>?_⟩⟩⟩⟩;exact k.go (by show(a:Int)+2=((a+2:Nat):Int);lia) B F
noncomputable def spMore:Sp:=λvs H Q _=>∃(l r:List Nat) (a g m:Nat),vs=[.str (mk l),.int (a),.int (g)]/\l.length<=1000/\m<10^9/\l.drop a=dg m++125::r/\RT H Q (.more g m) (a+(dg m).length+1)
def z0v{l:List Nat}(h:l.drop a=x++y)(f:j<x.length):∃c,l[a+j]?=some c/\x[j]?=some c:=by
 refine⟨x[j],?_,Bv f⟩;rw[<- Lr,h,Er f];exact Bv f
def z6s{l:List Nat}(h:l.drop a=x++y):l.drop (a+x.length)=y:=by
 rw[<- Tr,h,Tv]
def z6t{l:List Nat}(h:l.drop a=x++y)(f:x≠[]):a+x.length<=l.length:=by
 have g:=congrArg List.length h;rw[Ca,Af] at g;have:=Bw.mpr f;lia
noncomputable abbrev q4a:Stmt:=top 35
def sc_read_more:FnScope ["template", "at", "gap", "first", "end"] Z2 (defScope q4a):=by trivial
def z3p(D:Df K mg "read_more" q4a Z2)(T:Txt mg)(C:CallsT P w K mg base):Cal P w K mg base "read_more" 2 Z2 spMore:=by
 refine D.cal sc_read_more (λvs H Q E h=>?_) (λf a0 A outer s H vs Q E F h=>?_)
 ·obtain⟨l,r,a,g,m,rfl,_⟩:=h;rfl
 ·obtain⟨l,r,a,g,m,rfl,hl,hm,hd,k⟩:=h;obtain⟨_,u⟩:=T.FIGURES;obtain⟨_,o⟩:=T.MOST_FIGURES;refine⟨_,(q0b (q0l (i:=3) sc_read_more.nd rfl (by trivial) (pe_c C.asked F (q0a (pv 0) (q0a (pv 1) (q0a (q0z (v:=.str (Ab "0123456789")) (by rfl) u ⟨_,rfl⟩) q0d))))) (q0b (q0l (i:=4) sc_read_more.nd rfl (by trivial) (pe_c C.end_of F (q0a (pv 0) (q0a (pv 1) (q0a (q0z (v:=.str (Ab "0123456789")) (by rfl) u ⟨_,rfl⟩) (q0a (pe_j (z5x (q0h (eq_k K rfl F) (pv 3) q0i (nomark _)) q0f (q0z (v:=.int 9) (by rfl) o ⟨_,rfl⟩))) q0d)))))) (q0b (q0y (pe_c C.asked F (q0a (pv 0) (q0a (pv 4) (q0a q0i q0d))))) (q0e (q0m (q0v (q0a (q0v (q0a q0i (q0a (pv 2) (q0a (q1u q3w (by rfl) T.b_int (by trivial) (q0a (q1d (sl_k K rfl) (pv 0) (q1a (pv 1)) (q1a (pv 4))) q0d)) q0d)))) (q0a (q0u q0n (pv 4) q0f) q0d)))))))),?_⟩;have Z:=q0o l;obtain⟨G,r0,I,J,L⟩:=x9a m;have R:=z2r 8 m (by lia);have S:dg m≠[]:=by grind
  have U:=z6t hd S;have M:=x0i m;obtain⟨W,_⟩:=q1j (show l.drop a=(48+G)::(r0++125::r) by rw[hd,I];rfl);obtain⟨O,_⟩:=q1j (z6s hd);refine⟨_,rfl,_,rfl,l,a,48+G,_,rfl,W,in_fig G J,hl,?_⟩;refine⟨_,rfl,_,rfl,?_⟩;refine⟨λv H'=>H'=H/\∃most:Nat,v=.int (most:Int)/\(dg m).length<=most,?_,?_⟩;rotate_left
  ·refine⟨_,rfl,.inl ⟨rfl,_,rfl,?_⟩⟩;rw[lit1 (48+G) 48 "0" (by trivial)];refine ite2 (λh=>?_) (λh=>?_)
   ·have hz:G=0:=by have:=of_decide_eq_true h;lia
    have F:=(L hz).2;exact⟨rfl,1,rfl,by rw[I,F];simp⟩
   ·exact⟨rfl,9,rfl,R⟩
  rintro v H' ⟨rfl,most,rfl,B⟩;refine⟨l,a,most,(dg m).length,_,rfl,hl,U,B,λj hj=>?_,.inr (.inr ⟨125,O,by trivial⟩),?_⟩
  ·obtain⟨c,h1,h2⟩:=z0v hd hj;exact⟨c,h1,M c (Ar h2)⟩
  refine⟨_,rfl,_,rfl,l,a+(dg m).length,125,_,rfl,O,by trivial,hl,?_⟩;refine⟨_,rfl,_,rfl,_,rfl,_,rfl,_,rfl,_,rfl,.inl ⟨_,rfl,small (by lia),?_⟩⟩;rw[q7n (by lia) (by lia),show a+(dg m).length-a=(dg m).length from by lia,hd,Tu];refine .inr ⟨_,_,rfl,x0j (by lia),by rw[q0o];lia,by show 3<=sizeLine;decide,λT1 X=>⟨_,rfl,.inl ⟨_,_,rfl,rfl,by show 2<=sizeLine;decide,λT2 Y=>?_⟩⟩⟩;exact k.go (by show((a+(dg m).length:Nat):Int)+1=((a+(dg m).length+1:Nat):Int);lia) X Y
noncomputable def spRText:Sp:=λvs H Q _=>∃(l t r:List Nat) (a:Nat),vs=[.str (mk l),.int (a)]/\l.length<=1000/\l.drop a=t++r/\t≠[]/\(∀c∈t,c∈NS)/\(∀c r',r=c::r'->¬c∈NS)/\RT H Q (.tx t) (a+t.length)
noncomputable abbrev q4b:Stmt:=top 39
def sc_read_text:FnScope ["template", "at", "end"] Z1 (defScope q4b):=by trivial
def z3q(D:Df K mg "read_text" q4b Z1)(T:Txt mg)(C:CallsT P w K mg base):Cal P w K mg base "read_text" 2 Z1 spRText:=by
 refine D.cal sc_read_text (λvs H Q E h=>?_) (λf S A outer s H vs Q E O h=>?_)
 ·obtain⟨l,t,r,a,rfl,_⟩:=h;rfl
 ·obtain⟨l,t,r,a,rfl,hl,hd,o,u,F,k⟩:=h;obtain⟨_,g⟩:=T.NAME_SIGNS;refine⟨_,(q0b (q0y (pe_c C.asked O (q0a (pv 0) (q0a (pv 1) (q0a (q0z (v:=.str (Ab "abcdefghijklmnopqrstuvwxyzABCDEFGHIJKLMNOPQRSTUVWXYZ0123456789-_.")) (by rfl) g ⟨_,rfl⟩) q0d))))) (q0b (q0l (i:=2) sc_read_text.nd rfl (by trivial) (pe_c C.end_of O (q0a (pv 0) (q0a (pv 1) (q0a (q0z (v:=.str (Ab "abcdefghijklmnopqrstuvwxyzABCDEFGHIJKLMNOPQRSTUVWXYZ0123456789-_.")) (by rfl) g ⟨_,rfl⟩) (q0a (q0r (q2u K rfl) (by rfl) T.b_len By (q0a (pv 0) q0d)) q0d)))))) (q0e (q0m (q0v (q0a (q0v (q0a q0i (q0a (q1d (sl_k K rfl) (pv 0) (q1a (pv 1)) (q1a (pv 2))) q0d))) (q0a (pv 2) q0d))))))),?_⟩;have B:=q0o l;have G:=z6t hd o;have U:=Bw.mpr o;obtain⟨R,I,J⟩:=z0v hd U;refine⟨_,rfl,_,rfl,l,a,R,_,rfl,I,u R (Ar J),hl,?_⟩;refine⟨_,rfl,_,rfl,_,rfl,_,_,rfl,⟨small (by lia),rfl⟩,?_⟩;refine⟨l,a,l.length,t.length,_,by rw[B];rfl,hl,G,by lia,λj W=>?_,?_,?_⟩
  ·obtain⟨c,X,Y⟩:=z0v hd W;exact⟨c,X,u c (Ar Y)⟩
  ·cases r with
   |nil =>grind
   |cons c r'=>exact .inr (.inr ⟨c,(q1j (z6s hd)).1,F c r' rfl⟩)
  refine⟨_,rfl,_,rfl,_,rfl,_,rfl,_,rfl,.inl ⟨_,rfl,small (by lia),?_⟩⟩;rw[q7n (by lia) (by lia),show a+t.length-a=t.length from by lia,hd,Tu];refine⟨by show 2<=sizeLine;decide,λZ L=>⟨_,rfl,by show 2<=sizeLine;decide,λT2 M=>?_⟩⟩;exact k.go rfl L M
noncomputable def spInto:Sp:=λvs H Q _=>∃(l:List Nat) (a c:Nat),vs=[.str (mk l),.int (a)]/\l.length<=1000/\1<=a/\l[a-1]?=some c/\c≠47/\RT H Q .into (a+1)
noncomputable abbrev q4c:Stmt:=top 38
def z3r:FnScope Z1 Z1 (defScope q4c):=by trivial
def z3s(D:Df K mg "read_into" q4c Z1)(T:Txt mg):Cal P w K mg base "read_into" 1 Z1 spInto:=by
 refine D.cal z3r (λvs H Q E h=>?_) (λf B A outer s H vs Q E o h=>?_)
 ·obtain⟨l,a,c,rfl,_⟩:=h;rfl
 ·obtain⟨l,a,c,rfl,hl,ha,C,hn,k⟩:=h;refine⟨_,(q0b (q0t (pt_j (@PW.pt _ _ _ (z4l (q0h (eq_k K rfl o) (pv 1) q0f (nomark _)) (q6x (q0h (eq_k K rfl o) (q0w (ix_k K rfl) (pv 0) (q0u z6a (pv 1) q0f) (λ_ _=>rfl)) q0i (nomark _)))))) (q0e q1l) q0j) (q0e (q0m (q0v (q0a (q0v (q0a q0i q0d)) (q0a (q0u q0n (pv 1) q0f) q0d)))))),?_⟩;have u:=q0o l;refine⟨λb v=>b=false/\v=H,?_,?_⟩;rotate_left
  ·refine⟨_,rfl,.inl ⟨rfl,_,rfl,?_⟩⟩;refine iteB (λh=>?_) (λh=>?_)
   ·grind
   refine⟨_,rfl,_,rfl,_,_,rfl,rfl,.inr (.inr ⟨mk l,_,c,rfl,rfl,small (by lia),?_,.inl ⟨rfl,_,rfl,?_,rfl⟩⟩)⟩
   ·rw[show((a:Nat):Int)-1=((a-1:Nat):Int) from by lia];exact q1n (show(tl (mk l))[a-1]?=_ by rw[q0x];exact C)
   ·show decide (V.str (mk [c])=V.str (Ab "/"))=false;rw[lit1 c 47 "/" (by trivial),decide_eq_false hn]
  rintro b v ⟨rfl,rfl⟩;refine iteF ⟨by decide,λF g=>⟨_,rfl,.inl ⟨_,_,rfl,rfl,by show 2<=sizeLine;decide,λG j=>?_⟩⟩⟩;exact k.go (by show(a:Int)+1=((a+1:Nat):Int);lia) g j
noncomputable def casesKV:List (Key×V):=[(Sum.inr (Ab "u"),.str (Ab "great")),(Sum.inr (Ab "l"),.str (Ab "small"))]
structure CallsU (P) (w) (K) (mg) (base):Prop where
 asked:Cal P w K mg base "asked" 1 Z7 spAsked
 read_noughts:Cal P w K mg base "read_noughts" 2 Z2 spNoughts
 read_more:Cal P w K mg base "read_more" 2 Z2 spMore
 cases_:∃d,mg "CASES" = some (.ref d)/\KDict P w K d casesKV
noncomputable def Pc.gt:Pc->Option (Nat×List Nat)
 |.gap k=>some (k,[125])
 |.great k=>some (k,[117,125])
 |.small k=>some (k,[108,125])
 |.nou k w=>some (k,[122,48+w,125])
 |.more k m=>some (k,43::(dg m++[125]))
 |_=>none
noncomputable def spGap:Sp:=λvs H Q _=>∃(l r t:List Nat) (a g:Nat) (p:Pc),vs=[.str (mk l),.int (a),.int (g)]/\l.length<=1000/\p.ok/\p.gt=some (g,t)/\l.drop a=t++r/\RT H Q p (a+t.length)
noncomputable abbrev q5b:Stmt:=top 36
def sc_read_gap:FnScope ["template", "at", "gap", "sign"] Z2 (defScope q5b):=by trivial
def z5d(D:Df K mg "read_gap" q5b Z2)(T:Txt mg)(C:CallsU P w K mg base):Cal P w K mg base "read_gap" 3 Z2 spGap:=by
 refine D.cal sc_read_gap (λvs H Q E h=>?_) (λf W A outer s H vs Q E L h=>?_)
 ·obtain⟨l,r,t,a,g,p,rfl,_⟩:=h;rfl
 ·obtain⟨l,r,t,a,g,p,rfl,hl,hok,j,hd,k⟩:=h;obtain⟨Y,u,B⟩:=C.cases_;refine⟨_,(q0b (q0l (i:=3) sc_read_gap.nd rfl (by trivial) (pe_c C.asked L (q0a (pv 0) (q0a (pv 1) (q0a q0i q0d))))) (q0b (q0t (q0h (eq_k K rfl L) (pv 3) q0i (nomark _)) (q0e (q0m (q0v (q0a (q0v (q0a q0i (q0a (pv 2) q0d))) (q0a (q0u q0n (pv 1) q0f) q0d))))) q0j) (q0b (q0t (q0h (eq_k K rfl L) (pv 3) q0i (nomark _)) (q0e (q0m (pe_c C.read_noughts L (q0a (pv 0) (q0a (q0u q0n (pv 1) q0f) (q0a (pv 2) q0d)))))) q0j) (q0b (q0t (q0h (eq_k K rfl L) (pv 3) q0i (nomark _)) (q0e (q0m (pe_c C.read_more L (q0a (pv 0) (q0a (q0u q0n (pv 1) q0f) (q0a (pv 2) q0d)))))) q0j) (q0b (q0y (pe_c C.asked L (q0a (pv 0) (q0a (q0u q0n (pv 1) q0f) (q0a q0i q0d))))) (q0e (q0m (q0v (q0a (q0v (q0a (x9b (by rfl) u B (pv 3) (λ_ _=>rfl)) (q0a (pv 2) q0d))) (q0a (q0u q0n (pv 1) q0f) q0d)))))))))),?_⟩;have I:∀(c d:Nat) (s:String),Ab s=mk [d]->c≠d->decide (V.str (mk [c])=V.str (Ab s))=false:=λc d s R X=>by rw[lit1 c d s R,decide_eq_false X]
  have M:∀(c:Nat) (s:String),Ab s=mk [c]->decide (V.str (mk [c])=V.str (Ab s))=true:=λc s R=>by rw[lit1 c c s R,decide_eq_true rfl]
  cases p with
  |tx l=>cases j
  |cnt v=>cases j
  |into=>cases j
  |gap kk =>
   cases j;obtain⟨J,_⟩:=q1j (show l.drop a=125::r from hd);refine⟨_,rfl,_,rfl,l,a,125,_,rfl,J,by trivial,hl,?_⟩;refine⟨_,rfl,.inl ⟨rfl,_,rfl,?_⟩⟩;rw[M 125 "}" (by trivial)];refine iteT ⟨_,rfl,by show 2<=sizeLine;decide,λS F=>⟨_,rfl,.inl ⟨_,_,rfl,rfl,by show 2<=sizeLine;decide,λU G=>?_⟩⟩⟩;exact k.go (by show(a:Int)+1=((a+1:Nat):Int);lia) F G
  |great kk =>
   cases j;obtain⟨J,o⟩:=q1j (show l.drop a=117::(125::r) from hd);obtain⟨O,_⟩:=q1j o;refine⟨_,rfl,_,rfl,l,a,117,_,rfl,J,by trivial,hl,?_⟩;refine⟨_,rfl,.inl ⟨rfl,_,rfl,?_⟩⟩;rw[I 117 125 "}" (by trivial) (by decide)];refine iteF ⟨_,rfl,.inl ⟨rfl,_,rfl,?_⟩⟩;rw[I 117 122 "z" (by trivial) (by decide)];refine iteF ⟨_,rfl,.inl ⟨rfl,_,rfl,?_⟩⟩;rw[I 117 43 "+" (by trivial) (by decide)];refine iteF ⟨_,rfl,_,rfl,.inl ⟨_,_,rfl,rfl,l,a+1,125,_,by rfl,O,by trivial,hl,?_⟩⟩;refine⟨_,rfl,Sum.inr (Ab "u"),.str (Ab "great"),?_,by trivial,_,rfl,by show 2<=sizeLine;decide,λS F=>⟨_,rfl,.inl ⟨_,_,rfl,rfl,by show 2<=sizeLine;decide,λU G=>?_⟩⟩⟩
   ·exact congrArg V.str (by decide +kernel:mk [117]=Ab "u")
   exact k.go (by show(a:Int)+2=((a+2:Nat):Int);lia) F G
  |small kk =>
   cases j;obtain⟨J,o⟩:=q1j (show l.drop a=108::(125::r) from hd);obtain⟨O,_⟩:=q1j o;refine⟨_,rfl,_,rfl,l,a,108,_,rfl,J,by trivial,hl,?_⟩;refine⟨_,rfl,.inl ⟨rfl,_,rfl,?_⟩⟩;rw[I 108 125 "}" (by trivial) (by decide)];refine iteF ⟨_,rfl,.inl ⟨rfl,_,rfl,?_⟩⟩;rw[I 108 122 "z" (by trivial) (by decide)];refine iteF ⟨_,rfl,.inl ⟨rfl,_,rfl,?_⟩⟩;rw[I 108 43 "+" (by trivial) (by decide)];refine iteF ⟨_,rfl,_,rfl,.inl ⟨_,_,rfl,rfl,l,a+1,125,_,by rfl,O,by trivial,hl,?_⟩⟩;refine⟨_,rfl,Sum.inr (Ab "l"),.str (Ab "small"),?_,by trivial,_,rfl,by show 2<=sizeLine;decide,λS F=>⟨_,rfl,.inl ⟨_,_,rfl,rfl,by show 2<=sizeLine;decide,λU G=>?_⟩⟩⟩
   ·exact congrArg V.str (by decide +kernel:mk [108]=Ab "l")
   exact k.go (by show(a:Int)+2=((a+2:Nat):Int);lia) F G
  |nou kk ww =>
   cases j;obtain⟨J,o⟩:=q1j (show l.drop a=122::((48+ww)::125::r) from hd);refine⟨_,rfl,_,rfl,l,a,122,_,rfl,J,by trivial,hl,?_⟩;refine⟨_,rfl,.inl ⟨rfl,_,rfl,?_⟩⟩;rw[I 122 125 "}" (by trivial) (by decide)];refine iteF ⟨_,rfl,.inl ⟨rfl,_,rfl,?_⟩⟩;rw[M 122 "z" (by trivial)];refine iteT ⟨_,rfl,_,rfl,.inl ⟨_,_,rfl,rfl,_,rfl,l,r,a+1,g,ww,by rfl,hl,hok.2.1,hok.2.2,o,?_⟩⟩;rw[show a+1+2=a+[122,48+ww,125].length from rfl];exact k
  |more kk m =>
   cases j;obtain⟨J,o⟩:=q1j (show l.drop a=43::((dg m++[125])++r) from hd);refine⟨_,rfl,_,rfl,l,a,43,_,rfl,J,by trivial,hl,?_⟩;refine⟨_,rfl,.inl ⟨rfl,_,rfl,?_⟩⟩;rw[I 43 125 "}" (by trivial) (by decide)];refine iteF ⟨_,rfl,.inl ⟨rfl,_,rfl,?_⟩⟩;rw[I 43 122 "z" (by trivial) (by decide)];refine iteF ⟨_,rfl,.inl ⟨rfl,_,rfl,?_⟩⟩;rw[M 43 "+" (by trivial)];refine iteT ⟨_,rfl,_,rfl,.inl ⟨_,_,rfl,rfl,_,rfl,l,r,a+1,g,m,by rfl,hl,hok.2,by rw[o,Dj];rfl,?_⟩⟩;rw[show a+1+(dg m).length+1=a+(43::(dg m++[125])).length from by rw[Bc,Af,Bi];lia];exact k
structure CallsV (P) (w) (K) (mg) (base):Prop where
 asked:Cal P w K mg base "asked" 1 Z7 spAsked
 read_count:Cal P w K mg base "read_count" 2 Z1 spCount
 read_gap:Cal P w K mg base "read_gap" 3 Z2 spGap
noncomputable def spMark:Sp:=λvs H Q _=>∃(l r t:List Nat) (a:Nat) (p:Pc),vs=[.str (mk l),.int (a)]/\l.length<=1000/\p.ok/\p.wr=123::t/\(∀x,p≠.tx x)/\l.drop a=t++r/\RT H Q p (a+t.length)
def in_n:∀v,v<10->1<=v->48+v∈tl (Ab "n" ++ Ab "123456789"):=by trivial
def gt_of{p:Pc}(hok:p.ok)(f:p.wr=123::t)(j:∀x,p≠.tx x):(∃v,p=.cnt v/\t=110::cntW v)\/∃g u,p.gt=some (g,u)/\t=(48+g)::u/\1<=g/\g<=9:=by
 cases p with
 |tx l=>exact absurd rfl (j l)
 |into=>injection f with h _;exact absurd h (by decide)
 |cnt v=>injection f with _ f;exact .inl ⟨v,rfl,f.symm⟩
 |gap k=>injection f with _ f;exact .inr ⟨k,_,rfl,f.symm,hok.1,hok.2⟩
 |great k=>injection f with _ f;exact .inr ⟨k,_,rfl,f.symm,hok.1,hok.2⟩
 |small k=>injection f with _ f;exact .inr ⟨k,_,rfl,f.symm,hok.1,hok.2⟩
 |nou k v=>injection f with _ f;exact .inr ⟨k,_,rfl,f.symm,hok.1.1,hok.1.2⟩
 |more k m=>injection f with _ f;exact .inr ⟨k,_,rfl,f.symm,hok.1.1,hok.1.2⟩
noncomputable abbrev q4d:Stmt:=top 37
def sc_read_mark:FnScope ["template", "at", "sign"] Z1 (defScope q4d):=by trivial
def z3t(D:Df K mg "read_mark" q4d Z1)(T:Txt mg)(C:CallsV P w K mg base):Cal P w K mg base "read_mark" 4 Z1 spMark:=by
 refine D.cal sc_read_mark (λvs H Q E h=>?_) (λf J A outer s H vs Q E B h=>?_)
 ·obtain⟨l,r,t,a,p,rfl,_⟩:=h;rfl
 ·obtain⟨l,r,t,a,p,rfl,hl,hok,L,M,hd,k⟩:=h;obtain⟨_,j⟩:=T.FROM_ONE;refine⟨_,(q0b (q0l (i:=2) sc_read_mark.nd rfl (by trivial) (pe_c C.asked B (q0a (pv 0) (q0a (pv 1) (q0a (q0u q0n q0i (q0z (v:=.str (Ab "123456789")) (by rfl) j ⟨_,rfl⟩)) q0d))))) (q0b (q0t (q0h (eq_k K rfl B) (pv 2) q0i (nomark _)) (q0e (q0m (pe_c C.read_count B (q0a (pv 0) (q0a (q0u q0n (pv 1) q0f) q0d))))) q0j) (q0e (q0m (pe_c C.read_gap B (q0a (pv 0) (q0a (q0u q0n (pv 1) q0f) (q0a (q1u q3w (by rfl) T.b_int (by trivial) (q0a (pv 2) q0d)) q0d)))))))),?_⟩;have R:(Ab "n").length+(Ab "123456789").length<=1000:=by trivial
  rcases gt_of hok L M with⟨v,rfl,rfl⟩|⟨g,u,F,rfl,G,O⟩
  ·obtain⟨I,o⟩:=q1j (show l.drop a=110::(cntW v++r) from hd);refine⟨_,rfl,_,rfl,.inr (.inl ⟨_,_,rfl,rfl,TX.small (by lia),l,a,110,_,rfl,I,by trivial,hl,?_⟩)⟩;refine⟨_,rfl,.inl ⟨rfl,_,rfl,?_⟩⟩;rw[lit1 110 110 "n" (by trivial),decide_eq_true rfl];refine iteT ⟨_,rfl,_,rfl,.inl ⟨_,_,rfl,rfl,l,r,a+1,v,by rfl,hl,hok.1,hok.2,o,?_⟩⟩;rw[show a+1+(cntW v).length=a+(110::cntW v).length from by rw[Bc];lia];exact k
  ·obtain⟨I,o⟩:=q1j (show l.drop a=(48+g)::(u++r) from hd);refine⟨_,rfl,_,rfl,.inr (.inl ⟨_,_,rfl,rfl,TX.small (by lia),l,a,48+g,_,rfl,I,in_n g (by lia) G,hl,?_⟩)⟩;refine⟨_,rfl,.inl ⟨rfl,_,rfl,?_⟩⟩;rw[lit1 (48+g) 110 "n" (by trivial),decide_eq_false (by lia)];refine iteF ⟨_,rfl,_,rfl,.inl ⟨_,_,rfl,rfl,_,rfl,.inr ⟨_,_,rfl,x1v (by lia),by rw[q0o];show 1<=640;decide,l,r,u,a+1,g,p,by rfl,hl,hok,F,o,?_⟩⟩⟩;rw[show a+1+u.length=a+((48+g)::u).length from by rw[Bc];lia];exact k
structure CallsW (P) (w) (K) (mg) (base):Prop where
 read_mark:Cal P w K mg base "read_mark" 4 Z1 spMark
 read_into:Cal P w K mg base "read_into" 1 Z1 spInto
 read_text:Cal P w K mg base "read_text" 2 Z1 spRText
noncomputable def spPiece:Sp:=λvs H Q _=>∃(l r:List Nat) (a:Nat) (p:Pc),vs=[.str (mk l),.int (a)]/\l.length<=1000/\p.ok/\l.drop a=p.wr++r/\((∃x,p=.tx x)->∀c r',r=c::r'->¬c∈NS)/\(p=.into->1<=a/\∃c,l[a-1]?=some c/\c≠47)/\RT H Q p (a+p.wr.length)
def no123:(123:Nat)∉NS:=by trivial
def no47:(47:Nat)∉NS:=by trivial
def x9x{p:Pc}(f:∀x,p≠.tx x)(g:p≠.into):∃t,p.wr=123::t:=by
 cases p with
 |tx l=>exact absurd rfl (f l)
 |into=>exact absurd rfl g
 |_=>exact⟨_,rfl⟩
noncomputable abbrev q3k:Stmt:=top 40
def z0w:FnScope Z1 Z1 (defScope q3k):=by trivial
def z0x(D:Df K mg "read_piece" q3k Z1)(T:Txt mg)(C:CallsW P w K mg base):Cal P w K mg base "read_piece" 5 Z1 spPiece:=by
 refine D.cal z0w (λvs H Q E h=>?_) (λf R A outer s H vs Q E o h=>?_)
 ·obtain⟨l,r,a,p,rfl,_⟩:=h;rfl
 ·obtain⟨l,r,a,p,rfl,hl,hok,hd,v,B,k⟩:=h;refine⟨_,(q0b (q0t (q0h (eq_k K rfl o) (q0w (ix_k K rfl) (pv 0) (pv 1) (λ_ _=>rfl)) q0i (nomark _)) (q0e (q0m (pe_c C.read_mark o (q0a (pv 0) (q0a (q0u q0n (pv 1) q0f) q0d))))) q0j) (q0b (q0t (q0h (eq_k K rfl o) (q0w (ix_k K rfl) (pv 0) (pv 1) (λ_ _=>rfl)) q0i (nomark _)) (q0e (q0m (pe_c C.read_into o (q0a (pv 0) (q0a (pv 1) q0d))))) q0j) (q0e (q0m (pe_c C.read_text o (q0a (pv 0) (q0a (pv 1) q0d))))))),?_⟩;have J:=q0o l;have at_:∀c,l[a]?=some c->atI (tl (mk l)) ((a:Nat):Int)=some c:=λc g=>q1n (by rw[q0x];exact g)
  by_cases L:∃x,p=.tx x
  ·obtain⟨t,rfl⟩:=L;obtain⟨c,j,rfl⟩:∃c j,t=c::j:=by cases t with|nil=>exact absurd rfl hok.1|cons c j=>exact⟨c,j,rfl⟩
   have u:=hok.2 c Al;obtain⟨g,_⟩:=q1j (show l.drop a=c::(j++r) from hd);refine⟨_,rfl,_,rfl,.inr (.inr ⟨mk l,_,c,rfl,rfl,TX.small (by lia),at_ c g,.inl ⟨rfl,_,rfl,?_⟩⟩)⟩;show if decide (V.str (mk [c])=V.str (Ab "{"))=true then _ else _
   rw[lit1 c 123 "{" (by trivial),decide_eq_false (λz:c=123=>no123 (z▸u))];refine iteF ⟨_,rfl,_,rfl,.inr (.inr ⟨mk l,_,c,rfl,rfl,TX.small (by lia),at_ c g,.inl ⟨rfl,_,rfl,?_⟩⟩)⟩;show if decide (V.str (mk [c])=V.str (Ab "/"))=true then _ else _
   rw[lit1 c 47 "/" (by trivial),decide_eq_false (λz:c=47=>no47 (z▸u))];refine iteF ⟨_,rfl,_,rfl,l,c::j,r,a,by rfl,hl,hd,hok.1,hok.2,v ⟨_,rfl⟩,k⟩
  ·by_cases M:p=.into
   ·subst M;obtain⟨g,_⟩:=q1j (show l.drop a=47::r from hd);obtain⟨ha,c,F,G⟩:=B rfl;refine⟨_,rfl,_,rfl,.inr (.inr ⟨mk l,_,47,rfl,rfl,TX.small (by lia),at_ 47 g,.inl ⟨rfl,_,rfl,?_⟩⟩)⟩;show if decide (V.str (mk [47])=V.str (Ab "{"))=true then _ else _
    rw[lit1 47 123 "{" (by trivial),decide_eq_false (by decide)];refine iteF ⟨_,rfl,_,rfl,.inr (.inr ⟨mk l,_,47,rfl,rfl,TX.small (by lia),at_ 47 g,.inl ⟨rfl,_,rfl,?_⟩⟩)⟩;show if decide (V.str (mk [47])=V.str (Ab "/"))=true then _ else _
    rw[lit1 47 47 "/" (by trivial),decide_eq_true rfl];exact iteT ⟨_,rfl,_,rfl,l,a,c,by rfl,hl,ha,F,G,k⟩
   ·have h1':∀x,p≠.tx x:=λx z=>L ⟨x,z⟩;obtain⟨t,O⟩:=x9x h1' M;rw[O] at hd k;obtain⟨g,I⟩:=q1j (show l.drop a=123::(t++r) from hd);refine⟨_,rfl,_,rfl,.inr (.inr ⟨mk l,_,123,rfl,rfl,TX.small (by lia),at_ 123 g,.inl ⟨rfl,_,rfl,?_⟩⟩)⟩;show if decide (V.str (mk [123])=V.str (Ab "{"))=true then _ else _
    rw[lit1 123 123 "{" (by trivial),decide_eq_true rfl];refine iteT ⟨_,rfl,_,rfl,.inl ⟨_,_,rfl,rfl,l,r,t,a+1,p,by rfl,hl,hok,O,h1',I,?_⟩⟩;rw[show a+1+t.length=a+(123::t).length from by rw[Bc];lia];exact k
noncomputable def flatP(ps:List Pc):List Nat:=(ps.map Pc.wr).flatten
def q0s(p)(ps):flatP (p::ps)=p.wr++flatP ps:=by simp[flatP]
def q1z(a b):flatP (a++b)=flatP a++flatP b:=by simp[flatP]
def x1w{p:Pc}(h:p.ok):p.wr≠[]:=by
 cases p with
 |tx l=>exact h.1
 |_=>simp[Pc.wr]
structure WP (ps:List Pc):Prop where
 ne:ps≠[]
 ok:∀p∈ps,p.ok
 tt:∀i x y,ps[i]?=some (.tx x)->ps[i+1]?≠some (.tx y)
 ii:∀i,ps[i]?=some .into->1<=i/\ps[i-1]?≠some .into
 la:∀q,ps.getLast?=some q->q≠.into
 sz:(flatP ps).length<=100
def x9y{p:Pc}(h:∀x,p≠.tx x):∃c t,p.wr=c::t/\¬c∈NS:=by
 cases p with
 |tx l=>grind
 |into=>exact⟨47,[],rfl,no47⟩
 |_=>exact⟨123,_,rfl,no123⟩
def x9z{p:Pc}(hok:p.ok)(h:p≠.into):∃t c,p.wr=t++[c]/\c≠47:=by
 cases p with
 |tx l =>
  refine⟨l.dropLast,l.getLast hok.1,(Ed hok.1).symm,λz=>?_⟩;have:=hok.2 _ (Xg hok.1);rw[z] at this;exact no47 this
 |into=>exact absurd rfl h
 |gap k=>exact⟨[123,48+k],125,rfl,by decide⟩
 |great k=>exact⟨[123,48+k,117],125,rfl,by decide⟩
 |small k=>exact⟨[123,48+k,108],125,rfl,by decide⟩
 |nou k w=>exact⟨[123,48+k,122,48+w],125,rfl,by decide⟩
 |more k m=>exact⟨123::(48+k)::43::dg m,125,rfl,by decide⟩
 |cnt v =>
  by_cases f:v=1
  ·exact⟨[123,110],125,by show 123::110::cntW v=_;unfold cntW;rw[if_pos f];rfl,by decide⟩
  ·exact⟨[123,110,48+v],125,by show 123::110::cntW v=_;unfold cntW;rw[if_neg f];rfl,by decide⟩
noncomputable abbrev PTu(H:Hp):List Addr->List Pc->Prop:=Hx λT p=>H T=some (.tup p.vs)
structure HP (H) (L) (ps):Prop where
 ex:∃Ts,H L=some (.lst (Ts.map V.ref))/\PTu H Ts ps
theorem PTu.keep(k:∀T xs,H T=some (.tup xs)->H' T=some (.tup xs)):∀{Ts} {ps},PTu H Ts ps->PTu H' Ts ps
 |_,_,.nil=>.nil
 |_,_,.cons h t=>.cons (k _ _ h) (PTu.keep k t)
def PTu.len(h:PTu H Ts ps):Ts.length=ps.length:=Hb h
def PTu.snoc(g:H T=some (.tup p.vs))(h:PTu H f ps):PTu H (f++[T]) (ps++[p]):=Wr h g
def PTu.get{i:Nat}(h:PTu H f ps)(e:f[i]?=some T):∃p,ps[i]?=some p/\H T=some (.tup p.vs):=by
 induction h generalizing i with
 |nil=>simp at e
 |cons r _ ih =>
  cases i with
  |zero=>cases e;exact⟨_,rfl,r⟩
  |succ i=>exact ih e
def HP.same(h:HP H L ps)(s:Same H H'):HP H' L ps:=by obtain⟨f,g,j⟩:=h.ex;exact⟨f,s _ _ g,j.keep λT o e=>s _ _ e⟩
def HP.sq(h:HP H L ps):∃xs,SqL K H L xs:=by obtain⟨g,f,_⟩:=h.ex;exact⟨_,SqL.of f⟩
noncomputable def Pc.ds:Pc->List Ce
 |.tx l=>[.str (Ab "text"),.str (mk l)]
 |.gap k=>[.str (Ab "gap"),.int (k)]
 |.great k=>[.str (Ab "great"),.int (k)]
 |.small k=>[.str (Ab "small"),.int (k)]
 |.nou k w=>[.str (Ab "noughts"),.int (k),.int (w)]
 |.more k m=>[.str (Ab "more"),.int (k),.int (m)]
 |.cnt v=>[.str (Ab "count"),.int (v)]
 |.into=>[.str (Ab "into")]
def Pc.dts(p:Pc):Dts K H p.vs p.ds:=by
 cases p<;>first|exact .cons (.str _) (.cons (.str _) .nil)|exact .cons (.str _) (.cons (.int _) .nil)|exact .cons (.str _) (.cons (.int _) (.cons (.int _) .nil))|exact .cons (.str _) .nil
theorem PTu.dts:∀{Ts} {ps},PTu H Ts ps->Dts K H (Ts.map V.ref) (ps.map λp=>.tuple p.ds)
 |_,_,.nil=>.nil
 |_,_,.cons h t=>.cons (.tup (SqT.of h) (Pc.dts _)) (PTu.dts t)
def Pc.lay {p : Pc} (h : p.ok) : (Ce.tuple p.ds).canLay0 = true := by
  cases p with
  | tx l =>
    have h1 := z0b λc hc => x4c c (h.2 c hc);have h2 : Dz (Ab "text") = true := by trivial
    show Bx [.str (Ab "text"), .str (mk l)] = true;simp only [Bx, Dm, h1, h2, Ek]
  | gap k => have h2 : Dz (Ab "gap") = true := by trivial
             simp only [Pc.ds, Bx, Dm, h2, Ek]
  | great k => have h2 : Dz (Ab "great") = true := by trivial
               simp only [Pc.ds, Bx, Dm, h2, Ek]
  | small k => have h2 : Dz (Ab "small") = true := by trivial
               simp only [Pc.ds, Bx, Dm, h2, Ek]
  | nou k w => have h2 : Dz (Ab "noughts") = true := by trivial
               simp only [Pc.ds, Bx, Dm, h2, Ek]
  | more k m => have h2 : Dz (Ab "more") = true := by trivial
                simp only [Pc.ds, Bx, Dm, h2, Ek]
  | cnt v => have h2 : Dz (Ab "count") = true := by trivial
             simp only [Pc.ds, Bx, Dm, h2, Ek]
  | into => decide +kernel
def lays:∀{ps:List Pc},(∀p∈ps,p.ok)->(Ce.list (ps.map λp=>.tuple p.ds)).canLay0=true:=by
 intro ps;show _->Bx (ps.map λp=>.tuple p.ds)=true;induction ps with
 |nil=>intro _;rfl
 |cons p r ih =>
  intro h;have f:=Pc.lay (h p Al);have g:=ih λq j=>h q (Ak _ j);show Bx (.tuple p.ds::r.map λp=>.tuple p.ds)=true;simp only[Bx,f,g,Ek]
def z6u{p:Pc}(h:p≠.into):Dg (.tuple p.ds) (.tuple [.str (Ab "into")])=false:=by
 cases p with
 |into=>exact absurd rfl h
 |_=>simp[Pc.ds,Dg,Eg]
def x5f{ps:List Pc}(h:ps≠[]):Dg (.list (ps.map λp=>.tuple p.ds)) (.list [])=false:=by
 cases ps with
 |nil=>exact absurd rfl h
 |cons p r=>simp[Dg,Eg]
structure CallsX (P) (w) (K) (mg) (base):Prop where
 read_piece:Cal P w K mg base "read_piece" 5 Z1 spPiece
noncomputable def spPieces:Sp:=λvs H Q _=>∃ps,vs=[.str (mk (flatP ps))]/\WP ps/\∀L H',H L=none->Same H H'->HP H' L ps->Q (.ref L) H'
noncomputable def pcMeas(n:Nat)(σ:St):Nat:=match σ[2]? with|some (some (V.int e))=>n-e.toNat|_=>0
noncomputable abbrev q4e:Stmt:=top 41
def sc_pieces_of:FnScope ["template", "pieces", "at", "piece"] Yo (defScope q4e):=by trivial
def z3u(D:Df K mg "pieces_of" q4e Yo)(T:Txt mg)(C:CallsX P w K mg base):Cal P w K mg base "pieces_of" 6 Yo spPieces:=by
 refine D.cal sc_pieces_of (λvs H Q E h=>?_) (λf c7 A outer s H vs Q E J h=>?_)
 ·obtain⟨g,rfl,_⟩:=h;rfl
 ·obtain⟨g,rfl,wp,k⟩:=h;refine⟨_,(q0b (q0l (i:=1) sc_pieces_of.nd rfl (by trivial) (q1p q0d)) (q0b (q0l (i:=2) sc_pieces_of.nd rfl (by trivial) q0f) (q0b (q9p Bj (q0h z9g (pv 2) (q0r (q2u K rfl) (by rfl) T.b_len By (q0a (pv 0) q0d)) (nomark _)) (q0b (q6y (pe_c C.read_piece J (q0a (pv 0) (q0a (pv 2) q0d))) (@q2m _ _ _ _ _ (2) K rfl rfl (q0p (q0k (i:=3) sc_pieces_of.nd rfl (by trivial)) (q0p (q0k (i:=2) sc_pieces_of.nd rfl (by trivial)) q1s)) (by rfl) (by rfl))) (q0e (q0y (@bm_k _ _ _ _ _ _ _ _ _ _ _ _ K rfl Bz Cu Cv q1i (pv 1) (q0a (pv 3) q0d) (by rfl) (by rfl) (by rfl) (by rfl) (by rfl)))))) (q0b (q0t (pt_j (@PW.pt _ _ _ (z4l (q0h (eq_k K rfl J) (pv 1) (q1p q0d) (nomark _)) (q6x (q0h (eq_k K rfl J) (q0w (ix_k K rfl) (pv 1) (q4o q2l q0f) (λ_ _=>rfl)) (q0v (q0a q0i q0d)) (nomark _)))))) (q0e q1l) q0j) (q0e (q0m (pv 1))))))),?_⟩;generalize hl:flatP g=l;have c6:=q0o l;have c8:l.length<=100:=by rw[<- hl];exact wp.sz
  refine⟨by show 0<=sizeLine;decide,λL hL=>?_⟩;have a8:g.length<=100:=by
   have:∀qs:List Pc,(∀p∈qs,p.ok)->qs.length<=(flatP qs).length:=by
    intro qs;induction qs with
    |nil=>intro _;exact Aj _
    |cons q r ih =>
     intro u;have h1:=ih λp M=>u p (Ak _ M);have h2:=Bw.mpr (x1w (u q Al));rw[q0s,Af,Bc];lia
   have:=this g wp.ok;rw[hl] at this;lia
  refine q9q (λB F=>∃(i:Nat) (x3:Option V),B=[some (.str (mk l)),some (.ref L),some (.int (((flatP (g.take i)).length:Nat):Int)),x3]/\Same H F/\HP F L (g.take i)/\i<=g.length) (λB _=>pcMeas (l.length+1) B) ⟨0,none,rfl,(Same.refl H).new hL,⟨[],q0c,.nil⟩,Ba _⟩ ?_ ?_
  ·rintro B F ⟨i,x3,rfl,sm,M,hi⟩;have O:flatP (g.take i)++flatP (g.drop i)=l:=by rw[<- q1z,Jp,hl]
   have v:(flatP (g.take i)).length+(flatP (g.drop i)).length=l.length:=by rw[<- O,Af]
   refine⟨_,rfl,_,rfl,_,_,rfl,⟨TX.small (by lia),rfl⟩,_,_,rfl,rfl,_,rfl,?_⟩;refine ite2 (λh=>?_) (λh=>?_)
   ·have h1:=of_decide_eq_true h;have hi':i<g.length:=by
     rcases Nat.lt_or_ge i g.length with z|z
     ·exact z
     ·rw[Mw z] at v;simp[flatP] at v;simp[flatP] at h1;lia
    have j:g[i]?=some g[i]:=Bv hi';generalize g[i]=p at j;have hok:=wp.ok p (Ar j);have a9:=q3e j;have b0:l.drop (flatP (g.take i)).length=p.wr++flatP (g.drop (i+1)):=by rw[<- O,Tv,a9,q0s]
    refine⟨_,rfl,_,rfl,l,flatP (g.drop (i+1)),(flatP (g.take i)).length,p,rfl,by lia,hok,b0,?_,?_,λT1 T2 H4 c9 d0 Y R b3=>?_⟩
    ·rintro⟨x,rfl⟩ c r' J;cases u:g[i+1]? with
     |none =>
      rw[Mw (List.getElem?_eq_none_iff.mp u)] at J;cases J
     |some q =>
      have b4:∀y,q≠.tx y:=λy z=>wp.tt i x y j (by rw[u,z]);obtain⟨c',t',Z,hn⟩:=x9y b4;rw[q3e u,q0s,Z] at J;cases J;exact hn
    ·rintro rfl;obtain⟨d1,S⟩:=wp.ii i j;obtain⟨q,u⟩:∃q,g[i-1]?=some q:=⟨_,Bv (by lia)⟩
     have b5:q≠.into:=λz=>S (by rw[u,z]);obtain⟨t,c,Z,hc⟩:=x9z (wp.ok q (Ar u)) b5;have b6:g.take i=g.take (i-1)++[q]:=by
      have:=q1b u
      rwa [show i-1+1=i from by lia] at this
     have a0:flatP (g.take i)=(flatP (g.take (i-1))++t)++[c]:=by rw[b6,q1z,show flatP [q]=q.wr from by simp[flatP],Z,Dj]
     refine⟨by rw[a0,Af,Bi];lia,c,?_,hc⟩;rw[<- O,a0,Af,Bi,Pz,Dj,Dx (Aj _),Oi];rfl
    ·refine⟨T2,_,rfl,SqT.of b3,rfl,_,_,rfl,_,_,rfl,rfl,?_⟩;have a3:=M.same Y;obtain⟨Ts,a1,a2⟩:=a3.ex;have a4:=a2.len;rw[Cg] at a4;refine⟨_,rfl,.inl ⟨rfl,a3.sq⟩,_,rfl,L,_,_,rfl,rfl,a1,by rw[Ae];exact TX.small' (by lia),?_⟩;have b7:T1≠L:=λz=>by subst z;rw[a1] at R;cases R
     have b8:flatP (g.take (i+1))=flatP (g.take i)++p.wr:=by rw[q1b j,q1z];simp[flatP]
     refine⟨⟨i+1,some (.ref T1),?_,(sm.trans Y).put hL,⟨Ts++[T1],by rw[Bb];exact q0c,?_⟩,hi'⟩,?_⟩
     ·rw[b8,Af];rfl
     ·rw[q1b j];refine PTu.snoc (by rw[q0g b7];exact R) (a2.keep λTx xs e=>?_);rw[q0g (λz=>by subst z;rw[a1] at e;cases e)];exact e
     ·show l.length+1-(((flatP (g.take i)).length+p.wr.length:Nat):Int).toNat<l.length+1-(((flatP (g.take i)).length:Nat):Int).toNat;have:=Bw.mpr (x1w hok);lia
   ·have h1:¬(((flatP (g.take i)).length:Nat):Int)<(((mk l).length:Nat):Int):=λz=>h (decide_eq_true z);have hi':i=g.length:=by
     rcases Nat.lt_or_ge i g.length with z|z
     ·have j:g[i]?=some g[i]:=Bv z;have:=Bw.mpr (x1w (wp.ok _ (Ar j)));rw[q3e j,q0s,Af] at v;lia
     ·lia
    subst hi';rw[Ci] at M;obtain⟨Ts,a1,a2⟩:=M.ex;have a4:=a2.len;obtain⟨qs,q,G⟩:∃qs q,g=qs++[q]:=⟨g.dropLast,g.getLast wp.ne,(Ed wp.ne).symm⟩
    have b9:q≠.into:=wp.la q (by rw[G];simp);refine⟨λb H'=>b=false/\Same F H',?_,?_⟩
    ·rintro b H' ⟨rfl,a5⟩;exact iteF ⟨_,rfl,k L H' hL (sm.trans a5) (M.same a5)⟩
    refine⟨_,rfl,by show 0<=sizeLine;decide,λE0 c0=>?_⟩;have a6:Same F (upd F E0 (.lst [])):=(Same.refl F).new c0;have c1:=M.same a6;obtain⟨U,b1,b2⟩:=c1.ex;refine .inr ⟨_,_,.lst (SqL.of b1) b2.dts,.lst (SqL.of q0c) .nil,lays wp.ok,rfl,?_,_,rfl,?_⟩
    ·refine Ay (Rn _ _) ?_;decide +kernel
    rw[x5f wp.ne];refine iteF ?_;have I:=b2.len;have o:U≠[]:=λz=>by rw[z] at I;rw[G] at I;simp at I
    have c2:=(Ed o).symm;have W:U[g.length-1]?=some (U.getLast o):=by rw[<- I];simp[List.getLast_eq_getElem]
    obtain⟨q',X,c3⟩:=b2.get W;have eq':q'=q:=by rw[G] at X;simp at X;exact X.symm
    subst eq';have c4:atI (U.map V.ref) (-1)=some (.ref (U.getLast o)):=by
     have:=x4d U.dropLast (U.getLast o)
     rwa [<- c2] at this
    refine⟨_,rfl,_,rfl,.inl ⟨L,_,-1,_,rfl,rfl,SqL.of b1,c4,by show 1<=sizeLine;decide,λT3 c5=>?_⟩⟩;have a7:Same (upd F E0 (.lst [])) (upd (upd F E0 (.lst [])) T3 (.tup [.str (Ab "into")])):=(Same.refl _).new c5;refine .inr ⟨_,_,.tup (SqT.of (a7 _ _ c3)) (Pc.dts _),.tup (SqT.of q0c) (.cons (.str _) .nil),Pc.lay (wp.ok _ (by rw[G];simp)),by trivial,?_,_,rfl,?_,a6.trans a7⟩
    ·refine Ay (Rn _ _) ?_;decide +kernel
    ·exact z6u b9
  ·intro σ H Q Q' u Z;obtain⟨x,e1,y,e2,n',z,e3,e4,a',b',e5,e6,c',e7,hh⟩:=Z;exact⟨x,e1,y,e2,n',z,e3,e4,a',b',e5,e6,c',e7,u _ _ hh⟩
def x5g(D:K.lookup u=some ⟨.type "dict",none,.dict #[⟨Pa w.params (Ab "u"),.str (Ab "u") g,.str (Ab "great") j⟩,⟨Pa w.params (Ab "l"),.str (Ab "l") o,.str (Ab "small") s⟩] v,#[]⟩):KDict P w K u casesKV:=by
 refine⟨_,[(Sum.inr (Ab "u"),.str (Ab "great") j),(Sum.inr (Ab "l"),.str (Ab "small") s)],D,.cons ⟨rfl,j,rfl⟩ (.cons ⟨rfl,s,rfl⟩ .nil),λh e=>?_⟩;have B:(mixKind P w).is (Sum.inr (Ab "u")) (.str (Ab "u") g)=true:=q6v (Ab "u") g;have C:(mixKind P w).is (Sum.inr (Ab "l")) (.str (Ab "l") o)=true:=q6v (Ab "l") o;refine⟨_,_,v,e,⟨rfl,rfl,rfl⟩,rfl,λE f=>?_,.cons B rfl (.cons C rfl .nil),?_⟩
 ·simp only[List.mem_toArray,Av,Cc,or_false] at f;rcases f with rfl|rfl
  ·exact⟨_,B,rfl⟩
  ·exact⟨_,C,rfl⟩
 ·exact(by decide +kernel:([Sum.inr (Ab "u"),Sum.inr (Ab "l")]:List Key).Nodup)
noncomputable abbrev vG(gs:List Nat):List V:=gs.map λc=>V.str (mk [c])
noncomputable def gapNo:Pc->Option Nat
 |.gap k=>some k
 |.great k=>some k
 |.small k=>some k
 |.nou k _=>some k
 |.more k _=>some k
 |_=>none
noncomputable def isMo:Pc->Bool
 |.more _ _=>true
 |_=>false
noncomputable def pcWd:Pc->Str
 |.tx _=>Ab "text"
 |.gap _=>Ab "gap"
 |.great _=>Ab "great"
 |.small _=>Ab "small"
 |.nou _ _=>Ab "noughts"
 |.more _ _=>Ab "more"
 |.cnt _=>Ab "count"
 |.into=>Ab "into"
noncomputable def pcI:Pc->Bool
 |.into=>true
 |_=>false
def pw0(p:Pc):atI p.vs 0=some (.str (pcWd p)):=by cases p<;>rfl
def x5h(h:gapNo p=some k):atI p.vs 1=some (.int (k)):=by cases p<;>cases h<;>rfl
noncomputable abbrev ofGap:List V:=[.str (Ab "gap"),.str (Ab "great"),.str (Ab "small"),.str (Ab "noughts"),.str (Ab "more")]
noncomputable abbrev kinds3:List V:=[.str (Ab "slip"),.str (Ab "drawer"),.str (Ab "all")]
def inGap(p):inV (.str (pcWd p)) ofGap=(gapNo p).isSome:=by cases p<;>(simp only[pcWd,gapNo,Option.isSome];decide +kernel)
structure AskOk (kd) (gs:List Nat) (p):Prop where
 gp:∀k,gapNo p=some k->1<=k/\k<=gs.length
 mo:∀k m,p=.more k m->gs[k-1]?=some 35
 io:p=.into->kd=Ab "slip"
noncomputable def spAskGap:Sp:=λvs H Q _=>∃T G p k gs kd,vs=[.ref T,.ref G]/\H T=some (.tup p.vs)/\gapNo p=some k/\H G=some (.lst (vG gs))/\gs.length<=3000/\AskOk kd gs p/\Q .non H
def vG_at{k:Nat}(hk:1<=k)(h:gs[k-1]?=some c):atI (vG gs) ((k)-1)=some (.str (mk [c])):=by
 have e:((k:Int)-1)=((k-1:Nat):Int):=by lia
 rw[e];refine q1n ?_;rw[Be,h];rfl
noncomputable abbrev q5s:Stmt:=top 46
def sc_ask_gap:FnScope ["piece", "gap_signs", "sort", "gap"] Zw (defScope q5s):=by trivial
def z8n(D:Df K mg "ask_gap" q5s Zw)(T:Txt mg):Cal P w K mg base "ask_gap" 1 Zw spAskGap:=by
 refine D.cal sc_ask_gap (λvs H Q E h=>?_) (λf L A outer s H vs Q E u h=>?_)
 ·obtain⟨g,G,p,k,M,kd,rfl,_⟩:=h;rfl
 ·obtain⟨g,G,p,n,M,kd,rfl,v,j,B,O,C,k⟩:=h;refine⟨_,(q0b (q0l (i:=2) sc_ask_gap.nd rfl (by trivial) (q0w (ix_k K rfl) (pv 0) q0f (λ_ _=>rfl))) (q0b (q0l (i:=3) sc_ask_gap.nd rfl (by trivial) (q0w (ix_k K rfl) (pv 0) q0f (λ_ _=>rfl))) (q0b (q0t (q0h q6h (pv 3) (q0r (q2u K rfl) (by rfl) T.b_len By (q0a (pv 1) q0d)) (nomark _)) (q0e q1l) q0j) (q0e (q0t (pt_j (@PW.pt _ _ _ (q2v (q0h (eq_k K rfl u) (pv 2) q0i (nomark _)) (q2c (q0h (ne_k K rfl u) (q0w (ix_k K rfl) (pv 1) (q0u z6a (pv 3) q0f) (λ_ _=>rfl)) q0i (nomark _)))))) (q0e q1l) q0j))))),?_⟩;obtain⟨o,R⟩:=C.gp n j;refine⟨_,rfl,.inr (.inl ⟨g,_,0,_,rfl,rfl,SqT.of v,pw0 p,?_⟩)⟩;refine⟨_,rfl,.inr (.inl ⟨g,_,1,_,rfl,rfl,SqT.of v,x5h j,?_⟩)⟩;refine⟨_,rfl,_,rfl,_,_,rfl,.inl ⟨_,SqL.of B,rfl⟩,_,_,rfl,rfl,_,rfl,?_⟩;rw[Ae];refine ite2 (λh=>absurd (of_decide_eq_true h) (by lia)) (λ_=>?_);refine⟨λF I=>F=false/\I=H,?_,?_⟩
  ·rintro F I ⟨rfl,rfl⟩;exact iteF k
  refine⟨_,rfl,.inl ⟨rfl,_,rfl,?_⟩⟩;refine iteB (λh=>?_) (λh=>⟨rfl,rfl⟩);obtain⟨J,m,rfl⟩:∃J m,p=.more J m:=by cases p<;>first|exact⟨_,_,rfl⟩|cases h
  cases j;refine⟨_,rfl,_,rfl,_,_,rfl,rfl,.inl ⟨G,_,_,_,rfl,rfl,SqL.of B,vG_at o (C.mo _ _ rfl),.inl ⟨rfl,_,rfl,?_,rfl⟩⟩⟩;rfl
structure CallsR (P) (w) (K) (mg) (base):Prop where
 ask_gap:Cal P w K mg base "ask_gap" 1 Zw spAskGap
 of_a_gap:∃d,mg "OF_A_GAP" = some (.ref d)/\∀H,SqT K H d ofGap
noncomputable def spAskPiece:Sp:=λvs H Q _=>∃T G p gs kd,vs=[.ref T,.str kd,.ref G]/\H T=some (.tup p.vs)/\H G=some (.lst (vG gs))/\gs.length<=3000/\AskOk kd gs p/\Q .non H
noncomputable abbrev q4f:Stmt:=top 47
def sc_ask_piece:FnScope ["piece", "kind", "gap_signs", "sort"] Zg (defScope q4f):=by trivial
def z3v(D:Df K mg "ask_piece" q4f Zg)(T:Txt mg)(C:CallsR P w K mg base):Cal P w K mg base "ask_piece" 2 Zg spAskPiece:=by
 refine D.cal sc_ask_piece (λvs H Q E h=>?_) (λf S A outer s H vs Q E B h=>?_)
 ·obtain⟨u,G,p,J,kd,rfl,_⟩:=h;rfl
 ·obtain⟨u,G,p,J,kd,rfl,L,U,F,M,k⟩:=h;obtain⟨g,j,hd⟩:=C.of_a_gap;refine⟨_,(q0b (q0l (i:=3) sc_ask_piece.nd rfl (by trivial) (q0w (ix_k K rfl) (pv 0) q0f (λ_ _=>rfl))) (q2n (q0t (q0h (in_k K rfl) (pv 3) (q0z (v:=.ref g) (by rfl) j rfl) (by with_unfolding_all rfl)) (q0e (q0y (pe_c C.ask_gap B (q0a (pv 0) (q0a (pv 2) q0d))))) q0j) (q0e (q0t (pt_j (@PW.pt _ _ _ (q2v (q0h (eq_k K rfl B) (pv 3) q0i (nomark _)) (q2c (q0h (ne_k K rfl B) (pv 1) q0i (nomark _)))))) (q0e q1l) q0j)))),?_⟩;refine⟨_,rfl,.inr (.inl ⟨u,_,0,_,rfl,rfl,SqT.of L,pw0 p,?_⟩)⟩;refine⟨λo I=>o=[some (.ref u),some (.str kd),some (.ref G),some (.str (pcWd p))]/\I=H,?_,?_⟩;rotate_left
  ·refine⟨_,rfl,.inr ⟨g,_,rfl,.inr (hd H),rfl,by trivial,_,rfl,?_⟩⟩;rw[inGap];refine ite2 (λh=>?_) (λh=>⟨rfl,rfl⟩);obtain⟨n,hn⟩:=Lj.mp h;exact⟨_,rfl,_,rfl,u,G,p,n,J,kd,rfl,L,hn,U,F,M,rfl,rfl⟩
  rintro o I ⟨rfl,rfl⟩;refine⟨λO R=>O=false/\R=I,?_,?_⟩
  ·rintro O R ⟨rfl,rfl⟩;exact iteF k
  refine⟨_,rfl,.inl ⟨rfl,_,rfl,?_⟩⟩;refine iteB (λh=>?_) (λh=>⟨rfl,rfl⟩);have W:p=.into:=by cases p<;>first|rfl|cases h
  refine⟨_,rfl,.inl ⟨rfl,_,rfl,?_,rfl⟩⟩;rw[M.io W,decide_eq_true rfl];rfl
structure RuleAt (K:Ai) (H:Hp) (R) (kd) (l) (qs) (st):Prop where
 at_:H R=some (.tup [.str kd,.str (mk l),.str (mk (flatP qs)),.int st])
 kok:inV (.str kd) kinds3=true
 good:Good l
 wp:WP qs
 st0:0<=st
 st1:st<=1000000000
 ask:∀q∈qs,AskOk kd (gsOf (parse [] l)) q
def RuleAt.same(h:RuleAt K H R kd l qs st)(s:Same H H'):RuleAt K H' R kd l qs st:=⟨s _ _ h.at_,h.kok,h.good,h.wp,h.st0,h.st1,h.ask⟩
structure CallsS (P) (w) (K) (mg) (base):Prop where
 parts_of:Cal P w K mg base "parts_of" 2 Zv spPartsOf
 pieces_of:Cal P w K mg base "pieces_of" 6 Yo spPieces
 ask_piece:Cal P w K mg base "ask_piece" 2 Zg spAskPiece
 kinds:∃d,mg "KINDS" = some (.ref d)/\∀H,SqT K H d kinds3
noncomputable def spAskRule(K:Ai):Sp:=λvs H Q _=>∃R kd l qs st,vs=[.ref R]/\RuleAt K H R kd l qs st/\∀H',Same H H'->Q (.bl true) H'
def z3w{ps:List Pt}(h:ps[i]?=some p):gsOf (ps.take (i+1))=gsOf (ps.take i)++gsOf [p]:=by
 have e:ps.take (i+1)=ps.take i++[p]:=by rw[Fu,h];rfl
 rw[e];generalize ps.take i=qs;induction qs with
 |nil=>rfl
 |cons q r ih=>cases q with
  |tx t=>exact ih
  |gp c=>show c::gsOf (r++[p])=c::(gsOf r++gsOf [p]);rw[ih]
def z6v(ps):(gsOf ps).length<=ps.length:=by
 induction ps with
 |nil=>exact Aj _
 |cons q r ih=>cases q with
  |tx t=>show(gsOf r).length<=r.length+1;lia
  |gp c=>show(gsOf r).length+1<=r.length+1;lia
noncomputable abbrev q5c:Stmt:=top 48
def sc_ask_rule:FnScope ["rule", "kind", "pattern", "template", "start", "parts", "pieces", "gap_signs", "piece"] Zz (defScope q5c):=by trivial
def z5e(D:Df K mg "ask_rule" q5c Zz)(T:Txt mg)(C:CallsS P w K mg base):Cal P w K mg base "ask_rule" 7 Zz (spAskRule K):=by
 refine D.cal sc_ask_rule (λvs H Q E h=>?_) (λf a3 A outer s H vs Q E U h=>?_)
 ·obtain⟨R,kd,l,qs,st,rfl,_⟩:=h;rfl
 ·obtain⟨R,kd,l,qs,st,rfl,I,k⟩:=h;obtain⟨j,u,hd⟩:=C.kinds;obtain⟨_,g⟩:=T.MOST_START;refine⟨_,(q0b (q6y (pv 0) (@q2m _ _ _ _ (4) _ K rfl rfl (q0p (q0k (i:=1) sc_ask_rule.nd rfl (by trivial)) (q0p (q0k (i:=2) sc_ask_rule.nd rfl (by trivial)) (q0p (q0k (i:=3) sc_ask_rule.nd rfl (by trivial)) (q0p (q0k (i:=4) sc_ask_rule.nd rfl (by trivial)) q1s)))) (by rfl) (by rfl))) (q0b (q0l (i:=5) sc_ask_rule.nd rfl (by trivial) (pe_c C.parts_of U (q0a (pv 2) q0d))) (q0b (q0l (i:=6) sc_ask_rule.nd rfl (by trivial) (pe_c C.pieces_of U (q0a (pv 3) q0d))) (q0b (q0t (q0h (z9u K rfl) (pv 1) (q0z (v:=.ref j) (by rfl) u rfl) (by with_unfolding_all rfl)) (q0e q1l) q0j) (q0b (q9x (i:=7) ["sort", "what"] [] sc_ask_rule.nd rfl (by trivial) rfl (@q2i _ _ _ _ K rfl (pv 5)) (λ_ _ _ _ _=>(@q2m _ _ _ _ _ (2) K rfl rfl (q0p (q0k (i:=0) (show(["sort", "what"]:List Str).Nodup by trivial) rfl (by trivial)) (q0p (q0k (i:=1) (show(["sort", "what"]:List Str).Nodup by trivial) rfl (by trivial)) q1s)) (by rfl) (by rfl))) (λ_ _ _ _ _=>(q4v (q0h (eq_k K rfl U) (pv 0) q0i (nomark _)))) (λ_ _ _ _ _=>(pv 1))) (q0b (q1g Bj rfl (@q2i _ _ _ _ K rfl (pv 6)) (q0k (i:=8) sc_ask_rule.nd rfl (by trivial)) (q0e (q0y (pe_c C.ask_piece U (q0a (pv 8) (q0a (pv 1) (q0a (pv 7) q0d))))))) (q0b (q0t (pt_j (@PW.pt _ _ _ (z4l (q0h z9g (pv 4) q0f (nomark _)) (q6x (q0h q6h (pv 4) (q0z (v:=.int 1000000000) (by rfl) g ⟨_,rfl⟩) (nomark _)))))) (q0e q1l) q0j) (q0e (q0m q6g))))))))),?_⟩;refine⟨_,rfl,R,_,rfl,SqT.of I.at_,rfl,_,_,rfl,_,_,rfl,_,_,rfl,_,_,rfl,rfl,?_⟩;refine⟨_,rfl,l,rfl,I.good,λL H1 hL W X=>?_⟩;refine⟨_,rfl,qs,rfl,I.wp,λM Y hM J Z=>?_⟩;refine⟨_,rfl,.inr ⟨j,_,rfl,.inr (hd Y),rfl,by trivial,_,rfl,?_⟩⟩;rw[I.kok];obtain⟨Ts,t1,t2⟩:=(X.same J).ex;have a0:=t2.len;have a4:=q7m l [];have a5:=I.good.len;refine⟨_,rfl,.inl ⟨L,rfl,⟨_,SqL.of t1⟩,λD hD=>?_⟩⟩;refine q3v (λi O F=>O=vG (gsOf ((parse [] l).take i))/\Same Y F/\F D=some (.lst O)/\i<=(parse [] l).length) ⟨rfl,(Same.refl Y).new hD,q0c,Ba _⟩ (λi O F ⟨_,sm,o,_⟩=>⟨o,SqL.of (sm _ _ t1)⟩) ?_ ?_
  ·rintro i O F x hx ⟨rfl,sm,o,hi⟩;obtain⟨T1,p,rfl,B,ht⟩:=t2.get hx;have hi':=(Ap.mp B).1;refine⟨T1,_,rfl,SqT.of (sm _ _ ht),rfl,_,_,rfl,_,_,rfl,rfl,q5n,?_⟩;refine⟨_,rfl,.inl ⟨rfl,_,rfl,?_⟩⟩;have hg:=z6v ((parse [] l).take i);rw[Cg] at hg;cases p with
   |tx t =>
    refine iteF ⟨?_,sm,o,hi'⟩;rw[z3w B];show vG _=vG (_++[]);rw[Cd]
   |gp c =>
    refine iteT ⟨_,rfl,o,TX.small' (by rw[Ae];lia),?_,sm.put hD,q0c,hi'⟩;rw[z3w B];show _=(gsOf _++[c]).map _;rw[Bb];rfl
  rintro O H3 ⟨rfl,S,o,_⟩;rw[Ae,a0,Ci] at o;have a1:=Z.same S;obtain⟨Us,u1,u2⟩:=a1.ex;have a6:=z6v (parse [] l);refine⟨_,rfl,.inl ⟨M,rfl,⟨_,SqL.of u1⟩,?_⟩⟩;refine q1x (λi G F=>∃x8,G=[some (.ref R),some (.str kd),some (.str (mk l)),some (.str (mk (flatP qs))),some (.int st),some (.ref L),some (.ref M),some (.ref D),x8]/\F=H3) ⟨none,rfl,rfl⟩ (λi G F _ ⟨_,_,e⟩=>by subst e;exact SqL.of u1) ?_ ?_
  ·rintro i x G F hx ⟨x8,rfl,rfl⟩;obtain⟨T1,a2,rfl⟩:∃T,Us[i]?=some T/\x=.ref T:=by
    rw[Be] at hx;cases hz:Us[i]? with
    |none=>grind
    |some T=>grind
   obtain⟨p,B,ht⟩:=u2.get a2;refine⟨_,rfl,_,rfl,_,rfl,T1,D,p,gsOf (parse [] l),kd,rfl,ht,o,by lia,I.ask p (Ar B),⟨_,rfl,rfl⟩⟩
  ·rintro G F ⟨x8,rfl,rfl⟩;refine⟨λbb H4=>bb=false/\H4=F,?_,?_⟩
   ·rintro bb H4 ⟨rfl,rfl⟩;exact iteF (k _ ((W.trans J).trans S))
   have h0:=I.st0;have h1:=I.st1;refine⟨_,rfl,_,_,rfl,rfl,_,rfl,?_⟩;refine iteB (λh=>absurd (of_decide_eq_true h) (by lia)) (λ_=>?_);refine⟨_,rfl,_,_,rfl,rfl,_,rfl,?_,rfl⟩;exact decide_eq_false (by lia)
def x5i(a b):mk a++mk b=mk (a++b):=by apply ext;rw[q2o,q0x,q0x,q0x]
noncomputable abbrev up1:=PyProof.Rows.up1
noncomputable abbrev lo1:=Kl
noncomputable def gapG:Pc->List Nat->List Nat
 |.great _,t=>t.map up1
 |.small _,t=>t.map lo1
 |.nou _ w,t=>wn w t
 |.more _ m,t=>wn t.length (dg (Fi t+m))
 |_,t=>t
noncomputable def pcText(ts:List (List Nat))(cn:Nat):Pc->List Nat
 |.tx t=>t
 |.gap k=>ts.getD (k-1) []
 |.great k=>(ts.getD (k-1) []).map up1
 |.small k=>(ts.getD (k-1) []).map lo1
 |.nou k w=>wn w (ts.getD (k-1) [])
 |.more k m=>wn (ts.getD (k-1) []).length (dg (Fi (ts.getD (k-1) [])+m))
 |.cnt w=>wn w (dg cn)
 |.into=>[]
structure GTx (ts:List (List Nat)) (p):Prop where
 gp:∀k,gapNo p=some k->1<=k/\k<=ts.length
 tx:∀t∈ts,t.length<=12/\∀c∈t,c<128
 mo:∀k m,p=.more k m->ts.getD (k-1) []≠[]/\∀c∈ts.getD (k-1) [],c∈FI
def x7o:∀c∈FI,48<=c/\c<=57:=by trivial
theorem x1x:∀(t:List Nat)  a ,(∀c∈t,c∈FI)->t.foldl (λacc c=>acc*10+(c-48)) a<(a+1)*10^t.length
 |[],a,_=>by simp
 |c::r,a,h=>by
  have g:=x7o c (h c Al);have j:=x1x r (a*10+(c-48)) λx f=>h x (Ak _ f);rw[Ew,Bc,Vo];have o:(a*10+(c-48)+1)*10^r.length<=((a+1)*10)*10^r.length:=Kk _ (by lia);have s:((a+1)*10)*10^r.length=(a+1)*(10^r.length*10):=by grind
  lia
def dv_lt(t)(h:∀c∈t,c∈FI):Fi t<10^t.length:=by
 have:=x1x t 0 h;simpa[Fi] using this
noncomputable def spWN:Sp:=λvs H Q _=>∃(t:List Nat) (w:Nat),vs=[.str (mk t),.int (w)]/\w<=1000/\Q (.str (mk (wn w t))) H
noncomputable abbrev q2q:Stmt:=top 56
def q7z:FnScope Zu Zu (defScope q2q):=by trivial
def q8a(D:Df K mg "with_noughts" q2q Zu)(T:Txt mg):Cal P w K mg base "with_noughts" 1 Zu spWN:=by
 refine D.cal q7z (λvs H Q E h=>?_) (λf g A outer s H vs Q E j h=>?_)
 ·obtain⟨t,n,rfl,_⟩:=h;rfl
 ·obtain⟨t,n,rfl,hn,k⟩:=h;refine⟨_,(q0e (q0m (@bm_k _ _ _ _ _ _ _ _ _ _ _ _ K rfl Bo PySem.F.slot_str_rjust PySem.F.type_str_rjust x4k (pv 0) (q0a (pv 1) (q0a q0i q0d)) (by rfl) (by rfl) (by rfl) (by rfl) (by rfl)))),?_⟩;refine⟨_,rfl,rfl,_,rfl,_,_,_,rfl,rfl,PyProof.Rows.padOk_of (by lia) (by lia),by trivial,?_⟩;have e:(Ab "0").cps.getD 0 0=48:=by trivial
  rw[e,rj];exact k
def wne(h:(Ab x==Ab y)=false):decide (V.str (Ab x)=V.str (Ab y))=false:=by rw[L2.dec_str];exact h
def upper14(h:∀c∈n,c<128):PySem.Txt.upper (mk n)=mk (n.map up1):=by
 rw[Ro (by show ∀c∈tl (mk n),c<128;exact h)];apply ext;rw[q0x];rw[Rj]
def lower14(h:∀c∈n,c<128):Hv (mk n)=mk (n.map lo1):=by
 rw[PyProof.Rows.lower_ascii (by show ∀c∈tl (mk n),c<128;exact h)];apply ext;rw[q0x];rw[Rj]
def x5j(f:t≠[])(h:∀c∈t,c∈FI)(hl:t.length<=12):Lz (mk t)=some ((Fi t):Int):=by
 have e:(mk t).cps.toList=t:=q0x t;have:=PySem.intText_digits (by rw[e];exact λd hd=>x7o d (h d hd)) (by rw[e];exact f) (by rw[q0o];lia);exact this
noncomputable def spGapText:Sp:=λvs H Q _=>∃T p t,vs=[.ref T,.str (mk t)]/\H T=some (.tup p.vs)/\p.ok/\gapNo p≠none/\t.length<=12/\(∀c∈t,c<128)/\(∀k m,p=.more k m->t≠[]/\∀c∈t,c∈FI)/\Q (.str (mk (gapG p t))) H
noncomputable abbrev q5d:Stmt:=top 57
def sc_gap_text:FnScope ["piece", "text", "sort"] Y8 (defScope q5d):=by trivial
def z5f(D:Df K mg "gap_text" q5d Y8)(T:Txt mg)(C:Cal P w K mg base "with_noughts" 1 Zu spWN):Cal P w K mg base "gap_text" 2 Y8 spGapText:=by
 refine D.cal sc_gap_text (λvs H Q E h=>?_) (λf G A outer s H vs Q E o h=>?_)
 ·obtain⟨g,p,t,rfl,_⟩:=h;rfl
 ·obtain⟨g,p,t,rfl,j,ok,u,hl,B,I,k⟩:=h;refine⟨_,(q0b (q0l (i:=2) sc_gap_text.nd rfl (by trivial) (q0w (ix_k K rfl) (pv 0) q0f (λ_ _=>rfl))) (q0b (q0t (q0h (eq_k K rfl o) (pv 2) q0i (nomark _)) (q0e (q0m (@q4p _ _ _ _ _ _ _ _ _ K rfl Bo Jg Jh q6n (pv 1) (by rfl) (by rfl)))) q0j) (q0b (q0t (q0h (eq_k K rfl o) (pv 2) q0i (nomark _)) (q0e (q0m (@q4p _ _ _ _ _ _ _ _ _ K rfl Bo Dp Dq q2f (pv 1) (by rfl) (by rfl)))) q0j) (q0b (q0t (q0h (eq_k K rfl o) (pv 2) q0i (nomark _)) (q0e (q0m (pe_c C o (q0a (pv 1) (q0a (q0w (ix_k K rfl) (pv 0) q0f (λ_ _=>rfl)) q0d))))) q0j) (q0b (q0t (q0h (eq_k K rfl o) (pv 2) q0i (nomark _)) (q0e (q0m (pe_c C o (q0a (q1u q7o (by rfl) T.b_str (by trivial) (q0a (q0u q0n (q1u q3w (by rfl) T.b_int (by trivial) (q0a (pv 1) q0d)) (q0w (ix_k K rfl) (pv 0) q0f (λ_ _=>rfl))) q0d)) (q0a (q0r (q2u K rfl) (by rfl) T.b_len By (q0a (pv 1) q0d)) q0d))))) q0j) (q0e (q0m (pv 1)))))))),?_⟩;have J:(mk t).length<=sizeLine:=TX.small (by rw[q0o];lia);cases p with
  |tx l=>exact absurd rfl u
  |cnt v=>exact absurd rfl u
  |into=>exact absurd rfl u
  |gap n =>
   refine⟨_,rfl,.inr (.inl ⟨g,_,0,.str (Ab "gap"),rfl,rfl,SqT.of j,rfl,?_⟩)⟩;refine⟨_,rfl,.inl ⟨rfl,_,rfl,?_⟩⟩;refine iteF ⟨_,rfl,.inl ⟨rfl,_,rfl,?_⟩⟩;refine iteF ⟨_,rfl,.inl ⟨rfl,_,rfl,?_⟩⟩;refine iteF ⟨_,rfl,.inl ⟨rfl,_,rfl,?_⟩⟩;exact iteF ⟨_,rfl,k⟩
  |great n =>
   refine⟨_,rfl,.inr (.inl ⟨g,_,0,.str (Ab "great"),rfl,rfl,SqT.of j,rfl,?_⟩)⟩;refine⟨_,rfl,.inl ⟨rfl,_,rfl,?_⟩⟩;refine iteT ⟨_,rfl,rfl,_,rfl,rfl,TX.small (by rw[q0o];lia),?_⟩;rw[upper14 B];exact k
  |small n =>
   refine⟨_,rfl,.inr (.inl ⟨g,_,0,.str (Ab "small"),rfl,rfl,SqT.of j,rfl,?_⟩)⟩;refine⟨_,rfl,.inl ⟨rfl,_,rfl,?_⟩⟩;refine iteF ⟨_,rfl,.inl ⟨rfl,_,rfl,?_⟩⟩;refine iteT ⟨_,rfl,rfl,_,rfl,rfl,TX.small (by rw[q0o];lia),?_⟩;rw[lower14 B];exact k
  |nou n v =>
   have R:=ok.2.2;refine⟨_,rfl,.inr (.inl ⟨g,_,0,.str (Ab "noughts"),rfl,rfl,SqT.of j,rfl,?_⟩)⟩;refine⟨_,rfl,.inl ⟨rfl,_,rfl,?_⟩⟩;refine iteF ⟨_,rfl,.inl ⟨rfl,_,rfl,?_⟩⟩;refine iteF ⟨_,rfl,.inl ⟨rfl,_,rfl,?_⟩⟩;exact iteT ⟨_,rfl,_,rfl,.inr (.inl ⟨g,_,2,.int (v:Int),rfl,rfl,SqT.of j,rfl,t,v,rfl,by lia,k⟩)⟩
  |more n m =>
   have L:=ok.2;obtain⟨M,F⟩:=I n m rfl;have hd:=dv_lt t F;have O:10^t.length<=10^12:=Km (by decide) hl;refine⟨_,rfl,.inr (.inl ⟨g,_,0,.str (Ab "more"),rfl,rfl,SqT.of j,rfl,?_⟩)⟩;refine⟨_,rfl,.inl ⟨rfl,_,rfl,?_⟩⟩;refine iteF ⟨_,rfl,.inl ⟨rfl,_,rfl,?_⟩⟩;refine iteF ⟨_,rfl,.inl ⟨rfl,_,rfl,?_⟩⟩;refine iteF ⟨_,rfl,.inl ⟨rfl,_,rfl,?_⟩⟩;refine iteT ⟨_,rfl,.inr ⟨_,_,rfl,x5j M F hl,by rw[q0o];lia,?_⟩⟩;refine⟨_,rfl,.inr (.inl ⟨g,_,2,.int (m:Int),rfl,rfl,SqT.of j,rfl,.inl ⟨_,_,rfl,rfl,Fi t+m,rfl,by lia,?_⟩⟩)⟩;refine⟨_,rfl,_,_,rfl,⟨J,rfl⟩,dg (Fi t+m),t.length,by rw[x8z,q0o];rfl,by lia,k⟩
structure CallsGT (P) (w) (K) (mg) (base):Prop where
 gap_text:Cal P w K mg base "gap_text" 2 Y8 spGapText
 with_noughts:Cal P w K mg base "with_noughts" 1 Zu spWN
noncomputable def spPieceText:Sp:=λvs H Q _=>∃T G p ts,∃cn:Nat,vs=[.ref T,.ref G,.int (cn)]/\H T=some (.tup p.vs)/\p.ok/\pcI p=false/\H G=some (.lst (vN ts))/\GTx ts p/\cn<=10^12/\Q (.str (mk (pcText ts cn p))) H
def j0a(h:gapNo p=some k):pcText ts cn p=gapG p (ts.getD (k-1) []):=by
 cases p<;>first|(cases h;rfl)|cases h
def gap_vs(h:gapNo p=some k):∃(w:String) (r:List V),p.vs=.str (Ab w)::.int (k)::r/\(Ab w==Ab "text")=false/\(Ab w==Ab "count")=false:=by
 cases p with
 |tx l=>cases h
 |cnt v=>cases h
 |into=>cases h
 |gap n=>cases h;exact⟨"gap",[],rfl,by trivial,by trivial⟩
 |great n=>cases h;exact⟨"great",[],rfl,by trivial,by trivial⟩
 |small n=>cases h;exact⟨"small",[],rfl,by trivial,by trivial⟩
 |nou n v=>cases h;exact⟨"noughts",_,rfl,by trivial,by trivial⟩
 |more n v=>cases h;exact⟨"more",_,rfl,by trivial,by trivial⟩
noncomputable abbrev q3l:Stmt:=top 58
def sc_piece_text:FnScope ["piece", "gap_texts", "count", "sort"] Ze (defScope q3l):=by trivial
def z0y(D:Df K mg "piece_text" q3l Ze)(T:Txt mg)(C:CallsGT P w K mg base):Cal P w K mg base "piece_text" 3 Ze spPieceText:=by
 refine D.cal sc_piece_text (λvs H Q E h=>?_) (λf O A outer s H vs Q E B h=>?_)
 ·obtain⟨g,G,p,j,F,rfl,_⟩:=h;rfl
 ·obtain⟨g,G,p,j,F,rfl,o,ok,I,R,gt,S,k⟩:=h;refine⟨_,(q0b (q0l (i:=3) sc_piece_text.nd rfl (by trivial) (q0w (ix_k K rfl) (pv 0) q0f (λ_ _=>rfl))) (q0b (q0t (q0h (eq_k K rfl B) (pv 3) q0i (nomark _)) (q0e (q0m (q0w (ix_k K rfl) (pv 0) q0f (λ_ _=>rfl)))) q0j) (q0b (q0t (q0h (eq_k K rfl B) (pv 3) q0i (nomark _)) (q0e (q0m (pe_c C.with_noughts B (q0a (q1u q7o (by rfl) T.b_str (by trivial) (q0a (pv 2) q0d)) (q0a (q0w (ix_k K rfl) (pv 0) q0f (λ_ _=>rfl)) q0d))))) q0j) (q0e (q0m (pe_c C.gap_text B (q0a (pv 0) (q0a (q0w (ix_k K rfl) (pv 1) (q0u z6a (q0w (ix_k K rfl) (pv 0) q0f (λ_ _=>rfl)) q0f) (λ_ _=>rfl)) q0d)))))))),?_⟩;cases hgn:gapNo p with
  |none =>
   cases p with
   |gap n=>cases hgn
   |great n=>cases hgn
   |small n=>cases hgn
   |nou n v=>cases hgn
   |more n v=>cases hgn
   |into=>cases I
   |tx t =>
    refine⟨_,rfl,.inr (.inl ⟨g,_,0,.str (Ab "text"),rfl,rfl,SqT.of o,rfl,?_⟩)⟩;refine⟨_,rfl,.inl ⟨rfl,_,rfl,?_⟩⟩;exact iteT ⟨_,rfl,.inr (.inl ⟨g,_,1,_,rfl,rfl,SqT.of o,rfl,k⟩)⟩
   |cnt v =>
    have hv:=ok.2;refine⟨_,rfl,.inr (.inl ⟨g,_,0,.str (Ab "count"),rfl,rfl,SqT.of o,rfl,?_⟩)⟩;refine⟨_,rfl,.inl ⟨rfl,_,rfl,?_⟩⟩;refine iteF ⟨_,rfl,.inl ⟨rfl,_,rfl,?_⟩⟩;exact iteT ⟨_,rfl,F,rfl,by lia,_,rfl,.inr (.inl ⟨g,_,1,.int (v:Int),rfl,rfl,SqT.of o,rfl,dg F,v,by rw[x8z];rfl,by lia,k⟩)⟩
  |some n =>
   obtain⟨h1,h2⟩:=gt.gp n hgn;obtain⟨U,r0,W,X,Y⟩:=gap_vs hgn;have hT':=o;rw[W] at hT';refine⟨_,rfl,.inr (.inl ⟨g,_,0,.str (Ab U),rfl,rfl,SqT.of hT',q1n rfl,?_⟩)⟩;refine⟨_,rfl,.inl ⟨rfl,_,rfl,?_⟩⟩;rw[wne X];refine iteF ⟨_,rfl,.inl ⟨rfl,_,rfl,?_⟩⟩;rw[wne Y];have J:n-1<j.length:=by lia
   have Z:j.getD (n-1) []=j[n-1]:=by grind
   have L:atI (vN j) ((n:Int)-1)=some (.str (mk (j.getD (n-1) []))):=by
    have e:((n:Int)-1)=((n-1:Nat):Int):=by lia
    rw[e];refine q1n ?_;simp[Gh,Bv (show n-1<j.length by lia)]
   have u:=gt.tx (j.getD (n-1) []) (by rw[Z];exact List.getElem_mem J);refine iteF ⟨_,rfl,_,rfl,_,rfl,.inr (.inl ⟨g,_,1,.int (n:Int),rfl,rfl,SqT.of hT',q1n rfl,_,_,rfl,rfl,.inl ⟨G,_,_,_,rfl,rfl,SqL.of R,L,g,p,_,rfl,o,ok,by rw[hgn];simp,u.1,u.2,λM m z=>?_,?_⟩⟩)⟩
   ·have e2:M=n:=by rw[z] at hgn;exact Co hgn
    have:=gt.mo M m z;rw[e2] at this;exact this
   ·rw[<- j0a hgn];exact k
structure CallsTl (P) (w) (K) (mg) (base):Prop where
 ask_rule:Cal P w K mg base "ask_rule" 7 Zz (spAskRule K)
 reading:Cal P w K mg base "reading" 6 Y0 spReading
 pieces_of:Cal P w K mg base "pieces_of" 6 Yo spPieces
 piece_text:Cal P w K mg base "piece_text" 3 Ze spPieceText
noncomputable def stepT(ts:List (List Nat))(cn:Nat)(acc:List (List Nat))(p:Pc):List (List Nat):=if pcI p then acc++[[]] else acc.dropLast++[acc.getLast?.getD []++pcText ts cn p]
noncomputable def tellT(ts:List (List Nat))(cn:Nat)(qs:List Pc):List (List Nat):=qs.foldl (stepT ts cn) [[]]
def q3b(ts)(cn)(qs)(p):tellT ts cn (qs++[p])=stepT ts cn (tellT ts cn qs) p:=by simp[tellT]
def z8o(ts)(cn)(acc)(p):∃i l,stepT ts cn acc p=i++[l]:=by
 unfold stepT;split
 ·exact⟨_,_,rfl⟩
 ·exact⟨_,_,rfl⟩
def z8p(ts)(cn)(qs):∃i l,tellT ts cn qs=i++[l]:=by
 by_cases h:qs=[]
 ·subst h;exact⟨[],[],rfl⟩
 ·rw[<- Ed h,q3b];exact z8o _ _ _ _
def q9k(ts)(cn)(i):stepT ts cn i .into=i++[[]]:=rfl
def q2r(h:pcI p=false):stepT ts cn (i++[l]) p=i++[l++pcText ts cn p]:=by
 unfold stepT;rw[if_neg (by rw[h];decide)];simp
def x1y(ts)(cn)(acc)(p):(stepT ts cn acc p).length<=acc.length+1:=by
 unfold stepT;split
 ·simp_all
 ·simp_all
theorem z3x(ts)(cn):∀(qs:List Pc)  acc ,(qs.foldl (stepT ts cn) acc).length<=acc.length+qs.length
 |[],acc=>Aj _
 |q::r,acc=>by
  have f:=z3x ts cn r (stepT ts cn acc q);have g:=x1y ts cn acc q;rw[Ew,Bc];lia
def x1z(ts)(cn)(qs):(tellT ts cn qs).length<=qs.length+1:=by
 have:=z3x ts cn qs [[]];unfold tellT;simp only[Bi] at this;lia
noncomputable def spTells(K:Ai):Sp:=λvs H Q _=>∃R kd l qs st n,∃cn:Nat,vs=[.ref R,.str (mk n),.int (cn)]/\RuleAt K H R kd l qs st/\n.length<=12/\(∀t∈rd n (parse [] l) 0,∀c∈t,c<128)/\cn<=10^12/\(fits n (parse [] l) 0=false->∀H',Same H H'->Q .non H') /\
 (fits n (parse [] l) 0=true->∀T H',H T=none->Same H H'->H' T=some (.tup (vN (tellT (rd n (parse [] l) 0) cn qs)))->Q (.ref T) H')
def j0b(h:c∈cut n b e):c∈n:=Oj (En h)
theorem z3y:∀ ps   b ,∀t∈rd n ps b,∀c∈t,c∈n
 |[],_,_,h=>by cases h
 |p::ps,b,t,h=>by
  rcases Au.mp h with z|z
  ·split at z
   ·rw[Ao.mp z];exact λc f=>j0b f
   ·cases z
  ·exact z3y ps _ t z
def wr_le(h:q∈qs):q.wr.length<=(flatP qs).length:=by
 induction qs with
 |nil=>cases h
 |cons p r ih =>
  rw[q0s,Af];rcases Av.mp h with rfl|h
  ·lia
  ·have:=ih h;lia
def z8q(h:pcI p=false):p≠.into:=λz=>by subst z;cases h
def x2a(w)(t):(wn w t).length<=w+t.length:=by unfold wn;rw[Af,Nd];lia
def j0c(f:p.ok)(v:cn<=10^12)(B:∀t∈ts,t.length<=12)(h:p.wr.length<=100)(j:gapNo p≠none->GTx ts p):(pcText ts cn p).length<=100:=by
 have hd:∀k,(ts.getD (k-1) []).length<=12:=by grind
 cases p with
 |tx t=>exact h
 |gap k=>have:=hd k;show(ts.getD (k-1) []).length<=100;lia
 |great k=>have:=hd k;show((ts.getD (k-1) []).map _).length<=100;rw[Ae];lia
 |small k=>have:=hd k;show((ts.getD (k-1) []).map _).length<=100;rw[Ae];lia
 |nou k w =>
  have:=hd k;have g:=x2a w (ts.getD (k-1) []);have:=f.2.2;show(wn w (ts.getD (k-1) [])).length<=100;lia
 |more k m =>
  have o:=hd k;have g:=x2a (ts.getD (k-1) []).length (dg (Fi (ts.getD (k-1) [])+m));have C:=f.2;obtain⟨D,s⟩:=(j (by simp[gapNo])).mo k m rfl;have E:=dv_lt (ts.getD (k-1) []) s;have F:10^(ts.getD (k-1) []).length<=10^12:=Km (by decide) o;have u:=z2r 13 (Fi (ts.getD (k-1) [])+m) (by lia);show(wn _ _).length<=100;lia
 |cnt w =>
  have:=f.2;have g:=x2a w (dg cn);have u:=z2r 13 cn (by lia);show(wn w (dg cn)).length<=100;lia
 |into=>exact Ba _
def neg_at(i)(l):atI (vN (i++[l])) (-1)=some (.str (mk l)):=by
 have e:vN (i++[l])=vN i++[V.str (mk l)]:=by grind
 rw[e];unfold atI ixN;rw[if_neg (by decide),if_pos (by rw[Af,Bi];lia)];have h:((-1:Int)+((vN i++[V.str (mk l)]).length:Int)).toNat=(vN i).length:=by grind
 show(vN i++[V.str (mk l)])[((-1:Int)+((vN i++[V.str (mk l)]).length:Int)).toNat]?=_;rw[h,Dx (Aj _),Oi];rfl
def neg_ix(i)(l):ixN (vN (i++[l])).length (-1)=some i.length:=by
 unfold ixN;rw[if_neg (by decide),Ae,Af,Bi,if_pos (by lia)];congr 1;lia
def x5k(i)(l m):(vN (i++[l])).set i.length (.str (mk m))=vN (i++[m]):=by simp_all
noncomputable abbrev z0z:Stmt:=top 59
def sc_tells:FnScope ["rule", "name", "count", "gap_texts", "texts", "piece"] Z8 (defScope z0z):=by trivial
def x5l(D:Df K mg "tells" z0z Z8)(T:Txt mg)(C:CallsTl P w K mg base):Cal P w K mg base "tells" 8 Z8 (spTells K):=by
 refine D.cal sc_tells (λvs H Q E h=>?_) (λf e1 A outer s H vs Q E hr h=>?_)
 ·obtain⟨R,kd,l,qs,st,n,B,rfl,_⟩:=h;rfl
 ·obtain⟨R,kd,l,qs,st,n,B,rfl,F,b5,d1,b6,kN,kS⟩:=h;refine⟨_,(q0b (q0y (pe_c C.ask_rule hr (q0a (pv 0) q0d))) (q0b (q0l (i:=3) sc_tells.nd rfl (by trivial) (pe_c C.reading hr (q0a (q0w (ix_k K rfl) (pv 0) q0f (λ_ _=>rfl)) (q0a (pv 1) q0d)))) (q0b (q0t (q3r (q8s (pv 3))) (q0e (q0m z1v)) q0j) (q0b (q0l (i:=4) sc_tells.nd rfl (by trivial) (q1p (q0a q0i q0d))) (q0b (q1g Bj rfl (@q2i _ _ _ _ K rfl (pe_c C.pieces_of hr (q0a (q0w (ix_k K rfl) (pv 0) q0f (λ_ _=>rfl)) q0d))) (q0k (i:=5) sc_tells.nd rfl (by trivial)) (q0e (q0t (q0h (eq_k K rfl hr) (pv 5) (q0v (q0a q0i q0d)) (nomark _)) (q0e (q0y (@bm_k _ _ _ _ _ _ _ _ _ _ _ _ K rfl Bz Cu Cv q1i (pv 4) (q0a q0i q0d) (by rfl) (by rfl) (by rfl) (by rfl) (by rfl)))) (q0e (x8e (pv 4) (q4o q2l q0f) (get_k K rfl) (pe_c C.piece_text hr (q0a (pv 5) (q0a (pv 3) (q0a (pv 2) q0d)))) q4t q6m))))) (q0e (q0m (q1u (x8t K rfl) (by rfl) T.b_tuple (by trivial) (q0a (pv 4) q0d))))))))),?_⟩;show tSeq _ _ _ _ _;refine gE λd9 b7 I a5=>?_
  refine⟨_,rfl,R,kd,l,qs,st,rfl,F,λH1 a6=>?_⟩;show b7 _ _ _;refine gY a5 λa3 J=>?_;have b8:=F.same a6;refine⟨_,rfl,.inr (.inl ⟨R,_,1,_,rfl,rfl,SqT.of b8.at_,rfl,_,rfl,l,n,rfl,F.good,by lia,λhf H2 Z=>?_,λa4 G H2 hG Z a7=>?_⟩)⟩
  ·show a3 _ _ _;subst J;subst I;exact⟨_,rfl,true,rfl,iteT (kN hf _ (a6.trans Z))⟩
  show a3 _ _ _;refine gY2 J λb9 a8=>?_;obtain⟨c0,d2,e2,c1⟩:=x6x n (parse [] l) 0 a4;have k:=kS a4;generalize e3:rd n (parse [] l) 0=u at *;refine⟨_,rfl,false,rfl,iteF ?_⟩;refine⟨by show 1<=sizeLine;decide,λL hL=>?_⟩;show b9 _ _ _;refine gY a8 λc2 a9=>?_;have e0:Ab "" = mk []:=by trivial
  have s3:=(Same.refl H2).new (o:=.lst [.str (Ab "")]) hL;have d3:=(b8.same Z).same s3;refine⟨_,rfl,.inr (.inl ⟨R,_,2,_,rfl,rfl,SqT.of d3.at_,rfl,qs,rfl,F.wp,λM H4 hM b0 c3=>.inl ⟨M,rfl,c3.sq,?_⟩⟩)⟩;obtain⟨Us,u1,u2⟩:=c3.ex;have d4:=u2.len;have e4:=Ay (show qs.length<=(flatP qs).length from by
   have:∀qs:List Pc,(∀p∈qs,p.ok)->qs.length<=(flatP qs).length:=by
    intro qs;induction qs with
    |nil=>intro _;exact Aj _
    |cons q r ih =>
     intro hq;have h1:=ih λp hp=>hq p (Ak _ hp);have h2:=Bw.mpr (x1w (hq q Al));rw[q0s,Af,Bc];lia
   exact this qs F.wp.ok) F.wp.sz
  have sA:=(a6.trans Z)
  have c4:M≠L:=λz=>by rw[z,q0c] at hM;cases hM
  have c5:G≠L:=λz=>by rw[z] at a7;rw[a7] at hL;cases hL
  have d5:H4 G=some (.lst (vN u)):=b0 _ _ (s3 _ _ a7);refine q1x (xs:=Us.map V.ref) (λi a0 W=>∃x5,a0=[some (.ref R),some (.str (mk n)),some (.int (B:Int)),some (.ref G),some (.ref L),x5]/\Same H2 W/\W L=some (.lst (vN (tellT u B (qs.take i))))/\(∀T xs,H4 T=some (.tup xs)->W T=some (.tup xs))/\W M=some (.lst (Us.map V.ref))/\W G=some (.lst (vN u))/\(∀t∈tellT u B (qs.take i),t.length<=100*i)/\i<=qs.length)
   ⟨none,rfl,s3.trans b0,by rw[Ih];show H4 L=some (.lst [.str (mk [])]);rw[<- e0];exact b0 _ _ q0c,λ_ _ e=>e,u1,d5,λt X=>(by rw[Ih] at X;rw[Ao.mp X];exact Ba _),Ba _⟩ (λi a0 W _ ⟨_,_,_,_,_,e,_⟩=>SqL.of e) ?_ ?_
  ·rintro i x a0 W hx ⟨x5,rfl,O,g,kt,b1,a1,j,hi⟩;obtain⟨T1,d6,rfl⟩:∃T,Us[i]?=some T/\x=.ref T:=by
    rw[Be] at hx;cases hz:Us[i]? with
    |none=>rw[hz] at hx;cases hx
    |some T=>rw[hz] at hx;cases hx;exact⟨T,rfl,rfl⟩
   obtain⟨p,b2,X⟩:=u2.get d6;have S:=Ar b2;have hi':=(Ap.mp b2).1;have a2:qs.take (i+1)=qs.take i++[p]:=by rw[Fu,b2];rfl
   have d7:=x1z u B (qs.take i);rw[Cg] at d7;refine⟨_,rfl,by show 1<=sizeLine;decide,λE0 b3=>?_⟩;have v:=(Same.refl W).new (o:=.tup [.str (Ab "into")]) b3;have keepL:∀(ys:List V) (T2:Addr) (xs:List V),H4 T2=some (.tup xs)->upd (upd W E0 (.tup [.str (Ab "into")])) L (.lst ys) T2=some (.tup xs):=by
    intro ys T2 xs e;have:=v _ _ (kt _ _ e);rw[q0g (λz=>by rw[z,v _ _ g] at this;cases this)];exact this
   refine .inr ⟨_,_,.tup (SqT.of (v _ _ (kt _ _ X))) (Pc.dts _),.tup (SqT.of q0c) (.cons (.str _) .nil),Pc.lay (F.wp.ok _ S),by trivial,?_,_,rfl,?_⟩
   ·refine Ay (Rn _ _) ?_;decide +kernel
   by_cases c6:pcI p=true
   ·have d8:p=.into:=by cases p<;>first|rfl|cases c6
    subst d8;rw[show Dg (.tuple (Pc.ds .into)) (.tuple [.str (Ab "into")])=true from by trivial];refine iteT ?_;refine⟨_,rfl,.inl ⟨rfl,⟨_,SqL.of (v _ _ g)⟩⟩,L,_,_,rfl,rfl,v _ _ g,by rw[Ae];exact TX.small' (by lia),?_⟩;have eL:vN (tellT u B (qs.take i))++[V.str (Ab "")]=vN (tellT u B (qs.take (i+1))):=by
     rw[a2,q3b,q9k,e0];show _=(_++[[]]).map _;rw[Bb];rfl
    refine⟨_,rfl,(O.new b3).put hL,by rw[q0c,eL],keepL _,by rw[q0g c4];exact v _ _ b1,by rw[q0g c5];exact v _ _ a1,λt U=>?_,hi'⟩;rw[a2,q3b,q9k] at U;rcases Au.mp U with z|z
    ·have:=j t z;lia
    ·rw[Ao.mp z];exact Ba _
   ·have hpi':pcI p=false:=by simpa using c6
    rw[z6u (z8q hpi')];refine iteF ?_;have ao:=F.ask p S;have c7:GTx u p:=⟨λY c8=>⟨(ao.gp Y c8).1,by rw[c0];exact(ao.gp Y c8).2⟩,λt X=>⟨Ay (c1 t X) b5,d1 t X⟩,λY m hz=>by
     have hg:=ao.mo Y m hz;obtain⟨o1,o2⟩:=ao.gp Y (by rw[hz];rfl);have c9:Y-1<u.length:=by rw[c0];lia
     have e:u.getD (Y-1) []=u[Y-1]:=by rw[Gh,Bv c9];rfl
     have:=d2 (Y-1) 35 u[Y-1] hg (Bv c9);unfold gapTakes at this;rw[if_neg (by decide),if_pos rfl] at this;rw[e];exact allOf_iff.mp this⟩
    obtain⟨ini,la,b4⟩:=z8p u B (qs.take i);rw[b4] at g j;refine⟨_,rfl,_,rfl,L,_,-1,_,rfl,rfl,SqL.of (v _ _ g),neg_at ini la,?_⟩;refine⟨_,rfl,_,rfl,_,rfl,T1,G,p,u,B,rfl,v _ _ (kt _ _ X),F.wp.ok _ S,hpi',v _ _ a1,c7,b6,?_⟩;have e5:=j0c (cn:=B) (F.wp.ok _ S) b6 (λt X=>Ay (c1 t X) b5) (Ay (wr_le S) F.wp.sz) λ_=>c7
    have e6:=j la (by simp);refine⟨_,_,rfl,rfl,TX.small (by rw[q0o,q0o];lia),L,_,_,_,rfl,rfl,v _ _ g,neg_ix ini la,?_⟩;rw[x5i,x5k];refine⟨_,rfl,(O.new b3).put hL,?_,keepL _,by rw[q0g c4];exact v _ _ b1,by rw[q0g c5];exact v _ _ a1,λt U=>?_,hi'⟩
    ·rw[q0c,a2,q3b,b4,q2r hpi']
    ·rw[a2,q3b,b4,q2r hpi'] at U;rcases Au.mp U with z|z
     ·have:=j t (Bu _ z);lia
     ·rw[Ao.mp z,Af];lia
  ·rintro a0 W ⟨x5,rfl,O,g,kt,b1,a1,j,hi⟩;show c2 _ _ _;subst a9;rw[Ae,d4,Ci] at g;refine⟨_,rfl,L,_,rfl,.inl ⟨SqL.of g,λT5 d0=>?_⟩⟩;subst I;exact k T5 _ (sA.free (O.free d0)) ((sA.trans O).new d0) q0c
structure RD where
 kd:Str
 l:List Nat
 qs:List Pc
 st:Nat
noncomputable def pcB:Pc->Nat
 |.tx l=>l.length
 |.into=>0
 |_=>13
noncomputable def wsz(qs:List Pc):Nat:=(qs.map pcB).sum
structure ROk (r:RD):Prop where
 st:r.st<=1000000000
 io:(r.qs.filter pcI).length<=10
 nm:∀q∈r.qs,isMo q=false
 pk:∀q∈r.qs,q.ok
 sz:wsz r.qs<=100
noncomputable def tellO(r:RD)(n:List Nat)(cn:Nat):Option (List (List Nat)):=if fits n (parse [] r.l) 0 then some (tellT (rd n (parse [] r.l) 0) cn r.qs) else none
noncomputable def TsOk(ts:List (List Nat)):Prop:=ts≠[]/\ts.length<=20/\∀t∈ts,t.length<=100/\∀c∈t,c∈NS
def x7p{w}(h:c∈wn w t):c=48\/c∈t:=by
 rcases Au.mp h with z|z
 ·grind
 ·exact .inr z
def wn_le{w}(f:w<=n)(g:t.length<=n):(wn w t).length<=n:=by
 unfold wn;rw[Af,Nd];lia
def fi_ns:∀c∈FI,c∈NS:=by trivial
def up_ns:∀c∈NS,up1 c∈NS:=by trivial
def j0d:∀c∈NS,lo1 c∈NS:=by trivial
def x2b{ts:List (List Nat)}{f:List Nat->Prop}(h:∀t∈ts,f t)(g:f []):f (ts.getD k []):=by
 rw[Gh];cases hz:ts[k]? with
 |none=>exact g
 |some t=>exact h t (Ar hz)
def pct_ok(j:p.ok)(f:cn<=10^12)(s:isMo p=false)(u:pcI p=false)(h:∀t∈ts,t.length<=12/\∀c∈t,c∈NS):(pcText ts cn p).length<=pcB p/\∀c∈pcText ts cn p,c∈NS:=by
 have g:∀k,(ts.getD k []).length<=12/\∀c∈ts.getD k [],c∈NS:=λk=>x2b h ⟨Ba _,λ_ h=>nomatch h⟩;cases p with
 |into=>cases u
 |more k m=>cases s
 |tx t=>exact⟨Aj _,j.2⟩
 |gap k=>exact⟨Ay (g (k-1)).1 (by show 12<=13;decide),(g (k-1)).2⟩
 |great k =>
  refine⟨?_,λc f=>?_⟩
  ·show((ts.getD (k-1) []).map up1).length<=13;have:=(g (k-1)).1;rw[Ae];lia
  ·obtain⟨x,o,rfl⟩:=Az.mp (show c∈(ts.getD (k-1) []).map up1 from f);exact up_ns _ ((g (k-1)).2 x o)
 |small k =>
  refine⟨?_,λc f=>?_⟩
  ·show((ts.getD (k-1) []).map lo1).length<=13;have:=(g (k-1)).1;rw[Ae];lia
  ·obtain⟨x,o,rfl⟩:=Az.mp (show c∈(ts.getD (k-1) []).map lo1 from f);exact j0d _ ((g (k-1)).2 x o)
 |nou k v =>
  have B:=j.2.2;have:=(g (k-1)).1;refine⟨wn_le (n:=13) (by lia) (by lia),λc f=>?_⟩;rcases x7p (show c∈wn v (ts.getD (k-1) []) from f) with rfl|z
  ·decide +kernel
  ·exact(g (k-1)).2 c z
 |cnt v =>
  have B:=j.2;have:=z2r 12 cn (by lia);refine⟨wn_le (n:=13) (by lia) (by lia),λc f=>?_⟩;rcases x7p (show c∈wn v (dg cn) from f) with rfl|z
  ·decide +kernel
  ·exact fi_ns _ (x0i cn c z)
theorem z5g(g:cn<=10^12)(h:∀t∈ts,t.length<=12/\∀c∈t,c∈NS):∀{qs} {acc} {n},(∀q∈qs,q.ok/\isMo q=false)->acc≠[]->(∀t∈acc,t.length<=n/\∀c∈t,c∈NS) ->
  qs.foldl (stepT ts cn) acc≠[]/\(qs.foldl (stepT ts cn) acc).length<=acc.length+(qs.filter pcI).length/\∀t∈qs.foldl (stepT ts cn) acc,t.length<=n+wsz qs/\∀c∈t,c∈NS
 |[],acc,n,_,h0,ha=>⟨h0,Aj _,ha⟩
 |q::qs,acc,n,j,h0,ha=>by
  obtain⟨o,s⟩:=j q Al;have hq':=λp u=>j p (Ak _ u)
  rw[Ew];have C:wsz (q::qs)=pcB q+wsz qs:=rfl;cases hi:pcI q with
  |true =>
   have v:stepT ts cn acc q=acc++[[]]:=by unfold stepT;rw[if_pos hi]
   obtain⟨a,b,c⟩:=z5g g h (qs:=qs) (acc:=acc++[[]]) (n:=n) hq' (by simp) (λt f=>by
    rcases Au.mp f with z|z
    ·exact ha t z
    ·rw[Ao.mp z];exact⟨Ba _,λ_ h=>nomatch h⟩)
   rw[v];refine⟨a,?_,λt f=>⟨by have:=(c t f).1;lia,(c t f).2⟩⟩;rw[Af,Bi] at b;rw[Kn,if_pos hi,Bc];lia
  |false =>
   obtain⟨d,e⟩:=pct_ok (cn:=cn) o g s hi h;obtain⟨ini,la,rfl⟩:∃i l,acc=i++[l]:=⟨acc.dropLast,acc.getLast h0,(Ed h0).symm⟩
   rw[q2r hi];obtain⟨a,b,c⟩:=z5g g h (qs:=qs) (acc:=ini++[la++pcText ts cn q]) (n:=n+pcB q) hq' (by simp) (λt f=>by
    rcases Au.mp f with z|z
    ·have:=ha t (Bu _ z);exact⟨by lia,this.2⟩
    ·rw[Ao.mp z];have:=ha la (by simp);exact⟨by rw[Af];lia,λx B=>(Au.mp B).elim (this.2 x) (e x)⟩)
   refine⟨a,?_,λt f=>⟨by have:=(c t f).1;lia,(c t f).2⟩⟩;rw[Af,Bi] at b ⊢;rw[Kn,hi];simpa using b
theorem x7q:∀ ps   b ,∀t∈rd n ps b,t.length<=n.length
 |[],_,_,h=>by cases h
 |p::ps,b,t,h=>by
  unfold rd at h;rcases Au.mp h with z|z
  ·split at z
   ·rw[Ao.mp z];unfold cut;rw[Cg,Ca];lia
   ·cases z
  ·exact x7q ps _ t z
def q6t(ok:ROk r)(hn:n.length<=12/\∀c∈n,c∈NS)(g:cn<=10^12)(h:tellO r n cn=some ts):TsOk ts:=by
 unfold tellO at h;split at h
 ·obtain⟨a,b,c⟩:=z5g g (ts:=rd n (parse [] r.l) 0) (λt f=>⟨Ay (x7q _ _ t f) hn.1,λc g=>hn.2 c (z3y _ _ t f c g)⟩) (qs:=r.qs) (acc:=[[]]) (n:=0) (λq j=>⟨ok.pk q j,ok.nm q j⟩) (by simp) (λt f=>by rw[Ao.mp f];exact⟨Aj _,λ_ h=>nomatch h⟩);cases h;refine⟨a,Ay b (by have:=ok.io;show 1+_<=_;lia),λt f=>⟨by have:=(c t f).1;have:=ok.sz;lia,(c t f).2⟩⟩
 ·cases h
noncomputable def isCn:Pc->Bool
 |.cnt _=>true
 |_=>false
noncomputable def ptx:Pt->List Nat
 |.tx t=>t
 |.gp _=>[]
noncomputable def pcx:Pc->List Nat
 |.tx t=>t
 |.nou _ _=>[48]
 |_=>[]
noncomputable def txO(r:RD):List Nat:=((parse [] r.l).map ptx).flatten++(r.qs.map pcx).flatten
noncomputable def nmd(t:List Nat):List Nat:=NS.filter λc=>decide (lo1 c∈t.map lo1)
structure CRule (K) (H) (R) (r:RD):Prop where
 at_:RuleAt K H R r.kd r.l r.qs (r.st:Int)
 ok:ROk r
 nc:∀q∈r.qs,isCn q=false
 tx:(txO r).length<=1000
def CRule.same(h:CRule K H R r)(s:Same H H'):CRule K H' R r:=⟨h.at_.same s,h.ok,h.nc,h.tx⟩
structure CallsAP (P) (w) (K) (mg) (base):Prop where
 pieces_of:Cal P w K mg base "pieces_of" 6 Yo spPieces
 parts_of:Cal P w K mg base "parts_of" 2 Zv spPartsOf
noncomputable def spAP(K:Ai):Sp:=λvs H Q _=>∃R r,vs=[.ref R]/\CRule K H R r/\∀H',Same H H'->Q .non H'
def wd_pc(p):∃x r,p.vs=.str x::r/\(inV (.str x) [.str (Ab "more"),.str (Ab "count")]=(isMo p||isCn p)):=by
 cases p<;>refine⟨_,_,rfl,?_⟩<;>first|(show _=false;decide +kernel)|(show _=true;decide +kernel)
noncomputable abbrev q3m:Stmt:=top 63
def sc_ask_pieces:FnScope ["rule", "piece"] Zz (defScope q3m):=by trivial
def z1a(D:Df K mg "ask_pieces" q3m Zz)(T:Txt mg)(C:CallsAP P w K mg base):Cal P w K mg base "ask_pieces" 7 Zz (spAP K):=by
 refine D.cal sc_ask_pieces (λvs H Q E h=>?_) (λf M A outer s H vs Q E O h=>?_)
 ·obtain⟨R,r,rfl,_⟩:=h;rfl
 ·obtain⟨R,r,rfl,o,k⟩:=h;refine⟨_,(q0e (q1g Bj rfl (@q2i _ _ _ _ K rfl (pe_c C.pieces_of O (q0a (q0w (ix_k K rfl) (pv 0) q0f (λ_ _=>rfl)) q0d))) (q0k (i:=1) sc_ask_pieces.nd rfl (by trivial)) (q0e (q0t (q0h (in_k K rfl) (q0w (ix_k K rfl) (pv 1) q0f (λ_ _=>rfl)) (q0v (q0a q0i (q0a q0i q0d))) (by with_unfolding_all rfl)) (q0e q1l) q0j)))),?_⟩;refine⟨_,rfl,.inr (.inl ⟨R,_,2,_,rfl,rfl,SqT.of o.at_.at_,q1n rfl,r.qs,rfl,o.at_.wp,λL S hL W X=>?_⟩)⟩;obtain⟨Ts,I,Y⟩:=X.ex;refine .inl ⟨L,rfl,⟨_,SqL.of I⟩,?_⟩;refine q1x (λi g u=>∃x,g=[some (.ref R),x]/\Same S u) ⟨none,rfl,Same.refl _⟩ (λi g u _ x=>by obtain⟨_,_,s⟩:=x;exact SqL.of (s _ _ I)) ?_ ?_
  ·rintro i x g u J ⟨y,rfl,v⟩;rw[Be] at J;obtain⟨Z,B,rfl⟩:=Bh.mp J;obtain⟨p,F,G⟩:=Y.get B;obtain⟨wd,rs,e1,e2⟩:=wd_pc p;have j:=Ar F;refine⟨_,rfl,.inr (.inl ⟨Z,_,0,.str wd,rfl,rfl,SqT.of (v _ _ G),by rw[e1];exact q1n rfl,?_⟩)⟩;refine⟨by decide,λU hU=>?_⟩;refine .inr ⟨U,_,rfl,.inr (SqT.of q0c),rfl,by trivial,_,rfl,?_⟩;rw[e2,o.ok.nm p j,o.nc p j];exact iteF ⟨_,rfl,v.new hU⟩
  ·rintro g u ⟨y,rfl,v⟩;exact k _ (W.trans v)
structure PX (vs:List V) (t):Prop where
 ex:∃x r,vs=.str x::r/\((decide (V.str x=V.str (Ab "text"))=true/\decide (V.str x=V.str (Ab "noughts"))=false/\r=[.str (mk t)])\/(decide (V.str x=V.str (Ab "text"))=false/\decide (V.str x=V.str (Ab "noughts"))=true/\t=[48])\/(decide (V.str x=V.str (Ab "text"))=false/\decide (V.str x=V.str (Ab "noughts"))=false/\t=[]))
def px_pt(p):PX p.vs (ptx p):=by
 cases p with
 |tx t=>exact⟨Ab "text",_,rfl,.inl ⟨by trivial,by trivial,rfl⟩⟩
 |gp c=>exact⟨Ab "gap",_,rfl,.inr (.inr ⟨by trivial,by trivial,rfl⟩)⟩
def px_pc(p):PX p.vs (pcx p):=by
 cases p with
 |tx t=>exact⟨_,_,rfl,.inl ⟨by trivial,by trivial,rfl⟩⟩
 |nou k w=>exact⟨_,_,rfl,.inr (.inl ⟨by trivial,by trivial,rfl⟩)⟩
 |_=>exact⟨_,_,rfl,.inr (.inr ⟨by trivial,by trivial,rfl⟩)⟩
def j0e{xs:List (List Nat)}:((xs.take i).flatten).length<=xs.flatten.length:=by
 have e:xs.flatten=(xs.take i).flatten++(xs.drop i).flatten:=by rw[<- Kx,Jp]
 rw[e,Af];lia
def q3n(x y):mk x++mk y=mk (x++y):=by
 apply ext;rw[q2o,q0x,q0x,q0x]
noncomputable def spTextOf(K:Ai):Sp:=λvs H Q _=>∃R r,vs=[.ref R]/\CRule K H R r/\∀H',Same H H'->Q (.str (mk (txO r))) H'
noncomputable abbrev q5t:Stmt:=top 64
def sc_text_of:FnScope ["rule", "text", "part"] Zz (defScope q5t):=by trivial
def z8r(D:Df K mg "text_of" q5t Zz)(T:Txt mg)(C:CallsAP P w K mg base):Cal P w K mg base "text_of" 7 Zz (spTextOf K):=by
 refine D.cal sc_text_of (λvs H Q E h=>?_) (λf a6 A outer s H vs Q E hr h=>?_)
 ·obtain⟨R,r,rfl,_⟩:=h;rfl
 ·obtain⟨R,r,rfl,B,k⟩:=h;refine⟨_,(q0b (q0l (i:=1) sc_text_of.nd rfl (by trivial) q0i) (q0b (q1g Bj rfl (@q2i _ _ _ _ K rfl (q0u q0n (pe_c C.parts_of hr (q0a (q0w (ix_k K rfl) (pv 0) q0f (λ_ _=>rfl)) q0d)) (pe_c C.pieces_of hr (q0a (q0w (ix_k K rfl) (pv 0) q0f (λ_ _=>rfl)) q0d)))) (q0k (i:=2) sc_text_of.nd rfl (by trivial)) (q2n (q0t (q0h (eq_k K rfl hr) (q0w (ix_k K rfl) (pv 2) q0f (λ_ _=>rfl)) q0i (nomark _)) (q0e (z5y (i:=1) sc_text_of.nd rfl (by trivial) (q0w (ix_k K rfl) (pv 2) q0f (λ_ _=>rfl)) q4t)) q0j) (q0e (q0t (q0h (eq_k K rfl hr) (q0w (ix_k K rfl) (pv 2) q0f (λ_ _=>rfl)) q0i (nomark _)) (q0e (z5y (i:=1) sc_text_of.nd rfl (by trivial) q0i q4t)) q0j)))) (q0e (q0m (pv 1))))),?_⟩;refine⟨_,rfl,.inr (.inl ⟨R,_,1,_,rfl,rfl,SqT.of B.at_.at_,q1n rfl,r.l,rfl,B.at_.good,λL1 H1 a7 s1 a2=>?_⟩)⟩;have M:=B.at_.same s1;refine⟨_,rfl,.inr (.inl ⟨R,_,2,_,rfl,rfl,SqT.of M.at_,q1n rfl,r.qs,rfl,M.wp,λL2 I a8 s2 a3=>?_⟩)⟩;obtain⟨j,t1,t2⟩:=(a2.same s2).ex;obtain⟨J,u1,u2⟩:=a3.ex;have O:=t2.len;have a9:=u2.len;have b0:=q7m r.l [];have b1:=B.at_.good.len;have b2:r.qs.length<=100:=by
   have:=B.at_.wp.sz;have hq:∀qs:List Pc,(∀q∈qs,q.ok)->qs.length<=(flatP qs).length:=by
    intro qs;induction qs with
    |nil=>grind
    |cons q r ih =>
     intro hq;have h1:=Bw.mpr (x1w (hq q Al));have h2:=ih λx hx=>hq x (Ak _ hx);rw[q0s,Af,Bc];lia
   exact Ay (hq r.qs B.at_.wp.ok) this
  refine .inr (.inr ⟨L1,L2,_,_,rfl,rfl,t1,u1,small (by rw[Ae,Ae];lia),λL3 a4=>?_⟩);have s3:=(Same.refl I).new (o:=.lst (j.map V.ref++J.map V.ref)) a4;have h3:upd I L3 (.lst (j.map V.ref++J.map V.ref)) L3=some (.lst ((j++J).map V.ref)):=by rw[q0c,Bb]
  generalize upd I L3 (.lst (j.map V.ref++J.map V.ref))=H3 at s3 h3;have sA:=(s1.trans s2).trans s3;have u:∀(i:Nat) (U:Addr),(j++J)[i]?=some U->∃vs t,H3 U=some (.tup vs)/\PX vs t/\(((parse [] r.l).map ptx)++(r.qs.map pcx))[i]?=some t:=by
   intro i U L;by_cases hi:i<j.length
   ·rw[Er hi] at L;obtain⟨_,p,ex,hp,F⟩:=t2.get (show(j.map V.ref)[i]?=some (.ref U) by rw[Be,L];rfl);cases ex;exact⟨_,_,s3 _ _ F,px_pt p,by rw[Er (by rw[Ae,<- O];exact hi),Be,hp];rfl⟩
   ·rw[Dx (by lia)] at L;obtain⟨p,hp,F⟩:=u2.get L;exact⟨_,_,s3 _ _ F,px_pc p,by rw[Dx (by rw[Ae];lia),Ae,<- O,Be,hp];rfl⟩
  have a5:txO r=(((parse [] r.l).map ptx)++(r.qs.map pcx)).flatten:=by unfold txO;rw[Kx]
  have S:=B.tx;rw[a5] at k S;have W:(((parse [] r.l).map ptx)++(r.qs.map pcx)).length=(j++J).length:=by grind
  generalize ((parse [] r.l).map ptx)++(r.qs.map pcx)=v at k u W S;refine .inl ⟨L3,rfl,⟨_,SqL.of h3⟩,?_⟩;refine q1x (λi g X=>(∃x,g=[some (.ref R),some (.str (mk ((v.take i).flatten))),x])/\X=H3) ⟨⟨none,rfl⟩,rfl⟩ (λi g X _ x=>by rw[x.2];exact SqL.of h3) ?_ ?_
  ·rintro i x g X hx ⟨⟨y,rfl⟩,rfl⟩;rw[Be] at hx;obtain⟨U,L,rfl⟩:=Bh.mp hx;obtain⟨vs,t,F,⟨G,rs,rfl,hc⟩,ht⟩:=u i U L;have Y:=j0e (xs:=v) (i:=i+1);have e1:(v.take (i+1)).flatten=(v.take i).flatten++t:=by rw[Fu,ht,Kx];simp
   rw[e1,Af] at Y;have Z:atI (V.str G::rs) 0=some (.str G):=q1n rfl;refine⟨λa0 I=>(∃z,a0=[some (.ref R),some (.str (mk z)),some (.ref U)]/\(decide (V.str G=V.str (Ab "noughts"))=false->z=(v.take i).flatten++t)/\(decide (V.str G=V.str (Ab "noughts"))=true->z=(v.take i).flatten/\t=[48]))/\I=X,?_,?_⟩
   ·rintro a0 I ⟨⟨z,rfl,hz1,hz2⟩,rfl⟩;refine⟨_,rfl,.inr (.inl ⟨U,_,0,.str G,rfl,rfl,SqT.of F,Z,.inl ⟨rfl,_,rfl,?_⟩⟩)⟩;cases hb:decide (V.str G=V.str (Ab "noughts")) with
    |true =>
     obtain⟨rfl,rfl⟩:=hz2 hb;have a1:Ab "0" = mk [48]:=by trivial
     refine iteT ⟨_,rfl,_,_,rfl,rfl,by rw[a1,q0o,q0o];exact small (by lia),⟨some (.ref U),by rw[a1,q3n,e1];rfl⟩,rfl⟩
    |false =>
     rw[hz1 hb];exact iteF ⟨⟨_,by rw[e1]⟩,rfl⟩
   ·refine⟨_,rfl,.inr (.inl ⟨U,_,0,.str G,rfl,rfl,SqT.of F,Z,.inl ⟨rfl,_,rfl,?_⟩⟩)⟩;rcases hc with⟨c1,c2,rfl⟩|⟨c1,c2,rfl⟩|⟨c1,c2,rfl⟩
    ·rw[c1,c2];refine iteT ⟨_,rfl,_,rfl,.inr (.inl ⟨U,_,1,.str (mk t),rfl,rfl,SqT.of F,q1n rfl,?_⟩)⟩;exact⟨_,_,rfl,rfl,by rw[q0o,q0o];exact small (by lia),⟨(v.take i).flatten++t,by rw[q3n];rfl,λ_=>rfl,λz=>(by cases z)⟩,rfl⟩
    ·rw[c1,c2];exact iteF ⟨⟨_,rfl,λz=>(by cases z),λ_=>⟨rfl,rfl⟩⟩,rfl⟩
    ·rw[c1,c2];exact iteF ⟨⟨_,rfl,λ_=>(Cd _).symm,λz=>(by cases z)⟩,rfl⟩
  ·rintro g X ⟨⟨y,rfl⟩,rfl⟩;refine⟨_,rfl,?_⟩;have:=k _ sA;rw[Ae,<- W,Ci];exact this
def q6e:∀c∈NS,c<128:=by trivial
def q9l(h:CRule K H R r):∀c∈txO r,c∈NS:=by
 intro c s;rcases Au.mp s with z|z
 ·obtain⟨t,j,f⟩:=Hg.mp z;obtain⟨p,o,rfl⟩:=Az.mp j;cases p with
  |tx t=>exact(q5l r.l [] (λ_ h=>nomatch h) h.at_.good.sg _ o).2 c f
  |gp g=>cases f
 ·obtain⟨t,j,f⟩:=Hg.mp z;obtain⟨p,o,rfl⟩:=Az.mp j;cases p with
  |tx t=>exact(h.at_.wp.ok _ o).2 c f
  |nou k w=>rw[Ao.mp f];decide +kernel
  |_=>cases f
def q8b(h:∀c∈l,c<128):Pj (mk l)=mk (l.map lo1):=by
 apply ext;rw[lower (by rw[q0x];exact h),q0x,q0x]
noncomputable abbrev vC(l:List Nat):List V:=l.map λc=>V.str (mk [c])
noncomputable def spSignsOf(K:Ai):Sp:=λvs H Q _=>∃R S r q,vs=[.ref R,.ref S]/\CRule K H R r/\CRule K H S q/\∀L H',H L=none->Same H H'->H' L=some (.lst (vC (nmd (txO r++txO q))))->Q (.ref L) H'
def z1b{l:List Nat}(h:l[i]?=some c):vC ((l.take (i+1)).filter f)=if f c then vC ((l.take i).filter f)++[.str (mk [c])] else vC ((l.take i).filter f):=by
 rw[q1b h,Jc];cases e:f c<;>simp[Kn,e]
def ns_few:NS.length=65:=by trivial
noncomputable abbrev q5e:Stmt:=top 65
def sc_signs_of:FnScope ["one", "other", "text"] Zd (defScope q5e):=by trivial
def z5h(D:Df K mg "signs_of" q5e Zd)(T:Txt mg)(C:Cal P w K mg base "text_of" 7 Zz (spTextOf K)):Cal P w K mg base "signs_of" 8 Zd (spSignsOf K):=by
 refine D.cal sc_signs_of (λvs H Q E h=>?_) (λf Z A outer s H vs Q E W h=>?_)
 ·obtain⟨R,S,r,q,rfl,_⟩:=h;rfl
 ·obtain⟨R,S,r,q,rfl,G,sq,k⟩:=h;obtain⟨_,g⟩:=T.NAME_SIGNS;refine⟨_,(q0b (q0l (i:=2) sc_signs_of.nd rfl (by trivial) (@q4p _ _ _ _ _ _ _ _ _ K rfl Bo Dp Dq q2f (q0u q0n (pe_c C W (q0a (pv 0) q0d)) (pe_c C W (q0a (pv 1) q0d))) (by rfl) (by rfl))) (q0e (q0m (q4l ["sign"] [("text",2)] rfl (@q2i _ _ _ _ K rfl (q0z (v:=.str (Ab "abcdefghijklmnopqrstuvwxyzABCDEFGHIJKLMNOPQRSTUVWXYZ0123456789-_.")) (by rfl) g ⟨_,rfl⟩)) (λ_ _ _ _ _=>(q0k (i:=0) (show(["sign", "text"]:List Str).Nodup by trivial) rfl (by trivial))) (λ_ _ _ _ _=>(q4v (q0h (in_k K rfl) (@q4p _ _ _ _ _ _ _ _ _ K rfl Bo Dp Dq q2f (pv 0) (by rfl) (by rfl)) (pv 1) (by with_unfolding_all rfl)))) (λ_ _ _ _ _=>(pv 0)))))),?_⟩;have l1:=G.tx;have l2:=sq.tx;refine⟨_,rfl,R,r,rfl,G,λH1 X=>⟨_,rfl,S,q,rfl,sq.same X,λY s2=>?_⟩⟩;refine .inr (.inl ⟨_,_,rfl,rfl,by rw[q0o,q0o];exact small (by lia),?_⟩);rw[q3n];have j:=λc I=>q6e c ((Au.mp I).elim (q9l G c) (q9l sq c))
  refine⟨rfl,_,rfl,rfl,by rw[q0o,Af];exact small (by lia),?_⟩;rw[q8b j];have B:=X.trans s2;generalize txO r++txO q=t at k j;refine .inr (.inr ⟨_,rfl,λD J=>?_⟩);refine q9z (λi u F=>u=vC ((NS.take i).filter λc=>decide (lo1 c∈t.map lo1))/\Same Y F/\F D=some (.lst u)/\u.length<=i) ⟨rfl,(Same.refl Y).new J,q0c,Ba _⟩ (λi u F h=>h.2.2.1) ?_ ?_
  ·rintro i u F c I ⟨rfl,L,M,O⟩;have o:NS[i]?=some c:=get I;have hi:=(Ap.mp o).1;have U:=q6e c (Ar o);rw[ns_few] at hi;refine⟨q1q,_,rfl,rfl,_,rfl,rfl,by show 3*1<=_;exact small (by lia),?_⟩;rw[show Pj ⟨#[c]⟩=⟨#[lo1 c]⟩ from q8b (λx hx=>by rw[Ao.mp hx];exact U)];refine⟨_,rfl,.inl ⟨_,_,rfl,rfl,_,rfl,?_⟩⟩;rw[q3t,q0x,z1b o];cases hb:decide (lo1 c∈t.map lo1) with
   |true=>exact iteT ⟨_,rfl,M,small' (by lia),rfl,L.put J,q0c,by rw[Af];exact Gj O⟩
   |false=>grind
  ·rintro u F ⟨rfl,L,M,_⟩;exact k D _ (B.free J) (B.trans L) M
noncomputable def spBound:Sp:=λvs H Q _=>∃m n:Nat,vs=[.int (m),.int (n)]/\n<=4/\m<=100/\(m+4)^n<=1000/\Q .non H
noncomputable abbrev q4g:Stmt:=top 66
def sc_ask_bound:FnScope ["many", "most", "bound", "place"] Yn (defScope q4g):=by trivial
def z3z(D:Df K mg "ask_bound" q4g Yn)(T:Txt mg):Cal P w K mg base "ask_bound" 1 Yn spBound:=by
 refine D.cal sc_ask_bound (λvs H Q E h=>?_) (λf u A outer s H vs Q E F h=>?_)
 ·obtain⟨m,n,rfl,_⟩:=h;rfl
 ·obtain⟨m,n,rfl,hn,G,B,k⟩:=h;obtain⟨_,g⟩:=T.MOST_NAMES_ASKED;refine⟨_,(q0b (q0l (i:=2) sc_ask_bound.nd rfl (by trivial) q0f) (q0b (q1g Bj rfl (q1w rfl T.b_range (q0a (pv 1) q0d)) (q0k (i:=3) sc_ask_bound.nd rfl (by trivial)) (q0e (q0l (i:=2) sc_ask_bound.nd rfl (by trivial) (q0u q7j (pv 2) (q0u q0n (pv 0) q0f))))) (q0e (q0t (q0h q6h (pv 2) (q0z (v:=.int 1000) (by rfl) g ⟨_,rfl⟩) (nomark _)) (q0e q1l) q0j)))),?_⟩;refine⟨_,rfl,(n:Int),rfl,by lia,by lia,q1y (n:=n) (λi j o=>(∃x,j=[some (.int (m:Int)),some (.int (n:Int)),some (.int (((m+4)^i:Nat):Int)),x])/\o=H) ⟨⟨none,rfl⟩,rfl⟩ ?_ ?_⟩
  ·rintro i j o hi ⟨⟨x,rfl⟩,rfl⟩;have C:(m+4)^i<=1000:=Ay (Km (by lia) (by lia)) B;refine⟨_,rfl,_,rfl,.inl ⟨_,_,rfl,rfl,.inl ⟨_,_,rfl,rfl,.inl ⟨by lia,by lia⟩,?_⟩⟩⟩;have e:(((m+4)^i:Nat):Int)*((m:Int)+4)=(((m+4)^(i+1):Nat):Int):=by grind
   exact⟨⟨_,congrArg (λz=>[some (V.int (m:Int)),some (V.int (n:Int)),some (V.int z),_]) e⟩,rfl⟩
  ·rintro j o ⟨⟨x,rfl⟩,rfl⟩;refine⟨_,rfl,_,_,rfl,rfl,_,rfl,?_⟩;rw[decide_eq_false (by lia)];exact iteF k
noncomputable def SO0:List Nat:=tl (Ab "0123456789")
noncomputable def SO1:List Nat:=tl (Ab "abcdefghijklmnopqrstuvwxyz")
noncomputable def SO2:List Nat:=tl (Ab "-_.")
noncomputable def freeS(nm s:List Nat):List Nat:=s.filter λc => !decide (c∈nm)
noncomputable def useS(nm n s:List Nat):List Nat:=(freeS nm s).filter (λc=>decide (c∈n.map lo1))++((freeS nm s).filter (λc => !decide (c∈n.map lo1))).take 1
noncomputable def both(c:Nat):List Nat:=if up1 c=c then[c] else[c,up1 c]
noncomputable def otherS(nm n:List Nat):List Nat:=[SO0,SO1,SO2].flatMap λs=>(useS nm n s).flatMap both
def so_ns:∀s∈[SO0,SO1,SO2],∀c∈s,c∈NS/\up1 c∈NS:=by trivial
def so_len:∀s∈[SO0,SO1,SO2],s.length<=26:=by trivial
def z6w:∀c∈useS nm n s,c∈s:=λc f=>by
 rcases Au.mp f with z|z
 ·exact(Bt.mp (Bt.mp z).1).1
 ·exact(Bt.mp (Bt.mp (En z)).1).1
def x5m(h:s.length<=26):(useS nm n s).length<=27:=by
 unfold useS;rw[Af,Cg];have f:=Di (λc=>decide (c∈n.map lo1)) (freeS nm s);have g:(freeS nm s).length<=s.length:=Di _ _;lia
def x2c:∀c∈otherS nm n,c∈NS:=λc f=>by
 obtain⟨s,g,f⟩:=Hh.mp f;obtain⟨d,hd,f⟩:=Hh.mp f;have:=so_ns s g d (z6w d hd);unfold both at f;split at f
 ·simp_all
 ·rcases Av.mp f with rfl|f
  ·exact this.1
  ·grind
def z5i(h:c<128):Pk (⟨#[c]⟩:Str)=⟨#[up1 c]⟩:=by
 have:=Ro (x:=⟨#[c]⟩) (λx f=>(show x=c by simpa using f)▸h);rw[this];simp[tl]
def x5n{tk:List (List Nat)}:inV (.str (mk n)) (tk.map λn=>V.str (mk n))=decide (n∈tk):=by
 unfold inV;rw[List.any_map];cases h:decide (n∈tk) with
 |true=>exact List.any_eq_true.mpr ⟨n,of_decide_eq_true h,by show(mk n==mk n)=true;simp⟩
 |false =>
  refine Vy.mpr λx f e=>of_decide_eq_false h ?_;have g:=e;rw[<- SB.mk_inj (eq_of_beq g)];exact f
def inV_c(c)(nm):inV (.str (mk [c])) (vC nm)=decide (c∈nm):=by
 have e:vC nm=(nm.map λc=>[c]).map λn=>V.str (mk n):=by simp_all
 rw[e,x5n];refine decide_eq_decide.mpr ⟨λh=>?_,λh=>Az.mpr ⟨c,h,rfl⟩⟩;obtain⟨d,hd,z⟩:=Az.mp h;cases z;exact hd
def j0f(nm):(vC nm).all flatV=true:=Ik.mpr λv f=>by
 obtain⟨c,_,rfl⟩:=Az.mp f;rfl
def q8c{g j:Type}{l:List g}{f:g->List j}{x}(h:l[i]?=some x):(l.take (i+1)).flatMap f=(l.take i).flatMap f++f x:=by
 rw[Fu,h,Uy];simp
def z6x(a b):vC (a++b)=vC a++vC b:=Bb
def cutC1(l):cutV (vC l) none (some (1:Int))=vC (l.take 1):=by
 unfold cutV;have f:HT.sIx (vC l).length 0 none=0:=rfl;have g:HT.sIx (vC l).length (vC l).length (some (1:Int))=min 1 (vC l).length:=rfl;rw[f,g,Mb,Lo,<- List.take_take,Ci];exact Qi.symm
noncomputable def spOtherS(K:Ai):Sp:=λvs H Q _=>∃L nm n,vs=[.str (mk n),.ref L]/\H L=some (.lst (vC nm))/\n.length<=12/\(∀c∈n,c<128)/\∀M H',H M=none->Same H H'->H' M=some (.lst (vC (otherS nm n)))->Q (.ref M) H'
noncomputable abbrev q3a:Stmt:=top 67
def sc_other_signs:FnScope ["name", "named", "signs", "sort", "free", "used", "fresh", "sign"] Y9 (defScope q3a):=by trivial
def q8r(D:Df K mg "other_signs" q3a Y9)(T:Txt mg)(S:mg "SORTS" = some (.ref g))(hS:∀H,SqT K H g [.str (Ab "0123456789"),.str (Ab "abcdefghijklmnopqrstuvwxyz"),.str (Ab "-_.")]):Cal P w K mg base "other_signs" 1 Y9 (spOtherS K):=by
 refine D.cal sc_other_signs (λvs H Q E h=>?_) (λf e7 A outer s H vs Q E hr h=>?_)
 ·obtain⟨L,nm,n,rfl,_⟩:=h;rfl
 ·obtain⟨L,nm,n,rfl,hL,e8,a1,k⟩:=h;refine⟨_,(q0b (q0l (i:=2) sc_other_signs.nd rfl (by trivial) (q1p q0d)) (q0b (q1g Bj rfl (@q2i _ _ _ _ K rfl (q0z (v:=.ref g) (by rfl) S rfl)) (q0k (i:=3) sc_other_signs.nd rfl (by trivial)) (q0b (q9x (i:=4) ["sign"] [("named",1)] sc_other_signs.nd rfl (by trivial) rfl (@q2i _ _ _ _ K rfl (pv 3)) (λ_ _ _ _ _=>(q0k (i:=0) (show(["sign", "named"]:List Str).Nodup by trivial) rfl (by trivial))) (λ_ _ _ _ _=>(q4v (q0h (z9u K rfl) (pv 0) (pv 1) (by with_unfolding_all rfl)))) (λ_ _ _ _ _=>(pv 0))) (q0b (q9x (i:=5) ["sign"] [("name",0)] sc_other_signs.nd rfl (by trivial) rfl (@q2i _ _ _ _ K rfl (pv 4)) (λ_ _ _ _ _=>(q0k (i:=0) (show(["sign", "name"]:List Str).Nodup by trivial) rfl (by trivial))) (λ_ _ _ _ _=>(q4v (q0h (in_k K rfl) (pv 0) (@q4p _ _ _ _ _ _ _ _ _ K rfl Bo Dp Dq q2f (pv 1) (by rfl) (by rfl)) (by with_unfolding_all rfl)))) (λ_ _ _ _ _=>(pv 0))) (q0b (q9x (i:=6) ["sign"] [("name",0)] sc_other_signs.nd rfl (by trivial) rfl (@q2i _ _ _ _ K rfl (pv 4)) (λ_ _ _ _ _=>(q0k (i:=0) (show(["sign", "name"]:List Str).Nodup by trivial) rfl (by trivial))) (λ_ _ _ _ _=>(q4v (q0h (z9u K rfl) (pv 0) (@q4p _ _ _ _ _ _ _ _ _ K rfl Bo Dp Dq q2f (pv 1) (by rfl) (by rfl)) (by with_unfolding_all rfl)))) (λ_ _ _ _ _=>(pv 0))) (q0e (q1g Bj rfl (@q2i _ _ _ _ K rfl (q0u q0n (pv 5) (q1d (sl_k K rfl) (pv 6) q2h (q1a q0f)))) (q0k (i:=7) sc_other_signs.nd rfl (by trivial)) (q0b (q0y (@bm_k _ _ _ _ _ _ _ _ _ _ _ _ K rfl Bz Cu Cv q1i (pv 2) (q0a (pv 7) q0d) (by rfl) (by rfl) (by rfl) (by rfl) (by rfl))) (q0e (q0t (q0h (ne_k K rfl hr) (@q4p _ _ _ _ _ _ _ _ _ K rfl Bo Jg Jh q6n (pv 7) (by rfl) (by rfl)) (pv 7) (nomark _)) (q0e (q0y (@bm_k _ _ _ _ _ _ _ _ _ _ _ _ K rfl Bz Cu Cv q1i (pv 2) (q0a (@q4p _ _ _ _ _ _ _ _ _ K rfl Bo Jg Jh q6n (pv 7) (by rfl) (by rfl)) q0d) (by rfl) (by rfl) (by rfl) (by rfl) (by rfl)))) q0j))))))))) (q0e (q0m (pv 2))))),?_⟩;show tSeq _ _ _ _ _;refine gE λe9 c8 b0 b1=>?_
  refine⟨by show 0<=sizeLine;decide,λM hM=>?_⟩;show c8 _ _ _;refine gY b1 λc9 b2=>?_;have s0:=(Same.refl H).new (o:=.lst []) hM;have h0:upd H M (.lst []) M=some (.lst (vC [])):=q0c;have f1:L≠M:=λz=>by rw[z,hM] at hL;cases hL
  generalize upd H M (.lst [])=H0 at s0 h0;refine .inr (.inl ⟨g,rfl,⟨_,hS _⟩,?_⟩);have a3:[V.str (Ab "0123456789"),.str (Ab "abcdefghijklmnopqrstuvwxyz"),.str (Ab "-_.")]=[SO0,SO1,SO2].map λt=>V.str (mk t):=by
   show _=[V.str (mk (tl _)),V.str (mk (tl _)),V.str (mk (tl _))]
   rw[z9x,z9x,z9x]
  refine x8f (xs:=[V.str (Ab "0123456789"),.str (Ab "abcdefghijklmnopqrstuvwxyz"),.str (Ab "-_.")]) (λi I B=>∃x3 x4 x5 x6 x7,I=[some (.str (mk n)),some (.ref L),some (.ref M),x3,x4,x5,x6,x7]/\Same H B/\B M=some (.lst (vC (([SO0,SO1,SO2].take i).flatMap λs=>(useS nm n s).flatMap both)))/\(([SO0,SO1,SO2].take i).flatMap λs=>(useS nm n s).flatMap both).length<=54*i) ⟨none,none,none,none,none,rfl,s0,h0,Aj _⟩ (λi I B _ x=>hS _) ?_ ?_
  ·rintro i x I H1 hx ⟨x3,x4,x5,x6,x7,rfl,s1,h1,e0⟩;show tSeq _ _ _ _ _;refine gE λf2 d0 a2 b3=>?_;rw[a3,Be] at hx;obtain⟨F,a4,rfl⟩:=Bh.mp hx;have f3:i<3:=(Ap.mp a4).1;have b4:=Ar a4;have b5:=so_len F b4;have d1:=so_ns F b4;have es:=q0o F;refine⟨_,rfl,.inr (.inr ⟨mk F,rfl,λD1 a5=>?_⟩)⟩;have d2:∀{Da:Addr} {Ha:Hp},Ha M=some (.lst (vC (([SO0,SO1,SO2].take i).flatMap λs=>(useS nm n s).flatMap both)))->Ha Da=none->M≠Da:=λe z y=>by rw[<- y,e] at z;cases z
   refine q9z (λj G B=>G=vC ((F.take j).filter λc => !decide (c∈nm))/\Same H1 B/\B D1=some (.lst G)/\G.length<=j) ⟨rfl,(Same.refl H1).new a5,q0c,Ba _⟩ (λj G B h=>h.2.2.1) ?_ ?_
   ·rintro j G B c hc ⟨rfl,Y,h',J⟩;have u:F[j]?=some c:=by have:=get hc;rw[q0x] at this;exact this
    have hj:=(Ap.mp u).1;refine⟨q1q,_,rfl,_,rfl,.inr ⟨L,_,rfl,.inl (SqL.of (Y _ _ (s1 _ _ hL))),rfl,j0f nm,_,rfl,?_⟩⟩;show if (!inV (.str (mk [c])) (vC nm))=true then _ else _
    rw[inV_c,z1b u];cases hb:decide (c∈nm) with
    |true=>exact iteF ⟨rfl,Y,h',Dy J⟩
    |false=>exact iteT ⟨_,rfl,h',small' (by lia),rfl,Y.put a5,q0c,by rw[Af];exact Gj J⟩
   rintro G H2 ⟨rfl,s2,h2,b6⟩;show d0 _ _ _;refine gY b3 λb7 a6=>?_;have e2:F.take (mk F).length=F:=by rw[es];exact Dl (Aj _)
   rw[e2] at h2 b6;have d3:(freeS nm F).length<=26:=Ay (Di _ _) b5;have d4:∀c∈freeS nm F,c∈F:=λc hc=>(Bt.mp hc).1;replace h2:H2 D1=some (.lst (vC (freeS nm F))):=h2;have C:useS nm n F=(freeS nm F).filter (λc=>decide (c∈n.map lo1))++((freeS nm F).filter (λc => !decide (c∈n.map lo1))).take 1:=rfl;have U:=x5m (nm:=nm) (n:=n) b5;have a7:=z6w (nm:=nm) (n:=n) (s:=F);rw[C] at U a7;generalize freeS nm F=fr at d3 d4 h2 C U a7;have f4:M≠D1:=d2 h1 a5;have h1':=s2 _ _ h1;refine⟨_,rfl,.inl ⟨D1,rfl,⟨_,SqL.of h2⟩,λD2 b8=>?_⟩⟩;refine q3v (xs:=vC fr) (λj G B=>G=vC ((fr.take j).filter λc=>decide (c∈n.map lo1))/\Same H2 B/\B D2=some (.lst G)/\G.length<=j) ⟨rfl,(Same.refl H2).new b8,q0c,Ba _⟩ (λj G B h=>⟨h.2.2.1,SqL.of (h.2.1 _ _ h2)⟩) ?_ ?_
   ·rintro j G B v hv ⟨rfl,Y,h',J⟩;rw[Be] at hv;obtain⟨c,u,rfl⟩:=Bh.mp hv;have hj:=(Ap.mp u).1;refine⟨q1q,_,rfl,_,rfl,rfl,_,rfl,rfl,by rw[q0o];exact small (by lia),?_⟩;rw[q8b a1];refine .inl ⟨_,_,rfl,rfl,_,rfl,?_⟩;rw[show mk [c]=(⟨#[c]⟩:Str) from rfl,q3t,q0x,z1b u];cases hb:decide (c∈n.map lo1) with
    |true=>exact iteT ⟨_,rfl,h',small' (by lia),rfl,Y.put b8,q0c,by rw[Af];exact Gj J⟩
    |false=>exact iteF ⟨rfl,Y,h',Dy J⟩
   rintro G H3 ⟨rfl,s3,h3,e1⟩;show b7 _ _ _;refine gY a6 λb9 a8=>?_;rw[Ae,Ci] at h3;have h2':=s3 _ _ h2;refine⟨_,rfl,.inl ⟨D1,rfl,⟨_,SqL.of h2'⟩,λD3 c0=>?_⟩⟩;refine q3v (xs:=vC fr) (λj G B=>G=vC ((fr.take j).filter λc => !decide (c∈n.map lo1))/\Same H3 B/\B D3=some (.lst G)/\G.length<=j) ⟨rfl,(Same.refl H3).new c0,q0c,Ba _⟩ (λj G B h=>⟨h.2.2.1,SqL.of (h.2.1 _ _ h2')⟩) ?_ ?_
   ·rintro j G B v hv ⟨rfl,Y,h',J⟩;rw[Be] at hv;obtain⟨c,u,rfl⟩:=Bh.mp hv;have hj:=(Ap.mp u).1;refine⟨q1q,_,rfl,_,rfl,rfl,_,rfl,rfl,by rw[q0o];exact small (by lia),?_⟩;rw[q8b a1];refine .inl ⟨_,_,rfl,rfl,_,rfl,?_⟩;rw[show mk [c]=(⟨#[c]⟩:Str) from rfl,q3t,q0x,z1b u];cases hb:decide (c∈n.map lo1) with
    |true=>exact iteF ⟨rfl,Y,h',Dy J⟩
    |false=>exact iteT ⟨_,rfl,h',small' (by lia),rfl,Y.put c0,q0c,by rw[Af];exact Gj J⟩
   rintro G H4 ⟨rfl,s4,h4,e3⟩;show b9 _ _ _;subst a8;rw[Ae,Ci] at h4;refine⟨_,rfl,_,rfl,_,rfl,.inr (.inl ⟨D3,_,rfl,SqL.of h4,λD4 d5=>?_⟩)⟩;rw[cutC1];generalize e4:fr.filter (λc=>decide (c∈n.map lo1))=O at *;generalize e5:(fr.filter (λc => !decide (c∈n.map lo1))).take 1=fs at *;have s5:=(Same.refl H4).new (o:=.lst (vC fs)) d5;have d6:(vC O).length+(vC fs).length<=100:=by
    rw[Ae,Ae];rw[Af] at U;lia
   refine .inr (.inr ⟨D2,D4,_,_,rfl,rfl,s5 _ _ (s4 _ _ h3),q0c,small (by lia),λD5 c1=>?_⟩);have s6:=s5.new (o:=.lst (vC O++vC fs)) c1;have h6:upd (upd H4 D4 (.lst (vC fs))) D5 (.lst (vC O++vC fs)) D5=some (.lst (vC (O++fs))):=by rw[q0c,z6x]
   generalize upd (upd H4 D4 (.lst (vC fs))) D5 (.lst (vC O++vC fs))=H6 at s6 h6;have d7:=s6 _ _ (s4 _ _ (s3 _ _ h1'));have sA:=((s1.trans s2).trans s3).trans (s4.trans s6);have c2:H M=none:=hM;have c3:D5≠M:=λz=>by
    have:=(s5 _ _ (s4 _ _ (s3 _ _ h1')))
    rw[<- z,c1] at this;cases this
   generalize c4:(([SO0,SO1,SO2].take i).flatMap λs=>(useS nm n s).flatMap both)=pre at *;have c5:∀c∈O++fs,c∈F:=a7;rw[<- C] at U;refine .inl ⟨D5,rfl,⟨_,SqL.of h6⟩,?_⟩;refine q1x (xs:=vC (O++fs)) (λj I B=>∃x7,I=[some (.str (mk n)),some (.ref L),some (.ref M),some (.str (mk F)),some (.ref D1),some (.ref D2),some (.ref D3),x7]/\Same H B/\B D5=some (.lst (vC (O++fs)))/\B M=some (.lst (vC (pre++((O++fs).take j).flatMap both)))/\(((O++fs).take j).flatMap both).length<=2*j) ⟨_,rfl,sA,h6,by rw[Ih];show _=some (HO.lst (vC (pre++[])));rw[Cd];exact d7,Ba _⟩ (λj I B _ x=>by obtain⟨_,_,_,x,_⟩:=x;exact SqL.of x) ?_ ?_
   ·rintro j v I H7 hv ⟨d8,rfl,s7,h7,W,Z⟩;show tSeq _ _ _ _ _;refine gE λe6 c6 X a9=>?_;rw[Be] at hv;obtain⟨c,u,rfl⟩:=Bh.mp hv;have hj:=(Ap.mp u).1;have d9:=c5 c (Ar u);have c7:c<128:=q6e c (d1 c d9).1;have f5:(vC (pre++((O++fs).take j).flatMap both)).length<=500:=by
     rw[Ae,Af];rw[Af] at hj;rw[Ae,Ae] at d6;lia
    refine⟨_,rfl,.inl ⟨rfl,_,SqL.of W⟩,_,rfl,M,_,_,rfl,rfl,W,small' (by lia),?_⟩;show c6 _ _ _;subst a9;have a0:upd H7 M (.lst (vC (pre++((O++fs).take j).flatMap both)++[.str (mk [c])])) M=some (.lst (vC (pre++((O++fs).take j).flatMap both)++[.str (mk [c])])):=q0c;have s8:=s7.put (o:=.lst (vC (pre++((O++fs).take j).flatMap both)++[.str (mk [c])])) c2;have h8:upd H7 M (.lst (vC (pre++((O++fs).take j).flatMap both)++[.str (mk [c])])) D5=some (.lst (vC (O++fs))):=by rw[q0g c3];exact h7
    generalize upd H7 M (.lst (vC (pre++((O++fs).take j).flatMap both)++[.str (mk [c])]))=H8 at a0 s8 h8;have R:=q8c (f:=both) u;refine⟨_,rfl,rfl,_,rfl,rfl,by show 3*1<=_;exact small (by lia),?_⟩;rw[show Pk (mk [c])=⟨#[up1 c]⟩ from z5i c7];refine⟨_,rfl,.inl ⟨rfl,_,rfl,?_⟩⟩;have ed:decide (V.str (⟨#[up1 c]⟩:Str)=V.str (mk [c]))=decide (up1 c=c):=decide_eq_decide.mpr ⟨λz=>by injection z with z;injection z with z;injection z with z;injection z,λz=>by rw[z]⟩;rw[ed];cases hb:decide (up1 c=c) with
    |true =>
     have eb:both c=[c]:=by unfold both;rw[if_pos (of_decide_eq_true hb)]
     subst X;refine iteF ⟨_,rfl,s8,h8,?_,by rw[R,eb,Af];show _+1<=_;lia⟩;subst a2;rw[a0,R,eb,<- Dj,z6x (_++_) [c]];rfl
    |false =>
     have eb:both c=[c,up1 c]:=by unfold both;rw[if_neg (of_decide_eq_false hb)]
     refine iteT ⟨_,rfl,.inl ⟨rfl,_,SqL.of a0⟩,_,rfl,rfl,_,rfl,rfl,by show 3*1<=_;exact small (by lia),?_⟩;rw[show Pk (mk [c])=⟨#[up1 c]⟩ from z5i c7];refine⟨M,_,_,rfl,rfl,a0,small' (by rw[Af];show _+1<=_;lia),?_⟩;subst X;refine⟨_,rfl,s8.put c2,by rw[q0g c3];exact h8,?_,by rw[R,eb,Af];show _+2<=_;lia⟩;rw[q0c,R,eb,<- Dj,z6x (_++_) [c,up1 c],Dj];rfl
   ·rintro I H7 ⟨d8,rfl,s7,h7,W,Z⟩;subst a2;rw[Ae,Ci] at W Z;have R:=q8c (f:=λs=>(useS nm n s).flatMap both) a4;rw[c4] at R;refine⟨_,_,_,_,_,rfl,s7,?_,?_⟩
    ·rw[W,R,C]
    ·rw[R,C,Af];rw[<- C] at Z;rw[C] at Z U;lia
  ·rintro I B ⟨x3,x4,x5,x6,x7,rfl,s1,h1,_⟩;show c9 _ _ _;subst b2;subst b0;exact⟨_,rfl,k M _ hM s1 h1⟩
end
end K
namespace K
open PySem L2 TX
section
variable{P:Aq}{w:World}{K:Ai}{mg:Str->Option Value}{base:Heap}
noncomputable def longer(nm:List Nat)(ns:List (List Nat)):List (List Nat):=ns.flatMap λn=>(nm++otherS nm n).map λc=>n++[c]
noncomputable def lev(nm:List Nat):Nat->List (List Nat)
 |0=>[[]]
 |k+1=>longer nm (lev nm k)
theorem x2d:∀{a b:List Nat},a.Nodup->(∀c∈a,c∈b)->a.length<=b.length
 |[],_,_,_=>Ba _
 |x::r,b,nd,h=>by
  obtain⟨j,o⟩:=Eu.mp nd;have f:=h x Al;have:=x2d (a:=r) (b:=b.erase x) o λc g=>(List.mem_erase_of_ne (λz=>j (by rw[<- z];exact g))).mpr (h c (Ak _ g))
  rw[List.length_erase_of_mem f] at this;have:=List.length_pos_of_mem f;rw[Bc];lia
def so_nd:∀s∈[SO0,SO1,SO2],s.Nodup:=by trivial
def x5o(h:s.Nodup):(useS nm n s).length<=n.length+1:=by
 unfold useS;rw[Af,Cg];have f:((freeS nm s).filter λc=>decide (c∈n.map lo1)).length<=(n.map lo1).length:=x2d ((h.filter _).filter _) λc g=>of_decide_eq_true (Bt.mp g).2;rw[Ae] at f;lia
def x5p(c):(both c).length<=2:=by unfold both;split<;>simp
def q9m{g j:Type}{l:List g}{f:g->List j}(h:∀x∈l,(f x).length<=m):(l.flatMap f).length<=l.length*m:=by
 induction l with
 |nil=>exact Ba _
 |cons a r ih =>
  have s:=h a Al;have u:=ih λx o=>h x (Ak _ o);rw[List.flatMap_cons,Af,Bc,Nat.succ_mul];lia
def q9n(nm n):(otherS nm n).length<=6*(n.length+1):=by
 have g:∀s∈[SO0,SO1,SO2],((useS nm n s).flatMap both).length<=(n.length+1)*2:=λs h=>by
  have o:=q9m (l:=useS nm n s) (f:=both) (m:=2) λc _=>x5p c;have j:=x5o (nm:=nm) (n:=n) (so_nd s h);have u:(useS nm n s).length*2<=(n.length+1)*2:=Kk _ j;lia
 have:=q9m (l:=[SO0,SO1,SO2]) g;unfold otherS;have e:[SO0,SO1,SO2].length=3:=rfl;rw[e] at this;lia
theorem z4a(h:∀c∈nm,c∈NS):∀ k ,∀n∈lev nm k,n.length=k/\∀c∈n,c∈NS
 |0,n,hn=>by
  rw[Ao.mp hn];exact⟨rfl,(λ_ h=>nomatch h)⟩
 |k+1,n,hn=>by
  obtain⟨m,f,hn⟩:=Hh.mp hn;obtain⟨c,g,rfl⟩:=Az.mp hn;obtain⟨j,o⟩:=z4a h k m f;refine⟨by rw[Af,j];rfl,λd hd=>?_⟩;rcases Au.mp hd with hd|hd
  ·exact o d hd
  ·rw[Ao.mp hd];exact(Au.mp g).elim (h c) (x2c c)
def j0g(h:∀n∈ns,n.length=k):(longer nm ns).length<=ns.length*(nm.length+6*(k+1)):=q9m λn hn=>by
 rw[Ae,Af];have:=q9n nm n;rw[h n hn] at this;lia
def j0h(h:∀c∈nm,c∈NS)(hl:nm.length<=65)(M:mo<=4)(D:(nm.length+4)^mo<=1000):∀k,k<=mo->(lev nm k).length<=50000:=by
 have st:∀k,(lev nm (k+1)).length<=(lev nm k).length*(nm.length+6*(k+1)):=λk=>j0g λn hn=>(z4a h k n hn).1;have j:(lev nm 0).length=1:=rfl;have o:=st 0;have s:=st 1;have B:=st 2;have E:=st 3;generalize nm.length=m at *;generalize (lev nm 0).length=O at *;have big:∀x,x<=m->(x+4)^mo<=1000:=λx P=>Ay (Nat.pow_le_pow_left (by lia) _) D;have step:∀{a b x c d:Nat},b<=a*x->a<=c->x<=d->b<=c*d:=λF G H=>Ay F (Nat.mul_le_mul G H);intro k hk;have f:mo=0\/mo=1\/mo=2\/mo=3\/mo=4:=by lia
 have u:k=0\/k=1\/k=2\/k=3\/k=4:=by lia
 have Q:mo=1\/m<=27\/mo=0:=by
  rcases f with e|e|e|e|e
  ·exact .inr (.inr e)
  ·exact .inl e
  all_goals
   refine .inr (.inl (Gq λz=>?_));have:=big 28 (by lia);rw[e] at this;exact absurd this (by decide)
 have R:mo<=2\/m<=6:=by
  rcases f with e|e|e|e|e
  ·exact .inl (by lia)
  ·exact .inl (by lia)
  ·exact .inl (by lia)
  all_goals
   refine .inr (Gq λz=>?_);have:=big 7 (by lia);rw[e] at this;exact absurd this (by decide)
 have S:mo<=3\/m<=1:=by
  rcases f with e|e|e|e|e
  ·exact .inl (by lia)
  ·exact .inl (by lia)
  ·exact .inl (by lia)
  ·exact .inl (by lia)
  ·refine .inr (Gq λz=>?_);have:=big 2 (by lia);rw[e] at this;exact absurd this (by decide)
 rcases u with rfl|rfl|rfl|rfl|rfl
 ·show(lev nm 0).length<=_;exact(by decide:(1:Nat)<=50000)
 ·have:=step o (Fb j) (show m+6*(0+1)<=71 by lia);exact Ay this (by decide)
 ·have C:m<=27:=by lia
  have g:=step o (Fb j) (show m+6*(0+1)<=33 by lia);have:=step s g (show m+6*(1+1)<=39 by lia);exact Ay this (by decide)
 ·have I:m<=6:=by lia
  have g:=step o (Fb j) (show m+6*(0+1)<=12 by lia);have v:=step s g (show m+6*(1+1)<=18 by lia);have:=step B v (show m+6*(2+1)<=24 by lia);exact Ay this (by decide)
 ·have J:m<=1:=by lia
  have g:=step o (Fb j) (show m+6*(0+1)<=7 by lia);have v:=step s g (show m+6*(1+1)<=13 by lia);have L:=step B v (show m+6*(2+1)<=19 by lia);have:=step E L (show m+6*(3+1)<=25 by lia);exact Ay this (by decide)
noncomputable def spLonger:Sp:=λvs H Q _=>∃L M nm ns,vs=[.ref L,.ref M]/\H L=some (.lst (vN ns))/\H M=some (.lst (vC nm))/\(∀n∈ns,n.length<=11/\∀c∈n,c∈NS)/\nm.length<=65/\(longer nm ns).length<=100000/\∀N H',H N=none->Same H H'->H' N=some (.lst (vN (longer nm ns)))->Q (.ref N) H'
def x5q{g h:Type}{l:List g}{f:g->List h}:((l.take i).flatMap f).length<=(l.flatMap f).length:=by
 have e:l.flatMap f=(l.take i).flatMap f++(l.drop i).flatMap f:=by rw[<- Uy,Jp]
 rw[e,Af];lia
def x7r(a b):vN (a++b)=vN a++vN b:=Bb
noncomputable abbrev q2s:Stmt:=top 68
def q8d:FnScope Zy Zy (defScope q2s):=by trivial
def x2e(D:Df K mg "longer_names" q2s Zy)(T:Txt mg)(C:Cal P w K mg base "other_signs" 1 Y9 (spOtherS K)):Cal P w K mg base "longer_names" 2 Zy spLonger:=by
 refine D.cal q8d (λvs H Q E h=>?_) (λf a3 A outer s H vs Q E hr h=>?_)
 ·obtain⟨L,M,nm,ns,rfl,_⟩:=h;rfl
 ·obtain⟨L,M,nm,ns,rfl,hL,hM,Z,a4,J,k⟩:=h;refine⟨_,(q0e (q0m (x1l ["name", "sign"] [("named",1)] rfl (@q2i _ _ _ _ K rfl (pv 0)) (λ_ _ _ _ _=>(q0k (i:=0) (show(["name", "sign", "named"]:List Str).Nodup by trivial) rfl (by trivial))) (λ_ _ _ _ _=>(@q2i _ _ _ _ K rfl (q0u q0n (pv 2) (pe_c C hr (q0a (pv 0) (q0a (pv 2) q0d)))))) (λ_ _ _ _ _=>(q0k (i:=1) (show(["name", "sign", "named"]:List Str).Nodup by trivial) rfl (by trivial))) (λ_ _ _ _ _=>(q0u q0n (pv 0) (pv 1)))))),?_⟩;refine⟨_,rfl,.inl ⟨L,rfl,⟨_,SqL.of hL⟩,λD hD=>?_⟩⟩;refine z8l (xs:=vN ns) (λi u I=>u=vN (longer nm (ns.take i))/\Same H I/\I D=some (.lst u)) ⟨rfl,(Same.refl H).new hD,q0c⟩ (λi u I x=>⟨x.2.2,SqL.of (x.2.1 _ _ hL)⟩) ?_ ?_
  ·rintro i u H1 v hv ⟨rfl,R,S⟩;rw[Be] at hv;obtain⟨n,hn,rfl⟩:=Bh.mp hv;obtain⟨n1,n2⟩:=Z n (Ar hn);refine⟨q1q,_,rfl,_,rfl,_,rfl,M,nm,n,rfl,R _ _ hM,by lia,λc W=>q6e c (n2 c W),λO H2 hO s2 h2=>?_⟩;have a0:=s2 _ _ (R _ _ hM);have a5:=q9n nm n;have B:=s2 _ _ S;refine .inr (.inr ⟨M,O,_,_,rfl,rfl,a0,h2,small (by rw[Ae,Ae];lia),λG hG=>?_⟩);have s3:=(Same.refl H2).new (o:=.lst (vC nm++vC (otherS nm n))) hG;have X:upd H2 G (.lst (vC nm++vC (otherS nm n))) G=some (.lst (vC (nm++otherS nm n))):=by rw[q0c,z6x]
   generalize upd H2 G (.lst (vC nm++vC (otherS nm n)))=H3 at s3 X;have a1:G≠D:=λz=>by rw[<- z,hG] at B;cases B
   have a2:=(R.trans s2).trans s3;have F:=q8c (f:=λn=>(nm++otherS nm n).map λc=>n++[c]) hn;have g:=x5q (l:=ns) (f:=λn=>(nm++otherS nm n).map λc=>n++[c]) (i:=i+1);rw[F,Af,Ae] at g;have g:(longer nm (ns.take i)).length+(nm++otherS nm n).length<=100000:=Ay g J;have F:longer nm (ns.take (i+1))=longer nm (ns.take i)++(nm++otherS nm n).map λc=>n++[c]:=F;rw[F];generalize nm++otherS nm n=cs at X g;generalize longer nm (ns.take i)=pre at S B g;refine .inl ⟨G,rfl,⟨_,SqL.of X⟩,?_⟩;refine x5a (xs2:=vC cs) (λj u I=>u=vN (pre++(cs.take j).map λc=>n++[c])/\Same H I/\I D=some (.lst u)/\I G=some (.lst (vC cs))) ⟨by rw[Ih];show _=vN (pre++[]);rw[Cd],a2,s3 _ _ B,X⟩ (λj u I x=>SqL.of x.2.2.2) ?_ ?_
   ·rintro j u H4 x hx ⟨rfl,s4,Y,U⟩;rw[Be] at hx;obtain⟨c,W,rfl⟩:=Bh.mp hx;have hj:=(Ap.mp W).1;refine⟨z8k,_,rfl,_,rfl,.inr (.inl ⟨_,_,rfl,rfl,by rw[q0o,q0o];exact small (by show _+1<=_;lia),?_⟩)⟩;rw[q3n];refine⟨Y,small' (by rw[Ae,Af,Ae,Cg];lia),?_,s4.put hD,q0c,by rw[q0g a1];exact U⟩;rw[q1b W,Bb,<- Dj,x7r (_++_)];rfl
   ·rintro u H4 ⟨rfl,s4,Y,U⟩;rw[Ae,Ci] at Y ⊢;exact⟨rfl,s4,Y⟩
  ·rintro u H1 ⟨rfl,R,S⟩;rw[Ae,Ci] at S;exact k D _ hD R S
end
end K
namespace K
open PySem L2 TX
section
variable{P:Aq}{w:World}{K:Ai}{mg:Str->Option Value}{base:Heap}
noncomputable def dO:Option (List (List Nat))->Ce
 |none=>.none
 |some ts=>.tuple ((ts.map mk).map Ce.str)
theorem z6y:∀a b:List (List Nat),Eg ((a.map mk).map Ce.str) ((b.map mk).map Ce.str)=decide (a=b)
 |[],[]=>by simp[Eg]
 |[],b::bs=>by simp[Eg]
 |a::as,[]=>by simp[Eg]
 |a::as,b::bs=>by
  have f:=z6y as bs;rw[Am,Am,Am,Am];simp only[Eg,Dg,f];rw[show(mk a==mk b)=decide (a=b) from Iz.mpr (by
   rw[beq_iff_eq,decide_eq_true_iff];exact⟨λz=>by have:=congrArg tl z;rwa [q0x,q0x] at this,λz=>by rw[z]⟩),<- Bool.decide_and]
  exact decide_eq_decide.mpr ⟨λ⟨x,y⟩=>by rw[x,y],λz=>by injection z with z1 z2;exact⟨z1,z2⟩⟩
def eqv_dO(a b):Dg (dO a) (dO b)=decide (a=b):=by
 cases a with
 |none=>cases b with
  |none=>simp[dO,Dg]
  |some y=>simp[dO,Dg]
 |some x=>cases b with
  |none=>simp[dO,Dg]
  |some y =>
   simp only[dO,Dg,z6y];exact decide_eq_decide.mpr ⟨λz=>by rw[z],λz=>Co z⟩
theorem z6z:∀{ls:List (List Nat)},(∀x∈ls,∀c∈x,c<128)->Fj ((ls.map mk).map Ce.str)=true
 |[],_=>rfl
 |a::r,h=>by
  rw[Am,Am];simp only[Fj,Ii,z0b (h a Al),z6z (ls:=r) λx f=>h x (Ak _ f),Ek]
def x7s(h:∀ts,o=some ts->∀t∈ts,∀c∈t,c<128):(dO o).canLay0=true:=by
 cases o with
 |none=>rfl
 |some ts =>
  exact z6z (h ts rfl)
theorem z7a:∀ls:List (List Nat),Dw ((ls.map mk).map Ce.str)<=1
 |[]=>by simp[Dw]
 |a::r=>by
  have:=z7a r;rw[Am,Am];simp only[Dw,Gw];lia
def dep_dO(o):(dO o).depth<=100:=by
 cases o with
 |none=>simp[dO,Gw]
 |some ts =>
  have:=z7a ts;simp only[dO,Gw];lia
theorem z7b:∀xs:List Str,Dts K H (xs.map V.str) (xs.map Ce.str)
 |[]=>.nil
 |x::xs=>.cons (.str x) (z7b xs)
structure VT (K) (H) (v) (o):Prop where
 dt:Dt K H v (dO o)
 lo:∀ts,o=some ts->∀t∈ts,∀c∈t,c<128
def x2f(e:(o=none/\v=.non)\/∃ts T,o=some ts/\v=.ref T/\H T=some (.tup (vN ts)))(l:∀ts,o=some ts->∀t∈ts,∀c∈t,c<128)(s:Same H H'):VT K H' v o:=by
 refine⟨?_,l⟩;rcases e with⟨rfl,rfl⟩|⟨ts,T,rfl,rfl,h⟩
 ·exact .non
 ·refine .tup (SqT.of (s _ _ h)) ?_;have e:vN ts=(ts.map mk).map V.str:=by simp_all
  rw[e];exact z7b _
def x5r(s:CRule K H R r)(hn:n.length<=12/\∀c∈n,c∈NS)(k:∀v H',Same H H'->((tellO r n 0=none/\v=.non)\/∃ts T,tellO r n 0=some ts/\v=.ref T/\H' T=some (.tup (vN ts)))->(∀ts,tellO r n 0=some ts->∀t∈ts,∀c∈t,c<128)->Q v H'):spTells K [.ref R,.str (mk n),.int 0] H Q E:=by
 have lo:∀ts,tellO r n 0=some ts->∀t∈ts,∀c∈t,c<128:=λts h t f c g=>q6e c (((q6t s.ok hn (by decide) h).2.2 t f).2 c g);refine⟨R,r.kd,r.l,r.qs,_,n,0,rfl,s.at_,hn.1,λt f c g=>q6e c (hn.2 c (z3y _ _ t f c g)),by decide,λj H' o=>?_,λj T H' B o u=>?_⟩
 ·exact k _ _ o (.inl ⟨by unfold tellO;rw[j];rfl,rfl⟩) lo
 ·exact k _ _ o (.inr ⟨_,T,by unfold tellO;rw[j];rfl,rfl,u⟩) lo
noncomputable def spTl(K:Ai):Sp:=λvs H Q _=>∃R r n,vs=[.ref R,.str (mk n),.int 0]/\CRule K H R r/\(n.length<=12/\∀c∈n,c∈NS)/\∀v H',Same H H'->((tellO r n 0=none/\v=.non)\/∃ts T,tellO r n 0=some ts/\v=.ref T/\H' T=some (.tup (vN ts)))->(∀ts,tellO r n 0=some ts->∀t∈ts,∀c∈t,c<128)->Q v H'
def x2g(M:Cal P w K mg base "tells" 8 Z8 (spTells K)):Cal P w K mg base "tells" 8 Z8 (spTl K):=by
 obtain⟨f,fd,F,r⟩:=M.ex;exact⟨f,fd,F.imp λvs H Q E h=>by
  obtain⟨R,r,n,rfl,g,hn,k⟩:=h;exact x5r g hn k,r⟩
noncomputable def nmO(r q:RD):List Nat:=nmd (txO r++txO q)
noncomputable def spCpd(K:Ai):Sp:=λvs H Q _=>∃R S r q,∃mo:Nat,vs=[.ref R,.ref S,.int (mo)]/\CRule K H R r/\CRule K H S q/\mo<=4/\((nmO r q).length+4)^mo<=1000 /\
 ((∀ k   n ,k<mo->n∈lev (nmO r q) (k+1)->tellO r n 0=tellO q n 0)->∀T H',H T=none->Same H H'->H' T=some (.tup [.str (Ab "same")])->Q (.ref T) H') /\
 ∀(k i:Nat)  n ,k<mo->(lev (nmO r q) (k+1))[i]?=some n->tellO r n 0≠tellO q n 0->(∀ j   m ,j<k->m∈lev (nmO r q) (j+1)->tellO r m 0=tellO q m 0)->(∀ j   m ,j<i->(lev (nmO r q) (k+1))[j]?=some m->tellO r m 0=tellO q m 0)->∀T H',H T=none->Same H H'->H' T=some (.tup [.str (Ab "parted"),.str (mk n)])->Q (.ref T) H'
def x2h:∀c∈nmd t,c∈NS:=λc f=>(Bt.mp f).1
def j0i:(nmd t).length<=65:=by
 have:=Di (λc=>decide (lo1 c∈t.map lo1)) NS;exact this
noncomputable abbrev q5f:Stmt:=top 69
def sc_compared:FnScope ["one", "other", "most", "named", "names", "length", "name"] Zp (defScope q5f):=by trivial
def z5j(D:Df K mg "compared" q5f Zp)(T:Txt mg)(C:Cal P w K mg base "ask_rule" 7 Zz (spAskRule K)/\Cal P w K mg base "ask_pieces" 7 Zz (spAP K)/\Cal P w K mg base "signs_of" 8 Zd (spSignsOf K)/\Cal P w K mg base "ask_bound" 1 Yn spBound/\Cal P w K mg base "longer_names" 2 Zy spLonger/\Cal P w K mg base "tells" 8 Z8 (spTl K)):Cal P w K mg base "compared" 9 Zp (spCpd K):=by
 refine D.cal sc_compared (λvs H Q E h=>?_) (λf d1 A outer s H vs Q E G h=>?_)
 ·obtain⟨R,S,r,q,mo,rfl,_⟩:=h;rfl
 ·obtain⟨R,S,r,q,mo,rfl,ru,sq,a7,a8,kS,kP⟩:=h;refine⟨_,(q0b (q0y (pe_c C.1 G (q0a (pv 0) q0d))) (q0b (q0y (pe_c C.1 G (q0a (pv 1) q0d))) (q0b (q0y (pe_c C.2.1 G (q0a (pv 0) q0d))) (q0b (q0y (pe_c C.2.1 G (q0a (pv 1) q0d))) (q0b (q0l (i:=3) sc_compared.nd rfl (by trivial) (pe_c C.2.2.1 G (q0a (pv 0) (q0a (pv 1) q0d)))) (q0b (q0y (pe_c C.2.2.2.1 G (q0a (q0r (q2u K rfl) (by rfl) T.b_len By (q0a (pv 3) q0d)) (q0a (pv 2) q0d)))) (q0b (q0l (i:=4) sc_compared.nd rfl (by trivial) (q1p (q0a q0i q0d))) (q0b (q1g Bj rfl (q1w rfl T.b_range (q0a (pv 2) q0d)) (q0k (i:=5) sc_compared.nd rfl (by trivial)) (q0b (q0l (i:=4) sc_compared.nd rfl (by trivial) (pe_c C.2.2.2.2.1 G (q0a (pv 4) (q0a (pv 3) q0d)))) (q0e (q1g Bj rfl (@q2i _ _ _ _ K rfl (pv 4)) (q0k (i:=6) sc_compared.nd rfl (by trivial)) (q0e (q0t (q0h (ne_k K rfl G) (pe_c C.2.2.2.2.2 G (q0a (pv 0) (q0a (pv 6) (q0a q0f q0d)))) (pe_c C.2.2.2.2.2 G (q0a (pv 1) (q0a (pv 6) (q0a q0f q0d)))) (nomark _)) (q0e (q0m (q0v (q0a q0i (q0a (pv 6) q0d))))) q0j)))))) (q0e (q0m (q0v (q0a q0i q0d)))))))))))),?_⟩;show tSeq _ _ _ _ _;refine gE λc8 a9 u O=>?_
  refine⟨_,rfl,R,_,_,_,_,rfl,ru.at_,λH1 s1=>?_⟩;show a9 _ _ _;refine gY O λb0 U=>?_;refine⟨_,rfl,S,_,_,_,_,rfl,sq.at_.same s1,λH2 s2=>?_⟩;show b0 _ _ _;refine gY U λb1 W=>?_;have b2:=s1.trans s2;refine⟨_,rfl,R,r,rfl,ru.same b2,λH3 s3=>?_⟩;show b1 _ _ _;refine gY W λb3 X=>?_;have b4:=b2.trans s3;refine⟨_,rfl,S,q,rfl,sq.same b4,λH4 s4=>?_⟩;show b3 _ _ _;refine gY X λb5 Y=>?_;have Z:=b4.trans s4;refine⟨_,rfl,_,rfl,R,S,r,q,rfl,ru.same Z,sq.same Z,λL H5 hL s5 h5=>?_⟩;show b5 _ _ _;refine gY Y λb6 a0=>?_;have c4:=Z.trans s5;have a1:∀c∈nmO r q,c∈NS:=x2h;have b7:(nmO r q).length<=65:=j0i;have h5:H5 L=some (.lst (vC (nmO r q))):=h5;generalize nmO r q=nm at *;refine⟨_,rfl,_,_,rfl,.inl ⟨_,SqL.of h5,rfl⟩,_,rfl,nm.length,mo,by rw[Ae];rfl,a7,by lia,a8,?_⟩;show b6 _ _ _;refine gY a0 λb8 a2=>?_;refine⟨by decide,λN hN=>?_⟩;show b8 _ _ _;refine gY a2 λb9 a3=>?_;have s6:=(Same.refl H5).new (o:=.lst [.str (Ab "")]) hN;have h6:upd H5 N (.lst [.str (Ab "")]) N=some (.lst (vN (lev nm 0))):=q0c;have c5:=s6 _ _ h5;have c6:=c4.trans s6;have few:=j0h a1 b7 a7 a8;refine⟨_,rfl,(mo:Int),rfl,by lia,by lia,q1y (λi g H'=>∃N x5 x6,g=[some (.ref R),some (.ref S),some (.int (mo:Int)),some (.ref L),some (.ref N),x5,x6]/\Same H H'/\H' L=some (.lst (vC nm))/\H' N=some (.lst (vN (lev nm i)))/\∀j m,j<i->m∈lev nm (j+1)->tellO r m 0=tellO q m 0) ⟨N,none,none,rfl,c6,c5,h6,λj m hj=>absurd hj (by lia)⟩ ?_ ?_⟩
  ·rintro i g H7 hi ⟨N,x5,x6,rfl,s7,a4,c0,I⟩;show tSeq _ _ _ _ _;refine gE λc9 c1 B a5=>?_;have lo:=z4a a1 i;refine⟨_,rfl,_,rfl,N,L,nm,lev nm i,rfl,c0,a4,λn hn=>⟨by have:=(lo n hn).1;lia,(lo n hn).2⟩,b7,Ay (few (i+1) (by lia)) (by decide),λN2 H8 d2 s8 h8=>?_⟩;show c1 _ _ _;subst a5;have J:=s7.trans s8;have lo1':=z4a a1 (i+1);refine⟨_,rfl,.inl ⟨N2,rfl,⟨_,SqL.of h8⟩,?_⟩⟩;refine q1x (xs:=vN (lev nm (i+1))) (λj g H'=>∃x5 x6,g=[some (.ref R),some (.ref S),some (.int (mo:Int)),some (.ref L),some (.ref N2),x5,x6]/\Same H8 H'/\∀j' m,j'<j->(lev nm (i+1))[j']?=some m->tellO r m 0=tellO q m 0) ⟨_,_,rfl,Same.refl _,λj' m hj=>absurd hj (by lia)⟩ (λj g H' _ x=>by obtain⟨_,_,_,s',_⟩:=x;exact SqL.of (s' _ _ h8)) ?_ ?_
   ·rintro j v g H9 hv ⟨y5,y6,rfl,s9,M⟩;rw[Be] at hv;obtain⟨n,hn,rfl⟩:=Bh.mp hv;obtain⟨n1,n2⟩:=lo1' n (Ar hn);have c2:=J.trans s9;refine⟨_,rfl,_,rfl,R,r,n,rfl,ru.same c2,⟨by lia,n2⟩,λv1 HA sA e1 l1=>?_⟩;refine⟨_,rfl,_,rfl,S,q,n,rfl,sq.same (c2.trans sA),⟨by lia,n2⟩,λv2 HB sB e2 l2=>?_⟩;have V1:=x2f (K:=K) e1 l1 sB;have V2:=x2f (K:=K) e2 l2 (Same.refl HB);refine .inr ⟨_,_,V1.dt,V2.dt,x7s l1,x7s l2,Ay (Xy _ _) (dep_dO _),_,rfl,?_⟩;rw[eqv_dO];have a6:=s9.trans (sA.trans sB);refine ite2 (λh=>?_) (λh=>?_)
    ·have c7:tellO r n 0≠tellO q n 0:=λz=>by rw[decide_eq_true z] at h;cases h
     refine⟨_,rfl,by show 2<=sizeLine;decide,λT1 F=>?_⟩;subst B;subst u;exact kP i j n hi hn c7 I M T1 _ ((J.trans a6).free F) ((J.trans a6).new F) q0c
    ·have d0:tellO r n 0=tellO q n 0:=Gq λz=>h (by rw[decide_eq_false z];rfl);refine⟨_,_,rfl,a6,λj' m c3 hm=>?_⟩;rcases Iq.mp c3 with c3|rfl
     ·grind
     ·grind
   ·rintro g H9 ⟨y5,y6,rfl,s9,M⟩;subst B;rw[Ae] at M;refine⟨N2,_,_,rfl,J.trans s9,s9 _ _ (s8 _ _ a4),s9 _ _ h8,λj m hj hm=>?_⟩;rcases Iq.mp hj with hj|rfl
    ·exact I j m hj hm
    ·obtain⟨t,ht,e⟩:=Nk.mp hm |>.imp λt e=>(⟨(Ap.mp e).1,e⟩:t<(lev nm (j+1)).length/\_)
     exact M t m ht e
  ·rintro g H7 ⟨N,x5,x6,rfl,s7,a4,c0,I⟩;show b9 _ _ _;subst a3;refine⟨by decide,λT1 F=>?_⟩;subst u;exact kS (λk n hk hn=>I k n hk hn) T1 _ (s7.free F) (s7.new F) q0c
end
end K
namespace K
open PySem L2 TX
section
variable{P:Aq}{w:World}{K:Ai}{mg:Str->Option Value}{base:Heap}
noncomputable def addN(ks:List Nat)(c:Nat):List Nat:=if c∈ks then ks else ks++[c]
noncomputable abbrev kvN(ks:List Nat):List (Key×V):=ks.map λc=>((Sum.inr (mk [c]):Key),V.bl true)
def z1c(ks)(c):putK (kvN ks) (Sum.inr (mk [c])) (.bl true)=kvN (addN ks c):=by
 unfold putK addN;by_cases h:c∈ks
 ·simp_all
 ·simp_all
def z1d:c∈addN ks c:=by
 unfold addN;split
 ·assumption
 ·simp
def q2y(h:x∈ks):x∈addN ks c:=by
 unfold addN;split
 ·exact h
 ·grind
def z1e:(addN ks c).length<=ks.length+1:=by
 unfold addN;split
 ·lia
 ·simp_all
noncomputable def insS(b:Bool)(c:Nat):Bool:=(b||decide (c=123)) && !decide (c=125)
noncomputable def insB(w:List Nat):Bool:=w.foldl insS false
def x2i(w)(c):insB (w++[c])=insS (insB w) c:=by unfold insB;rw[Jj];rfl
theorem q8e:∀(t:List Nat),(∀c∈t,c≠123)->t.foldl insS false=false
 |[],_=>rfl
 |c::r,h=>by
  rw[Ew];have e:insS false c=false:=by unfold insS;rw[decide_eq_false (h c Al)];rfl
  rw[e];exact q8e r λx f=>h x (Ak _ f)
theorem x7t:∀(t:List Nat),(∀c∈t,c≠125)->t.foldl insS true=true
 |[],_=>rfl
 |c::r,h=>by
  rw[Ew];have e:insS true c=true:=by unfold insS;rw[decide_eq_false (h c Al)];rfl
  rw[e];exact x7t r λx f=>h x (Ak _ f)
def no3:∀c∈NS,c≠123/\c≠125/\c≠47:=by trivial
def gs3:∀c∈GS,c≠123/\¬c∈NS:=by trivial
def x2j{p:Pc}(ok:p.ok):p.wr.foldl insS false=false:=by
 have g:∀j:List Nat,(∀c∈j,c≠125)->(123::(j++[125])).foldl insS false=false:=λj h=>by
  rw[Ew,Jj,show insS false 123=true from rfl,x7t j h];rfl
 cases p with
 |tx t=>exact q8e t λc f=>(no3 c (ok.2 c f)).1
 |into=>rfl
 |gap k=>exact g [48+k] λc f=>by rw[Ao.mp f];have:=ok.2;lia
 |great k =>
  exact g [48+k,117] λc f=>by
   rcases Av.mp f with rfl|f
   ·have:=ok.2;lia
   ·rw[Ao.mp f];decide
 |small k =>
  exact g [48+k,108] λc f=>by
   rcases Av.mp f with rfl|f
   ·have:=ok.2;lia
   ·grind
 |nou k w =>
  exact g [48+k,122,48+w] λc f=>by
   have o:=ok.1.2;have u:=ok.2.2;simp only[Av,Cc,or_false] at f;rcases f with rfl|rfl|rfl<;>lia
 |more k m =>
  exact g ((48+k)::43::dg m) λc f=>by
   have o:=ok.1.2;rcases Av.mp f with rfl|f
   ·lia
   ·rcases Av.mp f with rfl|f
    ·decide
    ·exact(no3 c (fi_ns c (x0i m c f))).2.1
 |cnt v =>
  have o:=ok.2;by_cases s:v=1
  ·subst s;exact g [110] λc f=>by rw[Ao.mp f];decide
  ·have e:cntW v=[48+v,125]:=by unfold cntW;rw[if_neg s]
   show(123::110::cntW v).foldl insS false=false;rw[e];exact g [110,48+v] λc f=>by
    rcases Av.mp f with rfl|f
    ·decide
    ·grind
theorem z7c:∀{qs},(∀q∈qs,q.ok)->(flatP qs).foldl insS false=false
 |[],_=>rfl
 |q::r,h=>by
  rw[q0s,Jj,x2j (h q Al)];exact z7c λp f=>h p (Ak _ f)
def seen(gd:Good l)(ok:∀q∈qs,q.ok):(∀c∈l,c∈NS->∃j,(l++flatP qs)[j]?=some c/\insB ((l++flatP qs).take (j+1))=false)/\∀t,Pc.tx t∈qs->∀c∈t,∃j,(l++flatP qs)[j]?=some c/\insB ((l++flatP qs).take (j+1))=false:=by
 have f:=λc g=>(gd.sg c g).elim (λz=>(gs3 c z).1) (λz=>(no3 c z).1);refine⟨λc g _=>?_,λt s c g=>?_⟩
 ·obtain⟨j,h⟩:=Nk.mp g;have hj':=(Ap.mp h).1;refine⟨j,by rw[Er hj'];exact h,?_⟩;rw[Oo (by lia)];exact q8e _ λx o=>f x (En o)
 ·obtain⟨a,b,rfl⟩:=Vv s;obtain⟨j,h⟩:=Nk.mp g;have hj':=(Ap.mp h).1;have e:l++flatP (a++Pc.tx t::b)=(l++flatP a)++(t++flatP b):=by rw[q1z,q0s];show l++(flatP a++(t++flatP b))=_;rw[Dj]
  have u:(l++flatP a).foldl insS false=false:=by rw[Jj,q8e l f];exact z7c λq v=>ok q (Bu _ v)
  refine⟨(l++flatP a).length+j,?_,?_⟩
  ·rw[e,Dx (by lia),show(l++flatP a).length+j-(l++flatP a).length=j by lia,Er hj'];exact h
  ·rw[e];have B:((l++flatP a)++(t++flatP b)).take ((l++flatP a).length+j+1)=(l++flatP a)++t.take (j+1):=by
    rw[Nat.add_assoc,List.take_length_add_append,Oo (by lia)]
   unfold insB;rw[B,Jj,u];exact q8e _ λx o=>(no3 x ((ok _ s).2 x (En o))).1
theorem x5s:∀l,PC.sc s l≠[]
 |[]=>by simp[PC.sc]
 |c::l=>by
  unfold PC.sc;split
  ·simp
  ·split<;>simp
theorem x7u:∀(a r),PC.sc s (a++s::r)=PC.sc s a++PC.sc s r
 |[],r=>by
  show PC.sc s (s::r)=[[]]++PC.sc s r;rw[PC.sc,if_pos rfl];rfl
 |c::a,r=>by
  have g:=x7u (s:=s) a r;have f:=x5s (s:=s) a;rw[Rg,PC.sc,g];rw[show PC.sc s (c::a)=if c=s then[]::PC.sc s a else match PC.sc s a with | []=>[[c]]|p::q=>(c::p)::q from by rw[PC.sc]<;>rfl];split
  ·rfl
  ·cases h:PC.sc s a with
   |nil=>exact absurd h f
   |cons p q=>rfl
theorem x2k:∀{l x},x∈PC.sc s l->x.length<=l.length
 |[],x,h=>by
  have:x=[]:=by simpa[PC.sc] using h
  rw[this];exact Aj _
 |c::l,x,h=>by
  have f:=λ{y} (hy:y∈PC.sc s l)=>x2k hy;unfold PC.sc at h;split at h
  ·rcases Av.mp h with rfl|h
   ·exact Ba _
   ·exact Dy (f h)
  ·split at h
   ·simp_all
   ·grind
def j0j(f:x≠s)(g:y≠s):∃t q,PC.sc s (x::y::r)=(x::y::t)::q:=by
 cases h:PC.sc s r with
 |nil=>exact absurd h (x5s r)
 |cons p q =>
  refine⟨p,q,?_⟩;rw[PC.sc,if_neg f,PC.sc,if_neg g,h]
def x5t:∀x∈NS,∀c∈NS,lo1 x=lo1 c->x=up1 c\/x=lo1 c:=by trivial
def ns_nd:NS.Nodup:=by trivial
def j0k(gd:Good l)(h:c∈((parse [] l).map ptx).flatten):c∈l/\c∈NS:=by
 obtain⟨t,u,o⟩:=Hg.mp h;obtain⟨p,f,rfl⟩:=Az.mp u;have sub:∀(l j:List Nat) (p:Pt),p∈parse j l->∀c∈ptx p,c∈j\/c∈l:=by
  intro l;induction l with
  |nil =>
   intro j p f c s;unfold parse tp at f;split at f
   ·cases f
   ·rw[Ao.mp f] at s;exact .inl s
  |cons d r ih =>
   intro j p f c s;unfold parse at f;split at f
   ·rcases Au.mp f with z|z
    ·unfold tp at z;split at z
     ·cases z
     ·rw[Ao.mp z] at s;exact .inl s
    ·rcases Av.mp z with rfl|z
     ·cases s
     ·exact(ih [] p z c s).elim (λy=>nomatch y) λy=>.inr (Ak _ y)
   ·grind
 refine⟨(sub l [] p f c o).elim (λy=>nomatch y) id,?_⟩;cases p with
 |tx t=>exact(q5l l [] (λ_ h=>nomatch h) gd.sg _ f).2 c o
 |gp g=>cases o
noncomputable def KnR(ks:List Nat)(r:RD):Prop:=∀c∈txO r,up1 c∈ks/\lo1 c∈ks
def kn_nmO(o:CRule K H R r)(s:CRule K H S q)(u:KnR ks r)(v:KnR ks q):(nmO r q).length<=ks.length:=by
 refine x2d (show(nmO r q).Nodup from List.Pairwise.filter _ ns_nd) λx f=>?_;obtain⟨g,f⟩:=Bt.mp f;obtain⟨c,j,e⟩:=Az.mp (of_decide_eq_true f);have h:=(Au.mp j).elim (q9l o c) (q9l s c);have hk:=(Au.mp j).elim (u c) (v c);rcases x5t x g c h e.symm with rfl|rfl
 ·exact hk.1
 ·exact hk.2
structure RLs (K) (H:Hp) (L) (rs:List (Addr×RD)):Prop where
 at_:H L=some (.lst (rs.map λx=>V.ref x.1))
 ok:∀x∈rs,CRule K H x.1 x.2
def RLs.same(h:RLs K H L rs)(s:Same H H'):RLs K H' L rs:=⟨s _ _ h.at_,λx f=>(h.ok x f).same s⟩
noncomputable def spSigns(K:Ai):Sp:=λvs H Q _=>∃L rs,vs=[.ref L]/\RLs K H L rs/\rs.length<=10/\∀ m  H',m<=30000->(∀x∈rs,∀y∈rs,(nmO x.2 y.2).length<=m)->Same H H'->Q (.int (m)) H'
def x5u(x):Sf (mk x) (some 1) (some 2)=mk ((x.drop 1).take 1):=by
 cases x with
 |nil=>decide +kernel
 |cons a r=>exact q7n (i:=1) (j:=2) (by lia) (by rw[Bc];lia)
def cutN1(l)(h:l≠[]):cutV (vN l) (some (1:Int)) none=vN l.tail:=by
 unfold cutV;have j:=Bw.mpr h;have o:(vN l).length=l.length:=Ae _;have f:HT.sIx (vN l).length 0 (some (1:Int))=1:=by
  show min 1 (vN l).length=1;lia
 have g:HT.sIx (vN l).length (vN l).length none=(vN l).length:=rfl;rw[f,g,Dl (by rw[Ca];lia),List.drop_one];exact List.map_tail.symm
def z_in(ok:∀q∈qs,q.ok)(h:Pc.nou k v∈qs):122∈(((PC.sc 123 (flatP qs)).tail).map λx=>(x.drop 1).take 1).flatten:=by
 obtain⟨a,b,rfl⟩:=Vv h;have hk:=(ok _ h).1.2;have e:flatP (a++Pc.nou k v::b)=flatP a++123::((48+k)::122::((48+v)::125::flatP b)):=by rw[q1z,q0s];rfl
 rw[e,x7u];obtain⟨t,q,f⟩:=j0j (s:=123) (x:=48+k) (y:=122) (r:=(48+v)::125::flatP b) (by lia) (by decide);cases hs:PC.sc 123 (flatP a) with
 |nil=>exact absurd hs (x5s _)
 |cons p ps =>simp_all
def upp1(h:c<128):Pk (mk [c])=mk [up1 c]:=z5i h
def low1(h:c<128):Pj (mk [c])=mk [lo1 c]:=q8b (l:=[c]) λx f=>by rw[Ao.mp f];exact h
def dec1(c d):decide (V.str (⟨#[c]⟩:Str)=V.str (mk [d]))=decide (c=d):=by simp_all
noncomputable abbrev z1f:Stmt:=top 83
def sc_signs:FnScope ["_law_rules", "_law_known", "_law_kind", "_law_pattern", "_law_template", "_law_start", "_law_inside", "_law_sign"] Yp (defScope z1f):=by trivial
def x5v(D:Df K mg "_law_signs" z1f Yp)(T:Txt mg)(C:Cal P w K mg base "_law_name_signs" 1 [] (spConst NSs)):Cal P w K mg base "_law_signs" 2 Yp (spSigns K):=by
 refine D.cal sc_signs (λvs H Q E h=>?_) (λf f4 A outer s H vs Q E hr h=>?_)
 ·obtain⟨L,rs,rfl,_⟩:=h;rfl
 ·obtain⟨L,rs,rfl,rl,f5,k⟩:=h;refine⟨_,(q0b (q0l (i:=1) sc_signs.nd rfl (by trivial) z6l) (q0b (q1g Bj rfl (@q2i _ _ _ _ K rfl (pv 0)) (@q2m _ _ _ _ (4) _ K rfl rfl (q0p (q0k (i:=2) sc_signs.nd rfl (by trivial)) (q0p (q0k (i:=3) sc_signs.nd rfl (by trivial)) (q0p (q0k (i:=4) sc_signs.nd rfl (by trivial)) (q0p (q0k (i:=5) sc_signs.nd rfl (by trivial)) q1s)))) (by rfl) (by rfl)) (q0b (q0l (i:=6) sc_signs.nd rfl (by trivial) q6g) (q0b (q1g Bj rfl (@q2i _ _ _ _ K rfl (q0u q0n (pv 3) (pv 4))) (q0k (i:=7) sc_signs.nd rfl (by trivial)) (q0b (q0l (i:=6) sc_signs.nd rfl (by trivial) (pe_j (z5w (pe_j (pe_or (pv 6) (q8t (q2g (eq_k K rfl hr) (pv 7) q0i (nomark _))))) (q8t (q2g (ne_k K rfl hr) (pv 7) q0i (nomark _)))))) (q0e (q0t (pt_j (@PW.pt _ _ _ (q2v (z5v (@z2k _ _ _ K rfl (pv 6) (λ_=>rfl))) (q2c (q0h (in_k K rfl) (pv 7) (pe_c0 C hr) (by with_unfolding_all rfl)))))) (q0b (q7l (q6i hr) (pv 1) (@q4p _ _ _ _ _ _ _ _ _ K rfl Bo Jg Jh q6n (pv 7) (by rfl) (by rfl)) q6g rfl) (q0e (q7l (q6i hr) (pv 1) (@q4p _ _ _ _ _ _ _ _ _ K rfl Bo Dp Dq q2f (pv 7) (by rfl) (by rfl)) q6g rfl))) q0j)))) (q0e (q0t (q0h (in_k K rfl) q0i (@bm_k _ _ _ _ _ _ _ _ _ _ _ _ K rfl Bo Tw Tz (x6u K rfl) q0i (q0a (q4l ["_law_one"] [] rfl (@q2i _ _ _ _ K rfl (q1d (sl_k K rfl) (@bm_k _ _ _ _ _ _ _ _ _ _ _ _ K rfl Bo PySem.F.slot_str_split PySem.F.type_str_split x3w (pv 4) (q0a q0i q0d) (by rfl) (by rfl) (by rfl) (by rfl) (by rfl)) (q1a q0f) q2h)) (λ_ _ _ _ _=>(q0k (i:=0) (show(["_law_one"]:List Str).Nodup by trivial) rfl (by trivial))) (λ_ _ _ _ _=>q9v) (λ_ _ _ _ _=>(q1d (sl_k K rfl) (pv 0) (q1a q0f) (q1a q0f)))) q0d) (by rfl) (by rfl) (by rfl) (by rfl) (by rfl)) (by with_unfolding_all rfl)) (q0e (q7l (q6i hr) (pv 1) q0i q6g rfl)) q0j))))) (q0e (q0m (q0r x1m (by rfl) T.b_len By (q0a (pv 1) q0d)))))),?_⟩;show tSeq _ _ _ _ _;refine gE λf1 b6 a9 b0=>?_
  refine λd hd=>?_;show b6 _ _ _;refine gY b0 λb7 b1=>?_;have s0:=(Same.refl H).new (o:=.dK []) hd;refine⟨_,rfl,.inl ⟨L,rfl,⟨_,SqL.of (s0 _ _ rl.at_)⟩,?_⟩⟩;refine q1x (xs:=rs.map λx=>V.ref x.1) (λi G B=>∃Z x2 x3 x4 x5 x6 x7,G=[some (.ref L),some (.ref d),x2,x3,x4,x5,x6,x7]/\Same H B/\B d=some (.dK (kvN Z))/\Z.length<=3000*i/\∀x∈rs.take i,KnR Z x.2) ⟨[],none,none,none,none,none,none,rfl,s0,q0c,Aj _,(λ_ h=>nomatch h)⟩ (λi G B _ x=>by obtain⟨_,_,_,_,_,_,_,_,s',_⟩:=x;exact SqL.of (s' _ _ rl.at_)) ?_ ?_
  ·rintro i v G H1 hv ⟨Z,x2,x3,x4,x5,x6,x7,rfl,s1,h1,a6,X⟩;rw[Be] at hv;obtain⟨⟨R,r⟩,J,rfl⟩:=Bh.mp hv;have hi:=(Ap.mp J).1;have cr:CRule K H R r:=rl.ok _ (Ar J);have d8:=cr.same s1;have gd:=cr.at_.good;have gl:r.l.length<=1000:=gd.len;have wsz':(flatP r.qs).length<=100:=cr.at_.wp.sz;refine⟨R,_,rfl,SqT.of d8.at_.at_,rfl,_,_,rfl,_,_,rfl,_,_,rfl,_,_,rfl,rfl,?_⟩;show tSeq _ _ _ _ _;refine gE2 λf2 b8 M b2=>?_;refine⟨_,rfl,_,rfl,.inr (.inl ⟨_,_,rfl,rfl,by rw[q0o,q0o];exact small (by lia),?_⟩)⟩;rw[q3n];generalize hw:r.l++flatP r.qs=w at *;have f6:w.length<=1100:=by rw[<- hw,Af];lia
   refine .inr (.inr ⟨mk w,rfl,?_⟩);refine x8o (z:=mk w) (λj G B=>∃g y7,G=[some (.ref L),some (.ref d),some (.str r.kd),some (.str (mk r.l)),some (.str (mk (flatP r.qs))),some (.int (r.st:Int)),some (.bl (insB (w.take j))),y7]/\Same H B/\B d=some (.dK (kvN g))/\g.length<=3000*i+2*j/\(∀x∈Z,x∈g)/\∀j',j'<j->∀c,w[j']?=some c->c∈NS->insB (w.take (j'+1))=false->up1 c∈g/\lo1 c∈g) ⟨Z,_,rfl,s1,h1,by lia,λ_ h=>h,λj' hj=>absurd hj (by lia)⟩ ?_ ?_
   ·rintro j c G H2 hc ⟨g,y7,rfl,s2,h2,b9,I,u⟩;show tSeq _ _ _ _ _;refine gE λf3 c0 a0 b3=>?_;have a2:w[j]?=some c:=by have:=get hc;rw[q0x] at this;exact this
    have hj:=(Ap.mp a2).1;have d9:w.take (j+1)=w.take j++[c]:=q1b a2;have U:Ab "{" = mk [123]:=by trivial
    have c3:Ab "}" = mk [125]:=by trivial
    refine⟨λv B=>v=.bl (insB (w.take (j+1)))/\B=H2,?_,?_⟩;rotate_left
    ·refine⟨λv B=>v=.bl (insB (w.take j)||decide (c=123))/\B=H2,?_,?_⟩;rotate_left
     ·refine⟨_,rfl,_,rfl,?_⟩;cases hb:insB (w.take j) with
      |true=>exact iteT ⟨rfl,rfl⟩
      |false =>
       refine iteF ⟨_,rfl,.inl ⟨rfl,?_⟩⟩;rw[U,dec1];exact⟨rfl,rfl⟩
     rintro v B ⟨rfl,rfl⟩;refine⟨_,rfl,?_⟩;rw[d9,x2i];unfold insS;cases hb:(insB (w.take j)||decide (c=123)) with
     |false=>exact iteF ⟨rfl,rfl⟩
     |true =>
      refine iteT ⟨_,rfl,.inl ⟨rfl,?_⟩⟩;rw[c3,dec1];exact⟨rfl,rfl⟩
    rintro v B ⟨rfl,rfl⟩;show c0 _ _ _;subst b3;refine⟨λbb H3=>bb=(!insB (w.take (j+1))&&decide (c∈NS))/\Same B H3,?_,?_⟩;rotate_left
    ·refine⟨_,rfl,_,rfl,?_⟩;show if (!insB (w.take (j+1)))=true then _ else _
     cases hb:insB (w.take (j+1)) with
     |true=>exact iteF ⟨rfl,Same.refl _⟩
     |false =>
      refine iteT ⟨_,rfl,rfl,.inl ⟨_,_,rfl,rfl,_,rfl,?_,Same.refl _⟩⟩;rw[q3t];rfl
    rintro bb H3 ⟨rfl,s3⟩;have c4:=s2.trans s3;have c5:=s3 _ _ h2;cases hb:(!insB (w.take (j+1))&&decide (c∈NS)) with
    |false =>
     subst a0;refine iteF ⟨g,_,rfl,c4,c5,by lia,I,λj' O c' S hn a3=>?_⟩;subst M;rcases Iq.mp O with O|rfl
     ·exact u j' O c' S hn a3
     ·rw[a2] at S;cases S;rw[a3,decide_eq_true hn] at hb;cases hb
    |true =>
     obtain⟨_,e2⟩:=Ol.mp hb;have c6:=q6e c (of_decide_eq_true e2);refine iteT ⟨_,rfl,_,rfl,rfl,_,rfl,rfl,by show 3*1<=_;exact small (by lia),?_⟩;rw[show Pk (⟨#[c]⟩:Str)=mk [up1 c] from upp1 c6];have b4:(kvN g).length<sizeLine:=by rw[Ae];exact small' (by lia)
     refine⟨d,_,rfl,DPut.k (k:=Sum.inr (mk [up1 c])) c5 b4,?_⟩;rw[z1c];have l3:=z1e (ks:=g) (c:=up1 c);have c7:upd H3 d (.dK (kvN (addN g (up1 c)))) d=some (.dK (kvN (addN g (up1 c)))):=q0c;have s4:=c4.put (o:=.dK (kvN (addN g (up1 c)))) hd;generalize upd H3 d (.dK (kvN (addN g (up1 c))))=H4 at c7 s4;refine⟨_,rfl,_,rfl,rfl,_,rfl,rfl,by show 3*1<=_;exact small (by lia),?_⟩;rw[show Pj (⟨#[c]⟩:Str)=mk [lo1 c] from low1 c6];have c8:(kvN (addN g (up1 c))).length<sizeLine:=by rw[Ae];exact small' (by lia)
     refine⟨d,_,rfl,DPut.k (k:=Sum.inr (mk [lo1 c])) c7 c8,?_⟩;subst a0;rw[z1c];have l4:=z1e (ks:=addN g (up1 c)) (c:=lo1 c);refine⟨addN (addN g (up1 c)) (lo1 c),_,rfl,s4.put hd,q0c,by lia,λx J=>q2y (q2y (I x J)),λj' O c' S hn a3=>?_⟩;rcases Iq.mp O with O|rfl
     ·obtain⟨y1,y2⟩:=u j' O c' S hn a3;exact⟨q2y (q2y y1),q2y (q2y y2)⟩
     ·rw[a2] at S;cases S;exact⟨q2y z1d,z1d⟩
   ·rintro G H2 ⟨g,y7,rfl,s2,h2,b9,I,u⟩;show b8 _ _ _;subst b2;rw[q0o] at b9 u;have U:Ab "{" = ⟨#[123]⟩:=by trivial
    have f7:=q0o (flatP r.qs);have e3:=PC.sc_len (s:=123) (flatP r.qs);have f8:(PySem.Txt.split (mk (flatP r.qs)) (Ab "{")).length<=1000:=by rw[U,<- Ae (f:=tl),PC.split_sc 123,q0x];lia
    have e1:(Ab "{").length=1:=by trivial
    refine⟨rfl,_,rfl,rfl,_,_,rfl,rfl,by rw[e1];rfl,small (by lia),small (by lia),?_,λS1 e4=>?_⟩
    ·rw[PyProof.Rows.len_partsBetween];have:=Nj (mk (flatP r.qs)) (Ab "{") 0 (mk (flatP r.qs)).length ((mk (flatP r.qs)).length+1);exact small (by lia)
    rw[U,PC.split_mk 123,q0x];have a7:=x5s (s:=123) (flatP r.qs);have a8:∀x∈PC.sc 123 (flatP r.qs),x.length<=100:=λx J=>Ay (x2k J) wsz';have hz:=λ{k v:Nat}=>z_in (k:=k) (v:=v) cr.at_.wp.ok;generalize PC.sc 123 (flatP r.qs)=sg at a7 a8 hz e3;have t1:=(Same.refl H2).new (o:=.lst (vN sg)) e4;have g1:upd H2 S1 (.lst (vN sg)) S1=some (.lst (vN sg)):=q0c;generalize upd H2 S1 (.lst (vN sg))=H3 at t1 g1;refine⟨_,rfl,.inr (.inl ⟨S1,_,rfl,SqL.of g1,λS2 e5=>?_⟩)⟩;rw[cutN1 sg a7];have b5:∀x∈sg.tail,x.length<=100:=λx J=>a8 x (List.mem_of_mem_tail J);have a1:sg.tail.length<=101:=by rw[List.length_tail];lia
    generalize sg.tail=W at b5 hz a1;have t2:=t1.new (o:=.lst (vN W)) e5;have g2:upd H3 S2 (.lst (vN W)) S2=some (.lst (vN W)):=q0c;generalize upd H3 S2 (.lst (vN W))=H4 at t2 g2;refine .inl ⟨S2,rfl,⟨_,SqL.of g2⟩,λD1 c9=>?_⟩;refine z7z (xs:=vN W) (λj ys B=>ys=vN ((W.take j).map λx=>(x.drop 1).take 1)/\Same H4 B/\B D1=some (.lst ys)) ⟨rfl,(Same.refl H4).new c9,q0c⟩ (λj ys B x=>⟨x.2.2,SqL.of (x.2.1 _ _ g2)⟩) ?_ ?_
    ·rintro j ys B v hv ⟨rfl,s',h'⟩;rw[Be] at hv;obtain⟨x,J,rfl⟩:=Bh.mp hv;have hj:=(Ap.mp J).1;have f9:=b5 x (Ar J);refine⟨_,rfl,_,rfl,_,rfl,.inl ⟨_,rfl,small (by rw[q0o];lia),?_⟩⟩;rw[x5u];refine⟨h',small' (by rw[Ae,Ae,Cg];lia),?_,s'.put c9,q0c⟩;rw[q1b J,Bb,x7r];rfl
    rintro ys H5 ⟨rfl,s5,h5⟩;rw[Ae,Ci] at h5;have g0:(((W.map λx=>(x.drop 1).take 1).map mk).map (·.length)).sum<=W.length:=by
     clear h5 hz a1 b5 g2 t2;induction W with
     |nil=>exact Aj _
     |cons a r ih =>
      rw[Am,Am,Am,List.sum_cons,q0o,Bc,Cg];lia
    have e6:vN (W.map λx=>(x.drop 1).take 1)=((W.map λx=>(x.drop 1).take 1).map mk).map V.str:=by rw[Ct (f:=mk)];rfl
    refine⟨_,D1,(W.map λx=>(x.drop 1).take 1).map mk,rfl,rfl,.inl (SqL.of (by rw[<- e6];exact h5)),?_,?_⟩
    ·have e0:(Ab "").length=0:=by trivial
     rw[e0,Ae,Ae];lia
    have ez:Ab "z" = ⟨#[122]⟩:=by trivial
    refine .inl ⟨_,_,rfl,rfl,_,rfl,?_⟩;rw[ez,q3t,z9y,Ct,show(tl∘mk)=id from funext λx=>q0x x,List.map_id];have d0:=s2.trans (t2.trans s5);have d1:=s5 _ _ (t2 _ _ h2);have d2:∀{Y:List Nat},(∀x∈g,x∈Y)->(decide (122∈(W.map λx=>(x.drop 1).take 1).flatten)=true->48∈Y)->∀x∈rs.take (i+1),KnR Y x.2:=by
     intro Y a4 e7 x d3;rw[Fu,J] at d3;rcases Au.mp d3 with z|z
     ·exact λc hc=>⟨a4 _ (I _ ((X x z c hc).1)),a4 _ (I _ ((X x z c hc).2))⟩
     ·rw[Ao.mp z];intro c hc;obtain⟨d4,d5⟩:=seen (qs:=r.qs) gd cr.at_.wp.ok;rw[hw] at d4 d5;have d6:(∃j,w[j]?=some c/\insB (w.take (j+1))=false)->c∈NS->up1 c∈Y/\lo1 c∈Y:=λ⟨j,d7,e8⟩ hn=>by
       obtain⟨y1,y2⟩:=u j (Ap.mp d7).1 c d7 hn e8;exact⟨a4 _ y1,a4 _ y2⟩
      rcases Au.mp hc with hc|hc
      ·obtain⟨c1,c2⟩:=j0k gd hc;exact d6 (d4 c c1 c2) c2
      ·obtain⟨t,ht,a5⟩:=Hg.mp hc;obtain⟨p,hp,rfl⟩:=Az.mp ht;cases p with
       |tx t=>exact d6 (d5 t hp c a5) ((cr.at_.wp.ok _ hp).2 c a5)
       |nou k v =>
        rw[Ao.mp a5];have:=e7 (decide_eq_true (hz hp));exact⟨this,this⟩
       |_=>cases a5
    cases hb:decide (122∈(W.map λx=>(x.drop 1).take 1).flatten) with
    |false=>subst M;exact iteF ⟨g,_,_,_,_,_,_,rfl,d0,d1,by lia,d2 (λ_ h=>h) λz=>(by rw[hb] at z;cases z)⟩
    |true =>
     have e9:Ab "0" = mk [48]:=by trivial
     have b4:(kvN g).length<sizeLine:=by rw[Ae];exact small' (by lia)
     refine iteT ⟨_,rfl,d,_,rfl,DPut.k (k:=Sum.inr (Ab "0")) d1 b4,?_⟩;subst M;rw[e9,z1c];have l4:=z1e (ks:=g) (c:=48);exact⟨addN g 48,_,_,_,_,_,_,rfl,d0.put hd,q0c,by lia,d2 (λ_ h=>q2y h) λ_=>z1d⟩
  ·rintro G H1 ⟨Z,x2,x3,x4,x5,x6,x7,rfl,s1,h1,a6,X⟩;show b7 _ _ _;subst b1;rw[Ae,Ci] at X;rw[Ae] at a6;refine⟨_,rfl,d,_,rfl,h1,?_⟩;subst a9;rw[Ae];exact k Z.length _ (by lia) (λx J y hy=>kn_nmO (rl.ok x J) (rl.ok y hy) (X x J) (X y hy)) s1
end
end K
namespace K
open PySem L2 TX
section
variable{P:Aq}{w:World}{K:Ai}{mg:Str->Option Value}{base:Heap}
noncomputable def spShapes(K:Ai):Sp:=λvs H Q _=>∃L rs,∃n:Nat,vs=[.ref L,.int (n)]/\RLs K H L rs/\rs.length<=10/\n<=4/\∀ v  H',(∀x∈rs,∀y∈rs,((nmO x.2 y.2).length+4)^n<=v)->Same H H'->Q (.int (v)) H'
noncomputable abbrev q8f:Stmt:=top 84
def sc_shapes:FnScope ["_law_rules", "_law_most_here", "_law_found_here", "_law_k"] Zb (defScope q8f):=by trivial
def x2l(D:Df K mg "_law_shapes" q8f Zb)(T:Txt mg)(C:Cal P w K mg base "_law_signs" 2 Yp (spSigns K)):Cal P w K mg base "_law_shapes" 3 Zb (spShapes K):=by
 refine D.cal sc_shapes (λvs H Q E h=>?_) (λf G A outer s H vs Q E I h=>?_)
 ·obtain⟨L,j,n,rfl,_⟩:=h;rfl
 ·obtain⟨L,j,n,rfl,rl,o,hn,k⟩:=h;refine⟨_,(q0b (q0l (i:=2) sc_shapes.nd rfl (by trivial) q0f) (q0b (q1g Bj rfl (q1w rfl T.b_range (q0a (pv 1) q0d)) (q0k (i:=3) sc_shapes.nd rfl (by trivial)) (q0e (q0l (i:=2) sc_shapes.nd rfl (by trivial) (q0u q7j (pv 2) (q0u q0n (pe_c C I (q0a (pv 0) q0d)) q0f))))) (q0e (q0m (pv 2))))),?_⟩;refine⟨_,rfl,(n:Int),rfl,by lia,by lia,q1y (n:=n) (λi g J=>(∃(v:Nat) (x:Option V),g=[some (.ref L),some (.int (n:Int)),some (.int (v:Int)),x]/\∀x∈j,∀y∈j,((nmO x.2 y.2).length+4)^i<=v)/\Same H J) ⟨⟨1,none,rfl,λ_ _ _ _=>Aj _⟩,Same.refl _⟩ ?_ ?_⟩
  ·rintro i g H1 hi ⟨⟨v,x,rfl,hv⟩,s1⟩;refine⟨_,rfl,_,rfl,L,j,rfl,rl.same s1,o,λm O R u M=>.inl ⟨_,_,rfl,rfl,.inl ⟨_,_,rfl,rfl,.inr ⟨by lia,by lia⟩,?_⟩⟩⟩;have e:((v:Nat):Int)*((m:Int)+4)=((v*(m+4):Nat):Int):=by rw[Int.natCast_mul];rfl
   refine⟨⟨v*(m+4),_,congrArg (λz=>[some (V.ref L),some (V.int (n:Int)),some (V.int z),_]) e,λx B y F=>?_⟩,s1.trans M⟩;rw[Vo];exact Nat.mul_le_mul (hv x B y F) (by have:=u x B y F;lia)
  ·rintro g H1 ⟨⟨v,x,rfl,hv⟩,s1⟩;exact⟨_,rfl,k v _ hv s1⟩
def CRule.tk(h:CRule K H R r)(k:∀xs,H R=some (.tup xs)->H' R=some (.tup xs)):CRule K H' R r:=⟨⟨k _ h.at_.at_,h.at_.kok,h.at_.good,h.at_.wp,h.at_.st0,h.at_.st1,h.at_.ask⟩,h.ok,h.nc,h.tx⟩
def z1g(F:FeedAt H a b)(fd:Fd a b H H'):∀{R} {xs},H R=some (.tup xs)->H' R=some (.tup xs):=λ{R xs} e=>fd.at e λz=>by
 obtain⟨_,_,f⟩:=F.fa;rw[<- z,e] at f;cases f
def RLs.fd(h:RLs K H L rs)(F:FeedAt H a b)(fd:Fd a b H H')(f:L≠a):RLs K H' L rs:=⟨fd.at h.at_ f,λx g=>(h.ok x g).tk λj e=>z1g F fd e⟩
noncomputable def spMost(K:Ai):Sp:=λvs H Q _=>∃a b L rs,vs=[.ref a,.ref L]/\FeedAt H a b/\RLs K H L rs/\rs.length<=10/\L≠a/\∀(n:Nat) H',n<=4->(n=0\/∀x∈rs,∀y∈rs,((nmO x.2 y.2).length+4)^n<=64)->Fd a b H H'->Q (.int (n)) H'
noncomputable def msM(σ:St):Nat:=match σ[2]? with|some (some (V.int n))=>n.toNat|_=>0
noncomputable abbrev z5k:Stmt:=top 85
def sc_most:FnScope ["_law_feed", "_law_rules", "_law_most_here"] Zk (defScope z5k):=by trivial
def j0l(D:Df K mg "_law_most" z5k Zk)(T:Txt mg)(C:Cal P w K mg base "_law_draw" 1 Z4 spDraw/\Cal P w K mg base "_law_shapes" 3 Zb (spShapes K)):Cal P w K mg base "_law_most" 4 Zk (spMost K):=by
 refine D.cal sc_most (λvs H Q E h=>?_) (λf X A outer s H vs Q E U h=>?_)
 ·obtain⟨a,b,L,o,rfl,_⟩:=h;rfl
 ·obtain⟨a,b,L,o,rfl,F,rl,B,G,k⟩:=h;refine⟨_,(q0b (q0l (i:=2) sc_most.nd rfl (by trivial) (q0u q0n q0f (pe_c C.1 U (q0a (pv 0) (q0a q0f q0d))))) (q0b (q9p Bj (pt_j (@PW.pt _ _ _ (q2v (q0h q6h (pv 2) q0f (nomark _)) (q2c (q0h q6h (pe_c C.2 U (q0a (pv 1) (q0a (pv 2) q0d))) q0f (nomark _)))))) (q0e (q0l (i:=2) sc_most.nd rfl (by trivial) (q0u z6a (pv 2) q0f)))) (q0e (q0m (pv 2))))),?_⟩;refine⟨_,rfl,a,b,_,rfl,F,by decide,by decide,λr W r0 r1 j=>.inl ⟨_,_,rfl,rfl,?_⟩⟩;obtain⟨Y,Z⟩:∃n:Nat,1+r=(n:Int):=⟨(1+r).toNat,by lia⟩
  rw[Z];have I:=rl.fd F j G;refine q9q (λg M=>∃n:Nat,g=[some (.ref a),some (.ref L),some (.int (n:Int))]/\n<=4/\Same W M) (λg _=>msM g) ⟨Y,rfl,by lia,Same.refl _⟩ ?_ ?_
  ·rintro g M ⟨n,rfl,hn,O⟩;refine⟨λR S=>Same W S/\(R=true->0<n)/\(R=false->n=0\/∀x∈o,∀y∈o,((nmO x.2 y.2).length+4)^n<=64),?_,?_⟩;rotate_left
   ·refine⟨_,rfl,_,_,rfl,rfl,_,rfl,iteB (λh=>?_) (λh=>⟨O,λz=>(by cases z),λ_=>.inl (by have:=of_decide_eq_false h;lia)⟩)⟩;have hp:=of_decide_eq_true h;refine⟨_,rfl,_,rfl,L,o,n,rfl,I.same O,B,hn,λv H4 hv u=>⟨_,_,rfl,rfl,_,rfl,O.trans u,λ_=>by lia,λz=>.inr λx hx y hy=>?_⟩⟩;have:=of_decide_eq_false z;have:=hv x hx y hy;lia
   rintro R H4 ⟨u,hT,hF⟩;refine ite2 (λh=>?_) (λh=>?_)
   ·have hp:=hT h;refine⟨_,rfl,_,_,rfl,rfl,?_⟩;have e:((n:Nat):Int)-1=((n-1:Nat):Int):=by lia
    refine⟨⟨n-1,congrArg (λz=>[some (V.ref a),some (V.ref L),some (V.int z)]) e,by lia,u⟩,?_⟩;show((n:Int)-1).toNat<((n:Nat):Int).toNat;lia
   ·exact⟨_,rfl,k n _ hn (hF (by simpa using h)) (j.same u)⟩
  ·intro g M Q1 Q2 hq h;obtain⟨J,h1,h2⟩:=h;exact⟨J,λb S x=>hq _ _ (h1 b S x),h2⟩
noncomputable def norm:List Pc->List Pc
 |[]=>[]
 |.tx x::r=>match norm r with
  |.tx y::s=>.tx (x++y)::s
  |s=>.tx x::s
 |q::r=>q::norm r
noncomputable def isTx:Pc->Bool
 |.tx _=>true
 |_=>false
def q5u(x)(r):(∃y s,norm r=.tx y::s/\norm (.tx x::r)=.tx (x++y)::s)\/((∀y s,norm r≠.tx y::s)/\norm (.tx x::r)=.tx x::norm r):=by
 cases h:norm r with
 |nil=>exact .inr ⟨λ_ _ z=>(by cases z),by rw[norm,h]⟩
 |cons q s =>
  cases q with
  |tx y=>exact .inl ⟨y,s,rfl,by rw[norm,h]⟩
  |_=>exact .inr ⟨λ_ _ z=>(by cases z),by rw[norm,h]⟩
def q5v(h:isTx q=false)(r):norm (q::r)=q::norm r:=by
 cases q with
 |tx _=>cases h
 |_=>rfl
theorem q8g:∀ts,flatP (norm ts)=flatP ts
 |[]=>rfl
 |q::r=>by
  have f:=q8g r;cases hq:isTx q with
  |false=>rw[q5v hq,q0s,q0s,f]
  |true =>
   cases q with
   |tx x =>
    rcases q5u x r with⟨y,s,h,g⟩|⟨_,g⟩
    ·rw[h,q0s] at f;rw[g,q0s,q0s,<- f];show(x++y)++flatP s=x++(y++flatP s)
     rw[Dj]
    ·rw[g,q0s,q0s,f]
   |_=>cases hq
theorem z1h:∀{ts},(∀q∈ts,q.ok)->∀q∈norm ts,q.ok/\(isTx q=true\/q∈ts)
 |[],_,q,h=>by cases h
 |p::r,h,q,hq=>by
  have g:=z1h (ts:=r) λx f=>h x (Ak _ f);have up:∀z,z∈norm r->z.ok/\(isTx z=true\/z∈p::r):=λz j=>⟨(g z j).1,(g z j).2.imp id (Ak _)⟩
  cases hp:isTx p with
  |false =>
   rw[q5v hp] at hq;rcases Av.mp hq with z|z
   ·rw[z];exact⟨h p Al,.inr Al⟩
   ·exact up q z
  |true =>
   cases p with
   |tx x =>
    have f:=h (.tx x) Al;rcases q5u x r with⟨y,s,o,u⟩|⟨_,u⟩
    ·rw[u] at hq;rcases Av.mp hq with z|z
     ·have v:=(g (.tx y) (by rw[o];exact Al)).1;rw[z];exact⟨⟨λw=>f.1 (Mx.mp w).1,λc B=>(Au.mp B).elim (f.2 c) (v.2 c)⟩,.inl rfl⟩
     ·exact up q (by rw[o];exact Ak _ z)
    ·grind
   |_=>cases hp
theorem x2m:∀ ts   i  (x y),(norm ts)[i]?=some (.tx x)->(norm ts)[i+1]?≠some (.tx y)
 |[],i,x,y,h=>by cases h
 |p::r,i,x,y,h=>by
  have f:=x2m r;cases hp:isTx p with
  |false =>
   rw[q5v hp] at h ⊢;cases i with
   |zero=>cases h;cases hp
   |succ i=>exact f i x y h
  |true =>
   cases p with
   |tx a =>
    rcases q5u a r with⟨b,s,j,g⟩|⟨j,g⟩
    ·rw[g] at h ⊢;rw[j] at f;cases i with
     |zero=>exact f 0 b y rfl
     |succ i=>simp_all
    ·rw[g] at h ⊢;cases i with
     |zero =>
      cases hn:norm r with
      |nil=>simp_all
      |cons q s =>simp_all
     |succ i=>exact f i x y h
   |_=>cases hp
noncomputable def inOk:Bool->List Pc->Prop
 |b,[]=>b=false
 |b,q::r=>if pcI q=true then b=false/\inOk true r else inOk false r
def q1h(h:pcI q=false):inOk b (q::r)↔inOk false r:=by
 show(if pcI q=true then _ else _)↔_;rw[h,if_neg (by decide)]
def q2b(h:pcI q=true):inOk b (q::r)↔b=false/\inOk true r:=by
 show(if pcI q=true then _ else _)↔_;rw[if_pos h]
theorem z1i:∀{ts} {b},inOk b ts->inOk b (norm ts)
 |[],_,h=>h
 |p::r,b,h=>by
  cases hp:isTx p with
  |false =>
   rw[q5v hp];cases hi:pcI p with
   |true =>
    have:=(q2b hi).mp h;exact(q2b hi).mpr ⟨this.1,z1i this.2⟩
   |false=>exact(q1h hi).mpr (z1i ((q1h hi).mp h))
  |true =>
   cases p with
   |tx x =>
    have h:=z1i ((q1h rfl).mp h);rcases q5u x r with⟨y,s,g,f⟩|⟨_,f⟩
    ·rw[g] at h;rw[f];exact(q1h rfl).mpr ((q1h rfl).mp h)
    ·rw[f];exact(q1h rfl).mpr h
   |_=>cases hp
theorem z5l:∀{ts} {b},inOk b ts->∀i,ts[i]?=some .into->(b=true->1<=i)/\(1<=i->ts[i-1]?≠some .into)
 |[],_,_,i,h=>by cases h
 |p::r,b,h,i,hi=>by
  cases hp:pcI p with
  |true =>
   obtain⟨g,f⟩:=(q2b hp).mp h;cases i with
   |zero=>grind
   |succ i =>
    have:=z5l f i hi;cases i with
    |zero=>grind
    |succ i=>simp_all
  |false =>
   have f:=(q1h hp).mp h;cases i with
   |zero=>cases hi;cases hp
   |succ i =>
    have:=z5l f i hi;refine⟨λ_=>by lia,λ_ z=>?_⟩;cases i with
    |zero=>cases z;cases hp
    |succ i=>simp_all
theorem x2n:∀{ts} {b},inOk b ts->∀q,ts.getLast?=some q->q≠.into
 |[],_,_,q,h=>by cases h
 |[p],b,h,q,hq=>by
  rw[List.getLast?_singleton] at hq;cases hq;intro z;rw[z] at h;have:=((q2b (q:=.into) rfl).mp h).2;cases this
 |p::r::s,b,h,q,hq=>by
  have f:∃g,inOk g (r::s):=by
   cases hp:pcI p with
   |true=>exact⟨true,((q2b hp).mp h).2⟩
   |false=>exact⟨false,(q1h hp).mp h⟩
  obtain⟨g,f⟩:=f;exact x2n f q (by rw[List.getLast?_cons_cons] at hq;exact hq)
theorem z1j:∀{ts} {b} {q},pcI q=false->inOk b ts->inOk b (ts++[q])
 |[],b,q,hq,h=>(q1h hq).mpr rfl
 |p::r,b,q,hq,h=>by
  show inOk b (p::(r++[q]));cases hp:pcI p with
  |true =>
   have:=(q2b hp).mp h;exact(q2b hp).mpr ⟨this.1,z1j hq this.2⟩
  |false=>exact(q1h hp).mpr (z1j hq ((q1h hp).mp h))
theorem q8h:∀{ts} {b} {q},pcI q=false->inOk b ts->inOk b (ts++[.into,q])
 |[],b,q,hq,h=>(q2b (q:=.into) rfl).mpr ⟨h,(q1h hq).mpr rfl⟩
 |p::r,b,q,hq,h=>by
  show inOk b (p::(r++[.into,q]));cases hp:pcI p with
  |true =>
   have:=(q2b hp).mp h;exact(q2b hp).mpr ⟨this.1,q8h hq this.2⟩
  |false=>exact(q1h hp).mpr (q8h hq ((q1h hp).mp h))
theorem z1k(g:∀q,pcI (f q)=pcI q):∀{ts} {b},inOk b ts->inOk b (ts.map f)
 |[],_,h=>h
 |p::r,b,h=>by
  rw[Am];cases hp:pcI p with
  |true =>
   have:=(q2b hp).mp h;exact(q2b ((g p).trans hp)).mpr ⟨this.1,z1k g this.2⟩
  |false=>exact(q1h ((g p).trans hp)).mpr (z1k g ((q1h hp).mp h))
theorem z7d:∀{a r} {b},(∀q∈a,pcI q=false)->inOk b (a++.into::r)->inOk b (a++r)
 |[],r,b,_,h=>by
  obtain⟨o,g⟩:=(q2b (q:=.into) rfl).mp h;cases r with
  |nil=>cases g
  |cons p s =>
   cases f:pcI p with
   |true=>have:=((q2b f).mp g).1;cases this
   |false=>exact(q1h f).mpr ((q1h f).mp g)
 |p::a,r,b,ha,h=>by
  have f:=ha p Al;exact(q1h f).mpr (z7d (λq j=>ha q (Ak _ j)) ((q1h f).mp h))
theorem z7e:∀ts,wsz (norm ts)=wsz ts/\((norm ts).filter pcI).length=(ts.filter pcI).length
 |[]=>⟨rfl,rfl⟩
 |p::r=>by
  obtain⟨f,g⟩:=z7e r;cases hp:isTx p with
  |false =>
   rw[q5v hp];refine⟨by show pcB p+wsz (norm r)=pcB p+wsz r;rw[f],?_⟩;rw[Kn,Kn];split
   ·grind
   ·exact g
  |true =>
   cases p with
   |tx x =>
    rcases q5u x r with⟨y,s,j,h⟩|⟨_,h⟩
    ·rw[j] at f g;rw[h];have f:y.length+wsz s=wsz r:=f;refine⟨?_,g⟩;show(x++y).length+wsz s=x.length+wsz r;rw[Af];lia
    ·rw[h];exact⟨by show x.length+wsz (norm r)=x.length+wsz r;rw[f],g⟩
   |_=>cases hp
def j0m(g:inOk true ts)(j:∀q∈ts,q.ok)(hl:(flatP ts).length<=100):WP (norm ts):=by
 have hn:=z1i g;refine⟨λz=>?_,λq o=>(z1h j q o).1,x2m ts,λi h=>?_,x2n hn,by rw[q8g];exact hl⟩
 ·rw[z] at hn;cases hn
 ·have:=z5l hn i h;have f:=this.1 rfl;exact⟨f,this.2 f⟩
def x2o(u)(q):gsOf (tp u++q)=gsOf q:=by unfold tp;split<;>rfl
theorem z1l:∀(l u),gsOf (parse u l)=l.filter λc=>decide (c∈GS)
 |[],u=>by
  have:=x2o u [];rw[Cd] at this;exact this
 |c::r,u=>by
  rw[parse];by_cases h:c∈GS
  ·rw[if_pos h,x2o,Iv (by rw[decide_eq_true h])];show c::gsOf (parse [] r)=_;rw[z1l r []]
  ·rw[if_neg h,Iu (by rw[decide_eq_false h];decide)];exact z1l r _
noncomputable def gpn(l:List Nat):Nat:=(l.filter λc=>decide (c∈GS)).length
noncomputable def tokB(G:Nat):Pc->Bool
 |.into=>true
 |.tx t=>decide (t.length=1/\∀c∈t,c∈NS)
 |.gap k=>decide (1<=k/\k<=G)
 |.great k=>decide (1<=k/\k<=G)
 |.small k=>decide (1<=k/\k<=G)
 |.nou k v=>decide (1<=k/\k<=G/\1<=v/\v<=2)
 |_=>false
structure TokF (G) (q:Pc):Prop where
 ok:q.ok
 nm:isMo q=false
 nc:isCn q=false
 gp:∀k,gapNo q=some k->1<=k/\k<=G
 wl:q.wr.length<=5
 pb:pcB q<=13
 px:(pcx q).length<=1
def tokF(j:G<=9)(h:tokB G q=true):TokF G q:=by
 cases q with
 |into=>exact⟨trivial,rfl,rfl,λk e=>(by cases e),by decide,by decide,Ba _⟩
 |tx t =>
  have h:=of_decide_eq_true h;have g:=h.1;exact⟨⟨λz=>(by rw[z] at g;cases g),h.2⟩,rfl,rfl,λk e=>(by cases e),by show t.length<=5;lia,by show t.length<=13;lia,by show t.length<=1;lia⟩
 |gap k=>have h:=of_decide_eq_true h;exact⟨⟨h.1,by lia⟩,rfl,rfl,λf e=>by cases e;exact h,by show 3<=5;decide,Aj _,Ba _⟩
 |great k=>have h:=of_decide_eq_true h;exact⟨⟨h.1,by lia⟩,rfl,rfl,λf e=>by cases e;exact h,by show 4<=5;decide,Aj _,Ba _⟩
 |small k=>have h:=of_decide_eq_true h;exact⟨⟨h.1,by lia⟩,rfl,rfl,λf e=>by cases e;exact h,by show 4<=5;decide,Aj _,Ba _⟩
 |nou k v=>have h:=of_decide_eq_true h;exact⟨⟨⟨h.1,by lia⟩,by lia,by lia⟩,rfl,rfl,λf e=>by cases e;exact⟨h.1,h.2.1⟩,by show 5<=5;decide,Aj _,Aj _⟩
 |_=>cases h
structure Raw (l) (ts):Prop where
 ne:l≠[]
 ll:l.length<=5
 lo:∀c∈l,c∈GS\/c∈NS
 ti:inOk true ts
 len:ts.length<=6
 tok:∀q∈ts,tokB (gpn l) q=true
noncomputable def mkN(kd:Str)(l:List Nat)(ts:List Pc)(st:Nat):RD:=⟨kd,l,norm ts,st⟩
def z8s{l:List (List Nat)}(h:∀x∈l,x.length<=k):l.flatten.length<=k*l.length:=by
 have:=q9m h;rw[List.flatMap_id',Nat.mul_comm] at this;exact this
def wsz_le(h:∀q∈ts,pcB q<=13):wsz ts<=13*ts.length:=by
 unfold wsz;induction ts with
 |nil=>exact Aj _
 |cons a r ih =>grind
theorem x2p:∀ts,((norm ts).map pcx).flatten=(ts.map pcx).flatten
 |[]=>rfl
 |p::r=>by
  have f:=x2p r;cases hp:isTx p with
  |false=>rw[q5v hp,Am,Fh,Am,Fh,f]
  |true =>
   cases p with
   |tx x =>
    rcases q5u x r with⟨y,s,h,g⟩|⟨_,g⟩
    ·rw[h,Am,Fh] at f;rw[g,Am,Fh,Am,Fh,<- f];show(x++y)++_=x++(y++_)
     rw[Dj]
    ·grind
   |_=>cases hp
theorem z5m:∀(l u),((parse u l).map ptx).flatten.length<=u.length+l.length
 |[],u=>by
  show((tp u).map ptx).flatten.length<=_;unfold tp;split
  ·exact Ba _
  ·show(u++[]).length<=_;rw[Cd];exact Aj _
 |c::r,u=>by
  rw[parse];split
  ·have f:=z5m r [];have e:((tp u++Pt.gp c::parse [] r).map ptx).flatten=((tp u).map ptx).flatten++((parse [] r).map ptx).flatten:=by
    rw[Bb,Kx,Am,Fh];rfl
   have g:((tp u).map ptx).flatten.length<=u.length:=by
    unfold tp;split
    ·exact Ba _
    ·show(u++[]).length<=_;rw[Cd];exact Aj _
   rw[Hu] at f;rw[Bc];refine Ay (Fb (congrArg List.length e)) ?_;rw[Af];lia
  ·have f:=z5m r (u++[c]);rw[Af,Bi] at f;rw[Bc];lia
def q8i(h:Raw l ts)(u:st<=1000000000)(hk:inV (.str kd) kinds3=true)(s:.into∈ts->kd=Ab "slip")(v:H R=some (.tup [.str kd,.str (mk l),.str (mk (flatP ts)),.int (st)])):CRule K H R (mkN kd l ts st):=by
 have F:gpn l<=5:=Ay (Di _ _) h.ll;have g:=λq f=>tokF (by lia) (h.tok q f);have j:∀q∈norm ts,q.ok/\isMo q=false/\isCn q=false/\∀k,gapNo q=some k->1<=k/\k<=gpn l:=λq f=>by
  obtain⟨o,z⟩:=z1h (λq f=>(g q f).ok) q f;rcases z with z|z
  ·cases q with
   |tx t=>exact⟨o,rfl,rfl,λk e=>(by cases e)⟩
   |_=>cases z
  ·exact⟨o,(g q z).nm,(g q z).nc,(g q z).gp⟩
 have B:(flatP ts).length<=30:=by
  have:=q9m λq f=>(g q f).wl;have e:flatP ts=ts.flatMap Pc.wr:=by unfold flatP;rw[Rp]
  have:=h.len;rw[e];lia
 obtain⟨G,I⟩:=z7e ts;refine⟨⟨by show H R=some (.tup [.str kd,.str (mk l),.str (mk (flatP (norm ts))),.int (st:Int)]);rw[q8g];exact v,hk,⟨h.ne,h.lo,by show gpn l<=9;lia,by have:=h.ll;show l.length<=1000;lia⟩,j0m h.ti (λq f=>(g q f).ok) (by lia),by show(0:Int)<=(st:Int);lia,by show(st:Int)<=1000000000;lia,λq f=>?_⟩,?_,λq f=>(j q f).2.2.1,?_⟩
 ·show AskOk kd (gsOf (parse [] l)) q;rw[z1l];have:=j q f;exact⟨this.2.2.2,λk m z=>(by rw[z] at this;have:=this.2.1;cases this),λz=>s (by rw[z] at f;rcases(z1h (λq f=>(g q f).ok) _ f).2 with y|y;cases y;exact y)⟩
 ·refine⟨by show st<=_;lia,?_,λq f=>(j q f).2.1,λq f=>(j q f).1,?_⟩
  ·show((norm ts).filter pcI).length<=10;have:=Di pcI ts;have:=h.len;lia
  ·show wsz (norm ts)<=100;have:=wsz_le λq f=>(g q f).pb;have:=h.len;lia
 ·show(((parse [] l).map ptx).flatten++((norm ts).map pcx).flatten).length<=1000;rw[Af,x2p];have C:=z5m l [];have D:=z8s λx E=>by
   obtain⟨q,f,rfl⟩:=Az.mp E;exact(g q f).px
  rw[Ae] at D;rw[Hu] at C;have:=h.ll;have:=h.len;lia
def x5w(h:Raw l ts)(f:st<=1000)(g:H R=some (.tup [.str (Ab "slip"),.str (mk l),.str (mk (flatP ts)),.int (st)])):CRule K H R (mkN (Ab "slip") l ts st):=q8i h (by lia) (by trivial) (λ_=>rfl) g
structure RawAt (H:Hp) (R) (l) (ts) (st:Nat):Prop where
 at_:H R=some (.tup [.str (Ab "slip"),.str (mk l),.str (mk (flatP ts)),.int (st)])
 ok:Raw l ts
 st:st<=10
 ne:ts≠[]
noncomputable def gapP(k:Nat):Nat->Pc
 |0=>.gap k
 |1=>.gap k
 |2=>.great k
 |3=>.small k
 |_=>.nou k 2
noncomputable def gapS:Nat->Str
 |0=>Ab ""
 |1=>Ab ""
 |2=>Ab "u"
 |3=>Ab "l"
 |_=>Ab "z2"
def gap_wr(hk:k<10)(f:j<5):Ab "{" ++ mk (dg k)++gapS j++Ab "}" = mk (gapP k j).wr:=by
 rw[q2w hk];apply ext;have g:tl (Ab "{")=[123]:=by trivial
 have h:tl (Ab "}")=[125]:=by trivial
 rw[q2o,q2o,q2o,g,h,q0x [48+k],q0x (gapP k j).wr];match j,f with
 |0,_=>rw[show tl (gapS 0)=[] from by trivial];rfl
 |1,_=>rw[show tl (gapS 1)=[] from by trivial];rfl
 |2,_=>rw[show tl (gapS 2)=[117] from by trivial];rfl
 |3,_=>rw[show tl (gapS 3)=[108] from by trivial];rfl
 |4,_=>rw[show tl (gapS 4)=[122,50] from by trivial];rfl
def j0n(f:1<=k)(h:k<=g):tokB g (gapP k j)=true/\pcI (gapP k j)=false/\(gapP k j).wr.length<=5:=by
 unfold gapP;split
 ·exact⟨decide_eq_true ⟨f,h⟩,rfl,by show 3<=5;decide⟩
 ·exact⟨decide_eq_true ⟨f,h⟩,rfl,by show 3<=5;decide⟩
 ·exact⟨decide_eq_true ⟨f,h⟩,rfl,by show 4<=5;decide⟩
 ·exact⟨decide_eq_true ⟨f,h⟩,rfl,by show 4<=5;decide⟩
 ·exact⟨decide_eq_true ⟨f,h,by decide,by decide⟩,rfl,by show 5<=5;decide⟩
def j0o(f:0<=r)(g:r<5):atI [V.str (Ab ""),.str (Ab ""),.str (Ab "u"),.str (Ab "l"),.str (Ab "z2")] r=some (.str (gapS r.toNat)):=by
 have:r=0\/r=1\/r=2\/r=3\/r=4:=by lia
 rcases this with rfl|rfl|rfl|rfl|rfl<;>rfl
def x5x(j):(gapS j).length<=2:=by
 unfold gapS;split<;>decide +kernel
def z7f:gpn (l++[c])=gpn l+(if c∈GS then 1 else 0):=by
 unfold gpn;split
 ·simp_all
 ·simp_all
def g5:∀c∈tl (Ab "?*@#?"),c∈GS:=by trivial
def g5l:(Ab "?*@#?").length=5:=by trivial
noncomputable def spRule:Sp:=λvs H Q _=>∃a b g,vs=[.ref a,.str g]/\FeedAt H a b/\0<g.length/\g.length<=1000/\(∀c∈tl g,c∈NS)/\∀R l ts st H',H R=none->Fd a b H H'->RawAt H' R l ts st->l.length<=3->ts.length<=5->st<=2->Q (.ref R) H'
noncomputable abbrev z5n:Stmt:=top 86
def sc_rule:FnScope ["_law_feed", "_law_signs_here", "_law_pattern", "_law_gaps", "_law_k", "_law_template", "_law_mark"] Zc (defScope z5n):=by trivial
def j0p(D:Df K mg "_law_rule" z5n Zc)(T:Txt mg)(C:Cal P w K mg base "_law_draw" 1 Z4 spDraw/\Cal P w K mg base "_law_text" 2 Z3 spText):Cal P w K mg base "_law_rule" 3 Zc spRule:=by
 refine D.cal sc_rule (λvs H Q E h=>?_) (λf e5 A outer s H vs Q E L h=>?_)
 ·obtain⟨a,b,g,rfl,_⟩:=h;rfl
 ·obtain⟨a,b,g,rfl,F,b0,b1,b2,k⟩:=h;refine⟨_,(q0b (q0l (i:=2) sc_rule.nd rfl (by trivial) q0i) (q0b (q0l (i:=3) sc_rule.nd rfl (by trivial) q0f) (q0b (q1g Bj rfl (q1w rfl T.b_range (q0a (q0u q0n q0f (pe_c C.1 L (q0a (pv 0) (q0a q0f q0d)))) q0d)) (q0k (i:=4) sc_rule.nd rfl (by trivial)) (q0e (q0t (q0h q6h (pe_c C.1 L (q0a (pv 0) (q0a q0f q0d))) q0f (nomark _)) (q0b (q0l (i:=2) sc_rule.nd rfl (by trivial) (q0u q0n (pv 2) (q0w (ix_k K rfl) q0i (pe_c C.1 L (q0a (pv 0) (q0a q0f q0d))) (λ_ _=>rfl)))) (q0e (q0l (i:=3) sc_rule.nd rfl (by trivial) (q0u q0n (pv 3) q0f)))) (q0e (q0l (i:=2) sc_rule.nd rfl (by trivial) (q0u q0n (pv 2) (pe_c C.2 L (q0a (pv 0) (q0a (pv 1) (q0a q0f q0d)))))))))) (q0b (q0l (i:=5) sc_rule.nd rfl (by trivial) q0i) (q0b (q1g Bj rfl (q1w rfl T.b_range (q0a (q0u q0n q0f (pe_c C.1 L (q0a (pv 0) (q0a q0f q0d)))) q0d)) (q0k (i:=4) sc_rule.nd rfl (by trivial)) (q0b (q0l (i:=6) sc_rule.nd rfl (by trivial) (pe_c C.2 L (q0a (pv 0) (q0a (pv 1) (q0a q0f q0d))))) (q2n (q0t (pt_j (@PW.pt _ _ _ (q2v (q0h q6h (pv 3) q0f (nomark _)) (q2c (q0h q6h (pe_c C.1 L (q0a (pv 0) (q0a q0f q0d))) q0f (nomark _)))))) (q0e (q0l (i:=6) sc_rule.nd rfl (by trivial) (q0u q0n (q0u q0n (q0u q0n q0i (q1u q7o (by rfl) T.b_str (by trivial) (q0a (q0u q0n q0f (pe_c C.1 L (q0a (pv 0) (q0a (pv 3) q0d)))) q0d))) (q0w (ix_k K rfl) (q1p (q0a q0i (q0a q0i (q0a q0i (q0a q0i (q0a q0i q0d)))))) (pe_c C.1 L (q0a (pv 0) (q0a q0f q0d))) (λ_ _=>rfl))) q0i))) q0j) (q2n (q0t (pt_j (@PW.pt _ _ _ (q2v (q0h (ne_k K rfl L) (pv 5) q0i (nomark _)) (q2v (q0h (ne_k K rfl L) (q0w (ix_k K rfl) (pv 5) (q4o q2l q0f) (λ_ _=>rfl)) q0i (nomark _)) (q2c (q0h (eq_k K rfl L) (pe_c C.1 L (q0a (pv 0) (q0a q0f q0d))) q0f (nomark _))))))) (q0e (q0l (i:=6) sc_rule.nd rfl (by trivial) (q0u q0n q0i (pv 6)))) q0j) (q0e (q0l (i:=5) sc_rule.nd rfl (by trivial) (q0u q0n (pv 5) (pv 6)))))))) (q0e (q0m (q0v (q0a q0i (q0a (pv 2) (q0a (pv 5) (q0a (pe_c C.1 L (q0a (pv 0) (q0a q0f q0d))) q0d)))))))))))),?_⟩;show tSeq _ _ _ _ _;refine gE3 λe6 d1 a2 b3=>?_
  have e0:Ab "" = mk []:=by trivial
  refine⟨_,rfl,a,b,3,rfl,F,by decide,by decide,λr1 H1 e7 e8 d2=>.inl ⟨_,_,rfl,rfl,?_⟩⟩;obtain⟨n1,rfl⟩:∃n:Nat,r1=(n:Int):=⟨r1.toNat,by lia⟩
  rw[show(1:Int)+(n1:Int)=((n1+1:Nat):Int) by lia];refine⟨((n1+1:Nat):Int),rfl,by lia,by lia,q1y (n:=n1+1) (λi u S=>∃l x4,u=[some (.ref a),some (.str g),some (.str (mk l)),some (.int ((gpn l:Nat):Int)),x4,none,none]/\Fd a b H S/\l.length=i/\∀c∈l,c∈GS\/c∈NS) ⟨[],_,by rw[e0];rfl,d2,rfl,(λ_ h=>nomatch h)⟩ ?_ ?_⟩
  ·rintro i u H2 hi ⟨l,x4,rfl,M,hl,Y⟩;refine⟨_,rfl,a,b,4,rfl,M.feed,by decide,by decide,λr H3 r0 r1 O=>⟨_,_,rfl,rfl,_,rfl,ite2 (λh=>?_) (λh=>?_)⟩⟩
   ·show tSeq _ _ _ _ _;refine gE λe9 d3 b4 b5=>?_;refine⟨_,rfl,_,rfl,a,b,5,rfl,O.feed,by decide,by decide,λr4 H4 d4 d5 I=>?_⟩;obtain⟨c,b6,d6⟩:=q8y (xs:=tl (Ab "?*@#?")) d4 (by rw[<- len,g5l];exact d5);refine .inr (.inr ⟨_,r4,c,rfl,rfl,by rw[g5l];exact small (by decide),d6,?_⟩);refine .inr (.inl ⟨_,_,rfl,rfl,by rw[q0o];exact small (by show _+1<=_;lia),?_⟩);show d3 _ _ _;subst b5;rw[show(⟨#[c]⟩:Str)=mk [c] from rfl,q3n];subst b4;refine⟨_,rfl,.inl ⟨_,_,rfl,rfl,l++[c],some (.int (0+(i:Int))),?_,(M.trans O).trans I,by rw[Af,hl];rfl,λd hd=>?_⟩⟩
    ·subst a2;rw[z7f,if_pos (g5 c (Ar b6))];rfl
    ·rcases Au.mp hd with z|z
     ·exact Y d z
     ·rw[Ao.mp z];exact .inl (g5 c (Ar b6))
   ·refine⟨_,rfl,_,rfl,_,rfl,a,b,g,1,rfl,O.feed,b0,b1,by decide,by decide,λt H4 ht Z I=>?_⟩;obtain⟨c,rfl⟩:∃c,t=[c]:=by
     match t,ht with
     |[c],_=>exact⟨c,rfl⟩
    have b7:=b2 c (Z c (by simp));refine .inr (.inl ⟨_,_,rfl,rfl,by rw[q0o,q0o];exact small (by show _+1<=_;lia),?_⟩);rw[q3n];refine⟨l++[c],some (.int (0+(i:Int))),?_,(M.trans O).trans I,by rw[Af,hl];rfl,λd hd=>?_⟩
    ·rw[z7f,if_neg (λz=>(gs3 c z).2 b7)];rfl
    ·rcases Au.mp hd with z|z
     ·exact Y d z
     ·rw[Ao.mp z];exact .inr b7
  rintro u H2 ⟨l,x4,rfl,M,hl,Y⟩;show d1 _ _ _;refine gY2 b3 λb8 a3=>?_;have hG:gpn l<=3:=Ay (Di _ _) (by lia);refine⟨_,rfl,a,b,3,rfl,M.feed,by decide,by decide,λr2 H3 f1 f2 b9=>.inl ⟨_,_,rfl,rfl,?_⟩⟩;have O:=M.trans b9;obtain⟨n2,rfl⟩:∃n:Nat,r2=(n:Int):=⟨r2.toNat,by lia⟩
  rw[show(1:Int)+(n2:Int)=((n2+1:Nat):Int) by lia];refine⟨((n2+1:Nat):Int),rfl,by lia,by lia,q1y (n:=n2+1) (λi u S=>∃G x4 x6,u=[some (.ref a),some (.str g),some (.str (mk l)),some (.int ((gpn l:Nat):Int)),x4,some (.str (mk (flatP G))),x6]/\Fd a b H S/\(G=[]\/inOk true G)/\(0<i->G≠[])/\G.length<=2*i-1/\(∀q∈G,tokB (gpn l) q=true)/\(flatP G).length<=6*i) ⟨[],_,_,by rw[e0];rfl,O,.inl rfl,λz=>absurd z (by lia),Ba _,(λ_ h=>nomatch h),Ba _⟩ ?_ ?_⟩
  ·rintro i u H4 hi ⟨G,x4,x6,rfl,I,a0,c0,c1,U,d7⟩;show tSeq _ _ _ _ _;refine gE λe3 c2 a4 a5=>?_;refine⟨_,rfl,_,rfl,a,b,g,1,rfl,I.feed,b0,b1,by decide,by decide,λt H5 ht Z J=>?_⟩;show c2 _ _ _;subst a5;have B:=I.trans J;have c3:t.length=1:=ht;refine⟨λu S=>∃q,u=[some (.ref a),some (.str g),some (.str (mk l)),some (.int ((gpn l:Nat):Int)),some (.int (0+(i:Int))),some (.str (mk (flatP G))),some (.str (mk q.wr))]/\Fd a b H S/\tokB (gpn l) q=true/\pcI q=false/\q.wr.length<=5,?_,?_⟩;rotate_left
   ·refine⟨λbb S=>Fd a b H S/\(bb=true->0<gpn l),?_,?_⟩;rotate_left
    ·refine⟨_,rfl,_,_,rfl,rfl,_,rfl,ite2 (λh=>?_) (λh=>⟨B,λz=>(by cases z)⟩)⟩;have hp:0<gpn l:=by have:=of_decide_eq_true h;lia
     exact⟨_,rfl,a,b,6,rfl,B.feed,by decide,by decide,λr H6 _ _ v=>⟨_,_,rfl,rfl,_,rfl,B.trans v,λ_=>hp⟩⟩
    rintro bb H6 ⟨v,a6⟩;refine ite2 (λh=>?_) (λh=>⟨.tx t,rfl,v,decide_eq_true ⟨c3,λc hc=>b2 c (Z c hc)⟩,rfl,by show t.length<=5;lia⟩);have hp:=a6 h;refine⟨_,rfl,_,rfl,a,b,_,rfl,v.feed,by lia,by lia,λr7 H7 f3 f4 c4=>.inl ⟨_,_,rfl,rfl,?_⟩⟩;obtain⟨k7,rfl⟩:∃n:Nat,r7=(n:Int):=⟨r7.toNat,by lia⟩
    rw[show(1:Int)+(k7:Int)=((k7+1:Nat):Int) by lia];refine⟨k7+1,rfl,by lia,?_⟩;rw[x8z];have W:(Ab "{").length=1:=by trivial
    have c5:(Ab "}").length=1:=by trivial
    have a7:(mk (dg (k7+1))).length=1:=by rw[q0o,q2w (by lia)];rfl
    refine .inr (.inl ⟨_,_,rfl,rfl,by rw[W,a7];exact small (by decide),by show 5<=sizeLine;decide,λkl c6=>?_⟩);have a8:=(v.trans c4).new (o:=.lst [.str (Ab ""),.str (Ab ""),.str (Ab "u"),.str (Ab "l"),.str (Ab "z2")]) c6;have c7:upd H7 kl (.lst [.str (Ab ""),.str (Ab ""),.str (Ab "u"),.str (Ab "l"),.str (Ab "z2")]) kl=some (.lst [.str (Ab ""),.str (Ab ""),.str (Ab "u"),.str (Ab "l"),.str (Ab "z2")]):=q0c;have d8:kl≠a:=((v.trans c4).feed.na c6).symm;generalize upd H7 kl (.lst [.str (Ab ""),.str (Ab ""),.str (Ab "u"),.str (Ab "l"),.str (Ab "z2")])=H8 at a8 c7;refine⟨_,rfl,a,b,5,rfl,a8.feed,by decide,by decide,λr9 H9 d9 e2 c8=>.inl ⟨kl,_,r9,_,rfl,rfl,SqL.of (c8.at c7 d8),j0o d9 e2,?_⟩⟩;have f5:=x5x r9.toNat;refine .inr (.inl ⟨_,_,rfl,rfl,by rw[app_len,W,a7];exact small (by lia),?_⟩);refine .inr (.inl ⟨_,_,rfl,rfl,by rw[app_len,app_len,W,a7,c5];exact small (by lia),?_⟩);rw[gap_wr (by lia) (by lia)];obtain⟨g1,g2,g3⟩:=j0n (g:=gpn l) (k:=k7+1) (j:=r9.toNat) (by lia) (by lia);exact⟨_,rfl,a8.trans c8,g1,g2,g3⟩
   clear B J ht Z c3;rintro u H5 ⟨q,rfl,B,c9,a9,f6⟩;refine⟨λu S=>∃us,u=[some (.ref a),some (.str g),some (.str (mk l)),some (.int ((gpn l:Nat):Int)),some (.int (0+(i:Int))),some (.str (mk (flatP G))),some (.str (mk (flatP us)))]/\Fd a b H S/\(us=[q]\/(us=[.into,q]/\G≠[])),?_,?_⟩;rotate_left
   ·refine⟨λbb S=>Fd a b H S/\(bb=true->G≠[]),?_,?_⟩;rotate_left
    ·refine⟨_,rfl,.inl ⟨rfl,_,rfl,ite2 (λh=>?_) (λh=>⟨B,λz=>(by cases z)⟩)⟩⟩;have d0:flatP G≠[]:=λz=>by rw[z,<- e0,decide_eq_true rfl] at h;cases h
     have a1:G≠[]:=λz=>d0 (by rw[z];rfl);have e4:=Bw.mpr d0;obtain⟨c,hc⟩:∃c,atI (tl (mk (flatP G))) (-1:Int)=some c:=by
      rw[q0x];unfold atI ixN;rw[if_neg (by decide),if_pos (by lia)];exact⟨_,Bv (by lia)⟩
     refine⟨_,rfl,_,rfl,.inr (.inr ⟨_,_,c,rfl,rfl,by rw[q0o];exact small (by lia),hc,.inl ⟨rfl,_,rfl,ite2 (λh=>?_) (λh=>⟨B,λz=>(by cases z)⟩)⟩⟩)⟩;exact⟨_,rfl,a,b,4,rfl,B.feed,by decide,by decide,λr H6 _ _ v=>.inl ⟨rfl,_,rfl,B.trans v,λ_=>a1⟩⟩
    rintro bb H6 ⟨v,a6⟩;have e1:flatP [q]=q.wr:=by simp[flatP]
    refine ite2 (λh=>?_) (λh=>⟨[q],by rw[e1],v,.inl rfl⟩);refine⟨_,rfl,.inr (.inl ⟨_,_,rfl,rfl,by rw[show(Ab "/").length=1 by trivial,q0o];exact small (by lia),?_⟩)⟩;refine⟨[.into,q],?_,v,.inr ⟨rfl,a6 h⟩⟩;rw[show Ab "/" = mk [47] by trivial,q3n,show flatP [.into,q]=[47]++q.wr by simp[flatP,Pc.wr]];rfl
   clear B;rintro u H6 ⟨us,rfl,v,X⟩;have f7:(flatP us).length<=6:=by
    rcases X with rfl|⟨rfl,_⟩
    ·rw[show flatP [q]=q.wr by simp[flatP]];lia
    ·rw[show flatP [.into,q]=[47]++q.wr by simp[flatP,Pc.wr],Af];show 1+_<=_;lia
   refine⟨_,rfl,_,rfl,.inr (.inl ⟨_,_,rfl,rfl,by rw[q0o,q0o];exact small (by lia),?_⟩)⟩;subst a4;rw[q3n,<- q1z];have htok':∀p∈us,tokB (gpn l) p=true:=λp hp=>by
    rcases X with rfl|⟨rfl,_⟩
    ·rw[Ao.mp hp];exact c9
    ·rcases Av.mp hp with z|z
     ·rw[z];rfl
     ·rw[Ao.mp z];exact c9
   refine⟨G++us,_,_,rfl,v,.inr ?_,λ_ z=>?_,?_,λp hp=>(Au.mp hp).elim (U p) (htok' p),by rw[q1z,Af];lia⟩
   ·rcases X with rfl|⟨rfl,hn⟩
    ·rcases a0 with z|z
     ·rw[z];exact(q1h a9).mpr rfl
     ·exact z1j a9 z
    ·exact q8h a9 (a0.resolve_left hn)
   ·have:=(Mx.mp z).2;rcases X with rfl|⟨rfl,_⟩<;>cases this
   ·rw[Af];rcases X with rfl|⟨rfl,hn⟩
    ·show G.length+1<=_;lia
    ·show G.length+2<=_;have f8:0<i:=by
      rcases Nat.eq_zero_or_pos i with z|z
      ·exfalso;rw[z] at c1;exact hn (Ry.mp (by lia))
      ·exact z
     lia
  rintro u H4 ⟨G,f9,x6,rfl,I,a0,c0,c1,U,d7⟩;show b8 _ _ _;subst a3;have a1:=c0 (by lia);refine⟨_,rfl,_,rfl,_,rfl,a,b,3,rfl,I.feed,by decide,by decide,λst H5 st0 st1 B=>⟨by show 4<=sizeLine;decide,λR hR=>?_⟩⟩;subst a2;obtain⟨sn,rfl⟩:∃n:Nat,st=(n:Int):=⟨st.toNat,by lia⟩
  have J:=I.trans B;have s6:=(Same.refl H5).new (o:=.tup [.str (Ab "slip"),.str (mk l),.str (mk (flatP G)),.int (sn:Int)]) hR;exact k R l G sn _ (J.free hR) (J.same s6) ⟨q0c,⟨Bw.mp (by lia),by lia,Y,a0.resolve_left a1,by lia,U⟩,by lia,a1⟩ (by lia) (by lia) (by lia)
end
end K
namespace K
open PySem L2 TX
section
variable{P:Aq}{w:World}{K:Ai}{mg:Str->Option Value}{base:Heap}
noncomputable def subG(j:Nat)(q':Pc):Pc->Pc
 |.gap k=>if k=j then q' else .gap k
 |q=>q
def x2q:∀c∈NS,c≠123/\c≠47/\c≠42/\c≠63:=by trivial
def j0q(B:G<=9)(h:tokB G q=true)(hn:q≠.gap j):rpl (Pc.gap j).wr z (n+q.wr.length) k (q.wr++r)=q.wr++rpl (Pc.gap j).wr z n k r:=by
 have o:(Pc.gap j).wr=123::[48+j,125]:=rfl;have f:∀t:List Nat,q.wr=123::t->(∀c∈t,c≠123)->(t++r).take 2≠[48+j,125]->rpl (Pc.gap j).wr z (n+q.wr.length) k (q.wr++r)=q.wr++rpl (Pc.gap j).wr z n k r:=λt e u s=>by
  rw[e];show rpl (Pc.gap j).wr z (n+t.length+1) k (123::(t++r))=123::(t++_)
  rw[z0m (λw=>s (by rw[o] at w;injection w)),q2x o u]
 cases q with
 |into=>exact q2x o λc g=>by rw[Ao.mp g];decide
 |tx t =>
  have h:=of_decide_eq_true h;exact q2x o λc g=>(x2q c (h.2 c g)).1
 |gap i =>
  have h:=of_decide_eq_true h;refine f [48+i,125] rfl (λc g=>?_) (λw=>?_)
  ·rcases Av.mp g with z|z
   ·lia
   ·rw[Ao.mp z];decide
  ·have w:[48+i,125]=[48+j,125]:=w;injection w with w;exact hn (by rw[show i=j by lia])
 |great i =>
  have h:=of_decide_eq_true h;refine f [48+i,117,125] rfl (λc g=>?_) (λw=>?_)
  ·simp only[Av,Cc,or_false] at g;lia
  ·have w:[48+i,117]=[48+j,125]:=w;injection w with _ w;injection w with w;lia
 |small i =>
  have h:=of_decide_eq_true h;refine f [48+i,108,125] rfl (λc g=>?_) (λw=>?_)
  ·simp only[Av,Cc,or_false] at g;lia
  ·have w:[48+i,108]=[48+j,125]:=w;injection w with _ w;injection w with w;lia
 |nou i v =>
  have h:=of_decide_eq_true h;refine f [48+i,122,48+v,125] rfl (λc g=>?_) (λw=>?_)
  ·simp only[Av,Cc,or_false] at g;lia
  ·have w:[48+i,122]=[48+j,125]:=w;injection w with _ w;injection w with w;lia
 |_=>cases h
theorem z1m(g:G<=9):∀{ts} {n k},(∀q∈ts,tokB G q=true)->(flatP ts).length<n->(flatP ts).length<k->rpl (Pc.gap j).wr f.wr n k (flatP ts)=flatP (ts.map (subG j f))
 |[],n,k,_,hn,hk=>by
  cases n with
  |zero=>exact absurd hn (by lia)
  |succ n =>
   show rpl (Pc.gap j).wr f.wr (n+1) k []=[]
   rw[z3l,if_neg λw=>by have:=w.2;cases this];rfl
 |q::r,n,k,h,hn,hk=>by
  have s:=λp u=>h p (Ak _ u);rw[q0s,Af] at hn hk;rw[q0s,Am,q0s];by_cases o:q=.gap j
  ·rw[o] at hn hk ⊢;have v:(Pc.gap j).wr.length=3:=rfl;rw[v] at hn hk;obtain⟨m,rfl⟩:∃m,n=m+1:=⟨n-1,by lia⟩
   rw[q6s (by lia),z1m g s (by lia) (by lia)];show _=(if j=j then f else _).wr++_;rw[if_pos rfl]
  ·obtain⟨m,rfl⟩:∃m,n=m+q.wr.length:=⟨n-q.wr.length,by lia⟩
   rw[j0q g (h q Al) o,z1m g s (by lia) (by lia)];have e:subG j f q=q:=by
    cases q with
    |gap i=>show(if i=j then f else .gap i)=_;rw[if_neg λz=>o (by rw[z])]
    |_=>rfl
   rw[e]
def wr47(j:G<=9)(h:tokB G q=true)(g:pcI q=false):∀c∈q.wr,c≠47:=by
 cases q with
 |into=>cases g
 |tx t=>exact λc f=>(x2q c ((of_decide_eq_true h).2 c f)).2.1
 |gap i=>have h:=of_decide_eq_true h;intro c f;simp only[Pc.wr,Av,Cc,or_false] at f;lia
 |great i=>have h:=of_decide_eq_true h;intro c f;simp only[Pc.wr,Av,Cc,or_false] at f;lia
 |small i=>have h:=of_decide_eq_true h;intro c f;simp only[Pc.wr,Av,Cc,or_false] at f;lia
 |nou i v=>have h:=of_decide_eq_true h;intro c f;simp only[Pc.wr,Av,Cc,or_false] at f;lia
 |_=>cases h
def flat47(j:G<=9)(h:∀q∈ts,tokB G q=true)(o:∀q∈ts,pcI q=false):∀c∈flatP ts,c≠47:=λc f=>by
 have e:flatP ts=ts.flatMap Pc.wr:=by unfold flatP;rw[Rp]
 rw[e] at f;obtain⟨q,g,f⟩:=Hh.mp f;exact wr47 j (h q g) (o q g) c f
theorem z7g:∀ts,(∀q∈ts,pcI q=false)\/∃a r,ts=a++.into::r/\∀q∈a,pcI q=false
 |[]=>.inl (λ_ h=>nomatch h)
 |q::r=>by
  cases hq:pcI q with
  |true =>
   refine .inr ⟨[],r,?_,(λ_ h=>nomatch h)⟩;cases q with
   |into=>rfl
   |_=>cases hq
  |false =>
   rcases z7g r with h|⟨a,s,rfl,h⟩
   ·exact .inl λp f=>(Av.mp f).elim (λz=>by rw[z];exact hq) (h p)
   ·exact .inr ⟨q::a,s,rfl,λp f=>(Av.mp f).elim (λz=>by rw[z];exact hq) (h p)⟩
def j0r(j:G<=9)(h:∀q∈ts,tokB G q=true)(o:inOk true ts):∃f,rpl [47] [] ((flatP ts).length+1) 1 (flatP ts)=flatP f/\inOk true f/\f.length<=ts.length/\(∀q∈f,tokB G q=true)/\(Pc.into∈f->Pc.into∈ts):=by
 rcases z7g ts with hn|⟨a,r,rfl,ha⟩
 ·refine⟨ts,?_,o,Aj _,h,id⟩;have:=q2x (y:=[47]) (z:=[]) (n:=1) (k:=1) (r:=[]) rfl (flat47 j h hn);rw[Cd,Nat.add_comm] at this;rw[this];show flatP ts++[]=_;rw[Cd]
 ·refine⟨a++r,?_,z7d ha o,by rw[Af,Af,Bc];lia,λq g=>h q ((Au.mp g).elim (Bu _) λz=>Bf _ (Ak _ z)),λ_=>Bf _ Al⟩;have e:flatP (a++.into::r)=flatP a++([47]++flatP r):=by rw[q1z,q0s];rfl
  have s:(flatP a++(([47]:List Nat)++flatP r)).length+1=((flatP r).length+1+1)+(flatP a).length:=by simp only[Af,Bi];lia
  rw[e,s,q2x rfl (flat47 j (λq g=>h q (Bu _ g)) ha),q6s (by decide),z0n,q1z];rfl
theorem z5o:∀{l} {n k},l.length<n->l.length<k->rpl [c] [d] n k l=l.map λx=>if x=c then d else x
 |[],n,k,hn,_=>by
  cases n with
  |zero=>exact absurd hn (by lia)
  |succ n=>rw[z3l,if_neg λw=>by have:=w.2;cases this];rfl
 |x::l,n,k,hn,hk=>by
  rw[Bc] at hn hk;obtain⟨m,rfl⟩:∃m,n=m+1:=⟨n-1,by lia⟩
  rw[Am];by_cases f:x=c
  ·rw[if_pos f,f];have:=q6s (y:=[c]) (z:=[d]) (r:=l) (n:=m) (k:=k) (by lia);rw[show c::l=[c]++l from rfl,this,z5o (by lia) (by lia)];rfl
  ·rw[if_neg f,z0m (λw=>f (by injection w)),z5o (by lia) (by lia)]
def x5y:rpl [42] [42,42] (l.length+1) 1 l=l\/∃a r,l=a++42::r/\rpl [42] [42,42] (l.length+1) 1 l=a++42::42::r:=by
 by_cases h:42∈l
 ·obtain⟨a,r,e,ha⟩:∃a r,l=a++42::r/\∀c∈a,c≠42:=by
   induction l with
   |nil=>cases h
   |cons x l ih =>
    by_cases f:x=42
    ·exact⟨[],l,by rw[f];rfl,(λ_ h=>nomatch h)⟩
    ·obtain⟨a,r,e,ha⟩:=ih ((Av.mp h).resolve_left λz=>f z.symm);exact⟨x::a,r,by rw[e];rfl,λc g=>(Av.mp g).elim (λz=>by rw[z];exact f) (ha c)⟩
  refine .inr ⟨a,r,e,?_⟩;rw[e,show(a++42::r).length+1=(r.length+1+1)+a.length by simp only[Af,Bc];lia,q2x rfl ha];rw[show 42::r=[42]++r from rfl,q6s (by decide),z0n];rfl
 ·refine .inl ?_;have:=q2x (y:=[42]) (z:=[42,42]) (n:=1) (k:=1) (r:=[]) rfl (λc g (z:c=42)=>h (z▸g));rw[Cd,Nat.add_comm] at this;rw[this];show l++[]=_;rw[Cd]
def x2r(h:G<=f)(t:tokB G q=true):tokB f q=true:=by
 cases q with
 |into=>rfl
 |tx _=>exact t
 |gap k=>have t:=of_decide_eq_true t;exact decide_eq_true ⟨t.1,by lia⟩
 |great k=>have t:=of_decide_eq_true t;exact decide_eq_true ⟨t.1,by lia⟩
 |small k=>have t:=of_decide_eq_true t;exact decide_eq_true ⟨t.1,by lia⟩
 |nou k v=>have t:=of_decide_eq_true t;exact decide_eq_true ⟨t.1,by lia,t.2.2⟩
 |_=>cases t
def Raw.flen(h:Raw l ts):(flatP ts).length<=30:=by
 have j:gpn l<=5:=Ay (Di _ _) h.ll;have:=q9m (l:=ts) (f:=Pc.wr) (m:=5) λq g=>(tokF (by lia) (h.tok q g)).wl;have e:flatP ts=ts.flatMap Pc.wr:=by unfold flatP;rw[Rp]
 have:=h.len;rw[e];lia
def Raw.gl(h:Raw l ts):gpn l<=5:=Ay (Di _ _) h.ll
def Raw.sub(h:Raw l ts)(o:tokB (gpn l) (.gap j)=true->tokB (gpn l) f=true)(s:pcI f=false):Raw l (ts.map (subG j f)):=by
 refine⟨h.ne,h.ll,h.lo,z1k (λq=>?_) h.ti,by rw[Ae];exact h.len,λq g=>?_⟩
 ·cases q with
  |gap k=>show pcI (if k=j then f else .gap k)=false;split;exact s;rfl
  |_=>rfl
 ·obtain⟨p,u,rfl⟩:=Az.mp g;have tp:=h.tok p u;cases p with
  |gap k =>
   show tokB (gpn l) (if k=j then f else .gap k)=true;split
   ·rename_i z;rw[z] at tp;exact o tp
   ·exact tp
  |_=>exact tp
def z1n(h:Raw l ts):Pe (mk (flatP ts)) (mk (Pc.gap j).wr) (mk f.wr)=mk (flatP (ts.map (subG j f))):=by
 apply ext;have:=h.gl;rw[q9j _ _ _ (by rw[q0x];exact λz=>by cases z),q0x,q0x,q0x,q0x,z1m (G:=gpn l) (by lia) h.tok (by lia) (by lia)]
def z5p(a b):gpn (a++b)=gpn a+gpn b:=by unfold gpn;rw[Jc,Af]
def Raw.star(h:Raw l ts)(hl:l.length<=4)(e:f=l\/∃a r,l=a++42::r/\f=a++42::42::r):Raw f ts/\f.length<=l.length+1:=by
 rcases e with rfl|⟨a,r,rfl,rfl⟩
 ·exact⟨h,by lia⟩
 ·have j:42∈GS:=by trivial
  have g:gpn (a++42::r)<=gpn (a++42::42::r):=by
   rw[z5p,z5p,show 42::42::r=[42]++42::r from rfl,z5p [42]];lia
  refine⟨⟨λz=>(by cases(Mx.mp z).2),?_,λc o=>?_,h.ti,h.len,λq s=>x2r g (h.tok q s)⟩,?_⟩
  ·rw[Af,Bc] at hl ⊢;rw[Bc];lia
  ·rcases Au.mp o with z|z
   ·exact h.lo c (Bu _ z)
   ·rcases Av.mp z with z|z
    ·rw[z];exact .inl j
    ·exact h.lo c (Bf _ z)
  ·simp only[Af,Bc];lia
def x2s:∃f,replace1 (mk l) (Ab "*") (Ab "**")=mk f/\(f=l\/∃a r,l=a++42::r/\f=a++42::42::r):=by
 have h:tl (Ab "*")=[42]:=by trivial
 have j:tl (Ab "**")=[42,42]:=by trivial
 have g:∀f,rpl [42] [42,42] (l.length+1) 1 l=f->replace1 (mk l) (Ab "*") (Ab "**")=mk f:=λf e=>by
  apply ext;rw[q7u _ _ _ (by rw[h];exact λz=>by cases z),h,j,q0x,q0x,e]
 rcases x5y (l:=l) with e|⟨a,r,e,o⟩
 ·exact⟨l,g l e,.inl rfl⟩
 ·exact⟨_,g _ o,.inr ⟨a,r,e,rfl⟩⟩
noncomputable def q2a(c:Nat):Nat:=if c=63 then 64 else c
def repl_q:Pe (mk l) (Ab "?") (Ab "@")=mk (l.map q2a):=by
 have f:tl (Ab "?")=[63]:=by trivial
 have g:tl (Ab "@")=[64]:=by trivial
 apply ext;rw[q9j _ _ _ (by rw[f];exact λz=>by cases z),f,g,q0x,q0x,z5o (by lia) (by lia)];rfl
def x7v(c):q2a c∈GS↔c∈GS:=by
 unfold q2a;have f:63∈GS:=by trivial
 have g:64∈GS:=by trivial
 split
 ·rename_i z;rw[z];exact⟨λ_=>f,λ_=>g⟩
 ·exact Iff.rfl
def Raw.q(h:Raw l ts):Raw (l.map q2a) ts:=by
 have g:gpn (l.map q2a)=gpn l:=by
  unfold gpn;rw[<- Pb,<- Pb,List.countP_map];refine List.countP_congr λc _=>?_;show decide (q2a c∈GS)=true↔decide (c∈GS)=true;rw[decide_eq_true_iff,decide_eq_true_iff];exact x7v c
 refine⟨λz=>h.ne (List.map_eq_nil_iff.mp z),by rw[Ae];exact h.ll,λc f=>?_,h.ti,h.len,by rw[g];exact h.tok⟩;obtain⟨d,hd,rfl⟩:=Az.mp f;rcases h.lo d hd with z|z
 ·exact .inl ((x7v d).mpr z)
 ·unfold q2a;rw[if_neg (x2q d z).2.2.2];exact .inr z
def j0s(h:Raw l ts):∃f,replace1 (mk (flatP ts)) (Ab "/") (Ab "")=mk (flatP f)/\Raw l f/\(Pc.into∈f->Pc.into∈ts):=by
 have g:tl (Ab "/")=[47]:=by trivial
 have j:tl (Ab "")=[]:=by trivial
 have:=h.gl;obtain⟨f,o,s,u,v,B⟩:=j0r (G:=gpn l) (by lia) h.tok h.ti;refine⟨f,?_,⟨h.ne,h.ll,h.lo,s,Ay u h.len,v⟩,B⟩;apply ext;rw[q7u _ _ _ (by rw[g];exact λz=>by cases z),g,j,q0x,q0x,o]
def z1o(g:pcI f=false){ts:List Pc}(h:Pc.into∈ts.map (subG j f)):Pc.into∈ts:=by
 obtain⟨p,o,e⟩:=Az.mp h;cases p with
 |into=>exact o
 |gap k =>
  have e:(if k=j then f else Pc.gap k)=.into:=e;split at e
  ·rw[e] at g;cases g
  ·cases e
 |_=>cases e
noncomputable def spVar(K:Ai):Sp:=λvs H Q _=>∃a b R l ts st,vs=[.ref a,.ref R]/\FeedAt H a b/\RawAt H R l ts st/\l.length<=4/\st<=9/\∀R' l' ts' st' H',(R'=R\/H R'=none)->Fd a b H H'->RawAt H' R' l' ts' st'->l'.length<=l.length+1->st'<=st+1->(Pc.into∈ts'->Pc.into∈ts)->Q (.ref R') H'
def j0t(h:inOk true ts):ts≠[]:=λz=>by rw[z] at h;cases h
noncomputable abbrev q8j:Stmt:=top 87
def sc_varied:FnScope ["_law_feed", "_law_rule_here", "_law_kind", "_law_pattern", "_law_template", "_law_start", "_law_way"] Zf (defScope q8j):=by trivial
def x2t(D:Df K mg "_law_varied" q8j Zf)(T:Txt mg)(C:Cal P w K mg base "_law_draw" 1 Z4 spDraw):Cal P w K mg base "_law_varied" 2 Zf (spVar K):=by
 refine D.cal sc_varied (λvs H Q E h=>?_) (λf W A outer s H vs Q E B h=>?_)
 ·obtain⟨a,b,R,l,J,st,rfl,_⟩:=h;rfl
 ·obtain⟨a,b,R,l,J,st,rfl,F,G,hl,X,k⟩:=h;refine⟨_,(q0b (q6y (pv 1) (@q2m _ _ _ _ (4) _ K rfl rfl (q0p (q0k (i:=2) sc_varied.nd rfl (by trivial)) (q0p (q0k (i:=3) sc_varied.nd rfl (by trivial)) (q0p (q0k (i:=4) sc_varied.nd rfl (by trivial)) (q0p (q0k (i:=5) sc_varied.nd rfl (by trivial)) q1s)))) (by rfl) (by rfl))) (q0b (q0l (i:=6) sc_varied.nd rfl (by trivial) (pe_c C B (q0a (pv 0) (q0a q0f q0d)))) (q0b (q0t (q0h (eq_k K rfl B) (pv 6) q0f (nomark _)) (q0e (q0m (q0v (q4m (q1e (PE.q (pv 3)) (q1e (q6r (pv 4) (by trivial)) (q1e (PE.q (pv 5)) q5q))))))) q0j) (q0b (q0t (q0h (eq_k K rfl B) (pv 6) q0f (nomark _)) (q0e (q0m (q0v (q4m (q1e (PE.q (pv 3)) (q1e (q6r (pv 4) (by trivial)) (q1e (PE.q (q0u q0n (pv 5) q0f)) q5q))))))) q0j) (q0b (q0t (pt_j (@PW.pt _ _ _ (q2v (q0h (eq_k K rfl B) (pv 6) q0f (nomark _)) (q2c (q0h (in_k K rfl) q0i (pv 4) (by with_unfolding_all rfl)))))) (q0e (q0m (q0v (q4m (q1e (PE.q (pv 3)) (q1e (q6r (pv 4) (by trivial)) (q1e (PE.q (pv 5)) q5q))))))) q0j) (q0b (q0t (q0h (eq_k K rfl B) (pv 6) q0f (nomark _)) (q0e (q0m (q0v (q4m (q1e (peq_j (x1n (q0h (eq_k K rfl B) (q1d (sl_k K rfl) (pv 3) (q1a (q4o q2l q0f)) q2h) q0i (nomark _)) (z3k (pv 3) (by trivial)) (PE.q (pv 3)))) (q1e (PE.q (pv 4)) (q1e (PE.q (pv 5)) q5q))))))) q0j) (q0b (q0t (q0h (eq_k K rfl B) (pv 6) q0f (nomark _)) (q0e (q0m (q0v (q4m (q1e (q6r (pv 3) (by trivial)) (q1e (PE.q (pv 4)) (q1e (PE.q (pv 5)) q5q))))))) q0j) (q0b (q0t (q0h (eq_k K rfl B) (pv 6) q0f (nomark _)) (q0e (q0m (q0v (q4m (q1e (PE.q (pv 3)) (q1e (z3k (pv 4) (by trivial)) (q1e (PE.q (pv 5)) q5q))))))) q0j) (q0e (q0m (pv 1))))))))))),?_⟩;refine⟨_,rfl,R,_,rfl,SqT.of G.at_,rfl,_,_,rfl,_,_,rfl,_,_,rfl,_,_,rfl,rfl,?_⟩;refine⟨_,rfl,a,b,7,rfl,F,by decide,by decide,λr Y r0 r1 j=>?_⟩;have L:Ab "{1}" = mk (Pc.gap 1).wr:=by trivial
  have Z:Ab "{2}" = mk (Pc.gap 2).wr:=by trivial
  have S:Ab "{1u}" = mk (Pc.great 1).wr:=by trivial
  have U:Ab "{1z1}" = mk (Pc.nou 1 1).wr:=by trivial
  have g:=G.ok;have fl:=g.flen;have a0:(mk (flatP J)).length<=30:=by rw[q0o];exact fl
  have a1:(mk l).length<=5:=by rw[q0o];exact g.ll
  have o:∀{u:List Nat} {ts':List Pc} {st':Nat} {H2:Hp},Fd a b H H2->Raw u ts'->u.length<=l.length+1->st'<=st+1->(Pc.into∈ts'->Pc.into∈J)->∀I,H2 I=none->Q (.ref I) (upd H2 I (.tup [.str (Ab "slip"),.str (mk u),.str (mk (flatP ts')),.int (st':Int)])):=λ{u ts' st' H2} fd2 rw' h1 h2 h3 I hR'=>k I u ts' st' _ (.inr (fd2.free hR')) (fd2.same ((Same.refl H2).new hR')) ⟨q0c,rw',by lia,j0t rw'.ti⟩ h1 h2 h3;refine⟨_,rfl,.inl ⟨rfl,_,rfl,ite2 (λh=>?_) (λh=>?_)⟩⟩
  ·refine⟨_,rfl,_,rfl,_,rfl,?_,?_⟩
   ·rw[S,q0o];show _+(_+1)*4<=_;lia
   rw[L,S,z1n g];exact⟨_,rfl,by show 4<=sizeLine;decide,o j (g.sub (λz=>z) rfl) (by lia) (by lia) (z1o rfl)⟩
  refine⟨_,rfl,.inl ⟨rfl,_,rfl,ite2 (λh=>?_) (λh=>?_)⟩⟩
  ·refine⟨_,rfl,_,rfl,_,rfl,?_,?_⟩
   ·rw[U,q0o];show _+(_+1)*5<=_;lia
   rw[L,U,z1n g];refine⟨_,rfl,.inl ⟨_,_,rfl,rfl,by show 4<=sizeLine;decide,?_⟩⟩;rw[show((st:Int)+1)=((st+1:Nat):Int) by lia];exact o j (g.sub (λz=>decide_eq_true ⟨(of_decide_eq_true z).1,(of_decide_eq_true z).2,by decide,by decide⟩) rfl) (by lia) (Aj _) (z1o rfl)
  refine⟨λbb M=>M=Y,?_,?_⟩;rotate_left
  ·exact⟨_,rfl,.inl ⟨rfl,_,rfl,ite2 (λh=>⟨_,rfl,.inl ⟨_,_,rfl,rfl,_,rfl,rfl⟩⟩) (λh=>rfl)⟩⟩
  rintro bb O rfl;refine ite2 (λh=>?_) (λh=>?_)
  ·refine⟨_,rfl,_,rfl,_,rfl,?_,?_⟩
   ·rw[L,q0o (Pc.gap 1).wr];show _+(_+1)*3<=_;lia
   rw[Z,L,z1n g];exact⟨_,rfl,by show 4<=sizeLine;decide,o j (g.sub (λz=>decide_eq_true ⟨Aj _,by have:=(of_decide_eq_true z).2;lia⟩) rfl) (by lia) (by lia) (z1o rfl)⟩
  refine⟨_,rfl,.inl ⟨rfl,_,rfl,ite2 (λh=>?_) (λh=>?_)⟩⟩
  ·refine⟨λv M=>M=O/\∃u,v=.str (mk u)/\(u=l\/∃a r,l=a++42::r/\u=a++42::42::r),?_,?_⟩
   ·rintro v M ⟨rfl,u,rfl,e⟩;obtain⟨w1,w2⟩:=g.star hl e;exact⟨_,rfl,_,rfl,by show 4<=sizeLine;decide,o j w1 w2 (by lia) id⟩
   refine⟨_,rfl,1,rfl,_,rfl,.inl ⟨_,rfl,small (by lia),.inl ⟨rfl,_,rfl,ite2 (λh=>?_) (λh=>⟨_,rfl,rfl,l,rfl,.inl rfl⟩)⟩⟩⟩;obtain⟨u,e,e'⟩:=x2s (l:=l);refine⟨_,rfl,_,rfl,by rw[show(Ab "**").length=2 by trivial];lia,rfl,u,?_,e'⟩;rw[e]
  refine⟨_,rfl,.inl ⟨rfl,_,rfl,ite2 (λh=>?_) (λh=>?_)⟩⟩
  ·refine⟨_,rfl,_,rfl,?_,?_⟩
   ·rw[show(Ab "@").length=1 by trivial];lia
   rw[repl_q];exact⟨_,rfl,_,rfl,by show 4<=sizeLine;decide,o j g.q (by rw[Ae];lia) (by lia) id⟩
  refine⟨_,rfl,.inl ⟨rfl,_,rfl,ite2 (λh=>?_) (λh=>?_)⟩⟩
  ·obtain⟨us,u1,u2,u3⟩:=j0s g;refine⟨_,rfl,_,rfl,_,rfl,?_,?_⟩
   ·rw[show(Ab "").length=0 by trivial];lia
   rw[u1];exact⟨_,rfl,by show 4<=sizeLine;decide,o j u2 (by lia) (by lia) u3⟩
  ·exact⟨_,rfl,k R l J st _ (.inl rfl) j ⟨j.at G.at_ (λz=>by obtain⟨_,_,e⟩:=F.fa;rw[<- z,G.at_] at e;cases e),g,G.st,G.ne⟩ (by lia) (by lia) id⟩
end
end K
namespace K
open PySem L2 TX
section
variable{P:Aq}{w:World}{K:Ai}{mg:Str->Option Value}{base:Heap}
structure Ren (nm:List Nat) (f:Nat->Nat):Prop where
 ns:∀c∈NS,f c∈NS
 nm:∀c∈nm,f c=c
 inj:∀c∈NS,∀d∈NS,f c=f d->c=d
 fi:∀c∈NS,(f c∈FI↔c∈FI)
 le:∀c∈NS,(f c∈LE↔c∈LE)
 up:∀c∈NS,f (up1 c)=up1 (f c)
 lo:∀c∈NS,f (lo1 c)=lo1 (f c)
theorem Ren.map_inj{nm}(h:Ren nm f):∀{a b:List Nat},(∀c∈a,c∈NS)->(∀c∈b,c∈NS)->a.map f=b.map f->a=b
 |[],[],_,_,_=>rfl
 |[],_::_,_,_,e=>by cases e
 |_::_,[],_,_,e=>by cases e
 |x::a,y::b,ha,hb,e=>by
  injection e with e1 e2;rw[h.inj x (ha x Al) y (hb y Al) e1,h.map_inj (λc g=>ha c (Ak _ g)) (λc g=>hb c (Ak _ g)) e2]
def Ren.map_fix{nm}(h:Ren nm f){a:List Nat}(ha:∀c∈a,c∈nm):a.map f=a:=by
 induction a with
 |nil=>rfl
 |cons x r ih=>rw[Am,h.nm x (ha x Al),ih λc g=>ha c (Ak _ g)]
def Ren.all{nm:List Nat}(h:∀c∈NS,(f c∈s↔c∈s))(j:∀c∈t,c∈NS):allOf (t.map f) s=allOf t s:=by
 unfold allOf;rw[List.all_map];congr 1
 ·simp_all
 ·rw[Iz,Ik,Ik];exact⟨λw c g=>decide_eq_true ((h c (j c g)).mp (of_decide_eq_true (w c g))),λw c g=>decide_eq_true ((h c (j c g)).mpr (of_decide_eq_true (w c g)))⟩
def Ren.takes{nm}(h:Ren nm f){p:Pt}(o:∀t,p=.tx t->∀c∈t,c∈nm/\c∈NS)(j:∀c∈t,c∈NS):p.takes (t.map f)=p.takes t:=by
 cases p with
 |tx l =>
  have hl:=o l rfl;refine decide_eq_decide.mpr ⟨λe=>?_,λe=>?_⟩
  ·exact h.map_inj j (λc g=>(hl c g).2) (e.trans (h.map_fix λc g=>(hl c g).1).symm)
  ·rw[e];exact h.map_fix λc g=>(hl c g).1
 |gp c =>
  show gapTakes c (t.map f)=gapTakes c t;unfold gapTakes;rw[Ae,Ren.all (nm:=nm) h.fi j,Ren.all (nm:=nm) h.le j]
def x2u(b e):cut (n.map f) b e=(cut n b e).map f:=by
 unfold cut;rw[Qi,List.map_drop]
def cut_ns(h:∀c∈n,c∈NS)(b e):∀c∈cut n b e,c∈NS:=λc f=>h c (Oj (En f))
noncomputable def PtNm(nm:List Nat)(ps:List Pt):Prop:=∀p∈ps,∀t,p=.tx t->∀c∈t,c∈nm/\c∈NS
def x2v(h:Ren nm f)(g:∀t,p=.tx t->∀c∈t,c∈nm/\c∈NS)(hn:∀c∈n,c∈NS)(j:∀e,L1 e=L2 e)(b):far p (n.map f) L1 b=far p n L2 b:=by
 unfold far farTo;rw[Ae];split
 ·congr 1;refine List.filter_congr λe _=>?_;rw[j,x2u,h.takes g (cut_ns hn b e)]
 ·rfl
theorem z1p(h:Ren nm f)(hn:∀c∈n,c∈NS):∀{ps},PtNm nm ps->∀b,fits (n.map f) ps b=fits n ps b
 |[],_,b=>by show decide (b=(n.map f).length)=decide (b=n.length);rw[Ae]
 |p::ps,hp,b=>by
  have g:=z1p h hn (ps:=ps) λq j=>hp q (Ak _ j);show(far p (n.map f) (fits (n.map f) ps) b).isSome=(far p n (fits n ps) b).isSome;rw[x2v h (hp p Al) hn g]
theorem x7w(h:Ren nm f)(hn:∀c∈n,c∈NS):∀{ps},PtNm nm ps->∀b,rd (n.map f) ps b=(rd n ps b).map (List.map f)
 |[],_,b=>rfl
 |p::ps,g,b=>by
  have hp':PtNm nm ps:=λq j=>g q (Ak _ j);have o:=x7w h hn hp';show(if p.isG=true then[cut (n.map f) b ((far p (n.map f) (fits (n.map f) ps) b).getD 0)] else[])++rd (n.map f) ps ((far p (n.map f) (fits (n.map f) ps) b).getD 0)=((if p.isG=true then[cut n b ((far p n (fits n ps) b).getD 0)] else[])++rd n ps ((far p n (fits n ps) b).getD 0)).map (List.map f);rw[x2v h (g p Al) hn (z1p h hn hp'),o,Bb,x2u];split<;>rfl
def ren_wn(h:Ren nm f){w}(g:48∈nm)(t):wn w (t.map f)=(wn w t).map f:=by
 unfold wn;rw[Bb,Ae,List.map_replicate,h.nm 48 g]
noncomputable def PcNm(nm:List Nat)(q:Pc):Prop:=isMo q=false/\isCn q=false/\∀c∈pcx q,c∈nm
def ren_pc(h:Ren nm f)(s:∀t∈ts,∀c∈t,c∈NS)(g:PcNm nm q)(u:pcI q=false):pcText (ts.map (List.map f)) 0 q=(pcText ts 0 q).map f:=by
 have gd:∀k,(ts.map (List.map f)).getD k []=(ts.getD k []).map f:=λk=>by
  rw[Gh,Gh,Be];cases ts[k]?<;>rfl
 have o:∀k,∀c∈ts.getD k [],c∈NS:=λk=>x2b s (λ_ h=>nomatch h);cases q with
 |into=>cases u
 |more _ _=>cases g.1
 |cnt _=>cases g.2.1
 |tx t=>exact(h.map_fix g.2.2).symm
 |gap k=>exact gd (k-1)
 |great k =>
  show((ts.map (List.map f)).getD (k-1) []).map up1=((ts.getD (k-1) []).map up1).map f;rw[gd,Ct,Ct];exact Kw λc j=>(h.up c (o _ c j)).symm
 |small k =>
  show((ts.map (List.map f)).getD (k-1) []).map lo1=((ts.getD (k-1) []).map lo1).map f;rw[gd,Ct,Ct];exact Kw λc j=>(h.lo c (o _ c j)).symm
 |nou k v =>
  show wn v ((ts.map (List.map f)).getD (k-1) [])=(wn v (ts.getD (k-1) [])).map f;rw[gd];exact ren_wn h (g.2.2 48 Al) _
theorem z1q(h:Ren nm f)(g:∀t∈ts,∀c∈t,c∈NS):∀{qs:List Pc} {acc},(∀q∈qs,PcNm nm q)->acc≠[]->qs.foldl (stepT (ts.map (List.map f)) 0) (acc.map (List.map f))=(qs.foldl (stepT ts 0) acc).map (List.map f)
 |[],_,_,_=>rfl
 |q::qs,acc,j,h0=>by
  have hq':=λp s=>j p (Ak _ s);rw[Ew,Ew];cases hi:pcI q with
  |true =>
   have o:∀ts acc,stepT ts 0 acc q=acc++[[]]:=λts acc=>by unfold stepT;rw[if_pos hi]
   rw[o,o,<- z1q h g hq' (by simp),Bb];rfl
  |false =>
   obtain⟨ini,la,rfl⟩:∃i l,acc=i++[l]:=⟨acc.dropLast,acc.getLast h0,(Ed h0).symm⟩
   rw[Bb,Am,Rh,q2r hi,q2r hi,<- z1q h g hq' (by simp),ren_pc h g (j q Al) hi,Bb,Am,Rh,Bb]
def z7h(h:Ren nm f)(g:PtNm nm (parse [] r.l))(j:∀q∈r.qs,PcNm nm q)(hn:∀c∈n,c∈NS):tellO r (n.map f) 0=(tellO r n 0).map (List.map (List.map f)):=by
 unfold tellO tellT;rw[z1p h hn g,x7w h hn g];split
 ·have:=z1q h (ts:=rd n (parse [] r.l) 0) (λt o c s=>hn c (z3y _ _ t o c s)) (acc:=[[]]) j (by simp);exact congrArg some this
 ·rfl
def x5z(h:Ren nm f)(v:PtNm nm (parse [] r.l)/\∀p∈r.qs,PcNm nm p)(B:PtNm nm (parse [] q.l)/\∀p∈q.qs,PcNm nm p)(o:ROk r)(s:ROk q)(hn:∀c∈n,c∈NS)(hl:n.length<=12)(e:tellO r (n.map f) 0=tellO q (n.map f) 0):tellO r n 0=tellO q n 0:=by
 rw[z7h h v.1 v.2 hn,z7h h B.1 B.2 hn] at e;cases e1:tellO r n 0 with
 |none =>
  cases e2:tellO q n 0 with
  |none=>rfl
  |some b=>simp_all
 |some a =>
  cases e2:tellO q n 0 with
  |none=>grind
  |some b =>
   rw[e1,e2] at e;have e:=Co e;have ha:=(q6t o ⟨hl,hn⟩ (by decide) e1).2.2;have j:=(q6t s ⟨hl,hn⟩ (by decide) e2).2.2;have u:∀{a b:List (List Nat)},(∀t∈a,∀c∈t,c∈NS)->(∀t∈b,∀c∈t,c∈NS)->a.map (List.map f)=b.map (List.map f)->a=b:=by
    intro a;induction a with
    |nil=>simp_all
    |cons x a ih=>intro b ha j e;cases b with
     |nil=>cases e
     |cons y b =>
      injection e with e1 e2;rw[h.map_inj (ha x Al) (j y Al) e1,ih (λt g=>ha t (Ak _ g)) (λt g=>j t (Ak _ g)) e2]
   rw[u (λt g=>(ha t g).2) (λt g=>(j t g).2) e]
noncomputable def sw(d e y:Nat):Nat:=if lo1 y=d then(if y=d then e else up1 e) else if lo1 y=e then(if y=e then d else up1 d) else y
noncomputable abbrev SwP(d e c:Nat):Prop:=(sw d e c∈NS/\sw d e (sw d e c)=c/\decide (sw d e c∈FI)=decide (c∈FI)/\decide (sw d e c∈LE)=decide (c∈LE))/\sw d e (up1 c)=up1 (sw d e c)/\sw d e (lo1 c)=lo1 (sw d e c)
def x7x:∀s∈[SO0,SO1,SO2],∀d∈s,∀e∈s,SwP d e d/\SwP d e (up1 d):=by trivial
def j0u(d e):sw d e=sw e d:=by
 unfold sw;by_cases h:d=e
 ·rw[h]
 ·grind
def ns_up:∀c∈NS,lo1 (up1 c)=lo1 c/\lo1 (lo1 c)=lo1 c/\(c=lo1 c\/c=up1 (lo1 c)):=by trivial
def sw_ren(j:s∈[SO0,SO1,SO2])(hd:d∈s)(o:e∈s)(u:c∈NS):SwP d e c:=by
 obtain⟨B,C,f⟩:=ns_up c u;by_cases g:lo1 c=d
 ·have:=x7x s j d hd e o;rw[g] at f;rcases f with z|z
  ·rw[z];exact this.1
  ·rw[z];exact this.2
 ·by_cases h:lo1 c=e
  ·have:=x7x s j e o d hd;unfold SwP;rw[j0u d e];rw[h] at f;rcases f with z|z
   ·rw[z];exact this.1
   ·rw[z];exact this.2
  ·have v:sw d e c=c:=by unfold sw;rw[if_neg g,if_neg h]
   have D:sw d e (up1 c)=up1 c:=by unfold sw;rw[B,if_neg g,if_neg h]
   have E:sw d e (lo1 c)=lo1 c:=by unfold sw;rw[C,if_neg g,if_neg h]
   unfold SwP;rw[v,D,E];exact⟨⟨u,v,rfl,rfl⟩,rfl,rfl⟩
def so_lo:∀s∈[SO0,SO1,SO2],∀d∈s,lo1 d=d:=by trivial
def so_in:∀c∈NS,∃s∈[SO0,SO1,SO2],lo1 c∈s:=by trivial
def bo_in:∀c∈NS,c∈both (lo1 c):=by trivial
def lo_lo:∀c∈NS,lo1 (lo1 c)=lo1 c:=by trivial
def x7y(h:c∈nmd t):lo1 c∈nmd t:=by
 obtain⟨f,g⟩:=Bt.mp h;refine Bt.mpr ⟨j0d c f,?_⟩;rw[lo_lo c f];exact g
def x2w(f:c∈NS)(h:lo1 c∈nmd t):c∈nmd t:=by
 obtain⟨j,g⟩:=Bt.mp h;refine Bt.mpr ⟨f,?_⟩;rw[lo_lo c f] at g;exact g
def sw_id(f:lo1 y≠d)(g:lo1 y≠e):sw d e y=y:=by unfold sw;rw[if_neg f,if_neg g]
def Ren.id(nm):Ren nm λc=>c:=⟨λ_ h=>h,λ_ _=>rfl,λ_ _ _ _ h=>h,λ_ _=>Iff.rfl,λ_ _=>Iff.rfl,λ_ _=>rfl,λ_ _=>rfl⟩
def Ren.comp{nm}(j:Ren nm f)(o:Ren nm g):Ren nm λc=>g (f c):=by
 refine⟨λc h=>o.ns _ (j.ns c h),λc h=>by rw[j.nm c h,o.nm c h],λc h d s e=>j.inj c h d s (o.inj _ (j.ns c h) _ (j.ns d s) e),λc h=>(o.fi _ (j.ns c h)).trans (j.fi c h),λc h=>(o.le _ (j.ns c h)).trans (j.le c h),λc h=>?_,λc h=>?_⟩
 ·show g (f (up1 c))=up1 (g (f c));rw[j.up c h,o.up _ (j.ns c h)]
 ·show g (f (lo1 c))=lo1 (g (f c));rw[j.lo c h,o.lo _ (j.ns c h)]
def ren_sw(f:s∈[SO0,SO1,SO2])(hd:d∈s)(g:e∈s)(nd:d∉nmd t)(ne:e∉nmd t):Ren (nmd t) (sw d e):=by
 have F:=λc h=>sw_ren f hd g (c:=c) h;refine⟨λc h=>(F c h).1.1,λc h=>sw_id (λz=>nd (z▸x7y h)) (λz=>ne (z▸x7y h)),λc h j o z=>?_,λc h=>decide_eq_decide.mp (F c h).1.2.2.1,λc h=>decide_eq_decide.mp (F c h).1.2.2.2,λc h=>(F c h).2.1,λc h=>(F c h).2.2⟩;rw[<- (F c h).1.2.1,<- (F j o).1.2.1,z]
theorem canon:∀(m:List Nat),(∀c∈m,c∈NS)->∃f,Ren (nmd t) f/\m.reverse.map f∈lev (nmd t) m.length
 |[],_=>⟨_,Ren.id _,Ao.mpr rfl⟩
 |c::m,h=>by
  have o:=h c Al;have Q:=λx D=>h x (Ak _ D);obtain⟨f,j,R⟩:=canon m Q;have put:∀g,m.reverse.map g=m.reverse.map f->g c∈nmd t++otherS (nmd t) (m.reverse.map f)->(c::m).reverse.map g∈lev (nmd t) (c::m).length:=λg E C=>by
   rw[Ql,Bb,E];exact Hh.mpr ⟨_,R,Az.mpr ⟨_,C,rfl⟩⟩
  generalize m.reverse=n at *;by_cases F:c∈nmd t
  ·exact⟨f,j,put f rfl (Bu _ (by rw[j.nm c F];exact F))⟩
  have G:=j0d c o;have H:=λz=>F (x2w o z);have u:=λz=>H (by rw[<- j.inj _ (x2h _ z) _ G (j.nm _ z)];exact z);obtain⟨s,I,hd⟩:=so_in _ (j.ns c o);rw[<- j.lo c o] at hd;have v:f (lo1 c)∈freeS (nmd t) s:=Bt.mpr ⟨hd,by rw[decide_eq_false u];rfl⟩;have B:∀g:Nat->Nat,g c∈NS->lo1 (g c)∈useS (nmd t) (n.map f) s->g c∈nmd t++otherS (nmd t) (n.map f):=λg S T=>by
   refine Bf _ (Hh.mpr ⟨s,I,Hh.mpr ⟨_,T,bo_in _ S⟩⟩)
  by_cases J:f (lo1 c)∈(n.map f).map lo1
  ·refine⟨f,j,put f rfl (B f (j.ns c o) ?_)⟩;rw[<- j.lo c o];exact Bu _ (Bt.mpr ⟨v,decide_eq_true J⟩)
  ·have U:f (lo1 c)∈(freeS (nmd t) s).filter λx => !decide (x∈(n.map f).map lo1):=Bt.mpr ⟨v,by rw[decide_eq_false J];rfl⟩;obtain⟨e,L⟩:∃e,e∈((freeS (nmd t) s).filter λx => !decide (x∈(n.map f).map lo1)).take 1:=by
    cases hz:(freeS (nmd t) s).filter λx => !decide (x∈(n.map f).map lo1) with
    |nil=>grind
    |cons y r=>simp_all
   obtain⟨E,C⟩:=Bt.mp (En L);obtain⟨W,M⟩:=Bt.mp E;have C:e∉(n.map f).map lo1:=by grind
   have M:e∉nmd t:=by grind
   have O:=ren_sw I hd W u M;have P:=j.comp O;refine⟨_,P,put _ (Kw λx D=>?_) (B (λy=>sw (f (lo1 c)) e (f y)) (P.ns c o) ?_)⟩
   ·have hx':lo1 (f x)∈(n.map f).map lo1:=Az.mpr ⟨_,Az.mpr ⟨x,D,rfl⟩,rfl⟩;exact sw_id (λz=>J (z▸hx')) (λz=>C (z▸hx'))
   ·show lo1 (sw (f (lo1 c)) e (f c))∈_;rw[<- O.lo _ (j.ns c o),<- j.lo c o];have:sw (f (lo1 c)) e (f (lo1 c))=e:=by unfold sw;rw[if_pos (so_lo s I _ hd),if_pos rfl]
    rw[this];exact Bf _ L
def x2x(h:CRule K H R r)(s:∀c∈txO r,c∈t):PtNm (nmd t) (parse [] r.l)/\∀p∈r.qs,PcNm (nmd t) p:=by
 have g:∀c∈txO r,c∈nmd t:=λc f=>Bt.mpr ⟨q9l h c f,decide_eq_true (Az.mpr ⟨c,s c f,rfl⟩)⟩;refine⟨λp u x e c f=>?_,λq j=>⟨h.ok.nm q j,h.nc q j,λc f=>g c (Bf _ (Hg.mpr ⟨_,Az.mpr ⟨q,j,rfl⟩,f⟩))⟩⟩;have o:c∈txO r:=Bu _ (Hg.mpr ⟨_,Az.mpr ⟨p,u,rfl⟩,by rw[e];exact f⟩);exact⟨g c o,q9l h c o⟩
def x6a(j:CRule K H R r)(o:CRule K H' S q)(hn:∀c∈n,c∈NS)(hl:n.length<=12)(h:∀m∈lev (nmO r q) n.length,tellO r m 0=tellO q m 0):tellO r n 0=tellO q n 0:=by
 obtain⟨f,u,s⟩:=canon n.reverse λc g=>hn c (List.mem_reverse.mp g)
 rw[List.reverse_reverse,Ou] at s;exact x5z u (x2x j λc g=>Bu _ g) (x2x o λc g=>Bf _ g) j.ok o.ok hn hl (h _ s)
end
end K
namespace K
open PySem L2 TX SB HM
section
variable{P:Aq}{w:World}{K:Ai}{mg:Str->Option Value}{base:Heap}
def q2z(p):(vP p).length=p.length:=Ae _
def q4n{q:Pth}(h:q≠[]):cutV (vP q) none (some (-1))=vP q.dropLast/\¬(HT.sIx (vP q).length 0 none=0/\HT.sIx (vP q).length (vP q).length (some (-1))=(vP q).length):=by
 have hl:=Bw.mpr h;have e:HT.sIx (vP q).length (vP q).length (some (-1))=q.length-1:=by
  show(if (-1:Int)<0 then((-1:Int)+((vP q).length:Int)).toNat else min (-1:Int).toNat (vP q).length)=_;rw[if_pos (by decide),q2z];lia
 refine⟨?_,λz=>by rw[e,q2z] at z;lia⟩;unfold cutV;rw[e];show(vP q).take (q.length-1-0)=_;rw[Lo,<- Qi,<- List.dropLast_eq_take]
def q8k{q:Pth}(h:q≠[]):atI (vP q) (-1)=some (.str (mk (q.getLastD []))):=by
 have hl:=Bw.mpr h;unfold atI ixN;rw[if_neg (by decide),if_pos (by rw[q2z];lia)];have e:((-1:Int)+((vP q).length:Int)).toNat=q.length-1:=by rw[q2z];lia
 show(vP q)[((-1:Int)+((vP q).length:Int)).toNat]?=_;rw[e,Be,<- List.getLast?_eq_getElem?,Lc,Ji h];rfl
def q5w(h:okP q):okN (q.getLastD []):=by
 rw[Lc,Ji h.ne];exact h.all _ (Xg h.ne)
def x6b(h:∀c∈n,c<128):Hv (mk n)=mk (lowN n):=by
 apply ext;rw[TX.lower (by rw[q0x];exact h),q0x,q0x];rfl
theorem z4b:∀{p q},kP p=kP q->p=q
 |[],[],_=>rfl
 |[],_::_,h=>by cases h
 |_::_,[],h=>by cases h
 |a::p,b::q,h=>by
  unfold kP at h;rw[Am,Am] at h;injection h with h1 h2;injection h1 with h1;rw[SB.mk_inj h1,z4b h2]
def x2y{rs:List HRow}(h:∀r∈rs,r.1≠p):valV (rs.map λr=>(kP r.1,r.2)) (kP p)=none:=by
 induction rs with
 |nil=>rfl
 |cons r rs ih =>
  rw[Am,q1o (λz=>h r Al (z4b z))];exact ih λx f=>h x (Ak _ f)
def x2z{rs:List HRow}(f:r∈rs)(nd:(rs.map (·.1)).Nodup):valV (rs.map λr=>(kP r.1,r.2)) (kP r.1)=some r.2:=by
 induction rs with
 |nil=>cases f
 |cons x rs ih =>
  rw[Am,Eu] at nd;rcases Av.mp f with rfl|f
  ·exact q1r rfl
  ·rw[Am,q1o (λz=>nd.1 (by rw[z4b z];exact Az.mpr ⟨r,f,rfl⟩))];exact ih f nd.2
def x6c{rs:List HRow}(h:∀r∈rs,r.1≠p):putK (rs.map λr=>(kP r.1,r.2)) (kP p) v=(rs++[(p,v)]).map λr=>(kP r.1,r.2):=by
 rw[x4e v (x2y h),Bb];rfl
noncomputable def keyO(bl:Bool)(p:Pth):PKey:=(kP p.dropLast,.inr (mk (if bl then lowN (p.getLastD []) else p.getLastD [])))
def j0v{p q:Pth}(f:p≠[])(g:q≠[])(h:fold bl p=fold bl q):keyO bl p=keyO bl q:=by
 obtain⟨j,o⟩:=(x0x f g).mp h;unfold keyO;cases bl with
 |true=>simp_all
 |false=>simp_all
def x6d(h:hasP ks k=true):hasP (ks++[(k',b)]) k=true:=by
 unfold hasP at *;rw[List.any_append,h,Bool.true_or]
def x6e:hasP (ks++[(k,b)]) k=true:=by
 unfold hasP;simp
structure RwI (P) (w) (H) (a b L Dr d) (bl) (i) (H') (zs) (ds:List (Addr×Pth)) (ks):Prop where
 fd:Fd a b H H'
 rl:RL H' L zs
 hl:Hl bl (zs.map (·.2))
 len:zs.length<=i
 da:H' Dr=some (.lst (ds.map λz=>V.ref z.1))
 dt:∀z∈ds,H' z.1=some (.tup (vP z.2))/\(z.2=[]\/((z.2,none)∈zs.map (·.2)))
 dn:ds≠[]
 dl:ds.length<=i+1
 hd:DPr P w H' d ks
 kl:ks.length<=i
 hk:∀z∈zs,hasP ks (keyO bl z.2.1)=true
def DPr.fd(x:DPr P w H d ks)(F:FeedAt H a b)(fd:Fd a b H H')(hd:d≠a):DPr P w H' d ks :=
 ⟨fd.at x.at_ hd,x.sys,x.len,λy f=>by obtain⟨c,g,h⟩:=x.pk y f;exact⟨c,tupFd F fd _ _ g,tupFd F fd _ _ h⟩⟩
section
variable{H:Hp}{a b L Dr d:Addr}{bl:Bool}{i:Nat}{H' H2:Hp}{zs:List Zr}{ds:List (Addr×Pth)}{ks:List (PKey×Addr)}
def RwI.go(x:RwI P w H a b L Dr d bl i H' zs ds ks)(fd:Fd a b H' H2)(g:L≠a)(h:Dr≠a)(hd:d≠a):RwI P w H a b L Dr d bl i H2 zs ds ks :=
 ⟨x.fd.trans fd,x.rl.fd x.fd.feed fd g,x.hl,x.len,fd.at x.da h,λz f=>⟨tupFd x.fd.feed fd _ _ (x.dt z f).1,(x.dt z f).2⟩,x.dn,x.dl,DPr.fd x.hd x.fd.feed fd hd,x.kl,x.hk⟩
def RwI.sm(x:RwI P w H a b L Dr d bl i H' zs ds ks)(s:Same H' H2):RwI P w H a b L Dr d bl i H2 zs ds ks :=
 ⟨x.fd.same s,x.rl.same s,x.hl,x.len,s _ _ x.da,λz f=>⟨s _ _ (x.dt z f).1,(x.dt z f).2⟩,x.dn,x.dl,x.hd.same s,x.kl,x.hk⟩
def RwI.dput(x:RwI P w H a b L Dr d bl i H' zs ds ks)(F:FeedAt H a b)(hd:H d=none)(pk:PrK H' k e)(l:ks.length<sizeLine)(g:L≠d)(h:Dr≠d):RwI P w H a b L Dr d bl (i+1) (upd H' d (PdO P w d (ks++[(k,e)]))) zs ds (ks++[(k,e)]):=by
 have tk:∀S j,H' S=some (.tup j)->upd H' d (PdO P w d (ks++[(k,e)])) S=some (.tup j):=λS j e=>by rw[q0g (q4q e x.hd.at_)];exact e
 exact⟨x.fd.put F hd,⟨by rw[q0g g];exact x.rl.at_,λz f=>PR.same (x.rl.pr z f) tk⟩,x.hl,Dy x.len,by rw[q0g h];exact x.da,λz f=>⟨tk _ _ (x.dt z f).1,(x.dt z f).2⟩,x.dn,Dy x.dl,x.hd.put pk l,by rw[Af];exact Gj x.kl,λz f=>x6d (x.hk z f)⟩
def RwI.rput(x:RwI P w H a b L Dr d bl (i+1) H' zs ds ks)(F:FeedAt H a b)(C:H L=none)(j:L≠d)(o:Dr≠L)(f:zs.length<=i)(D:H' T=some (.tup [.ref p,mV m]))(E:H' p=some (.tup (vP q)))(ok:okP q)(h:∀z∈zs,fold bl z.2.1≠fold bl q)(G:q.dropLast=[]\/(q.dropLast,none)∈zs.map (·.2))(hk:hasP ks (keyO bl q)=true):RwI P w H a b L Dr d bl (i+1) (upd H' L (.lst (zs.map (λz=>V.ref z.1)++[.ref T]))) (zs++[(T,(q,m))]) ds ks:=by
 have tk:∀S s,H' S=some (.tup s)->upd H' L (.lst (zs.map (λz=>V.ref z.1)++[.ref T])) S=some (.tup s):=λS s e=>by rw[q0g (λz=>by rw[z,x.rl.at_] at e;cases e)];exact e
 have B:(zs++[(T,(q,m))]).map (·.2)=zs.map (·.2)++[(q,m)]:=by simp_all
 refine⟨x.fd.put F C,⟨by rw[q0c,Bb];rfl,λz f=>?_⟩,?_,by rw[Af];exact Gj f,by rw[q0g o];exact x.da,λz f=>⟨tk _ _ (x.dt z f).1,(x.dt z f).2.imp id λy=>by rw[B];exact Bu _ y⟩,x.dn,x.dl,⟨by rw[q0g j.symm];exact x.hd.at_,x.hd.sys,x.hd.len,λy u=>by obtain⟨c,I,J⟩:=x.hd.pk y u;exact⟨c,tk _ _ I,tk _ _ J⟩⟩,x.kl,λz f=>?_⟩
 ·rcases Au.mp f with f|f
  ·exact PR.same (x.rl.pr z f) tk
  ·rw[Ao.mp f];exact⟨p,tk _ _ D,tk _ _ E⟩
 ·rw[B];refine⟨λr g=>?_,?_,λr g=>?_⟩
  ·rcases Au.mp g with g|g
   ·exact x.hl.ok r g
   ·simp_all
  ·rw[Bb];refine Wn.mpr ⟨x.hl.nd,(Rt _ _),λy u M v=>?_⟩;rw[Ao.mp v];obtain⟨r,g,rfl⟩:=Az.mp u;obtain⟨z,f,rfl⟩:=Az.mp g;exact h z f
  ·rcases Au.mp g with g|g
   ·exact(x.hl.dr r g).imp id λz=>Bu _ z
   ·rw[Ao.mp g];exact G.imp id λz=>Bu _ z
 ·rcases Au.mp f with f|f
  ·exact x.hk z f
  ·grind
def RwI.draw(x:RwI P w H a b L Dr d bl (i+1) H' zs ds ks)(F:FeedAt H a b)(o:H Dr=none)(g:Dr≠L)(h:Dr≠d)(hl:ds.length<=i+1)(B:H' p=some (.tup (vP q)))(C:(q,none)∈zs.map (·.2)):RwI P w H a b L Dr d bl (i+1) (upd H' Dr (.lst (ds.map (λz=>V.ref z.1)++[.ref p]))) zs (ds++[(p,q)]) ks:=by
 have tk:∀S j,H' S=some (.tup j)->upd H' Dr (.lst (ds.map (λz=>V.ref z.1)++[.ref p])) S=some (.tup j):=λS j e=>by rw[q0g (λz=>by rw[z,x.da] at e;cases e)];exact e
 refine⟨x.fd.put F o,⟨by rw[q0g g.symm];exact x.rl.at_,λz f=>PR.same (x.rl.pr z f) tk⟩,x.hl,x.len,by rw[q0c,Bb];rfl,λz f=>?_,by simp,by rw[Af];exact Gj hl,⟨by rw[q0g h.symm];exact x.hd.at_,x.hd.sys,x.hd.len,λy s=>by obtain⟨c,u,v⟩:=x.hd.pk y s;exact⟨c,tk _ _ u,tk _ _ v⟩⟩,x.kl,x.hk⟩;rcases Au.mp f with f|f
 ·exact⟨tk _ _ (x.dt z f).1,(x.dt z f).2⟩
 ·simp_all
end
noncomputable def spShort:Sp:=λvs H Q _=>∃a b g m,vs=[.ref a,.str g,.int m]/\FeedAt H a b/\0<g.length/\g.length<=1000/\(∀c∈tl g,c∈HM.NS)/\0<m/\m<=4/\∀L zs H',Fd a b H H'->H L=none->RL H' L zs->Hl true (zs.map (·.2))->zs.length<=17->(∀z∈zs,(z.2.1.getLastD []).length<=m.toNat)->Q (.ref L) H'
noncomputable abbrev q3o:Stmt:=top 88
def sc_short_rows:FnScope ["_law_feed", "_law_signs_here", "_law_most_here", "_law_rows", "_law_drawers", "_law_there", "_law_k", "_law_drawer", "_law_name"] Z5 (defScope q3o):=by trivial
def z1r(D:Df K mg "_law_short_rows" q3o Z5)(T:Txt mg)(C:Cal P w K mg base "_law_draw" 1 Z4 spDraw/\Cal P w K mg base "_law_text" 2 Z3 spText):Cal P w K mg base "_law_short_rows" 4 Z5 spShort:=by
 refine D.cal sc_short_rows (λvs H Q E h=>?_) (λf f4 A outer s H vs Q E hr h=>?_)
 ·obtain⟨a,b,g,m,rfl,_⟩:=h;rfl
 ·obtain⟨a,b,g,m,rfl,F,g0,g1,g2,f5,f6,k⟩:=h;refine⟨_,(q0b (q0l (i:=3) sc_short_rows.nd rfl (by trivial) (q1p q0d)) (q0b (q0l (i:=4) sc_short_rows.nd rfl (by trivial) (q1p (q0a (q0v q0d) q0d))) (q0b (q0l (i:=5) sc_short_rows.nd rfl (by trivial) (x4w P w rfl rfl)) (q0b (q1g Bj rfl (q1w rfl T.b_range (q0a (pe_c C.1 hr (q0a (pv 0) (q0a q0f q0d))) q0d)) (q0k (i:=6) sc_short_rows.nd rfl (by trivial)) (q0b (q0l (i:=7) sc_short_rows.nd rfl (by trivial) (q0w (ix_k K rfl) (pv 4) (pe_c C.1 hr (q0a (pv 0) (q0a (q0r (q2u K rfl) (by rfl) T.b_len By (q0a (pv 4) q0d)) q0d))) (λ_ _=>rfl))) (q0b (q0l (i:=8) sc_short_rows.nd rfl (by trivial) (pe_c C.2 hr (q0a (pv 0) (q0a (pv 1) (q0a (q0u q0n q0f (pe_c C.1 hr (q0a (pv 0) (q0a (pv 2) q0d)))) q0d))))) (q0e (q0t (pt_j (@PW.pt _ _ _ (q2v (q0h z9g (q0r (q2u K rfl) (by rfl) T.b_len By (q0a (pv 7) q0d)) q0f (nomark _)) (q2c (q3r (x1i P w rfl rfl (z3j hr) (q0v (q0a (pv 7) (q0a (@q4p _ _ _ _ _ _ _ _ _ K rfl Bo Dp Dq q2f (pv 8) (by rfl) (by rfl)) q0d))) (pv 5))))))) (q0b (x9o P w rfl rfl (z3j hr) (pv 5) (q0v (q0a (pv 7) (q0a (@q4p _ _ _ _ _ _ _ _ _ K rfl Bo Dp Dq q2f (pv 8) (by rfl) (by rfl)) q0d))) q6g rfl) (q0b (q0y (@bm_k _ _ _ _ _ _ _ _ _ _ _ _ K rfl Bz Cu Cv q1i (pv 3) (q0a (q0v (q0a (q0u z4v (pv 7) (q0v (q0a (pv 8) q0d))) (q0a (q0w (ix_k K rfl) (q1p (q0a z1v (q0a (pv 6) q0d))) (pe_c C.1 hr (q0a (pv 0) (q0a q0f q0d))) (λ_ _=>rfl)) q0d))) q0d) (by rfl) (by rfl) (by rfl) (by rfl) (by rfl))) (q0e (q0t (q3r (q8s (q0w (ix_k K rfl) (q0w (ix_k K rfl) (pv 3) (q4o q2l q0f) (λ_ _=>rfl)) q0f (λ_ _=>rfl)))) (q0e (q0y (@bm_k _ _ _ _ _ _ _ _ _ _ _ _ K rfl Bz Cu Cv q1i (pv 4) (q0a (q0u z4v (pv 7) (q0v (q0a (pv 8) q0d))) q0d) (by rfl) (by rfl) (by rfl) (by rfl) (by rfl)))) q0j)))) q0j))))) (q0e (q0m (pv 3))))))),?_⟩;refine⟨by show 0<=sizeLine;decide,λL hL=>⟨by show 0<=sizeLine;decide,λp0 b0=>⟨by show 1<=sizeLine;decide,λJ O=>?_⟩⟩⟩;intro d hd b1;have R:L≠a:=(q0q F.fa.choose_spec.choose_spec hL).symm;have s1:=(Same.refl H).new (o:=.lst []) hL;have s2:=s1.new (o:=.tup []) b0;have s3:=s2.new (o:=.lst [.ref p0]) O;have s4:=s3.new (o:=PdO P w d []) hd;have a2:H J=none:=s2.free O;have b2:H d=none:=s3.free hd;have S:J≠a:=(q0q F.fa.choose_spec.choose_spec a2).symm;have U:d≠a:=(q0q F.fa.choose_spec.choose_spec b2).symm;have a5:p0≠L:=q4q b0 q0c;have G:J≠L:=(λz=>by rw[z,q0g a5.symm,q0c] at O;cases O)
  have a3:J≠p0:=q4q O q0c;have a6:d≠L:=(λz=>by rw[z,q0g G.symm,q0g a5.symm,q0c] at hd;cases hd)
  have a7:d≠J:=q4q hd q0c;have c8:d≠p0:=(λz=>by rw[z,q0g a3.symm,q0c] at hd;cases hd)
  have I0:RwI P w H a b L J d true 0 (upd (upd (upd (upd H L (.lst [])) p0 (.tup [])) J (.lst [.ref p0])) d (PdO P w d [])) [] [(p0,[])] []:=by
   refine⟨(Fd.refl F).same s4,⟨?_,(λ_ h=>nomatch h)⟩,Hl.nil true,Aj _,?_,λz hz=>?_,by simp,Aj _,⟨q0c,b1,Ba _,(λ_ h=>nomatch h)⟩,Aj _,(λ_ h=>nomatch h)⟩
   ·rw[q0g a6.symm,q0g G.symm,q0g a5.symm];exact q0c
   ·rw[q0g a7.symm];exact q0c
   ·rw[Ao.mp hz];exact⟨by rw[q0g c8.symm,q0g a3.symm];exact q0c,.inl rfl⟩
  refine⟨_,rfl,a,b,_,rfl,I0.fd.feed,by decide,by decide,λr0 H1 f7 f8 c9=>?_⟩;have I1:=I0.go c9 R S U;refine⟨r0,rfl,by lia,by lia,q1y (n:=r0.toNat) (λi a8 H'=>∃B ds W x6 x7 x8,a8=[some (.ref a),some (.str g),some (.int m),some (.ref L),some (.ref J),some (.ref d),x6,x7,x8]/\RwI P w H a b L J d true i H' B ds W/\i<=r0.toNat/\∀z∈B,(z.2.1.getLastD []).length<=m.toNat) ⟨[],_,_,none,none,none,rfl,I1,Ba _,(λ_ h=>nomatch h)⟩ ?_ ?_⟩
  ·rintro i a8 H' hi ⟨B,ds,W,x6,x7,x8,rfl,X,_,sh⟩;have d0:=X.dl;have f9:0<ds.length:=Bw.mpr X.dn;refine gE λD2 X2 b3 d1=>?_;refine⟨_,rfl,_,rfl,_,rfl,_,_,rfl,.inl ⟨_,SqL.of X.da,rfl⟩,a,b,_,rfl,X.fd.feed,by rw[Ae];lia,by rw[Ae];lia,λr1 H2 d2 b4 b5=>?_⟩;have I3:=X.go b5 R S U;rw[Ae] at b4;obtain⟨v,I,b6⟩:=q8y (xs:=ds.map λz=>V.ref z.1) d2 (by rw[Ae];exact b4);obtain⟨z,hz,rfl⟩:∃z∈ds,v=V.ref z.1:=by
    rw[Be] at I;cases e:ds[r1.toNat]? with
    |none=>rw[e] at I;cases I
    |some z=>rw[e] at I;cases I;exact⟨z,Ar e,rfl⟩
   refine .inl ⟨J,_,r1,_,rfl,rfl,SqL.of I3.da,b6,?_⟩;show X2 _ _ _;refine gY d1 λX3 d3=>?_;refine⟨_,rfl,_,rfl,_,rfl,_,rfl,a,b,m,rfl,I3.fd.feed,by lia,by lia,λr2 H4 g3 g4 b7=>.inl ⟨_,_,rfl,rfl,?_⟩⟩;have I4:=I3.go b7 R S U;refine⟨a,b,g,1+r2,rfl,I4.fd.feed,g0,g1,by lia,by lia,λt H8 g6 d4 b8=>?_⟩;have I8:=I4.go b8 R S U;have Y:okN t:=⟨by lia,by lia,λc h=>g2 c (d4 c h)⟩
   have d5:t.length<=m.toNat:=by lia
   clear I4 I3 b5 b7 I b6 b8;obtain⟨zt,zd⟩:=I8.dt z hz;have b9:z.2++[t]≠[]:=by simp
   have d6:keyO true (z.2++[t])=(kP z.2,.inr (mk (lowN t))):=by
    unfold keyO;rw[Ui,Uj];rfl
   have pk:∀{Z:Hp} {p:Addr},Z z.1=some (.tup (vP z.2))->Z p=some (.tup [.ref z.1,.str (mk (lowN t))])->PrK Z (keyO true (z.2++[t])) p:=λ{Z p} e1 e2=>by
    rw[d6];exact⟨z.1,e2,by rw[z2y];exact e1⟩
   have lw:Hv (mk t)=mk (lowN t):=x6b Y.low;show X3 _ _ _;subst d3;refine⟨λbb Z=>RwI P w H a b L J d true i Z B ds W/\(bb=true->z.2.length<6/\hasP W (keyO true (z.2++[t]))=false),?_,?_⟩;rotate_left
   ·refine⟨_,rfl,_,_,rfl,.inr ⟨_,SqT.of zt,rfl⟩,_,_,rfl,rfl,_,rfl,?_⟩;refine iteB (λhb=>?_) (λhb=>⟨I8,(λz=>by cases z)⟩);have hb':z.2.length<6:=by
     have e:=of_decide_eq_true hb;rw[q2z] at e;lia
    refine⟨_,rfl,_,rfl,rfl,_,rfl,rfl,small (by rw[q0o];have:=Y.few;lia),?_⟩;rw[lw];refine⟨by show 2<=sizeLine;decide,λp2 d7=>?_⟩;have s9:=(Same.refl H8).new (o:=.tup [.ref z.1,.str (mk (lowN t))]) d7;exact⟨_,rfl,d,W,p2,keyO true (z.2++[t]),rfl,rfl,(I8.sm s9).hd,pk (s9 _ _ zt) q0c,_,rfl,I8.sm s9,λe=>⟨hb',by simpa using e⟩⟩
   rintro bb Z ⟨u,c0⟩;refine ite2 (λhb=>?_) (λhb=>by subst b3;exact⟨B,ds,W,_,_,_,rfl,⟨u.fd,u.rl,u.hl,Dy u.len,u.da,u.dt,u.dn,Dy u.dl,u.hd,Dy u.kl,u.hk⟩,hi,sh⟩);obtain⟨h6,a0⟩:=c0 hb;obtain⟨c1,_⟩:=u.dt z hz;refine gZ λX5 d8=>?_;refine⟨_,rfl,_,rfl,_,rfl,rfl,_,rfl,rfl,small (by rw[q0o];have:=Y.few;lia),?_⟩;rw[lw];refine⟨by show 2<=sizeLine;decide,λp3 d9=>?_⟩;have sA:=(Same.refl Z).new (o:=.tup [.ref z.1,.str (mk (lowN t))]) d9;have IA:=u.sm sA;have pkA:=pk (sA _ _ c1) (p:=p3) q0c;have c2:W.length<sizeLine:=by have:=u.kl;exact small' (by lia)
   refine⟨d,W,p3,keyO true (z.2++[t]),rfl,rfl,rfl,IA.hd,pkA,a0,c2,?_⟩;have IB:=IA.dput F b2 pkA c2 a6.symm a7.symm;have e0:B.length<=i:=u.len;have c3:∀y∈B,fold true y.2.1≠fold true (z.2++[t]):=λy hy e=>by
    have h1:=u.hk y hy;rw[j0v (u.hl.ok _ (Az.mpr ⟨y,hy,rfl⟩)).ne b9 e] at h1;rw[h1] at a0;cases a0
   have e3:okP (z.2++[t]):=by
    refine⟨by simp,by rw[Af];show _+1<=6;lia,λn hn=>?_⟩;rcases Au.mp hn with hn|hn
    ·rcases zd with e|e
     ·rw[e] at hn;cases hn
     ·exact(u.hl.ok _ e).all n hn
    ·rw[Ao.mp hn];exact Y
   have e4:(z.2++[t]).dropLast=[]\/((z.2++[t]).dropLast,none)∈B.map (·.2):=by rw[Ui];exact zd
   have c4:hasP (W++[(keyO true (z.2++[t]),p3)]) (keyO true (z.2++[t]))=true:=x6e;clear IA I8 zt c1 pkA pk a0 c0 u sA;generalize upd (upd Z p3 (.tup [.ref z.1,.str (mk (lowN t))])) d _=HB at IB;generalize W++[(keyO true (z.2++[t]),p3)]=g7 at IB c4;obtain⟨e5,_⟩:=IB.dt z hz;show X5 _ _ _;refine gY d8 λX6 e6=>?_;refine⟨_,rfl,.inl ⟨rfl,_,SqL.of IB.rl.at_⟩,_,rfl,_,rfl,by show 1<=sizeLine;decide,λp4 e7=>?_⟩;have s5:=(Same.refl HB).new (o:=.tup [.str (mk t)]) e7;refine⟨z.1,p4,_,_,rfl,rfl,s5 _ _ e5,q0c,by rw[q2z];exact small (by show _+1<=_;lia),λp5 HC sC c5 _=>?_⟩;have hp5':HC p5=some (.tup (vP (z.2++[t]))):=by rw[c5];show _=some (HO.tup ((z.2++[t]).map _));rw[Bb];rfl
   have IC:=IB.sm (s5.trans sC);refine⟨_,rfl,by show 2<=sizeLine;decide,λM hM=>?_⟩;have e8:M≠a:=(IC.fd.feed.na hM).symm;have IM:=IC.sm ((Same.refl HC).new (o:=.lst [.non,.int (0+(i:Int))]) hM);have a4:=((Same.refl HC).new (o:=.lst [.non,.int (0+(i:Int))]) hM) _ _ hp5';refine⟨_,rfl,a,b,_,rfl,IM.fd.feed,by decide,by decide,λr5 HN g8 g9 a9=>?_⟩;have IN:=IM.go a9 R S U;have c6:HN p5=some (.tup (vP (z.2++[t]))):=tupFd IM.fd.feed a9 _ _ a4;have a1:∃j:Option Int,atI [V.non,V.int (0+(i:Int))] r5=some (mV j):=by
    have e:r5=0\/r5=1:=by lia
    rcases e with rfl|rfl
    ·exact⟨none,rfl⟩
    ·exact⟨some _,rfl⟩
   obtain⟨j,a1⟩:=a1;refine .inl ⟨M,_,r5,_,rfl,rfl,SqL.of (a9.at q0c e8),a1,?_⟩;clear a1 IM IC IB a4 c5 hp5';refine⟨by show 2<=sizeLine;decide,λT1 e9=>?_⟩;have sD:=(Same.refl HN).new (o:=.tup [.ref p5,mV j]) e9;have ID:=IN.sm sD;refine⟨L,_,_,rfl,rfl,ID.rl.at_,by rw[Ae];exact small' (by lia),?_⟩;have IE:=ID.rput (m:=j) F hL a6.symm G e0 q0c (sD _ _ c6) e3 c3 e4 c4;have zE:=(IE.dt z hz).1;have tE:upd (upd HN T1 (.tup [.ref p5,mV j])) L (.lst (B.map (λz=>V.ref z.1)++[.ref T1])) T1=some (.tup [.ref p5,mV j]):=by rw[q0g (q4q q0c ID.rl.at_)];exact q0c
   have lE:=IE.rl.at_;generalize upd (upd HN T1 (.tup [.ref p5,mV j])) L _=HE at IE zE tE lE;have c7:∀y∈B++[(T1,(z.2++[t],j))],(y.2.1.getLastD []).length<=m.toNat:=λy hy=>by
    rcases Au.mp hy with hy|hy
    ·exact sh y hy
    ·rw[Ao.mp hy];show((z.2++[t]).getLastD []).length<=_;rw[Uj];exact d5
   have f1:atI ((B++[(T1,(z.2++[t],j))]).map λz=>V.ref z.1) (-1)=some (.ref T1):=by
    rw[Bb];unfold atI ixN;rw[if_neg (by decide),if_pos (by simp only[Af,Ae,Bi];lia)];have e:((-1:Int)+(((B.map λz=>V.ref z.1)++[(T1,(z.2++[t],j))].map λz=>V.ref z.1).length:Int)).toNat=(B.map λz=>V.ref z.1).length:=by
     simp only[Af,Ae,Bi];lia
    show((B.map λz=>V.ref z.1)++_)[((-1:Int)+_).toNat]?=_;rw[e,Dx (Aj _),Oi];rfl
   show X6 _ _ _;subst e6;subst b3;refine⟨_,rfl,_,rfl,.inl ⟨L,_,-1,_,rfl,rfl,SqL.of lE,f1,?_⟩⟩;refine .inr (.inl ⟨T1,_,1,_,rfl,rfl,SqT.of tE,rfl,_,rfl,?_⟩);cases j with
   |some x=>exact iteF ⟨_,_,_,_,_,_,rfl,IE,hi,c7⟩
   |none =>
    refine iteT ⟨_,rfl,.inl ⟨rfl,_,SqL.of IE.da⟩,_,rfl,_,rfl,by show 1<=sizeLine;decide,λp6 f2=>?_⟩;have s6:=(Same.refl HE).new (o:=.tup [.str (mk t)]) f2;refine⟨z.1,p6,_,_,rfl,rfl,s6 _ _ zE,q0c,by rw[q2z];exact small (by show _+1<=_;lia),λp7 HF sF f3 _=>?_⟩;have hp7':HF p7=some (.tup (vP (z.2++[t]))):=by rw[f3];show _=some (HO.tup ((z.2++[t]).map _));rw[Bb];rfl
    have IF:=IE.sm (s6.trans sF);refine⟨J,_,_,rfl,rfl,IF.da,by rw[Ae];exact small' (by lia),?_⟩;exact⟨_,_,_,_,_,_,rfl,IF.draw F a2 G a7.symm d0 hp7' (by simp),hi,c7⟩
  ·rintro a8 H' ⟨B,ds,W,x6,x7,x8,rfl,X,_,sh⟩;exact⟨_,rfl,k L B H' X.fd hL X.rl X.hl (by have:=X.len;lia) sh⟩
structure Hk (K) (c):Prop where
 cl:Cls K c
 b:NoAttr K c "blind"
 m:NoAttr K c "marks"
noncomputable abbrev hF(bl:Bool)(d:Addr):List (Str×V):=[("blind",.bl bl),("marks",.ref d)]
structure HallAt (c) (H:Hp) (h d) (bl) (rows:List Rw):Prop where
 i:∃dx,H h=some (.ins c dx (hF bl d))
 d:H d=some (dR (rows.map rR))
def HallAt.same{d}(x:HallAt c H h d bl rows)(s:Same H H'):HallAt c H' h d bl rows:=⟨x.i.imp λf e=>s _ _ e,s _ _ x.d⟩
noncomputable def spAlike:Sp:=λvs H Q _=>∃x y,vs=[.str x,.str y]/\(∀c∈tl x,c<128)/\(∀c∈tl y,c<128)/\x.length<=1000/\y.length<=1000/\Q (.bl (decide ((tl x).map Kl=(tl y).map Kl))) H
noncomputable abbrev z1s:Stmt:=top 19
def x6f:FnScope Zd Zd (defScope z1s):=by trivial
def x6g(D:Df K mg "alike" z1s Zd)(T:Txt mg):Cal P w K mg base "alike" 1 Zd spAlike:=by
 refine D.cal x6f (λvs H Q E h=>?_) (λf g A outer s H vs Q E j h=>?_)
 ·obtain⟨x,y,rfl,_⟩:=h;rfl
 ·obtain⟨x,y,rfl,o,u,v,B,k⟩:=h;refine⟨_,(q0e (q0m (q2g (eq_k K rfl j) (@q4p _ _ _ _ _ _ _ _ _ K rfl Bo Dp Dq q2f (pv 0) (by rfl) (by rfl)) (@q4p _ _ _ _ _ _ _ _ _ K rfl Bo Dp Dq q2f (pv 1) (by rfl) (by rfl)) (nomark _)))),?_⟩;refine⟨_,rfl,rfl,_,rfl,rfl,small (by lia),⟨_,rfl,rfl,_,rfl,rfl,small (by lia),.inl ⟨rfl,?_⟩⟩⟩;have e:decide ((V.str (Hv x))=V.str (Hv y))=decide ((tl x).map Kl=(tl y).map Kl):=by
   rw[<- TX.lower o,<- TX.lower u];by_cases h:Hv x=Hv y
   ·rw[h];simp
   ·rw[decide_eq_false (λz=>h (V.str.inj z)),decide_eq_false (λz=>h (TX.ext z))]
  rw[e];exact k
def q6u(h:Low p):Low p.dropLast:=λn hn=>h n (List.dropLast_subset _ hn)
noncomputable def spOneP(c:Addr):Sp:=λvs H Q _=>∃h p q bl dx fs one other,vs=[.ref h,.ref p,.ref q]/\H h=some (.ins c dx fs)/\fs.lookup ("blind" : Str)=some (V.bl bl)/\H p=some (.tup (vP one))/\H q=some (.tup (vP other))/\okP one/\okP other /\
 ∀H',Same H H'->Q (.bl (decide (fold bl one=fold bl other))) H'
noncomputable abbrev q1t:Stmt:=inClass (top 71) 3
def q4r:FnScope Zj Zj (defScope q1t):=by trivial
def z4c(D:Mf K c "is_one_place" "Hall.is_one_place" q1t Zj)(hk:Hk K c)(T:Txt mg)(C:Cal P w K mg base "alike" 1 Zd spAlike):MCal P w K mg base c "is_one_place" 2 Zj (spOneP c):=by
 refine D.cal hk.cl q4r (λvs H Q E h=>?_) (λf Y A outer s H vs Q E G h=>?_)
 ·obtain⟨h,p,q,bl,S,fs,one,g,rfl,_⟩:=h;rfl
 ·obtain⟨h,p,q,bl,S,fs,one,g,rfl,Z,hb,I,J,j,u,k⟩:=h;refine⟨_,(q0b (q0t (q0h (ne_k K rfl G) (q1d (sl_k K rfl) (pv 1) q2h (q1a (q4o q2l q0f))) (q1d (sl_k K rfl) (pv 2) q2h (q1a (q4o q2l q0f))) (nomark _)) (q0e (q0m q6g)) q0j) (q0b (q0t (@z2k _ _ _ K rfl (@z8h _ _ _ _ _ K rfl (pv 0) (by rfl)) (λ_=>rfl)) (q0e (q0m (pe_c C G (q0a (q0w (ix_k K rfl) (pv 1) (q4o q2l q0f) (λ_ _=>rfl)) (q0a (q0w (ix_k K rfl) (pv 2) (q4o q2l q0f) (λ_ _=>rfl)) q0d))))) q0j) (q0e (q0m (q2g (eq_k K rfl G) (q0w (ix_k K rfl) (pv 1) (q4o q2l q0f) (λ_ _=>rfl)) (q0w (ix_k K rfl) (pv 2) (q4o q2l q0f) (λ_ _=>rfl)) (nomark _)))))),?_⟩;obtain⟨c1,c2⟩:=q4n j.ne;obtain⟨d1,d2⟩:=q4n u.ne;refine⟨_,rfl,_,rfl,_,rfl,.inr (.inr ⟨p,_,rfl,SqT.of I,c2,λL M=>?_⟩)⟩;rw[c1];have U:=(Same.refl H).new (o:=.tup (vP one.dropLast)) M;refine⟨_,rfl,_,rfl,_,rfl,.inr (.inr ⟨q,_,rfl,SqT.of (U _ _ J),d2,λO B=>?_⟩)⟩;rw[d1];have v:=U.new (o:=.tup (vP g.dropLast)) B;have hp1':upd (upd H L (.tup (vP one.dropLast))) O (.tup (vP g.dropLast)) L=some (.tup (vP one.dropLast)):=by
   rw[q0g (λz=>by rw[<- z,q0c] at B;cases B)];exact q0c
  generalize R:upd (upd H L (.tup (vP one.dropLast))) O (.tup (vP g.dropLast))=H2 at v hp1';have hp2':H2 O=some (.tup (vP g.dropLast)):=by rw[<- R];exact q0c
  have fe:=x0x (bl:=bl) j.ne u.ne;refine z0f hp1' hp2' (q6u j.low) (q6u u.low) ⟨_,rfl,ite2 (λF=>?_) (λF=>?_)⟩
  ·have hne':one.dropLast≠g.dropLast:=by simpa using F
   have e:=decide_eq_false λz=>hne' (fe.mp z).1;rw[<- e];exact k _ v
  ·have a0:one.dropLast=g.dropLast:=by simpa using F
   refine⟨_,rfl,h,c,S,fs,_,rfl,v _ _ Z,hk.cl,hk.b,hb,_,rfl,?_⟩;have W:=q5w j;have X:=q5w u;cases bl with
   |true =>
    refine iteT ⟨_,rfl,_,rfl,.inr (.inl ⟨p,_,-1,_,rfl,rfl,SqT.of (v _ _ I),q8k j.ne,?_⟩)⟩;refine⟨_,rfl,_,rfl,.inr (.inl ⟨q,_,-1,_,rfl,rfl,SqT.of (v _ _ J),q8k u.ne,?_⟩)⟩;refine⟨_,_,rfl,by rw[q0x];exact W.low,by rw[q0x];exact X.low,by rw[q0o];have:=W.few;lia,by rw[q0o];have:=X.few;lia,?_⟩;have e:decide (fold true one=fold true g)=decide (lowN (one.getLastD [])=lowN (g.getLastD [])):=by grind
    have:=k _ v;rw[e] at this;exact this
   |false =>
    refine iteF ⟨_,rfl,_,rfl,.inr (.inl ⟨p,_,-1,_,rfl,rfl,SqT.of (v _ _ I),q8k j.ne,?_⟩)⟩;refine⟨_,rfl,_,rfl,.inr (.inl ⟨q,_,-1,_,rfl,rfl,SqT.of (v _ _ J),q8k u.ne,?_⟩)⟩;refine .inl ⟨rfl,?_⟩;have e:decide (fold false one=fold false g)=decide (V.str (mk (one.getLastD []))=V.str (mk (g.getLastD []))):=by simp_all
    have:=k _ v;rw[e] at this;exact this
noncomputable def spThere(c:Addr):Sp:=λvs H Q _=>∃h d p bl rows place,vs=[.ref h,.ref p]/\HallAt c H h d bl rows/\H p=some (.tup (vP place))/\okP place/\(∀r∈rows,okP r.1) /\
 (∀H',Same H H'->(∀r∈rows,fold bl r.1≠fold bl place)->Q .non H')/\∀H' b r,Same H H'->r∈rows->fold bl r.1=fold bl place->H' b=some (.tup (vP r.1))->Q (.ref b) H'
def z4d(hd:H d=some o)(k:∀a u,a≠d->H a=some u->H' a=some u):Same H (upd H' d o):=λa u e=>by
 by_cases z:a=d
 ·subst z;rw[q0c,<- hd];exact e
 ·rw[q0g z];exact k a u z e
noncomputable abbrev q3p:Stmt:=inClass (top 71) 4
def sc_Hall_there:FnScope ["self", "place", "path"] Yk (defScope q3p):=by trivial
def x6h(D:Mf K c "there" "Hall.there" q3p Yk)(hk:Hk K c)(T:Txt mg)(C:MCal P w K mg base c "is_one_place" 2 Zj (spOneP c)):MCal P w K mg base c "there" 3 Yk (spThere c):=by
 refine D.cal hk.cl sc_Hall_there (λvs H Q E h=>?_) (λf a0 A outer s H vs Q E j h=>?_)
 ·obtain⟨h,d,p,bl,rows,g,rfl,_⟩:=h;rfl
 ·obtain⟨h,d,p,bl,rows,g,rfl,Y,Z,ok,R,k1,k2⟩:=h;refine⟨_,(q0b (x9c H rfl (q1g Bj rfl (@ditT_k _ _ _ _ K rfl (@z8h _ _ _ _ _ K rfl (pv 0) (by rfl))) (q0k (i:=2) sc_Hall_there.nd rfl (by trivial)) (q0e (q0t (@z2k _ _ _ K rfl (pe_m C j (pv 0) (q0a (pv 2) (q0a (pv 1) q0d))) (λ_=>rfl)) (q0e (q0m (pv 2))) q0j)))) (q0e (q0m z1v))),?_⟩;obtain⟨S,M⟩:=Y.i;have hd:=Y.d;have G:h≠d:=q4q M hd;have U:p≠d:=q4q Z hd;refine⟨d,(λo v e=>by rw[hd] at e;cases e),?_⟩;refine⟨_,rfl,h,c,S,_,_,rfl,M,hk.cl,hk.m,rfl,d,_,rfl,hd,λW=>?_⟩;refine x0l (λi B I=>(∃x,B=[some (.ref h),some (.ref p),x])/\I d=some (.frz W (dR (rows.map rR)))/\(∀a u,a≠d->H a=some u->I a=some u)/\∀r∈rows.take i,fold bl r.1≠fold bl g)
   ⟨⟨none,rfl⟩,q0c,λa u n e=>by rw[q0g n];exact e,λr j=>by rw[Ih] at j;cases j⟩ (λi B I x=>x.2.1) ?_ ?_
  ·rintro i ky v b B I hk' hb ⟨⟨x,rfl⟩,hfz,kp,hno⟩;obtain⟨r,j,rfl,rfl⟩:∃r,rows[i]?=some r/\ky=kP r.1/\v=mV r.2:=keyAt hk';have J:=Ar j;rw[z2y] at hb;refine⟨_,rfl,h,S,_,rfl,kp _ _ G M,rfl,_,rfl,_,rfl,h,b,p,bl,S,_,r.1,g,rfl,kp _ _ G M,rfl,hb,kp _ _ U Z,R r J,ok,λH2 O=>⟨_,rfl,?_⟩⟩;have L:∀a u,a≠d->H a=some u->H2 a=some u:=λa u n e=>O _ _ (kp a u n e);refine iteB (λX=>?_) (λX=>?_)
   ·refine⟨_,rfl,W,_,O _ _ hfz,k2 _ b r (z4d hd L) J (of_decide_eq_true X) ?_⟩;rw[q0g (q4q hb hfz)];exact O _ _ hb
   ·refine⟨⟨_,rfl⟩,O _ _ hfz,L,λy F=>?_⟩;rw[Ml,j] at F;rcases Au.mp F with F|F
    ·exact hno y F
    ·cases Ao.mp F;exact of_decide_eq_false X
  ·rintro B I ⟨⟨x,rfl⟩,hfz,kp,hno⟩;refine⟨W,_,hfz,k1 _ (z4d hd kp) λr j=>hno r ?_⟩;rw[Ae,Ae,Ci];exact j
noncomputable def spHRows(c:Addr):Sp:=λvs H Q _=>∃h d bl rows,vs=[.ref h]/\HallAt c H h d bl rows/\rows.length<64/\(∀r∈rows,Low r.1) /\
 ∀L zs H',H L=none->Same H H'->RL H' L zs->(zs.map (·.2)).Perm rows->(zs.map (·.2.1)).Pairwise (λa b=>pLt b a=false)->Q (.ref L) H'
noncomputable abbrev q4h:Stmt:=inClass (top 71) 1
def z4e:FnScope ["self"] ["self"] (defScope q4h):=by trivial
def x6i(D:Mf K c "rows" "Hall.rows" q4h ["self"])(hk:Hk K c)(T:Txt mg):MCal P w K mg base c "rows" 2 ["self"] (spHRows c):=by
 refine D.cal hk.cl z4e (λvs H Q E h=>?_) (λf R A outer s H vs Q E B h=>?_)
 ·obtain⟨h,d,bl,rows,rfl,_⟩:=h;rfl
 ·obtain⟨h,d,bl,rows,rfl,u,C,j,k⟩:=h;refine⟨_,(q0e (q0m (q0r (z8f B) (by rfl) T.b_sorted (by trivial) (q0a (@q4p _ _ _ _ _ _ _ _ _ K rfl Ru PySem.F.slot_dict_items PySem.F.type_dict_items x4r (@z8h _ _ _ _ _ K rfl (pv 0) (by rfl)) (by rfl) (by rfl)) q0d)))),?_⟩;obtain⟨S,U⟩:=u.i;refine⟨_,rfl,h,c,S,_,_,rfl,U,hk.cl,hk.m,rfl,.inr (.inr (.inl ⟨rfl,.inr ⟨_,u.d⟩⟩)),d,_,rfl,rfl,u.d,λv W=>?_⟩;have G:=(Same.refl H).new (o:=vwO v d) W;refine⟨v,d,rows.map rR,rfl,q0c,G _ _ u.d,by rw[Ae];exact C,λr B=>?_,λL as rs X Y Z hs sm I J=>?_⟩
  ·obtain⟨x,hx,rfl⟩:=Az.mp B;exact j x hx
  ·obtain⟨g,p',rfl⟩:=perm_map_inv Z rfl;obtain⟨M,z1,O,z3⟩:=zs_of J rfl;refine k L M X (G.free Y) (G.trans sm) ⟨?_,z3⟩ (by rw[O];exact p') ?_
   ·rw[I,<- z1,Ct];rfl
   ·have e:M.map (·.2.1)=(g.map rR).map (·.1):=by rw[<- O,Ct,Ct];rfl
    rw[e];exact hs
theorem z7i{f:Type}:∀{l:List f} {i} {r},l[i]?=some r->l=l.take i++r::l.drop (i+1)
 |[],_,_,h=>by cases h
 |a::l,0,_,h=>by cases h;rfl
 |a::l,i+1,r,h=>by show a::l=a::(l.take i++r::l.drop (i+1));rw[<- z7i (l:=l) (i:=i) h]
def x3a{g o:Type}{f:g->o}{l:List g}{r h}(nd:(l.map f).Nodup)(s:l[i]?=some r)(j:h∈l.take i):f h≠f r:=by
 rw[z7i s,Bb,Am] at nd;exact λz=>(Wn.mp nd).2.2 _ (Az.mpr ⟨h,j,rfl⟩) _ Al z
structure InInv (c) (H:Hp) (x dx d Dr) (bl) (rows:List Rw) (ys) (i) (H':Hp):Prop where
 ins:H' x=some (.ins c dx (hF bl d))
 d:H' d=some (dR ((rows.take i).map rR))
 r:H' Dr=some (.dT ys)
 k:∀a u,a≠x->H a=some u->H' a=some u
def InInv.same{d}(v:InInv c H x dx d Dr bl rows ys i H')(s:Same H' H2):InInv c H x dx d Dr bl rows ys i H2:=⟨s _ _ v.ins,s _ _ v.d,s _ _ v.r,λa u n e=>s _ _ (v.k a u n e)⟩
noncomputable def spInit(c:Addr):Sp:=λvs H Q _=>∃x dx L bl zs,vs=[.ref x,.ref L,.bl bl]/\H x=some (.ins c dx [])/\RL H L zs/\Hl bl (zs.map (·.2))/\zs.length<=60 /\
 ∀d H',H d=none->H' x=some (.ins c dx (hF bl d))->H' d=some (dR ((zs.map (·.2)).map rR))->(∀a u,a≠x->H a=some u->H' a=some u)->Q .non H'
noncomputable abbrev q1f:Stmt:=inClass (top 71) 0
def sc_Hall___init__:FnScope ["self", "rows", "blind", "drawers", "at", "path", "mark", "drawer"] Zn (defScope q1f):=by trivial
def j0w(D:Kf K mg c "Hall" "Hall.__init__" q1f Zn)(hk:Hk K c)(T:Txt mg)(C:MCal P w K mg base c "there" 3 Yk (spThere c)):KCal P w K mg base c "Hall" 4 Zn (spInit c):=by
 refine D.cal sc_Hall___init__ (λvs H Q E h=>?_) (λf c6 A outer s H vs Q E G h=>?_)
 ·obtain⟨x,J,L,bl,j,rfl,_⟩:=h;rfl
 ·obtain⟨x,J,L,bl,j,rfl,hx,hl,hH,c7,k⟩:=h;refine⟨_,(q0b (@x7d _ _ _ _ _ _ _ _ K rfl (pv 0) (pv 2) (by rfl)) (q0b (@x7d _ _ _ _ _ _ _ _ K rfl (pv 0) x4f (by rfl)) (q0b (x4s (i:=3) ["path", "mark"] [] sc_Hall___init__.nd rfl (by trivial) rfl (@q2i _ _ _ _ K rfl (pv 1)) (λ_ _ _ _ _=>(@q2m _ _ _ _ _ (2) K rfl rfl (q0p (q0k (i:=0) (show(["path", "mark"]:List Str).Nodup by trivial) rfl (by trivial)) (q0p (q0k (i:=1) (show(["path", "mark"]:List Str).Nodup by trivial) rfl (by trivial)) q1s)) (by rfl) (by rfl))) (λ_ _ _ _ _=>(q4v (q3r (q8s (pv 1))))) (λ_ _ _ _ _=>(pv 0)) (λ_ _ _ _ _=>q6g) (q6i G)) (q0e (q1g Bj rfl (@z6g _ _ _ _ _ _ _ _ K rfl rfl T.b_enumerate (q0a (pv 1) q0d) (by rfl)) (@q2m _ _ _ _ _ (2) K rfl rfl (q0p (q0k (i:=4) sc_Hall___init__.nd rfl (by trivial)) (q0p (@q2m _ _ _ _ _ (2) K rfl rfl (q0p (q0k (i:=5) sc_Hall___init__.nd rfl (by trivial)) (q0p (q0k (i:=6) sc_Hall___init__.nd rfl (by trivial)) q1s)) (by rfl) (by rfl)) q1s)) (by rfl) (by rfl)) (q0b (q0l (i:=7) sc_Hall___init__.nd rfl (by trivial) (q1d (sl_k K rfl) (pv 5) q2h (q1a (q4o q2l q0f)))) (q0b (q0t (pt_j (@PW.pt _ _ _ (q2v (q0h (ne_k K rfl G) (pv 7) (q0v q0d) (nomark _)) (q2c (q3r (z2q (q6i G) (pv 7) (pv 3))))))) (q0e q1l) q0j) (q0b (q0t (q3r (z4k (pe_m C G (pv 0) (q0a (pv 5) q0d)))) (q0e q1l) q0j) (q0e (q7l (q6i G) (@z8h _ _ _ _ _ K rfl (pv 0) (by rfl)) (pv 5) (pv 6) rfl)))))))))),?_⟩;show tSeq _ _ _ _ _;refine gE λc4 a9 a0 a1=>?_
  have b8:L≠x:=λz=>by have e:=hl.at_;rw[z,hx] at e;cases e
  refine⟨_,rfl,_,rfl,x,c,J,_,rfl,hx,hk.cl,hk.b,by decide,?_⟩;show a9 _ _ _;refine gY a1 λb0 a2=>?_;refine λd hd=>?_;have R:d≠x:=λz=>by rw[z,q0c] at hd;cases hd
  have a3:H d=none:=by rw[q0g R] at hd;exact hd
  refine⟨_,rfl,x,c,J,_,rfl,by rw[q0g R.symm];exact q0c,hk.cl,hk.m,by show 1<1000;decide,?_⟩;show b0 _ _ _;refine gY a2 λb1 a4=>?_;have pf:putF ("marks" : Str) (V.ref d) (putF ("blind" : Str) (V.bl bl) [])=hF bl d:=rfl;generalize a5:upd (upd (upd H x (.ins c J (putF ("blind" : Str) (.bl bl) []))) d (.dT [])) x (.ins c J (putF ("marks" : Str) (.ref d) (putF ("blind" : Str) (.bl bl) [])))=H3;have k3:∀a u,a≠x->H a=some u->H3 a=some u:=λa u n e=>by
   rw[<- a5,q0g n,q0g (λz=>by rw[z,a3] at e;cases e),q0g n];exact e
  have i3:H3 x=some (.ins c J (hF bl d)):=by rw[<- a5,<- pf];exact q0c
  have d3:H3 d=some (.dT []):=by rw[<- a5,q0g R];exact q0c
  have F:∀{M:Hp},(∀a u,a≠x->H a=some u->M a=some u)->RL M L j:=λ{M} kk=>⟨kk _ _ b8 hl.at_,λz Y=>PR.same (hl.pr z Y) λT' xs e=>kk _ _ (λy=>by rw[y,hx] at e;cases e) e⟩
  refine⟨_,rfl,.inl ⟨L,rfl,⟨_,SqL.of (F k3).at_⟩,λDr S=>?_⟩⟩;refine z8g (λi O M=>M Dr=some (.dT O)/\Same H3 M/\O.length<=i/\i<=j.length/\∀p,(p,none)∈(j.take i).map (·.2)->(valV O (kP p)).isSome=true) ⟨q0c,(Same.refl H3).new S,Aj _,Ba _,λp B=>by rw[Ih] at B;cases B⟩ (λi O M h=>⟨h.1,SqL.of (h.2.1 _ _ (F k3).at_)⟩) ?_ ?_
  ·rintro i O M v hv ⟨U,s',b2,_,g⟩;obtain⟨z,Y,rfl⟩:∃z,j[i]?=some z/\v=.ref z.1:=by
    rw[Be] at hv;cases e:j[i]? with
    |none=>grind
    |some z=>grind
   have hi:=(Ap.mp Y).1;obtain⟨b,h1,h2⟩:=((F k3).same s').pr z (Ar Y);refine⟨z.1,_,rfl,SqT.of h1,rfl,_,_,rfl,_,_,rfl,rfl,q5n,?_⟩;refine⟨_,rfl,_,rfl,?_⟩;refine iteB (λhm=>?_) (λhm=>?_)
   ·refine⟨_,rfl,kP z.2.1,b,rfl,by rw[z2y];exact h2,U,small' (by lia),q0c,λa u e=>?_,?_,hi,λp B=>?_⟩
    ·rw[q0g (λy=>by rw[y] at e;rw[S] at e;cases e)];exact s' _ _ e
    ·have:=q2d O (kP z.2.1) (.bl true);lia
    ·rw[z6i];by_cases e:kP p=kP z.2.1
     ·simp_all
     ·rw[if_neg e];rw[Ml,Y,Bb] at B;rcases Au.mp B with B|B
      ·simp_all
      ·grind
   ·refine⟨U,s',by lia,hi,λp B=>?_⟩;rw[Ml,Y,Bb] at B;rcases Au.mp B with B|B
    ·exact g p B
    ·exfalso;have e:(p,none)=z.2:=Ao.mp B;refine of_decide_eq_false hm ?_;rw[<- e];rfl
  ·rintro O M ⟨U,s',b2,_,g⟩;show b1 _ _ _;subst a4;rw[Ae,Ci] at g;have I0:InInv c H x J d Dr bl (j.map (·.2)) O 0 M:=⟨s' _ _ i3,s' _ _ d3,U,λa u n e=>s' _ _ (k3 a u n e)⟩
   have b9:Dr≠d:=λz=>by rw[z,d3] at S;cases S
   refine⟨_,rfl,.inr ⟨L,_,rfl,SqL.of (F I0.k).at_,?_⟩⟩;refine z3b (λi W H2=>∃x4 x5 x6 x7,W=[some (.ref x),some (.ref L),some (.bl bl),some (.ref Dr),x4,x5,x6,x7]/\InInv c H x J d Dr bl (j.map (·.2)) O i H2) ⟨none,none,none,none,rfl,I0⟩ (λi W H2 h=>by obtain⟨_,_,_,_,_,h⟩:=h;exact SqL.of (F h.k).at_) ?_ ?_
   ·rintro i v T' W H2 hv ⟨x4,x5,x6,x7,rfl,I⟩ hT;obtain⟨z,Y,rfl⟩:∃z,j[i]?=some z/\v=.ref z.1:=by
     rw[Be] at hv;cases e:j[i]? with
     |none=>grind
     |some z=>grind
    have X:(j.map (·.2))[i]?=some z.2:=by grind
    have b3:=Ar X;have a6:=hH.ok _ b3;have sT:=(Same.refl H2).new (o:=.tup [.int i,.ref z.1]) hT;have I1:=I.same sT;obtain⟨b,h1,h2⟩:=(F I1.k).pr z (Ar Y);refine⟨T',_,rfl,SqT.of q0c,rfl,_,_,rfl,_,_,rfl,z.1,_,rfl,SqT.of h1,rfl,_,_,rfl,_,_,rfl,rfl,rfl,?_⟩;show tSeq _ _ _ _ _;refine gE λc5 b4 a7 a8=>?_;generalize upd H2 T' (.tup [.int i,.ref z.1])=H4 at sT I1 h1 h2;replace h2:H4 b=some (.tup (vP z.2.1)):=h2;obtain⟨c1,c2⟩:=q4n a6.ne;refine⟨_,rfl,_,rfl,_,rfl,.inr (.inr ⟨b,_,rfl,SqT.of h2,c2,λp1 c0=>?_⟩)⟩;show b4 _ _ _;subst a8;rw[c1];have s5:=(Same.refl H4).new (o:=.tup (vP z.2.1.dropLast)) c0;have I2:=I1.same s5;have h2':=s5 _ _ h2;have hp1':upd H4 p1 (.tup (vP z.2.1.dropLast)) p1=some (.tup (vP z.2.1.dropLast)):=q0c;generalize upd H4 p1 (.tup (vP z.2.1.dropLast))=H5 at s5 I2 h2' hp1';refine⟨λbb H6=>bb=false/\Same H5 H6,?_,?_⟩
    ·rintro bb H6 ⟨rfl,Z⟩;have I3:=I2.same Z;refine⟨_,rfl,x,J,_,rfl,I3.ins,rfl,_,rfl,x,d,b,bl,_,z.2.1,rfl,⟨⟨J,I3.ins⟩,I3.d⟩,Z _ _ h2',a6,λr G=>hH.ok r (En G),λH7 s7 _=>?_,λH7 b' r s7 G e _=>absurd e (x3a (f:=λr:Rw=>fold bl r.1) hH.nd X G)⟩;refine⟨_,rfl,iteF ?_⟩;have I4:=I3.same s7;refine⟨_,rfl,_,rfl,x,c,J,_,_,rfl,I4.ins,hk.cl,hk.m,rfl,_,rfl,d,_,rfl,DPut.t I4.d (by rw[z2y];exact s7 _ _ (Z _ _ h2')) (by rw[Ae,Ae,Cg,Ae];exact small' (by lia)),?_⟩;subst a7;have b5:∀r∈((j.map (·.2)).take i).map rR,r.1≠z.2.1:=λr G=>by
      obtain⟨y,hy,rfl⟩:=Az.mp G;exact x3a hH.paths X hy
     rw[x6c b5];refine⟨_,_,_,_,rfl,?_,?_,?_,λa u n e=>?_⟩
     ·rw[q0g R.symm];exact I4.ins
     ·have e:((j.map (·.2)).take (i+1)).map rR=((j.map (·.2)).take i).map rR++[(z.2.1,mV z.2.2)]:=by rw[Ml,X,Bb];rfl
      rw[e];exact q0c
     ·rw[q0g b9];exact I4.r
     ·rw[q0g (λy=>by rw[y,a3] at e;cases e)];exact I4.k a u n e
    ·refine⟨_,rfl,by decide,λe0 c3=>?_⟩;have Z:=(Same.refl H5).new (o:=.tup []) c3;refine z0f (q:=[]) (Z _ _ hp1') q0c (q6u a6.low) (λ_ h=>nomatch h) ⟨_,rfl,?_⟩;refine iteB (λb6=>?_) (λb6=>?_)
     ·have hne':z.2.1.dropLast≠[]:=by simpa using b6
      have c8:=g _ ((hH.dr _ b3).resolve_left hne');refine⟨_,rfl,_,rfl,Dr,_,rfl,DGet.t (I2.same Z).r (by rw[z2y];exact Z _ _ hp1'),_,rfl,?_,Z⟩;cases e:valV O (kP z.2.1.dropLast) with
      |none=>grind
      |some v=>rfl
     ·grind
   ·rintro W H2 ⟨x4,x5,x6,x7,rfl,I⟩;subst a0;have b7:=I.d;rw[Ae,<- Ae,Ci] at b7;exact k d H2 a3 I.ins b7 I.k
def vP_app(p q):vP (p++q)=vP p++vP q:=Bb
def cut_to(x)(n:Nat):cutV (vP x) none (some (n))=vP (x.take n):=by
 unfold cutV;have f:HT.sIx (vP x).length 0 none=0:=rfl;have g:HT.sIx (vP x).length (vP x).length (some (n:Int))=min n x.length:=by
  show(if (n:Int)<0 then((n:Int)+((vP x).length:Int)).toNat else min ((n:Int)).toNat (vP x).length)=_;rw[if_neg (by lia),q2z,Hz]
 rw[f,g,Mb,Lo,<- Qi];rw[<- List.take_take,Ci]
def x6j{rs:List HRow}(h:valV (rs.map λr=>(kP r.1,r.2)) (kP p)=some v):(p,v)∈rs:=by
 induction rs with
 |nil=>cases h
 |cons r rs ih =>
  rw[Am] at h;by_cases e:kP r.1=kP p
  ·rw[q1r e] at h;cases h;rw[<- z4b e];exact Al
  ·rw[q1o e] at h;exact Ak _ (ih h)
def x6k{rows:List Rw}(nd:(rows.map (·.1)).Nodup)(h:(p,m)∈rows):valV ((rows.map rR).map λr=>(kP r.1,r.2)) (kP p)=some (mV m) :=
 x2z (Az.mpr ⟨_,h,rfl⟩) (by rw[Ct];exact nd)
def z4f{rows:List Rw}(h:valV ((rows.map rR).map λr=>(kP r.1,r.2)) (kP p)=some v):∃m,v=mV m/\(p,m)∈rows:=by
 obtain⟨r,f,e⟩:=Az.mp (x6j h);cases e;exact⟨r.2,rfl,f⟩
noncomputable def spIsDrawer(c:Addr):Sp:=λvs H Q _=>∃h d p bl rows q,vs=[.ref h,.ref p]/\HallAt c H h d bl rows/\H p=some (.tup (vP q))/\Low q/\(rows.map (·.1)).Nodup/\∀H' bb,Same H H'->(bb=true↔q=[]\/(q,none)∈rows)->Q (.bl bb) H'
noncomputable abbrev q2e:Stmt:=inClass (top 71) 6
def q5x:FnScope Zx Zx (defScope q2e):=by trivial
def z4g(D:Mf K c "is_drawer" "Hall.is_drawer" q2e Zx)(hk:Hk K c)(T:Txt mg):MCal P w K mg base c "is_drawer" 1 Zx (spIsDrawer c):=by
 refine D.cal hk.cl q5x (λvs H Q E h=>?_) (λf O A outer s H vs Q E C h=>?_)
 ·obtain⟨h,d,p,bl,rows,q,rfl,_⟩:=h;rfl
 ·obtain⟨h,d,p,bl,rows,q,rfl,F,G,R,nd,k⟩:=h;refine⟨_,(q0e (q0m (pe_j (pe_or (q2g (eq_k K rfl C) (pv 1) (q0v q0d) (nomark _)) (q8t (pe_j (z5w (x6p (x6w (q6i C) (pv 1) (@z8h _ _ _ _ _ K rfl (pv 0) (by rfl)))) (q8t (x6p (q8s (x0g (q6i C) (@z8h _ _ _ _ _ K rfl (pv 0) (by rfl)) (pv 1) (λ_ _=>rfl)))))))))))),?_⟩;obtain⟨L,M⟩:=F.i;refine⟨λv u=>∃j,v=.bl j/\Same H u/\(j=true↔q=[]\/(q,none)∈rows),λv u x=>?_,?_⟩
  ·obtain⟨j,rfl,g,e⟩:=x;exact k u j g e
  refine⟨_,rfl,by decide,λS I=>?_⟩;have g:=(Same.refl H).new (o:=.tup []) I;refine z3e (q:=[]) (g _ _ G) q0c R (λ_ h=>nomatch h) ⟨_,rfl,?_⟩;refine iteB (λB=>?_) (λB=>?_)
  ·grind
  have B:=of_decide_eq_false B;refine⟨λv u=>∃j,v=.bl j/\Same H u/\(j=true↔q=[]\/(q,none)∈rows),λv u x=>x,?_⟩;refine⟨_,rfl,_,rfl,h,c,L,_,_,rfl,g _ _ M,hk.cl,hk.m,rfl,d,_,rfl,x7g (g _ _ F.d) (g _ _ G),_,rfl,?_⟩;cases hv:valV ((rows.map rR).map λr=>(kP r.1,r.2)) (kP q) with
  |none =>
   refine iteF ⟨false,rfl,g,⟨(λz=>by cases z),λz=>?_⟩⟩;rw[x6k nd (z.resolve_left B)] at hv;cases hv
  |some v =>
   obtain⟨m,rfl,J⟩:=z4f hv;refine iteT ⟨_,rfl,h,c,L,_,_,rfl,g _ _ M,hk.cl,hk.m,rfl,_,rfl,d,mV m,rfl,?_,_,rfl,g,?_⟩
   ·rw[<- hv];exact x7g (g _ _ F.d) (g _ _ G)
   ·rw[decide_eq_true_iff];refine⟨λz=>.inr (by rw[mV_none.mp z] at J;exact J),λz=>mV_none.mpr ?_⟩;have:=q6q nd J (z.resolve_left B) rfl;cases this;rfl
def x3b(j:g x=none)(h:g f=none)(hd:upd (upd g f (.own x)) x (.ins c f []) d=none)(k:∀a u,a≠x->upd (upd g f (.own x)) x (.ins c f []) a=some u->H' a=some u):Same g H'/\g d=none:=by
 refine⟨λa u e=>k a u (q4q e j) ?_,?_⟩
 ·rw[q0g (q4q e j),q0g (q4q e h)];exact e
 ·have o:d≠x:=q4q hd q0c;rw[q0g o] at hd;have s:d≠f:=q4q hd q0c;rw[q0g s] at hd;exact hd
def j0x(h:RL f L zs)(o:f x=none)(j:f g=none):RL (upd (upd f g (.own x)) x (.ins c g [])) L zs:=h.same λa u e=>by
 rw[q0g (q4q e o),q0g (q4q e j)];exact e
noncomputable def isName(l:List Nat):Bool:=decide (1<=l.length)&&(decide (l.length<=12)&&l.all λc=>decide (c∈NS))
noncomputable def spIsName:Sp:=λvs H Q _=>∃t,vs=[.str t]/\t.length<=1000/\∀H',Same H H'->Q (.bl (isName (tl t))) H'
noncomputable abbrev q5y:Stmt:=top 18
def z8t:FnScope Y6 Y6 (defScope q5y):=by trivial
def z8u(D:Df K mg "is_name" q5y Y6)(T:Txt mg)(C:Cal P w K mg base "all_of" 1 Zs spAllOf):Cal P w K mg base "is_name" 2 Y6 spIsName:=by
 refine D.cal z8t (λvs H Q E h=>?_) (λf u A outer s H vs Q E B h=>?_)
 ·obtain⟨t,rfl,_⟩:=h;rfl
 ·obtain⟨t,rfl,hl,k⟩:=h;obtain⟨_,g⟩:=T.NAME_SIGNS;obtain⟨_,j⟩:=T.MOST_SIGNS;refine⟨_,(q0e (q0m (pe_j (z5w (q2g op_le (q0r (q2u K rfl) (by rfl) T.b_len By (q0a (pv 0) q0d)) (q0z (v:=.int 12) (by rfl) j ⟨_,rfl⟩) (nomark _)) (q8t (pe_c C B (q0a (pv 0) (q0a (q0z (v:=.str (Ab "abcdefghijklmnopqrstuvwxyzABCDEFGHIJKLMNOPQRSTUVWXYZ0123456789-_.")) (by rfl) g ⟨_,rfl⟩) q0d)))))))),?_⟩;have e:=len t;refine⟨λv o=>v=.bl (isName (tl t))/\Same H o,?_,?_⟩
  ·grind
  refine⟨_,rfl,_,_,rfl,⟨small (by lia),rfl⟩,_,_,rfl,rfl,_,rfl,?_⟩;refine iteB (λh=>?_) (λh=>?_)
  ·have h':=of_decide_eq_true h;refine⟨_,rfl,tl t,NSs,?_,by lia,λo sm=>⟨?_,sm⟩⟩
   ·rfl
   ·unfold isName allOf;rw[decide_eq_true (show(tl t).length<=12 by lia),Bool.true_and];have F:decide (¬tl t=[])=decide (1<=(tl t).length):=decide_eq_decide.mpr (by rw[<- Ry];lia);rw[F]
  ·have h':=of_decide_eq_false h;refine⟨?_,Same.refl H⟩;unfold isName;rw[decide_eq_false (show ¬(tl t).length<=12 by lia)];simp
structure RuL (K) (H) (L) (rs:List RD):Prop where
 ex:∃Rs:List Addr,H L=some (.lst (Rs.map V.ref))/\Rs.length=rs.length/\∀(i:Nat)  R   r ,Rs[i]?=some R->rs[i]?=some r->RuleAt K H R r.kd r.l r.qs (r.st:Int)
 ok:∀r∈rs,ROk r
def RuL.same(h:RuL K H L rs)(s:Same H H'):RuL K H' L rs:=by obtain⟨f,g,j,o⟩:=h.ex;exact⟨⟨f,s _ _ g,j,λi R r a b=>(o i R r a b).same s⟩,h.ok⟩
noncomputable def kdM(m:Option Int):Str:=if m=none then Ab "drawer" else Ab "slip"
noncomputable def forB(kd:Str)(m:Option Int):Bool:=decide (V.str kd=V.str (Ab "all"))||decide (V.str kd=V.str (kdM m))
noncomputable def pick(f:Nat->Nat)(n:List Nat)(m:Option Int):List RD->Nat->Option (Nat×List (List Nat))
 |[],_=>none
 |r::rs,j=>if forB r.kd m then(match tellO r n (r.st+f j) with|some ts=>some (j,ts)|none=>pick f n m rs (j+1)) else pick f n m rs (j+1)
noncomputable def bump(f:Pth->Nat->Nat)(q:Pth)(j:Nat):Pth->Nat->Nat:=λp i=>if p=q/\i=j then f p i+1 else f p i
noncomputable def Kd(d:Addr)(H H':Hp):Prop:=∀a u,a≠d->H a=some u->H' a=some u
def Kd.of(s:Same H H'):Kd d H H':=λa u _ e=>s a u e
def Kd.put(h:Kd d H H1):Kd d H (upd H1 d o):=λa u n e=>by rw[q0g n];exact h a u n e
def Kd.same(h:Kd d H H')(s:Same H0 H)(hd:H0 d=none):Same H0 H':=λa u e=>h a u (λz=>by rw[z,hd] at e;cases e) (s a u e)
structure Cnt  {w} (kd:PKd P w) (H) (d) (f:Pth->Nat->Nat) (b):Prop where
 ex:∃ks,DPi kd H d ks/\ks.length<=b/\∀ p  (j:Nat),(valI ks (kP p,Sum.inl (j))).getD 0=((f p j):Int)
 le:∀p j,f p j<=b
def Cnt.same{kd:PKd P w}(h:Cnt kd H d f b)(s:Same H H'):Cnt kd H' d f b:=⟨let ⟨g,j,o⟩:=h.ex;⟨g,j.same s,o⟩,h.le⟩
def Cnt.put{kd:PKd P w}{j:Nat}(x:DPi kd H d ks)(l:ks.length<=n)(v:∀ p  (j:Nat),(valI ks (kP p,Sum.inl (j))).getD 0=((f p j):Int))(le:∀p j,f p j<=n)(e:kd.pr H (kP q,Sum.inl (j)) b)(hn:n<=1000)(g:H2=upd H d (PiO kd d (putI ks (kP q,Sum.inl (j)) b (((f q j):Int)+1)))):Cnt kd H2 d (bump f q j) (n+1):=by
 subst g;refine⟨⟨_,x.put e (TX.small' (by lia)),Ay z6r (by lia),λp i=>?_⟩,λp i=>?_⟩
 ·rw[x4y];unfold bump;by_cases z:p=q/\i=j
  ·simp_all
  ·rw[if_neg z,if_neg (λy=>z ?_)]
   ·exact v p i
   ·injection y with y1 y2;injection y2 with y2;exact⟨z4b y1,by lia⟩
 ·unfold bump;have:=le p i;split<;>lia
def Cnt.new{kd:PKd P w}(f:(p==Dk)=false):Cnt kd (upd H p (PiO kd p [])) p (λ_ _=>0) 0:=⟨⟨[],x9p f,Aj _,λ_ _=>rfl⟩,λ_ _=>Aj _⟩
noncomputable def spIsFor(K:Ai):Sp:=λvs H Q _=>∃R kd xs m,vs=[.ref R,mV m]/\H R=some (.tup (.str kd::xs))/\Q (.bl (forB kd m)) H
noncomputable abbrev q8l:Stmt:=top 74
def x3c:FnScope Y4 Y4 (defScope q8l):=by trivial
def x3d(D:Df K mg "is_for" q8l Y4)(T:Txt mg):Cal P w K mg base "is_for" 1 Y4 (spIsFor K):=by
 refine D.cal x3c (λvs H Q E h=>?_) (λf u A outer s H vs Q E g h=>?_)
 ·obtain⟨R,kd,B,m,rfl,_⟩:=h;rfl
 ·obtain⟨R,kd,B,m,rfl,j,k⟩:=h;refine⟨_,(q0b (q0t (q0h (eq_k K rfl g) (q0w (ix_k K rfl) (pv 0) q0f (λ_ _=>rfl)) q0i (nomark _)) (q0e (q0m q6g)) q0j) (q0e (q0m (q2g (eq_k K rfl g) (q0w (ix_k K rfl) (pv 0) q0f (λ_ _=>rfl)) (pe_j (z5x (q3r (q8s (pv 1))) q0i q0i)) (nomark _))))),?_⟩;refine⟨_,rfl,.inr (.inl ⟨R,_,0,.str kd,rfl,rfl,SqT.of j,q1n rfl,.inl ⟨rfl,_,rfl,?_⟩⟩)⟩;unfold forB at k;refine ite2 (λh=>?_) (λh=>?_)
  ·rw[h] at k;exact k
  ·rw[eq_false_of_ne_true h,Bool.false_or] at k;refine⟨_,rfl,.inr (.inl ⟨R,_,0,.str kd,rfl,rfl,SqT.of j,q1n rfl,?_⟩)⟩;refine⟨λv o=>v=.str (kdM m)/\o=H,?_,?_⟩
   ·rintro v o ⟨rfl,rfl⟩;exact .inl ⟨rfl,k⟩
   ·refine⟨_,rfl,_,rfl,ite2 (λz=>?_) (λz=>?_)⟩
    ·exact⟨by rw[mV_none.mp (of_decide_eq_true z)];rfl,rfl⟩
    ·have:m≠none:=λy=>z (decide_eq_true (mV_none.mpr y));exact⟨by unfold kdM;rw[if_neg this],rfl⟩
structure PB (q:Pth):Prop where
 few:q.length<=20
 all:∀n∈q,n.length<=100/\∀c∈n,c<128
def okP.pb(h:okP q):PB q:=⟨Ay h.few (by decide),λn hn=>⟨Ay (h.all n hn).few (by decide),(h.all n hn).low⟩⟩
def x7z(q):vP q=(q.map mk).map V.str:=by rw[Ct];rfl
def x3e(h:PB q):∀x∈q.map mk,x.length<=100/\∀c∈x.cps.toList,c<16^8:=λx f=>by
 obtain⟨n,hn,rfl⟩:=Az.mp f;obtain⟨j,g⟩:=h.all n hn;refine⟨by rw[q0o];lia,λc o=>?_⟩;have:c∈n:=by grind
 have:=g c this;lia
noncomputable def spIniN(C:Addr):Sp:=λvs H Q _=>∃ea a b q1 q2,vs=[.ref ea,.ref a,.ref b]/\H ea=some (ExN (.ref C) none ea)/\(H a=some (.tup (vP q1))/\PB q1)/\(H b=some (.tup (vP q2))/\PB q2) /\
 ∀d,H d=none->d≠ea->Q .non (upd (upd (upd (upd H d (XdO d [])) ea (ExN (.ref C) (some d) ea)) d (XdO d [("path",.ref a)])) d (XdO d (putF "texts" (.ref b) [("path",.ref a)])))
noncomputable abbrev q1v:Stmt:=inClass (top 7) 0
def q5g:FnScope Zh Zh (defScope q1v):=by trivial
def q8m(F:Ef K mg "NoPlace" Cn Dn "NoPlace.__init__" q1v Zh)(g:mg "HallError" = some (.ref Dn))(L:ESet K Cn "path")(M:ESet K Cn "texts"):CalE P w K mg base "NoPlace" Cn 1 Zh (spIniN Cn):=by
 refine F.cal q5g (λvs H Q E h=>?_) (by decide) (λW f O A outer s H vs Q E j o B h=>?_)
 ·obtain⟨v,a,b,C,D,rfl,_⟩:=h;rfl
 ·obtain⟨v,a,b,C,D,rfl,G,⟨R,I⟩,⟨S,J⟩,k⟩:=h;refine⟨_,(q0b (q0y (pe_ini j o rfl g (q0a (pv 0) (q0a (x9l x7k (x7l K rfl B (pv 1)) (z6q x7k (z6q (x7l K rfl B (pv 2)) x9m))) q0d)))) (q0b (x7j K rfl (pv 0) (pv 1)) (q0e (x7j K rfl (pv 0) (pv 2))))),?_⟩;have X:(Ab "no place for ").length<=100:=by trivial
  have Y:(Ab ": ").length<=100:=by trivial
  have Z:Vi.length=0:=by trivial
  refine⟨_,rfl,TX.small (by rw[app_len];lia),_,rfl,a,C.map mk,rfl,SqT.of (by rw[<- x7z];exact R),by rw[Ae];have:=I.few;lia,x3e I,λy1 T=>⟨TX.small (by rw[app_len,app_len];lia),TX.small (by rw[app_len,app_len,app_len];lia),?_⟩⟩;refine⟨_,rfl,b,D.map mk,rfl,SqT.of (by rw[<- x7z];exact S),by rw[Ae];have:=J.few;lia,x3e J,λy2 U=>⟨TX.small (by rw[app_len,app_len,app_len,app_len];lia),TX.small (by rw[app_len,app_len,app_len,app_len];lia),?_⟩⟩;refine⟨v,_,none,rfl,G,_,rfl,_,rfl,v,Cn,rfl,L,.inl ⟨G,λd hd u=>?_⟩⟩;exact⟨_,rfl,_,rfl,v,Cn,rfl,M,.inr ⟨d,_,by rw[q0g (Cp u)];exact q0c,q0c,by show 1<1000;decide,k d hd u⟩⟩
structure RfN (H:Hp) (ea C) (q) (ts):Prop where
 ex:∃d a b,H ea=some (ExO (.ref C) (some d) ea)/\H d=some (XdO d (putF "texts" (.ref b) [("path",.ref a)]))/\H a=some (.tup (vP q))/\H b=some (.tup (vP ts))
def q6f(sm:Same H H1)(s:H1 ea=none)(j:upd H1 ea o1 d=none):Same H (upd (upd (upd (upd (upd (upd H1 ea o1) d o2) ea o3) d o4) d o5) ea o6):=λb o u=>by
 have f:=sm b o u;have g:b≠ea:=λz=>by rw[z,s] at f;cases f
 have h:b≠d:=λz=>by rw[<- z,q0g g,f] at j;cases j
 rw[q0g g,q0g h,q0g h,q0g g,q0g h,q0g g];exact f
noncomputable def benB(q:Pth)(r:Rw):Bool := !decide (r.1=q)&&decide (r.1.take q.length=q)
noncomputable def spBen(c:Addr):Sp:=λvs H Q _=>∃h d p bl rows q,vs=[.ref h,.ref p]/\HallAt c H h d bl rows/\rows.length<64/\(∀r∈rows,Low r.1)/\H p=some (.tup (vP q))/\Low q /\
 ∀ L   zs  (rs:List Rw) H',H L=none->Same H H'->RL H' L zs->rs.Perm rows->(rs.map (·.1)).Pairwise (λa b=>pLt b a=false)->zs.map (·.2)=rs.filter (benB q)->Q (.ref L) H'
def x6l(h:Low p):Low (p.take n):=λx f=>h x (En f)
def x3f{g:Type}{f}{l:List g}{x}(h:l[i]?=some x):(l.take (i+1)).filter f=(l.take i).filter f++(if f x then[x] else[]):=by
 rw[Fu,h,Jc];cases e:f x<;>simp[e]
noncomputable abbrev q2t:Stmt:=top 73
def sc_rows_beneath:FnScope ["hall", "drawer", "rows", "path", "mark"] Y5 (defScope q2t):=by trivial
def q8n(D:Df K mg "rows_beneath" q2t Y5)(T:Txt mg)(C:MCal P w K mg base c "rows" 2 ["self"] (spHRows c)):Cal P w K mg base "rows_beneath" 3 Y5 (spBen c):=by
 refine D.cal sc_rows_beneath (λvs H Q E h=>?_) (λf b3 A outer s H vs Q E hr h=>?_)
 ·obtain⟨h,d,p,bl,rows,q,rfl,_⟩:=h;rfl
 ·obtain⟨h,d,p,bl,rows,q,rfl,hh,a2,I,hp,lq,k⟩:=h;refine⟨_,(q0b (q0l (i:=2) sc_rows_beneath.nd rfl (by trivial) (q1p q0d)) (q0b (q1g Bj rfl (@q2i _ _ _ _ K rfl (pe_m0 C hr (pv 0))) (@q2m _ _ _ _ _ (2) K rfl rfl (q0p (q0k (i:=3) sc_rows_beneath.nd rfl (by trivial)) (q0p (q0k (i:=4) sc_rows_beneath.nd rfl (by trivial)) q1s)) (by rfl) (by rfl)) (q0e (q0t (pt_j (@PW.pt _ _ _ (q2v (q0h (ne_k K rfl hr) (pv 3) (pv 1) (nomark _)) (q2c (q0h (eq_k K rfl hr) (q1d sl_P (pv 3) q2h (q1a (q0r (q2u K rfl) (by rfl) T.b_len By (q0a (pv 1) q0d)))) (pv 1) (nomark _)))))) (q0e (q0y (@bm_k _ _ _ _ _ _ _ _ _ _ _ _ K rfl Bz Cu Cv q1i (pv 2) (q0a (q0v (q0a (pv 3) (q0a (pv 4) q0d))) q0d) (by rfl) (by rfl) (by rfl) (by rfl) (by rfl)))) q0j))) (q0e (q0m (pv 2))))),?_⟩
  with_reducible refine gE λa8 a9 J M=>?_
  refine⟨by decide,λD hD=>?_⟩;have s0:=(Same.refl H).new (o:=.lst []) hD;have Z:upd H D (.lst []) D=some (.lst []):=q0c;obtain⟨dx,hi⟩:=hh.i;refine gY M λb0 O=>?_;refine⟨_,rfl,h,dx,_,rfl,s0 _ _ hi,rfl,h,d,bl,rows,rfl,hh.same s0,a2,I,λL zs H1 hL s1 rl pm sd=>?_⟩;have a3:D≠L:=λz=>by rw[<- z,Z] at hL;cases hL
  have a4:=s0.trans s1;have b4:zs.length=rows.length:=by have:=pm.length_eq;rwa [Ae] at this
  refine .inl ⟨L,rfl,⟨_,SqL.of rl.at_⟩,?_⟩;refine q1x (λi B F=>∃x3 x4 v,B=[some (.ref h),some (.ref p),some (.ref D),x3,x4]/\Same H F/\RL F L zs/\RL F D v/\v.map (·.2)=((zs.map (·.2)).take i).filter (benB q)/\v.length<=i/\i<=zs.length) ⟨none,none,[],rfl,a4,rl,⟨s1 _ _ Z,λ_ h=>nomatch h⟩,rfl,Ba _,Ba _⟩ (λi B F _ q=>by obtain⟨_,_,_,_,_,r,_⟩:=q;exact SqL.of r.at_) ?_ ?_
  ·rintro i x B F hx ⟨x3,x4,v,rfl,sm,g,ry,R,a5,hi⟩;rw[Be] at hx;obtain⟨z,hz,rfl⟩:=Bh.mp hx;have a0:=Ar hz;have hi':=(Ap.mp hz).1;obtain⟨b,b1,b2⟩:=g.pr z a0;have a6:=pm.mem_iff.mp (Az.mpr ⟨z,a0,rfl⟩);have lz:=I _ a6;have a7:=x3f (f:=benB q) (x:=z.2) (by rw[Be,hz];rfl);refine⟨z.1,_,rfl,SqT.of b1,rfl,_,_,rfl,_,_,rfl,rfl,?_⟩;refine⟨λbb S=>bb=benB q z.2/\Same F S,?_,?_⟩
   ·rintro bb S ⟨rfl,j⟩;refine ite2 (λe=>?_) (λe=>?_)
    ·refine⟨_,rfl,.inl ⟨rfl,⟨_,SqL.of (j _ _ ry.at_)⟩⟩,_,rfl,_,rfl,by show 2<=sizeLine;decide,λX U=>?_⟩;have s3:=(Same.refl S).new (o:=.tup [.ref b,mV z.2.2]) U;have G:=ry.same j;refine⟨D,_,_,rfl,rfl,s3 _ _ G.at_,TX.small' (by rw[Ae];lia),?_⟩;have e3:=s3 _ _ G.at_;have kD:∀T xs,S T=some (.tup xs)->upd (upd S X (.tup [.ref b,mV z.2.2])) D (.lst (v.map (λz=>V.ref z.1)++[V.ref X])) T=some (.tup xs):=λT xs e=>by
      have:=s3 _ _ e;rw[q0g (λy=>by rw[y,e3] at this;cases this)];exact this
     have kL:∀a u,a≠D->F a=some u->upd (upd S X (.tup [.ref b,mV z.2.2])) D (.lst (v.map (λz=>V.ref z.1)++[V.ref X])) a=some u:=λa u n e=>by
      rw[q0g n];exact s3 _ _ (j _ _ e)
     refine⟨_,_,v++[(X,z.2)],rfl,λa u e=>kL a u (λy=>by rw[y,hD] at e;cases e) (sm a u e),⟨kL _ _ (Cp a3) g.at_,λY W=>PR.same (g.pr Y W) λT xs e=>kD T xs (j _ _ e)⟩,⟨by rw[Bb];exact q0c,λY W=>?_⟩,?_,by rw[Af,Bi];lia,hi'⟩
     ·rcases Au.mp W with Y|Y
      ·exact PR.same (G.pr _ Y) kD
      ·rw[Ao.mp Y];have a1:X≠D:=λy=>by rw[y,G.at_] at U;cases U
       exact⟨b,by rw[q0g a1];exact q0c,kD _ _ (j _ _ b2)⟩
     ·grind
    ·have e:=eq_false_of_ne_true e;refine⟨_,_,v,rfl,sm.trans j,g.same j,ry.same j,?_,by lia,hi'⟩;rw[R,a7,e];simp
   ·refine⟨_,rfl,_,rfl,z0f b2 (sm _ _ hp) lz lq ⟨_,rfl,?_⟩⟩;unfold benB;refine iteB (λe=>?_) (λe=>?_)
    ·have e:(!decide (z.2.1=q))=true:=e;refine⟨_,rfl,_,rfl,_,_,rfl,   .inr ⟨_,SqT.of (sm _ _ hp),rfl⟩,_,rfl,b,_,rfl,b2,λt1 S j h2=>?_⟩;rw[q2z,cut_to] at h2;refine⟨_,rfl,z3e h2 (j _ _ (sm _ _ hp)) (x6l lz) lq ⟨_,rfl,?_,j⟩⟩;rw[e];rfl
    ·have e:(!decide (z.2.1=q))=false:=e;refine⟨?_,Same.refl _⟩;rw[e];rfl
  ·rintro B F ⟨x3,x4,v,rfl,sm,g,ry,R,a5,hi⟩;subst J;subst O;refine⟨_,rfl,k D v (zs.map (·.2)) F hD sm ry pm (by rw[Ct];exact sd) ?_⟩;rw[R,Ae];congr 1;exact Dl (by rw[Ae];exact Aj _)
theorem z5q(hn:okN n)(o:∀j,f j<=1000):∀{rs} {j i} {ts:Pth},(∀r∈rs,ROk r)->pick f n m rs j=some (i,ts)->TsOk ts
 |[],_,_,_,_,h=>by cases h
 |r::rs,j,i,ts,ok,h=>by
  have s:=λh=>z5q (m:=m) hn o (rs:=rs) (j:=j+1) (i:=i) (ts:=ts) (λr u=>ok r (Ak _ u)) h;have g:=ok r Al;unfold pick at h;split at h
  ·cases e:tellO r n (r.st+f j) with
   |none=>rw[e] at h;exact s h
   |some us =>
    rw[e] at h;cases h;exact q6t g ⟨hn.few,hn.all⟩ (by have:=g.st;have:=o j;lia) e
  ·exact s h
def x3g{rs:List RD}(h:rs[i]?=some r):pick f n m (rs.drop i) i=if forB r.kd m then(match tellO r n (r.st+f i) with|some ts=>some (i,ts)|none=>pick f n m (rs.drop (i+1)) (i+1)) else pick f n m (rs.drop (i+1)) (i+1):=by
 rw[q3e h];rfl
noncomputable def spTold(P:Aq)(w:World)(K:Ai):Sp:=λvs H Q _=>∃p m L d q rs f b,vs=[.ref p,mV m,.ref L,.ref d]/\H p=some (.tup (vP q))/\okP q/\RuL K H L rs/\Cnt (pkA P w) H d f b/\b<=1000 /\
 (pick (f q.dropLast) (q.getLastD []) m rs 0=none->∀H',Same H H'->Q .non H') /\
 ∀j ts,pick (f q.dropLast) (q.getLastD []) m rs 0=some (j,ts)->∀T H',H T=none->Kd d H H'->H' T=some (.tup (vP ts))->Cnt (pkA P w) H' d (bump f q.dropLast j) (b+1)->Q (.ref T) H'
noncomputable abbrev q3q:Stmt:=top 75
def sc_told_texts:FnScope ["path", "mark", "rules", "counted", "number", "rule", "key", "texts"] Z9 (defScope q3q):=by trivial
def z1t(D:Df K mg "told_texts" q3q Z9)(T:Txt mg)(C:Cal P w K mg base "is_for" 1 Y4 (spIsFor K)/\Cal P w K mg base "tells" 8 Z8 (spTells K)):Cal P w K mg base "told_texts" 9 Z9 (spTold P w K):=by
 refine D.cal sc_told_texts (λvs H Q E h=>?_) (λf b2 A outer s H vs Q E hr h=>?_)
 ·obtain⟨p,m,L,d,q,Y,f,b,rfl,_⟩:=h;rfl
 ·obtain⟨p,m,L,d,q,Y,g,b,rfl,hp,O,ru,ct,hb,kN,kS⟩:=h;refine⟨_,(q0b (q1g Bj rfl (@z6g _ _ _ _ _ _ _ _ K rfl rfl T.b_enumerate (q0a (pv 2) q0d) (by rfl)) (@q2m _ _ _ _ _ (2) K rfl rfl (q0p (q0k (i:=4) sc_told_texts.nd rfl (by trivial)) (q0p (q0k (i:=5) sc_told_texts.nd rfl (by trivial)) q1s)) (by rfl) (by rfl)) (q0b (q0l (i:=6) sc_told_texts.nd rfl (by trivial) (q0v (q0a (q1d sl_P (pv 0) q2h (q1a (q4o q2l q0f))) (q0a (pv 4) q0d)))) (q0e (q0t (@z2k _ _ _ K rfl (pe_c C.1 hr (q0a (pv 5) (q0a (pv 1) q0d))) (λ_=>rfl)) (q0b (q0l (i:=7) sc_told_texts.nd rfl (by trivial) (pe_c C.2 hr (q0a (pv 5) (q0a (q0w (ix_k K rfl) (pv 0) (q4o q2l q0f) (λ_ _=>rfl)) (q0a (q0u q0n (q0w (ix_k K rfl) (pv 5) q0f (λ_ _=>rfl)) (x1j (pkA P w) rfl rfl (z3j hr) (pv 3) (pv 6) q0f ⟨rfl,rfl,rfl,rfl⟩)) q0d))))) (q0e (q0t (q3r (z4k (pv 7))) (q0b (x9q (pkA P w) rfl rfl (z3j hr) (pv 3) (pv 6) (q0u q0n (x1j (pkA P w) rfl rfl (z3j hr) (pv 3) (pv 6) q0f ⟨rfl,rfl,rfl,rfl⟩) q0f) rfl) (q0e (q0m (pv 7)))) q0j))) q0j)))) (q0e (q0m z1v))),?_⟩;show tSeq _ _ _ _ _;refine gE λb3 a7 I J=>?_
  obtain⟨Rs,r1,r2,r3⟩:=ru.ex;obtain⟨ks,k1,k2,k3⟩:=ct.ex;have a0:=q5w O;refine⟨_,rfl,.inr ⟨L,_,rfl,SqL.of r1,?_⟩⟩;refine z3b (λi v H'=>∃x4 x5 x6 x7,v=[some (.ref p),some (mV m),some (.ref L),some (.ref d),x4,x5,x6,x7]/\Same H H'/\pick (g q.dropLast) (q.getLastD []) m Y 0=pick (g q.dropLast) (q.getLastD []) m (Y.drop i) i/\i<=Y.length) ⟨none,none,none,none,rfl,Same.refl H,rfl,Ba _⟩ (λi v H' q=>by obtain⟨_,_,_,_,_,sm,_⟩:=q;exact SqL.of (sm _ _ r1)) ?_ ?_
  ·rintro i x T' v H' hx ⟨x4,x5,x6,x7,rfl,sm,j,hi⟩ hT;rw[Be] at hx;obtain⟨R,hR,rfl⟩:=Bh.mp hx;have hi':i<Y.length:=by grind
   have B:=Bv hi';generalize Y[i]=r at B;have a8:=ru.ok r (Ar B);have ra:=r3 i R r hR B;rw[x3g B] at j;refine⟨T',_,rfl,SqT.of q0c,rfl,_,_,rfl,_,_,rfl,rfl,?_⟩;show tSeq _ _ _ _ _;refine gE λb4 a9 u a1=>?_;have s2:=sm.new (o:=.tup [.int (i:Nat),.ref R]) hT;refine⟨_,rfl,_,rfl,_,rfl,p,_,rfl,s2 _ _ hp,λt1 H3 s3 h3=>?_⟩;rw[(q4n O.ne).1] at h3;refine⟨_,rfl,by show 2<=sizeLine;decide,λZ a2=>?_⟩;show a9 _ _ _;subst a1;have F:=(s2.trans s3).new (o:=.tup [.ref t1,.int (i:Nat)]) a2;have a3:PrK (upd H3 Z (.tup [.ref t1,.int (i:Nat)])) (kP q.dropLast,Sum.inl ((i:Nat):Int)) Z:=⟨t1,q0c,by rw[z2y];exact((Same.refl H3).new a2) _ _ h3⟩
   have S:=ra.same F;refine⟨_,rfl,_,rfl,R,r.kd,_,m,rfl,S.at_,?_⟩;cases hf:forB r.kd m with
   |false =>
    rw[hf] at j;subst u;exact⟨_,rfl,iteF ⟨_,_,_,_,rfl,F,j,hi'⟩⟩
   |true =>
    rw[hf,if_pos rfl] at j;refine⟨_,rfl,iteT ?_⟩;show tSeq _ _ _ _ _;refine gZ λa4 M=>?_;have b5:=ct.le q.dropLast i;have b6:=a8.st;have hv:=k3 q.dropLast i;refine⟨_,rfl,_,rfl,_,rfl,.inr (.inl ⟨p,_,-1,_,rfl,rfl,SqT.of (F _ _ hp),q8k O.ne,?_⟩)⟩;refine⟨_,rfl,.inr (.inl ⟨R,_,3,.int (r.st:Int),rfl,rfl,SqT.of S.at_,q1n rfl,?_⟩)⟩;refine⟨_,rfl,d,ks,rfl,k1.same F,_,rfl,Z,(kP q.dropLast,Sum.inl ((i:Nat):Int)),0,rfl,rfl,k1.same F,a3,?_⟩;rw[hv];refine .inl ⟨_,_,rfl,rfl,R,r.kd,r.l,r.qs,r.st,q.getLastD [],r.st+g q.dropLast i,rfl,S,a0.few,λt ht c hc=>a0.low c (z3y _ _ t ht c hc),by lia,λU H5 s5=>?_,λU T7 H5 W s5 h5=>?_⟩
    ·show a4 _ _ _;subst M;have et:tellO r (q.getLastD []) (r.st+g q.dropLast i)=none:=by unfold tellO;rw[U];rfl
     rw[et] at j;subst u;exact⟨_,rfl,_,rfl,iteF ⟨_,_,_,_,rfl,F.trans s5,j,hi'⟩⟩
    ·show a4 _ _ _;subst M;have et:tellO r (q.getLastD []) (r.st+g q.dropLast i)=some (tellT (rd (q.getLastD []) (parse [] r.l) 0) (r.st+g q.dropLast i) r.qs):=by unfold tellO;rw[U];rfl
     rw[et] at j;have a5:=F.trans s5;have X:PrK H5 (kP q.dropLast,Sum.inl ((i:Nat):Int)) Z:=let ⟨c,e1,e2⟩:=a3;⟨c,s5 _ _ e1,s5 _ _ e2⟩;have G:=k1.same a5;refine⟨_,rfl,_,rfl,iteT ?_⟩;show tSeq _ _ _ _ _;refine gZ λb0 a6=>?_;refine⟨_,rfl,d,ks,rfl,G,_,rfl,Z,(kP q.dropLast,Sum.inl ((i:Nat):Int)),0,rfl,rfl,G,X,?_⟩;rw[hv];refine .inl ⟨_,_,rfl,rfl,_,rfl,_,rfl,d,ks,Z,(kP q.dropLast,Sum.inl ((i:Nat):Int)),_,rfl,rfl,rfl,G,X,TX.small' (by lia),?_⟩;show b0 _ _ _;subst a6;have b1:T7≠d:=λz=>by rw[z,(k1.same F).at_] at W;cases W
     subst u;subst J;subst I;exact⟨_,rfl,kS _ _ j T7 _ (F.free W) ((Kd.of a5).put) (by rw[q0g b1];exact h5) (Cnt.put G k2 k3 ct.le X hb rfl)⟩
  ·rintro v H' ⟨x4,x5,x6,x7,rfl,sm,j,hi⟩;show a7 _ _ _;subst J;rw[Ae,r2,Ip] at j;subst I;exact kN j H' sm
noncomputable def nmB(ts:Pth):Bool:=ts.all isName
noncomputable def RN(H:Hp)(E:XK)(Cn:Addr)(q ts:Pth):Prop:=∀ea H',Same H H'->H ea=none->RfN H' ea Cn q ts->E (.ref ea) none H'
noncomputable def plG(rows:List Rw)(q ts:Pth):Option Pth:=if 6<ts.length\/nmB ts=false then none else if ts.length=1 then some (q.dropLast++ts) else if (ts.dropLast,(none))∈rows then some ts else none
noncomputable def spPlace(c Cn:Addr):Sp:=λvs H Q E=>∃h d p X bl rows q ts,vs=[.ref h,.ref p,.ref X]/\HallAt c H h d bl rows/\(rows.map (·.1)).Nodup/\H p=some (.tup (vP q))/\okP q/\H X=some (.tup (vP ts))/\TsOk ts/\(∀r,plG rows q ts=some r->∀a H',Same H H'->H' a=some (.tup (vP r))->Q (.ref a) H')/\(plG rows q ts=none->RN H E Cn q ts)
def TsOk.pb(h:TsOk ts):PB ts:=⟨h.2.1,λn hn=>⟨(h.2.2 n hn).1,λc f=>x0v c ((h.2.2 n hn).2 c f)⟩⟩
def TsOk.low(h:TsOk ts):Low ts:=λn hn c f=>x0v c ((h.2.2 n hn).2 c f)
noncomputable abbrev q5h:Stmt:=top 76
def z5r:FnScope Zi Zi (defScope q5h):=by trivial
def z5s(D:Df K mg "place_of" q5h Zi)(T:Txt mg)(C:MCal P w K mg base c "is_drawer" 1 Zx (spIsDrawer c)/\Cal P w K mg base "is_name" 2 Y6 spIsName/\CalE P w K mg base "NoPlace" Cn 1 Zh (spIniN Cn)):CalX P w K mg base "place_of" 3 Zi (spPlace c Cn):=by
 refine D.calX z5r (λvs H Q E h=>?_) (λf a4 A outer s H vs Q E Z h=>?_)
 ·obtain⟨h,d,p,X,bl,rows,q,g,rfl,_⟩:=h;rfl
 ·obtain⟨h,d,p,X,bl,rows,q,g,rfl,hh,a1,hp,M,J,U,k,kE⟩:=h;obtain⟨_,j⟩:=T.MOST_NAMES;refine⟨_,(q0b (q0t (pt_j (@PW.pt _ _ _ (z4l (q0h q6h (q0r (q2u K rfl) (by rfl) T.b_len By (q0a (pv 2) q0d)) (q0z (v:=.int 6) (by rfl) j ⟨_,rfl⟩) (nomark _)) (q6x (z5v (@z2k _ _ _ K rfl (q0r (all_k K rfl rfl) (by rfl) T.b_all (by trivial) (q0a (q4l Y6 [] rfl (@q2i _ _ _ _ K rfl (pv 2)) (λ_ _ _ _ _=>(q0k (i:=0) (show(Y6:List Str).Nodup by trivial) rfl (by trivial))) (λ_ _ _ _ _=>q9v) (λ_ _ _ _ _=>(pe_c C.2.1 Z (q0a (pv 0) q0d)))) q0d)) (λ_=>rfl))))))) (q0e (ps_rs C.2.2 Z accX rfl (q0a (pv 1) (q0a (pv 2) q0d)))) q0j) (q0b (q0t (q0h (eq_k K rfl Z) (q0r (q2u K rfl) (by rfl) T.b_len By (q0a (pv 2) q0d)) q0f (nomark _)) (q0e (q0m (q0u z4v (q1d sl_P (pv 1) q2h (q1a (q4o q2l q0f))) (pv 2)))) q0j) (q0b (q0t (z5v (@z2k _ _ _ K rfl (pe_m C.1 Z (pv 0) (q0a (q1d sl_P (pv 2) q2h (q1a (q4o q2l q0f))) q0d)) (λ_=>rfl))) (q0e (ps_rs C.2.2 Z accX rfl (q0a (pv 1) (q0a (pv 2) q0d)))) q0j) (q0e (q0m (pv 2)))))),?_⟩;have pb:=U.pb;obtain⟨dx,hi⟩:=hh.i;refine⟨λbb H'=>bb=(decide (6<g.length) || !nmB g)/\Same H H',?_,?_⟩
  ·rintro bb H1 ⟨rfl,G⟩;refine ite2 (λe=>?_) (λe=>?_)
   ·have e:plG rows q g=none:=by
     unfold plG;rcases Bool.or_eq_true_iff.mp e with z|z
     ·grind
     ·grind
    refine⟨_,rfl,_,rfl,λL F=>⟨L,p,X,q,g,rfl,q0c,?_⟩⟩;have se:=(Same.refl H1).new (o:=ExN (.ref Cn) none L) F;refine⟨⟨se _ _ (G _ _ hp),okP.pb M⟩,⟨se _ _ (G _ _ J),pb⟩,λd hd u=>⟨rfl,some d,by rw[q0g (Cp u),q0g (Cp u),q0c],?_⟩⟩;have R:=q6f (o2:=XdO d []) (o3:=ExN (.ref Cn) (some d) L) (o4:=XdO d [("path",.ref p)]) (o5:=XdO d (putF "texts" (.ref X) [("path",.ref p)])) (o6:=ExO (.ref Cn) (some d) L) (Same.refl H1) F hd;exact kE e L _ (G.trans R) (G.free F) ⟨d,p,X,q0c,by rw[q0g u];exact q0c,R _ _ (G _ _ hp),R _ _ (G _ _ J)⟩
   ·have e1:¬(6<g.length\/nmB g=false):=λz=>e (by
     rcases z with z|z
     ·grind
     ·rw[z];simp)
    refine⟨_,rfl,_,_,rfl,.inr ⟨_,SqT.of (G _ _ J),rfl⟩,.inl ⟨rfl,_,rfl,?_⟩⟩;rw[q2z];refine ite2 (λO=>?_) (λO=>?_)
    ·have O:g.length=1:=by have:=of_decide_eq_true O;injection this with this;lia
     refine⟨_,rfl,_,rfl,_,rfl,p,_,rfl,G _ _ hp,λt1 S s2 h2=>?_⟩;rw[(q4n M.ne).1] at h2;have hl:=M.few;refine⟨_,rfl,t1,X,_,_,rfl,rfl,h2,s2 _ _ (G _ _ J),TX.small (by rw[q2z,q2z,List.length_dropLast];lia),λa W Y h3 _=>?_⟩;exact k (q.dropLast++g) (by unfold plG;rw[if_neg e1,if_pos O]) a W ((G.trans s2).trans Y) (by rw[h3,<- vP_app])
    ·have O:g.length≠1:=λz=>O (decide_eq_true (by rw[z];rfl));have u:g.dropLast≠[]:=λz=>by
      have:=congrArg List.length z;have:=Bw.mpr U.1;simp at *;lia
     refine⟨_,rfl,h,dx,_,rfl,G _ _ hi,rfl,_,rfl,_,rfl,_,rfl,X,_,rfl,G _ _ J,λt1 S s2 h2=>?_⟩;rw[(q4n U.1).1] at h2;refine⟨h,d,t1,bl,rows,g.dropLast,rfl,(hh.same G).same s2,h2,λn hn=>U.low n ((List.dropLast_sublist g).subset hn),a1,λW bb Y a0=>⟨_,rfl,?_⟩⟩;have B:=(G.trans s2).trans Y;cases bb
     ·have a2:¬(g.dropLast,(none:Option Int))∈rows:=λz=>by have:=a0.mpr (.inr z);cases this
      have e:plG rows q g=none:=by unfold plG;rw[if_neg e1,if_neg O,if_neg a2]
      refine iteT ⟨_,rfl,_,rfl,λL F=>⟨L,p,X,q,g,rfl,q0c,?_⟩⟩;have se:=(Same.refl W).new (o:=ExN (.ref Cn) none L) F;refine⟨⟨se _ _ (B _ _ hp),okP.pb M⟩,⟨se _ _ (B _ _ J),pb⟩,λd hd u=>⟨rfl,some d,by rw[q0g (Cp u),q0g (Cp u),q0c],?_⟩⟩;have R:=q6f (o2:=XdO d []) (o3:=ExN (.ref Cn) (some d) L) (o4:=XdO d [("path",.ref p)]) (o5:=XdO d (putF "texts" (.ref X) [("path",.ref p)])) (o6:=ExO (.ref Cn) (some d) L) (Same.refl W) F hd;exact kE e L _ (B.trans R) (B.free F) ⟨d,p,X,q0c,by rw[q0g u];exact q0c,R _ _ (B _ _ hp),R _ _ (B _ _ J)⟩
     ·have hm:(g.dropLast,(none:Option Int))∈rows:=(a0.mp rfl).resolve_left u;exact iteF ⟨_,rfl,k g (by unfold plG;rw[if_neg e1,if_neg O,if_pos hm]) X W B (B _ _ J)⟩
  ·refine⟨_,rfl,_,_,rfl,.inr ⟨_,SqT.of J,rfl⟩,_,_,rfl,rfl,_,rfl,?_⟩;rw[q2z];refine iteB (λz=>⟨?_,Same.refl H⟩) (λz=>?_)
   ·grind
   have a3:decide (6<g.length)=false:=decide_eq_false (by have:=of_decide_eq_false z;lia);refine⟨_,rfl,.inr (.inl ⟨X,rfl,⟨_,SqT.of J⟩,λD hD=>?_⟩)⟩;refine z9w (λi ys S=>ys=(g.take i).map (λn=>V.bl (isName n))/\Same H S/\S D=some (.lst ys)/\i<=g.length) ⟨rfl,(Same.refl H).new hD,q0c,Ba _⟩ (λi ys S q=>by obtain⟨_,sm,I,_⟩:=q;exact⟨I,SqT.of (sm _ _ J)⟩) ?_ ?_
   ·rintro i ys S x hx ⟨rfl,sm,I,hi⟩;rw[Be] at hx;obtain⟨t,ht,rfl⟩:=Bh.mp hx;have hi':=(Ap.mp ht).1;have tok:=U.2.2 t (Ar ht);have a5:=U.2.1;refine⟨_,rfl,mk t,rfl,by rw[q0o];lia,λW Y=>⟨Y _ _ I,TX.small' (by rw[Ae,Cg];lia),?_,(sm.trans Y).put hD,q0c,hi'⟩⟩;rw[q0x,Fu,ht,Bb];rfl
   ·rintro ys S ⟨rfl,sm,I,hi⟩;rw[q2z,Ci] at I;refine⟨D,g.map isName,rfl,SqL.of (by rw[Ct];exact I),_,rfl,?_,sm⟩;rw[a3];unfold nmB;simp
noncomputable def sow(rows:List Rw)(rs:List RD):List Rw->(Pth->Nat->Nat)->List Mv->Sum (Pth×Pth) (List Mv)
 |[],_,ms=>.inr ms
 |r::R,f,ms=>match pick (f r.1.dropLast) (r.1.getLastD []) r.2 rs 0 with
  |none=>sow rows rs R f ms
  |some x=>match plG rows r.1 x.2 with
   |some y=>sow rows rs R (bump f r.1.dropLast x.1) (ms++[(r.1,y)])
   |none=>.inl (r.1,x.2)
noncomputable def Srt(rows rs:List Rw):Prop:=rs.Perm rows/\(rs.map (·.1)).Pairwise (λa b=>pLt b a=false)
noncomputable def f0:Pth->Nat->Nat:=λ_ _=>0
noncomputable def spWi(K:Ai)(c Cn:Addr):Sp:=λvs H Q E=>∃h d p L bl rows q rs,vs=[.ref h,.ref p,.ref L]/\HallAt c H h d bl rows/\Hl bl rows/\rows.length<=30/\H p=some (.tup (vP q))/\Low q/\(q=[]\/(q,none)∈rows)/\RuL K H L rs /\
 (∀sr ms,Srt rows sr->sow rows rs (sr.filter (benB q)) f0 []=.inr ms->∀G zs H',Same H H'->ML H' G zs->zs.map (·.2)=ms->Q (.ref G) H') /\
 ∀sr x,Srt rows sr->sow rows rs (sr.filter (benB q)) f0 []=.inl x->RN H E Cn x.1 x.2
noncomputable abbrev q4i:Stmt:=top 77
def sc_wishes_of:FnScope ["hall", "path", "rules", "rule", "wishes", "counted", "thing", "mark", "texts"] Zo (defScope q4i):=by trivial
def z4h(D:Df K mg "wishes_of" q4i Zo)(T:Txt mg)(C:Cal P w K mg base "ask_rule" 7 Zz (spAskRule K)/\MCal P w K mg base c "is_drawer" 1 Zx (spIsDrawer c)/\Cal P w K mg base "rows_beneath" 3 Y5 (spBen c)/\Cal P w K mg base "told_texts" 9 Z9 (spTold P w K)/\CalX P w K mg base "place_of" 3 Zi (spPlace c Cn)):CalX P w K mg base "wishes_of" 10 Zo (spWi K c Cn):=by
 refine D.calX sc_wishes_of (λvs H Q E h=>?_) (λf e7 A outer s H vs Q E hr h=>?_)
 ·obtain⟨h,d,p,L,bl,rows,q,rs,rfl,_⟩:=h;rfl
 ·obtain⟨h,d,p,L,bl,rows,q,rs,rfl,hh,hl,e8,hp,lq,hq,ru,k,kE⟩:=h;refine⟨_,(q0b (q1g passDef rfl (@q2i _ _ _ _ K rfl (pv 2)) (q0k (i:=3) sc_wishes_of.nd rfl (by trivial)) (q0e (q0y (pe_c C.1 hr (q0a (pv 3) q0d))))) (q0b (q0t (z5v (@z2k _ _ _ K rfl (pe_m C.2.1 hr (pv 0) (q0a (pv 1) q0d)) (λ_=>rfl))) (q0e q1l) q0j) (q0b (q0l (i:=4) sc_wishes_of.nd rfl (by trivial) (q1p q0d)) (q0b (q0l (i:=5) sc_wishes_of.nd rfl (by trivial) (x4z (pkA P w) rfl rfl)) (q0b (q1g passDef rfl (@q2i _ _ _ _ K rfl (pe_c C.2.2.1 hr (q0a (pv 0) (q0a (pv 1) q0d)))) (@q2m _ _ _ _ _ (2) K rfl rfl (q0p (q0k (i:=6) sc_wishes_of.nd rfl (by trivial)) (q0p (q0k (i:=7) sc_wishes_of.nd rfl (by trivial)) q1s)) (by rfl) (by rfl)) (q0b (q0l (i:=8) sc_wishes_of.nd rfl (by trivial) (pe_c C.2.2.2.1 hr (q0a (pv 6) (q0a (pv 7) (q0a (pv 2) (q0a (pv 5) q0d)))))) (q0e (q0t (q3r (z4k (pv 8))) (q0e (q0y (@bm_k _ _ _ _ _ _ _ _ _ _ _ _ K rfl Bz Cu Cv q1i (pv 4) (q0a (q0v (q0a (pv 6) (q0a (pe_cX C.2.2.2.2 hr accX (q0a (pv 0) (q0a (pv 6) (q0a (pv 8) q0d)))) q0d))) q0d) (by rfl) (by rfl) (by rfl) (by rfl) (by rfl)))) q0j)))) (q0e (q0m (pv 4)))))))),?_⟩;show tSeq _ _ _ _ _;refine gE λe9 c6 a3 b0=>?_
  obtain⟨Rs,r1,r2,r3⟩:=ru.ex;obtain⟨dx,hi⟩:=hh.i;refine⟨_,rfl,.inl ⟨L,rfl,⟨_,SqL.of r1⟩,?_⟩⟩;refine q1x (xs:=Rs.map V.ref) (λi v I=>∃x3,v=[some (.ref h),some (.ref p),some (.ref L),x3,none,none,none,none,none]/\Same H I) ⟨none,rfl,Same.refl H⟩ (λi v I _ ⟨_,_,sm⟩=>SqL.of (sm _ _ r1)) ?_ ?_
  ·rintro i x v I hx ⟨x3,rfl,sm⟩;rw[Be] at hx;obtain⟨R,hR,rfl⟩:=Bh.mp hx;have hi':i<rs.length:=by rw[<- r2];exact(Ap.mp hR).1
   have ra:=r3 i R rs[i] hR (Bv hi');exact⟨_,rfl,R,_,_,_,_,rfl,ra.same sm,λH2 s2=>⟨_,rfl,sm.trans s2⟩⟩
  rintro v I ⟨x3,rfl,sm⟩;show c6 _ _ _;refine gY2 b0 λc7 b3=>?_;refine⟨_,rfl,h,dx,_,rfl,sm _ _ hi,rfl,_,rfl,h,d,p,bl,rows,q,rfl,hh.same sm,sm _ _ hp,lq,hl.paths,λH1 bb s1 c9=>?_⟩;rw[c9.mpr hq];refine⟨_,rfl,iteF ?_⟩;have b4:=sm.trans s1;refine⟨by show 0<=sizeLine;decide,λG hG=>?_⟩;show c7 _ _ _;refine gY b3 λd0 b5=>?_;have s2:=b4.new (o:=.lst []) hG;have a0:upd H1 G (.lst []) G=some (.lst []):=q0c;have d1:=b4.free hG;generalize upd H1 G (.lst [])=H2 at s2 a0;intro J a1 b6;show d0 _ _ _;refine gY b5 λd2 b7=>?_;have s3:=s2.new (o:=PiO (pkA P w) J []) a1;have a6:Cnt (pkA P w) (upd H2 J (PiO (pkA P w) J [])) J f0 0:=Cnt.new b6;have a7:upd H2 J (PiO (pkA P w) J []) G=some (.lst []):=((Same.refl H2).new a1) _ _ a0;have d3:=s2.free a1;have b8:G≠J:=λz=>by rw[z,a1] at a0;cases a0
  generalize upd H2 J (PiO (pkA P w) J [])=H3 at s3 a6 a7;refine⟨_,rfl,_,rfl,h,d,p,bl,rows,q,rfl,hh.same s3,by lia,λr hr=>(hl.ok r hr).low,s3 _ _ hp,lq,λB zs sr H4 hB s4 rl pm sd ez=>?_⟩;have b9:Srt rows sr:=⟨pm,sd⟩
  have d4:G≠B:=λz=>by rw[<- z,a7] at hB;cases hB
  have d5:B≠J:=λz=>by obtain⟨ks,x,_⟩:=a6.ex;rw[z,x.at_] at hB;cases hB
  have d6:=s3.trans s4;have f1:zs.length<=30:=by
   have h1:=congrArg List.length ez;rw[Ae] at h1;have h2:=Di (benB q) sr;have h3:=pm.length_eq;lia
  refine .inl ⟨B,rfl,⟨_,SqL.of rl.at_⟩,?_⟩;refine q1x (xs:=zs.map λz=>V.ref z.1) (λi v I=>∃x3 x6 x7 x8 O g,v=[some (.ref h),some (.ref p),some (.ref L),x3,some (.ref G),some (.ref J),x6,x7,x8]/\Same H I/\RL I B zs/\ML I G O/\Cnt (pkA P w) I J g i/\sow rows rs (sr.filter (benB q)) f0 []=sow rows rs ((sr.filter (benB q)).drop i) g (O.map (·.2))/\O.length<=i/\i<=zs.length) ⟨_,none,none,none,[],f0,rfl,d6,rl,ML.nil (s4 _ _ a7),a6.same s4,rfl,Ba _,Ba _⟩ (λi v I _ ⟨_,_,_,_,_,_,_,_,r,_⟩=>SqL.of r.at_) ?_ ?_
  ·rintro i x v I hx ⟨x3,x6,x7,x8,O,g,rfl,S,U,W,M,F,d7,d8⟩;rw[Be] at hx;obtain⟨z,hz,rfl⟩:=Bh.mp hx;have d9:=Ar hz;have hi':=(Ap.mp hz).1;obtain⟨b,b1,b2⟩:=U.pr z d9;have c0:(sr.filter (benB q))[i]?=some z.2:=by rw[<- ez,Be,hz];rfl
   have e0:z.2∈rows:=pm.mem_iff.mp (Bt.mp (Ar c0)).1;have a8:=hl.ok _ e0;rw[q3e c0] at F;refine⟨z.1,_,rfl,SqT.of b1,rfl,_,_,rfl,_,_,rfl,rfl,?_⟩;show tSeq _ _ _ _ _;refine gE λf2 c1 a4 a5=>?_;refine⟨_,rfl,_,rfl,_,rfl,_,rfl,b,z.2.2,L,J,z.2.1,rs,g,i,rfl,b2,a8,ru.same S,M,by lia,λY H6 s6=>?_,λj ts Y X H6 hX k6 e1 e2=>?_⟩
   ·show c1 _ _ _;subst a5;subst a4;refine⟨_,rfl,_,rfl,iteF ⟨_,_,_,_,O,g,rfl,S.trans s6,U.same s6,W.same s6,⟨(M.same s6).ex.imp λks x=>⟨x.1,by lia,x.2.2⟩,λp j=>Dy (M.le p j)⟩,?_,by lia,hi'⟩⟩;subst a3;rw[F,sow,Y]
   ·show c1 _ _ _;subst a5;have s6:=k6.same S d3;have a2:∀T Z,I T=some (.tup Z)->H6 T=some (.tup Z):=λT Z e=>k6 _ _ (λy=>by obtain⟨ks,x,_⟩:=M.ex;rw[y,x.at_] at e;cases e) e;have c2:RL H6 B zs:=⟨k6 _ _ d5 U.at_,λz hz=>PR.same (U.pr z hz) a2⟩
    have c3:ML H6 G O:=⟨k6 _ _ b8 W.at_,λz hz=>(W.pr z hz).keep a2⟩
    have tok:TsOk ts:=z5q (q5w a8) (λj=>by have:=M.le z.2.1.dropLast j;lia) ru.ok Y;refine⟨_,rfl,_,rfl,iteT ?_⟩;refine⟨_,rfl,.inl ⟨rfl,⟨_,SqL.of c3.at_⟩⟩,_,rfl,_,rfl,_,rfl,_,rfl,h,d,b,X,bl,rows,z.2.1,ts,rfl,hh.same s6,hl.paths,a2 _ _ b2,a8,e1,tok,λy hn a H7 s7 h7=>?_,λhn=>?_⟩
    ·refine⟨by show 2<=sizeLine;decide,λT1 c4=>?_⟩;have s8:=s7.new (o:=.tup [.ref b,.ref a]) c4;have c5:MT (upd H7 T1 (.tup [.ref b,.ref a])) T1 (z.2.1,y):=⟨b,a,q0c,s8 _ _ (a2 _ _ b2),((Same.refl H7).new c4) _ _ h7⟩
     generalize upd H7 T1 (.tup [.ref b,.ref a])=H8 at s8 c5;have a9:=c3.same s8;have k9:∀a u,a≠G->H8 a=some u->upd H8 G (.lst (O.map (λz=>V.ref z.1)++[V.ref T1])) a=some u:=λa u n e=>by rw[q0g n];exact e
     have t9:∀T Z,H8 T=some (.tup Z)->upd H8 G (.lst (O.map (λz=>V.ref z.1)++[V.ref T1])) T=some (.tup Z):=λT Z e=>k9 _ _ (λy=>by rw[y,a9.at_] at e;cases e) e;refine⟨G,_,_,rfl,rfl,a9.at_,TX.small' (by rw[Ae];lia),?_⟩;subst a4;refine⟨_,_,_,_,O++[(T1,(z.2.1,y))],bump g z.2.1.dropLast j,rfl,λa u e=>k9 a u (λy=>by rw[y,d1] at e;cases e) (s8 _ _ (s6 _ _ e)),⟨k9 _ _ (Cp d4) (s8 _ _ c2.at_),λz hz=>PR.same (c2.pr z hz) λT Z e=>t9 _ _ (s8 _ _ e)⟩,⟨by rw[Bb];exact q0c,λz' e3=>?_⟩,?_,?_,by rw[Af,Bi];lia,hi'⟩
     ·rcases Au.mp e3 with y'|y'
      ·exact(a9.pr _ y').keep t9
      ·rw[Ao.mp y'];exact c5.keep t9
     ·have c8:=e2.same s8;exact⟨c8.ex.imp λks x=>⟨⟨k9 _ _ (Cp b8) x.1.at_,x.1.sys,x.1.len,λy hy=>(pkA P w).keep t9 (x.1.pk y hy)⟩,x.2⟩,c8.le⟩
     ·rw[F,sow,Y];show(match plG rows z.2.1 ts with|some y=>_|none=>_)=_;rw[hn,Bb];rfl
    ·intro ea H7 s7 e4 rf f3 e6;cases e6;refine kE sr (z.2.1,ts) b9 ?_ ea H7 (s6.trans s7) (s6.free e4) rf;rw[F,sow,Y];show(match plG rows z.2.1 ts with|some y=>_|none=>_)=_;rw[hn]
  ·rintro v I ⟨x3,x6,x7,x8,O,g,rfl,S,U,W,M,F,d7,d8⟩;show d2 _ _ _;subst b7;have e5:(sr.filter (benB q)).drop (zs.map λz=>V.ref z.1).length=[]:=by
    rw[<- ez,Ae];exact Mw (by rw[Ae];exact Aj _)
   rw[e5,sow] at F;subst a3;exact⟨_,rfl,k sr _ b9 F G O I S W rfl⟩
noncomputable def DueN(H:Hp)(T:Addr):Sum (Pth×Pth) (List Mv)->Prop
 |.inr ms=>∃G ys,H T=some (.tup [.str (Ab "wishes"),.ref G])/\ML H G ys/\ys.map (·.2)=ms
 |.inl x=>∃a b,H T=some (.tup [.str (Ab "no place"),.ref a,.ref b])/\H a=some (.tup (vP x.1))/\H b=some (.tup (vP x.2))
def DueN.same(h:DueN H T x)(s:Same H H'):DueN H' T x:=by
 cases x with
 |inr ms=>obtain⟨G,o,f,g,j⟩:=h;exact⟨G,o,s _ _ f,g.same s,j⟩
 |inl x=>obtain⟨a,b,f,g,j⟩:=h;exact⟨a,b,s _ _ f,s _ _ g,s _ _ j⟩
def ne_dt(f:Dt K H x d)(g:Dt K H y d)(l:d.canLay0=true)(dp:d.depth<=100)(k:Q (.bl false) H):rNeU K x y H Q:=by
 refine .inr ⟨_,_,f,g,l,l,by rw[Vp];exact dp,?_⟩;rw[SeqAt.eqv_refl _ l];exact k
noncomputable def dM(m:Mv):Ce:=.tuple [.tuple (dP m.1),.tuple (dP m.2)]
def dt_M(h:MT H T m):Dt K H (.ref T) (dM m):=by
 obtain⟨A,B,f,g,j⟩:=h;exact .tup (SqT.of f) (.cons (q3x g) (.cons (q3x j) .nil))
theorem dts_M:∀{zs:List Zm},(∀z∈zs,MT H z.1 z.2)->Dts K H (zs.map λz=>V.ref z.1) ((zs.map (·.2)).map dM)
 |[],_=>.nil
 |z::zs,h=>.cons (dt_M (h z Al)) (dts_M λy f=>h y (Ak _ f))
def lay_M(h:Low m.1/\Low m.2):(dM m).canLay0=true:=by
 unfold dM;simp only[Ii,Fj,q6c h.1,q6c h.2,Ek]
theorem x8a:∀{ms:List Mv},(∀m∈ms,Low m.1/\Low m.2)->Fj (ms.map dM)=true
 |[],_=>by simp[Fj]
 |m::ms,h=>by
  rw[Am];simp only[Fj,lay_M (h m Al),x8a λy f=>h y (Ak _ f),Ek]
def dep_M(m):(dM m).depth<=50:=by
 have f:=q3f m.1;have g:=q3f m.2;unfold dM;simp only[Gw,Dw];lia
theorem x8b:∀ms:List Mv,Dw (ms.map dM)<=50
 |[]=>by simp[Dw]
 |m::ms=>by
  have f:=dep_M m;have g:=x8b ms;rw[Am];simp only[Dw];lia
theorem x3h{rows:List Rw}(nd:(rows.map (·.1)).Nodup):∀{a b:List Rw},a.map (·.1)=b.map (·.1)->(∀x∈a,x∈rows)->(∀x∈b,x∈rows)->a=b
 |[],[],_,_,_=>rfl
 |[],_::_,h,_,_=>by cases h
 |_::_,[],h,_,_=>by cases h
 |x::a,y::b,h,h1,h2=>by
  rw[Am,Am] at h;injection h with e1 e2;rw[q6q (f:=λr:Rw=>r.1) nd (h1 x Al) (h2 y Al) e1,x3h nd e2 (λz g=>h1 z (Ak _ g)) λz g=>h2 z (Ak _ g)]
def Srt.one(hl:Hl bl rows)(ha:Srt rows a)(f:Srt rows b):a=b :=
 x3h hl.paths (q7s ((ha.1.trans f.1.symm).map _) ((ha.1.map _).nodup_iff.mpr hl.paths) ha.2 f.2) (λx g=>ha.1.mem_iff.mp g) λx g=>f.1.mem_iff.mp g
noncomputable def LwS:Sum (Pth×Pth) (List Mv)->Prop
 |.inl x=>Low x.1/\Low x.2
 |.inr ms=>∀m∈ms,Low m.1/\Low m.2
def j0y(f:Low q)(lt:Low ts)(h:plG rows q ts=some r):Low r:=by
 unfold plG at h;split at h
 ·cases h
 split at h
 ·cases h;exact λn hn=>(Au.mp hn).elim (q6u f n) (lt n)
 split at h
 ·cases h;exact lt
 ·cases h
theorem z5t(ok:∀r∈rs,ROk r):∀{R} {f} {b} {ms},(∀r∈R,okP r.1)->(∀p j,f p j<=b)->b+R.length<=1000->(∀m∈ms,Low m.1/\Low m.2)->LwS (sow rows rs R f ms)
 |[],_,_,_,_,_,_,hm=>by rw[sow];exact hm
 |r::R,f,b,ms,o,hf,hb,hm=>by
  have ho':∀x∈R,okP x.1:=λx s=>o x (Ak _ s);have g:=o r Al;rw[Bc] at hb;rw[sow];cases e:pick (f r.1.dropLast) (r.1.getLastD []) r.2 rs 0 with
  |none=>exact z5t ok ho' hf (by lia) hm
  |some x =>
   have tok:=z5q (q5w g) (λj=>by have:=hf r.1.dropLast j;lia) ok e;show LwS (match plG rows r.1 x.2 with|some y=>_|none=>_);cases ep:plG rows r.1 x.2 with
   |none=>exact⟨g.low,tok.low⟩
   |some y =>
    refine z5t ok (b:=b+1) ho' (λp j=>?_) (by lia) λm h=>?_
    ·have:=hf p j;unfold bump;split<;>lia
    ·rcases Au.mp h with z|z
     ·exact hm m z
     ·rw[Ao.mp z];exact⟨g.low,j0y g.low tok.low ep⟩
noncomputable def dX:Sum (Pth×Pth) (List Mv)->Ce
 |.inr ms=>.tuple [.str (Ab "wishes"),.list (ms.map dM)]
 |.inl x=>.tuple [.str (Ab "no place"),.tuple (dP x.1),.tuple (dP x.2)]
def DueN.dt(h:DueN H T x):Dt K H (.ref T) (dX x):=by
 cases x with
 |inr ms =>
  obtain⟨G,o,g,f,rfl⟩:=h;exact .tup (SqT.of g) (.cons (.str _) (.cons (.lst (SqL.of f.at_) (dts_M f.pr)) .nil))
 |inl x =>
  obtain⟨a,b,g,f,j⟩:=h;exact .tup (SqT.of g) (.cons (.str _) (.cons (q3x f) (.cons (q3x j) .nil)))
def x6m(h:LwS x):(dX x).canLay0=true/\(dX x).depth<=100:=by
 cases x with
 |inr ms =>
  have e:(Ce.str (Ab "wishes")).canLay0=true:=by trivial
  simp only[Ii] at e;have:=x8b ms;refine⟨?_,?_⟩
  ·simp only[dX,Ii,Fj,e,x8a h,Ek]
  ·simp only[dX,Gw,Dw];lia
 |inl x =>
  have e:(Ce.str (Ab "no place")).canLay0=true:=by trivial
  simp only[Ii] at e;have f:=q3f x.1;have g:=q3f x.2;refine⟨?_,?_⟩
  ·simp only[dX,Ii,Fj,e,q6c h.1,q6c h.2,Ek]
  ·simp only[dX,Gw,Dw];lia
def ne_due(ha:DueN H A x)(f:DueN H B x)(l:LwS x)(k:Q (.bl false) H):rNeU K (.ref A) (.ref B) H Q:=ne_dt ha.dt f.dt (x6m l).1 (x6m l).2 k
def j0z(h:isCn q=false)(acc):stepT ts a acc q=stepT ts b acc q:=by
 cases q with
 |cnt v=>cases h
 |_=>rfl
theorem x3i:∀{qs:List Pc} {acc},(∀q∈qs,isCn q=false)->qs.foldl (stepT ts a) acc=qs.foldl (stepT ts b) acc
 |[],_,_=>rfl
 |q::qs,acc,h=>by
  rw[Ew,Ew,j0z (h q Al)];exact x3i λp f=>h p (Ak _ f)
def z7j(h:∀q∈r.qs,isCn q=false)(n)(a b):tellO r n a=tellO r n b:=by
 unfold tellO tellT;rw[x3i h]
theorem z7k(hk:r.kd=q.kd)(g:r.st=q.st):∀{R} {f} {ms},(∀x∈R,∀c,tellO r (x.1.getLastD []) c=tellO q (x.1.getLastD []) c)->sow rows [r] R f ms=sow rows [q] R f ms
 |[],_,_,_=>by rw[sow,sow]
 |x::R,f,ms,h=>by
  have j:=λ{f ms}=>z7k (rows:=rows) hk g (R:=R) (f:=f) (ms:=ms) λy o=>h y (Ak _ o);have e:pick (f x.1.dropLast) (x.1.getLastD []) x.2 [r] 0=pick (f x.1.dropLast) (x.1.getLastD []) x.2 [q] 0:=by
   unfold pick pick;rw[hk,g,h x Al]
  rw[sow,sow,e];cases pick (f x.1.dropLast) (x.1.getLastD []) x.2 [q] 0 with
  |none=>exact j
  |some y =>simp_all
def sub_self(h:ECls K c bm):SubX K (.ref c) c:=⟨c,bm,rfl,h,by rw[Lq];simp⟩
noncomputable def spFound(K:Ai)(c:Addr):Sp:=λvs H Q _=>∃h d p R bl rows q r,vs=[.ref h,.ref p,.ref R]/\HallAt c H h d bl rows/\Hl bl rows/\rows.length<=30/\H p=some (.tup (vP q))/\Low q/\(q=[]\/(q,none)∈rows)/\RuleAt K H R r.kd r.l r.qs (r.st:Int)/\ROk r /\
 ∀sr T H',Srt rows sr->Same H H'->DueN H' T (sow rows [r] (sr.filter (benB q)) f0 [])->Q (.ref T) H'
noncomputable abbrev z1u:Stmt:=top 89
def sc_found:FnScope ["_law_hall", "_law_path", "_law_rule_here", "_law_found_here", "e"] Z6 (defScope z1u):=by trivial
def x6n(D:Df K mg "_law_found" z1u Z6)(T:Txt mg)(C:CalX P w K mg base "wishes_of" 10 Zo (spWi K c Cn)/\mg "NoPlace" = some (.ref Cn)/\ECls K Cn bm/\EGet K Cn "path"/\EGet K Cn "texts"):Cal P w K mg base "_law_found" 11 Z6 (spFound K c):=by
 refine D.cal sc_found (λvs H Q E h=>?_) (λf a4 A outer s H vs Q E hr h=>?_)
 ·obtain⟨h,d,p,R,bl,rows,q,r,rfl,_⟩:=h;rfl
 ·obtain⟨h,d,p,R,bl,rows,q,r,rfl,hh,hl,O,hp,lq,hq,ra,S,k⟩:=h;have g_NoPlace:=C.2.1;have e_NoPlace:=C.2.2.1;refine⟨_,(q0b (q0l (i:=3) sc_found.nd rfl (by trivial) (q0v (q0a q0i q0d))) (q0b (ps_try (i:=4) K rfl rfl rfl sc_found.nd rfl rfl rfl g_NoPlace e_NoPlace (λ_ _=>(q0e (q0l (i:=3) sc_found.nd rfl (by trivial) (q0v (q0a q0i (q0a (pe_cX C.1 hr AccX.of (q0a (pv 0) (q0a (pv 1) (q0a (q1p (q0a (pv 2) q0d)) q0d)))) q0d))))))
    (λ_=>(q0e (q0l (i:=3) sc_found.nd rfl (by trivial) (q0v (q0a q0i (q0a (x7i K rfl (pv 4)) (q0a (x7i K rfl (pv 4)) q0d)))))))) (q0e (q0m (pv 3))))),?_⟩
  refine⟨by decide,λT6 U=>?_⟩;have W:=(Same.refl H).new (o:=.tup [.str (Ab "other")]) U;generalize upd H T6 (.tup [.str (Ab "other")])=L at W;refine⟨λB F H'=>F=[some (V.ref h),some (.ref p),some (.ref R),some (.ref T6),none]/\Same L H'/\∃v x,Srt rows v/\sow rows [r] (v.filter (benB q)) f0 []=.inl x/\RfN H' B Cn x.1 x.2,?_,?_⟩
  ·rintro B F H7 ⟨rfl,s7,v,x,g,j,X⟩;obtain⟨de,Y,Z,q1,q2,q3,q4⟩:=X.ex;refine⟨⟨_,_,q1,sub_self C.2.2.1⟩,?_⟩;refine⟨_,rfl,B,Cn,de,_,_,rfl,.inl q1,q2,C.2.2.2.1,rfl,_,rfl,B,Cn,de,_,_,rfl,.inl q1,q2,C.2.2.2.2,rfl,by show 3<=sizeLine;decide,λT8 a0=>?_⟩;have u:=(Same.refl H7).new (o:=.tup [.str (Ab "no place"),.ref Y,.ref Z]) a0;have d8:DueN (upd H7 T8 (.tup [.str (Ab "no place"),.ref Y,.ref Z])) T8 (.inl x):=⟨Y,Z,q0c,u _ _ q3,u _ _ q4⟩
   exact⟨_,rfl,k v T8 _ g ((W.trans s7).trans u) (by rw[j];exact d8)⟩
  ·refine⟨_,rfl,_,rfl,_,rfl,by show 1<=sizeLine;decide,λM hM=>?_⟩;have u:=W.new (o:=.lst [.ref R]) hM;have I:upd L M (.lst [.ref R]) M=some (.lst [.ref R]):=q0c;have J:=(Same.refl L).new (o:=.lst [.ref R]) hM;generalize upd L M (.lst [.ref R])=H8 at u I J;have ru:RuL K H8 M [r]:=⟨⟨[R],I,rfl,λi R' r' e1 e2=>by
    cases i with
    |zero=>cases e1;cases e2;exact ra.same u
    |succ i=>cases e1⟩,λx hx=>by rw[Ao.mp hx];exact S⟩
   refine⟨h,d,p,M,bl,rows,q,[r],rfl,hh.same u,hl,O,u _ _ hp,lq,hq,ru,λv ms g j G ys H9 s9 a1 a2=>?_,λv x g j B H9 s9 a5 X a6 ez=>?_⟩
   ·refine⟨by show 2<=sizeLine;decide,λTA a3=>?_⟩;have sA:=(Same.refl H9).new (o:=.tup [.str (Ab "wishes"),.ref G]) a3;have dA:DueN (upd H9 TA (.tup [.str (Ab "wishes"),.ref G])) TA (.inr ms):=⟨G,ys,q0c,a1.same sA,a2⟩
    exact⟨_,rfl,k v TA _ g ((u.trans s9).trans sA) (by rw[j];exact dA)⟩
   ·cases ez;exact⟨rfl,J.trans s9,v,x,g,j,X⟩
def eqv_sp(n):Dg (.tuple [.str (Ab "parted"),.str (mk n)]) (.tuple [.str (Ab "same")])=false:=by simp[Dg,Eg]
def j1a(x):Dg (dX x) (.tuple [.str (Ab "other")])=false:=by
 cases x with
 |inl x=>simp[dX,Dg,Eg]
 |inr x=>simp[dX,Dg,Eg]
theorem hlAny(h:Hl true rows):∀bl,Hl bl rows
 |true=>h
 |false=>⟨h.ok,h.paths,h.dr⟩
structure CallsL (P) (w) (K) (mg) (base) (c):Prop where
 draw:Cal P w K mg base "_law_draw" 1 Z4 spDraw
 name_signs:Cal P w K mg base "_law_name_signs" 1 [] (spConst NSs)
 rule:Cal P w K mg base "_law_rule" 3 Zc spRule
 varied:Cal P w K mg base "_law_varied" 2 Zf (spVar K)
 most:Cal P w K mg base "_law_most" 4 Zk (spMost K)
 compared:Cal P w K mg base "compared" 9 Zp (spCpd K)
 short_rows:Cal P w K mg base "_law_short_rows" 4 Z5 spShort
 k_Hall:KCal P w K mg base c "Hall" 4 Zn (spInit c)
 found:Cal P w K mg base "_law_found" 11 Z6 (spFound K c)
noncomputable def spLaw(K:Ai):Sp:=λvs H Q _=>∃(a:Addr) (ns:List Int),vs=[.ref a]/\SqL K H a (ns.map V.int)/\ns.length<=63/\∀H',Q (.bl true) H'
def gl3(h:x∈[V.str (Ab "a"),.str (Ab "aB1"),.str (Ab "0z")]):∃g,x=.str g/\0<g.length/\g.length<=100/\∀c∈tl g,c∈NS:=by
 simp only[Av,Cc,or_false] at h;rcases h with rfl|rfl|rfl
 ·exact⟨_,rfl,by trivial,by trivial,by trivial⟩
 ·exact⟨_,rfl,by trivial,by trivial,by trivial⟩
 ·exact⟨_,rfl,by trivial,by trivial,by trivial⟩
def gm3(s:0<g.length)(u:g.length<=100)(j:∀c∈tl g,c∈NS)(h:x∈[V.str (g++Ab "x"),.str (Ab "aAbB19-"),.str NSs]):∃g,x=.str g/\0<g.length/\g.length<=1000/\∀c∈tl g,c∈NS:=by
 simp only[Av,Cc,or_false] at h;rcases h with rfl|rfl|rfl
 ·have e:(tl (Ab "x")).length=1:=by trivial
  have o:∀c∈tl (Ab "x"),c∈NS:=by trivial
  have v:(g++Ab "x").length=g.length+1:=by rw[len,q2o,Af,e,<- len]
  refine⟨_,rfl,by lia,by lia,λc f=>?_⟩;rw[q2o] at f;exact(Au.mp f).elim (j c) (o c)
 ·exact⟨_,rfl,by trivial,by trivial,by trivial⟩
 ·exact⟨_,rfl,by trivial,by trivial,λc h=>h⟩
def kd3(h:x∈[V.str (Ab "slip"),.str (Ab "drawer"),.str (Ab "all")]):∃g,x=.str g/\inV (.str g) kinds3=true:=by
 simp only[Av,Cc,or_false] at h;rcases h with rfl|rfl|rfl
 ·exact⟨_,rfl,by trivial⟩
 ·exact⟨_,rfl,by trivial⟩
 ·exact⟨_,rfl,by trivial⟩
def into47(h:Pc.into∈ts):47∈flatP ts:=by
 exact Hg.mpr ⟨_,Az.mpr ⟨_,h,rfl⟩,by show 47∈[47];simp⟩
def RawAt.fd{st}(h:RawAt H R l ts st)(F:FeedAt H a b)(fd:Fd a b H H'):RawAt H' R l ts st:=⟨z1g F fd h.at_,h.ok,h.st,h.ne⟩
def RawAt.same{st}(h:RawAt H R l ts st)(s:Same H H'):RawAt H' R l ts st:=⟨s _ _ h.at_,h.ok,h.st,h.ne⟩
def RawAt.rule{st}(h:RawAt H R l ts st):CRule K H R (mkN (Ab "slip") l ts st):=x5w h.ok (by have:=h.st;lia) h.at_
noncomputable abbrev q4j:Stmt:=top 90
def sc_law:FnScope Z0 ["_law_script"] (defScope q4j):=by trivial
def x6o(T:Txt mg)(C:CallsL P w K mg base c)(f)(f3)(A)(outer)(s)(H)(vs)(Q)(E)(M:Room 12 (A.deeper (PyProof.Rows.envOfC "law" (defScope q4j) s.heap.objs.size f f3)))(h:spLaw K vs H Q E):
  ∃t,PSs (cxOf CX0 P w K mg base Z0 "law" (defScope q4j) f f3 A outer s H E).nox (defBody q4j) t/\t { nx:=λ_ H'=>Q .non H',rt:=Q } (L2.start Z0 vs) H:=by
  obtain⟨sc,ns,rfl,hS,n2,k⟩:=h;refine⟨_,(q0b (q0l (i:=1) sc_law.nd rfl (by trivial) (q1p (q0a (q1u (list_k K rfl) (by rfl) T.b_list (by trivial) (q0a (pv 0) q0d)) (q0a q0f (q0a q0f q0d))))) (q0b (q1g Bj rfl (q1w rfl T.b_range (q0a (q0r (z9h rfl) (by rfl) T.b_max (by trivial) (q0a q0f (q0a (q0r (q6z rfl) (by rfl) T.b_min (by trivial) (q0a q0f (q0a (q0r (q2u K rfl) (by rfl) T.b_len By (q0a (pv 0) q0d)) q0d))) q0d))) q0d)) (q0k (i:=2) sc_law.nd rfl (by trivial)) (q0b (q0l (i:=3) sc_law.nd rfl (by trivial) (q0w (ix_k K rfl) (q1p (q0a q0i (q0a q0i (q0a q0i q0d)))) (pe_c C.draw M (q0a (pv 1) (q0a q0f q0d))) (λ_ _=>rfl))) (q0b (q0l (i:=4) sc_law.nd rfl (by trivial) (pe_c C.rule M (q0a (pv 1) (q0a (pv 3) q0d)))) (q0b (q0l (i:=5) sc_law.nd rfl (by trivial) (pe_c C.varied M (q0a (pv 1) (q0a (pv 4) q0d)))) (q0b (q0l (i:=6) sc_law.nd rfl (by trivial) (q0w (ix_k K rfl) (q1p (q0a q0i (q0a q0i (q0a q0i q0d)))) (pe_c C.draw M (q0a (pv 1) (q0a q0f q0d))) (λ_ _=>rfl))) (q2n (q0t (q0h (in_k K rfl) q0i (q0w (ix_k K rfl) (pv 4) q0f (λ_ _=>rfl)) (by with_unfolding_all rfl)) (q0e (q0l (i:=6) sc_law.nd rfl (by trivial) q0i)) q0j) (q0b (q0l (i:=7) sc_law.nd rfl (by trivial) (q0r (q6z rfl) (by rfl) T.b_min (by trivial) (q0a q0f (q0a (pe_c C.most M (q0a (pv 1) (q0a (q1p (q0a (pv 4) (q0a (pv 5) q0d))) q0d))) q0d)))) (q0e (q0t (pt_j (@PW.pt _ _ _ (q2v (q0h q6h (pv 7) q0f (nomark _)) (q2c (q0h (eq_k K rfl M) (pe_c C.compared M (q0a (pv 4) (q0a (pv 5) (q0a (pv 7) q0d)))) (q0v (q0a q0i q0d)) (nomark _)))))) (q0b (q0l (i:=8) sc_law.nd rfl (by trivial) (q0w (ix_k K rfl) (q1p (q0a (q0u q0n (pv 3) q0i) (q0a q0i (q0a (pe_c0 C.name_signs M) q0d)))) (pe_c C.draw M (q0a (pv 1) (q0a q0f q0d))) (λ_ _=>rfl))) (q0b (q0l (i:=9) sc_law.nd rfl (by trivial) (pe_c C.short_rows M (q0a (pv 1) (q0a (pv 8) (q0a (pv 7) q0d))))) (q0b (q0l (i:=10) sc_law.nd rfl (by trivial) (pe_k C.k_Hall M (q0a (pv 9) (q0a (q2g (eq_k K rfl M) (pe_c C.draw M (q0a (pv 1) (q0a q0f q0d))) q0f (nomark _)) q0d)))) (q0e (q1g Bj rfl (@q2i _ _ _ _ K rfl (q0u q0n (q1p (q0a (q0v q0d) q0d)) (q1d (sl_k K rfl) (q4l Yl [] rfl (@q2i _ _ _ _ K rfl (pv 9)) (λ_ _ _ _ _=>(@q2m _ _ _ _ _ (2) K rfl rfl (q0p (q0k (i:=0) (show(Yl:List Str).Nodup by trivial) rfl (by trivial)) (q0p (q0k (i:=1) (show(Yl:List Str).Nodup by trivial) rfl (by trivial)) q1s)) (by rfl) (by rfl))) (λ_ _ _ _ _=>(q4v (q3r (q8s (pv 1))))) (λ_ _ _ _ _=>(pv 0))) q2h (q1a q0f)))) (q0k (i:=11) sc_law.nd rfl (by trivial)) (q0b (q0l (i:=12) sc_law.nd rfl (by trivial) (pe_c C.found M (q0a (pv 10) (q0a (pv 11) (q0a (q0v (q0a (pv 6) (q0a (q0w (ix_k K rfl) (pv 4) q0f (λ_ _=>rfl)) (q0a (q0w (ix_k K rfl) (pv 4) q0f (λ_ _=>rfl)) (q0a q0f q0d))))) q0d))))) (q0b (q0l (i:=13) sc_law.nd rfl (by trivial) (pe_c C.found M (q0a (pv 10) (q0a (pv 11) (q0a (q0v (q0a (pv 6) (q0a (q0w (ix_k K rfl) (pv 5) q0f (λ_ _=>rfl)) (q0a (q0w (ix_k K rfl) (pv 5) q0f (λ_ _=>rfl)) (q0a q0f q0d))))) q0d))))) (q0e (q0t (pt_j (@PW.pt _ _ _ (z4l (q0h (eq_k K rfl M) (pv 12) (q0v (q0a q0i q0d)) (nomark _)) (q6x (q0h (ne_k K rfl M) (pv 13) (pv 12) (nomark _)))))) (q0e (q0m q6g)) q0j))))))))) q0j))))))))) (q0e (q0m q6g)))),?_⟩
  with_reducible refine gE λD1 X1 b0 i8=>?_
  refine⟨_,rfl,sc,_,rfl,.inl hS,λb hb=>⟨by show 3<=sizeLine;decide,λa ha=>?_⟩⟩;have i9:b≠a:=q0q q0c ha;have F:FeedAt (upd (upd H b (.lst (ns.map V.int))) a (.lst [.ref b,.int 0,.int 0])) a b:=⟨⟨0,0,q0c⟩,ns,by rw[q0g i9];exact q0c⟩
  have sS:Same H (upd (upd H b (.lst (ns.map V.int))) a (.lst [.ref b,.int 0,.int 0])):=((Same.refl H).new hb).new ha;generalize j0:upd (upd H b _) a _=H1;rw[j0] at F sS;refine gY i8 λX2 j1=>?_;refine⟨_,rfl,_,_,rfl,.inl ⟨_,sS.seq hS,rfl⟩,?_⟩;refine⟨_,_,rfl,_,_,rfl,_,rfl,?_,?_,q1y (λi D H'=>∃x2 x3 x4 x5 x6 x7 x8 x9 y0 y1 y2 y3,D=[some (.ref sc),some (.ref a),x2,x3,x4,x5,x6,x7,x8,x9,y0,y1,y2,y3]/\Fd a b H1 H') ⟨none,none,none,none,none,none,none,none,none,none,none,none,rfl,Fd.refl F⟩ ?_ ?_⟩
  ·rw[Ae];split<;>split<;>lia
  ·rw[Ae];split<;>split<;>lia
  rotate_left
  ·rintro D H' ⟨x2,x3,x4,x5,x6,x7,x8,x9,y0,y1,y2,y3,rfl,fd⟩;subst j1;subst b0;exact k _
  rintro i D H2 hi ⟨x2,x3,x4,x5,x6,x7,x8,x9,y0,y1,y2,y3,rfl,f4⟩;refine gE λD2 X3 f5 j2=>?_;refine⟨by show 3<=sizeLine;decide,λkl d4=>?_⟩;have d5:=f4.new (o:=.lst [.str (Ab "a"),.str (Ab "aB1"),.str (Ab "0z")]) d4;have f6:kl≠a:=(f4.feed.na d4).symm;refine⟨_,rfl,a,b,3,rfl,d5.feed,by decide,by decide,λr3 H3 j3 j4 d6=>?_⟩;obtain⟨x,a0,a1⟩:=q8y (xs:=[V.str (Ab "a"),V.str (Ab "aB1"),V.str (Ab "0z")]) j3 (by simpa using j4);refine .inl ⟨kl,_,r3,x,rfl,rfl,SqL.of (d6.at q0c f6),a1,?_⟩;obtain⟨g,rfl,g0,g1,g2⟩:=gl3 (Ar a0);have fd3':=d5.trans d6;clear a0 a1 d6 d5 d4 f6;show X3 _ _ _;refine gY j2 λX4 j5=>?_;refine⟨_,rfl,_,rfl,a,b,g,rfl,fd3'.feed,g0,by lia,g2,λR0 l0 u st0 H4 _ f7 a7 n4 _ n5=>?_⟩;have fd4':=fd3'.trans f7;show X4 _ _ _;refine gY j5 λX5 j6=>?_;refine⟨_,rfl,_,rfl,a,b,R0,l0,u,st0,rfl,fd4'.feed,a7,by lia,by lia,λR1 l1 G st1 H5 _ d7 b1 _ _ j7=>?_⟩;have c6:=a7.fd fd4'.feed d7;have fd5':=fd4'.trans d7;clear a7 f7 d7 fd3';show X5 _ _ _;refine gY j6 λX6 j8=>?_;refine⟨by show 3<=sizeLine;decide,λkm Y=>?_⟩;have I:=fd5'.new (o:=.lst [.str (Ab "slip"),.str (Ab "drawer"),.str (Ab "all")]) Y;have sm:=(Same.refl H5).new (o:=.lst [.str (Ab "slip"),.str (Ab "drawer"),.str (Ab "all")]) Y;have b2:km≠a:=(fd5'.feed.na Y).symm;refine⟨_,rfl,a,b,3,rfl,I.feed,by decide,by decide,λr6 H6 j9 k0 b3=>?_⟩;obtain⟨x,a0,a1⟩:=q8y (xs:=[V.str (Ab "slip"),V.str (Ab "drawer"),V.str (Ab "all")]) j9 (by simpa using k0);refine .inl ⟨km,_,r6,x,rfl,rfl,SqL.of (b3.at q0c b2),a1,?_⟩;obtain⟨k1,rfl,f8⟩:=kd3 (Ar a0);have fd6':=I.trans b3;have b4:=(c6.same sm).fd I.feed b3;have c7:=(b1.same sm).fd I.feed b3;clear a0 a1 b3 I Y b2 c6 b1 sm;show X6 _ _ _;subst j8;refine⟨λD H'=>∃kd,D=[some (.ref sc),some (.ref a),some (.int (0+(i:Int))),some (.str g),some (.ref R0),some (.ref R1),some (.str kd),x7,x8,x9,y0,y1,y2,y3]/\H'=H6/\inV (.str kd) kinds3=true/\(Pc.into∈u->kd=Ab "slip"),?_,?_⟩;rotate_left
  ·refine⟨_,rfl,.inr (.inl ⟨R0,_,2,_,rfl,rfl,SqT.of b4.at_,rfl,.inl ⟨_,_,rfl,rfl,_,rfl,?_⟩⟩)⟩;rw[show Ab "/" = ⟨#[47]⟩ by trivial,q3t,q0x];refine ite2 (λh=>?_) (λh=>⟨k1,rfl,rfl,f8,λz=>absurd (decide_eq_true (into47 z)) h⟩);exact⟨_,rfl,rfl,by trivial,λ_=>rfl⟩
  rintro D H6 ⟨kd,rfl,rfl,f9,g3⟩;refine gZ λX7 k2=>?_;refine⟨_,rfl,_,rfl,_,rfl,by show 2<=sizeLine;decide,λL hL=>?_⟩;have sL:=(Same.refl H6).new (o:=.lst [.ref R0,.ref R1]) hL;have tL:upd H6 L (.lst [.ref R0,.ref R1]) L=some (.lst [.ref R0,.ref R1]):=q0c;have g4:L≠a:=(fd6'.feed.na hL).symm;generalize upd H6 L (.lst [.ref R0,.ref R1])=H7 at sL tL;have O:=fd6'.same sL;have R:=b4.same sL;have W:=c7.same sL;have c0:=R.rule (K:=K);have c1:=W.rule (K:=K);generalize k3:mkN (Ab "slip") l0 u st0=q0 at c0;generalize k4:mkN (Ab "slip") l1 G st1=q1 at c1;refine⟨a,b,L,[(R0,q0),(R1,q1)],rfl,O.feed,⟨tL,λx B=>?_⟩,by simp,g4,λmo H8 n6 g6 a8=>?_⟩
  ·rcases Av.mp B with z|z
   ·rw[z];exact c0
   ·rw[Ao.mp z];exact c1
  have d8:=c0.tk λxs e=>z1g O.feed a8 e;have d9:=c1.tk λxs e=>z1g O.feed a8 e;have a4:=R.fd O.feed a8;have a5:=W.fd O.feed a8;have fd8':=O.trans a8;have bd:∀m,m<=mo->0<m->((nmO q0 q1).length+4)^m<=1000:=λm h1 h2=>by
   have hb:=g6.resolve_left (by lia) (R0,q0) (by simp) (R1,q1) (by simp);exact Ay (Km (by lia) h1) (Ay hb (by decide))
  refine⟨_,_,rfl,?_⟩;obtain⟨m3,em,k5,n7⟩:∃m3:Nat,(if (mo:Int)<3 then(mo:Int) else 3)=(m3:Int)/\m3<=mo/\m3<=3:=by
   by_cases z:(mo:Int)<3
   ·exact⟨mo,by rw[if_pos z],Aj _,by lia⟩
   ·exact⟨3,by rw[if_neg z];rfl,by lia,Aj _⟩
  rw[em];clear c0 c1 R W b4 c7 tL g4 hL sL O a8;show X7 _ _ _;subst k2;refine⟨λbb H'=>Fd a b H1 H'/\RawAt H' R0 l0 u st0/\RawAt H' R1 l1 G st1/\(bb=true->0<m3/\∀n:List Nat,1<=n.length->n.length<=m3->(∀c∈n,c∈NS)->tellO q0 n 0=tellO q1 n 0),?_,?_⟩;rotate_left
  ·refine⟨_,rfl,_,_,rfl,rfl,_,rfl,iteB (λh=>?_) (λh=>⟨fd8',a4,a5,λz=>by cases z⟩)⟩;have e0:0<m3:=by have:(m3:Int)>0:=of_decide_eq_true h;lia
   refine⟨_,rfl,_,rfl,_,rfl,R0,R1,q0,q1,m3,rfl,d8,d9,by lia,bd m3 k5 e0,λg7 Tf H9 k6 s9 h9=>?_,λkk ii n hk k7 n8 n0 _ Tf H9 k6 s9 h9=>?_⟩
   ·refine⟨by show 1<=sizeLine;decide,λU hU=>?_⟩;have sU:=(Same.refl H9).new (o:=.tup [.str (Ab "same")]) hU;refine .inr ⟨_,_,.tup (SqT.of (sU _ _ h9)) (.cons (.str _) .nil),.tup (SqT.of q0c) (.cons (.str _) .nil),by trivial,by trivial,by simp[Gw,Dw],_,rfl,(fd8'.same s9).same sU,(a4.same s9).same sU,(a5.same s9).same sU,λ_=>⟨e0,λn n1 n3 nn=>?_⟩⟩;refine x6a d8 d9 nn (by lia) λm hm=>?_;have hp:n.length=(n.length-1)+1:=by lia
    rw[hp] at hm;exact g7 _ m (by lia) hm
   ·refine⟨by show 1<=sizeLine;decide,λU hU=>?_⟩;have sU:=(Same.refl H9).new (o:=.tup [.str (Ab "same")]) hU;have hn:=z4a (nm:=nmO q0 q1) x2h (kk+1) n (Ar k7);have low:∀c∈n,c<128:=λc hc=>q6e c (hn.2 c hc);refine .inr ⟨_,_,.tup (SqT.of (sU _ _ h9)) (.cons (.str _) (.cons (.str _) .nil)),.tup (SqT.of q0c) (.cons (.str _) .nil),?_,by trivial,by simp[Gw,Dw],_,rfl,(fd8'.same s9).same sU,(a4.same s9).same sU,(a5.same s9).same sU,λz=>?_⟩
    ·simp only[Ii,Fj,z0b low,Bool.and_true];decide +kernel
    ·rw[eqv_sp] at z;cases z
  clear d8 d9 a4 a5 fd8' bd g6 fd6';rintro bb H9 ⟨e1,a7,b1,k8⟩;refine ite2 (λhb=>?_) (λhb=>by subst f5;exact⟨_,_,_,_,_,_,_,_,_,_,_,_,rfl,e1⟩);obtain⟨e0,e2⟩:=k8 hb;have ex:(Ab "x").length=1:=by trivial
  refine gZ λX8 k9=>?_;refine⟨_,rfl,.inr (.inl ⟨_,_,rfl,rfl,by rw[ex];exact small (by lia),rfl,by show 3<=sizeLine;decide,λkm Y=>?_⟩)⟩;have I:=e1.new (o:=.lst [.str (g++Ab "x"),.str (Ab "aAbB19-"),.str NSs]) Y;have b2:km≠a:=(e1.feed.na Y).symm;have sm:=(Same.refl H9).new (o:=.lst [.str (g++Ab "x"),.str (Ab "aAbB19-"),.str NSs]) Y;refine⟨_,rfl,a,b,3,rfl,I.feed,by decide,by decide,λr4 HA l2 l3 b5=>?_⟩;obtain⟨x,a0,a1⟩:=q8y (xs:=[V.str (g++Ab "x"),V.str (Ab "aAbB19-"),V.str NSs]) l2 (by simpa using l3);refine .inl ⟨km,_,r4,x,rfl,rfl,SqL.of (b5.at q0c b2),a1,?_⟩;obtain⟨h,rfl,h0,h1,h2⟩:=gm3 g0 g1 g2 (Ar a0);have c8:=(a7.same sm).fd I.feed b5;have c9:=(b1.same sm).fd I.feed b5;have fdA':=I.trans b5;clear a0 a1 a7 b1 b5 I Y b2 sm;show X8 _ _ _;refine gY k9 λX9 l4=>?_;refine⟨_,rfl,_,rfl,_,rfl,a,b,h,(m3:Int),rfl,fdA'.feed,h0,h1,h2,by lia,by lia,λZ zs HB c3 hZ rl hl len sh=>?_⟩;have d0:=c8.fd fdA'.feed c3;have d1:=c9.fd fdA'.feed c3;have l5:Z≠a:=(fdA'.feed.na hZ).symm;have fdB':=fdA'.trans c3;show X9 _ _ _;refine gY l4 λY1 l6=>?_;refine⟨_,rfl,_,rfl,a,b,2,rfl,fdB'.feed,by decide,by decide,λr5 HC n9 o0 b6=>.inl ⟨rfl,?_⟩⟩;generalize decide (V.int r5=V.int 1)=bl;have d2:=d0.fd fdB'.feed b6;have d3:=d1.fd fdB'.feed b6;have e3:=rl.fd fdB'.feed b6 l5;have fdC':=fdB'.trans b6;have a2:=hlAny hl bl;clear c8 c9 d0 d1 rl c3 b6 fdB' fdA' hZ;generalize J:zs.map (·.2)=rows at hl a2;have o1:rows.length=zs.length:=by rw[<- J,Ae]
  intro B dx hh e4 n';refine⟨B,dx,Z,bl,zs,rfl,q0c,j0x e3 hh e4,by rw[J];exact a2,by lia,λd H7 hd i1 i2 i3=>⟨rfl,?_⟩⟩;obtain⟨s7,_⟩:=x3b hh e4 hd i3;have e5:HallAt c H7 B d bl (zs.map (·.2)):=⟨⟨dx,i1⟩,i2⟩
  rw[J] at e5;have O:=fdC'.same s7;have R:=d2.same s7;have W:=d3.same s7;have g8:=e3.same s7;clear i1 i2 i3 hd e4 n' hh s7 d2 d3 e3 fdC';show Y1 _ _ _;subst l6;refine⟨by show 0<=sizeLine;decide,λp0 g9=>⟨by show 1<=sizeLine;decide,λD1 b0=>?_⟩⟩;have sp:=(Same.refl H7).new (o:=.tup []) g9;have h3:upd H7 p0 (.tup []) p0=some (.tup (vP [])):=q0c;have sq:=sp.new (o:=.lst [.ref p0]) b0;have e6:upd (upd H7 p0 (.tup [])) D1 (.lst [.ref p0]) p0=some (.tup (vP [])):=((Same.refl _).new (o:=.lst [.ref p0]) b0) _ _ h3;have e7:upd (upd H7 p0 (.tup [])) D1 (.lst [.ref p0]) D1=some (.lst [.ref p0]):=q0c;generalize upd (upd H7 p0 (.tup [])) D1 (.lst [.ref p0])=H8 at sq e6 e7;clear sp h3;have c4:=g8.same sq;refine⟨_,rfl,.inl ⟨Z,rfl,⟨_,SqL.of c4.at_⟩,λDc e8=>?_⟩⟩;refine q3v (xs:=zs.map λz=>V.ref z.1) (λj ys H'=>∃ds:List (Addr×Pth),ys=ds.map (λz=>V.ref z.1)/\Same H8 H'/\H' Dc=some (.lst ys)/\ds.length<=j/\j<=zs.length/\∀z∈ds,H' z.1=some (.tup (vP z.2))/\(z.2,none)∈rows) ⟨[],rfl,(Same.refl H8).new e8,q0c,Aj _,Ba _,(λ_ h=>nomatch h)⟩ (λj ys H' x=>by obtain⟨ds,_,s',h',_⟩:=x;exact⟨h',SqL.of (s' _ _ c4.at_)⟩) ?_ ?_
  ·rintro j ys H9 v hv ⟨ds,rfl,s9,a9,b7,_,a3⟩;obtain⟨z,hz,rfl⟩:=refAt hv;have hj:j<zs.length:=(Ap.mp hz).1;have h4:=Ar hz;have l7:z.2∈rows:=by rw[<- J];exact Az.mpr ⟨z,h4,rfl⟩
   obtain⟨p,p1,p2⟩:=(c4.same s9).pr z h4;refine⟨z.1,_,rfl,SqT.of p1,rfl,_,_,rfl,_,_,rfl,rfl,q5n,_,rfl,_,rfl,?_⟩;refine ite2 (λe=>?_) (λe=>⟨ds,rfl,s9,a9,Dy b7,hj,a3⟩);have hm:z.2.2=none:=mV_none.mp (of_decide_eq_true e);have nt:∀{x:Addr} {xs:List V},H9 x=some (.tup xs)->upd H9 Dc (.lst (ds.map (λz=>V.ref z.1)++[.ref p])) x=some (.tup xs):=λ{x xs} e=>by rw[q0g (q4q e a9)];exact e
   refine⟨_,rfl,a9,small' (by rw[Ae];lia),ds++[(p,z.2.1)],by rw[Bb];rfl,s9.put e8,q0c,by rw[Af];exact Gj b7,hj,λx B=>?_⟩;rcases Au.mp B with B|B
   ·exact⟨nt (a3 x B).1,(a3 x B).2⟩
   ·rw[Ao.mp B];exact⟨nt p2,by rw[<- hm];exact l7⟩
  rintro ys H9 ⟨ds,rfl,s9,a9,b7,_,a3⟩;rw[Ae] at b7;refine⟨_,rfl,.inr (.inl ⟨Dc,_,rfl,SqL.of a9,λDs e9=>?_⟩)⟩;have f1:∀x∈cutV (ds.map λz=>V.ref z.1) none (some 2),∃z∈ds,x=V.ref z.1:=λx B=>by
   unfold cutV at B;obtain⟨z,hz,rfl⟩:=Az.mp (Oj (En B));exact⟨z,hz,rfl⟩
  have h5:(cutV (ds.map λz=>V.ref z.1) none (some 2)).length<=17:=by
   unfold cutV;rw[Cg,Ca,Ae];lia
  generalize cutV (ds.map λz=>V.ref z.1) none (some 2)=cs at f1 h5 e9;have sA:=(Same.refl H9).new (o:=.lst cs) e9;refine .inr (.inr ⟨D1,Ds,_,_,rfl,rfl,sA _ _ (s9 _ _ e7),q0c,small (by show 1+cs.length<=_;lia),λDr l8=>?_⟩);have sB:=sA.new (o:=.lst ([V.ref p0]++cs)) l8;have a6:upd (upd H9 Ds (.lst cs)) Dr (.lst ([V.ref p0]++cs)) Dr=some (.lst ([V.ref p0]++cs)):=q0c;generalize upd (upd H9 Ds (.lst cs)) Dr (.lst ([V.ref p0]++cs))=HX at sB a6;have h6:∀x∈[V.ref p0]++cs,∃p q,x=V.ref p/\HX p=some (.tup (vP q))/\Low q/\(q=[]\/(q,none)∈rows):=λx B=>by
   rcases Au.mp B with B|B
   ·rw[Ao.mp B];exact⟨p0,[],rfl,sB _ _ (s9 _ _ e6),(λ_ h=>nomatch h),.inl rfl⟩
   ·obtain⟨z,hz,rfl⟩:=f1 x B;exact⟨z.1,z.2,rfl,sB _ _ (a3 z hz).1,(a2.ok _ (a3 z hz).2).low,.inr (a3 z hz).2⟩
  have b8:=(sq.trans s9).trans sB;have h7:=e5.same b8;have l9:=O.same b8;have b9:=R.same b8;have c2:=W.same b8;generalize [V.ref p0]++cs=xs at a6 h6;clear sA sB f1 h5 e9 a9 a3 b7 s9 c4 g8 sq e6 e7 e8 b0 g9 e5 O R W b8;have m0:=λ{H':Hp} {S:Addr} (e:H' S=some (.tup [.str kd,.str (mk l0),.str (mk (flatP u)),.int 3]))=>q8i (K:=K) (st:=3) b9.ok (by decide) f9 g3 e;have m1:=λ{H':Hp} {S:Addr} (e:H' S=some (.tup [.str kd,.str (mk l1),.str (mk (flatP G)),.int 3]))=>q8i (K:=K) (st:=3) c2.ok (by decide) f9 (λz=>g3 (j7 z)) e;refine .inl ⟨Dr,rfl,⟨_,SqL.of a6⟩,?_⟩;refine q1x (xs:=xs) (λj D H'=>∃y1 y2 y3,D=[some (.ref sc),some (.ref a),some (.int (0+(i:Int))),some (.str g),some (.ref R0),some (.ref R1),some (.str kd),some (.int (m3:Int)),some (.str h),some (.ref Z),some (.ref B),y1,y2,y3]/\Same HX H') ⟨_,_,_,rfl,Same.refl HX⟩ (λj D H' _ ⟨_,_,_,_,sm⟩=>SqL.of (sm _ _ a6)) ?_ ?_;rotate_left
  ·rintro D H' ⟨y1,y2,y3,rfl,sm⟩;subst f5;exact⟨_,_,_,_,_,_,_,_,_,_,_,_,rfl,l9.same sm⟩
  rintro j x D HY m2 ⟨y1,y2,y3,rfl,sm⟩;obtain⟨p,q,rfl,hp,lq,hq⟩:=h6 _ (Ar m2);refine gE λD3 Y2 m4 m5=>?_;refine⟨_,rfl,_,rfl,_,rfl,_,rfl,.inr (.inl ⟨R0,_,1,_,rfl,rfl,SqT.of (b9.same sm).at_,rfl,_,rfl,.inr (.inl ⟨R0,_,2,_,rfl,rfl,SqT.of (b9.same sm).at_,rfl,by show 4<=sizeLine;decide,λU hU=>?_⟩)⟩)⟩;have sU:=sm.new (o:=.tup [.str kd,.str (mk l0),.str (mk (flatP u)),.int 3]) hU;have cU:CRule K (upd HY U (.tup [.str kd,.str (mk l0),.str (mk (flatP u)),.int 3])) U (mkN kd l0 u 3):=m0 q0c;generalize upd HY U (.tup [.str kd,.str (mk l0),.str (mk (flatP u)),.int 3])=HU at sU cU;refine⟨B,d,p,U,bl,rows,q,mkN kd l0 u 3,rfl,h7.same sU,a2,by lia,sU _ _ hp,lq,hq,cU.at_,cU.ok,λsr T1 HV c5 sV dV=>?_⟩;have sV':=sU.trans sV;show Y2 _ _ _;refine gY m5 λY3 m6=>?_;refine⟨_,rfl,_,rfl,_,rfl,_,rfl,.inr (.inl ⟨R1,_,1,_,rfl,rfl,SqT.of (c2.same sV').at_,rfl,_,rfl,.inr (.inl ⟨R1,_,2,_,rfl,rfl,SqT.of (c2.same sV').at_,rfl,by show 4<=sizeLine;decide,λU' h8=>?_⟩)⟩)⟩;have sW:=sV'.new (o:=.tup [.str kd,.str (mk l1),.str (mk (flatP G)),.int 3]) h8;have i0:=(Same.refl HV).new (o:=.tup [.str kd,.str (mk l1),.str (mk (flatP G)),.int 3]) h8;have cW:CRule K (upd HV U' (.tup [.str kd,.str (mk l1),.str (mk (flatP G)),.int 3])) U' (mkN kd l1 G 3):=m1 q0c;generalize upd HV U' (.tup [.str kd,.str (mk l1),.str (mk (flatP G)),.int 3])=HW at sW cW i0;refine⟨B,d,p,U',bl,rows,q,mkN kd l1 G 3,rfl,h7.same sW,a2,by lia,sW _ _ hp,lq,hq,cW.at_,cW.ok,λo2 T2 HZ i4 sZ dZ=>?_⟩;rw[Srt.one a2 i4 c5] at dZ;have i5:sow rows [mkN kd l1 G 3] (sr.filter (benB q)) f0 []=sow rows [mkN kd l0 u 3] (sr.filter (benB q)) f0 []:=by
   refine(z7k (r:=mkN kd l0 u 3) (q:=mkN kd l1 G 3) rfl rfl λx B c=>?_).symm;have f2:x∈rows:=c5.1.mem_iff.mp (Bt.mp B).1;have i6:=q5w (a2.ok x f2);have i7:(x.1.getLastD []).length<=m3:=by
    rw[<- J] at f2;obtain⟨z,hz,rfl⟩:=Az.mp f2;have:=sh z hz;lia
   rw[z7j cU.nc _ c 0,z7j cW.nc _ c 0];have:=e2 _ i6.one i7 i6.all;rw[<- k3,<- k4] at this;exact this
  rw[i5] at dZ;have lo:LwS (sow rows [mkN kd l0 u 3] (sr.filter (benB q)) f0 []):=z5t (rs:=[mkN kd l0 u 3]) (λr M=>by rw[Ao.mp M];exact cU.ok) (b:=0) (λr M=>a2.ok r (c5.1.mem_iff.mp (Bt.mp M).1)) (λ_ _=>Aj _) (by have h1:=c5.1.length_eq;have h2:=Di (benB q) sr;lia) λ_ h=>nomatch h;have m7:=i0.trans sZ;have dV':=dV.same m7;generalize sow rows [mkN kd l0 u 3] (sr.filter (benB q)) f0 []=X at dV' dZ lo;have m8:=sW.trans sZ;show Y3 _ _ _;subst m6;refine⟨λbb H'=>bb=false/\Same HX H',?_,?_⟩
  ·rintro bb H' ⟨rfl,s'⟩;subst m4;exact iteF ⟨_,_,_,rfl,s'⟩
  refine⟨_,rfl,by show 1<=sizeLine;decide,λU2 m9=>?_⟩;have s2:=(Same.refl HZ).new (o:=.tup [.str (Ab "other")]) m9;refine .inr ⟨_,_,(dV'.same s2).dt,.tup (SqT.of q0c) (.cons (.str _) .nil),(x6m lo).1,by trivial,Ay (Xy _ _) (x6m lo).2,_,rfl,?_⟩;rw[j1a];refine iteB (λz=>by cases z) (λ_=>?_);exact⟨_,rfl,_,rfl,ne_due (dZ.same s2) (dV'.same s2) lo ⟨_,rfl,rfl,m8.trans s2⟩⟩
end
end K
namespace K
open PySem L2 TX SB HM
def df_mk{oc}{kV j pm g ct}(X:K.In h)(G:h.Ns Cr mg)(a:Ia K Cr x=some (some (.ref f)))(l:K.lookup f=some ⟨oc,u,.func (Ij x x (defArgs st) (defBody st) (defScope st) .none kV j pm o g ct),s⟩)(c:Lk K g x=true)(k:Fy K (.ref f)=true)(v:∀(kV j pm)  o  (g ct)  us ,us.length=ps.length->bindArgs (Ij x x (defArgs st) (defBody st) (defScope st) .none kV j pm o g ct) ⟨us,[]⟩=pure (ps.zip us)):Df K mg x st ps :=
 ⟨f,_,q7e l c k,Nl X G a,(q7e (st:=st) l c k).binds v⟩
def mf_mk{oc}{kV j pm h ct}(a:Ck K (.ref C) m=some (some (.ref f)))(l:K.lookup f=some ⟨oc,u,.func (Ij m g (defArgs st) (defBody st) (defScope st) .none kV j pm o h ct),s⟩)(c:Lk K h g=true)(k:Fy K (.ref f)=true)(i:Xk K (.ref f)=true)(v:∀(kV j pm)  o  (h ct)  us ,us.length=ps.length->bindArgs (Ij m g (defArgs st) (defBody st) (defScope st) .none kV j pm o h ct) ⟨us,[]⟩=pure (ps.zip us)):Mf K C m g st ps :=
 ⟨⟨f,_,q7e l c k,⟨a,i,k⟩,(q7e (st:=st) l c k).binds v⟩⟩
structure Eb (K) (mg:Str->Option Value) (D) (mc):Prop where
 gl:mg "HallError" = some (.ref D)
 base:EBase K D
 ini:EIni K D mc
 hn:Pd K (.builtin "object.__class__") "__get__" = some (some (.builtin "getset_descriptor.__get__"))
 htk:Yg K (.builtin "object.__class__")=some true
def eb_mk(X:K.In h)(G:h.Ns Cr mg){oc j}(g:Ia K Cr "HallError" = some (some (.ref D)))(l:K.lookup D=some (Fg nm o D N bs bmV true u sub v f B C E F H I "ValueError.__new__"))(n:K.lookup N=some ⟨oc,L,.dict J M,O⟩)(s:J.toList.all strKey=true)(i:Ia K N "__init__" = some none)(sp:Pd K (.ref D) "__getattribute__" = some (some (.builtin "type.__getattribute__")))(P:W.typeIn K (.ref D)=some j)(rd:W.readsIn K D j=true)(fc:W.findCls K (.ref D) j "__init__" = some (.val (.builtin "ValueError.__init__")))(hn:Pd K (.builtin "object.__class__") "__get__" = some (some (.builtin "getset_descriptor.__get__")))(htk:Yg K (.builtin "object.__class__")=some true):Eb K mg D j :=
 ⟨Nl X G g,⟨nm,o,N,bs,u,sub,v,f,B,C,E,F,H,I,l,z6p n s,i⟩,⟨sp,rd,fc⟩,hn,htk⟩
structure Ec (K) (mg:Str->Option Value) (x) (C D) (qual) (st) (ps):Prop where
 gl:mg x=some (.ref C)
 ex:∃f fd,Fun K "__init__" qual st f fd/\ELaw K C D f/\Binds K fd ps []
 sa:Ck K (.ref C) "__setattr__" = some (some (.builtin "object.__setattr__"))
 ga:Ck K (.ref C) "__getattribute__" = some (some (.builtin "BaseException.__getattribute__"))
 gh:Ck K (.ref C) "__getattr__" = some none
 ha:Ck K (.ref C) "__class__" = some (some (.builtin "object.__class__"))
section
variable{K:Ai}{mg:Str->Option Value}{x:Str}{C D:Addr}{qual:Str}{st:Stmt}{ps:List Str}{mc:Value}{f:Str}
def Ec.ef(E:Ec K mg x C D qual st ps)(B:Eb K mg D mc):Ef K mg x C D qual st ps:=by
 obtain⟨f,fd,g,h,j⟩:=E.ex;exact⟨⟨f,fd,mc,g,h,B.base,B.ini,j⟩,E.gl⟩
def Ec.set(E:Ec K mg x C D qual st ps)(tk:Ck K (.ref C) f=some none):ESet K C f:=by
 obtain⟨_,_,_,h,_⟩:=E.ex;exact h.set E.sa tk
def Ec.get(E:Ec K mg x C D qual st ps)(tk:Ck K (.ref C) f=some none):EGet K C f:=by
 obtain⟨_,_,_,h,_⟩:=E.ex;exact h.get E.ga E.gh tk
def Ec.cls(E:Ec K mg x C D qual st ps):ECls K C (.ref D::bmV):=by
 obtain⟨_,_,_,h,_⟩:=E.ex;exact h.cls
def ec_mk(X:K.In h)(G:h.Ns Cr mg){f}{oc}{j kV Z pm R ct}(g:Ia K Cr x=some (some (.ref C)))(l:K.lookup C=some (Fg nm E C N bs (.ref D::bmV) true F sub H f I J L M O P "ValueError.__new__"))(n:K.lookup N=some ⟨oc,U,.dict Q W,Y⟩)(s:Q.toList.all strKey=true)(i:Ia K N "__init__" = some (some (.ref fi)))(B:K.lookup fi=some ⟨j,o,.func (Ij "__init__" qual (defArgs st) (defBody st) (defScope st) .none kV Z pm u R ct),v⟩)(S:Lk K R qual=true)(T:Fy K (.ref fi)=true)(ti:j=.type "function")(kp:Fy K (.ref C)=true)(sa:Ck K (.ref C) "__setattr__" = some (some (.builtin "object.__setattr__")))(ga:Ck K (.ref C) "__getattribute__" = some (some (.builtin "BaseException.__getattribute__")))(gh:Ck K (.ref C) "__getattr__" = some none)(ha:Ck K (.ref C) "__class__" = some (some (.builtin "object.__class__")))(hb:∀(kV doc pm)  u  (cdv ct)  us ,us.length=ps.length->bindArgs (Ij "__init__" qual (defArgs st) (defBody st) (defScope st) .none kV doc pm u cdv ct) ⟨us,[]⟩=pure (ps.zip us)):Ec K mg x C D qual st ps :=
 ⟨Nl X G g,⟨fi,_,q7e B S T,⟨⟨nm,E,N,bs,F,sub,H,f,I,J,L,M,O,P,l,z6p n s,i⟩,⟨_,B,ti⟩,kp⟩,(q7e (st:=st) B S T).binds hb⟩,sa,ga,gh,ha⟩
end
def len_1{f:List Value}(h:f.length=1):∃g,f=[g]:=List.length_eq_one_iff.mp h
def len_2{f:List Value}(h:f.length=2):∃g j,f=[g,j]:=by
 obtain⟨a,r,rfl⟩:=Hi h;obtain⟨o,rfl⟩:=len_1 (Rq h);exact⟨a,o,rfl⟩
def len_3{f:List Value}(h:f.length=3):∃g j o,f=[g,j,o]:=by
 obtain⟨a,r,rfl⟩:=Hi h;obtain⟨s,u,rfl⟩:=len_2 (Rq h);exact⟨a,s,u,rfl⟩
def len_4{f:List Value}(h:f.length=4):∃g j o s,f=[g,j,o,s]:=by
 obtain⟨a,r,rfl⟩:=Hi h;obtain⟨u,v,B,rfl⟩:=len_3 (Rq h);exact⟨a,u,v,B,rfl⟩
def all_mk{j:Yi}{w:World}{K:Ai}{h:Heap}{mg:Str->Option Value}{fa:Addr}(X:K.In h)(G:h.Ns Cr mg)(m1:mg "law" = some (.ref fa)){j5:Addr}{k0 j0:Option Addr}{k1:Array (Option Value)}{k2 j1 j2 j3 g0 j4:Value}{O:Addr}{m2:Value}{F:Addr}{f:Addr}{B:Addr}{d1 d2:Option Addr}{d3:Array (Option Value)}{d4 d5 d6 d7 a1 d8:Value}{a2:Addr}{g1:Option Addr}{g2:Array (Option Value)}{g3:Nat}{dC:Addr}{ep:Nat}{m3 m4 m5 m6:Tok}{dK:Addr}{m7:Nat}{m8:Option Addr}{m9:Array (Option Value)}{k3 k4 k5:Tok}{dO:Addr}{n0:Nat}{n1:Option Addr}{n2:Array (Option Value)}{k6 k7 k8 k9 l0:Tok}{dS:Addr}{n3:Nat}{n4:Option Addr}{n5:Array (Option Value)}{l1 l2 l3:Tok}(f5:Df K mg "all_of" q7w Zs)(e9:Df K mg "is_name" q5y Y6)(g4:Df K mg "alike" z1s Zd)(b5:Df K mg "ask_signs" q3y Zv)(a6:Df K mg "text_parts" q3i Y6)(d9:Df K mg "parts_of" q5a Zv)(g6:Df K mg "asked" z0t Z7)(f6:Df K mg "end_of" q7x Za)(a7:Df K mg "read_count" q3j Z1)(R:Df K mg "read_noughts" q2p Z2)(b6:Df K mg "read_more" q4a Z2)(e0:Df K mg "read_gap" q5b Z2)(b7:Df K mg "read_mark" q4d Z1)(b8:Df K mg "read_into" q4c Z1)(b9:Df K mg "read_text" q4b Z1)(a8:Df K mg "read_piece" q3k Z1)(c0:Df K mg "pieces_of" q4e Yo)(f1:Df K mg "ask_gap" q5s Zw)(c3:Df K mg "ask_piece" q4f Zg)(e1:Df K mg "ask_rule" q5c Zz)(c4:Df K mg "gap_takes" q3z Zq)(g7:Df K mg "takes" z0s Ym)(I:Df K mg "furthest_ends" q2j Zl)(J:Df K mg "ends_of_parts" q2k Y7)(f2:Df K mg "reading" q5r Y0)(S:Df K mg "with_noughts" q2q Zu)(e2:Df K mg "gap_text" q5d Y8)(a9:Df K mg "piece_text" q3l Ze)(g8:Df K mg "tells" z0z Z8)(b0:Df K mg "ask_pieces" q3m Zz)(f3:Df K mg "text_of" q5t Zz)(e3:Df K mg "signs_of" q5e Zd)(c5:Df K mg "ask_bound" q4g Yn)(a3:Df K mg "other_signs" q3a Y9)(U:Df K mg "longer_names" q2s Zy)(e4:Df K mg "compared" q5f Zp)(Z:Df K mg "rows_beneath" q2t Y5)(f7:Df K mg "is_for" q8l Y4)(b1:Df K mg "told_texts" q3q Z9)(e5:Df K mg "place_of" q5h Zi)(c6:Df K mg "wishes_of" q4i Zo)(h9:Df K mg "_law_draw" z5a Z4)(b2:Df K mg "_law_name_signs" q3h [])(i0:Df K mg "_law_text" z5b Z3)(g9:Df K mg "_law_signs" z1f Yp)(f8:Df K mg "_law_shapes" q8f Zb)(i1:Df K mg "_law_most" z5k Zk)(i2:Df K mg "_law_rule" z5n Zc)(f9:Df K mg "_law_varied" q8j Zf)(b3:Df K mg "_law_short_rows" q3o Z5)(h0:Df K mg "_law_found" z1u Z6)(n6:Ia K Cr "law" = some (some (.ref j5)))(n7:K.lookup j5=some ⟨k2,k0,.func (Ij "law" "law" (defArgs q4j) (defBody q4j) (defScope q4j) .none j1 j2 j3 j0 g0 j4),k1⟩)(n8:Lk K g0 "law" = true)(n9:Fy K (.ref j5)=true)(T:Txt mg)(E0:Eb K mg O m2)(g:Ec K mg "NoPlace" F O "NoPlace.__init__" q1v Zh)(u:Ck K (.ref F) "path" = some none)(o:Ck K (.ref F) "texts" = some none)(i3:Ia K Cr "Hall" = some (some (.ref f)))(h1:Qq K f Vi=true)(h2:Mm K f=true)(h3:Wo K f=true)(h4:Ck K (.ref f) "__setattr__" = some (some (.builtin "object.__setattr__")))(a4:Ck K (.ref f) "blind" = some none)(a5:Ck K (.ref f) "marks" = some none)(i4:Ck K (.ref f) "__init__" = some (some (.ref B)))(i5:K.lookup B=some ⟨d4,d1,.func (Ij "__init__" "Hall.__init__" (defArgs q1f) (defBody q1f) (defScope q1f) (.ref a2) d5 d6 d7 d2 a1 d8),d3⟩)(i6:Lk K a1 "Hall.__init__" = true)(m0:Fy K (.ref B)=true)(i7:Xk K (.ref B)=true)(h5:Ye K f=true)(h6:Fy K (.ref f)=true)(f4:K.lookup a2=some ⟨.type "tuple",g1,.seq #[.bool false] g3,g2⟩)(d0:Mf K f "is_drawer" "Hall.is_drawer" q2e Zx)(a0:Mf K f "is_one_place" "Hall.is_one_place" q1t Zj)(i8:Mf K f "rows" "Hall.rows" q4h ["self"])(h7:Mf K f "there" "Hall.there" q3p Yk)(gC:Ia K Cr "CASES" = some (some (.ref dC)))(lC:K.lookup dC=some ⟨.type "dict",none,.dict #[⟨Pa w.params (Ab "u"),.str (Ab "u") m3,.str (Ab "great") m4⟩,⟨Pa w.params (Ab "l"),.str (Ab "l") m5,.str (Ab "small") m6⟩] ep,#[]⟩)(gK:Ia K Cr "KINDS" = some (some (.ref dK)))(lK:K.lookup dK=some ⟨.type "tuple",m8,.seq #[.str (Ab "slip") k3,.str (Ab "drawer") k4,.str (Ab "all") k5] m7,m9⟩)(gO:Ia K Cr "OF_A_GAP" = some (some (.ref dO)))(lO:K.lookup dO=some ⟨.type "tuple",n1,.seq #[.str (Ab "gap") k6,.str (Ab "great") k7,.str (Ab "small") k8,.str (Ab "noughts") k9,.str (Ab "more") l0] n0,n2⟩)(gS:Ia K Cr "SORTS" = some (some (.ref dS)))(lS:K.lookup dS=some ⟨.type "tuple",n4,.seq #[.str (Ab "0123456789") l1,.str (Ab "abcdefghijklmnopqrstuvwxyz") l2,.str (Ab "-_.") l3] n3,n5⟩):
  ∃fd,(∀ s   v ,Ta s fd ⟨[v],[]⟩ [("_law_script",v)])/\∀base,K.In base->base.Ns Cr mg->FnOk j.prog w K mg base CX0 13 fa fd ["_law_script"] (spLaw K):=by
 have e:=m1.symm.trans (Nl X G n6);cases e;have h8:=E0.base;have b4:=E0.gl;have e6:=g.ef E0;have L:=g.set u;have M:=g.get u;have C:=g.set o;have D:=g.get o;have e7:=g.gl;have e8:Cls K f:=⟨h1,h2,h3,h4⟩
 have i9:Kf K mg f "Hall" "Hall.__init__" q1f Zn:=⟨⟨B,_,d4,d1,.ref a2,d5,d6,d7,d2,a1,d8,d3,rfl,i5,i6,⟨h5,i4,i7,h6⟩,λs us Y hl=>by obtain⟨_,_,_,rfl⟩:=len_3 (by rw[Cd] at hl;exact hl:us.length=3);exact W.binds_K Y rfl f4 rfl rfl rfl,λs us Y hl=>by obtain⟨_,_,rfl⟩:=len_2 (by rw[Af] at hl;exact Rq hl:us.length=2);exact W.binds_K Y rfl f4 rfl rfl rfl⟩,Nl X G i3,e8⟩
 have FL:=q7e (st:=q4j) n7 n8 n9;refine⟨Ij "law" "law" (defArgs q4j) (defBody q4j) (defScope q4j) .none j1 j2 j3 j0 g0 j4,λs v=>.of_eq rfl,λbase _ _=>?_⟩;have hk:Hk K f:=⟨e8,a4,a5⟩
 have c1:=x9r (P:=j.prog) (w:=w) (base:=base) h9 T;have c2:=x9t (P:=j.prog) (w:=w) (base:=base) i0 T c1;have C1:Calls1 j.prog w K mg base:=⟨z3m b5 T,z0r a6 T⟩
 have l4:=x1t (P:=j.prog) (w:=w) (base:=base) f5 T;have CA:CallsA j.prog w K mg base:=⟨l4⟩
 have CB:CallsB j.prog w K mg base:=⟨z3o c4 T CA⟩
 have CC:CallsC j.prog w K mg base:=⟨x5c g7 T CB⟩
 have CD:CallsD j.prog w K mg base:=⟨q6j I T CC⟩
 have j6:=z5c (P:=j.prog) (w:=w) (base:=base) d9 T C1;have CE:CallsE j.prog w K mg base:=⟨j6,q6k J T CD⟩
 have j7:=x5e (P:=j.prog) (w:=w) (base:=base) g6 T;have CT:CallsT j.prog w K mg base:=⟨j7,x1u f6 T⟩
 have CU:CallsU j.prog w K mg base:=⟨j7,q7y R T CT,z3p b6 T CT,⟨dC,Nl X G gC,x5g lC⟩⟩
 have CV:CallsV j.prog w K mg base:=⟨j7,z0u a7 T CT,z5d e0 T CU⟩
 have CW:CallsW j.prog w K mg base:=⟨z3t b7 T CV,z3s b8 T,z3q b9 T CT⟩
 have CX:CallsX j.prog w K mg base:=⟨z0x a8 T CW⟩
 have j8:=z3u (P:=j.prog) (w:=w) (base:=base) c0 T CX;have CR:CallsR j.prog w K mg base:=⟨z8n f1 T,⟨dO,Nl X G gO,λH=>.inr ⟨_,_,_,lO,rfl,rfl,by show 5<=sizeLine;decide,.cons ⟨_,rfl⟩ (.cons ⟨_,rfl⟩ (.cons ⟨_,rfl⟩ (.cons ⟨_,rfl⟩ (.cons ⟨_,rfl⟩ .nil))))⟩⟩⟩
 have CS:CallsS j.prog w K mg base:=⟨j6,j8,z3v c3 T CR,⟨dK,Nl X G gK,λH=>.inr ⟨_,_,_,lK,rfl,rfl,by show 3<=sizeLine;decide,.cons ⟨_,rfl⟩ (.cons ⟨_,rfl⟩ (.cons ⟨_,rfl⟩ .nil))⟩⟩⟩
 have l5:=q8a (P:=j.prog) (w:=w) (base:=base) S T;have CG:CallsGT j.prog w K mg base:=⟨z5f e2 T l5,l5⟩
 have j9:=z5e (P:=j.prog) (w:=w) (base:=base) e1 T CS;have o0:CallsTl j.prog w K mg base:=⟨j9,z8m f2 T CE,j8,z0y a9 T CG⟩
 have l6:=x5l (P:=j.prog) (w:=w) (base:=base) g8 T o0;have l7:CallsAP j.prog w K mg base:=⟨j8,j6⟩
 have o1:=z1a (P:=j.prog) (w:=w) (base:=base) b0 T l7;have o2:=z8r (P:=j.prog) (w:=w) (base:=base) f3 T l7;have o3:=z5h (P:=j.prog) (w:=w) (base:=base) e3 T o2;have o4:=z3z (P:=j.prog) (w:=w) (base:=base) c5 T;have o5:=q8r (P:=j.prog) (w:=w) (base:=base) a3 T (Nl X G gS) (λH=>.inr ⟨_,_,_,lS,rfl,rfl,by show 3<=sizeLine;decide,.cons ⟨_,rfl⟩ (.cons ⟨_,rfl⟩ (.cons ⟨_,rfl⟩ .nil))⟩);have o6:=x2e (P:=j.prog) (w:=w) (base:=base) U T o5;have o7:=z5j (P:=j.prog) (w:=w) (base:=base) e4 T ⟨j9,o1,o3,o4,o6,x2g l6⟩;have l8:=z0p (P:=j.prog) (w:=w) (base:=base) b2;have o8:=x5v (P:=j.prog) (w:=w) (base:=base) g9 T l8;have o9:=x2l (P:=j.prog) (w:=w) (base:=base) f8 T o8;have p0:=j0l (P:=j.prog) (w:=w) (base:=base) i1 T ⟨c1,o9⟩;have p1:=j0p (P:=j.prog) (w:=w) (base:=base) i2 T ⟨c1,c2⟩;have p2:=x2t (P:=j.prog) (w:=w) (base:=base) f9 T c1;have s1:=z1r (P:=j.prog) (w:=w) (base:=base) b3 T ⟨c1,c2⟩;have c7:=x6g (P:=j.prog) (w:=w) (base:=base) g4 T;have c8:=z4c (P:=j.prog) (w:=w) (base:=base) a0 hk T c7;have c9:=x6h (P:=j.prog) (w:=w) (base:=base) h7 hk T c8;have p3:=j0w (P:=j.prog) (w:=w) (base:=base) i9 hk T c9;have p4:=x6i (P:=j.prog) (w:=w) (base:=base) i8 hk T;have l9:=z4g (P:=j.prog) (w:=w) (base:=base) d0 hk T;have p5:=z8u (P:=j.prog) (w:=w) (base:=base) e9 T l4;have eN:=q8m (P:=j.prog) (w:=w) (base:=base) e6 b4 L C;have p6:=q8n (P:=j.prog) (w:=w) (base:=base) Z T p4;have p7:=x3d (P:=j.prog) (w:=w) (base:=base) f7 T;have p8:=z1t (P:=j.prog) (w:=w) (base:=base) b1 T ⟨p7,l6⟩;have p9:=z5s (P:=j.prog) (w:=w) (base:=base) e5 T ⟨l9,p5,eN⟩;have q1:=z4h (P:=j.prog) (w:=w) (base:=base) c6 T ⟨j9,l9,p6,p8,p9⟩;have q2:=x6n (P:=j.prog) (w:=w) (base:=base) h0 T ⟨q1,e7,g.cls,M,D⟩;have CL:CallsL j.prog w K mg base f:=⟨c1,l8,p1,p2,p0,o7,s1,p3,q2⟩
 exact FL.ok sc_law (λvs H Q E h=>by obtain⟨a,ns,rfl,_⟩:=h;rfl) (λq3 A outer s H vs Q E hr h=>x6o T CL _ q3 A outer s H vs Q E hr h)
def walk{l:Yi}{loose}{K:Params->Ai}(hn:l.most=some 63)(g:d.params.defaults=[])(j:∀ w   h ,YP w h->(K w.params).In h)(F:∀ w   mg   fa   h ,(K w.params).In h->h.Ns Cr mg->mg d.name=some (.ref fa) ->
   ∃fd,(∀ s   u ,Ta s fd ⟨[u],[]⟩ [("_law_script",u)])/\∀base,(K w.params).In base->base.Ns Cr mg->FnOk l.prog w (K w.params) mg base CX0 13 fa fd ["_law_script"] (spLaw (K w.params))):
  W.WalkO q loose XP YP l.row.toRowW d [] (λf vs=>Xp f vs) :=
 L2.walk_of (n:=63) (k:=13) (x := "_law_script") (CX:=λ_=>CX0) (sp:=λw=>spLaw (K w.params)) hn (by decide) g ⟨rfl,by decide,by decide,rfl⟩ j F (λ_ _ a ns hl _ o=>⟨a,ns,rfl,o,hl,λ_=>rfl⟩) λ_ _ _ _ _ z=>z
end K
open PySem PySem.W PyProof.Rows
set_option maxRecDepth 100000 in
set_option maxHeartbeats 0 in
theorem PySem.Challenge.cw_renamehall_k92_whole_alike_rules_alike_w_holds : PySem.Challenge.rw_renamehall_k92_whole_alike_rules_alike_w.Holds := by
  w_on; o_law; refine holds_open (q := K.vw) (loose := K.loose) (Xt := K.xt) (XP := XL K.vw []) (Yf := Hook.obs (kHook K.pre.heap_39 K.zas (λ_ => by kernel_rfl))) (Ya := Hook.val (kHook K.pre.heap_39 K.zas (λ_ => by kernel_rfl))) (YP := Hook.says (kHook K.pre.heap_39 K.zas (λ_ => by kernel_rfl))) (N := 60000) ?hl (Hook.of (kHook K.pre.heap_39 K.zas (λ_ => by kernel_rfl))) (Hook.keeps (kHook K.pre.heap_39 K.zas (λ_ => by kernel_rfl))) (λs e => xl_of s (Ol.mp e).1) XL.keeps (by rfl) (by rfl) (by rfl) (λs e => recFacts_of (Ol.mp e).2) (by rfl) (by first | assumption | decide +kernel) (by decide +kernel) ⟨rfl, rfl, rfl, rfl, rfl, by decide +kernel⟩ ?hw ?hc
  (case hw => w_witness2)
  (case hl =>
    refine HD.left2 "special-get-raises" (by kernel_rfl) (by rfl) (λ_ => by kernel_rfl) λb => ?_
    cases b
    · exact λw os => K.half0 w os
    · exact λw os => K.half1 w os)
  k_fill
  refine K.walk (l := PySem.Challenge.rw_renamehall_k92_whole_alike_rules_alike_w) rfl rfl (λw h Y => PySem.W.kIn_of Y) ?F
  case F =>
    intro w mg fa h KX G hmg
    refine' K.all_mk KX G hmg ?_ ?_ ?_ ?_ ?_ ?_ ?_ ?_ ?_ ?_ ?_ ?_ ?_ ?_ ?_ ?_ ?_ ?_ ?_ ?_ ?_ ?_ ?_ ?_ ?_ ?_ ?_ ?_ ?_ ?_ ?_ ?_ ?_ ?_ ?_ ?_ ?_ ?_ ?_ ?_ ?_ ?_ ?_ ?_ ?_ ?_ ?_ ?_ ?_ ?_ ?_ ?_ ?_ ?_ ?_ ⟨mg_none_of KX G ?_, mg_none_of KX G ?_, mg_none_of KX G ?_, mg_none_of KX G ?_, mg_none_of KX G ?_, mg_none_of KX G ?_, mg_none_of KX G ?_, mg_none_of KX G ?_, mg_none_of KX G ?_, mg_none_of KX G ?_, mg_none_of KX G ?_, mg_none_of KX G ?_, mg_none_of KX G ?_, mg_none_of KX G ?_, mg_none_of KX G ?_, ⟨_, mg_of KX G ?_⟩, ⟨_, mg_of KX G ?_⟩, ⟨_, mg_of KX G ?_⟩, ⟨_, mg_of KX G ?_⟩, ⟨_, mg_of KX G ?_⟩, ⟨_, mg_of KX G ?_⟩, ⟨_, mg_of KX G ?_⟩, ⟨_, mg_of KX G ?_⟩, ⟨_, mg_of KX G ?_⟩, ⟨_, mg_of KX G ?_⟩, ⟨_, mg_of KX G ?_⟩, ⟨_, mg_of KX G ?_⟩⟩ (K.eb_mk KX G ?_ ?_ ?_ ?_ ?_ ?_ ?_ ?_ ?_ ?_ ?_) (K.ec_mk KX G ?_ ?_ ?_ ?_ ?_ ?_ ?_ ?_ ?_ ?_ ?_ ?_ ?_ ?_ ?_) ?_ ?_ ?_ ?_ ?_ ?_ ?_ ?_ ?_ ?_ ?_ ?_ ?_ ?_ ?_ ?_ ?_ (K.mf_mk ?_ ?_ ?_ ?_ ?_ ?_) (K.mf_mk ?_ ?_ ?_ ?_ ?_ ?_) (K.mf_mk ?_ ?_ ?_ ?_ ?_ ?_) (K.mf_mk ?_ ?_ ?_ ?_ ?_ ?_) ?_ ?_ ?_ ?_ ?_ ?_ ?_ ?_
    all_goals try refine' K.df_mk KX G ?_ ?_ ?_ ?_ ?_
    all_goals try (first | k_is | kit_is | rfl | decide +kernel | (intro _ _ _ _ _ _ us hl; first | (obtain ⟨_, rfl⟩ := K.len_1 hl; rfl) | (obtain ⟨_, _, rfl⟩ := K.len_2 hl; rfl) | (obtain ⟨_, _, _, rfl⟩ := K.len_3 hl; rfl) | (obtain ⟨_, _, _, _, rfl⟩ := K.len_4 hl; rfl) | (obtain ⟨_, _, _, _, _, rfl⟩ := K.len_5 hl; rfl) | (cases us with | nil => rfl | cons _ _ => cases hl)))
