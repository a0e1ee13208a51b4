import PyProof.Rows.All
import Wide.All
import OpenK.AllK
import Wide.FinOn
import Lean
import PyProof.EqAt
import PyProof.EqKinds
import PyProof.TupleCall
import PySem.Challenge.RW_renamehall_k39_whole_rules_put
import KE.IntTextLaws
import KE.KIsAll
import PyProof.ExcArgsOwn
import PyProof.ExcBaseAll.ValueError
import PyProof.ExcClass2
import PyProof.ExcInit
import PyProof.InstStore
import PyProof.Rows.CatchBare
import PyProof.Rows.CatchOwn
import PyProof.StationsW
import PyProof.SumWalk
import PyProof.ReprRoads
set_option Elab.async false
set_option linter.all false
set_option maxRecDepth 100000
local macro_rules|`(tactic|trivial)=>`(tactic|first|exact Or.inl rfl|exact Or.inr rfl|fail)
local macro_rules|`(tactic|trivial)=>`(tactic|first|(refine⟨rfl,rfl,rfl,?_,rfl,?_,?_⟩<;>decide +kernel)|fail)
theorem gR0{α β:Type}{f:α->β}{l:List α}{i:Nat}{v:β}(h:(l.map f)[i]?=some v):∃z,l[i]?=some z/\v=f z:=by
 rw[List.getElem?_map] at h;cases e:l[i]? with
 |none=>rw[e] at h;cases h
 |some z=>rw[e] at h;cases h;exact⟨z,rfl,rfl⟩
open Array renaming getElem?_eq_some_iff→Eh,getElem?_eq_getElem→Ep,length_toList→Gn,forIn_toList→Il,getElem?_toList→Mh,find?_toList→Nv,getD_eq_getD_getElem?→Od,perm_iff_toList_perm→Oo,toList_map→Px,getElem?_eq_none→Qv,mem_toList_iff→Ry,append_assoc→Th
open Array.Perm renaming refl→Wg
open Bool renaming false_eq_true→Az,false_ne_true→Bh,not_true→Cs,and_self→Di,not_false→Jc,and_eq_true→Jh,eq_iff_iff→Mq,true_and→Ot,false_and→Rb,and_eq_true_iff→Sn,or_false→Ss,or_true→Ue
open Int renaming toNat_natCast→Hh,emod_lt_of_pos→Ko,emod_nonneg→Mx,le_refl→Qw
open List renaming length_map→Ag,length_append→Ai,map_cons→An,mem_cons_of_mem→Ao,getElem?_eq_some_iff→Aq,mem_singleton→Ar,mem_cons_self→As,mem_append→Au,map_append→Av,size_toArray→Aw,mem_of_getElem?→Ay,mem_map→Ba,length_singleton→Bc,length_cons→Bf,getElem?_map→Bi,getElem?_append_left→Bj,mem_cons→Bk,getElem?_eq_getElem→Bl,mem_append_right→Bw,find?_cons→Cf,map_map→Ck,getElem?_append_right→Cr,length_pos_iff→Cw,mem_append_left→Cy,length_drop→De,append_nil→Dm,length_take→Dq,dropLast_concat_getLast→Dw,take_length→Ea,nodup_cons→En,not_mem_nil→Ew,take_of_length_le→Fp,getD_eq_getElem?_getD→Fv,getLast?_eq_some_getLast→Gk,drop_length→Gr,length_nil→Ha,length_dropLast→Hq,getLast?_eq_getElem?→Hr,take_succ→Hu,filter_cons_of_neg→Ic,filter_cons_of_pos→Ie,flatten_cons→Ir,append_assoc→Iv,lookup_cons→Ji,mem_of_mem_take→Jk,getElem?_eq_none_iff→Jv,foldl_cons→Jx,getLastD_eq_getLast?→Ka,filter_append→Kp,zip_cons_cons→Kr,pairwise_cons→Kt,contains_cons→Kv,take_add_one→Li,drop_of_length_le→Lw,any_cons→Lx,all_eq_true→Lz,length_replicate→Md,getElem?_set_ne→Mn,filterMap_cons→Nh,replicate_succ→Ni,drop_zero→Nn,take_zero→Nq,getElem?_drop→Oi,nodup_append→Pa,drop_eq_getElem_cons→Pj,pairwise_singleton→Qf,mem_filter→Qh,of_mem_zip→Qj,forIn_cons→Qk,getElem?_set_self→Qn,nodup_nil→Rj,take_append_drop→Rk,dropLast_eq_take→Rp,length_filter_le→Ru,mem_of_mem_drop→Sh,dropLast_concat→Sm,all_cons→Su,map_take→Sx,length_reverse→Sz,mem_filterMap→Tn,filterMap_map→Tu,zip_nil_right→Tz,take_sublist→Uk,reverse_cons→Um,zip_nil_left→Uu,mapM_toArray→Uv,cons_append→Vk,filter_cons→Vl,zipIdx_cons→Vp,getLast_mem→Vs,nil_append→Wh,any_append→Wl
open Nat renaming le_refl→Aj,le_trans→Bb,ne_of_lt→Bd,zero_le→Be,lt_of_lt_of_le→Bm,ne_of_gt→Dk,le_succ_of_le→Fi,lt_irrefl→Fq,le_of_lt→Hv,lt_succ_self→Hw,sub_self→Ia,lt_succ_of_lt→Iu,not_lt→Jm,le_of_eq→Kh,le_succ→Lo,lt_of_le_of_lt→Ny,sub_zero→Pw,lt_or_ge→Qb,min_le_right→Qc,succ_le_succ→Qd,le_of_ble_eq_true→Rt,mul_le_mul_right→Sk,pow_le_pow_right→Sl,add_le_add_left→Ta,min_self→Tw
open Ne renaming symm→Ca
open Option renaming map_eq_some_iff→Dc,map_some→Jy,isSome_iff_exists→Kj,isSome_map→Lg,getD_none→Vh,bind_some→Vr
open Option.some renaming inj→Bs
open Prod renaming ext→Pu
open PyProof.Rows renaming wpS_bind→Ci,callWith_type1→Dg,slot_tuple_getitem→Dh,wpS_pure→Ds,envOfC→Gp,StrsAre→Ig,SortSt→Ik,get?_update_seq→Jd,lo1→Jn,wpS_forRange→Kq,listItems_at→Ks,AllBare→Kw,SortKind→Mb,callWith_builtin1→Ms,mirror→Mz,seqObj→Nc,pendingOf→Ql,subscriptTail_builtinR→Qr,mirror_perm→Qx,wpS_reverse→Qy,wpS_get→Ro,Constant_none→So,listUpdate_at→Sw,lt_str→Tb,args_tuple_getitem→Tv,IntsAre→Ug,tuples'→Uh,seqEpoch_at→Ve,failedOf→Vn,wpS_mono→Vo,Subscript_→Vy,wpS_modify→Wf
open PyProof.Rows.IsTup renaming new→Wt
open PySem renaming wpAny_bind→Ab,wpAny_pure→Ad,Shared→Af,starEach→Ax,NameKind→Bg,wpAny_field→Bp,wpAny_call_entry→Bq,boot_len→Br,wpAny_mono→Bx,wpAny_newObj_type→By,wpAny_callSpecial?_slot→Cd,compareOp→Cg,mainGlobals→Cj,wpAny_holding→Cm,wpAny_setField_rec→Ct,sysModules→Cu,Builtin→Cv,Paired→Dj,rawInt→Dl,wpAny_truthy_bool→Du,wpAny_standAt→Dv,tupleKeyHash→Dx,excClassObj→Dy,wpAny_isInstance→Dz,wpAny_attempt→Eg,wpAny_seqItems→Ei,backTo→Em,tupleKind_room_in1→Ex,wpAny_forIn_list→Ez,sizeLine_eq→Fe,wpAny_rule→Ff,importedModules→Fm,mem_of_lookup→Fo,codeAny→Fw,wpAny_Call_Name_kw→Fy,binaryOp→Ga,compEnvC→Gb,wpAny_specialOf→Gd,wpAny_typeNameOfWhole_itemiter→Ge,wpAny_loadPart_at→Gh,attributeBase→Gi,wpAny_typeNameOfWhole_keyiter→Gj,wpAny_setField→Gq,bootBuiltins→Gv,codeAny_mono→Gw,wpAny_typeOf→Gx,wpAny_tupleItemsOf→Gy,wpAny_passesOwn→Gz,builtinLookup_eq_fast→Hb,codeAny_builtin→Hc,isSubtype_tuple_tuple→Hd,behindInMarks→Hf,wpAny_dictEntries→Hi,codeAny_call_builtin→Hn,wpAny_typeNameOf_itemiter→Ho,strIterType→Ht,wpAny_typeNameOf_keyiter→Hy,swapsWith→Ii,wpAny_dictEpoch→Ij,keywordEach→Io,pyNext→Iw,isSubtype_type→Iz,assignEach→Jf,wpAny_call→Jg,wpAny_callSpecialIfBoundUnlessNone?_slot→Jl,find?_eq_fast→Jo,plainId_quiet→Jp,holding→Jq,sliceBounds→Jr,wpAny_of_eq→Js,wpAny_isSubtype_exc→Ju,wpAny_execs_nil→Jw,typeLookup_type→Jz,tupleKind→Kc,DictEntry→Kg,FuncData→Ki,wpAny_comprehension_free→Kn,isSubtype_stop→Kx,intText?→Ky,OsState→La,foldedSetIterable→Lf,pyIter→Lm,IsPart→Lq,IsPair→Ls,wpAny_Assign_Subscript→Lu,wpAny_isOneOf_itemiter→Lv,backToKw→Ly,wpAny_Dict_empty→Ma,getMethod→Mc,wpAny_notOrdered_dict→Me,plainObj_wpAny_Assign_Attribute→Mi,Within→Ml,letOwnedTupleGo→Mo,call_meets→Mt,wpAny_updateSeq_pair→Mu,callSpecialIfBoundUnlessNone?→Ng,standAt→Nj,wpAny_newTuple→Nl,wpAny_fieldsOf→Nm,wpAny_letGo→Nu,wpAny_setItem_heap→Oa,wpAny_richCompare_same_room→Oe,eqIsQuiet→Of,treeTable→Oh,wpAny_onRaise→Om,wpAny_assign_Name→Ou,wpAny_pyIter_list→Ow,wpAny_pyIter_slot→Ox,eqIsQuiet_byValue→Oz,entryOfKey→Pb,typeLookup→Pf,callerA→Pk,wpAny_execs_cons→Pl,wpAny_lookBehind→Pn,pastItsLine_dict→Po,noFill_tuple_add→Pr,wpAny_updateSeq→Qm,wpAny_pyNext_list_item→Qo,seqIndex_of→Qp,subscripted→Qq,wpAny_getItem_list_neg→Qs,wpAny_isTrue_Compare1→Ra,wpAny_pyNext_list_end→Rc,wpAny_loadPart→Rf,BindsTo→Rg,Keyword→Rh,exec_Assign_Name_used→Ri,firstArgMember→Rl,wpAny_isOneOf_keyiter→Rn,OwnTail→Rr,wpAny_loadName_local→Rx,callWith→Rz,typeIs_str→Sa,PlainAttrs→Sb,wpAny_newFunctionEnv→Se,entryFor→Sg,reduceHash→Si,GenState→Sj,seq_tuple_add→Sr,wpAny_handled→Sv,wpAny_loadName_cell→Sy,inplaceOp→Ti,PassesOwn→Tj,wpAny_nsSet1→Tp,concat_meets→Tt,wpAny_pyHash_tuple→Ub,wpAny_eqBool_tuple→Uc,ExcBaseFacts→Ud,wpAny_sequenceKey→Ul,wpAny_pyIter_strU→Uq,wpAny_pyIter_enum→Ur,wpAny_cRoomFor_or→Uy,wpAny_throw→Vd,wpAny_Name→Vt,wpAny_load→Vu,typeIs_int→Wa,call→Wc,closureFor→Wd,IsTupleKey→Wj,refuseLoop→Wk,getAttr→Wm,setAttr→Wn
open PySem.Around renaming under_plainId→Gf,under→Pq
open PySem.AutoSeq1 renaming wpAny_loadPart'→Nb
open PySem.Builtin.Dict renaming showsAll→Mg
open PySem.Builtin.Dict_items renaming ownsTuple→Jb,ownedTupleFields→Kz
open PySem.Builtin.List renaming listItems→Gu,listTooLong→Km,listSameRef→Py
open PySem.Builtin.Slice renaming slicePlaces→Hm,sliceAdjust→Pe
open PySem.Builtin.SmallTypes renaming nextOf→Pg
open PySem.Builtin.Str renaming occurrences→Gm,strSliceIndices→Je
open PySem.Builtin.Tuple renaming tupleHashOf→Cz,tupleItemsOf→Hg
open PySem.Calls renaming callWith_builtin→Lr,spliced_cons→Nw,Name_function_global→Oj,evalArgs_plain→Sd,spliced_nil→Uj
open PySem.Code renaming quiet_builtin→Ob,isFrame→Tr
open PySem.F renaming plainAttrs_list→Bu,slot_list_append→Cp,type_list_append→Cq,plainAttrs_str→Ej,slot_dict_itemiterator_next→Et,slot_dict_keyiterator_next→Fg,slot_tuple_hash→Fj,slot_tuple_eq→He,plain_extend_loop→Ib,slot_str_lower→Ip,type_str_lower→Iq,slot_enumerate_next→Iy,slot_list_reversed→Jj,args_tuple_add_2→Kl,slot_list_getattribute→Ku,entry_tuple_add→Le,slot_tuple_add→Lp,args_dict_itemiterator_next_1→Mj,slot_zip_next→Mw,args_dict_keyiterator_next_1→My,entry_dict_itemiterator_next→Na,entry_dict_keyiterator_next→Nf,excBase_ValueError→Oq,slot_dict_getitem→Ph,slot_list_extend→Pz,type_list_extend→Qa,args_enumerate_next_1→Qe,plainAttrs_dict→Qg,entry_enumerate_next→Qu,slot_dict_items_iter→Qz,slot_dict_get→Rq,entry_extend_loop→Tc,args_tuple_hash_1→Td,entry_tuple_hash→Ua,args_zip_next_1→Uo,plain_list_iadd→Ux,args_tuple_eq_2→Uz,entry_zip_next→Vj,slot_dict_iter→Vm,entry_tuple_eq→Vq,slot_int_rmul→Wb
open PySem.Heap renaming get?_push_of_some→Ae,get?_push_size→Ak,lt_size→Al,get?_update_other→Cb,get?_update_self→Es,SameBut→Eu,size_push→Fx,get?_none_of_le→Mm,ExtBut→Qt
open PySem.Heap.Ns1 renaming of_empty→Ui
open PySem.Heap.SameBut renaming update→Jt,refl→Oy
open PySem.NumText renaming digitsVal→Ek
open PySem.Obj renaming data_mapFields→Ey,mapFields→Fu,mapSeq→Gs,isFreed_of_fields→Ja,cls_mapFields→Ut
open PySem.Paired renaming length→Ed
open PySem.PassesOwn renaming never→Bt
open PySem.PyData renaming canLayAll0→Bo,strOk→Ce,canLay0→Co,depthAll→Fl,eqv→Ft,depthAll→Fz,canLayAll0→Hj,eqvAll→Ih,shownAll→Kb,canLay0→Lb,depth→Nd,keyHash→Np,depth→Oc,showableAll→Og,hasDictAll→Va
open PySem.SeqAt renaming EqAt→Eo
open PySem.SeqAt.EqAt renaming str_str→Nx,int_str→Tf,str_int→Tg,same→Vz
open PySem.Str renaming ofString→Ac,join→Sf,empty→Tq
open PySem.StrLaws renaming sliceText→Gg,sliceText_nat→Rm
open PySem.Txt renaming lower→Im,slice→Nz,join→Vi,slice→We,rjustF→Wi
open PySem.W renaming Frag→Ah,findIn→Bv,emptyDict→Dp,keepIn→Fh,fnOf→Hx,nsIn→Hz,instObj→Ke,codeIn→Kk,hasDictIn→Ln,Frag→Mp,callWith_K→Mr,looks_findIn→Nk,mg_of→Nr,specialIn→Nt,looks_clsIn→Ol,plainGet→Pd,InstAt→Pm,methodCall_KW→Qi,plainGet_of→Sq,plainOver→Vb,set_plain→Vc,lookIn→Vf,cellsFrom_some→Vg,handedIn→Vv,isFn→Vx,clsIn→Wo,takerIn→Wq,makesIn→Wr,takesIn→Ws,OpenLaw→Wu
open PySem.W.Fast renaming te10110043849684766642→Lc,te14364793385576792824→Ld,te4187177175401517315→Lj,te5923862056798008813→Ll
open PySem.W.Looks renaming here→To
open PySem.Within renaming cons→Ov
namespace L2
open PySem PySem.Spec PyProof.Rows
abbrev Key:=Sum Int Str
def keyIs:Key->Value->Bool
 |.inl k,v=>Value.isInt k v
 |.inr x,v=>Value.isStrOf x v
def keyH(w:World):Key->Int
 |.inl k=>hashInt k
 |.inr x=>hashStr w x
theorem q1e:∀{k:Key} {v:Value},keyIs k v=true->(∃i t,k=Sum.inl i/\v=Value.int i t)\/(∃x t,k=Sum.inr x/\v=Value.str x t)
 |.inl i,v,h=>by
  obtain⟨t,e⟩:=Value.isInt_shape (k:=i) (v:=v) h;exact .inl ⟨i,t,rfl,e⟩
 |.inr x,v,h=>by
  obtain⟨t,e⟩:=Value.isStrOf_shape h;exact .inr ⟨x,t,rfl,e⟩
theorem z5q(i:Int)(t:Tok):keyIs (.inl i) (.int i t)=true:=by simp[keyIs,Value.isInt]
theorem q5p(x:Str)(t:Tok):keyIs (.inr x) (.str x t)=true:=by simp[keyIs,Value.isStrOf]
theorem key_ll(a b:Int):decide ((Sum.inl a:Key)=Sum.inl b)=(a==b):=by grind
theorem key_rr(a b:Str):decide ((Sum.inr a:Key)=Sum.inr b)=decide (a=b):=by grind
theorem key_lr(a:Int)(b:Str):decide ((Sum.inl a:Key)=Sum.inr b)=false:=decide_eq_false (fun q=>nomatch q)
theorem key_rl(a:Str)(b:Int):decide ((Sum.inr a:Key)=Sum.inl b)=false:=decide_eq_false (fun q=>nomatch q)
def mixKind(prog:Program)(w:World):PySem.KeyKind prog w Key where
 is:=keyIs
 hash:=keyH w
 inj:=fun v a b ha hb=>by
  rcases q1e ha with⟨i,t,rfl,rfl⟩|⟨x,t,rfl,rfl⟩
  ·rcases q1e hb with⟨j,u,rfl,e⟩|⟨y,u,rfl,e⟩
   ·injection e with e1 _;rw[e1]
   ·exact nomatch e
  ·rcases q1e hb with⟨j,u,rfl,e⟩|⟨y,u,rfl,e⟩
   ·exact nomatch e
   ·injection e with e1 _;rw[e1]
 byValue:=fun k v h=>by
  rcases q1e h with⟨i,t,rfl,rfl⟩|⟨x,t,rfl,rfl⟩<;>rfl
 pyHash:=fun hv h=>by
  rcases q1e hv with⟨i,t,rfl,rfl⟩|⟨x,t,rfl,rfl⟩
  ·exact wpAny_pyHash_int h
  ·exact wpAny_pyHash_str h
 eqBool:=fun hu hv h=>by
  rcases q1e hu with⟨i,t,rfl,rfl⟩|⟨x,t,rfl,rfl⟩
  ·rcases q1e hv with⟨j,u,rfl,rfl⟩|⟨y,u,rfl,rfl⟩
   ·rw[key_ll] at h;exact wpAny_eqBool_int h
   ·rw[key_lr] at h;exact Tf i t y u _ _ _ _ h
  ·rcases q1e hv with⟨j,u,rfl,rfl⟩|⟨y,u,rfl,rfl⟩
   ·rw[key_rl] at h;exact Tg x t j u _ _ _ _ h
   ·rw[key_rr] at h;exact wpAny_eqBool_str h
 «strs» := fun k x t v h=>by
  rcases q1e h with⟨i,u,rfl,e⟩|⟨y,u,rfl,e⟩
  ·exact nomatch e
  ·injection e with e1 _
   subst e1
   cases v<;>rfl
theorem z1r(prog:Program)(w:World)(i:Int)(t:Tok):(mixKind prog w).is (.inl i) (.int i t)=true:=z5q i t
theorem z1s(prog:Program)(w:World)(x:Str)(t:Tok):(mixKind prog w).is (.inr x) (.str x t)=true:=q5p x t
inductive V where
 |non|bl (b:Bool)|int (i:Int)|str (x:Str)|byt (b:Array UInt8)|flt (b:UInt64)|ref (a:Addr)|ty (n:String)
 deriving DecidableEq
def RelV:V->Value->Prop
 |.non,u=>u=Value.none
 |.bl b,u=>u=Value.bool b
 |.int i,u=>∃t,u=Value.int i t
 |.str x,u=>∃t,u=Value.str x t
 |.byt b,u=>∃t,u=Value.bytes b t
 |.flt b,u=>∃t,u=Value.float b t
 |.ref a,u=>u=Value.ref a
 |.ty n,u=>u=Value.type n
abbrev Vals:List V->List Value->Prop:=Dj RelV
theorem Vals.length(r:Vals xs us):xs.length=us.length:=Ed r
theorem Vals.get:∀{xs:List V} {us:List Value} {i:Nat} {x:V},Vals xs us->xs[i]?=some x->∃u,us[i]?=some u/\RelV x u
 |_,_,_,_,.nil,e=>by simp at e
 |_,_,0,_,.cons r _,e=>by simp at e;subst e;exact⟨_,rfl,r⟩
 |_,_,i+1,x,.cons _ t,e=>by
  obtain⟨u,h1,h2⟩:=Vals.get (i:=i) (x:=x) t (by simpa using e);exact⟨u,by simpa using h1,h2⟩
theorem Vals.set{x:V}{u:Value}(r:RelV x u):∀{xs:List V} {us:List Value} (i:Nat),Vals xs us->Vals (xs.set i x) (us.set i u)
 |_,_,_,.nil=>.nil
 |_,_,0,.cons _ t=>.cons r t
 |_,_,i+1,.cons q t=>.cons q (Vals.set r i t)
theorem Vals.append:∀{xs ys:List V} {us ws:List Value},Vals xs us->Vals ys ws->Vals (xs++ys) (us++ws)
 |_,_,_,_,.nil,s=>s
 |_,_,_,_,.cons r t,s=>.cons r (Vals.append t s)
theorem Vals.take:∀{xs:List V} {us:List Value} (n:Nat),Vals xs us->Vals (xs.take n) (us.take n)
 |_,_,0,_=>.nil
 |_,_,_+1,.nil=>.nil
 |_,_,n+1,.cons r t=>.cons r (Vals.take n t)
theorem Vals.drop:∀{xs:List V} {us:List Value} (n:Nat),Vals xs us->Vals (xs.drop n) (us.drop n)
 |_,_,0,r=>r
 |_,_,_+1,.nil=>.nil
 |_,_,n+1,.cons _ t=>Vals.drop n t
def RelO:Option V->Option Value->Prop
 |some v,some u=>RelV v u
 |none,none=>True
 |_,_=>False
def KV{κ:Type}:List (κ×V)->List (κ×Value)->Prop:=Dj fun(p:κ×V) (q:κ×Value)=>p.1=q.1/\RelV p.2 q.2
def kV:Key->V
 |.inl i=>.int i
 |.inr x=>.str x
inductive HO where
 |lst (xs:List V)
 |tup (xs:List V)
 |dK (kvs:List (Key×V))|dT (kvs:List (List Key×V))
 |set (S:Int->Bool) (n:Nat)
 |ins (C dx:Addr) (fs:List (Str×V))
 |own (x:Addr)
 |xd (fs:List (Str×V))
 |met (f x:Addr)
 |rng (lo hi:Int)
 |frz (o:Obj) (u:HO)
 |tbl (ps:Array Value)
 |ext (φ:Heap->Prop)
abbrev Hp:=Addr->Option HO
def upd(H:Hp)(a:Addr)(o:HO):Hp:=fun b=>if b=a then some o else H b
theorem q0c:upd H a o a=some o:=by unfold upd;rw[if_pos rfl]
theorem q0f(h:b≠a):upd H a o b=H b:=by unfold upd;rw[if_neg h]
theorem x3i:upd (upd H a o) a u=upd H a u:=by
 funext b;unfold upd;split<;>rfl
theorem z5r{H:Hp}(h:H a=some o)(h':H b=some u)(d:o≠u):a≠b:=by grind
theorem q0n{H:Hp}(h:H a=some o)(h':H b=none):a≠b:=by
 intro e;subst e;rw[h] at h';cases h'
section
variable(P:Program)(w:World)
def ObjOk(H:Hp)(h:Heap)(a:Addr):HO->Prop
 |.lst xs=>xs.length<=sizeLine/\∃(its:List Value) (n:Nat),Vals xs its/\h.get? a=some { cls:=.type "list",data:=.seq its.toArray n }
 |.tup xs=>xs.length<=sizeLine/\∃its:List Value,Vals xs its/\IsTup h a its.toArray
 |.dK kvs=>kvs.length<=sizeLine/\(a==Cu)=false/\∃vs,KV kvs vs/\h.DictOf (mixKind P w) a vs
 |.dT kvs=>kvs.length<=sizeLine/\(a==Cu)=false/\∃xs:List (List Key×Addr×Value),
   Dj (fun(p:List Key×V) (q:List Key×Addr×Value)=>p.1=q.1/\H q.2.1=some (.tup (p.1.map kV))/\RelV p.2 q.2.2) kvs xs /\
   ∃o es ep,h.get? a=some o/\o.ExactDict/\o.data=.dict es ep/\es.toList=xs.map (Pb (Kc (mixKind P w)))/\(xs.map (·.1)).Nodup
 |.set S n=>h.SetOf (intKind P w) a S n
 |.ins C dx fs=>H dx=some (.own a)/\fs.length<=1000/\dx≠a/\h.get? a=some (Ke C dx) /\
   ∃mA,h.Ns1 dx mA/\(∀f,RelO (fs.lookup f) (mA f))/\Ml mA (fs.map (·.1))
 |.own _=>∃o,h.get? a=some o
 |.xd fs=>∃mA,h.Ns1 a mA/\∀f,RelO (fs.lookup f) (mA f)
 |.rng lo hi=>∃t u v,h.get? a=some { cls:=.type "range",data:=.fields #[.int lo t,.int hi u,.int 1 v] }
 |.frz o u=>h.get? a=some o/\ObjOk H h a u
 |.tbl ps=>h.get? a=some { cls:=.none,data:=.fields ps }
 |.met f x=>h.get? a=some (W.methodObj (.ref f) (.ref x))
 |.ext φ=>φ h/\(∃o,h.get? a=some o)/\∀h1 h2:Heap,φ h1->(∀o,h1.get? a=some o->h2.get? a=some o)->φ h2
def HOk(H:Hp)(h:Heap):Prop:=∀a o,H a=some o->ObjOk P w H h a o
end
section
variable{P:Program}{w:World}{H H':Hp}{h h':Heap}{a:Addr}{o:HO}
theorem ObjOk.lt(x:ObjOk P w H h a o):a<h.objs.size:=by
 cases o with
 |lst xs=>obtain⟨_,_,_,_,e⟩:=x;exact Al e
 |tup xs=>obtain⟨_,_,_,p⟩:=x;exact p.lt
 |dK kvs=>obtain⟨_,_,_,_,o,_,_,e,_⟩:=x;exact Al e
 |dT kvs=>obtain⟨_,_,_,_,o,_,_,e,_⟩:=x;exact Al e
 |set S n=>obtain⟨o,_,_,_,e,_⟩:=x;exact Al e
 |ins C dx fs=>obtain⟨_,_,_,e,_⟩:=x;exact Al e
 |own y=>obtain⟨_,e⟩:=x;exact Al e
 |xd fs=>obtain⟨_,⟨_,_,_,e,_⟩,_⟩:=x;exact Al e
 |rng lo hi=>obtain⟨_,_,_,e⟩:=x;exact Al e
 |frz ob u=>obtain⟨e,_⟩:=x;exact Al e
 |tbl ps=>exact Al (show h.get? a=some _ from x)
 |met f y=>exact Al (show h.get? a=some _ from x)
 |ext φ=>obtain⟨_,⟨_,e⟩,_⟩:=x;exact Al e
theorem Dj.mapP{α β:Type}{F G:α->β->Prop}:∀{l₁:List α} {l₂:List β},Dj F l₁ l₂->(∀a b,F a b->G a b)->Dj G l₁ l₂
 |_,_,.nil,_=>.nil
 |_,_,.cons r t,f=>.cons (f _ _ r) (Dj.mapP t f)
theorem Dj.imp'{F G:α->β->Prop}(f:∀a b,F a b->G a b){l₁:List α}{l₂:List β}(r:Dj F l₁ l₂):Dj G l₁ l₂:=Dj.mapP r f
theorem ObjOk.stay(x:ObjOk P w H h a o)(k:∀b u,(b=a\/H b=some (.own a))->h.get? b=some u->h'.get? b=some u)(ho:∀b,H b=some (.own a)->H' b=some (.own a))(ht:∀b xs,H b=some (.tup xs)->H' b=some (.tup xs)):ObjOk P w H' h' a o:=by
 induction o with
 |lst xs=>obtain⟨z,its,n,r,e⟩:=x;exact⟨z,its,n,r,k _ _ (.inl rfl) e⟩
 |tup xs=>obtain⟨z,its,r,ob,e,c⟩:=x;exact⟨z,its,r,ob,k _ _ (.inl rfl) e,c⟩
 |dK kvs=>obtain⟨z,y,vs,r,ob,es,ep,e,c⟩:=x;exact⟨z,y,vs,r,ob,es,ep,k _ _ (.inl rfl) e,c⟩
 |dT kvs =>
  obtain⟨z,y,xs,r,ob,es,ep,e,c⟩:=x;exact⟨z,y,xs,Dj.mapP r fun p q z=>⟨z.1,ht _ _ z.2.1,z.2.2⟩,ob,es,ep,k _ _ (.inl rfl) e,c⟩
 |set S n=>obtain⟨ob,es,ep,t,e,c⟩:=x;exact⟨ob,es,ep,t,k _ _ (.inl rfl) e,c⟩
 |ins C dx fs =>
  obtain⟨d,z,ne,e,mA,⟨od,es,ep,e2,c⟩,r⟩:=x;exact⟨ho _ d,z,ne,k _ _ (.inl rfl) e,mA,⟨od,es,ep,k _ _ (.inr d) e2,c⟩,r⟩
 |own y=>obtain⟨ob,e⟩:=x;exact⟨ob,k _ _ (.inl rfl) e⟩
 |xd fs=>obtain⟨mA,⟨od,es,ep,e,c⟩,r⟩:=x;exact⟨mA,⟨od,es,ep,k _ _ (.inl rfl) e,c⟩,r⟩
 |rng lo hi=>obtain⟨t,u,v,e⟩:=x;exact⟨t,u,v,k _ _ (.inl rfl) e⟩
 |frz ob u ih=>obtain⟨e,q⟩:=x;exact⟨k _ _ (.inl rfl) e,ih q⟩
 |tbl ps =>
  have e:h.get? a=some { cls:=.none,data:=.fields ps }:=x;exact k a _ (.inl rfl) e
 |met f y =>
  have e:=x;exact k a _ (.inl rfl) e
 |ext φ=>obtain⟨p,⟨o,e⟩,st⟩:=x;exact⟨st _ _ p fun o q=>k _ _ (.inl rfl) q,⟨o,k _ _ (.inl rfl) e⟩,st⟩
theorem HOk.lt(x:HOk P w H h)(e:H a=some o):a<h.objs.size:=(x a o e).lt
theorem HOk.fresh(x:HOk P w H h)(e:h.objs.size<=a):H a=none:=by
 cases q:H a with
 |none=>rfl
 |some u=>exact absurd (Bm (x.lt q) e) (Fq _)
theorem HOk.kept(x:HOk P w H h)(k:∀b u,h.get? b=some u->h'.get? b=some u):HOk P w H h':=fun a o e =>
 (x a o e).stay (fun b u _ q=>k b u q) (fun _ q=>q) fun _ _ q=>q
theorem HOk.laid(x:HOk P w H h)(k:∀b u,h.get? b=some u->h'.get? b=some u)(hp:h.objs.size<=a)(new:ObjOk P w (upd H a o) h' a o):HOk P w (upd H a o) h':=fun b u e=>by
 have hn:=x.fresh hp;by_cases hb:b=a
 ·subst hb;rw[q0c] at e;cases e;exact new
 ·rw[q0f hb] at e;exact(x b u e).stay (fun c v _ q=>k c v q) (fun c q=>by rw[q0f (q0n q hn)];exact q) fun c xs q=>by rw[q0f (q0n q hn)];exact q
end
def Rd(H:Hp)(a:Addr)(u:HO):Prop:=H a=some u\/∃o,H a=some (.frz o u)
theorem Rd.ok(r:Rd H a u)(x:HOk P w H h):ObjOk P w H h a u:=by
 rcases r with r|⟨o,r⟩
 ·exact x a u r
 ·obtain⟨_,q⟩:=x a _ r;exact q
def Mut:Option HO->Prop
 |some (.lst _)=>True
 |some (.dK _)=>True
 |some (.dT _)=>True
 |some (.set _ _)=>True
 |some (.ins _ _ _)=>True
 |some (.ext _)=>True
 |_=>False
section
variable{P:Program}{w:World}{H:Hp}{h h':Heap}{x e:Addr}{o':HO}
theorem HOk.write(ok:HOk P w H h)(mu:Mut (H x))(he:e=x\/H e=some (.own x))(k:∀b u,b≠e->h.get? b=some u->h'.get? b=some u)(heo:∃u,h'.get? e=some u)(new:ObjOk P w (upd H x o') h' x o'):HOk P w (upd H x o') h':=fun b u q=>by
 have nown:∀c y,H c=some (.own y)->c≠x:=fun c y r z=>by subst z;rw[r] at mu;exact mu
 have ntup:∀c xs,H c=some (.tup xs)->c≠x:=fun c xs r z=>by subst z;rw[r] at mu;exact mu
 by_cases hb:b=x
 ·subst hb;rw[q0c] at q;cases q;exact new
 ·rw[q0f hb] at q;by_cases hbe:b=e
  ·have q':H b=some (.own x):=by
    rcases he with z|z
    ·grind
    ·rw[hbe];exact z
   rw[q] at q';cases q';obtain⟨v,hv⟩:=heo;exact⟨v,by rw[hbe];exact hv⟩
  ·refine(ok b u q).stay (fun c v hc r=>k c v ?_ r) (fun c r=>by rw[q0f (nown c b r)];exact r) fun c xs r=>by rw[q0f (ntup c xs r)];exact r
   rcases hc with rfl|hc
   ·exact hbe
   ·grind
end
structure Un (fs ex:List Addr) (H H':Hp) (h h':Heap):Prop where
 keep:∀b o,h.get? b=some o->H b=none->b∉fs->b∉ex->h'.get? b=some o
 slot:∀b o,h.get? b=some o->H b=none->b∈fs->b∉ex->∃sl,h'.get? b=some { o with slots:=sl }
 free:∀b o,h.get? b=some o->H b=none->b∉ex->H' b=none
 there:∀b o,h.get? b=some o->b∉ex->∃o',h'.get? b=some o'
 tups:∀b xs,H b=some (.tup xs)->H' b=some (.tup xs)
 frzs:∀b o u,H b=some (.frz o u)->H' b=some (.frz o u)
 tbls:∀b ps,H b=some (.tbl ps)->∃more,H' b=some (.tbl (ps++more))
section
variable{fs fs' ex ex':List Addr}{H H1 H2:Hp}{h h1 h2 h':Heap}{a x e:Addr}{o:HO}
theorem Un.any(u:Un fs ex H H1 h h1)(q:h.get? b=some ob)(n:H b=none)(hx:b∉ex):∃sl,h1.get? b=some { ob with slots:=sl }:=by
 by_cases hb:b∈fs
 ·exact u.slot b ob q n hb hx
 ·exact⟨ob.slots,u.keep b ob q n hb hx⟩
theorem Un.kept(k:∀b u,h.get? b=some u->h'.get? b=some u):Un fs ex H H h h' :=
 ⟨fun b ob q _ _ _=>k b ob q,fun b ob q _ _ _=>⟨ob.slots,k b ob q⟩,fun _ _ _ n _=>n,fun b ob q _=>⟨ob,k b ob q⟩,fun _ _ q=>q,fun _ _ _ q=>q,fun _ ps q=>⟨#[],by rw[q];simp⟩⟩
theorem Un.refl:Un fs ex H H h h:=Un.kept fun _ _ q=>q
theorem Un.laid(k:∀b u,h.get? b=some u->h'.get? b=some u)(hp:h.objs.size<=a)(hn:H a=none):Un fs ex H (upd H a o) h h' where
 keep:=fun b u q _ _ _=>k b u q
 slot:=fun b u q _ _ _=>⟨u.slots,k b u q⟩
 free:=fun b u q n _=>by rw[q0f (Bd (Bm (Al q) hp))];exact n
 there:=fun b u q _=>⟨u,k b u q⟩
 tups:=fun b xs q=>by rw[q0f (q0n q hn)];exact q
 frzs:=fun b u xs q=>by rw[q0f (q0n q hn)];exact q
 tbls:=fun b ps q=>⟨#[],by rw[q0f (q0n q hn),q];simp⟩
theorem Un.write(mu:Mut (H x))(he:e=x\/H e=some (.own x))(k:∀b u,b≠e->h.get? b=some u->h'.get? b=some u)(heo:∃u,h'.get? e=some u):Un fs ex H (upd H x o) h h':=by
 have hx:∀b,H b=none->b≠x:=fun b n z=>by subst z;rw[n] at mu;exact mu
 have hb:∀b,H b=none->b≠e:=fun b n z=>by
  subst z;rcases he with r|r
  ·exact hx b n r
  ·rw[n] at r;cases r
 have hm:∀b u,H b=some u->¬Mut (some u)->b≠x:=fun b u q nm z=>by subst z;rw[q] at mu;exact nm mu
 refine⟨fun b u q n _ _=>k b u (hb b n) q,fun b u q n _ _=>⟨u.slots,k b u (hb b n) q⟩,fun b u q n _=>by rw[q0f (hx b n)];exact n,fun b u q _=>?_,
  fun b xs q=>by rw[q0f (hm b _ q fun z=>z)];exact q,fun b u xs q=>by rw[q0f (hm b _ q fun z=>z)];exact q,fun b ps q=>⟨#[],by rw[q0f (hm b _ q fun z=>z),q];simp⟩⟩
 by_cases hbe:b=e
 ·subst hbe;exact heo
 ·grind
end
def trk(h:Heap)(H:Hp):List Addr:=(List.range h.objs.size).filter fun a=>(H a).isSome
def hidT(h:Heap)(H:Hp):Heap:=W.hideAll h (trk h H)
theorem z5s(h:Heap)(H:Hp):(hidT h H).objs.size=h.objs.size:=W.hideAll_size _ _
theorem z9j(e:h.get? b=some o)(n:H b=none):(hidT h H).get? b=some o :=
 W.hideAll_get _ e fun hm=>by
  have q:=(Qh.mp hm).2;rw[n] at q;simp at q
theorem x3j(e:(hidT h H).get? b=some o):h.get? b=some o/\H b=none:=by
 have e':=W.of_hideAll (trk h H) e;refine⟨e',?_⟩;cases q:H b with
 |none=>rfl
 |some x =>
  have hm:b∈trk h H:=Qh.mpr ⟨List.mem_range.mpr (Al e'),by simp[q]⟩;have z:(hidT h H).get? b=none:=W.hideAll_none (trk h H) hm;rw[z] at e;cases e
def allNews(g h:Heap)(L:Addr):List (Addr×Obj):=(List.range h.objs.size).filterMap fun a=>if a=L\/(g.get? a).isSome=true then none else(h.get? a).map fun o=>(a,o)
def rest(g h:Heap)(L d:Addr):List (Addr×Obj):=(allNews g h L).filter fun p=>decide (p.1≠d)
open PySem PySem.Spec PyProof.Rows
structure Mod (K:Ah) (mg:Str->Option Value) (base:Heap):Prop where
 kin:K.In base
 glob:base.Ns Cj mg
 blt:∃mb,base.Ns builtinsNs mb/\∀x:Str,x ≠ "__name__" -> mb x=Gv x
 nolimit:base.NoLimit
structure Cx where
 prog:Program
 w:World
 K:Ah
 mg:Str->Option Value
 base:Heap
 A:Around
 N:List Str
 s₀:Af
 H₀:Hp
 env:Env
 outer:List Env
 stack:List Env
 ex:List Addr
 fn:Str->Bool
 calm:Bool
 pn:List (Addr×Obj)
 xe:Value->Af->Prop
def frs(l:List Env):List Addr:=l.filterMap (·.frame)
abbrev Cx.fs(X:Cx):List Addr:=frs X.outer
def Vis(sc:Scope)(x:Str):Prop:=sc.names.lookup x=some .local\/sc.names.lookup x=some .cell\/sc.names.lookup x=some .free
def Loc(sc:Scope)(x:Str):Prop:=sc.names.lookup x=some .local\/sc.names.lookup x=some .cell
def Look(env:Env)(h:Heap)(m:Str->Option Value)(x:Str)(u:Value):Prop :=
 (env.kindOf x=some .local/\m x=some u)\/((env.kindOf x=some .cell\/env.kindOf x=some .free)/\∃c,env.cells.lookup x=some c/\h.IsCell c (some u))
structure Cx.Ok (X:Cx):Prop where
 mod:Mod X.K X.mg X.base
 kind:X.env.scope.kind=.function
 glob:X.env.globals=Cj
 blt:X.env.builtins=builtinsNs
 above:X.s₀.heap.objs.size<=X.env.locals
 inj:∀x y c,X.env.cells.lookup x=some c->X.env.cells.lookup y=some c->x=y
 has:∀x,(X.env.kindOf x=some .cell\/X.env.kindOf x=some .free)->∃c,X.env.cells.lookup x=some c
 cab:∀x c,X.fn x=true->X.env.cells.lookup x=some c->X.s₀.heap.objs.size<=c
 hd:X.calm=true->X.A.handled=none
 frames:X.A.frames=some X.stack
 stk:X.stack=X.outer\/(X.stack=X.env::X.outer/\X.env.frame=some X.env.locals)
 exf:∀b∈X.ex,b≠X.env.locals/\∀x c,X.env.cells.lookup x=some c->c≠b
 bs:∀b o,X.base.get? b=some o->X.s₀.heap.get? b=some o/\X.H₀ b=none
 bsz:X.base.objs.size<=X.s₀.heap.objs.size
 noex:∀b o,X.base.get? b=some o->b∉X.ex
 exfs:∀b∈X.ex,b∉X.fs
 funs:X.s₀.heap.FunFrames X.base X.outer
 frf:∀b∈X.fs,X.H₀ b=none
structure Inv (X:Cx) (pins:List (Addr×Obj)) (σ:List (Option V)) (H:Hp) (s:Af):Prop where
 ok:X.Ok
 os:s.os=X.s₀.os
 bare:Kw s.gens
 base:Un X.fs X.ex X.H₀ H X.s₀.heap s.heap
 loc:∃m,s.heap.Ns X.env.locals m/\∀(i:Nat) (x:Str) (v:V),X.N[i]?=some x->σ[i]?=some (some v)->Vis X.env.scope x->∃u,RelV v u/\Look X.env s.heap m x u
 cell:∀x c,X.env.cells.lookup x=some c->∃v,s.heap.IsCell c v
 free:H X.env.locals=none
 freeC:∀x c,X.env.cells.lookup x=some c->H c=none
 pin:∀p∈X.pn++pins,s.heap.get? p.1=some p.2/\H p.1=none/\p.1≠X.env.locals/\p.1∉X.fs/\∀v,p.2.data≠.cell v
 hok:HOk X.prog X.w H s.heap
 len:σ.length=X.N.length
section
variable{X:Cx}{pins:List (Addr×Obj)}{σ:List (Option V)}{H H':Hp}{s:Af}{h':Heap}
theorem Cx.Ok.nofr(ok:X.Ok)(e:X.base.get? b=some o):b∉X.fs:=fun hb=>by
 have:=(ok.funs.mem hb).1;rw[e] at this;cases this
theorem Inv.bs(I:Inv X pins σ H s):∀b o,X.base.get? b=some o->s.heap.get? b=some o/\H b=none:=fun b o e =>
 ⟨I.base.keep b o (I.ok.bs b o e).1 (I.ok.bs b o e).2 (I.ok.nofr e) (I.ok.noex b o e),I.base.free b o (I.ok.bs b o e).1 (I.ok.bs b o e).2 (I.ok.noex b o e)⟩
theorem Inv.bk(I:Inv X pins σ H s):∀b o,X.base.get? b=some o->s.heap.get? b=some o:=fun b o e=>(I.bs b o e).1
theorem Inv.mod(I:Inv X pins σ H s):Mod X.K X.mg X.base:=I.ok.mod
theorem Inv.kIn(I:Inv X pins σ H s):X.K.In s.heap:=I.ok.mod.kin.keeps I.bk
theorem Inv.lt(I:Inv X pins σ H s):X.env.locals<s.heap.objs.size:=let ⟨_,hn,_⟩:=I.loc;hn.lt
theorem Inv.sz(I:Inv X pins σ H s):X.s₀.heap.objs.size<=s.heap.objs.size:=Bb I.ok.above (Hv I.lt)
theorem Inv.nofs(I:Inv X pins σ H s){a:Addr}(h:s.heap.objs.size<=a):a∉X.fs:=fun hb=>by
 obtain⟨_,o,ho,_⟩:=I.ok.funs.mem hb;exact absurd (Bm (Al ho) (Bb I.sz h)) (Fq _)
theorem Inv.cne(I:Inv X pins σ H s):∀x c,X.env.cells.lookup x=some c->c≠X.env.locals:=fun x c e z=>by
 obtain⟨v,o,ho,hd⟩:=I.cell x c e;obtain⟨m,⟨o',es,ep,ho',hd',_⟩,_⟩:=I.loc;rw[z,ho'] at ho;cases ho;rw[hd'] at hd;cases hd
theorem Inv.funs(I:Inv X pins σ H s):s.heap.FunFrames X.base X.outer:=by
 have all:∀(l:List Env),(∀b∈frs l,b∈X.fs)->X.s₀.heap.FunFrames X.base l->s.heap.FunFrames X.base l:=by
  intro l;induction l with
  |nil=>intro _ _;trivial
  |cons env r ih =>
   intro hs hl;obtain⟨hk,⟨L,o,hf,hn,ho,hd⟩,hr⟩:=hl;have hL:=hs L (by unfold frs;rw[Nh,hf];exact As);obtain⟨sl,e⟩:=I.base.slot L o ho (I.ok.frf L hL) hL fun z=>I.ok.exfs L z hL;exact⟨hk,⟨L,_,hf,hn,e,hd⟩,ih (fun b hb=>hs b (by unfold frs;rw[Nh,hf];exact Ao _ hb)) hr⟩
 exact all X.outer (fun _ hb=>hb) I.ok.funs
theorem Inv.stack(I:Inv X pins σ H s):s.heap.FunFrames X.base X.stack:=by
 rcases I.ok.stk with e|⟨e,hf⟩
 ·rw[e];exact I.funs
 ·rw[e];obtain⟨m,hn,_⟩:=I.loc;refine .cons (by rw[I.ok.kind];decide) hf hn ?_ I.funs;exact Mm (Bb I.ok.bsz I.ok.above)
theorem Inv.stkSub(I:Inv X pins σ H s):∀b∈frs X.stack,b∈X.env.locals::X.fs:=fun b hb=>by
 rcases I.ok.stk with e|⟨e,hf⟩
 ·grind
 ·rw[e] at hb;unfold frs at hb;rw[Nh,hf] at hb;exact hb
theorem Inv.stkFree(I:Inv X pins σ H s):∀b∈frs X.stack,H b=none:=fun b hb=>by
 rcases Bk.mp (I.stkSub b hb) with e|hb
 ·rw[e];exact I.free
 ·obtain⟨_,o,ho,_⟩:=I.ok.funs.mem hb;exact I.base.free b o ho (I.ok.frf b hb) fun z=>I.ok.exfs b z hb
theorem Inv.step{ch:List Addr}(I:Inv X pins σ H s)(hch:∀b∈ch,(b∈X.ex\/X.s₀.heap.objs.size<=b)/\b≠X.env.locals/\(∀x c,X.env.cells.lookup x=some c->c≠b)/\∀p∈X.pn++pins,p.1≠b)(keep:∀b o,b≠X.env.locals->b∉X.fs->b∉ch->s.heap.get? b=some o->H b=none->h'.get? b=some o)(slot:∀b o,b≠X.env.locals->b∈X.fs->b∉ch->s.heap.get? b=some o->H b=none->∃sl,h'.get? b=some { o with slots:=sl })(free:∀b o,b∉ch->s.heap.get? b=some o->H b=none->H' b=none)(there:∀b o,b∉ch->s.heap.get? b=some o->∃o',h'.get? b=some o')(tups:∀b xs,H b=some (.tup xs)->H' b=some (.tup xs))(frzs:∀b o u,H b=some (.frz o u)->H' b=some (.frz o u))(tbls:∀b ps,H b=some (.tbl ps)->∃more,H' b=some (.tbl (ps++more)))(ns:∀m,s.heap.Ns X.env.locals m->h'.Ns X.env.locals m)(hok:HOk X.prog X.w H' h')(hg:Kw g'):
  Inv X pins σ H' { s with heap:=h',gens:=g',drawn:=d',toks:=t' }:=by
 have neL:∀b o,X.s₀.heap.get? b=some o->b≠X.env.locals:=fun b o e=>Bd (Bm (Al e) I.ok.above);have neC:∀b o,X.s₀.heap.get? b=some o->b∉X.ex->b∉ch:=fun b o e hx hb=>by
  rcases(hch b hb).1 with z|z
  ·exact hx z
  ·exact absurd (Bm (Al e) z) (Fq _)
 have cellK:∀x c,X.env.cells.lookup x=some c->∀v,s.heap.IsCell c v->h'.IsCell c v:=fun x c e v ⟨o,ho,hd⟩=>by
  have nch:=fun z=>(hch c z).2.2.1 x c e rfl;by_cases hc:c∈X.fs
  ·obtain⟨sl,q⟩:=slot c o (I.cne x c e) hc nch ho (I.freeC x c e);exact⟨_,q,hd⟩
  ·exact⟨o,keep c o (I.cne x c e) hc nch ho (I.freeC x c e),hd⟩
 refine⟨I.ok,I.os,hg,⟨fun b o e n hb hx=>?_,fun b o e n hb hx=>?_,fun b o e n hx=>?_,fun b o e hx=>?_,fun b xs e=>tups b xs (I.base.tups b xs e),fun b o xs e=>frzs b o xs (I.base.frzs b o xs e),fun b ps e=>?_⟩,?_,fun x c e=>?_,?_,fun x c e=>?_,fun p hp=>?_,hok,I.len⟩
 ·exact keep b o (neL b o e) hb (neC b o e hx) (I.base.keep b o e n hb hx) (I.base.free b o e n hx)
 ·obtain⟨sl,e1⟩:=I.base.slot b o e n hb hx;obtain⟨sl',e2⟩:=slot b _ (neL b o e) hb (neC b o e hx) e1 (I.base.free b o e n hx);exact⟨sl',e2⟩
 ·obtain⟨o',e1⟩:=I.base.there b o e hx;exact free b o' (neC b o e hx) e1 (I.base.free b o e n hx)
 ·obtain⟨o',e1⟩:=I.base.there b o e hx;exact there b o' (neC b o e hx) e1
 ·obtain⟨m1,e1⟩:=I.base.tbls b ps e;obtain⟨m2,e2⟩:=tbls b _ e1;exact⟨m1++m2,by rw[e2,Th]⟩
 ·obtain⟨m,hn,hl⟩:=I.loc;refine⟨m,ns m hn,fun i x v e1 e2 e3=>?_⟩;obtain⟨u,r,l⟩:=hl i x v e1 e2 e3;refine⟨u,r,?_⟩;rcases l with l|⟨k,c,e,z⟩
  ·exact .inl l
  ·exact .inr ⟨k,c,e,cellK x c e _ z⟩
 ·obtain⟨v,z⟩:=I.cell x c e;exact⟨v,cellK x c e v z⟩
 ·obtain⟨m,⟨o,_,_,ho,_⟩,_⟩:=I.loc;exact free _ o (fun z=>(hch _ z).2.1 rfl) ho I.free
 ·obtain⟨v,o,ho,hd⟩:=I.cell x c e;exact free c o (fun z=>(hch c z).2.2.1 x c e rfl) ho (I.freeC x c e)
 ·obtain⟨e,n,ne,nf,d⟩:=I.pin p hp;have nch:=fun z=>(hch p.1 z).2.2.2 p hp rfl
  exact⟨keep p.1 p.2 ne nf nch e n,free p.1 p.2 nch e n,ne,nf,d⟩
theorem Inv.un(I:Inv X pins σ H s)(u:Un X.fs [] H H' s.heap h')(hok:HOk X.prog X.w H' h'):Inv X pins σ H' { s with heap:=h',toks:=t' }:=by
 obtain⟨m,⟨o,es,ep,ho,r⟩,_⟩:=id I.loc;obtain⟨sl,hL⟩:=u.any ho I.free (by simp);exact I.step (g':=s.gens) (d':=s.drawn) (ch:=[]) (fun _ z=>nomatch z) (fun b o _ hb _ e n=>u.keep b o e n hb (by simp)) (fun b o _ hb _ e n=>u.slot b o e n hb (by simp)) (fun b o _ e n=>u.free b o e n (by simp)) (fun b o _ e=>u.there b o e (by simp)) u.tups u.frzs u.tbls (fun m' hm=>by
  obtain⟨o',es',ep',ho',r'⟩:=hm;rw[ho] at ho';cases ho';exact⟨_,es',ep',hL,r'⟩) hok I.bare
theorem Inv.call(I:Inv X pins σ H s)(u:Un (frs X.stack) ch H H' s.heap h')(hok:HOk X.prog X.w H' h')(hg:Kw g')(hch:∀b∈ch,(b∈X.ex\/X.s₀.heap.objs.size<=b)/\b≠X.env.locals/\(∀x c,X.env.cells.lookup x=some c->c≠b)/\∀p∈X.pn++pins,p.1≠b):
  Inv X pins σ H' { s with heap:=h',gens:=g',drawn:=d',toks:=t' }:=by
 obtain⟨m,⟨o,es,ep,ho,r⟩,_⟩:=id I.loc;obtain⟨sl,hL⟩:=u.any ho I.free fun z=>(hch _ z).2.1 rfl
 exact I.step hch (fun b o hL hb hc e n=>u.keep b o e n (fun z=>(Bk.mp (I.stkSub b z)).elim hL hb) hc) (fun b o _ _ hc e n=>u.any e n hc) (fun b o hc e n=>u.free b o e n hc) (fun b o hc e=>u.there b o e hc) u.tups u.frzs u.tbls (fun m' hm=>by
  obtain⟨o',es',ep',ho',r'⟩:=hm;rw[ho] at ho';cases ho';exact⟨_,es',ep',hL,r'⟩) hok hg
theorem Inv.turned(I:Inv X pins σ H s)(k:∀b o,b≠it->s.heap.get? b=some o->h'.get? b=some o)(hn:H it=none)(hL:it≠X.env.locals)(h1:it∈X.ex\/X.s₀.heap.objs.size<=it)(h2:∀x c,X.env.cells.lookup x=some c->c≠it)(h3:∀p∈X.pn++pins,p.1≠it):Inv X pins σ H { s with heap:=h',toks:=t' }:=by
 have nit:∀b u,H b=some u->b≠it:=fun b u e z=>by rw[z,hn] at e;cases e
 refine I.step (g':=s.gens) (d':=s.drawn) (ch:=[it]) (fun b hb=>?_) (fun b o _ _ hc e _=>k b o (fun z=>hc (by simp[z])) e) (fun b o _ _ hc e _=>⟨o.slots,k b o (fun z=>hc (by simp[z])) e⟩) (fun _ _ _ _ n=>n)
  (fun b o hc e=>⟨o,k b o (fun z=>hc (by simp[z])) e⟩) (fun _ _ e=>e) (fun _ _ _ e=>e) (fun b ps e=>⟨#[],by rw[e];simp⟩) (fun m hm=>?_) (fun b u e=>?_) I.bare
 ·have e:b=it:=by simpa using hb
  subst e;exact⟨h1,hL,h2,h3⟩
 ·obtain⟨o,es,ep,ho,r⟩:=hm;exact⟨o,es,ep,k _ o (Ca hL) ho,r⟩
 ·refine(I.hok b u e).stay (fun c v hc q=>k c v ?_ q) (fun _ q=>q) fun _ _ q=>q;rcases hc with z|z
  ·rw[z];exact nit b u e
  ·exact nit c _ z
theorem Inv.tok(I:Inv X pins σ H s)(t:Nat):Inv X pins σ H { s with toks:=t }:=I.un (h':=s.heap) (t':=t) Un.refl I.hok
theorem Inv.kept(I:Inv X pins σ H s)(k:∀b u,s.heap.get? b=some u->h'.get? b=some u):Inv X pins σ H { s with heap:=h',toks:=t' }:=I.un (Un.kept k) (I.hok.kept k)
theorem Inv.laid{a:Addr}(I:Inv X pins σ H s)(k:∀b u,s.heap.get? b=some u->h'.get? b=some u)(hp:s.heap.objs.size<=a)(new:ObjOk X.prog X.w (upd H a o) h' a o):
  Inv X pins σ (upd H a o) { s with heap:=h',toks:=t' }:=I.un (Un.laid k hp (I.hok.fresh hp)) (I.hok.laid k hp new)
theorem Inv.write(I:Inv X pins σ H s)(mu:Mut (H x))(he:e=x\/H e=some (.own x))(k:∀b u,b≠e->s.heap.get? b=some u->h'.get? b=some u)(heo:∃u,h'.get? e=some u)(new:ObjOk X.prog X.w (upd H x o) h' x o):Inv X pins σ (upd H x o) { s with heap:=h',toks:=t' }:=I.un (Un.write mu he k heo) (I.hok.write mu he k heo new)
theorem Inv.weak(I:Inv X pins σ H s)(hl:σ'.length=σ.length)(w:∀(i:Nat) v,σ'[i]?=some (some v)->σ[i]?=some (some v)):Inv X pins σ' H s :=
 ⟨I.ok,I.os,I.bare,I.base,let ⟨m,hn,hl'⟩:=I.loc;⟨m,hn,fun i x v e1 e2 e3=>hl' i x v e1 (w i v e2) e3⟩,I.cell,I.free,I.freeC,I.pin,I.hok,hl.trans I.len⟩
theorem Inv.pins_of(I:Inv X pins σ H s)(h:∀p∈pins',s.heap.get? p.1=some p.2/\H p.1=none/\p.1≠X.env.locals/\p.1∉X.fs/\∀v,p.2.data≠.cell v):Inv X pins' σ H s :=
 ⟨I.ok,I.os,I.bare,I.base,I.loc,I.cell,I.free,I.freeC,fun p hp=>(Au.mp hp).elim (fun z=>I.pin p (Cy _ z)) (h p),I.hok,I.len⟩
theorem q7v{N:List Str}(hN:N.Nodup){j:Nat}(a:N[i]?=some x)(b:N[j]?=some x):i=j:=by
 obtain⟨h1,e1⟩:=Aq.mp a;obtain⟨h2,e2⟩:=Aq.mp b;exact(List.getElem_inj hN).mp (e1.trans e2.symm)
theorem q5q(I:Inv X pins σ H s)(hN:X.N.Nodup)(hi:X.N[i]?=some x)(hx:Loc X.env.scope x)(r:RelV v u)(h:∀s',Inv X pins (σ.set i (some v)) H s'->(∃a,Eu a s.heap s'.heap/\(a=X.env.locals\/X.env.cells.lookup x=some a))->Q () s')(hf:X.fn x=true\/X.env.scope.names.lookup x=some .local:=by first|exact .inl rfl|exact .inr rfl|assumption):wpAny M A (storeName X.env x u) Q E s:=by
 obtain⟨m,hn,hl⟩:=id I.loc;have hcls:(X.env.scope.kind==.class||(X.env.scope.kind==.module&&X.env.locals != X.env.globals))=false:=by rw[I.ok.kind];rfl
 have hiσ:i<σ.length:=by rw[I.len];exact(Aq.mp hi).1
 have cne:=I.cne;have tracked:∀{a:Addr} {h':Heap},(∃o,s.heap.get? a=some o/\H a=none)->Eu a s.heap h'->HOk X.prog X.w H h':=fun{a h'} ha hs b ob e=>by
  obtain⟨_,_,hfree⟩:=ha;refine(I.hok b ob e).stay (fun c w' hc q=>(hs.2 c ?_).trans q) (fun _ q=>q) fun _ _ q=>q
  rcases hc with rfl|hc
  ·grind
  ·grind
 rcases hx with hk|hk
 ·refine wpAny_storeName_local hk hn (fun h' hn' hs=>?_) hcls;obtain⟨oL,_,_,hoL,_⟩:=id hn;refine h _ ⟨I.ok,I.os,I.bare,⟨fun b o e n hb hx=>?_,fun b o e n hb hx=>?_,I.base.free,fun b o e hx=>?_,I.base.tups,I.base.frzs,I.base.tbls⟩,⟨_,hn',fun j y v' e1 e2 e3=>?_⟩,fun y c e=>?_,I.free,I.freeC,fun p hp=>?_,tracked ⟨oL,hoL,I.free⟩ hs,by simpa using I.len⟩ ⟨_,hs,.inl rfl⟩
  ·exact(hs.2 b (Bd (Bm (Al e) I.ok.above))).trans (I.base.keep b o e n hb hx)
  ·obtain⟨sl,e1⟩:=I.base.slot b o e n hb hx;exact⟨sl,(hs.2 b (Bd (Bm (Al e) I.ok.above))).trans e1⟩
  ·obtain⟨o',e1⟩:=I.base.there b o e hx;exact⟨o',(hs.2 b (Bd (Bm (Al e) I.ok.above))).trans e1⟩
  ·by_cases hj:j=i
   ·subst hj;rw[hi] at e1;cases e1;rw[Qn hiσ] at e2;cases e2;exact⟨u,r,.inl ⟨hk,by simp⟩⟩
   ·rw[Mn (Ca hj)] at e2;obtain⟨u',r',q⟩:=hl j y v' e1 e2 e3;refine⟨u',r',?_⟩;rcases q with⟨k,e⟩|⟨k,c,e,z⟩
    ·refine .inl ⟨k,?_⟩;have:y≠x:=fun e=>hj (q7v hN e1 (e▸hi));simp[this,e]
    ·exact .inr ⟨k,c,e,z.sameBut hs (cne y c e)⟩
  ·obtain⟨w',z⟩:=I.cell y c e;exact⟨w',z.sameBut hs (cne y c e)⟩
  ·obtain⟨e,n,ne,nf,d⟩:=I.pin p hp;exact⟨(hs.2 p.1 ne).trans e,n,ne,nf,d⟩
 ·have hfn:X.fn x=true:=by
   rcases hf with z|z
   ·exact z
   ·grind
  obtain⟨c,hc⟩:=I.ok.has x (.inl hk);obtain⟨w',z⟩:=I.cell x c hc;refine wpAny_storeName_cell I.ok.kind hk hc z (fun h' hc' hs=>?_);obtain⟨oc,hoc,hocd⟩:=id z;refine h { s with heap:=h' } ⟨I.ok,I.os,I.bare,⟨fun b o e n hb hx=>?_,fun b o e n hb hx=>?_,I.base.free,fun b o e hx=>?_,I.base.tups,I.base.frzs,I.base.tbls⟩,⟨m,hn.sameBut hs (Ca (cne x c hc)),fun j y v' e1 e2 e3=>?_⟩,fun y c' e=>?_,I.free,I.freeC,fun p hp=>?_,tracked ⟨oc,hoc,I.freeC x c hc⟩ hs,by simpa using I.len⟩ ⟨c,hs,.inr hc⟩
  ·exact(hs.2 b (Bd (Bm (Al e) (I.ok.cab x c hfn hc)))).trans (I.base.keep b o e n hb hx)
  ·obtain⟨sl,e1⟩:=I.base.slot b o e n hb hx;exact⟨sl,(hs.2 b (Bd (Bm (Al e) (I.ok.cab x c hfn hc)))).trans e1⟩
  ·obtain⟨o',e1⟩:=I.base.there b o e hx;exact⟨o',(hs.2 b (Bd (Bm (Al e) (I.ok.cab x c hfn hc)))).trans e1⟩
  ·by_cases hj:j=i
   ·subst hj;rw[hi] at e1;cases e1;rw[Qn hiσ] at e2;cases e2;exact⟨u,r,.inr ⟨.inl hk,c,hc,hc'⟩⟩
   ·rw[Mn (Ca hj)] at e2;obtain⟨u',r',q⟩:=hl j y v' e1 e2 e3;refine⟨u',r',?_⟩;rcases q with q|⟨k,c',e,z'⟩
    ·exact .inl q
    ·refine .inr ⟨k,c',e,z'.sameBut hs ?_⟩;rintro rfl;exact hj (q7v hN e1 (I.ok.inj _ _ _ e hc▸hi))
  ·by_cases hcc:c'=c
   ·grind
   ·obtain⟨w2,z2⟩:=I.cell y c' e;exact⟨w2,z2.sameBut hs hcc⟩
  ·obtain⟨e,n,ne,nf,d⟩:=I.pin p hp;refine⟨(hs.2 p.1 ?_).trans e,n,ne,nf,d⟩;intro q;rw[q,hoc] at e;have q':=Bs e;exact d w' (by rw[<- q'];exact hocd)
theorem q5j(I:Inv X pins σ H s)(hN:X.N.Nodup)(hi:X.N[i]?=some x)(hx:Loc X.env.scope x)(r:RelV v u)(h:∀s',Inv X pins (σ.set i (some v)) H s'->Q () s')(hf:X.fn x=true\/X.env.scope.names.lookup x=some .local:=by first|exact .inl rfl|exact .inr rfl|assumption):wpAny M A (storeName X.env x u) Q E s :=
 q5q I hN hi hx r (fun s' I' _=>h s' I') hf
theorem Inv.call'(I:Inv X pins σ H s)(ho:s'.os=s.os)(u:Un (frs X.stack) ch H H' s.heap s'.heap)(hok:HOk X.prog X.w H' s'.heap)(hg:Kw s'.gens)(hch:∀b∈ch,(b∈X.ex\/X.s₀.heap.objs.size<=b)/\b≠X.env.locals/\(∀x c,X.env.cells.lookup x=some c->c≠b)/\∀p∈X.pn++pins,p.1≠b):Inv X pins σ H' s':=by
 obtain⟨h',g',d',t',o'⟩:=s';have e:=ho;subst e;exact I.call (g':=g') (t':=t') (d':=d') u hok hg hch
end
abbrev XK:=Value->Option Addr->Hp->Prop
abbrev St:=List (Option V)
abbrev VK:=V->Hp->Prop
abbrev TE:=St->Hp->VK->Prop
abbrev TT:=St->Hp->(Bool->Hp->Prop)->Prop
abbrev TA:=St->Hp->(List V->Hp->Prop)->Prop
structure Ends where
 nx:St->Hp->Prop
 rt:VK
 bk:St->Hp->Prop:=fun _ _=>False
 ct:St->Hp->Prop:=fun _ _=>False
abbrev TS:=Ends->St->Hp->Prop
def EP(X:Cx)(pins:List (Addr×Obj))(σ:St)(Q:VK)(u:Value)(s':Af):Prop:=∃v H',Inv X pins σ H' s'/\RelV v u/\Q v H'
def TP(X:Cx)(pins:List (Addr×Obj))(σ:St)(Q:Bool->Hp->Prop)(b:Bool)(s':Af):Prop:=∃H',Inv X pins σ H' s'/\Q b H'
def AP(X:Cx)(pins:List (Addr×Obj))(σ:St)(Q:List V->Hp->Prop)(us:List Value)(s':Af):Prop:=∃vs H',Inv X pins σ H' s'/\Vals vs us/\Q vs H'
def SP(X:Cx)(pins:List (Addr×Obj))(D:Ends)(f:Flow)(s':Af):Prop :=
 match f with
 |.next=>∃σ' H',Inv X pins σ' H' s'/\D.nx σ' H'
 |.brk=>∃σ' H',Inv X pins σ' H' s'/\D.bk σ' H'
 |.cont=>∃σ' H',Inv X pins σ' H' s'/\D.ct σ' H'
 |.ret u=>∃v σ' H',Inv X pins σ' H' s'/\RelV v u/\D.rt v H'
def PE(X:Cx)(e:Expr)(t:TE):Prop :=
 ∀(pins:List (Addr×Obj)) (s:Af) (σ:St) (H:Hp) (Q:VK),Inv X pins σ H s->t σ H Q->wpAny (model X.prog X.w) X.A (eval e X.env) (EP X pins σ Q) X.xe s
def PT(X:Cx)(e:Expr)(t:TT):Prop :=
 ∀(pins:List (Addr×Obj)) (s:Af) (σ:St) (H:Hp) (Q:Bool->Hp->Prop),Inv X pins σ H s->t σ H Q->wpAny (model X.prog X.w) X.A (isTrue e X.env (eval e X.env)) (TP X pins σ Q) X.xe s
def PW(X:Cx)(e:Expr)(t:TT):Prop :=
 ∀(whole:Sem Value) (pins:List (Addr×Obj)) (s:Af) (σ:St) (H:Hp) (Q:Bool->Hp->Prop),Inv X pins σ H s->t σ H Q->wpAny (model X.prog X.w) X.A (isTrue e X.env whole) (TP X pins σ Q) X.xe s
theorem PW.pt{X:Cx}{e:Expr}{t:TT}(h:PW X e t):PT X e t:=h _
def PA(X:Cx)(es:List Expr)(t:TA):Prop :=
 ∀(pos:Pos) (pins:List (Addr×Obj)) (s:Af) (σ:St) (H:Hp) (Q:List V->Hp->Prop),Inv X pins σ H s->t σ H Q->wpAny (model X.prog X.w) X.A (spliced (Em pos (Ax es X.env))) (AP X pins σ Q) X.xe s
def PS(X:Cx)(st:Stmt)(t:TS):Prop :=
 ∀(pins:List (Addr×Obj)) (s:Af) (σ:St) (H:Hp) (D:Ends),Inv X pins σ H s->t D σ H->wpAny (model X.prog X.w) X.A (exec st X.env) (SP X pins D) X.xe s
def PSs(X:Cx)(st:List Stmt)(t:TS):Prop :=
 ∀(pins:List (Addr×Obj)) (s:Af) (σ:St) (H:Hp) (D:Ends),Inv X pins σ H s->t D σ H->wpAny (model X.prog X.w) X.A (execs st X.env) (SP X pins D) X.xe s
theorem thn{t:Sem α}{Q Q':α->Af->Prop}(h:wpAny M A t Q E s)(hQ:∀a s,Q a s->Q' a s):wpAny M A t Q' E s:=Bx h hQ fun _ _ x=>x
open PySem PySem.Spec PyProof.Rows
section
variable{X:Cx}
def tVar(i:Nat):TE:=fun σ H Q=>∃v,σ[i]?=some (some v)/\Q v H
def tC(v:V):TE:=fun _ H Q=>Q v H
theorem pe_var{pos:Pos}(hN:X.N[i]?=some x)(hv:Vis X.env.scope x)(hd:(x==("__debug__" : Str))=false:=by decide)(hcd:(x==("__classdict__" : Str))=false:=by decide):PE X (.Name x pos) (tVar i):=by
 intro pins s σ H Q I h;obtain⟨v,e,h⟩:=h;obtain⟨m,hn,hl⟩:=I.loc;obtain⟨u,r,l⟩:=hl i x v hN e hv;have fin:EP X pins σ Q u s:=⟨v,H,I,r,h⟩
 rcases l with⟨hk,hm⟩|⟨hk,c,hc,hcell⟩
 ·exact Vt (Rx I.ok.kind hk hn hm fin) hd
 ·rcases hk with hk|hk
  ·exact Vt (Sy I.ok.kind hk hc hcell fin) hd
  ·exact Vt (wpAny_loadName_free I.ok.kind hk hc hcell fin hcd) hd
theorem q0g{i j pos}:PE X (.Constant (.int i) j pos) (tC (.int i)):=fun _ _ _ H _ I h=>wpAny_Constant_int ⟨.int i,H,I.tok _,⟨_,rfl⟩,h⟩
theorem q9h{b j pos}:PE X (.Constant (.bool b) j pos) (tC (.bl b)):=fun _ _ _ H _ I h=>Constant_bool ⟨.bl b,H,I,rfl,h⟩
theorem q7b{j pos}:PE X (.Constant .none j pos) (tC .non):=fun _ _ _ H _ I h=>So ⟨.non,H,I,rfl,h⟩
theorem q0i{x j pos}:PE X (.Constant (.str x) j pos) (tC (.str x)):=fun _ _ _ H _ I h=>Calls.Constant_str ⟨.str x,H,I.tok _,⟨_,rfl⟩,h⟩
def Gl(X:Cx)(x:Str):Prop:=X.env.kindOf x=some .globalImplicit
theorem q2p{σ:St}(I:Inv X pins σ H s)(hg:Gl X x)(hm:X.mg x=some u)(h:Q u s)(hd:(x==("__debug__" : Str))=false:=by decide):wpAny (model X.prog X.w) X.A (eval (.Name x pos) X.env) Q E s :=
 Oj I.ok.kind hg (Calls.loadGlobal_global (by rw[I.ok.glob];exact I.mod.glob.keeps I.bk) hm h) hd
theorem q5b{E:Value->Af->Prop}{σ:St}{pos:Pos}(I:Inv X pins σ H s)(hg:Gl X x)(hm:X.mg x=none)(hv:Gv x=some u)(h:Q u s)(hn:x ≠ "__name__" := by decide)(hd:(x==("__debug__" : Str))=false:=by decide):wpAny (model X.prog X.w) X.A (eval (.Name x pos) X.env) Q E s:=by
 obtain⟨mb,h1,h2⟩:=I.mod.blt;exact Oj I.ok.kind hg (Calls.loadGlobal_builtin (by rw[I.ok.glob];exact I.mod.glob.keeps I.bk) hm (by rw[I.ok.blt];exact h1.keeps I.bk) ((h2 x hn).trans hv) h) hd
theorem q1a{x:Str}{v:V}{u:Value}{pos:Pos}(hg:Gl X x)(hm:X.mg x=some u)(r:RelV v u)(hd:(x==("__debug__" : Str))=false:=by decide):PE X (.Name x pos) (tC v) :=
 fun _ _ _ H _ I h=>q2p I hg hm ⟨v,H,I,r,h⟩ hd
variable{a b:Expr}{ta tb:TE}{pos:Pos}
def PC(X:Cx)(op:CmpOp)(a b:Expr)(t:TE):Prop :=
 ∀(pins:List (Addr×Obj)) (s:Af) (σ:St) (H:Hp) (Q:VK),Inv X pins σ H s->t σ H Q ->
  wpAny (model X.prog X.w) X.A (eval a X.env) (fun v s₁=>wpAny (model X.prog X.w) X.A (eval b X.env) (fun u s₂=>wpAny (model X.prog X.w) X.A (Cg op v u) (EP X pins σ Q) X.xe s₂) X.xe s₁) X.xe s
theorem nobehind(b:Expr)(h:op≠.In)(h2:op≠.NotIn):Hf op b=false:=by
 have e1:(op==CmpOp.In)=false:=by grind
 have e2:(op==CmpOp.NotIn)=false:=by grind
 cases b<;>simp[Hf,e1,e2]
def tIsN(ta:TE):TE:=fun σ H Q=>ta σ H fun x H1=>Q (.bl (decide (x=.non))) H1
def tNotN(ta:TE):TE:=fun σ H Q=>ta σ H fun x H1=>Q (.bl (!decide (x=.non))) H1
theorem RelV.none_iff(r:RelV x v):(v==Value.none)=decide (x=.non):=by
 cases x with
 |non=>cases r;rfl
 |bl _=>cases r;rfl
 |int _=>obtain⟨t,rfl⟩:=r;rfl
 |str _=>obtain⟨t,rfl⟩:=r;rfl
 |byt _=>obtain⟨t,rfl⟩:=r;rfl
 |flt _=>obtain⟨t,rfl⟩:=r;rfl
 |ref _=>cases r;rfl
 |ty _=>cases r;rfl
theorem q7c{j pos'}(ha:PE X a ta):PC X .Is a (.Constant .none j pos') (tIsN ta):=by
 intro pins s σ H Q I h;refine thn (ha pins s σ H _ I h) fun v s1 ⟨x,H1,I1,r1,q1⟩=>?_;exact So (is_none_gen ⟨.bl _,H1,I1,by rw[r1.none_iff];rfl,q1⟩)
theorem q4r{j pos'}(ha:PE X a ta):PC X .IsNot a (.Constant .none j pos') (tNotN ta):=by
 intro pins s σ H Q I h;refine thn (ha pins s σ H _ I h) fun v s1 ⟨x,H1,I1,r1,q1⟩=>?_;exact So (isnot_none_gen ⟨.bl _,H1,I1,by rw[r1.none_iff];rfl,q1⟩)
def tB(t:TE):TT:=fun σ H Q=>t σ H fun x H1=>∃c,x=.bl c/\Q c H1
theorem x1z{op:CmpOp}{t:TE}(h:PC X op a b t)(h1:Hf op b=false:=by first|exact nobehind _ (by decide) (by decide)|rfl):PE X (.Compare a [op] [b] pos) t:=fun pins s σ H Q I hw=>wpAny_Compare1 (h pins s σ H Q I hw) h1
theorem q2c{op:CmpOp}{t:TE}(h:PC X op a b t)(h1:Hf op b=false:=by first|exact nobehind _ (by decide) (by decide)|rfl):PT X (.Compare a [op] [b] pos) (tB t):=by
 intro pins s σ H Q I hw;refine Ra (thn (h pins s σ H _ I hw) fun v s1 h1=>thn h1 fun u s2 h2=>thn h2 fun c s3 ⟨x,H1,I1,r1,q1⟩=>?_) h1;obtain⟨d,rfl,q⟩:=q1;cases r1;exact Du ⟨H1,I1,q⟩
variable{tA tB':TT}{rest:List Expr}
def tAnd(t u:TT):TT:=fun σ H Q=>t σ H fun c H1=>if c=true then u σ H1 Q else Q false H1
def tOr(t u:TT):TT:=fun σ H Q=>t σ H fun c H1=>if c=true then Q true H1 else u σ H1 Q
def tNot(t:TT):TT:=fun σ H Q=>t σ H fun c H1=>Q (!c) H1
theorem q2q(ha:PT X a tA):PW X (.BoolOp .And [a] pos) tA:=by
 intro wh pins s σ H Q I h;refine isTrue_and (thn (ha pins s σ H Q I h) fun c s1 e=>?_);cases c with
 |true=>exact isTrue_and_nil e
 |false=>exact e
theorem q5r(ha:PT X a tA):PW X (.BoolOp .Or [a] pos) tA:=by
 intro wh pins s σ H Q I h;refine isTrue_or (thn (ha pins s σ H Q I h) fun c s1 e=>?_);cases c with
 |false=>exact isTrue_or_nil e
 |true=>exact e
theorem q4k(ha:PT X a tA)(hb:PW X (.BoolOp .And (b::rest) pos) tB'):PW X (.BoolOp .And (a::b::rest) pos) (tAnd tA tB'):=by
 intro wh pins s σ H Q I h;refine isTrue_and (thn (ha pins s σ H _ I h) fun c s1 ⟨H1,I1,q1⟩=>?_);cases c with
 |true=>exact hb wh pins s1 σ H1 Q I1 q1
 |false=>exact⟨H1,I1,q1⟩
theorem z1t(ha:PT X a tA)(hb:PW X (.BoolOp .Or (b::rest) pos) tB'):PW X (.BoolOp .Or (a::b::rest) pos) (tOr tA tB'):=by
 intro wh pins s σ H Q I h;refine isTrue_or (thn (ha pins s σ H _ I h) fun c s1 ⟨H1,I1,q1⟩=>?_);cases c with
 |true=>exact⟨H1,I1,q1⟩
 |false=>exact hb wh pins s1 σ H1 Q I1 q1
theorem x2a(ha:PT X a tA):PT X (.UnaryOp .Not a pos) (tNot tA):=by
 intro pins s σ H Q I h;exact isTrue_not (ha pins s σ H (fun c H1=>Q (!c) H1) I h)
def tAndV(ta tb:TE):TE:=fun σ H Q=>ta σ H fun x H1=>∃c,x=.bl c/\if c=true then tb σ H1 Q else Q (.bl false) H1
def tOrV(ta tb:TE):TE:=fun σ H Q=>ta σ H fun x H1=>∃c,x=.bl c/\if c=true then Q (.bl true) H1 else tb σ H1 Q
theorem z2y{op}{t:TE}(h:PE X a t):PE X (.BoolOp op [a] pos) t:=fun pins s σ H Q I hw=>BoolOp_one (h pins s σ H Q I hw)
theorem z5t(ha:PE X a ta)(hb:PE X (.BoolOp .And (b::rest) pos) tb):PE X (.BoolOp .And (a::b::rest) pos) (tAndV ta tb):=by
 intro pins s σ H Q I h;refine BoolOp_and (thn (ha pins s σ H _ I h) fun v s1 ⟨x,H1,I1,r1,q1⟩=>?_);obtain⟨c,rfl,q1⟩:=q1;cases r1;refine Du ?_;cases c with
 |true=>exact hb pins s1 σ H1 Q I1 q1
 |false=>exact⟨.bl false,H1,I1,rfl,q1⟩
theorem pe_or(ha:PE X a ta)(hb:PE X (.BoolOp .Or (b::rest) pos) tb):PE X (.BoolOp .Or (a::b::rest) pos) (tOrV ta tb):=by
 intro pins s σ H Q I h;refine BoolOp_or (thn (ha pins s σ H _ I h) fun v s1 ⟨x,H1,I1,r1,q1⟩=>?_);obtain⟨c,rfl,q1⟩:=q1;cases r1;refine Du ?_;cases c with
 |false=>exact hb pins s1 σ H1 Q I1 q1
 |true=>exact⟨.bl true,H1,I1,rfl,q1⟩
def tIf(t:TT)(ta tb:TE):TE:=fun σ H Q=>t σ H fun c H1=>if c=true then ta σ H1 Q else tb σ H1 Q
theorem q5k{c:Expr}(hc:PT X c tA)(ha:PE X a ta)(hb:PE X b tb):PE X (.IfExp c a b pos) (tIf tA ta tb):=by
 intro pins s σ H Q I h;refine wpAny_IfExp (thn (hc pins s σ H _ I h) fun d s1 ⟨H1,I1,q1⟩=>?_);cases d with
 |true=>exact ha pins s1 σ H1 Q I1 q1
 |false=>exact hb pins s1 σ H1 Q I1 q1
end
open PySem PySem.Spec PyProof.Rows
def SqL(K:Ah)(H:Hp)(a:Addr)(xs:List V):Prop :=
 Rd H a (.lst xs) \/
  ∃(o:Obj) (its:Array Value) (n:Nat),K.lookup a=some o/\o.cls=.type "list" /\ o.dict=none/\o.data=.seq its n/\its.size<=sizeLine/\Vals xs its.toList
def SqT(K:Ah)(H:Hp)(a:Addr)(xs:List V):Prop :=
 Rd H a (.tup xs) \/
  ∃(o:Obj) (its:Array Value) (n:Nat),K.lookup a=some o/\o.cls=.type "tuple" /\ o.data=.seq its n/\its.size<=sizeLine/\Vals xs its.toList
def absV:Value->Option V
 |.none=>some .non
 |.bool b=>some (.bl b)
 |.int i _=>some (.int i)
 |.str x _=>some (.str x)
 |.bytes b _=>some (.byt b)
 |.float b _=>some (.flt b)
 |.ref a=>some (.ref a)
 |.type n=>some (.ty n)
 |_=>none
theorem RelV.abs(r:RelV x u):absV u=some x:=by
 cases x with
 |non=>cases r;rfl
 |bl _=>cases r;rfl
 |int _=>obtain⟨t,rfl⟩:=r;rfl
 |str _=>obtain⟨t,rfl⟩:=r;rfl
 |byt _=>obtain⟨t,rfl⟩:=r;rfl
 |flt _=>obtain⟨t,rfl⟩:=r;rfl
 |ref _=>cases r;rfl
 |ty _=>cases r;rfl
theorem RelV.inj(r:RelV x u)(q:RelV y u):x=y:=Bs (r.abs.symm.trans q.abs)
theorem Vals.inj:∀{xs ys:List V} {us:List Value},Vals xs us->Vals ys us->xs=ys
 |_,_,_,.nil,.nil=>rfl
 |_,_,_,.cons r t,.cons r' t'=>by rw[r.inj r',Vals.inj t t']
section
variable{X:Cx}{pins:List (Addr×Obj)}{σ:St}{H:Hp}{s:Af}{a:Addr}{xs ys:List V}
theorem SqL.of{K:Ah}(h:H a=some (.lst xs)):SqL K H a xs:=.inl (.inl h)
theorem SqT.of{K:Ah}(h:H a=some (.tup xs)):SqT K H a xs:=.inl (.inl h)
theorem Inv.list(I:Inv X pins σ H s)(h:SqL X.K H a xs):∃its:List Value,Vals xs its/\PlainL s.heap a its.toArray/\xs.length<=sizeLine:=by
 rcases h with h|⟨o,its,n,hk,hc,hd,hs,hz,r⟩
 ·obtain⟨z,its,n,r,e⟩:=h.ok I.hok;exact⟨its,r,⟨_,n,e,rfl,rfl,rfl⟩,z⟩
 ·refine⟨its.toList,r,⟨o,n,I.kIn a o hk,hc,hd,by simpa using hs⟩,?_⟩;have e:=r.length;simp only[Gn] at e;lia
theorem Inv.tuple(I:Inv X pins σ H s)(h:SqT X.K H a xs):∃its:List Value,Vals xs its/\IsTup s.heap a its.toArray/\xs.length<=sizeLine:=by
 rcases h with h|⟨o,its,n,hk,hc,hs,hz,r⟩
 ·obtain⟨z,its,r,p⟩:=h.ok I.hok;exact⟨its,r,p,z⟩
 ·refine⟨its.toList,r,⟨o,I.kIn a o hk,hc,n,by simpa using hs⟩,?_⟩;have e:=r.length;simp only[Gn] at e;lia
theorem Inv.list_inj(I:Inv X pins σ H s)(h:SqL X.K H a xs)(h':SqL X.K H a ys):xs=ys:=by
 obtain⟨its,r,⟨o,n,e,_,_,d⟩,_⟩:=I.list h;obtain⟨its',r',⟨o',n',e',_,_,d'⟩,_⟩:=I.list h';have:its=its':=by grind
 subst this;exact r.inj r'
theorem Inv.tuple_inj(I:Inv X pins σ H s)(h:SqT X.K H a xs)(h':SqT X.K H a ys):xs=ys:=by
 obtain⟨its,r,⟨o,e,_,n,d⟩,_⟩:=I.tuple h;obtain⟨its',r',⟨o',e',_,n',d'⟩,_⟩:=I.tuple h';have:its=its':=by grind
 subst this;exact r.inj r'
end
abbrev Cx.wish(X:Cx)(E:Value->Af->Prop):Cx:={ X with xe:=E }
abbrev Cx.nox(X:Cx):Cx:=X.wish fun _ _=>False
theorem Cx.Ok.wish{X:Cx}(ok:X.Ok)(E:Value->Af->Prop):(X.wish E).Ok :=
 ⟨ok.mod,ok.kind,ok.glob,ok.blt,ok.above,ok.inj,ok.has,ok.cab,ok.hd,ok.frames,ok.stk,ok.exf,ok.bs,ok.bsz,ok.noex,ok.exfs,ok.funs,ok.frf⟩
theorem Cx.Ok.unwish{X:Cx}(ok:(X.wish E).Ok):X.Ok :=
 ⟨ok.mod,ok.kind,ok.glob,ok.blt,ok.above,ok.inj,ok.has,ok.cab,ok.hd,ok.frames,ok.stk,ok.exf,ok.bs,ok.bsz,ok.noex,ok.exfs,ok.funs,ok.frf⟩
section
variable{X:Cx}{pins:List (Addr×Obj)}{σ:St}{H:Hp}{s:Af}{E:Value->Af->Prop}
theorem Inv.wish(I:Inv X pins σ H s)(E:Value->Af->Prop):Inv (X.wish E) pins σ H s:=⟨I.ok.wish E,I.os,I.bare,I.base,I.loc,I.cell,I.free,I.freeC,I.pin,I.hok,I.len⟩
theorem Inv.unwish(I:Inv (X.wish E) pins σ H s):Inv X pins σ H s:=⟨I.ok.unwish,I.os,I.bare,I.base,I.loc,I.cell,I.free,I.freeC,I.pin,I.hok,I.len⟩
theorem SP.unwish(h:SP (X.wish E) pins D f s'):SP X pins D f s':=by
 cases f with
 |next=>obtain⟨σ',H',I,q⟩:=h;exact⟨σ',H',I.unwish,q⟩
 |brk=>obtain⟨σ',H',I,q⟩:=h;exact⟨σ',H',I.unwish,q⟩
 |cont=>obtain⟨σ',H',I,q⟩:=h;exact⟨σ',H',I.unwish,q⟩
 |ret u=>obtain⟨v,σ',H',I,r,q⟩:=h;exact⟨v,σ',H',I.unwish,r,q⟩
theorem PSs.nox{st:List Stmt}(h:PSs X.nox st t):PSs X st t:=fun pins s σ H D I hw =>
 Bx (h pins s σ H D (I.wish _) hw) (fun _ _ q=>q.unwish) fun _ _ z=>False.elim z
end
section
variable{X:Cx}{st:Stmt}{rest:List Stmt}{t u:TS}{e:Expr}{te:TE}{pos:Pos}
def tNext:TS:=fun D σ H=>D.nx σ H
def tSeq(t u:TS):TS:=fun D σ H=>t { D with nx:=u D } σ H
theorem q0j:PSs X [] tNext:=fun _ _ σ H _ I h=>Jw ⟨σ,H,I,h⟩
theorem q0b(h1:PS X st t)(h2:PSs X rest u):PSs X (st::rest) (tSeq t u):=by
 intro pins s σ H D I h;refine Pl (thn (h1 pins s σ H { D with nx:=u D } I h) fun f s1 q=>?_);cases f with
 |next =>
  obtain⟨σ',H',I',q⟩:=q;exact h2 pins s1 σ' H' D I' q
 |ret v=>exact q
 |brk=>exact q
 |cont=>exact q
theorem q0e(h1:PS X st t):PSs X [st] t:=by
 intro pins s σ H D I h;refine Pl (thn (h1 pins s σ H D I h) fun f s1 q=>?_);cases f with
 |next=>exact Jw q
 |ret v=>exact q
 |brk=>exact q
 |cont=>exact q
theorem Inv.quiet{σ:St}(I:Inv X pins σ H s):interactive X.env=false:=by simp[interactive,I.ok.kind]
def tDrop(te:TE):TS:=fun D σ H=>te σ H fun _ H1=>D.nx σ H1
theorem q0w(he:PE X e te)(hs:Ii e none pos.line X.env=pure false:=by rfl):PS X (.Expr e pos) (tDrop te):=by
 intro pins s σ H D I h;exact wpAny_Expr_any (thn (he pins s σ H _ I h) fun v s1 ⟨x,H1,I1,r1,q1⟩=>⟨σ,H1,I1,q1⟩) I.quiet hs
def tRet(te:TE):TS:=fun D σ H=>te σ H D.rt
theorem q0k(he:PE X e te):PS X (.Return (some e) pos) (tRet te):=by
 intro pins s σ H D I h;exact wpAny_Return_some (thn (he pins s σ H _ I h) fun v s1 ⟨x,H1,I1,r1,q1⟩=>⟨x,σ,H1,I1,r1,q1⟩)
def tIfS(c:TT)(t u:TS):TS:=fun D σ H=>c σ H fun b H1=>if b=true then t D σ H1 else u D σ H1
theorem q0t{c:Expr}{a b:List Stmt}{tc:TT}(hc:PT X c tc)(ha:PSs X a t)(hb:PSs X b u):PS X (.If c a b pos) (tIfS tc t u):=by
 intro pins s σ H D I h;refine wpAny_If (thn (hc pins s σ H _ I h) fun d s1 ⟨H1,I1,q1⟩=>?_);cases d with
 |true=>exact ha pins s1 σ H1 D I1 q1
 |false=>exact hb pins s1 σ H1 D I1 q1
def tNever:TS:=fun _ _ _=>False
theorem q1g:PS X st tNever:=fun _ _ _ _ _ _ h=>h.elim
end
abbrev TG:=V->St->Hp->(St->Hp->Prop)->Prop
abbrev TGs:=List V->St->Hp->(St->Hp->Prop)->Prop
def PG(X:Cx)(target:Expr)(t:TG):Prop :=
 ∀(pins:List (Addr×Obj)) (s:Af) (σ:St) (H:Hp) (v:V) (u:Value) (Q:St->Hp->Prop),Inv X pins σ H s->RelV v u->t v σ H Q ->
  wpAny (model X.prog X.w) X.A (assign target X.env u) (fun _ s'=>∃σ' H',Inv X pins σ' H' s'/\Q σ' H') X.xe s
def PGs(X:Cx)(ts:List Expr)(t:TGs):Prop :=
 ∀(pins:List (Addr×Obj)) (s:Af) (σ:St) (H:Hp) (vs:List V) (us:List Value) (Q:St->Hp->Prop),Inv X pins σ H s->Vals vs us->t vs σ H Q ->
  wpAny (model X.prog X.w) X.A (assignInOrder ((Jf ts X.env).map (·.2)) us) (fun _ s'=>∃σ' H',Inv X pins σ' H' s'/\Q σ' H') X.xe s
abbrev TSet:=V->V->V->Hp->(Hp->Prop)->Prop
def PSet(X:Cx)(t:TSet):Prop :=
 ∀(pins:List (Addr×Obj)) (s:Af) (σ:St) (H:Hp) (o i v:V) (ov iv u:Value) (Q:Hp->Prop),Inv X pins σ H s->RelV o ov->RelV i iv->RelV v u->t o i v H Q ->
  wpAny (model X.prog X.w) X.A (setItem ov iv u) (fun _ s'=>∃H',Inv X pins σ H' s'/\Q H') X.xe s
abbrev TIp:=V->V->Hp->VK->Prop
def PIp(X:Cx)(op:Operator)(t:TIp):Prop :=
 ∀(pins:List (Addr×Obj)) (s:Af) (σ:St) (H:Hp) (x y:V) (v u:Value) (Q:VK),Inv X pins σ H s->RelV x v->RelV y u->t x y H Q ->
  wpAny (model X.prog X.w) X.A (Ti op v u) (EP X pins σ Q) X.xe s
section
variable{X:Cx}{pos:Pos}
def gName(i:Nat):TG:=fun v σ H Q=>Q (σ.set i (some v)) H
theorem q0o{i:Nat}{x:Str}(hN:X.N.Nodup)(hi:X.N[i]?=some x)(hx:Loc X.env.scope x)(hf:X.fn x=true\/X.env.scope.names.lookup x=some .local:=by first|exact .inl rfl|exact .inr rfl|assumption):PG X (.Name x pos) (gName i):=by
 intro pins s σ H v u Q I r h;exact Ou (q5j I hN hi hx r (fun s' I'=>⟨_,H,I',h⟩) hf)
def gNil:TGs:=fun vs σ H Q=>vs=[]/\Q σ H
def gCons(t:TG)(u:TGs):TGs:=fun vs σ H Q=>∃v r,vs=v::r/\t v σ H fun σ' H'=>u r σ' H' Q
theorem q1t:PGs X [] gNil:=by
 intro pins s σ H vs us Q I r h;obtain⟨e,h⟩:=h;exact assignInOrder_nil ⟨σ,H,I,h⟩
theorem q0q{e:Expr}{es:List Expr}{t:TG}{u:TGs}(h1:PG X e t)(h2:PGs X es u)(hs:(Jf (e::es) X.env).map (·.2)=assign e X.env::(Jf es X.env).map (·.2):=by rfl):PGs X (e::es) (gCons t u):=by
 intro pins s σ H vs us Q I r h;obtain⟨v,vr,e1,h⟩:=h;subst e1;cases r with
 |cons r rr =>
  rw[hs];refine assignInOrder_cons (thn (h1 pins s σ H _ _ _ I r h) fun _ s1 ⟨σ1,H1,I1,q1⟩=>?_);exact h2 pins s1 σ1 H1 _ _ Q I1 rr q1
def gTup(K:Ah)(n:Nat)(t:TGs):TG:=fun v σ H Q=>∃a xs,v=.ref a/\SqT K H a xs/\xs.length=n/\t xs σ H Q
theorem pg_tup{k:Nat}(hc:X.calm=true)(h:PGs X es t)(hn:(Jf es X.env).length=n:=by rfl)(hst:(Jf es X.env).findIdx? (·.1)=none:=by rfl):PG X (.Tuple es k pos) (gTup X.K n t):=by
 intro pins s σ H v u Q I r hw;obtain⟨a,xs,e1,hq,hl,hw⟩:=hw;subst e1;cases r;obtain⟨its,rv,ht,hz⟩:=I.tuple hq;refine assign_Tuple_tuple (I.ok.hd hc) ht (by simp[hn,<- hl,rv.length]) hst fun h' hx=>?_;have I1:Inv X pins σ H { s with heap:=h' }:=I.kept (t':=s.toks) fun b o e=>hx b o (Bd (Al e)) e;exact h pins _ σ H xs _ Q I1 (by simpa using rv) hw
def gSub(to ti:TE)(t:TSet):TG:=fun v σ H Q=>to σ H fun o H1=>ti σ H1 fun i H2=>t o i v H2 fun H3=>Q σ H3
theorem z5u{o i:Expr}{to ti:TE}{t:TSet}(ho:PE X o to)(hi:PE X i ti)(hs:PSet X t)(ha:∀v,assign (.Subscript o i pos) X.env v=(do
   let ov<-Jq [v] (eval o X.env);let iv<-Jq [v,ov] (eval i X.env)
   Nj pos
   Jq [v,ov,iv] (setItem ov iv v)
   release [v,ov,iv] []):=by intro _;rfl):PG X (.Subscript o i pos) (gSub to ti t):=by
 intro pins s σ H v u Q I r h;refine Ab (Cm (thn (ho pins s σ H _ I h) fun ov s1 ⟨x,H1,I1,r1,q1⟩=>?_));refine Ab (Cm (thn (hi pins s1 σ H1 _ I1 q1) fun iv s2 ⟨y,H2,I2,r2,q2⟩=>?_));refine Ab (Dv (Ab (Cm (thn (hs pins s2 σ H2 x y v ov iv u _ I2 r1 r2 r q2) fun _ s3 ⟨H3,I3,q3⟩=>?_))));exact wpAny_release ⟨σ,H3,I3,q3⟩
def tAsg(te:TE)(g:TG):TS:=fun D σ H=>te σ H fun x H1=>g x σ H1 D.nx
theorem q7d{tg e:Expr}{te:TE}{g:TG}(he:PE X e te)(hg:PG X tg g)(hs:swapsWithSole [tg] e pos.line X.env=pure false:=by rfl)(hw:swappedStores [tg] e X.env=pure none:=by rfl)(h1:(Jf [tg] X.env).map (·.2)=[assign tg X.env]:=by rfl):PS X (.Assign [tg] e pos) (tAsg te g):=by
 intro pins s σ H D I h;refine wpAny_Assign_stores (thn (he pins s σ H _ I h) fun v s1 ⟨x,H1,I1,r1,q1⟩=>?_) hs hw;rw[h1];exact thn (hg pins s1 σ H1 x v _ I1 r1 q1) fun _ s2 q=>q
theorem q0l{i:Nat}{x:Str}{e:Expr}{te:TE}{pos':Pos}(hN:X.N.Nodup)(hi:X.N[i]?=some x)(hx:Loc X.env.scope x)(he:PE X e te)(hs:Ii e (some (.Name x pos')) pos.line X.env=pure false:=by rfl)(hf:X.fn x=true\/X.env.scope.names.lookup x=some .local:=by first|exact .inl rfl|exact .inr rfl|assumption):
  PS X (.Assign [.Name x pos'] e pos) (tAsg te (gName i)):=by
 intro pins s σ H D I h;refine wpAny_Assign_Name (thn (he pins s σ H _ I h) fun v s1 ⟨y,H1,I1,r1,q1⟩=>?_) hs;exact q5j I1 hN hi hx r1 (fun s2 I2=>⟨_,H1,I2,q1⟩) hf
def tAug(i:Nat)(te:TE)(ti:TIp):TS:=fun D σ H=>∃x,σ[i]?=some (some x)/\te σ H fun y H1=>ti x y H1 fun z H2=>D.nx (σ.set i (some z)) H2
theorem x2b{i:Nat}{x:Str}{e:Expr}{te:TE}{op:Operator}{ti:TIp}{pos':Pos}(hN:X.N.Nodup)(hi:X.N[i]?=some x)(hx:Loc X.env.scope x)(he:PE X e te)(ho:PIp X op ti)(hf:X.fn x=true\/X.env.scope.names.lookup x=some .local:=by first|exact .inl rfl|exact .inr rfl|assumption):
  PS X (.AugAssign (.Name x pos') op e pos) (tAug i te ti):=by
 intro pins s σ H D I h;obtain⟨v,e1,h⟩:=h;obtain⟨m,hn,hl⟩:=I.loc;have vis:Vis X.env.scope x:=by rcases hx with k|k;exact .inl k;exact .inr (.inl k)
 obtain⟨u,r,l⟩:=hl i x v hi e1 vis;refine wpAny_AugAssign_Name ?_;have go:wpAny (model X.prog X.w) X.A (eval e X.env) (fun w s₂=>wpAny (model X.prog X.w) X.A (Ti op u w) (fun r s₃=>wpAny (model X.prog X.w) X.A (storeName X.env x r) (fun _=>SP X pins D .next) X.xe s₃) X.xe s₂) X.xe s:=by
  refine thn (he pins s σ H _ I h) fun w s1 ⟨y,H1,I1,r1,q1⟩=>?_;refine thn (ho pins s1 σ H1 v y u w _ I1 r r1 q1) fun z s2 ⟨zv,H2,I2,r2,q2⟩=>?_;exact q5j I2 hN hi hx r2 (fun s3 I3=>⟨_,H2,I3,q2⟩) hf
 rcases l with⟨hk,hm⟩|⟨hk,c,hc,hcell⟩
 ·exact Rx I.ok.kind hk hn hm go
 ·rcases hk with hk|hk
  ·exact Sy I.ok.kind hk hc hcell go
  ·rcases hx with k|k
   ·have:X.env.scope.names.lookup x=some .free:=hk;rw[k] at this;cases this
   ·have:X.env.scope.names.lookup x=some .free:=hk;rw[k] at this;cases this
def tAugS(to ti te:TE)(tget:V->V->Hp->VK->Prop)(tip:TIp)(tset:TSet):TS:=fun D σ H=>to σ H fun o H1=>ti σ H1 fun i H2=>tget o i H2 fun x H3=>te σ H3 fun y H4=>tip x y H4 fun z H5=>tset o i z H5 fun H6=>D.nx σ H6
def PGet(X:Cx)(t:V->V->Hp->VK->Prop):Prop :=
 ∀(pins:List (Addr×Obj)) (s:Af) (σ:St) (H:Hp) (o i:V) (ov iv:Value) (Q:VK),Inv X pins σ H s->RelV o ov->RelV i iv->t o i H Q ->
  wpAny (model X.prog X.w) X.A (getItem ov iv) (EP X pins σ Q) X.xe s
theorem x3k(ho:PE X o to)(hi:PE X i ti)(hg:PGet X tget)(he:PE X e te)(hp:PIp X op tip)(hs:PSet X tset)(ha:∀ov iv new,augStore i ov iv new=(do Jq [new,ov,iv] (setItem ov iv new);release [new,ov,iv] [];pure .next):=by intros;rfl):PS X (.AugAssign (.Subscript o i tpos) op e pos) (tAugS to ti te tget tip tset):=by
 intro pins s σ H D I h;refine wpAny_AugAssign_SubscriptAny (thn (ho pins s σ H _ I h) fun ov s1 ⟨x1,H1,I1,r1,q1⟩=>?_) ha;refine thn (hi pins s1 σ H1 _ I1 q1) fun iv s2 ⟨x2,H2,I2,r2,q2⟩=>?_;refine thn (hg pins s2 σ H2 x1 x2 ov iv _ I2 r1 r2 q2) fun old s3 ⟨x3,H3,I3,r3,q3⟩=>?_;refine thn (he pins s3 σ H3 _ I3 q3) fun v s4 ⟨x4,H4,I4,r4,q4⟩=>?_;refine thn (hp pins s4 σ H4 x3 x4 old v _ I4 r3 r4 q4) fun new s5 ⟨x5,H5,I5,r5,q5⟩=>?_;exact thn (hs pins s5 σ H5 x1 x2 x5 ov iv new _ I5 r1 r2 r5 q5) fun _ s6 ⟨H6,I6,q6⟩=>⟨σ,H6,I6,q6⟩
end
section
variable{X:Cx}{pos:Pos}
def tWhile(c:TT)(tb:TS):TS:=fun D σ H=>∃W:Nat->St->Hp->Prop,(∃m,W m σ H)/\∀m σ H,W m σ H ->
 c σ H fun b H1=>if b=true then ∃N:St->Hp->Prop,(∀σ' H',N σ' H'->∃m',m'<m/\W m' σ' H')/\tb { D with nx:=N,ct:=N,bk:=D.nx } σ H1 else D.nx σ H1
theorem z2z{c:Expr}{body:List Stmt}{tc:TT}{tb:TS}(hp:Tj (model X.prog X.w) X.A X.env X.xe)(hc:PT X c tc)(hb:PSs X body tb):PS X (.While c body [] pos) (tWhile tc tb):=by
 intro pins s σ H D I h;obtain⟨W,⟨m0,w0⟩,turn⟩:=h;refine wpAny_While (codeAny_whileLoop (fun n s'=>∃σ' H',Inv X pins σ' H' s'/\W n σ' H') ?_ m0 ⟨σ,H,I,w0⟩);rintro n s1 ⟨σ1,H1,I1,w1⟩;refine Gz hp (thn (hc pins s1 σ1 H1 _ I1 (turn n σ1 H1 w1)) fun b s2 ⟨H2,I2,q2⟩=>?_);cases b with
 |true =>
  obtain⟨N,hN,q2⟩:=q2;refine Gz hp (thn (hb pins s2 σ1 H2 _ I2 q2) fun f s3 q3=>?_);cases f with
  |next =>
   obtain⟨σ3,H3,I3,n3⟩:=q3;obtain⟨m',hm,w3⟩:=hN σ3 H3 n3;exact⟨m',hm,σ3,H3,I3,w3⟩
  |cont =>
   obtain⟨σ3,H3,I3,n3⟩:=q3;obtain⟨m',hm,w3⟩:=hN σ3 H3 n3;exact⟨m',hm,σ3,H3,I3,w3⟩
  |brk=>exact q3
  |ret v=>exact q3
 |false =>
  exact Jw ⟨σ1,H2,I2,q2⟩
end
structure It where
 go:Nat->Hp->Prop
 yld:Nat->Hp->V->Hp->Prop
 stop:Nat->Hp->Prop
def FpOk(X:Cx)(pins:List (Addr×Obj))(H:Hp)(b:Addr):Prop :=
 H b=none/\b≠X.env.locals/\b∉X.fs/\(b∈X.ex\/X.s₀.heap.objs.size<=b)/\(∀x c,X.env.cells.lookup x=some c->c≠b)/\∀p∈X.pn++pins,p.1≠b
theorem Inv.fpOk{σ:St}{b:Addr}(I:Inv X pins σ H s)(hb:s.heap.objs.size<=b)(hn:H' b=none):FpOk X pins H' b:=by
 refine⟨hn,Dk (Bm I.lt hb),I.nofs hb,.inr (Bb I.sz hb),fun x c e z=>?_,fun p hp z=>?_⟩
 ·obtain⟨v,q⟩:=I.cell x c e;exact absurd (Bm q.lt (by rw[z];exact hb)) (Fq _)
 ·exact absurd (Bm (Al (I.pin p hp).1) (by rw[z];exact hb)) (Fq _)
structure Turn (P:Program) (w:World) (K:Ah) (tg:Expr) (J:It) (fp:List Addr) (it:Addr) (tn:Nat->Heap->Prop):Prop where
 mem:it∈fp
 obj:∀i h,tn i h->∀b∈fp,∃o,h.get? b=some o/\∀v,o.data≠.cell v
 keep:∀i h h',tn i h->(∀b∈fp,∀o,h.get? b=some o->h'.get? b=some o)->tn i h'
 item:∀(X:Cx),X.prog=P->X.w=w->X.K=K->X.calm=true->∀(i:Nat) (pins:List (Addr×Obj)) (s:Af) (σ:St) (H:Hp) (E:Value->Af->Prop),Inv X pins σ H s->(∀b∈fp,FpOk X pins H b)->tn i s.heap->J.go i H ->
  wpAny (model P w) X.A (Iw (.ref it)) (fun r s1=>∃u,r=some u /\
   wpAny (model P w) X.A (Mo tg (.ref it) u) (fun _ s2=>∃x H',Inv X pins σ H' s2/\RelV x u/\J.yld i H x H'/\tn (i+1) s2.heap/\∀b∈fp,H' b=none) E s1) E s
 done:∀(X:Cx),X.prog=P->X.w=w->X.K=K->X.calm=true->∀(i:Nat) (pins:List (Addr×Obj)) (s:Af) (σ:St) (H:Hp) (E:Value->Af->Prop),Inv X pins σ H s->(∀b∈fp,FpOk X pins H b)->tn i s.heap->J.stop i H ->
  wpAny (model P w) X.A (Iw (.ref it)) (fun r s1=>r=none/\Inv X pins σ H s1) E s
 self:∀(A:Around) (i:Nat) (s:Af) (Q:Value->Af->Prop) (E:Value->Af->Prop),tn i s.heap->Q (.ref it) s->wpAny (model P w) A (Lm (.ref it)) Q E s
abbrev TI:=St->Hp->(It->Hp->Prop)->Prop
def PIE(X:Cx)(pins:List (Addr×Obj))(σ:St)(tg:Expr)(R:It->Hp->Prop)(itv:Value)(s2:Af):Prop :=
 ∃(it:Addr) (fp:List Addr) (tn:Nat->Heap->Prop) (J:It) (H':Hp),itv=.ref it/\Inv X pins σ H' s2/\Turn X.prog X.w X.K tg J fp it tn/\tn 0 s2.heap/\(∀b∈fp,FpOk X pins H' b)/\R J H'
def PI(X:Cx)(tg iter:Expr)(wi:TI):Prop :=
 ∀(pins:List (Addr×Obj)) (s:Af) (σ:St) (H:Hp) (R:It->Hp->Prop),Inv X pins σ H s->wi σ H R ->
  wpAny (model X.prog X.w) X.A (eval iter X.env) (fun v s1=>wpAny (model X.prog X.w) X.A (Lm v) (PIE X pins σ tg R) X.xe s1) X.xe s
theorem z1u (ho : s.heap.get? it = some o) (hc : o.cls = .type n) (hd : o.data = .fields vs)
    (hn : ["enumerate", "zip", "dict_itemiterator", "dict_reverseitemiterator", "odict_iterator", "itertools.zip_longest", "itertools.pairwise"].contains n = false) (hQ : Q () s) : wpAny M A (Mo tg (.ref it) u) Q E s := by
  cases tg <;> first
    | exact Ad hQ
    | (cases u <;> first
        | exact Ad hQ
        | (refine Ab (Vu ho ?_)
           rw [hc, hd]
           show wpAny M A (if (["enumerate", "zip", "dict_itemiterator", "dict_reverseitemiterator", "odict_iterator", "itertools.zip_longest", "itertools.pairwise"].contains n && vs[0]? == some (Dl _)) = true then _ else _) Q E s
           rw [if_neg (by intro h; rw [hn, Rb] at h; cases h)]
           exact Ad hQ))
def Itl(K:Ah)(a:Addr):It :=
 ⟨fun i H=>∃xs x,SqL K H a xs/\xs[i]?=some x,fun i H x H'=>H'=H/\∀xs,SqL K H a xs->xs[i]?=some x,fun i H=>∃xs,SqL K H a xs/\xs.length<=i⟩
def Itt(K:Ah)(a:Addr):It :=
 ⟨fun i H=>∃xs x,SqT K H a xs/\xs[i]?=some x,fun i H x H'=>H'=H/\∀xs,SqT K H a xs->xs[i]?=some x,fun i H=>∃xs,SqT K H a xs/\xs.length<=i⟩
def Itr(lo:Int)(n:Nat):It:=⟨fun i _=>i<n,fun i H x H'=>H'=H/\x=.int (lo+i),fun i _=>n<=i⟩
theorem z5v{K:Ah}(a it:Addr):Turn P w K tg (Itl K a) [it] it (fun i h=>h.IsListIter it a i) where
 mem:=by simp
 obj:=fun i h st b hb=>by
  have e:b=it:=by grind
  subst e;obtain⟨o,e,c,d⟩:=st;exact⟨o,e,fun v z=>by rw[d] at z;cases z⟩
 keep:=fun i h h' st k=>st.at fun o e=>k it (by simp) o e
 item:=by
  intro X hP hw hK hc i pins s σ H E I hf st hg;subst hP hw hK;obtain⟨xs,x,hq,hx⟩:=hg;obtain⟨its,rv,p,hz⟩:=I.list hq;obtain⟨u,hu,ru⟩:=rv.get hx;obtain⟨f0,f1,f2,f3,f4,f5⟩:=hf it (by simp);refine Qo st p.isList (by simpa using hu) fun h' st' sb=>?_;have I1:Inv X pins σ H { s with heap:=h' }:=I.turned (t':=s.toks) (fun b o hb e=>(sb.2 b hb).trans e) f0 f1 f3 f4 f5;obtain⟨o,e,c,d⟩:=id st';exact⟨u,rfl,z1u e c d (by decide) ⟨x,H,I1,ru,⟨rfl,fun ys hy=>by rw[I.list_inj hy hq];exact hx⟩,st',fun b hb=>(hf b hb).1⟩⟩
 done:=by
  intro X hP hw hK hc i pins s σ H E I hf st hg;subst hP hw hK;obtain⟨xs,hq,hx⟩:=hg;obtain⟨its,rv,p,hz⟩:=I.list hq;obtain⟨f0,f1,f2,f3,f4,f5⟩:=hf it (by simp);have hl:=rv.length;exact Rc (I.ok.hd hc) st p.isList (by simp;lia) fun h' eb=>⟨rfl,I.turned (t':=s.toks) (fun b o hb e=>eb b o hb e) f0 f1 f3 f4 f5⟩
 self:=fun _ _ _ _ _ st h=>wpAny_pyIter_listiter st h
theorem z4h{K:Ah}(a it:Addr):Turn P w K tg (Itt K a) [it] it (fun i h=>h.IsTupleIter it a i) where
 mem:=by simp
 obj:=fun i h st b hb=>by
  have e:b=it:=by grind
  subst e;obtain⟨o,e,c,d⟩:=st;exact⟨o,e,fun v z=>by rw[d] at z;cases z⟩
 keep:=fun i h h' st k=>st.at fun o e=>k it (by simp) o e
 item:=by
  intro X hP hw hK hc i pins s σ H E I hf st hg;subst hP hw hK;obtain⟨xs,x,hq,hx⟩:=hg;obtain⟨its,rv,p,hz⟩:=I.tuple hq;obtain⟨u,hu,ru⟩:=rv.get hx;obtain⟨f0,f1,f2,f3,f4,f5⟩:=hf it (by simp);refine wpAny_pyNext_tuple_item st (show s.heap.IsTuple a its.toArray from p) (by simpa using hu) fun h' st' sb=>?_;have I1:Inv X pins σ H { s with heap:=h' }:=I.turned (t':=s.toks) (fun b o hb e=>(sb.2 b hb).trans e) f0 f1 f3 f4 f5;obtain⟨o,e,c,d⟩:=id st';exact⟨u,rfl,z1u e c d (by decide) ⟨x,H,I1,ru,⟨rfl,fun ys hy=>by rw[I.tuple_inj hy hq];exact hx⟩,st',fun b hb=>(hf b hb).1⟩⟩
 done:=by
  intro X hP hw hK hc i pins s σ H E I hf st hg;subst hP hw hK;obtain⟨xs,hq,hx⟩:=hg;obtain⟨its,rv,p,hz⟩:=I.tuple hq;obtain⟨f0,f1,f2,f3,f4,f5⟩:=hf it (by simp);have hl:=rv.length;exact wpAny_pyNext_tuple_end (I.ok.hd hc) st (show s.heap.IsTuple a its.toArray from p) (by simp;lia) fun h' eb=>⟨rfl,I.turned (t':=s.toks) (fun b o hb e=>eb b o hb e) f0 f1 f3 f4 f5⟩
 self:=fun _ _ _ _ _ st h=>wpAny_pyIter_tupleiter st h
theorem z4i{K:Mp}(it:Addr)(lo:Int)(n:Nat):Turn P w K tg (Itr lo n) [it] it (fun i h=>IsRangeIter h it (lo+(i:Nat)*1) ((n:Int)-(i:Nat)) 1) where
 mem:=by simp
 obj:=fun i h st b hb=>by
  have e:b=it:=by grind
  subst e;exact⟨_,st,fun v z=>by
   have z':=z;cases z'⟩
 keep:=fun i h h' st k=>k it (by simp) _ st
 item:=by
  intro X hP hw hK hc i pins s σ H E I hf st hg;subst hP hw hK;obtain⟨f0,f1,f2,f3,f4,f5⟩:=hf it (by simp);have W:=Walks.range (prog:=X.prog) (w:=X.w) (I.ok.hd hc) it lo 1 n;refine W.item i s _ _ hg st fun v h' tk hv st' kk=>?_;obtain⟨t,rfl⟩:=hv;have I1:Inv X pins σ H { s with heap:=h',toks:=tk }:=I.turned (fun b o hb e=>kk b o (by simpa using hb) e) f0 f1 f3 f4 f5;refine⟨_,rfl,z1u st' rfl rfl (by decide) ⟨.int (lo+i),H,I1,⟨t,?_⟩,⟨rfl,rfl⟩,st',fun b hb=>(hf b hb).1⟩⟩;rw[Int.mul_one]
 done:=by
  intro X hP hw hK hc i pins s σ H E I hf st hg;obtain⟨f0,f1,f2,f3,f4,f5⟩:=hf it (by simp);exact wpAny_pyNext_range_end (I.ok.hd hc) st (by have:n<=i:=hg;lia) fun h' eb=>⟨rfl,I.turned (t':=s.toks) (fun b o hb e=>eb b o hb e) f0 f1 f3 f4 f5⟩
 self:=fun _ _ _ _ _ st h=>wpAny_pyIter_rangeiter st h
open PySem PySem.Spec PyProof.Rows
section
variable{X:Cx}{tg:Expr}
theorem z3a{σ:St}{lo:Int}(I:Inv X pins σ H s)(h1 : -(2^62)<=lo)(h2:lo<2^62)(h3 : -(2^62)<=hi)(h4:hi<2^62)(q:R (Itr lo (hi-lo).toNat) H):wpAny (model X.prog X.w) X.A (Lm (.ref s.heap.objs.size)) (PIE X pins σ tg R) E { s with heap:=s.heap.push { cls:=.type "range",data:=.fields #[.int lo t,.int hi u,.int 1 v] },toks:=tk }:=by
 refine wpAny_pyIter_range (IsRange.new ..) (small_one h1 h2 h3 h4) ?_;have I1:Inv X pins σ H { s with heap:=s.heap.push { cls:=.type "range",data:=.fields #[.int lo t,.int hi u,.int 1 v] },toks:=tk }:=I.kept fun b o e=>Ae _ e;refine⟨(s.heap.push { cls:=.type "range",data:=.fields #[.int lo t,.int hi u,.int 1 v] }).objs.size,[(s.heap.push { cls:=.type "range",data:=.fields #[.int lo t,.int hi u,.int 1 v] }).objs.size],_,_,H,rfl,
  I1.kept (t':=tk) fun b o e=>Ae _ e,z4i _ lo (hi-lo).toNat,?_,fun b hb=>?_,q⟩
 ·have e1:lo+((0:Nat):Int)*1=lo:=by simp
  have e2:(((hi-lo).toNat:Nat):Int)-((0:Nat):Int)=Cv.Range.rangeSize lo hi 1:=by rw[rangeSize_one];split<;>lia
  rw[e1,e2];exact Ak _ rfl
 ·have e:b=(s.heap.push { cls:=.type "range",data:=.fields #[.int lo t,.int hi u,.int 1 v] }).objs.size:=by simpa using hb
  subst e;exact I1.fpOk (Aj _) (I1.hok.fresh (Aj _))
def iRng1(ta:TA):TI:=fun σ H R=>ta σ H fun vs H1=>∃j:Int,vs=[.int j] /\ -(2^62)<=j/\j<2^62/\R (Itr 0 j.toNat) H1
def iRng2(ta:TA):TI:=fun σ H R=>ta σ H fun vs H1=>∃i j:Int,vs=[.int i,.int j]/\(-(2^62)<=i/\i<2^62 /\ -(2^62)<=j/\j<2^62)/\R (Itr i (j-i).toNat) H1
theorem q1v{a:Expr}{ta:TA}{p pos:Pos}(hg:Gl X "range")(hm:X.mg "range" = none)(ha:PA X [a] ta)(hs:Ax [a] X.env=[(false,eval a X.env)]:=by rfl):PI X tg (.Call (.Name "range" p) [a] [] pos) (iRng1 ta):=by
 intro pins s σ H R I h;refine Call_ (q5b I hg hm boot_range (Dg (thn (ha pos pins s σ H _ I h) fun us s1 ⟨vs,H1,I1,r1,q1⟩=>?_) hs rfl));obtain⟨j,e,q1,q2,q⟩:=q1;subst e;cases r1 with
 |cons r rr =>
  cases rr;obtain⟨t,rfl⟩:=r;exact call_range_1 (z3a I1 (by lia) (by lia) q1 q2 (by simpa using q))
theorem z5w{a b:Expr}{ta:TA}{p pos:Pos}(hg:Gl X "range")(hm:X.mg "range" = none)(ha:PA X [a,b] ta)(hs:Ax [a,b] X.env=[(false,eval a X.env),(false,eval b X.env)]:=by rfl)(hs2:Ax [b] X.env=[(false,eval b X.env)]:=by rfl):
  PI X tg (.Call (.Name "range" p) [a,b] [] pos) (iRng2 ta):=by
 intro pins s σ H R I h;refine Call_ (q5b I hg hm boot_range (Dg (thn (ha pos pins s σ H _ I h) fun us s1 ⟨vs,H1,I1,r1,q1⟩=>?_) (by rw[hs,hs2]) (by rw[hs2];rfl)));obtain⟨i,j,e,⟨q1,q2,q3,q4⟩,q⟩:=q1;subst e;cases r1 with
 |cons r rr =>
  cases rr with
  |cons r' rr =>
   cases rr;obtain⟨t,rfl⟩:=r;obtain⟨t',rfl⟩:=r';exact call_range_2 (z3a I1 q1 q2 q3 q4 q)
def tFor(wi:TI)(g:TG)(tb:TS):TS:=fun D σ H=>wi σ H fun J H1=>∃W:Nat->Nat->St->Hp->Prop,(∃m,W 0 m σ H1)/\∀i m σ H,W i m σ H ->
 (J.stop i H/\D.nx σ H)\/(J.go i H/\∃N:St->Hp->Prop,(∀σ' H',N σ' H'->∃m',m'<m/\W (i+1) m' σ' H')/\∀x H',J.yld i H x H'->g x σ H' fun σ2 H2=>tb { D with nx:=N,ct:=N,bk:=D.nx } σ2 H2)
def pinsAt(fp:List Addr)(h:Heap):List (Addr×Obj):=fp.filterMap fun b=>(h.get? b).map fun o=>(b,o)
theorem q2a(hb:b∈fp)(e:h.get? b=some o):(b,o)∈pinsAt fp h:=Tn.mpr ⟨b,hb,by rw[e];rfl⟩
theorem z5x(hp:p∈pinsAt fp h):p.1∈fp/\h.get? p.1=some p.2:=by
 obtain⟨b,hb,e⟩:=Tn.mp hp;cases q:h.get? b with
 |none=>rw[q] at e;cases e
 |some o =>
  rw[q] at e;have e':=Bs e;subst e';exact⟨hb,q⟩
theorem Inv.pinned{σ:St}(I:Inv X pins σ H s)(hf:∀b∈fp,FpOk X pins H b)(ho:∀b∈fp,∃o,s.heap.get? b=some o/\∀v,o.data≠.cell v):Inv X (pins++pinsAt fp s.heap) σ H s :=
 I.pins_of fun p hp=>(Au.mp hp).elim (fun z=>I.pin p (Bw _ z)) fun z=>by
  obtain⟨hb,e⟩:=z5x z;obtain⟨f0,f1,f2,_⟩:=hf p.1 hb;obtain⟨o,e',d⟩:=ho p.1 hb;rw[e] at e';cases e';exact⟨e,f0,f1,f2,d⟩
theorem Inv.unpinned{σ:St}(I:Inv X (pins++pl) σ H s):Inv X pins σ H s:=I.pins_of fun p hp=>I.pin p (Bw _ (Cy _ hp))
theorem q1p{iter:Expr}{body:List Stmt}{wi:TI}{g:TG}{tb:TS}{pos:Pos}(hp:Tj (model X.prog X.w) X.A X.env X.xe)(hc:X.calm=true)(hi:PI X tg iter wi)(hg:PG X tg g)(hb:PSs X body tb)(hs:∀x,Lf iter X.env x=pure x:=by intro _;rfl):PS X (.For tg iter body [] pos) (tFor wi g tb):=by
 intro pins s σ H D I h;refine wpAny_For (thn (hi pins s σ H _ I h) fun v s1 h1=>thn h1 fun itv s2 h2=>?_) hs;obtain⟨it,fp,tn,J,H2,e,I2,T,st2,f2,W,⟨m0,w0⟩,turn⟩:=h2;subst e;have stat:∀{H':Hp},(∀b∈fp,H' b=none)->∀b∈fp,FpOk X pins H' b:=fun hn b hb=>⟨hn b hb,(f2 b hb).2⟩
 refine codeAny_forLoop_any (fun n s'=>∃i σ' H',Inv X pins σ' H' s'/\tn i s'.heap/\(∀b∈fp,H' b=none)/\W i n σ' H') ?_ m0 ⟨0,σ,H2,I2,st2,fun b hb=>(f2 b hb).1,w0⟩;rintro n s3 ⟨i,σ3,H3,I3,st3,fr3,w3⟩;rcases turn i n σ3 H3 w3 with⟨stop,qn⟩|⟨go,N,hN,step⟩
 ·refine Gz hp (thn (T.done X rfl rfl rfl hc i pins s3 σ3 H3 X.xe I3 (stat fr3) st3 stop) fun r s4 ⟨hr,I4⟩=>?_);subst hr;exact Jw ⟨σ3,H3,I4,qn⟩
 ·refine Gz hp (thn (T.item X rfl rfl rfl hc i pins s3 σ3 H3 X.xe I3 (stat fr3) st3 go) fun r s4 ⟨u,hr,h4⟩=>?_);subst hr;refine Gz hp (thn h4 fun _ s5 ⟨x,H5,I5,r5,y5,st5,fr5⟩=>?_);have I5':=I5.pinned (stat fr5) (T.obj _ _ st5);refine Gz hp (thn (hg _ s5 σ3 H5 x u _ I5' r5 (step x H5 y5)) fun _ s6 ⟨σ6,H6,I6,q6⟩=>?_);refine Gz hp (thn (hb _ s6 σ6 H6 _ I6 q6) fun f s7 q7=>?_);have again:∀{σ7:St} {H7:Hp},Inv X (pins++pinsAt fp s5.heap) σ7 H7 s7->N σ7 H7->∃m,m<n/\∃i σ' H',Inv X pins σ' H' s7/\tn i s7.heap/\(∀b∈fp,H' b=none)/\W i m σ' H':=fun{σ7 H7} I7 n7=>by
   obtain⟨m',hm,w7⟩:=hN σ7 H7 n7;refine⟨m',hm,i+1,σ7,H7,I7.unpinned,T.keep _ _ _ st5 fun b hb o e=>(I7.pin (b,o) (Bw _ (Bw _ (q2a hb e)))).1,fun b hb=>?_,w7⟩;obtain⟨o,e,d⟩:=T.obj _ _ st5 b hb;exact(I7.pin (b,o) (Bw _ (Bw _ (q2a hb e)))).2.1
  cases f with
  |next=>obtain⟨σ7,H7,I7,n7⟩:=q7;exact again I7 n7
  |cont=>obtain⟨σ7,H7,I7,n7⟩:=q7;exact again I7 n7
  |brk=>obtain⟨σ7,H7,I7,q7⟩:=q7;exact⟨σ7,H7,I7.unpinned,q7⟩
  |ret v=>obtain⟨x7,σ7,H7,I7,r7,q7⟩:=q7;exact⟨x7,σ7,H7,I7.unpinned,r7,q7⟩
end
theorem q3s{K:Mp}{g:TG}{tb:TS}{D:Ends}(Pv:Nat->St->Hp->Prop)(h0:Pv 0 σ H)(hl:∀i σ H,i<=xs.length->Pv i σ H->SqL K H a xs)(hs:∀i x σ H,xs[i]?=some x->Pv i σ H->g x σ H fun σ2 H2=>tb { D with nx:=Pv (i+1),ct:=Pv (i+1),bk:=D.nx } σ2 H2)(hd:∀σ H,Pv xs.length σ H->D.nx σ H):
  ∃W:Nat->Nat->St->Hp->Prop,(∃m,W 0 m σ H)/\∀i m σ H,W i m σ H ->
   ((Itl K a).stop i H/\D.nx σ H)\/((Itl K a).go i H/\∃N:St->Hp->Prop,(∀σ' H',N σ' H'->∃m',m'<m/\W (i+1) m' σ' H')/\∀x H',(Itl K a).yld i H x H'->g x σ H' fun σ2 H2=>tb { D with nx:=N,ct:=N,bk:=D.nx } σ2 H2):=by
 refine⟨fun i m σ H=>m=xs.length-i/\i<=xs.length/\Pv i σ H,⟨xs.length,by simp,Be _,h0⟩,?_⟩;rintro i m σ H ⟨rfl,hi,p⟩;have q:=hl i σ H hi p;by_cases hlt:i<xs.length
 ·refine .inr ⟨⟨xs,xs[i],q,by simp[hlt]⟩,Pv (i+1),fun σ' H' p'=>⟨xs.length-(i+1),by lia,rfl,hlt,p'⟩,fun x H' y=>?_⟩;obtain⟨e,y⟩:=y;subst e;exact hs i x σ _ (y xs q) p
 ·have e:i=xs.length:=by lia
  subst e;exact .inl ⟨⟨xs,q,Aj _⟩,hd σ H p⟩
theorem q2d{lo:Int}{g:TG}{tb:TS}{D:Ends}(Pv:Nat->St->Hp->Prop)(h0:Pv 0 σ H)(hs:∀i σ H,i<n->Pv i σ H->g (.int (lo+i)) σ H fun σ2 H2=>tb { D with nx:=Pv (i+1),ct:=Pv (i+1),bk:=D.nx } σ2 H2)(hd:∀σ H,Pv n σ H->D.nx σ H):
  ∃W:Nat->Nat->St->Hp->Prop,(∃m,W 0 m σ H)/\∀i m σ H,W i m σ H ->
   ((Itr lo n).stop i H/\D.nx σ H)\/((Itr lo n).go i H/\∃N:St->Hp->Prop,(∀σ' H',N σ' H'->∃m',m'<m/\W (i+1) m' σ' H')/\∀x H',(Itr lo n).yld i H x H'->g x σ H' fun σ2 H2=>tb { D with nx:=N,ct:=N,bk:=D.nx } σ2 H2):=by
 refine⟨fun i m σ H=>m=n-i/\i<=n/\Pv i σ H,⟨n,by simp,Be _,h0⟩,?_⟩;rintro i m σ H ⟨rfl,hi,p⟩;by_cases hlt:i<n
 ·refine .inr ⟨hlt,Pv (i+1),fun σ' H' p'=>⟨n-(i+1),by lia,rfl,hlt,p'⟩,fun x H' y=>?_⟩;obtain⟨e,y⟩:=y;subst e y;exact hs i σ _ hlt p
 ·have e:i=n:=by lia
  subst e;exact .inl ⟨Aj _,hd σ H p⟩
theorem z3b(Pv:St->Hp->Prop)(μ:St->Hp->Nat)(h0:Pv σ H)(hs:∀σ H,Pv σ H->c σ H fun b H1=>if b=true then tb { D with nx:=fun σ' H'=>Pv σ' H'/\μ σ' H'<μ σ H,ct:=fun σ' H'=>Pv σ' H'/\μ σ' H'<μ σ H,bk:=D.nx } σ H1 else D.nx σ H1)(mono:∀σ H Q Q',(∀b H1,Q b H1->Q' b H1)->c σ H Q->c σ H Q'):tWhile c tb D σ H:=by
 refine⟨fun m σ H=>m=μ σ H/\Pv σ H,⟨_,rfl,h0⟩,?_⟩;rintro m σ H ⟨rfl,p⟩;refine mono σ H _ _ (fun b H1 q=>?_) (hs σ H p);cases b with
 |true=>exact⟨_,fun σ' H' ⟨p',l⟩=>⟨_,l,rfl,p'⟩,q⟩
 |false=>exact q
open PySem PySem.Spec PyProof.Rows
abbrev R2:=V->V->Hp->VK->Prop
def OpR(X:Cx)(f:Value->Value->Sem Value)(r:R2):Prop :=
 ∀(pins:List (Addr×Obj)) (s:Af) (σ:St) (H:Hp) (x y:V) (v u:Value) (Q:VK),Inv X pins σ H s->RelV x v->RelV y u->r x y H Q ->
  wpAny (model X.prog X.w) X.A (f v u) (EP X pins σ Q) X.xe s
def UnR(X:Cx)(f:Value->Sem Value)(r:V->Hp->VK->Prop):Prop :=
 ∀(pins:List (Addr×Obj)) (s:Af) (σ:St) (H:Hp) (x:V) (v:Value) (Q:VK),Inv X pins σ H s->RelV x v->r x H Q ->
  wpAny (model X.prog X.w) X.A (f v) (EP X pins σ Q) X.xe s
def CallR(X:Cx)(f:Value)(r:List V->Hp->VK->Prop):Prop :=
 ∀(pins:List (Addr×Obj)) (s:Af) (σ:St) (H:Hp) (xs:List V) (us:List Value) (Q:VK),Inv X pins σ H s->Vals xs us->r xs H Q ->
  wpAny (model X.prog X.w) X.A (call f us) (EP X pins σ Q) X.xe s
def TruR(X:Cx)(r:V->Hp->(Bool->Hp->Prop)->Prop):Prop :=
 ∀(pins:List (Addr×Obj)) (s:Af) (σ:St) (H:Hp) (x:V) (v:Value) (Q:Bool->Hp->Prop),Inv X pins σ H s->RelV x v->r x H Q ->
  wpAny (model X.prog X.w) X.A (truthy v) (TP X pins σ Q) X.xe s
def tOp(r:R2)(ta tb:TE):TE:=fun σ H Q=>ta σ H fun x H1=>tb σ H1 fun y H2=>r x y H2 Q
def tUn(r:V->Hp->VK->Prop)(ta:TE):TE:=fun σ H Q=>ta σ H fun x H1=>r x H1 Q
def rI(C:Int->Int->Prop)(g:Int->Int->V):R2:=fun x y H Q=>∃i j,x=.int i/\y=.int j/\C i j/\Q (g i j) H
def rI0(g:Int->Int->V):R2:=fun x y H Q=>∃i j,x=.int i/\y=.int j/\Q (g i j) H
def rU(g:Int->V):V->Hp->VK->Prop:=fun x H Q=>∃i,x=.int i/\Q (g i) H
section
variable{X:Cx}{a b c:Expr}{ta tb tc:TE}{pos:Pos}
theorem binT(ha:PE X a ta)(hb:PE X b tb){σ:St}{R:V->V->Hp->Prop}(I:Inv X pins σ H s)(h:ta σ H fun x H1=>tb σ H1 fun y H2=>R x y H2){f:Value->Value->Sem Value}(hf:∀v u s2 x y H2,Inv X pins σ H2 s2->RelV x v->RelV y u->R x y H2->wpAny (model X.prog X.w) X.A (f v u) Q X.xe s2):
  wpAny (model X.prog X.w) X.A (eval a X.env) (fun v s₁=>wpAny (model X.prog X.w) X.A (eval b X.env) (fun u s₂=>wpAny (model X.prog X.w) X.A (f v u) Q X.xe s₂) X.xe s₁) X.xe s:=by
 refine thn (ha pins s σ H _ I h) fun v s1 ⟨x,H1,I1,r1,q1⟩=>?_;refine thn (hb pins s1 σ H1 _ I1 q1) fun u s2 ⟨y,H2,I2,r2,q2⟩=>?_;exact hf v u s2 x y H2 I2 r1 r2 q2
theorem q0s{op:Operator}{r:R2}(ho:OpR X (Ga op) r)(ha:PE X a ta)(hb:PE X b tb):PE X (.BinOp a op b pos) (tOp r ta tb):=by
 intro pins s σ H Q I h;exact wpAny_BinOp (binT ha hb I h fun v u s2 x y H2 I2 rx ry q=>ho pins s2 σ H2 x y v u Q I2 rx ry q)
theorem q3v{op:UnaryOp}{r:V->Hp->VK->Prop}(ho:UnR X (unaryOp op) r)(ha:PE X a ta):PE X (.UnaryOp op a pos) (tUn r ta):=by
 intro pins s σ H Q I h;exact UnaryOp_ (thn (ha pins s σ H _ I h) fun v s1 ⟨x,H1,I1,r1,q1⟩=>ho pins s1 σ H1 x v Q I1 r1 q1)
theorem opI{g:Int->Int->Int}(rule:∀(i j:Int) (t u:Tok) (s:Af) (Q:Value->Af->Prop) (E:Value->Af->Prop),C i j->Q (.int (g i j) s.toks) { s with toks:=s.toks+1 }->wpAny (model X.prog X.w) X.A (f (.int i t) (.int j u)) Q E s):
  OpR X f (rI C fun i j=>.int (g i j)):=by
 intro pins s σ H x y v u Q I rx ry h;obtain⟨i,j,rfl,rfl,hc,q⟩:=h;obtain⟨t,rfl⟩:=rx;obtain⟨t',rfl⟩:=ry;exact rule i j t t' s _ _ hc ⟨.int (g i j),H,I.tok _,⟨_,rfl⟩,q⟩
theorem opI0{g:Int->Int->Int}(rule:∀(i j:Int) (t u:Tok) (s:Af) (Q:Value->Af->Prop) (E:Value->Af->Prop),Q (.int (g i j) s.toks) { s with toks:=s.toks+1 }->wpAny (model X.prog X.w) X.A (f (.int i t) (.int j u)) Q E s):
  OpR X f (rI0 fun i j=>.int (g i j)):=by
 intro pins s σ H x y v u Q I rx ry h;obtain⟨i,j,rfl,rfl,q⟩:=h;obtain⟨t,rfl⟩:=rx;obtain⟨t',rfl⟩:=ry;exact rule i j t t' s _ _ ⟨.int (g i j),H,I.tok _,⟨_,rfl⟩,q⟩
theorem opB0{g:Int->Int->Bool}(rule:∀(i j:Int) (t u:Tok) (s:Af) (Q:Value->Af->Prop) (E:Value->Af->Prop),Q (.bool (g i j)) s->wpAny (model X.prog X.w) X.A (f (.int i t) (.int j u)) Q E s):
  OpR X f (rI0 fun i j=>.bl (g i j)):=by
 intro pins s σ H x y v u Q I rx ry h;obtain⟨i,j,rfl,rfl,q⟩:=h;obtain⟨t,rfl⟩:=rx;obtain⟨t',rfl⟩:=ry;exact rule i j t t' s _ _ ⟨.bl (g i j),H,I,rfl,q⟩
def CDiv(i j:Int):Prop:=0<j/\j<1073741824
def CPow(i j:Int):Prop:=0<=j/\j<=1000000/\i.natAbs<2^64
def CMul(i j:Int):Prop:=(-(2^64)<i/\i<2^64)\/(-(2^64)<j/\j<2^64)
theorem CMul.ok(h:CMul i j):IntMulOk i j:=by
 rcases h with⟨h1,h2⟩|⟨h1,h2⟩
 ·exact .of_left (intBits_le_64 h1 h2)
 ·exact .of_right (intBits_le_64 h1 h2)
theorem op_add:OpR X (Ga .Add) (rI0 fun i j=>.int (i+j)):=opI0 fun _ _ _ _ _ _ _ q=>add_int q
theorem z5y:OpR X (Ga .Sub) (rI0 fun i j=>.int (i-j)):=opI0 fun _ _ _ _ _ _ _ q=>sub_int q
theorem op_mul:OpR X (Ga .Mult) (rI CMul fun i j=>.int (i*j)):=opI fun _ _ _ _ _ _ _ hc q=>mul_int q hc.ok
theorem z5z:OpR X (Ga .FloorDiv) (rI CDiv fun i j=>.int (i / j)):=opI fun i j _ _ _ _ _ hc q=>by
 have h1:=hc.1;have h2:=hc.2;exact floordiv_int (by lia) (by rw[Int.fdiv_eq_ediv_of_nonneg i (by lia)];exact q) (.inl (PyProof.noPylong_small (by lia)))
theorem q7e:OpR X (Ga .Mod) (rI (fun _ j=>0<j) fun i j=>.int (i%j)):=opI fun i j _ _ _ _ _ hc q=>by
 exact mod_int' (by lia) (by rw[Int.fmod_eq_emod_of_nonneg i (by lia)];exact q)
theorem x2c:OpR X (Ga .Pow) (rI CPow fun i j=>.int (i^j.toNat)):=opI fun _ _ _ _ _ _ _ hc q=>pow_int_small hc.1 hc.2.1 hc.2.2 q
theorem z6a:OpR X (Ti .Add) (rI0 fun i j=>.int (i+j)):=opI0 fun _ _ _ _ _ _ _ q=>iadd_int q
theorem unI{g:Int->Int}(rule:∀(i:Int) (t:Tok) (s:Af) (Q:Value->Af->Prop) (E:Value->Af->Prop),Q (.int (g i) s.toks) { s with toks:=s.toks+1 }->wpAny (model X.prog X.w) X.A (f (.int i t)) Q E s):
  UnR X f (rU fun i=>.int (g i)):=by
 intro pins s σ H x v Q I rx h;obtain⟨i,rfl,q⟩:=h;obtain⟨t,rfl⟩:=rx;exact rule i t s _ _ ⟨.int (g i),H,I.tok _,⟨_,rfl⟩,q⟩
theorem q1y:UnR X (unaryOp .USub) (rU fun i=>.int (-i)):=unI fun _ _ _ _ _ q=>neg_int q
end
def scal:V->V->Bool
 |.non,.non=>true|.non,.int _=>true|.int _,.non=>true|.non,.bl _=>true|.bl _,.non=>true|.non,.str _=>true|.str _,.non=>true
 |.int _,.int _=>true|.bl _,.bl _=>true|.str _,.str _=>true|.byt _,.byt _=>true
 |.int _,.str _=>true|.str _,.int _=>true|.bl _,.str _=>true|.str _,.bl _=>true
 |_,_=>false
def rEq:R2:=fun x y H Q=>scal x y=true/\Q (.bl (decide (x=y))) H
def rNe:R2:=fun x y H Q=>scal x y=true/\Q (.bl (!decide (x=y))) H
theorem z6b:decide (V.int i=V.int j)=(i==j):=by
 rw[Mq];simp
theorem x2d:decide (V.bl i=V.bl j)=(i==j):=by
 rw[Mq];simp
theorem dec_str:decide (V.str i=V.str j)=(i==j):=by
 rw[Mq];simp
theorem z6c:decide (V.byt i=V.byt j)=(i.toList==j.toList):=by
 rw[Mq];cases i;cases j;simp
section
variable{X:Cx}{a b c:Expr}{ta tb tc:TE}{pos:Pos}
theorem q0x{σ:St}(I:Inv X pins σ H s)(q:Q (.bl k) H)(e:k=k'):EP X pins σ Q (.bool k') s:=by
 subst e;exact⟨.bl k,H,I,rfl,q⟩
theorem op_eq:OpR X (Cg .Eq) rEq:=by
 intro pins s σ H x y v u Q I rx ry h;obtain⟨hs,q⟩:=h;cases x with
 |non =>
  cases rx;cases y with
  |non=>cases ry;exact PySem.EqNone.eq_none_none (q0x I q (by simp))
  |bl j=>cases ry;exact PySem.EqNone.eq_none_bool (q0x I q (by simp))
  |int j=>obtain⟨t',rfl⟩:=ry;exact PySem.EqNone.eq_none_int (q0x I q (by simp))
  |str j=>obtain⟨t',rfl⟩:=ry;exact PySem.EqNone.eq_none_str (q0x I q (by simp))
  |_=>exact absurd (show false=true from hs) Bh
 |bl i =>
  cases rx;cases y with
  |non=>cases ry;exact PySem.EqNone.eq_bool_none (q0x I q (by simp))
  |bl j=>cases ry;exact eq_bool (q0x I q x2d)
  |str j=>obtain⟨t',rfl⟩:=ry;exact PySem.EqMixed.eq_bool_str (q0x I q (by simp))
  |_=>exact absurd (show false=true from hs) Bh
 |int i =>
  obtain⟨t,rfl⟩:=rx;cases y with
  |non=>cases ry;exact PySem.EqNone.eq_int_none (q0x I q (by simp))
  |int j=>obtain⟨t',rfl⟩:=ry;exact eq_int (q0x I q z6b)
  |str j=>obtain⟨t',rfl⟩:=ry;exact PySem.EqMixed.eq_int_str (q0x I q (by simp))
  |_=>exact absurd (show false=true from hs) Bh
 |str i =>
  obtain⟨t,rfl⟩:=rx;cases y with
  |non=>cases ry;exact PySem.EqNone.eq_str_none (q0x I q (by simp))
  |bl j=>cases ry;exact PySem.EqMixed.eq_str_bool (q0x I q (by simp))
  |int j=>obtain⟨t',rfl⟩:=ry;exact PySem.EqMixed.eq_str_int (q0x I q (by simp))
  |str j=>obtain⟨t',rfl⟩:=ry;exact eq_str (q0x I q dec_str)
  |_=>exact absurd (show false=true from hs) Bh
 |byt i =>
  obtain⟨t,rfl⟩:=rx;cases y with
  |byt j=>obtain⟨t',rfl⟩:=ry;exact W.eq_bytes (q0x I q z6c)
  |_=>exact absurd (show false=true from hs) Bh
 |_=>cases y<;>exact absurd (show false=true from hs) Bh
theorem op_ne:OpR X (Cg .NotEq) rNe:=by
 intro pins s σ H x y v u Q I rx ry h;obtain⟨hs,q⟩:=h;cases x with
 |non =>
  cases rx;cases y with
  |non=>cases ry;exact PySem.EqNone.ne_none_none (q0x I q (by simp))
  |bl j=>cases ry;exact PySem.EqNone.ne_none_bool (q0x I q (by simp))
  |int j=>obtain⟨t',rfl⟩:=ry;exact PySem.EqNone.ne_none_int (q0x I q (by simp))
  |str j=>obtain⟨t',rfl⟩:=ry;exact PySem.EqNone.ne_none_str (q0x I q (by simp))
  |_=>exact absurd (show false=true from hs) Bh
 |bl i =>
  cases rx;cases y with
  |non=>cases ry;exact PySem.EqNone.ne_bool_none (q0x I q (by simp))
  |bl j=>cases ry;exact ne_bool (q0x I q (congrArg not x2d))
  |str j=>obtain⟨t',rfl⟩:=ry;exact PySem.EqMixed.ne_bool_str (q0x I q (by simp))
  |_=>exact absurd (show false=true from hs) Bh
 |int i =>
  obtain⟨t,rfl⟩:=rx;cases y with
  |non=>cases ry;exact PySem.EqNone.ne_int_none (q0x I q (by simp))
  |int j=>obtain⟨t',rfl⟩:=ry;exact ne_int (q0x I q (congrArg not z6b))
  |str j=>obtain⟨t',rfl⟩:=ry;exact PySem.EqMixed.ne_int_str (q0x I q (by simp))
  |_=>exact absurd (show false=true from hs) Bh
 |str i =>
  obtain⟨t,rfl⟩:=rx;cases y with
  |non=>cases ry;exact PySem.EqNone.ne_str_none (q0x I q (by simp))
  |bl j=>cases ry;exact PySem.EqMixed.ne_str_bool (q0x I q (by simp))
  |int j=>obtain⟨t',rfl⟩:=ry;exact PySem.EqMixed.ne_str_int (q0x I q (by simp))
  |str j=>obtain⟨t',rfl⟩:=ry;exact ne_str (q0x I q (congrArg not dec_str))
  |_=>exact absurd (show false=true from hs) Bh
 |byt i =>
  obtain⟨t,rfl⟩:=rx;cases y with
  |byt j=>obtain⟨t',rfl⟩:=ry;exact W.ne_bytes (q0x I q (congrArg not z6c))
  |_=>exact absurd (show false=true from hs) Bh
 |_=>cases y<;>exact absurd (show false=true from hs) Bh
theorem z4j:OpR X (Cg .Lt) (rI0 fun i j=>.bl (decide (i<j))):=opB0 fun _ _ _ _ _ _ _ q=>lt_int q
theorem op_le:OpR X (Cg .LtE) (rI0 fun i j=>.bl (decide (i<=j))):=opB0 fun _ _ _ _ _ _ _ q=>le_int q
theorem q7w:OpR X (Cg .Gt) (rI0 fun i j=>.bl (decide (j<i))):=opB0 fun _ _ _ _ _ _ _ q=>gt_int q
theorem op_ge:OpR X (Cg .GtE) (rI0 fun i j=>.bl (decide (j<=i))):=opB0 fun _ _ _ _ _ _ _ q=>ge_int q
theorem op_in_str:OpR X (Cg .In) (fun x y H Q=>∃i j,x=.str i/\y=.str j/\Q (.bl (!(Gm j i 0 j.length 1).isEmpty)) H):=by
 intro pins s σ H x y v u Q I rx ry h;obtain⟨i,j,rfl,rfl,q⟩:=h;obtain⟨t,rfl⟩:=rx;obtain⟨t',rfl⟩:=ry;exact in_str (q0x I q rfl)
theorem OpR.or(h:OpR X f r)(h':OpR X f r'):OpR X f (fun x y H Q=>r x y H Q\/r' x y H Q):=by
 intro pins s σ H x y v u Q I rx ry q;rcases q with q|q
 ·exact h pins s σ H x y v u Q I rx ry q
 ·exact h' pins s σ H x y v u Q I rx ry q
theorem nomark(b:Expr)(h:op≠.In:=by decide)(h2:op≠.NotIn:=by decide):Hf op b=false:=by
 have e1:(op==CmpOp.In)=false:=by grind
 have e2:(op==CmpOp.NotIn)=false:=by grind
 cases b<;>simp[Hf,e1,e2]
theorem q2m{op:CmpOp}{r:R2}(ho:OpR X (Cg op) r)(ha:PE X a ta)(hb:PE X b tb)(hm:Hf op b=false):PE X (.Compare a [op] [b] pos) (tOp r ta tb):=by
 intro pins s σ H Q I h;exact wpAny_Compare1 (binT ha hb I h fun v u s2 x y H2 I2 rx ry q=>ho pins s2 σ H2 x y v u Q I2 rx ry q) hm
def tTest(t:TE):TT:=fun σ H Q=>t σ H fun x H'=>∃k,x=.bl k/\Q k H'
theorem q0h{op:CmpOp}{r:R2}(ho:OpR X (Cg op) r)(ha:PE X a ta)(hb:PE X b tb)(hm:Hf op b=false):PT X (.Compare a [op] [b] pos) (tTest (tOp r ta tb)):=by
 intro pins s σ H Q I h;refine Ra (thn (ha pins s σ H _ I h) fun v s1 ⟨x,H1,I1,r1,q1⟩=>thn (hb pins s1 σ H1 _ I1 q1) fun u s2 ⟨y,H2,I2,r2,q2⟩ =>
  thn (ho pins s2 σ H2 x y v u _ I2 r1 r2 q2) fun c s3 ⟨z,H3,I3,r3,k,e,q3⟩=>?_) hm
 subst e;cases r3;exact Du ⟨H3,I3,q3⟩
def TruV(K:Ah)(x:V)(H:Hp)(k:Bool):Prop :=
 match x with
 |.non=>k=false
 |.bl b=>k=b
 |.int i=>k=(i != 0)
 |.str y=>y.length<=sizeLine/\k=((y.length:Int) != 0)
 |.byt y=>y.size<=sizeLine/\k=((y.size:Int) != 0)
 |.ref p=>(∃xs,SqL K H p xs/\k = !xs.isEmpty)\/(∃xs,SqT K H p xs/\k = !xs.isEmpty)\/∃kvs,H p=some (.dK kvs)/\k = !kvs.isEmpty
 |_=>False
theorem z4k{kvs:List (κ×V)}{vs:List (κ×Value)}(r:KV kvs vs):(!vs.isEmpty) = !kvs.isEmpty:=by
 cases r<;>rfl
theorem q7f(r:Vals xs its):(!its.toArray.isEmpty) = !xs.isEmpty:=by
 cases r<;>simp
theorem line63:(sizeLine:Nat)<2^63:=by rw[Fe];decide
theorem tru_ok:TruR X (fun x H Q=>∃k,TruV X.K x H k/\Q k H):=by
 intro pins s σ H x v Q I rx h;obtain⟨k,e,q⟩:=h;have hs:=Fe;cases x with
 |non =>
  cases rx;have e':=e;subst e';exact truthy_none ⟨H,I,q⟩
 |bl b =>
  cases rx;have e':=e;subst e';exact Du ⟨H,I,q⟩
 |int i =>
  obtain⟨t,rfl⟩:=rx;have e':=e;subst e';exact PySem.P.truthy_int ⟨H,I,q⟩
 |str y =>
  obtain⟨t,rfl⟩:=rx;obtain⟨hy,e'⟩:y.length<=sizeLine/\k=((y.length:Int) != 0):=e;subst e';exact PySem.P.truthy_str (by lia) ⟨H,I.tok _,q⟩
 |byt y =>
  obtain⟨t,rfl⟩:=rx;obtain⟨hy,e'⟩:y.size<=sizeLine/\k=((y.size:Int) != 0):=e;subst e';exact W.truthy_bytes (by lia) ⟨H,I.tok _,q⟩
 |ref p =>
  cases rx;have e':=e;rcases e' with⟨xs,hx,e'⟩|⟨xs,hx,e'⟩|⟨kvs,hx,e'⟩
  ·subst e';obtain⟨its,r,pl,hz⟩:=I.list hx;have hlen:=r.length;exact wpAny_truthy_list pl.isList (by simp only[Aw];lia) ⟨H,I.tok _,by rw[q7f r];exact q⟩
  ·subst e';obtain⟨its,r,pl,hz⟩:=I.tuple hx;have hlen:=r.length;exact truthy_tuple pl (by simp only[Aw];lia) ⟨H,I.tok _,by rw[q7f r];exact q⟩
  ·subst e';obtain⟨hz,hS,vs,r,m⟩:kvs.length<=sizeLine/\(p==Cu)=false/\∃vs,KV kvs vs/\s.heap.DictOf (mixKind X.prog X.w) p vs:=I.hok p _ hx;have hlen:=Ed r;exact wpAny_truthy_dict hS m (by lia) ⟨H,I.tok _,by rw[z4k r];exact q⟩
 |_=>exact(show False from e).elim
theorem z9k(ha:PE X a ta)(he:∀whole,isTrue a X.env whole=(do let v<-whole;Nj a.pos;Jq [v] (truthy v))):
  PT X a (fun σ H Q=>ta σ H fun x H'=>∃k,TruV X.K x H' k/\Q k H'):=by
 intro pins s σ H Q I h;exact isTrue_plain (thn (ha pins s σ H _ I h) fun v s1 ⟨x,H1,I1,r1,q1⟩=>tru_ok pins s1 σ H1 x v Q I1 r1 q1) (he _)
theorem op_add_str:OpR X (Ga .Add) (fun x y H Q=>∃i j,x=.str i/\y=.str j/\i.length+j.length<=sizeLine/\Q (.str (i++j)) H):=by
 intro pins s σ H x y v u Q I rx ry h;obtain⟨i,j,rfl,rfl,hz,q⟩:=h;obtain⟨t,rfl⟩:=rx;obtain⟨t',rfl⟩:=ry;exact add_str (fun t' tk=>⟨.str (i++j),H,I.tok _,⟨_,rfl⟩,q⟩) hz
theorem z1v:OpR X (Ti .Add) (fun x y H Q=>∃i j,x=.str i/\y=.str j/\i.length+j.length<=sizeLine/\Q (.str (i++j)) H):=by
 intro pins s σ H x y v u Q I rx ry h;obtain⟨i,j,rfl,rfl,hz,q⟩:=h;obtain⟨t,rfl⟩:=rx;obtain⟨t',rfl⟩:=ry;exact iadd_str (fun t' tk=>⟨.str (i++j),H,I.tok _,⟨_,rfl⟩,q⟩) hz
theorem vals1(r:Vals [x] us):∃u,us=[u]/\RelV x u:=by
 cases r with
 |cons r1 r2=>cases r2;exact⟨_,rfl,r1⟩
theorem vals2(r:Vals [x,y] us):∃u w',us=[u,w']/\RelV x u/\RelV y w':=by
 cases r with
 |cons r1 r2 =>
  cases r2 with
  |cons r3 r4=>cases r4;exact⟨_,_,rfl,r1,r3⟩
theorem z6d(hc:X.calm=true):CallR X (.builtin "max") (fun xs H Q=>∃i j,xs=[.int i,.int j]/\Q (.int (if j>i then j else i)) H):=by
 intro pins s σ H xs us Q I r h;obtain⟨i,j,rfl,q⟩:=h;obtain⟨u,w',rfl,⟨t,rfl⟩,⟨t',rfl⟩⟩:=vals2 r;refine max_two_ints (I.ok.hd hc) fun h' tk k=>⟨_,H,I.kept k,?_,q⟩
 by_cases hj:j>i
 ·rw[if_pos hj,if_pos hj];exact⟨_,rfl⟩
 ·rw[if_neg hj,if_neg hj];exact⟨_,rfl⟩
theorem q9i(hc:X.calm=true):CallR X (.builtin "min") (fun xs H Q=>∃i j,xs=[.int i,.int j]/\Q (.int (if j<i then j else i)) H):=by
 intro pins s σ H xs us Q I r h;obtain⟨i,j,rfl,q⟩:=h;obtain⟨u,w',rfl,⟨t,rfl⟩,⟨t',rfl⟩⟩:=vals2 r;refine min_two_ints (I.ok.hd hc) fun h' tk k=>⟨_,H,I.kept k,?_,q⟩
 by_cases hj:j<i
 ·rw[if_pos hj,if_pos hj];exact⟨_,rfl⟩
 ·rw[if_neg hj,if_neg hj];exact⟨_,rfl⟩
theorem call_int1:CallR X (.type "int") (fun xs H Q=>(∃i,xs=[.int i]/\Q (.int i) H)\/∃k,xs=[.bl k]/\Q (.int (if k then 1 else 0)) H):=by
 intro pins s σ H xs us Q I r h;rcases h with⟨i,rfl,q⟩|⟨k,rfl,q⟩
 ·obtain⟨u,rfl,t,rfl⟩:=vals1 r;exact call_int_int ⟨.int i,H,I,⟨_,rfl⟩,q⟩
 ·obtain⟨u,rfl,r1⟩:=vals1 r;cases r1;exact call_int_bool ⟨.int (if k then 1 else 0),H,I.tok _,⟨_,rfl⟩,q⟩
def LenV(K:Ah)(x:V)(H:Hp)(n:Nat):Prop :=
 match x with
 |.str y=>y.length<=sizeLine/\n=y.length
 |.byt y=>y.size<=sizeLine/\n=y.size
 |.ref p=>(∃xs,SqL K H p xs/\n=xs.length)\/∃xs,SqT K H p xs/\n=xs.length
 |_=>False
theorem z9l:CallR X (.builtin "len") (fun xs H Q=>∃x n,xs=[x]/\LenV X.K x H n/\Q (.int n) H):=by
 intro pins s σ H xs us Q I r h;obtain⟨x,n,rfl,e,q⟩:=h;obtain⟨u,rfl,rx⟩:=vals1 r;have hs:=Fe;cases x with
 |str y =>
  obtain⟨t,rfl⟩:=rx;obtain⟨hy,e'⟩:y.length<=sizeLine/\n=y.length:=e;subst e';exact len_str (by lia) ⟨.int _,H,I.tok _,⟨_,rfl⟩,q⟩
 |byt y =>
  obtain⟨t,rfl⟩:=rx;obtain⟨hy,e'⟩:y.size<=sizeLine/\n=y.size:=e;subst e';exact W.len_bytes (by lia) ⟨.int _,H,I.tok _,⟨_,rfl⟩,q⟩
 |ref p =>
  cases rx;have e':=e;rcases e' with⟨xs,hx,e'⟩|⟨xs,hx,e'⟩
  ·subst e';obtain⟨its,r',pl,hz⟩:=I.list hx;have hlen:=r'.length;exact Calls.call_len_list pl.isList (by simp only[Aw];lia) ⟨.int xs.length,H,I.tok _,⟨_,by simp only[Aw];rw[hlen]⟩,q⟩
  ·subst e';obtain⟨its,r',pl,hz⟩:=I.tuple hx;have hlen:=r'.length;exact len_tuple pl (by simp only[Aw];lia) ⟨.int xs.length,H,I.tok _,⟨_,by simp only[Aw];rw[hlen]⟩,q⟩
 |_=>exact(show False from e).elim
end
open PySem PySem.Spec PyProof.Rows
structure ObjM (h:Heap) (x dx C:Addr) (mA:Str->Option Value):Prop where
 obj:h.get? x=some (Ke C dx)
 ns:h.Ns1 dx mA
 ne:dx≠x
theorem q9j{h:Heap}(n:h.Ns1 dx mA):∃od,h.get? dx=some od/\∀name,Vf name od=some (mA name):=by
 obtain⟨o,es,ep,ho,hd,hk,_,hm⟩:=n;refine⟨o,ho,fun name=>?_⟩;have e:=hm name;unfold nsFind findBy at e;rw[<- Nv] at e;unfold Vf;rw[hd];dsimp only;split
 ·grind
 ·rename_i q;rw[q] at e;have a:es.toList.any (·.refKey)=false:=by
   rw[List.any_eq_false];intro y hy;obtain⟨z,t,hkey⟩:=hk y (Ry.mp hy);simp[Kg.refKey,hkey]
  have a':¬es.toList.any (·.refKey)=true:=by grind
  rw[if_neg a'];exact congrArg some e
theorem ObjM.look(I:ObjM h x dx C mA):∃od,Pm h x (Ke C dx) C (some od)/\∀name,Vf name od=some (mA name) :=
 let ⟨od,ho,hl⟩:=q9j I.ns
 ⟨od,⟨I.obj,rfl,rfl,ho⟩,hl⟩
section
variable{prog:Program}{w:World}{A:Around}{E:Value->Af->Prop}{s:Af}{K:Ah}{x dx C f:Addr}{mA:Str->Option Value}{name:Str}{v:Value}
theorem x3l(X:K.In s.heap)(I:ObjM s.heap x dx C mA)(hg:Pd K C name=true)(hh:Ln K C=true)(ha:Bv K (.ref C) name=some none)(hv:mA name=some v)(hv':Vv v=true)(h:Q v { s with toks:=s.toks+1 }):
  wpAny (model prog w) A (Wm (.ref x) name expr) Q E s:=by
 obtain⟨od,J,hl⟩:=I.look;exact W.get_value X J (Sq hg).1 (W.findObj_own hh ha rfl (by rw[hl,hv])) hv' h
theorem z9m(X:K.In s.heap)(I:ObjM s.heap x dx C mA)(hg:Pd K C name=true)(hf:Bv K (.ref C) name=some (some (.ref f)))(ht:Vx K (.ref f)=true)(hv:mA name=none)(h:Q (.ref f,[.ref x]) s):
  wpAny (model prog w) A (Mc (.ref x) name pl) Q E s:=by
 obtain⟨od,J,hl⟩:=I.look;exact W.method_fn X J (Sq hg).1 (Sq hg).2 hf (beq_iff_eq.mp ht) (by show(Vf name od).map (·.isSome)=some false;rw[hl,hv];rfl) h
theorem x3m(X:K.In s.heap)(I:ObjM s.heap x dx C mA)(hs:Bv K (.ref C) "__setattr__" = some (some (.builtin "object.__setattr__")))(hp:Vb K C=true)(ht:Wq K C name=some none)(hh:Ln K C=true)(hw:Ml mA ns)(hsz:ns.length<=sizeLine)(h:∀h',ObjM h' x dx C (fun y=>if y=name then some v else mA y)->Eu dx s.heap h'->Q () { s with heap:=h',toks:=s.toks+2 }):
  wpAny (model prog w) A (Wn (.ref x) name v) Q E s:=by
 obtain⟨od,J,hl⟩:=I.look;refine Vc X J hs (W.osa_open X J hp ht fun b=>?_);obtain⟨cd,hc,hd'⟩:=W.any_some hh;have hx:=I.obj;refine Ab (Ad (Ab (Ab (Rf hx (Ab (To (Ol X hc) ?_))))));rw[hd'];refine Ad (Ab (Ad (Ab ?_)));refine Tp I.ns fun h' hn2 hs2=>?_
 obtain⟨oD,esD,epD,hoD,hdD,hcD⟩:=hn2.count (Ov name v hw);refine Ab (Pn hoD (by rw[hdD];exact Po (Bb hcD (by rw[Bf];lia))) ?_);exact Ad (h _ ⟨(hs2.2 _ (Ca I.ne)).trans I.obj,hn2,I.ne⟩ hs2)
theorem z9n(X:K.In s.heap)(hm:Wr K C=true)(hi:Bv K (.ref C) "__init__" = some (some (.ref f)))(hf:W.typeIn K (.ref f)=some (.type "function"))(h:Fw (model prog w) (A.under (.builtin "type.__call__" ⟨.ref C::vs,kw⟩)) (.call (.ref f) ⟨.ref (s.heap.objs.size+1)::vs,kw⟩) (W.InitBack (s.heap.objs.size+1) R)
   { s with heap:=(s.heap.push Dp).push (Ke C s.heap.objs.size) }):
  Fw (model prog w) A (.call (.ref C) ⟨vs,kw⟩) R s:=by
 exact W.make_core (W.makes_of X hm) (Nk X hi) (fun self=>W.bind_fn X self hf) (.inl rfl) h
end
def putF(f:Str)(v:V):List (Str×V)->List (Str×V)
 |[]=>[(f,v)]
 |(g,x)::r=>if g=f then(g,v)::r else(g,x)::putF f v r
theorem q2r(f g:Str)(v:V):∀fs:List (Str×V),(putF f v fs).lookup g=if g=f then some v else fs.lookup g
 |[]=>by
  show List.lookup g [(f,v)]=_;by_cases h:g=f
  ·have hb:(g==f)=true:=beq_iff_eq.mpr h;simp only[List.lookup,hb,if_pos h]
  ·simp_all
 |(k,x)::r=>by
  have ih:=q2r f g v r;rw[show putF f v ((k,x)::r)=(if k=f then(k,v)::r else(k,x)::putF f v r) from rfl];by_cases hk:k=f
  ·rw[if_pos hk];by_cases h:g=k
   ·simp_all
   ·have hb:(g==k)=false:=beq_eq_false_iff_ne.mpr h;simp only[List.lookup,hb,if_neg (fun e:g=f=>h (e.trans hk.symm))]
  ·rw[if_neg hk];by_cases h:g=k
   ·simp_all
   ·have hb:(g==k)=false:=beq_eq_false_iff_ne.mpr h;simp only[List.lookup,hb];exact ih
theorem q3c(f:Str)(v:V):∀fs:List (Str×V),f∈(putF f v fs).map (·.1)/\∀g,g∈fs.map (·.1)->g∈(putF f v fs).map (·.1)
 |[]=>⟨by simp[putF],fun g h=>by simp at h⟩
 |(k,x)::r=>by
  obtain⟨i1,i2⟩:=q3c f v r;rw[show putF f v ((k,x)::r)=(if k=f then(k,v)::r else(k,x)::putF f v r) from rfl];by_cases hk:k=f
  ·grind
  ·grind
theorem q5s(f:Str)(v:V):∀fs:List (Str×V),(putF f v fs).length<=fs.length+1
 |[]=>by simp[putF]
 |(k,x)::r=>by
  have ih:=q5s f v r;rw[show putF f v ((k,x)::r)=(if k=f then(k,v)::r else(k,x)::putF f v r) from rfl];by_cases hk:k=f
  ·grind
  ·grind
theorem RelO.some_of(r:RelO (some v) o):∃u,o=some u/\RelV v u:=by
 cases o with
 |none=>exact(show False from r).elim
 |some u=>exact⟨u,rfl,r⟩
theorem RelO.none_of(r:RelO none o):o=none:=by
 cases o with
 |none=>rfl
 |some u=>exact(show False from r).elim
theorem q9k(r:RelV v u):Vv u=true:=by
 cases v with
 |non=>cases(show u=Value.none from r);rfl
 |bl b=>cases(show u=Value.bool b from r);rfl
 |int i=>obtain⟨t,e⟩:=(show ∃t,u=Value.int i t from r);cases e;rfl
 |str x=>obtain⟨t,e⟩:=(show ∃t,u=Value.str x t from r);cases e;rfl
 |byt b=>obtain⟨t,e⟩:=(show ∃t,u=Value.bytes b t from r);cases e;rfl
 |flt b=>obtain⟨t,e⟩:=(show ∃t,u=Value.float b t from r);cases e;rfl
 |ref a=>cases(show u=Value.ref a from r);rfl
 |ty n=>cases(show u=Value.type n from r);rfl
section
variable{P:Program}{w:World}{H H':Hp}{h h':Heap}{a C dx:Addr}{fs fs':List (Str×V)}
theorem z1w(hok:HOk P w H h)(e:H a=some (.ins C dx fs)):∃mA,ObjM h a dx C mA/\(∀f,RelO (fs.lookup f) (mA f))/\Ml mA (fs.map (·.1))/\fs.length<=1000/\H dx=some (.own a):=by
 obtain⟨d,z,ne,ob,mA,n,r,q⟩:=(show ObjOk P w H h a (.ins C dx fs) from hok a _ e)
 exact⟨mA,⟨ob,n,ne⟩,r,q,z,d⟩
end
structure Cls (K:Ah) (C:Addr):Prop where
 pg:Pd K C Tq=true
 hd:Ln K C=true
 po:Vb K C=true
 sa:Bv K (.ref C) "__setattr__" = some (some (.builtin "object.__setattr__"))
theorem Cls.get{K:Ah}(c:Cls K C)(f:Str):Pd K C f=true:=c.pg
def NoAttr(K:Ah)(C:Addr)(f:Str):Prop:=Bv K (.ref C) f=some none
theorem NoAttr.taker{K:Ah}(n:NoAttr K C f):Wq K C f=some none:=by
 unfold Wq;rw[show Bv K (.ref C) f=some none from n];rfl
structure Meth (K:Ah) (C:Addr) (m:Str) (f:Addr):Prop where
 at_:Bv K (.ref C) m=some (some (.ref f))
 fn:Vx K (.ref f)=true
 kp:Fh K (.ref f)=true
section
variable{X:Cx}{pins:List (Addr×Obj)}{σ:St}{H:Hp}{s:Af}{a C dx:Addr}{fs:List (Str×V)}{f:Str}{v:V}{A:Around}{E:Value->Af->Prop}
theorem z4l(I:Inv X pins σ H s)(e:H a=some (.ins C dx fs))(c:Cls X.K C)(n:NoAttr X.K C f)(l:fs.lookup f=some v)(h:∀u s',Inv X pins σ H s'->RelV v u->Q u s'):wpAny (model X.prog X.w) A (Wm (.ref a) f b) Q E s:=by
 obtain⟨mA,O,r,_,_,_⟩:=z1w I.hok e;obtain⟨u,hu,ru⟩:=RelO.some_of (by rw[<- l];exact r f);exact x3l I.kIn O (c.get f) c.hd n hu (q9k ru) (h u _ (I.tok _) ru)
theorem q7g(I:Inv X pins σ H s)(e:H a=some (.ins C dx fs))(c:Cls X.K C)(k:Meth X.K C m g)(l:fs.lookup m=none)(h:Q (.ref g,[.ref a]) s):wpAny (model X.prog X.w) A (Mc (.ref a) m pl) Q E s:=by
 obtain⟨mA,O,r,_,_,_⟩:=z1w I.hok e;have hn:=RelO.none_of (by rw[<- l];exact r m);exact z9m I.kIn O (c.get m) k.at_ k.fn hn h
theorem z4m(I:Inv X pins σ H s)(e:H a=some (.ins C dx fs))(c:Cls X.K C)(n:NoAttr X.K C f)(hl:fs.length<1000)(ry:RelV y u)(h:∀s',Inv X pins σ (upd H a (.ins C dx (putF f y fs))) s'->Q () s'):wpAny (model X.prog X.w) A (Wn (.ref a) f u) Q E s:=by
 obtain⟨mA,O,r,wi,_,ho⟩:=z1w I.hok e;have hz:(fs.map (·.1)).length<=sizeLine:=by rw[Ag,Fe];lia
 refine x3m I.kIn O c.sa c.po n.taker c.hd wi hz fun h' O' sb=>h _ ?_;have hd:∃o,h'.get? dx=some o:=let ⟨o,_,_,e',_⟩:=O'.ns;⟨o,e'⟩;refine I.write (by rw[e];exact True.intro) (.inr ho) (fun b q hb z=>(sb.2 b hb).trans z) hd ?_;refine⟨by rw[q0f O.ne];exact ho,?_,O.ne,O'.obj,_,O'.ns,fun g=>?_,fun g hg=>?_⟩
 ·have:=q5s f y fs;lia
 ·show RelO ((putF f y fs).lookup g) (if g=f then some u else mA g);rw[q2r];by_cases q:g=f
  ·rw[if_pos q,if_pos q];exact ry
  ·grind
 ·by_cases q:g=f
  ·rw[q];exact(q3c f y fs).1
  ·refine(q3c f y fs).2 g (wi g fun z=>hg ?_);show(if g=f then some u else mA g)=none;rw[if_neg q];exact z
theorem Inv.made(I:Inv X pins σ H s):Inv X pins σ (upd (upd H s.heap.objs.size (.own (s.heap.objs.size+1))) (s.heap.objs.size+1) (.ins C s.heap.objs.size []))
  { s with heap:=(s.heap.push Dp).push (Ke C s.heap.objs.size) }:=by
 have e1:(s.heap.push Dp).get? s.heap.objs.size=some Dp:=Ak s.heap rfl;have e2:((s.heap.push Dp).push (Ke C s.heap.objs.size)).get? (s.heap.objs.size+1)=some (Ke C s.heap.objs.size):=by
  have:=Ak (s.heap.push Dp) (o:=Ke C s.heap.objs.size) rfl
  rwa [Fx] at this
 have e3:(s.heap.push Dp).Ns s.heap.objs.size (fun _=>none):=⟨Dp,#[],_,e1,rfl,(fun e he=>absurd he (by simp)),fun _=>rfl⟩
 have I1:=I.laid (o:=.own (s.heap.objs.size+1)) (h':=s.heap.push Dp) (t':=s.toks) (fun b u q=>Ae _ q) (Aj _) ⟨_,e1⟩;refine I1.laid (t':=s.toks) (fun b u q=>Ae _ q) (Kh (Fx _ _)) ?_;have ne:s.heap.objs.size≠s.heap.objs.size+1:=Bd (Hw _);refine⟨by rw[q0f ne,q0c],Be _,ne,e2,fun _=>none,(Ui e3).at fun o q=>Ae _ q,fun _=>True.intro,fun y hy=>absurd rfl hy⟩
theorem z6e(hb:Gi e f env (eval e env)=eval e env)(h:wpAny (model prog w) A (eval e env) (fun o s₁=>wpAny (model prog w) A (Wm o f true) Q E s₁) E s):wpAny (model prog w) A (eval (.Attribute e f pos) env) Q E s :=
 Attribute_any_ h (by rw[arm_eval_Attribute,hb])
end
def tFld(K:Ah)(ta:TE)(f:Str):TE:=fun σ H Q=>ta σ H fun x H1=>∃a C dx fs v,x=.ref a/\H1 a=some (.ins C dx fs)/\Cls K C/\NoAttr K C f/\fs.lookup f=some v/\Q v H1
def sFld(K:Ah)(ta tv:TE)(f:Str):TS:=fun D σ H=>tv σ H fun y H1=>ta σ H1 fun x H2=>∃a C dx fs,x=.ref a/\H2 a=some (.ins C dx fs)/\Cls K C/\NoAttr K C f/\fs.length<1000 /\
 D.nx σ (upd H2 a (.ins C dx (putF f y fs)))
section
variable{X:Cx}{o e value:Expr}{f:Str}{pos pos' tpos:Pos}{ta tv:TE}
theorem pe_fld(he:PE X e ta)(hb:Gi e f X.env (eval e X.env)=eval e X.env):PE X (.Attribute e f pos) (tFld X.K ta f):=by
 intro pins s σ H Q I h;refine z6e hb (thn (he pins s σ H _ I h) fun u s1 ⟨x,H1,I1,rx,a,C,dx,fs,v,ex,ea,c,n,l,q⟩=>?_);subst ex;obtain rfl:u=Value.ref a:=rx;exact z4l I1 ea c n l fun u' s2 I2 ru=>⟨v,H1,I2,ru,q⟩
theorem ps_fld(ha:PE X o ta)(hv:PE X value tv)(hs:Ii value (some (.Attribute o f pos')) pos.line X.env=pure false):PS X (.Assign [.Attribute o f pos'] value pos) (sFld X.K ta tv f):=by
 intro pins s σ H D I h;refine Mi (thn (hv pins s σ H _ I h) fun u s1 ⟨y,H1,I1,ry,q⟩=>thn (ha pins s1 σ H1 _ I1 q) fun ov s2 ⟨x,H2,I2,rx,a,C,dx,fs,ex,ea,c,n,l,q2⟩=>?_) hs;subst ex;obtain rfl:ov=Value.ref a:=rx;exact z4m I2 ea c n l ry fun s3 I3=>⟨σ,_,I3,q2⟩
end
section
variable{X:Cx}{pins:List (Addr×Obj)}{σ:St}{H:Hp}{s:Af}{A:Around}{E:Value->Af->Prop}{Q:Value->Af->Prop}{c:Value}{b:Bool}
inductive TyOf (K:Ah) (H:Hp):V->Value->Prop where
 |non:TyOf K H .non (.type "NoneType")
 |bl (x:Bool):TyOf K H (.bl x) (.type "bool")
 |int (i:Int):TyOf K H (.int i) (.type "int")
 |str (x:Str):TyOf K H (.str x) (.type "str")
 |flt (x:UInt64):TyOf K H (.flt x) (.type "float")
 |lst {a:Addr} {xs:List V} (e:H a=some (.lst xs)):TyOf K H (.ref a) (.type "list")
 |frz {a:Addr} {o:Obj} {xs:List V} (e:H a=some (.frz o (.lst xs))):TyOf K H (.ref a) (.type "list")
 |tup {a:Addr} {xs:List V} (e:H a=some (.tup xs)):TyOf K H (.ref a) (.type "tuple")
 |dK {a:Addr} {kvs:List (Key×V)} (e:H a=some (.dK kvs)):TyOf K H (.ref a) (.type "dict")
 |dT {a:Addr} {kvs:List (List Key×V)} (e:H a=some (.dT kvs)):TyOf K H (.ref a) (.type "dict")
 |ins {a C dx:Addr} {fs:List (Str×V)} (e:H a=some (.ins C dx fs)) (cl:Cls K C) (ha:Bv K (.ref C) "__class__" = some (some (.builtin "object.__class__")))
   (hn:Nt K (.builtin "object.__class__") "__get__" = some (some (.builtin "getset_descriptor.__get__"))) (htk:Ws K (.builtin "object.__class__")=some true)
   (hm:W.mroIn K C (.type "object")=some true):TyOf K H (.ref a) (.ref C)
end
open PySem PySem.Spec PyProof.Rows
structure Room (k:Nat) (A:Around):Prop where
 hd:A.handled=none
 dp:A.depth+3*k+5<recursionLimit
 un:A.units+16*k+200<cLine
 gd:A.guards=some []
theorem Room.mono(r:Room k A)(h:j<=k):Room j A:=⟨r.hd,by have:=r.dp;lia,by have:=r.un;lia,r.gd⟩
theorem Room.deeper(r:Room (k+1) A)(env:Env):Room k (A.deeper env) :=
 ⟨r.hd,by have:=r.dp;show A.depth+1+3*k+5<_;lia,by have:=r.un;show A.units+3+16*k+200<_;lia,r.gd⟩
theorem z4n{A:Around}:(A.under (.builtin "type.__call__" ⟨.ref C::us,kw⟩)).depth=A.depth+1:=by
 first|rfl|simp[Pq,Code.weight,Code.isCreation,Code.isGuard,Code.isCaller,Code.frames,Tr,guardIds]
theorem z4o{A:Around}:(A.under (.builtin "type.__call__" ⟨.ref C::us,kw⟩)).units=A.units+1:=by
 first|rfl|simp[Pq,Code.cUnits,Code.frames,Tr]
theorem make_guards{A:Around}:(A.under (.builtin "type.__call__" ⟨.ref C::us,kw⟩)).guards=A.guards:=by
 have:(Code.builtin "type.__call__" ⟨.ref C::us,kw⟩).guards=[]:=by simp[Code.guards,Code.isGuard,guardIds]
 unfold Pq;rw[this];cases e:A.guards<;>simp[pushGuards,e]
theorem Room.make(r:Room (k+1) A)(C:Addr)(us:List Value)(kw:List (Str×Value)):Room k (A.under (.builtin "type.__call__" ⟨.ref C::us,kw⟩)) :=
 ⟨r.hd,by have:=r.dp;rw[z4n];lia,by have:=r.un;rw[z4o];lia,make_guards.trans r.gd⟩
theorem Room.depth(r:Room k A):A.depth<recursionLimit:=by have:=r.dp;lia
theorem Room.units(r:Room k A):A.units+64<cLine:=by have:=r.un;lia
def tNil:TA:=fun _ H Q=>Q [] H
def tCons(ta:TE)(tr:TA):TA:=fun σ H Q=>ta σ H fun x H1=>tr σ H1 fun xs H2=>Q (x::xs) H2
section
variable{X:Cx}{e:Expr}{es:List Expr}{te:TE}{t:TA}{pos:Pos}
theorem q0d:PA X [] tNil:=fun _ _ _ _ H Q I h=>Uj ⟨[],H,I,.nil,h⟩
theorem q0a(ha:PE X e te)(hr:PA X es t)(hs:Ax (e::es) X.env=(false,eval e X.env)::Ax es X.env:=by rfl):PA X (e::es) (tCons te t):=by
 intro pos pins s σ H Q I h;rw[hs];refine Nw (thn (ha pins s σ H _ I h) fun u s1 ⟨x,H1,I1,r1,q1⟩=>?_);exact thn (hr pos pins s1 σ H1 _ I1 q1) fun us s2 ⟨xs,H2,I2,r2,q2⟩=>⟨x::xs,H2,I2,.cons r1 r2,q2⟩
def tTup(t:TA):TE:=fun σ H Q=>t σ H fun xs H1=>xs.length<=sizeLine/\∀p,H1 p=none->Q (.ref p) (upd H1 p (.tup xs))
def tLst(t:TA):TE:=fun σ H Q=>t σ H fun xs H1=>xs.length<=sizeLine/\∀p,H1 p=none->Q (.ref p) (upd H1 p (.lst xs))
theorem q0u{x1}(h:PA X es t):PE X (.Tuple es x1 pos) (tTup t):=by
 intro pins s σ H Q I hq;refine wpAny_Tuple_spliced (thn (h pos pins s σ H _ I hq) fun us s1 ⟨xs,H1,I1,r,z,q⟩=>⟨by rw[<- r.length];exact z,?_⟩);have hf:=I1.hok.fresh (Aj _);refine⟨.ref s1.heap.objs.size,upd H1 s1.heap.objs.size (.tup xs),I1.laid (t':=s1.toks) (fun b u e=>Ae _ e) (Aj _) ?_,rfl,q _ hf⟩;exact⟨z,us,r,⟨_,Ak _ rfl,rfl,_,rfl⟩⟩
theorem q1s(h:PA X es t):PE X (.List es pos) (tLst t):=by
 intro pins s σ H Q I hq;refine wpAny_List_spliced (thn (h pos pins s σ H _ I hq) fun us s1 ⟨xs,H1,I1,r,z,q⟩=>⟨by rw[<- r.length];exact z,?_⟩);have hf:=I1.hok.fresh (Aj _);refine⟨.ref s1.heap.objs.size,upd H1 s1.heap.objs.size (.lst xs),I1.laid (t':=s1.toks) (fun b u e=>Ae _ e) (Aj _) ?_,rfl,q _ hf⟩;exact⟨z,us,0,r,Ak _ rfl⟩
end
abbrev Sp:=List V->Hp->VK->XK->Prop
abbrev CXT:=List Env->Hp->Af->XK->Value->Af->Prop
structure Env0 (P:Program) (w:World) (K:Ah) (mg:Str->Option Value) (base:Heap) (A:Around) (outer:List Env) (s:Af) (H:Hp):Prop where
 frames:A.frames=some outer
 mod:Mod K mg base
 bs:∀b o,base.get? b=some o->s.heap.get? b=some o/\H b=none
 bsz:base.objs.size<=s.heap.objs.size
 funs:s.heap.FunFrames base outer
 frf:∀b∈frs outer,H b=none
 hok:HOk P w H s.heap
 bare:Kw s.gens
def CE(outer:List Env)(P:Program)(w:World)(H:Hp)(s:Af)(Q:VK)(u:Value)(s':Af):Prop :=
 ∃v H',s'.os=s.os/\Kw s'.gens/\Un (frs outer) [] H H' s.heap s'.heap/\HOk P w H' s'.heap/\RelV v u/\Q v H'
def CR(CX:CXT)(outer:List Env)(P:Program)(w:World)(H:Hp)(s:Af)(Q:VK)(E:XK)(r:Result)(s':Af):Prop :=
 match r with
 |.ok (.ret u)=>CE outer P w H s Q u s'
 |.ok _=>False
 |.error e=>CX outer H s E e s'
structure FnOk (P:Program) (w:World) (K:Ah) (mg:Str->Option Value) (base:Heap) (CX:CXT) (k:Nat) (f:Addr) (fd:Ki) (ps:List Str) (sp:Sp):Prop where
 len:∀vs H Q E,sp vs H Q E->vs.length=ps.length
 run:∀(A:Around) (outer:List Env) (s:Af) (H:Hp) (args:Args) (us:List Value) (vs:List V) (Q:VK) (E:XK),Room k A->Env0 P w K mg base A outer s H->Rg s fd args (ps.zip us)->Vals vs us->sp vs H Q E ->
  Fw (model P w) A (.call (.ref f) args) (CR CX outer P w H s Q E) s
theorem Env0.make{K:Ah}(e:Env0 P w K mg base A outer s H)(C:Addr)(us:List Value)(kw:List (Str×Value)):
  Env0 P w K mg base (A.under (.builtin "type.__call__" ⟨.ref C::us,kw⟩)) outer s H:=⟨by first|exact e.frames|(simpa[Pq,Code.envs,Tr,pushEnvs] using e.frames),e.mod,e.bs,e.bsz,e.funs,e.frf,e.hok,e.bare⟩
section
variable{X:Cx}{pins:List (Addr×Obj)}{σ:St}{H:Hp}{s s':Af}
theorem Inv.env0(I:Inv X pins σ H s):Env0 X.prog X.w X.K X.mg X.base X.A X.stack s H :=
 ⟨I.ok.frames,I.ok.mod,I.bs,Bb I.ok.bsz I.sz,I.stack,I.stkFree,I.hok,I.bare⟩
theorem Inv.after(I:Inv X pins σ H s)(h:CE X.stack X.prog X.w H s Q u s'):EP X pins σ Q u s':=by
 obtain⟨v,H',os,bare,un,hok,r,q⟩:=h;obtain⟨hh,g,d,t,os'⟩:=s';obtain rfl:os'=s.os:=os;exact⟨v,H',I.call (h':=hh) (g':=g) (d':=d) (t':=t) un hok bare (fun b z=>absurd z (by simp)),r,q⟩
end
def tCall(sp:Sp)(dvs:List V)(E:XK)(t:TA):TE:=fun σ H Q=>t σ H fun vs H1=>sp (vs++dvs) H1 Q E
def tMeth(C:Addr)(m:Str)(sp:Sp)(dvs:List V)(E:XK)(ta:TE)(t:TA):TE:=fun σ H Q=>ta σ H fun x H1=>∃a dx fs,x=.ref a/\H1 a=some (.ins C dx fs)/\fs.lookup m=none /\
 t σ H1 fun vs H2=>sp (x::(vs++dvs)) H2 Q E
def tMake(C:Addr)(sp:Sp)(dvs:List V)(E:XK)(t:TA):TE:=fun σ H Q=>t σ H fun vs H1=>∀x dx,H1 x=none->H1 dx=none->dx≠x ->
 sp (.ref x::(vs++dvs)) (upd (upd H1 dx (.own x)) x (.ins C dx [])) (fun v H2=>v=.non/\Q (.ref x) H2) E
def Binds(K:Ah)(fd:Ki)(ps:List Str)(ds:List Value):Prop :=
 ∀(s:Af) (us:List Value),K.In s.heap->(us++ds).length=ps.length->Rg s fd ⟨us,[]⟩ (ps.zip (us++ds))
theorem Binds.all{K:Ah}(h:∀us:List Value,us.length=ps.length->bindArgs fd ⟨us,[]⟩=pure (ps.zip us)):Binds K fd ps []:=fun s us _ hl=>by
 rw[Dm] at hl ⊢;exact .of_eq (h us hl)
def Passes(CX:CXT)(X:Cx)(E:XK):Prop:=∀(pins:List (Addr×Obj)) (σ:St) (H:Hp) (s:Af) (e:Value) (s':Af),Inv X pins σ H s->CX X.stack H s E e s'->X.xe e s'
section
variable{X:Cx}{CX:CXT}{k:Nat}{f C:Addr}{fd:Ki}{ps:List Str}{sp:Sp}{dvs:List V}{ds:List Value}{E:XK}{x m:Str}{p pos apos:Pos}{e o:Expr}{es:List Expr}{ta:TE}{t:TA}
theorem z3c{σ:St}(F:FnOk X.prog X.w X.K X.mg X.base CX k f fd ps sp)(hr:Room k X.A)(hb:Binds X.K fd ps ds)(hd:Vals dvs ds)(hx:Passes CX X E)(I:Inv X pins σ H s)(r:Vals vs us)(h:sp (vs++dvs) H Q E):wpAny (model X.prog X.w) X.A (call (.ref f) us) (EP X pins σ Q) X.xe s:=by
 have r2:=r.append hd;have hl:(us++ds).length=ps.length:=by rw[<- r2.length];exact F.len _ _ _ _ h
 refine Jg (Gw (F.run X.A X.stack s H ⟨us,[]⟩ (us++ds) (vs++dvs) Q E hr I.env0 (hb s us I.kIn hl) r2 h) fun r s' hq=>?_);cases r with
 |error e=>exact hx pins σ H s e s' I hq
 |ok fl =>
  cases fl with
  |ret u=>exact I.after hq
  |next=>exact False.elim hq
  |brk=>exact False.elim hq
  |cont=>exact False.elim hq
theorem x3n(F:FnOk X.prog X.w X.K X.mg X.base CX k f fd ps sp)(hr:Room k X.A)(hg:Gl X x)(hm:X.mg x=some (.ref f))(hk:Fh X.K (.ref f)=true)(hb:Binds X.K fd ps ds)(hd:Vals dvs ds)(hx:Passes CX X E)(ha:PA X (e::es) t)(hdb:(x==("__debug__" : Str))=false:=by decide)(he:Ax (e::es) X.env=(false,eval e X.env)::Ax es X.env:=by rfl)(hpl:(Em pos (Ax es X.env)).any (·.1)=false:=by rfl):
  PE X (.Call (.Name x p) (e::es) [] pos) (tCall sp dvs E t):=by
 intro pins s σ H Q I h;refine Fy (q2p I hg hm ?_ hdb);refine Mr I.ok.mod.kin hk (thn (ha pos pins s σ H _ I h) fun us s1 ⟨vs,H1,I1,r,q⟩=>⟨I1.kIn,?_⟩) he hpl;exact z3c F hr hb hd hx I1 r q
theorem z9o(F:FnOk X.prog X.w X.K X.mg X.base CX k f fd ps sp)(hr:Room k X.A)(hg:Gl X x)(hm:X.mg x=some (.ref f))(hk:Fh X.K (.ref f)=true)(hb:Binds X.K fd ps ds)(hd:Vals dvs ds)(hx:Passes CX X E)(hdb:(x==("__debug__" : Str))=false:=by decide):PE X (.Call (.Name x p) [] [] pos) (tCall sp dvs E tNil):=by
 intro pins s σ H Q I h;refine Fy (q2p I hg hm ?_ hdb);exact W.callWith_K0 I.kIn hk (z3c F hr hb hd hx I .nil h)
theorem x3o{pl:Sem Bool}(he:PE X o ta)(c:Cls X.K C)(hm:Meth X.K C m f)(F:FnOk X.prog X.w X.K X.mg X.base CX k f fd ps sp)(hr:Room k X.A)(hb:Binds X.K fd ps ds)(hd:Vals dvs ds)(hx:Passes CX X E)(ha:PA X (e::es) t)(hst:Ax (e::es) X.env=(false,eval e X.env)::Ax es X.env:=by rfl)(hpl:(Em pos (Ax es X.env)).any (·.1)=false:=by rfl)(ht:eval (.Call (.Attribute o m apos) (e::es) [] pos) X.env=(do
   let ov<-eval o X.env
   Nj apos.atName
   let (f,first)<-Jq [ov] (Mc ov m pl)
   Rz pos f first (Em pos (Ax (e::es) X.env)) (Ly pos (Io [] X.env))):=by rfl):
  PE X (.Call (.Attribute o m apos) (e::es) [] pos) (tMeth C m sp dvs E ta t):=by
 intro pins s σ H Q I h;refine Qi (thn (he pins s σ H _ I h) fun u s1 ⟨x,H1,I1,rx,a,dx,fs,ex,ea,l,q⟩=>?_) ht;subst ex;obtain rfl:u=Value.ref a:=rx;refine q7g I1 ea c hm l ?_;refine Mr I.ok.mod.kin hm.kp (thn (ha pos pins s1 σ H1 _ I1 q) fun us s2 ⟨vs,H2,I2,r,q2⟩=>⟨I2.kIn,?_⟩) hst hpl;exact z3c (vs:=.ref a::vs) F hr hb hd hx I2 (.cons rfl r) q2
theorem z9p(he:PE X o ta)(c:Cls X.K C)(hm:Meth X.K C m f)(F:FnOk X.prog X.w X.K X.mg X.base CX k f fd ps sp)(hr:Room k X.A)(hb:Binds X.K fd ps ds)(hd:Vals dvs ds)(hx:Passes CX X E)(ht:eval (.Call (.Attribute o m apos) [] [] pos) X.env=(do
   let ov<-eval o X.env
   Nj apos.atName
   let (f,first)<-Jq [ov] (Mc ov m pl)
   Rz pos f first (Em pos (Ax [] X.env)) (Ly pos (Io [] X.env))):=by rfl):
  PE X (.Call (.Attribute o m apos) [] [] pos) (tMeth C m sp dvs E ta tNil):=by
 intro pins s σ H Q I h;refine Qi (thn (he pins s σ H _ I h) fun u s1 ⟨x,H1,I1,rx,a,dx,fs,ex,ea,l,q⟩=>?_) ht;subst ex;obtain rfl:u=Value.ref a:=rx;refine q7g I1 ea c hm l ?_;exact W.callWith_K0 I1.kIn hm.kp (z3c (vs:=[.ref a]) F hr hb hd hx I1 (.cons rfl .nil) q)
structure Mk (K:Ah) (C f:Addr):Prop where
 makes:Wr K C=true
 init:Bv K (.ref C) "__init__" = some (some (.ref f))
 fn:Vx K (.ref f)=true
 kp:Fh K (.ref C)=true
theorem z9q{σ:St}(M:Mk X.K C f)(F:FnOk X.prog X.w X.K X.mg X.base CX k f fd ps sp)(hr:Room (k+1) X.A)(hb:Binds X.K fd ps ds)(hd:Vals dvs ds)(hx:Passes CX X E)(I:Inv X pins σ H s)(r:Vals vs us)(h:∀x dx,H x=none->H dx=none->dx≠x->sp (.ref x::(vs++dvs)) (upd (upd H dx (.own x)) x (.ins C dx [])) (fun v H2=>v=.non/\Q (.ref x) H2) E):
  wpAny (model X.prog X.w) X.A (call (.ref C) us) (EP X pins σ Q) X.xe s:=by
 have hq:=h (s.heap.objs.size+1) s.heap.objs.size (I.hok.fresh (Lo _)) (I.hok.fresh (Aj _)) (Bd (Hw _));have I2:=Inv.made (C:=C) I;have r2:Vals (V.ref (s.heap.objs.size+1)::(vs++dvs)) (Value.ref (s.heap.objs.size+1)::(us++ds)):=.cons rfl (r.append hd);have hl:(Value.ref (s.heap.objs.size+1)::us++ds).length=ps.length:=by
  have e:=r2.length;rw[F.len _ _ _ _ hq] at e;exact e.symm
 refine Jg (z9n I.kIn M.makes M.init (beq_iff_eq.mp M.fn) (Gw (F.run _ X.stack _ _ ⟨Value.ref (s.heap.objs.size+1)::us,[]⟩ (Value.ref (s.heap.objs.size+1)::(us++ds)) _ _ E (hr.make C us [])
  (I2.env0.make C us []) (hb _ (Value.ref (s.heap.objs.size+1)::us) I2.kIn hl) r2 hq) fun r s' hq'=>?_))
 cases r with
 |error e=>exact hx pins σ _ _ e s' I2 hq'
 |ok fl =>
  cases fl with
  |ret u =>
   obtain⟨v,H',I3,rv,ev,q3⟩:=I2.after hq';subst ev;exact⟨rv,⟨V.ref (s.heap.objs.size+1),H',I3,rfl,q3⟩⟩
  |next=>exact False.elim hq'
  |brk=>exact False.elim hq'
  |cont=>exact False.elim hq'
theorem x3p(M:Mk X.K C f)(F:FnOk X.prog X.w X.K X.mg X.base CX k f fd ps sp)(hr:Room (k+1) X.A)(hg:Gl X x)(hm:X.mg x=some (.ref C))(hb:Binds X.K fd ps ds)(hd:Vals dvs ds)(hx:Passes CX X E)(ha:PA X (e::es) t)(hdb:(x==("__debug__" : Str))=false:=by decide)(he:Ax (e::es) X.env=(false,eval e X.env)::Ax es X.env:=by rfl)(hpl:(Em pos (Ax es X.env)).any (·.1)=false:=by rfl):
  PE X (.Call (.Name x p) (e::es) [] pos) (tMake C sp dvs E t):=by
 intro pins s σ H Q I h;refine Fy (q2p I hg hm ?_ hdb);refine Mr I.ok.mod.kin M.kp (thn (ha pos pins s σ H _ I h) fun us s1 ⟨vs,H1,I1,r,q⟩=>⟨I1.kIn,?_⟩) he hpl;exact z9q M F hr hb hd hx I1 r q
end
structure FnScope (N P:List Str) (sc:Scope):Prop where
 kind:sc.kind=.function
 co:sc.isCoroutine=false
 gen:sc.isGenerator=false
 nd:N.Nodup
 pre:N.take P.length=P
 par:∀x∈P,sc.names.lookup x=some .local\/sc.names.lookup x=some .cell
 nofree:∀y∈sc.names,y.2≠.free
theorem q9l{kindOf:Str->Option Bg}:∀{binds:List (Str×Value)} {m:Str->Option Value},(∀v,(x,v)∉binds)->bindL kindOf binds m x=m x
 |[],_,_=>rfl
 |(n,v)::r,m,h=>by
  unfold bindL;rw[q9l fun w hw=>h w (Ao _ hw)];split
  ·have:x≠n:=by rintro rfl;exact h v As
   simp[this]
  ·rfl
theorem q9m{kindOf:Str->Option Bg}:∀{binds:List (Str×Value)} {m:Str->Option Value},(∀v,(x,v)∉binds)->bindC kindOf binds m x=m x
 |[],_,_=>rfl
 |(n,v)::r,m,h=>by
  unfold bindC;rw[q9m fun w hw=>h w (Ao _ hw)];split
  ·rfl
  ·have:x≠n:=by rintro rfl;exact h v As
   simp[this]
theorem q9n{kindOf:Str->Option Bg}{x:Str}{v:Value}:∀{P:List Str} {vs:List Value} {i:Nat} {m:Str->Option Value},P.Nodup->P[i]?=some x->vs[i]?=some v->kindOf x=some .local ->
  bindL kindOf (P.zip vs) m x=some v
 |[],_,_,_,_,h,_,_=>by simp at h
 |_::_,[],_,_,_,_,h,_=>by simp at h
 |p::P,w::vs,0,m,nd,h1,h2,hk=>by
  simp at h1 h2;subst h1;subst h2;show bindL kindOf ((p,w)::P.zip vs) m p=_;unfold bindL;rw[q9l fun v hv=>(En.mp nd).1 (Qj hv).1,if_pos hk];simp
 |p::P,w::vs,i+1,m,nd,h1,h2,hk=>by
  show bindL kindOf ((p,w)::P.zip vs) m x=_;unfold bindL;exact q9n (i:=i) (En.mp nd).2 (by simpa using h1) (by simpa using h2) hk
theorem q9o{kindOf:Str->Option Bg}{x:Str}{v:Value}:∀{P:List Str} {vs:List Value} {i:Nat} {m:Str->Option Value},P.Nodup->P[i]?=some x->vs[i]?=some v->kindOf x≠some .local ->
  bindC kindOf (P.zip vs) m x=some v
 |[],_,_,_,_,h,_,_=>by simp at h
 |_::_,[],_,_,_,_,h,_=>by simp at h
 |p::P,w::vs,0,m,nd,h1,h2,hk=>by
  simp at h1 h2;subst h1;subst h2;show bindC kindOf ((p,w)::P.zip vs) m p=_;unfold bindC;rw[q9m fun v hv=>(En.mp nd).1 (Qj hv).1,if_neg hk];simp
 |p::P,w::vs,i+1,m,nd,h1,h2,hk=>by
  show bindC kindOf ((p,w)::P.zip vs) m x=_;unfold bindC;exact q9o (i:=i) (En.mp nd).2 (by simpa using h1) (by simpa using h2) hk
def start(N:List Str)(vs:List V):St:=vs.map some++List.replicate (N.length-vs.length) none
def cxOf(CX:CXT)(P:Program)(w:World)(K:Ah)(mg:Str->Option Value)(base:Heap)(N:List Str)(qual:Str)(scope:Scope)(f:Addr)(cd:Value)(A:Around)(outer:List Env)(s:Af)(H:Hp)(E:XK):Cx where
 prog:=P
 w:=w
 K:=K
 mg:=mg
 base:=base
 A:=A.deeper (Gp qual scope s.heap.objs.size f cd)
 N:=N
 s₀:=s
 H₀:=H
 env:=Gp qual scope s.heap.objs.size f cd
 outer:=outer
 stack:=Gp qual scope s.heap.objs.size f cd::outer
 ex:=[]
 calm:=true
 fn:=fun _=>true
 pn:=[]
 xe:=fun e s'=>wpAny (model P w) (A.deeper (Gp qual scope s.heap.objs.size f cd)) (leaving (Gp qual scope s.heap.objs.size f cd) e) (fun _ s''=>CX outer H s E e s'') (fun e' s''=>CX outer H s E e' s'') s'
theorem z3d{sc:Scope}(h:sc.names.lookup x=some .cell):∃c,(cellsFrom n sc.names []).lookup x=some c:=by
 have q:=Vg sc.names n [] (.inl h);exact Kj.mp q
theorem z6f{K:Ah}(S:FnScope N ps scope)(hd:A.handled=none)(e0:Env0 P w K mg base A outer s H)(hl:vs.length=ps.length)(r:Vals vs us)(x:InCallC s s.heap.objs.size (bindL (Gp qual scope s.heap.objs.size f cd).kindOf (ps.zip us) fun _=>none) (cellsFrom (s.heap.objs.size+1) scope.names []) (bindC (Gp qual scope s.heap.objs.size f cd).kindOf (ps.zip us) fun _=>none) s1):
  Inv (cxOf CX P w K mg base N qual scope f cd A outer s H E) [] (start N vs) H s1:=by
 have hpl:ps.length<=N.length:=by have:=congrArg List.length S.pre;rw[Dq] at this;lia
 obtain⟨h1,tk,rfl,hk⟩:=x.done;have noA:∀b:Addr,b∉(cxOf CX P w K mg base N qual scope f cd A outer s H E).ex:=fun b z=>absurd (show b∈([]:List Addr) from z) (by simp)
 refine⟨⟨e0.mod,S.kind,rfl,rfl,Aj _,fun y z c h1 h2=>?_,fun y hy=>?_,fun y c _ h=>?_,fun _=>hd,Around.frames_deeper e0.frames,.inr ⟨rfl,rfl⟩,fun b z=>absurd z (noA b),e0.bs,e0.bsz,fun b _ _=>noA b,fun b z=>absurd z (noA b),e0.funs,e0.frf⟩,
  rfl,e0.bare,Un.kept hk,⟨_,x.toInCall.ns,fun i y v h1 h2 h3=>?_⟩,fun y c h=>⟨_,x.cell y c h⟩,e0.hok.fresh (Aj _),fun y c h=>?_,fun p hp=>absurd (show p∈([]:List (Addr×Obj)) from hp) (by simp),e0.hok.kept hk,?_⟩
 ·exact name_of_addr x.apart (Fo h1) (Fo h2)
 ·have hy:scope.names.lookup y=some .cell\/scope.names.lookup y=some .free:=hy;rcases hy with hy|hy
  ·exact z3d hy
  ·exact absurd rfl (S.nofree _ (Fo hy))
 ·exact Hv (x.above y c (Fo h))
 ·have hi:i<vs.length:=by
   unfold start at h2;by_cases hi:i<vs.length
   ·exact hi
   ·rw[Cr (by simpa using hi)] at h2;rw[List.getElem?_replicate] at h2;split at h2<;>cases h2
  have ha:vs[i]?=some v:=by
   unfold start at h2;rw[Bj (by simpa using hi),Bi] at h2;cases e:vs[i]? with
   |none=>simp_all
   |some a=>grind
  obtain⟨u,hu,rv⟩:=r.get ha;have hp:ps[i]?=some y:=by
   rw[<- S.pre,List.getElem?_take_of_lt (by lia)];exact h1
  have ndP:ps.Nodup:=by rw[<- S.pre];exact S.nd.sublist (Uk _ _)
  refine⟨u,rv,?_⟩;rcases S.par y (Ay hp) with k|k
  ·exact .inl ⟨k,q9n ndP hp hu k⟩
  ·obtain⟨c,e⟩:=z3d k;refine .inr ⟨.inl k,c,e,?_⟩;have q:=x.cell y c e;rw[q9o ndP hp hu (by show scope.names.lookup y≠_;rw[k];decide)] at q;exact q
 ·exact e0.hok.fresh (Hv (x.above y c (Fo h)))
 ·unfold start;show _=N.length;rw[Ai,Ag,Md];lia
theorem z9r{K:Ah}{kV:Value}(lk:K.lookup f=some ⟨oc,od,.func (Hx name qual params body scope dV kV doc pm an cdv ct),osl⟩)(hcd:Kk K cdv qual=true)(S:FnScope N ps scope)(len:∀vs H Q E,sp vs H Q E->vs.length=ps.length)(hbody:∀(A:Around) (outer:List Env) (s:Af) (H:Hp) (vs:List V) (Q:VK) (E:XK),Room k (A.deeper (Gp qual scope s.heap.objs.size f cdv))->sp vs H Q E ->
   ∃t,PSs (cxOf CX P w K mg base N qual scope f cdv A outer s H E) body t/\t { nx:=fun _ H'=>Q .non H',rt:=Q } (start N vs) H):
  FnOk P w K mg base CX (k+1) f (Hx name qual params body scope dV kV doc pm an cdv ct) ps sp:=by
 refine⟨len,fun A outer s H args us vs Q E hr e0 hb r hsp=>?_⟩;have hl:=len _ _ _ _ hsp;have KX:=e0.mod.kin.keeps fun b o e=>(e0.bs b o e).1;have lim:=e0.mod.nolimit.keeps fun b o e=>(e0.bs b o e).1;have hkind:∀y∈ps.zip us,scope.names.lookup y.1=some .local\/(scope.names.lookup y.1=some .cell/\((cellsFrom (s.heap.objs.size+1) scope.names []).lookup y.1).isSome=true):=fun⟨n,v⟩ hy=>by
  rcases S.par n (Qj hy).1 with q|q
  ·exact .inl q
  ·exact .inr ⟨q,Vg _ _ _ (.inl q)⟩
 refine codeAny_call_function hr.depth (KX _ _ lk) rfl S.co S.gen rfl (W.codeRec_of KX hcd) (hb _ _ _ _ ?_);refine wpAny_newFunctionEnv_cells S.kind hkind fun env he s1 x=>?_;subst he;refine⟨lim.keeps x.toInCall.keep,codeAny_func ?_⟩;obtain⟨t,ht,hq⟩:=hbody A outer s H vs Q E (hr.deeper _) hsp;have I:Inv (cxOf CX P w K mg base N qual scope f cdv A outer s H E) [] (start N vs) H s1:=z6f S hr.hd e0 hl r x;refine Bx (ht [] s1 (start N vs) H _ I hq) (fun fl s' hs=>?_) fun e s' hs=>hs;have fin:∀{σ':St} {H':Hp} {v:V} {u:Value},Inv (cxOf CX P w K mg base N qual scope f cdv A outer s H E) [] σ' H' s'->RelV v u->Q v H'->CE outer P w H s Q u s' :=
  fun{σ' H' v u} J rv q=>⟨v,H',J.os,J.bare,J.base,J.hok,rv,q⟩
 cases fl with
 |ret u =>
  obtain⟨v,σ',H',J,rv,q⟩:=hs;exact fin J rv q
 |next =>
  obtain⟨σ',H',J,q⟩:=hs;exact fin (v:=V.non) J rfl q
 |brk =>
  obtain⟨_,_,_,q⟩:=hs;exact False.elim q
 |cont =>
  obtain⟨_,_,_,q⟩:=hs;exact False.elim q
open PySem PySem.Spec PyProof.Rows
section
variable{X:Cx}{x:Str}{p pos:Pos}{e:Expr}{es:List Expr}{t:TA}{id T:String}{r:List V->Hp->VK->Prop}
def tCB(r:List V->Hp->VK->Prop)(t:TA):TE:=fun σ H Q=>t σ H fun vs H1=>r vs H1 Q
theorem q0p(hc:CallR X (.builtin id) r)(hg:Gl X x)(hm:X.mg x=none)(hv:Gv x=some (.builtin id))(ha:PA X (e::es) t)(hn:x ≠ "__name__" := by decide)(hdb:(x==("__debug__" : Str))=false:=by decide)(he:Ax (e::es) X.env=(false,eval e X.env)::Ax es X.env:=by rfl)(hpl:(Em pos (Ax es X.env)).any (·.1)=false:=by rfl):PE X (.Call (.Name x p) (e::es) [] pos) (tCB r t):=by
 intro pins s σ H Q I h;refine Fy (q5b I hg hm hv ?_ hn hdb);exact Ms (thn (ha pos pins s σ H _ I h) fun us s1 ⟨vs,H1,I1,r1,q1⟩=>hc pins s1 σ H1 vs us Q I1 r1 q1) he hpl
theorem q1f(hc:CallR X (.type T) r)(hg:Gl X x)(hm:X.mg x=none)(hv:Gv x=some (.type T))(ha:PA X (e::es) t)(hn:x ≠ "__name__" := by decide)(hdb:(x==("__debug__" : Str))=false:=by decide)(he:Ax (e::es) X.env=(false,eval e X.env)::Ax es X.env:=by rfl)(hpl:(Em pos (Ax es X.env)).any (·.1)=false:=by rfl):PE X (.Call (.Name x p) (e::es) [] pos) (tCB r t):=by
 intro pins s σ H Q I h;refine Fy (q5b I hg hm hv ?_ hn hdb);exact Dg (thn (ha pos pins s σ H _ I h) fun us s1 ⟨vs,H1,I1,r1,q1⟩=>hc pins s1 σ H1 vs us Q I1 r1 q1) he hpl
end
end L2
namespace HT
open PySem PyProof.Rows
section
variable{prog:Program}{w:World}{A:Around}{E:Value->Af->Prop}{s:Af}
theorem cat_tup(ht:IsTup s.heap t vs.toArray)(hb:IsTup s.heap b ws.toArray)(hv:vs≠[])(h1:ws=[]->Q (.ref t) s)(h2:ws≠[]->Q (.ref s.heap.objs.size) { s with heap:=s.heap.push { cls:=.type "tuple",data:=.seq (vs++ws).toArray } })(hsz:vs.length+ws.length<=sizeLine):wpAny (model prog w) A (Ga .Add (.ref t) (.ref b)) Q E s:=by
 obtain⟨⟨cls,dd,data,sl⟩,ho,hc,n,hd⟩:=id ht;obtain⟨⟨cls2,dd2,data2,sl2⟩,ho2,hc2,n2,hd2⟩:=id hb;subst hc hd hc2 hd2;have e:vs.toArray++ws.toArray=(vs++ws).toArray:=by simp
 by_cases hw:ws=[]
 ·exact Tt ⟨_,ho,rfl⟩ ⟨_,ho2,rfl⟩ Pr Sr Lp Le (Kl _ _)
   (tuple_addW1 t b vs.toArray ws.toArray n n2 dd dd2 sl sl2 (by simpa using hv) (by simp[hw])) ⟨ho,ho2,h1 hw⟩
 ·refine Tt ⟨_,ho,rfl⟩ ⟨_,ho2,rfl⟩ Pr Sr Lp Le (Kl _ _)
   (tuple_addW2 t b vs.toArray ws.toArray n n2 dd dd2 sl sl2 (by simpa using hv) (by simpa using hw) (by rw[Aw,Aw];exact hsz)) ⟨ho,ho2,?_⟩
  rw[e];exact h2 hw
def sIx(n d:Nat):Option Int->Nat
 |none=>d
 |some v=>if v<0 then(v+(n:Int)).toNat else min v.toNat n
theorem z6g(v:Int)(n d:Nat):(if v<0 then max (v+(n:Int)) 0 else min v (n:Int))=((sIx n d (some v):Nat):Int):=by
 show(if v<0 then max (v+(n:Int)) 0 else min v (n:Int))=(((if v<0 then(v+(n:Int)).toNat else min v.toNat n):Nat):Int)
 by_cases hv:v<0
 ·grind
 ·grind
theorem z4p(lo hi:Option Int)(n:Nat):Pe lo hi 1 (n:Int)=(((sIx n 0 lo:Nat):Int),((sIx n n hi:Nat):Int)):=by
 refine Pu ?_ ?_
 ·cases lo with
  |none=>rfl
  |some v=>exact z6g v n 0
 ·cases hi with
  |none=>rfl
  |some v=>exact z6g v n n
theorem z4q(i j:Nat):Hm (i:Int) (j:Int) 1=j-i:=by
 unfold Hm;have h1:(1:Int)>0:=by lia
 simp only[h1,if_true,Int.ediv_one];split<;>lia
theorem q7h(p:Lq v o)(h:Q o s):wpAny (model prog w) A (Cv.Slice.slicePartIndex v) Q E s:=by
 cases p with
 |none=>exact slicePart_none h
 |int i t=>exact slicePart_int h
theorem q3b{lo:Option Int}{n:Nat}(hs:s.heap.IsSliceOf sl vl vu .none)(pl:Lq vl lo)(pu:Lq vu hi)(h:Q (((sIx n 0 lo:Nat):Int),1,sIx n n hi-sIx n 0 lo) s):wpAny (model prog w) A (Cv.Slice.sliceApplied (.ref sl) (pure (n:Int))) Q E s:=by
 obtain⟨os,hos,hcs,hds⟩:=id hs;refine Ab (Ab (Bp hos hds rfl (Ab (Bp hos hds rfl (Ab (Bp hos hds rfl (Ad ?_)))))));refine Ab (slicePart_none ?_);refine Ab (q7h pl (Ab (q7h pu (Ab (Ad ?_)))));show wpAny _ _ (match Pe lo hi 1 (n:Int) with|(lo,hi)=>pure (lo,(1:Int),Hm lo hi 1)) _ _ s;rw[z4p lo hi n];show wpAny _ _ (pure (((sIx n 0 lo:Nat):Int),(1:Int),Hm ((sIx n 0 lo:Nat):Int) ((sIx n n hi:Nat):Int) 1)) _ _ s;rw[z4q];exact Ad h
theorem z9s(xs:Array Value)(i k:Nat):((List.range k).filterMap fun(m:Nat)=>xs[((i:Int)+(m:Int)*1).toNat]?).toArray=((xs.toList.drop i).take k).toArray:=by
 have e:(fun(m:Nat)=>xs[((i:Int)+(m:Int)*1).toNat]?)=fun m=>xs[i+m]?:=by grind
 rw[e];have:=pick_run xs i k;rw[Tu] at this;have e2:((fun x=>xs[x]?)∘fun x=>i+x)=fun m=>xs[i+m]?:=rfl;rw[e2] at this;rw[this]
theorem getItem_tuple_cut{lo:Option Int}(ht:IsTup s.heap t items)(hs:s.heap.IsSliceOf sl vl vu .none)(pl:Lq vl lo)(pu:Lq vu hi)(hw:¬(sIx items.size 0 lo=0/\sIx items.size items.size hi=items.size))(h:Q (.ref s.heap.objs.size) { s with heap:=s.heap.push { cls:=.type "tuple",data:=.seq ((items.toList.drop (sIx items.size 0 lo)).take (sIx items.size items.size hi-sIx items.size 0 lo)).toArray } })(hsz:items.size<=sizeLine):wpAny (model prog w) A (getItem (.ref t) (.ref sl)) Q E s:=by
 have htake:sizeOk (.seq ((items.toList.drop (sIx items.size 0 lo)).take (sIx items.size items.size hi-sIx items.size 0 lo)).toArray):=by
  show((items.toList.drop (sIx items.size 0 lo)).take (sIx items.size items.size hi-sIx items.size 0 lo)).toArray.size<=sizeLine;rw[Aw,Dq,De,Gn];lia
 obtain⟨os,hos,hcs,hds⟩:=id hs;have hTs:s.TypeIs (.ref sl) "slice" := ⟨os,hos,hcs⟩
 unfold getItem;try with_reducible refine Cm ?_
 refine Ab (Ul ht.typeIs (by decide) ?_);refine Ab (Cd ht.typeIs Dh
  (Bq Dh ht.typeIs entry_tuple_getitem ?_ (Tv _ _)))
 show wpAny _ _ (Hg (.ref t) >>= _) _ _ s;refine Ab (tupleItemsOf_ ht ?_);refine Ab (Gx hTs ?_);refine Ab (q3b hs pl pu ?_);have hno:¬((((sIx items.size 0 lo:Nat):Int)==0&&(1:Int)==1&&(sIx items.size items.size hi-sIx items.size 0 lo)==items.size)=true):=by grind
 show wpAny _ _ (if (((sIx items.size 0 lo:Nat):Int)==0&&(1:Int)==1&&(sIx items.size items.size hi-sIx items.size 0 lo)==items.size)=true then _ else _) _ _ s;rw[if_neg hno,z9s];first
  |exact Ab (By (Ad ⟨_,rfl,Ad h⟩) htake)
  |exact Ab (By (Ab (Ad (Ad ⟨_,rfl,Ad h⟩))) htake)
  |exact Ab (Ab (By (Ad (Ad ⟨_,rfl,Ad h⟩)) htake))
  |exact Ab (Ab (By (Ad ⟨_,rfl,Ad h⟩) htake))
end
end HT
namespace L2
open PySem PySem.Spec PyProof.Rows
abbrev TO:=St->Hp->(Option Int->Hp->Prop)->Prop
def PO(X:Cx)(e:Option Expr)(t:TO):Prop :=
 ∀(pins:List (Addr×Obj)) (s:Af) (σ:St) (H:Hp) (Q:Option Int->Hp->Prop),Inv X pins σ H s->t σ H Q ->
  wpAny (model X.prog X.w) X.A (evalPart e X.env) (fun u s'=>∃o H',Inv X pins σ H' s'/\Lq u o/\Q o H') X.xe s
def tNoPart:TO:=fun _ H Q=>Q none H
def tPart(t:TE):TO:=fun σ H Q=>t σ H fun x H1=>∃i,x=.int i/\Q (some i) H1
section
variable{X:Cx}{e:Expr}{te:TE}{lo hi:Option Expr}{tl th:TO}{pos p2:Pos}
theorem q2e:PO X none tNoPart:=by
 intro pins s σ H Q I h;exact Ad ⟨none,H,I,.none,h⟩
theorem q1b(h:PE X e te):PO X (some e) (tPart te):=by
 intro pins s σ H Q I hw;refine thn (h pins s σ H _ I hw) fun u s1 ⟨x,H1,I1,r1,q1⟩=>?_;obtain⟨i,rfl,q⟩:=q1;obtain⟨t,rfl⟩:=r1;exact⟨some i,H1,I1,.int i t,q⟩
def SlR(X:Cx)(r:V->Option Int->Option Int->Hp->VK->Prop):Prop :=
 ∀(pins:List (Addr×Obj)) (s:Af) (σ:St) (H:Hp) (x:V) (v vl vu:Value) (lo hi:Option Int) (sl:Addr) (Q:VK),Inv X pins σ H s->RelV x v->s.heap.IsSliceOf sl vl vu .none->Lq vl lo->Lq vu hi->r x lo hi H Q ->
  ∃T id,Pf (.type T) "__getitem__" = pure (some (.builtin id))/\s.TypeIs v T/\wpAny (model X.prog X.w) X.A (getItem v (.ref sl)) (EP X pins σ Q) X.xe s
theorem SlR.or(h:SlR X r)(h':SlR X r'):SlR X (fun x lo hi H Q=>r x lo hi H Q\/r' x lo hi H Q):=by
 intro pins s σ H x v vl vu lo hi sl Q I rx hs pl pu q;rcases q with q|q
 ·exact h pins s σ H x v vl vu lo hi sl Q I rx hs pl pu q
 ·exact h' pins s σ H x v vl vu lo hi sl Q I rx hs pl pu q
def tSl(r:V->Option Int->Option Int->Hp->VK->Prop)(te:TE)(tl th:TO):TE:=fun σ H Q=>te σ H fun x H1=>tl σ H1 fun l H2=>th σ H2 fun u H3=>r x l u H3 Q
theorem q1c{r:V->Option Int->Option Int->Hp->VK->Prop}(hr:SlR X r)(he:PE X e te)(hl:PO X lo tl)(hu:PO X hi th):PE X (.Subscript e (.Slice lo hi none p2) pos) (tSl r te tl th):=by
 intro pins s σ H Q I h;refine Vy (thn (he pins s σ H _ I h) fun v s1 ⟨x,H1,I1,r1,q1⟩=>?_);refine wpAny_Slice (thn (hl pins s1 σ H1 _ I1 q1) fun vl s2 ⟨l,H2,I2,pl,q2⟩=>thn (hu pins s2 σ H2 _ I2 q2) fun vu s3 ⟨u,H3,I3,pu,q3⟩=>?_);refine Ad ?_;have I4:Inv X pins σ H3 { s3 with heap:=s3.heap.push { cls:=.type "slice",data:=.fields #[vl,vu,.none] } }:=I3.kept (t':=s3.toks) fun b ob q=>Ae _ q;obtain⟨T,id,hT,ht,hg⟩:=hr pins { s3 with heap:=s3.heap.push { cls:=.type "slice",data:=.fields #[vl,vu,.none] } } σ H3 x v vl vu l u s3.heap.objs.size Q I4 r1 (Heap.IsSliceOf.new ..) pl pu q3;exact tail_any ht hT hg (by with_unfolding_all rfl)
def cutV(xs:List V)(lo hi:Option Int):List V:=(xs.drop (HT.sIx xs.length 0 lo)).take (HT.sIx xs.length xs.length hi-HT.sIx xs.length 0 lo)
theorem q5t(xs:List V)(lo hi:Option Int):(cutV xs lo hi).length<=xs.length:=by
 unfold cutV;rw[Dq,De];lia
def rSlT(K:Ah):V->Option Int->Option Int->Hp->VK->Prop:=fun x lo hi H Q=>∃a xs,x=.ref a/\SqT K H a xs /\
 ¬(HT.sIx xs.length 0 lo=0/\HT.sIx xs.length xs.length hi=xs.length)/\∀p,H p=none->Q (.ref p) (upd H p (.tup (cutV xs lo hi)))
theorem x2e:SlR X (rSlT X.K):=by
 intro pins s σ H x v vl vu lo hi sl Q I rx hs pl pu h;obtain⟨a,xs,rfl,hx,hw,q⟩:=h;cases rx;obtain⟨its,r,ht,hz⟩:=I.tuple hx;have hlen:its.toArray.size=xs.length:=by rw[Aw];exact r.length.symm
 refine⟨"tuple",_,Dh.lookup,ht.typeIs,?_⟩;refine HT.getItem_tuple_cut ht hs pl pu (by rw[hlen];exact hw) ?_ (by rw[hlen];exact hz);rw[hlen];refine⟨.ref s.heap.objs.size,_,I.laid (t':=s.toks) (fun b ob q=>Ae _ q) (Aj _) ?_,rfl,q _ (I.hok.fresh (Aj _))⟩;exact⟨Bb (q5t xs lo hi) hz,_,(r.drop (HT.sIx xs.length 0 lo)).take (HT.sIx xs.length xs.length hi-HT.sIx xs.length 0 lo),Wt _ _⟩
theorem Vals.nil_iff(r:Vals xs us):us=[]↔xs=[]:=by
 cases r with
 |nil=>simp
 |cons _ _=>simp
end
open PySem PySem.Spec PyProof.Rows
def ixN(n:Nat)(i:Int):Option Nat:=if 0<=i then(if i<n then some i.toNat else none) else if -(n:Int)<=i then some (i+n).toNat else none
def atI{α:Type}(xs:List α)(i:Int):Option α:=(ixN xs.length i).bind fun j=>xs[j]?
theorem z6h(h:ixN n i=some j):seqIndex? i n=some j/\j<n /\ -(n:Int)<=i/\i<n:=by
 unfold ixN at h;by_cases h0:0<=i
 ·rw[if_pos h0] at h;by_cases h1:i<n
  ·rw[if_pos h1] at h;have e:=Bs h;exact⟨by rw[Qp h0 h1,e],by lia,by lia,h1⟩
  ·grind
 ·rw[if_neg h0] at h;by_cases h1 : -(n:Int)<=i
  ·rw[if_pos h1] at h;have e:=Bs h;exact⟨by rw[seqIndex_neg (by lia) h1,e],by lia,h1,by lia⟩
  ·grind
theorem q7x{xs:List α}{v:α}(h:atI xs i=some v):∃j,seqIndex? i xs.length=some j/\xs[j]?=some v/\j<xs.length /\ -(xs.length:Int)<=i/\i<xs.length:=by
 unfold atI at h;cases e:ixN xs.length i with
 |none=>rw[e] at h;cases h
 |some j =>
  rw[e] at h;obtain⟨h1,h2,h3,h4⟩:=z6h e;exact⟨j,h1,h,h2,h3,h4⟩
theorem q1m{xs:List α}{j:Nat}{v:α}(h:xs[j]?=some v):atI xs (j:Int)=some v:=by
 have hj:=(Aq.mp h).1;have e:ixN xs.length (j:Int)=some j:=by
  unfold ixN;rw[if_pos (by lia),if_pos (by lia)];simp
 unfold atI;rw[e];exact h
def PlainIx(b:Expr):Prop:=∀o i,Qq b false o i=operate [o,i] (getItem o i)
def IxR(X:Cx)(r:R2):Prop :=
 ∀(value slice:Expr) (pins:List (Addr×Obj)) (s:Af) (σ:St) (H:Hp) (x y:V) (v u:Value) (Q:VK),Inv X pins σ H s->RelV x v->RelV y u->r x y H Q ->
  Qq slice false v u=operate [v,u] (getItem v u)->wpAny (model X.prog X.w) X.A (subscriptTail value slice v u) (EP X pins σ Q) X.xe s
def MtR(X:Cx)(id:String)(r:V->List V->Hp->VK->Prop):Prop :=
 ∀(pins:List (Addr×Obj)) (s:Af) (σ:St) (H:Hp) (x:V) (xs:List V) (v:Value) (us:List Value) (Q:VK),Inv X pins σ H s->RelV x v->Vals xs us->r x xs H Q ->
  wpAny (model X.prog X.w) X.A (call (.builtin id) (v::us)) (EP X pins σ Q) X.xe s
section
variable{X:Cx}{a b:Expr}{ta tb:TE}{pos:Pos}
theorem IxR.or(h:IxR X r)(h':IxR X r'):IxR X (fun x y H Q=>r x y H Q\/r' x y H Q):=by
 intro value slice pins s σ H x y v u Q I rx ry q hs;rcases q with q|q
 ·exact h value slice pins s σ H x y v u Q I rx ry q hs
 ·exact h' value slice pins s σ H x y v u Q I rx ry q hs
theorem q0v{r:R2}(hr:IxR X r)(ha:PE X a ta)(hb:PE X b tb)(hs:PlainIx b):PE X (.Subscript a b pos) (tOp r ta tb):=by
 intro pins s σ H Q I h;exact Vy (binT ha hb I h fun v u s2 x y H2 I2 rx ry q=>hr a b pins s2 σ H2 x y v u Q I2 rx ry q (hs _ _))
def rIxL(K:Ah):R2:=fun x y H Q=>∃p xs i v,x=.ref p/\y=.int i/\SqL K H p xs/\atI xs i=some v/\Q v H
def rIxT(K:Ah):R2:=fun x y H Q=>∃p xs i v,x=.ref p/\y=.int i/\SqT K H p xs/\atI xs i=some v/\Q v H
def rIxS:R2:=fun x y H Q=>∃z i c,x=.str z/\y=.int i/\z.length<=sizeLine/\atI z.cps.toList i=some c/\Q (.str ⟨#[c]⟩) H
theorem ix_list:IxR X (rIxL X.K):=by
 intro value slice pins s σ H x y v u Q I rx ry h hs;obtain⟨p,xs,i,z,rfl,rfl,hq,he,q⟩:=h;cases rx;obtain⟨t,rfl⟩:=ry;obtain⟨its,r,pl,hz⟩:=I.list hq;obtain⟨j,h1,h2,h3,h4,h5⟩:=q7x he;obtain⟨w,ew,rw'⟩:=r.get h2;have hl:=r.length;have hn:=line63;have fin:EP X pins σ Q w s:=⟨z,H,I,rw',q⟩
 by_cases h0:0<=i
 ·have hj:i.toNat=j:=by
   rw[Qp h0 h5] at h1;exact Bs h1
  exact item_listR pl.isList h0 (by lia) (by rw[hj];simpa using ew) fin hs
 ·have hj:(i+(its.toArray.size:Int)).toNat=j:=by
   rw[seqIndex_neg (by lia) h4] at h1;rw[Aw,<- hl];exact Bs h1
  exact Qr pl.isList.typeIs slot_list_getitem.lookup
   (Qs pl.isList (by lia) (by rw[Aw]<;>lia) (by lia) (by rw[hj];simpa using ew) ⟨rfl,fin⟩) hs
theorem ix_tup:IxR X (rIxT X.K):=by
 intro value slice pins s σ H x y v u Q I rx ry h hs;obtain⟨p,xs,i,z,rfl,rfl,hq,he,q⟩:=h;cases rx;obtain⟨t,rfl⟩:=ry;obtain⟨its,r,pl,hz⟩:=I.tuple hq;obtain⟨j,h1,h2,h3,h4,h5⟩:=q7x he;obtain⟨w,ew,rw'⟩:=r.get h2;have hl:=r.length;have hn:=line63;have fin:EP X pins σ Q w s:=⟨z,H,I,rw',q⟩
 exact Qr pl.typeIs slot_tuple_getitem.lookup
  (getItem_tuple pl (by lia) (by lia) (by rw[Aw,<- hl];exact h1) (by simpa using ew) ⟨rfl,fin⟩) hs
theorem ix_str:IxR X rIxS:=by
 intro value slice pins s σ H x y v u Q I rx ry h hs;obtain⟨z,i,c,rfl,rfl,hz,he,q⟩:=h;obtain⟨t,rfl⟩:=rx;obtain⟨t',rfl⟩:=ry;obtain⟨j,h1,h2,h3,h4,h5⟩:=q7x he;have hl:z.cps.toList.length=z.length:=by simp[Str.length]
 rw[hl] at h1 h4 h5;have hn:=line63;exact tail_any (Sa s z t) slot_str_getitem.lookup (getItem_str (by
  have e1:decide (i < -(2^63:Int))=false:=decide_eq_false (by lia);have e2:decide (i>=2^63)=false:=decide_eq_false (by lia);rw[e1,e2,Ss]) (by rw[h1];simpa using h2) ⟨.str ⟨#[c]⟩,H,I.tok _,⟨_,rfl⟩,q⟩) hs
def rIx(K:Ah):R2:=fun x y H Q=>rIxL K x y H Q\/rIxT K x y H Q\/rIxS x y H Q
theorem ix_seq:IxR X (rIx X.K):=ix_list.or (ix_tup.or ix_str)
theorem z4r(its:List Value)(n j:Nat)(u:Value):Gs (·.setIfInBounds j u) { cls:=.type "list",data:=.seq its.toArray n }={ cls:=.type "list",data:=.seq (its.set j u).toArray n }:=by
 simp[Gs]
theorem Inv.lst{pins:List (Addr×Obj)}{σ:St}{H:Hp}{s:Af}{p:Addr}{xs:List V}(I:Inv X pins σ H s)(h:H p=some (.lst xs)):
  ∃(its:List Value) (n:Nat),Vals xs its/\s.heap.get? p=some { cls:=.type "list",data:=.seq its.toArray n }/\xs.length<=sizeLine:=by
 obtain⟨z,its,n,r,e⟩:=I.hok p _ h;exact⟨its,n,r,e,z⟩
theorem Inv.lstUpd{σ:St}{its:List Value}(I:Inv X pins σ H s)(h:H p=some (.lst xs))(ho:s.heap.get? p=some { cls:=.type "list",data:=.seq its.toArray n })(hf:f { cls:=.type "list",data:=.seq its.toArray n }={ cls:=.type "list",data:=.seq its'.toArray n' })(r:Vals ys its')(hz:ys.length<=sizeLine)(t:Nat):
  Inv X pins σ (upd H p (.lst ys)) { s with heap:=s.heap.update p f,toks:=t }:=by
 have e:(s.heap.update p f).get? p=some { cls:=.type "list",data:=.seq its'.toArray n' }:=by
  rw[Es f ho (by rw[hf]<;>rfl),hf]
 refine I.write (by rw[h];trivial) (.inl rfl) (fun b u hb q=>(Cb _ _ (Ca hb)).trans q) ⟨_,e⟩ ?_;exact⟨hz,its',n',r,e⟩
def rSetL:V->V->V->Hp->(Hp->Prop)->Prop:=fun o i v H Q=>∃p xs k j,o=.ref p/\i=.int k/\H p=some (.lst xs)/\ixN xs.length k=some j/\Q (upd H p (.lst (xs.set j v)))
theorem q5l:PSet X rSetL:=by
 intro pins s σ H o i v ov iv u Q I ro ri rv h;obtain⟨p,xs,k,j,rfl,rfl,hp,hj,q⟩:=h;cases ro;obtain⟨t,rfl⟩:=ri;obtain⟨its,n,r,ho,hz⟩:=I.lst hp;obtain⟨h1,h2,h3,h4⟩:=z6h hj;have hl:=r.length;have hn:=line63;have I':Inv X pins σ (upd H p (.lst (xs.set j v))) { s with heap:=s.heap.update p (Gs (·.setIfInBounds j u)) } :=
  I.lstUpd hp ho (z4r its n j u) (r.set rv j) (by rw[List.length_set];exact hz) s.toks
 by_cases h0:0<=k
 ·have hk:k.toNat=j:=by
   rw[Qp h0 h4] at h1;exact Bs h1
  exact W.ki_setAt ho h0 (by lia) (by rw[Aw,<- hl];exact h4) (by rw[hk];exact⟨_,I',q⟩)
 ·have hk:(k+(its.toArray.size:Int)).toNat=j:=by
   rw[seqIndex_neg (by lia) h3] at h1;rw[Aw,<- hl];exact Bs h1
  exact W.ki_setBack ho (by lia) (by rw[Aw,<- hl];exact h3) (by lia) (by rw[hk];exact⟨_,I',q⟩)
theorem q9p(lo hi:Option Int)(n:Nat):(Jr lo hi none n).1=((HT.sIx n 0 lo:Nat):Int)/\(Jr lo hi none n).2.1=((HT.sIx n n hi:Nat):Int)/\(Jr lo hi none n).2.2=1:=by
 refine⟨?_,?_,rfl⟩
 ·cases lo with
  |none=>simp[Jr,HT.sIx]
  |some i =>
   simp only[Jr,HT.sIx,Vh,show(1:Int)>0 by decide,if_true];by_cases h:i<0
   ·simp only[h,if_true]<;>lia
   ·simp only[h,if_false]<;>lia
 ·cases hi with
  |none=>simp[Jr,HT.sIx]
  |some i =>
   simp only[Jr,HT.sIx,Vh,show(1:Int)>0 by decide,if_true];by_cases h:i<0
   ·simp only[h,if_true]<;>lia
   ·simp only[h,if_false]<;>lia
theorem q7y(its:List Value)(lo hi:Option Int):slicePick its.toArray lo hi none=((its.drop (HT.sIx its.length 0 lo)).take (HT.sIx its.length its.length hi-HT.sIx its.length 0 lo)).toArray:=by
 obtain⟨h1,h2,h3⟩:=q9p lo hi its.toArray.size;unfold slicePick;rw[h1,h2,h3];simp only[sliceRange_one,pick_run,Aw]<;>rfl
def rSlL(K:Ah):V->Option Int->Option Int->Hp->VK->Prop:=fun x lo hi H Q=>∃a xs,x=.ref a/\SqL K H a xs/\∀p,H p=none->Q (.ref p) (upd H p (.lst (cutV xs lo hi)))
theorem sl_list:SlR X (rSlL X.K):=by
 intro pins s σ H x v vl vu lo hi sl Q I rx hs pl pu h;obtain⟨a,xs,rfl,hx,q⟩:=h;cases rx;obtain⟨its,r,ht,hz⟩:=I.list hx;have hlen:=r.length;refine⟨"list",_,slot_list_getitem.lookup,ht.isList.typeIs,?_⟩;refine wpAny_getItem_list_slice ht.isList hs pl pu .none (by simp) ?_ (by rw[Aw]<;>lia);rw[q7y,<- hlen];refine⟨.ref s.heap.objs.size,_,I.laid (t':=s.toks) (fun b ob q=>Ae _ q) (Aj _) ?_,rfl,q _ (I.hok.fresh (Aj _))⟩;exact⟨Bb (q5t xs lo hi) hz,_,0,(r.drop (HT.sIx xs.length 0 lo)).take (HT.sIx xs.length xs.length hi-HT.sIx xs.length 0 lo),Ak _ rfl⟩
def flatV:V->Bool
 |.non=>true
 |.bl _=>true
 |.int _=>true
 |.str _=>true
 |_=>false
def eqV:V->V->Bool
 |.non,.non=>true
 |.bl a,.bl b=>a==b
 |.bl a,.int b=>(if a then 1 else 0)==b
 |.int a,.bl b=>a==(if b then 1 else 0)
 |.int a,.int b=>a==b
 |.str a,.str b=>a==b
 |_,_=>false
theorem eqAt_V(ry:RelV y u)(rx:RelV x v)(fy:flatV y=true)(fx:flatV x=true):Eo A s u v (eqV y x):=by
 cases y with
 |non =>
  cases ry;cases x with
  |non=>cases rx;exact Vz _
  |bl b=>cases rx;exact Eo.none_bool b
  |int b=>obtain⟨t,rfl⟩:=rx;exact Eo.none_int b t
  |str b=>obtain⟨t,rfl⟩:=rx;exact Eo.none_str b t
  |_=>exact absurd (show false=true from fx) Bh
 |bl a =>
  cases ry;cases x with
  |non=>cases rx;exact Eo.bool_none a
  |bl b=>cases rx;exact Eo.bool_bool a b
  |int b=>obtain⟨t,rfl⟩:=rx;exact Eo.bool_int a b t
  |str b=>obtain⟨t,rfl⟩:=rx;exact Eo.bool_str a b t
  |_=>exact absurd (show false=true from fx) Bh
 |int a =>
  obtain⟨t',rfl⟩:=ry;cases x with
  |non=>cases rx;exact Eo.int_none a t'
  |bl b=>cases rx;exact Eo.int_bool a t' b
  |int b=>obtain⟨t,rfl⟩:=rx;exact Eo.int_int a t' b t
  |str b=>obtain⟨t,rfl⟩:=rx;exact Tf a t' b t
  |_=>exact absurd (show false=true from fx) Bh
 |str a =>
  obtain⟨t',rfl⟩:=ry;cases x with
  |non=>cases rx;exact Eo.str_none a t'
  |bl b=>cases rx;exact Eo.str_bool a t' b
  |int b=>obtain⟨t,rfl⟩:=rx;exact Tg a t' b t
  |str b=>obtain⟨t,rfl⟩:=rx;exact Nx a t' b t
  |_=>exact absurd (show false=true from fx) Bh
 |_=>exact absurd (show false=true from fy) Bh
def eqU(x:V)(u:Value):Bool:=match u with
 |.none=>eqV .non x
 |.bool b=>eqV (.bl b) x
 |.int i _=>eqV (.int i) x
 |.str z _=>eqV (.str z) x
 |_=>false
theorem x2f(r:RelV y u)(f:flatV y=true):eqU x u=eqV y x:=by
 cases y with
 |non=>cases r;rfl
 |bl b=>cases r;rfl
 |int i=>obtain⟨t,rfl⟩:=r;rfl
 |str z=>obtain⟨t,rfl⟩:=r;rfl
 |_=>exact absurd (show false=true from f) Bh
theorem q5u{x:V}:∀{xs:List V} {us:List Value},Vals xs us->xs.all flatV=true->us.any (eqU x)=xs.any fun y=>eqV y x
 |_,_,.nil,_=>rfl
 |y::xs,u::us,.cons r t,f=>by
  rw[Su,Jh] at f;rw[Lx,Lx,x2f r f.1,q5u t f.2]
theorem q4l{A:Around}{s:Af}{x:V}{v:Value}(rx:RelV x v)(fx:flatV x=true):∀{xs:List V} {us:List Value},Vals xs us->xs.all flatV=true->∀u∈us,Eo A s u v (eqU x u)
 |_,_,.nil,_=>fun u hu=>by cases hu
 |y::xs,u::us,.cons r t,f=>fun u' hu=>by
  rw[Su,Jh] at f;rcases Bk.mp hu with rfl|hu
  ·rw[x2f r f.1];exact eqAt_V r rx f.1 fx
  ·exact q4l rx fx t f.2 u' hu
def inV(x:V)(xs:List V):Bool:=xs.any fun y=>eqV y x
def rIn(K:Ah)(neg:Bool):R2:=fun x y H Q=>∃p xs,y=.ref p/\(SqL K H p xs\/SqT K H p xs)/\flatV x=true/\xs.all flatV=true/\Q (.bl (if neg then !inV x xs else inV x xs)) H
theorem z6i:OpR X (Cg .In) (rIn X.K false):=by
 intro pins s σ H x y v u Q I rx ry h;obtain⟨p,xs,rfl,hq,fx,fs,q⟩:=h;cases ry;rcases hq with hq|hq
 ·obtain⟨its,r,pl,hz⟩:=I.list hq;refine SeqAt.in_listAt (eqU x) pl.isList (fun w hw=>q4l rx fx r fs w (by simpa using hw)) ⟨.bl _,H,I,rfl,?_⟩;rw[show its.toArray.any (eqU x)=its.any (eqU x) by simp,q5u r fs];exact q
 ·obtain⟨its,r,pl,hz⟩:=I.tuple hq;refine SeqAt.in_tupleAt (eqU x) pl (fun w hw=>q4l rx fx r fs w (by simpa using hw)) ⟨.bl _,H,I,rfl,?_⟩;rw[show its.toArray.any (eqU x)=its.any (eqU x) by simp,q5u r fs];exact q
theorem q9q:OpR X (Cg .NotIn) (rIn X.K true):=by
 intro pins s σ H x y v u Q I rx ry h;obtain⟨p,xs,rfl,hq,fx,fs,q⟩:=h;cases ry;rcases hq with hq|hq
 ·obtain⟨its,r,pl,hz⟩:=I.list hq;refine SeqAt.notIn_listAt (eqU x) pl.isList (fun w hw=>q4l rx fx r fs w (by simpa using hw)) ⟨.bl _,H,I,rfl,?_⟩;rw[show its.toArray.any (eqU x)=its.any (eqU x) by simp,q5u r fs];exact q
 ·obtain⟨its,r,pl,hz⟩:=I.tuple hq;refine SeqAt.notIn_tupleAt (eqU x) pl (fun w hw=>q4l rx fx r fs w (by simpa using hw)) ⟨.bl _,H,I,rfl,?_⟩;rw[show its.toArray.any (eqU x)=its.any (eqU x) by simp,q5u r fs];exact q
theorem op_notIn_str:OpR X (Cg .NotIn) (fun x y H Q=>∃i j,x=.str i/\y=.str j/\Q (.bl (!(!(Gm j i 0 j.length 1).isEmpty))) H):=by
 intro pins s σ H x y v u Q I rx ry h;obtain⟨i,j,rfl,rfl,q⟩:=h;obtain⟨t,rfl⟩:=rx;obtain⟨t',rfl⟩:=ry;exact notIn_str ⟨.bl _,H,I,rfl,q⟩
theorem CallR.or(h:CallR X f r)(h':CallR X f r'):CallR X f (fun xs H Q=>r xs H Q\/r' xs H Q):=by
 intro pins s σ H xs us Q I rs q;rcases q with q|q
 ·exact h pins s σ H xs us Q I rs q
 ·exact h' pins s σ H xs us Q I rs q
theorem q9r:CallR X (.type "list") (fun xs H Q=>∃p ys,xs=[.ref p]/\(SqL X.K H p ys\/SqT X.K H p ys)/\∀l,H l=none->Q (.ref l) (upd H l (.lst ys))):=by
 intro pins s σ H xs us Q I r h;obtain⟨p,ys,rfl,hq,q⟩:=h;obtain⟨u,rfl,rx⟩:=vals1 r;cases rx;have fin:∀(its:List Value),Vals ys its->ys.length<=sizeLine->∀(h':Heap) (c':Nat),(∀b o',s.heap.get? b=some o'->h'.get? b=some o') ->
   h'.get? s.heap.objs.size=some { cls:=.type "list",dict:=none,data:=.seq its.toArray c',slots:=#[] }->EP X pins σ Q (.ref s.heap.objs.size) { s with heap:=h' }:=fun its r' hz h' c' kp e =>
  ⟨.ref s.heap.objs.size,_,I.laid (t':=s.toks) kp (Aj _) (show ObjOk X.prog X.w _ h' _ (.lst ys) from⟨hz,its,c',r',e⟩),rfl,q _ (I.hok.fresh (Aj _))⟩
 rcases hq with hq|hq
 ·obtain⟨its,r',pl,hz⟩:=I.list hq;have hlen:=r'.length;obtain⟨o,ho,hc,n,hd⟩:=pl.isList;exact call_list_seq p (.inl rfl) ho hc hd (fun h' c' kp e=>fin its r' hz h' c' kp e) (by simp only[Aw]<;>lia)
 ·obtain⟨its,r',pl,hz⟩:=I.tuple hq;have hlen:=r'.length;obtain⟨o,ho,hc,n,hd⟩:=pl;exact call_list_seq p (.inr rfl) ho hc hd (fun h' c' kp e=>fin its r' hz h' c' kp e) (by simp only[Aw]<;>lia)
theorem q7z:CallR X (.type "tuple") (fun xs H Q=>∃p ys,xs=[.ref p]/\((SqL X.K H p ys/\∀l,H l=none->Q (.ref l) (upd H l (.tup ys)))\/(SqT X.K H p ys/\Q (.ref p) H))):=by
 intro pins s σ H xs us Q I r h;obtain⟨p,ys,rfl,h⟩:=h;obtain⟨u,rfl,rx⟩:=vals1 r;cases rx;rcases h with⟨hq,q⟩|⟨hq,q⟩
 ·obtain⟨its,r',pl,hz⟩:=I.list hq;have hlen:=r'.length;refine call_tuple_list pl.isList (fun h' kp=>?_) (by simp only[Aw]<;>lia);have I1:Inv X pins σ H { s with heap:=h' }:=I.kept (t':=s.toks) kp;have I2:Inv X pins σ (upd H h'.objs.size (.tup ys)) { s with heap:=h'.push { cls:=.type "tuple",data:=.seq its.toArray } } :=
   I1.laid (t':=s.toks) (fun b o e=>Ae _ e) (Aj _) (show ObjOk X.prog X.w _ _ _ (.tup ys) from⟨hz,its,r',Wt _ _⟩)
  exact⟨.ref h'.objs.size,_,I2,rfl,q _ (I1.hok.fresh (Aj _))⟩
 ·obtain⟨its,r',pl,hz⟩:=I.tuple hq;exact call_tuple_same pl ⟨.ref p,H,I,rfl,q⟩
def tyV(K:Ah)(T:String)(x:V)(H:Hp):Prop:=match x with
 |.str _=>T = "str"
 |.int _=>T = "int"
 |.ref p=>(T = "list" /\ ∃xs,SqL K H p xs)\/(T = "tuple" /\ ∃o,K.lookup p=some o/\o.cls=.type "tuple" /\ o.dict=none) \/
   (T = "dict" /\ ((∃kvs,H p=some (.dK kvs))\/∃kvs,H p=some (.dT kvs)))\/(T = "set" /\ ∃S n,H p=some (.set S n))
 |_=>False
theorem x2g{σ:St}(I:Inv X pins σ H s)(r:RelV x v)(ty:tyV X.K T x H):
  s.TypeIs v T/\∀a,v=.ref a->∃ob,s.heap.get? a=some ob/\ob.dict=none:=by
 cases x with
 |str z =>
  obtain⟨t,rfl⟩:=r;cases(show T = "str" from ty);exact⟨Sa s z t,fun _ e=>nomatch e⟩
 |int i =>
  obtain⟨t,rfl⟩:=r;cases(show T = "int" from ty);exact⟨Wa s i t,fun _ e=>nomatch e⟩
 |ref p =>
  cases r;rcases ty with⟨rfl,xs,hq⟩|⟨rfl,o,hk,hc,hd⟩|⟨rfl,hk⟩|⟨rfl,S,n,hk⟩
  ·obtain⟨its,_,pl,_⟩:=I.list hq;refine⟨pl.isList.typeIs,fun a e=>?_⟩;cases e;obtain⟨o,n,e,c,hd,_⟩:=pl;exact⟨o,e,hd⟩
  ·refine⟨⟨o,I.kIn p o hk,hc⟩,fun a e=>?_⟩;cases e;exact⟨o,I.kIn _ o hk,hd⟩
  ·have z:∃o,s.heap.get? p=some o/\o.ExactDict:=by
    rcases hk with⟨kvs,hk⟩|⟨kvs,hk⟩
    ·obtain⟨_,_,_,_,o,_,_,e,ex,_⟩:=I.hok p _ hk;exact⟨o,e,ex⟩
    ·obtain⟨_,_,_,_,o,_,_,e,ex,_⟩:=I.hok p _ hk;exact⟨o,e,ex⟩
   obtain⟨o,e,ex⟩:=z;refine⟨⟨o,e,ex.1⟩,fun a e2=>?_⟩;cases e2;exact⟨o,e,ex.2.1⟩
  ·obtain⟨o,_,_,_,e,ex,_⟩:=I.hok p _ hk;refine⟨⟨o,e,ex.1⟩,fun a e2=>?_⟩;cases e2;exact⟨o,e,ex.2.1⟩
 |_=>exact False.elim ty
def tBM0(K:Ah)(T:String)(r:V->List V->Hp->VK->Prop)(to:TE):TE:=fun σ H Q=>to σ H fun x H1=>tyV K T x H1/\r x [] H1 Q
def tBM(K:Ah)(T:String)(r:V->List V->Hp->VK->Prop)(to:TE)(t:TA):TE:=fun σ H Q=>to σ H fun x H1=>tyV K T x H1/\t σ H1 fun xs H2=>r x xs H2 Q
variable{o e:Expr}{es:List Expr}{to:TE}{t:TA}{name:Str}{apos cpos:Pos}{T id:String}{r:V->List V->Hp->VK->Prop}
theorem pe_bm0(pa:Sb T)(slot:Slot T name id)(hty:typeOf (.builtin id)=pure (.type "method_descriptor"))(hm:MtR X id r)(ho:PE X o to)(hbase:Gi o name X.env (eval o X.env)=eval o X.env:=by rfl)(hline:(apos.endLine==cpos.line)=true:=by rfl):PE X (.Call (.Attribute o name apos) [] [] cpos) (tBM0 X.K T r to):=by
 intro pins s σ H Q I h;refine wpAny_Call_method0_late hbase hline (thn (ho pins s σ H _ I h) fun v s1 ⟨x,H1,I1,r1,ty,q1⟩=>?_);obtain⟨h1,h2⟩:=x2g I1 r1 ty;exact⟨T,id,pa,slot,hty,h1,h2,Lr rfl (PySem.evalArgs_none (hm pins s1 σ H1 x [] v [] Q I1 r1 .nil q1))⟩
theorem pe_bm(pa:Sb T)(slot:Slot T name id)(hty:typeOf (.builtin id)=pure (.type "method_descriptor"))(hm:MtR X id r)(ho:PE X o to)(ha:PA X (e::es) t)(hbase:Gi o name X.env (eval o X.env)=eval o X.env:=by rfl)(hfew:((Em cpos (Ax (e::es) X.env)).all (fun x => !x.1)&&(Ly cpos (Io [] X.env)).all (fun x=>x.1.isSome)
   && decide ((e::es).length+([]:List Rh).length+(if ([]:List Rh).isEmpty then 0 else 1)<30))=true:=by rfl)(hline:(apos.endLine==cpos.line)=true:=by rfl)(hs:Ax (e::es) X.env=(false,eval e X.env)::Ax es X.env:=by rfl)(hplain:(Em cpos (Ax es X.env)).any (·.1)=false:=by rfl):
  PE X (.Call (.Attribute o name apos) (e::es) [] cpos) (tBM X.K T r to t):=by
 intro pins s σ H Q I h;refine wpAny_Call_method_late hbase hfew hline rfl (thn (ho pins s σ H _ I h) fun v s1 ⟨x,H1,I1,r1,ty,q1⟩=>?_);obtain⟨h1,h2⟩:=x2g I1 r1 ty;refine⟨T,id,pa,slot,hty,h1,h2,?_⟩;have hA:=ha cpos pins s1 σ H1 _ I1 q1;rw[hs] at hA ⊢;refine Lr (by show(false||(Em cpos (Ax es X.env)).any (·.1))=false;rw[hplain]<;>rfl) (Sd ?_);exact thn hA fun us s2 ⟨vs,H2,I2,r2,q2⟩=>hm pins s2 σ H2 x vs v us Q I2 r1 r2 q2
end
open PySem PySem.Spec PyProof.Rows
def MtM(X:Cx)(id:String)(r:V->List V->Hp->VK->Prop):Prop :=
 ∀(pins:List (Addr×Obj)) (s:Af) (σ:St) (H:Hp) (x:V) (xs:List V) (v:Value) (us:List Value) (Q:VK),Inv X pins σ H s->RelV x v->Vals xs us->r x xs H Q ->
  wpAny (model X.prog X.w) X.A (call (.builtin id) (v::us)) (EP X pins σ Q) X.xe s
theorem Vals.one:∀{x:V} {us:List Value},Vals [x] us->∃u,us=[u]/\RelV x u
 |_,_,.cons r .nil=>⟨_,rfl,r⟩
theorem Vals.two:∀{x y:V} {us:List Value},Vals [x,y] us->∃u v,us=[u,v]/\RelV x u/\RelV y v
 |_,_,_,.cons r (.cons q .nil)=>⟨_,_,rfl,r,q⟩
theorem Vals.zero:∀{us:List Value},Vals [] us->us=[]
 |_,.nil=>rfl
theorem Vals.reverse(h:Vals xs us):Vals xs.reverse us.reverse:=by
 induction h with
 |nil=>exact .nil
 |cons r t ih=>rw[Um,Um];exact Vals.append ih (.cons r .nil)
theorem Vals.rep{xs:List V}{us:List Value}(h:Vals xs us):∀k:Nat,Vals (List.replicate k xs).flatten (List.replicate k us).flatten
 |0=>.nil
 |k+1=>by
  rw[Ni,Ni,Ir,Ir];exact Vals.append h (Vals.rep h k)
theorem q9s(its:List Value):∀(k:Nat) (acc:List Value),
  List.foldl (fun x1 x2=>x1++x2) acc.toArray (List.replicate k its.toArray)=(acc++(List.replicate k its).flatten).toArray
 |0,acc=>by simp
 |k+1,acc=>by
  have e:acc.toArray++its.toArray=(acc++its).toArray:=by simp
  have e2:(acc++its)++(List.replicate k its).flatten=acc++(List.replicate (k+1) its).flatten:=by grind
  rw[<- e2,<- q9s its k (acc++its),<- e,Ni,Jx]
section
variable{X:Cx}{pins:List (Addr×Obj)}{σ:St}{H:Hp}{s:Af}{l b:Addr}{xs ys zs:List V}
theorem Inv.lset{its:List Value}(I:Inv X pins σ H s)(hH:H l=some (.lst xs))(e:s.heap.get? l=some { cls:=.type "list",data:=.seq its.toArray n })(hf:f its.toArray=its'.toArray)(hv:Vals ys its')(hz:ys.length<=sizeLine):
  Inv X pins σ (upd H l (.lst ys)) { s with heap:=s.heap.update l (Gs f),toks:=t' }:=by
 have q:=PySem.IsL.update e f;rw[hf] at q;refine I.write (by rw[hH];exact trivial) (.inl rfl) (fun b' u hb hu=>(Cb s.heap (Gs f) (Ca hb)).trans hu) ⟨_,q⟩ ?_;exact⟨hz,its',_,hv,q⟩
theorem Inv.lnew(I:Inv X pins σ H s)(hv:Vals ys its)(hz:ys.length<=sizeLine):
  Inv X pins σ (upd H s.heap.objs.size (.lst ys)) { s with heap:=s.heap.push { cls:=.type "list",data:=.seq its.toArray },toks:=t' } :=
 I.laid (fun _ _ q=>Ae _ q) (Aj _) ⟨hz,its,0,hv,Ak _ rfl⟩
theorem Inv.fresh(I:Inv X pins σ H s):H s.heap.objs.size=none:=I.hok.fresh (Aj _)
theorem Inv.lstM(I:Inv X pins σ H s)(hH:H l=some (.lst xs)):xs.length<=sizeLine/\∃(its:List Value) (n:Nat),Vals xs its/\xs.length=its.length/\s.heap.get? l=some { cls:=.type "list",data:=.seq its.toArray n }:=by
 obtain⟨z,its,n,r,e⟩:=I.hok l _ hH;exact⟨z,its,n,r,r.length,e⟩
theorem notLongL(h:n<=sizeLine):Km n=false:=by
 exact decide_eq_false (by lia)
end
section
variable{X:Cx}
def rAppend:V->List V->Hp->VK->Prop:=fun x vs H Q=>∃l xs y,x=.ref l/\vs=[y]/\H l=some (.lst xs)/\xs.length<sizeLine/\Q .non (upd H l (.lst (xs++[y])))
theorem q1i:MtM X "list.append" rAppend:=by
 intro pins s σ H x vs v us Q I rx rv h;obtain⟨l,xs,y,rfl,rfl,hH,hz,q⟩:=h;cases rx;obtain⟨u,rfl,ru⟩:=rv.one;obtain⟨z,its,n,r,hl,e⟩:=I.lstM hH;refine Mt F.slot_list_append ⟨_,e,rfl⟩ F.entry_list_append (F.args_list_append_2 _ _) (PySem.list_append l its.toArray n u (by rw[Aw];lia)) ⟨e,?_⟩;refine⟨.non,_,I.lset (its':=its++[u]) hH e (by simp) (r.append (.cons ru .nil)) ?_,rfl,q⟩;rw[Ai,Bc];lia
def rExtend:V->List V->Hp->VK->Prop:=fun x vs H Q=>∃l b xs zs,x=.ref l/\vs=[.ref b]/\H l=some (.lst xs)/\H b=some (.lst zs)/\xs.length+zs.length<=sizeLine/\Q .non (upd H l (.lst (xs++zs)))
theorem q9t:MtM X "list.extend" rExtend:=by
 intro pins s σ H x vs v us Q I rx rv h;obtain⟨l,b,xs,zs,rfl,rfl,hH,hB,hz,q⟩:=h;cases rx;obtain⟨u,rfl,ru⟩:=rv.one;cases ru;obtain⟨z,its,n,r,hl,e⟩:=I.lstM hH;obtain⟨z2,its2,n2,r2,hl2,e2⟩:=I.lstM hB;have hsz:its.toArray.size+its2.toArray.size<=sizeLine:=by grind
 have hlong:¬(!its.toArray.isEmpty&&Km (its.toArray.size+its2.toArray.size))=true:=by
  rw[notLongL hsz,Bool.and_false];exact Bh
 refine Mt F.slot_list_extend ⟨_,e,rfl⟩ F.entry_list_extend (F.args_list_extend_2 _ _)
  (AutoSeq1.list_extend_list_list_0 l its.toArray n b its2.toArray n2 hlong (by rw[Aw];lia) (by lia)) ⟨e,e2,?_⟩
 refine⟨.non,_,I.lset (its':=its++its2) hH e (by simp) (r.append r2) ?_,rfl,q⟩;rw[Ai];lia
def rReverse:V->List V->Hp->VK->Prop:=fun x vs H Q=>∃l xs,x=.ref l/\vs=[]/\H l=some (.lst xs)/\Q .non (upd H l (.lst xs.reverse))
theorem z4s:MtM X "list.reverse" rReverse:=by
 intro pins s σ H x vs v us Q I rx rv h;obtain⟨l,xs,rfl,rfl,hH,q⟩:=h;cases rx;have hus:=rv.zero;subst hus;obtain⟨z,its,n,r,hl,e⟩:=I.lstM hH;refine Mt F.slot_list_reverse ⟨_,e,rfl⟩ F.entry_list_reverse (F.args_list_reverse_1 _) (AutoSeq1.list_reverse_list_0 l its.toArray n (by rw[Aw];lia)) ⟨e,?_⟩;refine⟨.non,_,I.lset (its':=its.reverse) hH e (by simp) r.reverse ?_,rfl,q⟩;rw[Sz];lia
def rCat:R2:=fun x y H Q=>∃l b xs zs,x=.ref l/\y=.ref b/\H l=some (.lst xs)/\H b=some (.lst zs)/\xs.length+zs.length<=sizeLine/\∀p,H p=none->Q (.ref p) (upd H p (.lst (xs++zs)))
theorem op_cat:OpR X (Ga .Add) rCat:=by
 intro pins s σ H x y v u Q I rx ry h;obtain⟨l,b,xs,zs,rfl,rfl,hH,hB,hz,q⟩:=h;cases rx;cases ry;obtain⟨z,its,n,r,hl,e⟩:=I.lstM hH;obtain⟨z2,its2,n2,r2,hl2,e2⟩:=I.lstM hB;refine PySem.P.add_list e e2 ?_ (by rw[Aw,Aw];lia);have ea:its.toArray++its2.toArray=(its++its2).toArray:=by simp
 rw[ea];exact⟨.ref _,_,I.lnew (t':=s.toks) (r.append r2) (by rw[Ai];lia),rfl,q _ I.fresh⟩
def rRep:R2:=fun x y H Q=>∃l k xs,x=.ref l/\y=.int k/\H l=some (.lst xs) /\ -(2^63)<=k/\k<2^63/\xs.length*k.toNat<=sizeLine /\
 ∀p,H p=none->Q (.ref p) (upd H p (.lst (List.replicate k.toNat xs).flatten))
theorem x3q{α:Type}(xs:List α)(k:Nat):(List.replicate k xs).flatten.length=k*xs.length:=by simp_all
theorem op_rep:OpR X (Ga .Mult) rRep:=by
 intro pins s σ H x y v u Q I rx ry h;obtain⟨l,k,xs,rfl,rfl,hH,h1,h2,hz,q⟩:=h;cases rx;obtain⟨t,rfl⟩:=ry;obtain⟨z,its,n,r,hl,e⟩:=I.lstM hH;have hlen:its.toArray.size*k.toNat<=sizeLine:=by simp_all
 have hcap:¬its.toArray.size*k.toNat>(2^63-1) / 8:=by
  have:(sizeLine:Nat)<=(2^63-1) / 8:=by decide
  lia
 have hfit:¬(!Builtin.List.listFitsIndex k)=true:=by
  rw[fitsIndex_both h1 h2];exact Bh
 have hlong:¬Km (its.toArray.size*k.toNat)=true:=by
  rw[notLongL hlen];exact Bh
 have hnew:List.foldl (fun x1 x2=>x1++x2) #[] (List.replicate (if its.toArray.isEmpty=true then 0 else k.toNat) its.toArray)=(List.replicate k.toNat its).flatten.toArray:=by
  have f0:∀m:Nat,List.foldl (fun x1 x2=>x1++x2) #[] (List.replicate m its.toArray)=(List.replicate m its).flatten.toArray:=fun m=>by
   have:=q9s its m [];exact this
  cases its with
  |nil=>simp
  |cons a r'=>grind
 refine wpAny_binaryOp_repeat_ref (by decide) ⟨_,e,rfl⟩ (fun s'=>Wa s' k t) noFill_list_mul F.fills_int_mul Wb repeat_list F.slot_int_index.lookup
  (Mt Wb (Wa s k t) F.entry_int_rmul (F.args_int_rmul_2 _ _) (int___rmul___int_list k t l its.toArray n)
   ⟨e,rfl,⟨_,e,rfl⟩,Mt F.slot_list_mul ⟨_,e,rfl⟩ F.entry_list_mul (F.args_list_mul_2 _ _) (AutoListH.list___mul___list_int_3 l its.toArray n k t hfit hcap hlong) ⟨e,?_⟩⟩)
 rw[hnew];exact⟨.ref _,_,I.lnew (t':=s.toks) (r.rep k.toNat) (by rw[x3q,Nat.mul_comm];exact hz),rfl,q _ I.fresh⟩
end
end L2
namespace Att
open PySem PySem.W PySem.Calls PyProof.Rows
theorem q5v:∀(ns:List Int) (vs:List Value),WellAll P h vs (ns.map WData.int)->Ug vs ns:=by
 intro ns;induction ns with
 |nil =>
  intro vs w;cases w;exact .nil
 |cons n ns ih =>
  intro vs w;cases w with
  |cons a b =>
   cases a;exact .cons _ _ (ih _ b)
theorem z6j{l:OpenLaw}(hn:l.most=some n)(hpre:l.row.toRowW.claim.pre args=true)(hwl:WellAll P h vals args):
  ∃a vs ns,vals=[Value.ref a]/\args=[WData.list (ns.map WData.int)]/\h.get? a=some { cls:=.type "list",data:=.seq vs.toArray }/\Ug vs ns/\ns.length<=n:=by
 have hsh:=(pre_splitW hpre).1;have hc:l.pre.holds [] { args:=args }=true:=(pre_splitW hpre).2;obtain⟨d,r,rfl,h1,h2⟩:=hasAllW_cons hsh;obtain rfl:=hasAllW_nil h2;obtain⟨xs,rfl,h3⟩:=hasW_list h1;obtain⟨ns,rfl⟩:=items_int h3;have hlen:ns.length<=n:=by
  have h4:(WTm.not (.lt (.lit (.int (n:Int))) (.len (.arg 0)))).holds [] { args:=[.list (ns.map .int)] }=true:=by
   have h4:=(holds_andW hc).1;rw[hn] at h4;exact h4
  have h5:=condW_of h4 (w_not (w_lt w_lit (w_len_list (w_arg rfl))));first
   |(rw[decide_eq_true q'] at h5;exact absurd h5 (by decide))
   |(simp at h5;lia)
 cases hwl with
 |cons w1 w2 =>
  cases w2;cases w1 with
  |list ho hall=>exact⟨_,_,ns,rfl,rfl,ho,q5v ns _ hall,hlen⟩
theorem z6k(l:OpenLaw)(args:List WData):l.row.toRowW.claim.post args (.bool true) args=true :=
 postW_of
  (show WShape.has [] (.bool true) .bool=true by first|rfl|decide|simp[WShape.has,WShape.arms,WShape.armsAll])
  (show(WTm.eq .res (.lit (.bool true))).value [] { args:=args,res:=some (.bool true),after:=args }=some (.bool (true==true)) from w_eq_bool (w_res rfl) w_lit) rfl
theorem attach_call{l:OpenLaw}(hn:l.most=some n)(hdf:d.params.defaults=[])(call:∀(w:World) (s₀ s₁:Af) (mg mb:Str->Option Value) (fa:Addr) (o:Obj) (pm cd doc:Value) (a:Addr) (vs:List Value) (ns:List Int),
   Ground q loose [] XP w s₀ mg mb s₁.heap->YP w s₁.heap ->
   s₁.heap.get? fa=some o->o.data=.func (docDef d.name d.params d.body d.scope pm cd doc)->s₁.heap.CodeRec cd d.name->mg d.name=some (.ref fa) ->
   s₁.heap.get? a=some { cls:=.type "list",data:=.seq vs.toArray }->Ug vs ns->ns.length<=n->s₁.gens=#[] ->
   Fw (model l.prog w) Pk (.call (.ref fa) ⟨[.ref a],[]⟩) (fun r s'=>r=.ok (.ret (.bool true))/\OldK s₁.heap s'.heap/\s'.os=s₁.os/\Kw s'.gens) s₁):
  WalkO q loose XP YP l.row.toRowW d [] (fun f vs=>Wc f vs):=by
 intro w s₀ s₁ mg mb G Y fa o pm cd doc dV kV ho hd hcd hD hmg hg args vals as hpre hlay hrd hwl hlo;obtain rfl:dV=.none:=Dflts.none hD hdf;obtain rfl:kV=.none:=Dflts.noKw hD;obtain⟨a,vs,ns,rfl,rfl,hobj,hints,hlen⟩:=z6j hn hpre hwl;refine enter_call (Gw (call w s₀ s₁ mg mb fa o pm cd doc a vs ns G Y ho (fd_plain hd) hcd hmg hobj hints hlen hg) fun r s' hq=>?_);obtain⟨rfl,h2,h3,h4⟩:=hq;exact⟨.inl ⟨.bool true,.bool true,[],rfl,fun _=>rfl,.bool true,z6k l _,fun _=>⟨List.Pairwise.nil,fun _ hm=>(nomatch hm)⟩⟩,h2,h3,h4⟩
end Att
namespace L2
open PySem PySem.Spec PyProof.Rows
theorem q9u:∀{vs:List Value} {ns:List Int},Ug vs ns->Vals (ns.map V.int) vs
 |_,_,.nil=>.nil
 |_,_,.cons n t h=>.cons ⟨t,rfl⟩ (q9u h)
def Only(H:Hp):Prop:=∀b,H b=none\/∃o xs,H b=some (.frz o (.lst xs))
theorem z9t{K:Ah}(KX:K.In s₁.heap)(hns:s₁.heap.Ns Cj mg)(hb:s₁.heap.Ns builtinsNs mb)(hbb:∀x:Str,x ≠ "__name__" -> mb x=Gv x)(hlim:s₁.heap.NoLimit)(hg:s₁.gens=#[])(ha:s₁.heap.get? a=some { cls:=.type "list",data:=.seq vs.toArray })(hi:Ug vs ns)(hl:ns.length<=sizeLine)(hr:Room k Pk)(F:∀base:Heap,K.In base->base.Ns Cj mg->FnOk P w K mg base CX k fa fd [x] sp)(hbind:∀(s:Af) (u:Value),Rg s fd ⟨[u],[]⟩ [(x,u)])(hsp:∀H:Hp,Only H->SqL K H a (ns.map V.int)->sp [.ref a] H (fun v _=>v=.bl true) fun _ _ _=>False)(hCX:∀H e s',CX [] H s₁ (fun _ _ _=>False) e s'->False):
  Fw (model P w) Pk (.call (.ref fa) ⟨[.ref a],[]⟩) (fun r s'=>r=.ok (.ret (.bool true))/\OldK s₁.heap s'.heap/\s'.os=s₁.os/\Kw s'.gens) s₁:=by
 have rv:=q9u hi;have lenV:=hi.length;have core:∀H:Hp,Only H->SqL K H a (ns.map V.int)->HOk P w H s₁.heap->(∀b,H b≠none->b=a)->(H a≠none->K.lookup a=none) ->
   Fw (model P w) Pk (.call (.ref fa) ⟨[.ref a],[]⟩) (fun r s'=>r=.ok (.ret (.bool true))/\OldK s₁.heap s'.heap/\s'.os=s₁.os/\Kw s'.gens) s₁:=by
  intro H hO hS hok hA hK;have base_of:∀{b:Addr} {o:Obj},s₁.heap.get? b=some o->H b=none->(hidT s₁.heap H).get? b=some o:=fun e n=>z9j e n;have noA:∀{b:Addr} {o:Obj} {es:Array Kg} {ep:Nat},s₁.heap.get? b=some o->o.data=.dict es ep->H b=none:=fun{b o es ep} e d=>by
   cases q:H b with
   |none=>rfl
   |some u =>
    have e':=hA b (by rw[q];simp);subst e';rw[ha] at e;cases e;have d':=d;cases d'
  have nsK:∀{b:Addr} {m:Str->Option Value},s₁.heap.Ns b m->(hidT s₁.heap H).Ns b m:=fun{b m} ⟨o,es,ep,e,d,r⟩=>⟨o,es,ep,base_of e (noA e d),d,r⟩
  have hKb:=fun b o e=>base_of (KX b o e) (by
   cases q:H b with
   |none=>rfl
   |some u =>
    have e':=hA b (by rw[q];simp);subst e';rw[hK (by rw[q];simp)] at e;cases e)
  have hM:Mod K mg (hidT s₁.heap H):=⟨hKb,nsK hns,⟨mb,nsK hb,hbb⟩,let ⟨mc,h1,h2⟩:=hlim;⟨mc,nsK h1,h2⟩⟩
  have e0:Env0 P w K mg (hidT s₁.heap H) Pk [] s₁ H:=⟨rfl,hM,fun b o e=>x3j e,Kh (z5s _ _),trivial,fun b hb=>absurd (show b∈([]:List Addr) from hb) (by simp),hok,.of_eq hg⟩
  refine Gw ((F _ hKb (nsK hns)).run Pk [] s₁ H ⟨[.ref a],[]⟩ [.ref a] [.ref a] _ _ hr e0 (hbind s₁ (.ref a)) (.cons rfl .nil) (hsp H hO hS)) fun r s' h=>?_;cases r with
  |error e=>exact(hCX H e s' h).elim
  |ok fl =>
   cases fl with
   |next=>exact False.elim h
   |brk=>exact False.elim h
   |cont=>exact False.elim h
   |ret u =>
    obtain⟨v,H',os,bare,un,hok',r',q⟩:=h;have q':=q;subst q';obtain rfl:u=Value.bool true:=r';refine⟨rfl,OldK.of_keep fun b o e=>?_,os,bare⟩;cases q:H b with
    |none=>exact un.keep b o e q (by intro z;exact absurd (show b∈([]:List Addr) from z) (by simp)) (by simp)
    |some u =>
     rcases hO b with z|⟨ob,xs,z⟩
     ·grind
     ·have z2:=un.frzs b ob _ z;obtain⟨e1,_⟩:=hok b _ z;obtain⟨e2,_⟩:=hok' b _ z2;rw[e] at e1;cases e1;exact e2
 cases hk:K.lookup a with
 |some o =>
  have e:=KX a o hk;rw[ha] at e;cases e;refine core (fun _=>none) (fun _=>.inl rfl) (.inr ⟨_,vs.toArray,_,hk,rfl,rfl,rfl,by rw[Aw,lenV];exact hl,by simpa using rv⟩) (fun b u z=>by have z':(none:Option HO)=some u:=z;cases z') (fun b z=>absurd rfl z) fun z=>absurd rfl z
 |none =>
  refine core (fun b=>if b=a then some (.frz { cls:=.type "list",data:=.seq vs.toArray } (.lst (ns.map V.int))) else none) (fun b=>?_) (.inl (.inr ⟨{ cls:=.type "list",data:=.seq vs.toArray },if_pos rfl⟩)) (fun b u z=>?_) (fun b z=>?_) fun _=>hk
  ·by_cases hb:b=a
   ·simp_all
   ·simp_all
  ·by_cases hb:b=a
   ·have z':=(if_pos hb).symm.trans z;cases z';subst hb;exact⟨ha,by rw[Ag];exact hl,vs,_,rv,ha⟩
   ·grind
  ·grind
theorem walk_of{l:Wu}{K:Params->Ah}{CX:World->CXT}{sp:World->Sp}(hn:l.most=some n)(hn2:n<=sizeLine)(hdf:d.params.defaults=[])(hr:Room k Pk)(hY:∀(w:World) (h:Heap),YP w h->(K w.params).In h)(F:∀(w:World) (mg:Str->Option Value) (fa:Addr) (h:Heap),(K w.params).In h->h.Ns Cj mg->mg d.name=some (.ref fa) ->
   ∃fd:Ki,(∀(s:Af) (u:Value),Rg s fd ⟨[u],[]⟩ [(x,u)]) /\
    ∀base:Heap,(K w.params).In base->base.Ns Cj mg->FnOk l.prog w (K w.params) mg base (CX w) k fa fd [x] (sp w))(hsp:∀(w:World) (H:Hp) (a:Addr) (ns:List Int),ns.length<=n->Only H->SqL (K w.params) H a (ns.map V.int)->sp w [.ref a] H (fun v _=>v=.bl true) fun _ _ _=>False)(hCX:∀(w:World) (H:Hp) (s:Af) (e:Value) (s':Af),CX w [] H s (fun _ _ _=>False) e s'->False):
  W.WalkO q loose XP YP l.row.toRowW d [] (fun f vs=>Wc f vs):=by
 refine Att.attach_call hn hdf fun w s₀ s₁ mg mb fa o pm cd doc a vs ns G Y ho hd hcd hmg hobj hints hlen hg=>?_;have KX:=hY w _ Y;obtain⟨fd,hb,hF⟩:=F w mg fa _ KX G.T.g hmg;exact z9t KX G.T.g G.T.b G.T.builtins G.T.nolimit hg hobj hints (Bb hlen hn2) hr hF hb (fun H hO hS=>hsp w H a ns hlen hO hS) fun H e s'=>hCX w H s₁ e s'
def inClass(s:Stmt)(j:Nat):Stmt:=match s with
 |.ClassDef _ _ _ body _ _ _ _ _ _ _=>body.getD j (.Pass ⟨0,0,0,0⟩)
 |_=>.Pass ⟨0,0,0,0⟩
def defArgs(s:Stmt):Arguments:=match s with
 |.FunctionDef _ a _ _ _ _ _ _ _ _=>a
 |_=>{ posonlyargs:=[],args:=[],vararg:=none,kwonlyargs:=[],kw_defaults:=[],kwarg:=none,defaults:=[] }
def defBody(s:Stmt):List Stmt:=match s with
 |.FunctionDef _ _ b _ _ _ _ _ _ _=>b
 |_=>[]
def defScope(s:Stmt):Scope:=match s with
 |.FunctionDef _ _ _ _ _ _ sc _ _ _=>sc
 |_=>{ kind:=.function,names:=[],isGenerator:=false,isCoroutine:=false }
abbrev CX0:CXT:=fun _ _ _ _ _ _=>False
abbrev E0:XK:=fun _ _ _=>False
theorem pass0:Passes CX0 X E0:=fun _ _ _ _ _ _ _ h=>h.elim
structure Fun (K:Ah) (x qual:Str) (st:Stmt) (f:Addr) (fd:Ki):Prop where
 ex:∃(oc:Value) (od:Option Addr) (kV doc pm:Value) (an:Option Addr) (cdv ct:Value) (osl:Array (Option Value)),
  fd=Hx x qual (defArgs st) (defBody st) (defScope st) .none kV doc pm an cdv ct/\K.lookup f=some ⟨oc,od,.func fd,osl⟩/\Kk K cdv qual=true
 kp:Fh K (.ref f)=true
section
variable{P:Program}{w:World}{K:Ah}{mg:Str->Option Value}{base:Heap}
theorem Fun.ok{st:Stmt}(F:Fun K x qual st f fd)(S:FnScope N ps (defScope st))(len:∀vs H Q E,sp vs H Q E->vs.length=ps.length)(hbody:∀(cdv:Value) (A:Around) (outer:List Env) (s:Af) (H:Hp) (vs:List V) (Q:VK) (E:XK),Room k (A.deeper (Gp qual (defScope st) s.heap.objs.size f cdv))->sp vs H Q E ->
   ∃t,PSs (cxOf CX0 P w K mg base N qual (defScope st) f cdv A outer s H E).nox (defBody st) t/\t { nx:=fun _ H'=>Q .non H',rt:=Q } (start N vs) H):FnOk P w K mg base CX0 (k+1) f fd ps sp:=by
 obtain⟨oc,od,kV,doc,pm,an,cdv,ct,osl,rfl,lk,hcd⟩:=F.ex;refine z9r lk hcd S len fun A outer s H vs Q E hr hsp=>?_
 obtain⟨t,h,q⟩:=hbody cdv A outer s H vs Q E hr hsp;exact⟨t,h.nox,q⟩
theorem Fun.binds{st:Stmt}(F:Fun K x qual st f fd)(h:∀(kV doc pm:Value) (an:Option Addr) (cdv ct:Value) (us:List Value),us.length=ps.length->bindArgs (Hx x qual (defArgs st) (defBody st) (defScope st) .none kV doc pm an cdv ct) ⟨us,[]⟩=pure (ps.zip us)):Binds K fd ps []:=by
 obtain⟨oc,od,kV,doc,pm,an,cdv,ct,osl,rfl,lk,hcd⟩:=F.ex;exact .all (h kV doc pm an cdv ct)
theorem q5w{st:Stmt}{kV:Value}(l:K.lookup f=some ⟨oc,od,.func (Hx x qual (defArgs st) (defBody st) (defScope st) .none kV doc pm an cdv ct),osl⟩)(c:Kk K cdv qual=true)(k:Fh K (.ref f)=true):Fun K x qual st f (Hx x qual (defArgs st) (defBody st) (defScope st) .none kV doc pm an cdv ct):=⟨⟨oc,od,kV,doc,pm,an,cdv,ct,osl,rfl,l,c⟩,k⟩
end
theorem q6w(hr:Room k A):A.units+1<cLine:=Ny (Ta (by decide:1<=64) _) hr.units
section
variable{X:Cx}
theorem pv(i:Nat){x:Str}{pos:Pos}(hN:X.N[i]?=some x:=by rfl)(hv:Vis X.env.scope x:=by first|exact Or.inl rfl|exact Or.inr (Or.inl rfl)|exact Or.inr (Or.inr rfl))(hd:(x==("__debug__" : Str))=false:=by decide)(hcd:(x==("__classdict__" : Str))=false:=by decide):PE X (.Name x pos) (tVar i):=pe_var hN hv hd hcd
end
theorem iteF{B:Prop}(h:B):if false=true then A else B:=by
 exact h
theorem iteT{B:Prop}(h:A):if true=true then A else B:=by
 exact h
theorem ite2{B:Prop}[Decidable c](h1:c->A)(h2:¬c->B):if c then A else B:=by grind
def Same(H H':Hp):Prop:=∀b o,H b=some o->H' b=some o
theorem Same.refl(H:Hp):Same H H:=fun _ _ h=>h
theorem Same.trans(a:Same H H1)(b:Same H1 H2):Same H H2:=fun c o h=>b c o (a c o h)
theorem Same.free(e:Same H H')(h:H' l=Option.none):H l=Option.none:=by
 cases q:H l with
 |none=>rfl
 |some o =>
  rw[e l o q] at h;cases h
theorem Same.seq{K:Ah}(e:Same H H')(h:SqL K H a xs):SqL K H' a xs:=by
 rcases h with(h|⟨o,h⟩)|h
 ·exact .inl (.inl (e _ _ h))
 ·exact .inl (.inr ⟨o,e _ _ h⟩)
 ·exact .inr h
open PySem PySem.Spec PyProof.Rows
abbrev Caps:=List (Str×Nat)
def capV(σ:St):Caps->St
 |[]=>[]
 |(_,i)::r=>(σ[i]?).join::capV σ r
def CapOk(X:Cx)(scope:Scope):Caps->Prop
 |[]=>True
 |(x,i)::r=>(X.N[i]?=some x/\scope.names.lookup x=some .free/\(X.env.scope.names.lookup x=some .cell\/X.env.scope.names.lookup x=some .free))/\CapOk X scope r
def cxComp(X:Cx)(N:List Str)(scope:Scope)(cl:List (Str×Addr))(C:Addr)(fp:List Addr)(s:Af)(H:Hp):Cx where
 prog:=X.prog
 w:=X.w
 K:=X.K
 mg:=X.mg
 base:=X.base
 A:=X.A
 N:=N
 s₀:=s
 H₀:=H
 env:=Gb scope cl C X.env
 outer:=X.stack
 stack:=X.stack
 ex:=fp
 fn:=fun _=>false
 calm:=X.calm
 pn:=[]
 xe:=fun _ _=>False
theorem z4t(names:List (Str×Bg))(hh:∀x,(x,Bg.free)∈names->∃c,env.cells.lookup x=some c):∀acc:List (Str×Addr),
  ∃cl,(forIn names acc (fun(x:Str×Bg) (r:List (Str×Addr))=>match x with
   |(name,kind)=>if (kind==Bg.free)=true then do let a<-cellOf env name;pure (ForInStep.yield ((name,a)::r)) else pure (ForInStep.yield r)):Sem (List (Str×Addr)))=pure cl /\
   (∀x c,(x,c)∈cl->(x,c)∈acc\/env.cells.lookup x=some c)/\(∀x,((x,Bg.free)∈names\/∃c,(x,c)∈acc)->∃c,(x,c)∈cl):=by
 induction names with
 |nil=>intro acc;exact⟨acc,rfl,fun x c h=>.inl h,fun x h=>h.elim (fun z=>nomatch z) id⟩
 |cons n r ih =>
  intro acc;obtain⟨name,kind⟩:=n;by_cases hk:kind=Bg.free
  ·subst hk;obtain⟨c,hc⟩:=hh name As;obtain⟨cl,e,h1,h2⟩:=ih (fun x hx=>hh x (Ao _ hx)) ((name,c)::acc);refine⟨cl,?_,fun x d hd=>?_,fun x hx=>?_⟩
   ·rw[Qk];have:cellOf env name=pure c:=by unfold cellOf;rw[hc]
    simp only[beq_self_eq_true,if_true,this];exact e
   ·rcases h1 x d hd with z|z
    ·rcases Bk.mp z with z|z
     ·cases z;exact .inr hc
     ·exact .inl z
    ·exact .inr z
   ·refine h2 x ?_;rcases hx with hx|⟨d,hd⟩
    ·rcases Bk.mp hx with z|z
     ·simp_all
     ·exact .inl z
    ·grind
  ·obtain⟨cl,e,h1,h2⟩:=ih (fun x hx=>hh x (Ao _ hx)) acc;refine⟨cl,?_,h1,fun x hx=>h2 x ?_⟩
   ·simp_all
   ·grind
theorem q8a{cl:List (Str×Addr)}(h:(x,c)∈cl):∃d,cl.lookup x=some d:=by
 induction cl with
 |nil=>cases h
 |cons y r ih =>
  obtain⟨n,a⟩:=y;cases e:x==n with
  |true=>simp_all
  |false =>
   rcases Bk.mp h with z|z
   ·cases z;simp at e
   ·obtain⟨d,hd⟩:=ih z;exact⟨d,by simp only[Ji,e];exact hd⟩
theorem z4u(hh:∀x,(x,Bg.free)∈scope.names->∃c,env.cells.lookup x=some c):
  ∃cl,Wd scope env=pure cl/\(∀x c,cl.lookup x=some c->env.cells.lookup x=some c)/\∀x,(x,Bg.free)∈scope.names->∃c,cl.lookup x=some c:=by
 obtain⟨cl,e,h1,h2⟩:=z4t scope.names hh [];refine⟨cl,?_,fun x c h=>?_,fun x hx=>?_⟩
 ·unfold Wd;have e2:=congrArg (fun m:Sem (List (Str×Addr))=>m >>= fun cs=>(pure cs:Sem _)) e;exact e2
 ·rcases h1 x c (Fo h) with z|z
  ·cases z
  ·exact z
 ·obtain⟨c,hc⟩:=h2 x (.inl hx);exact q8a hc
theorem q3x{env:Env}{k:Bg}(hk:k=.cell\/k=.free):∀{names:List (Str×Bg)} {x:Str},(∀y∈names,y.2≠.cell) ->
  (names.map fun(n,k)=>if (k==Bg.free&&env.scope.kind==.function&&env.kindOf n==some .cell) then(n,Bg.cell) else(n,k)).lookup x=some k->(x,Bg.free)∈names
 |[],_,_,h=>by simp at h
 |(n,k')::r,x,hc,h=>by
  have ih:=@q3x env k hk r x fun y hy=>hc y (Ao _ hy);by_cases c:(k'==Bg.free&&env.scope.kind==.function&&env.kindOf n==some .cell)=true
  ·have h':((n,Bg.cell)::r.map fun(n,k)=>if (k==Bg.free&&env.scope.kind==.function&&env.kindOf n==some .cell) then(n,Bg.cell) else(n,k)).lookup x=some k:=by
    have e:(if (k'==Bg.free&&env.scope.kind==.function&&env.kindOf n==some .cell)=true then(n,Bg.cell) else(n,k'))=(n,Bg.cell):=if_pos c;rw[<- e];exact h
   cases e:x==n with
   |true =>simp_all
   |false=>exact Ao _ (ih (by simp only[Ji,e] at h';exact h'))
  ·have h':((n,k')::r.map fun(n,k)=>if (k==Bg.free&&env.scope.kind==.function&&env.kindOf n==some .cell) then(n,Bg.cell) else(n,k)).lookup x=some k:=by
    have e:(if (k'==Bg.free&&env.scope.kind==.function&&env.kindOf n==some .cell)=true then(n,Bg.cell) else(n,k'))=(n,k'):=if_neg c;rw[<- e];exact h
   cases e:x==n with
   |true =>simp_all
   |false=>exact Ao _ (ih (by simp only[Ji,e] at h';exact h'))
theorem q5c{env:Env}:∀{names:List (Str×Bg)} {x:Str},names.lookup x=some .free ->
    ((names.map fun(n,k)=>if (k==Bg.free&&env.scope.kind==.function&&env.kindOf n==some .cell) then(n,Bg.cell) else(n,k)).lookup x=some .cell \/
     (names.map fun(n,k)=>if (k==Bg.free&&env.scope.kind==.function&&env.kindOf n==some .cell) then(n,Bg.cell) else(n,k)).lookup x=some .free)
  |[],_,h=>by simp at h
  |(n,k')::r,x,h=>by
    have ih:=@q5c env r x;by_cases c:(k'==Bg.free&&env.scope.kind==.function&&env.kindOf n==some .cell)=true
    · have e:(if (k'==Bg.free&&env.scope.kind==.function&&env.kindOf n==some .cell)=true then(n,Bg.cell) else(n,k'))=(n,Bg.cell):=if_pos c;show(List.lookup x ((if (k'==Bg.free&&env.scope.kind==.function&&env.kindOf n==some .cell)=true then(n,Bg.cell) else(n,k'))::_)=_\/List.lookup x ((if (k'==Bg.free&&env.scope.kind==.function&&env.kindOf n==some .cell)=true then(n,Bg.cell) else(n,k'))::_)=_);rw[e];cases ex:x==n with
      |true=>simp_all
      |false =>
        simp only[Ji,ex] at h ⊢;exact ih h
    · have e:(if (k'==Bg.free&&env.scope.kind==.function&&env.kindOf n==some .cell)=true then(n,Bg.cell) else(n,k'))=(n,k'):=if_neg c;show(List.lookup x ((if (k'==Bg.free&&env.scope.kind==.function&&env.kindOf n==some .cell)=true then(n,Bg.cell) else(n,k'))::_)=_\/List.lookup x ((if (k'==Bg.free&&env.scope.kind==.function&&env.kindOf n==some .cell)=true then(n,Bg.cell) else(n,k'))::_)=_);rw[e];cases ex:x==n with
      |true =>simp_all
      |false =>
        simp only[Ji,ex] at h ⊢;exact ih h
theorem q5x(σ:St):∀caps:Caps,(capV σ caps).length=caps.length
 |[]=>rfl
 |(_,_)::r=>congrArg (· + 1) (q5x σ r)
theorem z3e:∀{caps:Caps} {j:Nat} {x:Str} {v:V},CapOk X scope caps->(caps.map (·.1))[j]?=some x->(capV σ caps)[j]?=some (some v) ->
  ∃i:Nat,X.N[i]?=some x/\σ[i]?=some (some v)/\scope.names.lookup x=some .free/\(X.env.scope.names.lookup x=some .cell\/X.env.scope.names.lookup x=some .free)
 |[],_,_,_,_,h,_=>by simp at h
 |(y,i)::r,0,x,v,hc,h1,h2=>by
  simp at h1;subst h1;have e:(σ[i]?).join=some v:=by simpa[capV] using h2
  refine⟨i,hc.1.1,?_,hc.1.2⟩;cases q:σ[i]? with
  |none=>rw[q] at e;cases e
  |some z=>simp_all
 |(y,i)::r,j+1,x,v,hc,h1,h2=>z3e hc.2 (by simpa using h1) (by simpa[capV] using h2)
def tg0(tg:List Str)(σ:St)(caps:Caps):St:=tg.map (fun _=>none)++capV σ caps
theorem Inv.ofcomp{σ:St}{C:Addr}(tg:List Str)(I:Inv X pins σ H s)(hkind:scope.kind=.function)(hnc:∀y∈scope.names,y.2≠.cell)(hc1:∀x c,cl.lookup x=some c->X.env.cells.lookup x=some c)(hc2:∀x,(x,Bg.free)∈scope.names->∃c,cl.lookup x=some c)(hf:∀b∈fp,FpOk X pins H b)(hfo:∀b∈fp,∃o,s.heap.get? b=some o)(hC:s.heap.objs.size<=C)(hns:h₁.Ns C m)(hk:∀b o,s.heap.get? b=some o->h₁.get? b=some o)(co:CapOk X scope caps):
  Inv (cxComp X (tg++caps.map (·.1)) scope cl C fp s H) [] (tg0 tg σ caps) H { s with heap:=h₁,toks:=tk }:=by
 have hfs:∀b∈fp,b∉frs X.stack:=fun b hb hx=>by
  rcases Bk.mp (I.stkSub b hx) with z|z
  ·exact(hf b hb).2.1 z
  ·exact(hf b hb).2.2.1 z
 have ok:(cxComp X (tg++caps.map (·.1)) scope cl C fp s H).Ok:=by
  refine⟨I.ok.mod,hkind,I.ok.glob,I.ok.blt,hC,fun x y c h1 h2=>I.ok.inj x y c (hc1 x c h1) (hc1 y c h2),fun x hx=>?_,fun x c h=>(nomatch h),I.ok.hd,I.ok.frames,.inl rfl,fun b hb=>⟨?_,fun x c h=>(hf b hb).2.2.2.2.1 x c (hc1 x c h)⟩,
   I.bs,Bb I.ok.bsz I.sz,fun b o e hb=>?_,hfs,I.stack,I.stkFree⟩
  ·rcases hx with hx|hx
   ·exact hc2 x (q3x (.inl rfl) hnc hx)
   ·exact hc2 x (q3x (.inr rfl) hnc hx)
  ·obtain⟨o,e⟩:=hfo b hb;exact Bd (Bm (Al e) hC)
  ·rcases(hf b hb).2.2.2.1 with z|z
   ·exact I.ok.noex b o e z
   ·exact absurd (Bm (Al (I.ok.bs b o e).1) z) (Fq _)
 refine⟨ok,rfl,I.bare,Un.kept hk,⟨m,hns,fun j x v h1 h2 h3=>?_⟩,fun x c h=>?_,I.hok.fresh hC,fun x c h=>I.freeC x c (hc1 x c h),fun p hp=>(nomatch hp),I.hok.kept hk,?_⟩
 ·have h1':(tg++caps.map (·.1))[j]?=some x:=h1;have h2':(tg.map (fun _=>none)++capV σ caps)[j]?=some (some v):=h2;by_cases hj:j<tg.length
  ·rw[Bj (by simpa using hj),Bi] at h2';cases e:tg[j]? with
   |none=>grind
   |some z=>simp_all
  ·rw[Cr (by simpa using hj)] at h2' h1';rw[Ag] at h2';obtain⟨i,e1,e2,e3,e4⟩:=z3e co h1' h2';obtain⟨mX,hn,hl⟩:=I.loc;obtain⟨u,r,l⟩:=hl i x v e1 e2 (.inr e4);refine⟨u,r,?_⟩;have key:∃c,X.env.cells.lookup x=some c/\s.heap.IsCell c (some u):=by
    rcases l with⟨k,_⟩|⟨_,c,e,z⟩
    ·have k':X.env.scope.names.lookup x=some .local:=k;rcases e4 with e4|e4 <;> · rw[e4] at k';cases k'
    ·exact⟨c,e,z⟩
   obtain⟨c,ec,o,ho,hd⟩:=key;obtain⟨d,ed⟩:=hc2 x (Fo e3);have hdc:=Bs ((hc1 x d ed).symm.trans ec);subst hdc;exact .inr ⟨q5c e3,d,ed,o,hk _ o ho,hd⟩
 ·obtain⟨v,o,ho,hd⟩:=I.cell x c (hc1 x c h);exact⟨v,o,hk _ o ho,hd⟩
 ·show(tg.map (fun _=>(none:Option V))++capV σ caps).length=(tg++caps.map (·.1)).length;rw[Ai,Ai,Ag,Ag,q5x]
def PIfs(X:Cx)(ifs:List Expr)(t:TT):Prop :=
 ∀(pins:List (Addr×Obj)) (s:Af) (σ:St) (H:Hp) (Q:Bool->Hp->Prop),Inv X pins σ H s->t σ H Q ->
  wpAny (model X.prog X.w) X.A (forIn ifs true fun c r=>if r=true then do let ok<-isTrue c X.env (eval c X.env);pure (ForInStep.yield ok) else pure (ForInStep.yield r)) (TP X pins σ Q) X.xe s
def tIf0:TT:=fun _ H Q=>Q true H
theorem q8b:PIfs X [] tIf0:=fun pins s σ H Q I h=>wpAny_tests_nil ⟨H,I,h⟩
theorem z6l{X:Cx}{c:Expr}{t:TT}(h:PT X c t):PIfs X [c] t:=fun pins s σ H Q I q=>wpAny_tests_one (h pins s σ H Q I q)
def Keeps0(σ0 σ2:St):Prop:=σ0.length=σ2.length/\∀(i:Nat) v,σ0[i]?=some (some v)->σ2[i]?=some (some v)
def CompW(J:It)(g:TG)(tt:TT)(te:TE)(σ0:St)(D:Addr)(Fin:List V->Hp->Prop)(H1:Hp):Prop :=
 ∃W:Nat->Nat->List V->Hp->Prop,(∃m,W 0 m [] (upd H1 D (.lst [])))/\∀i m ys H,W i m ys H->H D=some (.lst ys) /\
  ((J.stop i H/\Fin ys H)\/(J.go i H/\∃N:List V->Hp->Prop,(∀zs H',N zs H'->∃m',m'<m/\W (i+1) m' zs H')/\∀x H',J.yld i H x H'->g x σ0 H' fun σ2 H2=>Keeps0 σ0 σ2/\tt σ2 H2 fun b H3 =>
   if b=true then te σ2 H3 fun v H4=>H4 D=some (.lst ys)/\ys.length<sizeLine/\N (ys++[v]) (upd H4 D (.lst (ys++[v])))
   else N ys H3))
theorem z3f{σ:St}{Fin:Addr->List V->Hp->Prop}{RR:Value->Addr->Result->Af->Prop}(hc:X.calm=true)(hkind:scope.kind=.function)(hnc:∀y∈scope.names,y.2≠.cell)(hc1:∀x c,cl.lookup x=some c->X.env.cells.lookup x=some c)(hc2:∀x,(x,Bg.free)∈scope.names->∃c,cl.lookup x=some c)(co:CapOk X scope caps)(hg:∀C s H,PG (cxComp X (tg++caps.map (·.1)) scope cl C fp s H) target g)(ht:∀C s H,PIfs (cxComp X (tg++caps.map (·.1)) scope cl C fp s H) ifs tt)(he:∀C s H,PE (cxComp X (tg++caps.map (·.1)) scope cl C fp s H) elt te)(I2:Inv X pins σ H1 s₂)(T:Turn X.prog X.w X.K target J fp it tn)(st:tn 0 s₂.heap)(hf:∀b∈fp,FpOk X pins H1 b)(hw:∀D,H1 D=none->CompW J g tt te (tg0 tg σ caps) D (Fin D) H1)(hRR:∀D C ys H' s',H1 D=none->Inv X pins σ H' s'->(∃m,s'.heap.Ns C m)->FpOk X pins H' C->Fin D ys H'->RR (.ref D) C (.ok .next) s'):
  wpAny (model X.prog X.w) X.A (newList []) (fun acc s₃=>wpAny (model X.prog X.w) X.A (newFunctionEnv scope X.env.globals cl [] X.env.qual none .none (some X.env)) (fun cenv s₄ =>
   Fw (model X.prog X.w) X.A (.compStart (.ListComp elt [⟨target,iter,ifs,0⟩] scope pos) 0 (.ref it) acc { cenv with scope:=relabel scope X.env }) (RR acc cenv.locals) s₄) E s₃) E s₂:=by
 have I3:Inv X pins σ (upd H1 s₂.heap.objs.size (.lst [])) { s₂ with heap:=s₂.heap.push { cls:=.type "list",dict:=none,data:=.seq ([]:List Value).toArray },toks:=s₂.toks }:=I2.lnew .nil (Be _);have hD0:=I2.fresh;refine By (Se hnc (by intro y hy;simp at hy) (fun h₁ hns₁ hsb₁=>?_) hkind);dsimp only at hns₁ hsb₁ ⊢;generalize hDd:s₂.heap.objs.size=D at I3 hD0 hns₁ hsb₁ ⊢;generalize hs3:({ s₂ with heap:=s₂.heap.push { cls:=.type "list",dict:=none,data:=.seq ([]:List Value).toArray } }:Af)=s₃ at I3 hns₁ hsb₁ ⊢;have e3:s₂.heap.push { cls:=.type "list",dict:=none,data:=.seq ([]:List Value).toArray }=s₃.heap:=by grind
 have o3:({ s₂ with heap:=h₁,toks:=s₂.toks+([]:List (Str×Value)).length }:Af)={ s₃ with heap:=h₁,toks:=s₂.toks }:=by grind
 have size3:s₃.heap.objs.size=D+1:=by rw[<- e3,Fx,hDd]
 rw[e3] at hns₁ hsb₁ ⊢;have old3:∀b o,s₂.heap.get? b=some o->s₃.heap.get? b=some o:=fun b o e=>by rw[<- e3];exact Ae _ e
 generalize hCd:s₃.heap.objs.size=C at hns₁ hsb₁ ⊢;have hk:=fun b o e=>hsb₁.extBut b o (by rw[<- hCd];exact Bd (Al e)) (Ae _ e);have fpo:∀b∈fp,∃o,s₂.heap.get? b=some o:=fun b hb=>by obtain⟨o,e,_⟩:=T.obj 0 _ st b hb;exact⟨o,e⟩
 have fpne:∀b∈fp,b≠D:=fun b hb=>by obtain⟨o,e⟩:=fpo b hb;rw[<- hDd];exact Bd (Al e)
 have hf3:∀b∈fp,FpOk X pins (upd H1 D (.lst [])) b:=fun b hb=>⟨by rw[q0f (fpne b hb)];exact(hf b hb).1,(hf b hb).2⟩
 have IY:=Inv.ofcomp (tk:=s₂.toks) tg I3 hkind hnc hc1 hc2 hf3 (fun b hb=>let ⟨o,e⟩:=fpo b hb;⟨o,old3 b o e⟩) (Kh hCd) hns₁ hk co;have FC:FpOk X pins H1 C:=by
  have z:=I3.fpOk (H':=H1) (Kh hCd) (I2.hok.fresh (by rw[hDd,<- hCd,size3];exact Lo _));exact z
 generalize hY:cxComp X (tg++caps.map (·.1)) scope cl C fp s₃ (upd H1 D (.lst []))=Y at IY;have hgY:PG Y target g:=by grind
 have htY:PIfs Y ifs tt:=by grind
 have heY:PE Y elt te:=by grind
 have hYp:Y.prog=X.prog:=by rw[<- hY];rfl
 have hYw:Y.w=X.w:=by rw[<- hY];rfl
 have hYK:Y.K=X.K:=by rw[<- hY];rfl
 have hYA:Y.A=X.A:=by rw[<- hY];rfl
 have hYe:Y.env=Gb scope cl C X.env:=by rw[<- hY];rfl
 have hYx:Y.ex=fp:=by rw[<- hY];rfl
 have hYn:Y.pn=[]:=by rw[<- hY];rfl
 have hYc:Y.calm=true:=by rw[<- hY];exact hc
 have hYxe:Y.xe=fun _ _=>False:=by rw[<- hY];rfl
 have fpY:∀{H':Hp},(∀b∈fp,H' b=none)->∀b∈fp,FpOk Y [] H' b:=fun{H'} hn b hb=>by
  refine⟨hn b hb,?_,?_,.inl (by rw[hYx];exact hb),fun x c e=>?_,fun p hp=>?_⟩
  ·have:=(IY.ok.exf b (by rw[hYx];exact hb)).1;exact this
  ·exact IY.ok.exfs b (by rw[hYx];exact hb)
  ·exact(IY.ok.exf b (by rw[hYx];exact hb)).2 x c e
  ·grind
 obtain⟨W,⟨m0,w0⟩,turn⟩:=hw D hD0;have stY:=T.keep 0 _ _ st fun b hb o e=>hk b o (old3 b o e)
 have back:∀{H':Hp} {s':Af} {σ':St},Inv Y [] σ' H' s'->Inv X pins σ H' s':=fun{H' s' σ'} IE=>by
  have hun:=IE.base;have hos:=IE.os;rw[<- hY] at hun hos;exact I3.call' hos hun (by have z:=IE.hok;rw[hYp,hYw] at z;exact z) IE.bare fun b hb=>⟨(hf b hb).2.2.2.1,(hf b hb).2.1,(hf b hb).2.2.2.2.1,(hf b hb).2.2.2.2.2⟩
 have gY:∀pins s σ H v u Q (E':Value->Af->Prop),Inv Y pins σ H s->RelV v u->g v σ H Q->wpAny (model X.prog X.w) X.A (assign target (Gb scope cl C X.env) u) (fun _ s'=>∃σ' H',Inv Y pins σ' H' s'/\Q σ' H') E' s:=fun pins s σ H v u Q E' IE r q=>by
  have z:=hgY pins s σ H v u Q IE r q;rw[hYp,hYw,hYA,hYe,hYxe] at z;exact Bx z (fun _ _ x=>x) fun _ _ f=>f.elim
 have tY:∀pins s σ H Q (E':Value->Af->Prop),Inv Y pins σ H s->tt σ H Q->wpAny (model X.prog X.w) X.A (forIn ifs true fun c r=>if r=true then do let ok<-isTrue c (Gb scope cl C X.env) (eval c (Gb scope cl C X.env));pure (ForInStep.yield ok) else pure (ForInStep.yield r)) (TP Y pins σ Q) E' s:=fun pins s σ H Q E' IE q=>by
  have z:=htY pins s σ H Q IE q;rw[hYp,hYw,hYA,hYe,hYxe] at z;exact Bx z (fun _ _ x=>x) fun _ _ f=>f.elim
 have eY:∀pins s σ H Q (E':Value->Af->Prop),Inv Y pins σ H s->te σ H Q->wpAny (model X.prog X.w) X.A (eval elt (Gb scope cl C X.env)) (EP Y pins σ Q) E' s:=fun pins s σ H Q E' IE q=>by
  have z:=heY pins s σ H Q IE q;rw[hYp,hYw,hYA,hYe,hYxe] at z;exact Bx z (fun _ _ x=>x) fun _ _ f=>f.elim
 have aY:∀pins s σ H ys v u Q (E':Value->Af->Prop),Inv Y pins σ H s->RelV v u->H D=some (.lst ys)->ys.length<sizeLine->Q .non (upd H D (.lst (ys++[v])))->wpAny (model X.prog X.w) X.A (call (.builtin "list.append") [.ref D,u]) (EP Y pins σ Q) E' s:=fun pins s σ H ys v u Q E' IE r hH hz q=>by
  have z:=q1i pins s σ H (.ref D) [v] (.ref D) [u] Q IE rfl (.cons r .nil) ⟨D,ys,v,rfl,rfl,hH,hz,q⟩;rw[hYp,hYw,hYA,hYxe] at z;exact Bx z (fun _ _ x=>x) fun _ _ f=>f.elim
 have tiY:∀i pins s σ H (E':Value->Af->Prop),Inv Y pins σ H s->(∀b∈fp,FpOk Y pins H b)->tn i s.heap->J.go i H ->
   wpAny (model X.prog X.w) X.A (Iw (.ref it)) (fun r s1=>∃u,r=some u /\
    wpAny (model X.prog X.w) X.A (Mo target (.ref it) u) (fun _ s2=>∃x H',Inv Y pins σ H' s2/\RelV x u/\J.yld i H x H'/\tn (i+1) s2.heap/\∀b∈fp,H' b=none) E' s1) E' s:=fun i pins s σ H E' IE hfy st go=>by
  have z:=T.item Y hYp hYw hYK hYc i pins s σ H E' IE hfy st go;rw[hYA] at z;exact z
 have tdY:∀i pins s σ H (E':Value->Af->Prop),Inv Y pins σ H s->(∀b∈fp,FpOk Y pins H b)->tn i s.heap->J.stop i H ->
   wpAny (model X.prog X.w) X.A (Iw (.ref it)) (fun r s1=>r=none/\Inv Y pins σ H s1) E' s:=fun i pins s σ H E' IE hfy st go=>by
  have z:=T.done Y hYp hYw hYK hYc i pins s σ H E' IE hfy st go;rw[hYA] at z;exact z
 have loop:Fw (model X.prog X.w) X.A (.compLoop (.ListComp elt [⟨target,iter,ifs,0⟩] scope pos) 0 (.ref it) (.ref D) (Gb scope cl C X.env)) (RR (.ref D) C) { s₃ with heap:=h₁,toks:=s₂.toks }:=by
  refine codeAny_loop rfl (fun n s'=>∃i ys H',Inv Y [] (tg0 tg σ caps) H' s'/\tn i s'.heap/\(∀b∈fp,H' b=none)/\W i n ys H') ?_ m0 ⟨0,[],_,IY,stY,fun b hb=>(hf3 b hb).1,w0⟩;rintro n s4 ⟨i,ys,H4,I4,st4,fr4,w4⟩;refine wpAny_noted ?_;obtain⟨hHD,alt⟩:=turn i n ys H4 w4;rcases alt with⟨stop,fin⟩|⟨go,N,hN,step⟩
  ·refine Ab (Dv (Ab (thn (tdY i [] s4 _ H4 _ I4 (fpY fr4) st4 stop) fun r s5 ⟨hr,I5⟩=>?_)));subst hr;refine Ad (hRR D C ys H4 s5 hD0 (back I5) ?_ ⟨?_,FC.2⟩ fin)
   ·obtain⟨m,hm,_⟩:=I5.loc;rw[hYe] at hm;exact⟨m,hm⟩
   ·have z:=I5.free;rw[hYe] at z;exact z
  ·refine Ab (Dv (Ab (thn (tiY i [] s4 _ H4 _ I4 (fpY fr4) st4 go) fun r s5 ⟨u,hr,h5⟩=>?_)));subst hr;refine Ab (thn h5 fun _ s6 ⟨x,H6,I6,r6,y6,st6,fr6⟩=>?_);have I6':=I6.pinned (fpY fr6) (T.obj _ _ st6);refine Ab (thn (gY _ s6 _ H6 x u _ _ I6' r6 (step x H6 y6)) fun _ s7 ⟨σ7,H7,I7,kp,q7⟩=>?_);refine Ab (thn (tY _ s7 σ7 H7 _ _ I7 q7) fun b s8 ⟨H8,I8,q8⟩=>?_);have again:∀{H9:Hp} {s9:Af} {zs:List V} {m':Nat},Inv Y ([]++pinsAt fp s6.heap) σ7 H9 s9->m'<n->W (i+1) m' zs H9->∃m,m<n/\∃i ys H',Inv Y [] (tg0 tg σ caps) H' s9/\tn i s9.heap/\(∀b∈fp,H' b=none)/\W i m ys H':=fun{H9 s9 zs m'} I9 hm w9=>by
    refine⟨m',hm,i+1,zs,H9,I9.unpinned.weak kp.1 kp.2,T.keep _ _ _ st6 fun b hb o e=>(I9.pin (b,o) (Bw _ (Bw _ (q2a hb e)))).1,fun b hb=>?_,w9⟩;obtain⟨o,e,d⟩:=T.obj _ _ st6 b hb;exact(I9.pin (b,o) (Bw _ (Bw _ (q2a hb e)))).2.1
   cases b with
   |true =>
    refine Ab (Ab (thn (eY _ s8 σ7 H8 _ _ I8 q8) fun v s9 ⟨vv,H9,I9,r9,hH9,hz9,n9⟩=>?_));obtain⟨m',hm',w9⟩:=hN _ _ n9;refine Ab (thn (aY _ s9 σ7 H9 ys vv v (fun _ H10=>W (i+1) m' (ys++[vv]) H10) _ I9 r9 hH9 hz9 w9) fun _ s10 ⟨_,H10,I10,_,w10⟩=>?_);exact Ad (Ad ⟨rfl,again I10 hm' w10⟩)
   |false =>
    obtain⟨m',hm',w8⟩:=hN _ _ q8;exact Ad ⟨rfl,again I8 hm' w8⟩
 rw[o3];exact codeAny_compStart_list loop (T.self _ 0 _ _ _ stY loop)
def isCF(k:Option Bg):Bool:=k==some .cell||k==some .free
def capChk(N:List Str)(names outer:List (Str×Bg)):Caps->Bool
 |[]=>true
 |(x,i)::r=>decide (N[i]?=some x)&&(names.lookup x==some .free)&&isCF (outer.lookup x)&&capChk N names outer r
def compChk(N:List Str)(outer scope:Scope)(caps:Caps):Bool :=
 (scope.kind==.function)&&(scope.names.all fun y=>y.2 != .cell&&(y.2 != .local||scope.names.lookup y.1==some .local)&&(y.2 != .free||isCF (outer.names.lookup y.1)))&&capChk N scope.names outer.names caps
theorem z6m(h:isCF k=true):k=some .cell\/k=some .free:=by
 unfold isCF at h;simpa using h
theorem q9v:∀{caps:Caps},capChk X.N scope.names X.env.scope.names caps=true->CapOk X scope caps
 |[],_=>trivial
 |(x,i)::r,h=>by
  unfold capChk at h;simp only[Jh] at h;obtain⟨⟨⟨h1,h2⟩,h3⟩,h4⟩:=h;exact⟨⟨of_decide_eq_true h1,by simpa using h2,z6m h3⟩,q9v h4⟩
theorem q4s(h:compChk X.N X.env.scope scope caps=true):
  scope.kind=.function/\(∀y∈scope.names,y.2≠.cell)/\(∀y∈scope.names,y.2=.local->scope.names.lookup y.1=some .local)/\(∀x,(x,Bg.free)∈scope.names->X.env.scope.names.lookup x=some .cell\/X.env.scope.names.lookup x=some .free)/\CapOk X scope caps:=by
 unfold compChk at h;simp only[Jh,Lz] at h;obtain⟨⟨h1,h2⟩,h3⟩:=h;refine⟨by simpa using h1,fun y hy e=>?_,fun y hy e=>?_,fun x hx=>?_,q9v h3⟩
 ·have z:=(h2 y hy).1.1;rw[e] at z;simp at z
 ·have z:=(h2 y hy).1.2;rw[e] at z;simpa using z
 ·have z:=(h2 _ hx).2;exact z6m (by simpa using z)
def tComp(wi:TI)(g:TG)(tt:TT)(te:TE)(tg:List Str)(caps:Caps):TE:=fun σ H Q=>wi σ H fun J H1=>∀D,H1 D=none->CompW J g tt te (tg0 tg σ caps) D (fun _ H'=>Q (.ref D) H') H1
section
variable{X:Cx}{iter target elt:Expr}{ifs:List Expr}{scope:Scope}{pos:Pos}{wi:TI}{g:TG}{tt:TT}{te:TE}
theorem z1x{σ:St}(I:Inv X pins σ H s)(hfree:∀x,(x,Bg.free)∈scope.names->X.env.scope.names.lookup x=some .cell\/X.env.scope.names.lookup x=some .free):
  ∃cl,Wd scope X.env=pure cl/\(∀x c,cl.lookup x=some c->X.env.cells.lookup x=some c)/\∀x,(x,Bg.free)∈scope.names->∃c,cl.lookup x=some c :=
 z4u fun x hx=>I.ok.has x (hfree x hx)
theorem q8c(tg:List Str)(caps:Caps)(hc:X.calm=true)(hi:PI X target iter wi)(hg:∀cl C fp s H,PG (cxComp X (tg++caps.map (·.1)) scope cl C fp s H) target g)(ht:∀cl C fp s H,PIfs (cxComp X (tg++caps.map (·.1)) scope cl C fp s H) ifs tt)(he:∀cl C fp s H,PE (cxComp X (tg++caps.map (·.1)) scope cl C fp s H) elt te)(hk:compChk X.N X.env.scope scope caps=true:=by rfl)(hs:∀x,Lf iter X.env x=pure x:=by intro _;rfl):
  PE X (.ListComp elt [⟨target,iter,ifs,0⟩] scope pos) (tComp wi g tt te tg caps):=by
 intro pins s σ H Q I h;obtain⟨hkind,hnc,hnames,hfree,co⟩:=q4s hk;obtain⟨cl,hclos,hc1,hc2⟩:=z1x I hfree;refine Kn rfl hs hclos hkind hnames (thn (hi pins s σ H _ I h) fun v s1 h1=>thn h1 fun itv s2 h2=>?_);obtain⟨it,fp,tn,J,H2,e,I2,T,st2,f2,hw⟩:=h2;subst e;refine z3f hc hkind hnc hc1 hc2 co (fun C s H=>hg cl C fp s H) (fun C s H=>ht cl C fp s H) (fun C s H=>he cl C fp s H) I2 T st2 f2 hw ?_;intro D C ys H' s' hD I' hm F fin;obtain⟨m,hm⟩:=hm;refine⟨m,hm,fun h' hsb=>⟨.ref D,H',I'.turned (t':=s'.toks) (fun b o hb e=>(hsb.2 b hb).trans e) F.1 F.2.1 F.2.2.2.1 F.2.2.2.2.1 F.2.2.2.2.2,rfl,fin⟩⟩
def tSetC(wi:TI)(g:TG)(tt:TT)(te:TE)(tg:List Str)(caps:Caps)(i:Nat):TS:=fun D' σ H=>wi σ H fun J H1=>∀D,H1 D=none->CompW J g tt te (tg0 tg σ caps) D (fun _ H'=>D'.nx (σ.set i (some (.ref D))) H') H1
theorem z6n{i:Nat}{y:Str}{py spos:Pos}(tg:List Str)(caps:Caps)(hN:X.N.Nodup)(hiN:X.N[i]?=some y)(hx:Loc X.env.scope y)(hc:X.calm=true)(hi:PI X target iter wi)(hg:∀cl C fp s H,PG (cxComp X (tg++caps.map (·.1)) scope cl C fp s H) target g)(ht:∀cl C fp s H,PIfs (cxComp X (tg++caps.map (·.1)) scope cl C fp s H) ifs tt)(he:∀cl C fp s H,PE (cxComp X (tg++caps.map (·.1)) scope cl C fp s H) elt te)(hk:compChk X.N X.env.scope scope caps=true:=by rfl)(hs:∀x,Lf iter X.env x=pure x:=by intro _;rfl)(hsw:Ii (.ListComp elt [⟨target,iter,ifs,0⟩] scope pos) (some (.Name y py)) spos.line X.env=pure true:=by rfl)(hf:X.fn y=true\/X.env.scope.names.lookup y=some .local:=by first|exact .inl rfl|exact .inr rfl|assumption):
  PS X (.Assign [.Name y py] (.ListComp elt [⟨target,iter,ifs,0⟩] scope pos) spos) (tSetC wi g tt te tg caps i):=by
 intro pins s σ H D' I h;obtain⟨hkind,hnc,hnames,hfree,co⟩:=q4s hk;obtain⟨cl,hclos,hc1,hc2⟩:=z1x I hfree;rw[Ri _ _ _ _ hsw];refine Ab (Dv (Ab ?_));refine Ab (Bx (Kn (use:=some (assign (.Name y py) X.env)) rfl hs hclos hkind hnames
  (thn (hi pins s σ H _ I h) fun v s1 h1=>thn h1 fun itv s2 h2=>?_)) (fun _ s' hq=>Ad (Ad hq)) fun _ _ e=>e)
 obtain⟨it,fp,tn,J,H2,e,I2,T,st2,f2,hw⟩:=h2;subst e;refine z3f (RR:=fun acc C=>compPost (model X.prog X.w) X.A X.xe (some (assign (.Name y py) X.env)) (fun _ s'=>SP X pins D' .next s') acc C) (Fin:=fun D _ H'=>D'.nx (σ.set i (some (.ref D))) H') hc hkind hnc hc1 hc2 co (fun C s H=>hg cl C fp s H) (fun C s H=>ht cl C fp s H) (fun C s H=>he cl C fp s H) I2 T st2 f2 hw ?_;intro D C ys H' s' hD I' hm F fin;obtain⟨m,hm⟩:=hm;refine Ou (q5q (v:=.ref D) I' hN hiN hx rfl (fun s'' I'' hsb=>?_) hf);obtain⟨a,sb,ha⟩:=hsb;have hCa:C≠a:=by
  rcases ha with ha|ha
  ·rw[ha];exact F.2.1
  ·exact fun z=>F.2.2.2.2.1 y a ha z.symm
 refine⟨m,hm.sameBut sb hCa,fun h' hs'=>?_⟩;exact⟨_,H',I''.turned (t':=s''.toks) (fun b o hb e=>(hs'.2 b hb).trans e) F.1 F.2.1 F.2.2.2.1 F.2.2.2.2.1 F.2.2.2.2.2,fin⟩
end
theorem q8d{Fin:List V->Hp->Prop}(Pv:Nat->List V->Hp->Prop)(h0:Pv 0 [] (upd H1 D (.lst [])))(hl:∀i ys H,Pv i ys H->H D=some (.lst ys))(hgo:∀i ys H,i<n->Pv i ys H->J.go i H)(hstop:∀ys H,Pv n ys H->J.stop n H)(hs:∀i ys H x H',i<n->Pv i ys H->J.yld i H x H'->g x σ0 H' fun σ2 H2=>Keeps0 σ0 σ2/\tt σ2 H2 fun b H3 =>
   if b=true then te σ2 H3 fun v H4=>H4 D=some (.lst ys)/\ys.length<sizeLine/\Pv (i+1) (ys++[v]) (upd H4 D (.lst (ys++[v]))) else Pv (i+1) ys H3)(hd:∀ys H,Pv n ys H->Fin ys H):CompW J g tt te σ0 D Fin H1:=by
 refine⟨fun i m ys H=>m=n-i/\i<=n/\Pv i ys H,⟨n,by simp,Be _,h0⟩,?_⟩;rintro i m ys H ⟨rfl,hi,p⟩;refine⟨hl i ys H p,?_⟩;by_cases hlt:i<n
 ·exact .inr ⟨hgo i ys H hlt p,Pv (i+1),fun zs H' q=>⟨n-(i+1),by lia,rfl,hlt,q⟩,fun x H' y=>hs i ys H x H' hlt p y⟩
 ·grind
theorem z4v{lo:Int}{Fin:List V->Hp->Prop}(Pv:Nat->List V->Hp->Prop)(h0:Pv 0 [] (upd H1 D (.lst [])))(hl:∀i ys H,Pv i ys H->H D=some (.lst ys))(hs:∀i ys H,i<n->Pv i ys H->g (.int (lo+i)) σ0 H fun σ2 H2=>Keeps0 σ0 σ2/\tt σ2 H2 fun b H3 =>
   if b=true then te σ2 H3 fun v H4=>H4 D=some (.lst ys)/\ys.length<sizeLine/\Pv (i+1) (ys++[v]) (upd H4 D (.lst (ys++[v]))) else Pv (i+1) ys H3)(hd:∀ys H,Pv n ys H->Fin ys H):CompW (Itr lo n) g tt te σ0 D Fin H1 :=
 q8d Pv h0 hl (fun i ys H h _=>h) (fun ys H _=>Aj _) (fun i ys H x H' h p y=>by obtain⟨e,y⟩:=y;subst e y;exact hs i ys _ h p) hd
theorem z6o{K:Ah}{Fin:List V->Hp->Prop}(Pv:Nat->List V->Hp->Prop)(h0:Pv 0 [] (upd H1 D (.lst [])))(hl:∀i ys H,Pv i ys H->H D=some (.lst ys)/\SqL K H a xs)(hs:∀i ys H x,xs[i]?=some x->Pv i ys H->g x σ0 H fun σ2 H2=>Keeps0 σ0 σ2/\tt σ2 H2 fun b H3 =>
   if b=true then te σ2 H3 fun v H4=>H4 D=some (.lst ys)/\ys.length<sizeLine/\Pv (i+1) (ys++[v]) (upd H4 D (.lst (ys++[v]))) else Pv (i+1) ys H3)(hd:∀ys H,Pv xs.length ys H->Fin ys H):CompW (Itl K a) g tt te σ0 D Fin H1 :=
 q8d Pv h0 (fun i ys H p=>(hl i ys H p).1) (fun i ys H h p=>⟨xs,xs[i],(hl i ys H p).2,by simp[h]⟩) (fun ys H p=>⟨xs,(hl _ ys H p).2,Aj _⟩)
  (fun i ys H x H' h p y=>by obtain⟨e,y⟩:=y;subst e;exact hs i ys _ x (y xs (hl i ys _ p).2) p) hd
theorem z9u{K:Ah}{Fin:List V->Hp->Prop}(Pv:Nat->List V->Hp->Prop)(h0:Pv 0 [] (upd H1 D (.lst [])))(hl:∀i ys H,Pv i ys H->H D=some (.lst ys)/\SqT K H a xs)(hs:∀i ys H x,xs[i]?=some x->Pv i ys H->g x σ0 H fun σ2 H2=>Keeps0 σ0 σ2/\tt σ2 H2 fun b H3 =>
   if b=true then te σ2 H3 fun v H4=>H4 D=some (.lst ys)/\ys.length<sizeLine/\Pv (i+1) (ys++[v]) (upd H4 D (.lst (ys++[v]))) else Pv (i+1) ys H3)(hd:∀ys H,Pv xs.length ys H->Fin ys H):CompW (Itt K a) g tt te σ0 D Fin H1 :=
 q8d Pv h0 (fun i ys H p=>(hl i ys H p).1) (fun i ys H h p=>⟨xs,xs[i],(hl i ys H p).2,by simp[h]⟩) (fun ys H p=>⟨xs,(hl _ ys H p).2,Aj _⟩)
  (fun i ys H x H' h p y=>by obtain⟨e,y⟩:=y;subst e;exact hs i ys _ x (y xs (hl i ys _ p).2) p) hd
theorem q4t{r:St}:Keeps0 (none::r) (v::r):=⟨rfl,fun i w h=>by
 cases i with
 |zero=>cases h
 |succ i=>exact h⟩
theorem q7i{r:St}:Keeps0 (none::none::r) (v::w::r):=⟨rfl,fun i u h=>by
 cases i with
 |zero=>cases h
 |succ i=>cases i with
  |zero=>cases h
  |succ i=>exact h⟩
open PySem PySem.Spec PyProof.Rows
section
variable{X:Cx}
def rSlS:V->Option Int->Option Int->Hp->VK->Prop:=fun x lo hi H Q=>∃z,x=.str z/\z.length<=sizeLine/\Q (.str (Nz z lo hi)) H
theorem q5y(h:Lq v o):∃p:Option (Int×Tok),v=partValue p/\o=p.map (·.1):=by
 cases h with
 |none=>exact⟨none,rfl,rfl⟩
 |int i t=>exact⟨some (i,t),rfl,rfl⟩
theorem sl_str:SlR X rSlS:=by
 intro pins s σ H x v vl vu lo hi sl Q I rx hs pl pu h;obtain⟨z,rfl,hz,q⟩:=h;obtain⟨t,rfl⟩:=rx;obtain⟨p1,rfl,rfl⟩:=q5y pl;obtain⟨p2,rfl,rfl⟩:=q5y pu;refine⟨"str",_,F.slot_str_getitem.lookup,Sa _ _ _,wpAny_getItem_str_slice (st:=none) hs rfl
  (post_val_or_str ⟨Bb (Txt.slice_le z _ _) hz,fun t' k=>⟨.str (Nz z (p1.map (·.1)) (p2.map (·.1))),H,I.tok _,⟨t',rfl⟩,q⟩⟩)⟩
def rLower:V->List V->Hp->VK->Prop:=fun x vs H Q=>∃z,x=.str z/\vs=[]/\3*z.length<=sizeLine/\Q (.str (Txt.lower z)) H
theorem fit3(h:n<=3*m)(h2:3*m<=sizeLine):Cv.Str.tooLong n=false:=by
 exact decide_eq_false (by lia)
theorem q5m:MtM X "str.lower" rLower:=by
 intro pins s σ H x vs v us Q I rx rv h;obtain⟨z,rfl,rfl,hz,q⟩:=h;obtain⟨t,rfl⟩:=rx;cases rv.zero;exact SC.lower (fit3 (len_lower z) hz) ⟨.str _,H,I.tok _,⟨_,rfl⟩,q⟩
def rUpper:V->List V->Hp->VK->Prop:=fun x vs H Q=>∃z,x=.str z/\vs=[]/\3*z.length<=sizeLine/\Q (.str (Txt.upper z)) H
theorem z9v:MtM X "str.upper" rUpper:=by
 intro pins s σ H x vs v us Q I rx rv h;obtain⟨z,rfl,rfl,hz,q⟩:=h;obtain⟨t,rfl⟩:=rx;cases rv.zero;exact SC.upper (fit3 (len_upper z) hz) ⟨.str _,H,I.tok _,⟨_,rfl⟩,q⟩
theorem q4u:∀{ys:List Str} {us:List Value},Vals (ys.map V.str) us->Ig us ys
 |[],_,.nil=>.nil
 |y::ys,_,.cons r t=>by obtain⟨k,rfl⟩:=r;exact .cons y k (q4u t)
def rJoin(K:Ah):V->List V->Hp->VK->Prop:=fun x vs H Q=>∃(z:Str) (p:Addr) (ys:List Str),x=.str z/\vs=[.ref p]/\(SqL K H p (ys.map V.str)\/SqT K H p (ys.map V.str))/\(ys.map (·.length)).sum+ys.length*z.length<=16777216/\Q (.str (Vi z ys)) H
theorem x3r:MtM X "str.join" (rJoin X.K):=by
 intro pins s σ H x vs v us Q I rx rv h;obtain⟨z,p,ys,rfl,rfl,hq,hz,q⟩:=h;obtain⟨t,rfl⟩:=rx;obtain⟨u,rfl,ru⟩:=rv.one;cases ru;rcases hq with hq|hq
 ·obtain⟨its,r,pl,_⟩:=I.list hq;exact join_list pl.isList (q4u (by simpa using r)) hz fun t' k=>⟨.str _,H,I.tok _,⟨_,rfl⟩,q⟩
 ·obtain⟨its,r,pl,_⟩:=I.tuple hq;exact join_tuple pl (q4u (by simpa using r)) hz fun t' k=>⟨.str _,H,I.tok _,⟨_,rfl⟩,q⟩
def rMulS:R2:=fun x y H Q=>∃z n,x=.str z/\y=.int n/\MulOk z n/\Q (.str (Txt.mul z n)) H
theorem op_mulS:OpR X (Ga .Mult) rMulS:=by
 intro pins s σ H x y v u Q I rx ry h;obtain⟨z,n,rfl,rfl,hm,q⟩:=h;obtain⟨t,rfl⟩:=rx;obtain⟨t',rfl⟩:=ry;exact SB.mul hm fun t2 k=>⟨.str _,H,I.tok _,⟨_,rfl⟩,q⟩
theorem q5z:∀{bs:List Bool} {us:List Value},Vals (bs.map V.bl) us->LSm.BoolsAre us bs
 |[],_,.nil=>.nil
 |b::bs,_,.cons r t=>by cases r;exact .cons b (q5z t)
theorem z9w(hc:X.calm=true):CallR X (.builtin "all") (fun xs H Q=>∃(p:Addr) (bs:List Bool),xs=[.ref p]/\SqL X.K H p (bs.map V.bl)/\Q (.bl (bs.all id)) H):=by
 intro pins s σ H xs us Q I r h;obtain⟨p,bs,rfl,hq,q⟩:=h;obtain⟨u,rfl,rx⟩:=vals1 r;cases rx;obtain⟨its,r',pl,hz⟩:=I.list hq;have hb:=q5z r';have hlt:p<s.heap.objs.size:=by obtain⟨_,e,_⟩:=pl.isList;exact Al e
 refine call_all_walk (Ow pl.isList ?_);refine⟨s.heap.objs.size,[s.heap.objs.size,p],[s.heap.objs.size],its.toArray.size,_,_,fun i=>(bs[i]?).getD true,rfl,Walks.list (A:=X.A.in1) (I.ok.hd hc) _ p (Bd hlt) its.toArray,
  ⟨⟨_,Ak _ rfl,rfl,rfl⟩,pl.isList.push _⟩,fun i v s' Q' E' hP hQ=>?_,fun h' tk hk=>?_⟩
 ·obtain⟨b,e,rfl⟩:=hb.get i v (by simpa using hP);simp only[e,Option.getD_some] at hQ;exact Du hQ
 ·have e:((List.range its.toArray.size).all fun i=>(bs[i]?).getD true)=bs.all id:=by
   rw[Aw,hb.length];exact LSm.range_all bs
  rw[e];exact⟨.bl _,H,I.kept (t':=tk) (LSm.kept_iter hk),rfl,q⟩
def Its(z:Str):It:=⟨fun i _=>i<z.length,fun i H x H'=>H'=H/\∃c,z.cps[i]?=some c/\x=.str ⟨#[c]⟩,fun i _=>z.length<=i⟩
end
theorem z6p{K:Ah}(it:Addr)(z:Str)(t:Tok):Turn P w K tg (Its z) [it] it (fun i h=>i<=z.length/\h.IsStrIter it "str_ascii_iterator" z t i) where
 mem:=by simp
 obj:=fun i h st b hb=>by
  have e:b=it:=by grind
  subst e;obtain⟨_,o,e,c,d⟩:=st;exact⟨o,e,fun v z=>by rw[d] at z;cases z⟩
 keep:=fun i h h' st k=>⟨st.1,let ⟨o,e,c,d⟩:=st.2;⟨o,k it (by simp) o e,c,d⟩⟩
 item:=by
  intro X hP hw hK hc i pins s σ H E I hf st hg;obtain⟨f0,f1,f2,f3,f4,f5⟩:=hf it (by simp);have hi:i<z.cps.size:=hg;refine wpAny_pyNext_ascii_item st.2 (c:=z.cps[i]) (by simp[hi]) fun h' hit' hs'=>?_;have I1:Inv X pins σ H { s with heap:=h',toks:=s.toks+1 }:=I.turned (fun b o hb e=>(hs'.2 b hb).trans e) f0 f1 f3 f4 f5;obtain⟨o,e,c,d⟩:=id hit';exact⟨_,rfl,z1u e c d (by decide) ⟨.str ⟨#[z.cps[i]]⟩,H,I1,⟨_,rfl⟩,⟨rfl,_,by simp[hi],rfl⟩,⟨hg,hit'⟩,fun b hb=>(hf b hb).1⟩⟩
 done:=by
  intro X hP hw hK hc i pins s σ H E I hf st hg;obtain⟨f0,f1,f2,f3,f4,f5⟩:=hf it (by simp);have hi:z.cps.size<=i:=hg;exact wpAny_pyNext_ascii_end (I.ok.hd hc) st.2 (by simp;lia) fun h' eb=>⟨rfl,I.turned (t':=s.toks) (fun b o hb e=>eb b o hb e) f0 f1 f3 f4 f5⟩
 self:=fun _ _ _ _ _ st h=>wpAny_pyIter_striter_ascii st.2 h
theorem z6q{K:Ah}(it:Addr)(z:Str)(t:Tok):Turn P w K tg (Its z) [it] it (fun i h=>i<=z.length/\h.IsStrIter it "str_iterator" z t i) where
 mem:=by simp
 obj:=fun i h st b hb=>by
  have e:b=it:=by grind
  subst e;obtain⟨_,o,e,c,d⟩:=st;exact⟨o,e,fun v z=>by rw[d] at z;cases z⟩
 keep:=fun i h h' st k=>⟨st.1,let ⟨o,e,c,d⟩:=st.2;⟨o,k it (by simp) o e,c,d⟩⟩
 item:=by
  intro X hP hw hK hc i pins s σ H E I hf st hg;obtain⟨f0,f1,f2,f3,f4,f5⟩:=hf it (by simp);have hi:i<z.cps.size:=hg;refine wpAny_pyNext_wide_item st.2 (c:=z.cps[i]) (by simp[hi]) fun h' hit' hs'=>?_;have I1:Inv X pins σ H { s with heap:=h',toks:=s.toks+1 }:=I.turned (fun b o hb e=>(hs'.2 b hb).trans e) f0 f1 f3 f4 f5;obtain⟨o,e,c,d⟩:=id hit';exact⟨_,rfl,z1u e c d (by decide) ⟨.str ⟨#[z.cps[i]]⟩,H,I1,⟨_,rfl⟩,⟨rfl,_,by simp[hi],rfl⟩,⟨hg,hit'⟩,fun b hb=>(hf b hb).1⟩⟩
 done:=by
  intro X hP hw hK hc i pins s σ H E I hf st hg;obtain⟨f0,f1,f2,f3,f4,f5⟩:=hf it (by simp);have hi:z.cps.size<=i:=hg;exact wpAny_pyNext_wide_end (I.ok.hd hc) st.2 (by simp;lia) fun h' eb=>⟨rfl,I.turned (t':=s.toks) (fun b o hb e=>eb b o hb e) f0 f1 f3 f4 f5⟩
 self:=fun _ _ _ _ _ st h=>wpAny_pyIter_striter_wide st.2 h
theorem z9x{Fin:List V->Hp->Prop}(Pv:Nat->List V->Hp->Prop)(h0:Pv 0 [] (upd H1 D (.lst [])))(hl:∀i ys H,Pv i ys H->H D=some (.lst ys))(hs:∀i ys H c,z.cps[i]?=some c->Pv i ys H->g (.str ⟨#[c]⟩) σ0 H fun σ2 H2=>Keeps0 σ0 σ2/\tt σ2 H2 fun b H3 =>
   if b=true then te σ2 H3 fun v H4=>H4 D=some (.lst ys)/\ys.length<sizeLine/\Pv (i+1) (ys++[v]) (upd H4 D (.lst (ys++[v]))) else Pv (i+1) ys H3)(hd:∀ys H,Pv z.length ys H->Fin ys H):CompW (Its z) g tt te σ0 D Fin H1 :=
 q8d Pv h0 hl (fun i ys H h _=>h) (fun ys H _=>Aj _) (fun i ys H x H' h p y=>by obtain⟨e,c,hc,y⟩:=y;subst e y;exact hs i ys _ c hc p) hd
open PySem PySem.Spec PyProof.Rows
structure Vw (K:Ah) (H:Hp) (h:Heap):Prop where
 lst:∀a xs,SqL K H a xs->∃its:List Value,Vals xs its/\h.IsList a its.toArray
 tup:∀a xs,SqT K H a xs->∃its:List Value,Vals xs its/\h.IsTuple a its.toArray
theorem SqL.ne{K:Ah}(h:SqL K H a xs)(hb:H b=none)(hk:K.lookup b=none):a≠b:=by
 rintro rfl;rcases h with(h|⟨o,h⟩)|⟨o,_,_,h,_⟩
 ·rw[hb] at h;cases h
 ·rw[hb] at h;cases h
 ·rw[hk] at h;cases h
theorem SqT.ne{K:Ah}(h:SqT K H a xs)(hb:H b=none)(hk:K.lookup b=none):a≠b:=by
 rintro rfl;rcases h with(h|⟨o,h⟩)|⟨o,_,_,h,_⟩
 ·rw[hb] at h;cases h
 ·rw[hb] at h;cases h
 ·rw[hk] at h;cases h
theorem Vw.but{K:Ah}(v:Vw K H h)(hb:H b=none)(hk:K.lookup b=none)(k:∀c o,c≠b->h.get? c=some o->h'.get? c=some o):Vw K H h' :=
 ⟨fun a xs q=>let ⟨its,r,l⟩:=v.lst a xs q;⟨its,r,l.at fun o e=>k a o (q.ne hb hk) e⟩,fun a xs q=>let ⟨its,r,l⟩:=v.tup a xs q;⟨its,r,by
  obtain⟨o,e,z⟩:=l;exact⟨o,k a o (q.ne hb hk) e,z⟩⟩⟩
theorem Vw.linj{K:Ah}(v:Vw K H h)(p:SqL K H a xs)(q:SqL K H a ys):xs=ys:=by
 obtain⟨its,r,o,e,_,n,d⟩:=v.lst a xs p;obtain⟨its',r',o',e',_,n',d'⟩:=v.lst a ys q;have:its=its':=by grind
 subst this;exact r.inj r'
theorem Inv.vw{σ:St}(I:Inv X pins σ H s):Vw X.K H s.heap :=
 ⟨fun a xs q=>let ⟨its,r,l,_⟩:=I.list q;⟨its,r,l.isList⟩,fun a xs q=>let ⟨its,r,l,_⟩:=I.tuple q;⟨its,r,l⟩⟩
structure Srce (P:Program) (w:World) (K:Ah) (J:It) (it:Addr) (st:Nat->Heap->Prop):Prop where
 obj:∀i h,st i h->∃o,h.get? it=some o/\∀v,o.data≠.cell v
 keep:∀i h h',st i h->(∀o,h.get? it=some o->h'.get? it=some o)->st i h'
 item:∀(A:Around) (i:Nat) (s:Af) (H:Hp) (Q:Value->Af->Prop) (E:Value->Af->Prop),A.handled=none->Vw K H s.heap->H it=none->K.lookup it=none->st i s.heap->J.go i H ->
  (∀u x h' tk,RelV x u->J.yld i H x H->st (i+1) h'->Eu it s.heap h'->Q u { s with heap:=h',toks:=tk })->wpAny (model P w) A (Pg (.ref it)) Q E s
 done:∀(A:Around) (i:Nat) (s:Af) (H:Hp) (Q:Value->Af->Prop) (E:Value->Af->Prop),A.handled=none->Vw K H s.heap->H it=none->K.lookup it=none->st i s.heap->J.stop i H ->
  (∀h' e,Qt it s.heap h'->(∃o,h'.get? e=some o/\o.cls=.type "StopIteration")->E (.ref e) { s with heap:=h' })->wpAny (model P w) A (Pg (.ref it)) Q E s
theorem q6a{K:Ah}(a it:Addr):Srce P w K (Itl K a) it (fun i h=>h.IsListIter it a i) where
 obj:=fun i h st=>by obtain⟨o,e,c,d⟩:=st;exact⟨o,e,fun v z=>by rw[d] at z;cases z⟩
 keep:=fun i h h' st k=>st.at fun o e=>k o e
 item:=fun A i s H Q E hh vw hn hk st go hQ=>by
  obtain⟨xs,x,hq,hx⟩:=go;obtain⟨its,rv,p⟩:=vw.lst a xs hq;obtain⟨u,hu,ru⟩:=rv.get hx;refine wpAny_nextOf_list_item st p (by simpa using hu) fun h' st' sb=>?_
  exact hQ u x h' s.toks ru ⟨rfl,fun ys hy=>by rw[vw.linj hy hq];exact hx⟩ st' sb
 done:=fun A i s H Q E hh vw hn hk st stop hE=>by
  obtain⟨xs,hq,hx⟩:=stop;obtain⟨its,rv,p⟩:=vw.lst a xs hq;have hl:=rv.length;exact wpAny_nextOf_list_end hh st p (by simp;lia) hE
def stStr(it:Addr)(z:Str)(t:Tok)(i:Nat)(h:Heap):Prop:=h.IsStrIter it (Ht z) z t i
theorem q8e{K:Ah}(it:Addr)(z:Str)(t:Tok):Srce P w K (Its z) it (stStr it z t) where
 obj:=fun i h st=>by obtain⟨o,e,c,d⟩:=st;exact⟨o,e,fun v z=>by rw[d] at z;cases z⟩
 keep:=fun i h h' st k=>by obtain⟨o,e,r⟩:=st;exact⟨o,k o e,r⟩
 item:=fun A i s H Q E hh vw hn hk st go hQ=>by
  have hi:i<z.cps.size:=go;unfold stStr Ht at st;cases ha:z.cps.all (· < 128)
  ·rw[ha] at st;refine wpAny_nextOf_wide_item st (c:=z.cps[i]) (by simp[hi]) fun h' hit' hs'=>?_;exact hQ _ (.str ⟨#[z.cps[i]]⟩) h' (s.toks+1) ⟨_,rfl⟩ ⟨rfl,_,by simp[hi],rfl⟩ (by unfold stStr Ht;rw[ha];exact hit') hs'
  ·rw[ha] at st;refine wpAny_nextOf_ascii_item st (c:=z.cps[i]) (by simp[hi]) fun h' hit' hs'=>?_;exact hQ _ (.str ⟨#[z.cps[i]]⟩) h' (s.toks+1) ⟨_,rfl⟩ ⟨rfl,_,by simp[hi],rfl⟩ (by unfold stStr Ht;rw[ha];exact hit') hs'
 done:=fun A i s H Q E hh vw hn hk st stop hE=>by
  have hi:z.cps.size<=i:=stop;unfold stStr Ht at st;cases ha:z.cps.all (· < 128)
  ·rw[ha] at st;exact wpAny_nextOf_wide_end hh st (by simp;lia) hE
  ·rw[ha] at st;exact wpAny_nextOf_ascii_end hh st (by simp;lia) hE
theorem Inv.turnedL{σ:St}{ch:List Addr}(I:Inv X pins σ H s)(k:∀b o,b∉ch->s.heap.get? b=some o->h'.get? b=some o)(hf:∀b∈ch,FpOk X pins H b):Inv X pins σ H { s with heap:=h',toks:=t' }:=by
 have nit:∀b u,H b=some u->b∉ch:=fun b u e z=>by rw[(hf b z).1] at e;cases e
 refine I.step (g':=s.gens) (d':=s.drawn) (fun b hb=>?_) (fun b o _ _ hc e _=>k b o hc e) (fun b o _ _ hc e _=>⟨o.slots,k b o hc e⟩) (fun _ _ _ _ n=>n)
  (fun b o hc e=>?_) (fun _ _ e=>e) (fun _ _ _ e=>e) (fun b ps e=>⟨#[],by rw[e];simp⟩) (fun m hm=>?_) (fun b u e=>?_) I.bare
 ·exact⟨(hf b hb).2.2.2.1,(hf b hb).2.1,(hf b hb).2.2.2.2.1,(hf b hb).2.2.2.2.2⟩
 ·exact⟨o,k b o hc e⟩
 ·obtain⟨o,es,ep,ho,r⟩:=hm;exact⟨o,es,ep,k _ o (fun z=>(hf _ z).2.1 rfl) ho,r⟩
 ·refine(I.hok b u e).stay (fun c v hc q=>k c v ?_ q) (fun _ q=>q) fun _ _ q=>q;rcases hc with z|z
  ·rw[z];exact nit b u e
  ·exact nit c _ z
theorem Inv.track{σ:St}{T:Addr}(I:Inv X pins σ H s)(hT:X.s₀.heap.objs.size<=T)(hF:FpOk X pins H T)(new:ObjOk X.prog X.w (upd H T o) s.heap T o):Inv X pins σ (upd H T o) s:=by
 have hn:=hF.1;refine⟨I.ok,I.os,I.bare,⟨I.base.keep,I.base.slot,fun b ob e n hx=>?_,I.base.there,fun b xs e=>?_,fun b ob u e=>?_,fun b ps e=>?_⟩,I.loc,I.cell,?_,fun x c e=>?_,fun p hp=>?_,fun b u e=>?_,I.len⟩
 ·rw[q0f (Bd (Bm (Al e) hT))];exact I.base.free b ob e n hx
 ·have z:=I.base.tups b xs e;rw[q0f (q0n z hn)];exact z
 ·have z:=I.base.frzs b ob u e;rw[q0f (q0n z hn)];exact z
 ·obtain⟨m,z⟩:=I.base.tbls b ps e;exact⟨m,by rw[q0f (q0n z hn)];exact z⟩
 ·rw[q0f (Ca hF.2.1)];exact I.free
 ·rw[q0f (hF.2.2.2.2.1 x c e)];exact I.freeC x c e
 ·obtain⟨e,n,ne,nf,d⟩:=I.pin p hp;exact⟨e,by rw[q0f (hF.2.2.2.2.2 p hp)];exact n,ne,nf,d⟩
 ·by_cases hb:b=T
  ·subst hb;rw[q0c] at e;cases e;exact new
  ·rw[q0f hb] at e;exact(I.hok b u e).stay (fun _ _ _ q=>q) (fun c q=>by rw[q0f (q0n q hn)];exact q) fun c xs q=>by rw[q0f (q0n q hn)];exact q
theorem FpOk.noK{σ:St}(I:Inv X pins σ H' s)(f:FpOk X pins H b):X.K.lookup b=none:=by
 cases e:X.K.lookup b with
 |none=>rfl
 |some o =>
  have e1:=I.ok.mod.kin b o e;rcases f.2.2.2.1 with z|z
  ·exact absurd z (I.ok.noex b o e1)
  ·exact absurd (Bm (Al (I.ok.bs b o e1).1) z) (Fq _)
structure ZipA (z TI TO i1 i2:Addr):Prop where
 TIz:TI≠z
 TOz:TO≠z
 i1z:i1≠z
 i2z:i2≠z
 TITO:TI≠TO
 TIi1:TI≠i1
 TIi2:TI≠i2
 TOi1:TO≠i1
 TOi2:TO≠i2
 i12:i1≠i2
section
variable{prog:Program}{w:World}{K:Ah}{A:Around}{E:Value->Af->Prop}{s:Af}{J1 J2:It}{t1 t2:Nat->Heap->Prop}{z TI TO i1 i2:Addr}{H:Hp}
theorem z6r{Q:Value->Af->Prop}(D:ZipA z TI TO i1 i2)(S1:Srce prog w K J1 i1 t1)(S2:Srce prog w K J2 i2 t2)(hh:A.handled=none)(vw:Vw K H s.heap)(nH:∀b∈[z,TI,TO,i1,i2],H b=none)(nK:∀b∈[z,TI,TO,i1,i2],K.lookup b=none)(hz:IsZip s.heap z TI TO .none)(hTI:Ls s.heap TI (.ref i1) (.ref i2))(hTO:Ls s.heap TO a b)(h1:t1 i s.heap)(h2:t2 i s.heap)(g1:J1.go i H)(g2:J2.go i H)(hQ:∀u v x y h' tk,RelV x u->RelV y v->J1.yld i H x H->J2.yld i H y H->IsZip h' z TI TO (Dl s.heap.objs.size)->Ls h' TO u v->t1 (i+1) h'->t2 (i+1) h'->Ls h' s.heap.objs.size u v->h'.objs.size=s.heap.objs.size+1 ->
   (∀c o,c≠z->c≠TO->c≠i1->c≠i2->s.heap.get? c=some o->h'.get? c=some o)->Q (.ref s.heap.objs.size) { s with heap:=h',toks:=tk }):
  wpAny (model prog w) A (Cv.«zip.__next__» ⟨[.ref z],[]⟩) (fun fin s'=>∃v,fin=.done (.ret v)/\Q v s') E s:=by
 show wpAny _ _ (field (.ref z) 2 >>= _) _ _ _;refine Ab (Bp hz rfl rfl ?_);refine Ab (Bp hz rfl rfl ?_);refine Ab (Ei hTI rfl ?_);refine Ab ?_;refine Ab (Bp hz rfl rfl (Ad ?_));refine Ab (Ff ?_);refine Ab (Bp hz rfl rfl ?_);refine Ab (Ct hz (by simp) fun h₁ hz₁ hs₁=>?_);replace hz₁:IsZip h₁ z TI TO .ellipsis:=hz₁;have vw₁:=vw.but (nH z (by simp)) (nK z (by simp)) fun c o hc e=>hs₁.extBut _ _ hc e;refine Ab ?_;refine Ab (Ab (Om ?_));refine Ab (S1.item _ i _ H _ _ hh vw₁ (nH i1 (by simp)) (nK i1 (by simp)) (S1.keep _ _ _ h1 fun o e=>hs₁.extBut _ _ D.i1z e) g1 fun u x h₂ tk₂ rx yx h1₂ hs₂=>Ad ?_);have hTO₂:=hs₂.extBut _ _ D.TOi1 (hs₁.extBut _ _ D.TOz hTO);refine Ab (Ei hTO₂ rfl ?_);refine Ab (Mu hTO₂ fun h₃ hTO₃ hs₃=>?_);have vw₃:=(vw₁.but (nH i1 (by simp)) (nK i1 (by simp)) fun c o hc e=>hs₂.extBut _ _ hc e).but (nH TO (by simp)) (nK TO (by simp)) fun c o hc e=>hs₃.extBut _ _ hc e;refine Ab (Nu (Ad ?_));refine Ab (Ab (Om ?_));refine Ab (S2.item _ i _ H _ _ hh vw₃ (nH i2 (by simp)) (nK i2 (by simp)) (S2.keep _ _ _ h2 fun o e=>hs₃.extBut _ _ D.TOi2.symm (hs₂.extBut _ _ D.i12.symm (hs₁.extBut _ _ D.i2z e))) g2 fun v y h₄ tk₄ ry yy h2₄ hs₄=>Ad ?_);have hTO₄:=hs₄.extBut _ _ D.TOi2 hTO₃;refine Ab (Ei hTO₄ rfl ?_);refine Ab (Mu hTO₄ fun h₅ hTO₅ hs₅=>?_);replace hTO₅:Ls h₅ TO u v:=hTO₅;refine Ab (Nu (Ad (Ad ?_)));refine Ab (Ei hTO₅ rfl ?_);refine Ab (Nl ?_);have hsz:h₅.objs.size=s.heap.objs.size:=by rw[hs₅.1,hs₄.1,hs₃.1,hs₂.1,hs₁.1]
 have hz₅:=hs₅.extBut _ _ D.TOz.symm (hs₄.extBut _ _ D.i2z.symm (hs₃.extBut _ _ D.TOz.symm (hs₂.extBut _ _ D.i1z.symm hz₁)));have hk₅:∀c o,c≠z->c≠TO->c≠i1->c≠i2->s.heap.get? c=some o->h₅.get? c=some o:=fun c o c1 c2 c3 c4 e =>
  hs₅.extBut _ _ c2 (hs₄.extBut _ _ c4 (hs₃.extBut _ _ c2 (hs₂.extBut _ _ c3 (hs₁.extBut _ _ c1 e))))
 have h1₅:=S1.keep _ _ _ h1₂ fun o e=>hs₅.extBut _ _ D.TOi1.symm (hs₄.extBut _ _ D.i12 (hs₃.extBut _ _ D.TOi1.symm e));have h2₅:=S2.keep _ _ _ h2₄ fun o e=>hs₅.extBut _ _ D.TOi2.symm e;have hzlt:=Al hz₅;refine Ab ?_;have hz₆:IsZip (h₅.push { cls:=.type "tuple",data:=.seq #[u,v] }) z TI TO .ellipsis:=Ae _ hz₅;refine Ab (Ct hz₆ (by simp) fun h₇ hz₇ hs₇=>?_);refine Ct hz₇ (by simp) fun h₈ hz₈ hs₈=>?_;have up:∀c o,c≠z->h₅.get? c=some o->h₈.get? c=some o:=fun c o c1 e=>hs₈.extBut _ _ c1 (hs₇.extBut _ _ c1 (Ae _ e));have hT₈:=hs₈.extBut _ _ (Dk hzlt) (hs₇.extBut _ _ (Dk hzlt) (Ak _ rfl));have hz8:h₈.objs.size=h₅.objs.size+1:=by rw[hs₈.1,hs₇.1,Fx]
 rw[hsz] at hz₈ hT₈ hz8;refine Ad ⟨_,rfl,?_⟩;rw[hsz];exact hQ u v x y h₈ tk₄ rx ry yx yy hz₈ (up _ _ D.TOz hTO₅) (S1.keep _ _ _ h1₅ fun o e=>up _ o D.i1z e) (S2.keep _ _ _ h2₅ fun o e=>up _ o D.i2z e) hT₈ hz8 fun c o c1 c2 c3 c4 e=>up c o c1 (hk₅ c o c1 c2 c3 c4 e)
theorem z9y(D:ZipA z TI TO i1 i2)(S1:Srce prog w K J1 i1 t1)(S2:Srce prog w K J2 i2 t2)(hh:A.handled=none)(vw:Vw K H s.heap)(nH:∀b∈[z,TI,TO,i1,i2],H b=none)(nK:∀b∈[z,TI,TO,i1,i2],K.lookup b=none)(hz:IsZip s.heap z TI TO .none)(hTI:Ls s.heap TI (.ref i1) (.ref i2))(hTO:Ls s.heap TO a b)(h1:t1 i s.heap)(h2:t2 i s.heap)(hend:J1.stop i H\/(J1.go i H/\J2.stop i H))(hE:∀h' e tk,(∀c o,c≠z->c≠TO->c≠i1->c≠i2->s.heap.get? c=some o->h'.get? c=some o)->(∃o,h'.get? e=some o/\o.cls=.type "StopIteration")->E (.ref e) { s with heap:=h',toks:=tk }):
  wpAny (model prog w) A (Cv.«zip.__next__» ⟨[.ref z],[]⟩) Q E s:=by
 show wpAny _ _ (field (.ref z) 2 >>= _) _ _ _;refine Ab (Bp hz rfl rfl ?_);refine Ab (Bp hz rfl rfl ?_);refine Ab (Ei hTI rfl ?_);refine Ab ?_;refine Ab (Bp hz rfl rfl (Ad ?_));refine Ab (Ff ?_);refine Ab (Bp hz rfl rfl ?_);refine Ab (Ct hz (by simp) fun h₁ hz₁ hs₁=>?_);have vw₁:=vw.but (nH z (by simp)) (nK z (by simp)) fun c o hc e=>hs₁.extBut _ _ hc e;refine Ab ?_;refine Ab (Ab (Om ?_));rcases hend with st|⟨g1,st⟩
 ·refine Ab (S1.done _ i _ H _ _ hh vw₁ (nH i1 (by simp)) (nK i1 (by simp)) (S1.keep _ _ _ h1 fun o e=>hs₁.extBut _ _ D.i1z e) st fun h₂ e hs₂ he=>?_);obtain⟨oe,hoe,hce⟩:=he;have hz₂:=hs₂ _ _ D.i1z.symm hz₁;have hez:e≠z:=fun x=>by subst x;rw[hz₂] at hoe;cases hoe;simp at hce
  refine Ct hz₂ (by simp) fun h₃ _ hs₃=>hE h₃ e _ (fun c o c1 _ c3 _ x=>hs₃.extBut _ _ c1 (hs₂ _ _ c3 (hs₁.extBut _ _ c1 x))) ⟨oe,hs₃.extBut _ _ hez hoe,hce⟩
 ·refine Ab (S1.item _ i _ H _ _ hh vw₁ (nH i1 (by simp)) (nK i1 (by simp)) (S1.keep _ _ _ h1 fun o e=>hs₁.extBut _ _ D.i1z e) g1 fun u x h₂ tk₂ rx yx h1₂ hs₂=>Ad ?_);have hTO₂:=hs₂.extBut _ _ D.TOi1 (hs₁.extBut _ _ D.TOz hTO);refine Ab (Ei hTO₂ rfl ?_);refine Ab (Mu hTO₂ fun h₃ hTO₃ hs₃=>?_);have vw₃:=(vw₁.but (nH i1 (by simp)) (nK i1 (by simp)) fun c o hc e=>hs₂.extBut _ _ hc e).but (nH TO (by simp)) (nK TO (by simp)) fun c o hc e=>hs₃.extBut _ _ hc e;refine Ab (Nu (Ad ?_));refine Ab (Ab (Om ?_));refine Ab (S2.done _ i _ H _ _ hh vw₃ (nH i2 (by simp)) (nK i2 (by simp)) (S2.keep _ _ _ h2 fun o e=>hs₃.extBut _ _ D.TOi2.symm (hs₂.extBut _ _ D.i12.symm (hs₁.extBut _ _ D.i2z e))) st fun h₄ e hs₄ he=>?_);obtain⟨oe,hoe,hce⟩:=he;have hz₄:=hs₄ _ _ D.i2z.symm (hs₃.extBut _ _ D.TOz.symm (hs₂.extBut _ _ D.i1z.symm hz₁));have hez:e≠z:=fun x=>by subst x;rw[hz₄] at hoe;cases hoe;simp at hce
  refine Ct hz₄ (by simp) fun h₅ _ hs₅=>hE h₅ e _ (fun c o c1 c2 c3 c4 x=>hs₅.extBut _ _ c1 (hs₄ _ _ c4 (hs₃.extBut _ _ c2 (hs₂.extBut _ _ c3 (hs₁.extBut _ _ c1 x))))) ⟨oe,hs₅.extBut _ _ hez hoe,hce⟩
end
def Itz(J1 J2:It):It:=⟨fun i H=>J1.go i H/\J2.go i H,fun i H x H'=>∃T x1 x2,H T=none/\J1.yld i H x1 H/\J2.yld i H x2 H/\x=.ref T/\H'=upd H T (.tup [x1,x2]),fun i H=>J1.stop i H\/(J1.go i H/\J2.stop i H)⟩
def tnZip(z TI TO i1 i2:Addr)(t1 t2:Nat->Heap->Prop)(i:Nat)(h:Heap):Prop:=IsZip h z TI TO .none/\Ls h TI (.ref i1) (.ref i2)/\(∃a b,Ls h TO a b)/\t1 i h/\t2 i h
theorem z9z{K:Ah}{TI TO:Addr}(D:ZipA z TI TO i1 i2)(S1:Srce P w K J1 i1 t1)(S2:Srce P w K J2 i2 t2):
  Turn P w K (.Tuple elts kk pos) (Itz J1 J2) [z,TI,TO,i1,i2] z (tnZip z TI TO i1 i2 t1 t2) where
 mem:=by simp
 obj:=fun i h st b hb=>by
  obtain⟨hz,hTI,⟨a,c,hTO⟩,h1,h2⟩:=st;simp only[Bk,Ew,or_false] at hb;rcases hb with rfl|rfl|rfl|rfl|rfl
  ·simp_all
  ·grind
  ·grind
  ·exact S1.obj i h h1
  ·exact S2.obj i h h2
 keep:=fun i h h' st k=>by
  obtain⟨hz,hTI,⟨a,c,hTO⟩,h1,h2⟩:=st;exact⟨k z (by simp) _ hz,k TI (by simp) _ hTI,⟨a,c,k TO (by simp) _ hTO⟩,S1.keep _ _ _ h1 fun o e=>k i1 (by simp) o e,S2.keep _ _ _ h2 fun o e=>k i2 (by simp) o e⟩
 item:=by
  intro X hP hw hK hc i pins s σ H E I hf st hg;subst hP hw hK;obtain⟨hz,hTI,⟨a,c,hTO⟩,h1,h2⟩:=st;have hT:s.TypeIs (.ref z) "zip" := ⟨_,hz,rfl⟩
  refine Ab (Eg (Cd hT Mw
   (Bq Mw hT Vj
    (z6r D S1 S2 (I.ok.hd hc) I.vw (fun b hb=>(hf b hb).1) (fun b hb=>(hf b hb).noK I) hz hTI hTO h1 h2 hg.1 hg.2 fun u v x y h' tk rx ry yx yy a1 a2 a3 a4 a5 a6 a7=>Ad ?_) (Uo _))))
  refine⟨_,rfl,?_⟩;refine wpAny_letOwnedTupleGo_zip a1 fun h2' hz2 hs2=>?_;have k2:∀c o,c∉[z,TI,TO,i1,i2]->s.heap.get? c=some o->h2'.get? c=some o:=fun c o hcn e=>by
   simp only[Bk,Ew,or_false,not_or] at hcn;exact hs2.extBut _ _ hcn.1 (a7 c o hcn.1 hcn.2.2.1 hcn.2.2.2.1 hcn.2.2.2.2 e)
  have zlt:=Al hz;have I1:Inv X pins σ H { s with heap:=h2',toks:=tk }:=I.turnedL k2 hf;have FT:=I.fpOk (Aj _) I.fresh;have hT2:=hs2.extBut _ _ (Dk zlt) a5;have I2:Inv X pins σ (upd H s.heap.objs.size (.tup [x,y])) { s with heap:=h2',toks:=tk } :=
   I1.track I.sz FT ⟨by show 2<=sizeLine;decide,[u,v],.cons rx (.cons ry .nil),⟨_,hT2,rfl,_,rfl⟩⟩
  refine⟨.ref s.heap.objs.size,_,I2,rfl,⟨_,x,y,I.fresh,yx,yy,rfl,rfl⟩,⟨hz2,?_,⟨_,_,hs2.extBut _ _ D.TOz a2⟩,S1.keep _ _ _ a3 fun o e=>hs2.extBut _ _ D.i1z e,S2.keep _ _ _ a4 fun o e=>hs2.extBut _ _ D.i2z e⟩,fun b hb=>?_⟩
  ·exact hs2.extBut _ _ D.TIz (a7 _ _ D.TIz D.TITO D.TIi1 D.TIi2 hTI)
  ·have hb2:=(hf b hb).1;rw[q0f]
   ·exact hb2
   ·have:∃o,s.heap.get? b=some o:=by
     simp only[Bk,Ew,or_false] at hb;rcases hb with rfl|rfl|rfl|rfl|rfl
     ·exact⟨_,hz⟩
     ·grind
     ·grind
     ·obtain⟨o,e,_⟩:=S1.obj _ _ h1;exact⟨o,e⟩
     ·obtain⟨o,e,_⟩:=S2.obj _ _ h2;exact⟨o,e⟩
    obtain⟨o,e⟩:=this;exact Bd (Al e)
 done:=by
  intro X hP hw hK hc i pins s σ H E I hf st hg;subst hP hw hK;obtain⟨hz,hTI,⟨a,c,hTO⟩,h1,h2⟩:=st;have hT:s.TypeIs (.ref z) "zip" := ⟨_,hz,rfl⟩
  refine Ab (Eg (Cd hT Mw
   (Bq Mw hT Vj
    (z9y D S1 S2 (I.ok.hd hc) I.vw (fun b hb=>(hf b hb).1) (fun b hb=>(hf b hb).noK I) hz hTI hTO h1 h2 hg fun h' e tk hk he=>?_) (Uo _))))
  obtain⟨o,ho,hcl⟩:=he;refine Ab (Dz ⟨o,ho,hcl⟩ Kx ?_);refine Ad ⟨rfl,I.turnedL (fun c o hcn e=>?_) hf⟩;simp only[Bk,Ew,or_false,not_or] at hcn;exact hk c o hcn.1 hcn.2.2.1 hcn.2.2.2.1 hcn.2.2.2.2 e
 self:=fun _ _ _ _ _ st h=>wpAny_pyIter_zip st.1 h
open PySem PySem.Spec PyProof.Rows
abbrev zs1(h:Heap)(x:Str)(t:Tok):Heap:=h.push { cls:=.type (Ht x),data:=.fields #[.str x t,.int 0 0] }
abbrev zs2(h:Heap)(x y:Str)(t u:Tok):Heap:=(zs1 h x t).push { cls:=.type (Ht y),data:=.fields #[.str y u,.int 0 0] }
abbrev zs3(h:Heap)(x y:Str)(t u:Tok):Heap:=(zs2 h x y t u).push { cls:=.type "tuple",data:=.seq #[.ref h.objs.size,.ref (zs1 h x t).objs.size] }
abbrev zs4(h:Heap)(x y:Str)(t u:Tok):Heap:=(zs3 h x y t u).push { cls:=.type "tuple",data:=.seq #[.none,.none] }
abbrev zs5(h:Heap)(x y:Str)(t u:Tok):Heap:=(zs4 h x y t u).push { cls:=.type "zip",data:=.fields #[.none,.bool false,.bool false,.ref (zs2 h x y t u).objs.size,.ref (zs3 h x y t u).objs.size] }
set_option maxHeartbeats 4000000 in
theorem z1y(x y:Str)(t u:Tok):
  Meets (Cv.«zip.__new__» ⟨[.type "zip",.str x t,.str y u],[]⟩) (fun _ R s=>R (.ok (.ret (.ref (zs4 s.heap x y t u).objs.size))) { s with heap:=zs5 s.heap x y t u }) :=
 .of_wp fun prog w A R s h=>by
  obtain⟨hp,g,d,tk,os⟩:=s;have hsub:=sub_zip;have i1:∀{A:Around} {E:Value->Af->Prop} {Q:Value->Af->Prop},Q (.ref hp.objs.size) ⟨zs1 hp x t,g,d,tk,os⟩->wpAny (model prog w) A (Lm (.str x t)) Q E ⟨hp,g,d,tk,os⟩:=fun q=>Uq q
  have i2:∀{A:Around} {E:Value->Af->Prop} {Q:Value->Af->Prop},Q (.ref (zs1 hp x t).objs.size) ⟨zs2 hp x y t u,g,d,tk,os⟩->wpAny (model prog w) A (Lm (.str y u)) Q E ⟨zs1 hp x t,g,d,tk,os⟩:=fun q=>Uq q
  wp_walk using i1,i2
  exact⟨_,rfl,h⟩
theorem z6s(n:Nat):ZipA (n+4) (n+2) (n+3) n (n+1):=by
 constructor<;>(show(_:Nat)≠_;lia)
section
variable{X:Cx}{elts:List Expr}{kk:Nat}{tpos:Pos}
theorem z3g{σ:St}(I:Inv X pins σ H s)(S1:Srce X.prog X.w X.K J1 s.heap.objs.size t1)(S2:Srce X.prog X.w X.K J2 (s.heap.objs.size+1) t2)(hz:IsZip h' (s.heap.objs.size+4) (s.heap.objs.size+2) (s.heap.objs.size+3) .none)(hTI:Ls h' (s.heap.objs.size+2) (.ref s.heap.objs.size) (.ref (s.heap.objs.size+1)))(hTO:Ls h' (s.heap.objs.size+3) .none .none)(h1:t1 0 h')(h2:t2 0 h')(hk:∀c o,s.heap.get? c=some o->h'.get? c=some o)(q:R (Itz J1 J2) H):
  wpAny (model X.prog X.w) X.A (Lm (.ref (s.heap.objs.size+4))) (PIE X pins σ (.Tuple elts kk tpos) R) E { s with heap:=h' }:=by
 refine wpAny_pyIter_zip hz ?_;refine⟨_,_,_,_,H,rfl,I.kept (t':=s.toks) hk,z9z (z6s s.heap.objs.size) S1 S2,⟨hz,hTI,⟨_,_,hTO⟩,h1,h2⟩,fun b hb=>?_,q⟩;have hb':s.heap.objs.size<=b:=by grind
 exact I.fpOk hb' (I.hok.fresh hb')
def iZipS(ta:TA):TI:=fun σ H R=>ta σ H fun vs H1=>∃x y,vs=[.str x,.str y]/\R (Itz (Its x) (Its y)) H1
theorem x3s{p pos:Pos}(hg:Gl X "zip")(hm:X.mg "zip" = none)(ha:PA X [a,b] ta)(hs:Ax [a,b] X.env=[(false,eval a X.env),(false,eval b X.env)]:=by rfl)(hs2:Ax [b] X.env=[(false,eval b X.env)]:=by rfl):
  PI X (.Tuple elts kk tpos) (.Call (.Name "zip" p) [a,b] [] pos) (iZipS ta):=by
 intro pins s σ H R I h;refine Call_ (q5b I hg hm (by decide +kernel:Gv "zip" = some (.type "zip")) (Dg (thn (ha pos pins s σ H _ I h) fun us s1 ⟨vs,H1,I1,r1,q1⟩=>?_) (by rw[hs,hs2]) (by rw[hs2];rfl)));obtain⟨x,y,e,q⟩:=q1;subst e;obtain⟨u,v,rfl,⟨t,rfl⟩,⟨t',rfl⟩⟩:=r1.two;refine callType_new F.called_zip (by decide) (F.typeCall_zip_2 _ _) (F.newCall_zip_2 _ _) (fun obj=>F.args_object_init_3 obj _ _) F.entry_zip_new (z1y x y t t') ?_;have z1:(zs1 s1.heap x t).objs.size=s1.heap.objs.size+1:=Fx ..;have z2:(zs2 s1.heap x y t t').objs.size=s1.heap.objs.size+2:=by simp_all
 have z3:(zs3 s1.heap x y t t').objs.size=s1.heap.objs.size+3:=by simp_all
 have z4:(zs4 s1.heap x y t t').objs.size=s1.heap.objs.size+4:=by simp_all
 have k1:∀c o,s1.heap.get? c=some o->(zs1 s1.heap x t).get? c=some o:=fun c o e=>Ae _ e;have k2:∀c o,(zs1 s1.heap x t).get? c=some o->(zs2 s1.heap x y t t').get? c=some o:=fun c o e=>Ae _ e;have k3:∀c o,(zs2 s1.heap x y t t').get? c=some o->(zs3 s1.heap x y t t').get? c=some o:=fun c o e=>Ae _ e;have k4:∀c o,(zs3 s1.heap x y t t').get? c=some o->(zs4 s1.heap x y t t').get? c=some o:=fun c o e=>Ae _ e;have k5:∀c o,(zs4 s1.heap x y t t').get? c=some o->(zs5 s1.heap x y t t').get? c=some o:=fun c o e=>Ae _ e;have g1:(zs1 s1.heap x t).get? s1.heap.objs.size=some { cls:=.type (Ht x),data:=.fields #[.str x t,.int 0 0] }:=Ak _ rfl;have g2:(zs2 s1.heap x y t t').get? (zs1 s1.heap x t).objs.size=some { cls:=.type (Ht y),data:=.fields #[.str y t',.int 0 0] }:=Ak _ rfl;have g3:(zs3 s1.heap x y t t').get? (zs2 s1.heap x y t t').objs.size=some { cls:=.type "tuple",data:=.seq #[.ref s1.heap.objs.size,.ref (zs1 s1.heap x t).objs.size] }:=Ak _ rfl;have g4:(zs4 s1.heap x y t t').get? (zs3 s1.heap x y t t').objs.size=some { cls:=.type "tuple",data:=.seq #[.none,.none] }:=Ak _ rfl;have g5:(zs5 s1.heap x y t t').get? (zs4 s1.heap x y t t').objs.size=some { cls:=.type "zip",data:=.fields #[.none,.bool false,.bool false,.ref (zs2 s1.heap x y t t').objs.size,.ref (zs3 s1.heap x y t t').objs.size] }:=Ak _ rfl;rw[z1] at g2;rw[z2,z1] at g3;rw[z3] at g4;rw[z4,z2,z3] at g5;rw[z4];exact⟨⟨_,g5,rfl⟩,z3g I1 (q8e _ x t) (q8e _ y t') g5 (k5 _ _ (k4 _ _ g3)) (k5 _ _ g4) ⟨_,k5 _ _ (k4 _ _ (k3 _ _ (k2 _ _ g1))),rfl,rfl⟩ ⟨_,k5 _ _ (k4 _ _ (k3 _ _ g2)),rfl,rfl⟩ (fun c o e=>k5 _ _ (k4 _ _ (k3 _ _ (k2 _ _ (k1 _ _ e))))) q⟩
def iZipL(K:Ah)(ta:TA):TI:=fun σ H R=>ta σ H fun vs H1=>∃a b xs ys,vs=[.ref a,.ref b]/\SqL K H1 a xs/\SqL K H1 b ys/\R (Itz (Itl K a) (Itl K b)) H1
theorem x3t{p pos:Pos}(hg:Gl X "zip")(hm:X.mg "zip" = none)(ha:PA X [a,b] ta)(hs:Ax [a,b] X.env=[(false,eval a X.env),(false,eval b X.env)]:=by rfl)(hs2:Ax [b] X.env=[(false,eval b X.env)]:=by rfl):
  PI X (.Tuple elts kk tpos) (.Call (.Name "zip" p) [a,b] [] pos) (iZipL X.K ta):=by
 intro pins s σ H R I h;refine Call_ (q5b I hg hm (by decide +kernel:Gv "zip" = some (.type "zip")) (Dg (thn (ha pos pins s σ H _ I h) fun us s1 ⟨vs,H1,I1,r1,q1⟩=>?_) (by rw[hs,hs2]) (by rw[hs2];rfl)));obtain⟨l1,l2,xs,ys,e,hx,hy,q⟩:=q1;subst e;obtain⟨u,v,rfl,r1,r2⟩:=r1.two;cases r1;cases r2;obtain⟨its,rv,pl,_⟩:=I1.list hx;obtain⟨its2,rv2,pl2,_⟩:=I1.list hy;exact call_zip_2 pl.isList pl2.isList fun h' a1 a2 a3 a4 a5 a6 a7=>z3g I1 (q6a l1 _) (q6a l2 _) a1 a2 a3 a4 a5 a7 q
theorem q9w{J:It}{g:TG}{tb:TS}{D:Ends}(Pv:Nat->St->Hp->Prop)(h0:Pv 0 σ H)(hgo:∀i σ H,i<n->Pv i σ H->J.go i H)(hstop:∀σ H,Pv n σ H->J.stop n H)(hs:∀i x σ H H',i<n->Pv i σ H->J.yld i H x H'->g x σ H' fun σ2 H2=>tb { D with nx:=Pv (i+1),ct:=Pv (i+1),bk:=D.nx } σ2 H2)(hd:∀σ H,Pv n σ H->D.nx σ H):
  ∃W:Nat->Nat->St->Hp->Prop,(∃m,W 0 m σ H)/\∀i m σ H,W i m σ H ->
   (J.stop i H/\D.nx σ H)\/(J.go i H/\∃N:St->Hp->Prop,(∀σ' H',N σ' H'->∃m',m'<m/\W (i+1) m' σ' H')/\∀x H',J.yld i H x H'->g x σ H' fun σ2 H2=>tb { D with nx:=N,ct:=N,bk:=D.nx } σ2 H2):=by
 refine⟨fun i m σ H=>m=n-i/\i<=n/\Pv i σ H,⟨n,by simp,Be _,h0⟩,?_⟩;rintro i m σ H ⟨rfl,hi,p⟩;by_cases hlt:i<n
 ·exact .inr ⟨hgo i σ H hlt p,Pv (i+1),fun σ' H' p'=>⟨n-(i+1),by lia,rfl,hlt,p'⟩,fun x H' y=>hs i x σ H H' hlt p y⟩
 ·grind
theorem x0a{K:Mp}{g:TG}{tb:TS}{D:Ends}(Pv:Nat->St->Hp->Prop)(h0:Pv 0 σ H)(hl:∀i σ H,Pv i σ H->SqL K H a xs/\SqL K H b ys)(hs:∀i x y T σ H,xs[i]?=some x->ys[i]?=some y->Pv i σ H->H T=none->g (.ref T) σ (upd H T (.tup [x,y])) fun σ2 H2=>tb { D with nx:=Pv (i+1),ct:=Pv (i+1),bk:=D.nx } σ2 H2)(hd:∀σ H,Pv (min xs.length ys.length) σ H->D.nx σ H):
  ∃W:Nat->Nat->St->Hp->Prop,(∃m,W 0 m σ H)/\∀i m σ H,W i m σ H ->
   ((Itz (Itl K a) (Itl K b)).stop i H/\D.nx σ H)\/((Itz (Itl K a) (Itl K b)).go i H/\∃N:St->Hp->Prop,(∀σ' H',N σ' H'->∃m',m'<m/\W (i+1) m' σ' H')/\∀v H',(Itz (Itl K a) (Itl K b)).yld i H v H'->g v σ H' fun σ2 H2=>tb { D with nx:=N,ct:=N,bk:=D.nx } σ2 H2):=by
 refine q9w Pv h0 (fun i σ H h p=>⟨?_,?_⟩) (fun σ H p=>?_) (fun i v σ H H' h p yl=>?_) hd
 ·exact⟨xs,xs[i]'(by lia),(hl i σ H p).1,by simp⟩
 ·exact⟨ys,ys[i]'(by lia),(hl i σ H p).2,by simp⟩
 ·by_cases hxy:xs.length<=ys.length
  ·exact .inl ⟨xs,(hl _ σ H p).1,by lia⟩
  ·exact .inr ⟨⟨xs,xs[min xs.length ys.length]'(by lia),(hl _ σ H p).1,by simp⟩,ys,(hl _ σ H p).2,by lia⟩
 ·obtain⟨T,x1,x2,hT,⟨_,y1⟩,⟨_,y2⟩,rfl,rfl⟩:=yl;exact hs i x1 x2 T σ H (y1 xs (hl i σ H p).1) (y2 ys (hl i σ H p).2) p hT
end
open PySem PySem.Spec PyProof.Rows
structure Cal (P:Program) (w:World) (K:Ah) (mg:Str->Option Value) (base:Heap) (x:Str) (k:Nat) (ps:List Str) (sp:Sp):Prop where
 ex:∃f fd,FnOk P w K mg base CX0 k f fd ps sp/\mg x=some (.ref f)/\Fh K (.ref f)=true/\Binds K fd ps []
structure Df (K:Ah) (mg:Str->Option Value) (x:Str) (st:Stmt) (ps:List Str):Prop where
 ex:∃f fd,Fun K x x st f fd/\mg x=some (.ref f)/\Binds K fd ps []
theorem Df.cal{K:Ah}{st:Stmt}(D:Df K mg x st ps)(S:FnScope N ps (defScope st))(len:∀vs H Q E,sp vs H Q E->vs.length=ps.length)(hbody:∀(f:Addr) (cdv:Value) (A:Around) (outer:List Env) (s:Af) (H:Hp) (vs:List V) (Q:VK) (E:XK),Room k (A.deeper (Gp x (defScope st) s.heap.objs.size f cdv))->sp vs H Q E ->
   ∃t,PSs (cxOf CX0 P w K mg base N x (defScope st) f cdv A outer s H E).nox (defBody st) t/\t { nx:=fun _ H'=>Q .non H',rt:=Q } (start N vs) H):Cal P w K mg base x (k+1) ps sp:=by
 obtain⟨f,fd,F,hm,hb⟩:=D.ex;exact⟨f,fd,F.ok S len fun cdv A outer s H vs Q E hr h=>hbody f cdv A outer s H vs Q E hr h,hm,F.kp,hb⟩
section
variable{X:Cx}{x:Str}{k j:Nat}{ps:List Str}{sp:Sp}{p pos:Pos}{e:Expr}{es:List Expr}{t:TA}
theorem pe_c(C:Cal X.prog X.w X.K X.mg X.base x k ps sp)(hr:Room j X.A)(ha:PA X (e::es) t)(hjk:k<=j:=by decide)(hg:Gl X x:=by rfl)(hdb:(x==("__debug__" : Str))=false:=by decide)(he:Ax (e::es) X.env=(false,eval e X.env)::Ax es X.env:=by rfl)(hpl:(Em pos (Ax es X.env)).any (·.1)=false:=by rfl):
  PE X (.Call (.Name x p) (e::es) [] pos) (tCall sp [] E0 t):=by
 obtain⟨f,fd,F,hm,hk,hb⟩:=C.ex;exact x3n F (hr.mono hjk) hg hm hk hb .nil pass0 ha hdb he hpl
theorem pe_c0(C:Cal X.prog X.w X.K X.mg X.base x k ps sp)(hr:Room j X.A)(hjk:k<=j:=by decide)(hg:Gl X x:=by rfl)(hdb:(x==("__debug__" : Str))=false:=by decide):
  PE X (.Call (.Name x p) [] [] pos) (tCall sp [] E0 tNil):=by
 obtain⟨f,fd,F,hm,hk,hb⟩:=C.ex;exact z9o F (hr.mono hjk) hg hm hk hb .nil pass0 hdb
end
theorem PI.or(h1:PI X tg l w1)(h2:PI X tg l w2):PI X tg l (fun σ H R=>w1 σ H R\/w2 σ H R):=by
 intro pins s σ H R I h;rcases h with h|h
 ·exact h1 pins s σ H R I h
 ·exact h2 pins s σ H R I h
structure FeedAt (H:Hp) (a b:Addr):Prop where
 fa:∃i j:Int,H a=some (.lst [.ref b,.int i,.int j])
 fb:∃ns:List Int,H b=some (.lst (ns.map V.int))
structure Fd (a b:Addr) (H H':Hp):Prop where
 feed:FeedAt H' a b
 keep:∀c o,H c=some o->c≠a->H' c=some o
theorem FeedAt.ne(F:FeedAt H a b):b≠a:=by
 obtain⟨⟨i,j,h⟩,ns,h'⟩:=F;refine z5r h' h ?_;intro z;cases ns with
 |nil=>cases z
 |cons n r=>simp at z
theorem Fd.refl(F:FeedAt H a b):Fd a b H H:=⟨F,fun _ _ h _=>h⟩
theorem Fd.trans(x:Fd a b H H1)(y:Fd a b H1 H2):Fd a b H H2:=⟨y.feed,fun c o h hc=>y.keep c o (x.keep c o h hc) hc⟩
theorem Fd.free(x:Fd a b H H')(h:H' p=none):H p=none:=by
 cases e:H p with
 |none=>rfl
 |some o =>
  by_cases hp:p=a
  ·subst hp;obtain⟨i,j,q⟩:=x.feed.fa;rw[h] at q;cases q
  ·rw[x.keep p o e hp] at h;cases h
theorem FeedAt.upd(F:FeedAt H a b)(ha:a≠p)(hb:b≠p):FeedAt (upd H p o) a b :=
 ⟨let ⟨i,j,h⟩:=F.fa;⟨i,j,by rw[q0f ha];exact h⟩,let ⟨ns,h⟩:=F.fb;⟨ns,by rw[q0f hb];exact h⟩⟩
theorem FeedAt.na(F:FeedAt H a b)(h:H p=none):a≠p:=by obtain⟨i,j,q⟩:=F.fa;exact q0n q h
theorem FeedAt.nb(F:FeedAt H a b)(h:H p=none):b≠p:=by obtain⟨ns,q⟩:=F.fb;exact q0n q h
theorem Fd.put(x:Fd a b H H')(F:FeedAt H a b)(h:H p=none):Fd a b H (upd H' p o) :=
 ⟨x.feed.upd (F.na h) (F.nb h),fun c u e hc=>by rw[q0f (q0n e h)];exact x.keep c u e hc⟩
theorem Fd.new(x:Fd a b H H')(h:H' p=none):Fd a b H (upd H' p o) :=
 ⟨x.feed.upd (x.feed.na h) (x.feed.nb h),fun c u e hc=>by rw[q0f (q0n (x.keep c u e hc) h)];exact x.keep c u e hc⟩
theorem Fd.at(x:Fd a b H H')(h:H c=some o)(hc:c≠a):H' c=some o:=x.keep c o h hc
theorem Fd.same(x:Fd a b H H')(s:Same H' H2):Fd a b H H2 :=
 ⟨⟨let ⟨i,j,h⟩:=x.feed.fa;⟨i,j,s _ _ h⟩,let ⟨ns,h⟩:=x.feed.fb;⟨ns,s _ _ h⟩⟩,fun c o e hc=>s _ _ (x.keep c o e hc)⟩
theorem Same.new(s:Same H H')(h:H' p=none):Same H (upd H' p o):=fun c u e=>by rw[q0f (q0n (s c u e) h)];exact s c u e
theorem Same.put(s:Same H H')(h:H p=none):Same H (upd H' p o):=fun c u e=>by rw[q0f (q0n e h)];exact s c u e
def spDraw:Sp:=fun vs H Q _=>∃a b m,vs=[.ref a,.int m]/\FeedAt H a b/\0<m/\m<1073741824/\∀(r:Int) H',0<=r->r<m->Fd a b H H'->Q (.int r) H'
def spConst(x:Str):Sp:=fun vs H Q _=>vs=[]/\Q (.str x) H
theorem x3u{xs:List α}(i:Int)(h:xs≠[]):∃x,x∈xs/\atI xs (i%(xs.length:Int))=some x:=by
 have hl:0<(xs.length:Int):=by
  cases xs with
  |nil=>exact absurd rfl h
  |cons a r=>grind
 have h0:=Mx i (show(xs.length:Int)≠0 by lia);have h1:=Ko i hl;have hn:(i%(xs.length:Int)).toNat<xs.length:=by lia
 unfold atI ixN;rw[if_pos h0,if_pos h1];simp[hn]
theorem z6t{xs:List α}(h0:0<=i)(h1:i<(xs.length:Int)):∃x,xs[i.toNat]?=some x/\atI xs i=some x:=by
 have hn:i.toNat<xs.length:=by lia
 unfold atI ixN;rw[if_pos h0,if_pos h1];simp[hn]
open PySem PySem.Spec PyProof.Rows
mutual
inductive Dt (K : Ah) (H : Hp) : V → PyData → Prop
  | non : Dt K H .non .none
  | bl (b : Bool) : Dt K H (.bl b) (.bool b)
  | int (i : Int) : Dt K H (.int i) (.int i)
  | str (x : Str) : Dt K H (.str x) (.str x)
  | lst {a : Addr} {xs : List V} {ds : List PyData} : SqL K H a xs → Dts K H xs ds → Dt K H (.ref a) (.list ds)
  | tup {a : Addr} {xs : List V} {ds : List PyData} : SqT K H a xs → Dts K H xs ds → Dt K H (.ref a) (.tuple ds)
inductive Dts (K : Ah) (H : Hp) : List V → List PyData → Prop
  | nil : Dts K H [] []
  | cons {x : V} {xs : List V} {d : PyData} {ds : List PyData} : Dt K H x d → Dts K H xs ds → Dts K H (x :: xs) (d :: ds)
end
section
variable{X:Cx}{pins:List (Addr×Obj)}{σ:St}{H:Hp}{s:Af}
mutual
theorem Dt.reads (I : Inv X pins σ H s) : ∀ {x : V} {d : PyData} {u : Value}, Dt X.K H x d → RelV x u → ∃ as, Reads s.heap u d as
  | _, _, _, .non, r => by cases r; exact ⟨_, .none⟩
  | _, _, _, .bl b, r => by cases r; exact ⟨_, .bool b⟩
  | _, _, _, .int i, r => by obtain ⟨t, rfl⟩ := r; exact ⟨_, .int i t⟩
  | _, _, _, .str x, r => by obtain ⟨t, rfl⟩ := r; exact ⟨_, .str x t⟩
  | _, _, _, .lst q ds, r => by
    cases r
    obtain ⟨its, rv, ⟨o, n, e, c, _, d⟩, _⟩ := I.list q
    obtain ⟨as, h⟩ := Dts.reads I ds rv
    exact ⟨_, .list e c d (by simpa using h)⟩
  | _, _, _, .tup q ds, r => by
    cases r
    obtain ⟨its, rv, ⟨o, e, c, n, d⟩, _⟩ := I.tuple q
    obtain ⟨as, h⟩ := Dts.reads I ds rv
    exact ⟨_, .tuple e c d (by simpa using h)⟩
theorem Dts.reads (I : Inv X pins σ H s) : ∀ {xs : List V} {ds : List PyData} {us : List Value}, Dts X.K H xs ds → Vals xs us → ∃ as, ReadsAll s.heap us ds as
  | _, _, _, .nil, .nil => ⟨_, .nil⟩
  | _, _, _, .cons d ds, .cons r rs => by
    obtain ⟨as, h⟩ := Dt.reads I d r
    obtain ⟨bs, h'⟩ := Dts.reads I ds rs
    exact ⟨_, .cons h h'⟩
end
end
section
variable{X:Cx}{k:Nat}
def rEqD(K:Ah):R2:=fun x y H Q=>∃d e,Dt K H x d/\Dt K H y e/\d.canLay0=true/\e.canLay0=true/\min d.depth e.depth<=100/\Q (.bl (Ft d e)) H
def rNeD(K:Ah):R2:=fun x y H Q=>∃d e,Dt K H x d/\Dt K H y e/\d.canLay0=true/\e.canLay0=true/\min d.depth e.depth<=100/\Q (.bl (!PyData.eqv d e)) H
theorem op_eqD(hr:Room k X.A):OpR X (Cg .Eq) (rEqD X.K):=by
 intro pins s σ H x y v u Q I rx ry h;obtain⟨d,e,hd,he,cd,ce,hm,q⟩:=h;obtain⟨as,r1⟩:=hd.reads I rx;obtain⟨bs,r2⟩:=he.reads I ry;have hu:=hr.un;exact SeqAt.rcAt_reads r1 r2 cd ce (by lia) X.prog X.w X.xe _ ⟨.bl _,H,I,rfl,q⟩
theorem op_neD(hr:Room k X.A):OpR X (Cg .NotEq) (rNeD X.K):=by
 intro pins s σ H x y v u Q I rx ry h;obtain⟨d,e,hd,he,cd,ce,hm,q⟩:=h;obtain⟨as,r1⟩:=hd.reads I rx;obtain⟨bs,r2⟩:=he.reads I ry;have hu:=hr.un;exact SeqAt.rcNeAt_reads r1 r2 cd ce (by lia) X.prog X.w X.xe _ ⟨.bl _,H,I,rfl,q⟩
def rAddU:R2:=fun x y H Q=>(∃i j,x=.int i/\y=.int j/\Q (.int (i+j)) H)\/(∃i j,x=.str i/\y=.str j/\i.length+j.length<=sizeLine/\Q (.str (i++j)) H)\/rCat x y H Q
theorem q0m:OpR X (Ga .Add) rAddU:=op_add.or (op_add_str.or op_cat)
def rMulU:R2:=fun x y H Q=>(∃i j,x=.int i/\y=.int j/\CMul i j/\Q (.int (i*j)) H)\/rMulS x y H Q\/rRep x y H Q
theorem z1z:OpR X (Ga .Mult) rMulU:=op_mul.or (op_mulS.or op_rep)
def rEqU(K:Ah):R2:=fun x y H Q=>rEq x y H Q\/rEqD K x y H Q
theorem op_eqU(hr:Room k X.A):OpR X (Cg .Eq) (rEqU X.K):=op_eq.or (op_eqD hr)
def rNeU(K:Ah):R2:=fun x y H Q=>rNe x y H Q\/rNeD K x y H Q
theorem op_neU(hr:Room k X.A):OpR X (Cg .NotEq) (rNeU X.K):=op_ne.or (op_neD hr)
def rInU(K:Ah):R2:=fun x y H Q=>(∃i j,x=.str i/\y=.str j/\Q (.bl (!(Gm j i 0 j.length 1).isEmpty)) H)\/rIn K false x y H Q
theorem op_inU:OpR X (Cg .In) (rInU X.K):=op_in_str.or z6i
def rNinU(K:Ah):R2:=fun x y H Q=>(∃i j,x=.str i/\y=.str j/\Q (.bl (!(!(Gm j i 0 j.length 1).isEmpty))) H)\/rIn K true x y H Q
theorem x3v:OpR X (Cg .NotIn) (rNinU X.K):=op_notIn_str.or q9q
def rSlU(K:Ah):V->Option Int->Option Int->Hp->VK->Prop:=fun x lo hi H Q=>rSlS x lo hi H Q\/rSlL K x lo hi H Q\/rSlT K x lo hi H Q
theorem sl_U:SlR X (rSlU X.K):=sl_str.or (sl_list.or x2e)
def iAny(K:Ah)(tl:TE):TI:=fun σ H R=>tl σ H fun x H1=>(∃a,x=.ref a/\(∃xs,SqL K H1 a xs)/\R (Itl K a) H1)\/(∃a,x=.ref a/\(∃xs,SqT K H1 a xs)/\R (Itt K a) H1)\/∃z,x=.str z/\R (Its z) H1
theorem pi_any(hl:PE X l tl):PI X tg l (iAny X.K tl):=by
 intro pins s σ H R I h;refine thn (hl pins s σ H _ I h) fun v s1 ⟨x,H1,I1,r1,q1⟩=>?_;have fp:∀b∈[s1.heap.objs.size],FpOk X pins H1 b:=fun b hb=>by
  have e:b=s1.heap.objs.size:=by grind
  subst e;exact I1.fpOk (Aj _) (I1.hok.fresh (Aj _))
 rcases q1 with⟨a,e,⟨xs,hq⟩,q⟩|⟨a,e,⟨xs,hq⟩,q⟩|⟨z,e,q⟩
 ·subst e;cases r1;obtain⟨its,rv,p,hz⟩:=I1.list hq;exact Ow p.isList ⟨s1.heap.objs.size,[s1.heap.objs.size],_,_,H1,rfl,I1.kept (t':=s1.toks) fun b o e=>Ae _ e,z5v a _,⟨_,Ak _ rfl,rfl,rfl⟩,fp,q⟩
 ·subst e;cases r1;obtain⟨its,rv,p,hz⟩:=I1.tuple hq;exact wpAny_pyIter_tuple (show s1.heap.IsTuple a its.toArray from p) ⟨s1.heap.objs.size,[s1.heap.objs.size],_,_,H1,rfl,I1.kept (t':=s1.toks) fun b o e=>Ae _ e,z4h a _,⟨_,Ak _ rfl,rfl,rfl⟩,fp,q⟩
 ·subst e;obtain⟨t,rfl⟩:=r1;cases ha:z.cps.all (· < 128)
  ·exact wpAny_pyIter_wide ha ⟨s1.heap.objs.size,[s1.heap.objs.size],_,_,H1,rfl,I1.kept (t':=s1.toks) fun b o e=>Ae _ e,z6q _ z t,⟨Be _,_,Ak _ rfl,rfl,rfl⟩,fp,q⟩
  ·exact wpAny_pyIter_ascii ha ⟨s1.heap.objs.size,[s1.heap.objs.size],_,_,H1,rfl,I1.kept (t':=s1.toks) fun b o e=>Ae _ e,z6p _ z t,⟨Be _,_,Ak _ rfl,rfl,rfl⟩,fp,q⟩
def iZip(K:Ah)(ta:TA):TI:=fun σ H R=>iZipS ta σ H R\/iZipL K ta σ H R
theorem pi_zip{elts:List Expr}{kk:Nat}{tpos:Pos}{p pos:Pos}(hg:Gl X "zip")(hm:X.mg "zip" = none)(ha:PA X [a,b] ta)(hs:Ax [a,b] X.env=[(false,eval a X.env),(false,eval b X.env)]:=by rfl)(hs2:Ax [b] X.env=[(false,eval b X.env)]:=by rfl):
  PI X (.Tuple elts kk tpos) (.Call (.Name "zip" p) [a,b] [] pos) (iZip X.K ta):=(x3s hg hm ha hs hs2).or (x3t hg hm ha hs hs2)
end
open PySem PySem.Spec PyProof.Rows
section
variable{X:Cx}{a b o e l:Expr}{es:List Expr}{ta tb to te tl:TE}{t:TA}{pos p2 apos cpos:Pos}{k:Nat}{name:Str}{T idn:String}{r:V->List V->Hp->VK->Prop}
theorem ix_k(K:Ah)(hK:X.K=K):IxR X (rIx K):=by subst hK;exact ix_seq
theorem q1z(K:Ah)(hK:X.K=K):CallR X (.builtin "len") (fun xs H Q=>∃x n,xs=[x]/\LenV K x H n/\Q (.int n) H):=by subst hK;exact z9l
theorem eq_k(K:Ah)(hK:X.K=K)(hr:Room k X.A):OpR X (Cg .Eq) (rEqU K):=by subst hK;exact op_eqU hr
theorem ne_k(K:Ah)(hK:X.K=K)(hr:Room k X.A):OpR X (Cg .NotEq) (rNeU K):=by subst hK;exact op_neU hr
theorem in_k(K:Ah)(hK:X.K=K):OpR X (Cg .In) (rInU K):=by subst hK;exact op_inU
theorem x3w(K:Ah)(hK:X.K=K):OpR X (Cg .NotIn) (rNinU K):=by subst hK;exact x3v
theorem sl_k(K:Ah)(hK:X.K=K):SlR X (rSlU K):=by subst hK;exact sl_U
theorem q6x{tg:Expr}(K:Ah)(hK:X.K=K)(hl:PE X l tl):PI X tg l (iAny K tl):=by subst hK;exact pi_any hl
theorem zip_k{elts:List Expr}{kk:Nat}{tpos:Pos}{p:Pos}(K:Ah)(hK:X.K=K)(hg:Gl X "zip")(hm:X.mg "zip" = none)(ha:PA X [a,b] t)(hs:Ax [a,b] X.env=[(false,eval a X.env),(false,eval b X.env)]:=by rfl)(hs2:Ax [b] X.env=[(false,eval b X.env)]:=by rfl):
  PI X (.Tuple elts kk tpos) (.Call (.Name "zip" p) [a,b] [] pos) (iZip K t):=by subst hK;exact pi_zip hg hm ha hs hs2
theorem all_k(K:Ah)(hK:X.K=K)(hc:X.calm=true):CallR X (.builtin "all") (fun xs H Q=>∃(p:Addr) (bs:List Bool),xs=[.ref p]/\SqL K H p (bs.map V.bl)/\Q (.bl (bs.all id)) H):=by subst hK;exact z9w hc
theorem list_k(K:Ah)(hK:X.K=K):CallR X (.type "list") (fun xs H Q=>∃p ys,xs=[.ref p]/\(SqL K H p ys\/SqT K H p ys)/\∀l,H l=none->Q (.ref l) (upd H l (.lst ys))):=by subst hK;exact q9r
theorem x3x(K:Ah)(hK:X.K=K):CallR X (.type "tuple") (fun xs H Q=>∃p ys,xs=[.ref p]/\((SqL K H p ys/\∀l,H l=none->Q (.ref l) (upd H l (.tup ys)))\/(SqT K H p ys/\Q (.ref p) H))):=by subst hK;exact q7z
theorem join_k(K:Ah)(hK:X.K=K):MtM X "str.join" (rJoin K):=by subst hK;exact x3r
theorem q2n{kk n:Nat}{u:TGs}(K:Ah)(hK:X.K=K)(hc:X.calm=true)(h:PGs X es u)(hn:(Jf es X.env).length=n:=by rfl)(hst:(Jf es X.env).findIdx? (·.1)=none:=by rfl):PG X (.Tuple es kk pos) (gTup K n u):=by subst hK;exact pg_tup hc h hn hst
theorem bm_k(K:Ah)(hK:X.K=K)(pa:Sb T)(slot:Slot T name idn)(hty:typeOf (.builtin idn)=pure (.type "method_descriptor"))(hm:MtR X idn r)(ho:PE X o to)(ha:PA X (e::es) t)(hbase:Gi o name X.env (eval o X.env)=eval o X.env:=by rfl)(hfew:((Em cpos (Ax (e::es) X.env)).all (fun x => !x.1)&&(Ly cpos (Io [] X.env)).all (fun x=>x.1.isSome)
   && decide ((e::es).length+([]:List Rh).length+(if ([]:List Rh).isEmpty then 0 else 1)<30))=true:=by rfl)(hline:(apos.endLine==cpos.line)=true:=by rfl)(hs:Ax (e::es) X.env=(false,eval e X.env)::Ax es X.env:=by rfl)(hplain:(Em cpos (Ax es X.env)).any (·.1)=false:=by rfl):
  PE X (.Call (.Attribute o name apos) (e::es) [] cpos) (tBM K T r to t):=by subst hK;exact pe_bm pa slot hty hm ho ha hbase hfew hline hs hplain
theorem z2a(K:Ah)(hK:X.K=K)(pa:Sb T)(slot:Slot T name idn)(hty:typeOf (.builtin idn)=pure (.type "method_descriptor"))(hm:MtR X idn r)(ho:PE X o to)(hbase:Gi o name X.env (eval o X.env)=eval o X.env:=by rfl)(hline:(apos.endLine==cpos.line)=true:=by rfl):PE X (.Call (.Attribute o name apos) [] [] cpos) (tBM0 K T r to):=by subst hK;exact pe_bm0 pa slot hty hm ho hbase hline
theorem z2b(K:Ah)(hK:X.K=K)(ha:PE X a ta)(he:∀whole,isTrue a X.env whole=(do let v<-whole;Nj a.pos;Jq [v] (truthy v))):
  PT X a (fun σ H Q=>ta σ H fun x H'=>∃k,TruV K x H' k/\Q k H'):=by subst hK;exact z9k ha he
end
theorem q6b{lo:Int}{r:St}{Fin:List V->Hp->Prop}(Pv:Nat->List V->Hp->Prop)(h0:Pv 0 [] (upd H1 D (.lst [])))(hl:∀i ys H,Pv i ys H->H D=some (.lst ys))(hs:∀i ys H,i<n->Pv i ys H->te (some (.int (lo+i))::r) H fun v H4=>H4 D=some (.lst ys)/\ys.length<sizeLine/\Pv (i+1) (ys++[v]) (upd H4 D (.lst (ys++[v]))))(hd:∀ys H,Pv n ys H->Fin ys H):CompW (Itr lo n) (gName 0) tIf0 te (none::r) D Fin H1 :=
 z4v Pv h0 hl (fun i ys H h p=>(⟨q4t,iteT (hs i ys H h p)⟩:Keeps0 (none::r) (some (.int (lo+i))::r)/\if true=true then te (some (.int (lo+i))::r) H fun v H4=>H4 D=some (.lst ys)/\ys.length<sizeLine/\Pv (i+1) (ys++[v]) (upd H4 D (.lst (ys++[v]))) else Pv (i+1) ys H)) hd
theorem z6u{r:St}{Fin:List V->Hp->Prop}(Pv:Nat->List V->Hp->Prop)(h0:Pv 0 [] (upd H1 D (.lst [])))(hl:∀i ys H,Pv i ys H->H D=some (.lst ys))(hs:∀i ys H c,z.cps[i]?=some c->Pv i ys H->te (some (.str ⟨#[c]⟩)::r) H fun v H4=>H4 D=some (.lst ys)/\ys.length<sizeLine/\Pv (i+1) (ys++[v]) (upd H4 D (.lst (ys++[v]))))(hd:∀ys H,Pv z.length ys H->Fin ys H):CompW (Its z) (gName 0) tIf0 te (none::r) D Fin H1 :=
 z9x Pv h0 hl (fun i ys H c h p=>(⟨q4t,iteT (hs i ys H c h p)⟩:Keeps0 (none::r) (some (.str ⟨#[c]⟩)::r)/\if true=true then te (some (.str ⟨#[c]⟩)::r) H fun v H4=>H4 D=some (.lst ys)/\ys.length<sizeLine/\Pv (i+1) (ys++[v]) (upd H4 D (.lst (ys++[v]))) else Pv (i+1) ys H)) hd
theorem z6v{K:Ah}{r:St}{Fin:List V->Hp->Prop}(Pv:Nat->List V->Hp->Prop)(h0:Pv 0 [] (upd H1 D (.lst [])))(hl:∀i ys H,Pv i ys H->H D=some (.lst ys)/\SqT K H a xs)(hs:∀i ys H x,xs[i]?=some x->Pv i ys H->te (some x::r) H fun v H4=>H4 D=some (.lst ys)/\ys.length<sizeLine/\Pv (i+1) (ys++[v]) (upd H4 D (.lst (ys++[v]))))(hd:∀ys H,Pv xs.length ys H->Fin ys H):CompW (Itt K a) (gName 0) tIf0 te (none::r) D Fin H1 :=
 z9u Pv h0 hl (fun i ys H x h p=>(⟨q4t,iteT (hs i ys H x h p)⟩:Keeps0 (none::r) (some x::r)/\if true=true then te (some x::r) H fun v H4=>H4 D=some (.lst ys)/\ys.length<sizeLine/\Pv (i+1) (ys++[v]) (upd H4 D (.lst (ys++[v]))) else Pv (i+1) ys H)) hd
def tSeqJ(t u:TS):TS:=fun D σ H=>∃J:St->Hp->Prop,(∀σ' H',J σ' H'->u D σ' H')/\t { D with nx:=J } σ H
theorem q3d{X:Cx}{st:Stmt}{rest:List Stmt}{t u:TS}(h1:PS X st t)(h2:PSs X rest u):PSs X (st::rest) (tSeqJ t u):=by
 intro pins s σ H D I h;obtain⟨J,hJ,h⟩:=h;refine Pl (thn (h1 pins s σ H { D with nx:=J } I h) fun f s1 q=>?_);cases f with
 |next =>
  obtain⟨σ',H',I',q⟩:=q;exact h2 pins s1 σ' H' D I' (hJ σ' H' q)
 |ret v=>exact q
 |brk=>exact q
 |cont=>exact q
def tVJ(t:TE):TE:=fun σ H Q=>∃J:VK,(∀v H',J v H'->Q v H')/\t σ H J
theorem pe_j{X:Cx}{e:Expr}{t:TE}(h:PE X e t):PE X e (tVJ t):=by
 intro pins s σ H Q I hw;obtain⟨J,hJ,hw⟩:=hw;exact thn (h pins s σ H J I hw) fun u s' ⟨v,H',I',r,q⟩=>⟨v,H',I',r,hJ v H' q⟩
def tTJ(t:TT):TT:=fun σ H Q=>∃J:Bool->Hp->Prop,(∀b H',J b H'->Q b H')/\t σ H J
theorem pt_j{X:Cx}{e:Expr}{t:TT}(h:PT X e t):PT X e (tTJ t):=by
 intro pins s σ H Q I hw;obtain⟨J,hJ,hw⟩:=hw;exact thn (h pins s σ H J I hw) fun u s' ⟨H',I',q⟩=>⟨H',I',hJ u H' q⟩
theorem iteB{B:Prop}(hA:c=true->A)(hB:c=false->B):if c=true then A else B:=by grind
end L2
namespace TX
open PySem PySem.Spec PyProof.Rows L2
abbrev tl(x:Str):List Nat:=x.cps.toList
abbrev mk(l:List Nat):Str:=⟨l.toArray⟩
theorem q0y(l:List Nat):tl (mk l)=l:=by simp[tl,mk]
theorem z4w(x:Str):mk (tl x)=x:=by simp[tl,mk]
theorem ext(h:tl x=tl y):x=y:=ext_toList h
theorem len(x:Str):x.length=(tl x).length:=by simp[tl,Str.length]
theorem q4m(x y:Str):tl (x++y)=tl x++tl y:=by
 show(x.cps++y.cps).toList=_;simp[tl]
theorem app_len(x y:Str):(x++y).length=x.length+y.length:=by rw[len,len,len,q4m,Ai]
theorem get{i:Nat}(h:x.cps[i]?=some c):(tl x)[i]?=some c:=by simpa[tl] using h
theorem x3y(z:Str)(ts:List Str):Vi z ts=Sf z ts:=StrLaws.glued_eq_join z ts
theorem x3z:∀ts:List Str,tl (Vi (Ac "") ts)=(ts.map tl).flatten:=by
 intro ts;rw[x3y];induction ts with
 |nil=>rfl
 |cons a r ih =>
  cases r with
  |nil=>simp[Sf]
  |cons b r =>
   show tl (a++Ac "" ++ Sf (Ac "") (b::r))=_;rw[q4m,q4m,ih];have e:tl (Ac "")=[]:=by decide +kernel
   rw[e];simp
theorem z6w(cs:List Nat):Vi (Ac "") (cs.map fun c=>(⟨#[c]⟩:Str))=mk cs:=by
 apply ext;rw[x3z,q0y,Ck];induction cs with
 |nil=>rfl
 |cons c r ih=>rw[An,Ir,ih];rfl
theorem x0b(cs:List Nat):((cs.map fun c=>(⟨#[c]⟩:Str)).map (·.length)).sum=cs.length:=by
 induction cs with
 |nil=>rfl
 |cons c r ih=>rw[An,An,List.sum_cons,ih,Bf];show 1+_=_;lia
theorem z4x{i:Int}(h0:0<=i)(h1:i<=(tl x).length):Nz x (some i) none=mk ((tl x).drop i.toNat):=by
 show Gg x (some i) none=_;rw[StrLaws.sliceText_from ⟨h0,h1⟩];rw[Fp];rw[De];lia
theorem q7j(x:Str)(c:Nat):(!(Gm x ⟨#[c]⟩ 0 x.length 1).isEmpty)=decide (c∈tl x):=StrLaws.found_one x c
theorem lower(h:∀c∈tl x,c<128):tl (Txt.lower x)=(tl x).map lo1:=by
 rw[lower_ascii h];simp[tl]
theorem small(h:n<=1000000):n<=sizeLine:=by rw[Fe];lia
theorem small'(h:n<=1000000):n<sizeLine:=by rw[Fe];lia
end TX
namespace L2
open PySem PySem.Spec PyProof.Rows TX
def spText:Sp:=fun vs H Q _=>∃a b g n,vs=[.ref a,.str g,.int n]/\FeedAt H a b/\0<g.length/\g.length<=1000/\0<=n/\n<=1000 /\
 ∀(t:List Nat) H',t.length=n.toNat->(∀c∈t,c∈tl g)->Fd a b H H'->Q (.str (mk t)) H'
theorem q1q{α:Type}{l:List α}{x:α}(h:l[i]?=some x):l.take (i+1)=l.take i++[x]:=by
 rw[Hu,h];rfl
open PySem PySem.Spec PyProof.Rows
section
variable{prog:Program}{w:World}{K:Ah}{A:Around}{E:Value->Af->Prop}{s:Af}{J:It}{st:Nat->Heap->Prop}{e it:Addr}{H:Hp}
theorem z4y{i:Nat}{Q:Value->Af->Prop}(S:Srce prog w K J it st)(hh:A.handled=none)(vw:Vw K H s.heap)(nH:H it=none)(nK:K.lookup it=none)(he:IsEnum s.heap e it i old)(hst:st i s.heap)(go:J.go i H)(hne:e≠it)(hQ:∀u x h' tk,RelV x u->J.yld i H x H->IsEnumOut h' e it ((i:Int)+1) u s.heap.objs.size->st (i+1) h'->h'.get? s.heap.objs.size=some { cls:=.type "tuple",data:=.seq #[.int i tk,u] }->h'.objs.size=s.heap.objs.size+1 ->
   (∀b o,b≠e->b≠it->s.heap.get? b=some o->h'.get? b=some o)->Q (.ref s.heap.objs.size) { s with heap:=h',toks:=tk+1 }):
  wpAny (model prog w) A (Cv.«enumerate.__next__» ⟨[.ref e],[]⟩) (fun fin s'=>∃v,fin=.done (.ret v)/\Q v s') E s:=by
 obtain⟨hp,g,d,tk₀,os⟩:=s;show wpAny _ _ (field (.ref e) 2 >>= _) _ _ _;refine Ab (Bp he rfl rfl ?_);refine Ab (S.item _ i _ H _ _ hh vw nH nK hst go fun u x h₁ tk rx yx st₁ hs₁=>?_);have he₁:=(hs₁.2 e hne).trans he;refine Ab (Bp he₁ rfl rfl ?_);refine Ab (Bp he₁ rfl rfl ?_);refine Ab (wpAny_mkInt ?_);refine Ab (Ct he₁ (by simp) fun h₂ he₂ hs₂=>?_);refine Ab (Ct he₂ (by simp) fun h₃ he₃ hs₃=>?_);refine Ab (Nl ?_);have he₄:IsEnum (h₃.push { cls:=.type "tuple",data:=.seq #[.int i tk,u] }) e it ((i:Int)+1) old:=Ae _ he₃;generalize hh₄:h₃.push { cls:=.type "tuple",data:=.seq #[.int i tk,u] }=h₄ at he₄;have hsz:h₃.objs.size=hp.objs.size:=by rw[hs₃.1,hs₂.1,hs₁.1]
 have hel:=Al he;have ht₄:h₄.get? hp.objs.size=some { cls:=.type "tuple",data:=.seq #[.int i tk,u] }:=by rw[<- hh₄,<- hsz];exact Ak _ rfl
 have hz₄:h₄.objs.size=hp.objs.size+1:=by rw[<- hh₄,Fx,hsz]
 have hk₄:∀b o,b≠e->b≠it->hp.get? b=some o->h₄.get? b=some o:=fun b o hbe hbi hb=>by
  rw[<- hh₄];exact Ae _ (hs₃.extBut b o hbe (hs₂.extBut b o hbe (hs₁.extBut b o hbi hb)))
 have hit₄:st (i+1) h₄:=S.keep _ _ _ st₁ fun o y=>by
  rw[<- hh₄];exact Ae _ (hs₃.extBut it o hne.symm (hs₂.extBut it o hne.symm y))
 rw[hsz];refine Ab ?_;refine Ab (Bp he₄ rfl rfl (Ad ?_));refine Ab (Ff ?_);refine Ab (Bp he₄ rfl rfl ?_);refine Ab (Ct he₄ (by simp) fun h₅ he₅ hs₅=>?_);refine Ab ?_;refine Ab (Ct he₅ (by simp) fun h₆ he₆ hs₆=>?_);refine Ct he₆ (by simp) fun h₇ he₇ hs₇=>?_;have up:=fun b o hb y=>hs₇.extBut b o hb (hs₆.extBut b o hb (hs₅.extBut b o hb y));refine Ab (Nu (Ad ⟨_,rfl,hQ u x h₇ tk rx yx he₇ (S.keep _ _ _ hit₄ fun o y=>up _ o hne.symm y) (up _ _ (Dk hel) ht₄) ?_ fun b o hbe hbi hb=>up b o hbe (hk₄ b o hbe hbi hb)⟩));rw[hs₇.1,hs₆.1,hs₅.1,hz₄]
end
def Ite(J:It):It:=⟨fun i H=>J.go i H,fun i H x H'=>∃T y,H T=none/\J.yld i H y H/\x=.ref T/\H'=upd H T (.tup [.int i,y]),fun i H=>J.stop i H⟩
theorem z6x{K:Ah}{st:Nat->Heap->Prop}(hne:e≠it)(S:Srce P w K J it st):
  Turn P w K (.Tuple elts kk pos) (Ite J) [e,it] e (fun i h=>(∃old,IsEnum h e it i old)/\st i h) where
 mem:=by simp
 obj:=fun i h hs b hb=>by
  obtain⟨⟨old,he⟩,h1⟩:=hs;simp only[Bk,Ew,or_false] at hb;rcases hb with rfl|rfl
  ·grind
  ·exact S.obj i h h1
 keep:=fun i h h' hs k=>by
  obtain⟨⟨old,he⟩,h1⟩:=hs;exact⟨⟨old,k e (by simp) _ he⟩,S.keep _ _ _ h1 fun o y=>k it (by simp) o y⟩
 item:=by
  intro X hP hw hK hc i pins s σ H E I hf hs hg;subst hP hw hK;obtain⟨⟨old,he⟩,h1⟩:=hs;have hT:s.TypeIs (.ref e) "enumerate" := ⟨_,he,rfl⟩
  refine Ab (Eg (Cd hT Iy
   (Bq Iy hT Qu
    (z4y S (I.ok.hd hc) I.vw (hf it (by simp)).1 ((hf it (by simp)).noK I) he h1 hg hne fun u x h' tk rx yx a1 a2 a3 a4 a5=>Ad ?_) (Qe _))))
  refine⟨_,rfl,?_⟩;refine wpAny_letOwnedTupleGo_enum a1 fun h2 he2 hs2=>?_;have k2:∀c o,c∉[e,it]->s.heap.get? c=some o->h2.get? c=some o:=fun c o hcn y=>by
   simp only[Bk,Ew,or_false,not_or] at hcn;exact hs2.extBut _ _ hcn.1 (a5 c o hcn.1 hcn.2 y)
  have elt:=Al he;have ilt:it<s.heap.objs.size:=by obtain⟨o,y,_⟩:=S.obj _ _ h1;exact Al y
  have I1:Inv X pins σ H { s with heap:=h2,toks:=tk+1 }:=I.turnedL k2 hf;have FT:=I.fpOk (Aj _) I.fresh;have hT2:h2.get? s.heap.objs.size=some { cls:=.type "tuple",data:=.seq #[.int i tk,u] }:=hs2.extBut _ _ (Dk elt) a3;have I2:Inv X pins σ (upd H s.heap.objs.size (.tup [.int i,x])) { s with heap:=h2,toks:=tk+1 } :=
   I1.track I.sz FT ⟨by show 2<=sizeLine;decide,[.int i tk,u],.cons ⟨_,rfl⟩ (.cons rx .nil),⟨_,hT2,rfl,_,rfl⟩⟩
  refine⟨.ref s.heap.objs.size,_,I2,rfl,⟨_,x,I.fresh,yx,rfl,rfl⟩,⟨⟨u,by simpa using he2⟩,S.keep _ _ _ a2 fun o y=>hs2.extBut _ _ hne.symm y⟩,fun b hb=>?_⟩;have hb2:=(hf b hb).1;rw[q0f]
  ·exact hb2
  ·grind
 done:=by
  intro X hP hw hK hc i pins s σ H E I hf hs hg;subst hP hw hK;obtain⟨⟨old,he⟩,h1⟩:=hs;have hT:s.TypeIs (.ref e) "enumerate" := ⟨_,he,rfl⟩
  refine Ab (Eg (Cd hT Iy
   (Bq Iy hT Qu ?_ (Qe _))))
  show wpAny _ _ (field (.ref e) 2 >>= _) _ _ _;refine Ab (Bp he rfl rfl ?_);refine Ab (S.done _ i _ H _ _ (I.ok.hd hc) I.vw (hf it (by simp)).1 ((hf it (by simp)).noK I) h1 hg fun h' x he' hx'=>?_);obtain⟨o,ho,hcl⟩:=hx';refine Ab (Dz ⟨o,ho,hcl⟩ Kx ?_);refine Ad ⟨rfl,I.turnedL (t':=s.toks) (fun c o hcn y=>?_) hf⟩;simp only[Bk,Ew,or_false,not_or] at hcn;exact he' c o hcn.2 y
 self:=fun _ _ _ _ _ hs h=>by
  obtain⟨⟨old,he⟩,_⟩:=hs;exact Ur he h
section
variable{X:Cx}{elts:List Expr}{kk:Nat}{tpos:Pos}
theorem q9x{σ:St}{st:Nat->Heap->Prop}(I:Inv X pins σ H s)(S:Srce X.prog X.w X.K J s.heap.objs.size st)(he:IsEnum h' (s.heap.objs.size+1) s.heap.objs.size 0 .none)(h1:st 0 h')(hk:∀c o,s.heap.get? c=some o->h'.get? c=some o)(q:R (Ite J) H):
  wpAny (model X.prog X.w) X.A (Lm (.ref (s.heap.objs.size+1))) (PIE X pins σ (.Tuple elts kk tpos) R) E { s with heap:=h' }:=by
 refine Ur he ?_;refine⟨_,_,_,_,H,rfl,I.kept (t':=s.toks) hk,z6x (show(s.heap.objs.size+1:Nat)≠s.heap.objs.size by lia) S,⟨⟨_,he⟩,h1⟩,fun b hb=>?_,q⟩;have hb':s.heap.objs.size<=b:=by
  simp only[Bk,Ew,or_false] at hb;rcases hb with rfl|rfl
  ·exact Lo _
  ·exact Aj _
 exact I.fpOk hb' (I.hok.fresh hb')
def iEnum(K:Ah)(ta:TA):TI:=fun σ H R=>ta σ H fun vs H1=>(∃z,vs=[.str z]/\R (Ite (Its z)) H1)\/∃a xs,vs=[.ref a]/\SqL K H1 a xs/\R (Ite (Itl K a)) H1
theorem x4a(hg:Gl X "enumerate")(hm:X.mg "enumerate" = none)(ha:PA X [a] ta)(hs:Ax [a] X.env=[(false,eval a X.env)]:=by rfl):
  PI X (.Tuple elts kk tpos) (.Call (.Name "enumerate" p) [a] [] pos) (iEnum X.K ta):=by
 intro pins s σ H R I h;refine Call_ (q5b I hg hm (by decide +kernel:Gv "enumerate" = some (.type "enumerate")) (Dg (thn (ha pos pins s σ H _ I h) fun us s1 ⟨vs,H1,I1,r1,q1⟩=>?_) hs rfl));rcases q1 with⟨z,e,q⟩|⟨l,xs,e,hq,q⟩
 ·subst e;obtain⟨u,rfl,t,rfl⟩:=vals1 r1;exact call_enumerate_str fun h' he hi hz hk=>q9x I1 (q8e _ z t) he hi hk q
 ·subst e;obtain⟨u,rfl,r⟩:=vals1 r1;cases r;obtain⟨its,rv,pl,_⟩:=I1.list hq;exact call_enumerate_list pl.isList fun h' he hi hz hk=>q9x I1 (q6a l _) he hi hk q
theorem z3h{a:Expr}{ta:TA}{p pos:Pos}(K:Ah)(hK:X.K=K)(hg:Gl X "enumerate")(hm:X.mg "enumerate" = none)(ha:PA X [a] ta)(hs:Ax [a] X.env=[(false,eval a X.env)]:=by rfl):
  PI X (.Tuple elts kk tpos) (.Call (.Name "enumerate" p) [a] [] pos) (iEnum K ta):=by subst hK;exact x4a hg hm ha hs
theorem q9y{g:TG}{tb:TS}{D:Ends}(Pv:Nat->St->Hp->Prop)(h0:Pv 0 σ H)(hs:∀i c T σ H,z.cps[i]?=some c->Pv i σ H->H T=none->g (.ref T) σ (upd H T (.tup [.int i,.str ⟨#[c]⟩])) fun σ2 H2=>tb { D with nx:=Pv (i+1),ct:=Pv (i+1),bk:=D.nx } σ2 H2)(hd:∀σ H,Pv z.length σ H->D.nx σ H):
  ∃W:Nat->Nat->St->Hp->Prop,(∃m,W 0 m σ H)/\∀i m σ H,W i m σ H ->
   ((Ite (Its z)).stop i H/\D.nx σ H)\/((Ite (Its z)).go i H/\∃N:St->Hp->Prop,(∀σ' H',N σ' H'->∃m',m'<m/\W (i+1) m' σ' H')/\∀v H',(Ite (Its z)).yld i H v H'->g v σ H' fun σ2 H2=>tb { D with nx:=N,ct:=N,bk:=D.nx } σ2 H2):=by
 refine q9w Pv h0 (fun i σ H h _=>h) (fun σ H _=>Aj _) (fun i v σ H H' h p yl=>?_) hd;obtain⟨T,y,hT,⟨_,c,hc,rfl⟩,rfl,rfl⟩:=yl;exact hs i c T σ H hc p hT
end
end L2
namespace K
open PySem L2 TX
def NSs:Str:=Ac "abcdefghijklmnopqrstuvwxyzABCDEFGHIJKLMNOPQRSTUVWXYZ0123456789-_."
def GSs:Str:=Ac "?*#@"
abbrev NS:List Nat:=tl NSs
abbrev GS:List Nat:=tl GSs
theorem z3i:∀c∈NS,c<128:=by decide +kernel
theorem z3j(h:c∈GS):([c].filter fun c=>decide (c∈GS))=[c]:=by simp_all
theorem z3k(h:¬c∈GS):([c].filter fun c=>decide (c∈GS))=[]:=by grind
inductive Pt where
 |tx (l:List Nat)
 |gp (c:Nat)
namespace Pt
def fl:Pt->List Nat
 |tx l=>l
 |gp c=>[c]
def isG:Pt->Bool
 |tx _=>false
 |gp _=>true
def ok:Pt->Prop
 |tx l=>l≠[]/\∀c∈l,c∈NS
 |gp c=>c∈GS
def word:Pt->Str
 |tx _=>Ac "text"
 |gp _=>Ac "gap"
def vs(p:Pt):List V:=[.str p.word,.str (mk p.fl)]
def dat(p:Pt):PyData:=.tuple [.str p.word,.str (mk p.fl)]
end Pt
def gaps(ps:List Pt):Nat:=(ps.filter Pt.isG).length
def tp(t:List Nat):List Pt:=if t=[] then[] else[.tx t]
def parse(cur:List Nat):List Nat->List Pt
 |[]=>tp cur
 |c::r=>if c∈GS then tp cur++.gp c::parse [] r else parse (cur++[c]) r
structure Good (l:List Nat):Prop where
 ne:l≠[]
 sg:∀c∈l,c∈GS\/c∈NS
 gp:(l.filter fun c=>decide (c∈GS)).length<=9
 len:l.length<=1000
def TKeep(H H':Hp):Prop:=∀T xs,H T=some (.tup xs)->H' T=some (.tup xs)
abbrev Tups(H:Hp):List Addr->List Pt->Prop:=Dj fun T p=>H T=some (.tup p.vs)
structure HL (H:Hp) (L:Addr) (ps:List Pt):Prop where
 ex:∃Ts:List Addr,H L=some (.lst (Ts.map V.ref))/\Tups H Ts ps
theorem Tups.keep{H H':Hp}(k:TKeep H H'):∀{Ts:List Addr} {ps:List Pt},Tups H Ts ps->Tups H' Ts ps
 |_,_,.nil=>.nil
 |_,_,.cons h t=>.cons (k _ _ h) (Tups.keep k t)
theorem Tups.len(h:Tups H Ts ps):Ts.length=ps.length:=Ed h
theorem Tups.app{H:Hp}:∀{Ts Us:List Addr} {ps qs:List Pt},Tups H Ts ps->Tups H Us qs->Tups H (Ts++Us) (ps++qs)
 |_,_,_,_,.nil,h=>h
 |_,_,_,_,.cons h t,u=>.cons h (Tups.app t u)
theorem Tups.get:∀{Ts:List Addr} {ps:List Pt} {i:Nat} {x:V},Tups H Ts ps->(Ts.map V.ref)[i]?=some x->∃T p,x=.ref T/\ps[i]?=some p/\H T=some (.tup p.vs)
 |_,_,_,_,.nil,h=>by simp at h
 |_,_,0,x,.cons h t,e=>by simp at e;exact⟨_,_,e.symm,rfl,h⟩
 |_,_,i+1,x,.cons h t,e=>by
  obtain⟨T,p,h1,h2,h3⟩:=Tups.get (i:=i) (x:=x) t (by simpa using e);exact⟨T,p,h1,by simpa using h2,h3⟩
theorem TKeep.refl(H:Hp):TKeep H H:=fun _ _ h=>h
theorem TKeep.lst{H H':Hp}{p:Addr}{ys zs:List V}(k:TKeep H H')(h:H' p=some (.lst ys)):TKeep H (upd H' p (.lst zs)):=fun T xs e=>by
 rw[q0f (z5r (k T xs e) h (by intro z;cases z))];exact k T xs e
theorem Same.tk(s:Same H H'):TKeep H H':=fun T xs e=>s _ _ e
theorem HL.same(h:HL H L ps)(s:Same H H'):HL H' L ps:=by
 obtain⟨Ts,h1,h2⟩:=h.ex;exact⟨Ts,s _ _ h1,h2.keep (Same.tk s)⟩
theorem HL.new(h:HL H L ps)(hp:H p=none):HL (upd H p o) L ps:=h.same ((Same.refl H).new hp)
theorem HL.sq(h:HL H L ps):∃xs,SqL K H L xs:=let ⟨Ts,h1,_⟩:=h.ex;⟨_,SqL.of h1⟩
theorem x0d(Us:List Addr)(T:Addr):atI ((Us++[T]).map V.ref) (-1)=some (.ref T):=by
 unfold atI ixN;rw[if_neg (by decide),if_pos (by simp;lia)];have e:(-1+(((Us++[T]).map V.ref).length:Int)).toNat=Us.length:=by simp;lia
 rw[e];simp
theorem z3l(h:∀c∈l,c<128):Ce (mk l)=true:=by
 unfold Ce;rw[Array.all_eq_true'];intro c hc;have:=h c (by simpa[mk] using hc);simp;lia
end K
namespace L2
open PySem PySem.Spec PyProof.Rows
section
variable{κ:Type}[DecidableEq κ]
def valV(kvs:List (κ×V))(k:κ):Option V:=(kvs.find? fun kv=>decide (kv.1=k)).map (·.2)
def putK(kvs:List (κ×V))(k:κ)(v:V):List (κ×V) :=
 if (kvs.any fun kv=>decide (kv.1=k))=true then kvs.map (fun kv=>if kv.1=k then(kv.1,v) else kv) else kvs++[(k,v)]
def dropK(kvs:List (κ×V))(k:κ):List (κ×V):=kvs.filter fun kv=>decide (kv.1≠k)
theorem q1k{p:κ×V}(e:p.1=k):valV (p::r) k=some p.2:=by simp[valV,Cf,e]
theorem q1h{p:κ×V}(e:¬p.1=k):valV (p::r) k=valV r k:=by simp[valV,Cf,e]
theorem q4n(k:κ):∀kvs:List (κ×V),(kvs.any fun kv=>decide (kv.1=k))=(valV kvs k).isSome
 |[]=>rfl
 |p::r=>by
  rw[Lx];by_cases e:p.1=k
  ·simp only[q1k e,decide_eq_true e,Bool.true_or,Option.isSome_some]
  ·rw[q1h e,decide_eq_false e,Bool.false_or];exact q4n k r
theorem z3m(k j:κ)(y:V):∀kvs:List (κ×V),valV (kvs.map fun kv=>if kv.1=k then(kv.1,y) else kv) j=(valV kvs j).map fun x=>if j=k then y else x
 |[]=>rfl
 |p::r=>by
  have ih:=z3m k j y r;rw[An];by_cases h:p.1=k
  ·rw[if_pos h];by_cases e:p.1=j
   ·rw[q1k (p:=(p.1,y)) e,q1k e,Jy,if_pos (e.symm.trans h)]
   ·rw[q1h (p:=(p.1,y)) e,q1h e,ih]
  ·rw[if_neg h];by_cases e:p.1=j
   ·rw[q1k e,q1k e,Jy,if_neg (fun z=>h (e.trans z))]
   ·rw[q1h e,q1h e,ih]
theorem q9z(k j:κ)(y:V):∀kvs:List (κ×V),valV kvs k=none->valV (kvs++[(k,y)]) j=if j=k then some y else valV kvs j
 |[],_=>by
  by_cases e:k=j
  ·rw[if_pos e.symm];exact q1k (p:=(k,y)) e
  ·rw[if_neg (fun z=>e z.symm)];exact q1h (p:=(k,y)) e
 |p::r,hn=>by
  rw[Vk];have hk:¬p.1=k:=fun z=>by rw[q1k z] at hn;cases hn
  rw[q1h hk] at hn;have ih:=q9z k j y r hn;by_cases e:p.1=j
  ·rw[q1k e,q1k e,if_neg (fun z=>hk (e.trans z))]
  ·rw[q1h e,q1h e,ih]
theorem z3n(kvs:List (κ×V))(k j:κ)(y:V):valV (putK kvs k y) j=if j=k then some y else valV kvs j:=by
 unfold putK;by_cases a:(kvs.any fun kv=>decide (kv.1=k))=true
 ·rw[if_pos a,z3m];rw[q4n] at a;by_cases e:j=k
  ·obtain⟨x,hx⟩:=Kj.mp a;rw[if_pos e,e,hx,Jy,if_pos rfl]
  ·simp_all
 ·rw[if_neg a];refine q9z k j y kvs ?_;rw[q4n] at a;cases q:valV kvs k with
  |none=>rfl
  |some x=>grind
theorem q1n(kvs:List (κ×V))(k:κ)(v:V):(putK kvs k v).length<=kvs.length+1:=by
 unfold putK;split
 ·grind
 ·grind
theorem x0e{kvs:List (κ×V)}(v:V)(h:valV kvs k=none):putK kvs k v=kvs++[(k,v)]:=by
 unfold putK;rw[q4n,h];exact if_neg (by decide)
theorem RelO.isSome_eq(r:RelO o u):o.isSome=u.isSome:=by
 cases o with
 |none=>cases u with
  |none=>rfl
  |some _=>exact(show False from r).elim
 |some _=>cases u with
  |none=>exact(show False from r).elim
  |some _=>rfl
theorem KV.val(r:KV kvs vs)(k:κ):RelO (valV kvs k) (valueAt vs k):=by
 induction r with
 |nil=>exact True.intro
 | @cons p q ps qs h t ih =>
  obtain⟨h1,h2⟩:=h;by_cases e:p.1=k
  ·have e':q.1=k:=h1.symm.trans e;have b:valueAt (q::qs) k=some q.2:=by simp[valueAt,Cf,e']
   rw[q1k e,b];exact h2
  ·have e':¬q.1=k:=fun z=>e (h1.trans z);have b:valueAt (q::qs) k=valueAt qs k:=by simp[valueAt,Cf,e']
   rw[q1h e,b];exact ih
theorem KV.any(r:KV kvs vs)(k:κ):(kvs.any fun kv=>decide (kv.1=k))=vs.any fun kv=>decide (kv.1=k):=by
 induction r with
 |nil=>rfl
 |cons h t ih=>simp_all
theorem KV.repl(r:KV kvs vs)(k:κ)(ry:RelV y u):
  KV (kvs.map fun kv=>if kv.1=k then(kv.1,y) else kv) (vs.map fun kv=>if kv.1=k then(kv.1,u) else kv):=by
 induction r with
 |nil=>exact .nil
 | @cons p q ps qs h t ih =>
  refine .cons ?_ ih;by_cases e:p.1=k
  ·simp_all
  ·simp_all
theorem KV.put(r:KV kvs vs)(k:κ)(ry:RelV y u):KV (putK kvs k y) (stored vs k u):=by
 unfold putK stored;rw[r.any k];by_cases e:(vs.any fun kv=>decide (kv.1=k))=true
 ·rw[if_pos e,if_pos e];exact r.repl k ry
 ·rw[if_neg e,if_neg e];exact Dj.snoc r ⟨rfl,ry⟩
theorem KV.length{kvs:List (κ×V)}(r:KV kvs vs):kvs.length=vs.length:=Ed r
end
theorem q8f(r:RelV (kV k) u):(mixKind P w).is k u=true:=by
 cases k with
 |inl i=>obtain⟨t,e⟩:=(show ∃t,u=Value.int i t from r);subst e;exact z1r P w i t
 |inr x=>obtain⟨t,e⟩:=(show ∃t,u=Value.str x t from r);subst e;exact z1s P w x t
theorem z0a{P:Program}{w:World}:∀{ks:List Key} {us:List Value},Vals (ks.map kV) us->ItemsAre (mixKind P w) ks us
 |[],_,r=>by rw[List.map_nil] at r;cases r;exact .nil
 |k::ks,_,r=>by
  rw[An] at r;cases r with
  |cons h t=>exact .cons (q8f h) (z0a t)
abbrev KT(H:Hp):List (List Key×V)->List (List Key×Addr×Value)->Prop:=Dj fun p q=>p.1=q.1/\H q.2.1=some (.tup (p.1.map kV))/\RelV p.2 q.2.2
theorem KT.val(r:KT H kvs xs)(k:List Key):RelO (valV kvs k) ((atKey xs k).map (·.2)):=by
 induction r with
 |nil=>exact True.intro
 | @cons p q ps qs h t ih =>
  obtain⟨h1,_,h2⟩:=h;by_cases e:p.1=k
  ·have e':q.1=k:=h1.symm.trans e;have b:atKey (q::qs) k=some q.2:=by simp[atKey,Cf,e']
   rw[q1k e,b];exact h2
  ·have e':¬q.1=k:=fun z=>e (h1.trans z);have b:atKey (q::qs) k=atKey qs k:=by simp[atKey,Cf,e']
   rw[q1h e,b];exact ih
theorem KT.repl(r:KT H kvs xs)(k:List Key)(ry:RelV y u):
  KT H (kvs.map fun kv=>if kv.1=k then(kv.1,y) else kv) (xs.map (putAt k u)):=by
 induction r with
 |nil=>exact .nil
 | @cons p q ps qs h t ih =>
  refine .cons ?_ ih;unfold putAt;by_cases e:p.1=k
  ·simp_all
  ·simp_all
theorem KT.put(r:KT H kvs xs)(k:List Key)(hb:H b=some (.tup (k.map kV)))(ry:RelV y u):
  KT H (putK kvs k y) (storedH xs k b u):=by
 have e:(kvs.any fun kv=>decide (kv.1=k))=(atKey xs k).isSome:=by
  rw[q4n,(r.val k).isSome_eq,Lg]
 unfold putK storedH;rw[e];by_cases q:(atKey xs k).isSome=true
 ·rw[if_pos q,if_pos q];exact r.repl k ry
 ·rw[if_neg q,if_neg q];exact Dj.snoc r ⟨rfl,hb,ry⟩
theorem KT.keeps(r:KT H kvs xs)(ht:∀b ys,H b=some (.tup ys)->H' b=some (.tup ys)):KT H' kvs xs :=
 Dj.mapP r fun _ _ z=>⟨z.1,ht _ _ z.2.1,z.2.2⟩
section
variable{P:Program}{w:World}{H:Hp}{h:Heap}{a:Addr}
theorem rd_of(ok:HOk P w H h)(e:Rd H a u):ObjOk P w H h a u:=e.ok ok
theorem z6y(ok:HOk P w H h)(e:Rd H a (.dK kvs)):kvs.length<=sizeLine/\(a==Cu)=false/\∃vs,KV kvs vs/\h.DictOf (mixKind P w) a vs :=
 show ObjOk P w H h a (.dK kvs) from rd_of ok e
theorem dk_of(ok:HOk P w H h)(e:H a=some (.dK kvs)):kvs.length<=sizeLine/\(a==Cu)=false/\∃vs,KV kvs vs/\h.DictOf (mixKind P w) a vs:=z6y ok (.inl e)
theorem q5d(ok:HOk P w H h)(e:H a=some (.tup (ks.map kV))):(Kc (mixKind P w)).is h ks a:=by
 obtain⟨_,its,r,o,h1,h2,n,h3⟩:=(show ObjOk P w H h a (.tup (ks.map kV)) from ok a _ e)
 exact⟨o,its.toArray,n,h1,h2,h3,by simpa using z0a r⟩
theorem z6z(ok:HOk P w H h)(e:Rd H a (.dT kvs)):kvs.length<=sizeLine/\(a==Cu)=false /\
  ∃xs,KT H kvs xs/\h.DictOfH (Kc (mixKind P w)) a xs:=by
 obtain⟨z,y,xs,r,o,es,ep,h1,h2,h3,h4,h5⟩:=(show ObjOk P w H h a (.dT kvs) from rd_of ok e)
 refine⟨z,y,xs,r,o,es,ep,h1,h2,h3,h4,fun x hx=>?_,h5⟩;have all:∀{l:List (List Key×V)} {m:List (List Key×Addr×Value)},KT H l m->∀x∈m,(Kc (mixKind P w)).is h x.1 x.2.1:=by
  intro l m q;induction q with
  |nil=>grind
  | @cons p q ps qs hq t ih =>
   intro x hx;rcases Bk.mp hx with e|hx
   ·subst e;exact q5d ok (by rw[<- hq.1];exact hq.2.1)
   ·exact ih x hx
 exact all r x hx
theorem dt_of(ok:HOk P w H h)(e:H a=some (.dT kvs)):kvs.length<=sizeLine/\(a==Cu)=false /\
  ∃xs,KT H kvs xs/\h.DictOfH (Kc (mixKind P w)) a xs:=z6z ok (.inl e)
end
def DGet(H:Hp)(a:Addr)(y:V)(r:Option V):Prop :=
 (∃kvs k,Rd H a (.dK kvs)/\y=kV k/\r=valV kvs k)\/∃kvs k b,Rd H a (.dT kvs)/\y=.ref b/\H b=some (.tup (k.map kV))/\r=valV kvs k
def DPut(H:Hp)(a:Addr)(y v:V)(H':Hp):Prop :=
 (∃kvs k,H a=some (.dK kvs)/\y=kV k/\kvs.length<sizeLine/\H'=upd H a (.dK (putK kvs k v))) \/
 ∃kvs k b,H a=some (.dT kvs)/\y=.ref b/\H b=some (.tup (k.map kV))/\kvs.length<sizeLine/\H'=upd H a (.dT (putK kvs k v))
theorem DGet.k{k:Key}(e:H a=some (.dK kvs)):DGet H a (kV k) (valV kvs k):=.inl ⟨kvs,k,.inl e,rfl,rfl⟩
theorem DGet.t{k:List Key}(e:H a=some (.dT kvs))(eb:H b=some (.tup (k.map kV))):DGet H a (.ref b) (valV kvs k):=.inr ⟨kvs,k,b,.inl e,rfl,eb,rfl⟩
theorem DPut.k{k:Key}(e:H a=some (.dK kvs))(hl:kvs.length<sizeLine):DPut H a (kV k) v (upd H a (.dK (putK kvs k v))):=.inl ⟨kvs,k,e,rfl,hl,rfl⟩
theorem DPut.t{k:List Key}(e:H a=some (.dT kvs))(eb:H b=some (.tup (k.map kV)))(hl:kvs.length<sizeLine):
  DPut H a (.ref b) v (upd H a (.dT (putK kvs k v))):=.inr ⟨kvs,k,b,e,rfl,eb,hl,rfl⟩
section
variable{X:Cx}{pins:List (Addr×Obj)}{σ:St}{H:Hp}{s:Af}{a:Addr}{y v:V}{u r:Value}{o:Option V}{A:Around}{E:Value->Af->Prop}
theorem Inv.big(I:Inv X pins σ H s):Cu<s.heap.objs.size:=by
 have h:=(I.mod.glob.keeps I.bk).lt;exact Nat.lt_trans (by decide) h
theorem z7a(hu:A.units+1<cLine)(I:Inv X pins σ H s)(g:DGet H a y (some v))(ry:RelV y u)(h:∀w' s',Inv X pins σ H s'->RelV v w'->Q w' s'):
  wpAny (model X.prog X.w) A (getItem (.ref a) u) Q E s:=by
 rcases g with⟨kvs,k,e,ey,l⟩|⟨kvs,k,b,e,ey,eb,l⟩
 ·subst ey;obtain⟨z,hd,vs,rel,dd⟩:=z6y I.hok e;obtain⟨w',hw,rw'⟩:=RelO.some_of (by rw[l];exact rel.val k);exact wpAny_getItem_of (q8f ry) dd.mapOf hw (h w' _ (I.tok _) rw')
 ·subst ey;cases(show u=Value.ref b from ry);obtain⟨z,hd,xs,rel,dd⟩:=z6z I.hok e;obtain⟨w',hw,rw'⟩:=RelO.some_of (by rw[l];exact rel.val k);obtain⟨p,hp,hp2⟩:=Dc.mp hw;refine wpAny_getItem_heap (Ex hu) (q5d I.hok eb) dd hp ?_;rw[hp2];exact h w' _ (I.tok _) rw'
theorem d_in(hu:A.units+1<cLine)(I:Inv X pins σ H s)(g:DGet H a y o)(ry:RelV y u)(h:∀s',Inv X pins σ H s'->Q (.bool o.isSome) s'):
  wpAny (model X.prog X.w) A (Cg .In u (.ref a)) Q E s:=by
 rcases g with⟨kvs,k,e,ey,l⟩|⟨kvs,k,b,e,ey,eb,l⟩
 ·subst ey;obtain⟨z,hd,vs,rel,dd⟩:=z6y I.hok e;refine wpAny_in_of (q8f ry) hd dd.mapOf ?_;rw[<- (rel.val k).isSome_eq,<- l];exact h _ (I.tok _)
 ·subst ey;cases(show u=Value.ref b from ry);obtain⟨z,hd,xs,rel,dd⟩:=z6z I.hok e;refine wpAny_in_heap (Ex hu) (q5d I.hok eb) hd dd ?_;have q:=(rel.val k).isSome_eq;rw[Lg] at q;rw[<- q,<- l];exact h _ (I.tok _)
theorem x4b(hu:A.units+1<cLine)(I:Inv X pins σ H s)(g:DGet H a y o)(ry:RelV y u)(h:∀s',Inv X pins σ H s'->Q (.bool (!o.isSome)) s'):
  wpAny (model X.prog X.w) A (Cg .NotIn u (.ref a)) Q E s:=by
 rcases g with⟨kvs,k,e,ey,l⟩|⟨kvs,k,b,e,ey,eb,l⟩
 ·subst ey;obtain⟨z,hd,vs,rel,dd⟩:=z6y I.hok e;refine wpAny_notIn_of (q8f ry) hd dd.mapOf ?_;rw[<- (rel.val k).isSome_eq,<- l];exact h _ (I.tok _)
 ·subst ey;cases(show u=Value.ref b from ry);obtain⟨z,hd,xs,rel,dd⟩:=z6z I.hok e;refine wpAny_notIn_heap (Ex hu) (q5d I.hok eb) hd dd ?_;have q:=(rel.val k).isSome_eq;rw[Lg] at q;rw[<- q,<- l];exact h _ (I.tok _)
theorem q8g(I:Inv X pins σ H s)(mu:Mut (H a))(hs:Eu a s.heap h')(he:∃q,h'.get? a=some q)(new:ObjOk X.prog X.w (upd H a ob) h' a ob):
  Inv X pins σ (upd H a ob) { s with heap:=h',toks:=t' } :=
 I.write mu (.inl rfl) (fun b q hb z=>(hs.2 b hb).trans z) he new
theorem x2h(z:kvs.length<=sizeLine)(hd:(a==Cu)=false)(rel:KV kvs vs)(dd:h'.DictOf (mixKind P w) a vs):
  ObjOk P w H' h' a (.dK kvs):=⟨z,hd,vs,rel,dd⟩
theorem z7b(hu:A.units+1<cLine)(I:Inv X pins σ H s)(g:DPut H a y v H')(ry:RelV y u)(rv:RelV v r)(h:∀s',Inv X pins σ H' s'->Q () s'):
  wpAny (model X.prog X.w) A (setItem (.ref a) u r) Q E s:=by
 rcases g with⟨kvs,k,e,ey,l,eH⟩|⟨kvs,k,b,e,ey,eb,l,eH⟩
 ·subst ey eH;obtain⟨z,hd,vs,rel,dd⟩:=dk_of I.hok e;have hz:vs.length<=sizeLine:=by rw[<- rel.length];exact z
  have hl:(putK kvs k v).length<=sizeLine:=by have:=q1n kvs k v;lia
  refine wpAny_setItem_pairs (q8f ry) dd fun h' dd' hs=>h _ ?_;have he:∃q,h'.get? a=some q:=let ⟨q,_,_,hq,_⟩:=dd';⟨q,hq⟩;exact q8g I (by rw[e];exact True.intro) hs he (x2h hl hd (rel.put k rv) dd')
 ·subst ey eH;cases(show u=Value.ref b from ry);obtain⟨z,hd,xs,rel,dd⟩:=dt_of I.hok e;have hz:xs.length<=sizeLine:=by rw[<- Ed rel];exact z
  have hl:(putK kvs k v).length<=sizeLine:=by have:=q1n kvs k v;lia
  refine Oa (Ex hu) (q5d I.hok eb) dd fun h' dd' hs=>h _ ?_;obtain⟨q,es,ep,hq,h2,h3,h4,_,h5⟩:=dd';refine q8g I (by rw[e];exact True.intro) hs ⟨q,hq⟩ ⟨hl,hd,_,(rel.put k eb rv).keeps fun c ys ec=>?_,q,es,ep,hq,h2,h3,h4,h5⟩;rw[q0f (z5r ec e (fun z=>nomatch z))];exact ec
end
def NoSl(i:Expr):Prop:=∀ov iv,Qq i false ov iv=operate [ov,iv] (getItem ov iv)
theorem z7c{id:String}(hl:Pf (.type T) "__getitem__" = pure (some (.builtin id)))(hs:NoSl slice)(h:wpAny (model prog w) A (eval value env) (fun o s₁=>wpAny (model prog w) A (eval slice env) (fun i s₂=>s₂.TypeIs o T/\wpAny (model prog w) A (getItem o i) Q E s₂) E s₁) E s):
  wpAny (model prog w) A (eval (.Subscript value slice pos) env) Q E s:=by
 refine Vy (Bx h (fun o s₁ h₁=>Bx h₁ (fun i s₂ h₂=>?_) fun _ _ x=>x) fun _ _ x=>x);obtain⟨hT,h₂⟩:=h₂;refine Ab ?_;refine Ab (Gd hT hl ?_);have fin:wpAny (model prog w) A (Qq slice false o i) (fun r s₃=>wpAny (model prog w) A (letTemporaryGo value o r >>= fun _=>pure r) Q E s₃) E s₂:=by
  rw[hs o i];exact wpAny_operating (Bx h₂ (fun r s₃ h₃=>Ab (wpAny_letTemporaryGo (Ad h₃))) fun _ _ x=>x)
 first
  |exact Ad (Ab fin)
  |exact Ab (Ad (Ab fin))
  |exact Ab fin
theorem z2c{σ:St}(I:Inv X pins σ H s)(g:DGet H a y o):s.TypeIs (.ref a) "dict" := by
 rcases g with⟨kvs,k,e,_,_⟩|⟨kvs,k,b,e,_,_,_⟩
 ·obtain⟨_,_,vs,_,dd⟩:=z6y I.hok e;exact dd.typeIs
 ·obtain⟨_,_,xs,_,dd⟩:=z6z I.hok e;exact dd.typeIs
def tDGet(td ty:TE):TE:=fun σ H Q=>td σ H fun x H1=>ty σ H1 fun y H2=>∃a v,x=.ref a/\DGet H2 a y (some v)/\Q v H2
def tDIn(ty td:TE):TE:=fun σ H Q=>ty σ H fun y H1=>td σ H1 fun x H2=>∃a o,x=.ref a/\DGet H2 a y o/\Q (.bl o.isSome) H2
def tDNotIn(ty td:TE):TE:=fun σ H Q=>ty σ H fun y H1=>td σ H1 fun x H2=>∃a o,x=.ref a/\DGet H2 a y o/\Q (.bl (!o.isSome)) H2
def sDPut(td ty tv:TE):TS:=fun D σ H=>tv σ H fun v H1=>td σ H1 fun x H2=>ty σ H2 fun y H3=>∃a H4,x=.ref a/\DPut H3 a y v H4/\D.nx σ H4
section
variable{X:Cx}{o i e value:Expr}{pos pos' tpos:Pos}{td ty tv:TE}
theorem z2d(hu:X.A.units+1<cLine)(ho:PE X o td)(hi:PE X i ty)(hs:NoSl i):PE X (.Subscript o i pos) (tDGet td ty):=by
 intro pins s σ H Q I h;refine z7c Ph.lookup hs (thn (ho pins s σ H _ I h) fun u s1 ⟨x,H1,I1,rx,q1⟩=>thn (hi pins s1 σ H1 _ I1 q1) fun iv s2 ⟨y,H2,I2,ry,a,v,ex,g,q2⟩=>?_);subst ex;obtain rfl:u=Value.ref a:=rx;exact⟨z2c I2 g,z7a hu I2 g ry fun w' s3 I3 rw'=>⟨v,H2,I3,rw',q2⟩⟩
theorem x2i(hu:X.A.units+1<cLine)(hi:PE X i ty)(ho:PE X o td):PC X .In i o (tDIn ty td):=by
 intro pins s σ H Q I h;refine thn (hi pins s σ H _ I h) fun iv s1 ⟨y,H1,I1,ry,q1⟩=>thn (ho pins s1 σ H1 _ I1 q1) fun u s2 ⟨x,H2,I2,rx,a,ov,ex,g,q2⟩=>?_;subst ex;obtain rfl:u=Value.ref a:=rx;exact d_in hu I2 g ry fun s3 I3=>⟨.bl ov.isSome,H2,I3,rfl,q2⟩
theorem z0b(hu:X.A.units+1<cLine)(hi:PE X i ty)(ho:PE X o td):PC X .NotIn i o (tDNotIn ty td):=by
 intro pins s σ H Q I h;refine thn (hi pins s σ H _ I h) fun iv s1 ⟨y,H1,I1,ry,q1⟩=>thn (ho pins s1 σ H1 _ I1 q1) fun u s2 ⟨x,H2,I2,rx,a,ov,ex,g,q2⟩=>?_;subst ex;obtain rfl:u=Value.ref a:=rx;exact x4b hu I2 g ry fun s3 I3=>⟨.bl (!ov.isSome),H2,I3,rfl,q2⟩
theorem z7d(hu:X.A.units+1<cLine)(ho:PE X o td)(hi:PE X i ty)(hv:PE X value tv)(hs:Ii value (some (.Subscript o i pos')) pos.line X.env=pure false):
  PS X (.Assign [.Subscript o i pos'] value pos) (sDPut td ty tv):=by
 intro pins s σ H D I h;refine Lu (thn (hv pins s σ H _ I h) fun r s1 ⟨v,H1,I1,rv,q1⟩=>thn (ho pins s1 σ H1 _ I1 q1) fun u s2 ⟨x,H2,I2,rx,q2⟩=>thn (hi pins s2 σ H2 _ I2 q2) fun iv s3 ⟨y,H3,I3,ry,a,H4,ex,g,q3⟩=>?_) hs;subst ex;obtain rfl:u=Value.ref a:=rx;exact z7b hu I3 g ry rv fun s4 I4=>⟨σ,H4,I4,q3⟩
end
theorem z3o(h:Heap)(hb:Cu<h.objs.size):ObjOk P w H (h.push { cls:=.type "dict",data:=.dict #[] }) h.objs.size (.dK []) :=
 ⟨Be _,beq_eq_false_iff_ne.mpr (Ca (Bd hb)),[],.nil,Heap.DictOf.new h⟩
theorem q8h(h:Heap)(hb:Cu<h.objs.size):ObjOk P w H (h.push { cls:=.type "dict",data:=.dict #[] }) h.objs.size (.dT []) :=
 ⟨Be _,beq_eq_false_iff_ne.mpr (Ca (Bd hb)),[],.nil,_,#[],0,Ak _ rfl,⟨rfl,rfl,rfl⟩,rfl,rfl,Rj⟩
def tDNewK:TE:=fun _ H Q=>∀p,H p=none->Q (.ref p) (upd H p (.dK []))
def tDNewT:TE:=fun _ H Q=>∀p,H p=none->Q (.ref p) (upd H p (.dT []))
section
variable{X:Cx}{pos:Pos}
theorem x0f:PE X (.Dict [] [] pos) tDNewK:=fun pins s σ H Q I h =>
 Ma ⟨.ref s.heap.objs.size,_,I.laid (t':=s.toks) (fun _ _ q=>Ae _ q) (Aj _) (z3o s.heap I.big),rfl,h _ (I.hok.fresh (Aj _))⟩
theorem x0g:PE X (.Dict [] [] pos) tDNewT:=fun pins s σ H Q I h =>
 Ma ⟨.ref s.heap.objs.size,_,I.laid (t':=s.toks) (fun _ _ q=>Ae _ q) (Aj _) (q8h s.heap I.big),rfl,h _ (I.hok.fresh (Aj _))⟩
end
def tPairs:List (TE×TE)->St->Hp->(List (V×V)->Hp->Prop)->Prop
 |[],_,H,Q=>Q [] H
 |(tk,tv)::r,σ,H,Q=>tk σ H fun x H1=>tv σ H1 fun y H2=>tPairs r σ H2 fun ps H3=>Q ((x,y)::ps) H3
abbrev VV:List (V×V)->List (Value×Value)->Prop:=Dj fun p q=>RelV p.1 q.1/\RelV p.2 q.2
def PPs(X:Cx)(pos:Pos)(keys:List (Option Expr))(values:List Expr)(trs:List (TE×TE)):Prop :=
 ∀(pins:List (Addr×Obj)) (s:Af) (σ:St) (H:Hp) (Q:List (V×V)->Hp->Prop),Inv X pins σ H s->tPairs trs σ H Q ->
  wpAny (model X.prog X.w) X.A (evalPairs (pairTrees keys values X.env pos)) (fun vs s'=>∃ps H',Inv X pins σ H' s'/\VV ps vs/\Q ps H') X.xe s
theorem x4c:PPs X pos [] [] []:=fun pins s σ H Q I h=>pairTrees_nil_walk ⟨[],H,I,.nil,h⟩
theorem x0h{X:Cx}{pos:Pos}{k v:Expr}{ks:List (Option Expr)}{vs:List Expr}{tk tv:TE}{trs:List (TE×TE)}(hk:PE X k tk)(hv:PE X v tv)(hr:PPs X pos ks vs trs):
  PPs X pos (some k::ks) (v::vs) ((tk,tv)::trs):=fun pins s σ H Q I h =>
 pairTrees_cons_walk (thn (hk pins s σ H _ I h) fun u s1 ⟨x,H1,I1,rx,q1⟩=>thn (hv pins s1 σ H1 _ I1 q1) fun w2 s2 ⟨y,H2,I2,ry,q2⟩ =>
  thn (hr pins s2 σ H2 _ I2 q2) fun ws s3 ⟨ps,H3,I3,rel,q3⟩=>⟨(x,y)::ps,H3,I3,.cons ⟨rx,ry⟩ rel,q3⟩)
def mergeK(kvs more:List (Key×V)):List (Key×V):=more.foldl (fun acc kv=>putK acc kv.1 kv.2) kvs
theorem KV.merge:∀{more:List (Key×V)} {rs:List (Key×Value)} {kvs:List (Key×V)} {vs:List (Key×Value)},KV more rs->KV kvs vs->KV (mergeK kvs more) (merged vs rs):=by
 intro more rs kvs vs r;induction r generalizing kvs vs with
 |nil=>intro q;exact q
 | @cons p q ps qs h t ih =>
  intro r0;have e:KV (putK kvs p.1 p.2) (stored vs q.1 q.2):=by
   have:=r0.put p.1 h.2;rw[<- h.1];exact this
  exact ih e
theorem q4o:∀(more kvs:List (Key×V)),(mergeK kvs more).length<=kvs.length+more.length
 |[],kvs=>by show kvs.length<=kvs.length+0;lia
 |p::r,kvs=>by
  have h1:=q4o r (putK kvs p.1 p.2);have h2:=q1n kvs p.1 p.2;show(mergeK (putK kvs p.1 p.2) r).length<=_;rw[Bf];lia
theorem q7k:∀{kvs:List (Key×V)} {ws:List (Value×Value)},VV (kvs.map fun kv=>(kV kv.1,kv.2)) ws->∃rs,Carries (mixKind P w) ws rs/\KV kvs rs
 |[],_,r=>by rw[List.map_nil] at r;cases r;exact⟨[],True.intro,.nil⟩
 |p::kvs,_,r=>by
  rw[An] at r;cases r with
  | @cons a b as bs h t =>
   obtain⟨rs,c,q⟩:=q7k (P:=P) (w:=w) t;obtain⟨b1,b2⟩:=b;exact⟨(p.1,b2)::rs,⟨q8f h.1,rfl,c⟩,.cons ⟨rfl,h.2⟩ q⟩
def tDisp(trs:List (TE×TE)):TE:=fun σ H Q=>∀p,H p=none->tPairs trs σ (upd H p (.dK [])) fun ps H2=>H2 p=some (.dK [])/\∃kvs:List (Key×V),ps=kvs.map (fun kv=>(kV kv.1,kv.2))/\kvs.length<=15/\Q (.ref p) (upd H2 p (.dK (mergeK [] kvs)))
theorem x4d{X:Cx}{pos:Pos}{keys:List (Option Expr)}{values:List Expr}{trs:List (TE×TE)}(h:PPs X pos keys values trs)(hall:keys.all (·.isSome)=true)(hl:keys.length=values.length)(h0:keys≠[])(h15:keys.length<=15):PE X (.Dict keys values pos) (tDisp trs):=by
 intro pins s σ H Q I q;have hn:=I.hok.fresh (Aj s.heap.objs.size);have I1:=I.laid (h':=s.heap.push { cls:=.type "dict",data:=.dict #[] }) (t':=s.toks) (fun _ _ q=>Ae _ q) (Aj _) (z3o s.heap I.big);refine wpAny_Dict_walk (knd:=mixKind X.prog X.w) hall hl h0 h15 (thn (h pins _ σ _ _ I1 (q _ hn)) fun ws s2 ⟨ps,H2,I2,rel,e,kvs,ep,lk,q2⟩=>?_);subst ep;obtain⟨rs,c,rk⟩:=q7k rel;obtain⟨z,hd,vs0,r0,dd⟩:=dk_of I2.hok e;cases r0;refine⟨rs,c,dd,fun h' dd' hs=>⟨.ref s.heap.objs.size,_,?_,rfl,q2⟩⟩;have hz:(mergeK [] kvs).length<=sizeLine:=by
  have h1:=q4o kvs [];rw[Ha] at h1;rw[Fe];lia
 have he:∃q,h'.get? s.heap.objs.size=some q:=let ⟨q,_,_,hq,_⟩:=dd';⟨q,hq⟩;exact q8g I2 (by rw[e];exact True.intro) hs he (x2h hz hd (rk.merge .nil) dd')
structure M2 (X:Cx) (o:Expr) (m:Str) (apos:Pos) (e f:Expr) (cpos:Pos):Prop where
 base:Gi o m X.env (eval o X.env)=eval o X.env
 few:((Em cpos (Ax [e,f] X.env)).all (fun x => !x.1)&&(Ly cpos (Io [] X.env)).all (fun x=>x.1.isSome)
  && decide (([e,f]:List Expr).length+([]:List Rh).length+(if ([]:List Rh).isEmpty then 0 else 1)<30))=true
 line:(apos.endLine==cpos.line)=true
 trees:Em cpos (Ax [e,f] X.env)=[(false,eval e X.env),(false,eval f X.env)]
end L2
namespace K
open PySem L2 TX
def FIs:Str:=Ac "0123456789"
def LEs:Str:=Ac "abcdefghijklmnopqrstuvwxyzABCDEFGHIJKLMNOPQRSTUVWXYZ"
abbrev FI:List Nat:=tl FIs
abbrev LE:List Nat:=tl LEs
def allOf(t s:List Nat):Bool:=decide (t≠[])&&t.all fun c=>decide (c∈s)
def gapTakes(c:Nat)(t:List Nat):Bool:=if c=63 then decide (t.length=1) else if c=35 then allOf t FI else if c=64 then allOf t LE else true
def Pt.takes:Pt->List Nat->Bool
 |.tx l,t=>decide (t=l)
 |.gp c,t=>gapTakes c t
def cut(n:List Nat)(b e:Nat):List Nat:=(n.drop b).take (e-b)
def farTo(p:Pt)(n:List Nat)(L:Nat->Bool)(b k:Nat):Option Nat:=((List.range' b k).filter fun e=>L e&&p.takes (cut n b e)).getLast?
def far(p:Pt)(n:List Nat)(L:Nat->Bool)(b:Nat):Option Nat:=if b<=n.length then farTo p n L b (n.length+1-b) else none
def fits(n:List Nat):List Pt->Nat->Bool
 |[],b=>decide (b=n.length)
 |p::ps,b=>(far p n (fits n ps) b).isSome
def rd(n:List Nat):List Pt->Nat->List (List Nat)
 |[],_=>[]
 |p::ps,b=>(if p.isG then[cut n b ((far p n (fits n ps) b).getD 0)] else[])++rd n ps ((far p n (fits n ps) b).getD 0)
theorem q7l(p:Pt)(n:List Nat)(L:Nat->Bool)(b k:Nat):farTo p n L b (k+1)=if (L (b+k)&&p.takes (cut n b (b+k)))=true then some (b+k) else farTo p n L b k:=by
 unfold farTo;rw[List.range'_concat,Kp];by_cases h:(L (b+k)&&p.takes (cut n b (b+k)))=true
 ·simp_all
 ·simp_all
theorem z4z(p:Pt)(n:List Nat)(L:Nat->Bool)(b:Nat):farTo p n L b 0=none:=rfl
theorem q7m:∀{k:Nat} {p:Pt} {n:List Nat} {L:Nat->Bool} {b e:Nat},farTo p n L b k=some e->b<=e/\e<b+k/\L e=true/\p.takes (cut n b e)=true/\∀e',e<e'->e'<b+k->(L e'&&p.takes (cut n b e'))=false
 |0,p,n,L,b,e,h=>by rw[z4z] at h;cases h
 |k+1,p,n,L,b,e,h=>by
  rw[q7l] at h;by_cases c:(L (b+k)&&p.takes (cut n b (b+k)))=true
  ·rw[if_pos c] at h;cases h;rw[Jh] at c;exact⟨by lia,by lia,c.1,c.2,fun e' h1 h2=>absurd h2 (by lia)⟩
  ·rw[if_neg c] at h;obtain⟨a1,a2,a3,a4,a5⟩:=q7m h;refine⟨a1,by lia,a3,a4,fun e' h1 h2=>?_⟩;by_cases z:e'=b+k
   ·grind
   ·grind
theorem z3p(h:far p n L b=some e):b<=e/\e<=n.length/\L e=true/\p.takes (cut n b e)=true/\∀e',e<e'->e'<=n.length->(L e'&&p.takes (cut n b e'))=false:=by
 unfold far at h;by_cases hb:b<=n.length
 ·rw[if_pos hb] at h;obtain⟨a1,a2,a3,a4,a5⟩:=q7m h;exact⟨a1,by lia,a3,a4,fun e' h1 h2=>a5 e' h1 (by lia)⟩
 ·grind
def gsOf:List Pt->List Nat
 |[]=>[]
 |.gp c::ps=>c::gsOf ps
 |.tx _::ps=>gsOf ps
def glue:List Pt->List (List Nat)->List Nat
 |[],_=>[]
 |.tx l::ps,ts=>l++glue ps ts
 |.gp _::ps,[]=>glue ps []
 |.gp _::ps,t::ts=>t++glue ps ts
theorem z3q(h:b<=e):cut n b e++n.drop e=n.drop b:=by
 unfold cut;have:n.drop e=(n.drop b).drop (e-b):=by simp_all
 rw[this,Rk]
theorem x2j(n:List Nat):∀(ps:List Pt) (b:Nat),fits n ps b=true->(rd n ps b).length=(gsOf ps).length/\(∀(i c:Nat) (t:List Nat),(gsOf ps)[i]?=some c->(rd n ps b)[i]?=some t->gapTakes c t=true)/\glue ps (rd n ps b)=n.drop b/\∀t∈rd n ps b,t.length<=n.length
 |[],b,h=>by
  have hb:b=n.length:=of_decide_eq_true h;refine⟨rfl,fun i c t h=>by simp[gsOf] at h,?_,fun t ht=>by simp[rd] at ht⟩;subst hb;simp[glue]
 |p::ps,b,h=>by
  have h':(far p n (fits n ps) b).isSome=true:=h;cases hf:far p n (fits n ps) b with
  |none=>grind
  |some e =>
   obtain⟨a1,a2,a3,a4,_⟩:=z3p hf;obtain⟨i1,i2,i3,i4⟩:=x2j n ps e a3;cases p with
   |tx l =>
    have e1:rd n (.tx l::ps) b=rd n ps e:=by simp[rd,Pt.isG,hf]
    have e2:=of_decide_eq_true a4;rw[e1];refine⟨i1,i2,?_,i4⟩;show l++glue ps (rd n ps e)=_;rw[i3,<- e2,z3q a1]
   |gp c =>
    have e1:rd n (.gp c::ps) b=cut n b e::rd n ps e:=by simp[rd,Pt.isG,hf]
    rw[e1];refine⟨by simp[gsOf,i1],fun i d t h1 h2=>?_,?_,fun t ht=>?_⟩
    ·cases i with
     |zero =>
      simp[gsOf] at h1 h2;subst h1 h2;exact a4
     |succ i=>exact i2 i d t (by simpa[gsOf] using h1) (by simpa using h2)
    ·show cut n b e++glue ps (rd n ps e)=_;rw[i3,z3q a1]
    ·rcases Bk.mp ht with rfl|ht
     ·unfold cut;rw[Dq,De];lia
     ·exact i4 t ht
theorem allOf_iff:allOf t s=true↔t≠[]/\∀c∈t,c∈s:=by
 unfold allOf;simp
theorem q8i:∀(l cur:List Nat),(∀c∈cur,c∈NS)->(∀c∈l,c∈GS\/c∈NS)->∀p∈parse cur l,p.ok
 |[],cur,h1,_=>fun p hp=>by
  have hp':p∈tp cur:=hp;unfold tp at hp';split at hp'
  ·cases hp'
  ·rename_i hne;rw[Ar.mp hp'];exact⟨hne,h1⟩
 |c::r,cur,h1,h2=>fun p hp=>by
  have e:parse cur (c::r)=if c∈GS then tp cur++.gp c::parse [] r else parse (cur++[c]) r:=rfl
  rw[e] at hp;have h3:=fun d hd=>h2 d (Ao _ hd);split at hp
  ·rename_i hc;rcases Au.mp hp with z|z
   ·unfold tp at z;split at z
    ·cases z
    ·rename_i hne;rw[Ar.mp z];exact⟨hne,h1⟩
   ·rcases Bk.mp z with rfl|z
    ·exact hc
    ·exact q8i r [] (fun _ h=>nomatch h) h3 p z
  ·rename_i hc;refine q8i r (cur++[c]) (fun d hd=>?_) h3 p hp;rcases Au.mp hd with z|z
   ·exact h1 d z
   ·grind
theorem x2k:∀(l cur:List Nat),(cur≠[]\/l≠[])->parse cur l≠[]
 |[],cur,h=>by
  have h1:cur≠[]:=h.resolve_right (fun z=>z rfl);show tp cur≠[];unfold tp;rw[if_neg h1];simp
 |c::r,cur,h=>by
  have e:parse cur (c::r)=if c∈GS then tp cur++.gp c::parse [] r else parse (cur++[c]) r:=rfl
  rw[e];split
  ·simp
  ·exact x2k r _ (.inl (by simp))
theorem q8j:∀(l cur:List Nat),(parse cur l).length<=2*l.length+1
 |[],cur=>by show(tp cur).length<=_;unfold tp;split<;>simp
 |c::r,cur=>by
  have e:parse cur (c::r)=if c∈GS then tp cur++.gp c::parse [] r else parse (cur++[c]) r:=rfl
  rw[e];have h0:(tp cur).length<=1:=by unfold tp;split<;>simp
  split
  ·have:=q8j r [];rw[Ai,Bf,Bf];lia
  ·have:=q8j r (cur++[c]);rw[Bf];lia
structure DF (H:Hp) (a:Addr) (f:Nat->Option Nat):Prop where
 ex:∃kvs:List (Key×V),H a=some (.dK kvs)/\kvs.length<=5000/\∀b:Nat,valV kvs (Sum.inl (b:Int))=(f b).map fun e=>V.int (e:Nat)
theorem DF.same(h:DF H a f)(sm:Same H H'):DF H' a f:=let ⟨kvs,h1,h2,h3⟩:=h.ex;⟨kvs,sm _ _ h1,h2,h3⟩
theorem DF.get(h:DF H a f)(b:Nat):DGet H a (.int (b:Int)) ((f b).map fun e=>V.int (e:Nat)):=by
 obtain⟨kvs,h1,h2,h3⟩:=h.ex;have:=DGet.k (k:=Sum.inl (b:Int)) h1;rw[h3] at this;exact this
theorem DF.new(h:DF H a f)(hb:H b=none):DF (upd H b o) a f:=h.same ((Same.refl H).new hb)
theorem key_inj{i j:Nat}:((Sum.inl (i:Int):Key)=Sum.inl (j:Int))↔i=j:=by grind
inductive DS (H:Hp) (n:List Nat):List Addr->List Pt->Prop
 |nil:DS H n [] []
 |cons {d:Addr} {p:Pt} {ds:List Addr} {ps:List Pt}:DF H d (far p n (fits n ps))->DS H n ds ps->DS H n (d::ds) (p::ps)
theorem DS.same(h:DS H n ds ps)(sm:Same H H'):DS H' n ds ps:=by
 induction h with
 |nil=>exact .nil
 |cons a _ ih=>exact .cons (a.same sm) ih
theorem DS.keepL(h:DS H n ds ps)(k:∀b kvs,H b=some (.dK kvs)->H' b=some (.dK kvs)):DS H' n ds ps:=by
 induction h with
 |nil=>exact .nil
 |cons a _ ih=>obtain⟨kvs,a1,a2,a3⟩:=a.ex;exact .cons ⟨kvs,k _ _ a1,a2,a3⟩ ih
theorem DS.len(h:DS H n ds ps):ds.length=ps.length:=by
 induction h with
 |nil=>rfl
 |cons _ _ ih=>simp[ih]
theorem DS.get(h:DS H n ds ps):∀{i:Nat} {d:Addr},ds[i]?=some d->∃p,ps[i]?=some p/\DF H d (far p n (fits n (ps.drop (i+1)))):=by
 induction h with
 |nil=>simp_all
 | @cons d0 p ds ps a _ ih =>
  intro i d h;cases i with
  |zero=>simp_all
  |succ i =>simp_all
theorem x2l{kvs:List (Key×V)}{b e:Nat}{f:Nat->Option Nat}(h:∀c:Nat,valV kvs (Sum.inl (c:Int))=(f c).map fun e=>V.int (e:Nat))(c:Nat):
  valV (putK kvs (Sum.inl (b:Int)) (.int (e:Int))) (Sum.inl (c:Int))=((fun c=>if c=b then some e else f c) c).map fun e=>V.int (e:Nat):=by
 rw[z3n];by_cases z:c=b
 ·grind
 ·rw[if_neg (fun h=>z (key_inj.mp h)),h];show _=Option.map _ (if c=b then _ else _);rw[if_neg z]
abbrev vN(ns:List (List Nat)):List V:=ns.map fun n=>V.str (mk n)
theorem q0r(l:List Nat):(mk l).length=l.length:=by rw[len,q0y]
theorem dec_str(a b:List Nat):decide (V.str (mk a)=V.str (mk b))=decide (a=b):=by simp_all
theorem q2j{α:Type}{l:List α}{x:α}(h:l[i]?=some x):l.drop i=x::l.drop (i+1):=by
 have hi:=(Aq.mp h).1;rw[Pj hi];congr 1;exact(Aq.mp h).2
end K
namespace PySem.Rv
open Sem (wp)
namespace F
theorem q5e:mroOf (.type "reversed")=pure [.type "reversed",.type "object"]:=by rw[mroOf_type];kernel_rfl
theorem q3y:Pf (.type "reversed") "__new__" = pure (some (.builtin "reversed.__new__")):=by rw[Jz,Hb];kernel_rfl
theorem q4p:Slot "reversed" "__init__" "object.__init__" :=
 .of (owner := "object") (n := "__init__") (by rw[Jz,Hb];kernel_rfl) (by decide +kernel) (by decide +kernel) (by decide +kernel)
  (by first|exact .inl (by rw[Jo];kernel_rfl)|exact .inr (by rw[Jo];kernel_rfl)) (by rw[Iz];kernel_rfl)
theorem called_reversed:TypeCalled "reversed" "reversed.__new__" "object.__init__" :=
 ⟨by decide +kernel,by decide +kernel,⟨_,_,q5e⟩,madeBy_type q5e q3y (by decide +kernel),by decide +kernel,by rw[Iz];kernel_rfl,q4p⟩
theorem typeCall_reversed_1(a:Value):checkTypeCall "reversed" ⟨[a],[]⟩=pure ():=by kernel_rfl
theorem newCall_reversed_1(a:Value):checkBuiltinCall "reversed.__new__" ⟨[.type "reversed",a],[]⟩=pure ():=by kernel_rfl
theorem entry_reversed_new:Sg table "reversed.__new__" = some Cv.«reversed.__new__» := entryFor_of_tree (by kernel_rfl)
theorem slot_lrev_next:Slot "list_reverseiterator" "__next__" "list_reverseiterator.__next__" :=
 .of (owner := "list_reverseiterator") (n := "__next__") (by rw[Jz,Hb];kernel_rfl) (by decide +kernel) (by decide +kernel) (by decide +kernel)
  (by first|exact .inl (by rw[Jo];kernel_rfl)|exact .inr (by rw[Jo];kernel_rfl)) (by rw[Iz];kernel_rfl)
theorem entry_lrev_next:Sg table "list_reverseiterator.__next__" = some Cv.«list_reverseiterator.__next__» := entryFor_of_tree (by kernel_rfl)
theorem slot_lrev_iter:Slot "list_reverseiterator" "__iter__" "list_reverseiterator.__iter__" :=
 .of (owner := "list_reverseiterator") (n := "__iter__") (by rw[Jz,Hb];kernel_rfl) (by decide +kernel) (by decide +kernel) (by decide +kernel)
  (by first|exact .inl (by rw[Jo];kernel_rfl)|exact .inr (by rw[Jo];kernel_rfl)) (by rw[Iz];kernel_rfl)
theorem entry_lrev_iter:Sg table "list_reverseiterator.__iter__" = some Cv.«dict_keyiterator.__iter__» :=
 entryFor_alias (id' := "dict_keyiterator.__iter__") (by kernel_rfl) (by first|rfl|decide +kernel|(unfold String.splitOn;simp +decide [String.splitOnAux])) (by decide +kernel) (by kernel_rfl)
theorem q7n:Manifest.owners.lookup (String.ofList ['r', 'o', 't', 'a', 'r', 'e', 't', 'i', 'e', 's', 'r', 'e', 'v', 'e', 'r', '_', 't', 's', 'i', 'l'].reverse)=some Manifest.sig_list_reverseiterator:=by kernel_rfl
theorem args_lrev_next_1(a:Value):argsOk "list_reverseiterator.__next__" ⟨[a],[]⟩:=by
 unfold argsOk;rw[signature?_of (n:=['_', '_', 't', 'x', 'e', 'n', '_', '_']) (by kernel_rfl) q7n];kernel_rfl
theorem args_lrev_iter_1(a:Value):argsOk "list_reverseiterator.__iter__" ⟨[a],[]⟩:=by
 unfold argsOk;rw[signature?_of (n:=['_', '_', 'r', 'e', 't', 'i', '_', '_']) (by kernel_rfl) q7n];kernel_rfl
theorem sub_reversed:isSubtype (.type "reversed") (.type "reversed")=pure true:=by rw[Iz];kernel_rfl
theorem sub_lrev:isSubtype (.type "list_reverseiterator") (.type "reversed")=pure false:=by rw[Iz];kernel_rfl
end F
open Sem (wp)
def IsRevIter(h:Heap)(it l:Addr)(k:Int):Prop:=∃o,h.get? it=some o/\o.cls=.type "list_reverseiterator" /\ o.data=.fields #[.ref l,.int k 0]
section
variable{prog:Program}{w:World}{A:Around}{E:Value->Af->Prop}{s:Af}
theorem wpAny_pyNext_rev_item{k:Nat}{items}(hit:IsRevIter s.heap it l k)(hl:s.heap.IsList l items)(hx:items[k]?=some x)(hQ:∀h',IsRevIter h' it l ((k:Int)-1)->Eu it s.heap h'->Q (some x) { s with heap:=h' }):wpAny (model prog w) A (Iw (.ref it)) Q E s:=by
 obtain⟨o,ho,hc,hd⟩:=id hit;obtain⟨ol,hol,_,nl,hdl⟩:=hl;have hT:s.TypeIs (.ref it) "list_reverseiterator" := ⟨o,ho,hc⟩
 refine Ab (Eg (Cd hT F.slot_lrev_next
  (Bq F.slot_lrev_next hT F.entry_lrev_next ?_ (F.args_lrev_next_1 _))))
 show wpAny _ _ (field (.ref it) 1 >>= _) _ _ s;refine Ab (Bp ho hd rfl ?_);refine Ab (Bp ho hd rfl ?_);refine Ab (Ei hol hdl ?_);simp only[Hh,hx];refine Ab (Gq ho hd (by simp) (Ad ⟨x,rfl,Ad (hQ _ ?_ (Jt ..))⟩));exact⟨_,Es _ ho (Ja (Ey hd _)),(Ut ..).trans hc,by
  rw[Ey hd];simp[Dl]⟩
theorem wpAny_pyNext_rev_end(hh:A.handled=none)(hit:IsRevIter s.heap it l k)(hk:k<0)(hQ:∀h',Qt it s.heap h'->Q none { s with heap:=h' }):wpAny (model prog w) A (Iw (.ref it)) Q E s:=by
 obtain⟨o,ho,hc,hd⟩:=id hit;have hT:s.TypeIs (.ref it) "list_reverseiterator" := ⟨o,ho,hc⟩
 refine Ab (Eg (Cd hT F.slot_lrev_next
  (Bq F.slot_lrev_next hT F.entry_lrev_next ?_ (F.args_lrev_next_1 _))))
 show wpAny _ _ (field (.ref it) 1 >>= _) _ _ s;refine Ab (Bp ho hd rfl ?_);show wpAny _ _ (if (k<0) then _ else _) _ _ s;rw[if_pos hk];refine Ab (Ff (Ab ?_));refine Ab ?_;refine Ab (By ?_ (by size_fits));refine Ab (Js (by first|rfl|(simp only[Rl];rfl)) ?_);refine By ?_ (by size_fits);refine Ab (Sv ?_);rw[show A.in1.handled=none from hh];refine Ab (Ad (Vd ?_));refine Ab (Dz ⟨_,Ak _ rfl,rfl⟩ Kx ?_);exact Ad (hQ _ (fun b o _ e=>Ae _ (Ae _ e)))
theorem wpAny_pyIter_rev(hit:IsRevIter s.heap it l k)(h:Q (.ref it) s):wpAny (model prog w) A (Lm (.ref it)) Q E s:=by
 obtain⟨o,ho,hc,hd⟩:=id hit;have hT:s.TypeIs (.ref it) "list_reverseiterator" := ⟨o,ho,hc⟩
 refine Ox hT F.slot_lrev_iter (Bq F.slot_lrev_iter hT F.entry_lrev_iter ?_ (F.args_lrev_iter_1 _));exact Ad ⟨_,rfl, "list_reverseiterator",_,hT,F.slot_lrev_next.lookup,h⟩
theorem q3z(l:Addr)(items:Array Value)(n:Nat):
  Meets (Cv.«reversed.__new__» ⟨[.type "reversed",.ref l],[]⟩) (fun _ R s=>s.heap.get? l=some { cls:=.type "list",dict:=none,data:=.seq items n,slots:=#[] } /\
   R (.ok (.ret (.ref s.heap.objs.size))) { s with heap:=s.heap.push { cls:=.type "list_reverseiterator",data:=.fields #[.ref l,Dl (((items.size:Nat):Int)-1)] } }) :=
 .of_wp fun prog w A R s h=>by
  obtain⟨hp,g,d,tk,os⟩:=s;obtain⟨hl,h⟩:=h;have hT:Af.TypeIs ⟨hp,g,d,tk,os⟩ (.ref l) "list" := ⟨_,hl,rfl⟩
  wp_walk
  refine Js F.sub_reversed ?_
  wp_walk
  refine Js Jj.lookup ?_
  wp_walk
  refine Js (Jj.bind (Value.ref l)) ?_
  wp_walk
  have key:Fw (model prog w) A.in1 (Code.call (.builtin "list.__reversed__") ⟨[.ref l],[]⟩) (fun r s'=>r=.ok (.ret (.ref hp.objs.size))/\s'=(⟨hp.push { cls:=.type "list_reverseiterator",data:=.fields #[.ref l,Dl (((items.size:Nat):Int)-1)] },g,d,tk,os⟩:Af)) ⟨hp,g,d,tk,os⟩ :=
   Hn Jj.plain F.entry_list_reversed (Jj.check _ _ _ _ _ _ _ _ hT (F.args_list_reversed_1 _) (AutoListH.list___reversed___list_0 l items n prog w A.in1 (fun r s'=>r=.ok (.ret (.ref hp.objs.size))/\s'=(⟨hp.push { cls:=.type "list_reverseiterator",data:=.fields #[.ref l,Dl (((items.size:Nat):Int)-1)] },g,d,tk,os⟩:Af)) ⟨hp,g,d,tk,os⟩ ⟨hl,rfl,rfl⟩))
  refine Gw key fun r s' hr=>?_;obtain⟨rfl,rfl⟩:=hr;exact Ad ⟨_,rfl,h⟩
theorem q6y(ft:TypeCalled T newId initId)(hsubU:isSubtype (.type U) (.type T)=pure false)(hct:checkTypeCall T ⟨args,[]⟩=pure ())(hcn:checkBuiltinCall newId ⟨.type T::args,[]⟩=pure ())(entryN:Sg table newId=some Bn)(g:Meets (Bn ⟨.type T::args,[]⟩) S)(h:S A.in1 (wants (fun obj s₁=>s₁.TypeIs obj U/\Q obj s₁) E) s):wpAny (model prog w) A (call (.type T) args) Q E s:=by
 obtain⟨c,tl,hmro⟩:=ft.mro;have hmade:=ft.made;refine Jg (codeAny_of_tree ?_);refine Ad ⟨Ob _ (by decide +kernel),Hc F.entry_type_call ?_⟩;have h1:=ft.notType;have h2:=ft.canCreate;repeat (any_goals (first|assumption|wp_step))
 refine Gw (Hn ft.plain entryN (Js hcn (g prog w A.in1 _ s h))) fun r s₁ hr=>?_;cases r with
 |error e=>exact hr
 |ok fl =>
  cases fl with
  |ret obj =>
   obtain⟨hT,hq⟩:=hr;repeat (any_goals (first|assumption|wp_step))
  |_=>exact hr.elim
theorem call_reversed_list(hl:s.heap.get? l=some { cls:=.type "list",dict:=none,data:=.seq items n,slots:=#[] })(h:Q (.ref s.heap.objs.size) { s with heap:=s.heap.push { cls:=.type "list_reverseiterator",data:=.fields #[.ref l,Dl (((items.size:Nat):Int)-1)] } }):
  wpAny (model prog w) A (call (.type "reversed") [.ref l]) Q E s :=
 q6y F.called_reversed F.sub_lrev (F.typeCall_reversed_1 _) (F.newCall_reversed_1 _) F.entry_reversed_new (q3z l items n) ⟨hl,⟨_,Ak _ rfl,rfl⟩,h⟩
end
end PySem.Rv
namespace L2
open PySem PySem.Spec PyProof.Rows
def Itv(K:Ah)(a:Addr)(n:Nat):It :=
 ⟨fun i H=>∃xs x,SqL K H a xs/\xs.length=n/\xs.reverse[i]?=some x,fun i H x H'=>H'=H/\∀xs,SqL K H a xs->xs.reverse[i]?=some x,fun i _=>n<=i⟩
theorem z5a(x:PySem.Rv.IsRevIter h it l k)(e:∀o,h.get? it=some o->h'.get? it=some o):PySem.Rv.IsRevIter h' it l k:=let ⟨o,ho,r⟩:=x;⟨o,e _ ho,r⟩
theorem x0i{K:Ah}(a it:Addr)(n:Nat):Turn P w K tg (Itv K a n) [it] it (fun i h=>PySem.Rv.IsRevIter h it a ((n:Int)-1-i)) where
 mem:=by simp
 obj:=fun i h st b hb=>by
  have e:b=it:=by grind
  subst e;obtain⟨o,e,c,d⟩:=st;exact⟨o,e,fun v z=>by rw[d] at z;cases z⟩
 keep:=fun i h h' st k=>z5a st fun o e=>k it (by simp) o e
 item:=by
  intro X hP hw hK hc i pins s σ H E I hf st hg;subst hP hw hK;obtain⟨xs,x,hq,hn,hx⟩:=hg;obtain⟨its,rv,p,hz⟩:=I.list hq;have hi:i<xs.length:=by have:=(Aq.mp hx).1;simpa using this
  have hx':xs[xs.length-1-i]?=some x:=by grind
  obtain⟨u,hu,ru⟩:=rv.get hx';obtain⟨f0,f1,f2,f3,f4,f5⟩:=hf it (by simp);have est:((n:Int)-1-(i:Int))=((xs.length-1-i:Nat):Int):=by lia
  have st1:PySem.Rv.IsRevIter s.heap it a ((xs.length-1-i:Nat):Int):=by simp_all
  refine PySem.Rv.wpAny_pyNext_rev_item st1 p.isList (by simpa using hu) fun h' st' sb=>?_;have I1:Inv X pins σ H { s with heap:=h' }:=I.turned (t':=s.toks) (fun b o hb e=>(sb.2 b hb).trans e) f0 f1 f3 f4 f5;obtain⟨o,e,c,d⟩:=id st';refine⟨u,rfl,z1u e c d (by decide) ⟨x,H,I1,ru,⟨rfl,fun ys hy=>by rw[I.list_inj hy hq];exact hx⟩,?_,fun b hb=>(hf b hb).1⟩⟩;have e2:((n:Int)-1-((i+1:Nat):Int))=((xs.length-1-i:Nat):Int)-1:=by lia
  rw[e2];exact st'
 done:=by
  intro X hP hw hK hc i pins s σ H E I hf st hg;obtain⟨f0,f1,f2,f3,f4,f5⟩:=hf it (by simp);have hle:n<=i:=hg;exact PySem.Rv.wpAny_pyNext_rev_end (I.ok.hd hc) st (by lia) fun h' eb=>⟨rfl,I.turned (t':=s.toks) (fun b o hb e=>eb b o hb e) f0 f1 f3 f4 f5⟩
 self:=fun _ _ _ _ _ st h=>PySem.Rv.wpAny_pyIter_rev st h
section
variable{X:Cx}{tg:Expr}
def iRev(K:Ah)(ta:TA):TI:=fun σ H R=>ta σ H fun vs H1=>∃a xs,vs=[.ref a]/\H1 a=some (.lst xs)/\R (Itv K a xs.length) H1
theorem pi_rev(hg:Gl X "reversed")(hm:X.mg "reversed" = none)(ha:PA X [a] ta)(hs:Ax [a] X.env=[(false,eval a X.env)]:=by rfl):
  PI X tg (.Call (.Name "reversed" p) [a] [] pos) (iRev X.K ta):=by
 intro pins s σ H R I h;refine Call_ (q5b I hg hm (by decide +kernel:Gv "reversed" = some (.type "reversed")) (Dg (thn (ha pos pins s σ H _ I h) fun us s1 ⟨vs,H1,I1,r1,q1⟩=>?_) hs rfl));obtain⟨l,xs,e,hq,q⟩:=q1;subst e;obtain⟨u,rfl,r⟩:=vals1 r1;cases r;obtain⟨z,its,n,rv,hl,e⟩:=I1.lstM hq;refine PySem.Rv.call_reversed_list e ?_;have hit:PySem.Rv.IsRevIter (s1.heap.push { cls:=.type "list_reverseiterator",data:=.fields #[.ref l,Dl (((its.toArray.size:Nat):Int)-1)] }) s1.heap.objs.size l ((xs.length:Int)-1-((0:Nat):Int)):=by
  refine⟨_,Ak _ rfl,rfl,?_⟩;rw[Aw,<- hl];simp[Dl]
 refine PySem.Rv.wpAny_pyIter_rev hit ?_;refine⟨s1.heap.objs.size,[s1.heap.objs.size],_,_,H1,rfl,I1.kept (t':=s1.toks) fun b o e=>Ae _ e,x0i l _ xs.length,hit,fun b hb=>?_,q⟩;have e:b=s1.heap.objs.size:=by grind
 subst e;exact I1.fpOk (Aj _) (I1.hok.fresh (Aj _))
theorem rev_k{a:Expr}{ta:TA}{p pos:Pos}(K:Ah)(hK:X.K=K)(hg:Gl X "reversed")(hm:X.mg "reversed" = none)(ha:PA X [a] ta)(hs:Ax [a] X.env=[(false,eval a X.env)]:=by rfl):
  PI X tg (.Call (.Name "reversed" p) [a] [] pos) (iRev K ta):=by subst hK;exact pi_rev hg hm ha hs
theorem x4e{K:Mp}{g:TG}{tb:TS}{D:Ends}(Pv:Nat->St->Hp->Prop)(h0:Pv 0 σ H)(hl:∀i σ H,Pv i σ H->SqL K H a xs)(hs:∀i x σ H,xs.reverse[i]?=some x->Pv i σ H->g x σ H fun σ2 H2=>tb { D with nx:=Pv (i+1),ct:=Pv (i+1),bk:=D.nx } σ2 H2)(hd:∀σ H,Pv xs.length σ H->D.nx σ H):
  ∃W:Nat->Nat->St->Hp->Prop,(∃m,W 0 m σ H)/\∀i m σ H,W i m σ H ->
   ((Itv K a xs.length).stop i H/\D.nx σ H)\/((Itv K a xs.length).go i H/\∃N:St->Hp->Prop,(∀σ' H',N σ' H'->∃m',m'<m/\W (i+1) m' σ' H')/\∀x H',(Itv K a xs.length).yld i H x H'->g x σ H' fun σ2 H2=>tb { D with nx:=N,ct:=N,bk:=D.nx } σ2 H2):=by
 refine q9w Pv h0 (fun i σ H h p=>⟨xs,xs.reverse[i]'(by simpa using h),hl i σ H p,rfl,Bl _⟩) (fun σ H _=>Aj _) (fun i v σ H H' h p yl=>?_) hd;obtain⟨rfl,y⟩:=yl;exact hs i v σ _ (y xs (hl i σ _ p)) p
end
theorem Inv.freezeK{σ:St}(I:Inv X pins σ H s)(hd:H d=some u)(ho:s.heap.get? d=some ob)(hu:(∃kvs,u=.dK kvs)\/∃kvs,u=.dT kvs):Inv X pins σ (upd H d (.frz ob u)) s:=by
 have no:∀{v:HO} {b:Addr},H b=some v->((∀kvs,v≠.dK kvs)/\∀kvs,v≠.dT kvs)->b≠d:=fun{v b} z hv y=>by
  subst y;rw[hd] at z;cases z;rcases hu with⟨kvs,rfl⟩|⟨kvs,rfl⟩
  ·exact hv.1 _ rfl
  ·exact hv.2 _ rfl
 have nn:∀{b:Addr},H b=none->b≠d:=fun{b} z y=>by subst y;rw[hd] at z;cases z
 refine⟨I.ok,I.os,I.bare,⟨I.base.keep,I.base.slot,fun b o e n hx=>?_,I.base.there,fun b xs e=>?_,fun b o v e=>?_,fun b ps e=>?_⟩,I.loc,I.cell,?_,fun x c e=>?_,fun p hp=>?_,fun b v e=>?_,I.len⟩
 ·have z:=I.base.free b o e n hx;rw[q0f (nn z)];exact z
 ·have z:=I.base.tups b xs e;rw[q0f (no z ⟨fun _ y=>(by cases y),fun _ y=>(by cases y)⟩)];exact z
 ·have z:=I.base.frzs b o v e;rw[q0f (no z ⟨fun _ y=>(by cases y),fun _ y=>(by cases y)⟩)];exact z
 ·obtain⟨m,z⟩:=I.base.tbls b ps e;exact⟨m,by rw[q0f (no z ⟨fun _ y=>(by cases y),fun _ y=>(by cases y)⟩)];exact z⟩
 ·rw[q0f (nn I.free)];exact I.free
 ·rw[q0f (nn (I.freeC x c e))];exact I.freeC x c e
 ·obtain⟨e,n,ne,nf',dd⟩:=I.pin p hp;exact⟨e,by rw[q0f (nn n)];exact n,ne,nf',dd⟩
 ·have st:∀{b:Addr} {v:HO},ObjOk X.prog X.w H s.heap b v->ObjOk X.prog X.w (upd H d (.frz ob u)) s.heap b v:=fun x =>
   x.stay (fun _ _ _ q=>q) (fun c q=>by rw[q0f (no q ⟨fun _ y=>(by cases y),fun _ y=>(by cases y)⟩)];exact q) fun c xs q=>by rw[q0f (no q ⟨fun _ y=>(by cases y),fun _ y=>(by cases y)⟩)];exact q
  by_cases hb:b=d
  ·subst hb;rw[q0c] at e;cases e;exact⟨ho,st (I.hok b u hd)⟩
  ·rw[q0f hb] at e;exact st (I.hok b v e)
end L2
namespace K
open PySem L2 TX
theorem q8k(l:Option Int)(len:Nat)(h:(len:Int)<=j):Je l (some j) 1 len=Je l (some (len:Int)) 1 len:=by
 have a:¬(j<0):=by lia
 have b:¬((len:Int)<0):=by lia
 have c:min j (len:Int)=(len:Int):=by lia
 simp[Je,a,b,c]
theorem z0c{l:List Nat}(h1:i<=j)(h2:i<=l.length):We (mk l) (some (i:Int)) (some (j:Int))=mk ((l.drop i).take (j-i)):=by
 have hlen:(mk l).cps.toList=l:=q0y l;by_cases h:j<=l.length
 ·show Gg (mk l) (some (i:Int)) (some (j:Int))=_;rw[Rm (mk l) h1 (by rw[q0r];exact h),hlen]
 ·have e:Gg (mk l) (some (i:Int)) (some (j:Int))=Gg (mk l) (some (i:Int)) (some (((mk l).length:Nat):Int)):=by
   unfold Gg;rw[q8k (some (i:Int)) (mk l).length (by rw[q0r];lia)]
  show Gg (mk l) (some (i:Int)) (some (j:Int))=_;rw[e,Rm (mk l) (by rw[q0r];exact h2) (Aj _),hlen,q0r];rw[Fp (by rw[De];lia),Fp (by rw[De];lia)]
end K
namespace L2
open PySem PySem.Spec PyProof.Rows
section
variable{X:Cx}
theorem z7e:CallR X (.type "int") (fun xs H Q=>∃x n,xs=[.str x]/\Ky x=some n/\x.length<=640/\Q (.int n) H):=by
 intro pins s σ H xs us Q I r h;obtain⟨x,n,rfl,h1,h2,q⟩:=h;obtain⟨u,rfl,t,rfl⟩:=vals1 r;exact W.KIN.call_text h1 h2 ⟨.int n,H,I.tok _,⟨_,rfl⟩,q⟩
theorem q3e:CallR X (.type "int") (fun xs H Q=>((∃i,xs=[.int i]/\Q (.int i) H)\/∃k,xs=[.bl k]/\Q (.int (if k then 1 else 0)) H)\/∃x n,xs=[.str x]/\Ky x=some n/\x.length<=640/\Q (.int n) H):=call_int1.or z7e
end
end L2
namespace K
open PySem L2 TX
def dg(m:Nat):List Nat:=tl (Ac (toString (m:Int)))
theorem x4f(m:Nat):Ac (toString (m:Int))=mk (dg m):=(z4w _).symm
theorem x0j(m:Nat):dg m=(Nat.toDigits 10 m).map Char.toNat:=W.KIN.signs_num m
theorem q2k(h:m<10):dg m=[48+m]:=by
 rw[x0j,Nat.toDigits_of_lt_base h];exact(by decide:∀m:Nat,m<10->[Nat.digitChar m].map Char.toNat=[48+m]) m h
theorem z2e(h:10<=m):dg m=dg (m / 10)++[48+m%10]:=by
 have hm:m%10<10:=Nat.mod_lt m (by decide);have t:Nat.toDigits 10 (m / 10)++Nat.toDigits 10 (m%10)=Nat.toDigits 10 (10*(m / 10)+m%10):=Nat.toDigits_append_toDigits (by decide) (by lia) hm;rw[Nat.div_add_mod] at t;rw[x0j,x0j,<- t,Av];congr 1;exact(x0j (m%10)).symm.trans (q2k hm)
theorem x2m(m:Nat):∀c∈dg m,c∈FI:=by
 have hf:∀d:Nat,d<10->48+d∈FI:=by decide +kernel
 induction m using Nat.strongRecOn with
 |_ m ih =>
  by_cases h:m<10
  ·rw[q2k h];intro c hc;rw[Ar.mp hc];exact hf m h
  ·rw[z2e (by lia)];intro c hc;rcases Au.mp hc with z|z
   ·grind
   ·rw[Ar.mp z];exact hf _ (Nat.mod_lt m (by decide))
theorem z7f(m:Nat):∃d r,dg m=(48+d)::r/\d<10/\(d=0->m=0/\r=[]):=by
 induction m using Nat.strongRecOn with
 |_ m ih =>
  by_cases h:m<10
  ·exact⟨m,[],q2k h,h,fun z=>⟨z,rfl⟩⟩
  ·obtain⟨d,r,h1,h2,h3⟩:=ih (m / 10) (by lia);refine⟨d,r++[48+m%10],by rw[z2e (by lia),h1];rfl,h2,fun z=>?_⟩;have:=(h3 z).1;lia
theorem z0d:∀(k m:Nat),m<10^(k+1)->(dg m).length<=k+1
 |0,m,h=>by rw[q2k (by simpa using h)];exact Aj _
 |k+1,m,h=>by
  by_cases hz:m<10
  ·rw[q2k hz];simp
  ·rw[z2e (by lia),Ai,Bc];have:=z0d k (m / 10) (by rw[Nat.pow_succ] at h;lia);lia
theorem dg_pos(m:Nat):1<=(dg m).length:=by obtain⟨d,r,h,_⟩:=z7f m;rw[h];simp
theorem z7g(h:m<10^10):Ky (mk (dg m))=some (m:Int):=by
 exact W.KIN.num_reads (by lia) (by lia)
end K
namespace L2
open PySem PySem.Spec PyProof.Rows
structure KDict (P:Program) (w:World) (K:Ah) (d:Addr) (kvs:List (Key×V)):Prop where
 ex:∃ob vs,K.lookup d=some ob/\KV kvs vs/\∀h:Heap,h.get? d=some ob->h.DictOf (mixKind P w) d vs
def tKGet(kvs:List (Key×V))(ty:TE):TE:=fun σ H Q=>ty σ H fun y H1=>∃k v,y=kV k/\valV kvs k=some v/\Q v H1
theorem x4g{X:Cx}{x:Str}{d:Addr}{kvs:List (Key×V)}{i:Expr}{ty:TE}{p pos:Pos}(hg:Gl X x)(hm:X.mg x=some (.ref d))(D:KDict X.prog X.w X.K d kvs)(hi:PE X i ty)(hs:NoSl i)(hdb:(x==("__debug__" : Str))=false:=by decide):
  PE X (.Subscript (.Name x p) i pos) (tKGet kvs ty):=by
 intro pins s σ H Q I h;refine z7c Ph.lookup hs (q2p I hg hm (thn (hi pins s σ H _ I h) fun iv s2 ⟨y,H2,I2,ry,k,v,ey,l,q2⟩=>?_) hdb);subst ey;obtain⟨ob,vs,hk,rel,hd⟩:=D.ex;have dd:=hd _ (I2.kIn d ob hk);obtain⟨w',hw,rw'⟩:=RelO.some_of (by rw[<- l];exact rel.val k);exact⟨dd.typeIs,wpAny_getItem_of (q8f ry) dd.mapOf hw ⟨v,H2,I2.tok _,rw',q2⟩⟩
section
variable{X:Cx}
theorem x0k:PGet X (rIxL X.K):=by
 intro pins s σ H x y v u Q I rx ry h;obtain⟨p,xs,i,z,rfl,rfl,hq,he,q⟩:=h;cases rx;obtain⟨t,rfl⟩:=ry;obtain⟨its,r,pl,hz⟩:=I.list hq;obtain⟨j,h1,h2,h3,h4,h5⟩:=q7x he;obtain⟨w,ew,rw'⟩:=r.get h2;have hl:=r.length;have hn:=line63;have fin:EP X pins σ Q w s:=⟨z,H,I,rw',q⟩
 by_cases h0:0<=i
 ·have hj:i.toNat=j:=by
   rw[Qp h0 h5] at h1;exact Bs h1
  exact wpAny_getItem_list pl.isList h0 (by lia) (by rw[hj];simpa using ew) fin
 ·have hj:(i+(its.toArray.size:Int)).toNat=j:=by
   rw[seqIndex_neg (by lia) h4] at h1;rw[Aw,<- hl];exact Bs h1
  exact Qs pl.isList (by lia) (by rw[Aw]<;>lia) (by lia) (by rw[hj];simpa using ew) fin
theorem get_k(K:Ah)(hK:X.K=K):PGet X (rIxL K):=by subst hK;exact x0k
end
open PySem PySem.Spec PyProof.Rows
theorem Inv.thaw{σ:St}(I:Inv X pins σ H s)(hd:H d=some (.frz ob u))(h0:∀o v,X.H₀ d≠some (.frz o v)):Inv X pins σ (upd H d u) s:=by
 have no:∀{v:HO} {b:Addr},H b=some v->(∀o z,v≠.frz o z)->b≠d:=fun{v b} z hv y=>by
  subst y;rw[hd] at z;cases z;exact hv _ _ rfl
 have nn:∀{b:Addr},H b=none->b≠d:=fun{b} z y=>by subst y;rw[hd] at z;cases z
 refine⟨I.ok,I.os,I.bare,⟨I.base.keep,I.base.slot,fun b o e n hx=>?_,I.base.there,fun b xs e=>?_,fun b o v e=>?_,fun b ps e=>?_⟩,I.loc,I.cell,?_,fun x c e=>?_,fun p hp=>?_,fun b v e=>?_,I.len⟩
 ·have z:=I.base.free b o e n hx;rw[q0f (nn z)];exact z
 ·have z:=I.base.tups b xs e;rw[q0f (no z fun _ _ y=>(by cases y))];exact z
 ·have z:=I.base.frzs b o v e;rw[q0f (fun y=>by subst y;exact h0 _ _ e)];exact z
 ·obtain⟨m,z⟩:=I.base.tbls b ps e;exact⟨m,by rw[q0f (no z fun _ _ y=>(by cases y))];exact z⟩
 ·rw[q0f (nn I.free)];exact I.free
 ·rw[q0f (nn (I.freeC x c e))];exact I.freeC x c e
 ·obtain⟨e,n,ne,nf',dd⟩:=I.pin p hp;exact⟨e,by rw[q0f (nn n)];exact n,ne,nf',dd⟩
 ·have st:∀{b:Addr} {v:HO},ObjOk X.prog X.w H s.heap b v->ObjOk X.prog X.w (upd H d u) s.heap b v:=fun x =>
   x.stay (fun _ _ _ q=>q) (fun c q=>by rw[q0f (no q fun _ _ y=>(by cases y))];exact q) fun c xs q=>by rw[q0f (no q fun _ _ y=>(by cases y))];exact q
  by_cases hb:b=d
  ·subst hb;rw[q0c] at e;cases e;exact st (I.hok b _ hd).2
  ·rw[q0f hb] at e;exact st (I.hok b v e)
def Ends.thaw(D:Ends)(d:Addr):Ends where
 nx:=fun σ H=>∃ob u,H d=some (.frz ob u)/\D.nx σ (upd H d u)
 rt:=fun v H=>∃ob u,H d=some (.frz ob u)/\D.rt v (upd H d u)
 bk:=fun σ H=>∃ob u,H d=some (.frz ob u)/\D.bk σ (upd H d u)
 ct:=fun σ H=>∃ob u,H d=some (.frz ob u)/\D.ct σ (upd H d u)
def tThaw(h₀:Hp)(t:TS):TS:=fun D σ H=>∃d,(∀o v,h₀ d≠some (.frz o v))/\t (D.thaw d) σ H
theorem x4h{X:Cx}{st:Stmt}{t:TS}(h₀:Hp)(hH:X.H₀=h₀)(h:PS X st t):PS X st (tThaw h₀ t):=by
 subst hH;intro pins s σ H D I q;obtain⟨d,hd,q⟩:=q;refine Bx (h pins s σ H _ I q) (fun f s' z=>?_) fun _ _ z=>z;cases f with
 |next=>obtain⟨σ',H',I',ob,u,e,n⟩:=z;exact⟨σ',_,I'.thaw e hd,n⟩
 |brk=>obtain⟨σ',H',I',ob,u,e,n⟩:=z;exact⟨σ',_,I'.thaw e hd,n⟩
 |cont=>obtain⟨σ',H',I',ob,u,e,n⟩:=z;exact⟨σ',_,I'.thaw e hd,n⟩
 |ret v=>obtain⟨x,σ',H',I',r,ob,u,e,n⟩:=z;exact⟨x,σ',_,I'.thaw e hd,r,n⟩
end L2
namespace PySem.Rv
open Sem (wp)
section
variable{prog:Program}{w:World}{A:Around}{E:Value->Af->Prop}{s:Af}{it d:Addr}{i ep:Nat}{dob:Obj}{ens:Array Kg}
theorem keys_iter(hsys:(d==Cu)=false)(hT:s.TypeIs (.ref d) "dict")(hdo:s.heap.get? d=some dob)(hda:dob.data=.dict ens ep)(hQ:Q (.ref s.heap.objs.size) { s with heap:=s.heap.push { cls:=.type "dict_keyiterator",data:=.fields #[.ref d,.int 0 0,.int ens.size 0,.int ep 0] } }):
  wpAny (model prog w) A (Lm (.ref d)) Q E s:=by
 refine Ox hT Vm (Bq Vm hT F.entry_dict_iter ?_ (F.args_dict_iter_1 _));refine Ab (Ab (Me hT (Ad ?_)));show wpAny _ _ (Mg d >>= _) _ _ s;unfold Mg;rw[if_neg (by rw[hsys];decide)];refine Ab (Ad (Ab (Hi hdo hda (Ab (Ij hdo hda ?_)))));refine Ab (By (Ad ⟨_,rfl, "dict_keyiterator",_,⟨_,Ak _ rfl,rfl⟩,Fg.lookup,?_⟩));simpa[Dl] using hQ
theorem keys_item(hki:s.heap.IsKeyIter it d i ens.size ep)(hdo:s.heap.get? d=some dob)(hda:dob.data=.dict ens ep)(hlt:i<ens.size)(hQ:∀h',h'.IsKeyIter it d (i+1) ens.size ep->Eu it s.heap h'->Q (some ens[i].key) { s with heap:=h' }):wpAny (model prog w) A (Iw (.ref it)) Q E s:=by
 obtain⟨io,hio,hic,hid⟩:=id hki;refine Ab (Eg (Cd hki.typeIs Fg
  (Bq Fg hki.typeIs Nf ?_ (My _))))
 refine Ab (Ad (Ab (Ab ?_)));first|refine Ab (Gj hki.typeIs (Ad ?_))|refine Ab (Hy hki.typeIs (Ad ?_))
 refine Ab (Nm hio hid ?_);refine Ab (Ad (Ab (Hi hdo hda ?_)));rw[if_neg (by simp)];refine Ab (Ad (Ab (Ij hdo hda ?_)));rw[if_neg (by simp)];refine Ad ?_;simp only[show ¬((i:Int)<0) from by lia,if_false,Hh,Ep hlt];refine Ab ?_;first|refine Ab (Gj hki.typeIs (Ad ?_))|refine Ab (Hy hki.typeIs (Ad ?_))
 refine Ab (Rn hki.typeIs ?_);show wpAny _ _ (setField (.ref it) 1 (Dl ((i:Int)+1)) >>= _) _ _ s;refine Ab (Gq hio hid (by simp) ?_);have hki2:(s.heap.update it (Fu (·.setIfInBounds 1 (Dl ((i:Int)+1))))).IsKeyIter it d (i+1) ens.size ep :=
  ⟨_,Es _ hio (Ja (Ey hid _)),(Ut ..).trans hic,by rw[Ey hid];simp[Dl]⟩
 refine Ab (Cm (Ab (Rn (s:={ s with heap:=s.heap.update it (Fu (·.setIfInBounds 1 (Dl ((i:Int)+1)))) }) hki2.typeIs ?_)));exact Ad (Ad ⟨_,rfl,Ad (hQ _ hki2 (Jt ..))⟩)
theorem keys_end(hh:A.handled=none)(hki:s.heap.IsKeyIter it d i ens.size ep)(hdo:s.heap.get? d=some dob)(hda:dob.data=.dict ens ep)(hge:ens.size<=i)(hQ:∀h',Qt it s.heap h'->Q none { s with heap:=h' }):wpAny (model prog w) A (Iw (.ref it)) Q E s:=by
 obtain⟨io,hio,hic,hid⟩:=id hki;refine Ab (Eg (Cd hki.typeIs Fg
  (Bq Fg hki.typeIs Nf ?_ (My _))))
 refine Ab (Ad (Ab (Ab ?_)));first|refine Ab (Gj hki.typeIs (Ad ?_))|refine Ab (Hy hki.typeIs (Ad ?_))
 refine Ab (Nm hio hid ?_);refine Ab (Ad (Ab (Hi hdo hda ?_)));rw[if_neg (by simp)];refine Ab (Ad (Ab (Ij hdo hda ?_)));rw[if_neg (by simp)];refine Ad ?_;simp only[show ¬((i:Int)<0) from by lia,if_false,Hh,Qv hge];refine Ab ?_;first|refine Ab (Gj hki.typeIs (Ad ?_))|refine Ab (Hy hki.typeIs (Ad ?_))
 show wpAny _ _ (setField (.ref it) 0 .none >>= _) _ _ s;refine Ab (Gq hio hid (by simp) ?_);refine Ab ?_;refine Ab (By ?_ (by size_fits));refine Ab (Js (by first|rfl|(simp only[Rl];rfl)) ?_);refine By ?_ (by size_fits);refine Ab (Sv ?_);rw[show A.in1.handled=none from hh];refine Ab (Ad (Vd ?_));refine Ab (Dz ⟨_,Ak _ rfl,rfl⟩ Kx ?_);exact Ad (hQ _ (((Jt ..).extBut.push _).push _))
end
end PySem.Rv
namespace L2
open PySem PySem.Spec PyProof.Rows
def Itk(d:Addr)(ob:Obj)(kvs:List (List Key×V)):It :=
 ⟨fun i H=>H d=some (.frz ob (.dT kvs))/\i<kvs.length,fun i H x H'=>H'=H/\∃k v b,kvs[i]?=some (k,v)/\H b=some (.tup (k.map kV))/\x=.ref b,fun i H=>H d=some (.frz ob (.dT kvs))/\kvs.length<=i⟩
theorem Dj.at'{F:α->β->Prop}:∀{l:List α} {m:List β} {i:Nat} {p:α},Dj F l m->l[i]?=some p->∃q,m[i]?=some q/\F p q
 |_,_,0,_,.cons h t,e=>by simp at e;subst e;exact⟨_,rfl,h⟩
 |_,_,i+1,_,.cons h t,e=>by
  obtain⟨q,h1,h2⟩:=Dj.at' t (by simpa using e);exact⟨q,by simpa using h1,h2⟩
theorem z7h(ok:HOk P w H h)(hfz:H d=some (.frz ob (.dT kvs)))(hob:ob.data=.dict ens ep):
  h.get? d=some ob/\ens.size=kvs.length/\∀{i:Nat} {k:List Key} {v:V} (hlt:i<ens.size),kvs[i]?=some (k,v)->∃b,ens[i].key=.ref b/\H b=some (.tup (k.map kV)):=by
 obtain⟨hget,z,hsys,xs,hp,o,es,ep',h1,h2,h3,h4,h5⟩:=(show ObjOk P w H h d (.frz ob (.dT kvs)) from ok d _ hfz)
 rw[hget] at h1;cases h1;rw[hob] at h3;cases h3;have hl:=Ed hp;have hz:ens.size=xs.length:=by rw[<- Gn,h4,Ag]
 refine⟨hget,by lia,fun{i k v} hlt hk=>?_⟩;obtain⟨q,hq,e1,e2,e3⟩:=Dj.at' hp hk;refine⟨q.2.1,?_,e2⟩;have:ens.toList[i]?=some (Pb (Kc (mixKind P w)) q):=by simp_all
 rw[Mh,Ep hlt] at this;injection this with this;rw[this];rfl
theorem z5b{K:Ah}(d it:Addr)(ob:Obj)(kvs:List (List Key×V))(ens:Array Kg)(ep:Nat)(hob:ob.data=.dict ens ep):
  Turn P w K tg (Itk d ob kvs) [it] it (fun i h=>h.IsKeyIter it d i ens.size ep) where
 mem:=by simp
 obj:=fun i h st b hb=>by
  have e:b=it:=by grind
  subst e;obtain⟨o,e,c,dd⟩:=st;exact⟨o,e,fun v z=>by rw[dd] at z;cases z⟩
 keep:=fun i h h' st k=>st.at fun o e=>k it (by simp) o e
 item:=by
  intro X hP hw hK hc i pins s σ H E I hf st hg;obtain⟨hfz,hi⟩:=hg;obtain⟨hget,hsz,hkey⟩:=z7h I.hok hfz hob;obtain⟨f0,f1,f2,f3,f4,f5⟩:=hf it (by simp);obtain⟨⟨k,v⟩,hkv⟩:∃p,kvs[i]?=some p:=⟨kvs[i],by simp[hi]⟩
  have hlt:i<ens.size:=by lia
  obtain⟨b,hb1,hb2⟩:=hkey hlt hkv;refine PySem.Rv.keys_item st hget hob hlt fun h' st' sb=>?_
  rw[hb1];have I1:Inv X pins σ H { s with heap:=h' }:=I.turned (t':=s.toks) (fun b o hb e=>(sb.2 b hb).trans e) f0 f1 f3 f4 f5;obtain⟨o,e,c,dd⟩:=id st';exact⟨.ref b,rfl,z1u e c dd (by decide) ⟨.ref b,H,I1,rfl,⟨rfl,k,v,b,hkv,hb2,rfl⟩,st',fun b hb=>(hf b hb).1⟩⟩
 done:=by
  intro X hP hw hK hc i pins s σ H E I hf st hg;obtain⟨hfz,hi⟩:=hg;obtain⟨hget,hsz,hkey⟩:=z7h I.hok hfz hob;obtain⟨f0,f1,f2,f3,f4,f5⟩:=hf it (by simp);exact PySem.Rv.keys_end (I.ok.hd hc) st hget hob (by lia) fun h' eb=>⟨rfl,I.turned (t':=s.toks) (fun b o hb e=>eb b o hb e) f0 f1 f3 f4 f5⟩
 self:=fun _ _ _ _ _ st h=>wpAny_pyIter_keyiter st h
section
variable{X:Cx}{tg l:Expr}{tl:TE}
def iDictT(tl:TE):TI:=fun σ H R=>tl σ H fun x H1=>∃d kvs,x=.ref d/\H1 d=some (.dT kvs)/\∀ob,R (Itk d ob kvs) (upd H1 d (.frz ob (.dT kvs)))
theorem x0l(hl:PE X l tl):PI X tg l (iDictT tl):=by
 intro pins s σ H R I h;refine thn (hl pins s σ H _ I h) fun v s1 ⟨x,H1,I1,r1,q1⟩=>?_;obtain⟨d,kvs,e,hd,q⟩:=q1;subst e;cases r1;obtain⟨z,hsys,xs,hp,ob,ens,ep,ho,hex,hob,h4,h5⟩:=(show ObjOk X.prog X.w H1 s1.heap d (.dT kvs) from I1.hok d _ hd)
 refine PySem.Rv.keys_iter hsys ⟨ob,ho,hex.1⟩ ho hob ?_;have hne:=Bd (Al ho);have I2:=(I1.freezeK hd ho (.inr ⟨_,rfl⟩)).kept (t':=s1.toks) (h':=s1.heap.push { cls:=.type "dict_keyiterator",data:=.fields #[.ref d,.int 0 0,.int ens.size 0,.int ep 0] }) fun b o e=>Ae _ e;refine⟨s1.heap.objs.size,[s1.heap.objs.size],_,_,_,rfl,I2,z5b d _ ob kvs ens ep hob,⟨_,Ak _ rfl,rfl,rfl⟩,fun b hb=>?_,q ob⟩;have e:b=s1.heap.objs.size:=by grind
 subst e;exact I1.fpOk (Aj _) (by rw[q0f (Ca hne)];exact I1.hok.fresh (Aj _))
theorem ditT_k(K:Ah)(hK:X.K=K)(hl:PE X l tl):PI X tg l (iDictT tl):=x0l hl
theorem z7i{g:TG}{tb:TS}{D:Ends}(Pv:Nat->St->Hp->Prop)(h0:Pv 0 σ H)(hl:∀i σ H,Pv i σ H->H d=some (.frz ob (.dT kvs)))(hs:∀i k v b σ H,kvs[i]?=some (k,v)->H b=some (.tup (k.map kV))->Pv i σ H->g (.ref b) σ H fun σ2 H2=>tb { D with nx:=Pv (i+1),ct:=Pv (i+1),bk:=D.nx } σ2 H2)(hd:∀σ H,Pv kvs.length σ H->D.nx σ H):
  ∃W:Nat->Nat->St->Hp->Prop,(∃m,W 0 m σ H)/\∀i m σ H,W i m σ H ->
   ((Itk d ob kvs).stop i H/\D.nx σ H)\/((Itk d ob kvs).go i H/\∃N:St->Hp->Prop,(∀σ' H',N σ' H'->∃m',m'<m/\W (i+1) m' σ' H')/\∀x H',(Itk d ob kvs).yld i H x H'->g x σ H' fun σ2 H2=>tb { D with nx:=N,ct:=N,bk:=D.nx } σ2 H2):=by
 refine q9w Pv h0 (fun i σ H h p=>⟨hl i σ H p,h⟩) (fun σ H p=>⟨hl _ σ H p,Aj _⟩) (fun i x σ H H' h p yl=>?_) hd;obtain⟨rfl,k,v,b,hk,hb,rfl⟩:=yl;exact hs i k v b σ _ hk hb p
end
end L2
namespace SB
open PySem PyProof.Rows
section
variable{prog:Program}{w:World}{A:Around}{E:Value->Af->Prop}{s:Af}
def Tells(prog:Program)(w:World)(A:Around)(s:Af)(kd:Mb)(S:Value->Prop)(r:Value->Int):Prop :=
 ∀(E:Value->Af->Prop) (x y:Value) (Q:Bool->Af->Prop),S x->S y->Q (decide (r x<r y)) s->wpAny (model prog w) A (keyLt' kd x y) Q E s
def rk(r:Value->Int)(xs:Array Keyed)(i:Nat):Int:=((xs[i]?).map fun p=>r p.1).getD 0
theorem x4i(h:xs[i]?=ys[j]?):rk r xs i=rk r ys j:=by unfold rk;rw[h]
theorem rk_if[Decidable c](h:xs[i]?=if c then ys[a]? else ys[b]?):rk r xs i=if c then rk r ys a else rk r ys b:=by
 by_cases hc:c
 ·rw[if_pos hc] at h ⊢;exact x4i h
 ·rw[if_neg hc] at h ⊢;exact x4i h
theorem z7j(hj:j<=xs.size)(k:Nat):rk r (Mz xs i j ((j-i) / 2)) k=if i<=k/\k<j then rk r xs (i+j-1-k) else rk r xs k:=rk_if (getElem?_mirror_all hj k)
theorem x2n(hn:n<xs.size)(hd:d<=n)(k:Nat):rk r (bubble xs n d) k=if k=n-d then rk r xs n else if n-d<k/\k<=n then rk r xs (k-1) else rk r xs k:=by
 have e:=getElem?_bubble hn d hd k;by_cases h:k=n-d
 ·rw[if_pos h] at e ⊢;exact x4i e
 ·rw[if_neg h] at e ⊢;exact rk_if e
structure Mid (kd:Mb) (a₀:Array Keyed) (st:Ik):Prop where
 pm:(arrOf st).Perm a₀
 kn:kindOf st=kd
 fl:Vn st=none
 pd:Ql st=#[]
variable{kd:Mb}{S:Value->Prop}{r:Value->Int}{a₀:Array Keyed}
theorem Mid.sz{st:Ik}(h:Mid kd a₀ st):(arrOf st).size=a₀.size:=h.pm.size_eq
theorem Mid.put{st:Ik}(h:Mid kd a₀ st)(p:xs.Perm (arrOf st)):Mid kd a₀ (setArr st xs):=⟨p.trans h.pm,h.kn,h.fl,h.pd⟩
theorem z7k{st:Ik}(T:Tells prog w A s kd S r)(hS:∀p∈a₀.toList,S p.1)(m:Mid kd a₀ st)(hi:i<a₀.size)(hj:j<a₀.size)(h:Q (some (decide (rk r (arrOf st) i<rk r (arrOf st) j))) st):wpS (model prog w) A E s (ltAt' i j) Q st:=by
 have get:∀{k:Nat},k<a₀.size->∃p,(arrOf st)[k]?=some p/\S p.1/\rk r (arrOf st) k=r p.1:=fun{k} hk=>by
  have hk':k<(arrOf st).size:=by rw[m.sz];exact hk
  have e:(arrOf st)[k]?=some (arrOf st)[k]:=getElem?_pos _ k hk';refine⟨_,e,hS _ ((Oo.mp m.pm).mem_iff.mp (by simp)),?_⟩;unfold rk;rw[e];rfl
 obtain⟨p,e1,s1,r1⟩:=get hi;obtain⟨q,e2,s2,r2⟩:=get hj;rw[r1,r2] at h;refine Ci (Ro ?_);show wpS _ _ _ _ (elem' (arrOf st) i >>= fun x=>elem' (arrOf st) j >>= fun y=>lt' x y) Q st;rw[elem'_eq,elem'_eq,e1,e2];refine Ci (Ds (Ci (Ds ?_)));rw[lt'_eq];refine Ci (Ro ?_);rw[m.kn];exact Ci (wpS_lift (Eg (T _ p.1 q.1 _ s1 s2 ⟨rfl,Ds h⟩)))
def Up(r:Value->Int)(xs:Array Keyed)(n:Nat):Prop:=∀i j,i<=j->j<n->rk r xs i<=rk r xs j
def Down(r:Value->Int)(xs:Array Keyed)(n:Nat):Prop:=∀i j,i<=j->j<n->rk r xs j<=rk r xs i
theorem Up.one:Up r xs 1:=fun i j h1 h2=>by rw[show i=j by lia];exact Qw _
theorem Up.more(h:Up r xs n)(h1:1<=n)(e:rk r xs (n-1)<=rk r xs n):Up r xs (n+1):=fun i j a b=>by
 by_cases z:j<n
 ·exact h i j a z
 ·have hj:j=n:=by lia
  subst hj;by_cases y:i=j
  ·grind
  ·have:=h i (j-1) (by lia) (by lia);lia
theorem Down.more(h:Down r xs n)(h1:1<=n)(e:rk r xs n<=rk r xs (n-1)):Down r xs (n+1):=fun i j a b=>by
 by_cases z:j<n
 ·exact h i j a z
 ·have hj:j=n:=by lia
  subst hj;by_cases y:i=j
  ·grind
  ·have:=h i (j-1) (by lia) (by lia);lia
theorem Down.mir(h:Down r xs n)(hn:n<=xs.size):Up r (Mz xs 0 n ((n-0) / 2)) n:=fun i j a b=>by
 rw[z7j hn,z7j hn,if_pos (by lia),if_pos (by lia)];exact h _ _ (by lia) (by lia)
theorem q6c(hj:j<=xs.size)(h:∀k,i<=k->k<j->rk r xs k=rk r xs (j-1))(k:Nat):rk r (Mz xs i j ((j-i) / 2)) k=rk r xs k:=by
 rw[z7j hj];by_cases z:i<=k/\k<j
 ·grind
 ·rw[if_neg z]
theorem x2o{st:Ik}(T:Tells prog w A s kd S r)(hS:∀p∈a₀.toList,S p.1)(m:Mid kd a₀ st)(hn:n<=a₀.size)(h1:1<=a)(han:a<=n)(u:Up r (arrOf st) a)(h:∀k,a<=k->k<=n->Up r (arrOf st) k->(k=n\/rk r (arrOf st) k<rk r (arrOf st) (k-1))->Q (none,k) st):wpS (model prog w) A E s (ascLoop a n) Q st:=by
 refine Kq (fun x c t=>t=st/\c=(none,x)/\Up r (arrOf st) x) (fun x c t hx hxn ⟨et,ec,ux⟩=>?_) (fun c t ⟨et,ec,ux⟩=>?_) ⟨rfl,rfl,u⟩
 ·subst et ec;refine Ci (z7k T hS m (by lia) (by lia) ?_);by_cases z:rk r (arrOf t) x<rk r (arrOf t) (x-1)
  ·simp only[decide_eq_true z,if_true];exact Ds (h x hx (by lia) ux (.inr z))
  ·simp only[decide_eq_false z,Az,if_false];exact Ds ⟨rfl,rfl,ux.more (by lia) (by lia)⟩
 ·grind
theorem z7l{st:Ik}(T:Tells prog w A s kd S r)(hS:∀p∈a₀.toList,S p.1)(m:Mid kd a₀ st)(hn:n<=a₀.size)(h1:1<=k)(hkn:k<=n)(d:Down r (arrOf st) k)(h:∀j t,Mid kd a₀ t->1<=j->j<=n->Up r (arrOf t) j->Q (some j) t):wpS (model prog w) A E s (tail3 k n) Q st:=by
 have m2:=m.put (Qx (arrOf st) 0 k ((k-0) / 2));refine Ci (Qy (Ci (x2o T hS m2 hn h1 hkn (d.mir (by rw[m.sz];lia)) fun j a b u _=>Ds (h j _ m2 (by lia) b u))))
theorem x4j{st:Ik}(T:Tells prog w A s kd S r)(hS:∀p∈a₀.toList,S p.1)(m:Mid kd a₀ st)(hn:n<=a₀.size)(h1:1<=k)(hkn:k<=n)(d:Down r (arrOf st) k)(h:∀j q t,Mid kd a₀ t->k<=j->j<=n->Down r (arrOf t) j->q+1<=j->(∀i,j-(q+1)<=i->i<j->rk r (arrOf t) i=rk r (arrOf t) (j-1))->Q (none,j,q) t):wpS (model prog w) A E s (descLoop k n) Q st:=by
 refine Kq (fun x c t=>∃q,c=(none,x,q)/\Mid kd a₀ t/\Down r (arrOf t) x/\q+1<=x/\∀i,x-(q+1)<=i->i<x->rk r (arrOf t) i=rk r (arrOf t) (x-1))
  (fun x c t hx hxn ⟨q,ec,mt,dx,hq,eq⟩=>?_) (fun c t ⟨q,ec,mt,dx,hq,eq⟩=>?_) ⟨0,rfl,m,d,by lia,fun i a b=>by rw[show i=k-1 by lia]⟩
 ·subst ec;have zs:x<=(arrOf t).size:=by rw[mt.sz];lia
  dsimp only;refine Ci (z7k T hS mt (by lia) (by lia) ?_);by_cases z:rk r (arrOf t) x<rk r (arrOf t) (x-1)
  ·simp only[decide_eq_true z,if_true];by_cases y:q>0
   ·rw[if_pos y];have em:=fun k=>q6c zs eq k;have d2:Down r (Mz (arrOf t) (x-(q+1)) x ((x-(x-(q+1))) / 2)) x:=fun i j a b=>by rw[em,em];exact dx i j a b
    exact Ci (Qy (Ds ⟨0,rfl,mt.put (Qx _ _ _ _),d2.more (by lia) (by rw[em,em];lia),by lia,fun i a b=>by rw[show i=x+1-1 by lia]⟩))
   ·rw[if_neg y];exact Ds ⟨0,rfl,mt,dx.more (by lia) (by lia),by lia,fun i a b=>by rw[show i=x+1-1 by lia]⟩
  ·simp only[decide_eq_false z,Az,if_false];refine Ci (z7k T hS mt (by lia) (by lia) ?_);by_cases y:rk r (arrOf t) (x-1)<rk r (arrOf t) x
   ·simp only[decide_eq_true y,if_true];exact Ds (h x q t mt hx (by lia) dx hq eq)
   ·simp only[decide_eq_false y,Az,if_false];have ex:rk r (arrOf t) x=rk r (arrOf t) (x-1):=by lia
    refine Ds ⟨q+1,rfl,mt,dx.more (by lia) (by lia),by lia,fun i a b=>?_⟩;rw[show x+1-1=x by lia,ex];by_cases c:i=x
    ·rw[c,ex]
    ·grind
 ·grind
theorem z7m{st:Ik}(T:Tells prog w A s kd S r)(hS:∀p∈a₀.toList,S p.1)(m:Mid kd a₀ st)(hn:n<=a₀.size)(hkn:k+1<=n)(d:Down r (arrOf st) (k+1))(h:∀j t,Mid kd a₀ t->1<=j->j<=n->Up r (arrOf t) j->Q (some j) t):wpS (model prog w) A E s (descPart k n) Q st:=by
 refine Ci (wpS_lift (Ff ⟨rfl,Ci (x4j T hS m hn (by lia) hkn d fun j q t mt a b dt hq eq=>?_)⟩));have zs:j<=(arrOf t).size:=by rw[mt.sz];lia
 dsimp only;by_cases y:q>0
 ·rw[if_pos y];exact Ci (Qy (z7l T hS (mt.put (Qx _ _ _ _)) hn (by lia) b (fun i i' a' b'=>by show rk r (Mz _ _ _ _) i'<=rk r (Mz _ _ _ _) i;rw[q6c zs eq,q6c zs eq];exact dt i i' a' b') h))
 ·rw[if_neg y];exact z7l T hS mt hn (by lia) b dt h
theorem run_ok{st:Ik}(T:Tells prog w A s kd S r)(hS:∀p∈a₀.toList,S p.1)(m:Mid kd a₀ st)(hn:n<=a₀.size)(h1:1<=n)(h:∀j t,Mid kd a₀ t->1<=j->j<=n->Up r (arrOf t) j->Q (some j) t):wpS (model prog w) A E s (countRun' 0 n) Q st:=by
 rw[countRun0_eq];refine Ci (x2o T hS m hn (Aj 1) h1 Up.one fun k a b u o=>?_);have zs:k<=(arrOf st).size:=by rw[m.sz];lia
 dsimp only;by_cases e:k=n
 ·rw[if_pos (by simpa using e)];exact Ds (h k st m a b u)
 rw[if_neg (by simpa using e)];by_cases g:k>1
 ·rw[if_pos g];refine Ci (z7k T hS m (by lia) (by lia) ?_);by_cases z:rk r (arrOf st) 0<rk r (arrOf st) (k-1)
  ·simp only[decide_eq_true z,if_true];exact Ds (h k st m a b u)
  ·simp only[decide_eq_false z,Az,if_false];have al:∀i,0<=i->i<k->rk r (arrOf st) i=rk r (arrOf st) (k-1):=fun i _ hi=>by
    have u1:=u 0 i (by lia) hi;have u2:=u i (k-1) (by lia) (by lia);lia
   refine Ci (Qy (z7m T hS (m.put (Qx _ _ _ _)) hn (by lia) (Down.more (fun i j a' b'=>?_) (by lia) ?_) h))
   ·show rk r (Mz _ _ _ _) j<=rk r (Mz _ _ _ _) i;rw[q6c zs al,q6c zs al,al i (by lia) (by lia),al j (by lia) (by lia)];exact Qw _
   ·show rk r (Mz _ _ _ _) k<=rk r (Mz _ _ _ _) (k-1);rw[q6c zs al,q6c zs al];lia
 ·rw[if_neg g];exact z7m T hS m hn (by lia) (Down.more (fun i j a' b'=>by rw[show i=j by lia];exact Qw _) (by lia) (by lia)) h
theorem ins_ok{st:Ik}(T:Tells prog w A s kd S r)(hS:∀p∈a₀.toList,S p.1)(m:Mid kd a₀ st)(hn:n<=a₀.size)(hk:k<=n)(u:Up r (arrOf st) k)(h:∀t,Mid kd a₀ t->Up r (arrOf t) n->Q true t):wpS (model prog w) A E s (binarySort' 0 n k) Q st:=by
 rw[binarySort'_eq];simp only[Nat.zero_add];refine Ci (Vo (Kq (fun j c t=>c=(none,())/\Mid kd a₀ t/\Up r (arrOf t) (min j n)) (Q:=fun c t=>c=(none,())/\Mid kd a₀ t/\Up r (arrOf t) n) ?step ?fin ⟨rfl,m,?init⟩) ?post)
 case step =>
  rintro j c t hj hjn ⟨rfl,mt,ut⟩;refine Ci (Vo (Kq (fun x c t'=>t'=t/\∃lo hi,c=(none,lo,hi)/\lo<=hi/\hi<=j/\hi-lo<=j-x/\(∀i,i<lo->rk r (arrOf t) i<=rk r (arrOf t) j)/\∀i,hi<=i->i<j->rk r (arrOf t) j<rk r (arrOf t) i)
   (Q:=fun c t'=>t'=t/\∃lo hi,c=(none,lo,hi)/\lo<=j/\(∀i,i<lo->rk r (arrOf t) i<=rk r (arrOf t) j)/\∀i,lo<=i->i<j->rk r (arrOf t) j<rk r (arrOf t) i)
   ?st2 ?fi2 ⟨rfl,0,j,rfl,by lia,by lia,by lia,fun i z=>by lia,fun i z y=>by lia⟩) ?po2)
  case st2 =>
   rintro x c t' hx hxj ⟨rfl,lo,hi,rfl,a1,a2,a3,a4,a5⟩;dsimp only;by_cases z:lo>=hi
   ·rw[if_pos z];exact Ds ⟨rfl,lo,hi,rfl,by lia,a4,fun i b c=>a5 i (by lia) c⟩
   ·rw[if_neg z];refine Ci (z7k T hS mt (by lia) (by lia) ?_);by_cases y:rk r (arrOf t') j<rk r (arrOf t') ((lo+hi) / 2)
    ·simp only[decide_eq_true y,if_true];refine Ds ⟨rfl,lo,(lo+hi) / 2,rfl,by lia,by lia,by lia,a4,fun i b c=>?_⟩;have:=ut ((lo+hi) / 2) i b (by lia);lia
    ·simp only[decide_eq_false y,Az,if_false];refine Ds ⟨rfl,(lo+hi) / 2+1,hi,rfl,by lia,a2,by lia,fun i b=>?_,a5⟩;have:=ut i ((lo+hi) / 2) (by lia) (by lia);lia
  case fi2 =>
   rintro c t' ⟨rfl,lo,hi,rfl,a1,a2,a3,a4,a5⟩;exact⟨rfl,lo,hi,rfl,by lia,a4,fun i b c=>a5 i (by lia) c⟩
  case po2 =>
   rintro c t' ⟨rfl,lo,hi,rfl,a1,a4,a5⟩;rw[moveDown'_eq];have zs:j<(arrOf t').size:=by rw[mt.sz];lia
   refine Ci (Wf (Ds ⟨rfl,mt.put (bubble_perm _ _ _),fun i i' b c=>?_⟩));have e1:j-(j-lo)=lo:=by lia
   rw[x2n zs (by lia),x2n zs (by lia),e1];by_cases b1:i=lo
   ·grind
   ·rw[if_neg b1];by_cases b2:i'=lo
    ·grind
    ·rw[if_neg b2];by_cases b3:lo<i/\i<=j
     ·rw[if_pos b3,if_pos (by lia)];exact ut _ _ (by lia) (by lia)
     ·rw[if_neg b3];by_cases b4:lo<i'/\i'<=j
      ·grind
      ·rw[if_neg b4];exact ut _ _ b (by lia)
 case fin =>
  rintro c t ⟨ec,mt,ut⟩;have e:min (max (max k 1) n) n=n:=by lia
  rw[e] at ut;exact⟨ec,mt,ut⟩
 case init =>
  intro i j a b;by_cases z:k=0
  ·grind
  ·exact u i j a (by lia)
 case post =>
  rintro c t ⟨rfl,mt,ut⟩;exact Ds (h t mt ut)
structure Fin' (a₀:Array Keyed) (r:Value->Int) (st:Ik):Prop where
 pm:(arrOf st).Perm a₀
 fl:Vn st=none
 pd:Ql st=#[(0,a₀.size,0)]
 up:Up r (arrOf st) a₀.size
theorem x4k{st:Ik}(T:Tells prog w A s kd S r)(hS:∀p∈a₀.toList,S p.1)(m:Mid kd a₀ st)(h2:2<=a₀.size)(h64:a₀.size<64)(h:∀t,(arrOf t).Perm a₀->Vn t=none->Up r (arrOf t) a₀.size->Q () t):wpS (model prog w) A E s sortRuns' Q st:=by
 rw[sortRuns'_eq];have em:minRun' a₀.size a₀.size 0=a₀.size:=by
  cases z:a₀.size with
  |zero=>rfl
  |succ f=>rw[minRun'_succ,if_pos (by lia)]
 have fin:∀{t:Ik},Mid kd a₀ t->Up r (arrOf t) a₀.size->Fin' a₀ r (setPending t ((Ql t).push (0,a₀.size,0))):=fun{t} mt ut=>⟨mt.pm,mt.fl,by show(Ql t).push _=_;rw[mt.pd];rfl,ut⟩
 have none_back:∀{t:Ik},Mid kd a₀ t->(Ql t).back?=none:=fun{t} mt=>by rw[mt.pd];rfl
 refine Ci (Ro ?_);simp only[m.sz,em];refine Ci (Vo (Kq (fun x c t=>(x=0/\c=(none,0)/\Mid kd a₀ t)\/(1<=x/\c=(none,a₀.size)/\Fin' a₀ r t)) (Q:=fun c t=>c=(none,a₀.size)/\Fin' a₀ r t) ?st1 ?fi1 (.inl ⟨rfl,rfl,m⟩)) ?po1)
 case st1 =>
  intro x c t _ hx o;rcases o with⟨rfl,rfl,mt⟩|⟨x1,rfl,f⟩
  ·dsimp only;rw[if_neg (by lia)];simp only[Pw,Tw,Nat.zero_add];refine Ci (run_ok T hS mt (Aj _) (by lia) fun j t' mt' j1 j2 ut'=>?_);dsimp only;by_cases z:j<a₀.size
   ·rw[if_pos z];refine Ci (wpS_lift (Ff ⟨rfl,Ci (ins_ok T hS mt' (Aj _) j2 ut' fun t2 mt2 ut2=>?_)⟩));refine Ci (Ro ?_);rw[none_back mt2];exact Ci (Wf (Ds (.inr ⟨by lia,rfl,fin mt2 ut2⟩)))
   ·rw[if_neg z];have ej:j=a₀.size:=by lia
    subst ej;refine Ci (Ro ?_);rw[none_back mt'];exact Ci (Wf (Ds (.inr ⟨by lia,rfl,fin mt' ut'⟩)))
  ·dsimp only;rw[if_pos (Aj _)];exact Ds ⟨rfl,f⟩
 case fi1 =>
  intro c t o;rcases o with⟨z,_⟩|⟨_,ec,f⟩
  ·lia
  ·exact⟨ec,f⟩
 case po1 =>
  rintro c t ⟨rfl,f⟩;refine Ci (Vo (Kq (fun _ c t'=>t'=t/\c=(none,())) (Q:=fun c t'=>t'=t/\c=(none,())) ?st3 (fun _ _ z=>z) ⟨rfl,rfl⟩) ?po3)
  case st3 =>
   rintro x c t' _ _ ⟨rfl,rfl⟩;refine Ci (Ro ?_);rw[if_pos (by rw[f.pd];exact Aj 1)];exact Ds ⟨rfl,rfl⟩
  case po3 =>
   rintro c t' ⟨rfl,rfl⟩;exact Ds (h _ f.pm f.fl f.up)
end
end SB
namespace PySem.Rv
open Sem (wp)
abbrev itemObj(d:Addr)(i n ep:Nat)(f0 f1 ok ov:Value):Obj:={ cls:=.type "dict_itemiterator",dict:=none,data:=.fields #[f0,f1,.ref d,.int i 0,.int n 0,.int ep 0,ok,ov],slots:=#[] }
def ItemIt(h:Heap)(it d:Addr)(i n ep:Nat):Prop:=∃f0 f1 ok ov,h.get? it=some (itemObj d i n ep f0 f1 ok ov)/\(f0=.none\/∃a:Addr,f0=Dl a)
theorem ItemIt.typeIs{s:Af}(x:ItemIt s.heap it d i n ep):s.TypeIs (.ref it) "dict_itemiterator" := by
 obtain⟨f0,f1,ok,ov,e,_⟩:=x;exact⟨_,e,rfl⟩
theorem ItemIt.lt(x:ItemIt h it d i n ep):it<h.objs.size:=by
 obtain⟨f0,f1,ok,ov,e,_⟩:=x;exact Al e
theorem ItemIt.keep(x:ItemIt h it d i n ep)(k:∀o,h.get? it=some o->h'.get? it=some o):ItemIt h' it d i n ep:=by
 obtain⟨f0,f1,ok,ov,e,z⟩:=x;exact⟨f0,f1,ok,ov,k _ e,z⟩
section
variable{prog:Program}{w:World}{A:Around}{E:Value->Af->Prop}{s:Af}{it d v:Addr}{i ep:Nat}{dob:Obj}{ens:Array Kg}
theorem items_iter(hv:s.heap.IsItemsView v d)(hdo:s.heap.get? d=some dob)(hda:dob.data=.dict ens ep)(hQ:Q (.ref s.heap.objs.size) { s with heap:=s.heap.push (itemObj d 0 ens.size ep .none (.bool false) .none .none) }):wpAny (model prog w) A (Lm (.ref v)) Q E s:=by
 obtain⟨o,ho,hc,hf⟩:=id hv;refine Ox hv.typeIs Qz (Bq Qz hv.typeIs F.entry_dict_items_iter ?_ (F.args_dict_items_iter_1 _));unfold Cv.«dict_items.__iter__»;refine Ab (Ad (Ab ?_));unfold Cv.Dict_items.dictOf;refine Ab (Bp ho hf rfl (Ad (Ab ?_)));unfold Cv.Dict_items.newIterator;refine Ab (Hi hdo hda (Ab (Ij hdo hda ?_)));simp only[show Jb "dict_itemiterator" = true from by decide,if_true];refine By (Ad ⟨_,rfl, "dict_itemiterator",_,⟨_,Ak _ rfl,rfl⟩,Et.lookup,?_⟩) (by simp[sizeOk,Kz,Fe]);simpa[Dl,itemObj,Kz] using hQ
theorem q7o(e:s.heap.get? it=some (itemObj d i n ep f0 f1 ok ov))(hk:k<8)(hQ:∀h',h'.get? it=some { cls:=.type "dict_itemiterator",dict:=none,data:=.fields ((#[f0,f1,.ref d,.int i 0,.int n 0,.int ep 0,ok,ov]:Array Value).setIfInBounds k x),slots:=#[] }->Eu it s.heap h'->Q () { s with heap:=h' }):
  wpAny (model prog w) A (setField (.ref it) k x) Q E s:=Ct e (by simpa using hk) hQ
theorem owned(x:ItemIt s.heap it d i n ep)(hQ:∀b h',ItemIt h' it d i n ep->Eu it s.heap h'->Q b { s with heap:=h' }):
  wpAny (model prog w) A (Cv.Dict_items.ownedTupleIsFree (.ref it)) Q E s:=by
 obtain⟨f0,f1,ok,ov,e,z⟩:=id x;refine Ab (Bp e rfl rfl ?_);rcases z with rfl|⟨a,rfl⟩
 ·exact Ad (hQ true s.heap x (Oy _ _))
 ·show wpAny _ _ (loadIfAlive (Int.toNat (a:Int)) >>= _) _ _ _;have al:∀{Q':Option Obj->Af->Prop},Q' (s.heap.get? (Int.toNat (a:Int))) s->wpAny (model prog w) A (loadIfAlive (Int.toNat (a:Int))) Q' E s:=fun h' _ _ _=>h';refine Ab (al ?_);by_cases hn:(s.heap.get? (Int.toNat (a:Int))).isNone=true
  ·rw[if_pos hn];exact Ad (hQ true s.heap x (Oy _ _))
  ·rw[if_neg hn];refine Ab (Bp e rfl (x:=f1) rfl ?_);by_cases hb:(f1 != Value.bool true)=true
   ·rw[if_pos hb];refine Ab (q7o e (by decide) fun h' e' sb=>Ad (hQ false h' ⟨_,_,_,_,e',.inr ⟨a,rfl⟩⟩ sb))
   ·rw[if_neg hb];exact Ad (hQ false s.heap x (Oy _ _))
theorem items_item(x:ItemIt s.heap it d i ens.size ep)(hdo:s.heap.get? d=some dob)(hda:dob.data=.dict ens ep)(hlt:i<ens.size)(hQ:∀h',ItemIt h' it d (i+1) ens.size ep->h'.get? s.heap.objs.size=some { cls:=.type "tuple",data:=.seq #[ens[i].key,ens[i].val] }->h'.objs.size=s.heap.objs.size+1 ->
   (∀b o,b≠it->s.heap.get? b=some o->h'.get? b=some o)->Q (some (.ref s.heap.objs.size)) { s with heap:=h' }):wpAny (model prog w) A (Iw (.ref it)) Q E s:=by
 obtain⟨f0,f1,ok,ov,e,z⟩:=id x;have hT:=x.typeIs;refine Ab (Eg (Cd hT Et (Bq Et hT Na ?_ (Mj _))));refine Ab (Ad (Ab (Ab ?_)));first|refine Ab (Ge hT (Ad ?_))|refine Ab (Ho hT (Ad ?_))
 refine Ab (Nm e rfl ?_);simp only[show Jb "dict_itemiterator" = true from by decide,if_true];refine Ab (Ad (Ab (Hi hdo hda ?_)));rw[if_neg (by simp)];refine Ab (Ad (Ab (Ij hdo hda ?_)));rw[if_neg (by simp)];refine Ad ?_;simp only[show ¬((i:Int)<0) from by lia,if_false,Hh,Ep hlt];refine Ab ?_;first|refine Ab (Ge hT (Ad ?_))|refine Ab (Ho hT (Ad ?_))
 refine Ab (Lv hT ?_);show wpAny _ _ (setField (.ref it) 3 (Dl ((i:Int)+1)) >>= _) _ _ s;refine Ab (q7o e (by decide) fun h₁ e₁ sb₁=>?_);have x₁:ItemIt h₁ it d (i+1) ens.size ep:=⟨f0,f1,ok,ov,by rw[e₁];simp[itemObj,Dl],z⟩
 refine Ab (Cm ?_);refine Ab (Lv x₁.typeIs (Ab (Lv x₁.typeIs ?_)));have z₁:=sb₁.1;have hil:=Bd x.lt;refine Ab (Nl ?_);refine Ab (owned (x₁.keep fun o q=>Ae _ q) fun b h₂ x₂ sb₂=>?_);have t₂:h₂.get? s.heap.objs.size=some { cls:=.type "tuple",data:=.seq #[ens[i].key,ens[i].val] }:=by
  rw[sb₂.2 _ (Ca hil),<- z₁];exact Ak _ rfl
 have n₂:h₂.objs.size=s.heap.objs.size+1:=by rw[sb₂.1];show(h₁.push _).objs.size=_;rw[Fx,z₁]
 have k₂:∀b o,b≠it->s.heap.get? b=some o->h₂.get? b=some o:=fun b o hb q=>by
  rw[sb₂.2 b hb];exact Ae _ ((sb₁.2 b hb).trans q)
 have ez:(Value.ref h₁.objs.size)=.ref s.heap.objs.size:=by rw[z₁]
 cases b with
 |false =>
  refine Ad (Ad ⟨_,rfl,Ad ?_⟩);rw[ez];exact hQ h₂ x₂ t₂ n₂ k₂
 |true =>
  obtain⟨g0,g1,ok2,ov2,e₂,_⟩:=x₂;refine Ab (Bp e₂ rfl rfl (Ab (Bp e₂ rfl rfl ?_)));refine Ab (q7o e₂ (by decide) fun h₃ e₃ sb₃=>?_);refine Ab (q7o e₃ (by decide) fun h₄ e₄ sb₄=>?_);refine Ab (q7o e₄ (by decide) fun h₅ e₅ sb₅=>?_);refine Ab (q7o e₅ (by decide) fun h₆ e₆ sb₆=>?_);have kk:∀b o,b≠it->h₂.get? b=some o->h₆.get? b=some o:=fun b o hb q=>(sb₆.2 b hb).trans ((sb₅.2 b hb).trans ((sb₄.2 b hb).trans ((sb₃.2 b hb).trans q)))
  refine Ab (Nu (Ad (Ad ⟨_,rfl,Ad ?_⟩)));rw[ez];refine hQ h₆ ⟨_,_,_,_,e₆,.inr ⟨_,rfl⟩⟩ (kk _ _ (Ca hil) t₂) ?_ fun b o hb q=>kk b o hb (k₂ b o hb q);rw[sb₆.1];rw[sb₅.1];rw[sb₄.1];rw[sb₃.1];exact n₂
theorem items_end(hh:A.handled=none)(x:ItemIt s.heap it d i ens.size ep)(hdo:s.heap.get? d=some dob)(hda:dob.data=.dict ens ep)(hge:ens.size<=i)(hQ:∀h',Qt it s.heap h'->Q none { s with heap:=h' }):wpAny (model prog w) A (Iw (.ref it)) Q E s:=by
 obtain⟨f0,f1,ok,ov,e,z⟩:=id x;have hT:=x.typeIs;refine Ab (Eg (Cd hT Et (Bq Et hT Na ?_ (Mj _))));refine Ab (Ad (Ab (Ab ?_)));first|refine Ab (Ge hT (Ad ?_))|refine Ab (Ho hT (Ad ?_))
 refine Ab (Nm e rfl ?_);simp only[show Jb "dict_itemiterator" = true from by decide,if_true];refine Ab (Ad (Ab (Hi hdo hda ?_)));rw[if_neg (by simp)];refine Ab (Ad (Ab (Ij hdo hda ?_)));rw[if_neg (by simp)];refine Ad ?_;simp only[show ¬((i:Int)<0) from by lia,if_false,Hh,Qv hge];refine Ab ?_;first|refine Ab (Ge hT (Ad ?_))|refine Ab (Ho hT (Ad ?_))
 show wpAny _ _ (setField (.ref it) 2 .none >>= _) _ _ s;refine Ab (Gq e rfl (by simp) ?_);show wpAny _ _ (newExc (.type "StopIteration") [] >>= _) _ _ _;refine Ab ?_;refine Ab (By (Ab (Js (by first|rfl|(simp only[Rl];rfl)) ?_)) (by size_fits));refine By ?_ (by size_fits);refine Ab (Sv ?_);rw[show A.in1.handled=none from hh];refine Ab (Ad (Vd ?_));refine Ab (Dz ⟨_,Ak _ rfl,rfl⟩ Kx ?_);exact Ad (hQ _ (((Jt ..).extBut.push _).push _))
end
end PySem.Rv
namespace SB
open PySem PyProof.Rows TX
abbrev Pth:=List (List Nat)
def pLt:Pth->Pth->Bool
 |[],[]=>false
 |[],_::_=>true
 |_::_,[]=>false
 |a::r,b::t=>if a=b then pLt r t else decide (a<b)
theorem q4q(a b:List Nat)(r t:Pth):pLt (a::r) (b::t)=if a=b then pLt r t else decide (a<b):=rfl
theorem q4v:∀p:Pth,pLt p p=false
 |[]=>rfl
 |a::r=>by rw[q4q,if_pos rfl];exact q4v r
theorem z0e{c:List Nat}(h:a<b)(h':b<c):a<c:=List.lt_trans h h'
theorem x4l{b:List Nat}(h:¬a<b)(h':¬b<a):a=b:=List.le_antisymm (List.not_lt.mp h') (List.not_lt.mp h)
theorem z0f:∀{p q t:Pth},pLt p q=true->pLt q t=true->pLt p t=true
 |[],[],_,h,_=>by cases h
 |_::_,[],_,h,_=>by cases h
 |_,_::_,[],_,h=>by cases h
 |[],_::_,_::_,_,_=>rfl
 |a::p,b::q,c::t,h,h'=>by
  rw[q4q] at h h' ⊢;by_cases e1:a=b
  ·subst e1;rw[if_pos rfl] at h;by_cases e2:a=c
   ·rw[if_pos e2] at h' ⊢;exact z0f h h'
   ·rw[if_neg e2] at h' ⊢;exact h'
  ·rw[if_neg e1] at h;by_cases e2:b=c
   ·subst e2;rw[if_neg e1];exact h
   ·rw[if_neg e2] at h';have h1:=of_decide_eq_true h;have h2:=of_decide_eq_true h';have h3:=z0e h1 h2;rw[if_neg (fun e=>by subst e;exact absurd (z0e h1 h2) (List.lt_irrefl _))];exact decide_eq_true h3
theorem z2f:∀{p q:Pth},pLt p q=false->pLt q p=false->p=q
 |[],[],_,_=>rfl
 |[],_::_,h,_=>by cases h
 |_::_,[],_,h=>by cases h
 |a::p,b::q,h,h'=>by
  rw[q4q] at h h';by_cases e:a=b
  ·subst e;rw[if_pos rfl] at h h';rw[z2f h h']
  ·rw[if_neg e] at h;rw[if_neg (Ca e)] at h';exact absurd (x4l (of_decide_eq_false h) (of_decide_eq_false h')) e
def pRank(ps:List Pth)(p:Pth):Nat:=(ps.filter fun q=>pLt q p).length
theorem z0g{α:Type}{f g:α->Bool}:∀(l:List α),(∀x∈l,f x=true->g x=true)->(l.filter f).length<=(l.filter g).length
 |[],_=>Aj _
 |x::r,h=>by
  have ih:=z0g r fun y hy=>h y (Ao _ hy);by_cases hf:f x=true
  ·simp_all
  ·rw[Ic hf];by_cases hg:g x=true
   ·rw[Ie hg];exact Fi ih
   ·simp_all
theorem z0h{α:Type}{f g:α->Bool}{y:α}:∀(l:List α),(∀x∈l,f x=true->g x=true)->y∈l->f y=false->g y=true->(l.filter f).length<(l.filter g).length
 |[],_,hy,_,_=>by cases hy
 |x::r,h,hy,h1,h2=>by
  rcases Bk.mp hy with e|hy
  ·subst e;rw[Ic (by rw[h1];decide),Ie h2];exact Nat.lt_succ_of_le (z0g r fun z hz=>h z (Ao _ hz))
  ·have ih:=z0h r (fun z hz=>h z (Ao _ hz)) hy h1 h2;by_cases hf:f x=true
   ·simp_all
   ·rw[Ic hf];by_cases hg:g x=true
    ·rw[Ie hg];exact Iu ih
    ·simp_all
theorem q7p(hp:p∈ps)(h:pLt p q=true):pRank ps p<pRank ps q :=
 z0h ps (fun x _ hx=>z0f hx h) hp (q4v p) h
theorem z2g(hp:p∈ps)(hq:q∈ps):pLt p q=decide ((pRank ps p:Int)<(pRank ps q:Int)):=by
 cases h:pLt p q with
 |true=>have:=q7p hp h;exact(decide_eq_true (by lia)).symm
 |false =>
  cases h':pLt q p with
  |true=>have:=q7p hq h';exact(decide_eq_false (by lia)).symm
  |false=>rw[z2f h h'];exact(decide_eq_false (by lia)).symm
def PathAt(h:Heap)(v:Value)(p:Pth):Prop:=∃a its,v=.ref a/\IsTup h a its/\Ig its.toList (p.map mk)
theorem mk_inj(h:mk a=mk b):a=b:=by have:=congrArg tl h;rwa [q0y,q0y] at this
theorem q6d:∀{vs:List Value} {ss ts:List Str},Ig vs ss->Ig vs ts->ss=ts
 |_,_,_,.nil,.nil=>rfl
 |_,_,_,.cons y t h,.cons _ _ h'=>by rw[q6d h h']
theorem q7q:∀{p q:Pth},p.map mk=q.map mk->p=q
 |[],[],_=>rfl
 |[],_::_,h=>by simp at h
 |_::_,[],h=>by simp at h
 |a::p,b::q,h=>by
  rw[An,An] at h;injection h with h1 h2;rw[mk_inj h1,q7q h2]
theorem q2f:∀{vs:List Value} {p:Pth},Ig vs (p.map mk)->vs.length=p.length
 |_,[],.nil=>rfl
 |vs,n::p,h=>by
  rw[An] at h;cases h with
  |cons _ _ h'=>rw[Bf,Bf,q2f h']
theorem IsTup.inj(h1:IsTup h a x)(h2:IsTup h a y):x=y:=by
 obtain⟨o,e,_,n,d⟩:=h1;obtain⟨o',e',_,n',d'⟩:=h2;rw[e] at e';cases e';rw[d] at d';cases d';rfl
theorem PathAt.inj(h1:PathAt h v p)(h2:PathAt h v q):p=q:=by
 obtain⟨a,its,rfl,t,s⟩:=h1;obtain⟨a',its',e,t',s'⟩:=h2;cases e;rw[IsTup.inj t t'] at s;exact q7q (q6d s s')
theorem IsTup.keep(t:IsTup h a x)(k:∀o,h.get? a=some o->h'.get? a=some o):IsTup h' a x:=let ⟨o,e,r⟩:=t;⟨o,k o e,r⟩
theorem PathAt.keep(x:PathAt h v p)(k:∀b o,h.get? b=some o->h'.get? b=some o):PathAt h' v p:=let ⟨a,its,e,t,s⟩:=x;⟨a,its,e,IsTup.keep t fun o=>k a o,s⟩
def dP(p:Pth):List PyData:=p.map fun n=>PyData.str (mk n)
def Low(p:Pth):Prop:=∀n∈p,∀c∈n,c<128
theorem q7r:∀{p:Pth} {vs:List Value},Ig vs (p.map mk)->∃as,ReadsAll h vs (dP p) as
 |[],_,.nil=>⟨_,.nil⟩
 |n::p,vs,x=>by
  rw[An] at x;cases x with
  |cons y t s =>
   obtain⟨as,h'⟩:=q7r s;exact⟨_,.cons (.str _ t) h'⟩
theorem PathAt.reads(x:PathAt h v p):∃as,Reads h v (.tuple (dP p)) as:=by
 obtain⟨a,its,rfl,⟨o,e,c,n,d⟩,s⟩:=x;obtain⟨as,r⟩:=q7r s;exact⟨_,.tuple e c d r⟩
theorem z7n(h:∀c∈l,c<128):Ce (mk l)=true:=by
 unfold Ce;simp only[mk,List.all_toArray,Lz];intro c hc;have:=h c hc;simp;lia
theorem q5f:∀{p:Pth},Low p->Bo (dP p)=true
 |[],_=>rfl
 |n::r,h=>by
  have h1:=z7n (h n As);have ih:=q5f fun x hx=>h x (Ao _ hx);show Bo (PyData.str (mk n)::dP r)=true;simp only[Bo,Co,h1,ih,Di]
theorem q2s:∀p:Pth,Fz (dP p)<=1
 |[]=>by simp[dP,Fz]
 |n::r=>by
  have ih:=q2s r;show Fz (PyData.str (mk n)::dP r)<=1;simp only[Fz,Oc];lia
theorem q6e:∀p q:Pth,Ih (dP p) (dP q)=decide (p=q)
 |[],[]=>rfl
 |[],_::_=>rfl
 |_::_,[]=>rfl
 |a::p,b::q=>by
  show Ih (PyData.str (mk a)::dP p) (PyData.str (mk b)::dP q)=_;have e:Ih (PyData.str (mk a)::dP p) (PyData.str (mk b)::dP q)=(Ft (PyData.str (mk a)) (PyData.str (mk b))&&Ih (dP p) (dP q)):=by simp only[Ih]
  have e2:Ft (PyData.str (mk a)) (PyData.str (mk b))=(mk a==mk b):=by simp only[Ft]
  rw[e,e2,q6e p q];by_cases h:a=b
  ·subst h;simp
  ·grind
section
variable{prog:Program}{w:World}{A:Around}{E:Value->Af->Prop}{s:Af}{x y:Value}{p q:Pth}
theorem x0m(hx:PathAt s.heap x p)(hy:PathAt s.heap y q)(lp:Low p)(lq:Low q)(hu:A.units+2<cLine):Eo A s x y (decide (p=q)):=by
 obtain⟨as,r1⟩:=hx.reads;obtain⟨bs,r2⟩:=hy.reads;have h:=SeqAt.eqAt_reads (.tuple (dP p)) (.tuple (dP q)) A s x y as bs r1 r2 (by simp only[Co,q5f lp]) (by simp only[Co,q5f lq]) (by
  have h1:(PyData.tuple (dP p)).depth=Fz (dP p)+1:=by simp only[Oc]
  have:=q2s p;lia)
 have e:Ft (.tuple (dP p)) (.tuple (dP q))=decide (p=q):=by simp only[Ft,q6e]
 rwa [e] at h
theorem z0i(l b:Addr)(items items2:Array Value)(n n2:Nat)(dd dd2:Option Addr)(sl sl2:Array (Option Value))(p q:Pth)(hi:Ig items.toList (p.map mk))(hj:Ig items2.toList (q.map mk)):
  Meets (Cv.«tuple.__lt__» ⟨[.ref l,.ref b],[]⟩)
   (fun _ R s=>s.heap.get? l=some { cls:=.type "tuple",dict:=dd,data:=.seq items n,slots:=sl }/\s.heap.get? b=some { cls:=.type "tuple",dict:=dd2,data:=.seq items2 n2,slots:=sl2 } /\
    R (.ok (.ret (.bool (pLt p q)))) s) :=
 .of_wp fun prog w A R s h=>by
  obtain⟨hp,g,d,tk,os⟩:=s;obtain⟨hl,hb,h⟩:=h;have f2:=AutoSeq1.sub_tuple_tuple;have z1:items.size=p.length:=by have:=q2f hi;simpa using this
  have z2:items2.size=q.length:=by have:=q2f hj;simpa using this
  wp_walk using Nb hl,Nb hb,Ez _ (fun rest c s'=>c.1=none/\s'=⟨hp,g,d,tk,os⟩/\∃(vs ws:List Value) (p' q':Pth),rest=vs.zip ws /\
   Ig vs (p'.map mk)/\Ig ws (q'.map mk)/\p'.length+items2.size=q'.length+items.size/\R (.ok (.ret (.bool (pLt p' q')))) ⟨hp,g,d,tk,os⟩) _
  case turn =>
   rintro⟨y,x⟩ rest c s' ⟨hb',rfl,vs,ws,p',q',hz,hvi,hwi,hlen,hR⟩;cases p' with
   |nil=>cases hvi;rw[Uu] at hz;cases hz
   |cons m p' =>
    cases q' with
    |nil=>cases hwi;rw[Tz] at hz;cases hz
    |cons m' q' =>
     rw[An] at hvi hwi;cases hvi with
     |cons _ t hvi' =>
      cases hwi with
      |cons _ u hwi' =>
       rw[Kr] at hz;injection hz with hyx hrest;injection hyx with hy hx;subst hy hx;rw[q4q] at hR;simp only[Bf] at hlen;refine Ab (Nx (mk m) t (mk m') u (A:=A.in1) (s:=⟨hp,g,d,tk,os⟩) prog w _ _ ?_);by_cases e:m=m'
       ·subst e;rw[if_pos rfl] at hR;rw[beq_self_eq_true]
        wp_walk
        exact⟨rfl,rfl,_,_,_,_,hrest,hvi',hwi',by lia,hR⟩
       ·rw[if_neg e] at hR;have e2:(mk m==mk m')=false:=beq_eq_false_iff_ne.mpr fun z=>e (mk_inj z);rw[e2];have hri:∀(E:Value->Af->Prop) (Q:Value->Af->Prop),Q (.bool (decide (m<m'))) ⟨hp,g,d,tk,os⟩->wpAny (model prog w) A.in1 (richCompare .Lt (.str (mk m) t) (.str (mk m') u)) Q E ⟨hp,g,d,tk,os⟩:=fun E Q hq =>
         (Tb (by
          have e3:(mk m).cps.toList=m:=q0y m;have e4:(mk m').cps.toList=m':=q0y m';rw[e3,e4];exact hq):wpAny (model prog w) A.in1 (Cg .Lt (.str (mk m) t) (.str (mk m') u)) Q E ⟨hp,g,d,tk,os⟩)
        wp_walk using hri
        exact⟨_,rfl,by simpa using hR⟩
  case fin =>
   rintro⟨b1,b2⟩ s' ⟨hb',rfl,vs,ws,p',q',hz,hvi,hwi,hlen,hR⟩;simp only at hb';subst hb';have hv:pLt p' q'=decide (items.size<items2.size):=by
    cases p' with
    |nil =>
     cases q' with
     |nil=>exact(decide_eq_false (by simp only[Ha] at hlen;lia)).symm
     |cons m' q'=>exact(decide_eq_true (by simp only[Ha,Bf] at hlen;lia)).symm
    |cons m p' =>
     cases q' with
     |nil=>exact(decide_eq_false (by simp only[Ha,Bf] at hlen;lia)).symm
     |cons m' q' =>
      rw[An] at hvi hwi;cases hvi with
      |cons _ t _=>cases hwi with|cons _ u _=>rw[Kr] at hz;cases hz
   rw[hv] at hR
   wp_walk
   exact⟨_,rfl,by simpa[Cv.Tuple.tupleCompareSizes] using hR⟩
  case h =>
   exact⟨rfl,rfl,items.toList,items2.toList,p,q,rfl,hi,hj,by lia,h⟩
theorem x0n{Q:Value->Af->Prop}(hx:PathAt s.heap x p)(hy:PathAt s.heap y q)(hu:A.units<cLine)(h:Q (.bool (pLt p q)) s):wpAny (model prog w) A (Cg .Lt x y) Q E s:=by
 obtain⟨l,items,rfl,hl,hi⟩:=hx;obtain⟨b,items2,rfl,hb,hj⟩:=hy;obtain⟨⟨cls,dd,data,sl⟩,ho,hc,n,hd⟩:=id hl;obtain⟨⟨cls2,dd2,data2,sl2⟩,ho2,hc2,n2,hd2⟩:=id hb;simp only at hc hd hc2 hd2;subst hc hd hc2 hd2;exact richCompare_meets_room (op:=.Lt) ⟨_,ho,rfl⟩ ⟨_,ho2,rfl⟩ PySem.F.slot_tuple_lt PySem.F.entry_tuple_lt (PySem.F.args_tuple_lt_2 _ _) (z0i l b items items2 n n2 dd dd2 sl sl2 p q hi hj)
  ⟨ho,ho2,show Value.bool (pLt p q)≠Value.notImplemented/\Q (.bool (pLt p q)) s from⟨(fun x=>nomatch x),h⟩⟩ hu
theorem x4m{b:Bool}{m m':List Nat}{t u:Tok}{Q:Bool->Af->Prop}(h:Q (decide (m<m')) s):wpAny (model prog w) A (oneLt' b (.str (mk m) t) (.str (mk m') u)) Q E s:=by
 have e3:(mk m).cps.toList=m:=q0y m;have e4:(mk m').cps.toList=m':=q0y m';cases b with
 |true=>exact oneLt_str (by rw[e3,e4];exact h)
 |false =>
  rw[oneLt'_eq];simp only[Az,if_false];exact Ab ((Tb (by rw[e3,e4];exact Du h):wpAny (model prog w) A (Cg .Lt (.str (mk m) t) (.str (mk m') u)) _ E s))
theorem x0o{Q:Bool->Af->Prop}(hx:PathAt s.heap x p)(hy:PathAt s.heap y q)(hu:A.units<cLine)(h:Q (pLt p q) s):wpAny (model prog w) A (oneLt' false x y) Q E s:=by
 rw[oneLt'_eq];simp only[Az,if_false];exact Ab (x0n hx hy hu (Du h):wpAny (model prog w) A (Cg .Lt x y) _ E s)
theorem z7o{b:Bool}{Q:Bool->Af->Prop}(hx:PathAt s.heap x p)(hy:PathAt s.heap y q)(h:Q (pLt p q) s):wpAny (model prog w) A (keyLt' (Uh b) x y) Q E s:=by
 obtain⟨l,items,rfl,⟨o,ho,hc,n,hd⟩,hi⟩:=hx;obtain⟨m,items2,rfl,⟨o2,ho2,hc2,n2,hd2⟩,hj⟩:=hy;refine Ab (m:=Gu (.ref l)) (Ks ho hd (Ab (m:=Gu (.ref m)) (Ks ho2 hd2 ?_)));have z1:items.size=p.length:=by have:=q2f hi;simpa using this
 have z2:items2.size=q.length:=by have:=q2f hj;simpa using this
 refine Ab (Ez _ (fun rest c s'=>c=(none,())/\s'=s/\∃(vs ws:List Value) (p' q':Pth) (k:Nat),rest=(vs.zip ws).zipIdx k/\Ig vs (p'.map mk)/\Ig ws (q'.map mk) /\
   p'.length+items2.size=q'.length+items.size/\Q (pLt p' q') s) (fun c s'=>match c.1 with|some r=>Q r s'|none=>c.1=none/\Q (decide (items.size<items2.size)) s') ?turn ?fin _ _ ?h0|>fun z=>Bx z ?post fun _ _ e=>e)
 case post =>
  rintro⟨c,⟨⟩⟩ s' hc;cases c with
  |none=>exact Ad hc.2
  |some r=>exact Ad hc
 case h0=>exact⟨rfl,rfl,items.toList,items2.toList,p,q,0,rfl,hi,hj,by lia,h⟩
 case fin =>
  rintro c s' ⟨rfl,rfl,vs,ws,p',q',k,hz,hv,hw,hl,hQ⟩;have e:pLt p' q'=decide (items.size<items2.size):=by
   cases p' with
   |nil =>
    cases q' with
    |nil=>exact(decide_eq_false (by simp only[Ha] at hl;lia)).symm
    |cons m' q'=>exact(decide_eq_true (by simp only[Ha,Bf] at hl;lia)).symm
   |cons m p' =>
    cases q' with
    |nil=>exact(decide_eq_false (by simp only[Ha,Bf] at hl;lia)).symm
    |cons m' q' =>
     rw[An] at hv hw;cases hv with
     |cons _ t _=>cases hw with|cons _ u _=>rw[Kr,Vp] at hz;cases hz
  rw[e] at hQ;exact⟨rfl,hQ⟩
 case turn =>
  rintro⟨⟨y,x⟩,i⟩ rest c s' ⟨rfl,rfl,vs,ws,p',q',k,hz,hv,hw,hl,hQ⟩;cases p' with
  |nil=>cases hv;rw[Uu] at hz;cases hz
  |cons m p' =>
   cases q' with
   |nil=>cases hw;rw[Tz] at hz;cases hz
   |cons m' q' =>
    rw[An] at hv hw;cases hv with
    |cons _ t hv' =>
     cases hw with
     |cons _ u hw' =>
      rw[Kr,Vp] at hz;injection hz with h1 h2;injection h1 with h1 h3;injection h1 with h4 h5;subst h4 h5 h3;rw[q4q] at hQ;simp only[Bf] at hl;refine Ab (Nx (mk m) t (mk m') u (A:=A) (s:=s') prog w _ _ ?_);by_cases e:m=m'
      ·subst e;rw[if_pos rfl] at hQ;rw[beq_self_eq_true];simp only[Cs,Az,if_false];exact Ad ⟨rfl,rfl,_,_,_,_,_,h2,hv',hw',by lia,hQ⟩
      ·rw[if_neg e] at hQ;have e2:(mk m==mk m')=false:=beq_eq_false_iff_ne.mpr fun z=>e (mk_inj z);rw[e2];simp only[Jc,if_true];exact Ab (x4m (b:=b&&i==0) (Ad hQ))
def PairAt(h:Heap)(v:Value)(p:Pth)(m:Value):Prop:=∃a k,v=.ref a/\IsTup h a #[k,m]/\PathAt h k p
theorem PairAt.keep{h h':Heap}{v m:Value}{p:Pth}(x:PairAt h v p m)(k:∀b o,h.get? b=some o->h'.get? b=some o):PairAt h' v p m:=let ⟨a,z,e,t,s⟩:=x;⟨a,z,e,IsTup.keep t fun o=>k a o,s.keep k⟩
theorem z7p{m m':Value}{Q:Bool->Af->Prop}(hx:PairAt s.heap x p m)(hy:PairAt s.heap y q m')(hxy:p=q->x=y)(lp:Low p)(lq:Low q)(hu:A.units+2<cLine)(h:Q (pLt p q) s):wpAny (model prog w) A (keyLt' (Uh false) x y) Q E s:=by
 obtain⟨l,k,rfl,hl,hk⟩:=hx;obtain⟨l2,k2,rfl,hl2,hk2⟩:=hy;obtain⟨o,ho,hc,n,hd⟩:=id hl;obtain⟨o2,ho2,hc2,n2,hd2⟩:=id hl2;refine Ab (m:=Gu (.ref l)) (Ks ho hd (Ab (m:=Gu (.ref l2)) (Ks ho2 hd2 ?_)));show wpAny (model prog w) A (forIn [((k,k2),0),((m,m'),1)] ((none,()):Option Bool×Unit) _ >>= _) Q E s;rw[Qk];refine Ab (Ab (Ab (x0m hk hk2 lp lq hu prog w _ _ ?_)));by_cases e:p=q
 ·have e1:=hxy e;cases e1;have e2:=IsTup.inj hl hl2;have e3:k=k2/\m=m':=by
   have:=congrArg Array.toList e2;simpa using this
  obtain⟨rfl,rfl⟩:=e3;subst e;rw[decide_eq_true rfl];simp only[Cs,Az,if_false];refine Ad ?_;dsimp only;rw[Qk];refine Ab (Ab (Vz m (A:=A) (s:=s) prog w _ _ ?_));simp only[Cs,Az,if_false];refine Ad ?_;dsimp only;rw[List.forIn_nil];refine Ad (Ad ?_);rw[q4v] at h;simpa using h
 ·rw[decide_eq_false e];simp only[Jc,if_true,Rb];refine Ab (x0o hk hk2 (by lia) (Ad ?_));exact Ad (Ad h)
theorem z2h{α β:Type}{f:α->Sem β}{g:α->β}:∀(l:List α) {Q:List β->Af->Prop},(∀a∈l,∀(Q':β->Af->Prop),Q' (g a) s->wpAny (model prog w) A (f a) Q' E s)->Q (l.map g) s->wpAny (model prog w) A (l.mapM f) Q E s
 |[],Q,_,h=>by rw[List.mapM_nil];exact Ad h
 |a::l,Q,hf,h=>by
  rw[List.mapM_cons];refine Ab (hf a As _ (Ab (z2h l (fun b hb=>hf b (Ao _ hb)) (Ad h))))
theorem x0p{a:Addr}{its:Array Value}{Q:Option Value->Af->Prop}(t:IsTup s.heap a its)(h:Q its[0]? s):wpAny (model prog w) A (firstOfTuple' (.ref a)) Q E s:=by
 obtain⟨o,ho,hc,n,hd⟩:=t;refine Ab (m:=typeOf (.ref a)) (Gx (T := "tuple") ⟨o,ho,hc⟩ ?_);have e:(Value.type "tuple" != Value.type "tuple")=false:=by decide
 rw[e];simp only[Az,if_false];exact Ab (m:=Gu (.ref a)) (Ks ho hd (Ad h))
theorem z7q{T:String}{vs:List Value}{fs:Value->Value}{Q:Mb->Af->Prop}(hne:vs≠[])(hf:∀v∈vs,∃a its,v=.ref a/\IsTup s.heap a its/\its[0]?=some (fs v))(hT:∀v∈vs,s.TypeIs (fs v) T)(h:Q (Uh (Value.type T != Value.type "tuple")) s):wpAny (model prog w) A (keyKind' vs.toArray) Q E s:=by
 rw[keyKind'_eq,Uv];refine Ab (Ab (z2h (g:=fun v=>some (fs v)) vs (fun v hv Q' h'=>?_) (Ad ?_)))
 ·obtain⟨a,its,rfl,t,e⟩:=hf v hv;exact x0p t (by rw[e];exact h')
 ·have hall:((vs.map fun v=>some (fs v)).toArray.all fun x=>x.isSome)=true:=by simp
  rw[if_pos (by simpa using hall)];refine Ab (Ff ?_);rw[oneTypeOnly'_eq];have e:Array.filterMap id (vs.map fun v=>some (fs v)).toArray=(vs.map fs).toArray:=by
   simp[Tu]
  rw[e,Uv];refine Ab (Ab (Ab (z2h (g:=fun _=>Value.type T) (vs.map fs) (fun x hx Q' h'=>?_) (Ad ?_))))
  ·obtain⟨v,hv,rfl⟩:=Ba.mp hx;exact Gx (hT v hv) h'
  ·cases vs with
   |nil=>exact absurd rfl hne
   |cons v vs =>
    have e0:(((v::vs).map fs).map fun _=>Value.type T).toArray[0]?=some (Value.type T):=by simp
    have ea:((((v::vs).map fs).map fun _=>Value.type T).toArray.all fun x=>x==Value.type T)=true:=by simp
    rw[e0];dsimp only;rw[ea];simp only[if_true];exact Ad (Ad (by simpa using h))
end
open PySem PyProof.Rows TX
section
variable{prog:Program}{w:World}{A:Around}{E:Value->Af->Prop}{s:Af}{kd:Mb}{S:Value->Prop}{r:Value->Int}{vs:List Value}
def KeptBut(a:Addr)(h h':Heap):Prop:=∀b o,b≠a->h.get? b=some o->h'.get? b=some o
structure Sorted (r:Value->Int) (vs:List Value) (out:Array Value):Prop where
 perm:out.toList.Perm vs
 rise:out.toList.Pairwise fun x y=>r x<=r y
theorem x0q{xs:Array Keyed}(hp:xs.Perm (pairsOf vs)):(∀p∈xs.toList,p.1=p.2)/\(xs.map (·.2)).toList.Perm vs:=by
 have hl:xs.toList.Perm (vs.zip vs):=by rw[<- pairsOf_toList];exact Oo.mp hp
 refine⟨fun p hp'=>(mem_zip_self (hl.mem_iff.mp hp')).1,?_⟩;rw[Px];have:=hl.map (·.2)
 rwa [List.map_snd_zip (Aj _)] at this
theorem z0j{st:Ik}(hp:(arrOf st).Perm (pairsOf vs))(u:Up r (arrOf st) (pairsOf vs).size):Sorted r vs ((arrOf st).map (·.2)):=by
 obtain⟨h1,h2⟩:=x0q hp;refine⟨h2,?_⟩;rw[List.pairwise_iff_getElem];intro i j hi hj hij;have hi':i<(arrOf st).size:=by simp_all
 have hj':j<(arrOf st).size:=by simp_all
 have e:=u i j (Hv hij) (by rw[<- hp.size_eq];exact hj');have k:∀{n:Nat} (hn:n<(arrOf st).size),rk r (arrOf st) n=r (arrOf st)[n].2:=fun{n} hn=>by
  unfold rk;rw[getElem?_pos (arrOf st) n hn];show r (arrOf st)[n].1=_;rw[h1 (arrOf st)[n] (by simp)]
 rw[k hi',k hj'] at e;simpa using e
theorem z7r(ho:s.heap.get? a=some (Nc "list" vs.toArray n))(h64:vs.length<64)(hS:∀v∈vs,S v)(hk:2<=vs.length->∀s' (E:Value->Af->Prop) (Q:Mb->Af->Prop),KeptBut a s.heap s'.heap->Q kd s'->wpAny (model prog w) A (keyKind' vs.toArray) Q E s')(T:∀s',KeptBut a s.heap s'.heap->Tells prog w A s' kd S r)(h:∀out,Sorted r vs out->P (.done (.ret .none)) { s with heap:=sortedHeap s.heap a vs out }):
  wpAny (model prog w) A (Cv.«list.sort» ⟨[.ref a],[]⟩) P E s:=by
 have hz2:=pairsOf_size vs;have hz3:vs.length<=sizeLine:=by rw[Fe];lia
 rw[list_sort_plain];refine Ab (Ks ho rfl (Ab (Sw ho rfl ?_)));have o1:=get?_update_seq ho (fun _=>#[]);refine Ab (Ve o1 rfl (Ab (Nl (Ab (wpAny_newList (Cm ?_))))));generalize hg:(((s.heap.update a (Gs fun _=>#[])).push (Nc "tuple" vs.toArray 0)).push (Nc "list" #[] 0))=g;have kg:KeptBut a s.heap g:=fun b o hb e=>by
  rw[<- hg];exact Ae _ (Ae _ ((Cb _ _ (Ca hb)).trans e))
 have og:=Ae (Nc "list" #[] 0) (Ae (Nc "tuple" vs.toArray 0) o1);rw[hg] at og;have fin:∀out,Sorted r vs out->P (.done (.ret .none)) { s with heap:=g.update a (Gs fun _=>out) }:=fun out so=>by
  have:=h out so;unfold sortedHeap at this
  rwa [hg] at this
 by_cases h2:vs.length<2
 ·have h2':vs.toArray.size<2:=by simpa using h2
  simp only[if_pos h2'];refine Ab (Ad ?_);refine Ab (Ad (Ab (Ve og rfl (Ab (Sw og rfl ?_ (hsz2:=by show((pairsOf vs).map _).size<=_;rw[Array.size_map];lia))))));simp only[bne_self_eq_false,Az,if_false];exact Ad (fin _ (z0j (Wg _) fun i j a' b'=>by rw[show i=j by lia];exact Qw _))
 ·have h2':¬vs.toArray.size<2:=by simpa using h2
  simp only[if_neg h2'];refine Ab (hk (by lia) _ _ _ kg ?_);refine Ab (Bx (x4k (a₀:=pairsOf vs) (Q:=fun _ t=>(arrOf t).Perm (pairsOf vs)/\Vn t=none/\Up r (arrOf t) (pairsOf vs).size) (T _ kg) (fun p hp=>hS _ ?_)
   ⟨Wg _,rfl,rfl,rfl⟩ (by lia) (by lia) fun t a1 a2 a3=>⟨a1,a2,a3⟩) ?_ fun _ _ e=>e)
  ·rw[pairsOf_toList] at hp;exact(mem_zip_self hp).2
  ·rintro⟨⟨⟩,t⟩ s' ⟨rfl,pm,fl,up⟩;refine Ab (Ve og rfl (Ab (Sw og rfl ?_ (hsz2:=by show((arrOf t).map _).size<=_;rw[Array.size_map,pm.size_eq];lia))));rw[fl];simp only[bne_self_eq_false,Az,if_false];exact Ad (fin _ (z0j pm up))
end
section
variable{prog:Program}{w:World}{A:Around}{E:Value->Af->Prop}{s:Af}
structure Ready (prog:Program) (w:World) (A:Around) (vs:List Value) (h:Heap) (kd:Mb) (S:Value->Prop) (r:Value->Int):Prop where
 few:vs.length<64
 all:∀v∈vs,S v
 kind:2<=vs.length->∀A' s' (E:Value->Af->Prop) (Q:Mb->Af->Prop),A'.units<=A.units+9->(∀b o,h.get? b=some o->s'.heap.get? b=some o)->Q kd s'->wpAny (model prog w) A' (keyKind' vs.toArray) Q E s'
 tells:∀A' s',A'.units<=A.units+9->(∀b o,h.get? b=some o->s'.heap.get? b=some o)->Tells prog w A' s' kd S r
theorem sorted_ok
  (hc:∀{Q':List Value->Af->Prop},(∀vs h tk kd S r,Ready prog w A vs h kd S r ->
    (∀h' out,Sorted r vs out->(∀b o,h.get? b=some o->h'.get? b=some o)->(∃e,h'.get? h.objs.size=some (Nc "list" out e))->Q (.ref h.objs.size) { s with heap:=h',toks:=tk })->Q' vs { s with heap:=h,toks:=tk }) ->
   wpAny (model prog w) A.in1 (collect x) Q' E s):wpAny (model prog w) A (call (.builtin "sorted") [x]) Q E s:=by
 refine Calls.call_function_entry kind_sorted plain_sorted entry_sorted (args_sorted1 _) ?_;refine Ab (Ad (Ab (hc fun vs h tk kd S r rd hQ=>?_)));have hz3:vs.length<=sizeLine:=by have:=rd.few;rw[Fe];lia
 refine Ab (wpAny_newList ?_);have ho:(h.push (Nc "list" vs.toArray 0)).get? h.objs.size=some (Nc "list" vs.toArray 0):=Ak _ rfl;have kb:∀{g:Heap},KeptBut h.objs.size (h.push (Nc "list" vs.toArray 0)) g->∀b o,h.get? b=some o->g.get? b=some o:=fun kg b o e=>kg b o (Bd (Al e)) (Ae _ e);refine Ab (Cm (Bq slot_list_sort ⟨_,ho,rfl⟩ entry_list_sort (z7r ho rd.few rd.all (fun h2 s' E Q kg q=>rd.kind h2 _ s' E Q (by show A.units+1+1<=_;lia) (kb kg) q) (fun s' kg=>rd.tells _ s' (by show A.units+1+1<=_;lia) (kb kg)) fun out so=>⟨_,rfl,?_⟩) (args_list_sort _)));refine Ad ⟨_,rfl,hQ _ out so (fun b o e=>?_) (sortedHeap_at ho)⟩;have:=sortedHeap_old (vs:=vs) (out:=out) (h:=h.push (Nc "list" vs.toArray 0)) (Bd (Al e)) (by rw[size_push'];exact Iu (Al e));rw[this];exact Ae _ e
theorem perm_map_inv {α β : Type} {g : α → β} : ∀ {l m : List β}, l.Perm m → ∀ {zs : List α}, m = zs.map g → ∃ zs' : List α, zs'.Perm zs ∧ l = zs'.map g := by
  intro l m h;induction h with
  | nil => simp_all
  | cons x h ih => intro zs e; cases zs with
    | nil => cases e
    | cons z zs =>
      injection e with e1 e2;obtain ⟨zs', h1, h2⟩ := ih e2;exact ⟨z :: zs', h1.cons z, by rw [An, ← h2, e1]⟩
  | swap x y l => intro zs e; cases zs with
    | nil => cases e
    | cons z zs => cases zs with
      | nil => cases e
      | cons z2 zs =>
        injection e with e1 e2;injection e2 with e2 e3;exact ⟨z2 :: z :: zs, List.Perm.swap _ _ _, by rw [An, An, ← e1, ← e2, ← e3]⟩
  | trans h1 h2 ih1 ih2 => intro zs e
                           obtain ⟨zs', p1, e1⟩ := ih2 e;obtain ⟨zs2, p2, e2⟩ := ih1 e1;exact ⟨zs2, p2.trans p1, e2⟩
open Classical in
noncomputable def keyBy (K:Value->Pth->Prop) (v:Value):Pth:=if h:∃p,K v p then choose h else[]
theorem q3t{K:Value->Pth->Prop}(hK:∀v p q,K v p->K v q->p=q){v:Value}{p:Pth}(h:K v p):keyBy K v=p:=by
 unfold keyBy;have hx:∃p,K v p:=⟨p,h⟩
 rw[dif_pos hx];exact hK v _ _ (Classical.choose_spec hx) h
theorem rise_paths{K:Value->Pth->Prop}(hK:∀v p q,K v p->K v q->p=q){α:Type}{g:α->Value}{f:α->Pth}:∀{zs:List α},(∀z∈zs,K (g z) (f z)/\f z∈ps)->(zs.map g).Pairwise (fun x y=>(pRank ps (keyBy K x):Int)<=(pRank ps (keyBy K y):Int))->(zs.map f).Pairwise fun a b=>pLt b a=false
 |[],_,_=>.nil
 |z::zs,hz,h=>by
  rw[An] at h ⊢;obtain⟨h1,h2⟩:=Kt.mp h;refine Kt.mpr ⟨fun b hb=>?_,rise_paths hK (fun y hy=>hz y (Ao _ hy)) h2⟩;obtain⟨y,hy,rfl⟩:=Ba.mp hb;obtain⟨k1,m1⟩:=hz z As;obtain⟨k2,m2⟩:=hz y (Ao _ hy);have:=h1 (g y) (Ba.mpr ⟨y,hy,rfl⟩);rw[q3t hK k1,q3t hK k2] at this;rw[z2g m2 m1];exact decide_eq_false (by lia)
theorem ready_paths(few:vs.length<64)(hp:∀v∈vs,∃p∈ps,p≠[]/\PathAt h v p):
  Ready prog w A vs h (Uh true) (fun v=>∃p∈ps,PathAt h v p) (fun v=>(pRank ps (keyBy (PathAt h) v):Int)) where
 few:=few
 all:=fun v hv=>let ⟨p,a,_,b⟩:=hp v hv;⟨p,a,b⟩
 kind:=fun h2 A' s' E Q _ k q=>by
  have hne:vs≠[]:=fun z=>by rw[z] at h2;simp at h2
  have ex:∀v∈vs,∃a its n p t,v=.ref a/\IsTup s'.heap a its/\its[0]?=some (.str (mk n) t):=fun v hv=>by
   obtain⟨p,_,hne,x⟩:=hp v hv;obtain⟨a,its,rfl,tt,st⟩:=x.keep k;cases p with
   |nil=>exact absurd rfl hne
   |cons n p =>
    obtain⟨l⟩:=its;cases st with
    |cons _ t st'=>exact⟨a,_,n,p,t,rfl,tt,rfl⟩
  refine z7q (fs:=fun v=>(match v with|.ref a=>(match s'.heap.get? a with|some o=>(match o.data with|.seq its _=>its.getD 0 .none|_=>.none)|none=>.none)|_=>.none)) hne (fun v hv=>?_) (fun v hv=>?_) (by rw[show(Value.type "str" != Value.type "tuple")=true from by decide];exact q)
  ·obtain⟨a,its,n,p,t,rfl,tt,e⟩:=ex v hv;refine⟨a,its,rfl,tt,?_⟩;obtain⟨o,e1,e2,m,e3⟩:=tt;simp only[e1,e3];rw[e,Od,e];rfl
  ·obtain⟨a,its,n,p,t,rfl,tt,e⟩:=ex v hv;obtain⟨o,e1,e2,m,e3⟩:=tt;simp only[e1,e3];rw[Od,e];exact Sa _ _ _
 tells:=fun A' s' _ k E x y Q ⟨p,hp1,x1⟩ ⟨q,hq1,y1⟩ h'=>by
  refine z7o (x1.keep k) (y1.keep k) ?_;have hK:∀v p q,PathAt h v p->PathAt h v q->p=q:=fun _ _ _ a b=>a.inj b;have e1:=q3t hK x1;have e2:=q3t hK y1;rw[z2g hp1 hq1,<- e1,<- e2];exact h'
theorem PairAt.inj(h1:PairAt h v p m)(h2:PairAt h v q m'):p=q:=by
 obtain⟨a,k,rfl,t,s⟩:=h1;obtain⟨a',k',e,t',s'⟩:=h2;cases e;have e:=congrArg Array.toList (IsTup.inj t t');have e2:k=k':=by grind
 subst e2;exact s.inj s'
theorem ready_pairs(few:vs.length<64)(hp:∀v∈vs,∃p∈ps,∃m,Low p/\PairAt h v p m)(hi:∀u∈vs,∀v∈vs,∀p m m',PairAt h u p m->PairAt h v p m'->u=v)(hu:A.units+12<cLine):
  Ready prog w A vs h (Uh false) (fun v=>v∈vs) (fun v=>(pRank ps (keyBy (fun v p=>∃m,PairAt h v p m) v):Int)) where
 few:=few
 all:=fun v hv=>hv
 kind:=fun h2 A' s' E Q _ k q=>by
  have hne:vs≠[]:=fun z=>by rw[z] at h2;simp at h2
  have ex:∀v∈vs,∃a b its m,v=.ref a/\IsTup s'.heap a #[.ref b,m]/\IsTup s'.heap b its:=fun v hv=>by
   obtain⟨p,_,m,_,x⟩:=hp v hv;obtain⟨a,z,rfl,tt,b,its,rfl,t2,_⟩:=x.keep k;exact⟨a,b,its,m,rfl,tt,t2⟩
  refine z7q (fs:=fun v=>(match v with|.ref a=>(match s'.heap.get? a with|some o=>(match o.data with|.seq its _=>its.getD 0 .none|_=>.none)|none=>.none)|_=>.none)) hne (fun v hv=>?_) (fun v hv=>?_) (by rw[show(Value.type "tuple" != Value.type "tuple")=false from by decide];exact q)
  ·obtain⟨a,b,its,m,rfl,tt,_⟩:=ex v hv;refine⟨a,_,rfl,tt,?_⟩;obtain⟨o,e1,e2,n,e3⟩:=tt;simp only[e1,e3];rfl
  ·obtain⟨a,b,its,m,rfl,tt,t2⟩:=ex v hv;obtain⟨o,e1,e2,n,e3⟩:=tt;simp only[e1,e3];obtain⟨o2,f1,f2,_⟩:=t2;exact⟨o2,f1,f2⟩
 tells:=fun A' s' hA k E x y Q hx hy h'=>by
  obtain⟨p,hp1,m,lp,x1⟩:=hp x hx;obtain⟨q,hq1,m',lq,y1⟩:=hp y hy;refine z7p (x1.keep k) (y1.keep k) (fun e=>by subst e;exact hi x hx y hy _ _ _ x1 y1) lp lq (by lia) ?_;have hK:∀v p q,(∃m,PairAt h v p m)->(∃m,PairAt h v q m)->p=q:=fun v p q ⟨_,a⟩ ⟨_,b⟩=>PairAt.inj a b
  have e1:=q3t hK ⟨m,x1⟩;have e2:=q3t hK ⟨m',y1⟩;rw[z2g hp1 hq1,<- e1,<- e2];exact h'
end
end SB
namespace PySem.Rv
open Sem (wp)
structure Runs (prog:Program) (w:World) (A:Around) (S I:Addr) (n:Nat) (Fc:List Value->Heap->Prop) (It:Nat->Heap->Prop):Prop where
 keepF:∀acc h h',Fc acc h->(∀b o,b≠S->b≠I->h.get? b=some o->h'.get? b=some o)->Fc acc h'
 keepI:∀i h h',It i h->(∀b o,b≠S->h.get? b=some o->h'.get? b=some o)->It i h'
 item:∀acc (s:Af) (Q:Option Value->Af->Prop) (E:Value->Af->Prop),acc.length<n->Fc acc s.heap->It acc.length s.heap ->
  (∀v h',Fc (acc++[v]) h'->It (acc.length+1) h'->(∀b o,b≠I->s.heap.get? b=some o->h'.get? b=some o)->Q (some v) { s with heap:=h' })->wpAny (model prog w) A.in1 (Iw (.ref I)) Q E s
 done:∀(s:Af) (Q:Option Value->Af->Prop) (E:Value->Af->Prop),It n s.heap->(∀h',(∀b o,b≠I->s.heap.get? b=some o->h'.get? b=some o)->Q none { s with heap:=h' })->wpAny (model prog w) A.in1 (Iw (.ref I)) Q E s
section
variable{prog:Program}{w:World}{A:Around}{E:Value->Af->Prop}{S I:Addr}{n:Nat}{Fc:List Value->Heap->Prop}{It:Nat->Heap->Prop}
theorem grow(W:Runs prog w A S I n Fc It)(hSI:S≠I)(hn:n<=sizeLine)(res:Value):∀(k:Nat) (acc:List Value) (s:Af) (c:Nat),n-acc.length=k->acc.length<=n->Fc acc s.heap->It acc.length s.heap ->
  s.heap.get? S=some { cls:=.type "list",data:=.seq acc.toArray c } ->
  (∀acc' h' c',acc'.length=n->Fc acc' h'->(∀b o,b≠S->b≠I->s.heap.get? b=some o->h'.get? b=some o)->h'.get? S=some { cls:=.type "list",data:=.seq acc'.toArray c' }->R (.ok (.ret res)) { s with heap:=h' }) ->
  Fw (model prog w) A (.builtin "list.extend.loop" ⟨[.ref S,.ref I,res],[]⟩) R s:=by
 intro k;induction k with
 |zero =>
  intro acc s c hk hl f i hS hR;refine Hc Tc ?_;rw[Gf Ib _];have e:acc.length=n:=by lia
  refine Ab (W.done s _ _ (by rw[<- e];exact i) fun h' kp=>Ad ?_);exact hR acc h' c e (W.keepF _ _ _ f fun b o _ hb q=>kp b o hb q) (fun b o _ hb q=>kp b o hb q) (kp S _ hSI hS)
 |succ k ih =>
  intro acc s c hk hl f i hS hR;refine Hc Tc ?_;rw[Gf Ib _];refine Ab (W.item acc s _ _ (by lia) f i fun v h' f' i' kp=>?_);have hS':=kp S _ hSI hS;have oth:∀b o,b≠S->h'.get? b=some o->(h'.update S (Gs (·.push v))).get? b=some o:=fun b o hb q=>(Cb _ _ (Ca hb)).trans q;have hS2:(h'.update S (Gs (·.push v))).get? S=some { cls:=.type "list",data:=.seq (acc++[v]).toArray (c+1) }:=by
   have:=Jd hS' (fun x=>x.push v);rw[this];simp
  refine Ab (Qm hS' rfl (Ad ⟨Jp Ib _,ih (acc++[v]) _ (c+1) (by rw[Ai,Bc];lia) (by rw[Ai,Bc];lia)
   (W.keepF _ _ _ f' fun b o hb _ q=>oth b o hb q) (by rw[Ai,Bc];exact W.keepI _ _ _ i' oth) hS2 fun acc' h2 c' e2 f2 k2 s2=>hR acc' h2 c' e2 f2 (fun b o hb hb' q=>k2 b o hb hb' (oth b o hb (kp b o hb' q))) s2⟩) (by rw[Aw];lia) (by simp;lia))
theorem collect_runs(hT:∀h,(∀b o,s.heap.get? b=some o->h.get? b=some o)->(⟨h,s.gens,s.drawn,s.toks,s.os⟩:Af).TypeIs (.ref v) T)(hv:v<s.heap.objs.size)(h1:(Value.type T==Value.type "list")=false)(h2:(Value.type T==Value.type "tuple")=false)(hint:∀(A:Around) (E:Value->Af->Prop) (s':Af) (Q:Bool->Af->Prop),s'.TypeIs (.ref v) T->Q false s'->wpAny (model prog w) A (Cv.List.listLengthHint (.ref v)) Q E s')(iter:∀(A:Around) (E:Value->Af->Prop) (h:Heap) (Q:Value->Af->Prop),(∀b o,s.heap.get? b=some o->h.get? b=some o)->Q (.ref h.objs.size) { s with heap:=h.push oI }->wpAny (model prog w) A (Lm (.ref v)) Q E { s with heap:=h })(hoI:∀h:Heap,(h.push oI).get? h.objs.size=some oI)(W:Runs prog w A s.heap.objs.size (s.heap.objs.size+1) n Fc It)(hn:n<=sizeLine)(h0:∀h,(∀b o,s.heap.get? b=some o->h.get? b=some o)->h.get? (s.heap.objs.size+1)=some oI->Fc [] h/\It 0 h)(hQ:∀acc h,acc.length=n->Fc acc h->s.heap.objs.size<=h.objs.size->(∀b o,s.heap.get? b=some o->h.get? b=some o)->Q acc { s with heap:=h }):wpAny (model prog w) A (collect (.ref v)) Q E s:=by
 refine Ab (wpAny_runValue (Hc F.entry_proto_collect ?_));rw[Gf F.plain_proto_collect _];refine Ab (By (Ad ⟨Jp Ux _,Hc F.entry_list_iadd ?_⟩));rw[Gf Ux _];show wpAny _ A.in1 (Cv.List.listExtendWith (.ref s.heap.objs.size) (.ref v) (.ref s.heap.objs.size)) _ _ { s with heap:=s.heap.push { cls:=.type "list",data:=.seq ([]:List Value).toArray } };generalize hg:s.heap.push { cls:=.type "list",data:=.seq ([]:List Value).toArray }=g;have kg:∀b o,s.heap.get? b=some o->g.get? b=some o:=fun b o q=>by rw[<- hg];exact Ae _ q
 have gz:g.objs.size=s.heap.objs.size+1:=by rw[<- hg];exact Fx _ _
 have gS:g.get? s.heap.objs.size=some { cls:=.type "list",data:=.seq ([]:List Value).toArray }:=by rw[<- hg];exact Ak _ rfl
 refine Ab (Gx (hT g kg) ?_);have hs:Py (.ref s.heap.objs.size) (.ref v)=false:=by simp[Py,Dk hv]
 simp only[hs,h1,h2,Ss,Az,if_false];refine Ab (iter _ _ g _ kg ?_);rw[gz];have kI:∀b o,g.get? b=some o->(g.push oI).get? b=some o:=fun b o q=>Ae _ q;have hS₁:=kI _ _ gS;have put:∀(h:Heap) (c:Nat),(∀b o,b≠s.heap.objs.size->(g.push oI).get? b=some o->h.get? b=some o)->h.get? s.heap.objs.size=some { cls:=.type "list",data:=.seq ([]:List Value).toArray c }->h.get? (s.heap.objs.size+1)=some oI ->
   Fw (model prog w) A (.builtin "list.extend.loop" ⟨[.ref s.heap.objs.size,.ref (s.heap.objs.size+1),.ref s.heap.objs.size],[]⟩) (fun r s'=>∃acc c',r=.ok (.ret (.ref s.heap.objs.size))/\s'.heap.get? s.heap.objs.size=some { cls:=.type "list",data:=.seq acc c' }/\Q acc.toList s') { s with heap:=h }:=by
  intro h c kh hh hi;obtain⟨f,i⟩:=h0 h (fun b o q=>kh b o (Bd (Al q)) (kI b o (kg b o q))) hi;refine grow W (Bd (Hw _)) hn _ n [] _ c (by simp) (Be _) f i hh fun acc h' c' e f' k' s'=>⟨acc.toArray,c',rfl,s',?_⟩
  have:=hQ acc h' e f' (Hv (Al s')) fun b o q=>k' b o (Bd (Al q)) (Bd (Iu (Al q))) (kh b o (Bd (Al q)) (kI b o (kg b o q)));simpa using this
 have gI:(g.push oI).get? (s.heap.objs.size+1)=some oI:=by grind
 refine Ab (Cm (hint _ _ _ _ (hT (g.push oI) fun b o q=>kI b o (kg b o q)) ?_));have last:∀(h:Heap) (c:Nat),(∀b o,b≠s.heap.objs.size->(g.push oI).get? b=some o->h.get? b=some o)->h.get? s.heap.objs.size=some { cls:=.type "list",data:=.seq ([]:List Value).toArray c }->h.get? (s.heap.objs.size+1)=some oI->∀{R:Result->Af->Prop},
   (∀s' acc c',s'.heap.get? s.heap.objs.size=some { cls:=.type "list",data:=.seq acc c' }->Q acc.toList s'->R (.ok (.ret (.ref s.heap.objs.size))) s')->Fw (model prog w) A (.builtin "list.extend.loop" ⟨[.ref s.heap.objs.size,.ref (s.heap.objs.size+1),.ref s.heap.objs.size],[]⟩) R { s with heap:=h }:=by
  intro h c kh hh hi R hR;refine Gw (put h c kh hh hi) fun r s' z=>?_;obtain⟨acc,c',rfl,e,q⟩:=z;exact hR s' acc c' e q
 refine wpAny_ite_split (fun _=>?_) (fun _=>?_)
 ·refine Ab (Ff (Ab ?_));show wpAny _ _ (updateSeq s.heap.objs.size (·.push .none) >>= fun _=>updateSeq s.heap.objs.size (·.pop)) _ _ _;refine Ab (Qm hS₁ rfl ?_);have hS₂:=Jd hS₁ (fun x=>x.push Value.none);refine Qm hS₂ rfl ?_;have hS₃:=Jd hS₂ (fun x=>x.pop);have oth:∀b o,b≠s.heap.objs.size->(g.push oI).get? b=some o->(((g.push oI).update s.heap.objs.size (Gs fun x=>x.push Value.none)).update s.heap.objs.size (Gs fun x=>x.pop)).get? b=some o :=
   fun b o hb q=>(Cb _ _ (Ca hb)).trans ((Cb _ _ (Ca hb)).trans q)
  refine Ad ⟨Jp Ib _,last _ _ oth hS₃ (oth _ _ (Dk (Hw _)) gI) fun s' acc c' e q=>?_⟩;exact Ab (Vu e (Ad q))
 ·refine Ad ⟨Jp Ib _,last _ _ (fun b o _ q=>q) hS₁ gI fun s' acc c' e q=>?_⟩;exact Ab (Vu e (Ad q))
end
end PySem.Rv
namespace L2
open PySem PySem.Spec PyProof.Rows SB TX
def kP(p:Pth):List Key:=p.map fun n=>Sum.inr (mk n)
abbrev vP(p:Pth):List V:=p.map fun n=>V.str (mk n)
theorem q6f(p:Pth):(kP p).map kV=vP p:=by unfold kP;rw[Ck];rfl
abbrev HRow:=Pth×V
abbrev dR(rows:List HRow):HO:=.dT (rows.map fun r=>(kP r.1,r.2))
theorem z0k:∀{p:Pth} {us:List Value},Vals (vP p) us->Ig us (p.map mk)
 |[],_,.nil=>.nil
 |n::p,us,h=>by
  cases h with
  |cons r t =>
   obtain⟨k,rfl⟩:=r;exact .cons _ k (z0k t)
section
variable{X:Cx}{pins:List (Addr×Obj)}{σ:St}{H:Hp}{s:Af}
theorem Inv.path(I:Inv X pins σ H s)(h:H b=some (.tup (vP p))):PathAt s.heap (.ref b) p:=by
 obtain⟨z,its,r,t⟩:=I.hok b _ h;exact⟨b,its.toArray,rfl,t,by simpa using z0k r⟩
theorem Inv.rows(I:Inv X pins σ H s){rows:List HRow}(hd:H d=some (dR rows)):(d==Cu)=false/\rows.length<=sizeLine/\∃ob es ep,s.heap.get? d=some ob/\ob.ExactDict/\ob.data=.dict es ep/\(rows.map (·.1)).Nodup /\
  ∃zs:List (Addr×Value×HRow),zs.map (·.2.2)=rows/\es.toList.map (fun e=>(e.key,e.val))=zs.map (fun z=>(Value.ref z.1,z.2.1))/\∀z∈zs,H z.1=some (.tup (vP z.2.2.1))/\RelV z.2.2.2 z.2.1:=by
 obtain⟨z,hsys,xs,hp,ob,es,ep,ho,hex,hob,h4,h5⟩:=(show ObjOk X.prog X.w H s.heap d (dR rows) from I.hok d _ hd)
 rw[Ag] at z;have go:∀(rows:List HRow) (xs:List (List Key×Addr×Value)),Dj (fun(p:List Key×V) (q:List Key×Addr×Value)=>p.1=q.1/\H q.2.1=some (.tup (p.1.map kV))/\RelV p.2 q.2.2) (rows.map fun r=>(kP r.1,r.2)) xs ->
   xs.map (·.1)=rows.map (fun r=>kP r.1)/\∃zs:List (Addr×Value×HRow),zs.map (·.2.2)=rows/\(xs.map (Pb (Kc (mixKind X.prog X.w)))).map (fun e=>(e.key,e.val))=zs.map (fun z=>(Value.ref z.1,z.2.1))/\∀z∈zs,H z.1=some (.tup (vP z.2.2.1))/\RelV z.2.2.2 z.2.1:=by
  intro rows;induction rows with
  |nil=>intro xs h;cases h;exact⟨rfl,[],rfl,rfl,fun _ h=>nomatch h⟩
  |cons r rows ih =>
   intro xs h;cases h with
   |cons hq t =>
    rename_i q ys;obtain⟨e1,e2,e3⟩:=hq;obtain⟨i0,zs,i1,i2,i3⟩:=ih ys t;refine⟨by rw[An,An,i0,<- e1],(q.2.1,q.2.2,r)::zs,by rw[An,i1],by rw[An,An,An,i2];rfl,fun z hz=>?_⟩;rcases Bk.mp hz with rfl|hz
    ·exact⟨by rw[<- q6f];exact e2,e3⟩
    ·exact i3 z hz
 obtain⟨g0,zs,g1,g2,g3⟩:=go rows xs hp;refine⟨hsys,z,ob,es,ep,ho,hex,hob,?_,zs,g1,by rw[h4];exact g2,g3⟩;rw[g0] at h5;have e:rows.map (fun r=>kP r.1)=(rows.map (·.1)).map kP:=by simp_all
 rw[e] at h5;exact(List.pairwise_map.mp h5).imp fun hne z=>hne (by rw[z])
end
abbrev PTs(H:Hp):List Addr->List Pth->Prop:=Dj fun b p=>H b=some (.tup (vP p))
def rSortD:List V->Hp->VK->Prop:=fun vs H Q=>∃d rows,vs=[.ref d]/\H d=some (dR rows)/\rows.length<64/\(∀r∈rows,r.1≠[]) /\
 ∀L bs ps,H L=none->ps.Perm (rows.map (·.1))->ps.Pairwise (fun a b=>pLt b a=false)->PTs H bs ps->Q (.ref L) (upd H L (.lst (bs.map V.ref)))
theorem q6g:∀(bs:List Addr),Vals (bs.map V.ref) (bs.map Value.ref)
 |[]=>.nil
 |b::bs=>.cons rfl (q6g bs)
theorem x2p{H:Hp}{α:Type}{f:α->Addr}{g:α->Pth}:∀{zs:List α},(∀z∈zs,H (f z)=some (.tup (vP (g z))))->PTs H (zs.map f) (zs.map g)
 |[],_=>.nil
 |z::zs,h=>.cons (h z As) (x2p fun y hy=>h y (Ao _ hy))
theorem z5c(hr:Room k X.A):CallR X (.builtin "sorted") rSortD:=by
 intro pins s σ H xs us Q I rv h;obtain⟨d,rows,rfl,hd,few,hne,q⟩:=h;obtain⟨u,rfl,ru⟩:=rv.one;cases ru;obtain⟨hsys,hz,ob,es,ep,ho,hex,hob,nd,zs,z1,z2,z3⟩:=I.rows hd;have hlen:es.size=rows.length:=by
  have:=congrArg List.length z2;rw[Ag,Ag,Gn] at this;rw[this,<- z1,Ag]
 have hkeys:∀{i:Nat} (hi:i<es.size),∃z∈zs,zs[i]?=some z/\es[i].key=.ref z.1:=fun{i} hi=>by
  have e:=congrArg (fun l=>l[i]?) z2;simp only[Bi,Mh,Ep hi,Jy] at e;cases hzi:zs[i]? with
  |none=>simp_all
  |some z =>
   rw[hzi] at e;injection e with e;injection e with e1 e2;exact⟨z,Ay hzi,rfl,e1⟩
 have hdL:=Al ho;refine SB.sorted_ok fun{Q'} kk=>?_;refine PySem.Rv.collect_runs (n:=es.size) (Fc:=fun acc _=>acc=(zs.take acc.length).map fun z=>Value.ref z.1)
  (It:=fun i h=>h.IsKeyIter (s.heap.objs.size+1) d i es.size ep/\h.get? d=some ob) (fun h kh=>⟨ob,kh _ _ ho,hex.1⟩) hdL (by decide) (by decide) (fun A E s' Q hT hq=>W.kdl_hint_dict hT hq)
  (fun A E h Q kh hq=>PySem.Rv.keys_iter hsys ⟨ob,kh _ _ ho,hex.1⟩ (kh _ _ ho) hob hq) (fun h=>Ak _ rfl) ⟨fun acc h h' f _=>f,fun i h h' ⟨f1,f2⟩ kp=>⟨f1.at fun o e=>kp _ _ (Dk (Hw _)) e,kp _ _ (Bd hdL) f2⟩,?_,?_⟩ (by lia)
  (fun h kh ki=>⟨rfl,⟨_,ki,rfl,rfl⟩,kh _ _ ho⟩) (fun acc h el f hz2 kh=>?_)
 ·intro acc s' Q E hl f ⟨i1,i2⟩ hq;refine PySem.Rv.keys_item i1 i2 hob hl fun h' j1 sb=>?_;obtain⟨z,hzm,hzi,hzk⟩:=hkeys hl;rw[hzk];refine hq _ h' ?_ ⟨j1,(sb.2 d (Bd (Iu hdL))).trans i2⟩ fun b o hb e=>(sb.2 b hb).trans e;rw[Ai,Bc,Hu,hzi,Av,<- f];rfl
 ·intro s' Q E ⟨i1,i2⟩ hq;exact PySem.Rv.keys_end hr.hd i1 i2 hob (Aj _) fun h' eb=>hq h' fun b o hb e=>eb b o hb e
 ·have hzl:zs.length=es.size:=by rw[hlen,<- z1,Ag]
  have ea:acc=zs.map fun z=>Value.ref z.1:=by grind
  have hpa:∀v∈acc,∃p∈rows.map (·.1),p≠[]/\PathAt h v p:=fun v hv=>by
   rw[ea] at hv;obtain⟨z,hzm,rfl⟩:=Ba.mp hv;have hm:z.2.2∈rows:=by grind
   exact⟨z.2.2.1,Ba.mpr ⟨_,hm,rfl⟩,hne _ hm,(I.path (z3 z hzm).1).keep kh⟩
  refine kk acc h s.toks _ _ _ (SB.ready_paths (by lia) hpa) fun h' out so kh' ⟨e,he⟩=>?_;have pm:=so.perm;rw[ea] at pm;obtain⟨zs',p1,p2⟩:=SB.perm_map_inv pm rfl;have hrise:=so.rise;rw[p2] at hrise;have hps:=SB.rise_paths (fun _ _ _ a b=>a.inj b) (fun z hz=>by
   have hzm:=p1.mem_iff.mp hz;have hm:z.2.2∈rows:=by grind
   exact⟨(I.path (z3 z hzm).1).keep kh,Ba.mpr ⟨_,hm,rfl⟩⟩) hrise
  have keep:=fun b o z=>kh' b o (kh b o z);have hfr:=I.hok.fresh hz2;have eo:out.toList=(zs'.map (·.1)).map Value.ref:=by rw[p2,Ck];rfl
  have el2:(zs'.map (·.1)).length=es.size:=by rw[Ag,p1.length_eq,hzl]
  refine⟨.ref h.objs.size,upd H h.objs.size (.lst ((zs'.map (·.1)).map V.ref)),I.laid (t':=s.toks) keep hz2 ⟨by rw[Ag,el2];lia,_,e,q6g _,?_⟩,rfl,?_⟩
  ·rw[he,<- eo]
  ·refine q _ (zs'.map (·.1)) (zs'.map fun z=>z.2.2.1) hfr ?_ hps (x2p fun z hz=>(z3 z (p1.mem_iff.mp hz)).1);have:=p1.map fun z:Addr×Value×HRow=>z.2.2.1;have e3:zs.map (fun z=>z.2.2.1)=rows.map (·.1):=by rw[<- z1,Ck];rfl
   rwa [e3] at this
def vwO(v d:Addr):HO:=.ext fun h=>h.IsItemsView v d
def rItems:V->List V->Hp->VK->Prop:=fun x vs H Q=>∃d rows,x=.ref d/\vs=[]/\H d=some (dR rows)/\∀v,H v=none->Q (.ref v) (upd H v (vwO v d))
theorem x0r:MtR X "dict.items" rItems:=by
 intro pins s σ H x vs v us Q I rx rv h;obtain⟨d,rows,rfl,rfl,hd,q⟩:=h;cases rx;have hus:=rv.zero;subst hus;obtain⟨hsys,hz,ob,es,ep,ho,hex,hob,_⟩:=I.rows hd;refine Bq F.slot_dict_items ⟨ob,ho,hex.1⟩ F.entry_dict_items ?_ (F.args_dict_items_1 _);refine Ab ?_;unfold Cv.Dict.noArgs;refine Ab (Me ⟨ob,ho,hex.1⟩ ?_);show wpAny _ _ (pure d) _ _ s;refine Ad ?_;unfold Mg;rw[if_neg (by rw[hsys];exact Bh)];refine Ab (Ad (Ab (By (Ad ⟨_,rfl,.ref s.heap.objs.size,_,I.laid (t':=s.toks) (fun b u e=>Ae _ e) (Aj _) ?_,rfl,q _ I.fresh⟩))));exact⟨⟨_,Ak _ rfl,rfl,rfl⟩,⟨_,Ak _ rfl⟩,fun h1 h2 ⟨o,e,c,dd⟩ k=>⟨o,k o e,c,dd⟩⟩
def PR(H:Hp)(a:Addr)(r:HRow):Prop:=∃b,H a=some (.tup [.ref b,r.2])/\H b=some (.tup (vP r.1))
abbrev PRs(H:Hp):List Addr->List HRow->Prop:=Dj (PR H)
def rSortV:List V->Hp->VK->Prop:=fun vs H Q=>∃v d rows,vs=[.ref v]/\H v=some (vwO v d)/\H d=some (dR rows)/\rows.length<64/\(∀r∈rows,Low r.1) /\
 ∀L as rs H',H L=none->rs.Perm rows->(rs.map (·.1)).Pairwise (fun a b=>pLt b a=false)->Same H H'->H' L=some (.lst (as.map V.ref))->PRs H' as rs->Q (.ref L) H'
theorem Inv.tracks{σ:St}:∀{zs:List (Addr×List V)} {H:Hp},Inv X pins σ H s->X.s₀.heap.objs.size<=n->(zs.map (·.1)).Nodup ->
  (∀z∈zs,n<=z.1/\FpOk X pins H z.1/\z.2.length<=sizeLine/\∃its,Vals z.2 its/\IsTup s.heap z.1 its.toArray)->∃H',Inv X pins σ H' s/\Same H H'/\(∀z∈zs,H' z.1=some (.tup z.2))/\∀b,(∀z∈zs,z.1≠b)->H' b=H b:=by
 intro zs;induction zs with
 |nil=>intro H I _ _ _;exact⟨H,I,Same.refl H,(fun _ h=>nomatch h),fun _ _=>rfl⟩
 |cons z zs ih =>
  intro H I hn nd hz;obtain⟨h1,h2,h3,its,h4,h5⟩:=hz z As;rw[An,En] at nd;have I2:=I.track (o:=.tup z.2) (Bb hn h1) h2 ⟨h3,its,h4,h5⟩;obtain⟨H',J,sm,ht,ho⟩:=ih I2 hn nd.2 (fun y hy=>by
   obtain⟨g1,g2,g3,g4⟩:=hz y (Ao _ hy);exact⟨g1,⟨by rw[q0f (fun e=>nd.1 (by rw[<- e];exact Ba.mpr ⟨y,hy,rfl⟩))];exact g2.1,g2.2⟩,g3,g4⟩)
  refine⟨H',J,((Same.refl H).new h2.1).trans sm,fun y hy=>?_,fun b hb'=>?_⟩
  ·rcases Bk.mp hy with rfl|hy
   ·exact sm _ _ q0c
   ·exact ht y hy
  ·rw[ho b fun y hy=>hb' y (Ao _ hy),q0f (Ca (hb' z As))]
theorem q3u{α β:Type}{f:α->β}:∀{l:List α},(l.map f).Nodup->∀{x y:α},x∈l->y∈l->f x=f y->x=y
 |[],_,_,_,h,_,_=>nomatch h
 |a::l,nd,x,y,hx,hy,e=>by
  rw[An,En] at nd;rcases Bk.mp hx with ex|hx1
  ·rcases Bk.mp hy with ey|hy1
   ·rw[ex,ey]
   ·exact absurd (by rw[<- ex,e];exact Ba.mpr ⟨y,hy1,rfl⟩) nd.1
  ·rcases Bk.mp hy with ey|hy1
   ·exact absurd (by rw[<- ey,<- e];exact Ba.mpr ⟨x,hx1,rfl⟩) nd.1
   ·exact q3u nd.2 hx1 hy1 e
abbrev Zt:=Addr×Value×HRow
structure Made (h:Heap) (lo:Nat) (ws:List (Addr×Zt)):Prop where
 rise:(ws.map (·.1)).Pairwise fun a b:Nat=>a<b
 low:∀x∈ws,lo<=(show Nat from x.1)
 at_:∀x∈ws,IsTup h x.1 #[.ref x.2.1,x.2.2.1]
theorem Made.keep{lo:Nat}(m:Made h lo ws)(k:∀(a:Nat) o,lo<=a->h.get? a=some o->h'.get? a=some o):Made h' lo ws :=
 ⟨m.rise,m.low,fun x hx=>SB.IsTup.keep (m.at_ x hx) fun o e=>k _ o (m.low x hx) e⟩
theorem z7s{H:Hp}{α:Type}{f:α->Addr}{g:α->HRow}:∀{zs:List α},(∀z∈zs,PR H (f z) (g z))->PRs H (zs.map f) (zs.map g)
 |[],_=>.nil
 |z::zs,h=>.cons (h z As) (z7s fun y hy=>h y (Ao _ hy))
theorem z5d(hr:Room k X.A):CallR X (.builtin "sorted") rSortV:=by
 intro pins s σ H xs us Q I rv h;obtain⟨v,d,rows,rfl,hv,hd,few,hlow,q⟩:=h;obtain⟨u,rfl,ru⟩:=rv.one;cases ru;obtain⟨hsys,hz,ob,es,ep,ho,hex,hob,nd,zs,z1,z2,z3⟩:=I.rows hd;obtain⟨vo,vho,vc,vd⟩:s.heap.IsItemsView v d:=(I.hok v _ hv).1;have hlen:es.size=rows.length:=by
  have:=congrArg List.length z2;rw[Ag,Ag,Gn] at this;rw[this,<- z1,Ag]
 have hkeys:∀{i:Nat} (hi:i<es.size),∃z∈zs,zs[i]?=some z/\es[i].key=.ref z.1/\es[i].val=z.2.1:=fun{i} hi=>by
  have e:=congrArg (fun l=>l[i]?) z2;simp only[Bi,Mh,Ep hi,Jy] at e;cases hzi:zs[i]? with
  |none=>simp_all
  |some z =>
   rw[hzi] at e;injection e with e;injection e with e1 e2;exact⟨z,Ay hzi,rfl,e1,e2⟩
 have hzl:zs.length=es.size:=by grind
 have hdL:=Al ho;have hu:=hr.un;refine SB.sorted_ok fun{Q'} kk=>?_;refine PySem.Rv.collect_runs (n:=es.size) (oI:=PySem.Rv.itemObj d 0 es.size ep .none (.bool false) .none .none) (Fc:=fun acc h=>∃ws,acc=ws.map (fun x=>Value.ref x.1)/\ws.map (·.2)=zs.take acc.length/\Made h (s.heap.objs.size+2) ws)
  (It:=fun i h=>PySem.Rv.ItemIt h (s.heap.objs.size+1) d i es.size ep/\h.get? d=some ob) (fun h kh=>⟨vo,kh _ _ vho,vc⟩) (Al vho) (by decide) (by decide) (fun A E s' Q hT hq=>W.kdx_hint hT hq)
  (fun A E h Q kh hq=>PySem.Rv.items_iter ⟨vo,kh _ _ vho,vc,vd⟩ (kh _ _ ho) hob hq) (fun h=>Ak _ rfl) ⟨?_,fun i h h' ⟨f1,f2⟩ kp=>⟨f1.keep fun o e=>kp _ _ (Dk (Hw _)) e,kp _ _ (Bd hdL) f2⟩,?_,?_⟩ (by lia)
  (fun h kh ki=>⟨⟨[],rfl,rfl,.nil,(fun _ z=>nomatch z),(fun _ z=>nomatch z)⟩,⟨_,_,_,_,ki,.inl rfl⟩,kh _ _ ho⟩) (fun acc h el f hz2 kh=>?_)
 ·rintro acc h h' ⟨ws,e1,e2,m⟩ kp;refine⟨ws,e1,e2,m.keep fun a o ha e=>kp a o (fun z=>?_) (fun z=>?_) e⟩
  ·rw[z] at ha;exact absurd ha (by lia)
  ·grind
 ·rintro acc s' Q E hl ⟨ws,e1,e2,m⟩ ⟨i1,i2⟩ hq;refine PySem.Rv.items_item i1 i2 hob hl fun h' j1 j2 j3 j4=>?_;obtain⟨z,hzm,hzi,hzk,hzv⟩:=hkeys hl;have lo:=i1.lt;have ni:∀{a:Nat},s.heap.objs.size+2<=a->a≠s.heap.objs.size+1:=fun h=>by lia
  refine hq _ h' ⟨ws++[(s'.heap.objs.size,z)],by rw[e1,Av];rfl,?_,?_⟩ ⟨j1,j4 d ob (Bd (Iu hdL)) i2⟩ j4
  ·rw[Av,e2,Ai,Bc,Hu,hzi];rfl
  ·have m':=m.keep (h':=h') fun a o ha e=>j4 a o (ni ha) e;refine⟨?_,fun x hx=>?_,fun x hx=>?_⟩
   ·rw[Av];refine List.pairwise_append.mpr ⟨m.rise,Qf _ _,fun a ha b hb=>?_⟩;obtain⟨x,hx,rfl⟩:=Ba.mp ha;have hb':b=s'.heap.objs.size:=by simpa using hb
    rw[hb'];obtain⟨o,eo,_⟩:=m.at_ x hx;exact Al eo
   ·rcases Au.mp hx with hx|hx
    ·exact m.low x hx
    ·rw[Ar.mp hx];exact lo
   ·rcases Au.mp hx with hx|hx
    ·exact m'.at_ x hx
    ·rw[Ar.mp hx];refine⟨_,j2,rfl,0,?_⟩;rw[hzk,hzv]
 ·rintro s' Q E ⟨i1,i2⟩ hq;exact PySem.Rv.items_end hr.hd i1 i2 hob (Aj _) fun h' eb=>hq h' fun b o hb e=>eb b o hb e
 ·obtain⟨ws,e1,e2,m⟩:=f;rw[el,<- hzl,Ea] at e2;have hwz:∀{x:Addr×Zt},x∈ws->x.2∈zs:=fun{x} hx=>by rw[<- e2];exact Ba.mpr ⟨x,hx,rfl⟩
  have hrow:∀{x:Addr×Zt},x∈ws->x.2.2.2∈rows:=fun{x} hx=>by rw[<- z1];exact Ba.mpr ⟨_,hwz hx,rfl⟩
  have hpa:∀{x:Addr×Zt},x∈ws->PairAt h (.ref x.1) x.2.2.2.1 x.2.2.1:=fun{x} hx=>⟨x.1,.ref x.2.1,rfl,m.at_ x hx,(I.path (z3 _ (hwz hx)).1).keep kh⟩
  have hnd:(ws.map fun x=>x.2.2.2.1).Nodup:=by grind
  have hacc:∀{w:Value},w∈acc->∃x∈ws,w=.ref x.1:=fun{w} hw=>by
   rw[e1] at hw;obtain⟨x,hx,rfl⟩:=Ba.mp hw;exact⟨x,hx,rfl⟩
  refine kk acc h s.toks _ _ _ (SB.ready_pairs (ps:=rows.map (·.1)) (by lia) (fun w hw=>?_) (fun w hw y hy p mm mm' hp1 hp2=>?_) (by lia)) fun h' out so kh' ⟨e,he⟩=>?_
  ·grind
  ·obtain⟨x,hx,rfl⟩:=hacc hw;obtain⟨x2,hx2,rfl⟩:=hacc hy;have q1:=SB.PairAt.inj hp1 (hpa hx);have q2:=SB.PairAt.inj hp2 (hpa hx2);rw[q3u hnd hx hx2 (q1.symm.trans q2)]
  ·have pm:=so.perm;rw[e1] at pm;obtain⟨ws',p1,p2⟩:=SB.perm_map_inv pm rfl;have hrise:=so.rise;rw[p2] at hrise;have hps:=SB.rise_paths (fun w a b ⟨_,x⟩ ⟨_,y⟩=>SB.PairAt.inj x y) (fun x hx=>by
    have hxm:=p1.mem_iff.mp hx;exact⟨⟨_,hpa hxm⟩,Ba.mpr ⟨_,hrow hxm,rfl⟩⟩) hrise
   have keep:=fun b o z=>kh' b o (kh b o z);have I1:=I.kept (t':=s.toks) keep;have hlo:=fun{x} hx=>Bb (Nat.le_add_right _ 2) (m.low x (p1.mem_iff.mp hx));have ndA:(ws'.map (·.1)).Nodup:=by
    have:(ws.map (·.1)).Nodup:=m.rise.imp fun h e=>by subst e;exact absurd h (Fq _)
    exact(p1.map (·.1)).nodup_iff.mpr this
   obtain⟨H1,J,sm,ht,hot⟩:=I1.tracks (zs:=ws'.map fun x=>(x.1,[V.ref x.2.1,x.2.2.2.2])) I.sz (by rw[Ck];exact ndA) (fun z hz=>by
    obtain⟨x,hx,rfl⟩:=Ba.mp hz;refine⟨hlo hx,I.fpOk (hlo hx) (I.hok.fresh (hlo hx)),by show 2<=sizeLine;decide,[.ref x.2.1,x.2.2.1],.cons rfl (.cons (z3 _ (hwz (p1.mem_iff.mp hx))).2 .nil),?_⟩;exact SB.IsTup.keep (m.at_ x (p1.mem_iff.mp hx)) fun o e=>kh' _ o e)
   have hL1:H1 h.objs.size=none:=by
    rw[hot _ fun z hz e=>?_]
    ·exact I.hok.fresh hz2
    ·obtain⟨x,hx,rfl⟩:=Ba.mp hz;obtain⟨o,eo,_⟩:=m.at_ x (p1.mem_iff.mp hx);exact absurd (Al eo) (by rw[show x.1=h.objs.size from e];exact Fq _)
   have el2:(ws'.map (·.1)).length=es.size:=by rw[Ag,p1.length_eq,<- hzl,<- e2,Ag]
   have eo:out.toList=(ws'.map (·.1)).map Value.ref:=by rw[p2,Ck];rfl
   have J2:=J.track (o:=.lst ((ws'.map (·.1)).map V.ref)) (Bb I.sz hz2) (I.fpOk hz2 hL1) ⟨by rw[Ag,el2];lia,_,e,q6g _,by rw[<- eo];exact he⟩;have sm2:Same H (upd H1 h.objs.size (.lst ((ws'.map (·.1)).map V.ref))):=sm.trans ((Same.refl H1).new hL1);refine⟨.ref h.objs.size,_,J2,rfl,q _ (ws'.map (·.1)) (ws'.map fun x=>x.2.2.2) _ (I.hok.fresh hz2) ?_ (by rw[Ck];exact hps) sm2 q0c (z7s fun x hx=>?_)⟩
   ·have e3:ws.map (fun x=>x.2.2.2)=rows:=by rw[<- z1,<- e2,Ck];rfl
    rw[<- e3];exact p1.map _
   ·refine⟨x.2.1,?_,sm2 _ _ (z3 _ (hwz (p1.mem_iff.mp hx))).1⟩;exact(Same.refl H1).new hL1 _ _ (ht _ (Ba.mpr ⟨x,hx,rfl⟩))
open PySem PySem.Spec PyProof.Rows
theorem d_set{σ:St}(hu:A.units+1<cLine)(I:Inv X pins σ H s)(e:H a=some (.dT kvs))(eb:H b=some (.tup (k.map kV)))(l:kvs.length<sizeLine)(rv:RelV v r)(h:∀s',Inv X pins σ (upd H a (.dT (putK kvs k v))) s'->(∀b o,b≠a->s.heap.get? b=some o->s'.heap.get? b=some o)->Q () s'):wpAny (model X.prog X.w) A (dictSet a (.ref b) r) Q E s:=by
 obtain⟨z,hd,xs,rel,dd⟩:=dt_of I.hok e;have hz:xs.length<=sizeLine:=by rw[<- Ed rel];exact z
 have hl:(putK kvs k v).length<=sizeLine:=by have:=q1n kvs k v;lia
 refine wpAny_dictSet_heap (show(Kc (mixKind X.prog X.w)).room A from Nat.lt_of_succ_lt hu) (q5d I.hok eb) dd fun h' dd' hs=>h _ ?_ fun b o hb e=>(hs.2 b hb).trans e;obtain⟨q,es,ep,hq,h2,h3,h4,_,h5⟩:=dd';refine q8g I (by rw[e];exact True.intro) hs ⟨q,hq⟩ ⟨hl,hd,_,(rel.put k eb rv).keeps fun c ys ec=>?_,q,es,ep,hq,h2,h3,h4,h5⟩;rw[q0f (z5r ec e (fun z=>nomatch z))];exact ec
def CompWD(J:It)(g:TG)(tt:TT)(tk tv:TE)(σ0:St)(D:Addr)(Fin:List (List Key×V)->Hp->Prop)(H1:Hp):Prop :=
 ∃W:Nat->Nat->List (List Key×V)->Hp->Prop,(∃m,W 0 m [] (upd H1 D (.dT [])))/\∀i m ys H,W i m ys H->H D=some (.dT ys) /\
  ((J.stop i H/\Fin ys H)\/(J.go i H/\∃N:List (List Key×V)->Hp->Prop,(∀zs H',N zs H'->∃m',m'<m/\W (i+1) m' zs H')/\∀x H',J.yld i H x H'->g x σ0 H' fun σ2 H2=>Keeps0 σ0 σ2/\tt σ2 H2 fun b H3 =>
   if b=true then tk σ2 H3 fun y H4=>tv σ2 H4 fun v H5=>∃k c,y=.ref c/\H5 c=some (.tup (k.map kV))/\H5 D=some (.dT ys)/\ys.length<sizeLine/\N (putK ys k v) (upd H5 D (.dT (putK ys k v)))
   else N ys H3))
theorem z7t{σ:St}{Fin:Addr->List (List Key×V)->Hp->Prop}{RR:Value->Addr->Result->Af->Prop}(hc:X.calm=true)(hkind:scope.kind=.function)(hnc:∀y∈scope.names,y.2≠.cell)(hc1:∀x c,cl.lookup x=some c->X.env.cells.lookup x=some c)(hc2:∀x,(x,Bg.free)∈scope.names->∃c,cl.lookup x=some c)(co:CapOk X scope caps)(hg:∀C s H,PG (cxComp X (tg++caps.map (·.1)) scope cl C fp s H) target g)(ht:∀C s H,PIfs (cxComp X (tg++caps.map (·.1)) scope cl C fp s H) ifs tt)(he:∀C s H,PE (cxComp X (tg++caps.map (·.1)) scope cl C fp s H) kx tk)(hv:∀C s H,PE (cxComp X (tg++caps.map (·.1)) scope cl C fp s H) vx tv)(hu:X.A.units+1<cLine)(I2:Inv X pins σ H1 s₂)(T:Turn X.prog X.w X.K target J fp it tn)(st:tn 0 s₂.heap)(hf:∀b∈fp,FpOk X pins H1 b)(hw:∀D,H1 D=none->CompWD J g tt tk tv (tg0 tg σ caps) D (Fin D) H1)(hRR:∀D C ys H' s',H1 D=none->Inv X pins σ H' s'->(∃m,s'.heap.Ns C m)->FpOk X pins H' C->Fin D ys H'->RR (.ref D) C (.ok .next) s'):
  wpAny (model X.prog X.w) X.A newDict (fun acc s₃=>wpAny (model X.prog X.w) X.A (newFunctionEnv scope X.env.globals cl [] X.env.qual none .none (some X.env)) (fun cenv s₄ =>
   Fw (model X.prog X.w) X.A (.compStart (.DictComp kx vx [⟨target,iter,ifs,0⟩] scope pos) 0 (.ref it) acc { cenv with scope:=relabel scope X.env }) (RR acc cenv.locals) s₄) E s₃) E s₂:=by
 have I3:Inv X pins σ (upd H1 s₂.heap.objs.size (.dT [])) { s₂ with heap:=s₂.heap.push { cls:=.type "dict",dict:=none,data:=.dict #[] },toks:=s₂.toks }:=I2.laid (fun _ _ q=>Ae _ q) (Aj _) (q8h s₂.heap I2.big);have hD0:=I2.fresh;refine By (Se hnc (by intro y hy;simp at hy) (fun h₁ hns₁ hsb₁=>?_) hkind);dsimp only at hns₁ hsb₁ ⊢;generalize hDd:s₂.heap.objs.size=D at I3 hD0 hns₁ hsb₁ ⊢;generalize hs3:({ s₂ with heap:=s₂.heap.push { cls:=.type "dict",dict:=none,data:=.dict #[] } }:Af)=s₃ at I3 hns₁ hsb₁ ⊢;have e3:s₂.heap.push { cls:=.type "dict",dict:=none,data:=.dict #[] }=s₃.heap:=by grind
 have o3:({ s₂ with heap:=h₁,toks:=s₂.toks+([]:List (Str×Value)).length }:Af)={ s₃ with heap:=h₁,toks:=s₂.toks }:=by grind
 have size3:s₃.heap.objs.size=D+1:=by rw[<- e3,Fx,hDd]
 rw[e3] at hns₁ hsb₁ ⊢;have old3:∀b o,s₂.heap.get? b=some o->s₃.heap.get? b=some o:=fun b o e=>by rw[<- e3];exact Ae _ e
 generalize hCd:s₃.heap.objs.size=C at hns₁ hsb₁ ⊢;have hk:=fun b o e=>hsb₁.extBut b o (by rw[<- hCd];exact Bd (Al e)) (Ae _ e);have fpo:∀b∈fp,∃o,s₂.heap.get? b=some o:=fun b hb=>by obtain⟨o,e,_⟩:=T.obj 0 _ st b hb;exact⟨o,e⟩
 have fpne:∀b∈fp,b≠D:=fun b hb=>by obtain⟨o,e⟩:=fpo b hb;rw[<- hDd];exact Bd (Al e)
 have hf3:∀b∈fp,FpOk X pins (upd H1 D (.dT [])) b:=fun b hb=>⟨by rw[q0f (fpne b hb)];exact(hf b hb).1,(hf b hb).2⟩
 have IY:=Inv.ofcomp (tk:=s₂.toks) tg I3 hkind hnc hc1 hc2 hf3 (fun b hb=>let ⟨o,e⟩:=fpo b hb;⟨o,old3 b o e⟩) (Kh hCd) hns₁ hk co;have FC:FpOk X pins H1 C:=by
  have z:=I3.fpOk (H':=H1) (Kh hCd) (I2.hok.fresh (by rw[hDd,<- hCd,size3];exact Lo _));exact z
 generalize hY:cxComp X (tg++caps.map (·.1)) scope cl C fp s₃ (upd H1 D (.dT []))=Y at IY;have hgY:PG Y target g:=by grind
 have htY:PIfs Y ifs tt:=by grind
 have heY:PE Y kx tk:=by grind
 have hvY:PE Y vx tv:=by grind
 have hYp:Y.prog=X.prog:=by rw[<- hY];rfl
 have hYw:Y.w=X.w:=by rw[<- hY];rfl
 have hYK:Y.K=X.K:=by rw[<- hY];rfl
 have hYA:Y.A=X.A:=by rw[<- hY];rfl
 have hYe:Y.env=Gb scope cl C X.env:=by rw[<- hY];rfl
 have hYx:Y.ex=fp:=by rw[<- hY];rfl
 have hYn:Y.pn=[]:=by rw[<- hY];rfl
 have hYc:Y.calm=true:=by rw[<- hY];exact hc
 have hYxe:Y.xe=fun _ _=>False:=by rw[<- hY];rfl
 have fpY:∀{H':Hp},(∀b∈fp,H' b=none)->∀b∈fp,FpOk Y [] H' b:=fun{H'} hn b hb=>by
  refine⟨hn b hb,?_,?_,.inl (by rw[hYx];exact hb),fun x c e=>?_,fun p hp=>?_⟩
  ·have:=(IY.ok.exf b (by rw[hYx];exact hb)).1;exact this
  ·exact IY.ok.exfs b (by rw[hYx];exact hb)
  ·exact(IY.ok.exf b (by rw[hYx];exact hb)).2 x c e
  ·grind
 obtain⟨W,⟨m0,w0⟩,turn⟩:=hw D hD0;have stY:=T.keep 0 _ _ st fun b hb o e=>hk b o (old3 b o e)
 have back:∀{H':Hp} {s':Af} {σ':St},Inv Y [] σ' H' s'->Inv X pins σ H' s':=fun{H' s' σ'} IE=>by
  have hun:=IE.base;have hos:=IE.os;rw[<- hY] at hun hos;exact I3.call' hos hun (by have z:=IE.hok;rw[hYp,hYw] at z;exact z) IE.bare fun b hb=>⟨(hf b hb).2.2.2.1,(hf b hb).2.1,(hf b hb).2.2.2.2.1,(hf b hb).2.2.2.2.2⟩
 have gY:∀pins s σ H v u Q (E':Value->Af->Prop),Inv Y pins σ H s->RelV v u->g v σ H Q->wpAny (model X.prog X.w) X.A (assign target (Gb scope cl C X.env) u) (fun _ s'=>∃σ' H',Inv Y pins σ' H' s'/\Q σ' H') E' s:=fun pins s σ H v u Q E' IE r q=>by
  have z:=hgY pins s σ H v u Q IE r q;rw[hYp,hYw,hYA,hYe,hYxe] at z;exact Bx z (fun _ _ x=>x) fun _ _ f=>f.elim
 have tY:∀pins s σ H Q (E':Value->Af->Prop),Inv Y pins σ H s->tt σ H Q->wpAny (model X.prog X.w) X.A (forIn ifs true fun c r=>if r=true then do let ok<-isTrue c (Gb scope cl C X.env) (eval c (Gb scope cl C X.env));pure (ForInStep.yield ok) else pure (ForInStep.yield r)) (TP Y pins σ Q) E' s:=fun pins s σ H Q E' IE q=>by
  have z:=htY pins s σ H Q IE q;rw[hYp,hYw,hYA,hYe,hYxe] at z;exact Bx z (fun _ _ x=>x) fun _ _ f=>f.elim
 have eY:∀pins s σ H Q (E':Value->Af->Prop),Inv Y pins σ H s->tk σ H Q->wpAny (model X.prog X.w) X.A (eval kx (Gb scope cl C X.env)) (EP Y pins σ Q) E' s:=fun pins s σ H Q E' IE q=>by
  have z:=heY pins s σ H Q IE q;rw[hYp,hYw,hYA,hYe,hYxe] at z;exact Bx z (fun _ _ x=>x) fun _ _ f=>f.elim
 have vY:∀pins s σ H Q (E':Value->Af->Prop),Inv Y pins σ H s->tv σ H Q->wpAny (model X.prog X.w) X.A (eval vx (Gb scope cl C X.env)) (EP Y pins σ Q) E' s:=fun pins s σ H Q E' IE q=>by
  have z:=hvY pins s σ H Q IE q;rw[hYp,hYw,hYA,hYe,hYxe] at z;exact Bx z (fun _ _ x=>x) fun _ _ f=>f.elim
 have tiY:∀i pins s σ H (E':Value->Af->Prop),Inv Y pins σ H s->(∀b∈fp,FpOk Y pins H b)->tn i s.heap->J.go i H ->
   wpAny (model X.prog X.w) X.A (Iw (.ref it)) (fun r s1=>∃u,r=some u /\
    wpAny (model X.prog X.w) X.A (Mo target (.ref it) u) (fun _ s2=>∃x H',Inv Y pins σ H' s2/\RelV x u/\J.yld i H x H'/\tn (i+1) s2.heap/\∀b∈fp,H' b=none) E' s1) E' s:=fun i pins s σ H E' IE hfy st go=>by
  have z:=T.item Y hYp hYw hYK hYc i pins s σ H E' IE hfy st go;rw[hYA] at z;exact z
 have tdY:∀i pins s σ H (E':Value->Af->Prop),Inv Y pins σ H s->(∀b∈fp,FpOk Y pins H b)->tn i s.heap->J.stop i H ->
   wpAny (model X.prog X.w) X.A (Iw (.ref it)) (fun r s1=>r=none/\Inv Y pins σ H s1) E' s:=fun i pins s σ H E' IE hfy st go=>by
  have z:=T.done Y hYp hYw hYK hYc i pins s σ H E' IE hfy st go;rw[hYA] at z;exact z
 have loop:Fw (model X.prog X.w) X.A (.compLoop (.DictComp kx vx [⟨target,iter,ifs,0⟩] scope pos) 0 (.ref it) (.ref D) (Gb scope cl C X.env)) (RR (.ref D) C) { s₃ with heap:=h₁,toks:=s₂.toks }:=by
  refine codeAny_loop rfl (fun n s'=>∃i ys H',Inv Y [] (tg0 tg σ caps) H' s'/\tn i s'.heap/\(∀b∈fp,H' b=none)/\W i n ys H') ?_ m0 ⟨0,[],_,IY,stY,fun b hb=>(hf3 b hb).1,w0⟩;rintro n s4 ⟨i,ys,H4,I4,st4,fr4,w4⟩;refine wpAny_noted ?_;obtain⟨hHD,alt⟩:=turn i n ys H4 w4;rcases alt with⟨stop,fin⟩|⟨go,N,hN,step⟩
  ·refine Ab (Dv (Ab (thn (tdY i [] s4 _ H4 _ I4 (fpY fr4) st4 stop) fun r s5 ⟨hr,I5⟩=>?_)));subst hr;refine Ad (hRR D C ys H4 s5 hD0 (back I5) ?_ ⟨?_,FC.2⟩ fin)
   ·obtain⟨m,hm,_⟩:=I5.loc;rw[hYe] at hm;exact⟨m,hm⟩
   ·have z:=I5.free;rw[hYe] at z;exact z
  ·refine Ab (Dv (Ab (thn (tiY i [] s4 _ H4 _ I4 (fpY fr4) st4 go) fun r s5 ⟨u,hr,h5⟩=>?_)));subst hr;refine Ab (thn h5 fun _ s6 ⟨x,H6,I6,r6,y6,st6,fr6⟩=>?_);have I6':=I6.pinned (fpY fr6) (T.obj _ _ st6);refine Ab (thn (gY _ s6 _ H6 x u _ _ I6' r6 (step x H6 y6)) fun _ s7 ⟨σ7,H7,I7,kp,q7⟩=>?_);refine Ab (thn (tY _ s7 σ7 H7 _ _ I7 q7) fun b s8 ⟨H8,I8,q8⟩=>?_);have again:∀{H9:Hp} {s9:Af} {zs:List (List Key×V)} {m':Nat},Inv Y ([]++pinsAt fp s6.heap) σ7 H9 s9->m'<n->W (i+1) m' zs H9->∃m,m<n/\∃i ys H',Inv Y [] (tg0 tg σ caps) H' s9/\tn i s9.heap/\(∀b∈fp,H' b=none)/\W i m ys H':=fun{H9 s9 zs m'} I9 hm w9=>by
    refine⟨m',hm,i+1,zs,H9,I9.unpinned.weak kp.1 kp.2,T.keep _ _ _ st6 fun b hb o e=>(I9.pin (b,o) (Bw _ (Bw _ (q2a hb e)))).1,fun b hb=>?_,w9⟩;obtain⟨o,e,d⟩:=T.obj _ _ st6 b hb;exact(I9.pin (b,o) (Bw _ (Bw _ (q2a hb e)))).2.1
   cases b with
   |true =>
    refine Ab (Ab (thn (eY _ s8 σ7 H8 _ _ I8 q8) fun kv s9 ⟨yy,H9,I9,r9,q9⟩=>?_));refine Ab (Cm (thn (vY _ s9 σ7 H9 _ _ I9 q9) fun vv s10 ⟨v,H10,I10,r10,kk,bb,ey,hbb,hH10,hz10,n10⟩=>?_));subst ey;cases r9;obtain⟨m',hm',w10⟩:=hN _ _ n10;refine Ab (Dv (Cm ?_));have z:=d_set (E:=notedBy (model X.prog X.w) X.A (Gb scope cl C X.env) fun e s'=>RR (.ref D) C (.error e) s') (Q:=fun _ s'=>Inv Y ([]++pinsAt fp s6.heap) σ7 (upd H10 D (.dT (putK ys kk v))) s') hu I10 hH10 hbb hz10 r10 fun s' I' _=>I';rw[hYp,hYw] at z;exact thn z fun _ s11 I11=>Ad ⟨rfl,again I11 hm' w10⟩
   |false =>
    obtain⟨m',hm',w8⟩:=hN _ _ q8;exact Ad ⟨rfl,again I8 hm' w8⟩
 rw[o3];exact codeAny_compStart_dict loop (T.self _ 0 _ _ _ stY loop)
section
variable{X:Cx}{iter target kx vx:Expr}{ifs:List Expr}{scope:Scope}{pos:Pos}{wi:TI}{g:TG}{tt:TT}{tk tv:TE}
def tSetDC(wi:TI)(g:TG)(tt:TT)(tk tv:TE)(tg:List Str)(caps:Caps)(i:Nat):TS:=fun D' σ H=>wi σ H fun J H1=>∀D,H1 D=none->CompWD J g tt tk tv (tg0 tg σ caps) D (fun _ H'=>D'.nx (σ.set i (some (.ref D))) H') H1
theorem x0s{i:Nat}{y:Str}{py spos:Pos}(tg:List Str)(caps:Caps)(hN:X.N.Nodup)(hiN:X.N[i]?=some y)(hx:Loc X.env.scope y)(hc:X.calm=true)(hi:PI X target iter wi)(hg:∀cl C fp s H,PG (cxComp X (tg++caps.map (·.1)) scope cl C fp s H) target g)(ht:∀cl C fp s H,PIfs (cxComp X (tg++caps.map (·.1)) scope cl C fp s H) ifs tt)(he:∀cl C fp s H,PE (cxComp X (tg++caps.map (·.1)) scope cl C fp s H) kx tk)(hv:∀cl C fp s H,PE (cxComp X (tg++caps.map (·.1)) scope cl C fp s H) vx tv)(hu:X.A.units+1<cLine)(hk:compChk X.N X.env.scope scope caps=true:=by rfl)(hs:∀x,Lf iter X.env x=pure x:=by intro _;rfl)(hsw:Ii (.DictComp kx vx [⟨target,iter,ifs,0⟩] scope pos) (some (.Name y py)) spos.line X.env=pure true:=by rfl)(hf:X.fn y=true\/X.env.scope.names.lookup y=some .local:=by first|exact .inl rfl|exact .inr rfl|assumption):
  PS X (.Assign [.Name y py] (.DictComp kx vx [⟨target,iter,ifs,0⟩] scope pos) spos) (tSetDC wi g tt tk tv tg caps i):=by
 intro pins s σ H D' I h;obtain⟨hkind,hnc,hnames,hfree,co⟩:=q4s hk;obtain⟨cl,hclos,hc1,hc2⟩:=z1x I hfree;rw[Ri _ _ _ _ hsw];refine Ab (Dv (Ab ?_));refine Ab (Bx (Kn (use:=some (assign (.Name y py) X.env)) rfl hs hclos hkind hnames
  (thn (hi pins s σ H _ I h) fun v s1 h1=>thn h1 fun itv s2 h2=>?_)) (fun _ s' hq=>Ad (Ad hq)) fun _ _ e=>e)
 obtain⟨it,fp,tn,J,H2,e,I2,T,st2,f2,hw⟩:=h2;subst e;refine z7t (RR:=fun acc C=>compPost (model X.prog X.w) X.A X.xe (some (assign (.Name y py) X.env)) (fun _ s'=>SP X pins D' .next s') acc C) (Fin:=fun D _ H'=>D'.nx (σ.set i (some (.ref D))) H') hc hkind hnc hc1 hc2 co (fun C s H=>hg cl C fp s H) (fun C s H=>ht cl C fp s H) (fun C s H=>he cl C fp s H) (fun C s H=>hv cl C fp s H) hu I2 T st2 f2 hw ?_;intro D C ys H' s' hD I' hm F fin;obtain⟨m,hm⟩:=hm;refine Ou (q5q (v:=.ref D) I' hN hiN hx rfl (fun s'' I'' hsb=>?_) hf);obtain⟨a,sb,ha⟩:=hsb;have hCa:C≠a:=by
  rcases ha with ha|ha
  ·rw[ha];exact F.2.1
  ·exact fun z=>F.2.2.2.2.1 y a ha z.symm
 refine⟨m,hm.sameBut sb hCa,fun h' hs'=>?_⟩;exact⟨_,H',I''.turned (t':=s''.toks) (fun b o hb e=>(hs'.2 b hb).trans e) F.1 F.2.1 F.2.2.2.1 F.2.2.2.2.1 F.2.2.2.2.2,fin⟩
end
theorem x0t{Fin:List (List Key×V)->Hp->Prop}(Pv:Nat->List (List Key×V)->Hp->Prop)(h0:Pv 0 [] (upd H1 D (.dT [])))(hl:∀i ys H,Pv i ys H->H D=some (.dT ys))(hgo:∀i ys H,i<n->Pv i ys H->J.go i H)(hstop:∀ys H,Pv n ys H->J.stop n H)(hs:∀i ys H x H',i<n->Pv i ys H->J.yld i H x H'->g x σ0 H' fun σ2 H2=>Keeps0 σ0 σ2/\tt σ2 H2 fun b H3 =>
   if b=true then tk σ2 H3 fun y H4=>tv σ2 H4 fun v H5=>∃k c,y=.ref c/\H5 c=some (.tup (k.map kV))/\H5 D=some (.dT ys)/\ys.length<sizeLine/\Pv (i+1) (putK ys k v) (upd H5 D (.dT (putK ys k v))) else Pv (i+1) ys H3)(hd:∀ys H,Pv n ys H->Fin ys H):CompWD J g tt tk tv σ0 D Fin H1:=by
 refine⟨fun i m ys H=>m=n-i/\i<=n/\Pv i ys H,⟨n,by simp,Be _,h0⟩,?_⟩;rintro i m ys H ⟨rfl,hi,p⟩;refine⟨hl i ys H p,?_⟩;by_cases hlt:i<n
 ·exact .inr ⟨hgo i ys H hlt p,Pv (i+1),fun zs H' q=>⟨n-(i+1),by lia,rfl,hlt,q⟩,fun x H' y=>hs i ys H x H' hlt p y⟩
 ·have e:i=n:=by lia
  subst e;exact .inl ⟨hstop ys H p,hd ys H p⟩
theorem z5e{K:Ah}{Fin:List (List Key×V)->Hp->Prop}(Pv:Nat->List (List Key×V)->Hp->Prop)(h0:Pv 0 [] (upd H1 D (.dT [])))(hl:∀i ys H,Pv i ys H->H D=some (.dT ys)/\SqL K H a xs)(hs:∀i ys H x,xs[i]?=some x->Pv i ys H->g x σ0 H fun σ2 H2=>Keeps0 σ0 σ2/\tt σ2 H2 fun b H3 =>
   if b=true then tk σ2 H3 fun y H4=>tv σ2 H4 fun v H5=>∃k c,y=.ref c/\H5 c=some (.tup (k.map kV))/\H5 D=some (.dT ys)/\ys.length<sizeLine/\Pv (i+1) (putK ys k v) (upd H5 D (.dT (putK ys k v))) else Pv (i+1) ys H3)(hd:∀ys H,Pv xs.length ys H->Fin ys H):CompWD (Itl K a) g tt tk tv σ0 D Fin H1 :=
 x0t Pv h0 (fun i ys H p=>(hl i ys H p).1) (fun i ys H h p=>⟨xs,xs[i],(hl i ys H p).2,by simp[h]⟩) (fun ys H p=>⟨xs,(hl _ ys H p).2,Aj _⟩)
  (fun i ys H x H' h p y=>by obtain⟨e,y⟩:=y;subst e;exact hs i ys _ x (y xs (hl i ys _ p).2) p) hd
end L2
namespace PySem.Rv
open Sem (wp)
section
variable{prog:Program}{w:World}{A:Around}{E:Value->Af->Prop}{s:Af}
theorem q6z:Pf (.type "list") "keys" = pure none:=by rw[Jz,Hb];kernel_rfl
theorem no_keys(hx:s.heap.get? a=some { cls:=.type "list",dict:=none,data:=.seq xs k,slots:=#[] })(hA:A.handled=none)(h:∀h' tk,(∀b o,s.heap.get? b=some o->h'.get? b=some o)->Q none { s with heap:=h',toks:=tk }):wpAny (model prog w) A (getAttr? (.ref a) "keys") Q E s:=by
 obtain⟨hp,g,d,tk,os⟩:=s;have hT:∀tk',(⟨hp,g,d,tk',os⟩:Af).TypeIs (.ref a) "list" := fun _=>⟨_,hx,rfl⟩
 have f1:=sub_AttributeError;have f3:=Ku.lookup;have f4:=Ku.bind (.ref a);have f5:=am_list_getattr_none;repeat (any_goals (first|assumption|exact hT _|((with_reducible show wpAny _ _ (call (Value.builtin "list.__getattribute__") _ _) _ _ _);refine Mt Ku (hT _) am_entry_list_getattribute (F.args_list_getattribute_2 _ _) (meets_getattribute_miss_list a xs k #[] "keys" _ q6z (by decide +kernel) (by decide +kernel)) ⟨hx,hA,fun h' tk' e hx'=>?_⟩)|wp_step))
 obtain⟨t',u',he⟩:=hx'.there;show wpAny _ _ (getattributeRaised _ _ _ _ _ _ _) _ _ _;repeat (any_goals (first|assumption|wp_step))
 exact h _ _ hx'.keeps
end
theorem plain_upd:plainId "dict.update.loop" = true:=by decide +kernel
theorem entry_upd:Sg table "dict.update.loop" = some Cv.«dict.update.loop» := entryFor_of_fast (by kernel_rfl)
end PySem.Rv
namespace L2
open PySem PySem.Spec PyProof.Rows SB TX
def putR(acc:List (List Key×V))(r:HRow):List (List Key×V):=putK acc (kP r.1) r.2
theorem z3r:∀(rows:List HRow) (acc:List (List Key×V)),(rows.foldl putR acc).length<=acc.length+rows.length
 |[],acc=>Aj _
 |r::rows,acc=>by
  have h1:=z3r rows (putR acc r);have h2:=q1n acc (kP r.1) r.2;rw[Jx,Bf];unfold putR at h1 ⊢;lia
section
variable{X:Cx}{pins:List (Addr×Obj)}{σ:St}
theorem z7u(I:Inv X pins σ H s)(h:H L=some (.lst xs)):∃its,Vals xs its/\s.heap.IsList L its.toArray:=by
 obtain⟨z,its,n,r,e⟩:=I.hok L _ h;exact⟨its,r,_,e,rfl,n,rfl⟩
theorem z7v(hh:A.handled=none)(hu:A.units+3<cLine)(few:rows.length<sizeLine):∀(k i:Nat) (H:Hp) (s:Af),rows.length-i=k->i<=rows.length->Inv X pins σ H s->H L=some (.lst (as.map V.ref))->PRs H as rows ->
  H D=some (.dT ((rows.take i).foldl putR []))->s.heap.IsListIter it L i->FpOk X pins H it->(∀H' s',Inv X pins σ H' s'->H' D=some (.dT (rows.foldl putR []))->(∀b,b≠D->H' b=H b)->R (.ok (.ret .none)) s') ->
  Fw (model X.prog X.w) A (.builtin "dict.update.loop" ⟨[.ref D,.ref it,Dl i,.none],[]⟩) R s:=by
 intro k;induction k with
 |zero =>
  intro i H s hk hi I hL hp hD hit hf hR;have ei:i=rows.length:=by lia
  subst ei;rw[Ea] at hD;obtain⟨its,rv,hl⟩:=z7u I hL;have hlen:its.length=rows.length:=by rw[<- rv.length,Ag];exact Ed hp
  refine Hc PySem.Rv.entry_upd ?_;rw[Gf PySem.Rv.plain_upd _];refine Ab (Rc hh hit hl (by simp[hlen]) fun h' eb=>?_);exact Ab (Ad (Ad (hR H _ (I.turned (t':=s.toks) (fun b o hb e=>eb b o hb e) hf.1 hf.2.1 hf.2.2.2.1 hf.2.2.2.2.1 hf.2.2.2.2.2) hD fun _ _=>rfl)))
 |succ k ih =>
  intro i H s hk hi I hL hp hD hit hf hR;obtain⟨its,rv,hl⟩:=z7u I hL;have hil:i<rows.length:=by lia
  obtain⟨a,ha⟩:∃a,as[i]?=some a:=⟨as[i]'(by rw[Ed hp];exact hil),by simp[Ed hp,hil]⟩
  obtain⟨r,hr,b,hpa,hpb⟩:=Dj.at' hp ha;obtain⟨u,hu1,hu2⟩:=rv.get (by rw[Bi,ha];rfl);cases hu2;refine Hc PySem.Rv.entry_upd ?_;rw[Gf PySem.Rv.plain_upd _];refine Ab (Qo hit hl (by simpa using hu1) fun h' hit' sb=>?_);have I1:Inv X pins σ H { s with heap:=h' }:=I.turned (t':=s.toks) (fun b o hb e=>(sb.2 b hb).trans e) hf.1 hf.2.1 hf.2.2.2.1 hf.2.2.2.2.1 hf.2.2.2.2.2;obtain⟨z,pits,pr,o,po,pc,pn,pd⟩:=I1.hok a _ hpa;obtain⟨u1,u2,e12,r1,r2⟩:=pr.two;subst e12;cases r1;refine Ab (Cm ?_);refine Ab (wpAny_tryCatch ?_);refine Ab (Gx ⟨o,po,pc⟩ ?_);refine Ab (Ei po pd (Ad ?_));have elen:((rows.take i).foldl putR []).length<sizeLine:=by
   have h1:=z3r (rows.take i) [];rw[Dq] at h1;have h2:([]:List (List Key×V)).length=0:=rfl;lia
  refine Cm (d_set (by show A.units+1+1<cLine;lia) I1 hD (by rw[q6f];exact hpb) elen r2 fun s' I' kp=>?_);refine Ad ⟨Jp PySem.Rv.plain_upd _,?_⟩;have hLD:L≠D:=fun z=>by rw[z,hD] at hL;cases hL
  have hitD:it≠D:=fun z=>by have y:=hf.1;rw[z,hD] at y;cases y
  have hnt:∀{T:Addr} {xs:List V},H T=some (.tup xs)->T≠D:=fun{T xs} e z=>by rw[z,hD] at e;cases e
  have et:(rows.take (i+1)).foldl putR []=putK ((rows.take i).foldl putR []) (kP r.1) r.2:=by
   rw[Hu,hr];rw[List.foldl_append];rfl
  have hit2:=hit'.at fun o e=>kp _ _ hitD e;refine ih (i+1) _ s' (by lia) hil I' (by rw[q0f hLD];exact hL) (Dj.imp' (fun a r ⟨b,h1,h2⟩=>⟨b,by rw[q0f (hnt h1)];exact h1,by rw[q0f (hnt h2)];exact h2⟩) hp) (by rw[q0c,et]) hit2 ⟨by rw[q0f hitD];exact hf.1,hf.2⟩ fun H' s'' J j1 j2=>?_;exact hR H' s'' J j1 fun b hb=>by rw[j2 b hb,q0f hb]
end
def rDictL:List V->Hp->VK->Prop:=fun vs H Q=>∃L as rows,vs=[.ref L]/\H L=some (.lst (as.map V.ref))/\PRs H as rows/\rows.length<1000/\∀D,H D=none->Q (.ref D) (upd H D (.dT (rows.foldl putR [])))
theorem q7s(hr:Room k X.A):CallR X (.type "dict") rDictL:=by
 intro pins s σ H xs us Q I rv h;obtain⟨L,as,rows,rfl,hL,hp,few,q⟩:=h;obtain⟨u,rfl,ru⟩:=rv.one;cases ru;have hu:=hr.un;have hh:=hr.hd;refine callType_codes (Q₁:=fun obj s₁=>obj=.ref s.heap.objs.size/\s₁={ s with heap:=s.heap.push { cls:=.type "dict",data:=.dict #[] } }) F.kt_called_dict (F.kt_typeCall_dict_1 _) F.entry_dict_init (kt_code_dict_new _ ⟨rfl,rfl⟩) fun obj s₁ h₁=>?_;obtain⟨rfl,rfl⟩:=h₁;have hDf:=I.fresh;have I1:Inv X pins σ (upd H s.heap.objs.size (.dT [])) { s with heap:=s.heap.push { cls:=.type "dict",data:=.dict #[] } }:=I.laid (t':=s.toks) (fun _ _ e=>Ae _ e) (Aj _) (q8h s.heap I.big);have hD1:(s.heap.push { cls:=.type "dict",data:=.dict #[] }).get? s.heap.objs.size=some { cls:=.type "dict",data:=.dict #[] }:=Ak _ rfl;have hLD:=q0n hL hDf;have hL1:upd H s.heap.objs.size (.dT []) L=some (.lst (as.map V.ref)):=by rw[q0f hLD];exact hL
 have sm:=(Same.refl H).new (o:=.dT []) hDf;have hp1:PRs (upd H s.heap.objs.size (.dT [])) as rows:=Dj.imp' (fun a r ⟨b,h1,h2⟩=>⟨b,sm _ _ h1,sm _ _ h2⟩) hp;obtain⟨z,its,n,r1,e1⟩:=I1.hok L _ hL1;refine⟨⟨_,hD1,rfl⟩,F.args_dict_init_2 _ _,?_⟩;refine Ab ?_;unfold Cv.Dict.selfAndRest;refine Ab (Me ⟨_,hD1,rfl⟩ ?_);show wpAny _ _ (pure (s.heap.objs.size,[Value.ref L])) _ _ _;refine Ad ?_;refine Ab (Gx ⟨_,e1,rfl⟩ ?_);refine Ab (PySem.Rv.no_keys e1 hh fun h' tk kp=>?_);have I2:=I1.kept (t':=tk) kp;refine Ab (Ff ?_);have e2:=kp _ _ e1;refine Ab (Ow ⟨_,e2,rfl,n,rfl⟩ ?_);have hsz:=Al (kp _ _ hD1);have I3:Inv X pins σ (upd H s.heap.objs.size (.dT [])) { s with heap:=h'.push { cls:=.type "list_iterator",data:=.fields #[.ref L,.int 0 0] },toks:=tk }:=I2.kept (t':=tk) fun _ _ e=>Ae _ e;refine Ad ⟨Jp PySem.Rv.plain_upd _,?_⟩;refine z7v (A:=X.A.in1) hh (by show X.A.units+1+3<cLine;lia) (TX.small' (by lia)) rows.length 0 _ _ (by lia) (Be _) I3 hL1 hp1 q0c ⟨_,Ak _ rfl,rfl,rfl⟩ ?_ fun H' s' J j1 j2=>?_
 ·exact I2.fpOk (Aj _) (by rw[q0f (Dk hsz)];exact I.hok.fresh (Hv hsz))
 ·have eH:H'=upd H s.heap.objs.size (.dT (rows.foldl putR [])):=by
   funext b;by_cases hb:b=s.heap.objs.size
   ·rw[hb,j1,q0c]
   ·rw[j2 b hb,q0f hb,q0f hb]
  rw[eH] at J;exact⟨rfl,.ref s.heap.objs.size,_,J,rfl,q _ hDf⟩
open PySem PySem.Spec PyProof.Rows
structure Mf (K:Ah) (C:Addr) (m qual:Str) (st:Stmt) (ps:List Str):Prop where
 ex:∃f fd,Fun K m qual st f fd/\Meth K C m f/\Binds K fd ps []
structure MCal (P:Program) (w:World) (K:Ah) (mg:Str->Option Value) (base:Heap) (C:Addr) (m:Str) (k:Nat) (ps:List Str) (sp:Sp):Prop where
 ex:∃f fd,FnOk P w K mg base CX0 k f fd ps sp/\Meth K C m f/\Binds K fd ps []
 cl:Cls K C
theorem Mf.cal{K:Ah}{st:Stmt}(D:Mf K C m qual st ps)(cl:Cls K C)(S:FnScope N ps (defScope st))(len:∀vs H Q E,sp vs H Q E->vs.length=ps.length)(hbody:∀(f:Addr) (cdv:Value) (A:Around) (outer:List Env) (s:Af) (H:Hp) (vs:List V) (Q:VK) (E:XK),Room k (A.deeper (Gp qual (defScope st) s.heap.objs.size f cdv))->sp vs H Q E ->
   ∃t,PSs (cxOf CX0 P w K mg base N qual (defScope st) f cdv A outer s H E).nox (defBody st) t/\t { nx:=fun _ H'=>Q .non H',rt:=Q } (start N vs) H):MCal P w K mg base C m (k+1) ps sp:=by
 obtain⟨f,fd,F,hm,hb⟩:=D.ex;exact⟨⟨f,fd,F.ok S len fun cdv A outer s H vs Q E hr h=>hbody f cdv A outer s H vs Q E hr h,hm,hb⟩,cl⟩
section
variable{X:Cx}{C:Addr}{x m:Str}{k j:Nat}{ps:List Str}{sp:Sp}{p pos apos:Pos}{o e:Expr}{es:List Expr}{ta:TE}{t:TA}
theorem pe_m{pl:Sem Bool}(M:MCal X.prog X.w X.K X.mg X.base C m k ps sp)(hr:Room j X.A)(he:PE X o ta)(ha:PA X (e::es) t)(hjk:k<=j:=by decide)(hst:Ax (e::es) X.env=(false,eval e X.env)::Ax es X.env:=by rfl)(hpl:(Em pos (Ax es X.env)).any (·.1)=false:=by rfl)(ht:eval (.Call (.Attribute o m apos) (e::es) [] pos) X.env=(do
   let ov<-eval o X.env
   Nj apos.atName
   let (f,first)<-Jq [ov] (Mc ov m pl)
   Rz pos f first (Em pos (Ax (e::es) X.env)) (Ly pos (Io [] X.env))):=by rfl):PE X (.Call (.Attribute o m apos) (e::es) [] pos) (tMeth C m sp [] E0 ta t):=by
 obtain⟨f,fd,F,hm,hb⟩:=M.ex;exact x3o he M.cl hm F (hr.mono hjk) hb .nil pass0 ha hst hpl ht
theorem pe_m0{pl:Sem Bool}(M:MCal X.prog X.w X.K X.mg X.base C m k ps sp)(hr:Room j X.A)(he:PE X o ta)(hjk:k<=j:=by decide)(ht:eval (.Call (.Attribute o m apos) [] [] pos) X.env=(do
   let ov<-eval o X.env
   Nj apos.atName
   let (f,first)<-Jq [ov] (Mc ov m pl)
   Rz pos f first (Em pos (Ax [] X.env)) (Ly pos (Io [] X.env))):=by rfl):PE X (.Call (.Attribute o m apos) [] [] pos) (tMeth C m sp [] E0 ta tNil):=by
 obtain⟨f,fd,F,hm,hb⟩:=M.ex;exact z9p he M.cl hm F (hr.mono hjk) hb .nil pass0 ht
end
structure Kf (K:Ah) (mg:Str->Option Value) (C:Addr) (x qual:Str) (st:Stmt) (ps:List Str):Prop where
 ex:∃(f:Addr) (fd:Ki) (oc:Value) (od:Option Addr) (dV kV doc pm:Value) (an:Option Addr) (cdv ct:Value) (osl:Array (Option Value)),fd=Hx "__init__" qual (defArgs st) (defBody st) (defScope st) dV kV doc pm an cdv ct /\
  K.lookup f=some ⟨oc,od,.func fd,osl⟩/\Kk K cdv qual=true/\Mk K C f/\Binds K fd ps []/\Binds K fd ps [.bool false]
 at_:mg x=some (.ref C)
 cl:Cls K C
structure KCal (P:Program) (w:World) (K:Ah) (mg:Str->Option Value) (base:Heap) (C:Addr) (x:Str) (k:Nat) (ps:List Str) (sp:Sp):Prop where
 ex:∃f fd,FnOk P w K mg base CX0 k f fd ps sp/\Mk K C f/\Binds K fd ps []/\Binds K fd ps [.bool false]
 at_:mg x=some (.ref C)
 cl:Cls K C
theorem Kf.cal{K:Ah}{st:Stmt}(D:Kf K mg C x qual st ps)(S:FnScope N ps (defScope st))(len:∀vs H Q E,sp vs H Q E->vs.length=ps.length)(hbody:∀(f:Addr) (cdv:Value) (A:Around) (outer:List Env) (s:Af) (H:Hp) (vs:List V) (Q:VK) (E:XK),Room k (A.deeper (Gp qual (defScope st) s.heap.objs.size f cdv))->sp vs H Q E ->
   ∃t,PSs (cxOf CX0 P w K mg base N qual (defScope st) f cdv A outer s H E).nox (defBody st) t/\t { nx:=fun _ H'=>Q .non H',rt:=Q } (start N vs) H):KCal P w K mg base C x (k+1) ps sp:=by
 obtain⟨f,fd,oc,od,dV,kV,doc,pm,an,cdv,ct,osl,rfl,lk,hcd,M,b1,b2⟩:=D.ex;refine⟨⟨f,_,z9r lk hcd S len fun A outer s H vs Q E hr hsp=>?_,M,b1,b2⟩,D.at_,D.cl⟩;obtain⟨t,h,q⟩:=hbody f cdv A outer s H vs Q E hr hsp;exact⟨t,h.nox,q⟩
section
variable{X:Cx}{C:Addr}{x:Str}{k j:Nat}{ps:List Str}{sp:Sp}{p pos:Pos}{e:Expr}{es:List Expr}{t:TA}
theorem pe_k(M:KCal X.prog X.w X.K X.mg X.base C x k ps sp)(hr:Room j X.A)(ha:PA X (e::es) t)(hjk:k+1<=j:=by decide)(hg:Gl X x:=by rfl)(hdb:(x==("__debug__" : Str))=false:=by decide)(he:Ax (e::es) X.env=(false,eval e X.env)::Ax es X.env:=by rfl)(hpl:(Em pos (Ax es X.env)).any (·.1)=false:=by rfl):PE X (.Call (.Name x p) (e::es) [] pos) (tMake C sp [] E0 t):=by
 obtain⟨f,fd,F,m,b1,_⟩:=M.ex;exact x3p m F (hr.mono hjk) hg M.at_ b1 .nil pass0 ha hdb he hpl
end
theorem z0l{K:Mp}{g:TG}{tb:TS}{D:Ends}(Pv:Nat->St->Hp->Prop)(h0:Pv 0 σ H)(hl:∀i σ H,Pv i σ H->SqL K H a xs)(hs:∀i x T σ H,xs[i]?=some x->Pv i σ H->H T=none->g (.ref T) σ (upd H T (.tup [.int i,x])) fun σ2 H2=>tb { D with nx:=Pv (i+1),ct:=Pv (i+1),bk:=D.nx } σ2 H2)(hd:∀σ H,Pv xs.length σ H->D.nx σ H):
  ∃W:Nat->Nat->St->Hp->Prop,(∃m,W 0 m σ H)/\∀i m σ H,W i m σ H ->
   ((Ite (Itl K a)).stop i H/\D.nx σ H)\/((Ite (Itl K a)).go i H/\∃N:St->Hp->Prop,(∀σ' H',N σ' H'->∃m',m'<m/\W (i+1) m' σ' H')/\∀v H',(Ite (Itl K a)).yld i H v H'->g v σ H' fun σ2 H2=>tb { D with nx:=N,ct:=N,bk:=D.nx } σ2 H2):=by
 refine q9w Pv h0 (fun i σ H h p=>⟨xs,xs[i],hl i σ H p,by simp[h]⟩) (fun σ H p=>⟨xs,hl _ σ H p,Aj _⟩) (fun i v σ H H' h p yl=>?_) hd;obtain⟨T,y,hT,⟨_,hy⟩,rfl,rfl⟩:=yl;exact hs i y T σ H (hy xs (hl i σ H p)) p hT
open PySem PySem.Spec PyProof.Rows
def rCatP:R2:=fun x y H Q=>∃a b xs ys,x=.ref a/\y=.ref b/\H a=some (.tup xs)/\H b=some (.tup ys)/\xs.length+ys.length<=sizeLine/\∀p H',Same H H'->H' p=some (.tup (xs++ys))->(∀c,c≠p->H' c=H c)->Q (.ref p) H'
theorem q8l:OpR X (Ga .Add) rCatP:=by
 intro pins s σ H x y v u Q I rx ry h;obtain⟨a,b,xs,ys,rfl,rfl,ha,hb,hz,q⟩:=h;cases rx;cases ry;obtain⟨za,its,r1,p1⟩:=I.hok a _ ha;obtain⟨zb,its2,r2,p2⟩:=I.hok b _ hb;by_cases hx:its=[]
 ·have hx':xs=[]:=r1.nil_iff.mp hx;obtain⟨⟨cls,dd,data,sl⟩,ho,hc,n,hd⟩:=id p1;obtain⟨⟨cls2,dd2,data2,sl2⟩,ho2,hc2,n2,hd2⟩:=id p2;subst hc hd hc2 hd2;refine Tt ⟨_,ho,rfl⟩ ⟨_,ho2,rfl⟩ Pr Sr Lp Le (Kl _ _) (tuple_addW0 a b its.toArray its2.toArray n n2 dd dd2 sl sl2 (by simp[hx])) ⟨ho,ho2,?_⟩;exact⟨.ref b,H,I,rfl,q b H (Same.refl H) (by rw[hx',Wh];exact hb) fun _ _=>rfl⟩
 ·refine HT.cat_tup p1 p2 hx (fun z=>?_) (fun z=>?_) (by rw[<- r1.length,<- r2.length];exact hz)
  ·have hy:ys=[]:=r2.nil_iff.mp z;exact⟨.ref a,H,I,rfl,q a H (Same.refl H) (by rw[hy,Dm];exact ha) fun _ _=>rfl⟩
  ·refine⟨.ref s.heap.objs.size,_,I.laid (t':=s.toks) (fun b ob q=>Ae _ q) (Aj _) ?_,rfl,q _ _ ((Same.refl H).new I.fresh) q0c fun c hc=>q0f hc⟩;exact⟨by rw[Ai];exact hz,_,r1.append r2,Wt _ _⟩
theorem z5f{X:Cx}{e:Expr}{f:Str}{pos:Pos}{ta:TE}(K:Ah)(hK:X.K=K)(he:PE X e ta)(hb:Gi e f X.env (eval e X.env)=eval e X.env:=by rfl):PE X (.Attribute e f pos) (tFld K ta f):=by subst hK;exact pe_fld he hb
theorem x2q{X:Cx}{o value:Expr}{f:Str}{pos pos':Pos}{ta tv:TE}(K:Ah)(hK:X.K=K)(ha:PE X o ta)(hv:PE X value tv)(hs:Ii value (some (.Attribute o f pos')) pos.line X.env=pure false:=by rfl):PS X (.Assign [.Attribute o f pos'] value pos) (sFld K ta tv f):=by subst hK;exact ps_fld ha hv hs
end L2
namespace HM
open PySem PySem.Spec PyProof.Rows L2 TX SB
def NSs:Str:=Ac "abcdefghijklmnopqrstuvwxyzABCDEFGHIJKLMNOPQRSTUVWXYZ0123456789-_."
abbrev NS:List Nat:=tl NSs
theorem x2r:∀c∈NS,c<128:=by decide +kernel
structure okN (n:List Nat):Prop where
 one:1<=n.length
 few:n.length<=12
 all:∀c∈n,c∈NS
theorem okN.low(h:okN n):∀c∈n,c<128:=fun c hc=>x2r c (h.all c hc)
structure okP (p:Pth):Prop where
 ne:p≠[]
 few:p.length<=6
 all:∀n∈p,okN n
theorem okP.low(h:okP p):Low p:=fun n hn=>(h.all n hn).low
abbrev Rw:=Pth×Option Int
def mV:Option Int->V
 |none=>.non
 |some i=>.int i
def rR(r:Rw):HRow:=(r.1,mV r.2)
theorem mV_inj(h:mV a=mV b):a=b:=by
 cases a with
 |none=>cases b with
  |none=>rfl
  |some j=>cases h
 |some i=>cases b with
  |none=>cases h
  |some j=>cases h;rfl
theorem mV_none:mV a=.non↔a=none:=⟨fun h=>mV_inj (b:=none) h,fun h=>by rw[h];rfl⟩
def lowN(n:List Nat):List Nat:=n.map lo1
def fold(bl:Bool)(p:Pth):Pth:=if bl then p.dropLast++[lowN (p.getLastD [])] else p
theorem x2s(p:Pth):fold false p=p:=rfl
theorem x2t(p:Pth):fold true p=p.dropLast++[lowN (p.getLastD [])]:=rfl
theorem z7w{p:Pth}(h:p≠[]):p=p.dropLast++[p.getLastD []]:=by
 have e:=Dw h;have e2:p.getLastD []=p.getLast h:=by rw[Ka,Gk h];rfl
 rw[e2];exact e.symm
theorem z7x{p q:Pth}(hp:p≠[])(hq:q≠[]):fold bl p=fold bl q↔p.dropLast=q.dropLast/\(if bl then lowN (p.getLastD [])=lowN (q.getLastD []) else p.getLastD []=q.getLastD []):=by
 cases bl with
 |true =>
  rw[x2t,x2t];constructor
  ·simp_all
  ·simp_all
 |false =>
  rw[x2s,x2s];constructor
  ·grind
  ·rintro⟨h1,h2⟩;rw[z7w hp,z7w hq,h1,h2]
structure Hl (bl:Bool) (rows:List Rw):Prop where
 ok:∀r∈rows,okP r.1
 nd:(rows.map fun r=>fold bl r.1).Nodup
 dr:∀r∈rows,r.1.dropLast=[]\/(r.1.dropLast,none)∈rows
theorem Hl.nil(bl:Bool):Hl bl []:=⟨(fun _ h=>nomatch h),.nil,(fun _ h=>nomatch h)⟩
theorem q5g{α β:Type}{f:α->β}:∀{l:List α},(l.map f).Nodup->l.Nodup
 |[],_=>.nil
 |a::l,h=>by
  rw[An,En] at h;exact En.mpr ⟨fun z=>h.1 (Ba.mpr ⟨a,z,rfl⟩),q5g h.2⟩
theorem Hl.paths(h:Hl bl rows):(rows.map (·.1)).Nodup:=by
 have e:rows.map (fun r=>fold bl r.1)=(rows.map (·.1)).map (fold bl):=by simp_all
 have:=h.nd;rw[e] at this;exact q5g this
abbrev Zr:=Addr×Rw
structure RL (H:Hp) (L:Addr) (zs:List Zr):Prop where
 at_:H L=some (.lst (zs.map fun z=>V.ref z.1))
 pr:∀z∈zs,PR H z.1 (rR z.2)
theorem PR.same(h:PR H a r)(k:∀T xs,H T=some (.tup xs)->H' T=some (.tup xs)):PR H' a r:=let ⟨b,h1,h2⟩:=h;⟨b,k _ _ h1,k _ _ h2⟩
theorem RL.same(h:RL H L zs)(s:Same H H'):RL H' L zs:=⟨s _ _ h.at_,fun z hz=>PR.same (h.pr z hz) fun T xs e=>s _ _ e⟩
theorem tupFd(F:FeedAt H a b)(fd:Fd a b H H'):∀T xs,H T=some (.tup xs)->H' T=some (.tup xs):=fun T xs e=>fd.at e fun z=>by
 subst z;obtain⟨i,j,q⟩:=F.fa;rw[q] at e;cases e
theorem RL.fd(h:RL H L zs)(F:FeedAt H a b)(fd:Fd a b H H')(hL:L≠a):RL H' L zs:=⟨fd.at h.at_ hL,fun z hz=>PR.same (h.pr z hz) (tupFd F fd)⟩
theorem x2u{zs:List Zr}(h:∀z∈zs,PR H z.1 (rR z.2)):PRs H (zs.map (·.1)) (zs.map fun z=>rR z.2):=z7s h
theorem zs_of:∀{as:List Addr} {rs:List HRow} {rows:List Rw},PRs H as rs->rs=rows.map rR->∃zs:List Zr,zs.map (·.1)=as/\zs.map (·.2)=rows/\∀z∈zs,PR H z.1 (rR z.2)
 |_,_,[],.nil,_=>⟨[],rfl,rfl,(fun _ h=>nomatch h)⟩
 |_,_,_::_,.nil,e=>by cases e
 |_,_,[],.cons _ _,e=>by cases e
 |a::as,_,r::rows,.cons h t,e=>by
  rw[An] at e;injection e with e1 e2;obtain⟨zs,z1,z2,z3⟩:=zs_of t e2;refine⟨(a,r)::zs,by rw[An,z1],by rw[An,z2],fun z hz=>?_⟩;rcases Bk.mp hz with rfl|hz
  ·rw[<- e1];exact h
  ·exact z3 z hz
theorem q6h:∀{l m:List Pth},l.Perm m->l.Nodup->l.Pairwise (fun a b=>pLt b a=false)->m.Pairwise (fun a b=>pLt b a=false)->l=m
 |[],m,p,_,_,_=>(List.perm_nil.mp p.symm).symm
 |a::l,[],p,_,_,_=>absurd (p.length_eq) (by simp)
 |a::l,b::m,p,nd,h1,h2=>by
  obtain⟨n1,n2⟩:=En.mp nd;obtain⟨a1,a2⟩:=Kt.mp h1;obtain⟨b1,b2⟩:=Kt.mp h2;have e:a=b:=by
   have ha:=p.mem_iff.mp As;have hb:=p.mem_iff.mpr As;rcases Bk.mp ha with e|ha
   ·exact e
   ·rcases Bk.mp hb with e|hb
    ·exact e.symm
    ·exact z2f (b1 a ha) (a1 b hb)
  subst e;rw[q6h ((List.perm_cons a).mp p) n2 a2 b2]
def dMk:Option Int->PyData
 |none=>.none
 |some i=>.int i
def dRw(r:Rw):PyData:=.tuple [.tuple (dP r.1),dMk r.2]
theorem z3s{K:Ah}{H:Hp}:∀p:Pth,Dts K H (vP p) (dP p)
 |[]=>.nil
 |n::p=>.cons (.str _) (z3s p)
theorem q2t{K:Ah}(h:H a=some (.tup (vP p))):Dt K H (.ref a) (.tuple (dP p)):=.tup (SqT.of h) (z3s p)
theorem q8m(h:Low p):(PyData.tuple (dP p)).canLay0=true:=by simp only[Co,q5f h]
theorem z0m(p:Pth):(PyData.tuple (dP p)).depth<=2:=by
 have h1:(PyData.tuple (dP p)).depth=Fz (dP p)+1:=by simp only[Oc]
 have:=q2s p;lia
theorem z0n(p q:Pth):Ft (.tuple (dP p)) (.tuple (dP q))=decide (p=q):=by simp only[Ft,q6e]
theorem q8n{K:Ah}(ha:H a=some (.tup (vP p)))(hb:H b=some (.tup (vP q)))(lp:Low p)(lq:Low q)(k:Q (.bl (!decide (p=q))) H):rNeU K (.ref a) (.ref b) H Q:=by
 refine .inr ⟨_,_,q2t ha,q2t hb,q8m lp,q8m lq,by have:=z0m p;lia,?_⟩;rw[z0n];exact k
theorem z0o{K:Ah}(ha:H a=some (.tup (vP p)))(hb:H b=some (.tup (vP q)))(lp:Low p)(lq:Low q)(k:Q (.bl (decide (p=q))) H):rEqU K (.ref a) (.ref b) H Q:=by
 refine .inr ⟨_,_,q2t ha,q2t hb,q8m lp,q8m lq,by have:=z0m p;lia,?_⟩;rw[z0n];exact k
def uppN(n:List Nat):List Nat:=n.map up1
theorem z7y(e:H a=some (dR rs))(eb:H b=some (.tup (vP p))):DGet H a (.ref b) (valV (rs.map fun r=>(kP r.1,r.2)) (kP p)) :=
 .inr ⟨_,kP p,b,.inl e,rfl,by rw[q6f];exact eb,rfl⟩
end HM
namespace HT
open PySem PyProof.Rows
section
variable{prog:Program}{w:World}{A:Around}{E:Value->Af->Prop}{s:Af}
theorem getItem_tuple_whole{lo:Option Int}(ht:IsTup s.heap t items)(hs:s.heap.IsSliceOf sl vl vu .none)(pl:Lq vl lo)(pu:Lq vu hi)(hw:sIx items.size 0 lo=0/\sIx items.size items.size hi=items.size)(h:Q (.ref t) s):wpAny (model prog w) A (getItem (.ref t) (.ref sl)) Q E s:=by
 obtain⟨os,hos,hcs,hds⟩:=id hs;have hTs:s.TypeIs (.ref sl) "slice" := ⟨os,hos,hcs⟩
 unfold getItem;try with_reducible refine Cm ?_
 refine Ab (Ul ht.typeIs (by decide) ?_);refine Ab (Cd ht.typeIs Dh
  (Bq Dh ht.typeIs entry_tuple_getitem ?_ (Tv _ _)))
 show wpAny _ _ (Hg (.ref t) >>= _) _ _ s;refine Ab (tupleItemsOf_ ht ?_);refine Ab (Gx hTs ?_);refine Ab (q3b hs pl pu ?_);show wpAny _ _ (if (((sIx items.size 0 lo:Nat):Int)==0&&(1:Int)==1&&(sIx items.size items.size hi-sIx items.size 0 lo)==items.size)=true then _ else _) _ _ s;rw[if_pos (by rw[hw.1,hw.2];simp)];refine Ab (Ab (Gx ht.typeIs (Ad ?_)));exact Ab (Ff (Ad ⟨_,rfl,Ad h⟩))
end
end HT
namespace L2
open PySem PySem.Spec PyProof.Rows
def rSlP:V->Option Int->Option Int->Hp->VK->Prop:=fun x lo hi H Q=>∃a xs,x=.ref a/\H a=some (.tup xs)/\∀c H',Same H H'->H' c=some (.tup (cutV xs lo hi))->Q (.ref c) H'
theorem sl_P:SlR X rSlP:=by
 intro pins s σ H x v vl vu lo hi sl Q I rx hs pl pu h;obtain⟨a,xs,rfl,hx,q⟩:=h;by_cases hw:HT.sIx xs.length 0 lo=0/\HT.sIx xs.length xs.length hi=xs.length
 ·cases rx;obtain⟨its,r,ht,hz⟩:=I.tuple (SqT.of hx);have hlen:its.toArray.size=xs.length:=by rw[Aw];exact r.length.symm
  refine⟨"tuple",_,Dh.lookup,ht.typeIs,?_⟩;refine HT.getItem_tuple_whole ht hs pl pu (by rw[hlen];exact hw) ⟨.ref a,H,I,rfl,q a H (Same.refl H) ?_⟩;unfold cutV;rw[hw.1,hw.2,Nn,Pw,Ea];exact hx
 ·exact x2e pins s σ H _ v vl vu lo hi sl Q I rx hs pl pu ⟨a,xs,rfl,SqT.of hx,hw,fun p hp=>q p _ ((Same.refl H).new hp) q0c⟩
end L2
namespace HM
open PySem PySem.Spec PyProof.Rows L2 TX SB
abbrev Mv:=Pth×Pth
section
variable{bl:Bool}
def tb(ms:List Mv):List Mv:=ms.reverse.map fun m=>(m.2,m.1)
end
def MT(H:Hp)(T:Addr)(m:Mv):Prop:=∃A B,H T=some (.tup [.ref A,.ref B])/\H A=some (.tup (vP m.1))/\H B=some (.tup (vP m.2))
abbrev Zm:=Addr×Mv
structure ML (H:Hp) (L:Addr) (zs:List Zm):Prop where
 at_:H L=some (.lst (zs.map fun z=>V.ref z.1))
 pr:∀z∈zs,MT H z.1 z.2
theorem MT.keep(h:MT H T m)(k:∀T xs,H T=some (.tup xs)->H' T=some (.tup xs)):MT H' T m:=let ⟨A,B,h1,h2,h3⟩:=h;⟨A,B,k _ _ h1,k _ _ h2,k _ _ h3⟩
theorem ML.same(h:ML H L zs)(s:Same H H'):ML H' L zs:=⟨s _ _ h.at_,fun z hz=>(h.pr z hz).keep fun T xs e=>s _ _ e⟩
theorem ML.nil(h:H L=some (.lst [])):ML H L []:=⟨h,fun _ z=>nomatch z⟩
end HM
namespace L2
open PySem PySem.Spec PyProof.Rows
section
variable{X:Cx}
def rRjust:V->List V->Hp->VK->Prop:=fun x vs H Q=>∃z i c,x=.str z/\vs=[.int i,.str c]/\PadOk i=true/\c.length=1/\Q (.str (Wi z i (c.cps.getD 0 0))) H
theorem x0u:MtM X "str.rjust" rRjust:=by
 intro pins s σ H x vs v us Q I rx rv h;obtain⟨z,i,c,rfl,rfl,hp,hc,q⟩:=h;obtain⟨t,rfl⟩:=rx;obtain⟨u,w,rfl,ru,rw'⟩:=rv.two;obtain⟨t1,rfl⟩:=ru;obtain⟨t2,rfl⟩:=rw';exact rjust_fill hp hc fun t' k=>⟨.str _,H,I.tok _,⟨_,rfl⟩,q⟩
theorem q6i:CallR X (.type "str") (fun xs H Q=>∃n:Nat,xs=[.int (n:Int)]/\n<=10^14/\Q (.str (Ac (toString (n:Int)))) H):=by
 intro pins s σ H xs us Q I r h;obtain⟨n,rfl,h1,q⟩:=h;obtain⟨u,rfl,t,rfl⟩:=vals1 r;refine PySem.P.str_of_int ?_ ⟨.str (Ac (toString (n:Int))),H,I.tok _,⟨_,rfl⟩,q⟩;rw[Int.natAbs_natCast];have h2:n<2^50:=Ny h1 (by decide);have:n.log2<50:=by
  by_cases hz:n=0
  ·rw[hz];decide
  ·exact(Nat.log2_lt hz).mpr h2
 lia
end
end L2
namespace K
open PySem L2 TX
def wn(w:Nat)(t:List Nat):List Nat:=List.replicate (w-t.length) 48++t
theorem rj{w:Nat}:Wi (mk t) (w:Int) 48=mk (wn w t):=by
 have hl:(mk t).length=t.length:=by rw[len,q0y]
 unfold Wi wn;by_cases h:((w:Nat):Int)<=((mk t).length:Int)
 ·simp_all
 ·rw[if_neg h,hl];simp[Cv.Str.padded,tl,mk]
end K
namespace L2
open PySem PySem.Spec PyProof.Rows
section
variable{P:Program}{w:World}
def IsPairKey(P:Program)(w:World)(h:Heap)(k:List Key×Key)(a:Addr):Prop:=∃o n b v,h.get? a=some o/\o.cls=.type "tuple" /\ o.data=.seq #[.ref b,v] n/\Wj (mixKind P w) h k.1 b/\(mixKind P w).is k.2 v=true
theorem IsPairKey.typeIs{s:Af}{k:List Key×Key}{a:Addr}(x:IsPairKey P w s.heap k a):s.TypeIs (.ref a) "tuple" := let ⟨o,_,_,_,ho,hc,_⟩:=x;⟨o,ho,hc⟩
theorem IsPairKey.inj{h:Heap}{a:Addr}{x y:List Key×Key}(hx:IsPairKey P w h x a)(hy:IsPairKey P w h y a):x=y:=by
 obtain⟨o,n,b,v,ho,_,hd,h1,h2⟩:=hx;obtain⟨o',n',b',v',ho',_,hd',h1',h2'⟩:=hy;obtain rfl:o=o':=Bs (ho.symm.trans ho');rw[hd] at hd';injection hd' with e1 _;have e2:=congrArg Array.toList e1;injection e2 with e3 e4;injection e3 with e3;injection e4 with e4 _;subst e3 e4;exact Pu (h1.inj h1') ((mixKind P w).inj _ _ _ h2 h2')
theorem IsPairKey.keeps{h h':Heap}{k:List Key×Key}{a d:Addr}{o:Obj}{es ep}(x:IsPairKey P w h k a)(ho:h.get? d=some o)(hd:o.data=.dict es ep)(hs:Eu d h h'):IsPairKey P w h' k a:=by
 obtain⟨o',n,b,v,ho',hc,hd',h1,h2⟩:=x;have hne:a≠d:=by
  rintro rfl;obtain rfl:o'=o:=Bs (ho'.symm.trans ho);rw[hd] at hd';exact nomatch hd'
 exact⟨o',n,b,v,(hs.2 a hne).trans ho',hc,hd',h1.keeps ho hd hs,h2⟩
def pairHash(P:Program)(w:World)(k:List Key×Key):Int:=Si (Cz [Dx (mixKind P w) k.1,(mixKind P w).hash k.2])
variable{A:Around}{E:Value->Af->Prop}{s:Af}
theorem z7z{k:List Key×Key}{a:Addr}{Q:Int->Af->Prop}(hu:A.units+1<cLine)(hk:IsPairKey P w s.heap k a)(h:Q (pairHash P w k) { s with toks:=s.toks+(k.1.length+3) }):
  wpAny (model P w) A (pyHash (.ref a)) Q E s:=by
 have hT:=hk.typeIs;obtain⟨o,n,b,v,ho,_,hd,h1,h2⟩:=hk;unfold pyHash;first|unfold pyHashByItsType|skip
 first|refine Ab (Uy (.inr (by lia)) ?_)|skip
 refine Ab (Gd hT Fj.lookup ?_);show wpAny _ _ (if (some (Value.builtin "tuple.__hash__")==some Value.none)=true then _ else _) Q E s;rw[if_neg (by rw[beq_builtin_none];exact Bh)];refine Ab (Gd hT Fj.lookup ?_);show wpAny _ _ (Ng (.ref a) "__hash__" _ >>= _) Q E s;refine Ab (Jl hT Fj (Bq Fj hT Ua ?_ (Td _)));show wpAny _ _ (Hg (.ref a) >>= _) _ _ s;refine Ab (Gy ho hd ?_);refine Ab ?_;rw[<- Il];refine Ez _
  (fun rest (c:Array Int) s'=>(rest=[.ref b,v]/\c.toList=[]/\s'=s)\/(rest=[v]/\c.toList=[Dx (mixKind P w) k.1]/\s'={ s with toks:=s.toks+(k.1.length+1) }) \/
   (rest=[]/\c.toList=[Dx (mixKind P w) k.1,(mixKind P w).hash k.2]/\s'={ s with toks:=s.toks+(k.1.length+2) }))
  _ ?_ ?_ _ _ (.inl ⟨rfl,rfl,rfl⟩)
 ·rintro x rest c s' (⟨e,hc,rfl⟩|⟨e,hc,rfl⟩|⟨e,_⟩)
  ·cases e;refine Ab (Ub (Ex (knd:=mixKind P w) hu) h1 ?_);have q:∀{x:Array Int},x=c.push (Dx (mixKind P w) k.1)->x.toList=[Dx (mixKind P w) k.1]:=fun e=>by rw[e];simp[hc]
   first
    |exact Ad (.inr (.inl ⟨rfl,q rfl,rfl⟩))
    |exact Ab (Ad (Ad (.inr (.inl ⟨rfl,q rfl,rfl⟩))))
  ·cases e;refine Ab ((mixKind P w).pyHash h2 ?_);have q:∀{x:Array Int},x=c.push ((mixKind P w).hash k.2)->x.toList=[Dx (mixKind P w) k.1,(mixKind P w).hash k.2]:=fun e=>by rw[e];simp[hc]
   first
    |exact Ad (.inr (.inr ⟨rfl,q rfl,rfl⟩))
    |exact Ab (Ad (Ad (.inr (.inr ⟨rfl,q rfl,rfl⟩))))
  ·cases e
 ·rintro c s' (⟨e,_⟩|⟨e,_⟩|⟨_,hc,rfl⟩)
  ·cases e
  ·cases e
  show wpAny _ _ (retInt (Cz c.toList)) _ _ _;rw[hc];refine wpAny_ret_mkInt ?_;show wpAny _ _ (if (decide (-(2:Int)^63<=Cz [Dx (mixKind P w) k.1,(mixKind P w).hash k.2])&&decide (Cz [Dx (mixKind P w) k.1,(mixKind P w).hash k.2]<2^63))=true then _ else _) Q E _;unfold pairHash Si at h;split
  ·rename_i hr;rw[if_pos hr] at h;exact Ad h
  ·rename_i hr;rw[if_neg hr] at h;exact Ab (Ff (Ad h))
theorem z0p{x y:List Key×Key}{a b:Addr}{R:Fin->Af->Prop}(hu:A.units<cLine)(hx:IsPairKey P w s.heap x a)(hy:IsPairKey P w s.heap y b)(h:R (.done (.ret (.bool (decide (x=y))))) s):
  wpAny (model P w) A (Cv.«tuple.__eq__» ⟨[.ref a,.ref b],[]⟩) R E s:=by
 have hTb:=hy.typeIs;obtain⟨oa,na,a1,v1,hoa,_,hda,ha1,hv1⟩:=hx;obtain⟨ob,nb,b1,v2,hob,_,hdb,hb1,hv2⟩:=hy;show wpAny _ _ (isInstance (.ref b) (.type "tuple") >>= _) _ _ s;refine Ab (Dz hTb Hd ?_);simp only[Cs,Az,if_false];refine Ab (Gy hoa hda ?_);refine Ab (Gy hob hdb ?_);refine Ab ?_;refine Ez _
  (fun rest r s'=>r.1=none/\s'=s/\((rest=[(.ref a1,.ref b1),(v1,v2)])\/(rest=[(v1,v2)]/\x.1=y.1)\/(rest=[]/\x=y)))
  _ ?_ ?_ _ _ ⟨rfl,rfl,.inl rfl⟩
 ·rintro⟨u,v⟩ rest r s' ⟨hr,rfl,e|⟨e,e1⟩|⟨e,_⟩⟩
  ·cases e;refine Ab (Uc hu ha1 hb1 ?_);by_cases hk:x.1=y.1
   ·rw[decide_eq_true hk];simp only[Cs,Az,if_false];exact Ad ⟨rfl,rfl,.inr (.inl ⟨by trivial,hk⟩)⟩
   ·rw[decide_eq_false hk];simp only[Jc,if_true];have hf:decide (x=y)=false:=decide_eq_false fun z=>hk (by rw[z]);rw[hf] at h;exact Ab (Ad (Ad (Ad h)))
  ·cases e;refine Ab ((mixKind P w).eqBool (a:=x.2) (b:=y.2) hv1 hv2 ?_);by_cases hk:x.2=y.2
   ·rw[decide_eq_true hk];simp only[Cs,Az,if_false];exact Ad ⟨rfl,rfl,.inr (.inr ⟨by trivial,Pu e1 hk⟩)⟩
   ·rw[decide_eq_false hk];simp only[Jc,if_true];have hf:decide (x=y)=false:=decide_eq_false fun z=>hk (by rw[z]);rw[hf] at h;exact Ab (Ad (Ad (Ad h)))
  ·cases e
 ·rintro⟨r1,r2⟩ s' ⟨hr,rfl,e|⟨e,_⟩|⟨_,e⟩⟩
  ·cases e
  ·cases e
  simp only at hr;subst hr;refine Ad ?_;rw[decide_eq_true e] at h;exact h
theorem x4o{x y:List Key×Key}{a b:Addr}{Q:Bool->Af->Prop}(hu:A.units+1<cLine)(hx:IsPairKey P w s.heap x a)(hy:IsPairKey P w s.heap y b)(h:Q (decide (x=y)) s):
  wpAny (model P w) A (eqBool (.ref a) (.ref b)) Q E s:=by
 unfold eqBool;try with_reducible refine Cm ?_
 show wpAny _ _ (if (Value.ref a==Value.ref b)=true then _ else _) Q E s;by_cases hab:(Value.ref a==Value.ref b)=true
 ·rw[if_pos hab];have e:a=b:=by have:=eq_of_beq hab;injection this
  subst e;obtain rfl:=hx.inj hy;exact Ab (Ff (Ad (by simpa using h)))
 ·rw[if_neg hab];exact Ab (Oe (op:=.Eq) hx.typeIs hy.typeIs He
   (Bq He hx.typeIs Vq (z0p (Ex (knd:=mixKind P w) hu) hx hy ⟨_,rfl,(fun e=>nomatch e),Du h⟩) (Uz _ _)) (by lia))
theorem q6j{n:Nat}{ks:List Key}{a:Addr}{Q:Bool->Af->Prop}(hk:Wj (mixKind P w) s.heap ks a)(h:Q true s):wpAny (model P w) A (Of (n+1) (.ref a)) Q E s:=by
 have hT:=hk.typeIs;obtain⟨o,items,m,ho,_,hd,hi⟩:=hk;unfold Of;refine Ab (Gd hT He.lookup ?_);show wpAny _ _ (isInstance (.ref a) (.type "tuple") >>= _) _ _ s;refine Ab (Dz hT Hd ?_);simp only[Cs,Az,if_false];refine Ab (Ei ho hd ?_);refine Ab ?_;show wpAny _ _ (forIn items _ _) _ _ s;rw[<- Il];refine Ez _ (fun rest r s'=>r.1=none/\s'=s/\∀v∈rest,carriedByValue v=true) _ ?_ ?_ _ _ ⟨rfl,rfl,hi.byValue⟩
 ·rintro v rest r s' ⟨hr,rfl,hall⟩;rw[Oz _ (hall v As)];refine Ab (Ad ?_);simp only[Cs,Az,if_false];exact Ad ⟨rfl,rfl,fun u hu'=>hall u (Ao _ hu')⟩
 ·rintro⟨r1,r2⟩ s' ⟨hr,rfl,_⟩;simp only at hr;subst hr;exact Ad h
theorem z5g{k:List Key×Key}{a:Addr}{Q:Bool->Af->Prop}(hk:IsPairKey P w s.heap k a)(h:Q true s):wpAny (model P w) A (Of 8 (.ref a)) Q E s:=by
 have hT:=hk.typeIs;obtain⟨o,m,b,v,ho,_,hd,h1,h2⟩:=hk;unfold Of;refine Ab (Gd hT He.lookup ?_);show wpAny _ _ (isInstance (.ref a) (.type "tuple") >>= _) _ _ s;refine Ab (Dz hT Hd ?_);simp only[Cs,Az,if_false];refine Ab (Ei ho hd ?_);refine Ab ?_;show wpAny _ _ (forIn #[Value.ref b,v] _ _) _ _ s;rw[<- Il];refine Ez _ (fun rest r s'=>r.1=none/\s'=s/\(rest=[.ref b,v]\/rest=[v]\/rest=[])) _ ?_ ?_ _ _ ⟨rfl,rfl,.inl rfl⟩
 ·rintro u rest r s' ⟨hr,rfl,e|e|e⟩
  ·cases e;refine Ab (q6j h1 ?_);simp only[Cs,Az,if_false];exact Ad ⟨rfl,rfl,.inr (.inl (by trivial))⟩
  ·cases e;rw[Oz _ ((mixKind P w).byValue _ _ h2)];refine Ab (Ad ?_);simp only[Cs,Az,if_false];exact Ad ⟨rfl,rfl,.inr (.inr (by trivial))⟩
  ·cases e
 ·rintro⟨r1,r2⟩ s' ⟨hr,rfl,_⟩;simp only at hr;subst hr;exact Ad h
def pairKind(P:Program)(w:World):HeapKind P w (List Key×Key) where
 is:=IsPairKey P w
 hash:=pairHash P w
 draws:=fun k=>k.1.length+3
 room:=fun A=>A.units+1<cLine
 inj:=fun hx hy=>hx.inj hy
 keeps:=fun x ho hd hs=>x.keeps ho hd hs
 pyHash:=fun hu hk h=>z7z hu hk h
 eqBool:=fun hu hx hy h=>x4o hu hx hy h
 quiet:=fun hk h=>z5g hk h
end
open PySem PySem.Spec PyProof.Rows
abbrev PKey:=List Key×Key
def hasP(ks:List (PKey×Addr))(k:PKey):Bool:=ks.any fun x=>decide (x.1=k)
def entP(ks:List (PKey×Addr)):List (PKey×Addr×Value):=ks.map fun x=>(x.1,x.2,.bool true)
def PdO(P:Program)(w:World)(d:Addr)(ks:List (PKey×Addr)):HO:=.ext fun h=>∃o es ep,h.get? d=some o/\o.ExactDict/\o.data=.dict es ep/\es.toList=(entP ks).map (Pb (pairKind P w))/\((entP ks).map (·.1)).Nodup
def PrK(H:Hp)(k:PKey)(a:Addr):Prop:=∃c,H a=some (.tup [.ref c,kV k.2])/\H c=some (.tup (k.1.map kV))
structure DPr (P:Program) (w:World) (H:Hp) (d:Addr) (ks:List (PKey×Addr)):Prop where
 at_:H d=some (PdO P w d ks)
 sys:(d==Cu)=false
 len:ks.length<=sizeLine
 pk:∀x∈ks,PrK H x.1 x.2
section
variable{P:Program}{w:World}{H:Hp}{h:Heap}{d a:Addr}{ks:List (PKey×Addr)}{k:PKey}
theorem PrK.of(ok:HOk P w H h)(e:PrK H k a):(pairKind P w).is h k a:=by
 obtain⟨c,e1,e2⟩:=e;obtain⟨_,its,r,o,h1,h2,n,h3⟩:=(show ObjOk P w H h a (.tup [.ref c,kV k.2]) from ok a _ e1)
 cases r with
 |cons r1 r =>
 cases r with
 |cons r2 r =>
 cases r;cases(show _=Value.ref c from r1);exact⟨o,n,c,_,h1,h2,h3,q5d ok e2,q8f r2⟩
theorem DPr.of(x:DPr P w H d ks)(ok:HOk P w H h):h.DictOfH (pairKind P w) d (entP ks):=by
 obtain⟨⟨o,es,ep,h1,h2,h3,h4,h5⟩,_⟩:=(show ObjOk P w H h d (PdO P w d ks) from ok d _ x.at_)
 refine⟨o,es,ep,h1,h2,h3,h4,fun y hy=>?_,h5⟩;obtain⟨z,hz,rfl⟩:=Ba.mp hy;exact(x.pk z hz).of ok
theorem q7t:(atKey (entP ks) k).isSome=hasP ks k:=by
 unfold atKey entP hasP;rw[Lg];induction ks with
 |nil=>rfl
 |cons x xs ih =>
  rw[An,Cf,Lx];cases e:decide (x.1=k)
  ·rw[<- ih];simp[e]
  ·simp[e]
end
theorem PrK.same{H H':Hp}{k:PKey}{a:Addr}(h:PrK H k a)(s:Same H H'):PrK H' k a:=let ⟨c,e1,e2⟩:=h;⟨c,s _ _ e1,s _ _ e2⟩
theorem DPr.same{P:Program}{w:World}{H H':Hp}{d:Addr}{ks:List (PKey×Addr)}(x:DPr P w H d ks)(s:Same H H'):DPr P w H' d ks:=⟨s _ _ x.at_,x.sys,x.len,fun y hy=>(x.pk y hy).same s⟩
theorem DPr.put{P:Program}{w:World}{H:Hp}{d b:Addr}{ks:List (PKey×Addr)}{k:PKey}(x:DPr P w H d ks)(e:PrK H k b)(l:ks.length<sizeLine):DPr P w (upd H d (PdO P w d (ks++[(k,b)]))) d (ks++[(k,b)]):=by
 have nt:∀{c:Addr} {ys:List V},H c=some (.tup ys)->upd H d (PdO P w d (ks++[(k,b)])) c=some (.tup ys):=fun{c ys} e=>by
  rw[q0f (fun z=>by rw[z,x.at_] at e;cases e)];exact e
 have pk:∀{k':PKey} {a:Addr},PrK H k' a->PrK (upd H d (PdO P w d (ks++[(k,b)]))) k' a:=fun⟨c,e1,e2⟩=>⟨c,nt e1,nt e2⟩
 refine⟨q0c,x.sys,by rw[Ai];exact l,fun y hy=>?_⟩;rcases Au.mp hy with hy|hy
 ·exact pk (x.pk y hy)
 ·rw[Ar.mp hy];exact pk e
section
variable{X:Cx}
def tDNewP(P:Program)(w:World):TE:=fun _ H Q=>∀p,H p=none->(p==Cu)=false->Q (.ref p) (upd H p (PdO P w p []))
theorem x0v{pos:Pos}(P:Program)(w:World)(hP:X.prog=P)(hw:X.w=w):PE X (.Dict [] [] pos) (tDNewP P w):=fun pins s σ H Q I h=>by
 subst hP hw;have hb:=I.big;have hs:(s.heap.objs.size==Cu)=false:=by rw[beq_eq_false_iff_ne];exact Dk hb
 refine Ma ⟨.ref s.heap.objs.size,_,I.laid (o:=PdO X.prog X.w s.heap.objs.size []) (t':=s.toks) (fun _ _ q=>Ae _ q) (Aj _) ⟨⟨_,#[],0,Ak _ rfl,⟨rfl,rfl,rfl⟩,rfl,rfl,Rj⟩,⟨_,Ak _ rfl⟩,fun h1 h2 ⟨o,es,ep,q1,q⟩ k=>⟨o,es,ep,k _ q1,q⟩⟩,rfl,h _ (I.hok.fresh (Aj _)) hs⟩
def tPNotIn(P:Program)(w:World)(ty td:TE):TE:=fun σ H Q=>ty σ H fun y H1=>td σ H1 fun x H2=>∃d ks b k,x=.ref d/\y=.ref b/\DPr P w H2 d ks/\PrK H2 k b/\Q (.bl (!hasP ks k)) H2
theorem z8a{i o:Expr}{ty td:TE}(P:Program)(w:World)(hP:X.prog=P)(hw:X.w=w)(hu:X.A.units+2<cLine)(hi:PE X i ty)(ho:PE X o td):PC X .NotIn i o (tPNotIn P w ty td):=by
 subst hP hw;intro pins s σ H Q I h;refine thn (hi pins s σ H _ I h) fun iv s1 ⟨y,H1,I1,ry,q1⟩=>thn (ho pins s1 σ H1 _ I1 q1) fun u s2 ⟨x,H2,I2,rx,d,ks,b,k,ex,ey,dp,pk,q2⟩=>?_;subst ex ey;obtain rfl:u=Value.ref d:=rx;obtain rfl:iv=Value.ref b:=ry;refine wpAny_notIn_heap (knd:=pairKind X.prog X.w) hu (pk.of I2.hok) dp.sys (dp.of I2.hok) ?_;rw[q7t];exact⟨.bl (!hasP ks k),H2,I2.tok _,rfl,q2⟩
def sPPut(P:Program)(w:World)(td ty tv:TE):TS:=fun D σ H=>tv σ H fun v H1=>td σ H1 fun x H2=>ty σ H2 fun y H3=>∃d ks b k,x=.ref d/\y=.ref b/\v=.bl true/\DPr P w H3 d ks/\PrK H3 k b/\hasP ks k=false/\ks.length<sizeLine/\D.nx σ (upd H3 d (PdO P w d (ks++[(k,b)])))
theorem x4p{i o value:Expr}{td ty tv:TE}{pos pos':Pos}(P:Program)(w:World)(hP:X.prog=P)(hw:X.w=w)(hu:X.A.units+2<cLine)(ho:PE X o td)(hi:PE X i ty)(hv:PE X value tv)(hs:Ii value (some (.Subscript o i pos')) pos.line X.env=pure false):
  PS X (.Assign [.Subscript o i pos'] value pos) (sPPut P w td ty tv):=by
 subst hP hw;intro pins s σ H D I h;refine Lu (thn (hv pins s σ H _ I h) fun r s1 ⟨v,H1,I1,rv,q1⟩=>thn (ho pins s1 σ H1 _ I1 q1) fun u s2 ⟨x,H2,I2,rx,q2⟩=>thn (hi pins s2 σ H2 _ I2 q2) fun iv s3 ⟨y,H3,I3,ry,d,ks,b,k,ex,ey,ev,dp,pk,nk,lk,q3⟩=>?_) hs;subst ex ey ev;obtain rfl:u=Value.ref d:=rx;obtain rfl:iv=Value.ref b:=ry;obtain rfl:r=Value.bool true:=rv;refine Oa (knd:=pairKind X.prog X.w) hu (pk.of I3.hok) (dp.of I3.hok) (fun h' dd hs=>?_) (by unfold entP;rw[Ag];exact Hv lk);have hn:atKey (entP ks) k=none:=by
  have:=q7t (ks:=ks) (k:=k);rw[nk] at this;cases e:atKey (entP ks) k with
  |none=>rfl
  |some _=>rw[e] at this;cases this
 rw[storedH_new hn] at dd;have ee:entP ks++[(k,b,Value.bool true)]=entP (ks++[(k,b)]):=by unfold entP;rw[Av];rfl
 rw[ee] at dd;obtain⟨o,es,ep,e1,e2,e3,e4,_,e5⟩:=dd;refine⟨σ,_,I3.write (x:=d) (e:=d) (o:=PdO X.prog X.w d (ks++[(k,b)])) (by rw[dp.at_];exact True.intro) (.inl rfl) (fun c q hc z=>(hs.2 c hc).trans z) ⟨o,e1⟩ ⟨⟨o,es,ep,e1,e2,e3,e4,e5⟩,⟨o,e1⟩,fun h1 h2 ⟨o,es,ep,q1,q⟩ k=>⟨o,es,ep,k _ q1,q⟩⟩,q3⟩
end
theorem q6k{k:Nat}{A:Around}(hr:Room k A):A.units+2<cLine:=Ny (Ta (by decide:2<=64) _) hr.units
open PySem PySem.Spec PyProof.Rows SB
abbrev PVal:=PKey×Addr×Addr
open PySem PySem.Spec PyProof.Rows
section
variable{P:Program}{w:World}
def IsPairKeyR(P:Program)(w:World)(h:Heap)(k:List Key×Key)(a:Addr):Prop:=∃o n b v,h.get? a=some o/\o.cls=.type "tuple" /\ o.data=.seq #[v,.ref b] n/\Wj (mixKind P w) h k.1 b/\(mixKind P w).is k.2 v=true
theorem IsPairKeyR.typeIs{s:Af}{k:List Key×Key}{a:Addr}(x:IsPairKeyR P w s.heap k a):s.TypeIs (.ref a) "tuple" := let ⟨o,_,_,_,ho,hc,_⟩:=x;⟨o,ho,hc⟩
theorem IsPairKeyR.inj{h:Heap}{a:Addr}{x y:List Key×Key}(hx:IsPairKeyR P w h x a)(hy:IsPairKeyR P w h y a):x=y:=by
 obtain⟨o,n,b,v,ho,_,hd,h1,h2⟩:=hx;obtain⟨o',n',b',v',ho',_,hd',h1',h2'⟩:=hy;obtain rfl:o=o':=Bs (ho.symm.trans ho');rw[hd] at hd';injection hd' with e1 _;have e2:=congrArg Array.toList e1;injection e2 with e3 e4;injection e4 with e4 _;injection e4 with e4;subst e3 e4;exact Pu (h1.inj h1') ((mixKind P w).inj _ _ _ h2 h2')
theorem IsPairKeyR.keeps{h h':Heap}{k:List Key×Key}{a d:Addr}{o:Obj}{es ep}(x:IsPairKeyR P w h k a)(ho:h.get? d=some o)(hd:o.data=.dict es ep)(hs:Eu d h h'):IsPairKeyR P w h' k a:=by
 obtain⟨o',n,b,v,ho',hc,hd',h1,h2⟩:=x;have hne:a≠d:=by
  rintro rfl;obtain rfl:o'=o:=Bs (ho'.symm.trans ho);rw[hd] at hd';exact nomatch hd'
 exact⟨o',n,b,v,(hs.2 a hne).trans ho',hc,hd',h1.keeps ho hd hs,h2⟩
def pairHashR(P:Program)(w:World)(k:List Key×Key):Int:=Si (Cz [(mixKind P w).hash k.2,Dx (mixKind P w) k.1])
variable{A:Around}{E:Value->Af->Prop}{s:Af}
theorem z5h{k:List Key×Key}{a:Addr}{Q:Int->Af->Prop}(hu:A.units+1<cLine)(hk:IsPairKeyR P w s.heap k a)(h:Q (pairHashR P w k) { s with toks:=s.toks+(k.1.length+3) }):
  wpAny (model P w) A (pyHash (.ref a)) Q E s:=by
 have hT:=hk.typeIs;obtain⟨o,n,b,v,ho,_,hd,h1,h2⟩:=hk;unfold pyHash;first|unfold pyHashByItsType|skip
 first|refine Ab (Uy (.inr (by lia)) ?_)|skip
 refine Ab (Gd hT Fj.lookup ?_);show wpAny _ _ (if (some (Value.builtin "tuple.__hash__")==some Value.none)=true then _ else _) Q E s;rw[if_neg (by rw[beq_builtin_none];exact Bh)];refine Ab (Gd hT Fj.lookup ?_);show wpAny _ _ (Ng (.ref a) "__hash__" _ >>= _) Q E s;refine Ab (Jl hT Fj (Bq Fj hT Ua ?_ (Td _)));show wpAny _ _ (Hg (.ref a) >>= _) _ _ s;refine Ab (Gy ho hd ?_);refine Ab ?_;rw[<- Il];refine Ez _
  (fun rest (c:Array Int) s'=>(rest=[v,.ref b]/\c.toList=[]/\s'=s)\/(rest=[.ref b]/\c.toList=[(mixKind P w).hash k.2]/\s'={ s with toks:=s.toks+1 }) \/
   (rest=[]/\c.toList=[(mixKind P w).hash k.2,Dx (mixKind P w) k.1]/\s'={ s with toks:=s.toks+(k.1.length+2) }))
  _ ?_ ?_ _ _ (.inl ⟨rfl,rfl,rfl⟩)
 ·rintro x rest c s' (⟨e,hc,rfl⟩|⟨e,hc,rfl⟩|⟨e,_⟩)
  ·cases e;refine Ab ((mixKind P w).pyHash h2 ?_);have q:∀{x:Array Int},x=c.push ((mixKind P w).hash k.2)->x.toList=[(mixKind P w).hash k.2]:=fun e=>by rw[e];simp[hc]
   first
    |exact Ad (.inr (.inl ⟨rfl,q rfl,rfl⟩))
    |exact Ab (Ad (Ad (.inr (.inl ⟨rfl,q rfl,rfl⟩))))
  ·cases e;refine Ab (Ub (Ex (knd:=mixKind P w) hu) h1 ?_);have q:∀{x:Array Int},x=c.push (Dx (mixKind P w) k.1)->x.toList=[(mixKind P w).hash k.2,Dx (mixKind P w) k.1]:=fun e=>by rw[e];simp[hc]
   have et:s.toks+1+(k.1.length+1)=s.toks+(k.1.length+2):=by lia
   first
    |exact Ad (.inr (.inr ⟨rfl,q rfl,by simp only[et]⟩))
    |exact Ab (Ad (Ad (.inr (.inr ⟨rfl,q rfl,by simp only[et]⟩))))
  ·cases e
 ·rintro c s' (⟨e,_⟩|⟨e,_⟩|⟨_,hc,rfl⟩)
  ·cases e
  ·cases e
  show wpAny _ _ (retInt (Cz c.toList)) _ _ _;rw[hc];refine wpAny_ret_mkInt ?_;show wpAny _ _ (if (decide (-(2:Int)^63<=Cz [(mixKind P w).hash k.2,Dx (mixKind P w) k.1])&&decide (Cz [(mixKind P w).hash k.2,Dx (mixKind P w) k.1]<2^63))=true then _ else _) Q E _;unfold pairHashR Si at h;split
  ·rename_i hr;rw[if_pos hr] at h;exact Ad h
  ·rename_i hr;rw[if_neg hr] at h;exact Ab (Ff (Ad h))
theorem q8o{x y:List Key×Key}{a b:Addr}{R:Fin->Af->Prop}(hu:A.units<cLine)(hx:IsPairKeyR P w s.heap x a)(hy:IsPairKeyR P w s.heap y b)(h:R (.done (.ret (.bool (decide (x=y))))) s):
  wpAny (model P w) A (Cv.«tuple.__eq__» ⟨[.ref a,.ref b],[]⟩) R E s:=by
 have hTb:=hy.typeIs;obtain⟨oa,na,a1,v1,hoa,_,hda,ha1,hv1⟩:=hx;obtain⟨ob,nb,b1,v2,hob,_,hdb,hb1,hv2⟩:=hy;show wpAny _ _ (isInstance (.ref b) (.type "tuple") >>= _) _ _ s;refine Ab (Dz hTb Hd ?_);simp only[Cs,Az,if_false];refine Ab (Gy hoa hda ?_);refine Ab (Gy hob hdb ?_);refine Ab ?_;refine Ez _
  (fun rest r s'=>r.1=none/\s'=s/\((rest=[(v1,v2),(.ref a1,.ref b1)])\/(rest=[(.ref a1,.ref b1)]/\x.2=y.2)\/(rest=[]/\x=y)))
  _ ?_ ?_ _ _ ⟨rfl,rfl,.inl rfl⟩
 ·rintro⟨u,v⟩ rest r s' ⟨hr,rfl,e|⟨e,e1⟩|⟨e,_⟩⟩
  ·cases e;refine Ab ((mixKind P w).eqBool (a:=x.2) (b:=y.2) hv1 hv2 ?_);by_cases hk:x.2=y.2
   ·rw[decide_eq_true hk];simp only[Cs,Az,if_false];exact Ad ⟨rfl,rfl,.inr (.inl ⟨by trivial,hk⟩)⟩
   ·rw[decide_eq_false hk];simp only[Jc,if_true];have hf:decide (x=y)=false:=decide_eq_false fun z=>hk (by rw[z]);rw[hf] at h;exact Ab (Ad (Ad (Ad h)))
  ·cases e;refine Ab (Uc hu ha1 hb1 ?_);by_cases hk:x.1=y.1
   ·rw[decide_eq_true hk];simp only[Cs,Az,if_false];exact Ad ⟨rfl,rfl,.inr (.inr ⟨by trivial,Pu hk e1⟩)⟩
   ·rw[decide_eq_false hk];simp only[Jc,if_true];have hf:decide (x=y)=false:=decide_eq_false fun z=>hk (by rw[z]);rw[hf] at h;exact Ab (Ad (Ad (Ad h)))
  ·cases e
 ·rintro⟨r1,r2⟩ s' ⟨hr,rfl,e|⟨e,_⟩|⟨_,e⟩⟩
  ·cases e
  ·cases e
  simp only at hr;subst hr;refine Ad ?_;rw[decide_eq_true e] at h;exact h
theorem x0w{x y:List Key×Key}{a b:Addr}{Q:Bool->Af->Prop}(hu:A.units+1<cLine)(hx:IsPairKeyR P w s.heap x a)(hy:IsPairKeyR P w s.heap y b)(h:Q (decide (x=y)) s):
  wpAny (model P w) A (eqBool (.ref a) (.ref b)) Q E s:=by
 unfold eqBool;try with_reducible refine Cm ?_
 show wpAny _ _ (if (Value.ref a==Value.ref b)=true then _ else _) Q E s;by_cases hab:(Value.ref a==Value.ref b)=true
 ·rw[if_pos hab];have e:a=b:=by have:=eq_of_beq hab;injection this
  subst e;obtain rfl:=hx.inj hy;exact Ab (Ff (Ad (by simpa using h)))
 ·rw[if_neg hab];exact Ab (Oe (op:=.Eq) hx.typeIs hy.typeIs He
   (Bq He hx.typeIs Vq (q8o (Ex (knd:=mixKind P w) hu) hx hy ⟨_,rfl,(fun e=>nomatch e),Du h⟩) (Uz _ _)) (by lia))
theorem z2i{k:List Key×Key}{a:Addr}{Q:Bool->Af->Prop}(hk:IsPairKeyR P w s.heap k a)(h:Q true s):wpAny (model P w) A (Of 8 (.ref a)) Q E s:=by
 have hT:=hk.typeIs;obtain⟨o,m,b,v,ho,_,hd,h1,h2⟩:=hk;unfold Of;refine Ab (Gd hT He.lookup ?_);show wpAny _ _ (isInstance (.ref a) (.type "tuple") >>= _) _ _ s;refine Ab (Dz hT Hd ?_);simp only[Cs,Az,if_false];refine Ab (Ei ho hd ?_);refine Ab ?_;show wpAny _ _ (forIn #[v,Value.ref b] _ _) _ _ s;rw[<- Il];refine Ez _ (fun rest r s'=>r.1=none/\s'=s/\(rest=[v,.ref b]\/rest=[.ref b]\/rest=[])) _ ?_ ?_ _ _ ⟨rfl,rfl,.inl rfl⟩
 ·rintro u rest r s' ⟨hr,rfl,e|e|e⟩
  ·cases e;rw[Oz _ ((mixKind P w).byValue _ _ h2)];refine Ab (Ad ?_);simp only[Cs,Az,if_false];exact Ad ⟨rfl,rfl,.inr (.inl (by trivial))⟩
  ·cases e;refine Ab (q6j h1 ?_);simp only[Cs,Az,if_false];exact Ad ⟨rfl,rfl,.inr (.inr (by trivial))⟩
  ·cases e
 ·rintro⟨r1,r2⟩ s' ⟨hr,rfl,_⟩;simp only at hr;subst hr;exact Ad h
def pairKindR(P:Program)(w:World):HeapKind P w (List Key×Key) where
 is:=IsPairKeyR P w
 hash:=pairHashR P w
 draws:=fun k=>k.1.length+3
 room:=fun A=>A.units+1<cLine
 inj:=fun hx hy=>hx.inj hy
 keeps:=fun x ho hd hs=>x.keeps ho hd hs
 pyHash:=fun hu hk h=>z5h hu hk h
 eqBool:=fun hu hx hy h=>x0w hu hx hy h
 quiet:=fun hk h=>z2i hk h
end
open PySem PySem.Spec PyProof.Rows
structure PKd (P:Program) (w:World) where
 knd:HeapKind P w PKey
 pr:Hp->PKey->Addr->Prop
 of:∀{H:Hp} {h:Heap} {k:PKey} {a:Addr},HOk P w H h->pr H k a->knd.is h k a
 room:∀{A:Around},A.units+1<cLine->knd.room A
 keep:∀{H H':Hp} {k:PKey} {a:Addr},(∀T xs,H T=some (.tup xs)->H' T=some (.tup xs))->pr H k a->pr H' k a
def PrKR(H:Hp)(k:PKey)(a:Addr):Prop:=∃c,H a=some (.tup [kV k.2,.ref c])/\H c=some (.tup (k.1.map kV))
theorem PrKR.of{P:Program}{w:World}{H:Hp}{h:Heap}{k:PKey}{a:Addr}(ok:HOk P w H h)(e:PrKR H k a):(pairKindR P w).is h k a:=by
 obtain⟨c,e1,e2⟩:=e;obtain⟨_,its,r,o,h1,h2,n,h3⟩:=(show ObjOk P w H h a (.tup [kV k.2,.ref c]) from ok a _ e1)
 cases r with
 |cons r1 r =>
 cases r with
 |cons r2 r =>
 cases r;cases(show _=Value.ref c from r2);exact⟨o,n,c,_,h1,h2,h3,q5d ok e2,q8f r1⟩
def pkA(P:Program)(w:World):PKd P w:=⟨pairKind P w,PrK,fun ok e=>PrK.of ok e,fun h=>h,fun k ⟨c,e1,e2⟩=>⟨c,k _ _ e1,k _ _ e2⟩⟩
def pkB(P:Program)(w:World):PKd P w:=⟨pairKindR P w,PrKR,fun ok e=>PrKR.of ok e,fun h=>h,fun k ⟨c,e1,e2⟩=>⟨c,k _ _ e1,k _ _ e2⟩⟩
abbrev PInt:=PKey×Addr×Int
def entIs(ks:List PInt)(es:List (PKey×Addr×Value)):Prop:=es.map (fun x=>(x.1,x.2.1))=ks.map (fun x=>(x.1,x.2.1))/\∀(i:Nat) (x:PInt),ks[i]?=some x->∃t:Tok,es[i]?=some (x.1,x.2.1,Value.int x.2.2 t)
def valI(ks:List PInt)(k:PKey):Option Int:=(ks.find? fun x=>decide (x.1=k)).map (·.2.2)
def putI(ks:List PInt)(k:PKey)(b:Addr)(v:Int):List PInt:=if (valI ks k).isSome then ks.map fun x=>if x.1=k then(x.1,x.2.1,v) else x else ks++[(k,b,v)]
def PiO{P:Program}{w:World}(kd:PKd P w)(d:Addr)(ks:List PInt):HO:=.ext fun h=>∃o es ep ents,h.get? d=some o/\o.ExactDict/\o.data=.dict es ep/\es.toList=ents.map (Pb kd.knd)/\(ents.map (·.1)).Nodup/\entIs ks ents
structure DPi {P:Program} {w:World} (kd:PKd P w) (H:Hp) (d:Addr) (ks:List PInt):Prop where
 at_:H d=some (PiO kd d ks)
 sys:(d==Cu)=false
 len:ks.length<=sizeLine
 pk:∀x∈ks,kd.pr H x.1 x.2.1
section
variable{P:Program}{w:World}{kd:PKd P w}{H H':Hp}{h:Heap}{d a b:Addr}{ks:List PInt}{k:PKey}{v:Int}
theorem entIs.mem{es:List (PKey×Addr×Value)}(e:entIs ks es){y:PKey×Addr×Value}(hy:y∈es):∃x∈ks,x.1=y.1/\x.2.1=y.2.1:=by
 have:(y.1,y.2.1)∈ks.map (fun x=>(x.1,x.2.1)):=by rw[<- e.1];exact Ba.mpr ⟨y,hy,rfl⟩
 obtain⟨x,hx,q⟩:=Ba.mp this;injection q with q1 q2;exact⟨x,hx,q1,q2⟩
theorem entIs.len{es:List (PKey×Addr×Value)}(e:entIs ks es):es.length=ks.length:=by
 have:=congrArg List.length e.1
 rwa [Ag,Ag] at this
theorem entIs.tl{x:PInt}{y:PKey×Addr×Value}{es:List (PKey×Addr×Value)}(e:entIs (x::ks) (y::es)):(∃t,y=(x.1,x.2.1,.int x.2.2 t))/\entIs ks es:=by
 refine⟨?_,?_,fun i z hz=>?_⟩
 ·obtain⟨t,h⟩:=e.2 0 x rfl;exact⟨t,Bs h⟩
 ·have:=e.1;rw[An,An] at this;exact(List.cons.inj this).2
 ·obtain⟨t,h⟩:=e.2 (i+1) z hz;exact⟨t,h⟩
theorem entIs.cons{x:PInt}{t:Tok}{es:List (PKey×Addr×Value)}(e:entIs ks es):entIs (x::ks) ((x.1,x.2.1,.int x.2.2 t)::es):=by
 refine⟨by rw[An,An,e.1],fun i z hz=>?_⟩;cases i with
 |zero=>cases hz;exact⟨t,rfl⟩
 |succ i=>exact e.2 i z hz
theorem entIs.nil:entIs [] []:=⟨rfl,fun i z hz=>by cases hz⟩
theorem entIs.at_:∀{ks:List PInt} {es:List (PKey×Addr×Value)},entIs ks es->(valI ks k=none/\atKey es k=none)\/∃n t a,valI ks k=some n/\atKey es k=some (a,.int n t)
 |[],[],_=>.inl ⟨rfl,rfl⟩
 |[],_::_,e=>by have:=e.len;cases this
 |_::_,[],e=>by have:=e.len;cases this
 |x::ks,y::es,e=>by
  obtain⟨⟨t,rfl⟩,e2⟩:=e.tl;unfold valI atKey;rw[Cf,Cf];cases q:decide (x.1=k)
  ·exact entIs.at_ e2
  ·exact .inr ⟨x.2.2,t,x.2.1,rfl,rfl⟩
theorem entIs.put:∀{ks:List PInt} {es:List (PKey×Addr×Value)},entIs ks es->entIs (ks.map fun x=>if x.1=k then(x.1,x.2.1,v) else x) (es.map (putAt k (.int v t)))
 |[],[],_=>entIs.nil
 |[],_::_,e=>by have:=e.len;cases this
 |_::_,[],e=>by have:=e.len;cases this
 |x::ks,y::es,e=>by
  obtain⟨⟨t,rfl⟩,e2⟩:=e.tl;rw[An,An];unfold putAt;by_cases q:x.1=k
  ·rw[if_pos q,if_pos q];exact(entIs.put e2).cons (x:=(x.1,x.2.1,v))
  ·rw[if_neg q,if_neg q];exact(entIs.put e2).cons
theorem entIs.snoc:∀{ks:List PInt} {es:List (PKey×Addr×Value)},entIs ks es->entIs (ks++[(k,b,v)]) (es++[(k,b,.int v t)])
 |[],[],_=>entIs.nil.cons (x:=(k,b,v))
 |[],_::_,e=>by have:=e.len;cases this
 |_::_,[],e=>by have:=e.len;cases this
 |x::ks,y::es,e=>by
  obtain⟨⟨t,rfl⟩,e2⟩:=e.tl;exact(entIs.snoc e2).cons
theorem DPi.of(x:DPi kd H d ks)(ok:HOk P w H h):∃ents,h.DictOfH kd.knd d ents/\entIs ks ents:=by
 obtain⟨⟨o,es,ep,ents,h1,h2,h3,h4,h5,h6⟩,_⟩:=(show ObjOk P w H h d (PiO kd d ks) from ok d _ x.at_)
 refine⟨ents,⟨o,es,ep,h1,h2,h3,h4,fun y hy=>?_,h5⟩,h6⟩;obtain⟨z,hz,e1,e2⟩:=h6.mem hy;rw[<- e1,<- e2];exact kd.of ok (x.pk z hz)
theorem DPi.same(x:DPi kd H d ks)(s:Same H H'):DPi kd H' d ks:=⟨s _ _ x.at_,x.sys,x.len,fun y hy=>kd.keep (fun T xs e=>s _ _ e) (x.pk y hy)⟩
theorem x0x{x:PInt}(h:x∈putI ks k b v):(∃y∈ks,y.1=x.1/\y.2.1=x.2.1)\/(x.1=k/\x.2.1=b):=by
 unfold putI at h;split at h
 ·obtain⟨y,hy,rfl⟩:=Ba.mp h;refine .inl ⟨y,hy,?_⟩;split<;>exact⟨rfl,rfl⟩
 ·rcases Au.mp h with h|h
  ·exact .inl ⟨x,h,rfl,rfl⟩
  ·rw[Ar.mp h];exact .inr ⟨rfl,rfl⟩
theorem z3u:(putI ks k b v).length<=ks.length+1:=by
 unfold putI;split
 ·rw[Ag];lia
 ·rw[Ai];exact Aj _
theorem x0y{j:PKey}:valI (putI ks k b v) j=if j=k then some v else valI ks j:=by
 unfold putI;cases e:valI ks k with
 |some n =>
  rw[if_pos (show(some n).isSome=true from rfl)];induction ks with
  |nil=>cases e
  |cons x ks ih =>
   unfold valI at e ih ⊢;rw[Cf] at e;rw[An,Cf,Cf];by_cases q:x.1=k
   ·rw[if_pos q];by_cases r:j=k
    ·rw[if_pos r,show decide (x.1=j)=true from decide_eq_true (q.trans r.symm)];rfl
    ·have nj:decide (x.1=j)=false:=decide_eq_false fun z=>r (z.symm.trans q);rw[if_neg r];simp only[nj];clear e ih;induction ks with
     |nil=>rfl
     |cons y ks ih2 =>
      rw[An,Cf,Cf];by_cases q2:y.1=k
      ·rw[if_pos q2];have nj2:decide (y.1=j)=false:=decide_eq_false fun z=>r (z.symm.trans q2);simp only[nj2];exact ih2
      ·rw[if_neg q2];cases decide (y.1=j)
       ·exact ih2
       ·rfl
   ·rw[show decide (x.1=k)=false from decide_eq_false q] at e;rw[if_neg q];cases z:decide (x.1=j)
    ·exact ih e
    ·have:j≠k:=fun y=>q ((of_decide_eq_true z).trans y);rw[if_neg this]
 |none =>
  rw[if_neg (by simp)];induction ks with
  |nil =>
   unfold valI;rw[Wh,Cf];by_cases r:j=k
   ·rw[if_pos r,show decide (k=j)=true from decide_eq_true r.symm];rfl
   ·rw[if_neg r,show decide (k=j)=false from decide_eq_false fun z=>r z.symm]
  |cons x ks ih =>
   unfold valI at e ih ⊢;rw[Cf] at e;rw[Vk,Cf,Cf];cases q:decide (x.1=k)
   ·rw[q] at e;cases z:decide (x.1=j)
    ·exact ih e
    ·have:j≠k:=fun y=>(of_decide_eq_false q) ((of_decide_eq_true z).trans y)
     rw[if_neg this]
   ·rw[q] at e;cases e
theorem DPi.put(x:DPi kd H d ks)(e:kd.pr H k b)(l:ks.length<sizeLine):DPi kd (upd H d (PiO kd d (putI ks k b v))) d (putI ks k b v):=by
 have nt:∀(c:Addr) (ys:List V),H c=some (.tup ys)->upd H d (PiO kd d (putI ks k b v)) c=some (.tup ys):=fun c ys e=>by
  rw[q0f (fun z=>by rw[z,x.at_] at e;cases e)];exact e
 refine⟨q0c,x.sys,Bb z3u l,fun y hy=>kd.keep nt ?_⟩;rcases x0x hy with⟨z,hz,e1,e2⟩|⟨e1,e2⟩
 ·rw[<- e1,<- e2];exact x.pk z hz
 ·rw[e1,e2];exact e
end
section
variable{X:Cx}{P:Program}{w:World}
def tDNewI(kd:PKd P w):TE:=fun _ H Q=>∀p,H p=none->(p==Cu)=false->Q (.ref p) (upd H p (PiO kd p []))
theorem z3v{pos:Pos}(kd:PKd P w)(hP:X.prog=P)(hw:X.w=w):PE X (.Dict [] [] pos) (tDNewI kd):=fun pins s σ H Q I h=>by
 subst hP hw;have hb:=I.big;have hs:(s.heap.objs.size==Cu)=false:=by rw[beq_eq_false_iff_ne];exact Dk hb
 refine Ma ⟨.ref s.heap.objs.size,_,I.laid (o:=PiO kd s.heap.objs.size []) (t':=s.toks) (fun _ _ q=>Ae _ q) (Aj _) ⟨⟨_,#[],0,[],Ak _ rfl,⟨rfl,rfl,rfl⟩,rfl,rfl,Rj,entIs.nil⟩,⟨_,Ak _ rfl⟩,fun h1 h2 ⟨o,es,ep,ents,q1,q⟩ k=>⟨o,es,ep,ents,k _ q1,q⟩⟩,rfl,h _ (I.hok.fresh (Aj _)) hs⟩
theorem x4q{kd:PKd P w}{H:Hp}{p:Addr}(hs:(p==Cu)=false):DPi kd (upd H p (PiO kd p [])) p []:=⟨q0c,hs,Be _,fun _ h=>nomatch h⟩
def sIPut(kd:PKd P w)(td ty tv:TE):TS:=fun D σ H=>tv σ H fun v H1=>td σ H1 fun x H2=>ty σ H2 fun y H3=>∃d ks b k n,x=.ref d/\y=.ref b/\v=.int n/\DPi kd H3 d ks/\kd.pr H3 k b/\ks.length<sizeLine/\D.nx σ (upd H3 d (PiO kd d (putI ks k b n)))
theorem z8b{i o value:Expr}{td ty tv:TE}{pos pos':Pos}(kd:PKd P w)(hP:X.prog=P)(hw:X.w=w)(hu:X.A.units+2<cLine)(ho:PE X o td)(hi:PE X i ty)(hv:PE X value tv)(hs:Ii value (some (.Subscript o i pos')) pos.line X.env=pure false):
  PS X (.Assign [.Subscript o i pos'] value pos) (sIPut kd td ty tv):=by
 subst hP hw;intro pins s σ H D I h;refine Lu (thn (hv pins s σ H _ I h) fun r s1 ⟨v,H1,I1,rv,q1⟩=>thn (ho pins s1 σ H1 _ I1 q1) fun u s2 ⟨x,H2,I2,rx,q2⟩=>thn (hi pins s2 σ H2 _ I2 q2) fun iv s3 ⟨y,H3,I3,ry,d,ks,b,k,n,ex,ey,ev,dp,pk,lk,q3⟩=>?_) hs;subst ex ey ev;obtain rfl:u=Value.ref d:=rx;obtain rfl:iv=Value.ref b:=ry;obtain⟨t,rfl⟩:=rv;obtain⟨ents,dd0,ei⟩:=dp.of I3.hok;refine Oa (knd:=kd.knd) (kd.room hu) (kd.of I3.hok pk) dd0 (fun h' dd hs=>?_) (by rw[ei.len];exact Hv lk);have ee:entIs (putI ks k b n) (storedH ents k b (.int n t)):=by
  unfold putI;rcases ei.at_ (k:=k) with⟨v1,v2⟩|⟨m,t',a',v1,v2⟩
  ·rw[v1,storedH_new v2];exact ei.snoc
  ·rw[v1,storedH_old v2];exact ei.put
 obtain⟨o,es,ep,e1,e2,e3,e4,_,e5⟩:=dd;refine⟨σ,_,I3.write (x:=d) (e:=d) (o:=PiO kd d (putI ks k b n)) (by rw[dp.at_];exact True.intro) (.inl rfl) (fun c q hc z=>(hs.2 c hc).trans z) ⟨o,e1⟩ ⟨⟨o,es,ep,_,e1,e2,e3,e4,e5,ee⟩,⟨o,e1⟩,fun h1 h2 ⟨o,es,ep,ents,q1,q⟩ k=>⟨o,es,ep,ents,k _ q1,q⟩⟩,q3⟩
def tIGet(kd:PKd P w)(td ty tx:TE):TE:=fun σ H Q=>td σ H fun x H1=>∃d ks,x=.ref d/\DPi kd H1 d ks/\ty σ H1 fun y H2=>tx σ H2 fun z H3=>∃b k m,y=.ref b/\z=.int m/\DPi kd H3 d ks/\kd.pr H3 k b/\Q (.int ((valI ks k).getD m)) H3
theorem z2j{o e f:Expr}{apos cpos:Pos}{td ty tx:TE}(kd:PKd P w)(hP:X.prog=P)(hw:X.w=w)(hu:X.A.units+2<cLine)(ho:PE X o td)(he:PE X e ty)(hf:PE X f tx)(m:M2 X o "get" apos e f cpos):PE X (.Call (.Attribute o "get" apos) [e,f] [] cpos) (tIGet kd td ty tx):=by
 subst hP hw;intro pins s σ H Q I h;refine wpAny_Call_method m.base m.few m.line Qg Rq PySem.F.type_dict_get (thn (ho pins s σ H _ I h) fun u s1 ⟨x,H1,I1,rx,d,ks,ex,dp,q1⟩=>?_);subst ex;obtain rfl:u=Value.ref d:=rx;obtain⟨ents,dd,_⟩:=dp.of I1.hok;refine⟨dd.typeIs,fun b q=>?_,?_⟩
 ·cases q;obtain⟨ob,_,_,h1,h2,_⟩:=dd;exact⟨ob,h1,h2.2.1⟩
 rw[m.trees];refine Lr rfl (Sd (Nw (thn (he pins s1 σ H1 _ I1 q1) fun iv s2 ⟨y,H2,I2,ry,q2⟩ =>
  Nw (thn (hf pins s2 σ H2 _ I2 q2) fun fv s3 ⟨z,H3,I3,rz,b,k,m,ey,ez,dp2,pk,q3⟩=>Uj ?_))))
 subst ey ez;obtain rfl:iv=Value.ref b:=ry;obtain⟨t,rfl⟩:=rz;obtain⟨ents2,dd2,ei⟩:=dp2.of I3.hok;refine call_meetsIn Rq dd2.typeIs PySem.F.entry_dict_get (PySem.F.args_dict_get_3 _ _ _) (meetsH_dict_get_default kd.knd d b dp2.sys (.int m t)) ⟨kd.room hu,k,ents2,kd.of I3.hok pk,dd2,?_⟩;show EP X pins σ Q (((atKey ents2 k).map (·.2)).getD (.int m t)) _;rcases ei.at_ (k:=k) with⟨v1,v2⟩|⟨n,t',a',v1,v2⟩
 ·rw[v2];rw[v1] at q3;exact⟨.int m,H3,I3.tok _,⟨t,rfl⟩,q3⟩
 ·rw[v2];rw[v1] at q3;exact⟨.int n,H3,I3.tok _,⟨t',rfl⟩,q3⟩
end
open PySem PySem.Spec PyProof.Rows
section
variable{M:Model}{A:Around}{E:Value->Af->Prop}{s:Af}
def TbAt(h:Heap)(e:Addr)(vs:Array Value)(T:Addr)(fl:Value):Prop:=vs[1]?=some (.ref T)/\T≠e/\∃oT ts,h.get? T=some oT/\oT.data=.fields ts/\ts[3]?=some fl
def TbOk(L:Addr)(h:Heap)(e:Addr)(vs:Array Value):Prop:=vs[1]?=some .none\/∃T,TbAt h e vs T .none\/TbAt h e vs T (Dl L)
structure LeftX (fr:List Addr) (e:Addr) (oe:Obj) (vs:Array Value) (fl:Value) (h h':Heap):Prop where
 ex:∃T,(h.objs.size<=T\/vs[1]?=some (.ref T))/\T≠e/\h'.get? e=some (oe.mapFields (·.setIfInBounds 1 (.ref T)))/\∃oT ts,h'.get? T=some oT/\oT.data=.fields ts/\ts[3]?=some fl
 keep:∀b o,h.get? b=some o->b≠e->vs[1]?≠some (.ref b)->b∉fr->h'.get? b=some o
 slot:∀b o,h.get? b=some o->b∈fr->∃sl,h'.get? b=some { o with slots:=sl }
theorem z0q{oe:Obj}(hd:oe.data=.fields vs)(h1:vs[1]?=some x):oe.mapFields (·.setIfInBounds 1 x)=oe:=by
 obtain⟨c,d,dt,sl⟩:=oe;cases hd;have e:vs.setIfInBounds 1 x=vs:=by
  have hs:=(Eh.mp h1)
  obtain⟨hlt,hx⟩:=hs;apply Array.ext
  ·simp
  ·intro i h2 h3;rw[Array.getElem_setIfInBounds (by simpa using h3)];split
   ·grind
   ·rfl
 show(⟨c,d,.fields (vs.setIfInBounds 1 x),sl⟩:Obj)=_;rw[e]
theorem entryX
  (hfr:A.frames=some (env::outer))(hl:s.heap.FunFrames base (env::outer))(hf:env.frame=some L)(he:s.heap.get? e=some oe)(hd:oe.data=.fields vs)(hsz:1<vs.size)(h:∀h',(∃T,s.heap.objs.size<=T/\h'.get? e=some (oe.mapFields (·.setIfInBounds 1 (.ref T)))/\∃oT ts,h'.get? T=some oT/\oT.data=.fields ts/\ts[3]?=some (Dl L)) ->
   (∀b o,s.heap.get? b=some o->b≠e->b∉(env::outer).filterMap (·.frame)->h'.get? b=some o) ->
   (∀b o,s.heap.get? b=some o->b∈(env::outer).filterMap (·.frame)->∃sl,h'.get? b=some { o with slots:=sl })->Q () { s with heap:=h' }):
  wpAny M A (do let a<-frameOf env;let pl<-entryPlaceOf L hadNext;let b<-EntryCells.newEntry head a .none (Dl L) .none pl;setField (.ref e) 1 b) Q E s:=by
 have hene:e∉(env::outer).filterMap (·.frame):=fun hm=>by
  obtain⟨_,o,ho,hnf⟩:=hl.mem hm;rw[he] at ho;injection ho with ho;subst ho;exact hnf vs hd
 refine Ab (wpAny_frameOf_fun hfr hl hf fun h₁ hs₁=>?_);refine Ab (wpAny_entryPlaceOf fun pl hpl=>?_);refine Ab (By ?_ (hpl.sizeOk5 _ _ _ _ _));have he₁:=(hs₁.2.1 e hene).trans he;have he₂:=Ae { cls:=.type "traceback",dict:=none,data:=.fields ([head,.ref L,.none,Dl L,.none]++(if pl.isEmpty then List.replicate 6 Value.none else pl)).toArray } he₁;have hTe:=Dk (Al he₁);have hd₃:=Ey hd (·.setIfInBounds 1 (Value.ref h₁.objs.size));have he₃:=Es (Fu (·.setIfInBounds 1 (Value.ref h₁.objs.size))) he₂ (Ja hd₃);have hT₃:=(Cb (h₁.push { cls:=.type "traceback",dict:=none,data:=.fields ([head,.ref L,.none,Dl L,.none]++(if pl.isEmpty then List.replicate 6 Value.none else pl)).toArray })
  (Fu (·.setIfInBounds 1 (Value.ref h₁.objs.size))) (Ca hTe)).trans (Ak h₁ rfl)
 refine Gq he₂ hd hsz (h _ ⟨h₁.objs.size,by rw[hs₁.1];exact Aj _,he₃,_,_,hT₃,rfl,by first|(simp;done)|(rcases hpl with rfl|⟨_,_,_,_,_,_,_,rfl⟩<;>simp)⟩ ?_ ?_)
 ·intro b o hb hbe hbf;have hb₁:=(hs₁.2.1 b hbf).trans hb;rw[Cb _ _ (Ca hbe)];exact Ae _ hb₁
 ·intro b o hb hbf;have hbe:b≠e:=fun z=>hene (z▸hbf);obtain⟨sl,hb₁⟩:=hs₁.2.2 b o hb;refine⟨sl,?_⟩;rw[Cb _ _ (Ca hbe)];exact Ae _ hb₁
theorem noteX
  (hfr:A.frames=some (env::outer))(hl:s.heap.FunFrames base (env::outer))(hf:env.frame=some L)(he:s.heap.get? e=some oe)(hd:oe.data=.fields vs)(ht:TbOk L s.heap e vs)(h:∀h',LeftX ((env::outer).filterMap (·.frame)) e oe vs (Dl L) s.heap h'->Q () { s with heap:=h' }):wpAny M A (noteFrame (.ref e) env) Q E s:=by
 have helt:=Al he;unfold noteFrame;simp only[hf];rcases ht with h1|⟨T,⟨h1,hTe,oT,ts,hT,hdT,h3⟩|⟨h1,hTe,oT,ts,hT,hdT,h3⟩⟩
 ·refine Ab (Bp he hd h1 ?_);refine entryX hfr hl hf he hd (Eh.mp h1).1 fun h' ⟨T,q1,q2,q3⟩ b c=>h h' ⟨⟨T,.inl q1,fun z=>absurd helt (Jm.mpr (z▸q1)),q2,q3⟩,fun x o hx hxe _ hxf=>b x o hx hxe hxf,c⟩
 ·refine Ab (Bp he hd h1 ?_);refine Ab (Bp hT hdT h3 ?_);refine Ab (Gq hT hdT (Eh.mp h3).1 ?_);have other:∀b,b≠T->(s.heap.update T (Fu (·.setIfInBounds 3 Value.none))).get? b=s.heap.get? b:=fun b hb=>Cb _ _ (Ca hb);have noRecord:∀b o,s.heap.get? b=some o->(∀vs,o.data≠.fields vs)->b≠T:=fun b o hb hnf q=>by
   rw[q,hT] at hb;injection hb with hb;subst hb;exact hnf ts hdT
  have hTf:T∉(env::outer).filterMap (·.frame):=fun hm=>by
   obtain⟨_,o,ho,hnf⟩:=hl.mem hm;rw[hT] at ho;injection ho with ho;subst ho;exact hnf ts hdT
  have hsz:(s.heap.update T (Fu (·.setIfInBounds 3 Value.none))).objs.size=s.heap.objs.size:=by simp_all
  refine entryX hfr (hl.of_keeps fun b o hb hnf=>⟨o,(other b (noRecord b o hb hnf)).trans hb,rfl⟩) hf ((other e (Ca hTe)).trans he) hd (Eh.mp h1).1 fun h' a b c=>h h' ⟨?_,fun x o hx hxe hx1 hxf=>?_,fun x o hx hxf=>?_⟩
  ·obtain⟨T',q1,q2,q3⟩:=a;rw[hsz] at q1;exact⟨T',.inl q1,fun z=>absurd helt (Jm.mpr (z▸q1)),q2,q3⟩
  ·exact b x o ((other x fun z=>hx1 (by rw[z];exact h1)).trans hx) hxe hxf
  ·exact c x o ((other x fun z=>hTf (z▸hxf)).trans hx) hxf
 ·refine Ab (Bp he hd h1 ?_);refine Ab (Bp hT hdT h3 ?_);rw[if_pos (show(Dl L==Dl L)=true from by simp)];refine Ad (h s.heap ⟨⟨T,.inr h1,hTe,by rw[z0q hd h1];exact he,oT,ts,hT,hdT,h3⟩,fun x o hx _ _ _=>hx,fun x o hx _=>⟨o.slots,hx⟩⟩)
theorem flightX(he:s.heap.get? e=some oe)(hd:oe.data=.fields vs)(ht:TbAt s.heap e vs T fl)(hTf:T∉fr)(h:∀h',LeftX fr e oe vs (f.elim .none fun f=>Dl f) s.heap h'->Q () { s with heap:=h' }):wpAny M A (setFlight (.ref e) f) Q E s:=by
 obtain⟨h1,hTe,oT,ts,hT,hdT,h3⟩:=ht;have other:∀b,b≠T->(s.heap.update T (Fu (·.setIfInBounds 3 (f.elim Value.none fun f=>Dl f)))).get? b=s.heap.get? b:=fun b hb=>Cb _ _ (Ca hb)
 refine Ab (Bp he hd h1 ?_);refine Gq hT hdT (Eh.mp h3).1 (h _ ⟨⟨T,.inr h1,hTe,?_,_,_,Es _ hT (Ja (Ey hdT _)),Ey hdT _,?_⟩,fun x o hx _ hx1 _=>?_,fun x o hx hxf=>?_⟩)
 ·rw[z0q hd h1,other e (Ca hTe)];exact he
 ·simp[(Eh.mp h3).1]
 ·rw[other x fun z=>hx1 (by rw[z];exact h1)];exact hx
 ·rw[other x fun z=>hTf (z▸hxf)];exact⟨o.slots,hx⟩
end
open PySem PySem.Spec PyProof.Rows
def ExO(C:Value)(dd:Option Addr)(e:Addr):HO:=.ext fun h=>∃vs sl,h.get? e=some { cls:=C,dict:=dd,data:=.fields vs,slots:=sl }/\vs.size=6
structure FlX (X:Cx) (pins:List (Addr×Obj)) (H:Hp) (s:Af) (e:Addr):Prop where
 at_:∃C dd,H e=some (ExO C dd e)
 tb:∃oe vs,s.heap.get? e=some oe/\oe.data=.fields vs/\TbOk X.env.locals s.heap e vs/\∀T,vs[1]?=some (.ref T)->X.s₀.heap.objs.size<=T/\H T=none/\T≠X.env.locals/\(∀x c,X.env.cells.lookup x=some c->c≠T)/\∀p∈X.pn++pins,p.1≠T
 new:X.s₀.heap.objs.size<=e
section
variable{X:Cx}{pins:List (Addr×Obj)}{σ:St}{H:Hp}{s:Af}{e:Addr}{oe:Obj}{vs:Array Value}{fl:Value}{h':Heap}
def chOf(vs:Array Value):List Addr:=match vs[(1:Nat)]? with|some (Value.ref T)=>[T]|_=>[]
theorem chOf_mem:b∈chOf vs↔vs[(1:Nat)]?=some (Value.ref b):=by
 unfold chOf;constructor
 ·intro h;split at h
  ·simp_all
  ·cases h
 ·simp_all
theorem Inv.leftX(I:Inv X pins σ H s)(F:FlX X pins H s e)(he:s.heap.get? e=some oe)(hd:oe.data=.fields vs)(hfl:fl=.none\/fl=Dl X.env.locals)(hT:∀T,vs[1]?=some (.ref T)->X.s₀.heap.objs.size<=T/\H T=none/\T≠X.env.locals/\(∀x c,X.env.cells.lookup x=some c->c≠T)/\∀p∈X.pn++pins,p.1≠T)(L:LeftX (frs X.stack) e oe vs fl s.heap h'):Inv X pins σ H { s with heap:=h' }/\FlX X pins H { s with heap:=h' } e/\∃oe' vs' T,h'.get? e=some oe'/\oe'.data=.fields vs'/\TbAt h' e vs' T fl:=by
 obtain⟨C,dd,hE⟩:=F.at_;obtain⟨T',hT'1,hT'e,hE',oT,ts,q1,q2,q3⟩:=L.ex;have hne:∀b,H b=none->b≠e:=fun b h z=>by rw[z,hE] at h;cases h
 have un:Un (frs X.stack) (chOf vs) H H s.heap h':=⟨fun b o hb n hf hc=>L.keep b o hb (hne b n) (fun z=>hc (chOf_mem.mpr z)) hf,fun b o hb n hf hc=>L.slot b o hb hf,fun _ _ _ n _=>n,fun b o hb hc=>by
   by_cases z:b=e
   ·simp_all
   ·by_cases y:b∈frs X.stack
    ·obtain⟨sl,k⟩:=L.slot b o hb y;exact⟨_,k⟩
    ·exact⟨o,L.keep b o hb z (fun x=>hc (chOf_mem.mpr x)) y⟩,
  fun _ _ q=>q,fun _ _ _ q=>q,fun _ ps q=>⟨#[],by rw[q];simp⟩⟩
 have hsz6:vs.size=6/\oe.cls=C/\oe.dict=dd:=by
  obtain⟨⟨vs2,sl,z,z6⟩,_,_⟩:=I.hok e _ hE;rw[he] at z;cases z;cases hd;exact⟨z6,rfl,rfl⟩
 have hok:HOk X.prog X.w H h':=fun a o ha=>by
  by_cases z:a=e
  ·subst z;rw[hE] at ha;cases ha;refine⟨⟨vs.setIfInBounds 1 (.ref T'),oe.slots,?_,by simpa using hsz6.1⟩,⟨_,hE'⟩,fun h1 h2 ⟨ws,sl,k1,k2⟩ k=>⟨ws,sl,k _ k1,k2⟩⟩;rw[hE'];obtain⟨c,d,dt,sl⟩:=oe;cases hd;obtain⟨_,rfl,rfl⟩:=hsz6;rfl
  ·refine(I.hok a o ha).stay (fun b u hb hu=>?_) (fun _ q=>q) fun _ _ q=>q;have hbt:H b≠none/\b≠e:=by
    rcases hb with rfl|hb
    ·grind
    ·refine⟨by rw[hb];simp,fun y=>?_⟩;rw[y,hE] at hb;cases hb
   exact L.keep b u hu hbt.2 (fun y=>hbt.1 (hT b y).2.1) fun y=>hbt.1 (I.stkFree b y)
 have hch:∀b∈chOf vs,(b∈X.ex\/X.s₀.heap.objs.size<=b)/\b≠X.env.locals/\(∀x c,X.env.cells.lookup x=some c->c≠b)/\∀p∈X.pn++pins,p.1≠b:=fun b hb=>by
  obtain⟨a1,_,a3,a4,a5⟩:=hT b (chOf_mem.mp hb);exact⟨.inr a1,a3,a4,a5⟩
 have I':Inv X pins σ H { s with heap:=h' }:=I.call' (s':={ s with heap:=h' }) rfl un hok I.bare hch;have hd':=Ey hd (·.setIfInBounds 1 (Value.ref T'));have hlt1:1<vs.size:=by grind
 have hTb:TbAt h' e (vs.setIfInBounds 1 (.ref T')) T' fl:=⟨by simp[hlt1],hT'e,oT,ts,q1,q2,q3⟩
 refine⟨I',⟨⟨C,dd,hE⟩,⟨_,_,hE',hd',.inr ⟨T',?_⟩,fun T hTT=>?_⟩,F.new⟩,_,_,T',hE',hd',hTb⟩
 ·lia
 ·have:T=T':=by
   have z:=hTb.1;rw[z] at hTT;injection hTT with y;injection y with y;exact y.symm
  subst this;rcases hT'1 with k|k
  ·refine⟨Bb I.sz k,I.hok.fresh k,fun z=>absurd I.lt (Jm.mpr (z▸k)),fun x c hx z=>?_,fun p hp z=>?_⟩
   ·obtain⟨v,o,ho,_⟩:=I.cell x c hx;exact absurd (Al ho) (Jm.mpr (z▸k))
   ·obtain⟨ho,_⟩:=I.pin p hp;exact absurd (Al ho) (Jm.mpr (z▸k))
  ·exact hT T k
def XE(X:Cx)(J:Addr->St->Hp->Prop)(e:Value)(s:Af):Prop:=∃pins σ H ea,e=.ref ea/\Inv X pins σ H s/\FlX X pins H s ea/\J ea σ H
theorem x2v(hst:X.stack=X.env::X.outer):frs X.stack=(X.env::X.outer).filterMap (·.frame):=by rw[hst];rfl
theorem passX(hst:X.stack=X.env::X.outer)(hf:X.env.frame=some X.env.locals):Tj (model X.prog X.w) X.A X.env (XE X J):=by
 rintro e s' ⟨pins,σ,H,ea,rfl,I,F,j⟩;obtain⟨oe,vs,he,hd,ht,hT⟩:=F.tb;have hfr:X.A.frames=some (X.env::X.outer):=by rw[<- hst];exact I.ok.frames
 have hl:s'.heap.FunFrames X.base (X.env::X.outer):=by rw[<- hst];exact I.stack
 refine noteX hfr hl hf he hd ht fun h1 L1=>?_;rw[<- x2v hst] at L1;obtain⟨I1,F1,oe1,vs1,T1,e1,d1,t1⟩:=I.leftX F he hd (.inr rfl) hT L1;refine Ab (Bp e1 d1 t1.1 ?_);have hT1f:T1∉frs X.stack:=fun hm=>by
  obtain⟨_,_,oT,ts,q1,q2,_⟩:=t1;obtain⟨_,o,ho,hnf⟩:=I1.stack.mem hm;rw[q1] at ho;injection ho with ho;subst ho;exact hnf ts q2
 obtain⟨oe1',vs1',e1',d1',_,hT1⟩:=F1.tb;have q:oe1'=oe1/\vs1'=vs1:=by grind
 obtain⟨rfl,rfl⟩:=q;refine flightX e1 d1 t1 hT1f fun h2 L2=>?_
 rw[hf] at L2;obtain⟨I2,F2,_⟩:=I1.leftX F1 e1 d1 (.inr rfl) hT1 L2;exact⟨pins,σ,H,ea,rfl,I2,F2,j⟩
end
open PySem PySem.Spec PyProof.Rows
def CXR(P:Program)(w:World):CXT:=fun outer H s E e s'=>∃ea H',e=.ref ea/\s'.os=s.os/\Kw s'.gens/\Un (frs outer) [] H H' s.heap s'.heap/\HOk P w H' s'.heap/\s.heap.objs.size<=ea/\(∃C dd,H' ea=some (ExO C dd ea)) /\
 (∃oe vs,s'.heap.get? ea=some oe/\oe.data=.fields vs/\(vs[1]?=some .none\/∃T,TbAt s'.heap ea vs T .none)/\∀T,vs[1]?=some (.ref T)->s.heap.objs.size<=T/\H' T=none)/\E (.ref ea) none H'
section
variable{X:Cx}{J J':Addr->St->Hp->Prop}{E:Value->Af->Prop}{e:Value}{s:Af}
theorem FlX.unwish(F:FlX (X.wish E) pins H s ea):FlX X pins H s ea:=⟨F.at_,F.tb,F.new⟩
theorem XE.unwish(h:XE (X.wish E) J e s):XE X J e s:=by
 obtain⟨pins,σ,H,ea,rfl,I,F,j⟩:=h;exact⟨pins,σ,H,ea,rfl,I.unwish,F.unwish,j⟩
structure AccX (X:Cx) (J:Addr->St->Hp->Prop):Prop where
 acc:∀e s,XE X J e s->X.xe e s
theorem AccX.of:AccX (X.wish (XE X J)) J:=⟨fun _ _ h=>h.unwish⟩
theorem PSs.wishX{st:List Stmt}(hE:∀e s,E e s->X.xe e s)(h:PSs (X.wish E) st t):PSs X st t:=fun pins s σ H D I hw =>
 Bx (h pins s σ H D (I.wish _) hw) (fun _ _ q=>q.unwish) hE
theorem leaves{K:Ah}(h:XE (cxOf (CXR P w) P w K mg base N qual scope f cd A outer s₀ H₀ E₀) (fun ea _ H'=>E₀ (.ref ea) none H') e s):(cxOf (CXR P w) P w K mg base N qual scope f cd A outer s₀ H₀ E₀).xe e s:=by
 obtain⟨pins,σ,H,ea,rfl,I,F,j⟩:=h;obtain⟨oe,vs,he,hd,ht,hT⟩:=F.tb;refine Ab (noteX I.ok.frames I.stack rfl he hd ht fun h1 L1=>?_);obtain⟨I1,F1,oe1,vs1,T1,e1,d1,t1⟩:=I.leftX F he hd (.inr rfl) hT L1;have hT1f:T1∉frs (cxOf (CXR P w) P w K mg base N qual scope f cd A outer s₀ H₀ E₀).stack:=fun hm=>by
  obtain⟨_,_,oT,ts,q1,q2,_⟩:=t1;obtain⟨_,o,ho,hnf⟩:=I1.stack.mem hm;rw[q1] at ho;injection ho with ho;subst ho;exact hnf ts q2
 obtain⟨oe1',vs1',e1',d1',_,hT1⟩:=F1.tb;have q:oe1'=oe1/\vs1'=vs1:=by grind
 obtain⟨rfl,rfl⟩:=q;refine flightX e1 d1 t1 hT1f fun h2 L2=>?_
 obtain⟨I2,F2,oe2,vs2,T2,e2,d2,t2⟩:=I1.leftX F1 e1 d1 (.inl rfl) hT1 L2;obtain⟨oe2',vs2',e2',d2',_,hT2⟩:=F2.tb;have q:oe2'=oe2/\vs2'=vs2:=by grind
 obtain⟨rfl,rfl⟩:=q;exact⟨ea,H,rfl,I2.os,I2.bare,I2.base,I2.hok,F2.new,F2.at_,⟨_,_,e2,d2,.inr ⟨T2,t2⟩,fun T hTT=>⟨(hT2 T hTT).1,(hT2 T hTT).2.1⟩⟩,j⟩
end
abbrev cxX(P:Program)(w:World)(K:Ah)(mg:Str->Option Value)(base:Heap)(N:List Str)(qual:Str)(scope:Scope)(f:Addr)(cd:Value)(A:Around)(outer:List Env)(s:Af)(H:Hp)(E:XK):Cx :=
 (cxOf (CXR P w) P w K mg base N qual scope f cd A outer s H E).wish (XE (cxOf (CXR P w) P w K mg base N qual scope f cd A outer s H E) fun ea _ H'=>E (.ref ea) none H')
section
variable{P:Program}{w:World}{K:Ah}{mg:Str->Option Value}{base:Heap}
theorem accX:AccX (cxX P w K mg base N qual scope f cd A outer s H E) fun ea _ H'=>E (.ref ea) none H':=AccX.of
theorem passDef:Tj (model P w) (A.deeper (Gp qual scope s.heap.objs.size f cd)) (Gp qual scope s.heap.objs.size f cd) (cxX P w K mg base N qual scope f cd A outer s H E).xe :=
 passX rfl rfl
theorem Fun.okX{st:Stmt}(F:Fun K x qual st f fd)(S:FnScope N ps (defScope st))(len:∀vs H Q E,sp vs H Q E->vs.length=ps.length)(hbody:∀(cdv:Value) (A:Around) (outer:List Env) (s:Af) (H:Hp) (vs:List V) (Q:VK) (E:XK),Room k (A.deeper (Gp qual (defScope st) s.heap.objs.size f cdv))->sp vs H Q E ->
   ∃t,PSs (cxX P w K mg base N qual (defScope st) f cdv A outer s H E) (defBody st) t/\t { nx:=fun _ H'=>Q .non H',rt:=Q } (start N vs) H):FnOk P w K mg base (CXR P w) (k+1) f fd ps sp:=by
 obtain⟨oc,od,kV,doc,pm,an,cdv,ct,osl,rfl,lk,hcd⟩:=F.ex;refine z9r lk hcd S len fun A outer s H vs Q E hr hsp=>?_
 obtain⟨t,h,q⟩:=hbody cdv A outer s H vs Q E hr hsp;exact⟨t,PSs.wishX (fun e s' z=>leaves z) h,q⟩
structure CalX (P:Program) (w:World) (K:Ah) (mg:Str->Option Value) (base:Heap) (x:Str) (k:Nat) (ps:List Str) (sp:Sp):Prop where
 ex:∃f fd,FnOk P w K mg base (CXR P w) k f fd ps sp/\mg x=some (.ref f)/\Fh K (.ref f)=true/\Binds K fd ps []
theorem Df.calX{st:Stmt}(D:Df K mg x st ps)(S:FnScope N ps (defScope st))(len:∀vs H Q E,sp vs H Q E->vs.length=ps.length)(hbody:∀(f:Addr) (cdv:Value) (A:Around) (outer:List Env) (s:Af) (H:Hp) (vs:List V) (Q:VK) (E:XK),Room k (A.deeper (Gp x (defScope st) s.heap.objs.size f cdv))->sp vs H Q E ->
   ∃t,PSs (cxX P w K mg base N x (defScope st) f cdv A outer s H E) (defBody st) t/\t { nx:=fun _ H'=>Q .non H',rt:=Q } (start N vs) H):CalX P w K mg base x (k+1) ps sp:=by
 obtain⟨f,fd,F,hm,hb⟩:=D.ex;exact⟨f,fd,F.okX S len fun cdv A outer s H vs Q E hr h=>hbody f cdv A outer s H vs Q E hr h,hm,F.kp,hb⟩
end
section
variable{X:Cx}{J:Addr->St->Hp->Prop}{k j:Nat}{f:Addr}{fd:Ki}{ps:List Str}{sp:Sp}{x:Str}{p pos:Pos}{e:Expr}{es:List Expr}{t:TA}
def tCallX(sp:Sp)(J:Addr->St->Hp->Prop)(t:TA):TE:=fun σ H Q=>t σ H fun vs H1=>sp vs H1 Q fun e _ H'=>∀ea,e=.ref ea->J ea σ H'
theorem x4r{σ:St}(F:FnOk X.prog X.w X.K X.mg X.base (CXR X.prog X.w) k f fd ps sp)(hr:Room k X.A)(hb:Binds X.K fd ps [])(hx:AccX X J)(I:Inv X pins σ H s)(r:Vals vs us)(h:sp vs H Q fun e _ H'=>∀ea,e=.ref ea->J ea σ H'):wpAny (model X.prog X.w) X.A (call (.ref f) us) (EP X pins σ Q) X.xe s:=by
 have hl:(us++[]).length=ps.length:=by rw[Dm,<- r.length];exact F.len _ _ _ _ h
 have hb':=hb s us I.kIn hl;rw[Dm] at hb';refine Jg (Gw (F.run X.A X.stack s H ⟨us,[]⟩ us vs Q _ hr I.env0 hb' r h) fun r s' hq=>?_);cases r with
 |error e =>
  obtain⟨ea,H',rfl,os,bare,un,hok,hnew,hat,⟨oe,ws,he,hd,ht,hT⟩,j⟩:=hq;have I':=I.call' os un hok bare fun b z=>absurd z (by simp)
  refine hx.acc _ _ ⟨pins,σ,H',ea,rfl,I',⟨hat,⟨oe,ws,he,hd,?_,fun T hTT=>?_⟩,Bb I.sz hnew⟩,j ea rfl⟩
  ·rcases ht with z|⟨T,z⟩
   ·exact .inl z
   ·exact .inr ⟨T,.inl z⟩
  ·obtain⟨a1,a2⟩:=hT T hTT;refine⟨Bb I.sz a1,a2,fun z=>absurd I.lt (Jm.mpr (z▸a1)),fun y c hy z=>?_,fun q hq z=>?_⟩
   ·obtain⟨v,o,ho,_⟩:=I.cell y c hy;exact absurd (Al ho) (Jm.mpr (z▸a1))
   ·obtain⟨ho,_⟩:=I.pin q hq;exact absurd (Al ho) (Jm.mpr (z▸a1))
 |ok fl =>
  cases fl with
  |ret u=>exact I.after hq
  |next=>exact False.elim hq
  |brk=>exact False.elim hq
  |cont=>exact False.elim hq
theorem pe_cX(C:CalX X.prog X.w X.K X.mg X.base x k ps sp)(hr:Room j X.A)(hx:AccX X J)(ha:PA X (e::es) t)(hjk:k<=j:=by decide)(hg:Gl X x:=by rfl)(hdb:(x==("__debug__" : Str))=false:=by decide)(he:Ax (e::es) X.env=(false,eval e X.env)::Ax es X.env:=by rfl)(hpl:(Em pos (Ax es X.env)).any (·.1)=false:=by rfl):
  PE X (.Call (.Name x p) (e::es) [] pos) (tCallX sp J t):=by
 obtain⟨f,fd,F,hm,hk,hb⟩:=C.ex;intro pins s σ H Q I h;refine Fy (q2p I hg hm ?_ hdb);refine Mr I.ok.mod.kin hk (thn (ha pos pins s σ H _ I h) fun us s1 ⟨vs,H1,I1,r,q⟩=>⟨I1.kIn,?_⟩) he hpl;exact x4r F (hr.mono hjk) hb hx I1 r q
end
open PySem PySem.Spec PyProof.Rows
structure ECls (K:Ah) (C:Addr) (bm:List Value):Prop where
 ex:∃nm q N bs hdct sn sub ab col dd k0 k1 k2 k3 k5 newId,K.lookup C=some (Dy nm q C N bs bm hdct sn sub ab col dd k0 k1 k2 k3 k5 newId)
 base:bm.contains (.type "BaseException")=true
section
variable{M:Model}{A:Around}{E:Value->Af->Prop}{h:Heap}{g:Array Sj}{d:Drawn}{t:Nat}{os:La}
variable{nm q:Str}{C N:Addr}{bs bm:List Value}{hdct:Bool}{sn:List Str}{sub:List Value}{ab:Bool}{col:Option Bool}{dd:Option Addr}{k0 k1 k2 k3 k5:Option Value}{newId:String}
variable{nm' q':Str}{D N':Addr}{bs' bm':List Value}{hdct':Bool}{sn':List Str}{sub':List Value}{ab':Bool}{col':Option Bool}{dd':Option Addr}{k0' k1' k2' k3' k5':Option Value}{newId':String}
theorem excMatchX(hC:h.get? C=some (Dy nm q C N bs bm hdct sn sub ab col dd k0 k1 k2 k3 k5 newId))(hD:h.get? D=some (Dy nm' q' D N' bs' bm' hdct' sn' sub' ab' col' dd' k0' k1' k2' k3' k5' newId'))(he:h.get? e=some oe)(hcls:oe.cls=.ref C)(hbase:bm'.contains (.type "BaseException")=true)(hq:Q ((Value.ref C::bm).contains (.ref D)) ⟨h,g,d,t,os⟩):wpAny M A (excMatches (.ref e) (.ref D)) Q E ⟨h,g,d,t,os⟩:=by
 have hcB:(Value.ref D::bm').contains (.type "BaseException")=true:=by grind
 have f:=tc_notTuple;repeat (first|(with_reducible refine Gh he ?_;rw[hcls])|with_reducible refine Gh hD ?_|(with_reducible refine Ju hD ?_;rw[hcB])|(with_reducible refine Ju hC ?_)|wp_step)
 cases hb:(Value.ref C::bm).contains (.ref D)<;>(rw[hb] at hq;wp_walk;exact hq)
end
section
variable{X:Cx}{pins:List (Addr×Obj)}{σ:St}{H:Hp}{s:Af}
theorem q8p(I:Inv X pins σ H s)(hN:X.N.Nodup)(hi:X.N[i]?=some x)(hk:X.env.scope.names.lookup x=some .local)(h:∀s',Inv X pins (σ.set i none) H s'->Q () s'):wpAny M A (do bindName X.env x .none;unbindBehindTheSuite X.env x pos) Q E s:=by
 obtain⟨m,hn,hl⟩:=id I.loc;have hcls:(X.env.scope.kind==.class||(X.env.scope.kind==.module&&X.env.locals != X.env.globals))=false:=by rw[I.ok.kind];rfl
 have hiσ:i<σ.length:=by rw[I.len];exact(Aq.mp hi).1
 have cne:=I.cne;have tracked:∀{a:Addr} {h':Heap},(∃o,s.heap.get? a=some o/\H a=none)->Eu a s.heap h'->HOk X.prog X.w H h':=fun{a h'} ha hs b ob e=>by
  refine(I.hok b ob e).stay (fun c w' hc q=>(hs.2 c ?_).trans q) (fun _ q=>q) fun _ _ q=>q;rcases hc with rfl|hc
  ·grind
  ·grind
 refine wpAny_nameGoes_keeps hk hn hcls fun h' v hn' hs=>?_;obtain⟨oL,_,_,hoL,_⟩:=id hn;refine h _ ⟨I.ok,I.os,I.bare,⟨fun b o e n hb hx=>?_,fun b o e n hb hx=>?_,I.base.free,fun b o e hx=>?_,I.base.tups,I.base.frzs,I.base.tbls⟩,⟨_,hn',fun j y v' e1 e2 e3=>?_⟩,fun y c e=>?_,I.free,I.freeC,fun p hp=>?_,tracked ⟨oL,hoL,I.free⟩ hs,by simpa using I.len⟩
 ·exact(hs.2 b (Bd (Bm (Al e) I.ok.above))).trans (I.base.keep b o e n hb hx)
 ·obtain⟨sl,e1⟩:=I.base.slot b o e n hb hx;exact⟨sl,(hs.2 b (Bd (Bm (Al e) I.ok.above))).trans e1⟩
 ·obtain⟨o',e1⟩:=I.base.there b o e hx;exact⟨o',(hs.2 b (Bd (Bm (Al e) I.ok.above))).trans e1⟩
 ·by_cases hj:j=i
  ·simp_all
  ·rw[Mn (Ca hj)] at e2;obtain⟨u',r',q⟩:=hl j y v' e1 e2 e3;refine⟨u',r',?_⟩;rcases q with⟨k,e⟩|⟨k,c,e,z⟩
   ·refine .inl ⟨k,?_⟩;have:y≠x:=fun e=>hj (q7v hN e1 (e▸hi));simp[this,e]
   ·exact .inr ⟨k,c,e,z.sameBut hs (cne y c e)⟩
 ·obtain⟨w',z⟩:=I.cell y c e;exact⟨w',z.sameBut hs (cne y c e)⟩
 ·obtain⟨e,n,ne,nf,d⟩:=I.pin p hp;exact⟨(hs.2 p.1 ne).trans e,n,ne,nf,d⟩
abbrev Cx.pinned(X:Cx)(pn:List (Addr×Obj)):Cx:={ X with pn:=pn }
theorem Cx.Ok.pinned{pn:List (Addr×Obj)}(ok:X.Ok):(X.pinned pn).Ok:=⟨ok.mod,ok.kind,ok.glob,ok.blt,ok.above,ok.inj,ok.has,ok.cab,ok.hd,ok.frames,ok.stk,ok.exf,ok.bs,ok.bsz,ok.noex,ok.exfs,ok.funs,ok.frf⟩
theorem Cx.Ok.unpin{pn:List (Addr×Obj)}(ok:(X.pinned pn).Ok):X.Ok:=⟨ok.mod,ok.kind,ok.glob,ok.blt,ok.above,ok.inj,ok.has,ok.cab,ok.hd,ok.frames,ok.stk,ok.exf,ok.bs,ok.bsz,ok.noex,ok.exfs,ok.funs,ok.frf⟩
theorem Inv.toPn(I:Inv X pins σ H s):Inv (X.pinned (X.pn++pins)) [] σ H s:=⟨I.ok.pinned,I.os,I.bare,I.base,I.loc,I.cell,I.free,I.freeC,fun p hp=>I.pin p (by simpa using hp),I.hok,I.len⟩
theorem Inv.ofPn(I:Inv (X.pinned (X.pn++pins)) pins' σ H s):Inv X pins σ H s:=⟨I.ok.unpin,I.os,I.bare,I.base,I.loc,I.cell,I.free,I.freeC,fun p hp=>I.pin p (Cy _ hp),I.hok,I.len⟩
theorem FlX.ofPn(F:FlX (X.pinned (X.pn++pins)) pins' H s e):FlX X pins H s e:=by
 obtain⟨oe,vs,h1,h2,h3,h4⟩:=F.tb;exact⟨F.at_,⟨oe,vs,h1,h2,h3,fun T hT=>let ⟨a,b,c,d,f⟩:=h4 T hT;⟨a,b,c,d,fun p hp=>f p (Cy _ hp)⟩⟩,F.new⟩
abbrev Cx.hand(X:Cx)(e:Addr):Cx:={ X with A:=X.A.mark (some (.ref e)),calm:=false,xe:=fun _ _=>False }
theorem Cx.Ok.hand(ok:X.Ok):(X.hand e).Ok:=⟨ok.mod,ok.kind,ok.glob,ok.blt,ok.above,ok.inj,ok.has,ok.cab,(fun z=>by cases z),ok.frames,ok.stk,ok.exf,ok.bs,ok.bsz,ok.noex,ok.exfs,ok.funs,ok.frf⟩
theorem Inv.hand(I:Inv X pins σ H s)(e:Addr):Inv (X.hand e) pins σ H s:=⟨I.ok.hand,I.os,I.bare,I.base,I.loc,I.cell,I.free,I.freeC,I.pin,I.hok,I.len⟩
theorem Inv.unhand(I:Inv (X.hand e) pins σ H s)(ok:X.Ok):Inv X pins σ H s:=⟨ok,I.os,I.bare,I.base,I.loc,I.cell,I.free,I.freeC,I.pin,I.hok,I.len⟩
def SubX(K:Ah)(C:Value)(D:Addr):Prop:=∃c bm,C=.ref c/\ECls K c bm/\(Value.ref c::bm).contains (.ref D)=true
def gone(i:Nat)(D:Ends):Ends:=⟨fun σ H=>D.nx (σ.set i none) H,D.rt,fun σ H=>D.bk (σ.set i none) H,fun σ H=>D.ct (σ.set i none) H⟩
def tTry(K:Ah)(i:Nat)(C:Addr)(th:TS)(tb:(Addr->St->Hp->Prop)->TS):TS:=fun D σ H=>∃J:Addr->St->Hp->Prop,
 (∀ea σ' H',J ea σ' H'->(∃c dd,H' ea=some (ExO c dd ea)/\SubX K c C)/\th (gone i D) (σ'.set i (some (.ref ea))) H')/\tb J D σ H
theorem ps_try(K:Ah)(hK:X.K=K)(hst:X.stack=X.env::X.outer)(hf:X.env.frame=some X.env.locals)(hN:X.N.Nodup)(hi:X.N[i]?=some n)(hk:X.env.scope.names.lookup n=some .local)(hg:Gl X dn)(hm:X.mg dn=some (.ref C))(eC:ECls X.K C bmC)(hb:∀pn J,PSs ((X.pinned pn).wish (XE (X.pinned pn) J)) body (tb J))(hh:∀ea,PSs (X.hand ea) (b₀::suite) th)(hdb:(dn==("__debug__" : Str))=false:=by decide):
  PS X (.Try body [.ExceptHandler (some (.Name dn dp)) (some n) (b₀::suite) hp] [] [] pos) (tTry K i C th tb):=by
 subst hK;intro pins s σ H D I ⟨J,hJ,q⟩;refine wpAny_Try_except (Bx (hb (X.pn++pins) J [] s σ H D (I.toPn.wish _) q) (fun f s1 z=>?_) fun e s1 z=>?_)
 ·have z':=z.unwish;have z2:SP X pins D f s1:=by
   cases f with
   |next=>obtain⟨σ',H',I',q'⟩:=z';exact⟨σ',H',I'.ofPn,q'⟩
   |brk=>obtain⟨σ',H',I',q'⟩:=z';exact⟨σ',H',I'.ofPn,q'⟩
   |cont=>obtain⟨σ',H',I',q'⟩:=z';exact⟨σ',H',I'.ofPn,q'⟩
   |ret u=>obtain⟨v,σ',H',I',r,q'⟩:=z';exact⟨v,σ',H',I'.ofPn,r,q'⟩
  cases f with
  |next=>exact Jw z2
  |ret v=>exact z2
  |brk=>exact z2
  |cont=>exact z2
 ·obtain⟨pins',σ1,H1,ea,rfl,I1,F1,j⟩:=z;have I1:=I1.ofPn;have F1:=F1.ofPn;obtain⟨⟨c,dd,hat,cc,bm,rfl,eCc,hsub⟩,hth⟩:=hJ ea σ1 H1 j;obtain⟨oe,vs,he,hd,ht,hT⟩:=F1.tb;have hfr:X.A.frames=some (X.env::X.outer):=by rw[<- hst];exact I.ok.frames
  have hl:s1.heap.FunFrames X.base (X.env::X.outer):=by rw[<- hst];exact I1.stack
  refine noteX hfr hl hf he hd ht fun h2 L2=>?_;rw[<- x2v hst] at L2;obtain⟨I2,F2,oe2,vs2,T2,e2,d2,t2⟩:=I1.leftX F1 he hd (.inr rfl) hT L2;have land:∀{s':Af} {oe:Obj} {vs:Array Value} {T:Addr} {fl:Value} {Aa:Around} {Ee:Value->Af->Prop} {Q:Unit->Af->Prop},Inv X pins σ1 H1 s'->FlX X pins H1 s' ea->s'.heap.get? ea=some oe->oe.data=.fields vs->TbAt s'.heap ea vs T fl ->
    (∀h',Inv X pins σ1 H1 { s' with heap:=h' }->FlX X pins H1 { s' with heap:=h' } ea->(∃oe' vs' T',h'.get? ea=some oe'/\oe'.data=.fields vs'/\TbAt h' ea vs' T' .none)->Q () { s' with heap:=h' })->wpAny (model X.prog X.w) Aa (setFlight (.ref ea) none) Q Ee s':=by
   intro s' oe vs T fl Aa Ee Q I' F' e' d' t' k;have hTf:T∉frs X.stack:=fun hm=>by
    obtain⟨_,_,oT,ts,q1,q2,_⟩:=t';obtain⟨_,o,ho,hnf⟩:=I'.stack.mem hm;rw[q1] at ho;injection ho with ho;subst ho;exact hnf ts q2
   obtain⟨oe1',vs1',e1',d1',_,hT1⟩:=F'.tb;have q:oe1'=oe/\vs1'=vs:=by grind
   obtain⟨rfl,rfl⟩:=q;refine flightX e' d' t' hTf fun h3 L3=>?_
   obtain⟨I3,F3,oe3,vs3,T3,e3,d3,t3⟩:=I'.leftX F' e' d' (.inl rfl) hT1 L3;exact k h3 I3 F3 ⟨oe3,vs3,T3,e3,d3,t3⟩
  refine land I2 F2 e2 d2 t2 fun h3 I3 F3 ⟨oe3,vs3,T3,e3,d3,t3⟩=>?_;refine wpAny_handleBy_cons (codeAny_handlers_test ?_) (by intro z;cases z);refine q2p (I3.hand ea) hg hm ?_ hdb;obtain⟨nm,q0,N,bs,hdct,sn,sub,ab,col,dd0,k0,k1,k2,k3,k5,newId,lk⟩:=eCc.ex;obtain⟨nm',q0',N',bs',hdct',sn',sub',ab',col',dd0',k0',k1',k2',k3',k5',newId',lk'⟩:=eC.ex;have hcls:∃oe,h3.get? ea=some oe/\oe.cls=.ref cc:=by
   obtain⟨⟨ws,sl,z,_⟩,_,_⟩:=I3.hok ea _ hat;exact⟨_,z,rfl⟩
  obtain⟨oe4,e4,c4⟩:=hcls;refine excMatchX (I3.kIn _ _ lk) (I3.kIn _ _ lk') e4 c4 eC.base ?_;rw[hsub];refine codeAny_handlers_suite_as (land I3 F3 e3 d3 t3 fun h5 I5 F5 _=>?_);refine q5j (X:=X.hand ea) (I5.hand ea) hN hi (.inl hk) (show RelV (.ref ea) (.ref ea) from rfl) (fun s6 I6=>?_) (.inr hk);refine Bx (hh ea pins s6 _ H1 (gone i D) I6 hth) (fun f s7 z=>?_) fun _ _ z=>z.elim
  cases f with
  |next =>
   obtain⟨σ',H',I',q'⟩:=z;exact q8p (I'.unhand I.ok) hN hi hk fun s8 I8=>⟨_,H',I8,q'⟩
  |brk =>
   obtain⟨σ',H',I',q'⟩:=z;exact q8p (I'.unhand I.ok) hN hi hk fun s8 I8=>⟨_,H',I8,q'⟩
  |cont =>
   obtain⟨σ',H',I',q'⟩:=z;exact q8p (I'.unhand I.ok) hN hi hk fun s8 I8=>⟨_,H',I8,q'⟩
  |ret u =>
   obtain⟨v,σ',H',I',r,q'⟩:=z;exact q8p (I'.unhand I.ok) hN hi hk fun s8 I8=>⟨v,_,H',I8,r,q'⟩
end
open PySem PySem.Spec PyProof.Rows
section
variable{prog:Program}{w:World}{A:Around}{E:Value->Af->Prop}{h:Heap}{g:Array Sj}{d:Drawn}{t:Nat}{os:La}
variable{nm q:Str}{C N:Addr}{bs bm bmB:List Value}{hdct:Bool}{sn:List Str}{sub:List Value}{ab:Bool}{col:Option Bool}{dd:Option Addr}{k0 k1 k2 k3 k5:Option Value}{B newId initId:String}
theorem q4a(F:Ud B newId initId bmB)(T:Rr h bmB bm){rest:List Value}(hC:h.get? C=some (Dy nm q C N bs bm hdct sn sub ab col dd k0 k1 k2 k3 k5 newId))(hn:h.Ns N mN)(hi:mN "__init__" = some (.ref fI))(hfI:h.get? fI=some oI)(hfc:oI.cls=.type "function")(hq:∀h' e,Heap.MadeExcOf h h' e (.ref C) rest->h.objs.size<=e ->
   wpAny (model prog w) A (call (.ref fI) (.ref e::rest)) (fun r s'=>r=.none/\Q (.done (.ret (.ref e))) s') E ⟨h',g,d,t,os⟩)(hrest:rest.length<=sizeLine:=by size_fits):
  wpAny (model prog w) A (Cv.«type.__call__» ⟨.ref C::rest,[]⟩) Q E ⟨h,g,d,t,os⟩:=by
 repeat (first|with_reducible refine Gh hC ?_|with_reducible refine wpAny_madeBy_exc hC ?_|wp_step)
 refine codeAny_call_builtin_code (Ob _ F.quiet) (wpAny_check_new_subT F T hC ?_);refine codeAny_exc_new_subT F T hC ?_ hrest;have hC₁:=Ae { cls:=.ref C,data:=.fields #[.ref h.objs.size,.none,.none,.none,.bool false,.none] }
  (Ae { cls:=.type "tuple",data:=.seq rest.toArray } hC)
 have hfI₁:=Ae { cls:=.ref C,data:=.fields #[.ref h.objs.size,.none,.none,.none,.bool false,.none] }
  (Ae { cls:=.type "tuple",data:=.seq rest.toArray } hfI)
 have hn₁:((h.push { cls:=.type "tuple",data:=.seq rest.toArray }).push { cls:=.ref C,data:=.fields #[.ref h.objs.size,.none,.none,.none,.bool false,.none] }).Ns N mN :=
  let ⟨o,es,ep,e,r⟩:=hn;⟨o,es,ep,Ae _ (Ae _ e),r⟩
 have hget:((h.push { cls:=.type "tuple",data:=.seq rest.toArray }).push
   { cls:=.ref C,data:=.fields #[.ref h.objs.size,.none,.none,.none,.bool false,.none] }).get? (h.objs.size+1)=some
   { cls:=.ref C,data:=.fields #[.ref h.objs.size,.none,.none,.none,.bool false,.none] }:=by heap_get
 have T₁:=T.keeps (h':=(h.push { cls:=.type "tuple",data:=.seq rest.toArray }).push { cls:=.ref C,data:=.fields #[.ref h.objs.size,.none,.none,.none,.bool false,.none] })
  fun b o e=>Ae _ (Ae _ e)
 have hcC:(Value.ref C::bm).contains (.ref C)=true:=by simp
 repeat (first|with_reducible refine Gh hget ?_|(with_reducible refine Ju hC₁ ?_;rw[hcC])|wp_step)
 refine wpAny_typeLookup_tail hC₁ hn₁ T₁ F.mroIs F.init.lookup ?_;rw[hi];refine Cm (Ab ?_);refine Ab (Gx ⟨_,hfI₁,hfc⟩ ?_);refine Ad (Ab (Bx (hq _ (h.objs.size+1) ⟨fun b o hb=>Ae _ (Ae _ hb),Mm (Lo _),h.objs.size,hget,Mm (Aj _),?_⟩ (Lo _)) (fun r s' hr=>?_) fun _ _ x=>x))
 ·exact Ae _ (Heap.get?_push_at rfl rfl)
 ·obtain⟨rfl,hQ⟩:=hr
  wp_walk
  exact hQ
theorem q7a(F:Ud B newId initId bmB)(T:Rr h bmB bm){rest:List Value}(hC:h.get? C=some (Dy nm q C N bs bm hdct sn sub ab col dd k0 k1 k2 k3 k5 newId))(hn:h.Ns N mN)(hi:mN "__init__" = some (.ref fI))(hfI:h.get? fI=some oI)(hfc:oI.cls=.type "function")(hq:∀h' e,Heap.MadeExcOf h h' e (.ref C) rest->h.objs.size<=e ->
   wpAny (model prog w) (A.under (.builtin "type.__call__" ⟨.ref C::rest,[]⟩)) (call (.ref fI) (.ref e::rest)) (fun r s'=>r=.none/\Q (.ref e) s') E ⟨h',g,d,t,os⟩)(hrest:rest.length<=sizeLine:=by size_fits):
  wpAny (model prog w) A (call (.ref C) rest) Q E ⟨h,g,d,t,os⟩:=by
 have f1:=tc_lookup;have f2:=tc_bind (.ref C);refine Jg (codeAny_of_tree ?_);repeat (any_goals (first|assumption|with_reducible refine Gh hC ?_|wp_step))
 refine⟨rfl,?_⟩;refine codeAny_call_builtin_at (Ob _ (by decide +kernel)) entry_typeCall (wpAny_check_type_call_sub hC (q4a F T hC hn hi hfI hfc fun h' e hm hle=>?_));exact hq h' e hm hle
theorem raiseX(hbase:bm.contains (.type "BaseException")=true)(hh:A.handled=none)(h:wpAny M A x (fun v s₁=>∃e de vs sl,v=.ref e/\s₁.heap.get? C=some (Dy nm q C N bs bm hdct sn sub ab col dd k0 k1 k2 k3 k5 newId) /\
   s₁.heap.get? e=some { cls:=.ref C,dict:=de,data:=.fields vs,slots:=sl }/\vs[1]?=some .none/\E (.ref e) s₁) E s):
  wpAny M A (raiseStmt env (some x) none) Q E s:=by
 have hcB:(Value.ref C::bm).contains (.type "BaseException")=true:=by grind
 refine Ab (Bx h (fun v s₁ h₁=>?_) fun _ _ x=>x);obtain⟨e,de,vs,sl,rfl,hC,he,h1,hE⟩:=h₁;repeat (first|with_reducible refine Gh he ?_|with_reducible refine Gh hC ?_|(with_reducible refine Ju hC ?_;rw[hcB])|(with_reducible refine Bp he rfl h1 ?_)|wp_step)
 exact wpAny_raiseNew_none hh hE
end
open PySem PySem.Spec PyProof.Rows
def ExN(C:Value)(dd:Option Addr)(e:Addr):HO:=.ext fun h=>∃vs sl,h.get? e=some { cls:=C,dict:=dd,data:=.fields vs,slots:=sl }/\vs.size=6/\vs[1]?=some .none
abbrev bmV:List Value:=[.type "ValueError",.type "Exception",.type "BaseException",.type "object"]
structure EMk (K:Ah) (C fI:Addr) (bm:List Value):Prop where
 ex:∃nm q N bs hdct sn sub ab col dd k0 k1 k2 k3 k5 mN,K.lookup C=some (Dy nm q C N bs bm hdct sn sub ab col dd k0 k1 k2 k3 k5 "ValueError.__new__")/\(∀h:Heap,K.In h->h.Ns N mN)/\mN "__init__" = some (.ref fI)
 tail:∀h:Heap,K.In h->Rr h bmV bm
 fn:∃oI,K.lookup fI=some oI/\oI.cls=.type "function"
 kp:Fh K (.ref C)=true
theorem EMk.base{K:Ah}(M:EMk K C fI bm)(KX:K.In h):bm.contains (.type "BaseException")=true:=(M.tail h KX).hasType (by decide)
section
variable{X:Cx}{pins:List (Addr×Obj)}{σ:St}{H:Hp}{s:Af}{e:Addr}
theorem Inv.asO(I:Inv X pins σ H s)(h:H e=some (ExN C dd e)):Inv X pins σ (upd H e (ExO C dd e)) s:=by
 have un:Un (frs X.stack) [] H (upd H e (ExO C dd e)) s.heap s.heap:=by
  have hk:∀{b:Addr} {o:HO},H b=some o->b≠e\/o=ExN C dd e:=fun{b o} hb=>by
   by_cases z:b=e
   ·grind
   ·exact .inl z
  refine⟨fun b o hb _ _ _=>hb,fun b o hb _ _ _=>⟨o.slots,hb⟩,fun b o _ n _=>?_,fun b o hb _=>⟨o,hb⟩,fun b xs q=>?_,fun b o u q=>?_,fun b ps q=>⟨#[],?_⟩⟩
  ·rw[q0f (fun z=>by rw[z,h] at n;cases n)];exact n
  ·rcases hk q with z|z
   ·rw[q0f z];exact q
   ·cases z
  ·rcases hk q with z|z
   ·rw[q0f z];exact q
   ·cases z
  ·rcases hk q with z|z
   ·rw[q0f z,q];simp
   ·cases z
 have hok:HOk X.prog X.w (upd H e (ExO C dd e)) s.heap:=fun a o ha=>by
  by_cases z:a=e
  ·subst z;rw[q0c] at ha;cases ha;obtain⟨⟨vs,sl,q1,q2,_⟩,q3,_⟩:=I.hok a _ h;exact⟨⟨vs,sl,q1,q2⟩,q3,fun h1 h2 ⟨ws,sl,k1,k2⟩ k=>⟨ws,sl,k _ k1,k2⟩⟩
  ·rw[q0f z] at ha;refine(I.hok a o ha).stay (fun b u _ q=>q) (fun b q=>?_) fun b xs q=>?_
   ·rw[q0f (fun y=>by rw[y,h] at q;cases q)];exact q
   ·rw[q0f (fun y=>by rw[y,h] at q;cases q)];exact q
 exact I.call' (s':=s) rfl un hok I.bare fun b z=>absurd z (by simp)
def tRaise(C:Addr)(sp:Sp)(J:Addr->St->Hp->Prop)(t:TA):TS:=fun _ σ H=>t σ H fun vs H1=>∀ea,H1 ea=none ->
 sp (.ref ea::vs) (upd H1 ea (ExN (.ref C) none ea)) (fun v H2=>v=.non/\∃dd,H2 ea=some (ExN (.ref C) dd ea)/\J ea σ (upd H2 ea (ExO (.ref C) dd ea))) E0
theorem x0z{np cpos pos:Pos}(M:EMk X.K C fI bm)(F:FnOk X.prog X.w X.K X.mg X.base CX0 k fI fd ps sp)(hr:Room (k+1) X.A)(hb:Binds X.K fd ps [])(hx:AccX X J)(hc:X.calm=true)(hg:Gl X x)(hm:X.mg x=some (.ref C))(ha:PA X (e₀::es) t)(hps:ps.length<=100:=by decide)(hdb:(x==("__debug__" : Str))=false:=by decide)(he:Ax (e₀::es) X.env=(false,eval e₀ X.env)::Ax es X.env:=by rfl)(hpl:(Em cpos (Ax es X.env)).any (·.1)=false:=by rfl):
  PS X (.Raise (some (.Call (.Name x np) (e₀::es) [] cpos)) none pos) (tRaise C sp J t):=by
 intro pins s σ H D I h;obtain⟨nm,q,N,bs,hdct,sn,sub,ab,col,dd,k0,k1,k2,k3,k5,mN,lk,hN,hi⟩:=M.ex;obtain⟨oI,lkI,hfc⟩:=M.fn;have key:wpAny (model X.prog X.w) X.A (eval (.Call (.Name x np) (e₀::es) [] cpos) X.env) (fun v s₁=>∃e de vs sl,v=.ref e/\s₁.heap.get? C=some (Dy nm q C N bs bm hdct sn sub ab col dd k0 k1 k2 k3 k5 "ValueError.__new__") /\
   s₁.heap.get? e=some { cls:=.ref C,dict:=de,data:=.fields vs,slots:=sl }/\vs[1]?=some .none/\X.xe (.ref e) s₁) X.xe s:=by
  refine Fy (q2p I hg hm ?_ hdb);refine Mr I.ok.mod.kin M.kp (thn (ha cpos pins s σ H _ I h) fun us s1 ⟨vs,H1,I1,r,hq⟩=>⟨I1.kIn,?_⟩) he hpl;obtain⟨hp,g,dr,tk,os⟩:=s1;have KX:=I1.kIn;have hlen:us.length<=sizeLine:=by
   have hh:=F.len _ _ _ _ (hq hp.objs.size (I1.hok.fresh (Aj _)));rw[Bf] at hh;rw[<- r.length,Fe];lia
  refine q7a Oq (M.tail hp KX) (KX _ _ lk) (hN hp KX) hi (KX _ _ lkI) hfc fun h' e hme hle=>?_;have hfree:=I1.hok.fresh hle;obtain⟨t0,hrec,_,_⟩:=hme.there;have I2:Inv X pins σ (upd H1 e (ExN (.ref C) none e)) ⟨h',g,dr,tk,os⟩:=I1.laid (h':=h') (t':=tk) (fun b u q=>hme.keeps b u q) hle ⟨⟨_,_,hrec,rfl,rfl⟩,⟨_,hrec⟩,fun h1 h2 ⟨ws,sl,k1,k2⟩ k=>⟨ws,sl,k _ k1,k2⟩⟩;have hq':=hq e hfree;have r2:Vals (V.ref e::vs) (Value.ref e::us):=.cons rfl r;have hl:((Value.ref e::us)++[]).length=ps.length:=by rw[Dm,<- r2.length];exact F.len _ _ _ _ hq'
  have hb':=hb ⟨h',g,dr,tk,os⟩ (Value.ref e::us) I2.kIn hl;rw[Dm] at hb';refine Jg (Gw (F.run _ X.stack _ _ ⟨Value.ref e::us,[]⟩ (Value.ref e::us) _ _ _ (hr.make C us []) (I2.env0.make C us []) hb' r2 hq') fun r s' hz=>?_);cases r with
  |error e=>exact hz.elim
  |ok fl =>
   cases fl with
   |ret u =>
    obtain⟨v,H',I3,rv,ev,de,hE,j⟩:=I2.after hz;subst ev;refine⟨rv,?_⟩;obtain⟨⟨ws,sl,q1,q2,q3⟩,_,_⟩:=I3.hok e _ hE;refine⟨e,de,ws,sl,rfl,I3.kIn _ _ lk,q1,q3,hx.acc _ _ ⟨pins,σ,_,e,rfl,I3.asO hE,⟨⟨_,_,q0c⟩,⟨_,ws,q1,rfl,.inl q3,fun T hT=>?_⟩,Bb I1.sz hle⟩,j⟩⟩;rw[q3] at hT;cases hT
   |next=>exact False.elim hz
   |brk=>exact False.elim hz
   |cont=>exact False.elim hz
 have hbase:=M.base I.kIn;first
  |exact Ab (Dv (raiseX hbase (I.ok.hd hc) (Ab (Bx key (fun v s₁ z=>Ab (Dv (Ad z))) fun _ _ z=>z))))
  |(simp only[evalOpt,Option.map];exact Ab (Dv (raiseX hbase (I.ok.hd hc) (Ab (Bx key (fun v s₁ z=>Ab (Dv (Ad z))) fun _ _ z=>z)))))
  |exact Ab (Dv (raiseX hbase (I.ok.hd hc) key))
end
open PySem PySem.Spec PyProof.Rows
section
variable{prog:Program}{w:World}{A:Around}{R:Result->Af->Prop}{h:Heap}{g:Array Sj}{d:Drawn}{t:Nat}{os:La}
variable{nm q:Str}{C N:Addr}{bs bm bmB:List Value}{hdct:Bool}{sn:List Str}{sub:List Value}{ab:Bool}{col:Option Bool}{dd:Option Addr}{k0 k1 k2 k3 k5:Option Value}{B newId initId:String}
theorem z8c(F:Ud B newId initId bmB)(T:Rr h bmB bm){rest:List Value}(hC:h.get? C=some (Dy nm q C N bs bm hdct sn sub ab col dd k0 k1 k2 k3 k5 newId))(he:h.get? e=some { cls:=.ref C,dict:=de,data:=.fields vs,slots:=sl })(hs:vs.size=6)(hrest:rest.length<=sizeLine)(hq:R (.ok (.ret .none)) ⟨(h.push { cls:=.type "tuple",data:=.seq rest.toArray }).update e (Fu (·.setIfInBounds 0 (.ref h.objs.size))),g,d,t,os⟩):
  Fw (model prog w) A (.call (.builtin initId) ⟨.ref e::rest,[]⟩) R ⟨h,g,d,t,os⟩:=by
 refine Hn F.init.plain F.initEntry (wpAny_check_init_subT F T hC he rfl ?_);have he2:=Ae { cls:=.type "tuple",data:=.seq rest.toArray } he
 wp_walk
 have h0:vs[(0:Nat)]?=some (vs[0]'(by lia)):=Ep (by lia);rw[h0];refine Ad (Ab (Gq he2 rfl (by lia) ?_));generalize vs[0]'(by lia)=v0;cases v0<;>(wp_walk;exact hq)
end
theorem upd_id(h:H a=some o):upd H a o=H:=by
 funext b;by_cases z:b=a
 ·rw[z,q0c,h]
 ·rw[q0f z]
structure ELow (K:Ah) (C:Addr) (bm:List Value):Prop where
 ex:∃nm q N bs hdct sn sub ab col dd k0 k1 k2 k3 k5,K.lookup C=some (Dy nm q C N bs bm hdct sn sub ab col dd k0 k1 k2 k3 k5 "ValueError.__new__")
 tail:∀h:Heap,K.In h->Rr h bmV bm
theorem EMk.low{K:Ah}(M:EMk K C fI bm):ELow K C bm:=by
 obtain⟨nm,q,N,bs,hdct,sn,sub,ab,col,dd,k0,k1,k2,k3,k5,mN,lk,_⟩:=M.ex;exact⟨⟨nm,q,N,bs,hdct,sn,sub,ab,col,dd,k0,k1,k2,k3,k5,lk⟩,M.tail⟩
structure EIni (K:Ah) (D:Addr) (mc:Value):Prop where
 sp:Nt K (.ref D) "__getattribute__" = some (some (.builtin "type.__getattribute__"))
 rd:W.readsIn K D mc=true
 fc:W.findCls K (.ref D) mc "__init__" = some (.val (.builtin "ValueError.__init__"))
section
variable{X:Cx}{x:Str}{p pos apos:Pos}{a b:Expr}{t:TA}{C D:Addr}{bm:List Value}{mc:Value}
def tIni(C:Addr)(t:TA):TE:=fun σ H Q=>t σ H fun vs H1=>∃ea v de,vs=[.ref ea,v]/\H1 ea=some (ExN (.ref C) de ea)/\Q .non H1
theorem pe_ini{pl:Sem Bool}(L:ELow X.K C bm)(N:EIni X.K D mc)(hg:Gl X x)(hm:X.mg x=some (.ref D))(ha:PA X [a,b] t)(hdb:(x==("__debug__" : Str))=false:=by decide)(hst:Ax [a,b] X.env=(false,eval a X.env)::Ax [b] X.env:=by rfl)(hpl:(Em pos (Ax [b] X.env)).any (·.1)=false:=by rfl)(ht:eval (.Call (.Attribute (.Name x p) "__init__" apos) [a,b] [] pos) X.env=(do
   let ov<-eval (.Name x p) X.env
   Nj apos.atName
   let (f,first)<-Jq [ov] (Mc ov "__init__" pl)
   Rz pos f first (Em pos (Ax [a,b] X.env)) (Ly pos (Io [] X.env))):=by rfl):
  PE X (.Call (.Attribute (.Name x p) "__init__" apos) [a,b] [] pos) (tIni C t):=by
 intro pins s σ H Q I h;refine Qi (q2p I hg hm ?_ hdb) ht;refine W.method_cls I.kIn N.sp (W.cls_value I.kIn N.rd N.fc rfl ?_);refine Ms (thn (ha pos pins _ σ H _ (I.tok _) h) fun us s1 ⟨vs,H1,I1,r,ea,v,de,ev,hE,q⟩=>?_) hst hpl;subst ev;obtain⟨u1,u2,rfl,ru,rv⟩:=r.two;obtain rfl:u1=Value.ref ea:=ru;obtain⟨hp,g,dr,tk,os⟩:=s1;obtain⟨nm,q0,N0,bs,hdct,sn,sub,ab,col,dd,k0,k1,k2,k3,k5,lk⟩:=L.ex;obtain⟨⟨ws,sl,q1,q2,q3⟩,_,_⟩:=I1.hok ea _ hE;refine Jg (z8c Oq (L.tail hp I1.kIn) (I1.kIn _ _ lk) q1 q2 (by show 1<=sizeLine;decide) ?_);have q1':=Ae { cls:=.type "tuple",data:=.seq #[u2] } q1;have hrec:=Es (Fu (·.setIfInBounds 0 (Value.ref hp.objs.size))) q1' rfl;have I2:=I1.write (o:=ExN (.ref C) de ea) (t':=tk) (h':=(hp.push { cls:=.type "tuple",data:=.seq #[u2] }).update ea (Fu (·.setIfInBounds 0 (Value.ref hp.objs.size)))) (by rw[hE];exact trivial) (.inl rfl)
  (fun b u hb hu=>by rw[Cb _ _ (Ca hb)];exact Ae _ hu) ⟨_,hrec⟩
  ⟨⟨ws.setIfInBounds 0 (.ref hp.objs.size),sl,hrec,by simpa using q2,by rw[Array.getElem?_setIfInBounds_ne (by decide)];exact q3⟩,⟨_,hrec⟩,fun h1 h2 ⟨ws,sl,k1,k2⟩ k=>⟨ws,sl,k _ k1,k2⟩⟩
 rw[upd_id hE] at I2;exact⟨.non,H1,I2,rfl,q⟩
end
open PySem PySem.Spec PyProof.Rows
def ExMro(l:List Value):Prop:=∃rs:List Addr,l=rs.map Value.ref++bmV
theorem z5i(self:Value):Wk self "__setattr__" bmV=pure ():=by kernel_rfl
theorem z8d(self:Value)(h:ExMro l):Wk self "__setattr__" l=pure ():=by
 obtain⟨rs,rfl⟩:=h;induction rs with
 |nil=>exact z5i self
 |cons c r ih=>show Wk self "__setattr__" (.ref c::(r.map Value.ref++bmV))=_;rw[refuseLoop_ref];exact ih
theorem z8e(h:ExMro l):l.contains (.type "object")=true/\l.isEmpty=false:=by
 obtain⟨rs,rfl⟩:=h;refine⟨?_,?_⟩
 ·induction rs with
  |nil=>decide
  |cons c r ih=>show(Value.ref c::(r.map Value.ref++bmV)).contains _=true;rw[Kv,ih,Ue]
 ·cases rs<;>rfl
structure ESet (K:Ah) (C:Addr) (f:Str):Prop where
 cls:∃cd,Wo K C=some cd/\ExMro cd.mro/\cd.hasDict=true
 sa:Bv K (.ref C) "__setattr__" = some (some (.builtin "object.__setattr__"))
 tk:Bv K (.ref C) f=some none
section
variable{prog:Program}{w:World}{A:Around}{R:Result->Af->Prop}{s:Af}{K:Ah}{x C:Addr}
theorem z0r(X:K.In s.heap)(I:Pm s.heap x ox C od)(S:ESet K C name)(h:wpAny (model prog w) A.in1 (Cv.ObjectAttr.storeInOwnDict (.ref x) (.ref C) (.str name tk) name v false)
   (fun fin s'=>match fin with|.done f=>R (.ok f) s'|.again c'=>c'.quiet=true/\Fw (model prog w) A c' R s') (fun e s'=>R (.error e) s') s):
  Fw (model prog w) A (.call (.builtin "object.__setattr__") ⟨[.ref x,.str name tk,v],[]⟩) R s:=by
 have SF:=PySem.F.store_object;obtain⟨cd,hc,ho,_⟩:=S.cls;have sub:W.Looks (model prog w) s.heap (isInstance (.ref x) (.type "object")) true:=I.type.andThen (W.looks_mroIn X (by unfold W.mroIn;rw[hc,Vr,if_neg (by rw[(z8e ho).2];decide),(z8e ho).1]));refine Hn SF.slot.plain SF.entry (@W.check_slot (model prog w) _ _ s "object.__setattr__" "object" "__setattr__" (.ref x) [.str name tk,v] [] _ SF.kind SF.split sub (SF.args (.ref x) (.str name tk) v) ?_);have hm:W.Looks (model prog w) s.heap (mroOf (.ref C)) cd.mro:=(Ol X hc).andThen .now;rw[W.osa_eq,refuse_eq];refine Ab (Ab (I.type.here (Ab (hm.here ?_))));rw[z8d _ ho];refine Ad (Ab (I.type.here (Ab ((Nk X S.tk).here (Ab ?_)))));exact Ad h
end
open PySem PySem.Spec PyProof.Rows
def XdO(d:Addr)(fs:List (Str×V)):HO:=.ext fun h=>∃mA,h.Ns1 d mA/\(∀f,RelO (fs.lookup f) (mA f))/\Ml mA (fs.map (·.1))
theorem x4s(n:h.Ns1 d mA)(r:∀f,RelO (fs.lookup f) (mA f))(wi:Ml mA (fs.map (·.1))):ObjOk P w H h d (XdO d fs) :=
 ⟨⟨mA,n,r,wi⟩,let ⟨o,_,_,e,_⟩:=n;⟨o,e⟩,fun h1 h2 ⟨mA,n,r,wi⟩ k=>⟨mA,n.at k,r,wi⟩⟩
theorem exn_ok(q1:h.get? e=some { cls:=C,dict:=dd,data:=.fields vs,slots:=sl })(q2:vs.size=6)(q3:vs[1]?=some .none):ObjOk P w H h e (ExN C dd e) :=
 ⟨⟨vs,sl,q1,q2,q3⟩,⟨_,q1⟩,fun h1 h2 ⟨ws,sl,k1,k2⟩ k=>⟨ws,sl,k _ k1,k2⟩⟩
section
variable{X:Cx}{pins:List (Addr×Obj)}{σ:St}{H:Hp}{s:Af}{x C d:Addr}{f:Str}{y:V}{u:Value}{A:Around}{E:Value->Af->Prop}{Q:Unit->Af->Prop}
theorem z8f(I:Inv X pins σ H s)(hE:H x=some (ExN (.ref C) (some d) x))(hd:H d=some (XdO d fs))(S:ESet X.K C f)(hl:fs.length<1000)(ry:RelV y u)(h:∀s',Inv X pins σ (upd H d (XdO d (putF f y fs))) s'->Q () s'):wpAny (model X.prog X.w) A (Wn (.ref x) f u) Q E s:=by
 obtain⟨⟨vs,sl,q1,q2,q3⟩,_,_⟩:=I.hok x _ hE;obtain⟨⟨mA,n,r,wi⟩,⟨od,hod⟩,_⟩:=I.hok d _ hd;have J:Pm s.heap x { cls:=.ref C,dict:=some d,data:=.fields vs,slots:=sl } C (some od):=⟨q1,rfl,rfl,hod⟩
 refine Vc I.kIn J S.sa (z0r I.kIn J S ?_);obtain⟨cd,hc,_,hd'⟩:=S.cls;refine Ab (Ad (Ab (Ab (Rf q1 (Ab (To (Ol I.kIn hc) ?_))))));rw[hd'];refine Ad (Ab (Ad (Ab ?_)));refine Tp n fun h' hn2 hs2=>?_;obtain⟨oD,esD,epD,hoD,hdD,hcD⟩:=hn2.count (Ov f u wi);refine Ab (Pn hoD (by rw[hdD];exact Po (Bb hcD (by rw[Bf,Ag,Fe];lia))) ?_);refine Ad (h _ (I.write (t':=s.toks+1+1) (h':=h') (by rw[hd];exact trivial) (.inl rfl) (fun b q hb z=>(hs2.2 b hb).trans z) ⟨_,hoD⟩ (x4s hn2 (fun g=>?_) fun g hg=>?_)))
 ·show RelO ((putF f y fs).lookup g) (if g=f then some u else mA g);rw[q2r];by_cases q:g=f
  ·rw[if_pos q,if_pos q];exact ry
  ·grind
 ·by_cases q:g=f
  ·rw[q];exact(q3c f y fs).1
  ·refine(q3c f y fs).2 g (wi g fun z=>hg ?_);rw[if_neg q];exact z
theorem z8g(I:Inv X pins σ H s)(hE:H x=some (ExN (.ref C) none x))(S:ESet X.K C f)(ry:RelV y u)(h:∀d s',H d=none->d≠x->Inv X pins σ (upd (upd (upd H d (XdO d [])) x (ExN (.ref C) (some d) x)) d (XdO d [(f,y)])) s'->Q () s'):wpAny (model X.prog X.w) A (Wn (.ref x) f u) Q E s:=by
 obtain⟨⟨vs,sl,q1,q2,q3⟩,_,_⟩:=I.hok x _ hE;have J:Pm s.heap x { cls:=.ref C,dict:=none,data:=.fields vs,slots:=sl } C none:=⟨q1,rfl,rfl,trivial⟩
 refine Vc I.kIn J S.sa (z0r I.kIn J S ?_);obtain⟨cd,hc,_,hd'⟩:=S.cls;refine Ab (Ad (Ab (Ab (Rf q1 (Ab (To (Ol I.kIn hc) ?_))))));rw[hd'];have hxlt:=Al q1;have hfresh:=I.hok.fresh (Aj s.heap.objs.size);have hne:=Dk hxlt;have e1:(s.heap.push Dp).get? s.heap.objs.size=some Dp:=Ak s.heap rfl;have e3:(s.heap.push Dp).Ns s.heap.objs.size (fun _=>none):=⟨Dp,#[],_,e1,rfl,(fun e he=>absurd he (by simp)),fun _=>rfl⟩
 have I1:=I.laid (o:=XdO s.heap.objs.size []) (h':=s.heap.push Dp) (t':=s.toks+1) (fun b u q=>Ae _ q) (Aj _) (x4s (Ui e3) (fun _=>True.intro) fun y hy=>absurd rfl hy);have q1':=Ae Dp q1;have hrec:=Es (fun o:Obj=>{ o with dict:=some s.heap.objs.size }) q1' rfl;have hE1:upd H s.heap.objs.size (XdO s.heap.objs.size []) x=some (ExN (.ref C) none x):=by rw[q0f (Ca hne)];exact hE
 have I2:=I1.write (t':=s.toks+1) (h':=(s.heap.push Dp).update x (fun o:Obj=>{ o with dict:=some s.heap.objs.size })) (by rw[hE1];exact trivial) (.inl rfl)
  (fun b u hb hu=>by rw[Cb _ _ (Ca hb)];exact hu) ⟨_,hrec⟩ (exn_ok hrec q2 q3)
 have hd2:upd (upd H s.heap.objs.size (XdO s.heap.objs.size [])) x (ExN (.ref C) (some s.heap.objs.size) x) s.heap.objs.size=some (XdO s.heap.objs.size []):=by rw[q0f hne,q0c]
 obtain⟨⟨mA,n,r,wi⟩,⟨od,hod⟩,_⟩:=I2.hok _ _ hd2;refine Ab (wpAny_alloc (Ab (wpAny_update q1' ?_)));refine Ad (Ab (Ad (Ab ?_)));refine Tp n fun h' hn2 hs2=>?_
 obtain⟨oD,esD,epD,hoD,hdD,hcD⟩:=hn2.count (Ov f u wi);refine Ab (Pn hoD (by rw[hdD];exact Po (Bb hcD (by rw[Bf,Ag,Fe];decide))) ?_);refine Ad (h s.heap.objs.size _ hfresh hne (I2.write (t':=s.toks+1+1) (h':=h') (by rw[hd2];exact trivial) (.inl rfl) (fun b q hb z=>(hs2.2 b hb).trans z) ⟨_,hoD⟩ (x4s hn2 (fun g=>?_) fun g hg=>?_)))
 ·have e:(putF f y []).lookup g=if g=f then some y else List.lookup g []:=q2r f g y []
  show RelO ((putF f y []).lookup g) (if g=f then some u else mA g);rw[e];by_cases q:g=f
  ·rw[if_pos q,if_pos q];exact ry
  ·grind
 ·by_cases q:g=f
  ·grind
  ·exfalso;have:=wi g fun z=>hg (by show(if g=f then some u else mA g)=none;rw[if_neg q];exact z);cases this
end
open PySem PySem.Spec PyProof.Rows
structure EGet (K:Ah) (C:Addr) (f:Str):Prop where
 cls:∃cd,Wo K C=some cd/\ExMro cd.mro/\cd.hasDict=true
 ga:Bv K (.ref C) "__getattribute__" = some (some (.builtin "BaseException.__getattribute__"))
 gh:Bv K (.ref C) "__getattr__" = some none
 tk:Bv K (.ref C) f=some none
theorem x4t(h:ExMro l):l.contains (.type "BaseException")=true:=by
 obtain⟨rs,rfl⟩:=h;induction rs with
 |nil=>decide
 |cons c r ih=>show(Value.ref c::(r.map Value.ref++bmV)).contains _=true;rw[Kv,ih,Ue]
section
variable{prog:Program}{w:World}{A:Around}{E:Value->Af->Prop}{s:Af}{K:Ah}{x C:Addr}{ox:Obj}{od:Option Obj}{name:Str}{expr:Bool}{v:Value}{Q:Value->Af->Prop}
theorem getE(X:K.In s.heap)(I:Pm s.heap x ox C od)(G:EGet K C name)(hf:W.findObj K C od name=some (.value v))(hh:Vv v=true)(h:Q v { s with toks:=s.toks+1 }):
  wpAny (model prog w) A (Wm (.ref x) name expr) Q E s:=by
 obtain⟨hp,g,d,t,os⟩:=s;have L0:=I.type (M:=model prog w);have L1:=Nk (M:=model prog w) X G.ga;have L2:=Nk (M:=model prog w) X G.gh;have L3:=W.looks_find (M:=model prog w) X I hf;have SG:=PySem.F.excAttr_ValueError.ga;obtain⟨cd,hc,ho,_⟩:=G.cls;have sub:W.Looks (model prog w) hp (isInstance (.ref x) (.type "BaseException")) true:=I.type.andThen (W.looks_mroIn X (by unfold W.mroIn;rw[hc,Vr,if_neg (by rw[(z8e ho).2];decide),x4t ho]));have hk:builtinKind "BaseException.__getattribute__" = some .slot:=by decide +kernel
 have hsplit:splitId "BaseException.__getattribute__" = some ("BaseException", "__getattribute__"):=by decide +kernel
 refine Ab (wpAny_mkText (Cm (Ab (L0.at (Ab (L1.at ?_))))));refine Ab (show wpAny _ _ (Pf (.ref C) "__getattr__") _ _ _ from L2.at ?_);have hx0:(expr&&onTheHeap (Value.builtin "BaseException.__getattribute__"))=false:=by cases expr<;>rfl
 unfold callGetattribute boundAndCalled;rw[hx0];refine Ab (Eg (Cm (show wpAny _ _ (bindSpecial _ _ >>= _) _ _ _ from ?_)));refine Ab (Ad (Jg (Hn SG.plain PySem.F.entry_bexc_ga (@W.check_slot (model prog w) _ _ _ "BaseException.__getattribute__" "BaseException" "__getattribute__" (.ref x) [.str name t] [] _ hk hsplit sub (PySem.F.args_bexc_ga (.ref x) (.str name t)) ?_))));refine Ab (Ad (Ab (Ad (Ab (L0.at (Ab (L3.at ?_)))))));refine Ad ?_;show wpAny _ _ (handedOut v) _ _ _;rw[W.handedOut_of hh];exact Ad h
end
open PySem PySem.Spec PyProof.Rows
section
variable{X:Cx}{e o value:Expr}{f:Str}{pos pos':Pos}{ta tv:TE}
def tEfld(K:Ah)(ta:TE)(f:Str):TE:=fun σ H Q=>ta σ H fun x H1=>∃a C d fs v,x=.ref a/\(H1 a=some (ExO (.ref C) (some d) a)\/H1 a=some (ExN (.ref C) (some d) a))/\H1 d=some (XdO d fs)/\EGet K C f/\fs.lookup f=some v/\Q v H1
theorem x2w(K:Ah)(hK:X.K=K)(he:PE X e ta)(hb:Gi e f X.env (eval e X.env)=eval e X.env:=by rfl):PE X (.Attribute e f pos) (tEfld K ta f):=by
 subst hK;intro pins s σ H Q I h;refine z6e hb (thn (he pins s σ H _ I h) fun u s1 ⟨x,H1,I1,rx,a,C,d,fs,v,ex,ea,hd,G,l,q⟩=>?_);subst ex;obtain rfl:u=Value.ref a:=rx;obtain⟨⟨mA,n,r,wi⟩,_,_⟩:=I1.hok d _ hd;obtain⟨od,hod,hlk⟩:=q9j n;have hrec:∃vs sl,s1.heap.get? a=some { cls:=.ref C,dict:=some d,data:=.fields vs,slots:=sl }:=by
  rcases ea with ea|ea
  ·obtain⟨⟨vs,sl,q1,_⟩,_,_⟩:=I1.hok a _ ea;exact⟨vs,sl,q1⟩
  ·obtain⟨⟨vs,sl,q1,_⟩,_,_⟩:=I1.hok a _ ea;exact⟨vs,sl,q1⟩
 obtain⟨vs,sl,q1⟩:=hrec;have J:Pm s1.heap a { cls:=.ref C,dict:=some d,data:=.fields vs,slots:=sl } C (some od):=⟨q1,rfl,rfl,hod⟩
 have hr:=r f;rw[l] at hr;cases hm:mA f with
 |none=>rw[hm] at hr;exact hr.elim
 |some u =>
  rw[hm] at hr;have ru:=hr;have hh:Ln X.K C=true:=by
   obtain⟨cd,hc,_,hd'⟩:=G.cls;unfold Ln;rw[hc];exact hd'
  exact getE I1.kIn J G (W.findObj_own hh G.tk rfl (by rw[hlk,hm])) (q9k ru) ⟨v,H1,I1.tok _,ru,q⟩
def sEfld(K:Ah)(ta tv:TE)(f:Str):TS:=fun D σ H=>tv σ H fun y H1=>ta σ H1 fun x H2=>∃a C,x=.ref a/\ESet K C f /\
 ((H2 a=some (ExN (.ref C) none a)/\∀d,H2 d=none->d≠a->D.nx σ (upd (upd (upd H2 d (XdO d [])) a (ExN (.ref C) (some d) a)) d (XdO d [(f,y)]))) \/
  ∃d fs,H2 a=some (ExN (.ref C) (some d) a)/\H2 d=some (XdO d fs)/\fs.length<1000/\D.nx σ (upd H2 d (XdO d (putF f y fs))))
theorem x2x(K:Ah)(hK:X.K=K)(ha:PE X o ta)(hv:PE X value tv)(hs:Ii value (some (.Attribute o f pos')) pos.line X.env=pure false:=by rfl):PS X (.Assign [.Attribute o f pos'] value pos) (sEfld K ta tv f):=by
 subst hK;intro pins s σ H D I h;refine Mi (thn (hv pins s σ H _ I h) fun u s1 ⟨y,H1,I1,ry,q⟩=>thn (ha pins s1 σ H1 _ I1 q) fun ov s2 ⟨x,H2,I2,rx,a,C,ex,S,q2⟩=>?_) hs;subst ex;obtain rfl:ov=Value.ref a:=rx;rcases q2 with⟨hE,q2⟩|⟨d,fs,hE,hd,hl,q2⟩
 ·exact z8g I2 hE S ry fun d s3 hn hne I3=>⟨σ,_,I3,q2 d hn hne⟩
 ·exact z8f I2 hE hd S hl ry fun s3 I3=>⟨σ,_,I3,q2⟩
end
open PySem PySem.Spec PyProof.Rows
def strKey(e:Kg):Bool:=match e.key with|.str _ _=>true|_=>false
def isNsK(K:Ah)(N:Addr):Bool:=match K.lookup N with|some ⟨_,_,.dict es _,_⟩=>es.toList.all strKey|_=>false
def nsMapK(K:Ah)(N:Addr)(name:Str):Option Value:=match K.lookup N with|some ⟨_,_,.dict es _,_⟩=>nsFind es name|_=>none
theorem ns_K{K:Ah}(e:isNsK K N=true)(h:Heap)(X:K.In h):h.Ns N (nsMapK K N):=by
 unfold isNsK at e;split at e
 ·rename_i c d es ep sl q;refine⟨_,es,ep,X _ _ q,rfl,fun x hx=>?_,fun name=>?_⟩
  ·have hx':=Lz.mp e x (Ry.mpr hx);unfold strKey at hx';split at hx'
   ·grind
   ·cases hx'
  ·unfold nsMapK;rw[q]
 ·cases e
theorem z2k{K:Ah}(e:Hz K N name=some (some v)):nsMapK K N name=some v:=by
 unfold Hz at e;unfold nsMapK;split at e
 ·rename_i c d es ep sl q;rw[q];dsimp only;split at e
  ·rename_i x hx;unfold nsFind findBy;rw[<- Nv,hx];exact Bs e
  ·split at e<;>cases e
 ·cases e
theorem z2l{K:Ah}(e:Hz K N name=some none):nsMapK K N name=none:=by
 unfold Hz at e;unfold nsMapK;split at e
 ·rename_i c d es ep sl q;rw[q];dsimp only;split at e
  ·cases e
  ·rename_i hx;unfold nsFind findBy;rw[<- Nv,hx];rfl
 ·cases e
theorem z3w{K:Ah}(l:K.lookup N=some ⟨oc,od,.dict es ep,sl⟩)(h:es.toList.all strKey=true):isNsK K N=true:=by
 unfold isNsK;rw[l];exact h
structure EBase (K:Ah) (D:Addr):Prop where
 ex:∃nm q N bs sn sub ab col dd k0 k1 k2 k3 k5,K.lookup D=some (Dy nm q D N bs bmV true sn sub ab col dd k0 k1 k2 k3 k5 "ValueError.__new__")/\isNsK K N=true/\Hz K N "__init__" = some none
theorem EBase.tail{K:Ah}(B:EBase K D)(h:Heap)(X:K.In h):Rr h bmV (.ref D::bmV):=by
 obtain⟨nm,q,N,bs,sn,sub,ab,col,dd,k0,k1,k2,k3,k5,lk,hn,hi⟩:=B.ex;exact .own (X _ _ lk) (ns_K hn h X) (z2l hi) .base
structure ELaw (K:Ah) (C D fI:Addr):Prop where
 ex:∃nm q N bs sn sub ab col dd k0 k1 k2 k3 k5,K.lookup C=some (Dy nm q C N bs (.ref D::bmV) true sn sub ab col dd k0 k1 k2 k3 k5 "ValueError.__new__")/\isNsK K N=true/\Hz K N "__init__" = some (some (.ref fI))
 fn:∃oI,K.lookup fI=some oI/\oI.cls=.type "function"
 kp:Fh K (.ref C)=true
section
variable{K:Ah}{C D fI:Addr}
theorem ELaw.mk_(L:ELaw K C D fI)(B:EBase K D):EMk K C fI (.ref D::bmV):=by
 obtain⟨nm,q,N,bs,sn,sub,ab,col,dd,k0,k1,k2,k3,k5,lk,hn,hi⟩:=L.ex;exact⟨⟨nm,q,N,bs,true,sn,sub,ab,col,dd,k0,k1,k2,k3,k5,nsMapK K N,lk,ns_K hn,z2k hi⟩,fun h X=>B.tail h X,L.fn,L.kp⟩
theorem ELaw.cls(L:ELaw K C D fI):ECls K C (.ref D::bmV):=by
 obtain⟨nm,q,N,bs,sn,sub,ab,col,dd,k0,k1,k2,k3,k5,lk,_⟩:=L.ex;exact⟨⟨nm,q,N,bs,true,sn,sub,ab,col,dd,k0,k1,k2,k3,k5,_,lk⟩,by rw[Kv,show bmV.contains (.type "BaseException")=true from by decide,Ue]⟩
theorem ELaw.clsIn(L:ELaw K C D fI):∃cd,Wo K C=some cd/\ExMro cd.mro/\cd.hasDict=true:=by
 obtain⟨nm,q,N,bs,sn,sub,ab,col,dd,k0,k1,k2,k3,k5,lk,_⟩:=L.ex;unfold Wo;rw[lk];exact⟨_,rfl,⟨[C,D],rfl⟩,rfl⟩
theorem ELaw.set(L:ELaw K C D fI)(sa:Bv K (.ref C) "__setattr__" = some (some (.builtin "object.__setattr__")))(tk:Bv K (.ref C) f=some none):ESet K C f:=⟨L.clsIn,sa,tk⟩
theorem ELaw.get(L:ELaw K C D fI)(ga:Bv K (.ref C) "__getattribute__" = some (some (.builtin "BaseException.__getattribute__")))(gh:Bv K (.ref C) "__getattr__" = some none)(tk:Bv K (.ref C) f=some none):EGet K C f:=⟨L.clsIn,ga,gh,tk⟩
end
open PySem PySem.Spec PyProof.Rows
structure CalE (P:Program) (w:World) (K:Ah) (mg:Str->Option Value) (base:Heap) (x:Str) (C:Addr) (k:Nat) (ps:List Str) (sp:Sp):Prop where
 ex:∃fI fd bm,EMk K C fI bm/\FnOk P w K mg base CX0 k fI fd ps sp/\Binds K fd ps []
 at_:mg x=some (.ref C)
 sz:ps.length<=100
section
variable{X:Cx}{J:Addr->St->Hp->Prop}{k j:Nat}{C:Addr}{ps:List Str}{sp:Sp}{x:Str}{np cpos pos:Pos}{e₀:Expr}{es:List Expr}{t:TA}
theorem ps_rs(F:CalE X.prog X.w X.K X.mg X.base x C k ps sp)(hr:Room j X.A)(hx:AccX X J)(hc:X.calm=true)(ha:PA X (e₀::es) t)(hjk:k+1<=j:=by decide)(hg:Gl X x:=by rfl)(hdb:(x==("__debug__" : Str))=false:=by decide)(he:Ax (e₀::es) X.env=(false,eval e₀ X.env)::Ax es X.env:=by rfl)(hpl:(Em cpos (Ax es X.env)).any (·.1)=false:=by rfl):
  PS X (.Raise (some (.Call (.Name x np) (e₀::es) [] cpos)) none pos) (tRaise C sp J t):=by
 obtain⟨fI,fd,bm,M,Fn,hb⟩:=F.ex;exact x0z M Fn (hr.mono hjk) hb hx hc hg F.at_ ha F.sz hdb he hpl
end
structure Ef (K:Ah) (mg:Str->Option Value) (x:Str) (C D:Addr) (qual:Str) (st:Stmt) (ps:List Str):Prop where
 ex:∃f fd mc,Fun K "__init__" qual st f fd/\ELaw K C D f/\EBase K D/\EIni K D mc/\Binds K fd ps []
 at_:mg x=some (.ref C)
theorem Ef.cal{K:Ah}{st:Stmt}(F:Ef K mg x C D qual st ps)(S:FnScope N ps (defScope st))(len:∀vs H Q E,sp vs H Q E->vs.length=ps.length)(hsz:ps.length<=100)(hbody:∀(mc:Value) (f:Addr) (cdv:Value) (A:Around) (outer:List Env) (s:Af) (H:Hp) (vs:List V) (Q:VK) (E:XK),ELow K C (.ref D::bmV)->EIni K D mc->Room k (A.deeper (Gp qual (defScope st) s.heap.objs.size f cdv))->sp vs H Q E ->
   ∃t,PSs (cxOf CX0 P w K mg base N qual (defScope st) f cdv A outer s H E).nox (defBody st) t/\t { nx:=fun _ H'=>Q .non H',rt:=Q } (start N vs) H):CalE P w K mg base x C (k+1) ps sp:=by
 obtain⟨f,fd,mc,Fn,L,B,I,hb⟩:=F.ex;exact⟨⟨f,fd,_,L.mk_ B,Fn.ok S len fun cdv A outer s H vs Q E hr h=>hbody mc f cdv A outer s H vs Q E (L.mk_ B).low I hr h,hb⟩,F.at_,hsz⟩
open PySem PySem.Spec PyProof.Rows
abbrev TF:=St->Hp->(Str->Hp->Prop)->Prop
def PF1(X:Cx)(e:Expr)(t:TF):Prop:=∀(pins:List (Addr×Obj)) (s:Af) (σ:St) (H:Hp) (R:Str->Hp->Prop),Inv X pins σ H s->t σ H R ->
 wpAny (model X.prog X.w) X.A (eval e X.env) (fun v s1=>∃y k H1,v=.str y k/\Inv X pins σ H1 s1/\R y H1) X.xe s
def PFs(X:Cx):List Expr->List TF->Prop
 |[],[]=>True
 |e::es,t::ts=>PF1 X e t/\PFs X es ts
 |_,_=>False
def tFs:List TF->Str->St->Hp->VK->Prop
 |[],acc,_,H,Q=>acc.length<=sizeLine/\Q (.str acc) H
 |t::ts,acc,σ,H,Q=>t σ H fun y H1=>(acc++y).length<=sizeLine/\tFs ts (acc++y) σ H1 Q
section
variable{X:Cx}
theorem x1a{σ:St}:∀{ts:List TF} {es:List Expr} {acc:Str} {H:Hp} {s:Af},PFs X es ts->Inv X pins σ H s->tFs ts acc σ H Q ->
  Joins (model X.prog X.w) X.A X.xe (evalEach es X.env) acc (fun out s₁=>out.length<=sizeLine/\EP X pins σ Q (.str out s₁.toks) { s₁ with toks:=s₁.toks+1 }) s:=by
 intro ts;induction ts with
 |nil =>
  intro es acc H s hp I h;cases es with
  |nil=>exact⟨h.1,.str acc,H,I.tok _,⟨_,rfl⟩,h.2⟩
  |cons e es=>exact False.elim hp
 |cons t ts ih =>
  intro es acc H s hp I h;cases es with
  |nil=>exact False.elim hp
  |cons e es =>
   refine Bx (hp.1 pins s σ H _ I h) (fun v s1 z=>?_) fun _ _ z=>z;obtain⟨y,k,H1,ev,I1,hz,q⟩:=z;exact⟨y,k,ev,hz,ih hp.2 I1 q⟩
theorem x4u{v₁ v₂:Expr}{rest:List Expr}{pos:Pos}{t₁ t₂:TF}{ts:List TF}(h1:PF1 X v₁ t₁)(h2:PF1 X v₂ t₂)(h3:PFs X rest ts):PE X (.JoinedStr (v₁::v₂::rest) pos) (fun σ H Q=>tFs (t₁::t₂::ts) Tq σ H Q):=by
 intro pins s σ H Q I h;exact wpAny_JoinedStr (x1a (ts:=t₁::t₂::ts) ⟨h1,h2,h3⟩ I h)
theorem x4v:PFs X [] []:=trivial
theorem z3x{e:Expr}{es:List Expr}{t:TF}{ts:List TF}(h:PF1 X e t)(r:PFs X es ts):PFs X (e::es) (t::ts):=⟨h,r⟩
theorem x2y:PF1 X (.Constant (.str c) k pos) (fun _ H R=>R c H):=by
 intro pins s σ H R I h;exact thn (q0i pins s σ H (fun v H1=>∃y,v=.str y/\R y H1) I ⟨c,rfl,h⟩) fun u s1 ⟨v,H1,I1,rv,y,ev,q⟩=>by
  subst ev;obtain⟨t,rfl⟩:=rv;exact⟨y,t,H1,rfl,I1,q⟩
end
open PySem PySem.Spec PyProof.Rows
structure MCalX (P:Program) (w:World) (K:Ah) (mg:Str->Option Value) (base:Heap) (C:Addr) (m:Str) (k:Nat) (ps:List Str) (sp:Sp):Prop where
 ex:∃f fd,FnOk P w K mg base (CXR P w) k f fd ps sp/\Meth K C m f/\Binds K fd ps []
 cl:Cls K C
structure KCalX (P:Program) (w:World) (K:Ah) (mg:Str->Option Value) (base:Heap) (C:Addr) (x:Str) (k:Nat) (ps:List Str) (sp:Sp):Prop where
 ex:∃f fd,FnOk P w K mg base (CXR P w) k f fd ps sp/\Mk K C f/\Binds K fd ps []/\Binds K fd ps [.bool false]
 at_:mg x=some (.ref C)
 cl:Cls K C
theorem z8h{K:Ah}{H:Hp}:∀xs:List Str,Dts K H (xs.map V.str) (xs.map PyData.str)
 |[]=>.nil
 |x::xs=>.cons (.str x) (z8h xs)
theorem z8i:∀xs:List Str,Og (xs.map PyData.str)=true
 |[]=>rfl
 |x::xs=>by
  rw[An];unfold Og PyData.showable;rw[z8i xs];rfl
theorem z8j:∀xs:List Str,Va (xs.map PyData.str)=false
 |[]=>rfl
 |x::xs=>by
  rw[An];unfold Va PyData.hasDict;rw[z8j xs];rfl
theorem z8k:∀xs:List Str,Fl (xs.map PyData.str)<=2
 |[]=>by simp[Fl]
 |x::xs=>by
  have:=z8k xs;rw[An];simp only[Fl,Nd];lia
theorem z0s:∀xs:List Str,(∀x∈xs,x.length<=100/\∀c∈x.cps.toList,c<16^8)->piled (Kb (xs.map PyData.str))<=1004*xs.length
 |[],_=>by simp[Kb,piled]
 |x::xs,h=>by
  have ih:=z0s xs fun y hy=>h y (Ao _ hy);obtain⟨h1,h2⟩:=h x As;have h3:=StrLaws.reprText_len x h2;rw[An];unfold Kb;rw[piled_cons,Bf];show(reprText x).length+2+_<=_;lia
theorem q6l(x y:Str):(x++y).length=x.length+y.length:=TX.app_len x y
theorem q8q:(tupleText ts).length<=piled ts+10:=by
 unfold tupleText;rw[q6l,q6l];have h1:(Ac "(").length=1:=by decide +kernel
 have h2:(Sf ", " ts).length<=piled ts:=by
  cases ts with
  |nil=>show(Sf ", " []).length<=_;decide +kernel
  |cons t ts=>have:=join_length_add (t::ts) (by simp);lia
 have h3:∀b:Bool,(Ac (if b=true then ",)" else ")" : String)).length<=2:=by intro b;cases b<;>decide +kernel
 have h4:=h3 (ts.length==1);lia
section
variable{X:Cx}{k:Nat}
def tFt(K:Ah)(te:TE):TF:=fun σ H R=>te σ H fun v H1=>∃(a:Addr) (xs:List Str),v=.ref a/\SqT K H1 a (xs.map V.str)/\xs.length<=100/\(∀x∈xs,x.length<=100/\∀c∈x.cps.toList,c<16^8)/\∀y:Str,y.length<=200000->R y H1
theorem x2z(K:Ah)(hK:X.K=K)(hr:Room k X.A)(he:PE X e te):PF1 X (.FormattedValue e (-1) none pos) (tFt K te):=by
 subst hK;intro pins s σ H R I h;refine FormattedValue_plain (thn (he pins s σ H _ I h) fun u s1 ⟨v,H1,I1,rv,a,xs,ev,ha,hl,hx,q⟩=>?_);subst ev;obtain rfl:u=Value.ref a:=rv;obtain⟨as,rd⟩:=Dt.reads I1 (.tup ha (z8h xs)) (show RelV (.ref a) (.ref a) from rfl);have hu:=hr.un;have hd:(PyData.tuple (xs.map PyData.str)).depth<=3:=by
  have:=z8k xs;simp only[Nd];lia
 have hz:(PyData.tuple (xs.map PyData.str)).shown.length<=200000:=by
  show(tupleText (Kb (xs.map PyData.str))).length<=_;have h1:=q8q (ts:=Kb (xs.map PyData.str));have h2:=z0s xs hx;lia
 refine formatField_of_reads rd (show Og _=true from z8i xs) (fun z=>?_) hr.gd (by lia) (fun b o h=>h) (fun h' u tk hk=>⟨_,u,H1,rfl,I1.kept hk,q _ hz⟩) (Bb hz (TX.small (by lia)));rw[show(PyData.tuple (xs.map PyData.str)).hasDict=false from z8j xs] at z;cases z
end
open PySem PySem.Spec PyProof.Rows
section
variable{M:Model}{A:Around}{E:Value->Af->Prop}{h:Heap}{g:Array Sj}{d:Drawn}{t:Nat}{os:La}
def HCls(h:Heap)(C:Addr)(bm:List Value):Prop:=∃nm q N bs hdct sn sub ab col dd k0 k1 k2 k3 k5 newId,h.get? C=some (Dy nm q C N bs bm hdct sn sub ab col dd k0 k1 k2 k3 k5 newId)
set_option maxHeartbeats 4000000 in
end
section
variable{X:Cx}{pins:List (Addr×Obj)}{σ:St}{H:Hp}{s:Af}
def Lnd(h:Heap)(ea:Addr):Prop:=∃oe vs T,h.get? ea=some oe/\oe.data=.fields vs/\TbAt h ea vs T .none
end
end L2
namespace HD
open PySem PySem.W PyProof.Rows
theorem end0:(∃f,endAt 0 t=some f)/\through t=true\/endAt 0 t=none/\through t=false:=by
 unfold endAt through;obtain⟨cur,code,pos,stack⟩:=t;cases stack with
 |cons a r=>exact .inr ⟨by cases cur<;>rfl,rfl⟩
 |nil =>
  cases cur with
  |pure f =>
   cases f with
   |done f=>simp_all
   |_=>simp_all
  |_=>exact .inr ⟨rfl,rfl⟩
theorem z3y{tb:String->Option Cv}{p:Program}{w:World}{n₀:Nat}{ann:Option Value}:∀{n:Nat} {s s':Af} {t:Thread} {f:Flow} {c:Code} {q:Pos},segRun tb p w n₀ ann 0 n s t=some (f,s',c,q)->topRun tb p w n₀ ann n s t=some s'
 |0,_,_,_,_,_,_,h=>by cases h
 |n+1,s,s',t,f,c,q,h=>by
  unfold segRun at h;unfold topRun;rcases end0 (t:=t) with⟨⟨f',e⟩,th⟩|⟨e,th⟩
  ·rw[e] at h;rw[th];cases h;rfl
  ·rw[e] at h;rw[th];dsimp only at h ⊢;cases ok:stepOk n₀ ann t with
   |false=>rw[ok] at h;cases h
   |true =>
    rw[ok] at h;dsimp only at h ⊢;cases st:step (denote tb) p w s t with
    |go s1 t1=>rw[st] at h;exact z3y h
    |halt _ _=>rw[st] at h;cases h
def mkT(l:List Obj):BT:=(l.foldl (fun(a:BT×Nat) o=>(a.1.ins a.2 o,a.2+1)) (BT.nil,0)).1
noncomputable def bootT (P:Params) (os:La):SharedT:=⟨mkT (boot_heap P).objs.toList,11,(boot_heap P).life,#[],boot_drawn,boot_toks,os⟩
theorem x1b(P:Params)(os:La):(bootT P os).abs=⟨boot_heap P,#[],boot_drawn,boot_toks,os⟩:=by kernel_rfl
theorem z8l(P:Params):((boot_heap P).isNs Cj&&(#[]:Array Sj).size==0,(boot_heap P).objs.size,(boot_heap P).nsMap Cj "__annotations__")=(true,11,some (.ref 6)):=by kernel_rfl
theorem left{Yf:Af->α}{Ya:World->α}(e:opening p=plainProg p.main.scope.names)(hN:Nat.ble 600 N=true)(f:∀s,fenceModules? p s=some s)(h:∀(w:World) (os:La),(segRunT Oh p w 11 (some (.ref 6)) 0 N (bootT w.params os) (topStub p)).map (fun r=>((staticsOk (Fm p.main.body) (boot_heap w.params) r.2.1.abs.heap&&namesBound p r.2.1.abs.heap&&gensDone r.2.1.abs&&laidKept (boot_heap w.params) r.2.1.abs.heap),
   openSeen q loose (Fm p.main.body) Xt true r.2.1.abs,Yf r.2.1.abs))=some (true,openGood q loose,Ya w)):LeftO p q loose Xt Yf Ya N:=fun w=>by
 obtain⟨⟨hp,gs,d,k,os⟩,e1,e2⟩:=Dc.mp (boot_open e hN f w);obtain⟨rfl,rfl,rfl,rfl⟩:hp=boot_heap w.params/\gs=#[]/\d=boot_drawn/\k=boot_toks:=by simpa using e2
 obtain⟨z1,z2,z3⟩:_/\_/\_:=by simpa only[Prod.mk.injEq] using z8l w.params
 obtain⟨⟨fl,st,c,ps⟩,r1,r2⟩:=Dc.mp (h w os);obtain⟨l1,l2,l3⟩:_/\_/\_:=by simpa only[Prod.mk.injEq] using r2
 have r:=z3y (segRun_of r1);rw[x1b] at r;have t:topFrom Oh p w N ⟨boot_heap w.params,#[],boot_drawn,boot_toks,os⟩=some st.abs:=by
  unfold topFrom;rw[z1,z2,z3,r];show(match staticsOk (Fm p.main.body) (boot_heap w.params) st.abs.heap&&namesBound p st.abs.heap&&gensDone st.abs&&laidKept (boot_heap w.params) st.abs.heap with|true=>_|false=>_)=_;rw[l1]
 unfold openEnds;rw[e1];show(topFrom Oh p w N _).map _=_;rw[t];exact congrArg some (Pu l2 l3)
theorem left2(row:String){Yf:Af->α}{Ya:World->α}(e:opening p=plainProg p.main.scope.names)(hN:Nat.ble 600 N=true)(f:∀s,fenceModules? p s=some s)(h:∀(b:Bool) (w:World) (os:La),(segRunT Oh p (w.withFollow row b) 11 (some (.ref 6)) 0 N (bootT (w.withFollow row b).params os) (topStub p)).map (fun r=>((staticsOk (Fm p.main.body) (boot_heap (w.withFollow row b).params) r.2.1.abs.heap&&namesBound p r.2.1.abs.heap&&gensDone r.2.1.abs&&laidKept (boot_heap (w.withFollow row b).params) r.2.1.abs.heap),
   openSeen q loose (Fm p.main.body) Xt true r.2.1.abs,Yf r.2.1.abs))=some (true,openGood q loose,Ya (w.withFollow row b))):LeftO p q loose Xt Yf Ya N :=
 left e hN f fun w os=>by
  have:=h (w.params.followText row) w os
  rwa [World.withFollow_self w row] at this
end HD
set_option maxHeartbeats 4000000
namespace K
open PySem L2 TX
def top(i:Nat):Stmt:=PySem.Challenge.pw_renamehall_k39_whole_rules_put.main.body.getD i (.Pass ⟨0,0,0,0⟩)
structure Txt (mg:Str->Option Value):Prop where
 b_all:mg "all" = none
 b_dict:mg "dict" = none
 b_enumerate:mg "enumerate" = none
 b_int:mg "int" = none
 b_isinstance:mg "isinstance" = none
 b_len:mg "len" = none
 b_list:mg "list" = none
 b_max:mg "max" = none
 b_min:mg "min" = none
 b_range:mg "range" = none
 b_reversed:mg "reversed" = none
 b_sorted:mg "sorted" = none
 b_str:mg "str" = none
 b_tuple:mg "tuple" = none
 b_zip:mg "zip" = none
 NAME_SIGNS:∃t,mg "NAME_SIGNS" = some (.str (Ac "abcdefghijklmnopqrstuvwxyzABCDEFGHIJKLMNOPQRSTUVWXYZ0123456789-_.") t)
 GAP_SIGNS:∃t,mg "GAP_SIGNS" = some (.str (Ac "?*#@") t)
 MOST_GAPS:∃t,mg "MOST_GAPS" = some (.int 9 t)
 FIGURES:∃t,mg "FIGURES" = some (.str (Ac "0123456789") t)
 LETTERS:∃t,mg "LETTERS" = some (.str (Ac "abcdefghijklmnopqrstuvwxyzABCDEFGHIJKLMNOPQRSTUVWXYZ") t)
 FROM_ONE:∃t,mg "FROM_ONE" = some (.str (Ac "123456789") t)
 FROM_TWO:∃t,mg "FROM_TWO" = some (.str (Ac "23456789") t)
 MOST_FIGURES:∃t,mg "MOST_FIGURES" = some (.int 9 t)
 MOST_SIGNS:∃t,mg "MOST_SIGNS" = some (.int 12 t)
 MOST_NAMES:∃t,mg "MOST_NAMES" = some (.int 6 t)
 MOST_START:∃t,mg "MOST_START" = some (.int 1000000000 t)
structure Calls (P:Program) (w:World) (K:Ah) (mg:Str->Option Value) (base:Heap):Prop where
 draw:Cal P w K mg base "_law_draw" 1 ["_law_feed", "_law_many"] spDraw
section
variable{P:Program}{w:World}{K:Ah}{mg:Str->Option Value}{base:Heap}
abbrev z2m:Stmt:=top 67
theorem sc_draw:FnScope ["_law_feed", "_law_many", "_law_cell", "_law_number", "_law_found"] ["_law_feed", "_law_many"] (defScope z2m):=by trivial
theorem x4w (D : Df K mg "_law_draw" z2m ["_law_feed", "_law_many"]) (T : Txt mg) : Cal P w K mg base "_law_draw" 1 ["_law_feed", "_law_many"] spDraw := by
  refine D.cal sc_draw (fun vs H Q E h => ?_) (fun f cdv A outer s H vs Q E hr h => ?_)
  · obtain ⟨a, b, m, rfl, _⟩ := h; rfl
  · obtain ⟨a, b, m, rfl, ⟨⟨i, j, ha⟩, ns, hb⟩, hm0, hm1, k⟩ := h;refine ⟨_, (q0b (q7d (q0s q0m (q0v (ix_k K rfl) (pv 0) q0g (fun _ _ => rfl)) q0g) (z5u (pv 0) q0g q5l)) (q0b (q0t (q0h (eq_k K rfl hr) (q0v (ix_k K rfl) (pv 0) q0g (fun _ _ => rfl)) q0g (nomark _)) (q0b (q0l (i := 2) sc_draw.nd rfl (by first | exact Or.inl rfl | exact Or.inr rfl) (q0v (ix_k K rfl) (pv 0) q0g (fun _ _ => rfl))) (q0b (q0t (q0h q7w (q0p (q1z K rfl) (by rfl) T.b_len Br (q0a (q0v (ix_k K rfl) (pv 0) q0g (fun _ _ => rfl)) q0d)) q0g (nomark _)) (q0e (q0l (i := 2) sc_draw.nd rfl (by first | exact Or.inl rfl | exact Or.inr rfl) (q0v (ix_k K rfl) (q0v (ix_k K rfl) (pv 0) q0g (fun _ _ => rfl)) (q0s q7e (q0v (ix_k K rfl) (pv 0) q0g (fun _ _ => rfl)) (q0p (q1z K rfl) (by rfl) T.b_len Br (q0a (q0v (ix_k K rfl) (pv 0) q0g (fun _ _ => rfl)) q0d))) (fun _ _ => rfl)))) q0j) (q0b (q0t (q0h z4j (pv 2) (q0s x2c q0g q0g) (nomark _)) (q0b (q0l (i := 3) sc_draw.nd rfl (by first | exact Or.inl rfl | exact Or.inr rfl) (q0s q7e (q0s z1z (q0s q0m (q0s q0m (q0s q7e (pv 2) q0g) (q0s z1z q0g (q0v (ix_k K rfl) (pv 0) q0g (fun _ _ => rfl)))) q0g) q0g) q0g)) (q0b (q0l (i := 3) sc_draw.nd rfl (by first | exact Or.inl rfl | exact Or.inr rfl) (q0s q7e (q0s z1z (pv 3) (q0s q0m (pv 3) q0g)) q0g)) (q0e (q0k (q0s q7e (q0s z5z (pv 3) q0g) (pv 1)))))) q0j) (q0e (q7d (pv 2) (z5u (pv 0) q0g q5l)))))) q0j) (q0b (q0l (i := 4) sc_draw.nd rfl (by first | exact Or.inl rfl | exact Or.inr rfl) (q0s q7e (q0v (ix_k K rfl) (pv 0) q0g (fun _ _ => rfl)) (pv 1))) (q0b (q7d (q0s z5z (q0v (ix_k K rfl) (pv 0) q0g (fun _ _ => rfl)) (pv 1)) (z5u (pv 0) q0g q5l)) (q0e (q0k (pv 4))))))), ?_⟩;have nba : b ≠ a := FeedAt.ne ⟨⟨i, j, ha⟩, ns, hb⟩;refine ⟨_, rfl, .inl ⟨a, _, 1, _, rfl, rfl, SqL.of ha, rfl, .inl ⟨_, _, rfl, rfl, _, rfl, a, _, 1, 1, rfl, rfl, ha, rfl, ?_⟩⟩⟩;generalize hH1 : upd H a _ = H1;have ha1 : H1 a = some (.lst [.ref b, .int (i + 1), .int j]) := by rw [← hH1]; exact q0c
    have hb1 : H1 b = some (.lst (ns.map V.int)) := by rw [← hH1, q0f nba]; exact hb
    have fd : ∀ (x y : Int), Fd a b H (upd H1 a (.lst [.ref b, .int x, .int y])) := fun x y => ⟨⟨⟨x, y, q0c⟩, ns, by rw [q0f nba]; exact hb1⟩, fun c o e hc => by rw [q0f hc, ← hH1, q0f hc]; exact e⟩
    have fd1 : Fd a b H H1 := ⟨⟨⟨_, _, ha1⟩, ns, hb1⟩, fun c o e hc => by rw [← hH1, q0f hc]; exact e⟩
    refine ⟨_, rfl, .inl ⟨a, _, 2, _, rfl, rfl, SqL.of ha1, rfl, .inl ⟨rfl, _, rfl, ?_⟩⟩⟩;have last : ∀ (H2 : Hp) (σ2 : St) (y : Int), H2 a = some (.lst [.ref b, .int (i + 1), .int y]) → (∀ x y : Int, Fd a b H (upd H2 a (.lst [.ref b, .int x, .int y]))) → σ2[0]? = some (some (.ref a)) → σ2[1]? = some (some (.int m)) → σ2.length = 5 →
        tSeq (tAsg (tOp (rI (fun _ j => 0 < j) fun i j => .int (i % j)) (tOp (rIx K) (tVar 0) (tC (.int 2))) (tVar 1)) (gName 4)) (tSeq (tAsg (tOp (rI CDiv fun i j => .int (i / j)) (tOp (rIx K) (tVar 0) (tC (.int 2))) (tVar 1)) (gSub (tVar 0) (tC (.int 2)) rSetL)) (tRet (tVar 4))) { nx := fun _ H' => Q .non H', rt := Q } σ2 H2 := by
      intro H2 σ2 y h2 f2 e0 e1 el;match σ2, e0, e1, el with
      | [x0, x1, x2, x3, x4], e0, e1, _ =>
        cases e0;cases e1;refine ⟨_, rfl, .inl ⟨a, _, 2, _, rfl, rfl, SqL.of h2, rfl, _, rfl, _, _, rfl, rfl, hm0, ?_⟩⟩;refine ⟨_, rfl, .inl ⟨a, _, 2, _, rfl, rfl, SqL.of h2, rfl, _, rfl, _, _, rfl, rfl, ⟨hm0, hm1⟩, _, rfl, a, _, 2, 2, rfl, rfl, h2, rfl, _, rfl, ?_⟩⟩;exact k _ _ (Mx _ (by lia)) (Ko _ hm0) (f2 _ _)
    refine ite2 (fun _ => ?_) (fun _ => last H1 _ j ha1 fd rfl rfl rfl);refine ⟨_, rfl, .inl ⟨a, _, 1, _, rfl, rfl, SqL.of ha1, rfl, ?_⟩⟩;refine ⟨_, rfl, .inl ⟨a, _, 0, _, rfl, rfl, SqL.of ha1, rfl, ⟨_, _, rfl, .inl ⟨_, SqL.of hb1, rfl⟩, ⟨_, _, rfl, rfl, _, rfl, ?_⟩⟩⟩⟩
    have rest : ∀ cell : Int, tSeq (tIfS (tTest (tOp (rI0 fun i j => .bl (decide (i < j))) (tVar 2) (tOp (rI CPow fun i j => .int (i ^ j.toNat)) (tC (.int 10)) (tC (.int 18)))))
          (tSeq (tAsg (tOp (rI (fun _ j => 0 < j) fun i j => .int (i % j)) (tOp rMulU (tOp rAddU (tOp rAddU (tOp (rI (fun _ j => 0 < j) fun i j => .int (i % j)) (tVar 2) (tC (.int 2147483647))) (tOp rMulU (tC (.int 613)) (tOp (rIx K) (tVar 0) (tC (.int 1))))) (tC (.int 7))) (tC (.int 48271))) (tC (.int 2147483647))) (gName 3))
            (tSeq (tAsg (tOp (rI (fun _ j => 0 < j) fun i j => .int (i % j)) (tOp rMulU (tVar 3) (tOp rAddU (tVar 3) (tC (.int 69621)))) (tC (.int 2147483629))) (gName 3))
              (tRet (tOp (rI (fun _ j => 0 < j) fun i j => .int (i % j)) (tOp (rI CDiv fun i j => .int (i / j)) (tVar 3) (tC (.int 64))) (tVar 1))))) tNext)
          (tAsg (tVar 2) (gSub (tVar 0) (tC (.int 2)) rSetL))
        { nx := fun σ2 H2 => tSeq (tAsg (tOp (rI (fun _ j => 0 < j) fun i j => .int (i % j)) (tOp (rIx K) (tVar 0) (tC (.int 2))) (tVar 1)) (gName 4)) (tSeq (tAsg (tOp (rI CDiv fun i j => .int (i / j)) (tOp (rIx K) (tVar 0) (tC (.int 2))) (tVar 1)) (gSub (tVar 0) (tC (.int 2)) rSetL)) (tRet (tVar 4))) { nx := fun _ H' => Q .non H', rt := Q } σ2 H2, rt := Q }
        [some (.ref a), some (.int m), some (.int cell), none, none] H1 := by
      intro cell;refine ⟨_, rfl, _, _, rfl, rfl, ⟨by decide, by decide, by decide⟩, _, _, rfl, rfl, _, rfl, ?_⟩;refine ite2 (fun _ => ?_) (fun _ => ?_)
      · refine ⟨_, rfl, _, _, rfl, rfl, (by show (0 : Int) < 2147483647; decide), ?_⟩;refine ⟨_, rfl, .inl ⟨a, _, 1, _, rfl, rfl, SqL.of ha1, rfl, .inl ⟨_, _, rfl, rfl, .inl ⟨by decide, by decide⟩, .inl ⟨_, _, rfl, rfl, .inl ⟨_, _, rfl, rfl, .inl ⟨_, _, rfl, rfl, .inr ⟨by decide, by decide⟩, _, _, rfl, rfl, (by show (0 : Int) < 2147483647; decide), ?_⟩⟩⟩⟩⟩⟩;generalize hn : ((cell % 2147483647 + 613 * (i + 1) + 7) * 48271) % 2147483647 = n;have n0 : 0 ≤ n := by rw [← hn]; exact Mx _ (by decide)
        have n1 : n < 2147483647 := by rw [← hn]; exact Ko _ (by decide)
        refine ⟨_, rfl, _, rfl, .inl ⟨_, _, rfl, rfl, .inl ⟨_, _, rfl, rfl, .inl ⟨by lia, by lia⟩, _, _, rfl, rfl, (by show (0 : Int) < 2147483629; decide), ?_⟩⟩⟩;refine ⟨_, rfl, _, _, rfl, rfl, ⟨by decide, by decide⟩, _, rfl, _, _, rfl, rfl, hm0, ?_⟩;exact k _ _ (Mx _ (by lia)) (Ko _ hm0) fd1
      · refine ⟨_, rfl, _, rfl, a, _, 2, 2, rfl, rfl, ha1, rfl, ?_⟩;refine last _ _ cell q0c (fun x y => ?_) rfl rfl rfl;have := fd x y;rw [x3i];exact this
    refine ite2 (fun hl => ?_) (fun _ => rest _);have hne : ns.map V.int ≠ [] := by
      intro z;rw [z] at hl;simp at hl
    obtain ⟨x, hx, ex⟩ := x3u (i + 1) hne;obtain ⟨c, rfl⟩ : ∃ c, x = V.int c := by
      obtain ⟨c, _, e⟩ := Ba.mp hx;exact ⟨c, e.symm⟩
    refine ⟨_, rfl, .inl ⟨a, _, 0, _, rfl, rfl, SqL.of ha1, rfl, ⟨_, rfl, .inl ⟨a, _, 1, _, rfl, rfl, SqL.of ha1, rfl, ⟨_, rfl, .inl ⟨a, _, 0, _, rfl, rfl, SqL.of ha1, rfl, ⟨_, _, rfl, .inl ⟨_, SqL.of hb1, rfl⟩, _, _, rfl, rfl, ?_, ?_⟩⟩⟩⟩⟩⟩⟩
    · have : 0 < (ns.map V.int).length := by
        cases e : ns.map V.int with
        | nil => exact absurd e hne
        | cons _ _ => simp
      show (0 : Int) < ((ns.map V.int).length : Int);lia
    · exact .inl ⟨b, _, _, _, rfl, rfl, SqL.of hb1, ex, rest c⟩
abbrev z2n:Stmt:=top 70
theorem x4x:FnScope ["_law_feed", "_law_signs", "_law_size"] ["_law_feed", "_law_signs", "_law_size"] (defScope z2n):=by trivial
theorem x4y(D:Df K mg "_law_text" z2n ["_law_feed", "_law_signs", "_law_size"])(T:Txt mg)(draw:Cal P w K mg base "_law_draw" 1 ["_law_feed", "_law_many"] spDraw):Cal P w K mg base "_law_text" 2 ["_law_feed", "_law_signs", "_law_size"] spText:=by
 refine D.cal x4x (fun vs H Q E h=>?_) (fun f cdv A outer s H vs Q E hr h=>?_)
 ·obtain⟨a,b,g,n,rfl,_⟩:=h;rfl
 ·obtain⟨a,b,g,n,rfl,F,hg0,hg1,hn0,hn1,k⟩:=h;have C:Calls P w K mg base:=⟨draw⟩
  refine⟨_,(q0e (q0k (@bm_k _ _ _ _ _ _ _ _ _ _ _ _ K rfl Ej PySem.F.slot_str_join PySem.F.type_str_join (join_k K rfl) q0i (q0a (q8c ["_law_k"] [("_law_signs",1),("_law_feed",0)] rfl (q1v rfl T.b_range (q0a (pv 2) q0d)) (fun _ _ _ _ _=>(q0o (i:=0) (show(["_law_k", "_law_signs", "_law_feed"]:List Str).Nodup by decide +kernel) rfl (by trivial))) (fun _ _ _ _ _=>q8b) (fun _ _ _ _ _=>(q0v (ix_k K rfl) (pv 1) (pe_c C.draw hr (q0a (pv 2) (q0a (q0p (q1z K rfl) (by rfl) T.b_len Br (q0a (pv 1) q0d)) q0d))) (fun _ _=>rfl)))) q0d) (by rfl) (by rfl) (by rfl) (by rfl) (by rfl)))),?_⟩;refine⟨rfl,_,rfl,n,rfl,by lia,by lia,fun D hD=>?_⟩;refine q6b (n:=n.toNat) (fun i ys H'=>∃cs:List Nat,ys=cs.map (fun c=>V.str ⟨#[c]⟩)/\cs.length=i/\i<=n.toNat/\(∀c∈cs,c∈tl g)/\Fd a b H H'/\H' D=some (.lst ys)) ⟨[],rfl,rfl,Be _,fun _ h=>(nomatch h),(Fd.refl F).new hD,q0c⟩ (fun i ys H' ⟨cs,_,_,_,_,_,h⟩=>h) ?_ ?_
  ·rintro i ys H' hi ⟨cs,rfl,hl,_,hc,fd,hHD⟩;refine⟨_,rfl,_,rfl,_,rfl,_,_,rfl,⟨small (by lia),rfl⟩,a,b,_,rfl,fd.feed,by lia,by lia,fun r H2 r0 r1 fd2=>?_⟩;have hl2:(tl g).length=g.length:=(len g).symm;obtain⟨c,hc1,hc2⟩:=z6t (xs:=tl g) r0 (by lia);refine .inr (.inr ⟨g,r,c,rfl,rfl,small (by lia),hc2,?_⟩);have hDa:D≠a:=fun z=>by subst z;exact F.na hD rfl
   refine⟨fd2.at hHD hDa,small' (by rw[Ag];lia),cs++[c],by rw[Av];rfl,by rw[Ai,hl];rfl,by lia,fun d hd=>?_,(fd.trans fd2).put F hD,q0c⟩;rcases Au.mp hd with z|z
   ·exact hc d z
   ·rw[Ar.mp z];exact Ay hc1
  ·rintro ys H' ⟨cs,rfl,hl,_,hc,fd,hHD⟩;have e:cs.map (fun c=>V.str ⟨#[c]⟩)=(cs.map fun c=>(⟨#[c]⟩:Str)).map V.str:=by rw[Ck];rfl
   refine⟨_,D,cs.map fun c=>⟨#[c]⟩,rfl,rfl,.inl (SqL.of (by rw[<- e];exact hHD)),?_,?_⟩
   ·rw[x0b,Ag];have:(Ac "").length=0:=by decide +kernel
    rw[this];lia
   ·have z:=z6w cs;rw[z];exact k cs H' hl hc fd
abbrev q2u:Stmt:=top 68
theorem q8r:FnScope [] [] (defScope q2u):=by trivial
theorem q8s(D:Df K mg "_law_name_signs" q2u []):Cal P w K mg base "_law_name_signs" 1 [] (spConst NSs):=by
 refine D.cal q8r (fun vs H Q E h=>?_) (fun f cdv A outer s H vs Q E hr h=>?_)
 ·obtain⟨rfl,_⟩:=h;rfl
 ·obtain⟨rfl,k⟩:=h;refine⟨_,(q0e (q0k q0i)),?_⟩;exact k
def spAsk:Sp:=fun vs H Q _=>∃l,vs=[.str (mk l)]/\Good l/\∀H',Same H H'->Q .non H'
theorem gn_in:∀c,decide (c∈tl (Ac "?*#@" ++ Ac "abcdefghijklmnopqrstuvwxyzABCDEFGHIJKLMNOPQRSTUVWXYZ0123456789-_."))=decide (c∈GS\/c∈NS):=fun c=>by
 rw[q4m];exact decide_eq_decide.mpr Au
abbrev q3f:Stmt:=top 21
theorem sc_ask_signs:FnScope ["pattern", "gaps", "at", "sign"] ["pattern"] (defScope q3f):=by trivial
theorem z0t(D:Df K mg "ask_signs" q3f ["pattern"])(T:Txt mg):Cal P w K mg base "ask_signs" 1 ["pattern"] spAsk:=by
 refine D.cal sc_ask_signs (fun vs H Q E h=>?_) (fun f cdv A outer s H vs Q E hr h=>?_)
 ·obtain⟨l,rfl,_⟩:=h;rfl
 ·obtain⟨l,rfl,hg,k⟩:=h;obtain⟨_,g_NAME_SIGNS⟩:=T.NAME_SIGNS;obtain⟨_,g_GAP_SIGNS⟩:=T.GAP_SIGNS;obtain⟨_,g_MOST_GAPS⟩:=T.MOST_GAPS;refine⟨_,(q0b (q0l (i:=1) sc_ask_signs.nd rfl (by trivial) q0g) (q0e (q1p Bt rfl (@z3h _ _ _ _ _ _ _ _ K rfl rfl T.b_enumerate (q0a (pv 0) q0d) (by rfl)) (@q2n _ _ _ _ (2) _ K rfl rfl (q0q (q0o (i:=2) sc_ask_signs.nd rfl (by trivial)) (q0q (q0o (i:=3) sc_ask_signs.nd rfl (by trivial)) q1t)) (by rfl) (by rfl)) (q3d (q0t (q0h (in_k K rfl) (pv 3) (q1a (v:=.str (Ac "?*#@")) (by rfl) g_GAP_SIGNS ⟨_,rfl⟩) (by with_unfolding_all rfl)) (q0e (x2b (i:=1) sc_ask_signs.nd rfl (by trivial) q0g z6a)) q0j) (q0e (q0t (pt_j (@PW.pt _ _ _ (z1t (q0h q7w (pv 1) (q1a (v:=.int 9) (by rfl) g_MOST_GAPS ⟨_,rfl⟩) (nomark _)) (q5r (q0h (x3w K rfl) (pv 3) (q0s q0m (q1a (v:=.str (Ac "?*#@")) (by rfl) g_GAP_SIGNS ⟨_,rfl⟩) (q1a (v:=.str (Ac "abcdefghijklmnopqrstuvwxyzABCDEFGHIJKLMNOPQRSTUVWXYZ0123456789-_.")) (by rfl) g_NAME_SIGNS ⟨_,rfl⟩)) (by with_unfolding_all rfl)))))) (q0e q1g) q0j)))))),?_⟩;have hlen:(mk l).length=l.length:=by rw[len,q0y]
  refine⟨_,rfl,.inl ⟨_,rfl,q9y (fun i σ' H'=>∃x2 x3,σ'=[some (.str (mk l)),some (.int (((l.take i).filter fun c=>decide (c∈GS)).length:Nat)),x2,x3]/\Same H H') ⟨none,none,rfl,Same.refl H⟩ ?_ ?_⟩⟩
  ·rintro i c T' σ' H' hc ⟨x2,x3,rfl,sm⟩ hT;have hci:l[i]?=some c:=by have:=get hc;rw[q0y] at this;exact this
   have hcl:c∈l:=Ay hci;have hi:i<l.length:=(Aq.mp hci).1;have hcount:((l.take (i+1)).filter fun c=>decide (c∈GS)).length<=9:=by
    refine Bb (List.Sublist.length_le ?_) hg.gp;exact(Uk _ _).filter _
   have htake:((l.take (i+1)).filter fun c=>decide (c∈GS)).length=((l.take i).filter fun c=>decide (c∈GS)).length+(if c∈GS then 1 else 0):=by
    rw[q1q hci,Kp,Ai];congr 1;by_cases h:c∈GS
    ·rw[if_pos h,z3j h];rfl
    ·rw[if_neg h,z3k h];rfl
   refine⟨T',_,rfl,SqT.of q0c,rfl,_,_,rfl,_,_,rfl,rfl,?_⟩;generalize hH2:upd H' T' _=H2;have sm2:Same H H2:=by rw[<- hH2];exact sm.new hT
   refine⟨fun σ2 H3=>σ2=[some (.str (mk l)),some (.int (((l.take (i+1)).filter fun c=>decide (c∈GS)).length:Nat)),some (.int (i:Nat)),some (.str ⟨#[c]⟩)]/\H3=H2,?_,?_⟩
   ·rintro σ2 H3 ⟨rfl,rfl⟩;refine⟨fun b H4=>b=false/\H4=H3,?_,?_⟩
    ·rintro b H4 ⟨rfl,rfl⟩;exact iteF ⟨_,_,rfl,sm2⟩
    ·refine⟨_,rfl,_,_,rfl,rfl,_,rfl,?_⟩;refine iteB (fun h=>?_) (fun h=>?_)
     ·exact absurd (of_decide_eq_true h) (by lia)
     ·refine⟨_,rfl,.inr (.inl ⟨_,_,rfl,rfl,by decide +kernel,.inl ⟨_,_,rfl,rfl,_,rfl,?_,rfl⟩⟩)⟩;rw[q7j,gn_in,decide_eq_true (hg.sg c hcl)];rfl
   ·refine⟨_,rfl,.inl ⟨_,_,rfl,rfl,_,rfl,?_⟩⟩;rw[q7j];refine ite2 (fun h=>?_) (fun h=>?_)
    ·have h':c∈GS:=of_decide_eq_true h;refine⟨_,rfl,_,_,rfl,rfl,?_,rfl⟩;rw[htake,if_pos h'];rfl
    ·have h':¬c∈GS:=fun z=>h (decide_eq_true z);refine⟨?_,rfl⟩;rw[htake,if_neg h'];rfl
  ·rintro σ' H' ⟨x2,x3,rfl,sm⟩;exact k _ sm
def spTextParts:Sp:=fun vs H Q _=>∃t,vs=[.str (mk t)]/\∀L H',H L=none->Same H H'->HL H' L (tp t)->Q (.ref L) H'
theorem z8m{t:List Nat}:decide (V.str (mk t)=V.str (Ac ""))=decide (t=[]):=by
 refine decide_eq_decide.mpr ⟨fun h=>?_,fun h=>by rw[h];rfl⟩;injection h with h;have:=congrArg tl h;rw[q0y] at this;rw[this];decide +kernel
abbrev q2v:Stmt:=top 22
theorem q8t:FnScope ["text"] ["text"] (defScope q2v):=by trivial
theorem q8u(D:Df K mg "text_parts" q2v ["text"])(T:Txt mg):Cal P w K mg base "text_parts" 1 ["text"] spTextParts:=by
 refine D.cal q8t (fun vs H Q E h=>?_) (fun f cdv A outer s H vs Q E hr h=>?_)
 ·obtain⟨t,rfl,_⟩:=h;rfl
 ·obtain⟨t,rfl,k⟩:=h;refine⟨_,(q0b (q0t (q0h (eq_k K rfl hr) (pv 0) q0i (nomark _)) (q0e (q0k (q1s q0d))) q0j) (q0e (q0k (q1s (q0a (q0u (q0a q0i (q0a (pv 0) q0d))) q0d))))),?_⟩;refine⟨_,rfl,.inl ⟨rfl,_,rfl,?_⟩⟩;rw[z8m];refine ite2 (fun h=>?_) (fun h=>?_)
  ·have h':=of_decide_eq_true h;refine⟨by show 0<=sizeLine;decide,fun L hL=>k L _ hL ((Same.refl H).new hL) ⟨[],q0c,?_⟩⟩;unfold tp;rw[if_pos h'];exact .nil
  ·have h':¬t=[]:=fun z=>h (decide_eq_true z);refine⟨_,rfl,by show 2<=sizeLine;decide,fun T1 h1=>⟨by show 1<=sizeLine;decide,fun L hL=>k L _ ?_ (((Same.refl H).new h1).new hL) ⟨[T1],q0c,?_⟩⟩⟩
   ·have s1:Same H (upd H T1 (.tup [.str (Ac "text"),.str (mk t)])):=(Same.refl H).new h1;exact s1.free hL
   ·unfold tp;rw[if_neg h'];refine .cons ?_ .nil;have:T1≠L:=q0n q0c hL;rw[q0f this];exact q0c
structure Calls1 (P:Program) (w:World) (K:Ah) (mg:Str->Option Value) (base:Heap):Prop where
 ask_signs:Cal P w K mg base "ask_signs" 1 ["pattern"] spAsk
 text_parts:Cal P w K mg base "text_parts" 1 ["text"] spTextParts
def spPartsOf:Sp:=fun vs H Q _=>∃l,vs=[.str (mk l)]/\Good l/\∀L H',H L=none->Same H H'->HL H' L (parse [] l)->Q (.ref L) H'
theorem q6m{l:List Nat}{i j:Nat}(h1:i<=j)(h2:j<=l.length):We (mk l) (some (i:Int)) (some (j:Int))=mk ((l.drop i).take (j-i)):=by
 show Gg (mk l) (some (i:Int)) (some (j:Int))=_;rw[StrLaws.sliceText_plain ⟨by lia,by lia,by rw[show((mk l).cps.toList).length=l.length from congrArg List.length (q0y l)];lia⟩];have e1:((i:Nat):Int).toNat=i:=by lia
 have e2:(((j:Nat):Int)-((i:Nat):Int)).toNat=j-i:=by lia
 show mk (((mk l).cps.toList.drop ((i:Nat):Int).toNat).take (((j:Nat):Int)-((i:Nat):Int)).toNat)=_;rw[show(mk l).cps.toList=l from q0y l,e1,e2]
abbrev q4b:Stmt:=top 23
theorem sc_parts_of:FnScope ["pattern", "parts", "begin", "at", "sign"] ["pattern"] (defScope q4b):=by trivial
theorem z2o(D:Df K mg "parts_of" q4b ["pattern"])(T:Txt mg)(C:Calls1 P w K mg base):Cal P w K mg base "parts_of" 2 ["pattern"] spPartsOf:=by
 refine D.cal sc_parts_of (fun vs H Q E h=>?_) (fun f cdv A outer s H vs Q E hr h=>?_)
 ·obtain⟨l,rfl,_⟩:=h;rfl
 ·obtain⟨l,rfl,hg,k⟩:=h;obtain⟨_,g_NAME_SIGNS⟩:=T.NAME_SIGNS;obtain⟨_,g_GAP_SIGNS⟩:=T.GAP_SIGNS;refine⟨_,(q0b (q0t (q0h (eq_k K rfl hr) (pv 0) q0i (nomark _)) (q0e q1g) q0j) (q0b (q0w (pe_c C.ask_signs hr (q0a (pv 0) q0d))) (q0b (q0l (i:=1) sc_parts_of.nd rfl (by trivial) (q1s q0d)) (q0b (q0l (i:=2) sc_parts_of.nd rfl (by trivial) q0g) (q0b (q1p Bt rfl (@z3h _ _ _ _ _ _ _ _ K rfl rfl T.b_enumerate (q0a (pv 0) q0d) (by rfl)) (@q2n _ _ _ _ (2) _ K rfl rfl (q0q (q0o (i:=3) sc_parts_of.nd rfl (by trivial)) (q0q (q0o (i:=4) sc_parts_of.nd rfl (by trivial)) q1t)) (by rfl) (by rfl)) (q0e (q0t (q0h (in_k K rfl) (pv 4) (q1a (v:=.str (Ac "?*#@")) (by rfl) g_GAP_SIGNS ⟨_,rfl⟩) (by with_unfolding_all rfl)) (q0b (q0w (@bm_k _ _ _ _ _ _ _ _ _ _ _ _ K rfl Bu Pz Qa q9t (pv 1) (q0a (pe_c C.text_parts hr (q0a (q1c (sl_k K rfl) (pv 0) (q1b (pv 2)) (q1b (pv 3))) q0d)) q0d) (by rfl) (by rfl) (by rfl) (by rfl) (by rfl))) (q0b (q0w (@bm_k _ _ _ _ _ _ _ _ _ _ _ _ K rfl Bu Cp Cq q1i (pv 1) (q0a (q0u (q0a q0i (q0a (pv 4) q0d))) q0d) (by rfl) (by rfl) (by rfl) (by rfl) (by rfl))) (q0e (q0l (i:=2) sc_parts_of.nd rfl (by trivial) (q0s q0m (pv 3) q0g))))) q0j))) (q0b (q0w (@bm_k _ _ _ _ _ _ _ _ _ _ _ _ K rfl Bu Pz Qa q9t (pv 1) (q0a (pe_c C.text_parts hr (q0a (q1c (sl_k K rfl) (pv 0) (q1b (pv 2)) q2e) q0d)) q0d) (by rfl) (by rfl) (by rfl) (by rfl) (by rfl))) (q0e (q0k (pv 1))))))))),?_⟩;have hlen:(mk l).length=l.length:=by rw[len,q0y]
  have hl0:=hg.len;refine⟨_,rfl,.inl ⟨rfl,_,rfl,?_⟩⟩;rw[z8m,decide_eq_false hg.ne];refine iteF ?_;refine⟨_,rfl,l,rfl,hg,fun H1 sm1=>?_⟩;refine⟨by show 0<=sizeLine;decide,fun L hL=>?_⟩;have hL0:H L=none:=sm1.free hL;have ext:∀(H':Hp) (acc:List Pt) (t:List Nat) (M:Addr) (H2:Hp),HL H' L acc->acc.length<=5000->Same H H'->H' M=none->Same H' H2->HL H2 M (tp t) ->
    ∃xs zs,H2 L=some (.lst xs)/\H2 M=some (.lst zs)/\xs.length+zs.length<=sizeLine/\HL (upd H2 L (.lst (xs++zs))) L (acc++tp t)/\Same H (upd H2 L (.lst (xs++zs))):=by
   intro H' acc t M H2 hl ha sm hM sm2 hm;obtain⟨Ts,h1,h2⟩:=hl.ex;obtain⟨Us,h3,h4⟩:=hm.ex;have l1:=h2.len;have l2:=h4.len;have l3:(tp t).length<=1:=by unfold tp;split<;>simp
   have hL2:H2 L=some (.lst (Ts.map V.ref)):=sm2 _ _ h1;refine⟨_,_,hL2,h3,by rw[Ag,Ag];exact small (by lia),⟨Ts++Us,by rw[Av];exact q0c,?_⟩,(sm.trans sm2).put hL0⟩;exact Tups.app ((h2.keep (Same.tk sm2)).keep ((TKeep.refl H2).lst hL2)) (h4.keep ((TKeep.refl H2).lst hL2))
  refine⟨_,rfl,.inl ⟨_,rfl,q9y (fun i σ' H'=>∃acc x3 x4 bg,σ'=[some (.str (mk l)),some (.ref L),some (.int (bg:Nat)),x3,x4]/\Same H H'/\HL H' L acc/\bg<=i/\i<=l.length/\acc.length<=2*i/\acc++parse ((l.drop bg).take (i-bg)) (l.drop i)=parse [] l) ⟨[],none,none,0,rfl,(sm1.new hL),⟨[],q0c,.nil⟩,Aj _,Be _,Aj _,by simp⟩ ?_ ?_⟩⟩
  ·rintro i c T' σ' H' hc ⟨acc,x3,x4,bg,rfl,sm,hl,hbi,hil,hal,hp⟩ hT;have hci:l[i]?=some c:=by have:=get hc;rw[q0y] at this;exact this
   have hi:i<l.length:=(Aq.mp hci).1;have hdr:l.drop i=c::l.drop (i+1):=by
    have:=Pj hi;rw[this];congr 1;exact(Aq.mp hci).2
   refine⟨T',_,rfl,SqT.of q0c,rfl,_,_,rfl,_,_,rfl,rfl,?_⟩;generalize hH2:upd H' T' _=H2;have s12:Same H' H2:=by rw[<- hH2];exact(Same.refl H').new hT
   have sm2:Same H H2:=sm.trans s12;have hl2:HL H2 L acc:=hl.same s12;refine⟨_,rfl,.inl ⟨_,_,rfl,rfl,_,rfl,?_⟩⟩;rw[q7j];rw[hdr,parse] at hp;refine ite2 (fun h=>?_) (fun h=>?_)
   ·have h':c∈GS:=of_decide_eq_true h;rw[if_pos h'] at hp;refine⟨_,rfl,.inl ⟨rfl,hl2.sq⟩,_,rfl,_,rfl,_,rfl,_,rfl,_,rfl,.inl ⟨_,rfl,small (by lia),?_⟩⟩;rw[q6m hbi hil];refine⟨_,rfl,fun M H3 hM sm3 hm=>?_⟩;obtain⟨xs,zs,e1,e2,e3,e4,e5⟩:=ext H2 acc _ M H3 hl2 (by lia) sm2 hM sm3 hm;refine⟨L,M,xs,zs,rfl,rfl,e1,e2,e3,?_⟩;generalize hH4:upd H3 L _=H4;rw[hH4] at e4 e5;refine⟨_,rfl,.inl ⟨rfl,e4.sq⟩,_,rfl,by show 2<=sizeLine;decide,fun T2 hT2=>?_⟩;have e6:HL (upd H4 T2 (.tup (Pt.gp c).vs)) L _:=e4.new hT2;obtain⟨Ts,h1,h2⟩:=e6.ex;have htl:(tp ((l.drop bg).take (i-bg))).length<=1:=by unfold tp;split<;>simp
    have hTl:=h2.len;rw[Ai] at hTl;refine⟨L,_,_,rfl,rfl,h1,by rw[Ag];exact small' (by lia),?_⟩;refine⟨_,rfl,.inl ⟨_,_,rfl,rfl,?_⟩⟩;have hT2L:T2≠L:=fun z=>by subst z;rw[q0c] at h1;cases h1
    refine⟨acc++tp ((l.drop bg).take (i-bg))++[.gp c],some (.int (i:Nat)),some (.str ⟨#[c]⟩),i+1,rfl,(e5.new hT2).put hL0,⟨Ts++[T2],by rw[Av];exact q0c,?_⟩,Aj _,hi,by rw[Ai,Ai,Bc];lia,?_⟩
    ·refine Tups.app (h2.keep ((TKeep.refl _).lst h1)) (.cons ?_ .nil);rw[q0f hT2L];exact q0c
    ·rw[<- hp];simp
   ·have h':¬c∈GS:=fun z=>h (decide_eq_true z);rw[if_neg h'] at hp;refine⟨acc,_,_,bg,rfl,sm2,hl2,by lia,hi,by lia,?_⟩;rw[<- hp];congr 2;have e1:i+1-bg=(i-bg)+1:=by lia
    rw[e1];refine q1q ?_;rw[Oi];have e2:bg+(i-bg)=i:=by lia
    rw[e2];exact hci
  ·rintro σ' H' ⟨acc,x3,x4,bg,rfl,sm,hl,hbi,hil,hal,hp⟩;refine⟨_,rfl,.inl ⟨rfl,hl.sq⟩,_,rfl,_,rfl,_,rfl,.inl ⟨_,rfl,small (by lia),?_⟩⟩;have hbl:bg<=l.length:=by lia
   rw[z4x (by lia) (by rw[q0y];lia),q0y];refine⟨_,rfl,fun M H3 hM sm3 hm=>?_⟩;obtain⟨xs,zs,e1,e2,e3,e4,e5⟩:=ext H' acc _ M H3 hl (by lia) sm hM sm3 hm;refine⟨L,M,xs,zs,rfl,rfl,e1,e2,e3,_,rfl,?_⟩;refine k L _ hL0 e5 ?_;rw[hlen] at hp;have e6:(l.drop bg).take (l.length-bg)=l.drop bg:=Fp (by rw[De];exact Aj _);rw[Gr,parse,e6] at hp;have e7:((bg:Nat):Int).toNat=bg:=by lia
   rw[e7] at e4;rw[<- hp];exact e4
def spAllOf:Sp:=fun vs H Q _=>∃t g,vs=[.str (mk t),.str g]/\t.length<=1000/\∀H',Same H H'->Q (.bl (allOf t (tl g))) H'
abbrev q6n:Stmt:=top 15
theorem z8n:FnScope ["text", "signs"] ["text", "signs"] (defScope q6n):=by trivial
theorem z8o(D:Df K mg "all_of" q6n ["text", "signs"])(T:Txt mg):Cal P w K mg base "all_of" 1 ["text", "signs"] spAllOf:=by
 refine D.cal z8n (fun vs H Q E h=>?_) (fun f cdv A outer s H vs Q E hr h=>?_)
 ·obtain⟨t,g,rfl,_⟩:=h;rfl
 ·obtain⟨t,g,rfl,hl,k⟩:=h;refine⟨_,(q0e (q0k (pe_j (z5t (q2m (ne_k K rfl hr) (pv 0) q0i (nomark _)) (z2y (q0p (all_k K rfl rfl) (by rfl) T.b_all (by decide +kernel) (q0a (q8c ["sign"] [("signs",1)] rfl (@q6x _ _ _ _ K rfl (pv 0)) (fun _ _ _ _ _=>(q0o (i:=0) (show(["sign", "signs"]:List Str).Nodup by decide +kernel) rfl (by trivial))) (fun _ _ _ _ _=>q8b) (fun _ _ _ _ _=>(q2m (in_k K rfl) (pv 0) (pv 1) (by with_unfolding_all rfl)))) q0d))))))),?_⟩;refine⟨fun v H'=>v=.bl (allOf t (tl g))/\Same H H',?_,?_⟩
  ·rintro v H' ⟨rfl,sm⟩;exact k H' sm
  refine⟨_,rfl,.inl ⟨rfl,_,rfl,?_⟩⟩;rw[z8m];refine iteB (fun h=>?_) (fun h=>?_)
  ·have hne:¬t=[]:=fun z=>by rw[decide_eq_true z] at h;cases h
   refine⟨_,rfl,.inr (.inr ⟨mk t,rfl,fun D hD=>?_⟩)⟩;refine z6u (fun i ys H'=>ys=(t.take i).map (fun c=>V.bl (decide (c∈tl g)))/\Same H H'/\H' D=some (.lst ys)/\ys.length<=i/\i<=t.length) ⟨rfl,(Same.refl H).new hD,q0c,Aj _,Be _⟩ (fun i ys H' h=>h.2.2.1) ?_ ?_
   ·rintro i ys H' c hc ⟨rfl,sm,hHD,hle,_⟩;have hci:t[i]?=some c:=by have:=get hc;rw[q0y] at this;exact this
    have hi:i<t.length:=(Aq.mp hci).1;refine⟨_,rfl,_,rfl,.inl ⟨_,_,rfl,rfl,hHD,small' (by lia),?_,sm.put hD,q0c,?_,hi⟩⟩
    ·rw[q1q hci,Av,q7j];rfl
    ·rw[Ai,Bc];lia
   ·rintro ys H' ⟨rfl,sm,hHD,_,_⟩;have e3:t.take (mk t).length=t:=by rw[q0r];exact Fp (Aj _)
    rw[e3] at hHD;refine⟨D,t.map fun c=>decide (c∈tl g),rfl,SqL.of (by rw[Ck];exact hHD),?_,sm⟩;unfold allOf;rw[decide_eq_true hne,Ot,List.all_map];rfl
  ·have he:t=[]:=Classical.byContradiction fun z=>by rw[decide_eq_false z] at h;cases h
   refine⟨?_,Same.refl H⟩;subst he;rfl
def spGapTakes:Sp:=fun vs H Q _=>∃c t,vs=[.str (mk [c]),.str (mk t)]/\t.length<=1000/\∀H',Same H H'->Q (.bl (gapTakes c t)) H'
structure CallsA (P:Program) (w:World) (K:Ah) (mg:Str->Option Value) (base:Heap):Prop where
 all_of:Cal P w K mg base "all_of" 1 ["text", "signs"] spAllOf
theorem lit1(c d:Nat)(s:String)(h:Ac s=mk [d]):decide (V.str (mk [c])=V.str (Ac s))=decide (c=d):=by
 rw[h,dec_str];exact decide_eq_decide.mpr ⟨fun z=>by injection z,fun z=>by rw[z]⟩
theorem x4z(t:List Nat):decide (V.int (((mk t).length:Nat):Int)=V.int 1)=decide (t.length=1):=by
 rw[q0r];exact decide_eq_decide.mpr ⟨fun z=>by injection z with z;lia,fun z=>by rw[z];rfl⟩
abbrev q3g:Stmt:=top 48
theorem z0u:FnScope ["gap_sign", "text"] ["gap_sign", "text"] (defScope q3g):=by trivial
theorem z0v(D:Df K mg "gap_takes" q3g ["gap_sign", "text"])(T:Txt mg)(C:CallsA P w K mg base):Cal P w K mg base "gap_takes" 2 ["gap_sign", "text"] spGapTakes:=by
 refine D.cal z0u (fun vs H Q E h=>?_) (fun f cdv A outer s H vs Q E hr h=>?_)
 ·obtain⟨c,t,rfl,_⟩:=h;rfl
 ·obtain⟨c,t,rfl,hl,k⟩:=h;obtain⟨_,g_FIGURES⟩:=T.FIGURES;obtain⟨_,g_LETTERS⟩:=T.LETTERS;refine⟨_,(q0b (q0t (q0h (eq_k K rfl hr) (pv 0) q0i (nomark _)) (q0e (q0k (q2m (eq_k K rfl hr) (q0p (q1z K rfl) (by rfl) T.b_len Br (q0a (pv 1) q0d)) q0g (nomark _)))) q0j) (q0b (q0t (q0h (eq_k K rfl hr) (pv 0) q0i (nomark _)) (q0e (q0k (pe_c C.all_of hr (q0a (pv 1) (q0a (q1a (v:=.str (Ac "0123456789")) (by rfl) g_FIGURES ⟨_,rfl⟩) q0d))))) q0j) (q0b (q0t (q0h (eq_k K rfl hr) (pv 0) q0i (nomark _)) (q0e (q0k (pe_c C.all_of hr (q0a (pv 1) (q0a (q1a (v:=.str (Ac "abcdefghijklmnopqrstuvwxyzABCDEFGHIJKLMNOPQRSTUVWXYZ")) (by rfl) g_LETTERS ⟨_,rfl⟩) q0d))))) q0j) (q0e (q0k q9h))))),?_⟩;have hlen:=q0r t;refine⟨_,rfl,.inl ⟨rfl,_,rfl,?_⟩⟩;rw[lit1 c 63 "?" (by decide +kernel)];refine ite2 (fun h=>?_) (fun h=>?_)
  ·have h':c=63:=of_decide_eq_true h;refine⟨_,rfl,_,_,rfl,⟨small (by lia),rfl⟩,.inl ⟨rfl,?_⟩⟩;rw[x4z];have:=k H (Same.refl H);unfold gapTakes at this;rw[if_pos h'] at this;exact this
  have n1:¬c=63:=fun z=>h (decide_eq_true z);refine⟨_,rfl,.inl ⟨rfl,_,rfl,?_⟩⟩;rw[lit1 c 35 "#" (by decide +kernel)];refine ite2 (fun h=>?_) (fun h=>?_)
  ·have h':c=35:=of_decide_eq_true h;refine⟨_,rfl,t,_,rfl,hl,fun H' sm=>?_⟩;have:=k H' sm;unfold gapTakes at this;rw[if_neg n1,if_pos h'] at this;exact this
  have n2:¬c=35:=fun z=>h (decide_eq_true z);refine⟨_,rfl,.inl ⟨rfl,_,rfl,?_⟩⟩;rw[lit1 c 64 "\x40" (by decide +kernel)];refine ite2 (fun h=>?_) (fun h=>?_)
  ·have h':c=64:=of_decide_eq_true h;refine⟨_,rfl,t,_,rfl,hl,fun H' sm=>?_⟩;have:=k H' sm;unfold gapTakes at this;rw[if_neg n1,if_neg n2,if_pos h'] at this;exact this
  have n3:¬c=64:=fun z=>h (decide_eq_true z);have:=k H (Same.refl H);unfold gapTakes at this;rw[if_neg n1,if_neg n2,if_neg n3] at this;exact this
structure CallsB (P:Program) (w:World) (K:Ah) (mg:Str->Option Value) (base:Heap):Prop where
 gap_takes:Cal P w K mg base "gap_takes" 2 ["gap_sign", "text"] spGapTakes
def spTakes:Sp:=fun vs H Q _=>∃(a:Addr) (p:Pt) (t:List Nat),vs=[.ref a,.str (mk t)]/\H a=some (.tup p.vs)/\p.ok/\t.length<=1000/\∀H',Same H H'->Q (.bl (p.takes t)) H'
theorem wtext:decide (V.str (Ac "text")=V.str (Ac "text"))=true:=decide_eq_true rfl
theorem wgap:decide (V.str (Ac "gap")=V.str (Ac "text"))=false:=by decide +kernel
abbrev q8v:Stmt:=top 49
theorem sc_takes:FnScope ["part", "text", "sort", "what"] ["part", "text"] (defScope q8v):=by trivial
theorem x1c(D:Df K mg "takes" q8v ["part", "text"])(T:Txt mg)(C:CallsB P w K mg base):Cal P w K mg base "takes" 3 ["part", "text"] spTakes:=by
 refine D.cal sc_takes (fun vs H Q E h=>?_) (fun f cdv A outer s H vs Q E hr h=>?_)
 ·obtain⟨a,p,t,rfl,_⟩:=h;rfl
 ·obtain⟨a,p,t,rfl,ha,hok,hl,k⟩:=h;refine⟨_,(q0b (q7d (pv 0) (@q2n _ _ _ _ (2) _ K rfl rfl (q0q (q0o (i:=2) sc_takes.nd rfl (by trivial)) (q0q (q0o (i:=3) sc_takes.nd rfl (by trivial)) q1t)) (by rfl) (by rfl))) (q0b (q0t (q0h (eq_k K rfl hr) (pv 2) q0i (nomark _)) (q0e (q0k (q2m (eq_k K rfl hr) (pv 1) (pv 3) (nomark _)))) q0j) (q0e (q0k (pe_c C.gap_takes hr (q0a (pv 3) (q0a (pv 1) q0d))))))),?_⟩;refine⟨_,rfl,a,_,rfl,SqT.of ha,rfl,_,_,rfl,_,_,rfl,rfl,?_⟩;cases p with
  |tx l =>
   refine⟨_,rfl,.inl ⟨rfl,_,rfl,?_⟩⟩;refine Eq.mpr (congrArg (fun b=>if b=true then _ else _) wtext) ?_;refine iteT ?_;refine⟨_,rfl,_,rfl,.inl ⟨rfl,?_⟩⟩;have:=k H (Same.refl H);rw[show(Pt.tx l).takes t=decide (V.str (mk t)=V.str (mk l)) from(dec_str t l).symm] at this;exact this
  |gp c =>
   refine⟨_,rfl,.inl ⟨rfl,_,rfl,?_⟩⟩;refine Eq.mpr (congrArg (fun b=>if b=true then _ else _) wgap) ?_;refine iteF ?_;exact⟨_,rfl,_,rfl,c,t,rfl,hl,fun H' sm=>k H' sm⟩
structure CallsC (P:Program) (w:World) (K:Ah) (mg:Str->Option Value) (base:Heap):Prop where
 takes:Cal P w K mg base "takes" 3 ["part", "text"] spTakes
def spFurthest:Sp:=fun vs H Q _=>∃a p n d g,vs=[.ref a,.str (mk n),.ref d]/\H a=some (.tup p.vs)/\p.ok/\n.length<=60/\DF H d g/\∀e H',H e=none->Same H H'->DF H' e (far p n fun x=>(g x).isSome)->Q (.ref e) H'
abbrev q1w:Stmt:=top 50
theorem sc_furthest_ends:FnScope ["part", "name", "later", "ends", "begin", "end"] ["part", "name", "later"] (defScope q1w):=by trivial
theorem q5h(D:Df K mg "furthest_ends" q1w ["part", "name", "later"])(T:Txt mg)(C:CallsC P w K mg base):Cal P w K mg base "furthest_ends" 4 ["part", "name", "later"] spFurthest:=by
 refine D.cal sc_furthest_ends (fun vs H Q E h=>?_) (fun f cdv A outer s H vs Q E hr h=>?_)
 ·obtain⟨a,p,n,d,g,rfl,_⟩:=h;rfl
 ·obtain⟨a,p,n,d,g,rfl,ha,hok,hn,hd,k⟩:=h;refine⟨_,(q0b (q0l (i:=3) sc_furthest_ends.nd rfl (by trivial) x0f) (q0b (q1p Bt rfl (q1v rfl T.b_range (q0a (q0s q0m (q0p (q1z K rfl) (by rfl) T.b_len Br (q0a (pv 1) q0d)) q0g) q0d)) (q0o (i:=4) sc_furthest_ends.nd rfl (by trivial)) (q0e (q1p Bt rfl (z5w rfl T.b_range (q0a (pv 4) (q0a (q0s q0m (q0p (q1z K rfl) (by rfl) T.b_len Br (q0a (pv 1) q0d)) q0g) q0d))) (q0o (i:=5) sc_furthest_ends.nd rfl (by trivial)) (q0e (q0t (pt_j (@PW.pt _ _ _ (q4k (q2c (x2i (q6w hr) (pv 5) (pv 2))) (q2q (@z2b _ _ _ K rfl (pe_c C.takes hr (q0a (pv 0) (q0a (q1c (sl_k K rfl) (pv 1) (q1b (pv 4)) (q1b (pv 5))) q0d))) (fun _=>rfl)))))) (q0e (z7d (q6w hr) (pv 3) (pv 4) (pv 5) rfl)) q0j))))) (q0e (q0k (pv 3))))),?_⟩;have hlen:=q0r n;intro e he;generalize hL:(fun x=>(g x).isSome)=L at k;refine⟨_,rfl,_,_,rfl,⟨small (by lia),rfl⟩,.inl ⟨_,_,rfl,rfl,?_⟩⟩;refine⟨_,rfl,by lia,by lia,q2d (fun i σ' H'=>∃x4 x5 kvs,σ'=[some (.ref a),some (.str (mk n)),some (.ref d),some (.ref e),x4,x5]/\Same H H'/\H' e=some (.dK kvs)/\kvs.length<=i*61/\∀b:Nat,valV kvs (Sum.inl (b:Int))=(if b<i then far p n L b else none).map fun e=>V.int (e:Nat))
   ⟨none,none,[],rfl,(Same.refl H).new he,q0c,Be _,fun b=>by rw[if_neg (Nat.not_lt_zero b)];rfl⟩ ?_ ?_⟩
  ·rintro i σ' H' hi ⟨x4,x5,kvs,rfl,sm,hHe,hkl,hkv⟩;have hi':i<=n.length:=by lia
   rw[show(0:Int)+(i:Int)=((i:Nat):Int) from by lia];refine⟨_,rfl,_,rfl,_,_,rfl,⟨small (by lia),rfl⟩,.inl ⟨_,_,rfl,rfl,?_⟩⟩;have ek:((((mk n).length:Nat):Int)+1-((i:Nat):Int)).toNat=n.length+1-i:=by lia
   refine⟨_,_,rfl,⟨by lia,by lia,by lia,by lia⟩,?_⟩;rw[ek];refine q2d (fun j σ2 H2=>∃x5 kvs,σ2=[some (.ref a),some (.str (mk n)),some (.ref d),some (.ref e),some (.int (i:Nat)),x5]/\Same H H2/\H2 e=some (.dK kvs)/\kvs.length<=i*61+j/\∀b:Nat,valV kvs (Sum.inl (b:Int))=(if b<i then far p n L b else if b=i then farTo p n L i j else none).map fun e=>V.int (e:Nat))
    ⟨x5,kvs,rfl,sm,hHe,hkl,fun b=>?_⟩ ?_ ?_
   ·rw[hkv b];by_cases z:b<i
    ·rw[if_pos z,if_pos z]
    ·rw[if_neg z,if_neg z];split<;>rfl
   ·rintro j σ2 H2 hj ⟨x5,kvs,rfl,sm2,hHe2,hkl2,hkv2⟩;rw[show((i:Nat):Int)+(j:Int)=((i+j:Nat):Int) from by lia];have hfs:=q7l p n L i j;refine⟨fun bb H3=>bb=(L (i+j)&&p.takes (cut n i (i+j)))/\Same H2 H3,?_,?_⟩
    ·rintro bb H3 ⟨rfl,sm3⟩;refine ite2 (fun h=>?_) (fun h=>?_)
     ·refine⟨_,rfl,_,rfl,_,rfl,e,_,rfl,DPut.k (k:=Sum.inl ((i:Nat):Int)) (sm3 _ _ hHe2) (small' (by lia)),?_⟩;refine⟨_,_,rfl,(sm2.trans sm3).put he,q0c,Bb (q1n _ _ _) (by lia),fun b=>?_⟩;have:=x2l (b:=i) (e:=i+j) hkv2 b;refine this.trans (congrArg (Option.map _) ?_);show(if b=i then some (i+j) else _)=_;rw[hfs,if_pos h];by_cases z:b=i
      ·subst z;rw[if_pos rfl,if_neg (Fq _),if_pos rfl]
      ·rw[if_neg z,if_neg z,if_neg z]
     ·refine⟨_,_,rfl,sm2.trans sm3,sm3 _ _ hHe2,by lia,fun b=>?_⟩;rw[hkv2 b,hfs,if_neg h]
    ·refine⟨_,rfl,_,rfl,d,_,rfl,(hd.same sm2).get (i+j),_,rfl,?_⟩;have eL:((g (i+j)).map fun e=>V.int (e:Nat)).isSome=L (i+j):=by rw[<- hL];show _=(g (i+j)).isSome;cases g (i+j)<;>rfl
     rw[eL];refine iteB (fun h=>?_) (fun h=>?_)
     ·refine⟨_,rfl,_,rfl,_,rfl,_,rfl,_,rfl,_,rfl,.inl ⟨_,rfl,small (by lia),?_⟩⟩;rw[q6m (by lia) (by lia)];refine⟨a,p,cut n i (i+j),rfl,sm2 _ _ ha,hok,?_,fun H3 sm3=>⟨_,rfl,?_,sm3⟩⟩
      ·unfold cut;rw[Dq,De];lia
      ·rw[h,Ot]
     ·refine⟨?_,Same.refl H2⟩;rw[h,Rb]
   ·rintro σ2 H2 ⟨x5,kvs,rfl,sm2,hHe2,hkl2,hkv2⟩;refine⟨_,_,kvs,rfl,sm2,hHe2,by lia,fun b=>?_⟩;rw[hkv2 b];by_cases z:b<i
    ·rw[if_pos z,if_pos (by lia)]
    ·rw[if_neg z];by_cases z2:b=i
     ·subst z2;rw[if_pos rfl,if_pos (by lia)];unfold far;rw[if_pos hi']
     ·rw[if_neg z2,if_neg (by lia)]
  ·rintro σ' H' ⟨x4,x5,kvs,rfl,sm,hHe,hkl,hkv⟩;have et:((((mk n).length:Nat):Int)+1).toNat=n.length+1:=by lia
   rw[et] at hkl hkv;refine⟨_,rfl,k e H' he sm ⟨kvs,hHe,?_,fun b=>?_⟩⟩
   ·have:(n.length+1)*61<=61*61:=Sk _ (by lia);lia
   ·rw[hkv b];by_cases z:b<n.length+1
    ·rw[if_pos z]
    ·rw[if_neg z];unfold far;rw[if_neg (by lia)]
structure CallsD (P:Program) (w:World) (K:Ah) (mg:Str->Option Value) (base:Heap):Prop where
 furthest_ends:Cal P w K mg base "furthest_ends" 4 ["part", "name", "later"] spFurthest
def spEnds:Sp:=fun vs H Q _=>∃L n ps,vs=[.ref L,.str (mk n)]/\HL H L ps/\(∀p∈ps,p.ok)/\ps.length<=3000/\n.length<=60/\∀E H' ds,H E=none->Same H H'->H' E=some (.lst (ds.map V.ref))->DS H' n ds ps->Q (.ref E) H'
theorem x5a{α:Type}{l:List α}{i:Nat}{x:α}(h:l.reverse[i]?=some x):i<l.length/\l[l.length-1-i]?=some x:=by
 have hi:i<l.length:=by
  have:=(Aq.mp h).1;simpa using this
 exact⟨hi,by rwa [List.getElem?_reverse hi] at h⟩
abbrev q1x:Stmt:=top 51
theorem sc_ends_of_parts:FnScope ["parts", "name", "later", "ends", "part"] ["parts", "name"] (defScope q1x):=by trivial
theorem q5i(D:Df K mg "ends_of_parts" q1x ["parts", "name"])(T:Txt mg)(C:CallsD P w K mg base):Cal P w K mg base "ends_of_parts" 5 ["parts", "name"] spEnds:=by
 refine D.cal sc_ends_of_parts (fun vs H Q E h=>?_) (fun f cdv A outer s H vs Q E hr h=>?_)
 ·obtain⟨L,n,ps,rfl,_⟩:=h;rfl
 ·obtain⟨L,n,ps,rfl,hL,hok,hpl,hn,k⟩:=h;refine⟨_,(q0b (q0l (i:=2) sc_ends_of_parts.nd rfl (by trivial) (x4d (x0h (q0p (q1z K rfl) (by rfl) T.b_len Br (q0a (pv 1) q0d)) (q0p (q1z K rfl) (by rfl) T.b_len Br (q0a (pv 1) q0d)) x4c) rfl rfl (by simp) (by decide))) (q0b (q0l (i:=3) sc_ends_of_parts.nd rfl (by trivial) (q1s q0d)) (q0b (q1p Bt rfl (@rev_k _ _ _ _ _ _ K rfl rfl T.b_reversed (q0a (pv 0) q0d) (by rfl)) (q0o (i:=4) sc_ends_of_parts.nd rfl (by trivial)) (q0b (q0l (i:=2) sc_ends_of_parts.nd rfl (by trivial) (pe_c C.furthest_ends hr (q0a (pv 4) (q0a (pv 1) (q0a (pv 2) q0d))))) (q0e (q0w (@bm_k _ _ _ _ _ _ _ _ _ _ _ _ K rfl Bu Cp Cq q1i (pv 3) (q0a (pv 2) q0d) (by rfl) (by rfl) (by rfl) (by rfl) (by rfl)))))) (q0b (q0w (@z2a _ _ _ _ _ _ _ _ _ K rfl Bu PySem.F.slot_list_reverse PySem.F.type_list_reverse z4s (pv 3) (by rfl) (by rfl))) (q0e (q0k (pv 3))))))),?_⟩;have hlen:=q0r n;obtain⟨Ts,h1,h2⟩:=hL.ex;have hTl:=h2.len;intro d0 hd0;refine⟨_,rfl,_,_,rfl,⟨small (by lia),rfl⟩,_,rfl,_,_,rfl,⟨small (by lia),rfl⟩,q0c,[(Sum.inl ((n.length:Nat):Int),.int ((n.length:Nat):Int))],?_,Rt rfl,?_⟩
  ·rw[hlen];rfl
  have sm0:Same H (upd (upd H d0 (.dK [])) d0 (.dK (mergeK [] [(Sum.inl ((n.length:Nat):Int),.int ((n.length:Nat):Int))]))):=((Same.refl H).new hd0).put hd0;have df0:DF (upd (upd H d0 (.dK [])) d0 (.dK (mergeK [] [(Sum.inl ((n.length:Nat):Int),.int ((n.length:Nat):Int))]))) d0 (fun b=>if b=n.length then some n.length else none):=by
   refine⟨_,q0c,Rt rfl,fun b=>?_⟩;have:=x2l (kvs:=[]) (b:=n.length) (e:=n.length) (f:=fun _=>none) (fun c=>rfl) b;exact this
  generalize hH1:upd (upd H d0 (.dK [])) d0 _=H1 at sm0 df0;refine⟨by show 0<=sizeLine;decide,fun E hE=>?_⟩;have hE0:H E=none:=sm0.free hE;have sm1:Same H (upd H1 E (.lst [])):=sm0.new hE;have hEL:E≠L:=fun z=>by subst z;rw[hE0] at h1;cases h1
  refine⟨_,rfl,L,_,rfl,sm1 _ _ h1,?_⟩;refine x4e (xs:=Ts.map V.ref) (fun i σ' H'=>∃d g x4 ds,σ'=[some (.ref L),some (.str (mk n)),some (.ref d),some (.ref E),x4]/\Same H H'/\DF H' d g/\(∀b,(g b).isSome=fits n (ps.drop (ps.length-i)) b)/\H' E=some (.lst (ds.map V.ref))/\DS H' n ds.reverse (ps.drop (ps.length-i))/\i<=ps.length)
   ⟨d0,_,none,[],rfl,sm1,df0.new hE,fun b=>?_,q0c,?_,Be _⟩ (fun i σ' H' ⟨_,_,_,_,_,sm,_⟩=>SqL.of (sm _ _ h1)) ?_ ?_
  ·rw[show ps.length-0=ps.length from rfl,Gr];show(if b=n.length then some n.length else none).isSome=decide (b=n.length);by_cases z:b=n.length
   ·rw[if_pos z,decide_eq_true z];rfl
   ·rw[if_neg z,decide_eq_false z];rfl
  ·rw[show ps.length-0=ps.length from rfl,Gr];exact .nil
  ·rintro i x σ' H' hx ⟨d,g,x4,ds,rfl,sm,hd,hg,hHE,hds,hil⟩;obtain⟨hi,hx'⟩:=x5a hx;rw[Ag] at hi hx';obtain⟨T1,p,rfl,hp,hT1⟩:=h2.get hx';rw[hTl] at hp hi;have hpm:p∈ps:=Ay hp;have edr:ps.drop (ps.length-(i+1))=p::ps.drop (ps.length-i):=by
    have:=q2j hp;rw[show ps.length-1-i=ps.length-(i+1) from by lia,show ps.length-(i+1)+1=ps.length-i from by lia] at this;exact this
   refine⟨_,rfl,_,rfl,_,rfl,T1,p,n,d,g,rfl,sm _ _ hT1,hok p hpm,hn,hd,fun e H2 he sm2 hde=>?_⟩;have eg:(fun x=>(g x).isSome)=fits n (ps.drop (ps.length-i)):=funext hg;rw[eg] at hde;have hdl:=hds.len;rw[Sz,De] at hdl;have hE2:H2 E=some (.lst (ds.map V.ref)):=sm2 _ _ hHE;refine⟨_,rfl,.inl ⟨rfl,_,SqL.of hE2⟩,_,rfl,E,_,_,rfl,rfl,hE2,by rw[Ag];exact small' (by lia),?_⟩;have eE:E≠e:=fun z=>by subst z;rw[he] at hHE;cases hHE
   have hde2:DF (upd H2 E (.lst (ds.map V.ref++[.ref e]))) e (far p n (fits n (ps.drop (ps.length-i)))):=by
    obtain⟨kvs,a1,a2,a3⟩:=hde.ex;exact⟨kvs,by rw[q0f (Ca eE)];exact a1,a2,a3⟩
   refine⟨e,_,_,ds++[e],rfl,(sm.trans sm2).put hE0,hde2,fun b=>?_,by rw[Av];exact q0c,?_,by lia⟩
   ·rw[edr];rfl
   ·rw[edr,List.reverse_append];refine .cons hde2 ?_;refine(hds.same sm2).keepL ?_;exact fun b kvs z=>by rw[q0f (fun y=>by subst y;rw[hE2] at z;cases z)];exact z
  ·rintro σ' H' ⟨d,g,x4,ds,rfl,sm,hd,hg,hHE,hds,hil⟩;rw[Ag,hTl,Ia,Nn] at hds;refine⟨_,rfl,.inl ⟨rfl,_,SqL.of hHE⟩,E,_,rfl,rfl,hHE,?_⟩;refine⟨_,rfl,k E _ ds.reverse hE0 (sm.put hE0) (by rw[<- List.map_reverse];exact q0c) (hds.keepL ?_)⟩;exact fun b kvs z=>by rw[q0f (fun y=>by subst y;rw[hHE] at z;cases z)];exact z
structure CallsE (P:Program) (w:World) (K:Ah) (mg:Str->Option Value) (base:Heap):Prop where
 parts_of:Cal P w K mg base "parts_of" 2 ["pattern"] spPartsOf
 ends_of_parts:Cal P w K mg base "ends_of_parts" 5 ["parts", "name"] spEnds
def spReading:Sp:=fun vs H Q _=>∃l n,vs=[.str (mk l),.str (mk n)]/\Good l/\n.length<=60/\(fits n (parse [] l) 0=false->∀H',Same H H'->Q .non H') /\
 (fits n (parse [] l) 0=true->∀L H',H L=none->Same H H'->H' L=some (.lst (vN (rd n (parse [] l) 0)))->Q (.ref L) H')
theorem wgg(p:Pt):decide (V.str p.word=V.str (Ac "gap"))=p.isG:=by
 cases p with
 |tx l=>show decide (V.str (Ac "text")=V.str (Ac "gap"))=false;decide +kernel
 |gp c=>exact decide_eq_true rfl
abbrev q4w:Stmt:=top 52
theorem sc_reading:FnScope ["pattern", "name", "parts", "ends", "texts", "begin", "part", "part_ends", "end"] ["pattern", "name"] (defScope q4w):=by trivial
theorem z5j(D:Df K mg "reading" q4w ["pattern", "name"])(T:Txt mg)(C:CallsE P w K mg base):Cal P w K mg base "reading" 6 ["pattern", "name"] spReading:=by
 refine D.cal sc_reading (fun vs H Q E h=>?_) (fun f cdv A outer s H vs Q E hr h=>?_)
 ·obtain⟨l,n,rfl,_⟩:=h;rfl
 ·obtain⟨l,n,rfl,hg,hn,kN,kS⟩:=h;refine⟨_,(q0b (q0l (i:=2) sc_reading.nd rfl (by trivial) (pe_c C.parts_of hr (q0a (pv 0) q0d))) (q0b (q0l (i:=3) sc_reading.nd rfl (by trivial) (pe_c C.ends_of_parts hr (q0a (pv 2) (q0a (pv 1) q0d)))) (q0b (q0t (q2c (z0b (q6w hr) q0g (q0v (ix_k K rfl) (pv 3) q0g (fun _ _=>rfl)))) (q0e (q0k q7b)) q0j) (q0b (q0l (i:=4) sc_reading.nd rfl (by trivial) (q1s q0d)) (q0b (q0l (i:=5) sc_reading.nd rfl (by trivial) q0g) (q0b (q1p Bt rfl (@zip_k _ _ _ _ _ _ _ _ _ K rfl rfl T.b_zip (q0a (pv 2) (q0a (pv 3) q0d)) (by rfl) (by rfl)) (@q2n _ _ _ _ (2) _ K rfl rfl (q0q (q0o (i:=6) sc_reading.nd rfl (by trivial)) (q0q (q0o (i:=7) sc_reading.nd rfl (by trivial)) q1t)) (by rfl) (by rfl)) (q0b (q0l (i:=8) sc_reading.nd rfl (by trivial) (z2d (q6w hr) (pv 7) (pv 5) (fun _ _=>rfl))) (q3d (q0t (q0h (eq_k K rfl hr) (q0v (ix_k K rfl) (pv 6) q0g (fun _ _=>rfl)) q0i (nomark _)) (q0e (q0w (@bm_k _ _ _ _ _ _ _ _ _ _ _ _ K rfl Bu Cp Cq q1i (pv 4) (q0a (q1c (sl_k K rfl) (pv 1) (q1b (pv 5)) (q1b (pv 8))) q0d) (by rfl) (by rfl) (by rfl) (by rfl) (by rfl)))) q0j) (q0e (q0l (i:=5) sc_reading.nd rfl (by trivial) (pv 8)))))) (q0e (q0k (pv 4))))))))),?_⟩;have hlen:=q0r n;have hll:=hg.len;refine⟨_,rfl,l,rfl,hg,fun L H1 hL sm1 hlL=>?_⟩;have hok:=q8i l [] (fun _ h=>nomatch h) hg.sg;have hne:=x2k l [] (.inr hg.ne);have hpl:=q8j l [];generalize hps:parse [] l=ps at hlL hok hne hpl kN kS;refine⟨_,rfl,_,rfl,L,n,ps,rfl,hlL,hok,by lia,hn,fun E H2 ds hE sm2 hHE hds=>?_⟩;have sm12:=sm1.trans sm2;have hdl:=hds.len;obtain⟨p0,ps0,rfl⟩:∃p0 ps0,ps=p0::ps0:=by cases ps with|nil=>exact absurd rfl hne|cons a b=>exact⟨a,b,rfl⟩
  obtain⟨d0,ds0,rfl⟩:∃d0 ds0,ds=d0::ds0:=by cases ds with|nil=>simp at hdl|cons a b=>exact⟨a,b,rfl⟩
  have hf0:fits n (p0::ps0) 0=(far p0 n (fits n ps0) 0).isSome:=rfl;obtain⟨q0,hq0,hdf0⟩:=hds.get (i:=0) rfl;cases hq0;refine⟨_,rfl,.inl ⟨E,_,0,.ref d0,rfl,rfl,SqL.of hHE,q1m (j:=0) rfl,d0,_,rfl,hdf0.get 0,_,rfl,?_⟩⟩;have eS:((far p0 n (fits n ((p0::ps0).drop (0+1))) 0).map fun e=>V.int (e:Nat)).isSome=fits n (p0::ps0) 0:=by
   rw[hf0];show(Option.map _ (far p0 n (fits n ps0) 0)).isSome=_;cases far p0 n (fits n ps0) 0<;>rfl
  rw[eS];refine iteB (fun h=>?_) (fun h=>?_)
  ·refine kN ?_ H2 sm12;cases hz:fits n (p0::ps0) 0 with
   |false=>rfl
   |true=>rw[hz] at h;cases h
  have hfit:fits n (p0::ps0) 0=true:=by
   cases hz:fits n (p0::ps0) 0 with
   |true=>rfl
   |false=>rw[hz] at h;cases h
  replace kS:=kS hfit;generalize hps:p0::ps0=ps at hlL hok hdl hds hfit kS hpl;generalize hdd:d0::ds0=ds at hdl hds hHE;refine⟨by show 0<=sizeLine;decide,fun X hX=>?_⟩;have hX0:H X=none:=sm12.free hX;have sm3:Same H2 (upd H2 X (.lst [])):=(Same.refl H2).new hX;have hlL2:HL H2 L ps:=hlL.same sm2;obtain⟨Ts,h1,h2⟩:=hlL2.ex;have hTl:=h2.len;refine .inr ⟨_,rfl,_,rfl,L,E,_,_,rfl,SqL.of (sm3 _ _ h1),SqL.of (sm3 _ _ hHE),x0a (xs:=Ts.map V.ref) (ys:=ds.map V.ref) (fun i σ' H'=>∃b ts x6 x7 x8,σ'=[some (.str (mk l)),some (.str (mk n)),some (.ref L),some (.ref E),some (.ref X),some (.int (b:Nat)),x6,x7,x8]/\Same H2 H'/\H' X=some (.lst (vN ts))/\fits n (ps.drop i) b=true/\ts++rd n (ps.drop i) b=rd n ps 0/\ts.length<=i/\i<=ps.length) ⟨0,[],none,none,none,rfl,sm3,q0c,hfit,rfl,Aj _,Be _⟩ (fun i σ' H' ⟨_,_,_,_,_,_,sm,_⟩=>⟨SqL.of (sm _ _ h1),SqL.of (sm _ _ hHE)⟩) ?_ ?_⟩
  ·rintro i x y T' σ' H' hx hy ⟨b,ts,x6,x7,x8,rfl,sm,hHX,hft,hrd,htl,hil⟩ hT';obtain⟨T1,p,rfl,hp,hT1⟩:=h2.get hx;obtain⟨d,hd,rfl⟩:∃d,ds[i]?=some d/\y=V.ref d:=by
    rw[Bi] at hy;cases hz:ds[i]? with
    |none=>rw[hz] at hy;cases hy
    |some d=>rw[hz] at hy;cases hy;exact⟨d,rfl,rfl⟩
   obtain⟨p',hp',hdf⟩:=hds.get hd;rw[hp] at hp';cases hp';have edr:=q2j hp;rw[edr] at hft hrd;have hf:(far p n (fits n (ps.drop (i+1))) b).isSome=true:=hft;obtain⟨e,he⟩:∃e,far p n (fits n (ps.drop (i+1))) b=some e:=by
    cases hz:far p n (fits n (ps.drop (i+1))) b with
    |none=>rw[hz] at hf;cases hf
    |some e=>exact⟨e,rfl⟩
   obtain⟨a1,a2,a3,a4,_⟩:=z3p he;have hi:i<ps.length:=(Aq.mp hp).1;refine⟨T',_,rfl,SqT.of q0c,rfl,_,_,rfl,_,_,rfl,rfl,?_⟩;generalize hH3:upd H' T' _=H3;have sm4:Same H' H3:=by rw[<- hH3];exact(Same.refl H').new hT'
   have sm5:Same H2 H3:=sm.trans sm4;have hg3:=(hdf.same sm5).get b;rw[he] at hg3;refine⟨_,rfl,_,rfl,d,_,rfl,hg3,?_⟩;have hHX3:H3 X=some (.lst (vN ts)):=sm4 _ _ hHX;have hT13:H3 T1=some (.tup p.vs):=sm5 _ _ hT1;refine⟨fun σ2 H4=>∃ts',σ2=[some (.str (mk l)),some (.str (mk n)),some (.ref L),some (.ref E),some (.ref X),some (.int (b:Nat)),some (.ref T1),some (.ref d),some (.int (e:Nat))]/\Same H2 H4/\H4 X=some (.lst (vN ts'))/\ts'=(if p.isG then ts++[cut n b e] else ts),?_,?_⟩
   ·rintro σ2 H4 ⟨ts',rfl,sm6,hHX4,ets⟩;refine⟨_,rfl,e,ts',_,_,_,rfl,sm6,hHX4,a3,?_,?_,hi⟩
    ·rw[<- hrd,ets];show _=ts++rd n (p::ps.drop (i+1)) b;cases hG:p.isG with
     |true=>simp[rd,hG,he]
     |false=>simp[rd,hG,he]
    ·rw[ets];split
     ·rw[Ai,Bc];lia
     ·lia
   ·refine⟨_,rfl,.inr (.inl ⟨T1,_,0,_,rfl,rfl,SqT.of hT13,rfl,.inl ⟨rfl,_,rfl,?_⟩⟩)⟩;rw[wgg];refine ite2 (fun h=>?_) (fun h=>?_)
    ·refine⟨_,rfl,.inl ⟨rfl,_,SqL.of hHX3⟩,_,rfl,_,rfl,_,rfl,_,rfl,_,rfl,.inl ⟨_,rfl,small (by lia),?_⟩⟩;rw[q6m a1 a2];refine⟨X,_,_,rfl,rfl,hHX3,by rw[Ag];exact small' (by lia),?_⟩;exact⟨ts++[cut n b e],rfl,sm5.put hX,by rw[show vN (ts++[cut n b e])=vN ts++[V.str (mk (cut n b e))] from Av];exact q0c,by rw[if_pos h]⟩
    ·exact⟨ts,rfl,sm5,hHX3,by rw[if_neg h]⟩
  ·rintro σ' H' ⟨b,ts,x6,x7,x8,rfl,sm,hHX,hft,hrd,htl,hil⟩;have emin:min (Ts.map V.ref).length (ds.map V.ref).length=ps.length:=by rw[Ag,Ag,hTl,hdl,Tw]
   rw[emin,Gr] at hrd;rw[show rd n [] b=[] from rfl,Dm] at hrd;refine⟨_,rfl,kS X H' hX0 (sm12.trans sm) ?_⟩;rw[<- hrd];exact hHX
end
end K
set_option maxHeartbeats 4000000
namespace K
open PySem L2 TX
section
variable{P:Program}{w:World}{K:Ah}{mg:Str->Option Value}{base:Heap}
def spAsked:Sp:=fun vs H Q _=>∃(l:List Nat) (at_ c:Nat) (g:Str),vs=[.str (mk l),.int (at_:Int),.str g]/\l[at_]?=some c/\c∈tl g/\l.length<=1000/\Q (.str (mk [c])) H
abbrev q8w:Stmt:=top 29
theorem x1d:FnScope ["template", "at", "signs"] ["template", "at", "signs"] (defScope q8w):=by trivial
theorem x1e(D:Df K mg "asked" q8w ["template", "at", "signs"])(T:Txt mg):Cal P w K mg base "asked" 1 ["template", "at", "signs"] spAsked:=by
 refine D.cal x1d (fun vs H Q E h=>?_) (fun f cdv A outer s H vs Q E hr h=>?_)
 ·obtain⟨l,at_,c,g,rfl,_⟩:=h;rfl
 ·obtain⟨l,at_,c,g,rfl,hc,hg,hl,k⟩:=h;refine⟨_,(q0b (q0t (pt_j (@PW.pt _ _ _ (z1t (q0h op_ge (pv 1) (q0p (q1z K rfl) (by rfl) T.b_len Br (q0a (pv 0) q0d)) (nomark _)) (q5r (q0h (x3w K rfl) (q0v (ix_k K rfl) (pv 0) (pv 1) (fun _ _=>rfl)) (pv 2) (by with_unfolding_all rfl)))))) (q0e q1g) q0j) (q0e (q0k (q0v (ix_k K rfl) (pv 0) (pv 1) (fun _ _=>rfl))))),?_⟩;have hlen:=q0r l;have hlt:=(Aq.mp hc).1;have hat:atI (tl (mk l)) ((at_:Nat):Int)=some c:=q1m (by rw[q0y];exact hc);refine⟨fun b H'=>b=false/\H'=H,?_,?_⟩;rotate_left
  ·refine⟨_,rfl,_,rfl,_,_,rfl,⟨small (by lia),rfl⟩,_,_,rfl,rfl,_,rfl,?_⟩;refine iteB (fun h=>absurd (of_decide_eq_true h) (by lia)) (fun h=>?_);refine⟨_,rfl,_,rfl,.inr (.inr ⟨mk l,_,c,rfl,rfl,small (by lia),hat,_,rfl,.inl ⟨_,_,rfl,rfl,_,rfl,?_,rfl⟩⟩)⟩;rw[q7j,decide_eq_true hg];rfl
  rintro b H' ⟨rfl,rfl⟩;exact iteF ⟨_,rfl,_,rfl,.inr (.inr ⟨mk l,_,c,rfl,rfl,small (by lia),hat,k⟩)⟩
def spEndOf:Sp:=fun vs H Q _=>∃(l:List Nat) (at_ most k:Nat) (g:Str),vs=[.str (mk l),.int (at_:Int),.str g,.int (most:Int)]/\l.length<=1000/\at_+k<=l.length/\k<=most/\(∀j,j<k->∃c,l[at_+j]?=some c/\c∈tl g)/\(k=most\/at_+k=l.length\/∃c,l[at_+k]?=some c/\¬c∈tl g)/\Q (.int ((at_+k:Nat):Int)) H
def enMeas(n:Nat)(σ:St):Nat:=match σ[4]? with|some (some (V.int e))=>n-e.toNat|_=>0
abbrev q6o:Stmt:=top 30
theorem sc_end_of:FnScope ["template", "at", "signs", "most", "end"] ["template", "at", "signs", "most"] (defScope q6o):=by trivial
theorem z8p(D:Df K mg "end_of" q6o ["template", "at", "signs", "most"])(T:Txt mg):Cal P w K mg base "end_of" 1 ["template", "at", "signs", "most"] spEndOf:=by
 refine D.cal sc_end_of (fun vs H Q E h=>?_) (fun f cdv A outer s H vs Q E hr h=>?_)
 ·obtain⟨l,at_,most,n,g,rfl,_⟩:=h;rfl
 ·obtain⟨l,at_,most,n,g,rfl,hl,hle,hm,hin,hst,k⟩:=h;refine⟨_,(q0b (q0l (i:=4) sc_end_of.nd rfl (by trivial) (pv 1)) (q0b (z2z Bt (pt_j (@PW.pt _ _ _ (q4k (q0h z4j (pv 4) (q0p (q9i rfl) (by rfl) T.b_min (by decide +kernel) (q0a (q0p (q1z K rfl) (by rfl) T.b_len Br (q0a (pv 0) q0d)) (q0a (q0s q0m (pv 1) (pv 3)) q0d))) (nomark _)) (q2q (q0h (in_k K rfl) (q0v (ix_k K rfl) (pv 0) (pv 4) (fun _ _=>rfl)) (pv 2) (by with_unfolding_all rfl)))))) (q0e (x2b (i:=4) sc_end_of.nd rfl (by trivial) q0g z6a))) (q0e (q0k (pv 4))))),?_⟩;have hlen:=q0r l;refine⟨_,rfl,?_⟩;refine z3b (fun σ3 H3=>∃j:Nat,σ3=[some (.str (mk l)),some (.int (at_:Int)),some (.str g),some (.int (most:Int)),some (.int ((at_+j:Nat):Int))]/\H3=H/\j<=n) (fun σ3 _=>enMeas (at_+n+1) σ3) ⟨0,rfl,rfl,Be _⟩ ?_ ?_
  ·rintro σ3 H3 ⟨j,rfl,rfl,hj⟩;refine⟨fun b H4=>H4=H3/\b=decide (j<n),?_,?_⟩;rotate_left
   ·refine⟨_,rfl,_,rfl,_,_,rfl,⟨small (by lia),rfl⟩,_,rfl,_,rfl,.inl ⟨_,_,rfl,rfl,_,_,rfl,?_⟩⟩;refine⟨_,_,rfl,rfl,_,rfl,?_⟩;refine iteB (fun h=>?_) (fun h=>?_)
    ·have h1:=of_decide_eq_true h;have hlt:at_+j<l.length/\j<most:=by
      split at h1<;>lia
     have hd:l[at_+j]?=some l[at_+j]:=Bl hlt.1;refine⟨_,rfl,_,rfl,.inr (.inr ⟨mk l,_,l[at_+j],rfl,rfl,small (by lia),q1m (show(tl (mk l))[at_+j]?=_ by rw[q0y];exact hd),_,rfl,.inl ⟨_,_,rfl,rfl,_,rfl,rfl,?_⟩⟩)⟩;rw[q7j];by_cases hz:j<n
     ·obtain⟨c,hc1,hc2⟩:=hin j hz;rw[hd] at hc1;cases hc1;rw[decide_eq_true hc2,decide_eq_true hz]
     ·have ej:j=n:=by lia
      subst ej;rcases hst with z|z|⟨c,hc1,hc2⟩
      ·lia
      ·lia
      ·rw[hd] at hc1;cases hc1;rw[decide_eq_false hc2,decide_eq_false hz]
    ·have h1:=of_decide_eq_false h;refine⟨rfl,?_⟩;have:¬j<n:=by
      intro z;refine h1 ?_;split<;>lia
     rw[decide_eq_false this]
   rintro b H4 ⟨rfl,rfl⟩;refine ite2 (fun h=>?_) (fun h=>?_)
   ·have hz:=of_decide_eq_true h;refine⟨_,rfl,_,_,rfl,rfl,⟨j+1,rfl,rfl,by lia⟩,?_⟩;show at_+n+1-(((at_+j:Nat):Int)+1).toNat<at_+n+1-((at_+j:Nat):Int).toNat;lia
   ·have hz:¬j<n:=fun z=>h (decide_eq_true z);have ej:j=n:=by lia
    subst ej;exact⟨_,rfl,k⟩
  ·rintro σ H Q Q' hq ⟨J,hJ,hw⟩;exact⟨J,fun b H1 z=>hq b H1 (hJ b H1 z),hw⟩
inductive Pc where
 |tx (l:List Nat)
 |gap (k:Nat)
 |great (k:Nat)
 |small (k:Nat)
 |nou (k w:Nat)
 |more (k m:Nat)
 |cnt (v:Nat)
 |into
def Pc.vs:Pc->List V
 |.tx l=>[.str (Ac "text"),.str (mk l)]
 |.gap k=>[.str (Ac "gap"),.int (k:Int)]
 |.great k=>[.str (Ac "great"),.int (k:Int)]
 |.small k=>[.str (Ac "small"),.int (k:Int)]
 |.nou k w=>[.str (Ac "noughts"),.int (k:Int),.int (w:Int)]
 |.more k m=>[.str (Ac "more"),.int (k:Int),.int (m:Int)]
 |.cnt v=>[.str (Ac "count"),.int (v:Int)]
 |.into=>[.str (Ac "into")]
def cntW(v:Nat):List Nat:=if v=1 then[125] else[48+v,125]
def Pc.wr:Pc->List Nat
 |.tx l=>l
 |.gap k=>123::(48+k)::[125]
 |.great k=>123::(48+k)::[117,125]
 |.small k=>123::(48+k)::[108,125]
 |.nou k w=>123::(48+k)::122::[48+w,125]
 |.more k m=>123::(48+k)::43::(dg m++[125])
 |.cnt v=>123::110::cntW v
 |.into=>[47]
def Pc.ok:Pc->Prop
 |.tx l=>l≠[]/\∀c∈l,c∈NS
 |.gap k=>1<=k/\k<=9
 |.great k=>1<=k/\k<=9
 |.small k=>1<=k/\k<=9
 |.nou k w=>(1<=k/\k<=9)/\1<=w/\w<=9
 |.more k m=>(1<=k/\k<=9)/\m<10^9
 |.cnt v=>1<=v/\v<=9
 |.into=>True
def RT(H:Hp)(Q:VK)(p:Pc)(e:Nat):Prop:=∀T1 T2 H',H T1=none->H T2=none->Same H H'->H' T1=some (.tup p.vs)->H' T2=some (.tup [.ref T1,.int ((e:Nat):Int)])->Q (.ref T2) H'
theorem RT.go{H:Hp}{Q:VK}{p:Pc}{e:Nat}{i:Int}(h:RT H Q p e)(hi:i=((e:Nat):Int)){T1 T2:Addr}(h1:H T1=none)(h2:upd H T1 (.tup p.vs) T2=none):Q (.ref T2) (upd (upd H T1 (.tup p.vs)) T2 (.tup [.ref T1,.int i])):=by
 subst hi;have hne:T1≠T2:=q0n q0c h2;refine h T1 T2 _ h1 (by rw[q0f (Ca hne)] at h2;exact h2) (((Same.refl H).new h1).new h2) ?_ q0c;rw[q0f hne];exact q0c
theorem q1d{l r:List Nat}{i c:Nat}(h:l.drop i=c::r):l[i]?=some c/\l.drop (i+1)=r:=by
 have h1:=congrArg (fun x=>x[0]?) h;have h2:=congrArg (fun x=>x.drop 1) h;refine⟨by simpa[Oi] using h1,?_⟩;rw[<- List.drop_drop,h];rfl
theorem z8q{v:Nat}(h:v<10):Ky (mk [48+v])=some (v:Int):=by rw[<- q2k h];exact z7g (by lia)
structure CallsT (P:Program) (w:World) (K:Ah) (mg:Str->Option Value) (base:Heap):Prop where
 asked:Cal P w K mg base "asked" 1 ["template", "at", "signs"] spAsked
 end_of:Cal P w K mg base "end_of" 1 ["template", "at", "signs", "most"] spEndOf
def spCount:Sp:=fun vs H Q _=>∃(l r:List Nat) (a v:Nat),vs=[.str (mk l),.int (a:Int)]/\l.length<=1000/\1<=v/\v<=9/\l.drop a=cntW v++r/\RT H Q (.cnt v) (a+(cntW v).length)
theorem in_two:∀v,v<10->2<=v->48+v∈tl (Ac "}" ++ Ac "23456789"):=by decide +kernel
theorem x5b:∀v,v<10->1<=v->48+v∈tl (Ac "123456789"):=by decide +kernel
theorem in_fig:∀v,v<10->48+v∈tl (Ac "0123456789"):=by decide +kernel
abbrev q2w:Stmt:=top 31
theorem sc_read_count:FnScope ["template", "at", "sign"] ["template", "at"] (defScope q2w):=by trivial
theorem q8x(D:Df K mg "read_count" q2w ["template", "at"])(T:Txt mg)(C:CallsT P w K mg base):Cal P w K mg base "read_count" 2 ["template", "at"] spCount:=by
 refine D.cal sc_read_count (fun vs H Q E h=>?_) (fun f cdv A outer s H vs Q E hr h=>?_)
 ·obtain⟨l,r,a,v,rfl,_⟩:=h;rfl
 ·obtain⟨l,r,a,v,rfl,hl,hv1,hv9,hd,k⟩:=h;obtain⟨_,g_FROM_TWO⟩:=T.FROM_TWO;refine⟨_,(q0b (q0l (i:=2) sc_read_count.nd rfl (by trivial) (pe_c C.asked hr (q0a (pv 0) (q0a (pv 1) (q0a (q0s q0m q0i (q1a (v:=.str (Ac "23456789")) (by rfl) g_FROM_TWO ⟨_,rfl⟩)) q0d))))) (q0b (q0t (q0h (eq_k K rfl hr) (pv 2) q0i (nomark _)) (q0e (q0k (q0u (q0a (q0u (q0a q0i (q0a q0g q0d))) (q0a (q0s q0m (pv 1) q0g) q0d))))) q0j) (q0b (q0w (pe_c C.asked hr (q0a (pv 0) (q0a (q0s q0m (pv 1) q0g) (q0a q0i q0d))))) (q0e (q0k (q0u (q0a (q0u (q0a q0i (q0a (q1f q3e (by rfl) T.b_int (by decide +kernel) (q0a (pv 2) q0d)) q0d))) (q0a (q0s q0m (pv 1) q0g) q0d)))))))),?_⟩;have e9:(Ac "}").length+(Ac "23456789").length<=1000:=by decide +kernel
  by_cases hv:v=1
  ·subst hv;have hd':l.drop a=125::r:=hd;obtain⟨hc,_⟩:=q1d hd';refine⟨_,rfl,_,rfl,.inr (.inl ⟨_,_,rfl,rfl,small (by lia),l,a,125,_,rfl,hc,by decide +kernel,hl,?_⟩)⟩;refine⟨_,rfl,.inl ⟨rfl,_,rfl,?_⟩⟩;rw[lit1 125 125 "}" (by decide +kernel),decide_eq_true rfl];refine iteT ⟨by show 2<=sizeLine;decide,fun T1 hT1=>⟨_,rfl,.inl ⟨_,_,rfl,rfl,by show 2<=sizeLine;decide,fun T2 hT2=>?_⟩⟩⟩;exact k.go (by show(a:Int)+1=((a+1:Nat):Int);lia) hT1 hT2
  ·have ew:cntW v=[48+v,125]:=by unfold cntW;rw[if_neg hv]
   rw[ew] at hd k;obtain⟨hc,hd2⟩:=q1d (show l.drop a=(48+v)::(125::r) from hd);obtain⟨hc2,_⟩:=q1d hd2;refine⟨_,rfl,_,rfl,.inr (.inl ⟨_,_,rfl,rfl,small (by lia),l,a,48+v,_,rfl,hc,in_two v (by lia) (by lia),hl,?_⟩)⟩;refine⟨_,rfl,.inl ⟨rfl,_,rfl,?_⟩⟩;rw[lit1 (48+v) 125 "}" (by decide +kernel),decide_eq_false (by lia)];refine iteF ⟨_,rfl,_,rfl,.inl ⟨_,_,rfl,rfl,l,a+1,125,_,by rfl,hc2,by decide +kernel,hl,?_⟩⟩;refine⟨_,rfl,.inr ⟨_,_,rfl,z8q (by lia),by rw[q0r];show 1<=640;decide,by show 2<=sizeLine;decide,fun T1 hT1=>⟨_,rfl,.inl ⟨_,_,rfl,rfl,by show 2<=sizeLine;decide,fun T2 hT2=>?_⟩⟩⟩⟩;exact k.go (by show(a:Int)+2=((a+2:Nat):Int);lia) hT1 hT2
def spNoughts:Sp:=fun vs H Q _=>∃(l r:List Nat) (a g v:Nat),vs=[.str (mk l),.int (a:Int),.int (g:Int)]/\l.length<=1000/\1<=v/\v<=9/\l.drop a=(48+v)::125::r/\RT H Q (.nou g v) (a+2)
abbrev q2g:Stmt:=top 32
theorem sc_read_noughts:FnScope ["template", "at", "gap", "width"] ["template", "at", "gap"] (defScope q2g):=by trivial
theorem q6p(D:Df K mg "read_noughts" q2g ["template", "at", "gap"])(T:Txt mg)(C:CallsT P w K mg base):Cal P w K mg base "read_noughts" 2 ["template", "at", "gap"] spNoughts:=by
 refine D.cal sc_read_noughts (fun vs H Q E h=>?_) (fun f cdv A outer s H vs Q E hr h=>?_)
 ·obtain⟨l,r,a,g,v,rfl,_⟩:=h;rfl
 ·obtain⟨l,r,a,g,v,rfl,hl,hv1,hv9,hd,k⟩:=h;obtain⟨_,g_FROM_ONE⟩:=T.FROM_ONE;refine⟨_,(q0b (q0l (i:=3) sc_read_noughts.nd rfl (by trivial) (pe_c C.asked hr (q0a (pv 0) (q0a (pv 1) (q0a (q1a (v:=.str (Ac "123456789")) (by rfl) g_FROM_ONE ⟨_,rfl⟩) q0d))))) (q0b (q0w (pe_c C.asked hr (q0a (pv 0) (q0a (q0s q0m (pv 1) q0g) (q0a q0i q0d))))) (q0e (q0k (q0u (q0a (q0u (q0a q0i (q0a (pv 2) (q0a (q1f q3e (by rfl) T.b_int (by decide +kernel) (q0a (pv 3) q0d)) q0d)))) (q0a (q0s q0m (pv 1) q0g) q0d))))))),?_⟩;obtain⟨hc,hd2⟩:=q1d hd;obtain⟨hc2,_⟩:=q1d hd2;refine⟨_,rfl,_,rfl,l,a,48+v,_,rfl,hc,x5b v (by lia) (by lia),hl,?_⟩;refine⟨_,rfl,_,rfl,.inl ⟨_,_,rfl,rfl,l,a+1,125,_,by rfl,hc2,by decide +kernel,hl,?_⟩⟩;refine⟨_,rfl,_,rfl,.inr ⟨_,_,rfl,z8q (by lia),by rw[q0r];show 1<=640;decide,by show 3<=sizeLine;decide,fun T1 hT1=>⟨_,rfl,.inl ⟨_,_,rfl,rfl,by show 2<=sizeLine;decide,fun T2 hT2=>?_⟩⟩⟩⟩;exact k.go (by show(a:Int)+2=((a+2:Nat):Int);lia) hT1 hT2
def spMore:Sp:=fun vs H Q _=>∃(l r:List Nat) (a g m:Nat),vs=[.str (mk l),.int (a:Int),.int (g:Int)]/\l.length<=1000/\m<10^9/\l.drop a=dg m++125::r/\RT H Q (.more g m) (a+(dg m).length+1)
theorem q8y{l x y:List Nat}{a j:Nat}(h:l.drop a=x++y)(hj:j<x.length):∃c,l[a+j]?=some c/\x[j]?=some c:=by
 refine⟨x[j],?_,Bl hj⟩;rw[<- Oi,h,Bj hj];exact Bl hj
theorem drop_app{l x y:List Nat}{a:Nat}(h:l.drop a=x++y):l.drop (a+x.length)=y:=by
 rw[<- List.drop_drop,h,List.drop_left]
theorem z3z{l x y:List Nat}{a:Nat}(h:l.drop a=x++y)(hx:x≠[]):a+x.length<=l.length:=by
 have h1:=congrArg List.length h;rw[De,Ai] at h1;have:0<x.length:=Cw.mpr hx;lia
abbrev q3h:Stmt:=top 33
theorem sc_read_more:FnScope ["template", "at", "gap", "first", "end"] ["template", "at", "gap"] (defScope q3h):=by trivial
theorem z0w(D:Df K mg "read_more" q3h ["template", "at", "gap"])(T:Txt mg)(C:CallsT P w K mg base):Cal P w K mg base "read_more" 2 ["template", "at", "gap"] spMore:=by
 refine D.cal sc_read_more (fun vs H Q E h=>?_) (fun f cdv A outer s H vs Q E hr h=>?_)
 ·obtain⟨l,r,a,g,m,rfl,_⟩:=h;rfl
 ·obtain⟨l,r,a,g,m,rfl,hl,hm,hd,k⟩:=h;obtain⟨_,g_FIGURES⟩:=T.FIGURES;obtain⟨_,g_MOST_FIGURES⟩:=T.MOST_FIGURES;refine⟨_,(q0b (q0l (i:=3) sc_read_more.nd rfl (by trivial) (pe_c C.asked hr (q0a (pv 0) (q0a (pv 1) (q0a (q1a (v:=.str (Ac "0123456789")) (by rfl) g_FIGURES ⟨_,rfl⟩) q0d))))) (q0b (q0l (i:=4) sc_read_more.nd rfl (by trivial) (pe_c C.end_of hr (q0a (pv 0) (q0a (pv 1) (q0a (q1a (v:=.str (Ac "0123456789")) (by rfl) g_FIGURES ⟨_,rfl⟩) (q0a (pe_j (q5k (q0h (eq_k K rfl hr) (pv 3) q0i (nomark _)) q0g (q1a (v:=.int 9) (by rfl) g_MOST_FIGURES ⟨_,rfl⟩))) q0d)))))) (q0b (q0w (pe_c C.asked hr (q0a (pv 0) (q0a (pv 4) (q0a q0i q0d))))) (q0e (q0k (q0u (q0a (q0u (q0a q0i (q0a (pv 2) (q0a (q1f q3e (by rfl) T.b_int (by decide +kernel) (q0a (q1c (sl_k K rfl) (pv 0) (q1b (pv 1)) (q1b (pv 4))) q0d)) q0d)))) (q0a (q0s q0m (pv 4) q0g) q0d)))))))),?_⟩;have hlen:=q0r l;obtain⟨d0,r0,hd0,hd10,hd00⟩:=z7f m;have hdl:=z0d 8 m (by lia);have hdp:=dg_pos m;have hne:dg m≠[]:=by rw[hd0];simp
  have hle:=z3z hd hne;have hfig:=x2m m;obtain⟨hc0,_⟩:=q1d (show l.drop a=(48+d0)::(r0++125::r) by rw[hd,hd0];rfl);obtain⟨hce,_⟩:=q1d (drop_app hd);refine⟨_,rfl,_,rfl,l,a,48+d0,_,rfl,hc0,in_fig d0 hd10,hl,?_⟩;refine⟨_,rfl,_,rfl,?_⟩;refine⟨fun v H'=>H'=H/\∃most:Nat,v=.int (most:Int)/\(dg m).length<=most,?_,?_⟩;rotate_left
  ·refine⟨_,rfl,.inl ⟨rfl,_,rfl,?_⟩⟩;rw[lit1 (48+d0) 48 "0" (by decide +kernel)];refine ite2 (fun h=>?_) (fun h=>?_)
   ·have hz:d0=0:=by have:=of_decide_eq_true h;lia
    have hr:=(hd00 hz).2;exact⟨rfl,1,rfl,by rw[hd0,hr];simp⟩
   ·exact⟨rfl,9,rfl,hdl⟩
  rintro v H' ⟨rfl,most,rfl,hmost⟩;refine⟨l,a,most,(dg m).length,_,rfl,hl,hle,hmost,fun j hj=>?_,.inr (.inr ⟨125,hce,by decide +kernel⟩),?_⟩
  ·obtain⟨c,h1,h2⟩:=q8y hd hj;exact⟨c,h1,hfig c (Ay h2)⟩
  refine⟨_,rfl,_,rfl,l,a+(dg m).length,125,_,rfl,hce,by decide +kernel,hl,?_⟩;refine⟨_,rfl,_,rfl,_,rfl,_,rfl,_,rfl,_,rfl,.inl ⟨_,rfl,small (by lia),?_⟩⟩;rw[z0c (by lia) (by lia),show a+(dg m).length-a=(dg m).length from by lia,hd,List.take_left];refine .inr ⟨_,_,rfl,z7g (by lia),by rw[q0r];lia,by show 3<=sizeLine;decide,fun T1 hT1=>⟨_,rfl,.inl ⟨_,_,rfl,rfl,by show 2<=sizeLine;decide,fun T2 hT2=>?_⟩⟩⟩;exact k.go (by show((a+(dg m).length:Nat):Int)+1=((a+(dg m).length+1:Nat):Int);lia) hT1 hT2
def spRText:Sp:=fun vs H Q _=>∃(l t r:List Nat) (a:Nat),vs=[.str (mk l),.int (a:Int)]/\l.length<=1000/\l.drop a=t++r/\t≠[]/\(∀c∈t,c∈NS)/\(∀c r',r=c::r'->¬c∈NS)/\RT H Q (.tx t) (a+t.length)
abbrev q3i:Stmt:=top 37
theorem sc_read_text:FnScope ["template", "at", "end"] ["template", "at"] (defScope q3i):=by trivial
theorem z0x(D:Df K mg "read_text" q3i ["template", "at"])(T:Txt mg)(C:CallsT P w K mg base):Cal P w K mg base "read_text" 2 ["template", "at"] spRText:=by
 refine D.cal sc_read_text (fun vs H Q E h=>?_) (fun f cdv A outer s H vs Q E hr h=>?_)
 ·obtain⟨l,t,r,a,rfl,_⟩:=h;rfl
 ·obtain⟨l,t,r,a,rfl,hl,hd,hne,hns,hst,k⟩:=h;obtain⟨_,g_NAME_SIGNS⟩:=T.NAME_SIGNS;refine⟨_,(q0b (q0w (pe_c C.asked hr (q0a (pv 0) (q0a (pv 1) (q0a (q1a (v:=.str (Ac "abcdefghijklmnopqrstuvwxyzABCDEFGHIJKLMNOPQRSTUVWXYZ0123456789-_.")) (by rfl) g_NAME_SIGNS ⟨_,rfl⟩) q0d))))) (q0b (q0l (i:=2) sc_read_text.nd rfl (by trivial) (pe_c C.end_of hr (q0a (pv 0) (q0a (pv 1) (q0a (q1a (v:=.str (Ac "abcdefghijklmnopqrstuvwxyzABCDEFGHIJKLMNOPQRSTUVWXYZ0123456789-_.")) (by rfl) g_NAME_SIGNS ⟨_,rfl⟩) (q0a (q0p (q1z K rfl) (by rfl) T.b_len Br (q0a (pv 0) q0d)) q0d)))))) (q0e (q0k (q0u (q0a (q0u (q0a q0i (q0a (q1c (sl_k K rfl) (pv 0) (q1b (pv 1)) (q1b (pv 2))) q0d))) (q0a (pv 2) q0d))))))),?_⟩;have hlen:=q0r l;have hle:=z3z hd hne;have hp:0<t.length:=Cw.mpr hne;obtain⟨c0,h01,h02⟩:=q8y hd hp;refine⟨_,rfl,_,rfl,l,a,c0,_,rfl,h01,hns c0 (Ay h02),hl,?_⟩;refine⟨_,rfl,_,rfl,_,rfl,_,_,rfl,⟨small (by lia),rfl⟩,?_⟩;refine⟨l,a,l.length,t.length,_,by rw[hlen];rfl,hl,hle,by lia,fun j hj=>?_,?_,?_⟩
  ·obtain⟨c,h1,h2⟩:=q8y hd hj;exact⟨c,h1,hns c (Ay h2)⟩
  ·cases r with
   |nil =>
    have h1:=congrArg List.length hd;rw[De,Dm] at h1;exact .inr (.inl (by lia))
   |cons c r'=>exact .inr (.inr ⟨c,(q1d (drop_app hd)).1,hst c r' rfl⟩)
  refine⟨_,rfl,_,rfl,_,rfl,_,rfl,_,rfl,.inl ⟨_,rfl,small (by lia),?_⟩⟩;rw[z0c (by lia) (by lia),show a+t.length-a=t.length from by lia,hd,List.take_left];refine⟨by show 2<=sizeLine;decide,fun T1 hT1=>⟨_,rfl,by show 2<=sizeLine;decide,fun T2 hT2=>?_⟩⟩;exact k.go rfl hT1 hT2
def spInto:Sp:=fun vs H Q _=>∃(l:List Nat) (a c:Nat),vs=[.str (mk l),.int (a:Int)]/\l.length<=1000/\1<=a/\l[a-1]?=some c/\c≠47/\RT H Q .into (a+1)
abbrev q3j:Stmt:=top 36
theorem z0y:FnScope ["template", "at"] ["template", "at"] (defScope q3j):=by trivial
theorem z0z(D:Df K mg "read_into" q3j ["template", "at"])(T:Txt mg):Cal P w K mg base "read_into" 1 ["template", "at"] spInto:=by
 refine D.cal z0y (fun vs H Q E h=>?_) (fun f cdv A outer s H vs Q E hr h=>?_)
 ·obtain⟨l,a,c,rfl,_⟩:=h;rfl
 ·obtain⟨l,a,c,rfl,hl,ha,hc,hn,k⟩:=h;refine⟨_,(q0b (q0t (pt_j (@PW.pt _ _ _ (z1t (q0h (eq_k K rfl hr) (pv 1) q0g (nomark _)) (q5r (q0h (eq_k K rfl hr) (q0v (ix_k K rfl) (pv 0) (q0s z5y (pv 1) q0g) (fun _ _=>rfl)) q0i (nomark _)))))) (q0e q1g) q0j) (q0e (q0k (q0u (q0a (q0u (q0a q0i q0d)) (q0a (q0s q0m (pv 1) q0g) q0d)))))),?_⟩;have hlen:=q0r l;refine⟨fun b H'=>b=false/\H'=H,?_,?_⟩;rotate_left
  ·refine⟨_,rfl,.inl ⟨rfl,_,rfl,?_⟩⟩;refine iteB (fun h=>?_) (fun h=>?_)
   ·have:=of_decide_eq_true h;injection this with this;lia
   refine⟨_,rfl,_,rfl,_,_,rfl,rfl,.inr (.inr ⟨mk l,_,c,rfl,rfl,small (by lia),?_,.inl ⟨rfl,_,rfl,?_,rfl⟩⟩)⟩
   ·rw[show((a:Nat):Int)-1=((a-1:Nat):Int) from by lia];exact q1m (show(tl (mk l))[a-1]?=_ by rw[q0y];exact hc)
   ·show decide (V.str (mk [c])=V.str (Ac "/"))=false;rw[lit1 c 47 "/" (by decide +kernel),decide_eq_false hn]
  rintro b H' ⟨rfl,rfl⟩;refine iteF ⟨by show 1<=sizeLine;decide,fun T1 hT1=>⟨_,rfl,.inl ⟨_,_,rfl,rfl,by show 2<=sizeLine;decide,fun T2 hT2=>?_⟩⟩⟩;exact k.go (by show(a:Int)+1=((a+1:Nat):Int);lia) hT1 hT2
def casesKV:List (Key×V):=[(Sum.inr (Ac "u"),.str (Ac "great")),(Sum.inr (Ac "l"),.str (Ac "small"))]
structure CallsU (P:Program) (w:World) (K:Ah) (mg:Str->Option Value) (base:Heap):Prop where
 asked:Cal P w K mg base "asked" 1 ["template", "at", "signs"] spAsked
 read_noughts:Cal P w K mg base "read_noughts" 2 ["template", "at", "gap"] spNoughts
 read_more:Cal P w K mg base "read_more" 2 ["template", "at", "gap"] spMore
 cases_:∃d,mg "CASES" = some (.ref d)/\KDict P w K d casesKV
def Pc.gt:Pc->Option (Nat×List Nat)
 |.gap k=>some (k,[125])
 |.great k=>some (k,[117,125])
 |.small k=>some (k,[108,125])
 |.nou k w=>some (k,[122,48+w,125])
 |.more k m=>some (k,43::(dg m++[125]))
 |_=>none
def spGap:Sp:=fun vs H Q _=>∃(l r t:List Nat) (a g:Nat) (p:Pc),vs=[.str (mk l),.int (a:Int),.int (g:Int)]/\l.length<=1000/\p.ok/\p.gt=some (g,t)/\l.drop a=t++r/\RT H Q p (a+t.length)
abbrev q4c:Stmt:=top 34
theorem sc_read_gap:FnScope ["template", "at", "gap", "sign"] ["template", "at", "gap"] (defScope q4c):=by trivial
theorem z2p(D:Df K mg "read_gap" q4c ["template", "at", "gap"])(T:Txt mg)(C:CallsU P w K mg base):Cal P w K mg base "read_gap" 3 ["template", "at", "gap"] spGap:=by
 refine D.cal sc_read_gap (fun vs H Q E h=>?_) (fun f cdv A outer s H vs Q E hr h=>?_)
 ·obtain⟨l,r,t,a,g,p,rfl,_⟩:=h;rfl
 ·obtain⟨l,r,t,a,g,p,rfl,hl,hok,hgt,hd,k⟩:=h;obtain⟨dC,g_CASES,k_CASES⟩:=C.cases_;refine⟨_,(q0b (q0l (i:=3) sc_read_gap.nd rfl (by trivial) (pe_c C.asked hr (q0a (pv 0) (q0a (pv 1) (q0a q0i q0d))))) (q0b (q0t (q0h (eq_k K rfl hr) (pv 3) q0i (nomark _)) (q0e (q0k (q0u (q0a (q0u (q0a q0i (q0a (pv 2) q0d))) (q0a (q0s q0m (pv 1) q0g) q0d))))) q0j) (q0b (q0t (q0h (eq_k K rfl hr) (pv 3) q0i (nomark _)) (q0e (q0k (pe_c C.read_noughts hr (q0a (pv 0) (q0a (q0s q0m (pv 1) q0g) (q0a (pv 2) q0d)))))) q0j) (q0b (q0t (q0h (eq_k K rfl hr) (pv 3) q0i (nomark _)) (q0e (q0k (pe_c C.read_more hr (q0a (pv 0) (q0a (q0s q0m (pv 1) q0g) (q0a (pv 2) q0d)))))) q0j) (q0b (q0w (pe_c C.asked hr (q0a (pv 0) (q0a (q0s q0m (pv 1) q0g) (q0a q0i q0d))))) (q0e (q0k (q0u (q0a (q0u (q0a (x4g (by rfl) g_CASES k_CASES (pv 3) (fun _ _=>rfl)) (q0a (pv 2) q0d))) (q0a (q0s q0m (pv 1) q0g) q0d)))))))))),?_⟩;have no:∀(c d:Nat) (s:String),Ac s=mk [d]->c≠d->decide (V.str (mk [c])=V.str (Ac s))=false:=fun c d s h1 h2=>by rw[lit1 c d s h1,decide_eq_false h2]
  have yes:∀(c:Nat) (s:String),Ac s=mk [c]->decide (V.str (mk [c])=V.str (Ac s))=true:=fun c s h1=>by rw[lit1 c c s h1,decide_eq_true rfl]
  cases p with
  |tx l=>cases hgt
  |cnt v=>cases hgt
  |into=>cases hgt
  |gap kk =>
   cases hgt;obtain⟨hc,_⟩:=q1d (show l.drop a=125::r from hd);refine⟨_,rfl,_,rfl,l,a,125,_,rfl,hc,by decide +kernel,hl,?_⟩;refine⟨_,rfl,.inl ⟨rfl,_,rfl,?_⟩⟩;rw[yes 125 "}" (by decide +kernel)];refine iteT ⟨_,rfl,by show 2<=sizeLine;decide,fun T1 hT1=>⟨_,rfl,.inl ⟨_,_,rfl,rfl,by show 2<=sizeLine;decide,fun T2 hT2=>?_⟩⟩⟩;exact k.go (by show(a:Int)+1=((a+1:Nat):Int);lia) hT1 hT2
  |great kk =>
   cases hgt;obtain⟨hc,hd2⟩:=q1d (show l.drop a=117::(125::r) from hd);obtain⟨hc2,_⟩:=q1d hd2;refine⟨_,rfl,_,rfl,l,a,117,_,rfl,hc,by decide +kernel,hl,?_⟩;refine⟨_,rfl,.inl ⟨rfl,_,rfl,?_⟩⟩;rw[no 117 125 "}" (by decide +kernel) (by decide)];refine iteF ⟨_,rfl,.inl ⟨rfl,_,rfl,?_⟩⟩;rw[no 117 122 "z" (by decide +kernel) (by decide)];refine iteF ⟨_,rfl,.inl ⟨rfl,_,rfl,?_⟩⟩;rw[no 117 43 "+" (by decide +kernel) (by decide)];refine iteF ⟨_,rfl,_,rfl,.inl ⟨_,_,rfl,rfl,l,a+1,125,_,by rfl,hc2,by decide +kernel,hl,?_⟩⟩;refine⟨_,rfl,Sum.inr (Ac "u"),.str (Ac "great"),?_,by decide +kernel,_,rfl,by show 2<=sizeLine;decide,fun T1 hT1=>⟨_,rfl,.inl ⟨_,_,rfl,rfl,by show 2<=sizeLine;decide,fun T2 hT2=>?_⟩⟩⟩
   ·exact congrArg V.str (by decide +kernel:mk [117]=Ac "u")
   exact k.go (by show(a:Int)+2=((a+2:Nat):Int);lia) hT1 hT2
  |small kk =>
   cases hgt;obtain⟨hc,hd2⟩:=q1d (show l.drop a=108::(125::r) from hd);obtain⟨hc2,_⟩:=q1d hd2;refine⟨_,rfl,_,rfl,l,a,108,_,rfl,hc,by decide +kernel,hl,?_⟩;refine⟨_,rfl,.inl ⟨rfl,_,rfl,?_⟩⟩;rw[no 108 125 "}" (by decide +kernel) (by decide)];refine iteF ⟨_,rfl,.inl ⟨rfl,_,rfl,?_⟩⟩;rw[no 108 122 "z" (by decide +kernel) (by decide)];refine iteF ⟨_,rfl,.inl ⟨rfl,_,rfl,?_⟩⟩;rw[no 108 43 "+" (by decide +kernel) (by decide)];refine iteF ⟨_,rfl,_,rfl,.inl ⟨_,_,rfl,rfl,l,a+1,125,_,by rfl,hc2,by decide +kernel,hl,?_⟩⟩;refine⟨_,rfl,Sum.inr (Ac "l"),.str (Ac "small"),?_,by decide +kernel,_,rfl,by show 2<=sizeLine;decide,fun T1 hT1=>⟨_,rfl,.inl ⟨_,_,rfl,rfl,by show 2<=sizeLine;decide,fun T2 hT2=>?_⟩⟩⟩
   ·exact congrArg V.str (by decide +kernel:mk [108]=Ac "l")
   exact k.go (by show(a:Int)+2=((a+2:Nat):Int);lia) hT1 hT2
  |nou kk ww =>
   cases hgt;obtain⟨hc,hd2⟩:=q1d (show l.drop a=122::((48+ww)::125::r) from hd);refine⟨_,rfl,_,rfl,l,a,122,_,rfl,hc,by decide +kernel,hl,?_⟩;refine⟨_,rfl,.inl ⟨rfl,_,rfl,?_⟩⟩;rw[no 122 125 "}" (by decide +kernel) (by decide)];refine iteF ⟨_,rfl,.inl ⟨rfl,_,rfl,?_⟩⟩;rw[yes 122 "z" (by decide +kernel)];refine iteT ⟨_,rfl,_,rfl,.inl ⟨_,_,rfl,rfl,_,rfl,l,r,a+1,g,ww,by rfl,hl,hok.2.1,hok.2.2,hd2,?_⟩⟩;rw[show a+1+2=a+[122,48+ww,125].length from rfl];exact k
  |more kk m =>
   cases hgt;obtain⟨hc,hd2⟩:=q1d (show l.drop a=43::((dg m++[125])++r) from hd);refine⟨_,rfl,_,rfl,l,a,43,_,rfl,hc,by decide +kernel,hl,?_⟩;refine⟨_,rfl,.inl ⟨rfl,_,rfl,?_⟩⟩;rw[no 43 125 "}" (by decide +kernel) (by decide)];refine iteF ⟨_,rfl,.inl ⟨rfl,_,rfl,?_⟩⟩;rw[no 43 122 "z" (by decide +kernel) (by decide)];refine iteF ⟨_,rfl,.inl ⟨rfl,_,rfl,?_⟩⟩;rw[yes 43 "+" (by decide +kernel)];refine iteT ⟨_,rfl,_,rfl,.inl ⟨_,_,rfl,rfl,_,rfl,l,r,a+1,g,m,by rfl,hl,hok.2,by rw[hd2,Iv];rfl,?_⟩⟩;rw[show a+1+(dg m).length+1=a+(43::(dg m++[125])).length from by rw[Bf,Ai,Bc];lia];exact k
structure CallsV (P:Program) (w:World) (K:Ah) (mg:Str->Option Value) (base:Heap):Prop where
 asked:Cal P w K mg base "asked" 1 ["template", "at", "signs"] spAsked
 read_count:Cal P w K mg base "read_count" 2 ["template", "at"] spCount
 read_gap:Cal P w K mg base "read_gap" 3 ["template", "at", "gap"] spGap
def spMark:Sp:=fun vs H Q _=>∃(l r t:List Nat) (a:Nat) (p:Pc),vs=[.str (mk l),.int (a:Int)]/\l.length<=1000/\p.ok/\p.wr=123::t/\(∀x,p≠.tx x)/\l.drop a=t++r/\RT H Q p (a+t.length)
theorem in_n:∀v,v<10->1<=v->48+v∈tl (Ac "n" ++ Ac "123456789"):=by decide +kernel
theorem gt_of{p:Pc}{t:List Nat}(hok:p.ok)(hw:p.wr=123::t)(hx:∀x,p≠.tx x):(∃v,p=.cnt v/\t=110::cntW v)\/∃g u,p.gt=some (g,u)/\t=(48+g)::u/\1<=g/\g<=9:=by
 cases p with
 |tx l=>exact absurd rfl (hx l)
 |into=>injection hw with h _;exact absurd h (by decide)
 |cnt v=>injection hw with _ hw;exact .inl ⟨v,rfl,hw.symm⟩
 |gap k=>injection hw with _ hw;exact .inr ⟨k,_,rfl,hw.symm,hok.1,hok.2⟩
 |great k=>injection hw with _ hw;exact .inr ⟨k,_,rfl,hw.symm,hok.1,hok.2⟩
 |small k=>injection hw with _ hw;exact .inr ⟨k,_,rfl,hw.symm,hok.1,hok.2⟩
 |nou k v=>injection hw with _ hw;exact .inr ⟨k,_,rfl,hw.symm,hok.1.1,hok.1.2⟩
 |more k m=>injection hw with _ hw;exact .inr ⟨k,_,rfl,hw.symm,hok.1.1,hok.1.2⟩
abbrev q3k:Stmt:=top 35
theorem sc_read_mark:FnScope ["template", "at", "sign"] ["template", "at"] (defScope q3k):=by trivial
theorem z1a(D:Df K mg "read_mark" q3k ["template", "at"])(T:Txt mg)(C:CallsV P w K mg base):Cal P w K mg base "read_mark" 4 ["template", "at"] spMark:=by
 refine D.cal sc_read_mark (fun vs H Q E h=>?_) (fun f cdv A outer s H vs Q E hr h=>?_)
 ·obtain⟨l,r,t,a,p,rfl,_⟩:=h;rfl
 ·obtain⟨l,r,t,a,p,rfl,hl,hok,hw,hx,hd,k⟩:=h;obtain⟨_,g_FROM_ONE⟩:=T.FROM_ONE;refine⟨_,(q0b (q0l (i:=2) sc_read_mark.nd rfl (by trivial) (pe_c C.asked hr (q0a (pv 0) (q0a (pv 1) (q0a (q0s q0m q0i (q1a (v:=.str (Ac "123456789")) (by rfl) g_FROM_ONE ⟨_,rfl⟩)) q0d))))) (q0b (q0t (q0h (eq_k K rfl hr) (pv 2) q0i (nomark _)) (q0e (q0k (pe_c C.read_count hr (q0a (pv 0) (q0a (q0s q0m (pv 1) q0g) q0d))))) q0j) (q0e (q0k (pe_c C.read_gap hr (q0a (pv 0) (q0a (q0s q0m (pv 1) q0g) (q0a (q1f q3e (by rfl) T.b_int (by decide +kernel) (q0a (pv 2) q0d)) q0d)))))))),?_⟩;have e9:(Ac "n").length+(Ac "123456789").length<=1000:=by decide +kernel
  rcases gt_of hok hw hx with⟨v,rfl,rfl⟩|⟨g,u,hgt,rfl,hg1,hg9⟩
  ·obtain⟨hc,hd2⟩:=q1d (show l.drop a=110::(cntW v++r) from hd);refine⟨_,rfl,_,rfl,.inr (.inl ⟨_,_,rfl,rfl,TX.small (by lia),l,a,110,_,rfl,hc,by decide +kernel,hl,?_⟩)⟩;refine⟨_,rfl,.inl ⟨rfl,_,rfl,?_⟩⟩;rw[lit1 110 110 "n" (by decide +kernel),decide_eq_true rfl];refine iteT ⟨_,rfl,_,rfl,.inl ⟨_,_,rfl,rfl,l,r,a+1,v,by rfl,hl,hok.1,hok.2,hd2,?_⟩⟩;rw[show a+1+(cntW v).length=a+(110::cntW v).length from by rw[Bf];lia];exact k
  ·obtain⟨hc,hd2⟩:=q1d (show l.drop a=(48+g)::(u++r) from hd);refine⟨_,rfl,_,rfl,.inr (.inl ⟨_,_,rfl,rfl,TX.small (by lia),l,a,48+g,_,rfl,hc,in_n g (by lia) hg1,hl,?_⟩)⟩;refine⟨_,rfl,.inl ⟨rfl,_,rfl,?_⟩⟩;rw[lit1 (48+g) 110 "n" (by decide +kernel),decide_eq_false (by lia)];refine iteF ⟨_,rfl,_,rfl,.inl ⟨_,_,rfl,rfl,_,rfl,.inr ⟨_,_,rfl,z8q (by lia),by rw[q0r];show 1<=640;decide,l,r,u,a+1,g,p,by rfl,hl,hok,hgt,hd2,?_⟩⟩⟩;rw[show a+1+u.length=a+((48+g)::u).length from by rw[Bf];lia];exact k
structure CallsW (P:Program) (w:World) (K:Ah) (mg:Str->Option Value) (base:Heap):Prop where
 read_mark:Cal P w K mg base "read_mark" 4 ["template", "at"] spMark
 read_into:Cal P w K mg base "read_into" 1 ["template", "at"] spInto
 read_text:Cal P w K mg base "read_text" 2 ["template", "at"] spRText
def spPiece:Sp:=fun vs H Q _=>∃(l r:List Nat) (a:Nat) (p:Pc),vs=[.str (mk l),.int (a:Int)]/\l.length<=1000/\p.ok/\l.drop a=p.wr++r/\((∃x,p=.tx x)->∀c r',r=c::r'->¬c∈NS)/\(p=.into->1<=a/\∃c,l[a-1]?=some c/\c≠47)/\RT H Q p (a+p.wr.length)
theorem no123:(123:Nat)∉NS:=by decide +kernel
theorem no47:(47:Nat)∉NS:=by decide +kernel
theorem x5c{p:Pc}(h1:∀x,p≠.tx x)(h2:p≠.into):∃t,p.wr=123::t:=by
 cases p with
 |tx l=>exact absurd rfl (h1 l)
 |into=>exact absurd rfl h2
 |_=>exact⟨_,rfl⟩
abbrev q2x:Stmt:=top 38
theorem q8z:FnScope ["template", "at"] ["template", "at"] (defScope q2x):=by trivial
theorem q9a(D:Df K mg "read_piece" q2x ["template", "at"])(T:Txt mg)(C:CallsW P w K mg base):Cal P w K mg base "read_piece" 5 ["template", "at"] spPiece:=by
 refine D.cal q8z (fun vs H Q E h=>?_) (fun f cdv A outer s H vs Q E hr h=>?_)
 ·obtain⟨l,r,a,p,rfl,_⟩:=h;rfl
 ·obtain⟨l,r,a,p,rfl,hl,hok,hd,htx,hin,k⟩:=h;refine⟨_,(q0b (q0t (q0h (eq_k K rfl hr) (q0v (ix_k K rfl) (pv 0) (pv 1) (fun _ _=>rfl)) q0i (nomark _)) (q0e (q0k (pe_c C.read_mark hr (q0a (pv 0) (q0a (q0s q0m (pv 1) q0g) q0d))))) q0j) (q0b (q0t (q0h (eq_k K rfl hr) (q0v (ix_k K rfl) (pv 0) (pv 1) (fun _ _=>rfl)) q0i (nomark _)) (q0e (q0k (pe_c C.read_into hr (q0a (pv 0) (q0a (pv 1) q0d))))) q0j) (q0e (q0k (pe_c C.read_text hr (q0a (pv 0) (q0a (pv 1) q0d))))))),?_⟩;have hlen:=q0r l;have at_:∀c,l[a]?=some c->atI (tl (mk l)) ((a:Nat):Int)=some c:=fun c hc=>q1m (by rw[q0y];exact hc)
  by_cases h1:∃x,p=.tx x
  ·obtain⟨t,rfl⟩:=h1;obtain⟨c,t',rfl⟩:∃c t',t=c::t':=by cases t with|nil=>exact absurd rfl hok.1|cons c t'=>exact⟨c,t',rfl⟩
   have hcN:=hok.2 c As;obtain⟨hc,_⟩:=q1d (show l.drop a=c::(t'++r) from hd);refine⟨_,rfl,_,rfl,.inr (.inr ⟨mk l,_,c,rfl,rfl,TX.small (by lia),at_ c hc,.inl ⟨rfl,_,rfl,?_⟩⟩)⟩;show if decide (V.str (mk [c])=V.str (Ac "{"))=true then _ else _
   rw[lit1 c 123 "{" (by decide +kernel),decide_eq_false (fun z:c=123=>no123 (z▸hcN))];refine iteF ⟨_,rfl,_,rfl,.inr (.inr ⟨mk l,_,c,rfl,rfl,TX.small (by lia),at_ c hc,.inl ⟨rfl,_,rfl,?_⟩⟩)⟩;show if decide (V.str (mk [c])=V.str (Ac "/"))=true then _ else _
   rw[lit1 c 47 "/" (by decide +kernel),decide_eq_false (fun z:c=47=>no47 (z▸hcN))];refine iteF ⟨_,rfl,_,rfl,l,c::t',r,a,by rfl,hl,hd,hok.1,hok.2,htx ⟨_,rfl⟩,k⟩
  ·by_cases h2:p=.into
   ·subst h2;obtain⟨hc,_⟩:=q1d (show l.drop a=47::r from hd);obtain⟨ha,c,hc1,hc2⟩:=hin rfl;refine⟨_,rfl,_,rfl,.inr (.inr ⟨mk l,_,47,rfl,rfl,TX.small (by lia),at_ 47 hc,.inl ⟨rfl,_,rfl,?_⟩⟩)⟩;show if decide (V.str (mk [47])=V.str (Ac "{"))=true then _ else _
    rw[lit1 47 123 "{" (by decide +kernel),decide_eq_false (by decide)];refine iteF ⟨_,rfl,_,rfl,.inr (.inr ⟨mk l,_,47,rfl,rfl,TX.small (by lia),at_ 47 hc,.inl ⟨rfl,_,rfl,?_⟩⟩)⟩;show if decide (V.str (mk [47])=V.str (Ac "/"))=true then _ else _
    rw[lit1 47 47 "/" (by decide +kernel),decide_eq_true rfl];exact iteT ⟨_,rfl,_,rfl,l,a,c,by rfl,hl,ha,hc1,hc2,k⟩
   ·have h1':∀x,p≠.tx x:=fun x z=>h1 ⟨x,z⟩;obtain⟨t,ht⟩:=x5c h1' h2;rw[ht] at hd k;obtain⟨hc,hd2⟩:=q1d (show l.drop a=123::(t++r) from hd);refine⟨_,rfl,_,rfl,.inr (.inr ⟨mk l,_,123,rfl,rfl,TX.small (by lia),at_ 123 hc,.inl ⟨rfl,_,rfl,?_⟩⟩)⟩;show if decide (V.str (mk [123])=V.str (Ac "{"))=true then _ else _
    rw[lit1 123 123 "{" (by decide +kernel),decide_eq_true rfl];refine iteT ⟨_,rfl,_,rfl,.inl ⟨_,_,rfl,rfl,l,r,t,a+1,p,by rfl,hl,hok,ht,h1',hd2,?_⟩⟩;rw[show a+1+t.length=a+(123::t).length from by rw[Bf];lia];exact k
def flatP(ps:List Pc):List Nat:=(ps.map Pc.wr).flatten
theorem q2b(p:Pc)(ps:List Pc):flatP (p::ps)=p.wr++flatP ps:=by simp[flatP]
theorem q1j(a b:List Pc):flatP (a++b)=flatP a++flatP b:=by simp[flatP]
theorem x1f{p:Pc}(h:p.ok):p.wr≠[]:=by
 cases p with
 |tx l=>exact h.1
 |_=>simp[Pc.wr]
structure WP (ps:List Pc):Prop where
 ne:ps≠[]
 ok:∀p∈ps,p.ok
 tt:∀i x y,ps[i]?=some (.tx x)->ps[i+1]?≠some (.tx y)
 ii:∀i,ps[i]?=some .into->1<=i/\ps[i-1]?≠some .into
 la:∀q,ps.getLast?=some q->q≠.into
 sz:(flatP ps).length<=100
theorem x5d{p:Pc}(h:∀x,p≠.tx x):∃c t,p.wr=c::t/\¬c∈NS:=by
 cases p with
 |tx l=>exact absurd rfl (h l)
 |into=>exact⟨47,[],rfl,no47⟩
 |_=>exact⟨123,_,rfl,no123⟩
theorem x5e{p:Pc}(hok:p.ok)(h:p≠.into):∃t c,p.wr=t++[c]/\c≠47:=by
 cases p with
 |tx l =>
  refine⟨l.dropLast,l.getLast hok.1,(Dw hok.1).symm,fun z=>?_⟩;have:=hok.2 _ (Vs hok.1);rw[z] at this;exact no47 this
 |into=>exact absurd rfl h
 |gap k=>exact⟨[123,48+k],125,rfl,by decide⟩
 |great k=>exact⟨[123,48+k,117],125,rfl,by decide⟩
 |small k=>exact⟨[123,48+k,108],125,rfl,by decide⟩
 |nou k w=>exact⟨[123,48+k,122,48+w],125,rfl,by decide⟩
 |more k m=>exact⟨123::(48+k)::43::dg m,125,rfl,by decide⟩
 |cnt v =>
  by_cases hv:v=1
  ·exact⟨[123,110],125,by show 123::110::cntW v=_;unfold cntW;rw[if_pos hv];rfl,by decide⟩
  ·exact⟨[123,110,48+v],125,by show 123::110::cntW v=_;unfold cntW;rw[if_neg hv];rfl,by decide⟩
abbrev PTu(H:Hp):List Addr->List Pc->Prop:=Dj fun T p=>H T=some (.tup p.vs)
structure HP (H:Hp) (L:Addr) (ps:List Pc):Prop where
 ex:∃Ts,H L=some (.lst (Ts.map V.ref))/\PTu H Ts ps
theorem PTu.keep{H H':Hp}(k:∀T xs,H T=some (.tup xs)->H' T=some (.tup xs)):∀{Ts:List Addr} {ps:List Pc},PTu H Ts ps->PTu H' Ts ps
 |_,_,.nil=>.nil
 |_,_,.cons h t=>.cons (k _ _ h) (PTu.keep k t)
theorem PTu.len{H:Hp}{Ts:List Addr}{ps:List Pc}(h:PTu H Ts ps):Ts.length=ps.length:=Ed h
theorem PTu.snoc{H:Hp}{T:Addr}{p:Pc}(hT:H T=some (.tup p.vs)):∀{Ts:List Addr} {ps:List Pc},PTu H Ts ps->PTu H (Ts++[T]) (ps++[p])
 |_,_,.nil=>.cons hT .nil
 |_,_,.cons h t=>.cons h (PTu.snoc hT t)
theorem PTu.get{H:Hp}:∀{Ts:List Addr} {ps:List Pc} {i:Nat} {T:Addr},PTu H Ts ps->Ts[i]?=some T->∃p,ps[i]?=some p/\H T=some (.tup p.vs)
 |_,_,0,_,.cons h t,e=>by simp at e;subst e;exact⟨_,rfl,h⟩
 |_,_,i+1,_,.cons h t,e=>by
  obtain⟨p,h1,h2⟩:=PTu.get t (by simpa using e);exact⟨p,by simpa using h1,h2⟩
theorem HP.same{H H':Hp}{L:Addr}{ps:List Pc}(h:HP H L ps)(s:Same H H'):HP H' L ps:=let ⟨Ts,h1,h2⟩:=h.ex;⟨Ts,s _ _ h1,h2.keep fun T xs e=>s _ _ e⟩
theorem HP.sq{K:Ah}{H:Hp}{L:Addr}{ps:List Pc}(h:HP H L ps):∃xs,SqL K H L xs:=let ⟨Ts,h1,_⟩:=h.ex;⟨_,SqL.of h1⟩
def Pc.ds:Pc->List PyData
 |.tx l=>[.str (Ac "text"),.str (mk l)]
 |.gap k=>[.str (Ac "gap"),.int (k:Int)]
 |.great k=>[.str (Ac "great"),.int (k:Int)]
 |.small k=>[.str (Ac "small"),.int (k:Int)]
 |.nou k w=>[.str (Ac "noughts"),.int (k:Int),.int (w:Int)]
 |.more k m=>[.str (Ac "more"),.int (k:Int),.int (m:Int)]
 |.cnt v=>[.str (Ac "count"),.int (v:Int)]
 |.into=>[.str (Ac "into")]
theorem Pc.dts{K:Ah}{H:Hp}(p:Pc):Dts K H p.vs p.ds:=by
 cases p<;>first|exact .cons (.str _) (.cons (.str _) .nil)|exact .cons (.str _) (.cons (.int _) .nil)|exact .cons (.str _) (.cons (.int _) (.cons (.int _) .nil))|exact .cons (.str _) .nil
theorem PTu.dts{K:Ah}{H:Hp}:∀{Ts:List Addr} {ps:List Pc},PTu H Ts ps->Dts K H (Ts.map V.ref) (ps.map fun p=>.tuple p.ds)
 |_,_,.nil=>.nil
 |_,_,.cons h t=>.cons (.tup (SqT.of h) (Pc.dts _)) (PTu.dts t)
theorem Pc.lay {p : Pc} (h : p.ok) : (PyData.tuple p.ds).canLay0 = true := by
  show Bo p.ds = true;cases p with
  | tx l =>
    have h1 : Ce (mk l) = true := z3l fun c hc => z3i c (h.2 c hc);have h2 : Ce (Ac "text") = true := by decide +kernel
    show Bo [.str (Ac "text"), .str (mk l)] = true;simp only [Bo, Co, h1, h2, Di]
  | gap k => have h2 : Ce (Ac "gap") = true := by decide +kernel
             simp only [Pc.ds, Bo, Co, h2, Di]
  | great k => have h2 : Ce (Ac "great") = true := by decide +kernel
               simp only [Pc.ds, Bo, Co, h2, Di]
  | small k => have h2 : Ce (Ac "small") = true := by decide +kernel
               simp only [Pc.ds, Bo, Co, h2, Di]
  | nou k w => have h2 : Ce (Ac "noughts") = true := by decide +kernel
               simp only [Pc.ds, Bo, Co, h2, Di]
  | more k m => have h2 : Ce (Ac "more") = true := by decide +kernel
                simp only [Pc.ds, Bo, Co, h2, Di]
  | cnt v => have h2 : Ce (Ac "count") = true := by decide +kernel
             simp only [Pc.ds, Bo, Co, h2, Di]
  | into => decide +kernel
theorem lays:∀{ps:List Pc},(∀p∈ps,p.ok)->(PyData.list (ps.map fun p=>.tuple p.ds)).canLay0=true:=by
 intro ps;show _->Bo (ps.map fun p=>.tuple p.ds)=true;induction ps with
 |nil=>intro _;rfl
 |cons p r ih =>
  intro h;have h1:=Pc.lay (h p As);have h2:=ih fun q hq=>h q (Ao _ hq);show Bo (.tuple p.ds::r.map fun p=>.tuple p.ds)=true;simp only[Bo,h1,h2,Di]
theorem z4a{p:Pc}(h:p≠.into):Ft (.tuple p.ds) (.tuple [.str (Ac "into")])=false:=by
 cases p with
 |into=>exact absurd rfl h
 |_=>simp[Pc.ds,Ft,Ih]
theorem x1g{ps:List Pc}(h:ps≠[]):Ft (.list (ps.map fun p=>.tuple p.ds)) (.list [])=false:=by
 cases ps with
 |nil=>exact absurd rfl h
 |cons p r=>simp[Ft,Ih]
structure CallsX (P:Program) (w:World) (K:Ah) (mg:Str->Option Value) (base:Heap):Prop where
 read_piece:Cal P w K mg base "read_piece" 5 ["template", "at"] spPiece
def spPieces:Sp:=fun vs H Q _=>∃ps:List Pc,vs=[.str (mk (flatP ps))]/\WP ps/\∀L H',H L=none->Same H H'->HP H' L ps->Q (.ref L) H'
def pcMeas(n:Nat)(σ:St):Nat:=match σ[2]? with|some (some (V.int e))=>n-e.toNat|_=>0
abbrev q3l:Stmt:=top 39
theorem sc_pieces_of:FnScope ["template", "pieces", "at", "piece"] ["template"] (defScope q3l):=by trivial
theorem z1b(D:Df K mg "pieces_of" q3l ["template"])(T:Txt mg)(C:CallsX P w K mg base):Cal P w K mg base "pieces_of" 6 ["template"] spPieces:=by
 refine D.cal sc_pieces_of (fun vs H Q E h=>?_) (fun f cdv A outer s H vs Q E hr h=>?_)
 ·obtain⟨ps,rfl,_⟩:=h;rfl
 ·obtain⟨ps,rfl,wp,k⟩:=h;refine⟨_,(q0b (q0l (i:=1) sc_pieces_of.nd rfl (by trivial) (q1s q0d)) (q0b (q0l (i:=2) sc_pieces_of.nd rfl (by trivial) q0g) (q0b (z2z Bt (q0h z4j (pv 2) (q0p (q1z K rfl) (by rfl) T.b_len Br (q0a (pv 0) q0d)) (nomark _)) (q0b (q7d (pe_c C.read_piece hr (q0a (pv 0) (q0a (pv 2) q0d))) (@q2n _ _ _ _ (2) _ K rfl rfl (q0q (q0o (i:=3) sc_pieces_of.nd rfl (by trivial)) (q0q (q0o (i:=2) sc_pieces_of.nd rfl (by trivial)) q1t)) (by rfl) (by rfl))) (q0e (q0w (@bm_k _ _ _ _ _ _ _ _ _ _ _ _ K rfl Bu Cp Cq q1i (pv 1) (q0a (pv 3) q0d) (by rfl) (by rfl) (by rfl) (by rfl) (by rfl)))))) (q0b (q0t (pt_j (@PW.pt _ _ _ (z1t (q0h (eq_k K rfl hr) (pv 1) (q1s q0d) (nomark _)) (q5r (q0h (eq_k K rfl hr) (q0v (ix_k K rfl) (pv 1) (q3v q1y q0g) (fun _ _=>rfl)) (q0u (q0a q0i q0d)) (nomark _)))))) (q0e q1g) q0j) (q0e (q0k (pv 1))))))),?_⟩;generalize hl:flatP ps=l;have hlen:=q0r l;have hsz:l.length<=100:=by rw[<- hl];exact wp.sz
  refine⟨by show 0<=sizeLine;decide,fun L hL=>?_⟩;have hplen:ps.length<=100:=by
   have:∀qs:List Pc,(∀p∈qs,p.ok)->qs.length<=(flatP qs).length:=by
    intro qs;induction qs with
    |nil=>intro _;exact Aj _
    |cons q r ih =>
     intro hq;have h1:=ih fun p hp=>hq p (Ao _ hp);have h2:=Cw.mpr (x1f (hq q As));rw[q2b,Ai,Bf];lia
   have:=this ps wp.ok;rw[hl] at this;lia
  refine z3b (fun σ3 H3=>∃(i:Nat) (x3:Option V),σ3=[some (.str (mk l)),some (.ref L),some (.int (((flatP (ps.take i)).length:Nat):Int)),x3]/\Same H H3/\HP H3 L (ps.take i)/\i<=ps.length) (fun σ3 _=>pcMeas (l.length+1) σ3) ⟨0,none,rfl,(Same.refl H).new hL,⟨[],q0c,.nil⟩,Be _⟩ ?_ ?_
  ·rintro σ3 H3 ⟨i,x3,rfl,sm,hp,hi⟩;have esp:flatP (ps.take i)++flatP (ps.drop i)=l:=by rw[<- q1j,Rk,hl]
   have hspl:(flatP (ps.take i)).length+(flatP (ps.drop i)).length=l.length:=by rw[<- esp,Ai]
   refine⟨_,rfl,_,rfl,_,_,rfl,⟨TX.small (by lia),rfl⟩,_,_,rfl,rfl,_,rfl,?_⟩;refine ite2 (fun h=>?_) (fun h=>?_)
   ·have h1:=of_decide_eq_true h;have hi':i<ps.length:=by
     rcases Qb i ps.length with z|z
     ·exact z
     ·rw[Lw z] at hspl;simp[flatP] at hspl;simp[flatP] at h1;lia
    have hpi:ps[i]?=some ps[i]:=Bl hi';generalize ps[i]=p at hpi;have hok:=wp.ok p (Ay hpi);have edr:=q2j hpi;have hdr:l.drop (flatP (ps.take i)).length=p.wr++flatP (ps.drop (i+1)):=by rw[<- esp,List.drop_left,edr,q2b]
    refine⟨_,rfl,_,rfl,l,flatP (ps.drop (i+1)),(flatP (ps.take i)).length,p,rfl,by lia,hok,hdr,?_,?_,fun T1 T2 H4 hT1 hT2 sm4 h41 h42=>?_⟩
    ·rintro⟨x,rfl⟩ c r' hr;cases hq:ps[i+1]? with
     |none =>
      rw[Lw (Jv.mp hq)] at hr;cases hr
     |some q =>
      have hnx:∀y,q≠.tx y:=fun y z=>wp.tt i x y hpi (by rw[hq,z]);obtain⟨c',t',hw,hn⟩:=x5d hnx;rw[q2j hq,q2b,hw] at hr;cases hr;exact hn
    ·rintro rfl;obtain⟨h1i,hprev⟩:=wp.ii i hpi;obtain⟨q,hq⟩:∃q,ps[i-1]?=some q:=⟨_,Bl (by lia)⟩
     have hqi:q≠.into:=fun z=>hprev (by rw[hq,z]);obtain⟨t,c,hw,hc⟩:=x5e (wp.ok q (Ay hq)) hqi;have etk:ps.take i=ps.take (i-1)++[q]:=by
      have:=q1q hq
      rwa [show i-1+1=i from by lia] at this
     have efl:flatP (ps.take i)=(flatP (ps.take (i-1))++t)++[c]:=by rw[etk,q1j,show flatP [q]=q.wr from by simp[flatP],hw,Iv]
     refine⟨by rw[efl,Ai,Bc];lia,c,?_,hc⟩;rw[<- esp,efl,Ai,Bc,Nat.add_sub_cancel,Iv,Cr (Aj _),Ia];rfl
    ·refine⟨T2,_,rfl,SqT.of h42,rfl,_,_,rfl,_,_,rfl,rfl,?_⟩;have hp4:=hp.same sm4;obtain⟨Ts,a1,a2⟩:=hp4.ex;have hTl:=a2.len;rw[Dq] at hTl;refine⟨_,rfl,.inl ⟨rfl,hp4.sq⟩,_,rfl,L,_,_,rfl,rfl,a1,by rw[Ag];exact TX.small' (by lia),?_⟩;have hTL:T1≠L:=fun z=>by subst z;rw[a1] at h41;cases h41
     have ewr:flatP (ps.take (i+1))=flatP (ps.take i)++p.wr:=by rw[q1q hpi,q1j];simp[flatP]
     refine⟨⟨i+1,some (.ref T1),?_,(sm.trans sm4).put hL,⟨Ts++[T1],by rw[Av];exact q0c,?_⟩,hi'⟩,?_⟩
     ·rw[ewr,Ai];rfl
     ·rw[q1q hpi];refine PTu.snoc (by rw[q0f hTL];exact h41) (a2.keep fun Tx xs e=>?_);rw[q0f (fun z=>by subst z;rw[a1] at e;cases e)];exact e
     ·show l.length+1-(((flatP (ps.take i)).length+p.wr.length:Nat):Int).toNat<l.length+1-(((flatP (ps.take i)).length:Nat):Int).toNat;have:=Cw.mpr (x1f hok);lia
   ·have h1:¬(((flatP (ps.take i)).length:Nat):Int)<(((mk l).length:Nat):Int):=fun z=>h (decide_eq_true z);have hi':i=ps.length:=by
     rcases Qb i ps.length with z|z
     ·have hpi:ps[i]?=some ps[i]:=Bl z;have:=Cw.mpr (x1f (wp.ok _ (Ay hpi)));rw[q2j hpi,q2b,Ai] at hspl;lia
     ·lia
    subst hi';rw[Ea] at hp;obtain⟨Ts,a1,a2⟩:=hp.ex;have hTl:=a2.len;obtain⟨qs,q,hqs⟩:∃qs q,ps=qs++[q]:=⟨ps.dropLast,ps.getLast wp.ne,(Dw wp.ne).symm⟩
    have hqn:q≠.into:=wp.la q (by rw[hqs];simp);refine⟨fun b H'=>b=false/\Same H3 H',?_,?_⟩
    ·rintro b H' ⟨rfl,sm'⟩;exact iteF ⟨_,rfl,k L H' hL (sm.trans sm') (hp.same sm')⟩
    refine⟨_,rfl,by show 0<=sizeLine;decide,fun E0 hE0=>?_⟩;have smE:Same H3 (upd H3 E0 (.lst [])):=(Same.refl H3).new hE0;have hpE:=hp.same smE;obtain⟨Us,b1,b2⟩:=hpE.ex;refine .inr ⟨_,_,.lst (SqL.of b1) b2.dts,.lst (SqL.of q0c) .nil,lays wp.ok,rfl,?_,_,rfl,?_⟩
    ·refine Bb (Qc _ _) ?_;decide +kernel
    rw[x1g wp.ne];refine iteF ?_;have hUl:=b2.len;have hUne:Us≠[]:=fun z=>by rw[z] at hUl;rw[hqs] at hUl;simp at hUl
    have hUs:=(Dw hUne).symm;have hlast:Us[ps.length-1]?=some (Us.getLast hUne):=by rw[<- hUl];simp[List.getLast_eq_getElem]
    obtain⟨q',hq1,hq2⟩:=b2.get hlast;have eq':q'=q:=by rw[hqs] at hq1;simp at hq1;exact hq1.symm
    subst eq';have hix:atI (Us.map V.ref) (-1)=some (.ref (Us.getLast hUne)):=by
     have:=x0d Us.dropLast (Us.getLast hUne)
     rwa [<- hUs] at this
    refine⟨_,rfl,_,rfl,.inl ⟨L,_,-1,_,rfl,rfl,SqL.of b1,hix,by show 1<=sizeLine;decide,fun T3 hT3=>?_⟩⟩;have sm3:Same (upd H3 E0 (.lst [])) (upd (upd H3 E0 (.lst [])) T3 (.tup [.str (Ac "into")])):=(Same.refl _).new hT3;refine .inr ⟨_,_,.tup (SqT.of (sm3 _ _ hq2)) (Pc.dts _),.tup (SqT.of q0c) (.cons (.str _) .nil),Pc.lay (wp.ok _ (by rw[hqs];simp)),by decide +kernel,?_,_,rfl,?_,smE.trans sm3⟩
    ·refine Bb (Qc _ _) ?_;decide +kernel
    ·exact z4a hqn
  ·intro σ H Q Q' hq hw;obtain⟨x,e1,y,e2,n',z,e3,e4,a',b',e5,e6,c',e7,hh⟩:=hw;exact⟨x,e1,y,e2,n',z,e3,e4,a',b',e5,e6,c',e7,hq _ _ hh⟩
theorem x1h{P:Program}{w:World}{K:Ah}{dC:Addr}{ep:Nat}{t1 t2 t3 t4:Tok}(lC:K.lookup dC=some ⟨.type "dict",none,.dict #[⟨Np w.params (Ac "u"),.str (Ac "u") t1,.str (Ac "great") t2⟩,⟨Np w.params (Ac "l"),.str (Ac "l") t3,.str (Ac "small") t4⟩] ep,#[]⟩):KDict P w K dC casesKV:=by
 refine⟨_,[(Sum.inr (Ac "u"),.str (Ac "great") t2),(Sum.inr (Ac "l"),.str (Ac "small") t4)],lC,.cons ⟨rfl,t2,rfl⟩ (.cons ⟨rfl,t4,rfl⟩ .nil),fun h e=>?_⟩;have k1:(mixKind P w).is (Sum.inr (Ac "u")) (.str (Ac "u") t1)=true:=q5p (Ac "u") t1;have k2:(mixKind P w).is (Sum.inr (Ac "l")) (.str (Ac "l") t3)=true:=q5p (Ac "l") t3;refine⟨_,_,ep,e,⟨rfl,rfl,rfl⟩,rfl,fun en hen=>?_,.cons k1 rfl (.cons k2 rfl .nil),?_⟩
 ·simp only[List.mem_toArray,Bk,Ew,or_false] at hen;rcases hen with rfl|rfl
  ·exact⟨_,k1,rfl⟩
  ·exact⟨_,k2,rfl⟩
 ·exact(by decide +kernel:([Sum.inr (Ac "u"),Sum.inr (Ac "l")]:List Key).Nodup)
abbrev vG(gs:List Nat):List V:=gs.map fun c=>V.str (mk [c])
def gapNo:Pc->Option Nat
 |.gap k=>some k
 |.great k=>some k
 |.small k=>some k
 |.nou k _=>some k
 |.more k _=>some k
 |_=>none
def isMo:Pc->Bool
 |.more _ _=>true
 |_=>false
def pcWd:Pc->Str
 |.tx _=>Ac "text"
 |.gap _=>Ac "gap"
 |.great _=>Ac "great"
 |.small _=>Ac "small"
 |.nou _ _=>Ac "noughts"
 |.more _ _=>Ac "more"
 |.cnt _=>Ac "count"
 |.into=>Ac "into"
def pcI:Pc->Bool
 |.into=>true
 |_=>false
theorem pw0(p:Pc):atI p.vs 0=some (.str (pcWd p)):=by cases p<;>rfl
theorem pwM(p:Pc):decide (V.str (pcWd p)=V.str (Ac "more"))=isMo p:=by
 rw[L2.dec_str];cases p<;>(simp only[pcWd,isMo];decide +kernel)
theorem pwI(p:Pc):decide (V.str (pcWd p)=V.str (Ac "into"))=pcI p:=by
 rw[L2.dec_str];cases p<;>(simp only[pcWd,pcI];decide +kernel)
theorem x1i{p:Pc}{k:Nat}(h:gapNo p=some k):atI p.vs 1=some (.int (k:Int)):=by cases p<;>cases h<;>rfl
abbrev ofGap:List V:=[.str (Ac "gap"),.str (Ac "great"),.str (Ac "small"),.str (Ac "noughts"),.str (Ac "more")]
abbrev kinds3:List V:=[.str (Ac "slip"),.str (Ac "drawer"),.str (Ac "all")]
theorem inGap(p:Pc):inV (.str (pcWd p)) ofGap=(gapNo p).isSome:=by cases p<;>(simp only[pcWd,gapNo,Option.isSome];decide +kernel)
structure AskOk (kd:Str) (gs:List Nat) (p:Pc):Prop where
 gp:∀k,gapNo p=some k->1<=k/\k<=gs.length
 mo:∀k m,p=.more k m->gs[k-1]?=some 35
 io:p=.into->kd=Ac "slip"
def spAskGap:Sp:=fun vs H Q _=>∃T G p k gs kd,vs=[.ref T,.ref G]/\H T=some (.tup p.vs)/\gapNo p=some k/\H G=some (.lst (vG gs))/\gs.length<=3000/\AskOk kd gs p/\Q .non H
theorem vG_at{gs:List Nat}{k c:Nat}(hk:1<=k)(h:gs[k-1]?=some c):atI (vG gs) ((k:Int)-1)=some (.str (mk [c])):=by
 have e:((k:Int)-1)=((k-1:Nat):Int):=by lia
 rw[e];refine q1m ?_;rw[Bi,h];rfl
theorem lit35:decide (V.str (mk [35])=V.str (Ac "#"))=true:=by
 rw[lit1 35 35 "#" (by decide +kernel)];rfl
abbrev q4x:Stmt:=top 44
theorem sc_ask_gap:FnScope ["piece", "gap_signs", "sort", "gap"] ["piece", "gap_signs"] (defScope q4x):=by trivial
theorem z5k(D:Df K mg "ask_gap" q4x ["piece", "gap_signs"])(T:Txt mg):Cal P w K mg base "ask_gap" 1 ["piece", "gap_signs"] spAskGap:=by
 refine D.cal sc_ask_gap (fun vs H Q E h=>?_) (fun f cdv A outer s H vs Q E hr h=>?_)
 ·obtain⟨T1,G,p,k,gs,kd,rfl,_⟩:=h;rfl
 ·obtain⟨T1,G,p,n,gs,kd,rfl,hT,hg,hG,hgl,ao,k⟩:=h;refine⟨_,(q0b (q0l (i:=2) sc_ask_gap.nd rfl (by trivial) (q0v (ix_k K rfl) (pv 0) q0g (fun _ _=>rfl))) (q0b (q0l (i:=3) sc_ask_gap.nd rfl (by trivial) (q0v (ix_k K rfl) (pv 0) q0g (fun _ _=>rfl))) (q0b (q0t (q0h q7w (pv 3) (q0p (q1z K rfl) (by rfl) T.b_len Br (q0a (pv 1) q0d)) (nomark _)) (q0e q1g) q0j) (q0e (q0t (pt_j (@PW.pt _ _ _ (q4k (q0h (eq_k K rfl hr) (pv 2) q0i (nomark _)) (q2q (q0h (ne_k K rfl hr) (q0v (ix_k K rfl) (pv 1) (q0s z5y (pv 3) q0g) (fun _ _=>rfl)) q0i (nomark _)))))) (q0e q1g) q0j))))),?_⟩;obtain⟨hn1,hn2⟩:=ao.gp n hg;refine⟨_,rfl,.inr (.inl ⟨T1,_,0,_,rfl,rfl,SqT.of hT,pw0 p,?_⟩)⟩;refine⟨_,rfl,.inr (.inl ⟨T1,_,1,_,rfl,rfl,SqT.of hT,x1i hg,?_⟩)⟩;refine⟨_,rfl,_,rfl,_,_,rfl,.inl ⟨_,SqL.of hG,rfl⟩,_,_,rfl,rfl,_,rfl,?_⟩;rw[Ag];refine ite2 (fun h=>absurd (of_decide_eq_true h) (by lia)) (fun _=>?_);refine⟨fun bb H'=>bb=false/\H'=H,?_,?_⟩
  ·rintro bb H' ⟨rfl,rfl⟩;exact iteF k
  refine⟨_,rfl,.inl ⟨rfl,_,rfl,?_⟩⟩;rw[pwM];refine iteB (fun h=>?_) (fun h=>⟨rfl,rfl⟩);obtain⟨kk,m,rfl⟩:∃kk m,p=.more kk m:=by cases p<;>first|exact⟨_,_,rfl⟩|cases h
  cases hg;refine⟨_,rfl,_,rfl,_,_,rfl,rfl,.inl ⟨G,_,_,_,rfl,rfl,SqL.of hG,vG_at hn1 (ao.mo _ _ rfl),.inl ⟨rfl,_,rfl,?_,rfl⟩⟩⟩;rw[lit35];rfl
structure CallsR (P:Program) (w:World) (K:Ah) (mg:Str->Option Value) (base:Heap):Prop where
 ask_gap:Cal P w K mg base "ask_gap" 1 ["piece", "gap_signs"] spAskGap
 of_a_gap:∃d,mg "OF_A_GAP" = some (.ref d)/\∀H,SqT K H d ofGap
def spAskPiece:Sp:=fun vs H Q _=>∃T G p gs kd,vs=[.ref T,.str kd,.ref G]/\H T=some (.tup p.vs)/\H G=some (.lst (vG gs))/\gs.length<=3000/\AskOk kd gs p/\Q .non H
abbrev q3m:Stmt:=top 45
theorem sc_ask_piece:FnScope ["piece", "kind", "gap_signs", "sort"] ["piece", "kind", "gap_signs"] (defScope q3m):=by trivial
theorem z1c(D:Df K mg "ask_piece" q3m ["piece", "kind", "gap_signs"])(T:Txt mg)(C:CallsR P w K mg base):Cal P w K mg base "ask_piece" 2 ["piece", "kind", "gap_signs"] spAskPiece:=by
 refine D.cal sc_ask_piece (fun vs H Q E h=>?_) (fun f cdv A outer s H vs Q E hr h=>?_)
 ·obtain⟨T1,G,p,gs,kd,rfl,_⟩:=h;rfl
 ·obtain⟨T1,G,p,gs,kd,rfl,hT,hG,hgl,ao,k⟩:=h;obtain⟨d_OF_A_GAP,g_OF_A_GAP,hd⟩:=C.of_a_gap;refine⟨_,(q0b (q0l (i:=3) sc_ask_piece.nd rfl (by trivial) (q0v (ix_k K rfl) (pv 0) q0g (fun _ _=>rfl))) (q3d (q0t (q0h (in_k K rfl) (pv 3) (q1a (v:=.ref d_OF_A_GAP) (by rfl) g_OF_A_GAP rfl) (by with_unfolding_all rfl)) (q0e (q0w (pe_c C.ask_gap hr (q0a (pv 0) (q0a (pv 2) q0d))))) q0j) (q0e (q0t (pt_j (@PW.pt _ _ _ (q4k (q0h (eq_k K rfl hr) (pv 3) q0i (nomark _)) (q2q (q0h (ne_k K rfl hr) (pv 1) q0i (nomark _)))))) (q0e q1g) q0j)))),?_⟩;refine⟨_,rfl,.inr (.inl ⟨T1,_,0,_,rfl,rfl,SqT.of hT,pw0 p,?_⟩)⟩;refine⟨fun σ' H'=>σ'=[some (.ref T1),some (.str kd),some (.ref G),some (.str (pcWd p))]/\H'=H,?_,?_⟩;rotate_left
  ·refine⟨_,rfl,.inr ⟨d_OF_A_GAP,_,rfl,.inr (hd H),rfl,by decide +kernel,_,rfl,?_⟩⟩;show if inV (.str (pcWd p)) ofGap=true then _ else _
   rw[inGap];refine ite2 (fun h=>?_) (fun h=>⟨rfl,rfl⟩);obtain⟨n,hn⟩:=Kj.mp h;exact⟨_,rfl,_,rfl,T1,G,p,n,gs,kd,rfl,hT,hn,hG,hgl,ao,rfl,rfl⟩
  rintro σ' H' ⟨rfl,rfl⟩;refine⟨fun bb H2=>bb=false/\H2=H',?_,?_⟩
  ·rintro bb H2 ⟨rfl,rfl⟩;exact iteF k
  refine⟨_,rfl,.inl ⟨rfl,_,rfl,?_⟩⟩;rw[pwI];refine iteB (fun h=>?_) (fun h=>⟨rfl,rfl⟩);have hi:p=.into:=by cases p<;>first|rfl|cases h
  refine⟨_,rfl,.inl ⟨rfl,_,rfl,?_,rfl⟩⟩;rw[ao.io hi,decide_eq_true rfl];rfl
structure RuleAt (K:Ah) (H:Hp) (R:Addr) (kd:Str) (l:List Nat) (qs:List Pc) (st:Int):Prop where
 at_:H R=some (.tup [.str kd,.str (mk l),.str (mk (flatP qs)),.int st])
 kok:inV (.str kd) kinds3=true
 good:Good l
 wp:WP qs
 st0:0<=st
 st1:st<=1000000000
 ask:∀q∈qs,AskOk kd (gsOf (parse [] l)) q
theorem RuleAt.same{K:Ah}{H H':Hp}{R:Addr}{kd:Str}{l:List Nat}{qs:List Pc}{st:Int}(h:RuleAt K H R kd l qs st)(s:Same H H'):RuleAt K H' R kd l qs st:=⟨s _ _ h.at_,h.kok,h.good,h.wp,h.st0,h.st1,h.ask⟩
structure CallsS (P:Program) (w:World) (K:Ah) (mg:Str->Option Value) (base:Heap):Prop where
 parts_of:Cal P w K mg base "parts_of" 2 ["pattern"] spPartsOf
 pieces_of:Cal P w K mg base "pieces_of" 6 ["template"] spPieces
 ask_piece:Cal P w K mg base "ask_piece" 2 ["piece", "kind", "gap_signs"] spAskPiece
 kinds:∃d,mg "KINDS" = some (.ref d)/\∀H,SqT K H d kinds3
def spAskRule(K:Ah):Sp:=fun vs H Q _=>∃R kd l qs st,vs=[.ref R]/\RuleAt K H R kd l qs st/\∀H',Same H H'->Q (.bl true) H'
theorem z1d{ps:List Pt}{i:Nat}{p:Pt}(h:ps[i]?=some p):gsOf (ps.take (i+1))=gsOf (ps.take i)++gsOf [p]:=by
 have e:ps.take (i+1)=ps.take i++[p]:=by rw[Hu,h];rfl
 rw[e];generalize ps.take i=qs;induction qs with
 |nil=>rfl
 |cons q r ih=>cases q with
  |tx t=>exact ih
  |gp c=>show c::gsOf (r++[p])=c::(gsOf r++gsOf [p]);rw[ih]
theorem z4b(ps:List Pt):(gsOf ps).length<=ps.length:=by
 induction ps with
 |nil=>exact Aj _
 |cons q r ih=>cases q with
  |tx t=>show(gsOf r).length<=r.length+1;lia
  |gp c=>show(gsOf r).length+1<=r.length+1;lia
abbrev q4d:Stmt:=top 46
theorem sc_ask_rule:FnScope ["rule", "kind", "pattern", "template", "start", "parts", "pieces", "gap_signs", "piece"] ["rule"] (defScope q4d):=by trivial
theorem z2q(D:Df K mg "ask_rule" q4d ["rule"])(T:Txt mg)(C:CallsS P w K mg base):Cal P w K mg base "ask_rule" 7 ["rule"] (spAskRule K):=by
 refine D.cal sc_ask_rule (fun vs H Q E h=>?_) (fun f cdv A outer s H vs Q E hr h=>?_)
 ·obtain⟨R,kd,l,qs,st,rfl,_⟩:=h;rfl
 ·obtain⟨R,kd,l,qs,st,rfl,ru,k⟩:=h;obtain⟨d_KINDS,g_KINDS,hd⟩:=C.kinds;obtain⟨_,g_MOST_START⟩:=T.MOST_START;refine⟨_,(q0b (q7d (pv 0) (@q2n _ _ _ _ (4) _ K rfl rfl (q0q (q0o (i:=1) sc_ask_rule.nd rfl (by trivial)) (q0q (q0o (i:=2) sc_ask_rule.nd rfl (by trivial)) (q0q (q0o (i:=3) sc_ask_rule.nd rfl (by trivial)) (q0q (q0o (i:=4) sc_ask_rule.nd rfl (by trivial)) q1t)))) (by rfl) (by rfl))) (q0b (q0l (i:=5) sc_ask_rule.nd rfl (by trivial) (pe_c C.parts_of hr (q0a (pv 2) q0d))) (q0b (q0l (i:=6) sc_ask_rule.nd rfl (by trivial) (pe_c C.pieces_of hr (q0a (pv 3) q0d))) (q0b (q0t (q0h (x3w K rfl) (pv 1) (q1a (v:=.ref d_KINDS) (by rfl) g_KINDS rfl) (by with_unfolding_all rfl)) (q0e q1g) q0j) (q0b (z6n (i:=7) ["sort", "what"] [] sc_ask_rule.nd rfl (by trivial) rfl (@q6x _ _ _ _ K rfl (pv 5)) (fun _ _ _ _ _=>(@q2n _ _ _ _ (2) _ K rfl rfl (q0q (q0o (i:=0) (show(["sort", "what"]:List Str).Nodup by decide +kernel) rfl (by trivial)) (q0q (q0o (i:=1) (show(["sort", "what"]:List Str).Nodup by decide +kernel) rfl (by trivial)) q1t)) (by rfl) (by rfl))) (fun _ _ _ _ _=>(z6l (q0h (eq_k K rfl hr) (pv 0) q0i (nomark _)))) (fun _ _ _ _ _=>(pv 1))) (q0b (q1p Bt rfl (@q6x _ _ _ _ K rfl (pv 6)) (q0o (i:=8) sc_ask_rule.nd rfl (by trivial)) (q0e (q0w (pe_c C.ask_piece hr (q0a (pv 8) (q0a (pv 1) (q0a (pv 7) q0d))))))) (q0b (q0t (pt_j (@PW.pt _ _ _ (z1t (q0h z4j (pv 4) q0g (nomark _)) (q5r (q0h q7w (pv 4) (q1a (v:=.int 1000000000) (by rfl) g_MOST_START ⟨_,rfl⟩) (nomark _)))))) (q0e q1g) q0j) (q0e (q0k q9h))))))))),?_⟩;refine⟨_,rfl,R,_,rfl,SqT.of ru.at_,rfl,_,_,rfl,_,_,rfl,_,_,rfl,_,_,rfl,rfl,?_⟩;refine⟨_,rfl,l,rfl,ru.good,fun L H1 hL sm1 hl1=>?_⟩;refine⟨_,rfl,qs,rfl,ru.wp,fun M H2 hM sm2 hp2=>?_⟩;refine⟨_,rfl,.inr ⟨d_KINDS,_,rfl,.inr (hd H2),rfl,by decide +kernel,_,rfl,?_⟩⟩;show if (!inV (.str kd) kinds3)=true then _ else _
  rw[ru.kok];refine iteF ?_;obtain⟨Ts,t1,t2⟩:=(hl1.same sm2).ex;have hTl:=t2.len;have hpl:=q8j l [];have hgl:=ru.good.len;refine⟨_,rfl,.inl ⟨L,rfl,⟨_,SqL.of t1⟩,fun D hD=>?_⟩⟩;refine z6o (xs:=Ts.map V.ref) (fun i ys H'=>ys=vG (gsOf ((parse [] l).take i))/\Same H2 H'/\H' D=some (.lst ys)/\i<=(parse [] l).length) ⟨rfl,(Same.refl H2).new hD,q0c,Be _⟩ (fun i ys H' ⟨_,sm,hHD,_⟩=>⟨hHD,SqL.of (sm _ _ t1)⟩) ?_ ?_
  ·rintro i ys H' x hx ⟨rfl,sm,hHD,hi⟩;obtain⟨T1,p,rfl,hp1,ht⟩:=t2.get hx;have hi':=(Aq.mp hp1).1;refine⟨T1,_,rfl,SqT.of (sm _ _ ht),rfl,_,_,rfl,_,_,rfl,rfl,q7i,?_⟩;refine⟨_,rfl,.inl ⟨rfl,_,rfl,?_⟩⟩;rw[wgg];have hg:=z4b ((parse [] l).take i);rw[Dq] at hg;cases p with
   |tx t =>
    refine iteF ⟨?_,sm,hHD,hi'⟩;rw[z1d hp1];show vG _=vG (_++[]);rw[Dm]
   |gp c =>
    refine iteT ⟨_,rfl,hHD,TX.small' (by rw[Ag];lia),?_,sm.put hD,q0c,hi'⟩;rw[z1d hp1];show _=(gsOf _++[c]).map _;rw[Av];rfl
  rintro ys H3 ⟨rfl,sm3,hHD,_⟩;rw[Ag,hTl,Ea] at hHD;have hp3:=hp2.same sm3;obtain⟨Us,u1,u2⟩:=hp3.ex;have hgp:=z4b (parse [] l);refine⟨_,rfl,.inl ⟨M,rfl,⟨_,SqL.of u1⟩,?_⟩⟩;refine q3s (xs:=Us.map V.ref) (fun i σ' H'=>∃x8,σ'=[some (.ref R),some (.str kd),some (.str (mk l)),some (.str (mk (flatP qs))),some (.int st),some (.ref L),some (.ref M),some (.ref D),x8]/\H'=H3) ⟨none,rfl,rfl⟩ (fun i σ' H' _ ⟨_,_,e⟩=>by subst e;exact SqL.of u1) ?_ ?_
  ·rintro i x σ' H' hx ⟨x8,rfl,rfl⟩;obtain⟨T1,hT1,rfl⟩:∃T,Us[i]?=some T/\x=.ref T:=by
    rw[Bi] at hx;cases hz:Us[i]? with
    |none=>rw[hz] at hx;cases hx
    |some T=>rw[hz] at hx;cases hx;exact⟨T,rfl,rfl⟩
   obtain⟨p,hp1,ht⟩:=u2.get hT1;refine⟨_,rfl,_,rfl,_,rfl,T1,D,p,gsOf (parse [] l),kd,rfl,ht,hHD,by lia,ru.ask p (Ay hp1),⟨_,rfl,rfl⟩⟩
  ·rintro σ' H' ⟨x8,rfl,rfl⟩;refine⟨fun bb H4=>bb=false/\H4=H',?_,?_⟩
   ·rintro bb H4 ⟨rfl,rfl⟩;exact iteF (k _ ((sm1.trans sm2).trans sm3))
   have h0:=ru.st0;have h1:=ru.st1;refine⟨_,rfl,_,_,rfl,rfl,_,rfl,?_⟩;refine iteB (fun h=>absurd (of_decide_eq_true h) (by lia)) (fun _=>?_);refine⟨_,rfl,_,_,rfl,rfl,_,rfl,?_,rfl⟩;exact decide_eq_false (by lia)
theorem q5n(a b:List Nat):mk a++mk b=mk (a++b):=by apply ext;rw[q4m,q0y,q0y,q0y]
abbrev up1:=PyProof.Rows.up1
abbrev lo1:=Jn
def gapG:Pc->List Nat->List Nat
 |.great _,t=>t.map up1
 |.small _,t=>t.map lo1
 |.nou _ w,t=>wn w t
 |.more _ m,t=>wn t.length (dg (Ek t+m))
 |_,t=>t
def pcText(ts:List (List Nat))(cn:Nat):Pc->List Nat
 |.tx t=>t
 |.gap k=>ts.getD (k-1) []
 |.great k=>(ts.getD (k-1) []).map up1
 |.small k=>(ts.getD (k-1) []).map lo1
 |.nou k w=>wn w (ts.getD (k-1) [])
 |.more k m=>wn (ts.getD (k-1) []).length (dg (Ek (ts.getD (k-1) [])+m))
 |.cnt w=>wn w (dg cn)
 |.into=>[]
structure GTx (ts:List (List Nat)) (p:Pc):Prop where
 gp:∀k,gapNo p=some k->1<=k/\k<=ts.length
 tx:∀t∈ts,t.length<=12/\∀c∈t,c<128
 mo:∀k m,p=.more k m->ts.getD (k-1) []≠[]/\∀c∈ts.getD (k-1) [],c∈FI
theorem x3a:∀c∈FI,48<=c/\c<=57:=by decide +kernel
theorem z8r:∀(t:List Nat) (a:Nat),(∀c∈t,c∈FI)->t.foldl (fun acc c=>acc*10+(c-48)) a<(a+1)*10^t.length
 |[],a,_=>by simp
 |c::r,a,h=>by
  have h1:=x3a c (h c As);have h2:=z8r r (a*10+(c-48)) fun x hx=>h x (Ao _ hx);rw[Jx,Bf,Nat.pow_succ];have h3:(a*10+(c-48)+1)*10^r.length<=((a+1)*10)*10^r.length:=Sk _ (by lia);have h4:((a+1)*10)*10^r.length=(a+1)*(10^r.length*10):=by rw[Nat.mul_assoc,Nat.mul_comm 10]
  lia
theorem dv_lt(t:List Nat)(h:∀c∈t,c∈FI):Ek t<10^t.length:=by
 have:=z8r t 0 h;simpa[Ek] using this
def spWN:Sp:=fun vs H Q _=>∃(t:List Nat) (w:Nat),vs=[.str (mk t),.int (w:Int)]/\w<=1000/\Q (.str (mk (wn w t))) H
abbrev q2h:Stmt:=top 54
theorem q6q:FnScope ["text", "width"] ["text", "width"] (defScope q2h):=by trivial
theorem q6r(D:Df K mg "with_noughts" q2h ["text", "width"])(T:Txt mg):Cal P w K mg base "with_noughts" 1 ["text", "width"] spWN:=by
 refine D.cal q6q (fun vs H Q E h=>?_) (fun f cdv A outer s H vs Q E hr h=>?_)
 ·obtain⟨t,n,rfl,_⟩:=h;rfl
 ·obtain⟨t,n,rfl,hn,k⟩:=h;refine⟨_,(q0e (q0k (@bm_k _ _ _ _ _ _ _ _ _ _ _ _ K rfl Ej PySem.F.slot_str_rjust PySem.F.type_str_rjust x0u (pv 0) (q0a (pv 1) (q0a q0i q0d)) (by rfl) (by rfl) (by rfl) (by rfl) (by rfl)))),?_⟩;refine⟨_,rfl,rfl,_,rfl,_,_,_,rfl,rfl,PyProof.Rows.padOk_of (by lia) (by lia),by decide +kernel,?_⟩;have e:(Ac "0").cps.getD 0 0=48:=by decide +kernel
  rw[e,rj];exact k
theorem wne{x y:String}(h:(Ac x==Ac y)=false):decide (V.str (Ac x)=V.str (Ac y))=false:=by rw[L2.dec_str];exact h
theorem upper14{n:List Nat}(h:∀c∈n,c<128):PySem.Txt.upper (mk n)=mk (n.map up1):=by
 rw[PyProof.Rows.upper_ascii (by show ∀c∈tl (mk n),c<128;rw[q0y];exact h)];apply ext;rw[q0y];show(((mk n).cps.map up1).toList)=_;rw[Px];all_goals (show(tl (mk n)).map up1=_;rw[q0y])
theorem lower14{n:List Nat}(h:∀c∈n,c<128):Im (mk n)=mk (n.map lo1):=by
 rw[PyProof.Rows.lower_ascii (by show ∀c∈tl (mk n),c<128;rw[q0y];exact h)];apply ext;rw[q0y];show(((mk n).cps.map lo1).toList)=_;rw[Px];all_goals (show(tl (mk n)).map lo1=_;rw[q0y])
theorem x1j{t:List Nat}(h0:t≠[])(h:∀c∈t,c∈FI)(hl:t.length<=12):Ky (mk t)=some ((Ek t:Nat):Int):=by
 have e:(mk t).cps.toList=t:=q0y t;have:=PySem.intText_digits (x:=mk t) (by rw[e];exact fun d hd=>x3a d (h d hd)) (by rw[e];exact h0) (by rw[q0r];lia);rw[e] at this;exact this
structure CallsWN (P:Program) (w:World) (K:Ah) (mg:Str->Option Value) (base:Heap):Prop where
 with_noughts:Cal P w K mg base "with_noughts" 1 ["text", "width"] spWN
def spGapText:Sp:=fun vs H Q _=>∃T p t,vs=[.ref T,.str (mk t)]/\H T=some (.tup p.vs)/\p.ok/\gapNo p≠none/\t.length<=12/\(∀c∈t,c<128)/\(∀k m,p=.more k m->t≠[]/\∀c∈t,c∈FI)/\Q (.str (mk (gapG p t))) H
abbrev q4e:Stmt:=top 55
theorem sc_gap_text:FnScope ["piece", "text", "sort"] ["piece", "text"] (defScope q4e):=by trivial
theorem z2r(D:Df K mg "gap_text" q4e ["piece", "text"])(T:Txt mg)(C:CallsWN P w K mg base):Cal P w K mg base "gap_text" 2 ["piece", "text"] spGapText:=by
 refine D.cal sc_gap_text (fun vs H Q E h=>?_) (fun f cdv A outer s H vs Q E hr h=>?_)
 ·obtain⟨T1,p,t,rfl,_⟩:=h;rfl
 ·obtain⟨T1,p,t,rfl,hT,ok,hg,hl,hc,hm,k⟩:=h;refine⟨_,(q0b (q0l (i:=2) sc_gap_text.nd rfl (by trivial) (q0v (ix_k K rfl) (pv 0) q0g (fun _ _=>rfl))) (q0b (q0t (q0h (eq_k K rfl hr) (pv 2) q0i (nomark _)) (q0e (q0k (@z2a _ _ _ _ _ _ _ _ _ K rfl Ej PySem.F.slot_str_upper PySem.F.type_str_upper z9v (pv 1) (by rfl) (by rfl)))) q0j) (q0b (q0t (q0h (eq_k K rfl hr) (pv 2) q0i (nomark _)) (q0e (q0k (@z2a _ _ _ _ _ _ _ _ _ K rfl Ej Ip Iq q5m (pv 1) (by rfl) (by rfl)))) q0j) (q0b (q0t (q0h (eq_k K rfl hr) (pv 2) q0i (nomark _)) (q0e (q0k (pe_c C.with_noughts hr (q0a (pv 1) (q0a (q0v (ix_k K rfl) (pv 0) q0g (fun _ _=>rfl)) q0d))))) q0j) (q0b (q0t (q0h (eq_k K rfl hr) (pv 2) q0i (nomark _)) (q0e (q0k (pe_c C.with_noughts hr (q0a (q1f q6i (by rfl) T.b_str (by decide +kernel) (q0a (q0s q0m (q1f q3e (by rfl) T.b_int (by decide +kernel) (q0a (pv 1) q0d)) (q0v (ix_k K rfl) (pv 0) q0g (fun _ _=>rfl))) q0d)) (q0a (q0p (q1z K rfl) (by rfl) T.b_len Br (q0a (pv 1) q0d)) q0d))))) q0j) (q0e (q0k (pv 1)))))))),?_⟩;have hs:(mk t).length<=sizeLine:=TX.small (by rw[q0r];lia);cases p with
  |tx l=>exact absurd rfl hg
  |cnt v=>exact absurd rfl hg
  |into=>exact absurd rfl hg
  |gap n =>
   refine⟨_,rfl,.inr (.inl ⟨T1,_,0,.str (Ac "gap"),rfl,rfl,SqT.of hT,rfl,?_⟩)⟩;refine⟨_,rfl,.inl ⟨rfl,_,rfl,?_⟩⟩;rw[wne (x := "gap") (y := "great") (by decide +kernel)];refine iteF ⟨_,rfl,.inl ⟨rfl,_,rfl,?_⟩⟩;rw[wne (x := "gap") (y := "small") (by decide +kernel)];refine iteF ⟨_,rfl,.inl ⟨rfl,_,rfl,?_⟩⟩;rw[wne (x := "gap") (y := "noughts") (by decide +kernel)];refine iteF ⟨_,rfl,.inl ⟨rfl,_,rfl,?_⟩⟩;rw[wne (x := "gap") (y := "more") (by decide +kernel)];exact iteF ⟨_,rfl,k⟩
  |great n =>
   refine⟨_,rfl,.inr (.inl ⟨T1,_,0,.str (Ac "great"),rfl,rfl,SqT.of hT,rfl,?_⟩)⟩;refine⟨_,rfl,.inl ⟨rfl,_,rfl,?_⟩⟩;rw[decide_eq_true rfl];refine iteT ⟨_,rfl,rfl,_,rfl,rfl,TX.small (by rw[q0r];lia),?_⟩;rw[upper14 hc];exact k
  |small n =>
   refine⟨_,rfl,.inr (.inl ⟨T1,_,0,.str (Ac "small"),rfl,rfl,SqT.of hT,rfl,?_⟩)⟩;refine⟨_,rfl,.inl ⟨rfl,_,rfl,?_⟩⟩;rw[wne (x := "small") (y := "great") (by decide +kernel)];refine iteF ⟨_,rfl,.inl ⟨rfl,_,rfl,?_⟩⟩;rw[decide_eq_true rfl];refine iteT ⟨_,rfl,rfl,_,rfl,rfl,TX.small (by rw[q0r];lia),?_⟩;rw[lower14 hc];exact k
  |nou n v =>
   have hv:v<=9:=ok.2.2;refine⟨_,rfl,.inr (.inl ⟨T1,_,0,.str (Ac "noughts"),rfl,rfl,SqT.of hT,rfl,?_⟩)⟩;refine⟨_,rfl,.inl ⟨rfl,_,rfl,?_⟩⟩;rw[wne (x := "noughts") (y := "great") (by decide +kernel)];refine iteF ⟨_,rfl,.inl ⟨rfl,_,rfl,?_⟩⟩;rw[wne (x := "noughts") (y := "small") (by decide +kernel)];refine iteF ⟨_,rfl,.inl ⟨rfl,_,rfl,?_⟩⟩;rw[decide_eq_true rfl];exact iteT ⟨_,rfl,_,rfl,.inr (.inl ⟨T1,_,2,.int (v:Int),rfl,rfl,SqT.of hT,rfl,t,v,rfl,by lia,k⟩)⟩
  |more n m =>
   have hm9:m<10^9:=ok.2;obtain⟨q1,q2⟩:=hm n m rfl;have hd:=dv_lt t q2;have hd2:10^t.length<=10^12:=Sl (by decide) hl;refine⟨_,rfl,.inr (.inl ⟨T1,_,0,.str (Ac "more"),rfl,rfl,SqT.of hT,rfl,?_⟩)⟩;refine⟨_,rfl,.inl ⟨rfl,_,rfl,?_⟩⟩;rw[wne (x := "more") (y := "great") (by decide +kernel)];refine iteF ⟨_,rfl,.inl ⟨rfl,_,rfl,?_⟩⟩;rw[wne (x := "more") (y := "small") (by decide +kernel)];refine iteF ⟨_,rfl,.inl ⟨rfl,_,rfl,?_⟩⟩;rw[wne (x := "more") (y := "noughts") (by decide +kernel)];refine iteF ⟨_,rfl,.inl ⟨rfl,_,rfl,?_⟩⟩;rw[decide_eq_true rfl];refine iteT ⟨_,rfl,.inr ⟨_,_,rfl,x1j q1 q2 hl,by rw[q0r];lia,?_⟩⟩;refine⟨_,rfl,.inr (.inl ⟨T1,_,2,.int (m:Int),rfl,rfl,SqT.of hT,rfl,.inl ⟨_,_,rfl,rfl,Ek t+m,rfl,by lia,?_⟩⟩)⟩;refine⟨_,rfl,_,_,rfl,⟨hs,rfl⟩,dg (Ek t+m),t.length,by rw[x4f,q0r];rfl,by lia,k⟩
structure CallsGT (P:Program) (w:World) (K:Ah) (mg:Str->Option Value) (base:Heap):Prop where
 gap_text:Cal P w K mg base "gap_text" 2 ["piece", "text"] spGapText
 with_noughts:Cal P w K mg base "with_noughts" 1 ["text", "width"] spWN
def spPieceText:Sp:=fun vs H Q _=>∃T G p ts,∃cn:Nat,vs=[.ref T,.ref G,.int (cn:Int)]/\H T=some (.tup p.vs)/\p.ok/\pcI p=false/\H G=some (.lst (vN ts))/\GTx ts p/\cn<=10^12/\Q (.str (mk (pcText ts cn p))) H
theorem x5f{ts:List (List Nat)}{cn k:Nat}{p:Pc}(h:gapNo p=some k):pcText ts cn p=gapG p (ts.getD (k-1) []):=by
 cases p<;>first|(cases h;rfl)|cases h
theorem gap_vs{p:Pc}{k:Nat}(h:gapNo p=some k):∃(w:String) (r:List V),p.vs=.str (Ac w)::.int (k:Int)::r/\(Ac w==Ac "text")=false/\(Ac w==Ac "count")=false:=by
 cases p with
 |tx l=>cases h
 |cnt v=>cases h
 |into=>cases h
 |gap n=>cases h;exact⟨"gap",[],rfl,by decide +kernel,by decide +kernel⟩
 |great n=>cases h;exact⟨"great",[],rfl,by decide +kernel,by decide +kernel⟩
 |small n=>cases h;exact⟨"small",[],rfl,by decide +kernel,by decide +kernel⟩
 |nou n v=>cases h;exact⟨"noughts",_,rfl,by decide +kernel,by decide +kernel⟩
 |more n v=>cases h;exact⟨"more",_,rfl,by decide +kernel,by decide +kernel⟩
abbrev q2y:Stmt:=top 56
theorem sc_piece_text:FnScope ["piece", "gap_texts", "count", "sort"] ["piece", "gap_texts", "count"] (defScope q2y):=by trivial
theorem q9b(D:Df K mg "piece_text" q2y ["piece", "gap_texts", "count"])(T:Txt mg)(C:CallsGT P w K mg base):Cal P w K mg base "piece_text" 3 ["piece", "gap_texts", "count"] spPieceText:=by
 refine D.cal sc_piece_text (fun vs H Q E h=>?_) (fun f cdv A outer s H vs Q E hr h=>?_)
 ·obtain⟨T1,G,p,ts,cn,rfl,_⟩:=h;rfl
 ·obtain⟨T1,G,p,ts,cn,rfl,hT,ok,hpi,hG,gt,hcn,k⟩:=h;refine⟨_,(q0b (q0l (i:=3) sc_piece_text.nd rfl (by trivial) (q0v (ix_k K rfl) (pv 0) q0g (fun _ _=>rfl))) (q0b (q0t (q0h (eq_k K rfl hr) (pv 3) q0i (nomark _)) (q0e (q0k (q0v (ix_k K rfl) (pv 0) q0g (fun _ _=>rfl)))) q0j) (q0b (q0t (q0h (eq_k K rfl hr) (pv 3) q0i (nomark _)) (q0e (q0k (pe_c C.with_noughts hr (q0a (q1f q6i (by rfl) T.b_str (by decide +kernel) (q0a (pv 2) q0d)) (q0a (q0v (ix_k K rfl) (pv 0) q0g (fun _ _=>rfl)) q0d))))) q0j) (q0e (q0k (pe_c C.gap_text hr (q0a (pv 0) (q0a (q0v (ix_k K rfl) (pv 1) (q0s z5y (q0v (ix_k K rfl) (pv 0) q0g (fun _ _=>rfl)) q0g) (fun _ _=>rfl)) q0d)))))))),?_⟩;cases hgn:gapNo p with
  |none =>
   cases p with
   |gap n=>cases hgn
   |great n=>cases hgn
   |small n=>cases hgn
   |nou n v=>cases hgn
   |more n v=>cases hgn
   |into=>cases hpi
   |tx t =>
    refine⟨_,rfl,.inr (.inl ⟨T1,_,0,.str (Ac "text"),rfl,rfl,SqT.of hT,rfl,?_⟩)⟩;refine⟨_,rfl,.inl ⟨rfl,_,rfl,?_⟩⟩;rw[decide_eq_true rfl];exact iteT ⟨_,rfl,.inr (.inl ⟨T1,_,1,_,rfl,rfl,SqT.of hT,rfl,k⟩)⟩
   |cnt v =>
    have hv:v<=9:=ok.2;refine⟨_,rfl,.inr (.inl ⟨T1,_,0,.str (Ac "count"),rfl,rfl,SqT.of hT,rfl,?_⟩)⟩;refine⟨_,rfl,.inl ⟨rfl,_,rfl,?_⟩⟩;rw[wne (x := "count") (y := "text") (by decide +kernel)];refine iteF ⟨_,rfl,.inl ⟨rfl,_,rfl,?_⟩⟩;rw[decide_eq_true rfl];exact iteT ⟨_,rfl,cn,rfl,by lia,_,rfl,.inr (.inl ⟨T1,_,1,.int (v:Int),rfl,rfl,SqT.of hT,rfl,dg cn,v,by rw[x4f];rfl,by lia,k⟩)⟩
  |some n =>
   obtain⟨h1,h2⟩:=gt.gp n hgn;obtain⟨w0,r0,ev,n1,n2⟩:=gap_vs hgn;have hT':=hT;rw[ev] at hT';refine⟨_,rfl,.inr (.inl ⟨T1,_,0,.str (Ac w0),rfl,rfl,SqT.of hT',q1m (j:=0) rfl,?_⟩)⟩;refine⟨_,rfl,.inl ⟨rfl,_,rfl,?_⟩⟩;rw[wne n1];refine iteF ⟨_,rfl,.inl ⟨rfl,_,rfl,?_⟩⟩;rw[wne n2];have hlt:n-1<ts.length:=by lia
   have eg:ts.getD (n-1) []=ts[n-1]:=by rw[Fv,Bl hlt];rfl
   have hat:atI (vN ts) ((n:Int)-1)=some (.str (mk (ts.getD (n-1) []))):=by
    have e:((n:Int)-1)=((n-1:Nat):Int):=by lia
    rw[e];refine q1m ?_;rw[Bi,Bl (by lia)];simp[Fv,Bl (show n-1<ts.length by lia)]
   have htx:=gt.tx (ts.getD (n-1) []) (by rw[eg];exact List.getElem_mem hlt);refine iteF ⟨_,rfl,_,rfl,_,rfl,.inr (.inl ⟨T1,_,1,.int (n:Int),rfl,rfl,SqT.of hT',q1m (j:=1) rfl,_,_,rfl,rfl,.inl ⟨G,_,_,_,rfl,rfl,SqL.of hG,hat,T1,p,_,rfl,hT,ok,by rw[hgn];simp,htx.1,htx.2,fun k' m z=>?_,?_⟩⟩)⟩
   ·have e2:k'=n:=by rw[z] at hgn;exact Bs hgn
    have:=gt.mo k' m z;rw[e2] at this;exact this
   ·rw[<- x5f hgn];exact k
structure CallsTl (P:Program) (w:World) (K:Ah) (mg:Str->Option Value) (base:Heap):Prop where
 ask_rule:Cal P w K mg base "ask_rule" 7 ["rule"] (spAskRule K)
 reading:Cal P w K mg base "reading" 6 ["pattern", "name"] spReading
 pieces_of:Cal P w K mg base "pieces_of" 6 ["template"] spPieces
 piece_text:Cal P w K mg base "piece_text" 3 ["piece", "gap_texts", "count"] spPieceText
def stepT(ts:List (List Nat))(cn:Nat)(acc:List (List Nat))(p:Pc):List (List Nat):=if pcI p then acc++[[]] else acc.dropLast++[acc.getLast?.getD []++pcText ts cn p]
def tellT(ts:List (List Nat))(cn:Nat)(qs:List Pc):List (List Nat):=qs.foldl (stepT ts cn) [[]]
theorem q2o(ts:List (List Nat))(cn:Nat)(qs:List Pc)(p:Pc):tellT ts cn (qs++[p])=stepT ts cn (tellT ts cn qs) p:=by simp[tellT]
theorem z5l(ts:List (List Nat))(cn:Nat)(acc:List (List Nat))(p:Pc):∃i l,stepT ts cn acc p=i++[l]:=by
 unfold stepT;split
 ·exact⟨_,_,rfl⟩
 ·exact⟨_,_,rfl⟩
theorem z5m(ts:List (List Nat))(cn:Nat)(qs:List Pc):∃i l,tellT ts cn qs=i++[l]:=by
 by_cases h:qs=[]
 ·subst h;exact⟨[],[],rfl⟩
 ·rw[<- Dw h,q2o];exact z5l _ _ _ _
theorem q7u(ts:List (List Nat))(cn:Nat)(i:List (List Nat)):stepT ts cn i .into=i++[[]]:=rfl
theorem q4f{ts:List (List Nat)}{cn:Nat}{i:List (List Nat)}{l:List Nat}{p:Pc}(h:pcI p=false):stepT ts cn (i++[l]) p=i++[l++pcText ts cn p]:=by
 unfold stepT;rw[if_neg (by rw[h];decide)];simp
theorem z8s(ts:List (List Nat))(cn:Nat)(acc:List (List Nat))(p:Pc):(stepT ts cn acc p).length<=acc.length+1:=by
 unfold stepT;split
 ·rw[Ai];exact Aj _
 ·rw[Ai,Hq];simp
theorem z1e(ts:List (List Nat))(cn:Nat):∀(qs:List Pc) (acc:List (List Nat)),(qs.foldl (stepT ts cn) acc).length<=acc.length+qs.length
 |[],acc=>Aj _
 |q::r,acc=>by
  have h1:=z1e ts cn r (stepT ts cn acc q);have h2:=z8s ts cn acc q;rw[Jx,Bf];lia
theorem z8t(ts:List (List Nat))(cn:Nat)(qs:List Pc):(tellT ts cn qs).length<=qs.length+1:=by
 have:=z1e ts cn qs [[]];unfold tellT;simp only[Bc] at this;lia
def spTells(K:Ah):Sp:=fun vs H Q _=>∃R kd l qs st n,∃cn:Nat,vs=[.ref R,.str (mk n),.int (cn:Int)]/\RuleAt K H R kd l qs st/\n.length<=12/\(∀t∈rd n (parse [] l) 0,∀c∈t,c<128)/\cn<=10^12/\(fits n (parse [] l) 0=false->∀H',Same H H'->Q .non H') /\
 (fits n (parse [] l) 0=true->∀T H',H T=none->Same H H'->H' T=some (.tup (vN (tellT (rd n (parse [] l) 0) cn qs)))->Q (.ref T) H')
theorem x5g{n:List Nat}{b e c:Nat}(h:c∈cut n b e):c∈n:=Sh (Jk h)
theorem z4c{n:List Nat}:∀(ps:List Pt) (b:Nat),∀t∈rd n ps b,∀c∈t,c∈n
 |[],_,_,h=>by cases h
 |p::ps,b,t,h=>by
  rcases Au.mp h with z|z
  ·split at z
   ·rw[Ar.mp z];exact fun c hc=>x5g hc
   ·cases z
  ·exact z4c ps _ t z
theorem wr_le{qs:List Pc}{q:Pc}(h:q∈qs):q.wr.length<=(flatP qs).length:=by
 induction qs with
 |nil=>cases h
 |cons p r ih =>
  rw[q2b,Ai];rcases Bk.mp h with rfl|h
  ·lia
  ·have:=ih h;lia
theorem z5n{p:Pc}(h:pcI p=false):p≠.into:=fun z=>by subst z;cases h
theorem z8u(w:Nat)(t:List Nat):(wn w t).length<=w+t.length:=by unfold wn;rw[Ai,Md];lia
theorem x5h{ts:List (List Nat)}{cn:Nat}{p:Pc}(ho:p.ok)(hc:cn<=10^12)(h1:∀t∈ts,t.length<=12)(h2:p.wr.length<=100)(hg:gapNo p≠none->GTx ts p):(pcText ts cn p).length<=100:=by
 have hd:∀k,(ts.getD (k-1) []).length<=12:=by
  intro k;rw[Fv];cases hz:ts[k-1]? with
  |none=>simp
  |some t=>exact h1 t (Ay hz)
 cases p with
 |tx t=>exact h2
 |gap k=>have:=hd k;show(ts.getD (k-1) []).length<=100;lia
 |great k=>have:=hd k;show((ts.getD (k-1) []).map _).length<=100;rw[Ag];lia
 |small k=>have:=hd k;show((ts.getD (k-1) []).map _).length<=100;rw[Ag];lia
 |nou k w =>
  have:=hd k;have h3:=z8u w (ts.getD (k-1) []);have:w<=9:=ho.2.2;show(wn w (ts.getD (k-1) [])).length<=100;lia
 |more k m =>
  have h0:=hd k;have h3:=z8u (ts.getD (k-1) []).length (dg (Ek (ts.getD (k-1) [])+m));have hm:m<10^9:=ho.2;obtain⟨q1,q2⟩:=(hg (by simp[gapNo])).mo k m rfl;have h4:=dv_lt (ts.getD (k-1) []) q2;have h5:10^(ts.getD (k-1) []).length<=10^12:=Sl (by decide) h0;have h6:=z0d 13 (Ek (ts.getD (k-1) [])+m) (by lia);show(wn _ _).length<=100;lia
 |cnt w =>
  have:w<=9:=ho.2;have h3:=z8u w (dg cn);have h6:=z0d 13 cn (by lia);show(wn w (dg cn)).length<=100;lia
 |into=>exact Be _
theorem neg_at(i:List (List Nat))(l:List Nat):atI (vN (i++[l])) (-1)=some (.str (mk l)):=by
 have e:vN (i++[l])=vN i++[V.str (mk l)]:=by show(i++[l]).map _=_;rw[Av];rfl
 rw[e];unfold atI ixN;rw[if_neg (by decide),if_pos (by rw[Ai,Bc];lia)];have h:((-1:Int)+((vN i++[V.str (mk l)]).length:Int)).toNat=(vN i).length:=by rw[Ai,Bc];lia
 show(vN i++[V.str (mk l)])[((-1:Int)+((vN i++[V.str (mk l)]).length:Int)).toNat]?=_;rw[h,Cr (Aj _),Ia];rfl
theorem neg_ix(i:List (List Nat))(l:List Nat):ixN (vN (i++[l])).length (-1)=some i.length:=by
 unfold ixN;rw[if_neg (by decide),Ag,Ai,Bc,if_pos (by lia)];congr 1;lia
theorem x1k(i:List (List Nat))(l m:List Nat):(vN (i++[l])).set i.length (.str (mk m))=vN (i++[m]):=by
 show((i++[l]).map _).set _ _=(i++[m]).map _;rw[Av,Av,List.set_append_right _ _ (by rw[Ag];exact Aj _),Ag,Ia];rfl
abbrev q9c:Stmt:=top 57
theorem sc_tells:FnScope ["rule", "name", "count", "gap_texts", "texts", "piece"] ["rule", "name", "count"] (defScope q9c):=by trivial
theorem x1l(D:Df K mg "tells" q9c ["rule", "name", "count"])(T:Txt mg)(C:CallsTl P w K mg base):Cal P w K mg base "tells" 8 ["rule", "name", "count"] (spTells K):=by
 refine D.cal sc_tells (fun vs H Q E h=>?_) (fun f cdv A outer s H vs Q E hr h=>?_)
 ·obtain⟨R,kd,l,qs,st,n,cn,rfl,_⟩:=h;rfl
 ·obtain⟨R,kd,l,qs,st,n,cn,rfl,ru,hnl,hnc,hcn,kN,kS⟩:=h;refine⟨_,(q0b (q0w (pe_c C.ask_rule hr (q0a (pv 0) q0d))) (q0b (q0l (i:=3) sc_tells.nd rfl (by trivial) (pe_c C.reading hr (q0a (q0v (ix_k K rfl) (pv 0) q0g (fun _ _=>rfl)) (q0a (pv 1) q0d)))) (q0b (q0t (q2c (q7c (pv 3))) (q0e (q0k q7b)) q0j) (q0b (q0l (i:=4) sc_tells.nd rfl (by trivial) (q1s (q0a q0i q0d))) (q0b (q1p Bt rfl (@q6x _ _ _ _ K rfl (pe_c C.pieces_of hr (q0a (q0v (ix_k K rfl) (pv 0) q0g (fun _ _=>rfl)) q0d))) (q0o (i:=5) sc_tells.nd rfl (by trivial)) (q0e (q0t (q0h (eq_k K rfl hr) (pv 5) (q0u (q0a q0i q0d)) (nomark _)) (q0e (q0w (@bm_k _ _ _ _ _ _ _ _ _ _ _ _ K rfl Bu Cp Cq q1i (pv 4) (q0a q0i q0d) (by rfl) (by rfl) (by rfl) (by rfl) (by rfl)))) (q0e (x3k (pv 4) (q3v q1y q0g) (get_k K rfl) (pe_c C.piece_text hr (q0a (pv 5) (q0a (pv 3) (q0a (pv 2) q0d)))) z1v q5l))))) (q0e (q0k (q1f (x3x K rfl) (by rfl) T.b_tuple (by decide +kernel) (q0a (pv 4) q0d))))))))),?_⟩;refine⟨_,rfl,R,kd,l,qs,st,rfl,ru,fun H1 sm1=>?_⟩;have ru1:=ru.same sm1;refine⟨_,rfl,.inr (.inl ⟨R,_,1,_,rfl,rfl,SqT.of ru1.at_,rfl,_,rfl,l,n,rfl,ru.good,by lia,fun hf H2 sm2=>?_,fun hfit G H2 hG sm2 hG2=>?_⟩)⟩
  ·exact⟨_,rfl,true,rfl,iteT (kN hf _ (sm1.trans sm2))⟩
  obtain⟨rc1,rc2,rc3,rc4⟩:=x2j n (parse [] l) 0 hfit;have k:=kS hfit;generalize hts:rd n (parse [] l) 0=ts at *;refine⟨_,rfl,false,rfl,iteF ?_⟩;refine⟨by show 1<=sizeLine;decide,fun L hL=>?_⟩;have e0:Ac "" = mk []:=by decide +kernel
  have s3:=(Same.refl H2).new (o:=.lst [.str (Ac "")]) hL;have ru3:=(ru1.same sm2).same s3;refine⟨_,rfl,.inr (.inl ⟨R,_,2,_,rfl,rfl,SqT.of ru3.at_,rfl,qs,rfl,ru.wp,fun M H4 hM sm4 hp4=>.inl ⟨M,rfl,hp4.sq,?_⟩⟩)⟩;obtain⟨Us,u1,u2⟩:=hp4.ex;have hUl:=u2.len;have hwl:=Bb (show qs.length<=(flatP qs).length from by
   have:∀qs:List Pc,(∀p∈qs,p.ok)->qs.length<=(flatP qs).length:=by
    intro qs;induction qs with
    |nil=>intro _;exact Aj _
    |cons q r ih =>
     intro hq;have h1:=ih fun p hp=>hq p (Ao _ hp);have h2:=Cw.mpr (x1f (hq q As));rw[q2b,Ai,Bf];lia
   exact this qs ru.wp.ok) ru.wp.sz
  have sA:=(sm1.trans sm2)
  have hLM:M≠L:=fun z=>by rw[z,q0c] at hM;cases hM
  have hLG:G≠L:=fun z=>by rw[z] at hG2;rw[hG2] at hL;cases hL
  have hG4:H4 G=some (.lst (vN ts)):=sm4 _ _ (s3 _ _ hG2);refine q3s (xs:=Us.map V.ref) (fun i σ' H'=>∃x5,σ'=[some (.ref R),some (.str (mk n)),some (.int (cn:Int)),some (.ref G),some (.ref L),x5]/\Same H2 H'/\H' L=some (.lst (vN (tellT ts cn (qs.take i))))/\(∀T xs,H4 T=some (.tup xs)->H' T=some (.tup xs))/\H' M=some (.lst (Us.map V.ref))/\H' G=some (.lst (vN ts))/\(∀t∈tellT ts cn (qs.take i),t.length<=100*i)/\i<=qs.length)
   ⟨none,rfl,s3.trans sm4,by rw[Nq];show H4 L=some (.lst [.str (mk [])]);rw[<- e0];exact sm4 _ _ q0c,fun _ _ e=>e,u1,hG4,fun t ht=>(by rw[Nq] at ht;rw[Ar.mp ht];exact Be _),Be _⟩ (fun i σ' H' _ ⟨_,_,_,_,_,e,_⟩=>SqL.of e) ?_ ?_
  ·rintro i x σ' H' hx ⟨x5,rfl,sm5,hL5,kt,hM5,hG5,hlen,hi⟩;obtain⟨T1,hT1,rfl⟩:∃T,Us[i]?=some T/\x=.ref T:=by
    rw[Bi] at hx;cases hz:Us[i]? with
    |none=>rw[hz] at hx;cases hx
    |some T=>rw[hz] at hx;cases hx;exact⟨T,rfl,rfl⟩
   obtain⟨p,hp1,ht⟩:=u2.get hT1;have hpm:=Ay hp1;have hi':=(Aq.mp hp1).1;have etk:qs.take (i+1)=qs.take i++[p]:=by rw[Hu,hp1];rfl
   have htl:=z8t ts cn (qs.take i);rw[Dq] at htl;refine⟨_,rfl,by show 1<=sizeLine;decide,fun E0 hE0=>?_⟩;have sE:=(Same.refl H').new (o:=.tup [.str (Ac "into")]) hE0;have keepL:∀(ys:List V) (T2:Addr) (xs:List V),H4 T2=some (.tup xs)->upd (upd H' E0 (.tup [.str (Ac "into")])) L (.lst ys) T2=some (.tup xs):=by
    intro ys T2 xs e;have:=sE _ _ (kt _ _ e);rw[q0f (fun z=>by rw[z,sE _ _ hL5] at this;cases this)];exact this
   refine .inr ⟨_,_,.tup (SqT.of (sE _ _ (kt _ _ ht))) (Pc.dts _),.tup (SqT.of q0c) (.cons (.str _) .nil),Pc.lay (ru.wp.ok _ hpm),by decide +kernel,?_,_,rfl,?_⟩
   ·refine Bb (Qc _ _) ?_;decide +kernel
   by_cases hpi:pcI p=true
   ·have hpe:p=.into:=by cases p<;>first|rfl|cases hpi
    subst hpe;rw[show Ft (.tuple (Pc.ds .into)) (.tuple [.str (Ac "into")])=true from by decide +kernel];refine iteT ?_;refine⟨_,rfl,.inl ⟨rfl,⟨_,SqL.of (sE _ _ hL5)⟩⟩,L,_,_,rfl,rfl,sE _ _ hL5,by rw[Ag];exact TX.small' (by lia),?_⟩;have eL:vN (tellT ts cn (qs.take i))++[V.str (Ac "")]=vN (tellT ts cn (qs.take (i+1))):=by
     rw[etk,q2o,q7u,e0];show _=(_++[[]]).map _;rw[Av];rfl
    refine⟨_,rfl,(sm5.new hE0).put hL,by rw[q0c,eL],keepL _,by rw[q0f hLM];exact sE _ _ hM5,by rw[q0f hLG];exact sE _ _ hG5,fun t htm=>?_,hi'⟩;rw[etk,q2o,q7u] at htm;rcases Au.mp htm with z|z
    ·have:=hlen t z;lia
    ·rw[Ar.mp z];exact Be _
   ·have hpi':pcI p=false:=by simpa using hpi
    rw[z4a (z5n hpi')];refine iteF ?_;have ao:=ru.ask p hpm;have gtx:GTx ts p:=⟨fun kk hkk=>⟨(ao.gp kk hkk).1,by rw[rc1];exact(ao.gp kk hkk).2⟩,fun t ht=>⟨Bb (rc4 t ht) hnl,hnc t ht⟩,fun kk m hz=>by
     have hg:=ao.mo kk m hz;obtain⟨o1,o2⟩:=ao.gp kk (by rw[hz];rfl);have hlt:kk-1<ts.length:=by rw[rc1];lia
     have e:ts.getD (kk-1) []=ts[kk-1]:=by rw[Fv,Bl hlt];rfl
     have:=rc2 (kk-1) 35 ts[kk-1] hg (Bl hlt);unfold gapTakes at this;rw[if_neg (by decide),if_pos rfl] at this;rw[e];exact allOf_iff.mp this⟩
    obtain⟨ini,la,hil⟩:=z5m ts cn (qs.take i);rw[hil] at hL5 hlen;refine⟨_,rfl,_,rfl,L,_,-1,_,rfl,rfl,SqL.of (sE _ _ hL5),neg_at ini la,?_⟩;refine⟨_,rfl,_,rfl,_,rfl,T1,G,p,ts,cn,rfl,sE _ _ (kt _ _ ht),ru.wp.ok _ hpm,hpi',sE _ _ hG5,gtx,hcn,?_⟩;have hpt:=x5h (cn:=cn) (ru.wp.ok _ hpm) hcn (fun t ht=>Bb (rc4 t ht) hnl) (Bb (wr_le hpm) ru.wp.sz) fun _=>gtx
    have hla:=hlen la (by simp);refine⟨_,_,rfl,rfl,TX.small (by rw[q0r,q0r];lia),L,_,_,_,rfl,rfl,sE _ _ hL5,neg_ix ini la,?_⟩;rw[q5n,x1k];refine⟨_,rfl,(sm5.new hE0).put hL,?_,keepL _,by rw[q0f hLM];exact sE _ _ hM5,by rw[q0f hLG];exact sE _ _ hG5,fun t htm=>?_,hi'⟩
    ·rw[q0c,etk,q2o,hil,q4f hpi']
    ·rw[etk,q2o,hil,q4f hpi'] at htm;rcases Au.mp htm with z|z
     ·have:=hlen t (Cy _ z);lia
     ·rw[Ar.mp z,Ai];lia
  ·rintro σ' H' ⟨x5,rfl,sm5,hL5,kt,hM5,hG5,hlen,hi⟩;rw[Ag,hUl,Ea] at hL5;refine⟨_,rfl,L,_,rfl,.inl ⟨SqL.of hL5,fun T5 hT5=>?_⟩⟩;exact k T5 _ (sA.free (sm5.free hT5)) ((sA.trans sm5).new hT5) q0c
end
end K
set_option maxHeartbeats 4000000
namespace K
open PySem L2 TX SB HM
section
variable{P:Program}{w:World}{K:Ah}{mg:Str->Option Value}{base:Heap}
theorem q3n(p:Pth):(vP p).length=p.length:=Ag _
theorem q2l{q:Pth}(h:q≠[]):cutV (vP q) none (some (-1))=vP q.dropLast/\¬(HT.sIx (vP q).length 0 none=0/\HT.sIx (vP q).length (vP q).length (some (-1))=(vP q).length):=by
 have hl:=Cw.mpr h;have e:HT.sIx (vP q).length (vP q).length (some (-1))=q.length-1:=by
  show(if (-1:Int)<0 then((-1:Int)+((vP q).length:Int)).toNat else min (-1:Int).toNat (vP q).length)=_;rw[if_pos (by decide),q3n];lia
 refine⟨?_,fun z=>by rw[e,q3n] at z;lia⟩;unfold cutV;rw[e];show((vP q).drop 0).take _=_;rw[Nn];show(vP q).take (q.length-1-0)=_;rw[Pw,<- Sx,<- Rp]
theorem q4y{q:Pth}(h:q≠[]):atI (vP q) (-1)=some (.str (mk (q.getLastD []))):=by
 have hl:=Cw.mpr h;unfold atI ixN;rw[if_neg (by decide),if_pos (by rw[q3n];lia)];have e:((-1:Int)+((vP q).length:Int)).toNat=q.length-1:=by rw[q3n];lia
 show(vP q)[((-1:Int)+((vP q).length:Int)).toNat]?=_;rw[e,Bi,<- Hr,Ka,Gk h];rfl
theorem q4g{q:Pth}(h:okP q):okN (q.getLastD []):=by
 rw[Ka,Gk h.ne];exact h.all _ (Vs h.ne)
theorem x1m{n:List Nat}(h:∀c∈n,c<128):Im (mk n)=mk (lowN n):=by
 apply ext;rw[TX.lower (by rw[q0y];exact h),q0y,q0y];rfl
structure CallsAN (P:Program) (w:World) (K:Ah) (mg:Str->Option Value) (base:Heap):Prop where
 draw:Cal P w K mg base "_law_draw" 1 ["_law_feed", "_law_many"] spDraw
 text:Cal P w K mg base "_law_text" 2 ["_law_feed", "_law_signs", "_law_size"] spText
 name_signs:Cal P w K mg base "_law_name_signs" 1 [] (spConst NSs)
def spName:Sp:=fun vs H Q _=>∃a b,vs=[.ref a]/\FeedAt H a b/\∀(t:List Nat) H',okN t->Fd a b H H'->Q (.str (mk t)) H'
theorem fig_in:∀c∈tl (Ac "0123456789"),c∈HM.NS:=by decide +kernel
abbrev q6s:Stmt:=top 71
theorem sc_a_name:FnScope ["_law_feed", "_law_way"] ["_law_feed"] (defScope q6s):=by trivial
theorem z8v(D:Df K mg "_law_a_name" q6s ["_law_feed"])(T:Txt mg)(C:CallsAN P w K mg base):Cal P w K mg base "_law_a_name" 3 ["_law_feed"] spName:=by
 refine D.cal sc_a_name (fun vs H Q E h=>?_) (fun f cdv A outer s H vs Q E hr h=>?_)
 ·obtain⟨a,b,rfl,_⟩:=h;rfl
 ·obtain⟨a,b,rfl,F,k⟩:=h;refine⟨_,(q0b (q0l (i:=1) sc_a_name.nd rfl (by trivial) (pe_c C.draw hr (q0a (pv 0) (q0a q0g q0d)))) (q0b (q0t (q0h (eq_k K rfl hr) (pv 1) q0g (nomark _)) (q0e (q0k (pe_c C.text hr (q0a (pv 0) (q0a (pe_c0 C.name_signs hr) (q0a (q0s q0m q0g (pe_c C.draw hr (q0a (pv 0) (q0a q0g q0d)))) q0d)))))) q0j) (q0b (q0t (q0h (eq_k K rfl hr) (pv 1) q0g (nomark _)) (q0e (q0k (q0s q0m (q0v (ix_k K rfl) (q1s (q0a q0i (q0a q0i (q0a q0i q0d)))) (pe_c C.draw hr (q0a (pv 0) (q0a q0g q0d))) (fun _ _=>rfl)) (pe_c C.text hr (q0a (pv 0) (q0a q0i (q0a (q0s q0m q0g (pe_c C.draw hr (q0a (pv 0) (q0a q0g q0d)))) q0d))))))) q0j) (q0e (q0k (pe_c C.text hr (q0a (pv 0) (q0a (q1c (sl_k K rfl) q0i q2e (q1b (q0s q0m q0g (pe_c C.draw hr (q0a (pv 0) (q0a q0g q0d)))))) (q0a (q0s q0m q0g (pe_c C.draw hr (q0a (pv 0) (q0a q0g q0d)))) q0d))))))))),?_⟩;refine⟨_,rfl,a,b,_,rfl,F,by decide,by decide,fun r1 H1 r10 r11 fd1=>?_⟩;have kN:∀{g:Str} {n:Int} {H2:Hp},Fd a b H H2->(∀c∈tl g,c∈HM.NS)->1<=n->n<=12->∀(t:List Nat) H',t.length=n.toNat->(∀c∈t,c∈tl g)->Fd a b H2 H'->Q (.str (mk t)) H':=fun{g n H2} fd hg n1 n2 t H' l hc fd'=>k t H' ⟨by lia,by lia,fun c h=>hg c (hc c h)⟩ (fd.trans fd')
  refine⟨_,rfl,.inl ⟨rfl,_,rfl,ite2 (fun h=>?_) (fun h=>?_)⟩⟩
  ·refine⟨_,rfl,rfl,_,rfl,a,b,_,rfl,fd1.feed,by decide,by decide,fun r2 H2 r20 r21 fd2=>.inl ⟨_,_,rfl,rfl,?_⟩⟩;exact⟨a,b,HM.NSs,_,rfl,(fd1.trans fd2).feed,by decide +kernel,by decide +kernel,by lia,by lia,kN (fd1.trans fd2) (fun c h=>h) (by lia) (by lia)⟩
  refine⟨_,rfl,.inl ⟨rfl,_,rfl,ite2 (fun h=>?_) (fun h=>?_)⟩⟩
  ·refine⟨by show 3<=sizeLine;decide,fun M hM=>?_⟩;have fdM:=fd1.new (o:=.lst [.str (Ac "img"),.str (Ac "IMG"),.str (Ac "a")]) hM;have hMa:M≠a:=(fd1.feed.na hM).symm;refine⟨_,rfl,a,b,_,rfl,fdM.feed,by decide,by decide,fun r2 H2 r20 r21 fd2=>?_⟩;have hat:∃g:List Nat,atI [V.str (Ac "img"),V.str (Ac "IMG"),V.str (Ac "a")] r2=some (.str (mk g))/\g.length<=3/\∀c∈g,c∈HM.NS:=by
    have e:r2=0\/r2=1\/r2=2:=by lia
    rcases e with rfl|rfl|rfl
    ·exact⟨tl (Ac "img"),by rw[z4w];rfl,by decide +kernel,by decide +kernel⟩
    ·exact⟨tl (Ac "IMG"),by rw[z4w];rfl,by decide +kernel,by decide +kernel⟩
    ·exact⟨tl (Ac "a"),by rw[z4w];rfl,by decide +kernel,by decide +kernel⟩
   obtain⟨g,hat,hg1,hg2⟩:=hat;refine .inl ⟨M,_,r2,_,rfl,rfl,SqL.of (fd2.at q0c hMa),hat,?_⟩;have fd2':=fdM.trans fd2;refine⟨_,rfl,_,rfl,a,b,_,rfl,fd2'.feed,by decide,by decide,fun r3 H3 r30 r31 fd3=>.inl ⟨_,_,rfl,rfl,?_⟩⟩;have fd3':=fd2'.trans fd3;refine⟨a,b,Ac "0123456789",_,rfl,fd3'.feed,by decide +kernel,by decide +kernel,by lia,by lia,fun t H4 l hc fd4=>.inr (.inl ⟨_,_,rfl,rfl,?_,?_⟩)⟩
   ·rw[q0r,q0r];exact small (by lia)
   ·have e:mk g++mk t=mk (g++t):=by rw[<- z4w (mk g++mk t),q4m,q0y,q0y]
    rw[e];refine k (g++t) H4 ⟨by rw[Ai];lia,by rw[Ai];lia,fun c h=>?_⟩ (fd3'.trans fd4);rcases Au.mp h with h|h
    ·exact hg2 c h
    ·exact fig_in c (hc c h)
  ·refine⟨_,rfl,_,rfl,a,b,_,rfl,fd1.feed,by decide,by decide,fun r2 H2 r20 r21 fd2=>.inl ⟨_,_,rfl,rfl,?_⟩⟩;have fd2':=fd1.trans fd2;have hs:0<(Nz (Ac "aAbB-") none (some (2+r2))).length/\(Nz (Ac "aAbB-") none (some (2+r2))).length<=1000/\∀c∈tl (Nz (Ac "aAbB-") none (some (2+r2))),c∈HM.NS:=by
    have e:r2=0\/r2=1\/r2=2\/r2=3:=by lia
    rcases e with rfl|rfl|rfl|rfl<;>decide +kernel
   refine⟨_,rfl,.inl ⟨_,rfl,by decide +kernel,_,rfl,a,b,_,rfl,fd2'.feed,by decide,by decide,fun r3 H3 r30 r31 fd3=>.inl ⟨_,_,rfl,rfl,?_⟩⟩⟩;exact⟨a,b,_,_,rfl,(fd2'.trans fd3).feed,hs.1,hs.2.1,by lia,by lia,kN (fd2'.trans fd3) hs.2.2 (by lia) (by lia)⟩
def spFold:Sp:=fun vs H Q _=>∃(t:List Nat) (bl:Bool),vs=[.str (mk t),.bl bl]/\okN t/\Q (.str (mk (if bl then lowN t else t))) H
abbrev z2s:Stmt:=top 72
theorem x5i:FnScope ["_law_name", "_law_blind"] ["_law_name", "_law_blind"] (defScope z2s):=by trivial
theorem x5j(D:Df K mg "_law_fold" z2s ["_law_name", "_law_blind"])(T:Txt mg):Cal P w K mg base "_law_fold" 1 ["_law_name", "_law_blind"] spFold:=by
 refine D.cal x5i (fun vs H Q E h=>?_) (fun f cdv A outer s H vs Q E hr h=>?_)
 ·obtain⟨t,bl,rfl,_⟩:=h;rfl
 ·obtain⟨t,bl,rfl,ok,k⟩:=h;refine⟨_,(q0e (q0k (pe_j (q5k (@z2b _ _ _ K rfl (pv 1) (fun _=>rfl)) (@z2a _ _ _ _ _ _ _ _ _ K rfl Ej Ip Iq q5m (pv 0) (by rfl) (by rfl)) (pv 0))))),?_⟩;refine⟨fun v H'=>v=.str (mk (if bl then lowN t else t))/\H'=H,fun v H' ⟨e1,e2⟩=>by rw[e1,e2];exact k,?_⟩;refine⟨_,rfl,bl,rfl,?_⟩;cases bl with
  |true =>
   refine iteT ⟨_,rfl,rfl,_,rfl,rfl,small (by rw[q0r];have:=ok.few;lia),?_,rfl⟩;exact congrArg V.str (x1m ok.low)
  |false=>exact iteF ⟨_,rfl,rfl,rfl⟩
theorem z1f:∀{p q:Pth},kP p=kP q->p=q
 |[],[],_=>rfl
 |[],_::_,h=>by cases h
 |_::_,[],h=>by cases h
 |a::p,b::q,h=>by
  unfold kP at h;rw[An,An] at h;injection h with h1 h2;injection h1 with h1;rw[SB.mk_inj h1,z1f h2]
theorem z8w{rs:List HRow}{p:Pth}(h:∀r∈rs,r.1≠p):valV (rs.map fun r=>(kP r.1,r.2)) (kP p)=none:=by
 induction rs with
 |nil=>rfl
 |cons r rs ih =>
  rw[An,q1h (fun z=>h r As (z1f z))];exact ih fun x hx=>h x (Ao _ hx)
theorem z8x{rs:List HRow}{r:HRow}(hr:r∈rs)(nd:(rs.map (·.1)).Nodup):valV (rs.map fun r=>(kP r.1,r.2)) (kP r.1)=some r.2:=by
 induction rs with
 |nil=>cases hr
 |cons x rs ih =>
  rw[An,En] at nd;rcases Bk.mp hr with rfl|hr
  ·rw[An];exact q1k rfl
  ·rw[An,q1h (fun z=>nd.1 (by rw[z1f z];exact Ba.mpr ⟨r,hr,rfl⟩))];exact ih hr nd.2
theorem z4d{rs:List HRow}{p:Pth}{v:V}(h:∀r∈rs,r.1≠p):putK (rs.map fun r=>(kP r.1,r.2)) (kP p) v=(rs++[(p,v)]).map fun r=>(kP r.1,r.2):=by
 rw[x0e v (z8w h),Av];rfl
def keyO(bl:Bool)(p:Pth):PKey:=(kP p.dropLast,.inr (mk (if bl then lowN (p.getLastD []) else p.getLastD [])))
theorem x5k{bl:Bool}{p q:Pth}(hp:p≠[])(hq:q≠[])(h:fold bl p=fold bl q):keyO bl p=keyO bl q:=by
 obtain⟨h1,h2⟩:=(z7x hp hq).mp h;unfold keyO;cases bl with
 |true=>rw[if_pos rfl] at h2;rw[if_pos rfl,if_pos rfl,h1,h2]
 |false=>rw[if_neg (by decide)] at h2;rw[if_neg (by decide),if_neg (by decide),h1,h2]
theorem x1n{ks:List (PKey×Addr)}{k k':PKey}{b:Addr}(h:hasP ks k=true):hasP (ks++[(k',b)]) k=true:=by
 unfold hasP at *;rw[Wl,h,Bool.true_or]
theorem x1o{ks:List (PKey×Addr)}{k:PKey}{b:Addr}:hasP (ks++[(k,b)]) k=true:=by
 unfold hasP;rw[Wl,Lx];simp
structure RwI (P:Program) (w:World) (H:Hp) (a b L Dr d:Addr) (bl:Bool) (i:Nat) (H':Hp) (zs:List Zr) (ds:List (Addr×Pth)) (ks:List (PKey×Addr)):Prop where
 fd:Fd a b H H'
 rl:RL H' L zs
 hl:Hl bl (zs.map (·.2))
 len:zs.length<=i
 da:H' Dr=some (.lst (ds.map fun z=>V.ref z.1))
 dt:∀z∈ds,H' z.1=some (.tup (vP z.2))/\(z.2=[]\/((z.2,none)∈zs.map (·.2)))
 dn:ds≠[]
 dl:ds.length<=i+1
 hd:DPr P w H' d ks
 kl:ks.length<=i
 hk:∀z∈zs,hasP ks (keyO bl z.2.1)=true
theorem DPr.fd{P:Program}{w:World}{H H':Hp}{a b d:Addr}{ks:List (PKey×Addr)}(x:DPr P w H d ks)(F:FeedAt H a b)(fd:Fd a b H H')(hd:d≠a):DPr P w H' d ks :=
 ⟨fd.at x.at_ hd,x.sys,x.len,fun y hy=>by obtain⟨c,e1,e2⟩:=x.pk y hy;exact⟨c,tupFd F fd _ _ e1,tupFd F fd _ _ e2⟩⟩
section
variable{H:Hp}{a b L Dr d:Addr}{bl:Bool}{i:Nat}{H' H2:Hp}{zs:List Zr}{ds:List (Addr×Pth)}{ks:List (PKey×Addr)}
theorem RwI.go(x:RwI P w H a b L Dr d bl i H' zs ds ks)(fd:Fd a b H' H2)(hL:L≠a)(hD:Dr≠a)(hd:d≠a):RwI P w H a b L Dr d bl i H2 zs ds ks :=
 ⟨x.fd.trans fd,x.rl.fd x.fd.feed fd hL,x.hl,x.len,fd.at x.da hD,fun z hz=>⟨tupFd x.fd.feed fd _ _ (x.dt z hz).1,(x.dt z hz).2⟩,x.dn,x.dl,DPr.fd x.hd x.fd.feed fd hd,x.kl,x.hk⟩
theorem RwI.sm(x:RwI P w H a b L Dr d bl i H' zs ds ks)(s:Same H' H2):RwI P w H a b L Dr d bl i H2 zs ds ks :=
 ⟨x.fd.same s,x.rl.same s,x.hl,x.len,s _ _ x.da,fun z hz=>⟨s _ _ (x.dt z hz).1,(x.dt z hz).2⟩,x.dn,x.dl,x.hd.same s,x.kl,x.hk⟩
theorem RwI.dput{k:PKey}{e:Addr}(x:RwI P w H a b L Dr d bl i H' zs ds ks)(F:FeedAt H a b)(hd:H d=none)(pk:PrK H' k e)(l:ks.length<sizeLine)(nLd:L≠d)(nDd:Dr≠d):RwI P w H a b L Dr d bl (i+1) (upd H' d (PdO P w d (ks++[(k,e)]))) zs ds (ks++[(k,e)]):=by
 have tk:∀S xs,H' S=some (.tup xs)->upd H' d (PdO P w d (ks++[(k,e)])) S=some (.tup xs):=fun S xs e=>by rw[q0f (fun z=>by rw[z,x.hd.at_] at e;cases e)];exact e
 exact⟨x.fd.put F hd,⟨by rw[q0f nLd];exact x.rl.at_,fun z hz=>PR.same (x.rl.pr z hz) tk⟩,x.hl,Fi x.len,by rw[q0f nDd];exact x.da,fun z hz=>⟨tk _ _ (x.dt z hz).1,(x.dt z hz).2⟩,x.dn,Fi x.dl,x.hd.put pk l,by rw[Ai];exact Qd x.kl,fun z hz=>x1n (x.hk z hz)⟩
theorem RwI.rput{T p:Addr}{q:Pth}{m:Option Int}(x:RwI P w H a b L Dr d bl (i+1) H' zs ds ks)(F:FeedAt H a b)(hL:H L=none)(nLd:L≠d)(nDL:Dr≠L)(hz:zs.length<=i)(hT:H' T=some (.tup [.ref p,mV m]))(hp:H' p=some (.tup (vP q)))(ok:okP q)(hnew:∀z∈zs,fold bl z.2.1≠fold bl q)(hq:q.dropLast=[]\/(q.dropLast,none)∈zs.map (·.2))(hk:hasP ks (keyO bl q)=true):RwI P w H a b L Dr d bl (i+1) (upd H' L (.lst (zs.map (fun z=>V.ref z.1)++[.ref T]))) (zs++[(T,(q,m))]) ds ks:=by
 have tk:∀S xs,H' S=some (.tup xs)->upd H' L (.lst (zs.map (fun z=>V.ref z.1)++[.ref T])) S=some (.tup xs):=fun S xs e=>by rw[q0f (fun z=>by rw[z,x.rl.at_] at e;cases e)];exact e
 have em:(zs++[(T,(q,m))]).map (·.2)=zs.map (·.2)++[(q,m)]:=by rw[Av];rfl
 refine⟨x.fd.put F hL,⟨by rw[q0c,Av];rfl,fun z hz=>?_⟩,?_,by rw[Ai];exact Qd hz,by rw[q0f nDL];exact x.da,fun z hz=>⟨tk _ _ (x.dt z hz).1,(x.dt z hz).2.imp id fun y=>by rw[em];exact Cy _ y⟩,x.dn,x.dl,⟨by rw[q0f nLd.symm];exact x.hd.at_,x.hd.sys,x.hd.len,fun y hy=>by obtain⟨c,e1,e2⟩:=x.hd.pk y hy;exact⟨c,tk _ _ e1,tk _ _ e2⟩⟩,x.kl,fun z hz=>?_⟩
 ·rcases Au.mp hz with hz|hz
  ·exact PR.same (x.rl.pr z hz) tk
  ·rw[Ar.mp hz];exact⟨p,tk _ _ hT,tk _ _ hp⟩
 ·rw[em];refine⟨fun r hr=>?_,?_,fun r hr=>?_⟩
  ·rcases Au.mp hr with hr|hr
   ·exact x.hl.ok r hr
   ·rw[Ar.mp hr];exact ok
  ·rw[Av];refine Pa.mpr ⟨x.hl.nd,(Qf _ _),fun y hy y' hy'=>?_⟩;rw[Ar.mp hy'];obtain⟨r,hr,rfl⟩:=Ba.mp hy;obtain⟨z,hz,rfl⟩:=Ba.mp hr;exact hnew z hz
  ·rcases Au.mp hr with hr|hr
   ·exact(x.hl.dr r hr).imp id fun z=>Cy _ z
   ·rw[Ar.mp hr];exact hq.imp id fun z=>Cy _ z
 ·rcases Au.mp hz with hz|hz
  ·exact x.hk z hz
  ·rw[Ar.mp hz];exact hk
theorem RwI.draw{p:Addr}{q:Pth}(x:RwI P w H a b L Dr d bl (i+1) H' zs ds ks)(F:FeedAt H a b)(hD:H Dr=none)(nDL:Dr≠L)(nDd:Dr≠d)(hl:ds.length<=i+1)(hp:H' p=some (.tup (vP q)))(hq:(q,none)∈zs.map (·.2)):RwI P w H a b L Dr d bl (i+1) (upd H' Dr (.lst (ds.map (fun z=>V.ref z.1)++[.ref p]))) zs (ds++[(p,q)]) ks:=by
 have tk:∀S xs,H' S=some (.tup xs)->upd H' Dr (.lst (ds.map (fun z=>V.ref z.1)++[.ref p])) S=some (.tup xs):=fun S xs e=>by rw[q0f (fun z=>by rw[z,x.da] at e;cases e)];exact e
 refine⟨x.fd.put F hD,⟨by rw[q0f nDL.symm];exact x.rl.at_,fun z hz=>PR.same (x.rl.pr z hz) tk⟩,x.hl,x.len,by rw[q0c,Av];rfl,fun z hz=>?_,by simp,by rw[Ai];exact Qd hl,⟨by rw[q0f nDd.symm];exact x.hd.at_,x.hd.sys,x.hd.len,fun y hy=>by obtain⟨c,e1,e2⟩:=x.hd.pk y hy;exact⟨c,tk _ _ e1,tk _ _ e2⟩⟩,x.kl,x.hk⟩;rcases Au.mp hz with hz|hz
 ·exact⟨tk _ _ (x.dt z hz).1,(x.dt z hz).2⟩
 ·rw[Ar.mp hz];exact⟨tk _ _ hp,.inr hq⟩
end
structure CallsN (P:Program) (w:World) (K:Ah) (mg:Str->Option Value) (base:Heap):Prop where
 draw:Cal P w K mg base "_law_draw" 1 ["_law_feed", "_law_many"] spDraw
 a_name:Cal P w K mg base "_law_a_name" 3 ["_law_feed"] spName
 fold:Cal P w K mg base "_law_fold" 1 ["_law_name", "_law_blind"] spFold
def spRows:Sp:=fun vs H Q _=>∃a b bl m,vs=[.ref a,.bl bl,.int m]/\FeedAt H a b/\0<=m/\m<=60/\∀L zs H',Fd a b H H'->H L=none->RL H' L zs->Hl bl (zs.map (·.2))->zs.length<=m.toNat->Q (.ref L) H'
abbrev z2t:Stmt:=top 73
theorem sc_rows:FnScope ["_law_feed", "_law_blind", "_law_most", "_law_rows_here", "_law_drawers", "_law_there", "_law_k", "_law_drawer", "_law_name", "_law_mark"] ["_law_feed", "_law_blind", "_law_most"] (defScope z2t):=by trivial
theorem x5l(D:Df K mg "_law_rows" z2t ["_law_feed", "_law_blind", "_law_most"])(T:Txt mg)(C:CallsN P w K mg base):Cal P w K mg base "_law_rows" 4 ["_law_feed", "_law_blind", "_law_most"] spRows:=by
 refine D.cal sc_rows (fun vs H Q E h=>?_) (fun f cdv A outer s H vs Q E hr h=>?_)
 ·obtain⟨a,b,bl,m,rfl,_⟩:=h;rfl
 ·obtain⟨a,b,bl,m,rfl,F,hm0,hm1,k⟩:=h;refine⟨_,(q0b (q0l (i:=3) sc_rows.nd rfl (by trivial) (q1s q0d)) (q0b (q0l (i:=4) sc_rows.nd rfl (by trivial) (q1s (q0a (q0u q0d) q0d))) (q0b (q0l (i:=5) sc_rows.nd rfl (by trivial) (x0v P w rfl rfl)) (q0b (q1p Bt rfl (q1v rfl T.b_range (q0a (pe_c C.draw hr (q0a (pv 0) (q0a (q0s q0m (pv 2) q0g) q0d))) q0d)) (q0o (i:=6) sc_rows.nd rfl (by trivial)) (q0b (q0l (i:=7) sc_rows.nd rfl (by trivial) (q0v (ix_k K rfl) (pv 4) (pe_c C.draw hr (q0a (pv 0) (q0a (q0p (q1z K rfl) (by rfl) T.b_len Br (q0a (pv 4) q0d)) q0d))) (fun _ _=>rfl))) (q0b (q0l (i:=8) sc_rows.nd rfl (by trivial) (pe_c C.a_name hr (q0a (pv 0) q0d))) (q0b (q0l (i:=9) sc_rows.nd rfl (by trivial) (q0v (ix_k K rfl) (q1s (q0a q7b (q0a q0g (q0a (pe_c C.draw hr (q0a (pv 0) (q0a q0g q0d))) (q0a (pe_c C.draw hr (q0a (pv 0) (q0a (q0s q0m (q0s x2c q0g q0g) q0g) q0d))) q0d))))) (pe_c C.draw hr (q0a (pv 0) (q0a q0g q0d))) (fun _ _=>rfl))) (q0e (q0t (pt_j (@PW.pt _ _ _ (q4k (q0h z4j (q0p (q1z K rfl) (by rfl) T.b_len Br (q0a (pv 7) q0d)) q0g (nomark _)) (q2q (q2c (z8a P w rfl rfl (q6k hr) (q0u (q0a (pv 7) (q0a (pe_c C.fold hr (q0a (pv 8) (q0a (pv 1) q0d))) q0d))) (pv 5))))))) (q0b (x4p P w rfl rfl (q6k hr) (pv 5) (q0u (q0a (pv 7) (q0a (pe_c C.fold hr (q0a (pv 8) (q0a (pv 1) q0d))) q0d))) q9h rfl) (q0b (q0w (@bm_k _ _ _ _ _ _ _ _ _ _ _ _ K rfl Bu Cp Cq q1i (pv 3) (q0a (q0u (q0a (q0s q8l (pv 7) (q0u (q0a (pv 8) q0d))) (q0a (pv 9) q0d))) q0d) (by rfl) (by rfl) (by rfl) (by rfl) (by rfl))) (q0e (q0t (q2c (q7c (pv 9))) (q0e (q0w (@bm_k _ _ _ _ _ _ _ _ _ _ _ _ K rfl Bu Cp Cq q1i (pv 4) (q0a (q0s q8l (pv 7) (q0u (q0a (pv 8) q0d))) q0d) (by rfl) (by rfl) (by rfl) (by rfl) (by rfl)))) q0j)))) q0j)))))) (q0e (q0k (pv 3))))))),?_⟩;refine⟨by show 0<=sizeLine;decide,fun L hL=>⟨by show 0<=sizeLine;decide,fun p0 hp0=>⟨by show 1<=sizeLine;decide,fun Dr hDr=>?_⟩⟩⟩;intro d hd hsys;have hLa:L≠a:=(q0n F.fa.choose_spec.choose_spec hL).symm;have s1:=(Same.refl H).new (o:=.lst []) hL;have s2:=s1.new (o:=.tup []) hp0;have s3:=s2.new (o:=.lst [.ref p0]) hDr;have s4:=s3.new (o:=PdO P w d []) hd;have hDrH:H Dr=none:=s2.free hDr;have hdH:H d=none:=s3.free hd;have hDa:Dr≠a:=(q0n F.fa.choose_spec.choose_spec hDrH).symm;have hda:d≠a:=(q0n F.fa.choose_spec.choose_spec hdH).symm;have hLp:p0≠L:=fun z=>by rw[z,q0c] at hp0;cases hp0
  have hLDr:Dr≠L:=fun z=>by rw[z,q0f hLp.symm,q0c] at hDr;cases hDr
  have hpDr:Dr≠p0:=fun z=>by rw[z,q0c] at hDr;cases hDr
  have hLd:d≠L:=fun z=>by rw[z,q0f hLDr.symm,q0f hLp.symm,q0c] at hd;cases hd
  have hDd:d≠Dr:=fun z=>by rw[z,q0c] at hd;cases hd
  have hpd:d≠p0:=fun z=>by rw[z,q0f hpDr.symm,q0c] at hd;cases hd
  have I0:RwI P w H a b L Dr d bl 0 (upd (upd (upd (upd H L (.lst [])) p0 (.tup [])) Dr (.lst [.ref p0])) d (PdO P w d [])) [] [(p0,[])] []:=by
   refine⟨(Fd.refl F).same s4,⟨?_,(fun _ h=>nomatch h)⟩,Hl.nil bl,Aj _,?_,fun z hz=>?_,by simp,Aj _,⟨q0c,hsys,Be _,(fun _ h=>nomatch h)⟩,Aj _,(fun _ h=>nomatch h)⟩
   ·rw[q0f hLd.symm,q0f hLDr.symm,q0f hLp.symm];exact q0c
   ·rw[q0f hDd.symm];exact q0c
   ·rw[Ar.mp hz];exact⟨by rw[q0f hpd.symm,q0f hpDr.symm];exact q0c,.inl rfl⟩
  refine⟨_,rfl,_,rfl,.inl ⟨_,_,rfl,rfl,a,b,_,rfl,I0.fd.feed,by lia,by lia,fun r0 H1 r00 r01 fd1=>?_⟩⟩;have I1:=I0.go fd1 hLa hDa hda;refine⟨r0,rfl,by lia,by lia,q2d (n:=r0.toNat) (fun i σ' H'=>∃zs ds ks x6 x7 x8 x9,σ'=[some (.ref a),some (.bl bl),some (.int m),some (.ref L),some (.ref Dr),some (.ref d),x6,x7,x8,x9]/\RwI P w H a b L Dr d bl i H' zs ds ks/\i<=r0.toNat) ⟨[],_,_,none,none,none,none,rfl,I1,Be _⟩ ?_ ?_⟩
  ·rintro i σ' H' hi ⟨zs,ds,ks,x6,x7,x8,x9,rfl,I2,_⟩;have hdl:=I2.dl;have hdn:0<ds.length:=Cw.mpr I2.dn;refine⟨_,rfl,_,rfl,_,rfl,_,_,rfl,.inl ⟨_,SqL.of I2.da,rfl⟩,a,b,_,rfl,I2.fd.feed,by rw[Ag];lia,by rw[Ag];lia,fun r1 H2 r10 r11 fd2=>?_⟩;have I3:=I2.go fd2 hLa hDa hda;rw[Ag] at r11;obtain⟨v,hv1,hv2⟩:=z6t (xs:=ds.map fun z=>V.ref z.1) r10 (by rw[Ag];exact r11);obtain⟨z,hz,rfl⟩:∃z∈ds,v=V.ref z.1:=by
    rw[Bi] at hv1;cases e:ds[r1.toNat]? with
    |none=>rw[e] at hv1;cases hv1
    |some z=>rw[e] at hv1;cases hv1;exact⟨z,Ay e,rfl⟩
   refine .inl ⟨Dr,_,r1,_,rfl,rfl,SqL.of I3.da,hv2,?_⟩;refine⟨_,rfl,a,b,rfl,I3.fd.feed,fun t H3 okt fd3=>?_⟩;have I4:=I3.go fd3 hLa hDa hda;refine⟨_,rfl,a,b,_,rfl,I4.fd.feed,by decide,by decide,fun m1 H5 m10 m11 fd5=>?_⟩;have I5:=I4.go fd5 hLa hDa hda;refine⟨_,rfl,_,_,rfl,rfl,⟨by decide,by decide,by decide⟩,.inl ⟨_,_,rfl,rfl,a,b,_,rfl,I5.fd.feed,by decide,by decide,fun m2 H6 m20 m21 fd6=>⟨by show 4<=sizeLine;decide,fun M hM=>?_⟩⟩⟩;have I6:=I5.go fd6 hLa hDa hda;have hMa:M≠a:=(I6.fd.feed.na hM).symm;have I7:=I6.sm ((Same.refl H6).new (o:=.lst [.non,.int 0,.int m1,.int m2]) hM);refine⟨_,rfl,a,b,_,rfl,I7.fd.feed,by decide,by decide,fun m3 H8 m30 m31 fd8=>?_⟩;have I8:=I7.go fd8 hLa hDa hda;have hat:∃mk0:Option Int,atI [V.non,V.int 0,V.int m1,V.int m2] m3=some (mV mk0):=by
    have e:m3=0\/m3=1\/m3=2\/m3=3:=by lia
    rcases e with rfl|rfl|rfl|rfl
    ·exact⟨none,rfl⟩
    ·exact⟨some 0,rfl⟩
    ·exact⟨some m1,rfl⟩
    ·exact⟨some m2,rfl⟩
   obtain⟨mk0,hat⟩:=hat;refine .inl ⟨M,_,m3,_,rfl,rfl,SqL.of (fd8.at q0c hMa),hat,?_⟩;clear hat I7 I6 I5 I4 I3 fd2 fd3 fd5 fd6 hv1 hv2 hMa;obtain⟨zt,zd⟩:=I8.dt z hz;have hqne:z.2++[t]≠[]:=by simp
   have hk2:keyO bl (z.2++[t])=(kP z.2,.inr (mk (if bl then lowN t else t))):=by
    unfold keyO;rw[Sm,List.getLastD_concat]
   have pk:∀{H9:Hp} {p:Addr},H9 z.1=some (.tup (vP z.2))->H9 p=some (.tup [.ref z.1,.str (mk (if bl then lowN t else t))])->PrK H9 (keyO bl (z.2++[t])) p:=fun{H9 p} e1 e2=>by
    rw[hk2];exact⟨z.1,e2,by rw[q6f];exact e1⟩
   refine⟨fun bb H9=>RwI P w H a b L Dr d bl i H9 zs ds ks/\(bb=true->z.2.length<6/\hasP ks (keyO bl (z.2++[t]))=false),?_,?_⟩;rotate_left
   ·refine⟨_,rfl,_,_,rfl,.inr ⟨_,SqT.of zt,rfl⟩,_,_,rfl,rfl,_,rfl,?_⟩;refine iteB (fun hb=>?_) (fun hb=>⟨I8,(fun z=>by cases z)⟩);have hb':z.2.length<6:=by
     have e:=of_decide_eq_true hb;rw[q3n] at e;lia
    refine⟨_,rfl,_,rfl,_,rfl,t,bl,rfl,okt,by show 2<=sizeLine;decide,fun p2 hp2=>?_⟩;have s9:=(Same.refl H8).new (o:=.tup [.ref z.1,.str (mk (if bl then lowN t else t))]) hp2;exact⟨_,rfl,d,ks,p2,keyO bl (z.2++[t]),rfl,rfl,(I8.sm s9).hd,pk (s9 _ _ zt) q0c,_,rfl,I8.sm s9,fun e=>⟨hb',by simpa using e⟩⟩
   rintro bb H9 ⟨I9,hbb⟩;refine ite2 (fun hb=>?_) (fun hb=>⟨zs,ds,ks,_,_,_,_,rfl,⟨I9.fd,I9.rl,I9.hl,Fi I9.len,I9.da,I9.dt,I9.dn,Fi I9.dl,I9.hd,Fi I9.kl,I9.hk⟩,hi⟩);obtain⟨h6,hno⟩:=hbb hb;obtain⟨zt9,_⟩:=I9.dt z hz;refine⟨_,rfl,_,rfl,_,rfl,_,rfl,t,bl,rfl,okt,by show 2<=sizeLine;decide,fun p3 hp3=>?_⟩;have sA:=(Same.refl H9).new (o:=.tup [.ref z.1,.str (mk (if bl then lowN t else t))]) hp3;have IA:=I9.sm sA;have pkA:=pk (sA _ _ zt9) (p:=p3) q0c;have ksl:ks.length<sizeLine:=by have:=I9.kl;exact small' (by lia)
   refine⟨d,ks,p3,keyO bl (z.2++[t]),rfl,rfl,rfl,IA.hd,pkA,hno,ksl,?_⟩;have IB:=IA.dput F hdH pkA ksl hLd.symm hDd.symm;have hl9:zs.length<=i:=I9.len;have hnew:∀y∈zs,fold bl y.2.1≠fold bl (z.2++[t]):=fun y hy e=>by
    have h1:=I9.hk y hy;rw[x5k (I9.hl.ok _ (Ba.mpr ⟨y,hy,rfl⟩)).ne hqne e] at h1;rw[h1] at hno;cases hno
   have okp:okP (z.2++[t]):=by
    refine⟨by simp,by rw[Ai];show _+1<=6;lia,fun n hn=>?_⟩;rcases Au.mp hn with hn|hn
    ·rcases zd with e|e
     ·rw[e] at hn;cases hn
     ·exact(I9.hl.ok _ e).all n hn
    ·rw[Ar.mp hn];exact okt
   have hqd:(z.2++[t]).dropLast=[]\/((z.2++[t]).dropLast,none)∈zs.map (·.2):=by rw[Sm];exact zd
   have hkB:hasP (ks++[(keyO bl (z.2++[t]),p3)]) (keyO bl (z.2++[t]))=true:=x1o;clear IA I8 zt zt9 pkA pk hno hbb I9 sA;generalize upd (upd H9 p3 (.tup [.ref z.1,.str (mk (if bl then lowN t else t))])) d _=HB at IB;generalize ks++[(keyO bl (z.2++[t]),p3)]=ks2 at IB hkB;obtain⟨ztB,_⟩:=IB.dt z hz;refine⟨_,rfl,.inl ⟨rfl,_,SqL.of IB.rl.at_⟩,_,rfl,_,rfl,by show 1<=sizeLine;decide,fun p4 hp4=>?_⟩;have s5:=(Same.refl HB).new (o:=.tup [.str (mk t)]) hp4;refine⟨z.1,p4,_,_,rfl,rfl,s5 _ _ ztB,q0c,by rw[q3n];exact small (by show _+1<=_;lia),fun p5 HC sC hp5 _=>?_⟩;have hp5':HC p5=some (.tup (vP (z.2++[t]))):=by rw[hp5];show _=some (HO.tup ((z.2++[t]).map _));rw[Av];rfl
   have IC:=IB.sm (s5.trans sC);refine⟨_,rfl,by show 2<=sizeLine;decide,fun T1 hT1=>?_⟩;have sD:=(Same.refl HC).new (o:=.tup [.ref p5,mV mk0]) hT1;have ID:=IC.sm sD;refine⟨L,_,_,rfl,rfl,ID.rl.at_,by rw[Ag];exact small' (by lia),?_⟩;have IE:=ID.rput (m:=mk0) F hL hLd.symm hLDr hl9 q0c (sD _ _ hp5') okp hnew hqd hkB;have zE:=(IE.dt z hz).1;generalize upd (upd HC T1 (.tup [.ref p5,mV mk0])) L _=HE at IE zE;refine⟨_,rfl,_,rfl,?_⟩;cases mk0 with
   |some x=>exact iteF ⟨_,_,_,_,_,_,_,rfl,IE,hi⟩
   |none =>
    refine iteT ⟨_,rfl,.inl ⟨rfl,_,SqL.of IE.da⟩,_,rfl,_,rfl,by show 1<=sizeLine;decide,fun p6 hp6=>?_⟩;have s6:=(Same.refl HE).new (o:=.tup [.str (mk t)]) hp6;refine⟨z.1,p6,_,_,rfl,rfl,s6 _ _ zE,q0c,by rw[q3n];exact small (by show _+1<=_;lia),fun p7 HF sF hp7 _=>?_⟩;have hp7':HF p7=some (.tup (vP (z.2++[t]))):=by rw[hp7];show _=some (HO.tup ((z.2++[t]).map _));rw[Av];rfl
    have IF:=IE.sm (s6.trans sF);refine⟨Dr,_,_,rfl,rfl,IF.da,by rw[Ag];exact small' (by lia),?_⟩;exact⟨_,_,_,_,_,_,_,rfl,IF.draw F hDrH hLDr hDd.symm hdl hp7' (by simp),hi⟩
  ·rintro σ' H' ⟨zs,ds,ks,x6,x7,x8,x9,rfl,I2,_⟩;exact⟨_,rfl,k L zs H' I2.fd hL I2.rl I2.hl (by have:=I2.len;lia)⟩
end
end K
set_option maxHeartbeats 4000000
namespace K
open PySem L2 TX SB HM
section
variable{P:Program}{w:World}{K:Ah}{mg:Str->Option Value}{base:Heap}
structure Hk (K:Ah) (c:Addr):Prop where
 cl:Cls K c
 b:NoAttr K c "blind"
 m:NoAttr K c "marks"
abbrev hF(bl:Bool)(d:Addr):List (Str×V):=[("blind",.bl bl),("marks",.ref d)]
structure HallAt (c:Addr) (H:Hp) (h d:Addr) (bl:Bool) (rows:List Rw):Prop where
 i:∃dx,H h=some (.ins c dx (hF bl d))
 d:H d=some (dR (rows.map rR))
theorem HallAt.same{c:Addr}{H H':Hp}{h d:Addr}{bl:Bool}{rows:List Rw}(x:HallAt c H h d bl rows)(s:Same H H'):HallAt c H' h d bl rows:=⟨x.i.imp fun dx e=>s _ _ e,s _ _ x.d⟩
def spAlike:Sp:=fun vs H Q _=>∃x y,vs=[.str x,.str y]/\(∀c∈tl x,c<128)/\(∀c∈tl y,c<128)/\x.length<=1000/\y.length<=1000/\Q (.bl (decide ((tl x).map Jn=(tl y).map Jn))) H
abbrev q9d:Stmt:=top 17
theorem x1p:FnScope ["one", "other"] ["one", "other"] (defScope q9d):=by trivial
theorem x1q(D:Df K mg "alike" q9d ["one", "other"])(T:Txt mg):Cal P w K mg base "alike" 1 ["one", "other"] spAlike:=by
 refine D.cal x1p (fun vs H Q E h=>?_) (fun f cdv A outer s H vs Q E hr h=>?_)
 ·obtain⟨x,y,rfl,_⟩:=h;rfl
 ·obtain⟨x,y,rfl,ax,ay,lx,ly,k⟩:=h;refine⟨_,(q0e (q0k (q2m (eq_k K rfl hr) (@z2a _ _ _ _ _ _ _ _ _ K rfl Ej Ip Iq q5m (pv 0) (by rfl) (by rfl)) (@z2a _ _ _ _ _ _ _ _ _ K rfl Ej Ip Iq q5m (pv 1) (by rfl) (by rfl)) (nomark _)))),?_⟩;refine⟨_,rfl,rfl,_,rfl,rfl,small (by lia),⟨_,rfl,rfl,_,rfl,rfl,small (by lia),.inl ⟨rfl,?_⟩⟩⟩;have e:decide ((V.str (Im x))=V.str (Im y))=decide ((tl x).map Jn=(tl y).map Jn):=by
   rw[<- TX.lower ax,<- TX.lower ay];by_cases h:Im x=Im y
   ·rw[h];simp
   ·rw[decide_eq_false (fun z=>h (V.str.inj z)),decide_eq_false (fun z=>h (TX.ext z))]
  rw[e];exact k
structure CallsH (P:Program) (w:World) (K:Ah) (mg:Str->Option Value) (base:Heap):Prop where
 alike:Cal P w K mg base "alike" 1 ["one", "other"] spAlike
theorem q5o{p:Pth}(h:Low p):Low p.dropLast:=fun n hn=>h n (List.dropLast_subset _ hn)
def spOneP(c:Addr):Sp:=fun vs H Q _=>∃h p q bl dx fs one other,vs=[.ref h,.ref p,.ref q]/\H h=some (.ins c dx fs)/\fs.lookup ("blind" : Str)=some (V.bl bl)/\H p=some (.tup (vP one))/\H q=some (.tup (vP other))/\okP one/\okP other /\
 ∀H',Same H H'->Q (.bl (decide (fold bl one=fold bl other))) H'
abbrev q1l:Stmt:=inClass (top 65) 3
theorem q3w:FnScope ["self", "one", "other"] ["self", "one", "other"] (defScope q1l):=by trivial
theorem z1g{c:Addr}(D:Mf K c "is_one_place" "Hall.is_one_place" q1l ["self", "one", "other"])(hk:Hk K c)(T:Txt mg)(C:CallsH P w K mg base):MCal P w K mg base c "is_one_place" 2 ["self", "one", "other"] (spOneP c):=by
 refine D.cal hk.cl q3w (fun vs H Q E h=>?_) (fun f cdv A outer s H vs Q E hr h=>?_)
 ·obtain⟨h,p,q,bl,dx,fs,one,other,rfl,_⟩:=h;rfl
 ·obtain⟨h,p,q,bl,dx,fs,one,other,rfl,hh,hb,hp,hq,ok1,ok2,k⟩:=h;refine⟨_,(q0b (q0t (q0h (ne_k K rfl hr) (q1c (sl_k K rfl) (pv 1) q2e (q1b (q3v q1y q0g))) (q1c (sl_k K rfl) (pv 2) q2e (q1b (q3v q1y q0g))) (nomark _)) (q0e (q0k q9h)) q0j) (q0b (q0t (@z2b _ _ _ K rfl (@z5f _ _ _ _ _ K rfl (pv 0) (by rfl)) (fun _=>rfl)) (q0e (q0k (pe_c C.alike hr (q0a (q0v (ix_k K rfl) (pv 1) (q3v q1y q0g) (fun _ _=>rfl)) (q0a (q0v (ix_k K rfl) (pv 2) (q3v q1y q0g) (fun _ _=>rfl)) q0d))))) q0j) (q0e (q0k (q2m (eq_k K rfl hr) (q0v (ix_k K rfl) (pv 1) (q3v q1y q0g) (fun _ _=>rfl)) (q0v (ix_k K rfl) (pv 2) (q3v q1y q0g) (fun _ _=>rfl)) (nomark _)))))),?_⟩;obtain⟨c1,c2⟩:=q2l ok1.ne;obtain⟨d1,d2⟩:=q2l ok2.ne;refine⟨_,rfl,_,rfl,_,rfl,.inr (.inr ⟨p,_,rfl,SqT.of hp,c2,fun p1 hp1=>?_⟩)⟩;rw[c1];have s1:=(Same.refl H).new (o:=.tup (vP one.dropLast)) hp1;refine⟨_,rfl,_,rfl,_,rfl,.inr (.inr ⟨q,_,rfl,SqT.of (s1 _ _ hq),d2,fun p2 hp2=>?_⟩)⟩;rw[d1];have s2:=s1.new (o:=.tup (vP other.dropLast)) hp2;have hp1':upd (upd H p1 (.tup (vP one.dropLast))) p2 (.tup (vP other.dropLast)) p1=some (.tup (vP one.dropLast)):=by
   rw[q0f (fun z=>by rw[<- z,q0c] at hp2;cases hp2)];exact q0c
  generalize hH2:upd (upd H p1 (.tup (vP one.dropLast))) p2 (.tup (vP other.dropLast))=H2 at s2 hp1';have hp2':H2 p2=some (.tup (vP other.dropLast)):=by rw[<- hH2];exact q0c
  have fe:=z7x (bl:=bl) ok1.ne ok2.ne;refine q8n hp1' hp2' (q5o ok1.low) (q5o ok2.low) ⟨_,rfl,ite2 (fun hne=>?_) (fun hne=>?_)⟩
  ·have hne':one.dropLast≠other.dropLast:=by simpa using hne
   have e:decide (fold bl one=fold bl other)=false:=decide_eq_false fun z=>hne' (fe.mp z).1;refine(?_:Q _ _);rw[<- e];exact k _ s2
  ·have heq:one.dropLast=other.dropLast:=by simpa using hne
   refine⟨_,rfl,h,c,dx,fs,_,rfl,s2 _ _ hh,hk.cl,hk.b,hb,_,rfl,?_⟩;have l1:=q4g ok1;have l2:=q4g ok2;cases bl with
   |true =>
    refine iteT ⟨_,rfl,_,rfl,.inr (.inl ⟨p,_,-1,_,rfl,rfl,SqT.of (s2 _ _ hp),q4y ok1.ne,?_⟩)⟩;refine⟨_,rfl,_,rfl,.inr (.inl ⟨q,_,-1,_,rfl,rfl,SqT.of (s2 _ _ hq),q4y ok2.ne,?_⟩)⟩;refine⟨_,_,rfl,by rw[q0y];exact l1.low,by rw[q0y];exact l2.low,by rw[q0r];have:=l1.few;lia,by rw[q0r];have:=l2.few;lia,?_⟩;rw[q0y,q0y];have e:decide (fold true one=fold true other)=decide (lowN (one.getLastD [])=lowN (other.getLastD [])):=by
     refine decide_eq_decide.mpr (fe.trans ⟨fun z=>by simpa using z.2,fun z=>⟨heq,by simpa using z⟩⟩)
    have:=k _ s2;rw[e] at this;exact this
   |false =>
    refine iteF ⟨_,rfl,_,rfl,.inr (.inl ⟨p,_,-1,_,rfl,rfl,SqT.of (s2 _ _ hp),q4y ok1.ne,?_⟩)⟩;refine⟨_,rfl,_,rfl,.inr (.inl ⟨q,_,-1,_,rfl,rfl,SqT.of (s2 _ _ hq),q4y ok2.ne,?_⟩)⟩;refine .inl ⟨rfl,?_⟩;have e:decide (fold false one=fold false other)=decide (V.str (mk (one.getLastD []))=V.str (mk (other.getLastD []))):=by
     refine decide_eq_decide.mpr (fe.trans ⟨fun z=>?_,fun z=>⟨heq,?_⟩⟩)
     ·have:=z.2;simp only[Az,if_false] at this;rw[this]
     ·simp only[Az,if_false];exact SB.mk_inj (V.str.inj z)
    have:=k _ s2;rw[e] at this;exact this
def spThere(c:Addr):Sp:=fun vs H Q _=>∃h d p bl rows place,vs=[.ref h,.ref p]/\HallAt c H h d bl rows/\H p=some (.tup (vP place))/\okP place/\(∀r∈rows,okP r.1) /\
 (∀H',Same H H'->(∀r∈rows,fold bl r.1≠fold bl place)->Q .non H')/\∀H' b r,Same H H'->r∈rows->fold bl r.1=fold bl place->H' b=some (.tup (vP r.1))->Q (.ref b) H'
structure CallsI (P:Program) (w:World) (K:Ah) (mg:Str->Option Value) (base:Heap) (c:Addr):Prop where
 m_is_one_place:MCal P w K mg base c "is_one_place" 2 ["self", "one", "other"] (spOneP c)
theorem z1h{H H':Hp}{d:Addr}{o:HO}(hd:H d=some o)(k:∀a u,a≠d->H a=some u->H' a=some u):Same H (upd H' d o):=fun a u e=>by
 by_cases z:a=d
 ·subst z;rw[q0c,<- hd];exact e
 ·rw[q0f z];exact k a u z e
abbrev q2z:Stmt:=inClass (top 65) 4
theorem sc_Hall_there:FnScope ["self", "place", "path"] ["self", "place"] (defScope q2z):=by trivial
theorem x1r{c:Addr}(D:Mf K c "there" "Hall.there" q2z ["self", "place"])(hk:Hk K c)(T:Txt mg)(C:CallsI P w K mg base c):MCal P w K mg base c "there" 3 ["self", "place"] (spThere c):=by
 refine D.cal hk.cl sc_Hall_there (fun vs H Q E h=>?_) (fun f cdv A outer s H vs Q E hr h=>?_)
 ·obtain⟨h,d,p,bl,rows,place,rfl,_⟩:=h;rfl
 ·obtain⟨h,d,p,bl,rows,place,rfl,hh,hp,ok,oks,k1,k2⟩:=h;refine⟨_,(q0b (x4h H rfl (q1p Bt rfl (@ditT_k _ _ _ _ K rfl (@z5f _ _ _ _ _ K rfl (pv 0) (by rfl))) (q0o (i:=2) sc_Hall_there.nd rfl (by trivial)) (q0e (q0t (@z2b _ _ _ K rfl (pe_m C.m_is_one_place hr (pv 0) (q0a (pv 2) (q0a (pv 1) q0d))) (fun _=>rfl)) (q0e (q0k (pv 2))) q0j)))) (q0e (q0k q7b))),?_⟩;obtain⟨dx,hi⟩:=hh.i;have hd:=hh.d;have hhd:h≠d:=fun z=>by rw[z,hd] at hi;cases hi
  have hpd:p≠d:=fun z=>by rw[z,hd] at hp;cases hp
  refine⟨d,(fun o v e=>by rw[hd] at e;cases e),?_⟩;refine⟨_,rfl,h,c,dx,_,_,rfl,hi,hk.cl,hk.m,rfl,d,_,rfl,hd,fun ob=>?_⟩;refine z7i (fun i σ' H'=>(∃x,σ'=[some (.ref h),some (.ref p),x])/\H' d=some (.frz ob (dR (rows.map rR)))/\(∀a u,a≠d->H a=some u->H' a=some u)/\∀r∈rows.take i,fold bl r.1≠fold bl place)
   ⟨⟨none,rfl⟩,q0c,fun a u n e=>by rw[q0f n];exact e,fun r hr=>by rw[Nq] at hr;cases hr⟩ (fun i σ' H' x=>x.2.1) ?_ ?_
  ·rintro i ky v b σ' H' hk' hb ⟨⟨x,rfl⟩,hfz,kp,hno⟩;obtain⟨r,hr,rfl,rfl⟩:∃r,rows[i]?=some r/\ky=kP r.1/\v=mV r.2:=by
    rw[Bi,Bi] at hk';cases e:rows[i]? with
    |none=>rw[e] at hk';cases hk'
    |some r=>rw[e] at hk';cases hk';exact⟨r,rfl,rfl,rfl⟩
   have hrm:=Ay hr;rw[q6f] at hb;refine⟨_,rfl,h,dx,_,rfl,kp _ _ hhd hi,rfl,_,rfl,_,rfl,h,b,p,bl,dx,_,r.1,place,rfl,kp _ _ hhd hi,rfl,hb,kp _ _ hpd hp,oks r hrm,ok,fun H2 s2=>⟨_,rfl,?_⟩⟩;have kp2:∀a u,a≠d->H a=some u->H2 a=some u:=fun a u n e=>s2 _ _ (kp a u n e);refine iteB (fun he=>?_) (fun he=>?_)
   ·refine⟨_,rfl,ob,_,s2 _ _ hfz,k2 _ b r (z1h hd kp2) hrm (of_decide_eq_true he) ?_⟩;rw[q0f (fun z=>by rw[z,hfz] at hb;cases hb)];exact s2 _ _ hb
   ·refine⟨⟨_,rfl⟩,s2 _ _ hfz,kp2,fun y hy=>?_⟩;rw[Li,hr] at hy;rcases Au.mp hy with hy|hy
    ·exact hno y hy
    ·cases Ar.mp hy;exact of_decide_eq_false he
  ·rintro σ' H' ⟨⟨x,rfl⟩,hfz,kp,hno⟩;refine⟨ob,_,hfz,k1 _ (z1h hd kp) fun r hr=>hno r ?_⟩;rw[Ag,Ag,Ea];exact hr
def spHRows(c:Addr):Sp:=fun vs H Q _=>∃h d bl rows,vs=[.ref h]/\HallAt c H h d bl rows/\rows.length<64/\(∀r∈rows,Low r.1) /\
 ∀L zs H',H L=none->Same H H'->RL H' L zs->(zs.map (·.2)).Perm rows->(zs.map (·.2.1)).Pairwise (fun a b=>pLt b a=false)->Q (.ref L) H'
abbrev q3o:Stmt:=inClass (top 65) 1
theorem z1i:FnScope ["self"] ["self"] (defScope q3o):=by trivial
theorem x1s{c:Addr}(D:Mf K c "rows" "Hall.rows" q3o ["self"])(hk:Hk K c)(T:Txt mg):MCal P w K mg base c "rows" 2 ["self"] (spHRows c):=by
 refine D.cal hk.cl z1i (fun vs H Q E h=>?_) (fun f cdv A outer s H vs Q E hr h=>?_)
 ·obtain⟨h,d,bl,rows,rfl,_⟩:=h;rfl
 ·obtain⟨h,d,bl,rows,rfl,hh,h64,hlow,k⟩:=h;refine⟨_,(q0e (q0k (q0p (z5d hr) (by rfl) T.b_sorted (by decide +kernel) (q0a (@z2a _ _ _ _ _ _ _ _ _ K rfl Qg PySem.F.slot_dict_items PySem.F.type_dict_items x0r (@z5f _ _ _ _ _ K rfl (pv 0) (by rfl)) (by rfl) (by rfl)) q0d)))),?_⟩;obtain⟨dx,hi⟩:=hh.i;refine⟨_,rfl,h,c,dx,_,_,rfl,hi,hk.cl,hk.m,rfl,.inr (.inr (.inl ⟨rfl,.inr ⟨_,hh.d⟩⟩)),d,_,rfl,rfl,hh.d,fun v hv=>?_⟩;have s1:=(Same.refl H).new (o:=vwO v d) hv;refine⟨v,d,rows.map rR,rfl,q0c,s1 _ _ hh.d,by rw[Ag];exact h64,fun r hr=>?_,fun L as rs H' hL hp hs sm hLL prs=>?_⟩
  ·obtain⟨x,hx,rfl⟩:=Ba.mp hr;exact hlow x hx
  ·obtain⟨rows',p',rfl⟩:=perm_map_inv hp rfl;obtain⟨zs,z1,z2,z3⟩:=zs_of prs rfl;refine k L zs H' (s1.free hL) (s1.trans sm) ⟨?_,z3⟩ (by rw[z2];exact p') ?_
   ·rw[hLL,<- z1,Ck];rfl
   ·have e:zs.map (·.2.1)=(rows'.map rR).map (·.1):=by rw[<- z2,Ck,Ck];rfl
    rw[e];exact hs
theorem z4e{α:Type}:∀{l:List α} {i:Nat} {r:α},l[i]?=some r->l=l.take i++r::l.drop (i+1)
 |[],_,_,h=>by cases h
 |a::l,0,_,h=>by cases h;rfl
 |a::l,i+1,r,h=>by show a::l=a::(l.take i++r::l.drop (i+1));rw[<- z4e (l:=l) (i:=i) h]
theorem z8y{α β:Type}{f:α->β}{l:List α}{i:Nat}{r r':α}(nd:(l.map f).Nodup)(hr:l[i]?=some r)(hr':r'∈l.take i):f r'≠f r:=by
 rw[z4e hr,Av,An] at nd;exact fun z=>(Pa.mp nd).2.2 _ (Ba.mpr ⟨r',hr',rfl⟩) _ As z
structure InInv (c:Addr) (H:Hp) (x dx d Dr:Addr) (bl:Bool) (rows:List Rw) (ys:List (List Key×V)) (i:Nat) (H':Hp):Prop where
 ins:H' x=some (.ins c dx (hF bl d))
 d:H' d=some (dR ((rows.take i).map rR))
 r:H' Dr=some (.dT ys)
 k:∀a u,a≠x->H a=some u->H' a=some u
theorem InInv.same{c:Addr}{H H' H2:Hp}{x dx d Dr:Addr}{bl:Bool}{rows:List Rw}{ys:List (List Key×V)}{i:Nat}(v:InInv c H x dx d Dr bl rows ys i H')(s:Same H' H2):InInv c H x dx d Dr bl rows ys i H2:=⟨s _ _ v.ins,s _ _ v.d,s _ _ v.r,fun a u n e=>s _ _ (v.k a u n e)⟩
def spInit(c:Addr):Sp:=fun vs H Q _=>∃x dx L bl zs,vs=[.ref x,.ref L,.bl bl]/\H x=some (.ins c dx [])/\RL H L zs/\Hl bl (zs.map (·.2))/\zs.length<=60 /\
 ∀d H',H d=none->H' x=some (.ins c dx (hF bl d))->H' d=some (dR ((zs.map (·.2)).map rR))->(∀a u,a≠x->H a=some u->H' a=some u)->Q .non H'
structure CallsK (P:Program) (w:World) (K:Ah) (mg:Str->Option Value) (base:Heap) (c:Addr):Prop where
 m_there:MCal P w K mg base c "there" 3 ["self", "place"] (spThere c)
abbrev q0z:Stmt:=inClass (top 65) 0
theorem sc_Hall___init__:FnScope ["self", "rows", "blind", "drawers", "at", "path", "mark", "drawer"] ["self", "rows", "blind"] (defScope q0z):=by trivial
theorem x5m{c:Addr}(D:Kf K mg c "Hall" "Hall.__init__" q0z ["self", "rows", "blind"])(hk:Hk K c)(T:Txt mg)(C:CallsK P w K mg base c):KCal P w K mg base c "Hall" 4 ["self", "rows", "blind"] (spInit c):=by
 refine D.cal sc_Hall___init__ (fun vs H Q E h=>?_) (fun f cdv A outer s H vs Q E hr h=>?_)
 ·obtain⟨x,dx,L,bl,zs,rfl,_⟩:=h;rfl
 ·obtain⟨x,dx,L,bl,zs,rfl,hx,hl,hH,h60,k⟩:=h;refine⟨_,(q0b (@x2q _ _ _ _ _ _ _ _ K rfl (pv 0) (pv 2) (by rfl)) (q0b (@x2q _ _ _ _ _ _ _ _ K rfl (pv 0) x0g (by rfl)) (q0b (x0s (i:=3) ["path", "mark"] [] sc_Hall___init__.nd rfl (by trivial) rfl (@q6x _ _ _ _ K rfl (pv 1)) (fun _ _ _ _ _=>(@q2n _ _ _ _ (2) _ K rfl rfl (q0q (q0o (i:=0) (show(["path", "mark"]:List Str).Nodup by decide +kernel) rfl (by trivial)) (q0q (q0o (i:=1) (show(["path", "mark"]:List Str).Nodup by decide +kernel) rfl (by trivial)) q1t)) (by rfl) (by rfl))) (fun _ _ _ _ _=>(z6l (q2c (q7c (pv 1))))) (fun _ _ _ _ _=>(pv 0)) (fun _ _ _ _ _=>q9h) (q6w hr)) (q0e (q1p Bt rfl (@z3h _ _ _ _ _ _ _ _ K rfl rfl T.b_enumerate (q0a (pv 1) q0d) (by rfl)) (@q2n _ _ _ _ (2) _ K rfl rfl (q0q (q0o (i:=4) sc_Hall___init__.nd rfl (by trivial)) (q0q (@q2n _ _ _ _ (2) _ K rfl rfl (q0q (q0o (i:=5) sc_Hall___init__.nd rfl (by trivial)) (q0q (q0o (i:=6) sc_Hall___init__.nd rfl (by trivial)) q1t)) (by rfl) (by rfl)) q1t)) (by rfl) (by rfl)) (q0b (q0l (i:=7) sc_Hall___init__.nd rfl (by trivial) (q1c (sl_k K rfl) (pv 5) q2e (q1b (q3v q1y q0g)))) (q0b (q0t (pt_j (@PW.pt _ _ _ (q4k (q0h (ne_k K rfl hr) (pv 7) (q0u q0d) (nomark _)) (q2q (q2c (z0b (q6w hr) (pv 7) (pv 3))))))) (q0e q1g) q0j) (q0b (q0t (q2c (q4r (pe_m C.m_there hr (pv 0) (q0a (pv 5) q0d)))) (q0e q1g) q0j) (q0e (z7d (q6w hr) (@z5f _ _ _ _ _ K rfl (pv 0) (by rfl)) (pv 5) (pv 6) rfl)))))))))),?_⟩;have hLx:L≠x:=fun z=>by have e:=hl.at_;rw[z,hx] at e;cases e
  refine⟨_,rfl,_,rfl,x,c,dx,_,rfl,hx,hk.cl,hk.b,by decide,?_⟩;intro d hd;have hdx:d≠x:=fun z=>by rw[z,q0c] at hd;cases hd
  have hdH:H d=none:=by rw[q0f hdx] at hd;exact hd
  refine⟨_,rfl,x,c,dx,_,rfl,by rw[q0f hdx.symm];exact q0c,hk.cl,hk.m,by show 1<1000;decide,?_⟩;have pf:putF ("marks" : Str) (V.ref d) (putF ("blind" : Str) (V.bl bl) [])=hF bl d:=rfl;generalize hH3:upd (upd (upd H x (.ins c dx (putF ("blind" : Str) (.bl bl) []))) d (.dT [])) x (.ins c dx (putF ("marks" : Str) (.ref d) (putF ("blind" : Str) (.bl bl) [])))=H3;have k3:∀a u,a≠x->H a=some u->H3 a=some u:=fun a u n e=>by
   rw[<- hH3,q0f n,q0f (fun z=>by rw[z,hdH] at e;cases e),q0f n];exact e
  have i3:H3 x=some (.ins c dx (hF bl d)):=by rw[<- hH3,<- pf];exact q0c
  have d3:H3 d=some (.dT []):=by rw[<- hH3,q0f hdx];exact q0c
  have hl3:∀{H':Hp},(∀a u,a≠x->H a=some u->H' a=some u)->RL H' L zs:=fun{H'} kk=>⟨kk _ _ hLx hl.at_,fun z hz=>PR.same (hl.pr z hz) fun T' xs e=>kk _ _ (fun y=>by rw[y,hx] at e;cases e) e⟩
  refine⟨_,rfl,.inl ⟨L,rfl,⟨_,SqL.of (hl3 k3).at_⟩,fun Dr hDr=>?_⟩⟩;refine z5e (fun i ys H'=>H' Dr=some (.dT ys)/\Same H3 H'/\ys.length<=i/\i<=zs.length/\∀p,(p,none)∈(zs.take i).map (·.2)->(valV ys (kP p)).isSome=true) ⟨q0c,(Same.refl H3).new hDr,Aj _,Be _,fun p hp=>by rw[Nq] at hp;cases hp⟩ (fun i ys H' h=>⟨h.1,SqL.of (h.2.1 _ _ (hl3 k3).at_)⟩) ?_ ?_
  ·rintro i ys H' v hv ⟨hD',s',hlen,_,hsome⟩;obtain⟨z,hz,rfl⟩:=gR0 hv
   have hi:i<zs.length:=(Aq.mp hz).1;obtain⟨b,h1,h2⟩:=((hl3 k3).same s').pr z (Ay hz);refine⟨z.1,_,rfl,SqT.of h1,rfl,_,_,rfl,_,_,rfl,rfl,q7i,?_⟩;refine⟨_,rfl,_,rfl,?_⟩;refine iteB (fun hm=>?_) (fun hm=>?_)
   ·refine⟨_,rfl,kP z.2.1,b,rfl,by rw[q6f];exact h2,hD',small' (by lia),q0c,fun a u e=>?_,?_,hi,fun p hp=>?_⟩
    ·rw[q0f (fun y=>by rw[y] at e;rw[hDr] at e;cases e)];exact s' _ _ e
    ·have:=q1n ys (kP z.2.1) (.bl true);lia
    ·rw[z3n];by_cases e:kP p=kP z.2.1
     ·rw[if_pos e];rfl
     ·rw[if_neg e];rw[Li,hz,Av] at hp;rcases Au.mp hp with hp|hp
      ·exact hsome p hp
      ·exfalso;have e2:(p,none)=z.2:=Ar.mp hp;exact e (by rw[<- e2])
   ·refine⟨hD',s',by lia,hi,fun p hp=>?_⟩;rw[Li,hz,Av] at hp;rcases Au.mp hp with hp|hp
    ·exact hsome p hp
    ·exfalso;have e:(p,none)=z.2:=Ar.mp hp;refine of_decide_eq_false hm ?_;show mV z.2.2=_;rw[<- e];rfl
  ·rintro ys H' ⟨hD',s',hlen,_,hsome⟩;rw[Ag,Ea] at hsome;have I0:InInv c H x dx d Dr bl (zs.map (·.2)) ys 0 H':=⟨s' _ _ i3,s' _ _ d3,hD',fun a u n e=>s' _ _ (k3 a u n e)⟩
   have hDx:Dr≠x:=fun z=>by rw[z,i3] at hDr;cases hDr
   have hDd:Dr≠d:=fun z=>by rw[z,d3] at hDr;cases hDr
   refine⟨_,rfl,.inr ⟨L,_,rfl,SqL.of (hl3 I0.k).at_,?_⟩⟩;refine z0l (fun i σ' H2=>∃x4 x5 x6 x7,σ'=[some (.ref x),some (.ref L),some (.bl bl),some (.ref Dr),x4,x5,x6,x7]/\InInv c H x dx d Dr bl (zs.map (·.2)) ys i H2) ⟨none,none,none,none,rfl,I0⟩ (fun i σ' H2 h=>by obtain⟨_,_,_,_,_,h⟩:=h;exact SqL.of (hl3 h.k).at_) ?_ ?_
   ·rintro i v T' σ' H2 hv ⟨x4,x5,x6,x7,rfl,I⟩ hT;obtain⟨z,hz,rfl⟩:=gR0 hv
    have hi:i<zs.length:=(Aq.mp hz).1;have hzr:(zs.map (·.2))[i]?=some z.2:=by rw[Bi,hz];rfl
    have hzm:=Ay hzr;have okz:=hH.ok _ hzm;have sT:=(Same.refl H2).new (o:=.tup [.int i,.ref z.1]) hT;have I1:=I.same sT;obtain⟨b,h1,h2⟩:=(hl3 I1.k).pr z (Ay hz);refine⟨T',_,rfl,SqT.of q0c,rfl,_,_,rfl,_,_,rfl,z.1,_,rfl,SqT.of h1,rfl,_,_,rfl,_,_,rfl,rfl,rfl,?_⟩;generalize upd H2 T' (.tup [.int i,.ref z.1])=H4 at sT I1 h1 h2;replace h1:H4 z.1=some (.tup [.ref b,mV z.2.2]):=h1;replace h2:H4 b=some (.tup (vP z.2.1)):=h2;obtain⟨c1,c2⟩:=q2l okz.ne;refine⟨_,rfl,_,rfl,_,rfl,.inr (.inr ⟨b,_,rfl,SqT.of (xs:=vP z.2.1) h2,c2,fun p1 hp1=>?_⟩)⟩;rw[c1];have s5:=(Same.refl H4).new (o:=.tup (vP z.2.1.dropLast)) hp1;have I2:=I1.same s5;have h2':=s5 _ _ h2;have hp1':upd H4 p1 (.tup (vP z.2.1.dropLast)) p1=some (.tup (vP z.2.1.dropLast)):=q0c;generalize upd H4 p1 (.tup (vP z.2.1.dropLast))=H5 at s5 I2 h2' hp1';refine⟨fun bb H6=>bb=false/\Same H5 H6,?_,?_⟩
    ·rintro bb H6 ⟨rfl,s6⟩;refine iteF ?_;have I3:=I2.same s6;refine⟨_,rfl,x,dx,_,rfl,I3.ins,rfl,_,rfl,x,d,b,bl,_,z.2.1,rfl,⟨⟨dx,I3.ins⟩,I3.d⟩,s6 _ _ h2',okz,fun r hr=>hH.ok r (Jk hr),fun H7 s7 _=>?_,fun H7 b' r s7 hr e _=>absurd e (z8y (f:=fun r:Rw=>fold bl r.1) hH.nd hzr hr)⟩;refine⟨_,rfl,iteF ?_⟩;have I4:=I3.same s7;refine⟨_,rfl,_,rfl,x,c,dx,_,_,rfl,I4.ins,hk.cl,hk.m,rfl,_,rfl,d,_,rfl,DPut.t (k:=kP z.2.1) I4.d (by rw[q6f];exact s7 _ _ (s6 _ _ h2')) (by rw[Ag,Ag,Dq,Ag];exact small' (by lia)),?_⟩;have hnew:∀r∈((zs.map (·.2)).take i).map rR,r.1≠z.2.1:=fun r hr=>by
      obtain⟨y,hy,rfl⟩:=Ba.mp hr;exact z8y (f:=fun r:Rw=>r.1) hH.paths hzr hy
     rw[z4d hnew];refine⟨_,_,_,_,rfl,?_,?_,?_,fun a u n e=>?_⟩
     ·rw[q0f hdx.symm];exact I4.ins
     ·have e:((zs.map (·.2)).take (i+1)).map rR=((zs.map (·.2)).take i).map rR++[(z.2.1,mV z.2.2)]:=by rw[Li,hzr,Av];rfl
      rw[e];exact q0c
     ·rw[q0f hDd];exact I4.r
     ·rw[q0f (fun y=>by rw[y,hdH] at e;cases e)];exact I4.k a u n e
    ·refine⟨_,rfl,by show 0<=sizeLine;decide,fun e0 he0=>?_⟩;have s6:=(Same.refl H5).new (o:=.tup []) he0;refine q8n (q:=[]) (s6 _ _ hp1') q0c (q5o okz.low) (fun _ h=>nomatch h) ⟨_,rfl,?_⟩;refine iteB (fun hne=>?_) (fun hne=>?_)
     ·have hne':z.2.1.dropLast≠[]:=by simpa using hne
      have hin:=hsome _ ((hH.dr _ hzm).resolve_left hne');refine⟨_,rfl,_,rfl,Dr,_,rfl,DGet.t (k:=kP z.2.1.dropLast) (I2.same s6).r (by rw[q6f];exact s6 _ _ hp1'),_,rfl,?_,s6⟩;cases e:valV ys (kP z.2.1.dropLast) with
      |none=>rw[e] at hin;cases hin
      |some v=>rfl
     ·exact⟨rfl,s6⟩
   ·rintro σ' H2 ⟨x4,x5,x6,x7,rfl,I⟩;have hd2:=I.d;rw[Ag,<- Ag (f:=fun z:Zr=>z.2),Ea] at hd2;exact k d H2 hdH I.ins hd2 I.k
theorem x3b(p q:Pth):vP (p++q)=vP p++vP q:=Av
theorem cut_to(x:Pth)(n:Nat):cutV (vP x) none (some (n:Int))=vP (x.take n):=by
 unfold cutV;have e0:HT.sIx (vP x).length 0 none=0:=rfl;have e1:HT.sIx (vP x).length (vP x).length (some (n:Int))=min n x.length:=by
  show(if (n:Int)<0 then((n:Int)+((vP x).length:Int)).toNat else min ((n:Int)).toNat (vP x).length)=_;rw[if_neg (by lia),q3n,Hh]
 rw[e0,e1,Nn,Pw,<- Sx];rw[<- List.take_take,Ea]
theorem x1t{rs:List HRow}{p:Pth}{v:V}(h:valV (rs.map fun r=>(kP r.1,r.2)) (kP p)=some v):(p,v)∈rs:=by
 induction rs with
 |nil=>cases h
 |cons r rs ih =>
  rw[An] at h;by_cases e:kP r.1=kP p
  ·rw[q1k e] at h;cases h;rw[<- z1f e];exact As
  ·rw[q1h e] at h;exact Ao _ (ih h)
theorem z4f{rows:List Rw}(nd:(rows.map (·.1)).Nodup){p:Pth}{m:Option Int}(h:(p,m)∈rows):valV ((rows.map rR).map fun r=>(kP r.1,r.2)) (kP p)=some (mV m) :=
 z8x (rs:=rows.map rR) (r:=rR (p,m)) (Ba.mpr ⟨_,h,rfl⟩) (by rw[Ck];exact nd)
theorem z1j{rows:List Rw}{p:Pth}{v:V}(h:valV ((rows.map rR).map fun r=>(kP r.1,r.2)) (kP p)=some v):∃m,v=mV m/\(p,m)∈rows:=by
 obtain⟨r,hr,e⟩:=Ba.mp (x1t h);cases e;exact⟨r.2,rfl,hr⟩
def spIsDrawer(c:Addr):Sp:=fun vs H Q _=>∃h d p bl rows q,vs=[.ref h,.ref p]/\HallAt c H h d bl rows/\H p=some (.tup (vP q))/\Low q/\(rows.map (·.1)).Nodup/\∀H' bb,Same H H'->(bb=true↔q=[]\/(q,none)∈rows)->Q (.bl bb) H'
abbrev q1u:Stmt:=inClass (top 65) 6
theorem q4z:FnScope ["self", "path"] ["self", "path"] (defScope q1u):=by trivial
theorem z1k{c:Addr}(D:Mf K c "is_drawer" "Hall.is_drawer" q1u ["self", "path"])(hk:Hk K c)(T:Txt mg):MCal P w K mg base c "is_drawer" 1 ["self", "path"] (spIsDrawer c):=by
 refine D.cal hk.cl q4z (fun vs H Q E h=>?_) (fun f cdv A outer s H vs Q E hr h=>?_)
 ·obtain⟨h,d,p,bl,rows,q,rfl,_⟩:=h;rfl
 ·obtain⟨h,d,p,bl,rows,q,rfl,hh,hp,lq,nd,k⟩:=h;refine⟨_,(q0e (q0k (pe_j (pe_or (q2m (eq_k K rfl hr) (pv 1) (q0u q0d) (nomark _)) (z2y (pe_j (z5t (x1z (x2i (q6w hr) (pv 1) (@z5f _ _ _ _ _ K rfl (pv 0) (by rfl)))) (z2y (x1z (q7c (z2d (q6w hr) (@z5f _ _ _ _ _ K rfl (pv 0) (by rfl)) (pv 1) (fun _ _=>rfl)))))))))))),?_⟩;obtain⟨dx,hi⟩:=hh.i;refine⟨fun v H'=>∃bb,v=.bl bb/\Same H H'/\(bb=true↔q=[]\/(q,none)∈rows),fun v H' x=>?_,?_⟩
  ·obtain⟨bb,rfl,s1,e⟩:=x;exact k H' bb s1 e
  refine⟨_,rfl,by show 0<=sizeLine;decide,fun e0 he0=>?_⟩;have s1:=(Same.refl H).new (o:=.tup []) he0;refine z0o (q:=[]) (s1 _ _ hp) q0c lq (fun _ h=>nomatch h) ⟨_,rfl,?_⟩;refine iteB (fun he=>?_) (fun he=>?_)
  ·exact⟨true,rfl,s1,⟨fun _=>.inl (of_decide_eq_true he),fun _=>rfl⟩⟩
  have he:=of_decide_eq_false he;refine⟨fun v H'=>∃bb,v=.bl bb/\Same H H'/\(bb=true↔q=[]\/(q,none)∈rows),fun v H' x=>x,?_⟩;refine⟨_,rfl,_,rfl,h,c,dx,_,_,rfl,s1 _ _ hi,hk.cl,hk.m,rfl,d,_,rfl,z7y (s1 _ _ hh.d) (s1 _ _ hp),_,rfl,?_⟩;cases hv:valV ((rows.map rR).map fun r=>(kP r.1,r.2)) (kP q) with
  |none =>
   refine iteF ⟨false,rfl,s1,⟨(fun z=>by cases z),fun z=>?_⟩⟩;exfalso;rw[z4f nd (z.resolve_left he)] at hv;cases hv
  |some v =>
   obtain⟨m,rfl,hm⟩:=z1j hv;refine iteT ⟨_,rfl,h,c,dx,_,_,rfl,s1 _ _ hi,hk.cl,hk.m,rfl,_,rfl,d,mV m,rfl,?_,_,rfl,s1,?_⟩
   ·rw[<- hv];exact z7y (s1 _ _ hh.d) (s1 _ _ hp)
   ·rw[decide_eq_true_iff];refine⟨fun z=>.inr (by rw[mV_none.mp z] at hm;exact hm),fun z=>mV_none.mpr ?_⟩;have:=q3u (f:=fun r:Rw=>r.1) nd hm (z.resolve_left he) rfl;cases this;rfl
theorem foldR:∀{rs acc:List HRow},((acc++rs).map (·.1)).Nodup->rs.foldl putR (acc.map fun r=>(kP r.1,r.2))=(acc++rs).map fun r=>(kP r.1,r.2)
 |[],acc,_=>by rw[Dm];rfl
 |r::rs,acc,nd=>by
  have e:acc++r::rs=(acc++[r])++rs:=by rw[Iv];rfl
  show rs.foldl putR (putK (acc.map fun r=>(kP r.1,r.2)) (kP r.1) r.2)=_;rw[z4d (p:=r.1) (v:=r.2) fun x hx z=>by
   rw[Av,An] at nd;exact(Pa.mp nd).2.2 _ (Ba.mpr ⟨x,hx,rfl⟩) _ As z]
  rw[e] at nd ⊢;exact foldR nd
theorem z1l{bl:Bool}{zs:List Zr}(hl:Hl bl (zs.map (·.2))):HO.dT ((zs.map fun z=>rR z.2).foldl putR [])=dR ((zs.map (·.2)).map rR):=by
 have er:(zs.map fun z=>rR z.2)=(zs.map (·.2)).map rR:=by rw[Ck];rfl
 have nd2:(((zs.map (·.2)).map rR).map (·.1)).Nodup:=by rw[Ck];exact hl.paths
 rw[er];exact congrArg HO.dT (foldR (acc:=[]) nd2)
theorem z8z{c x dx d:Addr}{H1 H':Hp}(hx:H1 x=none)(hdx:H1 dx=none)(hd:upd (upd H1 dx (.own x)) x (.ins c dx []) d=none)(k:∀a u,a≠x->upd (upd H1 dx (.own x)) x (.ins c dx []) a=some u->H' a=some u):Same H1 H'/\H1 d=none:=by
 refine⟨fun a u e=>k a u (fun z=>by rw[z,hx] at e;cases e) ?_,?_⟩
 ·rw[q0f (fun z=>by rw[z,hx] at e;cases e),q0f (fun z=>by rw[z,hdx] at e;cases e)];exact e
 ·have h1:d≠x:=fun z=>by rw[z,q0c] at hd;cases hd
  rw[q0f h1] at hd;have h2:d≠dx:=fun z=>by rw[z,q0c] at hd;cases hd
  rw[q0f h2] at hd;exact hd
theorem x5n{c x dx L:Addr}{H1:Hp}{zs:List Zr}(h:RL H1 L zs)(hx:H1 x=none)(hdx:H1 dx=none):RL (upd (upd H1 dx (.own x)) x (.ins c dx [])) L zs:=h.same fun a u e=>by
 rw[q0f (fun z=>by rw[z,hx] at e;cases e),q0f (fun z=>by rw[z,hdx] at e;cases e)];exact e
def isName(l:List Nat):Bool:=decide (1<=l.length)&&(decide (l.length<=12)&&l.all fun c=>decide (c∈NS))
def spIsName:Sp:=fun vs H Q _=>∃t,vs=[.str t]/\t.length<=1000/\∀H',Same H H'->Q (.bl (isName (tl t))) H'
structure CallsNm (P:Program) (w:World) (K:Ah) (mg:Str->Option Value) (base:Heap):Prop where
 all_of:Cal P w K mg base "all_of" 1 ["text", "signs"] spAllOf
abbrev q5a:Stmt:=top 16
theorem z5o:FnScope ["text"] ["text"] (defScope q5a):=by trivial
theorem z5p(D:Df K mg "is_name" q5a ["text"])(T:Txt mg)(C:CallsNm P w K mg base):Cal P w K mg base "is_name" 2 ["text"] spIsName:=by
 refine D.cal z5o (fun vs H Q E h=>?_) (fun f cdv A outer s H vs Q E hr h=>?_)
 ·obtain⟨t,rfl,_⟩:=h;rfl
 ·obtain⟨t,rfl,hl,k⟩:=h;obtain⟨_,g_NAME_SIGNS⟩:=T.NAME_SIGNS;obtain⟨_,g_MOST_SIGNS⟩:=T.MOST_SIGNS;refine⟨_,(q0e (q0k (pe_j (z5t (q2m op_le (q0p (q1z K rfl) (by rfl) T.b_len Br (q0a (pv 0) q0d)) (q1a (v:=.int 12) (by rfl) g_MOST_SIGNS ⟨_,rfl⟩) (nomark _)) (z2y (pe_c C.all_of hr (q0a (pv 0) (q0a (q1a (v:=.str (Ac "abcdefghijklmnopqrstuvwxyzABCDEFGHIJKLMNOPQRSTUVWXYZ0123456789-_.")) (by rfl) g_NAME_SIGNS ⟨_,rfl⟩) q0d)))))))),?_⟩;have e:=len t;refine⟨fun v H'=>v=.bl (isName (tl t))/\Same H H',?_,?_⟩
  ·rintro v H' ⟨rfl,sm⟩;exact k H' sm
  refine⟨_,rfl,_,_,rfl,⟨small (by lia),rfl⟩,_,_,rfl,rfl,_,rfl,?_⟩;refine iteB (fun h=>?_) (fun h=>?_)
  ·have h':=of_decide_eq_true h;refine⟨_,rfl,tl t,NSs,?_,by lia,fun H' sm=>⟨?_,sm⟩⟩
   ·rw[z4w];rfl
   ·unfold isName allOf;rw[decide_eq_true (show(tl t).length<=12 by lia),Ot];have e5:decide (¬tl t=[])=decide (1<=(tl t).length):=decide_eq_decide.mpr (by rw[<- List.length_eq_zero_iff];lia);rw[e5]
  ·have h':=of_decide_eq_false h;refine⟨?_,Same.refl H⟩;unfold isName;rw[decide_eq_false (show ¬(tl t).length<=12 by lia)];simp
structure RD where
 kd:Str
 l:List Nat
 qs:List Pc
 st:Nat
def pcB:Pc->Nat
 |.tx l=>l.length
 |_=>13
def wsz(qs:List Pc):Nat:=(qs.map pcB).sum
structure ROk (r:RD):Prop where
 st:r.st<=100
 ni:∀q∈r.qs,pcI q=false
 nm:∀q∈r.qs,isMo q=false
 pk:∀q∈r.qs,q.ok
 sz:wsz r.qs<=60
structure RuL (K:Ah) (H:Hp) (L:Addr) (rs:List RD):Prop where
 ex:∃Rs:List Addr,H L=some (.lst (Rs.map V.ref))/\Rs.length=rs.length/\∀(i:Nat) (R:Addr) (r:RD),Rs[i]?=some R->rs[i]?=some r->RuleAt K H R r.kd r.l r.qs (r.st:Int)
 ok:∀r∈rs,ROk r
theorem RuL.same{H H':Hp}{L:Addr}{rs:List RD}(h:RuL K H L rs)(s:Same H H'):RuL K H' L rs:=let ⟨Rs,h1,h2,h3⟩:=h.ex;⟨⟨Rs,s _ _ h1,h2,fun i R r a b=>(h3 i R r a b).same s⟩,h.ok⟩
def tellO(r:RD)(n:List Nat)(cn:Nat):Option (List (List Nat)):=if fits n (parse [] r.l) 0 then some (tellT (rd n (parse [] r.l) 0) cn r.qs) else none
def kdM(m:Option Int):Str:=if m=none then Ac "drawer" else Ac "slip"
def forB(kd:Str)(m:Option Int):Bool:=decide (V.str kd=V.str (Ac "all"))||decide (V.str kd=V.str (kdM m))
def pick(f:Nat->Nat)(n:List Nat)(m:Option Int):List RD->Nat->Option (Nat×List (List Nat))
 |[],_=>none
 |r::rs,j=>if forB r.kd m then(match tellO r n (r.st+f j) with|some ts=>some (j,ts)|none=>pick f n m rs (j+1)) else pick f n m rs (j+1)
def bump(f:Pth->Nat->Nat)(q:Pth)(j:Nat):Pth->Nat->Nat:=fun p i=>if p=q/\i=j then f p i+1 else f p i
def Kd(d:Addr)(H H':Hp):Prop:=∀a u,a≠d->H a=some u->H' a=some u
theorem Kd.of{d:Addr}{H H':Hp}(s:Same H H'):Kd d H H':=fun a u _ e=>s a u e
theorem Kd.put{d:Addr}{H H1:Hp}{o:HO}(h:Kd d H H1):Kd d H (upd H1 d o):=fun a u n e=>by rw[q0f n];exact h a u n e
theorem Kd.same{d:Addr}{H H0 H':Hp}(h:Kd d H H')(s:Same H0 H)(hd:H0 d=none):Same H0 H':=fun a u e=>h a u (fun z=>by rw[z,hd] at e;cases e) (s a u e)
structure Cnt {P:Program} {w:World} (kd:PKd P w) (H:Hp) (d:Addr) (f:Pth->Nat->Nat) (b:Nat):Prop where
 ex:∃ks,DPi kd H d ks/\ks.length<=b/\∀(p:Pth) (j:Nat),(valI ks (kP p,Sum.inl (j:Int))).getD 0=((f p j:Nat):Int)
 le:∀p j,f p j<=b
theorem Cnt.same{kd:PKd P w}{H H':Hp}{d:Addr}{f:Pth->Nat->Nat}{b:Nat}(h:Cnt kd H d f b)(s:Same H H'):Cnt kd H' d f b:=⟨let ⟨ks,h1,h2⟩:=h.ex;⟨ks,h1.same s,h2⟩,h.le⟩
theorem Cnt.put{kd:PKd P w}{H H2:Hp}{d b:Addr}{f:Pth->Nat->Nat}{n j:Nat}{q:Pth}{ks:List PInt}(x:DPi kd H d ks)(l:ks.length<=n)(v:∀(p:Pth) (j:Nat),(valI ks (kP p,Sum.inl (j:Int))).getD 0=((f p j:Nat):Int))(le:∀p j,f p j<=n)(e:kd.pr H (kP q,Sum.inl (j:Int)) b)(hn:n<=1000)(hH:H2=upd H d (PiO kd d (putI ks (kP q,Sum.inl (j:Int)) b (((f q j:Nat):Int)+1)))):Cnt kd H2 d (bump f q j) (n+1):=by
 subst hH;refine⟨⟨_,x.put e (TX.small' (by lia)),Bb z3u (by lia),fun p i=>?_⟩,fun p i=>?_⟩
 ·rw[x0y];unfold bump;by_cases z:p=q/\i=j
  ·obtain⟨rfl,rfl⟩:=z;rw[if_pos rfl,if_pos ⟨rfl,rfl⟩];rfl
  ·rw[if_neg z,if_neg (fun y=>z ?_)]
   ·exact v p i
   ·injection y with y1 y2;injection y2 with y2;exact⟨z1f y1,by lia⟩
 ·unfold bump;have:=le p i;split<;>lia
theorem Cnt.new{kd:PKd P w}{H:Hp}{p:Addr}(hs:(p==Cu)=false):Cnt kd (upd H p (PiO kd p [])) p (fun _ _=>0) 0:=⟨⟨[],x4q hs,Aj _,fun _ _=>rfl⟩,fun _ _=>Aj _⟩
def spIsFor(K:Ah):Sp:=fun vs H Q _=>∃R kd xs m,vs=[.ref R,mV m]/\H R=some (.tup (.str kd::xs))/\Q (.bl (forB kd m)) H
abbrev q6t:Stmt:=top 60
theorem z9a:FnScope ["rule", "mark"] ["rule", "mark"] (defScope q6t):=by trivial
theorem z9b(D:Df K mg "is_for" q6t ["rule", "mark"])(T:Txt mg):Cal P w K mg base "is_for" 1 ["rule", "mark"] (spIsFor K):=by
 refine D.cal z9a (fun vs H Q E h=>?_) (fun f cdv A outer s H vs Q E hr h=>?_)
 ·obtain⟨R,kd,xs,m,rfl,_⟩:=h;rfl
 ·obtain⟨R,kd,xs,m,rfl,hR,k⟩:=h;refine⟨_,(q0b (q0t (q0h (eq_k K rfl hr) (q0v (ix_k K rfl) (pv 0) q0g (fun _ _=>rfl)) q0i (nomark _)) (q0e (q0k q9h)) q0j) (q0e (q0k (q2m (eq_k K rfl hr) (q0v (ix_k K rfl) (pv 0) q0g (fun _ _=>rfl)) (pe_j (q5k (q2c (q7c (pv 1))) q0i q0i)) (nomark _))))),?_⟩;refine⟨_,rfl,.inr (.inl ⟨R,_,0,.str kd,rfl,rfl,SqT.of hR,q1m (j:=0) rfl,.inl ⟨rfl,_,rfl,?_⟩⟩)⟩;unfold forB at k;refine ite2 (fun h=>?_) (fun h=>?_)
  ·rw[h] at k;exact k
  ·rw[eq_false_of_ne_true h,Bool.false_or] at k;refine⟨_,rfl,.inr (.inl ⟨R,_,0,.str kd,rfl,rfl,SqT.of hR,q1m (j:=0) rfl,?_⟩)⟩;refine⟨fun v H'=>v=.str (kdM m)/\H'=H,?_,?_⟩
   ·rintro v H' ⟨rfl,rfl⟩;exact .inl ⟨rfl,k⟩
   ·refine⟨_,rfl,_,rfl,ite2 (fun z=>?_) (fun z=>?_)⟩
    ·exact⟨by rw[mV_none.mp (of_decide_eq_true z)];rfl,rfl⟩
    ·have:m≠none:=fun y=>z (decide_eq_true (mV_none.mpr y));exact⟨by unfold kdM;rw[if_neg this],rfl⟩
structure PB (q:Pth):Prop where
 few:q.length<=20
 all:∀n∈q,n.length<=60/\∀c∈n,c<128
theorem okP.pb{q:Pth}(h:okP q):PB q:=⟨Bb h.few (by decide),fun n hn=>⟨Bb (h.all n hn).few (by decide),(h.all n hn).low⟩⟩
theorem x3c(q:Pth):vP q=(q.map mk).map V.str:=by rw[Ck];rfl
theorem z9c{q:Pth}(h:PB q):∀x∈q.map mk,x.length<=100/\∀c∈x.cps.toList,c<16^8:=fun x hx=>by
 obtain⟨n,hn,rfl⟩:=Ba.mp hx;obtain⟨h1,h2⟩:=h.all n hn;refine⟨by rw[q0r];lia,fun c hc=>?_⟩;have:c∈n:=by rw[<- q0y n];exact hc
 have:=h2 c this;lia
def spIniN(C:Addr):Sp:=fun vs H Q _=>∃ea a b q1 q2,vs=[.ref ea,.ref a,.ref b]/\H ea=some (ExN (.ref C) none ea)/\(H a=some (.tup (vP q1))/\PB q1)/\(H b=some (.tup (vP q2))/\PB q2) /\
 ∀d,H d=none->d≠ea->Q .non (upd (upd (upd (upd H d (XdO d [])) ea (ExN (.ref C) (some d) ea)) d (XdO d [("path",.ref a)])) d (XdO d (putF "texts" (.ref b) [("path",.ref a)])))
abbrev q1o:Stmt:=inClass (top 7) 0
theorem q4h:FnScope ["self", "path", "texts"] ["self", "path", "texts"] (defScope q1o):=by trivial
theorem q6u{Cn Dn:Addr}(F:Ef K mg "NoPlace" Cn Dn "NoPlace.__init__" q1o ["self", "path", "texts"])(g_HallError:mg "HallError" = some (.ref Dn))(S1:ESet K Cn "path")(S2:ESet K Cn "texts"):CalE P w K mg base "NoPlace" Cn 1 ["self", "path", "texts"] (spIniN Cn):=by
 refine F.cal q4h (fun vs H Q E h=>?_) (by decide) (fun mc f cdv A outer s H vs Q E L_low N_ini hr h=>?_)
 ·obtain⟨ea,a,b,q1,q2,rfl,_⟩:=h;rfl
 ·obtain⟨ea,a,b,q1,q2,rfl,hE,⟨h1,p1⟩,⟨h2,p2⟩,k⟩:=h;refine⟨_,(q0b (q0w (pe_ini L_low N_ini rfl g_HallError (q0a (pv 0) (q0a (x4u x2y (x2z K rfl hr (pv 1)) (z3x x2y (z3x (x2z K rfl hr (pv 2)) x4v))) q0d)))) (q0b (x2x K rfl (pv 0) (pv 1)) (q0e (x2x K rfl (pv 0) (pv 2))))),?_⟩;have l0:(Ac "no place for ").length<=100:=by decide +kernel
  have l1:(Ac ": ").length<=100:=by decide +kernel
  have l2:Tq.length=0:=by decide +kernel
  refine⟨_,rfl,TX.small (by rw[app_len];lia),_,rfl,a,q1.map mk,rfl,SqT.of (by rw[<- x3c];exact h1),by rw[Ag];have:=p1.few;lia,z9c p1,fun y1 hy1=>⟨TX.small (by rw[app_len,app_len];lia),TX.small (by rw[app_len,app_len,app_len];lia),?_⟩⟩;refine⟨_,rfl,b,q2.map mk,rfl,SqT.of (by rw[<- x3c];exact h2),by rw[Ag];have:=p2.few;lia,z9c p2,fun y2 hy2=>⟨TX.small (by rw[app_len,app_len,app_len,app_len];lia),TX.small (by rw[app_len,app_len,app_len,app_len];lia),?_⟩⟩;refine⟨ea,_,none,rfl,hE,_,rfl,_,rfl,ea,Cn,rfl,S1,.inl ⟨hE,fun d hd hne=>?_⟩⟩;exact⟨_,rfl,_,rfl,ea,Cn,rfl,S2,.inr ⟨d,_,by rw[q0f (Ca hne)];exact q0c,q0c,by show 1<1000;decide,k d hd hne⟩⟩
structure RfN (H:Hp) (ea C:Addr) (q:Pth) (ts:Pth):Prop where
 ex:∃d a b,H ea=some (ExO (.ref C) (some d) ea)/\H d=some (XdO d (putF "texts" (.ref b) [("path",.ref a)]))/\H a=some (.tup (vP q))/\H b=some (.tup (vP ts))
theorem z1m{H H1:Hp}{ea d:Addr}{o1 o2 o3 o4 o5 o6:HO}(sm:Same H H1)(h1:H1 ea=none)(h2:upd H1 ea o1 d=none):Same H (upd (upd (upd (upd (upd (upd H1 ea o1) d o2) ea o3) d o4) d o5) ea o6):=fun b o hb=>by
 have hb1:=sm b o hb;have n1:b≠ea:=fun z=>by rw[z,h1] at hb1;cases hb1
 have n2:b≠d:=fun z=>by rw[<- z,q0f n1,hb1] at h2;cases h2
 rw[q0f n1,q0f n2,q0f n2,q0f n1,q0f n2,q0f n1];exact hb1
def benB(q:Pth)(r:Rw):Bool := !decide (r.1=q)&&decide (r.1.take q.length=q)
structure CallsRB (P:Program) (w:World) (K:Ah) (mg:Str->Option Value) (base:Heap) (c:Addr):Prop where
 m_rows:MCal P w K mg base c "rows" 2 ["self"] (spHRows c)
def spBen(c:Addr):Sp:=fun vs H Q _=>∃h d p bl rows q,vs=[.ref h,.ref p]/\HallAt c H h d bl rows/\rows.length<64/\(∀r∈rows,Low r.1)/\H p=some (.tup (vP q))/\Low q /\
 ∀(L:Addr) (zs:List Zr) (rs:List Rw) H',H L=none->Same H H'->RL H' L zs->rs.Perm rows->(rs.map (·.1)).Pairwise (fun a b=>pLt b a=false)->zs.map (·.2)=rs.filter (benB q)->Q (.ref L) H'
theorem x1u{p:Pth}{n:Nat}(h:Low p):Low (p.take n):=fun x hx=>h x (Jk hx)
theorem z9d{α:Type}{f:α->Bool}{l:List α}{i:Nat}{x:α}(h:l[i]?=some x):(l.take (i+1)).filter f=(l.take i).filter f++(if f x then[x] else[]):=by
 rw[Hu,h,Kp];cases e:f x<;>simp[e]
abbrev q2i:Stmt:=top 59
theorem sc_rows_beneath:FnScope ["hall", "drawer", "rows", "path", "mark"] ["hall", "drawer"] (defScope q2i):=by trivial
theorem q6v{c:Addr}(D:Df K mg "rows_beneath" q2i ["hall", "drawer"])(T:Txt mg)(C:CallsRB P w K mg base c):Cal P w K mg base "rows_beneath" 3 ["hall", "drawer"] (spBen c):=by
 refine D.cal sc_rows_beneath (fun vs H Q E h=>?_) (fun f cdv A outer s H vs Q E hr h=>?_)
 ·obtain⟨h,d,p,bl,rows,q,rfl,_⟩:=h;rfl
 ·obtain⟨h,d,p,bl,rows,q,rfl,hh,h64,hlow,hp,lq,k⟩:=h;refine⟨_,(q0b (q0l (i:=2) sc_rows_beneath.nd rfl (by trivial) (q1s q0d)) (q0b (q1p Bt rfl (@q6x _ _ _ _ K rfl (pe_m0 C.m_rows hr (pv 0))) (@q2n _ _ _ _ (2) _ K rfl rfl (q0q (q0o (i:=3) sc_rows_beneath.nd rfl (by trivial)) (q0q (q0o (i:=4) sc_rows_beneath.nd rfl (by trivial)) q1t)) (by rfl) (by rfl)) (q0e (q0t (pt_j (@PW.pt _ _ _ (q4k (q0h (ne_k K rfl hr) (pv 3) (pv 1) (nomark _)) (q2q (q0h (eq_k K rfl hr) (q1c sl_P (pv 3) q2e (q1b (q0p (q1z K rfl) (by rfl) T.b_len Br (q0a (pv 1) q0d)))) (pv 1) (nomark _)))))) (q0e (q0w (@bm_k _ _ _ _ _ _ _ _ _ _ _ _ K rfl Bu Cp Cq q1i (pv 2) (q0a (q0u (q0a (pv 3) (q0a (pv 4) q0d))) q0d) (by rfl) (by rfl) (by rfl) (by rfl) (by rfl)))) q0j))) (q0e (q0k (pv 2))))),?_⟩;refine⟨by show 0<=sizeLine;decide,fun D hD=>?_⟩;have s0:=(Same.refl H).new (o:=.lst []) hD;have hD0:upd H D (.lst []) D=some (.lst []):=q0c;generalize upd H D (.lst [])=H0 at s0 hD0;obtain⟨dx,hi⟩:=hh.i;refine⟨_,rfl,h,dx,_,rfl,s0 _ _ hi,rfl,h,d,bl,rows,rfl,hh.same s0,h64,hlow,fun L zs H1 hL s1 rl pm sd=>?_⟩;have hDL:D≠L:=fun z=>by rw[<- z,hD0] at hL;cases hL
  have s01:=s0.trans s1;have hzl:zs.length=rows.length:=by have:=pm.length_eq;rwa [Ag] at this
  refine .inl ⟨L,rfl,⟨_,SqL.of rl.at_⟩,?_⟩;refine q3s (xs:=zs.map fun z=>V.ref z.1) (fun i σ' H'=>∃x3 x4 ys,σ'=[some (.ref h),some (.ref p),some (.ref D),x3,x4]/\Same H H'/\RL H' L zs/\RL H' D ys/\ys.map (·.2)=((zs.map (·.2)).take i).filter (benB q)/\ys.length<=i/\i<=zs.length) ⟨none,none,[],rfl,s01,rl,⟨s1 _ _ hD0,fun _ h=>nomatch h⟩,rfl,Be _,Be _⟩ (fun i σ' H' _ ⟨_,_,_,_,_,r,_⟩=>SqL.of r.at_) ?_ ?_
  ·rintro i x σ' H' hx ⟨x3,x4,ys,rfl,sm,rl',ry,hys,hyl,hi⟩;rw[Bi] at hx;obtain⟨z,hz,rfl⟩:=Dc.mp hx;have hzm:=Ay hz;have hi':=(Aq.mp hz).1;obtain⟨b,b1,b2⟩:=rl'.pr z hzm;have hzr:z.2∈rows:=pm.mem_iff.mp (Ba.mpr ⟨z,hzm,rfl⟩);have lz:=hlow _ hzr;have hft:=z9d (f:=benB q) (l:=zs.map (·.2)) (i:=i) (x:=z.2) (by rw[Bi,hz];rfl);refine⟨z.1,_,rfl,SqT.of b1,rfl,_,_,rfl,_,_,rfl,rfl,?_⟩;refine⟨fun bb H2=>bb=benB q z.2/\Same H' H2,?_,?_⟩
   ·rintro bb H2 ⟨rfl,s2⟩;refine ite2 (fun e=>?_) (fun e=>?_)
    ·refine⟨_,rfl,.inl ⟨rfl,⟨_,SqL.of (s2 _ _ ry.at_)⟩⟩,_,rfl,_,rfl,by show 2<=sizeLine;decide,fun T1 hT1=>?_⟩;have s3:=(Same.refl H2).new (o:=.tup [.ref b,mV z.2.2]) hT1;have ry2:=ry.same s2;refine⟨D,_,_,rfl,rfl,s3 _ _ ry2.at_,TX.small' (by rw[Ag];lia),?_⟩;have e3:=s3 _ _ ry2.at_;have kD:∀T xs,H2 T=some (.tup xs)->upd (upd H2 T1 (.tup [.ref b,mV z.2.2])) D (.lst (ys.map (fun z=>V.ref z.1)++[V.ref T1])) T=some (.tup xs):=fun T xs e=>by
      have:=s3 _ _ e;rw[q0f (fun y=>by rw[y,e3] at this;cases this)];exact this
     have hDn:H D=none:=hD;have kL:∀a u,a≠D->H' a=some u->upd (upd H2 T1 (.tup [.ref b,mV z.2.2])) D (.lst (ys.map (fun z=>V.ref z.1)++[V.ref T1])) a=some u:=fun a u n e=>by
      rw[q0f n];exact s3 _ _ (s2 _ _ e)
     refine⟨_,_,ys++[(T1,z.2)],rfl,fun a u e=>kL a u (fun y=>by rw[y,hD] at e;cases e) (sm a u e),⟨kL _ _ (Ca hDL) rl'.at_,fun z' hz'=>PR.same (rl'.pr z' hz') fun T xs e=>kD T xs (s2 _ _ e)⟩,⟨by rw[Av];exact q0c,fun z' hz'=>?_⟩,?_,by rw[Ai,Bc];lia,hi'⟩
     ·rcases Au.mp hz' with z'|z'
      ·exact PR.same (ry2.pr _ z') kD
      ·rw[Ar.mp z'];have hT1D:T1≠D:=fun y=>by rw[y,ry2.at_] at hT1;cases hT1
       exact⟨b,by rw[q0f hT1D];exact q0c,kD _ _ (s2 _ _ b2)⟩
     ·rw[Av,hys,hft,if_pos e];rfl
    ·have e:=eq_false_of_ne_true e;refine⟨_,_,ys,rfl,sm.trans s2,rl'.same s2,ry.same s2,?_,by lia,hi'⟩;rw[hys,hft,e];simp
   ·refine⟨_,rfl,_,rfl,q8n b2 (sm _ _ hp) lz lq ⟨_,rfl,?_⟩⟩;unfold benB;refine iteB (fun e=>?_) (fun e=>?_)
    ·have e:(!decide (z.2.1=q))=true:=e;refine⟨_,rfl,_,rfl,_,_,rfl,   .inr ⟨_,SqT.of (sm _ _ hp),rfl⟩,_,rfl,b,_,rfl,b2,fun t1 H2 s2 h2=>?_⟩;rw[q3n,cut_to] at h2;refine⟨_,rfl,z0o h2 (s2 _ _ (sm _ _ hp)) (x1u lz) lq ⟨_,rfl,?_,s2⟩⟩;show decide _=(!decide (z.2.1=q)&&_)
     rw[e];rfl
    ·have e:(!decide (z.2.1=q))=false:=e;refine⟨?_,Same.refl _⟩;rw[e];rfl
  ·rintro σ' H' ⟨x3,x4,ys,rfl,sm,rl',ry,hys,hyl,hi⟩;refine⟨_,rfl,k D ys (zs.map (·.2)) H' hD sm ry pm (by rw[Ck];exact sd) ?_⟩;rw[hys,Ag];congr 1;exact Fp (by rw[Ag];exact Aj _)
def TsOk(ts:Pth):Prop:=∃t,ts=[t]/\t.length<=60/\∀c∈t,c∈NS
theorem z4g{ts:List (List Nat)}{cn:Nat}:∀{qs:List Pc} {x:List Nat},(∀q∈qs,pcI q=false)->qs.foldl (stepT ts cn) [x]=[x++(qs.map (pcText ts cn)).flatten]
 |[],x,_=>by simp
 |q::qs,x,h=>by
  rw[Jx,show stepT ts cn [x] q=[x++pcText ts cn q] from q4f (i:=[]) (l:=x) (h q As),z4g fun p hp=>h p (Ao _ hp)];simp
theorem x1v{ts:List (List Nat)}{cn:Nat}{qs:List Pc}(h:∀q∈qs,pcI q=false):tellT ts cn qs=[(qs.map (pcText ts cn)).flatten]:=z4g (x:=[]) h
theorem x3d{w c:Nat}{t:List Nat}(h:c∈wn w t):c=48\/c∈t:=by
 unfold wn at h;rcases Au.mp h with z|z
 ·exact .inl (List.eq_of_mem_replicate z)
 ·exact .inr z
theorem wn_le{w n:Nat}{t:List Nat}(h1:w<=n)(h2:t.length<=n):(wn w t).length<=n:=by
 unfold wn;rw[Ai,Md];lia
theorem fi_ns:∀c∈FI,c∈NS:=by decide +kernel
theorem up_ns:∀c∈NS,up1 c∈NS:=by decide +kernel
theorem lo_ns:∀c∈NS,lo1 c∈NS:=by decide +kernel
theorem x5o{ts:List (List Nat)}{k:Nat}{Pp:List Nat->Prop}(h:∀t∈ts,Pp t)(h0:Pp []):Pp (ts.getD k []):=by
 rw[Fv];cases hz:ts[k]? with
 |none=>exact h0
 |some t=>exact h t (Ay hz)
theorem pct_ok{ts:List (List Nat)}{cn:Nat}{p:Pc}(ho:p.ok)(hc:cn<=10^12)(hm:isMo p=false)(hi:pcI p=false)(h:∀t∈ts,t.length<=12/\∀c∈t,c∈NS):(pcText ts cn p).length<=pcB p/\∀c∈pcText ts cn p,c∈NS:=by
 have g:∀k,(ts.getD k []).length<=12/\∀c∈ts.getD k [],c∈NS:=fun k=>x5o (Pp:=fun t=>t.length<=12/\∀c∈t,c∈NS) h ⟨Be _,fun _ h=>nomatch h⟩;cases p with
 |into=>cases hi
 |more k m=>cases hm
 |tx t=>exact⟨Aj _,ho.2⟩
 |gap k=>exact⟨Bb (g (k-1)).1 (by show 12<=13;decide),(g (k-1)).2⟩
 |great k =>
  refine⟨?_,fun c hc=>?_⟩
  ·show((ts.getD (k-1) []).map up1).length<=13;have:=(g (k-1)).1;rw[Ag];lia
  ·obtain⟨x,hx,rfl⟩:=Ba.mp (show c∈(ts.getD (k-1) []).map up1 from hc);exact up_ns _ ((g (k-1)).2 x hx)
 |small k =>
  refine⟨?_,fun c hc=>?_⟩
  ·show((ts.getD (k-1) []).map lo1).length<=13;have:=(g (k-1)).1;rw[Ag];lia
  ·obtain⟨x,hx,rfl⟩:=Ba.mp (show c∈(ts.getD (k-1) []).map lo1 from hc);exact lo_ns _ ((g (k-1)).2 x hx)
 |nou k v =>
  have hv:v<=9:=ho.2.2;have:=(g (k-1)).1;refine⟨wn_le (n:=13) (by lia) (by lia),fun c hc=>?_⟩;rcases x3d (show c∈wn v (ts.getD (k-1) []) from hc) with rfl|z
  ·decide +kernel
  ·exact(g (k-1)).2 c z
 |cnt v =>
  have hv:v<=9:=ho.2;have:=z0d 12 cn (by lia);refine⟨wn_le (n:=13) (by lia) (by lia),fun c hc=>?_⟩;rcases x3d (show c∈wn v (dg cn) from hc) with rfl|z
  ·decide +kernel
  ·exact fi_ns _ (x2m cn c z)
theorem z9e{ts:List (List Nat)}{cn:Nat}(hc:cn<=10^12)(h:∀t∈ts,t.length<=12/\∀c∈t,c∈NS):∀{qs:List Pc},(∀q∈qs,q.ok/\isMo q=false/\pcI q=false)->((qs.map (pcText ts cn)).flatten).length<=wsz qs/\∀c∈(qs.map (pcText ts cn)).flatten,c∈NS
 |[],_=>⟨Aj _,fun _ h=>nomatch h⟩
 |q::qs,hq=>by
  obtain⟨o1,o2,o3⟩:=hq q As;obtain⟨a,b⟩:=pct_ok (cn:=cn) o1 hc o2 o3 h;obtain⟨c,d⟩:=z9e hc h fun p hp=>hq p (Ao _ hp)
  refine⟨?_,fun x hx=>?_⟩
  ·rw[An,Ir,Ai];show _<=pcB q+wsz qs;lia
  ·rw[An,Ir] at hx;exact(Au.mp hx).elim (b x) (d x)
theorem x3e{n:List Nat}:∀(ps:List Pt) (b:Nat),∀t∈rd n ps b,t.length<=n.length
 |[],_,_,h=>by cases h
 |p::ps,b,t,h=>by
  unfold rd at h;rcases Au.mp h with z|z
  ·split at z
   ·rw[Ar.mp z];unfold cut;rw[Dq,De];lia
   ·cases z
  ·exact x3e ps _ t z
theorem x1w{r:RD}{n:List Nat}{cn:Nat}{ts:Pth}(ok:ROk r)(hn:okN n)(hc:cn<=10^12)(h:tellO r n cn=some ts):TsOk ts:=by
 unfold tellO at h;split at h
 ·obtain⟨a,b⟩:=z9e hc (ts:=rd n (parse [] r.l) 0) (fun t ht=>⟨Bb (x3e _ _ t ht) hn.few,fun c hc=>hn.all c (z4c _ _ t ht c hc)⟩) (qs:=r.qs) fun q hq=>⟨ok.pk q hq,ok.nm q hq,ok.ni q hq⟩
  exact⟨_,(Bs h).symm.trans (x1v ok.ni),Bb a ok.sz,b⟩
 ·cases h
theorem q9e{f:Nat->Nat}{n:List Nat}{m:Option Int}(hn:okN n)(hf:∀j,f j<=1000):∀{rs:List RD} {j i:Nat} {ts:Pth},(∀r∈rs,ROk r)->pick f n m rs j=some (i,ts)->TsOk ts
 |[],_,_,_,_,h=>by cases h
 |r::rs,j,i,ts,ok,h=>by
  have ih:=fun h=>q9e (m:=m) hn hf (rs:=rs) (j:=j+1) (i:=i) (ts:=ts) (fun r hr=>ok r (Ao _ hr)) h;have ok0:=ok r As;unfold pick at h;split at h
  ·cases e:tellO r n (r.st+f j) with
   |none=>rw[e] at h;exact ih h
   |some us =>
    rw[e] at h;cases h;exact x1w ok0 hn (by have:=ok0.st;have:=hf j;lia) e
  ·exact ih h
theorem z1n{f:Nat->Nat}{n:List Nat}{m:Option Int}{rs:List RD}{i:Nat}{r:RD}(h:rs[i]?=some r):pick f n m (rs.drop i) i=if forB r.kd m then(match tellO r n (r.st+f i) with|some ts=>some (i,ts)|none=>pick f n m (rs.drop (i+1)) (i+1)) else pick f n m (rs.drop (i+1)) (i+1):=by
 rw[q2j h];rfl
structure CallsTT (P:Program) (w:World) (K:Ah) (mg:Str->Option Value) (base:Heap):Prop where
 is_for:Cal P w K mg base "is_for" 1 ["rule", "mark"] (spIsFor K)
 tells:Cal P w K mg base "tells" 8 ["rule", "name", "count"] (spTells K)
def spTold(P:Program)(w:World)(K:Ah):Sp:=fun vs H Q _=>∃p m L d q rs f b,vs=[.ref p,mV m,.ref L,.ref d]/\H p=some (.tup (vP q))/\okP q/\RuL K H L rs/\Cnt (pkA P w) H d f b/\b<=1000 /\
 (pick (f q.dropLast) (q.getLastD []) m rs 0=none->∀H',Same H H'->Q .non H') /\
 ∀j ts,pick (f q.dropLast) (q.getLastD []) m rs 0=some (j,ts)->∀T H',H T=none->Kd d H H'->H' T=some (.tup (vP ts))->Cnt (pkA P w) H' d (bump f q.dropLast j) (b+1)->Q (.ref T) H'
abbrev q3a:Stmt:=top 61
theorem sc_told_texts:FnScope ["path", "mark", "rules", "counted", "number", "rule", "key", "texts"] ["path", "mark", "rules", "counted"] (defScope q3a):=by trivial
theorem q9f(D:Df K mg "told_texts" q3a ["path", "mark", "rules", "counted"])(T:Txt mg)(C:CallsTT P w K mg base):Cal P w K mg base "told_texts" 9 ["path", "mark", "rules", "counted"] (spTold P w K):=by
 refine D.cal sc_told_texts (fun vs H Q E h=>?_) (fun f cdv A outer s H vs Q E hr h=>?_)
 ·obtain⟨p,m,L,d,q,rs,f,b,rfl,_⟩:=h;rfl
 ·obtain⟨p,m,L,d,q,rs,g,b,rfl,hp,okq,ru,ct,hb,kN,kS⟩:=h;refine⟨_,(q0b (q1p Bt rfl (@z3h _ _ _ _ _ _ _ _ K rfl rfl T.b_enumerate (q0a (pv 2) q0d) (by rfl)) (@q2n _ _ _ _ (2) _ K rfl rfl (q0q (q0o (i:=4) sc_told_texts.nd rfl (by trivial)) (q0q (q0o (i:=5) sc_told_texts.nd rfl (by trivial)) q1t)) (by rfl) (by rfl)) (q0b (q0l (i:=6) sc_told_texts.nd rfl (by trivial) (q0u (q0a (q1c sl_P (pv 0) q2e (q1b (q3v q1y q0g))) (q0a (pv 4) q0d)))) (q0e (q0t (@z2b _ _ _ K rfl (pe_c C.is_for hr (q0a (pv 5) (q0a (pv 1) q0d))) (fun _=>rfl)) (q0b (q0l (i:=7) sc_told_texts.nd rfl (by trivial) (pe_c C.tells hr (q0a (pv 5) (q0a (q0v (ix_k K rfl) (pv 0) (q3v q1y q0g) (fun _ _=>rfl)) (q0a (q0s q0m (q0v (ix_k K rfl) (pv 5) q0g (fun _ _=>rfl)) (z2j (pkA P w) rfl rfl (q6k hr) (pv 3) (pv 6) q0g ⟨rfl,rfl,rfl,rfl⟩)) q0d))))) (q0e (q0t (q2c (q4r (pv 7))) (q0b (z8b (pkA P w) rfl rfl (q6k hr) (pv 3) (pv 6) (q0s q0m (z2j (pkA P w) rfl rfl (q6k hr) (pv 3) (pv 6) q0g ⟨rfl,rfl,rfl,rfl⟩) q0g) rfl) (q0e (q0k (pv 7)))) q0j))) q0j)))) (q0e (q0k q7b))),?_⟩;obtain⟨Rs,r1,r2,r3⟩:=ru.ex;obtain⟨ks,k1,k2,k3⟩:=ct.ex;have okn:=q4g okq;refine⟨_,rfl,.inr ⟨L,_,rfl,SqL.of r1,?_⟩⟩;refine z0l (xs:=Rs.map V.ref) (fun i σ' H'=>∃x4 x5 x6 x7,σ'=[some (.ref p),some (mV m),some (.ref L),some (.ref d),x4,x5,x6,x7]/\Same H H'/\pick (g q.dropLast) (q.getLastD []) m rs 0=pick (g q.dropLast) (q.getLastD []) m (rs.drop i) i/\i<=rs.length) ⟨none,none,none,none,rfl,Same.refl H,rfl,Be _⟩ (fun i σ' H' ⟨_,_,_,_,_,sm,_⟩=>SqL.of (sm _ _ r1)) ?_ ?_
  ·rintro i x T' σ' H' hx ⟨x4,x5,x6,x7,rfl,sm,hpk,hi⟩ hT;rw[Bi] at hx;obtain⟨R,hR,rfl⟩:=Dc.mp hx;have hi':i<rs.length:=by rw[<- r2];exact(Aq.mp hR).1
   have hr0:rs[i]?=some rs[i]:=Bl hi';generalize rs[i]=r at hr0;have okr:=ru.ok r (Ay hr0);have ra:=r3 i R r hR hr0;rw[z1n hr0] at hpk;refine⟨T',_,rfl,SqT.of q0c,rfl,_,_,rfl,_,_,rfl,rfl,?_⟩;have s2:=sm.new (o:=.tup [.int (i:Nat),.ref R]) hT;generalize upd H' T' (.tup [.int (i:Nat),.ref R])=H2 at s2;refine⟨_,rfl,_,rfl,_,rfl,p,_,rfl,s2 _ _ hp,fun t1 H3 s3 h3=>?_⟩;rw[(q2l okq.ne).1] at h3;refine⟨_,rfl,by show 2<=sizeLine;decide,fun T6 hT6=>?_⟩;have s4:=(s2.trans s3).new (o:=.tup [.ref t1,.int (i:Nat)]) hT6;have pk4:PrK (upd H3 T6 (.tup [.ref t1,.int (i:Nat)])) (kP q.dropLast,Sum.inl ((i:Nat):Int)) T6:=⟨t1,q0c,by rw[q6f];exact((Same.refl H3).new hT6) _ _ h3⟩
   generalize upd H3 T6 (.tup [.ref t1,.int (i:Nat)])=H4 at s4 pk4;have ra4:=ra.same s4;refine⟨_,rfl,_,rfl,R,r.kd,_,m,rfl,ra4.at_,?_⟩;cases hf:forB r.kd m with
   |false =>
    rw[hf] at hpk;exact⟨_,rfl,iteF ⟨_,_,_,_,rfl,s4,hpk,hi'⟩⟩
   |true =>
    rw[hf,if_pos rfl] at hpk;refine⟨_,rfl,iteT ?_⟩;have hcn:=ct.le q.dropLast i;have hst:=okr.st;have hv:=k3 q.dropLast i;refine⟨_,rfl,_,rfl,_,rfl,.inr (.inl ⟨p,_,-1,_,rfl,rfl,SqT.of (s4 _ _ hp),q4y okq.ne,?_⟩)⟩;refine⟨_,rfl,.inr (.inl ⟨R,_,3,.int (r.st:Int),rfl,rfl,SqT.of ra4.at_,q1m (j:=3) rfl,?_⟩)⟩;refine⟨_,rfl,d,ks,rfl,k1.same s4,_,rfl,T6,(kP q.dropLast,Sum.inl ((i:Nat):Int)),0,rfl,rfl,k1.same s4,pk4,?_⟩;rw[hv];refine .inl ⟨_,_,rfl,rfl,R,r.kd,r.l,r.qs,r.st,q.getLastD [],r.st+g q.dropLast i,rfl,ra4,okn.few,fun t ht c hc=>okn.low c (z4c _ _ t ht c hc),by lia,fun hfi H5 s5=>?_,fun hfi T7 H5 hT7 s5 h5=>?_⟩
    ·have et:tellO r (q.getLastD []) (r.st+g q.dropLast i)=none:=by unfold tellO;rw[hfi];rfl
     rw[et] at hpk;exact⟨_,rfl,_,rfl,iteF ⟨_,_,_,_,rfl,s4.trans s5,hpk,hi'⟩⟩
    ·have et:tellO r (q.getLastD []) (r.st+g q.dropLast i)=some (tellT (rd (q.getLastD []) (parse [] r.l) 0) (r.st+g q.dropLast i) r.qs):=by unfold tellO;rw[hfi];rfl
     rw[et] at hpk;have s45:=s4.trans s5;have pk5:PrK H5 (kP q.dropLast,Sum.inl ((i:Nat):Int)) T6:=let ⟨c,e1,e2⟩:=pk4;⟨c,s5 _ _ e1,s5 _ _ e2⟩;have dp5:=k1.same s45;refine⟨_,rfl,_,rfl,iteT ?_⟩;refine⟨_,rfl,d,ks,rfl,dp5,_,rfl,T6,(kP q.dropLast,Sum.inl ((i:Nat):Int)),0,rfl,rfl,dp5,pk5,?_⟩;rw[hv];refine .inl ⟨_,_,rfl,rfl,_,rfl,_,rfl,d,ks,T6,(kP q.dropLast,Sum.inl ((i:Nat):Int)),_,rfl,rfl,rfl,dp5,pk5,TX.small' (by lia),?_⟩;have hTd:T7≠d:=fun z=>by rw[z,(k1.same s4).at_] at hT7;cases hT7
     exact⟨_,rfl,kS _ _ hpk T7 _ (s4.free hT7) ((Kd.of s45).put) (by rw[q0f hTd];exact h5) (Cnt.put dp5 k2 k3 ct.le pk5 hb rfl)⟩
  ·rintro σ' H' ⟨x4,x5,x6,x7,rfl,sm,hpk,hi⟩;rw[Ag,r2,Gr] at hpk;exact kN hpk H' sm
def nmB(ts:Pth):Bool:=ts.all isName
structure CallsPl (P:Program) (w:World) (K:Ah) (mg:Str->Option Value) (base:Heap) (Cn:Addr):Prop where
 is_name:Cal P w K mg base "is_name" 2 ["text"] spIsName
 e_NoPlace:CalE P w K mg base "NoPlace" Cn 1 ["self", "path", "texts"] (spIniN Cn)
def RN(H:Hp)(E:XK)(Cn:Addr)(q ts:Pth):Prop:=∀ea H',Same H H'->H ea=none->RfN H' ea Cn q ts->E (.ref ea) none H'
def spPlace(Cn:Addr):Sp:=fun vs H Q E=>∃h p X q ts,vs=[.ref h,.ref p,.ref X]/\H p=some (.tup (vP q))/\okP q/\H X=some (.tup (vP ts))/\TsOk ts/\(nmB ts=true->∀a H',Same H H'->H' a=some (.tup (vP (q.dropLast++ts)))->Q (.ref a) H')/\(nmB ts=false->RN H E Cn q ts)
theorem TsOk.pb{ts:Pth}(h:TsOk ts):PB ts:=by
 obtain⟨t,rfl,h1,h2⟩:=h;refine⟨by show 1<=20;decide,fun n hn=>?_⟩;rw[Ar.mp hn];exact⟨h1,fun c hc=>x2r c (h2 c hc)⟩
abbrev q4i:Stmt:=top 62
theorem z2u:FnScope ["hall", "path", "texts"] ["hall", "path", "texts"] (defScope q4i):=by trivial
theorem z2v{Cn:Addr}(D:Df K mg "place_of" q4i ["hall", "path", "texts"])(T:Txt mg)(C:CallsPl P w K mg base Cn):CalX P w K mg base "place_of" 3 ["hall", "path", "texts"] (spPlace Cn):=by
 refine D.calX z2u (fun vs H Q E h=>?_) (fun f cdv A outer s H vs Q E hr h=>?_)
 ·obtain⟨h,p,X,q,ts,rfl,_⟩:=h;rfl
 ·obtain⟨h,p,X,q,ts,rfl,hp,okq,hX,to,k,kE⟩:=h;obtain⟨_,g_MOST_NAMES⟩:=T.MOST_NAMES;refine⟨_,(q0b (q0t (pt_j (@PW.pt _ _ _ (z1t (q0h q7w (q0p (q1z K rfl) (by rfl) T.b_len Br (q0a (pv 2) q0d)) (q1a (v:=.int 6) (by rfl) g_MOST_NAMES ⟨_,rfl⟩) (nomark _)) (q5r (x2a (@z2b _ _ _ K rfl (q0p (all_k K rfl rfl) (by rfl) T.b_all (by decide +kernel) (q0a (q8c ["text"] [] rfl (@q6x _ _ _ _ K rfl (pv 2)) (fun _ _ _ _ _=>(q0o (i:=0) (show(["text"]:List Str).Nodup by decide +kernel) rfl (by trivial))) (fun _ _ _ _ _=>q8b) (fun _ _ _ _ _=>(pe_c C.is_name hr (q0a (pv 0) q0d)))) q0d)) (fun _=>rfl))))))) (q0e (ps_rs C.e_NoPlace hr accX rfl (q0a (pv 1) (q0a (pv 2) q0d)))) q0j) (q0b (q0t (q0h (eq_k K rfl hr) (q0p (q1z K rfl) (by rfl) T.b_len Br (q0a (pv 2) q0d)) q0g (nomark _)) (q0e (q0k (q0s q8l (q1c sl_P (pv 1) q2e (q1b (q3v q1y q0g))) (pv 2)))) q0j) (q0b q1g (q0e (q0k (pv 2)))))),?_⟩;have pb:=to.pb;obtain⟨t,rfl,tl,tn⟩:=to;refine⟨fun bb H'=>bb=(!nmB [t])/\Same H H',?_,?_⟩
  ·rintro bb H1 ⟨rfl,s1⟩;refine ite2 (fun e=>?_) (fun e=>?_)
   ·have e:nmB [t]=false:=by simpa using e
    refine⟨_,rfl,_,rfl,fun ea hea=>⟨ea,p,X,q,[t],rfl,q0c,?_⟩⟩;have se:=(Same.refl H1).new (o:=ExN (.ref Cn) none ea) hea;refine⟨⟨se _ _ (s1 _ _ hp),okP.pb okq⟩,⟨se _ _ (s1 _ _ hX),pb⟩,fun d hd hne=>⟨rfl,some d,by rw[q0f (Ca hne),q0f (Ca hne),q0c],?_⟩⟩;have sf:=z1m (o1:=ExN (.ref Cn) none ea) (o2:=XdO d []) (o3:=ExN (.ref Cn) (some d) ea) (o4:=XdO d [("path",.ref p)]) (o5:=XdO d (putF "texts" (.ref X) [("path",.ref p)])) (o6:=ExO (.ref Cn) (some d) ea) (Same.refl H1) hea hd;exact kE e ea _ (s1.trans sf) (s1.free hea) ⟨d,p,X,q0c,by rw[q0f hne];exact q0c,sf _ _ (s1 _ _ hp),sf _ _ (s1 _ _ hX)⟩
   ·have e:nmB [t]=true:=by simpa using e
    refine⟨_,rfl,_,_,rfl,.inr ⟨_,SqT.of (s1 _ _ hX),rfl⟩,.inl ⟨rfl,_,rfl,iteT ?_⟩⟩;refine⟨_,rfl,_,rfl,_,rfl,p,_,rfl,s1 _ _ hp,fun t1 H2 s2 h2=>?_⟩;rw[(q2l okq.ne).1] at h2;have hl:=okq.few;refine⟨_,rfl,t1,X,_,_,rfl,rfl,h2,s2 _ _ (s1 _ _ hX),TX.small (by rw[q3n,Hq];show _+1<=_;lia),fun a H3 s3 h3 _=>?_⟩;exact k e a H3 ((s1.trans s2).trans s3) (by rw[h3,<- x3b])
  ·refine⟨_,rfl,_,_,rfl,.inr ⟨_,SqT.of hX,rfl⟩,_,_,rfl,rfl,_,rfl,?_⟩;refine iteB (fun z=>absurd (of_decide_eq_true z) (by show ¬((1:Int)>6);decide)) (fun _=>?_);refine⟨_,rfl,.inr (.inl ⟨X,rfl,⟨_,SqT.of hX⟩,fun D hD=>?_⟩)⟩;refine z6v (xs:=[V.str (mk t)]) (fun i ys H2=>ys=(([t]:Pth).take i).map (fun n=>V.bl (isName n))/\Same H H2/\H2 D=some (.lst ys)/\i<=1) ⟨rfl,(Same.refl H).new hD,q0c,Be _⟩ (fun i ys H2 ⟨_,sm,hHD,_⟩=>⟨hHD,SqT.of (sm _ _ hX)⟩) ?_ ?_
   ·rintro i ys H2 x hx ⟨rfl,sm,hHD,hi⟩;have hi0:i=0:=by
     have:=(Aq.mp hx).1;simp at this;exact this
    subst hi0;cases hx;refine⟨_,rfl,mk t,rfl,by rw[q0r];lia,fun H3 s3=>⟨s3 _ _ hHD,by show 0<sizeLine;decide,?_,(sm.trans s3).put hD,q0c,Aj _⟩⟩;rw[q0y];rfl
   ·rintro ys H2 ⟨rfl,sm,hHD,hi⟩;refine⟨D,[isName t],rfl,SqL.of hHD,_,rfl,?_,sm⟩;unfold nmB;rfl
def sow(rs:List RD):List Rw->(Pth->Nat->Nat)->List Mv->Sum (Pth×Pth) (List Mv)
 |[],_,ms=>.inr ms
 |r::R,f,ms=>match pick (f r.1.dropLast) (r.1.getLastD []) r.2 rs 0 with
  |none=>sow rs R f ms
  |some x=>if nmB x.2 then sow rs R (bump f r.1.dropLast x.1) (ms++[(r.1,r.1.dropLast++x.2)]) else .inl (r.1,x.2)
structure CallsWi (P:Program) (w:World) (K:Ah) (mg:Str->Option Value) (base:Heap) (c Cn:Addr):Prop where
 ask_rule:Cal P w K mg base "ask_rule" 7 ["rule"] (spAskRule K)
 m_is_drawer:MCal P w K mg base c "is_drawer" 1 ["self", "path"] (spIsDrawer c)
 rows_beneath:Cal P w K mg base "rows_beneath" 3 ["hall", "drawer"] (spBen c)
 told_texts:Cal P w K mg base "told_texts" 9 ["path", "mark", "rules", "counted"] (spTold P w K)
 place_of:CalX P w K mg base "place_of" 3 ["hall", "path", "texts"] (spPlace Cn)
def Srt(rows rs:List Rw):Prop:=rs.Perm rows/\(rs.map (·.1)).Pairwise (fun a b=>pLt b a=false)
def f0:Pth->Nat->Nat:=fun _ _=>0
def spWi(K:Ah)(c Cn:Addr):Sp:=fun vs H Q E=>∃h d p L bl rows q rs,vs=[.ref h,.ref p,.ref L]/\HallAt c H h d bl rows/\Hl bl rows/\rows.length<=30/\H p=some (.tup (vP q))/\Low q/\(q=[]\/(q,none)∈rows)/\RuL K H L rs /\
 (∀sr ms,Srt rows sr->sow rs (sr.filter (benB q)) f0 []=.inr ms->∀G zs H',Same H H'->ML H' G zs->zs.map (·.2)=ms->Q (.ref G) H') /\
 ∀sr x,Srt rows sr->sow rs (sr.filter (benB q)) f0 []=.inl x->RN H E Cn x.1 x.2
abbrev q3p:Stmt:=top 63
theorem sc_wishes_of:FnScope ["hall", "path", "rules", "rule", "wishes", "counted", "thing", "mark", "texts"] ["hall", "path", "rules"] (defScope q3p):=by trivial
set_option maxHeartbeats 40000000 in
theorem z1o{c Cn:Addr}(D:Df K mg "wishes_of" q3p ["hall", "path", "rules"])(T:Txt mg)(C:CallsWi P w K mg base c Cn):CalX P w K mg base "wishes_of" 10 ["hall", "path", "rules"] (spWi K c Cn):=by
 refine D.calX sc_wishes_of (fun vs H Q E h=>?_) (fun f cdv A outer s H vs Q E hr h=>?_)
 ·obtain⟨h,d,p,L,bl,rows,q,rs,rfl,_⟩:=h;rfl
 ·obtain⟨h,d,p,L,bl,rows,q,rs,rfl,hh,hl,h30,hp,lq,hq,ru,k,kE⟩:=h;refine⟨_,(q0b (q1p passDef rfl (@q6x _ _ _ _ K rfl (pv 2)) (q0o (i:=3) sc_wishes_of.nd rfl (by trivial)) (q0e (q0w (pe_c C.ask_rule hr (q0a (pv 3) q0d))))) (q0b (q0t (x2a (@z2b _ _ _ K rfl (pe_m C.m_is_drawer hr (pv 0) (q0a (pv 1) q0d)) (fun _=>rfl))) (q0e q1g) q0j) (q0b (q0l (i:=4) sc_wishes_of.nd rfl (by trivial) (q1s q0d)) (q0b (q0l (i:=5) sc_wishes_of.nd rfl (by trivial) (z3v (pkA P w) rfl rfl)) (q0b (q1p passDef rfl (@q6x _ _ _ _ K rfl (pe_c C.rows_beneath hr (q0a (pv 0) (q0a (pv 1) q0d)))) (@q2n _ _ _ _ (2) _ K rfl rfl (q0q (q0o (i:=6) sc_wishes_of.nd rfl (by trivial)) (q0q (q0o (i:=7) sc_wishes_of.nd rfl (by trivial)) q1t)) (by rfl) (by rfl)) (q0b (q0l (i:=8) sc_wishes_of.nd rfl (by trivial) (pe_c C.told_texts hr (q0a (pv 6) (q0a (pv 7) (q0a (pv 2) (q0a (pv 5) q0d)))))) (q0e (q0t (q2c (q4r (pv 8))) (q0e (q0w (@bm_k _ _ _ _ _ _ _ _ _ _ _ _ K rfl Bu Cp Cq q1i (pv 4) (q0a (q0u (q0a (pv 6) (q0a (pe_cX C.place_of hr accX (q0a (pv 0) (q0a (pv 6) (q0a (pv 8) q0d)))) q0d))) q0d) (by rfl) (by rfl) (by rfl) (by rfl) (by rfl)))) q0j)))) (q0e (q0k (pv 4)))))))),?_⟩;obtain⟨Rs,r1,r2,r3⟩:=ru.ex;obtain⟨dx,hi⟩:=hh.i;refine⟨_,rfl,.inl ⟨L,rfl,⟨_,SqL.of r1⟩,?_⟩⟩;refine q3s (xs:=Rs.map V.ref) (fun i σ' H'=>∃x3,σ'=[some (.ref h),some (.ref p),some (.ref L),x3,none,none,none,none,none]/\Same H H') ⟨none,rfl,Same.refl H⟩ (fun i σ' H' _ ⟨_,_,sm⟩=>SqL.of (sm _ _ r1)) ?_ ?_
  ·rintro i x σ' H' hx ⟨x3,rfl,sm⟩;rw[Bi] at hx;obtain⟨R,hR,rfl⟩:=Dc.mp hx;have hi':i<rs.length:=by rw[<- r2];exact(Aq.mp hR).1
   have ra:=r3 i R rs[i] hR (Bl hi');exact⟨_,rfl,R,_,_,_,_,rfl,ra.same sm,fun H2 s2=>⟨_,rfl,sm.trans s2⟩⟩
  rintro σ' H' ⟨x3,rfl,sm⟩;refine⟨_,rfl,h,dx,_,rfl,sm _ _ hi,rfl,_,rfl,h,d,p,bl,rows,q,rfl,hh.same sm,sm _ _ hp,lq,hl.paths,fun H1 bb s1 hbb=>?_⟩;rw[hbb.mpr hq];refine⟨_,rfl,iteF ?_⟩;have sm1:=sm.trans s1;refine⟨by show 0<=sizeLine;decide,fun G hG=>?_⟩;have s2:=sm1.new (o:=.lst []) hG;have hG2:upd H1 G (.lst []) G=some (.lst []):=q0c;have hG0:=sm1.free hG;generalize upd H1 G (.lst [])=H2 at s2 hG2;intro Dd hDd hsys;have s3:=s2.new (o:=PiO (pkA P w) Dd []) hDd;have ct3:Cnt (pkA P w) (upd H2 Dd (PiO (pkA P w) Dd [])) Dd f0 0:=Cnt.new hsys;have hG3:upd H2 Dd (PiO (pkA P w) Dd []) G=some (.lst []):=((Same.refl H2).new hDd) _ _ hG2;have hD0:=s2.free hDd;have hGD:G≠Dd:=fun z=>by rw[z,hDd] at hG2;cases hG2
  generalize upd H2 Dd (PiO (pkA P w) Dd [])=H3 at s3 ct3 hG3;refine⟨_,rfl,_,rfl,h,d,p,bl,rows,q,rfl,hh.same s3,by lia,fun r hr=>(hl.ok r hr).low,s3 _ _ hp,lq,fun B zs sr H4 hB s4 rl pm sd ez=>?_⟩;have srt:Srt rows sr:=⟨pm,sd⟩
  have hGB:G≠B:=fun z=>by rw[<- z,hG3] at hB;cases hB
  have hDB:B≠Dd:=fun z=>by obtain⟨ks,x,_⟩:=ct3.ex;rw[z,x.at_] at hB;cases hB
  have s34:=s3.trans s4;have hzl:zs.length<=30:=by
   have h1:=congrArg List.length ez;rw[Ag] at h1;have h2:=Ru (benB q) sr;have h3:=pm.length_eq;lia
  refine .inl ⟨B,rfl,⟨_,SqL.of rl.at_⟩,?_⟩;refine q3s (xs:=zs.map fun z=>V.ref z.1) (fun i σ' H'=>∃x3 x6 x7 x8 ys g,σ'=[some (.ref h),some (.ref p),some (.ref L),x3,some (.ref G),some (.ref Dd),x6,x7,x8]/\Same H H'/\RL H' B zs/\ML H' G ys/\Cnt (pkA P w) H' Dd g i/\sow rs (sr.filter (benB q)) f0 []=sow rs ((sr.filter (benB q)).drop i) g (ys.map (·.2))/\ys.length<=i/\i<=zs.length) ⟨_,none,none,none,[],f0,rfl,s34,rl,ML.nil (s4 _ _ hG3),ct3.same s4,rfl,Be _,Be _⟩ (fun i σ' H' _ ⟨_,_,_,_,_,_,_,_,r,_⟩=>SqL.of r.at_) ?_ ?_
  ·rintro i x σ' H' hx ⟨x3,x6,x7,x8,ys,g,rfl,sm5,rl5,ml5,ct5,hsw,hyl,hi5⟩;rw[Bi] at hx;obtain⟨z,hz,rfl⟩:=Dc.mp hx;have hzm:=Ay hz;have hi':=(Aq.mp hz).1;obtain⟨b,b1,b2⟩:=rl5.pr z hzm;have hzf:(sr.filter (benB q))[i]?=some z.2:=by rw[<- ez,Bi,hz];rfl
   have hzr:z.2∈rows:=pm.mem_iff.mp (Qh.mp (Ay hzf)).1;have okz:=hl.ok _ hzr;rw[q2j hzf] at hsw;refine⟨z.1,_,rfl,SqT.of b1,rfl,_,_,rfl,_,_,rfl,rfl,?_⟩;refine⟨_,rfl,_,rfl,_,rfl,_,rfl,b,z.2.2,L,Dd,z.2.1,rs,g,i,rfl,b2,okz,ru.same sm5,ct5,by lia,fun hpk H6 s6=>?_,fun j ts hpk X H6 hX k6 hX6 ct6=>?_⟩
   ·refine⟨_,rfl,_,rfl,iteF ⟨_,_,_,_,ys,g,rfl,sm5.trans s6,rl5.same s6,ml5.same s6,⟨(ct5.same s6).ex.imp fun ks x=>⟨x.1,by lia,x.2.2⟩,fun p j=>Fi (ct5.le p j)⟩,?_,by lia,hi'⟩⟩;rw[hsw,sow,hpk]
   ·have s6:=k6.same sm5 hD0;have tk6:∀T xs,H' T=some (.tup xs)->H6 T=some (.tup xs):=fun T xs e=>k6 _ _ (fun y=>by obtain⟨ks,x,_⟩:=ct5.ex;rw[y,x.at_] at e;cases e) e;have rl6:RL H6 B zs:=⟨k6 _ _ hDB rl5.at_,fun z hz=>PR.same (rl5.pr z hz) tk6⟩
    have ml6:ML H6 G ys:=⟨k6 _ _ hGD ml5.at_,fun z hz=>(ml5.pr z hz).keep tk6⟩
    have tok:TsOk ts:=q9e (q4g okz) (fun j=>by have:=ct5.le z.2.1.dropLast j;lia) ru.ok hpk;refine⟨_,rfl,_,rfl,iteT ?_⟩;refine⟨_,rfl,.inl ⟨rfl,⟨_,SqL.of ml6.at_⟩⟩,_,rfl,_,rfl,_,rfl,_,rfl,h,b,X,z.2.1,ts,rfl,tk6 _ _ b2,okz,hX6,tok,fun hn a H7 s7 h7=>?_,fun hn=>?_⟩
    ·refine⟨by show 2<=sizeLine;decide,fun T1 hT1=>?_⟩;have s8:=s7.new (o:=.tup [.ref b,.ref a]) hT1;have mt8:MT (upd H7 T1 (.tup [.ref b,.ref a])) T1 (z.2.1,z.2.1.dropLast++ts):=⟨b,a,q0c,s8 _ _ (tk6 _ _ b2),((Same.refl H7).new hT1) _ _ h7⟩
     generalize upd H7 T1 (.tup [.ref b,.ref a])=H8 at s8 mt8;have ml8:=ml6.same s8;have k9:∀a u,a≠G->H8 a=some u->upd H8 G (.lst (ys.map (fun z=>V.ref z.1)++[V.ref T1])) a=some u:=fun a u n e=>by rw[q0f n];exact e
     have t9:∀T xs,H8 T=some (.tup xs)->upd H8 G (.lst (ys.map (fun z=>V.ref z.1)++[V.ref T1])) T=some (.tup xs):=fun T xs e=>k9 _ _ (fun y=>by rw[y,ml8.at_] at e;cases e) e;refine⟨G,_,_,rfl,rfl,ml8.at_,TX.small' (by rw[Ag];lia),?_⟩;refine⟨_,_,_,_,ys++[(T1,(z.2.1,z.2.1.dropLast++ts))],bump g z.2.1.dropLast j,rfl,fun a u e=>k9 a u (fun y=>by rw[y,hG0] at e;cases e) (s8 _ _ (s6 _ _ e)),⟨k9 _ _ (Ca hGB) (s8 _ _ rl6.at_),fun z hz=>PR.same (rl6.pr z hz) fun T xs e=>t9 _ _ (s8 _ _ e)⟩,⟨by rw[Av];exact q0c,fun z' hz'=>?_⟩,?_,?_,by rw[Ai,Bc];lia,hi'⟩
     ·rcases Au.mp hz' with y|y
      ·exact(ml8.pr _ y).keep t9
      ·rw[Ar.mp y];exact mt8.keep t9
     ·have c8:=ct6.same s8;exact⟨c8.ex.imp fun ks x=>⟨⟨k9 _ _ (Ca hGD) x.1.at_,x.1.sys,x.1.len,fun y hy=>(pkA P w).keep t9 (x.1.pk y hy)⟩,x.2⟩,c8.le⟩
     ·rw[hsw,sow,hpk];show(if nmB ts=true then _ else _)=_;rw[if_pos hn,Av];rfl
    ·intro ea H7 s7 hea rf ea' ez';cases ez';refine kE sr (z.2.1,ts) srt ?_ ea H7 (s6.trans s7) (s6.free hea) rf;rw[hsw,sow,hpk];show(if nmB ts=true then _ else _)=_;rw[if_neg (by rw[hn];decide)]
  ·rintro σ' H' ⟨x3,x6,x7,x8,ys,g,rfl,sm5,rl5,ml5,ct5,hsw,hyl,hi5⟩;have e5:(sr.filter (benB q)).drop (zs.map fun z=>V.ref z.1).length=[]:=by
    rw[<- ez,Ag];exact Lw (by rw[Ag];exact Aj _)
   rw[e5,sow] at hsw;exact⟨_,rfl,k sr _ srt hsw G ys H' sm5 ml5 rfl⟩
end
end K
set_option maxHeartbeats 4000000
namespace K
open PySem L2 TX SB HM
section
variable{P:Program}{w:World}{K:Ah}{mg:Str->Option Value}{base:Heap}
structure GP (qs:List Pc):Prop where
 ok:∀p∈qs,p.ok
 tt:∀i x y,qs[i]?=some (.tx x)->qs[i+1]?≠some (.tx y)
 ii:∀i,qs[i]?=some .into->1<=i/\qs[i-1]?≠some .into
 sz:(flatP qs).length<=56
theorem GP.nil:GP []:=⟨fun p h=>(by cases h),fun i x y h=>(by simp at h),fun i h=>(by simp at h),(by simp[flatP])⟩
theorem q1r(p:Pc):flatP [p]=p.wr:=by simp[flatP]
theorem GP.snoc{qs:List Pc}{p:Pc}(g:GP qs)(hok:p.ok)(ht:∀x y,p=.tx y->qs.getLast?≠some (.tx x))(hi:p=.into->qs≠[]/\qs.getLast?≠some .into)(hs:(flatP qs).length+p.wr.length<=56):GP (qs++[p]):=by
 refine⟨?_,?_,?_,?_⟩
 ·intro q hq;rcases Au.mp hq with z|z
  ·exact g.ok q z
  ·rw[Ar.mp z];exact hok
 ·intro i x y h1 h2;rcases Nat.lt_trichotomy (i+1) qs.length with z|z|z
  ·rw[Bj (by lia)] at h1;rw[Bj z] at h2;exact g.tt i x y h1 h2
  ·rw[Bj (by lia)] at h1;rw[Cr (by lia),show i+1-qs.length=0 by lia] at h2;have h3:p=.tx y:=by simpa using h2
   refine ht x y h3 ?_;rw[Hr,show qs.length-1=i by lia];exact h1
  ·rw[List.getElem?_eq_none (by simp;lia)] at h2;cases h2
 ·intro i h1;rcases Qb i qs.length with z|z
  ·rw[Bj z] at h1;obtain⟨a,b⟩:=g.ii i h1;exact⟨a,by rw[Bj (by lia)];exact b⟩
  ·have hlt:=(Aq.mp h1).1;rw[Ai,Bc] at hlt;have e:i=qs.length:=by lia
   subst e;rw[Cr (Aj _),Ia] at h1;have hp:p=.into:=by simpa using h1
   obtain⟨a,b⟩:=hi hp;have:=Cw.mpr a;refine⟨this,?_⟩;rw[Bj (by lia),<- Hr];exact b
 ·rw[q1j,Ai,q1r];exact hs
theorem GP.init{qs:List Pc}{p:Pc}(g:GP (qs++[p])):GP qs:=by
 have lt:∀{i:Nat} {q:Pc},qs[i]?=some q->i<qs.length:=fun h=>(Aq.mp h).1;refine⟨fun q h=>g.ok q (Cy _ h),fun i x y h1 h2=>?_,fun i h=>?_,?_⟩
 ·exact g.tt i x y (by rw[Bj (lt h1)];exact h1) (by rw[Bj (lt h2)];exact h2)
 ·obtain⟨a,b⟩:=g.ii i (by rw[Bj (lt h)];exact h);have:=lt h;exact⟨a,by rwa [Bj (by lia)] at b⟩
 ·have:=g.sz;rw[q1j,Ai] at this;lia
theorem GP.merge{qs:List Pc}{x y:List Nat}(g:GP (qs++[.tx x]))(hy:(Pc.tx y).ok)(hs:(flatP (qs++[.tx x])).length+y.length<=56):GP (qs++[.tx (x++y)]):=by
 have hx:=g.ok (.tx x) (by simp);refine g.init.snoc ⟨fun z=>hx.1 (List.append_eq_nil_iff.mp z).1,fun c hc=>?_⟩ (fun x' y' _ z=>?_) (fun h=>by cases h) ?_
 ·rcases Au.mp hc with z|z
  ·exact hx.2 c z
  ·exact hy.2 c z
 ·rw[Hr] at z;have hlt:=(Aq.mp z).1;refine g.tt (qs.length-1) x' x (by rw[Bj hlt];exact z) ?_;rw[show qs.length-1+1=qs.length by lia,Cr (Aj _),Ia];rfl
 ·rw[q1j,Ai,q1r] at hs;show(flatP qs).length+(x++y).length<=56;rw[Ai];have:(Pc.tx x).wr.length=x.length:=rfl;lia
theorem z9f(u:List Nat)(q:List Pt):gsOf (tp u++q)=gsOf q:=by unfold tp;split<;>rfl
theorem q9g:∀(l u:List Nat),gsOf (parse u l)=l.filter fun c=>decide (c∈GS)
 |[],u=>by
  have:=z9f u [];rw[Dm] at this;exact this
 |c::r,u=>by
  rw[parse];by_cases h:c∈GS
  ·rw[if_pos h,z9f,Ie (by rw[decide_eq_true h])];show c::gsOf (parse [] r)=_;rw[q9g r []]
  ·rw[if_neg h,Ic (by rw[decide_eq_false h];decide)];exact q9g r _
structure MkOk (g:Nat) (p:Pc):Prop where
 ok:p.ok
 ni:pcI p=false
 nm:isMo p=false
 gp:∀k,gapNo p=some k->1<=k/\k<=g
 b:pcB p<=13
 w:p.wr.length<=5
structure AR (g:Nat) (qs:List Pc) (i:Nat):Prop where
 gp:GP qs
 ne:qs≠[]
 all:∀q∈qs,pcI q=false/\isMo q=false/\∀k,gapNo q=some k->1<=k/\k<=g
 sz:wsz qs<=1+13*i
 fl:(flatP qs).length<=1+5*i
theorem z9g(a b:List Pc):wsz (a++b)=wsz a+wsz b:=by unfold wsz;rw[Av,List.sum_append]
theorem AR.add{g:Nat}{qs:List Pc}{i:Nat}{p:Pc}(h:AR g qs i)(m:MkOk g p)(hi:i<=3):∃qs',AR g qs' (i+1)/\flatP qs'=flatP qs++p.wr:=by
 have h1:=h.sz;have h2:=h.fl;have h3:=m.b;have h4:=m.w;have plain:(∀x y,p=.tx y->qs.getLast?≠some (.tx x))->∃qs',AR g qs' (i+1)/\flatP qs'=flatP qs++p.wr:=fun ht=>by
  refine⟨qs++[p],⟨h.gp.snoc m.ok ht (fun z=>by have:=m.ni;rw[z] at this;cases this) (by lia),by simp,fun q hq=>?_,?_,?_⟩,by rw[q1j,q1r]⟩
  ·rcases Au.mp hq with z|z
   ·exact h.all q z
   ·rw[Ar.mp z];exact⟨m.ni,m.nm,m.gp⟩
  ·rw[z9g];show wsz qs+(pcB p+0)<=_;lia
  ·rw[q1j,q1r,Ai];lia
 by_cases hp:∃y,p=.tx y
 ·obtain⟨y,rfl⟩:=hp;by_cases hx:∃x,qs.getLast?=some (.tx x)
  ·obtain⟨x,hx⟩:=hx;have e:qs=qs.dropLast++[.tx x]:=by
    have:=Dw h.ne;rw[Gk h.ne] at hx;rw[<- Bs hx];exact this.symm
   have hg:=h.gp;have ha:=h.all;generalize qs.dropLast=r at e;subst e;have hw:(Pc.tx y).wr.length=y.length:=rfl;refine⟨r++[.tx (x++y)],⟨hg.merge m.ok (by lia),by simp,fun q hq=>?_,?_,?_⟩,?_⟩
   ·rcases Au.mp hq with z|z
    ·exact ha q (Cy _ z)
    ·rw[Ar.mp z];exact⟨rfl,rfl,fun k hk=>by cases hk⟩
   ·rw[z9g] at h1 ⊢;have e1:wsz [Pc.tx x]=x.length:=by show x.length+0=_;lia
    have e2:wsz [Pc.tx (x++y)]=x.length+y.length:=by show(x++y).length+0=_;rw[Ai];lia
    have e3:pcB (.tx y)=y.length:=rfl;lia
   ·rw[q1j,q1r,Ai] at h2 ⊢;have e1:(Pc.tx x).wr.length=x.length:=rfl;have e2:(Pc.tx (x++y)).wr.length=x.length+y.length:=Ai;lia
   ·rw[q1j,q1j,q1r,q1r,Iv];rfl
  ·exact plain fun x y' _ z=>hx ⟨x,z⟩
 ·exact plain fun x y z=>absurd ⟨y,z⟩ hp
theorem AR.one{g:Nat}{t:List Nat}(h1:t.length=1)(h2:∀c∈t,c∈NS):AR g [.tx t] 0:=by
 have ne:t≠[]:=fun z=>by rw[z] at h1;cases h1
 have e:flatP [.tx t]=t:=q1r _;refine⟨GP.nil.snoc (qs:=[]) ⟨ne,h2⟩ (fun x y _ z=>by cases z) (fun z=>by cases z) ?_,by simp,fun q hq=>?_,?_,by rw[e];lia⟩
 ·show 0+t.length<=56;lia
 ·rw[Ar.mp hq];exact⟨rfl,rfl,fun k hk=>by cases hk⟩
 ·show t.length+0<=1+0;lia
theorem MkOk.tx{g:Nat}{t:List Nat}(h1:t.length=1)(h2:∀c∈t,c∈NS):MkOk g (.tx t):=⟨⟨(fun z=>by rw[z] at h1;cases h1),h2⟩,rfl,rfl,(fun k hk=>by cases hk),by show t.length<=13;lia,by show t.length<=5;lia⟩
structure CallsAR (P:Program) (w:World) (K:Ah) (mg:Str->Option Value) (base:Heap):Prop where
 draw:Cal P w K mg base "_law_draw" 1 ["_law_feed", "_law_many"] spDraw
 text:Cal P w K mg base "_law_text" 2 ["_law_feed", "_law_signs", "_law_size"] spText
def spAnyR(K:Ah):Sp:=fun vs H Q _=>∃a b,vs=[.ref a]/\FeedAt H a b/\∀R (r:RD) H',H R=none->Fd a b H H'->RuleAt K H' R r.kd r.l r.qs (r.st:Int)->ROk r->Q (.ref R) H'
def gapP(k:Nat):Nat->Pc
 |0=>.gap k
 |1=>.great k
 |2=>.small k
 |_=>.nou k 3
def gapS:Nat->Str
 |0=>Ac ""
 |1=>Ac "u"
 |2=>Ac "l"
 |_=>Ac "z3"
theorem gap_wr{k j:Nat}(hk:k<10)(hj:j<4):Ac "{" ++ mk (dg k)++gapS j++Ac "}" = mk (gapP k j).wr:=by
 rw[q2k hk];apply ext;have e1:tl (Ac "{")=[123]:=by decide +kernel
 have e2:tl (Ac "}")=[125]:=by decide +kernel
 rw[q4m,q4m,q4m,e1,e2,q0y [48+k],q0y (gapP k j).wr];match j,hj with
 |0,_=>rw[show tl (gapS 0)=[] from by decide +kernel];rfl
 |1,_=>rw[show tl (gapS 1)=[117] from by decide +kernel];rfl
 |2,_=>rw[show tl (gapS 2)=[108] from by decide +kernel];rfl
 |3,_=>rw[show tl (gapS 3)=[122,51] from by decide +kernel];rfl
theorem gap_ok{g k j:Nat}(h1:1<=k)(h2:k<=g)(h9:g<=9)(hj:j<4):MkOk g (gapP k j):=by
 have hk:1<=k/\k<=9:=⟨h1,by lia⟩
 have gp:∀k',some k=some k'->1<=k'/\k'<=g:=fun k' e=>by cases e;exact⟨h1,h2⟩
 match j,hj with
 |0,_=>exact⟨hk,rfl,rfl,gp,Aj _,by show 3<=5;decide⟩
 |1,_=>exact⟨hk,rfl,rfl,gp,Aj _,by show 4<=5;decide⟩
 |2,_=>exact⟨hk,rfl,rfl,gp,Aj _,by show 4<=5;decide⟩
 |3,_=>exact⟨⟨hk,by decide,by decide⟩,rfl,rfl,gp,Aj _,by show 5<=5;decide⟩
theorem x5p{j:Nat}(hj:j<4):atI [V.str (Ac ""),.str (Ac "u"),.str (Ac "l"),.str (Ac "z3")] (j:Int)=some (.str (gapS j)):=by
 match j,hj with
 |0,_=>rfl
 |1,_=>rfl
 |2,_=>rfl
 |3,_=>rfl
theorem x1x(j:Nat):(gapS j).length<=2:=by
 match j with
 |0=>decide +kernel
 |1=>decide +kernel
 |2=>decide +kernel
 |j+3=>show(Ac "z3").length<=2;decide +kernel
theorem kd_at{r:Int}(h0:0<=r)(h3:r<3):∃kd,atI [V.str (Ac "slip"),.str (Ac "drawer"),.str (Ac "all")] r=some (.str kd)/\inV (.str kd) kinds3=true:=by
 have:r=0\/r=1\/r=2:=by lia
 rcases this with rfl|rfl|rfl
 ·exact⟨_,rfl,by decide +kernel⟩
 ·exact⟨_,rfl,by decide +kernel⟩
 ·exact⟨_,rfl,by decide +kernel⟩
theorem z1p{l:List Nat}{c:Nat}:((l++[c]).filter fun c=>decide (c∈GS)).length=(l.filter fun c=>decide (c∈GS)).length+(if c∈GS then 1 else 0):=by
 rw[Kp,Ai];by_cases h:c∈GS
 ·rw[if_pos h,z3j h];rfl
 ·rw[if_neg h,z3k h];rfl
theorem no_gap:∀c∈tl (Ac "aAbB-1"),¬c∈GS/\c∈NS:=by decide +kernel
abbrev q4j:Stmt:=top 74
theorem sc_any_rule:FnScope ["_law_feed", "_law_pattern", "_law_gaps", "_law_k", "_law_template", "_law_mark"] ["_law_feed"] (defScope q4j):=by trivial
set_option maxHeartbeats 40000000 in
theorem z2w(D:Df K mg "_law_any_rule" q4j ["_law_feed"])(T:Txt mg)(C:CallsAR P w K mg base):Cal P w K mg base "_law_any_rule" 3 ["_law_feed"] (spAnyR K):=by
 refine D.cal sc_any_rule (fun vs H Q E h=>?_) (fun f cdv A outer s H vs Q E hr h=>?_)
 ·obtain⟨a,b,rfl,_⟩:=h;rfl
 ·obtain⟨a,b,rfl,F,k⟩:=h;refine⟨_,(q0b (q0l (i:=1) sc_any_rule.nd rfl (by trivial) q0i) (q0b (q0l (i:=2) sc_any_rule.nd rfl (by trivial) q0g) (q0b (q1p Bt rfl (q1v rfl T.b_range (q0a (q0s q0m q0g (pe_c C.draw hr (q0a (pv 0) (q0a q0g q0d)))) q0d)) (q0o (i:=3) sc_any_rule.nd rfl (by trivial)) (q0e (q0t (q0h q7w (pe_c C.draw hr (q0a (pv 0) (q0a q0g q0d))) q0g (nomark _)) (q0b (q0l (i:=1) sc_any_rule.nd rfl (by trivial) (q0s q0m (pv 1) (q0v (ix_k K rfl) q0i (pe_c C.draw hr (q0a (pv 0) (q0a q0g q0d))) (fun _ _=>rfl)))) (q0e (q0l (i:=2) sc_any_rule.nd rfl (by trivial) (q0s q0m (pv 2) q0g)))) (q0e (q0l (i:=1) sc_any_rule.nd rfl (by trivial) (q0s q0m (pv 1) (pe_c C.text hr (q0a (pv 0) (q0a q0i (q0a q0g q0d)))))))))) (q0b (q0l (i:=4) sc_any_rule.nd rfl (by trivial) (pe_c C.text hr (q0a (pv 0) (q0a q0i (q0a q0g q0d))))) (q0b (q1p Bt rfl (q1v rfl T.b_range (q0a (q0s q0m q0g (pe_c C.draw hr (q0a (pv 0) (q0a q0g q0d)))) q0d)) (q0o (i:=3) sc_any_rule.nd rfl (by trivial)) (q0b (q0l (i:=5) sc_any_rule.nd rfl (by trivial) (pe_c C.text hr (q0a (pv 0) (q0a q0i (q0a q0g q0d))))) (q3d (q0t (pt_j (@PW.pt _ _ _ (q4k (q0h q7w (pv 2) q0g (nomark _)) (q2q (q0h q7w (pe_c C.draw hr (q0a (pv 0) (q0a q0g q0d))) q0g (nomark _)))))) (q0e (q0l (i:=5) sc_any_rule.nd rfl (by trivial) (q0s q0m (q0s q0m (q0s q0m q0i (q1f q6i (by rfl) T.b_str (by decide +kernel) (q0a (q0s q0m q0g (pe_c C.draw hr (q0a (pv 0) (q0a (pv 2) q0d)))) q0d))) (q0v (ix_k K rfl) (q1s (q0a q0i (q0a q0i (q0a q0i (q0a q0i q0d))))) (pe_c C.draw hr (q0a (pv 0) (q0a q0g q0d))) (fun _ _=>rfl))) q0i))) q0j) (q3d (q0t (q0h (eq_k K rfl hr) (pe_c C.draw hr (q0a (pv 0) (q0a q0g q0d))) q0g (nomark _)) (q0e (q0l (i:=5) sc_any_rule.nd rfl (by trivial) q0i)) q0j) (q0e (q0l (i:=4) sc_any_rule.nd rfl (by trivial) (q0s q0m (pv 4) (pv 5)))))))) (q0e (q0k (q0u (q0a (q0v (ix_k K rfl) (q1s (q0a q0i (q0a q0i (q0a q0i q0d)))) (pe_c C.draw hr (q0a (pv 0) (q0a q0g q0d))) (fun _ _=>rfl)) (q0a (pv 1) (q0a (pv 4) (q0a (pe_c C.draw hr (q0a (pv 0) (q0a q0g q0d))) q0d)))))))))))),?_⟩;have e0:Ac "" = mk []:=by decide +kernel
  refine⟨_,rfl,a,b,4,rfl,F,by decide,by decide,fun n H1 n0 n1 fd1=>.inl ⟨_,_,rfl,rfl,_,rfl,by lia,by lia,?_⟩⟩;refine q2d (fun i σ' H'=>∃l x3,σ'=[some (.ref a),some (.str (mk l)),some (.int ((l.filter fun c=>decide (c∈GS)).length:Nat)),x3,none,none]/\Fd a b H H'/\l.length=i/\∀c∈l,c∈GS\/c∈NS) ⟨[],none,by rw[<- e0];rfl,fd1,rfl,fun _ h=>nomatch h⟩ ?_ ?_
  ·rintro i σ' H' hi ⟨l,x3,rfl,fd,hl,hc⟩;have hi4:i<4:=by lia
   refine⟨_,rfl,a,b,3,rfl,fd.feed,by decide,by decide,fun r H2 r0 r3 fd2=>⟨_,_,rfl,rfl,_,rfl,ite2 (fun z=>?_) (fun z=>?_)⟩⟩
   ·refine⟨_,rfl,_,rfl,a,b,5,rfl,(fd.trans fd2).feed,by decide,by decide,fun r' H3 q0 q5 fd3=>?_⟩;have e5:(tl (Ac "?**\x40#")).length=5:=by decide +kernel
    obtain⟨c,hc1,hc2⟩:=z6t (xs:=tl (Ac "?**\x40#")) q0 (by rw[e5];exact q5);have hcG:c∈GS:=(by decide +kernel:∀c∈tl (Ac "?**\x40#"),c∈GS) c (Ay hc1);refine .inr (.inr ⟨_,r',c,rfl,rfl,by decide +kernel,hc2,.inr (.inl ⟨_,_,rfl,rfl,TX.small (by rw[q0r,q0r];show l.length+1<=_;lia),?_⟩)⟩);rw[q5n];refine⟨_,rfl,.inl ⟨_,_,rfl,rfl,l++[c],some (.int (0+(i:Int))),?_,(fd.trans fd2).trans fd3,by rw[Ai,hl];rfl,fun x hx=>?_⟩⟩
    ·rw[z1p,if_pos hcG];rfl
    ·rcases Au.mp hx with y|y
     ·exact hc x y
     ·rw[Ar.mp y];exact .inl hcG
   ·refine⟨_,rfl,_,rfl,a,b,_,1,rfl,(fd.trans fd2).feed,by decide +kernel,by decide +kernel,by decide,by decide,fun t H3 ht htc fd3=>.inr (.inl ⟨_,_,rfl,rfl,TX.small (by rw[q0r,q0r];have:t.length=1:=ht;lia),?_⟩)⟩;rw[q5n];have ht:t.length=1:=ht;obtain⟨c,rfl⟩:∃c,t=[c]:=by
     cases t with
     |nil=>cases ht
     |cons c r=>cases r with
      |nil=>exact⟨c,rfl⟩
      |cons _ _=>cases ht
    have hcn:=no_gap c (htc c As);refine⟨l++[c],some (.int (0+(i:Int))),?_,(fd.trans fd2).trans fd3,by rw[Ai,hl];rfl,fun x hx=>?_⟩
    ·rw[z1p,if_neg hcn.1];rfl
    ·rcases Au.mp hx with y|y
     ·exact hc x y
     ·rw[Ar.mp y];exact .inr hcn.2
  rintro σ' H2 ⟨l,x3,rfl,fd2,hl,hc⟩;have hg9:(l.filter fun c=>decide (c∈GS)).length<=4:=Bb (Ru _ _) (by lia);have good:Good l:=⟨fun z=>by rw[z] at hl;simp at hl;lia,hc,by lia,by lia⟩
  have egs:(gsOf (parse [] l)).length=(l.filter fun c=>decide (c∈GS)).length:=congrArg List.length (q9g l []);generalize hgg:(l.filter fun c=>decide (c∈GS)).length=g at hg9 egs;refine⟨_,rfl,a,b,_,1,rfl,fd2.feed,by decide +kernel,by decide +kernel,by decide,by decide,fun t H3 ht htc fd3=>?_⟩;have ar0:AR g [.tx t] 0:=AR.one ht fun c hc=>(by decide +kernel:∀c∈tl (Ac "abA1"),c∈NS) c (htc c hc);refine⟨_,rfl,a,b,3,rfl,(fd2.trans fd3).feed,by decide,by decide,fun n' H4 m0 m3 fd4=>.inl ⟨_,_,rfl,rfl,_,rfl,by lia,by lia,?_⟩⟩;refine q2d (fun i σ' H'=>∃qs x3 x5,σ'=[some (.ref a),some (.str (mk l)),some (.int (g:Nat)),x3,some (.str (mk (flatP qs))),x5]/\Fd a b H H'/\AR g qs i) ⟨[.tx t],x3,none,by rw[q1r];rfl,(fd2.trans fd3).trans fd4,ar0⟩ ?_ ?_
  ·rintro i σ' H' hi ⟨qs,x3',x5,rfl,fd,ar⟩;have hi3:i<=3:=by lia
   refine⟨_,rfl,a,b,_,1,rfl,fd.feed,by decide +kernel,by decide +kernel,by decide,by decide,fun t1 H5 ht1 ht1c fd5=>?_⟩;have mk1:MkOk g (.tx t1):=MkOk.tx ht1 fun c hc=>(by decide +kernel:∀c∈tl (Ac "xB-"),c∈NS) c (ht1c c hc);have fdA:=fd.trans fd5;refine⟨fun σ2 H6=>∃p,σ2=[some (.ref a),some (.str (mk l)),some (.int (g:Nat)),some (.int (0+(i:Int))),some (.str (mk (flatP qs))),some (.str (mk p.wr))]/\Fd a b H H6/\MkOk g p,?_,?_⟩
   ·rintro σ2 H6 ⟨p,rfl,fd6,mp⟩;refine⟨fun σ2 H7=>∃p,σ2=[some (.ref a),some (.str (mk l)),some (.int (g:Nat)),some (.int (0+(i:Int))),some (.str (mk (flatP qs))),some (.str (mk p.wr))]/\Fd a b H H7/\MkOk g p,?_,?_⟩
    ·rintro σ2 H7 ⟨p,rfl,fd7,mp⟩;obtain⟨qs',ar',ef⟩:=ar.add mp hi3;have h1:=ar.fl;have h2:=mp.w;refine⟨_,rfl,_,rfl,.inr (.inl ⟨_,_,rfl,rfl,TX.small (by rw[q0r,q0r];lia),?_⟩)⟩;rw[q5n,<- ef];exact⟨qs',_,_,rfl,fd7,ar'⟩
    ·refine⟨_,rfl,a,b,5,rfl,fd6.feed,by decide,by decide,fun r H7 r0 r5 fd7=>.inl ⟨rfl,_,rfl,ite2 (fun z=>?_) (fun z=>?_)⟩⟩
     ·have en:Ac "{n}" = mk (Pc.cnt 1).wr:=by decide +kernel
      rw[en];exact⟨.cnt 1,rfl,fd6.trans fd7,⟨by decide,by decide⟩,rfl,rfl,(fun k hk=>by cases hk),Aj _,by decide⟩
     ·exact⟨p,rfl,fd6.trans fd7,mp⟩
   ·refine⟨fun bb H6=>(bb=true->0<g)/\Fd a b H H6,?_,?_⟩
    ·rintro bb H6 ⟨hb,fd6⟩;refine ite2 (fun z=>?_) (fun z=>⟨.tx t1,rfl,fd6,mk1⟩);have hg0:=hb z;refine⟨_,rfl,_,rfl,a,b,(g:Nat),rfl,fd6.feed,by lia,by lia,fun r H7 r0 rg fd7=>.inl ⟨_,_,rfl,rfl,1+r.toNat,by rw[show(1:Int)+r=((1+r.toNat:Nat):Int) by lia],by lia,?_⟩⟩;have fdB:=fd6.trans fd7;have hk1:1+r.toNat<=g:=by lia
     generalize hkk:1+r.toNat=kk at hk1;have hk0:1<=kk:=by lia
     have ldg:(dg kk).length=1:=by rw[q2k (by lia)];rfl
     have l3:(mk (dg kk)).length=1:=by rw[q0r];exact ldg
     have l1:(Ac "{").length=1:=by decide +kernel
     have l2:(Ac "}").length=1:=by decide +kernel
     rw[x4f];refine .inr (.inl ⟨_,_,rfl,rfl,TX.small (by lia),?_⟩);refine⟨by show 4<=sizeLine;decide,fun Lh hLh=>?_⟩;have fdN:=fdB.new (o:=.lst [V.str (Ac ""),.str (Ac "u"),.str (Ac "l"),.str (Ac "z3")]) hLh;have hLa:Lh≠a:=fun z=>fdB.feed.na hLh z.symm;refine⟨_,rfl,a,b,4,rfl,fdN.feed,by decide,by decide,fun j H8 j0 j4 fd8=>?_⟩;have ej:j=((j.toNat:Nat):Int):=by lia
     have hj:j.toNat<4:=by lia
     generalize j.toNat=jj at ej hj;subst ej;have lj:=x1x jj;refine .inl ⟨Lh,_,_,_,rfl,rfl,SqL.of (fd8.at q0c hLa),x5p hj,.inr (.inl ⟨_,_,rfl,rfl,TX.small (by rw[app_len];lia),.inr (.inl ⟨_,_,rfl,rfl,TX.small (by rw[app_len,app_len];lia),?_⟩)⟩)⟩;rw[gap_wr (by lia) hj];exact⟨gapP kk jj,rfl,fdN.trans fd8,gap_ok hk0 hk1 (by lia) hj⟩
    ·refine⟨_,rfl,_,_,rfl,rfl,_,rfl,iteB (fun z=>?_) (fun z=>⟨(fun e=>by cases e),fdA⟩)⟩;have hg0:(0:Int)<(g:Nat):=of_decide_eq_true z;exact⟨_,rfl,a,b,4,rfl,fdA.feed,by decide,by decide,fun r H6 r0 r4 fd6=>⟨_,_,rfl,rfl,_,rfl,fun _=>by lia,fdA.trans fd6⟩⟩
  ·rintro σ' H5 ⟨qs,x3',x5,rfl,fd5,ar⟩;refine⟨by show 3<=sizeLine;decide,fun Lk hLk=>?_⟩;have fdN:=fd5.new (o:=.lst [V.str (Ac "slip"),.str (Ac "drawer"),.str (Ac "all")]) hLk;have hLa:Lk≠a:=fun z=>fd5.feed.na hLk z.symm;refine⟨_,rfl,a,b,3,rfl,fdN.feed,by decide,by decide,fun r H6 r0 r3 fd6=>?_⟩;obtain⟨kd,hkd,hin⟩:=kd_at r0 r3;refine .inl ⟨Lk,_,_,_,rfl,rfl,SqL.of (fd6.at q0c hLa),hkd,_,rfl,_,rfl,_,rfl,a,b,12,rfl,(fdN.trans fd6).feed,by decide,by decide,fun st H7 s0 s1 fd7=>⟨by show 4<=sizeLine;decide,fun R hR=>?_⟩⟩;have fdE:=(fdN.trans fd6).trans fd7;have est:st=((st.toNat:Nat):Int):=by lia
   have hsz:=ar.sz;have hgs:=ar.gp.sz;refine k R ⟨kd,l,qs,st.toNat⟩ _ (fdE.free hR) (fdE.new hR) ⟨?_,hin,good,⟨ar.ne,ar.gp.ok,ar.gp.tt,ar.gp.ii,fun q hq z=>?_,by show(flatP qs).length<=100;lia⟩,by lia,by show((st.toNat:Nat):Int)<=1000000000;lia,fun q hq=>⟨fun k' hk'=>?_,fun k' m z=>?_,fun z=>?_⟩⟩ ⟨by show st.toNat<=100;lia,fun q hq=>(ar.all q hq).1,fun q hq=>(ar.all q hq).2.1,ar.gp.ok,by show wsz qs<=60;lia⟩
   ·show upd H7 R _ R=some (.tup [.str kd,.str (mk l),.str (mk (flatP qs)),.int ((st.toNat:Nat):Int)]);rw[<- est];exact q0c
   ·have:=(ar.all q (List.mem_of_getLast? hq)).1;rw[z] at this;cases this
   ·rw[egs];exact(ar.all q hq).2.2 k' hk'
   ·have:=(ar.all q hq).2.1;rw[z] at this;cases this
   ·have:=(ar.all q hq).1;rw[z] at this;cases this
end
end K
set_option maxHeartbeats 4000000
namespace K
open PySem L2 TX SB HM
section
variable{P:Program}{w:World}{K:Ah}{mg:Str->Option Value}{base:Heap}
theorem in_for(kd:Str)(m:Option Int):inV (.str kd) [.str (kdM m),.str (Ac "all")]=forB kd m:=by
 have c:∀a b:Str,(a==b)=decide (V.str b=V.str a):=fun a b=>by rw[<- L2.dec_str];exact decide_eq_decide.mpr eq_comm
 show((kdM m==kd)||((Ac "all" == kd)||false))=_;unfold forB;rw[c,c,Ss,Bool.or_comm]
structure CallsOP (P:Program) (w:World) (K:Ah) (mg:Str->Option Value) (base:Heap):Prop where
 tells:Cal P w K mg base "tells" 8 ["rule", "name", "count"] (spTells K)
def spOneP39(P:Program)(w:World)(K:Ah):Sp:=fun vs H Q _=>∃Z L p d zs bl q m rs f b,vs=[.ref Z,.ref L,.ref p,.ref d]/\RL H Z zs/\Hl bl (zs.map (·.2))/\zs.length<=60/\H p=some (.tup (vP q))/\okP q/\(q,m)∈zs.map (·.2)/\RuL K H L rs/\rs.length<=1000/\Cnt (pkB P w) H d f b/\b<=1000 /\
 (pick (f q.dropLast) (q.getLastD []) m rs 0=none->∀H',Same H H'->Q .non H') /\
 ∀j ts,pick (f q.dropLast) (q.getLastD []) m rs 0=some (j,ts)->∀T H',H T=none->Kd d H H'->H' T=some (.tup (vP ts))->Cnt (pkB P w) H' d (bump f q.dropLast j) (b+1)->Q (.ref T) H'
abbrev q3q:Stmt:=top 75
theorem sc_one_place:FnScope ["_law_rows_here", "_law_rules", "_law_thing", "_law_counted", "_law_kind", "_law_number", "_law_rule", "_law_many", "_law_texts"] ["_law_rows_here", "_law_rules", "_law_thing", "_law_counted"] (defScope q3q):=by trivial
set_option maxHeartbeats 40000000 in
theorem z1q(D:Df K mg "_law_one_place" q3q ["_law_rows_here", "_law_rules", "_law_thing", "_law_counted"])(T:Txt mg)(C:CallsOP P w K mg base):Cal P w K mg base "_law_one_place" 9 ["_law_rows_here", "_law_rules", "_law_thing", "_law_counted"] (spOneP39 P w K):=by
 refine D.cal sc_one_place (fun vs H Q E h=>?_) (fun f cdv A outer s H vs Q E hr h=>?_)
 ·obtain⟨Z,L,p,d,zs,bl,q,m,rs,f,b,rfl,_⟩:=h;rfl
 ·obtain⟨Z,L,p,d,zs,bl,q,m,rs,g,b,rfl,rl,hl,few,hp,okq,hqm,ru,rfew,ct,hb,kN,kS⟩:=h;refine⟨_,(q0b (q0l (i:=4) sc_one_place.nd rfl (by trivial) (pe_j (q5k (q2c (q7c (z2d (q6w hr) (q1f (q7s hr) (by rfl) T.b_dict (by decide +kernel) (q0a (pv 0) q0d)) (pv 2) (fun _ _=>rfl)))) q0i q0i))) (q0b (q1p Bt rfl (q1v rfl T.b_range (q0a (q0p (q1z K rfl) (by rfl) T.b_len Br (q0a (pv 1) q0d)) q0d)) (q0o (i:=5) sc_one_place.nd rfl (by trivial)) (q0b (q0l (i:=6) sc_one_place.nd rfl (by trivial) (q0v (ix_k K rfl) (pv 1) (pv 5) (fun _ _=>rfl))) (q0e (q0t (q0h (in_k K rfl) (q0v (ix_k K rfl) (pv 6) q0g (fun _ _=>rfl)) (q0u (q0a (pv 4) (q0a q0i q0d))) (by with_unfolding_all rfl)) (q0b (q0l (i:=7) sc_one_place.nd rfl (by trivial) (z2j (pkB P w) rfl rfl (q6k hr) (pv 3) (q0u (q0a (pv 5) (q0a (q1c sl_P (pv 2) q2e (q1b (q3v q1y q0g))) q0d))) q0g ⟨rfl,rfl,rfl,rfl⟩)) (q0b (q0l (i:=8) sc_one_place.nd rfl (by trivial) (pe_c C.tells hr (q0a (pv 6) (q0a (q0v (ix_k K rfl) (pv 2) (q3v q1y q0g) (fun _ _=>rfl)) (q0a (q0s q0m (q0v (ix_k K rfl) (pv 6) q0g (fun _ _=>rfl)) (pv 7)) q0d))))) (q0e (q0t (q2c (q4r (pv 8))) (q0b (z8b (pkB P w) rfl rfl (q6k hr) (pv 3) (q0u (q0a (pv 5) (q0a (q1c sl_P (pv 2) q2e (q1b (q3v q1y q0g))) q0d))) (q0s q0m (pv 7) q0g) rfl) (q0e (q0k (pv 8)))) q0j)))) q0j)))) (q0e (q0k q7b)))),?_⟩;obtain⟨Rs,r1,r2,r3⟩:=ru.ex;obtain⟨ks,k1,k2,k3⟩:=ct.ex;have okn:=q4g okq;refine⟨fun v H1=>v=.str (kdM m)/\Same H H1,?_,?_⟩;rotate_left
  ·refine⟨_,rfl,Z,zs.map (·.1),zs.map (fun z=>rR z.2),rfl,by rw[Ck];exact rl.at_,x2u rl.pr,by rw[Ag];lia,fun D0 hD0=>?_⟩;rw[z1l hl];have s0:=(Same.refl H).new (o:=dR ((zs.map (·.2)).map rR)) hD0;refine⟨_,rfl,D0,mV m,rfl,?_,_,rfl,ite2 (fun z=>?_) (fun z=>?_)⟩
   ·rw[<- z4f hl.paths hqm];exact z7y q0c (s0 _ _ hp)
   ·exact⟨by rw[mV_none.mp (of_decide_eq_true z)];rfl,s0⟩
   ·have:m≠none:=fun y=>z (decide_eq_true (mV_none.mpr y));exact⟨by unfold kdM;rw[if_neg this],s0⟩
  rintro v H0 ⟨rfl,s0⟩;have hRl:(Rs.map V.ref).length=rs.length:=by rw[Ag];exact r2
  refine⟨_,rfl,_,_,rfl,.inl ⟨_,SqL.of (s0 _ _ r1),rfl⟩,_,rfl,by rw[hRl];lia,by rw[hRl];lia,?_⟩;refine q2d (fun i σ' H'=>∃x5 x6 x7 x8,σ'=[some (.ref Z),some (.ref L),some (.ref p),some (.ref d),some (.str (kdM m)),x5,x6,x7,x8]/\Same H H'/\pick (g q.dropLast) (q.getLastD []) m rs 0=pick (g q.dropLast) (q.getLastD []) m (rs.drop i) i/\i<=rs.length) ⟨none,none,none,none,rfl,s0,rfl,Be _⟩ ?_ ?_
  ·rintro i σ' H' hi ⟨x5,x6,x7,x8,rfl,sm,hpk,hile⟩;have hi':i<rs.length:=by lia
   have hr0:rs[i]?=some rs[i]:=Bl hi';generalize rs[i]=r at hr0;have hR:Rs[i]?=some (Rs[i]'(by lia)):=Bl (by lia);generalize Rs[i]'(by lia)=R at hR;have okr:=ru.ok r (Ay hr0);have ra:=r3 i R r hR hr0;rw[z1n hr0] at hpk;rw[Int.zero_add];have ra1:=ra.same sm;refine⟨_,rfl,_,rfl,.inl ⟨L,_,_,_,rfl,rfl,SqL.of (sm _ _ r1),q1m (by rw[Bi,hR];rfl),?_⟩⟩;refine⟨_,rfl,.inr (.inl ⟨R,_,0,.str r.kd,rfl,rfl,SqT.of ra1.at_,q1m (j:=0) rfl,_,rfl,by show 2<=sizeLine;decide,fun T2 hT2=>?_⟩)⟩;have s2:=sm.new (o:=.tup [.str (kdM m),.str (Ac "all")]) hT2;refine .inr ⟨T2,_,rfl,.inr (SqT.of q0c),rfl,rfl,_,rfl,?_⟩;generalize upd H' T2 (.tup [.str (kdM m),.str (Ac "all")])=H2 at s2;show if inV (.str r.kd) [.str (kdM m),.str (Ac "all")]=true then _ else _
   rw[in_for];have ra2:=ra.same s2;cases hf:forB r.kd m with
   |false =>
    rw[hf] at hpk;exact iteF ⟨_,_,_,_,rfl,s2,hpk,hi'⟩
   |true =>
    rw[hf,if_pos rfl] at hpk;refine iteT ?_;have hcn:=ct.le q.dropLast i;have hst:=okr.st;have hv:=k3 q.dropLast i;refine⟨_,rfl,d,ks,rfl,k1.same s2,_,rfl,_,rfl,_,rfl,_,rfl,p,_,rfl,s2 _ _ hp,fun t1 H3 s3 h3=>⟨by show 2<=sizeLine;decide,fun T6 hT6=>?_⟩⟩;rw[(q2l okq.ne).1] at h3;have s4:=(s2.trans s3).new (o:=.tup [.int (i:Nat),.ref t1]) hT6;have pk4:PrKR (upd H3 T6 (.tup [.int (i:Nat),.ref t1])) (kP q.dropLast,Sum.inl ((i:Nat):Int)) T6:=⟨t1,q0c,by rw[q6f];exact((Same.refl H3).new hT6) _ _ h3⟩
    generalize upd H3 T6 (.tup [.int (i:Nat),.ref t1])=H4 at s4 pk4;have ra4:=ra.same s4;refine⟨T6,(kP q.dropLast,Sum.inl ((i:Nat):Int)),0,rfl,rfl,k1.same s4,pk4,?_⟩;rw[hv];refine⟨_,rfl,_,rfl,_,rfl,.inr (.inl ⟨p,_,-1,_,rfl,rfl,SqT.of (s4 _ _ hp),q4y okq.ne,?_⟩)⟩;refine⟨_,rfl,.inr (.inl ⟨R,_,3,.int (r.st:Int),rfl,rfl,SqT.of ra4.at_,q1m (j:=3) rfl,?_⟩)⟩;refine⟨_,rfl,.inl ⟨_,_,rfl,rfl,R,r.kd,r.l,r.qs,r.st,q.getLastD [],r.st+g q.dropLast i,rfl,ra4,okn.few,fun t ht c hc=>okn.low c (z4c _ _ t ht c hc),by lia,fun hfi H5 s5=>?_,fun hfi T7 H5 hT7 s5 h5=>?_⟩⟩
    ·have et:tellO r (q.getLastD []) (r.st+g q.dropLast i)=none:=by unfold tellO;rw[hfi];rfl
     rw[et] at hpk;exact⟨_,rfl,_,rfl,iteF ⟨_,_,_,_,rfl,s4.trans s5,hpk,hi'⟩⟩
    ·have et:tellO r (q.getLastD []) (r.st+g q.dropLast i)=some (tellT (rd (q.getLastD []) (parse [] r.l) 0) (r.st+g q.dropLast i) r.qs):=by unfold tellO;rw[hfi];rfl
     rw[et] at hpk;have s45:=s4.trans s5;refine⟨_,rfl,_,rfl,iteT ?_⟩;refine⟨_,rfl,.inl ⟨_,_,rfl,rfl,_,rfl,_,rfl,_,rfl,_,rfl,_,rfl,p,_,rfl,s45 _ _ hp,fun t2 H6 s6 h6=>⟨by show 2<=sizeLine;decide,fun T8 hT8=>?_⟩⟩⟩;rw[(q2l okq.ne).1] at h6;have s8':=s6.new (o:=.tup [.int (i:Nat),.ref t2]) hT8;have s8:=s45.trans s8';have pk8:PrKR (upd H6 T8 (.tup [.int (i:Nat),.ref t2])) (kP q.dropLast,Sum.inl ((i:Nat):Int)) T8:=⟨t2,q0c,by rw[q6f];exact((Same.refl H6).new hT8) _ _ h6⟩
     generalize upd H6 T8 (.tup [.int (i:Nat),.ref t2])=H8 at s8 s8' pk8;have dp8:=k1.same s8;refine⟨d,ks,T8,(kP q.dropLast,Sum.inl ((i:Nat):Int)),_,rfl,rfl,rfl,dp8,pk8,TX.small' (by lia),?_⟩;have hTd:T7≠d:=fun z=>by rw[z,(k1.same s4).at_] at hT7;cases hT7
     exact⟨_,rfl,kS _ _ hpk T7 _ (s4.free hT7) ((Kd.of s8).put) (by rw[q0f hTd];exact s8' _ _ h5) (Cnt.put dp8 k2 k3 ct.le pk8 hb rfl)⟩
  ·rintro σ' H' ⟨x5,x6,x7,x8,rfl,sm,hpk,hi⟩;rw[show((((Rs.map V.ref).length:Nat):Int)).toNat=rs.length by lia,Gr] at hpk;exact kN hpk H' sm
end
end K
set_option maxHeartbeats 4000000
namespace K
open PySem L2 TX SB HM
section
variable{P:Program}{w:World}{K:Ah}{mg:Str->Option Value}{base:Heap}
def DueN(H:Hp)(T:Addr):Sum (Pth×Pth) (List Mv)->Prop
 |.inr ms=>∃G ys,H T=some (.tup [.str (Ac "wishes"),.ref G])/\ML H G ys/\ys.map (·.2)=ms
 |.inl x=>∃a b,H T=some (.tup [.str (Ac "no place"),.ref a,.ref b])/\H a=some (.tup (vP x.1))/\H b=some (.tup (vP x.2))
theorem DueN.same{H H':Hp}{T:Addr}{x:Sum (Pth×Pth) (List Mv)}(h:DueN H T x)(s:Same H H'):DueN H' T x:=by
 cases x with
 |inr ms=>obtain⟨G,ys,h1,h2,h3⟩:=h;exact⟨G,ys,s _ _ h1,h2.same s,h3⟩
 |inl x=>obtain⟨a,b,h1,h2,h3⟩:=h;exact⟨a,b,s _ _ h1,s _ _ h2,s _ _ h3⟩
theorem nm_len{t:List Nat}(tn:∀c∈t,c∈NS):nmB [t]=(decide (1<=t.length)&&decide (t.length<=12)):=by
 unfold nmB isName;rw[Su,List.all_nil,Bool.and_true,show(t.all fun c=>decide (c∈NS))=true from Lz.mpr fun c hc=>decide_eq_true (tn c hc),Bool.and_true]
structure CallsDu (P:Program) (w:World) (K:Ah) (mg:Str->Option Value) (base:Heap):Prop where
 one_place:Cal P w K mg base "_law_one_place" 9 ["_law_rows_here", "_law_rules", "_law_thing", "_law_counted"] (spOneP39 P w K)
def spDue39(K:Ah):Sp:=fun vs H Q _=>∃Z L zs bl rs,vs=[.ref Z,.ref L]/\RL H Z zs/\Hl bl (zs.map (·.2))/\zs.length<=30/\RuL K H L rs/\rs.length<=1000 /\
 ∀sr T H',Srt (zs.map (·.2)) sr->Same H H'->DueN H' T (sow rs sr f0 [])->Q (.ref T) H'
abbrev z9h:Stmt:=top 76
theorem sc_due:FnScope ["_law_rows_here", "_law_rules", "_law_counted", "_law_found", "_law_thing", "_law_texts"] ["_law_rows_here", "_law_rules"] (defScope z9h):=by trivial
set_option maxHeartbeats 40000000 in
theorem ok_due(D:Df K mg "_law_due" z9h ["_law_rows_here", "_law_rules"])(T:Txt mg)(C:CallsDu P w K mg base):Cal P w K mg base "_law_due" 10 ["_law_rows_here", "_law_rules"] (spDue39 K):=by
 refine D.cal sc_due (fun vs H Q E h=>?_) (fun f cdv A outer s H vs Q E hr h=>?_)
 ·obtain⟨Z,L,zs,bl,rs,rfl,_⟩:=h;rfl
 ·obtain⟨Z,L,zs,bl,rs,rfl,rl,hl,few,ru,rfew,k⟩:=h;refine⟨_,(q0b (q0l (i:=2) sc_due.nd rfl (by trivial) (z3v (pkB P w) rfl rfl)) (q0b (q0l (i:=3) sc_due.nd rfl (by trivial) (q1s q0d)) (q0b (q1p Bt rfl (@q6x _ _ _ _ K rfl (q0p (z5c hr) (by rfl) T.b_sorted (by decide +kernel) (q0a (q1f (q7s hr) (by rfl) T.b_dict (by decide +kernel) (q0a (pv 0) q0d)) q0d))) (q0o (i:=4) sc_due.nd rfl (by trivial)) (q0b (q0l (i:=5) sc_due.nd rfl (by trivial) (pe_c C.one_place hr (q0a (pv 0) (q0a (pv 1) (q0a (pv 4) (q0a (pv 2) q0d)))))) (q0b (q0t (pt_j (@PW.pt _ _ _ (q4k (q2c (q4r (pv 5))) (q2q (pt_j (@PW.pt _ _ _ (z1t (q0h z4j (q0p (q1z K rfl) (by rfl) T.b_len Br (q0a (q0v (ix_k K rfl) (pv 5) q0g (fun _ _=>rfl)) q0d)) q0g (nomark _)) (q5r (q0h q7w (q0p (q1z K rfl) (by rfl) T.b_len Br (q0a (q0v (ix_k K rfl) (pv 5) q0g (fun _ _=>rfl)) q0d)) q0g (nomark _)))))))))) (q0e (q0k (q0u (q0a q0i (q0a (pv 4) (q0a (pv 5) q0d)))))) q0j) (q0e (q0t (q2c (q4r (pv 5))) (q0e (q0w (@bm_k _ _ _ _ _ _ _ _ _ _ _ _ K rfl Bu Cp Cq q1i (pv 3) (q0a (q0u (q0a (pv 4) (q0a (q0s q8l (q1c sl_P (pv 4) q2e (q1b (q3v q1y q0g))) (pv 5)) q0d))) q0d) (by rfl) (by rfl) (by rfl) (by rfl) (by rfl)))) q0j))))) (q0e (q0k (q0u (q0a q0i (q0a (pv 3) q0d)))))))),?_⟩;intro Dd hDd hsys;have s1:=(Same.refl H).new (o:=PiO (pkB P w) Dd []) hDd;have ct1:Cnt (pkB P w) (upd H Dd (PiO (pkB P w) Dd [])) Dd f0 0:=Cnt.new hsys;generalize upd H Dd (PiO (pkB P w) Dd [])=H1 at s1 ct1;refine⟨by show 0<=sizeLine;decide,fun G hG=>?_⟩;have hG0:=s1.free hG;have s2:=s1.new (o:=.lst []) hG;have ct2:=ct1.same ((Same.refl H1).new (o:=.lst []) hG);have hG2:upd H1 G (.lst []) G=some (.lst []):=q0c;have hGD:G≠Dd:=fun z=>by obtain⟨ks,x,_⟩:=ct1.ex;rw[z,x.at_] at hG;cases hG
  generalize upd H1 G (.lst [])=H2 at s2 ct2 hG2;have rl2:=rl.same s2;refine⟨_,rfl,Z,zs.map (·.1),zs.map (fun z=>rR z.2),rfl,by rw[Ck];exact rl2.at_,x2u rl2.pr,by rw[Ag];lia,fun D0 hD0=>?_⟩;rw[z1l hl];have s3:=s2.new (o:=dR ((zs.map (·.2)).map rR)) hD0;have n3:=(Same.refl H2).new (o:=dR ((zs.map (·.2)).map rR)) hD0;have hD3:upd H2 D0 (dR ((zs.map (·.2)).map rR)) D0=some (dR ((zs.map (·.2)).map rR)):=q0c;generalize upd H2 D0 (dR ((zs.map (·.2)).map rR))=H3 at s3 n3 hD3;refine⟨D0,_,rfl,hD3,by rw[Ag,Ag];lia,fun r hr'=>?_,fun B bs ps hB pm pw pts=>?_⟩
  ·obtain⟨x,hx,rfl⟩:=Ba.mp hr';exact(hl.ok x hx).ne
  rw[Ck] at pm;obtain⟨sr,srp,rfl⟩:=perm_map_inv (g:=fun r:Rw=>r.1) pm rfl;have srt:Srt (zs.map (·.2)) sr:=⟨srp,pw⟩
  have hsl:sr.length<=30:=by have:=srp.length_eq;rw[Ag] at this;lia
  have hbl:bs.length=sr.length:=by have:=Ed pts;rwa [Ag] at this
  have s4:=s3.new (o:=.lst (bs.map V.ref)) hB;have n4:=n3.new (o:=.lst (bs.map V.ref)) hB;have hB4:upd H3 B (.lst (bs.map V.ref)) B=some (.lst (bs.map V.ref)):=q0c;have pt4:∀{i:Nat} {x:Addr},bs[i]?=some x->∃r,sr[i]?=some r/\upd H3 B (.lst (bs.map V.ref)) x=some (.tup (vP r.1)):=fun{i x} hx=>by
   obtain⟨p,h1,h2⟩:=Dj.at' pts hx;rw[Bi] at h1;obtain⟨r,h3,rfl⟩:=Dc.mp h1;exact⟨r,h3,((Same.refl H3).new hB) _ _ h2⟩
  have hGB:G≠B:=fun z=>by rw[<- z,n3 _ _ hG2] at hB;cases hB
  have hBD:B≠Dd:=fun z=>by obtain⟨ks,x,_⟩:=ct2.ex;rw[z,n3 _ _ x.at_] at hB;cases hB
  generalize upd H3 B (.lst (bs.map V.ref))=H4 at s4 n4 hB4 pt4;refine .inl ⟨B,rfl,⟨_,SqL.of hB4⟩,?_⟩;refine q3s (xs:=bs.map V.ref) (fun i σ' H'=>∃x4 x5 ys g,σ'=[some (.ref Z),some (.ref L),some (.ref Dd),some (.ref G),x4,x5]/\Same H H'/\H' B=some (.lst (bs.map V.ref))/\(∀T xs,H4 T=some (.tup xs)->H' T=some (.tup xs))/\ML H' G ys/\Cnt (pkB P w) H' Dd g i/\sow rs sr f0 []=sow rs (sr.drop i) g (ys.map (·.2))/\ys.length<=i/\i<=sr.length) ⟨none,none,[],f0,rfl,s4,hB4,fun _ _ e=>e,ML.nil (n4 _ _ hG2),ct2.same n4,rfl,Be _,Be _⟩ (fun i σ' H' _ ⟨_,_,_,_,_,_,r,_⟩=>SqL.of r) ?_ ?_
  ·rintro i x σ' H' hx ⟨x4,x5,ys,g,rfl,sm5,hB5,tk5,ml5,ct5,hsw,hyl,hi5⟩;rw[Bi] at hx;obtain⟨b,hb,rfl⟩:=Dc.mp hx;obtain⟨r,hr1,b2⟩:=pt4 hb;have hi':=(Aq.mp hr1).1;have hrm:r∈zs.map (·.2):=srp.mem_iff.mp (Ay hr1);have okr:=hl.ok _ hrm;rw[q2j hr1] at hsw;have b5:=tk5 _ _ b2;refine⟨_,rfl,_,rfl,_,rfl,_,rfl,Z,L,b,Dd,zs,bl,r.1,r.2,rs,g,i,rfl,rl.same sm5,hl,by lia,b5,okr,hrm,ru.same sm5,rfew,ct5,by lia,fun hpk H6 s6=>?_,fun j ts hpk X H6 hX k6 hX6 ct6=>?_⟩
   ·refine⟨fun bb H7=>bb=false/\H7=H6,?_,⟨_,rfl,_,rfl,iteB (fun z=>by cases z) (fun _=>⟨rfl,rfl⟩)⟩⟩;rintro bb H7 ⟨rfl,rfl⟩;refine iteF ⟨_,rfl,_,rfl,iteF ⟨_,_,ys,g,rfl,sm5.trans s6,s6 _ _ hB5,fun T xs e=>s6 _ _ (tk5 _ _ e),ml5.same s6,⟨(ct5.same s6).ex.imp fun ks x=>⟨x.1,by lia,x.2.2⟩,fun p j=>Fi (ct5.le p j)⟩,?_,by lia,hi'⟩⟩;rw[hsw,sow,hpk]
   ·have s6:=k6.same sm5 hDd;have tk6':∀T xs,H' T=some (.tup xs)->H6 T=some (.tup xs):=fun T xs e=>k6 _ _ (fun y=>by obtain⟨ks,x,_⟩:=ct5.ex;rw[y,x.at_] at e;cases e) e;have b6:=tk6' _ _ b5;have ml6:ML H6 G ys:=⟨k6 _ _ hGD ml5.at_,fun z hz=>(ml5.pr z hz).keep tk6'⟩
    obtain⟨t,rfl,tl,tn⟩:TsOk ts:=q9e (q4g okr) (fun j=>by have:=ct5.le r.1.dropLast j;lia) ru.ok hpk;have enm:=nm_len tn;have hat:atI (vP [t]) 0=some (.str (mk t)):=rfl;refine⟨fun bb H7=>bb=(!nmB [t])/\H7=H6,?_,?_⟩
    ·rintro bb H7 ⟨rfl,rfl⟩;refine ite2 (fun z=>?_) (fun z=>?_)
     ·have z:nmB [t]=false:=by simpa using z
      refine⟨_,rfl,_,rfl,by show 3<=sizeLine;decide,fun T1 hT1=>?_⟩;have s7:=(Same.refl H7).new (o:=.tup [.str (Ac "no place"),.ref b,.ref X]) hT1;refine k sr T1 _ srt (s6.trans s7) ?_;rw[hsw,sow,hpk];show DueN _ _ (if nmB [t]=true then _ else _);rw[if_neg (by rw[z];decide)];exact⟨b,X,q0c,s7 _ _ b6,s7 _ _ hX6⟩
     ·have z:nmB [t]=true:=by simpa using z
      refine⟨_,rfl,_,rfl,iteT ?_⟩;refine⟨_,rfl,.inl ⟨rfl,⟨_,SqL.of ml6.at_⟩⟩,_,rfl,_,rfl,_,rfl,_,rfl,b,_,rfl,b6,fun t1 H8 s8 h8=>?_⟩;rw[(q2l okr.ne).1] at h8;have hl6:=okr.few;refine⟨_,rfl,t1,X,_,_,rfl,rfl,h8,s8 _ _ hX6,TX.small (by rw[q3n,Hq];show _+1<=_;lia),fun e H9 s9 h9 _=>?_⟩;refine⟨by show 2<=sizeLine;decide,fun T1 hT1=>?_⟩;have s89:=s8.trans s9;have sA:=s89.new (o:=.tup [.ref b,.ref e]) hT1;have mtA:MT (upd H9 T1 (.tup [.ref b,.ref e])) T1 (r.1,r.1.dropLast++[t]):=⟨b,e,q0c,sA _ _ b6,((Same.refl H9).new hT1) _ _ (by rw[h9,<- x3b])⟩
      generalize upd H9 T1 (.tup [.ref b,.ref e])=HA at sA mtA;have mlA:=ml6.same sA;have kB:∀a u,a≠G->HA a=some u->upd HA G (.lst (ys.map (fun z=>V.ref z.1)++[V.ref T1])) a=some u:=fun a u n e=>by rw[q0f n];exact e
      have tB:∀T xs,HA T=some (.tup xs)->upd HA G (.lst (ys.map (fun z=>V.ref z.1)++[V.ref T1])) T=some (.tup xs):=fun T xs e=>kB _ _ (fun y=>by rw[y,mlA.at_] at e;cases e) e;refine⟨G,_,_,rfl,rfl,mlA.at_,TX.small' (by rw[Ag];lia),?_⟩;refine⟨_,_,ys++[(T1,(r.1,r.1.dropLast++[t]))],bump g r.1.dropLast j,rfl,fun a u e=>kB a u (fun y=>by rw[y,hG0] at e;cases e) (sA _ _ (s6 _ _ e)),kB _ _ (Ca hGB) (sA _ _ (k6 _ _ hBD hB5)),fun T xs e=>tB _ _ (sA _ _ (tk6' _ _ (tk5 _ _ e))),⟨by rw[Av];exact q0c,fun z' hz'=>?_⟩,?_,?_,by rw[Ai,Bc];lia,hi'⟩
      ·rcases Au.mp hz' with y|y
       ·exact(mlA.pr _ y).keep tB
       ·rw[Ar.mp y];exact mtA.keep tB
      ·have cA:=ct6.same sA;exact⟨cA.ex.imp fun ks x=>⟨⟨kB _ _ (Ca hGD) x.1.at_,x.1.sys,x.1.len,fun y hy=>(pkB P w).keep tB (x.1.pk y hy)⟩,x.2⟩,cA.le⟩
      ·rw[hsw,sow,hpk];show(if nmB [t]=true then _ else _)=_;rw[if_pos z,Av];rfl
    ·refine⟨_,rfl,_,rfl,iteB (fun _=>?_) (fun z=>by cases z)⟩;refine⟨fun bb H7=>bb=(!nmB [t])/\H7=H6,?_,?_⟩
     ·rintro bb H7 ⟨rfl,rfl⟩;exact⟨rfl,rfl⟩
     ·refine⟨_,rfl,.inr (.inl ⟨X,_,0,_,rfl,rfl,SqT.of hX6,hat,_,_,rfl,⟨TX.small (by rw[q0r];lia),rfl⟩,_,_,rfl,rfl,_,rfl,?_⟩)⟩;rw[q0r];refine iteB (fun z=>?_) (fun z=>?_)
      ·have:=of_decide_eq_true z;refine⟨?_,rfl⟩;rw[enm,decide_eq_false (show ¬1<=t.length by lia)];rfl
      ·have z1:=of_decide_eq_false z;refine⟨_,rfl,.inr (.inl ⟨X,_,0,_,rfl,rfl,SqT.of hX6,hat,_,_,rfl,⟨TX.small (by rw[q0r];lia),rfl⟩,_,_,rfl,rfl,_,rfl,?_,rfl⟩)⟩;rw[q0r,enm,decide_eq_true (show 1<=t.length by lia),Ot,<- decide_not];exact decide_eq_decide.mpr (by lia)
  ·rintro σ' H' ⟨x4,x5,ys,g,rfl,sm5,hB5,tk5,ml5,ct5,hsw,hyl,hi5⟩;rw[Ag,hbl,Gr,sow] at hsw;refine⟨_,rfl,by show 2<=sizeLine;decide,fun T1 hT1=>?_⟩;have s6:=(Same.refl H').new (o:=.tup [.str (Ac "wishes"),.ref G]) hT1;refine k sr T1 _ srt (sm5.trans s6) ?_;rw[hsw];exact⟨G,ys,q0c,ml5.same s6,rfl⟩
end
end K
set_option maxHeartbeats 4000000
namespace K
open PySem L2 TX SB HM
section
variable{P:Program}{w:World}{K:Ah}{mg:Str->Option Value}{base:Heap}
theorem ne_dt{H:Hp}{x y:V}{d:PyData}{Q:VK}(hx:Dt K H x d)(hy:Dt K H y d)(l:d.canLay0=true)(dp:d.depth<=100)(k:Q (.bl false) H):rNeU K x y H Q:=by
 refine .inr ⟨_,_,hx,hy,l,l,by rw[Tw];exact dp,?_⟩;rw[SeqAt.eqv_refl _ l];exact k
def dM(m:Mv):PyData:=.tuple [.tuple (dP m.1),.tuple (dP m.2)]
theorem dt_M{H:Hp}{T:Addr}{m:Mv}(h:MT H T m):Dt K H (.ref T) (dM m):=by
 obtain⟨A,B,h1,h2,h3⟩:=h;exact .tup (SqT.of h1) (.cons (q2t h2) (.cons (q2t h3) .nil))
theorem dts_M{H:Hp}:∀{zs:List Zm},(∀z∈zs,MT H z.1 z.2)->Dts K H (zs.map fun z=>V.ref z.1) ((zs.map (·.2)).map dM)
 |[],_=>.nil
 |z::zs,h=>.cons (dt_M (h z As)) (dts_M fun y hy=>h y (Ao _ hy))
theorem lay_M{m:Mv}(h:Low m.1/\Low m.2):(dM m).canLay0=true:=by
 unfold dM;simp only[Lb,Hj,q5f h.1,q5f h.2,Di]
theorem x3f:∀{ms:List Mv},(∀m∈ms,Low m.1/\Low m.2)->Hj (ms.map dM)=true
 |[],_=>by simp[Hj]
 |m::ms,h=>by
  rw[An];simp only[Hj,lay_M (h m As),x3f fun y hy=>h y (Ao _ hy),Di]
theorem dep_M(m:Mv):(dM m).depth<=50:=by
 have h1:=q2s m.1;have h2:=q2s m.2;unfold dM;simp only[Nd,Fl];lia
theorem x3g:∀ms:List Mv,Fl (ms.map dM)<=50
 |[]=>by simp[Fl]
 |m::ms=>by
  have h1:=dep_M m;have h3:=x3g ms;rw[An];simp only[Fl];lia
theorem z9i{rows:List Rw}(nd:(rows.map (·.1)).Nodup):∀{a b:List Rw},a.map (·.1)=b.map (·.1)->(∀x∈a,x∈rows)->(∀x∈b,x∈rows)->a=b
 |[],[],_,_,_=>rfl
 |[],_::_,h,_,_=>by cases h
 |_::_,[],h,_,_=>by cases h
 |x::a,y::b,h,h1,h2=>by
  rw[An,An] at h;injection h with e1 e2;rw[q3u (f:=fun r:Rw=>r.1) nd (h1 x As) (h2 y As) e1,z9i nd e2 (fun z hz=>h1 z (Ao _ hz)) fun z hz=>h2 z (Ao _ hz)]
theorem Srt.one{bl:Bool}{rows a b:List Rw}(hl:Hl bl rows)(ha:Srt rows a)(hb:Srt rows b):a=b :=
 z9i hl.paths (q6h ((ha.1.trans hb.1.symm).map _) ((ha.1.map _).nodup_iff.mpr hl.paths) ha.2 hb.2) (fun x hx=>ha.1.mem_iff.mp hx) fun x hx=>hb.1.mem_iff.mp hx
theorem x5q{sr:List Rw}(h:∀r∈sr,r.1≠[]):sr.filter (benB [])=sr:=List.filter_eq_self.mpr fun r hr=>by
 unfold benB;rw[decide_eq_false (h r hr)];simp
def LwS:Sum (Pth×Pth) (List Mv)->Prop
 |.inl x=>Low x.1/\Low x.2
 |.inr ms=>∀m∈ms,Low m.1/\Low m.2
theorem TsOk.low{ts:Pth}(h:TsOk ts):Low ts:=fun n hn=>(h.pb.all n hn).2
theorem z2x{rs:List RD}(ok:∀r∈rs,ROk r):∀{R:List Rw} {f:Pth->Nat->Nat} {b:Nat} {ms:List Mv},(∀r∈R,okP r.1)->(∀p j,f p j<=b)->b+R.length<=1000->(∀m∈ms,Low m.1/\Low m.2)->LwS (sow rs R f ms)
 |[],_,_,_,_,_,_,hm=>by rw[sow];exact hm
 |r::R,f,b,ms,ho,hf,hb,hm=>by
  have ho':∀x∈R,okP x.1:=fun x hx=>ho x (Ao _ hx);have okr:=ho r As;rw[Bf] at hb;rw[sow];cases e:pick (f r.1.dropLast) (r.1.getLastD []) r.2 rs 0 with
  |none=>exact z2x ok ho' hf (by lia) hm
  |some x =>
   have tok:=q9e (q4g okr) (fun j=>by have:=hf r.1.dropLast j;lia) ok e;show LwS (if nmB x.2=true then _ else _);split
   ·refine z2x ok (b:=b+1) ho' (fun p j=>?_) (by lia) fun m hm'=>?_
    ·have:=hf p j;unfold bump;split<;>lia
    ·rcases Au.mp hm' with z|z
     ·exact hm m z
     ·rw[Ar.mp z];exact⟨okr.low,fun n hn=>(Au.mp hn).elim (q5o okr.low n) (tok.low n)⟩
   ·exact⟨okr.low,tok.low⟩
def dX:Sum (Pth×Pth) (List Mv)->PyData
 |.inr ms=>.tuple [.str (Ac "wishes"),.list (ms.map dM)]
 |.inl x=>.tuple [.str (Ac "no place"),.tuple (dP x.1),.tuple (dP x.2)]
theorem DueN.dt{H:Hp}{T:Addr}{x:Sum (Pth×Pth) (List Mv)}(h:DueN H T x):Dt K H (.ref T) (dX x):=by
 cases x with
 |inr ms =>
  obtain⟨G,ys,h1,h2,rfl⟩:=h;exact .tup (SqT.of h1) (.cons (.str _) (.cons (.lst (SqL.of h2.at_) (dts_M h2.pr)) .nil))
 |inl x =>
  obtain⟨a,b,h1,h2,h3⟩:=h;exact .tup (SqT.of h1) (.cons (.str _) (.cons (q2t h2) (.cons (q2t h3) .nil)))
theorem lay_X{x:Sum (Pth×Pth) (List Mv)}(h:LwS x):(dX x).canLay0=true/\(dX x).depth<=100:=by
 cases x with
 |inr ms =>
  have e:(PyData.str (Ac "wishes")).canLay0=true:=by decide +kernel
  simp only[Lb] at e;have:=x3g ms;refine⟨?_,?_⟩
  ·simp only[dX,Lb,Hj,e,x3f h,Di]
  ·simp only[dX,Nd,Fl];lia
 |inl x =>
  have e:(PyData.str (Ac "no place")).canLay0=true:=by decide +kernel
  simp only[Lb] at e;have h1:=q2s x.1;have h2:=q2s x.2;refine⟨?_,?_⟩
  ·simp only[dX,Lb,Hj,e,q5f h.1,q5f h.2,Di]
  ·simp only[dX,Nd,Fl];lia
theorem x3h{H:Hp}{A B:Addr}{x:Sum (Pth×Pth) (List Mv)}{Q:VK}(ha:DueN H A x)(hb:DueN H B x)(l:LwS x)(k:Q (.bl false) H):rNeU K (.ref A) (.ref B) H Q:=ne_dt ha.dt hb.dt (lay_X l).1 (lay_X l).2 k
theorem RuleAt.keep{H H':Hp}{R:Addr}{kd:Str}{l:List Nat}{qs:List Pc}{st:Int}(h:RuleAt K H R kd l qs st)(k:∀T xs,H T=some (.tup xs)->H' T=some (.tup xs)):RuleAt K H' R kd l qs st:=⟨k _ _ h.at_,h.kok,h.good,h.wp,h.st0,h.st1,h.ask⟩
structure CallsL (P:Program) (w:World) (K:Ah) (mg:Str->Option Value) (base:Heap) (c Cn:Addr) (bm:List Value):Prop where
 draw:Cal P w K mg base "_law_draw" 1 ["_law_feed", "_law_many"] spDraw
 rows:Cal P w K mg base "_law_rows" 4 ["_law_feed", "_law_blind", "_law_most"] spRows
 any_rule:Cal P w K mg base "_law_any_rule" 3 ["_law_feed"] (spAnyR K)
 k_Hall:KCal P w K mg base c "Hall" 4 ["self", "rows", "blind"] (spInit c)
 wishes_of:CalX P w K mg base "wishes_of" 10 ["hall", "path", "rules"] (spWi K c Cn)
 due:Cal P w K mg base "_law_due" 10 ["_law_rows_here", "_law_rules"] (spDue39 K)
 g_NoPlace:mg "NoPlace" = some (.ref Cn)
 e_NoPlace:ECls K Cn bm
 get1:EGet K Cn "path"
 get2:EGet K Cn "texts"
theorem sub_self{c:Addr}{bm:List Value}(h:ECls K c bm):SubX K (.ref c) c:=⟨c,bm,rfl,h,by rw[Kv];simp⟩
def spLaw(K:Ah):Sp:=fun vs H Q _=>∃(a:Addr) (ns:List Int),vs=[.ref a]/\SqL K H a (ns.map V.int)/\ns.length<=63/\∀H',Q (.bl true) H'
abbrev q3r:Stmt:=top 77
theorem sc_law:FnScope ["_law_script", "_law_feed", "_law_k", "_law_blind", "_law_rows_here", "_law_rules", "_law_found", "e"] ["_law_script"] (defScope q3r):=by trivial
set_option maxHeartbeats 40000000 in
theorem x1y {c Cn : Addr} {bm : List Value} (T : Txt mg) (C : CallsL P w K mg base c Cn bm) (f : Addr) (cdv : Value) (A : Around) (outer : List Env) (s : Af) (H : Hp) (vs : List V) (Q : VK) (E : XK) (hr : Room 10 (A.deeper (PyProof.Rows.envOfC "law" (defScope q3r) s.heap.objs.size f cdv))) (h : spLaw K vs H Q E) :
    ∃ t, PSs (cxOf CX0 P w K mg base ["_law_script", "_law_feed", "_law_k", "_law_blind", "_law_rows_here", "_law_rules", "_law_found", "e"] "law" (defScope q3r) f cdv A outer s H E).nox (defBody q3r) t ∧ t { nx := fun _ H' => Q .non H', rt := Q } (L2.start ["_law_script", "_law_feed", "_law_k", "_law_blind", "_law_rows_here", "_law_rules", "_law_found", "e"] vs) H := by
    obtain ⟨sc, ns, rfl, hS, hns, k⟩ := h;have g_NoPlace := C.g_NoPlace;have e_NoPlace := C.e_NoPlace
    refine ⟨_, (q0b (q0l (i := 1) sc_law.nd rfl (by first | exact Or.inl rfl | exact Or.inr rfl) (q1s (q0a (q1f (list_k K rfl) (by rfl) T.b_list (by decide +kernel) (q0a (pv 0) q0d)) (q0a q0g (q0a q0g q0d))))) (q0b (q1p Bt rfl (q1v rfl T.b_range (q0a (q0p (z6d rfl) (by rfl) T.b_max (by decide +kernel) (q0a q0g (q0a (q0p (q9i rfl) (by rfl) T.b_min (by decide +kernel) (q0a q0g (q0a (q0p (q1z K rfl) (by rfl) T.b_len Br (q0a (pv 0) q0d)) q0d))) q0d))) q0d)) (q0o (i := 2) sc_law.nd rfl (by first | exact Or.inl rfl | exact Or.inr rfl)) (q0b (q0l (i := 3) sc_law.nd rfl (by first | exact Or.inl rfl | exact Or.inr rfl) (q2m (eq_k K rfl hr) (pe_c C.draw hr (q0a (pv 1) (q0a q0g q0d))) q0g (nomark _))) (q0b (q0l (i := 4) sc_law.nd rfl (by first | exact Or.inl rfl | exact Or.inr rfl) (pe_c C.rows hr (q0a (pv 1) (q0a (pv 3) (q0a q0g q0d))))) (q0b (z6n (i := 5) ["_law_j"] [("_law_feed", 1)] sc_law.nd rfl (by first | exact Or.inl rfl | exact Or.inr rfl) rfl (q1v rfl T.b_range (q0a (q0s q0m q0g (pe_c C.draw hr (q0a (pv 1) (q0a q0g q0d)))) q0d)) (fun _ _ _ _ _ => (q0o (i := 0) (show (["_law_j", "_law_feed"] : List Str).Nodup by decide +kernel) rfl (by first | exact Or.inl rfl | exact Or.inr rfl))) (fun _ _ _ _ _ => q8b) (fun _ _ _ _ _ => (pe_c C.any_rule hr (q0a (pv 1) q0d)))) (q0b (q0l (i := 6) sc_law.nd rfl (by first | exact Or.inl rfl | exact Or.inr rfl) (q0u (q0a q0i q0d))) (q0b (ps_try (i := 7) K rfl rfl rfl sc_law.nd rfl rfl rfl g_NoPlace e_NoPlace (fun _ _ => (q0e (q0l (i := 6) sc_law.nd rfl (by first | exact Or.inl rfl | exact Or.inr rfl) (q0u (q0a q0i (q0a (pe_cX C.wishes_of hr AccX.of (q0a (pe_k C.k_Hall hr (q0a (pv 4) (q0a (pv 3) q0d))) (q0a (q0u q0d) (q0a (pv 5) q0d)))) q0d))))))
         (fun _ => (q0e (q0l (i := 6) sc_law.nd rfl (by first | exact Or.inl rfl | exact Or.inr rfl) (q0u (q0a q0i (q0a (x2w K rfl (pv 7)) (q0a (x2w K rfl (pv 7)) q0d)))))))) (q0e (q0t (q0h (ne_k K rfl hr) (pv 6) (pe_c C.due hr (q0a (pv 4) (q0a (pv 5) q0d))) (nomark _)) (q0e (q0k q9h)) q0j)))))))) (q0e (q0k q9h)))), ?_⟩
    refine ⟨_, rfl, sc, _, rfl, .inl hS, fun b hb => ⟨by show 3 ≤ sizeLine; decide, fun a ha => ?_⟩⟩;have nba : b ≠ a := q0n q0c ha;have F : FeedAt (upd (upd H b (.lst (ns.map V.int))) a (.lst [.ref b, .int 0, .int 0])) a b := ⟨⟨0, 0, q0c⟩, ns, by rw [q0f nba]; exact q0c⟩
    have sS : Same H (upd (upd H b (.lst (ns.map V.int))) a (.lst [.ref b, .int 0, .int 0])) := ((Same.refl H).new hb).new ha;generalize hH1 : upd (upd H b _) a _ = H1;rw [hH1] at F sS;refine ⟨_, rfl, _, _, rfl, .inl ⟨_, sS.seq hS, rfl⟩, ?_⟩;refine ⟨_, _, rfl, _, _, rfl, _, rfl, ?_, ?_, q2d (fun i σ' H' => ∃ x2 x3 x4 x5 x6, σ' = [some (.ref sc), some (.ref a), x2, x3, x4, x5, x6, none] ∧ Fd a b H1 H') ⟨none, none, none, none, none, rfl, Fd.refl F⟩ ?_ ?_⟩
    · rw [Ag]; split <;> split <;> lia
    · rw [Ag]; split <;> split <;> lia
    · rintro i σ' Hs hi ⟨x2, x3, x4, x5, x6, rfl, fd⟩;have Fs := fd.feed;refine ⟨_, rfl, a, b, _, rfl, Fs, by decide, by decide, fun r0 H2 r00 r01 fd2 => .inl ⟨rfl, ?_⟩⟩;generalize decide (V.int r0 = V.int 1) = bl;refine ⟨_, rfl, _, rfl, a, b, bl, 10, rfl, fd2.feed, by decide, by decide, fun L zs H3 fd3 hL rl hl len => ?_⟩;have len : zs.length ≤ 10 := len;have fd3' := fd2.trans fd3;have hLs := fd2.free hL;have hLa : L ≠ a := (Fs.na hLs).symm;refine ⟨_, rfl, a, b, 5, rfl, fd3'.feed, by decide, by decide, fun n H4 n0 n1 fd4 => .inl ⟨_, _, rfl, rfl, _, rfl, by lia, by lia, fun M hM => ?_⟩⟩;have fd4' := fd3'.trans fd4;have rl4 := rl.fd fd3'.feed fd4 hLa;have hMs := fd4'.free hM;have hMa : M ≠ a := (Fs.na hMs).symm;have hML : L ≠ M := fun z => by rw [← z, rl4.at_] at hM; cases hM
      refine q6b (fun j ys H' => ∃ Rs rs, ys = Rs.map V.ref ∧ Rs.length = rs.length ∧ rs.length = j ∧ j ≤ 10 ∧ (∀ (i : Nat) (R : Addr) (r : RD), Rs[i]? = some R → rs[i]? = some r → RuleAt K H' R r.kd r.l r.qs (r.st : Int)) ∧ (∀ r ∈ rs, ROk r) ∧ Fd a b Hs H' ∧ RL H' L zs ∧ H' M = some (.lst ys)) ⟨[], [], rfl, rfl, rfl, Be _, (fun i R r h => by cases h), (fun _ h => nomatch h), fd4'.new hM, rl4.same ((Same.refl H4).new hM), q0c⟩ (fun j ys H' ⟨_, _, _, _, _, _, _, _, _, _, h⟩ => h) ?_ ?_
      · rintro j ys H5 hj ⟨Rs, rs, rfl, el, ej, hj10, hru, hok, fd5, rl5, hM5⟩;refine ⟨_, rfl, a, b, rfl, fd5.feed, fun R r H6 hR fd6 ra okr => ?_⟩;have hM6 := fd6.at hM5 hMa;have kt : ∀ T xs, H6 T = some (.tup xs) → upd H6 M (.lst (Rs.map V.ref ++ [.ref R])) T = some (.tup xs) := fun T xs e => by rw [q0f (fun z => by rw [z, hM6] at e; cases e)]; exact e
        have rl6 := rl5.fd fd5.feed fd6 hLa;refine ⟨hM6, TX.small' (by rw [Ag]; lia), Rs ++ [R], rs ++ [r], by rw [Av]; rfl, by rw [Ai, Ai, el]; rfl, by rw [Ai, ej]; rfl, by lia, fun i' R' r' e1 e2 => ?_, fun x hx => ?_, (fd5.trans fd6).put Fs hMs, ⟨by rw [q0f hML]; exact rl6.at_, fun z hz => PR.same (rl6.pr z hz) kt⟩, q0c⟩
        · rcases Qb i' rs.length with z | z
          · rw [Bj (by lia)] at e1;rw [Bj z] at e2;exact ((hru i' R' r' e1 e2).keep (tupFd fd5.feed fd6)).keep kt
          · have z2 := (Aq.mp e2).1;rw [Ai, Bc] at z2;have z3 : i' = rs.length := by lia
            subst z3;rw [Cr (Aj _), Ia] at e2;rw [← el, Cr (Aj _), Ia] at e1;cases e1; cases e2;exact ra.keep kt
        · rcases Au.mp hx with z | z
          · exact hok x z
          · rw [Ar.mp z]; exact okr
      rintro ys H5 ⟨Rs, rs, rfl, el, ej, hj10, hru, hok, fd5, rl5, hM5⟩;have ru5 : RuL K H5 M rs := ⟨⟨Rs, hM5, el, hru⟩, hok⟩
      refine ⟨by show 1 ≤ sizeLine; decide, fun T6 hT6 => ?_⟩;have s6 := (Same.refl H5).new (o := .tup [.str (Ac "other")]) hT6;generalize upd H5 T6 (.tup [.str (Ac "other")]) = H6 at s6;have fd6 := fd5.same s6;have rl6 := rl5.same s6;have ru6 := ru5.same s6;generalize hrows : zs.map (·.2) = rows at hl;have hrl : rows.length = zs.length := by rw [← hrows, Ag]
      have low : ∀ {sr : List Rw}, Srt rows sr → LwS (sow rs sr f0 []) := fun {sr} srt => z2x hok (b := 0) (fun r hr => hl.ok r (srt.1.mem_iff.mp hr)) (fun _ _ => Aj _) (by have := srt.1.length_eq; lia) fun _ h => nomatch h;have ben : ∀ {sr : List Rw}, Srt rows sr → sr.filter (benB []) = sr := fun {sr} srt => x5q fun r hr => (hl.ok r (srt.1.mem_iff.mp hr)).ne;refine ⟨fun ea σ' H' => σ' = [some (V.ref sc), some (.ref a), some (.int (0 + (i : Int))), some (.bl bl), some (.ref L), some (.ref M), some (.ref T6), none] ∧ Same H6 H' ∧ ∃ sr x, Srt rows sr ∧ sow rs (sr.filter (benB [])) f0 [] = .inl x ∧ RfN H' ea Cn x.1 x.2, ?_, ?_⟩
      · rintro ea σ' H7 ⟨rfl, s7, sr, x, srt, hsw, rf⟩;obtain ⟨de, A1, B1, q1, q2, q3, q4⟩ := rf.ex;refine ⟨⟨_, _, q1, sub_self C.e_NoPlace⟩, ?_⟩;refine ⟨_, rfl, ea, Cn, de, _, _, rfl, .inl q1, q2, C.get1, rfl, _, rfl, ea, Cn, de, _, _, rfl, .inl q1, q2, C.get2, rfl, by show 3 ≤ sizeLine; decide, fun T8 hT8 => ?_⟩;have s8 := (Same.refl H7).new (o := .tup [.str (Ac "no place"), .ref A1, .ref B1]) hT8;have d8 : DueN (upd H7 T8 (.tup [.str (Ac "no place"), .ref A1, .ref B1])) T8 (.inl x) := ⟨A1, B1, q0c, s8 _ _ q3, s8 _ _ q4⟩
        generalize upd H7 T8 (.tup [.str (Ac "no place"), .ref A1, .ref B1]) = H8 at s8 d8;have s68 := s7.trans s8;refine ⟨_, rfl, _, rfl, _, rfl, L, M, zs, bl, rs, rfl, rl6.same s68, by rw [hrows]; exact hl, by lia, ru6.same s68, by lia, fun sr' T9 H9 srt' s9 d9 => ?_⟩;rw [hrows] at srt';rw [Srt.one hl srt' srt] at d9;rw [ben srt] at hsw;have lo := low srt;rw [hsw] at d9 lo;exact x3h (d8.same s9) d9 lo ⟨_, rfl, iteF ⟨_, _, _, _, _, rfl, fd.trans ((fd6.same s68).same s9)⟩⟩
      · refine ⟨_, rfl, _, rfl, fun h dx hh hdx n' => ?_⟩;refine ⟨h, dx, L, bl, zs, rfl, q0c, x5n rl6 hh hdx, by rw [hrows]; exact hl, by lia, fun d H7 hd i1 i2 i3 => ⟨rfl, ?_⟩⟩;obtain ⟨s7, _⟩ := z8z hh hdx hd i3;have ha7 : HallAt c H7 h d bl (zs.map (·.2)) := ⟨⟨dx, i1⟩, i2⟩
        rw [hrows] at ha7;clear i1 i2 i3 hd hdx n' hh;refine ⟨by show 0 ≤ sizeLine; decide, fun p hp => ?_⟩;have s8 := s7.new (o := .tup []) hp;have ha8 := ha7.same ((Same.refl H7).new (o := .tup []) hp);have hp8 : upd H7 p (.tup []) p = some (.tup (vP [])) := q0c;generalize upd H7 p (.tup []) = H8 at s8 ha8 hp8;refine ⟨_, rfl, h, d, p, M, bl, rows, [], rs, rfl, ha8, hl, by lia, hp8, (fun _ h => nomatch h), .inl rfl, ru6.same s8, fun sr ms srt hsw G ys H9 s9 mlG eys => ?_, fun sr x srt hsw ea H9 s9 hea rf ea' ez => ?_⟩
        · refine ⟨by show 2 ≤ sizeLine; decide, fun TA hTA => ?_⟩;have sA := (Same.refl H9).new (o := .tup [.str (Ac "wishes"), .ref G]) hTA;have dA : DueN (upd H9 TA (.tup [.str (Ac "wishes"), .ref G])) TA (.inr ms) := ⟨G, ys, q0c, mlG.same sA, eys⟩
          generalize upd H9 TA (.tup [.str (Ac "wishes"), .ref G]) = HA at sA dA;have s6A := (s8.trans s9).trans sA;refine ⟨_, rfl, _, rfl, _, rfl, L, M, zs, bl, rs, rfl, rl6.same s6A, by rw [hrows]; exact hl, by lia, ru6.same s6A, by lia, fun sr' T9 HB srt' sB dB => ?_⟩;rw [hrows] at srt';rw [Srt.one hl srt' srt] at dB;rw [ben srt] at hsw;have lo := low srt;rw [hsw] at dB lo;exact x3h (dA.same sB) dB lo ⟨_, rfl, iteF ⟨_, _, _, _, _, rfl, fd.trans ((fd6.same s6A).same sB)⟩⟩
        · cases ez;exact ⟨rfl, s8.trans s9, sr, x, srt, hsw, rf⟩
    · rintro σ' H' ⟨x2, x3, x4, x5, x6, rfl, fd⟩;exact k H'
end
end K
set_option maxHeartbeats 4000000
namespace K
open PySem L2 TX SB HM
theorem df_mk{K:Ah}{mg:Str->Option Value}{h:Heap}{x:Str}{st:Stmt}{ps:List Str}{f:Addr}{oc:Value}{od an:Option Addr}{osl:Array (Option Value)}{kV doc pm cdv ct:Value}(X:K.In h)(G:h.Ns Cj mg)(a:Hz K Cj x=some (some (.ref f)))(l:K.lookup f=some ⟨oc,od,.func (Hx x x (defArgs st) (defBody st) (defScope st) .none kV doc pm an cdv ct),osl⟩)(c:Kk K cdv x=true)(k:Fh K (.ref f)=true)(hb:∀(kV doc pm:Value) (an:Option Addr) (cdv ct:Value) (us:List Value),us.length=ps.length->bindArgs (Hx x x (defArgs st) (defBody st) (defScope st) .none kV doc pm an cdv ct) ⟨us,[]⟩=pure (ps.zip us)):Df K mg x st ps :=
 ⟨f,_,q5w l c k,Nr X G a,(q5w (st:=st) l c k).binds hb⟩
theorem mf_mk{K:Ah}{C:Addr}{m qual:Str}{st:Stmt}{ps:List Str}{f:Addr}{oc:Value}{od an:Option Addr}{osl:Array (Option Value)}{kV doc pm cdv ct:Value}(a:Bv K (.ref C) m=some (some (.ref f)))(l:K.lookup f=some ⟨oc,od,.func (Hx m qual (defArgs st) (defBody st) (defScope st) .none kV doc pm an cdv ct),osl⟩)(c:Kk K cdv qual=true)(k:Fh K (.ref f)=true)(i:Vx K (.ref f)=true)(hb:∀(kV doc pm:Value) (an:Option Addr) (cdv ct:Value) (us:List Value),us.length=ps.length->bindArgs (Hx m qual (defArgs st) (defBody st) (defScope st) .none kV doc pm an cdv ct) ⟨us,[]⟩=pure (ps.zip us)):Mf K C m qual st ps :=
 ⟨⟨f,_,q5w l c k,⟨a,i,k⟩,(q5w (st:=st) l c k).binds hb⟩⟩
structure Eb (K:Ah) (mg:Str->Option Value) (D:Addr) (mc:Value):Prop where
 gl:mg "HallError" = some (.ref D)
 base:EBase K D
 ini:EIni K D mc
 hn:Nt K (.builtin "object.__class__") "__get__" = some (some (.builtin "getset_descriptor.__get__"))
 htk:Ws K (.builtin "object.__class__")=some true
theorem eb_mk{K:Ah}{mg:Str->Option Value}{h:Heap}(X:K.In h)(G:h.Ns Cj mg){D:Addr}{nm qn:Str}{N:Addr}{bs:List Value}{sn:List Str}{sub:List Value}{ab:Bool}{col:Option Bool}{dd:Option Addr}{k0 k1 k2 k3 k5:Option Value}{oc mc:Value}{od:Option Addr}{es:Array Kg}{ep:Nat}{sl:Array (Option Value)}(g:Hz K Cj "HallError" = some (some (.ref D)))(l:K.lookup D=some (Dy nm qn D N bs bmV true sn sub ab col dd k0 k1 k2 k3 k5 "ValueError.__new__"))(n:K.lookup N=some ⟨oc,od,.dict es ep,sl⟩)(s:es.toList.all strKey=true)(i:Hz K N "__init__" = some none)(sp:Nt K (.ref D) "__getattribute__" = some (some (.builtin "type.__getattribute__")))(tm:W.typeIn K (.ref D)=some mc)(rd:W.readsIn K D mc=true)(fc:W.findCls K (.ref D) mc "__init__" = some (.val (.builtin "ValueError.__init__")))(hn:Nt K (.builtin "object.__class__") "__get__" = some (some (.builtin "getset_descriptor.__get__")))(htk:Ws K (.builtin "object.__class__")=some true):Eb K mg D mc :=
 ⟨Nr X G g,⟨nm,qn,N,bs,sn,sub,ab,col,dd,k0,k1,k2,k3,k5,l,z3w n s,i⟩,⟨sp,rd,fc⟩,hn,htk⟩
structure Ec (K:Ah) (mg:Str->Option Value) (x:Str) (C D:Addr) (qual:Str) (st:Stmt) (ps:List Str):Prop where
 gl:mg x=some (.ref C)
 ex:∃f fd,Fun K "__init__" qual st f fd/\ELaw K C D f/\Binds K fd ps []
 sa:Bv K (.ref C) "__setattr__" = some (some (.builtin "object.__setattr__"))
 ga:Bv K (.ref C) "__getattribute__" = some (some (.builtin "BaseException.__getattribute__"))
 gh:Bv K (.ref C) "__getattr__" = some none
 ha:Bv K (.ref C) "__class__" = some (some (.builtin "object.__class__"))
section
variable{K:Ah}{mg:Str->Option Value}{x:Str}{C D:Addr}{qual:Str}{st:Stmt}{ps:List Str}{mc:Value}{f:Str}
theorem Ec.ef(E:Ec K mg x C D qual st ps)(B:Eb K mg D mc):Ef K mg x C D qual st ps:=by
 obtain⟨f,fd,h1,h2,h3⟩:=E.ex;exact⟨⟨f,fd,mc,h1,h2,B.base,B.ini,h3⟩,E.gl⟩
theorem Ec.set(E:Ec K mg x C D qual st ps)(tk:Bv K (.ref C) f=some none):ESet K C f:=by
 obtain⟨_,_,_,h,_⟩:=E.ex;exact h.set E.sa tk
theorem Ec.get(E:Ec K mg x C D qual st ps)(tk:Bv K (.ref C) f=some none):EGet K C f:=by
 obtain⟨_,_,_,h,_⟩:=E.ex;exact h.get E.ga E.gh tk
theorem Ec.cls(E:Ec K mg x C D qual st ps):ECls K C (.ref D::bmV):=by
 obtain⟨_,_,_,h,_⟩:=E.ex;exact h.cls
theorem ec_mk{h:Heap}(X:K.In h)(G:h.Ns Cj mg){nm qn:Str}{N:Addr}{bs:List Value}{sn:List Str}{sub:List Value}{ab:Bool}{col:Option Bool}{dd:Option Addr}{k0 k1 k2 k3 k5:Option Value}{oc:Value}{od:Option Addr}{es:Array Kg}{ep:Nat}{sl:Array (Option Value)}{fi:Addr}{odi an:Option Addr}{sli:Array (Option Value)}{oci kV dc pm cd ct:Value}(g:Hz K Cj x=some (some (.ref C)))(l:K.lookup C=some (Dy nm qn C N bs (.ref D::bmV) true sn sub ab col dd k0 k1 k2 k3 k5 "ValueError.__new__"))(n:K.lookup N=some ⟨oc,od,.dict es ep,sl⟩)(s:es.toList.all strKey=true)(i:Hz K N "__init__" = some (some (.ref fi)))(li:K.lookup fi=some ⟨oci,odi,.func (Hx "__init__" qual (defArgs st) (defBody st) (defScope st) .none kV dc pm an cd ct),sli⟩)(ci:Kk K cd qual=true)(ki:Fh K (.ref fi)=true)(ti:oci=.type "function")(kp:Fh K (.ref C)=true)(sa:Bv K (.ref C) "__setattr__" = some (some (.builtin "object.__setattr__")))(ga:Bv K (.ref C) "__getattribute__" = some (some (.builtin "BaseException.__getattribute__")))(gh:Bv K (.ref C) "__getattr__" = some none)(ha:Bv K (.ref C) "__class__" = some (some (.builtin "object.__class__")))(hb:∀(kV doc pm:Value) (an:Option Addr) (cdv ct:Value) (us:List Value),us.length=ps.length->bindArgs (Hx "__init__" qual (defArgs st) (defBody st) (defScope st) .none kV doc pm an cdv ct) ⟨us,[]⟩=pure (ps.zip us)):Ec K mg x C D qual st ps :=
 ⟨Nr X G g,⟨fi,_,q5w li ci ki,⟨⟨nm,qn,N,bs,sn,sub,ab,col,dd,k0,k1,k2,k3,k5,l,z3w n s,i⟩,⟨_,li,ti⟩,kp⟩,(q5w (st:=st) li ci ki).binds hb⟩,sa,ga,gh,ha⟩
end
theorem len_1{us:List Value}(h:us.length=1):∃x0,us=[x0]:=by
 match us,h with
 |[x0],_=>exact⟨x0,rfl⟩
theorem len_2{us:List Value}(h:us.length=2):∃x0 x1,us=[x0,x1]:=by
 match us,h with
 |[x0,x1],_=>exact⟨x0,x1,rfl⟩
theorem len_3{us:List Value}(h:us.length=3):∃x0 x1 x2,us=[x0,x1,x2]:=by
 match us,h with
 |[x0,x1,x2],_=>exact⟨x0,x1,x2,rfl⟩
theorem len_4{us:List Value}(h:us.length=4):∃x0 x1 x2 x3,us=[x0,x1,x2,x3]:=by
 match us,h with
 |[x0,x1,x2,x3],_=>exact⟨x0,x1,x2,x3,rfl⟩
theorem all_mk{lw:Wu}{w:World}{K:Ah}{h:Heap}{mg:Str->Option Value}{fa:Addr}(X:K.In h)(G:h.Ns Cj mg)(hfa:mg "law" = some (.ref fa)){f43:Addr}{od43 an43:Option Addr}{sl43:Array (Option Value)}{oc43 kV43 dc43 pm43 cd43 ct43:Value}{eHallError:Addr}{mcH:Value}{eNoPlace:Addr}{cHall:Addr}{fminit:Addr}{odminit anminit:Option Addr}{slminit:Array (Option Value)}{ocminit kVminit dcminit pmminit cdminit ctminit:Value}{dtminit:Addr}{tdminit:Option Addr}{tsminit:Array (Option Value)}{tnminit:Nat}{dC:Addr}{ep:Nat}{ck1 ck2 ck3 ck4:Tok}{dK:Addr}{tnK:Nat}{tdK:Option Addr}{tsK:Array (Option Value)}{tkK0 tkK1 tkK2:Tok}{dO:Addr}{tnO:Nat}{tdO:Option Addr}{tsO:Array (Option Value)}{tkO0 tkO1 tkO2 tkO3 tkO4:Tok}(D_all_of:Df K mg "all_of" q6n ["text", "signs"])(D_is_name:Df K mg "is_name" q5a ["text"])(D_alike:Df K mg "alike" q9d ["one", "other"])(D_ask_signs:Df K mg "ask_signs" q3f ["pattern"])(D_text_parts:Df K mg "text_parts" q2v ["text"])(D_parts_of:Df K mg "parts_of" q4b ["pattern"])(D_asked:Df K mg "asked" q8w ["template", "at", "signs"])(D_end_of:Df K mg "end_of" q6o ["template", "at", "signs", "most"])(D_read_count:Df K mg "read_count" q2w ["template", "at"])(D_read_noughts:Df K mg "read_noughts" q2g ["template", "at", "gap"])(D_read_more:Df K mg "read_more" q3h ["template", "at", "gap"])(D_read_gap:Df K mg "read_gap" q4c ["template", "at", "gap"])(D_read_mark:Df K mg "read_mark" q3k ["template", "at"])(D_read_into:Df K mg "read_into" q3j ["template", "at"])(D_read_text:Df K mg "read_text" q3i ["template", "at"])(D_read_piece:Df K mg "read_piece" q2x ["template", "at"])(D_pieces_of:Df K mg "pieces_of" q3l ["template"])(D_ask_gap:Df K mg "ask_gap" q4x ["piece", "gap_signs"])(D_ask_piece:Df K mg "ask_piece" q3m ["piece", "kind", "gap_signs"])(D_ask_rule:Df K mg "ask_rule" q4d ["rule"])(D_gap_takes:Df K mg "gap_takes" q3g ["gap_sign", "text"])(D_takes:Df K mg "takes" q8v ["part", "text"])(D_furthest_ends:Df K mg "furthest_ends" q1w ["part", "name", "later"])(D_ends_of_parts:Df K mg "ends_of_parts" q1x ["parts", "name"])(D_reading:Df K mg "reading" q4w ["pattern", "name"])(D_with_noughts:Df K mg "with_noughts" q2h ["text", "width"])(D_gap_text:Df K mg "gap_text" q4e ["piece", "text"])(D_piece_text:Df K mg "piece_text" q2y ["piece", "gap_texts", "count"])(D_tells:Df K mg "tells" q9c ["rule", "name", "count"])(D_rows_beneath:Df K mg "rows_beneath" q2i ["hall", "drawer"])(D_is_for:Df K mg "is_for" q6t ["rule", "mark"])(D_told_texts:Df K mg "told_texts" q3a ["path", "mark", "rules", "counted"])(D_place_of:Df K mg "place_of" q4i ["hall", "path", "texts"])(D_wishes_of:Df K mg "wishes_of" q3p ["hall", "path", "rules"])(D_draw:Df K mg "_law_draw" z2m ["_law_feed", "_law_many"])(D_name_signs:Df K mg "_law_name_signs" q2u [])(D_text:Df K mg "_law_text" z2n ["_law_feed", "_law_signs", "_law_size"])(D_a_name:Df K mg "_law_a_name" q6s ["_law_feed"])(D_fold:Df K mg "_law_fold" z2s ["_law_name", "_law_blind"])(D_rows:Df K mg "_law_rows" z2t ["_law_feed", "_law_blind", "_law_most"])(D_any_rule:Df K mg "_law_any_rule" q4j ["_law_feed"])(D_one_place:Df K mg "_law_one_place" q3q ["_law_rows_here", "_law_rules", "_law_thing", "_law_counted"])(D_due:Df K mg "_law_due" z9h ["_law_rows_here", "_law_rules"])(a43:Hz K Cj "law" = some (some (.ref f43)))(l43:K.lookup f43=some ⟨oc43,od43,.func (Hx "law" "law" (defArgs q3r) (defBody q3r) (defScope q3r) .none kV43 dc43 pm43 an43 cd43 ct43),sl43⟩)(c43:Kk K cd43 "law" = true)(k43:Fh K (.ref f43)=true)(T:Txt mg)(E0:Eb K mg eHallError mcH)(E_NoPlace:Ec K mg "NoPlace" eNoPlace eHallError "NoPlace.__init__" q1o ["self", "path", "texts"])(t_NoPlace_path:Bv K (.ref eNoPlace) "path" = some none)(t_NoPlace_texts:Bv K (.ref eNoPlace) "texts" = some none)(gcHall:Hz K Cj "Hall" = some (some (.ref cHall)))(pgcHall:Pd K cHall Tq=true)(hdcHall:Ln K cHall=true)(pocHall:Vb K cHall=true)(sacHall:Bv K (.ref cHall) "__setattr__" = some (some (.builtin "object.__setattr__")))(nacHall_blind:Bv K (.ref cHall) "blind" = some none)(nacHall_marks:Bv K (.ref cHall) "marks" = some none)(aminit:Bv K (.ref cHall) "__init__" = some (some (.ref fminit)))(lminit:K.lookup fminit=some ⟨ocminit,odminit,.func (Hx "__init__" "Hall.__init__" (defArgs q0z) (defBody q0z) (defScope q0z) (.ref dtminit) kVminit dcminit pmminit anminit cdminit ctminit),slminit⟩)(cminit:Kk K cdminit "Hall.__init__" = true)(kminit:Fh K (.ref fminit)=true)(iminit:Vx K (.ref fminit)=true)(mkcHall:Wr K cHall=true)(kccHall:Fh K (.ref cHall)=true)(tminit:K.lookup dtminit=some ⟨.type "tuple",tdminit,.seq #[.bool false] tnminit,tsminit⟩)(M_is_drawer:Mf K cHall "is_drawer" "Hall.is_drawer" q1u ["self", "path"])(M_is_one_place:Mf K cHall "is_one_place" "Hall.is_one_place" q1l ["self", "one", "other"])(M_rows:Mf K cHall "rows" "Hall.rows" q3o ["self"])(M_there:Mf K cHall "there" "Hall.there" q2z ["self", "place"])(gC:Hz K Cj "CASES" = some (some (.ref dC)))(lC:K.lookup dC=some ⟨.type "dict",none,.dict #[⟨Np w.params (Ac "u"),.str (Ac "u") ck1,.str (Ac "great") ck2⟩,⟨Np w.params (Ac "l"),.str (Ac "l") ck3,.str (Ac "small") ck4⟩] ep,#[]⟩)(gK:Hz K Cj "KINDS" = some (some (.ref dK)))(lK:K.lookup dK=some ⟨.type "tuple",tdK,.seq #[.str (Ac "slip") tkK0,.str (Ac "drawer") tkK1,.str (Ac "all") tkK2] tnK,tsK⟩)(gO:Hz K Cj "OF_A_GAP" = some (some (.ref dO)))(lO:K.lookup dO=some ⟨.type "tuple",tdO,.seq #[.str (Ac "gap") tkO0,.str (Ac "great") tkO1,.str (Ac "small") tkO2,.str (Ac "noughts") tkO3,.str (Ac "more") tkO4] tnO,tsO⟩):
  ∃fd:Ki,(∀(s:Af) (v:Value),Rg s fd ⟨[v],[]⟩ [("_law_script",v)])/\∀base:Heap,K.In base->base.Ns Cj mg->FnOk lw.prog w K mg base CX0 11 fa fd ["_law_script"] (spLaw K):=by
 have e:=hfa.symm.trans (Nr X G a43);cases e;have EB_HallError:=E0.base;have gl_HallError:=E0.gl;have EF_NoPlace:=E_NoPlace.ef E0;have ES_NoPlace_path:=E_NoPlace.set t_NoPlace_path;have EG_NoPlace_path:=E_NoPlace.get t_NoPlace_path;have ES_NoPlace_texts:=E_NoPlace.set t_NoPlace_texts;have EG_NoPlace_texts:=E_NoPlace.get t_NoPlace_texts;have gl_NoPlace:=E_NoPlace.gl;have clcHall:Cls K cHall:=⟨pgcHall,hdcHall,pocHall,sacHall⟩
 have K_Hall:Kf K mg cHall "Hall" "Hall.__init__" q0z ["self", "rows", "blind"]:=⟨⟨fminit,_,ocminit,odminit,.ref dtminit,kVminit,dcminit,pmminit,anminit,cdminit,ctminit,slminit,rfl,lminit,cminit,⟨mkcHall,aminit,iminit,kccHall⟩,fun s us Y hl=>by obtain⟨_,_,_,rfl⟩:=len_3 (by rw[Dm] at hl;exact hl:us.length=3);exact W.binds_K Y rfl tminit rfl rfl rfl,fun s us Y hl=>by obtain⟨_,_,rfl⟩:=len_2 (by rw[Ai] at hl;exact Nat.succ.inj hl:us.length=2);exact W.binds_K Y rfl tminit rfl rfl rfl⟩,Nr X G gcHall,clcHall⟩
 have FL:=q5w (st:=q3r) l43 c43 k43;refine⟨Hx "law" "law" (defArgs q3r) (defBody q3r) (defScope q3r) .none kV43 dc43 pm43 an43 cd43 ct43,fun s v=>.of_eq rfl,fun base _ _=>?_⟩;have hk:Hk K cHall:=⟨clcHall,nacHall_blind,nacHall_marks⟩
 have c1:=x4w (P:=lw.prog) (w:=w) (base:=base) D_draw T;have c2:=x4y (P:=lw.prog) (w:=w) (base:=base) D_text T c1;have c3:=q8s (P:=lw.prog) (w:=w) (base:=base) D_name_signs;have c4:=z8v (P:=lw.prog) (w:=w) (base:=base) D_a_name T ⟨c1,c2,c3⟩;have c5:=x5j (P:=lw.prog) (w:=w) (base:=base) D_fold T;have c6:=x5l (P:=lw.prog) (w:=w) (base:=base) D_rows T ⟨c1,c4,c5⟩;have c7:=x1q (P:=lw.prog) (w:=w) (base:=base) D_alike T;have c8:=z1g (P:=lw.prog) (w:=w) (base:=base) M_is_one_place hk T ⟨c7⟩;have c9:=x1r (P:=lw.prog) (w:=w) (base:=base) M_there hk T ⟨c8⟩;have c10:=x5m (P:=lw.prog) (w:=w) (base:=base) K_Hall hk T ⟨c9⟩;have c11:=x1s (P:=lw.prog) (w:=w) (base:=base) M_rows hk T;have c12:=z1k (P:=lw.prog) (w:=w) (base:=base) M_is_drawer hk T;have C1:Calls1 lw.prog w K mg base:=⟨z0t D_ask_signs T,q8u D_text_parts T⟩
 have cAO:=z8o (P:=lw.prog) (w:=w) (base:=base) D_all_of T;have CA:CallsA lw.prog w K mg base:=⟨cAO⟩
 have CB:CallsB lw.prog w K mg base:=⟨z0v D_gap_takes T CA⟩
 have CC:CallsC lw.prog w K mg base:=⟨x1c D_takes T CB⟩
 have CD:CallsD lw.prog w K mg base:=⟨q5h D_furthest_ends T CC⟩
 have cPO:=z2o (P:=lw.prog) (w:=w) (base:=base) D_parts_of T C1;have CE:CallsE lw.prog w K mg base:=⟨cPO,q5i D_ends_of_parts T CD⟩
 have cAs:=x1e (P:=lw.prog) (w:=w) (base:=base) D_asked T;have CT:CallsT lw.prog w K mg base:=⟨cAs,z8p D_end_of T⟩
 have CU:CallsU lw.prog w K mg base:=⟨cAs,q6p D_read_noughts T CT,z0w D_read_more T CT,⟨dC,Nr X G gC,x1h lC⟩⟩
 have CV:CallsV lw.prog w K mg base:=⟨cAs,q8x D_read_count T CT,z2p D_read_gap T CU⟩
 have CW:CallsW lw.prog w K mg base:=⟨z1a D_read_mark T CV,z0z D_read_into T,z0x D_read_text T CT⟩
 have CX:CallsX lw.prog w K mg base:=⟨q9a D_read_piece T CW⟩
 have cPi:=z1b (P:=lw.prog) (w:=w) (base:=base) D_pieces_of T CX;have CR:CallsR lw.prog w K mg base:=⟨z5k D_ask_gap T,⟨dO,Nr X G gO,fun H=>.inr ⟨_,_,_,lO,rfl,rfl,by show 5<=sizeLine;decide,.cons ⟨_,rfl⟩ (.cons ⟨_,rfl⟩ (.cons ⟨_,rfl⟩ (.cons ⟨_,rfl⟩ (.cons ⟨_,rfl⟩ .nil))))⟩⟩⟩
 have CS:CallsS lw.prog w K mg base:=⟨cPO,cPi,z1c D_ask_piece T CR,⟨dK,Nr X G gK,fun H=>.inr ⟨_,_,_,lK,rfl,rfl,by show 3<=sizeLine;decide,.cons ⟨_,rfl⟩ (.cons ⟨_,rfl⟩ (.cons ⟨_,rfl⟩ .nil))⟩⟩⟩
 have cWN:=q6r (P:=lw.prog) (w:=w) (base:=base) D_with_noughts T;have CG:CallsGT lw.prog w K mg base:=⟨z2r D_gap_text T ⟨cWN⟩,cWN⟩
 have cAR:=z2q (P:=lw.prog) (w:=w) (base:=base) D_ask_rule T CS;have CTl:CallsTl lw.prog w K mg base:=⟨cAR,z5j D_reading T CE,cPi,q9b D_piece_text T CG⟩
 have cTe:=x1l (P:=lw.prog) (w:=w) (base:=base) D_tells T CTl;have cIN:=z5p (P:=lw.prog) (w:=w) (base:=base) D_is_name T ⟨cAO⟩;have eN:=q6u (P:=lw.prog) (w:=w) (base:=base) EF_NoPlace gl_HallError ES_NoPlace_path ES_NoPlace_texts;have cRB:=q6v (P:=lw.prog) (w:=w) (base:=base) D_rows_beneath T ⟨c11⟩;have cIF:=z9b (P:=lw.prog) (w:=w) (base:=base) D_is_for T;have cTT:=q9f (P:=lw.prog) (w:=w) (base:=base) D_told_texts T ⟨cIF,cTe⟩;have cPl:=z2v (P:=lw.prog) (w:=w) (base:=base) D_place_of T ⟨cIN,eN⟩;have cWi:=z1o (P:=lw.prog) (w:=w) (base:=base) D_wishes_of T ⟨cAR,c12,cRB,cTT,cPl⟩;have cAy:=z2w (P:=lw.prog) (w:=w) (base:=base) D_any_rule T ⟨c1,c2⟩;have cOP:=z1q (P:=lw.prog) (w:=w) (base:=base) D_one_place T ⟨cTe⟩;have cDu:=ok_due (P:=lw.prog) (w:=w) (base:=base) D_due T ⟨cOP⟩;have CL:CallsL lw.prog w K mg base cHall eNoPlace (.ref eHallError::bmV):=⟨c1,c6,cAy,c10,cWi,cDu,gl_NoPlace,E_NoPlace.cls,EG_NoPlace_path,EG_NoPlace_texts⟩
 exact FL.ok sc_law (fun vs H Q E h=>by obtain⟨a,ns,rfl,_⟩:=h;rfl) (fun cdv A outer s H vs Q E hr h=>x1y T CL _ cdv A outer s H vs Q E hr h)
theorem walk{l:Wu}{q:Program}{loose:List Str}{XP:(Str->Option Value)->Heap->Prop}{YP:World->Heap->Prop}{d:DefRec}{K:Params->Ah}(hn:l.most=some 63)(hdf:d.params.defaults=[])(hY:∀(w:World) (h:Heap),YP w h->(K w.params).In h)(F:∀(w:World) (mg:Str->Option Value) (fa:Addr) (h:Heap),(K w.params).In h->h.Ns Cj mg->mg d.name=some (.ref fa) ->
   ∃fd:Ki,(∀(s:Af) (u:Value),Rg s fd ⟨[u],[]⟩ [("_law_script",u)])/\∀base:Heap,(K w.params).In base->base.Ns Cj mg->FnOk l.prog w (K w.params) mg base CX0 11 fa fd ["_law_script"] (spLaw (K w.params))):
  W.WalkO q loose XP YP l.row.toRowW d [] (fun f vs=>Wc f vs) :=
 L2.walk_of (n:=63) (k:=11) (x := "_law_script") (CX:=fun _=>CX0) (sp:=fun w=>spLaw (K w.params)) hn (by decide) hdf ⟨rfl,by decide,by decide,rfl⟩ hY F (fun _ _ a ns hl _ hS=>⟨a,ns,rfl,hS,hl,fun _=>rfl⟩) fun _ _ _ _ _ z=>z
end K
namespace K
open PySem PySem.W PyProof.Rows
abbrev loose:List Str:=[Ac "_wall",Ac "HallError",Ac "NoPattern",Ac "NoTemplate",Ac "NoHall",Ac "NoDrawer",Ac "NoPlace",Ac "NoRule",Ac "FIGURES",Ac "LETTERS",Ac "NAME_SIGNS",Ac "MOST_SIGNS",Ac "MOST_NAMES",Ac "all_of",Ac "is_name",Ac "alike",Ac "GAP_SIGNS",Ac "MOST_GAPS",Ac "ask_signs",Ac "text_parts",Ac "parts_of",Ac "FROM_ONE",Ac "FROM_TWO",Ac "MOST_FIGURES",Ac "CASES",Ac "asked",Ac "end_of",Ac "read_count",Ac "read_noughts",Ac "read_more",Ac "read_gap",Ac "read_mark",Ac "read_into",Ac "read_text",Ac "read_piece",Ac "pieces_of",Ac "KINDS",Ac "OF_A_GAP",Ac "MOST_START",Ac "ask_gap",Ac "ask_piece",Ac "ask_rule",Ac "gap_takes",Ac "takes",Ac "furthest_ends",Ac "ends_of_parts",Ac "reading",Ac "with_noughts",Ac "gap_text",Ac "piece_text",Ac "tells",Ac "rows_beneath",Ac "is_for",Ac "told_texts",Ac "place_of",Ac "wishes_of",Ac "Hall",Ac "_law_draw",Ac "_law_name_signs",Ac "_law_other_signs",Ac "_law_text",Ac "_law_a_name",Ac "_law_fold",Ac "_law_rows",Ac "_law_any_rule",Ac "_law_one_place",Ac "_law_due"]
abbrev vw:Program:=view PySem.Challenge.pw_renamehall_k39_whole_rules_put [77]
abbrev xt(s:Af):Bool:=xlAt vw [] s&&recOk [] s
end K
open PySem PySem.W PyProof.Rows
local macro_rules | `(tactic| o_head $H) => `(tactic| (
  refine holds_open (q := K.vw) (loose := K.loose) (Xt := K.xt) (XP := XL K.vw []) (Yf := Hook.obs $H) (Ya := Hook.val $H) (YP := Hook.says $H) (N := 60000) ?hl (Hook.of $H) (Hook.keeps $H) (fun s e => xl_of s (Sn.mp e).1) XL.keeps
    (by rfl) (by rfl) (by rfl) (fun s e => recFacts_of (Sn.mp e).2) (by rfl) (by first | assumption | decide +kernel) (by decide +kernel) ⟨rfl, rfl, rfl, rfl, rfl, by decide +kernel⟩ ?hw ?hc))
set_option maxRecDepth 100000 in
set_option maxHeartbeats 0 in
theorem K.pre(h:False):PySem.Challenge.rw_renamehall_k39_whole_rules_put.Holds:=by w_on;o_law;k_head;all_goals exact h.elim
theorem K.q0:(Nat.ble PySem.Challenge.pw_renamehall_k39_whole_rules_put.main.body.length 100000)=true:=by k_qdec
abbrev K.as:List Nat:=[2,3,15,17,18,20,21,22,29,30,31,32,35,42,44,45,47,48,49,50,51,54,61,63,64,66,67,68,69,70,73,80,82,83,85,86,87,88,89,92,99,101,102,104,105,106,107,108,111,118,120,121,123,124,125,126,127,130,137,138,139,142,145,146,147,149,150,152,153,154,156,157,159,160,161,163,164,166,167,168,170,171,173,174,175,177,178,180,181,182,183,185,186,188,189,190,192,193,195,196,197,199,200,202,203,204,206,207,209,210,211,213,214,216,217,218,220,221,223,224,225,227,228,230,231,232,234,235,237,238,239,241,242,244,245,246,248,249,251,252,253,255,256,258,259,260,261,262,264,265,267,268,269,271,272,274,275,276,279,280,281,283,284,286,287,288,290,291,293,294,295,297,298,300,301,302,304,305,307,308,309,311,312,314,315,316,318,319,321,322,323,325,326,328,329,330,332,333,335,336,337,339,340,342,343,344,346,347,349,350,351,353,354,356,357,358,360,361,363,364,365,368,369,370,372,373,375,376,384,385,388,389,390,392,393,395,396,397,399,400,402,403,404,406,407,409,410,411,413,414,416,417,418,420,421,423,424,425,427,428,430,431,432,434,435,437,438,439,441,442,444,445,446,448,449,451,452,453,455,456,458,459,460,462,463,465,466,467,469,470,472,473,474,475,476,477,478,481,483,484,486,487,488,490,491,493,494,502,505,506,507,509,510,512,513,514,516,517,519,520,521,523,524,526,527,528,530,531,533,534,535,537,538,540,541,542,544,545,547,548,549,552,553]
set_option maxRecDepth 100000 in
set_option maxHeartbeats 0 in
theorem K.half0(w:World)(os:La):(segRunT Oh PySem.Challenge.pw_renamehall_k39_whole_rules_put (w.withFollow "special-get-raises" false) 11 (some (.ref 6)) 0 60000 (HD.bootT (w.withFollow "special-get-raises" false).params os) (topStub PySem.Challenge.pw_renamehall_k39_whole_rules_put)).map (fun r=>((staticsOk (Fm PySem.Challenge.pw_renamehall_k39_whole_rules_put.main.body) (boot_heap (w.withFollow "special-get-raises" false).params) r.2.1.abs.heap&&namesBound PySem.Challenge.pw_renamehall_k39_whole_rules_put r.2.1.abs.heap&&gensDone r.2.1.abs&&laidKept (boot_heap (w.withFollow "special-get-raises" false).params) r.2.1.abs.heap),openSeen K.vw K.loose (Fm PySem.Challenge.pw_renamehall_k39_whole_rules_put.main.body) K.xt true r.2.1.abs,(kHook K.pre.heap_39 K.as (fun _=>by kernel_rfl)).obs r.2.1.abs))=some (true,openGood K.vw K.loose,(kHook K.pre.heap_39 K.as (fun _=>by kernel_rfl)).val (w.withFollow "special-get-raises" false)):=by
 unfold K.xt K.vw;rw[Lc,Lj,Ld,Ll,PySem.W.Fast.te17772997221829408302];kernel_rfl
set_option maxRecDepth 100000 in
set_option maxHeartbeats 0 in
theorem K.half1(w:World)(os:La):(segRunT Oh PySem.Challenge.pw_renamehall_k39_whole_rules_put (w.withFollow "special-get-raises" true) 11 (some (.ref 6)) 0 60000 (HD.bootT (w.withFollow "special-get-raises" true).params os) (topStub PySem.Challenge.pw_renamehall_k39_whole_rules_put)).map (fun r=>((staticsOk (Fm PySem.Challenge.pw_renamehall_k39_whole_rules_put.main.body) (boot_heap (w.withFollow "special-get-raises" true).params) r.2.1.abs.heap&&namesBound PySem.Challenge.pw_renamehall_k39_whole_rules_put r.2.1.abs.heap&&gensDone r.2.1.abs&&laidKept (boot_heap (w.withFollow "special-get-raises" true).params) r.2.1.abs.heap),openSeen K.vw K.loose (Fm PySem.Challenge.pw_renamehall_k39_whole_rules_put.main.body) K.xt true r.2.1.abs,(kHook K.pre.heap_39 K.as (fun _=>by kernel_rfl)).obs r.2.1.abs))=some (true,openGood K.vw K.loose,(kHook K.pre.heap_39 K.as (fun _=>by kernel_rfl)).val (w.withFollow "special-get-raises" true)):=by
 unfold K.xt K.vw;rw[Lc,Lj,Ld,Ll,PySem.W.Fast.te17772997221829408302];kernel_rfl
set_option maxRecDepth 100000 in
set_option maxHeartbeats 0 in
theorem PySem.Challenge.cw_renamehall_k39_whole_rules_put_holds : PySem.Challenge.rw_renamehall_k39_whole_rules_put.Holds := by
  w_on; o_law; k_head; (case hw => w_witness2)
  (case hl =>
    refine HD.left2 "special-get-raises" (by kernel_rfl) (by rfl) (fun _ => by kernel_rfl) fun b => ?_
    cases b
    · exact fun w os => K.half0 w os
    · exact fun w os => K.half1 w os)
  k_fill
  refine K.walk (l := PySem.Challenge.rw_renamehall_k39_whole_rules_put) rfl rfl (fun w h Y => PySem.W.kIn_of Y) ?F
  case F =>
    intro w mg fa h KX G hmg
    refine' K.all_mk KX G hmg (K.df_mk KX G ?_ ?_ ?_ ?_ ?_) (K.df_mk KX G ?_ ?_ ?_ ?_ ?_) (K.df_mk KX G ?_ ?_ ?_ ?_ ?_) (K.df_mk KX G ?_ ?_ ?_ ?_ ?_) (K.df_mk KX G ?_ ?_ ?_ ?_ ?_) (K.df_mk KX G ?_ ?_ ?_ ?_ ?_) (K.df_mk KX G ?_ ?_ ?_ ?_ ?_) (K.df_mk KX G ?_ ?_ ?_ ?_ ?_) (K.df_mk KX G ?_ ?_ ?_ ?_ ?_) (K.df_mk KX G ?_ ?_ ?_ ?_ ?_) (K.df_mk KX G ?_ ?_ ?_ ?_ ?_) (K.df_mk KX G ?_ ?_ ?_ ?_ ?_) (K.df_mk KX G ?_ ?_ ?_ ?_ ?_) (K.df_mk KX G ?_ ?_ ?_ ?_ ?_) (K.df_mk KX G ?_ ?_ ?_ ?_ ?_) (K.df_mk KX G ?_ ?_ ?_ ?_ ?_) (K.df_mk KX G ?_ ?_ ?_ ?_ ?_) (K.df_mk KX G ?_ ?_ ?_ ?_ ?_) (K.df_mk KX G ?_ ?_ ?_ ?_ ?_) (K.df_mk KX G ?_ ?_ ?_ ?_ ?_) (K.df_mk KX G ?_ ?_ ?_ ?_ ?_) (K.df_mk KX G ?_ ?_ ?_ ?_ ?_) (K.df_mk KX G ?_ ?_ ?_ ?_ ?_) (K.df_mk KX G ?_ ?_ ?_ ?_ ?_) (K.df_mk KX G ?_ ?_ ?_ ?_ ?_) (K.df_mk KX G ?_ ?_ ?_ ?_ ?_) (K.df_mk KX G ?_ ?_ ?_ ?_ ?_) (K.df_mk KX G ?_ ?_ ?_ ?_ ?_) (K.df_mk KX G ?_ ?_ ?_ ?_ ?_) (K.df_mk KX G ?_ ?_ ?_ ?_ ?_) (K.df_mk KX G ?_ ?_ ?_ ?_ ?_) (K.df_mk KX G ?_ ?_ ?_ ?_ ?_) (K.df_mk KX G ?_ ?_ ?_ ?_ ?_) (K.df_mk KX G ?_ ?_ ?_ ?_ ?_) (K.df_mk KX G ?_ ?_ ?_ ?_ ?_) (K.df_mk KX G ?_ ?_ ?_ ?_ ?_) (K.df_mk KX G ?_ ?_ ?_ ?_ ?_) (K.df_mk KX G ?_ ?_ ?_ ?_ ?_) (K.df_mk KX G ?_ ?_ ?_ ?_ ?_) (K.df_mk KX G ?_ ?_ ?_ ?_ ?_) (K.df_mk KX G ?_ ?_ ?_ ?_ ?_) (K.df_mk KX G ?_ ?_ ?_ ?_ ?_) (K.df_mk KX G ?_ ?_ ?_ ?_ ?_) ?_ ?_ ?_ ?_ ⟨mg_none_of KX G ?_, mg_none_of KX G ?_, mg_none_of KX G ?_, mg_none_of KX G ?_, mg_none_of KX G ?_, mg_none_of KX G ?_, mg_none_of KX G ?_, mg_none_of KX G ?_, mg_none_of KX G ?_, mg_none_of KX G ?_, mg_none_of KX G ?_, mg_none_of KX G ?_, mg_none_of KX G ?_, mg_none_of KX G ?_, mg_none_of KX G ?_, ⟨_, mg_of KX G ?_⟩, ⟨_, mg_of KX G ?_⟩, ⟨_, mg_of KX G ?_⟩, ⟨_, mg_of KX G ?_⟩, ⟨_, mg_of KX G ?_⟩, ⟨_, mg_of KX G ?_⟩, ⟨_, mg_of KX G ?_⟩, ⟨_, mg_of KX G ?_⟩, ⟨_, mg_of KX G ?_⟩, ⟨_, mg_of KX G ?_⟩, ⟨_, mg_of KX G ?_⟩⟩ (K.eb_mk KX G ?_ ?_ ?_ ?_ ?_ ?_ ?_ ?_ ?_ ?_ ?_) (K.ec_mk KX G ?_ ?_ ?_ ?_ ?_ ?_ ?_ ?_ ?_ ?_ ?_ ?_ ?_ ?_ ?_) ?_ ?_ ?_ ?_ ?_ ?_ ?_ ?_ ?_ ?_ ?_ ?_ ?_ ?_ ?_ ?_ ?_ (K.mf_mk ?_ ?_ ?_ ?_ ?_ ?_) (K.mf_mk ?_ ?_ ?_ ?_ ?_ ?_) (K.mf_mk ?_ ?_ ?_ ?_ ?_ ?_) (K.mf_mk ?_ ?_ ?_ ?_ ?_ ?_) ?_ ?_ ?_ ?_ ?_ ?_
    all_goals try (first | k_is | kit_is | rfl | decide +kernel | (intro _ _ _ _ _ _ us hl; first | (obtain ⟨_, rfl⟩ := K.len_1 hl; rfl) | (obtain ⟨_, _, rfl⟩ := K.len_2 hl; rfl) | (obtain ⟨_, _, _, rfl⟩ := K.len_3 hl; rfl) | (obtain ⟨_, _, _, _, rfl⟩ := K.len_4 hl; rfl) | (obtain ⟨_, _, _, _, _, rfl⟩ := K.len_5 hl; rfl) | (cases us with | nil => rfl | cons _ _ => cases hl)))
