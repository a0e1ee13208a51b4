import PyProof.Rows.All
import Wide.All
import OpenK.AllK
import Wide.FinOn
import Lean
import PyProof.EqAt
import PyProof.EqKinds
import PyProof.TupleCall
import PySem.Challenge.RW_renamehall_k36_wishes_refused
import KE.IntTextLaws
import KE.KIsAll
import PyProof.ExcArgsOwn
import PyProof.ExcBaseAll.ValueError
import PyProof.ExcClass2
import PyProof.ExcInit
import PyProof.InstStore
import PyProof.Rows.CatchBare
import PyProof.Rows.CatchOwn
import PyProof.StationsW
import PyProof.SumWalk
import PyProof.ReprRoads
set_option Elab.async false
set_option linter.all false
set_option maxRecDepth 100000
local macro_rules|`(tactic|trivial)=>`(tactic|first|exact Or.inl rfl|exact Or.inr rfl|fail)
local macro_rules|`(tactic|trivial)=>`(tactic|first|(refine⟨rfl,rfl,rfl,?_,rfl,?_,?_⟩<;>decide +kernel)|fail)
theorem gR0{α β:Type}{f:α->β}{l:List α}{i:Nat}{v:β}(h:(l.map f)[i]?=some v):∃z,l[i]?=some z/\v=f z:=by
 rw[List.getElem?_map] at h;cases e:l[i]? with
 |none=>rw[e] at h;cases h
 |some z=>rw[e] at h;cases h;exact⟨z,rfl,rfl⟩
open Array renaming getElem?_eq_some_iff→Dk,getElem?_eq_getElem→Ds,length_toList→Em,getElem?_toList→Ij,find?_toList→Mp,getD_eq_getD_getElem?→Mt,forIn_toList→Mx,perm_iff_toList_perm→Nb,getElem?_eq_none→Pk,mem_toList_iff→Qp,append_assoc→Ro,toList_map→Ui
open Array.Perm renaming refl→Ux
open Bool renaming false_eq_true→Bb,false_ne_true→Bn,not_true→Dj,and_self→Kz,eq_iff_iff→Ls,not_false→Mo,and_eq_true→Od,and_eq_true_iff→Rb,or_true→Sj
open Classical renaming byContradiction→Jn
open Int renaming emod_lt_of_pos→Jx,toNat_natCast→Kp,emod_nonneg→Ly,le_refl→Pl
open List renaming length_map→Ac,mem_map→Ah,map_append→Aj,map_cons→Ak,map_map→Al,mem_singleton→Ao,length_append→Ap,mem_of_getElem?→Aq,mem_cons_of_mem→Ar,mem_cons_self→Au,mem_append→Ax,size_toArray→Ay,getElem?_map→Az,mem_cons→Be,getElem?_eq_some_iff→Bg,length_cons→Bk,mem_append_right→Bl,length_take→Bp,take_add_one→Cb,length_drop→Ce,take_length→Cf,nodup_cons→Ci,getLast?_eq_some_getLast→Ct,nodup_append→Dp,getLastD_eq_getLast?→Du,length_singleton→Dw,mem_append_left→Ed,append_nil→El,length_pos_iff→Eo,take_of_length_le→Eu,length_dropLast→Fl,filter_cons_of_neg→Fx,filter_cons_of_pos→Fy,map_congr_left→Gb,dropLast_concat_getLast→Gg,find?_cons→Gp,map_take→Gu,mem_of_mem_drop→Ha,mem_of_mem_take→Hb,length_nil→Ht,take_sublist→Ia,lookup_cons→Iu,not_mem_nil→Iv,dropLast_concat→Iy,map_drop→Jd,mem_filter→Ji,zip_cons_cons→Jz,pairwise_cons→Kb,contains_cons→Kd,getElem?_eq_getElem→Kg,filter_append→Kh,length_eq_zero_iff→Km,append_assoc→Kr,length_filter_le→Lj,mem_iff_getElem?→Lk,getElem?_set_ne→Lq,foldl_cons→Lw,filterMap_cons→Mh,replicate_succ→Mi,nodup_nil→Mm,getElem?_append_right→Na,flatten_cons→Nh,getElem?_eq_none_iff→Nk,getElem?_append_left→Nm,all_eq_true→Oe,mem_flatMap→Oi,mem_of_mem_eraseIdx→Ol,pairwise_singleton→Oq,of_mem_zip→Ow,forIn_cons→Ox,getElem?_set_self→Pc,take_succ→Qf,drop_zero→Qh,dropLast_subset→Ra,any_cons→Rh,mem_filterMap→Rr,filterMap_map→Sa,map_nil→Sd,zip_nil_right→Sf,getElem?_drop→So,reverse_cons→Sy,zip_nil_left→Tc,mapM_toArray→Td,pairwise_map→Tg,foldl_append→Th,filter_cons→Ud,zipIdx_cons→Uh,range'_succ→Uk,any_append→Va
open Nat renaming le_refl→Am,ne_of_lt→Bd,lt_of_lt_of_le→Bf,le_trans→Bi,zero_le→By,le_succ_of_le→Ek,ne_of_gt→Er,lt_irrefl→Fq,lt_succ_self→Hf,succ_le_succ→Hh,lt_succ_of_lt→Ib,le_of_lt→Ie,not_lt→Iw,le_succ→Je,le_of_eq→Js,sub_zero→Mb,lt_of_le_of_lt→Mr,add_le_add_left→Rk,min_eq_left→Vb
open Ne renaming symm→Bo
open Option renaming bind_some→Ey,map_some→Jk,isSome_map→Ko,map_eq_some_iff→Kx,isSome_iff_exists→Oa,getD_none→Ub
open Option.some renaming inj→Bw
open Prod renaming ext→Ua
open PyProof.Rows renaming wpS_bind→Bv,slot_tuple_getitem→Ck,wpS_pure→Cq,envOfC→Ga,lo1→Gh,StrsAre→Ho,SortSt→Hr,get?_update_seq→Io,callWith_type1→Ip,seqObj→Ja,wpS_forRange→Jy,listItems_at→Ka,AllBare→Ki,SortKind→Lc,callWith_builtin1→Lv,mirror→Ma,up1→Oj,pendingOf→Oz,subscriptTail_builtinR→Pf,mirror_perm→Pm,wpS_reverse→Pn,wpS_get→Qe,FormattedValue_plain→Qy,Constant_none→Rc,listUpdate_at→Ri,lt_str→Rl,args_tuple_getitem→Sb,IntsAre→Sq,tuples'→Sr,seqEpoch_at→Tv,failedOf→Ue,wpS_mono→Ug,Subscript_→Ur,wpS_modify→Uw
open PySem renaming wpAny_bind→Ab,wpAny_pure→Ad,Shared→Ae,starEach→Ba,NameKind→Bc,wpAny_holding→Bm,wpAny_mono→Br,boot_len→Bt,wpAny_call_entry→Bu,wpAny_newObj_type→Bx,wpAny_field→Ca,mainGlobals→Cc,wpAny_callSpecial?_slot→Cg,wpAny_dictEntries→Cj,Builtin→Cs,compareOp→Cu,sysModules→Cw,Paired→Dd,excClassObj→Dh,wpAny_standAt→Di,sizeLine_eq→Dl,wpAny_truthy_bool→Dm,backTo→Dq,tupleKind_room_in1→Dy,mem_of_lookup→En,rawInt→Es,wpAny_attempt→Ew,wpAny_Call_Name_kw→Ez,wpAny_typeOf→Ff,compEnvC→Fg,wpAny_dictEpoch→Fh,wpAny_typeNameOfWhole_itemiter→Fi,codeAny→Fm,wpAny_loadPart_at→Fo,tupleKind→Fp,attributeBase→Ft,wpAny_typeNameOfWhole_keyiter→Fw,binaryOp→Gd,wpAny_isInstance→Ge,wpAny_forIn_list→Gf,wpAny_rule→Gi,wpAny_setField_rec→Gk,wpAny_passesOwn→Gn,wpAny_notOrdered_dict→Gq,behindInMarks→Gr,wpAny_call→Gv,wpAny_typeNameOf_itemiter→Gy,codeAny_call_builtin→Gz,wpAny_setField→He,wpAny_typeNameOf_keyiter→Hi,tupleKeyHash→Hj,wpAny_specialOf→Hq,codeAny_builtin→Hu,keywordEach→Hw,bootBuiltins→Ic,holding→Ig,codeAny_mono→Ii,DictEntry→Iq,assignEach→Ir,plainId_quiet→Jb,sliceBounds→Jf,strIterType→Jg,wpAny_isSubtype_exc→Jh,wpAny_execs_nil→Jj,importedModules→Jm,swapsWith→Jp,pyNext→Jq,FuncData→Jt,wpAny_comprehension_free→Jw,foldedSetIterable→Kn,IsPart→Kv,wpAny_isOneOf_itemiter→Ky,dictSetHashed→La,backToKw→Lb,getMethod→Le,isSubtype_tuple_tuple→Li,plainObj_wpAny_Assign_Attribute→Ll,entryOfKey→Ln,Within→Lo,letOwnedTupleGo→Lr,call_meets→Lx,standAt→Mj,wpAny_loadPart→Ml,wpAny_fieldsOf→Mn,wpAny_tupleItemsOf→Mw,atKey_none_of_get→Nj,typeLookup→Np,callerA→Nt,OsState→Nu,wpAny_execs_cons→Nw,wpAny_lookBehind→Nx,pastItsLine_dict→Ny,noFill_tuple_add→Ob,wpAny_updateSeq→Pa,size_of_entries→Pb,wpAny_pyNext_list_item→Pd,subscripted→Pe,wpAny_Assign_Subscript→Ph,storedH_new→Pp,wpAny_isTrue_Compare1→Pu,pyIter→Pw,wpAny_pyNext_list_end→Px,BindsTo→Pz,Keyword→Qa,wpAny_newTuple→Qb,isSubtype_stop→Qc,wpAny_isOneOf_keyiter→Qd,wpAny_seqItems→Qg,OwnTail→Qi,callWith→Qq,typeIs_str→Qr,PlainAttrs→Qs,wpAny_newFunctionEnv→Qu,GenState→Qw,seq_tuple_add→Rg,PassesOwn→Rp,wpAny_nsSet1→Ru,concat_meets→Rz,wpAny_setItem_heap→Se,ExcBaseFacts→Sh,eqIsQuiet→Sl,atKey_of_get→Sm,treeTable→Sn,wpAny_assign_Name→Su,wpAny_sequenceKey→Sx,wpAny_pyIter_list→Sz,wpAny_pyIter_enum→Ta,wpAny_pyIter_slot→Tb,eqIsQuiet_byValue→Tj,seqIndex_of→Tr,wpAny_letGo→Tt,wpAny_of_eq→Tu,storedH_old→Tw,wpAny_Name→Ul,wpAny_load→Um,typeIs_int→Us,call→Uu,closureFor→Uv,refuseLoop→Uz,getAttr→Vc,setAttr→Vd
open PySem.Around renaming under_plainId→Fj,under→Nz
open PySem.AutoSeq1 renaming wpAny_loadPart'→Md
open PySem.Builtin.Dict renaming showsAll→Il,pendingCount→Nr,selfAndRest→Oh,updateFrom→Ot
open PySem.Builtin.Dict_items renaming ownsTuple→Im,ownedTupleFields→Kj
open PySem.Builtin.List renaming listItems→Gj,listFitsIndex→Nf,listTooLong→Oc,listSameRef→Og
open PySem.Builtin.Slice renaming slicePlaces→Gw,sliceAdjust→Nn
open PySem.Builtin.SmallTypes renaming nextOf→Nq
open PySem.Builtin.Tuple renaming tupleHashOf→Hc,tupleItemsOf→Iz
open PySem.Calls renaming callWith_builtin→Kw,spliced_cons→Mq,Name_function_global→My,evalArgs_plain→Qt,spliced_nil→Sw
open PySem.Code renaming isFrame→Ry,quiet_builtin→Si
open PySem.F renaming plainAttrs_list→Co,plainAttrs_str→Cr,slot_dict_itemiterator_next→Dx,slot_list_append→Dz,type_list_append→Ea,slot_dict_keyiterator_next→Ei,plain_extend_loop→Hm,slot_str_lower→Hy,type_str_lower→Hz,slot_enumerate_next→Ik,args_tuple_add_2→Jv,slot_list_getattribute→Kc,entry_tuple_add→Kk,plainAttrs_dict→Kl,slot_tuple_hash→Kq,slot_tuple_add→Ku,slot_dict_get→Lg,args_dict_itemiterator_next_1→Lm,args_dict_keyiterator_next_1→Lz,entry_dict_itemiterator_next→Mc,slot_tuple_eq→Me,entry_dict_keyiterator_next→Mg,excBase_ValueError→Nc,excAttr_ValueError→Nd,slot_dict_iter→Of,args_enumerate_next_1→Om,args_dict_get_3→Oo,entry_enumerate_next→Pg,entry_dict_get→Pj,slot_dict_items_iter→Po,slot_str_upper→Pq,type_str_upper→Pr,entry_bexc_ga→Qj,slot_dict_len→Qk,slot_str_join→Ql,type_str_join→Qm,args_bexc_ga→Qx,entry_extend_loop→Rm,plain_list_iadd→Tf,slot_int_rmul→Ut
open PySem.Heap renaming get?_push_of_some→Af,lt_size→An,get?_push_size→Av,get?_update_other→Bq,get?_update_self→De,SameBut→Ep,size_push→Hd,get?_none_of_le→Lp,ExtBut→Ts
open PySem.Heap.Ns1 renaming of_empty→Sv
open PySem.Heap.SameBut renaming update→Cv,refl→Ni
open PySem.Obj renaming mapSeq→Eh,mapFields→Ex,data_mapFields→Gm,isFreed_of_fields→Lh,data_mapDictKeys→Qz,isFreed_of_dict→Rn,data_mapDict→Uj
open PySem.Paired renaming length→Cz
open PySem.PassesOwn renaming never→Dv
open PySem.PyData renaming canLayAll0→Bs,depthAll→Cd,eqv→Cy,canLay0→Dg,depth→Et,strOk→Fb,depthAll→Fe,eqvAll→Fv,canLay0→Gx,canLayAll0→Hn,shownAll→Jl,depth→Ms,showableAll→Mu,hasDictAll→Ti
open PySem.PyData.str renaming inj→Qn
open PySem.SeqAt renaming EqAt→Qo
open PySem.SeqAt.EqAt renaming str_str→Sg
open PySem.Str renaming ofString→Ag,empty→Ou,join→Qv
open PySem.Txt renaming lower→Hv,slice→Oy,join→Uc,upper→Uy
open PySem.W renaming Frag→Ai,findIn→Bj,emptyDict→Cp,keepIn→Ej,kia_one→Fu,kitOne→Gs,fnOf→Hg,looks_findIn→Ih,nsIn→Jc,instObj→Jo,InstAt→Jr,codeIn→Ju,kitAny→Ke,hasDictIn→Ks,specialIn→Kt,callWith_K→Lu,looks_clsIn→Mz,plainGet→Nl,clsIn→Nv,methodCall_KW→Ov,mroIn→Py,plainGet_of→Rf,looks_mroIn→Rj,Frag→Rq,takesIn→Rx,check_slot→Sk,mg_of→Ss,plainOver→Tp,set_plain→Tq,lookIn→Tx,cellsFrom_some→Tz,handedIn→Uo,isFn→Uq,Looks→Ve,takerIn→Vf,makesIn→Vg,OpenLaw→Vh,findObj→Vi
open PySem.W.Looks renaming here→Rt
open PySem.Within renaming cons→Ng
namespace L2
open PySem PySem.Spec PyProof.Rows
abbrev Key:=Sum Int Str
def keyIs:Key->Value->Bool
 |.inl k,v=>Value.isInt k v
 |.inr x,v=>Value.isStrOf x v
def keyH(w:World):Key->Int
 |.inl k=>hashInt k
 |.inr x=>hashStr w x
theorem q0v:∀{k:Key} {v:Value},keyIs k v=true->(∃i t,k=Sum.inl i/\v=Value.int i t)\/(∃x t,k=Sum.inr x/\v=Value.str x t)
 |.inl i,v,h=>by
  obtain⟨t,e⟩:=Value.isInt_shape (k:=i) (v:=v) h;exact .inl ⟨i,t,rfl,e⟩
 |.inr x,v,h=>by
  obtain⟨t,e⟩:=Value.isStrOf_shape h;exact .inr ⟨x,t,rfl,e⟩
theorem z3g(i:Int)(t:Tok):keyIs (.inl i) (.int i t)=true:=by simp[keyIs,Value.isInt]
theorem z3h(x:Str)(t:Tok):keyIs (.inr x) (.str x t)=true:=by simp[keyIs,Value.isStrOf]
theorem key_ll(a b:Int):decide ((Sum.inl a:Key)=Sum.inl b)=(a==b):=by grind
theorem key_rr(a b:Str):decide ((Sum.inr a:Key)=Sum.inr b)=decide (a=b):=by grind
theorem key_lr(a:Int)(b:Str):decide ((Sum.inl a:Key)=Sum.inr b)=false:=decide_eq_false (fun q=>nomatch q)
theorem key_rl(a:Str)(b:Int):decide ((Sum.inr a:Key)=Sum.inl b)=false:=decide_eq_false (fun q=>nomatch q)
def mixKind(prog:Program)(w:World):PySem.KeyKind prog w Key where
 is:=keyIs
 hash:=keyH w
 inj:=fun v a b ha hb=>by
  rcases q0v ha with⟨i,t,rfl,rfl⟩|⟨x,t,rfl,rfl⟩
  ·rcases q0v hb with⟨j,u,rfl,e⟩|⟨y,u,rfl,e⟩
   ·injection e with e1 _;rw[e1]
   ·exact nomatch e
  ·rcases q0v hb with⟨j,u,rfl,e⟩|⟨y,u,rfl,e⟩
   ·exact nomatch e
   ·injection e with e1 _;rw[e1]
 byValue:=fun k v h=>by
  rcases q0v h with⟨i,t,rfl,rfl⟩|⟨x,t,rfl,rfl⟩<;>rfl
 pyHash:=fun hv h=>by
  rcases q0v hv with⟨i,t,rfl,rfl⟩|⟨x,t,rfl,rfl⟩
  ·exact wpAny_pyHash_int h
  ·exact wpAny_pyHash_str h
 eqBool:=fun hu hv h=>by
  rcases q0v hu with⟨i,t,rfl,rfl⟩|⟨x,t,rfl,rfl⟩
  ·rcases q0v hv with⟨j,u,rfl,rfl⟩|⟨y,u,rfl,rfl⟩
   ·rw[key_ll] at h;exact wpAny_eqBool_int h
   ·rw[key_lr] at h;exact Qo.int_str i t y u _ _ _ _ h
  ·rcases q0v hv with⟨j,u,rfl,rfl⟩|⟨y,u,rfl,rfl⟩
   ·rw[key_rl] at h;exact Qo.str_int x t j u _ _ _ _ h
   ·rw[key_rr] at h;exact wpAny_eqBool_str h
 «strs» := fun k x t v h=>by
  rcases q0v h with⟨i,u,rfl,e⟩|⟨y,u,rfl,e⟩
  ·exact nomatch e
  ·injection e with e1 _
   subst e1
   cases v<;>rfl
theorem q9s(prog:Program)(w:World)(i:Int)(t:Tok):(mixKind prog w).is (.inl i) (.int i t)=true:=z3g i t
theorem q9t(prog:Program)(w:World)(x:Str)(t:Tok):(mixKind prog w).is (.inr x) (.str x t)=true:=z3h x t
inductive V where
 |non|bl (b:Bool)|int (i:Int)|str (x:Str)|byt (b:Array UInt8)|flt (b:UInt64)|ref (a:Addr)|ty (n:String)
 deriving DecidableEq
def RelV:V->Value->Prop
 |.non,u=>u=Value.none
 |.bl b,u=>u=Value.bool b
 |.int i,u=>∃t,u=Value.int i t
 |.str x,u=>∃t,u=Value.str x t
 |.byt b,u=>∃t,u=Value.bytes b t
 |.flt b,u=>∃t,u=Value.float b t
 |.ref a,u=>u=Value.ref a
 |.ty n,u=>u=Value.type n
abbrev Vals:List V->List Value->Prop:=Dd RelV
theorem Vals.length(r:Vals xs us):xs.length=us.length:=Cz r
theorem Vals.get:∀{xs:List V} {us:List Value} {i:Nat} {x:V},Vals xs us->xs[i]?=some x->∃u,us[i]?=some u/\RelV x u
 |_,_,_,_,.nil,e=>by simp at e
 |_,_,0,_,.cons r _,e=>by simp at e;subst e;exact⟨_,rfl,r⟩
 |_,_,i+1,x,.cons _ t,e=>by
  obtain⟨u,h1,h2⟩:=Vals.get (i:=i) (x:=x) t (by simpa using e);exact⟨u,by simpa using h1,h2⟩
theorem Vals.set{x:V}{u:Value}(r:RelV x u):∀{xs:List V} {us:List Value} (i:Nat),Vals xs us->Vals (xs.set i x) (us.set i u)
 |_,_,_,.nil=>.nil
 |_,_,0,.cons _ t=>.cons r t
 |_,_,i+1,.cons q t=>.cons q (Vals.set r i t)
theorem Vals.append:∀{xs ys:List V} {us ws:List Value},Vals xs us->Vals ys ws->Vals (xs++ys) (us++ws)
 |_,_,_,_,.nil,s=>s
 |_,_,_,_,.cons r t,s=>.cons r (Vals.append t s)
theorem Vals.take:∀{xs:List V} {us:List Value} (n:Nat),Vals xs us->Vals (xs.take n) (us.take n)
 |_,_,0,_=>.nil
 |_,_,_+1,.nil=>.nil
 |_,_,n+1,.cons r t=>.cons r (Vals.take n t)
theorem Vals.drop:∀{xs:List V} {us:List Value} (n:Nat),Vals xs us->Vals (xs.drop n) (us.drop n)
 |_,_,0,r=>r
 |_,_,_+1,.nil=>.nil
 |_,_,n+1,.cons _ t=>Vals.drop n t
theorem Vals.none_of:∀{xs:List V} {us:List Value} {i:Nat},Vals xs us->xs[i]?=none->us[i]?=none:=fun{xs us i} r e=>by
 have h1:=r.length;have h2:=Nk.mp e;exact Nk.mpr (by lia)
def RelO:Option V->Option Value->Prop
 |some v,some u=>RelV v u
 |none,none=>True
 |_,_=>False
def KV{κ:Type}:List (κ×V)->List (κ×Value)->Prop:=Dd fun(p:κ×V) (q:κ×Value)=>p.1=q.1/\RelV p.2 q.2
def kV:Key->V
 |.inl i=>.int i
 |.inr x=>.str x
inductive HO where
 |lst (xs:List V)
 |tup (xs:List V)
 |dK (kvs:List (Key×V))|dT (kvs:List (List Key×V))
 |set (S:Int->Bool) (n:Nat)
 |ins (C dx:Addr) (fs:List (Str×V))
 |own (x:Addr)
 |xd (fs:List (Str×V))
 |met (f x:Addr)
 |rng (lo hi:Int)
 |frz (o:Obj) (u:HO)
 |tbl (ps:Array Value)
 |ext (φ:Heap->Prop)
abbrev Hp:=Addr->Option HO
def upd(H:Hp)(a:Addr)(o:HO):Hp:=fun b=>if b=a then some o else H b
theorem q0b:upd H a o a=some o:=by unfold upd;rw[if_pos rfl]
theorem q0c(h:b≠a):upd H a o b=H b:=by unfold upd;rw[if_neg h]
theorem z3i:upd (upd H a o) a u=upd H a u:=by
 funext b;unfold upd;split<;>rfl
theorem q9u{H:Hp}(h:H a=some o)(h':H b=some u)(d:o≠u):a≠b:=by grind
theorem q0j{H:Hp}(h:H a=some o)(h':H b=none):a≠b:=by
 intro e;subst e;rw[h] at h';cases h'
section
variable(P:Program)(w:World)
def ObjOk(H:Hp)(h:Heap)(a:Addr):HO->Prop
 |.lst xs=>xs.length<=sizeLine/\∃(its:List Value) (n:Nat),Vals xs its/\h.get? a=some { cls:=.type "list",data:=.seq its.toArray n }
 |.tup xs=>xs.length<=sizeLine/\∃its:List Value,Vals xs its/\IsTup h a its.toArray
 |.dK kvs=>kvs.length<=sizeLine/\(a==Cw)=false/\∃vs,KV kvs vs/\h.DictOf (mixKind P w) a vs
 |.dT kvs=>kvs.length<=sizeLine/\(a==Cw)=false/\∃xs:List (List Key×Addr×Value),
   Dd (fun(p:List Key×V) (q:List Key×Addr×Value)=>p.1=q.1/\H q.2.1=some (.tup (p.1.map kV))/\RelV p.2 q.2.2) kvs xs /\
   ∃o es ep,h.get? a=some o/\o.ExactDict/\o.data=.dict es ep/\es.toList=xs.map (Ln (Fp (mixKind P w)))/\(xs.map (·.1)).Nodup
 |.set S n=>h.SetOf (intKind P w) a S n
 |.ins C dx fs=>H dx=some (.own a)/\fs.length<=1000/\dx≠a/\h.get? a=some (Jo C dx) /\
   ∃mA,h.Ns1 dx mA/\(∀f,RelO (fs.lookup f) (mA f))/\Lo mA (fs.map (·.1))
 |.own _=>∃o,h.get? a=some o
 |.xd fs=>∃mA,h.Ns1 a mA/\∀f,RelO (fs.lookup f) (mA f)
 |.rng lo hi=>∃t u v,h.get? a=some { cls:=.type "range",data:=.fields #[.int lo t,.int hi u,.int 1 v] }
 |.frz o u=>h.get? a=some o/\ObjOk H h a u
 |.tbl ps=>h.get? a=some { cls:=.none,data:=.fields ps }
 |.met f x=>h.get? a=some (W.methodObj (.ref f) (.ref x))
 |.ext φ=>φ h/\(∃o,h.get? a=some o)/\∀h1 h2:Heap,φ h1->(∀o,h1.get? a=some o->h2.get? a=some o)->φ h2
def HOk(H:Hp)(h:Heap):Prop:=∀a o,H a=some o->ObjOk P w H h a o
end
section
variable{P:Program}{w:World}{H H':Hp}{h h':Heap}{a:Addr}{o:HO}
theorem ObjOk.lt(x:ObjOk P w H h a o):a<h.objs.size:=by
 cases o with
 |lst xs=>obtain⟨_,_,_,_,e⟩:=x;exact An e
 |tup xs=>obtain⟨_,_,_,p⟩:=x;exact p.lt
 |dK kvs=>obtain⟨_,_,_,_,o,_,_,e,_⟩:=x;exact An e
 |dT kvs=>obtain⟨_,_,_,_,o,_,_,e,_⟩:=x;exact An e
 |set S n=>obtain⟨o,_,_,_,e,_⟩:=x;exact An e
 |ins C dx fs=>obtain⟨_,_,_,e,_⟩:=x;exact An e
 |own y=>obtain⟨_,e⟩:=x;exact An e
 |xd fs=>obtain⟨_,⟨_,_,_,e,_⟩,_⟩:=x;exact An e
 |rng lo hi=>obtain⟨_,_,_,e⟩:=x;exact An e
 |frz ob u=>obtain⟨e,_⟩:=x;exact An e
 |tbl ps=>exact An (show h.get? a=some _ from x)
 |met f y=>exact An (show h.get? a=some _ from x)
 |ext φ=>obtain⟨_,⟨_,e⟩,_⟩:=x;exact An e
theorem Dd.mapP{α β:Type}{F G:α->β->Prop}:∀{l₁:List α} {l₂:List β},Dd F l₁ l₂->(∀a b,F a b->G a b)->Dd G l₁ l₂
 |_,_,.nil,_=>.nil
 |_,_,.cons r t,f=>.cons (f _ _ r) (Dd.mapP t f)
theorem Dd.imp'{F G:α->β->Prop}(f:∀a b,F a b->G a b){l₁:List α}{l₂:List β}(r:Dd F l₁ l₂):Dd G l₁ l₂:=Dd.mapP r f
theorem ObjOk.stay(x:ObjOk P w H h a o)(k:∀b u,(b=a\/H b=some (.own a))->h.get? b=some u->h'.get? b=some u)(ho:∀b,H b=some (.own a)->H' b=some (.own a))(ht:∀b xs,H b=some (.tup xs)->H' b=some (.tup xs)):ObjOk P w H' h' a o:=by
 induction o with
 |lst xs=>obtain⟨z,its,n,r,e⟩:=x;exact⟨z,its,n,r,k _ _ (.inl rfl) e⟩
 |tup xs=>obtain⟨z,its,r,ob,e,c⟩:=x;exact⟨z,its,r,ob,k _ _ (.inl rfl) e,c⟩
 |dK kvs=>obtain⟨z,y,vs,r,ob,es,ep,e,c⟩:=x;exact⟨z,y,vs,r,ob,es,ep,k _ _ (.inl rfl) e,c⟩
 |dT kvs =>
  obtain⟨z,y,xs,r,ob,es,ep,e,c⟩:=x;exact⟨z,y,xs,Dd.mapP r fun p q z=>⟨z.1,ht _ _ z.2.1,z.2.2⟩,ob,es,ep,k _ _ (.inl rfl) e,c⟩
 |set S n=>obtain⟨ob,es,ep,t,e,c⟩:=x;exact⟨ob,es,ep,t,k _ _ (.inl rfl) e,c⟩
 |ins C dx fs =>
  obtain⟨d,z,ne,e,mA,⟨od,es,ep,e2,c⟩,r⟩:=x;exact⟨ho _ d,z,ne,k _ _ (.inl rfl) e,mA,⟨od,es,ep,k _ _ (.inr d) e2,c⟩,r⟩
 |own y=>obtain⟨ob,e⟩:=x;exact⟨ob,k _ _ (.inl rfl) e⟩
 |xd fs=>obtain⟨mA,⟨od,es,ep,e,c⟩,r⟩:=x;exact⟨mA,⟨od,es,ep,k _ _ (.inl rfl) e,c⟩,r⟩
 |rng lo hi=>obtain⟨t,u,v,e⟩:=x;exact⟨t,u,v,k _ _ (.inl rfl) e⟩
 |frz ob u ih=>obtain⟨e,q⟩:=x;exact⟨k _ _ (.inl rfl) e,ih q⟩
 |tbl ps =>
  have e:h.get? a=some { cls:=.none,data:=.fields ps }:=x;exact k a _ (.inl rfl) e
 |met f y =>
  have e:=x;exact k a _ (.inl rfl) e
 |ext φ=>obtain⟨p,⟨o,e⟩,st⟩:=x;exact⟨st _ _ p fun o q=>k _ _ (.inl rfl) q,⟨o,k _ _ (.inl rfl) e⟩,st⟩
theorem HOk.lt(x:HOk P w H h)(e:H a=some o):a<h.objs.size:=(x a o e).lt
theorem HOk.fresh(x:HOk P w H h)(e:h.objs.size<=a):H a=none:=by
 cases q:H a with
 |none=>rfl
 |some u=>exact absurd (Bf (x.lt q) e) (Fq _)
theorem HOk.kept(x:HOk P w H h)(k:∀b u,h.get? b=some u->h'.get? b=some u):HOk P w H h':=fun a o e =>
 (x a o e).stay (fun b u _ q=>k b u q) (fun _ q=>q) fun _ _ q=>q
theorem HOk.laid(x:HOk P w H h)(k:∀b u,h.get? b=some u->h'.get? b=some u)(hp:h.objs.size<=a)(new:ObjOk P w (upd H a o) h' a o):HOk P w (upd H a o) h':=fun b u e=>by
 have hn:=x.fresh hp;by_cases hb:b=a
 ·subst hb;rw[q0b] at e;cases e;exact new
 ·rw[q0c hb] at e;exact(x b u e).stay (fun c v _ q=>k c v q) (fun c q=>by rw[q0c (q0j q hn)];exact q) fun c xs q=>by rw[q0c (q0j q hn)];exact q
end
def Rd(H:Hp)(a:Addr)(u:HO):Prop:=H a=some u\/∃o,H a=some (.frz o u)
theorem Rd.of(h:H a=some u):Rd H a u:=.inl h
theorem Rd.ok(r:Rd H a u)(x:HOk P w H h):ObjOk P w H h a u:=by
 rcases r with r|⟨o,r⟩
 ·exact x a u r
 ·obtain⟨_,q⟩:=x a _ r;exact q
def Mut:Option HO->Prop
 |some (.lst _)=>True
 |some (.dK _)=>True
 |some (.dT _)=>True
 |some (.set _ _)=>True
 |some (.ins _ _ _)=>True
 |some (.ext _)=>True
 |_=>False
section
variable{P:Program}{w:World}{H:Hp}{h h':Heap}{x e:Addr}{o':HO}
theorem HOk.write(ok:HOk P w H h)(mu:Mut (H x))(he:e=x\/H e=some (.own x))(k:∀b u,b≠e->h.get? b=some u->h'.get? b=some u)(heo:∃u,h'.get? e=some u)(new:ObjOk P w (upd H x o') h' x o'):HOk P w (upd H x o') h':=fun b u q=>by
 have nown:∀c y,H c=some (.own y)->c≠x:=fun c y r z=>by subst z;rw[r] at mu;exact mu
 have ntup:∀c xs,H c=some (.tup xs)->c≠x:=fun c xs r z=>by subst z;rw[r] at mu;exact mu
 by_cases hb:b=x
 ·subst hb;rw[q0b] at q;cases q;exact new
 ·rw[q0c hb] at q;by_cases hbe:b=e
  ·have q':H b=some (.own x):=by
    rcases he with z|z
    ·grind
    ·rw[hbe];exact z
   rw[q] at q';cases q';obtain⟨v,hv⟩:=heo;exact⟨v,by rw[hbe];exact hv⟩
  ·refine(ok b u q).stay (fun c v hc r=>k c v ?_ r) (fun c r=>by rw[q0c (nown c b r)];exact r) fun c xs r=>by rw[q0c (ntup c xs r)];exact r
   rcases hc with rfl|hc
   ·exact hbe
   ·grind
end
structure Un (fs ex:List Addr) (H H':Hp) (h h':Heap):Prop where
 keep:∀b o,h.get? b=some o->H b=none->b∉fs->b∉ex->h'.get? b=some o
 slot:∀b o,h.get? b=some o->H b=none->b∈fs->b∉ex->∃sl,h'.get? b=some { o with slots:=sl }
 free:∀b o,h.get? b=some o->H b=none->b∉ex->H' b=none
 there:∀b o,h.get? b=some o->b∉ex->∃o',h'.get? b=some o'
 tups:∀b xs,H b=some (.tup xs)->H' b=some (.tup xs)
 frzs:∀b o u,H b=some (.frz o u)->H' b=some (.frz o u)
 tbls:∀b ps,H b=some (.tbl ps)->∃more,H' b=some (.tbl (ps++more))
section
variable{fs fs' ex ex':List Addr}{H H1 H2:Hp}{h h1 h2 h':Heap}{a x e:Addr}{o:HO}
theorem Un.any(u:Un fs ex H H1 h h1)(q:h.get? b=some ob)(n:H b=none)(hx:b∉ex):∃sl,h1.get? b=some { ob with slots:=sl }:=by
 by_cases hb:b∈fs
 ·exact u.slot b ob q n hb hx
 ·exact⟨ob.slots,u.keep b ob q n hb hx⟩
theorem Un.trans(a:Un fs ex H H1 h h1)(b:Un fs ex H1 H2 h1 h2):Un fs ex H H2 h h2 where
 keep:=fun c ob q n hc hx=>b.keep c ob (a.keep c ob q n hc hx) (a.free c ob q n hx) hc hx
 slot:=fun c ob q n hc hx=>by
  obtain⟨sl,e1⟩:=a.slot c ob q n hc hx;obtain⟨sl',e2⟩:=b.slot c _ e1 (a.free c ob q n hx) hc hx;exact⟨sl',e2⟩
 free:=fun c ob q n hx=>by
  obtain⟨o',e1⟩:=a.there c ob q hx;exact b.free c o' e1 (a.free c ob q n hx) hx
 there:=fun c ob q hx=>by
  obtain⟨o',e1⟩:=a.there c ob q hx;exact b.there c o' e1 hx
 tups:=fun c xs q=>b.tups c xs (a.tups c xs q)
 frzs:=fun c ob xs q=>b.frzs c ob xs (a.frzs c ob xs q)
 tbls:=fun c ps q=>by
  obtain⟨m1,e1⟩:=a.tbls c ps q;obtain⟨m2,e2⟩:=b.tbls c _ e1;exact⟨m1++m2,by rw[e2,Ro]⟩
theorem Un.kept(k:∀b u,h.get? b=some u->h'.get? b=some u):Un fs ex H H h h' :=
 ⟨fun b ob q _ _ _=>k b ob q,fun b ob q _ _ _=>⟨ob.slots,k b ob q⟩,fun _ _ _ n _=>n,fun b ob q _=>⟨ob,k b ob q⟩,fun _ _ q=>q,fun _ _ _ q=>q,fun _ ps q=>⟨#[],by rw[q];simp⟩⟩
theorem Un.refl:Un fs ex H H h h:=Un.kept fun _ _ q=>q
theorem Un.laid(k:∀b u,h.get? b=some u->h'.get? b=some u)(hp:h.objs.size<=a)(hn:H a=none):Un fs ex H (upd H a o) h h' where
 keep:=fun b u q _ _ _=>k b u q
 slot:=fun b u q _ _ _=>⟨u.slots,k b u q⟩
 free:=fun b u q n _=>by rw[q0c (Bd (Bf (An q) hp))];exact n
 there:=fun b u q _=>⟨u,k b u q⟩
 tups:=fun b xs q=>by rw[q0c (q0j q hn)];exact q
 frzs:=fun b u xs q=>by rw[q0c (q0j q hn)];exact q
 tbls:=fun b ps q=>⟨#[],by rw[q0c (q0j q hn),q];simp⟩
theorem Un.write(mu:Mut (H x))(he:e=x\/H e=some (.own x))(k:∀b u,b≠e->h.get? b=some u->h'.get? b=some u)(heo:∃u,h'.get? e=some u):Un fs ex H (upd H x o) h h':=by
 have hx:∀b,H b=none->b≠x:=fun b n z=>by subst z;rw[n] at mu;exact mu
 have hb:∀b,H b=none->b≠e:=fun b n z=>by
  subst z;rcases he with r|r
  ·exact hx b n r
  ·rw[n] at r;cases r
 have hm:∀b u,H b=some u->¬Mut (some u)->b≠x:=fun b u q nm z=>by subst z;rw[q] at mu;exact nm mu
 refine⟨fun b u q n _ _=>k b u (hb b n) q,fun b u q n _ _=>⟨u.slots,k b u (hb b n) q⟩,fun b u q n _=>by rw[q0c (hx b n)];exact n,fun b u q _=>?_,
  fun b xs q=>by rw[q0c (hm b _ q fun z=>z)];exact q,fun b u xs q=>by rw[q0c (hm b _ q fun z=>z)];exact q,fun b ps q=>⟨#[],by rw[q0c (hm b _ q fun z=>z),q];simp⟩⟩
 by_cases hbe:b=e
 ·subst hbe;exact heo
 ·grind
theorem Un.mono(u:Un fs ex H H1 h h1)(hs:∀b∈fs,b∈fs')(hx:∀b∈ex,b∈ex'):Un fs' ex' H H1 h h1 :=
 ⟨fun b ob q n hb he=>u.keep b ob q n (fun z=>hb (hs b z)) fun z=>he (hx b z),fun _ _ q n _ he=>u.any q n fun z=>he (hx _ z),fun b ob q n he=>u.free b ob q n fun z=>he (hx b z),fun b ob q he=>u.there b ob q fun z=>he (hx b z),u.tups,u.frzs,u.tbls⟩
end
def trk(h:Heap)(H:Hp):List Addr:=(List.range h.objs.size).filter fun a=>(H a).isSome
def hidT(h:Heap)(H:Hp):Heap:=W.hideAll h (trk h H)
theorem z3j(h:Heap)(H:Hp):(hidT h H).objs.size=h.objs.size:=W.hideAll_size _ _
theorem z6r(e:h.get? b=some o)(n:H b=none):(hidT h H).get? b=some o :=
 W.hideAll_get _ e fun hm=>by
  have q:=(Ji.mp hm).2;rw[n] at q;simp at q
theorem z9n(e:(hidT h H).get? b=some o):h.get? b=some o/\H b=none:=by
 have e':=W.of_hideAll (trk h H) e;refine⟨e',?_⟩;cases q:H b with
 |none=>rfl
 |some x =>
  have hm:b∈trk h H:=Ji.mpr ⟨List.mem_range.mpr (An e'),by simp[q]⟩;have z:(hidT h H).get? b=none:=W.hideAll_none (trk h H) hm;rw[z] at e;cases e
def allNews(g h:Heap)(L:Addr):List (Addr×Obj):=(List.range h.objs.size).filterMap fun a=>if a=L\/(g.get? a).isSome=true then none else(h.get? a).map fun o=>(a,o)
def rest(g h:Heap)(L d:Addr):List (Addr×Obj):=(allNews g h L).filter fun p=>decide (p.1≠d)
open PySem PySem.Spec PyProof.Rows
structure Mod (K:Ai) (mg:Str->Option Value) (base:Heap):Prop where
 kin:K.In base
 glob:base.Ns Cc mg
 blt:∃mb,base.Ns builtinsNs mb/\∀x:Str,x ≠ "__name__" -> mb x=Ic x
 nolimit:base.NoLimit
structure Cx where
 prog:Program
 w:World
 K:Ai
 mg:Str->Option Value
 base:Heap
 A:Around
 N:List Str
 s₀:Ae
 H₀:Hp
 env:Env
 outer:List Env
 stack:List Env
 ex:List Addr
 fn:Str->Bool
 calm:Bool
 pn:List (Addr×Obj)
 xe:Value->Ae->Prop
def frs(l:List Env):List Addr:=l.filterMap (·.frame)
abbrev Cx.fs(X:Cx):List Addr:=frs X.outer
def Vis(sc:Scope)(x:Str):Prop:=sc.names.lookup x=some .local\/sc.names.lookup x=some .cell\/sc.names.lookup x=some .free
def Loc(sc:Scope)(x:Str):Prop:=sc.names.lookup x=some .local\/sc.names.lookup x=some .cell
def Look(env:Env)(h:Heap)(m:Str->Option Value)(x:Str)(u:Value):Prop :=
 (env.kindOf x=some .local/\m x=some u)\/((env.kindOf x=some .cell\/env.kindOf x=some .free)/\∃c,env.cells.lookup x=some c/\h.IsCell c (some u))
structure Cx.Ok (X:Cx):Prop where
 mod:Mod X.K X.mg X.base
 kind:X.env.scope.kind=.function
 glob:X.env.globals=Cc
 blt:X.env.builtins=builtinsNs
 above:X.s₀.heap.objs.size<=X.env.locals
 inj:∀x y c,X.env.cells.lookup x=some c->X.env.cells.lookup y=some c->x=y
 has:∀x,(X.env.kindOf x=some .cell\/X.env.kindOf x=some .free)->∃c,X.env.cells.lookup x=some c
 cab:∀x c,X.fn x=true->X.env.cells.lookup x=some c->X.s₀.heap.objs.size<=c
 hd:X.calm=true->X.A.handled=none
 frames:X.A.frames=some X.stack
 stk:X.stack=X.outer\/(X.stack=X.env::X.outer/\X.env.frame=some X.env.locals)
 exf:∀b∈X.ex,b≠X.env.locals/\∀x c,X.env.cells.lookup x=some c->c≠b
 bs:∀b o,X.base.get? b=some o->X.s₀.heap.get? b=some o/\X.H₀ b=none
 bsz:X.base.objs.size<=X.s₀.heap.objs.size
 noex:∀b o,X.base.get? b=some o->b∉X.ex
 exfs:∀b∈X.ex,b∉X.fs
 funs:X.s₀.heap.FunFrames X.base X.outer
 frf:∀b∈X.fs,X.H₀ b=none
structure Inv (X:Cx) (pins:List (Addr×Obj)) (σ:List (Option V)) (H:Hp) (s:Ae):Prop where
 ok:X.Ok
 os:s.os=X.s₀.os
 bare:Ki s.gens
 base:Un X.fs X.ex X.H₀ H X.s₀.heap s.heap
 loc:∃m,s.heap.Ns X.env.locals m/\∀(i:Nat) (x:Str) (v:V),X.N[i]?=some x->σ[i]?=some (some v)->Vis X.env.scope x->∃u,RelV v u/\Look X.env s.heap m x u
 cell:∀x c,X.env.cells.lookup x=some c->∃v,s.heap.IsCell c v
 free:H X.env.locals=none
 freeC:∀x c,X.env.cells.lookup x=some c->H c=none
 pin:∀p∈X.pn++pins,s.heap.get? p.1=some p.2/\H p.1=none/\p.1≠X.env.locals/\p.1∉X.fs/\∀v,p.2.data≠.cell v
 hok:HOk X.prog X.w H s.heap
 len:σ.length=X.N.length
section
variable{X:Cx}{pins:List (Addr×Obj)}{σ:List (Option V)}{H H':Hp}{s:Ae}{h':Heap}
theorem Cx.Ok.nofr(ok:X.Ok)(e:X.base.get? b=some o):b∉X.fs:=fun hb=>by
 have:=(ok.funs.mem hb).1;rw[e] at this;cases this
theorem Inv.bs(I:Inv X pins σ H s):∀b o,X.base.get? b=some o->s.heap.get? b=some o/\H b=none:=fun b o e =>
 ⟨I.base.keep b o (I.ok.bs b o e).1 (I.ok.bs b o e).2 (I.ok.nofr e) (I.ok.noex b o e),I.base.free b o (I.ok.bs b o e).1 (I.ok.bs b o e).2 (I.ok.noex b o e)⟩
theorem Inv.bk(I:Inv X pins σ H s):∀b o,X.base.get? b=some o->s.heap.get? b=some o:=fun b o e=>(I.bs b o e).1
theorem Inv.mod(I:Inv X pins σ H s):Mod X.K X.mg X.base:=I.ok.mod
theorem Inv.kIn(I:Inv X pins σ H s):X.K.In s.heap:=I.ok.mod.kin.keeps I.bk
theorem Inv.nolimit(I:Inv X pins σ H s):s.heap.NoLimit:=I.ok.mod.nolimit.keeps I.bk
theorem Inv.fr(I:Inv X pins σ H s):∃m,Fr X.base X.env.locals s.heap m :=
 let ⟨m,hn,_⟩:=I.loc
 ⟨m,hn,I.bk,Bi I.ok.bsz I.ok.above⟩
theorem Inv.lt(I:Inv X pins σ H s):X.env.locals<s.heap.objs.size:=let ⟨_,hn,_⟩:=I.loc;hn.lt
theorem Inv.sz(I:Inv X pins σ H s):X.s₀.heap.objs.size<=s.heap.objs.size:=Bi I.ok.above (Ie I.lt)
theorem Inv.nofs(I:Inv X pins σ H s){a:Addr}(h:s.heap.objs.size<=a):a∉X.fs:=fun hb=>by
 obtain⟨_,o,ho,_⟩:=I.ok.funs.mem hb;exact absurd (Bf (An ho) (Bi I.sz h)) (Fq _)
theorem Inv.cne(I:Inv X pins σ H s):∀x c,X.env.cells.lookup x=some c->c≠X.env.locals:=fun x c e z=>by
 obtain⟨v,o,ho,hd⟩:=I.cell x c e;obtain⟨m,⟨o',es,ep,ho',hd',_⟩,_⟩:=I.loc;rw[z,ho'] at ho;cases ho;rw[hd'] at hd;cases hd
theorem Inv.funs(I:Inv X pins σ H s):s.heap.FunFrames X.base X.outer:=by
 have all:∀(l:List Env),(∀b∈frs l,b∈X.fs)->X.s₀.heap.FunFrames X.base l->s.heap.FunFrames X.base l:=by
  intro l;induction l with
  |nil=>intro _ _;trivial
  |cons env r ih =>
   intro hs hl;obtain⟨hk,⟨L,o,hf,hn,ho,hd⟩,hr⟩:=hl;have hL:=hs L (by unfold frs;rw[Mh,hf];exact Au);obtain⟨sl,e⟩:=I.base.slot L o ho (I.ok.frf L hL) hL fun z=>I.ok.exfs L z hL;exact⟨hk,⟨L,_,hf,hn,e,hd⟩,ih (fun b hb=>hs b (by unfold frs;rw[Mh,hf];exact Ar _ hb)) hr⟩
 exact all X.outer (fun _ hb=>hb) I.ok.funs
theorem Inv.stack(I:Inv X pins σ H s):s.heap.FunFrames X.base X.stack:=by
 rcases I.ok.stk with e|⟨e,hf⟩
 ·rw[e];exact I.funs
 ·rw[e];obtain⟨m,hn,_⟩:=I.loc;refine .cons (by rw[I.ok.kind];decide) hf hn ?_ I.funs;exact Lp (Bi I.ok.bsz I.ok.above)
theorem Inv.stkSub(I:Inv X pins σ H s):∀b∈frs X.stack,b∈X.env.locals::X.fs:=fun b hb=>by
 rcases I.ok.stk with e|⟨e,hf⟩
 ·grind
 ·rw[e] at hb;unfold frs at hb;rw[Mh,hf] at hb;exact hb
theorem Inv.stkFree(I:Inv X pins σ H s):∀b∈frs X.stack,H b=none:=fun b hb=>by
 rcases Be.mp (I.stkSub b hb) with e|hb
 ·rw[e];exact I.free
 ·obtain⟨_,o,ho,_⟩:=I.ok.funs.mem hb;exact I.base.free b o ho (I.ok.frf b hb) fun z=>I.ok.exfs b z hb
theorem Inv.step{ch:List Addr}(I:Inv X pins σ H s)(hch:∀b∈ch,(b∈X.ex\/X.s₀.heap.objs.size<=b)/\b≠X.env.locals/\(∀x c,X.env.cells.lookup x=some c->c≠b)/\∀p∈X.pn++pins,p.1≠b)(keep:∀b o,b≠X.env.locals->b∉X.fs->b∉ch->s.heap.get? b=some o->H b=none->h'.get? b=some o)(slot:∀b o,b≠X.env.locals->b∈X.fs->b∉ch->s.heap.get? b=some o->H b=none->∃sl,h'.get? b=some { o with slots:=sl })(free:∀b o,b∉ch->s.heap.get? b=some o->H b=none->H' b=none)(there:∀b o,b∉ch->s.heap.get? b=some o->∃o',h'.get? b=some o')(tups:∀b xs,H b=some (.tup xs)->H' b=some (.tup xs))(frzs:∀b o u,H b=some (.frz o u)->H' b=some (.frz o u))(tbls:∀b ps,H b=some (.tbl ps)->∃more,H' b=some (.tbl (ps++more)))(ns:∀m,s.heap.Ns X.env.locals m->h'.Ns X.env.locals m)(hok:HOk X.prog X.w H' h')(hg:Ki g'):
  Inv X pins σ H' { s with heap:=h',gens:=g',drawn:=d',toks:=t' }:=by
 have neL:∀b o,X.s₀.heap.get? b=some o->b≠X.env.locals:=fun b o e=>Bd (Bf (An e) I.ok.above);have neC:∀b o,X.s₀.heap.get? b=some o->b∉X.ex->b∉ch:=fun b o e hx hb=>by
  rcases(hch b hb).1 with z|z
  ·exact hx z
  ·exact absurd (Bf (An e) z) (Fq _)
 have cellK:∀x c,X.env.cells.lookup x=some c->∀v,s.heap.IsCell c v->h'.IsCell c v:=fun x c e v ⟨o,ho,hd⟩=>by
  have nch:=fun z=>(hch c z).2.2.1 x c e rfl;by_cases hc:c∈X.fs
  ·obtain⟨sl,q⟩:=slot c o (I.cne x c e) hc nch ho (I.freeC x c e);exact⟨_,q,hd⟩
  ·exact⟨o,keep c o (I.cne x c e) hc nch ho (I.freeC x c e),hd⟩
 refine⟨I.ok,I.os,hg,⟨fun b o e n hb hx=>?_,fun b o e n hb hx=>?_,fun b o e n hx=>?_,fun b o e hx=>?_,fun b xs e=>tups b xs (I.base.tups b xs e),fun b o xs e=>frzs b o xs (I.base.frzs b o xs e),fun b ps e=>?_⟩,?_,fun x c e=>?_,?_,fun x c e=>?_,fun p hp=>?_,hok,I.len⟩
 ·exact keep b o (neL b o e) hb (neC b o e hx) (I.base.keep b o e n hb hx) (I.base.free b o e n hx)
 ·obtain⟨sl,e1⟩:=I.base.slot b o e n hb hx;obtain⟨sl',e2⟩:=slot b _ (neL b o e) hb (neC b o e hx) e1 (I.base.free b o e n hx);exact⟨sl',e2⟩
 ·obtain⟨o',e1⟩:=I.base.there b o e hx;exact free b o' (neC b o e hx) e1 (I.base.free b o e n hx)
 ·obtain⟨o',e1⟩:=I.base.there b o e hx;exact there b o' (neC b o e hx) e1
 ·obtain⟨m1,e1⟩:=I.base.tbls b ps e;obtain⟨m2,e2⟩:=tbls b _ e1;exact⟨m1++m2,by rw[e2,Ro]⟩
 ·obtain⟨m,hn,hl⟩:=I.loc;refine⟨m,ns m hn,fun i x v e1 e2 e3=>?_⟩;obtain⟨u,r,l⟩:=hl i x v e1 e2 e3;refine⟨u,r,?_⟩;rcases l with l|⟨k,c,e,z⟩
  ·exact .inl l
  ·exact .inr ⟨k,c,e,cellK x c e _ z⟩
 ·obtain⟨v,z⟩:=I.cell x c e;exact⟨v,cellK x c e v z⟩
 ·obtain⟨m,⟨o,_,_,ho,_⟩,_⟩:=I.loc;exact free _ o (fun z=>(hch _ z).2.1 rfl) ho I.free
 ·obtain⟨v,o,ho,hd⟩:=I.cell x c e;exact free c o (fun z=>(hch c z).2.2.1 x c e rfl) ho (I.freeC x c e)
 ·obtain⟨e,n,ne,nf,d⟩:=I.pin p hp;have nch:=fun z=>(hch p.1 z).2.2.2 p hp rfl
  exact⟨keep p.1 p.2 ne nf nch e n,free p.1 p.2 nch e n,ne,nf,d⟩
theorem Inv.un(I:Inv X pins σ H s)(u:Un X.fs [] H H' s.heap h')(hok:HOk X.prog X.w H' h'):Inv X pins σ H' { s with heap:=h',toks:=t' }:=by
 obtain⟨m,⟨o,es,ep,ho,r⟩,_⟩:=id I.loc;obtain⟨sl,hL⟩:=u.any ho I.free (by simp);exact I.step (g':=s.gens) (d':=s.drawn) (ch:=[]) (fun _ z=>nomatch z) (fun b o _ hb _ e n=>u.keep b o e n hb (by simp)) (fun b o _ hb _ e n=>u.slot b o e n hb (by simp)) (fun b o _ e n=>u.free b o e n (by simp)) (fun b o _ e=>u.there b o e (by simp)) u.tups u.frzs u.tbls (fun m' hm=>by
  obtain⟨o',es',ep',ho',r'⟩:=hm;rw[ho] at ho';cases ho';exact⟨_,es',ep',hL,r'⟩) hok I.bare
theorem Inv.call(I:Inv X pins σ H s)(u:Un (frs X.stack) ch H H' s.heap h')(hok:HOk X.prog X.w H' h')(hg:Ki g')(hch:∀b∈ch,(b∈X.ex\/X.s₀.heap.objs.size<=b)/\b≠X.env.locals/\(∀x c,X.env.cells.lookup x=some c->c≠b)/\∀p∈X.pn++pins,p.1≠b):
  Inv X pins σ H' { s with heap:=h',gens:=g',drawn:=d',toks:=t' }:=by
 obtain⟨m,⟨o,es,ep,ho,r⟩,_⟩:=id I.loc;obtain⟨sl,hL⟩:=u.any ho I.free fun z=>(hch _ z).2.1 rfl
 exact I.step hch (fun b o hL hb hc e n=>u.keep b o e n (fun z=>(Be.mp (I.stkSub b z)).elim hL hb) hc) (fun b o _ _ hc e n=>u.any e n hc) (fun b o hc e n=>u.free b o e n hc) (fun b o hc e=>u.there b o e hc) u.tups u.frzs u.tbls (fun m' hm=>by
  obtain⟨o',es',ep',ho',r'⟩:=hm;rw[ho] at ho';cases ho';exact⟨_,es',ep',hL,r'⟩) hok hg
theorem Inv.turned(I:Inv X pins σ H s)(k:∀b o,b≠it->s.heap.get? b=some o->h'.get? b=some o)(hn:H it=none)(hL:it≠X.env.locals)(h1:it∈X.ex\/X.s₀.heap.objs.size<=it)(h2:∀x c,X.env.cells.lookup x=some c->c≠it)(h3:∀p∈X.pn++pins,p.1≠it):Inv X pins σ H { s with heap:=h',toks:=t' }:=by
 have nit:∀b u,H b=some u->b≠it:=fun b u e z=>by rw[z,hn] at e;cases e
 refine I.step (g':=s.gens) (d':=s.drawn) (ch:=[it]) (fun b hb=>?_) (fun b o _ _ hc e _=>k b o (fun z=>hc (by simp[z])) e) (fun b o _ _ hc e _=>⟨o.slots,k b o (fun z=>hc (by simp[z])) e⟩) (fun _ _ _ _ n=>n)
  (fun b o hc e=>⟨o,k b o (fun z=>hc (by simp[z])) e⟩) (fun _ _ e=>e) (fun _ _ _ e=>e) (fun b ps e=>⟨#[],by rw[e];simp⟩) (fun m hm=>?_) (fun b u e=>?_) I.bare
 ·have e:b=it:=by simpa using hb
  subst e;exact⟨h1,hL,h2,h3⟩
 ·obtain⟨o,es,ep,ho,r⟩:=hm;exact⟨o,es,ep,k _ o (Bo hL) ho,r⟩
 ·refine(I.hok b u e).stay (fun c v hc q=>k c v ?_ q) (fun _ q=>q) fun _ _ q=>q;rcases hc with z|z
  ·rw[z];exact nit b u e
  ·exact nit c _ z
theorem Inv.tok(I:Inv X pins σ H s)(t:Nat):Inv X pins σ H { s with toks:=t }:=I.un (h':=s.heap) (t':=t) Un.refl I.hok
theorem Inv.kept(I:Inv X pins σ H s)(k:∀b u,s.heap.get? b=some u->h'.get? b=some u):Inv X pins σ H { s with heap:=h',toks:=t' }:=I.un (Un.kept k) (I.hok.kept k)
theorem Inv.laid{a:Addr}(I:Inv X pins σ H s)(k:∀b u,s.heap.get? b=some u->h'.get? b=some u)(hp:s.heap.objs.size<=a)(new:ObjOk X.prog X.w (upd H a o) h' a o):
  Inv X pins σ (upd H a o) { s with heap:=h',toks:=t' }:=I.un (Un.laid k hp (I.hok.fresh hp)) (I.hok.laid k hp new)
theorem Inv.write(I:Inv X pins σ H s)(mu:Mut (H x))(he:e=x\/H e=some (.own x))(k:∀b u,b≠e->s.heap.get? b=some u->h'.get? b=some u)(heo:∃u,h'.get? e=some u)(new:ObjOk X.prog X.w (upd H x o) h' x o):Inv X pins σ (upd H x o) { s with heap:=h',toks:=t' }:=I.un (Un.write mu he k heo) (I.hok.write mu he k heo new)
theorem Inv.weak(I:Inv X pins σ H s)(hl:σ'.length=σ.length)(w:∀(i:Nat) v,σ'[i]?=some (some v)->σ[i]?=some (some v)):Inv X pins σ' H s :=
 ⟨I.ok,I.os,I.bare,I.base,let ⟨m,hn,hl'⟩:=I.loc;⟨m,hn,fun i x v e1 e2 e3=>hl' i x v e1 (w i v e2) e3⟩,I.cell,I.free,I.freeC,I.pin,I.hok,hl.trans I.len⟩
theorem Inv.pins_of(I:Inv X pins σ H s)(h:∀p∈pins',s.heap.get? p.1=some p.2/\H p.1=none/\p.1≠X.env.locals/\p.1∉X.fs/\∀v,p.2.data≠.cell v):Inv X pins' σ H s :=
 ⟨I.ok,I.os,I.bare,I.base,I.loc,I.cell,I.free,I.freeC,fun p hp=>(Ax.mp hp).elim (fun z=>I.pin p (Ed _ z)) (h p),I.hok,I.len⟩
theorem q6r{N:List Str}(hN:N.Nodup){j:Nat}(a:N[i]?=some x)(b:N[j]?=some x):i=j:=by
 obtain⟨h1,e1⟩:=Bg.mp a;obtain⟨h2,e2⟩:=Bg.mp b;exact(List.getElem_inj hN).mp (e1.trans e2.symm)
theorem q7v(I:Inv X pins σ H s)(hN:X.N.Nodup)(hi:X.N[i]?=some x)(hx:Loc X.env.scope x)(r:RelV v u)(h:∀s',Inv X pins (σ.set i (some v)) H s'->(∃a,Ep a s.heap s'.heap/\(a=X.env.locals\/X.env.cells.lookup x=some a))->Q () s')(hf:X.fn x=true\/X.env.scope.names.lookup x=some .local:=by first|exact .inl rfl|exact .inr rfl|assumption):wpAny M A (storeName X.env x u) Q E s:=by
 obtain⟨m,hn,hl⟩:=id I.loc;have hcls:(X.env.scope.kind==.class||(X.env.scope.kind==.module&&X.env.locals != X.env.globals))=false:=by rw[I.ok.kind];rfl
 have hiσ:i<σ.length:=by rw[I.len];exact(Bg.mp hi).1
 have cne:=I.cne;have tracked:∀{a:Addr} {h':Heap},(∃o,s.heap.get? a=some o/\H a=none)->Ep a s.heap h'->HOk X.prog X.w H h':=fun{a h'} ha hs b ob e=>by
  obtain⟨_,_,hfree⟩:=ha;refine(I.hok b ob e).stay (fun c w' hc q=>(hs.2 c ?_).trans q) (fun _ q=>q) fun _ _ q=>q
  rcases hc with rfl|hc
  ·grind
  ·grind
 rcases hx with hk|hk
 ·refine wpAny_storeName_local hk hn (fun h' hn' hs=>?_) hcls;obtain⟨oL,_,_,hoL,_⟩:=id hn;refine h _ ⟨I.ok,I.os,I.bare,⟨fun b o e n hb hx=>?_,fun b o e n hb hx=>?_,I.base.free,fun b o e hx=>?_,I.base.tups,I.base.frzs,I.base.tbls⟩,⟨_,hn',fun j y v' e1 e2 e3=>?_⟩,fun y c e=>?_,I.free,I.freeC,fun p hp=>?_,tracked ⟨oL,hoL,I.free⟩ hs,by simpa using I.len⟩ ⟨_,hs,.inl rfl⟩
  ·exact(hs.2 b (Bd (Bf (An e) I.ok.above))).trans (I.base.keep b o e n hb hx)
  ·obtain⟨sl,e1⟩:=I.base.slot b o e n hb hx;exact⟨sl,(hs.2 b (Bd (Bf (An e) I.ok.above))).trans e1⟩
  ·obtain⟨o',e1⟩:=I.base.there b o e hx;exact⟨o',(hs.2 b (Bd (Bf (An e) I.ok.above))).trans e1⟩
  ·by_cases hj:j=i
   ·subst hj;rw[hi] at e1;cases e1;rw[Pc hiσ] at e2;cases e2;exact⟨u,r,.inl ⟨hk,by simp⟩⟩
   ·rw[Lq (Bo hj)] at e2;obtain⟨u',r',q⟩:=hl j y v' e1 e2 e3;refine⟨u',r',?_⟩;rcases q with⟨k,e⟩|⟨k,c,e,z⟩
    ·refine .inl ⟨k,?_⟩;have:y≠x:=fun e=>hj (q6r hN e1 (e▸hi));simp[this,e]
    ·exact .inr ⟨k,c,e,z.sameBut hs (cne y c e)⟩
  ·obtain⟨w',z⟩:=I.cell y c e;exact⟨w',z.sameBut hs (cne y c e)⟩
  ·obtain⟨e,n,ne,nf,d⟩:=I.pin p hp;exact⟨(hs.2 p.1 ne).trans e,n,ne,nf,d⟩
 ·have hfn:X.fn x=true:=by
   rcases hf with z|z
   ·exact z
   ·grind
  obtain⟨c,hc⟩:=I.ok.has x (.inl hk);obtain⟨w',z⟩:=I.cell x c hc;refine wpAny_storeName_cell I.ok.kind hk hc z (fun h' hc' hs=>?_);obtain⟨oc,hoc,hocd⟩:=id z;refine h { s with heap:=h' } ⟨I.ok,I.os,I.bare,⟨fun b o e n hb hx=>?_,fun b o e n hb hx=>?_,I.base.free,fun b o e hx=>?_,I.base.tups,I.base.frzs,I.base.tbls⟩,⟨m,hn.sameBut hs (Bo (cne x c hc)),fun j y v' e1 e2 e3=>?_⟩,fun y c' e=>?_,I.free,I.freeC,fun p hp=>?_,tracked ⟨oc,hoc,I.freeC x c hc⟩ hs,by simpa using I.len⟩ ⟨c,hs,.inr hc⟩
  ·exact(hs.2 b (Bd (Bf (An e) (I.ok.cab x c hfn hc)))).trans (I.base.keep b o e n hb hx)
  ·obtain⟨sl,e1⟩:=I.base.slot b o e n hb hx;exact⟨sl,(hs.2 b (Bd (Bf (An e) (I.ok.cab x c hfn hc)))).trans e1⟩
  ·obtain⟨o',e1⟩:=I.base.there b o e hx;exact⟨o',(hs.2 b (Bd (Bf (An e) (I.ok.cab x c hfn hc)))).trans e1⟩
  ·by_cases hj:j=i
   ·subst hj;rw[hi] at e1;cases e1;rw[Pc hiσ] at e2;cases e2;exact⟨u,r,.inr ⟨.inl hk,c,hc,hc'⟩⟩
   ·rw[Lq (Bo hj)] at e2;obtain⟨u',r',q⟩:=hl j y v' e1 e2 e3;refine⟨u',r',?_⟩;rcases q with q|⟨k,c',e,z'⟩
    ·exact .inl q
    ·refine .inr ⟨k,c',e,z'.sameBut hs ?_⟩;rintro rfl;exact hj (q6r hN e1 (I.ok.inj _ _ _ e hc▸hi))
  ·by_cases hcc:c'=c
   ·grind
   ·obtain⟨w2,z2⟩:=I.cell y c' e;exact⟨w2,z2.sameBut hs hcc⟩
  ·obtain⟨e,n,ne,nf,d⟩:=I.pin p hp;refine⟨(hs.2 p.1 ?_).trans e,n,ne,nf,d⟩;intro q;rw[q,hoc] at e;have q':=Bw e;exact d w' (by rw[<- q'];exact hocd)
theorem q6s(I:Inv X pins σ H s)(hN:X.N.Nodup)(hi:X.N[i]?=some x)(hx:Loc X.env.scope x)(r:RelV v u)(h:∀s',Inv X pins (σ.set i (some v)) H s'->Q () s')(hf:X.fn x=true\/X.env.scope.names.lookup x=some .local:=by first|exact .inl rfl|exact .inr rfl|assumption):wpAny M A (storeName X.env x u) Q E s :=
 q7v I hN hi hx r (fun s' I' _=>h s' I') hf
theorem Inv.call'(I:Inv X pins σ H s)(ho:s'.os=s.os)(u:Un (frs X.stack) ch H H' s.heap s'.heap)(hok:HOk X.prog X.w H' s'.heap)(hg:Ki s'.gens)(hch:∀b∈ch,(b∈X.ex\/X.s₀.heap.objs.size<=b)/\b≠X.env.locals/\(∀x c,X.env.cells.lookup x=some c->c≠b)/\∀p∈X.pn++pins,p.1≠b):Inv X pins σ H' s':=by
 obtain⟨h',g',d',t',o'⟩:=s';have e:=ho;subst e;exact I.call (g':=g') (t':=t') (d':=d') u hok hg hch
end
abbrev XK:=Value->Option Addr->Hp->Prop
abbrev St:=List (Option V)
abbrev VK:=V->Hp->Prop
abbrev TE:=St->Hp->VK->Prop
abbrev TT:=St->Hp->(Bool->Hp->Prop)->Prop
abbrev TA:=St->Hp->(List V->Hp->Prop)->Prop
structure Ends where
 nx:St->Hp->Prop
 rt:VK
 bk:St->Hp->Prop:=fun _ _=>False
 ct:St->Hp->Prop:=fun _ _=>False
abbrev TS:=Ends->St->Hp->Prop
def EP(X:Cx)(pins:List (Addr×Obj))(σ:St)(Q:VK)(u:Value)(s':Ae):Prop:=∃v H',Inv X pins σ H' s'/\RelV v u/\Q v H'
def TP(X:Cx)(pins:List (Addr×Obj))(σ:St)(Q:Bool->Hp->Prop)(b:Bool)(s':Ae):Prop:=∃H',Inv X pins σ H' s'/\Q b H'
def AP(X:Cx)(pins:List (Addr×Obj))(σ:St)(Q:List V->Hp->Prop)(us:List Value)(s':Ae):Prop:=∃vs H',Inv X pins σ H' s'/\Vals vs us/\Q vs H'
def SP(X:Cx)(pins:List (Addr×Obj))(D:Ends)(f:Flow)(s':Ae):Prop :=
 match f with
 |.next=>∃σ' H',Inv X pins σ' H' s'/\D.nx σ' H'
 |.brk=>∃σ' H',Inv X pins σ' H' s'/\D.bk σ' H'
 |.cont=>∃σ' H',Inv X pins σ' H' s'/\D.ct σ' H'
 |.ret u=>∃v σ' H',Inv X pins σ' H' s'/\RelV v u/\D.rt v H'
def PE(X:Cx)(e:Expr)(t:TE):Prop :=
 ∀(pins:List (Addr×Obj)) (s:Ae) (σ:St) (H:Hp) (Q:VK),Inv X pins σ H s->t σ H Q->wpAny (model X.prog X.w) X.A (eval e X.env) (EP X pins σ Q) X.xe s
def PT(X:Cx)(e:Expr)(t:TT):Prop :=
 ∀(pins:List (Addr×Obj)) (s:Ae) (σ:St) (H:Hp) (Q:Bool->Hp->Prop),Inv X pins σ H s->t σ H Q->wpAny (model X.prog X.w) X.A (isTrue e X.env (eval e X.env)) (TP X pins σ Q) X.xe s
def PW(X:Cx)(e:Expr)(t:TT):Prop :=
 ∀(whole:Sem Value) (pins:List (Addr×Obj)) (s:Ae) (σ:St) (H:Hp) (Q:Bool->Hp->Prop),Inv X pins σ H s->t σ H Q->wpAny (model X.prog X.w) X.A (isTrue e X.env whole) (TP X pins σ Q) X.xe s
theorem PW.pt{X:Cx}{e:Expr}{t:TT}(h:PW X e t):PT X e t:=h _
def PA(X:Cx)(es:List Expr)(t:TA):Prop :=
 ∀(pos:Pos) (pins:List (Addr×Obj)) (s:Ae) (σ:St) (H:Hp) (Q:List V->Hp->Prop),Inv X pins σ H s->t σ H Q->wpAny (model X.prog X.w) X.A (spliced (Dq pos (Ba es X.env))) (AP X pins σ Q) X.xe s
def PS(X:Cx)(st:Stmt)(t:TS):Prop :=
 ∀(pins:List (Addr×Obj)) (s:Ae) (σ:St) (H:Hp) (D:Ends),Inv X pins σ H s->t D σ H->wpAny (model X.prog X.w) X.A (exec st X.env) (SP X pins D) X.xe s
def PSs(X:Cx)(st:List Stmt)(t:TS):Prop :=
 ∀(pins:List (Addr×Obj)) (s:Ae) (σ:St) (H:Hp) (D:Ends),Inv X pins σ H s->t D σ H->wpAny (model X.prog X.w) X.A (execs st X.env) (SP X pins D) X.xe s
theorem thn{t:Sem α}{Q Q':α->Ae->Prop}(h:wpAny M A t Q E s)(hQ:∀a s,Q a s->Q' a s):wpAny M A t Q' E s:=Br h hQ fun _ _ x=>x
open PySem PySem.Spec PyProof.Rows
section
variable{X:Cx}
def tVar(i:Nat):TE:=fun σ H Q=>∃v,σ[i]?=some (some v)/\Q v H
def tC(v:V):TE:=fun _ H Q=>Q v H
theorem pe_var{pos:Pos}(hN:X.N[i]?=some x)(hv:Vis X.env.scope x)(hd:(x==("__debug__" : Str))=false:=by decide)(hcd:(x==("__classdict__" : Str))=false:=by decide):PE X (.Name x pos) (tVar i):=by
 intro pins s σ H Q I h;obtain⟨v,e,h⟩:=h;obtain⟨m,hn,hl⟩:=I.loc;obtain⟨u,r,l⟩:=hl i x v hN e hv;have fin:EP X pins σ Q u s:=⟨v,H,I,r,h⟩
 rcases l with⟨hk,hm⟩|⟨hk,c,hc,hcell⟩
 ·exact Ul (wpAny_loadName_local I.ok.kind hk hn hm fin) hd
 ·rcases hk with hk|hk
  ·exact Ul (wpAny_loadName_cell I.ok.kind hk hc hcell fin) hd
  ·exact Ul (wpAny_loadName_free I.ok.kind hk hc hcell fin hcd) hd
theorem q0g{i j pos}:PE X (.Constant (.int i) j pos) (tC (.int i)):=fun _ _ _ H _ I h=>wpAny_Constant_int ⟨.int i,H,I.tok _,⟨_,rfl⟩,h⟩
theorem q3o{b j pos}:PE X (.Constant (.bool b) j pos) (tC (.bl b)):=fun _ _ _ H _ I h=>Constant_bool ⟨.bl b,H,I,rfl,h⟩
theorem z0w{j pos}:PE X (.Constant .none j pos) (tC .non):=fun _ _ _ H _ I h=>Rc ⟨.non,H,I,rfl,h⟩
theorem q1f{x j pos}:PE X (.Constant (.str x) j pos) (tC (.str x)):=fun _ _ _ H _ I h=>Calls.Constant_str ⟨.str x,H,I.tok _,⟨_,rfl⟩,h⟩
def Gl(X:Cx)(x:Str):Prop:=X.env.kindOf x=some .globalImplicit
theorem q2v{σ:St}(I:Inv X pins σ H s)(hg:Gl X x)(hm:X.mg x=some u)(h:Q u s)(hd:(x==("__debug__" : Str))=false:=by decide):wpAny (model X.prog X.w) X.A (eval (.Name x pos) X.env) Q E s :=
 My I.ok.kind hg (Calls.loadGlobal_global (by rw[I.ok.glob];exact I.mod.glob.keeps I.bk) hm h) hd
theorem q7w{E:Value->Ae->Prop}{σ:St}{pos:Pos}(I:Inv X pins σ H s)(hg:Gl X x)(hm:X.mg x=none)(hv:Ic x=some u)(h:Q u s)(hn:x ≠ "__name__" := by decide)(hd:(x==("__debug__" : Str))=false:=by decide):wpAny (model X.prog X.w) X.A (eval (.Name x pos) X.env) Q E s:=by
 obtain⟨mb,h1,h2⟩:=I.mod.blt;exact My I.ok.kind hg (Calls.loadGlobal_builtin (by rw[I.ok.glob];exact I.mod.glob.keeps I.bk) hm (by rw[I.ok.blt];exact h1.keeps I.bk) ((h2 x hn).trans hv) h) hd
theorem q2f{x:Str}{v:V}{u:Value}{pos:Pos}(hg:Gl X x)(hm:X.mg x=some u)(r:RelV v u)(hd:(x==("__debug__" : Str))=false:=by decide):PE X (.Name x pos) (tC v) :=
 fun _ _ _ H _ I h=>q2v I hg hm ⟨v,H,I,r,h⟩ hd
theorem q6t{x:Str}{v:V}{u:Value}{pos:Pos}(hg:Gl X x)(hm:X.mg x=none)(hv:Ic x=some u)(r:RelV v u)(hn:x ≠ "__name__" := by decide)(hd:(x==("__debug__" : Str))=false:=by decide):PE X (.Name x pos) (tC v) :=
 fun _ _ _ H _ I h=>q7w I hg hm hv ⟨v,H,I,r,h⟩ hn hd
variable{a b:Expr}{ta tb:TE}{pos:Pos}
def PC(X:Cx)(op:CmpOp)(a b:Expr)(t:TE):Prop :=
 ∀(pins:List (Addr×Obj)) (s:Ae) (σ:St) (H:Hp) (Q:VK),Inv X pins σ H s->t σ H Q ->
  wpAny (model X.prog X.w) X.A (eval a X.env) (fun v s₁=>wpAny (model X.prog X.w) X.A (eval b X.env) (fun u s₂=>wpAny (model X.prog X.w) X.A (Cu op v u) (EP X pins σ Q) X.xe s₂) X.xe s₁) X.xe s
theorem nobehind(b:Expr)(h:op≠.In)(h2:op≠.NotIn):Gr op b=false:=by
 have e1:(op==CmpOp.In)=false:=by grind
 have e2:(op==CmpOp.NotIn)=false:=by grind
 cases b<;>simp[Gr,e1,e2]
def tIsN(ta:TE):TE:=fun σ H Q=>ta σ H fun x H1=>Q (.bl (decide (x=.non))) H1
def tNotN(ta:TE):TE:=fun σ H Q=>ta σ H fun x H1=>Q (.bl (!decide (x=.non))) H1
theorem RelV.none_iff(r:RelV x v):(v==Value.none)=decide (x=.non):=by
 cases x with
 |non=>cases r;rfl
 |bl _=>cases r;rfl
 |int _=>obtain⟨t,rfl⟩:=r;rfl
 |str _=>obtain⟨t,rfl⟩:=r;rfl
 |byt _=>obtain⟨t,rfl⟩:=r;rfl
 |flt _=>obtain⟨t,rfl⟩:=r;rfl
 |ref _=>cases r;rfl
 |ty _=>cases r;rfl
theorem q5z{j pos'}(ha:PE X a ta):PC X .Is a (.Constant .none j pos') (tIsN ta):=by
 intro pins s σ H Q I h;refine thn (ha pins s σ H _ I h) fun v s1 ⟨x,H1,I1,r1,q1⟩=>?_;exact Rc (is_none_gen ⟨.bl _,H1,I1,by rw[r1.none_iff];rfl,q1⟩)
theorem q4z{j pos'}(ha:PE X a ta):PC X .IsNot a (.Constant .none j pos') (tNotN ta):=by
 intro pins s σ H Q I h;refine thn (ha pins s σ H _ I h) fun v s1 ⟨x,H1,I1,r1,q1⟩=>?_;exact Rc (isnot_none_gen ⟨.bl _,H1,I1,by rw[r1.none_iff];rfl,q1⟩)
def tB(t:TE):TT:=fun σ H Q=>t σ H fun x H1=>∃c,x=.bl c/\Q c H1
theorem z3k{op:CmpOp}{t:TE}(h:PC X op a b t)(h1:Gr op b=false:=by first|exact nobehind _ (by decide) (by decide)|rfl):PE X (.Compare a [op] [b] pos) t:=fun pins s σ H Q I hw=>wpAny_Compare1 (h pins s σ H Q I hw) h1
theorem q1v{op:CmpOp}{t:TE}(h:PC X op a b t)(h1:Gr op b=false:=by first|exact nobehind _ (by decide) (by decide)|rfl):PT X (.Compare a [op] [b] pos) (tB t):=by
 intro pins s σ H Q I hw;refine Pu (thn (h pins s σ H _ I hw) fun v s1 h1=>thn h1 fun u s2 h2=>thn h2 fun c s3 ⟨x,H1,I1,r1,q1⟩=>?_) h1;obtain⟨d,rfl,q⟩:=q1;cases r1;exact Dm ⟨H1,I1,q⟩
variable{tA tB':TT}{rest:List Expr}
def tAnd(t u:TT):TT:=fun σ H Q=>t σ H fun c H1=>if c=true then u σ H1 Q else Q false H1
def tOr(t u:TT):TT:=fun σ H Q=>t σ H fun c H1=>if c=true then Q true H1 else u σ H1 Q
def tNot(t:TT):TT:=fun σ H Q=>t σ H fun c H1=>Q (!c) H1
theorem q1p(ha:PT X a tA):PW X (.BoolOp .And [a] pos) tA:=by
 intro wh pins s σ H Q I h;refine isTrue_and (thn (ha pins s σ H Q I h) fun c s1 e=>?_);cases c with
 |true=>exact isTrue_and_nil e
 |false=>exact e
theorem z3l(ha:PT X a tA):PW X (.BoolOp .Or [a] pos) tA:=by
 intro wh pins s σ H Q I h;refine isTrue_or (thn (ha pins s σ H Q I h) fun c s1 e=>?_);cases c with
 |false=>exact isTrue_or_nil e
 |true=>exact e
theorem q2c(ha:PT X a tA)(hb:PW X (.BoolOp .And (b::rest) pos) tB'):PW X (.BoolOp .And (a::b::rest) pos) (tAnd tA tB'):=by
 intro wh pins s σ H Q I h;refine isTrue_and (thn (ha pins s σ H _ I h) fun c s1 ⟨H1,I1,q1⟩=>?_);cases c with
 |true=>exact hb wh pins s1 σ H1 Q I1 q1
 |false=>exact⟨H1,I1,q1⟩
theorem z6s(ha:PT X a tA)(hb:PW X (.BoolOp .Or (b::rest) pos) tB'):PW X (.BoolOp .Or (a::b::rest) pos) (tOr tA tB'):=by
 intro wh pins s σ H Q I h;refine isTrue_or (thn (ha pins s σ H _ I h) fun c s1 ⟨H1,I1,q1⟩=>?_);cases c with
 |true=>exact⟨H1,I1,q1⟩
 |false=>exact hb wh pins s1 σ H1 Q I1 q1
theorem z8t(ha:PT X a tA):PT X (.UnaryOp .Not a pos) (tNot tA):=by
 intro pins s σ H Q I h;exact isTrue_not (ha pins s σ H (fun c H1=>Q (!c) H1) I h)
def tAndV(ta tb:TE):TE:=fun σ H Q=>ta σ H fun x H1=>∃c,x=.bl c/\if c=true then tb σ H1 Q else Q (.bl false) H1
def tOrV(ta tb:TE):TE:=fun σ H Q=>ta σ H fun x H1=>∃c,x=.bl c/\if c=true then Q (.bl true) H1 else tb σ H1 Q
def tNotV(ta:TE):TE:=fun σ H Q=>ta σ H fun x H1=>∃c,x=.bl c/\Q (.bl (!c)) H1
theorem q7x{op}{t:TE}(h:PE X a t):PE X (.BoolOp op [a] pos) t:=fun pins s σ H Q I hw=>BoolOp_one (h pins s σ H Q I hw)
theorem z0x(ha:PE X a ta)(hb:PE X (.BoolOp .And (b::rest) pos) tb):PE X (.BoolOp .And (a::b::rest) pos) (tAndV ta tb):=by
 intro pins s σ H Q I h;refine BoolOp_and (thn (ha pins s σ H _ I h) fun v s1 ⟨x,H1,I1,r1,q1⟩=>?_);obtain⟨c,rfl,q1⟩:=q1;cases r1;refine Dm ?_;cases c with
 |true=>exact hb pins s1 σ H1 Q I1 q1
 |false=>exact⟨.bl false,H1,I1,rfl,q1⟩
theorem pe_or(ha:PE X a ta)(hb:PE X (.BoolOp .Or (b::rest) pos) tb):PE X (.BoolOp .Or (a::b::rest) pos) (tOrV ta tb):=by
 intro pins s σ H Q I h;refine BoolOp_or (thn (ha pins s σ H _ I h) fun v s1 ⟨x,H1,I1,r1,q1⟩=>?_);obtain⟨c,rfl,q1⟩:=q1;cases r1;refine Dm ?_;cases c with
 |false=>exact hb pins s1 σ H1 Q I1 q1
 |true=>exact⟨.bl true,H1,I1,rfl,q1⟩
theorem z3m(ha:PE X a ta):PE X (.UnaryOp .Not a pos) (tNotV ta):=by
 intro pins s σ H Q I h;refine UnaryOp_ (thn (ha pins s σ H _ I h) fun v s1 ⟨x,H1,I1,r1,q1⟩=>?_);obtain⟨c,rfl,q1⟩:=q1;cases r1;exact not_of (Dm ⟨.bl (!c),H1,I1,rfl,q1⟩)
def tIf(t:TT)(ta tb:TE):TE:=fun σ H Q=>t σ H fun c H1=>if c=true then ta σ H1 Q else tb σ H1 Q
theorem z0y{c:Expr}(hc:PT X c tA)(ha:PE X a ta)(hb:PE X b tb):PE X (.IfExp c a b pos) (tIf tA ta tb):=by
 intro pins s σ H Q I h;refine wpAny_IfExp (thn (hc pins s σ H _ I h) fun d s1 ⟨H1,I1,q1⟩=>?_);cases d with
 |true=>exact ha pins s1 σ H1 Q I1 q1
 |false=>exact hb pins s1 σ H1 Q I1 q1
end
open PySem PySem.Spec PyProof.Rows
def SqL(K:Ai)(H:Hp)(a:Addr)(xs:List V):Prop :=
 Rd H a (.lst xs) \/
  ∃(o:Obj) (its:Array Value) (n:Nat),K.lookup a=some o/\o.cls=.type "list" /\ o.dict=none/\o.data=.seq its n/\its.size<=sizeLine/\Vals xs its.toList
def SqT(K:Ai)(H:Hp)(a:Addr)(xs:List V):Prop :=
 Rd H a (.tup xs) \/
  ∃(o:Obj) (its:Array Value) (n:Nat),K.lookup a=some o/\o.cls=.type "tuple" /\ o.data=.seq its n/\its.size<=sizeLine/\Vals xs its.toList
def absV:Value->Option V
 |.none=>some .non
 |.bool b=>some (.bl b)
 |.int i _=>some (.int i)
 |.str x _=>some (.str x)
 |.bytes b _=>some (.byt b)
 |.float b _=>some (.flt b)
 |.ref a=>some (.ref a)
 |.type n=>some (.ty n)
 |_=>none
theorem RelV.abs(r:RelV x u):absV u=some x:=by
 cases x with
 |non=>cases r;rfl
 |bl _=>cases r;rfl
 |int _=>obtain⟨t,rfl⟩:=r;rfl
 |str _=>obtain⟨t,rfl⟩:=r;rfl
 |byt _=>obtain⟨t,rfl⟩:=r;rfl
 |flt _=>obtain⟨t,rfl⟩:=r;rfl
 |ref _=>cases r;rfl
 |ty _=>cases r;rfl
theorem RelV.inj(r:RelV x u)(q:RelV y u):x=y:=Bw (r.abs.symm.trans q.abs)
theorem Vals.inj:∀{xs ys:List V} {us:List Value},Vals xs us->Vals ys us->xs=ys
 |_,_,_,.nil,.nil=>rfl
 |_,_,_,.cons r t,.cons r' t'=>by rw[r.inj r',Vals.inj t t']
section
variable{X:Cx}{pins:List (Addr×Obj)}{σ:St}{H:Hp}{s:Ae}{a:Addr}{xs ys:List V}
theorem SqL.of{K:Ai}(h:H a=some (.lst xs)):SqL K H a xs:=.inl (.inl h)
theorem SqT.of{K:Ai}(h:H a=some (.tup xs)):SqT K H a xs:=.inl (.inl h)
theorem Inv.list(I:Inv X pins σ H s)(h:SqL X.K H a xs):∃its:List Value,Vals xs its/\PlainL s.heap a its.toArray/\xs.length<=sizeLine:=by
 rcases h with h|⟨o,its,n,hk,hc,hd,hs,hz,r⟩
 ·obtain⟨z,its,n,r,e⟩:=h.ok I.hok;exact⟨its,r,⟨_,n,e,rfl,rfl,rfl⟩,z⟩
 ·refine⟨its.toList,r,⟨o,n,I.kIn a o hk,hc,hd,by simpa using hs⟩,?_⟩;have e:=r.length;simp only[Em] at e;lia
theorem Inv.tuple(I:Inv X pins σ H s)(h:SqT X.K H a xs):∃its:List Value,Vals xs its/\IsTup s.heap a its.toArray/\xs.length<=sizeLine:=by
 rcases h with h|⟨o,its,n,hk,hc,hs,hz,r⟩
 ·obtain⟨z,its,r,p⟩:=h.ok I.hok;exact⟨its,r,p,z⟩
 ·refine⟨its.toList,r,⟨o,I.kIn a o hk,hc,n,by simpa using hs⟩,?_⟩;have e:=r.length;simp only[Em] at e;lia
theorem Inv.list_inj(I:Inv X pins σ H s)(h:SqL X.K H a xs)(h':SqL X.K H a ys):xs=ys:=by
 obtain⟨its,r,⟨o,n,e,_,_,d⟩,_⟩:=I.list h;obtain⟨its',r',⟨o',n',e',_,_,d'⟩,_⟩:=I.list h';have:its=its':=by grind
 subst this;exact r.inj r'
theorem Inv.tuple_inj(I:Inv X pins σ H s)(h:SqT X.K H a xs)(h':SqT X.K H a ys):xs=ys:=by
 obtain⟨its,r,⟨o,e,_,n,d⟩,_⟩:=I.tuple h;obtain⟨its',r',⟨o',e',_,n',d'⟩,_⟩:=I.tuple h';have:its=its':=by grind
 subst this;exact r.inj r'
end
abbrev Cx.wish(X:Cx)(E:Value->Ae->Prop):Cx:={ X with xe:=E }
abbrev Cx.nox(X:Cx):Cx:=X.wish fun _ _=>False
theorem Cx.Ok.wish{X:Cx}(ok:X.Ok)(E:Value->Ae->Prop):(X.wish E).Ok :=
 ⟨ok.mod,ok.kind,ok.glob,ok.blt,ok.above,ok.inj,ok.has,ok.cab,ok.hd,ok.frames,ok.stk,ok.exf,ok.bs,ok.bsz,ok.noex,ok.exfs,ok.funs,ok.frf⟩
theorem Cx.Ok.unwish{X:Cx}(ok:(X.wish E).Ok):X.Ok :=
 ⟨ok.mod,ok.kind,ok.glob,ok.blt,ok.above,ok.inj,ok.has,ok.cab,ok.hd,ok.frames,ok.stk,ok.exf,ok.bs,ok.bsz,ok.noex,ok.exfs,ok.funs,ok.frf⟩
section
variable{X:Cx}{pins:List (Addr×Obj)}{σ:St}{H:Hp}{s:Ae}{E:Value->Ae->Prop}
theorem Inv.wish(I:Inv X pins σ H s)(E:Value->Ae->Prop):Inv (X.wish E) pins σ H s:=⟨I.ok.wish E,I.os,I.bare,I.base,I.loc,I.cell,I.free,I.freeC,I.pin,I.hok,I.len⟩
theorem Inv.unwish(I:Inv (X.wish E) pins σ H s):Inv X pins σ H s:=⟨I.ok.unwish,I.os,I.bare,I.base,I.loc,I.cell,I.free,I.freeC,I.pin,I.hok,I.len⟩
theorem SP.unwish(h:SP (X.wish E) pins D f s'):SP X pins D f s':=by
 cases f with
 |next=>obtain⟨σ',H',I,q⟩:=h;exact⟨σ',H',I.unwish,q⟩
 |brk=>obtain⟨σ',H',I,q⟩:=h;exact⟨σ',H',I.unwish,q⟩
 |cont=>obtain⟨σ',H',I,q⟩:=h;exact⟨σ',H',I.unwish,q⟩
 |ret u=>obtain⟨v,σ',H',I,r,q⟩:=h;exact⟨v,σ',H',I.unwish,r,q⟩
theorem PE.nox(h:PE X.nox e t):PE X e t:=fun pins s σ H Q I hw =>
 Br (h pins s σ H Q (I.wish _) hw) (fun _ _ ⟨v,H',I',r,q⟩=>⟨v,H',I'.unwish,r,q⟩) fun _ _ z=>False.elim z
theorem PT.nox(h:PT X.nox e t):PT X e t:=fun pins s σ H Q I hw =>
 Br (h pins s σ H Q (I.wish _) hw) (fun _ _ ⟨H',I',q⟩=>⟨H',I'.unwish,q⟩) fun _ _ z=>False.elim z
theorem PSs.nox{st:List Stmt}(h:PSs X.nox st t):PSs X st t:=fun pins s σ H D I hw =>
 Br (h pins s σ H D (I.wish _) hw) (fun _ _ q=>q.unwish) fun _ _ z=>False.elim z
end
section
variable{X:Cx}{st:Stmt}{rest:List Stmt}{t u:TS}{e:Expr}{te:TE}{pos:Pos}
def tNext:TS:=fun D σ H=>D.nx σ H
def tSeq(t u:TS):TS:=fun D σ H=>t { D with nx:=u D } σ H
theorem q0l:PSs X [] tNext:=fun _ _ σ H _ I h=>Jj ⟨σ,H,I,h⟩
theorem q0e(h1:PS X st t)(h2:PSs X rest u):PSs X (st::rest) (tSeq t u):=by
 intro pins s σ H D I h;refine Nw (thn (h1 pins s σ H { D with nx:=u D } I h) fun f s1 q=>?_);cases f with
 |next =>
  obtain⟨σ',H',I',q⟩:=q;exact h2 pins s1 σ' H' D I' q
 |ret v=>exact q
 |brk=>exact q
 |cont=>exact q
theorem q0f(h1:PS X st t):PSs X [st] t:=by
 intro pins s σ H D I h;refine Nw (thn (h1 pins s σ H D I h) fun f s1 q=>?_);cases f with
 |next=>exact Jj q
 |ret v=>exact q
 |brk=>exact q
 |cont=>exact q
theorem Inv.quiet{σ:St}(I:Inv X pins σ H s):interactive X.env=false:=by simp[interactive,I.ok.kind]
def tDrop(te:TE):TS:=fun D σ H=>te σ H fun _ H1=>D.nx σ H1
theorem q1w(he:PE X e te)(hs:Jp e none pos.line X.env=pure false:=by rfl):PS X (.Expr e pos) (tDrop te):=by
 intro pins s σ H D I h;exact wpAny_Expr_any (thn (he pins s σ H _ I h) fun v s1 ⟨x,H1,I1,r1,q1⟩=>⟨σ,H1,I1,q1⟩) I.quiet hs
def tRet(te:TE):TS:=fun D σ H=>te σ H D.rt
theorem q0m(he:PE X e te):PS X (.Return (some e) pos) (tRet te):=by
 intro pins s σ H D I h;exact wpAny_Return_some (thn (he pins s σ H _ I h) fun v s1 ⟨x,H1,I1,r1,q1⟩=>⟨x,σ,H1,I1,r1,q1⟩)
def tIfS(c:TT)(t u:TS):TS:=fun D σ H=>c σ H fun b H1=>if b=true then t D σ H1 else u D σ H1
theorem q0y{c:Expr}{a b:List Stmt}{tc:TT}(hc:PT X c tc)(ha:PSs X a t)(hb:PSs X b u):PS X (.If c a b pos) (tIfS tc t u):=by
 intro pins s σ H D I h;refine wpAny_If (thn (hc pins s σ H _ I h) fun d s1 ⟨H1,I1,q1⟩=>?_);cases d with
 |true=>exact ha pins s1 σ H1 D I1 q1
 |false=>exact hb pins s1 σ H1 D I1 q1
def tNever:TS:=fun _ _ _=>False
theorem z0z:PS X st tNever:=fun _ _ _ _ _ _ h=>h.elim
end
abbrev TG:=V->St->Hp->(St->Hp->Prop)->Prop
abbrev TGs:=List V->St->Hp->(St->Hp->Prop)->Prop
def PG(X:Cx)(target:Expr)(t:TG):Prop :=
 ∀(pins:List (Addr×Obj)) (s:Ae) (σ:St) (H:Hp) (v:V) (u:Value) (Q:St->Hp->Prop),Inv X pins σ H s->RelV v u->t v σ H Q ->
  wpAny (model X.prog X.w) X.A (assign target X.env u) (fun _ s'=>∃σ' H',Inv X pins σ' H' s'/\Q σ' H') X.xe s
def PGs(X:Cx)(ts:List Expr)(t:TGs):Prop :=
 ∀(pins:List (Addr×Obj)) (s:Ae) (σ:St) (H:Hp) (vs:List V) (us:List Value) (Q:St->Hp->Prop),Inv X pins σ H s->Vals vs us->t vs σ H Q ->
  wpAny (model X.prog X.w) X.A (assignInOrder ((Ir ts X.env).map (·.2)) us) (fun _ s'=>∃σ' H',Inv X pins σ' H' s'/\Q σ' H') X.xe s
abbrev TSet:=V->V->V->Hp->(Hp->Prop)->Prop
def PSet(X:Cx)(t:TSet):Prop :=
 ∀(pins:List (Addr×Obj)) (s:Ae) (σ:St) (H:Hp) (o i v:V) (ov iv u:Value) (Q:Hp->Prop),Inv X pins σ H s->RelV o ov->RelV i iv->RelV v u->t o i v H Q ->
  wpAny (model X.prog X.w) X.A (setItem ov iv u) (fun _ s'=>∃H',Inv X pins σ H' s'/\Q H') X.xe s
section
variable{X:Cx}{pos:Pos}
def gName(i:Nat):TG:=fun v σ H Q=>Q (σ.set i (some v)) H
theorem q0n{i:Nat}{x:Str}(hN:X.N.Nodup)(hi:X.N[i]?=some x)(hx:Loc X.env.scope x)(hf:X.fn x=true\/X.env.scope.names.lookup x=some .local:=by first|exact .inl rfl|exact .inr rfl|assumption):PG X (.Name x pos) (gName i):=by
 intro pins s σ H v u Q I r h;exact Su (q6s I hN hi hx r (fun s' I'=>⟨_,H,I',h⟩) hf)
def gNil:TGs:=fun vs σ H Q=>vs=[]/\Q σ H
def gCons(t:TG)(u:TGs):TGs:=fun vs σ H Q=>∃v r,vs=v::r/\t v σ H fun σ' H'=>u r σ' H' Q
theorem q1q:PGs X [] gNil:=by
 intro pins s σ H vs us Q I r h;obtain⟨e,h⟩:=h;exact assignInOrder_nil ⟨σ,H,I,h⟩
theorem q0p{e:Expr}{es:List Expr}{t:TG}{u:TGs}(h1:PG X e t)(h2:PGs X es u)(hs:(Ir (e::es) X.env).map (·.2)=assign e X.env::(Ir es X.env).map (·.2):=by rfl):PGs X (e::es) (gCons t u):=by
 intro pins s σ H vs us Q I r h;obtain⟨v,vr,e1,h⟩:=h;subst e1;cases r with
 |cons r rr =>
  rw[hs];refine assignInOrder_cons (thn (h1 pins s σ H _ _ _ I r h) fun _ s1 ⟨σ1,H1,I1,q1⟩=>?_);exact h2 pins s1 σ1 H1 _ _ Q I1 rr q1
def gTup(K:Ai)(n:Nat)(t:TGs):TG:=fun v σ H Q=>∃a xs,v=.ref a/\SqT K H a xs/\xs.length=n/\t xs σ H Q
theorem pg_tup{k:Nat}(hc:X.calm=true)(h:PGs X es t)(hn:(Ir es X.env).length=n:=by rfl)(hst:(Ir es X.env).findIdx? (·.1)=none:=by rfl):PG X (.Tuple es k pos) (gTup X.K n t):=by
 intro pins s σ H v u Q I r hw;obtain⟨a,xs,e1,hq,hl,hw⟩:=hw;subst e1;cases r;obtain⟨its,rv,ht,hz⟩:=I.tuple hq;refine assign_Tuple_tuple (I.ok.hd hc) ht (by simp[hn,<- hl,rv.length]) hst fun h' hx=>?_;have I1:Inv X pins σ H { s with heap:=h' }:=I.kept (t':=s.toks) fun b o e=>hx b o (Bd (An e)) e;exact h pins _ σ H xs _ Q I1 (by simpa using rv) hw
def gSub(to ti:TE)(t:TSet):TG:=fun v σ H Q=>to σ H fun o H1=>ti σ H1 fun i H2=>t o i v H2 fun H3=>Q σ H3
theorem z3n{o i:Expr}{to ti:TE}{t:TSet}(ho:PE X o to)(hi:PE X i ti)(hs:PSet X t)(ha:∀v,assign (.Subscript o i pos) X.env v=(do
   let ov<-Ig [v] (eval o X.env);let iv<-Ig [v,ov] (eval i X.env)
   Mj pos
   Ig [v,ov,iv] (setItem ov iv v)
   release [v,ov,iv] []):=by intro _;rfl):PG X (.Subscript o i pos) (gSub to ti t):=by
 intro pins s σ H v u Q I r h;refine Ab (Bm (thn (ho pins s σ H _ I h) fun ov s1 ⟨x,H1,I1,r1,q1⟩=>?_));refine Ab (Bm (thn (hi pins s1 σ H1 _ I1 q1) fun iv s2 ⟨y,H2,I2,r2,q2⟩=>?_));refine Ab (Di (Ab (Bm (thn (hs pins s2 σ H2 x y v ov iv u _ I2 r1 r2 r q2) fun _ s3 ⟨H3,I3,q3⟩=>?_))));exact wpAny_release ⟨σ,H3,I3,q3⟩
def tAsg(te:TE)(g:TG):TS:=fun D σ H=>te σ H fun x H1=>g x σ H1 D.nx
theorem q7y{tg e:Expr}{te:TE}{g:TG}(he:PE X e te)(hg:PG X tg g)(hs:swapsWithSole [tg] e pos.line X.env=pure false:=by rfl)(hw:swappedStores [tg] e X.env=pure none:=by rfl)(h1:(Ir [tg] X.env).map (·.2)=[assign tg X.env]:=by rfl):PS X (.Assign [tg] e pos) (tAsg te g):=by
 intro pins s σ H D I h;refine wpAny_Assign_stores (thn (he pins s σ H _ I h) fun v s1 ⟨x,H1,I1,r1,q1⟩=>?_) hs hw;rw[h1];exact thn (hg pins s1 σ H1 x v _ I1 r1 q1) fun _ s2 q=>q
theorem q0h{i:Nat}{x:Str}{e:Expr}{te:TE}{pos':Pos}(hN:X.N.Nodup)(hi:X.N[i]?=some x)(hx:Loc X.env.scope x)(he:PE X e te)(hs:Jp e (some (.Name x pos')) pos.line X.env=pure false:=by rfl)(hf:X.fn x=true\/X.env.scope.names.lookup x=some .local:=by first|exact .inl rfl|exact .inr rfl|assumption):
  PS X (.Assign [.Name x pos'] e pos) (tAsg te (gName i)):=by
 intro pins s σ H D I h;refine wpAny_Assign_Name (thn (he pins s σ H _ I h) fun v s1 ⟨y,H1,I1,r1,q1⟩=>?_) hs;exact q6s I1 hN hi hx r1 (fun s2 I2=>⟨_,H1,I2,q1⟩) hf
end
section
variable{X:Cx}{pos:Pos}
def tWhile(c:TT)(tb:TS):TS:=fun D σ H=>∃W:Nat->St->Hp->Prop,(∃m,W m σ H)/\∀m σ H,W m σ H ->
 c σ H fun b H1=>if b=true then ∃N:St->Hp->Prop,(∀σ' H',N σ' H'->∃m',m'<m/\W m' σ' H')/\tb { D with nx:=N,ct:=N,bk:=D.nx } σ H1 else D.nx σ H1
theorem z6t{c:Expr}{body:List Stmt}{tc:TT}{tb:TS}(hp:Rp (model X.prog X.w) X.A X.env X.xe)(hc:PT X c tc)(hb:PSs X body tb):PS X (.While c body [] pos) (tWhile tc tb):=by
 intro pins s σ H D I h;obtain⟨W,⟨m0,w0⟩,turn⟩:=h;refine wpAny_While (codeAny_whileLoop (fun n s'=>∃σ' H',Inv X pins σ' H' s'/\W n σ' H') ?_ m0 ⟨σ,H,I,w0⟩);rintro n s1 ⟨σ1,H1,I1,w1⟩;refine Gn hp (thn (hc pins s1 σ1 H1 _ I1 (turn n σ1 H1 w1)) fun b s2 ⟨H2,I2,q2⟩=>?_);cases b with
 |true =>
  obtain⟨N,hN,q2⟩:=q2;refine Gn hp (thn (hb pins s2 σ1 H2 _ I2 q2) fun f s3 q3=>?_);cases f with
  |next =>
   obtain⟨σ3,H3,I3,n3⟩:=q3;obtain⟨m',hm,w3⟩:=hN σ3 H3 n3;exact⟨m',hm,σ3,H3,I3,w3⟩
  |cont =>
   obtain⟨σ3,H3,I3,n3⟩:=q3;obtain⟨m',hm,w3⟩:=hN σ3 H3 n3;exact⟨m',hm,σ3,H3,I3,w3⟩
  |brk=>exact q3
  |ret v=>exact q3
 |false =>
  exact Jj ⟨σ1,H2,I2,q2⟩
end
structure It where
 go:Nat->Hp->Prop
 yld:Nat->Hp->V->Hp->Prop
 stop:Nat->Hp->Prop
def FpOk(X:Cx)(pins:List (Addr×Obj))(H:Hp)(b:Addr):Prop :=
 H b=none/\b≠X.env.locals/\b∉X.fs/\(b∈X.ex\/X.s₀.heap.objs.size<=b)/\(∀x c,X.env.cells.lookup x=some c->c≠b)/\∀p∈X.pn++pins,p.1≠b
theorem Inv.fpOk{σ:St}{b:Addr}(I:Inv X pins σ H s)(hb:s.heap.objs.size<=b)(hn:H' b=none):FpOk X pins H' b:=by
 refine⟨hn,Er (Bf I.lt hb),I.nofs hb,.inr (Bi I.sz hb),fun x c e z=>?_,fun p hp z=>?_⟩
 ·obtain⟨v,q⟩:=I.cell x c e;exact absurd (Bf q.lt (by rw[z];exact hb)) (Fq _)
 ·exact absurd (Bf (An (I.pin p hp).1) (by rw[z];exact hb)) (Fq _)
structure Turn (P:Program) (w:World) (K:Ai) (tg:Expr) (J:It) (fp:List Addr) (it:Addr) (tn:Nat->Heap->Prop):Prop where
 mem:it∈fp
 obj:∀i h,tn i h->∀b∈fp,∃o,h.get? b=some o/\∀v,o.data≠.cell v
 keep:∀i h h',tn i h->(∀b∈fp,∀o,h.get? b=some o->h'.get? b=some o)->tn i h'
 item:∀(X:Cx),X.prog=P->X.w=w->X.K=K->X.calm=true->∀(i:Nat) (pins:List (Addr×Obj)) (s:Ae) (σ:St) (H:Hp) (E:Value->Ae->Prop),Inv X pins σ H s->(∀b∈fp,FpOk X pins H b)->tn i s.heap->J.go i H ->
  wpAny (model P w) X.A (Jq (.ref it)) (fun r s1=>∃u,r=some u /\
   wpAny (model P w) X.A (Lr tg (.ref it) u) (fun _ s2=>∃x H',Inv X pins σ H' s2/\RelV x u/\J.yld i H x H'/\tn (i+1) s2.heap/\∀b∈fp,H' b=none) E s1) E s
 done:∀(X:Cx),X.prog=P->X.w=w->X.K=K->X.calm=true->∀(i:Nat) (pins:List (Addr×Obj)) (s:Ae) (σ:St) (H:Hp) (E:Value->Ae->Prop),Inv X pins σ H s->(∀b∈fp,FpOk X pins H b)->tn i s.heap->J.stop i H ->
  wpAny (model P w) X.A (Jq (.ref it)) (fun r s1=>r=none/\Inv X pins σ H s1) E s
 self:∀(A:Around) (i:Nat) (s:Ae) (Q:Value->Ae->Prop) (E:Value->Ae->Prop),tn i s.heap->Q (.ref it) s->wpAny (model P w) A (Pw (.ref it)) Q E s
abbrev TI:=St->Hp->(It->Hp->Prop)->Prop
def PIE(X:Cx)(pins:List (Addr×Obj))(σ:St)(tg:Expr)(R:It->Hp->Prop)(itv:Value)(s2:Ae):Prop :=
 ∃(it:Addr) (fp:List Addr) (tn:Nat->Heap->Prop) (J:It) (H':Hp),itv=.ref it/\Inv X pins σ H' s2/\Turn X.prog X.w X.K tg J fp it tn/\tn 0 s2.heap/\(∀b∈fp,FpOk X pins H' b)/\R J H'
def PI(X:Cx)(tg iter:Expr)(wi:TI):Prop :=
 ∀(pins:List (Addr×Obj)) (s:Ae) (σ:St) (H:Hp) (R:It->Hp->Prop),Inv X pins σ H s->wi σ H R ->
  wpAny (model X.prog X.w) X.A (eval iter X.env) (fun v s1=>wpAny (model X.prog X.w) X.A (Pw v) (PIE X pins σ tg R) X.xe s1) X.xe s
theorem z2c (ho : s.heap.get? it = some o) (hc : o.cls = .type n) (hd : o.data = .fields vs)
    (hn : ["enumerate", "zip", "dict_itemiterator", "dict_reverseitemiterator", "odict_iterator", "itertools.zip_longest", "itertools.pairwise"].contains n = false) (hQ : Q () s) : wpAny M A (Lr tg (.ref it) u) Q E s := by
  cases tg <;> first
    | exact Ad hQ
    | (cases u <;> first
        | exact Ad hQ
        | (refine Ab (Um ho ?_)
           rw [hc, hd]
           show wpAny M A (if (["enumerate", "zip", "dict_itemiterator", "dict_reverseitemiterator", "odict_iterator", "itertools.zip_longest", "itertools.pairwise"].contains n && vs[0]? == some (Es _)) = true then _ else _) Q E s
           rw [if_neg (by intro h; rw [hn, Bool.false_and] at h; cases h)]
           exact Ad hQ))
def Itl(K:Ai)(a:Addr):It :=
 ⟨fun i H=>∃xs x,SqL K H a xs/\xs[i]?=some x,fun i H x H'=>H'=H/\∀xs,SqL K H a xs->xs[i]?=some x,fun i H=>∃xs,SqL K H a xs/\xs.length<=i⟩
def Itt(K:Ai)(a:Addr):It :=
 ⟨fun i H=>∃xs x,SqT K H a xs/\xs[i]?=some x,fun i H x H'=>H'=H/\∀xs,SqT K H a xs->xs[i]?=some x,fun i H=>∃xs,SqT K H a xs/\xs.length<=i⟩
def Itr(lo:Int)(n:Nat):It:=⟨fun i _=>i<n,fun i H x H'=>H'=H/\x=.int (lo+i),fun i _=>n<=i⟩
theorem z3o{K:Ai}(a it:Addr):Turn P w K tg (Itl K a) [it] it (fun i h=>h.IsListIter it a i) where
 mem:=by simp
 obj:=fun i h st b hb=>by
  have e:b=it:=by grind
  subst e;obtain⟨o,e,c,d⟩:=st;exact⟨o,e,fun v z=>by rw[d] at z;cases z⟩
 keep:=fun i h h' st k=>st.at fun o e=>k it (by simp) o e
 item:=by
  intro X hP hw hK hc i pins s σ H E I hf st hg;subst hP hw hK;obtain⟨xs,x,hq,hx⟩:=hg;obtain⟨its,rv,p,hz⟩:=I.list hq;obtain⟨u,hu,ru⟩:=rv.get hx;obtain⟨f0,f1,f2,f3,f4,f5⟩:=hf it (by simp);refine Pd st p.isList (by simpa using hu) fun h' st' sb=>?_;have I1:Inv X pins σ H { s with heap:=h' }:=I.turned (t':=s.toks) (fun b o hb e=>(sb.2 b hb).trans e) f0 f1 f3 f4 f5;obtain⟨o,e,c,d⟩:=id st';exact⟨u,rfl,z2c e c d (by decide) ⟨x,H,I1,ru,⟨rfl,fun ys hy=>by rw[I.list_inj hy hq];exact hx⟩,st',fun b hb=>(hf b hb).1⟩⟩
 done:=by
  intro X hP hw hK hc i pins s σ H E I hf st hg;subst hP hw hK;obtain⟨xs,hq,hx⟩:=hg;obtain⟨its,rv,p,hz⟩:=I.list hq;obtain⟨f0,f1,f2,f3,f4,f5⟩:=hf it (by simp);have hl:=rv.length;exact Px (I.ok.hd hc) st p.isList (by simp;lia) fun h' eb=>⟨rfl,I.turned (t':=s.toks) (fun b o hb e=>eb b o hb e) f0 f1 f3 f4 f5⟩
 self:=fun _ _ _ _ _ st h=>wpAny_pyIter_listiter st h
theorem z2d{K:Ai}(a it:Addr):Turn P w K tg (Itt K a) [it] it (fun i h=>h.IsTupleIter it a i) where
 mem:=by simp
 obj:=fun i h st b hb=>by
  have e:b=it:=by grind
  subst e;obtain⟨o,e,c,d⟩:=st;exact⟨o,e,fun v z=>by rw[d] at z;cases z⟩
 keep:=fun i h h' st k=>st.at fun o e=>k it (by simp) o e
 item:=by
  intro X hP hw hK hc i pins s σ H E I hf st hg;subst hP hw hK;obtain⟨xs,x,hq,hx⟩:=hg;obtain⟨its,rv,p,hz⟩:=I.tuple hq;obtain⟨u,hu,ru⟩:=rv.get hx;obtain⟨f0,f1,f2,f3,f4,f5⟩:=hf it (by simp);refine wpAny_pyNext_tuple_item st (show s.heap.IsTuple a its.toArray from p) (by simpa using hu) fun h' st' sb=>?_;have I1:Inv X pins σ H { s with heap:=h' }:=I.turned (t':=s.toks) (fun b o hb e=>(sb.2 b hb).trans e) f0 f1 f3 f4 f5;obtain⟨o,e,c,d⟩:=id st';exact⟨u,rfl,z2c e c d (by decide) ⟨x,H,I1,ru,⟨rfl,fun ys hy=>by rw[I.tuple_inj hy hq];exact hx⟩,st',fun b hb=>(hf b hb).1⟩⟩
 done:=by
  intro X hP hw hK hc i pins s σ H E I hf st hg;subst hP hw hK;obtain⟨xs,hq,hx⟩:=hg;obtain⟨its,rv,p,hz⟩:=I.tuple hq;obtain⟨f0,f1,f2,f3,f4,f5⟩:=hf it (by simp);have hl:=rv.length;exact wpAny_pyNext_tuple_end (I.ok.hd hc) st (show s.heap.IsTuple a its.toArray from p) (by simp;lia) fun h' eb=>⟨rfl,I.turned (t':=s.toks) (fun b o hb e=>eb b o hb e) f0 f1 f3 f4 f5⟩
 self:=fun _ _ _ _ _ st h=>wpAny_pyIter_tupleiter st h
theorem z2e{K:Rq}(it:Addr)(lo:Int)(n:Nat):Turn P w K tg (Itr lo n) [it] it (fun i h=>IsRangeIter h it (lo+(i:Nat)*1) ((n:Int)-(i:Nat)) 1) where
 mem:=by simp
 obj:=fun i h st b hb=>by
  have e:b=it:=by grind
  subst e;exact⟨_,st,fun v z=>by
   have z':=z;cases z'⟩
 keep:=fun i h h' st k=>k it (by simp) _ st
 item:=by
  intro X hP hw hK hc i pins s σ H E I hf st hg;subst hP hw hK;obtain⟨f0,f1,f2,f3,f4,f5⟩:=hf it (by simp);have W:=Walks.range (prog:=X.prog) (w:=X.w) (I.ok.hd hc) it lo 1 n;refine W.item i s _ _ hg st fun v h' tk hv st' kk=>?_;obtain⟨t,rfl⟩:=hv;have I1:Inv X pins σ H { s with heap:=h',toks:=tk }:=I.turned (fun b o hb e=>kk b o (by simpa using hb) e) f0 f1 f3 f4 f5;refine⟨_,rfl,z2c st' rfl rfl (by decide) ⟨.int (lo+i),H,I1,⟨t,?_⟩,⟨rfl,rfl⟩,st',fun b hb=>(hf b hb).1⟩⟩;rw[Int.mul_one]
 done:=by
  intro X hP hw hK hc i pins s σ H E I hf st hg;obtain⟨f0,f1,f2,f3,f4,f5⟩:=hf it (by simp);exact wpAny_pyNext_range_end (I.ok.hd hc) st (by have:n<=i:=hg;lia) fun h' eb=>⟨rfl,I.turned (t':=s.toks) (fun b o hb e=>eb b o hb e) f0 f1 f3 f4 f5⟩
 self:=fun _ _ _ _ _ st h=>wpAny_pyIter_rangeiter st h
open PySem PySem.Spec PyProof.Rows
section
variable{X:Cx}{tg:Expr}
theorem z6u{σ:St}{lo:Int}(I:Inv X pins σ H s)(h1 : -(2^62)<=lo)(h2:lo<2^62)(h3 : -(2^62)<=hi)(h4:hi<2^62)(q:R (Itr lo (hi-lo).toNat) H):wpAny (model X.prog X.w) X.A (Pw (.ref s.heap.objs.size)) (PIE X pins σ tg R) E { s with heap:=s.heap.push { cls:=.type "range",data:=.fields #[.int lo t,.int hi u,.int 1 v] },toks:=tk }:=by
 refine wpAny_pyIter_range (IsRange.new ..) (small_one h1 h2 h3 h4) ?_;have I1:Inv X pins σ H { s with heap:=s.heap.push { cls:=.type "range",data:=.fields #[.int lo t,.int hi u,.int 1 v] },toks:=tk }:=I.kept fun b o e=>Af _ e;refine⟨(s.heap.push { cls:=.type "range",data:=.fields #[.int lo t,.int hi u,.int 1 v] }).objs.size,[(s.heap.push { cls:=.type "range",data:=.fields #[.int lo t,.int hi u,.int 1 v] }).objs.size],_,_,H,rfl,
  I1.kept (t':=tk) fun b o e=>Af _ e,z2e _ lo (hi-lo).toNat,?_,fun b hb=>?_,q⟩
 ·have e1:lo+((0:Nat):Int)*1=lo:=by simp
  have e2:(((hi-lo).toNat:Nat):Int)-((0:Nat):Int)=Cs.Range.rangeSize lo hi 1:=by rw[rangeSize_one];split<;>lia
  rw[e1,e2];exact Av _ rfl
 ·have e:b=(s.heap.push { cls:=.type "range",data:=.fields #[.int lo t,.int hi u,.int 1 v] }).objs.size:=by simpa using hb
  subst e;exact I1.fpOk (Am _) (I1.hok.fresh (Am _))
def iRng1(ta:TA):TI:=fun σ H R=>ta σ H fun vs H1=>∃j:Int,vs=[.int j] /\ -(2^62)<=j/\j<2^62/\R (Itr 0 j.toNat) H1
theorem q2w{a:Expr}{ta:TA}{p pos:Pos}(hg:Gl X "range")(hm:X.mg "range" = none)(ha:PA X [a] ta)(hs:Ba [a] X.env=[(false,eval a X.env)]:=by rfl):PI X tg (.Call (.Name "range" p) [a] [] pos) (iRng1 ta):=by
 intro pins s σ H R I h;refine Call_ (q7w I hg hm boot_range (Ip (thn (ha pos pins s σ H _ I h) fun us s1 ⟨vs,H1,I1,r1,q1⟩=>?_) hs rfl));obtain⟨j,e,q1,q2,q⟩:=q1;subst e;cases r1 with
 |cons r rr =>
  cases rr;obtain⟨t,rfl⟩:=r;exact call_range_1 (z6u I1 (by lia) (by lia) q1 q2 (by simpa using q))
def tFor(wi:TI)(g:TG)(tb:TS):TS:=fun D σ H=>wi σ H fun J H1=>∃W:Nat->Nat->St->Hp->Prop,(∃m,W 0 m σ H1)/\∀i m σ H,W i m σ H ->
 (J.stop i H/\D.nx σ H)\/(J.go i H/\∃N:St->Hp->Prop,(∀σ' H',N σ' H'->∃m',m'<m/\W (i+1) m' σ' H')/\∀x H',J.yld i H x H'->g x σ H' fun σ2 H2=>tb { D with nx:=N,ct:=N,bk:=D.nx } σ2 H2)
def pinsAt(fp:List Addr)(h:Heap):List (Addr×Obj):=fp.filterMap fun b=>(h.get? b).map fun o=>(b,o)
theorem q1u(hb:b∈fp)(e:h.get? b=some o):(b,o)∈pinsAt fp h:=Rr.mpr ⟨b,hb,by rw[e];rfl⟩
theorem z3p(hp:p∈pinsAt fp h):p.1∈fp/\h.get? p.1=some p.2:=by
 obtain⟨b,hb,e⟩:=Rr.mp hp;cases q:h.get? b with
 |none=>rw[q] at e;cases e
 |some o =>
  rw[q] at e;have e':=Bw e;subst e';exact⟨hb,q⟩
theorem Inv.pinned{σ:St}(I:Inv X pins σ H s)(hf:∀b∈fp,FpOk X pins H b)(ho:∀b∈fp,∃o,s.heap.get? b=some o/\∀v,o.data≠.cell v):Inv X (pins++pinsAt fp s.heap) σ H s :=
 I.pins_of fun p hp=>(Ax.mp hp).elim (fun z=>I.pin p (Bl _ z)) fun z=>by
  obtain⟨hb,e⟩:=z3p z;obtain⟨f0,f1,f2,_⟩:=hf p.1 hb;obtain⟨o,e',d⟩:=ho p.1 hb;rw[e] at e';cases e';exact⟨e,f0,f1,f2,d⟩
theorem Inv.unpinned{σ:St}(I:Inv X (pins++pl) σ H s):Inv X pins σ H s:=I.pins_of fun p hp=>I.pin p (Bl _ (Ed _ hp))
theorem q2r{iter:Expr}{body:List Stmt}{wi:TI}{g:TG}{tb:TS}{pos:Pos}(hp:Rp (model X.prog X.w) X.A X.env X.xe)(hc:X.calm=true)(hi:PI X tg iter wi)(hg:PG X tg g)(hb:PSs X body tb)(hs:∀x,Kn iter X.env x=pure x:=by intro _;rfl):PS X (.For tg iter body [] pos) (tFor wi g tb):=by
 intro pins s σ H D I h;refine wpAny_For (thn (hi pins s σ H _ I h) fun v s1 h1=>thn h1 fun itv s2 h2=>?_) hs;obtain⟨it,fp,tn,J,H2,e,I2,T,st2,f2,W,⟨m0,w0⟩,turn⟩:=h2;subst e;have stat:∀{H':Hp},(∀b∈fp,H' b=none)->∀b∈fp,FpOk X pins H' b:=fun hn b hb=>⟨hn b hb,(f2 b hb).2⟩
 refine codeAny_forLoop_any (fun n s'=>∃i σ' H',Inv X pins σ' H' s'/\tn i s'.heap/\(∀b∈fp,H' b=none)/\W i n σ' H') ?_ m0 ⟨0,σ,H2,I2,st2,fun b hb=>(f2 b hb).1,w0⟩;rintro n s3 ⟨i,σ3,H3,I3,st3,fr3,w3⟩;rcases turn i n σ3 H3 w3 with⟨stop,qn⟩|⟨go,N,hN,step⟩
 ·refine Gn hp (thn (T.done X rfl rfl rfl hc i pins s3 σ3 H3 X.xe I3 (stat fr3) st3 stop) fun r s4 ⟨hr,I4⟩=>?_);subst hr;exact Jj ⟨σ3,H3,I4,qn⟩
 ·refine Gn hp (thn (T.item X rfl rfl rfl hc i pins s3 σ3 H3 X.xe I3 (stat fr3) st3 go) fun r s4 ⟨u,hr,h4⟩=>?_);subst hr;refine Gn hp (thn h4 fun _ s5 ⟨x,H5,I5,r5,y5,st5,fr5⟩=>?_);have I5':=I5.pinned (stat fr5) (T.obj _ _ st5);refine Gn hp (thn (hg _ s5 σ3 H5 x u _ I5' r5 (step x H5 y5)) fun _ s6 ⟨σ6,H6,I6,q6⟩=>?_);refine Gn hp (thn (hb _ s6 σ6 H6 _ I6 q6) fun f s7 q7=>?_);have again:∀{σ7:St} {H7:Hp},Inv X (pins++pinsAt fp s5.heap) σ7 H7 s7->N σ7 H7->∃m,m<n/\∃i σ' H',Inv X pins σ' H' s7/\tn i s7.heap/\(∀b∈fp,H' b=none)/\W i m σ' H':=fun{σ7 H7} I7 n7=>by
   obtain⟨m',hm,w7⟩:=hN σ7 H7 n7;refine⟨m',hm,i+1,σ7,H7,I7.unpinned,T.keep _ _ _ st5 fun b hb o e=>(I7.pin (b,o) (Bl _ (Bl _ (q1u hb e)))).1,fun b hb=>?_,w7⟩;obtain⟨o,e,d⟩:=T.obj _ _ st5 b hb;exact(I7.pin (b,o) (Bl _ (Bl _ (q1u hb e)))).2.1
  cases f with
  |next=>obtain⟨σ7,H7,I7,n7⟩:=q7;exact again I7 n7
  |cont=>obtain⟨σ7,H7,I7,n7⟩:=q7;exact again I7 n7
  |brk=>obtain⟨σ7,H7,I7,q7⟩:=q7;exact⟨σ7,H7,I7.unpinned,q7⟩
  |ret v=>obtain⟨x7,σ7,H7,I7,r7,q7⟩:=q7;exact⟨x7,σ7,H7,I7.unpinned,r7,q7⟩
end
theorem q4t{K:Rq}{g:TG}{tb:TS}{D:Ends}(Pv:Nat->St->Hp->Prop)(h0:Pv 0 σ H)(hl:∀i σ H,i<=xs.length->Pv i σ H->SqL K H a xs)(hs:∀i x σ H,xs[i]?=some x->Pv i σ H->g x σ H fun σ2 H2=>tb { D with nx:=Pv (i+1),ct:=Pv (i+1),bk:=D.nx } σ2 H2)(hd:∀σ H,Pv xs.length σ H->D.nx σ H):
  ∃W:Nat->Nat->St->Hp->Prop,(∃m,W 0 m σ H)/\∀i m σ H,W i m σ H ->
   ((Itl K a).stop i H/\D.nx σ H)\/((Itl K a).go i H/\∃N:St->Hp->Prop,(∀σ' H',N σ' H'->∃m',m'<m/\W (i+1) m' σ' H')/\∀x H',(Itl K a).yld i H x H'->g x σ H' fun σ2 H2=>tb { D with nx:=N,ct:=N,bk:=D.nx } σ2 H2):=by
 refine⟨fun i m σ H=>m=xs.length-i/\i<=xs.length/\Pv i σ H,⟨xs.length,by simp,By _,h0⟩,?_⟩;rintro i m σ H ⟨rfl,hi,p⟩;have q:=hl i σ H hi p;by_cases hlt:i<xs.length
 ·refine .inr ⟨⟨xs,xs[i],q,by simp[hlt]⟩,Pv (i+1),fun σ' H' p'=>⟨xs.length-(i+1),by lia,rfl,hlt,p'⟩,fun x H' y=>?_⟩;obtain⟨e,y⟩:=y;subst e;exact hs i x σ _ (y xs q) p
 ·have e:i=xs.length:=by lia
  subst e;exact .inl ⟨⟨xs,q,Am _⟩,hd σ H p⟩
theorem q3u{lo:Int}{g:TG}{tb:TS}{D:Ends}(Pv:Nat->St->Hp->Prop)(h0:Pv 0 σ H)(hs:∀i σ H,i<n->Pv i σ H->g (.int (lo+i)) σ H fun σ2 H2=>tb { D with nx:=Pv (i+1),ct:=Pv (i+1),bk:=D.nx } σ2 H2)(hd:∀σ H,Pv n σ H->D.nx σ H):
  ∃W:Nat->Nat->St->Hp->Prop,(∃m,W 0 m σ H)/\∀i m σ H,W i m σ H ->
   ((Itr lo n).stop i H/\D.nx σ H)\/((Itr lo n).go i H/\∃N:St->Hp->Prop,(∀σ' H',N σ' H'->∃m',m'<m/\W (i+1) m' σ' H')/\∀x H',(Itr lo n).yld i H x H'->g x σ H' fun σ2 H2=>tb { D with nx:=N,ct:=N,bk:=D.nx } σ2 H2):=by
 refine⟨fun i m σ H=>m=n-i/\i<=n/\Pv i σ H,⟨n,by simp,By _,h0⟩,?_⟩;rintro i m σ H ⟨rfl,hi,p⟩;by_cases hlt:i<n
 ·refine .inr ⟨hlt,Pv (i+1),fun σ' H' p'=>⟨n-(i+1),by lia,rfl,hlt,p'⟩,fun x H' y=>?_⟩;obtain⟨e,y⟩:=y;subst e y;exact hs i σ _ hlt p
 ·have e:i=n:=by lia
  subst e;exact .inl ⟨Am _,hd σ H p⟩
theorem z6v(Pv:St->Hp->Prop)(μ:St->Hp->Nat)(h0:Pv σ H)(hs:∀σ H,Pv σ H->c σ H fun b H1=>if b=true then tb { D with nx:=fun σ' H'=>Pv σ' H'/\μ σ' H'<μ σ H,ct:=fun σ' H'=>Pv σ' H'/\μ σ' H'<μ σ H,bk:=D.nx } σ H1 else D.nx σ H1)(mono:∀σ H Q Q',(∀b H1,Q b H1->Q' b H1)->c σ H Q->c σ H Q'):tWhile c tb D σ H:=by
 refine⟨fun m σ H=>m=μ σ H/\Pv σ H,⟨_,rfl,h0⟩,?_⟩;rintro m σ H ⟨rfl,p⟩;refine mono σ H _ _ (fun b H1 q=>?_) (hs σ H p);cases b with
 |true=>exact⟨_,fun σ' H' ⟨p',l⟩=>⟨_,l,rfl,p'⟩,q⟩
 |false=>exact q
open PySem PySem.Spec PyProof.Rows
abbrev R2:=V->V->Hp->VK->Prop
def OpR(X:Cx)(f:Value->Value->Sem Value)(r:R2):Prop :=
 ∀(pins:List (Addr×Obj)) (s:Ae) (σ:St) (H:Hp) (x y:V) (v u:Value) (Q:VK),Inv X pins σ H s->RelV x v->RelV y u->r x y H Q ->
  wpAny (model X.prog X.w) X.A (f v u) (EP X pins σ Q) X.xe s
def UnR(X:Cx)(f:Value->Sem Value)(r:V->Hp->VK->Prop):Prop :=
 ∀(pins:List (Addr×Obj)) (s:Ae) (σ:St) (H:Hp) (x:V) (v:Value) (Q:VK),Inv X pins σ H s->RelV x v->r x H Q ->
  wpAny (model X.prog X.w) X.A (f v) (EP X pins σ Q) X.xe s
def CallR(X:Cx)(f:Value)(r:List V->Hp->VK->Prop):Prop :=
 ∀(pins:List (Addr×Obj)) (s:Ae) (σ:St) (H:Hp) (xs:List V) (us:List Value) (Q:VK),Inv X pins σ H s->Vals xs us->r xs H Q ->
  wpAny (model X.prog X.w) X.A (call f us) (EP X pins σ Q) X.xe s
def TruR(X:Cx)(r:V->Hp->(Bool->Hp->Prop)->Prop):Prop :=
 ∀(pins:List (Addr×Obj)) (s:Ae) (σ:St) (H:Hp) (x:V) (v:Value) (Q:Bool->Hp->Prop),Inv X pins σ H s->RelV x v->r x H Q ->
  wpAny (model X.prog X.w) X.A (truthy v) (TP X pins σ Q) X.xe s
def tOp(r:R2)(ta tb:TE):TE:=fun σ H Q=>ta σ H fun x H1=>tb σ H1 fun y H2=>r x y H2 Q
def tUn(r:V->Hp->VK->Prop)(ta:TE):TE:=fun σ H Q=>ta σ H fun x H1=>r x H1 Q
def rI(C:Int->Int->Prop)(g:Int->Int->V):R2:=fun x y H Q=>∃i j,x=.int i/\y=.int j/\C i j/\Q (g i j) H
def rI0(g:Int->Int->V):R2:=fun x y H Q=>∃i j,x=.int i/\y=.int j/\Q (g i j) H
def rU(g:Int->V):V->Hp->VK->Prop:=fun x H Q=>∃i,x=.int i/\Q (g i) H
section
variable{X:Cx}{a b c:Expr}{ta tb tc:TE}{pos:Pos}
theorem binT(ha:PE X a ta)(hb:PE X b tb){σ:St}{R:V->V->Hp->Prop}(I:Inv X pins σ H s)(h:ta σ H fun x H1=>tb σ H1 fun y H2=>R x y H2){f:Value->Value->Sem Value}(hf:∀v u s2 x y H2,Inv X pins σ H2 s2->RelV x v->RelV y u->R x y H2->wpAny (model X.prog X.w) X.A (f v u) Q X.xe s2):
  wpAny (model X.prog X.w) X.A (eval a X.env) (fun v s₁=>wpAny (model X.prog X.w) X.A (eval b X.env) (fun u s₂=>wpAny (model X.prog X.w) X.A (f v u) Q X.xe s₂) X.xe s₁) X.xe s:=by
 refine thn (ha pins s σ H _ I h) fun v s1 ⟨x,H1,I1,r1,q1⟩=>?_;refine thn (hb pins s1 σ H1 _ I1 q1) fun u s2 ⟨y,H2,I2,r2,q2⟩=>?_;exact hf v u s2 x y H2 I2 r1 r2 q2
theorem q0w{op:Operator}{r:R2}(ho:OpR X (Gd op) r)(ha:PE X a ta)(hb:PE X b tb):PE X (.BinOp a op b pos) (tOp r ta tb):=by
 intro pins s σ H Q I h;exact wpAny_BinOp (binT ha hb I h fun v u s2 x y H2 I2 rx ry q=>ho pins s2 σ H2 x y v u Q I2 rx ry q)
theorem q1r{op:UnaryOp}{r:V->Hp->VK->Prop}(ho:UnR X (unaryOp op) r)(ha:PE X a ta):PE X (.UnaryOp op a pos) (tUn r ta):=by
 intro pins s σ H Q I h;exact UnaryOp_ (thn (ha pins s σ H _ I h) fun v s1 ⟨x,H1,I1,r1,q1⟩=>ho pins s1 σ H1 x v Q I1 r1 q1)
theorem opI{g:Int->Int->Int}(rule:∀(i j:Int) (t u:Tok) (s:Ae) (Q:Value->Ae->Prop) (E:Value->Ae->Prop),C i j->Q (.int (g i j) s.toks) { s with toks:=s.toks+1 }->wpAny (model X.prog X.w) X.A (f (.int i t) (.int j u)) Q E s):
  OpR X f (rI C fun i j=>.int (g i j)):=by
 intro pins s σ H x y v u Q I rx ry h;obtain⟨i,j,rfl,rfl,hc,q⟩:=h;obtain⟨t,rfl⟩:=rx;obtain⟨t',rfl⟩:=ry;exact rule i j t t' s _ _ hc ⟨.int (g i j),H,I.tok _,⟨_,rfl⟩,q⟩
theorem opI0{g:Int->Int->Int}(rule:∀(i j:Int) (t u:Tok) (s:Ae) (Q:Value->Ae->Prop) (E:Value->Ae->Prop),Q (.int (g i j) s.toks) { s with toks:=s.toks+1 }->wpAny (model X.prog X.w) X.A (f (.int i t) (.int j u)) Q E s):
  OpR X f (rI0 fun i j=>.int (g i j)):=by
 intro pins s σ H x y v u Q I rx ry h;obtain⟨i,j,rfl,rfl,q⟩:=h;obtain⟨t,rfl⟩:=rx;obtain⟨t',rfl⟩:=ry;exact rule i j t t' s _ _ ⟨.int (g i j),H,I.tok _,⟨_,rfl⟩,q⟩
theorem opB0{g:Int->Int->Bool}(rule:∀(i j:Int) (t u:Tok) (s:Ae) (Q:Value->Ae->Prop) (E:Value->Ae->Prop),Q (.bool (g i j)) s->wpAny (model X.prog X.w) X.A (f (.int i t) (.int j u)) Q E s):
  OpR X f (rI0 fun i j=>.bl (g i j)):=by
 intro pins s σ H x y v u Q I rx ry h;obtain⟨i,j,rfl,rfl,q⟩:=h;obtain⟨t,rfl⟩:=rx;obtain⟨t',rfl⟩:=ry;exact rule i j t t' s _ _ ⟨.bl (g i j),H,I,rfl,q⟩
def CDiv(i j:Int):Prop:=0<j/\j<1073741824
def CPow(i j:Int):Prop:=0<=j/\j<=1000000/\i.natAbs<2^64
def CMul(i j:Int):Prop:=(-(2^64)<i/\i<2^64)\/(-(2^64)<j/\j<2^64)
theorem CMul.ok(h:CMul i j):IntMulOk i j:=by
 rcases h with⟨h1,h2⟩|⟨h1,h2⟩
 ·exact .of_left (intBits_le_64 h1 h2)
 ·exact .of_right (intBits_le_64 h1 h2)
theorem op_add:OpR X (Gd .Add) (rI0 fun i j=>.int (i+j)):=opI0 fun _ _ _ _ _ _ _ q=>add_int q
theorem op_mul:OpR X (Gd .Mult) (rI CMul fun i j=>.int (i*j)):=opI fun _ _ _ _ _ _ _ hc q=>mul_int q hc.ok
theorem z3q:OpR X (Gd .FloorDiv) (rI CDiv fun i j=>.int (i / j)):=opI fun i j _ _ _ _ _ hc q=>by
 have h1:=hc.1;have h2:=hc.2;exact floordiv_int (by lia) (by rw[Int.fdiv_eq_ediv_of_nonneg i (by lia)];exact q) (.inl (PyProof.noPylong_small (by lia)))
theorem q6a:OpR X (Gd .Mod) (rI (fun _ j=>0<j) fun i j=>.int (i%j)):=opI fun i j _ _ _ _ _ hc q=>by
 exact mod_int' (by lia) (by rw[Int.fmod_eq_emod_of_nonneg i (by lia)];exact q)
theorem z8u:OpR X (Gd .Pow) (rI CPow fun i j=>.int (i^j.toNat)):=opI fun _ _ _ _ _ _ _ hc q=>pow_int_small hc.1 hc.2.1 hc.2.2 q
theorem unI{g:Int->Int}(rule:∀(i:Int) (t:Tok) (s:Ae) (Q:Value->Ae->Prop) (E:Value->Ae->Prop),Q (.int (g i) s.toks) { s with toks:=s.toks+1 }->wpAny (model X.prog X.w) X.A (f (.int i t)) Q E s):
  UnR X f (rU fun i=>.int (g i)):=by
 intro pins s σ H x v Q I rx h;obtain⟨i,rfl,q⟩:=h;obtain⟨t,rfl⟩:=rx;exact rule i t s _ _ ⟨.int (g i),H,I.tok _,⟨_,rfl⟩,q⟩
theorem q0x:UnR X (unaryOp .USub) (rU fun i=>.int (-i)):=unI fun _ _ _ _ _ q=>neg_int q
end
def scal:V->V->Bool
 |.non,.non=>true|.non,.int _=>true|.int _,.non=>true|.non,.bl _=>true|.bl _,.non=>true|.non,.str _=>true|.str _,.non=>true
 |.int _,.int _=>true|.bl _,.bl _=>true|.str _,.str _=>true|.byt _,.byt _=>true
 |.int _,.str _=>true|.str _,.int _=>true|.bl _,.str _=>true|.str _,.bl _=>true
 |_,_=>false
def rEq:R2:=fun x y H Q=>scal x y=true/\Q (.bl (decide (x=y))) H
def rNe:R2:=fun x y H Q=>scal x y=true/\Q (.bl (!decide (x=y))) H
theorem z3r:decide (V.int i=V.int j)=(i==j):=by
 rw[Ls];simp
theorem z8v:decide (V.bl i=V.bl j)=(i==j):=by
 rw[Ls];simp
theorem dec_str:decide (V.str i=V.str j)=(i==j):=by
 rw[Ls];simp
theorem z3s:decide (V.byt i=V.byt j)=(i.toList==j.toList):=by
 rw[Ls];cases i;cases j;simp
section
variable{X:Cx}{a b c:Expr}{ta tb tc:TE}{pos:Pos}
theorem q0r{σ:St}(I:Inv X pins σ H s)(q:Q (.bl k) H)(e:k=k'):EP X pins σ Q (.bool k') s:=by
 subst e;exact⟨.bl k,H,I,rfl,q⟩
theorem op_eq:OpR X (Cu .Eq) rEq:=by
 intro pins s σ H x y v u Q I rx ry h;obtain⟨hs,q⟩:=h;cases x with
 |non =>
  cases rx;cases y with
  |non=>cases ry;exact PySem.EqNone.eq_none_none (q0r I q (by simp))
  |bl j=>cases ry;exact PySem.EqNone.eq_none_bool (q0r I q (by simp))
  |int j=>obtain⟨t',rfl⟩:=ry;exact PySem.EqNone.eq_none_int (q0r I q (by simp))
  |str j=>obtain⟨t',rfl⟩:=ry;exact PySem.EqNone.eq_none_str (q0r I q (by simp))
  |_=>exact absurd (show false=true from hs) Bn
 |bl i =>
  cases rx;cases y with
  |non=>cases ry;exact PySem.EqNone.eq_bool_none (q0r I q (by simp))
  |bl j=>cases ry;exact eq_bool (q0r I q z8v)
  |str j=>obtain⟨t',rfl⟩:=ry;exact PySem.EqMixed.eq_bool_str (q0r I q (by simp))
  |_=>exact absurd (show false=true from hs) Bn
 |int i =>
  obtain⟨t,rfl⟩:=rx;cases y with
  |non=>cases ry;exact PySem.EqNone.eq_int_none (q0r I q (by simp))
  |int j=>obtain⟨t',rfl⟩:=ry;exact eq_int (q0r I q z3r)
  |str j=>obtain⟨t',rfl⟩:=ry;exact PySem.EqMixed.eq_int_str (q0r I q (by simp))
  |_=>exact absurd (show false=true from hs) Bn
 |str i =>
  obtain⟨t,rfl⟩:=rx;cases y with
  |non=>cases ry;exact PySem.EqNone.eq_str_none (q0r I q (by simp))
  |bl j=>cases ry;exact PySem.EqMixed.eq_str_bool (q0r I q (by simp))
  |int j=>obtain⟨t',rfl⟩:=ry;exact PySem.EqMixed.eq_str_int (q0r I q (by simp))
  |str j=>obtain⟨t',rfl⟩:=ry;exact eq_str (q0r I q dec_str)
  |_=>exact absurd (show false=true from hs) Bn
 |byt i =>
  obtain⟨t,rfl⟩:=rx;cases y with
  |byt j=>obtain⟨t',rfl⟩:=ry;exact W.eq_bytes (q0r I q z3s)
  |_=>exact absurd (show false=true from hs) Bn
 |_=>cases y<;>exact absurd (show false=true from hs) Bn
theorem op_ne:OpR X (Cu .NotEq) rNe:=by
 intro pins s σ H x y v u Q I rx ry h;obtain⟨hs,q⟩:=h;cases x with
 |non =>
  cases rx;cases y with
  |non=>cases ry;exact PySem.EqNone.ne_none_none (q0r I q (by simp))
  |bl j=>cases ry;exact PySem.EqNone.ne_none_bool (q0r I q (by simp))
  |int j=>obtain⟨t',rfl⟩:=ry;exact PySem.EqNone.ne_none_int (q0r I q (by simp))
  |str j=>obtain⟨t',rfl⟩:=ry;exact PySem.EqNone.ne_none_str (q0r I q (by simp))
  |_=>exact absurd (show false=true from hs) Bn
 |bl i =>
  cases rx;cases y with
  |non=>cases ry;exact PySem.EqNone.ne_bool_none (q0r I q (by simp))
  |bl j=>cases ry;exact ne_bool (q0r I q (congrArg not z8v))
  |str j=>obtain⟨t',rfl⟩:=ry;exact PySem.EqMixed.ne_bool_str (q0r I q (by simp))
  |_=>exact absurd (show false=true from hs) Bn
 |int i =>
  obtain⟨t,rfl⟩:=rx;cases y with
  |non=>cases ry;exact PySem.EqNone.ne_int_none (q0r I q (by simp))
  |int j=>obtain⟨t',rfl⟩:=ry;exact ne_int (q0r I q (congrArg not z3r))
  |str j=>obtain⟨t',rfl⟩:=ry;exact PySem.EqMixed.ne_int_str (q0r I q (by simp))
  |_=>exact absurd (show false=true from hs) Bn
 |str i =>
  obtain⟨t,rfl⟩:=rx;cases y with
  |non=>cases ry;exact PySem.EqNone.ne_str_none (q0r I q (by simp))
  |bl j=>cases ry;exact PySem.EqMixed.ne_str_bool (q0r I q (by simp))
  |int j=>obtain⟨t',rfl⟩:=ry;exact PySem.EqMixed.ne_str_int (q0r I q (by simp))
  |str j=>obtain⟨t',rfl⟩:=ry;exact ne_str (q0r I q (congrArg not dec_str))
  |_=>exact absurd (show false=true from hs) Bn
 |byt i =>
  obtain⟨t,rfl⟩:=rx;cases y with
  |byt j=>obtain⟨t',rfl⟩:=ry;exact W.ne_bytes (q0r I q (congrArg not z3s))
  |_=>exact absurd (show false=true from hs) Bn
 |_=>cases y<;>exact absurd (show false=true from hs) Bn
theorem z2f:OpR X (Cu .Lt) (rI0 fun i j=>.bl (decide (i<j))):=opB0 fun _ _ _ _ _ _ _ q=>lt_int q
theorem op_gt:OpR X (Cu .Gt) (rI0 fun i j=>.bl (decide (j<i))):=opB0 fun _ _ _ _ _ _ _ q=>gt_int q
theorem OpR.or(h:OpR X f r)(h':OpR X f r'):OpR X f (fun x y H Q=>r x y H Q\/r' x y H Q):=by
 intro pins s σ H x y v u Q I rx ry q;rcases q with q|q
 ·exact h pins s σ H x y v u Q I rx ry q
 ·exact h' pins s σ H x y v u Q I rx ry q
theorem nomark(b:Expr)(h:op≠.In:=by decide)(h2:op≠.NotIn:=by decide):Gr op b=false:=by
 have e1:(op==CmpOp.In)=false:=by grind
 have e2:(op==CmpOp.NotIn)=false:=by grind
 cases b<;>simp[Gr,e1,e2]
theorem q5a{op:CmpOp}{r:R2}(ho:OpR X (Cu op) r)(ha:PE X a ta)(hb:PE X b tb)(hm:Gr op b=false):PE X (.Compare a [op] [b] pos) (tOp r ta tb):=by
 intro pins s σ H Q I h;exact wpAny_Compare1 (binT ha hb I h fun v u s2 x y H2 I2 rx ry q=>ho pins s2 σ H2 x y v u Q I2 rx ry q) hm
def tTest(t:TE):TT:=fun σ H Q=>t σ H fun x H'=>∃k,x=.bl k/\Q k H'
theorem q0k{op:CmpOp}{r:R2}(ho:OpR X (Cu op) r)(ha:PE X a ta)(hb:PE X b tb)(hm:Gr op b=false):PT X (.Compare a [op] [b] pos) (tTest (tOp r ta tb)):=by
 intro pins s σ H Q I h;refine Pu (thn (ha pins s σ H _ I h) fun v s1 ⟨x,H1,I1,r1,q1⟩=>thn (hb pins s1 σ H1 _ I1 q1) fun u s2 ⟨y,H2,I2,r2,q2⟩ =>
  thn (ho pins s2 σ H2 x y v u _ I2 r1 r2 q2) fun c s3 ⟨z,H3,I3,r3,k,e,q3⟩=>?_) hm
 subst e;cases r3;exact Dm ⟨H3,I3,q3⟩
def TruV(K:Ai)(x:V)(H:Hp)(k:Bool):Prop :=
 match x with
 |.non=>k=false
 |.bl b=>k=b
 |.int i=>k=(i != 0)
 |.str y=>y.length<=sizeLine/\k=((y.length:Int) != 0)
 |.byt y=>y.size<=sizeLine/\k=((y.size:Int) != 0)
 |.ref p=>(∃xs,SqL K H p xs/\k = !xs.isEmpty)\/(∃xs,SqT K H p xs/\k = !xs.isEmpty)\/∃kvs,H p=some (.dK kvs)/\k = !kvs.isEmpty
 |_=>False
theorem z2g{kvs:List (κ×V)}{vs:List (κ×Value)}(r:KV kvs vs):(!vs.isEmpty) = !kvs.isEmpty:=by
 cases r<;>rfl
theorem q6b(r:Vals xs its):(!its.toArray.isEmpty) = !xs.isEmpty:=by
 cases r<;>simp
theorem line63:(sizeLine:Nat)<2^63:=by rw[Dl];decide
theorem tru_ok:TruR X (fun x H Q=>∃k,TruV X.K x H k/\Q k H):=by
 intro pins s σ H x v Q I rx h;obtain⟨k,e,q⟩:=h;have hs:=Dl;cases x with
 |non =>
  cases rx;have e':=e;subst e';exact truthy_none ⟨H,I,q⟩
 |bl b =>
  cases rx;have e':=e;subst e';exact Dm ⟨H,I,q⟩
 |int i =>
  obtain⟨t,rfl⟩:=rx;have e':=e;subst e';exact PySem.P.truthy_int ⟨H,I,q⟩
 |str y =>
  obtain⟨t,rfl⟩:=rx;obtain⟨hy,e'⟩:y.length<=sizeLine/\k=((y.length:Int) != 0):=e;subst e';exact PySem.P.truthy_str (by lia) ⟨H,I.tok _,q⟩
 |byt y =>
  obtain⟨t,rfl⟩:=rx;obtain⟨hy,e'⟩:y.size<=sizeLine/\k=((y.size:Int) != 0):=e;subst e';exact W.truthy_bytes (by lia) ⟨H,I.tok _,q⟩
 |ref p =>
  cases rx;have e':=e;rcases e' with⟨xs,hx,e'⟩|⟨xs,hx,e'⟩|⟨kvs,hx,e'⟩
  ·subst e';obtain⟨its,r,pl,hz⟩:=I.list hx;have hlen:=r.length;exact wpAny_truthy_list pl.isList (by simp only[Ay];lia) ⟨H,I.tok _,by rw[q6b r];exact q⟩
  ·subst e';obtain⟨its,r,pl,hz⟩:=I.tuple hx;have hlen:=r.length;exact truthy_tuple pl (by simp only[Ay];lia) ⟨H,I.tok _,by rw[q6b r];exact q⟩
  ·subst e';obtain⟨hz,hS,vs,r,m⟩:kvs.length<=sizeLine/\(p==Cw)=false/\∃vs,KV kvs vs/\s.heap.DictOf (mixKind X.prog X.w) p vs:=I.hok p _ hx;have hlen:=Cz r;exact wpAny_truthy_dict hS m (by lia) ⟨H,I.tok _,by rw[z2g r];exact q⟩
 |_=>exact(show False from e).elim
theorem z6w(ha:PE X a ta)(he:∀whole,isTrue a X.env whole=(do let v<-whole;Mj a.pos;Ig [v] (truthy v))):
  PT X a (fun σ H Q=>ta σ H fun x H'=>∃k,TruV X.K x H' k/\Q k H'):=by
 intro pins s σ H Q I h;exact isTrue_plain (thn (ha pins s σ H _ I h) fun v s1 ⟨x,H1,I1,r1,q1⟩=>tru_ok pins s1 σ H1 x v Q I1 r1 q1) (he _)
theorem op_add_str:OpR X (Gd .Add) (fun x y H Q=>∃i j,x=.str i/\y=.str j/\i.length+j.length<=sizeLine/\Q (.str (i++j)) H):=by
 intro pins s σ H x y v u Q I rx ry h;obtain⟨i,j,rfl,rfl,hz,q⟩:=h;obtain⟨t,rfl⟩:=rx;obtain⟨t',rfl⟩:=ry;exact add_str (fun t' tk=>⟨.str (i++j),H,I.tok _,⟨_,rfl⟩,q⟩) hz
theorem vals1(r:Vals [x] us):∃u,us=[u]/\RelV x u:=by
 cases r with
 |cons r1 r2=>cases r2;exact⟨_,rfl,r1⟩
theorem vals2(r:Vals [x,y] us):∃u w',us=[u,w']/\RelV x u/\RelV y w':=by
 cases r with
 |cons r1 r2 =>
  cases r2 with
  |cons r3 r4=>cases r4;exact⟨_,_,rfl,r1,r3⟩
theorem z3t(hc:X.calm=true):CallR X (.builtin "max") (fun xs H Q=>∃i j,xs=[.int i,.int j]/\Q (.int (if j>i then j else i)) H):=by
 intro pins s σ H xs us Q I r h;obtain⟨i,j,rfl,q⟩:=h;obtain⟨u,w',rfl,⟨t,rfl⟩,⟨t',rfl⟩⟩:=vals2 r;refine max_two_ints (I.ok.hd hc) fun h' tk k=>⟨_,H,I.kept k,?_,q⟩
 by_cases hj:j>i
 ·rw[if_pos hj,if_pos hj];exact⟨_,rfl⟩
 ·rw[if_neg hj,if_neg hj];exact⟨_,rfl⟩
theorem z3u(hc:X.calm=true):CallR X (.builtin "min") (fun xs H Q=>∃i j,xs=[.int i,.int j]/\Q (.int (if j<i then j else i)) H):=by
 intro pins s σ H xs us Q I r h;obtain⟨i,j,rfl,q⟩:=h;obtain⟨u,w',rfl,⟨t,rfl⟩,⟨t',rfl⟩⟩:=vals2 r;refine min_two_ints (I.ok.hd hc) fun h' tk k=>⟨_,H,I.kept k,?_,q⟩
 by_cases hj:j<i
 ·rw[if_pos hj,if_pos hj];exact⟨_,rfl⟩
 ·rw[if_neg hj,if_neg hj];exact⟨_,rfl⟩
def LenV(K:Ai)(x:V)(H:Hp)(n:Nat):Prop :=
 match x with
 |.str y=>y.length<=sizeLine/\n=y.length
 |.byt y=>y.size<=sizeLine/\n=y.size
 |.ref p=>(∃xs,SqL K H p xs/\n=xs.length)\/∃xs,SqT K H p xs/\n=xs.length
 |_=>False
theorem z6x:CallR X (.builtin "len") (fun xs H Q=>∃x n,xs=[x]/\LenV X.K x H n/\Q (.int n) H):=by
 intro pins s σ H xs us Q I r h;obtain⟨x,n,rfl,e,q⟩:=h;obtain⟨u,rfl,rx⟩:=vals1 r;have hs:=Dl;cases x with
 |str y =>
  obtain⟨t,rfl⟩:=rx;obtain⟨hy,e'⟩:y.length<=sizeLine/\n=y.length:=e;subst e';exact len_str (by lia) ⟨.int _,H,I.tok _,⟨_,rfl⟩,q⟩
 |byt y =>
  obtain⟨t,rfl⟩:=rx;obtain⟨hy,e'⟩:y.size<=sizeLine/\n=y.size:=e;subst e';exact W.len_bytes (by lia) ⟨.int _,H,I.tok _,⟨_,rfl⟩,q⟩
 |ref p =>
  cases rx;have e':=e;rcases e' with⟨xs,hx,e'⟩|⟨xs,hx,e'⟩
  ·subst e';obtain⟨its,r',pl,hz⟩:=I.list hx;have hlen:=r'.length;exact Calls.call_len_list pl.isList (by simp only[Ay];lia) ⟨.int xs.length,H,I.tok _,⟨_,by simp only[Ay];rw[hlen]⟩,q⟩
  ·subst e';obtain⟨its,r',pl,hz⟩:=I.tuple hx;have hlen:=r'.length;exact len_tuple pl (by simp only[Ay];lia) ⟨.int xs.length,H,I.tok _,⟨_,by simp only[Ay];rw[hlen]⟩,q⟩
 |_=>exact(show False from e).elim
end
open PySem PySem.Spec PyProof.Rows
structure ObjM (h:Heap) (x dx C:Addr) (mA:Str->Option Value):Prop where
 obj:h.get? x=some (Jo C dx)
 ns:h.Ns1 dx mA
 ne:dx≠x
theorem q7z{h:Heap}(n:h.Ns1 dx mA):∃od,h.get? dx=some od/\∀name,Tx name od=some (mA name):=by
 obtain⟨o,es,ep,ho,hd,hk,_,hm⟩:=n;refine⟨o,ho,fun name=>?_⟩;have e:=hm name;unfold nsFind findBy at e;rw[<- Mp] at e;unfold Tx;rw[hd];dsimp only;split
 ·grind
 ·rename_i q;rw[q] at e;have a:es.toList.any (·.refKey)=false:=by
   rw[List.any_eq_false];intro y hy;obtain⟨z,t,hkey⟩:=hk y (Qp.mp hy);simp[Iq.refKey,hkey]
  have a':¬es.toList.any (·.refKey)=true:=by grind
  rw[if_neg a'];exact congrArg some e
theorem ObjM.look(I:ObjM h x dx C mA):∃od,Jr h x (Jo C dx) C (some od)/\∀name,Tx name od=some (mA name) :=
 let ⟨od,ho,hl⟩:=q7z I.ns
 ⟨od,⟨I.obj,rfl,rfl,ho⟩,hl⟩
section
variable{prog:Program}{w:World}{A:Around}{E:Value->Ae->Prop}{s:Ae}{K:Ai}{x dx C f:Addr}{mA:Str->Option Value}{name:Str}{v:Value}
theorem z9o(X:K.In s.heap)(I:ObjM s.heap x dx C mA)(hg:Nl K C name=true)(hh:Ks K C=true)(ha:Bj K (.ref C) name=some none)(hv:mA name=some v)(hv':Uo v=true)(h:Q v { s with toks:=s.toks+1 }):
  wpAny (model prog w) A (Vc (.ref x) name expr) Q E s:=by
 obtain⟨od,J,hl⟩:=I.look;exact W.get_value X J (Rf hg).1 (W.findObj_own hh ha rfl (by rw[hl,hv])) hv' h
theorem z6y(X:K.In s.heap)(I:ObjM s.heap x dx C mA)(hg:Nl K C name=true)(hf:Bj K (.ref C) name=some (some (.ref f)))(ht:Uq K (.ref f)=true)(hv:mA name=none)(h:Q (.ref f,[.ref x]) s):
  wpAny (model prog w) A (Le (.ref x) name pl) Q E s:=by
 obtain⟨od,J,hl⟩:=I.look;exact W.method_fn X J (Rf hg).1 (Rf hg).2 hf (beq_iff_eq.mp ht) (by show(Tx name od).map (·.isSome)=some false;rw[hl,hv];rfl) h
theorem z9p(X:K.In s.heap)(I:ObjM s.heap x dx C mA)(hs:Bj K (.ref C) "__setattr__" = some (some (.builtin "object.__setattr__")))(hp:Tp K C=true)(ht:Vf K C name=some none)(hh:Ks K C=true)(hw:Lo mA ns)(hsz:ns.length<=sizeLine)(h:∀h',ObjM h' x dx C (fun y=>if y=name then some v else mA y)->Ep dx s.heap h'->Q () { s with heap:=h',toks:=s.toks+2 }):
  wpAny (model prog w) A (Vd (.ref x) name v) Q E s:=by
 obtain⟨od,J,hl⟩:=I.look;refine Tq X J hs (W.osa_open X J hp ht fun b=>?_);obtain⟨cd,hc,hd'⟩:=W.any_some hh;have hx:=I.obj;refine Ab (Ad (Ab (Ab (Ml hx (Ab (Rt (Mz X hc) ?_))))));rw[hd'];refine Ad (Ab (Ad (Ab ?_)));refine Ru I.ns fun h' hn2 hs2=>?_
 obtain⟨oD,esD,epD,hoD,hdD,hcD⟩:=hn2.count (Ng name v hw);refine Ab (Nx hoD (by rw[hdD];exact Ny (Bi hcD (by rw[Bk];lia))) ?_);exact Ad (h _ ⟨(hs2.2 _ (Bo I.ne)).trans I.obj,hn2,I.ne⟩ hs2)
theorem z6z(X:K.In s.heap)(hm:Vg K C=true)(hi:Bj K (.ref C) "__init__" = some (some (.ref f)))(hf:W.typeIn K (.ref f)=some (.type "function"))(h:Fm (model prog w) (A.under (.builtin "type.__call__" ⟨.ref C::vs,kw⟩)) (.call (.ref f) ⟨.ref (s.heap.objs.size+1)::vs,kw⟩) (W.InitBack (s.heap.objs.size+1) R)
   { s with heap:=(s.heap.push Cp).push (Jo C s.heap.objs.size) }):
  Fm (model prog w) A (.call (.ref C) ⟨vs,kw⟩) R s:=by
 exact W.make_core (W.makes_of X hm) (Ih X hi) (fun self=>W.bind_fn X self hf) (.inl rfl) h
end
def putF(f:Str)(v:V):List (Str×V)->List (Str×V)
 |[]=>[(f,v)]
 |(g,x)::r=>if g=f then(g,v)::r else(g,x)::putF f v r
theorem q2g(f g:Str)(v:V):∀fs:List (Str×V),(putF f v fs).lookup g=if g=f then some v else fs.lookup g
 |[]=>by
  show List.lookup g [(f,v)]=_;by_cases h:g=f
  ·have hb:(g==f)=true:=beq_iff_eq.mpr h;simp only[List.lookup,hb,if_pos h]
  ·simp_all
 |(k,x)::r=>by
  have ih:=q2g f g v r;rw[show putF f v ((k,x)::r)=(if k=f then(k,v)::r else(k,x)::putF f v r) from rfl];by_cases hk:k=f
  ·rw[if_pos hk];by_cases h:g=k
   ·simp_all
   ·have hb:(g==k)=false:=beq_eq_false_iff_ne.mpr h;simp only[List.lookup,hb,if_neg (fun e:g=f=>h (e.trans hk.symm))]
  ·rw[if_neg hk];by_cases h:g=k
   ·simp_all
   ·have hb:(g==k)=false:=beq_eq_false_iff_ne.mpr h;simp only[List.lookup,hb];exact ih
theorem q2x(f:Str)(v:V):∀fs:List (Str×V),f∈(putF f v fs).map (·.1)/\∀g,g∈fs.map (·.1)->g∈(putF f v fs).map (·.1)
 |[]=>⟨by simp[putF],fun g h=>by simp at h⟩
 |(k,x)::r=>by
  obtain⟨i1,i2⟩:=q2x f v r;rw[show putF f v ((k,x)::r)=(if k=f then(k,v)::r else(k,x)::putF f v r) from rfl];by_cases hk:k=f
  ·grind
  ·grind
theorem q5b(f:Str)(v:V):∀fs:List (Str×V),(putF f v fs).length<=fs.length+1
 |[]=>by simp[putF]
 |(k,x)::r=>by
  have ih:=q5b f v r;rw[show putF f v ((k,x)::r)=(if k=f then(k,v)::r else(k,x)::putF f v r) from rfl];by_cases hk:k=f
  ·grind
  ·grind
theorem RelO.some_of(r:RelO (some v) o):∃u,o=some u/\RelV v u:=by
 cases o with
 |none=>exact(show False from r).elim
 |some u=>exact⟨u,rfl,r⟩
theorem RelO.none_of(r:RelO none o):o=none:=by
 cases o with
 |none=>rfl
 |some u=>exact(show False from r).elim
theorem q8a(r:RelV v u):Uo u=true:=by
 cases v with
 |non=>cases(show u=Value.none from r);rfl
 |bl b=>cases(show u=Value.bool b from r);rfl
 |int i=>obtain⟨t,e⟩:=(show ∃t,u=Value.int i t from r);cases e;rfl
 |str x=>obtain⟨t,e⟩:=(show ∃t,u=Value.str x t from r);cases e;rfl
 |byt b=>obtain⟨t,e⟩:=(show ∃t,u=Value.bytes b t from r);cases e;rfl
 |flt b=>obtain⟨t,e⟩:=(show ∃t,u=Value.float b t from r);cases e;rfl
 |ref a=>cases(show u=Value.ref a from r);rfl
 |ty n=>cases(show u=Value.type n from r);rfl
section
variable{P:Program}{w:World}{H H':Hp}{h h':Heap}{a C dx:Addr}{fs fs':List (Str×V)}
theorem q6u(hok:HOk P w H h)(e:H a=some (.ins C dx fs)):∃mA,ObjM h a dx C mA/\(∀f,RelO (fs.lookup f) (mA f))/\Lo mA (fs.map (·.1))/\fs.length<=1000/\H dx=some (.own a):=by
 obtain⟨d,z,ne,ob,mA,n,r,q⟩:=(show ObjOk P w H h a (.ins C dx fs) from hok a _ e)
 exact⟨mA,⟨ob,n,ne⟩,r,q,z,d⟩
end
structure Cls (K:Ai) (C:Addr):Prop where
 pg:Nl K C Ou=true
 hd:Ks K C=true
 po:Tp K C=true
 sa:Bj K (.ref C) "__setattr__" = some (some (.builtin "object.__setattr__"))
theorem Cls.get{K:Ai}(c:Cls K C)(f:Str):Nl K C f=true:=c.pg
def NoAttr(K:Ai)(C:Addr)(f:Str):Prop:=Bj K (.ref C) f=some none
theorem NoAttr.taker{K:Ai}(n:NoAttr K C f):Vf K C f=some none:=by
 unfold Vf;rw[show Bj K (.ref C) f=some none from n];rfl
structure Meth (K:Ai) (C:Addr) (m:Str) (f:Addr):Prop where
 at_:Bj K (.ref C) m=some (some (.ref f))
 fn:Uq K (.ref f)=true
 kp:Ej K (.ref f)=true
section
variable{X:Cx}{pins:List (Addr×Obj)}{σ:St}{H:Hp}{s:Ae}{a C dx:Addr}{fs:List (Str×V)}{f:Str}{v:V}{A:Around}{E:Value->Ae->Prop}
theorem z2h(I:Inv X pins σ H s)(e:H a=some (.ins C dx fs))(c:Cls X.K C)(n:NoAttr X.K C f)(l:fs.lookup f=some v)(h:∀u s',Inv X pins σ H s'->RelV v u->Q u s'):wpAny (model X.prog X.w) A (Vc (.ref a) f b) Q E s:=by
 obtain⟨mA,O,r,_,_,_⟩:=q6u I.hok e;obtain⟨u,hu,ru⟩:=RelO.some_of (by rw[<- l];exact r f);exact z9o I.kIn O (c.get f) c.hd n hu (q8a ru) (h u _ (I.tok _) ru)
theorem q6c(I:Inv X pins σ H s)(e:H a=some (.ins C dx fs))(c:Cls X.K C)(k:Meth X.K C m g)(l:fs.lookup m=none)(h:Q (.ref g,[.ref a]) s):wpAny (model X.prog X.w) A (Le (.ref a) m pl) Q E s:=by
 obtain⟨mA,O,r,_,_,_⟩:=q6u I.hok e;have hn:=RelO.none_of (by rw[<- l];exact r m);exact z6y I.kIn O (c.get m) k.at_ k.fn hn h
theorem z2i(I:Inv X pins σ H s)(e:H a=some (.ins C dx fs))(c:Cls X.K C)(n:NoAttr X.K C f)(hl:fs.length<1000)(ry:RelV y u)(h:∀s',Inv X pins σ (upd H a (.ins C dx (putF f y fs))) s'->Q () s'):wpAny (model X.prog X.w) A (Vd (.ref a) f u) Q E s:=by
 obtain⟨mA,O,r,wi,_,ho⟩:=q6u I.hok e;have hz:(fs.map (·.1)).length<=sizeLine:=by rw[Ac,Dl];lia
 refine z9p I.kIn O c.sa c.po n.taker c.hd wi hz fun h' O' sb=>h _ ?_;have hd:∃o,h'.get? dx=some o:=let ⟨o,_,_,e',_⟩:=O'.ns;⟨o,e'⟩;refine I.write (by rw[e];exact True.intro) (.inr ho) (fun b q hb z=>(sb.2 b hb).trans z) hd ?_;refine⟨by rw[q0c O.ne];exact ho,?_,O.ne,O'.obj,_,O'.ns,fun g=>?_,fun g hg=>?_⟩
 ·have:=q5b f y fs;lia
 ·show RelO ((putF f y fs).lookup g) (if g=f then some u else mA g);rw[q2g];by_cases q:g=f
  ·rw[if_pos q,if_pos q];exact ry
  ·grind
 ·by_cases q:g=f
  ·rw[q];exact(q2x f y fs).1
  ·refine(q2x f y fs).2 g (wi g fun z=>hg ?_);show(if g=f then some u else mA g)=none;rw[if_neg q];exact z
theorem Inv.made(I:Inv X pins σ H s):Inv X pins σ (upd (upd H s.heap.objs.size (.own (s.heap.objs.size+1))) (s.heap.objs.size+1) (.ins C s.heap.objs.size []))
  { s with heap:=(s.heap.push Cp).push (Jo C s.heap.objs.size) }:=by
 have e1:(s.heap.push Cp).get? s.heap.objs.size=some Cp:=Av s.heap rfl;have e2:((s.heap.push Cp).push (Jo C s.heap.objs.size)).get? (s.heap.objs.size+1)=some (Jo C s.heap.objs.size):=by
  have:=Av (s.heap.push Cp) (o:=Jo C s.heap.objs.size) rfl
  rwa [Hd] at this
 have e3:(s.heap.push Cp).Ns s.heap.objs.size (fun _=>none):=⟨Cp,#[],_,e1,rfl,(fun e he=>absurd he (by simp)),fun _=>rfl⟩
 have I1:=I.laid (o:=.own (s.heap.objs.size+1)) (h':=s.heap.push Cp) (t':=s.toks) (fun b u q=>Af _ q) (Am _) ⟨_,e1⟩;refine I1.laid (t':=s.toks) (fun b u q=>Af _ q) (Js (Hd _ _)) ?_;have ne:s.heap.objs.size≠s.heap.objs.size+1:=Bd (Hf _);refine⟨by rw[q0c ne,q0b],By _,ne,e2,fun _=>none,(Sv e3).at fun o q=>Af _ q,fun _=>True.intro,fun y hy=>absurd rfl hy⟩
theorem z3v(hb:Ft e f env (eval e env)=eval e env)(h:wpAny (model prog w) A (eval e env) (fun o s₁=>wpAny (model prog w) A (Vc o f true) Q E s₁) E s):wpAny (model prog w) A (eval (.Attribute e f pos) env) Q E s :=
 Attribute_any_ h (by rw[arm_eval_Attribute,hb])
end
def tFld(K:Ai)(ta:TE)(f:Str):TE:=fun σ H Q=>ta σ H fun x H1=>∃a C dx fs v,x=.ref a/\H1 a=some (.ins C dx fs)/\Cls K C/\NoAttr K C f/\fs.lookup f=some v/\Q v H1
def sFld(K:Ai)(ta tv:TE)(f:Str):TS:=fun D σ H=>tv σ H fun y H1=>ta σ H1 fun x H2=>∃a C dx fs,x=.ref a/\H2 a=some (.ins C dx fs)/\Cls K C/\NoAttr K C f/\fs.length<1000 /\
 D.nx σ (upd H2 a (.ins C dx (putF f y fs)))
section
variable{X:Cx}{o e value:Expr}{f:Str}{pos pos' tpos:Pos}{ta tv:TE}
theorem pe_fld(he:PE X e ta)(hb:Ft e f X.env (eval e X.env)=eval e X.env):PE X (.Attribute e f pos) (tFld X.K ta f):=by
 intro pins s σ H Q I h;refine z3v hb (thn (he pins s σ H _ I h) fun u s1 ⟨x,H1,I1,rx,a,C,dx,fs,v,ex,ea,c,n,l,q⟩=>?_);subst ex;obtain rfl:u=Value.ref a:=rx;exact z2h I1 ea c n l fun u' s2 I2 ru=>⟨v,H1,I2,ru,q⟩
theorem ps_fld(ha:PE X o ta)(hv:PE X value tv)(hs:Jp value (some (.Attribute o f pos')) pos.line X.env=pure false):PS X (.Assign [.Attribute o f pos'] value pos) (sFld X.K ta tv f):=by
 intro pins s σ H D I h;refine Ll (thn (hv pins s σ H _ I h) fun u s1 ⟨y,H1,I1,ry,q⟩=>thn (ha pins s1 σ H1 _ I1 q) fun ov s2 ⟨x,H2,I2,rx,a,C,dx,fs,ex,ea,c,n,l,q2⟩=>?_) hs;subst ex;obtain rfl:ov=Value.ref a:=rx;exact z2i I2 ea c n l ry fun s3 I3=>⟨σ,_,I3,q2⟩
end
section
variable{X:Cx}{pins:List (Addr×Obj)}{σ:St}{H:Hp}{s:Ae}{A:Around}{E:Value->Ae->Prop}{Q:Value->Ae->Prop}{c:Value}{b:Bool}
inductive TyOf (K:Ai) (H:Hp):V->Value->Prop where
 |non:TyOf K H .non (.type "NoneType")
 |bl (x:Bool):TyOf K H (.bl x) (.type "bool")
 |int (i:Int):TyOf K H (.int i) (.type "int")
 |str (x:Str):TyOf K H (.str x) (.type "str")
 |flt (x:UInt64):TyOf K H (.flt x) (.type "float")
 |lst {a:Addr} {xs:List V} (e:H a=some (.lst xs)):TyOf K H (.ref a) (.type "list")
 |frz {a:Addr} {o:Obj} {xs:List V} (e:H a=some (.frz o (.lst xs))):TyOf K H (.ref a) (.type "list")
 |tup {a:Addr} {xs:List V} (e:H a=some (.tup xs)):TyOf K H (.ref a) (.type "tuple")
 |dK {a:Addr} {kvs:List (Key×V)} (e:H a=some (.dK kvs)):TyOf K H (.ref a) (.type "dict")
 |dT {a:Addr} {kvs:List (List Key×V)} (e:H a=some (.dT kvs)):TyOf K H (.ref a) (.type "dict")
 |ins {a C dx:Addr} {fs:List (Str×V)} (e:H a=some (.ins C dx fs)) (cl:Cls K C) (ha:Bj K (.ref C) "__class__" = some (some (.builtin "object.__class__")))
   (hn:Kt K (.builtin "object.__class__") "__get__" = some (some (.builtin "getset_descriptor.__get__"))) (htk:Rx K (.builtin "object.__class__")=some true)
   (hm:Py K C (.type "object")=some true):TyOf K H (.ref a) (.ref C)
theorem z3w(I:Inv X pins σ H s)(rx:RelV x u)(ty:TyOf X.K H x t)(e:Gs X.K t c=some b)(h:∀tk,Q (.bool b) { s with toks:=tk }):
  wpAny (model X.prog X.w) A (call (.builtin "isinstance") [u,c]) Q E s:=by
 cases ty with
 |non=>cases(show u=Value.none from rx);exact Fu W.kitx_none I.kIn True.intro e (fun z=>nomatch z) h
 |bl y=>cases(show u=Value.bool y from rx);exact Fu W.kitx_bool I.kIn True.intro e (fun z=>nomatch z) h
 |int i=>obtain⟨t,q⟩:=(show ∃t,u=Value.int i t from rx);cases q;exact Fu W.kitx_int I.kIn True.intro e (fun z=>nomatch z) h
 |str y=>obtain⟨t,q⟩:=(show ∃t,u=Value.str y t from rx);cases q;exact Fu W.kitx_str I.kIn True.intro e (fun z=>nomatch z) h
 |flt y=>obtain⟨t,q⟩:=(show ∃t,u=Value.float y t from rx);cases q;exact Fu W.kitx_float I.kIn True.intro e (fun z=>nomatch z) h
 | @lst a xs ea =>
  cases(show u=Value.ref a from rx);obtain⟨_,_,n,_,h1⟩:=(show ObjOk X.prog X.w H s.heap a (.lst xs) from I.hok a _ ea)
  exact Fu W.kitx_list I.kIn ⟨_,h1,rfl⟩ e (fun z=>nomatch z) h
 | @frz a ob xs ea =>
  cases(show u=Value.ref a from rx);obtain⟨_,_,_,n,_,h1⟩:=(show ObjOk X.prog X.w H s.heap a (.frz ob (.lst xs)) from I.hok a _ ea)
  exact Fu W.kitx_list I.kIn ⟨_,h1,rfl⟩ e (fun z=>nomatch z) h
 | @tup a xs ea =>
  cases(show u=Value.ref a from rx);obtain⟨_,_,_,p⟩:=(show ObjOk X.prog X.w H s.heap a (.tup xs) from I.hok a _ ea)
  obtain⟨o,h1,h2,_⟩:=p;exact Fu W.kitx_tuple I.kIn ⟨o,h1,h2⟩ e (fun z=>nomatch z) h
 | @dK a kvs ea =>
  cases(show u=Value.ref a from rx);obtain⟨_,_,vs,_,p⟩:=(show ObjOk X.prog X.w H s.heap a (.dK kvs) from I.hok a _ ea)
  obtain⟨o,es,ep,h1,h2,_⟩:=p;exact Fu W.kitx_dict I.kIn ⟨o,h1,h2.1⟩ e (fun z=>nomatch z) h
 | @dT a kvs ea =>
  cases(show u=Value.ref a from rx);obtain⟨_,_,xs,_,o,es,ep,h1,h2,_⟩:=(show ObjOk X.prog X.w H s.heap a (.dT kvs) from I.hok a _ ea)
  exact Fu W.kitx_dict I.kIn ⟨o,h1,h2.1⟩ e (fun z=>nomatch z) h
 | @ins a C dx fs ea cl ha hn htk hm =>
  cases(show u=Value.ref a from rx);obtain⟨mA,O,_⟩:=q6u I.hok ea;obtain⟨od,J,_⟩:=O.look;exact Fu (W.kitx_own (cl.get _) cl.hd ha hn htk hm) I.kIn J e (fun z=>nomatch z) h
end
open PySem PySem.Spec PyProof.Rows
structure Room (k:Nat) (A:Around):Prop where
 hd:A.handled=none
 dp:A.depth+3*k+5<recursionLimit
 un:A.units+16*k+200<cLine
 gd:A.guards=some []
theorem Room.mono(r:Room k A)(h:j<=k):Room j A:=⟨r.hd,by have:=r.dp;lia,by have:=r.un;lia,r.gd⟩
theorem Room.deeper(r:Room (k+1) A)(env:Env):Room k (A.deeper env) :=
 ⟨r.hd,by have:=r.dp;show A.depth+1+3*k+5<_;lia,by have:=r.un;show A.units+3+16*k+200<_;lia,r.gd⟩
theorem Room.in1(r:Room (k+1) A):Room k A.in1 :=
 ⟨r.hd,by have:=r.dp;show A.depth+3*k+5<_;lia,by have:=r.un;show A.units+1+16*k+200<_;lia,r.gd⟩
theorem z2j{A:Around}:(A.under (.builtin "type.__call__" ⟨.ref C::us,kw⟩)).depth=A.depth+1:=by
 first|rfl|simp[Nz,Code.weight,Code.isCreation,Code.isGuard,Code.isCaller,Code.frames,Ry,guardIds]
theorem z2k{A:Around}:(A.under (.builtin "type.__call__" ⟨.ref C::us,kw⟩)).units=A.units+1:=by
 first|rfl|simp[Nz,Code.cUnits,Code.frames,Ry]
theorem make_guards{A:Around}:(A.under (.builtin "type.__call__" ⟨.ref C::us,kw⟩)).guards=A.guards:=by
 have:(Code.builtin "type.__call__" ⟨.ref C::us,kw⟩).guards=[]:=by simp[Code.guards,Code.isGuard,guardIds]
 unfold Nz;rw[this];cases e:A.guards<;>simp[pushGuards,e]
theorem Room.make(r:Room (k+1) A)(C:Addr)(us:List Value)(kw:List (Str×Value)):Room k (A.under (.builtin "type.__call__" ⟨.ref C::us,kw⟩)) :=
 ⟨r.hd,by have:=r.dp;rw[z2j];lia,by have:=r.un;rw[z2k];lia,make_guards.trans r.gd⟩
theorem Room.depth(r:Room k A):A.depth<recursionLimit:=by have:=r.dp;lia
theorem Room.units(r:Room k A):A.units+64<cLine:=by have:=r.un;lia
def tNil:TA:=fun _ H Q=>Q [] H
def tCons(ta:TE)(tr:TA):TA:=fun σ H Q=>ta σ H fun x H1=>tr σ H1 fun xs H2=>Q (x::xs) H2
section
variable{X:Cx}{e:Expr}{es:List Expr}{te:TE}{t:TA}{pos:Pos}
theorem q0d:PA X [] tNil:=fun _ _ _ _ H Q I h=>Sw ⟨[],H,I,.nil,h⟩
theorem q0a(ha:PE X e te)(hr:PA X es t)(hs:Ba (e::es) X.env=(false,eval e X.env)::Ba es X.env:=by rfl):PA X (e::es) (tCons te t):=by
 intro pos pins s σ H Q I h;rw[hs];refine Mq (thn (ha pins s σ H _ I h) fun u s1 ⟨x,H1,I1,r1,q1⟩=>?_);exact thn (hr pos pins s1 σ H1 _ I1 q1) fun us s2 ⟨xs,H2,I2,r2,q2⟩=>⟨x::xs,H2,I2,.cons r1 r2,q2⟩
def tTup(t:TA):TE:=fun σ H Q=>t σ H fun xs H1=>xs.length<=sizeLine/\∀p,H1 p=none->Q (.ref p) (upd H1 p (.tup xs))
def tLst(t:TA):TE:=fun σ H Q=>t σ H fun xs H1=>xs.length<=sizeLine/\∀p,H1 p=none->Q (.ref p) (upd H1 p (.lst xs))
theorem q0o{x1}(h:PA X es t):PE X (.Tuple es x1 pos) (tTup t):=by
 intro pins s σ H Q I hq;refine wpAny_Tuple_spliced (thn (h pos pins s σ H _ I hq) fun us s1 ⟨xs,H1,I1,r,z,q⟩=>⟨by rw[<- r.length];exact z,?_⟩);have hf:=I1.hok.fresh (Am _);refine⟨.ref s1.heap.objs.size,upd H1 s1.heap.objs.size (.tup xs),I1.laid (t':=s1.toks) (fun b u e=>Af _ e) (Am _) ?_,rfl,q _ hf⟩;exact⟨z,us,r,⟨_,Av _ rfl,rfl,_,rfl⟩⟩
theorem q1n(h:PA X es t):PE X (.List es pos) (tLst t):=by
 intro pins s σ H Q I hq;refine wpAny_List_spliced (thn (h pos pins s σ H _ I hq) fun us s1 ⟨xs,H1,I1,r,z,q⟩=>⟨by rw[<- r.length];exact z,?_⟩);have hf:=I1.hok.fresh (Am _);refine⟨.ref s1.heap.objs.size,upd H1 s1.heap.objs.size (.lst xs),I1.laid (t':=s1.toks) (fun b u e=>Af _ e) (Am _) ?_,rfl,q _ hf⟩;exact⟨z,us,0,r,Av _ rfl⟩
end
abbrev Sp:=List V->Hp->VK->XK->Prop
abbrev CXT:=List Env->Hp->Ae->XK->Value->Ae->Prop
structure Env0 (P:Program) (w:World) (K:Ai) (mg:Str->Option Value) (base:Heap) (A:Around) (outer:List Env) (s:Ae) (H:Hp):Prop where
 frames:A.frames=some outer
 mod:Mod K mg base
 bs:∀b o,base.get? b=some o->s.heap.get? b=some o/\H b=none
 bsz:base.objs.size<=s.heap.objs.size
 funs:s.heap.FunFrames base outer
 frf:∀b∈frs outer,H b=none
 hok:HOk P w H s.heap
 bare:Ki s.gens
def CE(outer:List Env)(P:Program)(w:World)(H:Hp)(s:Ae)(Q:VK)(u:Value)(s':Ae):Prop :=
 ∃v H',s'.os=s.os/\Ki s'.gens/\Un (frs outer) [] H H' s.heap s'.heap/\HOk P w H' s'.heap/\RelV v u/\Q v H'
def CR(CX:CXT)(outer:List Env)(P:Program)(w:World)(H:Hp)(s:Ae)(Q:VK)(E:XK)(r:Result)(s':Ae):Prop :=
 match r with
 |.ok (.ret u)=>CE outer P w H s Q u s'
 |.ok _=>False
 |.error e=>CX outer H s E e s'
structure FnOk (P:Program) (w:World) (K:Ai) (mg:Str->Option Value) (base:Heap) (CX:CXT) (k:Nat) (f:Addr) (fd:Jt) (ps:List Str) (sp:Sp):Prop where
 len:∀vs H Q E,sp vs H Q E->vs.length=ps.length
 run:∀(A:Around) (outer:List Env) (s:Ae) (H:Hp) (args:Args) (us:List Value) (vs:List V) (Q:VK) (E:XK),Room k A->Env0 P w K mg base A outer s H->Pz s fd args (ps.zip us)->Vals vs us->sp vs H Q E ->
  Fm (model P w) A (.call (.ref f) args) (CR CX outer P w H s Q E) s
theorem FnOk.mono{K:Ai}(F:FnOk P w K mg base CX j f fd ps sp)(h:j<=k):
  FnOk P w K mg base CX k f fd ps sp:=⟨F.len,fun A outer s H args us vs Q E hr=>F.run A outer s H args us vs Q E (hr.mono h)⟩
theorem FnOk.imp{K:Ai}(F:FnOk P w K mg base CX k f fd ps sp)(h:∀vs H Q E,sp' vs H Q E->sp vs H Q E):FnOk P w K mg base CX k f fd ps sp' :=
 ⟨fun vs H Q E q=>F.len vs H Q E (h _ _ _ _ q),fun A outer s H args us vs Q E hr he hb hv hs=>F.run A outer s H args us vs Q E hr he hb hv (h _ _ _ _ hs)⟩
theorem Env0.make{K:Ai}(e:Env0 P w K mg base A outer s H)(C:Addr)(us:List Value)(kw:List (Str×Value)):
  Env0 P w K mg base (A.under (.builtin "type.__call__" ⟨.ref C::us,kw⟩)) outer s H:=⟨by first|exact e.frames|(simpa[Nz,Code.envs,Ry,pushEnvs] using e.frames),e.mod,e.bs,e.bsz,e.funs,e.frf,e.hok,e.bare⟩
theorem Env0.in1{K:Ai}(e:Env0 P w K mg base A outer s H):
  Env0 P w K mg base A.in1 outer s H:=⟨e.frames,e.mod,e.bs,e.bsz,e.funs,e.frf,e.hok,e.bare⟩
section
variable{X:Cx}{pins:List (Addr×Obj)}{σ:St}{H:Hp}{s s':Ae}
theorem Inv.env0(I:Inv X pins σ H s):Env0 X.prog X.w X.K X.mg X.base X.A X.stack s H :=
 ⟨I.ok.frames,I.ok.mod,I.bs,Bi I.ok.bsz I.sz,I.stack,I.stkFree,I.hok,I.bare⟩
theorem Inv.after(I:Inv X pins σ H s)(h:CE X.stack X.prog X.w H s Q u s'):EP X pins σ Q u s':=by
 obtain⟨v,H',os,bare,un,hok,r,q⟩:=h;obtain⟨hh,g,d,t,os'⟩:=s';obtain rfl:os'=s.os:=os;exact⟨v,H',I.call (h':=hh) (g':=g) (d':=d) (t':=t) un hok bare (fun b z=>absurd z (by simp)),r,q⟩
end
def tCall(sp:Sp)(dvs:List V)(E:XK)(t:TA):TE:=fun σ H Q=>t σ H fun vs H1=>sp (vs++dvs) H1 Q E
def tMeth(C:Addr)(m:Str)(sp:Sp)(dvs:List V)(E:XK)(ta:TE)(t:TA):TE:=fun σ H Q=>ta σ H fun x H1=>∃a dx fs,x=.ref a/\H1 a=some (.ins C dx fs)/\fs.lookup m=none /\
 t σ H1 fun vs H2=>sp (x::(vs++dvs)) H2 Q E
def tMake(C:Addr)(sp:Sp)(dvs:List V)(E:XK)(t:TA):TE:=fun σ H Q=>t σ H fun vs H1=>∀x dx,H1 x=none->H1 dx=none->dx≠x ->
 sp (.ref x::(vs++dvs)) (upd (upd H1 dx (.own x)) x (.ins C dx [])) (fun v H2=>v=.non/\Q (.ref x) H2) E
def Binds(K:Ai)(fd:Jt)(ps:List Str)(ds:List Value):Prop :=
 ∀(s:Ae) (us:List Value),K.In s.heap->(us++ds).length=ps.length->Pz s fd ⟨us,[]⟩ (ps.zip (us++ds))
theorem Binds.all{K:Ai}(h:∀us:List Value,us.length=ps.length->bindArgs fd ⟨us,[]⟩=pure (ps.zip us)):Binds K fd ps []:=fun s us _ hl=>by
 rw[El] at hl ⊢;exact .of_eq (h us hl)
def Passes(CX:CXT)(X:Cx)(E:XK):Prop:=∀(pins:List (Addr×Obj)) (σ:St) (H:Hp) (s:Ae) (e:Value) (s':Ae),Inv X pins σ H s->CX X.stack H s E e s'->X.xe e s'
section
variable{X:Cx}{CX:CXT}{k:Nat}{f C:Addr}{fd:Jt}{ps:List Str}{sp:Sp}{dvs:List V}{ds:List Value}{E:XK}{x m:Str}{p pos apos:Pos}{e o:Expr}{es:List Expr}{ta:TE}{t:TA}
theorem z1a{σ:St}(F:FnOk X.prog X.w X.K X.mg X.base CX k f fd ps sp)(hr:Room k X.A)(hb:Binds X.K fd ps ds)(hd:Vals dvs ds)(hx:Passes CX X E)(I:Inv X pins σ H s)(r:Vals vs us)(h:sp (vs++dvs) H Q E):wpAny (model X.prog X.w) X.A (call (.ref f) us) (EP X pins σ Q) X.xe s:=by
 have r2:=r.append hd;have hl:(us++ds).length=ps.length:=by rw[<- r2.length];exact F.len _ _ _ _ h
 refine Gv (Ii (F.run X.A X.stack s H ⟨us,[]⟩ (us++ds) (vs++dvs) Q E hr I.env0 (hb s us I.kIn hl) r2 h) fun r s' hq=>?_);cases r with
 |error e=>exact hx pins σ H s e s' I hq
 |ok fl =>
  cases fl with
  |ret u=>exact I.after hq
  |next=>exact False.elim hq
  |brk=>exact False.elim hq
  |cont=>exact False.elim hq
theorem z9q(F:FnOk X.prog X.w X.K X.mg X.base CX k f fd ps sp)(hr:Room k X.A)(hg:Gl X x)(hm:X.mg x=some (.ref f))(hk:Ej X.K (.ref f)=true)(hb:Binds X.K fd ps ds)(hd:Vals dvs ds)(hx:Passes CX X E)(ha:PA X (e::es) t)(hdb:(x==("__debug__" : Str))=false:=by decide)(he:Ba (e::es) X.env=(false,eval e X.env)::Ba es X.env:=by rfl)(hpl:(Dq pos (Ba es X.env)).any (·.1)=false:=by rfl):
  PE X (.Call (.Name x p) (e::es) [] pos) (tCall sp dvs E t):=by
 intro pins s σ H Q I h;refine Ez (q2v I hg hm ?_ hdb);refine Lu I.ok.mod.kin hk (thn (ha pos pins s σ H _ I h) fun us s1 ⟨vs,H1,I1,r,q⟩=>⟨I1.kIn,?_⟩) he hpl;exact z1a F hr hb hd hx I1 r q
theorem z7a(F:FnOk X.prog X.w X.K X.mg X.base CX k f fd ps sp)(hr:Room k X.A)(hg:Gl X x)(hm:X.mg x=some (.ref f))(hk:Ej X.K (.ref f)=true)(hb:Binds X.K fd ps ds)(hd:Vals dvs ds)(hx:Passes CX X E)(hdb:(x==("__debug__" : Str))=false:=by decide):PE X (.Call (.Name x p) [] [] pos) (tCall sp dvs E tNil):=by
 intro pins s σ H Q I h;refine Ez (q2v I hg hm ?_ hdb);exact W.callWith_K0 I.kIn hk (z1a F hr hb hd hx I .nil h)
theorem z9r{pl:Sem Bool}(he:PE X o ta)(c:Cls X.K C)(hm:Meth X.K C m f)(F:FnOk X.prog X.w X.K X.mg X.base CX k f fd ps sp)(hr:Room k X.A)(hb:Binds X.K fd ps ds)(hd:Vals dvs ds)(hx:Passes CX X E)(ha:PA X (e::es) t)(hst:Ba (e::es) X.env=(false,eval e X.env)::Ba es X.env:=by rfl)(hpl:(Dq pos (Ba es X.env)).any (·.1)=false:=by rfl)(ht:eval (.Call (.Attribute o m apos) (e::es) [] pos) X.env=(do
   let ov<-eval o X.env
   Mj apos.atName
   let (f,first)<-Ig [ov] (Le ov m pl)
   Qq pos f first (Dq pos (Ba (e::es) X.env)) (Lb pos (Hw [] X.env))):=by rfl):
  PE X (.Call (.Attribute o m apos) (e::es) [] pos) (tMeth C m sp dvs E ta t):=by
 intro pins s σ H Q I h;refine Ov (thn (he pins s σ H _ I h) fun u s1 ⟨x,H1,I1,rx,a,dx,fs,ex,ea,l,q⟩=>?_) ht;subst ex;obtain rfl:u=Value.ref a:=rx;refine q6c I1 ea c hm l ?_;refine Lu I.ok.mod.kin hm.kp (thn (ha pos pins s1 σ H1 _ I1 q) fun us s2 ⟨vs,H2,I2,r,q2⟩=>⟨I2.kIn,?_⟩) hst hpl;exact z1a (vs:=.ref a::vs) F hr hb hd hx I2 (.cons rfl r) q2
theorem z7b(he:PE X o ta)(c:Cls X.K C)(hm:Meth X.K C m f)(F:FnOk X.prog X.w X.K X.mg X.base CX k f fd ps sp)(hr:Room k X.A)(hb:Binds X.K fd ps ds)(hd:Vals dvs ds)(hx:Passes CX X E)(ht:eval (.Call (.Attribute o m apos) [] [] pos) X.env=(do
   let ov<-eval o X.env
   Mj apos.atName
   let (f,first)<-Ig [ov] (Le ov m pl)
   Qq pos f first (Dq pos (Ba [] X.env)) (Lb pos (Hw [] X.env))):=by rfl):
  PE X (.Call (.Attribute o m apos) [] [] pos) (tMeth C m sp dvs E ta tNil):=by
 intro pins s σ H Q I h;refine Ov (thn (he pins s σ H _ I h) fun u s1 ⟨x,H1,I1,rx,a,dx,fs,ex,ea,l,q⟩=>?_) ht;subst ex;obtain rfl:u=Value.ref a:=rx;refine q6c I1 ea c hm l ?_;exact W.callWith_K0 I1.kIn hm.kp (z1a (vs:=[.ref a]) F hr hb hd hx I1 (.cons rfl .nil) q)
structure Mk (K:Ai) (C f:Addr):Prop where
 makes:Vg K C=true
 init:Bj K (.ref C) "__init__" = some (some (.ref f))
 fn:Uq K (.ref f)=true
 kp:Ej K (.ref C)=true
theorem z7c{σ:St}(M:Mk X.K C f)(F:FnOk X.prog X.w X.K X.mg X.base CX k f fd ps sp)(hr:Room (k+1) X.A)(hb:Binds X.K fd ps ds)(hd:Vals dvs ds)(hx:Passes CX X E)(I:Inv X pins σ H s)(r:Vals vs us)(h:∀x dx,H x=none->H dx=none->dx≠x->sp (.ref x::(vs++dvs)) (upd (upd H dx (.own x)) x (.ins C dx [])) (fun v H2=>v=.non/\Q (.ref x) H2) E):
  wpAny (model X.prog X.w) X.A (call (.ref C) us) (EP X pins σ Q) X.xe s:=by
 have hq:=h (s.heap.objs.size+1) s.heap.objs.size (I.hok.fresh (Je _)) (I.hok.fresh (Am _)) (Bd (Hf _));have I2:=Inv.made (C:=C) I;have r2:Vals (V.ref (s.heap.objs.size+1)::(vs++dvs)) (Value.ref (s.heap.objs.size+1)::(us++ds)):=.cons rfl (r.append hd);have hl:(Value.ref (s.heap.objs.size+1)::us++ds).length=ps.length:=by
  have e:=r2.length;rw[F.len _ _ _ _ hq] at e;exact e.symm
 refine Gv (z6z I.kIn M.makes M.init (beq_iff_eq.mp M.fn) (Ii (F.run _ X.stack _ _ ⟨Value.ref (s.heap.objs.size+1)::us,[]⟩ (Value.ref (s.heap.objs.size+1)::(us++ds)) _ _ E (hr.make C us [])
  (I2.env0.make C us []) (hb _ (Value.ref (s.heap.objs.size+1)::us) I2.kIn hl) r2 hq) fun r s' hq'=>?_))
 cases r with
 |error e=>exact hx pins σ _ _ e s' I2 hq'
 |ok fl =>
  cases fl with
  |ret u =>
   obtain⟨v,H',I3,rv,ev,q3⟩:=I2.after hq';subst ev;exact⟨rv,⟨V.ref (s.heap.objs.size+1),H',I3,rfl,q3⟩⟩
  |next=>exact False.elim hq'
  |brk=>exact False.elim hq'
  |cont=>exact False.elim hq'
theorem z9s(M:Mk X.K C f)(F:FnOk X.prog X.w X.K X.mg X.base CX k f fd ps sp)(hr:Room (k+1) X.A)(hg:Gl X x)(hm:X.mg x=some (.ref C))(hb:Binds X.K fd ps ds)(hd:Vals dvs ds)(hx:Passes CX X E)(ha:PA X (e::es) t)(hdb:(x==("__debug__" : Str))=false:=by decide)(he:Ba (e::es) X.env=(false,eval e X.env)::Ba es X.env:=by rfl)(hpl:(Dq pos (Ba es X.env)).any (·.1)=false:=by rfl):
  PE X (.Call (.Name x p) (e::es) [] pos) (tMake C sp dvs E t):=by
 intro pins s σ H Q I h;refine Ez (q2v I hg hm ?_ hdb);refine Lu I.ok.mod.kin M.kp (thn (ha pos pins s σ H _ I h) fun us s1 ⟨vs,H1,I1,r,q⟩=>⟨I1.kIn,?_⟩) he hpl;exact z7c M F hr hb hd hx I1 r q
end
structure FnScope (N P:List Str) (sc:Scope):Prop where
 kind:sc.kind=.function
 co:sc.isCoroutine=false
 gen:sc.isGenerator=false
 nd:N.Nodup
 pre:N.take P.length=P
 par:∀x∈P,sc.names.lookup x=some .local\/sc.names.lookup x=some .cell
 nofree:∀y∈sc.names,y.2≠.free
theorem q8b{kindOf:Str->Option Bc}:∀{binds:List (Str×Value)} {m:Str->Option Value},(∀v,(x,v)∉binds)->bindL kindOf binds m x=m x
 |[],_,_=>rfl
 |(n,v)::r,m,h=>by
  unfold bindL;rw[q8b fun w hw=>h w (Ar _ hw)];split
  ·have:x≠n:=by rintro rfl;exact h v Au
   simp[this]
  ·rfl
theorem q8c{kindOf:Str->Option Bc}:∀{binds:List (Str×Value)} {m:Str->Option Value},(∀v,(x,v)∉binds)->bindC kindOf binds m x=m x
 |[],_,_=>rfl
 |(n,v)::r,m,h=>by
  unfold bindC;rw[q8c fun w hw=>h w (Ar _ hw)];split
  ·rfl
  ·have:x≠n:=by rintro rfl;exact h v Au
   simp[this]
theorem q8d{kindOf:Str->Option Bc}{x:Str}{v:Value}:∀{P:List Str} {vs:List Value} {i:Nat} {m:Str->Option Value},P.Nodup->P[i]?=some x->vs[i]?=some v->kindOf x=some .local ->
  bindL kindOf (P.zip vs) m x=some v
 |[],_,_,_,_,h,_,_=>by simp at h
 |_::_,[],_,_,_,_,h,_=>by simp at h
 |p::P,w::vs,0,m,nd,h1,h2,hk=>by
  simp at h1 h2;subst h1;subst h2;show bindL kindOf ((p,w)::P.zip vs) m p=_;unfold bindL;rw[q8b fun v hv=>(Ci.mp nd).1 (Ow hv).1,if_pos hk];simp
 |p::P,w::vs,i+1,m,nd,h1,h2,hk=>by
  show bindL kindOf ((p,w)::P.zip vs) m x=_;unfold bindL;exact q8d (i:=i) (Ci.mp nd).2 (by simpa using h1) (by simpa using h2) hk
theorem q8e{kindOf:Str->Option Bc}{x:Str}{v:Value}:∀{P:List Str} {vs:List Value} {i:Nat} {m:Str->Option Value},P.Nodup->P[i]?=some x->vs[i]?=some v->kindOf x≠some .local ->
  bindC kindOf (P.zip vs) m x=some v
 |[],_,_,_,_,h,_,_=>by simp at h
 |_::_,[],_,_,_,_,h,_=>by simp at h
 |p::P,w::vs,0,m,nd,h1,h2,hk=>by
  simp at h1 h2;subst h1;subst h2;show bindC kindOf ((p,w)::P.zip vs) m p=_;unfold bindC;rw[q8c fun v hv=>(Ci.mp nd).1 (Ow hv).1,if_neg hk];simp
 |p::P,w::vs,i+1,m,nd,h1,h2,hk=>by
  show bindC kindOf ((p,w)::P.zip vs) m x=_;unfold bindC;exact q8e (i:=i) (Ci.mp nd).2 (by simpa using h1) (by simpa using h2) hk
def start(N:List Str)(vs:List V):St:=vs.map some++List.replicate (N.length-vs.length) none
def cxOf(CX:CXT)(P:Program)(w:World)(K:Ai)(mg:Str->Option Value)(base:Heap)(N:List Str)(qual:Str)(scope:Scope)(f:Addr)(cd:Value)(A:Around)(outer:List Env)(s:Ae)(H:Hp)(E:XK):Cx where
 prog:=P
 w:=w
 K:=K
 mg:=mg
 base:=base
 A:=A.deeper (Ga qual scope s.heap.objs.size f cd)
 N:=N
 s₀:=s
 H₀:=H
 env:=Ga qual scope s.heap.objs.size f cd
 outer:=outer
 stack:=Ga qual scope s.heap.objs.size f cd::outer
 ex:=[]
 calm:=true
 fn:=fun _=>true
 pn:=[]
 xe:=fun e s'=>wpAny (model P w) (A.deeper (Ga qual scope s.heap.objs.size f cd)) (leaving (Ga qual scope s.heap.objs.size f cd) e) (fun _ s''=>CX outer H s E e s'') (fun e' s''=>CX outer H s E e' s'') s'
theorem z1b{sc:Scope}(h:sc.names.lookup x=some .cell):∃c,(cellsFrom n sc.names []).lookup x=some c:=by
 have q:=Tz sc.names n [] (.inl h);exact Oa.mp q
theorem z3x{K:Ai}(S:FnScope N ps scope)(hd:A.handled=none)(e0:Env0 P w K mg base A outer s H)(hl:vs.length=ps.length)(r:Vals vs us)(x:InCallC s s.heap.objs.size (bindL (Ga qual scope s.heap.objs.size f cd).kindOf (ps.zip us) fun _=>none) (cellsFrom (s.heap.objs.size+1) scope.names []) (bindC (Ga qual scope s.heap.objs.size f cd).kindOf (ps.zip us) fun _=>none) s1):
  Inv (cxOf CX P w K mg base N qual scope f cd A outer s H E) [] (start N vs) H s1:=by
 have hpl:ps.length<=N.length:=by have:=congrArg List.length S.pre;rw[Bp] at this;lia
 obtain⟨h1,tk,rfl,hk⟩:=x.done;have noA:∀b:Addr,b∉(cxOf CX P w K mg base N qual scope f cd A outer s H E).ex:=fun b z=>absurd (show b∈([]:List Addr) from z) (by simp)
 refine⟨⟨e0.mod,S.kind,rfl,rfl,Am _,fun y z c h1 h2=>?_,fun y hy=>?_,fun y c _ h=>?_,fun _=>hd,Around.frames_deeper e0.frames,.inr ⟨rfl,rfl⟩,fun b z=>absurd z (noA b),e0.bs,e0.bsz,fun b _ _=>noA b,fun b z=>absurd z (noA b),e0.funs,e0.frf⟩,
  rfl,e0.bare,Un.kept hk,⟨_,x.toInCall.ns,fun i y v h1 h2 h3=>?_⟩,fun y c h=>⟨_,x.cell y c h⟩,e0.hok.fresh (Am _),fun y c h=>?_,fun p hp=>absurd (show p∈([]:List (Addr×Obj)) from hp) (by simp),e0.hok.kept hk,?_⟩
 ·exact name_of_addr x.apart (En h1) (En h2)
 ·have hy:scope.names.lookup y=some .cell\/scope.names.lookup y=some .free:=hy;rcases hy with hy|hy
  ·exact z1b hy
  ·exact absurd rfl (S.nofree _ (En hy))
 ·exact Ie (x.above y c (En h))
 ·have hi:i<vs.length:=by
   unfold start at h2;by_cases hi:i<vs.length
   ·exact hi
   ·rw[Na (by simpa using hi)] at h2;rw[List.getElem?_replicate] at h2;split at h2<;>cases h2
  have ha:vs[i]?=some v:=by
   unfold start at h2;rw[Nm (by simpa using hi),Az] at h2;cases e:vs[i]? with
   |none=>simp_all
   |some a=>grind
  obtain⟨u,hu,rv⟩:=r.get ha;have hp:ps[i]?=some y:=by
   rw[<- S.pre,List.getElem?_take_of_lt (by lia)];exact h1
  have ndP:ps.Nodup:=by rw[<- S.pre];exact S.nd.sublist (Ia _ _)
  refine⟨u,rv,?_⟩;rcases S.par y (Aq hp) with k|k
  ·exact .inl ⟨k,q8d ndP hp hu k⟩
  ·obtain⟨c,e⟩:=z1b k;refine .inr ⟨.inl k,c,e,?_⟩;have q:=x.cell y c e;rw[q8e ndP hp hu (by show scope.names.lookup y≠_;rw[k];decide)] at q;exact q
 ·exact e0.hok.fresh (Ie (x.above y c (En h)))
 ·unfold start;show _=N.length;rw[Ap,Ac,List.length_replicate];lia
theorem z7d{K:Ai}{kV:Value}(lk:K.lookup f=some ⟨oc,od,.func (Hg name qual params body scope dV kV doc pm an cdv ct),osl⟩)(hcd:Ju K cdv qual=true)(S:FnScope N ps scope)(len:∀vs H Q E,sp vs H Q E->vs.length=ps.length)(hbody:∀(A:Around) (outer:List Env) (s:Ae) (H:Hp) (vs:List V) (Q:VK) (E:XK),Room k (A.deeper (Ga qual scope s.heap.objs.size f cdv))->sp vs H Q E ->
   ∃t,PSs (cxOf CX P w K mg base N qual scope f cdv A outer s H E) body t/\t { nx:=fun _ H'=>Q .non H',rt:=Q } (start N vs) H):
  FnOk P w K mg base CX (k+1) f (Hg name qual params body scope dV kV doc pm an cdv ct) ps sp:=by
 refine⟨len,fun A outer s H args us vs Q E hr e0 hb r hsp=>?_⟩;have hl:=len _ _ _ _ hsp;have KX:=e0.mod.kin.keeps fun b o e=>(e0.bs b o e).1;have lim:=e0.mod.nolimit.keeps fun b o e=>(e0.bs b o e).1;have hkind:∀y∈ps.zip us,scope.names.lookup y.1=some .local\/(scope.names.lookup y.1=some .cell/\((cellsFrom (s.heap.objs.size+1) scope.names []).lookup y.1).isSome=true):=fun⟨n,v⟩ hy=>by
  rcases S.par n (Ow hy).1 with q|q
  ·exact .inl q
  ·exact .inr ⟨q,Tz _ _ _ (.inl q)⟩
 refine codeAny_call_function hr.depth (KX _ _ lk) rfl S.co S.gen rfl (W.codeRec_of KX hcd) (hb _ _ _ _ ?_);refine wpAny_newFunctionEnv_cells S.kind hkind fun env he s1 x=>?_;subst he;refine⟨lim.keeps x.toInCall.keep,codeAny_func ?_⟩;obtain⟨t,ht,hq⟩:=hbody A outer s H vs Q E (hr.deeper _) hsp;have I:Inv (cxOf CX P w K mg base N qual scope f cdv A outer s H E) [] (start N vs) H s1:=z3x S hr.hd e0 hl r x;refine Br (ht [] s1 (start N vs) H _ I hq) (fun fl s' hs=>?_) fun e s' hs=>hs;have fin:∀{σ':St} {H':Hp} {v:V} {u:Value},Inv (cxOf CX P w K mg base N qual scope f cdv A outer s H E) [] σ' H' s'->RelV v u->Q v H'->CE outer P w H s Q u s' :=
  fun{σ' H' v u} J rv q=>⟨v,H',J.os,J.bare,J.base,J.hok,rv,q⟩
 cases fl with
 |ret u =>
  obtain⟨v,σ',H',J,rv,q⟩:=hs;exact fin J rv q
 |next =>
  obtain⟨σ',H',J,q⟩:=hs;exact fin (v:=V.non) J rfl q
 |brk =>
  obtain⟨_,_,_,q⟩:=hs;exact False.elim q
 |cont =>
  obtain⟨_,_,_,q⟩:=hs;exact False.elim q
open PySem PySem.Spec PyProof.Rows
section
variable{X:Cx}{x:Str}{p pos:Pos}{e:Expr}{es:List Expr}{t:TA}{id T:String}{r:List V->Hp->VK->Prop}
def tCB(r:List V->Hp->VK->Prop)(t:TA):TE:=fun σ H Q=>t σ H fun vs H1=>r vs H1 Q
theorem q0i(hc:CallR X (.builtin id) r)(hg:Gl X x)(hm:X.mg x=none)(hv:Ic x=some (.builtin id))(ha:PA X (e::es) t)(hn:x ≠ "__name__" := by decide)(hdb:(x==("__debug__" : Str))=false:=by decide)(he:Ba (e::es) X.env=(false,eval e X.env)::Ba es X.env:=by rfl)(hpl:(Dq pos (Ba es X.env)).any (·.1)=false:=by rfl):PE X (.Call (.Name x p) (e::es) [] pos) (tCB r t):=by
 intro pins s σ H Q I h;refine Ez (q7w I hg hm hv ?_ hn hdb);exact Lv (thn (ha pos pins s σ H _ I h) fun us s1 ⟨vs,H1,I1,r1,q1⟩=>hc pins s1 σ H1 vs us Q I1 r1 q1) he hpl
theorem q2d(hc:CallR X (.type T) r)(hg:Gl X x)(hm:X.mg x=none)(hv:Ic x=some (.type T))(ha:PA X (e::es) t)(hn:x ≠ "__name__" := by decide)(hdb:(x==("__debug__" : Str))=false:=by decide)(he:Ba (e::es) X.env=(false,eval e X.env)::Ba es X.env:=by rfl)(hpl:(Dq pos (Ba es X.env)).any (·.1)=false:=by rfl):PE X (.Call (.Name x p) (e::es) [] pos) (tCB r t):=by
 intro pins s σ H Q I h;refine Ez (q7w I hg hm hv ?_ hn hdb);exact Ip (thn (ha pos pins s σ H _ I h) fun us s1 ⟨vs,H1,I1,r1,q1⟩=>hc pins s1 σ H1 vs us Q I1 r1 q1) he hpl
end
end L2
namespace HT
open PySem PyProof.Rows
section
variable{prog:Program}{w:World}{A:Around}{E:Value->Ae->Prop}{s:Ae}
theorem cat_tup(ht:IsTup s.heap t vs.toArray)(hb:IsTup s.heap b ws.toArray)(hv:vs≠[])(h1:ws=[]->Q (.ref t) s)(h2:ws≠[]->Q (.ref s.heap.objs.size) { s with heap:=s.heap.push { cls:=.type "tuple",data:=.seq (vs++ws).toArray } })(hsz:vs.length+ws.length<=sizeLine):wpAny (model prog w) A (Gd .Add (.ref t) (.ref b)) Q E s:=by
 obtain⟨⟨cls,dd,data,sl⟩,ho,hc,n,hd⟩:=id ht;obtain⟨⟨cls2,dd2,data2,sl2⟩,ho2,hc2,n2,hd2⟩:=id hb;subst hc hd hc2 hd2;have e:vs.toArray++ws.toArray=(vs++ws).toArray:=by simp
 by_cases hw:ws=[]
 ·exact Rz ⟨_,ho,rfl⟩ ⟨_,ho2,rfl⟩ Ob Rg Ku Kk (Jv _ _)
   (tuple_addW1 t b vs.toArray ws.toArray n n2 dd dd2 sl sl2 (by simpa using hv) (by simp[hw])) ⟨ho,ho2,h1 hw⟩
 ·refine Rz ⟨_,ho,rfl⟩ ⟨_,ho2,rfl⟩ Ob Rg Ku Kk (Jv _ _)
   (tuple_addW2 t b vs.toArray ws.toArray n n2 dd dd2 sl sl2 (by simpa using hv) (by simpa using hw) (by rw[Ay,Ay];exact hsz)) ⟨ho,ho2,?_⟩
  rw[e];exact h2 hw
def sIx(n d:Nat):Option Int->Nat
 |none=>d
 |some v=>if v<0 then(v+(n:Int)).toNat else min v.toNat n
theorem z3y(v:Int)(n d:Nat):(if v<0 then max (v+(n:Int)) 0 else min v (n:Int))=((sIx n d (some v):Nat):Int):=by
 show(if v<0 then max (v+(n:Int)) 0 else min v (n:Int))=(((if v<0 then(v+(n:Int)).toNat else min v.toNat n):Nat):Int)
 by_cases hv:v<0
 ·grind
 ·grind
theorem z2l(lo hi:Option Int)(n:Nat):Nn lo hi 1 (n:Int)=(((sIx n 0 lo:Nat):Int),((sIx n n hi:Nat):Int)):=by
 refine Ua ?_ ?_
 ·cases lo with
  |none=>rfl
  |some v=>exact z3y v n 0
 ·cases hi with
  |none=>rfl
  |some v=>exact z3y v n n
theorem z2m(i j:Nat):Gw (i:Int) (j:Int) 1=j-i:=by
 unfold Gw;have h1:(1:Int)>0:=by lia
 simp only[h1,if_true,Int.ediv_one];split<;>lia
theorem q6d(p:Kv v o)(h:Q o s):wpAny (model prog w) A (Cs.Slice.slicePartIndex v) Q E s:=by
 cases p with
 |none=>exact slicePart_none h
 |int i t=>exact slicePart_int h
theorem q2s{lo:Option Int}{n:Nat}(hs:s.heap.IsSliceOf sl vl vu .none)(pl:Kv vl lo)(pu:Kv vu hi)(h:Q (((sIx n 0 lo:Nat):Int),1,sIx n n hi-sIx n 0 lo) s):wpAny (model prog w) A (Cs.Slice.sliceApplied (.ref sl) (pure (n:Int))) Q E s:=by
 obtain⟨os,hos,hcs,hds⟩:=id hs;refine Ab (Ab (Ca hos hds rfl (Ab (Ca hos hds rfl (Ab (Ca hos hds rfl (Ad ?_)))))));refine Ab (slicePart_none ?_);refine Ab (q6d pl (Ab (q6d pu (Ab (Ad ?_)))));show wpAny _ _ (match Nn lo hi 1 (n:Int) with|(lo,hi)=>pure (lo,(1:Int),Gw lo hi 1)) _ _ s;rw[z2l lo hi n];show wpAny _ _ (pure (((sIx n 0 lo:Nat):Int),(1:Int),Gw ((sIx n 0 lo:Nat):Int) ((sIx n n hi:Nat):Int) 1)) _ _ s;rw[z2m];exact Ad h
theorem z7e(xs:Array Value)(i k:Nat):((List.range k).filterMap fun(m:Nat)=>xs[((i:Int)+(m:Int)*1).toNat]?).toArray=((xs.toList.drop i).take k).toArray:=by
 have e:(fun(m:Nat)=>xs[((i:Int)+(m:Int)*1).toNat]?)=fun m=>xs[i+m]?:=by grind
 rw[e];have:=pick_run xs i k;rw[Sa] at this;have e2:((fun x=>xs[x]?)∘fun x=>i+x)=fun m=>xs[i+m]?:=rfl;rw[e2] at this;rw[this]
theorem getItem_tuple_cut{lo:Option Int}(ht:IsTup s.heap t items)(hs:s.heap.IsSliceOf sl vl vu .none)(pl:Kv vl lo)(pu:Kv vu hi)(hw:¬(sIx items.size 0 lo=0/\sIx items.size items.size hi=items.size))(h:Q (.ref s.heap.objs.size) { s with heap:=s.heap.push { cls:=.type "tuple",data:=.seq ((items.toList.drop (sIx items.size 0 lo)).take (sIx items.size items.size hi-sIx items.size 0 lo)).toArray } })(hsz:items.size<=sizeLine):wpAny (model prog w) A (getItem (.ref t) (.ref sl)) Q E s:=by
 have htake:sizeOk (.seq ((items.toList.drop (sIx items.size 0 lo)).take (sIx items.size items.size hi-sIx items.size 0 lo)).toArray):=by
  show((items.toList.drop (sIx items.size 0 lo)).take (sIx items.size items.size hi-sIx items.size 0 lo)).toArray.size<=sizeLine;rw[Ay,Bp,Ce,Em];lia
 obtain⟨os,hos,hcs,hds⟩:=id hs;have hTs:s.TypeIs (.ref sl) "slice" := ⟨os,hos,hcs⟩
 unfold getItem;try with_reducible refine Bm ?_
 refine Ab (Sx ht.typeIs (by decide) ?_);refine Ab (Cg ht.typeIs Ck
  (Bu Ck ht.typeIs entry_tuple_getitem ?_ (Sb _ _)))
 show wpAny _ _ (Iz (.ref t) >>= _) _ _ s;refine Ab (tupleItemsOf_ ht ?_);refine Ab (Ff hTs ?_);refine Ab (q2s hs pl pu ?_);have hno:¬((((sIx items.size 0 lo:Nat):Int)==0&&(1:Int)==1&&(sIx items.size items.size hi-sIx items.size 0 lo)==items.size)=true):=by grind
 show wpAny _ _ (if (((sIx items.size 0 lo:Nat):Int)==0&&(1:Int)==1&&(sIx items.size items.size hi-sIx items.size 0 lo)==items.size)=true then _ else _) _ _ s;rw[if_neg hno,z7e];first
  |exact Ab (Bx (Ad ⟨_,rfl,Ad h⟩) htake)
  |exact Ab (Bx (Ab (Ad (Ad ⟨_,rfl,Ad h⟩))) htake)
  |exact Ab (Ab (Bx (Ad (Ad ⟨_,rfl,Ad h⟩)) htake))
  |exact Ab (Ab (Bx (Ad ⟨_,rfl,Ad h⟩) htake))
end
end HT
namespace L2
open PySem PySem.Spec PyProof.Rows
abbrev TO:=St->Hp->(Option Int->Hp->Prop)->Prop
def PO(X:Cx)(e:Option Expr)(t:TO):Prop :=
 ∀(pins:List (Addr×Obj)) (s:Ae) (σ:St) (H:Hp) (Q:Option Int->Hp->Prop),Inv X pins σ H s->t σ H Q ->
  wpAny (model X.prog X.w) X.A (evalPart e X.env) (fun u s'=>∃o H',Inv X pins σ H' s'/\Kv u o/\Q o H') X.xe s
def tNoPart:TO:=fun _ H Q=>Q none H
def tPart(t:TE):TO:=fun σ H Q=>t σ H fun x H1=>∃i,x=.int i/\Q (some i) H1
section
variable{X:Cx}{e:Expr}{te:TE}{lo hi:Option Expr}{tl th:TO}{pos p2:Pos}
theorem q0t:PO X none tNoPart:=by
 intro pins s σ H Q I h;exact Ad ⟨none,H,I,.none,h⟩
theorem q0u(h:PE X e te):PO X (some e) (tPart te):=by
 intro pins s σ H Q I hw;refine thn (h pins s σ H _ I hw) fun u s1 ⟨x,H1,I1,r1,q1⟩=>?_;obtain⟨i,rfl,q⟩:=q1;obtain⟨t,rfl⟩:=r1;exact⟨some i,H1,I1,.int i t,q⟩
def SlR(X:Cx)(r:V->Option Int->Option Int->Hp->VK->Prop):Prop :=
 ∀(pins:List (Addr×Obj)) (s:Ae) (σ:St) (H:Hp) (x:V) (v vl vu:Value) (lo hi:Option Int) (sl:Addr) (Q:VK),Inv X pins σ H s->RelV x v->s.heap.IsSliceOf sl vl vu .none->Kv vl lo->Kv vu hi->r x lo hi H Q ->
  ∃T id,Np (.type T) "__getitem__" = pure (some (.builtin id))/\s.TypeIs v T/\wpAny (model X.prog X.w) X.A (getItem v (.ref sl)) (EP X pins σ Q) X.xe s
theorem SlR.or(h:SlR X r)(h':SlR X r'):SlR X (fun x lo hi H Q=>r x lo hi H Q\/r' x lo hi H Q):=by
 intro pins s σ H x v vl vu lo hi sl Q I rx hs pl pu q;rcases q with q|q
 ·exact h pins s σ H x v vl vu lo hi sl Q I rx hs pl pu q
 ·exact h' pins s σ H x v vl vu lo hi sl Q I rx hs pl pu q
def tSl(r:V->Option Int->Option Int->Hp->VK->Prop)(te:TE)(tl th:TO):TE:=fun σ H Q=>te σ H fun x H1=>tl σ H1 fun l H2=>th σ H2 fun u H3=>r x l u H3 Q
theorem q0q{r:V->Option Int->Option Int->Hp->VK->Prop}(hr:SlR X r)(he:PE X e te)(hl:PO X lo tl)(hu:PO X hi th):PE X (.Subscript e (.Slice lo hi none p2) pos) (tSl r te tl th):=by
 intro pins s σ H Q I h;refine Ur (thn (he pins s σ H _ I h) fun v s1 ⟨x,H1,I1,r1,q1⟩=>?_);refine wpAny_Slice (thn (hl pins s1 σ H1 _ I1 q1) fun vl s2 ⟨l,H2,I2,pl,q2⟩=>thn (hu pins s2 σ H2 _ I2 q2) fun vu s3 ⟨u,H3,I3,pu,q3⟩=>?_);refine Ad ?_;have I4:Inv X pins σ H3 { s3 with heap:=s3.heap.push { cls:=.type "slice",data:=.fields #[vl,vu,.none] } }:=I3.kept (t':=s3.toks) fun b ob q=>Af _ q;obtain⟨T,id,hT,ht,hg⟩:=hr pins { s3 with heap:=s3.heap.push { cls:=.type "slice",data:=.fields #[vl,vu,.none] } } σ H3 x v vl vu l u s3.heap.objs.size Q I4 r1 (Heap.IsSliceOf.new ..) pl pu q3;exact tail_any ht hT hg (by with_unfolding_all rfl)
def cutV(xs:List V)(lo hi:Option Int):List V:=(xs.drop (HT.sIx xs.length 0 lo)).take (HT.sIx xs.length xs.length hi-HT.sIx xs.length 0 lo)
theorem q5c(xs:List V)(lo hi:Option Int):(cutV xs lo hi).length<=xs.length:=by
 unfold cutV;rw[Bp,Ce];lia
def rSlT(K:Ai):V->Option Int->Option Int->Hp->VK->Prop:=fun x lo hi H Q=>∃a xs,x=.ref a/\SqT K H a xs /\
 ¬(HT.sIx xs.length 0 lo=0/\HT.sIx xs.length xs.length hi=xs.length)/\∀p,H p=none->Q (.ref p) (upd H p (.tup (cutV xs lo hi)))
theorem z8w:SlR X (rSlT X.K):=by
 intro pins s σ H x v vl vu lo hi sl Q I rx hs pl pu h;obtain⟨a,xs,rfl,hx,hw,q⟩:=h;cases rx;obtain⟨its,r,ht,hz⟩:=I.tuple hx;have hlen:its.toArray.size=xs.length:=by rw[Ay];exact r.length.symm
 refine⟨"tuple",_,Ck.lookup,ht.typeIs,?_⟩;refine HT.getItem_tuple_cut ht hs pl pu (by rw[hlen];exact hw) ?_ (by rw[hlen];exact hz);rw[hlen];refine⟨.ref s.heap.objs.size,_,I.laid (t':=s.toks) (fun b ob q=>Af _ q) (Am _) ?_,rfl,q _ (I.hok.fresh (Am _))⟩;exact⟨Bi (q5c xs lo hi) hz,_,(r.drop (HT.sIx xs.length 0 lo)).take (HT.sIx xs.length xs.length hi-HT.sIx xs.length 0 lo),IsTup.new _ _⟩
theorem Vals.nil_iff(r:Vals xs us):us=[]↔xs=[]:=by
 cases r with
 |nil=>simp
 |cons _ _=>simp
end
open PySem PySem.Spec PyProof.Rows
def ixN(n:Nat)(i:Int):Option Nat:=if 0<=i then(if i<n then some i.toNat else none) else if -(n:Int)<=i then some (i+n).toNat else none
def atI{α:Type}(xs:List α)(i:Int):Option α:=(ixN xs.length i).bind fun j=>xs[j]?
theorem z3z(h:ixN n i=some j):seqIndex? i n=some j/\j<n /\ -(n:Int)<=i/\i<n:=by
 unfold ixN at h;by_cases h0:0<=i
 ·rw[if_pos h0] at h;by_cases h1:i<n
  ·rw[if_pos h1] at h;have e:=Bw h;exact⟨by rw[Tr h0 h1,e],by lia,by lia,h1⟩
  ·grind
 ·rw[if_neg h0] at h;by_cases h1 : -(n:Int)<=i
  ·rw[if_pos h1] at h;have e:=Bw h;exact⟨by rw[seqIndex_neg (by lia) h1,e],by lia,h1,by lia⟩
  ·grind
theorem q6v{xs:List α}{v:α}(h:atI xs i=some v):∃j,seqIndex? i xs.length=some j/\xs[j]?=some v/\j<xs.length /\ -(xs.length:Int)<=i/\i<xs.length:=by
 unfold atI at h;cases e:ixN xs.length i with
 |none=>rw[e] at h;cases h
 |some j =>
  rw[e] at h;obtain⟨h1,h2,h3,h4⟩:=z3z e;exact⟨j,h1,h,h2,h3,h4⟩
theorem z4a{xs:List α}{j:Nat}{v:α}(h:xs[j]?=some v):atI xs (j:Int)=some v:=by
 have hj:=(Bg.mp h).1;have e:ixN xs.length (j:Int)=some j:=by
  unfold ixN;rw[if_pos (by lia),if_pos (by lia)];simp
 unfold atI;rw[e];exact h
def PlainIx(b:Expr):Prop:=∀o i,Pe b false o i=operate [o,i] (getItem o i)
def IxR(X:Cx)(r:R2):Prop :=
 ∀(value slice:Expr) (pins:List (Addr×Obj)) (s:Ae) (σ:St) (H:Hp) (x y:V) (v u:Value) (Q:VK),Inv X pins σ H s->RelV x v->RelV y u->r x y H Q ->
  Pe slice false v u=operate [v,u] (getItem v u)->wpAny (model X.prog X.w) X.A (subscriptTail value slice v u) (EP X pins σ Q) X.xe s
def MtR(X:Cx)(id:String)(r:V->List V->Hp->VK->Prop):Prop :=
 ∀(pins:List (Addr×Obj)) (s:Ae) (σ:St) (H:Hp) (x:V) (xs:List V) (v:Value) (us:List Value) (Q:VK),Inv X pins σ H s->RelV x v->Vals xs us->r x xs H Q ->
  wpAny (model X.prog X.w) X.A (call (.builtin id) (v::us)) (EP X pins σ Q) X.xe s
section
variable{X:Cx}{a b:Expr}{ta tb:TE}{pos:Pos}
theorem IxR.or(h:IxR X r)(h':IxR X r'):IxR X (fun x y H Q=>r x y H Q\/r' x y H Q):=by
 intro value slice pins s σ H x y v u Q I rx ry q hs;rcases q with q|q
 ·exact h value slice pins s σ H x y v u Q I rx ry q hs
 ·exact h' value slice pins s σ H x y v u Q I rx ry q hs
theorem MtR.or{id:String}(h:MtR X id r)(h':MtR X id r'):MtR X id (fun x xs H Q=>r x xs H Q\/r' x xs H Q):=by
 intro pins s σ H x xs v us Q I rx rs q;rcases q with q|q
 ·exact h pins s σ H x xs v us Q I rx rs q
 ·exact h' pins s σ H x xs v us Q I rx rs q
theorem q1a{r:R2}(hr:IxR X r)(ha:PE X a ta)(hb:PE X b tb)(hs:PlainIx b):PE X (.Subscript a b pos) (tOp r ta tb):=by
 intro pins s σ H Q I h;exact Ur (binT ha hb I h fun v u s2 x y H2 I2 rx ry q=>hr a b pins s2 σ H2 x y v u Q I2 rx ry q (hs _ _))
def rIxL(K:Ai):R2:=fun x y H Q=>∃p xs i v,x=.ref p/\y=.int i/\SqL K H p xs/\atI xs i=some v/\Q v H
def rIxT(K:Ai):R2:=fun x y H Q=>∃p xs i v,x=.ref p/\y=.int i/\SqT K H p xs/\atI xs i=some v/\Q v H
def rIxS:R2:=fun x y H Q=>∃z i c,x=.str z/\y=.int i/\z.length<=sizeLine/\atI z.cps.toList i=some c/\Q (.str ⟨#[c]⟩) H
theorem ix_list:IxR X (rIxL X.K):=by
 intro value slice pins s σ H x y v u Q I rx ry h hs;obtain⟨p,xs,i,z,rfl,rfl,hq,he,q⟩:=h;cases rx;obtain⟨t,rfl⟩:=ry;obtain⟨its,r,pl,hz⟩:=I.list hq;obtain⟨j,h1,h2,h3,h4,h5⟩:=q6v he;obtain⟨w,ew,rw'⟩:=r.get h2;have hl:=r.length;have hn:=line63;have fin:EP X pins σ Q w s:=⟨z,H,I,rw',q⟩
 by_cases h0:0<=i
 ·have hj:i.toNat=j:=by
   rw[Tr h0 h5] at h1;exact Bw h1
  exact item_listR pl.isList h0 (by lia) (by rw[hj];simpa using ew) fin hs
 ·have hj:(i+(its.toArray.size:Int)).toNat=j:=by
   rw[seqIndex_neg (by lia) h4] at h1;rw[Ay,<- hl];exact Bw h1
  exact Pf pl.isList.typeIs slot_list_getitem.lookup
   (wpAny_getItem_list_neg pl.isList (by lia) (by rw[Ay]<;>lia) (by lia) (by rw[hj];simpa using ew) ⟨rfl,fin⟩) hs
theorem ix_tup:IxR X (rIxT X.K):=by
 intro value slice pins s σ H x y v u Q I rx ry h hs;obtain⟨p,xs,i,z,rfl,rfl,hq,he,q⟩:=h;cases rx;obtain⟨t,rfl⟩:=ry;obtain⟨its,r,pl,hz⟩:=I.tuple hq;obtain⟨j,h1,h2,h3,h4,h5⟩:=q6v he;obtain⟨w,ew,rw'⟩:=r.get h2;have hl:=r.length;have hn:=line63;have fin:EP X pins σ Q w s:=⟨z,H,I,rw',q⟩
 exact Pf pl.typeIs slot_tuple_getitem.lookup
  (getItem_tuple pl (by lia) (by lia) (by rw[Ay,<- hl];exact h1) (by simpa using ew) ⟨rfl,fin⟩) hs
theorem ix_str:IxR X rIxS:=by
 intro value slice pins s σ H x y v u Q I rx ry h hs;obtain⟨z,i,c,rfl,rfl,hz,he,q⟩:=h;obtain⟨t,rfl⟩:=rx;obtain⟨t',rfl⟩:=ry;obtain⟨j,h1,h2,h3,h4,h5⟩:=q6v he;have hl:z.cps.toList.length=z.length:=by simp[Str.length]
 rw[hl] at h1 h4 h5;have hn:=line63;exact tail_any (Qr s z t) slot_str_getitem.lookup (getItem_str (by
  have e1:decide (i < -(2^63:Int))=false:=decide_eq_false (by lia);have e2:decide (i>=2^63)=false:=decide_eq_false (by lia);rw[e1,e2,Bool.or_false]) (by rw[h1];simpa using h2) ⟨.str ⟨#[c]⟩,H,I.tok _,⟨_,rfl⟩,q⟩) hs
def rIx(K:Ai):R2:=fun x y H Q=>rIxL K x y H Q\/rIxT K x y H Q\/rIxS x y H Q
theorem ix_seq:IxR X (rIx X.K):=ix_list.or (ix_tup.or ix_str)
theorem z2n(its:List Value)(n j:Nat)(u:Value):Eh (·.setIfInBounds j u) { cls:=.type "list",data:=.seq its.toArray n }={ cls:=.type "list",data:=.seq (its.set j u).toArray n }:=by
 simp[Eh]
theorem Inv.lst{pins:List (Addr×Obj)}{σ:St}{H:Hp}{s:Ae}{p:Addr}{xs:List V}(I:Inv X pins σ H s)(h:H p=some (.lst xs)):
  ∃(its:List Value) (n:Nat),Vals xs its/\s.heap.get? p=some { cls:=.type "list",data:=.seq its.toArray n }/\xs.length<=sizeLine:=by
 obtain⟨z,its,n,r,e⟩:=I.hok p _ h;exact⟨its,n,r,e,z⟩
theorem Inv.lstUpd{σ:St}{its:List Value}(I:Inv X pins σ H s)(h:H p=some (.lst xs))(ho:s.heap.get? p=some { cls:=.type "list",data:=.seq its.toArray n })(hf:f { cls:=.type "list",data:=.seq its.toArray n }={ cls:=.type "list",data:=.seq its'.toArray n' })(r:Vals ys its')(hz:ys.length<=sizeLine)(t:Nat):
  Inv X pins σ (upd H p (.lst ys)) { s with heap:=s.heap.update p f,toks:=t }:=by
 have e:(s.heap.update p f).get? p=some { cls:=.type "list",data:=.seq its'.toArray n' }:=by
  rw[De f ho (by rw[hf]<;>rfl),hf]
 refine I.write (by rw[h];trivial) (.inl rfl) (fun b u hb q=>(Bq _ _ (Bo hb)).trans q) ⟨_,e⟩ ?_;exact⟨hz,its',n',r,e⟩
def rSetL:V->V->V->Hp->(Hp->Prop)->Prop:=fun o i v H Q=>∃p xs k j,o=.ref p/\i=.int k/\H p=some (.lst xs)/\ixN xs.length k=some j/\Q (upd H p (.lst (xs.set j v)))
theorem q6w:PSet X rSetL:=by
 intro pins s σ H o i v ov iv u Q I ro ri rv h;obtain⟨p,xs,k,j,rfl,rfl,hp,hj,q⟩:=h;cases ro;obtain⟨t,rfl⟩:=ri;obtain⟨its,n,r,ho,hz⟩:=I.lst hp;obtain⟨h1,h2,h3,h4⟩:=z3z hj;have hl:=r.length;have hn:=line63;have I':Inv X pins σ (upd H p (.lst (xs.set j v))) { s with heap:=s.heap.update p (Eh (·.setIfInBounds j u)) } :=
  I.lstUpd hp ho (z2n its n j u) (r.set rv j) (by rw[List.length_set];exact hz) s.toks
 by_cases h0:0<=k
 ·have hk:k.toNat=j:=by
   rw[Tr h0 h4] at h1;exact Bw h1
  exact W.ki_setAt ho h0 (by lia) (by rw[Ay,<- hl];exact h4) (by rw[hk];exact⟨_,I',q⟩)
 ·have hk:(k+(its.toArray.size:Int)).toNat=j:=by
   rw[seqIndex_neg (by lia) h3] at h1;rw[Ay,<- hl];exact Bw h1
  exact W.ki_setBack ho (by lia) (by rw[Ay,<- hl];exact h3) (by lia) (by rw[hk];exact⟨_,I',q⟩)
theorem q8f(lo hi:Option Int)(n:Nat):(Jf lo hi none n).1=((HT.sIx n 0 lo:Nat):Int)/\(Jf lo hi none n).2.1=((HT.sIx n n hi:Nat):Int)/\(Jf lo hi none n).2.2=1:=by
 refine⟨?_,?_,rfl⟩
 ·cases lo with
  |none=>simp[Jf,HT.sIx]
  |some i =>
   simp only[Jf,HT.sIx,Ub,show(1:Int)>0 by decide,if_true];by_cases h:i<0
   ·simp only[h,if_true]<;>lia
   ·simp only[h,if_false]<;>lia
 ·cases hi with
  |none=>simp[Jf,HT.sIx]
  |some i =>
   simp only[Jf,HT.sIx,Ub,show(1:Int)>0 by decide,if_true];by_cases h:i<0
   ·simp only[h,if_true]<;>lia
   ·simp only[h,if_false]<;>lia
theorem q6x(its:List Value)(lo hi:Option Int):slicePick its.toArray lo hi none=((its.drop (HT.sIx its.length 0 lo)).take (HT.sIx its.length its.length hi-HT.sIx its.length 0 lo)).toArray:=by
 obtain⟨h1,h2,h3⟩:=q8f lo hi its.toArray.size;unfold slicePick;rw[h1,h2,h3];simp only[sliceRange_one,pick_run,Ay]<;>rfl
def rSlL(K:Ai):V->Option Int->Option Int->Hp->VK->Prop:=fun x lo hi H Q=>∃a xs,x=.ref a/\SqL K H a xs/\∀p,H p=none->Q (.ref p) (upd H p (.lst (cutV xs lo hi)))
theorem sl_list:SlR X (rSlL X.K):=by
 intro pins s σ H x v vl vu lo hi sl Q I rx hs pl pu h;obtain⟨a,xs,rfl,hx,q⟩:=h;cases rx;obtain⟨its,r,ht,hz⟩:=I.list hx;have hlen:=r.length;refine⟨"list",_,slot_list_getitem.lookup,ht.isList.typeIs,?_⟩;refine wpAny_getItem_list_slice ht.isList hs pl pu .none (by simp) ?_ (by rw[Ay]<;>lia);rw[q6x,<- hlen];refine⟨.ref s.heap.objs.size,_,I.laid (t':=s.toks) (fun b ob q=>Af _ q) (Am _) ?_,rfl,q _ (I.hok.fresh (Am _))⟩;exact⟨Bi (q5c xs lo hi) hz,_,0,(r.drop (HT.sIx xs.length 0 lo)).take (HT.sIx xs.length xs.length hi-HT.sIx xs.length 0 lo),Av _ rfl⟩
theorem CallR.or(h:CallR X f r)(h':CallR X f r'):CallR X f (fun xs H Q=>r xs H Q\/r' xs H Q):=by
 intro pins s σ H xs us Q I rs q;rcases q with q|q
 ·exact h pins s σ H xs us Q I rs q
 ·exact h' pins s σ H xs us Q I rs q
theorem q8g:CallR X (.type "list") (fun xs H Q=>∃p ys,xs=[.ref p]/\(SqL X.K H p ys\/SqT X.K H p ys)/\∀l,H l=none->Q (.ref l) (upd H l (.lst ys))):=by
 intro pins s σ H xs us Q I r h;obtain⟨p,ys,rfl,hq,q⟩:=h;obtain⟨u,rfl,rx⟩:=vals1 r;cases rx;have fin:∀(its:List Value),Vals ys its->ys.length<=sizeLine->∀(h':Heap) (c':Nat),(∀b o',s.heap.get? b=some o'->h'.get? b=some o') ->
   h'.get? s.heap.objs.size=some { cls:=.type "list",dict:=none,data:=.seq its.toArray c',slots:=#[] }->EP X pins σ Q (.ref s.heap.objs.size) { s with heap:=h' }:=fun its r' hz h' c' kp e =>
  ⟨.ref s.heap.objs.size,_,I.laid (t':=s.toks) kp (Am _) (show ObjOk X.prog X.w _ h' _ (.lst ys) from⟨hz,its,c',r',e⟩),rfl,q _ (I.hok.fresh (Am _))⟩
 rcases hq with hq|hq
 ·obtain⟨its,r',pl,hz⟩:=I.list hq;have hlen:=r'.length;obtain⟨o,ho,hc,n,hd⟩:=pl.isList;exact call_list_seq p (.inl rfl) ho hc hd (fun h' c' kp e=>fin its r' hz h' c' kp e) (by simp only[Ay]<;>lia)
 ·obtain⟨its,r',pl,hz⟩:=I.tuple hq;have hlen:=r'.length;obtain⟨o,ho,hc,n,hd⟩:=pl;exact call_list_seq p (.inr rfl) ho hc hd (fun h' c' kp e=>fin its r' hz h' c' kp e) (by simp only[Ay]<;>lia)
def tyV(K:Ai)(T:String)(x:V)(H:Hp):Prop:=match x with
 |.str _=>T = "str"
 |.int _=>T = "int"
 |.ref p=>(T = "list" /\ ∃xs,SqL K H p xs)\/(T = "tuple" /\ ∃o,K.lookup p=some o/\o.cls=.type "tuple" /\ o.dict=none) \/
   (T = "dict" /\ ((∃kvs,H p=some (.dK kvs))\/∃kvs,H p=some (.dT kvs)))\/(T = "set" /\ ∃S n,H p=some (.set S n))
 |_=>False
theorem z8x{σ:St}(I:Inv X pins σ H s)(r:RelV x v)(ty:tyV X.K T x H):
  s.TypeIs v T/\∀a,v=.ref a->∃ob,s.heap.get? a=some ob/\ob.dict=none:=by
 cases x with
 |str z =>
  obtain⟨t,rfl⟩:=r;cases(show T = "str" from ty);exact⟨Qr s z t,fun _ e=>nomatch e⟩
 |int i =>
  obtain⟨t,rfl⟩:=r;cases(show T = "int" from ty);exact⟨Us s i t,fun _ e=>nomatch e⟩
 |ref p =>
  cases r;rcases ty with⟨rfl,xs,hq⟩|⟨rfl,o,hk,hc,hd⟩|⟨rfl,hk⟩|⟨rfl,S,n,hk⟩
  ·obtain⟨its,_,pl,_⟩:=I.list hq;refine⟨pl.isList.typeIs,fun a e=>?_⟩;cases e;obtain⟨o,n,e,c,hd,_⟩:=pl;exact⟨o,e,hd⟩
  ·refine⟨⟨o,I.kIn p o hk,hc⟩,fun a e=>?_⟩;cases e;exact⟨o,I.kIn _ o hk,hd⟩
  ·have z:∃o,s.heap.get? p=some o/\o.ExactDict:=by
    rcases hk with⟨kvs,hk⟩|⟨kvs,hk⟩
    ·obtain⟨_,_,_,_,o,_,_,e,ex,_⟩:=I.hok p _ hk;exact⟨o,e,ex⟩
    ·obtain⟨_,_,_,_,o,_,_,e,ex,_⟩:=I.hok p _ hk;exact⟨o,e,ex⟩
   obtain⟨o,e,ex⟩:=z;refine⟨⟨o,e,ex.1⟩,fun a e2=>?_⟩;cases e2;exact⟨o,e,ex.2.1⟩
  ·obtain⟨o,_,_,_,e,ex,_⟩:=I.hok p _ hk;refine⟨⟨o,e,ex.1⟩,fun a e2=>?_⟩;cases e2;exact⟨o,e,ex.2.1⟩
 |_=>exact False.elim ty
def tBM0(K:Ai)(T:String)(r:V->List V->Hp->VK->Prop)(to:TE):TE:=fun σ H Q=>to σ H fun x H1=>tyV K T x H1/\r x [] H1 Q
def tBM(K:Ai)(T:String)(r:V->List V->Hp->VK->Prop)(to:TE)(t:TA):TE:=fun σ H Q=>to σ H fun x H1=>tyV K T x H1/\t σ H1 fun xs H2=>r x xs H2 Q
variable{o e:Expr}{es:List Expr}{to:TE}{t:TA}{name:Str}{apos cpos:Pos}{T id:String}{r:V->List V->Hp->VK->Prop}
theorem pe_bm0(pa:Qs T)(slot:Slot T name id)(hty:typeOf (.builtin id)=pure (.type "method_descriptor"))(hm:MtR X id r)(ho:PE X o to)(hbase:Ft o name X.env (eval o X.env)=eval o X.env:=by rfl)(hline:(apos.endLine==cpos.line)=true:=by rfl):PE X (.Call (.Attribute o name apos) [] [] cpos) (tBM0 X.K T r to):=by
 intro pins s σ H Q I h;refine wpAny_Call_method0_late hbase hline (thn (ho pins s σ H _ I h) fun v s1 ⟨x,H1,I1,r1,ty,q1⟩=>?_);obtain⟨h1,h2⟩:=z8x I1 r1 ty;exact⟨T,id,pa,slot,hty,h1,h2,Kw rfl (PySem.evalArgs_none (hm pins s1 σ H1 x [] v [] Q I1 r1 .nil q1))⟩
theorem pe_bm(pa:Qs T)(slot:Slot T name id)(hty:typeOf (.builtin id)=pure (.type "method_descriptor"))(hm:MtR X id r)(ho:PE X o to)(ha:PA X (e::es) t)(hbase:Ft o name X.env (eval o X.env)=eval o X.env:=by rfl)(hfew:((Dq cpos (Ba (e::es) X.env)).all (fun x => !x.1)&&(Lb cpos (Hw [] X.env)).all (fun x=>x.1.isSome)
   && decide ((e::es).length+([]:List Qa).length+(if ([]:List Qa).isEmpty then 0 else 1)<30))=true:=by rfl)(hline:(apos.endLine==cpos.line)=true:=by rfl)(hs:Ba (e::es) X.env=(false,eval e X.env)::Ba es X.env:=by rfl)(hplain:(Dq cpos (Ba es X.env)).any (·.1)=false:=by rfl):
  PE X (.Call (.Attribute o name apos) (e::es) [] cpos) (tBM X.K T r to t):=by
 intro pins s σ H Q I h;refine wpAny_Call_method_late hbase hfew hline rfl (thn (ho pins s σ H _ I h) fun v s1 ⟨x,H1,I1,r1,ty,q1⟩=>?_);obtain⟨h1,h2⟩:=z8x I1 r1 ty;refine⟨T,id,pa,slot,hty,h1,h2,?_⟩;have hA:=ha cpos pins s1 σ H1 _ I1 q1;rw[hs] at hA ⊢;refine Kw (by show(false||(Dq cpos (Ba es X.env)).any (·.1))=false;rw[hplain]<;>rfl) (Qt ?_);exact thn hA fun us s2 ⟨vs,H2,I2,r2,q2⟩=>hm pins s2 σ H2 x vs v us Q I2 r1 r2 q2
end
open PySem PySem.Spec PyProof.Rows
def MtM(X:Cx)(id:String)(r:V->List V->Hp->VK->Prop):Prop :=
 ∀(pins:List (Addr×Obj)) (s:Ae) (σ:St) (H:Hp) (x:V) (xs:List V) (v:Value) (us:List Value) (Q:VK),Inv X pins σ H s->RelV x v->Vals xs us->r x xs H Q ->
  wpAny (model X.prog X.w) X.A (call (.builtin id) (v::us)) (EP X pins σ Q) X.xe s
theorem Vals.one:∀{x:V} {us:List Value},Vals [x] us->∃u,us=[u]/\RelV x u
 |_,_,.cons r .nil=>⟨_,rfl,r⟩
theorem Vals.two:∀{x y:V} {us:List Value},Vals [x,y] us->∃u v,us=[u,v]/\RelV x u/\RelV y v
 |_,_,_,.cons r (.cons q .nil)=>⟨_,_,rfl,r,q⟩
theorem Vals.zero:∀{us:List Value},Vals [] us->us=[]
 |_,.nil=>rfl
theorem Vals.dropLast(h:Vals xs us):Vals xs.dropLast us.dropLast:=by
 induction h with
 |nil=>exact .nil
 |cons r t ih =>
  cases t with
  |nil=>exact .nil
  |cons q t'=>exact .cons r ih
theorem Vals.eraseIdx:∀{xs:List V} {us:List Value} (i:Nat),Vals xs us->Vals (xs.eraseIdx i) (us.eraseIdx i)
 |_,_,_,.nil=>.nil
 |_,_,0,.cons _ t=>t
 |_,_,i+1,.cons r t=>.cons r (Vals.eraseIdx i t)
theorem Vals.reverse(h:Vals xs us):Vals xs.reverse us.reverse:=by
 induction h with
 |nil=>exact .nil
 |cons r t ih=>rw[Sy,Sy];exact Vals.append ih (.cons r .nil)
theorem Vals.rep{xs:List V}{us:List Value}(h:Vals xs us):∀k:Nat,Vals (List.replicate k xs).flatten (List.replicate k us).flatten
 |0=>.nil
 |k+1=>by
  rw[Mi,Mi,Nh,Nh];exact Vals.append h (Vals.rep h k)
theorem q8h{α:Type}:∀(l:List α) (i:Nat),(l.eraseIdx i).length<=l.length
 |[],_=>Am _
 |_::_,0=>Je _
 |_::r,i+1=>Hh (q8h r i)
theorem q8i(its:List Value):∀(k:Nat) (acc:List Value),
  List.foldl (fun x1 x2=>x1++x2) acc.toArray (List.replicate k its.toArray)=(acc++(List.replicate k its).flatten).toArray
 |0,acc=>by simp
 |k+1,acc=>by
  have e:acc.toArray++its.toArray=(acc++its).toArray:=by simp
  have e2:(acc++its)++(List.replicate k its).flatten=acc++(List.replicate (k+1) its).flatten:=by grind
  rw[<- e2,<- q8i its k (acc++its),<- e,Mi,Lw]
section
variable{X:Cx}{pins:List (Addr×Obj)}{σ:St}{H:Hp}{s:Ae}{l b:Addr}{xs ys zs:List V}
theorem Inv.lset{its:List Value}(I:Inv X pins σ H s)(hH:H l=some (.lst xs))(e:s.heap.get? l=some { cls:=.type "list",data:=.seq its.toArray n })(hf:f its.toArray=its'.toArray)(hv:Vals ys its')(hz:ys.length<=sizeLine):
  Inv X pins σ (upd H l (.lst ys)) { s with heap:=s.heap.update l (Eh f),toks:=t' }:=by
 have q:=PySem.IsL.update e f;rw[hf] at q;refine I.write (by rw[hH];exact trivial) (.inl rfl) (fun b' u hb hu=>(Bq s.heap (Eh f) (Bo hb)).trans hu) ⟨_,q⟩ ?_;exact⟨hz,its',_,hv,q⟩
theorem Inv.lnew(I:Inv X pins σ H s)(hv:Vals ys its)(hz:ys.length<=sizeLine):
  Inv X pins σ (upd H s.heap.objs.size (.lst ys)) { s with heap:=s.heap.push { cls:=.type "list",data:=.seq its.toArray },toks:=t' } :=
 I.laid (fun _ _ q=>Af _ q) (Am _) ⟨hz,its,0,hv,Av _ rfl⟩
theorem Inv.fresh(I:Inv X pins σ H s):H s.heap.objs.size=none:=I.hok.fresh (Am _)
theorem Inv.lstM(I:Inv X pins σ H s)(hH:H l=some (.lst xs)):xs.length<=sizeLine/\∃(its:List Value) (n:Nat),Vals xs its/\xs.length=its.length/\s.heap.get? l=some { cls:=.type "list",data:=.seq its.toArray n }:=by
 obtain⟨z,its,n,r,e⟩:=I.hok l _ hH;exact⟨z,its,n,r,r.length,e⟩
theorem notLongL(h:n<=sizeLine):Oc n=false:=by
 exact decide_eq_false (by lia)
end
section
variable{X:Cx}
def rAppend:V->List V->Hp->VK->Prop:=fun x vs H Q=>∃l xs y,x=.ref l/\vs=[y]/\H l=some (.lst xs)/\xs.length<sizeLine/\Q .non (upd H l (.lst (xs++[y])))
theorem q1x:MtM X "list.append" rAppend:=by
 intro pins s σ H x vs v us Q I rx rv h;obtain⟨l,xs,y,rfl,rfl,hH,hz,q⟩:=h;cases rx;obtain⟨u,rfl,ru⟩:=rv.one;obtain⟨z,its,n,r,hl,e⟩:=I.lstM hH;refine Lx F.slot_list_append ⟨_,e,rfl⟩ F.entry_list_append (F.args_list_append_2 _ _) (PySem.list_append l its.toArray n u (by rw[Ay];lia)) ⟨e,?_⟩;refine⟨.non,_,I.lset (its':=its++[u]) hH e (by simp) (r.append (.cons ru .nil)) ?_,rfl,q⟩;rw[Ap,Dw];lia
def rPopAt:V->List V->Hp->VK->Prop:=fun x vs H Q=>∃l xs i k y,x=.ref l/\vs=[.int i]/\H l=some (.lst xs) /\ -(2^63)<=i/\i<2^63/\seqIndex? i xs.length=some k/\xs[k]?=some y/\Q y (upd H l (.lst (xs.eraseIdx k)))
theorem z7f:MtM X "list.pop" rPopAt:=by
 intro pins s σ H x vs v us Q I rx rv h;obtain⟨l,xs,i,k,y,rfl,rfl,hH,h1,h2,hk,hy,q⟩:=h;cases rx;obtain⟨u,rfl,ru⟩:=rv.one;obtain⟨t,rfl⟩:=ru;obtain⟨z,its,n,r,hl,e⟩:=I.lstM hH;obtain⟨w,hw,rw'⟩:=r.get hy;refine Lx F.slot_list_pop ⟨_,e,rfl⟩ F.entry_list_pop (F.args_list_pop_2 _ _)
  (MeetsSeq.list_pop_at l its.toArray n i t k w (fitsIndex_both h1 h2) (by rw[Ay,<- hl];exact hk) (by rw[<- Ij];exact hw) (by rw[Ay];lia)) ⟨e,?_⟩
 refine⟨y,_,I.lset (its':=its.eraseIdx k) hH e ?_ (r.eraseIdx k) ?_,rw',q⟩
 ·simp_all
 ·have:=q8h xs k;lia
def rCat:R2:=fun x y H Q=>∃l b xs zs,x=.ref l/\y=.ref b/\H l=some (.lst xs)/\H b=some (.lst zs)/\xs.length+zs.length<=sizeLine/\∀p,H p=none->Q (.ref p) (upd H p (.lst (xs++zs)))
theorem op_cat:OpR X (Gd .Add) rCat:=by
 intro pins s σ H x y v u Q I rx ry h;obtain⟨l,b,xs,zs,rfl,rfl,hH,hB,hz,q⟩:=h;cases rx;cases ry;obtain⟨z,its,n,r,hl,e⟩:=I.lstM hH;obtain⟨z2,its2,n2,r2,hl2,e2⟩:=I.lstM hB;refine PySem.P.add_list e e2 ?_ (by rw[Ay,Ay];lia);have ea:its.toArray++its2.toArray=(its++its2).toArray:=by simp
 rw[ea];exact⟨.ref _,_,I.lnew (t':=s.toks) (r.append r2) (by rw[Ap];lia),rfl,q _ I.fresh⟩
def rRep:R2:=fun x y H Q=>∃l k xs,x=.ref l/\y=.int k/\H l=some (.lst xs) /\ -(2^63)<=k/\k<2^63/\xs.length*k.toNat<=sizeLine /\
 ∀p,H p=none->Q (.ref p) (upd H p (.lst (List.replicate k.toNat xs).flatten))
theorem z9t{α:Type}(xs:List α)(k:Nat):(List.replicate k xs).flatten.length=k*xs.length:=by simp_all
theorem op_rep:OpR X (Gd .Mult) rRep:=by
 intro pins s σ H x y v u Q I rx ry h;obtain⟨l,k,xs,rfl,rfl,hH,h1,h2,hz,q⟩:=h;cases rx;obtain⟨t,rfl⟩:=ry;obtain⟨z,its,n,r,hl,e⟩:=I.lstM hH;have hlen:its.toArray.size*k.toNat<=sizeLine:=by simp_all
 have hcap:¬its.toArray.size*k.toNat>(2^63-1) / 8:=by
  have:(sizeLine:Nat)<=(2^63-1) / 8:=by decide
  lia
 have hfit:¬(!Builtin.List.listFitsIndex k)=true:=by
  rw[fitsIndex_both h1 h2];exact Bn
 have hlong:¬Oc (its.toArray.size*k.toNat)=true:=by
  rw[notLongL hlen];exact Bn
 have hnew:List.foldl (fun x1 x2=>x1++x2) #[] (List.replicate (if its.toArray.isEmpty=true then 0 else k.toNat) its.toArray)=(List.replicate k.toNat its).flatten.toArray:=by
  have f0:∀m:Nat,List.foldl (fun x1 x2=>x1++x2) #[] (List.replicate m its.toArray)=(List.replicate m its).flatten.toArray:=fun m=>by
   have:=q8i its m [];exact this
  cases its with
  |nil=>simp
  |cons a r'=>grind
 refine wpAny_binaryOp_repeat_ref (by decide) ⟨_,e,rfl⟩ (fun s'=>Us s' k t) noFill_list_mul F.fills_int_mul Ut repeat_list F.slot_int_index.lookup
  (Lx Ut (Us s k t) F.entry_int_rmul (F.args_int_rmul_2 _ _) (int___rmul___int_list k t l its.toArray n)
   ⟨e,rfl,⟨_,e,rfl⟩,Lx F.slot_list_mul ⟨_,e,rfl⟩ F.entry_list_mul (F.args_list_mul_2 _ _) (AutoListH.list___mul___list_int_3 l its.toArray n k t hfit hcap hlong) ⟨e,?_⟩⟩)
 rw[hnew];exact⟨.ref _,_,I.lnew (t':=s.toks) (r.rep k.toNat) (by rw[z9t,Nat.mul_comm];exact hz),rfl,q _ I.fresh⟩
end
end L2
namespace Att
open PySem PySem.W PySem.Calls PyProof.Rows
theorem q5d:∀(ns:List Int) (vs:List Value),WellAll P h vs (ns.map WData.int)->Sq vs ns:=by
 intro ns;induction ns with
 |nil =>
  intro vs w;cases w;exact .nil
 |cons n ns ih =>
  intro vs w;cases w with
  |cons a b =>
   cases a;exact .cons _ _ (ih _ b)
theorem z4b{l:OpenLaw}(hn:l.most=some n)(hpre:l.row.toRowW.claim.pre args=true)(hwl:WellAll P h vals args):
  ∃a vs ns,vals=[Value.ref a]/\args=[WData.list (ns.map WData.int)]/\h.get? a=some { cls:=.type "list",data:=.seq vs.toArray }/\Sq vs ns/\ns.length<=n:=by
 have hsh:=(pre_splitW hpre).1;have hc:l.pre.holds [] { args:=args }=true:=(pre_splitW hpre).2;obtain⟨d,r,rfl,h1,h2⟩:=hasAllW_cons hsh;obtain rfl:=hasAllW_nil h2;obtain⟨xs,rfl,h3⟩:=hasW_list h1;obtain⟨ns,rfl⟩:=items_int h3;have hlen:ns.length<=n:=by
  have h4:(WTm.not (.lt (.lit (.int (n:Int))) (.len (.arg 0)))).holds [] { args:=[.list (ns.map .int)] }=true:=by
   have h4:=(holds_andW hc).1;rw[hn] at h4;exact h4
  have h5:=condW_of h4 (w_not (w_lt w_lit (w_len_list (w_arg rfl))));first
   |(rw[decide_eq_true q'] at h5;exact absurd h5 (by decide))
   |(simp at h5;lia)
 cases hwl with
 |cons w1 w2 =>
  cases w2;cases w1 with
  |list ho hall=>exact⟨_,_,ns,rfl,rfl,ho,q5d ns _ hall,hlen⟩
theorem z4c(l:OpenLaw)(args:List WData):l.row.toRowW.claim.post args (.bool true) args=true :=
 postW_of
  (show WShape.has [] (.bool true) .bool=true by first|rfl|decide|simp[WShape.has,WShape.arms,WShape.armsAll])
  (show(WTm.eq .res (.lit (.bool true))).value [] { args:=args,res:=some (.bool true),after:=args }=some (.bool (true==true)) from w_eq_bool (w_res rfl) w_lit) rfl
theorem attach_call{l:OpenLaw}(hn:l.most=some n)(hdf:d.params.defaults=[])(call:∀(w:World) (s₀ s₁:Ae) (mg mb:Str->Option Value) (fa:Addr) (o:Obj) (pm cd doc:Value) (a:Addr) (vs:List Value) (ns:List Int),
   Ground q loose [] XP w s₀ mg mb s₁.heap->YP w s₁.heap ->
   s₁.heap.get? fa=some o->o.data=.func (docDef d.name d.params d.body d.scope pm cd doc)->s₁.heap.CodeRec cd d.name->mg d.name=some (.ref fa) ->
   s₁.heap.get? a=some { cls:=.type "list",data:=.seq vs.toArray }->Sq vs ns->ns.length<=n->s₁.gens=#[] ->
   Fm (model l.prog w) Nt (.call (.ref fa) ⟨[.ref a],[]⟩) (fun r s'=>r=.ok (.ret (.bool true))/\OldK s₁.heap s'.heap/\s'.os=s₁.os/\Ki s'.gens) s₁):
  WalkO q loose XP YP l.row.toRowW d [] (fun f vs=>Uu f vs):=by
 intro w s₀ s₁ mg mb G Y fa o pm cd doc dV kV ho hd hcd hD hmg hg args vals as hpre hlay hrd hwl hlo;obtain rfl:dV=.none:=Dflts.none hD hdf;obtain rfl:kV=.none:=Dflts.noKw hD;obtain⟨a,vs,ns,rfl,rfl,hobj,hints,hlen⟩:=z4b hn hpre hwl;refine enter_call (Ii (call w s₀ s₁ mg mb fa o pm cd doc a vs ns G Y ho (fd_plain hd) hcd hmg hobj hints hlen hg) fun r s' hq=>?_);obtain⟨rfl,h2,h3,h4⟩:=hq;exact⟨.inl ⟨.bool true,.bool true,[],rfl,fun _=>rfl,.bool true,z4c l _,fun _=>⟨List.Pairwise.nil,fun _ hm=>(nomatch hm)⟩⟩,h2,h3,h4⟩
end Att
namespace L2
open PySem PySem.Spec PyProof.Rows
theorem q8j:∀{vs:List Value} {ns:List Int},Sq vs ns->Vals (ns.map V.int) vs
 |_,_,.nil=>.nil
 |_,_,.cons n t h=>.cons ⟨t,rfl⟩ (q8j h)
def Only(H:Hp):Prop:=∀b,H b=none\/∃o xs,H b=some (.frz o (.lst xs))
theorem z7g{K:Ai}(KX:K.In s₁.heap)(hns:s₁.heap.Ns Cc mg)(hb:s₁.heap.Ns builtinsNs mb)(hbb:∀x:Str,x ≠ "__name__" -> mb x=Ic x)(hlim:s₁.heap.NoLimit)(hg:s₁.gens=#[])(ha:s₁.heap.get? a=some { cls:=.type "list",data:=.seq vs.toArray })(hi:Sq vs ns)(hl:ns.length<=sizeLine)(hr:Room k Nt)(F:∀base:Heap,K.In base->base.Ns Cc mg->FnOk P w K mg base CX k fa fd [x] sp)(hbind:∀(s:Ae) (u:Value),Pz s fd ⟨[u],[]⟩ [(x,u)])(hsp:∀H:Hp,Only H->SqL K H a (ns.map V.int)->sp [.ref a] H (fun v _=>v=.bl true) fun _ _ _=>False)(hCX:∀H e s',CX [] H s₁ (fun _ _ _=>False) e s'->False):
  Fm (model P w) Nt (.call (.ref fa) ⟨[.ref a],[]⟩) (fun r s'=>r=.ok (.ret (.bool true))/\OldK s₁.heap s'.heap/\s'.os=s₁.os/\Ki s'.gens) s₁:=by
 have rv:=q8j hi;have lenV:=hi.length;have core:∀H:Hp,Only H->SqL K H a (ns.map V.int)->HOk P w H s₁.heap->(∀b,H b≠none->b=a)->(H a≠none->K.lookup a=none) ->
   Fm (model P w) Nt (.call (.ref fa) ⟨[.ref a],[]⟩) (fun r s'=>r=.ok (.ret (.bool true))/\OldK s₁.heap s'.heap/\s'.os=s₁.os/\Ki s'.gens) s₁:=by
  intro H hO hS hok hA hK;have base_of:∀{b:Addr} {o:Obj},s₁.heap.get? b=some o->H b=none->(hidT s₁.heap H).get? b=some o:=fun e n=>z6r e n;have noA:∀{b:Addr} {o:Obj} {es:Array Iq} {ep:Nat},s₁.heap.get? b=some o->o.data=.dict es ep->H b=none:=fun{b o es ep} e d=>by
   cases q:H b with
   |none=>rfl
   |some u =>
    have e':=hA b (by rw[q];simp);subst e';rw[ha] at e;cases e;have d':=d;cases d'
  have nsK:∀{b:Addr} {m:Str->Option Value},s₁.heap.Ns b m->(hidT s₁.heap H).Ns b m:=fun{b m} ⟨o,es,ep,e,d,r⟩=>⟨o,es,ep,base_of e (noA e d),d,r⟩
  have hKb:=fun b o e=>base_of (KX b o e) (by
   cases q:H b with
   |none=>rfl
   |some u =>
    have e':=hA b (by rw[q];simp);subst e';rw[hK (by rw[q];simp)] at e;cases e)
  have hM:Mod K mg (hidT s₁.heap H):=⟨hKb,nsK hns,⟨mb,nsK hb,hbb⟩,let ⟨mc,h1,h2⟩:=hlim;⟨mc,nsK h1,h2⟩⟩
  have e0:Env0 P w K mg (hidT s₁.heap H) Nt [] s₁ H:=⟨rfl,hM,fun b o e=>z9n e,Js (z3j _ _),trivial,fun b hb=>absurd (show b∈([]:List Addr) from hb) (by simp),hok,.of_eq hg⟩
  refine Ii ((F _ hKb (nsK hns)).run Nt [] s₁ H ⟨[.ref a],[]⟩ [.ref a] [.ref a] _ _ hr e0 (hbind s₁ (.ref a)) (.cons rfl .nil) (hsp H hO hS)) fun r s' h=>?_;cases r with
  |error e=>exact(hCX H e s' h).elim
  |ok fl =>
   cases fl with
   |next=>exact False.elim h
   |brk=>exact False.elim h
   |cont=>exact False.elim h
   |ret u =>
    obtain⟨v,H',os,bare,un,hok',r',q⟩:=h;have q':=q;subst q';obtain rfl:u=Value.bool true:=r';refine⟨rfl,OldK.of_keep fun b o e=>?_,os,bare⟩;cases q:H b with
    |none=>exact un.keep b o e q (by intro z;exact absurd (show b∈([]:List Addr) from z) (by simp)) (by simp)
    |some u =>
     rcases hO b with z|⟨ob,xs,z⟩
     ·grind
     ·have z2:=un.frzs b ob _ z;obtain⟨e1,_⟩:=hok b _ z;obtain⟨e2,_⟩:=hok' b _ z2;rw[e] at e1;cases e1;exact e2
 cases hk:K.lookup a with
 |some o =>
  have e:=KX a o hk;rw[ha] at e;cases e;refine core (fun _=>none) (fun _=>.inl rfl) (.inr ⟨_,vs.toArray,_,hk,rfl,rfl,rfl,by rw[Ay,lenV];exact hl,by simpa using rv⟩) (fun b u z=>by have z':(none:Option HO)=some u:=z;cases z') (fun b z=>absurd rfl z) fun z=>absurd rfl z
 |none =>
  refine core (fun b=>if b=a then some (.frz { cls:=.type "list",data:=.seq vs.toArray } (.lst (ns.map V.int))) else none) (fun b=>?_) (.inl (.inr ⟨{ cls:=.type "list",data:=.seq vs.toArray },if_pos rfl⟩)) (fun b u z=>?_) (fun b z=>?_) fun _=>hk
  ·by_cases hb:b=a
   ·simp_all
   ·simp_all
  ·by_cases hb:b=a
   ·have z':=(if_pos hb).symm.trans z;cases z';subst hb;exact⟨ha,by rw[Ac];exact hl,vs,_,rv,ha⟩
   ·grind
  ·grind
theorem walk_of{l:Vh}{K:Params->Ai}{CX:World->CXT}{sp:World->Sp}(hn:l.most=some n)(hn2:n<=sizeLine)(hdf:d.params.defaults=[])(hr:Room k Nt)(hY:∀(w:World) (h:Heap),YP w h->(K w.params).In h)(F:∀(w:World) (mg:Str->Option Value) (fa:Addr) (h:Heap),(K w.params).In h->h.Ns Cc mg->mg d.name=some (.ref fa) ->
   ∃fd:Jt,(∀(s:Ae) (u:Value),Pz s fd ⟨[u],[]⟩ [(x,u)]) /\
    ∀base:Heap,(K w.params).In base->base.Ns Cc mg->FnOk l.prog w (K w.params) mg base (CX w) k fa fd [x] (sp w))(hsp:∀(w:World) (H:Hp) (a:Addr) (ns:List Int),ns.length<=n->Only H->SqL (K w.params) H a (ns.map V.int)->sp w [.ref a] H (fun v _=>v=.bl true) fun _ _ _=>False)(hCX:∀(w:World) (H:Hp) (s:Ae) (e:Value) (s':Ae),CX w [] H s (fun _ _ _=>False) e s'->False):
  W.WalkO q loose XP YP l.row.toRowW d [] (fun f vs=>Uu f vs):=by
 refine Att.attach_call hn hdf fun w s₀ s₁ mg mb fa o pm cd doc a vs ns G Y ho hd hcd hmg hobj hints hlen hg=>?_;have KX:=hY w _ Y;obtain⟨fd,hb,hF⟩:=F w mg fa _ KX G.T.g hmg;exact z7g KX G.T.g G.T.b G.T.builtins G.T.nolimit hg hobj hints (Bi hlen hn2) hr hF hb (fun H hO hS=>hsp w H a ns hlen hO hS) fun H e s'=>hCX w H s₁ e s'
def inClass(s:Stmt)(j:Nat):Stmt:=match s with
 |.ClassDef _ _ _ body _ _ _ _ _ _ _=>body.getD j (.Pass ⟨0,0,0,0⟩)
 |_=>.Pass ⟨0,0,0,0⟩
def defArgs(s:Stmt):Arguments:=match s with
 |.FunctionDef _ a _ _ _ _ _ _ _ _=>a
 |_=>{ posonlyargs:=[],args:=[],vararg:=none,kwonlyargs:=[],kw_defaults:=[],kwarg:=none,defaults:=[] }
def defBody(s:Stmt):List Stmt:=match s with
 |.FunctionDef _ _ b _ _ _ _ _ _ _=>b
 |_=>[]
def defScope(s:Stmt):Scope:=match s with
 |.FunctionDef _ _ _ _ _ _ sc _ _ _=>sc
 |_=>{ kind:=.function,names:=[],isGenerator:=false,isCoroutine:=false }
abbrev CX0:CXT:=fun _ _ _ _ _ _=>False
abbrev E0:XK:=fun _ _ _=>False
theorem pass0:Passes CX0 X E0:=fun _ _ _ _ _ _ _ h=>h.elim
structure Fun (K:Ai) (x qual:Str) (st:Stmt) (f:Addr) (fd:Jt):Prop where
 ex:∃(oc:Value) (od:Option Addr) (kV doc pm:Value) (an:Option Addr) (cdv ct:Value) (osl:Array (Option Value)),
  fd=Hg x qual (defArgs st) (defBody st) (defScope st) .none kV doc pm an cdv ct/\K.lookup f=some ⟨oc,od,.func fd,osl⟩/\Ju K cdv qual=true
 kp:Ej K (.ref f)=true
section
variable{P:Program}{w:World}{K:Ai}{mg:Str->Option Value}{base:Heap}
theorem Fun.ok{st:Stmt}(F:Fun K x qual st f fd)(S:FnScope N ps (defScope st))(len:∀vs H Q E,sp vs H Q E->vs.length=ps.length)(hbody:∀(cdv:Value) (A:Around) (outer:List Env) (s:Ae) (H:Hp) (vs:List V) (Q:VK) (E:XK),Room k (A.deeper (Ga qual (defScope st) s.heap.objs.size f cdv))->sp vs H Q E ->
   ∃t,PSs (cxOf CX0 P w K mg base N qual (defScope st) f cdv A outer s H E).nox (defBody st) t/\t { nx:=fun _ H'=>Q .non H',rt:=Q } (start N vs) H):FnOk P w K mg base CX0 (k+1) f fd ps sp:=by
 obtain⟨oc,od,kV,doc,pm,an,cdv,ct,osl,rfl,lk,hcd⟩:=F.ex;refine z7d lk hcd S len fun A outer s H vs Q E hr hsp=>?_
 obtain⟨t,h,q⟩:=hbody cdv A outer s H vs Q E hr hsp;exact⟨t,h.nox,q⟩
theorem Fun.binds{st:Stmt}(F:Fun K x qual st f fd)(h:∀(kV doc pm:Value) (an:Option Addr) (cdv ct:Value) (us:List Value),us.length=ps.length->bindArgs (Hg x qual (defArgs st) (defBody st) (defScope st) .none kV doc pm an cdv ct) ⟨us,[]⟩=pure (ps.zip us)):Binds K fd ps []:=by
 obtain⟨oc,od,kV,doc,pm,an,cdv,ct,osl,rfl,lk,hcd⟩:=F.ex;exact .all (h kV doc pm an cdv ct)
theorem q5e{st:Stmt}{kV:Value}(l:K.lookup f=some ⟨oc,od,.func (Hg x qual (defArgs st) (defBody st) (defScope st) .none kV doc pm an cdv ct),osl⟩)(c:Ju K cdv qual=true)(k:Ej K (.ref f)=true):Fun K x qual st f (Hg x qual (defArgs st) (defBody st) (defScope st) .none kV doc pm an cdv ct):=⟨⟨oc,od,kV,doc,pm,an,cdv,ct,osl,rfl,l,c⟩,k⟩
end
theorem q1y(hr:Room k A):A.units+1<cLine:=Mr (Rk (by decide:1<=64) _) hr.units
section
variable{X:Cx}
theorem pv(i:Nat){x:Str}{pos:Pos}(hN:X.N[i]?=some x:=by rfl)(hv:Vis X.env.scope x:=by first|exact Or.inl rfl|exact Or.inr (Or.inl rfl)|exact Or.inr (Or.inr rfl))(hd:(x==("__debug__" : Str))=false:=by decide)(hcd:(x==("__classdict__" : Str))=false:=by decide):PE X (.Name x pos) (tVar i):=pe_var hN hv hd hcd
end
theorem iteF{B:Prop}(h:B):if false=true then A else B:=by
 exact h
theorem iteT{B:Prop}(h:A):if true=true then A else B:=by
 exact h
theorem ite2{B:Prop}[Decidable c](h1:c->A)(h2:¬c->B):if c then A else B:=by grind
def Same(H H':Hp):Prop:=∀b o,H b=some o->H' b=some o
theorem Same.refl(H:Hp):Same H H:=fun _ _ h=>h
theorem Same.trans(a:Same H H1)(b:Same H1 H2):Same H H2:=fun c o h=>b c o (a c o h)
theorem Same.free(e:Same H H')(h:H' l=Option.none):H l=Option.none:=by
 cases q:H l with
 |none=>rfl
 |some o =>
  rw[e l o q] at h;cases h
theorem Same.seq{K:Ai}(e:Same H H')(h:SqL K H a xs):SqL K H' a xs:=by
 rcases h with(h|⟨o,h⟩)|h
 ·exact .inl (.inl (e _ _ h))
 ·exact .inl (.inr ⟨o,e _ _ h⟩)
 ·exact .inr h
open PySem PySem.Spec PyProof.Rows
abbrev Caps:=List (Str×Nat)
def capV(σ:St):Caps->St
 |[]=>[]
 |(_,i)::r=>(σ[i]?).join::capV σ r
def CapOk(X:Cx)(scope:Scope):Caps->Prop
 |[]=>True
 |(x,i)::r=>(X.N[i]?=some x/\scope.names.lookup x=some .free/\(X.env.scope.names.lookup x=some .cell\/X.env.scope.names.lookup x=some .free))/\CapOk X scope r
def cxComp(X:Cx)(N:List Str)(scope:Scope)(cl:List (Str×Addr))(C:Addr)(fp:List Addr)(s:Ae)(H:Hp):Cx where
 prog:=X.prog
 w:=X.w
 K:=X.K
 mg:=X.mg
 base:=X.base
 A:=X.A
 N:=N
 s₀:=s
 H₀:=H
 env:=Fg scope cl C X.env
 outer:=X.stack
 stack:=X.stack
 ex:=fp
 fn:=fun _=>false
 calm:=X.calm
 pn:=[]
 xe:=fun _ _=>False
theorem z2o(names:List (Str×Bc))(hh:∀x,(x,Bc.free)∈names->∃c,env.cells.lookup x=some c):∀acc:List (Str×Addr),
  ∃cl,(forIn names acc (fun(x:Str×Bc) (r:List (Str×Addr))=>match x with
   |(name,kind)=>if (kind==Bc.free)=true then do let a<-cellOf env name;pure (ForInStep.yield ((name,a)::r)) else pure (ForInStep.yield r)):Sem (List (Str×Addr)))=pure cl /\
   (∀x c,(x,c)∈cl->(x,c)∈acc\/env.cells.lookup x=some c)/\(∀x,((x,Bc.free)∈names\/∃c,(x,c)∈acc)->∃c,(x,c)∈cl):=by
 induction names with
 |nil=>intro acc;exact⟨acc,rfl,fun x c h=>.inl h,fun x h=>h.elim (fun z=>nomatch z) id⟩
 |cons n r ih =>
  intro acc;obtain⟨name,kind⟩:=n;by_cases hk:kind=Bc.free
  ·subst hk;obtain⟨c,hc⟩:=hh name Au;obtain⟨cl,e,h1,h2⟩:=ih (fun x hx=>hh x (Ar _ hx)) ((name,c)::acc);refine⟨cl,?_,fun x d hd=>?_,fun x hx=>?_⟩
   ·rw[Ox];have:cellOf env name=pure c:=by unfold cellOf;rw[hc]
    simp only[beq_self_eq_true,if_true,this];exact e
   ·rcases h1 x d hd with z|z
    ·rcases Be.mp z with z|z
     ·cases z;exact .inr hc
     ·exact .inl z
    ·exact .inr z
   ·refine h2 x ?_;rcases hx with hx|⟨d,hd⟩
    ·rcases Be.mp hx with z|z
     ·simp_all
     ·exact .inl z
    ·grind
  ·obtain⟨cl,e,h1,h2⟩:=ih (fun x hx=>hh x (Ar _ hx)) acc;refine⟨cl,?_,h1,fun x hx=>h2 x ?_⟩
   ·simp_all
   ·grind
theorem q6y{cl:List (Str×Addr)}(h:(x,c)∈cl):∃d,cl.lookup x=some d:=by
 induction cl with
 |nil=>cases h
 |cons y r ih =>
  obtain⟨n,a⟩:=y;cases e:x==n with
  |true=>simp_all
  |false =>
   rcases Be.mp h with z|z
   ·cases z;simp at e
   ·obtain⟨d,hd⟩:=ih z;exact⟨d,by simp only[Iu,e];exact hd⟩
theorem z2p(hh:∀x,(x,Bc.free)∈scope.names->∃c,env.cells.lookup x=some c):
  ∃cl,Uv scope env=pure cl/\(∀x c,cl.lookup x=some c->env.cells.lookup x=some c)/\∀x,(x,Bc.free)∈scope.names->∃c,cl.lookup x=some c:=by
 obtain⟨cl,e,h1,h2⟩:=z2o scope.names hh [];refine⟨cl,?_,fun x c h=>?_,fun x hx=>?_⟩
 ·unfold Uv;have e2:=congrArg (fun m:Sem (List (Str×Addr))=>m >>= fun cs=>(pure cs:Sem _)) e;exact e2
 ·rcases h1 x c (En h) with z|z
  ·cases z
  ·exact z
 ·obtain⟨c,hc⟩:=h2 x (.inl hx);exact q6y hc
theorem q3p{env:Env}{k:Bc}(hk:k=.cell\/k=.free):∀{names:List (Str×Bc)} {x:Str},(∀y∈names,y.2≠.cell) ->
  (names.map fun(n,k)=>if (k==Bc.free&&env.scope.kind==.function&&env.kindOf n==some .cell) then(n,Bc.cell) else(n,k)).lookup x=some k->(x,Bc.free)∈names
 |[],_,_,h=>by simp at h
 |(n,k')::r,x,hc,h=>by
  have ih:=@q3p env k hk r x fun y hy=>hc y (Ar _ hy);by_cases c:(k'==Bc.free&&env.scope.kind==.function&&env.kindOf n==some .cell)=true
  ·have h':((n,Bc.cell)::r.map fun(n,k)=>if (k==Bc.free&&env.scope.kind==.function&&env.kindOf n==some .cell) then(n,Bc.cell) else(n,k)).lookup x=some k:=by
    have e:(if (k'==Bc.free&&env.scope.kind==.function&&env.kindOf n==some .cell)=true then(n,Bc.cell) else(n,k'))=(n,Bc.cell):=if_pos c;rw[<- e];exact h
   cases e:x==n with
   |true =>simp_all
   |false=>exact Ar _ (ih (by simp only[Iu,e] at h';exact h'))
  ·have h':((n,k')::r.map fun(n,k)=>if (k==Bc.free&&env.scope.kind==.function&&env.kindOf n==some .cell) then(n,Bc.cell) else(n,k)).lookup x=some k:=by
    have e:(if (k'==Bc.free&&env.scope.kind==.function&&env.kindOf n==some .cell)=true then(n,Bc.cell) else(n,k'))=(n,k'):=if_neg c;rw[<- e];exact h
   cases e:x==n with
   |true =>simp_all
   |false=>exact Ar _ (ih (by simp only[Iu,e] at h';exact h'))
theorem q4o{env:Env}:∀{names:List (Str×Bc)} {x:Str},names.lookup x=some .free ->
    ((names.map fun(n,k)=>if (k==Bc.free&&env.scope.kind==.function&&env.kindOf n==some .cell) then(n,Bc.cell) else(n,k)).lookup x=some .cell \/
     (names.map fun(n,k)=>if (k==Bc.free&&env.scope.kind==.function&&env.kindOf n==some .cell) then(n,Bc.cell) else(n,k)).lookup x=some .free)
  |[],_,h=>by simp at h
  |(n,k')::r,x,h=>by
    have ih:=@q4o env r x;by_cases c:(k'==Bc.free&&env.scope.kind==.function&&env.kindOf n==some .cell)=true
    · have e:(if (k'==Bc.free&&env.scope.kind==.function&&env.kindOf n==some .cell)=true then(n,Bc.cell) else(n,k'))=(n,Bc.cell):=if_pos c;show(List.lookup x ((if (k'==Bc.free&&env.scope.kind==.function&&env.kindOf n==some .cell)=true then(n,Bc.cell) else(n,k'))::_)=_\/List.lookup x ((if (k'==Bc.free&&env.scope.kind==.function&&env.kindOf n==some .cell)=true then(n,Bc.cell) else(n,k'))::_)=_);rw[e];cases ex:x==n with
      |true=>simp_all
      |false =>
        simp only[Iu,ex] at h ⊢;exact ih h
    · have e:(if (k'==Bc.free&&env.scope.kind==.function&&env.kindOf n==some .cell)=true then(n,Bc.cell) else(n,k'))=(n,k'):=if_neg c;show(List.lookup x ((if (k'==Bc.free&&env.scope.kind==.function&&env.kindOf n==some .cell)=true then(n,Bc.cell) else(n,k'))::_)=_\/List.lookup x ((if (k'==Bc.free&&env.scope.kind==.function&&env.kindOf n==some .cell)=true then(n,Bc.cell) else(n,k'))::_)=_);rw[e];cases ex:x==n with
      |true =>simp_all
      |false =>
        simp only[Iu,ex] at h ⊢;exact ih h
theorem q5f(σ:St):∀caps:Caps,(capV σ caps).length=caps.length
 |[]=>rfl
 |(_,_)::r=>congrArg (· + 1) (q5f σ r)
theorem z1c:∀{caps:Caps} {j:Nat} {x:Str} {v:V},CapOk X scope caps->(caps.map (·.1))[j]?=some x->(capV σ caps)[j]?=some (some v) ->
  ∃i:Nat,X.N[i]?=some x/\σ[i]?=some (some v)/\scope.names.lookup x=some .free/\(X.env.scope.names.lookup x=some .cell\/X.env.scope.names.lookup x=some .free)
 |[],_,_,_,_,h,_=>by simp at h
 |(y,i)::r,0,x,v,hc,h1,h2=>by
  simp at h1;subst h1;have e:(σ[i]?).join=some v:=by simpa[capV] using h2
  refine⟨i,hc.1.1,?_,hc.1.2⟩;cases q:σ[i]? with
  |none=>rw[q] at e;cases e
  |some z=>simp_all
 |(y,i)::r,j+1,x,v,hc,h1,h2=>z1c hc.2 (by simpa using h1) (by simpa[capV] using h2)
def tg0(tg:List Str)(σ:St)(caps:Caps):St:=tg.map (fun _=>none)++capV σ caps
theorem Inv.ofcomp{σ:St}{C:Addr}(tg:List Str)(I:Inv X pins σ H s)(hkind:scope.kind=.function)(hnc:∀y∈scope.names,y.2≠.cell)(hc1:∀x c,cl.lookup x=some c->X.env.cells.lookup x=some c)(hc2:∀x,(x,Bc.free)∈scope.names->∃c,cl.lookup x=some c)(hf:∀b∈fp,FpOk X pins H b)(hfo:∀b∈fp,∃o,s.heap.get? b=some o)(hC:s.heap.objs.size<=C)(hns:h₁.Ns C m)(hk:∀b o,s.heap.get? b=some o->h₁.get? b=some o)(co:CapOk X scope caps):
  Inv (cxComp X (tg++caps.map (·.1)) scope cl C fp s H) [] (tg0 tg σ caps) H { s with heap:=h₁,toks:=tk }:=by
 have hfs:∀b∈fp,b∉frs X.stack:=fun b hb hx=>by
  rcases Be.mp (I.stkSub b hx) with z|z
  ·exact(hf b hb).2.1 z
  ·exact(hf b hb).2.2.1 z
 have ok:(cxComp X (tg++caps.map (·.1)) scope cl C fp s H).Ok:=by
  refine⟨I.ok.mod,hkind,I.ok.glob,I.ok.blt,hC,fun x y c h1 h2=>I.ok.inj x y c (hc1 x c h1) (hc1 y c h2),fun x hx=>?_,fun x c h=>(nomatch h),I.ok.hd,I.ok.frames,.inl rfl,fun b hb=>⟨?_,fun x c h=>(hf b hb).2.2.2.2.1 x c (hc1 x c h)⟩,
   I.bs,Bi I.ok.bsz I.sz,fun b o e hb=>?_,hfs,I.stack,I.stkFree⟩
  ·rcases hx with hx|hx
   ·exact hc2 x (q3p (.inl rfl) hnc hx)
   ·exact hc2 x (q3p (.inr rfl) hnc hx)
  ·obtain⟨o,e⟩:=hfo b hb;exact Bd (Bf (An e) hC)
  ·rcases(hf b hb).2.2.2.1 with z|z
   ·exact I.ok.noex b o e z
   ·exact absurd (Bf (An (I.ok.bs b o e).1) z) (Fq _)
 refine⟨ok,rfl,I.bare,Un.kept hk,⟨m,hns,fun j x v h1 h2 h3=>?_⟩,fun x c h=>?_,I.hok.fresh hC,fun x c h=>I.freeC x c (hc1 x c h),fun p hp=>(nomatch hp),I.hok.kept hk,?_⟩
 ·have h1':(tg++caps.map (·.1))[j]?=some x:=h1;have h2':(tg.map (fun _=>none)++capV σ caps)[j]?=some (some v):=h2;by_cases hj:j<tg.length
  ·rw[Nm (by simpa using hj),Az] at h2';cases e:tg[j]? with
   |none=>grind
   |some z=>simp_all
  ·rw[Na (by simpa using hj)] at h2' h1';rw[Ac] at h2';obtain⟨i,e1,e2,e3,e4⟩:=z1c co h1' h2';obtain⟨mX,hn,hl⟩:=I.loc;obtain⟨u,r,l⟩:=hl i x v e1 e2 (.inr e4);refine⟨u,r,?_⟩;have key:∃c,X.env.cells.lookup x=some c/\s.heap.IsCell c (some u):=by
    rcases l with⟨k,_⟩|⟨_,c,e,z⟩
    ·have k':X.env.scope.names.lookup x=some .local:=k;rcases e4 with e4|e4 <;> · rw[e4] at k';cases k'
    ·exact⟨c,e,z⟩
   obtain⟨c,ec,o,ho,hd⟩:=key;obtain⟨d,ed⟩:=hc2 x (En e3);have hdc:=Bw ((hc1 x d ed).symm.trans ec);subst hdc;exact .inr ⟨q4o e3,d,ed,o,hk _ o ho,hd⟩
 ·obtain⟨v,o,ho,hd⟩:=I.cell x c (hc1 x c h);exact⟨v,o,hk _ o ho,hd⟩
 ·show(tg.map (fun _=>(none:Option V))++capV σ caps).length=(tg++caps.map (·.1)).length;rw[Ap,Ap,Ac,Ac,q5f]
def PIfs(X:Cx)(ifs:List Expr)(t:TT):Prop :=
 ∀(pins:List (Addr×Obj)) (s:Ae) (σ:St) (H:Hp) (Q:Bool->Hp->Prop),Inv X pins σ H s->t σ H Q ->
  wpAny (model X.prog X.w) X.A (forIn ifs true fun c r=>if r=true then do let ok<-isTrue c X.env (eval c X.env);pure (ForInStep.yield ok) else pure (ForInStep.yield r)) (TP X pins σ Q) X.xe s
def tIf0:TT:=fun _ H Q=>Q true H
theorem q6z:PIfs X [] tIf0:=fun pins s σ H Q I h=>wpAny_tests_nil ⟨H,I,h⟩
theorem q9v{X:Cx}{c:Expr}{t:TT}(h:PT X c t):PIfs X [c] t:=fun pins s σ H Q I q=>wpAny_tests_one (h pins s σ H Q I q)
def Keeps0(σ0 σ2:St):Prop:=σ0.length=σ2.length/\∀(i:Nat) v,σ0[i]?=some (some v)->σ2[i]?=some (some v)
def CompW(J:It)(g:TG)(tt:TT)(te:TE)(σ0:St)(D:Addr)(Fin:List V->Hp->Prop)(H1:Hp):Prop :=
 ∃W:Nat->Nat->List V->Hp->Prop,(∃m,W 0 m [] (upd H1 D (.lst [])))/\∀i m ys H,W i m ys H->H D=some (.lst ys) /\
  ((J.stop i H/\Fin ys H)\/(J.go i H/\∃N:List V->Hp->Prop,(∀zs H',N zs H'->∃m',m'<m/\W (i+1) m' zs H')/\∀x H',J.yld i H x H'->g x σ0 H' fun σ2 H2=>Keeps0 σ0 σ2/\tt σ2 H2 fun b H3 =>
   if b=true then te σ2 H3 fun v H4=>H4 D=some (.lst ys)/\ys.length<sizeLine/\N (ys++[v]) (upd H4 D (.lst (ys++[v])))
   else N ys H3))
theorem z7h{σ:St}{Fin:Addr->List V->Hp->Prop}{RR:Value->Addr->Result->Ae->Prop}(hc:X.calm=true)(hkind:scope.kind=.function)(hnc:∀y∈scope.names,y.2≠.cell)(hc1:∀x c,cl.lookup x=some c->X.env.cells.lookup x=some c)(hc2:∀x,(x,Bc.free)∈scope.names->∃c,cl.lookup x=some c)(co:CapOk X scope caps)(hg:∀C s H,PG (cxComp X (tg++caps.map (·.1)) scope cl C fp s H) target g)(ht:∀C s H,PIfs (cxComp X (tg++caps.map (·.1)) scope cl C fp s H) ifs tt)(he:∀C s H,PE (cxComp X (tg++caps.map (·.1)) scope cl C fp s H) elt te)(I2:Inv X pins σ H1 s₂)(T:Turn X.prog X.w X.K target J fp it tn)(st:tn 0 s₂.heap)(hf:∀b∈fp,FpOk X pins H1 b)(hw:∀D,H1 D=none->CompW J g tt te (tg0 tg σ caps) D (Fin D) H1)(hRR:∀D C ys H' s',H1 D=none->Inv X pins σ H' s'->(∃m,s'.heap.Ns C m)->FpOk X pins H' C->Fin D ys H'->RR (.ref D) C (.ok .next) s'):
  wpAny (model X.prog X.w) X.A (newList []) (fun acc s₃=>wpAny (model X.prog X.w) X.A (newFunctionEnv scope X.env.globals cl [] X.env.qual none .none (some X.env)) (fun cenv s₄ =>
   Fm (model X.prog X.w) X.A (.compStart (.ListComp elt [⟨target,iter,ifs,0⟩] scope pos) 0 (.ref it) acc { cenv with scope:=relabel scope X.env }) (RR acc cenv.locals) s₄) E s₃) E s₂:=by
 have I3:Inv X pins σ (upd H1 s₂.heap.objs.size (.lst [])) { s₂ with heap:=s₂.heap.push { cls:=.type "list",dict:=none,data:=.seq ([]:List Value).toArray },toks:=s₂.toks }:=I2.lnew .nil (By _);have hD0:=I2.fresh;refine Bx (Qu hnc (by intro y hy;simp at hy) (fun h₁ hns₁ hsb₁=>?_) hkind);dsimp only at hns₁ hsb₁ ⊢;generalize hDd:s₂.heap.objs.size=D at I3 hD0 hns₁ hsb₁ ⊢;generalize hs3:({ s₂ with heap:=s₂.heap.push { cls:=.type "list",dict:=none,data:=.seq ([]:List Value).toArray } }:Ae)=s₃ at I3 hns₁ hsb₁ ⊢;have e3:s₂.heap.push { cls:=.type "list",dict:=none,data:=.seq ([]:List Value).toArray }=s₃.heap:=by grind
 have o3:({ s₂ with heap:=h₁,toks:=s₂.toks+([]:List (Str×Value)).length }:Ae)={ s₃ with heap:=h₁,toks:=s₂.toks }:=by grind
 have size3:s₃.heap.objs.size=D+1:=by rw[<- e3,Hd,hDd]
 rw[e3] at hns₁ hsb₁ ⊢;have old3:∀b o,s₂.heap.get? b=some o->s₃.heap.get? b=some o:=fun b o e=>by rw[<- e3];exact Af _ e
 generalize hCd:s₃.heap.objs.size=C at hns₁ hsb₁ ⊢;have hk:=fun b o e=>hsb₁.extBut b o (by rw[<- hCd];exact Bd (An e)) (Af _ e);have fpo:∀b∈fp,∃o,s₂.heap.get? b=some o:=fun b hb=>by obtain⟨o,e,_⟩:=T.obj 0 _ st b hb;exact⟨o,e⟩
 have fpne:∀b∈fp,b≠D:=fun b hb=>by obtain⟨o,e⟩:=fpo b hb;rw[<- hDd];exact Bd (An e)
 have hf3:∀b∈fp,FpOk X pins (upd H1 D (.lst [])) b:=fun b hb=>⟨by rw[q0c (fpne b hb)];exact(hf b hb).1,(hf b hb).2⟩
 have IY:=Inv.ofcomp (tk:=s₂.toks) tg I3 hkind hnc hc1 hc2 hf3 (fun b hb=>let ⟨o,e⟩:=fpo b hb;⟨o,old3 b o e⟩) (Js hCd) hns₁ hk co;have FC:FpOk X pins H1 C:=by
  have z:=I3.fpOk (H':=H1) (Js hCd) (I2.hok.fresh (by rw[hDd,<- hCd,size3];exact Je _));exact z
 generalize hY:cxComp X (tg++caps.map (·.1)) scope cl C fp s₃ (upd H1 D (.lst []))=Y at IY;have hgY:PG Y target g:=by grind
 have htY:PIfs Y ifs tt:=by grind
 have heY:PE Y elt te:=by grind
 have hYp:Y.prog=X.prog:=by rw[<- hY];rfl
 have hYw:Y.w=X.w:=by rw[<- hY];rfl
 have hYK:Y.K=X.K:=by rw[<- hY];rfl
 have hYA:Y.A=X.A:=by rw[<- hY];rfl
 have hYe:Y.env=Fg scope cl C X.env:=by rw[<- hY];rfl
 have hYx:Y.ex=fp:=by rw[<- hY];rfl
 have hYn:Y.pn=[]:=by rw[<- hY];rfl
 have hYc:Y.calm=true:=by rw[<- hY];exact hc
 have hYxe:Y.xe=fun _ _=>False:=by rw[<- hY];rfl
 have fpY:∀{H':Hp},(∀b∈fp,H' b=none)->∀b∈fp,FpOk Y [] H' b:=fun{H'} hn b hb=>by
  refine⟨hn b hb,?_,?_,.inl (by rw[hYx];exact hb),fun x c e=>?_,fun p hp=>?_⟩
  ·have:=(IY.ok.exf b (by rw[hYx];exact hb)).1;exact this
  ·exact IY.ok.exfs b (by rw[hYx];exact hb)
  ·exact(IY.ok.exf b (by rw[hYx];exact hb)).2 x c e
  ·grind
 obtain⟨W,⟨m0,w0⟩,turn⟩:=hw D hD0;have stY:=T.keep 0 _ _ st fun b hb o e=>hk b o (old3 b o e)
 have back:∀{H':Hp} {s':Ae} {σ':St},Inv Y [] σ' H' s'->Inv X pins σ H' s':=fun{H' s' σ'} IE=>by
  have hun:=IE.base;have hos:=IE.os;rw[<- hY] at hun hos;exact I3.call' hos hun (by have z:=IE.hok;rw[hYp,hYw] at z;exact z) IE.bare fun b hb=>⟨(hf b hb).2.2.2.1,(hf b hb).2.1,(hf b hb).2.2.2.2.1,(hf b hb).2.2.2.2.2⟩
 have gY:∀pins s σ H v u Q (E':Value->Ae->Prop),Inv Y pins σ H s->RelV v u->g v σ H Q->wpAny (model X.prog X.w) X.A (assign target (Fg scope cl C X.env) u) (fun _ s'=>∃σ' H',Inv Y pins σ' H' s'/\Q σ' H') E' s:=fun pins s σ H v u Q E' IE r q=>by
  have z:=hgY pins s σ H v u Q IE r q;rw[hYp,hYw,hYA,hYe,hYxe] at z;exact Br z (fun _ _ x=>x) fun _ _ f=>f.elim
 have tY:∀pins s σ H Q (E':Value->Ae->Prop),Inv Y pins σ H s->tt σ H Q->wpAny (model X.prog X.w) X.A (forIn ifs true fun c r=>if r=true then do let ok<-isTrue c (Fg scope cl C X.env) (eval c (Fg scope cl C X.env));pure (ForInStep.yield ok) else pure (ForInStep.yield r)) (TP Y pins σ Q) E' s:=fun pins s σ H Q E' IE q=>by
  have z:=htY pins s σ H Q IE q;rw[hYp,hYw,hYA,hYe,hYxe] at z;exact Br z (fun _ _ x=>x) fun _ _ f=>f.elim
 have eY:∀pins s σ H Q (E':Value->Ae->Prop),Inv Y pins σ H s->te σ H Q->wpAny (model X.prog X.w) X.A (eval elt (Fg scope cl C X.env)) (EP Y pins σ Q) E' s:=fun pins s σ H Q E' IE q=>by
  have z:=heY pins s σ H Q IE q;rw[hYp,hYw,hYA,hYe,hYxe] at z;exact Br z (fun _ _ x=>x) fun _ _ f=>f.elim
 have aY:∀pins s σ H ys v u Q (E':Value->Ae->Prop),Inv Y pins σ H s->RelV v u->H D=some (.lst ys)->ys.length<sizeLine->Q .non (upd H D (.lst (ys++[v])))->wpAny (model X.prog X.w) X.A (call (.builtin "list.append") [.ref D,u]) (EP Y pins σ Q) E' s:=fun pins s σ H ys v u Q E' IE r hH hz q=>by
  have z:=q1x pins s σ H (.ref D) [v] (.ref D) [u] Q IE rfl (.cons r .nil) ⟨D,ys,v,rfl,rfl,hH,hz,q⟩;rw[hYp,hYw,hYA,hYxe] at z;exact Br z (fun _ _ x=>x) fun _ _ f=>f.elim
 have tiY:∀i pins s σ H (E':Value->Ae->Prop),Inv Y pins σ H s->(∀b∈fp,FpOk Y pins H b)->tn i s.heap->J.go i H ->
   wpAny (model X.prog X.w) X.A (Jq (.ref it)) (fun r s1=>∃u,r=some u /\
    wpAny (model X.prog X.w) X.A (Lr target (.ref it) u) (fun _ s2=>∃x H',Inv Y pins σ H' s2/\RelV x u/\J.yld i H x H'/\tn (i+1) s2.heap/\∀b∈fp,H' b=none) E' s1) E' s:=fun i pins s σ H E' IE hfy st go=>by
  have z:=T.item Y hYp hYw hYK hYc i pins s σ H E' IE hfy st go;rw[hYA] at z;exact z
 have tdY:∀i pins s σ H (E':Value->Ae->Prop),Inv Y pins σ H s->(∀b∈fp,FpOk Y pins H b)->tn i s.heap->J.stop i H ->
   wpAny (model X.prog X.w) X.A (Jq (.ref it)) (fun r s1=>r=none/\Inv Y pins σ H s1) E' s:=fun i pins s σ H E' IE hfy st go=>by
  have z:=T.done Y hYp hYw hYK hYc i pins s σ H E' IE hfy st go;rw[hYA] at z;exact z
 have loop:Fm (model X.prog X.w) X.A (.compLoop (.ListComp elt [⟨target,iter,ifs,0⟩] scope pos) 0 (.ref it) (.ref D) (Fg scope cl C X.env)) (RR (.ref D) C) { s₃ with heap:=h₁,toks:=s₂.toks }:=by
  refine codeAny_loop rfl (fun n s'=>∃i ys H',Inv Y [] (tg0 tg σ caps) H' s'/\tn i s'.heap/\(∀b∈fp,H' b=none)/\W i n ys H') ?_ m0 ⟨0,[],_,IY,stY,fun b hb=>(hf3 b hb).1,w0⟩;rintro n s4 ⟨i,ys,H4,I4,st4,fr4,w4⟩;refine wpAny_noted ?_;obtain⟨hHD,alt⟩:=turn i n ys H4 w4;rcases alt with⟨stop,fin⟩|⟨go,N,hN,step⟩
  ·refine Ab (Di (Ab (thn (tdY i [] s4 _ H4 _ I4 (fpY fr4) st4 stop) fun r s5 ⟨hr,I5⟩=>?_)));subst hr;refine Ad (hRR D C ys H4 s5 hD0 (back I5) ?_ ⟨?_,FC.2⟩ fin)
   ·obtain⟨m,hm,_⟩:=I5.loc;rw[hYe] at hm;exact⟨m,hm⟩
   ·have z:=I5.free;rw[hYe] at z;exact z
  ·refine Ab (Di (Ab (thn (tiY i [] s4 _ H4 _ I4 (fpY fr4) st4 go) fun r s5 ⟨u,hr,h5⟩=>?_)));subst hr;refine Ab (thn h5 fun _ s6 ⟨x,H6,I6,r6,y6,st6,fr6⟩=>?_);have I6':=I6.pinned (fpY fr6) (T.obj _ _ st6);refine Ab (thn (gY _ s6 _ H6 x u _ _ I6' r6 (step x H6 y6)) fun _ s7 ⟨σ7,H7,I7,kp,q7⟩=>?_);refine Ab (thn (tY _ s7 σ7 H7 _ _ I7 q7) fun b s8 ⟨H8,I8,q8⟩=>?_);have again:∀{H9:Hp} {s9:Ae} {zs:List V} {m':Nat},Inv Y ([]++pinsAt fp s6.heap) σ7 H9 s9->m'<n->W (i+1) m' zs H9->∃m,m<n/\∃i ys H',Inv Y [] (tg0 tg σ caps) H' s9/\tn i s9.heap/\(∀b∈fp,H' b=none)/\W i m ys H':=fun{H9 s9 zs m'} I9 hm w9=>by
    refine⟨m',hm,i+1,zs,H9,I9.unpinned.weak kp.1 kp.2,T.keep _ _ _ st6 fun b hb o e=>(I9.pin (b,o) (Bl _ (Bl _ (q1u hb e)))).1,fun b hb=>?_,w9⟩;obtain⟨o,e,d⟩:=T.obj _ _ st6 b hb;exact(I9.pin (b,o) (Bl _ (Bl _ (q1u hb e)))).2.1
   cases b with
   |true =>
    refine Ab (Ab (thn (eY _ s8 σ7 H8 _ _ I8 q8) fun v s9 ⟨vv,H9,I9,r9,hH9,hz9,n9⟩=>?_));obtain⟨m',hm',w9⟩:=hN _ _ n9;refine Ab (thn (aY _ s9 σ7 H9 ys vv v (fun _ H10=>W (i+1) m' (ys++[vv]) H10) _ I9 r9 hH9 hz9 w9) fun _ s10 ⟨_,H10,I10,_,w10⟩=>?_);exact Ad (Ad ⟨rfl,again I10 hm' w10⟩)
   |false =>
    obtain⟨m',hm',w8⟩:=hN _ _ q8;exact Ad ⟨rfl,again I8 hm' w8⟩
 rw[o3];exact codeAny_compStart_list loop (T.self _ 0 _ _ _ stY loop)
def isCF(k:Option Bc):Bool:=k==some .cell||k==some .free
def capChk(N:List Str)(names outer:List (Str×Bc)):Caps->Bool
 |[]=>true
 |(x,i)::r=>decide (N[i]?=some x)&&(names.lookup x==some .free)&&isCF (outer.lookup x)&&capChk N names outer r
def compChk(N:List Str)(outer scope:Scope)(caps:Caps):Bool :=
 (scope.kind==.function)&&(scope.names.all fun y=>y.2 != .cell&&(y.2 != .local||scope.names.lookup y.1==some .local)&&(y.2 != .free||isCF (outer.names.lookup y.1)))&&capChk N scope.names outer.names caps
theorem z4d(h:isCF k=true):k=some .cell\/k=some .free:=by
 unfold isCF at h;simpa using h
theorem q8k:∀{caps:Caps},capChk X.N scope.names X.env.scope.names caps=true->CapOk X scope caps
 |[],_=>trivial
 |(x,i)::r,h=>by
  unfold capChk at h;simp only[Od] at h;obtain⟨⟨⟨h1,h2⟩,h3⟩,h4⟩:=h;exact⟨⟨of_decide_eq_true h1,by simpa using h2,z4d h3⟩,q8k h4⟩
theorem q4e(h:compChk X.N X.env.scope scope caps=true):
  scope.kind=.function/\(∀y∈scope.names,y.2≠.cell)/\(∀y∈scope.names,y.2=.local->scope.names.lookup y.1=some .local)/\(∀x,(x,Bc.free)∈scope.names->X.env.scope.names.lookup x=some .cell\/X.env.scope.names.lookup x=some .free)/\CapOk X scope caps:=by
 unfold compChk at h;simp only[Od,Oe] at h;obtain⟨⟨h1,h2⟩,h3⟩:=h;refine⟨by simpa using h1,fun y hy e=>?_,fun y hy e=>?_,fun x hx=>?_,q8k h3⟩
 ·have z:=(h2 y hy).1.1;rw[e] at z;simp at z
 ·have z:=(h2 y hy).1.2;rw[e] at z;simpa using z
 ·have z:=(h2 _ hx).2;exact z4d (by simpa using z)
def tComp(wi:TI)(g:TG)(tt:TT)(te:TE)(tg:List Str)(caps:Caps):TE:=fun σ H Q=>wi σ H fun J H1=>∀D,H1 D=none->CompW J g tt te (tg0 tg σ caps) D (fun _ H'=>Q (.ref D) H') H1
section
variable{X:Cx}{iter target elt:Expr}{ifs:List Expr}{scope:Scope}{pos:Pos}{wi:TI}{g:TG}{tt:TT}{te:TE}
theorem q9w{σ:St}(I:Inv X pins σ H s)(hfree:∀x,(x,Bc.free)∈scope.names->X.env.scope.names.lookup x=some .cell\/X.env.scope.names.lookup x=some .free):
  ∃cl,Uv scope X.env=pure cl/\(∀x c,cl.lookup x=some c->X.env.cells.lookup x=some c)/\∀x,(x,Bc.free)∈scope.names->∃c,cl.lookup x=some c :=
 z2p fun x hx=>I.ok.has x (hfree x hx)
theorem q3v(tg:List Str)(caps:Caps)(hc:X.calm=true)(hi:PI X target iter wi)(hg:∀cl C fp s H,PG (cxComp X (tg++caps.map (·.1)) scope cl C fp s H) target g)(ht:∀cl C fp s H,PIfs (cxComp X (tg++caps.map (·.1)) scope cl C fp s H) ifs tt)(he:∀cl C fp s H,PE (cxComp X (tg++caps.map (·.1)) scope cl C fp s H) elt te)(hk:compChk X.N X.env.scope scope caps=true:=by rfl)(hs:∀x,Kn iter X.env x=pure x:=by intro _;rfl):
  PE X (.ListComp elt [⟨target,iter,ifs,0⟩] scope pos) (tComp wi g tt te tg caps):=by
 intro pins s σ H Q I h;obtain⟨hkind,hnc,hnames,hfree,co⟩:=q4e hk;obtain⟨cl,hclos,hc1,hc2⟩:=q9w I hfree;refine Jw rfl hs hclos hkind hnames (thn (hi pins s σ H _ I h) fun v s1 h1=>thn h1 fun itv s2 h2=>?_);obtain⟨it,fp,tn,J,H2,e,I2,T,st2,f2,hw⟩:=h2;subst e;refine z7h hc hkind hnc hc1 hc2 co (fun C s H=>hg cl C fp s H) (fun C s H=>ht cl C fp s H) (fun C s H=>he cl C fp s H) I2 T st2 f2 hw ?_;intro D C ys H' s' hD I' hm F fin;obtain⟨m,hm⟩:=hm;refine⟨m,hm,fun h' hsb=>⟨.ref D,H',I'.turned (t':=s'.toks) (fun b o hb e=>(hsb.2 b hb).trans e) F.1 F.2.1 F.2.2.2.1 F.2.2.2.2.1 F.2.2.2.2.2,rfl,fin⟩⟩
end
theorem q9x{Fin:List V->Hp->Prop}(Pv:Nat->List V->Hp->Prop)(h0:Pv 0 [] (upd H1 D (.lst [])))(hl:∀i ys H,Pv i ys H->H D=some (.lst ys))(hgo:∀i ys H,i<n->Pv i ys H->J.go i H)(hstop:∀ys H,Pv n ys H->J.stop n H)(hs:∀i ys H x H',i<n->Pv i ys H->J.yld i H x H'->g x σ0 H' fun σ2 H2=>Keeps0 σ0 σ2/\tt σ2 H2 fun b H3 =>
   if b=true then te σ2 H3 fun v H4=>H4 D=some (.lst ys)/\ys.length<sizeLine/\Pv (i+1) (ys++[v]) (upd H4 D (.lst (ys++[v]))) else Pv (i+1) ys H3)(hd:∀ys H,Pv n ys H->Fin ys H):CompW J g tt te σ0 D Fin H1:=by
 refine⟨fun i m ys H=>m=n-i/\i<=n/\Pv i ys H,⟨n,by simp,By _,h0⟩,?_⟩;rintro i m ys H ⟨rfl,hi,p⟩;refine⟨hl i ys H p,?_⟩;by_cases hlt:i<n
 ·exact .inr ⟨hgo i ys H hlt p,Pv (i+1),fun zs H' q=>⟨n-(i+1),by lia,rfl,hlt,q⟩,fun x H' y=>hs i ys H x H' hlt p y⟩
 ·grind
theorem z2q{lo:Int}{Fin:List V->Hp->Prop}(Pv:Nat->List V->Hp->Prop)(h0:Pv 0 [] (upd H1 D (.lst [])))(hl:∀i ys H,Pv i ys H->H D=some (.lst ys))(hs:∀i ys H,i<n->Pv i ys H->g (.int (lo+i)) σ0 H fun σ2 H2=>Keeps0 σ0 σ2/\tt σ2 H2 fun b H3 =>
   if b=true then te σ2 H3 fun v H4=>H4 D=some (.lst ys)/\ys.length<sizeLine/\Pv (i+1) (ys++[v]) (upd H4 D (.lst (ys++[v]))) else Pv (i+1) ys H3)(hd:∀ys H,Pv n ys H->Fin ys H):CompW (Itr lo n) g tt te σ0 D Fin H1 :=
 q9x Pv h0 hl (fun i ys H h _=>h) (fun ys H _=>Am _) (fun i ys H x H' h p y=>by obtain⟨e,y⟩:=y;subst e y;exact hs i ys _ h p) hd
theorem q5g{K:Ai}{Fin:List V->Hp->Prop}(Pv:Nat->List V->Hp->Prop)(h0:Pv 0 [] (upd H1 D (.lst [])))(hl:∀i ys H,Pv i ys H->H D=some (.lst ys)/\SqL K H a xs)(hs:∀i ys H x,xs[i]?=some x->Pv i ys H->g x σ0 H fun σ2 H2=>Keeps0 σ0 σ2/\tt σ2 H2 fun b H3 =>
   if b=true then te σ2 H3 fun v H4=>H4 D=some (.lst ys)/\ys.length<sizeLine/\Pv (i+1) (ys++[v]) (upd H4 D (.lst (ys++[v]))) else Pv (i+1) ys H3)(hd:∀ys H,Pv xs.length ys H->Fin ys H):CompW (Itl K a) g tt te σ0 D Fin H1 :=
 q9x Pv h0 (fun i ys H p=>(hl i ys H p).1) (fun i ys H h p=>⟨xs,xs[i],(hl i ys H p).2,by simp[h]⟩) (fun ys H p=>⟨xs,(hl _ ys H p).2,Am _⟩)
  (fun i ys H x H' h p y=>by obtain⟨e,y⟩:=y;subst e;exact hs i ys _ x (y xs (hl i ys _ p).2) p) hd
theorem q4f{r:St}:Keeps0 (none::r) (v::r):=⟨rfl,fun i w h=>by
 cases i with
 |zero=>cases h
 |succ i=>exact h⟩
theorem q3g{r:St}:Keeps0 (none::none::r) (v::w::r):=⟨rfl,fun i u h=>by
 cases i with
 |zero=>cases h
 |succ i=>cases i with
  |zero=>cases h
  |succ i=>exact h⟩
open PySem PySem.Spec PyProof.Rows
section
variable{X:Cx}
def rSlS:V->Option Int->Option Int->Hp->VK->Prop:=fun x lo hi H Q=>∃z,x=.str z/\z.length<=sizeLine/\Q (.str (Oy z lo hi)) H
theorem q5h(h:Kv v o):∃p:Option (Int×Tok),v=partValue p/\o=p.map (·.1):=by
 cases h with
 |none=>exact⟨none,rfl,rfl⟩
 |int i t=>exact⟨some (i,t),rfl,rfl⟩
theorem sl_str:SlR X rSlS:=by
 intro pins s σ H x v vl vu lo hi sl Q I rx hs pl pu h;obtain⟨z,rfl,hz,q⟩:=h;obtain⟨t,rfl⟩:=rx;obtain⟨p1,rfl,rfl⟩:=q5h pl;obtain⟨p2,rfl,rfl⟩:=q5h pu;refine⟨"str",_,F.slot_str_getitem.lookup,Qr _ _ _,wpAny_getItem_str_slice (st:=none) hs rfl
  (post_val_or_str ⟨Bi (Txt.slice_le z _ _) hz,fun t' k=>⟨.str (Oy z (p1.map (·.1)) (p2.map (·.1))),H,I.tok _,⟨t',rfl⟩,q⟩⟩)⟩
def rLower:V->List V->Hp->VK->Prop:=fun x vs H Q=>∃z,x=.str z/\vs=[]/\3*z.length<=sizeLine/\Q (.str (Txt.lower z)) H
theorem fit3(h:n<=3*m)(h2:3*m<=sizeLine):Cs.Str.tooLong n=false:=by
 exact decide_eq_false (by lia)
theorem q4u:MtM X "str.lower" rLower:=by
 intro pins s σ H x vs v us Q I rx rv h;obtain⟨z,rfl,rfl,hz,q⟩:=h;obtain⟨t,rfl⟩:=rx;cases rv.zero;exact SC.lower (fit3 (len_lower z) hz) ⟨.str _,H,I.tok _,⟨_,rfl⟩,q⟩
def rUpper:V->List V->Hp->VK->Prop:=fun x vs H Q=>∃z,x=.str z/\vs=[]/\3*z.length<=sizeLine/\Q (.str (Txt.upper z)) H
theorem z1d:MtM X "str.upper" rUpper:=by
 intro pins s σ H x vs v us Q I rx rv h;obtain⟨z,rfl,rfl,hz,q⟩:=h;obtain⟨t,rfl⟩:=rx;cases rv.zero;exact SC.upper (fit3 (len_upper z) hz) ⟨.str _,H,I.tok _,⟨_,rfl⟩,q⟩
theorem q4g:∀{ys:List Str} {us:List Value},Vals (ys.map V.str) us->Ho us ys
 |[],_,.nil=>.nil
 |y::ys,_,.cons r t=>by obtain⟨k,rfl⟩:=r;exact .cons y k (q4g t)
def rJoin(K:Ai):V->List V->Hp->VK->Prop:=fun x vs H Q=>∃(z:Str) (p:Addr) (ys:List Str),x=.str z/\vs=[.ref p]/\(SqL K H p (ys.map V.str)\/SqT K H p (ys.map V.str))/\(ys.map (·.length)).sum+ys.length*z.length<=16777216/\Q (.str (Uc z ys)) H
theorem z9u:MtM X "str.join" (rJoin X.K):=by
 intro pins s σ H x vs v us Q I rx rv h;obtain⟨z,p,ys,rfl,rfl,hq,hz,q⟩:=h;obtain⟨t,rfl⟩:=rx;obtain⟨u,rfl,ru⟩:=rv.one;cases ru;rcases hq with hq|hq
 ·obtain⟨its,r,pl,_⟩:=I.list hq;exact join_list pl.isList (q4g (by simpa using r)) hz fun t' k=>⟨.str _,H,I.tok _,⟨_,rfl⟩,q⟩
 ·obtain⟨its,r,pl,_⟩:=I.tuple hq;exact join_tuple pl (q4g (by simpa using r)) hz fun t' k=>⟨.str _,H,I.tok _,⟨_,rfl⟩,q⟩
def rMulS:R2:=fun x y H Q=>∃z n,x=.str z/\y=.int n/\MulOk z n/\Q (.str (Txt.mul z n)) H
theorem op_mulS:OpR X (Gd .Mult) rMulS:=by
 intro pins s σ H x y v u Q I rx ry h;obtain⟨z,n,rfl,rfl,hm,q⟩:=h;obtain⟨t,rfl⟩:=rx;obtain⟨t',rfl⟩:=ry;exact SB.mul hm fun t2 k=>⟨.str _,H,I.tok _,⟨_,rfl⟩,q⟩
theorem q9y:CallR X (.builtin "isinstance") (fun xs H Q=>∃x c t b,xs=[x,.ty c]/\TyOf X.K H x t/\Gs X.K t (.type c)=some b/\Q (.bl b) H):=by
 intro pins s σ H xs us Q I r h;obtain⟨x,c,t,b,rfl,ty,e,q⟩:=h;obtain⟨u,v,rfl,ru,rv⟩:=r.two;cases rv;exact z3w I ru ty e fun tk=>⟨.bl b,H,I.tok _,rfl,q⟩
def Its(z:Str):It:=⟨fun i _=>i<z.length,fun i H x H'=>H'=H/\∃c,z.cps[i]?=some c/\x=.str ⟨#[c]⟩,fun i _=>z.length<=i⟩
end
theorem z4e{K:Ai}(it:Addr)(z:Str)(t:Tok):Turn P w K tg (Its z) [it] it (fun i h=>i<=z.length/\h.IsStrIter it "str_ascii_iterator" z t i) where
 mem:=by simp
 obj:=fun i h st b hb=>by
  have e:b=it:=by grind
  subst e;obtain⟨_,o,e,c,d⟩:=st;exact⟨o,e,fun v z=>by rw[d] at z;cases z⟩
 keep:=fun i h h' st k=>⟨st.1,let ⟨o,e,c,d⟩:=st.2;⟨o,k it (by simp) o e,c,d⟩⟩
 item:=by
  intro X hP hw hK hc i pins s σ H E I hf st hg;obtain⟨f0,f1,f2,f3,f4,f5⟩:=hf it (by simp);have hi:i<z.cps.size:=hg;refine wpAny_pyNext_ascii_item st.2 (c:=z.cps[i]) (by simp[hi]) fun h' hit' hs'=>?_;have I1:Inv X pins σ H { s with heap:=h',toks:=s.toks+1 }:=I.turned (fun b o hb e=>(hs'.2 b hb).trans e) f0 f1 f3 f4 f5;obtain⟨o,e,c,d⟩:=id hit';exact⟨_,rfl,z2c e c d (by decide) ⟨.str ⟨#[z.cps[i]]⟩,H,I1,⟨_,rfl⟩,⟨rfl,_,by simp[hi],rfl⟩,⟨hg,hit'⟩,fun b hb=>(hf b hb).1⟩⟩
 done:=by
  intro X hP hw hK hc i pins s σ H E I hf st hg;obtain⟨f0,f1,f2,f3,f4,f5⟩:=hf it (by simp);have hi:z.cps.size<=i:=hg;exact wpAny_pyNext_ascii_end (I.ok.hd hc) st.2 (by simp;lia) fun h' eb=>⟨rfl,I.turned (t':=s.toks) (fun b o hb e=>eb b o hb e) f0 f1 f3 f4 f5⟩
 self:=fun _ _ _ _ _ st h=>wpAny_pyIter_striter_ascii st.2 h
theorem z4f{K:Ai}(it:Addr)(z:Str)(t:Tok):Turn P w K tg (Its z) [it] it (fun i h=>i<=z.length/\h.IsStrIter it "str_iterator" z t i) where
 mem:=by simp
 obj:=fun i h st b hb=>by
  have e:b=it:=by grind
  subst e;obtain⟨_,o,e,c,d⟩:=st;exact⟨o,e,fun v z=>by rw[d] at z;cases z⟩
 keep:=fun i h h' st k=>⟨st.1,let ⟨o,e,c,d⟩:=st.2;⟨o,k it (by simp) o e,c,d⟩⟩
 item:=by
  intro X hP hw hK hc i pins s σ H E I hf st hg;obtain⟨f0,f1,f2,f3,f4,f5⟩:=hf it (by simp);have hi:i<z.cps.size:=hg;refine wpAny_pyNext_wide_item st.2 (c:=z.cps[i]) (by simp[hi]) fun h' hit' hs'=>?_;have I1:Inv X pins σ H { s with heap:=h',toks:=s.toks+1 }:=I.turned (fun b o hb e=>(hs'.2 b hb).trans e) f0 f1 f3 f4 f5;obtain⟨o,e,c,d⟩:=id hit';exact⟨_,rfl,z2c e c d (by decide) ⟨.str ⟨#[z.cps[i]]⟩,H,I1,⟨_,rfl⟩,⟨rfl,_,by simp[hi],rfl⟩,⟨hg,hit'⟩,fun b hb=>(hf b hb).1⟩⟩
 done:=by
  intro X hP hw hK hc i pins s σ H E I hf st hg;obtain⟨f0,f1,f2,f3,f4,f5⟩:=hf it (by simp);have hi:z.cps.size<=i:=hg;exact wpAny_pyNext_wide_end (I.ok.hd hc) st.2 (by simp;lia) fun h' eb=>⟨rfl,I.turned (t':=s.toks) (fun b o hb e=>eb b o hb e) f0 f1 f3 f4 f5⟩
 self:=fun _ _ _ _ _ st h=>wpAny_pyIter_striter_wide st.2 h
theorem z7i{Fin:List V->Hp->Prop}(Pv:Nat->List V->Hp->Prop)(h0:Pv 0 [] (upd H1 D (.lst [])))(hl:∀i ys H,Pv i ys H->H D=some (.lst ys))(hs:∀i ys H c,z.cps[i]?=some c->Pv i ys H->g (.str ⟨#[c]⟩) σ0 H fun σ2 H2=>Keeps0 σ0 σ2/\tt σ2 H2 fun b H3 =>
   if b=true then te σ2 H3 fun v H4=>H4 D=some (.lst ys)/\ys.length<sizeLine/\Pv (i+1) (ys++[v]) (upd H4 D (.lst (ys++[v]))) else Pv (i+1) ys H3)(hd:∀ys H,Pv z.length ys H->Fin ys H):CompW (Its z) g tt te σ0 D Fin H1 :=
 q9x Pv h0 hl (fun i ys H h _=>h) (fun ys H _=>Am _) (fun i ys H x H' h p y=>by obtain⟨e,c,hc,y⟩:=y;subst e y;exact hs i ys _ c hc p) hd
open PySem PySem.Spec PyProof.Rows
structure Vw (K:Ai) (H:Hp) (h:Heap):Prop where
 lst:∀a xs,SqL K H a xs->∃its:List Value,Vals xs its/\h.IsList a its.toArray
 tup:∀a xs,SqT K H a xs->∃its:List Value,Vals xs its/\h.IsTuple a its.toArray
theorem SqL.ne{K:Ai}(h:SqL K H a xs)(hb:H b=none)(hk:K.lookup b=none):a≠b:=by
 rintro rfl;rcases h with(h|⟨o,h⟩)|⟨o,_,_,h,_⟩
 ·rw[hb] at h;cases h
 ·rw[hb] at h;cases h
 ·rw[hk] at h;cases h
theorem SqT.ne{K:Ai}(h:SqT K H a xs)(hb:H b=none)(hk:K.lookup b=none):a≠b:=by
 rintro rfl;rcases h with(h|⟨o,h⟩)|⟨o,_,_,h,_⟩
 ·rw[hb] at h;cases h
 ·rw[hb] at h;cases h
 ·rw[hk] at h;cases h
theorem Vw.linj{K:Ai}(v:Vw K H h)(p:SqL K H a xs)(q:SqL K H a ys):xs=ys:=by
 obtain⟨its,r,o,e,_,n,d⟩:=v.lst a xs p;obtain⟨its',r',o',e',_,n',d'⟩:=v.lst a ys q;have:its=its':=by grind
 subst this;exact r.inj r'
theorem Inv.vw{σ:St}(I:Inv X pins σ H s):Vw X.K H s.heap :=
 ⟨fun a xs q=>let ⟨its,r,l,_⟩:=I.list q;⟨its,r,l.isList⟩,fun a xs q=>let ⟨its,r,l,_⟩:=I.tuple q;⟨its,r,l⟩⟩
structure Srce (P:Program) (w:World) (K:Ai) (J:It) (it:Addr) (st:Nat->Heap->Prop):Prop where
 obj:∀i h,st i h->∃o,h.get? it=some o/\∀v,o.data≠.cell v
 keep:∀i h h',st i h->(∀o,h.get? it=some o->h'.get? it=some o)->st i h'
 item:∀(A:Around) (i:Nat) (s:Ae) (H:Hp) (Q:Value->Ae->Prop) (E:Value->Ae->Prop),A.handled=none->Vw K H s.heap->H it=none->K.lookup it=none->st i s.heap->J.go i H ->
  (∀u x h' tk,RelV x u->J.yld i H x H->st (i+1) h'->Ep it s.heap h'->Q u { s with heap:=h',toks:=tk })->wpAny (model P w) A (Nq (.ref it)) Q E s
 done:∀(A:Around) (i:Nat) (s:Ae) (H:Hp) (Q:Value->Ae->Prop) (E:Value->Ae->Prop),A.handled=none->Vw K H s.heap->H it=none->K.lookup it=none->st i s.heap->J.stop i H ->
  (∀h' e,Ts it s.heap h'->(∃o,h'.get? e=some o/\o.cls=.type "StopIteration")->E (.ref e) { s with heap:=h' })->wpAny (model P w) A (Nq (.ref it)) Q E s
theorem z4g{K:Ai}(a it:Addr):Srce P w K (Itl K a) it (fun i h=>h.IsListIter it a i) where
 obj:=fun i h st=>by obtain⟨o,e,c,d⟩:=st;exact⟨o,e,fun v z=>by rw[d] at z;cases z⟩
 keep:=fun i h h' st k=>st.at fun o e=>k o e
 item:=fun A i s H Q E hh vw hn hk st go hQ=>by
  obtain⟨xs,x,hq,hx⟩:=go;obtain⟨its,rv,p⟩:=vw.lst a xs hq;obtain⟨u,hu,ru⟩:=rv.get hx;refine wpAny_nextOf_list_item st p (by simpa using hu) fun h' st' sb=>?_
  exact hQ u x h' s.toks ru ⟨rfl,fun ys hy=>by rw[vw.linj hy hq];exact hx⟩ st' sb
 done:=fun A i s H Q E hh vw hn hk st stop hE=>by
  obtain⟨xs,hq,hx⟩:=stop;obtain⟨its,rv,p⟩:=vw.lst a xs hq;have hl:=rv.length;exact wpAny_nextOf_list_end hh st p (by simp;lia) hE
def stStr(it:Addr)(z:Str)(t:Tok)(i:Nat)(h:Heap):Prop:=h.IsStrIter it (Jg z) z t i
theorem z7j{K:Ai}(it:Addr)(z:Str)(t:Tok):Srce P w K (Its z) it (stStr it z t) where
 obj:=fun i h st=>by obtain⟨o,e,c,d⟩:=st;exact⟨o,e,fun v z=>by rw[d] at z;cases z⟩
 keep:=fun i h h' st k=>by obtain⟨o,e,r⟩:=st;exact⟨o,k o e,r⟩
 item:=fun A i s H Q E hh vw hn hk st go hQ=>by
  have hi:i<z.cps.size:=go;unfold stStr Jg at st;cases ha:z.cps.all (· < 128)
  ·rw[ha] at st;refine wpAny_nextOf_wide_item st (c:=z.cps[i]) (by simp[hi]) fun h' hit' hs'=>?_;exact hQ _ (.str ⟨#[z.cps[i]]⟩) h' (s.toks+1) ⟨_,rfl⟩ ⟨rfl,_,by simp[hi],rfl⟩ (by unfold stStr Jg;rw[ha];exact hit') hs'
  ·rw[ha] at st;refine wpAny_nextOf_ascii_item st (c:=z.cps[i]) (by simp[hi]) fun h' hit' hs'=>?_;exact hQ _ (.str ⟨#[z.cps[i]]⟩) h' (s.toks+1) ⟨_,rfl⟩ ⟨rfl,_,by simp[hi],rfl⟩ (by unfold stStr Jg;rw[ha];exact hit') hs'
 done:=fun A i s H Q E hh vw hn hk st stop hE=>by
  have hi:z.cps.size<=i:=stop;unfold stStr Jg at st;cases ha:z.cps.all (· < 128)
  ·rw[ha] at st;exact wpAny_nextOf_wide_end hh st (by simp;lia) hE
  ·rw[ha] at st;exact wpAny_nextOf_ascii_end hh st (by simp;lia) hE
theorem Inv.turnedL{σ:St}{ch:List Addr}(I:Inv X pins σ H s)(k:∀b o,b∉ch->s.heap.get? b=some o->h'.get? b=some o)(hf:∀b∈ch,FpOk X pins H b):Inv X pins σ H { s with heap:=h',toks:=t' }:=by
 have nit:∀b u,H b=some u->b∉ch:=fun b u e z=>by rw[(hf b z).1] at e;cases e
 refine I.step (g':=s.gens) (d':=s.drawn) (fun b hb=>?_) (fun b o _ _ hc e _=>k b o hc e) (fun b o _ _ hc e _=>⟨o.slots,k b o hc e⟩) (fun _ _ _ _ n=>n)
  (fun b o hc e=>?_) (fun _ _ e=>e) (fun _ _ _ e=>e) (fun b ps e=>⟨#[],by rw[e];simp⟩) (fun m hm=>?_) (fun b u e=>?_) I.bare
 ·exact⟨(hf b hb).2.2.2.1,(hf b hb).2.1,(hf b hb).2.2.2.2.1,(hf b hb).2.2.2.2.2⟩
 ·exact⟨o,k b o hc e⟩
 ·obtain⟨o,es,ep,ho,r⟩:=hm;exact⟨o,es,ep,k _ o (fun z=>(hf _ z).2.1 rfl) ho,r⟩
 ·refine(I.hok b u e).stay (fun c v hc q=>k c v ?_ q) (fun _ q=>q) fun _ _ q=>q;rcases hc with z|z
  ·rw[z];exact nit b u e
  ·exact nit c _ z
theorem Inv.track{σ:St}{T:Addr}(I:Inv X pins σ H s)(hT:X.s₀.heap.objs.size<=T)(hF:FpOk X pins H T)(new:ObjOk X.prog X.w (upd H T o) s.heap T o):Inv X pins σ (upd H T o) s:=by
 have hn:=hF.1;refine⟨I.ok,I.os,I.bare,⟨I.base.keep,I.base.slot,fun b ob e n hx=>?_,I.base.there,fun b xs e=>?_,fun b ob u e=>?_,fun b ps e=>?_⟩,I.loc,I.cell,?_,fun x c e=>?_,fun p hp=>?_,fun b u e=>?_,I.len⟩
 ·rw[q0c (Bd (Bf (An e) hT))];exact I.base.free b ob e n hx
 ·have z:=I.base.tups b xs e;rw[q0c (q0j z hn)];exact z
 ·have z:=I.base.frzs b ob u e;rw[q0c (q0j z hn)];exact z
 ·obtain⟨m,z⟩:=I.base.tbls b ps e;exact⟨m,by rw[q0c (q0j z hn)];exact z⟩
 ·rw[q0c (Bo hF.2.1)];exact I.free
 ·rw[q0c (hF.2.2.2.2.1 x c e)];exact I.freeC x c e
 ·obtain⟨e,n,ne,nf,d⟩:=I.pin p hp;exact⟨e,by rw[q0c (hF.2.2.2.2.2 p hp)];exact n,ne,nf,d⟩
 ·by_cases hb:b=T
  ·subst hb;rw[q0b] at e;cases e;exact new
  ·rw[q0c hb] at e;exact(I.hok b u e).stay (fun _ _ _ q=>q) (fun c q=>by rw[q0c (q0j q hn)];exact q) fun c xs q=>by rw[q0c (q0j q hn)];exact q
theorem FpOk.noK{σ:St}(I:Inv X pins σ H' s)(f:FpOk X pins H b):X.K.lookup b=none:=by
 cases e:X.K.lookup b with
 |none=>rfl
 |some o =>
  have e1:=I.ok.mod.kin b o e;rcases f.2.2.2.1 with z|z
  ·exact absurd z (I.ok.noex b o e1)
  ·exact absurd (Bf (An (I.ok.bs b o e1).1) z) (Fq _)
abbrev zs1(h:Heap)(x:Str)(t:Tok):Heap:=h.push { cls:=.type (Jg x),data:=.fields #[.str x t,.int 0 0] }
abbrev zs2(h:Heap)(x y:Str)(t u:Tok):Heap:=(zs1 h x t).push { cls:=.type (Jg y),data:=.fields #[.str y u,.int 0 0] }
abbrev zs3(h:Heap)(x y:Str)(t u:Tok):Heap:=(zs2 h x y t u).push { cls:=.type "tuple",data:=.seq #[.ref h.objs.size,.ref (zs1 h x t).objs.size] }
abbrev zs4(h:Heap)(x y:Str)(t u:Tok):Heap:=(zs3 h x y t u).push { cls:=.type "tuple",data:=.seq #[.none,.none] }
abbrev zs5(h:Heap)(x y:Str)(t u:Tok):Heap:=(zs4 h x y t u).push { cls:=.type "zip",data:=.fields #[.none,.bool false,.bool false,.ref (zs2 h x y t u).objs.size,.ref (zs3 h x y t u).objs.size] }
set_option maxHeartbeats 4000000 in
section
variable{X:Cx}{elts:List Expr}{kk:Nat}{tpos:Pos}
theorem z8y{J:It}{g:TG}{tb:TS}{D:Ends}(Pv:Nat->St->Hp->Prop)(h0:Pv 0 σ H)(hgo:∀i σ H,i<n->Pv i σ H->J.go i H)(hstop:∀σ H,Pv n σ H->J.stop n H)(hs:∀i x σ H H',i<n->Pv i σ H->J.yld i H x H'->g x σ H' fun σ2 H2=>tb { D with nx:=Pv (i+1),ct:=Pv (i+1),bk:=D.nx } σ2 H2)(hd:∀σ H,Pv n σ H->D.nx σ H):
  ∃W:Nat->Nat->St->Hp->Prop,(∃m,W 0 m σ H)/\∀i m σ H,W i m σ H ->
   (J.stop i H/\D.nx σ H)\/(J.go i H/\∃N:St->Hp->Prop,(∀σ' H',N σ' H'->∃m',m'<m/\W (i+1) m' σ' H')/\∀x H',J.yld i H x H'->g x σ H' fun σ2 H2=>tb { D with nx:=N,ct:=N,bk:=D.nx } σ2 H2):=by
 refine⟨fun i m σ H=>m=n-i/\i<=n/\Pv i σ H,⟨n,by simp,By _,h0⟩,?_⟩;rintro i m σ H ⟨rfl,hi,p⟩;by_cases hlt:i<n
 ·exact .inr ⟨hgo i σ H hlt p,Pv (i+1),fun σ' H' p'=>⟨n-(i+1),by lia,rfl,hlt,p'⟩,fun x H' y=>hs i x σ H H' hlt p y⟩
 ·grind
end
open PySem PySem.Spec PyProof.Rows
structure Cal (P:Program) (w:World) (K:Ai) (mg:Str->Option Value) (base:Heap) (x:Str) (k:Nat) (ps:List Str) (sp:Sp):Prop where
 ex:∃f fd,FnOk P w K mg base CX0 k f fd ps sp/\mg x=some (.ref f)/\Ej K (.ref f)=true/\Binds K fd ps []
structure Df (K:Ai) (mg:Str->Option Value) (x:Str) (st:Stmt) (ps:List Str):Prop where
 ex:∃f fd,Fun K x x st f fd/\mg x=some (.ref f)/\Binds K fd ps []
theorem Df.cal{K:Ai}{st:Stmt}(D:Df K mg x st ps)(S:FnScope N ps (defScope st))(len:∀vs H Q E,sp vs H Q E->vs.length=ps.length)(hbody:∀(f:Addr) (cdv:Value) (A:Around) (outer:List Env) (s:Ae) (H:Hp) (vs:List V) (Q:VK) (E:XK),Room k (A.deeper (Ga x (defScope st) s.heap.objs.size f cdv))->sp vs H Q E ->
   ∃t,PSs (cxOf CX0 P w K mg base N x (defScope st) f cdv A outer s H E).nox (defBody st) t/\t { nx:=fun _ H'=>Q .non H',rt:=Q } (start N vs) H):Cal P w K mg base x (k+1) ps sp:=by
 obtain⟨f,fd,F,hm,hb⟩:=D.ex;exact⟨f,fd,F.ok S len fun cdv A outer s H vs Q E hr h=>hbody f cdv A outer s H vs Q E hr h,hm,F.kp,hb⟩
theorem Cal.imp{K:Ai}(C:Cal P w K mg base x k ps sp)(h:∀vs H Q E,sp' vs H Q E->sp vs H Q E):Cal P w K mg base x k ps sp':=by
 obtain⟨f,fd,F,r⟩:=C.ex;exact⟨f,fd,F.imp h,r⟩
section
variable{X:Cx}{x:Str}{k j:Nat}{ps:List Str}{sp:Sp}{p pos:Pos}{e:Expr}{es:List Expr}{t:TA}
theorem pe_c(C:Cal X.prog X.w X.K X.mg X.base x k ps sp)(hr:Room j X.A)(ha:PA X (e::es) t)(hjk:k<=j:=by decide)(hg:Gl X x:=by rfl)(hdb:(x==("__debug__" : Str))=false:=by decide)(he:Ba (e::es) X.env=(false,eval e X.env)::Ba es X.env:=by rfl)(hpl:(Dq pos (Ba es X.env)).any (·.1)=false:=by rfl):
  PE X (.Call (.Name x p) (e::es) [] pos) (tCall sp [] E0 t):=by
 obtain⟨f,fd,F,hm,hk,hb⟩:=C.ex;exact z9q F (hr.mono hjk) hg hm hk hb .nil pass0 ha hdb he hpl
theorem pe_c0(C:Cal X.prog X.w X.K X.mg X.base x k ps sp)(hr:Room j X.A)(hjk:k<=j:=by decide)(hg:Gl X x:=by rfl)(hdb:(x==("__debug__" : Str))=false:=by decide):
  PE X (.Call (.Name x p) [] [] pos) (tCall sp [] E0 tNil):=by
 obtain⟨f,fd,F,hm,hk,hb⟩:=C.ex;exact z7a F (hr.mono hjk) hg hm hk hb .nil pass0 hdb
end
theorem PI.or(h1:PI X tg l w1)(h2:PI X tg l w2):PI X tg l (fun σ H R=>w1 σ H R\/w2 σ H R):=by
 intro pins s σ H R I h;rcases h with h|h
 ·exact h1 pins s σ H R I h
 ·exact h2 pins s σ H R I h
structure FeedAt (H:Hp) (a b:Addr):Prop where
 fa:∃i j:Int,H a=some (.lst [.ref b,.int i,.int j])
 fb:∃ns:List Int,H b=some (.lst (ns.map V.int))
structure Fd (a b:Addr) (H H':Hp):Prop where
 feed:FeedAt H' a b
 keep:∀c o,H c=some o->c≠a->H' c=some o
theorem FeedAt.ne(F:FeedAt H a b):b≠a:=by
 obtain⟨⟨i,j,h⟩,ns,h'⟩:=F;refine q9u h' h ?_;intro z;cases ns with
 |nil=>cases z
 |cons n r=>simp at z
theorem Fd.refl(F:FeedAt H a b):Fd a b H H:=⟨F,fun _ _ h _=>h⟩
theorem Fd.trans(x:Fd a b H H1)(y:Fd a b H1 H2):Fd a b H H2:=⟨y.feed,fun c o h hc=>y.keep c o (x.keep c o h hc) hc⟩
theorem Fd.free(x:Fd a b H H')(h:H' p=none):H p=none:=by
 cases e:H p with
 |none=>rfl
 |some o =>
  by_cases hp:p=a
  ·subst hp;obtain⟨i,j,q⟩:=x.feed.fa;rw[h] at q;cases q
  ·rw[x.keep p o e hp] at h;cases h
theorem FeedAt.upd(F:FeedAt H a b)(ha:a≠p)(hb:b≠p):FeedAt (upd H p o) a b :=
 ⟨let ⟨i,j,h⟩:=F.fa;⟨i,j,by rw[q0c ha];exact h⟩,let ⟨ns,h⟩:=F.fb;⟨ns,by rw[q0c hb];exact h⟩⟩
theorem FeedAt.na(F:FeedAt H a b)(h:H p=none):a≠p:=by obtain⟨i,j,q⟩:=F.fa;exact q0j q h
theorem FeedAt.nb(F:FeedAt H a b)(h:H p=none):b≠p:=by obtain⟨ns,q⟩:=F.fb;exact q0j q h
theorem Fd.put(x:Fd a b H H')(F:FeedAt H a b)(h:H p=none):Fd a b H (upd H' p o) :=
 ⟨x.feed.upd (F.na h) (F.nb h),fun c u e hc=>by rw[q0c (q0j e h)];exact x.keep c u e hc⟩
theorem Fd.new(x:Fd a b H H')(h:H' p=none):Fd a b H (upd H' p o) :=
 ⟨x.feed.upd (x.feed.na h) (x.feed.nb h),fun c u e hc=>by rw[q0c (q0j (x.keep c u e hc) h)];exact x.keep c u e hc⟩
theorem Fd.at(x:Fd a b H H')(h:H c=some o)(hc:c≠a):H' c=some o:=x.keep c o h hc
theorem Fd.same(x:Fd a b H H')(s:Same H' H2):Fd a b H H2 :=
 ⟨⟨let ⟨i,j,h⟩:=x.feed.fa;⟨i,j,s _ _ h⟩,let ⟨ns,h⟩:=x.feed.fb;⟨ns,s _ _ h⟩⟩,fun c o e hc=>s _ _ (x.keep c o e hc)⟩
theorem Same.new(s:Same H H')(h:H' p=none):Same H (upd H' p o):=fun c u e=>by rw[q0c (q0j (s c u e) h)];exact s c u e
theorem Same.put(s:Same H H')(h:H p=none):Same H (upd H' p o):=fun c u e=>by rw[q0c (q0j e h)];exact s c u e
def spDraw:Sp:=fun vs H Q _=>∃a b m,vs=[.ref a,.int m]/\FeedAt H a b/\0<m/\m<1073741824/\∀(r:Int) H',0<=r->r<m->Fd a b H H'->Q (.int r) H'
def spConst(x:Str):Sp:=fun vs H Q _=>vs=[]/\Q (.str x) H
theorem z9v{xs:List α}(i:Int)(h:xs≠[]):∃x,x∈xs/\atI xs (i%(xs.length:Int))=some x:=by
 have hl:0<(xs.length:Int):=by
  cases xs with
  |nil=>exact absurd rfl h
  |cons a r=>grind
 have h0:=Ly i (show(xs.length:Int)≠0 by lia);have h1:=Jx i hl;have hn:(i%(xs.length:Int)).toNat<xs.length:=by lia
 unfold atI ixN;rw[if_pos h0,if_pos h1];simp[hn]
theorem q4p{xs:List α}(h0:0<=i)(h1:i<(xs.length:Int)):∃x,xs[i.toNat]?=some x/\atI xs i=some x:=by
 have hn:i.toNat<xs.length:=by lia
 unfold atI ixN;rw[if_pos h0,if_pos h1];simp[hn]
open PySem PySem.Spec PyProof.Rows
mutual
inductive Dt (K : Ai) (H : Hp) : V → PyData → Prop
  | non : Dt K H .non .none
  | bl (b : Bool) : Dt K H (.bl b) (.bool b)
  | int (i : Int) : Dt K H (.int i) (.int i)
  | str (x : Str) : Dt K H (.str x) (.str x)
  | lst {a : Addr} {xs : List V} {ds : List PyData} : SqL K H a xs → Dts K H xs ds → Dt K H (.ref a) (.list ds)
  | tup {a : Addr} {xs : List V} {ds : List PyData} : SqT K H a xs → Dts K H xs ds → Dt K H (.ref a) (.tuple ds)
inductive Dts (K : Ai) (H : Hp) : List V → List PyData → Prop
  | nil : Dts K H [] []
  | cons {x : V} {xs : List V} {d : PyData} {ds : List PyData} : Dt K H x d → Dts K H xs ds → Dts K H (x :: xs) (d :: ds)
end
section
variable{X:Cx}{pins:List (Addr×Obj)}{σ:St}{H:Hp}{s:Ae}
mutual
theorem Dt.reads (I : Inv X pins σ H s) : ∀ {x : V} {d : PyData} {u : Value}, Dt X.K H x d → RelV x u → ∃ as, Reads s.heap u d as
  | _, _, _, .non, r => by cases r; exact ⟨_, .none⟩
  | _, _, _, .bl b, r => by cases r; exact ⟨_, .bool b⟩
  | _, _, _, .int i, r => by obtain ⟨t, rfl⟩ := r; exact ⟨_, .int i t⟩
  | _, _, _, .str x, r => by obtain ⟨t, rfl⟩ := r; exact ⟨_, .str x t⟩
  | _, _, _, .lst q ds, r => by
    cases r
    obtain ⟨its, rv, ⟨o, n, e, c, _, d⟩, _⟩ := I.list q
    obtain ⟨as, h⟩ := Dts.reads I ds rv
    exact ⟨_, .list e c d (by simpa using h)⟩
  | _, _, _, .tup q ds, r => by
    cases r
    obtain ⟨its, rv, ⟨o, e, c, n, d⟩, _⟩ := I.tuple q
    obtain ⟨as, h⟩ := Dts.reads I ds rv
    exact ⟨_, .tuple e c d (by simpa using h)⟩
theorem Dts.reads (I : Inv X pins σ H s) : ∀ {xs : List V} {ds : List PyData} {us : List Value}, Dts X.K H xs ds → Vals xs us → ∃ as, ReadsAll s.heap us ds as
  | _, _, _, .nil, .nil => ⟨_, .nil⟩
  | _, _, _, .cons d ds, .cons r rs => by
    obtain ⟨as, h⟩ := Dt.reads I d r
    obtain ⟨bs, h'⟩ := Dts.reads I ds rs
    exact ⟨_, .cons h h'⟩
end
end
section
variable{X:Cx}{k:Nat}
def rEqD(K:Ai):R2:=fun x y H Q=>∃d e,Dt K H x d/\Dt K H y e/\d.canLay0=true/\e.canLay0=true/\min d.depth e.depth<=100/\Q (.bl (Cy d e)) H
def rNeD(K:Ai):R2:=fun x y H Q=>∃d e,Dt K H x d/\Dt K H y e/\d.canLay0=true/\e.canLay0=true/\min d.depth e.depth<=100/\Q (.bl (!PyData.eqv d e)) H
theorem op_eqD(hr:Room k X.A):OpR X (Cu .Eq) (rEqD X.K):=by
 intro pins s σ H x y v u Q I rx ry h;obtain⟨d,e,hd,he,cd,ce,hm,q⟩:=h;obtain⟨as,r1⟩:=hd.reads I rx;obtain⟨bs,r2⟩:=he.reads I ry;have hu:=hr.un;exact SeqAt.rcAt_reads r1 r2 cd ce (by lia) X.prog X.w X.xe _ ⟨.bl _,H,I,rfl,q⟩
theorem op_neD(hr:Room k X.A):OpR X (Cu .NotEq) (rNeD X.K):=by
 intro pins s σ H x y v u Q I rx ry h;obtain⟨d,e,hd,he,cd,ce,hm,q⟩:=h;obtain⟨as,r1⟩:=hd.reads I rx;obtain⟨bs,r2⟩:=he.reads I ry;have hu:=hr.un;exact SeqAt.rcNeAt_reads r1 r2 cd ce (by lia) X.prog X.w X.xe _ ⟨.bl _,H,I,rfl,q⟩
def rAddU:R2:=fun x y H Q=>(∃i j,x=.int i/\y=.int j/\Q (.int (i+j)) H)\/(∃i j,x=.str i/\y=.str j/\i.length+j.length<=sizeLine/\Q (.str (i++j)) H)\/rCat x y H Q
theorem q1b:OpR X (Gd .Add) rAddU:=op_add.or (op_add_str.or op_cat)
def rMulU:R2:=fun x y H Q=>(∃i j,x=.int i/\y=.int j/\CMul i j/\Q (.int (i*j)) H)\/rMulS x y H Q\/rRep x y H Q
theorem q9z:OpR X (Gd .Mult) rMulU:=op_mul.or (op_mulS.or op_rep)
def rEqU(K:Ai):R2:=fun x y H Q=>rEq x y H Q\/rEqD K x y H Q
theorem op_eqU(hr:Room k X.A):OpR X (Cu .Eq) (rEqU X.K):=op_eq.or (op_eqD hr)
def rNeU(K:Ai):R2:=fun x y H Q=>rNe x y H Q\/rNeD K x y H Q
theorem op_neU(hr:Room k X.A):OpR X (Cu .NotEq) (rNeU X.K):=op_ne.or (op_neD hr)
def rSlU(K:Ai):V->Option Int->Option Int->Hp->VK->Prop:=fun x lo hi H Q=>rSlS x lo hi H Q\/rSlL K x lo hi H Q\/rSlT K x lo hi H Q
theorem sl_U:SlR X (rSlU X.K):=sl_str.or (sl_list.or z8w)
def iAny(K:Ai)(tl:TE):TI:=fun σ H R=>tl σ H fun x H1=>(∃a,x=.ref a/\(∃xs,SqL K H1 a xs)/\R (Itl K a) H1)\/(∃a,x=.ref a/\(∃xs,SqT K H1 a xs)/\R (Itt K a) H1)\/∃z,x=.str z/\R (Its z) H1
theorem pi_any(hl:PE X l tl):PI X tg l (iAny X.K tl):=by
 intro pins s σ H R I h;refine thn (hl pins s σ H _ I h) fun v s1 ⟨x,H1,I1,r1,q1⟩=>?_;have fp:∀b∈[s1.heap.objs.size],FpOk X pins H1 b:=fun b hb=>by
  have e:b=s1.heap.objs.size:=by grind
  subst e;exact I1.fpOk (Am _) (I1.hok.fresh (Am _))
 rcases q1 with⟨a,e,⟨xs,hq⟩,q⟩|⟨a,e,⟨xs,hq⟩,q⟩|⟨z,e,q⟩
 ·subst e;cases r1;obtain⟨its,rv,p,hz⟩:=I1.list hq;exact Sz p.isList ⟨s1.heap.objs.size,[s1.heap.objs.size],_,_,H1,rfl,I1.kept (t':=s1.toks) fun b o e=>Af _ e,z3o a _,⟨_,Av _ rfl,rfl,rfl⟩,fp,q⟩
 ·subst e;cases r1;obtain⟨its,rv,p,hz⟩:=I1.tuple hq;exact wpAny_pyIter_tuple (show s1.heap.IsTuple a its.toArray from p) ⟨s1.heap.objs.size,[s1.heap.objs.size],_,_,H1,rfl,I1.kept (t':=s1.toks) fun b o e=>Af _ e,z2d a _,⟨_,Av _ rfl,rfl,rfl⟩,fp,q⟩
 ·subst e;obtain⟨t,rfl⟩:=r1;cases ha:z.cps.all (· < 128)
  ·exact wpAny_pyIter_wide ha ⟨s1.heap.objs.size,[s1.heap.objs.size],_,_,H1,rfl,I1.kept (t':=s1.toks) fun b o e=>Af _ e,z4f _ z t,⟨By _,_,Av _ rfl,rfl,rfl⟩,fp,q⟩
  ·exact wpAny_pyIter_ascii ha ⟨s1.heap.objs.size,[s1.heap.objs.size],_,_,H1,rfl,I1.kept (t':=s1.toks) fun b o e=>Af _ e,z4e _ z t,⟨By _,_,Av _ rfl,rfl,rfl⟩,fp,q⟩
end
open PySem PySem.Spec PyProof.Rows
section
variable{X:Cx}{a b o e l:Expr}{es:List Expr}{ta tb to te tl:TE}{t:TA}{pos p2 apos cpos:Pos}{k:Nat}{name:Str}{T idn:String}{r:V->List V->Hp->VK->Prop}
theorem ix_k(K:Ai)(hK:X.K=K):IxR X (rIx K):=by subst hK;exact ix_seq
theorem q2u(K:Ai)(hK:X.K=K):CallR X (.builtin "len") (fun xs H Q=>∃x n,xs=[x]/\LenV K x H n/\Q (.int n) H):=by subst hK;exact z6x
theorem eq_k(K:Ai)(hK:X.K=K)(hr:Room k X.A):OpR X (Cu .Eq) (rEqU K):=by subst hK;exact op_eqU hr
theorem ne_k(K:Ai)(hK:X.K=K)(hr:Room k X.A):OpR X (Cu .NotEq) (rNeU K):=by subst hK;exact op_neU hr
theorem sl_k(K:Ai)(hK:X.K=K):SlR X (rSlU K):=by subst hK;exact sl_U
theorem q5v{tg:Expr}(K:Ai)(hK:X.K=K)(hl:PE X l tl):PI X tg l (iAny K tl):=by subst hK;exact pi_any hl
theorem z9w(K:Ai)(hK:X.K=K):CallR X (.builtin "isinstance") (fun xs H Q=>∃x c t b,xs=[x,.ty c]/\TyOf K H x t/\Gs K t (.type c)=some b/\Q (.bl b) H):=by subst hK;exact q9y
theorem z8z(K:Ai)(hK:X.K=K):CallR X (.type "list") (fun xs H Q=>∃p ys,xs=[.ref p]/\(SqL K H p ys\/SqT K H p ys)/\∀l,H l=none->Q (.ref l) (upd H l (.lst ys))):=by subst hK;exact q8g
theorem z9a(K:Ai)(hK:X.K=K):MtM X "str.join" (rJoin K):=by subst hK;exact z9u
theorem q2t{kk n:Nat}{u:TGs}(K:Ai)(hK:X.K=K)(hc:X.calm=true)(h:PGs X es u)(hn:(Ir es X.env).length=n:=by rfl)(hst:(Ir es X.env).findIdx? (·.1)=none:=by rfl):PG X (.Tuple es kk pos) (gTup K n u):=by subst hK;exact pg_tup hc h hn hst
theorem bm_k(K:Ai)(hK:X.K=K)(pa:Qs T)(slot:Slot T name idn)(hty:typeOf (.builtin idn)=pure (.type "method_descriptor"))(hm:MtR X idn r)(ho:PE X o to)(ha:PA X (e::es) t)(hbase:Ft o name X.env (eval o X.env)=eval o X.env:=by rfl)(hfew:((Dq cpos (Ba (e::es) X.env)).all (fun x => !x.1)&&(Lb cpos (Hw [] X.env)).all (fun x=>x.1.isSome)
   && decide ((e::es).length+([]:List Qa).length+(if ([]:List Qa).isEmpty then 0 else 1)<30))=true:=by rfl)(hline:(apos.endLine==cpos.line)=true:=by rfl)(hs:Ba (e::es) X.env=(false,eval e X.env)::Ba es X.env:=by rfl)(hplain:(Dq cpos (Ba es X.env)).any (·.1)=false:=by rfl):
  PE X (.Call (.Attribute o name apos) (e::es) [] cpos) (tBM K T r to t):=by subst hK;exact pe_bm pa slot hty hm ho ha hbase hfew hline hs hplain
theorem z0a(K:Ai)(hK:X.K=K)(pa:Qs T)(slot:Slot T name idn)(hty:typeOf (.builtin idn)=pure (.type "method_descriptor"))(hm:MtR X idn r)(ho:PE X o to)(hbase:Ft o name X.env (eval o X.env)=eval o X.env:=by rfl)(hline:(apos.endLine==cpos.line)=true:=by rfl):PE X (.Call (.Attribute o name apos) [] [] cpos) (tBM0 K T r to):=by subst hK;exact pe_bm0 pa slot hty hm ho hbase hline
theorem q8l(K:Ai)(hK:X.K=K)(ha:PE X a ta)(he:∀whole,isTrue a X.env whole=(do let v<-whole;Mj a.pos;Ig [v] (truthy v))):
  PT X a (fun σ H Q=>ta σ H fun x H'=>∃k,TruV K x H' k/\Q k H'):=by subst hK;exact z6w ha he
end
theorem z0b{lo:Int}{r:St}{Fin:List V->Hp->Prop}(Pv:Nat->List V->Hp->Prop)(h0:Pv 0 [] (upd H1 D (.lst [])))(hl:∀i ys H,Pv i ys H->H D=some (.lst ys))(hs:∀i ys H,i<n->Pv i ys H->te (some (.int (lo+i))::r) H fun v H4=>H4 D=some (.lst ys)/\ys.length<sizeLine/\Pv (i+1) (ys++[v]) (upd H4 D (.lst (ys++[v]))))(hd:∀ys H,Pv n ys H->Fin ys H):CompW (Itr lo n) (gName 0) tIf0 te (none::r) D Fin H1 :=
 z2q Pv h0 hl (fun i ys H h p=>(⟨q4f,iteT (hs i ys H h p)⟩:Keeps0 (none::r) (some (.int (lo+i))::r)/\if true=true then te (some (.int (lo+i))::r) H fun v H4=>H4 D=some (.lst ys)/\ys.length<sizeLine/\Pv (i+1) (ys++[v]) (upd H4 D (.lst (ys++[v]))) else Pv (i+1) ys H)) hd
theorem z4h{r:St}{Fin:List V->Hp->Prop}(Pv:Nat->List V->Hp->Prop)(h0:Pv 0 [] (upd H1 D (.lst [])))(hl:∀i ys H,Pv i ys H->H D=some (.lst ys))(hs:∀i ys H c,z.cps[i]?=some c->Pv i ys H->te (some (.str ⟨#[c]⟩)::r) H fun v H4=>H4 D=some (.lst ys)/\ys.length<sizeLine/\Pv (i+1) (ys++[v]) (upd H4 D (.lst (ys++[v]))))(hd:∀ys H,Pv z.length ys H->Fin ys H):CompW (Its z) (gName 0) tIf0 te (none::r) D Fin H1 :=
 z7i Pv h0 hl (fun i ys H c h p=>(⟨q4f,iteT (hs i ys H c h p)⟩:Keeps0 (none::r) (some (.str ⟨#[c]⟩)::r)/\if true=true then te (some (.str ⟨#[c]⟩)::r) H fun v H4=>H4 D=some (.lst ys)/\ys.length<sizeLine/\Pv (i+1) (ys++[v]) (upd H4 D (.lst (ys++[v]))) else Pv (i+1) ys H)) hd
def tSeqJ(t u:TS):TS:=fun D σ H=>∃J:St->Hp->Prop,(∀σ' H',J σ' H'->u D σ' H')/\t { D with nx:=J } σ H
theorem q1z{X:Cx}{st:Stmt}{rest:List Stmt}{t u:TS}(h1:PS X st t)(h2:PSs X rest u):PSs X (st::rest) (tSeqJ t u):=by
 intro pins s σ H D I h;obtain⟨J,hJ,h⟩:=h;refine Nw (thn (h1 pins s σ H { D with nx:=J } I h) fun f s1 q=>?_);cases f with
 |next =>
  obtain⟨σ',H',I',q⟩:=q;exact h2 pins s1 σ' H' D I' (hJ σ' H' q)
 |ret v=>exact q
 |brk=>exact q
 |cont=>exact q
def tVJ(t:TE):TE:=fun σ H Q=>∃J:VK,(∀v H',J v H'->Q v H')/\t σ H J
theorem pe_j{X:Cx}{e:Expr}{t:TE}(h:PE X e t):PE X e (tVJ t):=by
 intro pins s σ H Q I hw;obtain⟨J,hJ,hw⟩:=hw;exact thn (h pins s σ H J I hw) fun u s' ⟨v,H',I',r,q⟩=>⟨v,H',I',r,hJ v H' q⟩
def tTJ(t:TT):TT:=fun σ H Q=>∃J:Bool->Hp->Prop,(∀b H',J b H'->Q b H')/\t σ H J
theorem pt_j{X:Cx}{e:Expr}{t:TT}(h:PT X e t):PT X e (tTJ t):=by
 intro pins s σ H Q I hw;obtain⟨J,hJ,hw⟩:=hw;exact thn (h pins s σ H J I hw) fun u s' ⟨H',I',q⟩=>⟨H',I',hJ u H' q⟩
theorem iteB{B:Prop}(hA:c=true->A)(hB:c=false->B):if c=true then A else B:=by grind
end L2
namespace TX
open PySem PySem.Spec PyProof.Rows L2
abbrev tl(x:Str):List Nat:=x.cps.toList
abbrev mk(l:List Nat):Str:=⟨l.toArray⟩
theorem q2b(l:List Nat):tl (mk l)=l:=by simp[tl,mk]
theorem z4i(x:Str):mk (tl x)=x:=by simp[tl,mk]
theorem ext(h:tl x=tl y):x=y:=ext_toList h
theorem len(x:Str):x.length=(tl x).length:=by simp[tl,Str.length]
theorem z1e(x y:Str):tl (x++y)=tl x++tl y:=by
 show(x.cps++y.cps).toList=_;simp[tl]
theorem app_len(x y:Str):(x++y).length=x.length+y.length:=by rw[len,len,len,z1e,Ap]
theorem get{i:Nat}(h:x.cps[i]?=some c):(tl x)[i]?=some c:=by simpa[tl] using h
theorem z9x(z:Str)(ts:List Str):Uc z ts=Qv z ts:=StrLaws.glued_eq_join z ts
theorem z9y:∀ts:List Str,tl (Uc (Ag "") ts)=(ts.map tl).flatten:=by
 intro ts;rw[z9x];induction ts with
 |nil=>rfl
 |cons a r ih =>
  cases r with
  |nil=>simp[Qv]
  |cons b r =>
   show tl (a++Ag "" ++ Qv (Ag "") (b::r))=_;rw[z1e,z1e,ih];have e:tl (Ag "")=[]:=by decide +kernel
   rw[e];simp
theorem q8m(cs:List Nat):Uc (Ag "") (cs.map fun c=>(⟨#[c]⟩:Str))=mk cs:=by
 apply ext;rw[z9y,q2b,Al];induction cs with
 |nil=>rfl
 |cons c r ih=>rw[Ak,Nh,ih];rfl
theorem z1f(cs:List Nat):((cs.map fun c=>(⟨#[c]⟩:Str)).map (·.length)).sum=cs.length:=by
 induction cs with
 |nil=>rfl
 |cons c r ih=>rw[Ak,Ak,List.sum_cons,ih,Bk];show 1+_=_;lia
theorem lower(h:∀c∈tl x,c<128):tl (Txt.lower x)=(tl x).map lo1:=by
 rw[lower_ascii h];simp[tl]
theorem small(h:n<=1000000):n<=sizeLine:=by rw[Dl];lia
theorem small'(h:n<=1000000):n<sizeLine:=by rw[Dl];lia
end TX
namespace L2
open PySem PySem.Spec PyProof.Rows TX
def spText:Sp:=fun vs H Q _=>∃a b g n,vs=[.ref a,.str g,.int n]/\FeedAt H a b/\0<g.length/\g.length<=1000/\0<=n/\n<=1000 /\
 ∀(t:List Nat) H',t.length=n.toNat->(∀c∈t,c∈tl g)->Fd a b H H'->Q (.str (mk t)) H'
open PySem PySem.Spec PyProof.Rows
section
variable{prog:Program}{w:World}{K:Ai}{A:Around}{E:Value->Ae->Prop}{s:Ae}{J:It}{st:Nat->Heap->Prop}{e it:Addr}{H:Hp}
theorem z2r{i:Nat}{Q:Value->Ae->Prop}(S:Srce prog w K J it st)(hh:A.handled=none)(vw:Vw K H s.heap)(nH:H it=none)(nK:K.lookup it=none)(he:IsEnum s.heap e it i old)(hst:st i s.heap)(go:J.go i H)(hne:e≠it)(hQ:∀u x h' tk,RelV x u->J.yld i H x H->IsEnumOut h' e it ((i:Int)+1) u s.heap.objs.size->st (i+1) h'->h'.get? s.heap.objs.size=some { cls:=.type "tuple",data:=.seq #[.int i tk,u] }->h'.objs.size=s.heap.objs.size+1 ->
   (∀b o,b≠e->b≠it->s.heap.get? b=some o->h'.get? b=some o)->Q (.ref s.heap.objs.size) { s with heap:=h',toks:=tk+1 }):
  wpAny (model prog w) A (Cs.«enumerate.__next__» ⟨[.ref e],[]⟩) (fun fin s'=>∃v,fin=.done (.ret v)/\Q v s') E s:=by
 obtain⟨hp,g,d,tk₀,os⟩:=s;show wpAny _ _ (field (.ref e) 2 >>= _) _ _ _;refine Ab (Ca he rfl rfl ?_);refine Ab (S.item _ i _ H _ _ hh vw nH nK hst go fun u x h₁ tk rx yx st₁ hs₁=>?_);have he₁:=(hs₁.2 e hne).trans he;refine Ab (Ca he₁ rfl rfl ?_);refine Ab (Ca he₁ rfl rfl ?_);refine Ab (wpAny_mkInt ?_);refine Ab (Gk he₁ (by simp) fun h₂ he₂ hs₂=>?_);refine Ab (Gk he₂ (by simp) fun h₃ he₃ hs₃=>?_);refine Ab (Qb ?_);have he₄:IsEnum (h₃.push { cls:=.type "tuple",data:=.seq #[.int i tk,u] }) e it ((i:Int)+1) old:=Af _ he₃;generalize hh₄:h₃.push { cls:=.type "tuple",data:=.seq #[.int i tk,u] }=h₄ at he₄;have hsz:h₃.objs.size=hp.objs.size:=by rw[hs₃.1,hs₂.1,hs₁.1]
 have hel:=An he;have ht₄:h₄.get? hp.objs.size=some { cls:=.type "tuple",data:=.seq #[.int i tk,u] }:=by rw[<- hh₄,<- hsz];exact Av _ rfl
 have hz₄:h₄.objs.size=hp.objs.size+1:=by rw[<- hh₄,Hd,hsz]
 have hk₄:∀b o,b≠e->b≠it->hp.get? b=some o->h₄.get? b=some o:=fun b o hbe hbi hb=>by
  rw[<- hh₄];exact Af _ (hs₃.extBut b o hbe (hs₂.extBut b o hbe (hs₁.extBut b o hbi hb)))
 have hit₄:st (i+1) h₄:=S.keep _ _ _ st₁ fun o y=>by
  rw[<- hh₄];exact Af _ (hs₃.extBut it o hne.symm (hs₂.extBut it o hne.symm y))
 rw[hsz];refine Ab ?_;refine Ab (Ca he₄ rfl rfl (Ad ?_));refine Ab (Gi ?_);refine Ab (Ca he₄ rfl rfl ?_);refine Ab (Gk he₄ (by simp) fun h₅ he₅ hs₅=>?_);refine Ab ?_;refine Ab (Gk he₅ (by simp) fun h₆ he₆ hs₆=>?_);refine Gk he₆ (by simp) fun h₇ he₇ hs₇=>?_;have up:=fun b o hb y=>hs₇.extBut b o hb (hs₆.extBut b o hb (hs₅.extBut b o hb y));refine Ab (Tt (Ad ⟨_,rfl,hQ u x h₇ tk rx yx he₇ (S.keep _ _ _ hit₄ fun o y=>up _ o hne.symm y) (up _ _ (Er hel) ht₄) ?_ fun b o hbe hbi hb=>up b o hbe (hk₄ b o hbe hbi hb)⟩));rw[hs₇.1,hs₆.1,hs₅.1,hz₄]
end
def Ite(J:It):It:=⟨fun i H=>J.go i H,fun i H x H'=>∃T y,H T=none/\J.yld i H y H/\x=.ref T/\H'=upd H T (.tup [.int i,y]),fun i H=>J.stop i H⟩
theorem z4j{K:Ai}{st:Nat->Heap->Prop}(hne:e≠it)(S:Srce P w K J it st):
  Turn P w K (.Tuple elts kk pos) (Ite J) [e,it] e (fun i h=>(∃old,IsEnum h e it i old)/\st i h) where
 mem:=by simp
 obj:=fun i h hs b hb=>by
  obtain⟨⟨old,he⟩,h1⟩:=hs;simp only[Be,Iv,or_false] at hb;rcases hb with rfl|rfl
  ·grind
  ·exact S.obj i h h1
 keep:=fun i h h' hs k=>by
  obtain⟨⟨old,he⟩,h1⟩:=hs;exact⟨⟨old,k e (by simp) _ he⟩,S.keep _ _ _ h1 fun o y=>k it (by simp) o y⟩
 item:=by
  intro X hP hw hK hc i pins s σ H E I hf hs hg;subst hP hw hK;obtain⟨⟨old,he⟩,h1⟩:=hs;have hT:s.TypeIs (.ref e) "enumerate" := ⟨_,he,rfl⟩
  refine Ab (Ew (Cg hT Ik
   (Bu Ik hT Pg
    (z2r S (I.ok.hd hc) I.vw (hf it (by simp)).1 ((hf it (by simp)).noK I) he h1 hg hne fun u x h' tk rx yx a1 a2 a3 a4 a5=>Ad ?_) (Om _))))
  refine⟨_,rfl,?_⟩;refine wpAny_letOwnedTupleGo_enum a1 fun h2 he2 hs2=>?_;have k2:∀c o,c∉[e,it]->s.heap.get? c=some o->h2.get? c=some o:=fun c o hcn y=>by
   simp only[Be,Iv,or_false,not_or] at hcn;exact hs2.extBut _ _ hcn.1 (a5 c o hcn.1 hcn.2 y)
  have elt:=An he;have ilt:it<s.heap.objs.size:=by obtain⟨o,y,_⟩:=S.obj _ _ h1;exact An y
  have I1:Inv X pins σ H { s with heap:=h2,toks:=tk+1 }:=I.turnedL k2 hf;have FT:=I.fpOk (Am _) I.fresh;have hT2:h2.get? s.heap.objs.size=some { cls:=.type "tuple",data:=.seq #[.int i tk,u] }:=hs2.extBut _ _ (Er elt) a3;have I2:Inv X pins σ (upd H s.heap.objs.size (.tup [.int i,x])) { s with heap:=h2,toks:=tk+1 } :=
   I1.track I.sz FT ⟨by show 2<=sizeLine;decide,[.int i tk,u],.cons ⟨_,rfl⟩ (.cons rx .nil),⟨_,hT2,rfl,_,rfl⟩⟩
  refine⟨.ref s.heap.objs.size,_,I2,rfl,⟨_,x,I.fresh,yx,rfl,rfl⟩,⟨⟨u,by simpa using he2⟩,S.keep _ _ _ a2 fun o y=>hs2.extBut _ _ hne.symm y⟩,fun b hb=>?_⟩;have hb2:=(hf b hb).1;rw[q0c]
  ·exact hb2
  ·grind
 done:=by
  intro X hP hw hK hc i pins s σ H E I hf hs hg;subst hP hw hK;obtain⟨⟨old,he⟩,h1⟩:=hs;have hT:s.TypeIs (.ref e) "enumerate" := ⟨_,he,rfl⟩
  refine Ab (Ew (Cg hT Ik
   (Bu Ik hT Pg ?_ (Om _))))
  show wpAny _ _ (field (.ref e) 2 >>= _) _ _ _;refine Ab (Ca he rfl rfl ?_);refine Ab (S.done _ i _ H _ _ (I.ok.hd hc) I.vw (hf it (by simp)).1 ((hf it (by simp)).noK I) h1 hg fun h' x he' hx'=>?_);obtain⟨o,ho,hcl⟩:=hx';refine Ab (Ge ⟨o,ho,hcl⟩ Qc ?_);refine Ad ⟨rfl,I.turnedL (t':=s.toks) (fun c o hcn y=>?_) hf⟩;simp only[Be,Iv,or_false,not_or] at hcn;exact he' c o hcn.2 y
 self:=fun _ _ _ _ _ hs h=>by
  obtain⟨⟨old,he⟩,_⟩:=hs;exact Ta he h
section
variable{X:Cx}{elts:List Expr}{kk:Nat}{tpos:Pos}
theorem q8n{σ:St}{st:Nat->Heap->Prop}(I:Inv X pins σ H s)(S:Srce X.prog X.w X.K J s.heap.objs.size st)(he:IsEnum h' (s.heap.objs.size+1) s.heap.objs.size 0 .none)(h1:st 0 h')(hk:∀c o,s.heap.get? c=some o->h'.get? c=some o)(q:R (Ite J) H):
  wpAny (model X.prog X.w) X.A (Pw (.ref (s.heap.objs.size+1))) (PIE X pins σ (.Tuple elts kk tpos) R) E { s with heap:=h' }:=by
 refine Ta he ?_;refine⟨_,_,_,_,H,rfl,I.kept (t':=s.toks) hk,z4j (show(s.heap.objs.size+1:Nat)≠s.heap.objs.size by lia) S,⟨⟨_,he⟩,h1⟩,fun b hb=>?_,q⟩;have hb':s.heap.objs.size<=b:=by
  simp only[Be,Iv,or_false] at hb;rcases hb with rfl|rfl
  ·exact Je _
  ·exact Am _
 exact I.fpOk hb' (I.hok.fresh hb')
def iEnum(K:Ai)(ta:TA):TI:=fun σ H R=>ta σ H fun vs H1=>(∃z,vs=[.str z]/\R (Ite (Its z)) H1)\/∃a xs,vs=[.ref a]/\SqL K H1 a xs/\R (Ite (Itl K a)) H1
theorem z9z(hg:Gl X "enumerate")(hm:X.mg "enumerate" = none)(ha:PA X [a] ta)(hs:Ba [a] X.env=[(false,eval a X.env)]:=by rfl):
  PI X (.Tuple elts kk tpos) (.Call (.Name "enumerate" p) [a] [] pos) (iEnum X.K ta):=by
 intro pins s σ H R I h;refine Call_ (q7w I hg hm (by decide +kernel:Ic "enumerate" = some (.type "enumerate")) (Ip (thn (ha pos pins s σ H _ I h) fun us s1 ⟨vs,H1,I1,r1,q1⟩=>?_) hs rfl));rcases q1 with⟨z,e,q⟩|⟨l,xs,e,hq,q⟩
 ·subst e;obtain⟨u,rfl,t,rfl⟩:=vals1 r1;exact call_enumerate_str fun h' he hi hz hk=>q8n I1 (z7j _ z t) he hi hk q
 ·subst e;obtain⟨u,rfl,r⟩:=vals1 r1;cases r;obtain⟨its,rv,pl,_⟩:=I1.list hq;exact call_enumerate_list pl.isList fun h' he hi hz hk=>q8n I1 (z4g l _) he hi hk q
theorem z4k{a:Expr}{ta:TA}{p pos:Pos}(K:Ai)(hK:X.K=K)(hg:Gl X "enumerate")(hm:X.mg "enumerate" = none)(ha:PA X [a] ta)(hs:Ba [a] X.env=[(false,eval a X.env)]:=by rfl):
  PI X (.Tuple elts kk tpos) (.Call (.Name "enumerate" p) [a] [] pos) (iEnum K ta):=by subst hK;exact z9z hg hm ha hs
end
end L2
namespace K
open PySem L2 TX
def NSs:Str:=Ag "abcdefghijklmnopqrstuvwxyzABCDEFGHIJKLMNOPQRSTUVWXYZ0123456789-_."
def GSs:Str:=Ag "?*#@"
abbrev NS:List Nat:=tl NSs
abbrev GS:List Nat:=tl GSs
theorem z7k:∀c∈NS,c<128:=by decide +kernel
theorem z7l:∀c∈GS,c<128:=by decide +kernel
inductive Pt where
 |tx (l:List Nat)
 |gp (c:Nat)
namespace Pt
def fl:Pt->List Nat
 |tx l=>l
 |gp c=>[c]
def isG:Pt->Bool
 |tx _=>false
 |gp _=>true
def ok:Pt->Prop
 |tx l=>l≠[]/\∀c∈l,c∈NS
 |gp c=>c∈GS
def word:Pt->Str
 |tx _=>Ag "text"
 |gp _=>Ag "gap"
def vs(p:Pt):List V:=[.str p.word,.str (mk p.fl)]
def dat(p:Pt):PyData:=.tuple [.str p.word,.str (mk p.fl)]
end Pt
def tp(t:List Nat):List Pt:=if t=[] then[] else[.tx t]
def TKeep(H H':Hp):Prop:=∀T xs,H T=some (.tup xs)->H' T=some (.tup xs)
theorem TKeep.refl(H:Hp):TKeep H H:=fun _ _ h=>h
theorem TKeep.trans(a:TKeep H H1)(b:TKeep H1 H2):TKeep H H2:=fun T xs h=>b T xs (a T xs h)
theorem TKeep.new(k:TKeep H H')(h:H' p=none):TKeep H (upd H' p o):=fun T xs e=>by rw[q0c (q0j (k T xs e) h)];exact k T xs e
theorem TKeep.lst{H H':Hp}{p:Addr}{ys zs:List V}(k:TKeep H H')(h:H' p=some (.lst ys)):TKeep H (upd H' p (.lst zs)):=fun T xs e=>by
 rw[q0c (q9u (k T xs e) h (by intro z;cases z))];exact k T xs e
theorem Fd.tk(F:FeedAt H a b)(x:Fd a b H H'):TKeep H H':=fun T xs e=>by
 obtain⟨i,j,h⟩:=F.fa;exact x.at e (q9u e h (by intro z;cases z))
theorem Same.tk(s:Same H H'):TKeep H H':=fun T xs e=>s _ _ e
theorem z7m(h:∀c∈l,c<128):Fb (mk l)=true:=by
 unfold Fb;rw[Array.all_eq_true'];intro c hc;have:=h c (by simpa[mk] using hc);simp;lia
theorem Pt.lay{p:Pt}(h:p.ok):p.dat.canLay0=true:=by
 have hs:∀c∈p.fl,c<128:=by
  cases p with
  |gp c =>
   intro d hd;have e:d=c:=by simpa[Pt.fl] using hd
   rw[e];exact z7l c h
  |tx l=>exact fun c hc=>z7k c (h.2 c hc)
 have hw:Fb p.word=true:=by
  cases p with
  |gp c=>show Fb (Ag "gap")=true;decide +kernel
  |tx l=>show Fb (Ag "text")=true;decide +kernel
 simp only[Pt.dat,Gx,Hn,hw,z7m hs,Kz]
theorem Pt.dt{p:Pt}(h:H T=some (.tup p.vs)):Dt K H (.ref T) p.dat :=
 .tup (SqT.of h) (.cons (.str _) (.cons (.str _) .nil))
end K
namespace L2
open PySem PySem.Spec PyProof.Rows
section
variable{κ:Type}[DecidableEq κ]
def valV(kvs:List (κ×V))(k:κ):Option V:=(kvs.find? fun kv=>decide (kv.1=k)).map (·.2)
def putK(kvs:List (κ×V))(k:κ)(v:V):List (κ×V) :=
 if (kvs.any fun kv=>decide (kv.1=k))=true then kvs.map (fun kv=>if kv.1=k then(kv.1,v) else kv) else kvs++[(k,v)]
def dropK(kvs:List (κ×V))(k:κ):List (κ×V):=kvs.filter fun kv=>decide (kv.1≠k)
theorem q1c{p:κ×V}(e:p.1=k):valV (p::r) k=some p.2:=by simp[valV,Gp,e]
theorem q0z{p:κ×V}(e:¬p.1=k):valV (p::r) k=valV r k:=by simp[valV,Gp,e]
theorem q3w(k:κ):∀kvs:List (κ×V),(kvs.any fun kv=>decide (kv.1=k))=(valV kvs k).isSome
 |[]=>rfl
 |p::r=>by
  rw[Rh];by_cases e:p.1=k
  ·simp only[q1c e,decide_eq_true e,Bool.true_or,Option.isSome_some]
  ·rw[q0z e,decide_eq_false e,Bool.false_or];exact q3w k r
theorem z1g(k j:κ)(y:V):∀kvs:List (κ×V),valV (kvs.map fun kv=>if kv.1=k then(kv.1,y) else kv) j=(valV kvs j).map fun x=>if j=k then y else x
 |[]=>rfl
 |p::r=>by
  have ih:=z1g k j y r;rw[Ak];by_cases h:p.1=k
  ·rw[if_pos h];by_cases e:p.1=j
   ·rw[q1c (p:=(p.1,y)) e,q1c e,Jk,if_pos (e.symm.trans h)]
   ·rw[q0z (p:=(p.1,y)) e,q0z e,ih]
  ·rw[if_neg h];by_cases e:p.1=j
   ·rw[q1c e,q1c e,Jk,if_neg (fun z=>h (e.trans z))]
   ·rw[q0z e,q0z e,ih]
theorem q8o(k j:κ)(y:V):∀kvs:List (κ×V),valV kvs k=none->valV (kvs++[(k,y)]) j=if j=k then some y else valV kvs j
 |[],_=>by
  by_cases e:k=j
  ·rw[if_pos e.symm];exact q1c (p:=(k,y)) e
  ·rw[if_neg (fun z=>e z.symm)];exact q0z (p:=(k,y)) e
 |p::r,hn=>by
  rw[List.cons_append];have hk:¬p.1=k:=fun z=>by rw[q1c z] at hn;cases hn
  rw[q0z hk] at hn;have ih:=q8o k j y r hn;by_cases e:p.1=j
  ·rw[q1c e,q1c e,if_neg (fun z=>hk (e.trans z))]
  ·rw[q0z e,q0z e,ih]
theorem z7n(kvs:List (κ×V))(k j:κ)(y:V):valV (putK kvs k y) j=if j=k then some y else valV kvs j:=by
 unfold putK;by_cases a:(kvs.any fun kv=>decide (kv.1=k))=true
 ·rw[if_pos a,z1g];rw[q3w] at a;by_cases e:j=k
  ·obtain⟨x,hx⟩:=Oa.mp a;rw[if_pos e,e,hx,Jk,if_pos rfl]
  ·simp_all
 ·rw[if_neg a];refine q8o k j y kvs ?_;rw[q3w] at a;cases q:valV kvs k with
  |none=>rfl
  |some x=>grind
theorem q1i(kvs:List (κ×V))(k:κ)(v:V):(putK kvs k v).length<=kvs.length+1:=by
 unfold putK;split
 ·grind
 ·grind
theorem z7o{kvs:List (κ×V)}(v:V)(h:valV kvs k=none):putK kvs k v=kvs++[(k,v)]:=by
 unfold putK;rw[q3w,h];exact if_neg (by decide)
theorem RelO.isSome_eq(r:RelO o u):o.isSome=u.isSome:=by
 cases o with
 |none=>cases u with
  |none=>rfl
  |some _=>exact(show False from r).elim
 |some _=>cases u with
  |none=>exact(show False from r).elim
  |some _=>rfl
theorem RelO.getD(r:RelO o u)(rd:RelV d d'):RelV (o.getD d) (u.getD d'):=by
 cases o with
 |none=>cases u with
  |none=>exact rd
  |some _=>exact(show False from r).elim
 |some _=>cases u with
  |none=>exact(show False from r).elim
  |some _=>exact r
theorem KV.val(r:KV kvs vs)(k:κ):RelO (valV kvs k) (valueAt vs k):=by
 induction r with
 |nil=>exact True.intro
 | @cons p q ps qs h t ih =>
  obtain⟨h1,h2⟩:=h;by_cases e:p.1=k
  ·have e':q.1=k:=h1.symm.trans e;have b:valueAt (q::qs) k=some q.2:=by simp[valueAt,Gp,e']
   rw[q1c e,b];exact h2
  ·have e':¬q.1=k:=fun z=>e (h1.trans z);have b:valueAt (q::qs) k=valueAt qs k:=by simp[valueAt,Gp,e']
   rw[q0z e,b];exact ih
theorem KV.any(r:KV kvs vs)(k:κ):(kvs.any fun kv=>decide (kv.1=k))=vs.any fun kv=>decide (kv.1=k):=by
 induction r with
 |nil=>rfl
 |cons h t ih=>simp_all
theorem KV.repl(r:KV kvs vs)(k:κ)(ry:RelV y u):
  KV (kvs.map fun kv=>if kv.1=k then(kv.1,y) else kv) (vs.map fun kv=>if kv.1=k then(kv.1,u) else kv):=by
 induction r with
 |nil=>exact .nil
 | @cons p q ps qs h t ih =>
  refine .cons ?_ ih;by_cases e:p.1=k
  ·simp_all
  ·simp_all
theorem KV.put(r:KV kvs vs)(k:κ)(ry:RelV y u):KV (putK kvs k y) (stored vs k u):=by
 unfold putK stored;rw[r.any k];by_cases e:(vs.any fun kv=>decide (kv.1=k))=true
 ·rw[if_pos e,if_pos e];exact r.repl k ry
 ·rw[if_neg e,if_neg e];exact Dd.snoc r ⟨rfl,ry⟩
theorem KV.drop(r:KV kvs vs)(k:κ):KV (dropK kvs k) (without vs k):=by
 unfold dropK without;induction r with
 |nil=>exact .nil
 | @cons p q ps qs h t ih =>
  obtain⟨h1,h2⟩:=h;rw[Ud,Ud];by_cases e:p.1=k
  ·simp_all
  ·have e':¬q.1=k:=fun z=>e (h1.trans z);have a:decide (p.1≠k)=true:=by simp[e]
   have b:decide (q.1≠k)=true:=by simp[e']
   rw[if_pos a,if_pos b];exact .cons ⟨h1,h2⟩ ih
theorem KV.keys{kvs:List (κ×V)}(r:KV kvs vs):kvs.map (·.1)=vs.map (·.1):=by
 induction r with
 |nil=>rfl
 |cons h t ih=>grind
theorem KV.length{kvs:List (κ×V)}(r:KV kvs vs):kvs.length=vs.length:=Cz r
end
theorem z0c(r:RelV (kV k) u):(mixKind P w).is k u=true:=by
 cases k with
 |inl i=>obtain⟨t,e⟩:=(show ∃t,u=Value.int i t from r);subst e;exact q9s P w i t
 |inr x=>obtain⟨t,e⟩:=(show ∃t,u=Value.str x t from r);subst e;exact q9t P w x t
theorem q8p{P:Program}{w:World}:∀{ks:List Key} {us:List Value},Vals (ks.map kV) us->ItemsAre (mixKind P w) ks us
 |[],_,r=>by rw[Sd] at r;cases r;exact .nil
 |k::ks,_,r=>by
  rw[Ak] at r;cases r with
  |cons h t=>exact .cons (z0c h) (q8p t)
abbrev KT(H:Hp):List (List Key×V)->List (List Key×Addr×Value)->Prop:=Dd fun p q=>p.1=q.1/\H q.2.1=some (.tup (p.1.map kV))/\RelV p.2 q.2.2
theorem KT.val(r:KT H kvs xs)(k:List Key):RelO (valV kvs k) ((atKey xs k).map (·.2)):=by
 induction r with
 |nil=>exact True.intro
 | @cons p q ps qs h t ih =>
  obtain⟨h1,_,h2⟩:=h;by_cases e:p.1=k
  ·have e':q.1=k:=h1.symm.trans e;have b:atKey (q::qs) k=some q.2:=by simp[atKey,Gp,e']
   rw[q1c e,b];exact h2
  ·have e':¬q.1=k:=fun z=>e (h1.trans z);have b:atKey (q::qs) k=atKey qs k:=by simp[atKey,Gp,e']
   rw[q0z e,b];exact ih
theorem KT.repl(r:KT H kvs xs)(k:List Key)(ry:RelV y u):
  KT H (kvs.map fun kv=>if kv.1=k then(kv.1,y) else kv) (xs.map (putAt k u)):=by
 induction r with
 |nil=>exact .nil
 | @cons p q ps qs h t ih =>
  refine .cons ?_ ih;unfold putAt;by_cases e:p.1=k
  ·simp_all
  ·simp_all
theorem KT.put(r:KT H kvs xs)(k:List Key)(hb:H b=some (.tup (k.map kV)))(ry:RelV y u):
  KT H (putK kvs k y) (storedH xs k b u):=by
 have e:(kvs.any fun kv=>decide (kv.1=k))=(atKey xs k).isSome:=by
  rw[q3w,(r.val k).isSome_eq,Ko]
 unfold putK storedH;rw[e];by_cases q:(atKey xs k).isSome=true
 ·rw[if_pos q,if_pos q];exact r.repl k ry
 ·rw[if_neg q,if_neg q];exact Dd.snoc r ⟨rfl,hb,ry⟩
theorem KT.keeps(r:KT H kvs xs)(ht:∀b ys,H b=some (.tup ys)->H' b=some (.tup ys)):KT H' kvs xs :=
 Dd.mapP r fun _ _ z=>⟨z.1,ht _ _ z.2.1,z.2.2⟩
section
variable{P:Program}{w:World}{H:Hp}{h:Heap}{a:Addr}
theorem rd_of(ok:HOk P w H h)(e:Rd H a u):ObjOk P w H h a u:=e.ok ok
theorem z0d(ok:HOk P w H h)(e:Rd H a (.dK kvs)):kvs.length<=sizeLine/\(a==Cw)=false/\∃vs,KV kvs vs/\h.DictOf (mixKind P w) a vs :=
 show ObjOk P w H h a (.dK kvs) from rd_of ok e
theorem dk_of(ok:HOk P w H h)(e:H a=some (.dK kvs)):kvs.length<=sizeLine/\(a==Cw)=false/\∃vs,KV kvs vs/\h.DictOf (mixKind P w) a vs:=z0d ok (.inl e)
theorem q3x(ok:HOk P w H h)(e:H a=some (.tup (ks.map kV))):(Fp (mixKind P w)).is h ks a:=by
 obtain⟨_,its,r,o,h1,h2,n,h3⟩:=(show ObjOk P w H h a (.tup (ks.map kV)) from ok a _ e)
 exact⟨o,its.toArray,n,h1,h2,h3,by simpa using q8p r⟩
theorem z0e(ok:HOk P w H h)(e:Rd H a (.dT kvs)):kvs.length<=sizeLine/\(a==Cw)=false /\
  ∃xs,KT H kvs xs/\h.DictOfH (Fp (mixKind P w)) a xs:=by
 obtain⟨z,y,xs,r,o,es,ep,h1,h2,h3,h4,h5⟩:=(show ObjOk P w H h a (.dT kvs) from rd_of ok e)
 refine⟨z,y,xs,r,o,es,ep,h1,h2,h3,h4,fun x hx=>?_,h5⟩;have all:∀{l:List (List Key×V)} {m:List (List Key×Addr×Value)},KT H l m->∀x∈m,(Fp (mixKind P w)).is h x.1 x.2.1:=by
  intro l m q;induction q with
  |nil=>grind
  | @cons p q ps qs hq t ih =>
   intro x hx;rcases Be.mp hx with e|hx
   ·subst e;exact q3x ok (by rw[<- hq.1];exact hq.2.1)
   ·exact ih x hx
 exact all r x hx
theorem z2s(ok:HOk P w H h)(e:H a=some (.dT kvs)):kvs.length<=sizeLine/\(a==Cw)=false /\
  ∃xs,KT H kvs xs/\h.DictOfH (Fp (mixKind P w)) a xs:=z0e ok (.inl e)
end
def DGet(H:Hp)(a:Addr)(y:V)(r:Option V):Prop :=
 (∃kvs k,Rd H a (.dK kvs)/\y=kV k/\r=valV kvs k)\/∃kvs k b,Rd H a (.dT kvs)/\y=.ref b/\H b=some (.tup (k.map kV))/\r=valV kvs k
def DPut(H:Hp)(a:Addr)(y v:V)(H':Hp):Prop :=
 (∃kvs k,H a=some (.dK kvs)/\y=kV k/\kvs.length<sizeLine/\H'=upd H a (.dK (putK kvs k v))) \/
 ∃kvs k b,H a=some (.dT kvs)/\y=.ref b/\H b=some (.tup (k.map kV))/\kvs.length<sizeLine/\H'=upd H a (.dT (putK kvs k v))
theorem DGet.k{k:Key}(e:H a=some (.dK kvs)):DGet H a (kV k) (valV kvs k):=.inl ⟨kvs,k,.inl e,rfl,rfl⟩
theorem DGet.t{k:List Key}(e:H a=some (.dT kvs))(eb:H b=some (.tup (k.map kV))):DGet H a (.ref b) (valV kvs k):=.inr ⟨kvs,k,b,.inl e,rfl,eb,rfl⟩
theorem DPut.k{k:Key}(e:H a=some (.dK kvs))(hl:kvs.length<sizeLine):DPut H a (kV k) v (upd H a (.dK (putK kvs k v))):=.inl ⟨kvs,k,e,rfl,hl,rfl⟩
theorem DPut.t{k:List Key}(e:H a=some (.dT kvs))(eb:H b=some (.tup (k.map kV)))(hl:kvs.length<sizeLine):
  DPut H a (.ref b) v (upd H a (.dT (putK kvs k v))):=.inr ⟨kvs,k,b,e,rfl,eb,hl,rfl⟩
section
variable{X:Cx}{pins:List (Addr×Obj)}{σ:St}{H:Hp}{s:Ae}{a:Addr}{y v:V}{u r:Value}{o:Option V}{A:Around}{E:Value->Ae->Prop}
theorem Inv.big(I:Inv X pins σ H s):Cw<s.heap.objs.size:=by
 have h:=(I.mod.glob.keeps I.bk).lt;exact Nat.lt_trans (by decide) h
theorem z4l(hu:A.units+1<cLine)(I:Inv X pins σ H s)(g:DGet H a y (some v))(ry:RelV y u)(h:∀w' s',Inv X pins σ H s'->RelV v w'->Q w' s'):
  wpAny (model X.prog X.w) A (getItem (.ref a) u) Q E s:=by
 rcases g with⟨kvs,k,e,ey,l⟩|⟨kvs,k,b,e,ey,eb,l⟩
 ·subst ey;obtain⟨z,hd,vs,rel,dd⟩:=z0d I.hok e;obtain⟨w',hw,rw'⟩:=RelO.some_of (by rw[l];exact rel.val k);exact wpAny_getItem_of (z0c ry) dd.mapOf hw (h w' _ (I.tok _) rw')
 ·subst ey;cases(show u=Value.ref b from ry);obtain⟨z,hd,xs,rel,dd⟩:=z0e I.hok e;obtain⟨w',hw,rw'⟩:=RelO.some_of (by rw[l];exact rel.val k);obtain⟨p,hp,hp2⟩:=Kx.mp hw;refine wpAny_getItem_heap (Dy hu) (q3x I.hok eb) dd hp ?_;rw[hp2];exact h w' _ (I.tok _) rw'
theorem d_in(hu:A.units+1<cLine)(I:Inv X pins σ H s)(g:DGet H a y o)(ry:RelV y u)(h:∀s',Inv X pins σ H s'->Q (.bool o.isSome) s'):
  wpAny (model X.prog X.w) A (Cu .In u (.ref a)) Q E s:=by
 rcases g with⟨kvs,k,e,ey,l⟩|⟨kvs,k,b,e,ey,eb,l⟩
 ·subst ey;obtain⟨z,hd,vs,rel,dd⟩:=z0d I.hok e;refine wpAny_in_of (z0c ry) hd dd.mapOf ?_;rw[<- (rel.val k).isSome_eq,<- l];exact h _ (I.tok _)
 ·subst ey;cases(show u=Value.ref b from ry);obtain⟨z,hd,xs,rel,dd⟩:=z0e I.hok e;refine wpAny_in_heap (Dy hu) (q3x I.hok eb) hd dd ?_;have q:=(rel.val k).isSome_eq;rw[Ko] at q;rw[<- q,<- l];exact h _ (I.tok _)
theorem x0a(hu:A.units+1<cLine)(I:Inv X pins σ H s)(g:DGet H a y o)(ry:RelV y u)(h:∀s',Inv X pins σ H s'->Q (.bool (!o.isSome)) s'):
  wpAny (model X.prog X.w) A (Cu .NotIn u (.ref a)) Q E s:=by
 rcases g with⟨kvs,k,e,ey,l⟩|⟨kvs,k,b,e,ey,eb,l⟩
 ·subst ey;obtain⟨z,hd,vs,rel,dd⟩:=z0d I.hok e;refine wpAny_notIn_of (z0c ry) hd dd.mapOf ?_;rw[<- (rel.val k).isSome_eq,<- l];exact h _ (I.tok _)
 ·subst ey;cases(show u=Value.ref b from ry);obtain⟨z,hd,xs,rel,dd⟩:=z0e I.hok e;refine wpAny_notIn_heap (Dy hu) (q3x I.hok eb) hd dd ?_;have q:=(rel.val k).isSome_eq;rw[Ko] at q;rw[<- q,<- l];exact h _ (I.tok _)
theorem q7a(I:Inv X pins σ H s)(mu:Mut (H a))(hs:Ep a s.heap h')(he:∃q,h'.get? a=some q)(new:ObjOk X.prog X.w (upd H a ob) h' a ob):
  Inv X pins σ (upd H a ob) { s with heap:=h',toks:=t' } :=
 I.write mu (.inl rfl) (fun b q hb z=>(hs.2 b hb).trans z) he new
theorem dk_new(z:kvs.length<=sizeLine)(hd:(a==Cw)=false)(rel:KV kvs vs)(dd:h'.DictOf (mixKind P w) a vs):
  ObjOk P w H' h' a (.dK kvs):=⟨z,hd,vs,rel,dd⟩
theorem z4m(hu:A.units+1<cLine)(I:Inv X pins σ H s)(g:DPut H a y v H')(ry:RelV y u)(rv:RelV v r)(h:∀s',Inv X pins σ H' s'->Q () s'):
  wpAny (model X.prog X.w) A (setItem (.ref a) u r) Q E s:=by
 rcases g with⟨kvs,k,e,ey,l,eH⟩|⟨kvs,k,b,e,ey,eb,l,eH⟩
 ·subst ey eH;obtain⟨z,hd,vs,rel,dd⟩:=dk_of I.hok e;have hz:vs.length<=sizeLine:=by rw[<- rel.length];exact z
  have hl:(putK kvs k v).length<=sizeLine:=by have:=q1i kvs k v;lia
  refine wpAny_setItem_pairs (z0c ry) dd fun h' dd' hs=>h _ ?_;have he:∃q,h'.get? a=some q:=let ⟨q,_,_,hq,_⟩:=dd';⟨q,hq⟩;exact q7a I (by rw[e];exact True.intro) hs he (dk_new hl hd (rel.put k rv) dd')
 ·subst ey eH;cases(show u=Value.ref b from ry);obtain⟨z,hd,xs,rel,dd⟩:=z2s I.hok e;have hz:xs.length<=sizeLine:=by rw[<- Cz rel];exact z
  have hl:(putK kvs k v).length<=sizeLine:=by have:=q1i kvs k v;lia
  refine Se (Dy hu) (q3x I.hok eb) dd fun h' dd' hs=>h _ ?_;obtain⟨q,es,ep,hq,h2,h3,h4,_,h5⟩:=dd';refine q7a I (by rw[e];exact True.intro) hs ⟨q,hq⟩ ⟨hl,hd,_,(rel.put k eb rv).keeps fun c ys ec=>?_,q,es,ep,hq,h2,h3,h4,h5⟩;rw[q0c (q9u ec e (fun z=>nomatch z))];exact ec
end
def NoSl(i:Expr):Prop:=∀ov iv,Pe i false ov iv=operate [ov,iv] (getItem ov iv)
theorem x0b{id:String}(hl:Np (.type T) "__getitem__" = pure (some (.builtin id)))(hs:NoSl slice)(h:wpAny (model prog w) A (eval value env) (fun o s₁=>wpAny (model prog w) A (eval slice env) (fun i s₂=>s₂.TypeIs o T/\wpAny (model prog w) A (getItem o i) Q E s₂) E s₁) E s):
  wpAny (model prog w) A (eval (.Subscript value slice pos) env) Q E s:=by
 refine Ur (Br h (fun o s₁ h₁=>Br h₁ (fun i s₂ h₂=>?_) fun _ _ x=>x) fun _ _ x=>x);obtain⟨hT,h₂⟩:=h₂;refine Ab ?_;refine Ab (Hq hT hl ?_);have fin:wpAny (model prog w) A (Pe slice false o i) (fun r s₃=>wpAny (model prog w) A (letTemporaryGo value o r >>= fun _=>pure r) Q E s₃) E s₂:=by
  rw[hs o i];exact wpAny_operating (Br h₂ (fun r s₃ h₃=>Ab (wpAny_letTemporaryGo (Ad h₃))) fun _ _ x=>x)
 first
  |exact Ad (Ab fin)
  |exact Ab (Ad (Ab fin))
  |exact Ab fin
theorem z0f{σ:St}(I:Inv X pins σ H s)(g:DGet H a y o):s.TypeIs (.ref a) "dict" := by
 rcases g with⟨kvs,k,e,_,_⟩|⟨kvs,k,b,e,_,_,_⟩
 ·obtain⟨_,_,vs,_,dd⟩:=z0d I.hok e;exact dd.typeIs
 ·obtain⟨_,_,xs,_,dd⟩:=z0e I.hok e;exact dd.typeIs
def tDGet(td ty:TE):TE:=fun σ H Q=>td σ H fun x H1=>ty σ H1 fun y H2=>∃a v,x=.ref a/\DGet H2 a y (some v)/\Q v H2
def tDIn(ty td:TE):TE:=fun σ H Q=>ty σ H fun y H1=>td σ H1 fun x H2=>∃a o,x=.ref a/\DGet H2 a y o/\Q (.bl o.isSome) H2
def tDNotIn(ty td:TE):TE:=fun σ H Q=>ty σ H fun y H1=>td σ H1 fun x H2=>∃a o,x=.ref a/\DGet H2 a y o/\Q (.bl (!o.isSome)) H2
def sDPut(td ty tv:TE):TS:=fun D σ H=>tv σ H fun v H1=>td σ H1 fun x H2=>ty σ H2 fun y H3=>∃a H4,x=.ref a/\DPut H3 a y v H4/\D.nx σ H4
section
variable{X:Cx}{o i e value:Expr}{pos pos' tpos:Pos}{td ty tv:TE}
theorem q2h(hu:X.A.units+1<cLine)(ho:PE X o td)(hi:PE X i ty)(hs:NoSl i):PE X (.Subscript o i pos) (tDGet td ty):=by
 intro pins s σ H Q I h;refine x0b PySem.F.slot_dict_getitem.lookup hs (thn (ho pins s σ H _ I h) fun u s1 ⟨x,H1,I1,rx,q1⟩=>thn (hi pins s1 σ H1 _ I1 q1) fun iv s2 ⟨y,H2,I2,ry,a,v,ex,g,q2⟩=>?_);subst ex;obtain rfl:u=Value.ref a:=rx;exact⟨z0f I2 g,z4l hu I2 g ry fun w' s3 I3 rw'=>⟨v,H2,I3,rw',q2⟩⟩
theorem z4n(hu:X.A.units+1<cLine)(hi:PE X i ty)(ho:PE X o td):PC X .In i o (tDIn ty td):=by
 intro pins s σ H Q I h;refine thn (hi pins s σ H _ I h) fun iv s1 ⟨y,H1,I1,ry,q1⟩=>thn (ho pins s1 σ H1 _ I1 q1) fun u s2 ⟨x,H2,I2,rx,a,ov,ex,g,q2⟩=>?_;subst ex;obtain rfl:u=Value.ref a:=rx;exact d_in hu I2 g ry fun s3 I3=>⟨.bl ov.isSome,H2,I3,rfl,q2⟩
theorem q8q(hu:X.A.units+1<cLine)(hi:PE X i ty)(ho:PE X o td):PC X .NotIn i o (tDNotIn ty td):=by
 intro pins s σ H Q I h;refine thn (hi pins s σ H _ I h) fun iv s1 ⟨y,H1,I1,ry,q1⟩=>thn (ho pins s1 σ H1 _ I1 q1) fun u s2 ⟨x,H2,I2,rx,a,ov,ex,g,q2⟩=>?_;subst ex;obtain rfl:u=Value.ref a:=rx;exact x0a hu I2 g ry fun s3 I3=>⟨.bl (!ov.isSome),H2,I3,rfl,q2⟩
theorem q7b(hu:X.A.units+1<cLine)(ho:PE X o td)(hi:PE X i ty)(hv:PE X value tv)(hs:Jp value (some (.Subscript o i pos')) pos.line X.env=pure false):
  PS X (.Assign [.Subscript o i pos'] value pos) (sDPut td ty tv):=by
 intro pins s σ H D I h;refine Ph (thn (hv pins s σ H _ I h) fun r s1 ⟨v,H1,I1,rv,q1⟩=>thn (ho pins s1 σ H1 _ I1 q1) fun u s2 ⟨x,H2,I2,rx,q2⟩=>thn (hi pins s2 σ H2 _ I2 q2) fun iv s3 ⟨y,H3,I3,ry,a,H4,ex,g,q3⟩=>?_) hs;subst ex;obtain rfl:u=Value.ref a:=rx;exact z4m hu I3 g ry rv fun s4 I4=>⟨σ,H4,I4,q3⟩
end
theorem q7c(h:Heap)(hb:Cw<h.objs.size):ObjOk P w H (h.push { cls:=.type "dict",data:=.dict #[] }) h.objs.size (.dT []) :=
 ⟨By _,beq_eq_false_iff_ne.mpr (Bo (Bd hb)),[],.nil,_,#[],0,Av _ rfl,⟨rfl,rfl,rfl⟩,rfl,rfl,Mm⟩
def tDNewT:TE:=fun _ H Q=>∀p,H p=none->Q (.ref p) (upd H p (.dT []))
section
variable{X:Cx}{pos:Pos}
theorem q4v:PE X (.Dict [] [] pos) tDNewT:=fun pins s σ H Q I h =>
 wpAny_Dict_empty ⟨.ref s.heap.objs.size,_,I.laid (t':=s.toks) (fun _ _ q=>Af _ q) (Am _) (q7c s.heap I.big),rfl,h _ (I.hok.fresh (Am _))⟩
end
def mergeK(kvs more:List (Key×V)):List (Key×V):=more.foldl (fun acc kv=>putK acc kv.1 kv.2) kvs
theorem KV.merge:∀{more:List (Key×V)} {rs:List (Key×Value)} {kvs:List (Key×V)} {vs:List (Key×Value)},KV more rs->KV kvs vs->KV (mergeK kvs more) (merged vs rs):=by
 intro more rs kvs vs r;induction r generalizing kvs vs with
 |nil=>intro q;exact q
 | @cons p q ps qs h t ih =>
  intro r0;have e:KV (putK kvs p.1 p.2) (stored vs q.1 q.2):=by
   have:=r0.put p.1 h.2;rw[<- h.1];exact this
  exact ih e
structure M2 (X:Cx) (o:Expr) (m:Str) (apos:Pos) (e f:Expr) (cpos:Pos):Prop where
 base:Ft o m X.env (eval o X.env)=eval o X.env
 few:((Dq cpos (Ba [e,f] X.env)).all (fun x => !x.1)&&(Lb cpos (Hw [] X.env)).all (fun x=>x.1.isSome)
  && decide (([e,f]:List Expr).length+([]:List Qa).length+(if ([]:List Qa).isEmpty then 0 else 1)<30))=true
 line:(apos.endLine==cpos.line)=true
 trees:Dq cpos (Ba [e,f] X.env)=[(false,eval e X.env),(false,eval f X.env)]
def IsD(H:Hp)(a:Addr):Prop:=(∃kvs,Rd H a (.dK kvs))\/∃kvs,Rd H a (.dT kvs)
theorem isD_at{σ:St}(I:Inv X pins σ H s)(d:IsD H a):
  s.TypeIs (.ref a) "dict" /\ (∀b,Value.ref a=.ref b->∃ob,s.heap.get? b=some ob/\ob.dict=none)/\(a==Cw)=false:=by
 rcases d with⟨kvs,e⟩|⟨kvs,e⟩
 ·obtain⟨_,hd,vs,_,dd⟩:=z0d I.hok e;refine⟨dd.typeIs,fun b q=>?_,hd⟩;cases q;obtain⟨ob,_,_,h1,h2,_⟩:=dd;exact⟨ob,h1,h2.2.1⟩
 ·obtain⟨_,hd,xs,_,dd⟩:=z0e I.hok e;refine⟨dd.typeIs,fun b q=>?_,hd⟩;cases q;obtain⟨ob,_,_,h1,h2,_⟩:=dd;exact⟨ob,h1,h2.2.1⟩
section
variable{X:Cx}{pins:List (Addr×Obj)}{σ:St}{H:Hp}{s:Ae}{a:Addr}{y d:V}{u r:Value}{o:Option V}{A:Around}{E:Value->Ae->Prop}
theorem d_get2(hu:A.units+1<cLine)(I:Inv X pins σ H s)(g:DGet H a y o)(ry:RelV y u)(rd:RelV d r)(h:∀w' s',Inv X pins σ H s'->RelV (o.getD d) w'->Q w' s'):
  wpAny (model X.prog X.w) A (call (.builtin "dict.get") [.ref a,u,r]) Q E s:=by
 rcases g with⟨kvs,k,e,ey,l⟩|⟨kvs,k,b,e,ey,eb,l⟩
 ·subst ey;obtain⟨z,hd,vs,rel,dd⟩:=z0d I.hok e;refine call_meetsIn Lg dd.typeIs Pj (Oo _ _ _) (meets_dict_get_default (mixKind X.prog X.w) a (z0c ry) hd r) ⟨_,dd.mapOf,h _ _ (I.tok _) ?_⟩;rw[l];exact(rel.val k).getD rd
 ·subst ey;cases(show u=Value.ref b from ry);obtain⟨z,hd,xs,rel,dd⟩:=z0e I.hok e;refine call_meetsIn Lg dd.typeIs Pj (Oo _ _ _) (meetsH_dict_get_default (Fp (mixKind X.prog X.w)) a b hd r) ⟨Dy hu,k,xs,q3x I.hok eb,dd,h _ _ (I.tok _) ?_⟩;rw[l];exact(rel.val k).getD rd
end
def tDGet2(td ty tx:TE):TE:=fun σ H Q=>td σ H fun x H1=>∃a,x=.ref a/\IsD H1 a/\ty σ H1 fun y H2=>tx σ H2 fun z H3=>∃o,DGet H3 a y o/\Q (o.getD z) H3
section
variable{X:Cx}{o e f:Expr}{apos cpos:Pos}{td ty tx:TE}
theorem z1h(hu:X.A.units+1<cLine)(ho:PE X o td)(he:PE X e ty)(hf:PE X f tx)(m:M2 X o "get" apos e f cpos):PE X (.Call (.Attribute o "get" apos) [e,f] [] cpos) (tDGet2 td ty tx):=by
 intro pins s σ H Q I h;refine wpAny_Call_method m.base m.few m.line Kl Lg PySem.F.type_dict_get (thn (ho pins s σ H _ I h) fun u s1 ⟨x,H1,I1,rx,a,ex,d,q1⟩=>?_);subst ex;obtain rfl:u=Value.ref a:=rx;obtain⟨t1,t2,_⟩:=isD_at I1 d;refine⟨t1,t2,?_⟩;rw[m.trees];refine Kw rfl (Qt (Mq (thn (he pins s1 σ H1 _ I1 q1) fun iv s2 ⟨y,H2,I2,ry,q2⟩ =>
  Mq (thn (hf pins s2 σ H2 _ I2 q2) fun fv s3 ⟨z,H3,I3,rz,ov,g,q3⟩=>Sw ?_))))
 exact d_get2 hu I3 g ry rz fun w' s4 I4 rw'=>⟨_,H3,I4,rw',q3⟩
end
end L2
namespace K
open PySem L2 TX
def FIs:Str:=Ag "0123456789"
def LEs:Str:=Ag "abcdefghijklmnopqrstuvwxyzABCDEFGHIJKLMNOPQRSTUVWXYZ"
abbrev FI:List Nat:=tl FIs
abbrev LE:List Nat:=tl LEs
def allOf(t s:List Nat):Bool:=decide (t≠[])&&t.all fun c=>decide (c∈s)
def gapTakes(c:Nat)(t:List Nat):Bool:=if c=63 then decide (t.length=1) else if c=35 then allOf t FI else if c=64 then allOf t LE else true
def Pt.takes:Pt->List Nat->Bool
 |.tx l,t=>decide (t=l)
 |.gp c,t=>gapTakes c t
def cut(n:List Nat)(b e:Nat):List Nat:=(n.drop b).take (e-b)
def farTo(p:Pt)(n:List Nat)(L:Nat->Bool)(b k:Nat):Option Nat:=((List.range' b k).filter fun e=>L e&&p.takes (cut n b e)).getLast?
def far(p:Pt)(n:List Nat)(L:Nat->Bool)(b:Nat):Option Nat:=if b<=n.length then farTo p n L b (n.length+1-b) else none
def fits(n:List Nat):List Pt->Nat->Bool
 |[],b=>decide (b=n.length)
 |p::ps,b=>(far p n (fits n ps) b).isSome
def rd(n:List Nat):List Pt->Nat->List (List Nat)
 |[],_=>[]
 |p::ps,b=>(if p.isG then[cut n b ((far p n (fits n ps) b).getD 0)] else[])++rd n ps ((far p n (fits n ps) b).getD 0)
structure DF (H:Hp) (a:Addr) (f:Nat->Option Nat):Prop where
 ex:∃kvs:List (Key×V),H a=some (.dK kvs)/\kvs.length<=5000/\∀b:Nat,valV kvs (Sum.inl (b:Int))=(f b).map fun e=>V.int (e:Nat)
theorem DF.same(h:DF H a f)(sm:Same H H'):DF H' a f:=let ⟨kvs,h1,h2,h3⟩:=h.ex;⟨kvs,sm _ _ h1,h2,h3⟩
theorem DF.get(h:DF H a f)(b:Nat):DGet H a (.int (b:Int)) ((f b).map fun e=>V.int (e:Nat)):=by
 obtain⟨kvs,h1,h2,h3⟩:=h.ex;have:=DGet.k (k:=Sum.inl (b:Int)) h1;rw[h3] at this;exact this
theorem DF.new(h:DF H a f)(hb:H b=none):DF (upd H b o) a f:=h.same ((Same.refl H).new hb)
inductive DS (H:Hp) (n:List Nat):List Addr->List Pt->Prop
 |nil:DS H n [] []
 |cons {d:Addr} {p:Pt} {ds:List Addr} {ps:List Pt}:DF H d (far p n (fits n ps))->DS H n ds ps->DS H n (d::ds) (p::ps)
theorem DS.same(h:DS H n ds ps)(sm:Same H H'):DS H' n ds ps:=by
 induction h with
 |nil=>exact .nil
 |cons a _ ih=>exact .cons (a.same sm) ih
theorem DS.len(h:DS H n ds ps):ds.length=ps.length:=by
 induction h with
 |nil=>rfl
 |cons _ _ ih=>simp[ih]
theorem DS.get(h:DS H n ds ps):∀{i:Nat} {d:Addr},ds[i]?=some d->∃p,ps[i]?=some p/\DF H d (far p n (fits n (ps.drop (i+1)))):=by
 induction h with
 |nil=>simp_all
 | @cons d0 p ds ps a _ ih =>
  intro i d h;cases i with
  |zero=>simp_all
  |succ i =>simp_all
theorem q4q(l:List Nat):(mk l).length=l.length:=by rw[len,q2b]
theorem mk_inj:mk a=mk b↔a=b:=by grind
theorem dec_str(a b:List Nat):decide (V.str (mk a)=V.str (mk b))=decide (a=b):=by simp_all
end K
namespace L2
open PySem PySem.Spec PyProof.Rows
theorem Inv.freezeK{σ:St}(I:Inv X pins σ H s)(hd:H d=some u)(ho:s.heap.get? d=some ob)(hu:(∃kvs,u=.dK kvs)\/∃kvs,u=.dT kvs):Inv X pins σ (upd H d (.frz ob u)) s:=by
 have no:∀{v:HO} {b:Addr},H b=some v->((∀kvs,v≠.dK kvs)/\∀kvs,v≠.dT kvs)->b≠d:=fun{v b} z hv y=>by
  subst y;rw[hd] at z;cases z;rcases hu with⟨kvs,rfl⟩|⟨kvs,rfl⟩
  ·exact hv.1 _ rfl
  ·exact hv.2 _ rfl
 have nn:∀{b:Addr},H b=none->b≠d:=fun{b} z y=>by subst y;rw[hd] at z;cases z
 refine⟨I.ok,I.os,I.bare,⟨I.base.keep,I.base.slot,fun b o e n hx=>?_,I.base.there,fun b xs e=>?_,fun b o v e=>?_,fun b ps e=>?_⟩,I.loc,I.cell,?_,fun x c e=>?_,fun p hp=>?_,fun b v e=>?_,I.len⟩
 ·have z:=I.base.free b o e n hx;rw[q0c (nn z)];exact z
 ·have z:=I.base.tups b xs e;rw[q0c (no z ⟨fun _ y=>(by cases y),fun _ y=>(by cases y)⟩)];exact z
 ·have z:=I.base.frzs b o v e;rw[q0c (no z ⟨fun _ y=>(by cases y),fun _ y=>(by cases y)⟩)];exact z
 ·obtain⟨m,z⟩:=I.base.tbls b ps e;exact⟨m,by rw[q0c (no z ⟨fun _ y=>(by cases y),fun _ y=>(by cases y)⟩)];exact z⟩
 ·rw[q0c (nn I.free)];exact I.free
 ·rw[q0c (nn (I.freeC x c e))];exact I.freeC x c e
 ·obtain⟨e,n,ne,nf',dd⟩:=I.pin p hp;exact⟨e,by rw[q0c (nn n)];exact n,ne,nf',dd⟩
 ·have st:∀{b:Addr} {v:HO},ObjOk X.prog X.w H s.heap b v->ObjOk X.prog X.w (upd H d (.frz ob u)) s.heap b v:=fun x =>
   x.stay (fun _ _ _ q=>q) (fun c q=>by rw[q0c (no q ⟨fun _ y=>(by cases y),fun _ y=>(by cases y)⟩)];exact q) fun c xs q=>by rw[q0c (no q ⟨fun _ y=>(by cases y),fun _ y=>(by cases y)⟩)];exact q
  by_cases hb:b=d
  ·subst hb;rw[q0b] at e;cases e;exact⟨ho,st (I.hok b u hd)⟩
  ·rw[q0c hb] at e;exact st (I.hok b v e)
theorem KV.at'(r:KV kvs vs):∀{i:Nat} {k:Key} {v:V},kvs[i]?=some (k,v)->∃u,vs[i]?=some (k,u):=by
 induction r with
 |nil=>simp_all
 | @cons p q ps qs h t ih =>
  intro i k v hx;cases i with
  |zero=>simp at hx;subst hx;obtain⟨q1,q2⟩:=q;have:=h.1;simp at this;subst this;exact⟨q2,rfl⟩
  |succ i=>simp_all
end L2
namespace K
open PySem L2 TX
def dg(m:Nat):List Nat:=tl (Ag (toString (m:Int)))
theorem dg_mk(m:Nat):Ag (toString (m:Int))=mk (dg m):=(z4i _).symm
theorem z7p(m:Nat):dg m=(Nat.toDigits 10 m).map Char.toNat:=W.KIN.signs_num m
theorem q7d(h:m<10):dg m=[48+m]:=by
 rw[z7p,Nat.toDigits_of_lt_base h];exact(by decide:∀m:Nat,m<10->[Nat.digitChar m].map Char.toNat=[48+m]) m h
theorem x0c(h:10<=m):dg m=dg (m / 10)++[48+m%10]:=by
 have hm:m%10<10:=Nat.mod_lt m (by decide);have t:Nat.toDigits 10 (m / 10)++Nat.toDigits 10 (m%10)=Nat.toDigits 10 (10*(m / 10)+m%10):=Nat.toDigits_append_toDigits (by decide) (by lia) hm;rw[Nat.div_add_mod] at t;rw[z7p,z7p,<- t,Aj];congr 1;exact(z7p (m%10)).symm.trans (q7d hm)
theorem z9b:∀(k m:Nat),m<10^(k+1)->(dg m).length<=k+1
 |0,m,h=>by rw[q7d (by simpa using h)];exact Am _
 |k+1,m,h=>by
  by_cases hz:m<10
  ·rw[q7d hz];simp
  ·rw[x0c (by lia),Ap,Dw];have:=z9b k (m / 10) (by rw[Nat.pow_succ] at h;lia);lia
end K
namespace L2
open PySem PySem.Spec PyProof.Rows
theorem Inv.thaw{σ:St}(I:Inv X pins σ H s)(hd:H d=some (.frz ob u))(h0:∀o v,X.H₀ d≠some (.frz o v)):Inv X pins σ (upd H d u) s:=by
 have no:∀{v:HO} {b:Addr},H b=some v->(∀o z,v≠.frz o z)->b≠d:=fun{v b} z hv y=>by
  subst y;rw[hd] at z;cases z;exact hv _ _ rfl
 have nn:∀{b:Addr},H b=none->b≠d:=fun{b} z y=>by subst y;rw[hd] at z;cases z
 refine⟨I.ok,I.os,I.bare,⟨I.base.keep,I.base.slot,fun b o e n hx=>?_,I.base.there,fun b xs e=>?_,fun b o v e=>?_,fun b ps e=>?_⟩,I.loc,I.cell,?_,fun x c e=>?_,fun p hp=>?_,fun b v e=>?_,I.len⟩
 ·have z:=I.base.free b o e n hx;rw[q0c (nn z)];exact z
 ·have z:=I.base.tups b xs e;rw[q0c (no z fun _ _ y=>(by cases y))];exact z
 ·have z:=I.base.frzs b o v e;rw[q0c (fun y=>by subst y;exact h0 _ _ e)];exact z
 ·obtain⟨m,z⟩:=I.base.tbls b ps e;exact⟨m,by rw[q0c (no z fun _ _ y=>(by cases y))];exact z⟩
 ·rw[q0c (nn I.free)];exact I.free
 ·rw[q0c (nn (I.freeC x c e))];exact I.freeC x c e
 ·obtain⟨e,n,ne,nf',dd⟩:=I.pin p hp;exact⟨e,by rw[q0c (nn n)];exact n,ne,nf',dd⟩
 ·have st:∀{b:Addr} {v:HO},ObjOk X.prog X.w H s.heap b v->ObjOk X.prog X.w (upd H d u) s.heap b v:=fun x =>
   x.stay (fun _ _ _ q=>q) (fun c q=>by rw[q0c (no q fun _ _ y=>(by cases y))];exact q) fun c xs q=>by rw[q0c (no q fun _ _ y=>(by cases y))];exact q
  by_cases hb:b=d
  ·subst hb;rw[q0b] at e;cases e;exact st (I.hok b _ hd).2
  ·rw[q0c hb] at e;exact st (I.hok b v e)
def Ends.thaw(D:Ends)(d:Addr):Ends where
 nx:=fun σ H=>∃ob u,H d=some (.frz ob u)/\D.nx σ (upd H d u)
 rt:=fun v H=>∃ob u,H d=some (.frz ob u)/\D.rt v (upd H d u)
 bk:=fun σ H=>∃ob u,H d=some (.frz ob u)/\D.bk σ (upd H d u)
 ct:=fun σ H=>∃ob u,H d=some (.frz ob u)/\D.ct σ (upd H d u)
def tThaw(h₀:Hp)(t:TS):TS:=fun D σ H=>∃d,(∀o v,h₀ d≠some (.frz o v))/\t (D.thaw d) σ H
theorem x0d{X:Cx}{st:Stmt}{t:TS}(h₀:Hp)(hH:X.H₀=h₀)(h:PS X st t):PS X st (tThaw h₀ t):=by
 subst hH;intro pins s σ H D I q;obtain⟨d,hd,q⟩:=q;refine Br (h pins s σ H _ I q) (fun f s' z=>?_) fun _ _ z=>z;cases f with
 |next=>obtain⟨σ',H',I',ob,u,e,n⟩:=z;exact⟨σ',_,I'.thaw e hd,n⟩
 |brk=>obtain⟨σ',H',I',ob,u,e,n⟩:=z;exact⟨σ',_,I'.thaw e hd,n⟩
 |cont=>obtain⟨σ',H',I',ob,u,e,n⟩:=z;exact⟨σ',_,I'.thaw e hd,n⟩
 |ret v=>obtain⟨x,σ',H',I',r,ob,u,e,n⟩:=z;exact⟨x,σ',_,I'.thaw e hd,r,n⟩
end L2
namespace PySem.Rv
open Sem (wp)
section
variable{prog:Program}{w:World}{A:Around}{E:Value->Ae->Prop}{s:Ae}{it d:Addr}{i ep:Nat}{dob:Obj}{ens:Array Iq}
theorem keys_iter(hsys:(d==Cw)=false)(hT:s.TypeIs (.ref d) "dict")(hdo:s.heap.get? d=some dob)(hda:dob.data=.dict ens ep)(hQ:Q (.ref s.heap.objs.size) { s with heap:=s.heap.push { cls:=.type "dict_keyiterator",data:=.fields #[.ref d,.int 0 0,.int ens.size 0,.int ep 0] } }):
  wpAny (model prog w) A (Pw (.ref d)) Q E s:=by
 refine Tb hT Of (Bu Of hT F.entry_dict_iter ?_ (F.args_dict_iter_1 _));refine Ab (Ab (Gq hT (Ad ?_)));show wpAny _ _ (Il d >>= _) _ _ s;unfold Il;rw[if_neg (by rw[hsys];decide)];refine Ab (Ad (Ab (Cj hdo hda (Ab (Fh hdo hda ?_)))));refine Ab (Bx (Ad ⟨_,rfl, "dict_keyiterator",_,⟨_,Av _ rfl,rfl⟩,Ei.lookup,?_⟩));simpa[Es] using hQ
theorem keys_item(hki:s.heap.IsKeyIter it d i ens.size ep)(hdo:s.heap.get? d=some dob)(hda:dob.data=.dict ens ep)(hlt:i<ens.size)(hQ:∀h',h'.IsKeyIter it d (i+1) ens.size ep->Ep it s.heap h'->Q (some ens[i].key) { s with heap:=h' }):wpAny (model prog w) A (Jq (.ref it)) Q E s:=by
 obtain⟨io,hio,hic,hid⟩:=id hki;refine Ab (Ew (Cg hki.typeIs Ei
  (Bu Ei hki.typeIs Mg ?_ (Lz _))))
 refine Ab (Ad (Ab (Ab ?_)));first|refine Ab (Fw hki.typeIs (Ad ?_))|refine Ab (Hi hki.typeIs (Ad ?_))
 refine Ab (Mn hio hid ?_);refine Ab (Ad (Ab (Cj hdo hda ?_)));rw[if_neg (by simp)];refine Ab (Ad (Ab (Fh hdo hda ?_)));rw[if_neg (by simp)];refine Ad ?_;simp only[show ¬((i:Int)<0) from by lia,if_false,Kp,Ds hlt];refine Ab ?_;first|refine Ab (Fw hki.typeIs (Ad ?_))|refine Ab (Hi hki.typeIs (Ad ?_))
 refine Ab (Qd hki.typeIs ?_);show wpAny _ _ (setField (.ref it) 1 (Es ((i:Int)+1)) >>= _) _ _ s;refine Ab (He hio hid (by simp) ?_);have hki2:(s.heap.update it (Ex (·.setIfInBounds 1 (Es ((i:Int)+1))))).IsKeyIter it d (i+1) ens.size ep :=
  ⟨_,De _ hio (Lh (Gm hid _)),(Obj.cls_mapFields ..).trans hic,by rw[Gm hid];simp[Es]⟩
 refine Ab (Bm (Ab (Qd (s:={ s with heap:=s.heap.update it (Ex (·.setIfInBounds 1 (Es ((i:Int)+1)))) }) hki2.typeIs ?_)));exact Ad (Ad ⟨_,rfl,Ad (hQ _ hki2 (Cv ..))⟩)
theorem keys_end(hh:A.handled=none)(hki:s.heap.IsKeyIter it d i ens.size ep)(hdo:s.heap.get? d=some dob)(hda:dob.data=.dict ens ep)(hge:ens.size<=i)(hQ:∀h',Ts it s.heap h'->Q none { s with heap:=h' }):wpAny (model prog w) A (Jq (.ref it)) Q E s:=by
 obtain⟨io,hio,hic,hid⟩:=id hki;refine Ab (Ew (Cg hki.typeIs Ei
  (Bu Ei hki.typeIs Mg ?_ (Lz _))))
 refine Ab (Ad (Ab (Ab ?_)));first|refine Ab (Fw hki.typeIs (Ad ?_))|refine Ab (Hi hki.typeIs (Ad ?_))
 refine Ab (Mn hio hid ?_);refine Ab (Ad (Ab (Cj hdo hda ?_)));rw[if_neg (by simp)];refine Ab (Ad (Ab (Fh hdo hda ?_)));rw[if_neg (by simp)];refine Ad ?_;simp only[show ¬((i:Int)<0) from by lia,if_false,Kp,Pk hge];refine Ab ?_;first|refine Ab (Fw hki.typeIs (Ad ?_))|refine Ab (Hi hki.typeIs (Ad ?_))
 show wpAny _ _ (setField (.ref it) 0 .none >>= _) _ _ s;refine Ab (He hio hid (by simp) ?_);refine Ab ?_;refine Ab (Bx ?_ (by size_fits));refine Ab (Tu (by first|rfl|(simp only[firstArgMember];rfl)) ?_);refine Bx ?_ (by size_fits);refine Ab (wpAny_handled ?_);rw[show A.in1.handled=none from hh];refine Ab (Ad (wpAny_throw ?_));refine Ab (Ge ⟨_,Av _ rfl,rfl⟩ Qc ?_);exact Ad (hQ _ (((Cv ..).extBut.push _).push _))
end
end PySem.Rv
namespace L2
open PySem PySem.Spec PyProof.Rows
def Itk(d:Addr)(ob:Obj)(kvs:List (List Key×V)):It :=
 ⟨fun i H=>H d=some (.frz ob (.dT kvs))/\i<kvs.length,fun i H x H'=>H'=H/\∃k v b,kvs[i]?=some (k,v)/\H b=some (.tup (k.map kV))/\x=.ref b,fun i H=>H d=some (.frz ob (.dT kvs))/\kvs.length<=i⟩
theorem Dd.at'{F:α->β->Prop}:∀{l:List α} {m:List β} {i:Nat} {p:α},Dd F l m->l[i]?=some p->∃q,m[i]?=some q/\F p q
 |_,_,0,_,.cons h t,e=>by simp at e;subst e;exact⟨_,rfl,h⟩
 |_,_,i+1,_,.cons h t,e=>by
  obtain⟨q,h1,h2⟩:=Dd.at' t (by simpa using e);exact⟨q,by simpa using h1,h2⟩
theorem z4o(ok:HOk P w H h)(hfz:H d=some (.frz ob (.dT kvs)))(hob:ob.data=.dict ens ep):
  h.get? d=some ob/\ens.size=kvs.length/\∀{i:Nat} {k:List Key} {v:V} (hlt:i<ens.size),kvs[i]?=some (k,v)->∃b,ens[i].key=.ref b/\H b=some (.tup (k.map kV)):=by
 obtain⟨hget,z,hsys,xs,hp,o,es,ep',h1,h2,h3,h4,h5⟩:=(show ObjOk P w H h d (.frz ob (.dT kvs)) from ok d _ hfz)
 rw[hget] at h1;cases h1;rw[hob] at h3;cases h3;have hl:=Cz hp;have hz:ens.size=xs.length:=by rw[<- Em,h4,Ac]
 refine⟨hget,by lia,fun{i k v} hlt hk=>?_⟩;obtain⟨q,hq,e1,e2,e3⟩:=Dd.at' hp hk;refine⟨q.2.1,?_,e2⟩;have:ens.toList[i]?=some (Ln (Fp (mixKind P w)) q):=by simp_all
 rw[Ij,Ds hlt] at this;injection this with this;rw[this];rfl
theorem z2t{K:Ai}(d it:Addr)(ob:Obj)(kvs:List (List Key×V))(ens:Array Iq)(ep:Nat)(hob:ob.data=.dict ens ep):
  Turn P w K tg (Itk d ob kvs) [it] it (fun i h=>h.IsKeyIter it d i ens.size ep) where
 mem:=by simp
 obj:=fun i h st b hb=>by
  have e:b=it:=by grind
  subst e;obtain⟨o,e,c,dd⟩:=st;exact⟨o,e,fun v z=>by rw[dd] at z;cases z⟩
 keep:=fun i h h' st k=>st.at fun o e=>k it (by simp) o e
 item:=by
  intro X hP hw hK hc i pins s σ H E I hf st hg;obtain⟨hfz,hi⟩:=hg;obtain⟨hget,hsz,hkey⟩:=z4o I.hok hfz hob;obtain⟨f0,f1,f2,f3,f4,f5⟩:=hf it (by simp);obtain⟨⟨k,v⟩,hkv⟩:∃p,kvs[i]?=some p:=⟨kvs[i],by simp[hi]⟩
  have hlt:i<ens.size:=by lia
  obtain⟨b,hb1,hb2⟩:=hkey hlt hkv;refine PySem.Rv.keys_item st hget hob hlt fun h' st' sb=>?_
  rw[hb1];have I1:Inv X pins σ H { s with heap:=h' }:=I.turned (t':=s.toks) (fun b o hb e=>(sb.2 b hb).trans e) f0 f1 f3 f4 f5;obtain⟨o,e,c,dd⟩:=id st';exact⟨.ref b,rfl,z2c e c dd (by decide) ⟨.ref b,H,I1,rfl,⟨rfl,k,v,b,hkv,hb2,rfl⟩,st',fun b hb=>(hf b hb).1⟩⟩
 done:=by
  intro X hP hw hK hc i pins s σ H E I hf st hg;obtain⟨hfz,hi⟩:=hg;obtain⟨hget,hsz,hkey⟩:=z4o I.hok hfz hob;obtain⟨f0,f1,f2,f3,f4,f5⟩:=hf it (by simp);exact PySem.Rv.keys_end (I.ok.hd hc) st hget hob (by lia) fun h' eb=>⟨rfl,I.turned (t':=s.toks) (fun b o hb e=>eb b o hb e) f0 f1 f3 f4 f5⟩
 self:=fun _ _ _ _ _ st h=>wpAny_pyIter_keyiter st h
section
variable{X:Cx}{tg l:Expr}{tl:TE}
def iDictT(tl:TE):TI:=fun σ H R=>tl σ H fun x H1=>∃d kvs,x=.ref d/\H1 d=some (.dT kvs)/\∀ob,R (Itk d ob kvs) (upd H1 d (.frz ob (.dT kvs)))
theorem z7q(hl:PE X l tl):PI X tg l (iDictT tl):=by
 intro pins s σ H R I h;refine thn (hl pins s σ H _ I h) fun v s1 ⟨x,H1,I1,r1,q1⟩=>?_;obtain⟨d,kvs,e,hd,q⟩:=q1;subst e;cases r1;obtain⟨z,hsys,xs,hp,ob,ens,ep,ho,hex,hob,h4,h5⟩:=(show ObjOk X.prog X.w H1 s1.heap d (.dT kvs) from I1.hok d _ hd)
 refine PySem.Rv.keys_iter hsys ⟨ob,ho,hex.1⟩ ho hob ?_;have hne:=Bd (An ho);have I2:=(I1.freezeK hd ho (.inr ⟨_,rfl⟩)).kept (t':=s1.toks) (h':=s1.heap.push { cls:=.type "dict_keyiterator",data:=.fields #[.ref d,.int 0 0,.int ens.size 0,.int ep 0] }) fun b o e=>Af _ e;refine⟨s1.heap.objs.size,[s1.heap.objs.size],_,_,_,rfl,I2,z2t d _ ob kvs ens ep hob,⟨_,Av _ rfl,rfl,rfl⟩,fun b hb=>?_,q ob⟩;have e:b=s1.heap.objs.size:=by grind
 subst e;exact I1.fpOk (Am _) (by rw[q0c (Bo hne)];exact I1.hok.fresh (Am _))
theorem ditT_k(K:Ai)(hK:X.K=K)(hl:PE X l tl):PI X tg l (iDictT tl):=z7q hl
theorem z4p{g:TG}{tb:TS}{D:Ends}(Pv:Nat->St->Hp->Prop)(h0:Pv 0 σ H)(hl:∀i σ H,Pv i σ H->H d=some (.frz ob (.dT kvs)))(hs:∀i k v b σ H,kvs[i]?=some (k,v)->H b=some (.tup (k.map kV))->Pv i σ H->g (.ref b) σ H fun σ2 H2=>tb { D with nx:=Pv (i+1),ct:=Pv (i+1),bk:=D.nx } σ2 H2)(hd:∀σ H,Pv kvs.length σ H->D.nx σ H):
  ∃W:Nat->Nat->St->Hp->Prop,(∃m,W 0 m σ H)/\∀i m σ H,W i m σ H ->
   ((Itk d ob kvs).stop i H/\D.nx σ H)\/((Itk d ob kvs).go i H/\∃N:St->Hp->Prop,(∀σ' H',N σ' H'->∃m',m'<m/\W (i+1) m' σ' H')/\∀x H',(Itk d ob kvs).yld i H x H'->g x σ H' fun σ2 H2=>tb { D with nx:=N,ct:=N,bk:=D.nx } σ2 H2):=by
 refine z8y Pv h0 (fun i σ H h p=>⟨hl i σ H p,h⟩) (fun σ H p=>⟨hl _ σ H p,Am _⟩) (fun i x σ H H' h p yl=>?_) hd;obtain⟨rfl,k,v,b,hk,hb,rfl⟩:=yl;exact hs i k v b σ _ hk hb p
end
end L2
namespace SB
open PySem PyProof.Rows
section
variable{prog:Program}{w:World}{A:Around}{E:Value->Ae->Prop}{s:Ae}
def Tells(prog:Program)(w:World)(A:Around)(s:Ae)(kd:Lc)(S:Value->Prop)(r:Value->Int):Prop :=
 ∀(E:Value->Ae->Prop) (x y:Value) (Q:Bool->Ae->Prop),S x->S y->Q (decide (r x<r y)) s->wpAny (model prog w) A (keyLt' kd x y) Q E s
def rk(r:Value->Int)(xs:Array Keyed)(i:Nat):Int:=((xs[i]?).map fun p=>r p.1).getD 0
theorem x0e(h:xs[i]?=ys[j]?):rk r xs i=rk r ys j:=by unfold rk;rw[h]
theorem rk_if[Decidable c](h:xs[i]?=if c then ys[a]? else ys[b]?):rk r xs i=if c then rk r ys a else rk r ys b:=by
 by_cases hc:c
 ·rw[if_pos hc] at h ⊢;exact x0e h
 ·rw[if_neg hc] at h ⊢;exact x0e h
theorem z4q(hj:j<=xs.size)(k:Nat):rk r (Ma xs i j ((j-i) / 2)) k=if i<=k/\k<j then rk r xs (i+j-1-k) else rk r xs k:=rk_if (getElem?_mirror_all hj k)
theorem z9c(hn:n<xs.size)(hd:d<=n)(k:Nat):rk r (bubble xs n d) k=if k=n-d then rk r xs n else if n-d<k/\k<=n then rk r xs (k-1) else rk r xs k:=by
 have e:=getElem?_bubble hn d hd k;by_cases h:k=n-d
 ·rw[if_pos h] at e ⊢;exact x0e e
 ·rw[if_neg h] at e ⊢;exact rk_if e
structure Mid (kd:Lc) (a₀:Array Keyed) (st:Hr):Prop where
 pm:(arrOf st).Perm a₀
 kn:kindOf st=kd
 fl:Ue st=none
 pd:Oz st=#[]
variable{kd:Lc}{S:Value->Prop}{r:Value->Int}{a₀:Array Keyed}
theorem Mid.sz{st:Hr}(h:Mid kd a₀ st):(arrOf st).size=a₀.size:=h.pm.size_eq
theorem Mid.put{st:Hr}(h:Mid kd a₀ st)(p:xs.Perm (arrOf st)):Mid kd a₀ (setArr st xs):=⟨p.trans h.pm,h.kn,h.fl,h.pd⟩
theorem z4r{st:Hr}(T:Tells prog w A s kd S r)(hS:∀p∈a₀.toList,S p.1)(m:Mid kd a₀ st)(hi:i<a₀.size)(hj:j<a₀.size)(h:Q (some (decide (rk r (arrOf st) i<rk r (arrOf st) j))) st):wpS (model prog w) A E s (ltAt' i j) Q st:=by
 have get:∀{k:Nat},k<a₀.size->∃p,(arrOf st)[k]?=some p/\S p.1/\rk r (arrOf st) k=r p.1:=fun{k} hk=>by
  have hk':k<(arrOf st).size:=by rw[m.sz];exact hk
  have e:(arrOf st)[k]?=some (arrOf st)[k]:=getElem?_pos _ k hk';refine⟨_,e,hS _ ((Nb.mp m.pm).mem_iff.mp (by simp)),?_⟩;unfold rk;rw[e];rfl
 obtain⟨p,e1,s1,r1⟩:=get hi;obtain⟨q,e2,s2,r2⟩:=get hj;rw[r1,r2] at h;refine Bv (Qe ?_);show wpS _ _ _ _ (elem' (arrOf st) i >>= fun x=>elem' (arrOf st) j >>= fun y=>lt' x y) Q st;rw[elem'_eq,elem'_eq,e1,e2];refine Bv (Cq (Bv (Cq ?_)));rw[lt'_eq];refine Bv (Qe ?_);rw[m.kn];exact Bv (wpS_lift (Ew (T _ p.1 q.1 _ s1 s2 ⟨rfl,Cq h⟩)))
def Up(r:Value->Int)(xs:Array Keyed)(n:Nat):Prop:=∀i j,i<=j->j<n->rk r xs i<=rk r xs j
def Down(r:Value->Int)(xs:Array Keyed)(n:Nat):Prop:=∀i j,i<=j->j<n->rk r xs j<=rk r xs i
theorem Up.one:Up r xs 1:=fun i j h1 h2=>by rw[show i=j by lia];exact Pl _
theorem Up.more(h:Up r xs n)(h1:1<=n)(e:rk r xs (n-1)<=rk r xs n):Up r xs (n+1):=fun i j a b=>by
 by_cases z:j<n
 ·exact h i j a z
 ·have hj:j=n:=by lia
  subst hj;by_cases y:i=j
  ·grind
  ·have:=h i (j-1) (by lia) (by lia);lia
theorem Down.more(h:Down r xs n)(h1:1<=n)(e:rk r xs n<=rk r xs (n-1)):Down r xs (n+1):=fun i j a b=>by
 by_cases z:j<n
 ·exact h i j a z
 ·have hj:j=n:=by lia
  subst hj;by_cases y:i=j
  ·grind
  ·have:=h i (j-1) (by lia) (by lia);lia
theorem Down.mir(h:Down r xs n)(hn:n<=xs.size):Up r (Ma xs 0 n ((n-0) / 2)) n:=fun i j a b=>by
 rw[z4q hn,z4q hn,if_pos (by lia),if_pos (by lia)];exact h _ _ (by lia) (by lia)
theorem q5i(hj:j<=xs.size)(h:∀k,i<=k->k<j->rk r xs k=rk r xs (j-1))(k:Nat):rk r (Ma xs i j ((j-i) / 2)) k=rk r xs k:=by
 rw[z4q hj];by_cases z:i<=k/\k<j
 ·grind
 ·rw[if_neg z]
theorem z9d{st:Hr}(T:Tells prog w A s kd S r)(hS:∀p∈a₀.toList,S p.1)(m:Mid kd a₀ st)(hn:n<=a₀.size)(h1:1<=a)(han:a<=n)(u:Up r (arrOf st) a)(h:∀k,a<=k->k<=n->Up r (arrOf st) k->(k=n\/rk r (arrOf st) k<rk r (arrOf st) (k-1))->Q (none,k) st):wpS (model prog w) A E s (ascLoop a n) Q st:=by
 refine Jy (fun x c t=>t=st/\c=(none,x)/\Up r (arrOf st) x) (fun x c t hx hxn ⟨et,ec,ux⟩=>?_) (fun c t ⟨et,ec,ux⟩=>?_) ⟨rfl,rfl,u⟩
 ·subst et ec;refine Bv (z4r T hS m (by lia) (by lia) ?_);by_cases z:rk r (arrOf t) x<rk r (arrOf t) (x-1)
  ·simp only[decide_eq_true z,if_true];exact Cq (h x hx (by lia) ux (.inr z))
  ·simp only[decide_eq_false z,Bb,if_false];exact Cq ⟨rfl,rfl,ux.more (by lia) (by lia)⟩
 ·grind
theorem z4s{st:Hr}(T:Tells prog w A s kd S r)(hS:∀p∈a₀.toList,S p.1)(m:Mid kd a₀ st)(hn:n<=a₀.size)(h1:1<=k)(hkn:k<=n)(d:Down r (arrOf st) k)(h:∀j t,Mid kd a₀ t->1<=j->j<=n->Up r (arrOf t) j->Q (some j) t):wpS (model prog w) A E s (tail3 k n) Q st:=by
 have m2:=m.put (Pm (arrOf st) 0 k ((k-0) / 2));refine Bv (Pn (Bv (z9d T hS m2 hn h1 hkn (d.mir (by rw[m.sz];lia)) fun j a b u _=>Cq (h j _ m2 (by lia) b u))))
theorem x0f{st:Hr}(T:Tells prog w A s kd S r)(hS:∀p∈a₀.toList,S p.1)(m:Mid kd a₀ st)(hn:n<=a₀.size)(h1:1<=k)(hkn:k<=n)(d:Down r (arrOf st) k)(h:∀j q t,Mid kd a₀ t->k<=j->j<=n->Down r (arrOf t) j->q+1<=j->(∀i,j-(q+1)<=i->i<j->rk r (arrOf t) i=rk r (arrOf t) (j-1))->Q (none,j,q) t):wpS (model prog w) A E s (descLoop k n) Q st:=by
 refine Jy (fun x c t=>∃q,c=(none,x,q)/\Mid kd a₀ t/\Down r (arrOf t) x/\q+1<=x/\∀i,x-(q+1)<=i->i<x->rk r (arrOf t) i=rk r (arrOf t) (x-1))
  (fun x c t hx hxn ⟨q,ec,mt,dx,hq,eq⟩=>?_) (fun c t ⟨q,ec,mt,dx,hq,eq⟩=>?_) ⟨0,rfl,m,d,by lia,fun i a b=>by rw[show i=k-1 by lia]⟩
 ·subst ec;have zs:x<=(arrOf t).size:=by rw[mt.sz];lia
  dsimp only;refine Bv (z4r T hS mt (by lia) (by lia) ?_);by_cases z:rk r (arrOf t) x<rk r (arrOf t) (x-1)
  ·simp only[decide_eq_true z,if_true];by_cases y:q>0
   ·rw[if_pos y];have em:=fun k=>q5i zs eq k;have d2:Down r (Ma (arrOf t) (x-(q+1)) x ((x-(x-(q+1))) / 2)) x:=fun i j a b=>by rw[em,em];exact dx i j a b
    exact Bv (Pn (Cq ⟨0,rfl,mt.put (Pm _ _ _ _),d2.more (by lia) (by rw[em,em];lia),by lia,fun i a b=>by rw[show i=x+1-1 by lia]⟩))
   ·rw[if_neg y];exact Cq ⟨0,rfl,mt,dx.more (by lia) (by lia),by lia,fun i a b=>by rw[show i=x+1-1 by lia]⟩
  ·simp only[decide_eq_false z,Bb,if_false];refine Bv (z4r T hS mt (by lia) (by lia) ?_);by_cases y:rk r (arrOf t) (x-1)<rk r (arrOf t) x
   ·simp only[decide_eq_true y,if_true];exact Cq (h x q t mt hx (by lia) dx hq eq)
   ·simp only[decide_eq_false y,Bb,if_false];have ex:rk r (arrOf t) x=rk r (arrOf t) (x-1):=by lia
    refine Cq ⟨q+1,rfl,mt,dx.more (by lia) (by lia),by lia,fun i a b=>?_⟩;rw[show x+1-1=x by lia,ex];by_cases c:i=x
    ·rw[c,ex]
    ·grind
 ·grind
theorem z4t{st:Hr}(T:Tells prog w A s kd S r)(hS:∀p∈a₀.toList,S p.1)(m:Mid kd a₀ st)(hn:n<=a₀.size)(hkn:k+1<=n)(d:Down r (arrOf st) (k+1))(h:∀j t,Mid kd a₀ t->1<=j->j<=n->Up r (arrOf t) j->Q (some j) t):wpS (model prog w) A E s (descPart k n) Q st:=by
 refine Bv (wpS_lift (Gi ⟨rfl,Bv (x0f T hS m hn (by lia) hkn d fun j q t mt a b dt hq eq=>?_)⟩));have zs:j<=(arrOf t).size:=by rw[mt.sz];lia
 dsimp only;by_cases y:q>0
 ·rw[if_pos y];exact Bv (Pn (z4s T hS (mt.put (Pm _ _ _ _)) hn (by lia) b (fun i i' a' b'=>by show rk r (Ma _ _ _ _) i'<=rk r (Ma _ _ _ _) i;rw[q5i zs eq,q5i zs eq];exact dt i i' a' b') h))
 ·rw[if_neg y];exact z4s T hS mt hn (by lia) b dt h
theorem run_ok{st:Hr}(T:Tells prog w A s kd S r)(hS:∀p∈a₀.toList,S p.1)(m:Mid kd a₀ st)(hn:n<=a₀.size)(h1:1<=n)(h:∀j t,Mid kd a₀ t->1<=j->j<=n->Up r (arrOf t) j->Q (some j) t):wpS (model prog w) A E s (countRun' 0 n) Q st:=by
 rw[countRun0_eq];refine Bv (z9d T hS m hn (Am 1) h1 Up.one fun k a b u o=>?_);have zs:k<=(arrOf st).size:=by rw[m.sz];lia
 dsimp only;by_cases e:k=n
 ·rw[if_pos (by simpa using e)];exact Cq (h k st m a b u)
 rw[if_neg (by simpa using e)];by_cases g:k>1
 ·rw[if_pos g];refine Bv (z4r T hS m (by lia) (by lia) ?_);by_cases z:rk r (arrOf st) 0<rk r (arrOf st) (k-1)
  ·simp only[decide_eq_true z,if_true];exact Cq (h k st m a b u)
  ·simp only[decide_eq_false z,Bb,if_false];have al:∀i,0<=i->i<k->rk r (arrOf st) i=rk r (arrOf st) (k-1):=fun i _ hi=>by
    have u1:=u 0 i (by lia) hi;have u2:=u i (k-1) (by lia) (by lia);lia
   refine Bv (Pn (z4t T hS (m.put (Pm _ _ _ _)) hn (by lia) (Down.more (fun i j a' b'=>?_) (by lia) ?_) h))
   ·show rk r (Ma _ _ _ _) j<=rk r (Ma _ _ _ _) i;rw[q5i zs al,q5i zs al,al i (by lia) (by lia),al j (by lia) (by lia)];exact Pl _
   ·show rk r (Ma _ _ _ _) k<=rk r (Ma _ _ _ _) (k-1);rw[q5i zs al,q5i zs al];lia
 ·rw[if_neg g];exact z4t T hS m hn (by lia) (Down.more (fun i j a' b'=>by rw[show i=j by lia];exact Pl _) (by lia) (by lia)) h
theorem ins_ok{st:Hr}(T:Tells prog w A s kd S r)(hS:∀p∈a₀.toList,S p.1)(m:Mid kd a₀ st)(hn:n<=a₀.size)(hk:k<=n)(u:Up r (arrOf st) k)(h:∀t,Mid kd a₀ t->Up r (arrOf t) n->Q true t):wpS (model prog w) A E s (binarySort' 0 n k) Q st:=by
 rw[binarySort'_eq];simp only[Nat.zero_add];refine Bv (Ug (Jy (fun j c t=>c=(none,())/\Mid kd a₀ t/\Up r (arrOf t) (min j n)) (Q:=fun c t=>c=(none,())/\Mid kd a₀ t/\Up r (arrOf t) n) ?step ?fin ⟨rfl,m,?init⟩) ?post)
 case step =>
  rintro j c t hj hjn ⟨rfl,mt,ut⟩;refine Bv (Ug (Jy (fun x c t'=>t'=t/\∃lo hi,c=(none,lo,hi)/\lo<=hi/\hi<=j/\hi-lo<=j-x/\(∀i,i<lo->rk r (arrOf t) i<=rk r (arrOf t) j)/\∀i,hi<=i->i<j->rk r (arrOf t) j<rk r (arrOf t) i)
   (Q:=fun c t'=>t'=t/\∃lo hi,c=(none,lo,hi)/\lo<=j/\(∀i,i<lo->rk r (arrOf t) i<=rk r (arrOf t) j)/\∀i,lo<=i->i<j->rk r (arrOf t) j<rk r (arrOf t) i)
   ?st2 ?fi2 ⟨rfl,0,j,rfl,by lia,by lia,by lia,fun i z=>by lia,fun i z y=>by lia⟩) ?po2)
  case st2 =>
   rintro x c t' hx hxj ⟨rfl,lo,hi,rfl,a1,a2,a3,a4,a5⟩;dsimp only;by_cases z:lo>=hi
   ·rw[if_pos z];exact Cq ⟨rfl,lo,hi,rfl,by lia,a4,fun i b c=>a5 i (by lia) c⟩
   ·rw[if_neg z];refine Bv (z4r T hS mt (by lia) (by lia) ?_);by_cases y:rk r (arrOf t') j<rk r (arrOf t') ((lo+hi) / 2)
    ·simp only[decide_eq_true y,if_true];refine Cq ⟨rfl,lo,(lo+hi) / 2,rfl,by lia,by lia,by lia,a4,fun i b c=>?_⟩;have:=ut ((lo+hi) / 2) i b (by lia);lia
    ·simp only[decide_eq_false y,Bb,if_false];refine Cq ⟨rfl,(lo+hi) / 2+1,hi,rfl,by lia,a2,by lia,fun i b=>?_,a5⟩;have:=ut i ((lo+hi) / 2) (by lia) (by lia);lia
  case fi2 =>
   rintro c t' ⟨rfl,lo,hi,rfl,a1,a2,a3,a4,a5⟩;exact⟨rfl,lo,hi,rfl,by lia,a4,fun i b c=>a5 i (by lia) c⟩
  case po2 =>
   rintro c t' ⟨rfl,lo,hi,rfl,a1,a4,a5⟩;rw[moveDown'_eq];have zs:j<(arrOf t').size:=by rw[mt.sz];lia
   refine Bv (Uw (Cq ⟨rfl,mt.put (bubble_perm _ _ _),fun i i' b c=>?_⟩));have e1:j-(j-lo)=lo:=by lia
   rw[z9c zs (by lia),z9c zs (by lia),e1];by_cases b1:i=lo
   ·grind
   ·rw[if_neg b1];by_cases b2:i'=lo
    ·grind
    ·rw[if_neg b2];by_cases b3:lo<i/\i<=j
     ·rw[if_pos b3,if_pos (by lia)];exact ut _ _ (by lia) (by lia)
     ·rw[if_neg b3];by_cases b4:lo<i'/\i'<=j
      ·grind
      ·rw[if_neg b4];exact ut _ _ b (by lia)
 case fin =>
  rintro c t ⟨ec,mt,ut⟩;have e:min (max (max k 1) n) n=n:=by lia
  rw[e] at ut;exact⟨ec,mt,ut⟩
 case init =>
  intro i j a b;by_cases z:k=0
  ·grind
  ·exact u i j a (by lia)
 case post =>
  rintro c t ⟨rfl,mt,ut⟩;exact Cq (h t mt ut)
structure Fin' (a₀:Array Keyed) (r:Value->Int) (st:Hr):Prop where
 pm:(arrOf st).Perm a₀
 fl:Ue st=none
 pd:Oz st=#[(0,a₀.size,0)]
 up:Up r (arrOf st) a₀.size
theorem x0g{st:Hr}(T:Tells prog w A s kd S r)(hS:∀p∈a₀.toList,S p.1)(m:Mid kd a₀ st)(h2:2<=a₀.size)(h64:a₀.size<64)(h:∀t,(arrOf t).Perm a₀->Ue t=none->Up r (arrOf t) a₀.size->Q () t):wpS (model prog w) A E s sortRuns' Q st:=by
 rw[sortRuns'_eq];have em:minRun' a₀.size a₀.size 0=a₀.size:=by
  cases z:a₀.size with
  |zero=>rfl
  |succ f=>rw[minRun'_succ,if_pos (by lia)]
 have fin:∀{t:Hr},Mid kd a₀ t->Up r (arrOf t) a₀.size->Fin' a₀ r (setPending t ((Oz t).push (0,a₀.size,0))):=fun{t} mt ut=>⟨mt.pm,mt.fl,by show(Oz t).push _=_;rw[mt.pd];rfl,ut⟩
 have none_back:∀{t:Hr},Mid kd a₀ t->(Oz t).back?=none:=fun{t} mt=>by rw[mt.pd];rfl
 refine Bv (Qe ?_);simp only[m.sz,em];refine Bv (Ug (Jy (fun x c t=>(x=0/\c=(none,0)/\Mid kd a₀ t)\/(1<=x/\c=(none,a₀.size)/\Fin' a₀ r t)) (Q:=fun c t=>c=(none,a₀.size)/\Fin' a₀ r t) ?st1 ?fi1 (.inl ⟨rfl,rfl,m⟩)) ?po1)
 case st1 =>
  intro x c t _ hx o;rcases o with⟨rfl,rfl,mt⟩|⟨x1,rfl,f⟩
  ·dsimp only;rw[if_neg (by lia)];simp only[Mb,Nat.min_self,Nat.zero_add];refine Bv (run_ok T hS mt (Am _) (by lia) fun j t' mt' j1 j2 ut'=>?_);dsimp only;by_cases z:j<a₀.size
   ·rw[if_pos z];refine Bv (wpS_lift (Gi ⟨rfl,Bv (ins_ok T hS mt' (Am _) j2 ut' fun t2 mt2 ut2=>?_)⟩));refine Bv (Qe ?_);rw[none_back mt2];exact Bv (Uw (Cq (.inr ⟨by lia,rfl,fin mt2 ut2⟩)))
   ·rw[if_neg z];have ej:j=a₀.size:=by lia
    subst ej;refine Bv (Qe ?_);rw[none_back mt'];exact Bv (Uw (Cq (.inr ⟨by lia,rfl,fin mt' ut'⟩)))
  ·dsimp only;rw[if_pos (Am _)];exact Cq ⟨rfl,f⟩
 case fi1 =>
  intro c t o;rcases o with⟨z,_⟩|⟨_,ec,f⟩
  ·lia
  ·exact⟨ec,f⟩
 case po1 =>
  rintro c t ⟨rfl,f⟩;refine Bv (Ug (Jy (fun _ c t'=>t'=t/\c=(none,())) (Q:=fun c t'=>t'=t/\c=(none,())) ?st3 (fun _ _ z=>z) ⟨rfl,rfl⟩) ?po3)
  case st3 =>
   rintro x c t' _ _ ⟨rfl,rfl⟩;refine Bv (Qe ?_);rw[if_pos (by rw[f.pd];exact Am 1)];exact Cq ⟨rfl,rfl⟩
  case po3 =>
   rintro c t' ⟨rfl,rfl⟩;exact Cq (h _ f.pm f.fl f.up)
end
end SB
namespace PySem.Rv
open Sem (wp)
abbrev itemObj(d:Addr)(i n ep:Nat)(f0 f1 ok ov:Value):Obj:={ cls:=.type "dict_itemiterator",dict:=none,data:=.fields #[f0,f1,.ref d,.int i 0,.int n 0,.int ep 0,ok,ov],slots:=#[] }
def ItemIt(h:Heap)(it d:Addr)(i n ep:Nat):Prop:=∃f0 f1 ok ov,h.get? it=some (itemObj d i n ep f0 f1 ok ov)/\(f0=.none\/∃a:Addr,f0=Es a)
theorem ItemIt.typeIs{s:Ae}(x:ItemIt s.heap it d i n ep):s.TypeIs (.ref it) "dict_itemiterator" := by
 obtain⟨f0,f1,ok,ov,e,_⟩:=x;exact⟨_,e,rfl⟩
theorem ItemIt.lt(x:ItemIt h it d i n ep):it<h.objs.size:=by
 obtain⟨f0,f1,ok,ov,e,_⟩:=x;exact An e
theorem ItemIt.keep(x:ItemIt h it d i n ep)(k:∀o,h.get? it=some o->h'.get? it=some o):ItemIt h' it d i n ep:=by
 obtain⟨f0,f1,ok,ov,e,z⟩:=x;exact⟨f0,f1,ok,ov,k _ e,z⟩
section
variable{prog:Program}{w:World}{A:Around}{E:Value->Ae->Prop}{s:Ae}{it d v:Addr}{i ep:Nat}{dob:Obj}{ens:Array Iq}
theorem items_iter(hv:s.heap.IsItemsView v d)(hdo:s.heap.get? d=some dob)(hda:dob.data=.dict ens ep)(hQ:Q (.ref s.heap.objs.size) { s with heap:=s.heap.push (itemObj d 0 ens.size ep .none (.bool false) .none .none) }):wpAny (model prog w) A (Pw (.ref v)) Q E s:=by
 obtain⟨o,ho,hc,hf⟩:=id hv;refine Tb hv.typeIs Po (Bu Po hv.typeIs F.entry_dict_items_iter ?_ (F.args_dict_items_iter_1 _));unfold Cs.«dict_items.__iter__»;refine Ab (Ad (Ab ?_));unfold Cs.Dict_items.dictOf;refine Ab (Ca ho hf rfl (Ad (Ab ?_)));unfold Cs.Dict_items.newIterator;refine Ab (Cj hdo hda (Ab (Fh hdo hda ?_)));simp only[show Im "dict_itemiterator" = true from by decide,if_true];refine Bx (Ad ⟨_,rfl, "dict_itemiterator",_,⟨_,Av _ rfl,rfl⟩,Dx.lookup,?_⟩) (by simp[sizeOk,Kj,Dl]);simpa[Es,itemObj,Kj] using hQ
theorem q6e(e:s.heap.get? it=some (itemObj d i n ep f0 f1 ok ov))(hk:k<8)(hQ:∀h',h'.get? it=some { cls:=.type "dict_itemiterator",dict:=none,data:=.fields ((#[f0,f1,.ref d,.int i 0,.int n 0,.int ep 0,ok,ov]:Array Value).setIfInBounds k x),slots:=#[] }->Ep it s.heap h'->Q () { s with heap:=h' }):
  wpAny (model prog w) A (setField (.ref it) k x) Q E s:=Gk e (by simpa using hk) hQ
theorem owned(x:ItemIt s.heap it d i n ep)(hQ:∀b h',ItemIt h' it d i n ep->Ep it s.heap h'->Q b { s with heap:=h' }):
  wpAny (model prog w) A (Cs.Dict_items.ownedTupleIsFree (.ref it)) Q E s:=by
 obtain⟨f0,f1,ok,ov,e,z⟩:=id x;refine Ab (Ca e rfl rfl ?_);rcases z with rfl|⟨a,rfl⟩
 ·exact Ad (hQ true s.heap x (Ni _ _))
 ·show wpAny _ _ (loadIfAlive (Int.toNat (a:Int)) >>= _) _ _ _;have al:∀{Q':Option Obj->Ae->Prop},Q' (s.heap.get? (Int.toNat (a:Int))) s->wpAny (model prog w) A (loadIfAlive (Int.toNat (a:Int))) Q' E s:=fun h' _ _ _=>h';refine Ab (al ?_);by_cases hn:(s.heap.get? (Int.toNat (a:Int))).isNone=true
  ·rw[if_pos hn];exact Ad (hQ true s.heap x (Ni _ _))
  ·rw[if_neg hn];refine Ab (Ca e rfl (x:=f1) rfl ?_);by_cases hb:(f1 != Value.bool true)=true
   ·rw[if_pos hb];refine Ab (q6e e (by decide) fun h' e' sb=>Ad (hQ false h' ⟨_,_,_,_,e',.inr ⟨a,rfl⟩⟩ sb))
   ·rw[if_neg hb];exact Ad (hQ false s.heap x (Ni _ _))
theorem items_item(x:ItemIt s.heap it d i ens.size ep)(hdo:s.heap.get? d=some dob)(hda:dob.data=.dict ens ep)(hlt:i<ens.size)(hQ:∀h',ItemIt h' it d (i+1) ens.size ep->h'.get? s.heap.objs.size=some { cls:=.type "tuple",data:=.seq #[ens[i].key,ens[i].val] }->h'.objs.size=s.heap.objs.size+1 ->
   (∀b o,b≠it->s.heap.get? b=some o->h'.get? b=some o)->Q (some (.ref s.heap.objs.size)) { s with heap:=h' }):wpAny (model prog w) A (Jq (.ref it)) Q E s:=by
 obtain⟨f0,f1,ok,ov,e,z⟩:=id x;have hT:=x.typeIs;refine Ab (Ew (Cg hT Dx (Bu Dx hT Mc ?_ (Lm _))));refine Ab (Ad (Ab (Ab ?_)));first|refine Ab (Fi hT (Ad ?_))|refine Ab (Gy hT (Ad ?_))
 refine Ab (Mn e rfl ?_);simp only[show Im "dict_itemiterator" = true from by decide,if_true];refine Ab (Ad (Ab (Cj hdo hda ?_)));rw[if_neg (by simp)];refine Ab (Ad (Ab (Fh hdo hda ?_)));rw[if_neg (by simp)];refine Ad ?_;simp only[show ¬((i:Int)<0) from by lia,if_false,Kp,Ds hlt];refine Ab ?_;first|refine Ab (Fi hT (Ad ?_))|refine Ab (Gy hT (Ad ?_))
 refine Ab (Ky hT ?_);show wpAny _ _ (setField (.ref it) 3 (Es ((i:Int)+1)) >>= _) _ _ s;refine Ab (q6e e (by decide) fun h₁ e₁ sb₁=>?_);have x₁:ItemIt h₁ it d (i+1) ens.size ep:=⟨f0,f1,ok,ov,by rw[e₁];simp[itemObj,Es],z⟩
 refine Ab (Bm ?_);refine Ab (Ky x₁.typeIs (Ab (Ky x₁.typeIs ?_)));have z₁:=sb₁.1;have hil:=Bd x.lt;refine Ab (Qb ?_);refine Ab (owned (x₁.keep fun o q=>Af _ q) fun b h₂ x₂ sb₂=>?_);have t₂:h₂.get? s.heap.objs.size=some { cls:=.type "tuple",data:=.seq #[ens[i].key,ens[i].val] }:=by
  rw[sb₂.2 _ (Bo hil),<- z₁];exact Av _ rfl
 have n₂:h₂.objs.size=s.heap.objs.size+1:=by rw[sb₂.1];show(h₁.push _).objs.size=_;rw[Hd,z₁]
 have k₂:∀b o,b≠it->s.heap.get? b=some o->h₂.get? b=some o:=fun b o hb q=>by
  rw[sb₂.2 b hb];exact Af _ ((sb₁.2 b hb).trans q)
 have ez:(Value.ref h₁.objs.size)=.ref s.heap.objs.size:=by rw[z₁]
 cases b with
 |false =>
  refine Ad (Ad ⟨_,rfl,Ad ?_⟩);rw[ez];exact hQ h₂ x₂ t₂ n₂ k₂
 |true =>
  obtain⟨g0,g1,ok2,ov2,e₂,_⟩:=x₂;refine Ab (Ca e₂ rfl rfl (Ab (Ca e₂ rfl rfl ?_)));refine Ab (q6e e₂ (by decide) fun h₃ e₃ sb₃=>?_);refine Ab (q6e e₃ (by decide) fun h₄ e₄ sb₄=>?_);refine Ab (q6e e₄ (by decide) fun h₅ e₅ sb₅=>?_);refine Ab (q6e e₅ (by decide) fun h₆ e₆ sb₆=>?_);have kk:∀b o,b≠it->h₂.get? b=some o->h₆.get? b=some o:=fun b o hb q=>(sb₆.2 b hb).trans ((sb₅.2 b hb).trans ((sb₄.2 b hb).trans ((sb₃.2 b hb).trans q)))
  refine Ab (Tt (Ad (Ad ⟨_,rfl,Ad ?_⟩)));rw[ez];refine hQ h₆ ⟨_,_,_,_,e₆,.inr ⟨_,rfl⟩⟩ (kk _ _ (Bo hil) t₂) ?_ fun b o hb q=>kk b o hb (k₂ b o hb q);rw[sb₆.1];rw[sb₅.1];rw[sb₄.1];rw[sb₃.1];exact n₂
theorem items_end(hh:A.handled=none)(x:ItemIt s.heap it d i ens.size ep)(hdo:s.heap.get? d=some dob)(hda:dob.data=.dict ens ep)(hge:ens.size<=i)(hQ:∀h',Ts it s.heap h'->Q none { s with heap:=h' }):wpAny (model prog w) A (Jq (.ref it)) Q E s:=by
 obtain⟨f0,f1,ok,ov,e,z⟩:=id x;have hT:=x.typeIs;refine Ab (Ew (Cg hT Dx (Bu Dx hT Mc ?_ (Lm _))));refine Ab (Ad (Ab (Ab ?_)));first|refine Ab (Fi hT (Ad ?_))|refine Ab (Gy hT (Ad ?_))
 refine Ab (Mn e rfl ?_);simp only[show Im "dict_itemiterator" = true from by decide,if_true];refine Ab (Ad (Ab (Cj hdo hda ?_)));rw[if_neg (by simp)];refine Ab (Ad (Ab (Fh hdo hda ?_)));rw[if_neg (by simp)];refine Ad ?_;simp only[show ¬((i:Int)<0) from by lia,if_false,Kp,Pk hge];refine Ab ?_;first|refine Ab (Fi hT (Ad ?_))|refine Ab (Gy hT (Ad ?_))
 show wpAny _ _ (setField (.ref it) 2 .none >>= _) _ _ s;refine Ab (He e rfl (by simp) ?_);show wpAny _ _ (newExc (.type "StopIteration") [] >>= _) _ _ _;refine Ab ?_;refine Ab (Bx (Ab (Tu (by first|rfl|(simp only[firstArgMember];rfl)) ?_)) (by size_fits));refine Bx ?_ (by size_fits);refine Ab (wpAny_handled ?_);rw[show A.in1.handled=none from hh];refine Ab (Ad (wpAny_throw ?_));refine Ab (Ge ⟨_,Av _ rfl,rfl⟩ Qc ?_);exact Ad (hQ _ (((Cv ..).extBut.push _).push _))
end
end PySem.Rv
namespace SB
open PySem PyProof.Rows TX
abbrev Pth:=List (List Nat)
def pLt:Pth->Pth->Bool
 |[],[]=>false
 |[],_::_=>true
 |_::_,[]=>false
 |a::r,b::t=>if a=b then pLt r t else decide (a<b)
theorem q3y(a b:List Nat)(r t:Pth):pLt (a::r) (b::t)=if a=b then pLt r t else decide (a<b):=rfl
theorem q4h:∀p:Pth,pLt p p=false
 |[]=>rfl
 |a::r=>by rw[q3y,if_pos rfl];exact q4h r
theorem q8r{c:List Nat}(h:a<b)(h':b<c):a<c:=List.lt_trans h h'
theorem x0h{b:List Nat}(h:¬a<b)(h':¬b<a):a=b:=List.le_antisymm (List.not_lt.mp h') (List.not_lt.mp h)
theorem q8s:∀{p q t:Pth},pLt p q=true->pLt q t=true->pLt p t=true
 |[],[],_,h,_=>by cases h
 |_::_,[],_,h,_=>by cases h
 |_,_::_,[],_,h=>by cases h
 |[],_::_,_::_,_,_=>rfl
 |a::p,b::q,c::t,h,h'=>by
  rw[q3y] at h h' ⊢;by_cases e1:a=b
  ·subst e1;rw[if_pos rfl] at h;by_cases e2:a=c
   ·rw[if_pos e2] at h' ⊢;exact q8s h h'
   ·rw[if_neg e2] at h' ⊢;exact h'
  ·rw[if_neg e1] at h;by_cases e2:b=c
   ·subst e2;rw[if_neg e1];exact h
   ·rw[if_neg e2] at h';have h1:=of_decide_eq_true h;have h2:=of_decide_eq_true h';have h3:=q8r h1 h2;rw[if_neg (fun e=>by subst e;exact absurd (q8r h1 h2) (List.lt_irrefl _))];exact decide_eq_true h3
theorem z0g:∀{p q:Pth},pLt p q=false->pLt q p=false->p=q
 |[],[],_,_=>rfl
 |[],_::_,h,_=>by cases h
 |_::_,[],_,h=>by cases h
 |a::p,b::q,h,h'=>by
  rw[q3y] at h h';by_cases e:a=b
  ·subst e;rw[if_pos rfl] at h h';rw[z0g h h']
  ·rw[if_neg e] at h;rw[if_neg (Bo e)] at h';exact absurd (x0h (of_decide_eq_false h) (of_decide_eq_false h')) e
def pRank(ps:List Pth)(p:Pth):Nat:=(ps.filter fun q=>pLt q p).length
theorem q8t{α:Type}{f g:α->Bool}:∀(l:List α),(∀x∈l,f x=true->g x=true)->(l.filter f).length<=(l.filter g).length
 |[],_=>Am _
 |x::r,h=>by
  have ih:=q8t r fun y hy=>h y (Ar _ hy);by_cases hf:f x=true
  ·simp_all
  ·rw[Fx hf];by_cases hg:g x=true
   ·rw[Fy hg];exact Ek ih
   ·simp_all
theorem q8u{α:Type}{f g:α->Bool}{y:α}:∀(l:List α),(∀x∈l,f x=true->g x=true)->y∈l->f y=false->g y=true->(l.filter f).length<(l.filter g).length
 |[],_,hy,_,_=>by cases hy
 |x::r,h,hy,h1,h2=>by
  rcases Be.mp hy with e|hy
  ·subst e;rw[Fx (by rw[h1];decide),Fy h2];exact Nat.lt_succ_of_le (q8t r fun z hz=>h z (Ar _ hz))
  ·have ih:=q8u r (fun z hz=>h z (Ar _ hz)) hy h1 h2;by_cases hf:f x=true
   ·simp_all
   ·rw[Fx hf];by_cases hg:g x=true
    ·rw[Fy hg];exact Ib ih
    ·simp_all
theorem q6f(hp:p∈ps)(h:pLt p q=true):pRank ps p<pRank ps q :=
 q8u ps (fun x _ hx=>q8s hx h) hp (q4h p) h
theorem z0h(hp:p∈ps)(hq:q∈ps):pLt p q=decide ((pRank ps p:Int)<(pRank ps q:Int)):=by
 cases h:pLt p q with
 |true=>have:=q6f hp h;exact(decide_eq_true (by lia)).symm
 |false =>
  cases h':pLt q p with
  |true=>have:=q6f hq h';exact(decide_eq_false (by lia)).symm
  |false=>rw[z0g h h'];exact(decide_eq_false (by lia)).symm
def PathAt(h:Heap)(v:Value)(p:Pth):Prop:=∃a its,v=.ref a/\IsTup h a its/\Ho its.toList (p.map mk)
theorem mk_inj(h:mk a=mk b):a=b:=by have:=congrArg tl h;rwa [q2b,q2b] at this
theorem q5j:∀{vs:List Value} {ss ts:List Str},Ho vs ss->Ho vs ts->ss=ts
 |_,_,_,.nil,.nil=>rfl
 |_,_,_,.cons y t h,.cons _ _ h'=>by rw[q5j h h']
theorem q6g:∀{p q:Pth},p.map mk=q.map mk->p=q
 |[],[],_=>rfl
 |[],_::_,h=>by simp at h
 |_::_,[],h=>by simp at h
 |a::p,b::q,h=>by
  rw[Ak,Ak] at h;injection h with h1 h2;rw[mk_inj h1,q6g h2]
theorem q2a:∀{vs:List Value} {p:Pth},Ho vs (p.map mk)->vs.length=p.length
 |_,[],.nil=>rfl
 |vs,n::p,h=>by
  rw[Ak] at h;cases h with
  |cons _ _ h'=>rw[Bk,Bk,q2a h']
theorem IsTup.inj(h1:IsTup h a x)(h2:IsTup h a y):x=y:=by
 obtain⟨o,e,_,n,d⟩:=h1;obtain⟨o',e',_,n',d'⟩:=h2;rw[e] at e';cases e';rw[d] at d';cases d';rfl
theorem PathAt.inj(h1:PathAt h v p)(h2:PathAt h v q):p=q:=by
 obtain⟨a,its,rfl,t,s⟩:=h1;obtain⟨a',its',e,t',s'⟩:=h2;cases e;rw[IsTup.inj t t'] at s;exact q6g (q5j s s')
theorem IsTup.keep(t:IsTup h a x)(k:∀o,h.get? a=some o->h'.get? a=some o):IsTup h' a x:=let ⟨o,e,r⟩:=t;⟨o,k o e,r⟩
theorem PathAt.keep(x:PathAt h v p)(k:∀b o,h.get? b=some o->h'.get? b=some o):PathAt h' v p:=let ⟨a,its,e,t,s⟩:=x;⟨a,its,e,IsTup.keep t fun o=>k a o,s⟩
def dP(p:Pth):List PyData:=p.map fun n=>PyData.str (mk n)
def Low(p:Pth):Prop:=∀n∈p,∀c∈n,c<128
theorem q6h:∀{p:Pth} {vs:List Value},Ho vs (p.map mk)->∃as,ReadsAll h vs (dP p) as
 |[],_,.nil=>⟨_,.nil⟩
 |n::p,vs,x=>by
  rw[Ak] at x;cases x with
  |cons y t s =>
   obtain⟨as,h'⟩:=q6h s;exact⟨_,.cons (.str _ t) h'⟩
theorem PathAt.reads(x:PathAt h v p):∃as,Reads h v (.tuple (dP p)) as:=by
 obtain⟨a,its,rfl,⟨o,e,c,n,d⟩,s⟩:=x;obtain⟨as,r⟩:=q6h s;exact⟨_,.tuple e c d r⟩
theorem z4u(h:∀c∈l,c<128):Fb (mk l)=true:=by
 unfold Fb;simp only[mk,List.all_toArray,Oe];intro c hc;have:=h c hc;simp;lia
theorem q3m:∀{p:Pth},Low p->Hn (dP p)=true
 |[],_=>rfl
 |n::r,h=>by
  have h1:=z4u (h n Au);have ih:=q3m fun x hx=>h x (Ar _ hx);show Hn (PyData.str (mk n)::dP r)=true;simp only[Hn,Gx,h1,ih,Kz]
theorem q1t:∀p:Pth,Fe (dP p)<=1
 |[]=>by simp[dP,Fe]
 |n::r=>by
  have ih:=q1t r;show Fe (PyData.str (mk n)::dP r)<=1;simp only[Fe,Ms];lia
theorem q5k:∀p q:Pth,Fv (dP p) (dP q)=decide (p=q)
 |[],[]=>rfl
 |[],_::_=>rfl
 |_::_,[]=>rfl
 |a::p,b::q=>by
  show Fv (PyData.str (mk a)::dP p) (PyData.str (mk b)::dP q)=_;have e:Fv (PyData.str (mk a)::dP p) (PyData.str (mk b)::dP q)=(Cy (PyData.str (mk a)) (PyData.str (mk b))&&Fv (dP p) (dP q)):=by simp only[Fv]
  have e2:Cy (PyData.str (mk a)) (PyData.str (mk b))=(mk a==mk b):=by simp only[Cy]
  rw[e,e2,q5k p q];by_cases h:a=b
  ·subst h;simp
  ·grind
section
variable{prog:Program}{w:World}{A:Around}{E:Value->Ae->Prop}{s:Ae}{x y:Value}{p q:Pth}
theorem z7r(hx:PathAt s.heap x p)(hy:PathAt s.heap y q)(lp:Low p)(lq:Low q)(hu:A.units+2<cLine):Qo A s x y (decide (p=q)):=by
 obtain⟨as,r1⟩:=hx.reads;obtain⟨bs,r2⟩:=hy.reads;have h:=SeqAt.eqAt_reads (.tuple (dP p)) (.tuple (dP q)) A s x y as bs r1 r2 (by simp only[Gx,q3m lp]) (by simp only[Gx,q3m lq]) (by
  have h1:(PyData.tuple (dP p)).depth=Fe (dP p)+1:=by simp only[Ms]
  have:=q1t p;lia)
 have e:Cy (.tuple (dP p)) (.tuple (dP q))=decide (p=q):=by simp only[Cy,q5k]
 rwa [e] at h
theorem q8v(l b:Addr)(items items2:Array Value)(n n2:Nat)(dd dd2:Option Addr)(sl sl2:Array (Option Value))(p q:Pth)(hi:Ho items.toList (p.map mk))(hj:Ho items2.toList (q.map mk)):
  Meets (Cs.«tuple.__lt__» ⟨[.ref l,.ref b],[]⟩)
   (fun _ R s=>s.heap.get? l=some { cls:=.type "tuple",dict:=dd,data:=.seq items n,slots:=sl }/\s.heap.get? b=some { cls:=.type "tuple",dict:=dd2,data:=.seq items2 n2,slots:=sl2 } /\
    R (.ok (.ret (.bool (pLt p q)))) s) :=
 .of_wp fun prog w A R s h=>by
  obtain⟨hp,g,d,tk,os⟩:=s;obtain⟨hl,hb,h⟩:=h;have f2:=AutoSeq1.sub_tuple_tuple;have z1:items.size=p.length:=by have:=q2a hi;simpa using this
  have z2:items2.size=q.length:=by have:=q2a hj;simpa using this
  wp_walk using Md hl,Md hb,Gf _ (fun rest c s'=>c.1=none/\s'=⟨hp,g,d,tk,os⟩/\∃(vs ws:List Value) (p' q':Pth),rest=vs.zip ws /\
   Ho vs (p'.map mk)/\Ho ws (q'.map mk)/\p'.length+items2.size=q'.length+items.size/\R (.ok (.ret (.bool (pLt p' q')))) ⟨hp,g,d,tk,os⟩) _
  case turn =>
   rintro⟨y,x⟩ rest c s' ⟨hb',rfl,vs,ws,p',q',hz,hvi,hwi,hlen,hR⟩;cases p' with
   |nil=>cases hvi;rw[Tc] at hz;cases hz
   |cons m p' =>
    cases q' with
    |nil=>cases hwi;rw[Sf] at hz;cases hz
    |cons m' q' =>
     rw[Ak] at hvi hwi;cases hvi with
     |cons _ t hvi' =>
      cases hwi with
      |cons _ u hwi' =>
       rw[Jz] at hz;injection hz with hyx hrest;injection hyx with hy hx;subst hy hx;rw[q3y] at hR;simp only[Bk] at hlen;refine Ab (Sg (mk m) t (mk m') u (A:=A.in1) (s:=⟨hp,g,d,tk,os⟩) prog w _ _ ?_);by_cases e:m=m'
       ·subst e;rw[if_pos rfl] at hR;rw[beq_self_eq_true]
        wp_walk
        exact⟨rfl,rfl,_,_,_,_,hrest,hvi',hwi',by lia,hR⟩
       ·rw[if_neg e] at hR;have e2:(mk m==mk m')=false:=beq_eq_false_iff_ne.mpr fun z=>e (mk_inj z);rw[e2];have hri:∀(E:Value->Ae->Prop) (Q:Value->Ae->Prop),Q (.bool (decide (m<m'))) ⟨hp,g,d,tk,os⟩->wpAny (model prog w) A.in1 (richCompare .Lt (.str (mk m) t) (.str (mk m') u)) Q E ⟨hp,g,d,tk,os⟩:=fun E Q hq =>
         (Rl (by
          have e3:(mk m).cps.toList=m:=q2b m;have e4:(mk m').cps.toList=m':=q2b m';rw[e3,e4];exact hq):wpAny (model prog w) A.in1 (Cu .Lt (.str (mk m) t) (.str (mk m') u)) Q E ⟨hp,g,d,tk,os⟩)
        wp_walk using hri
        exact⟨_,rfl,by simpa using hR⟩
  case fin =>
   rintro⟨b1,b2⟩ s' ⟨hb',rfl,vs,ws,p',q',hz,hvi,hwi,hlen,hR⟩;simp only at hb';subst hb';have hv:pLt p' q'=decide (items.size<items2.size):=by
    cases p' with
    |nil =>
     cases q' with
     |nil=>exact(decide_eq_false (by simp only[Ht] at hlen;lia)).symm
     |cons m' q'=>exact(decide_eq_true (by simp only[Ht,Bk] at hlen;lia)).symm
    |cons m p' =>
     cases q' with
     |nil=>exact(decide_eq_false (by simp only[Ht,Bk] at hlen;lia)).symm
     |cons m' q' =>
      rw[Ak] at hvi hwi;cases hvi with
      |cons _ t _=>cases hwi with|cons _ u _=>rw[Jz] at hz;cases hz
   rw[hv] at hR
   wp_walk
   exact⟨_,rfl,by simpa[Cs.Tuple.tupleCompareSizes] using hR⟩
  case h =>
   exact⟨rfl,rfl,items.toList,items2.toList,p,q,rfl,hi,hj,by lia,h⟩
theorem z7s{Q:Value->Ae->Prop}(hx:PathAt s.heap x p)(hy:PathAt s.heap y q)(hu:A.units<cLine)(h:Q (.bool (pLt p q)) s):wpAny (model prog w) A (Cu .Lt x y) Q E s:=by
 obtain⟨l,items,rfl,hl,hi⟩:=hx;obtain⟨b,items2,rfl,hb,hj⟩:=hy;obtain⟨⟨cls,dd,data,sl⟩,ho,hc,n,hd⟩:=id hl;obtain⟨⟨cls2,dd2,data2,sl2⟩,ho2,hc2,n2,hd2⟩:=id hb;simp only at hc hd hc2 hd2;subst hc hd hc2 hd2;exact richCompare_meets_room (op:=.Lt) ⟨_,ho,rfl⟩ ⟨_,ho2,rfl⟩ PySem.F.slot_tuple_lt PySem.F.entry_tuple_lt (PySem.F.args_tuple_lt_2 _ _) (q8v l b items items2 n n2 dd dd2 sl sl2 p q hi hj)
  ⟨ho,ho2,show Value.bool (pLt p q)≠Value.notImplemented/\Q (.bool (pLt p q)) s from⟨(fun x=>nomatch x),h⟩⟩ hu
theorem x0i{b:Bool}{m m':List Nat}{t u:Tok}{Q:Bool->Ae->Prop}(h:Q (decide (m<m')) s):wpAny (model prog w) A (oneLt' b (.str (mk m) t) (.str (mk m') u)) Q E s:=by
 have e3:(mk m).cps.toList=m:=q2b m;have e4:(mk m').cps.toList=m':=q2b m';cases b with
 |true=>exact oneLt_str (by rw[e3,e4];exact h)
 |false =>
  rw[oneLt'_eq];simp only[Bb,if_false];exact Ab ((Rl (by rw[e3,e4];exact Dm h):wpAny (model prog w) A (Cu .Lt (.str (mk m) t) (.str (mk m') u)) _ E s))
theorem z7t{Q:Bool->Ae->Prop}(hx:PathAt s.heap x p)(hy:PathAt s.heap y q)(hu:A.units<cLine)(h:Q (pLt p q) s):wpAny (model prog w) A (oneLt' false x y) Q E s:=by
 rw[oneLt'_eq];simp only[Bb,if_false];exact Ab (z7s hx hy hu (Dm h):wpAny (model prog w) A (Cu .Lt x y) _ E s)
theorem z4v{b:Bool}{Q:Bool->Ae->Prop}(hx:PathAt s.heap x p)(hy:PathAt s.heap y q)(h:Q (pLt p q) s):wpAny (model prog w) A (keyLt' (Sr b) x y) Q E s:=by
 obtain⟨l,items,rfl,⟨o,ho,hc,n,hd⟩,hi⟩:=hx;obtain⟨m,items2,rfl,⟨o2,ho2,hc2,n2,hd2⟩,hj⟩:=hy;refine Ab (m:=Gj (.ref l)) (Ka ho hd (Ab (m:=Gj (.ref m)) (Ka ho2 hd2 ?_)));have z1:items.size=p.length:=by have:=q2a hi;simpa using this
 have z2:items2.size=q.length:=by have:=q2a hj;simpa using this
 refine Ab (Gf _ (fun rest c s'=>c=(none,())/\s'=s/\∃(vs ws:List Value) (p' q':Pth) (k:Nat),rest=(vs.zip ws).zipIdx k/\Ho vs (p'.map mk)/\Ho ws (q'.map mk) /\
   p'.length+items2.size=q'.length+items.size/\Q (pLt p' q') s) (fun c s'=>match c.1 with|some r=>Q r s'|none=>c.1=none/\Q (decide (items.size<items2.size)) s') ?turn ?fin _ _ ?h0|>fun z=>Br z ?post fun _ _ e=>e)
 case post =>
  rintro⟨c,⟨⟩⟩ s' hc;cases c with
  |none=>exact Ad hc.2
  |some r=>exact Ad hc
 case h0=>exact⟨rfl,rfl,items.toList,items2.toList,p,q,0,rfl,hi,hj,by lia,h⟩
 case fin =>
  rintro c s' ⟨rfl,rfl,vs,ws,p',q',k,hz,hv,hw,hl,hQ⟩;have e:pLt p' q'=decide (items.size<items2.size):=by
   cases p' with
   |nil =>
    cases q' with
    |nil=>exact(decide_eq_false (by simp only[Ht] at hl;lia)).symm
    |cons m' q'=>exact(decide_eq_true (by simp only[Ht,Bk] at hl;lia)).symm
   |cons m p' =>
    cases q' with
    |nil=>exact(decide_eq_false (by simp only[Ht,Bk] at hl;lia)).symm
    |cons m' q' =>
     rw[Ak] at hv hw;cases hv with
     |cons _ t _=>cases hw with|cons _ u _=>rw[Jz,Uh] at hz;cases hz
  rw[e] at hQ;exact⟨rfl,hQ⟩
 case turn =>
  rintro⟨⟨y,x⟩,i⟩ rest c s' ⟨rfl,rfl,vs,ws,p',q',k,hz,hv,hw,hl,hQ⟩;cases p' with
  |nil=>cases hv;rw[Tc] at hz;cases hz
  |cons m p' =>
   cases q' with
   |nil=>cases hw;rw[Sf] at hz;cases hz
   |cons m' q' =>
    rw[Ak] at hv hw;cases hv with
    |cons _ t hv' =>
     cases hw with
     |cons _ u hw' =>
      rw[Jz,Uh] at hz;injection hz with h1 h2;injection h1 with h1 h3;injection h1 with h4 h5;subst h4 h5 h3;rw[q3y] at hQ;simp only[Bk] at hl;refine Ab (Sg (mk m) t (mk m') u (A:=A) (s:=s') prog w _ _ ?_);by_cases e:m=m'
      ·subst e;rw[if_pos rfl] at hQ;rw[beq_self_eq_true];simp only[Dj,Bb,if_false];exact Ad ⟨rfl,rfl,_,_,_,_,_,h2,hv',hw',by lia,hQ⟩
      ·rw[if_neg e] at hQ;have e2:(mk m==mk m')=false:=beq_eq_false_iff_ne.mpr fun z=>e (mk_inj z);rw[e2];simp only[Mo,if_true];exact Ab (x0i (b:=b&&i==0) (Ad hQ))
def PairAt(h:Heap)(v:Value)(p:Pth)(m:Value):Prop:=∃a k,v=.ref a/\IsTup h a #[k,m]/\PathAt h k p
theorem PairAt.keep{h h':Heap}{v m:Value}{p:Pth}(x:PairAt h v p m)(k:∀b o,h.get? b=some o->h'.get? b=some o):PairAt h' v p m:=let ⟨a,z,e,t,s⟩:=x;⟨a,z,e,IsTup.keep t fun o=>k a o,s.keep k⟩
theorem z4w{m m':Value}{Q:Bool->Ae->Prop}(hx:PairAt s.heap x p m)(hy:PairAt s.heap y q m')(hxy:p=q->x=y)(lp:Low p)(lq:Low q)(hu:A.units+2<cLine)(h:Q (pLt p q) s):wpAny (model prog w) A (keyLt' (Sr false) x y) Q E s:=by
 obtain⟨l,k,rfl,hl,hk⟩:=hx;obtain⟨l2,k2,rfl,hl2,hk2⟩:=hy;obtain⟨o,ho,hc,n,hd⟩:=id hl;obtain⟨o2,ho2,hc2,n2,hd2⟩:=id hl2;refine Ab (m:=Gj (.ref l)) (Ka ho hd (Ab (m:=Gj (.ref l2)) (Ka ho2 hd2 ?_)));show wpAny (model prog w) A (forIn [((k,k2),0),((m,m'),1)] ((none,()):Option Bool×Unit) _ >>= _) Q E s;rw[Ox];refine Ab (Ab (Ab (z7r hk hk2 lp lq hu prog w _ _ ?_)));by_cases e:p=q
 ·have e1:=hxy e;cases e1;have e2:=IsTup.inj hl hl2;have e3:k=k2/\m=m':=by
   have:=congrArg Array.toList e2;simpa using this
  obtain⟨rfl,rfl⟩:=e3;subst e;rw[decide_eq_true rfl];simp only[Dj,Bb,if_false];refine Ad ?_;dsimp only;rw[Ox];refine Ab (Ab (Qo.same m (A:=A) (s:=s) prog w _ _ ?_));simp only[Dj,Bb,if_false];refine Ad ?_;dsimp only;rw[List.forIn_nil];refine Ad (Ad ?_);rw[q4h] at h;simpa using h
 ·rw[decide_eq_false e];simp only[Mo,if_true,Bool.false_and];refine Ab (z7t hk hk2 (by lia) (Ad ?_));exact Ad (Ad h)
theorem z0i{α β:Type}{f:α->Sem β}{g:α->β}:∀(l:List α) {Q:List β->Ae->Prop},(∀a∈l,∀(Q':β->Ae->Prop),Q' (g a) s->wpAny (model prog w) A (f a) Q' E s)->Q (l.map g) s->wpAny (model prog w) A (l.mapM f) Q E s
 |[],Q,_,h=>by rw[List.mapM_nil];exact Ad h
 |a::l,Q,hf,h=>by
  rw[List.mapM_cons];refine Ab (hf a Au _ (Ab (z0i l (fun b hb=>hf b (Ar _ hb)) (Ad h))))
theorem z7u{a:Addr}{its:Array Value}{Q:Option Value->Ae->Prop}(t:IsTup s.heap a its)(h:Q its[0]? s):wpAny (model prog w) A (firstOfTuple' (.ref a)) Q E s:=by
 obtain⟨o,ho,hc,n,hd⟩:=t;refine Ab (m:=typeOf (.ref a)) (Ff (T := "tuple") ⟨o,ho,hc⟩ ?_);have e:(Value.type "tuple" != Value.type "tuple")=false:=by decide
 rw[e];simp only[Bb,if_false];exact Ab (m:=Gj (.ref a)) (Ka ho hd (Ad h))
theorem z4x{T:String}{vs:List Value}{fs:Value->Value}{Q:Lc->Ae->Prop}(hne:vs≠[])(hf:∀v∈vs,∃a its,v=.ref a/\IsTup s.heap a its/\its[0]?=some (fs v))(hT:∀v∈vs,s.TypeIs (fs v) T)(h:Q (Sr (Value.type T != Value.type "tuple")) s):wpAny (model prog w) A (keyKind' vs.toArray) Q E s:=by
 rw[keyKind'_eq,Td];refine Ab (Ab (z0i (g:=fun v=>some (fs v)) vs (fun v hv Q' h'=>?_) (Ad ?_)))
 ·obtain⟨a,its,rfl,t,e⟩:=hf v hv;exact z7u t (by rw[e];exact h')
 ·have hall:((vs.map fun v=>some (fs v)).toArray.all fun x=>x.isSome)=true:=by simp
  rw[if_pos (by simpa using hall)];refine Ab (Gi ?_);rw[oneTypeOnly'_eq];have e:Array.filterMap id (vs.map fun v=>some (fs v)).toArray=(vs.map fs).toArray:=by
   simp[Sa]
  rw[e,Td];refine Ab (Ab (Ab (z0i (g:=fun _=>Value.type T) (vs.map fs) (fun x hx Q' h'=>?_) (Ad ?_))))
  ·obtain⟨v,hv,rfl⟩:=Ah.mp hx;exact Ff (hT v hv) h'
  ·cases vs with
   |nil=>exact absurd rfl hne
   |cons v vs =>
    have e0:(((v::vs).map fs).map fun _=>Value.type T).toArray[0]?=some (Value.type T):=by simp
    have ea:((((v::vs).map fs).map fun _=>Value.type T).toArray.all fun x=>x==Value.type T)=true:=by simp
    rw[e0];dsimp only;rw[ea];simp only[if_true];exact Ad (Ad (by simpa using h))
end
open PySem PyProof.Rows TX
section
variable{prog:Program}{w:World}{A:Around}{E:Value->Ae->Prop}{s:Ae}{kd:Lc}{S:Value->Prop}{r:Value->Int}{vs:List Value}
def KeptBut(a:Addr)(h h':Heap):Prop:=∀b o,b≠a->h.get? b=some o->h'.get? b=some o
structure Sorted (r:Value->Int) (vs:List Value) (out:Array Value):Prop where
 perm:out.toList.Perm vs
 rise:out.toList.Pairwise fun x y=>r x<=r y
theorem z7v{xs:Array Keyed}(hp:xs.Perm (pairsOf vs)):(∀p∈xs.toList,p.1=p.2)/\(xs.map (·.2)).toList.Perm vs:=by
 have hl:xs.toList.Perm (vs.zip vs):=by rw[<- pairsOf_toList];exact Nb.mp hp
 refine⟨fun p hp'=>(mem_zip_self (hl.mem_iff.mp hp')).1,?_⟩;rw[Ui];have:=hl.map (·.2)
 rwa [List.map_snd_zip (Am _)] at this
theorem q8w{st:Hr}(hp:(arrOf st).Perm (pairsOf vs))(u:Up r (arrOf st) (pairsOf vs).size):Sorted r vs ((arrOf st).map (·.2)):=by
 obtain⟨h1,h2⟩:=z7v hp;refine⟨h2,?_⟩;rw[List.pairwise_iff_getElem];intro i j hi hj hij;have hi':i<(arrOf st).size:=by simp_all
 have hj':j<(arrOf st).size:=by simp_all
 have e:=u i j (Ie hij) (by rw[<- hp.size_eq];exact hj');have k:∀{n:Nat} (hn:n<(arrOf st).size),rk r (arrOf st) n=r (arrOf st)[n].2:=fun{n} hn=>by
  unfold rk;rw[getElem?_pos (arrOf st) n hn];show r (arrOf st)[n].1=_;rw[h1 (arrOf st)[n] (by simp)]
 rw[k hi',k hj'] at e;simpa using e
theorem z4y(ho:s.heap.get? a=some (Ja "list" vs.toArray n))(h64:vs.length<64)(hS:∀v∈vs,S v)(hk:2<=vs.length->∀s' (E:Value->Ae->Prop) (Q:Lc->Ae->Prop),KeptBut a s.heap s'.heap->Q kd s'->wpAny (model prog w) A (keyKind' vs.toArray) Q E s')(T:∀s',KeptBut a s.heap s'.heap->Tells prog w A s' kd S r)(h:∀out,Sorted r vs out->P (.done (.ret .none)) { s with heap:=sortedHeap s.heap a vs out }):
  wpAny (model prog w) A (Cs.«list.sort» ⟨[.ref a],[]⟩) P E s:=by
 have hz2:=pairsOf_size vs;have hz3:vs.length<=sizeLine:=by rw[Dl];lia
 rw[list_sort_plain];refine Ab (Ka ho rfl (Ab (Ri ho rfl ?_)));have o1:=get?_update_seq ho (fun _=>#[]);refine Ab (Tv o1 rfl (Ab (Qb (Ab (wpAny_newList (Bm ?_))))));generalize hg:(((s.heap.update a (Eh fun _=>#[])).push (Ja "tuple" vs.toArray 0)).push (Ja "list" #[] 0))=g;have kg:KeptBut a s.heap g:=fun b o hb e=>by
  rw[<- hg];exact Af _ (Af _ ((Bq _ _ (Bo hb)).trans e))
 have og:=Af (Ja "list" #[] 0) (Af (Ja "tuple" vs.toArray 0) o1);rw[hg] at og;have fin:∀out,Sorted r vs out->P (.done (.ret .none)) { s with heap:=g.update a (Eh fun _=>out) }:=fun out so=>by
  have:=h out so;unfold sortedHeap at this
  rwa [hg] at this
 by_cases h2:vs.length<2
 ·have h2':vs.toArray.size<2:=by simpa using h2
  simp only[if_pos h2'];refine Ab (Ad ?_);refine Ab (Ad (Ab (Tv og rfl (Ab (Ri og rfl ?_ (hsz2:=by show((pairsOf vs).map _).size<=_;rw[Array.size_map];lia))))));simp only[bne_self_eq_false,Bb,if_false];exact Ad (fin _ (q8w (Ux _) fun i j a' b'=>by rw[show i=j by lia];exact Pl _))
 ·have h2':¬vs.toArray.size<2:=by simpa using h2
  simp only[if_neg h2'];refine Ab (hk (by lia) _ _ _ kg ?_);refine Ab (Br (x0g (a₀:=pairsOf vs) (Q:=fun _ t=>(arrOf t).Perm (pairsOf vs)/\Ue t=none/\Up r (arrOf t) (pairsOf vs).size) (T _ kg) (fun p hp=>hS _ ?_)
   ⟨Ux _,rfl,rfl,rfl⟩ (by lia) (by lia) fun t a1 a2 a3=>⟨a1,a2,a3⟩) ?_ fun _ _ e=>e)
  ·rw[pairsOf_toList] at hp;exact(mem_zip_self hp).2
  ·rintro⟨⟨⟩,t⟩ s' ⟨rfl,pm,fl,up⟩;refine Ab (Tv og rfl (Ab (Ri og rfl ?_ (hsz2:=by show((arrOf t).map _).size<=_;rw[Array.size_map,pm.size_eq];lia))));rw[fl];simp only[bne_self_eq_false,Bb,if_false];exact Ad (fin _ (q8w pm up))
end
section
variable{prog:Program}{w:World}{A:Around}{E:Value->Ae->Prop}{s:Ae}
structure Ready (prog:Program) (w:World) (A:Around) (vs:List Value) (h:Heap) (kd:Lc) (S:Value->Prop) (r:Value->Int):Prop where
 few:vs.length<64
 all:∀v∈vs,S v
 kind:2<=vs.length->∀A' s' (E:Value->Ae->Prop) (Q:Lc->Ae->Prop),A'.units<=A.units+9->(∀b o,h.get? b=some o->s'.heap.get? b=some o)->Q kd s'->wpAny (model prog w) A' (keyKind' vs.toArray) Q E s'
 tells:∀A' s',A'.units<=A.units+9->(∀b o,h.get? b=some o->s'.heap.get? b=some o)->Tells prog w A' s' kd S r
theorem sorted_ok
  (hc:∀{Q':List Value->Ae->Prop},(∀vs h tk kd S r,Ready prog w A vs h kd S r ->
    (∀h' out,Sorted r vs out->(∀b o,h.get? b=some o->h'.get? b=some o)->(∃e,h'.get? h.objs.size=some (Ja "list" out e))->Q (.ref h.objs.size) { s with heap:=h',toks:=tk })->Q' vs { s with heap:=h,toks:=tk }) ->
   wpAny (model prog w) A.in1 (collect x) Q' E s):wpAny (model prog w) A (call (.builtin "sorted") [x]) Q E s:=by
 refine Calls.call_function_entry kind_sorted plain_sorted entry_sorted (args_sorted1 _) ?_;refine Ab (Ad (Ab (hc fun vs h tk kd S r rd hQ=>?_)));have hz3:vs.length<=sizeLine:=by have:=rd.few;rw[Dl];lia
 refine Ab (wpAny_newList ?_);have ho:(h.push (Ja "list" vs.toArray 0)).get? h.objs.size=some (Ja "list" vs.toArray 0):=Av _ rfl;have kb:∀{g:Heap},KeptBut h.objs.size (h.push (Ja "list" vs.toArray 0)) g->∀b o,h.get? b=some o->g.get? b=some o:=fun kg b o e=>kg b o (Bd (An e)) (Af _ e);refine Ab (Bm (Bu slot_list_sort ⟨_,ho,rfl⟩ entry_list_sort (z4y ho rd.few rd.all (fun h2 s' E Q kg q=>rd.kind h2 _ s' E Q (by show A.units+1+1<=_;lia) (kb kg) q) (fun s' kg=>rd.tells _ s' (by show A.units+1+1<=_;lia) (kb kg)) fun out so=>⟨_,rfl,?_⟩) (args_list_sort _)));refine Ad ⟨_,rfl,hQ _ out so (fun b o e=>?_) (sortedHeap_at ho)⟩;have:=sortedHeap_old (vs:=vs) (out:=out) (h:=h.push (Ja "list" vs.toArray 0)) (Bd (An e)) (by rw[size_push'];exact Ib (An e));rw[this];exact Af _ e
theorem perm_map_inv {α β : Type} {g : α → β} : ∀ {l m : List β}, l.Perm m → ∀ {zs : List α}, m = zs.map g → ∃ zs' : List α, zs'.Perm zs ∧ l = zs'.map g := by
  intro l m h;induction h with
  | nil => simp_all
  | cons x h ih => intro zs e; cases zs with
    | nil => cases e
    | cons z zs =>
      injection e with e1 e2;obtain ⟨zs', h1, h2⟩ := ih e2;exact ⟨z :: zs', h1.cons z, by rw [Ak, ← h2, e1]⟩
  | swap x y l => intro zs e; cases zs with
    | nil => cases e
    | cons z zs => cases zs with
      | nil => cases e
      | cons z2 zs =>
        injection e with e1 e2;injection e2 with e2 e3;exact ⟨z2 :: z :: zs, List.Perm.swap _ _ _, by rw [Ak, Ak, ← e1, ← e2, ← e3]⟩
  | trans h1 h2 ih1 ih2 => intro zs e
                           obtain ⟨zs', p1, e1⟩ := ih2 e;obtain ⟨zs2, p2, e2⟩ := ih1 e1;exact ⟨zs2, p2.trans p1, e2⟩
open Classical in
noncomputable def keyBy (K:Value->Pth->Prop) (v:Value):Pth:=if h:∃p,K v p then choose h else[]
theorem q3h{K:Value->Pth->Prop}(hK:∀v p q,K v p->K v q->p=q){v:Value}{p:Pth}(h:K v p):keyBy K v=p:=by
 unfold keyBy;have hx:∃p,K v p:=⟨p,h⟩
 rw[dif_pos hx];exact hK v _ _ (Classical.choose_spec hx) h
theorem rise_paths{K:Value->Pth->Prop}(hK:∀v p q,K v p->K v q->p=q){α:Type}{g:α->Value}{f:α->Pth}:∀{zs:List α},(∀z∈zs,K (g z) (f z)/\f z∈ps)->(zs.map g).Pairwise (fun x y=>(pRank ps (keyBy K x):Int)<=(pRank ps (keyBy K y):Int))->(zs.map f).Pairwise fun a b=>pLt b a=false
 |[],_,_=>.nil
 |z::zs,hz,h=>by
  rw[Ak] at h ⊢;obtain⟨h1,h2⟩:=Kb.mp h;refine Kb.mpr ⟨fun b hb=>?_,rise_paths hK (fun y hy=>hz y (Ar _ hy)) h2⟩;obtain⟨y,hy,rfl⟩:=Ah.mp hb;obtain⟨k1,m1⟩:=hz z Au;obtain⟨k2,m2⟩:=hz y (Ar _ hy);have:=h1 (g y) (Ah.mpr ⟨y,hy,rfl⟩);rw[q3h hK k1,q3h hK k2] at this;rw[z0h m2 m1];exact decide_eq_false (by lia)
theorem ready_paths(few:vs.length<64)(hp:∀v∈vs,∃p∈ps,p≠[]/\PathAt h v p):
  Ready prog w A vs h (Sr true) (fun v=>∃p∈ps,PathAt h v p) (fun v=>(pRank ps (keyBy (PathAt h) v):Int)) where
 few:=few
 all:=fun v hv=>let ⟨p,a,_,b⟩:=hp v hv;⟨p,a,b⟩
 kind:=fun h2 A' s' E Q _ k q=>by
  have hne:vs≠[]:=fun z=>by rw[z] at h2;simp at h2
  have ex:∀v∈vs,∃a its n p t,v=.ref a/\IsTup s'.heap a its/\its[0]?=some (.str (mk n) t):=fun v hv=>by
   obtain⟨p,_,hne,x⟩:=hp v hv;obtain⟨a,its,rfl,tt,st⟩:=x.keep k;cases p with
   |nil=>exact absurd rfl hne
   |cons n p =>
    obtain⟨l⟩:=its;cases st with
    |cons _ t st'=>exact⟨a,_,n,p,t,rfl,tt,rfl⟩
  refine z4x (fs:=fun v=>(match v with|.ref a=>(match s'.heap.get? a with|some o=>(match o.data with|.seq its _=>its.getD 0 .none|_=>.none)|none=>.none)|_=>.none)) hne (fun v hv=>?_) (fun v hv=>?_) (by rw[show(Value.type "str" != Value.type "tuple")=true from by decide];exact q)
  ·obtain⟨a,its,n,p,t,rfl,tt,e⟩:=ex v hv;refine⟨a,its,rfl,tt,?_⟩;obtain⟨o,e1,e2,m,e3⟩:=tt;simp only[e1,e3];rw[e,Mt,e];rfl
  ·obtain⟨a,its,n,p,t,rfl,tt,e⟩:=ex v hv;obtain⟨o,e1,e2,m,e3⟩:=tt;simp only[e1,e3];rw[Mt,e];exact Qr _ _ _
 tells:=fun A' s' _ k E x y Q ⟨p,hp1,x1⟩ ⟨q,hq1,y1⟩ h'=>by
  refine z4v (x1.keep k) (y1.keep k) ?_;have hK:∀v p q,PathAt h v p->PathAt h v q->p=q:=fun _ _ _ a b=>a.inj b;have e1:=q3h hK x1;have e2:=q3h hK y1;rw[z0h hp1 hq1,<- e1,<- e2];exact h'
theorem PairAt.inj(h1:PairAt h v p m)(h2:PairAt h v q m'):p=q:=by
 obtain⟨a,k,rfl,t,s⟩:=h1;obtain⟨a',k',e,t',s'⟩:=h2;cases e;have e:=congrArg Array.toList (IsTup.inj t t');have e2:k=k':=by grind
 subst e2;exact s.inj s'
theorem ready_pairs(few:vs.length<64)(hp:∀v∈vs,∃p∈ps,∃m,Low p/\PairAt h v p m)(hi:∀u∈vs,∀v∈vs,∀p m m',PairAt h u p m->PairAt h v p m'->u=v)(hu:A.units+12<cLine):
  Ready prog w A vs h (Sr false) (fun v=>v∈vs) (fun v=>(pRank ps (keyBy (fun v p=>∃m,PairAt h v p m) v):Int)) where
 few:=few
 all:=fun v hv=>hv
 kind:=fun h2 A' s' E Q _ k q=>by
  have hne:vs≠[]:=fun z=>by rw[z] at h2;simp at h2
  have ex:∀v∈vs,∃a b its m,v=.ref a/\IsTup s'.heap a #[.ref b,m]/\IsTup s'.heap b its:=fun v hv=>by
   obtain⟨p,_,m,_,x⟩:=hp v hv;obtain⟨a,z,rfl,tt,b,its,rfl,t2,_⟩:=x.keep k;exact⟨a,b,its,m,rfl,tt,t2⟩
  refine z4x (fs:=fun v=>(match v with|.ref a=>(match s'.heap.get? a with|some o=>(match o.data with|.seq its _=>its.getD 0 .none|_=>.none)|none=>.none)|_=>.none)) hne (fun v hv=>?_) (fun v hv=>?_) (by rw[show(Value.type "tuple" != Value.type "tuple")=false from by decide];exact q)
  ·obtain⟨a,b,its,m,rfl,tt,_⟩:=ex v hv;refine⟨a,_,rfl,tt,?_⟩;obtain⟨o,e1,e2,n,e3⟩:=tt;simp only[e1,e3];rfl
  ·obtain⟨a,b,its,m,rfl,tt,t2⟩:=ex v hv;obtain⟨o,e1,e2,n,e3⟩:=tt;simp only[e1,e3];obtain⟨o2,f1,f2,_⟩:=t2;exact⟨o2,f1,f2⟩
 tells:=fun A' s' hA k E x y Q hx hy h'=>by
  obtain⟨p,hp1,m,lp,x1⟩:=hp x hx;obtain⟨q,hq1,m',lq,y1⟩:=hp y hy;refine z4w (x1.keep k) (y1.keep k) (fun e=>by subst e;exact hi x hx y hy _ _ _ x1 y1) lp lq (by lia) ?_;have hK:∀v p q,(∃m,PairAt h v p m)->(∃m,PairAt h v q m)->p=q:=fun v p q ⟨_,a⟩ ⟨_,b⟩=>PairAt.inj a b
  have e1:=q3h hK ⟨m,x1⟩;have e2:=q3h hK ⟨m',y1⟩;rw[z0h hp1 hq1,<- e1,<- e2];exact h'
end
end SB
namespace PySem.Rv
open Sem (wp)
structure Runs (prog:Program) (w:World) (A:Around) (S I:Addr) (n:Nat) (Fc:List Value->Heap->Prop) (It:Nat->Heap->Prop):Prop where
 keepF:∀acc h h',Fc acc h->(∀b o,b≠S->b≠I->h.get? b=some o->h'.get? b=some o)->Fc acc h'
 keepI:∀i h h',It i h->(∀b o,b≠S->h.get? b=some o->h'.get? b=some o)->It i h'
 item:∀acc (s:Ae) (Q:Option Value->Ae->Prop) (E:Value->Ae->Prop),acc.length<n->Fc acc s.heap->It acc.length s.heap ->
  (∀v h',Fc (acc++[v]) h'->It (acc.length+1) h'->(∀b o,b≠I->s.heap.get? b=some o->h'.get? b=some o)->Q (some v) { s with heap:=h' })->wpAny (model prog w) A.in1 (Jq (.ref I)) Q E s
 done:∀(s:Ae) (Q:Option Value->Ae->Prop) (E:Value->Ae->Prop),It n s.heap->(∀h',(∀b o,b≠I->s.heap.get? b=some o->h'.get? b=some o)->Q none { s with heap:=h' })->wpAny (model prog w) A.in1 (Jq (.ref I)) Q E s
section
variable{prog:Program}{w:World}{A:Around}{E:Value->Ae->Prop}{S I:Addr}{n:Nat}{Fc:List Value->Heap->Prop}{It:Nat->Heap->Prop}
theorem grow(W:Runs prog w A S I n Fc It)(hSI:S≠I)(hn:n<=sizeLine)(res:Value):∀(k:Nat) (acc:List Value) (s:Ae) (c:Nat),n-acc.length=k->acc.length<=n->Fc acc s.heap->It acc.length s.heap ->
  s.heap.get? S=some { cls:=.type "list",data:=.seq acc.toArray c } ->
  (∀acc' h' c',acc'.length=n->Fc acc' h'->(∀b o,b≠S->b≠I->s.heap.get? b=some o->h'.get? b=some o)->h'.get? S=some { cls:=.type "list",data:=.seq acc'.toArray c' }->R (.ok (.ret res)) { s with heap:=h' }) ->
  Fm (model prog w) A (.builtin "list.extend.loop" ⟨[.ref S,.ref I,res],[]⟩) R s:=by
 intro k;induction k with
 |zero =>
  intro acc s c hk hl f i hS hR;refine Hu Rm ?_;rw[Fj Hm _];have e:acc.length=n:=by lia
  refine Ab (W.done s _ _ (by rw[<- e];exact i) fun h' kp=>Ad ?_);exact hR acc h' c e (W.keepF _ _ _ f fun b o _ hb q=>kp b o hb q) (fun b o _ hb q=>kp b o hb q) (kp S _ hSI hS)
 |succ k ih =>
  intro acc s c hk hl f i hS hR;refine Hu Rm ?_;rw[Fj Hm _];refine Ab (W.item acc s _ _ (by lia) f i fun v h' f' i' kp=>?_);have hS':=kp S _ hSI hS;have oth:∀b o,b≠S->h'.get? b=some o->(h'.update S (Eh (·.push v))).get? b=some o:=fun b o hb q=>(Bq _ _ (Bo hb)).trans q;have hS2:(h'.update S (Eh (·.push v))).get? S=some { cls:=.type "list",data:=.seq (acc++[v]).toArray (c+1) }:=by
   have:=Io hS' (fun x=>x.push v);rw[this];simp
  refine Ab (Pa hS' rfl (Ad ⟨Jb Hm _,ih (acc++[v]) _ (c+1) (by rw[Ap,Dw];lia) (by rw[Ap,Dw];lia)
   (W.keepF _ _ _ f' fun b o hb _ q=>oth b o hb q) (by rw[Ap,Dw];exact W.keepI _ _ _ i' oth) hS2 fun acc' h2 c' e2 f2 k2 s2=>hR acc' h2 c' e2 f2 (fun b o hb hb' q=>k2 b o hb hb' (oth b o hb (kp b o hb' q))) s2⟩) (by rw[Ay];lia) (by simp;lia))
theorem collect_runs(hT:∀h,(∀b o,s.heap.get? b=some o->h.get? b=some o)->(⟨h,s.gens,s.drawn,s.toks,s.os⟩:Ae).TypeIs (.ref v) T)(hv:v<s.heap.objs.size)(h1:(Value.type T==Value.type "list")=false)(h2:(Value.type T==Value.type "tuple")=false)(hint:∀(A:Around) (E:Value->Ae->Prop) (s':Ae) (Q:Bool->Ae->Prop),s'.TypeIs (.ref v) T->Q false s'->wpAny (model prog w) A (Cs.List.listLengthHint (.ref v)) Q E s')(iter:∀(A:Around) (E:Value->Ae->Prop) (h:Heap) (Q:Value->Ae->Prop),(∀b o,s.heap.get? b=some o->h.get? b=some o)->Q (.ref h.objs.size) { s with heap:=h.push oI }->wpAny (model prog w) A (Pw (.ref v)) Q E { s with heap:=h })(hoI:∀h:Heap,(h.push oI).get? h.objs.size=some oI)(W:Runs prog w A s.heap.objs.size (s.heap.objs.size+1) n Fc It)(hn:n<=sizeLine)(h0:∀h,(∀b o,s.heap.get? b=some o->h.get? b=some o)->h.get? (s.heap.objs.size+1)=some oI->Fc [] h/\It 0 h)(hQ:∀acc h,acc.length=n->Fc acc h->s.heap.objs.size<=h.objs.size->(∀b o,s.heap.get? b=some o->h.get? b=some o)->Q acc { s with heap:=h }):wpAny (model prog w) A (collect (.ref v)) Q E s:=by
 refine Ab (wpAny_runValue (Hu F.entry_proto_collect ?_));rw[Fj F.plain_proto_collect _];refine Ab (Bx (Ad ⟨Jb Tf _,Hu F.entry_list_iadd ?_⟩));rw[Fj Tf _];show wpAny _ A.in1 (Cs.List.listExtendWith (.ref s.heap.objs.size) (.ref v) (.ref s.heap.objs.size)) _ _ { s with heap:=s.heap.push { cls:=.type "list",data:=.seq ([]:List Value).toArray } };generalize hg:s.heap.push { cls:=.type "list",data:=.seq ([]:List Value).toArray }=g;have kg:∀b o,s.heap.get? b=some o->g.get? b=some o:=fun b o q=>by rw[<- hg];exact Af _ q
 have gz:g.objs.size=s.heap.objs.size+1:=by rw[<- hg];exact Hd _ _
 have gS:g.get? s.heap.objs.size=some { cls:=.type "list",data:=.seq ([]:List Value).toArray }:=by rw[<- hg];exact Av _ rfl
 refine Ab (Ff (hT g kg) ?_);have hs:Og (.ref s.heap.objs.size) (.ref v)=false:=by simp[Og,Er hv]
 simp only[hs,h1,h2,Bool.or_false,Bb,if_false];refine Ab (iter _ _ g _ kg ?_);rw[gz];have kI:∀b o,g.get? b=some o->(g.push oI).get? b=some o:=fun b o q=>Af _ q;have hS₁:=kI _ _ gS;have put:∀(h:Heap) (c:Nat),(∀b o,b≠s.heap.objs.size->(g.push oI).get? b=some o->h.get? b=some o)->h.get? s.heap.objs.size=some { cls:=.type "list",data:=.seq ([]:List Value).toArray c }->h.get? (s.heap.objs.size+1)=some oI ->
   Fm (model prog w) A (.builtin "list.extend.loop" ⟨[.ref s.heap.objs.size,.ref (s.heap.objs.size+1),.ref s.heap.objs.size],[]⟩) (fun r s'=>∃acc c',r=.ok (.ret (.ref s.heap.objs.size))/\s'.heap.get? s.heap.objs.size=some { cls:=.type "list",data:=.seq acc c' }/\Q acc.toList s') { s with heap:=h }:=by
  intro h c kh hh hi;obtain⟨f,i⟩:=h0 h (fun b o q=>kh b o (Bd (An q)) (kI b o (kg b o q))) hi;refine grow W (Bd (Hf _)) hn _ n [] _ c (by simp) (By _) f i hh fun acc h' c' e f' k' s'=>⟨acc.toArray,c',rfl,s',?_⟩
  have:=hQ acc h' e f' (Ie (An s')) fun b o q=>k' b o (Bd (An q)) (Bd (Ib (An q))) (kh b o (Bd (An q)) (kI b o (kg b o q)));simpa using this
 have gI:(g.push oI).get? (s.heap.objs.size+1)=some oI:=by grind
 refine Ab (Bm (hint _ _ _ _ (hT (g.push oI) fun b o q=>kI b o (kg b o q)) ?_));have last:∀(h:Heap) (c:Nat),(∀b o,b≠s.heap.objs.size->(g.push oI).get? b=some o->h.get? b=some o)->h.get? s.heap.objs.size=some { cls:=.type "list",data:=.seq ([]:List Value).toArray c }->h.get? (s.heap.objs.size+1)=some oI->∀{R:Result->Ae->Prop},
   (∀s' acc c',s'.heap.get? s.heap.objs.size=some { cls:=.type "list",data:=.seq acc c' }->Q acc.toList s'->R (.ok (.ret (.ref s.heap.objs.size))) s')->Fm (model prog w) A (.builtin "list.extend.loop" ⟨[.ref s.heap.objs.size,.ref (s.heap.objs.size+1),.ref s.heap.objs.size],[]⟩) R { s with heap:=h }:=by
  intro h c kh hh hi R hR;refine Ii (put h c kh hh hi) fun r s' z=>?_;obtain⟨acc,c',rfl,e,q⟩:=z;exact hR s' acc c' e q
 refine wpAny_ite_split (fun _=>?_) (fun _=>?_)
 ·refine Ab (Gi (Ab ?_));show wpAny _ _ (updateSeq s.heap.objs.size (·.push .none) >>= fun _=>updateSeq s.heap.objs.size (·.pop)) _ _ _;refine Ab (Pa hS₁ rfl ?_);have hS₂:=Io hS₁ (fun x=>x.push Value.none);refine Pa hS₂ rfl ?_;have hS₃:=Io hS₂ (fun x=>x.pop);have oth:∀b o,b≠s.heap.objs.size->(g.push oI).get? b=some o->(((g.push oI).update s.heap.objs.size (Eh fun x=>x.push Value.none)).update s.heap.objs.size (Eh fun x=>x.pop)).get? b=some o :=
   fun b o hb q=>(Bq _ _ (Bo hb)).trans ((Bq _ _ (Bo hb)).trans q)
  refine Ad ⟨Jb Hm _,last _ _ oth hS₃ (oth _ _ (Er (Hf _)) gI) fun s' acc c' e q=>?_⟩;exact Ab (Um e (Ad q))
 ·refine Ad ⟨Jb Hm _,last _ _ (fun b o _ q=>q) hS₁ gI fun s' acc c' e q=>?_⟩;exact Ab (Um e (Ad q))
end
end PySem.Rv
namespace L2
open PySem PySem.Spec PyProof.Rows SB TX
def kP(p:Pth):List Key:=p.map fun n=>Sum.inr (mk n)
abbrev vP(p:Pth):List V:=p.map fun n=>V.str (mk n)
theorem q4i(p:Pth):(kP p).map kV=vP p:=by unfold kP;rw[Al];rfl
abbrev HRow:=Pth×V
abbrev dR(rows:List HRow):HO:=.dT (rows.map fun r=>(kP r.1,r.2))
theorem q8x:∀{p:Pth} {us:List Value},Vals (vP p) us->Ho us (p.map mk)
 |[],_,.nil=>.nil
 |n::p,us,h=>by
  cases h with
  |cons r t =>
   obtain⟨k,rfl⟩:=r;exact .cons _ k (q8x t)
section
variable{X:Cx}{pins:List (Addr×Obj)}{σ:St}{H:Hp}{s:Ae}
theorem Inv.path(I:Inv X pins σ H s)(h:H b=some (.tup (vP p))):PathAt s.heap (.ref b) p:=by
 obtain⟨z,its,r,t⟩:=I.hok b _ h;exact⟨b,its.toArray,rfl,t,by simpa using q8x r⟩
theorem Inv.rows(I:Inv X pins σ H s){rows:List HRow}(hd:H d=some (dR rows)):(d==Cw)=false/\rows.length<=sizeLine/\∃ob es ep,s.heap.get? d=some ob/\ob.ExactDict/\ob.data=.dict es ep/\(rows.map (·.1)).Nodup /\
  ∃zs:List (Addr×Value×HRow),zs.map (·.2.2)=rows/\es.toList.map (fun e=>(e.key,e.val))=zs.map (fun z=>(Value.ref z.1,z.2.1))/\∀z∈zs,H z.1=some (.tup (vP z.2.2.1))/\RelV z.2.2.2 z.2.1:=by
 obtain⟨z,hsys,xs,hp,ob,es,ep,ho,hex,hob,h4,h5⟩:=(show ObjOk X.prog X.w H s.heap d (dR rows) from I.hok d _ hd)
 rw[Ac] at z;have go:∀(rows:List HRow) (xs:List (List Key×Addr×Value)),Dd (fun(p:List Key×V) (q:List Key×Addr×Value)=>p.1=q.1/\H q.2.1=some (.tup (p.1.map kV))/\RelV p.2 q.2.2) (rows.map fun r=>(kP r.1,r.2)) xs ->
   xs.map (·.1)=rows.map (fun r=>kP r.1)/\∃zs:List (Addr×Value×HRow),zs.map (·.2.2)=rows/\(xs.map (Ln (Fp (mixKind X.prog X.w)))).map (fun e=>(e.key,e.val))=zs.map (fun z=>(Value.ref z.1,z.2.1))/\∀z∈zs,H z.1=some (.tup (vP z.2.2.1))/\RelV z.2.2.2 z.2.1:=by
  intro rows;induction rows with
  |nil=>intro xs h;cases h;exact⟨rfl,[],rfl,rfl,fun _ h=>nomatch h⟩
  |cons r rows ih =>
   intro xs h;cases h with
   |cons hq t =>
    rename_i q ys;obtain⟨e1,e2,e3⟩:=hq;obtain⟨i0,zs,i1,i2,i3⟩:=ih ys t;refine⟨by rw[Ak,Ak,i0,<- e1],(q.2.1,q.2.2,r)::zs,by rw[Ak,i1],by rw[Ak,Ak,Ak,i2];rfl,fun z hz=>?_⟩;rcases Be.mp hz with rfl|hz
    ·exact⟨by rw[<- q4i];exact e2,e3⟩
    ·exact i3 z hz
 obtain⟨g0,zs,g1,g2,g3⟩:=go rows xs hp;refine⟨hsys,z,ob,es,ep,ho,hex,hob,?_,zs,g1,by rw[h4];exact g2,g3⟩;rw[g0] at h5;have e:rows.map (fun r=>kP r.1)=(rows.map (·.1)).map kP:=by simp_all
 rw[e] at h5;exact(Tg.mp h5).imp fun hne z=>hne (by rw[z])
end
abbrev PTs(H:Hp):List Addr->List Pth->Prop:=Dd fun b p=>H b=some (.tup (vP p))
def rSortD:List V->Hp->VK->Prop:=fun vs H Q=>∃d rows,vs=[.ref d]/\H d=some (dR rows)/\rows.length<64/\(∀r∈rows,r.1≠[]) /\
 ∀L bs ps,H L=none->ps.Perm (rows.map (·.1))->ps.Pairwise (fun a b=>pLt b a=false)->PTs H bs ps->Q (.ref L) (upd H L (.lst (bs.map V.ref)))
theorem q5l:∀(bs:List Addr),Vals (bs.map V.ref) (bs.map Value.ref)
 |[]=>.nil
 |b::bs=>.cons rfl (q5l bs)
theorem z9e{H:Hp}{α:Type}{f:α->Addr}{g:α->Pth}:∀{zs:List α},(∀z∈zs,H (f z)=some (.tup (vP (g z))))->PTs H (zs.map f) (zs.map g)
 |[],_=>.nil
 |z::zs,h=>.cons (h z Au) (z9e fun y hy=>h y (Ar _ hy))
theorem q2e(hr:Room k X.A):CallR X (.builtin "sorted") rSortD:=by
 intro pins s σ H xs us Q I rv h;obtain⟨d,rows,rfl,hd,few,hne,q⟩:=h;obtain⟨u,rfl,ru⟩:=rv.one;cases ru;obtain⟨hsys,hz,ob,es,ep,ho,hex,hob,nd,zs,z1,z2,z3⟩:=I.rows hd;have hlen:es.size=rows.length:=by
  have:=congrArg List.length z2;rw[Ac,Ac,Em] at this;rw[this,<- z1,Ac]
 have hkeys:∀{i:Nat} (hi:i<es.size),∃z∈zs,zs[i]?=some z/\es[i].key=.ref z.1:=fun{i} hi=>by
  have e:=congrArg (fun l=>l[i]?) z2;simp only[Az,Ij,Ds hi,Jk] at e;cases hzi:zs[i]? with
  |none=>simp_all
  |some z =>
   rw[hzi] at e;injection e with e;injection e with e1 e2;exact⟨z,Aq hzi,rfl,e1⟩
 have hdL:=An ho;refine SB.sorted_ok fun{Q'} kk=>?_;refine PySem.Rv.collect_runs (n:=es.size) (Fc:=fun acc _=>acc=(zs.take acc.length).map fun z=>Value.ref z.1)
  (It:=fun i h=>h.IsKeyIter (s.heap.objs.size+1) d i es.size ep/\h.get? d=some ob) (fun h kh=>⟨ob,kh _ _ ho,hex.1⟩) hdL (by decide) (by decide) (fun A E s' Q hT hq=>W.kdl_hint_dict hT hq)
  (fun A E h Q kh hq=>PySem.Rv.keys_iter hsys ⟨ob,kh _ _ ho,hex.1⟩ (kh _ _ ho) hob hq) (fun h=>Av _ rfl) ⟨fun acc h h' f _=>f,fun i h h' ⟨f1,f2⟩ kp=>⟨f1.at fun o e=>kp _ _ (Er (Hf _)) e,kp _ _ (Bd hdL) f2⟩,?_,?_⟩ (by lia)
  (fun h kh ki=>⟨rfl,⟨_,ki,rfl,rfl⟩,kh _ _ ho⟩) (fun acc h el f hz2 kh=>?_)
 ·intro acc s' Q E hl f ⟨i1,i2⟩ hq;refine PySem.Rv.keys_item i1 i2 hob hl fun h' j1 sb=>?_;obtain⟨z,hzm,hzi,hzk⟩:=hkeys hl;rw[hzk];refine hq _ h' ?_ ⟨j1,(sb.2 d (Bd (Ib hdL))).trans i2⟩ fun b o hb e=>(sb.2 b hb).trans e;rw[Ap,Dw,Qf,hzi,Aj,<- f];rfl
 ·intro s' Q E ⟨i1,i2⟩ hq;exact PySem.Rv.keys_end hr.hd i1 i2 hob (Am _) fun h' eb=>hq h' fun b o hb e=>eb b o hb e
 ·have hzl:zs.length=es.size:=by rw[hlen,<- z1,Ac]
  have ea:acc=zs.map fun z=>Value.ref z.1:=by grind
  have hpa:∀v∈acc,∃p∈rows.map (·.1),p≠[]/\PathAt h v p:=fun v hv=>by
   rw[ea] at hv;obtain⟨z,hzm,rfl⟩:=Ah.mp hv;have hm:z.2.2∈rows:=by grind
   exact⟨z.2.2.1,Ah.mpr ⟨_,hm,rfl⟩,hne _ hm,(I.path (z3 z hzm).1).keep kh⟩
  refine kk acc h s.toks _ _ _ (SB.ready_paths (by lia) hpa) fun h' out so kh' ⟨e,he⟩=>?_;have pm:=so.perm;rw[ea] at pm;obtain⟨zs',p1,p2⟩:=SB.perm_map_inv pm rfl;have hrise:=so.rise;rw[p2] at hrise;have hps:=SB.rise_paths (fun _ _ _ a b=>a.inj b) (fun z hz=>by
   have hzm:=p1.mem_iff.mp hz;have hm:z.2.2∈rows:=by grind
   exact⟨(I.path (z3 z hzm).1).keep kh,Ah.mpr ⟨_,hm,rfl⟩⟩) hrise
  have keep:=fun b o z=>kh' b o (kh b o z);have hfr:=I.hok.fresh hz2;have eo:out.toList=(zs'.map (·.1)).map Value.ref:=by rw[p2,Al];rfl
  have el2:(zs'.map (·.1)).length=es.size:=by rw[Ac,p1.length_eq,hzl]
  refine⟨.ref h.objs.size,upd H h.objs.size (.lst ((zs'.map (·.1)).map V.ref)),I.laid (t':=s.toks) keep hz2 ⟨by rw[Ac,el2];lia,_,e,q5l _,?_⟩,rfl,?_⟩
  ·rw[he,<- eo]
  ·refine q _ (zs'.map (·.1)) (zs'.map fun z=>z.2.2.1) hfr ?_ hps (z9e fun z hz=>(z3 z (p1.mem_iff.mp hz)).1);have:=p1.map fun z:Addr×Value×HRow=>z.2.2.1;have e3:zs.map (fun z=>z.2.2.1)=rows.map (·.1):=by rw[<- z1,Al];rfl
   rwa [e3] at this
def vwO(v d:Addr):HO:=.ext fun h=>h.IsItemsView v d
def rItems:V->List V->Hp->VK->Prop:=fun x vs H Q=>∃d rows,x=.ref d/\vs=[]/\H d=some (dR rows)/\∀v,H v=none->Q (.ref v) (upd H v (vwO v d))
theorem z7w:MtR X "dict.items" rItems:=by
 intro pins s σ H x vs v us Q I rx rv h;obtain⟨d,rows,rfl,rfl,hd,q⟩:=h;cases rx;have hus:=rv.zero;subst hus;obtain⟨hsys,hz,ob,es,ep,ho,hex,hob,_⟩:=I.rows hd;refine Bu F.slot_dict_items ⟨ob,ho,hex.1⟩ F.entry_dict_items ?_ (F.args_dict_items_1 _);refine Ab ?_;unfold Cs.Dict.noArgs;refine Ab (Gq ⟨ob,ho,hex.1⟩ ?_);show wpAny _ _ (pure d) _ _ s;refine Ad ?_;unfold Il;rw[if_neg (by rw[hsys];exact Bn)];refine Ab (Ad (Ab (Bx (Ad ⟨_,rfl,.ref s.heap.objs.size,_,I.laid (t':=s.toks) (fun b u e=>Af _ e) (Am _) ?_,rfl,q _ I.fresh⟩))));exact⟨⟨_,Av _ rfl,rfl,rfl⟩,⟨_,Av _ rfl⟩,fun h1 h2 ⟨o,e,c,dd⟩ k=>⟨o,k o e,c,dd⟩⟩
def PR(H:Hp)(a:Addr)(r:HRow):Prop:=∃b,H a=some (.tup [.ref b,r.2])/\H b=some (.tup (vP r.1))
abbrev PRs(H:Hp):List Addr->List HRow->Prop:=Dd (PR H)
def rSortV:List V->Hp->VK->Prop:=fun vs H Q=>∃v d rows,vs=[.ref v]/\H v=some (vwO v d)/\H d=some (dR rows)/\rows.length<64/\(∀r∈rows,Low r.1) /\
 ∀L as rs H',H L=none->rs.Perm rows->(rs.map (·.1)).Pairwise (fun a b=>pLt b a=false)->Same H H'->H' L=some (.lst (as.map V.ref))->PRs H' as rs->Q (.ref L) H'
theorem Inv.tracks{σ:St}:∀{zs:List (Addr×List V)} {H:Hp},Inv X pins σ H s->X.s₀.heap.objs.size<=n->(zs.map (·.1)).Nodup ->
  (∀z∈zs,n<=z.1/\FpOk X pins H z.1/\z.2.length<=sizeLine/\∃its,Vals z.2 its/\IsTup s.heap z.1 its.toArray)->∃H',Inv X pins σ H' s/\Same H H'/\(∀z∈zs,H' z.1=some (.tup z.2))/\∀b,(∀z∈zs,z.1≠b)->H' b=H b:=by
 intro zs;induction zs with
 |nil=>intro H I _ _ _;exact⟨H,I,Same.refl H,(fun _ h=>nomatch h),fun _ _=>rfl⟩
 |cons z zs ih =>
  intro H I hn nd hz;obtain⟨h1,h2,h3,its,h4,h5⟩:=hz z Au;rw[Ak,Ci] at nd;have I2:=I.track (o:=.tup z.2) (Bi hn h1) h2 ⟨h3,its,h4,h5⟩;obtain⟨H',J,sm,ht,ho⟩:=ih I2 hn nd.2 (fun y hy=>by
   obtain⟨g1,g2,g3,g4⟩:=hz y (Ar _ hy);exact⟨g1,⟨by rw[q0c (fun e=>nd.1 (by rw[<- e];exact Ah.mpr ⟨y,hy,rfl⟩))];exact g2.1,g2.2⟩,g3,g4⟩)
  refine⟨H',J,((Same.refl H).new h2.1).trans sm,fun y hy=>?_,fun b hb'=>?_⟩
  ·rcases Be.mp hy with rfl|hy
   ·exact sm _ _ q0b
   ·exact ht y hy
  ·rw[ho b fun y hy=>hb' y (Ar _ hy),q0c (Bo (hb' z Au))]
theorem q2i{α β:Type}{f:α->β}:∀{l:List α},(l.map f).Nodup->∀{x y:α},x∈l->y∈l->f x=f y->x=y
 |[],_,_,_,h,_,_=>nomatch h
 |a::l,nd,x,y,hx,hy,e=>by
  rw[Ak,Ci] at nd;rcases Be.mp hx with ex|hx1
  ·rcases Be.mp hy with ey|hy1
   ·rw[ex,ey]
   ·exact absurd (by rw[<- ex,e];exact Ah.mpr ⟨y,hy1,rfl⟩) nd.1
  ·rcases Be.mp hy with ey|hy1
   ·exact absurd (by rw[<- ey,<- e];exact Ah.mpr ⟨x,hx1,rfl⟩) nd.1
   ·exact q2i nd.2 hx1 hy1 e
abbrev Zt:=Addr×Value×HRow
structure Made (h:Heap) (lo:Nat) (ws:List (Addr×Zt)):Prop where
 rise:(ws.map (·.1)).Pairwise fun a b:Nat=>a<b
 low:∀x∈ws,lo<=(show Nat from x.1)
 at_:∀x∈ws,IsTup h x.1 #[.ref x.2.1,x.2.2.1]
theorem Made.keep{lo:Nat}(m:Made h lo ws)(k:∀(a:Nat) o,lo<=a->h.get? a=some o->h'.get? a=some o):Made h' lo ws :=
 ⟨m.rise,m.low,fun x hx=>SB.IsTup.keep (m.at_ x hx) fun o e=>k _ o (m.low x hx) e⟩
theorem z4z{H:Hp}{α:Type}{f:α->Addr}{g:α->HRow}:∀{zs:List α},(∀z∈zs,PR H (f z) (g z))->PRs H (zs.map f) (zs.map g)
 |[],_=>.nil
 |z::zs,h=>.cons (h z Au) (z4z fun y hy=>h y (Ar _ hy))
theorem z2u(hr:Room k X.A):CallR X (.builtin "sorted") rSortV:=by
 intro pins s σ H xs us Q I rv h;obtain⟨v,d,rows,rfl,hv,hd,few,hlow,q⟩:=h;obtain⟨u,rfl,ru⟩:=rv.one;cases ru;obtain⟨hsys,hz,ob,es,ep,ho,hex,hob,nd,zs,z1,z2,z3⟩:=I.rows hd;obtain⟨vo,vho,vc,vd⟩:s.heap.IsItemsView v d:=(I.hok v _ hv).1;have hlen:es.size=rows.length:=by
  have:=congrArg List.length z2;rw[Ac,Ac,Em] at this;rw[this,<- z1,Ac]
 have hkeys:∀{i:Nat} (hi:i<es.size),∃z∈zs,zs[i]?=some z/\es[i].key=.ref z.1/\es[i].val=z.2.1:=fun{i} hi=>by
  have e:=congrArg (fun l=>l[i]?) z2;simp only[Az,Ij,Ds hi,Jk] at e;cases hzi:zs[i]? with
  |none=>simp_all
  |some z =>
   rw[hzi] at e;injection e with e;injection e with e1 e2;exact⟨z,Aq hzi,rfl,e1,e2⟩
 have hzl:zs.length=es.size:=by grind
 have hdL:=An ho;have hu:=hr.un;refine SB.sorted_ok fun{Q'} kk=>?_;refine PySem.Rv.collect_runs (n:=es.size) (oI:=PySem.Rv.itemObj d 0 es.size ep .none (.bool false) .none .none) (Fc:=fun acc h=>∃ws,acc=ws.map (fun x=>Value.ref x.1)/\ws.map (·.2)=zs.take acc.length/\Made h (s.heap.objs.size+2) ws)
  (It:=fun i h=>PySem.Rv.ItemIt h (s.heap.objs.size+1) d i es.size ep/\h.get? d=some ob) (fun h kh=>⟨vo,kh _ _ vho,vc⟩) (An vho) (by decide) (by decide) (fun A E s' Q hT hq=>W.kdx_hint hT hq)
  (fun A E h Q kh hq=>PySem.Rv.items_iter ⟨vo,kh _ _ vho,vc,vd⟩ (kh _ _ ho) hob hq) (fun h=>Av _ rfl) ⟨?_,fun i h h' ⟨f1,f2⟩ kp=>⟨f1.keep fun o e=>kp _ _ (Er (Hf _)) e,kp _ _ (Bd hdL) f2⟩,?_,?_⟩ (by lia)
  (fun h kh ki=>⟨⟨[],rfl,rfl,.nil,(fun _ z=>nomatch z),(fun _ z=>nomatch z)⟩,⟨_,_,_,_,ki,.inl rfl⟩,kh _ _ ho⟩) (fun acc h el f hz2 kh=>?_)
 ·rintro acc h h' ⟨ws,e1,e2,m⟩ kp;refine⟨ws,e1,e2,m.keep fun a o ha e=>kp a o (fun z=>?_) (fun z=>?_) e⟩
  ·rw[z] at ha;exact absurd ha (by lia)
  ·grind
 ·rintro acc s' Q E hl ⟨ws,e1,e2,m⟩ ⟨i1,i2⟩ hq;refine PySem.Rv.items_item i1 i2 hob hl fun h' j1 j2 j3 j4=>?_;obtain⟨z,hzm,hzi,hzk,hzv⟩:=hkeys hl;have lo:=i1.lt;have ni:∀{a:Nat},s.heap.objs.size+2<=a->a≠s.heap.objs.size+1:=fun h=>by lia
  refine hq _ h' ⟨ws++[(s'.heap.objs.size,z)],by rw[e1,Aj];rfl,?_,?_⟩ ⟨j1,j4 d ob (Bd (Ib hdL)) i2⟩ j4
  ·rw[Aj,e2,Ap,Dw,Qf,hzi];rfl
  ·have m':=m.keep (h':=h') fun a o ha e=>j4 a o (ni ha) e;refine⟨?_,fun x hx=>?_,fun x hx=>?_⟩
   ·rw[Aj];refine List.pairwise_append.mpr ⟨m.rise,Oq _ _,fun a ha b hb=>?_⟩;obtain⟨x,hx,rfl⟩:=Ah.mp ha;have hb':b=s'.heap.objs.size:=by simpa using hb
    rw[hb'];obtain⟨o,eo,_⟩:=m.at_ x hx;exact An eo
   ·rcases Ax.mp hx with hx|hx
    ·exact m.low x hx
    ·rw[Ao.mp hx];exact lo
   ·rcases Ax.mp hx with hx|hx
    ·exact m'.at_ x hx
    ·rw[Ao.mp hx];refine⟨_,j2,rfl,0,?_⟩;rw[hzk,hzv]
 ·rintro s' Q E ⟨i1,i2⟩ hq;exact PySem.Rv.items_end hr.hd i1 i2 hob (Am _) fun h' eb=>hq h' fun b o hb e=>eb b o hb e
 ·obtain⟨ws,e1,e2,m⟩:=f;rw[el,<- hzl,Cf] at e2;have hwz:∀{x:Addr×Zt},x∈ws->x.2∈zs:=fun{x} hx=>by rw[<- e2];exact Ah.mpr ⟨x,hx,rfl⟩
  have hrow:∀{x:Addr×Zt},x∈ws->x.2.2.2∈rows:=fun{x} hx=>by rw[<- z1];exact Ah.mpr ⟨_,hwz hx,rfl⟩
  have hpa:∀{x:Addr×Zt},x∈ws->PairAt h (.ref x.1) x.2.2.2.1 x.2.2.1:=fun{x} hx=>⟨x.1,.ref x.2.1,rfl,m.at_ x hx,(I.path (z3 _ (hwz hx)).1).keep kh⟩
  have hnd:(ws.map fun x=>x.2.2.2.1).Nodup:=by grind
  have hacc:∀{w:Value},w∈acc->∃x∈ws,w=.ref x.1:=fun{w} hw=>by
   rw[e1] at hw;obtain⟨x,hx,rfl⟩:=Ah.mp hw;exact⟨x,hx,rfl⟩
  refine kk acc h s.toks _ _ _ (SB.ready_pairs (ps:=rows.map (·.1)) (by lia) (fun w hw=>?_) (fun w hw y hy p mm mm' hp1 hp2=>?_) (by lia)) fun h' out so kh' ⟨e,he⟩=>?_
  ·grind
  ·obtain⟨x,hx,rfl⟩:=hacc hw;obtain⟨x2,hx2,rfl⟩:=hacc hy;have q1:=SB.PairAt.inj hp1 (hpa hx);have q2:=SB.PairAt.inj hp2 (hpa hx2);rw[q2i hnd hx hx2 (q1.symm.trans q2)]
  ·have pm:=so.perm;rw[e1] at pm;obtain⟨ws',p1,p2⟩:=SB.perm_map_inv pm rfl;have hrise:=so.rise;rw[p2] at hrise;have hps:=SB.rise_paths (fun w a b ⟨_,x⟩ ⟨_,y⟩=>SB.PairAt.inj x y) (fun x hx=>by
    have hxm:=p1.mem_iff.mp hx;exact⟨⟨_,hpa hxm⟩,Ah.mpr ⟨_,hrow hxm,rfl⟩⟩) hrise
   have keep:=fun b o z=>kh' b o (kh b o z);have I1:=I.kept (t':=s.toks) keep;have hlo:=fun{x} hx=>Bi (Nat.le_add_right _ 2) (m.low x (p1.mem_iff.mp hx));have ndA:(ws'.map (·.1)).Nodup:=by
    have:(ws.map (·.1)).Nodup:=m.rise.imp fun h e=>by subst e;exact absurd h (Fq _)
    exact(p1.map (·.1)).nodup_iff.mpr this
   obtain⟨H1,J,sm,ht,hot⟩:=I1.tracks (zs:=ws'.map fun x=>(x.1,[V.ref x.2.1,x.2.2.2.2])) I.sz (by rw[Al];exact ndA) (fun z hz=>by
    obtain⟨x,hx,rfl⟩:=Ah.mp hz;refine⟨hlo hx,I.fpOk (hlo hx) (I.hok.fresh (hlo hx)),by show 2<=sizeLine;decide,[.ref x.2.1,x.2.2.1],.cons rfl (.cons (z3 _ (hwz (p1.mem_iff.mp hx))).2 .nil),?_⟩;exact SB.IsTup.keep (m.at_ x (p1.mem_iff.mp hx)) fun o e=>kh' _ o e)
   have hL1:H1 h.objs.size=none:=by
    rw[hot _ fun z hz e=>?_]
    ·exact I.hok.fresh hz2
    ·obtain⟨x,hx,rfl⟩:=Ah.mp hz;obtain⟨o,eo,_⟩:=m.at_ x (p1.mem_iff.mp hx);exact absurd (An eo) (by rw[show x.1=h.objs.size from e];exact Fq _)
   have el2:(ws'.map (·.1)).length=es.size:=by rw[Ac,p1.length_eq,<- hzl,<- e2,Ac]
   have eo:out.toList=(ws'.map (·.1)).map Value.ref:=by rw[p2,Al];rfl
   have J2:=J.track (o:=.lst ((ws'.map (·.1)).map V.ref)) (Bi I.sz hz2) (I.fpOk hz2 hL1) ⟨by rw[Ac,el2];lia,_,e,q5l _,by rw[<- eo];exact he⟩;have sm2:Same H (upd H1 h.objs.size (.lst ((ws'.map (·.1)).map V.ref))):=sm.trans ((Same.refl H1).new hL1);refine⟨.ref h.objs.size,_,J2,rfl,q _ (ws'.map (·.1)) (ws'.map fun x=>x.2.2.2) _ (I.hok.fresh hz2) ?_ (by rw[Al];exact hps) sm2 q0b (z4z fun x hx=>?_)⟩
   ·have e3:ws.map (fun x=>x.2.2.2)=rows:=by rw[<- z1,<- e2,Al];rfl
    rw[<- e3];exact p1.map _
   ·refine⟨x.2.1,?_,sm2 _ _ (z3 _ (hwz (p1.mem_iff.mp hx))).1⟩;exact(Same.refl H1).new hL1 _ _ (ht _ (Ah.mpr ⟨x,hx,rfl⟩))
open PySem PySem.Spec PyProof.Rows
theorem d_set{σ:St}(hu:A.units+1<cLine)(I:Inv X pins σ H s)(e:H a=some (.dT kvs))(eb:H b=some (.tup (k.map kV)))(l:kvs.length<sizeLine)(rv:RelV v r)(h:∀s',Inv X pins σ (upd H a (.dT (putK kvs k v))) s'->(∀b o,b≠a->s.heap.get? b=some o->s'.heap.get? b=some o)->Q () s'):wpAny (model X.prog X.w) A (dictSet a (.ref b) r) Q E s:=by
 obtain⟨z,hd,xs,rel,dd⟩:=z2s I.hok e;have hz:xs.length<=sizeLine:=by rw[<- Cz rel];exact z
 have hl:(putK kvs k v).length<=sizeLine:=by have:=q1i kvs k v;lia
 refine wpAny_dictSet_heap (show(Fp (mixKind X.prog X.w)).room A from Nat.lt_of_succ_lt hu) (q3x I.hok eb) dd fun h' dd' hs=>h _ ?_ fun b o hb e=>(hs.2 b hb).trans e;obtain⟨q,es,ep,hq,h2,h3,h4,_,h5⟩:=dd';refine q7a I (by rw[e];exact True.intro) hs ⟨q,hq⟩ ⟨hl,hd,_,(rel.put k eb rv).keeps fun c ys ec=>?_,q,es,ep,hq,h2,h3,h4,h5⟩;rw[q0c (q9u ec e (fun z=>nomatch z))];exact ec
def CompWD(J:It)(g:TG)(tt:TT)(tk tv:TE)(σ0:St)(D:Addr)(Fin:List (List Key×V)->Hp->Prop)(H1:Hp):Prop :=
 ∃W:Nat->Nat->List (List Key×V)->Hp->Prop,(∃m,W 0 m [] (upd H1 D (.dT [])))/\∀i m ys H,W i m ys H->H D=some (.dT ys) /\
  ((J.stop i H/\Fin ys H)\/(J.go i H/\∃N:List (List Key×V)->Hp->Prop,(∀zs H',N zs H'->∃m',m'<m/\W (i+1) m' zs H')/\∀x H',J.yld i H x H'->g x σ0 H' fun σ2 H2=>Keeps0 σ0 σ2/\tt σ2 H2 fun b H3 =>
   if b=true then tk σ2 H3 fun y H4=>tv σ2 H4 fun v H5=>∃k c,y=.ref c/\H5 c=some (.tup (k.map kV))/\H5 D=some (.dT ys)/\ys.length<sizeLine/\N (putK ys k v) (upd H5 D (.dT (putK ys k v)))
   else N ys H3))
theorem q8y{σ:St}{Fin:Addr->List (List Key×V)->Hp->Prop}{RR:Value->Addr->Result->Ae->Prop}(hc:X.calm=true)(hkind:scope.kind=.function)(hnc:∀y∈scope.names,y.2≠.cell)(hc1:∀x c,cl.lookup x=some c->X.env.cells.lookup x=some c)(hc2:∀x,(x,Bc.free)∈scope.names->∃c,cl.lookup x=some c)(co:CapOk X scope caps)(hg:∀C s H,PG (cxComp X (tg++caps.map (·.1)) scope cl C fp s H) target g)(ht:∀C s H,PIfs (cxComp X (tg++caps.map (·.1)) scope cl C fp s H) ifs tt)(he:∀C s H,PE (cxComp X (tg++caps.map (·.1)) scope cl C fp s H) kx tk)(hv:∀C s H,PE (cxComp X (tg++caps.map (·.1)) scope cl C fp s H) vx tv)(hu:X.A.units+1<cLine)(I2:Inv X pins σ H1 s₂)(T:Turn X.prog X.w X.K target J fp it tn)(st:tn 0 s₂.heap)(hf:∀b∈fp,FpOk X pins H1 b)(hw:∀D,H1 D=none->CompWD J g tt tk tv (tg0 tg σ caps) D (Fin D) H1)(hRR:∀D C ys H' s',H1 D=none->Inv X pins σ H' s'->(∃m,s'.heap.Ns C m)->FpOk X pins H' C->Fin D ys H'->RR (.ref D) C (.ok .next) s'):
  wpAny (model X.prog X.w) X.A newDict (fun acc s₃=>wpAny (model X.prog X.w) X.A (newFunctionEnv scope X.env.globals cl [] X.env.qual none .none (some X.env)) (fun cenv s₄ =>
   Fm (model X.prog X.w) X.A (.compStart (.DictComp kx vx [⟨target,iter,ifs,0⟩] scope pos) 0 (.ref it) acc { cenv with scope:=relabel scope X.env }) (RR acc cenv.locals) s₄) E s₃) E s₂:=by
 have I3:Inv X pins σ (upd H1 s₂.heap.objs.size (.dT [])) { s₂ with heap:=s₂.heap.push { cls:=.type "dict",dict:=none,data:=.dict #[] },toks:=s₂.toks }:=I2.laid (fun _ _ q=>Af _ q) (Am _) (q7c s₂.heap I2.big);have hD0:=I2.fresh;refine Bx (Qu hnc (by intro y hy;simp at hy) (fun h₁ hns₁ hsb₁=>?_) hkind);dsimp only at hns₁ hsb₁ ⊢;generalize hDd:s₂.heap.objs.size=D at I3 hD0 hns₁ hsb₁ ⊢;generalize hs3:({ s₂ with heap:=s₂.heap.push { cls:=.type "dict",dict:=none,data:=.dict #[] } }:Ae)=s₃ at I3 hns₁ hsb₁ ⊢;have e3:s₂.heap.push { cls:=.type "dict",dict:=none,data:=.dict #[] }=s₃.heap:=by grind
 have o3:({ s₂ with heap:=h₁,toks:=s₂.toks+([]:List (Str×Value)).length }:Ae)={ s₃ with heap:=h₁,toks:=s₂.toks }:=by grind
 have size3:s₃.heap.objs.size=D+1:=by rw[<- e3,Hd,hDd]
 rw[e3] at hns₁ hsb₁ ⊢;have old3:∀b o,s₂.heap.get? b=some o->s₃.heap.get? b=some o:=fun b o e=>by rw[<- e3];exact Af _ e
 generalize hCd:s₃.heap.objs.size=C at hns₁ hsb₁ ⊢;have hk:=fun b o e=>hsb₁.extBut b o (by rw[<- hCd];exact Bd (An e)) (Af _ e);have fpo:∀b∈fp,∃o,s₂.heap.get? b=some o:=fun b hb=>by obtain⟨o,e,_⟩:=T.obj 0 _ st b hb;exact⟨o,e⟩
 have fpne:∀b∈fp,b≠D:=fun b hb=>by obtain⟨o,e⟩:=fpo b hb;rw[<- hDd];exact Bd (An e)
 have hf3:∀b∈fp,FpOk X pins (upd H1 D (.dT [])) b:=fun b hb=>⟨by rw[q0c (fpne b hb)];exact(hf b hb).1,(hf b hb).2⟩
 have IY:=Inv.ofcomp (tk:=s₂.toks) tg I3 hkind hnc hc1 hc2 hf3 (fun b hb=>let ⟨o,e⟩:=fpo b hb;⟨o,old3 b o e⟩) (Js hCd) hns₁ hk co;have FC:FpOk X pins H1 C:=by
  have z:=I3.fpOk (H':=H1) (Js hCd) (I2.hok.fresh (by rw[hDd,<- hCd,size3];exact Je _));exact z
 generalize hY:cxComp X (tg++caps.map (·.1)) scope cl C fp s₃ (upd H1 D (.dT []))=Y at IY;have hgY:PG Y target g:=by grind
 have htY:PIfs Y ifs tt:=by grind
 have heY:PE Y kx tk:=by grind
 have hvY:PE Y vx tv:=by grind
 have hYp:Y.prog=X.prog:=by rw[<- hY];rfl
 have hYw:Y.w=X.w:=by rw[<- hY];rfl
 have hYK:Y.K=X.K:=by rw[<- hY];rfl
 have hYA:Y.A=X.A:=by rw[<- hY];rfl
 have hYe:Y.env=Fg scope cl C X.env:=by rw[<- hY];rfl
 have hYx:Y.ex=fp:=by rw[<- hY];rfl
 have hYn:Y.pn=[]:=by rw[<- hY];rfl
 have hYc:Y.calm=true:=by rw[<- hY];exact hc
 have hYxe:Y.xe=fun _ _=>False:=by rw[<- hY];rfl
 have fpY:∀{H':Hp},(∀b∈fp,H' b=none)->∀b∈fp,FpOk Y [] H' b:=fun{H'} hn b hb=>by
  refine⟨hn b hb,?_,?_,.inl (by rw[hYx];exact hb),fun x c e=>?_,fun p hp=>?_⟩
  ·have:=(IY.ok.exf b (by rw[hYx];exact hb)).1;exact this
  ·exact IY.ok.exfs b (by rw[hYx];exact hb)
  ·exact(IY.ok.exf b (by rw[hYx];exact hb)).2 x c e
  ·grind
 obtain⟨W,⟨m0,w0⟩,turn⟩:=hw D hD0;have stY:=T.keep 0 _ _ st fun b hb o e=>hk b o (old3 b o e)
 have back:∀{H':Hp} {s':Ae} {σ':St},Inv Y [] σ' H' s'->Inv X pins σ H' s':=fun{H' s' σ'} IE=>by
  have hun:=IE.base;have hos:=IE.os;rw[<- hY] at hun hos;exact I3.call' hos hun (by have z:=IE.hok;rw[hYp,hYw] at z;exact z) IE.bare fun b hb=>⟨(hf b hb).2.2.2.1,(hf b hb).2.1,(hf b hb).2.2.2.2.1,(hf b hb).2.2.2.2.2⟩
 have gY:∀pins s σ H v u Q (E':Value->Ae->Prop),Inv Y pins σ H s->RelV v u->g v σ H Q->wpAny (model X.prog X.w) X.A (assign target (Fg scope cl C X.env) u) (fun _ s'=>∃σ' H',Inv Y pins σ' H' s'/\Q σ' H') E' s:=fun pins s σ H v u Q E' IE r q=>by
  have z:=hgY pins s σ H v u Q IE r q;rw[hYp,hYw,hYA,hYe,hYxe] at z;exact Br z (fun _ _ x=>x) fun _ _ f=>f.elim
 have tY:∀pins s σ H Q (E':Value->Ae->Prop),Inv Y pins σ H s->tt σ H Q->wpAny (model X.prog X.w) X.A (forIn ifs true fun c r=>if r=true then do let ok<-isTrue c (Fg scope cl C X.env) (eval c (Fg scope cl C X.env));pure (ForInStep.yield ok) else pure (ForInStep.yield r)) (TP Y pins σ Q) E' s:=fun pins s σ H Q E' IE q=>by
  have z:=htY pins s σ H Q IE q;rw[hYp,hYw,hYA,hYe,hYxe] at z;exact Br z (fun _ _ x=>x) fun _ _ f=>f.elim
 have eY:∀pins s σ H Q (E':Value->Ae->Prop),Inv Y pins σ H s->tk σ H Q->wpAny (model X.prog X.w) X.A (eval kx (Fg scope cl C X.env)) (EP Y pins σ Q) E' s:=fun pins s σ H Q E' IE q=>by
  have z:=heY pins s σ H Q IE q;rw[hYp,hYw,hYA,hYe,hYxe] at z;exact Br z (fun _ _ x=>x) fun _ _ f=>f.elim
 have vY:∀pins s σ H Q (E':Value->Ae->Prop),Inv Y pins σ H s->tv σ H Q->wpAny (model X.prog X.w) X.A (eval vx (Fg scope cl C X.env)) (EP Y pins σ Q) E' s:=fun pins s σ H Q E' IE q=>by
  have z:=hvY pins s σ H Q IE q;rw[hYp,hYw,hYA,hYe,hYxe] at z;exact Br z (fun _ _ x=>x) fun _ _ f=>f.elim
 have tiY:∀i pins s σ H (E':Value->Ae->Prop),Inv Y pins σ H s->(∀b∈fp,FpOk Y pins H b)->tn i s.heap->J.go i H ->
   wpAny (model X.prog X.w) X.A (Jq (.ref it)) (fun r s1=>∃u,r=some u /\
    wpAny (model X.prog X.w) X.A (Lr target (.ref it) u) (fun _ s2=>∃x H',Inv Y pins σ H' s2/\RelV x u/\J.yld i H x H'/\tn (i+1) s2.heap/\∀b∈fp,H' b=none) E' s1) E' s:=fun i pins s σ H E' IE hfy st go=>by
  have z:=T.item Y hYp hYw hYK hYc i pins s σ H E' IE hfy st go;rw[hYA] at z;exact z
 have tdY:∀i pins s σ H (E':Value->Ae->Prop),Inv Y pins σ H s->(∀b∈fp,FpOk Y pins H b)->tn i s.heap->J.stop i H ->
   wpAny (model X.prog X.w) X.A (Jq (.ref it)) (fun r s1=>r=none/\Inv Y pins σ H s1) E' s:=fun i pins s σ H E' IE hfy st go=>by
  have z:=T.done Y hYp hYw hYK hYc i pins s σ H E' IE hfy st go;rw[hYA] at z;exact z
 have loop:Fm (model X.prog X.w) X.A (.compLoop (.DictComp kx vx [⟨target,iter,ifs,0⟩] scope pos) 0 (.ref it) (.ref D) (Fg scope cl C X.env)) (RR (.ref D) C) { s₃ with heap:=h₁,toks:=s₂.toks }:=by
  refine codeAny_loop rfl (fun n s'=>∃i ys H',Inv Y [] (tg0 tg σ caps) H' s'/\tn i s'.heap/\(∀b∈fp,H' b=none)/\W i n ys H') ?_ m0 ⟨0,[],_,IY,stY,fun b hb=>(hf3 b hb).1,w0⟩;rintro n s4 ⟨i,ys,H4,I4,st4,fr4,w4⟩;refine wpAny_noted ?_;obtain⟨hHD,alt⟩:=turn i n ys H4 w4;rcases alt with⟨stop,fin⟩|⟨go,N,hN,step⟩
  ·refine Ab (Di (Ab (thn (tdY i [] s4 _ H4 _ I4 (fpY fr4) st4 stop) fun r s5 ⟨hr,I5⟩=>?_)));subst hr;refine Ad (hRR D C ys H4 s5 hD0 (back I5) ?_ ⟨?_,FC.2⟩ fin)
   ·obtain⟨m,hm,_⟩:=I5.loc;rw[hYe] at hm;exact⟨m,hm⟩
   ·have z:=I5.free;rw[hYe] at z;exact z
  ·refine Ab (Di (Ab (thn (tiY i [] s4 _ H4 _ I4 (fpY fr4) st4 go) fun r s5 ⟨u,hr,h5⟩=>?_)));subst hr;refine Ab (thn h5 fun _ s6 ⟨x,H6,I6,r6,y6,st6,fr6⟩=>?_);have I6':=I6.pinned (fpY fr6) (T.obj _ _ st6);refine Ab (thn (gY _ s6 _ H6 x u _ _ I6' r6 (step x H6 y6)) fun _ s7 ⟨σ7,H7,I7,kp,q7⟩=>?_);refine Ab (thn (tY _ s7 σ7 H7 _ _ I7 q7) fun b s8 ⟨H8,I8,q8⟩=>?_);have again:∀{H9:Hp} {s9:Ae} {zs:List (List Key×V)} {m':Nat},Inv Y ([]++pinsAt fp s6.heap) σ7 H9 s9->m'<n->W (i+1) m' zs H9->∃m,m<n/\∃i ys H',Inv Y [] (tg0 tg σ caps) H' s9/\tn i s9.heap/\(∀b∈fp,H' b=none)/\W i m ys H':=fun{H9 s9 zs m'} I9 hm w9=>by
    refine⟨m',hm,i+1,zs,H9,I9.unpinned.weak kp.1 kp.2,T.keep _ _ _ st6 fun b hb o e=>(I9.pin (b,o) (Bl _ (Bl _ (q1u hb e)))).1,fun b hb=>?_,w9⟩;obtain⟨o,e,d⟩:=T.obj _ _ st6 b hb;exact(I9.pin (b,o) (Bl _ (Bl _ (q1u hb e)))).2.1
   cases b with
   |true =>
    refine Ab (Ab (thn (eY _ s8 σ7 H8 _ _ I8 q8) fun kv s9 ⟨yy,H9,I9,r9,q9⟩=>?_));refine Ab (Bm (thn (vY _ s9 σ7 H9 _ _ I9 q9) fun vv s10 ⟨v,H10,I10,r10,kk,bb,ey,hbb,hH10,hz10,n10⟩=>?_));subst ey;cases r9;obtain⟨m',hm',w10⟩:=hN _ _ n10;refine Ab (Di (Bm ?_));have z:=d_set (E:=notedBy (model X.prog X.w) X.A (Fg scope cl C X.env) fun e s'=>RR (.ref D) C (.error e) s') (Q:=fun _ s'=>Inv Y ([]++pinsAt fp s6.heap) σ7 (upd H10 D (.dT (putK ys kk v))) s') hu I10 hH10 hbb hz10 r10 fun s' I' _=>I';rw[hYp,hYw] at z;exact thn z fun _ s11 I11=>Ad ⟨rfl,again I11 hm' w10⟩
   |false =>
    obtain⟨m',hm',w8⟩:=hN _ _ q8;exact Ad ⟨rfl,again I8 hm' w8⟩
 rw[o3];exact codeAny_compStart_dict loop (T.self _ 0 _ _ _ stY loop)
def tCompD(wi:TI)(g:TG)(tt:TT)(tk tv:TE)(tg:List Str)(caps:Caps):TE:=fun σ H Q=>wi σ H fun J H1=>∀D,H1 D=none->CompWD J g tt tk tv (tg0 tg σ caps) D (fun _ H'=>Q (.ref D) H') H1
section
variable{X:Cx}{iter target kx vx:Expr}{ifs:List Expr}{scope:Scope}{pos:Pos}{wi:TI}{g:TG}{tt:TT}{tk tv:TE}
theorem z7x(tg:List Str)(caps:Caps)(hc:X.calm=true)(hi:PI X target iter wi)(hg:∀cl C fp s H,PG (cxComp X (tg++caps.map (·.1)) scope cl C fp s H) target g)(ht:∀cl C fp s H,PIfs (cxComp X (tg++caps.map (·.1)) scope cl C fp s H) ifs tt)(he:∀cl C fp s H,PE (cxComp X (tg++caps.map (·.1)) scope cl C fp s H) kx tk)(hv:∀cl C fp s H,PE (cxComp X (tg++caps.map (·.1)) scope cl C fp s H) vx tv)(hu:X.A.units+1<cLine)(hk:compChk X.N X.env.scope scope caps=true:=by rfl)(hs:∀x,Kn iter X.env x=pure x:=by intro _;rfl):
  PE X (.DictComp kx vx [⟨target,iter,ifs,0⟩] scope pos) (tCompD wi g tt tk tv tg caps):=by
 intro pins s σ H Q I h;obtain⟨hkind,hnc,hnames,hfree,co⟩:=q4e hk;obtain⟨cl,hclos,hc1,hc2⟩:=q9w I hfree;refine Jw rfl hs hclos hkind hnames (thn (hi pins s σ H _ I h) fun v s1 h1=>thn h1 fun itv s2 h2=>?_);obtain⟨it,fp,tn,J,H2,e,I2,T,st2,f2,hw⟩:=h2;subst e;refine q8y hc hkind hnc hc1 hc2 co (fun C s H=>hg cl C fp s H) (fun C s H=>ht cl C fp s H) (fun C s H=>he cl C fp s H) (fun C s H=>hv cl C fp s H) hu I2 T st2 f2 hw ?_;intro D C ys H' s' hD I' hm F fin;obtain⟨m,hm⟩:=hm;refine⟨m,hm,fun h' hsb=>⟨.ref D,H',I'.turned (t':=s'.toks) (fun b o hb e=>(hsb.2 b hb).trans e) F.1 F.2.1 F.2.2.2.1 F.2.2.2.2.1 F.2.2.2.2.2,rfl,fin⟩⟩
def tSetDC(wi:TI)(g:TG)(tt:TT)(tk tv:TE)(tg:List Str)(caps:Caps)(i:Nat):TS:=fun D' σ H=>wi σ H fun J H1=>∀D,H1 D=none->CompWD J g tt tk tv (tg0 tg σ caps) D (fun _ H'=>D'.nx (σ.set i (some (.ref D))) H') H1
theorem z7y{i:Nat}{y:Str}{py spos:Pos}(tg:List Str)(caps:Caps)(hN:X.N.Nodup)(hiN:X.N[i]?=some y)(hx:Loc X.env.scope y)(hc:X.calm=true)(hi:PI X target iter wi)(hg:∀cl C fp s H,PG (cxComp X (tg++caps.map (·.1)) scope cl C fp s H) target g)(ht:∀cl C fp s H,PIfs (cxComp X (tg++caps.map (·.1)) scope cl C fp s H) ifs tt)(he:∀cl C fp s H,PE (cxComp X (tg++caps.map (·.1)) scope cl C fp s H) kx tk)(hv:∀cl C fp s H,PE (cxComp X (tg++caps.map (·.1)) scope cl C fp s H) vx tv)(hu:X.A.units+1<cLine)(hk:compChk X.N X.env.scope scope caps=true:=by rfl)(hs:∀x,Kn iter X.env x=pure x:=by intro _;rfl)(hsw:Jp (.DictComp kx vx [⟨target,iter,ifs,0⟩] scope pos) (some (.Name y py)) spos.line X.env=pure true:=by rfl)(hf:X.fn y=true\/X.env.scope.names.lookup y=some .local:=by first|exact .inl rfl|exact .inr rfl|assumption):
  PS X (.Assign [.Name y py] (.DictComp kx vx [⟨target,iter,ifs,0⟩] scope pos) spos) (tSetDC wi g tt tk tv tg caps i):=by
 intro pins s σ H D' I h;obtain⟨hkind,hnc,hnames,hfree,co⟩:=q4e hk;obtain⟨cl,hclos,hc1,hc2⟩:=q9w I hfree;rw[exec_Assign_Name_used _ _ _ _ hsw];refine Ab (Di (Ab ?_));refine Ab (Br (Jw (use:=some (assign (.Name y py) X.env)) rfl hs hclos hkind hnames
  (thn (hi pins s σ H _ I h) fun v s1 h1=>thn h1 fun itv s2 h2=>?_)) (fun _ s' hq=>Ad (Ad hq)) fun _ _ e=>e)
 obtain⟨it,fp,tn,J,H2,e,I2,T,st2,f2,hw⟩:=h2;subst e;refine q8y (RR:=fun acc C=>compPost (model X.prog X.w) X.A X.xe (some (assign (.Name y py) X.env)) (fun _ s'=>SP X pins D' .next s') acc C) (Fin:=fun D _ H'=>D'.nx (σ.set i (some (.ref D))) H') hc hkind hnc hc1 hc2 co (fun C s H=>hg cl C fp s H) (fun C s H=>ht cl C fp s H) (fun C s H=>he cl C fp s H) (fun C s H=>hv cl C fp s H) hu I2 T st2 f2 hw ?_;intro D C ys H' s' hD I' hm F fin;obtain⟨m,hm⟩:=hm;refine Su (q7v (v:=.ref D) I' hN hiN hx rfl (fun s'' I'' hsb=>?_) hf);obtain⟨a,sb,ha⟩:=hsb;have hCa:C≠a:=by
  rcases ha with ha|ha
  ·rw[ha];exact F.2.1
  ·exact fun z=>F.2.2.2.2.1 y a ha z.symm
 refine⟨m,hm.sameBut sb hCa,fun h' hs'=>?_⟩;exact⟨_,H',I''.turned (t':=s''.toks) (fun b o hb e=>(hs'.2 b hb).trans e) F.1 F.2.1 F.2.2.2.1 F.2.2.2.2.1 F.2.2.2.2.2,fin⟩
end
theorem z7z{Fin:List (List Key×V)->Hp->Prop}(Pv:Nat->List (List Key×V)->Hp->Prop)(h0:Pv 0 [] (upd H1 D (.dT [])))(hl:∀i ys H,Pv i ys H->H D=some (.dT ys))(hgo:∀i ys H,i<n->Pv i ys H->J.go i H)(hstop:∀ys H,Pv n ys H->J.stop n H)(hs:∀i ys H x H',i<n->Pv i ys H->J.yld i H x H'->g x σ0 H' fun σ2 H2=>Keeps0 σ0 σ2/\tt σ2 H2 fun b H3 =>
   if b=true then tk σ2 H3 fun y H4=>tv σ2 H4 fun v H5=>∃k c,y=.ref c/\H5 c=some (.tup (k.map kV))/\H5 D=some (.dT ys)/\ys.length<sizeLine/\Pv (i+1) (putK ys k v) (upd H5 D (.dT (putK ys k v))) else Pv (i+1) ys H3)(hd:∀ys H,Pv n ys H->Fin ys H):CompWD J g tt tk tv σ0 D Fin H1:=by
 refine⟨fun i m ys H=>m=n-i/\i<=n/\Pv i ys H,⟨n,by simp,By _,h0⟩,?_⟩;rintro i m ys H ⟨rfl,hi,p⟩;refine⟨hl i ys H p,?_⟩;by_cases hlt:i<n
 ·exact .inr ⟨hgo i ys H hlt p,Pv (i+1),fun zs H' q=>⟨n-(i+1),by lia,rfl,hlt,q⟩,fun x H' y=>hs i ys H x H' hlt p y⟩
 ·have e:i=n:=by lia
  subst e;exact .inl ⟨hstop ys H p,hd ys H p⟩
theorem q6i{K:Ai}{Fin:List (List Key×V)->Hp->Prop}(Pv:Nat->List (List Key×V)->Hp->Prop)(h0:Pv 0 [] (upd H1 D (.dT [])))(hl:∀i ys H,Pv i ys H->H D=some (.dT ys)/\SqL K H a xs)(hs:∀i ys H x,xs[i]?=some x->Pv i ys H->g x σ0 H fun σ2 H2=>Keeps0 σ0 σ2/\tt σ2 H2 fun b H3 =>
   if b=true then tk σ2 H3 fun y H4=>tv σ2 H4 fun v H5=>∃k c,y=.ref c/\H5 c=some (.tup (k.map kV))/\H5 D=some (.dT ys)/\ys.length<sizeLine/\Pv (i+1) (putK ys k v) (upd H5 D (.dT (putK ys k v))) else Pv (i+1) ys H3)(hd:∀ys H,Pv xs.length ys H->Fin ys H):CompWD (Itl K a) g tt tk tv σ0 D Fin H1 :=
 z7z Pv h0 (fun i ys H p=>(hl i ys H p).1) (fun i ys H h p=>⟨xs,xs[i],(hl i ys H p).2,by simp[h]⟩) (fun ys H p=>⟨xs,(hl _ ys H p).2,Am _⟩)
  (fun i ys H x H' h p y=>by obtain⟨e,y⟩:=y;subst e;exact hs i ys _ x (y xs (hl i ys _ p).2) p) hd
end L2
namespace PySem.Rv
open Sem (wp)
section
variable{prog:Program}{w:World}{A:Around}{E:Value->Ae->Prop}{s:Ae}
theorem q5w:Np (.type "list") "keys" = pure none:=by rw[typeLookup_type,builtinLookup_eq_fast];kernel_rfl
theorem no_keys(hx:s.heap.get? a=some { cls:=.type "list",dict:=none,data:=.seq xs k,slots:=#[] })(hA:A.handled=none)(h:∀h' tk,(∀b o,s.heap.get? b=some o->h'.get? b=some o)->Q none { s with heap:=h',toks:=tk }):wpAny (model prog w) A (getAttr? (.ref a) "keys") Q E s:=by
 obtain⟨hp,g,d,tk,os⟩:=s;have hT:∀tk',(⟨hp,g,d,tk',os⟩:Ae).TypeIs (.ref a) "list" := fun _=>⟨_,hx,rfl⟩
 have f1:=sub_AttributeError;have f3:=Kc.lookup;have f4:=Kc.bind (.ref a);have f5:=am_list_getattr_none;repeat (any_goals (first|assumption|exact hT _|((with_reducible show wpAny _ _ (call (Value.builtin "list.__getattribute__") _ _) _ _ _);refine Lx Kc (hT _) am_entry_list_getattribute (F.args_list_getattribute_2 _ _) (meets_getattribute_miss_list a xs k #[] "keys" _ q5w (by decide +kernel) (by decide +kernel)) ⟨hx,hA,fun h' tk' e hx'=>?_⟩)|wp_step))
 obtain⟨t',u',he⟩:=hx'.there;show wpAny _ _ (getattributeRaised _ _ _ _ _ _ _) _ _ _;repeat (any_goals (first|assumption|wp_step))
 exact h _ _ hx'.keeps
end
theorem plain_upd:plainId "dict.update.loop" = true:=by decide +kernel
theorem entry_upd:entryFor table "dict.update.loop" = some Cs.«dict.update.loop» := entryFor_of_fast (by kernel_rfl)
end PySem.Rv
namespace L2
open PySem PySem.Spec PyProof.Rows SB TX
def putR(acc:List (List Key×V))(r:HRow):List (List Key×V):=putK acc (kP r.1) r.2
theorem z1i:∀(rows:List HRow) (acc:List (List Key×V)),(rows.foldl putR acc).length<=acc.length+rows.length
 |[],acc=>Am _
 |r::rows,acc=>by
  have h1:=z1i rows (putR acc r);have h2:=q1i acc (kP r.1) r.2;rw[Lw,Bk];unfold putR at h1 ⊢;lia
section
variable{X:Cx}{pins:List (Addr×Obj)}{σ:St}
theorem z0j(I:Inv X pins σ H s)(h:H L=some (.lst xs)):∃its,Vals xs its/\s.heap.IsList L its.toArray:=by
 obtain⟨z,its,n,r,e⟩:=I.hok L _ h;exact⟨its,r,_,e,rfl,n,rfl⟩
theorem z5a(hh:A.handled=none)(hu:A.units+3<cLine)(few:rows.length<sizeLine):∀(k i:Nat) (H:Hp) (s:Ae),rows.length-i=k->i<=rows.length->Inv X pins σ H s->H L=some (.lst (as.map V.ref))->PRs H as rows ->
  H D=some (.dT ((rows.take i).foldl putR []))->s.heap.IsListIter it L i->FpOk X pins H it->(∀H' s',Inv X pins σ H' s'->H' D=some (.dT (rows.foldl putR []))->(∀b,b≠D->H' b=H b)->R (.ok (.ret .none)) s') ->
  Fm (model X.prog X.w) A (.builtin "dict.update.loop" ⟨[.ref D,.ref it,Es i,.none],[]⟩) R s:=by
 intro k;induction k with
 |zero =>
  intro i H s hk hi I hL hp hD hit hf hR;have ei:i=rows.length:=by lia
  subst ei;rw[Cf] at hD;obtain⟨its,rv,hl⟩:=z0j I hL;have hlen:its.length=rows.length:=by rw[<- rv.length,Ac];exact Cz hp
  refine Hu PySem.Rv.entry_upd ?_;rw[Fj PySem.Rv.plain_upd _];refine Ab (Px hh hit hl (by simp[hlen]) fun h' eb=>?_);exact Ab (Ad (Ad (hR H _ (I.turned (t':=s.toks) (fun b o hb e=>eb b o hb e) hf.1 hf.2.1 hf.2.2.2.1 hf.2.2.2.2.1 hf.2.2.2.2.2) hD fun _ _=>rfl)))
 |succ k ih =>
  intro i H s hk hi I hL hp hD hit hf hR;obtain⟨its,rv,hl⟩:=z0j I hL;have hil:i<rows.length:=by lia
  obtain⟨a,ha⟩:∃a,as[i]?=some a:=⟨as[i]'(by rw[Cz hp];exact hil),by simp[Cz hp,hil]⟩
  obtain⟨r,hr,b,hpa,hpb⟩:=Dd.at' hp ha;obtain⟨u,hu1,hu2⟩:=rv.get (by rw[Az,ha];rfl);cases hu2;refine Hu PySem.Rv.entry_upd ?_;rw[Fj PySem.Rv.plain_upd _];refine Ab (Pd hit hl (by simpa using hu1) fun h' hit' sb=>?_);have I1:Inv X pins σ H { s with heap:=h' }:=I.turned (t':=s.toks) (fun b o hb e=>(sb.2 b hb).trans e) hf.1 hf.2.1 hf.2.2.2.1 hf.2.2.2.2.1 hf.2.2.2.2.2;obtain⟨z,pits,pr,o,po,pc,pn,pd⟩:=I1.hok a _ hpa;obtain⟨u1,u2,e12,r1,r2⟩:=pr.two;subst e12;cases r1;refine Ab (Bm ?_);refine Ab (wpAny_tryCatch ?_);refine Ab (Ff ⟨o,po,pc⟩ ?_);refine Ab (Qg po pd (Ad ?_));have elen:((rows.take i).foldl putR []).length<sizeLine:=by
   have h1:=z1i (rows.take i) [];rw[Bp] at h1;have h2:([]:List (List Key×V)).length=0:=rfl;lia
  refine Bm (d_set (by show A.units+1+1<cLine;lia) I1 hD (by rw[q4i];exact hpb) elen r2 fun s' I' kp=>?_);refine Ad ⟨Jb PySem.Rv.plain_upd _,?_⟩;have hLD:L≠D:=fun z=>by rw[z,hD] at hL;cases hL
  have hitD:it≠D:=fun z=>by have y:=hf.1;rw[z,hD] at y;cases y
  have hnt:∀{T:Addr} {xs:List V},H T=some (.tup xs)->T≠D:=fun{T xs} e z=>by rw[z,hD] at e;cases e
  have et:(rows.take (i+1)).foldl putR []=putK ((rows.take i).foldl putR []) (kP r.1) r.2:=by
   rw[Qf,hr];rw[Th];rfl
  have hit2:=hit'.at fun o e=>kp _ _ hitD e;refine ih (i+1) _ s' (by lia) hil I' (by rw[q0c hLD];exact hL) (Dd.imp' (fun a r ⟨b,h1,h2⟩=>⟨b,by rw[q0c (hnt h1)];exact h1,by rw[q0c (hnt h2)];exact h2⟩) hp) (by rw[q0b,et]) hit2 ⟨by rw[q0c hitD];exact hf.1,hf.2⟩ fun H' s'' J j1 j2=>?_;exact hR H' s'' J j1 fun b hb=>by rw[j2 b hb,q0c hb]
end
def rDictL:List V->Hp->VK->Prop:=fun vs H Q=>∃L as rows,vs=[.ref L]/\H L=some (.lst (as.map V.ref))/\PRs H as rows/\rows.length<1000/\∀D,H D=none->Q (.ref D) (upd H D (.dT (rows.foldl putR [])))
theorem q3i(hr:Room k X.A):CallR X (.type "dict") rDictL:=by
 intro pins s σ H xs us Q I rv h;obtain⟨L,as,rows,rfl,hL,hp,few,q⟩:=h;obtain⟨u,rfl,ru⟩:=rv.one;cases ru;have hu:=hr.un;have hh:=hr.hd;refine callType_codes (Q₁:=fun obj s₁=>obj=.ref s.heap.objs.size/\s₁={ s with heap:=s.heap.push { cls:=.type "dict",data:=.dict #[] } }) F.kt_called_dict (F.kt_typeCall_dict_1 _) F.entry_dict_init (kt_code_dict_new _ ⟨rfl,rfl⟩) fun obj s₁ h₁=>?_;obtain⟨rfl,rfl⟩:=h₁;have hDf:=I.fresh;have I1:Inv X pins σ (upd H s.heap.objs.size (.dT [])) { s with heap:=s.heap.push { cls:=.type "dict",data:=.dict #[] } }:=I.laid (t':=s.toks) (fun _ _ e=>Af _ e) (Am _) (q7c s.heap I.big);have hD1:(s.heap.push { cls:=.type "dict",data:=.dict #[] }).get? s.heap.objs.size=some { cls:=.type "dict",data:=.dict #[] }:=Av _ rfl;have hLD:=q0j hL hDf;have hL1:upd H s.heap.objs.size (.dT []) L=some (.lst (as.map V.ref)):=by rw[q0c hLD];exact hL
 have sm:=(Same.refl H).new (o:=.dT []) hDf;have hp1:PRs (upd H s.heap.objs.size (.dT [])) as rows:=Dd.imp' (fun a r ⟨b,h1,h2⟩=>⟨b,sm _ _ h1,sm _ _ h2⟩) hp;obtain⟨z,its,n,r1,e1⟩:=I1.hok L _ hL1;refine⟨⟨_,hD1,rfl⟩,F.args_dict_init_2 _ _,?_⟩;refine Ab ?_;unfold Oh;refine Ab (Gq ⟨_,hD1,rfl⟩ ?_);show wpAny _ _ (pure (s.heap.objs.size,[Value.ref L])) _ _ _;refine Ad ?_;refine Ab (Ff ⟨_,e1,rfl⟩ ?_);refine Ab (PySem.Rv.no_keys e1 hh fun h' tk kp=>?_);have I2:=I1.kept (t':=tk) kp;refine Ab (Gi ?_);have e2:=kp _ _ e1;refine Ab (Sz ⟨_,e2,rfl,n,rfl⟩ ?_);have hsz:=An (kp _ _ hD1);have I3:Inv X pins σ (upd H s.heap.objs.size (.dT [])) { s with heap:=h'.push { cls:=.type "list_iterator",data:=.fields #[.ref L,.int 0 0] },toks:=tk }:=I2.kept (t':=tk) fun _ _ e=>Af _ e;refine Ad ⟨Jb PySem.Rv.plain_upd _,?_⟩;refine z5a (A:=X.A.in1) hh (by show X.A.units+1+3<cLine;lia) (TX.small' (by lia)) rows.length 0 _ _ (by lia) (By _) I3 hL1 hp1 q0b ⟨_,Av _ rfl,rfl,rfl⟩ ?_ fun H' s' J j1 j2=>?_
 ·exact I2.fpOk (Am _) (by rw[q0c (Er hsz)];exact I.hok.fresh (Ie hsz))
 ·have eH:H'=upd H s.heap.objs.size (.dT (rows.foldl putR [])):=by
   funext b;by_cases hb:b=s.heap.objs.size
   ·rw[hb,j1,q0b]
   ·rw[j2 b hb,q0c hb,q0c hb]
  rw[eH] at J;exact⟨rfl,.ref s.heap.objs.size,_,J,rfl,q _ hDf⟩
open PySem PySem.Spec PyProof.Rows
structure Mf (K:Ai) (C:Addr) (m qual:Str) (st:Stmt) (ps:List Str):Prop where
 ex:∃f fd,Fun K m qual st f fd/\Meth K C m f/\Binds K fd ps []
structure MCal (P:Program) (w:World) (K:Ai) (mg:Str->Option Value) (base:Heap) (C:Addr) (m:Str) (k:Nat) (ps:List Str) (sp:Sp):Prop where
 ex:∃f fd,FnOk P w K mg base CX0 k f fd ps sp/\Meth K C m f/\Binds K fd ps []
 cl:Cls K C
theorem Mf.cal{K:Ai}{st:Stmt}(D:Mf K C m qual st ps)(cl:Cls K C)(S:FnScope N ps (defScope st))(len:∀vs H Q E,sp vs H Q E->vs.length=ps.length)(hbody:∀(f:Addr) (cdv:Value) (A:Around) (outer:List Env) (s:Ae) (H:Hp) (vs:List V) (Q:VK) (E:XK),Room k (A.deeper (Ga qual (defScope st) s.heap.objs.size f cdv))->sp vs H Q E ->
   ∃t,PSs (cxOf CX0 P w K mg base N qual (defScope st) f cdv A outer s H E).nox (defBody st) t/\t { nx:=fun _ H'=>Q .non H',rt:=Q } (start N vs) H):MCal P w K mg base C m (k+1) ps sp:=by
 obtain⟨f,fd,F,hm,hb⟩:=D.ex;exact⟨⟨f,fd,F.ok S len fun cdv A outer s H vs Q E hr h=>hbody f cdv A outer s H vs Q E hr h,hm,hb⟩,cl⟩
theorem MCal.imp{K:Ai}(M:MCal P w K mg base C m k ps sp)(h:∀vs H Q E,sp' vs H Q E->sp vs H Q E):MCal P w K mg base C m k ps sp':=by
 obtain⟨f,fd,F,r⟩:=M.ex;exact⟨⟨f,fd,F.imp h,r⟩,M.cl⟩
section
variable{X:Cx}{C:Addr}{x m:Str}{k j:Nat}{ps:List Str}{sp:Sp}{p pos apos:Pos}{o e:Expr}{es:List Expr}{ta:TE}{t:TA}
theorem pe_m{pl:Sem Bool}(M:MCal X.prog X.w X.K X.mg X.base C m k ps sp)(hr:Room j X.A)(he:PE X o ta)(ha:PA X (e::es) t)(hjk:k<=j:=by decide)(hst:Ba (e::es) X.env=(false,eval e X.env)::Ba es X.env:=by rfl)(hpl:(Dq pos (Ba es X.env)).any (·.1)=false:=by rfl)(ht:eval (.Call (.Attribute o m apos) (e::es) [] pos) X.env=(do
   let ov<-eval o X.env
   Mj apos.atName
   let (f,first)<-Ig [ov] (Le ov m pl)
   Qq pos f first (Dq pos (Ba (e::es) X.env)) (Lb pos (Hw [] X.env))):=by rfl):PE X (.Call (.Attribute o m apos) (e::es) [] pos) (tMeth C m sp [] E0 ta t):=by
 obtain⟨f,fd,F,hm,hb⟩:=M.ex;exact z9r he M.cl hm F (hr.mono hjk) hb .nil pass0 ha hst hpl ht
theorem pe_m0{pl:Sem Bool}(M:MCal X.prog X.w X.K X.mg X.base C m k ps sp)(hr:Room j X.A)(he:PE X o ta)(hjk:k<=j:=by decide)(ht:eval (.Call (.Attribute o m apos) [] [] pos) X.env=(do
   let ov<-eval o X.env
   Mj apos.atName
   let (f,first)<-Ig [ov] (Le ov m pl)
   Qq pos f first (Dq pos (Ba [] X.env)) (Lb pos (Hw [] X.env))):=by rfl):PE X (.Call (.Attribute o m apos) [] [] pos) (tMeth C m sp [] E0 ta tNil):=by
 obtain⟨f,fd,F,hm,hb⟩:=M.ex;exact z7b he M.cl hm F (hr.mono hjk) hb .nil pass0 ht
end
structure Kf (K:Ai) (mg:Str->Option Value) (C:Addr) (x qual:Str) (st:Stmt) (ps:List Str):Prop where
 ex:∃(f:Addr) (fd:Jt) (oc:Value) (od:Option Addr) (dV kV doc pm:Value) (an:Option Addr) (cdv ct:Value) (osl:Array (Option Value)),fd=Hg "__init__" qual (defArgs st) (defBody st) (defScope st) dV kV doc pm an cdv ct /\
  K.lookup f=some ⟨oc,od,.func fd,osl⟩/\Ju K cdv qual=true/\Mk K C f/\Binds K fd ps []/\Binds K fd ps [.bool false]
 at_:mg x=some (.ref C)
 cl:Cls K C
structure KCal (P:Program) (w:World) (K:Ai) (mg:Str->Option Value) (base:Heap) (C:Addr) (x:Str) (k:Nat) (ps:List Str) (sp:Sp):Prop where
 ex:∃f fd,FnOk P w K mg base CX0 k f fd ps sp/\Mk K C f/\Binds K fd ps []/\Binds K fd ps [.bool false]
 at_:mg x=some (.ref C)
 cl:Cls K C
theorem Kf.cal{K:Ai}{st:Stmt}(D:Kf K mg C x qual st ps)(S:FnScope N ps (defScope st))(len:∀vs H Q E,sp vs H Q E->vs.length=ps.length)(hbody:∀(f:Addr) (cdv:Value) (A:Around) (outer:List Env) (s:Ae) (H:Hp) (vs:List V) (Q:VK) (E:XK),Room k (A.deeper (Ga qual (defScope st) s.heap.objs.size f cdv))->sp vs H Q E ->
   ∃t,PSs (cxOf CX0 P w K mg base N qual (defScope st) f cdv A outer s H E).nox (defBody st) t/\t { nx:=fun _ H'=>Q .non H',rt:=Q } (start N vs) H):KCal P w K mg base C x (k+1) ps sp:=by
 obtain⟨f,fd,oc,od,dV,kV,doc,pm,an,cdv,ct,osl,rfl,lk,hcd,M,b1,b2⟩:=D.ex;refine⟨⟨f,_,z7d lk hcd S len fun A outer s H vs Q E hr hsp=>?_,M,b1,b2⟩,D.at_,D.cl⟩;obtain⟨t,h,q⟩:=hbody f cdv A outer s H vs Q E hr hsp;exact⟨t,h.nox,q⟩
section
variable{X:Cx}{C:Addr}{x:Str}{k j:Nat}{ps:List Str}{sp:Sp}{p pos:Pos}{e:Expr}{es:List Expr}{t:TA}
theorem pe_k(M:KCal X.prog X.w X.K X.mg X.base C x k ps sp)(hr:Room j X.A)(ha:PA X (e::es) t)(hjk:k+1<=j:=by decide)(hg:Gl X x:=by rfl)(hdb:(x==("__debug__" : Str))=false:=by decide)(he:Ba (e::es) X.env=(false,eval e X.env)::Ba es X.env:=by rfl)(hpl:(Dq pos (Ba es X.env)).any (·.1)=false:=by rfl):PE X (.Call (.Name x p) (e::es) [] pos) (tMake C sp [] E0 t):=by
 obtain⟨f,fd,F,m,b1,_⟩:=M.ex;exact z9s m F (hr.mono hjk) hg M.at_ b1 .nil pass0 ha hdb he hpl
end
theorem q5m{K:Rq}{g:TG}{tb:TS}{D:Ends}(Pv:Nat->St->Hp->Prop)(h0:Pv 0 σ H)(hl:∀i σ H,Pv i σ H->SqL K H a xs)(hs:∀i x T σ H,xs[i]?=some x->Pv i σ H->H T=none->g (.ref T) σ (upd H T (.tup [.int i,x])) fun σ2 H2=>tb { D with nx:=Pv (i+1),ct:=Pv (i+1),bk:=D.nx } σ2 H2)(hd:∀σ H,Pv xs.length σ H->D.nx σ H):
  ∃W:Nat->Nat->St->Hp->Prop,(∃m,W 0 m σ H)/\∀i m σ H,W i m σ H ->
   ((Ite (Itl K a)).stop i H/\D.nx σ H)\/((Ite (Itl K a)).go i H/\∃N:St->Hp->Prop,(∀σ' H',N σ' H'->∃m',m'<m/\W (i+1) m' σ' H')/\∀v H',(Ite (Itl K a)).yld i H v H'->g v σ H' fun σ2 H2=>tb { D with nx:=N,ct:=N,bk:=D.nx } σ2 H2):=by
 refine z8y Pv h0 (fun i σ H h p=>⟨xs,xs[i],hl i σ H p,by simp[h]⟩) (fun σ H p=>⟨xs,hl _ σ H p,Am _⟩) (fun i v σ H H' h p yl=>?_) hd;obtain⟨T,y,hT,⟨_,hy⟩,rfl,rfl⟩:=yl;exact hs i y T σ H (hy xs (hl i σ H p)) p hT
open PySem PySem.Spec PyProof.Rows
def rCatP:R2:=fun x y H Q=>∃a b xs ys,x=.ref a/\y=.ref b/\H a=some (.tup xs)/\H b=some (.tup ys)/\xs.length+ys.length<=sizeLine/\∀p H',Same H H'->H' p=some (.tup (xs++ys))->(∀c,c≠p->H' c=H c)->Q (.ref p) H'
theorem q2j:OpR X (Gd .Add) rCatP:=by
 intro pins s σ H x y v u Q I rx ry h;obtain⟨a,b,xs,ys,rfl,rfl,ha,hb,hz,q⟩:=h;cases rx;cases ry;obtain⟨za,its,r1,p1⟩:=I.hok a _ ha;obtain⟨zb,its2,r2,p2⟩:=I.hok b _ hb;by_cases hx:its=[]
 ·have hx':xs=[]:=r1.nil_iff.mp hx;obtain⟨⟨cls,dd,data,sl⟩,ho,hc,n,hd⟩:=id p1;obtain⟨⟨cls2,dd2,data2,sl2⟩,ho2,hc2,n2,hd2⟩:=id p2;subst hc hd hc2 hd2;refine Rz ⟨_,ho,rfl⟩ ⟨_,ho2,rfl⟩ Ob Rg Ku Kk (Jv _ _) (tuple_addW0 a b its.toArray its2.toArray n n2 dd dd2 sl sl2 (by simp[hx])) ⟨ho,ho2,?_⟩;exact⟨.ref b,H,I,rfl,q b H (Same.refl H) (by rw[hx',List.nil_append];exact hb) fun _ _=>rfl⟩
 ·refine HT.cat_tup p1 p2 hx (fun z=>?_) (fun z=>?_) (by rw[<- r1.length,<- r2.length];exact hz)
  ·have hy:ys=[]:=r2.nil_iff.mp z;exact⟨.ref a,H,I,rfl,q a H (Same.refl H) (by rw[hy,El];exact ha) fun _ _=>rfl⟩
  ·refine⟨.ref s.heap.objs.size,_,I.laid (t':=s.toks) (fun b ob q=>Af _ q) (Am _) ?_,rfl,q _ _ ((Same.refl H).new I.fresh) q0b fun c hc=>q0c hc⟩;exact⟨by rw[Ap];exact hz,_,r1.append r2,IsTup.new _ _⟩
theorem z2v{X:Cx}{e:Expr}{f:Str}{pos:Pos}{ta:TE}(K:Ai)(hK:X.K=K)(he:PE X e ta)(hb:Ft e f X.env (eval e X.env)=eval e X.env:=by rfl):PE X (.Attribute e f pos) (tFld K ta f):=by subst hK;exact pe_fld he hb
theorem z9f{X:Cx}{o value:Expr}{f:Str}{pos pos':Pos}{ta tv:TE}(K:Ai)(hK:X.K=K)(ha:PE X o ta)(hv:PE X value tv)(hs:Jp value (some (.Attribute o f pos')) pos.line X.env=pure false:=by rfl):PS X (.Assign [.Attribute o f pos'] value pos) (sFld K ta tv f):=by subst hK;exact ps_fld ha hv hs
end L2
namespace HM
open PySem PySem.Spec PyProof.Rows L2 TX SB
def NSs:Str:=Ag "abcdefghijklmnopqrstuvwxyzABCDEFGHIJKLMNOPQRSTUVWXYZ0123456789-_."
abbrev NS:List Nat:=tl NSs
theorem z9g:∀c∈NS,c<128:=by decide +kernel
structure okN (n:List Nat):Prop where
 one:1<=n.length
 few:n.length<=12
 all:∀c∈n,c∈NS
theorem okN.low(h:okN n):∀c∈n,c<128:=fun c hc=>z9g c (h.all c hc)
structure okP (p:Pth):Prop where
 ne:p≠[]
 few:p.length<=6
 all:∀n∈p,okN n
theorem okP.low(h:okP p):Low p:=fun n hn=>(h.all n hn).low
abbrev Rw:=Pth×Option Int
def mV:Option Int->V
 |none=>.non
 |some i=>.int i
def rR(r:Rw):HRow:=(r.1,mV r.2)
theorem mV_inj(h:mV a=mV b):a=b:=by
 cases a with
 |none=>cases b with
  |none=>rfl
  |some j=>cases h
 |some i=>cases b with
  |none=>cases h
  |some j=>cases h;rfl
theorem mV_none:mV a=.non↔a=none:=⟨fun h=>mV_inj (b:=none) h,fun h=>by rw[h];rfl⟩
def lowN(n:List Nat):List Nat:=n.map lo1
def fold(bl:Bool)(p:Pth):Pth:=if bl then p.dropLast++[lowN (p.getLastD [])] else p
theorem z9h(p:Pth):fold false p=p:=rfl
theorem z9i(p:Pth):fold true p=p.dropLast++[lowN (p.getLastD [])]:=rfl
theorem z5b{p:Pth}(h:p≠[]):p=p.dropLast++[p.getLastD []]:=by
 have e:=Gg h;have e2:p.getLastD []=p.getLast h:=by rw[Du,Ct h];rfl
 rw[e2];exact e.symm
theorem q7e{p q:Pth}(hp:p≠[])(hq:q≠[]):fold bl p=fold bl q↔p.dropLast=q.dropLast/\(if bl then lowN (p.getLastD [])=lowN (q.getLastD []) else p.getLastD []=q.getLastD []):=by
 cases bl with
 |true =>
  rw[z9i,z9i];constructor
  ·simp_all
  ·simp_all
 |false =>
  rw[z9h,z9h];constructor
  ·grind
  ·rintro⟨h1,h2⟩;rw[z5b hp,z5b hq,h1,h2]
structure Hl (bl:Bool) (rows:List Rw):Prop where
 ok:∀r∈rows,okP r.1
 nd:(rows.map fun r=>fold bl r.1).Nodup
 dr:∀r∈rows,r.1.dropLast=[]\/(r.1.dropLast,none)∈rows
theorem Hl.perm(h:Hl bl rows)(p:rows'.Perm rows):Hl bl rows' :=
 ⟨fun r hr=>h.ok r (p.mem_iff.mp hr),(p.map _).nodup_iff.mpr h.nd,fun r hr=>(h.dr r (p.mem_iff.mp hr)).imp id fun z=>p.mem_iff.mpr z⟩
theorem Hl.nil(bl:Bool):Hl bl []:=⟨(fun _ h=>nomatch h),.nil,(fun _ h=>nomatch h)⟩
theorem q4r{α β:Type}{f:α->β}:∀{l:List α},(l.map f).Nodup->l.Nodup
 |[],_=>.nil
 |a::l,h=>by
  rw[Ak,Ci] at h;exact Ci.mpr ⟨fun z=>h.1 (Ah.mpr ⟨a,z,rfl⟩),q4r h.2⟩
theorem Hl.paths(h:Hl bl rows):(rows.map (·.1)).Nodup:=by
 have e:rows.map (fun r=>fold bl r.1)=(rows.map (·.1)).map (fold bl):=by simp_all
 have:=h.nd;rw[e] at this;exact q4r this
abbrev Zr:=Addr×Rw
structure RL (H:Hp) (L:Addr) (zs:List Zr):Prop where
 at_:H L=some (.lst (zs.map fun z=>V.ref z.1))
 pr:∀z∈zs,PR H z.1 (rR z.2)
theorem PR.same(h:PR H a r)(k:∀T xs,H T=some (.tup xs)->H' T=some (.tup xs)):PR H' a r:=let ⟨b,h1,h2⟩:=h;⟨b,k _ _ h1,k _ _ h2⟩
theorem RL.same(h:RL H L zs)(s:Same H H'):RL H' L zs:=⟨s _ _ h.at_,fun z hz=>PR.same (h.pr z hz) fun T xs e=>s _ _ e⟩
theorem tupFd(F:FeedAt H a b)(fd:Fd a b H H'):∀T xs,H T=some (.tup xs)->H' T=some (.tup xs):=fun T xs e=>fd.at e fun z=>by
 subst z;obtain⟨i,j,q⟩:=F.fa;rw[q] at e;cases e
theorem RL.fd(h:RL H L zs)(F:FeedAt H a b)(fd:Fd a b H H')(hL:L≠a):RL H' L zs:=⟨fd.at h.at_ hL,fun z hz=>PR.same (h.pr z hz) (tupFd F fd)⟩
theorem z5c{zs:List Zr}(h:∀z∈zs,PR H z.1 (rR z.2)):PRs H (zs.map (·.1)) (zs.map fun z=>rR z.2):=z4z h
theorem zs_of:∀{as:List Addr} {rs:List HRow} {rows:List Rw},PRs H as rs->rs=rows.map rR->∃zs:List Zr,zs.map (·.1)=as/\zs.map (·.2)=rows/\∀z∈zs,PR H z.1 (rR z.2)
 |_,_,[],.nil,_=>⟨[],rfl,rfl,(fun _ h=>nomatch h)⟩
 |_,_,_::_,.nil,e=>by cases e
 |_,_,[],.cons _ _,e=>by cases e
 |a::as,_,r::rows,.cons h t,e=>by
  rw[Ak] at e;injection e with e1 e2;obtain⟨zs,z1,z2,z3⟩:=zs_of t e2;refine⟨(a,r)::zs,by rw[Ak,z1],by rw[Ak,z2],fun z hz=>?_⟩;rcases Be.mp hz with rfl|hz
  ·rw[<- e1];exact h
  ·exact z3 z hz
theorem q5n:∀{l m:List Pth},l.Perm m->l.Nodup->l.Pairwise (fun a b=>pLt b a=false)->m.Pairwise (fun a b=>pLt b a=false)->l=m
 |[],m,p,_,_,_=>(List.perm_nil.mp p.symm).symm
 |a::l,[],p,_,_,_=>absurd (p.length_eq) (by simp)
 |a::l,b::m,p,nd,h1,h2=>by
  obtain⟨n1,n2⟩:=Ci.mp nd;obtain⟨a1,a2⟩:=Kb.mp h1;obtain⟨b1,b2⟩:=Kb.mp h2;have e:a=b:=by
   have ha:=p.mem_iff.mp Au;have hb:=p.mem_iff.mpr Au;rcases Be.mp ha with e|ha
   ·exact e
   ·rcases Be.mp hb with e|hb
    ·exact e.symm
    ·exact z0g (b1 a ha) (a1 b hb)
  subst e;rw[q5n ((List.perm_cons a).mp p) n2 a2 b2]
def dMk:Option Int->PyData
 |none=>.none
 |some i=>.int i
def dRw(r:Rw):PyData:=.tuple [.tuple (dP r.1),dMk r.2]
theorem x0j{K:Ai}(m:Option Int):Dt K H (mV m) (dMk m):=by
 cases m with
 |none=>exact .non
 |some i=>exact .int i
theorem z1j{K:Ai}{H:Hp}:∀p:Pth,Dts K H (vP p) (dP p)
 |[]=>.nil
 |n::p=>.cons (.str _) (z1j p)
theorem q1k{K:Ai}(h:H a=some (.tup (vP p))):Dt K H (.ref a) (.tuple (dP p)):=.tup (SqT.of h) (z1j p)
theorem dt_row{K:Ai}(h:PR H a (rR r)):Dt K H (.ref a) (dRw r):=by
 obtain⟨b,h1,h2⟩:=h;exact .tup (SqT.of h1) (.cons (q1k h2) (.cons (x0j _) .nil))
theorem z1k{K:Ai}{H:Hp}:∀{zs:List Zr},(∀z∈zs,PR H z.1 (rR z.2))->Dts K H (zs.map fun z=>V.ref z.1) (zs.map fun z=>dRw z.2)
 |[],_=>.nil
 |z::zs,h=>.cons (dt_row (h z Au)) (z1k fun x hx=>h x (Ar _ hx))
theorem RL.dt{K:Ai}(h:RL H L zs):Dt K H (.ref L) (.list (zs.map fun z=>dRw z.2)):=.lst (SqL.of h.at_) (z1k h.pr)
theorem x0k(m:Option Int):(dMk m).canLay0=true:=by cases m<;>simp[dMk,Dg]
theorem q3q(h:Low p):(PyData.tuple (dP p)).canLay0=true:=by simp only[Gx,q3m h]
theorem x0l(h:Low r.1):(dRw r).canLay0=true:=by
 have:=q3q h;simp only[dRw,Dg,Bs] at this ⊢;rw[this,x0k];rfl
theorem z1l:∀{rows:List Rw},(∀r∈rows,Low r.1)->Bs (rows.map dRw)=true
 |[],_=>by simp[Bs]
 |r::rows,h=>by
  simp only[Ak,Bs];rw[x0l (h r Au),z1l fun x hx=>h x (Ar _ hx)];rfl
theorem dL_lay{rows:List Rw}(h:∀r∈rows,Low r.1):(PyData.list (rows.map dRw)).canLay0=true:=by simp only[Dg];exact z1l h
theorem z5d(m:Option Int):(dMk m).depth<=1:=by cases m<;>simp[dMk,Et]
theorem q5o(p:Pth):(PyData.tuple (dP p)).depth<=2:=by
 have h1:(PyData.tuple (dP p)).depth=Fe (dP p)+1:=by simp only[Ms]
 have:=q1t p;lia
theorem z5e(r:Rw):(dRw r).depth<=3:=by
 have h1:=q5o r.1;have h2:=z5d r.2;have e:(dRw r).depth=max (PyData.tuple (dP r.1)).depth (max (dMk r.2).depth 0)+1:=by simp only[dRw,Et,Cd]
 lia
theorem q6j:∀rows:List Rw,Cd (rows.map dRw)<=3
 |[]=>by simp[Cd]
 |r::rows=>by
  have h1:=z5e r;have h2:=q6j rows;simp only[Ak,Cd];lia
theorem z8a(rows:List Rw):(PyData.list (rows.map dRw)).depth<=100:=by
 have:=q6j rows;simp only[Et];lia
theorem q8z(p q:Pth):Cy (.tuple (dP p)) (.tuple (dP q))=decide (p=q):=by simp only[Cy,q5k]
theorem eqv_no(rows:List Rw):Cy (.list (rows.map dRw)) (.list [])=decide (rows=[]):=by
 cases rows with
 |nil=>simp[Cy,Fv]
 |cons p r=>simp[Cy,Fv]
theorem z5f(zs:List Zr):zs.map (fun z=>dRw z.2)=(zs.map (·.2)).map dRw:=by rw[Al];rfl
theorem q3z{K:Ai}(ha:H a=some (.tup (vP p)))(hb:H b=some (.tup (vP q)))(lp:Low p)(lq:Low q)(k:Q (.bl (!decide (p=q))) H):rNeU K (.ref a) (.ref b) H Q:=by
 refine .inr ⟨_,_,q1k ha,q1k hb,q3q lp,q3q lq,by have:=q5o p;lia,?_⟩;rw[q8z];exact k
end HM
namespace L2
open PySem PySem.Spec PyProof.Rows SB
abbrev Zp:=Addr×Pth
theorem ers_map{α β:Type}(f:α->β):∀(l:List α) (k:Nat),(l.map f).eraseIdx k=(l.eraseIdx k).map f
 |[],_=>rfl
 |_::_,0=>rfl
 |a::l,k+1=>by show f a::(l.map f).eraseIdx k=f a::(l.eraseIdx k).map f;rw[ers_map f l k]
end L2
namespace HM
open PySem PySem.Spec PyProof.Rows L2 TX SB
theorem Hl.one(h:Hl bl rows)(h1:(p,a)∈rows)(h2:(p,b)∈rows):a=b:=by
 have:=q2i h.paths h1 h2 rfl;cases this;rfl
theorem Hl.eq(h:Hl bl rows)(hr:r∈rows)(hs:s∈rows)(e:fold bl r.1=fold bl s.1):r=s:=q2i (f:=fun r:Rw=>fold bl r.1) h.nd hr hs e
theorem ns_lo:∀c∈NS,lo1 c∈NS:=by decide +kernel
theorem okN.lo(h:okN n):okN (lowN n):=⟨by unfold lowN;rw[Ac];exact h.one,by unfold lowN;rw[Ac];exact h.few,fun c hc=>by
 obtain⟨x,hx,rfl⟩:=Ah.mp hc;exact ns_lo x (h.all x hx)⟩
theorem okP.snoc{q:Pth}(h:q=[]\/okP q)(hl:q.length<6)(hn:okN n):okP (q++[n]):=by
 refine⟨by simp,by rw[Ap];show _+1<=6;lia,fun x hx=>?_⟩;rcases Ax.mp hx with hx|hx
 ·rcases h with e|h
  ·rw[e] at hx;cases hx
  ·exact h.all x hx
 ·grind
theorem q9a{K:Ai}{H:Hp}:∀{zs:List Zp},(∀z∈zs,H z.1=some (.tup (vP z.2)))->Dts K H (zs.map fun z=>V.ref z.1) (zs.map fun z=>PyData.tuple (dP z.2))
 |[],_=>.nil
 |z::zs,h=>.cons (q1k (h z Au)) (q9a fun x hx=>h x (Ar _ hx))
theorem q9b:∀{zs:List Zp},(∀z∈zs,Low z.2)->Bs (zs.map fun z=>PyData.tuple (dP z.2))=true
 |[],_=>by simp[Bs]
 |z::zs,h=>by
  simp only[Ak,Bs];rw[q3q (h z Au),q9b fun x hx=>h x (Ar _ hx)];rfl
theorem z5g{K:Ai}{zs:List Zp}(ha:H a=some (.lst (zs.map fun z=>V.ref z.1)))(hz:∀z∈zs,H z.1=some (.tup (vP z.2)))(hb:H b=some (.lst []))(l:∀z∈zs,Low z.2)(k:Q (.bl (!decide (zs=[]))) H):rNeU K (.ref a) (.ref b) H Q:=by
 refine .inr ⟨_,_,.lst (SqL.of ha) (q9a hz),.lst (SqL.of hb) .nil,by simp only[Dg];exact q9b l,by simp[Dg,Bs],?_,?_⟩
 ·have:(PyData.list []).depth<=100:=by simp[Et,Cd]
  lia
 ·have e:Cy (.list (zs.map fun z=>PyData.tuple (dP z.2))) (.list [])=decide (zs=[]):=by cases zs<;>simp[Cy,Fv]
  rw[e];exact k
theorem q2y{K:Ai}(ha:H a=some (.tup (vP p)))(hb:H b=some (.tup (vP q)))(lp:Low p)(lq:Low q)(k:Q (.bl (decide (p=q))) H):rEqU K (.ref a) (.ref b) H Q:=by
 refine .inr ⟨_,_,q1k ha,q1k hb,q3q lp,q3q lq,by have:=q5o p;lia,?_⟩;rw[q8z];exact k
def uppN(n:List Nat):List Nat:=n.map up1
theorem ns_up:∀c∈NS,up1 c∈NS:=by decide +kernel
theorem okN.up(h:okN n):okN (uppN n):=⟨by unfold uppN;rw[Ac];exact h.one,by unfold uppN;rw[Ac];exact h.few,fun c hc=>by
 obtain⟨x,hx,rfl⟩:=Ah.mp hc;exact ns_up x (h.all x hx)⟩
theorem z1m(h:∀c∈n,c<128):Uy (mk n)=mk (uppN n):=by
 rw[upper_ascii (by show ∀c∈tl (mk n),c<128;exact h)];apply ext;rw[q2b];rw[Ui];rfl
theorem q3n(e:H a=some (dR rs))(eb:H b=some (.tup (vP p))):DGet H a (.ref b) (valV (rs.map fun r=>(kP r.1,r.2)) (kP p)) :=
 .inr ⟨_,kP p,b,.inl e,rfl,by rw[q4i];exact eb,rfl⟩
end HM
namespace HT
open PySem PyProof.Rows
section
variable{prog:Program}{w:World}{A:Around}{E:Value->Ae->Prop}{s:Ae}
theorem getItem_tuple_whole{lo:Option Int}(ht:IsTup s.heap t items)(hs:s.heap.IsSliceOf sl vl vu .none)(pl:Kv vl lo)(pu:Kv vu hi)(hw:sIx items.size 0 lo=0/\sIx items.size items.size hi=items.size)(h:Q (.ref t) s):wpAny (model prog w) A (getItem (.ref t) (.ref sl)) Q E s:=by
 obtain⟨os,hos,hcs,hds⟩:=id hs;have hTs:s.TypeIs (.ref sl) "slice" := ⟨os,hos,hcs⟩
 unfold getItem;try with_reducible refine Bm ?_
 refine Ab (Sx ht.typeIs (by decide) ?_);refine Ab (Cg ht.typeIs Ck
  (Bu Ck ht.typeIs entry_tuple_getitem ?_ (Sb _ _)))
 show wpAny _ _ (Iz (.ref t) >>= _) _ _ s;refine Ab (tupleItemsOf_ ht ?_);refine Ab (Ff hTs ?_);refine Ab (q2s hs pl pu ?_);show wpAny _ _ (if (((sIx items.size 0 lo:Nat):Int)==0&&(1:Int)==1&&(sIx items.size items.size hi-sIx items.size 0 lo)==items.size)=true then _ else _) _ _ s;rw[if_pos (by rw[hw.1,hw.2];simp)];refine Ab (Ab (Ff ht.typeIs (Ad ?_)));exact Ab (Gi (Ad ⟨_,rfl,Ad h⟩))
end
end HT
namespace L2
open PySem PySem.Spec PyProof.Rows
def rSlP:V->Option Int->Option Int->Hp->VK->Prop:=fun x lo hi H Q=>∃a xs,x=.ref a/\H a=some (.tup xs)/\∀c H',Same H H'->H' c=some (.tup (cutV xs lo hi))->Q (.ref c) H'
theorem sl_P:SlR X rSlP:=by
 intro pins s σ H x v vl vu lo hi sl Q I rx hs pl pu h;obtain⟨a,xs,rfl,hx,q⟩:=h;by_cases hw:HT.sIx xs.length 0 lo=0/\HT.sIx xs.length xs.length hi=xs.length
 ·cases rx;obtain⟨its,r,ht,hz⟩:=I.tuple (SqT.of hx);have hlen:its.toArray.size=xs.length:=by rw[Ay];exact r.length.symm
  refine⟨"tuple",_,Ck.lookup,ht.typeIs,?_⟩;refine HT.getItem_tuple_whole ht hs pl pu (by rw[hlen];exact hw) ⟨.ref a,H,I,rfl,q a H (Same.refl H) ?_⟩;unfold cutV;rw[hw.1,hw.2,Qh,Mb,Cf];exact hx
 ·exact z8w pins s σ H _ v vl vu lo hi sl Q I rx hs pl pu ⟨a,xs,rfl,SqT.of hx,hw,fun p hp=>q p _ ((Same.refl H).new hp) q0b⟩
section
variable{M:Model}{A:Around}{E:Value->Ae->Prop}{s:Ae}
def TbAt(h:Heap)(e:Addr)(vs:Array Value)(T:Addr)(fl:Value):Prop:=vs[1]?=some (.ref T)/\T≠e/\∃oT ts,h.get? T=some oT/\oT.data=.fields ts/\ts[3]?=some fl
def TbOk(L:Addr)(h:Heap)(e:Addr)(vs:Array Value):Prop:=vs[1]?=some .none\/∃T,TbAt h e vs T .none\/TbAt h e vs T (Es L)
structure LeftX (fr:List Addr) (e:Addr) (oe:Obj) (vs:Array Value) (fl:Value) (h h':Heap):Prop where
 ex:∃T,(h.objs.size<=T\/vs[1]?=some (.ref T))/\T≠e/\h'.get? e=some (oe.mapFields (·.setIfInBounds 1 (.ref T)))/\∃oT ts,h'.get? T=some oT/\oT.data=.fields ts/\ts[3]?=some fl
 keep:∀b o,h.get? b=some o->b≠e->vs[1]?≠some (.ref b)->b∉fr->h'.get? b=some o
 slot:∀b o,h.get? b=some o->b∈fr->∃sl,h'.get? b=some { o with slots:=sl }
theorem q9c{oe:Obj}(hd:oe.data=.fields vs)(h1:vs[1]?=some x):oe.mapFields (·.setIfInBounds 1 x)=oe:=by
 obtain⟨c,d,dt,sl⟩:=oe;cases hd;have e:vs.setIfInBounds 1 x=vs:=by
  have hs:=(Dk.mp h1)
  obtain⟨hlt,hx⟩:=hs;apply Array.ext
  ·simp
  ·intro i h2 h3;rw[Array.getElem_setIfInBounds (by simpa using h3)];split
   ·grind
   ·rfl
 show(⟨c,d,.fields (vs.setIfInBounds 1 x),sl⟩:Obj)=_;rw[e]
theorem entryX
  (hfr:A.frames=some (env::outer))(hl:s.heap.FunFrames base (env::outer))(hf:env.frame=some L)(he:s.heap.get? e=some oe)(hd:oe.data=.fields vs)(hsz:1<vs.size)(h:∀h',(∃T,s.heap.objs.size<=T/\h'.get? e=some (oe.mapFields (·.setIfInBounds 1 (.ref T)))/\∃oT ts,h'.get? T=some oT/\oT.data=.fields ts/\ts[3]?=some (Es L)) ->
   (∀b o,s.heap.get? b=some o->b≠e->b∉(env::outer).filterMap (·.frame)->h'.get? b=some o) ->
   (∀b o,s.heap.get? b=some o->b∈(env::outer).filterMap (·.frame)->∃sl,h'.get? b=some { o with slots:=sl })->Q () { s with heap:=h' }):
  wpAny M A (do let a<-frameOf env;let pl<-entryPlaceOf L hadNext;let b<-EntryCells.newEntry head a .none (Es L) .none pl;setField (.ref e) 1 b) Q E s:=by
 have hene:e∉(env::outer).filterMap (·.frame):=fun hm=>by
  obtain⟨_,o,ho,hnf⟩:=hl.mem hm;rw[he] at ho;injection ho with ho;subst ho;exact hnf vs hd
 refine Ab (wpAny_frameOf_fun hfr hl hf fun h₁ hs₁=>?_);refine Ab (wpAny_entryPlaceOf fun pl hpl=>?_);refine Ab (Bx ?_ (hpl.sizeOk5 _ _ _ _ _));have he₁:=(hs₁.2.1 e hene).trans he;have he₂:=Af { cls:=.type "traceback",dict:=none,data:=.fields ([head,.ref L,.none,Es L,.none]++(if pl.isEmpty then List.replicate 6 Value.none else pl)).toArray } he₁;have hTe:=Er (An he₁);have hd₃:=Gm hd (·.setIfInBounds 1 (Value.ref h₁.objs.size));have he₃:=De (Ex (·.setIfInBounds 1 (Value.ref h₁.objs.size))) he₂ (Lh hd₃);have hT₃:=(Bq (h₁.push { cls:=.type "traceback",dict:=none,data:=.fields ([head,.ref L,.none,Es L,.none]++(if pl.isEmpty then List.replicate 6 Value.none else pl)).toArray })
  (Ex (·.setIfInBounds 1 (Value.ref h₁.objs.size))) (Bo hTe)).trans (Av h₁ rfl)
 refine He he₂ hd hsz (h _ ⟨h₁.objs.size,by rw[hs₁.1];exact Am _,he₃,_,_,hT₃,rfl,by first|(simp;done)|(rcases hpl with rfl|⟨_,_,_,_,_,_,_,rfl⟩<;>simp)⟩ ?_ ?_)
 ·intro b o hb hbe hbf;have hb₁:=(hs₁.2.1 b hbf).trans hb;rw[Bq _ _ (Bo hbe)];exact Af _ hb₁
 ·intro b o hb hbf;have hbe:b≠e:=fun z=>hene (z▸hbf);obtain⟨sl,hb₁⟩:=hs₁.2.2 b o hb;refine⟨sl,?_⟩;rw[Bq _ _ (Bo hbe)];exact Af _ hb₁
theorem noteX
  (hfr:A.frames=some (env::outer))(hl:s.heap.FunFrames base (env::outer))(hf:env.frame=some L)(he:s.heap.get? e=some oe)(hd:oe.data=.fields vs)(ht:TbOk L s.heap e vs)(h:∀h',LeftX ((env::outer).filterMap (·.frame)) e oe vs (Es L) s.heap h'->Q () { s with heap:=h' }):wpAny M A (noteFrame (.ref e) env) Q E s:=by
 have helt:=An he;unfold noteFrame;simp only[hf];rcases ht with h1|⟨T,⟨h1,hTe,oT,ts,hT,hdT,h3⟩|⟨h1,hTe,oT,ts,hT,hdT,h3⟩⟩
 ·refine Ab (Ca he hd h1 ?_);refine entryX hfr hl hf he hd (Dk.mp h1).1 fun h' ⟨T,q1,q2,q3⟩ b c=>h h' ⟨⟨T,.inl q1,fun z=>absurd helt (Iw.mpr (z▸q1)),q2,q3⟩,fun x o hx hxe _ hxf=>b x o hx hxe hxf,c⟩
 ·refine Ab (Ca he hd h1 ?_);refine Ab (Ca hT hdT h3 ?_);refine Ab (He hT hdT (Dk.mp h3).1 ?_);have other:∀b,b≠T->(s.heap.update T (Ex (·.setIfInBounds 3 Value.none))).get? b=s.heap.get? b:=fun b hb=>Bq _ _ (Bo hb);have noRecord:∀b o,s.heap.get? b=some o->(∀vs,o.data≠.fields vs)->b≠T:=fun b o hb hnf q=>by
   rw[q,hT] at hb;injection hb with hb;subst hb;exact hnf ts hdT
  have hTf:T∉(env::outer).filterMap (·.frame):=fun hm=>by
   obtain⟨_,o,ho,hnf⟩:=hl.mem hm;rw[hT] at ho;injection ho with ho;subst ho;exact hnf ts hdT
  have hsz:(s.heap.update T (Ex (·.setIfInBounds 3 Value.none))).objs.size=s.heap.objs.size:=by simp_all
  refine entryX hfr (hl.of_keeps fun b o hb hnf=>⟨o,(other b (noRecord b o hb hnf)).trans hb,rfl⟩) hf ((other e (Bo hTe)).trans he) hd (Dk.mp h1).1 fun h' a b c=>h h' ⟨?_,fun x o hx hxe hx1 hxf=>?_,fun x o hx hxf=>?_⟩
  ·obtain⟨T',q1,q2,q3⟩:=a;rw[hsz] at q1;exact⟨T',.inl q1,fun z=>absurd helt (Iw.mpr (z▸q1)),q2,q3⟩
  ·exact b x o ((other x fun z=>hx1 (by rw[z];exact h1)).trans hx) hxe hxf
  ·exact c x o ((other x fun z=>hTf (z▸hxf)).trans hx) hxf
 ·refine Ab (Ca he hd h1 ?_);refine Ab (Ca hT hdT h3 ?_);rw[if_pos (show(Es L==Es L)=true from by simp)];refine Ad (h s.heap ⟨⟨T,.inr h1,hTe,by rw[q9c hd h1];exact he,oT,ts,hT,hdT,h3⟩,fun x o hx _ _ _=>hx,fun x o hx _=>⟨o.slots,hx⟩⟩)
theorem flightX(he:s.heap.get? e=some oe)(hd:oe.data=.fields vs)(ht:TbAt s.heap e vs T fl)(hTf:T∉fr)(h:∀h',LeftX fr e oe vs (f.elim .none fun f=>Es f) s.heap h'->Q () { s with heap:=h' }):wpAny M A (setFlight (.ref e) f) Q E s:=by
 obtain⟨h1,hTe,oT,ts,hT,hdT,h3⟩:=ht;have other:∀b,b≠T->(s.heap.update T (Ex (·.setIfInBounds 3 (f.elim Value.none fun f=>Es f)))).get? b=s.heap.get? b:=fun b hb=>Bq _ _ (Bo hb)
 refine Ab (Ca he hd h1 ?_);refine He hT hdT (Dk.mp h3).1 (h _ ⟨⟨T,.inr h1,hTe,?_,_,_,De _ hT (Lh (Gm hdT _)),Gm hdT _,?_⟩,fun x o hx _ hx1 _=>?_,fun x o hx hxf=>?_⟩)
 ·rw[q9c hd h1,other e (Bo hTe)];exact he
 ·simp[(Dk.mp h3).1]
 ·rw[other x fun z=>hx1 (by rw[z];exact h1)];exact hx
 ·rw[other x fun z=>hTf (z▸hxf)];exact⟨o.slots,hx⟩
end
open PySem PySem.Spec PyProof.Rows
def ExO(C:Value)(dd:Option Addr)(e:Addr):HO:=.ext fun h=>∃vs sl,h.get? e=some { cls:=C,dict:=dd,data:=.fields vs,slots:=sl }/\vs.size=6
structure FlX (X:Cx) (pins:List (Addr×Obj)) (H:Hp) (s:Ae) (e:Addr):Prop where
 at_:∃C dd,H e=some (ExO C dd e)
 tb:∃oe vs,s.heap.get? e=some oe/\oe.data=.fields vs/\TbOk X.env.locals s.heap e vs/\∀T,vs[1]?=some (.ref T)->X.s₀.heap.objs.size<=T/\H T=none/\T≠X.env.locals/\(∀x c,X.env.cells.lookup x=some c->c≠T)/\∀p∈X.pn++pins,p.1≠T
 new:X.s₀.heap.objs.size<=e
section
variable{X:Cx}{pins:List (Addr×Obj)}{σ:St}{H:Hp}{s:Ae}{e:Addr}{oe:Obj}{vs:Array Value}{fl:Value}{h':Heap}
def chOf(vs:Array Value):List Addr:=match vs[(1:Nat)]? with|some (Value.ref T)=>[T]|_=>[]
theorem chOf_mem:b∈chOf vs↔vs[(1:Nat)]?=some (Value.ref b):=by
 unfold chOf;constructor
 ·intro h;split at h
  ·simp_all
  ·cases h
 ·simp_all
theorem Inv.leftX(I:Inv X pins σ H s)(F:FlX X pins H s e)(he:s.heap.get? e=some oe)(hd:oe.data=.fields vs)(hfl:fl=.none\/fl=Es X.env.locals)(hT:∀T,vs[1]?=some (.ref T)->X.s₀.heap.objs.size<=T/\H T=none/\T≠X.env.locals/\(∀x c,X.env.cells.lookup x=some c->c≠T)/\∀p∈X.pn++pins,p.1≠T)(L:LeftX (frs X.stack) e oe vs fl s.heap h'):Inv X pins σ H { s with heap:=h' }/\FlX X pins H { s with heap:=h' } e/\∃oe' vs' T,h'.get? e=some oe'/\oe'.data=.fields vs'/\TbAt h' e vs' T fl:=by
 obtain⟨C,dd,hE⟩:=F.at_;obtain⟨T',hT'1,hT'e,hE',oT,ts,q1,q2,q3⟩:=L.ex;have hne:∀b,H b=none->b≠e:=fun b h z=>by rw[z,hE] at h;cases h
 have un:Un (frs X.stack) (chOf vs) H H s.heap h':=⟨fun b o hb n hf hc=>L.keep b o hb (hne b n) (fun z=>hc (chOf_mem.mpr z)) hf,fun b o hb n hf hc=>L.slot b o hb hf,fun _ _ _ n _=>n,fun b o hb hc=>by
   by_cases z:b=e
   ·simp_all
   ·by_cases y:b∈frs X.stack
    ·obtain⟨sl,k⟩:=L.slot b o hb y;exact⟨_,k⟩
    ·exact⟨o,L.keep b o hb z (fun x=>hc (chOf_mem.mpr x)) y⟩,
  fun _ _ q=>q,fun _ _ _ q=>q,fun _ ps q=>⟨#[],by rw[q];simp⟩⟩
 have hsz6:vs.size=6/\oe.cls=C/\oe.dict=dd:=by
  obtain⟨⟨vs2,sl,z,z6⟩,_,_⟩:=I.hok e _ hE;rw[he] at z;cases z;cases hd;exact⟨z6,rfl,rfl⟩
 have hok:HOk X.prog X.w H h':=fun a o ha=>by
  by_cases z:a=e
  ·subst z;rw[hE] at ha;cases ha;refine⟨⟨vs.setIfInBounds 1 (.ref T'),oe.slots,?_,by simpa using hsz6.1⟩,⟨_,hE'⟩,fun h1 h2 ⟨ws,sl,k1,k2⟩ k=>⟨ws,sl,k _ k1,k2⟩⟩;rw[hE'];obtain⟨c,d,dt,sl⟩:=oe;cases hd;obtain⟨_,rfl,rfl⟩:=hsz6;rfl
  ·refine(I.hok a o ha).stay (fun b u hb hu=>?_) (fun _ q=>q) fun _ _ q=>q;have hbt:H b≠none/\b≠e:=by
    rcases hb with rfl|hb
    ·grind
    ·refine⟨by rw[hb];simp,fun y=>?_⟩;rw[y,hE] at hb;cases hb
   exact L.keep b u hu hbt.2 (fun y=>hbt.1 (hT b y).2.1) fun y=>hbt.1 (I.stkFree b y)
 have hch:∀b∈chOf vs,(b∈X.ex\/X.s₀.heap.objs.size<=b)/\b≠X.env.locals/\(∀x c,X.env.cells.lookup x=some c->c≠b)/\∀p∈X.pn++pins,p.1≠b:=fun b hb=>by
  obtain⟨a1,_,a3,a4,a5⟩:=hT b (chOf_mem.mp hb);exact⟨.inr a1,a3,a4,a5⟩
 have I':Inv X pins σ H { s with heap:=h' }:=I.call' (s':={ s with heap:=h' }) rfl un hok I.bare hch;have hd':=Gm hd (·.setIfInBounds 1 (Value.ref T'));have hlt1:1<vs.size:=by grind
 have hTb:TbAt h' e (vs.setIfInBounds 1 (.ref T')) T' fl:=⟨by simp[hlt1],hT'e,oT,ts,q1,q2,q3⟩
 refine⟨I',⟨⟨C,dd,hE⟩,⟨_,_,hE',hd',.inr ⟨T',?_⟩,fun T hTT=>?_⟩,F.new⟩,_,_,T',hE',hd',hTb⟩
 ·lia
 ·have:T=T':=by
   have z:=hTb.1;rw[z] at hTT;injection hTT with y;injection y with y;exact y.symm
  subst this;rcases hT'1 with k|k
  ·refine⟨Bi I.sz k,I.hok.fresh k,fun z=>absurd I.lt (Iw.mpr (z▸k)),fun x c hx z=>?_,fun p hp z=>?_⟩
   ·obtain⟨v,o,ho,_⟩:=I.cell x c hx;exact absurd (An ho) (Iw.mpr (z▸k))
   ·obtain⟨ho,_⟩:=I.pin p hp;exact absurd (An ho) (Iw.mpr (z▸k))
  ·exact hT T k
def XE(X:Cx)(J:Addr->St->Hp->Prop)(e:Value)(s:Ae):Prop:=∃pins σ H ea,e=.ref ea/\Inv X pins σ H s/\FlX X pins H s ea/\J ea σ H
theorem z9j(hst:X.stack=X.env::X.outer):frs X.stack=(X.env::X.outer).filterMap (·.frame):=by rw[hst];rfl
theorem passX(hst:X.stack=X.env::X.outer)(hf:X.env.frame=some X.env.locals):Rp (model X.prog X.w) X.A X.env (XE X J):=by
 rintro e s' ⟨pins,σ,H,ea,rfl,I,F,j⟩;obtain⟨oe,vs,he,hd,ht,hT⟩:=F.tb;have hfr:X.A.frames=some (X.env::X.outer):=by rw[<- hst];exact I.ok.frames
 have hl:s'.heap.FunFrames X.base (X.env::X.outer):=by rw[<- hst];exact I.stack
 refine noteX hfr hl hf he hd ht fun h1 L1=>?_;rw[<- z9j hst] at L1;obtain⟨I1,F1,oe1,vs1,T1,e1,d1,t1⟩:=I.leftX F he hd (.inr rfl) hT L1;refine Ab (Ca e1 d1 t1.1 ?_);have hT1f:T1∉frs X.stack:=fun hm=>by
  obtain⟨_,_,oT,ts,q1,q2,_⟩:=t1;obtain⟨_,o,ho,hnf⟩:=I1.stack.mem hm;rw[q1] at ho;injection ho with ho;subst ho;exact hnf ts q2
 obtain⟨oe1',vs1',e1',d1',_,hT1⟩:=F1.tb;have q:oe1'=oe1/\vs1'=vs1:=by grind
 obtain⟨rfl,rfl⟩:=q;refine flightX e1 d1 t1 hT1f fun h2 L2=>?_
 rw[hf] at L2;obtain⟨I2,F2,_⟩:=I1.leftX F1 e1 d1 (.inr rfl) hT1 L2;exact⟨pins,σ,H,ea,rfl,I2,F2,j⟩
end
open PySem PySem.Spec PyProof.Rows
def CXR(P:Program)(w:World):CXT:=fun outer H s E e s'=>∃ea H',e=.ref ea/\s'.os=s.os/\Ki s'.gens/\Un (frs outer) [] H H' s.heap s'.heap/\HOk P w H' s'.heap/\s.heap.objs.size<=ea/\(∃C dd,H' ea=some (ExO C dd ea)) /\
 (∃oe vs,s'.heap.get? ea=some oe/\oe.data=.fields vs/\(vs[1]?=some .none\/∃T,TbAt s'.heap ea vs T .none)/\∀T,vs[1]?=some (.ref T)->s.heap.objs.size<=T/\H' T=none)/\E (.ref ea) none H'
section
variable{X:Cx}{J J':Addr->St->Hp->Prop}{E:Value->Ae->Prop}{e:Value}{s:Ae}
theorem FlX.wish(F:FlX X pins H s ea)(E:Value->Ae->Prop):FlX (X.wish E) pins H s ea:=⟨F.at_,F.tb,F.new⟩
theorem FlX.unwish(F:FlX (X.wish E) pins H s ea):FlX X pins H s ea:=⟨F.at_,F.tb,F.new⟩
theorem XE.wish(h:XE X J e s):XE (X.wish E) J e s:=by
 obtain⟨pins,σ,H,ea,rfl,I,F,j⟩:=h;exact⟨pins,σ,H,ea,rfl,I.wish _,F.wish _,j⟩
theorem XE.unwish(h:XE (X.wish E) J e s):XE X J e s:=by
 obtain⟨pins,σ,H,ea,rfl,I,F,j⟩:=h;exact⟨pins,σ,H,ea,rfl,I.unwish,F.unwish,j⟩
structure AccX (X:Cx) (J:Addr->St->Hp->Prop):Prop where
 acc:∀e s,XE X J e s->X.xe e s
theorem AccX.of:AccX (X.wish (XE X J)) J:=⟨fun _ _ h=>h.unwish⟩
theorem PSs.wishX{st:List Stmt}(hE:∀e s,E e s->X.xe e s)(h:PSs (X.wish E) st t):PSs X st t:=fun pins s σ H D I hw =>
 Br (h pins s σ H D (I.wish _) hw) (fun _ _ q=>q.unwish) hE
theorem leaves{K:Ai}(h:XE (cxOf (CXR P w) P w K mg base N qual scope f cd A outer s₀ H₀ E₀) (fun ea _ H'=>E₀ (.ref ea) none H') e s):(cxOf (CXR P w) P w K mg base N qual scope f cd A outer s₀ H₀ E₀).xe e s:=by
 obtain⟨pins,σ,H,ea,rfl,I,F,j⟩:=h;obtain⟨oe,vs,he,hd,ht,hT⟩:=F.tb;refine Ab (noteX I.ok.frames I.stack rfl he hd ht fun h1 L1=>?_);obtain⟨I1,F1,oe1,vs1,T1,e1,d1,t1⟩:=I.leftX F he hd (.inr rfl) hT L1;have hT1f:T1∉frs (cxOf (CXR P w) P w K mg base N qual scope f cd A outer s₀ H₀ E₀).stack:=fun hm=>by
  obtain⟨_,_,oT,ts,q1,q2,_⟩:=t1;obtain⟨_,o,ho,hnf⟩:=I1.stack.mem hm;rw[q1] at ho;injection ho with ho;subst ho;exact hnf ts q2
 obtain⟨oe1',vs1',e1',d1',_,hT1⟩:=F1.tb;have q:oe1'=oe1/\vs1'=vs1:=by grind
 obtain⟨rfl,rfl⟩:=q;refine flightX e1 d1 t1 hT1f fun h2 L2=>?_
 obtain⟨I2,F2,oe2,vs2,T2,e2,d2,t2⟩:=I1.leftX F1 e1 d1 (.inl rfl) hT1 L2;obtain⟨oe2',vs2',e2',d2',_,hT2⟩:=F2.tb;have q:oe2'=oe2/\vs2'=vs2:=by grind
 obtain⟨rfl,rfl⟩:=q;exact⟨ea,H,rfl,I2.os,I2.bare,I2.base,I2.hok,F2.new,F2.at_,⟨_,_,e2,d2,.inr ⟨T2,t2⟩,fun T hTT=>⟨(hT2 T hTT).1,(hT2 T hTT).2.1⟩⟩,j⟩
end
abbrev cxX(P:Program)(w:World)(K:Ai)(mg:Str->Option Value)(base:Heap)(N:List Str)(qual:Str)(scope:Scope)(f:Addr)(cd:Value)(A:Around)(outer:List Env)(s:Ae)(H:Hp)(E:XK):Cx :=
 (cxOf (CXR P w) P w K mg base N qual scope f cd A outer s H E).wish (XE (cxOf (CXR P w) P w K mg base N qual scope f cd A outer s H E) fun ea _ H'=>E (.ref ea) none H')
section
variable{P:Program}{w:World}{K:Ai}{mg:Str->Option Value}{base:Heap}
theorem accX:AccX (cxX P w K mg base N qual scope f cd A outer s H E) fun ea _ H'=>E (.ref ea) none H':=AccX.of
theorem passDef:Rp (model P w) (A.deeper (Ga qual scope s.heap.objs.size f cd)) (Ga qual scope s.heap.objs.size f cd) (cxX P w K mg base N qual scope f cd A outer s H E).xe :=
 passX rfl rfl
theorem Fun.okX{st:Stmt}(F:Fun K x qual st f fd)(S:FnScope N ps (defScope st))(len:∀vs H Q E,sp vs H Q E->vs.length=ps.length)(hbody:∀(cdv:Value) (A:Around) (outer:List Env) (s:Ae) (H:Hp) (vs:List V) (Q:VK) (E:XK),Room k (A.deeper (Ga qual (defScope st) s.heap.objs.size f cdv))->sp vs H Q E ->
   ∃t,PSs (cxX P w K mg base N qual (defScope st) f cdv A outer s H E) (defBody st) t/\t { nx:=fun _ H'=>Q .non H',rt:=Q } (start N vs) H):FnOk P w K mg base (CXR P w) (k+1) f fd ps sp:=by
 obtain⟨oc,od,kV,doc,pm,an,cdv,ct,osl,rfl,lk,hcd⟩:=F.ex;refine z7d lk hcd S len fun A outer s H vs Q E hr hsp=>?_
 obtain⟨t,h,q⟩:=hbody cdv A outer s H vs Q E hr hsp;exact⟨t,PSs.wishX (fun e s' z=>leaves z) h,q⟩
structure CalX (P:Program) (w:World) (K:Ai) (mg:Str->Option Value) (base:Heap) (x:Str) (k:Nat) (ps:List Str) (sp:Sp):Prop where
 ex:∃f fd,FnOk P w K mg base (CXR P w) k f fd ps sp/\mg x=some (.ref f)/\Ej K (.ref f)=true/\Binds K fd ps []
theorem Df.calX{st:Stmt}(D:Df K mg x st ps)(S:FnScope N ps (defScope st))(len:∀vs H Q E,sp vs H Q E->vs.length=ps.length)(hbody:∀(f:Addr) (cdv:Value) (A:Around) (outer:List Env) (s:Ae) (H:Hp) (vs:List V) (Q:VK) (E:XK),Room k (A.deeper (Ga x (defScope st) s.heap.objs.size f cdv))->sp vs H Q E ->
   ∃t,PSs (cxX P w K mg base N x (defScope st) f cdv A outer s H E) (defBody st) t/\t { nx:=fun _ H'=>Q .non H',rt:=Q } (start N vs) H):CalX P w K mg base x (k+1) ps sp:=by
 obtain⟨f,fd,F,hm,hb⟩:=D.ex;exact⟨f,fd,F.okX S len fun cdv A outer s H vs Q E hr h=>hbody f cdv A outer s H vs Q E hr h,hm,F.kp,hb⟩
end
section
variable{X:Cx}{J:Addr->St->Hp->Prop}{k j:Nat}{f:Addr}{fd:Jt}{ps:List Str}{sp:Sp}{x:Str}{p pos:Pos}{e:Expr}{es:List Expr}{t:TA}
def tCallX(sp:Sp)(J:Addr->St->Hp->Prop)(t:TA):TE:=fun σ H Q=>t σ H fun vs H1=>sp vs H1 Q fun e _ H'=>∀ea,e=.ref ea->J ea σ H'
theorem x0m{σ:St}(F:FnOk X.prog X.w X.K X.mg X.base (CXR X.prog X.w) k f fd ps sp)(hr:Room k X.A)(hb:Binds X.K fd ps [])(hx:AccX X J)(I:Inv X pins σ H s)(r:Vals vs us)(h:sp vs H Q fun e _ H'=>∀ea,e=.ref ea->J ea σ H'):wpAny (model X.prog X.w) X.A (call (.ref f) us) (EP X pins σ Q) X.xe s:=by
 have hl:(us++[]).length=ps.length:=by rw[El,<- r.length];exact F.len _ _ _ _ h
 have hb':=hb s us I.kIn hl;rw[El] at hb';refine Gv (Ii (F.run X.A X.stack s H ⟨us,[]⟩ us vs Q _ hr I.env0 hb' r h) fun r s' hq=>?_);cases r with
 |error e =>
  obtain⟨ea,H',rfl,os,bare,un,hok,hnew,hat,⟨oe,ws,he,hd,ht,hT⟩,j⟩:=hq;have I':=I.call' os un hok bare fun b z=>absurd z (by simp)
  refine hx.acc _ _ ⟨pins,σ,H',ea,rfl,I',⟨hat,⟨oe,ws,he,hd,?_,fun T hTT=>?_⟩,Bi I.sz hnew⟩,j ea rfl⟩
  ·rcases ht with z|⟨T,z⟩
   ·exact .inl z
   ·exact .inr ⟨T,.inl z⟩
  ·obtain⟨a1,a2⟩:=hT T hTT;refine⟨Bi I.sz a1,a2,fun z=>absurd I.lt (Iw.mpr (z▸a1)),fun y c hy z=>?_,fun q hq z=>?_⟩
   ·obtain⟨v,o,ho,_⟩:=I.cell y c hy;exact absurd (An ho) (Iw.mpr (z▸a1))
   ·obtain⟨ho,_⟩:=I.pin q hq;exact absurd (An ho) (Iw.mpr (z▸a1))
 |ok fl =>
  cases fl with
  |ret u=>exact I.after hq
  |next=>exact False.elim hq
  |brk=>exact False.elim hq
  |cont=>exact False.elim hq
theorem q9d(C:CalX X.prog X.w X.K X.mg X.base x k ps sp)(hr:Room j X.A)(hx:AccX X J)(ha:PA X (e::es) t)(hjk:k<=j:=by decide)(hg:Gl X x:=by rfl)(hdb:(x==("__debug__" : Str))=false:=by decide)(he:Ba (e::es) X.env=(false,eval e X.env)::Ba es X.env:=by rfl)(hpl:(Dq pos (Ba es X.env)).any (·.1)=false:=by rfl):
  PE X (.Call (.Name x p) (e::es) [] pos) (tCallX sp J t):=by
 obtain⟨f,fd,F,hm,hk,hb⟩:=C.ex;intro pins s σ H Q I h;refine Ez (q2v I hg hm ?_ hdb);refine Lu I.ok.mod.kin hk (thn (ha pos pins s σ H _ I h) fun us s1 ⟨vs,H1,I1,r,q⟩=>⟨I1.kIn,?_⟩) he hpl;exact x0m F (hr.mono hjk) hb hx I1 r q
end
open PySem PySem.Spec PyProof.Rows
structure ECls (K:Ai) (C:Addr) (bm:List Value):Prop where
 ex:∃nm q N bs hdct sn sub ab col dd k0 k1 k2 k3 k5 newId,K.lookup C=some (Dh nm q C N bs bm hdct sn sub ab col dd k0 k1 k2 k3 k5 newId)
 base:bm.contains (.type "BaseException")=true
section
variable{M:Model}{A:Around}{E:Value->Ae->Prop}{h:Heap}{g:Array Qw}{d:Drawn}{t:Nat}{os:Nu}
variable{nm q:Str}{C N:Addr}{bs bm:List Value}{hdct:Bool}{sn:List Str}{sub:List Value}{ab:Bool}{col:Option Bool}{dd:Option Addr}{k0 k1 k2 k3 k5:Option Value}{newId:String}
variable{nm' q':Str}{D N':Addr}{bs' bm':List Value}{hdct':Bool}{sn':List Str}{sub':List Value}{ab':Bool}{col':Option Bool}{dd':Option Addr}{k0' k1' k2' k3' k5':Option Value}{newId':String}
theorem excMatchX(hC:h.get? C=some (Dh nm q C N bs bm hdct sn sub ab col dd k0 k1 k2 k3 k5 newId))(hD:h.get? D=some (Dh nm' q' D N' bs' bm' hdct' sn' sub' ab' col' dd' k0' k1' k2' k3' k5' newId'))(he:h.get? e=some oe)(hcls:oe.cls=.ref C)(hbase:bm'.contains (.type "BaseException")=true)(hq:Q ((Value.ref C::bm).contains (.ref D)) ⟨h,g,d,t,os⟩):wpAny M A (excMatches (.ref e) (.ref D)) Q E ⟨h,g,d,t,os⟩:=by
 have hcB:(Value.ref D::bm').contains (.type "BaseException")=true:=by grind
 have f:=tc_notTuple;repeat (first|(with_reducible refine Fo he ?_;rw[hcls])|with_reducible refine Fo hD ?_|(with_reducible refine Jh hD ?_;rw[hcB])|(with_reducible refine Jh hC ?_)|wp_step)
 cases hb:(Value.ref C::bm).contains (.ref D)<;>(rw[hb] at hq;wp_walk;exact hq)
end
section
variable{X:Cx}{pins:List (Addr×Obj)}{σ:St}{H:Hp}{s:Ae}
theorem q7f(I:Inv X pins σ H s)(hN:X.N.Nodup)(hi:X.N[i]?=some x)(hk:X.env.scope.names.lookup x=some .local)(h:∀s',Inv X pins (σ.set i none) H s'->Q () s'):wpAny M A (do bindName X.env x .none;unbindBehindTheSuite X.env x pos) Q E s:=by
 obtain⟨m,hn,hl⟩:=id I.loc;have hcls:(X.env.scope.kind==.class||(X.env.scope.kind==.module&&X.env.locals != X.env.globals))=false:=by rw[I.ok.kind];rfl
 have hiσ:i<σ.length:=by rw[I.len];exact(Bg.mp hi).1
 have cne:=I.cne;have tracked:∀{a:Addr} {h':Heap},(∃o,s.heap.get? a=some o/\H a=none)->Ep a s.heap h'->HOk X.prog X.w H h':=fun{a h'} ha hs b ob e=>by
  refine(I.hok b ob e).stay (fun c w' hc q=>(hs.2 c ?_).trans q) (fun _ q=>q) fun _ _ q=>q;rcases hc with rfl|hc
  ·grind
  ·grind
 refine wpAny_nameGoes_keeps hk hn hcls fun h' v hn' hs=>?_;obtain⟨oL,_,_,hoL,_⟩:=id hn;refine h _ ⟨I.ok,I.os,I.bare,⟨fun b o e n hb hx=>?_,fun b o e n hb hx=>?_,I.base.free,fun b o e hx=>?_,I.base.tups,I.base.frzs,I.base.tbls⟩,⟨_,hn',fun j y v' e1 e2 e3=>?_⟩,fun y c e=>?_,I.free,I.freeC,fun p hp=>?_,tracked ⟨oL,hoL,I.free⟩ hs,by simpa using I.len⟩
 ·exact(hs.2 b (Bd (Bf (An e) I.ok.above))).trans (I.base.keep b o e n hb hx)
 ·obtain⟨sl,e1⟩:=I.base.slot b o e n hb hx;exact⟨sl,(hs.2 b (Bd (Bf (An e) I.ok.above))).trans e1⟩
 ·obtain⟨o',e1⟩:=I.base.there b o e hx;exact⟨o',(hs.2 b (Bd (Bf (An e) I.ok.above))).trans e1⟩
 ·by_cases hj:j=i
  ·simp_all
  ·rw[Lq (Bo hj)] at e2;obtain⟨u',r',q⟩:=hl j y v' e1 e2 e3;refine⟨u',r',?_⟩;rcases q with⟨k,e⟩|⟨k,c,e,z⟩
   ·refine .inl ⟨k,?_⟩;have:y≠x:=fun e=>hj (q6r hN e1 (e▸hi));simp[this,e]
   ·exact .inr ⟨k,c,e,z.sameBut hs (cne y c e)⟩
 ·obtain⟨w',z⟩:=I.cell y c e;exact⟨w',z.sameBut hs (cne y c e)⟩
 ·obtain⟨e,n,ne,nf,d⟩:=I.pin p hp;exact⟨(hs.2 p.1 ne).trans e,n,ne,nf,d⟩
abbrev Cx.pinned(X:Cx)(pn:List (Addr×Obj)):Cx:={ X with pn:=pn }
theorem Cx.Ok.pinned{pn:List (Addr×Obj)}(ok:X.Ok):(X.pinned pn).Ok:=⟨ok.mod,ok.kind,ok.glob,ok.blt,ok.above,ok.inj,ok.has,ok.cab,ok.hd,ok.frames,ok.stk,ok.exf,ok.bs,ok.bsz,ok.noex,ok.exfs,ok.funs,ok.frf⟩
theorem Cx.Ok.unpin{pn:List (Addr×Obj)}(ok:(X.pinned pn).Ok):X.Ok:=⟨ok.mod,ok.kind,ok.glob,ok.blt,ok.above,ok.inj,ok.has,ok.cab,ok.hd,ok.frames,ok.stk,ok.exf,ok.bs,ok.bsz,ok.noex,ok.exfs,ok.funs,ok.frf⟩
theorem Inv.toPn(I:Inv X pins σ H s):Inv (X.pinned (X.pn++pins)) [] σ H s:=⟨I.ok.pinned,I.os,I.bare,I.base,I.loc,I.cell,I.free,I.freeC,fun p hp=>I.pin p (by simpa using hp),I.hok,I.len⟩
theorem Inv.ofPn(I:Inv (X.pinned (X.pn++pins)) pins' σ H s):Inv X pins σ H s:=⟨I.ok.unpin,I.os,I.bare,I.base,I.loc,I.cell,I.free,I.freeC,fun p hp=>I.pin p (Ed _ hp),I.hok,I.len⟩
theorem FlX.ofPn(F:FlX (X.pinned (X.pn++pins)) pins' H s e):FlX X pins H s e:=by
 obtain⟨oe,vs,h1,h2,h3,h4⟩:=F.tb;exact⟨F.at_,⟨oe,vs,h1,h2,h3,fun T hT=>let ⟨a,b,c,d,f⟩:=h4 T hT;⟨a,b,c,d,fun p hp=>f p (Ed _ hp)⟩⟩,F.new⟩
abbrev Cx.hand(X:Cx)(e:Addr):Cx:={ X with A:=X.A.mark (some (.ref e)),calm:=false,xe:=fun _ _=>False }
theorem Cx.Ok.hand(ok:X.Ok):(X.hand e).Ok:=⟨ok.mod,ok.kind,ok.glob,ok.blt,ok.above,ok.inj,ok.has,ok.cab,(fun z=>by cases z),ok.frames,ok.stk,ok.exf,ok.bs,ok.bsz,ok.noex,ok.exfs,ok.funs,ok.frf⟩
theorem Inv.hand(I:Inv X pins σ H s)(e:Addr):Inv (X.hand e) pins σ H s:=⟨I.ok.hand,I.os,I.bare,I.base,I.loc,I.cell,I.free,I.freeC,I.pin,I.hok,I.len⟩
theorem Inv.unhand(I:Inv (X.hand e) pins σ H s)(ok:X.Ok):Inv X pins σ H s:=⟨ok,I.os,I.bare,I.base,I.loc,I.cell,I.free,I.freeC,I.pin,I.hok,I.len⟩
def SubX(K:Ai)(C:Value)(D:Addr):Prop:=∃c bm,C=.ref c/\ECls K c bm/\(Value.ref c::bm).contains (.ref D)=true
def gone(i:Nat)(D:Ends):Ends:=⟨fun σ H=>D.nx (σ.set i none) H,D.rt,fun σ H=>D.bk (σ.set i none) H,fun σ H=>D.ct (σ.set i none) H⟩
end
open PySem PySem.Spec PyProof.Rows
section
variable{prog:Program}{w:World}{A:Around}{E:Value->Ae->Prop}{h:Heap}{g:Array Qw}{d:Drawn}{t:Nat}{os:Nu}
variable{nm q:Str}{C N:Addr}{bs bm bmB:List Value}{hdct:Bool}{sn:List Str}{sub:List Value}{ab:Bool}{col:Option Bool}{dd:Option Addr}{k0 k1 k2 k3 k5:Option Value}{B newId initId:String}
theorem q3r(F:Sh B newId initId bmB)(T:Qi h bmB bm){rest:List Value}(hC:h.get? C=some (Dh nm q C N bs bm hdct sn sub ab col dd k0 k1 k2 k3 k5 newId))(hn:h.Ns N mN)(hi:mN "__init__" = some (.ref fI))(hfI:h.get? fI=some oI)(hfc:oI.cls=.type "function")(hq:∀h' e,Heap.MadeExcOf h h' e (.ref C) rest->h.objs.size<=e ->
   wpAny (model prog w) A (call (.ref fI) (.ref e::rest)) (fun r s'=>r=.none/\Q (.done (.ret (.ref e))) s') E ⟨h',g,d,t,os⟩)(hrest:rest.length<=sizeLine:=by size_fits):
  wpAny (model prog w) A (Cs.«type.__call__» ⟨.ref C::rest,[]⟩) Q E ⟨h,g,d,t,os⟩:=by
 repeat (first|with_reducible refine Fo hC ?_|with_reducible refine wpAny_madeBy_exc hC ?_|wp_step)
 refine codeAny_call_builtin_code (Si _ F.quiet) (wpAny_check_new_subT F T hC ?_);refine codeAny_exc_new_subT F T hC ?_ hrest;have hC₁:=Af { cls:=.ref C,data:=.fields #[.ref h.objs.size,.none,.none,.none,.bool false,.none] }
  (Af { cls:=.type "tuple",data:=.seq rest.toArray } hC)
 have hfI₁:=Af { cls:=.ref C,data:=.fields #[.ref h.objs.size,.none,.none,.none,.bool false,.none] }
  (Af { cls:=.type "tuple",data:=.seq rest.toArray } hfI)
 have hn₁:((h.push { cls:=.type "tuple",data:=.seq rest.toArray }).push { cls:=.ref C,data:=.fields #[.ref h.objs.size,.none,.none,.none,.bool false,.none] }).Ns N mN :=
  let ⟨o,es,ep,e,r⟩:=hn;⟨o,es,ep,Af _ (Af _ e),r⟩
 have hget:((h.push { cls:=.type "tuple",data:=.seq rest.toArray }).push
   { cls:=.ref C,data:=.fields #[.ref h.objs.size,.none,.none,.none,.bool false,.none] }).get? (h.objs.size+1)=some
   { cls:=.ref C,data:=.fields #[.ref h.objs.size,.none,.none,.none,.bool false,.none] }:=by heap_get
 have T₁:=T.keeps (h':=(h.push { cls:=.type "tuple",data:=.seq rest.toArray }).push { cls:=.ref C,data:=.fields #[.ref h.objs.size,.none,.none,.none,.bool false,.none] })
  fun b o e=>Af _ (Af _ e)
 have hcC:(Value.ref C::bm).contains (.ref C)=true:=by simp
 repeat (first|with_reducible refine Fo hget ?_|(with_reducible refine Jh hC₁ ?_;rw[hcC])|wp_step)
 refine wpAny_typeLookup_tail hC₁ hn₁ T₁ F.mroIs F.init.lookup ?_;rw[hi];refine Bm (Ab ?_);refine Ab (Ff ⟨_,hfI₁,hfc⟩ ?_);refine Ad (Ab (Br (hq _ (h.objs.size+1) ⟨fun b o hb=>Af _ (Af _ hb),Lp (Je _),h.objs.size,hget,Lp (Am _),?_⟩ (Je _)) (fun r s' hr=>?_) fun _ _ x=>x))
 ·exact Af _ (Heap.get?_push_at rfl rfl)
 ·obtain⟨rfl,hQ⟩:=hr
  wp_walk
  exact hQ
theorem q5x(F:Sh B newId initId bmB)(T:Qi h bmB bm){rest:List Value}(hC:h.get? C=some (Dh nm q C N bs bm hdct sn sub ab col dd k0 k1 k2 k3 k5 newId))(hn:h.Ns N mN)(hi:mN "__init__" = some (.ref fI))(hfI:h.get? fI=some oI)(hfc:oI.cls=.type "function")(hq:∀h' e,Heap.MadeExcOf h h' e (.ref C) rest->h.objs.size<=e ->
   wpAny (model prog w) (A.under (.builtin "type.__call__" ⟨.ref C::rest,[]⟩)) (call (.ref fI) (.ref e::rest)) (fun r s'=>r=.none/\Q (.ref e) s') E ⟨h',g,d,t,os⟩)(hrest:rest.length<=sizeLine:=by size_fits):
  wpAny (model prog w) A (call (.ref C) rest) Q E ⟨h,g,d,t,os⟩:=by
 have f1:=tc_lookup;have f2:=tc_bind (.ref C);refine Gv (codeAny_of_tree ?_);repeat (any_goals (first|assumption|with_reducible refine Fo hC ?_|wp_step))
 refine⟨rfl,?_⟩;refine codeAny_call_builtin_at (Si _ (by decide +kernel)) entry_typeCall (wpAny_check_type_call_sub hC (q3r F T hC hn hi hfI hfc fun h' e hm hle=>?_));exact hq h' e hm hle
theorem raiseX(hbase:bm.contains (.type "BaseException")=true)(hh:A.handled=none)(h:wpAny M A x (fun v s₁=>∃e de vs sl,v=.ref e/\s₁.heap.get? C=some (Dh nm q C N bs bm hdct sn sub ab col dd k0 k1 k2 k3 k5 newId) /\
   s₁.heap.get? e=some { cls:=.ref C,dict:=de,data:=.fields vs,slots:=sl }/\vs[1]?=some .none/\E (.ref e) s₁) E s):
  wpAny M A (raiseStmt env (some x) none) Q E s:=by
 have hcB:(Value.ref C::bm).contains (.type "BaseException")=true:=by grind
 refine Ab (Br h (fun v s₁ h₁=>?_) fun _ _ x=>x);obtain⟨e,de,vs,sl,rfl,hC,he,h1,hE⟩:=h₁;repeat (first|with_reducible refine Fo he ?_|with_reducible refine Fo hC ?_|(with_reducible refine Jh hC ?_;rw[hcB])|(with_reducible refine Ca he rfl h1 ?_)|wp_step)
 exact wpAny_raiseNew_none hh hE
end
open PySem PySem.Spec PyProof.Rows
def ExN(C:Value)(dd:Option Addr)(e:Addr):HO:=.ext fun h=>∃vs sl,h.get? e=some { cls:=C,dict:=dd,data:=.fields vs,slots:=sl }/\vs.size=6/\vs[1]?=some .none
abbrev bmV:List Value:=[.type "ValueError",.type "Exception",.type "BaseException",.type "object"]
structure EMk (K:Ai) (C fI:Addr) (bm:List Value):Prop where
 ex:∃nm q N bs hdct sn sub ab col dd k0 k1 k2 k3 k5 mN,K.lookup C=some (Dh nm q C N bs bm hdct sn sub ab col dd k0 k1 k2 k3 k5 "ValueError.__new__")/\(∀h:Heap,K.In h->h.Ns N mN)/\mN "__init__" = some (.ref fI)
 tail:∀h:Heap,K.In h->Qi h bmV bm
 fn:∃oI,K.lookup fI=some oI/\oI.cls=.type "function"
 kp:Ej K (.ref C)=true
theorem EMk.base{K:Ai}(M:EMk K C fI bm)(KX:K.In h):bm.contains (.type "BaseException")=true:=(M.tail h KX).hasType (by decide)
section
variable{X:Cx}{pins:List (Addr×Obj)}{σ:St}{H:Hp}{s:Ae}{e:Addr}
theorem Inv.asO(I:Inv X pins σ H s)(h:H e=some (ExN C dd e)):Inv X pins σ (upd H e (ExO C dd e)) s:=by
 have un:Un (frs X.stack) [] H (upd H e (ExO C dd e)) s.heap s.heap:=by
  have hk:∀{b:Addr} {o:HO},H b=some o->b≠e\/o=ExN C dd e:=fun{b o} hb=>by
   by_cases z:b=e
   ·grind
   ·exact .inl z
  refine⟨fun b o hb _ _ _=>hb,fun b o hb _ _ _=>⟨o.slots,hb⟩,fun b o _ n _=>?_,fun b o hb _=>⟨o,hb⟩,fun b xs q=>?_,fun b o u q=>?_,fun b ps q=>⟨#[],?_⟩⟩
  ·rw[q0c (fun z=>by rw[z,h] at n;cases n)];exact n
  ·rcases hk q with z|z
   ·rw[q0c z];exact q
   ·cases z
  ·rcases hk q with z|z
   ·rw[q0c z];exact q
   ·cases z
  ·rcases hk q with z|z
   ·rw[q0c z,q];simp
   ·cases z
 have hok:HOk X.prog X.w (upd H e (ExO C dd e)) s.heap:=fun a o ha=>by
  by_cases z:a=e
  ·subst z;rw[q0b] at ha;cases ha;obtain⟨⟨vs,sl,q1,q2,_⟩,q3,_⟩:=I.hok a _ h;exact⟨⟨vs,sl,q1,q2⟩,q3,fun h1 h2 ⟨ws,sl,k1,k2⟩ k=>⟨ws,sl,k _ k1,k2⟩⟩
  ·rw[q0c z] at ha;refine(I.hok a o ha).stay (fun b u _ q=>q) (fun b q=>?_) fun b xs q=>?_
   ·rw[q0c (fun y=>by rw[y,h] at q;cases q)];exact q
   ·rw[q0c (fun y=>by rw[y,h] at q;cases q)];exact q
 exact I.call' (s':=s) rfl un hok I.bare fun b z=>absurd z (by simp)
def tRaise(C:Addr)(sp:Sp)(J:Addr->St->Hp->Prop)(t:TA):TS:=fun _ σ H=>t σ H fun vs H1=>∀ea,H1 ea=none ->
 sp (.ref ea::vs) (upd H1 ea (ExN (.ref C) none ea)) (fun v H2=>v=.non/\∃dd,H2 ea=some (ExN (.ref C) dd ea)/\J ea σ (upd H2 ea (ExO (.ref C) dd ea))) E0
theorem z8b{np cpos pos:Pos}(M:EMk X.K C fI bm)(F:FnOk X.prog X.w X.K X.mg X.base CX0 k fI fd ps sp)(hr:Room (k+1) X.A)(hb:Binds X.K fd ps [])(hx:AccX X J)(hc:X.calm=true)(hg:Gl X x)(hm:X.mg x=some (.ref C))(ha:PA X (e₀::es) t)(hps:ps.length<=100:=by decide)(hdb:(x==("__debug__" : Str))=false:=by decide)(he:Ba (e₀::es) X.env=(false,eval e₀ X.env)::Ba es X.env:=by rfl)(hpl:(Dq cpos (Ba es X.env)).any (·.1)=false:=by rfl):
  PS X (.Raise (some (.Call (.Name x np) (e₀::es) [] cpos)) none pos) (tRaise C sp J t):=by
 intro pins s σ H D I h;obtain⟨nm,q,N,bs,hdct,sn,sub,ab,col,dd,k0,k1,k2,k3,k5,mN,lk,hN,hi⟩:=M.ex;obtain⟨oI,lkI,hfc⟩:=M.fn;have key:wpAny (model X.prog X.w) X.A (eval (.Call (.Name x np) (e₀::es) [] cpos) X.env) (fun v s₁=>∃e de vs sl,v=.ref e/\s₁.heap.get? C=some (Dh nm q C N bs bm hdct sn sub ab col dd k0 k1 k2 k3 k5 "ValueError.__new__") /\
   s₁.heap.get? e=some { cls:=.ref C,dict:=de,data:=.fields vs,slots:=sl }/\vs[1]?=some .none/\X.xe (.ref e) s₁) X.xe s:=by
  refine Ez (q2v I hg hm ?_ hdb);refine Lu I.ok.mod.kin M.kp (thn (ha cpos pins s σ H _ I h) fun us s1 ⟨vs,H1,I1,r,hq⟩=>⟨I1.kIn,?_⟩) he hpl;obtain⟨hp,g,dr,tk,os⟩:=s1;have KX:=I1.kIn;have hlen:us.length<=sizeLine:=by
   have hh:=F.len _ _ _ _ (hq hp.objs.size (I1.hok.fresh (Am _)));rw[Bk] at hh;rw[<- r.length,Dl];lia
  refine q5x Nc (M.tail hp KX) (KX _ _ lk) (hN hp KX) hi (KX _ _ lkI) hfc fun h' e hme hle=>?_;have hfree:=I1.hok.fresh hle;obtain⟨t0,hrec,_,_⟩:=hme.there;have I2:Inv X pins σ (upd H1 e (ExN (.ref C) none e)) ⟨h',g,dr,tk,os⟩:=I1.laid (h':=h') (t':=tk) (fun b u q=>hme.keeps b u q) hle ⟨⟨_,_,hrec,rfl,rfl⟩,⟨_,hrec⟩,fun h1 h2 ⟨ws,sl,k1,k2⟩ k=>⟨ws,sl,k _ k1,k2⟩⟩;have hq':=hq e hfree;have r2:Vals (V.ref e::vs) (Value.ref e::us):=.cons rfl r;have hl:((Value.ref e::us)++[]).length=ps.length:=by rw[El,<- r2.length];exact F.len _ _ _ _ hq'
  have hb':=hb ⟨h',g,dr,tk,os⟩ (Value.ref e::us) I2.kIn hl;rw[El] at hb';refine Gv (Ii (F.run _ X.stack _ _ ⟨Value.ref e::us,[]⟩ (Value.ref e::us) _ _ _ (hr.make C us []) (I2.env0.make C us []) hb' r2 hq') fun r s' hz=>?_);cases r with
  |error e=>exact hz.elim
  |ok fl =>
   cases fl with
   |ret u =>
    obtain⟨v,H',I3,rv,ev,de,hE,j⟩:=I2.after hz;subst ev;refine⟨rv,?_⟩;obtain⟨⟨ws,sl,q1,q2,q3⟩,_,_⟩:=I3.hok e _ hE;refine⟨e,de,ws,sl,rfl,I3.kIn _ _ lk,q1,q3,hx.acc _ _ ⟨pins,σ,_,e,rfl,I3.asO hE,⟨⟨_,_,q0b⟩,⟨_,ws,q1,rfl,.inl q3,fun T hT=>?_⟩,Bi I1.sz hle⟩,j⟩⟩;rw[q3] at hT;cases hT
   |next=>exact False.elim hz
   |brk=>exact False.elim hz
   |cont=>exact False.elim hz
 have hbase:=M.base I.kIn;first
  |exact Ab (Di (raiseX hbase (I.ok.hd hc) (Ab (Br key (fun v s₁ z=>Ab (Di (Ad z))) fun _ _ z=>z))))
  |(simp only[evalOpt,Option.map];exact Ab (Di (raiseX hbase (I.ok.hd hc) (Ab (Br key (fun v s₁ z=>Ab (Di (Ad z))) fun _ _ z=>z)))))
  |exact Ab (Di (raiseX hbase (I.ok.hd hc) key))
end
open PySem PySem.Spec PyProof.Rows
section
variable{prog:Program}{w:World}{A:Around}{R:Result->Ae->Prop}{h:Heap}{g:Array Qw}{d:Drawn}{t:Nat}{os:Nu}
variable{nm q:Str}{C N:Addr}{bs bm bmB:List Value}{hdct:Bool}{sn:List Str}{sub:List Value}{ab:Bool}{col:Option Bool}{dd:Option Addr}{k0 k1 k2 k3 k5:Option Value}{B newId initId:String}
theorem z5h(F:Sh B newId initId bmB)(T:Qi h bmB bm){rest:List Value}(hC:h.get? C=some (Dh nm q C N bs bm hdct sn sub ab col dd k0 k1 k2 k3 k5 newId))(he:h.get? e=some { cls:=.ref C,dict:=de,data:=.fields vs,slots:=sl })(hs:vs.size=6)(hrest:rest.length<=sizeLine)(hq:R (.ok (.ret .none)) ⟨(h.push { cls:=.type "tuple",data:=.seq rest.toArray }).update e (Ex (·.setIfInBounds 0 (.ref h.objs.size))),g,d,t,os⟩):
  Fm (model prog w) A (.call (.builtin initId) ⟨.ref e::rest,[]⟩) R ⟨h,g,d,t,os⟩:=by
 refine Gz F.init.plain F.initEntry (wpAny_check_init_subT F T hC he rfl ?_);have he2:=Af { cls:=.type "tuple",data:=.seq rest.toArray } he
 wp_walk
 have h0:vs[(0:Nat)]?=some (vs[0]'(by lia)):=Ds (by lia);rw[h0];refine Ad (Ab (He he2 rfl (by lia) ?_));generalize vs[0]'(by lia)=v0;cases v0<;>(wp_walk;exact hq)
end
theorem upd_id(h:H a=some o):upd H a o=H:=by
 funext b;by_cases z:b=a
 ·rw[z,q0b,h]
 ·rw[q0c z]
structure ELow (K:Ai) (C:Addr) (bm:List Value):Prop where
 ex:∃nm q N bs hdct sn sub ab col dd k0 k1 k2 k3 k5,K.lookup C=some (Dh nm q C N bs bm hdct sn sub ab col dd k0 k1 k2 k3 k5 "ValueError.__new__")
 tail:∀h:Heap,K.In h->Qi h bmV bm
theorem EMk.low{K:Ai}(M:EMk K C fI bm):ELow K C bm:=by
 obtain⟨nm,q,N,bs,hdct,sn,sub,ab,col,dd,k0,k1,k2,k3,k5,mN,lk,_⟩:=M.ex;exact⟨⟨nm,q,N,bs,hdct,sn,sub,ab,col,dd,k0,k1,k2,k3,k5,lk⟩,M.tail⟩
structure EIni (K:Ai) (D:Addr) (mc:Value):Prop where
 sp:Kt K (.ref D) "__getattribute__" = some (some (.builtin "type.__getattribute__"))
 rd:W.readsIn K D mc=true
 fc:W.findCls K (.ref D) mc "__init__" = some (.val (.builtin "ValueError.__init__"))
section
variable{X:Cx}{x:Str}{p pos apos:Pos}{a b:Expr}{t:TA}{C D:Addr}{bm:List Value}{mc:Value}
def tIni(C:Addr)(t:TA):TE:=fun σ H Q=>t σ H fun vs H1=>∃ea v de,vs=[.ref ea,v]/\H1 ea=some (ExN (.ref C) de ea)/\Q .non H1
theorem z9k{pl:Sem Bool}(L:ELow X.K C bm)(N:EIni X.K D mc)(hg:Gl X x)(hm:X.mg x=some (.ref D))(ha:PA X [a,b] t)(hdb:(x==("__debug__" : Str))=false:=by decide)(hst:Ba [a,b] X.env=(false,eval a X.env)::Ba [b] X.env:=by rfl)(hpl:(Dq pos (Ba [b] X.env)).any (·.1)=false:=by rfl)(ht:eval (.Call (.Attribute (.Name x p) "__init__" apos) [a,b] [] pos) X.env=(do
   let ov<-eval (.Name x p) X.env
   Mj apos.atName
   let (f,first)<-Ig [ov] (Le ov "__init__" pl)
   Qq pos f first (Dq pos (Ba [a,b] X.env)) (Lb pos (Hw [] X.env))):=by rfl):
  PE X (.Call (.Attribute (.Name x p) "__init__" apos) [a,b] [] pos) (tIni C t):=by
 intro pins s σ H Q I h;refine Ov (q2v I hg hm ?_ hdb) ht;refine W.method_cls I.kIn N.sp (W.cls_value I.kIn N.rd N.fc rfl ?_);refine Lv (thn (ha pos pins _ σ H _ (I.tok _) h) fun us s1 ⟨vs,H1,I1,r,ea,v,de,ev,hE,q⟩=>?_) hst hpl;subst ev;obtain⟨u1,u2,rfl,ru,rv⟩:=r.two;obtain rfl:u1=Value.ref ea:=ru;obtain⟨hp,g,dr,tk,os⟩:=s1;obtain⟨nm,q0,N0,bs,hdct,sn,sub,ab,col,dd,k0,k1,k2,k3,k5,lk⟩:=L.ex;obtain⟨⟨ws,sl,q1,q2,q3⟩,_,_⟩:=I1.hok ea _ hE;refine Gv (z5h Nc (L.tail hp I1.kIn) (I1.kIn _ _ lk) q1 q2 (by show 1<=sizeLine;decide) ?_);have q1':=Af { cls:=.type "tuple",data:=.seq #[u2] } q1;have hrec:=De (Ex (·.setIfInBounds 0 (Value.ref hp.objs.size))) q1' rfl;have I2:=I1.write (o:=ExN (.ref C) de ea) (t':=tk) (h':=(hp.push { cls:=.type "tuple",data:=.seq #[u2] }).update ea (Ex (·.setIfInBounds 0 (Value.ref hp.objs.size)))) (by rw[hE];exact trivial) (.inl rfl)
  (fun b u hb hu=>by rw[Bq _ _ (Bo hb)];exact Af _ hu) ⟨_,hrec⟩
  ⟨⟨ws.setIfInBounds 0 (.ref hp.objs.size),sl,hrec,by simpa using q2,by rw[Array.getElem?_setIfInBounds_ne (by decide)];exact q3⟩,⟨_,hrec⟩,fun h1 h2 ⟨ws,sl,k1,k2⟩ k=>⟨ws,sl,k _ k1,k2⟩⟩
 rw[upd_id hE] at I2;exact⟨.non,H1,I2,rfl,q⟩
end
open PySem PySem.Spec PyProof.Rows
def ExMro(l:List Value):Prop:=∃rs:List Addr,l=rs.map Value.ref++bmV
theorem z2w(self:Value):Uz self "__setattr__" bmV=pure ():=by kernel_rfl
theorem z5i(self:Value)(h:ExMro l):Uz self "__setattr__" l=pure ():=by
 obtain⟨rs,rfl⟩:=h;induction rs with
 |nil=>exact z2w self
 |cons c r ih=>show Uz self "__setattr__" (.ref c::(r.map Value.ref++bmV))=_;rw[refuseLoop_ref];exact ih
theorem q6k(h:ExMro l):l.contains (.type "object")=true/\l.isEmpty=false:=by
 obtain⟨rs,rfl⟩:=h;refine⟨?_,?_⟩
 ·induction rs with
  |nil=>decide
  |cons c r ih=>show(Value.ref c::(r.map Value.ref++bmV)).contains _=true;rw[Kd,ih,Sj]
 ·cases rs<;>rfl
structure ESet (K:Ai) (C:Addr) (f:Str):Prop where
 cls:∃cd,Nv K C=some cd/\ExMro cd.mro/\cd.hasDict=true
 sa:Bj K (.ref C) "__setattr__" = some (some (.builtin "object.__setattr__"))
 tk:Bj K (.ref C) f=some none
section
variable{prog:Program}{w:World}{A:Around}{R:Result->Ae->Prop}{s:Ae}{K:Ai}{x C:Addr}
theorem q9e(X:K.In s.heap)(I:Jr s.heap x ox C od)(S:ESet K C name)(h:wpAny (model prog w) A.in1 (Cs.ObjectAttr.storeInOwnDict (.ref x) (.ref C) (.str name tk) name v false)
   (fun fin s'=>match fin with|.done f=>R (.ok f) s'|.again c'=>c'.quiet=true/\Fm (model prog w) A c' R s') (fun e s'=>R (.error e) s') s):
  Fm (model prog w) A (.call (.builtin "object.__setattr__") ⟨[.ref x,.str name tk,v],[]⟩) R s:=by
 have SF:=PySem.F.store_object;obtain⟨cd,hc,ho,_⟩:=S.cls;have sub:Ve (model prog w) s.heap (isInstance (.ref x) (.type "object")) true:=I.type.andThen (Rj X (by unfold Py;rw[hc,Ey,if_neg (by rw[(q6k ho).2];decide),(q6k ho).1]));refine Gz SF.slot.plain SF.entry (@Sk (model prog w) _ _ s "object.__setattr__" "object" "__setattr__" (.ref x) [.str name tk,v] [] _ SF.kind SF.split sub (SF.args (.ref x) (.str name tk) v) ?_);have hm:Ve (model prog w) s.heap (mroOf (.ref C)) cd.mro:=(Mz X hc).andThen .now;rw[W.osa_eq,refuse_eq];refine Ab (Ab (I.type.here (Ab (hm.here ?_))));rw[z5i _ ho];refine Ad (Ab (I.type.here (Ab ((Ih X S.tk).here (Ab ?_)))));exact Ad h
end
open PySem PySem.Spec PyProof.Rows
def XdO(d:Addr)(fs:List (Str×V)):HO:=.ext fun h=>∃mA,h.Ns1 d mA/\(∀f,RelO (fs.lookup f) (mA f))/\Lo mA (fs.map (·.1))
theorem x0n(n:h.Ns1 d mA)(r:∀f,RelO (fs.lookup f) (mA f))(wi:Lo mA (fs.map (·.1))):ObjOk P w H h d (XdO d fs) :=
 ⟨⟨mA,n,r,wi⟩,let ⟨o,_,_,e,_⟩:=n;⟨o,e⟩,fun h1 h2 ⟨mA,n,r,wi⟩ k=>⟨mA,n.at k,r,wi⟩⟩
theorem exn_ok(q1:h.get? e=some { cls:=C,dict:=dd,data:=.fields vs,slots:=sl })(q2:vs.size=6)(q3:vs[1]?=some .none):ObjOk P w H h e (ExN C dd e) :=
 ⟨⟨vs,sl,q1,q2,q3⟩,⟨_,q1⟩,fun h1 h2 ⟨ws,sl,k1,k2⟩ k=>⟨ws,sl,k _ k1,k2⟩⟩
section
variable{X:Cx}{pins:List (Addr×Obj)}{σ:St}{H:Hp}{s:Ae}{x C d:Addr}{f:Str}{y:V}{u:Value}{A:Around}{E:Value->Ae->Prop}{Q:Unit->Ae->Prop}
theorem z5j(I:Inv X pins σ H s)(hE:H x=some (ExN (.ref C) (some d) x))(hd:H d=some (XdO d fs))(S:ESet X.K C f)(hl:fs.length<1000)(ry:RelV y u)(h:∀s',Inv X pins σ (upd H d (XdO d (putF f y fs))) s'->Q () s'):wpAny (model X.prog X.w) A (Vd (.ref x) f u) Q E s:=by
 obtain⟨⟨vs,sl,q1,q2,q3⟩,_,_⟩:=I.hok x _ hE;obtain⟨⟨mA,n,r,wi⟩,⟨od,hod⟩,_⟩:=I.hok d _ hd;have J:Jr s.heap x { cls:=.ref C,dict:=some d,data:=.fields vs,slots:=sl } C (some od):=⟨q1,rfl,rfl,hod⟩
 refine Tq I.kIn J S.sa (q9e I.kIn J S ?_);obtain⟨cd,hc,_,hd'⟩:=S.cls;refine Ab (Ad (Ab (Ab (Ml q1 (Ab (Rt (Mz I.kIn hc) ?_))))));rw[hd'];refine Ad (Ab (Ad (Ab ?_)));refine Ru n fun h' hn2 hs2=>?_;obtain⟨oD,esD,epD,hoD,hdD,hcD⟩:=hn2.count (Ng f u wi);refine Ab (Nx hoD (by rw[hdD];exact Ny (Bi hcD (by rw[Bk,Ac,Dl];lia))) ?_);refine Ad (h _ (I.write (t':=s.toks+1+1) (h':=h') (by rw[hd];exact trivial) (.inl rfl) (fun b q hb z=>(hs2.2 b hb).trans z) ⟨_,hoD⟩ (x0n hn2 (fun g=>?_) fun g hg=>?_)))
 ·show RelO ((putF f y fs).lookup g) (if g=f then some u else mA g);rw[q2g];by_cases q:g=f
  ·rw[if_pos q,if_pos q];exact ry
  ·grind
 ·by_cases q:g=f
  ·rw[q];exact(q2x f y fs).1
  ·refine(q2x f y fs).2 g (wi g fun z=>hg ?_);rw[if_neg q];exact z
theorem z5k(I:Inv X pins σ H s)(hE:H x=some (ExN (.ref C) none x))(S:ESet X.K C f)(ry:RelV y u)(h:∀d s',H d=none->d≠x->Inv X pins σ (upd (upd (upd H d (XdO d [])) x (ExN (.ref C) (some d) x)) d (XdO d [(f,y)])) s'->Q () s'):wpAny (model X.prog X.w) A (Vd (.ref x) f u) Q E s:=by
 obtain⟨⟨vs,sl,q1,q2,q3⟩,_,_⟩:=I.hok x _ hE;have J:Jr s.heap x { cls:=.ref C,dict:=none,data:=.fields vs,slots:=sl } C none:=⟨q1,rfl,rfl,trivial⟩
 refine Tq I.kIn J S.sa (q9e I.kIn J S ?_);obtain⟨cd,hc,_,hd'⟩:=S.cls;refine Ab (Ad (Ab (Ab (Ml q1 (Ab (Rt (Mz I.kIn hc) ?_))))));rw[hd'];have hxlt:=An q1;have hfresh:=I.hok.fresh (Am s.heap.objs.size);have hne:=Er hxlt;have e1:(s.heap.push Cp).get? s.heap.objs.size=some Cp:=Av s.heap rfl;have e3:(s.heap.push Cp).Ns s.heap.objs.size (fun _=>none):=⟨Cp,#[],_,e1,rfl,(fun e he=>absurd he (by simp)),fun _=>rfl⟩
 have I1:=I.laid (o:=XdO s.heap.objs.size []) (h':=s.heap.push Cp) (t':=s.toks+1) (fun b u q=>Af _ q) (Am _) (x0n (Sv e3) (fun _=>True.intro) fun y hy=>absurd rfl hy);have q1':=Af Cp q1;have hrec:=De (fun o:Obj=>{ o with dict:=some s.heap.objs.size }) q1' rfl;have hE1:upd H s.heap.objs.size (XdO s.heap.objs.size []) x=some (ExN (.ref C) none x):=by rw[q0c (Bo hne)];exact hE
 have I2:=I1.write (t':=s.toks+1) (h':=(s.heap.push Cp).update x (fun o:Obj=>{ o with dict:=some s.heap.objs.size })) (by rw[hE1];exact trivial) (.inl rfl)
  (fun b u hb hu=>by rw[Bq _ _ (Bo hb)];exact hu) ⟨_,hrec⟩ (exn_ok hrec q2 q3)
 have hd2:upd (upd H s.heap.objs.size (XdO s.heap.objs.size [])) x (ExN (.ref C) (some s.heap.objs.size) x) s.heap.objs.size=some (XdO s.heap.objs.size []):=by rw[q0c hne,q0b]
 obtain⟨⟨mA,n,r,wi⟩,⟨od,hod⟩,_⟩:=I2.hok _ _ hd2;refine Ab (wpAny_alloc (Ab (wpAny_update q1' ?_)));refine Ad (Ab (Ad (Ab ?_)));refine Ru n fun h' hn2 hs2=>?_
 obtain⟨oD,esD,epD,hoD,hdD,hcD⟩:=hn2.count (Ng f u wi);refine Ab (Nx hoD (by rw[hdD];exact Ny (Bi hcD (by rw[Bk,Ac,Dl];decide))) ?_);refine Ad (h s.heap.objs.size _ hfresh hne (I2.write (t':=s.toks+1+1) (h':=h') (by rw[hd2];exact trivial) (.inl rfl) (fun b q hb z=>(hs2.2 b hb).trans z) ⟨_,hoD⟩ (x0n hn2 (fun g=>?_) fun g hg=>?_)))
 ·have e:(putF f y []).lookup g=if g=f then some y else List.lookup g []:=q2g f g y []
  show RelO ((putF f y []).lookup g) (if g=f then some u else mA g);rw[e];by_cases q:g=f
  ·rw[if_pos q,if_pos q];exact ry
  ·grind
 ·by_cases q:g=f
  ·grind
  ·exfalso;have:=wi g fun z=>hg (by show(if g=f then some u else mA g)=none;rw[if_neg q];exact z);cases this
end
open PySem PySem.Spec PyProof.Rows
structure EGet (K:Ai) (C:Addr) (f:Str):Prop where
 cls:∃cd,Nv K C=some cd/\ExMro cd.mro/\cd.hasDict=true
 ga:Bj K (.ref C) "__getattribute__" = some (some (.builtin "BaseException.__getattribute__"))
 gh:Bj K (.ref C) "__getattr__" = some none
 tk:Bj K (.ref C) f=some none
theorem z5l(h:ExMro l):l.contains (.type "BaseException")=true:=by
 obtain⟨rs,rfl⟩:=h;induction rs with
 |nil=>decide
 |cons c r ih=>show(Value.ref c::(r.map Value.ref++bmV)).contains _=true;rw[Kd,ih,Sj]
section
variable{prog:Program}{w:World}{A:Around}{E:Value->Ae->Prop}{s:Ae}{K:Ai}{x C:Addr}{ox:Obj}{od:Option Obj}{name:Str}{expr:Bool}{v:Value}{Q:Value->Ae->Prop}
theorem getE(X:K.In s.heap)(I:Jr s.heap x ox C od)(G:EGet K C name)(hf:Vi K C od name=some (.value v))(hh:Uo v=true)(h:Q v { s with toks:=s.toks+1 }):
  wpAny (model prog w) A (Vc (.ref x) name expr) Q E s:=by
 obtain⟨hp,g,d,t,os⟩:=s;have L0:=I.type (M:=model prog w);have L1:=Ih (M:=model prog w) X G.ga;have L2:=Ih (M:=model prog w) X G.gh;have L3:=W.looks_find (M:=model prog w) X I hf;have SG:=Nd.ga;obtain⟨cd,hc,ho,_⟩:=G.cls;have sub:Ve (model prog w) hp (isInstance (.ref x) (.type "BaseException")) true:=I.type.andThen (Rj X (by unfold Py;rw[hc,Ey,if_neg (by rw[(q6k ho).2];decide),z5l ho]));have hk:builtinKind "BaseException.__getattribute__" = some .slot:=by decide +kernel
 have hsplit:splitId "BaseException.__getattribute__" = some ("BaseException", "__getattribute__"):=by decide +kernel
 refine Ab (wpAny_mkText (Bm (Ab (L0.at (Ab (L1.at ?_))))));refine Ab (show wpAny _ _ (Np (.ref C) "__getattr__") _ _ _ from L2.at ?_);have hx0:(expr&&onTheHeap (Value.builtin "BaseException.__getattribute__"))=false:=by cases expr<;>rfl
 unfold callGetattribute boundAndCalled;rw[hx0];refine Ab (Ew (Bm (show wpAny _ _ (bindSpecial _ _ >>= _) _ _ _ from ?_)));refine Ab (Ad (Gv (Gz SG.plain Qj (@Sk (model prog w) _ _ _ "BaseException.__getattribute__" "BaseException" "__getattribute__" (.ref x) [.str name t] [] _ hk hsplit sub (Qx (.ref x) (.str name t)) ?_))));refine Ab (Ad (Ab (Ad (Ab (L0.at (Ab (L3.at ?_)))))));refine Ad ?_;show wpAny _ _ (handedOut v) _ _ _;rw[W.handedOut_of hh];exact Ad h
end
open PySem PySem.Spec PyProof.Rows
section
variable{X:Cx}{e o value:Expr}{f:Str}{pos pos':Pos}{ta tv:TE}
def tEfld(K:Ai)(ta:TE)(f:Str):TE:=fun σ H Q=>ta σ H fun x H1=>∃a C d fs v,x=.ref a/\(H1 a=some (ExO (.ref C) (some d) a)\/H1 a=some (ExN (.ref C) (some d) a))/\H1 d=some (XdO d fs)/\EGet K C f/\fs.lookup f=some v/\Q v H1
theorem z1n(K:Ai)(hK:X.K=K)(he:PE X e ta)(hb:Ft e f X.env (eval e X.env)=eval e X.env:=by rfl):PE X (.Attribute e f pos) (tEfld K ta f):=by
 subst hK;intro pins s σ H Q I h;refine z3v hb (thn (he pins s σ H _ I h) fun u s1 ⟨x,H1,I1,rx,a,C,d,fs,v,ex,ea,hd,G,l,q⟩=>?_);subst ex;obtain rfl:u=Value.ref a:=rx;obtain⟨⟨mA,n,r,wi⟩,_,_⟩:=I1.hok d _ hd;obtain⟨od,hod,hlk⟩:=q7z n;have hrec:∃vs sl,s1.heap.get? a=some { cls:=.ref C,dict:=some d,data:=.fields vs,slots:=sl }:=by
  rcases ea with ea|ea
  ·obtain⟨⟨vs,sl,q1,_⟩,_,_⟩:=I1.hok a _ ea;exact⟨vs,sl,q1⟩
  ·obtain⟨⟨vs,sl,q1,_⟩,_,_⟩:=I1.hok a _ ea;exact⟨vs,sl,q1⟩
 obtain⟨vs,sl,q1⟩:=hrec;have J:Jr s1.heap a { cls:=.ref C,dict:=some d,data:=.fields vs,slots:=sl } C (some od):=⟨q1,rfl,rfl,hod⟩
 have hr:=r f;rw[l] at hr;cases hm:mA f with
 |none=>rw[hm] at hr;exact hr.elim
 |some u =>
  rw[hm] at hr;have ru:=hr;have hh:Ks X.K C=true:=by
   obtain⟨cd,hc,_,hd'⟩:=G.cls;unfold Ks;rw[hc];exact hd'
  exact getE I1.kIn J G (W.findObj_own hh G.tk rfl (by rw[hlk,hm])) (q8a ru) ⟨v,H1,I1.tok _,ru,q⟩
def sEfld(K:Ai)(ta tv:TE)(f:Str):TS:=fun D σ H=>tv σ H fun y H1=>ta σ H1 fun x H2=>∃a C,x=.ref a/\ESet K C f /\
 ((H2 a=some (ExN (.ref C) none a)/\∀d,H2 d=none->d≠a->D.nx σ (upd (upd (upd H2 d (XdO d [])) a (ExN (.ref C) (some d) a)) d (XdO d [(f,y)]))) \/
  ∃d fs,H2 a=some (ExN (.ref C) (some d) a)/\H2 d=some (XdO d fs)/\fs.length<1000/\D.nx σ (upd H2 d (XdO d (putF f y fs))))
theorem z1o(K:Ai)(hK:X.K=K)(ha:PE X o ta)(hv:PE X value tv)(hs:Jp value (some (.Attribute o f pos')) pos.line X.env=pure false:=by rfl):PS X (.Assign [.Attribute o f pos'] value pos) (sEfld K ta tv f):=by
 subst hK;intro pins s σ H D I h;refine Ll (thn (hv pins s σ H _ I h) fun u s1 ⟨y,H1,I1,ry,q⟩=>thn (ha pins s1 σ H1 _ I1 q) fun ov s2 ⟨x,H2,I2,rx,a,C,ex,S,q2⟩=>?_) hs;subst ex;obtain rfl:ov=Value.ref a:=rx;rcases q2 with⟨hE,q2⟩|⟨d,fs,hE,hd,hl,q2⟩
 ·exact z5k I2 hE S ry fun d s3 hn hne I3=>⟨σ,_,I3,q2 d hn hne⟩
 ·exact z5j I2 hE hd S hl ry fun s3 I3=>⟨σ,_,I3,q2⟩
end
open PySem PySem.Spec PyProof.Rows
structure EIsi (K:Ai) (C:Addr):Prop where
 cls:∃cd,Nv K C=some cd/\ExMro cd.mro/\cd.hasDict=true
 ga:Bj K (.ref C) "__getattribute__" = some (some (.builtin "BaseException.__getattribute__"))
 gh:Bj K (.ref C) "__getattr__" = some none
 ha:Bj K (.ref C) "__class__" = some (some (.builtin "object.__class__"))
 hn:Kt K (.builtin "object.__class__") "__get__" = some (some (.builtin "getset_descriptor.__get__"))
 htk:Rx K (.builtin "object.__class__")=some true
section
variable{prog:Program}{w:World}{A:Around}{E:Value->Ae->Prop}{s:Ae}{K:Ai}{x C:Addr}{ox:Obj}{od:Option Obj}
theorem EIsi.obj(G:EIsi K C):Py K C (.type "object")=some true:=by
 obtain⟨cd,hc,ho,_⟩:=G.cls;unfold Py;rw[hc,Ey,if_neg (by rw[(q6k ho).2];decide),(q6k ho).1]
theorem classE{fill:Bool}(X:K.In s.heap)(I:Jr s.heap x ox C od)(G:EIsi K C)(h:Q (.ref C) s):
  wpAny (model prog w) A (getAttrBy (.ref x) (.str "__class__" tk) fill expr) Q E s:=by
 obtain⟨hp,g,d,t,os⟩:=s;have L0:=I.type (M:=model prog w);have L1:=Ih (M:=model prog w) X G.ga;have L2:=Ih (M:=model prog w) X G.gh;obtain⟨cd,hc,ho,_⟩:=G.cls;have hf:Vi K C od "__class__" = some (.bind (.builtin "getset_descriptor.__get__") (.builtin "object.__class__")):=by
  unfold Vi;rw[hc,Ey,G.ha,Ey];dsimp only;rw[G.hn,Ey];dsimp only;rw[G.htk,Ey]
 have L3:=W.looks_find (M:=model prog w) X I hf;have SG:=Nd.ga;have sub:Ve (model prog w) hp (isInstance (.ref x) (.type "BaseException")) true:=I.type.andThen (Rj X (by unfold Py;rw[hc,Ey,if_neg (by rw[(q6k ho).2];decide),z5l ho]));have hk:builtinKind "BaseException.__getattribute__" = some .slot:=by decide +kernel
 have hsplit:splitId "BaseException.__getattribute__" = some ("BaseException", "__getattribute__"):=by decide +kernel
 refine Bm (Ab (L0.at (Ab (L1.at ?_))));refine Ab (show wpAny _ _ (Np (.ref C) "__getattr__") _ _ _ from L2.at ?_);have hx0:(expr&&onTheHeap (Value.builtin "BaseException.__getattribute__"))=false:=by cases expr<;>rfl
 unfold callGetattribute boundAndCalled;rw[hx0];refine Ab (Ew (Bm (show wpAny _ _ (bindSpecial _ _ >>= _) _ _ _ from ?_)));refine Ab (Ad (Gv (Gz SG.plain Qj (@Sk (model prog w) _ _ _ "BaseException.__getattribute__" "BaseException" "__getattribute__" (.ref x) [.str "__class__" tk] [] _ hk hsplit sub (Qx (.ref x) (.str "__class__" tk)) ?_))));refine Ab (Ad (Ab (Ad (Ab (L0.at (Ab (L3.at ?_)))))));refine Ab (Bm (Gv (W.class_get X I G.obj (Ad ?_))));exact Ad h
theorem q7g(G:EIsi K C):W.KitX K (.ref x) (.ref C) (fun h=>∃ox od,Jr h x ox C od) where
 ty:=fun _ _ _ ⟨_,_,I⟩=>I.type
 it:=fun _ _ X _=>by
  obtain⟨cdD,hcD,_⟩:=G.cls;unfold Nv at hcD;split at hcD
  ·rename_i c' d' cd' sl' ho;intro A' Q' E' s' k q;exact Ab (Ml (k _ _ (X _ _ ho)) (Ad q))
  ·cases hcD
 ne:=fun h tp dd its n sl X htp=>by
  obtain⟨cdD,hcD,_⟩:=G.cls;refine Bool.eq_false_iff.mpr fun q=>?_
  have e:=Value.ref.inj (beq_iff_eq.mp q);subst e;unfold Nv at hcD;split at hcD
  ·rename_i c' d' cd' sl' ho;have z:=(X _ _ ho).symm.trans htp;cases z
  ·cases hcD
 ca:=fun{prog w A E Q s} X ⟨ox,od,I⟩ k=>by
  refine Ab (wpAny_mkText (Ab (Ew (classE X I G ?_))));exact Ad k
end
open PySem PySem.Spec PyProof.Rows
def strKey(e:Iq):Bool:=match e.key with|.str _ _=>true|_=>false
def isNsK(K:Ai)(N:Addr):Bool:=match K.lookup N with|some ⟨_,_,.dict es _,_⟩=>es.toList.all strKey|_=>false
def nsMapK(K:Ai)(N:Addr)(name:Str):Option Value:=match K.lookup N with|some ⟨_,_,.dict es _,_⟩=>nsFind es name|_=>none
theorem ns_K{K:Ai}(e:isNsK K N=true)(h:Heap)(X:K.In h):h.Ns N (nsMapK K N):=by
 unfold isNsK at e;split at e
 ·rename_i c d es ep sl q;refine⟨_,es,ep,X _ _ q,rfl,fun x hx=>?_,fun name=>?_⟩
  ·have hx':=Oe.mp e x (Qp.mpr hx);unfold strKey at hx';split at hx'
   ·grind
   ·cases hx'
  ·unfold nsMapK;rw[q]
 ·cases e
theorem z0k{K:Ai}(e:Jc K N name=some (some v)):nsMapK K N name=some v:=by
 unfold Jc at e;unfold nsMapK;split at e
 ·rename_i c d es ep sl q;rw[q];dsimp only;split at e
  ·rename_i x hx;unfold nsFind findBy;rw[<- Mp,hx];exact Bw e
  ·split at e<;>cases e
 ·cases e
theorem z0l{K:Ai}(e:Jc K N name=some none):nsMapK K N name=none:=by
 unfold Jc at e;unfold nsMapK;split at e
 ·rename_i c d es ep sl q;rw[q];dsimp only;split at e
  ·cases e
  ·rename_i hx;unfold nsFind findBy;rw[<- Mp,hx];rfl
 ·cases e
theorem z1p{K:Ai}(l:K.lookup N=some ⟨oc,od,.dict es ep,sl⟩)(h:es.toList.all strKey=true):isNsK K N=true:=by
 unfold isNsK;rw[l];exact h
structure EBase (K:Ai) (D:Addr):Prop where
 ex:∃nm q N bs sn sub ab col dd k0 k1 k2 k3 k5,K.lookup D=some (Dh nm q D N bs bmV true sn sub ab col dd k0 k1 k2 k3 k5 "ValueError.__new__")/\isNsK K N=true/\Jc K N "__init__" = some none
theorem EBase.cls{K:Ai}(B:EBase K D):ECls K D bmV:=by
 obtain⟨nm,q,N,bs,sn,sub,ab,col,dd,k0,k1,k2,k3,k5,lk,_⟩:=B.ex;exact⟨⟨nm,q,N,bs,true,sn,sub,ab,col,dd,k0,k1,k2,k3,k5,_,lk⟩,by decide⟩
theorem EBase.tail{K:Ai}(B:EBase K D)(h:Heap)(X:K.In h):Qi h bmV (.ref D::bmV):=by
 obtain⟨nm,q,N,bs,sn,sub,ab,col,dd,k0,k1,k2,k3,k5,lk,hn,hi⟩:=B.ex;exact .own (X _ _ lk) (ns_K hn h X) (z0l hi) .base
structure ELaw (K:Ai) (C D fI:Addr):Prop where
 ex:∃nm q N bs sn sub ab col dd k0 k1 k2 k3 k5,K.lookup C=some (Dh nm q C N bs (.ref D::bmV) true sn sub ab col dd k0 k1 k2 k3 k5 "ValueError.__new__")/\isNsK K N=true/\Jc K N "__init__" = some (some (.ref fI))
 fn:∃oI,K.lookup fI=some oI/\oI.cls=.type "function"
 kp:Ej K (.ref C)=true
section
variable{K:Ai}{C D fI:Addr}
theorem ELaw.mk_(L:ELaw K C D fI)(B:EBase K D):EMk K C fI (.ref D::bmV):=by
 obtain⟨nm,q,N,bs,sn,sub,ab,col,dd,k0,k1,k2,k3,k5,lk,hn,hi⟩:=L.ex;exact⟨⟨nm,q,N,bs,true,sn,sub,ab,col,dd,k0,k1,k2,k3,k5,nsMapK K N,lk,ns_K hn,z0k hi⟩,fun h X=>B.tail h X,L.fn,L.kp⟩
theorem ELaw.cls(L:ELaw K C D fI):ECls K C (.ref D::bmV):=by
 obtain⟨nm,q,N,bs,sn,sub,ab,col,dd,k0,k1,k2,k3,k5,lk,_⟩:=L.ex;exact⟨⟨nm,q,N,bs,true,sn,sub,ab,col,dd,k0,k1,k2,k3,k5,_,lk⟩,by rw[Kd,show bmV.contains (.type "BaseException")=true from by decide,Sj]⟩
theorem ELaw.sub(L:ELaw K C D fI):SubX K (.ref C) D:=⟨C,_,rfl,L.cls,by simp⟩
theorem ELaw.clsIn(L:ELaw K C D fI):∃cd,Nv K C=some cd/\ExMro cd.mro/\cd.hasDict=true:=by
 obtain⟨nm,q,N,bs,sn,sub,ab,col,dd,k0,k1,k2,k3,k5,lk,_⟩:=L.ex;unfold Nv;rw[lk];exact⟨_,rfl,⟨[C,D],rfl⟩,rfl⟩
theorem ELaw.set(L:ELaw K C D fI)(sa:Bj K (.ref C) "__setattr__" = some (some (.builtin "object.__setattr__")))(tk:Bj K (.ref C) f=some none):ESet K C f:=⟨L.clsIn,sa,tk⟩
theorem ELaw.get(L:ELaw K C D fI)(ga:Bj K (.ref C) "__getattribute__" = some (some (.builtin "BaseException.__getattribute__")))(gh:Bj K (.ref C) "__getattr__" = some none)(tk:Bj K (.ref C) f=some none):EGet K C f:=⟨L.clsIn,ga,gh,tk⟩
end
open PySem PySem.Spec PyProof.Rows
structure CalE (P:Program) (w:World) (K:Ai) (mg:Str->Option Value) (base:Heap) (x:Str) (C:Addr) (k:Nat) (ps:List Str) (sp:Sp):Prop where
 ex:∃fI fd bm,EMk K C fI bm/\FnOk P w K mg base CX0 k fI fd ps sp/\Binds K fd ps []
 at_:mg x=some (.ref C)
 sz:ps.length<=100
section
variable{X:Cx}{J:Addr->St->Hp->Prop}{k j:Nat}{C:Addr}{ps:List Str}{sp:Sp}{x:Str}{np cpos pos:Pos}{e₀:Expr}{es:List Expr}{t:TA}
theorem ps_rs(F:CalE X.prog X.w X.K X.mg X.base x C k ps sp)(hr:Room j X.A)(hx:AccX X J)(hc:X.calm=true)(ha:PA X (e₀::es) t)(hjk:k+1<=j:=by decide)(hg:Gl X x:=by rfl)(hdb:(x==("__debug__" : Str))=false:=by decide)(he:Ba (e₀::es) X.env=(false,eval e₀ X.env)::Ba es X.env:=by rfl)(hpl:(Dq cpos (Ba es X.env)).any (·.1)=false:=by rfl):
  PS X (.Raise (some (.Call (.Name x np) (e₀::es) [] cpos)) none pos) (tRaise C sp J t):=by
 obtain⟨fI,fd,bm,M,Fn,hb⟩:=F.ex;exact z8b M Fn (hr.mono hjk) hb hx hc hg F.at_ ha F.sz hdb he hpl
end
def spIni1(C:Addr)(f:Str):Sp:=fun vs H Q _=>∃ea v,vs=[.ref ea,v]/\H ea=some (ExN (.ref C) none ea)/\(∃n:Nat,v=.int (n:Int)/\n<=10^12)/\∀d,H d=none->d≠ea->Q .non (upd (upd (upd H d (XdO d [])) ea (ExN (.ref C) (some d) ea)) d (XdO d [(f,v)]))
structure Rfd (H:Hp) (ea C:Addr) (f:Str) (v:V):Prop where
 ex:∃d,H ea=some (ExO (.ref C) (some d) ea)/\H d=some (XdO d [(f,v)])
theorem raised1(hd:upd H1 ea (ExN (.ref C) none ea) d=none)(hne:d≠ea):
  ∃dd,(upd (upd (upd (upd H1 ea (ExN (.ref C) none ea)) d (XdO d [])) ea (ExN (.ref C) (some d) ea)) d (XdO d [(f,v)])) ea=some (ExN (.ref C) dd ea) /\
   Rfd (upd (upd (upd (upd (upd H1 ea (ExN (.ref C) none ea)) d (XdO d [])) ea (ExN (.ref C) (some d) ea)) d (XdO d [(f,v)])) ea (ExO (.ref C) dd ea)) ea C f v:=by
 refine⟨some d,?_,d,?_,?_⟩
 ·rw[q0c (Bo hne),q0b]
 ·rw[q0b]
 ·rw[q0c hne,q0b]
structure Ef (K:Ai) (mg:Str->Option Value) (x:Str) (C D:Addr) (qual:Str) (st:Stmt) (ps:List Str):Prop where
 ex:∃f fd mc,Fun K "__init__" qual st f fd/\ELaw K C D f/\EBase K D/\EIni K D mc/\Binds K fd ps []
 at_:mg x=some (.ref C)
theorem Ef.cal{K:Ai}{st:Stmt}(F:Ef K mg x C D qual st ps)(S:FnScope N ps (defScope st))(len:∀vs H Q E,sp vs H Q E->vs.length=ps.length)(hsz:ps.length<=100)(hbody:∀(mc:Value) (f:Addr) (cdv:Value) (A:Around) (outer:List Env) (s:Ae) (H:Hp) (vs:List V) (Q:VK) (E:XK),ELow K C (.ref D::bmV)->EIni K D mc->Room k (A.deeper (Ga qual (defScope st) s.heap.objs.size f cdv))->sp vs H Q E ->
   ∃t,PSs (cxOf CX0 P w K mg base N qual (defScope st) f cdv A outer s H E).nox (defBody st) t/\t { nx:=fun _ H'=>Q .non H',rt:=Q } (start N vs) H):CalE P w K mg base x C (k+1) ps sp:=by
 obtain⟨f,fd,mc,Fn,L,B,I,hb⟩:=F.ex;exact⟨⟨f,fd,_,L.mk_ B,Fn.ok S len fun cdv A outer s H vs Q E hr h=>hbody mc f cdv A outer s H vs Q E (L.mk_ B).low I hr h,hb⟩,F.at_,hsz⟩
open PySem PySem.Spec PyProof.Rows
structure Err (H:Hp) (a C:Addr):Prop where
 ex:∃dd,(H a=some (ExO (.ref C) dd a)\/H a=some (ExN (.ref C) dd a))/\(dd=none\/∃d fs,dd=some d/\H d=some (XdO d fs))
theorem Rfd.err(r:Rfd H ea C f v):Err H ea C:=by
 obtain⟨d,h1,h2⟩:=r.ex;exact⟨some d,.inl h1,.inr ⟨d,_,rfl,h2⟩⟩
theorem Rfd.same(r:Rfd H ea C f v)(sm:∀b o,H b=some o->H' b=some o):Rfd H' ea C f v:=by
 obtain⟨d,h1,h2⟩:=r.ex;exact⟨d,sm _ _ h1,sm _ _ h2⟩
theorem Err.same(r:Err H ea C)(sm:∀b o,H b=some o->H' b=some o):Err H' ea C:=by
 obtain⟨dd,h1,h2⟩:=r.ex;refine⟨dd,h1.imp (sm _ _) (sm _ _),?_⟩;rcases h2 with h2|⟨d,fs,h2,h3⟩
 ·exact .inl h2
 ·exact .inr ⟨d,fs,h2,sm _ _ h3⟩
theorem q6l:∀{cs:List Addr} {us:List Value},Vals (cs.map V.ref) us->us=cs.map Value.ref
 |[],_,.nil=>rfl
 |c::cs,_,.cons r t=>by
  have h:_=Value.ref c:=r;rw[h,q6l t,Ak]
section
variable{X:Cx}
theorem q9f(K:Ai)(hK:X.K=K):CallR X (.builtin "isinstance") (fun xs H Q=>∃a C b,(∃c,xs=[.ref a,c]/\((∃D,c=.ref D/\Gs K (.ref C) (.ref D)=some b)\/(∃n,c=.ty n/\Gs K (.ref C) (.type n)=some b)\/∃(T:Addr) (cs:List Addr),c=.ref T/\SqT K H T (cs.map V.ref)/\Ke K (.ref C) (cs.map Value.ref)=some b))/\Err H a C/\EIsi K C/\Q (.bl b) H):=by
 subst hK;intro pins s σ H xs us Q I r h;obtain⟨a,C,b,⟨c,rfl,hc⟩,⟨dd,ha,hdd⟩,G,q⟩:=h;obtain⟨u,v,rfl,ru,rv⟩:=r.two;obtain rfl:u=Value.ref a:=ru;have hrec:∃ox od,Jr s.heap a ox C od:=by
  have hr:∃vs sl,s.heap.get? a=some { cls:=.ref C,dict:=dd,data:=.fields vs,slots:=sl }:=by
   rcases ha with ea|ea
   ·obtain⟨⟨vs,sl,q1,_⟩,_,_⟩:=I.hok a _ ea;exact⟨vs,sl,q1⟩
   ·obtain⟨⟨vs,sl,q1,_⟩,_,_⟩:=I.hok a _ ea;exact⟨vs,sl,q1⟩
  obtain⟨vs,sl,q1⟩:=hr;rcases hdd with rfl|⟨d,fs,rfl,hd⟩
  ·exact⟨_,none,q1,rfl,rfl,trivial⟩
  ·obtain⟨_,⟨od,hod⟩,_⟩:=I.hok d _ hd;exact⟨_,some od,q1,rfl,rfl,hod⟩
 rcases hc with⟨D,rfl,e⟩|⟨n,rfl,e⟩|⟨T,cs,rfl,hT,e⟩
 ·obtain rfl:v=Value.ref D:=rv;exact Fu (q7g G) I.kIn hrec e (fun z=>nomatch z) fun tk=>⟨.bl b,H,I.tok _,rfl,q⟩
 ·obtain rfl:v=Value.type n:=rv;exact Fu (q7g G) I.kIn hrec e (fun z=>nomatch z) fun tk=>⟨.bl b,H,I.tok _,rfl,q⟩
 ·obtain rfl:v=Value.ref T:=rv;obtain⟨its,r',⟨o,ho,oc,n,od⟩,_⟩:=I.tuple hT;rw[q6l r'] at od;obtain⟨c0,d0,dt0,sl0⟩:=o;subst oc;subst od;exact W.kia_tup (q7g G) I.kIn hrec ho e (fun z=>nomatch z) fun tk=>⟨.bl b,H,I.tok _,rfl,q⟩
end
open PySem PySem.Spec PyProof.Rows
abbrev TF:=St->Hp->(Str->Hp->Prop)->Prop
def PF1(X:Cx)(e:Expr)(t:TF):Prop:=∀(pins:List (Addr×Obj)) (s:Ae) (σ:St) (H:Hp) (R:Str->Hp->Prop),Inv X pins σ H s->t σ H R ->
 wpAny (model X.prog X.w) X.A (eval e X.env) (fun v s1=>∃y k H1,v=.str y k/\Inv X pins σ H1 s1/\R y H1) X.xe s
def PFs(X:Cx):List Expr->List TF->Prop
 |[],[]=>True
 |e::es,t::ts=>PF1 X e t/\PFs X es ts
 |_,_=>False
def tFs:List TF->Str->St->Hp->VK->Prop
 |[],acc,_,H,Q=>acc.length<=sizeLine/\Q (.str acc) H
 |t::ts,acc,σ,H,Q=>t σ H fun y H1=>(acc++y).length<=sizeLine/\tFs ts (acc++y) σ H1 Q
section
variable{X:Cx}
theorem z8c{σ:St}:∀{ts:List TF} {es:List Expr} {acc:Str} {H:Hp} {s:Ae},PFs X es ts->Inv X pins σ H s->tFs ts acc σ H Q ->
  Joins (model X.prog X.w) X.A X.xe (evalEach es X.env) acc (fun out s₁=>out.length<=sizeLine/\EP X pins σ Q (.str out s₁.toks) { s₁ with toks:=s₁.toks+1 }) s:=by
 intro ts;induction ts with
 |nil =>
  intro es acc H s hp I h;cases es with
  |nil=>exact⟨h.1,.str acc,H,I.tok _,⟨_,rfl⟩,h.2⟩
  |cons e es=>exact False.elim hp
 |cons t ts ih =>
  intro es acc H s hp I h;cases es with
  |nil=>exact False.elim hp
  |cons e es =>
   refine Br (hp.1 pins s σ H _ I h) (fun v s1 z=>?_) fun _ _ z=>z;obtain⟨y,k,H1,ev,I1,hz,q⟩:=z;exact⟨y,k,ev,hz,ih hp.2 I1 q⟩
theorem z5m{v₁ v₂:Expr}{rest:List Expr}{pos:Pos}{t₁ t₂:TF}{ts:List TF}(h1:PF1 X v₁ t₁)(h2:PF1 X v₂ t₂)(h3:PFs X rest ts):PE X (.JoinedStr (v₁::v₂::rest) pos) (fun σ H Q=>tFs (t₁::t₂::ts) Ou σ H Q):=by
 intro pins s σ H Q I h;exact wpAny_JoinedStr (z8c (ts:=t₁::t₂::ts) ⟨h1,h2,h3⟩ I h)
theorem z5n:PFs X [] []:=trivial
theorem q4w{e:Expr}{es:List Expr}{t:TF}{ts:List TF}(h:PF1 X e t)(r:PFs X es ts):PFs X (e::es) (t::ts):=⟨h,r⟩
def tFv(te:TE):TF:=fun σ H R=>te σ H fun v H1=>(∃x,v=.str x/\x.length<=sizeLine/\R x H1)\/∃n:Nat,v=.int (n:Int)/\n<=10^12/\R (Ag (toString (n:Int))) H1
theorem z5o{n:Nat}(h:n<=10^12):(n:Int).natAbs.log2<1920:=by
 rw[Int.natAbs_natCast];by_cases h0:n=0
 ·subst h0;decide
 ·rw[Nat.log2_lt h0];exact Mr h (Bf (by decide:10^12<2^64) (Nat.pow_le_pow_right (by decide) (by decide)))
theorem pf_val{e:Expr}{pos:Pos}{te:TE}(he:PE X e te):PF1 X (.FormattedValue e (-1) none pos) (tFv te):=by
 intro pins s σ H R I h;refine Qy (thn (he pins s σ H _ I h) fun u s1 ⟨v,H1,I1,rv,q⟩=>?_);rcases q with⟨x,rfl,hz,q⟩|⟨n,rfl,hn,q⟩
 ·obtain⟨t,rfl⟩:=rv;exact formatField_str (fun t' tk=>⟨x,t',H1,rfl,I1.tok _,q⟩) hz
 ·obtain⟨t,rfl⟩:=rv;exact formatField_int_small (z5o hn) ⟨_,_,H1,rfl,I1.tok _,q⟩
theorem z1q:PF1 X (.Constant (.str c) k pos) (fun _ H R=>R c H):=by
 intro pins s σ H R I h;exact thn (q1f pins s σ H (fun v H1=>∃y,v=.str y/\R y H1) I ⟨c,rfl,h⟩) fun u s1 ⟨v,H1,I1,rv,y,ev,q⟩=>by
  subst ev;obtain⟨t,rfl⟩:=rv;exact⟨y,t,H1,rfl,I1,q⟩
end
open PySem PySem.Spec PyProof.Rows
structure MCalX (P:Program) (w:World) (K:Ai) (mg:Str->Option Value) (base:Heap) (C:Addr) (m:Str) (k:Nat) (ps:List Str) (sp:Sp):Prop where
 ex:∃f fd,FnOk P w K mg base (CXR P w) k f fd ps sp/\Meth K C m f/\Binds K fd ps []
 cl:Cls K C
theorem Mf.calX{K:Ai}{st:Stmt}(D:Mf K C m qual st ps)(cl:Cls K C)(S:FnScope N ps (defScope st))(len:∀vs H Q E,sp vs H Q E->vs.length=ps.length)(hbody:∀(f:Addr) (cdv:Value) (A:Around) (outer:List Env) (s:Ae) (H:Hp) (vs:List V) (Q:VK) (E:XK),Room k (A.deeper (Ga qual (defScope st) s.heap.objs.size f cdv))->sp vs H Q E ->
   ∃t,PSs (cxX P w K mg base N qual (defScope st) f cdv A outer s H E) (defBody st) t/\t { nx:=fun _ H'=>Q .non H',rt:=Q } (start N vs) H):MCalX P w K mg base C m (k+1) ps sp:=by
 obtain⟨f,fd,F,hm,hb⟩:=D.ex;exact⟨⟨f,fd,F.okX S len fun cdv A outer s H vs Q E hr h=>hbody f cdv A outer s H vs Q E hr h,hm,hb⟩,cl⟩
structure KCalX (P:Program) (w:World) (K:Ai) (mg:Str->Option Value) (base:Heap) (C:Addr) (x:Str) (k:Nat) (ps:List Str) (sp:Sp):Prop where
 ex:∃f fd,FnOk P w K mg base (CXR P w) k f fd ps sp/\Mk K C f/\Binds K fd ps []/\Binds K fd ps [.bool false]
 at_:mg x=some (.ref C)
 cl:Cls K C
theorem Kf.calX{K:Ai}{st:Stmt}(D:Kf K mg C x qual st ps)(S:FnScope N ps (defScope st))(len:∀vs H Q E,sp vs H Q E->vs.length=ps.length)(hbody:∀(f:Addr) (cdv:Value) (A:Around) (outer:List Env) (s:Ae) (H:Hp) (vs:List V) (Q:VK) (E:XK),Room k (A.deeper (Ga qual (defScope st) s.heap.objs.size f cdv))->sp vs H Q E ->
   ∃t,PSs (cxX P w K mg base N qual (defScope st) f cdv A outer s H E) (defBody st) t/\t { nx:=fun _ H'=>Q .non H',rt:=Q } (start N vs) H):KCalX P w K mg base C x (k+1) ps sp:=by
 obtain⟨f,fd,oc,od,dV,kV,doc,pm,an,cdv,ct,osl,rfl,lk,hcd,M,b1,b2⟩:=D.ex;refine⟨⟨f,_,z7d lk hcd S len fun A outer s H vs Q E hr hsp=>?_,M,b1,b2⟩,D.at_,D.cl⟩;obtain⟨t,h,q⟩:=hbody f cdv A outer s H vs Q E hr hsp;exact⟨t,PSs.wishX (fun e s' z=>leaves z) h,q⟩
theorem z5p{K:Ai}{H:Hp}:∀xs:List Str,Dts K H (xs.map V.str) (xs.map PyData.str)
 |[]=>.nil
 |x::xs=>.cons (.str x) (z5p xs)
theorem z5q:∀xs:List Str,Mu (xs.map PyData.str)=true
 |[]=>rfl
 |x::xs=>by
  rw[Ak];unfold Mu PyData.showable;rw[z5q xs];rfl
theorem z5r:∀xs:List Str,Ti (xs.map PyData.str)=false
 |[]=>rfl
 |x::xs=>by
  rw[Ak];unfold Ti PyData.hasDict;rw[z5r xs];rfl
theorem z5s:∀xs:List Str,Cd (xs.map PyData.str)<=2
 |[]=>by simp[Cd]
 |x::xs=>by
  have:=z5s xs;rw[Ak];simp only[Cd,Et];lia
theorem q9g:∀xs:List Str,(∀x∈xs,x.length<=100/\∀c∈x.cps.toList,c<16^8)->piled (Jl (xs.map PyData.str))<=1004*xs.length
 |[],_=>by simp[Jl,piled]
 |x::xs,h=>by
  have ih:=q9g xs fun y hy=>h y (Ar _ hy);obtain⟨h1,h2⟩:=h x Au;have h3:=StrLaws.reprText_len x h2;rw[Ak];unfold Jl;rw[piled_cons,Bk];show(reprText x).length+2+_<=_;lia
theorem q5p(x y:Str):(x++y).length=x.length+y.length:=TX.app_len x y
theorem q7h:(tupleText ts).length<=piled ts+10:=by
 unfold tupleText;rw[q5p,q5p];have h1:(Ag "(").length=1:=by decide +kernel
 have h2:(Qv ", " ts).length<=piled ts:=by
  cases ts with
  |nil=>show(Qv ", " []).length<=_;decide +kernel
  |cons t ts=>have:=join_length_add (t::ts) (by simp);lia
 have h3:∀b:Bool,(Ag (if b=true then ",)" else ")" : String)).length<=2:=by intro b;cases b<;>decide +kernel
 have h4:=h3 (ts.length==1);lia
section
variable{X:Cx}{k:Nat}
def tFt(K:Ai)(te:TE):TF:=fun σ H R=>te σ H fun v H1=>∃(a:Addr) (xs:List Str),v=.ref a/\SqT K H1 a (xs.map V.str)/\xs.length<=100/\(∀x∈xs,x.length<=100/\∀c∈x.cps.toList,c<16^8)/\∀y:Str,y.length<=200000->R y H1
theorem z5t(K:Ai)(hK:X.K=K)(hr:Room k X.A)(he:PE X e te):PF1 X (.FormattedValue e (-1) none pos) (tFt K te):=by
 subst hK;intro pins s σ H R I h;refine Qy (thn (he pins s σ H _ I h) fun u s1 ⟨v,H1,I1,rv,a,xs,ev,ha,hl,hx,q⟩=>?_);subst ev;obtain rfl:u=Value.ref a:=rv;obtain⟨as,rd⟩:=Dt.reads I1 (.tup ha (z5p xs)) (show RelV (.ref a) (.ref a) from rfl);have hu:=hr.un;have hd:(PyData.tuple (xs.map PyData.str)).depth<=3:=by
  have:=z5s xs;simp only[Et];lia
 have hz:(PyData.tuple (xs.map PyData.str)).shown.length<=200000:=by
  show(tupleText (Jl (xs.map PyData.str))).length<=_;have h1:=q7h (ts:=Jl (xs.map PyData.str));have h2:=q9g xs hx;lia
 refine formatField_of_reads rd (show Mu _=true from z5q xs) (fun z=>?_) hr.gd (by lia) (fun b o h=>h) (fun h' u tk hk=>⟨_,u,H1,rfl,I1.kept hk,q _ hz⟩) (Bi hz (TX.small (by lia)));rw[show(PyData.tuple (xs.map PyData.str)).hasDict=false from z5r xs] at z;cases z
end
end L2
namespace HM
open PySem PySem.Spec PyProof.Rows L2 TX SB
abbrev Mv:=Pth×Pth
section
variable{bl:Bool}
def tb(ms:List Mv):List Mv:=ms.reverse.map fun m=>(m.2,m.1)
end
def MT(H:Hp)(T:Addr)(m:Mv):Prop:=∃A B,H T=some (.tup [.ref A,.ref B])/\H A=some (.tup (vP m.1))/\H B=some (.tup (vP m.2))
abbrev Zm:=Addr×Mv
structure ML (H:Hp) (L:Addr) (zs:List Zm):Prop where
 at_:H L=some (.lst (zs.map fun z=>V.ref z.1))
 pr:∀z∈zs,MT H z.1 z.2
theorem MT.keep(h:MT H T m)(k:∀T xs,H T=some (.tup xs)->H' T=some (.tup xs)):MT H' T m:=let ⟨A,B,h1,h2,h3⟩:=h;⟨A,B,k _ _ h1,k _ _ h2,k _ _ h3⟩
theorem ML.same(h:ML H L zs)(s:Same H H'):ML H' L zs:=⟨s _ _ h.at_,fun z hz=>(h.pr z hz).keep fun T xs e=>s _ _ e⟩
theorem ML.fd(h:ML H L zs)(F:FeedAt H a b)(fd:Fd a b H H')(hL:L≠a):ML H' L zs:=⟨fd.at h.at_ hL,fun z hz=>(h.pr z hz).keep (tupFd F fd)⟩
theorem ML.nil(h:H L=some (.lst [])):ML H L []:=⟨h,fun _ z=>nomatch z⟩
theorem ML.cut(h:ML H L zs)(hL:H L'=none)(n:Nat):ML (upd H L' (.lst ((zs.map fun z=>V.ref z.1).drop n))) L' (zs.drop n) :=
 ⟨by rw[q0b,Jd],fun z hz=>(h.pr z (Ha hz)).keep fun T xs e=>by rw[q0c (q0j e hL)];exact e⟩
theorem ML.pre(h:ML H L zs)(hL:H L'=none)(n:Nat):ML (upd H L' (.lst ((zs.map fun z=>V.ref z.1).take n))) L' (zs.take n) :=
 ⟨by rw[q0b,Gu],fun z hz=>(h.pr z (Hb hz)).keep fun T xs e=>by rw[q0c (q0j e hL)];exact e⟩
end HM
namespace L2
open PySem PySem.Spec PyProof.Rows
theorem q7i(ho:s.heap.get? a=some o)(hc:o.ExactDict)(hd:o.data=.dict es ep)(hs:(a==Cw)=false)(hz:es.size<=sizeLine)(h:∀t t',Q (.int es.size t) { s with toks:=t' }):wpAny (model prog w) A (call (.builtin "len") [.ref a]) Q E s:=by
  have hT:s.TypeIs (.ref a) "dict" := ⟨o,ho,hc.1⟩
  have hz63:¬((es.size:Nat):Int)>=2^63:=by rw[Dl] at hz;lia
  refine Gv (Gz (by decide +kernel) entry_len ?_);have hck:checkBuiltinCall "len" ⟨[.ref a],[]⟩=pure ():=by
    first
      |exact checkBuiltinCall_of_none (by decide +kernel) (by decide +kernel) _
      |rfl
      |(unfold checkBuiltinCall;rfl)
  refine Tu hck ?_;refine Ab ?_;refine Ad (Ab (Cg hT Qk (Bu Qk hT PySem.F.entry_dict_len ?_ (PySem.F.args_dict_len_1 _))));refine Ab (Ab (Gq hT ?_));refine Ad ?_;show wpAny _ _ (do
      let __do_lift<-dictSize a;let __do_lift_1<-Nr a
      retInt (↑__do_lift + ↑__do_lift_1)) _ _ _
  unfold dictSize Nr;rw[hs];refine Ab (Ab (Cj ho hd (Ad ?_)));refine Ab (Ad ?_);have e0:((es.size:Nat):Int)+((0:Nat):Int)=es.size:=by lia
  rw[e0]
  wp_walk
  refine⟨_,rfl,?_⟩;have hn:¬((es.size:Nat):Int)<0:=by lia
  refine Ab (Bm ?_);refine Ad (Ab (Tt ?_));rw[if_neg hn,if_neg hz63]
  wp_walk
  exact h _ _
theorem z5u:CallR X (.builtin "len") (fun xs H Q=>∃d kvs,xs=[V.ref d]/\H d=some (.dT kvs)/\Q (.int kvs.length) H):=by
 intro pins s σ H xs us Q I r h;obtain⟨d,kvs,rfl,e,q⟩:=h;obtain⟨u,rfl,ru⟩:=vals1 r;cases ru;obtain⟨z,hd,xs,rel,dd⟩:=z2s I.hok e;obtain⟨o',es,ep,ho',hc,hdd,he,his,hn⟩:=dd;have hlen:es.size=kvs.length:=by
  have:=congrArg List.length he;rw[Ac,Em] at this;rw[this,Cz rel]
 refine q7i ho' hc hdd hd (by rw[hlen];exact z) fun t t'=>⟨.int kvs.length,H,I.tok _,⟨t,by rw[hlen]⟩,q⟩
section
variable{P:Program}{w:World}
def IsPairKey(P:Program)(w:World)(h:Heap)(k:List Key×Key)(a:Addr):Prop:=∃o n b v,h.get? a=some o/\o.cls=.type "tuple" /\ o.data=.seq #[.ref b,v] n/\IsTupleKey (mixKind P w) h k.1 b/\(mixKind P w).is k.2 v=true
theorem IsPairKey.typeIs{s:Ae}{k:List Key×Key}{a:Addr}(x:IsPairKey P w s.heap k a):s.TypeIs (.ref a) "tuple" := let ⟨o,_,_,_,ho,hc,_⟩:=x;⟨o,ho,hc⟩
theorem IsPairKey.inj{h:Heap}{a:Addr}{x y:List Key×Key}(hx:IsPairKey P w h x a)(hy:IsPairKey P w h y a):x=y:=by
 obtain⟨o,n,b,v,ho,_,hd,h1,h2⟩:=hx;obtain⟨o',n',b',v',ho',_,hd',h1',h2'⟩:=hy;obtain rfl:o=o':=Bw (ho.symm.trans ho');rw[hd] at hd';injection hd' with e1 _;have e2:=congrArg Array.toList e1;injection e2 with e3 e4;injection e3 with e3;injection e4 with e4 _;subst e3 e4;exact Ua (h1.inj h1') ((mixKind P w).inj _ _ _ h2 h2')
theorem IsPairKey.keeps{h h':Heap}{k:List Key×Key}{a d:Addr}{o:Obj}{es ep}(x:IsPairKey P w h k a)(ho:h.get? d=some o)(hd:o.data=.dict es ep)(hs:Ep d h h'):IsPairKey P w h' k a:=by
 obtain⟨o',n,b,v,ho',hc,hd',h1,h2⟩:=x;have hne:a≠d:=by
  rintro rfl;obtain rfl:o'=o:=Bw (ho'.symm.trans ho);rw[hd] at hd';exact nomatch hd'
 exact⟨o',n,b,v,(hs.2 a hne).trans ho',hc,hd',h1.keeps ho hd hs,h2⟩
def pairHash(P:Program)(w:World)(k:List Key×Key):Int:=reduceHash (Hc [Hj (mixKind P w) k.1,(mixKind P w).hash k.2])
variable{A:Around}{E:Value->Ae->Prop}{s:Ae}
theorem z5v{k:List Key×Key}{a:Addr}{Q:Int->Ae->Prop}(hu:A.units+1<cLine)(hk:IsPairKey P w s.heap k a)(h:Q (pairHash P w k) { s with toks:=s.toks+(k.1.length+3) }):
  wpAny (model P w) A (pyHash (.ref a)) Q E s:=by
 have hT:=hk.typeIs;obtain⟨o,n,b,v,ho,_,hd,h1,h2⟩:=hk;unfold pyHash;first|unfold pyHashByItsType|skip
 first|refine Ab (wpAny_cRoomFor_or (.inr (by lia)) ?_)|skip
 refine Ab (Hq hT Kq.lookup ?_);show wpAny _ _ (if (some (Value.builtin "tuple.__hash__")==some Value.none)=true then _ else _) Q E s;rw[if_neg (by rw[beq_builtin_none];exact Bn)];refine Ab (Hq hT Kq.lookup ?_);show wpAny _ _ (callSpecialIfBoundUnlessNone? (.ref a) "__hash__" _ >>= _) Q E s;refine Ab (wpAny_callSpecialIfBoundUnlessNone?_slot hT Kq (Bu Kq hT F.entry_tuple_hash ?_ (F.args_tuple_hash_1 _)));show wpAny _ _ (Iz (.ref a) >>= _) _ _ s;refine Ab (Mw ho hd ?_);refine Ab ?_;rw[<- Mx];refine Gf _
  (fun rest (c:Array Int) s'=>(rest=[.ref b,v]/\c.toList=[]/\s'=s)\/(rest=[v]/\c.toList=[Hj (mixKind P w) k.1]/\s'={ s with toks:=s.toks+(k.1.length+1) }) \/
   (rest=[]/\c.toList=[Hj (mixKind P w) k.1,(mixKind P w).hash k.2]/\s'={ s with toks:=s.toks+(k.1.length+2) }))
  _ ?_ ?_ _ _ (.inl ⟨rfl,rfl,rfl⟩)
 ·rintro x rest c s' (⟨e,hc,rfl⟩|⟨e,hc,rfl⟩|⟨e,_⟩)
  ·cases e;refine Ab (wpAny_pyHash_tuple (Dy (knd:=mixKind P w) hu) h1 ?_);have q:∀{x:Array Int},x=c.push (Hj (mixKind P w) k.1)->x.toList=[Hj (mixKind P w) k.1]:=fun e=>by rw[e];simp[hc]
   first
    |exact Ad (.inr (.inl ⟨rfl,q rfl,rfl⟩))
    |exact Ab (Ad (Ad (.inr (.inl ⟨rfl,q rfl,rfl⟩))))
  ·cases e;refine Ab ((mixKind P w).pyHash h2 ?_);have q:∀{x:Array Int},x=c.push ((mixKind P w).hash k.2)->x.toList=[Hj (mixKind P w) k.1,(mixKind P w).hash k.2]:=fun e=>by rw[e];simp[hc]
   first
    |exact Ad (.inr (.inr ⟨rfl,q rfl,rfl⟩))
    |exact Ab (Ad (Ad (.inr (.inr ⟨rfl,q rfl,rfl⟩))))
  ·cases e
 ·rintro c s' (⟨e,_⟩|⟨e,_⟩|⟨_,hc,rfl⟩)
  ·cases e
  ·cases e
  show wpAny _ _ (retInt (Hc c.toList)) _ _ _;rw[hc];refine wpAny_ret_mkInt ?_;show wpAny _ _ (if (decide (-(2:Int)^63<=Hc [Hj (mixKind P w) k.1,(mixKind P w).hash k.2])&&decide (Hc [Hj (mixKind P w) k.1,(mixKind P w).hash k.2]<2^63))=true then _ else _) Q E _;unfold pairHash reduceHash at h;split
  ·rename_i hr;rw[if_pos hr] at h;exact Ad h
  ·rename_i hr;rw[if_neg hr] at h;exact Ab (Gi (Ad h))
theorem q9h{x y:List Key×Key}{a b:Addr}{R:Fin->Ae->Prop}(hu:A.units<cLine)(hx:IsPairKey P w s.heap x a)(hy:IsPairKey P w s.heap y b)(h:R (.done (.ret (.bool (decide (x=y))))) s):
  wpAny (model P w) A (Cs.«tuple.__eq__» ⟨[.ref a,.ref b],[]⟩) R E s:=by
 have hTb:=hy.typeIs;obtain⟨oa,na,a1,v1,hoa,_,hda,ha1,hv1⟩:=hx;obtain⟨ob,nb,b1,v2,hob,_,hdb,hb1,hv2⟩:=hy;show wpAny _ _ (isInstance (.ref b) (.type "tuple") >>= _) _ _ s;refine Ab (Ge hTb Li ?_);simp only[Dj,Bb,if_false];refine Ab (Mw hoa hda ?_);refine Ab (Mw hob hdb ?_);refine Ab ?_;refine Gf _
  (fun rest r s'=>r.1=none/\s'=s/\((rest=[(.ref a1,.ref b1),(v1,v2)])\/(rest=[(v1,v2)]/\x.1=y.1)\/(rest=[]/\x=y)))
  _ ?_ ?_ _ _ ⟨rfl,rfl,.inl rfl⟩
 ·rintro⟨u,v⟩ rest r s' ⟨hr,rfl,e|⟨e,e1⟩|⟨e,_⟩⟩
  ·cases e;refine Ab (wpAny_eqBool_tuple hu ha1 hb1 ?_);by_cases hk:x.1=y.1
   ·rw[decide_eq_true hk];simp only[Dj,Bb,if_false];exact Ad ⟨rfl,rfl,.inr (.inl ⟨by trivial,hk⟩)⟩
   ·rw[decide_eq_false hk];simp only[Mo,if_true];have hf:decide (x=y)=false:=decide_eq_false fun z=>hk (by rw[z]);rw[hf] at h;exact Ab (Ad (Ad (Ad h)))
  ·cases e;refine Ab ((mixKind P w).eqBool (a:=x.2) (b:=y.2) hv1 hv2 ?_);by_cases hk:x.2=y.2
   ·rw[decide_eq_true hk];simp only[Dj,Bb,if_false];exact Ad ⟨rfl,rfl,.inr (.inr ⟨by trivial,Ua e1 hk⟩)⟩
   ·rw[decide_eq_false hk];simp only[Mo,if_true];have hf:decide (x=y)=false:=decide_eq_false fun z=>hk (by rw[z]);rw[hf] at h;exact Ab (Ad (Ad (Ad h)))
  ·cases e
 ·rintro⟨r1,r2⟩ s' ⟨hr,rfl,e|⟨e,_⟩|⟨_,e⟩⟩
  ·cases e
  ·cases e
  simp only at hr;subst hr;refine Ad ?_;rw[decide_eq_true e] at h;exact h
theorem x0o{x y:List Key×Key}{a b:Addr}{Q:Bool->Ae->Prop}(hu:A.units+1<cLine)(hx:IsPairKey P w s.heap x a)(hy:IsPairKey P w s.heap y b)(h:Q (decide (x=y)) s):
  wpAny (model P w) A (eqBool (.ref a) (.ref b)) Q E s:=by
 unfold eqBool;try with_reducible refine Bm ?_
 show wpAny _ _ (if (Value.ref a==Value.ref b)=true then _ else _) Q E s;by_cases hab:(Value.ref a==Value.ref b)=true
 ·rw[if_pos hab];have e:a=b:=by have:=eq_of_beq hab;injection this
  subst e;obtain rfl:=hx.inj hy;exact Ab (Gi (Ad (by simpa using h)))
 ·rw[if_neg hab];exact Ab (wpAny_richCompare_same_room (op:=.Eq) hx.typeIs hy.typeIs Me
   (Bu Me hx.typeIs F.entry_tuple_eq (q9h (Dy (knd:=mixKind P w) hu) hx hy ⟨_,rfl,(fun e=>nomatch e),Dm h⟩) (F.args_tuple_eq_2 _ _)) (by lia))
theorem z0m{n:Nat}{ks:List Key}{a:Addr}{Q:Bool->Ae->Prop}(hk:IsTupleKey (mixKind P w) s.heap ks a)(h:Q true s):wpAny (model P w) A (Sl (n+1) (.ref a)) Q E s:=by
 have hT:=hk.typeIs;obtain⟨o,items,m,ho,_,hd,hi⟩:=hk;unfold Sl;refine Ab (Hq hT Me.lookup ?_);show wpAny _ _ (isInstance (.ref a) (.type "tuple") >>= _) _ _ s;refine Ab (Ge hT Li ?_);simp only[Dj,Bb,if_false];refine Ab (Qg ho hd ?_);refine Ab ?_;show wpAny _ _ (forIn items _ _) _ _ s;rw[<- Mx];refine Gf _ (fun rest r s'=>r.1=none/\s'=s/\∀v∈rest,carriedByValue v=true) _ ?_ ?_ _ _ ⟨rfl,rfl,hi.byValue⟩
 ·rintro v rest r s' ⟨hr,rfl,hall⟩;rw[Tj _ (hall v Au)];refine Ab (Ad ?_);simp only[Dj,Bb,if_false];exact Ad ⟨rfl,rfl,fun u hu'=>hall u (Ar _ hu')⟩
 ·rintro⟨r1,r2⟩ s' ⟨hr,rfl,_⟩;simp only at hr;subst hr;exact Ad h
theorem z2x{k:List Key×Key}{a:Addr}{Q:Bool->Ae->Prop}(hk:IsPairKey P w s.heap k a)(h:Q true s):wpAny (model P w) A (Sl 8 (.ref a)) Q E s:=by
 have hT:=hk.typeIs;obtain⟨o,m,b,v,ho,_,hd,h1,h2⟩:=hk;unfold Sl;refine Ab (Hq hT Me.lookup ?_);show wpAny _ _ (isInstance (.ref a) (.type "tuple") >>= _) _ _ s;refine Ab (Ge hT Li ?_);simp only[Dj,Bb,if_false];refine Ab (Qg ho hd ?_);refine Ab ?_;show wpAny _ _ (forIn #[Value.ref b,v] _ _) _ _ s;rw[<- Mx];refine Gf _ (fun rest r s'=>r.1=none/\s'=s/\(rest=[.ref b,v]\/rest=[v]\/rest=[])) _ ?_ ?_ _ _ ⟨rfl,rfl,.inl rfl⟩
 ·rintro u rest r s' ⟨hr,rfl,e|e|e⟩
  ·cases e;refine Ab (z0m h1 ?_);simp only[Dj,Bb,if_false];exact Ad ⟨rfl,rfl,.inr (.inl (by trivial))⟩
  ·cases e;rw[Tj _ ((mixKind P w).byValue _ _ h2)];refine Ab (Ad ?_);simp only[Dj,Bb,if_false];exact Ad ⟨rfl,rfl,.inr (.inr (by trivial))⟩
  ·cases e
 ·rintro⟨r1,r2⟩ s' ⟨hr,rfl,_⟩;simp only at hr;subst hr;exact Ad h
def pairKind(P:Program)(w:World):HeapKind P w (List Key×Key) where
 is:=IsPairKey P w
 hash:=pairHash P w
 draws:=fun k=>k.1.length+3
 room:=fun A=>A.units+1<cLine
 inj:=fun hx hy=>hx.inj hy
 keeps:=fun x ho hd hs=>x.keeps ho hd hs
 pyHash:=fun hu hk h=>z5v hu hk h
 eqBool:=fun hu hx hy h=>x0o hu hx hy h
 quiet:=fun hk h=>z2x hk h
end
open PySem PySem.Spec PyProof.Rows
abbrev PKey:=List Key×Key
def hasP(ks:List (PKey×Addr))(k:PKey):Bool:=ks.any fun x=>decide (x.1=k)
def entP(ks:List (PKey×Addr)):List (PKey×Addr×Value):=ks.map fun x=>(x.1,x.2,.bool true)
def PdO(P:Program)(w:World)(d:Addr)(ks:List (PKey×Addr)):HO:=.ext fun h=>∃o es ep,h.get? d=some o/\o.ExactDict/\o.data=.dict es ep/\es.toList=(entP ks).map (Ln (pairKind P w))/\((entP ks).map (·.1)).Nodup
def PrK(H:Hp)(k:PKey)(a:Addr):Prop:=∃c,H a=some (.tup [.ref c,kV k.2])/\H c=some (.tup (k.1.map kV))
structure DPr (P:Program) (w:World) (H:Hp) (d:Addr) (ks:List (PKey×Addr)):Prop where
 at_:H d=some (PdO P w d ks)
 sys:(d==Cw)=false
 len:ks.length<=sizeLine
 pk:∀x∈ks,PrK H x.1 x.2
section
variable{P:Program}{w:World}{H:Hp}{h:Heap}{d a:Addr}{ks:List (PKey×Addr)}{k:PKey}
theorem PrK.of(ok:HOk P w H h)(e:PrK H k a):(pairKind P w).is h k a:=by
 obtain⟨c,e1,e2⟩:=e;obtain⟨_,its,r,o,h1,h2,n,h3⟩:=(show ObjOk P w H h a (.tup [.ref c,kV k.2]) from ok a _ e1)
 cases r with
 |cons r1 r =>
 cases r with
 |cons r2 r =>
 cases r;cases(show _=Value.ref c from r1);exact⟨o,n,c,_,h1,h2,h3,q3x ok e2,z0c r2⟩
theorem DPr.of(x:DPr P w H d ks)(ok:HOk P w H h):h.DictOfH (pairKind P w) d (entP ks):=by
 obtain⟨⟨o,es,ep,h1,h2,h3,h4,h5⟩,_⟩:=(show ObjOk P w H h d (PdO P w d ks) from ok d _ x.at_)
 refine⟨o,es,ep,h1,h2,h3,h4,fun y hy=>?_,h5⟩;obtain⟨z,hz,rfl⟩:=Ah.mp hy;exact(x.pk z hz).of ok
theorem q6m:(atKey (entP ks) k).isSome=hasP ks k:=by
 unfold atKey entP hasP;rw[Ko];induction ks with
 |nil=>rfl
 |cons x xs ih =>
  rw[Ak,Gp,Rh];cases e:decide (x.1=k)
  ·rw[<- ih];simp[e]
  ·simp[e]
end
theorem PrK.same{H H':Hp}{k:PKey}{a:Addr}(h:PrK H k a)(s:Same H H'):PrK H' k a:=let ⟨c,e1,e2⟩:=h;⟨c,s _ _ e1,s _ _ e2⟩
theorem DPr.same{P:Program}{w:World}{H H':Hp}{d:Addr}{ks:List (PKey×Addr)}(x:DPr P w H d ks)(s:Same H H'):DPr P w H' d ks:=⟨s _ _ x.at_,x.sys,x.len,fun y hy=>(x.pk y hy).same s⟩
theorem DPr.put{P:Program}{w:World}{H:Hp}{d b:Addr}{ks:List (PKey×Addr)}{k:PKey}(x:DPr P w H d ks)(e:PrK H k b)(l:ks.length<sizeLine):DPr P w (upd H d (PdO P w d (ks++[(k,b)]))) d (ks++[(k,b)]):=by
 have nt:∀{c:Addr} {ys:List V},H c=some (.tup ys)->upd H d (PdO P w d (ks++[(k,b)])) c=some (.tup ys):=fun{c ys} e=>by
  rw[q0c (fun z=>by rw[z,x.at_] at e;cases e)];exact e
 have pk:∀{k':PKey} {a:Addr},PrK H k' a->PrK (upd H d (PdO P w d (ks++[(k,b)]))) k' a:=fun⟨c,e1,e2⟩=>⟨c,nt e1,nt e2⟩
 refine⟨q0b,x.sys,by rw[Ap];exact l,fun y hy=>?_⟩;rcases Ax.mp hy with hy|hy
 ·exact pk (x.pk y hy)
 ·rw[Ao.mp hy];exact pk e
section
variable{X:Cx}
def tDNewP(P:Program)(w:World):TE:=fun _ H Q=>∀p,H p=none->(p==Cw)=false->Q (.ref p) (upd H p (PdO P w p []))
theorem z8d{pos:Pos}(P:Program)(w:World)(hP:X.prog=P)(hw:X.w=w):PE X (.Dict [] [] pos) (tDNewP P w):=fun pins s σ H Q I h=>by
 subst hP hw;have hb:=I.big;have hs:(s.heap.objs.size==Cw)=false:=by rw[beq_eq_false_iff_ne];exact Er hb
 refine wpAny_Dict_empty ⟨.ref s.heap.objs.size,_,I.laid (o:=PdO X.prog X.w s.heap.objs.size []) (t':=s.toks) (fun _ _ q=>Af _ q) (Am _) ⟨⟨_,#[],0,Av _ rfl,⟨rfl,rfl,rfl⟩,rfl,rfl,Mm⟩,⟨_,Av _ rfl⟩,fun h1 h2 ⟨o,es,ep,q1,q⟩ k=>⟨o,es,ep,k _ q1,q⟩⟩,rfl,h _ (I.hok.fresh (Am _)) hs⟩
def tPNotIn(P:Program)(w:World)(ty td:TE):TE:=fun σ H Q=>ty σ H fun y H1=>td σ H1 fun x H2=>∃d ks b k,x=.ref d/\y=.ref b/\DPr P w H2 d ks/\PrK H2 k b/\Q (.bl (!hasP ks k)) H2
theorem z5w{i o:Expr}{ty td:TE}(P:Program)(w:World)(hP:X.prog=P)(hw:X.w=w)(hu:X.A.units+2<cLine)(hi:PE X i ty)(ho:PE X o td):PC X .NotIn i o (tPNotIn P w ty td):=by
 subst hP hw;intro pins s σ H Q I h;refine thn (hi pins s σ H _ I h) fun iv s1 ⟨y,H1,I1,ry,q1⟩=>thn (ho pins s1 σ H1 _ I1 q1) fun u s2 ⟨x,H2,I2,rx,d,ks,b,k,ex,ey,dp,pk,q2⟩=>?_;subst ex ey;obtain rfl:u=Value.ref d:=rx;obtain rfl:iv=Value.ref b:=ry;refine wpAny_notIn_heap (knd:=pairKind X.prog X.w) hu (pk.of I2.hok) dp.sys (dp.of I2.hok) ?_;rw[q6m];exact⟨.bl (!hasP ks k),H2,I2.tok _,rfl,q2⟩
def sPPut(P:Program)(w:World)(td ty tv:TE):TS:=fun D σ H=>tv σ H fun v H1=>td σ H1 fun x H2=>ty σ H2 fun y H3=>∃d ks b k,x=.ref d/\y=.ref b/\v=.bl true/\DPr P w H3 d ks/\PrK H3 k b/\hasP ks k=false/\ks.length<sizeLine/\D.nx σ (upd H3 d (PdO P w d (ks++[(k,b)])))
theorem x0p{i o value:Expr}{td ty tv:TE}{pos pos':Pos}(P:Program)(w:World)(hP:X.prog=P)(hw:X.w=w)(hu:X.A.units+2<cLine)(ho:PE X o td)(hi:PE X i ty)(hv:PE X value tv)(hs:Jp value (some (.Subscript o i pos')) pos.line X.env=pure false):
  PS X (.Assign [.Subscript o i pos'] value pos) (sPPut P w td ty tv):=by
 subst hP hw;intro pins s σ H D I h;refine Ph (thn (hv pins s σ H _ I h) fun r s1 ⟨v,H1,I1,rv,q1⟩=>thn (ho pins s1 σ H1 _ I1 q1) fun u s2 ⟨x,H2,I2,rx,q2⟩=>thn (hi pins s2 σ H2 _ I2 q2) fun iv s3 ⟨y,H3,I3,ry,d,ks,b,k,ex,ey,ev,dp,pk,nk,lk,q3⟩=>?_) hs;subst ex ey ev;obtain rfl:u=Value.ref d:=rx;obtain rfl:iv=Value.ref b:=ry;obtain rfl:r=Value.bool true:=rv;refine Se (knd:=pairKind X.prog X.w) hu (pk.of I3.hok) (dp.of I3.hok) (fun h' dd hs=>?_) (by unfold entP;rw[Ac];exact Ie lk);have hn:atKey (entP ks) k=none:=by
  have:=q6m (ks:=ks) (k:=k);rw[nk] at this;cases e:atKey (entP ks) k with
  |none=>rfl
  |some _=>rw[e] at this;cases this
 rw[Pp hn] at dd;have ee:entP ks++[(k,b,Value.bool true)]=entP (ks++[(k,b)]):=by unfold entP;rw[Aj];rfl
 rw[ee] at dd;obtain⟨o,es,ep,e1,e2,e3,e4,_,e5⟩:=dd;refine⟨σ,_,I3.write (x:=d) (e:=d) (o:=PdO X.prog X.w d (ks++[(k,b)])) (by rw[dp.at_];exact True.intro) (.inl rfl) (fun c q hc z=>(hs.2 c hc).trans z) ⟨o,e1⟩ ⟨⟨o,es,ep,e1,e2,e3,e4,e5⟩,⟨o,e1⟩,fun h1 h2 ⟨o,es,ep,q1,q⟩ k=>⟨o,es,ep,k _ q1,q⟩⟩,q3⟩
end
theorem z9l{k:Nat}{A:Around}(hr:Room k A):A.units+2<cLine:=Mr (Rk (by decide:2<=64) _) hr.units
open PySem PySem.Spec PyProof.Rows
section
variable{prog:Program}{w:World}{K:Type}[DecidableEq K]{knd:HeapKind prog w K}{A:Around}{E:Value->Ae->Prop}{s:Ae}
theorem q3k{v:Value}{Q:Unit->Ae->Prop}(hu:knd.room A)(hkey:knd.is s.heap k a)(hm:s.heap.DictOfH knd d xs)(hQ:∀h',h'.DictOfH knd d (storedH xs k a v)->Ep d s.heap h'->Q () { s with heap:=h' })(hsz:xs.length<=sizeLine):
  wpAny (model prog w) A (La d (.ref a) (knd.hash k) v) Q E s:=by
 obtain⟨o,es,ep,ho,hc,hd,he,his,hn⟩:=hm;unfold La;try with_reducible refine Bm ?_
 refine Ab (wpAny_dictFind_heap hu hkey ho hd he his hn ?_ ?_)
 ·intro hno;have hnot:k∉xs.map (·.1):=not_mem_keys_of_get hno;refine Ab (Gi (wpAny_updateDictKeys (hz:=by have e:=Pb he;lia) ho hd (hQ _ ⟨_,_,ep+1,De _ ho (Rn (Qz hd _)),
   hc.mapDictKeys _,Qz hd _,?_,?_,?_⟩ (Cv ..))))
  ·rw[Pp (Nj hno)];simp[he,Ln]
  ·rw[Pp (Nj hno)];intro x hx;rcases Ax.mp hx with hx|hx
   ·exact knd.keeps (his x hx) ho hd (Cv ..)
   ·simp only[Ao] at hx;subst hx;exact knd.keeps hkey ho hd (Cv ..)
  ·rw[Pp (Nj hno)];rw[Aj,Dp];refine⟨hn,by simp,?_⟩;intro x hx y hy;simp only[Ak,Sd,Ao] at hy;subst hy;exact fun e=>hnot (e▸hx)
 ·intro j p hj;refine Ab (Gi (Ab (wpAny_updateDict ho hd (wpAny_point (hQ _ ⟨_,_,ep,De _ ho (Rn (Uj hd _)),
   hc.mapDict _,Uj hd _,?_,?_,?_⟩ (Cv ..))))))
  ·rw[Tw (Sm hn hj)];have:=modify_map_putAt (Ln knd) (fun e:Iq=>{ e with val:=v }) k v (fun _ _=>rfl) hn hj;rw[<- he] at this;obtain⟨l⟩:=es;simpa using this
  ·rw[Tw (Sm hn hj)];intro x hx;obtain⟨y,hy,rfl⟩:=Ah.mp hx;unfold putAt;split<;>exact knd.keeps (his y hy) ho hd (Cv ..)
  ·rw[Tw (Sm hn hj)];rw[keys_map_putAt];exact hn
end
def putAll(kvs more:List (List Key×V)):List (List Key×V):=more.foldl (fun acc x=>putK acc x.1 x.2) kvs
theorem q6n:∀(more kvs:List (List Key×V)),(putAll kvs more).length<=kvs.length+more.length
 |[],kvs=>Am _
 |x::more,kvs=>by
  have h1:=q6n more (putK kvs x.1 x.2);have h2:=q1i kvs x.1 x.2;unfold putAll at h1 ⊢;rw[Lw,Bk];lia
theorem d_setH{σ:St}(hu:(Fp (mixKind X.prog X.w)).room A)(I:Inv X pins σ H s)(e:H a=some (.dT kvs))(eb:H b=some (.tup (k.map kV)))(l:kvs.length<sizeLine)(rv:RelV v r)(h:∀h',Inv X pins σ (upd H a (.dT (putK kvs k v))) { s with heap:=h' }->(∀b o,b≠a->s.heap.get? b=some o->h'.get? b=some o)->Q () { s with heap:=h' }):
  wpAny (model X.prog X.w) A (La a (.ref b) ((Fp (mixKind X.prog X.w)).hash k) r) Q E s:=by
 obtain⟨z,hd,xs,rel,dd⟩:=z2s I.hok e;have hz:xs.length<=sizeLine:=by rw[<- Cz rel];exact z
 have hl:(putK kvs k v).length<=sizeLine:=by have:=q1i kvs k v;lia
 refine q3k hu (q3x I.hok eb) dd (fun h' dd' hs=>h h' ?_ fun b o hb e=>(hs.2 b hb).trans e) hz;obtain⟨q,es,ep,hq,h2,h3,h4,_,h5⟩:=dd';refine q7a I (by rw[e];exact True.intro) hs ⟨q,hq⟩ ⟨hl,hd,_,(rel.put k eb rv).keeps fun c ys ec=>?_,q,es,ep,hq,h2,h3,h4,h5⟩;rw[q0c (q9u ec e (fun z=>nomatch z))];exact ec
def rUpdT:V->List V->Hp->VK->Prop:=fun x vs H Q=>∃d kvs o more,x=.ref d/\vs=[.ref o]/\d≠o/\H d=some (.dT kvs)/\H o=some (.dT more)/\(kvs≠[]\/more=[])/\kvs.length+more.length<sizeLine /\
 Q .non (upd H d (.dT (putAll kvs more)))
theorem x0q(hr:Room n X.A):MtR X "dict.update" rUpdT:=by
 intro pins s σ H x vs v us Q I rx rv h;obtain⟨d,kvs,o,more,rfl,rfl,hdo,e,eo,hor,hl,q⟩:=h;cases rx;obtain⟨u,rfl,ru⟩:=rv.one;cases ru;obtain⟨z,hd,xs,rel,dd⟩:=z2s I.hok e;obtain⟨zo,hoS,ys,relo,ddo⟩:=z2s I.hok eo;obtain⟨od,esd,epd,hod,hcd,hdd,hed,hisd,hnd⟩:=id dd;obtain⟨oo,eso,epo,hoo,hco,hdo',heo,hiso,hno⟩:=id ddo;have hT:s.TypeIs (.ref d) "dict" := ⟨od,hod,hcd.1⟩
 have hTo:s.TypeIs (.ref o) "dict" := ⟨oo,hoo,hco.1⟩
 have hu:(Fp (mixKind X.prog X.w)).room X.A.in1:=Dy (q1y hr);have hlen:more.length=eso.size:=by rw[Cz relo,Pb heo]
 refine Bu F.slot_dict_update hT F.entry_dict_update ?_ (F.args_dict_update_2 _ _);unfold Cs.«dict.update»;refine Ab ?_;unfold Oh;refine Ab (Gq hT ?_);refine Ad ?_;show wpAny _ _ (Ot "dict.update" d (.ref o) [] .none) _ _ s;unfold Ot;refine Ab (Ff hTo ?_);rw[if_neg (by decide)];refine Ab ?_;unfold Cs.Dict.merge;refine Ab ?_;unfold Cs.Dict.readDirectly;refine Ab (Ge hTo isSubtype_dict_dict ?_);simp only[Dj,Bb,if_false];refine Ab (Hq hTo Of.lookup (Ad ?_));simp only[beq_self_eq_true,if_true];refine Ab (Ad ?_);unfold Cs.Dict.mergeDict;rw[if_neg (by simpa using hdo)];unfold Il;rw[if_neg (by rw[hoS];exact Bn)];refine Ab (Ad ?_);refine Ab (Cj hoo hdo' ?_);have fin:∀s',Inv X pins σ (upd H d (.dT (putAll kvs more))) s'->wpAny (model X.prog X.w) X.A.in1 (Cs.Dict.addKeywords d [] >>= fun _=>ret Value.none) (fun fin s'=>∃v,fin=Fin.done (Flow.ret v)/\EP X pins σ Q v s') X.xe s':=fun s' I'=>Ab (Ad (Ad ⟨.none,rfl,.non,_,I',rfl,q⟩));refine thn (Q:=fun _ s'=>Inv X pins σ (upd H d (.dT (putAll kvs more))) s') ?_ (fun _ s' I'=>fin s' I');have loop:wpAny (model X.prog X.w) X.A.in1 (do
   let epoch<-dictEpoch o;let l<-dictEntries o
   forIn [:l.size] PUnit.unit fun i (_:PUnit)=>(do
     let l'<-dictEntries o;match l'[i]? with
      |some e=>do
       Ig [e.key,e.val] (La d e.key e.hash e.val)
       let ep'<-dictEpoch o
       if (ep' != epoch)=true then do
         (unsupported (toString "dict.update" ++ toString ":source-changed-during-callback"):Sem PUnit)
         pure (ForInStep.yield PUnit.unit)
        else pure (ForInStep.yield PUnit.unit)
      |_=>do
       (unsupported "internal:dict-merge" : Sem PUnit)
       pure (ForInStep.yield PUnit.unit):Sem (ForInStep PUnit))
   pure ()) (fun _ s'=>Inv X pins σ (upd H d (.dT (putAll kvs more))) s') X.xe s:=by
  refine Ab (Fh hoo hdo' ?_);refine Ab (Cj hoo hdo' ?_);refine Ab ?_;rw[Std.Legacy.Range.forIn_eq_forIn_range'];simp only[Std.Legacy.Range.size,Mb,Nat.add_sub_cancel,Nat.div_one];have e0:H=upd H d (.dT (putAll kvs (more.take 0))):=by
   funext c;by_cases hc:c=d
   ·rw[hc,q0b,e];rfl
   ·rw[q0c hc]
  refine Gf _
   (fun rest _ s'=>∃i,rest=List.range' i (eso.size-i)/\i<=eso.size/\Inv X pins σ (upd H d (.dT (putAll kvs (more.take i)))) s'/\s'.heap.get? o=some oo)
   _ ?_ ?_ _ _ ⟨0,by simp,By _,e0▸I,hoo⟩
  ·rintro x rest b s' ⟨i,hr,hi,I',hoo'⟩;have hlt:i<eso.size:=by
    rcases Nat.lt_or_ge i eso.size with h|h
    ·exact h
    ·rw[Nat.sub_eq_zero_of_le h] at hr;simp at hr
   obtain⟨rfl,hrest⟩:x=i/\rest=List.range' (i+1) (eso.size-(i+1)):=by
    have e:eso.size-i=(eso.size-(i+1))+1:=by lia
    rw[e,Uk] at hr;injection hr with h1 h2;exact⟨h1,h2⟩
   refine Ab (Cj hoo' hdo' ?_);obtain⟨⟨k,v⟩,hkv⟩:∃kv,more[x]?=some kv:=⟨more[x]'(by rw[hlen];exact hlt),Kg _⟩
   obtain⟨⟨k',b',r⟩,hy,e1,e2,e3⟩:=Dd.at' relo hkv;obtain rfl:k=k':=e1;rw[entry_at heo x,hy];have hx:=q6n (more.take x) kvs;have hx2:(more.take x).length<=more.length:=by rw[Bp];lia
   have nt:upd H d (.dT (putAll kvs (more.take x))) b'=some (.tup (k.map kV)):=by
    rw[q0c (q9u e2 e (fun z=>nomatch z))];exact e2
   show wpAny _ _ (Ig _ (La d (.ref b') ((Fp (mixKind X.prog X.w)).hash k) r) >>= _) _ _ _;refine Ab (Bm (d_setH hu I' q0b nt (by lia) e3 fun h' I2 hs=>?_));have hoo2:h'.get? o=some oo:=hs o oo (Bo hdo) hoo';refine Ab (Fh hoo2 hdo' ?_);rw[if_neg (by simp)];rw[z3i] at I2;have es:putK (putAll kvs (more.take x)) k v=putAll kvs (more.take (x+1)):=by
    rw[Cb,hkv];unfold putAll;rw[Th];rfl
   rw[es] at I2;exact Ad ⟨x+1,hrest,hlt,I2,hoo2⟩
  ·rintro b s' ⟨i,hr,hi,I',hoo'⟩;have hin:i=eso.size:=by
    rcases Nat.lt_or_ge i eso.size with h|h
    ·have e:eso.size-i=(eso.size-(i+1))+1:=by lia
     rw[e,Uk] at hr;exact nomatch hr
    ·exact Nat.le_antisymm hi h
   rw[hin,<- hlen,Cf] at I';exact Ad I'
 dsimp only;split
 ·rename_i hf;refine Ab (Cj hod hdd ?_);have hne:esd.isEmpty=false:=by
   rcases hor with hk|hm
   ·have h1:=Pb hed;rw[<- Cz rel] at h1;rw[Array.isEmpty_eq_false_iff];intro h0;rw[h0] at h1;exact hk (Km.mp (by simpa using h1.symm))
   ·have h0:eso=#[]:=Array.size_eq_zero_iff.mp (by rw[<- hlen,hm];rfl);rw[h0] at hf;exact absurd hf (by simp)
  rw[hne];exact loop
 ·exact loop
open PySem PySem.Spec PyProof.Rows SB
abbrev Zq:=Addr×HRow
def rSortR:List V->Hp->VK->Prop:=fun vs H Q=>∃l,∃zs:List Zq,vs=[.ref l]/\H l=some (.lst (zs.map fun z=>V.ref z.1))/\zs.length<64/\(∀z∈zs,PR H z.1 z.2/\Low z.2.1)/\(zs.map (·.2.1)).Nodup /\
 ∀(L:Addr) (zs':List Zq),H L=none->zs'.Perm zs->(zs'.map (·.2.1)).Pairwise (fun a b=>pLt b a=false)->Q (.ref L) (upd H L (.lst (zs'.map fun z=>V.ref z.1)))
theorem z5x:∀{zs:List Zq} {us:List Value},Vals (zs.map fun z=>V.ref z.1) us->us=zs.map fun z=>Value.ref z.1
 |[],_,.nil=>rfl
 |z::zs,_,.cons r t=>by cases r;rw[z5x t];rfl
theorem q6o:∀(zs:List Zq),Vals (zs.map fun z=>V.ref z.1) (zs.map fun z=>Value.ref z.1)
 |[]=>.nil
 |z::zs=>.cons rfl (q6o zs)
theorem z2y(hr:Room k X.A):CallR X (.builtin "sorted") rSortR:=by
 intro pins s σ H xs us Q I rv h;obtain⟨l,zs,rfl,hl,few,hz,nd,q⟩:=h;obtain⟨u,rfl,ru⟩:=rv.one;cases ru;obtain⟨its,rv2,hil⟩:=z0j I hl;have e1:=z5x rv2;subst e1;refine SB.sorted_ok fun{Q'} kk=>?_;refine PyProof.Rows.collect_list hil ?_;have kh:∀b o,s.heap.get? b=some o->((s.heap.push (Ja "list" #[] 0)).update s.heap.objs.size (Eh (· ++ (zs.map fun z=>Value.ref z.1).toArray))).get? b=some o:=fun b o e=>by
  rw[(Cv ..).2 b (Bd (An e))];exact Af _ e
 have hz2:s.heap.objs.size<=((s.heap.push (Ja "list" #[] 0)).update s.heap.objs.size (Eh (· ++ (zs.map fun z=>Value.ref z.1).toArray))).objs.size:=by simp_all
 generalize (s.heap.push (Ja "list" #[] 0)).update s.heap.objs.size (Eh (· ++ (zs.map fun z=>Value.ref z.1).toArray))=h at kh hz2;have hpa:∀{z:Zq},z∈zs->∃m,PairAt h (.ref z.1) z.2.1 m:=fun{z} hzm=>by
  obtain⟨b,h1,h2⟩:=(hz z hzm).1;obtain⟨_,its,r,ht⟩:=(show ObjOk X.prog X.w H s.heap z.1 (.tup [.ref b,z.2.2]) from I.hok _ _ h1)
  cases r with
  |cons r1 r =>
  cases r with
  |cons r2 r =>
  cases r;cases(show _=Value.ref b from r1);exact⟨_,z.1,.ref b,rfl,SB.IsTup.keep ht fun o e=>kh _ o e,(I.path h2).keep kh⟩
 have hacc:∀{w:Value},w∈zs.map (fun z=>Value.ref z.1)->∃x∈zs,w=.ref x.1:=fun{w} hw=>by
  obtain⟨x,hx,rfl⟩:=Ah.mp hw;exact⟨x,hx,rfl⟩
 refine kk (zs.map fun z=>Value.ref z.1) h s.toks _ _ _ (SB.ready_pairs (ps:=zs.map (·.2.1)) (by rw[Ac];exact few) (fun w hw=>?_) (fun w hw y hy p mm mm' hp1 hp2=>?_) (by have:=hr.un;lia)) fun h' out so kh' ⟨e,he⟩=>?_
 ·obtain⟨x,hx,rfl⟩:=hacc hw;obtain⟨m,hm⟩:=hpa hx;exact⟨_,Ah.mpr ⟨x,hx,rfl⟩,m,(hz x hx).2,hm⟩
 ·obtain⟨x,hx,rfl⟩:=hacc hw;obtain⟨x2,hx2,rfl⟩:=hacc hy;obtain⟨m,hm⟩:=hpa hx;obtain⟨m2,hm2⟩:=hpa hx2;have q1:=SB.PairAt.inj hp1 hm;have q2:=SB.PairAt.inj hp2 hm2;rw[q2i nd hx hx2 (q1.symm.trans q2)]
 obtain⟨zs',p1,p2⟩:=SB.perm_map_inv so.perm rfl;have hrise:=so.rise;rw[p2] at hrise;have hps:=SB.rise_paths (fun w a b ⟨_,x⟩ ⟨_,y⟩=>SB.PairAt.inj x y) (fun z hzz=>by
  have hzm:=p1.mem_iff.mp hzz;exact⟨hpa hzm,Ah.mpr ⟨_,hzm,rfl⟩⟩) hrise
 have keep:=fun b o z=>kh' b o (kh b o z);have hfr:=I.hok.fresh hz2;refine⟨.ref h.objs.size,upd H h.objs.size (.lst (zs'.map fun z=>V.ref z.1)),I.laid (t':=s.toks) keep hz2 ⟨by rw[Ac,p1.length_eq,Dl];lia,_,e,q6o _,?_⟩,rfl,q _ zs' hfr p1 hps⟩;rw[he,<- p2]
open PySem PySem.Spec PyProof.Rows
section
variable{X:Cx}{a:Expr}{ta:TE}
def tIsT(ta:TE):TE:=fun σ H Q=>ta σ H fun x H1=>∃b,x=.bl b/\Q (.bl b) H1
theorem pc_isT{j pos'}(ha:PE X a ta):PC X .Is a (.Constant (.bool true) j pos') (tIsT ta):=by
 intro pins s σ H Q I h;refine thn (ha pins s σ H _ I h) fun v s1 ⟨x,H1,I1,r1,b,e,q1⟩=>?_;subst e;obtain rfl:v=Value.bool b:=r1;refine Constant_bool (wpAny_is_plain rfl ⟨.bl _,H1,I1,?_,q1⟩);cases b<;>rfl
end
open PySem PySem.Spec PyProof.Rows
section
variable{X:Cx}
def insN{α:Type}(xs:List α)(n:Nat)(y:α):List α:=xs.take n++y::xs.drop n
def rInsertN:V->List V->Hp->VK->Prop:=fun x vs H Q=>∃(l:Addr) (xs:List V) (y:V) (n:Nat),x=.ref l/\vs=[.int (n:Int),y]/\H l=some (.lst xs)/\xs.length<sizeLine/\n<=xs.length/\n<1000/\Q .non (upd H l (.lst (insN xs n y)))
theorem z2z:MtM X "list.insert" rInsertN:=by
 intro pins s σ H x vs v us Q I rx rv h;obtain⟨l,xs,y,n,rfl,rfl,hH,hz,hn,hb,q⟩:=h;cases rx;obtain⟨u0,u,rfl,r0,ru⟩:=rv.two;obtain⟨t0,rfl⟩:=r0;obtain⟨z,its,m,r,hl,e⟩:=I.lstM hH;have hlen:its.length=xs.length:=r.length.symm;have hf:Nf (n:Int)=true:=by
  unfold Nf;rw[Od,decide_eq_true_eq,decide_eq_true_eq];exact⟨Int.le_trans (by decide) (Int.natCast_nonneg n),Int.lt_trans (Int.ofNat_lt.mpr hb) (by decide)⟩
 have hx:∃x:Int,x=(n:Int):=⟨_,rfl⟩
 obtain⟨x,hx⟩:=hx;rw[<- hx] at hf ⊢;refine Lx F.slot_list_insert ⟨_,e,rfl⟩ F.entry_list_insert (F.args_list_insert_3 _ _ _) (AutoSeq1.list_insert_list_int_val_1 l its.toArray m x t0 u (by rw[hf];decide) (by rw[Ay];lia)) ⟨e,?_⟩;refine⟨.non,_,I.lset (its':=insN its n u) hH e ?_ ((r.take n).append (.cons ru (r.drop n))) ?_,rfl,q⟩
 ·have e1:(if x<0 then(x+(its.toArray.size:Int)).toNat else min x.toNat its.toArray.size)=n:=by
   rw[if_neg (by lia),Ay];lia
  show(its.toArray.extract 0 (if x<0 then(x+(its.toArray.size:Int)).toNat else min x.toNat its.toArray.size)).push u++its.toArray.extract (if x<0 then(x+(its.toArray.size:Int)).toNat else min x.toNat its.toArray.size)=(insN its n u).toArray;rw[e1];unfold insN;simp;exact Eu (by rw[Ce];exact Am _)
 ·rw[Ap,Bk,Bp,Ce];lia
end
open PySem PySem.Spec PyProof.Rows
section
variable{M:Model}{A:Around}{E:Value->Ae->Prop}{h:Heap}{g:Array Qw}{d:Drawn}{t:Nat}{os:Nu}
def HCls(h:Heap)(C:Addr)(bm:List Value):Prop:=∃nm q N bs hdct sn sub ab col dd k0 k1 k2 k3 k5 newId,h.get? C=some (Dh nm q C N bs bm hdct sn sub ab col dd k0 k1 k2 k3 k5 newId)
theorem ECls.hp{K:Ai}{C:Addr}{bm:List Value}(e:ECls K C bm)(X:K.In h):HCls h C bm:=by
 obtain⟨nm,q,N,bs,hdct,sn,sub,ab,col,dd,k0,k1,k2,k3,k5,newId,lk⟩:=e.ex;exact⟨nm,q,N,bs,hdct,sn,sub,ab,col,dd,k0,k1,k2,k3,k5,newId,X _ _ lk⟩
set_option maxHeartbeats 4000000 in
end
section
variable{X:Cx}{pins:List (Addr×Obj)}{σ:St}{H:Hp}{s:Ae}
def Lnd(h:Heap)(ea:Addr):Prop:=∃oe vs T,h.get? ea=some oe/\oe.data=.fields vs/\TbAt h ea vs T .none
theorem z5y{ea:Addr}{oe:Obj}{vs:Array Value}{T:Addr}{fl:Value}{Aa:Around}{Ee:Value->Ae->Prop}{Q:Unit->Ae->Prop}(I:Inv X pins σ H s)(F:FlX X pins H s ea)(e:s.heap.get? ea=some oe)(d:oe.data=.fields vs)(t:TbAt s.heap ea vs T fl)(k:∀h',Inv X pins σ H { s with heap:=h' }->FlX X pins H { s with heap:=h' } ea->Lnd h' ea->Q () { s with heap:=h' }):wpAny (model X.prog X.w) Aa (setFlight (.ref ea) none) Q Ee s:=by
 have hTf:T∉frs X.stack:=fun hm=>by
  obtain⟨_,_,oT,ts,q1,q2,_⟩:=t;obtain⟨_,o,ho,hnf⟩:=I.stack.mem hm;rw[q1] at ho;injection ho with ho;subst ho;exact hnf ts q2
 obtain⟨oe1,vs1,e1,d1,_,hT1⟩:=F.tb;have q:oe1=oe/\vs1=vs:=by
  rw[e] at e1;injection e1 with z;subst z;rw[d] at d1;injection d1 with y;exact⟨rfl,y.symm⟩
 obtain⟨rfl,rfl⟩:=q;refine flightX (f:=none) e d t hTf fun h3 L3=>?_
 obtain⟨I3,F3,oe3,vs3,T3,e3,d3,t3⟩:=I.leftX F e d (.inl rfl) hT1 L3;exact k h3 I3 F3 ⟨oe3,vs3,T3,e3,d3,t3⟩
def PH(X:Cx)(hs:List ExceptHandler)(t:Addr->TS):Prop:=∀ea pins s σ H D E,X.Ok->Inv X pins σ H s->FlX X pins H s ea->Lnd s.heap ea->t ea D σ H->wpAny (model X.prog X.w) X.A (handleBy (.ref ea) X.env hs) (SP X pins D) E s
def tTryH(th:Addr->TS)(tb:(Addr->St->Hp->Prop)->TS):TS:=fun D σ H=>∃J:Addr->St->Hp->Prop,(∀ea σ' H',J ea σ' H'->th ea D σ' H')/\tb J D σ H
theorem x0r{body:List Stmt}{h₀:ExceptHandler}{hs:List ExceptHandler}{pos:Pos}{tb:(Addr->St->Hp->Prop)->TS}{th:Addr->TS}(hst:X.stack=X.env::X.outer)(hf:X.env.frame=some X.env.locals)(hb:∀pn J,PSs ((X.pinned pn).wish (XE (X.pinned pn) J)) body (tb J))(hh:PH X (h₀::hs) th):PS X (.Try body (h₀::hs) [] [] pos) (tTryH th tb):=by
 intro pins s σ H D I ⟨J,hJ,q⟩;refine wpAny_Try_except (Br (hb (X.pn++pins) J [] s σ H D (I.toPn.wish _) q) (fun f s1 z=>?_) fun e s1 z=>?_)
 ·have z':=z.unwish;have z2:SP X pins D f s1:=by
   cases f with
   |next=>obtain⟨σ',H',I',q'⟩:=z';exact⟨σ',H',I'.ofPn,q'⟩
   |brk=>obtain⟨σ',H',I',q'⟩:=z';exact⟨σ',H',I'.ofPn,q'⟩
   |cont=>obtain⟨σ',H',I',q'⟩:=z';exact⟨σ',H',I'.ofPn,q'⟩
   |ret u=>obtain⟨v,σ',H',I',r,q'⟩:=z';exact⟨v,σ',H',I'.ofPn,r,q'⟩
  cases f with
  |next=>exact Jj z2
  |ret v=>exact z2
  |brk=>exact z2
  |cont=>exact z2
 ·obtain⟨pins',σ1,H1,ea,rfl,I1,F1,j⟩:=z;have I1:=I1.ofPn;have F1:=F1.ofPn;obtain⟨oe,vs,he,hd,ht,hT⟩:=F1.tb;have hfr:X.A.frames=some (X.env::X.outer):=by rw[<- hst];exact I.ok.frames
  have hl:s1.heap.FunFrames X.base (X.env::X.outer):=by rw[<- hst];exact I1.stack
  refine noteX hfr hl hf he hd ht fun h2 L2=>?_;rw[<- z9j hst] at L2;obtain⟨I2,F2,oe2,vs2,T2,e2,d2,t2⟩:=I1.leftX F1 he hd (.inr rfl) hT L2;exact z5y I2 F2 e2 d2 t2 fun h3 I3 F3 l3=>hh ea pins _ σ1 H1 D _ I.ok I3 F3 l3 (hJ ea σ1 H1 j)
def subE(c:Addr)(bm:List Value)(C:Addr):Bool:=(Value.ref c::bm).contains (.ref C)
theorem cls_at{c:Addr}{dd:Option Addr}{ea:Addr}(I:Inv X pins σ H s)(h:H ea=some (ExO (.ref c) dd ea)):∃oe,s.heap.get? ea=some oe/\oe.cls=.ref c:=by
 obtain⟨⟨ws,sl,z,_⟩,_,_⟩:=I.hok ea _ h;exact⟨_,z,rfl⟩
theorem ph_nil:PH X [] (fun _ _ _ _=>False):=fun _ _ _ _ _ _ _ _ _ _ _ h=>h.elim
def hAs(K:Ai)(i:Nat)(C:Addr)(th:TS)(tr:Addr->TS):Addr->TS:=fun ea D σ H=>∃c bm dd,H ea=some (ExO (.ref c) dd ea)/\ECls K c bm/\if subE c bm C=true then th (gone i D) (σ.set i (some (.ref ea))) H else tr ea D σ H
theorem ph_as{suite:List Stmt}{b₀:Stmt}{dn n:Str}{i:Nat}{C:Addr}{bmC:List Value}{dp hp:Pos}{rest:List ExceptHandler}{th:TS}{tr:Addr->TS}(K:Ai)(hK:X.K=K)(hN:X.N.Nodup)(hi:X.N[i]?=some n)(hk:X.env.scope.names.lookup n=some .local)(hg:Gl X dn)(hm:X.mg dn=some (.ref C))(eC:ECls X.K C bmC)(hh:∀ea,PSs (X.hand ea) (b₀::suite) th)(hr:PH X rest tr)(hdb:(dn==("__debug__" : Str))=false:=by decide):
  PH X (.ExceptHandler (some (.Name dn dp)) (some n) (b₀::suite) hp::rest) (hAs K i C th tr):=by
 subst hK;intro ea pins s σ H D E ok I F ⟨oe,vs,T,e3,d3,t3⟩ ⟨c,bm,dd,hat,eCc,q⟩;refine wpAny_handleBy_cons (codeAny_handlers_test ?_) (by intro z;cases z);refine q2v (X:=X.hand ea) (I.hand ea) hg hm ?_ hdb;obtain⟨nm,q0,N,bs,hdct,sn,sub,ab,col,dd0,k0,k1,k2,k3,k5,newId,lk⟩:=eCc.ex;obtain⟨nm',q0',N',bs',hdct',sn',sub',ab',col',dd0',k0',k1',k2',k3',k5',newId',lk'⟩:=eC.ex;obtain⟨oe4,e4,c4⟩:=cls_at I hat;refine excMatchX (I.kIn _ _ lk) (I.kIn _ _ lk') e4 c4 eC.base ?_;cases hs:(Value.ref c::bm).contains (.ref C) with
 |false =>
  unfold subE at q;rw[hs,if_neg (by decide)] at q;exact hr ea pins s σ H D E ok I F ⟨oe,vs,T,e3,d3,t3⟩ q
 |true =>
 unfold subE at q;rw[hs,if_pos rfl] at q;refine codeAny_handlers_suite_as (z5y I F e3 d3 t3 fun h5 I5 F5 _=>?_);refine q6s (X:=X.hand ea) (I5.hand ea) hN hi (.inl hk) (show RelV (.ref ea) (.ref ea) from rfl) (fun s6 I6=>?_) (.inr hk);refine Br (hh ea pins s6 _ H (gone i D) I6 q) (fun f s7 z=>?_) fun _ _ z=>z.elim;cases f with
 |next =>
  obtain⟨σ',H',I',q'⟩:=z;exact q7f (I'.unhand ok) hN hi hk fun s8 I8=>⟨_,H',I8,q'⟩
 |brk =>
  obtain⟨σ',H',I',q'⟩:=z;exact q7f (I'.unhand ok) hN hi hk fun s8 I8=>⟨_,H',I8,q'⟩
 |cont =>
  obtain⟨σ',H',I',q'⟩:=z;exact q7f (I'.unhand ok) hN hi hk fun s8 I8=>⟨_,H',I8,q'⟩
 |ret u =>
  obtain⟨v,σ',H',I',r,q'⟩:=z;exact q7f (I'.unhand ok) hN hi hk fun s8 I8=>⟨v,_,H',I8,r,q'⟩
theorem FlX.push{ea:Addr}{o:Obj}{ho:HO}(F:FlX X pins H s ea)(l:Lnd s.heap ea)(hf:H s.heap.objs.size=none):FlX X pins (upd H s.heap.objs.size ho) { s with heap:=s.heap.push o } ea/\Lnd (s.heap.push o) ea:=by
 obtain⟨oe,vs,T,e1,d1,t1,t2,oT,ts,t3,t4,t5⟩:=l;obtain⟨oe',vs',e2,d2,tk,hT⟩:=F.tb;obtain⟨C,dd,at_⟩:=F.at_;have n1:ea≠s.heap.objs.size:=fun z=>by rw[z,hf] at at_;cases at_
 rw[e1] at e2;injection e2 with e2;subst e2;rw[d1] at d2;injection d2 with d2;subst d2;have n2:T≠s.heap.objs.size:=Bd (An t3);have p1:=Af o e1;have p3:=Af o t3;refine⟨⟨⟨C,dd,by rw[q0c n1];exact at_⟩,⟨oe,vs,p1,d1,.inr ⟨T,.inl ⟨t1,t2,oT,ts,p3,t4,t5⟩⟩,fun T' hT'=>?_⟩,F.new⟩,⟨oe,vs,T,p1,d1,t1,t2,oT,ts,p3,t4,t5⟩⟩;obtain⟨a1,a2,a3⟩:=hT T' hT';have:T'=T:=by rw[t1] at hT';injection hT' with z;injection z with z;exact z.symm
 subst this;exact⟨a1,by rw[q0c n2];exact a2,a3⟩
end
end L2
namespace HD
open PySem PySem.W PyProof.Rows
theorem end0:(∃f,endAt 0 t=some f)/\through t=true\/endAt 0 t=none/\through t=false:=by
 unfold endAt through;obtain⟨cur,code,pos,stack⟩:=t;cases stack with
 |cons a r=>exact .inr ⟨by cases cur<;>rfl,rfl⟩
 |nil =>
  cases cur with
  |pure f =>
   cases f with
   |done f=>simp_all
   |_=>simp_all
  |_=>exact .inr ⟨rfl,rfl⟩
theorem z1r{tb:String->Option Cs}{p:Program}{w:World}{n₀:Nat}{ann:Option Value}:∀{n:Nat} {s s':Ae} {t:Thread} {f:Flow} {c:Code} {q:Pos},segRun tb p w n₀ ann 0 n s t=some (f,s',c,q)->topRun tb p w n₀ ann n s t=some s'
 |0,_,_,_,_,_,_,h=>by cases h
 |n+1,s,s',t,f,c,q,h=>by
  unfold segRun at h;unfold topRun;rcases end0 (t:=t) with⟨⟨f',e⟩,th⟩|⟨e,th⟩
  ·rw[e] at h;rw[th];cases h;rfl
  ·rw[e] at h;rw[th];dsimp only at h ⊢;cases ok:stepOk n₀ ann t with
   |false=>rw[ok] at h;cases h
   |true =>
    rw[ok] at h;dsimp only at h ⊢;cases st:step (denote tb) p w s t with
    |go s1 t1=>rw[st] at h;exact z1r h
    |halt _ _=>rw[st] at h;cases h
def mkT(l:List Obj):BT:=(l.foldl (fun(a:BT×Nat) o=>(a.1.ins a.2 o,a.2+1)) (BT.nil,0)).1
noncomputable def bootT (P:Params) (os:Nu):SharedT:=⟨mkT (boot_heap P).objs.toList,11,(boot_heap P).life,#[],boot_drawn,boot_toks,os⟩
theorem z8e(P:Params)(os:Nu):(bootT P os).abs=⟨boot_heap P,#[],boot_drawn,boot_toks,os⟩:=by kernel_rfl
theorem z5z(P:Params):((boot_heap P).isNs Cc&&(#[]:Array Qw).size==0,(boot_heap P).objs.size,(boot_heap P).nsMap Cc "__annotations__")=(true,11,some (.ref 6)):=by kernel_rfl
theorem left{Yf:Ae->α}{Ya:World->α}(e:opening p=plainProg p.main.scope.names)(hN:Nat.ble 600 N=true)(f:∀s,fenceModules? p s=some s)(h:∀(w:World) (os:Nu),(segRunT Sn p w 11 (some (.ref 6)) 0 N (bootT w.params os) (topStub p)).map (fun r=>((staticsOk (Jm p.main.body) (boot_heap w.params) r.2.1.abs.heap&&namesBound p r.2.1.abs.heap&&gensDone r.2.1.abs&&laidKept (boot_heap w.params) r.2.1.abs.heap),
   openSeen q loose (Jm p.main.body) Xt true r.2.1.abs,Yf r.2.1.abs))=some (true,openGood q loose,Ya w)):LeftO p q loose Xt Yf Ya N:=fun w=>by
 obtain⟨⟨hp,gs,d,k,os⟩,e1,e2⟩:=Kx.mp (boot_open e hN f w);obtain⟨rfl,rfl,rfl,rfl⟩:hp=boot_heap w.params/\gs=#[]/\d=boot_drawn/\k=boot_toks:=by simpa using e2
 obtain⟨z1,z2,z3⟩:_/\_/\_:=by simpa only[Prod.mk.injEq] using z5z w.params
 obtain⟨⟨fl,st,c,ps⟩,r1,r2⟩:=Kx.mp (h w os);obtain⟨l1,l2,l3⟩:_/\_/\_:=by simpa only[Prod.mk.injEq] using r2
 have r:=z1r (segRun_of r1);rw[z8e] at r;have t:topFrom Sn p w N ⟨boot_heap w.params,#[],boot_drawn,boot_toks,os⟩=some st.abs:=by
  unfold topFrom;rw[z1,z2,z3,r];show(match staticsOk (Jm p.main.body) (boot_heap w.params) st.abs.heap&&namesBound p st.abs.heap&&gensDone st.abs&&laidKept (boot_heap w.params) st.abs.heap with|true=>_|false=>_)=_;rw[l1]
 unfold openEnds;rw[e1];show(topFrom Sn p w N _).map _=_;rw[t];exact congrArg some (Ua l2 l3)
end HD
set_option maxHeartbeats 4000000
namespace K
open PySem L2 TX SB HM
def top(i:Nat):Stmt:=PySem.Challenge.pw_renamehall_k36_wishes_refused.main.body.getD i (.Pass ⟨0,0,0,0⟩)
structure Txt (mg:Str->Option Value):Prop where
 b_ValueError:mg "ValueError" = none
 b_all:mg "all" = none
 b_dict:mg "dict" = none
 b_enumerate:mg "enumerate" = none
 b_int:mg "int" = none
 b_isinstance:mg "isinstance" = none
 b_len:mg "len" = none
 b_list:mg "list" = none
 b_max:mg "max" = none
 b_min:mg "min" = none
 b_range:mg "range" = none
 b_sorted:mg "sorted" = none
 b_tuple:mg "tuple" = none
structure Calls (P:Program) (w:World) (K:Ai) (mg:Str->Option Value) (base:Heap):Prop where
 draw:Cal P w K mg base "_law_draw" 1 ["_law_feed", "_law_many"] spDraw
section
variable{P:Program}{w:World}{K:Ai}{mg:Str->Option Value}{base:Heap}
abbrev z0n:Stmt:=top 22
theorem sc_draw:FnScope ["_law_feed", "_law_many", "_law_cell", "_law_number", "_law_found"] ["_law_feed", "_law_many"] (defScope z0n):=by trivial
theorem x0s (D : Df K mg "_law_draw" z0n ["_law_feed", "_law_many"]) (T : Txt mg) : Cal P w K mg base "_law_draw" 1 ["_law_feed", "_law_many"] spDraw := by
  refine D.cal sc_draw (fun vs H Q E h => ?_) (fun f cdv A outer s H vs Q E hr h => ?_)
  · obtain ⟨a, b, m, rfl, _⟩ := h; rfl
  · obtain ⟨a, b, m, rfl, ⟨⟨i, j, ha⟩, ns, hb⟩, hm0, hm1, k⟩ := h;refine ⟨_, (q0e (q7y (q0w q1b (q1a (ix_k K rfl) (pv 0) q0g (fun _ _ => rfl)) q0g) (z3n (pv 0) q0g q6w)) (q0e (q0y (q0k (eq_k K rfl hr) (q1a (ix_k K rfl) (pv 0) q0g (fun _ _ => rfl)) q0g (nomark _)) (q0e (q0h (i := 2) sc_draw.nd rfl (by first | exact Or.inl rfl | exact Or.inr rfl) (q1a (ix_k K rfl) (pv 0) q0g (fun _ _ => rfl))) (q0e (q0y (q0k op_gt (q0i (q2u K rfl) (by rfl) T.b_len Bt (q0a (q1a (ix_k K rfl) (pv 0) q0g (fun _ _ => rfl)) q0d)) q0g (nomark _)) (q0f (q0h (i := 2) sc_draw.nd rfl (by first | exact Or.inl rfl | exact Or.inr rfl) (q1a (ix_k K rfl) (q1a (ix_k K rfl) (pv 0) q0g (fun _ _ => rfl)) (q0w q6a (q1a (ix_k K rfl) (pv 0) q0g (fun _ _ => rfl)) (q0i (q2u K rfl) (by rfl) T.b_len Bt (q0a (q1a (ix_k K rfl) (pv 0) q0g (fun _ _ => rfl)) q0d))) (fun _ _ => rfl)))) q0l) (q0e (q0y (q0k z2f (pv 2) (q0w z8u q0g q0g) (nomark _)) (q0e (q0h (i := 3) sc_draw.nd rfl (by first | exact Or.inl rfl | exact Or.inr rfl) (q0w q6a (q0w q9z (q0w q1b (q0w q1b (q0w q6a (pv 2) q0g) (q0w q9z q0g (q1a (ix_k K rfl) (pv 0) q0g (fun _ _ => rfl)))) q0g) q0g) q0g)) (q0e (q0h (i := 3) sc_draw.nd rfl (by first | exact Or.inl rfl | exact Or.inr rfl) (q0w q6a (q0w q9z (pv 3) (q0w q1b (pv 3) q0g)) q0g)) (q0f (q0m (q0w q6a (q0w z3q (pv 3) q0g) (pv 1)))))) q0l) (q0f (q7y (pv 2) (z3n (pv 0) q0g q6w)))))) q0l) (q0e (q0h (i := 4) sc_draw.nd rfl (by first | exact Or.inl rfl | exact Or.inr rfl) (q0w q6a (q1a (ix_k K rfl) (pv 0) q0g (fun _ _ => rfl)) (pv 1))) (q0e (q7y (q0w z3q (q1a (ix_k K rfl) (pv 0) q0g (fun _ _ => rfl)) (pv 1)) (z3n (pv 0) q0g q6w)) (q0f (q0m (pv 4))))))), ?_⟩;have nba : b ≠ a := FeedAt.ne ⟨⟨i, j, ha⟩, ns, hb⟩;refine ⟨_, rfl, .inl ⟨a, _, 1, _, rfl, rfl, SqL.of ha, rfl, .inl ⟨_, _, rfl, rfl, _, rfl, a, _, 1, 1, rfl, rfl, ha, rfl, ?_⟩⟩⟩;generalize hH1 : upd H a _ = H1;have ha1 : H1 a = some (.lst [.ref b, .int (i + 1), .int j]) := by rw [← hH1]; exact q0b
    have hb1 : H1 b = some (.lst (ns.map V.int)) := by rw [← hH1, q0c nba]; exact hb
    have fd : ∀ (x y : Int), Fd a b H (upd H1 a (.lst [.ref b, .int x, .int y])) := fun x y => ⟨⟨⟨x, y, q0b⟩, ns, by rw [q0c nba]; exact hb1⟩, fun c o e hc => by rw [q0c hc, ← hH1, q0c hc]; exact e⟩
    have fd1 : Fd a b H H1 := ⟨⟨⟨_, _, ha1⟩, ns, hb1⟩, fun c o e hc => by rw [← hH1, q0c hc]; exact e⟩
    refine ⟨_, rfl, .inl ⟨a, _, 2, _, rfl, rfl, SqL.of ha1, rfl, .inl ⟨rfl, _, rfl, ?_⟩⟩⟩;have last : ∀ (H2 : Hp) (σ2 : St) (y : Int), H2 a = some (.lst [.ref b, .int (i + 1), .int y]) → (∀ x y : Int, Fd a b H (upd H2 a (.lst [.ref b, .int x, .int y]))) → σ2[0]? = some (some (.ref a)) → σ2[1]? = some (some (.int m)) → σ2.length = 5 →
        tSeq (tAsg (tOp (rI (fun _ j => 0 < j) fun i j => .int (i % j)) (tOp (rIx K) (tVar 0) (tC (.int 2))) (tVar 1)) (gName 4)) (tSeq (tAsg (tOp (rI CDiv fun i j => .int (i / j)) (tOp (rIx K) (tVar 0) (tC (.int 2))) (tVar 1)) (gSub (tVar 0) (tC (.int 2)) rSetL)) (tRet (tVar 4))) { nx := fun _ H' => Q .non H', rt := Q } σ2 H2 := by
      intro H2 σ2 y h2 f2 e0 e1 el;match σ2, e0, e1, el with
      | [x0, x1, x2, x3, x4], e0, e1, _ =>
        cases e0;cases e1;refine ⟨_, rfl, .inl ⟨a, _, 2, _, rfl, rfl, SqL.of h2, rfl, _, rfl, _, _, rfl, rfl, hm0, ?_⟩⟩;refine ⟨_, rfl, .inl ⟨a, _, 2, _, rfl, rfl, SqL.of h2, rfl, _, rfl, _, _, rfl, rfl, ⟨hm0, hm1⟩, _, rfl, a, _, 2, 2, rfl, rfl, h2, rfl, _, rfl, ?_⟩⟩;exact k _ _ (Ly _ (by lia)) (Jx _ hm0) (f2 _ _)
    refine ite2 (fun _ => ?_) (fun _ => last H1 _ j ha1 fd rfl rfl rfl);refine ⟨_, rfl, .inl ⟨a, _, 1, _, rfl, rfl, SqL.of ha1, rfl, ?_⟩⟩;refine ⟨_, rfl, .inl ⟨a, _, 0, _, rfl, rfl, SqL.of ha1, rfl, ⟨_, _, rfl, .inl ⟨_, SqL.of hb1, rfl⟩, ⟨_, _, rfl, rfl, _, rfl, ?_⟩⟩⟩⟩
    have rest : ∀ cell : Int, tSeq (tIfS (tTest (tOp (rI0 fun i j => .bl (decide (i < j))) (tVar 2) (tOp (rI CPow fun i j => .int (i ^ j.toNat)) (tC (.int 10)) (tC (.int 18)))))
          (tSeq (tAsg (tOp (rI (fun _ j => 0 < j) fun i j => .int (i % j)) (tOp rMulU (tOp rAddU (tOp rAddU (tOp (rI (fun _ j => 0 < j) fun i j => .int (i % j)) (tVar 2) (tC (.int 2147483647))) (tOp rMulU (tC (.int 613)) (tOp (rIx K) (tVar 0) (tC (.int 1))))) (tC (.int 7))) (tC (.int 48271))) (tC (.int 2147483647))) (gName 3))
            (tSeq (tAsg (tOp (rI (fun _ j => 0 < j) fun i j => .int (i % j)) (tOp rMulU (tVar 3) (tOp rAddU (tVar 3) (tC (.int 69621)))) (tC (.int 2147483629))) (gName 3))
              (tRet (tOp (rI (fun _ j => 0 < j) fun i j => .int (i % j)) (tOp (rI CDiv fun i j => .int (i / j)) (tVar 3) (tC (.int 64))) (tVar 1))))) tNext)
          (tAsg (tVar 2) (gSub (tVar 0) (tC (.int 2)) rSetL))
        { nx := fun σ2 H2 => tSeq (tAsg (tOp (rI (fun _ j => 0 < j) fun i j => .int (i % j)) (tOp (rIx K) (tVar 0) (tC (.int 2))) (tVar 1)) (gName 4)) (tSeq (tAsg (tOp (rI CDiv fun i j => .int (i / j)) (tOp (rIx K) (tVar 0) (tC (.int 2))) (tVar 1)) (gSub (tVar 0) (tC (.int 2)) rSetL)) (tRet (tVar 4))) { nx := fun _ H' => Q .non H', rt := Q } σ2 H2, rt := Q }
        [some (.ref a), some (.int m), some (.int cell), none, none] H1 := by
      intro cell;refine ⟨_, rfl, _, _, rfl, rfl, ⟨by decide, by decide, by decide⟩, _, _, rfl, rfl, _, rfl, ?_⟩;refine ite2 (fun _ => ?_) (fun _ => ?_)
      · refine ⟨_, rfl, _, _, rfl, rfl, (by show (0 : Int) < 2147483647; decide), ?_⟩;refine ⟨_, rfl, .inl ⟨a, _, 1, _, rfl, rfl, SqL.of ha1, rfl, .inl ⟨_, _, rfl, rfl, .inl ⟨by decide, by decide⟩, .inl ⟨_, _, rfl, rfl, .inl ⟨_, _, rfl, rfl, .inl ⟨_, _, rfl, rfl, .inr ⟨by decide, by decide⟩, _, _, rfl, rfl, (by show (0 : Int) < 2147483647; decide), ?_⟩⟩⟩⟩⟩⟩;generalize hn : ((cell % 2147483647 + 613 * (i + 1) + 7) * 48271) % 2147483647 = n;have n0 : 0 ≤ n := by rw [← hn]; exact Ly _ (by decide)
        have n1 : n < 2147483647 := by rw [← hn]; exact Jx _ (by decide)
        refine ⟨_, rfl, _, rfl, .inl ⟨_, _, rfl, rfl, .inl ⟨_, _, rfl, rfl, .inl ⟨by lia, by lia⟩, _, _, rfl, rfl, (by show (0 : Int) < 2147483629; decide), ?_⟩⟩⟩;refine ⟨_, rfl, _, _, rfl, rfl, ⟨by decide, by decide⟩, _, rfl, _, _, rfl, rfl, hm0, ?_⟩;exact k _ _ (Ly _ (by lia)) (Jx _ hm0) fd1
      · refine ⟨_, rfl, _, rfl, a, _, 2, 2, rfl, rfl, ha1, rfl, ?_⟩;refine last _ _ cell q0b (fun x y => ?_) rfl rfl rfl;have := fd x y;rw [z3i];exact this
    refine ite2 (fun hl => ?_) (fun _ => rest _);have hne : ns.map V.int ≠ [] := by
      intro z;rw [z] at hl;simp at hl
    obtain ⟨x, hx, ex⟩ := z9v (i + 1) hne;obtain ⟨c, rfl⟩ : ∃ c, x = V.int c := by
      obtain ⟨c, _, e⟩ := Ah.mp hx;exact ⟨c, e.symm⟩
    refine ⟨_, rfl, .inl ⟨a, _, 0, _, rfl, rfl, SqL.of ha1, rfl, ⟨_, rfl, .inl ⟨a, _, 1, _, rfl, rfl, SqL.of ha1, rfl, ⟨_, rfl, .inl ⟨a, _, 0, _, rfl, rfl, SqL.of ha1, rfl, ⟨_, _, rfl, .inl ⟨_, SqL.of hb1, rfl⟩, _, _, rfl, rfl, ?_, ?_⟩⟩⟩⟩⟩⟩⟩
    · have : 0 < (ns.map V.int).length := by
        cases e : ns.map V.int with
        | nil => exact absurd e hne
        | cons _ _ => simp
      show (0 : Int) < ((ns.map V.int).length : Int);lia
    · exact .inl ⟨b, _, _, _, rfl, rfl, SqL.of hb1, ex, rest c⟩
abbrev z0o:Stmt:=top 25
theorem x0t:FnScope ["_law_feed", "_law_signs", "_law_size"] ["_law_feed", "_law_signs", "_law_size"] (defScope z0o):=by trivial
theorem x0u(D:Df K mg "_law_text" z0o ["_law_feed", "_law_signs", "_law_size"])(T:Txt mg)(draw:Cal P w K mg base "_law_draw" 1 ["_law_feed", "_law_many"] spDraw):Cal P w K mg base "_law_text" 2 ["_law_feed", "_law_signs", "_law_size"] spText:=by
 refine D.cal x0t (fun vs H Q E h=>?_) (fun f cdv A outer s H vs Q E hr h=>?_)
 ·obtain⟨a,b,g,n,rfl,_⟩:=h;rfl
 ·obtain⟨a,b,g,n,rfl,F,hg0,hg1,hn0,hn1,k⟩:=h;have C:Calls P w K mg base:=⟨draw⟩
  refine⟨_,(q0f (q0m (@bm_k _ _ _ _ _ _ _ _ _ _ _ _ K rfl Cr Ql Qm (z9a K rfl) q1f (q0a (q3v ["_law_k"] [("_law_signs",1),("_law_feed",0)] rfl (q2w rfl T.b_range (q0a (pv 2) q0d)) (fun _ _ _ _ _=>(q0n (i:=0) (show(["_law_k", "_law_signs", "_law_feed"]:List Str).Nodup by decide +kernel) rfl (by trivial))) (fun _ _ _ _ _=>q6z) (fun _ _ _ _ _=>(q1a (ix_k K rfl) (pv 1) (pe_c C.draw hr (q0a (pv 2) (q0a (q0i (q2u K rfl) (by rfl) T.b_len Bt (q0a (pv 1) q0d)) q0d))) (fun _ _=>rfl)))) q0d) (by rfl) (by rfl) (by rfl) (by rfl) (by rfl)))),?_⟩;refine⟨rfl,_,rfl,n,rfl,by lia,by lia,fun D hD=>?_⟩;refine z0b (n:=n.toNat) (fun i ys H'=>∃cs:List Nat,ys=cs.map (fun c=>V.str ⟨#[c]⟩)/\cs.length=i/\i<=n.toNat/\(∀c∈cs,c∈tl g)/\Fd a b H H'/\H' D=some (.lst ys)) ⟨[],rfl,rfl,By _,fun _ h=>(nomatch h),(Fd.refl F).new hD,q0b⟩ (fun i ys H' ⟨cs,_,_,_,_,_,h⟩=>h) ?_ ?_
  ·rintro i ys H' hi ⟨cs,rfl,hl,_,hc,fd,hHD⟩;refine⟨_,rfl,_,rfl,_,rfl,_,_,rfl,⟨small (by lia),rfl⟩,a,b,_,rfl,fd.feed,by lia,by lia,fun r H2 r0 r1 fd2=>?_⟩;have hl2:(tl g).length=g.length:=(len g).symm;obtain⟨c,hc1,hc2⟩:=q4p (xs:=tl g) r0 (by lia);refine .inr (.inr ⟨g,r,c,rfl,rfl,small (by lia),hc2,?_⟩);have hDa:D≠a:=fun z=>by subst z;exact F.na hD rfl
   refine⟨fd2.at hHD hDa,small' (by rw[Ac];lia),cs++[c],by rw[Aj];rfl,by rw[Ap,hl];rfl,by lia,fun d hd=>?_,(fd.trans fd2).put F hD,q0b⟩;rcases Ax.mp hd with z|z
   ·exact hc d z
   ·rw[Ao.mp z];exact Aq hc1
  ·rintro ys H' ⟨cs,rfl,hl,_,hc,fd,hHD⟩;have e:cs.map (fun c=>V.str ⟨#[c]⟩)=(cs.map fun c=>(⟨#[c]⟩:Str)).map V.str:=by rw[Al];rfl
   refine⟨_,D,cs.map fun c=>⟨#[c]⟩,rfl,rfl,.inl (SqL.of (by rw[<- e];exact hHD)),?_,?_⟩
   ·rw[z1f,Ac];have:(Ag "").length=0:=by decide +kernel
    rw[this];lia
   ·have z:=q8m cs;rw[z];exact k cs H' hl hc fd
theorem q1g(p:Pth):(vP p).length=p.length:=Ac _
theorem q1d{q:Pth}(h:q≠[]):cutV (vP q) none (some (-1))=vP q.dropLast/\¬(HT.sIx (vP q).length 0 none=0/\HT.sIx (vP q).length (vP q).length (some (-1))=(vP q).length):=by
 have hl:=Eo.mpr h;have e:HT.sIx (vP q).length (vP q).length (some (-1))=q.length-1:=by
  show(if (-1:Int)<0 then((-1:Int)+((vP q).length:Int)).toNat else min (-1:Int).toNat (vP q).length)=_;rw[if_pos (by decide),q1g];lia
 refine⟨?_,fun z=>by rw[e,q1g] at z;lia⟩;unfold cutV;rw[e];show((vP q).drop 0).take _=_;rw[Qh];show(vP q).take (q.length-1-0)=_;rw[Mb,<- Gu,<- List.dropLast_eq_take]
theorem q2k{q:Pth}(h:q≠[]):atI (vP q) (-1)=some (.str (mk (q.getLastD []))):=by
 have hl:=Eo.mpr h;unfold atI ixN;rw[if_neg (by decide),if_pos (by rw[q1g];lia)];have e:((-1:Int)+((vP q).length:Int)).toNat=q.length-1:=by rw[q1g];lia
 show(vP q)[((-1:Int)+((vP q).length:Int)).toNat]?=_;rw[e,Az,<- List.getLast?_eq_getElem?,Du,Ct h];rfl
theorem q2z{q:Pth}(h:okP q):okN (q.getLastD []):=by
 rw[Du,Ct h.ne];exact h.all _ (List.getLast_mem h.ne)
theorem z1s{n:List Nat}(h:∀c∈n,c<128):Hv (mk n)=mk (lowN n):=by
 apply ext;rw[TX.lower (by rw[q2b];exact h),q2b,q2b];rfl
abbrev q2l:Stmt:=top 23
theorem q7j:FnScope [] [] (defScope q2l):=by trivial
theorem q7k(D:Df K mg "_law_name_signs" q2l []):Cal P w K mg base "_law_name_signs" 1 [] (spConst HM.NSs):=by
 refine D.cal q7j (fun vs H Q E h=>?_) (fun f cdv A outer s H vs Q E hr h=>?_)
 ·obtain⟨rfl,_⟩:=h;rfl
 ·obtain⟨rfl,k⟩:=h;refine⟨_,(q0f (q0m q1f)),?_⟩;exact k
structure CallsAN (P:Program) (w:World) (K:Ai) (mg:Str->Option Value) (base:Heap):Prop where
 draw:Cal P w K mg base "_law_draw" 1 ["_law_feed", "_law_many"] spDraw
 text:Cal P w K mg base "_law_text" 2 ["_law_feed", "_law_signs", "_law_size"] spText
 name_signs:Cal P w K mg base "_law_name_signs" 1 [] (spConst HM.NSs)
def spName:Sp:=fun vs H Q _=>∃a b,vs=[.ref a]/\FeedAt H a b/\∀(t:List Nat) H',okN t->Fd a b H H'->Q (.str (mk t)) H'
theorem fig_in:∀c∈tl (Ag "0123456789"),c∈HM.NS:=by decide +kernel
abbrev q5q:Stmt:=top 26
theorem sc_a_name:FnScope ["_law_feed", "_law_way"] ["_law_feed"] (defScope q5q):=by trivial
theorem z6a(D:Df K mg "_law_a_name" q5q ["_law_feed"])(T:Txt mg)(C:CallsAN P w K mg base):Cal P w K mg base "_law_a_name" 3 ["_law_feed"] spName:=by
 refine D.cal sc_a_name (fun vs H Q E h=>?_) (fun f cdv A outer s H vs Q E hr h=>?_)
 ·obtain⟨a,b,rfl,_⟩:=h;rfl
 ·obtain⟨a,b,rfl,F,k⟩:=h;refine⟨_,(q0e (q0h (i:=1) sc_a_name.nd rfl (by trivial) (pe_c C.draw hr (q0a (pv 0) (q0a q0g q0d)))) (q0e (q0y (q0k (eq_k K rfl hr) (pv 1) q0g (nomark _)) (q0f (q0m (pe_c C.text hr (q0a (pv 0) (q0a (pe_c0 C.name_signs hr) (q0a (q0w q1b q0g (pe_c C.draw hr (q0a (pv 0) (q0a q0g q0d)))) q0d)))))) q0l) (q0e (q0y (q0k (eq_k K rfl hr) (pv 1) q0g (nomark _)) (q0f (q0m (q0w q1b (q1a (ix_k K rfl) (q1n (q0a q1f (q0a q1f (q0a q1f q0d)))) (pe_c C.draw hr (q0a (pv 0) (q0a q0g q0d))) (fun _ _=>rfl)) (pe_c C.text hr (q0a (pv 0) (q0a q1f (q0a (q0w q1b q0g (pe_c C.draw hr (q0a (pv 0) (q0a q0g q0d)))) q0d))))))) q0l) (q0f (q0m (pe_c C.text hr (q0a (pv 0) (q0a (q0q (sl_k K rfl) q1f q0t (q0u (q0w q1b q0g (pe_c C.draw hr (q0a (pv 0) (q0a q0g q0d)))))) (q0a (q0w q1b q0g (pe_c C.draw hr (q0a (pv 0) (q0a q0g q0d)))) q0d))))))))),?_⟩;refine⟨_,rfl,a,b,_,rfl,F,by decide,by decide,fun r1 H1 r10 r11 fd1=>?_⟩;have kN:∀{g:Str} {n:Int} {H2:Hp},Fd a b H H2->(∀c∈tl g,c∈HM.NS)->1<=n->n<=12->∀(t:List Nat) H',t.length=n.toNat->(∀c∈t,c∈tl g)->Fd a b H2 H'->Q (.str (mk t)) H':=fun{g n H2} fd hg n1 n2 t H' l hc fd'=>k t H' ⟨by lia,by lia,fun c h=>hg c (hc c h)⟩ (fd.trans fd')
  refine⟨_,rfl,.inl ⟨rfl,_,rfl,ite2 (fun h=>?_) (fun h=>?_)⟩⟩
  ·refine⟨_,rfl,rfl,_,rfl,a,b,_,rfl,fd1.feed,by decide,by decide,fun r2 H2 r20 r21 fd2=>.inl ⟨_,_,rfl,rfl,?_⟩⟩;exact⟨a,b,HM.NSs,_,rfl,(fd1.trans fd2).feed,by decide +kernel,by decide +kernel,by lia,by lia,kN (fd1.trans fd2) (fun c h=>h) (by lia) (by lia)⟩
  refine⟨_,rfl,.inl ⟨rfl,_,rfl,ite2 (fun h=>?_) (fun h=>?_)⟩⟩
  ·refine⟨by show 3<=sizeLine;decide,fun M hM=>?_⟩;have fdM:=fd1.new (o:=.lst [.str (Ag "img"),.str (Ag "IMG"),.str (Ag "a")]) hM;have hMa:M≠a:=(fd1.feed.na hM).symm;refine⟨_,rfl,a,b,_,rfl,fdM.feed,by decide,by decide,fun r2 H2 r20 r21 fd2=>?_⟩;have hat:∃g:List Nat,atI [V.str (Ag "img"),V.str (Ag "IMG"),V.str (Ag "a")] r2=some (.str (mk g))/\g.length<=3/\∀c∈g,c∈HM.NS:=by
    have e:r2=0\/r2=1\/r2=2:=by lia
    rcases e with rfl|rfl|rfl
    ·exact⟨tl (Ag "img"),by rw[z4i];rfl,by decide +kernel,by decide +kernel⟩
    ·exact⟨tl (Ag "IMG"),by rw[z4i];rfl,by decide +kernel,by decide +kernel⟩
    ·exact⟨tl (Ag "a"),by rw[z4i];rfl,by decide +kernel,by decide +kernel⟩
   obtain⟨g,hat,hg1,hg2⟩:=hat;refine .inl ⟨M,_,r2,_,rfl,rfl,SqL.of (fd2.at q0b hMa),hat,?_⟩;have fd2':=fdM.trans fd2;refine⟨_,rfl,_,rfl,a,b,_,rfl,fd2'.feed,by decide,by decide,fun r3 H3 r30 r31 fd3=>.inl ⟨_,_,rfl,rfl,?_⟩⟩;have fd3':=fd2'.trans fd3;refine⟨a,b,Ag "0123456789",_,rfl,fd3'.feed,by decide +kernel,by decide +kernel,by lia,by lia,fun t H4 l hc fd4=>.inr (.inl ⟨_,_,rfl,rfl,?_,?_⟩)⟩
   ·rw[q4q,q4q];exact small (by lia)
   ·have e:mk g++mk t=mk (g++t):=by rw[<- z4i (mk g++mk t),z1e,q2b,q2b]
    rw[e];refine k (g++t) H4 ⟨by rw[Ap];lia,by rw[Ap];lia,fun c h=>?_⟩ (fd3'.trans fd4);rcases Ax.mp h with h|h
    ·exact hg2 c h
    ·exact fig_in c (hc c h)
  ·refine⟨_,rfl,_,rfl,a,b,_,rfl,fd1.feed,by decide,by decide,fun r2 H2 r20 r21 fd2=>.inl ⟨_,_,rfl,rfl,?_⟩⟩;have fd2':=fd1.trans fd2;have hs:0<(Oy (Ag "aAbB-") none (some (2+r2))).length/\(Oy (Ag "aAbB-") none (some (2+r2))).length<=1000/\∀c∈tl (Oy (Ag "aAbB-") none (some (2+r2))),c∈HM.NS:=by
    have e:r2=0\/r2=1\/r2=2\/r2=3:=by lia
    rcases e with rfl|rfl|rfl|rfl<;>decide +kernel
   refine⟨_,rfl,.inl ⟨_,rfl,by decide +kernel,_,rfl,a,b,_,rfl,fd2'.feed,by decide,by decide,fun r3 H3 r30 r31 fd3=>.inl ⟨_,_,rfl,rfl,?_⟩⟩⟩;exact⟨a,b,_,_,rfl,(fd2'.trans fd3).feed,hs.1,hs.2.1,by lia,by lia,kN (fd2'.trans fd3) hs.2.2 (by lia) (by lia)⟩
def spFold:Sp:=fun vs H Q _=>∃(t:List Nat) (bl:Bool),vs=[.str (mk t),.bl bl]/\okN t/\Q (.str (mk (if bl then lowN t else t))) H
abbrev z0p:Stmt:=top 27
theorem x0v:FnScope ["_law_name", "_law_blind"] ["_law_name", "_law_blind"] (defScope z0p):=by trivial
theorem x0w(D:Df K mg "_law_fold" z0p ["_law_name", "_law_blind"])(T:Txt mg):Cal P w K mg base "_law_fold" 1 ["_law_name", "_law_blind"] spFold:=by
 refine D.cal x0v (fun vs H Q E h=>?_) (fun f cdv A outer s H vs Q E hr h=>?_)
 ·obtain⟨t,bl,rfl,_⟩:=h;rfl
 ·obtain⟨t,bl,rfl,ok,k⟩:=h;refine⟨_,(q0f (q0m (pe_j (z0y (@q8l _ _ _ K rfl (pv 1) (fun _=>rfl)) (@z0a _ _ _ _ _ _ _ _ _ K rfl Cr Hy Hz q4u (pv 0) (by rfl) (by rfl)) (pv 0))))),?_⟩;refine⟨fun v H'=>v=.str (mk (if bl then lowN t else t))/\H'=H,fun v H' ⟨e1,e2⟩=>by rw[e1,e2];exact k,?_⟩;refine⟨_,rfl,bl,rfl,?_⟩;cases bl with
  |true =>
   refine iteT ⟨_,rfl,rfl,_,rfl,rfl,small (by rw[q4q];have:=ok.few;lia),?_,rfl⟩;exact congrArg V.str (z1s ok.low)
  |false=>exact iteF ⟨_,rfl,rfl,rfl⟩
end
end K
set_option maxHeartbeats 4000000
namespace K
open PySem L2 TX SB HM
section
variable{P:Program}{w:World}{K:Ai}{mg:Str->Option Value}{base:Heap}
theorem q9i:∀{p q:Pth},kP p=kP q->p=q
 |[],[],_=>rfl
 |[],_::_,h=>by cases h
 |_::_,[],h=>by cases h
 |a::p,b::q,h=>by
  unfold kP at h;rw[Ak,Ak] at h;injection h with h1 h2;injection h1 with h1;rw[SB.mk_inj h1,q9i h2]
theorem q4a{rs:List HRow}{p:Pth}(h:∀r∈rs,r.1≠p):valV (rs.map fun r=>(kP r.1,r.2)) (kP p)=none:=by
 induction rs with
 |nil=>rfl
 |cons r rs ih =>
  rw[Ak,q0z (fun z=>h r Au (q9i z))];exact ih fun x hx=>h x (Ar _ hx)
theorem q3a{rs:List HRow}{r:HRow}(hr:r∈rs)(nd:(rs.map (·.1)).Nodup):valV (rs.map fun r=>(kP r.1,r.2)) (kP r.1)=some r.2:=by
 induction rs with
 |nil=>cases hr
 |cons x rs ih =>
  rw[Ak,Ci] at nd;rcases Be.mp hr with rfl|hr
  ·rw[Ak];exact q1c rfl
  ·rw[Ak,q0z (fun z=>nd.1 (by rw[q9i z];exact Ah.mpr ⟨r,hr,rfl⟩))];exact ih hr nd.2
theorem q3j{rs:List HRow}{p:Pth}{v:V}(h:∀r∈rs,r.1≠p):putK (rs.map fun r=>(kP r.1,r.2)) (kP p) v=(rs++[(p,v)]).map fun r=>(kP r.1,r.2):=by
 rw[z7o v (q4a h),Aj];rfl
def keyO(bl:Bool)(p:Pth):PKey:=(kP p.dropLast,.inr (mk (if bl then lowN (p.getLastD []) else p.getLastD [])))
theorem x0x{bl:Bool}{p q:Pth}(hp:p≠[])(hq:q≠[])(h:fold bl p=fold bl q):keyO bl p=keyO bl q:=by
 obtain⟨h1,h2⟩:=(q7e hp hq).mp h;unfold keyO;cases bl with
 |true=>rw[if_pos rfl] at h2;rw[if_pos rfl,if_pos rfl,h1,h2]
 |false=>rw[if_neg (by decide)] at h2;rw[if_neg (by decide),if_neg (by decide),h1,h2]
theorem z8f{ks:List (PKey×Addr)}{k k':PKey}{b:Addr}(h:hasP ks k=true):hasP (ks++[(k',b)]) k=true:=by
 unfold hasP at *;rw[Va,h,Bool.true_or]
theorem z8g{ks:List (PKey×Addr)}{k:PKey}{b:Addr}:hasP (ks++[(k,b)]) k=true:=by
 unfold hasP;rw[Va,Rh];simp
structure RwI (P:Program) (w:World) (H:Hp) (a b L Dr d:Addr) (bl:Bool) (i:Nat) (H':Hp) (zs:List Zr) (ds:List (Addr×Pth)) (ks:List (PKey×Addr)):Prop where
 fd:Fd a b H H'
 rl:RL H' L zs
 hl:Hl bl (zs.map (·.2))
 len:zs.length<=i
 da:H' Dr=some (.lst (ds.map fun z=>V.ref z.1))
 dt:∀z∈ds,H' z.1=some (.tup (vP z.2))/\(z.2=[]\/((z.2,none)∈zs.map (·.2)))
 dn:ds≠[]
 dl:ds.length<=i+1
 hd:DPr P w H' d ks
 kl:ks.length<=i
 hk:∀z∈zs,hasP ks (keyO bl z.2.1)=true
theorem DPr.fd{P:Program}{w:World}{H H':Hp}{a b d:Addr}{ks:List (PKey×Addr)}(x:DPr P w H d ks)(F:FeedAt H a b)(fd:Fd a b H H')(hd:d≠a):DPr P w H' d ks :=
 ⟨fd.at x.at_ hd,x.sys,x.len,fun y hy=>by obtain⟨c,e1,e2⟩:=x.pk y hy;exact⟨c,tupFd F fd _ _ e1,tupFd F fd _ _ e2⟩⟩
section
variable{H:Hp}{a b L Dr d:Addr}{bl:Bool}{i:Nat}{H' H2:Hp}{zs:List Zr}{ds:List (Addr×Pth)}{ks:List (PKey×Addr)}
theorem RwI.go(x:RwI P w H a b L Dr d bl i H' zs ds ks)(fd:Fd a b H' H2)(hL:L≠a)(hD:Dr≠a)(hd:d≠a):RwI P w H a b L Dr d bl i H2 zs ds ks :=
 ⟨x.fd.trans fd,x.rl.fd x.fd.feed fd hL,x.hl,x.len,fd.at x.da hD,fun z hz=>⟨tupFd x.fd.feed fd _ _ (x.dt z hz).1,(x.dt z hz).2⟩,x.dn,x.dl,DPr.fd x.hd x.fd.feed fd hd,x.kl,x.hk⟩
theorem RwI.sm(x:RwI P w H a b L Dr d bl i H' zs ds ks)(s:Same H' H2):RwI P w H a b L Dr d bl i H2 zs ds ks :=
 ⟨x.fd.same s,x.rl.same s,x.hl,x.len,s _ _ x.da,fun z hz=>⟨s _ _ (x.dt z hz).1,(x.dt z hz).2⟩,x.dn,x.dl,x.hd.same s,x.kl,x.hk⟩
theorem RwI.dput{k:PKey}{e:Addr}(x:RwI P w H a b L Dr d bl i H' zs ds ks)(F:FeedAt H a b)(hd:H d=none)(pk:PrK H' k e)(l:ks.length<sizeLine)(nLd:L≠d)(nDd:Dr≠d):RwI P w H a b L Dr d bl (i+1) (upd H' d (PdO P w d (ks++[(k,e)]))) zs ds (ks++[(k,e)]):=by
 have tk:∀S xs,H' S=some (.tup xs)->upd H' d (PdO P w d (ks++[(k,e)])) S=some (.tup xs):=fun S xs e=>by rw[q0c (fun z=>by rw[z,x.hd.at_] at e;cases e)];exact e
 exact⟨x.fd.put F hd,⟨by rw[q0c nLd];exact x.rl.at_,fun z hz=>PR.same (x.rl.pr z hz) tk⟩,x.hl,Ek x.len,by rw[q0c nDd];exact x.da,fun z hz=>⟨tk _ _ (x.dt z hz).1,(x.dt z hz).2⟩,x.dn,Ek x.dl,x.hd.put pk l,by rw[Ap];exact Hh x.kl,fun z hz=>z8f (x.hk z hz)⟩
theorem PR.put{T:Addr}{r:Rw}{ys xs:List V}(h:PR H' T (rR r))(hL:H' L=some (.lst xs)):PR (upd H' L (.lst ys)) T (rR r):=PR.same h fun S xs e=>by rw[q0c (fun z=>by rw[z,hL] at e;cases e)];exact e
theorem RwI.rput{T p:Addr}{q:Pth}{m:Option Int}(x:RwI P w H a b L Dr d bl (i+1) H' zs ds ks)(F:FeedAt H a b)(hL:H L=none)(nLd:L≠d)(nDL:Dr≠L)(hz:zs.length<=i)(hT:H' T=some (.tup [.ref p,mV m]))(hp:H' p=some (.tup (vP q)))(ok:okP q)(hnew:∀z∈zs,fold bl z.2.1≠fold bl q)(hq:q.dropLast=[]\/(q.dropLast,none)∈zs.map (·.2))(hk:hasP ks (keyO bl q)=true):RwI P w H a b L Dr d bl (i+1) (upd H' L (.lst (zs.map (fun z=>V.ref z.1)++[.ref T]))) (zs++[(T,(q,m))]) ds ks:=by
 have tk:∀S xs,H' S=some (.tup xs)->upd H' L (.lst (zs.map (fun z=>V.ref z.1)++[.ref T])) S=some (.tup xs):=fun S xs e=>by rw[q0c (fun z=>by rw[z,x.rl.at_] at e;cases e)];exact e
 have em:(zs++[(T,(q,m))]).map (·.2)=zs.map (·.2)++[(q,m)]:=by rw[Aj];rfl
 refine⟨x.fd.put F hL,⟨by rw[q0b,Aj];rfl,fun z hz=>?_⟩,?_,by rw[Ap];exact Hh hz,by rw[q0c nDL];exact x.da,fun z hz=>⟨tk _ _ (x.dt z hz).1,(x.dt z hz).2.imp id fun y=>by rw[em];exact Ed _ y⟩,x.dn,x.dl,⟨by rw[q0c nLd.symm];exact x.hd.at_,x.hd.sys,x.hd.len,fun y hy=>by obtain⟨c,e1,e2⟩:=x.hd.pk y hy;exact⟨c,tk _ _ e1,tk _ _ e2⟩⟩,x.kl,fun z hz=>?_⟩
 ·rcases Ax.mp hz with hz|hz
  ·exact PR.same (x.rl.pr z hz) tk
  ·rw[Ao.mp hz];exact⟨p,tk _ _ hT,tk _ _ hp⟩
 ·rw[em];refine⟨fun r hr=>?_,?_,fun r hr=>?_⟩
  ·rcases Ax.mp hr with hr|hr
   ·exact x.hl.ok r hr
   ·rw[Ao.mp hr];exact ok
  ·rw[Aj];refine Dp.mpr ⟨x.hl.nd,(Oq _ _),fun y hy y' hy'=>?_⟩;rw[Ao.mp hy'];obtain⟨r,hr,rfl⟩:=Ah.mp hy;obtain⟨z,hz,rfl⟩:=Ah.mp hr;exact hnew z hz
  ·rcases Ax.mp hr with hr|hr
   ·exact(x.hl.dr r hr).imp id fun z=>Ed _ z
   ·rw[Ao.mp hr];exact hq.imp id fun z=>Ed _ z
 ·rcases Ax.mp hz with hz|hz
  ·exact x.hk z hz
  ·rw[Ao.mp hz];exact hk
theorem RwI.draw{p:Addr}{q:Pth}(x:RwI P w H a b L Dr d bl (i+1) H' zs ds ks)(F:FeedAt H a b)(hD:H Dr=none)(nDL:Dr≠L)(nDd:Dr≠d)(hl:ds.length<=i+1)(hp:H' p=some (.tup (vP q)))(hq:(q,none)∈zs.map (·.2)):RwI P w H a b L Dr d bl (i+1) (upd H' Dr (.lst (ds.map (fun z=>V.ref z.1)++[.ref p]))) zs (ds++[(p,q)]) ks:=by
 have tk:∀S xs,H' S=some (.tup xs)->upd H' Dr (.lst (ds.map (fun z=>V.ref z.1)++[.ref p])) S=some (.tup xs):=fun S xs e=>by rw[q0c (fun z=>by rw[z,x.da] at e;cases e)];exact e
 refine⟨x.fd.put F hD,⟨by rw[q0c nDL.symm];exact x.rl.at_,fun z hz=>PR.same (x.rl.pr z hz) tk⟩,x.hl,x.len,by rw[q0b,Aj];rfl,fun z hz=>?_,by simp,by rw[Ap];exact Hh hl,⟨by rw[q0c nDd.symm];exact x.hd.at_,x.hd.sys,x.hd.len,fun y hy=>by obtain⟨c,e1,e2⟩:=x.hd.pk y hy;exact⟨c,tk _ _ e1,tk _ _ e2⟩⟩,x.kl,x.hk⟩;rcases Ax.mp hz with hz|hz
 ·exact⟨tk _ _ (x.dt z hz).1,(x.dt z hz).2⟩
 ·rw[Ao.mp hz];exact⟨tk _ _ hp,.inr hq⟩
end
structure CallsN (P:Program) (w:World) (K:Ai) (mg:Str->Option Value) (base:Heap):Prop where
 draw:Cal P w K mg base "_law_draw" 1 ["_law_feed", "_law_many"] spDraw
 a_name:Cal P w K mg base "_law_a_name" 3 ["_law_feed"] spName
 fold:Cal P w K mg base "_law_fold" 1 ["_law_name", "_law_blind"] spFold
def spRows:Sp:=fun vs H Q _=>∃a b bl m,vs=[.ref a,.bl bl,.int m]/\FeedAt H a b/\0<=m/\m<=60/\∀L zs H',Fd a b H H'->H L=none->RL H' L zs->Hl bl (zs.map (·.2))->zs.length<=m.toNat->Q (.ref L) H'
abbrev z0q:Stmt:=top 28
theorem sc_rows:FnScope ["_law_feed", "_law_blind", "_law_most", "_law_rows_here", "_law_drawers", "_law_there", "_law_k", "_law_drawer", "_law_name", "_law_mark"] ["_law_feed", "_law_blind", "_law_most"] (defScope z0q):=by trivial
theorem x0y(D:Df K mg "_law_rows" z0q ["_law_feed", "_law_blind", "_law_most"])(T:Txt mg)(C:CallsN P w K mg base):Cal P w K mg base "_law_rows" 4 ["_law_feed", "_law_blind", "_law_most"] spRows:=by
 refine D.cal sc_rows (fun vs H Q E h=>?_) (fun f cdv A outer s H vs Q E hr h=>?_)
 ·obtain⟨a,b,bl,m,rfl,_⟩:=h;rfl
 ·obtain⟨a,b,bl,m,rfl,F,hm0,hm1,k⟩:=h;refine⟨_,(q0e (q0h (i:=3) sc_rows.nd rfl (by trivial) (q1n q0d)) (q0e (q0h (i:=4) sc_rows.nd rfl (by trivial) (q1n (q0a (q0o q0d) q0d))) (q0e (q0h (i:=5) sc_rows.nd rfl (by trivial) (z8d P w rfl rfl)) (q0e (q2r Dv rfl (q2w rfl T.b_range (q0a (pe_c C.draw hr (q0a (pv 0) (q0a (q0w q1b (pv 2) q0g) q0d))) q0d)) (q0n (i:=6) sc_rows.nd rfl (by trivial)) (q0e (q0h (i:=7) sc_rows.nd rfl (by trivial) (q1a (ix_k K rfl) (pv 4) (pe_c C.draw hr (q0a (pv 0) (q0a (q0i (q2u K rfl) (by rfl) T.b_len Bt (q0a (pv 4) q0d)) q0d))) (fun _ _=>rfl))) (q0e (q0h (i:=8) sc_rows.nd rfl (by trivial) (pe_c C.a_name hr (q0a (pv 0) q0d))) (q0e (q0h (i:=9) sc_rows.nd rfl (by trivial) (q1a (ix_k K rfl) (q1n (q0a z0w (q0a q0g (q0a (pe_c C.draw hr (q0a (pv 0) (q0a q0g q0d))) (q0a (pe_c C.draw hr (q0a (pv 0) (q0a (q0w q1b (q0w z8u q0g q0g) q0g) q0d))) q0d))))) (pe_c C.draw hr (q0a (pv 0) (q0a q0g q0d))) (fun _ _=>rfl))) (q0f (q0y (pt_j (@PW.pt _ _ _ (q2c (q0k z2f (q0i (q2u K rfl) (by rfl) T.b_len Bt (q0a (pv 7) q0d)) q0g (nomark _)) (q1p (q1v (z5w P w rfl rfl (z9l hr) (q0o (q0a (pv 7) (q0a (pe_c C.fold hr (q0a (pv 8) (q0a (pv 1) q0d))) q0d))) (pv 5))))))) (q0e (x0p P w rfl rfl (z9l hr) (pv 5) (q0o (q0a (pv 7) (q0a (pe_c C.fold hr (q0a (pv 8) (q0a (pv 1) q0d))) q0d))) q3o rfl) (q0e (q1w (@bm_k _ _ _ _ _ _ _ _ _ _ _ _ K rfl Co Dz Ea q1x (pv 3) (q0a (q0o (q0a (q0w q2j (pv 7) (q0o (q0a (pv 8) q0d))) (q0a (pv 9) q0d))) q0d) (by rfl) (by rfl) (by rfl) (by rfl) (by rfl))) (q0f (q0y (q1v (q5z (pv 9))) (q0f (q1w (@bm_k _ _ _ _ _ _ _ _ _ _ _ _ K rfl Co Dz Ea q1x (pv 4) (q0a (q0w q2j (pv 7) (q0o (q0a (pv 8) q0d))) q0d) (by rfl) (by rfl) (by rfl) (by rfl) (by rfl)))) q0l)))) q0l)))))) (q0f (q0m (pv 3))))))),?_⟩;refine⟨by show 0<=sizeLine;decide,fun L hL=>⟨by show 0<=sizeLine;decide,fun p0 hp0=>⟨by show 1<=sizeLine;decide,fun Dr hDr=>?_⟩⟩⟩;intro d hd hsys;have hLa:L≠a:=(q0j F.fa.choose_spec.choose_spec hL).symm;have s1:=(Same.refl H).new (o:=.lst []) hL;have s2:=s1.new (o:=.tup []) hp0;have s3:=s2.new (o:=.lst [.ref p0]) hDr;have s4:=s3.new (o:=PdO P w d []) hd;have hDrH:H Dr=none:=s2.free hDr;have hdH:H d=none:=s3.free hd;have hDa:Dr≠a:=(q0j F.fa.choose_spec.choose_spec hDrH).symm;have hda:d≠a:=(q0j F.fa.choose_spec.choose_spec hdH).symm;have hLp:p0≠L:=fun z=>by rw[z,q0b] at hp0;cases hp0
  have hLDr:Dr≠L:=fun z=>by rw[z,q0c hLp.symm,q0b] at hDr;cases hDr
  have hpDr:Dr≠p0:=fun z=>by rw[z,q0b] at hDr;cases hDr
  have hLd:d≠L:=fun z=>by rw[z,q0c hLDr.symm,q0c hLp.symm,q0b] at hd;cases hd
  have hDd:d≠Dr:=fun z=>by rw[z,q0b] at hd;cases hd
  have hpd:d≠p0:=fun z=>by rw[z,q0c hpDr.symm,q0b] at hd;cases hd
  have I0:RwI P w H a b L Dr d bl 0 (upd (upd (upd (upd H L (.lst [])) p0 (.tup [])) Dr (.lst [.ref p0])) d (PdO P w d [])) [] [(p0,[])] []:=by
   refine⟨(Fd.refl F).same s4,⟨?_,(fun _ h=>nomatch h)⟩,Hl.nil bl,Am _,?_,fun z hz=>?_,by simp,Am _,⟨q0b,hsys,By _,(fun _ h=>nomatch h)⟩,Am _,(fun _ h=>nomatch h)⟩
   ·rw[q0c hLd.symm,q0c hLDr.symm,q0c hLp.symm];exact q0b
   ·rw[q0c hDd.symm];exact q0b
   ·rw[Ao.mp hz];exact⟨by rw[q0c hpd.symm,q0c hpDr.symm];exact q0b,.inl rfl⟩
  refine⟨_,rfl,_,rfl,.inl ⟨_,_,rfl,rfl,a,b,_,rfl,I0.fd.feed,by lia,by lia,fun r0 H1 r00 r01 fd1=>?_⟩⟩;have I1:=I0.go fd1 hLa hDa hda;refine⟨r0,rfl,by lia,by lia,q3u (n:=r0.toNat) (fun i σ' H'=>∃zs ds ks x6 x7 x8 x9,σ'=[some (.ref a),some (.bl bl),some (.int m),some (.ref L),some (.ref Dr),some (.ref d),x6,x7,x8,x9]/\RwI P w H a b L Dr d bl i H' zs ds ks/\i<=r0.toNat) ⟨[],_,_,none,none,none,none,rfl,I1,By _⟩ ?_ ?_⟩
  ·rintro i σ' H' hi ⟨zs,ds,ks,x6,x7,x8,x9,rfl,I2,_⟩;have hdl:=I2.dl;have hdn:0<ds.length:=Eo.mpr I2.dn;refine⟨_,rfl,_,rfl,_,rfl,_,_,rfl,.inl ⟨_,SqL.of I2.da,rfl⟩,a,b,_,rfl,I2.fd.feed,by rw[Ac];lia,by rw[Ac];lia,fun r1 H2 r10 r11 fd2=>?_⟩;have I3:=I2.go fd2 hLa hDa hda;rw[Ac] at r11;obtain⟨v,hv1,hv2⟩:=q4p (xs:=ds.map fun z=>V.ref z.1) r10 (by rw[Ac];exact r11);obtain⟨z,hz,rfl⟩:∃z∈ds,v=V.ref z.1:=by
    rw[Az] at hv1;cases e:ds[r1.toNat]? with
    |none=>rw[e] at hv1;cases hv1
    |some z=>rw[e] at hv1;cases hv1;exact⟨z,Aq e,rfl⟩
   refine .inl ⟨Dr,_,r1,_,rfl,rfl,SqL.of I3.da,hv2,?_⟩;refine⟨_,rfl,a,b,rfl,I3.fd.feed,fun t H3 okt fd3=>?_⟩;have I4:=I3.go fd3 hLa hDa hda;refine⟨_,rfl,a,b,_,rfl,I4.fd.feed,by decide,by decide,fun m1 H5 m10 m11 fd5=>?_⟩;have I5:=I4.go fd5 hLa hDa hda;refine⟨_,rfl,_,_,rfl,rfl,⟨by decide,by decide,by decide⟩,.inl ⟨_,_,rfl,rfl,a,b,_,rfl,I5.fd.feed,by decide,by decide,fun m2 H6 m20 m21 fd6=>⟨by show 4<=sizeLine;decide,fun M hM=>?_⟩⟩⟩;have I6:=I5.go fd6 hLa hDa hda;have hMa:M≠a:=(I6.fd.feed.na hM).symm;have I7:=I6.sm ((Same.refl H6).new (o:=.lst [.non,.int 0,.int m1,.int m2]) hM);refine⟨_,rfl,a,b,_,rfl,I7.fd.feed,by decide,by decide,fun m3 H8 m30 m31 fd8=>?_⟩;have I8:=I7.go fd8 hLa hDa hda;have hat:∃mk0:Option Int,atI [V.non,V.int 0,V.int m1,V.int m2] m3=some (mV mk0):=by
    have e:m3=0\/m3=1\/m3=2\/m3=3:=by lia
    rcases e with rfl|rfl|rfl|rfl
    ·exact⟨none,rfl⟩
    ·exact⟨some 0,rfl⟩
    ·exact⟨some m1,rfl⟩
    ·exact⟨some m2,rfl⟩
   obtain⟨mk0,hat⟩:=hat;refine .inl ⟨M,_,m3,_,rfl,rfl,SqL.of (fd8.at q0b hMa),hat,?_⟩;clear hat I7 I6 I5 I4 I3 fd2 fd3 fd5 fd6 hv1 hv2 hMa;obtain⟨zt,zd⟩:=I8.dt z hz;have hqne:z.2++[t]≠[]:=by simp
   have hk2:keyO bl (z.2++[t])=(kP z.2,.inr (mk (if bl then lowN t else t))):=by
    unfold keyO;rw[Iy,List.getLastD_concat]
   have pk:∀{H9:Hp} {p:Addr},H9 z.1=some (.tup (vP z.2))->H9 p=some (.tup [.ref z.1,.str (mk (if bl then lowN t else t))])->PrK H9 (keyO bl (z.2++[t])) p:=fun{H9 p} e1 e2=>by
    rw[hk2];exact⟨z.1,e2,by rw[q4i];exact e1⟩
   refine⟨fun bb H9=>RwI P w H a b L Dr d bl i H9 zs ds ks/\(bb=true->z.2.length<6/\hasP ks (keyO bl (z.2++[t]))=false),?_,?_⟩;rotate_left
   ·refine⟨_,rfl,_,_,rfl,.inr ⟨_,SqT.of zt,rfl⟩,_,_,rfl,rfl,_,rfl,?_⟩;refine iteB (fun hb=>?_) (fun hb=>⟨I8,(fun z=>by cases z)⟩);have hb':z.2.length<6:=by
     have e:=of_decide_eq_true hb;rw[q1g] at e;lia
    refine⟨_,rfl,_,rfl,_,rfl,t,bl,rfl,okt,by show 2<=sizeLine;decide,fun p2 hp2=>?_⟩;have s9:=(Same.refl H8).new (o:=.tup [.ref z.1,.str (mk (if bl then lowN t else t))]) hp2;exact⟨_,rfl,d,ks,p2,keyO bl (z.2++[t]),rfl,rfl,(I8.sm s9).hd,pk (s9 _ _ zt) q0b,_,rfl,I8.sm s9,fun e=>⟨hb',by simpa using e⟩⟩
   rintro bb H9 ⟨I9,hbb⟩;refine ite2 (fun hb=>?_) (fun hb=>⟨zs,ds,ks,_,_,_,_,rfl,⟨I9.fd,I9.rl,I9.hl,Ek I9.len,I9.da,I9.dt,I9.dn,Ek I9.dl,I9.hd,Ek I9.kl,I9.hk⟩,hi⟩);obtain⟨h6,hno⟩:=hbb hb;obtain⟨zt9,_⟩:=I9.dt z hz;refine⟨_,rfl,_,rfl,_,rfl,_,rfl,t,bl,rfl,okt,by show 2<=sizeLine;decide,fun p3 hp3=>?_⟩;have sA:=(Same.refl H9).new (o:=.tup [.ref z.1,.str (mk (if bl then lowN t else t))]) hp3;have IA:=I9.sm sA;have pkA:=pk (sA _ _ zt9) (p:=p3) q0b;have ksl:ks.length<sizeLine:=by have:=I9.kl;exact small' (by lia)
   refine⟨d,ks,p3,keyO bl (z.2++[t]),rfl,rfl,rfl,IA.hd,pkA,hno,ksl,?_⟩;have IB:=IA.dput F hdH pkA ksl hLd.symm hDd.symm;have hl9:zs.length<=i:=I9.len;have hnew:∀y∈zs,fold bl y.2.1≠fold bl (z.2++[t]):=fun y hy e=>by
    have h1:=I9.hk y hy;rw[x0x (I9.hl.ok _ (Ah.mpr ⟨y,hy,rfl⟩)).ne hqne e] at h1;rw[h1] at hno;cases hno
   have okp:okP (z.2++[t]):=by
    refine⟨by simp,by rw[Ap];show _+1<=6;lia,fun n hn=>?_⟩;rcases Ax.mp hn with hn|hn
    ·rcases zd with e|e
     ·rw[e] at hn;cases hn
     ·exact(I9.hl.ok _ e).all n hn
    ·rw[Ao.mp hn];exact okt
   have hqd:(z.2++[t]).dropLast=[]\/((z.2++[t]).dropLast,none)∈zs.map (·.2):=by rw[Iy];exact zd
   have hkB:hasP (ks++[(keyO bl (z.2++[t]),p3)]) (keyO bl (z.2++[t]))=true:=z8g;clear IA I8 zt zt9 pkA pk hno hbb I9 sA;generalize upd (upd H9 p3 (.tup [.ref z.1,.str (mk (if bl then lowN t else t))])) d _=HB at IB;generalize ks++[(keyO bl (z.2++[t]),p3)]=ks2 at IB hkB;obtain⟨ztB,_⟩:=IB.dt z hz;refine⟨_,rfl,.inl ⟨rfl,_,SqL.of IB.rl.at_⟩,_,rfl,_,rfl,by show 1<=sizeLine;decide,fun p4 hp4=>?_⟩;have s5:=(Same.refl HB).new (o:=.tup [.str (mk t)]) hp4;refine⟨z.1,p4,_,_,rfl,rfl,s5 _ _ ztB,q0b,by rw[q1g];exact small (by show _+1<=_;lia),fun p5 HC sC hp5 _=>?_⟩;have hp5':HC p5=some (.tup (vP (z.2++[t]))):=by rw[hp5];show _=some (HO.tup ((z.2++[t]).map _));rw[Aj];rfl
   have IC:=IB.sm (s5.trans sC);refine⟨_,rfl,by show 2<=sizeLine;decide,fun T1 hT1=>?_⟩;have sD:=(Same.refl HC).new (o:=.tup [.ref p5,mV mk0]) hT1;have ID:=IC.sm sD;refine⟨L,_,_,rfl,rfl,ID.rl.at_,by rw[Ac];exact small' (by lia),?_⟩;have IE:=ID.rput (m:=mk0) F hL hLd.symm hLDr hl9 q0b (sD _ _ hp5') okp hnew hqd hkB;have zE:=(IE.dt z hz).1;generalize upd (upd HC T1 (.tup [.ref p5,mV mk0])) L _=HE at IE zE;refine⟨_,rfl,_,rfl,?_⟩;cases mk0 with
   |some x=>exact iteF ⟨_,_,_,_,_,_,_,rfl,IE,hi⟩
   |none =>
    refine iteT ⟨_,rfl,.inl ⟨rfl,_,SqL.of IE.da⟩,_,rfl,_,rfl,by show 1<=sizeLine;decide,fun p6 hp6=>?_⟩;have s6:=(Same.refl HE).new (o:=.tup [.str (mk t)]) hp6;refine⟨z.1,p6,_,_,rfl,rfl,s6 _ _ zE,q0b,by rw[q1g];exact small (by show _+1<=_;lia),fun p7 HF sF hp7 _=>?_⟩;have hp7':HF p7=some (.tup (vP (z.2++[t]))):=by rw[hp7];show _=some (HO.tup ((z.2++[t]).map _));rw[Aj];rfl
    have IF:=IE.sm (s6.trans sF);refine⟨Dr,_,_,rfl,rfl,IF.da,by rw[Ac];exact small' (by lia),?_⟩;exact⟨_,_,_,_,_,_,_,rfl,IF.draw F hDrH hLDr hDd.symm hdl hp7' (by simp),hi⟩
  ·rintro σ' H' ⟨zs,ds,ks,x6,x7,x8,x9,rfl,I2,_⟩;exact⟨_,rfl,k L zs H' I2.fd hL I2.rl I2.hl (by have:=I2.len;lia)⟩
end
end K
set_option maxHeartbeats 4000000
namespace K
open PySem L2 TX SB HM
section
variable{P:Program}{w:World}{K:Ai}{mg:Str->Option Value}{base:Heap}
structure Hk (K:Ai) (c:Addr):Prop where
 cl:Cls K c
 b:NoAttr K c "blind"
 m:NoAttr K c "marks"
abbrev hF(bl:Bool)(d:Addr):List (Str×V):=[("blind",.bl bl),("marks",.ref d)]
structure HallAt (c:Addr) (H:Hp) (h d:Addr) (bl:Bool) (rows:List Rw):Prop where
 i:∃dx,H h=some (.ins c dx (hF bl d))
 d:H d=some (dR (rows.map rR))
theorem HallAt.same{c:Addr}{H H':Hp}{h d:Addr}{bl:Bool}{rows:List Rw}(x:HallAt c H h d bl rows)(s:Same H H'):HallAt c H' h d bl rows:=⟨x.i.imp fun dx e=>s _ _ e,s _ _ x.d⟩
def spAlike:Sp:=fun vs H Q _=>∃x y,vs=[.str x,.str y]/\(∀c∈tl x,c<128)/\(∀c∈tl y,c<128)/\x.length<=1000/\y.length<=1000/\Q (.bl (decide ((tl x).map Gh=(tl y).map Gh))) H
abbrev q7l:Stmt:=top 18
theorem z8h:FnScope ["one", "other"] ["one", "other"] (defScope q7l):=by trivial
theorem z8i(D:Df K mg "alike" q7l ["one", "other"])(T:Txt mg):Cal P w K mg base "alike" 1 ["one", "other"] spAlike:=by
 refine D.cal z8h (fun vs H Q E h=>?_) (fun f cdv A outer s H vs Q E hr h=>?_)
 ·obtain⟨x,y,rfl,_⟩:=h;rfl
 ·obtain⟨x,y,rfl,ax,ay,lx,ly,k⟩:=h;refine⟨_,(q0f (q0m (q5a (eq_k K rfl hr) (@z0a _ _ _ _ _ _ _ _ _ K rfl Cr Hy Hz q4u (pv 0) (by rfl) (by rfl)) (@z0a _ _ _ _ _ _ _ _ _ K rfl Cr Hy Hz q4u (pv 1) (by rfl) (by rfl)) (nomark _)))),?_⟩;refine⟨_,rfl,rfl,_,rfl,rfl,small (by lia),⟨_,rfl,rfl,_,rfl,rfl,small (by lia),.inl ⟨rfl,?_⟩⟩⟩;have e:decide ((V.str (Hv x))=V.str (Hv y))=decide ((tl x).map Gh=(tl y).map Gh):=by
   rw[<- TX.lower ax,<- TX.lower ay];by_cases h:Hv x=Hv y
   ·rw[h];simp
   ·rw[decide_eq_false (fun z=>h (V.str.inj z)),decide_eq_false (fun z=>h (TX.ext z))]
  rw[e];exact k
structure CallsH (P:Program) (w:World) (K:Ai) (mg:Str->Option Value) (base:Heap):Prop where
 alike:Cal P w K mg base "alike" 1 ["one", "other"] spAlike
theorem q1h{p:Pth}(h:Low p):Low p.dropLast:=fun n hn=>h n (Ra _ hn)
def spOneP(c:Addr):Sp:=fun vs H Q _=>∃h p q bl dx fs one other,vs=[.ref h,.ref p,.ref q]/\H h=some (.ins c dx fs)/\fs.lookup ("blind" : Str)=some (V.bl bl)/\H p=some (.tup (vP one))/\H q=some (.tup (vP other))/\okP one/\okP other /\
 ∀H',Same H H'->Q (.bl (decide (fold bl one=fold bl other))) H'
abbrev q1e:Stmt:=inClass (top 20) 3
theorem q3l:FnScope ["self", "one", "other"] ["self", "one", "other"] (defScope q1e):=by trivial
theorem q9j{c:Addr}(D:Mf K c "is_one_place" "Hall.is_one_place" q1e ["self", "one", "other"])(hk:Hk K c)(T:Txt mg)(C:CallsH P w K mg base):MCal P w K mg base c "is_one_place" 2 ["self", "one", "other"] (spOneP c):=by
 refine D.cal hk.cl q3l (fun vs H Q E h=>?_) (fun f cdv A outer s H vs Q E hr h=>?_)
 ·obtain⟨h,p,q,bl,dx,fs,one,other,rfl,_⟩:=h;rfl
 ·obtain⟨h,p,q,bl,dx,fs,one,other,rfl,hh,hb,hp,hq,ok1,ok2,k⟩:=h;refine⟨_,(q0e (q0y (q0k (ne_k K rfl hr) (q0q (sl_k K rfl) (pv 1) q0t (q0u (q1r q0x q0g))) (q0q (sl_k K rfl) (pv 2) q0t (q0u (q1r q0x q0g))) (nomark _)) (q0f (q0m q3o)) q0l) (q0e (q0y (@q8l _ _ _ K rfl (@z2v _ _ _ _ _ K rfl (pv 0) (by rfl)) (fun _=>rfl)) (q0f (q0m (pe_c C.alike hr (q0a (q1a (ix_k K rfl) (pv 1) (q1r q0x q0g) (fun _ _=>rfl)) (q0a (q1a (ix_k K rfl) (pv 2) (q1r q0x q0g) (fun _ _=>rfl)) q0d))))) q0l) (q0f (q0m (q5a (eq_k K rfl hr) (q1a (ix_k K rfl) (pv 1) (q1r q0x q0g) (fun _ _=>rfl)) (q1a (ix_k K rfl) (pv 2) (q1r q0x q0g) (fun _ _=>rfl)) (nomark _)))))),?_⟩;obtain⟨c1,c2⟩:=q1d ok1.ne;obtain⟨d1,d2⟩:=q1d ok2.ne;refine⟨_,rfl,_,rfl,_,rfl,.inr (.inr ⟨p,_,rfl,SqT.of hp,c2,fun p1 hp1=>?_⟩)⟩;rw[c1];have s1:=(Same.refl H).new (o:=.tup (vP one.dropLast)) hp1;refine⟨_,rfl,_,rfl,_,rfl,.inr (.inr ⟨q,_,rfl,SqT.of (s1 _ _ hq),d2,fun p2 hp2=>?_⟩)⟩;rw[d1];have s2:=s1.new (o:=.tup (vP other.dropLast)) hp2;have hp1':upd (upd H p1 (.tup (vP one.dropLast))) p2 (.tup (vP other.dropLast)) p1=some (.tup (vP one.dropLast)):=by
   rw[q0c (fun z=>by rw[<- z,q0b] at hp2;cases hp2)];exact q0b
  generalize hH2:upd (upd H p1 (.tup (vP one.dropLast))) p2 (.tup (vP other.dropLast))=H2 at s2 hp1';have hp2':H2 p2=some (.tup (vP other.dropLast)):=by rw[<- hH2];exact q0b
  have fe:=q7e (bl:=bl) ok1.ne ok2.ne;refine q3z hp1' hp2' (q1h ok1.low) (q1h ok2.low) ⟨_,rfl,ite2 (fun hne=>?_) (fun hne=>?_)⟩
  ·have hne':one.dropLast≠other.dropLast:=by simpa using hne
   have e:decide (fold bl one=fold bl other)=false:=decide_eq_false fun z=>hne' (fe.mp z).1;refine(?_:Q _ _);rw[<- e];exact k _ s2
  ·have heq:one.dropLast=other.dropLast:=by simpa using hne
   refine⟨_,rfl,h,c,dx,fs,_,rfl,s2 _ _ hh,hk.cl,hk.b,hb,_,rfl,?_⟩;have l1:=q2z ok1;have l2:=q2z ok2;cases bl with
   |true =>
    refine iteT ⟨_,rfl,_,rfl,.inr (.inl ⟨p,_,-1,_,rfl,rfl,SqT.of (s2 _ _ hp),q2k ok1.ne,?_⟩)⟩;refine⟨_,rfl,_,rfl,.inr (.inl ⟨q,_,-1,_,rfl,rfl,SqT.of (s2 _ _ hq),q2k ok2.ne,?_⟩)⟩;refine⟨_,_,rfl,by rw[q2b];exact l1.low,by rw[q2b];exact l2.low,by rw[q4q];have:=l1.few;lia,by rw[q4q];have:=l2.few;lia,?_⟩;rw[q2b,q2b];have e:decide (fold true one=fold true other)=decide (lowN (one.getLastD [])=lowN (other.getLastD [])):=by
     refine decide_eq_decide.mpr (fe.trans ⟨fun z=>by simpa using z.2,fun z=>⟨heq,by simpa using z⟩⟩)
    have:=k _ s2;rw[e] at this;exact this
   |false =>
    refine iteF ⟨_,rfl,_,rfl,.inr (.inl ⟨p,_,-1,_,rfl,rfl,SqT.of (s2 _ _ hp),q2k ok1.ne,?_⟩)⟩;refine⟨_,rfl,_,rfl,.inr (.inl ⟨q,_,-1,_,rfl,rfl,SqT.of (s2 _ _ hq),q2k ok2.ne,?_⟩)⟩;refine .inl ⟨rfl,?_⟩;have e:decide (fold false one=fold false other)=decide (V.str (mk (one.getLastD []))=V.str (mk (other.getLastD []))):=by
     refine decide_eq_decide.mpr (fe.trans ⟨fun z=>?_,fun z=>⟨heq,?_⟩⟩)
     ·have:=z.2;simp only[Bb,if_false] at this;rw[this]
     ·simp only[Bb,if_false];exact SB.mk_inj (V.str.inj z)
    have:=k _ s2;rw[e] at this;exact this
def spThere(c:Addr):Sp:=fun vs H Q _=>∃h d p bl rows place,vs=[.ref h,.ref p]/\HallAt c H h d bl rows/\H p=some (.tup (vP place))/\okP place/\(∀r∈rows,okP r.1) /\
 (∀H',Same H H'->(∀r∈rows,fold bl r.1≠fold bl place)->Q .non H')/\∀H' b r,Same H H'->r∈rows->fold bl r.1=fold bl place->H' b=some (.tup (vP r.1))->Q (.ref b) H'
structure CallsI (P:Program) (w:World) (K:Ai) (mg:Str->Option Value) (base:Heap) (c:Addr):Prop where
 m_is_one_place:MCal P w K mg base c "is_one_place" 2 ["self", "one", "other"] (spOneP c)
theorem q9k{H H':Hp}{d:Addr}{o:HO}(hd:H d=some o)(k:∀a u,a≠d->H a=some u->H' a=some u):Same H (upd H' d o):=fun a u e=>by
 by_cases z:a=d
 ·subst z;rw[q0b,<- hd];exact e
 ·rw[q0c z];exact k a u z e
abbrev q2m:Stmt:=inClass (top 20) 4
theorem sc_Hall_there:FnScope ["self", "place", "path"] ["self", "place"] (defScope q2m):=by trivial
theorem z8j{c:Addr}(D:Mf K c "there" "Hall.there" q2m ["self", "place"])(hk:Hk K c)(T:Txt mg)(C:CallsI P w K mg base c):MCal P w K mg base c "there" 3 ["self", "place"] (spThere c):=by
 refine D.cal hk.cl sc_Hall_there (fun vs H Q E h=>?_) (fun f cdv A outer s H vs Q E hr h=>?_)
 ·obtain⟨h,d,p,bl,rows,place,rfl,_⟩:=h;rfl
 ·obtain⟨h,d,p,bl,rows,place,rfl,hh,hp,ok,oks,k1,k2⟩:=h;refine⟨_,(q0e (x0d H rfl (q2r Dv rfl (@ditT_k _ _ _ _ K rfl (@z2v _ _ _ _ _ K rfl (pv 0) (by rfl))) (q0n (i:=2) sc_Hall_there.nd rfl (by trivial)) (q0f (q0y (@q8l _ _ _ K rfl (pe_m C.m_is_one_place hr (pv 0) (q0a (pv 2) (q0a (pv 1) q0d))) (fun _=>rfl)) (q0f (q0m (pv 2))) q0l)))) (q0f (q0m z0w))),?_⟩;obtain⟨dx,hi⟩:=hh.i;have hd:=hh.d;have hhd:h≠d:=fun z=>by rw[z,hd] at hi;cases hi
  have hpd:p≠d:=fun z=>by rw[z,hd] at hp;cases hp
  refine⟨d,(fun o v e=>by rw[hd] at e;cases e),?_⟩;refine⟨_,rfl,h,c,dx,_,_,rfl,hi,hk.cl,hk.m,rfl,d,_,rfl,hd,fun ob=>?_⟩;refine z4p (fun i σ' H'=>(∃x,σ'=[some (.ref h),some (.ref p),x])/\H' d=some (.frz ob (dR (rows.map rR)))/\(∀a u,a≠d->H a=some u->H' a=some u)/\∀r∈rows.take i,fold bl r.1≠fold bl place)
   ⟨⟨none,rfl⟩,q0b,fun a u n e=>by rw[q0c n];exact e,fun r hr=>by rw[List.take_zero] at hr;cases hr⟩ (fun i σ' H' x=>x.2.1) ?_ ?_
  ·rintro i ky v b σ' H' hk' hb ⟨⟨x,rfl⟩,hfz,kp,hno⟩;obtain⟨r,hr,rfl,rfl⟩:∃r,rows[i]?=some r/\ky=kP r.1/\v=mV r.2:=by
    rw[Az,Az] at hk';cases e:rows[i]? with
    |none=>rw[e] at hk';cases hk'
    |some r=>rw[e] at hk';cases hk';exact⟨r,rfl,rfl,rfl⟩
   have hrm:=Aq hr;rw[q4i] at hb;refine⟨_,rfl,h,dx,_,rfl,kp _ _ hhd hi,rfl,_,rfl,_,rfl,h,b,p,bl,dx,_,r.1,place,rfl,kp _ _ hhd hi,rfl,hb,kp _ _ hpd hp,oks r hrm,ok,fun H2 s2=>⟨_,rfl,?_⟩⟩;have kp2:∀a u,a≠d->H a=some u->H2 a=some u:=fun a u n e=>s2 _ _ (kp a u n e);refine iteB (fun he=>?_) (fun he=>?_)
   ·refine⟨_,rfl,ob,_,s2 _ _ hfz,k2 _ b r (q9k hd kp2) hrm (of_decide_eq_true he) ?_⟩;rw[q0c (fun z=>by rw[z,hfz] at hb;cases hb)];exact s2 _ _ hb
   ·refine⟨⟨_,rfl⟩,s2 _ _ hfz,kp2,fun y hy=>?_⟩;rw[Cb,hr] at hy;rcases Ax.mp hy with hy|hy
    ·exact hno y hy
    ·cases Ao.mp hy;exact of_decide_eq_false he
  ·rintro σ' H' ⟨⟨x,rfl⟩,hfz,kp,hno⟩;refine⟨ob,_,hfz,k1 _ (q9k hd kp) fun r hr=>hno r ?_⟩;rw[Ac,Ac,Cf];exact hr
def spHRows(c:Addr):Sp:=fun vs H Q _=>∃h d bl rows,vs=[.ref h]/\HallAt c H h d bl rows/\rows.length<64/\(∀r∈rows,Low r.1) /\
 ∀L zs H',H L=none->Same H H'->RL H' L zs->(zs.map (·.2)).Perm rows->(zs.map (·.2.1)).Pairwise (fun a b=>pLt b a=false)->Q (.ref L) H'
abbrev q3b:Stmt:=inClass (top 20) 1
theorem q9l:FnScope ["self"] ["self"] (defScope q3b):=by trivial
theorem z8k{c:Addr}(D:Mf K c "rows" "Hall.rows" q3b ["self"])(hk:Hk K c)(T:Txt mg):MCal P w K mg base c "rows" 2 ["self"] (spHRows c):=by
 refine D.cal hk.cl q9l (fun vs H Q E h=>?_) (fun f cdv A outer s H vs Q E hr h=>?_)
 ·obtain⟨h,d,bl,rows,rfl,_⟩:=h;rfl
 ·obtain⟨h,d,bl,rows,rfl,hh,h64,hlow,k⟩:=h;refine⟨_,(q0f (q0m (q0i (z2u hr) (by rfl) T.b_sorted (by decide +kernel) (q0a (@z0a _ _ _ _ _ _ _ _ _ K rfl Kl PySem.F.slot_dict_items PySem.F.type_dict_items z7w (@z2v _ _ _ _ _ K rfl (pv 0) (by rfl)) (by rfl) (by rfl)) q0d)))),?_⟩;obtain⟨dx,hi⟩:=hh.i;refine⟨_,rfl,h,c,dx,_,_,rfl,hi,hk.cl,hk.m,rfl,.inr (.inr (.inl ⟨rfl,.inr ⟨_,hh.d⟩⟩)),d,_,rfl,rfl,hh.d,fun v hv=>?_⟩;have s1:=(Same.refl H).new (o:=vwO v d) hv;refine⟨v,d,rows.map rR,rfl,q0b,s1 _ _ hh.d,by rw[Ac];exact h64,fun r hr=>?_,fun L as rs H' hL hp hs sm hLL prs=>?_⟩
  ·obtain⟨x,hx,rfl⟩:=Ah.mp hr;exact hlow x hx
  ·obtain⟨rows',p',rfl⟩:=perm_map_inv hp rfl;obtain⟨zs,z1,z2,z3⟩:=zs_of prs rfl;refine k L zs H' (s1.free hL) (s1.trans sm) ⟨?_,z3⟩ (by rw[z2];exact p') ?_
   ·rw[hLL,<- z1,Al];rfl
   ·have e:zs.map (·.2.1)=(rows'.map rR).map (·.1):=by rw[<- z2,Al,Al];rfl
    rw[e];exact hs
theorem z1t{α:Type}:∀{l:List α} {i:Nat} {r:α},l[i]?=some r->l=l.take i++r::l.drop (i+1)
 |[],_,_,h=>by cases h
 |a::l,0,_,h=>by cases h;rfl
 |a::l,i+1,r,h=>by show a::l=a::(l.take i++r::l.drop (i+1));rw[<- z1t (l:=l) (i:=i) h]
theorem z6b{α β:Type}{f:α->β}{l:List α}{i:Nat}{r r':α}(nd:(l.map f).Nodup)(hr:l[i]?=some r)(hr':r'∈l.take i):f r'≠f r:=by
 rw[z1t hr,Aj,Ak] at nd;exact fun z=>(Dp.mp nd).2.2 _ (Ah.mpr ⟨r',hr',rfl⟩) _ Au z
structure InInv (c:Addr) (H:Hp) (x dx d Dr:Addr) (bl:Bool) (rows:List Rw) (ys:List (List Key×V)) (i:Nat) (H':Hp):Prop where
 ins:H' x=some (.ins c dx (hF bl d))
 d:H' d=some (dR ((rows.take i).map rR))
 r:H' Dr=some (.dT ys)
 k:∀a u,a≠x->H a=some u->H' a=some u
theorem InInv.same{c:Addr}{H H' H2:Hp}{x dx d Dr:Addr}{bl:Bool}{rows:List Rw}{ys:List (List Key×V)}{i:Nat}(v:InInv c H x dx d Dr bl rows ys i H')(s:Same H' H2):InInv c H x dx d Dr bl rows ys i H2:=⟨s _ _ v.ins,s _ _ v.d,s _ _ v.r,fun a u n e=>s _ _ (v.k a u n e)⟩
def spInit(c:Addr):Sp:=fun vs H Q _=>∃x dx L bl zs,vs=[.ref x,.ref L,.bl bl]/\H x=some (.ins c dx [])/\RL H L zs/\Hl bl (zs.map (·.2))/\zs.length<=60 /\
 ∀d H',H d=none->H' x=some (.ins c dx (hF bl d))->H' d=some (dR ((zs.map (·.2)).map rR))->(∀a u,a≠x->H a=some u->H' a=some u)->Q .non H'
structure CallsK (P:Program) (w:World) (K:Ai) (mg:Str->Option Value) (base:Heap) (c:Addr):Prop where
 m_there:MCal P w K mg base c "there" 3 ["self", "place"] (spThere c)
abbrev q0s:Stmt:=inClass (top 20) 0
theorem sc_Hall___init__:FnScope ["self", "rows", "blind", "drawers", "at", "path", "mark", "drawer"] ["self", "rows", "blind"] (defScope q0s):=by trivial
theorem x0z{c:Addr}(D:Kf K mg c "Hall" "Hall.__init__" q0s ["self", "rows", "blind"])(hk:Hk K c)(T:Txt mg)(C:CallsK P w K mg base c):KCal P w K mg base c "Hall" 4 ["self", "rows", "blind"] (spInit c):=by
 refine D.cal sc_Hall___init__ (fun vs H Q E h=>?_) (fun f cdv A outer s H vs Q E hr h=>?_)
 ·obtain⟨x,dx,L,bl,zs,rfl,_⟩:=h;rfl
 ·obtain⟨x,dx,L,bl,zs,rfl,hx,hl,hH,h60,k⟩:=h;refine⟨_,(q0e (@z9f _ _ _ _ _ _ _ _ K rfl (pv 0) (pv 2) (by rfl)) (q0e (@z9f _ _ _ _ _ _ _ _ K rfl (pv 0) q4v (by rfl)) (q0e (z7y (i:=3) ["path", "mark"] [] sc_Hall___init__.nd rfl (by trivial) rfl (@q5v _ _ _ _ K rfl (pv 1)) (fun _ _ _ _ _=>(@q2t _ _ _ _ (2) _ K rfl rfl (q0p (q0n (i:=0) (show(["path", "mark"]:List Str).Nodup by decide +kernel) rfl (by trivial)) (q0p (q0n (i:=1) (show(["path", "mark"]:List Str).Nodup by decide +kernel) rfl (by trivial)) q1q)) (by rfl) (by rfl))) (fun _ _ _ _ _=>(q9v (q1v (q5z (pv 1))))) (fun _ _ _ _ _=>(pv 0)) (fun _ _ _ _ _=>q3o) (q1y hr)) (q0f (q2r Dv rfl (@z4k _ _ _ _ _ _ _ _ K rfl rfl T.b_enumerate (q0a (pv 1) q0d) (by rfl)) (@q2t _ _ _ _ (2) _ K rfl rfl (q0p (q0n (i:=4) sc_Hall___init__.nd rfl (by trivial)) (q0p (@q2t _ _ _ _ (2) _ K rfl rfl (q0p (q0n (i:=5) sc_Hall___init__.nd rfl (by trivial)) (q0p (q0n (i:=6) sc_Hall___init__.nd rfl (by trivial)) q1q)) (by rfl) (by rfl)) q1q)) (by rfl) (by rfl)) (q0e (q0h (i:=7) sc_Hall___init__.nd rfl (by trivial) (q0q (sl_k K rfl) (pv 5) q0t (q0u (q1r q0x q0g)))) (q0e (q0y (pt_j (@PW.pt _ _ _ (q2c (q0k (ne_k K rfl hr) (pv 7) (q0o q0d) (nomark _)) (q1p (q1v (q8q (q1y hr) (pv 7) (pv 3))))))) (q0f z0z) q0l) (q0e (q0y (q1v (q4z (pe_m C.m_there hr (pv 0) (q0a (pv 5) q0d)))) (q0f z0z) q0l) (q0f (q7b (q1y hr) (@z2v _ _ _ _ _ K rfl (pv 0) (by rfl)) (pv 5) (pv 6) rfl)))))))))),?_⟩;have hLx:L≠x:=fun z=>by have e:=hl.at_;rw[z,hx] at e;cases e
  refine⟨_,rfl,_,rfl,x,c,dx,_,rfl,hx,hk.cl,hk.b,by decide,?_⟩;intro d hd;have hdx:d≠x:=fun z=>by rw[z,q0b] at hd;cases hd
  have hdH:H d=none:=by rw[q0c hdx] at hd;exact hd
  refine⟨_,rfl,x,c,dx,_,rfl,by rw[q0c hdx.symm];exact q0b,hk.cl,hk.m,by show 1<1000;decide,?_⟩;have pf:putF ("marks" : Str) (V.ref d) (putF ("blind" : Str) (V.bl bl) [])=hF bl d:=rfl;generalize hH3:upd (upd (upd H x (.ins c dx (putF ("blind" : Str) (.bl bl) []))) d (.dT [])) x (.ins c dx (putF ("marks" : Str) (.ref d) (putF ("blind" : Str) (.bl bl) [])))=H3;have k3:∀a u,a≠x->H a=some u->H3 a=some u:=fun a u n e=>by
   rw[<- hH3,q0c n,q0c (fun z=>by rw[z,hdH] at e;cases e),q0c n];exact e
  have i3:H3 x=some (.ins c dx (hF bl d)):=by rw[<- hH3,<- pf];exact q0b
  have d3:H3 d=some (.dT []):=by rw[<- hH3,q0c hdx];exact q0b
  have hl3:∀{H':Hp},(∀a u,a≠x->H a=some u->H' a=some u)->RL H' L zs:=fun{H'} kk=>⟨kk _ _ hLx hl.at_,fun z hz=>PR.same (hl.pr z hz) fun T' xs e=>kk _ _ (fun y=>by rw[y,hx] at e;cases e) e⟩
  refine⟨_,rfl,.inl ⟨L,rfl,⟨_,SqL.of (hl3 k3).at_⟩,fun Dr hDr=>?_⟩⟩;refine q6i (fun i ys H'=>H' Dr=some (.dT ys)/\Same H3 H'/\ys.length<=i/\i<=zs.length/\∀p,(p,none)∈(zs.take i).map (·.2)->(valV ys (kP p)).isSome=true) ⟨q0b,(Same.refl H3).new hDr,Am _,By _,fun p hp=>by rw[List.take_zero] at hp;cases hp⟩ (fun i ys H' h=>⟨h.1,SqL.of (h.2.1 _ _ (hl3 k3).at_)⟩) ?_ ?_
  ·rintro i ys H' v hv ⟨hD',s',hlen,_,hsome⟩;obtain⟨z,hz,rfl⟩:=gR0 hv
   have hi:i<zs.length:=(Bg.mp hz).1;obtain⟨b,h1,h2⟩:=((hl3 k3).same s').pr z (Aq hz);refine⟨z.1,_,rfl,SqT.of h1,rfl,_,_,rfl,_,_,rfl,rfl,q3g,?_⟩;refine⟨_,rfl,_,rfl,?_⟩;refine iteB (fun hm=>?_) (fun hm=>?_)
   ·refine⟨_,rfl,kP z.2.1,b,rfl,by rw[q4i];exact h2,hD',small' (by lia),q0b,fun a u e=>?_,?_,hi,fun p hp=>?_⟩
    ·rw[q0c (fun y=>by rw[y] at e;rw[hDr] at e;cases e)];exact s' _ _ e
    ·have:=q1i ys (kP z.2.1) (.bl true);lia
    ·rw[z7n];by_cases e:kP p=kP z.2.1
     ·rw[if_pos e];rfl
     ·rw[if_neg e];rw[Cb,hz,Aj] at hp;rcases Ax.mp hp with hp|hp
      ·exact hsome p hp
      ·exfalso;have e2:(p,none)=z.2:=Ao.mp hp;exact e (by rw[<- e2])
   ·refine⟨hD',s',by lia,hi,fun p hp=>?_⟩;rw[Cb,hz,Aj] at hp;rcases Ax.mp hp with hp|hp
    ·exact hsome p hp
    ·exfalso;have e:(p,none)=z.2:=Ao.mp hp;refine of_decide_eq_false hm ?_;show mV z.2.2=_;rw[<- e];rfl
  ·rintro ys H' ⟨hD',s',hlen,_,hsome⟩;rw[Ac,Cf] at hsome;have I0:InInv c H x dx d Dr bl (zs.map (·.2)) ys 0 H':=⟨s' _ _ i3,s' _ _ d3,hD',fun a u n e=>s' _ _ (k3 a u n e)⟩
   have hDx:Dr≠x:=fun z=>by rw[z,i3] at hDr;cases hDr
   have hDd:Dr≠d:=fun z=>by rw[z,d3] at hDr;cases hDr
   refine⟨_,rfl,.inr ⟨L,_,rfl,SqL.of (hl3 I0.k).at_,?_⟩⟩;refine q5m (fun i σ' H2=>∃x4 x5 x6 x7,σ'=[some (.ref x),some (.ref L),some (.bl bl),some (.ref Dr),x4,x5,x6,x7]/\InInv c H x dx d Dr bl (zs.map (·.2)) ys i H2) ⟨none,none,none,none,rfl,I0⟩ (fun i σ' H2 h=>by obtain⟨_,_,_,_,_,h⟩:=h;exact SqL.of (hl3 h.k).at_) ?_ ?_
   ·rintro i v T' σ' H2 hv ⟨x4,x5,x6,x7,rfl,I⟩ hT;obtain⟨z,hz,rfl⟩:=gR0 hv
    have hi:i<zs.length:=(Bg.mp hz).1;have hzr:(zs.map (·.2))[i]?=some z.2:=by rw[Az,hz];rfl
    have hzm:=Aq hzr;have okz:=hH.ok _ hzm;have sT:=(Same.refl H2).new (o:=.tup [.int i,.ref z.1]) hT;have I1:=I.same sT;obtain⟨b,h1,h2⟩:=(hl3 I1.k).pr z (Aq hz);refine⟨T',_,rfl,SqT.of q0b,rfl,_,_,rfl,_,_,rfl,z.1,_,rfl,SqT.of h1,rfl,_,_,rfl,_,_,rfl,rfl,rfl,?_⟩;generalize upd H2 T' (.tup [.int i,.ref z.1])=H4 at sT I1 h1 h2;replace h1:H4 z.1=some (.tup [.ref b,mV z.2.2]):=h1;replace h2:H4 b=some (.tup (vP z.2.1)):=h2;obtain⟨c1,c2⟩:=q1d okz.ne;refine⟨_,rfl,_,rfl,_,rfl,.inr (.inr ⟨b,_,rfl,SqT.of (xs:=vP z.2.1) h2,c2,fun p1 hp1=>?_⟩)⟩;rw[c1];have s5:=(Same.refl H4).new (o:=.tup (vP z.2.1.dropLast)) hp1;have I2:=I1.same s5;have h2':=s5 _ _ h2;have hp1':upd H4 p1 (.tup (vP z.2.1.dropLast)) p1=some (.tup (vP z.2.1.dropLast)):=q0b;generalize upd H4 p1 (.tup (vP z.2.1.dropLast))=H5 at s5 I2 h2' hp1';refine⟨fun bb H6=>bb=false/\Same H5 H6,?_,?_⟩
    ·rintro bb H6 ⟨rfl,s6⟩;refine iteF ?_;have I3:=I2.same s6;refine⟨_,rfl,x,dx,_,rfl,I3.ins,rfl,_,rfl,x,d,b,bl,_,z.2.1,rfl,⟨⟨dx,I3.ins⟩,I3.d⟩,s6 _ _ h2',okz,fun r hr=>hH.ok r (Hb hr),fun H7 s7 _=>?_,fun H7 b' r s7 hr e _=>absurd e (z6b (f:=fun r:Rw=>fold bl r.1) hH.nd hzr hr)⟩;refine⟨_,rfl,iteF ?_⟩;have I4:=I3.same s7;refine⟨_,rfl,_,rfl,x,c,dx,_,_,rfl,I4.ins,hk.cl,hk.m,rfl,_,rfl,d,_,rfl,DPut.t (k:=kP z.2.1) I4.d (by rw[q4i];exact s7 _ _ (s6 _ _ h2')) (by rw[Ac,Ac,Bp,Ac];exact small' (by lia)),?_⟩;have hnew:∀r∈((zs.map (·.2)).take i).map rR,r.1≠z.2.1:=fun r hr=>by
      obtain⟨y,hy,rfl⟩:=Ah.mp hr;exact z6b (f:=fun r:Rw=>r.1) hH.paths hzr hy
     rw[q3j hnew];refine⟨_,_,_,_,rfl,?_,?_,?_,fun a u n e=>?_⟩
     ·rw[q0c hdx.symm];exact I4.ins
     ·have e:((zs.map (·.2)).take (i+1)).map rR=((zs.map (·.2)).take i).map rR++[(z.2.1,mV z.2.2)]:=by rw[Cb,hzr,Aj];rfl
      rw[e];exact q0b
     ·rw[q0c hDd];exact I4.r
     ·rw[q0c (fun y=>by rw[y,hdH] at e;cases e)];exact I4.k a u n e
    ·refine⟨_,rfl,by show 0<=sizeLine;decide,fun e0 he0=>?_⟩;have s6:=(Same.refl H5).new (o:=.tup []) he0;refine q3z (q:=[]) (s6 _ _ hp1') q0b (q1h okz.low) (fun _ h=>nomatch h) ⟨_,rfl,?_⟩;refine iteB (fun hne=>?_) (fun hne=>?_)
     ·have hne':z.2.1.dropLast≠[]:=by simpa using hne
      have hin:=hsome _ ((hH.dr _ hzm).resolve_left hne');refine⟨_,rfl,_,rfl,Dr,_,rfl,DGet.t (k:=kP z.2.1.dropLast) (I2.same s6).r (by rw[q4i];exact s6 _ _ hp1'),_,rfl,?_,s6⟩;cases e:valV ys (kP z.2.1.dropLast) with
      |none=>rw[e] at hin;cases hin
      |some v=>rfl
     ·exact⟨rfl,s6⟩
   ·rintro σ' H2 ⟨x4,x5,x6,x7,rfl,I⟩;have hd2:=I.d;rw[Ac,<- Ac (f:=fun z:Zr=>z.2),Cf] at hd2;exact k d H2 hdH I.ins hd2 I.k
theorem vP_app(p q:Pth):vP (p++q)=vP p++vP q:=Aj
theorem z8l{rs:List HRow}{p:Pth}{v:V}(h:valV (rs.map fun r=>(kP r.1,r.2)) (kP p)=some v):(p,v)∈rs:=by
 induction rs with
 |nil=>cases h
 |cons r rs ih =>
  rw[Ak] at h;by_cases e:kP r.1=kP p
  ·rw[q1c e] at h;cases h;rw[<- q9i e];exact Au
  ·rw[q0z e] at h;exact Ar _ (ih h)
theorem q4b{rows:List Rw}(nd:(rows.map (·.1)).Nodup){p:Pth}{m:Option Int}(h:(p,m)∈rows):valV ((rows.map rR).map fun r=>(kP r.1,r.2)) (kP p)=some (mV m) :=
 q3a (rs:=rows.map rR) (r:=rR (p,m)) (Ah.mpr ⟨_,h,rfl⟩) (by rw[Al];exact nd)
theorem q3c{rows:List Rw}{p:Pth}{v:V}(h:valV ((rows.map rR).map fun r=>(kP r.1,r.2)) (kP p)=some v):∃m,v=mV m/\(p,m)∈rows:=by
 obtain⟨r,hr,e⟩:=Ah.mp (z8l h);cases e;exact⟨r.2,rfl,hr⟩
def spIsDrawer(c:Addr):Sp:=fun vs H Q _=>∃h d p bl rows q,vs=[.ref h,.ref p]/\HallAt c H h d bl rows/\H p=some (.tup (vP q))/\Low q/\(rows.map (·.1)).Nodup/\∀H' bb,Same H H'->(bb=true↔q=[]\/(q,none)∈rows)->Q (.bl bb) H'
abbrev q1l:Stmt:=inClass (top 20) 6
theorem q4j:FnScope ["self", "path"] ["self", "path"] (defScope q1l):=by trivial
theorem q9m{c:Addr}(D:Mf K c "is_drawer" "Hall.is_drawer" q1l ["self", "path"])(hk:Hk K c)(T:Txt mg):MCal P w K mg base c "is_drawer" 1 ["self", "path"] (spIsDrawer c):=by
 refine D.cal hk.cl q4j (fun vs H Q E h=>?_) (fun f cdv A outer s H vs Q E hr h=>?_)
 ·obtain⟨h,d,p,bl,rows,q,rfl,_⟩:=h;rfl
 ·obtain⟨h,d,p,bl,rows,q,rfl,hh,hp,lq,nd,k⟩:=h;refine⟨_,(q0f (q0m (pe_j (pe_or (q5a (eq_k K rfl hr) (pv 1) (q0o q0d) (nomark _)) (q7x (pe_j (z0x (z3k (z4n (q1y hr) (pv 1) (@z2v _ _ _ _ _ K rfl (pv 0) (by rfl)))) (q7x (z3k (q5z (q2h (q1y hr) (@z2v _ _ _ _ _ K rfl (pv 0) (by rfl)) (pv 1) (fun _ _=>rfl)))))))))))),?_⟩;obtain⟨dx,hi⟩:=hh.i;refine⟨fun v H'=>∃bb,v=.bl bb/\Same H H'/\(bb=true↔q=[]\/(q,none)∈rows),fun v H' x=>?_,?_⟩
  ·obtain⟨bb,rfl,s1,e⟩:=x;exact k H' bb s1 e
  refine⟨_,rfl,by show 0<=sizeLine;decide,fun e0 he0=>?_⟩;have s1:=(Same.refl H).new (o:=.tup []) he0;refine q2y (q:=[]) (s1 _ _ hp) q0b lq (fun _ h=>nomatch h) ⟨_,rfl,?_⟩;refine iteB (fun he=>?_) (fun he=>?_)
  ·exact⟨true,rfl,s1,⟨fun _=>.inl (of_decide_eq_true he),fun _=>rfl⟩⟩
  have he:=of_decide_eq_false he;refine⟨fun v H'=>∃bb,v=.bl bb/\Same H H'/\(bb=true↔q=[]\/(q,none)∈rows),fun v H' x=>x,?_⟩;refine⟨_,rfl,_,rfl,h,c,dx,_,_,rfl,s1 _ _ hi,hk.cl,hk.m,rfl,d,_,rfl,q3n (s1 _ _ hh.d) (s1 _ _ hp),_,rfl,?_⟩;cases hv:valV ((rows.map rR).map fun r=>(kP r.1,r.2)) (kP q) with
  |none =>
   refine iteF ⟨false,rfl,s1,⟨(fun z=>by cases z),fun z=>?_⟩⟩;exfalso;rw[q4b nd (z.resolve_left he)] at hv;cases hv
  |some v =>
   obtain⟨m,rfl,hm⟩:=q3c hv;refine iteT ⟨_,rfl,h,c,dx,_,_,rfl,s1 _ _ hi,hk.cl,hk.m,rfl,_,rfl,d,mV m,rfl,?_,_,rfl,s1,?_⟩
   ·rw[<- hv];exact q3n (s1 _ _ hh.d) (s1 _ _ hp)
   ·rw[decide_eq_true_iff];refine⟨fun z=>.inr (by rw[mV_none.mp z] at hm;exact hm),fun z=>mV_none.mpr ?_⟩;have:=q2i (f:=fun r:Rw=>r.1) nd hm (z.resolve_left he) rfl;cases this;rfl
def spThere1(c:Addr):Sp:=fun vs H Q _=>∃h d p bl rows place,vs=[.ref h,.ref p]/\HallAt c H h d bl rows/\H p=some (.tup (vP place))/\okP place/\(∀r∈rows,okP r.1) /\
 ∀H' v,Same H H'->(v=.non/\(∀r∈rows,fold bl r.1≠fold bl place)\/∃b r,v=.ref b/\r∈rows/\fold bl r.1=fold bl place/\H' b=some (.tup (vP r.1)))->Q v H'
theorem there1{c:Addr}(M:MCal P w K mg base c "there" 3 ["self", "place"] (spThere c)):MCal P w K mg base c "there" 3 ["self", "place"] (spThere1 c) :=
 M.imp fun vs H Q E h=>by
  obtain⟨h,d,p,bl,rows,place,e,hh,hp,ok,oks,k⟩:=h;exact⟨h,d,p,bl,rows,place,e,hh,hp,ok,oks,fun H' s1 n=>k H' _ s1 (.inl ⟨rfl,n⟩),fun H' b r s1 hr e hb=>k H' _ s1 (.inr ⟨b,r,rfl,hr,e,hb⟩)⟩
theorem z6c{σ:St}{H:Hp}{Q:Bool->Hp->Prop}(h:Q true H):tIf0 σ H Q:=h
def IsD(rows:List Rw)(q:Pth):Prop:=q=[]\/(q,none)∈rows
def plc:List Mv->Pth->Pth
 |[],p=>p
 |m::ms,p=>if m.1=p then m.2 else plc ms p
structure Wsh (rows:List Rw) (m:Mv):Prop where
 th:∃k,(m.1,k)∈rows/\(m.2.dropLast=m.1.dropLast\/k≠none)
 ok:okP m.2
 dr:IsD rows m.2.dropLast
structure GoodW (rows:List Rw) (ms:List Mv):Prop where
 all:∀m∈ms,Wsh rows m
 nd:(ms.map (·.1)).Nodup
structure PDt (H:Hp) (d:Addr) (ps:List (Addr×Mv)):Prop where
 at_:H d=some (dR (ps.map fun x=>(x.2.1,.ref x.1)))
 pr:∀x∈ps,H x.1=some (.tup (vP x.2.2))
theorem PDt.same{H H':Hp}{d:Addr}{ps:List (Addr×Mv)}(h:PDt H d ps)(s:Same H H'):PDt H' d ps:=⟨s _ _ h.at_,fun x hx=>s _ _ (h.pr x hx)⟩
structure CallsIW (P:Program) (w:World) (K:Ai) (mg:Str->Option Value) (base:Heap) (c:Addr):Prop where
 m_there:MCal P w K mg base c "there" 3 ["self", "place"] (spThere1 c)
 m_is_drawer:MCal P w K mg base c "is_drawer" 1 ["self", "path"] (spIsDrawer c)
def WshIn(rows:List Rw)(ks:List Pth)(m:Mv):Prop:=Wsh rows m/\m.1∉ks
def spIsWish(c:Addr):Sp:=fun vs H Q _=>∃h d a b e bl rows m ps,vs=[.ref h,.ref a,.ref b,.ref e]/\HallAt c H h d bl rows/\Hl bl rows/\H a=some (.tup (vP m.1))/\H b=some (.tup (vP m.2))/\okP m.1/\okP m.2/\PDt H e ps/\(ps.map (·.2.1)).Nodup/\∀H' bb,Same H H'->(bb=true↔WshIn rows (ps.map (·.2.1)) m)->Q (.bl bb) H'
theorem x1a{K:Ai}{H:Hp}{Q:VK}{b:Addr}{q:Pth}(hb:H b=some (.tup (vP q)))(lq:Low q)(k:Q (.bl true) H):rNeU K .non (.ref b) H Q:=by
 refine .inr ⟨_,_,.non,q1k hb,rfl,q3q lq,?_,?_⟩
 ·have:PyData.none.depth<=50:=by simp[Et]
  lia
 ·have e:Cy .none (.tuple (dP q))=false:=by simp[Cy]
  rw[e];exact k
abbrev q4k:Stmt:=top 10
theorem z3a:FnScope ["hall", "path", "place", "places"] ["hall", "path", "place", "places"] (defScope q4k):=by trivial
theorem z3b{c:Addr}(D:Df K mg "is_wish" q4k ["hall", "path", "place", "places"])(T:Txt mg)(C:CallsIW P w K mg base c):Cal P w K mg base "is_wish" 4 ["hall", "path", "place", "places"] (spIsWish c):=by
 refine D.cal z3a (fun vs H Q E h=>?_) (fun f cdv A outer s H vs Q E hr h=>?_)
 ·obtain⟨h,d,a,b,e,bl,rows,m,ps,rfl,_⟩:=h;rfl
 ·obtain⟨h,d,a,b,e,bl,rows,m,ps,rfl,hh,hl,ha,hb,okp,okq,pd,ndp,k⟩:=h;refine⟨_,(q0e (q0y (pt_j (@PW.pt _ _ _ (z6s (q0k (ne_k K rfl hr) (pe_m C.m_there hr (pv 0) (q0a (pv 1) q0d)) (pv 1) (nomark _)) (z3l (q1v (z4n (q1y hr) (pv 1) (pv 3))))))) (q0f (q0m q3o)) q0l) (q0e (q0y (z8t (@q8l _ _ _ K rfl (pe_m C.m_is_drawer hr (pv 0) (q0a (q0q (sl_k K rfl) (pv 2) q0t (q0u (q1r q0x q0g))) q0d)) (fun _=>rfl))) (q0f (q0m q3o)) q0l) (q0f (q0m (pe_j (pe_or (q5a (eq_k K rfl hr) (q0q (sl_k K rfl) (pv 2) q0t (q0u (q1r q0x q0g))) (q0q (sl_k K rfl) (pv 1) q0t (q0u (q1r q0x q0g))) (nomark _)) (q7x (z3m (pe_m C.m_is_drawer hr (pv 0) (q0a (pv 1) q0d)))))))))),?_⟩;obtain⟨dx,hi⟩:=hh.i;obtain⟨c1,c2⟩:=q1d okq.ne;obtain⟨c3,c4⟩:=q1d okp.ne;refine⟨fun bb H1=>(bb=true->¬((∃k,(m.1,k)∈rows)/\m.1∉ps.map (·.2.1)))/\(bb=false->(∃k,(m.1,k)∈rows)/\m.1∉ps.map (·.2.1))/\Same H H1,?_,?_⟩;rotate_left
  ·refine⟨_,rfl,h,dx,_,rfl,hi,rfl,_,rfl,h,d,a,bl,rows,m.1,rfl,hh,ha,okp,hl.ok,fun H1 ov s1 hov=>?_⟩;rcases hov with⟨rfl,no⟩|⟨e1,r,rfl,hr,hf,he⟩
   ·exact⟨_,rfl,x1a (s1 _ _ ha) okp.low ⟨_,rfl,iteT ⟨fun _ z=>let ⟨⟨k0,z⟩,_⟩:=z;no _ z rfl,(fun z=>by cases z),s1⟩⟩⟩
   refine⟨_,rfl,q3z he (s1 _ _ ha) (hl.ok r hr).low okp.low ⟨_,rfl,?_⟩⟩;by_cases er:r.1=m.1
   ·rw[decide_eq_true er];refine iteF ⟨_,rfl,_,rfl,e,_,rfl,q3n (rs:=ps.map fun x=>(x.2.1,.ref x.1)) (pd.same s1).at_ (s1 _ _ ha),_,rfl,?_⟩;have hin:∃k,(m.1,k)∈rows:=⟨r.2,by rw[<- er];exact hr⟩
    by_cases hno:m.1∈ps.map (·.2.1)
    ·obtain⟨x,hx,ex⟩:=Ah.mp hno;have hv:=q3a (rs:=ps.map fun x=>((x.2.1,.ref x.1):HRow)) (r:=(x.2.1,.ref x.1)) (Ah.mpr ⟨x,hx,rfl⟩) (by rw[Al];exact ndp);rw[ex] at hv;rw[hv];exact⟨fun _ z=>z.2 hno,(fun z=>by cases z),s1⟩
    ·have hv:valV ((ps.map fun x=>((x.2.1,.ref x.1):HRow)).map fun r=>(kP r.1,r.2)) (kP m.1)=none:=q4a fun r hr z=>by
      obtain⟨x,hx,rfl⟩:=Ah.mp hr;exact hno (Ah.mpr ⟨x,hx,z⟩)
     rw[hv];exact⟨(fun z=>by cases z),fun _=>⟨hin,hno⟩,s1⟩
   ·rw[decide_eq_false er];refine iteT ⟨fun _ z=>?_,(fun z=>by cases z),s1⟩;obtain⟨⟨k0,z⟩,_⟩:=z;exact er (congrArg Prod.fst (hl.eq hr z hf))
  rintro bb H1 ⟨g1,g2,s1⟩;refine iteB (fun ht=>?_) (fun hf=>?_)
  ·exact k _ _ s1 ⟨(fun z=>by cases z),fun z=>absurd ⟨let ⟨k0,h0,_⟩:=z.1.th;⟨k0,h0⟩,z.2⟩ (g1 ht)⟩
  obtain⟨⟨mk0,hin⟩,hno⟩:=g2 hf;refine⟨_,rfl,h,dx,_,rfl,s1 _ _ hi,rfl,_,rfl,_,rfl,_,rfl,.inr (.inr ⟨b,_,rfl,SqT.of (s1 _ _ hb),c2,fun t1 ht1=>?_⟩)⟩;rw[c1];have s2:=s1.new (o:=.tup (vP m.2.dropLast)) ht1;refine⟨h,d,t1,bl,rows,m.2.dropLast,rfl,hh.same s2,q0b,q1h okq.low,hl.paths,fun H3 bb s3 hbb=>⟨bb,rfl,?_⟩⟩;have s23:=s2.trans s3;cases bb with
  |false =>
   refine iteT (k _ _ s23 ⟨(fun z=>by cases z),fun z=>?_⟩);have:=hbb.mpr z.1.dr;cases this
  |true =>
  have dr:IsD rows m.2.dropLast:=hbb.mp rfl;refine iteF ⟨fun v H4=>∃bb,v=.bl bb/\Same H H4/\(bb=true↔m.2.dropLast=m.1.dropLast\/mk0≠none),fun v H4 x=>?_,?_⟩
  ·obtain⟨bb,rfl,s4,e4⟩:=x;refine k _ _ s4 ⟨fun z=>⟨⟨⟨mk0,hin,e4.mp z⟩,okq,dr⟩,hno⟩,fun z=>e4.mpr ?_⟩;obtain⟨k1,h1,h2⟩:=z.1.th;rw[hl.one h1 hin] at h2;exact h2
  refine⟨_,rfl,_,rfl,_,rfl,.inr (.inr ⟨b,_,rfl,SqT.of (s23 _ _ hb),c2,fun t2 ht2=>?_⟩)⟩;rw[c1];have s4:=s23.new (o:=.tup (vP m.2.dropLast)) ht2;have e2:upd H3 t2 (.tup (vP m.2.dropLast)) t2=some (.tup (vP m.2.dropLast)):=q0b;generalize upd H3 t2 (.tup (vP m.2.dropLast))=H4 at s4 e2;refine⟨_,rfl,_,rfl,_,rfl,.inr (.inr ⟨a,_,rfl,SqT.of (s4 _ _ ha),c4,fun t3 ht3=>?_⟩)⟩;rw[c3];have s5':=(Same.refl H4).new (o:=.tup (vP m.1.dropLast)) ht3;have s5:=s4.trans s5';refine q2y (s5' _ _ e2) q0b (q1h okq.low) (q1h okp.low) ⟨_,rfl,iteB (fun e=>⟨true,rfl,s5,⟨fun _=>.inl (of_decide_eq_true e),fun _=>rfl⟩⟩) (fun e=>?_)⟩;have e:=of_decide_eq_false e;refine⟨_,rfl,h,dx,_,rfl,s5 _ _ hi,rfl,_,rfl,h,d,a,bl,rows,m.1,rfl,hh.same s5,s5 _ _ ha,okp.low,hl.paths,fun H6 bb s6 hbb=>⟨bb,rfl,!bb,rfl,s5.trans s6,?_⟩⟩;cases bb with
  |false=>exact⟨fun _=>.inr fun z=>(by subst z;have:=hbb.mpr (.inr hin);cases this),fun _=>rfl⟩
  |true =>
   refine⟨(fun z=>by cases z),fun z=>?_⟩;rcases hbb.mp rfl with y|y
   ·exact absurd y okp.ne
   ·exact absurd (hl.one hin y) (z.resolve_left e)
structure PB (q:Pth):Prop where
 few:q.length<=20
 all:∀n∈q,n.length<=20/\∀c∈n,c<128
theorem okP.pb{q:Pth}(h:okP q):PB q:=⟨Bi h.few (by decide),fun n hn=>⟨Bi (h.all n hn).few (by decide),(h.all n hn).low⟩⟩
theorem PB.low{q:Pth}(h:PB q):Low q:=fun n hn=>(h.all n hn).2
theorem z6d(q:Pth):vP q=(q.map mk).map V.str:=by rw[Al];rfl
theorem z0r{q:Pth}(h:PB q):∀x∈q.map mk,x.length<=100/\∀c∈x.cps.toList,c<16^8:=fun x hx=>by
 obtain⟨n,hn,rfl⟩:=Ah.mp hx;obtain⟨h1,h2⟩:=h.all n hn;refine⟨by rw[q4q];lia,fun c hc=>?_⟩;have:c∈n:=by rw[<- q2b n];exact hc
 have:=h2 c this;lia
theorem z0s{H H1:Hp}{ea d:Addr}{o1 o2 o3 o4 o5:HO}(sm:Same H H1)(h1:H1 ea=none)(h2:upd H1 ea o1 d=none):Same H (upd (upd (upd (upd (upd H1 ea o1) d o2) ea o3) d o4) ea o5):=fun b o hb=>by
 have hb1:=sm b o hb;have n1:b≠ea:=fun z=>by rw[z,h1] at hb1;cases hb1
 have n2:b≠d:=fun z=>by rw[<- z,q0c n1,hb1] at h2;cases h2
 rw[q0c n1,q0c n2,q0c n1,q0c n2,q0c n1];exact hb1
structure Fst (rows:List Rw) (ms:List Mv) (n:Nat):Prop where
 lt:n<ms.length
 good:GoodW rows (ms.take n)
 bad:¬GoodW rows (ms.take (n+1))
theorem GoodW.take{rows:List Rw}{ms:List Mv}(h:GoodW rows ms)(n:Nat):GoodW rows (ms.take n):=⟨fun m hm=>h.all m (Hb hm),by rw[Gu];exact h.nd.sublist (Ia _ _)⟩
theorem q7m{rows:List Rw}{ms:List Mv}{m:Mv}:GoodW rows (ms++[m])↔GoodW rows ms/\WshIn rows (ms.map (·.1)) m:=by
 constructor
 ·intro h;have nd:=h.nd;rw[Aj] at nd;obtain⟨n1,_,n3⟩:=Dp.mp nd;exact⟨⟨fun x hx=>h.all x (Ax.mpr (.inl hx)),n1⟩,h.all m (by simp),fun z=>n3 _ z _ (Ao.mpr rfl) rfl⟩
 ·rintro⟨h,w,n⟩;refine⟨fun x hx=>?_,?_⟩
  ·rcases Ax.mp hx with hx|hx
   ·exact h.all x hx
   ·rw[Ao.mp hx];exact w
  ·rw[Aj];refine Dp.mpr ⟨h.nd,by simp,fun a ha b hb e=>?_⟩;rw[Ak,Sd,Ao] at hb;rw[e,hb] at ha;exact n ha
theorem Fst.not{rows:List Rw}{ms:List Mv}{n:Nat}(f:Fst rows ms n)(h:GoodW rows ms):False:=f.bad (h.take _)
theorem GoodW.take_le{rows:List Rw}{ms:List Mv}{n m:Nat}(h:GoodW rows (ms.take m))(l:n<=m):GoodW rows (ms.take n):=by
 have:=h.take n
 rwa [List.take_take,Vb l] at this
theorem Fst.one{rows:List Rw}{ms:List Mv}{n m:Nat}(f:Fst rows ms n)(g:Fst rows ms m):n=m:=by
 rcases Nat.lt_trichotomy n m with h|h|h
 ·exact absurd (g.good.take_le h) f.bad
 ·exact h
 ·exact absurd (f.good.take_le h) g.bad
theorem GoodW.perm{rows rows':List Rw}{ms:List Mv}(h:GoodW rows ms)(p:rows.Perm rows'):GoodW rows' ms:=⟨fun m hm=>let ⟨⟨k,a,b⟩,c,d⟩:=h.all m hm;⟨⟨k,p.mem_iff.mp a,b⟩,c,d.imp id fun z=>p.mem_iff.mp z⟩,h.nd⟩
def RW(H:Hp)(E:XK)(Cn:Addr)(rows:List Rw)(ms:List Mv):Prop:=∀n,Fst rows ms n->∀ea H',Same H H'->H ea=none->Rfd H' ea Cn "at" (.int (n:Int))->E (.ref ea) none H'
theorem RW.same{H H1:Hp}{E:XK}{Cn:Addr}{rows:List Rw}{ms:List Mv}(h:RW H E Cn rows ms)(s:Same H H1):RW H1 E Cn rows ms:=fun n f ea H' sm hea r=>h n f ea H' (s.trans sm) (s.free hea) r
theorem RW.up{H:Hp}{E:XK}{Cn:Addr}{rows:List Rw}{ms:List Mv}(h:RW H E Cn rows ms):RW H (fun e _ H'=>∀ea,e=.ref ea->E (.ref ea) none H') Cn rows ms:=fun n f ea H' sm hea r ea' ez=>by
 cases ez;exact h n f ea H' sm hea r
theorem RW.no{H:Hp}{E:XK}{Cn:Addr}{rows:List Rw}{ms:List Mv}(g:GoodW rows ms):RW H E Cn rows ms:=fun _ f=>(f.not g).elim
def okMs(ms:List Mv):Prop:=∀m∈ms,okP m.1/\okP m.2
abbrev q1j:Stmt:=inClass (top 7) 0
theorem q4c:FnScope ["self", "at"] ["self", "at"] (defScope q1j):=by trivial
theorem q5y{Cn Dn:Addr}(F:Ef K mg "NoWish" Cn Dn "NoWish.__init__" q1j ["self", "at"])(g_HallError:mg "HallError" = some (.ref Dn))(S:ESet K Cn "at"):CalE P w K mg base "NoWish" Cn 1 ["self", "at"] (spIni1 Cn "at"):=by
 refine F.cal q4c (fun vs H Q E h=>?_) (by decide) (fun mc f cdv A outer s H vs Q E L_low N_ini hr h=>?_)
 ·obtain⟨ea,v,rfl,_⟩:=h;rfl
 ·obtain⟨ea,v,rfl,hE,⟨n,rfl,hn⟩,k⟩:=h;refine⟨_,(q0e (q1w (z9k L_low N_ini rfl g_HallError (q0a (pv 0) (q0a (z5m z1q (pf_val (pv 1)) (q4w z1q z5n)) q0d)))) (q0f (z1o K rfl (pv 0) (pv 1)))),?_⟩;have ln:=z9b 12 n (by lia);have l1:(Ag "no wish: the one at ").length<=100:=by decide +kernel
  have l2:(Ag " is wrong").length<=100:=by decide +kernel
  have l0:Ou.length=0:=by decide +kernel
  have e1:(Ag (toString (n:Int))).length<=13:=by rw[dg_mk,q4q];exact ln
  refine⟨_,rfl,TX.small (by rw[app_len];lia),_,rfl,.inr ⟨n,rfl,hn,TX.small (by rw[app_len,app_len];lia),TX.small (by rw[app_len,app_len,app_len];lia),TX.small (by rw[app_len,app_len,app_len];lia),?_⟩⟩;exact⟨ea,_,none,rfl,hE,_,rfl,_,rfl,ea,Cn,rfl,S,.inl ⟨hE,fun d hd hne=>k d hd hne⟩⟩
structure CallsWP (P:Program) (w:World) (K:Ai) (mg:Str->Option Value) (base:Heap) (c Cn:Addr):Prop where
 e_NoWish:CalE P w K mg base "NoWish" Cn 1 ["self", "at"] (spIni1 Cn "at")
 is_wish:Cal P w K mg base "is_wish" 4 ["hall", "path", "place", "places"] (spIsWish c)
def spWishedP(c Cn:Addr):Sp:=fun vs H Q E=>∃h d L bl rows zs,vs=[.ref h,.ref L]/\HallAt c H h d bl rows/\Hl bl rows/\ML H L zs/\okMs (zs.map (·.2))/\zs.length<=60/\RW H E Cn rows (zs.map (·.2)) /\
 (GoodW rows (zs.map (·.2))->∀D ps H',H D=none->Same H H'->PDt H' D ps->ps.map (·.2)=zs.map (·.2)->Q (.ref D) H')
abbrev q1s:Stmt:=top 11
theorem sc_wished_places:FnScope ["hall", "wishes", "places", "at", "path", "place"] ["hall", "wishes"] (defScope q1s):=by trivial
theorem z3c{c Cn:Addr}(D:Df K mg "wished_places" q1s ["hall", "wishes"])(T:Txt mg)(C:CallsWP P w K mg base c Cn):CalX P w K mg base "wished_places" 5 ["hall", "wishes"] (spWishedP c Cn):=by
 refine D.calX sc_wished_places (fun vs H Q E h=>?_) (fun f cdv A outer s H vs Q E hr h=>?_)
 ·obtain⟨h,d,L,bl,rows,zs,rfl,_⟩:=h;rfl
 ·obtain⟨h,d,L,bl,rows,zs,rfl,hh,hl,ml,okm,few,kE,k⟩:=h;refine⟨_,(q0e (q0h (i:=2) sc_wished_places.nd rfl (by trivial) q4v) (q0e (q2r passDef rfl (@z4k _ _ _ _ _ _ _ _ K rfl rfl T.b_enumerate (q0a (pv 1) q0d) (by rfl)) (@q2t _ _ _ _ (2) _ K rfl rfl (q0p (q0n (i:=3) sc_wished_places.nd rfl (by trivial)) (q0p (@q2t _ _ _ _ (2) _ K rfl rfl (q0p (q0n (i:=4) sc_wished_places.nd rfl (by trivial)) (q0p (q0n (i:=5) sc_wished_places.nd rfl (by trivial)) q1q)) (by rfl) (by rfl)) q1q)) (by rfl) (by rfl)) (q0e (q0y (z8t (@q8l _ _ _ K rfl (pe_c C.is_wish hr (q0a (pv 0) (q0a (pv 4) (q0a (pv 5) (q0a (pv 2) q0d))))) (fun _=>rfl))) (q0f (ps_rs C.e_NoWish hr accX rfl (q0a (pv 3) q0d))) q0l) (q0f (q7b (q1y hr) (pv 2) (pv 4) (pv 5) rfl)))) (q0f (q0m (pv 2))))),?_⟩;intro D hD;have s0:=(Same.refl H).new (o:=.dT []) hD;refine⟨_,rfl,.inr ⟨L,_,rfl,SqL.of (s0 _ _ ml.at_),?_⟩⟩;refine q5m (fun i σ' H2=>∃ps x3 x4 x5,σ'=[some (.ref h),some (.ref L),some (.ref D),x3,x4,x5]/\Same H H2/\PDt H2 D ps/\ps.map (·.2)=(zs.map (·.2)).take i/\GoodW rows ((zs.map (·.2)).take i)) ⟨[],none,none,none,rfl,s0,⟨q0b,(fun _ h=>nomatch h)⟩,rfl,⟨(fun _ h=>nomatch h),.nil⟩⟩ (fun i σ' H2 h=>by obtain⟨_,_,_,_,_,s2,_⟩:=h;exact SqL.of (s2 _ _ ml.at_)) ?_ ?_
  ·rintro i v T' σ' H2 hv ⟨ps,x3,x4,x5,rfl,s2,pd,eps,gwi⟩ hT;obtain⟨z,hz,rfl⟩:=gR0 hv
   have sT:=(Same.refl H2).new (o:=.tup [.int i,.ref z.1]) hT;obtain⟨A1,B1,g1,g2,g3⟩:=((ml.same s2).same sT).pr z (Aq hz);have hzr:(zs.map (·.2))[i]?=some z.2:=by rw[Az,hz];rfl
   have e1:(zs.map (·.2)).take (i+1)=(zs.map (·.2)).take i++[z.2]:=by rw[Cb,hzr];rfl
   have e2:ps.map (·.2.1)=((zs.map (·.2)).take i).map (·.1):=by rw[<- eps,Al];rfl
   have hil:i<zs.length:=(Bg.mp hz).1;refine⟨T',_,rfl,SqT.of q0b,rfl,_,_,rfl,_,_,rfl,z.1,_,rfl,SqT.of g1,rfl,_,_,rfl,_,_,rfl,rfl,rfl,?_⟩;have s3:=s2.trans sT;refine⟨_,rfl,_,rfl,_,rfl,_,rfl,h,d,A1,B1,D,bl,rows,z.2,ps,rfl,hh.same s3,hl,g2,g3,(okm _ (Aq hzr)).1,(okm _ (Aq hzr)).2,pd.same sT,by rw[e2];exact gwi.nd,fun H4 bb s4 hbb=>⟨bb,rfl,?_⟩⟩;have s34:=s3.trans s4;have hbb:bb=true↔GoodW rows ((zs.map (·.2)).take (i+1)):=by rw[e1,q7m];rw[e2] at hbb;exact hbb.trans ⟨fun z=>⟨gwi,z⟩,fun z=>z.2⟩
   cases bb with
   |false =>
    refine iteT ⟨_,rfl,fun ea hea=>⟨ea,_,rfl,q0b,⟨i,rfl,by lia⟩,fun d hd hne=>⟨rfl,?_⟩⟩⟩;obtain⟨dd,r1,r2⟩:=raised1 (f := "at") (v:=.int (i:Int)) hd hne;refine⟨dd,r1,?_⟩;exact kE i ⟨by rw[Ac];exact hil,gwi,fun z=>by have:=hbb.mpr z;cases this⟩ ea _ (z0s s34 hea hd) (s34.free hea) r2
   |true =>
   have gw1:=hbb.mp rfl;have hno:z.2.1∉ps.map (·.2.1):=by rw[e1,q7m] at gw1;rw[e2];exact gw1.2.2
   refine iteF ?_;have pd4:=(pd.same sT).same s4;have pl:ps.length<=60:=by
    have:=congrArg List.length eps;rw[Ac,Bp,Ac] at this;lia
   refine⟨_,rfl,_,rfl,_,rfl,D,_,rfl,DPut.t (k:=kP z.2.1) pd4.at_ (by rw[q4i];exact s4 _ _ g2) (by rw[Ac,Ac];exact small' (by lia)),?_⟩;rw[q3j (p:=z.2.1) (v:=.ref B1) fun r hr z'=>by
    obtain⟨x,hx,rfl⟩:=Ah.mp hr;exact hno (Ah.mpr ⟨x,hx,z'⟩)]
   have nD:∀(x:Addr) (u:HO),H4 x=some u->(∀kvs,u≠.dT kvs)->upd H4 D (dR ((ps.map fun x=>((x.2.1,.ref x.1):HRow))++[(z.2.1,.ref B1)])) x=some u:=fun x u e n=>by
    rw[q0c (fun y=>by rw[y,pd4.at_] at e;cases e;exact n _ rfl)];exact e
   have em:(ps++[(B1,z.2)]).map (fun x=>((x.2.1,.ref x.1):HRow))=(ps.map fun x=>((x.2.1,.ref x.1):HRow))++[(z.2.1,.ref B1)]:=by rw[Aj];rfl
   refine⟨ps++[(B1,z.2)],_,_,_,rfl,fun x u e=>?_,⟨by rw[q0b,em],fun x hx=>?_⟩,by rw[e1,Aj,eps];rfl,gw1⟩
   ·rw[q0c (fun y=>by rw[y,hD] at e;cases e)];exact s34 _ _ e
   ·rcases Ax.mp hx with hx|hx
    ·exact nD _ _ (pd4.pr x hx) (fun _ y=>by cases y)
    ·rw[Ao.mp hx];exact nD _ _ (s4 _ _ g3) (fun _ y=>by cases y)
  ·rintro σ' H2 ⟨ps,x3,x4,x5,rfl,s2,pd,eps,gwi⟩;rw[Ac,<- Ac (f:=fun z:Zm=>z.2),Cf] at eps gwi;exact⟨_,rfl,k gwi D ps H2 hD s2 pd eps⟩
theorem val_ps{ps:List (Addr×Mv)}{p:Pth}(h:p∉ps.map (·.2.1)):valV ((ps.map fun x=>((x.2.1,.ref x.1):HRow)).map fun r=>(kP r.1,r.2)) (kP p)=none:=q4a fun r hr z=>by
 obtain⟨x,hx,rfl⟩:=Ah.mp hr;exact h (Ah.mpr ⟨x,hx,z⟩)
theorem z1u{ms:List Mv}{p:Pth}(h:p∉ms.map (·.1)):plc ms p=p:=by
 induction ms with
 |nil=>rfl
 |cons m ms ih =>
  rw[Ak,Be,not_or] at h;unfold plc;rw[if_neg (fun z=>h.1 z.symm)];exact ih h.2
theorem z6e{ms:List Mv}{m:Mv}(nd:(ms.map (·.1)).Nodup)(h:m∈ms):plc ms m.1=m.2:=by
 induction ms with
 |nil=>cases h
 |cons x ms ih =>
  rw[Ak,Ci] at nd;unfold plc;rcases Be.mp h with rfl|h
  ·rw[if_pos rfl]
  ·rw[if_neg (fun z=>nd.1 (Ah.mpr ⟨m,h,z.symm⟩))];exact ih nd.2 h
theorem PDt.get{H:Hp}{d b:Addr}{ps:List (Addr×Mv)}{p:Pth}(x:PDt H d ps)(nd:((ps.map (·.2)).map (·.1)).Nodup)(hb:H b=some (.tup (vP p))):(p∉(ps.map (·.2)).map (·.1)/\DGet H d (.ref b) none)\/∃y∈ps,y.2.1=p/\DGet H d (.ref b) (some (.ref y.1))/\H y.1=some (.tup (vP (plc (ps.map (·.2)) p))):=by
 have em:(ps.map (·.2)).map (·.1)=ps.map (·.2.1):=by rw[Al];rfl
 by_cases h:p∈ps.map (·.2.1)
 ·obtain⟨y,hy,rfl⟩:=Ah.mp h;refine .inr ⟨y,hy,rfl,?_,?_⟩
  ·have e:=q3a (rs:=ps.map fun x=>((x.2.1,.ref x.1):HRow)) (r:=(y.2.1,.ref y.1)) (Ah.mpr ⟨y,hy,rfl⟩) (by rw[Al];rw[em] at nd;exact nd);rw[<- e];exact q3n x.at_ hb
  ·rw[z6e nd (Ah.mpr ⟨y,hy,rfl⟩)];exact x.pr y hy
 ·refine .inl ⟨by rw[em];exact h,?_⟩;rw[<- val_ps h];exact q3n x.at_ hb
structure CallsAP (P:Program) (w:World) (K:Ai) (mg:Str->Option Value) (base:Heap) (c Cn:Addr):Prop where
 wished_places:CalX P w K mg base "wished_places" 5 ["hall", "wishes"] (spWishedP c Cn)
 m_rows:MCal P w K mg base c "rows" 2 ["self"] (spHRows c)
def spAllP(c Cn:Addr):Sp:=fun vs H Q E=>∃h d L bl rows zs,vs=[.ref h,.ref L]/\HallAt c H h d bl rows/\Hl bl rows/\rows.length<=60/\ML H L zs/\okMs (zs.map (·.2))/\zs.length<=60/\RW H E Cn rows (zs.map (·.2)) /\
 (GoodW rows (zs.map (·.2))->∀D ps (rs:List Rw) H',H D=none->Same H H'->PDt H' D ps->rs.Perm rows->(rs.map (·.1)).Pairwise (fun a b=>pLt b a=false)->ps.map (·.2)=rs.map (fun r=>(r.1,plc (zs.map (·.2)) r.1))->Q (.ref D) H')
abbrev q2n:Stmt:=top 12
theorem sc_all_places:FnScope ["hall", "wishes", "places"] ["hall", "wishes"] (defScope q2n):=by trivial
theorem x1b{c Cn:Addr}(D:Df K mg "all_places" q2n ["hall", "wishes"])(T:Txt mg)(C:CallsAP P w K mg base c Cn):CalX P w K mg base "all_places" 6 ["hall", "wishes"] (spAllP c Cn):=by
 refine D.calX sc_all_places (fun vs H Q E h=>?_) (fun f cdv A outer s H vs Q E hr h=>?_)
 ·obtain⟨h,d,L,bl,rows,zs,rfl,_⟩:=h;rfl
 ·obtain⟨h,d,L,bl,rows,zs,rfl,hh,hl,h60,ml,okm,few,kE,k⟩:=h;refine⟨_,(q0e (q0h (i:=2) sc_all_places.nd rfl (by trivial) (q9d C.wished_places hr accX (q0a (pv 0) (q0a (pv 1) q0d)))) (q0f (q0m (z7x ["path", "mark"] [("places",2)] rfl (@q5v _ _ _ _ K rfl (pe_m0 C.m_rows hr (pv 0))) (fun _ _ _ _ _=>(@q2t _ _ _ _ (2) _ K rfl rfl (q0p (q0n (i:=0) (show(["path", "mark", "places"]:List Str).Nodup by decide +kernel) rfl (by trivial)) (q0p (q0n (i:=1) (show(["path", "mark", "places"]:List Str).Nodup by decide +kernel) rfl (by trivial)) q1q)) (by rfl) (by rfl))) (fun _ _ _ _ _=>q6z) (fun _ _ _ _ _=>(pv 0)) (fun _ _ _ _ _=>(z1h (q1y hr) (pv 2) (pv 0) (pv 0) ⟨rfl,rfl,rfl,rfl⟩)) (q1y hr))))),?_⟩;refine⟨_,rfl,_,rfl,h,d,L,bl,rows,zs,rfl,hh,hl,ml,okm,few,kE.up,fun gw D0 ps0 H1 hD0 s1 pd0 e0=>?_⟩;obtain⟨dx,hi⟩:=hh.i;have nd0:((ps0.map (·.2)).map (·.1)).Nodup:=by rw[e0];exact gw.nd
  refine⟨_,rfl,h,dx,_,rfl,s1 _ _ hi,rfl,h,d,bl,rows,rfl,hh.same s1,by lia,fun r hr=>(hl.ok r hr).low,fun L2 zs2 H2 hL2 s2 rl2 pm2 pw2=>?_⟩;refine .inl ⟨L2,rfl,⟨_,SqL.of rl2.at_⟩,fun D1 hD1=>?_⟩;have ndz:((zs2.map (·.2)).map (·.1)).Nodup:=(hl.perm pm2).paths;have l2:zs2.length<=60:=by have:=pm2.length_eq;rw[Ac] at this;lia
  refine q6i (fun i ys H'=>∃ps,ys=((ps.map fun x=>((x.2.1,.ref x.1):HRow)).map fun r=>(kP r.1,r.2))/\PDt H' D1 ps/\Same H2 H'/\ps.map (·.2)=((zs2.map (·.2)).take i).map (fun r=>(r.1,plc (zs.map (·.2)) r.1))) ⟨[],rfl,⟨q0b,(fun _ h=>nomatch h)⟩,(Same.refl H2).new hD1,rfl⟩ (fun i ys H' h=>by obtain⟨ps,e,pd,s',_⟩:=h;exact⟨by rw[e];exact pd.at_,SqL.of (s' _ _ rl2.at_)⟩) ?_ ?_
  ·rintro i ys H' v hv ⟨ps,rfl,pd,s',eps⟩;obtain⟨z,hz,rfl⟩:=gR0 hv
   have hzr:(zs2.map (·.2))[i]?=some z.2:=by rw[Az,hz];rfl
   have e1:(zs2.map (·.2)).take (i+1)=(zs2.map (·.2)).take i++[z.2]:=by rw[Cb,hzr];rfl
   have hil:i<zs2.length:=(Bg.mp hz).1;have pl:ps.length<=60:=by
    have:=congrArg List.length eps;rw[Ac,Ac,Bp,Ac] at this;lia
   obtain⟨b,h1,h2⟩:=(rl2.same s').pr z (Aq hz);have hno:z.2.1∉ps.map (·.2.1):=fun hin=>by
    have e2:ps.map (·.2.1)=((zs2.map (·.2)).take i).map (·.1):=by
     have:ps.map (·.2.1)=(ps.map (·.2)).map (·.1):=by rw[Al];rfl
     rw[this,eps,Al];rfl
    rw[e2] at hin;have e3:((zs2.map (·.2)).take (i+1)).map (·.1)=((zs2.map (·.2)).take i).map (·.1)++[z.2.1]:=by rw[e1,Aj];rfl
    have nd2:(((zs2.map (·.2)).take (i+1)).map (·.1)).Nodup:=by rw[Gu];exact ndz.sublist (Ia _ _)
    rw[e3] at nd2;exact(Dp.mp nd2).2.2 _ hin _ (Ao.mpr rfl) rfl
   refine⟨z.1,_,rfl,SqT.of h1,rfl,_,_,rfl,_,_,rfl,rfl,q3g,?_⟩;refine z6c (iteT ?_);refine⟨_,rfl,_,rfl,D0,rfl,.inr ⟨_,.inl ((s2.trans s') _ _ pd0.at_)⟩,_,rfl,_,rfl,?_⟩;have put:∀(e:Addr),H' e=some (.tup (vP (plc (zs.map (·.2)) z.2.1)))->∃k c,V.ref b=.ref c/\H' c=some (.tup (k.map kV))/\H' D1=some (.dT ((ps.map fun x=>((x.2.1,.ref x.1):HRow)).map fun r=>(kP r.1,r.2)))/\((ps.map fun x=>((x.2.1,.ref x.1):HRow)).map fun r=>(kP r.1,r.2)).length<sizeLine /\
     ∃ps',putK ((ps.map fun x=>((x.2.1,.ref x.1):HRow)).map fun r=>(kP r.1,r.2)) k (.ref e)=((ps'.map fun x=>((x.2.1,.ref x.1):HRow)).map fun r=>(kP r.1,r.2))/\PDt (upd H' D1 (.dT (putK ((ps.map fun x=>((x.2.1,.ref x.1):HRow)).map fun r=>(kP r.1,r.2)) k (.ref e)))) D1 ps'/\Same H2 (upd H' D1 (.dT (putK ((ps.map fun x=>((x.2.1,.ref x.1):HRow)).map fun r=>(kP r.1,r.2)) k (.ref e))))/\ps'.map (·.2)=((zs2.map (·.2)).take (i+1)).map (fun r=>(r.1,plc (zs.map (·.2)) r.1)):=fun e he=>by
    refine⟨kP z.2.1,b,rfl,by rw[q4i];exact h2,pd.at_,by rw[Ac,Ac];exact small' (by lia),ps++[(e,(z.2.1,plc (zs.map (·.2)) z.2.1))],?_⟩;have em:(ps++[(e,(z.2.1,plc (zs.map (·.2)) z.2.1))]).map (fun x=>((x.2.1,.ref x.1):HRow))=(ps.map fun x=>((x.2.1,.ref x.1):HRow))++[(z.2.1,.ref e)]:=by rw[Aj];rfl
    rw[q3j (p:=z.2.1) (v:=.ref e) fun r hr z'=>by
     obtain⟨x,hx,rfl⟩:=Ah.mp hr;exact hno (Ah.mpr ⟨x,hx,z'⟩),em]
    refine⟨rfl,⟨by rw[q0b,em],fun x hx=>?_⟩,fun x u eu=>?_,by rw[e1,Aj,Aj,eps];rfl⟩
    ·have nD:∀(x:Addr) (xs:List V),H' x=some (.tup xs)->upd H' D1 (dR ((ps.map fun x=>((x.2.1,.ref x.1):HRow))++[(z.2.1,.ref e)])) x=some (.tup xs):=fun x xs e=>by
      rw[q0c (fun y=>by rw[y,pd.at_] at e;cases e)];exact e
     rcases Ax.mp hx with hx|hx
     ·exact nD _ _ (pd.pr x hx)
     ·rw[Ao.mp hx];exact nD _ _ he
    ·rw[q0c (fun y=>by rw[y,hD1] at eu;cases eu)];exact s' _ _ eu
   rcases(pd0.same (s2.trans s')).get nd0 h2 with⟨hn,dg⟩|⟨y,hy,ey,dg,hy2⟩
   ·refine⟨none,dg,put b ?_⟩;rw[z1u (by rw[<- e0];exact hn)];exact h2
   ·refine⟨some (.ref y.1),dg,put y.1 ?_⟩;rw[<- e0];exact hy2
  ·rintro ys H' ⟨ps,rfl,pd,s',eps⟩;rw[Ac,<- Ac (f:=fun z:Zr=>z.2),Cf] at eps;exact k gw D1 ps (zs2.map (·.2)) H' ((s1.trans s2).free hD1) ((s1.trans s2).trans s') pd pm2 (by rw[Al];exact pw2) eps
theorem q9n{xs:List V}{i:Int}(h0:0<=i)(h1:i<=xs.length):cutV xs (some i) none=xs.drop i.toNat:=by
 have e1:HT.sIx xs.length 0 (some i)=i.toNat:=by
  show(if i<0 then(i+(xs.length:Int)).toNat else min i.toNat xs.length)=_;rw[if_neg (by lia)];lia
 have e2:HT.sIx xs.length xs.length none=xs.length:=rfl;unfold cutV;rw[e1,e2];exact Eu (by rw[Ce];exact Am _)
abbrev Tri:=Pth×Pth×Pth
def rowT(bl:Bool)(f:Pth->Pth)(ps:List Pth)(i:Nat):List Tri:=match ps[i]? with
 |none=>[]
 |some p=>((ps.drop (i+1)).filter fun q=>decide (fold bl (f p)=fold bl (f q))).map fun q=>(p,q,f p)
def accT(bl:Bool)(f:Pth->Pth)(ps:List Pth)(i:Nat):List Tri:=(List.range i).flatMap (rowT bl f ps)
theorem q5r{bl:Bool}{f:Pth->Pth}{ps:List Pth}{i:Nat}:accT bl f ps (i+1)=accT bl f ps i++rowT bl f ps i:=by
 unfold accT;rw[List.range_succ,List.flatMap_append];simp
theorem z8m{bl:Bool}{f:Pth->Pth}{ps:List Pth}{i:Nat}:(rowT bl f ps i).length<=ps.length:=by
 unfold rowT;split
 ·exact By _
 ·rw[Ac];refine Bi (Lj _ _) ?_;rw[Ce];lia
theorem q7n{bl:Bool}{f:Pth->Pth}{ps:List Pth}:∀i,(accT bl f ps i).length<=i*ps.length
 |0=>by simp[accT]
 |i+1=>by
  rw[q5r,Ap,Nat.succ_mul];have:=q7n (bl:=bl) (f:=f) (ps:=ps) i;have:=z8m (bl:=bl) (f:=f) (ps:=ps) (i:=i);lia
abbrev Zt:=Addr×Tri
def TT3(H:Hp)(T:Addr)(t:Tri):Prop:=∃A B C,H T=some (.tup [.ref A,.ref B,.ref C])/\H A=some (.tup (vP t.1))/\H B=some (.tup (vP t.2.1))/\H C=some (.tup (vP t.2.2))
structure TL (H:Hp) (L:Addr) (ts:List Zt):Prop where
 at_:H L=some (.lst (ts.map fun z=>V.ref z.1))
 pr:∀z∈ts,TT3 H z.1 z.2
theorem TT3.keep{H H':Hp}{T:Addr}{t:Tri}(h:TT3 H T t)(k:∀T xs,H T=some (.tup xs)->H' T=some (.tup xs)):TT3 H' T t:=let ⟨A,B,C,h1,h2,h3,h4⟩:=h;⟨A,B,C,k _ _ h1,k _ _ h2,k _ _ h3,k _ _ h4⟩
theorem TL.same{H H':Hp}{L:Addr}{ts:List Zt}(h:TL H L ts)(s:Same H H'):TL H' L ts:=⟨s _ _ h.at_,fun z hz=>(h.pr z hz).keep fun _ _ e=>s _ _ e⟩
theorem TL.put{H:Hp}{L T:Addr}{ts:List Zt}{t:Tri}(h:TL H L ts)(ht:TT3 H T t):TL (upd H L (.lst (ts.map (fun z=>V.ref z.1)++[.ref T]))) L (ts++[(T,t)]):=by
 have tk:∀S xs,H S=some (.tup xs)->upd H L (.lst (ts.map (fun z=>V.ref z.1)++[.ref T])) S=some (.tup xs):=fun S xs e=>by rw[q0c (fun z=>by rw[z,h.at_] at e;cases e)];exact e
 refine⟨by rw[q0b,Aj];rfl,fun z hz=>?_⟩;rcases Ax.mp hz with hz|hz
 ·exact(h.pr z hz).keep tk
 ·rw[Ao.mp hz];exact ht.keep tk
theorem z6f{ms:List Mv}{rs:List Rw}{p:Pth}(h:p∈rs.map (·.1)):plc (rs.map fun r=>(r.1,plc ms r.1)) p=plc ms p:=by
 induction rs with
 |nil=>cases h
 |cons r rs ih =>
  rw[Ak];show(if r.1=p then plc ms r.1 else plc (rs.map fun r=>(r.1,plc ms r.1)) p)=_;by_cases e:r.1=p
  ·rw[if_pos e,e]
  ·rw[if_neg e];rw[Ak] at h;exact ih ((Be.mp h).resolve_left fun z=>e z.symm)
theorem q3d{ms:List Mv}{rows:List Rw}{p:Pth}{bl:Bool}(hl:Hl bl rows)(gw:GoodW rows ms)(hp:p∈rows.map (·.1)):okP (plc ms p):=by
 by_cases h:p∈ms.map (·.1)
 ·obtain⟨m,hm,rfl⟩:=Ah.mp h;rw[z6e gw.nd hm];exact(gw.all m hm).ok
 ·rw[z1u h];obtain⟨r,hr,rfl⟩:=Ah.mp hp;exact hl.ok r hr
theorem z3d{H:Hp}:∀{bs:List Addr} {ps:List Pth},Dd (fun b p=>H b=some (.tup (vP p))) bs ps->∃zs:List (Addr×Pth),bs.map V.ref=zs.map (fun z=>V.ref z.1)/\zs.map (·.2)=ps/\∀z∈zs,H z.1=some (.tup (vP z.2))
 |_,_,.nil=>⟨[],rfl,rfl,fun _ h=>nomatch h⟩
 |b::bs,p::ps,.cons h t=>by
  obtain⟨zs,z1,z2,z3⟩:=z3d t;refine⟨(b,p)::zs,by rw[Ak,z1];rfl,by rw[Ak,z2],fun z hz=>?_⟩;rcases Be.mp hz with rfl|hz
  ·exact h
  ·exact z3 z hz
structure CallsMe (P:Program) (w:World) (K:Ai) (mg:Str->Option Value) (base:Heap) (c Cn:Addr):Prop where
 all_places:CalX P w K mg base "all_places" 6 ["hall", "wishes"] (spAllP c Cn)
 m_is_one_place:MCal P w K mg base c "is_one_place" 2 ["self", "one", "other"] (spOneP c)
def spMeet(c Cn:Addr):Sp:=fun vs H Q E=>∃h d L bl rows zs,vs=[.ref h,.ref L]/\HallAt c H h d bl rows/\Hl bl rows/\rows.length<=30/\ML H L zs/\okMs (zs.map (·.2))/\zs.length<=60/\RW H E Cn rows (zs.map (·.2)) /\
 (GoodW rows (zs.map (·.2))->∀L' ts ps H',H L'=none->Same H H'->TL H' L' ts->ps.Perm (rows.map (·.1))->ps.Pairwise (fun a b=>pLt b a=false)->ts.map (·.2)=accT bl (plc (zs.map (·.2))) ps ps.length->Q (.ref L') H')
abbrev q3s:Stmt:=top 13
theorem sc_meetings:FnScope ["hall", "wishes", "places", "paths", "told", "at", "one", "other"] ["hall", "wishes"] (defScope q3s):=by trivial
theorem x1c{c Cn:Addr}(D:Df K mg "meetings" q3s ["hall", "wishes"])(T:Txt mg)(C:CallsMe P w K mg base c Cn):CalX P w K mg base "meetings" 7 ["hall", "wishes"] (spMeet c Cn):=by
 refine D.calX sc_meetings (fun vs H Q E h=>?_) (fun f cdv A outer s H vs Q E hr h=>?_)
 ·obtain⟨h,d,L,bl,rows,zs,rfl,_⟩:=h;rfl
 ·obtain⟨h,d,L,bl,rows,zs,rfl,hh,hl,h30,ml,okm,few,kE,k⟩:=h;refine⟨_,(q0e (q0h (i:=2) sc_meetings.nd rfl (by trivial) (q9d C.all_places hr accX (q0a (pv 0) (q0a (pv 1) q0d)))) (q0e (q0h (i:=3) sc_meetings.nd rfl (by trivial) (q0i (q2e hr) (by rfl) T.b_sorted (by decide +kernel) (q0a (pv 2) q0d))) (q0e (q0h (i:=4) sc_meetings.nd rfl (by trivial) (q1n q0d)) (q0e (q2r passDef rfl (@z4k _ _ _ _ _ _ _ _ K rfl rfl T.b_enumerate (q0a (pv 3) q0d) (by rfl)) (@q2t _ _ _ _ (2) _ K rfl rfl (q0p (q0n (i:=5) sc_meetings.nd rfl (by trivial)) (q0p (q0n (i:=6) sc_meetings.nd rfl (by trivial)) q1q)) (by rfl) (by rfl)) (q0f (q2r passDef rfl (@q5v _ _ _ _ K rfl (q0q (sl_k K rfl) (pv 3) (q0u (q0w q1b (pv 5) q0g)) q0t)) (q0n (i:=7) sc_meetings.nd rfl (by trivial)) (q0f (q0y (@q8l _ _ _ K rfl (pe_m C.m_is_one_place hr (pv 0) (q0a (q2h (q1y hr) (pv 2) (pv 6) (fun _ _=>rfl)) (q0a (q2h (q1y hr) (pv 2) (pv 7) (fun _ _=>rfl)) q0d))) (fun _=>rfl)) (q0f (q1w (@bm_k _ _ _ _ _ _ _ _ _ _ _ _ K rfl Co Dz Ea q1x (pv 4) (q0a (q0o (q0a (pv 6) (q0a (pv 7) (q0a (q2h (q1y hr) (pv 2) (pv 6) (fun _ _=>rfl)) q0d)))) q0d) (by rfl) (by rfl) (by rfl) (by rfl) (by rfl)))) q0l))))) (q0f (q0m (pv 4))))))),?_⟩;obtain⟨dx,hi⟩:=hh.i;refine⟨_,rfl,_,rfl,h,d,L,bl,rows,zs,rfl,hh,hl,by lia,ml,okm,few,kE.up,fun gw D0 ps0 rs H1 hD0 s1 pd0 pm0 pw0 e0=>?_⟩;have k:=k gw;have hks:(ps0.map fun x=>((x.2.1,.ref x.1):HRow)).map (·.1)=rs.map (·.1):=by
   have:(ps0.map fun x=>((x.2.1,.ref x.1):HRow)).map (·.1)=(ps0.map (·.2)).map (·.1):=by rw[Al,Al];rfl
   rw[this,e0,Al];rfl
  have hrl:rs.length=rows.length:=pm0.length_eq;have hpl:ps0.length=rs.length:=by have:=congrArg List.length e0;rw[Ac,Ac] at this;exact this
  have nd0:((ps0.map (·.2)).map (·.1)).Nodup:=by
   have e:(ps0.map (·.2)).map (·.1)=rs.map (·.1):=by rw[e0,Al];rfl
   rw[e];exact(hl.perm pm0).paths
  refine⟨_,rfl,D0,_,rfl,pd0.at_,by rw[Ac];lia,fun r hr=>?_,fun L2 bs ps hL2 hp2 hs2 pts=>?_⟩
  ·have hr1:r.1∈rs.map (·.1):=by rw[<- hks];exact Ah.mpr ⟨r,hr,rfl⟩
   obtain⟨y,hy,e⟩:=Ah.mp hr1;rw[<- e];exact(hl.ok y (pm0.mem_iff.mp hy)).ne
  rw[hks] at hp2;obtain⟨xs,x1,x2,x3⟩:=z3d pts;rw[x1];have hpp:ps.Perm (rows.map (·.1)):=hp2.trans (pm0.map _);have xl:xs.length<=30:=by
   have e1:=congrArg List.length x2;have e2:=hpp.length_eq;rw[Ac] at e1 e2;lia
  have s2:=(Same.refl H1).new (o:=.lst (xs.map fun z=>V.ref z.1)) hL2;have hLL:upd H1 L2 (.lst (xs.map fun z=>V.ref z.1)) L2=some (.lst (xs.map fun z=>V.ref z.1)):=q0b;have hx2:∀z∈xs,upd H1 L2 (.lst (xs.map fun z=>V.ref z.1)) z.1=some (.tup (vP z.2)):=fun z hz=>s2 _ _ (x3 z hz);have s12:=s1.trans s2;have pd2:=pd0.same s2;generalize upd H1 L2 (.lst (xs.map fun z=>V.ref z.1))=H2 at s2 hLL hx2 s12 pd2;clear x3 pts x1 s2 pd0;have hds:ps.length=xs.length:=by rw[<- x2,Ac]
  have hmem:∀z∈xs,z.2∈rows.map (·.1):=fun z hz=>hpp.mem_iff.mp (by rw[<- x2];exact Ah.mpr ⟨z,hz,rfl⟩);have get:∀{H':Hp} (z:Addr×Pth),z∈xs->Same H2 H'->∃e,DGet H' D0 (.ref z.1) (some (.ref e))/\H' e=some (.tup (vP (plc (zs.map (·.2)) z.2))):=fun{H'} z hz s'=>by
   have hin:z.2∈rs.map (·.1):=(pm0.map _).mem_iff.mpr (hmem z hz);rcases(pd2.same s').get nd0 (s' _ _ (hx2 z hz)) with⟨hn,_⟩|⟨y,hy,ey,dg,hy2⟩
   ·exact absurd (by rw[e0,Al];exact hin) hn
   ·refine⟨y.1,dg,?_⟩;rw[e0,z6f hin] at hy2;exact hy2
  have okz:∀z∈xs,okP (plc (zs.map (·.2)) z.2):=fun z hz=>q3d hl gw (hmem z hz);generalize hf:plc (zs.map (·.2))=f at get okz k;have hi2:=s12 _ _ hi;refine⟨by show 0<=sizeLine;decide,fun L3 hL3=>?_⟩;have s3:=(Same.refl H2).new (o:=.lst []) hL3;refine⟨_,rfl,.inr ⟨L2,_,rfl,SqL.of (s3 _ _ hLL),?_⟩⟩;refine q5m (fun i σ' H'=>∃ts x5 x6 x7,σ'=[some (.ref h),some (.ref L),some (.ref D0),some (.ref L2),some (.ref L3),x5,x6,x7]/\Same H2 H'/\TL H' L3 ts/\ts.map (·.2)=accT bl f ps i) ⟨[],none,none,none,rfl,s3,⟨q0b,(fun _ h=>nomatch h)⟩,rfl⟩ (fun i σ' H' x=>by obtain⟨_,_,_,_,_,s',_⟩:=x;exact SqL.of (s' _ _ hLL)) ?_ ?_
  ·rintro i v T' σ' H4 hv ⟨ts,x5,x6,x7,rfl,s4,tl4,ets⟩ hT;obtain⟨z,hz,rfl⟩:=gR0 hv
   have hzx:=Aq hz;have hil:i<xs.length:=(Bg.mp hz).1;have hpi:ps[i]?=some z.2:=by rw[<- x2,Az,hz];rfl
   have sT:=(Same.refl H4).new (o:=.tup [.int i,.ref z.1]) hT;refine⟨T',_,rfl,SqT.of q0b,rfl,_,_,rfl,_,_,rfl,rfl,?_⟩;have s5:=s4.trans sT;have tl5:=tl4.same sT;refine⟨_,rfl,_,rfl,.inl ⟨_,_,rfl,rfl,_,rfl,.inr (.inl ⟨L2,_,rfl,SqL.of (s5 _ _ hLL),fun L5 hL5=>?_⟩)⟩⟩;have ec:cutV (xs.map fun z=>V.ref z.1) (some ((i:Int)+1)) none=(xs.drop (i+1)).map fun z=>V.ref z.1:=by
    rw[q9n (by lia) (by rw[Ac];lia),Jd];congr 1
   rw[ec];have s6':=(Same.refl (upd H4 T' (.tup [.int i,.ref z.1]))).new (o:=.lst ((xs.drop (i+1)).map fun z=>V.ref z.1)) hL5;have s6:=s5.trans s6';have tl6:=tl5.same s6';have hL6:upd (upd H4 T' (.tup [.int i,.ref z.1])) L5 (.lst ((xs.drop (i+1)).map fun z=>V.ref z.1)) L5=some (.lst ((xs.drop (i+1)).map fun z=>V.ref z.1)):=q0b;have hL53:L5≠L3:=fun y=>by rw[y,tl5.at_] at hL5;cases hL5
   generalize upd (upd H4 T' (.tup [.int i,.ref z.1])) L5 (.lst ((xs.drop (i+1)).map fun z=>V.ref z.1))=H6 at s6' s6 tl6 hL6;refine .inl ⟨L5,rfl,⟨_,SqL.of hL6⟩,?_⟩;refine q4t (xs:=(xs.drop (i+1)).map fun z=>V.ref z.1) (fun j σ' H'=>∃ts x7,σ'=[some (.ref h),some (.ref L),some (.ref D0),some (.ref L2),some (.ref L3),some (.int (i:Int)),some (.ref z.1),x7]/\Same H2 H'/\TL H' L3 ts/\H' L5=some (.lst ((xs.drop (i+1)).map fun z=>V.ref z.1))/\ts.map (·.2)=accT bl f ps i++(((ps.drop (i+1)).take j).filter fun q=>decide (fold bl (f z.2)=fold bl (f q))).map fun q=>(z.2,q,f z.2))
    ⟨ts,x7,rfl,s6,tl6,hL6,by rw[ets];simp⟩ (fun j σ' H' _ x=>by obtain⟨_,_,_,_,_,h5,_⟩:=x;exact SqL.of h5) ?_ ?_
   ·rintro j v σ' H7 hv ⟨ts,x7,rfl,s7,tl7,hL7,ets7⟩;obtain⟨y,hy,rfl⟩:∃y,(xs.drop (i+1))[j]?=some y/\v=.ref y.1:=by
     rw[Az] at hv;cases e:(xs.drop (i+1))[j]? with
     |none=>rw[e] at hv;cases hv
     |some y=>rw[e] at hv;cases hv;exact⟨y,rfl,rfl⟩
    have hyx:y∈xs:=Ha (Aq hy);have hpj:(ps.drop (i+1))[j]?=some y.2:=by rw[<- x2,<- Jd,Az,hy];rfl
    have e1:(ps.drop (i+1)).take (j+1)=(ps.drop (i+1)).take j++[y.2]:=by rw[Cb,hpj];rfl
    obtain⟨ez,dz,hz7⟩:=get z hzx s7;obtain⟨ey,dy,hy7⟩:=get y hyx s7;refine⟨_,rfl,h,dx,_,rfl,s7 _ _ hi2,rfl,_,rfl,_,rfl,D0,_,rfl,dz,_,rfl,_,rfl,D0,_,rfl,dy,h,ez,ey,bl,dx,_,f z.2,f y.2,rfl,s7 _ _ hi2,rfl,hz7,hy7,okz z hzx,okz y hyx,fun H8 s8=>⟨_,rfl,?_⟩⟩;have s78:=s7.trans s8;have tl8:=tl7.same s8;have hlen:ts.length<=930:=by
     have e2:=congrArg List.length ets7;rw[Ac,Ap,Ac] at e2;have e3:=q7n (bl:=bl) (f:=f) (ps:=ps) i;have e4:((((ps.drop (i+1)).take j).filter fun q=>decide (fold bl (f z.2)=fold bl (f q)))).length<=ps.length:=by
      refine Bi (Lj _ _) ?_;rw[Bp,Ce];lia
     have e5:i*ps.length<=30*30:=Nat.mul_le_mul (by lia) (by lia);lia
    refine iteB (fun hc=>?_) (fun hc=>?_)
    ·obtain⟨ez',dz',hz8⟩:=get z hzx s78;refine⟨_,rfl,.inl ⟨rfl,_,SqL.of tl8.at_⟩,_,rfl,_,rfl,_,rfl,_,rfl,D0,_,rfl,dz',by show 3<=sizeLine;decide,fun T1 hT1=>?_⟩;have s9':=(Same.refl H8).new (o:=.tup [.ref z.1,.ref y.1,.ref ez']) hT1;have s9:=s78.trans s9';have tl9:=tl8.same s9';have tt:TT3 (upd H8 T1 (.tup [.ref z.1,.ref y.1,.ref ez'])) T1 (z.2,y.2,f z.2):=⟨z.1,y.1,ez',q0b,s9 _ _ (hx2 z hzx),s9 _ _ (hx2 y hyx),s9' _ _ hz8⟩
     refine⟨L3,_,_,rfl,rfl,tl9.at_,by rw[Ac];exact small' (by lia),?_⟩;refine⟨ts++[(T1,(z.2,y.2,f z.2))],_,rfl,fun x u e=>by rw[q0c (fun w'=>by rw[w',hL3] at e;cases e)];exact s9 _ _ e,tl9.put tt,by rw[q0c hL53];exact s9' _ _ (s8 _ _ hL7),?_⟩;rw[Aj,ets7,e1,Kh,Fy (by simpa using hc),Aj,<- Kr];rfl
    ·refine⟨ts,_,rfl,s78,tl8,s8 _ _ hL7,?_⟩;rw[ets7,e1,Kh,Fx (by simpa using hc)];simp
   ·rintro σ' H7 ⟨ts,x7,rfl,s7,tl7,hL7,ets7⟩;refine⟨ts,_,_,_,rfl,s7,tl7,?_⟩;rw[q5r,ets7];congr 1;unfold rowT;rw[hpi];have e2:(ps.drop (i+1)).take ((xs.drop (i+1)).map fun z=>V.ref z.1).length=ps.drop (i+1):=Eu (by rw[Ac,Ce,Ce];lia);rw[e2]
  ·rintro σ' H4 ⟨ts,x5,x6,x7,rfl,s4,tl4,ets⟩;refine⟨_,rfl,k L3 ts ps H4 (s12.free hL3) (s12.trans s4) tl4 hpp hs2 ?_⟩;rw[ets,Ac,hds]
theorem ne_dt{H:Hp}{x y:V}{d:PyData}{Q:VK}(hx:Dt K H x d)(hy:Dt K H y d)(l:d.canLay0=true)(dp:d.depth<=100)(k:Q (.bl false) H):rNeU K x y H Q:=by
 refine .inr ⟨_,_,hx,hy,l,l,by rw[Nat.min_self];exact dp,?_⟩;rw[SeqAt.eqv_refl _ l];exact k
def dT3(t:Tri):PyData:=.tuple [.tuple (dP t.1),.tuple (dP t.2.1),.tuple (dP t.2.2)]
def Low3(t:Tri):Prop:=Low t.1/\Low t.2.1/\Low t.2.2
theorem dt_T3{H:Hp}{T:Addr}{t:Tri}(h:TT3 H T t):Dt K H (.ref T) (dT3 t):=by
 obtain⟨A,B,C,h1,h2,h3,h4⟩:=h;exact .tup (SqT.of h1) (.cons (q1k h2) (.cons (q1k h3) (.cons (q1k h4) .nil)))
theorem z9m{H:Hp}:∀{zs:List Zt},(∀z∈zs,TT3 H z.1 z.2)->Dts K H (zs.map fun z=>V.ref z.1) ((zs.map (·.2)).map dT3)
 |[],_=>.nil
 |z::zs,h=>.cons (dt_T3 (h z Au)) (z9m fun y hy=>h y (Ar _ hy))
theorem lay_T3{t:Tri}(h:Low3 t):(dT3 t).canLay0=true:=by
 unfold dT3;simp only[Dg,Bs,q3m h.1,q3m h.2.1,q3m h.2.2,Kz]
theorem z6g:∀{ms:List Tri},(∀t∈ms,Low3 t)->Bs (ms.map dT3)=true
 |[],_=>by simp[Bs]
 |m::ms,h=>by
  rw[Ak];simp only[Bs,lay_T3 (h m Au),z6g fun y hy=>h y (Ar _ hy),Kz]
theorem dep_T3(t:Tri):(dT3 t).depth<=50:=by
 have h1:=q1t t.1;have h2:=q1t t.2.1;have h3:=q1t t.2.2;unfold dT3;simp only[Et,Cd];lia
theorem z6h:∀ms:List Tri,Cd (ms.map dT3)<=50
 |[]=>by simp[Cd]
 |m::ms=>by
  have h1:=dep_T3 m;have h3:=z6h ms;rw[Ak];simp only[Cd];lia
theorem z6i{H:Hp}{L M:Addr}{t:Zt}{ts:List Zt}{Q:VK}(h:TL H L (t::ts))(g:H M=some (.lst []))(ok:∀u∈(t::ts).map (·.2),Low3 u)(k:Q (.bl true) H):rNeU K (.ref L) (.ref M) H Q:=by
 refine .inr ⟨_,_,.lst (SqL.of h.at_) (z9m h.pr),.lst (SqL.of g) .nil,by simp only[Dg,z6g ok],by simp[Dg,Bs],?_,?_⟩
 ·have:=z6h ((t::ts).map (·.2));simp only[Et];lia
 ·have e:Cy (.list (((t::ts).map (·.2)).map dT3)) (.list [])=false:=by simp[Cy,Fv]
  rw[e];exact k
def spIniM(C:Addr):Sp:=fun vs H Q _=>∃ea a b p q1 q2 q3,vs=[.ref ea,.ref a,.ref b,.ref p]/\H ea=some (ExN (.ref C) none ea)/\(H a=some (.tup (vP q1))/\PB q1)/\(H b=some (.tup (vP q2))/\PB q2)/\(H p=some (.tup (vP q3))/\PB q3) /\
 ∀d,H d=none->d≠ea->Q .non (upd (upd (upd (upd (upd H d (XdO d [])) ea (ExN (.ref C) (some d) ea)) d (XdO d [("one",.ref a)])) d (XdO d (putF "other" (.ref b) [("one",.ref a)]))) d (XdO d (putF "place" (.ref p) (putF "other" (.ref b) [("one",.ref a)]))))
abbrev q1m:Stmt:=inClass (top 8) 0
theorem q4l:FnScope ["self", "one", "other", "place"] ["self", "one", "other", "place"] (defScope q1m):=by trivial
theorem q7o{Cn Dn:Addr}(F:Ef K mg "Meets" Cn Dn "Meets.__init__" q1m ["self", "one", "other", "place"])(g_HallError:mg "HallError" = some (.ref Dn))(S1:ESet K Cn "one")(S2:ESet K Cn "other")(S3:ESet K Cn "place"):CalE P w K mg base "Meets" Cn 1 ["self", "one", "other", "place"] (spIniM Cn):=by
 refine F.cal q4l (fun vs H Q E h=>?_) (by decide) (fun mc f cdv A outer s H vs Q E L_low N_ini hr h=>?_)
 ·obtain⟨ea,a,b,p,q1,q2,q3,rfl,_⟩:=h;rfl
 ·obtain⟨ea,a,b,p,q1,q2,q3,rfl,hE,⟨h1,p1⟩,⟨h2,p2⟩,⟨h3,p3⟩,k⟩:=h;refine⟨_,(q0e (q1w (z9k L_low N_ini rfl g_HallError (q0a (pv 0) (q0a (z5m (z5t K rfl hr (pv 1)) z1q (q4w (z5t K rfl hr (pv 2)) (q4w z1q (q4w (z5t K rfl hr (pv 3)) z5n)))) q0d)))) (q0e (z1o K rfl (pv 0) (pv 1)) (q0e (z1o K rfl (pv 0) (pv 2)) (q0f (z1o K rfl (pv 0) (pv 3)))))),?_⟩;have l0:Ou.length=0:=by decide +kernel
  have l1:(Ag " and ").length<=100:=by decide +kernel
  have l2:(Ag " would meet at ").length<=100:=by decide +kernel
  refine⟨_,rfl,_,rfl,a,q1.map mk,rfl,SqT.of (by rw[<- z6d];exact h1),by rw[Ac];have:=p1.few;lia,z0r p1,fun y1 hy1=>⟨TX.small (by rw[app_len];lia),TX.small (by rw[app_len,app_len];lia),?_⟩⟩;refine⟨_,rfl,b,q2.map mk,rfl,SqT.of (by rw[<- z6d];exact h2),by rw[Ac];have:=p2.few;lia,z0r p2,fun y2 hy2=>⟨TX.small (by rw[app_len,app_len,app_len];lia),TX.small (by rw[app_len,app_len,app_len,app_len];lia),?_⟩⟩;refine⟨_,rfl,p,q3.map mk,rfl,SqT.of (by rw[<- z6d];exact h3),by rw[Ac];have:=p3.few;lia,z0r p3,fun y3 hy3=>⟨TX.small (by rw[app_len,app_len,app_len,app_len,app_len];lia),TX.small (by rw[app_len,app_len,app_len,app_len,app_len];lia),?_⟩⟩;refine⟨ea,_,none,rfl,hE,_,rfl,_,rfl,ea,Cn,rfl,S1,.inl ⟨hE,fun d hd hne=>?_⟩⟩;refine⟨_,rfl,_,rfl,ea,Cn,rfl,S2,.inr ⟨d,_,by rw[q0c (Bo hne)];exact q0b,q0b,by show 1<1000;decide,?_⟩⟩;exact⟨_,rfl,_,rfl,ea,Cn,rfl,S3,.inr ⟨d,_,by rw[q0c (Bo hne),q0c (Bo hne)];exact q0b,q0b,by show 2<1000;decide,k d hd hne⟩⟩
structure RfM (H:Hp) (ea C:Addr) (t:Tri):Prop where
 ex:∃d a b p,H ea=some (ExO (.ref C) (some d) ea)/\H d=some (XdO d (putF "place" (.ref p) (putF "other" (.ref b) [("one",.ref a)])))/\H a=some (.tup (vP t.1))/\H b=some (.tup (vP t.2.1))/\H p=some (.tup (vP t.2.2))
theorem RfM.same{H H':Hp}{ea C:Addr}{t:Tri}(r:RfM H ea C t)(s:Same H H'):RfM H' ea C t:=let ⟨d,a,b,p,h1,h2,h3,h4,h5⟩:=r.ex;⟨d,a,b,p,s _ _ h1,s _ _ h2,s _ _ h3,s _ _ h4,s _ _ h5⟩
def Mt1(bl:Bool)(rows:List Rw)(ms:List Mv)(t:Tri):Prop:=GoodW rows ms/\∃ps ts,ps.Perm (rows.map (·.1))/\ps.Pairwise (fun a b=>pLt b a=false)/\accT bl (plc ms) ps ps.length=t::ts
def RM(H:Hp)(E:XK)(Cm:Addr)(bl:Bool)(rows:List Rw)(ms:List Mv):Prop:=∀t,Mt1 bl rows ms t->∀ea H',Same H H'->H ea=none->RfM H' ea Cm t->E (.ref ea) none H'
theorem RM.same{H H1:Hp}{E:XK}{Cm:Addr}{bl:Bool}{rows:List Rw}{ms:List Mv}(h:RM H E Cm bl rows ms)(s:Same H H1):RM H1 E Cm bl rows ms:=fun t f ea H' sm hea r=>h t f ea H' (s.trans sm) (s.free hea) r
theorem RM.up{H:Hp}{E:XK}{Cm:Addr}{bl:Bool}{rows:List Rw}{ms:List Mv}(h:RM H E Cm bl rows ms):RM H (fun e _ H'=>∀ea,e=.ref ea->E (.ref ea) none H') Cm bl rows ms:=fun t f ea H' sm hea r ea' ez=>by
 cases ez;exact h t f ea H' sm hea r
structure CallsAs (P:Program) (w:World) (K:Ai) (mg:Str->Option Value) (base:Heap) (c Cn Cm:Addr):Prop where
 meetings:CalX P w K mg base "meetings" 7 ["hall", "wishes"] (spMeet c Cn)
 e_Meets:CalE P w K mg base "Meets" Cm 1 ["self", "one", "other", "place"] (spIniM Cm)
theorem q4x{bl:Bool}{f:Pth->Pth}{ps:List Pth}{n:Nat}{t:Tri}(h:t∈accT bl f ps n):t.1∈ps/\t.2.1∈ps/\t.2.2=f t.1:=by
 obtain⟨i,_,h⟩:=Oi.mp h;unfold rowT at h;cases e:ps[i]? with
 |none=>rw[e] at h;cases h
 |some p =>
  rw[e] at h;obtain⟨q,hq,rfl⟩:=Ah.mp h;exact⟨Aq e,Ha (Ji.mp hq).1,rfl⟩
theorem q6p{α:Type}[DecidableEq α]:∀{l:List α},¬l.Nodup->∃(i j:Nat) (x:α),i<j/\l[i]?=some x/\l[j]?=some x
 |[],h=>absurd Mm h
 |a::l,h=>by
  by_cases ha:a∈l
  ·obtain⟨j,hj⟩:=Lk.mp ha;exact⟨0,j+1,a,by lia,rfl,hj⟩
  ·obtain⟨i,j,x,h1,h2,h3⟩:=q6p fun z=>h (Ci.mpr ⟨ha,z⟩)
   exact⟨i+1,j+1,x,by lia,h2,h3⟩
theorem z0t{bl:Bool}{f:Pth->Pth}{ps:List Pth}(h:accT bl f ps ps.length=[]):(ps.map fun p=>fold bl (f p)).Nodup:=by
 refine Jn fun z=>?_;obtain⟨i,j,x,hij,h1,h2⟩:=q6p z;rw[Az] at h1 h2;cases e1:ps[i]? with
 |none=>rw[e1] at h1;cases h1
 |some p =>
  cases e2:ps[j]? with
  |none=>rw[e2] at h2;cases h2
  |some q =>
   rw[e1] at h1;rw[e2] at h2;have eq:fold bl (f p)=fold bl (f q):=(Bw h1).trans (Bw h2).symm;have hin:(p,q,f p)∈accT bl f ps ps.length:=by
    refine Oi.mpr ⟨i,List.mem_range.mpr (Bg.mp e1).1,?_⟩;unfold rowT;rw[e1];refine Ah.mpr ⟨q,Ji.mpr ⟨Lk.mpr ⟨j-(i+1),?_⟩,decide_eq_true eq⟩,rfl⟩;rw[So];rw[<- e2];congr 1;lia
   rw[h] at hin;cases hin
def Apart(bl:Bool)(rows:List Rw)(f:Pth->Pth):Prop:=((rows.map (·.1)).map fun p=>fold bl (f p)).Nodup
theorem q9o{H H1:Hp}{ea d:Addr}{o1 o2 o3 o4 o5 o6 o7:HO}(sm:Same H H1)(h1:H1 ea=none)(h2:upd H1 ea o1 d=none):Same H (upd (upd (upd (upd (upd (upd (upd H1 ea o1) d o2) ea o3) d o4) d o5) d o6) ea o7):=fun b o hb=>by
 have hb1:=sm b o hb;have n1:b≠ea:=fun z=>by rw[z,h1] at hb1;cases hb1
 have n2:b≠d:=fun z=>by rw[<- z,q0c n1,hb1] at h2;cases h2
 rw[q0c n1,q0c n2,q0c n2,q0c n2,q0c n1,q0c n2,q0c n1];exact hb1
def spAsk(c Cn Cm:Addr):Sp:=fun vs H Q E=>∃h d L bl rows zs,vs=[.ref h,.ref L]/\HallAt c H h d bl rows/\Hl bl rows/\rows.length<=30/\ML H L zs/\okMs (zs.map (·.2))/\zs.length<=60/\RW H E Cn rows (zs.map (·.2))/\RM H E Cm bl rows (zs.map (·.2)) /\
 (GoodW rows (zs.map (·.2))->Apart bl rows (plc (zs.map (·.2)))->∀H',Same H H'->Q (.bl true) H')
abbrev q2o:Stmt:=top 14
theorem sc_ask_wishes:FnScope ["hall", "wishes", "met", "one", "other", "place"] ["hall", "wishes"] (defScope q2o):=by trivial
theorem q7p{c Cn Cm:Addr}(D:Df K mg "ask_wishes" q2o ["hall", "wishes"])(T:Txt mg)(C:CallsAs P w K mg base c Cn Cm):CalX P w K mg base "ask_wishes" 8 ["hall", "wishes"] (spAsk c Cn Cm):=by
 refine D.calX sc_ask_wishes (fun vs H Q E h=>?_) (fun f cdv A outer s H vs Q E hr h=>?_)
 ·obtain⟨h,d,L,bl,rows,zs,rfl,_⟩:=h;rfl
 ·obtain⟨h,d,L,bl,rows,zs,rfl,hh,hl,h30,ml,okm,few,kE,kM,k⟩:=h;refine⟨_,(q0e (q0h (i:=2) sc_ask_wishes.nd rfl (by trivial) (q9d C.meetings hr accX (q0a (pv 0) (q0a (pv 1) q0d)))) (q0e (q0y (q0k (ne_k K rfl hr) (pv 2) (q1n q0d) (nomark _)) (q0e (q7y (q1a (ix_k K rfl) (pv 2) q0g (fun _ _=>rfl)) (@q2t _ _ _ _ (3) _ K rfl rfl (q0p (q0n (i:=3) sc_ask_wishes.nd rfl (by trivial)) (q0p (q0n (i:=4) sc_ask_wishes.nd rfl (by trivial)) (q0p (q0n (i:=5) sc_ask_wishes.nd rfl (by trivial)) q1q))) (by rfl) (by rfl))) (q0f (ps_rs C.e_Meets hr accX rfl (q0a (pv 3) (q0a (pv 4) (q0a (pv 5) q0d)))))) q0l) (q0f (q0m q3o)))),?_⟩;refine⟨_,rfl,_,rfl,h,d,L,bl,rows,zs,rfl,hh,hl,h30,ml,okm,few,kE.up,fun gw G ts ps H1 hG s1 tl pm pw ets=>?_⟩;refine⟨_,rfl,by show 0<=sizeLine;decide,fun E1 hE1=>?_⟩;have s2:=(Same.refl H1).new (o:=.lst []) hE1;have s12:=s1.trans s2;have tl2:=tl.same s2;have hE2:upd H1 E1 (.lst []) E1=some (.lst []):=q0b;generalize upd H1 E1 (.lst [])=H2 at s2 s12 tl2 hE2;have okr:∀p∈rows.map (·.1),okP p:=fun p hp=>by
   obtain⟨r,hr,rfl⟩:=Ah.mp hp;exact hl.ok r hr
  cases ts with
  |nil =>
   have ap:Apart bl rows (plc (zs.map (·.2))):=((pm.map _).nodup_iff.mp (z0t (by rw[<- ets];rfl)))
   refine z5g (zs:=[]) tl2.at_ (fun _ h=>nomatch h) hE2 (fun _ h=>nomatch h) ⟨_,rfl,iteF ?_⟩;exact k gw ap _ s12
  |cons t ts =>
   have hm:t.2∈accT bl (plc (zs.map (·.2))) ps ps.length:=by rw[<- ets];exact Au
   obtain⟨m1,m2,m3⟩:=q4x hm;have u1:=pm.mem_iff.mp m1;have o1:=okr _ u1;have o2:=okr _ (pm.mem_iff.mp m2);have o3:okP t.2.2.2:=by rw[m3];exact q3d hl gw u1
   obtain⟨A1,B1,C1,g1,g2,g3,g4⟩:=tl2.pr t Au;refine z6i tl2 hE2 (fun t' ht'=>?_) ⟨_,rfl,iteT ?_⟩
   ·rw[ets] at ht';obtain⟨n1,n2,n3⟩:=q4x ht';have v1:=pm.mem_iff.mp n1;exact⟨(okr _ v1).low,(okr _ (pm.mem_iff.mp n2)).low,by rw[n3];exact(q3d hl gw v1).low⟩
   refine⟨_,rfl,.inl ⟨G,_,0,_,rfl,rfl,SqL.of tl2.at_,z4a (j:=0) rfl,t.1,_,rfl,SqT.of g1,rfl,_,_,rfl,_,_,rfl,_,_,rfl,rfl,?_⟩⟩;refine⟨_,rfl,_,rfl,_,rfl,fun ea hea=>⟨ea,A1,B1,C1,t.2.1,t.2.2.1,t.2.2.2,rfl,q0b,?_⟩⟩;have se:=(Same.refl H2).new (o:=ExN (.ref Cm) none ea) hea;refine⟨⟨se _ _ g2,okP.pb o1⟩,⟨se _ _ g3,okP.pb o2⟩,⟨se _ _ g4,okP.pb o3⟩,fun d hd hne=>⟨rfl,some d,by rw[q0c (Bo hne),q0c (Bo hne),q0c (Bo hne),q0b],?_⟩⟩;have sf:=q9o (o1:=ExN (.ref Cm) none ea) (o2:=XdO d []) (o3:=ExN (.ref Cm) (some d) ea) (o4:=XdO d [("one",.ref A1)]) (o5:=XdO d (putF "other" (.ref B1) [("one",.ref A1)])) (o6:=XdO d (putF "place" (.ref C1) (putF "other" (.ref B1) [("one",.ref A1)]))) (o7:=ExO (.ref Cm) (some d) ea) (Same.refl H2) hea hd;refine kM t.2 ⟨gw,ps,ts.map (·.2),pm,pw,by rw[<- ets];rfl⟩ ea _ (s12.trans sf) (s12.free hea) ⟨d,A1,B1,C1,q0b,by rw[q0c hne];exact q0b,sf _ _ g2,sf _ _ g3,sf _ _ g4⟩
def thenP(f:Pth->Pth):Nat->Pth->Pth
 |0,_=>[]
 |n+1,p=>if p=[] then[] else thenP f n (f p).dropLast++[(f p).getLastD []]
def M6(rows:List Rw)(k:Nat)(p:Pth):Prop:=p=[]\/((p,none)∈rows/\p.length<=k)\/(p∈rows.map (·.1)/\6<=k)
theorem M6.zero{bl:Bool}{rows:List Rw}{p:Pth}(hl:Hl bl rows)(h:M6 rows 0 p):p=[]:=by
 rcases h with h|⟨h,l⟩|⟨_,h⟩
 ·exact h
 ·exact Km.mp (by lia)
 ·lia
theorem M6.in_{rows:List Rw}{k:Nat}{p:Pth}(h:M6 rows k p)(hp:p≠[]):p∈rows.map (·.1):=by
 rcases h with h|⟨h,_⟩|⟨h,_⟩
 ·exact absurd h hp
 ·exact Ah.mpr ⟨_,h,rfl⟩
 ·exact h
theorem z6j{bl:Bool}{rows:List Rw}{ms:List Mv}{p:Pth}(hl:Hl bl rows)(gw:GoodW rows ms)(hp:p∈rows.map (·.1)):IsD rows (plc ms p).dropLast/\((p,none)∈rows->(plc ms p).dropLast=p.dropLast):=by
 by_cases h:p∈ms.map (·.1)
 ·obtain⟨m,hm,rfl⟩:=Ah.mp h;rw[z6e gw.nd hm];have W:=gw.all m hm;refine⟨W.dr,fun hn=>?_⟩;obtain⟨kk,hk,hor⟩:=W.th;exact hor.resolve_right fun z=>z (hl.one hk hn)
 ·rw[z1u h];obtain⟨r,hr,rfl⟩:=Ah.mp hp;exact⟨hl.dr r hr,fun _=>rfl⟩
theorem M6.step{bl:Bool}{rows:List Rw}{ms:List Mv}{k:Nat}{p:Pth}(hl:Hl bl rows)(gw:GoodW rows ms)(h:M6 rows (k+1) p)(hp:p≠[]):M6 rows k (plc ms p).dropLast:=by
 have hin:=h.in_ hp;obtain⟨d1,d2⟩:=z6j hl gw hin;rcases h with h|⟨h,l⟩|⟨_,l⟩
 ·exact absurd h hp
 ·rw[d2 h] at d1 ⊢;rcases d1 with d1|d1
  ·exact .inl d1
  ·exact .inr (.inl ⟨d1,by rw[Fl];lia⟩)
 ·have ok:=q3d hl gw hin;have f6:(plc ms p).length<=6:=ok.few;rcases d1 with d1|d1
  ·exact .inl d1
  ·exact .inr (.inl ⟨d1,by rw[Fl];lia⟩)
theorem q5s{bl:Bool}{rows:List Rw}{ms:List Mv}(hl:Hl bl rows)(gw:GoodW rows ms):∀{k:Nat} {p:Pth},M6 rows k p->Low (thenP (plc ms) (k+1) p)/\(thenP (plc ms) (k+1) p).length<=k+1
 |0,p,h=>by
  have e:=h.zero hl;subst e;exact⟨(fun _ h=>nomatch h),By _⟩
 |k+1,p,h=>by
  unfold thenP;by_cases e:p=[]
  ·rw[if_pos e];exact⟨(fun _ h=>nomatch h),By _⟩
  ·rw[if_neg e];obtain⟨h1,h2⟩:=q5s hl gw (h.step hl gw e);refine⟨fun n hn=>?_,by rw[Ap];exact Nat.add_le_add_right h2 1⟩;rcases Ax.mp hn with hn|hn
   ·exact h1 n hn
   ·rw[Ao.mp hn];exact(q2z (q3d hl gw (h.in_ e))).low
theorem q9p{bl:Bool}{rows:List Rw}{ms:List Mv}(hl:Hl bl rows)(gw:GoodW rows ms)(ap:Apart bl rows (plc ms)):∀{k:Nat} {p q:Pth},M6 rows k p->M6 rows k q->thenP (plc ms) (k+1) p=thenP (plc ms) (k+1) q->p=q
 |0,p,q,h,g,_=>by rw[h.zero hl,g.zero hl]
 |k+1,p,q,h,g,e=>by
  unfold thenP at e;by_cases hp:p=[]
  ·by_cases hq:q=[]
   ·rw[hp,hq]
   ·rw[if_pos hp,if_neg hq] at e;simp at e
  ·by_cases hq:q=[]
   ·rw[if_neg hp,if_pos hq] at e;simp at e
   ·rw[if_neg hp,if_neg hq] at e;obtain⟨e1,e2⟩:=List.append_inj' e rfl;have e3:=q9p hl gw ap (h.step hl gw hp) (g.step hl gw hq) e1;have ip:=h.in_ hp;have iq:=g.in_ hq;have e4:plc ms p=plc ms q:=by
     have o1:=(q3d hl gw ip).ne;have o2:=(q3d hl gw iq).ne;rw[<- Gg o1,<- Gg o2,e3];congr 1;rw[Du,Du,Ct o1,Ct o2] at e2;exact e2
    have ap':((rows.map (·.1)).map fun p=>fold bl (plc ms p)).Nodup:=ap;exact q2i ap' ip iq (by show fold bl (plc ms p)=fold bl (plc ms q);rw[e4])
structure AllP (H:Hp) (D:Addr) (ps:List (Addr×Mv)) (rows:List Rw) (ms:List Mv):Prop where
 rd:Rd H D (dR (ps.map fun x=>(x.2.1,.ref x.1)))
 pr:∀x∈ps,H x.1=some (.tup (vP x.2.2))
 pm:(ps.map (·.2)).Perm (rows.map fun r=>(r.1,plc ms r.1))
theorem AllP.of{H:Hp}{D:Addr}{ps:List (Addr×Mv)}{rows:List Rw}{ms:List Mv}(x:PDt H D ps)(p:(ps.map (·.2)).Perm (rows.map fun r=>(r.1,plc ms r.1))):AllP H D ps rows ms:=⟨.inl x.at_,x.pr,p⟩
theorem AllP.same{H H':Hp}{D:Addr}{ps:List (Addr×Mv)}{rows:List Rw}{ms:List Mv}(x:AllP H D ps rows ms)(s:Same H H'):AllP H' D ps rows ms:=⟨x.rd.imp (fun h=>s _ _ h) (fun⟨o,h⟩=>⟨o,s _ _ h⟩),fun y hy=>s _ _ (x.pr y hy),x.pm⟩
theorem AllP.get{H:Hp}{D b:Addr}{ps:List (Addr×Mv)}{rows:List Rw}{ms:List Mv}{bl:Bool}{p:Pth}(x:AllP H D ps rows ms)(hl:Hl bl rows)(hp:p∈rows.map (·.1))(hb:H b=some (.tup (vP p))):∃e,DGet H D (.ref b) (some (.ref e))/\H e=some (.tup (vP (plc ms p))):=by
 have e1:((rows.map fun r=>(r.1,plc ms r.1)):List Mv).map (·.1)=rows.map (·.1):=by rw[Al];rfl
 have p1:((ps.map (·.2)).map (·.1)).Perm (rows.map (·.1)):=by rw[<- e1];exact x.pm.map _
 have nd:((ps.map (·.2)).map (·.1)).Nodup:=p1.nodup_iff.mpr hl.paths;have em:(ps.map (·.2)).map (·.1)=ps.map (·.2.1):=by rw[Al];rfl
 have hin:p∈ps.map (·.2.1):=by rw[<- em];exact p1.mem_iff.mpr hp
 obtain⟨y,hy,ey⟩:=Ah.mp hin;refine⟨y.1,?_,?_⟩
 ·have e:=q3a (rs:=ps.map fun x=>((x.2.1,.ref x.1):HRow)) (r:=(y.2.1,.ref y.1)) (Ah.mpr ⟨y,hy,rfl⟩) (by rw[Al];rw[em] at nd;exact nd);rw[<- e];exact .inr ⟨_,kP y.2.1,b,x.rd,rfl,by rw[q4i,ey];exact hb,rfl⟩
 ·have hm:y.2∈rows.map fun r=>(r.1,plc ms r.1):=x.pm.mem_iff.mp (Ah.mpr ⟨y,hy,rfl⟩);obtain⟨r,_,e⟩:=Ah.mp hm;have hy2:=x.pr y hy;rw[<- e] at hy2;have e3:r.1=p:=by rw[<- ey,<- e]
  rw[<- e3];exact hy2
structure CallsPT (P:Program) (w:World) (K:Ai) (mg:Str->Option Value) (base:Heap) (k:Nat) (S:Sp):Prop where
 path_then:Cal P w K mg base "path_then" k ["path", "places"] S
def spPT(k:Nat):Sp:=fun vs H Q _=>∃b D bl rows ms ps p,vs=[.ref b,.ref D]/\Hl bl rows/\GoodW rows ms/\AllP H D ps rows ms/\H b=some (.tup (vP p))/\M6 rows k p/\k<=6/\∀q H',Same H H'->H' q=some (.tup (vP (thenP (plc ms) (k+1) p)))->Q (.ref q) H'
theorem z6k{q:Pth}(h:q≠[]):cutV (vP q) (some (-1)) none=vP [q.getLastD []]:=by
 have hl:=Eo.mpr h;have e:HT.sIx (vP q).length 0 (some (-1))=q.length-1:=by
  show(if (-1:Int)<0 then((-1:Int)+((vP q).length:Int)).toNat else min (-1:Int).toNat (vP q).length)=_;rw[if_pos (by decide),q1g];lia
 have e2:HT.sIx (vP q).length (vP q).length none=(vP q).length:=rfl;unfold cutV;rw[e,e2];have e3:q=q.dropLast++[q.getLastD []]:=by
  rw[Du,Ct h];exact(Gg h).symm
 have e4:(vP q).drop (q.length-1)=vP [q.getLastD []]:=by
  have:q.length-1=(vP q.dropLast).length:=by rw[q1g,Fl]
  rw[this];conv=>lhs;arg 2;rw[e3]
  show((q.dropLast++[q.getLastD []]).map _).drop _=_;rw[Aj];exact List.drop_left
 rw[e4];exact Eu (by rw[q1g,q1g];show 1<=_;lia)
abbrev q1o:Stmt:=top 15
theorem sc_path_then:FnScope ["path", "places", "place"] ["path", "places"] (defScope q1o):=by trivial
theorem q4s{k n:Nat}{S:Sp}(D:Df K mg "path_then" q1o ["path", "places"])(T:Txt mg)(hk:k=0\/∃j,k=j+1/\S=spPT j)(C:CallsPT P w K mg base n S):Cal P w K mg base "path_then" (n+1) ["path", "places"] (spPT k):=by
 refine D.cal sc_path_then (fun vs H Q E h=>?_) (fun f cdv A outer s H vs Q E hr h=>?_)
 ·obtain⟨b,D,bl,rows,ms,ps,p,rfl,_⟩:=h;rfl
 ·obtain⟨b,D,bl,rows,ms,ps,p,rfl,hl,gw,ap,hb,m6,k6,kk⟩:=h;refine⟨_,(q0e (q0y (q0k (eq_k K rfl hr) (pv 0) (q0o q0d) (nomark _)) (q0f (q0m (q0o q0d))) q0l) (q0e (q0h (i:=2) sc_path_then.nd rfl (by trivial) (q2h (q1y hr) (pv 1) (pv 0) (fun _ _=>rfl))) (q0f (q0m (q0w q2j (pe_c (hjk:=Am _) C.path_then hr (q0a (q0q sl_P (pv 2) q0t (q0u (q1r q0x q0g))) (q0a (pv 1) q0d))) (q0q sl_P (pv 2) (q0u (q1r q0x q0g)) q0t)))))),?_⟩;refine⟨_,rfl,by show 0<=sizeLine;decide,fun t0 ht0=>?_⟩;have s0:=(Same.refl H).new (o:=.tup []) ht0;have ht0':upd H t0 (.tup []) t0=some (.tup (vP [])):=q0b;generalize upd H t0 (.tup [])=H1 at s0 ht0';have lowp:Low p:=by
   by_cases e:p=[]
   ·rw[e];exact fun _ h=>nomatch h
   ·obtain⟨r,hr',e2⟩:=Ah.mp (m6.in_ e);rw[<- e2];exact(hl.ok r hr').low
  refine q2y (s0 _ _ hb) ht0' lowp (fun _ h=>nomatch h) ⟨_,rfl,iteB (fun e=>?_) (fun e=>?_)⟩
  ·have e:=of_decide_eq_true e;refine⟨by show 0<=sizeLine;decide,fun t1 ht1=>kk t1 _ (s0.new ht1) ?_⟩;rw[q0b];unfold thenP;rw[if_pos e];rfl
  ·have e:=of_decide_eq_false e;have hin:=m6.in_ e;obtain⟨x,dx,hx⟩:=(ap.same s0).get hl hin (s0 _ _ hb);have ok:=q3d hl gw hin;rcases hk with rfl|⟨j,rfl,rfl⟩
   ·exact absurd (m6.zero hl) e
   refine⟨_,rfl,_,rfl,D,_,rfl,dx,?_⟩;refine⟨_,rfl,_,rfl,_,rfl,x,_,rfl,hx,fun t1 H2 s2 h2=>?_⟩;rw[(q1d ok.ne).1] at h2;have s02:=s0.trans s2;refine⟨_,rfl,t1,D,bl,rows,ms,ps,_,rfl,hl,gw,ap.same s02,h2,m6.step hl gw e,by lia,fun q H3 s3 h3=>?_⟩;refine⟨_,rfl,_,rfl,_,rfl,x,_,rfl,s3 _ _ (s2 _ _ hx),fun t2 H4 s4 h4=>?_⟩;rw[z6k ok.ne] at h4;have hlen:=(q5s hl gw (m6.step hl gw e)).2;refine⟨q,t2,_,_,rfl,rfl,s4 _ _ h3,h4,by rw[q1g,q1g];exact small (by show _+1<=_;lia),fun z H5 s5 h5 _=>?_⟩;refine kk z H5 (((s02.trans s3).trans s4).trans s5) ?_;rw[h5,<- vP_app];conv=>rhs;unfold thenP
   rw[if_neg e]
theorem q7q(D:Df K mg "path_then" q1o ["path", "places"])(T:Txt mg):Cal P w K mg base "path_then" 1 ["path", "places"] (fun _ _ _ _=>False) :=
 D.cal sc_path_then (fun _ _ _ _ h=>h.elim) (fun _ _ _ _ _ _ _ _ _ _ h=>h.elim)
theorem q4d(D:Df K mg "path_then" q1o ["path", "places"])(T:Txt mg):∀k,Cal P w K mg base "path_then" (k+2) ["path", "places"] (spPT k)
 |0=>q4s D T (.inl rfl) ⟨q7q D T⟩
 |k+1=>q4s D T (.inr ⟨k,rfl,rfl⟩) ⟨q4d D T k⟩
structure CallsG (P:Program) (w:World) (K:Ai) (mg:Str->Option Value) (base:Heap) (c Cn Cm:Addr):Prop where
 ask_wishes:CalX P w K mg base "ask_wishes" 8 ["hall", "wishes"] (spAsk c Cn Cm)
 all_places:CalX P w K mg base "all_places" 6 ["hall", "wishes"] (spAllP c Cn)
 path_then:Cal P w K mg base "path_then" 8 ["path", "places"] (spPT 6)
 m_rows:MCal P w K mg base c "rows" 2 ["self"] (spHRows c)
def gRows(rows:List Rw)(ms:List Mv):List Rw:=rows.map fun r=>(thenP (plc ms) 7 r.1,r.2)
theorem z1v{rows:List Rw}{r:Rw}(h:r∈rows):M6 rows 6 r.1:=.inr (.inr ⟨Ah.mpr ⟨r,h,rfl⟩,Am _⟩)
theorem z8n{bl:Bool}{rows:List Rw}{ms:List Mv}(hl:Hl bl rows)(gw:GoodW rows ms)(ap:Apart bl rows (plc ms)):((gRows rows ms).map (·.1)).Nodup:=by
 unfold gRows;rw[Al];have h1:(rows.map (·.1)).Nodup:=hl.paths;have e:rows.map ((·.1)∘fun r:Rw=>(thenP (plc ms) 7 r.1,r.2))=(rows.map (·.1)).map (thenP (plc ms) 7):=by rw[Al];rfl
 rw[e];refine Tg.mpr (List.Pairwise.imp_of_mem (fun{p q} hp hq n=>?_) h1);obtain⟨r,hr,rfl⟩:=Ah.mp hp;obtain⟨r',hr',rfl⟩:=Ah.mp hq;exact fun z=>n (q9p hl gw ap (z1v hr) (z1v hr') z)
theorem z6l{bl:Bool}{rows:List Rw}{ms:List Mv}(hl:Hl bl rows)(gw:GoodW rows ms):∀r∈gRows rows ms,Low r.1:=fun r hr=>by
 obtain⟨x,hx,rfl⟩:=Ah.mp hr;exact(q5s hl gw (z1v hx)).1
def spGoal(c Cn Cm:Addr):Sp:=fun vs H Q E=>∃h d L bl rows zs,vs=[.ref h,.ref L]/\HallAt c H h d bl rows/\Hl bl rows/\rows.length<=30/\ML H L zs/\okMs (zs.map (·.2))/\zs.length<=60/\RW H E Cn rows (zs.map (·.2))/\RM H E Cm bl rows (zs.map (·.2)) /\
 (GoodW rows (zs.map (·.2))->Apart bl rows (plc (zs.map (·.2)))->∀G ys H',H G=none->Same H H'->H' G=some (.lst ys)->Q (.ref G) H')
abbrev z0u:Stmt:=top 16
theorem sc_goal:FnScope ["hall", "wishes", "places"] ["hall", "wishes"] (defScope z0u):=by trivial
theorem x1d{c Cn Cm:Addr}(D:Df K mg "goal" z0u ["hall", "wishes"])(T:Txt mg)(C:CallsG P w K mg base c Cn Cm):CalX P w K mg base "goal" 9 ["hall", "wishes"] (spGoal c Cn Cm):=by
 refine D.calX sc_goal (fun vs H Q E h=>?_) (fun f cdv A outer s H vs Q E hr h=>?_)
 ·obtain⟨h,d,L,bl,rows,zs,rfl,_⟩:=h;rfl
 ·obtain⟨h,d,L,bl,rows,zs,rfl,hh,hl,h30,ml,okm,few,kE,kM,k⟩:=h;refine⟨_,(q0e (q1w (q9d C.ask_wishes hr accX (q0a (pv 0) (q0a (pv 1) q0d)))) (q0e (q0h (i:=2) sc_goal.nd rfl (by trivial) (q9d C.all_places hr accX (q0a (pv 0) (q0a (pv 1) q0d)))) (q0f (q0m (q0i (z2y hr) (by rfl) T.b_sorted (by decide +kernel) (q0a (q3v ["path", "mark"] [("places",2)] rfl (@q5v _ _ _ _ K rfl (pe_m0 C.m_rows hr (pv 0))) (fun _ _ _ _ _=>(@q2t _ _ _ _ (2) _ K rfl rfl (q0p (q0n (i:=0) (show(["path", "mark", "places"]:List Str).Nodup by decide +kernel) rfl (by trivial)) (q0p (q0n (i:=1) (show(["path", "mark", "places"]:List Str).Nodup by decide +kernel) rfl (by trivial)) q1q)) (by rfl) (by rfl))) (fun _ _ _ _ _=>q6z) (fun _ _ _ _ _=>(q0o (q0a (pe_c C.path_then hr (q0a (pv 0) (q0a (pv 2) q0d))) (q0a (pv 1) q0d))))) q0d)))))),?_⟩;refine⟨_,rfl,_,rfl,h,d,L,bl,rows,zs,rfl,hh,hl,h30,ml,okm,few,kE.up,kM.up,fun gw ap H1 s1=>?_⟩;have k:=k gw ap;refine⟨_,rfl,_,rfl,h,d,L,bl,rows,zs,rfl,hh.same s1,hl,by lia,ml.same s1,okm,few,RW.no gw,fun _ D0 ps0 rs H2 hD0 s2 pd0 pm0 pw0 e0=>?_⟩;have s12:=s1.trans s2;generalize hms:zs.map (·.2)=ms at gw ap e0 k;have all:AllP H2 D0 ps0 rows ms:=.of pd0 (by rw[e0];exact pm0.map _);have hh2:=hh.same s12;obtain⟨dx,hi⟩:=hh2.i;refine⟨_,rfl,h,dx,_,rfl,hi,rfl,h,d,bl,rows,rfl,hh2,by lia,fun r hr=>(hl.ok r hr).low,fun L2 zs2 H3 hL2 s3 rl3 pm3 pw3=>?_⟩;refine .inl ⟨L2,rfl,⟨_,SqL.of rl3.at_⟩,fun Dc hDc=>?_⟩;have l2:zs2.length<=30:=by have:=pm3.length_eq;rw[Ac] at this;lia
  refine q5g (fun i ys H'=>∃ws:List Zr,ys=ws.map (fun z=>V.ref z.1)/\ws.map (·.2)=gRows ((zs2.map (·.2)).take i) ms/\(∀x∈ws,PR H' x.1 (rR x.2))/\Same H3 H'/\H' Dc=some (.lst ys)) ⟨[],rfl,rfl,(fun _ h=>nomatch h),(Same.refl H3).new hDc,q0b⟩ (fun i ys H' h=>by obtain⟨ws,_,_,_,s',h'⟩:=h;exact⟨h',SqL.of (s' _ _ rl3.at_)⟩) ?_ ?_
  ·rintro i ys H' v hv ⟨ws,rfl,ew,hw,s',hDl⟩;obtain⟨z,hz,rfl⟩:=gR0 hv
   have hzr:(zs2.map (·.2))[i]?=some z.2:=by rw[Az,hz];rfl
   have e1:(zs2.map (·.2)).take (i+1)=(zs2.map (·.2)).take i++[z.2]:=by rw[Cb,hzr];rfl
   have hin:z.2∈rows:=pm3.mem_iff.mp (Aq hzr);have wl:ws.length<=30:=by
    have:=congrArg List.length ew;unfold gRows at this;rw[Ac,Ac,Bp,Ac] at this;lia
   obtain⟨b,h1,h2⟩:=(rl3.same s').pr z (Aq hz);refine⟨z.1,_,rfl,SqT.of h1,rfl,_,_,rfl,_,_,rfl,rfl,q3g,?_⟩;refine z6c (iteT ?_);refine⟨_,rfl,_,rfl,b,D0,bl,rows,ms,ps0,z.2.1,rfl,hl,gw,all.same (s3.trans s'),h2,z1v hin,Am _,fun q H5 s5 h5=>?_⟩;refine⟨_,rfl,by show 2<=sizeLine;decide,fun Tn hTn=>?_⟩;have sT:=(Same.refl H5).new (o:=.tup [.ref q,(rR z.2).2]) hTn;have hD5:=sT _ _ (s5 _ _ hDl);have hqT:=sT _ _ h5;have hTT:upd H5 Tn (.tup [.ref q,(rR z.2).2]) Tn=some (.tup [.ref q,(rR z.2).2]):=q0b;have s6:=(s'.trans s5).trans sT;have hw6:∀x∈ws,PR (upd H5 Tn (.tup [.ref q,(rR z.2).2])) x.1 (rR x.2):=fun x hx=>PR.same (hw x hx) fun T xs e=>sT _ _ (s5 _ _ e)
   generalize upd H5 Tn (.tup [.ref q,(rR z.2).2])=H6 at hD5 hqT hTT s6 hw6;have tk:∀S xs,H6 S=some (.tup xs)->upd H6 Dc (.lst (ws.map (fun z=>V.ref z.1)++[.ref Tn])) S=some (.tup xs):=fun S xs e=>by
    rw[q0c (fun z=>by rw[z,hD5] at e;cases e)];exact e
   refine⟨hD5,small' (by rw[Ac];lia),ws++[(Tn,(thenP (plc ms) 7 z.2.1,z.2.2))],by rw[Aj];rfl,?_,fun x hx=>?_,s6.put hDc,q0b⟩
   ·unfold gRows at ew ⊢;rw[Aj,ew,e1,Aj];rfl
   ·rcases Ax.mp hx with hx|hx
    ·exact PR.same (hw6 x hx) tk
    ·rw[Ao.mp hx];exact⟨q,tk _ _ hTT,tk _ _ hqT⟩
  ·rintro ys H4 ⟨ws,rfl,ew,hw,s4,hDl⟩;rw[Ac,<- Ac (f:=fun z:Zr=>z.2),Cf] at ew;have wl:ws.length<=30:=by
    have:=congrArg List.length ew;unfold gRows at this;rw[Ac,Ac,Ac] at this;lia
   have pmw:(ws.map (·.2)).Perm (gRows rows ms):=by rw[ew];exact pm3.map _
   have s14:=(s12.trans s3).trans s4;refine⟨Dc,ws.map fun z=>(z.1,rR z.2),rfl,by rw[Al];exact hDl,by rw[Ac];lia,fun z hz=>?_,?_,fun G zs5 hG pm5 pw5=>?_⟩
   ·obtain⟨y,hy,rfl⟩:=Ah.mp hz;exact⟨hw y hy,z6l hl gw _ (pmw.mem_iff.mp (Ah.mpr ⟨y,hy,rfl⟩))⟩
   ·have e2:(ws.map fun z=>((z.1,rR z.2):Zq)).map (·.2.1)=(ws.map (·.2)).map (·.1):=by rw[Al,Al];rfl
    rw[e2];exact(pmw.map _).nodup_iff.mpr (z8n hl gw ap)
   ·obtain⟨zs6,q1,rfl⟩:=SB.perm_map_inv pm5 rfl;rw[Al] at pw5;rw[Al];have sL:=(Same.refl H4).new (o:=.lst (zs6.map fun z=>V.ref z.1)) hG;exact k G _ _ (s14.free hG) (s14.trans sL) q0b
structure PL (H:Hp) (L:Addr) (zs:List (Addr×Pth)):Prop where
 at_:H L=some (.lst (zs.map fun z=>V.ref z.1))
 pr:∀z∈zs,H z.1=some (.tup (vP z.2))/\okP z.2
theorem PL.same{H H':Hp}{L:Addr}{zs:List (Addr×Pth)}(h:PL H L zs)(s:Same H H'):PL H' L zs:=⟨s _ _ h.at_,fun z hz=>⟨s _ _ (h.pr z hz).1,(h.pr z hz).2⟩⟩
theorem PL.fd{a b L:Addr}{H H':Hp}{zs:List (Addr×Pth)}(h:PL H L zs)(F:FeedAt H a b)(fd:Fd a b H H')(hL:L≠a):PL H' L zs:=⟨fd.at h.at_ hL,fun z hz=>⟨tupFd F fd _ _ (h.pr z hz).1,(h.pr z hz).2⟩⟩
theorem PL.get{H:Hp}{L:Addr}{zs:List (Addr×Pth)}(h:PL H L zs){r:Int}(r0:0<=r)(r1:r<zs.length):∃z∈zs,atI (zs.map fun z=>V.ref z.1) r=some (.ref z.1):=by
 obtain⟨v,hv1,hv2⟩:=q4p (xs:=zs.map fun z=>V.ref z.1) r0 (by rw[Ac];exact r1);rw[Az] at hv1;cases e:zs[r.toNat]? with
 |none=>rw[e] at hv1;cases hv1
 |some z=>rw[e] at hv1;cases hv1;exact⟨z,Aq e,hv2⟩
structure CallsOC (P:Program) (w:World) (K:Ai) (mg:Str->Option Value) (base:Heap):Prop where
 draw:Cal P w K mg base "_law_draw" 1 ["_law_feed", "_law_many"] spDraw
def spOther:Sp:=fun vs H Q _=>∃a b n,vs=[.ref a,.str (mk n)]/\FeedAt H a b/\okN n/\∀n' H',okN n'->Fd a b H H'->Q (.str (mk n')) H'
abbrev q2p:Stmt:=top 29
theorem q7r:FnScope ["_law_feed", "_law_name"] ["_law_feed", "_law_name"] (defScope q2p):=by trivial
theorem q7s(D:Df K mg "_law_other_case" q2p ["_law_feed", "_law_name"])(T:Txt mg)(C:CallsOC P w K mg base):Cal P w K mg base "_law_other_case" 2 ["_law_feed", "_law_name"] spOther:=by
 refine D.cal q7r (fun vs H Q E h=>?_) (fun f cdv A outer s H vs Q E hr h=>?_)
 ·obtain⟨a,b,n,rfl,_⟩:=h;rfl
 ·obtain⟨a,b,n,rfl,F,ok,k⟩:=h;refine⟨_,(q0f (q0m (@bm_k _ _ _ _ _ _ _ _ _ _ _ _ K rfl Cr Ql Qm (z9a K rfl) q1f (q0a (q3v ["_law_sign"] [("_law_feed",0)] rfl (@q5v _ _ _ _ K rfl (pv 1)) (fun _ _ _ _ _=>(q0n (i:=0) (show(["_law_sign", "_law_feed"]:List Str).Nodup by decide +kernel) rfl (by trivial))) (fun _ _ _ _ _=>q6z) (fun _ _ _ _ _=>(q1a (ix_k K rfl) (q1n (q0a (pv 0) (q0a (@z0a _ _ _ _ _ _ _ _ _ K rfl Cr Pq Pr z1d (pv 0) (by rfl) (by rfl)) (q0a (@z0a _ _ _ _ _ _ _ _ _ K rfl Cr Hy Hz q4u (pv 0) (by rfl) (by rfl)) q0d)))) (pe_c C.draw hr (q0a (pv 1) (q0a q0g q0d))) (fun _ _=>rfl)))) q0d) (by rfl) (by rfl) (by rfl) (by rfl) (by rfl)))),?_⟩;have hlen:(mk n).length=n.length:=by rw[len,q2b]
  have hfew:=ok.few;refine⟨rfl,_,rfl,.inr (.inr ⟨_,rfl,fun D hD=>?_⟩)⟩;refine z4h (fun i ys H'=>∃cs:List Nat,ys=cs.map (fun c=>V.str ⟨#[c]⟩)/\cs.length=i/\i<=n.length/\(∀c∈cs,c∈HM.NS)/\Fd a b H H'/\H' D=some (.lst ys)) ⟨[],rfl,rfl,By _,fun _ h=>(nomatch h),(Fd.refl F).new hD,q0b⟩ (fun i ys H' ⟨cs,_,_,_,_,_,h⟩=>h) ?_ ?_
  ·rintro i ys H' c hc ⟨cs,rfl,hl',_,hcs,fd,hHD⟩;have hci:n[i]?=some c:=by have:=get hc;rw[q2b] at this;exact this
   have hi:i<n.length:=(Bg.mp hci).1;have hcn:=ok.all c (Aq hci);have hlow:∀x∈[c],x<128:=fun x hx=>by rw[Ao.mp hx];exact z9g c hcn
   have eu:Uy (⟨#[c]⟩:Str)=⟨#[Oj c]⟩:=z1m (n:=[c]) hlow;have el:Hv (⟨#[c]⟩:Str)=⟨#[Gh c]⟩:=z1s (n:=[c]) hlow;refine⟨_,rfl,_,rfl,rfl,_,rfl,rfl,by show 3*1<=sizeLine;decide,?_⟩;rw[eu];refine⟨_,rfl,rfl,_,rfl,rfl,by show 3*1<=sizeLine;decide,?_⟩;rw[el];refine⟨by show 3<=sizeLine;decide,fun M hM=>?_⟩;have hMa:M≠a:=(fd.feed.na hM).symm;have fdM:=fd.new (o:=.lst [.str ⟨#[c]⟩,.str ⟨#[Oj c]⟩,.str ⟨#[Gh c]⟩]) hM;have hDM:D≠M:=fun y=>by rw[<- y,hHD] at hM;cases hM
   have hDa:D≠a:=(F.na hD).symm;refine⟨_,rfl,a,b,_,rfl,fdM.feed,by decide,by decide,fun r H2 r0 r1 fd2=>?_⟩;have hat:∃c',atI [V.str ⟨#[c]⟩,V.str ⟨#[Oj c]⟩,V.str ⟨#[Gh c]⟩] r=some (.str ⟨#[c']⟩)/\c'∈HM.NS:=by
    have e:r=0\/r=1\/r=2:=by lia
    rcases e with rfl|rfl|rfl
    ·exact⟨c,rfl,hcn⟩
    ·exact⟨_,rfl,ns_up c hcn⟩
    ·exact⟨_,rfl,ns_lo c hcn⟩
   obtain⟨c',hat,hc'⟩:=hat;refine .inl ⟨M,_,r,_,rfl,rfl,SqL.of (fd2.at q0b hMa),hat,?_⟩;refine⟨fd2.at (by rw[q0c hDM];exact hHD) hDa,small' (by rw[Ac];lia),cs++[c'],by rw[Aj];rfl,by rw[Ap,hl'];rfl,hi,fun x hx=>?_,(fdM.trans fd2).put F hD,q0b⟩;rcases Ax.mp hx with y|y
   ·exact hcs x y
   ·rw[Ao.mp y];exact hc'
  ·rintro ys H2 ⟨cs,rfl,hl',_,hcs,fd,hHD⟩;rw[hlen] at hl';have e:cs.map (fun c=>V.str ⟨#[c]⟩)=(cs.map fun c=>(⟨#[c]⟩:Str)).map V.str:=by rw[Al];rfl
   refine⟨_,D,cs.map fun c=>⟨#[c]⟩,rfl,rfl,.inl (SqL.of (by rw[<- e];exact hHD)),?_,?_⟩
   ·rw[z1f,Ac];have:(Ag "").length=0:=by decide +kernel
    rw[this,hl'];exact small (by lia)
   ·have z:=q8m cs;rw[z];have:=ok.one;exact k cs H2 ⟨by lia,by lia,hcs⟩ fd
def lenAt(L:Addr)(H:Hp):Nat:=match H L with|some (.lst xs)=>xs.length|_=>0
theorem q4y{L:Addr}{H:Hp}{xs:List V}(h:H L=some (.lst xs)):lenAt L H=xs.length:=by unfold lenAt;rw[h]
theorem ers_map{α β:Type}(f:α->β):∀(l:List α) (k:Nat),(l.map f).eraseIdx k=(l.eraseIdx k).map f
 |[],_=>rfl
 |_::_,0=>rfl
 |a::l,k+1=>by show f a::(l.map f).eraseIdx k=f a::(l.eraseIdx k).map f;rw[ers_map f l k]
theorem z1w{α:Type}{z:α}:∀{l:List α} {k:Nat},l[k]?=some z->l.Perm (z::l.eraseIdx k)
 |[],_,h=>by cases h
 |a::l,0,h=>by cases h;exact List.Perm.refl _
 |a::l,k+1,h=>by
  show(a::l).Perm (z::a::l.eraseIdx k);exact((z1w (l:=l) (k:=k) h).cons a).trans (List.Perm.swap _ _ _)
structure SmI (H:Hp) (a b Lf M:Addr) (zs:List (Addr×Pth)) (H':Hp) (zl zf:List (Addr×Pth)):Prop where
 fd:Fd a b H H'
 l:PL H' Lf zl
 m:PL H' M zf
 p:(zl++zf).Perm zs
section
variable{H:Hp}{a b Lf M:Addr}{zs:List (Addr×Pth)}{H' H2:Hp}{zl zf:List (Addr×Pth)}
theorem SmI.go(x:SmI H a b Lf M zs H' zl zf)(fd:Fd a b H' H2)(hL:Lf≠a)(hM:M≠a):SmI H a b Lf M zs H2 zl zf:=⟨x.fd.trans fd,x.l.fd x.fd.feed fd hL,x.m.fd x.fd.feed fd hM,x.p⟩
theorem SmI.mv{k:Nat}{z:Addr×Pth}(x:SmI H a b Lf M zs H' zl zf)(F:FeedAt H a b)(hL:H Lf=none)(hM:H M=none)(n:M≠Lf)(hz:zl[k]?=some z):
  SmI H a b Lf M zs (upd (upd H' Lf (.lst ((zl.map fun z=>V.ref z.1).eraseIdx k))) M (.lst (zf.map (fun z=>V.ref z.1)++[.ref z.1]))) (zl.eraseIdx k) (zf++[z]):=by
 have tk:∀S xs,H' S=some (.tup xs)->upd (upd H' Lf (.lst ((zl.map fun z=>V.ref z.1).eraseIdx k))) M (.lst (zf.map (fun z=>V.ref z.1)++[.ref z.1])) S=some (.tup xs):=fun S xs e=>by
  rw[q0c (fun z=>by rw[z,x.m.at_] at e;cases e),q0c (fun z=>by rw[z,x.l.at_] at e;cases e)];exact e
 refine⟨(x.fd.put F hL).put F hM,⟨?_,fun y hy=>⟨tk _ _ (x.l.pr y (Ol hy)).1,(x.l.pr y (Ol hy)).2⟩⟩,⟨by rw[q0b,Aj];rfl,fun y hy=>?_⟩,?_⟩
 ·rw[q0c n.symm,q0b,ers_map]
 ·rcases Ax.mp hy with hy|hy
  ·exact⟨tk _ _ (x.m.pr y hy).1,(x.m.pr y hy).2⟩
  ·rw[Ao.mp hy];exact⟨tk _ _ (x.l.pr z (Aq hz)).1,(x.l.pr z (Aq hz)).2⟩
 ·refine List.Perm.trans ?_ x.p;have e:zl.Perm (z::zl.eraseIdx k):=z1w hz;have e2:(zl.eraseIdx k++(zf++[z])).Perm (z::(zl.eraseIdx k++zf)):=by
   rw[<- Kr];exact List.perm_append_singleton _ _
  exact e2.trans (List.Perm.append_right zf e.symm)
end
def spSome:Sp:=fun vs H Q _=>∃a b L zs n,vs=[.ref a,.ref L,.int n]/\FeedAt H a b/\PL H L zs/\zs.length<=60/\∀M zf zr H',Fd a b H H'->H M=none->PL H' M zf->(zr++zf).Perm zs->Q (.ref M) H'
abbrev q4m:Stmt:=top 30
theorem sc_some_of:FnScope ["_law_feed", "_law_things", "_law_many", "_law_left", "_law_found"] ["_law_feed", "_law_things", "_law_many"] (defScope q4m):=by trivial
theorem z3e(D:Df K mg "_law_some_of" q4m ["_law_feed", "_law_things", "_law_many"])(T:Txt mg)(C:CallsOC P w K mg base):Cal P w K mg base "_law_some_of" 2 ["_law_feed", "_law_things", "_law_many"] spSome:=by
 refine D.cal sc_some_of (fun vs H Q E h=>?_) (fun f cdv A outer s H vs Q E hr h=>?_)
 ·obtain⟨a,b,L,zs,n,rfl,_⟩:=h;rfl
 ·obtain⟨a,b,L,zs,n,rfl,F,hl,h60,k⟩:=h;refine⟨_,(q0e (q0h (i:=3) sc_some_of.nd rfl (by trivial) (q2d (z8z K rfl) (by rfl) T.b_list (by decide +kernel) (q0a (pv 1) q0d))) (q0e (q0h (i:=4) sc_some_of.nd rfl (by trivial) (q1n q0d)) (q0e (z6t Dv (pt_j (@PW.pt _ _ _ (q2c (q0k z2f (q0i (q2u K rfl) (by rfl) T.b_len Bt (q0a (pv 4) q0d)) (pv 2) (nomark _)) (q1p (q0k (ne_k K rfl hr) (pv 3) (q1n q0d) (nomark _)))))) (q0f (q1w (@bm_k _ _ _ _ _ _ _ _ _ _ _ _ K rfl Co Dz Ea q1x (pv 4) (q0a (@bm_k _ _ _ _ _ _ _ _ _ _ _ _ K rfl Co PySem.F.slot_list_pop PySem.F.type_list_pop z7f (pv 3) (q0a (pe_c C.draw hr (q0a (pv 0) (q0a (q0i (q2u K rfl) (by rfl) T.b_len Bt (q0a (pv 3) q0d)) q0d))) q0d) (by rfl) (by rfl) (by rfl) (by rfl) (by rfl)) q0d) (by rfl) (by rfl) (by rfl) (by rfl) (by rfl))))) (q0f (q0m (pv 4)))))),?_⟩;refine⟨_,rfl,L,_,rfl,.inl (SqL.of hl.at_),fun Lf hLf=>⟨by show 0<=sizeLine;decide,fun M hM=>?_⟩⟩;have s1:=(Same.refl H).new (o:=.lst (zs.map fun z=>V.ref z.1)) hLf;have s2:=s1.new (o:=.lst []) hM;have hML:M≠Lf:=fun z=>by rw[z,q0b] at hM;cases hM
  have hMH:H M=none:=s1.free hM;have hLa:Lf≠a:=(F.na hLf).symm;have hMa:M≠a:=(F.na hMH).symm;have I0:SmI H a b Lf M zs (upd (upd H Lf (.lst (zs.map fun z=>V.ref z.1))) M (.lst [])) zs [] :=
   ⟨(Fd.refl F).same s2,⟨by rw[q0c hML.symm];exact q0b,(hl.same s2).pr⟩,⟨q0b,(fun _ h=>nomatch h)⟩,by rw[El]⟩
  refine z6v (fun σ3 H3=>∃zl zf,σ3=[some (.ref a),some (.ref L),some (.int n),some (.ref Lf),some (.ref M)]/\SmI H a b Lf M zs H3 zl zf) (fun _ H3=>lenAt Lf H3) ⟨zs,[],rfl,I0⟩ ?_ ?_
  ·rintro σ3 H3 ⟨zl,zf,rfl,I⟩;have hlen:zl.length+zf.length=zs.length:=by rw[<- Ap];exact I.p.length_eq
   refine⟨fun bb H4=>SmI H a b Lf M zs H4 zl zf/\lenAt Lf H4=lenAt Lf H3/\(bb=true->zl≠[]),?_,?_⟩
   ·rintro bb H4 ⟨I1,el,hb⟩;refine ite2 (fun h=>?_) (fun h=>⟨_,rfl,k M zf zl _ I1.fd hMH I1.m I1.p⟩);have hne:=hb h;have hpos:=Eo.mpr hne;refine⟨_,rfl,.inl ⟨rfl,_,SqL.of I1.m.at_⟩,_,rfl,.inl ⟨rfl,_,SqL.of I1.l.at_⟩,_,rfl,_,rfl,_,_,rfl,.inl ⟨_,SqL.of I1.l.at_,rfl⟩,a,b,_,rfl,I1.fd.feed,by rw[Ac];lia,by rw[Ac];lia,fun r H5 r0 r1 fd5=>?_⟩;rw[Ac] at r1;have I2:=I1.go fd5 hLa hMa;obtain⟨v,hv1,hv2⟩:=q4p (xs:=zl) r0 r1;obtain⟨j,hj1,hj2,hj3,_,_⟩:=q6v hv2;refine⟨Lf,_,r,j,.ref v.1,rfl,rfl,I2.l.at_,by lia,by lia,by rw[Ac];exact hj1,by rw[Az,hj2];rfl,?_⟩;refine⟨M,_,_,rfl,rfl,by rw[q0c hML];exact I2.m.at_,by rw[Ac];exact small' (by lia),?_⟩;have I3:=I2.mv F hLf hMH hML hj2;refine⟨⟨_,_,rfl,I3⟩,?_⟩;rw[<- el,q4y I3.l.at_,q4y I1.l.at_,Ac,Ac,List.length_eraseIdx,if_pos hj3];lia
   ·refine⟨_,rfl,_,_,rfl,.inl ⟨_,SqL.of I.m.at_,rfl⟩,_,rfl,_,_,rfl,rfl,_,rfl,?_⟩;refine iteB (fun e=>?_) (fun e=>⟨I,rfl,(fun z=>by cases z)⟩);refine⟨_,rfl,by show 0<=sizeLine;decide,fun E hE=>?_⟩;have sE:=(Same.refl H3).new (o:=.lst []) hE;have I1:SmI H a b Lf M zs (upd H3 E (.lst [])) zl zf:=⟨I.fd.same sE,I.l.same sE,I.m.same sE,I.p⟩
    refine z5g I1.l.at_ (fun z hz=>(I1.l.pr z hz).1) q0b (fun z hz=>(I1.l.pr z hz).2.low) ⟨_,rfl,I1,by rw[q4y I1.l.at_,q4y I.l.at_],fun h=>by simpa using h⟩
  ·intro σ3 H3 Q1 Q2 hq h;obtain⟨R,h1,h2⟩:=h;exact⟨R,fun b H1 r=>hq _ _ (h1 b H1 r),h2⟩
end
end K
set_option maxHeartbeats 4000000
namespace K
open PySem L2 TX SB HM
section
variable{P:Program}{w:World}{K:Ai}{mg:Str->Option Value}{base:Heap}
theorem foldR:∀{rs acc:List HRow},((acc++rs).map (·.1)).Nodup->rs.foldl putR (acc.map fun r=>(kP r.1,r.2))=(acc++rs).map fun r=>(kP r.1,r.2)
 |[],acc,_=>by rw[El];rfl
 |r::rs,acc,nd=>by
  have e:acc++r::rs=(acc++[r])++rs:=by rw[Kr];rfl
  show rs.foldl putR (putK (acc.map fun r=>(kP r.1,r.2)) (kP r.1) r.2)=_;rw[q3j (p:=r.1) (v:=r.2) fun x hx z=>by
   rw[Aj,Ak] at nd;exact(Dp.mp nd).2.2 _ (Ah.mpr ⟨x,hx,rfl⟩) _ Au z]
  rw[e] at nd ⊢;exact foldR nd
theorem q5t{bl:Bool}{zs:List Zr}(hl:Hl bl (zs.map (·.2))):HO.dT ((zs.map fun z=>rR z.2).foldl putR [])=dR ((zs.map (·.2)).map rR):=by
 have er:(zs.map fun z=>rR z.2)=(zs.map (·.2)).map rR:=by rw[Al];rfl
 have nd2:(((zs.map (·.2)).map rR).map (·.1)).Nodup:=by rw[Al];exact hl.paths
 rw[er];exact congrArg HO.dT (foldR (acc:=[]) nd2)
theorem z6m{c x dx d:Addr}{H1 H':Hp}(hx:H1 x=none)(hdx:H1 dx=none)(hd:upd (upd H1 dx (.own x)) x (.ins c dx []) d=none)(k:∀a u,a≠x->upd (upd H1 dx (.own x)) x (.ins c dx []) a=some u->H' a=some u):Same H1 H'/\H1 d=none:=by
 refine⟨fun a u e=>k a u (fun z=>by rw[z,hx] at e;cases e) ?_,?_⟩
 ·rw[q0c (fun z=>by rw[z,hx] at e;cases e),q0c (fun z=>by rw[z,hdx] at e;cases e)];exact e
 ·have h1:d≠x:=fun z=>by rw[z,q0b] at hd;cases hd
  rw[q0c h1] at hd;have h2:d≠dx:=fun z=>by rw[z,q0b] at hd;cases hd
  rw[q0c h2] at hd;exact hd
theorem x1e{c x dx L:Addr}{H1:Hp}{zs:List Zr}(h:RL H1 L zs)(hx:H1 x=none)(hdx:H1 dx=none):RL (upd (upd H1 dx (.own x)) x (.ins c dx [])) L zs:=h.same fun a u e=>by
 rw[q0c (fun z=>by rw[z,hx] at e;cases e),q0c (fun z=>by rw[z,hdx] at e;cases e)];exact e
theorem x1f{a b m:Addr}{rs:List HRow}{H H':Hp}(x:H m=some (dR rs))(F:FeedAt H a b)(fd:Fd a b H H'):H' m=some (dR rs):=by
 obtain⟨i,j,q⟩:=F.fa;exact fd.at x fun z=>by rw[z,q] at x;cases x
structure DL (rows:List Rw) (H:Hp) (L:Addr) (ds:List (Addr×Pth)):Prop where
 at_:H L=some (.lst (ds.map fun z=>V.ref z.1))
 pr:∀z∈ds,H z.1=some (.tup (vP z.2))/\IsD rows z.2/\z.2.length<6
theorem DL.same{rows:List Rw}{H H':Hp}{L:Addr}{ds:List (Addr×Pth)}(h:DL rows H L ds)(s:Same H H'):DL rows H' L ds:=⟨s _ _ h.at_,fun z hz=>⟨s _ _ (h.pr z hz).1,(h.pr z hz).2⟩⟩
theorem DL.fd{rows:List Rw}{a b L:Addr}{H H':Hp}{ds:List (Addr×Pth)}(h:DL rows H L ds)(F:FeedAt H a b)(fd:Fd a b H H')(hL:L≠a):DL rows H' L ds:=⟨fd.at h.at_ hL,fun z hz=>⟨tupFd F fd _ _ (h.pr z hz).1,(h.pr z hz).2⟩⟩
structure AWI (H:Hp) (a b m Dr M M2:Addr) (rows:List Rw) (ds zf:List (Addr×Pth)) (j:Nat) (H':Hp) (ws:List Zm):Prop where
 fd:Fd a b H H'
 m:H' m=some (dR (rows.map rR))
 dr:DL rows H' Dr ds
 pl:PL H' M2 zf
 ml:ML H' M ws
 gw:GoodW rows (ws.map (·.2))
 ew:ws.map (·.2.1)=(zf.take j).map (·.2)
section
variable{H:Hp}{a b m Dr M M2:Addr}{rows:List Rw}{ds zf:List (Addr×Pth)}{j:Nat}{H' H2:Hp}{ws:List Zm}
theorem AWI.go(x:AWI H a b m Dr M M2 rows ds zf j H' ws)(fd:Fd a b H' H2)(h1:Dr≠a)(h2:M≠a)(h3:M2≠a):AWI H a b m Dr M M2 rows ds zf j H2 ws:=⟨x.fd.trans fd,x1f x.m x.fd.feed fd,x.dr.fd x.fd.feed fd h1,x.pl.fd x.fd.feed fd h3,x.ml.fd x.fd.feed fd h2,x.gw,x.ew⟩
theorem AWI.same(x:AWI H a b m Dr M M2 rows ds zf j H' ws)(s:Same H' H2):AWI H a b m Dr M M2 rows ds zf j H2 ws:=⟨x.fd.same s,s _ _ x.m,x.dr.same s,x.pl.same s,x.ml.same s,x.gw,x.ew⟩
theorem AWI.put{T:Addr}{mv:Mv}{z:Addr×Pth}(x:AWI H a b m Dr M M2 rows ds zf j H' ws)(F:FeedAt H a b)(hM:H M=none)(n1:Dr≠M)(n2:M2≠M)(ht:MT H' T mv)(hz:zf[j]?=some z)(ez:mv.1=z.2)(hw:Wsh rows mv)(nd:(zf.map (·.2)).Nodup):
  AWI H a b m Dr M M2 rows ds zf (j+1) (upd H' M (.lst (ws.map (fun z=>V.ref z.1)++[.ref T]))) (ws++[(T,mv)]):=by
 have tk:∀S xs,H' S=some (.tup xs)->upd H' M (.lst (ws.map (fun z=>V.ref z.1)++[.ref T])) S=some (.tup xs):=fun S xs e=>by rw[q0c (fun z=>by rw[z,x.ml.at_] at e;cases e)];exact e
 have e1:(zf.take (j+1)).map (·.2)=(zf.take j).map (·.2)++[z.2]:=by rw[Cb,hz,Aj];rfl
 have ew:(ws++[(T,mv)]).map (·.2.1)=(zf.take (j+1)).map (·.2):=by rw[Aj,x.ew,e1,<- ez];rfl
 refine⟨x.fd.put F hM,by rw[q0c (fun z=>by have e:=x.m;rw[z,x.ml.at_] at e;cases e)];exact x.m,⟨by rw[q0c n1];exact x.dr.at_,fun y hy=>⟨tk _ _ (x.dr.pr y hy).1,(x.dr.pr y hy).2⟩⟩,⟨by rw[q0c n2];exact x.pl.at_,fun y hy=>⟨tk _ _ (x.pl.pr y hy).1,(x.pl.pr y hy).2⟩⟩,⟨by rw[q0b,Aj];rfl,fun y hy=>?_⟩,⟨fun y hy=>?_,?_⟩,ew⟩
 ·rcases Ax.mp hy with hy|hy
  ·exact(x.ml.pr y hy).keep tk
  ·rw[Ao.mp hy];exact ht.keep tk
 ·rw[Aj] at hy;rcases Ax.mp hy with hy|hy
  ·exact x.gw.all y hy
  ·cases Ao.mp hy;exact hw
 ·have e2:((ws++[(T,mv)]).map (·.2)).map (·.1)=(zf.take (j+1)).map (·.2):=by rw[<- ew,Al];rfl
  rw[e2,Gu];exact nd.sublist (Ia _ _)
end
structure CallsAW (P:Program) (w:World) (K:Ai) (mg:Str->Option Value) (base:Heap):Prop where
 draw:Cal P w K mg base "_law_draw" 1 ["_law_feed", "_law_many"] spDraw
 a_name:Cal P w K mg base "_law_a_name" 3 ["_law_feed"] spName
 other_case:Cal P w K mg base "_law_other_case" 2 ["_law_feed", "_law_name"] spOther
 some_of:Cal P w K mg base "_law_some_of" 2 ["_law_feed", "_law_things", "_law_many"] spSome
def spAnyW:Sp:=fun vs H Q _=>∃a b L bl zs,vs=[.ref a,.ref L,.bl bl]/\FeedAt H a b/\RL H L zs/\Hl bl (zs.map (·.2))/\zs.length<=30/\L≠a/\∀M ws H',Fd a b H H'->H M=none->ML H' M ws->GoodW (zs.map (·.2)) (ws.map (·.2))->ws.length<=zs.length->Q (.ref M) H'
abbrev q2q:Stmt:=top 31
theorem sc_any_wishes:FnScope ["_law_feed", "_law_rows_here", "_law_blind", "_law_marks", "_law_drawers", "_law_wishes", "_law_path", "_law_drawer", "_law_names", "_law_name"] ["_law_feed", "_law_rows_here", "_law_blind"] (defScope q2q):=by trivial
theorem q7t(D:Df K mg "_law_any_wishes" q2q ["_law_feed", "_law_rows_here", "_law_blind"])(T:Txt mg)(C:CallsAW P w K mg base):Cal P w K mg base "_law_any_wishes" 4 ["_law_feed", "_law_rows_here", "_law_blind"] spAnyW:=by
 refine D.cal sc_any_wishes (fun vs H Q E h=>?_) (fun f cdv A outer s H vs Q E hr h=>?_)
 ·obtain⟨a,b,L,bl,zs,rfl,_⟩:=h;rfl
 ·obtain⟨a,b,L,bl,zs,rfl,F,rl,hl,h30,hLa,k⟩:=h;refine⟨_,(q0e (q0h (i:=3) sc_any_wishes.nd rfl (by trivial) (q2d (q3i hr) (by rfl) T.b_dict (by decide +kernel) (q0a (pv 1) q0d))) (q0e (q0h (i:=4) sc_any_wishes.nd rfl (by trivial) (q0w q1b (q1n (q0a (q0o q0d) q0d)) (q3v ["_law_path", "_law_mark"] [] rfl (@q5v _ _ _ _ K rfl (pv 1)) (fun _ _ _ _ _=>(@q2t _ _ _ _ (2) _ K rfl rfl (q0p (q0n (i:=0) (show(["_law_path", "_law_mark"]:List Str).Nodup by decide +kernel) rfl (by trivial)) (q0p (q0n (i:=1) (show(["_law_path", "_law_mark"]:List Str).Nodup by decide +kernel) rfl (by trivial)) q1q)) (by rfl) (by rfl))) (fun _ _ _ _ _=>(q9v (pt_j (@PW.pt _ _ _ (q2c (q1v (q5z (pv 1))) (q1p (q0k z2f (q0i (q2u K rfl) (by rfl) T.b_len Bt (q0a (pv 0) q0d)) q0g (nomark _)))))))) (fun _ _ _ _ _=>(pv 0))))) (q0e (q0h (i:=5) sc_any_wishes.nd rfl (by trivial) (q1n q0d)) (q0e (q2r Dv rfl (@q5v _ _ _ _ K rfl (pe_c C.some_of hr (q0a (pv 0) (q0a (q0i (q2e hr) (by rfl) T.b_sorted (by decide +kernel) (q0a (pv 3) q0d)) (q0a (pe_c C.draw hr (q0a (pv 0) (q0a (q0w q1b (q0i z5u (by rfl) T.b_len Bt (q0a (pv 3) q0d)) q0g) q0d))) q0d))))) (q0n (i:=6) sc_any_wishes.nd rfl (by trivial)) (q0e (q0h (i:=7) sc_any_wishes.nd rfl (by trivial) (q0q (sl_k K rfl) (pv 6) q0t (q0u (q1r q0x q0g)))) (q1z (q0y (pt_j (@PW.pt _ _ _ (q2c (q1v (q4z (q2h (q1y hr) (pv 3) (pv 6) (fun _ _=>rfl)))) (q1p (q0k (eq_k K rfl hr) (pe_c C.draw hr (q0a (pv 0) (q0a q0g q0d))) q0g (nomark _)))))) (q0f (q0h (i:=7) sc_any_wishes.nd rfl (by trivial) (q1a (ix_k K rfl) (pv 4) (pe_c C.draw hr (q0a (pv 0) (q0a (q0i (q2u K rfl) (by rfl) T.b_len Bt (q0a (pv 4) q0d)) q0d))) (fun _ _=>rfl)))) q0l) (q0e (q0h (i:=8) sc_any_wishes.nd rfl (by trivial) (q0w q1b (q3v ["_law_one"] [("_law_drawer",7)] rfl (@q5v _ _ _ _ K rfl (q0i (q2e hr) (by rfl) T.b_sorted (by decide +kernel) (q0a (pv 3) q0d))) (fun _ _ _ _ _=>(q0n (i:=0) (show(["_law_one", "_law_drawer"]:List Str).Nodup by decide +kernel) rfl (by trivial))) (fun _ _ _ _ _=>(q9v (q0k (eq_k K rfl hr) (q0q (sl_k K rfl) (pv 0) q0t (q0u (q1r q0x q0g))) (pv 1) (nomark _)))) (fun _ _ _ _ _=>(q1a (ix_k K rfl) (pv 0) (q1r q0x q0g) (fun _ _=>rfl)))) (q1n (q0a (q1a (ix_k K rfl) (pv 6) (q1r q0x q0g) (fun _ _=>rfl)) (q0a (pe_c C.a_name hr (q0a (pv 0) q0d)) q0d))))) (q0e (q0h (i:=9) sc_any_wishes.nd rfl (by trivial) (q1a (ix_k K rfl) (pv 8) (pe_c C.draw hr (q0a (pv 0) (q0a (q0i (q2u K rfl) (by rfl) T.b_len Bt (q0a (pv 8) q0d)) q0d))) (fun _ _=>rfl))) (q1z (q0y (q0k (eq_k K rfl hr) (pe_c C.draw hr (q0a (pv 0) (q0a q0g q0d))) q0g (nomark _)) (q0f (q0h (i:=9) sc_any_wishes.nd rfl (by trivial) (pe_c C.other_case hr (q0a (pv 0) (q0a (pv 9) q0d))))) q0l) (q0f (q1w (@bm_k _ _ _ _ _ _ _ _ _ _ _ _ K rfl Co Dz Ea q1x (pv 5) (q0a (q0o (q0a (pv 6) (q0a (q0w q2j (pv 7) (q0o (q0a (pv 9) q0d))) q0d))) q0d) (by rfl) (by rfl) (by rfl) (by rfl) (by rfl)))))))))) (q0f (q0m (pv 5))))))),?_⟩;refine⟨_,rfl,L,zs.map (·.1),zs.map (fun z=>rR z.2),rfl,by rw[Al];exact rl.at_,z5c rl.pr,by rw[Ac];lia,fun m hm=>?_⟩;rw[q5t hl];have s1:=(Same.refl H).new (o:=dR ((zs.map (·.2)).map rR)) hm;have hm1:upd H m (dR ((zs.map (·.2)).map rR)) m=some (dR ((zs.map (·.2)).map rR)):=q0b;generalize upd H m (dR ((zs.map (·.2)).map rR))=H1 at s1 hm1;generalize hrows:zs.map (·.2)=rows at hl hm1 k;have hrl:rows.length<=30:=by rw[<- hrows,Ac];exact h30
  have rl1:=rl.same s1;refine⟨by show 0<=sizeLine;decide,fun p0 hp0=>⟨by show 1<=sizeLine;decide,fun D1 hD1=>?_⟩⟩;have s2:=((Same.refl H1).new (o:=.tup []) hp0).new (o:=.lst [.ref p0]) hD1;have n01:p0≠D1:=fun z=>by rw[<- z,q0b] at hD1;cases hD1
  have hp2:upd (upd H1 p0 (.tup [])) D1 (.lst [.ref p0]) p0=some (.tup (vP [])):=by rw[q0c n01];exact q0b
  have hD2:upd (upd H1 p0 (.tup [])) D1 (.lst [.ref p0]) D1=some (.lst [.ref p0]):=q0b;generalize upd (upd H1 p0 (.tup [])) D1 (.lst [.ref p0])=H2 at s2 hp2 hD2;have rl2:=rl1.same s2;refine⟨_,rfl,.inl ⟨L,rfl,⟨_,SqL.of rl2.at_⟩,fun Dc hDc=>?_⟩⟩;refine q5g (fun i ys H'=>∃ds:List (Addr×Pth),ys=ds.map (fun z=>V.ref z.1)/\Same H2 H'/\H' Dc=some (.lst ys)/\ds.length<=i/\i<=zs.length/\∀z∈ds,H' z.1=some (.tup (vP z.2))/\IsD rows z.2/\z.2.length<6) ⟨[],rfl,(Same.refl H2).new hDc,q0b,Am _,By _,(fun _ h=>nomatch h)⟩ (fun i ys H' h=>by obtain⟨ds,_,s',h',_⟩:=h;exact⟨h',SqL.of (s' _ _ rl2.at_)⟩) ?_ ?_
  ·rintro i ys H' v hv ⟨ds,rfl,s',hHD,hle,_,hds⟩;obtain⟨z,hz,rfl⟩:=gR0 hv
   have hi:i<zs.length:=(Bg.mp hz).1;obtain⟨e,h1,h2⟩:=(rl2.same s').pr z (Aq hz);refine⟨z.1,_,rfl,SqT.of h1,rfl,_,_,rfl,_,_,rfl,rfl,q3g,?_⟩;refine⟨fun bb H5=>H5=H'/\(bb=true->z.2.2=none/\z.2.1.length<6),?_,?_⟩
   ·rintro bb H5 ⟨rfl,hb⟩;refine ite2 (fun hb1=>?_) (fun hb1=>⟨ds,rfl,s',hHD,Ek hle,hi,hds⟩);obtain⟨hn,h6⟩:=hb hb1;have nt:∀{x:Addr} {xs:List V},H5 x=some (.tup xs)->upd H5 Dc (.lst (ds.map (fun z=>V.ref z.1)++[.ref e])) x=some (.tup xs):=fun{x xs} e=>by rw[q0c (fun y=>by rw[y,hHD] at e;cases e)];exact e
    refine⟨_,rfl,hHD,small' (by rw[Ac];lia),ds++[(e,z.2.1)],by rw[Aj];rfl,fun x u eu=>by rw[q0c (fun y=>by rw[y,hDc] at eu;cases eu)];exact s' _ _ eu,q0b,by rw[Ap];exact Hh hle,hi,fun y hy=>?_⟩;rcases Ax.mp hy with hy|hy
    ·exact⟨nt (hds y hy).1,(hds y hy).2⟩
    ·rw[Ao.mp hy];refine⟨nt h2,.inr ?_,h6⟩;rw[<- hrows,<- hn];exact Ah.mpr ⟨z,Aq hz,rfl⟩
   ·refine⟨_,rfl,_,rfl,?_⟩;refine iteB (fun hb=>?_) (fun hb=>⟨rfl,(fun z=>by cases z)⟩);refine⟨_,rfl,_,_,rfl,.inr ⟨_,SqT.of h2,rfl⟩,_,_,rfl,rfl,_,rfl,rfl,fun e6=>⟨mV_none.mp (of_decide_eq_true hb),?_⟩⟩;have e7:=of_decide_eq_true e6;rw[q1g] at e7;have e8:(z.2.1.length:Int)<6:=e7;lia
  rintro ys H3 ⟨ds,rfl,s3,hHD,hle,_,hds⟩;have hle':ds.length<=30:=by rw[Ac] at hle;lia
  refine .inr (.inr ⟨D1,Dc,_,_,rfl,rfl,s3 _ _ hD2,hHD,small (by rw[Ac];show 1+_<=_;lia),fun Dr hDr=>?_⟩);have s4:=(Same.refl H3).new (o:=.lst ([V.ref p0]++ds.map fun z=>V.ref z.1)) hDr;have dl4:DL rows (upd H3 Dr (.lst ([V.ref p0]++ds.map fun z=>V.ref z.1))) Dr ((p0,[])::ds):=⟨q0b,fun z hz=>by
   rcases Be.mp hz with rfl|hz
   ·exact⟨s4 _ _ (s3 _ _ hp2),.inl rfl,by show 0<6;decide⟩
   ·exact⟨s4 _ _ (hds z hz).1,(hds z hz).2⟩⟩
  have s14:=((s1.trans s2).trans s3).trans s4;have hDrH:H Dr=none:=((s1.trans s2).trans s3).free hDr;generalize hH4:upd H3 Dr (.lst ([V.ref p0]++ds.map fun z=>V.ref z.1))=H4 at s4 dl4 s14;generalize hdd:(p0,([]:Pth))::ds=dd at dl4;have hm4:H4 m=some (dR (rows.map rR)):=s4 _ _ (s3 _ _ (s2 _ _ hm1));clear hds hHD hp2 hD2 s2 s3 rl2 rl1;refine⟨by show 0<=sizeLine;decide,fun M hM=>?_⟩;have s5:=(Same.refl H4).new (o:=.lst []) hM;have hMH:H M=none:=s14.free hM;have ml5:ML (upd H4 M (.lst [])) M []:=ML.nil q0b;have dl5:=dl4.same s5;have hm5:=s5 _ _ hm4;have fd5:=(Fd.refl F).same (s14.trans s5);have hDM:Dr≠M:=fun z=>by rw[<- z,dl4.at_] at hM;cases hM
  generalize upd H4 M (.lst [])=H5 at ml5 dl5 hm5 fd5;have hDra:Dr≠a:=(F.na hDrH).symm;have hMa:M≠a:=(F.na hMH).symm;have oks:∀r∈rows,okP r.1:=hl.ok;refine⟨_,rfl,_,rfl,m,_,rfl,hm5,by rw[Ac];lia,fun r hr=>?_,fun L2 bs ps hL2 hp2 hs2 pts=>?_⟩
  ·obtain⟨y,hy,rfl⟩:=Ah.mp hr;exact(oks y hy).ne
  obtain⟨xs,x1,x2,x3⟩:=z3d pts;have hkey:(rows.map rR).map (·.1)=rows.map (·.1):=by rw[Al];rfl
  rw[hkey] at hp2;rw[x1];have s6:=(Same.refl H5).new (o:=.lst (xs.map fun z=>V.ref z.1)) hL2;have xin:∀x∈xs,∃k,(x.2,k)∈rows:=fun x hx=>by
   have hx2:x.2∈ps:=by rw[<- x2];exact Ah.mpr ⟨x,hx,rfl⟩
   obtain⟨r,hr,e⟩:=Ah.mp (hp2.mem_iff.mp hx2);exact⟨r.2,by rw[<- e];exact hr⟩
  have xnd:(xs.map (·.2)).Nodup:=by rw[x2];exact hp2.nodup_iff.mpr hl.paths
  have xlen:xs.length=rows.length:=by
   have e1:=congrArg List.length x2;have e2:=hp2.length_eq;rw[Ac] at e1 e2;lia
  have pl6:PL (upd H5 L2 (.lst (xs.map fun z=>V.ref z.1))) L2 xs:=⟨q0b,fun x hx=>⟨s6 _ _ (x3 x hx),by obtain⟨k',hk'⟩:=xin x hx;exact oks _ hk'⟩⟩
  have hL2a:L2≠a:=(fd5.feed.na hL2).symm;have fd6:=fd5.same s6;have dl6:=dl5.same s6;have hm6:=s6 _ _ hm5;have ml6:=ml5.same s6;generalize upd H5 L2 (.lst (xs.map fun z=>V.ref z.1))=H6 at s6 pl6 fd6 dl6 hm6 ml6;clear x1 x3 pts hs2;refine⟨_,rfl,_,rfl,m,_,rfl,hm6,.inl ⟨_,_,rfl,rfl,a,b,_,rfl,fd6.feed,by lia,by rw[Ac,Ac];lia,fun rn H7 _ _ fd7=>?_⟩⟩;have fd7':=fd6.trans fd7;refine⟨a,b,L2,xs,rn,rfl,fd7'.feed,pl6.fd fd6.feed fd7 hL2a,by lia,fun M2 zf zr H8 fd8 hM2 pl8 pm8=>?_⟩;have dl8:=(dl6.fd fd6.feed fd7 hDra).fd fd7'.feed fd8 hDra;have ml8:=(ml6.fd fd6.feed fd7 hMa).fd fd7'.feed fd8 hMa;have hm8:=x1f (x1f hm6 fd6.feed fd7) fd7'.feed fd8;have fd8':=fd7'.trans fd8;have hM2a:M2≠a:=(fd7'.feed.na hM2).symm;have hM2M:M2≠M:=fun z=>by
   have e:=ml6.fd fd6.feed fd7 hMa;rw[z,e.at_] at hM2;cases hM2
  have zin:∀z∈zf,∃k,(z.2,k)∈rows:=fun z hz=>xin z (pm8.mem_iff.mp (Bl _ hz));have znd:(zf.map (·.2)).Nodup:=by
   have e:=(pm8.map (·.2)).nodup_iff.mpr xnd;rw[Aj] at e;exact(Dp.mp e).2.1
  have zlen:zf.length<=rows.length:=by
   have:=pm8.length_eq;rw[Ap] at this;lia
  have I8:AWI H a b m Dr M M2 rows dd zf 0 H8 []:=⟨fd8',hm8,dl8,pl8,ml8,⟨(fun _ h=>nomatch h),Mm⟩,rfl⟩
  clear dl8 ml8 hm8 pl8 fd8' fd8 fd7' fd7 pl6 fd6 dl6 hm6 ml6 hm5 dl5 ml5 fd5 hm4 dl4 s6 s5 pm8;refine .inl ⟨M2,rfl,⟨_,SqL.of I8.pl.at_⟩,?_⟩;refine q4t (xs:=zf.map fun z=>V.ref z.1) (fun j σ' H'=>∃ws x6 x7 x8 x9,σ'=[some (.ref a),some (.ref L),some (.bl bl),some (.ref m),some (.ref Dr),some (.ref M),x6,x7,x8,x9]/\AWI H a b m Dr M M2 rows dd zf j H' ws) ⟨[],none,none,none,none,rfl,I8⟩ (fun j σ' H' _ x=>by obtain⟨_,_,_,_,_,_,I⟩:=x;exact SqL.of I.pl.at_) ?_ ?_
  ·clear I8;rintro j v σ' H1 hv ⟨ws,x6,x7,x8,x9,rfl,I1⟩;obtain⟨z,hz,rfl⟩:=gR0 hv
   have hzm:=Aq hz;obtain⟨mk0,hzr⟩:=zin z hzm;have okz:=oks _ hzr;obtain⟨hz1,_⟩:=I1.pl.pr z hzm;obtain⟨c1,c2⟩:=q1d okz.ne;refine⟨_,rfl,_,rfl,_,rfl,.inr (.inr ⟨z.1,_,rfl,SqT.of hz1,c2,fun t1 ht1=>?_⟩)⟩;rw[c1];have st:=(Same.refl H1).new (o:=.tup (vP z.2.dropLast)) ht1;have I2:=I1.same st;have ht2:upd H1 t1 (.tup (vP z.2.dropLast)) t1=some (.tup (vP z.2.dropLast)):=q0b;have hz2:=st _ _ hz1;generalize upd H1 t1 (.tup (vP z.2.dropLast))=H2 at st I2 ht2 hz2;have hdz:IsD rows z.2.dropLast:=hl.dr _ hzr;have h6:z.2.dropLast.length<6:=by rw[Fl];have f6:z.2.length<=6:=okz.few;have p6:0<z.2.length:=Eo.mpr okz.ne;lia
   refine⟨fun σ' H3=>∃dA dp x8 x9,σ'=[some (.ref a),some (.ref L),some (.bl bl),some (.ref m),some (.ref Dr),some (.ref M),some (.ref z.1),some (.ref dA),x8,x9]/\AWI H a b m Dr M M2 rows dd zf j H3 ws/\H3 dA=some (.tup (vP dp))/\IsD rows dp/\dp.length<6/\(dp=z.2.dropLast\/mk0≠none),?_,?_⟩;rotate_left
   ·refine⟨fun bb H3=>AWI H a b m Dr M M2 rows dd zf j H3 ws/\H3 t1=some (.tup (vP z.2.dropLast))/\(bb=true->mk0≠none),?_,?_⟩
    ·rintro bb H3 ⟨I3,h3,hb⟩;refine ite2 (fun e=>?_) (fun e=>⟨t1,z.2.dropLast,_,_,rfl,I3,h3,hdz,h6,.inl rfl⟩);have hdl:dd.length<=31:=by rw[<- hdd,Bk];lia
     have hdn:0<dd.length:=by rw[<- hdd,Bk];lia
     refine⟨_,rfl,_,rfl,_,rfl,_,_,rfl,.inl ⟨_,SqL.of I3.dr.at_,rfl⟩,a,b,_,rfl,I3.fd.feed,by rw[Ac];lia,by rw[Ac];lia,fun r1 H4 r10 r11 fd4=>?_⟩;rw[Ac] at r11;have I4:=I3.go fd4 hDra hMa hM2a;obtain⟨v,hv1,hv2⟩:=q4p (xs:=dd.map fun z=>V.ref z.1) r10 (by rw[Ac];exact r11);obtain⟨y,hy,rfl⟩:∃y∈dd,v=V.ref y.1:=by
      rw[Az] at hv1;cases e:dd[r1.toNat]? with
      |none=>rw[e] at hv1;cases hv1
      |some z=>rw[e] at hv1;cases hv1;exact⟨z,Aq e,rfl⟩
     refine .inl ⟨Dr,_,r1,_,rfl,rfl,SqL.of I4.dr.at_,hv2,?_⟩;obtain⟨y1,y2,y3⟩:=I4.dr.pr y hy;exact⟨y.1,y.2,_,_,rfl,I4,y1,y2,y3,.inr (hb e)⟩
    ·refine⟨_,rfl,_,rfl,m,mV mk0,rfl,?_,_,rfl,?_⟩
     ·rw[<- q4b hl.paths hzr];exact q3n I2.m hz2
     refine iteB (fun e=>?_) (fun e=>⟨I2,ht2,(fun z=>by cases z)⟩);have hn:mk0≠none:=fun y=>by rw[y] at e;cases e
     refine⟨_,rfl,a,b,_,rfl,I2.fd.feed,by decide,by decide,fun r1 H3 _ _ fd3=>.inl ⟨rfl,_,rfl,?_⟩⟩;exact⟨I2.go fd3 hDra hMa hM2a,tupFd I2.fd.feed fd3 _ _ ht2,fun _=>hn⟩
   rintro σ' H3 ⟨dA,dp,x8,x9,rfl,I3,hd3,hdp,h6p,hor⟩;have hz3:=(I3.pl.pr z hzm).1;have lowdp:Low dp:=fun n hn=>by
    rcases hdp with e|e
    ·rw[e] at hn;cases hn
    ·exact(oks _ e).low n hn
   have okdp:∀n∈dp,okN n:=fun n hn=>by
    rcases hdp with e|e
    ·rw[e] at hn;cases hn
    ·exact(oks _ e).all n hn
   refine⟨_,rfl,m,_,rfl,I3.m,by rw[Ac];lia,fun r hr=>?_,fun L3 bs ps hL3 hp3 hs3 pts=>?_⟩
   ·obtain⟨y,hy,rfl⟩:=Ah.mp hr;exact(oks y hy).ne
   obtain⟨ys,y1,y2,y3⟩:=z3d pts;rw[hkey] at hp3;rw[y1];have s4:=(Same.refl H3).new (o:=.lst (ys.map fun z=>V.ref z.1)) hL3;have yok:∀y∈ys,okP y.2:=fun y hy=>by
    have hy2:y.2∈ps:=by rw[<- y2];exact Ah.mpr ⟨y,hy,rfl⟩
    obtain⟨r,hr,e⟩:=Ah.mp (hp3.mem_iff.mp hy2);rw[<- e];exact oks r hr
   have ylen:ys.length<=30:=by
    have e1:=congrArg List.length y2;have e2:=hp3.length_eq;rw[Ac] at e1 e2;lia
   have I4:=I3.same s4;have hd4:=s4 _ _ hd3;have hL4:upd H3 L3 (.lst (ys.map fun z=>V.ref z.1)) L3=some (.lst (ys.map fun z=>V.ref z.1)):=q0b;have hy4:∀y∈ys,upd H3 L3 (.lst (ys.map fun z=>V.ref z.1)) y.1=some (.tup (vP y.2)):=fun y hy=>s4 _ _ (y3 y hy);generalize upd H3 L3 (.lst (ys.map fun z=>V.ref z.1))=H4 at s4 I4 hd4 hL4 hy4;clear y3 pts y1 hp3 hs3;refine .inl ⟨L3,rfl,⟨_,SqL.of hL4⟩,fun Dc hDc=>?_⟩;refine q5g (fun i vs H'=>∃ns:List (List Nat),vs=ns.map (fun n=>V.str (mk n))/\Same H4 H'/\H' Dc=some (.lst vs)/\ns.length<=i/\i<=ys.length/\∀n∈ns,okN n) ⟨[],rfl,(Same.refl H4).new hDc,q0b,Am _,By _,(fun _ h=>nomatch h)⟩ (fun i vs H' h=>by obtain⟨ns,_,s',h',_⟩:=h;exact⟨h',SqL.of (s' _ _ hL4)⟩) ?_ ?_
   ·rintro i vs H5 v hv ⟨ns,rfl,s5,hHD,hle,_,hns⟩;obtain⟨y,hy,rfl⟩:=gR0 hv
    have hi:i<ys.length:=(Bg.mp hy).1;have hym:=Aq hy;have oky:=yok y hym;have hy5:=s5 _ _ (hy4 y hym);obtain⟨d1,d2⟩:=q1d oky.ne;refine⟨q4f,_,rfl,_,rfl,_,rfl,.inr (.inr ⟨y.1,_,rfl,SqT.of hy5,d2,fun u1 hu1=>?_⟩)⟩;rw[d1];have s6:=(Same.refl H5).new (o:=.tup (vP y.2.dropLast)) hu1;refine⟨_,rfl,q2y q0b (s6 _ _ (s5 _ _ hd4)) (q1h oky.low) lowdp ⟨_,rfl,?_⟩⟩;have s56:=s5.trans s6;refine iteB (fun e=>?_) (fun e=>⟨ns,rfl,s56,s6 _ _ hHD,Ek hle,hi,hns⟩);refine⟨_,rfl,_,rfl,.inr (.inl ⟨y.1,_,-1,_,rfl,rfl,SqT.of (s6 _ _ hy5),q2k oky.ne,s6 _ _ hHD,small' (by rw[Ac];lia),ns++[y.2.getLastD []],by rw[Aj];rfl,fun x u eu=>by rw[q0c (fun w'=>by rw[w',hDc] at eu;cases eu)];exact s56 _ _ eu,q0b,by rw[Ap];exact Hh hle,hi,fun n hn=>?_⟩)⟩;rcases Ax.mp hn with hn|hn
    ·exact hns n hn
    ·rw[Ao.mp hn];exact q2z oky
   rintro vs H5 ⟨ns,rfl,s5,hHD,hle,_,hns⟩;have hle':ns.length<=30:=by rw[Ac] at hle;lia
   have I5:=I4.same s5;have hd5:=s5 _ _ hd4;have hz5:=(I5.pl.pr z hzm).1;have hDca:Dc≠a:=(I4.fd.feed.na hDc).symm;refine⟨_,rfl,_,rfl,.inr (.inl ⟨z.1,_,-1,_,rfl,rfl,SqT.of hz5,q2k okz.ne,_,rfl,a,b,rfl,I5.fd.feed,fun t H6 okt fd6=>⟨by show 2<=sizeLine;decide,fun l1 hl1=>?_⟩⟩)⟩;have I6:=I5.go fd6 hDra hMa hM2a;have s7:=(Same.refl H6).new (o:=.lst [.str (mk (z.2.getLastD [])),.str (mk t)]) hl1;have I7:=I6.same s7;have hl7:upd H6 l1 (.lst [.str (mk (z.2.getLastD [])),.str (mk t)]) l1=some (.lst [.str (mk (z.2.getLastD [])),.str (mk t)]):=q0b;have hD7:=s7 _ _ (fd6.at hHD hDca);have hd7:=s7 _ _ (tupFd I5.fd.feed fd6 _ _ hd5);generalize upd H6 l1 (.lst [.str (mk (z.2.getLastD [])),.str (mk t)])=H7 at s7 I7 hl7 hD7 hd7;refine .inr (.inr ⟨Dc,l1,_,_,rfl,rfl,hD7,hl7,small (by rw[Ac];show _+2<=_;lia),fun N hN=>?_⟩);have eN:ns.map (fun n=>V.str (mk n))++[.str (mk (z.2.getLastD [])),.str (mk t)]=(ns++[z.2.getLastD [],t]).map fun n=>V.str (mk n):=by rw[Aj];rfl
   rw[eN];have okn:∀n∈ns++[z.2.getLastD [],t],okN n:=fun n hn=>by
    rcases Ax.mp hn with hn|hn
    ·exact hns n hn
    ·rcases Be.mp hn with rfl|hn
     ·exact q2z okz
     ·rw[Ao.mp hn];exact okt
   have nlen:(ns++[z.2.getLastD [],t]).length<=32:=by rw[Ap];show _+2<=_;lia
   have npos:0<(ns++[z.2.getLastD [],t]).length:=by rw[Ap];show 0<_+2;lia
   generalize ns++[z.2.getLastD [],t]=nn at okn nlen npos;have s8:=(Same.refl H7).new (o:=.lst (nn.map fun n=>V.str (mk n))) hN;have I8:=I7.same s8;have hN8:upd H7 N (.lst (nn.map fun n=>V.str (mk n))) N=some (.lst (nn.map fun n=>V.str (mk n))):=q0b;have hd8:=s8 _ _ hd7;have hNa:N≠a:=(I7.fd.feed.na hN).symm;generalize upd H7 N (.lst (nn.map fun n=>V.str (mk n)))=H8 at s8 I8 hN8 hd8;refine⟨_,rfl,_,rfl,_,rfl,_,_,rfl,.inl ⟨_,SqL.of hN8,rfl⟩,a,b,_,rfl,I8.fd.feed,by rw[Ac];lia,by rw[Ac];lia,fun r9 H9 r90 r91 fd9=>?_⟩;rw[Ac] at r91;have I9:=I8.go fd9 hDra hMa hM2a;have hd9:=tupFd I8.fd.feed fd9 _ _ hd8;obtain⟨v,hv1,hv2⟩:=q4p (xs:=nn.map fun n=>V.str (mk n)) r90 (by rw[Ac];exact r91);obtain⟨n,hn,rfl⟩:∃n∈nn,v=V.str (mk n):=by
    rw[Az] at hv1;cases e:nn[r9.toNat]? with
    |none=>rw[e] at hv1;cases hv1
    |some n=>rw[e] at hv1;cases hv1;exact⟨n,Aq e,rfl⟩
   refine .inl ⟨N,_,r9,_,rfl,rfl,SqL.of (fd9.at hN8 hNa),hv2,?_⟩;refine⟨fun σ' HA=>∃n x8,σ'=[some (.ref a),some (.ref L),some (.bl bl),some (.ref m),some (.ref Dr),some (.ref M),some (.ref z.1),some (.ref dA),x8,some (.str (mk n))]/\AWI H a b m Dr M M2 rows dd zf j HA ws/\HA dA=some (.tup (vP dp))/\okN n,?_,?_⟩;rotate_left
   ·refine⟨_,rfl,a,b,_,rfl,I9.fd.feed,by decide,by decide,fun rA HA _ _ fdA=>.inl ⟨rfl,_,rfl,?_⟩⟩;have IA:=I9.go fdA hDra hMa hM2a;have hdA:=tupFd I9.fd.feed fdA _ _ hd9;refine ite2 (fun e=>?_) (fun e=>⟨n,_,rfl,IA,hdA,okn n hn⟩);refine⟨_,rfl,_,rfl,a,b,n,rfl,IA.fd.feed,okn n hn,fun n' HB okn' fdB=>?_⟩;exact⟨n',_,rfl,IA.go fdB hDra hMa hM2a,tupFd IA.fd.feed fdB _ _ hdA,okn'⟩
   rintro σ' HA ⟨n,x8,rfl,IA,hdA,okn'⟩;refine⟨_,rfl,.inl ⟨rfl,_,SqL.of IA.ml.at_⟩,_,rfl,_,rfl,_,rfl,by show 1<=sizeLine;decide,fun p1 hp1=>?_⟩;have sB:=(Same.refl HA).new (o:=.tup [.str (mk n)]) hp1;refine⟨dA,p1,_,_,rfl,rfl,sB _ _ hdA,q0b,by rw[q1g];exact small (by show _+1<=_;lia),fun p2 HC sC hp2 _=>?_⟩;have hp2':HC p2=some (.tup (vP (dp++[n]))):=by rw[hp2];show _=some (HO.tup ((dp++[n]).map _));rw[Aj];rfl
   have IC:=IA.same (sB.trans sC);refine⟨by show 2<=sizeLine;decide,fun T1 hT1=>?_⟩;have sD:=(Same.refl HC).new (o:=.tup [.ref z.1,.ref p2]) hT1;have ID:=IC.same sD;have wl:ws.length<=30:=by
    have:=congrArg List.length ID.ew;rw[Ac,Ac,Bp] at this;lia
   refine⟨M,_,_,rfl,rfl,ID.ml.at_,by rw[Ac];exact small' (by lia),?_⟩;refine⟨ws++[(T1,(z.2,dp++[n]))],_,_,_,_,rfl,ID.put F hMH hDM hM2M ⟨z.1,p2,q0b,(ID.pl.pr z hzm).1,sD _ _ hp2'⟩ hz rfl ⟨⟨mk0,hzr,by rw[Iy];exact hor⟩,?_,by rw[Iy];exact hdp⟩ znd⟩;refine⟨by simp,by rw[Ap];show _+1<=6;lia,fun x hx=>?_⟩;rcases Ax.mp hx with hx|hx
   ·exact okdp x hx
   ·rw[Ao.mp hx];exact okn'
  ·rintro σ' H1 ⟨ws,x6,x7,x8,x9,rfl,I1⟩;refine⟨_,rfl,k M ws H1 I1.fd hMH I1.ml I1.gw ?_⟩;have:=congrArg List.length I1.ew;rw[Ac,Ac,Bp] at this;have:rows.length=zs.length:=by rw[<- hrows,Ac]
   lia
end
end K
set_option maxHeartbeats 4000000
namespace K
open PySem L2 TX SB HM
section
variable{P:Program}{w:World}{K:Ai}{mg:Str->Option Value}{base:Heap}
abbrev rPs(ps:List (Addr×Mv)):List HRow:=ps.map fun x=>(x.2.1,.ref x.1)
def setP(ps:List (Addr×Mv))(y:Addr×Mv):List (Addr×Mv):=ps.map fun x=>if x.2.1=y.2.1 then y else x
theorem z6n{ps:List (Addr×Mv)}{y:Addr×Mv}:(setP ps y).map (·.2.1)=ps.map (·.2.1):=by
 unfold setP;rw[Al];refine Gb fun x _=>?_;show(if x.2.1=y.2.1 then y else x).2.1=x.2.1;by_cases h:x.2.1=y.2.1
 ·rw[if_pos h,h]
 ·rw[if_neg h]
theorem z8o{ps:List (Addr×Mv)}{y:Addr×Mv}(h:y.2.1∈ps.map (·.2.1)):putK ((rPs ps).map fun r=>(kP r.1,r.2)) (kP y.2.1) (.ref y.1)=(rPs (setP ps y)).map fun r=>(kP r.1,r.2):=by
 unfold putK;rw[if_pos]
 ·unfold setP rPs;rw[Al,Al,Al,Al];refine Gb fun x _=>?_;show(if kP x.2.1=kP y.2.1 then(kP x.2.1,V.ref y.1) else(kP x.2.1,V.ref x.1))=(kP (if x.2.1=y.2.1 then y else x).2.1,V.ref (if x.2.1=y.2.1 then y else x).1)
  by_cases e:x.2.1=y.2.1
  ·rw[if_pos e,if_pos (by rw[e]),e]
  ·rw[if_neg e,if_neg (fun z=>e (q9i z))]
 ·rw[List.any_eq_true];obtain⟨x,hx,e⟩:=Ah.mp h;exact⟨(kP x.2.1,.ref x.1),Ah.mpr ⟨(x.2.1,.ref x.1),Ah.mpr ⟨x,hx,rfl⟩,rfl⟩,by rw[e];exact decide_eq_true rfl⟩
theorem q6q:∀{ys ps:List (Addr×Mv)},(∀y∈ys,y.2.1∈ps.map (·.2.1))->putAll ((rPs ps).map fun r=>(kP r.1,r.2)) ((rPs ys).map fun r=>(kP r.1,r.2))=(rPs (ys.foldl setP ps)).map fun r=>(kP r.1,r.2)
 |[],ps,_=>rfl
 |y::ys,ps,h=>by
  show putAll (putK ((rPs ps).map fun r=>(kP r.1,r.2)) (kP y.2.1) (.ref y.1)) ((rPs ys).map fun r=>(kP r.1,r.2))=_;rw[z8o (h y Au)];exact q6q fun z hz=>by rw[z6n];exact h z (Ar _ hz)
theorem z1x:∀{ys ps:List (Addr×Mv)} {x:Addr×Mv},x∈ys.foldl setP ps->x∈ps\/x∈ys
 |[],ps,x,h=>.inl h
 |y::ys,ps,x,h=>by
  rcases z1x (ys:=ys) (ps:=setP ps y) h with h|h
  ·obtain⟨z,hz,e⟩:=Ah.mp h;by_cases c:z.2.1=y.2.1
   ·rw[if_pos c] at e;rw[<- e];exact .inr Au
   ·rw[if_neg c] at e;rw[<- e];exact .inl hz
  ·exact .inr (Ar _ h)
theorem z1y:∀{ys ps:List (Addr×Mv)} {ks:List Pth} {f:Pth->Pth},(ys.map (·.2.1)).Nodup->ps.map (·.2)=ks.map (fun k=>(k,f k))->(ys.foldl setP ps).map (·.2)=ks.map fun k=>(k,if k∈ys.map (·.2.1) then plc (ys.map (·.2)) k else f k)
 |[],ps,ks,f,_,h=>by rw[List.foldl_nil,h];simp
 |y::ys,ps,ks,f,nd,h=>by
  rw[Ak,Ci] at nd;have h2:(setP ps y).map (·.2)=ks.map (fun k=>(k,if k=y.2.1 then y.2.2 else f k)):=by
   have e1:(setP ps y).map (·.2)=(ps.map (·.2)).map (fun m=>if m.1=y.2.1 then y.2 else m):=by
    unfold setP;rw[Al,Al];refine Gb fun x _=>?_;show(if x.2.1=y.2.1 then y else x).2=if x.2.1=y.2.1 then y.2 else x.2
    split<;>rfl
   rw[e1,h,Al];refine Gb fun k _=>?_;show(if k=y.2.1 then y.2 else(k,f k))=(k,if k=y.2.1 then y.2.2 else f k)
   by_cases c:k=y.2.1
   ·rw[if_pos c,if_pos c,c]
   ·rw[if_neg c,if_neg c]
  rw[Lw,z1y nd.2 h2];refine Gb fun k _=>?_;show(k,_)=(k,_)
  congr 1;rw[Ak,Ak];by_cases c:k=y.2.1
  ·rw[if_neg (by rw[c];exact nd.1),if_pos c,if_pos (by rw[c];exact Au)];show _=if y.2.1=k then y.2.2 else _
   rw[if_pos c.symm]
  ·have e2:(k∈y.2.1::ys.map (·.2.1))↔k∈ys.map (·.2.1):=by rw[Be];exact⟨fun z=>z.resolve_left c,.inr⟩
   rw[if_neg c];by_cases m:k∈ys.map (·.2.1)
   ·rw[if_pos m,if_pos (e2.mpr m)];show _=if y.2.1=k then y.2.2 else _
    rw[if_neg fun z=>c z.symm]
   ·rw[if_neg m,if_neg fun z=>m (e2.mp z)]
theorem z6o{H:Hp}:∀{zs:List Zm},(∀z∈zs,MT H z.1 z.2)->∃ys:List (Addr×Mv),ys.map (·.2)=zs.map (·.2)/\PRs H (zs.map (·.1)) (rPs ys)/\∀y∈ys,H y.1=some (.tup (vP y.2.2))
 |[],_=>⟨[],rfl,.nil,fun _ h=>nomatch h⟩
 |z::zs,h=>by
  obtain⟨ys,y1,y2,y3⟩:=z6o fun x hx=>h x (Ar _ hx)
  obtain⟨A,B,h1,h2,h3⟩:=h z Au;refine⟨(B,z.2)::ys,by rw[Ak,Ak,y1],.cons ⟨A,h1,h2⟩ y2,fun y hy=>?_⟩;rcases Be.mp hy with rfl|hy
  ·exact h3
  ·exact y3 y hy
def spPlaces:Sp:=fun vs H Q _=>∃L M bl zs ws,vs=[.ref L,.ref M]/\RL H L zs/\Hl bl (zs.map (·.2))/\zs.length<=30/\ML H M ws/\GoodW (zs.map (·.2)) (ws.map (·.2))/\ws.length<=60 /\
 ∀D ps H',H D=none->Same H H'->PDt H' D ps->ps.map (·.2)=(zs.map (·.2)).map (fun r=>(r.1,plc (ws.map (·.2)) r.1))->Q (.ref D) H'
abbrev q5u:Stmt:=top 32
theorem sc_places:FnScope ["_law_rows_here", "_law_wishes", "_law_places_here", "_law_path", "_law_mark"] ["_law_rows_here", "_law_wishes"] (defScope q5u):=by trivial
theorem z6p(D:Df K mg "_law_places" q5u ["_law_rows_here", "_law_wishes"])(T:Txt mg):Cal P w K mg base "_law_places" 2 ["_law_rows_here", "_law_wishes"] spPlaces:=by
 refine D.cal sc_places (fun vs H Q E h=>?_) (fun f cdv A outer s H vs Q E hr h=>?_)
 ·obtain⟨L,M,bl,zs,ws,rfl,_⟩:=h;rfl
 ·obtain⟨L,M,bl,zs,ws,rfl,rl,hl,h30,ml,gw,few,k⟩:=h;refine⟨_,(q0e (q0h (i:=2) sc_places.nd rfl (by trivial) q4v) (q0e (q2r Dv rfl (@q5v _ _ _ _ K rfl (pv 0)) (@q2t _ _ _ _ (2) _ K rfl rfl (q0p (q0n (i:=3) sc_places.nd rfl (by trivial)) (q0p (q0n (i:=4) sc_places.nd rfl (by trivial)) q1q)) (by rfl) (by rfl)) (q0f (q7b (q1y hr) (pv 2) (pv 3) (pv 3) rfl))) (q0e (q1w (@bm_k _ _ _ _ _ _ _ _ _ _ _ _ K rfl Kl PySem.F.slot_dict_update PySem.F.type_dict_update (x0q hr) (pv 2) (q0a (q2d (q3i hr) (by rfl) T.b_dict (by decide +kernel) (q0a (pv 1) q0d)) q0d) (by rfl) (by rfl) (by rfl) (by rfl) (by rfl))) (q0f (q0m (pv 2)))))),?_⟩;intro D hD;have s0:=(Same.refl H).new (o:=.dT []) hD;refine⟨_,rfl,.inl ⟨L,rfl,⟨_,SqL.of (s0 _ _ rl.at_)⟩,?_⟩⟩;refine q4t (fun i σ' H'=>∃ps x3 x4,σ'=[some (.ref L),some (.ref M),some (.ref D),x3,x4]/\Same H H'/\PDt H' D ps/\ps.map (·.2)=(((zs.map (·.2)).take i).map (·.1)).map (fun k=>(k,k))) ⟨[],none,none,rfl,s0,⟨q0b,(fun _ h=>nomatch h)⟩,rfl⟩ (fun i σ' H' _ x=>by obtain⟨_,_,_,_,s',_⟩:=x;exact SqL.of (s' _ _ rl.at_)) ?_ ?_
  ·rintro i v σ' H1 hv ⟨ps,x3,x4,rfl,s1,pd,eps⟩;obtain⟨z,hz,rfl⟩:=gR0 hv
   have hzr:(zs.map (·.2))[i]?=some z.2:=by rw[Az,hz];rfl
   have e1:(zs.map (·.2)).take (i+1)=(zs.map (·.2)).take i++[z.2]:=by rw[Cb,hzr];rfl
   have pl:ps.length<=30:=by
    have:=congrArg List.length eps;rw[Ac,Ac,Ac,Bp,Ac] at this;lia
   have hno:z.2.1∉ps.map (·.2.1):=fun hin=>by
    have e2:ps.map (·.2.1)=((zs.map (·.2)).take i).map (·.1):=by
     have:ps.map (·.2.1)=(ps.map (·.2)).map (·.1):=by rw[Al];rfl
     rw[this,eps,Al];exact List.map_id' _
    rw[e2] at hin;have e3:((zs.map (·.2)).take (i+1)).map (·.1)=((zs.map (·.2)).take i).map (·.1)++[z.2.1]:=by rw[e1,Aj];rfl
    have nd2:(((zs.map (·.2)).take (i+1)).map (·.1)).Nodup:=by rw[Gu];exact hl.paths.sublist (Ia _ _)
    rw[e3] at nd2;exact(Dp.mp nd2).2.2 _ hin _ (Ao.mpr rfl) rfl
   obtain⟨b,h1,h2⟩:=(rl.same s1).pr z (Aq hz);refine⟨z.1,_,rfl,SqT.of h1,rfl,_,_,rfl,_,_,rfl,rfl,?_⟩;refine⟨_,rfl,_,rfl,_,rfl,D,_,rfl,DPut.t (k:=kP z.2.1) pd.at_ (by rw[q4i];exact h2) (by rw[Ac,Ac];exact small' (by lia)),?_⟩;rw[q3j (p:=z.2.1) (v:=.ref b) fun r hr z'=>by
    obtain⟨x,hx,rfl⟩:=Ah.mp hr;exact hno (Ah.mpr ⟨x,hx,z'⟩)]
   have em:rPs (ps++[(b,(z.2.1,z.2.1))])=rPs ps++[(z.2.1,.ref b)]:=by unfold rPs;rw[Aj];rfl
   have nD:∀(x:Addr) (xs:List V),H1 x=some (.tup xs)->upd H1 D (dR (rPs ps++[(z.2.1,.ref b)])) x=some (.tup xs):=fun x xs e=>by
    rw[q0c (fun y=>by rw[y,pd.at_] at e;cases e)];exact e
   refine⟨ps++[(b,(z.2.1,z.2.1))],_,_,rfl,fun x u e=>?_,⟨by rw[q0b];exact congrArg some (congrArg dR em.symm),fun x hx=>?_⟩,by rw[e1,Aj,Aj,Aj,eps];rfl⟩
   ·rw[q0c (fun y=>by rw[y,hD] at e;cases e)];exact s1 _ _ e
   ·rcases Ax.mp hx with hx|hx
    ·exact nD _ _ (pd.pr x hx)
    ·rw[Ao.mp hx];exact nD _ _ h2
  ·rintro σ' H1 ⟨ps,x3,x4,rfl,s1,pd,eps⟩;rw[Ac,<- Ac (f:=fun z:Zr=>z.2),Cf] at eps;have ml1:=ml.same s1;obtain⟨ys,y1,y2,y3⟩:=z6o ml1.pr;have yl:ys.length=ws.length:=by have:=congrArg List.length y1;rw[Ac,Ac] at this;exact this
   have yk:ys.map (·.2.1)=(ws.map (·.2)).map (·.1):=by
    have:ys.map (·.2.1)=(ys.map (·.2)).map (·.1):=by rw[Al];rfl
    rw[this,y1]
   have ynd:(ys.map (·.2.1)).Nodup:=by rw[yk];exact gw.nd
   have pk:ps.map (·.2.1)=(zs.map (·.2)).map (·.1):=by
    have:ps.map (·.2.1)=(ps.map (·.2)).map (·.1):=by rw[Al];rfl
    rw[this,eps,Al];exact List.map_id' _
   have yin:∀y∈ys,y.2.1∈ps.map (·.2.1):=fun y hy=>by
    have h1:y.2∈ws.map (·.2):=by rw[<- y1];exact Ah.mpr ⟨y,hy,rfl⟩
    obtain⟨kk,hk,_⟩:=(gw.all y.2 h1).th;rw[pk];exact Ah.mpr ⟨_,hk,rfl⟩
   have pl:ps.length=zs.length:=by have:=congrArg List.length pk;rw[Ac,Ac,Ac] at this;exact this
   refine⟨_,rfl,.inr (.inr (.inl ⟨rfl,.inr ⟨_,pd.at_⟩⟩)),_,rfl,M,ws.map (·.1),rPs ys,rfl,by rw[Al];exact ml1.at_,y2,by rw[Ac];lia,fun W hW=>?_⟩;have eW:HO.dT ((rPs ys).foldl putR [])=dR (rPs ys):=congrArg HO.dT (foldR (acc:=[]) (by show((rPs ys).map (·.1)).Nodup;rw[Al];exact ynd));rw[eW];have s2':=(Same.refl H1).new (o:=dR (rPs ys)) hW;have pd2:=pd.same s2';have s2:=s1.trans s2';have hW2:upd H1 W (dR (rPs ys)) W=some (dR (rPs ys)):=q0b;have y4:∀y∈ys,upd H1 W (dR (rPs ys)) y.1=some (.tup (vP y.2.2)):=fun y hy=>s2' _ _ (y3 y hy);have hDW:D≠W:=fun z=>by rw[<- z,pd.at_] at hW;cases hW
   generalize upd H1 W (dR (rPs ys))=H2 at s2' s2 pd2 hW2 y4;refine⟨D,_,W,_,rfl,rfl,hDW,pd2.at_,hW2,?_,by rw[Ac,Ac,Ac,Ac];exact small' (by lia),?_⟩
   ·cases ys with
    |nil=>exact .inr rfl
    |cons y ys =>
     refine .inl fun e=>?_;have h1:=yin y Au;cases ps with
     |nil=>cases h1
     |cons _ _=>cases e
   rw[q6q yin];have ev:=z1y (f:=fun k=>k) ynd eps;refine⟨_,rfl,k D (ys.foldl setP ps) _ hD (fun x u e=>by rw[q0c (fun y=>by rw[y,hD] at e;cases e)];exact s2 _ _ e) ⟨q0b,fun x hx=>?_⟩ ?_⟩
   ·have t:H2 x.1=some (.tup (vP x.2.2)):=by
     rcases z1x hx with hx|hx
     ·exact pd2.pr x hx
     ·exact y4 x hx
    rw[q0c (fun y=>by rw[y,pd2.at_] at t;cases t)];exact t
   ·rw[ev,Al];refine Gb fun r _=>?_;show(r.1,_)=(r.1,_)
    congr 1;rw[y1];by_cases c:r.1∈ys.map (·.2.1)
    ·rw[if_pos c]
    ·rw[if_neg c,z1u (by rw[<- yk];exact c)]
theorem z8p{bl:Bool}{p q:Pth}(hp:p≠[])(hq:q≠[])(h:p.dropLast=q.dropLast):decide (V.str (mk (if bl then lowN (p.getLastD []) else p.getLastD []))=V.str (mk (if bl then lowN (q.getLastD []) else q.getLastD [])))=decide (fold bl p=fold bl q):=by
 refine decide_eq_decide.mpr ((⟨fun z=>?_,fun z=>?_⟩:_↔_).trans (q7e (bl:=bl) hp hq).symm)
 ·refine⟨h,?_⟩;have e:=SB.mk_inj (V.str.inj z);cases bl with
  |true=>exact e
  |false=>exact e
 ·have e:=z.2;cases bl with
  |true=>exact congrArg (fun t=>V.str (mk t)) e
  |false=>exact congrArg (fun t=>V.str (mk t)) e
structure CallsPa (P:Program) (w:World) (K:Ai) (mg:Str->Option Value) (base:Heap):Prop where
 fold:Cal P w K mg base "_law_fold" 1 ["_law_name", "_law_blind"] spFold
 places:Cal P w K mg base "_law_places" 2 ["_law_rows_here", "_law_wishes"] spPlaces
def spPairs:Sp:=fun vs H Q _=>∃L M bl zs ws,vs=[.ref L,.ref M,.bl bl]/\RL H L zs/\Hl bl (zs.map (·.2))/\zs.length<=30/\ML H M ws/\GoodW (zs.map (·.2)) (ws.map (·.2))/\ws.length<=60 /\
 ∀L' ts ps H',H L'=none->Same H H'->TL H' L' ts->ps.Perm ((zs.map (·.2)).map (·.1))->ps.Pairwise (fun a b=>pLt b a=false)->ts.map (·.2)=accT bl (plc (ws.map (·.2))) ps ps.length->Q (.ref L') H'
abbrev q7u:Stmt:=top 33
theorem sc_pairs:FnScope ["_law_rows_here", "_law_wishes", "_law_blind", "_law_places_here", "_law_paths", "_law_found", "_law_k", "_law_here", "_law_other", "_law_there"] ["_law_rows_here", "_law_wishes", "_law_blind"] (defScope q7u):=by trivial
theorem z8q(D:Df K mg "_law_pairs" q7u ["_law_rows_here", "_law_wishes", "_law_blind"])(T:Txt mg)(C:CallsPa P w K mg base):Cal P w K mg base "_law_pairs" 3 ["_law_rows_here", "_law_wishes", "_law_blind"] spPairs:=by
 refine D.cal sc_pairs (fun vs H Q E h=>?_) (fun f cdv A outer s H vs Q E hr h=>?_)
 ·obtain⟨L,M,bl,zs,ws,rfl,_⟩:=h;rfl
 ·obtain⟨L,M,bl,zs,ws,rfl,rl,hl,h30,ml,gw,few,k⟩:=h;refine⟨_,(q0e (q0h (i:=3) sc_pairs.nd rfl (by trivial) (pe_c C.places hr (q0a (pv 0) (q0a (pv 1) q0d)))) (q0e (q0h (i:=4) sc_pairs.nd rfl (by trivial) (q0i (q2e hr) (by rfl) T.b_sorted (by decide +kernel) (q0a (pv 3) q0d))) (q0e (q0h (i:=5) sc_pairs.nd rfl (by trivial) (q1n q0d)) (q0e (q2r Dv rfl (q2w rfl T.b_range (q0a (q0i (q2u K rfl) (by rfl) T.b_len Bt (q0a (pv 4) q0d)) q0d)) (q0n (i:=6) sc_pairs.nd rfl (by trivial)) (q0e (q0h (i:=7) sc_pairs.nd rfl (by trivial) (q2h (q1y hr) (pv 3) (q1a (ix_k K rfl) (pv 4) (pv 6) (fun _ _=>rfl)) (fun _ _=>rfl))) (q0f (q2r Dv rfl (@q5v _ _ _ _ K rfl (q0q (sl_k K rfl) (pv 4) (q0u (q0w q1b (pv 6) q0g)) q0t)) (q0n (i:=8) sc_pairs.nd rfl (by trivial)) (q0e (q0h (i:=9) sc_pairs.nd rfl (by trivial) (q2h (q1y hr) (pv 3) (pv 8) (fun _ _=>rfl))) (q0f (q0y (pt_j (@PW.pt _ _ _ (q2c (q0k (eq_k K rfl hr) (q0q (sl_k K rfl) (pv 7) q0t (q0u (q1r q0x q0g))) (q0q (sl_k K rfl) (pv 9) q0t (q0u (q1r q0x q0g))) (nomark _)) (q1p (q0k (eq_k K rfl hr) (pe_c C.fold hr (q0a (q1a (ix_k K rfl) (pv 7) (q1r q0x q0g) (fun _ _=>rfl)) (q0a (pv 2) q0d))) (pe_c C.fold hr (q0a (q1a (ix_k K rfl) (pv 9) (q1r q0x q0g) (fun _ _=>rfl)) (q0a (pv 2) q0d))) (nomark _)))))) (q0f (q1w (@bm_k _ _ _ _ _ _ _ _ _ _ _ _ K rfl Co Dz Ea q1x (pv 5) (q0a (q0o (q0a (q1a (ix_k K rfl) (pv 4) (pv 6) (fun _ _=>rfl)) (q0a (pv 8) (q0a (pv 7) q0d)))) q0d) (by rfl) (by rfl) (by rfl) (by rfl) (by rfl)))) q0l))))))) (q0f (q0m (pv 5))))))),?_⟩;refine⟨_,rfl,_,rfl,L,M,bl,zs,ws,rfl,rl,hl,h30,ml,gw,few,fun D0 ps0 H1 hD0 s1 pd0 e0=>?_⟩;generalize hrows:zs.map (·.2)=rows at hl gw e0 k;have hrl:rows.length<=30:=by rw[<- hrows,Ac];exact h30
  have hks:(rPs ps0).map (·.1)=rows.map (·.1):=by
   have:(rPs ps0).map (·.1)=(ps0.map (·.2)).map (·.1):=by rw[Al,Al];rfl
   rw[this,e0,Al];rfl
  have hpl:ps0.length=rows.length:=by have:=congrArg List.length e0;rw[Ac,Ac] at this;exact this
  have nd0:((ps0.map (·.2)).map (·.1)).Nodup:=by
   have e:(ps0.map (·.2)).map (·.1)=rows.map (·.1):=by rw[e0,Al];rfl
   rw[e];exact hl.paths
  refine⟨_,rfl,D0,_,rfl,pd0.at_,by rw[Ac];lia,fun r hr=>?_,fun L2 bs ps hL2 hp2 hs2 pts=>?_⟩
  ·have hr1:r.1∈rows.map (·.1):=by rw[<- hks];exact Ah.mpr ⟨r,hr,rfl⟩
   obtain⟨y,hy,e⟩:=Ah.mp hr1;rw[<- e];exact(hl.ok y hy).ne
  have hpp:ps.Perm (rows.map (·.1)):=by rw[<- hks];exact hp2
  obtain⟨xs,x1,x2,x3⟩:=z3d pts;rw[x1];have xl:xs.length<=30:=by
   have e1:=congrArg List.length x2;have e2:=hpp.length_eq;rw[Ac] at e1 e2;lia
  have s2:=(Same.refl H1).new (o:=.lst (xs.map fun z=>V.ref z.1)) hL2;have hLL:upd H1 L2 (.lst (xs.map fun z=>V.ref z.1)) L2=some (.lst (xs.map fun z=>V.ref z.1)):=q0b;have hx2:∀z∈xs,upd H1 L2 (.lst (xs.map fun z=>V.ref z.1)) z.1=some (.tup (vP z.2)):=fun z hz=>s2 _ _ (x3 z hz);have s12:=s1.trans s2;have pd2:=pd0.same s2;generalize upd H1 L2 (.lst (xs.map fun z=>V.ref z.1))=H2 at s2 hLL hx2 s12 pd2;clear x3 pts x1 s2 pd0;have hds:ps.length=xs.length:=by rw[<- x2,Ac]
  have hmem:∀z∈xs,z.2∈rows.map (·.1):=fun z hz=>hpp.mem_iff.mp (by rw[<- x2];exact Ah.mpr ⟨z,hz,rfl⟩);have get:∀{H':Hp} (z:Addr×Pth),z∈xs->Same H2 H'->∃e,DGet H' D0 (.ref z.1) (some (.ref e))/\H' e=some (.tup (vP (plc (ws.map (·.2)) z.2))):=fun{H'} z hz s'=>by
   have hin:z.2∈rows.map (·.1):=hmem z hz;rcases(pd2.same s').get nd0 (s' _ _ (hx2 z hz)) with⟨hn,_⟩|⟨y,hy,ey,dg,hy2⟩
   ·exact absurd (by rw[e0,Al];exact hin) hn
   ·refine⟨y.1,dg,?_⟩;rw[e0,z6f hin] at hy2;exact hy2
  have okz:∀z∈xs,okP (plc (ws.map (·.2)) z.2):=fun z hz=>q3d hl gw (hmem z hz);generalize hf:plc (ws.map (·.2))=f at get okz k;refine⟨by show 0<=sizeLine;decide,fun L3 hL3=>?_⟩;have s3:=(Same.refl H2).new (o:=.lst []) hL3;refine⟨_,rfl,_,xs.length,rfl,.inl ⟨_,SqL.of (s3 _ _ hLL),by rw[Ac]⟩,?_⟩;refine⟨(xs.length:Int),rfl,by lia,by lia,q3u (n:=xs.length) (fun i σ' H'=>∃ts x6 x7 x8 x9,σ'=[some (.ref L),some (.ref M),some (.bl bl),some (.ref D0),some (.ref L2),some (.ref L3),x6,x7,x8,x9]/\Same H2 H'/\TL H' L3 ts/\ts.map (·.2)=accT bl f ps i) ⟨[],none,none,none,none,rfl,s3,⟨q0b,(fun _ h=>nomatch h)⟩,rfl⟩ ?_ ?_⟩
  ·rintro i σ' H4 hil ⟨ts,x6,x7,x8,x9,rfl,s4,tl4,ets⟩;obtain⟨z,hz⟩:∃z,xs[i]?=some z:=⟨xs[i],Kg hil⟩
   have hzx:=Aq hz;have hpi:ps[i]?=some z.2:=by rw[<- x2,Az,hz];rfl
   obtain⟨v,hv1,hv2⟩:=q4p (xs:=xs.map fun z=>V.ref z.1) (i:=(0+(i:Int))) (by lia) (by rw[Ac];lia);have ei:(0+(i:Int)).toNat=i:=by lia
   rw[ei,Az,hz] at hv1;obtain rfl:V.ref z.1=v:=Bw hv1;obtain⟨ez,dz,hz4⟩:=get z hzx s4;refine⟨_,rfl,_,rfl,_,rfl,.inl ⟨L2,_,_,_,rfl,rfl,SqL.of (s4 _ _ hLL),hv2,D0,_,rfl,dz,?_⟩⟩;refine⟨_,rfl,_,rfl,.inl ⟨_,_,rfl,rfl,_,rfl,.inr (.inl ⟨L2,_,rfl,SqL.of (s4 _ _ hLL),fun L5 hL5=>?_⟩)⟩⟩;have ec:cutV (xs.map fun z=>V.ref z.1) (some (0+(i:Int)+1)) none=(xs.drop (i+1)).map fun z=>V.ref z.1:=by
    rw[q9n (by lia) (by rw[Ac];lia),Jd];congr 1;lia
   rw[ec];have s6':=(Same.refl H4).new (o:=.lst ((xs.drop (i+1)).map fun z=>V.ref z.1)) hL5;have s6:=s4.trans s6';have tl6:=tl4.same s6';have hz6:=s6' _ _ hz4;have hL6:upd H4 L5 (.lst ((xs.drop (i+1)).map fun z=>V.ref z.1)) L5=some (.lst ((xs.drop (i+1)).map fun z=>V.ref z.1)):=q0b;have hL53:L5≠L3:=fun y=>by rw[y,tl4.at_] at hL5;cases hL5
   generalize upd H4 L5 (.lst ((xs.drop (i+1)).map fun z=>V.ref z.1))=H6 at s6' s6 tl6 hL6 hz6;refine .inl ⟨L5,rfl,⟨_,SqL.of hL6⟩,?_⟩;refine q4t (xs:=(xs.drop (i+1)).map fun z=>V.ref z.1) (fun j σ' H'=>∃ts x8 x9,σ'=[some (.ref L),some (.ref M),some (.bl bl),some (.ref D0),some (.ref L2),some (.ref L3),some (.int (0+(i:Int))),some (.ref ez),x8,x9]/\Same H2 H'/\TL H' L3 ts/\H' L5=some (.lst ((xs.drop (i+1)).map fun z=>V.ref z.1))/\H' ez=some (.tup (vP (f z.2)))/\ts.map (·.2)=accT bl f ps i++(((ps.drop (i+1)).take j).filter fun q=>decide (fold bl (f z.2)=fold bl (f q))).map fun q=>(z.2,q,f z.2))
    ⟨ts,x8,x9,rfl,s6,tl6,hL6,hz6,by rw[ets];simp⟩ (fun j σ' H' _ x=>by obtain⟨_,_,_,_,_,_,h5,_⟩:=x;exact SqL.of h5) ?_ ?_
   ·rintro j v σ' H7 hv ⟨ts,x8,x9,rfl,s7,tl7,hL7,hz7,ets7⟩;obtain⟨y,hy,rfl⟩:∃y,(xs.drop (i+1))[j]?=some y/\v=.ref y.1:=by
     rw[Az] at hv;cases e:(xs.drop (i+1))[j]? with
     |none=>rw[e] at hv;cases hv
     |some y=>rw[e] at hv;cases hv;exact⟨y,rfl,rfl⟩
    have hyx:y∈xs:=Ha (Aq hy);have hpj:(ps.drop (i+1))[j]?=some y.2:=by rw[<- x2,<- Jd,Az,hy];rfl
    have e1:(ps.drop (i+1)).take (j+1)=(ps.drop (i+1)).take j++[y.2]:=by rw[Cb,hpj];rfl
    obtain⟨ey,dy,hy7⟩:=get y hyx s7;refine⟨_,rfl,_,rfl,D0,_,rfl,dy,?_⟩;have hezL:ez≠L3:=fun w'=>by have e:=hz7;rw[w',tl7.at_] at e;cases e
    have ok1:=okz z hzx;have ok2:=okz y hyx;have hlen:ts.length<=930:=by
     have e2:=congrArg List.length ets7;rw[Ac,Ap,Ac] at e2;have e3:=q7n (bl:=bl) (f:=f) (ps:=ps) i;have e4:((((ps.drop (i+1)).take j).filter fun q=>decide (fold bl (f z.2)=fold bl (f q)))).length<=ps.length:=by
      refine Bi (Lj _ _) ?_;rw[Bp,Ce];lia
     have e5:i*ps.length<=30*30:=Nat.mul_le_mul (by lia) (by lia);lia
    refine⟨fun bb H8=>bb=decide (fold bl (f z.2)=fold bl (f y.2))/\Same H7 H8,?_,?_⟩;rotate_left
    ·obtain⟨c1,c2⟩:=q1d ok1.ne;obtain⟨d1,d2⟩:=q1d ok2.ne;refine⟨_,rfl,_,rfl,_,rfl,.inr (.inr ⟨ez,_,rfl,SqT.of hz7,c2,fun p1 hp1=>?_⟩)⟩;rw[c1];have t1:=(Same.refl H7).new (o:=.tup (vP (f z.2).dropLast)) hp1;have hp1':upd H7 p1 (.tup (vP (f z.2).dropLast)) p1=some (.tup (vP (f z.2).dropLast)):=q0b;generalize upd H7 p1 (.tup (vP (f z.2).dropLast))=H8 at t1 hp1';refine⟨_,rfl,_,rfl,_,rfl,.inr (.inr ⟨ey,_,rfl,SqT.of (t1 _ _ hy7),d2,fun p2 hp2=>?_⟩)⟩;rw[d1];have t2':=(Same.refl H8).new (o:=.tup (vP (f y.2).dropLast)) hp2;have t2:=t1.trans t2';refine q2y (t2' _ _ hp1') q0b (q1h ok1.low) (q1h ok2.low) ⟨_,rfl,iteB (fun e=>?_) (fun e=>⟨?_,t2⟩)⟩
     ·have e:=of_decide_eq_true e;refine⟨_,rfl,_,rfl,.inr (.inl ⟨ez,_,-1,_,rfl,rfl,SqT.of (t2 _ _ hz7),q2k ok1.ne,?_⟩)⟩;refine⟨_,rfl,_,bl,rfl,q2z ok1,?_⟩;refine⟨_,rfl,_,rfl,.inr (.inl ⟨ey,_,-1,_,rfl,rfl,SqT.of (t2 _ _ hy7),q2k ok2.ne,?_⟩)⟩;refine⟨_,rfl,_,bl,rfl,q2z ok2,.inl ⟨rfl,_,rfl,?_,t2⟩⟩;exact z8p ok1.ne ok2.ne e
     ·have e:=of_decide_eq_false e;exact(decide_eq_false fun q=>e ((q7e (bl:=bl) ok1.ne ok2.ne).mp q).1).symm
    rintro bb H8 ⟨rfl,s8⟩;have s78:=s7.trans s8;have tl8:=tl7.same s8;refine iteB (fun hc=>?_) (fun hc=>?_)
    ·refine⟨_,rfl,.inl ⟨rfl,_,SqL.of tl8.at_⟩,_,rfl,_,rfl,.inl ⟨L2,_,_,_,rfl,rfl,SqL.of (s78 _ _ hLL),hv2,_,rfl,_,rfl,by show 3<=sizeLine;decide,fun T1 hT1=>?_⟩⟩;have s9':=(Same.refl H8).new (o:=.tup [.ref z.1,.ref y.1,.ref ez]) hT1;have s9:=s78.trans s9';have tl9:=tl8.same s9';have hz9:=s9' _ _ (s8 _ _ hz7);have tt:TT3 (upd H8 T1 (.tup [.ref z.1,.ref y.1,.ref ez])) T1 (z.2,y.2,f z.2):=⟨z.1,y.1,ez,q0b,s9 _ _ (hx2 z hzx),s9 _ _ (hx2 y hyx),hz9⟩
     refine⟨L3,_,_,rfl,rfl,tl9.at_,by rw[Ac];exact small' (by lia),?_⟩;refine⟨ts++[(T1,(z.2,y.2,f z.2))],_,_,rfl,fun x u e=>by rw[q0c (fun w'=>by rw[w',hL3] at e;cases e)];exact s9 _ _ e,tl9.put tt,by rw[q0c hL53];exact s9' _ _ (s8 _ _ hL7),by rw[q0c hezL];exact hz9,?_⟩;rw[Aj,ets7,e1,Kh,Fy (by simpa using hc),Aj,<- Kr];rfl
    ·refine⟨ts,_,_,rfl,s78,tl8,s8 _ _ hL7,s8 _ _ hz7,?_⟩;rw[ets7,e1,Kh,Fx (by simpa using hc)];simp
   ·rintro σ' H7 ⟨ts,x8,x9,rfl,s7,tl7,hL7,hz7,ets7⟩;refine⟨ts,_,_,_,_,rfl,s7,tl7,?_⟩;rw[q5r,ets7];congr 1;unfold rowT;rw[hpi];have e2:(ps.drop (i+1)).take ((xs.drop (i+1)).map fun z=>V.ref z.1).length=ps.drop (i+1):=Eu (by rw[Ac,Ce,Ce];lia);rw[e2]
  ·rintro σ' H4 ⟨ts,x6,x7,x8,x9,rfl,s4,tl4,ets⟩;refine⟨_,rfl,k L3 ts ps H4 (s12.free hL3) (s12.trans s4) tl4 hpp hs2 ?_⟩;rw[ets,hds]
structure CallsOM (P:Program) (w:World) (K:Ai) (mg:Str->Option Value) (base:Heap):Prop where
 draw:Cal P w K mg base "_law_draw" 1 ["_law_feed", "_law_many"] spDraw
 a_name:Cal P w K mg base "_law_a_name" 3 ["_law_feed"] spName
def spOneM:Sp:=fun vs H Q _=>∃a b L bl zs,vs=[.ref a,.ref L]/\FeedAt H a b/\RL H L zs/\Hl bl (zs.map (·.2))/\zs.length<=30/\0<zs.length/\∀T m H',Fd a b H H'->H T=none->MT H' T m->okP m.1->okP m.2->Q (.ref T) H'
abbrev q3t:Stmt:=top 34
theorem sc_one_more:FnScope ["_law_feed", "_law_rows_here", "_law_marks", "_law_paths", "_law_path", "_law_other", "_law_name", "_law_way"] ["_law_feed", "_law_rows_here"] (defScope q3t):=by trivial
theorem z0v(D:Df K mg "_law_one_more" q3t ["_law_feed", "_law_rows_here"])(T:Txt mg)(C:CallsOM P w K mg base):Cal P w K mg base "_law_one_more" 4 ["_law_feed", "_law_rows_here"] spOneM:=by
 refine D.cal sc_one_more (fun vs H Q E h=>?_) (fun f cdv A outer s H vs Q E hr h=>?_)
 ·obtain⟨a,b,L,bl,zs,rfl,_⟩:=h;rfl
 ·obtain⟨a,b,L,bl,zs,rfl,F,rl,hl,h30,h0,k⟩:=h;refine⟨_,(q0e (q0h (i:=2) sc_one_more.nd rfl (by trivial) (q2d (q3i hr) (by rfl) T.b_dict (by decide +kernel) (q0a (pv 1) q0d))) (q0e (q0h (i:=3) sc_one_more.nd rfl (by trivial) (q0i (q2e hr) (by rfl) T.b_sorted (by decide +kernel) (q0a (pv 2) q0d))) (q0e (q0h (i:=4) sc_one_more.nd rfl (by trivial) (q1a (ix_k K rfl) (pv 3) (pe_c C.draw hr (q0a (pv 0) (q0a (q0i (q2u K rfl) (by rfl) T.b_len Bt (q0a (pv 3) q0d)) q0d))) (fun _ _=>rfl))) (q0e (q0h (i:=5) sc_one_more.nd rfl (by trivial) (q1a (ix_k K rfl) (pv 3) (pe_c C.draw hr (q0a (pv 0) (q0a (q0i (q2u K rfl) (by rfl) T.b_len Bt (q0a (pv 3) q0d)) q0d))) (fun _ _=>rfl))) (q0e (q0h (i:=6) sc_one_more.nd rfl (by trivial) (pe_c C.a_name hr (q0a (pv 0) q0d))) (q0e (q0h (i:=7) sc_one_more.nd rfl (by trivial) (pe_c C.draw hr (q0a (pv 0) (q0a q0g q0d)))) (q0e (q0y (q0k (eq_k K rfl hr) (pv 7) q0g (nomark _)) (q0f (q0m (q0o (q0a (q0w q2j (q0q (sl_k K rfl) (pv 4) q0t (q0u (q1r q0x q0g))) (q0o (q0a (pv 6) q0d))) (q0a (pv 4) q0d))))) q0l) (q0e (q0y (q0k (eq_k K rfl hr) (pv 7) q0g (nomark _)) (q0f (q0m (q0o (q0a (q0w q2j (q0q (sl_k K rfl) (pv 4) q0t (q0u (q1r q0x q0g))) (q0o (q0a (@z0a _ _ _ _ _ _ _ _ _ K rfl Cr Pq Pr z1d (q1a (ix_k K rfl) (pv 4) (q1r q0x q0g) (fun _ _=>rfl)) (by rfl) (by rfl)) q0d))) (q0a (pv 4) q0d))))) q0l) (q0e (q0y (pt_j (@PW.pt _ _ _ (q2c (q0k (eq_k K rfl hr) (pv 7) q0g (nomark _)) (q1p (q0k z2f (q0i (q2u K rfl) (by rfl) T.b_len Bt (q0a (pv 4) q0d)) q0g (nomark _)))))) (q0f (q0m (q0o (q0a (q0w q2j (pv 4) (q0o (q0a (pv 6) q0d))) (q0a (pv 4) q0d))))) q0l) (q0e (q0y (q0k (eq_k K rfl hr) (pv 7) q0g (nomark _)) (q0f (q0m (q0o (q0a (pv 4) (q0a (q0o (q0a (pv 6) (q0a (pv 6) q0d))) q0d))))) q0l) (q0e (q0y (pt_j (@PW.pt _ _ _ (q2c (q0k (eq_k K rfl hr) (pv 7) q0g (nomark _)) (q1p (q0k z2f (q0i (q2u K rfl) (by rfl) T.b_len Bt (q0a (pv 5) q0d)) q0g (nomark _)))))) (q0f (q0m (q0o (q0a (pv 4) (q0a (q0w q2j (pv 5) (q0o (q0a (pv 6) q0d))) q0d))))) q0l) (q0f (q0m (q0o (q0a (pv 4) (q0a (pv 4) q0d)))))))))))))))),?_⟩;refine⟨_,rfl,L,zs.map (·.1),zs.map (fun z=>rR z.2),rfl,by rw[Al];exact rl.at_,z5c rl.pr,by rw[Ac];lia,fun m hm=>?_⟩;rw[q5t hl];have s1:=(Same.refl H).new (o:=dR ((zs.map (·.2)).map rR)) hm;have hm1:upd H m (dR ((zs.map (·.2)).map rR)) m=some (dR ((zs.map (·.2)).map rR)):=q0b;generalize upd H m (dR ((zs.map (·.2)).map rR))=H1 at s1 hm1;generalize hrows:zs.map (·.2)=rows at hl hm1;have hrl:rows.length=zs.length:=by rw[<- hrows,Ac]
  have oks:∀r∈rows,okP r.1:=hl.ok;refine⟨_,rfl,m,_,rfl,hm1,by rw[Ac];lia,fun r hr=>?_,fun L2 bs ps hL2 hp2 hs2 pts=>?_⟩
  ·obtain⟨y,hy,rfl⟩:=Ah.mp hr;exact(oks y hy).ne
  obtain⟨xs,x1,x2,x3⟩:=z3d pts;have hkey:(rows.map rR).map (·.1)=rows.map (·.1):=by rw[Al];rfl
  rw[hkey] at hp2;rw[x1];have s2':=(Same.refl H1).new (o:=.lst (xs.map fun z=>V.ref z.1)) hL2;have xlen:xs.length=zs.length:=by
   have e1:=congrArg List.length x2;have e2:=hp2.length_eq;rw[Ac] at e1 e2;lia
  have pl2:PL (upd H1 L2 (.lst (xs.map fun z=>V.ref z.1))) L2 xs:=⟨q0b,fun x hx=>⟨s2' _ _ (x3 x hx),by
   have hx2:x.2∈ps:=by rw[<- x2];exact Ah.mpr ⟨x,hx,rfl⟩
   obtain⟨r,hr,e⟩:=Ah.mp (hp2.mem_iff.mp hx2);rw[<- e];exact oks r hr⟩⟩
  have s2:=s1.trans s2';have fd2:=(Fd.refl F).same s2;have hL2a:L2≠a:=(F.na (s1.free hL2)).symm;generalize upd H1 L2 (.lst (xs.map fun z=>V.ref z.1))=H2 at pl2 s2 fd2;clear x3 pts x1 s2' hs2;refine⟨_,rfl,_,rfl,_,rfl,_,_,rfl,.inl ⟨_,SqL.of pl2.at_,rfl⟩,a,b,_,rfl,fd2.feed,by rw[Ac];lia,by rw[Ac];lia,fun r3 H3 r30 r31 fd3=>?_⟩;rw[Ac] at r31;have pl3:=pl2.fd fd2.feed fd3 hL2a;obtain⟨z,hz,ez⟩:=pl3.get r30 r31;refine .inl ⟨L2,_,r3,_,rfl,rfl,SqL.of pl3.at_,ez,?_⟩;have fd23:=fd2.trans fd3;refine⟨_,rfl,_,rfl,_,rfl,_,_,rfl,.inl ⟨_,SqL.of pl3.at_,rfl⟩,a,b,_,rfl,fd23.feed,by rw[Ac];lia,by rw[Ac];lia,fun r4 H4 r40 r41 fd4=>?_⟩;rw[Ac] at r41;have pl4:=pl3.fd fd23.feed fd4 hL2a;obtain⟨y,hy,ey⟩:=pl4.get r40 r41;refine .inl ⟨L2,_,r4,_,rfl,rfl,SqL.of pl4.at_,ey,?_⟩;have fd24:=fd23.trans fd4;refine⟨_,rfl,a,b,rfl,fd24.feed,fun t H5 okt fd5=>?_⟩;have pl5:=pl4.fd fd24.feed fd5 hL2a;have fd25:=fd24.trans fd5;refine⟨_,rfl,a,b,_,rfl,fd25.feed,by decide,by decide,fun r6 H6 r60 r61 fd6=>?_⟩;have pl6:=pl5.fd fd25.feed fd6 hL2a;have fdx:=fd25.trans fd6;obtain⟨hz6,okz⟩:=pl6.pr z hz;obtain⟨hy6,oky⟩:=pl6.pr y hy;obtain⟨c1,c2⟩:=q1d okz.ne;clear pl5 pl4 pl3 pl2 fd25 fd24 fd23 fd5 fd4 fd3 fd6;have dz:z.2.dropLast=[]\/okP z.2.dropLast:=by
   by_cases e:z.2.dropLast=[]
   ·exact .inl e
   ·exact .inr ⟨e,by rw[Fl];have:z.2.length<=6:=okz.few;lia,fun n hn=>okz.all n (Ra _ hn)⟩
  have lz:z.2.dropLast.length<6:=by rw[Fl];have:z.2.length<=6:=okz.few;have:=Eo.mpr okz.ne;lia
  have don:∀{H':Hp} {x v:Addr} {p q:Pth},Fd a b H H'->H' x=some (.tup (vP p))->H' v=some (.tup (vP q))->okP p->okP q->∀T1,H' T1=none->Q (.ref T1) (upd H' T1 (.tup [.ref x,.ref v])):=fun{H' x v p q} fd hx hv op oq T1 hT1 =>
   have s':=(Same.refl H').new (o:=.tup [.ref x,.ref v]) hT1
   k T1 (p,q) _ (fd.same s') (fd.free hT1) ⟨x,v,q0b,s' _ _ hx,s' _ _ hv⟩ op oq
  have lastz:atI (vP z.2) (-1)=some (.str (mk (z.2.getLastD []))):=q2k okz.ne;refine⟨_,rfl,.inl ⟨rfl,_,rfl,ite2 (fun e=>?_) (fun e=>?_)⟩⟩
  ·refine⟨_,rfl,_,rfl,_,rfl,.inr (.inr ⟨z.1,_,rfl,SqT.of hz6,c2,fun t1 ht1=>?_⟩)⟩;rw[c1];have sa:=(Same.refl H6).new (o:=.tup (vP z.2.dropLast)) ht1;have ht1':upd H6 t1 (.tup (vP z.2.dropLast)) t1=some (.tup (vP z.2.dropLast)):=q0b;generalize upd H6 t1 (.tup (vP z.2.dropLast))=H7 at sa ht1';refine⟨_,rfl,by show 1<=sizeLine;decide,fun p1 hp1=>?_⟩;have sb:=(Same.refl H7).new (o:=.tup [.str (mk t)]) hp1;refine⟨t1,p1,_,_,rfl,rfl,sb _ _ ht1',q0b,by rw[q1g];exact small (by show _+1<=_;lia),fun p2 HC sC hp2 _=>?_⟩;have hp2':HC p2=some (.tup (vP (z.2.dropLast++[t]))):=by rw[hp2];show _=some (HO.tup ((z.2.dropLast++[t]).map _));rw[Aj];rfl
   have sx:=(sa.trans sb).trans sC;exact⟨_,rfl,by show 2<=sizeLine;decide,don (fdx.same sx) hp2' (sx _ _ hz6) (okP.snoc dz lz okt) okz⟩
  refine⟨_,rfl,.inl ⟨rfl,_,rfl,ite2 (fun e=>?_) (fun e=>?_)⟩⟩
  ·refine⟨_,rfl,_,rfl,_,rfl,.inr (.inr ⟨z.1,_,rfl,SqT.of hz6,c2,fun t1 ht1=>?_⟩)⟩;rw[c1];have sa:=(Same.refl H6).new (o:=.tup (vP z.2.dropLast)) ht1;have ht1':upd H6 t1 (.tup (vP z.2.dropLast)) t1=some (.tup (vP z.2.dropLast)):=q0b;generalize upd H6 t1 (.tup (vP z.2.dropLast))=H7 at sa ht1';have okl:=q2z okz;refine⟨_,rfl,_,rfl,.inr (.inl ⟨z.1,_,-1,_,rfl,rfl,SqT.of (sa _ _ hz6),lastz,rfl,_,rfl,rfl,small (by rw[q4q];have:=okl.few;lia),?_⟩)⟩;rw[z1m okl.low];refine⟨by show 1<=sizeLine;decide,fun p1 hp1=>?_⟩;have sb:=(Same.refl H7).new (o:=.tup [.str (mk (uppN (z.2.getLastD [])))]) hp1;refine⟨t1,p1,_,_,rfl,rfl,sb _ _ ht1',q0b,by rw[q1g];exact small (by show _+1<=_;lia),fun p2 HC sC hp2 _=>?_⟩;have hp2':HC p2=some (.tup (vP (z.2.dropLast++[uppN (z.2.getLastD [])]))):=by rw[hp2];show _=some (HO.tup ((z.2.dropLast++[uppN (z.2.getLastD [])]).map _));rw[Aj];rfl
   have sx:=(sa.trans sb).trans sC;exact⟨_,rfl,by show 2<=sizeLine;decide,don (fdx.same sx) hp2' (sx _ _ hz6) (okP.snoc dz lz okl.up) okz⟩
  refine⟨fun bb H'=>H'=H6/\(bb=true->z.2.length<6),?_,?_⟩;rotate_left
  ·refine⟨_,rfl,.inl ⟨rfl,_,rfl,iteB (fun e=>?_) (fun e=>⟨rfl,(fun z=>by cases z)⟩)⟩⟩;refine⟨_,rfl,_,_,rfl,.inr ⟨_,SqT.of hz6,rfl⟩,_,_,rfl,rfl,_,rfl,rfl,fun e6=>?_⟩;have e7:=of_decide_eq_true e6;rw[q1g] at e7;have e8:(z.2.length:Int)<6:=e7;lia
  rintro bb H' ⟨rfl,h6⟩;refine ite2 (fun hb=>?_) (fun hb=>?_)
  ·refine⟨_,rfl,_,rfl,by show 1<=sizeLine;decide,fun p1 hp1=>?_⟩;have sb:=(Same.refl H').new (o:=.tup [.str (mk t)]) hp1;have lz6:=h6 hb;refine⟨z.1,p1,_,_,rfl,rfl,sb _ _ hz6,q0b,by rw[q1g];exact small (by show _+1<=_;lia),fun p2 HC sC hp2 _=>?_⟩;have hp2':HC p2=some (.tup (vP (z.2++[t]))):=by rw[hp2];show _=some (HO.tup ((z.2++[t]).map _));rw[Aj];rfl
   have sx:=sb.trans sC;exact⟨_,rfl,by show 2<=sizeLine;decide,don (fdx.same sx) hp2' (sx _ _ hz6) (okP.snoc (.inr okz) lz6 okt) okz⟩
  refine⟨_,rfl,.inl ⟨rfl,_,rfl,ite2 (fun e=>?_) (fun e=>?_)⟩⟩
  ·refine⟨_,rfl,_,rfl,_,rfl,by show 2<=sizeLine;decide,fun p1 hp1=>?_⟩;have sb:=(Same.refl H').new (o:=.tup [.str (mk t),.str (mk t)]) hp1;have hq:upd H' p1 (.tup [.str (mk t),.str (mk t)]) p1=some (.tup (vP [t,t])):=q0b;refine⟨by show 2<=sizeLine;decide,don (fdx.same sb) (sb _ _ hz6) hq okz ⟨by simp,by show 2<=6;decide,fun n hn=>?_⟩⟩;simp only[Be,Iv,or_false,or_self] at hn;rw[hn];exact okt
  refine⟨fun bb H2=>H2=H'/\(bb=true->y.2.length<6),?_,?_⟩;rotate_left
  ·refine⟨_,rfl,.inl ⟨rfl,_,rfl,iteB (fun e=>?_) (fun e=>⟨rfl,(fun z=>by cases z)⟩)⟩⟩;refine⟨_,rfl,_,_,rfl,.inr ⟨_,SqT.of hy6,rfl⟩,_,_,rfl,rfl,_,rfl,rfl,fun e6=>?_⟩;have e7:=of_decide_eq_true e6;rw[q1g] at e7;have e8:(y.2.length:Int)<6:=e7;lia
  rintro bb H2 ⟨rfl,h6'⟩;refine ite2 (fun hb=>?_) (fun hb=>?_)
  ·refine⟨_,rfl,_,rfl,_,rfl,by show 1<=sizeLine;decide,fun p1 hp1=>?_⟩;have sb:=(Same.refl H2).new (o:=.tup [.str (mk t)]) hp1;have ly6:=h6' hb;refine⟨y.1,p1,_,_,rfl,rfl,sb _ _ hy6,q0b,by rw[q1g];exact small (by show _+1<=_;lia),fun p2 HC sC hp2 _=>?_⟩;have hp2':HC p2=some (.tup (vP (y.2++[t]))):=by rw[hp2];show _=some (HO.tup ((y.2++[t]).map _));rw[Aj];rfl
   have sx:=sb.trans sC;exact⟨by show 2<=sizeLine;decide,don (fdx.same sx) (sx _ _ hz6) hp2' okz (okP.snoc (.inr oky) ly6 okt)⟩
  exact⟨_,rfl,_,rfl,by show 2<=sizeLine;decide,don fdx hz6 hz6 okz okz⟩
def BadV(rows:List Rw)(ms:List Mv)(v:V):Prop:=(v=.non/\GoodW rows ms)\/∃n:Nat,v=.int (n:Int)/\Fst rows ms n
def spFirstBad:Sp:=fun vs H Q _=>∃L M bl zs ws,vs=[.ref L,.ref M]/\RL H L zs/\Hl bl (zs.map (·.2))/\zs.length<=30/\ML H M ws/\okMs (ws.map (·.2))/\ws.length<=60/\∀v H',Same H H'->BadV (zs.map (·.2)) (ws.map (·.2)) v->Q v H'
abbrev rT(ks:List Pth):List HRow:=ks.map fun q=>(q,.bl true)
abbrev q3e:Stmt:=top 35
theorem sc_first_bad:FnScope ["_law_rows_here", "_law_wishes", "_law_marks", "_law_wished", "_law_at", "_law_path", "_law_place", "_law_drawer"] ["_law_rows_here", "_law_wishes"] (defScope q3e):=by trivial
theorem q9q(D:Df K mg "_law_first_bad" q3e ["_law_rows_here", "_law_wishes"])(T:Txt mg):Cal P w K mg base "_law_first_bad" 1 ["_law_rows_here", "_law_wishes"] spFirstBad:=by
 refine D.cal sc_first_bad (fun vs H Q E h=>?_) (fun f cdv A outer s H vs Q E hr h=>?_)
 ·obtain⟨L,M,bl,zs,ws,rfl,_⟩:=h;rfl
 ·obtain⟨L,M,bl,zs,ws,rfl,rl,hl,h30,ml,okm,few,kk⟩:=h;have k:GoodW (zs.map (·.2)) (ws.map (·.2))->∀H',Same H H'->Q .non H':=fun g H' s'=>kk _ H' s' (.inl ⟨rfl,g⟩)
  have kB:∀n:Nat,Fst (zs.map (·.2)) (ws.map (·.2)) n->∀H',Same H H'->Q (.int (n:Int)) H':=fun n g H' s'=>kk _ H' s' (.inr ⟨n,rfl,g⟩);clear kk;refine⟨_,(q0e (q0h (i:=2) sc_first_bad.nd rfl (by trivial) (q2d (q3i hr) (by rfl) T.b_dict (by decide +kernel) (q0a (pv 0) q0d))) (q0e (q0h (i:=3) sc_first_bad.nd rfl (by trivial) q4v) (q0e (q2r Dv rfl (q2w rfl T.b_range (q0a (q0i (q2u K rfl) (by rfl) T.b_len Bt (q0a (pv 1) q0d)) q0d)) (q0n (i:=4) sc_first_bad.nd rfl (by trivial)) (q0e (q7y (q1a (ix_k K rfl) (pv 1) (pv 4) (fun _ _=>rfl)) (@q2t _ _ _ _ (2) _ K rfl rfl (q0p (q0n (i:=5) sc_first_bad.nd rfl (by trivial)) (q0p (q0n (i:=6) sc_first_bad.nd rfl (by trivial)) q1q)) (by rfl) (by rfl))) (q0e (q0h (i:=7) sc_first_bad.nd rfl (by trivial) (q0q (sl_k K rfl) (pv 6) q0t (q0u (q1r q0x q0g)))) (q0e (q0y (pt_j (@PW.pt _ _ _ (z6s (q1v (q8q (q1y hr) (pv 5) (pv 2))) (z6s (q1v (z4n (q1y hr) (pv 5) (pv 3))) (z3l (pt_j (@PW.pt _ _ _ (q2c (q0k (ne_k K rfl hr) (pv 7) (q0o q0d) (nomark _)) (q1p (q1v (q4z (z1h (q1y hr) (pv 2) (pv 7) q0g ⟨rfl,rfl,rfl,rfl⟩)))))))))))) (q0f (q0m (pv 4))) q0l) (q0e (q0y (pt_j (@PW.pt _ _ _ (q2c (q1v (q5z (q2h (q1y hr) (pv 2) (pv 5) (fun _ _=>rfl)))) (q1p (q0k (ne_k K rfl hr) (pv 7) (q0q (sl_k K rfl) (pv 5) q0t (q0u (q1r q0x q0g))) (nomark _)))))) (q0f (q0m (pv 4))) q0l) (q0f (q7b (q1y hr) (pv 3) (pv 5) q3o rfl))))))) (q0f (q0m z0w))))),?_⟩;refine⟨_,rfl,L,zs.map (·.1),zs.map (fun z=>rR z.2),rfl,by rw[Al];exact rl.at_,z5c rl.pr,by rw[Ac];lia,fun m hm=>?_⟩;rw[q5t hl];have s1:=(Same.refl H).new (o:=dR ((zs.map (·.2)).map rR)) hm;have hm1:upd H m (dR ((zs.map (·.2)).map rR)) m=some (dR ((zs.map (·.2)).map rR)):=q0b;generalize upd H m (dR ((zs.map (·.2)).map rR))=H1 at s1 hm1;generalize zs.map (·.2)=rows at hl hm1 k kB;intro W hW;have s2':=(Same.refl H1).new (o:=.dT []) hW;have s2:=s1.trans s2';have hWH:H W=none:=s1.free hW;have hmW:m≠W:=fun y=>by rw[<- y,hm1] at hW;cases hW
  refine⟨_,rfl,_,ws.length,rfl,.inl ⟨_,SqL.of (s2 _ _ ml.at_),by rw[Ac]⟩,?_⟩;refine⟨(ws.length:Int),rfl,by lia,by lia,q3u (n:=ws.length) (fun i σ' H'=>∃x4 x5 x6 x7,σ'=[some (.ref L),some (.ref M),some (.ref m),some (.ref W),x4,x5,x6,x7]/\Same H H'/\H' m=some (dR (rows.map rR))/\H' W=some (dR (rT (((ws.map (·.2)).take i).map (·.1))))/\GoodW rows ((ws.map (·.2)).take i)) ⟨none,none,none,none,rfl,s2,s2' _ _ hm1,q0b,⟨(fun _ h=>nomatch h),.nil⟩⟩ ?_ ?_⟩
  ·rintro i σ' H3 hil ⟨x4,x5,x6,x7,rfl,s3,hm3,hW3,gw⟩;obtain⟨z,hz⟩:∃z,ws[i]?=some z:=⟨ws[i],Kg hil⟩
   have hzr:(ws.map (·.2))[i]?=some z.2:=by rw[Az,hz];rfl
   have e1:(ws.map (·.2)).take (i+1)=(ws.map (·.2)).take i++[z.2]:=by rw[Cb,hzr];rfl
   obtain⟨okp,okq⟩:=okm z.2 (Aq hzr);obtain⟨v,hv1,hv2⟩:=q4p (xs:=ws.map fun z=>V.ref z.1) (i:=(0+(i:Int))) (by lia) (by rw[Ac];lia);have ei:(0+(i:Int)).toNat=i:=by lia
   rw[ei,Az,hz] at hv1;obtain rfl:V.ref z.1=v:=Bw hv1;obtain⟨A1,B1,g1,g2,g3⟩:=(ml.same s3).pr z (Aq hz);refine⟨_,rfl,_,rfl,.inl ⟨M,_,_,_,rfl,rfl,SqL.of (s3 _ _ ml.at_),hv2,z.1,_,rfl,SqT.of g1,rfl,_,_,rfl,_,_,rfl,rfl,?_⟩⟩;obtain⟨c1,c2⟩:=q1d okq.ne;obtain⟨c3,c4⟩:=q1d okp.ne;refine⟨_,rfl,_,rfl,_,rfl,.inr (.inr ⟨B1,_,rfl,SqT.of g3,c2,fun t1 ht1=>?_⟩)⟩;rw[c1];have s4':=(Same.refl H3).new (o:=.tup (vP z.2.2.dropLast)) ht1;have ht1':upd H3 t1 (.tup (vP z.2.2.dropLast)) t1=some (.tup (vP z.2.2.dropLast)):=q0b;generalize upd H3 t1 (.tup (vP z.2.2.dropLast))=H4 at s4' ht1';have s4:=s3.trans s4';have hm4:=s4' _ _ hm3;have hW4:=s4' _ _ hW3;have g24:=s4' _ _ g2;have ndk:((rT (((ws.map (·.2)).take i).map (·.1))).map (·.1)).Nodup:=by rw[Al];have:=gw.nd;rwa [show(fun q:Pth=>((q,V.bl true):HRow))=fun q=>(q,V.bl true) from rfl,show((fun x:HRow=>x.1)∘fun q:Pth=>((q,V.bl true):HRow))=id from rfl,List.map_id]
   have bad:(¬WshIn rows (((ws.map (·.2)).take i).map (·.1)) z.2)->Fst rows (ws.map (·.2)) i:=fun n=>⟨by rw[Ac];exact hil,gw,fun g=>by rw[e1,q7m] at g;exact n g.2⟩
   have ez:(0+(i:Int))=(i:Int):=Int.zero_add _;rw[ez];refine⟨fun bb H5=>Same H4 H5/\(bb=true->¬WshIn rows (((ws.map (·.2)).take i).map (·.1)) z.2)/\(bb=false->(∃kk,(z.2.1,kk)∈rows)/\z.2.1∉((ws.map (·.2)).take i).map (·.1)/\IsD rows z.2.2.dropLast),?_,?_⟩;rotate_left
   ·refine⟨_,rfl,_,rfl,m,_,rfl,q3n hm4 g24,_,rfl,?_⟩;cases hv:valV ((rows.map rR).map fun r=>(kP r.1,r.2)) (kP z.2.1) with
    |none =>
     refine iteT ⟨Same.refl _,fun _ n=>?_,(fun z=>by cases z)⟩;obtain⟨kk,hk,_⟩:=n.1.th;rw[q4b hl.paths hk] at hv;cases hv
    |some v =>
    obtain⟨mm,rfl,hp⟩:=q3c hv;refine iteF ⟨_,rfl,_,rfl,W,_,rfl,q3n (rs:=rT (((ws.map (·.2)).take i).map (·.1))) hW4 g24,_,rfl,?_⟩;by_cases hno:z.2.1∈((ws.map (·.2)).take i).map (·.1)
    ·have hvv:=q3a (rs:=rT (((ws.map (·.2)).take i).map (·.1))) (r:=(z.2.1,.bl true)) (Ah.mpr ⟨_,hno,rfl⟩) ndk;rw[hvv];exact iteT ⟨Same.refl _,fun _ n=>n.2 hno,(fun z=>by cases z)⟩
    ·have hvv:valV ((rT (((ws.map (·.2)).take i).map (·.1))).map fun r=>(kP r.1,r.2)) (kP z.2.1)=none:=q4a fun r hr y=>by
      obtain⟨x,hx,rfl⟩:=Ah.mp hr;rw[<- y] at hno;exact hno hx
     rw[hvv];refine iteF ⟨fun bb H1=>Same H4 H1/\(bb=true↔¬IsD rows z.2.2.dropLast),?_,?_⟩
     ·rintro bb H1 ⟨sx,hbb⟩;exact⟨sx,fun h n=>hbb.mp h n.1.dr,fun h=>⟨⟨mm,hp⟩,hno,Jn fun y=>by have:=hbb.mpr y;rw[h] at this;cases this⟩⟩
     refine⟨_,rfl,by show 0<=sizeLine;decide,fun e0 he0=>?_⟩;have s5:=(Same.refl H4).new (o:=.tup []) he0;refine q3z (q:=[]) (s5 _ _ ht1') q0b (q1h okq.low) (fun _ h=>nomatch h) ⟨_,rfl,?_⟩;generalize upd H4 e0 (.tup [])=H5 at s5;refine iteB (fun hne=>?_) (fun hne=>?_)
     ·have hne':z.2.2.dropLast≠[]:=by simpa using hne
      refine⟨_,rfl,m,rfl,.inr ⟨_,.inl (s5 _ _ hm4)⟩,_,rfl,?_⟩;refine⟨_,q3n (s5 _ _ hm4) (s5 _ _ ht1'),_,rfl,s5,?_⟩;cases hv2:valV ((rows.map rR).map fun r=>(kP r.1,r.2)) (kP z.2.2.dropLast) with
      |none =>
       refine⟨fun _ y=>?_,fun _=>rfl⟩;have:=q4b hl.paths (y.resolve_left hne');rw[this] at hv2;cases hv2
      |some v =>
       obtain⟨m2,rfl,hm2⟩:=q3c hv2;show(!decide (mV m2=V.non))=true↔_;cases m2 with
       |none=>exact⟨(fun z=>by cases z),fun z=>absurd (.inr hm2) z⟩
       |some i =>
        refine⟨fun _ y=>?_,fun _=>rfl⟩;have:=hl.one hm2 (y.resolve_left hne');cases this
     ·have hq:z.2.2.dropLast=[]:=by simpa using hne
      exact⟨s5,⟨(fun z=>by cases z),fun z=>absurd (.inl hq) z⟩⟩
   rintro bb H5 ⟨s5,b1,b2⟩;refine iteB (fun hb=>?_) (fun hb=>?_)
   ·exact⟨_,rfl,kB i (bad (b1 hb)) _ (s4.trans s5)⟩
   obtain⟨⟨mm,hp⟩,hno,hD⟩:=b2 hb;have s35:=s4.trans s5;have hv:=q4b hl.paths hp;refine⟨fun bb H6=>Same H5 H6/\(bb=true↔(z.2.1,none)∈rows/\z.2.2.dropLast≠z.2.1.dropLast),?_,?_⟩;rotate_left
   ·refine⟨_,rfl,_,rfl,m,mV mm,rfl,by rw[<- hv];exact q3n (s5 _ _ hm4) (s5 _ _ g24),_,rfl,?_⟩;refine iteB (fun e=>?_) (fun e=>⟨Same.refl _,⟨(fun z=>by cases z),fun z=>?_⟩⟩);rotate_left
    ·exact absurd (mV_none.mpr (hl.one hp z.1)) (of_decide_eq_false e)
    have em:mm=none:=mV_none.mp (of_decide_eq_true e);refine⟨_,rfl,_,rfl,_,rfl,_,rfl,.inr (.inr ⟨A1,_,rfl,SqT.of (s5 _ _ g24),c4,fun t3 ht3=>?_⟩)⟩;rw[c3];have s6:=(Same.refl H5).new (o:=.tup (vP z.2.1.dropLast)) ht3;refine q3z (p:=z.2.2.dropLast) (q:=z.2.1.dropLast) (s6 _ _ (s5 _ _ ht1')) q0b (q1h okq.low) (q1h okp.low) ⟨_,rfl,s6,?_⟩;by_cases y:z.2.2.dropLast=z.2.1.dropLast
    ·rw[decide_eq_true y];exact⟨(fun y=>by cases y),fun x=>absurd y x.2⟩
    ·rw[decide_eq_false y];exact⟨fun _=>⟨by rw[<- em];exact hp,y⟩,fun _=>rfl⟩
   rintro bb H6 ⟨s6,hbb⟩;have s36:=s35.trans s6;refine iteB (fun hb=>?_) (fun hb=>?_)
   ·refine⟨_,rfl,kB i (bad fun n=>?_) _ s36⟩;obtain⟨f1,f2⟩:=hbb.mp hb;obtain⟨kk,hk,h2⟩:=n.1.th;rcases h2 with h2|h2
    ·exact f2 h2
    ·exact h2 (hl.one hk f1)
   have hw:WshIn rows (((ws.map (·.2)).take i).map (·.1)) z.2:=⟨⟨⟨mm,hp,?_⟩,okq,hD⟩,hno⟩
   rotate_left
   ·by_cases em:mm=none
    ·refine .inl (Jn fun y=>?_);have:=hbb.mpr ⟨by rw[<- em];exact hp,y⟩;rw[hb] at this;cases this
    ·exact .inr em
   have hW6:=s6 _ _ (s5 _ _ hW4);refine⟨_,rfl,_,rfl,W,_,rfl,DPut.t (k:=kP z.2.1) hW6 (by rw[q4i];exact s6 _ _ (s5 _ _ g24)) (by rw[Ac,Ac,Ac,Bp,Ac];exact small' (by lia)),?_⟩;rw[q3j (p:=z.2.1) (v:=.bl true) fun r hr y=>by
    obtain⟨x,hx,rfl⟩:=Ah.mp hr;rw[<- y] at hno;exact hno hx]
   refine⟨_,_,_,_,rfl,fun x u e=>by rw[q0c (fun y=>by rw[y,hWH] at e;cases e)];exact s36 _ _ e,?_,?_,by rw[e1,q7m];exact⟨gw,hw⟩⟩
   ·rw[q0c hmW];exact s6 _ _ (s5 _ _ hm4)
   ·have em2:rT (((ws.map (·.2)).take (i+1)).map (·.1))=rT (((ws.map (·.2)).take i).map (·.1))++[(z.2.1,.bl true)]:=by rw[e1,Aj];exact Aj
    rw[q0b,em2]
  ·rintro σ' H3 ⟨x4,x5,x6,x7,rfl,s3,hm3,hW3,gw⟩;rw[<- Ac (f:=fun z:Zm=>z.2),Cf] at gw;exact k gw _ s3
def dTd:PyData:=.tuple [.str (Ag "told"),.bool true]
def dNw(n:Nat):PyData:=.tuple [.str (Ag "no wish"),.int (n:Int)]
def dMe(t:Tri):PyData:=.tuple [.str (Ag "meets"),.tuple (dP t.1),.tuple (dP t.2.1),.tuple (dP t.2.2)]
def Ans(bl:Bool)(rows:List Rw)(ms:List Mv)(way:Int)(d:PyData):Prop :=
 (∃n,Fst rows ms n/\d=dNw n)\/(GoodW rows ms/\(way=2\/Apart bl rows (plc ms))/\d=dTd)\/(way≠2/\∃t,Mt1 bl rows ms t/\d=dMe t)
def DueAt(H:Hp)(T:Addr)(d:PyData):Prop :=
 (H T=some (.tup [.str (Ag "told"),.bl true])/\d=dTd)\/(∃n:Nat,H T=some (.tup [.str (Ag "no wish"),.int (n:Int)])/\d=dNw n) \/
 ∃t A B C,H T=some (.tup [.str (Ag "meets"),.ref A,.ref B,.ref C])/\H A=some (.tup (vP t.1))/\H B=some (.tup (vP t.2.1))/\H C=some (.tup (vP t.2.2))/\d=dMe t
theorem DueAt.keep{H H':Hp}{T:Addr}{d:PyData}(h:DueAt H T d)(k:∀T xs,H T=some (.tup xs)->H' T=some (.tup xs)):DueAt H' T d:=by
 rcases h with⟨h,e⟩|⟨n,h,e⟩|⟨t,A,B,C,h,h1,h2,h3,e⟩
 ·exact .inl ⟨k _ _ h,e⟩
 ·exact .inr (.inl ⟨n,k _ _ h,e⟩)
 ·exact .inr (.inr ⟨t,A,B,C,k _ _ h,k _ _ h1,k _ _ h2,k _ _ h3,e⟩)
theorem DueAt.same{H H':Hp}{T:Addr}{d:PyData}(h:DueAt H T d)(s:Same H H'):DueAt H' T d:=h.keep fun _ _ e=>s _ _ e
theorem DueAt.dt{H:Hp}{T:Addr}{d:PyData}(h:DueAt H T d):Dt K H (.ref T) d:=by
 rcases h with⟨h,rfl⟩|⟨n,h,rfl⟩|⟨t,A,B,C,h,h1,h2,h3,rfl⟩
 ·exact .tup (SqT.of h) (.cons (.str _) (.cons (.bl _) .nil))
 ·exact .tup (SqT.of h) (.cons (.str _) (.cons (.int _) .nil))
 ·exact .tup (SqT.of h) (.cons (.str _) (.cons (q1k h1) (.cons (q1k h2) (.cons (q1k h3) .nil))))
theorem q9r{c:Addr}{bm:List Value}:subE c bm c=true:=by unfold subE;rw[Kd];simp
theorem x1g{c d e:Addr}(hc:Ke K (.ref c) [.ref e]=some false)(hd:Gs K (.ref c) (.ref d)=some true):subE c (.ref d::bmV) e=false:=by
 have n1:c≠e:=fun z=>by subst z;simp[Ke,Gs] at hc
 have n2:d≠e:=fun z=>by subst z;simp[Ke,hd] at hc
 unfold subE;simp[bmV,Bo n1,Bo n2]
structure CallsTo (P:Program) (w:World) (K:Ai) (mg:Str->Option Value) (base:Heap) (c Cn Cm Dn:Addr) (bm:List Value) (ds:List Addr):Prop where
 ask_wishes:CalX P w K mg base "ask_wishes" 8 ["hall", "wishes"] (spAsk c Cn Cm)
 goal:CalX P w K mg base "goal" 9 ["hall", "wishes"] (spGoal c Cn Cm)
 meetings:CalX P w K mg base "meetings" 7 ["hall", "wishes"] (spMeet c Cn)
 g_HallError:mg "HallError" = some (.ref Dn)
 g_NoWish:mg "NoWish" = some (.ref Cn)
 g_Meets:mg "Meets" = some (.ref Cm)
 e_NoWish:ECls K Cn bm
 e_Meets:ECls K Cm bm
 sub:subE Cm bm Cn=false
 isiN:EIsi K Cn
 isiM:EIsi K Cm
 getA:EGet K Cn "at"
 get1:EGet K Cm "one"
 get2:EGet K Cm "other"
 get3:EGet K Cm "place"
 oneN:Gs K (.ref Cn) (.ref Dn)=some true
 oneM:Gs K (.ref Cm) (.ref Dn)=some true
 valM:Gs K (.ref Cm) (.type "ValueError")=some true
 anyN:Ke K (.ref Cn) ((Cm::ds).map Value.ref)=some false
 anyM:Ke K (.ref Cm) (ds.map Value.ref)=some false
 ex:∃c_NoThing c_NoDrawer c_Taken,ds=[c_NoThing,c_NoDrawer,c_Taken]/\mg "NoThing" = some (.ref c_NoThing)/\mg "NoDrawer" = some (.ref c_NoDrawer)/\mg "Taken" = some (.ref c_Taken)
theorem RfM.err{H:Hp}{ea C:Addr}{t:Tri}(r:RfM H ea C t):Err H ea C:=let ⟨d,_,_,_,h1,h2,_⟩:=r.ex;⟨_,.inl h1,.inr ⟨d,_,rfl,h2⟩⟩
def spToldOf(c:Addr):Sp:=fun vs H Q _=>∃h d L bl rows zs way,vs=[.ref h,.ref L,.int way]/\HallAt c H h d bl rows/\Hl bl rows/\rows.length<=30/\ML H L zs/\okMs (zs.map (·.2))/\zs.length<=60/\(way=0\/way=1\/way=2) /\
 ∀T x H',Same H H'->Ans bl rows (zs.map (·.2)) way x->DueAt H' T x->Q (.ref T) H'
abbrev q4n:Stmt:=top 36
theorem sc_told_of:FnScope ["_law_hall", "_law_wishes", "_law_way", "_law_told", "_law_lone", "e"] ["_law_hall", "_law_wishes", "_law_way"] (defScope q4n):=by trivial
theorem z3f{c Cn Cm Dn:Addr}{bm:List Value}{ds:List Addr}(D:Df K mg "_law_told_of" q4n ["_law_hall", "_law_wishes", "_law_way"])(T:Txt mg)(C:CallsTo P w K mg base c Cn Cm Dn bm ds):Cal P w K mg base "_law_told_of" 10 ["_law_hall", "_law_wishes", "_law_way"] (spToldOf c):=by
 refine D.cal sc_told_of (fun vs H Q E h=>?_) (fun f cdv A outer s H vs Q E hr h=>?_)
 ·obtain⟨h,d,L,bl,rows,zs,way,rfl,_⟩:=h;rfl
 ·obtain⟨h,d,L,bl,rows,zs,way,rfl,hh,hl,h30,ml,okm,few,hw,k⟩:=h;obtain⟨c_NoThing,c_NoDrawer,c_Taken,rfl,g_NoThing,g_NoDrawer,g_Taken⟩:=C.ex;have g_HallError:=C.g_HallError;have g_NoWish:=C.g_NoWish;have g_Meets:=C.g_Meets;have e_NoWish:=C.e_NoWish;have e_Meets:=C.e_Meets;revert g_NoWish g_Meets g_HallError e_NoWish e_Meets;generalize hDn:Dn=c_HallError;generalize hCm:Cm=c_Meets;intro g_HallError g_NoWish g_Meets e_NoWish e_Meets;refine⟨_,(q0e (q0h (i:=3) sc_told_of.nd rfl (by trivial) (q0o (q0a q1f q0d))) (q0e (q0h (i:=4) sc_told_of.nd rfl (by trivial) q3o) (q0e (x0r rfl rfl (fun _ _=>(q1z (q0y (q0k (eq_k K rfl hr) (pv 2) q0g (nomark _)) (q0f (q0h (i:=3) sc_told_of.nd rfl (by trivial) (q0o (q0a q1f (q0a (z3k (pc_isT (q9d C.ask_wishes hr AccX.of (q0a (pv 0) (q0a (pv 1) q0d))))) q0d))))) (q0f (q0y (q0k (eq_k K rfl hr) (pv 2) q0g (nomark _)) (q0f (q0h (i:=3) sc_told_of.nd rfl (by trivial) (q0o (q0a q1f (q0a (q0i (z9w K rfl) (by rfl) T.b_isinstance (by decide +kernel) (q0a (q9d C.goal hr AccX.of (q0a (pv 0) (q0a (pv 1) q0d))) (q0a (q6t (by rfl) T.b_list (by decide +kernel) (show RelV (.ty "list") _ from rfl)) q0d))) q0d))))) (q0f (q0h (i:=3) sc_told_of.nd rfl (by trivial) (q0o (q0a q1f (q0a (q0i (z9w K rfl) (by rfl) T.b_isinstance (by decide +kernel) (q0a (q9d C.meetings hr AccX.of (q0a (pv 0) (q0a (pv 1) q0d))) (q0a (q6t (by rfl) T.b_list (by decide +kernel) (show RelV (.ty "list") _ from rfl)) q0d))) q0d)))))))) (q0f (q0h (i:=4) sc_told_of.nd rfl (by trivial) q3o))))
    (ph_as (i:=5) K rfl sc_told_of.nd rfl rfl rfl g_NoWish e_NoWish (fun _=>(q0e (q0h (i:=3) sc_told_of.nd rfl (by trivial) (q0o (q0a q1f (q0a (z1n K rfl (pv 5)) q0d)))) (q0f (q0h (i:=4) sc_told_of.nd rfl (by trivial) (pe_j (z0x (q0i (q9f K rfl) (by rfl) T.b_isinstance (by decide +kernel) (q0a (pv 5) (q0a (q2f (v:=.ref c_HallError) (by rfl) g_HallError rfl) q0d))) (q7x (z3m (q0i (q9f K rfl) (by rfl) T.b_isinstance (by decide +kernel) (q0a (pv 5) (q0a (q0o (q0a (q2f (v:=.ref c_Meets) (by rfl) g_Meets rfl) (q0a (q2f (v:=.ref c_NoThing) (by rfl) g_NoThing rfl) (q0a (q2f (v:=.ref c_NoDrawer) (by rfl) g_NoDrawer rfl) (q0a (q2f (v:=.ref c_Taken) (by rfl) g_Taken rfl) q0d))))) q0d))))))))))) (ph_as (i:=5) K rfl sc_told_of.nd rfl rfl rfl g_Meets e_Meets (fun _=>(q0e (q0h (i:=3) sc_told_of.nd rfl (by trivial) (q0o (q0a q1f (q0a (z1n K rfl (pv 5)) (q0a (z1n K rfl (pv 5)) (q0a (z1n K rfl (pv 5)) q0d)))))) (q0f (q0h (i:=4) sc_told_of.nd rfl (by trivial) (pe_j (z0x (q0i (q9f K rfl) (by rfl) T.b_isinstance (by decide +kernel) (q0a (pv 5) (q0a (q6t (by rfl) T.b_ValueError (by decide +kernel) (show RelV (.ty "ValueError") _ from rfl)) q0d))) (z0x (q0i (q9f K rfl) (by rfl) T.b_isinstance (by decide +kernel) (q0a (pv 5) (q0a (q2f (v:=.ref c_HallError) (by rfl) g_HallError rfl) q0d))) (q7x (z3m (q0i (q9f K rfl) (by rfl) T.b_isinstance (by decide +kernel) (q0a (pv 5) (q0a (q0o (q0a (q2f (v:=.ref c_NoThing) (by rfl) g_NoThing rfl) (q0a (q2f (v:=.ref c_NoDrawer) (by rfl) g_NoDrawer rfl) (q0a (q2f (v:=.ref c_Taken) (by rfl) g_Taken rfl) q0d)))) q0d)))))))))))) ph_nil))) (q0f (q0m (pe_j (z0y (@q8l _ _ _ K rfl (pv 4) (fun _=>rfl)) (pv 3) (q0o (q0a q1f q0d))))))))),?_⟩
  subst hDn;subst hCm;refine⟨by show 1<=sizeLine;decide,fun T0 hT0=>?_⟩;have s0:=(Same.refl H).new (o:=.tup [.str (Ag "other")]) hT0;generalize upd H T0 (.tup [.str (Ag "other")])=H0 at s0;have hh0:=hh.same s0;have ml0:=ml.same s0;generalize hms:zs.map (·.2)=ms at okm k;refine⟨fun ea σ' H'=>σ'=[some (.ref h),some (.ref L),some (.int way),some (.ref T0),some (.bl false),none]/\Same H0 H'/\((∃n:Nat,Fst rows ms n/\Rfd H' ea Cn "at" (.int (n:Int)))\/(way≠2/\∃t,Mt1 bl rows ms t/\RfM H' ea Cm t)),?_,?_⟩
  ·rintro ea σ' H' ⟨rfl,sm,⟨n,hn,rf⟩|⟨hw2,t,ht,rf⟩⟩
   ·obtain⟨de,q1,q2⟩:=rf.ex;refine⟨Cn,_,some de,q1,C.e_NoWish,?_⟩;rw[q9r];refine iteT ⟨_,rfl,ea,Cn,de,_,_,rfl,.inl q1,q2,C.getA,rfl,by show 2<=sizeLine;decide,fun T1 hT1=>?_⟩;have s1:=(Same.refl H').new (o:=.tup [.str (Ag "no wish"),.int (n:Int)]) hT1;have hT1':upd H' T1 (.tup [.str (Ag "no wish"),.int (n:Int)]) T1=some (.tup [.str (Ag "no wish"),.int (n:Int)]):=q0b;generalize upd H' T1 (.tup [.str (Ag "no wish"),.int (n:Int)])=H1 at s1 hT1';refine⟨fun v H2=>v=.bl true/\Same H1 H2,?_,?_⟩;rotate_left
    ·refine⟨_,rfl,ea,Cn,true,⟨_,rfl,.inl ⟨Dn,rfl,C.oneN⟩⟩,rf.err.same s1,C.isiN,true,rfl,iteT ?_⟩;refine⟨_,rfl,by show 4<=sizeLine;decide,fun U1 hU1=>?_⟩;have s2:=(Same.refl H1).new (o:=.tup [.ref Cm,.ref c_NoThing,.ref c_NoDrawer,.ref c_Taken]) hU1;exact⟨ea,Cn,false,⟨_,rfl,.inr (.inr ⟨U1,[Cm,c_NoThing,c_NoDrawer,c_Taken],rfl,SqT.of q0b,C.anyN⟩)⟩,(rf.err.same s1).same s2,C.isiN,false,rfl,rfl,s2⟩
    rintro v H2 ⟨rfl,s2⟩;refine⟨fun v H3=>v=.ref T1/\H3=H2,?_,⟨_,rfl,true,rfl,iteT ⟨_,rfl,rfl,rfl⟩⟩⟩;rintro v H3 ⟨rfl,rfl⟩;exact k T1 _ _ ((s0.trans sm).trans (s1.trans s2)) (.inl ⟨n,hn,rfl⟩) (.inr (.inl ⟨n,s2 _ _ hT1',rfl⟩))
   ·obtain⟨de,A1,B1,C1,q1,q2,q3,q4,q5⟩:=rf.ex;refine⟨Cm,_,some de,q1,C.e_Meets,?_⟩;rw[C.sub];refine iteF ⟨Cm,_,some de,q1,C.e_Meets,?_⟩;rw[q9r];refine iteT ⟨_,rfl,ea,Cm,de,_,_,rfl,.inl q1,q2,C.get1,rfl,_,rfl,ea,Cm,de,_,_,rfl,.inl q1,q2,C.get2,rfl,_,rfl,ea,Cm,de,_,_,rfl,.inl q1,q2,C.get3,rfl,by show 4<=sizeLine;decide,fun T1 hT1=>?_⟩;have s1:=(Same.refl H').new (o:=.tup [.str (Ag "meets"),.ref A1,.ref B1,.ref C1]) hT1;have hT1':upd H' T1 (.tup [.str (Ag "meets"),.ref A1,.ref B1,.ref C1]) T1=some (.tup [.str (Ag "meets"),.ref A1,.ref B1,.ref C1]):=q0b;generalize upd H' T1 (.tup [.str (Ag "meets"),.ref A1,.ref B1,.ref C1])=H1 at s1 hT1';refine⟨fun v H2=>v=.bl true/\Same H1 H2,?_,?_⟩;rotate_left
    ·refine⟨_,rfl,ea,Cm,true,⟨_,rfl,.inr (.inl ⟨_,rfl,C.valM⟩)⟩,rf.err.same s1,C.isiM,true,rfl,iteT ?_⟩;refine⟨_,rfl,ea,Cm,true,⟨_,rfl,.inl ⟨Dn,rfl,C.oneM⟩⟩,rf.err.same s1,C.isiM,true,rfl,iteT ?_⟩;refine⟨_,rfl,by show 3<=sizeLine;decide,fun U1 hU1=>?_⟩;have s2:=(Same.refl H1).new (o:=.tup [.ref c_NoThing,.ref c_NoDrawer,.ref c_Taken]) hU1;exact⟨ea,Cm,false,⟨_,rfl,.inr (.inr ⟨U1,[c_NoThing,c_NoDrawer,c_Taken],rfl,SqT.of q0b,C.anyM⟩)⟩,(rf.err.same s1).same s2,C.isiM,false,rfl,rfl,s2⟩
    rintro v H2 ⟨rfl,s2⟩;refine⟨fun v H3=>v=.ref T1/\H3=H2,?_,⟨_,rfl,true,rfl,iteT ⟨_,rfl,rfl,rfl⟩⟩⟩;rintro v H3 ⟨rfl,rfl⟩;have s12:=s1.trans s2;exact k T1 _ _ ((s0.trans sm).trans s12) (.inr (.inr ⟨hw2,t,ht,rfl⟩)) (.inr (.inr ⟨t,A1,B1,C1,s2 _ _ hT1',s12 _ _ q3,s12 _ _ q4,s12 _ _ q5,rfl⟩))
  ·have rW:∀{Hx:Hp},Hx=H0->RW Hx (fun e _ H'=>∀ea,e=.ref ea->[some (V.ref h),some (.ref L),some (.int way),some (.ref T0),some (.bl false),none]=[some (V.ref h),some (.ref L),some (.int way),some (.ref T0),some (.bl false),none]/\Same H0 H'/\((∃n:Nat,Fst rows ms n/\Rfd H' ea Cn "at" (.int (n:Int)))\/(way≠2/\∃t,Mt1 bl rows ms t/\RfM H' ea Cm t))) Cn rows ms:=fun{Hx} e n f ea H' s' _ r ea' ez=>by
    cases ez;subst e;exact⟨rfl,s',.inl ⟨n,f,r⟩⟩
   have rM:∀{Hx:Hp},Hx=H0->way≠2->RM Hx (fun e _ H'=>∀ea,e=.ref ea->[some (V.ref h),some (.ref L),some (.int way),some (.ref T0),some (.bl false),none]=[some (V.ref h),some (.ref L),some (.int way),some (.ref T0),some (.bl false),none]/\Same H0 H'/\((∃n:Nat,Fst rows ms n/\Rfd H' ea Cn "at" (.int (n:Int)))\/(way≠2/\∃t,Mt1 bl rows ms t/\RfM H' ea Cm t))) Cm bl rows ms:=fun{Hx} e hw t f ea H' s' _ r ea' ez=>by
    cases ez;subst e;exact⟨rfl,s',.inr ⟨hw,t,f,r⟩⟩
   refine⟨fun σ' H'=>∃T1,σ'=[some (.ref h),some (.ref L),some (.int way),some (.ref T1),some (.bl false),none]/\Same H0 H'/\H' T1=some (.tup [.str (Ag "told"),.bl true])/\GoodW rows ms/\(way=2\/Apart bl rows (plc ms)),?_,?_⟩
   ·rintro σ' H' ⟨T1,rfl,s1,hT1,gw,hor⟩;refine⟨fun v H3=>v=.ref T1/\H3=H',?_,⟨_,rfl,true,rfl,iteT ⟨_,rfl,rfl,rfl⟩⟩⟩;rintro v H3 ⟨rfl,rfl⟩;exact k T1 _ _ (s0.trans s1) (.inr (.inl ⟨gw,hor,rfl⟩)) (.inl ⟨hT1,rfl⟩)
   ·refine⟨_,rfl,.inl ⟨rfl,_,rfl,ite2 (fun e=>?_) (fun e=>?_)⟩⟩
    ·have ew:way≠2:=fun z=>by subst z;cases e
     refine⟨_,rfl,_,rfl,h,d,L,bl,rows,zs,rfl,hh0,hl,h30,ml0,by rw[hms];exact okm,few,by rw[hms];exact rW rfl,by rw[hms];exact rM rfl ew,fun gw ap H1 s1=>⟨true,rfl,by show 2<=sizeLine;decide,fun T1 hT1=>?_⟩⟩;rw[hms] at gw ap;exact⟨T1,rfl,s1.new hT1,q0b,gw,.inr ap⟩
    ·refine⟨_,rfl,.inl ⟨rfl,_,rfl,ite2 (fun e=>?_) (fun e'=>?_)⟩⟩
     ·have ew:way≠2:=fun z=>by subst z;cases e
      refine⟨_,rfl,_,rfl,h,d,L,bl,rows,zs,rfl,hh0,hl,h30,ml0,by rw[hms];exact okm,few,by rw[hms];exact rW rfl,by rw[hms];exact rM rfl ew,fun gw ap G ys H1 hG s1 hG1=>⟨_,_,_,true,rfl,TyOf.lst hG1,rfl,by show 2<=sizeLine;decide,fun T1 hT1=>?_⟩⟩;rw[hms] at gw ap;exact⟨T1,rfl,s1.new hT1,q0b,gw,.inr ap⟩
     ·have ew:way=2:=by
       rcases hw with rfl|rfl|rfl
       ·exact absurd rfl e
       ·exact absurd rfl e'
       ·rfl
      refine⟨_,rfl,_,rfl,h,d,L,bl,rows,zs,rfl,hh0,hl,h30,ml0,by rw[hms];exact okm,few,by rw[hms];exact rW rfl,fun gw G ts ps H1 hG s1 tl _ _ _=>⟨_,_,_,true,rfl,TyOf.lst tl.at_,rfl,by show 2<=sizeLine;decide,fun T1 hT1=>?_⟩⟩;rw[hms] at gw;exact⟨T1,rfl,s1.new hT1,q0b,gw,.inl ew⟩
theorem lay_Td:dTd.canLay0=true:=by decide +kernel
theorem lay_Nw(n:Nat):(dNw n).canLay0=true:=by
 unfold dNw;simp only[Dg,Bs];decide +kernel
theorem lay_Me{t:Tri}(h:Low3 t):(dMe t).canLay0=true:=by
 unfold dMe;have e:(PyData.str (Ag "meets")).canLay0=true:=by decide +kernel
 simp only[Dg] at e;simp only[Dg,Bs,e,q3m h.1,q3m h.2.1,q3m h.2.2,Kz]
theorem dep_Me(t:Tri):(dMe t).depth<=50:=by
 have h1:=q1t t.1;have h2:=q1t t.2.1;have h3:=q1t t.2.2;unfold dMe;simp only[Et,Cd];lia
theorem Mt1.low{bl:Bool}{rows:List Rw}{ms:List Mv}{t:Tri}(h:Mt1 bl rows ms t)(hl:Hl bl rows):Low3 t:=by
 obtain⟨gw,ps,ts,pm,_,e⟩:=h;obtain⟨m1,m2,m3⟩:=q4x (show t∈accT bl (plc ms) ps ps.length by rw[e];exact Au);have okr:∀p∈rows.map (·.1),okP p:=fun p hp=>by
  obtain⟨r,hr,rfl⟩:=Ah.mp hp;exact hl.ok r hr
 have u1:=pm.mem_iff.mp m1;exact⟨(okr _ u1).low,(okr _ (pm.mem_iff.mp m2)).low,by rw[m3];exact(q3d hl gw u1).low⟩
theorem Mt1.one{bl:Bool}{rows:List Rw}{ms:List Mv}{t u:Tri}(h:Mt1 bl rows ms t)(g:Mt1 bl rows ms u)(hl:Hl bl rows):t=u:=by
 obtain⟨_,ps,ts,pm,pw,e⟩:=h;obtain⟨_,qs,us,qm,qw,e'⟩:=g;have:=q5n (pm.trans qm.symm) (pm.nodup_iff.mpr hl.paths) pw qw;subst this;rw[e] at e';exact(List.cons.inj e').1
theorem Mt1.apart{bl:Bool}{rows:List Rw}{ms:List Mv}{t:Tri}(h:Mt1 bl rows ms t)(a:Apart bl rows (plc ms)):False:=by
 obtain⟨_,ps,ts,pm,pw,e⟩:=h;have nd:(ps.map fun p=>fold bl (plc ms p)).Nodup:=(pm.map _).nodup_iff.mpr a;obtain⟨i,hi,h2⟩:=Oi.mp (show t∈accT bl (plc ms) ps ps.length by rw[e];exact Au);unfold rowT at h2;cases ei:ps[i]? with
 |none=>rw[ei] at h2;cases h2
 |some p =>
  rw[ei] at h2;obtain⟨q,hq,rfl⟩:=Ah.mp h2;obtain⟨h1,h3⟩:=Ji.mp hq;obtain⟨j,hj⟩:=Lk.mp h1;rw[So] at hj;have a1:(ps.map fun p=>fold bl (plc ms p))[i]?=some (fold bl (plc ms p)):=by rw[Az,ei];rfl
  have a2:(ps.map fun p=>fold bl (plc ms p))[i+1+j]?=some (fold bl (plc ms q)):=by rw[Az,hj];rfl
  rw[<- of_decide_eq_true h3] at a2;have:=(List.getElem?_inj (Bg.mp a1).1 nd).mp (a1.trans a2.symm);lia
theorem Ans.one{bl:Bool}{rows:List Rw}{ms:List Mv}{way:Int}{d e:PyData}(h:Ans bl rows ms way d)(g:Ans bl rows ms way e)(hl:Hl bl rows):d=e:=by
 rcases h with⟨n,f,rfl⟩|⟨gw,ho,rfl⟩|⟨hw,t,mt,rfl⟩
 ·rcases g with⟨m,f',rfl⟩|⟨gw,_,rfl⟩|⟨_,t,mt,rfl⟩
  ·rw[f.one f']
  ·exact(f.not gw).elim
  ·exact(f.not mt.1).elim
 ·rcases g with⟨m,f',rfl⟩|⟨_,_,rfl⟩|⟨hw,t,mt,rfl⟩
  ·exact(f'.not gw).elim
  ·rfl
  ·exact(mt.apart (ho.resolve_left hw)).elim
 ·rcases g with⟨m,f',rfl⟩|⟨_,ho,rfl⟩|⟨_,u,mu,rfl⟩
  ·exact(f'.not mt.1).elim
  ·exact(mt.apart (ho.resolve_left hw)).elim
  ·rw[mt.one mu hl]
theorem Ans.lay{bl:Bool}{rows:List Rw}{ms:List Mv}{way:Int}{d:PyData}(h:Ans bl rows ms way d)(hl:Hl bl rows):d.canLay0=true/\d.depth<=100:=by
 rcases h with⟨n,f,rfl⟩|⟨gw,ho,rfl⟩|⟨hw,t,mt,rfl⟩
 ·exact⟨lay_Nw n,by unfold dNw;simp only[Et,Cd];lia⟩
 ·exact⟨lay_Td,by decide +kernel⟩
 ·exact⟨lay_Me (mt.low hl),Bi (dep_Me t) (by decide)⟩
theorem z1z{bl:Bool}{rows:List Rw}{ms:List Mv}{way:Int}{H:Hp}{A B:Addr}{d e:PyData}{Q:VK}(hl:Hl bl rows)(ha:DueAt H A d)(hb:DueAt H B e)(h:Ans bl rows ms way d)(g:Ans bl rows ms way e)(k:Q (.bl false) H):rNeU K (.ref A) (.ref B) H Q:=by
 have:=h.one g hl;subst this;exact ne_dt ha.dt hb.dt (h.lay hl).1 (h.lay hl).2 k
theorem eq_no{K:Ai}{H:Hp}{a b:Addr}{zs:List Zr}{Q:VK}(ha:RL H a zs)(hb:H b=some (.lst []))(l:∀r∈zs.map (·.2),Low r.1)(k:Q (.bl (decide (zs=[]))) H):rEqU K (.ref a) (.ref b) H Q:=by
 refine .inr ⟨_,_,ha.dt,.lst (SqL.of hb) .nil,?_,by simp[Dg,Bs],?_,?_⟩
 ·rw[z5f];exact dL_lay l
 ·rw[z5f];have:=z8a (zs.map (·.2));lia
 ·rw[z5f,eqv_no];have:decide (zs.map (·.2)=[])=decide (zs=[]):=decide_eq_decide.mpr List.map_eq_nil_iff;rw[this];exact k
theorem z2a{α:Type}{xs:List α}{n:Nat}{y x:α}(h:x∈insN xs n y):x∈xs\/x=y:=by
 rcases Ax.mp h with h|h
 ·exact .inl (Hb h)
 ·rcases Be.mp h with h|h
  ·exact .inr h
  ·exact .inl (Ha h)
theorem z2b{α β:Type}{f:α->β}{xs:List α}{n:Nat}{y:α}:(insN xs n y).map f=insN (xs.map f) n (f y):=by
 unfold insN;rw[Aj,Gu,Ak,Jd]
theorem z8r{α:Type}{xs:List α}{n:Nat}{y:α}:(insN xs n y).length=xs.length+1:=by
 unfold insN;rw[Ap,Bk,Bp,Ce];lia
theorem Wsh.okm{bl:Bool}{rows:List Rw}{m:Mv}(h:Wsh rows m)(hl:Hl bl rows):okP m.1/\okP m.2:=let ⟨_,hk,_⟩:=h.th;⟨hl.ok _ hk,h.ok⟩
theorem hl_one{bl:Bool}:Hl bl [([[111,110,101]],none)]:=by
 refine⟨fun r hr=>?_,by simp,fun r hr=>?_⟩
 ·rw[Ao.mp hr];refine⟨by simp,by show 1<=6;decide,fun n hn=>?_⟩;rw[Ao.mp hn];exact⟨by decide,by decide,by decide +kernel⟩
 ·rw[Ao.mp hr];exact .inl rfl
theorem z6q(xs:List V)(n:Nat):cutV xs none (some (n:Int))=xs.take n:=by
 have e2:HT.sIx xs.length xs.length (some (n:Int))=min n xs.length:=by
  show(if (n:Int)<0 then((n:Int)+(xs.length:Int)).toNat else min (n:Int).toNat xs.length)=_;rw[if_neg (by lia)];lia
 have e1:HT.sIx xs.length 0 none=0:=rfl;unfold cutV;rw[e1,e2,Qh,Mb];rcases Nat.le_total n xs.length with h|h
 ·rw[Vb h]
 ·rw[Nat.min_eq_right h,Cf,Eu h]
structure CallsL (P:Program) (w:World) (K:Ai) (mg:Str->Option Value) (base:Heap) (c:Addr):Prop where
 draw:Cal P w K mg base "_law_draw" 1 ["_law_feed", "_law_many"] spDraw
 rows:Cal P w K mg base "_law_rows" 4 ["_law_feed", "_law_blind", "_law_most"] spRows
 any_wishes:Cal P w K mg base "_law_any_wishes" 4 ["_law_feed", "_law_rows_here", "_law_blind"] spAnyW
 one_more:Cal P w K mg base "_law_one_more" 4 ["_law_feed", "_law_rows_here"] spOneM
 first_bad:Cal P w K mg base "_law_first_bad" 1 ["_law_rows_here", "_law_wishes"] spFirstBad
 pairs:Cal P w K mg base "_law_pairs" 3 ["_law_rows_here", "_law_wishes", "_law_blind"] spPairs
 told_of:Cal P w K mg base "_law_told_of" 10 ["_law_hall", "_law_wishes", "_law_way"] (spToldOf c)
 k_Hall:KCal P w K mg base c "Hall" 4 ["self", "rows", "blind"] (spInit c)
def spLaw(K:Ai):Sp:=fun vs H Q _=>∃(a:Addr) (ns:List Int),vs=[.ref a]/\SqL K H a (ns.map V.int)/\ns.length<=63/\∀H',Q (.bl true) H'
abbrev q3f:Stmt:=top 37
theorem sc_law:FnScope ["_law_script", "_law_feed", "_law_k", "_law_blind", "_law_rows_here", "_law_wishes", "_law_bad", "_law_hall", "_law_due"] ["_law_script"] (defScope q3f):=by trivial
theorem z8s{c:Addr}(T:Txt mg)(C:CallsL P w K mg base c)(f:Addr)(cdv:Value)(A:Around)(outer:List Env)(s:Ae)(H:Hp)(vs:List V)(Q:VK)(E:XK)(hr:Room 10 (A.deeper (PyProof.Rows.envOfC "law" (defScope q3f) s.heap.objs.size f cdv)))(h:spLaw K vs H Q E):
  ∃t,PSs (cxOf CX0 P w K mg base ["_law_script", "_law_feed", "_law_k", "_law_blind", "_law_rows_here", "_law_wishes", "_law_bad", "_law_hall", "_law_due"] "law" (defScope q3f) f cdv A outer s H E).nox (defBody q3f) t/\t { nx:=fun _ H'=>Q .non H',rt:=Q } (L2.start ["_law_script", "_law_feed", "_law_k", "_law_blind", "_law_rows_here", "_law_wishes", "_law_bad", "_law_hall", "_law_due"] vs) H:=by
  obtain⟨sc,ns,rfl,hS,hns,k⟩:=h;refine⟨_,(q0e (q0h (i:=1) sc_law.nd rfl (by trivial) (q1n (q0a (q2d (z8z K rfl) (by rfl) T.b_list (by decide +kernel) (q0a (pv 0) q0d)) (q0a q0g (q0a q0g q0d))))) (q0e (q2r Dv rfl (q2w rfl T.b_range (q0a (q0i (z3t rfl) (by rfl) T.b_max (by decide +kernel) (q0a q0g (q0a (q0i (z3u rfl) (by rfl) T.b_min (by decide +kernel) (q0a q0g (q0a (q0i (q2u K rfl) (by rfl) T.b_len Bt (q0a (pv 0) q0d)) q0d))) q0d))) q0d)) (q0n (i:=2) sc_law.nd rfl (by trivial)) (q0e (q0h (i:=3) sc_law.nd rfl (by trivial) (q5a (eq_k K rfl hr) (pe_c C.draw hr (q0a (pv 1) (q0a q0g q0d))) q0g (nomark _))) (q0e (q0h (i:=4) sc_law.nd rfl (by trivial) (pe_c C.rows hr (q0a (pv 1) (q0a (pv 3) (q0a q0g q0d))))) (q1z (q0y (q0k (eq_k K rfl hr) (pv 4) (q1n q0d) (nomark _)) (q0f (q0h (i:=4) sc_law.nd rfl (by trivial) (q1n (q0a (q0o (q0a (q0o (q0a q1f q0d)) (q0a z0w q0d))) q0d)))) q0l) (q0e (q0h (i:=5) sc_law.nd rfl (by trivial) (pe_c C.any_wishes hr (q0a (pv 1) (q0a (pv 4) (q0a (pv 3) q0d))))) (q1z (q0y (q0k (eq_k K rfl hr) (pe_c C.draw hr (q0a (pv 1) (q0a q0g q0d))) q0g (nomark _)) (q0f (q1w (@bm_k _ _ _ _ _ _ _ _ _ _ _ _ K rfl Co PySem.F.slot_list_insert PySem.F.type_list_insert z2z (pv 5) (q0a (pe_c C.draw hr (q0a (pv 1) (q0a (q0w q1b (q0i (q2u K rfl) (by rfl) T.b_len Bt (q0a (pv 5) q0d)) q0g) q0d))) (q0a (pe_c C.one_more hr (q0a (pv 1) (q0a (pv 4) q0d))) q0d)) (by rfl) (by rfl) (by rfl) (by rfl) (by rfl)))) q0l) (q0e (q0h (i:=6) sc_law.nd rfl (by trivial) (pe_c C.first_bad hr (q0a (pv 4) (q0a (pv 5) q0d)))) (q0e (q0h (i:=7) sc_law.nd rfl (by trivial) (pe_k C.k_Hall hr (q0a (pv 4) (q0a (pv 3) q0d)))) (q0e (q0h (i:=8) sc_law.nd rfl (by trivial) (q0o (q0a q1f (q0a q3o q0d)))) (q1z (q0y (q1v (q4z (pv 6))) (q0f (q0h (i:=8) sc_law.nd rfl (by trivial) (q0o (q0a q1f (q0a (pv 6) q0d))))) q0l) (q0e (q0y (q0k (ne_k K rfl hr) (pe_c C.told_of hr (q0a (pv 7) (q0a (pv 5) (q0a q0g q0d)))) (pv 8) (nomark _)) (q0f (q0m q3o)) q0l) (q1z (q0y (pt_j (@PW.pt _ _ _ (q2c (q1v (q5z (pv 6))) (q1p (q0k (ne_k K rfl hr) (pe_c C.pairs hr (q0a (pv 4) (q0a (pv 5) (q0a (pv 3) q0d)))) (q1n q0d) (nomark _)))))) (q0f (q0h (i:=8) sc_law.nd rfl (by trivial) (q0w q2j (q0o (q0a q1f q0d)) (q1a (ix_k K rfl) (pe_c C.pairs hr (q0a (pv 4) (q0a (pv 5) (q0a (pv 3) q0d)))) q0g (fun _ _=>rfl))))) q0l) (q0e (q0y (pt_j (@PW.pt _ _ _ (z6s (q0k (ne_k K rfl hr) (pe_c C.told_of hr (q0a (pv 7) (q0a (pv 5) (q0a q0g q0d)))) (pv 8) (nomark _)) (z3l (q0k (ne_k K rfl hr) (pe_c C.told_of hr (q0a (pv 7) (q0a (pv 5) (q0a q0g q0d)))) (pv 8) (nomark _)))))) (q0f (q0m q3o)) q0l) (q0f (q0y (pt_j (@PW.pt _ _ _ (q2c (@q8l _ _ _ K rfl (q0i (z9w K rfl) (by rfl) T.b_isinstance (by decide +kernel) (q0a (q1a (ix_k K rfl) (pv 8) q0g (fun _ _=>rfl)) (q0a (q6t (by rfl) T.b_int (by decide +kernel) (show RelV (.ty "int") _ from rfl)) q0d))) (fun _=>rfl)) (q2c (q1v (q4z (pv 6))) (q1p (q0k (ne_k K rfl hr) (pe_c C.told_of hr (q0a (pv 7) (q0a (q0q (sl_k K rfl) (pv 5) q0t (q0u (pv 6))) (q0a q0g q0d)))) (q0o (q0a q1f (q0a q3o q0d))) (nomark _))))))) (q0f (q0m q3o)) q0l))))))))))))))) (q0f (q0m q3o)))),?_⟩;refine⟨_,rfl,sc,_,rfl,.inl hS,fun b hb=>⟨by show 3<=sizeLine;decide,fun a ha=>?_⟩⟩;have nba:b≠a:=q0j q0b ha;have F:FeedAt (upd (upd H b (.lst (ns.map V.int))) a (.lst [.ref b,.int 0,.int 0])) a b:=⟨⟨0,0,q0b⟩,ns,by rw[q0c nba];exact q0b⟩
  have sS:Same H (upd (upd H b (.lst (ns.map V.int))) a (.lst [.ref b,.int 0,.int 0])):=((Same.refl H).new hb).new ha;generalize hH1:upd (upd H b _) a _=H1;rw[hH1] at F sS;refine⟨_,rfl,_,_,rfl,.inl ⟨_,sS.seq hS,rfl⟩,?_⟩;refine⟨_,_,rfl,_,_,rfl,_,rfl,?_,?_,q3u (fun i σ' H'=>∃x2 x3 x4 x5 x6 x7 x8,σ'=[some (.ref sc),some (.ref a),x2,x3,x4,x5,x6,x7,x8]/\Fd a b H1 H') ⟨none,none,none,none,none,none,none,rfl,Fd.refl F⟩ ?_ ?_⟩
  ·rw[Ac];split<;>split<;>lia
  ·rw[Ac];split<;>split<;>lia
  ·rintro i σ' Hs hi ⟨x2,x3,x4,x5,x6,x7,x8,rfl,fd⟩;have Fs:=fd.feed;refine⟨_,rfl,a,b,_,rfl,Fs,by decide,by decide,fun r0 H2 r00 r01 fd2=>.inl ⟨rfl,?_⟩⟩;generalize decide (V.int r0=V.int 1)=bl;refine⟨_,rfl,_,rfl,a,b,bl,13,rfl,fd2.feed,by decide,by decide,fun L0 zs0 H3 fd3 hL0 rl0 hl0 len0=>?_⟩;have fd3':=fd2.trans fd3;refine⟨fun σ' H'=>∃L zs x5 x6 x7 x8 x2,σ'=[some (.ref sc),some (.ref a),x2,some (.bl bl),some (.ref L),x5,x6,x7,x8]/\Fd a b Hs H'/\Hs L=none/\RL H' L zs/\Hl bl (zs.map (·.2))/\zs.length<=13/\0<zs.length,?_,?_⟩;rotate_left
   ·refine⟨_,rfl,by show 0<=sizeLine;decide,fun E0 hE0=>?_⟩;have s4:=(Same.refl H3).new (o:=.lst []) hE0;refine eq_no (rl0.same s4) q0b (fun r hr=>(hl0.ok r hr).low) ⟨_,rfl,?_⟩;generalize upd H3 E0 (.lst [])=H4 at s4;have fd4:=fd3'.same s4;refine ite2 (fun e=>?_) (fun e=>?_)
    ·refine⟨by show 1<=sizeLine;decide,fun p1 hp1=>⟨by show 2<=sizeLine;decide,fun T1 hT1=>⟨by show 1<=sizeLine;decide,fun L1 hL1=>?_⟩⟩⟩;have n1:T1≠L1:=fun z=>by rw[<- z,q0b] at hL1;cases hL1
     have n2:p1≠T1:=fun z=>by rw[<- z,q0b] at hT1;cases hT1
     have n3:p1≠L1:=fun z=>by rw[<- z,q0c n2,q0b] at hL1;cases hL1
     have s5:=(((Same.refl H4).new (o:=.tup [.str (Ag "one")]) hp1).new (o:=.tup [.ref p1,.non]) hT1).new (o:=.lst [.ref T1]) hL1;have hL1s:H4 L1=none:=by
      rw[q0c (Bo n1),q0c (Bo n3)] at hL1;exact hL1
     have es:(Ag "one")=mk [111,110,101]:=by decide +kernel
     refine⟨L1,[(T1,([[111,110,101]],none))],_,_,_,_,_,rfl,fd4.same s5,fd4.free hL1s,⟨q0b,fun z hz=>?_⟩,hl_one,by show 1<=13;decide,by show 0<1;decide⟩;rw[Ao.mp hz];refine⟨p1,by rw[q0c n1];exact q0b,?_⟩;rw[q0c n3,q0c n2,q0b,es];rfl
    ·refine⟨L0,zs0,_,_,_,_,_,rfl,fd4,fd2.free hL0,rl0.same s4,hl0,len0,?_⟩;rcases Nat.eq_zero_or_pos zs0.length with z|z
     ·exact absurd (decide_eq_true (Km.mp z)) e
     ·exact z
   clear rl0 hl0 len0 hL0 fd3' fd3 fd2;rintro σ' H3 ⟨L,zs,x5,x6,x7,x8,x2,rfl,fd3,hL,rl,hl,len,pos⟩;have hLa:L≠a:=(Fs.na hL).symm;refine⟨_,rfl,_,rfl,_,rfl,a,b,L,bl,zs,rfl,fd3.feed,rl,hl,by lia,hLa,fun M ws0 H4 fd4 hM ml gw lw=>?_⟩;have rl4:=rl.fd fd3.feed fd4 hLa;have fd4':=fd3.trans fd4;have hMs:Hs M=none:=fd3.free hM;have hMa:M≠a:=(Fs.na hMs).symm;have hML:M≠L:=fun z=>by rw[z,rl.at_] at hM;cases hM
   generalize hrows:zs.map (·.2)=rows at hl gw;have hrl:rows.length=zs.length:=by rw[<- hrows,Ac]
   refine⟨fun σ' H'=>∃ws x6 x7 x8 x2,σ'=[some (.ref sc),some (.ref a),x2,some (.bl bl),some (.ref L),some (.ref M),x6,x7,x8]/\Fd a b Hs H'/\RL H' L zs/\ML H' M ws/\okMs (ws.map (·.2))/\ws.length<=14,?_,?_⟩;rotate_left
   ·have okm0:okMs (ws0.map (·.2)):=fun m hm=>(gw.all m hm).okm hl;refine⟨_,rfl,a,b,_,rfl,fd4'.feed,by decide,by decide,fun r5 H5 r50 r51 fd5=>.inl ⟨rfl,_,rfl,?_⟩⟩;have rl5:=rl4.fd fd4'.feed fd5 hLa;have ml5:=ml.fd fd4'.feed fd5 hMa;have fd5':=fd4'.trans fd5;refine ite2 (fun e=>?_) (fun e=>⟨ws0,_,_,_,_,rfl,fd5',rl5,ml5,okm0,by lia⟩);refine⟨_,rfl,.inl ⟨rfl,_,SqL.of ml5.at_⟩,_,rfl,_,rfl,_,_,rfl,.inl ⟨_,SqL.of ml5.at_,rfl⟩,.inl ⟨_,_,rfl,rfl,a,b,_,rfl,fd5'.feed,by rw[Ac];lia,by rw[Ac];lia,fun r6 H6 r60 r61 fd6=>?_⟩⟩;have rl6:=rl5.fd fd5'.feed fd6 hLa;have ml6:=ml5.fd fd5'.feed fd6 hMa;have fd6':=fd5'.trans fd6;rw[Ac] at r61;refine⟨_,rfl,_,rfl,a,b,L,bl,zs,rfl,fd6'.feed,rl6,by rw[hrows];exact hl,by lia,pos,fun T7 m7 H7 fd7 hT7 mt7 o1 o2=>?_⟩;have rl7:=rl6.fd fd6'.feed fd7 hLa;have ml7:=ml6.fd fd6'.feed fd7 hMa;have fd7':=fd6'.trans fd7;obtain⟨n,rfl⟩:∃n:Nat,r6=(n:Int):=⟨r6.toNat,by lia⟩
    refine⟨M,_,_,n,rfl,rfl,ml7.at_,by rw[Ac];exact small' (by lia),by rw[Ac];lia,by lia,?_⟩;have tk:∀S xs,H7 S=some (.tup xs)->upd H7 M (.lst (insN (ws0.map fun z=>V.ref z.1) n (.ref T7))) S=some (.tup xs):=fun S xs e=>by rw[q0c (fun z=>by rw[z,ml7.at_] at e;cases e)];exact e
    refine⟨insN ws0 n (T7,m7),_,_,_,_,rfl,fd7'.put Fs hMs,⟨by rw[q0c (Bo hML)];exact rl7.at_,fun z hz=>PR.same (rl7.pr z hz) tk⟩,⟨by rw[q0b,z2b],fun z hz=>?_⟩,fun m hm=>?_,by rw[z8r];lia⟩
    ·rcases z2a hz with hz|rfl
     ·exact(ml7.pr z hz).keep tk
     ·exact mt7.keep tk
    ·rw[z2b] at hm;rcases z2a hm with hm|rfl
     ·exact okm0 m hm
     ·exact⟨o1,o2⟩
   clear ml gw lw rl4 rl fd4 fd4' hM;rintro σ' H5 ⟨ws,x6,x7,x8,x2,rfl,fd5,rl5,ml5,okm,lw⟩;generalize hms:ws.map (·.2)=ms at okm;refine⟨_,rfl,_,rfl,L,M,bl,zs,ws,rfl,rl5,by rw[hrows];exact hl,by lia,ml5,by rw[hms];exact okm,by lia,fun bv H6 s6 hbv=>?_⟩;rw[hrows,hms] at hbv;have fd6:=fd5.same s6;have rl6:=rl5.same s6;have ml6:=ml5.same s6;refine⟨_,rfl,_,rfl,fun h dx hh hdx n=>?_⟩;refine⟨h,dx,L,bl,zs,rfl,q0b,x1e rl6 hh hdx,by rw[hrows];exact hl,by lia,fun d H7 hd i1 i2 i3=>⟨rfl,?_⟩⟩;obtain⟨s7,_⟩:=z6m hh hdx hd i3;have ha7:HallAt c H7 h d bl (zs.map (·.2)):=⟨⟨dx,i1⟩,i2⟩
   rw[hrows] at ha7;have fd7:=fd6.same s7;have rl7:=rl6.same s7;have ml7:=ml6.same s7;clear i1 i2 i3 hd s7 hdx n hh fd6 rl6 ml6 fd5 rl5 ml5;refine⟨by show 2<=sizeLine;decide,fun T8 hT8=>?_⟩;have s8:=(Same.refl H7).new (o:=.tup [.str (Ag "told"),.bl true]) hT8;have h8:upd H7 T8 (.tup [.str (Ag "told"),.bl true]) T8=some (.tup [.str (Ag "told"),.bl true]):=q0b;generalize upd H7 T8 (.tup [.str (Ag "told"),.bl true])=H8 at s8 h8;refine⟨fun σ' H'=>∃T9 x9 x2,σ'=[some (.ref sc),some (.ref a),x2,some (.bl bl),some (.ref L),some (.ref M),some bv,some (.ref h),some (.ref T9)]/\Same H7 H'/\DueAt H' T9 x9/\Ans bl rows ms 2 x9,?_,?_⟩;rotate_left
   ·refine⟨_,rfl,_,rfl,?_⟩;rcases hbv with⟨rfl,gw⟩|⟨n,rfl,fb⟩
    ·exact iteF ⟨T8,_,_,rfl,s8,.inl ⟨h8,rfl⟩,.inr (.inl ⟨gw,.inl rfl,rfl⟩)⟩
    ·refine iteT ⟨_,rfl,by show 2<=sizeLine;decide,fun T9 hT9=>?_⟩;exact⟨T9,_,_,rfl,s8.new hT9,.inr (.inl ⟨n,q0b,rfl⟩),.inl ⟨n,fb,rfl⟩⟩
   clear s8 h8;rintro σ' H9 ⟨T9,x9,x2,rfl,s9,due9,ans9⟩;refine⟨_,rfl,_,rfl,h,d,M,bl,rows,ws,2,rfl,ha7.same s9,hl,by lia,ml7.same s9,by rw[hms];exact okm,by lia,.inr (.inr rfl),fun TA xA HA sA ansA dueA=>?_⟩;rw[hms] at ansA;refine⟨_,rfl,z1z hl dueA (due9.same sA) ansA ans9 ⟨_,rfl,iteF ?_⟩⟩;have s9A:=s9.trans sA;refine⟨fun σ' H'=>∃TB xB x2,σ'=[some (.ref sc),some (.ref a),x2,some (.bl bl),some (.ref L),some (.ref M),some bv,some (.ref h),some (.ref TB)]/\Same H7 H'/\DueAt H' TB xB/\Ans bl rows ms 0 xB/\((∃n,xB=dNw n)->bv≠.non)/\(∀n:Nat,bv=.int (n:Int)->xB=dNw n),?_,?_⟩;rotate_left
   ·rcases hbv with⟨rfl,gw⟩|⟨n,rfl,fb⟩
    ·have ex9:x9=dTd:=ans9.one (.inr (.inl ⟨gw,.inl rfl,rfl⟩)) hl;have noN:∀n:Nat,dTd≠dNw n:=fun n z=>by unfold dTd dNw at z;injection z with z;injection z with z;exact absurd (Qn z) (by decide +kernel)
     have noM:∀(n:Nat) (t:Tri),dMe t≠dNw n:=fun n t z=>by unfold dMe dNw at z;injection z with z;injection z with z;exact absurd (Qn z) (by decide +kernel)
     refine⟨fun bb H'=>Same HA H'/\((bb=false/\Apart bl rows (plc ms))\/(bb=true/\∃t,Mt1 bl rows ms t)),?_,?_⟩;rotate_left
     ·refine⟨_,rfl,_,rfl,iteT ?_⟩;refine⟨_,rfl,_,rfl,_,rfl,L,M,bl,zs,ws,rfl,rl7.same s9A,by rw[hrows];exact hl,by lia,ml7.same s9A,by rw[hrows,hms];exact gw,by lia,fun G ts ps HB hG sB tlB pmB pwB ets=>?_⟩;rw[hrows] at pmB;rw[hms] at ets;refine⟨by show 0<=sizeLine;decide,fun E2 hE2=>?_⟩;have sC:=(Same.refl HB).new (o:=.lst []) hE2;cases ts with
      |nil =>
       have ap:Apart bl rows (plc ms):=(pmB.map _).nodup_iff.mp (z0t (by rw[<- ets];rfl));exact z5g (zs:=[]) (sC _ _ tlB.at_) (fun _ h=>nomatch h) q0b (fun _ h=>nomatch h) ⟨_,rfl,sB.trans sC,.inl ⟨rfl,ap⟩⟩
      |cons t ts =>
       have mt:Mt1 bl rows ms t.2:=⟨gw,ps,ts.map (·.2),pmB,pwB,by rw[<- ets];rfl⟩
       refine z6i (tlB.same sC) q0b (fun u hu=>?_) ⟨_,rfl,sB.trans sC,.inr ⟨rfl,_,mt⟩⟩;rw[ets] at hu;obtain⟨n1,n2,n3⟩:=q4x hu;have okr:∀p∈rows.map (·.1),okP p:=fun p hp=>by
        obtain⟨r,hr,rfl⟩:=Ah.mp hp;exact hl.ok r hr
       have v1:=pmB.mem_iff.mp n1;exact⟨(okr _ v1).low,(okr _ (pmB.mem_iff.mp n2)).low,by rw[n3];exact(q3d hl gw v1).low⟩
     ·rintro bb H' ⟨sB,⟨rfl,ap⟩|⟨rfl,t,mt⟩⟩
      ·exact iteF ⟨T9,x9,_,rfl,s9A.trans sB,(due9.same sA).same sB,.inr (.inl ⟨gw,.inr ap,ex9⟩),(fun⟨n,z⟩=>absurd (ex9.symm.trans z) (noN n)),fun n z=>by cases z⟩
      ·have s9B:=s9A.trans sB;refine iteT ⟨by show 1<=sizeLine;decide,fun q1 hq1=>?_⟩;have sq:=(Same.refl H').new (o:=.tup [.str (Ag "meets")]) hq1;have hq:upd H' q1 (.tup [.str (Ag "meets")]) q1=some (.tup [.str (Ag "meets")]):=q0b;generalize upd H' q1 (.tup [.str (Ag "meets")])=HQ at sq hq;have s9Q:=s9B.trans sq;refine⟨_,rfl,_,rfl,_,rfl,L,M,bl,zs,ws,rfl,rl7.same s9Q,by rw[hrows];exact hl,by lia,ml7.same s9Q,by rw[hrows,hms];exact gw,by lia,fun G ts ps HB hG sB' tlB pmB pwB ets=>?_⟩;rw[hrows] at pmB;rw[hms] at ets;cases ts with
       |nil=>exact(mt.apart ((pmB.map _).nodup_iff.mp (z0t (by rw[<- ets];rfl)))).elim
       |cons t2 ts =>
        have mt2:Mt1 bl rows ms t2.2:=⟨gw,ps,ts.map (·.2),pmB,pwB,by rw[<- ets];rfl⟩
        obtain⟨A1,B1,C1,g1,g2,g3,g4⟩:=tlB.pr t2 Au;refine .inl ⟨G,_,0,_,rfl,rfl,SqL.of tlB.at_,z4a (j:=0) rfl,?_⟩;refine⟨q1,t2.1,_,_,rfl,rfl,sB' _ _ hq,g1,by show 4<=sizeLine;decide,fun TB HC sC hTB _=>?_⟩;exact⟨TB,_,_,rfl,(s9Q.trans sB').trans sC,.inr (.inr ⟨t2.2,A1,B1,C1,hTB,sC _ _ g2,sC _ _ g3,sC _ _ g4,rfl⟩),.inr (.inr ⟨by decide,_,mt2,rfl⟩),(fun⟨n,z⟩=>absurd z (noM n _)),fun n z=>by cases z⟩
    ·have ex9:x9=dNw n:=ans9.one (.inl ⟨n,fb,rfl⟩) hl;refine⟨fun bb H'=>bb=false/\H'=HA,?_,⟨_,rfl,_,rfl,iteF ⟨rfl,rfl⟩⟩⟩;rintro bb H' ⟨rfl,rfl⟩;exact iteF ⟨T9,x9,_,rfl,s9A,due9.same sA,.inl ⟨n,fb,ex9⟩,(fun _ z=>by cases z),fun m z=>by injection z with z;rw[ex9];congr 1;lia⟩
   clear due9 ans9 s9A sA s9 dueA ansA;rintro σ' HB ⟨TB,xB,x2,rfl,sB,dueB,ansB,bn1,bn2⟩;have ansB1:Ans bl rows ms 1 xB:=by
    rcases ansB with z|⟨g,ho,e⟩|⟨_,z⟩
    ·exact .inl z
    ·exact .inr (.inl ⟨g,.inr (ho.resolve_left (by decide)),e⟩)
    ·exact .inr (.inr ⟨by decide,z⟩)
   refine⟨fun bb H'=>bb=false/\Same HB H',?_,?_⟩;rotate_left
   ·refine⟨_,rfl,_,rfl,h,d,M,bl,rows,ws,0,rfl,ha7.same sB,hl,by lia,ml7.same sB,by rw[hms];exact okm,by lia,.inl rfl,fun TC xC HC sC ansC dueC=>?_⟩;rw[hms] at ansC;refine⟨_,rfl,z1z hl dueC (dueB.same sC) ansC ansB ⟨_,rfl,iteF ?_⟩⟩;have sBC:=sB.trans sC;refine⟨_,rfl,_,rfl,h,d,M,bl,rows,ws,1,rfl,ha7.same sBC,hl,by lia,ml7.same sBC,by rw[hms];exact okm,by lia,.inr (.inl rfl),fun TD xD HD sD ansD dueD=>?_⟩;rw[hms] at ansD;exact⟨_,rfl,z1z hl dueD ((dueB.same sC).same sD) ansD ansB1 ⟨_,rfl,rfl,sC.trans sD⟩⟩
   rintro bb HC ⟨rfl,sC⟩;have sBC:=sB.trans sC;have dueC:=dueB.same sC;refine iteF ⟨fun bb H'=>bb=false/\Same HC H',?_,?_⟩
   ·rintro bb H' ⟨rfl,s'⟩;exact iteF ⟨_,_,_,_,_,_,_,rfl,fd.trans ((fd7.same sBC).same s')⟩
   rcases dueC with⟨hT,ex⟩|⟨n,hT,ex⟩|⟨t,A1,B1,C1,hT,h1,h2,h3,ex⟩
   ·have hb:bv=.non:=by
     rcases hbv with⟨e,_⟩|⟨n,e,_⟩
     ·exact e
     ·have z:=(bn2 n e).symm.trans ex;exact absurd z (fun z=>by unfold dTd dNw at z;injection z with z;injection z with z;exact absurd (Qn z) (by decide +kernel))
    subst hb;exact⟨_,rfl,.inr (.inl ⟨TB,_,1,_,rfl,rfl,SqT.of hT,rfl,_,_,_,true,rfl,TyOf.bl true,rfl,true,rfl,iteT ⟨_,rfl,_,rfl,iteF ⟨rfl,Same.refl _⟩⟩⟩)⟩
   ·rcases hbv with⟨e,_⟩|⟨n',rfl,fb⟩
    ·exact absurd e (bn1 ⟨n,ex⟩)
    ·have en:n'=n:=by
      have z:=(bn2 n' rfl).symm.trans ex;unfold dNw at z;injection z with z;injection z with _ z;injection z with z;injection z with z;lia
     subst en;refine⟨_,rfl,.inr (.inl ⟨TB,_,1,_,rfl,rfl,SqT.of hT,rfl,_,_,_,true,rfl,TyOf.int _,rfl,true,rfl,iteT ⟨_,rfl,_,rfl,iteT ?_⟩⟩)⟩;have mlC:=ml7.same sBC;have hlt:=fb.lt;rw[<- hms,Ac] at hlt;refine⟨_,rfl,_,rfl,_,rfl,_,rfl,.inr (.inl ⟨M,_,rfl,SqL.of mlC.at_,fun N hN=>?_⟩)⟩;rw[z6q];have sN:=(Same.refl HC).new (o:=.lst ((ws.map fun z=>V.ref z.1).take n')) hN;have mlN:=mlC.pre hN n';generalize upd HC N (.lst ((ws.map fun z=>V.ref z.1).take n'))=HN at sN mlN;have eN:(ws.take n').map (·.2)=ms.take n':=by rw[Gu,hms]
     refine⟨h,d,N,bl,rows,ws.take n',2,rfl,(ha7.same sBC).same sN,hl,by lia,mlN,fun m hm=>okm m ?_,by rw[Bp];lia,.inr (.inr rfl),fun TE xE HE sE ansE dueE=>?_⟩
     ·rw[eN] at hm;exact Hb hm
     rw[eN] at ansE;refine⟨by show 2<=sizeLine;decide,fun TF hTF=>?_⟩;have sF:=(Same.refl HE).new (o:=.tup [.str (Ag "told"),.bl true]) hTF;exact z1z (ms:=ms.take n') (way:=2) hl (dueE.same sF) (.inl ⟨q0b,rfl⟩) ansE (.inr (.inl ⟨fb.good,.inl rfl,rfl⟩)) ⟨_,rfl,rfl,(sN.trans sE).trans sF⟩
   ·exact⟨_,rfl,.inr (.inl ⟨TB,_,1,_,rfl,rfl,SqT.of hT,rfl,_,_,_,false,rfl,TyOf.tup h1,rfl,false,rfl,iteF ⟨rfl,Same.refl _⟩⟩)⟩
  ·rintro σ' H' ⟨x2,x3,x4,x5,x6,x7,x8,rfl,fd⟩;exact k _
end
end K
set_option maxHeartbeats 4000000
namespace K
open PySem L2 TX SB HM
theorem df_mk{K:Ai}{mg:Str->Option Value}{h:Heap}{x:Str}{st:Stmt}{ps:List Str}{f:Addr}{oc:Value}{od an:Option Addr}{osl:Array (Option Value)}{kV doc pm cdv ct:Value}(X:K.In h)(G:h.Ns Cc mg)(a:Jc K Cc x=some (some (.ref f)))(l:K.lookup f=some ⟨oc,od,.func (Hg x x (defArgs st) (defBody st) (defScope st) .none kV doc pm an cdv ct),osl⟩)(c:Ju K cdv x=true)(k:Ej K (.ref f)=true)(hb:∀(kV doc pm:Value) (an:Option Addr) (cdv ct:Value) (us:List Value),us.length=ps.length->bindArgs (Hg x x (defArgs st) (defBody st) (defScope st) .none kV doc pm an cdv ct) ⟨us,[]⟩=pure (ps.zip us)):Df K mg x st ps :=
 ⟨f,_,q5e l c k,Ss X G a,(q5e (st:=st) l c k).binds hb⟩
theorem mf_mk{K:Ai}{C:Addr}{m qual:Str}{st:Stmt}{ps:List Str}{f:Addr}{oc:Value}{od an:Option Addr}{osl:Array (Option Value)}{kV doc pm cdv ct:Value}(a:Bj K (.ref C) m=some (some (.ref f)))(l:K.lookup f=some ⟨oc,od,.func (Hg m qual (defArgs st) (defBody st) (defScope st) .none kV doc pm an cdv ct),osl⟩)(c:Ju K cdv qual=true)(k:Ej K (.ref f)=true)(i:Uq K (.ref f)=true)(hb:∀(kV doc pm:Value) (an:Option Addr) (cdv ct:Value) (us:List Value),us.length=ps.length->bindArgs (Hg m qual (defArgs st) (defBody st) (defScope st) .none kV doc pm an cdv ct) ⟨us,[]⟩=pure (ps.zip us)):Mf K C m qual st ps :=
 ⟨⟨f,_,q5e l c k,⟨a,i,k⟩,(q5e (st:=st) l c k).binds hb⟩⟩
structure Eb (K:Ai) (mg:Str->Option Value) (D:Addr) (mc:Value):Prop where
 gl:mg "HallError" = some (.ref D)
 base:EBase K D
 ini:EIni K D mc
 hn:Kt K (.builtin "object.__class__") "__get__" = some (some (.builtin "getset_descriptor.__get__"))
 htk:Rx K (.builtin "object.__class__")=some true
theorem eb_mk{K:Ai}{mg:Str->Option Value}{h:Heap}(X:K.In h)(G:h.Ns Cc mg){D:Addr}{nm qn:Str}{N:Addr}{bs:List Value}{sn:List Str}{sub:List Value}{ab:Bool}{col:Option Bool}{dd:Option Addr}{k0 k1 k2 k3 k5:Option Value}{oc mc:Value}{od:Option Addr}{es:Array Iq}{ep:Nat}{sl:Array (Option Value)}(g:Jc K Cc "HallError" = some (some (.ref D)))(l:K.lookup D=some (Dh nm qn D N bs bmV true sn sub ab col dd k0 k1 k2 k3 k5 "ValueError.__new__"))(n:K.lookup N=some ⟨oc,od,.dict es ep,sl⟩)(s:es.toList.all strKey=true)(i:Jc K N "__init__" = some none)(sp:Kt K (.ref D) "__getattribute__" = some (some (.builtin "type.__getattribute__")))(tm:W.typeIn K (.ref D)=some mc)(rd:W.readsIn K D mc=true)(fc:W.findCls K (.ref D) mc "__init__" = some (.val (.builtin "ValueError.__init__")))(hn:Kt K (.builtin "object.__class__") "__get__" = some (some (.builtin "getset_descriptor.__get__")))(htk:Rx K (.builtin "object.__class__")=some true):Eb K mg D mc :=
 ⟨Ss X G g,⟨nm,qn,N,bs,sn,sub,ab,col,dd,k0,k1,k2,k3,k5,l,z1p n s,i⟩,⟨sp,rd,fc⟩,hn,htk⟩
structure Ec (K:Ai) (mg:Str->Option Value) (x:Str) (C D:Addr) (qual:Str) (st:Stmt) (ps:List Str):Prop where
 gl:mg x=some (.ref C)
 ex:∃f fd,Fun K "__init__" qual st f fd/\ELaw K C D f/\Binds K fd ps []
 sa:Bj K (.ref C) "__setattr__" = some (some (.builtin "object.__setattr__"))
 ga:Bj K (.ref C) "__getattribute__" = some (some (.builtin "BaseException.__getattribute__"))
 gh:Bj K (.ref C) "__getattr__" = some none
 ha:Bj K (.ref C) "__class__" = some (some (.builtin "object.__class__"))
section
variable{K:Ai}{mg:Str->Option Value}{x:Str}{C D:Addr}{qual:Str}{st:Stmt}{ps:List Str}{mc:Value}{f:Str}
theorem Ec.ef(E:Ec K mg x C D qual st ps)(B:Eb K mg D mc):Ef K mg x C D qual st ps:=by
 obtain⟨f,fd,h1,h2,h3⟩:=E.ex;exact⟨⟨f,fd,mc,h1,h2,B.base,B.ini,h3⟩,E.gl⟩
theorem Ec.set(E:Ec K mg x C D qual st ps)(tk:Bj K (.ref C) f=some none):ESet K C f:=by
 obtain⟨_,_,_,h,_⟩:=E.ex;exact h.set E.sa tk
theorem Ec.get(E:Ec K mg x C D qual st ps)(tk:Bj K (.ref C) f=some none):EGet K C f:=by
 obtain⟨_,_,_,h,_⟩:=E.ex;exact h.get E.ga E.gh tk
theorem Ec.isi(E:Ec K mg x C D qual st ps)(B:Eb K mg D mc):EIsi K C:=by
 obtain⟨_,_,_,h,_⟩:=E.ex;exact⟨h.clsIn,E.ga,E.gh,E.ha,B.hn,B.htk⟩
theorem Ec.cls(E:Ec K mg x C D qual st ps):ECls K C (.ref D::bmV):=by
 obtain⟨_,_,_,h,_⟩:=E.ex;exact h.cls
theorem Ec.sub(E:Ec K mg x C D qual st ps):SubX K (.ref C) D:=by
 obtain⟨_,_,_,h,_⟩:=E.ex;exact h.sub
theorem ec_mk{h:Heap}(X:K.In h)(G:h.Ns Cc mg){nm qn:Str}{N:Addr}{bs:List Value}{sn:List Str}{sub:List Value}{ab:Bool}{col:Option Bool}{dd:Option Addr}{k0 k1 k2 k3 k5:Option Value}{oc:Value}{od:Option Addr}{es:Array Iq}{ep:Nat}{sl:Array (Option Value)}{fi:Addr}{odi an:Option Addr}{sli:Array (Option Value)}{oci kV dc pm cd ct:Value}(g:Jc K Cc x=some (some (.ref C)))(l:K.lookup C=some (Dh nm qn C N bs (.ref D::bmV) true sn sub ab col dd k0 k1 k2 k3 k5 "ValueError.__new__"))(n:K.lookup N=some ⟨oc,od,.dict es ep,sl⟩)(s:es.toList.all strKey=true)(i:Jc K N "__init__" = some (some (.ref fi)))(li:K.lookup fi=some ⟨oci,odi,.func (Hg "__init__" qual (defArgs st) (defBody st) (defScope st) .none kV dc pm an cd ct),sli⟩)(ci:Ju K cd qual=true)(ki:Ej K (.ref fi)=true)(ti:oci=.type "function")(kp:Ej K (.ref C)=true)(sa:Bj K (.ref C) "__setattr__" = some (some (.builtin "object.__setattr__")))(ga:Bj K (.ref C) "__getattribute__" = some (some (.builtin "BaseException.__getattribute__")))(gh:Bj K (.ref C) "__getattr__" = some none)(ha:Bj K (.ref C) "__class__" = some (some (.builtin "object.__class__")))(hb:∀(kV doc pm:Value) (an:Option Addr) (cdv ct:Value) (us:List Value),us.length=ps.length->bindArgs (Hg "__init__" qual (defArgs st) (defBody st) (defScope st) .none kV doc pm an cdv ct) ⟨us,[]⟩=pure (ps.zip us)):Ec K mg x C D qual st ps :=
 ⟨Ss X G g,⟨fi,_,q5e li ci ki,⟨⟨nm,qn,N,bs,sn,sub,ab,col,dd,k0,k1,k2,k3,k5,l,z1p n s,i⟩,⟨_,li,ti⟩,kp⟩,(q5e (st:=st) li ci ki).binds hb⟩,sa,ga,gh,ha⟩
end
theorem len_1{us:List Value}(h:us.length=1):∃x0,us=[x0]:=by
 match us,h with
 |[x0],_=>exact⟨x0,rfl⟩
theorem len_2{us:List Value}(h:us.length=2):∃x0 x1,us=[x0,x1]:=by
 match us,h with
 |[x0,x1],_=>exact⟨x0,x1,rfl⟩
theorem len_3{us:List Value}(h:us.length=3):∃x0 x1 x2,us=[x0,x1,x2]:=by
 match us,h with
 |[x0,x1,x2],_=>exact⟨x0,x1,x2,rfl⟩
theorem len_4{us:List Value}(h:us.length=4):∃x0 x1 x2 x3,us=[x0,x1,x2,x3]:=by
 match us,h with
 |[x0,x1,x2,x3],_=>exact⟨x0,x1,x2,x3,rfl⟩
theorem len_5{us:List Value}(h:us.length=5):∃x0 x1 x2 x3 x4,us=[x0,x1,x2,x3,x4]:=by
 match us,h with
 |[x0,x1,x2,x3,x4],_=>exact⟨x0,x1,x2,x3,x4,rfl⟩
theorem all_mk{lw:Vh}{w:World}{K:Ai}{h:Heap}{mg:Str->Option Value}{fa:Addr}(X:K.In h)(G:h.Ns Cc mg)(hfa:mg "law" = some (.ref fa)){f22:Addr}{od22 an22:Option Addr}{sl22:Array (Option Value)}{oc22 kV22 dc22 pm22 cd22 ct22:Value}{eHallError:Addr}{mcH:Value}{eNoThing:Addr}{eNoDrawer:Addr}{eTaken:Addr}{eNoWish:Addr}{eMeets:Addr}{cHall:Addr}{fminit:Addr}{odminit anminit:Option Addr}{slminit:Array (Option Value)}{ocminit kVminit dcminit pmminit cdminit ctminit:Value}{dtminit:Addr}{tdminit:Option Addr}{tsminit:Array (Option Value)}{tnminit:Nat}(D_is_wish:Df K mg "is_wish" q4k ["hall", "path", "place", "places"])(D_wished_places:Df K mg "wished_places" q1s ["hall", "wishes"])(D_all_places:Df K mg "all_places" q2n ["hall", "wishes"])(D_meetings:Df K mg "meetings" q3s ["hall", "wishes"])(D_ask_wishes:Df K mg "ask_wishes" q2o ["hall", "wishes"])(D_path_then:Df K mg "path_then" q1o ["path", "places"])(D_goal:Df K mg "goal" z0u ["hall", "wishes"])(D_alike:Df K mg "alike" q7l ["one", "other"])(D_draw:Df K mg "_law_draw" z0n ["_law_feed", "_law_many"])(D_name_signs:Df K mg "_law_name_signs" q2l [])(D_text:Df K mg "_law_text" z0o ["_law_feed", "_law_signs", "_law_size"])(D_a_name:Df K mg "_law_a_name" q5q ["_law_feed"])(D_fold:Df K mg "_law_fold" z0p ["_law_name", "_law_blind"])(D_rows:Df K mg "_law_rows" z0q ["_law_feed", "_law_blind", "_law_most"])(D_other_case:Df K mg "_law_other_case" q2p ["_law_feed", "_law_name"])(D_some_of:Df K mg "_law_some_of" q4m ["_law_feed", "_law_things", "_law_many"])(D_any_wishes:Df K mg "_law_any_wishes" q2q ["_law_feed", "_law_rows_here", "_law_blind"])(D_places:Df K mg "_law_places" q5u ["_law_rows_here", "_law_wishes"])(D_pairs:Df K mg "_law_pairs" q7u ["_law_rows_here", "_law_wishes", "_law_blind"])(D_one_more:Df K mg "_law_one_more" q3t ["_law_feed", "_law_rows_here"])(D_first_bad:Df K mg "_law_first_bad" q3e ["_law_rows_here", "_law_wishes"])(D_told_of:Df K mg "_law_told_of" q4n ["_law_hall", "_law_wishes", "_law_way"])(a22:Jc K Cc "law" = some (some (.ref f22)))(l22:K.lookup f22=some ⟨oc22,od22,.func (Hg "law" "law" (defArgs q3f) (defBody q3f) (defScope q3f) .none kV22 dc22 pm22 an22 cd22 ct22),sl22⟩)(c22:Ju K cd22 "law" = true)(k22:Ej K (.ref f22)=true)(T:Txt mg)(E0:Eb K mg eHallError mcH)(gl_NoThing:mg "NoThing" = some (.ref eNoThing))(gl_NoDrawer:mg "NoDrawer" = some (.ref eNoDrawer))(gl_Taken:mg "Taken" = some (.ref eTaken))(E_NoWish:Ec K mg "NoWish" eNoWish eHallError "NoWish.__init__" q1j ["self", "at"])(t_NoWish_at:Bj K (.ref eNoWish) "at" = some none)(E_Meets:Ec K mg "Meets" eMeets eHallError "Meets.__init__" q1m ["self", "one", "other", "place"])(t_Meets_one:Bj K (.ref eMeets) "one" = some none)(t_Meets_other:Bj K (.ref eMeets) "other" = some none)(t_Meets_place:Bj K (.ref eMeets) "place" = some none)(KO_Meets_HallError:Gs K (.ref eMeets) (.ref eHallError)=some true)(KO_Meets_ValueError:Gs K (.ref eMeets) (.type "ValueError")=some true)(KO_NoWish_HallError:Gs K (.ref eNoWish) (.ref eHallError)=some true)(KA_Meets__NoThing__NoDrawer__Taken:Ke K (.ref eMeets) [.ref eNoThing,.ref eNoDrawer,.ref eTaken]=some false)(KA_Meets__NoWish:Ke K (.ref eMeets) [.ref eNoWish]=some false)(KA_NoWish__Meets__NoThing__NoDrawer__Taken:Ke K (.ref eNoWish) [.ref eMeets,.ref eNoThing,.ref eNoDrawer,.ref eTaken]=some false)(gcHall:Jc K Cc "Hall" = some (some (.ref cHall)))(pgcHall:Nl K cHall Ou=true)(hdcHall:Ks K cHall=true)(pocHall:Tp K cHall=true)(sacHall:Bj K (.ref cHall) "__setattr__" = some (some (.builtin "object.__setattr__")))(nacHall_blind:Bj K (.ref cHall) "blind" = some none)(nacHall_marks:Bj K (.ref cHall) "marks" = some none)(aminit:Bj K (.ref cHall) "__init__" = some (some (.ref fminit)))(lminit:K.lookup fminit=some ⟨ocminit,odminit,.func (Hg "__init__" "Hall.__init__" (defArgs q0s) (defBody q0s) (defScope q0s) (.ref dtminit) kVminit dcminit pmminit anminit cdminit ctminit),slminit⟩)(cminit:Ju K cdminit "Hall.__init__" = true)(kminit:Ej K (.ref fminit)=true)(iminit:Uq K (.ref fminit)=true)(mkcHall:Vg K cHall=true)(kccHall:Ej K (.ref cHall)=true)(tminit:K.lookup dtminit=some ⟨.type "tuple",tdminit,.seq #[.bool false] tnminit,tsminit⟩)(M_is_drawer:Mf K cHall "is_drawer" "Hall.is_drawer" q1l ["self", "path"])(M_is_one_place:Mf K cHall "is_one_place" "Hall.is_one_place" q1e ["self", "one", "other"])(M_rows:Mf K cHall "rows" "Hall.rows" q3b ["self"])(M_there:Mf K cHall "there" "Hall.there" q2m ["self", "place"]):
  ∃fd:Jt,(∀(s:Ae) (v:Value),Pz s fd ⟨[v],[]⟩ [("_law_script",v)])/\∀base:Heap,K.In base->base.Ns Cc mg->FnOk lw.prog w K mg base CX0 11 fa fd ["_law_script"] (spLaw K):=by
 have e:=hfa.symm.trans (Ss X G a22);cases e;have EB_HallError:=E0.base;have gl_HallError:=E0.gl;have EF_NoWish:=E_NoWish.ef E0;have ES_NoWish_at:=E_NoWish.set t_NoWish_at;have EG_NoWish_at:=E_NoWish.get t_NoWish_at;have EI_NoWish:=E_NoWish.isi E0;have gl_NoWish:=E_NoWish.gl;have EF_Meets:=E_Meets.ef E0;have ES_Meets_one:=E_Meets.set t_Meets_one;have EG_Meets_one:=E_Meets.get t_Meets_one;have ES_Meets_other:=E_Meets.set t_Meets_other;have EG_Meets_other:=E_Meets.get t_Meets_other;have ES_Meets_place:=E_Meets.set t_Meets_place;have EG_Meets_place:=E_Meets.get t_Meets_place;have EI_Meets:=E_Meets.isi E0;have gl_Meets:=E_Meets.gl;have clcHall:Cls K cHall:=⟨pgcHall,hdcHall,pocHall,sacHall⟩
 have K_Hall:Kf K mg cHall "Hall" "Hall.__init__" q0s ["self", "rows", "blind"]:=⟨⟨fminit,_,ocminit,odminit,.ref dtminit,kVminit,dcminit,pmminit,anminit,cdminit,ctminit,slminit,rfl,lminit,cminit,⟨mkcHall,aminit,iminit,kccHall⟩,fun s us Y hl=>by obtain⟨_,_,_,rfl⟩:=len_3 (by rw[El] at hl;exact hl:us.length=3);exact W.binds_K Y rfl tminit rfl rfl rfl,fun s us Y hl=>by obtain⟨_,_,rfl⟩:=len_2 (by rw[Ap] at hl;exact Nat.succ.inj hl:us.length=2);exact W.binds_K Y rfl tminit rfl rfl rfl⟩,Ss X G gcHall,clcHall⟩
 have FL:=q5e (st:=q3f) l22 c22 k22;refine⟨Hg "law" "law" (defArgs q3f) (defBody q3f) (defScope q3f) .none kV22 dc22 pm22 an22 cd22 ct22,fun s v=>.of_eq rfl,fun base _ _=>?_⟩;have hk:Hk K cHall:=⟨clcHall,nacHall_blind,nacHall_marks⟩
 have c1:=x0s (P:=lw.prog) (w:=w) (base:=base) D_draw T;have c2:=x0u (P:=lw.prog) (w:=w) (base:=base) D_text T c1;have c3:=q7k (P:=lw.prog) (w:=w) (base:=base) D_name_signs;have c4:=z6a (P:=lw.prog) (w:=w) (base:=base) D_a_name T ⟨c1,c2,c3⟩;have c5:=x0w (P:=lw.prog) (w:=w) (base:=base) D_fold T;have c6:=x0y (P:=lw.prog) (w:=w) (base:=base) D_rows T ⟨c1,c4,c5⟩;have c7:=z8i (P:=lw.prog) (w:=w) (base:=base) D_alike T;have c8:=q9j (P:=lw.prog) (w:=w) (base:=base) M_is_one_place hk T ⟨c7⟩;have c9:=z8j (P:=lw.prog) (w:=w) (base:=base) M_there hk T ⟨c8⟩;have c10:=x0z (P:=lw.prog) (w:=w) (base:=base) K_Hall hk T ⟨c9⟩;have c11:=z8k (P:=lw.prog) (w:=w) (base:=base) M_rows hk T;have c12:=q9m (P:=lw.prog) (w:=w) (base:=base) M_is_drawer hk T;have c13:=z3b (P:=lw.prog) (w:=w) (base:=base) D_is_wish T ⟨there1 c9,c12⟩;have eN:=q5y (P:=lw.prog) (w:=w) (base:=base) EF_NoWish gl_HallError ES_NoWish_at;have eM:=q7o (P:=lw.prog) (w:=w) (base:=base) EF_Meets gl_HallError ES_Meets_one ES_Meets_other ES_Meets_place;have c14:=z3c (P:=lw.prog) (w:=w) (base:=base) D_wished_places T ⟨eN,c13⟩;have c15:=x1b (P:=lw.prog) (w:=w) (base:=base) D_all_places T ⟨c14,c11⟩;have c16:=x1c (P:=lw.prog) (w:=w) (base:=base) D_meetings T ⟨c15,c8⟩;have c17:=q7p (P:=lw.prog) (w:=w) (base:=base) D_ask_wishes T ⟨c16,eM⟩;have c18:=q4d (P:=lw.prog) (w:=w) (base:=base) D_path_then T 6;have c19:=x1d (P:=lw.prog) (w:=w) (base:=base) D_goal T ⟨c17,c15,c18,c11⟩;have c20:=q7s (P:=lw.prog) (w:=w) (base:=base) D_other_case T ⟨c1⟩;have c21:=z3e (P:=lw.prog) (w:=w) (base:=base) D_some_of T ⟨c1⟩;have c22:=q7t (P:=lw.prog) (w:=w) (base:=base) D_any_wishes T ⟨c1,c4,c20,c21⟩;have c23:=z6p (P:=lw.prog) (w:=w) (base:=base) D_places T;have c24:=z8q (P:=lw.prog) (w:=w) (base:=base) D_pairs T ⟨c5,c23⟩;have c25:=z0v (P:=lw.prog) (w:=w) (base:=base) D_one_more T ⟨c1,c4⟩;have c26:=q9q (P:=lw.prog) (w:=w) (base:=base) D_first_bad T;have CT:CallsTo lw.prog w K mg base cHall eNoWish eMeets eHallError (.ref eHallError::bmV) [eNoThing,eNoDrawer,eTaken]:=⟨c17,c19,c16,gl_HallError,gl_NoWish,gl_Meets,E_NoWish.cls,E_Meets.cls,x1g KA_Meets__NoWish KO_Meets_HallError,EI_NoWish,EI_Meets,EG_NoWish_at,EG_Meets_one,EG_Meets_other,EG_Meets_place,KO_NoWish_HallError,KO_Meets_HallError,KO_Meets_ValueError,KA_NoWish__Meets__NoThing__NoDrawer__Taken,KA_Meets__NoThing__NoDrawer__Taken,⟨eNoThing,eNoDrawer,eTaken,rfl,gl_NoThing,gl_NoDrawer,gl_Taken⟩⟩
 have c27:=z3f (P:=lw.prog) (w:=w) (base:=base) D_told_of T CT;have CL:CallsL lw.prog w K mg base cHall:=⟨c1,c6,c22,c25,c26,c24,c27,c10⟩
 exact FL.ok sc_law (fun vs H Q E h=>by obtain⟨a,ns,rfl,_⟩:=h;rfl) (fun cdv A outer s H vs Q E hr h=>z8s T CL _ cdv A outer s H vs Q E hr h)
theorem walk{l:Vh}{q:Program}{loose:List Str}{XP:(Str->Option Value)->Heap->Prop}{YP:World->Heap->Prop}{d:DefRec}{K:Params->Ai}(hn:l.most=some 63)(hdf:d.params.defaults=[])(hY:∀(w:World) (h:Heap),YP w h->(K w.params).In h)(F:∀(w:World) (mg:Str->Option Value) (fa:Addr) (h:Heap),(K w.params).In h->h.Ns Cc mg->mg d.name=some (.ref fa) ->
   ∃fd:Jt,(∀(s:Ae) (u:Value),Pz s fd ⟨[u],[]⟩ [("_law_script",u)])/\∀base:Heap,(K w.params).In base->base.Ns Cc mg->FnOk l.prog w (K w.params) mg base CX0 11 fa fd ["_law_script"] (spLaw (K w.params))):
  W.WalkO q loose XP YP l.row.toRowW d [] (fun f vs=>Uu f vs) :=
 L2.walk_of (n:=63) (k:=11) (x := "_law_script") (CX:=fun _=>CX0) (sp:=fun w=>spLaw (K w.params)) hn (by decide) hdf ⟨rfl,by decide,by decide,rfl⟩ hY F (fun _ _ a ns hl _ hS=>⟨a,ns,rfl,hS,hl,fun _=>rfl⟩) fun _ _ _ _ _ z=>z
end K
namespace K
open PySem PySem.W PyProof.Rows
abbrev loose:List Str:=[Ag "_wall",Ag "HallError",Ag "NoHall",Ag "NoThing",Ag "NoDrawer",Ag "Taken",Ag "NoWish",Ag "Meets",Ag "is_wish",Ag "wished_places",Ag "all_places",Ag "meetings",Ag "ask_wishes",Ag "path_then",Ag "goal",Ag "alike",Ag "Hall",Ag "_law_draw",Ag "_law_name_signs",Ag "_law_other_signs",Ag "_law_text",Ag "_law_a_name",Ag "_law_fold",Ag "_law_rows",Ag "_law_other_case",Ag "_law_some_of",Ag "_law_any_wishes",Ag "_law_places",Ag "_law_pairs",Ag "_law_one_more",Ag "_law_first_bad",Ag "_law_told_of"]
abbrev vw:Program:=view PySem.Challenge.pw_renamehall_k36_wishes_refused [37]
abbrev xt(s:Ae):Bool:=xlAt vw [] s&&recOk [] s
end K
open PySem PySem.W PyProof.Rows
local macro_rules | `(tactic| o_head $H) => `(tactic| (
  refine holds_open (q := K.vw) (loose := K.loose) (Xt := K.xt) (XP := XL K.vw []) (Yf := Hook.obs $H) (Ya := Hook.val $H) (YP := Hook.says $H) (N := 60000) ?hl (Hook.of $H) (Hook.keeps $H) (fun s e => xl_of s (Rb.mp e).1) XL.keeps
    (by rfl) (by rfl) (by rfl) (fun s e => recFacts_of (Rb.mp e).2) (by rfl) (by first | assumption | decide +kernel) (by decide +kernel) ⟨rfl, rfl, rfl, rfl, rfl, by decide +kernel⟩ ?hw ?hc))
set_option maxRecDepth 100000 in
set_option maxHeartbeats 0 in
theorem PySem.Challenge.cw_renamehall_k36_wishes_refused_holds : PySem.Challenge.rw_renamehall_k36_wishes_refused.Holds := by
  w_on; o_law; k_head; (case hw => w_witness2)
  (case hl =>
    refine HD.left (by kernel_rfl) (by rfl) (fun _ => by kernel_rfl) fun w os => ?_
    change (segRunT Sn PySem.Challenge.pw_renamehall_k36_wishes_refused w 11 (some (.ref 6)) 0 60000 (HD.bootT w.params os) (topStub PySem.Challenge.pw_renamehall_k36_wishes_refused)).map (fun r => ((staticsOk (Jm PySem.Challenge.pw_renamehall_k36_wishes_refused.main.body) (boot_heap w.params) r.2.1.abs.heap && namesBound PySem.Challenge.pw_renamehall_k36_wishes_refused r.2.1.abs.heap && gensDone r.2.1.abs && laidKept (boot_heap w.params) r.2.1.abs.heap), openSeen K.vw K.loose (Jm PySem.Challenge.pw_renamehall_k36_wishes_refused.main.body) K.xt true r.2.1.abs, _)) = some (true, openGood K.vw K.loose, _)
    unfold K.xt K.vw
    rw [PySem.W.Fast.te10110043849684766642, PySem.W.Fast.te4187177175401517315, PySem.W.Fast.te14364793385576792824, PySem.W.Fast.te5923862056798008813, PySem.W.Fast.te12448128047632434432]
    kernel_rfl)
  k_fill
  refine K.walk (l := PySem.Challenge.rw_renamehall_k36_wishes_refused) rfl rfl (fun w h Y => PySem.W.kIn_of Y) ?F
  case F =>
    intro w mg fa h KX G hmg
    refine' K.all_mk KX G hmg (K.df_mk KX G ?_ ?_ ?_ ?_ ?_) (K.df_mk KX G ?_ ?_ ?_ ?_ ?_) (K.df_mk KX G ?_ ?_ ?_ ?_ ?_) (K.df_mk KX G ?_ ?_ ?_ ?_ ?_) (K.df_mk KX G ?_ ?_ ?_ ?_ ?_) (K.df_mk KX G ?_ ?_ ?_ ?_ ?_) (K.df_mk KX G ?_ ?_ ?_ ?_ ?_) (K.df_mk KX G ?_ ?_ ?_ ?_ ?_) (K.df_mk KX G ?_ ?_ ?_ ?_ ?_) (K.df_mk KX G ?_ ?_ ?_ ?_ ?_) (K.df_mk KX G ?_ ?_ ?_ ?_ ?_) (K.df_mk KX G ?_ ?_ ?_ ?_ ?_) (K.df_mk KX G ?_ ?_ ?_ ?_ ?_) (K.df_mk KX G ?_ ?_ ?_ ?_ ?_) (K.df_mk KX G ?_ ?_ ?_ ?_ ?_) (K.df_mk KX G ?_ ?_ ?_ ?_ ?_) (K.df_mk KX G ?_ ?_ ?_ ?_ ?_) (K.df_mk KX G ?_ ?_ ?_ ?_ ?_) (K.df_mk KX G ?_ ?_ ?_ ?_ ?_) (K.df_mk KX G ?_ ?_ ?_ ?_ ?_) (K.df_mk KX G ?_ ?_ ?_ ?_ ?_) (K.df_mk KX G ?_ ?_ ?_ ?_ ?_) ?_ ?_ ?_ ?_ ⟨mg_none_of KX G ?_, mg_none_of KX G ?_, mg_none_of KX G ?_, mg_none_of KX G ?_, mg_none_of KX G ?_, mg_none_of KX G ?_, mg_none_of KX G ?_, mg_none_of KX G ?_, mg_none_of KX G ?_, mg_none_of KX G ?_, mg_none_of KX G ?_, mg_none_of KX G ?_, mg_none_of KX G ?_⟩ (K.eb_mk KX G ?_ ?_ ?_ ?_ ?_ ?_ ?_ ?_ ?_ ?_ ?_) (mg_of KX G ?_) (mg_of KX G ?_) (mg_of KX G ?_) (K.ec_mk KX G ?_ ?_ ?_ ?_ ?_ ?_ ?_ ?_ ?_ ?_ ?_ ?_ ?_ ?_ ?_) ?_ (K.ec_mk KX G ?_ ?_ ?_ ?_ ?_ ?_ ?_ ?_ ?_ ?_ ?_ ?_ ?_ ?_ ?_) ?_ ?_ ?_ ?_ ?_ ?_ ?_ ?_ ?_ ?_ ?_ ?_ ?_ ?_ ?_ ?_ ?_ ?_ ?_ ?_ ?_ ?_ ?_ ?_ (K.mf_mk ?_ ?_ ?_ ?_ ?_ ?_) (K.mf_mk ?_ ?_ ?_ ?_ ?_ ?_) (K.mf_mk ?_ ?_ ?_ ?_ ?_ ?_) (K.mf_mk ?_ ?_ ?_ ?_ ?_ ?_)
    all_goals try (first | k_is | kit_is | rfl | decide +kernel | (intro _ _ _ _ _ _ us hl; first | (obtain ⟨_, rfl⟩ := K.len_1 hl; rfl) | (obtain ⟨_, _, rfl⟩ := K.len_2 hl; rfl) | (obtain ⟨_, _, _, rfl⟩ := K.len_3 hl; rfl) | (obtain ⟨_, _, _, _, rfl⟩ := K.len_4 hl; rfl) | (obtain ⟨_, _, _, _, _, rfl⟩ := K.len_5 hl; rfl) | (cases us with | nil => rfl | cons _ _ => cases hl)))
