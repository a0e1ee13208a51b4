import PyProof.Rows.All
import Wide.All
import OpenK.AllK
import Wide.FinOn
import Lean
import PyProof.EqAt
import PyProof.EqKinds
import PyProof.TupleCall
import PySem.Challenge.RW_renamehall_k81_texts_of_no_hall
import KE.IntTextLaws
import KE.KIsAll
import PyProof.ExcArgsOwn
import PyProof.ExcBaseAll.ValueError
import PyProof.ExcClass2
import PyProof.ExcInit
import PyProof.InstStore
import PyProof.Rows.CatchBare
import PyProof.Rows.CatchOwn
import PyProof.StationsW
import PyProof.SumWalk
import PyProof.ReprRoads
set_option Elab.async false
set_option linter.all false
set_option maxRecDepth 100000
local macro_rules|`(tactic|trivial)=>`(tactic|first|exact Or.inl rfl|exact Or.inr rfl|fail)
local macro_rules|`(tactic|trivial)=>`(tactic|first|(refine⟨rfl,rfl,rfl,?_,rfl,?_,?_⟩<;>decide +kernel)|fail)
theorem gR0{α β:Type}{f:α->β}{l:List α}{i:Nat}{v:β}(h:(l.map f)[i]?=some v):∃z,l[i]?=some z/\v=f z:=by
 rw[List.getElem?_map] at h;cases e:l[i]? with
 |none=>rw[e] at h;cases h
 |some z=>rw[e] at h;cases h;exact⟨z,rfl,rfl⟩
open Array renaming getElem?_eq_some_iff→Dk,getElem?_eq_getElem→Du,length_toList→Fw,getElem?_toList→Hv,find?_toList→Ma,getD_eq_getD_getElem?→Mj,perm_iff_toList_perm→Mq,getElem?_eq_none→Ou,mem_toList_iff→Py,append_assoc→Qr,all_eq_true'→Rb
open Array.Perm renaming refl→Tu
open Bool renaming false_ne_true→Bh,false_eq_true→Bq,and_eq_true_iff→Cf,true_and→Er,and_eq_true→Et,eq_iff_iff→Iy,false_and→Pb,not_true→Qi,or_true→Rm,eq_false_iff→Sf
open Int renaming toNat_natCast→Eh,emod_lt_of_pos→Jo,le_refl→Kh,emod_nonneg→La,natAbs_natCast→Rc
open List renaming length_map→Ad,mem_cons_of_mem→Ai,length_append→Aj,mem_cons_self→Am,mem_singleton→An,map_cons→Ao,map_append→Ap,mem_append→Aq,mem_of_getElem?→Au,length_cons→Aw,size_toArray→Ax,mem_map→Ay,mem_cons→Az,getElem?_eq_some_iff→Ba,map_map→Bj,getElem?_map→Bk,mem_append_right→Bn,length_singleton→Bt,length_take→Bu,mem_append_left→Bw,take_of_length_le→Cg,take_length→Cj,length_pos_iff→Ck,all_eq_true→Cq,nodup_cons→Dd,length_drop→Dj,take_add_one→Dq,append_nil→Ei,length_nil→Fh,mem_of_mem_take→Fj,append_assoc→Fq,dropLast_concat_getLast→Fz,map_congr_left→Gz,find?_cons→Hf,getLast?_eq_some_getLast→Ho,lookup_cons→Ig,length_dropLast→Ii,getLastD_eq_getLast?→Ja,zip_cons_cons→Jr,pairwise_cons→Jt,filter_cons_of_neg→Ka,filter_cons_of_pos→Kb,not_mem_nil→Km,getElem?_set_ne→Kx,mem_of_mem_drop→Lk,eq_nil_of_length_eq_zero→Lm,filterMap_cons→Ln,replicate_succ→Lo,take_succ→Ly,contains_cons→Ml,getElem?_append_right→Mo,any_cons→Mp,map_take→Mu,flatten_cons→Mx,getElem?_eq_none_iff→Nc,getElem?_append_left→Nf,filter_cons→Nx,mem_of_mem_eraseIdx→Nz,pairwise_singleton→Oc,of_mem_zip→Of,forIn_cons→Og,getElem?_set_self→Oj,drop_of_length_le→Oy,dropLast_eq_take→Pl,mem_iff_getElem?→Pw,length_eraseIdx→Qd,dropLast_subset→Qe,mem_filterMap→Qt,filterMap_map→Qy,zip_nil_right→Rg,zip_nil_left→Rz,mapM_toArray→Sa,foldl_append→Se,nodup_append→Sg,map_id→Sm,zipIdx_cons→Sw,drop_length→Sy,mem_filter→Ta,length_set→Tg,foldl_cons→To
open Nat renaming le_refl→Ak,lt_of_lt_of_le→Be,ne_of_lt→Bf,le_trans→Bi,zero_le→Bo,le_succ_of_le→Dp,ne_of_gt→Fe,lt_irrefl→Ft,not_lt→Gd,lt_succ_self→Gs,succ_le_succ→Gv,lt_succ_of_lt→Hq,mul_le_mul_right→Il,le_succ→Ir,le_of_lt→Je,le_of_eq→Jj,pow_le_pow_right→Lj,lt_of_le_of_lt→Me,lt_succ_iff_lt_or_eq→Oa,sub_zero→Rf,succ_mul→Rh,min_le_left→Tx
open Ne renaming symm→Cd
open Option renaming map_eq_some_iff→Ci,bind_some→Eu,map_some→Iz,isSome_iff_exists→Nr,isSome_map→Rx,getD_none→Sq
open Option.some renaming inj→Dc
open PyProof.Rows renaming wpS_bind→Bx,wpS_pure→Cr,len_partsBetween→Cs,envOfC→Fx,slot_tuple_getitem→Ha,StrsAre→Hc,SortSt→Hh,get?_update_seq→Hy,callWith_type1→Ia,wpS_forRange→Jq,listItems_at→Js,AllBare→Jv,SortKind→Kn,lo1→Ko,callWith_builtin1→Kz,mirror→Ld,seqObj→Lh,pendingOf→Oh,subscriptTail_builtinR→Oo,mirror_perm→Ov,wpS_reverse→Ow,wpS_get→Pk,Constant_none→Qf,listUpdate_at→Qj,lt_str→Qn,IntsAre→Rq,tuples'→Rr,seqEpoch_at→Sl,failedOf→Ss,wpS_mono→Su,Subscript_→Tf,wpS_modify→Ts
open PyProof.Rows.IsTup renaming new→Ug
open PySem renaming wpAny_bind→Ab,wpAny_pure→Ae,Shared→Af,starEach→Bc,NameKind→Bd,boot_len→Bg,wpAny_mono→Bp,compareOp→Bs,wpAny_newObj_type→By,wpAny_holding→Bz,wpAny_field→Ca,mainGlobals→Cc,wpAny_call_entry→Co,wpAny_truthy_bool→Cu,wpAny_standAt→Cy,Paired→Cz,wpAny_callSpecial?_slot→Dh,excClassObj→Dm,Builtin→Dw,sizeLine_eq→Ea,backTo→Eg,mem_of_lookup→Ej,rawInt→Ek,wpAny_attempt→En,wpAny_Call_Name_kw→Ew,sysModules→Fb,compEnvC→Ff,wpAny_typeNameOfWhole_itemiter→Fg,codeAny→Fl,wpAny_loadPart_at→Fp,wpAny_typeNameOfWhole_keyiter→Fv,binaryOp→Fy,wpAny_setField_rec→Gf,wpAny_passesOwn→Gh,attributeBase→Gj,wpAny_dictEntries→Gk,wpAny_typeNameOf_itemiter→Gn,wpAny_setField→Gq,wpAny_typeNameOf_keyiter→Gw,behindInMarks→Hb,wpAny_call→Hd,call_meets→He,wpAny_dictEpoch→Hg,codeAny_builtin→Hi,bootBuiltins→Hr,codeAny_mono→Ht,wpAny_typeOf→Hu,assignEach→Ic,FuncData→Ie,codeAny_call_builtin→Ij,plainId_quiet→Im,keywordEach→Ip,sliceBounds→Iq,strIterType→Iu,wpAny_isSubtype_exc→Iv,wpAny_execs_nil→Iw,importedModules→Jb,tupleKind→Jc,swapsWith→Jf,pyNext→Jg,DictEntry→Jh,wpAny_comprehension_free→Jn,holding→Jw,typeIs_str→Jx,foldedSetIterable→Kd,wpAny_isOneOf_itemiter→Ki,getMethod→Kp,wpAny_notOrdered_dict→Kq,plainObj_wpAny_Assign_Attribute→Kt,Within→Kv,letOwnedTupleGo→Ky,wpAny_rule→Lb,standAt→Ls,wpAny_loadPart→Lu,backToKw→Lw,wpAny_fieldsOf→Lz,IsPart→Mc,tupleKind_room_in1→Mh,wpAny_assign_Name→Mv,wpAny_pyIter_list→Mz,typeLookup→Nh,callerA→Nj,wpAny_execs_cons→Nl,wpAny_lookBehind→Nn,pastItsLine_dict→Np,noFill_tuple_add→Nt,wpAny_isInstance→Nw,wpAny_updateSeq→Oi,wpAny_pyNext_list_item→Ol,subscripted→Om,wpAny_isTrue_Compare1→Oz,pyIter→Pa,wpAny_pyNext_list_end→Pc,BindsTo→Pd,exec_Assign_Name_used→Pe,wpAny_newTuple→Pf,isSubtype_stop→Pg,intText?→Ph,wpAny_isOneOf_keyiter→Pj,OsState→Pm,OwnTail→Pn,callWith→Pz,PlainAttrs→Qa,wpAny_newFunctionEnv→Qb,seq_tuple_add→Qh,PassesOwn→Qs,wpAny_nsSet1→Qv,concat_meets→Qx,ExcBaseFacts→Rk,treeTable→Ro,wpAny_pyIter_enum→Ru,wpAny_pyIter_slot→Ry,seqIndex_of→Sj,GenState→Sx,entryOfKey→Sz,wpAny_Name→Tb,wpAny_load→Tc,typeIs_int→Tj,call→Tq,closureFor→Tr,refuseLoop→Tv,getAttr→Tz,setAttr→Ua,Keyword→Ub
open PySem.Around renaming under_plainId→Fi,under→Nq
open PySem.AutoSeq1 renaming wpAny_loadPart'→Lg
open PySem.Builtin.Dict renaming showsAll→Kr
open PySem.Builtin.Dict_items renaming ownsTuple→Hx,ownedTupleFields→Jy
open PySem.Builtin.List renaming listItems→Gb,listFitsIndex→Mt,listTooLong→Nu,listSameRef→Ny
open PySem.Builtin.Slice renaming slicePlaces→Gm,sliceAdjust→Ng
open PySem.Builtin.SmallTypes renaming nextOf→Ni
open PySem.Builtin.Str renaming strSliceIndices→De,occurrences→Dg,tooLong→Ql,strKind→Qm
open PySem.Calls renaming Name_function_global→Mm,callWith_builtin→Oq
open PySem.Code renaming isFrame→Qw,quiet_builtin→Rl
open PySem.F renaming plainAttrs_str→Cb,plainAttrs_list→Ce,slot_dict_itemiterator_next→Dx,slot_list_append→Dy,type_list_append→Dz,slot_dict_keyiterator_next→Ed,slot_str_split→El,type_str_split→Em,plain_extend_loop→Gy,slot_enumerate_next→Hw,args_tuple_add_2→Jm,slot_list_getattribute→Ju,entry_tuple_add→Jz,slot_tuple_add→Kg,slot_str_lower→Kj,type_str_lower→Kk,args_dict_itemiterator_next_1→Ku,args_dict_keyiterator_next_1→Lc,entry_dict_itemiterator_next→Le,entry_dict_keyiterator_next→Ll,args_str_split_2→Mg,excBase_ValueError→Mr,excAttr_ValueError→Ms,entry_str_split→My,slot_str_split→Nv,args_enumerate_next_1→Ob,entry_enumerate_next→Ot,slot_dict_items_iter→Ox,entry_bexc_ga→Po,slot_str_join→Pp,type_str_join→Pq,slot_list_pop→Pr,type_list_pop→Pu,args_bexc_ga→Qc,entry_extend_loop→Qo,plain_list_iadd→Sd,slot_dict_iter→Sr,slot_int_rmul→Tp
open PySem.Heap renaming get?_push_of_some→Ag,lt_size→Al,get?_push_size→As,get?_update_other→Br,get?_update_self→Ex,SameBut→Ge,size_push→Gp,get?_none_of_le→Kw,ExtBut→Sk
open PySem.Heap.Ns1 renaming of_empty→Rt
open PySem.Heap.SameBut renaming update→Lq,refl→Na
open PySem.NumText renaming digitsVal→Bb
open PySem.Obj renaming mapFields→Eo,mapSeq→Ga,data_mapFields→Gg,isFreed_of_fields→Ks
open PySem.Paired renaming length→Fs
open PySem.PassesOwn renaming never→Dv
open PySem.PyData renaming eqv→Ds,eqvAll→Ep,depthAll→Ey,canLayAll0→Fo,depthAll→Gi,canLay0→Gr,canLay0→Ih,strOk→Jp,canLayAll0→Kc,depth→Li,depth→Mi
open PySem.SeqAt renaming EqAt→Cv,notIn_listAt→Qz,eqAt_reads→Sv,in_listAt→Ti
open PySem.SeqAt.EqAt renaming str_str→Md,int_str→Qp,str_int→Qq,same→Th
open PySem.Str renaming ofString→Ac,join→Lx,empty→Od
open PySem.StrLaws renaming sliceText→Cw,occ_length_le→Ez,join_split→Ri,split_free→Rj
open PySem.Txt renaming lower→Hj,split→Hm,split→Ib,join→Kl,slice→Ra,slice→Tw
open PySem.W renaming Frag→Ah,findIn→Bl,emptyDict→Cm,kitOne→Di,keepIn→Es,kia_one→Fu,fnOf→Gu,specialIn→Hn,looks_findIn→Hs,kitAny→Ik,nsIn→Io,instObj→Jd,InstAt→Ji,callWith_K→Jk,codeIn→Jl,hasDictIn→Ke,mroIn→Lv,takesIn→Mb,looks_clsIn→Mn,plainGet→Nd,clsIn→Nk,Frag→Nm,methodCall_KW→Oe,mg_of→Px,plainGet_of→Qg,looks_mroIn→Qk,check_slot→Rn,plainOver→Sh,set_plain→Si,lookIn→Sn,cellsFrom_some→So,handedIn→Td,isFn→Te,Looks→Uc,takerIn→Ud,makesIn→Ue,OpenLaw→Uh,findObj→Ui
open PySem.W.Looks renaming here→Qu
open PySem.Within renaming cons→Mw
namespace L2
open PySem PySem.Spec PyProof.Rows
abbrev Key:=Sum Int Str
def keyIs:Key->Value->Bool
 |.inl k,v=>Value.isInt k v
 |.inr x,v=>Value.isStrOf x v
def keyH(w:World):Key->Int
 |.inl k=>hashInt k
 |.inr x=>hashStr w x
theorem q1a:∀{k:Key} {v:Value},keyIs k v=true->(∃i t,k=Sum.inl i/\v=Value.int i t)\/(∃x t,k=Sum.inr x/\v=Value.str x t)
 |.inl i,v,h=>by
  obtain⟨t,e⟩:=Value.isInt_shape (k:=i) (v:=v) h;exact .inl ⟨i,t,rfl,e⟩
 |.inr x,v,h=>by
  obtain⟨t,e⟩:=Value.isStrOf_shape h;exact .inr ⟨x,t,rfl,e⟩
theorem z2q(i:Int)(t:Tok):keyIs (.inl i) (.int i t)=true:=by simp[keyIs,Value.isInt]
theorem z2r(x:Str)(t:Tok):keyIs (.inr x) (.str x t)=true:=by simp[keyIs,Value.isStrOf]
theorem key_ll(a b:Int):decide ((Sum.inl a:Key)=Sum.inl b)=(a==b):=by grind
theorem key_rr(a b:Str):decide ((Sum.inr a:Key)=Sum.inr b)=decide (a=b):=by grind
theorem key_lr(a:Int)(b:Str):decide ((Sum.inl a:Key)=Sum.inr b)=false:=decide_eq_false (fun q=>nomatch q)
theorem key_rl(a:Str)(b:Int):decide ((Sum.inr a:Key)=Sum.inl b)=false:=decide_eq_false (fun q=>nomatch q)
def mixKind(prog:Program)(w:World):PySem.KeyKind prog w Key where
 is:=keyIs
 hash:=keyH w
 inj:=fun v a b ha hb=>by
  rcases q1a ha with⟨i,t,rfl,rfl⟩|⟨x,t,rfl,rfl⟩
  ·rcases q1a hb with⟨j,u,rfl,e⟩|⟨y,u,rfl,e⟩
   ·injection e with e1 _;rw[e1]
   ·exact nomatch e
  ·rcases q1a hb with⟨j,u,rfl,e⟩|⟨y,u,rfl,e⟩
   ·exact nomatch e
   ·injection e with e1 _;rw[e1]
 byValue:=fun k v h=>by
  rcases q1a h with⟨i,t,rfl,rfl⟩|⟨x,t,rfl,rfl⟩<;>rfl
 pyHash:=fun hv h=>by
  rcases q1a hv with⟨i,t,rfl,rfl⟩|⟨x,t,rfl,rfl⟩
  ·exact wpAny_pyHash_int h
  ·exact wpAny_pyHash_str h
 eqBool:=fun hu hv h=>by
  rcases q1a hu with⟨i,t,rfl,rfl⟩|⟨x,t,rfl,rfl⟩
  ·rcases q1a hv with⟨j,u,rfl,rfl⟩|⟨y,u,rfl,rfl⟩
   ·rw[key_ll] at h;exact wpAny_eqBool_int h
   ·rw[key_lr] at h;exact Qp i t y u _ _ _ _ h
  ·rcases q1a hv with⟨j,u,rfl,rfl⟩|⟨y,u,rfl,rfl⟩
   ·rw[key_rl] at h;exact Qq x t j u _ _ _ _ h
   ·rw[key_rr] at h;exact wpAny_eqBool_str h
 «strs» := fun k x t v h=>by
  rcases q1a h with⟨i,u,rfl,e⟩|⟨y,u,rfl,e⟩
  ·exact nomatch e
  ·injection e with e1 _
   subst e1
   cases v<;>rfl
theorem q9h(prog:Program)(w:World)(i:Int)(t:Tok):(mixKind prog w).is (.inl i) (.int i t)=true:=z2q i t
theorem q9i(prog:Program)(w:World)(x:Str)(t:Tok):(mixKind prog w).is (.inr x) (.str x t)=true:=z2r x t
inductive V where
 |non|bl (b:Bool)|int (i:Int)|str (x:Str)|byt (b:Array UInt8)|flt (b:UInt64)|ref (a:Addr)|ty (n:String)
 deriving DecidableEq
def RelV:V->Value->Prop
 |.non,u=>u=Value.none
 |.bl b,u=>u=Value.bool b
 |.int i,u=>∃t,u=Value.int i t
 |.str x,u=>∃t,u=Value.str x t
 |.byt b,u=>∃t,u=Value.bytes b t
 |.flt b,u=>∃t,u=Value.float b t
 |.ref a,u=>u=Value.ref a
 |.ty n,u=>u=Value.type n
abbrev Vals:List V->List Value->Prop:=Cz RelV
theorem Vals.length(r:Vals xs us):xs.length=us.length:=Fs r
theorem Vals.get:∀{xs:List V} {us:List Value} {i:Nat} {x:V},Vals xs us->xs[i]?=some x->∃u,us[i]?=some u/\RelV x u
 |_,_,_,_,.nil,e=>by simp at e
 |_,_,0,_,.cons r _,e=>by simp at e;subst e;exact⟨_,rfl,r⟩
 |_,_,i+1,x,.cons _ t,e=>by
  obtain⟨u,h1,h2⟩:=Vals.get (i:=i) (x:=x) t (by simpa using e);exact⟨u,by simpa using h1,h2⟩
theorem Vals.set{x:V}{u:Value}(r:RelV x u):∀{xs:List V} {us:List Value} (i:Nat),Vals xs us->Vals (xs.set i x) (us.set i u)
 |_,_,_,.nil=>.nil
 |_,_,0,.cons _ t=>.cons r t
 |_,_,i+1,.cons q t=>.cons q (Vals.set r i t)
theorem Vals.append:∀{xs ys:List V} {us ws:List Value},Vals xs us->Vals ys ws->Vals (xs++ys) (us++ws)
 |_,_,_,_,.nil,s=>s
 |_,_,_,_,.cons r t,s=>.cons r (Vals.append t s)
theorem Vals.take:∀{xs:List V} {us:List Value} (n:Nat),Vals xs us->Vals (xs.take n) (us.take n)
 |_,_,0,_=>.nil
 |_,_,_+1,.nil=>.nil
 |_,_,n+1,.cons r t=>.cons r (Vals.take n t)
theorem Vals.drop:∀{xs:List V} {us:List Value} (n:Nat),Vals xs us->Vals (xs.drop n) (us.drop n)
 |_,_,0,r=>r
 |_,_,_+1,.nil=>.nil
 |_,_,n+1,.cons _ t=>Vals.drop n t
theorem Vals.none_of:∀{xs:List V} {us:List Value} {i:Nat},Vals xs us->xs[i]?=none->us[i]?=none:=fun{xs us i} r e=>by
 have h1:=r.length;have h2:=Nc.mp e;exact Nc.mpr (by lia)
def RelO:Option V->Option Value->Prop
 |some v,some u=>RelV v u
 |none,none=>True
 |_,_=>False
def KV{κ:Type}:List (κ×V)->List (κ×Value)->Prop:=Cz fun(p:κ×V) (q:κ×Value)=>p.1=q.1/\RelV p.2 q.2
def kV:Key->V
 |.inl i=>.int i
 |.inr x=>.str x
inductive HO where
 |lst (xs:List V)
 |tup (xs:List V)
 |dK (kvs:List (Key×V))|dT (kvs:List (List Key×V))
 |set (S:Int->Bool) (n:Nat)
 |ins (C dx:Addr) (fs:List (Str×V))
 |own (x:Addr)
 |xd (fs:List (Str×V))
 |met (f x:Addr)
 |rng (lo hi:Int)
 |frz (o:Obj) (u:HO)
 |tbl (ps:Array Value)
 |ext (φ:Heap->Prop)
abbrev Hp:=Addr->Option HO
def upd(H:Hp)(a:Addr)(o:HO):Hp:=fun b=>if b=a then some o else H b
theorem q0b:upd H a o a=some o:=by unfold upd;rw[if_pos rfl]
theorem q0e(h:b≠a):upd H a o b=H b:=by unfold upd;rw[if_neg h]
theorem z9k:upd (upd H a o) a u=upd H a u:=by
 funext b;unfold upd;split<;>rfl
theorem z2s{H:Hp}(h:H a=some o)(h':H b=some u)(d:o≠u):a≠b:=by grind
theorem q0n{H:Hp}(h:H a=some o)(h':H b=none):a≠b:=by
 intro e;subst e;rw[h] at h';cases h'
section
variable(P:Program)(w:World)
def ObjOk(H:Hp)(h:Heap)(a:Addr):HO->Prop
 |.lst xs=>xs.length<=sizeLine/\∃(its:List Value) (n:Nat),Vals xs its/\h.get? a=some { cls:=.type "list",data:=.seq its.toArray n }
 |.tup xs=>xs.length<=sizeLine/\∃its:List Value,Vals xs its/\IsTup h a its.toArray
 |.dK kvs=>kvs.length<=sizeLine/\(a==Fb)=false/\∃vs,KV kvs vs/\h.DictOf (mixKind P w) a vs
 |.dT kvs=>kvs.length<=sizeLine/\(a==Fb)=false/\∃xs:List (List Key×Addr×Value),
   Cz (fun(p:List Key×V) (q:List Key×Addr×Value)=>p.1=q.1/\H q.2.1=some (.tup (p.1.map kV))/\RelV p.2 q.2.2) kvs xs /\
   ∃o es ep,h.get? a=some o/\o.ExactDict/\o.data=.dict es ep/\es.toList=xs.map (Sz (Jc (mixKind P w)))/\(xs.map (·.1)).Nodup
 |.set S n=>h.SetOf (intKind P w) a S n
 |.ins C dx fs=>H dx=some (.own a)/\fs.length<=1000/\dx≠a/\h.get? a=some (Jd C dx) /\
   ∃mA,h.Ns1 dx mA/\(∀f,RelO (fs.lookup f) (mA f))/\Kv mA (fs.map (·.1))
 |.own _=>∃o,h.get? a=some o
 |.xd fs=>∃mA,h.Ns1 a mA/\∀f,RelO (fs.lookup f) (mA f)
 |.rng lo hi=>∃t u v,h.get? a=some { cls:=.type "range",data:=.fields #[.int lo t,.int hi u,.int 1 v] }
 |.frz o u=>h.get? a=some o/\ObjOk H h a u
 |.tbl ps=>h.get? a=some { cls:=.none,data:=.fields ps }
 |.met f x=>h.get? a=some (W.methodObj (.ref f) (.ref x))
 |.ext φ=>φ h/\(∃o,h.get? a=some o)/\∀h1 h2:Heap,φ h1->(∀o,h1.get? a=some o->h2.get? a=some o)->φ h2
def HOk(H:Hp)(h:Heap):Prop:=∀a o,H a=some o->ObjOk P w H h a o
end
section
variable{P:Program}{w:World}{H H':Hp}{h h':Heap}{a:Addr}{o:HO}
theorem ObjOk.lt(x:ObjOk P w H h a o):a<h.objs.size:=by
 cases o with
 |lst xs=>obtain⟨_,_,_,_,e⟩:=x;exact Al e
 |tup xs=>obtain⟨_,_,_,p⟩:=x;exact p.lt
 |dK kvs=>obtain⟨_,_,_,_,o,_,_,e,_⟩:=x;exact Al e
 |dT kvs=>obtain⟨_,_,_,_,o,_,_,e,_⟩:=x;exact Al e
 |set S n=>obtain⟨o,_,_,_,e,_⟩:=x;exact Al e
 |ins C dx fs=>obtain⟨_,_,_,e,_⟩:=x;exact Al e
 |own y=>obtain⟨_,e⟩:=x;exact Al e
 |xd fs=>obtain⟨_,⟨_,_,_,e,_⟩,_⟩:=x;exact Al e
 |rng lo hi=>obtain⟨_,_,_,e⟩:=x;exact Al e
 |frz ob u=>obtain⟨e,_⟩:=x;exact Al e
 |tbl ps=>exact Al (show h.get? a=some _ from x)
 |met f y=>exact Al (show h.get? a=some _ from x)
 |ext φ=>obtain⟨_,⟨_,e⟩,_⟩:=x;exact Al e
theorem Cz.mapP{α β:Type}{F G:α->β->Prop}:∀{l₁:List α} {l₂:List β},Cz F l₁ l₂->(∀a b,F a b->G a b)->Cz G l₁ l₂
 |_,_,.nil,_=>.nil
 |_,_,.cons r t,f=>.cons (f _ _ r) (Cz.mapP t f)
theorem Cz.imp'{F G:α->β->Prop}(f:∀a b,F a b->G a b){l₁:List α}{l₂:List β}(r:Cz F l₁ l₂):Cz G l₁ l₂:=Cz.mapP r f
theorem ObjOk.stay(x:ObjOk P w H h a o)(k:∀b u,(b=a\/H b=some (.own a))->h.get? b=some u->h'.get? b=some u)(ho:∀b,H b=some (.own a)->H' b=some (.own a))(ht:∀b xs,H b=some (.tup xs)->H' b=some (.tup xs)):ObjOk P w H' h' a o:=by
 induction o with
 |lst xs=>obtain⟨z,its,n,r,e⟩:=x;exact⟨z,its,n,r,k _ _ (.inl rfl) e⟩
 |tup xs=>obtain⟨z,its,r,ob,e,c⟩:=x;exact⟨z,its,r,ob,k _ _ (.inl rfl) e,c⟩
 |dK kvs=>obtain⟨z,y,vs,r,ob,es,ep,e,c⟩:=x;exact⟨z,y,vs,r,ob,es,ep,k _ _ (.inl rfl) e,c⟩
 |dT kvs =>
  obtain⟨z,y,xs,r,ob,es,ep,e,c⟩:=x;exact⟨z,y,xs,Cz.mapP r fun p q z=>⟨z.1,ht _ _ z.2.1,z.2.2⟩,ob,es,ep,k _ _ (.inl rfl) e,c⟩
 |set S n=>obtain⟨ob,es,ep,t,e,c⟩:=x;exact⟨ob,es,ep,t,k _ _ (.inl rfl) e,c⟩
 |ins C dx fs =>
  obtain⟨d,z,ne,e,mA,⟨od,es,ep,e2,c⟩,r⟩:=x;exact⟨ho _ d,z,ne,k _ _ (.inl rfl) e,mA,⟨od,es,ep,k _ _ (.inr d) e2,c⟩,r⟩
 |own y=>obtain⟨ob,e⟩:=x;exact⟨ob,k _ _ (.inl rfl) e⟩
 |xd fs=>obtain⟨mA,⟨od,es,ep,e,c⟩,r⟩:=x;exact⟨mA,⟨od,es,ep,k _ _ (.inl rfl) e,c⟩,r⟩
 |rng lo hi=>obtain⟨t,u,v,e⟩:=x;exact⟨t,u,v,k _ _ (.inl rfl) e⟩
 |frz ob u ih=>obtain⟨e,q⟩:=x;exact⟨k _ _ (.inl rfl) e,ih q⟩
 |tbl ps =>
  have e:h.get? a=some { cls:=.none,data:=.fields ps }:=x;exact k a _ (.inl rfl) e
 |met f y =>
  have e:=x;exact k a _ (.inl rfl) e
 |ext φ=>obtain⟨p,⟨o,e⟩,st⟩:=x;exact⟨st _ _ p fun o q=>k _ _ (.inl rfl) q,⟨o,k _ _ (.inl rfl) e⟩,st⟩
theorem HOk.lt(x:HOk P w H h)(e:H a=some o):a<h.objs.size:=(x a o e).lt
theorem HOk.fresh(x:HOk P w H h)(e:h.objs.size<=a):H a=none:=by
 cases q:H a with
 |none=>rfl
 |some u=>exact absurd (Be (x.lt q) e) (Ft _)
theorem HOk.kept(x:HOk P w H h)(k:∀b u,h.get? b=some u->h'.get? b=some u):HOk P w H h':=fun a o e =>
 (x a o e).stay (fun b u _ q=>k b u q) (fun _ q=>q) fun _ _ q=>q
theorem HOk.laid(x:HOk P w H h)(k:∀b u,h.get? b=some u->h'.get? b=some u)(hp:h.objs.size<=a)(new:ObjOk P w (upd H a o) h' a o):HOk P w (upd H a o) h':=fun b u e=>by
 have hn:=x.fresh hp;by_cases hb:b=a
 ·subst hb;rw[q0b] at e;cases e;exact new
 ·rw[q0e hb] at e;exact(x b u e).stay (fun c v _ q=>k c v q) (fun c q=>by rw[q0e (q0n q hn)];exact q) fun c xs q=>by rw[q0e (q0n q hn)];exact q
end
def Rd(H:Hp)(a:Addr)(u:HO):Prop:=H a=some u\/∃o,H a=some (.frz o u)
theorem Rd.of(h:H a=some u):Rd H a u:=.inl h
theorem Rd.ok(r:Rd H a u)(x:HOk P w H h):ObjOk P w H h a u:=by
 rcases r with r|⟨o,r⟩
 ·exact x a u r
 ·obtain⟨_,q⟩:=x a _ r;exact q
def Mut:Option HO->Prop
 |some (.lst _)=>True
 |some (.dK _)=>True
 |some (.dT _)=>True
 |some (.set _ _)=>True
 |some (.ins _ _ _)=>True
 |some (.ext _)=>True
 |_=>False
section
variable{P:Program}{w:World}{H:Hp}{h h':Heap}{x e:Addr}{o':HO}
theorem HOk.write(ok:HOk P w H h)(mu:Mut (H x))(he:e=x\/H e=some (.own x))(k:∀b u,b≠e->h.get? b=some u->h'.get? b=some u)(heo:∃u,h'.get? e=some u)(new:ObjOk P w (upd H x o') h' x o'):HOk P w (upd H x o') h':=fun b u q=>by
 have nown:∀c y,H c=some (.own y)->c≠x:=fun c y r z=>by subst z;rw[r] at mu;exact mu
 have ntup:∀c xs,H c=some (.tup xs)->c≠x:=fun c xs r z=>by subst z;rw[r] at mu;exact mu
 by_cases hb:b=x
 ·subst hb;rw[q0b] at q;cases q;exact new
 ·rw[q0e hb] at q;by_cases hbe:b=e
  ·have q':H b=some (.own x):=by
    rcases he with z|z
    ·grind
    ·rw[hbe];exact z
   rw[q] at q';cases q';obtain⟨v,hv⟩:=heo;exact⟨v,by rw[hbe];exact hv⟩
  ·refine(ok b u q).stay (fun c v hc r=>k c v ?_ r) (fun c r=>by rw[q0e (nown c b r)];exact r) fun c xs r=>by rw[q0e (ntup c xs r)];exact r
   rcases hc with rfl|hc
   ·exact hbe
   ·grind
end
structure Un (fs ex:List Addr) (H H':Hp) (h h':Heap):Prop where
 keep:∀b o,h.get? b=some o->H b=none->b∉fs->b∉ex->h'.get? b=some o
 slot:∀b o,h.get? b=some o->H b=none->b∈fs->b∉ex->∃sl,h'.get? b=some { o with slots:=sl }
 free:∀b o,h.get? b=some o->H b=none->b∉ex->H' b=none
 there:∀b o,h.get? b=some o->b∉ex->∃o',h'.get? b=some o'
 tups:∀b xs,H b=some (.tup xs)->H' b=some (.tup xs)
 frzs:∀b o u,H b=some (.frz o u)->H' b=some (.frz o u)
 tbls:∀b ps,H b=some (.tbl ps)->∃more,H' b=some (.tbl (ps++more))
section
variable{fs fs' ex ex':List Addr}{H H1 H2:Hp}{h h1 h2 h':Heap}{a x e:Addr}{o:HO}
theorem Un.any(u:Un fs ex H H1 h h1)(q:h.get? b=some ob)(n:H b=none)(hx:b∉ex):∃sl,h1.get? b=some { ob with slots:=sl }:=by
 by_cases hb:b∈fs
 ·exact u.slot b ob q n hb hx
 ·exact⟨ob.slots,u.keep b ob q n hb hx⟩
theorem Un.trans(a:Un fs ex H H1 h h1)(b:Un fs ex H1 H2 h1 h2):Un fs ex H H2 h h2 where
 keep:=fun c ob q n hc hx=>b.keep c ob (a.keep c ob q n hc hx) (a.free c ob q n hx) hc hx
 slot:=fun c ob q n hc hx=>by
  obtain⟨sl,e1⟩:=a.slot c ob q n hc hx;obtain⟨sl',e2⟩:=b.slot c _ e1 (a.free c ob q n hx) hc hx;exact⟨sl',e2⟩
 free:=fun c ob q n hx=>by
  obtain⟨o',e1⟩:=a.there c ob q hx;exact b.free c o' e1 (a.free c ob q n hx) hx
 there:=fun c ob q hx=>by
  obtain⟨o',e1⟩:=a.there c ob q hx;exact b.there c o' e1 hx
 tups:=fun c xs q=>b.tups c xs (a.tups c xs q)
 frzs:=fun c ob xs q=>b.frzs c ob xs (a.frzs c ob xs q)
 tbls:=fun c ps q=>by
  obtain⟨m1,e1⟩:=a.tbls c ps q;obtain⟨m2,e2⟩:=b.tbls c _ e1;exact⟨m1++m2,by rw[e2,Qr]⟩
theorem Un.kept(k:∀b u,h.get? b=some u->h'.get? b=some u):Un fs ex H H h h' :=
 ⟨fun b ob q _ _ _=>k b ob q,fun b ob q _ _ _=>⟨ob.slots,k b ob q⟩,fun _ _ _ n _=>n,fun b ob q _=>⟨ob,k b ob q⟩,fun _ _ q=>q,fun _ _ _ q=>q,fun _ ps q=>⟨#[],by rw[q];simp⟩⟩
theorem Un.refl:Un fs ex H H h h:=Un.kept fun _ _ q=>q
theorem Un.laid(k:∀b u,h.get? b=some u->h'.get? b=some u)(hp:h.objs.size<=a)(hn:H a=none):Un fs ex H (upd H a o) h h' where
 keep:=fun b u q _ _ _=>k b u q
 slot:=fun b u q _ _ _=>⟨u.slots,k b u q⟩
 free:=fun b u q n _=>by rw[q0e (Bf (Be (Al q) hp))];exact n
 there:=fun b u q _=>⟨u,k b u q⟩
 tups:=fun b xs q=>by rw[q0e (q0n q hn)];exact q
 frzs:=fun b u xs q=>by rw[q0e (q0n q hn)];exact q
 tbls:=fun b ps q=>⟨#[],by rw[q0e (q0n q hn),q];simp⟩
theorem Un.write(mu:Mut (H x))(he:e=x\/H e=some (.own x))(k:∀b u,b≠e->h.get? b=some u->h'.get? b=some u)(heo:∃u,h'.get? e=some u):Un fs ex H (upd H x o) h h':=by
 have hx:∀b,H b=none->b≠x:=fun b n z=>by subst z;rw[n] at mu;exact mu
 have hb:∀b,H b=none->b≠e:=fun b n z=>by
  subst z;rcases he with r|r
  ·exact hx b n r
  ·rw[n] at r;cases r
 have hm:∀b u,H b=some u->¬Mut (some u)->b≠x:=fun b u q nm z=>by subst z;rw[q] at mu;exact nm mu
 refine⟨fun b u q n _ _=>k b u (hb b n) q,fun b u q n _ _=>⟨u.slots,k b u (hb b n) q⟩,fun b u q n _=>by rw[q0e (hx b n)];exact n,fun b u q _=>?_,
  fun b xs q=>by rw[q0e (hm b _ q fun z=>z)];exact q,fun b u xs q=>by rw[q0e (hm b _ q fun z=>z)];exact q,fun b ps q=>⟨#[],by rw[q0e (hm b _ q fun z=>z),q];simp⟩⟩
 by_cases hbe:b=e
 ·subst hbe;exact heo
 ·grind
theorem Un.mono(u:Un fs ex H H1 h h1)(hs:∀b∈fs,b∈fs')(hx:∀b∈ex,b∈ex'):Un fs' ex' H H1 h h1 :=
 ⟨fun b ob q n hb he=>u.keep b ob q n (fun z=>hb (hs b z)) fun z=>he (hx b z),fun _ _ q n _ he=>u.any q n fun z=>he (hx _ z),fun b ob q n he=>u.free b ob q n fun z=>he (hx b z),fun b ob q he=>u.there b ob q fun z=>he (hx b z),u.tups,u.frzs,u.tbls⟩
end
def trk(h:Heap)(H:Hp):List Addr:=(List.range h.objs.size).filter fun a=>(H a).isSome
def hidT(h:Heap)(H:Hp):Heap:=W.hideAll h (trk h H)
theorem z2t(h:Heap)(H:Hp):(hidT h H).objs.size=h.objs.size:=W.hideAll_size _ _
theorem z6j(e:h.get? b=some o)(n:H b=none):(hidT h H).get? b=some o :=
 W.hideAll_get _ e fun hm=>by
  have q:=(Ta.mp hm).2;rw[n] at q;simp at q
theorem z9l(e:(hidT h H).get? b=some o):h.get? b=some o/\H b=none:=by
 have e':=W.of_hideAll (trk h H) e;refine⟨e',?_⟩;cases q:H b with
 |none=>rfl
 |some x =>
  have hm:b∈trk h H:=Ta.mpr ⟨List.mem_range.mpr (Al e'),by simp[q]⟩;have z:(hidT h H).get? b=none:=W.hideAll_none (trk h H) hm;rw[z] at e;cases e
def allNews(g h:Heap)(L:Addr):List (Addr×Obj):=(List.range h.objs.size).filterMap fun a=>if a=L\/(g.get? a).isSome=true then none else(h.get? a).map fun o=>(a,o)
def rest(g h:Heap)(L d:Addr):List (Addr×Obj):=(allNews g h L).filter fun p=>decide (p.1≠d)
open PySem PySem.Spec PyProof.Rows
structure Mod (K:Ah) (mg:Str->Option Value) (base:Heap):Prop where
 kin:K.In base
 glob:base.Ns Cc mg
 blt:∃mb,base.Ns builtinsNs mb/\∀x:Str,x ≠ "__name__" -> mb x=Hr x
 nolimit:base.NoLimit
structure Cx where
 prog:Program
 w:World
 K:Ah
 mg:Str->Option Value
 base:Heap
 A:Around
 N:List Str
 s₀:Af
 H₀:Hp
 env:Env
 outer:List Env
 stack:List Env
 ex:List Addr
 fn:Str->Bool
 calm:Bool
 pn:List (Addr×Obj)
 xe:Value->Af->Prop
def frs(l:List Env):List Addr:=l.filterMap (·.frame)
abbrev Cx.fs(X:Cx):List Addr:=frs X.outer
def Vis(sc:Scope)(x:Str):Prop:=sc.names.lookup x=some .local\/sc.names.lookup x=some .cell\/sc.names.lookup x=some .free
def Loc(sc:Scope)(x:Str):Prop:=sc.names.lookup x=some .local\/sc.names.lookup x=some .cell
def Look(env:Env)(h:Heap)(m:Str->Option Value)(x:Str)(u:Value):Prop :=
 (env.kindOf x=some .local/\m x=some u)\/((env.kindOf x=some .cell\/env.kindOf x=some .free)/\∃c,env.cells.lookup x=some c/\h.IsCell c (some u))
structure Cx.Ok (X:Cx):Prop where
 mod:Mod X.K X.mg X.base
 kind:X.env.scope.kind=.function
 glob:X.env.globals=Cc
 blt:X.env.builtins=builtinsNs
 above:X.s₀.heap.objs.size<=X.env.locals
 inj:∀x y c,X.env.cells.lookup x=some c->X.env.cells.lookup y=some c->x=y
 has:∀x,(X.env.kindOf x=some .cell\/X.env.kindOf x=some .free)->∃c,X.env.cells.lookup x=some c
 cab:∀x c,X.fn x=true->X.env.cells.lookup x=some c->X.s₀.heap.objs.size<=c
 hd:X.calm=true->X.A.handled=none
 frames:X.A.frames=some X.stack
 stk:X.stack=X.outer\/(X.stack=X.env::X.outer/\X.env.frame=some X.env.locals)
 exf:∀b∈X.ex,b≠X.env.locals/\∀x c,X.env.cells.lookup x=some c->c≠b
 bs:∀b o,X.base.get? b=some o->X.s₀.heap.get? b=some o/\X.H₀ b=none
 bsz:X.base.objs.size<=X.s₀.heap.objs.size
 noex:∀b o,X.base.get? b=some o->b∉X.ex
 exfs:∀b∈X.ex,b∉X.fs
 funs:X.s₀.heap.FunFrames X.base X.outer
 frf:∀b∈X.fs,X.H₀ b=none
structure Inv (X:Cx) (pins:List (Addr×Obj)) (σ:List (Option V)) (H:Hp) (s:Af):Prop where
 ok:X.Ok
 os:s.os=X.s₀.os
 bare:Jv s.gens
 base:Un X.fs X.ex X.H₀ H X.s₀.heap s.heap
 loc:∃m,s.heap.Ns X.env.locals m/\∀(i:Nat) (x:Str) (v:V),X.N[i]?=some x->σ[i]?=some (some v)->Vis X.env.scope x->∃u,RelV v u/\Look X.env s.heap m x u
 cell:∀x c,X.env.cells.lookup x=some c->∃v,s.heap.IsCell c v
 free:H X.env.locals=none
 freeC:∀x c,X.env.cells.lookup x=some c->H c=none
 pin:∀p∈X.pn++pins,s.heap.get? p.1=some p.2/\H p.1=none/\p.1≠X.env.locals/\p.1∉X.fs/\∀v,p.2.data≠.cell v
 hok:HOk X.prog X.w H s.heap
 len:σ.length=X.N.length
section
variable{X:Cx}{pins:List (Addr×Obj)}{σ:List (Option V)}{H H':Hp}{s:Af}{h':Heap}
theorem Cx.Ok.nofr(ok:X.Ok)(e:X.base.get? b=some o):b∉X.fs:=fun hb=>by
 have:=(ok.funs.mem hb).1;rw[e] at this;cases this
theorem Inv.bs(I:Inv X pins σ H s):∀b o,X.base.get? b=some o->s.heap.get? b=some o/\H b=none:=fun b o e =>
 ⟨I.base.keep b o (I.ok.bs b o e).1 (I.ok.bs b o e).2 (I.ok.nofr e) (I.ok.noex b o e),I.base.free b o (I.ok.bs b o e).1 (I.ok.bs b o e).2 (I.ok.noex b o e)⟩
theorem Inv.bk(I:Inv X pins σ H s):∀b o,X.base.get? b=some o->s.heap.get? b=some o:=fun b o e=>(I.bs b o e).1
theorem Inv.mod(I:Inv X pins σ H s):Mod X.K X.mg X.base:=I.ok.mod
theorem Inv.kIn(I:Inv X pins σ H s):X.K.In s.heap:=I.ok.mod.kin.keeps I.bk
theorem Inv.nolimit(I:Inv X pins σ H s):s.heap.NoLimit:=I.ok.mod.nolimit.keeps I.bk
theorem Inv.fr(I:Inv X pins σ H s):∃m,Fr X.base X.env.locals s.heap m :=
 let ⟨m,hn,_⟩:=I.loc
 ⟨m,hn,I.bk,Bi I.ok.bsz I.ok.above⟩
theorem Inv.lt(I:Inv X pins σ H s):X.env.locals<s.heap.objs.size:=let ⟨_,hn,_⟩:=I.loc;hn.lt
theorem Inv.sz(I:Inv X pins σ H s):X.s₀.heap.objs.size<=s.heap.objs.size:=Bi I.ok.above (Je I.lt)
theorem Inv.nofs(I:Inv X pins σ H s){a:Addr}(h:s.heap.objs.size<=a):a∉X.fs:=fun hb=>by
 obtain⟨_,o,ho,_⟩:=I.ok.funs.mem hb;exact absurd (Be (Al ho) (Bi I.sz h)) (Ft _)
theorem Inv.cne(I:Inv X pins σ H s):∀x c,X.env.cells.lookup x=some c->c≠X.env.locals:=fun x c e z=>by
 obtain⟨v,o,ho,hd⟩:=I.cell x c e;obtain⟨m,⟨o',es,ep,ho',hd',_⟩,_⟩:=I.loc;rw[z,ho'] at ho;cases ho;rw[hd'] at hd;cases hd
theorem Inv.funs(I:Inv X pins σ H s):s.heap.FunFrames X.base X.outer:=by
 have all:∀(l:List Env),(∀b∈frs l,b∈X.fs)->X.s₀.heap.FunFrames X.base l->s.heap.FunFrames X.base l:=by
  intro l;induction l with
  |nil=>intro _ _;trivial
  |cons env r ih =>
   intro hs hl;obtain⟨hk,⟨L,o,hf,hn,ho,hd⟩,hr⟩:=hl;have hL:=hs L (by unfold frs;rw[Ln,hf];exact Am);obtain⟨sl,e⟩:=I.base.slot L o ho (I.ok.frf L hL) hL fun z=>I.ok.exfs L z hL;exact⟨hk,⟨L,_,hf,hn,e,hd⟩,ih (fun b hb=>hs b (by unfold frs;rw[Ln,hf];exact Ai _ hb)) hr⟩
 exact all X.outer (fun _ hb=>hb) I.ok.funs
theorem Inv.stack(I:Inv X pins σ H s):s.heap.FunFrames X.base X.stack:=by
 rcases I.ok.stk with e|⟨e,hf⟩
 ·rw[e];exact I.funs
 ·rw[e];obtain⟨m,hn,_⟩:=I.loc;refine .cons (by rw[I.ok.kind];decide) hf hn ?_ I.funs;exact Kw (Bi I.ok.bsz I.ok.above)
theorem Inv.stkSub(I:Inv X pins σ H s):∀b∈frs X.stack,b∈X.env.locals::X.fs:=fun b hb=>by
 rcases I.ok.stk with e|⟨e,hf⟩
 ·grind
 ·rw[e] at hb;unfold frs at hb;rw[Ln,hf] at hb;exact hb
theorem Inv.stkFree(I:Inv X pins σ H s):∀b∈frs X.stack,H b=none:=fun b hb=>by
 rcases Az.mp (I.stkSub b hb) with e|hb
 ·rw[e];exact I.free
 ·obtain⟨_,o,ho,_⟩:=I.ok.funs.mem hb;exact I.base.free b o ho (I.ok.frf b hb) fun z=>I.ok.exfs b z hb
theorem Inv.step{ch:List Addr}(I:Inv X pins σ H s)(hch:∀b∈ch,(b∈X.ex\/X.s₀.heap.objs.size<=b)/\b≠X.env.locals/\(∀x c,X.env.cells.lookup x=some c->c≠b)/\∀p∈X.pn++pins,p.1≠b)(keep:∀b o,b≠X.env.locals->b∉X.fs->b∉ch->s.heap.get? b=some o->H b=none->h'.get? b=some o)(slot:∀b o,b≠X.env.locals->b∈X.fs->b∉ch->s.heap.get? b=some o->H b=none->∃sl,h'.get? b=some { o with slots:=sl })(free:∀b o,b∉ch->s.heap.get? b=some o->H b=none->H' b=none)(there:∀b o,b∉ch->s.heap.get? b=some o->∃o',h'.get? b=some o')(tups:∀b xs,H b=some (.tup xs)->H' b=some (.tup xs))(frzs:∀b o u,H b=some (.frz o u)->H' b=some (.frz o u))(tbls:∀b ps,H b=some (.tbl ps)->∃more,H' b=some (.tbl (ps++more)))(ns:∀m,s.heap.Ns X.env.locals m->h'.Ns X.env.locals m)(hok:HOk X.prog X.w H' h')(hg:Jv g'):
  Inv X pins σ H' { s with heap:=h',gens:=g',drawn:=d',toks:=t' }:=by
 have neL:∀b o,X.s₀.heap.get? b=some o->b≠X.env.locals:=fun b o e=>Bf (Be (Al e) I.ok.above);have neC:∀b o,X.s₀.heap.get? b=some o->b∉X.ex->b∉ch:=fun b o e hx hb=>by
  rcases(hch b hb).1 with z|z
  ·exact hx z
  ·exact absurd (Be (Al e) z) (Ft _)
 have cellK:∀x c,X.env.cells.lookup x=some c->∀v,s.heap.IsCell c v->h'.IsCell c v:=fun x c e v ⟨o,ho,hd⟩=>by
  have nch:=fun z=>(hch c z).2.2.1 x c e rfl;by_cases hc:c∈X.fs
  ·obtain⟨sl,q⟩:=slot c o (I.cne x c e) hc nch ho (I.freeC x c e);exact⟨_,q,hd⟩
  ·exact⟨o,keep c o (I.cne x c e) hc nch ho (I.freeC x c e),hd⟩
 refine⟨I.ok,I.os,hg,⟨fun b o e n hb hx=>?_,fun b o e n hb hx=>?_,fun b o e n hx=>?_,fun b o e hx=>?_,fun b xs e=>tups b xs (I.base.tups b xs e),fun b o xs e=>frzs b o xs (I.base.frzs b o xs e),fun b ps e=>?_⟩,?_,fun x c e=>?_,?_,fun x c e=>?_,fun p hp=>?_,hok,I.len⟩
 ·exact keep b o (neL b o e) hb (neC b o e hx) (I.base.keep b o e n hb hx) (I.base.free b o e n hx)
 ·obtain⟨sl,e1⟩:=I.base.slot b o e n hb hx;obtain⟨sl',e2⟩:=slot b _ (neL b o e) hb (neC b o e hx) e1 (I.base.free b o e n hx);exact⟨sl',e2⟩
 ·obtain⟨o',e1⟩:=I.base.there b o e hx;exact free b o' (neC b o e hx) e1 (I.base.free b o e n hx)
 ·obtain⟨o',e1⟩:=I.base.there b o e hx;exact there b o' (neC b o e hx) e1
 ·obtain⟨m1,e1⟩:=I.base.tbls b ps e;obtain⟨m2,e2⟩:=tbls b _ e1;exact⟨m1++m2,by rw[e2,Qr]⟩
 ·obtain⟨m,hn,hl⟩:=I.loc;refine⟨m,ns m hn,fun i x v e1 e2 e3=>?_⟩;obtain⟨u,r,l⟩:=hl i x v e1 e2 e3;refine⟨u,r,?_⟩;rcases l with l|⟨k,c,e,z⟩
  ·exact .inl l
  ·exact .inr ⟨k,c,e,cellK x c e _ z⟩
 ·obtain⟨v,z⟩:=I.cell x c e;exact⟨v,cellK x c e v z⟩
 ·obtain⟨m,⟨o,_,_,ho,_⟩,_⟩:=I.loc;exact free _ o (fun z=>(hch _ z).2.1 rfl) ho I.free
 ·obtain⟨v,o,ho,hd⟩:=I.cell x c e;exact free c o (fun z=>(hch c z).2.2.1 x c e rfl) ho (I.freeC x c e)
 ·obtain⟨e,n,ne,nf,d⟩:=I.pin p hp;have nch:=fun z=>(hch p.1 z).2.2.2 p hp rfl
  exact⟨keep p.1 p.2 ne nf nch e n,free p.1 p.2 nch e n,ne,nf,d⟩
theorem Inv.un(I:Inv X pins σ H s)(u:Un X.fs [] H H' s.heap h')(hok:HOk X.prog X.w H' h'):Inv X pins σ H' { s with heap:=h',toks:=t' }:=by
 obtain⟨m,⟨o,es,ep,ho,r⟩,_⟩:=id I.loc;obtain⟨sl,hL⟩:=u.any ho I.free (by simp);exact I.step (g':=s.gens) (d':=s.drawn) (ch:=[]) (fun _ z=>nomatch z) (fun b o _ hb _ e n=>u.keep b o e n hb (by simp)) (fun b o _ hb _ e n=>u.slot b o e n hb (by simp)) (fun b o _ e n=>u.free b o e n (by simp)) (fun b o _ e=>u.there b o e (by simp)) u.tups u.frzs u.tbls (fun m' hm=>by
  obtain⟨o',es',ep',ho',r'⟩:=hm;rw[ho] at ho';cases ho';exact⟨_,es',ep',hL,r'⟩) hok I.bare
theorem Inv.call(I:Inv X pins σ H s)(u:Un (frs X.stack) ch H H' s.heap h')(hok:HOk X.prog X.w H' h')(hg:Jv g')(hch:∀b∈ch,(b∈X.ex\/X.s₀.heap.objs.size<=b)/\b≠X.env.locals/\(∀x c,X.env.cells.lookup x=some c->c≠b)/\∀p∈X.pn++pins,p.1≠b):
  Inv X pins σ H' { s with heap:=h',gens:=g',drawn:=d',toks:=t' }:=by
 obtain⟨m,⟨o,es,ep,ho,r⟩,_⟩:=id I.loc;obtain⟨sl,hL⟩:=u.any ho I.free fun z=>(hch _ z).2.1 rfl
 exact I.step hch (fun b o hL hb hc e n=>u.keep b o e n (fun z=>(Az.mp (I.stkSub b z)).elim hL hb) hc) (fun b o _ _ hc e n=>u.any e n hc) (fun b o hc e n=>u.free b o e n hc) (fun b o hc e=>u.there b o e hc) u.tups u.frzs u.tbls (fun m' hm=>by
  obtain⟨o',es',ep',ho',r'⟩:=hm;rw[ho] at ho';cases ho';exact⟨_,es',ep',hL,r'⟩) hok hg
theorem Inv.turned(I:Inv X pins σ H s)(k:∀b o,b≠it->s.heap.get? b=some o->h'.get? b=some o)(hn:H it=none)(hL:it≠X.env.locals)(h1:it∈X.ex\/X.s₀.heap.objs.size<=it)(h2:∀x c,X.env.cells.lookup x=some c->c≠it)(h3:∀p∈X.pn++pins,p.1≠it):Inv X pins σ H { s with heap:=h',toks:=t' }:=by
 have nit:∀b u,H b=some u->b≠it:=fun b u e z=>by rw[z,hn] at e;cases e
 refine I.step (g':=s.gens) (d':=s.drawn) (ch:=[it]) (fun b hb=>?_) (fun b o _ _ hc e _=>k b o (fun z=>hc (by simp[z])) e) (fun b o _ _ hc e _=>⟨o.slots,k b o (fun z=>hc (by simp[z])) e⟩) (fun _ _ _ _ n=>n)
  (fun b o hc e=>⟨o,k b o (fun z=>hc (by simp[z])) e⟩) (fun _ _ e=>e) (fun _ _ _ e=>e) (fun b ps e=>⟨#[],by rw[e];simp⟩) (fun m hm=>?_) (fun b u e=>?_) I.bare
 ·have e:b=it:=by simpa using hb
  subst e;exact⟨h1,hL,h2,h3⟩
 ·obtain⟨o,es,ep,ho,r⟩:=hm;exact⟨o,es,ep,k _ o (Cd hL) ho,r⟩
 ·refine(I.hok b u e).stay (fun c v hc q=>k c v ?_ q) (fun _ q=>q) fun _ _ q=>q;rcases hc with z|z
  ·rw[z];exact nit b u e
  ·exact nit c _ z
theorem Inv.tok(I:Inv X pins σ H s)(t:Nat):Inv X pins σ H { s with toks:=t }:=I.un (h':=s.heap) (t':=t) Un.refl I.hok
theorem Inv.kept(I:Inv X pins σ H s)(k:∀b u,s.heap.get? b=some u->h'.get? b=some u):Inv X pins σ H { s with heap:=h',toks:=t' }:=I.un (Un.kept k) (I.hok.kept k)
theorem Inv.laid{a:Addr}(I:Inv X pins σ H s)(k:∀b u,s.heap.get? b=some u->h'.get? b=some u)(hp:s.heap.objs.size<=a)(new:ObjOk X.prog X.w (upd H a o) h' a o):
  Inv X pins σ (upd H a o) { s with heap:=h',toks:=t' }:=I.un (Un.laid k hp (I.hok.fresh hp)) (I.hok.laid k hp new)
theorem Inv.write(I:Inv X pins σ H s)(mu:Mut (H x))(he:e=x\/H e=some (.own x))(k:∀b u,b≠e->s.heap.get? b=some u->h'.get? b=some u)(heo:∃u,h'.get? e=some u)(new:ObjOk X.prog X.w (upd H x o) h' x o):Inv X pins σ (upd H x o) { s with heap:=h',toks:=t' }:=I.un (Un.write mu he k heo) (I.hok.write mu he k heo new)
theorem Inv.weak(I:Inv X pins σ H s)(hl:σ'.length=σ.length)(w:∀(i:Nat) v,σ'[i]?=some (some v)->σ[i]?=some (some v)):Inv X pins σ' H s :=
 ⟨I.ok,I.os,I.bare,I.base,let ⟨m,hn,hl'⟩:=I.loc;⟨m,hn,fun i x v e1 e2 e3=>hl' i x v e1 (w i v e2) e3⟩,I.cell,I.free,I.freeC,I.pin,I.hok,hl.trans I.len⟩
theorem Inv.pins_of(I:Inv X pins σ H s)(h:∀p∈pins',s.heap.get? p.1=some p.2/\H p.1=none/\p.1≠X.env.locals/\p.1∉X.fs/\∀v,p.2.data≠.cell v):Inv X pins' σ H s :=
 ⟨I.ok,I.os,I.bare,I.base,I.loc,I.cell,I.free,I.freeC,fun p hp=>(Aq.mp hp).elim (fun z=>I.pin p (Bw _ z)) (h p),I.hok,I.len⟩
theorem q6t{N:List Str}(hN:N.Nodup){j:Nat}(a:N[i]?=some x)(b:N[j]?=some x):i=j:=by
 obtain⟨h1,e1⟩:=Ba.mp a;obtain⟨h2,e2⟩:=Ba.mp b;exact(List.getElem_inj hN).mp (e1.trans e2.symm)
theorem q4q(I:Inv X pins σ H s)(hN:X.N.Nodup)(hi:X.N[i]?=some x)(hx:Loc X.env.scope x)(r:RelV v u)(h:∀s',Inv X pins (σ.set i (some v)) H s'->(∃a,Ge a s.heap s'.heap/\(a=X.env.locals\/X.env.cells.lookup x=some a))->Q () s')(hf:X.fn x=true\/X.env.scope.names.lookup x=some .local:=by first|exact .inl rfl|exact .inr rfl|assumption):wpAny M A (storeName X.env x u) Q E s:=by
 obtain⟨m,hn,hl⟩:=id I.loc;have hcls:(X.env.scope.kind==.class||(X.env.scope.kind==.module&&X.env.locals != X.env.globals))=false:=by rw[I.ok.kind];rfl
 have hiσ:i<σ.length:=by rw[I.len];exact(Ba.mp hi).1
 have cne:=I.cne;have tracked:∀{a:Addr} {h':Heap},(∃o,s.heap.get? a=some o/\H a=none)->Ge a s.heap h'->HOk X.prog X.w H h':=fun{a h'} ha hs b ob e=>by
  obtain⟨_,_,hfree⟩:=ha;refine(I.hok b ob e).stay (fun c w' hc q=>(hs.2 c ?_).trans q) (fun _ q=>q) fun _ _ q=>q
  rcases hc with rfl|hc
  ·grind
  ·grind
 rcases hx with hk|hk
 ·refine wpAny_storeName_local hk hn (fun h' hn' hs=>?_) hcls;obtain⟨oL,_,_,hoL,_⟩:=id hn;refine h _ ⟨I.ok,I.os,I.bare,⟨fun b o e n hb hx=>?_,fun b o e n hb hx=>?_,I.base.free,fun b o e hx=>?_,I.base.tups,I.base.frzs,I.base.tbls⟩,⟨_,hn',fun j y v' e1 e2 e3=>?_⟩,fun y c e=>?_,I.free,I.freeC,fun p hp=>?_,tracked ⟨oL,hoL,I.free⟩ hs,by simpa using I.len⟩ ⟨_,hs,.inl rfl⟩
  ·exact(hs.2 b (Bf (Be (Al e) I.ok.above))).trans (I.base.keep b o e n hb hx)
  ·obtain⟨sl,e1⟩:=I.base.slot b o e n hb hx;exact⟨sl,(hs.2 b (Bf (Be (Al e) I.ok.above))).trans e1⟩
  ·obtain⟨o',e1⟩:=I.base.there b o e hx;exact⟨o',(hs.2 b (Bf (Be (Al e) I.ok.above))).trans e1⟩
  ·by_cases hj:j=i
   ·subst hj;rw[hi] at e1;cases e1;rw[Oj hiσ] at e2;cases e2;exact⟨u,r,.inl ⟨hk,by simp⟩⟩
   ·rw[Kx (Cd hj)] at e2;obtain⟨u',r',q⟩:=hl j y v' e1 e2 e3;refine⟨u',r',?_⟩;rcases q with⟨k,e⟩|⟨k,c,e,z⟩
    ·refine .inl ⟨k,?_⟩;have:y≠x:=fun e=>hj (q6t hN e1 (e▸hi));simp[this,e]
    ·exact .inr ⟨k,c,e,z.sameBut hs (cne y c e)⟩
  ·obtain⟨w',z⟩:=I.cell y c e;exact⟨w',z.sameBut hs (cne y c e)⟩
  ·obtain⟨e,n,ne,nf,d⟩:=I.pin p hp;exact⟨(hs.2 p.1 ne).trans e,n,ne,nf,d⟩
 ·have hfn:X.fn x=true:=by
   rcases hf with z|z
   ·exact z
   ·grind
  obtain⟨c,hc⟩:=I.ok.has x (.inl hk);obtain⟨w',z⟩:=I.cell x c hc;refine wpAny_storeName_cell I.ok.kind hk hc z (fun h' hc' hs=>?_);obtain⟨oc,hoc,hocd⟩:=id z;refine h { s with heap:=h' } ⟨I.ok,I.os,I.bare,⟨fun b o e n hb hx=>?_,fun b o e n hb hx=>?_,I.base.free,fun b o e hx=>?_,I.base.tups,I.base.frzs,I.base.tbls⟩,⟨m,hn.sameBut hs (Cd (cne x c hc)),fun j y v' e1 e2 e3=>?_⟩,fun y c' e=>?_,I.free,I.freeC,fun p hp=>?_,tracked ⟨oc,hoc,I.freeC x c hc⟩ hs,by simpa using I.len⟩ ⟨c,hs,.inr hc⟩
  ·exact(hs.2 b (Bf (Be (Al e) (I.ok.cab x c hfn hc)))).trans (I.base.keep b o e n hb hx)
  ·obtain⟨sl,e1⟩:=I.base.slot b o e n hb hx;exact⟨sl,(hs.2 b (Bf (Be (Al e) (I.ok.cab x c hfn hc)))).trans e1⟩
  ·obtain⟨o',e1⟩:=I.base.there b o e hx;exact⟨o',(hs.2 b (Bf (Be (Al e) (I.ok.cab x c hfn hc)))).trans e1⟩
  ·by_cases hj:j=i
   ·subst hj;rw[hi] at e1;cases e1;rw[Oj hiσ] at e2;cases e2;exact⟨u,r,.inr ⟨.inl hk,c,hc,hc'⟩⟩
   ·rw[Kx (Cd hj)] at e2;obtain⟨u',r',q⟩:=hl j y v' e1 e2 e3;refine⟨u',r',?_⟩;rcases q with q|⟨k,c',e,z'⟩
    ·exact .inl q
    ·refine .inr ⟨k,c',e,z'.sameBut hs ?_⟩;rintro rfl;exact hj (q6t hN e1 (I.ok.inj _ _ _ e hc▸hi))
  ·by_cases hcc:c'=c
   ·grind
   ·obtain⟨w2,z2⟩:=I.cell y c' e;exact⟨w2,z2.sameBut hs hcc⟩
  ·obtain⟨e,n,ne,nf,d⟩:=I.pin p hp;refine⟨(hs.2 p.1 ?_).trans e,n,ne,nf,d⟩;intro q;rw[q,hoc] at e;have q':=Dc e;exact d w' (by rw[<- q'];exact hocd)
theorem q6u(I:Inv X pins σ H s)(hN:X.N.Nodup)(hi:X.N[i]?=some x)(hx:Loc X.env.scope x)(r:RelV v u)(h:∀s',Inv X pins (σ.set i (some v)) H s'->Q () s')(hf:X.fn x=true\/X.env.scope.names.lookup x=some .local:=by first|exact .inl rfl|exact .inr rfl|assumption):wpAny M A (storeName X.env x u) Q E s :=
 q4q I hN hi hx r (fun s' I' _=>h s' I') hf
theorem Inv.call'(I:Inv X pins σ H s)(ho:s'.os=s.os)(u:Un (frs X.stack) ch H H' s.heap s'.heap)(hok:HOk X.prog X.w H' s'.heap)(hg:Jv s'.gens)(hch:∀b∈ch,(b∈X.ex\/X.s₀.heap.objs.size<=b)/\b≠X.env.locals/\(∀x c,X.env.cells.lookup x=some c->c≠b)/\∀p∈X.pn++pins,p.1≠b):Inv X pins σ H' s':=by
 obtain⟨h',g',d',t',o'⟩:=s';have e:=ho;subst e;exact I.call (g':=g') (t':=t') (d':=d') u hok hg hch
end
abbrev XK:=Value->Option Addr->Hp->Prop
abbrev St:=List (Option V)
abbrev VK:=V->Hp->Prop
abbrev TE:=St->Hp->VK->Prop
abbrev TT:=St->Hp->(Bool->Hp->Prop)->Prop
abbrev TA:=St->Hp->(List V->Hp->Prop)->Prop
structure Ends where
 nx:St->Hp->Prop
 rt:VK
 bk:St->Hp->Prop:=fun _ _=>False
 ct:St->Hp->Prop:=fun _ _=>False
abbrev TS:=Ends->St->Hp->Prop
def EP(X:Cx)(pins:List (Addr×Obj))(σ:St)(Q:VK)(u:Value)(s':Af):Prop:=∃v H',Inv X pins σ H' s'/\RelV v u/\Q v H'
def TP(X:Cx)(pins:List (Addr×Obj))(σ:St)(Q:Bool->Hp->Prop)(b:Bool)(s':Af):Prop:=∃H',Inv X pins σ H' s'/\Q b H'
def AP(X:Cx)(pins:List (Addr×Obj))(σ:St)(Q:List V->Hp->Prop)(us:List Value)(s':Af):Prop:=∃vs H',Inv X pins σ H' s'/\Vals vs us/\Q vs H'
def SP(X:Cx)(pins:List (Addr×Obj))(D:Ends)(f:Flow)(s':Af):Prop :=
 match f with
 |.next=>∃σ' H',Inv X pins σ' H' s'/\D.nx σ' H'
 |.brk=>∃σ' H',Inv X pins σ' H' s'/\D.bk σ' H'
 |.cont=>∃σ' H',Inv X pins σ' H' s'/\D.ct σ' H'
 |.ret u=>∃v σ' H',Inv X pins σ' H' s'/\RelV v u/\D.rt v H'
def PE(X:Cx)(e:Expr)(t:TE):Prop :=
 ∀(pins:List (Addr×Obj)) (s:Af) (σ:St) (H:Hp) (Q:VK),Inv X pins σ H s->t σ H Q->wpAny (model X.prog X.w) X.A (eval e X.env) (EP X pins σ Q) X.xe s
def PT(X:Cx)(e:Expr)(t:TT):Prop :=
 ∀(pins:List (Addr×Obj)) (s:Af) (σ:St) (H:Hp) (Q:Bool->Hp->Prop),Inv X pins σ H s->t σ H Q->wpAny (model X.prog X.w) X.A (isTrue e X.env (eval e X.env)) (TP X pins σ Q) X.xe s
def PW(X:Cx)(e:Expr)(t:TT):Prop :=
 ∀(whole:Sem Value) (pins:List (Addr×Obj)) (s:Af) (σ:St) (H:Hp) (Q:Bool->Hp->Prop),Inv X pins σ H s->t σ H Q->wpAny (model X.prog X.w) X.A (isTrue e X.env whole) (TP X pins σ Q) X.xe s
theorem PW.pt{X:Cx}{e:Expr}{t:TT}(h:PW X e t):PT X e t:=h _
def PA(X:Cx)(es:List Expr)(t:TA):Prop :=
 ∀(pos:Pos) (pins:List (Addr×Obj)) (s:Af) (σ:St) (H:Hp) (Q:List V->Hp->Prop),Inv X pins σ H s->t σ H Q->wpAny (model X.prog X.w) X.A (spliced (Eg pos (Bc es X.env))) (AP X pins σ Q) X.xe s
def PS(X:Cx)(st:Stmt)(t:TS):Prop :=
 ∀(pins:List (Addr×Obj)) (s:Af) (σ:St) (H:Hp) (D:Ends),Inv X pins σ H s->t D σ H->wpAny (model X.prog X.w) X.A (exec st X.env) (SP X pins D) X.xe s
def PSs(X:Cx)(st:List Stmt)(t:TS):Prop :=
 ∀(pins:List (Addr×Obj)) (s:Af) (σ:St) (H:Hp) (D:Ends),Inv X pins σ H s->t D σ H->wpAny (model X.prog X.w) X.A (execs st X.env) (SP X pins D) X.xe s
theorem thn{t:Sem α}{Q Q':α->Af->Prop}(h:wpAny M A t Q E s)(hQ:∀a s,Q a s->Q' a s):wpAny M A t Q' E s:=Bp h hQ fun _ _ x=>x
open PySem PySem.Spec PyProof.Rows
section
variable{X:Cx}
def tVar(i:Nat):TE:=fun σ H Q=>∃v,σ[i]?=some (some v)/\Q v H
def tC(v:V):TE:=fun _ H Q=>Q v H
theorem pe_var{pos:Pos}(hN:X.N[i]?=some x)(hv:Vis X.env.scope x)(hd:(x==("__debug__" : Str))=false:=by decide)(hcd:(x==("__classdict__" : Str))=false:=by decide):PE X (.Name x pos) (tVar i):=by
 intro pins s σ H Q I h;obtain⟨v,e,h⟩:=h;obtain⟨m,hn,hl⟩:=I.loc;obtain⟨u,r,l⟩:=hl i x v hN e hv;have fin:EP X pins σ Q u s:=⟨v,H,I,r,h⟩
 rcases l with⟨hk,hm⟩|⟨hk,c,hc,hcell⟩
 ·exact Tb (wpAny_loadName_local I.ok.kind hk hn hm fin) hd
 ·rcases hk with hk|hk
  ·exact Tb (wpAny_loadName_cell I.ok.kind hk hc hcell fin) hd
  ·exact Tb (wpAny_loadName_free I.ok.kind hk hc hcell fin hcd) hd
theorem q0g{i j pos}:PE X (.Constant (.int i) j pos) (tC (.int i)):=fun _ _ _ H _ I h=>wpAny_Constant_int ⟨.int i,H,I.tok _,⟨_,rfl⟩,h⟩
theorem q6v{b j pos}:PE X (.Constant (.bool b) j pos) (tC (.bl b)):=fun _ _ _ H _ I h=>Constant_bool ⟨.bl b,H,I,rfl,h⟩
theorem q1h{j pos}:PE X (.Constant .none j pos) (tC .non):=fun _ _ _ H _ I h=>Qf ⟨.non,H,I,rfl,h⟩
theorem q0h{x j pos}:PE X (.Constant (.str x) j pos) (tC (.str x)):=fun _ _ _ H _ I h=>Calls.Constant_str ⟨.str x,H,I.tok _,⟨_,rfl⟩,h⟩
def Gl(X:Cx)(x:Str):Prop:=X.env.kindOf x=some .globalImplicit
theorem q2o{σ:St}(I:Inv X pins σ H s)(hg:Gl X x)(hm:X.mg x=some u)(h:Q u s)(hd:(x==("__debug__" : Str))=false:=by decide):wpAny (model X.prog X.w) X.A (eval (.Name x pos) X.env) Q E s :=
 Mm I.ok.kind hg (Calls.loadGlobal_global (by rw[I.ok.glob];exact I.mod.glob.keeps I.bk) hm h) hd
theorem q7s{E:Value->Af->Prop}{σ:St}{pos:Pos}(I:Inv X pins σ H s)(hg:Gl X x)(hm:X.mg x=none)(hv:Hr x=some u)(h:Q u s)(hn:x ≠ "__name__" := by decide)(hd:(x==("__debug__" : Str))=false:=by decide):wpAny (model X.prog X.w) X.A (eval (.Name x pos) X.env) Q E s:=by
 obtain⟨mb,h1,h2⟩:=I.mod.blt;exact Mm I.ok.kind hg (Calls.loadGlobal_builtin (by rw[I.ok.glob];exact I.mod.glob.keeps I.bk) hm (by rw[I.ok.blt];exact h1.keeps I.bk) ((h2 x hn).trans hv) h) hd
theorem q0r{x:Str}{v:V}{u:Value}{pos:Pos}(hg:Gl X x)(hm:X.mg x=some u)(r:RelV v u)(hd:(x==("__debug__" : Str))=false:=by decide):PE X (.Name x pos) (tC v) :=
 fun _ _ _ H _ I h=>q2o I hg hm ⟨v,H,I,r,h⟩ hd
theorem q3x{x:Str}{v:V}{u:Value}{pos:Pos}(hg:Gl X x)(hm:X.mg x=none)(hv:Hr x=some u)(r:RelV v u)(hn:x ≠ "__name__" := by decide)(hd:(x==("__debug__" : Str))=false:=by decide):PE X (.Name x pos) (tC v) :=
 fun _ _ _ H _ I h=>q7s I hg hm hv ⟨v,H,I,r,h⟩ hn hd
variable{a b:Expr}{ta tb:TE}{pos:Pos}
def PC(X:Cx)(op:CmpOp)(a b:Expr)(t:TE):Prop :=
 ∀(pins:List (Addr×Obj)) (s:Af) (σ:St) (H:Hp) (Q:VK),Inv X pins σ H s->t σ H Q ->
  wpAny (model X.prog X.w) X.A (eval a X.env) (fun v s₁=>wpAny (model X.prog X.w) X.A (eval b X.env) (fun u s₂=>wpAny (model X.prog X.w) X.A (Bs op v u) (EP X pins σ Q) X.xe s₂) X.xe s₁) X.xe s
theorem nobehind(b:Expr)(h:op≠.In)(h2:op≠.NotIn):Hb op b=false:=by
 have e1:(op==CmpOp.In)=false:=by grind
 have e2:(op==CmpOp.NotIn)=false:=by grind
 cases b<;>simp[Hb,e1,e2]
def tIsN(ta:TE):TE:=fun σ H Q=>ta σ H fun x H1=>Q (.bl (decide (x=.non))) H1
def tNotN(ta:TE):TE:=fun σ H Q=>ta σ H fun x H1=>Q (.bl (!decide (x=.non))) H1
theorem RelV.none_iff(r:RelV x v):(v==Value.none)=decide (x=.non):=by
 cases x with
 |non=>cases r;rfl
 |bl _=>cases r;rfl
 |int _=>obtain⟨t,rfl⟩:=r;rfl
 |str _=>obtain⟨t,rfl⟩:=r;rfl
 |byt _=>obtain⟨t,rfl⟩:=r;rfl
 |flt _=>obtain⟨t,rfl⟩:=r;rfl
 |ref _=>cases r;rfl
 |ty _=>cases r;rfl
theorem q3m{j pos'}(ha:PE X a ta):PC X .Is a (.Constant .none j pos') (tIsN ta):=by
 intro pins s σ H Q I h;refine thn (ha pins s σ H _ I h) fun v s1 ⟨x,H1,I1,r1,q1⟩=>?_;exact Qf (is_none_gen ⟨.bl _,H1,I1,by rw[r1.none_iff];rfl,q1⟩)
theorem q6w{j pos'}(ha:PE X a ta):PC X .IsNot a (.Constant .none j pos') (tNotN ta):=by
 intro pins s σ H Q I h;refine thn (ha pins s σ H _ I h) fun v s1 ⟨x,H1,I1,r1,q1⟩=>?_;exact Qf (isnot_none_gen ⟨.bl _,H1,I1,by rw[r1.none_iff];rfl,q1⟩)
def tB(t:TE):TT:=fun σ H Q=>t σ H fun x H1=>∃c,x=.bl c/\Q c H1
theorem q1p{op:CmpOp}{t:TE}(h:PC X op a b t)(h1:Hb op b=false:=by first|exact nobehind _ (by decide) (by decide)|rfl):PT X (.Compare a [op] [b] pos) (tB t):=by
 intro pins s σ H Q I hw;refine Oz (thn (h pins s σ H _ I hw) fun v s1 h1=>thn h1 fun u s2 h2=>thn h2 fun c s3 ⟨x,H1,I1,r1,q1⟩=>?_) h1;obtain⟨d,rfl,q⟩:=q1;cases r1;exact Cu ⟨H1,I1,q⟩
variable{tA tB':TT}{rest:List Expr}
def tAnd(t u:TT):TT:=fun σ H Q=>t σ H fun c H1=>if c=true then u σ H1 Q else Q false H1
def tOr(t u:TT):TT:=fun σ H Q=>t σ H fun c H1=>if c=true then Q true H1 else u σ H1 Q
def tNot(t:TT):TT:=fun σ H Q=>t σ H fun c H1=>Q (!c) H1
theorem q2f(ha:PT X a tA):PW X (.BoolOp .And [a] pos) tA:=by
 intro wh pins s σ H Q I h;refine isTrue_and (thn (ha pins s σ H Q I h) fun c s1 e=>?_);cases c with
 |true=>exact isTrue_and_nil e
 |false=>exact e
theorem q1q(ha:PT X a tA):PW X (.BoolOp .Or [a] pos) tA:=by
 intro wh pins s σ H Q I h;refine isTrue_or (thn (ha pins s σ H Q I h) fun c s1 e=>?_);cases c with
 |false=>exact isTrue_or_nil e
 |true=>exact e
theorem q2p(ha:PT X a tA)(hb:PW X (.BoolOp .And (b::rest) pos) tB'):PW X (.BoolOp .And (a::b::rest) pos) (tAnd tA tB'):=by
 intro wh pins s σ H Q I h;refine isTrue_and (thn (ha pins s σ H _ I h) fun c s1 ⟨H1,I1,q1⟩=>?_);cases c with
 |true=>exact hb wh pins s1 σ H1 Q I1 q1
 |false=>exact⟨H1,I1,q1⟩
theorem q2n(ha:PT X a tA)(hb:PW X (.BoolOp .Or (b::rest) pos) tB'):PW X (.BoolOp .Or (a::b::rest) pos) (tOr tA tB'):=by
 intro wh pins s σ H Q I h;refine isTrue_or (thn (ha pins s σ H _ I h) fun c s1 ⟨H1,I1,q1⟩=>?_);cases c with
 |true=>exact⟨H1,I1,q1⟩
 |false=>exact hb wh pins s1 σ H1 Q I1 q1
theorem q2b(ha:PT X a tA):PT X (.UnaryOp .Not a pos) (tNot tA):=by
 intro pins s σ H Q I h;exact isTrue_not (ha pins s σ H (fun c H1=>Q (!c) H1) I h)
def tAndV(ta tb:TE):TE:=fun σ H Q=>ta σ H fun x H1=>∃c,x=.bl c/\if c=true then tb σ H1 Q else Q (.bl false) H1
def tOrV(ta tb:TE):TE:=fun σ H Q=>ta σ H fun x H1=>∃c,x=.bl c/\if c=true then Q (.bl true) H1 else tb σ H1 Q
theorem z0f{op}{t:TE}(h:PE X a t):PE X (.BoolOp op [a] pos) t:=fun pins s σ H Q I hw=>BoolOp_one (h pins s σ H Q I hw)
theorem z2u(ha:PE X a ta)(hb:PE X (.BoolOp .And (b::rest) pos) tb):PE X (.BoolOp .And (a::b::rest) pos) (tAndV ta tb):=by
 intro pins s σ H Q I h;refine BoolOp_and (thn (ha pins s σ H _ I h) fun v s1 ⟨x,H1,I1,r1,q1⟩=>?_);obtain⟨c,rfl,q1⟩:=q1;cases r1;refine Cu ?_;cases c with
 |true=>exact hb pins s1 σ H1 Q I1 q1
 |false=>exact⟨.bl false,H1,I1,rfl,q1⟩
theorem pe_or(ha:PE X a ta)(hb:PE X (.BoolOp .Or (b::rest) pos) tb):PE X (.BoolOp .Or (a::b::rest) pos) (tOrV ta tb):=by
 intro pins s σ H Q I h;refine BoolOp_or (thn (ha pins s σ H _ I h) fun v s1 ⟨x,H1,I1,r1,q1⟩=>?_);obtain⟨c,rfl,q1⟩:=q1;cases r1;refine Cu ?_;cases c with
 |false=>exact hb pins s1 σ H1 Q I1 q1
 |true=>exact⟨.bl true,H1,I1,rfl,q1⟩
end
open PySem PySem.Spec PyProof.Rows
def SqL(K:Ah)(H:Hp)(a:Addr)(xs:List V):Prop :=
 Rd H a (.lst xs) \/
  ∃(o:Obj) (its:Array Value) (n:Nat),K.lookup a=some o/\o.cls=.type "list" /\ o.dict=none/\o.data=.seq its n/\its.size<=sizeLine/\Vals xs its.toList
def SqT(K:Ah)(H:Hp)(a:Addr)(xs:List V):Prop :=
 Rd H a (.tup xs) \/
  ∃(o:Obj) (its:Array Value) (n:Nat),K.lookup a=some o/\o.cls=.type "tuple" /\ o.data=.seq its n/\its.size<=sizeLine/\Vals xs its.toList
def absV:Value->Option V
 |.none=>some .non
 |.bool b=>some (.bl b)
 |.int i _=>some (.int i)
 |.str x _=>some (.str x)
 |.bytes b _=>some (.byt b)
 |.float b _=>some (.flt b)
 |.ref a=>some (.ref a)
 |.type n=>some (.ty n)
 |_=>none
theorem RelV.abs(r:RelV x u):absV u=some x:=by
 cases x with
 |non=>cases r;rfl
 |bl _=>cases r;rfl
 |int _=>obtain⟨t,rfl⟩:=r;rfl
 |str _=>obtain⟨t,rfl⟩:=r;rfl
 |byt _=>obtain⟨t,rfl⟩:=r;rfl
 |flt _=>obtain⟨t,rfl⟩:=r;rfl
 |ref _=>cases r;rfl
 |ty _=>cases r;rfl
theorem RelV.inj(r:RelV x u)(q:RelV y u):x=y:=Dc (r.abs.symm.trans q.abs)
theorem Vals.inj:∀{xs ys:List V} {us:List Value},Vals xs us->Vals ys us->xs=ys
 |_,_,_,.nil,.nil=>rfl
 |_,_,_,.cons r t,.cons r' t'=>by rw[r.inj r',Vals.inj t t']
section
variable{X:Cx}{pins:List (Addr×Obj)}{σ:St}{H:Hp}{s:Af}{a:Addr}{xs ys:List V}
theorem SqL.of{K:Ah}(h:H a=some (.lst xs)):SqL K H a xs:=.inl (.inl h)
theorem SqT.of{K:Ah}(h:H a=some (.tup xs)):SqT K H a xs:=.inl (.inl h)
theorem Inv.list(I:Inv X pins σ H s)(h:SqL X.K H a xs):∃its:List Value,Vals xs its/\PlainL s.heap a its.toArray/\xs.length<=sizeLine:=by
 rcases h with h|⟨o,its,n,hk,hc,hd,hs,hz,r⟩
 ·obtain⟨z,its,n,r,e⟩:=h.ok I.hok;exact⟨its,r,⟨_,n,e,rfl,rfl,rfl⟩,z⟩
 ·refine⟨its.toList,r,⟨o,n,I.kIn a o hk,hc,hd,by simpa using hs⟩,?_⟩;have e:=r.length;simp only[Fw] at e;lia
theorem Inv.tuple(I:Inv X pins σ H s)(h:SqT X.K H a xs):∃its:List Value,Vals xs its/\IsTup s.heap a its.toArray/\xs.length<=sizeLine:=by
 rcases h with h|⟨o,its,n,hk,hc,hs,hz,r⟩
 ·obtain⟨z,its,r,p⟩:=h.ok I.hok;exact⟨its,r,p,z⟩
 ·refine⟨its.toList,r,⟨o,I.kIn a o hk,hc,n,by simpa using hs⟩,?_⟩;have e:=r.length;simp only[Fw] at e;lia
theorem Inv.list_inj(I:Inv X pins σ H s)(h:SqL X.K H a xs)(h':SqL X.K H a ys):xs=ys:=by
 obtain⟨its,r,⟨o,n,e,_,_,d⟩,_⟩:=I.list h;obtain⟨its',r',⟨o',n',e',_,_,d'⟩,_⟩:=I.list h';have:its=its':=by grind
 subst this;exact r.inj r'
theorem Inv.tuple_inj(I:Inv X pins σ H s)(h:SqT X.K H a xs)(h':SqT X.K H a ys):xs=ys:=by
 obtain⟨its,r,⟨o,e,_,n,d⟩,_⟩:=I.tuple h;obtain⟨its',r',⟨o',e',_,n',d'⟩,_⟩:=I.tuple h';have:its=its':=by grind
 subst this;exact r.inj r'
end
abbrev Cx.wish(X:Cx)(E:Value->Af->Prop):Cx:={ X with xe:=E }
abbrev Cx.nox(X:Cx):Cx:=X.wish fun _ _=>False
theorem Cx.Ok.wish{X:Cx}(ok:X.Ok)(E:Value->Af->Prop):(X.wish E).Ok :=
 ⟨ok.mod,ok.kind,ok.glob,ok.blt,ok.above,ok.inj,ok.has,ok.cab,ok.hd,ok.frames,ok.stk,ok.exf,ok.bs,ok.bsz,ok.noex,ok.exfs,ok.funs,ok.frf⟩
theorem Cx.Ok.unwish{X:Cx}(ok:(X.wish E).Ok):X.Ok :=
 ⟨ok.mod,ok.kind,ok.glob,ok.blt,ok.above,ok.inj,ok.has,ok.cab,ok.hd,ok.frames,ok.stk,ok.exf,ok.bs,ok.bsz,ok.noex,ok.exfs,ok.funs,ok.frf⟩
section
variable{X:Cx}{pins:List (Addr×Obj)}{σ:St}{H:Hp}{s:Af}{E:Value->Af->Prop}
theorem Inv.wish(I:Inv X pins σ H s)(E:Value->Af->Prop):Inv (X.wish E) pins σ H s:=⟨I.ok.wish E,I.os,I.bare,I.base,I.loc,I.cell,I.free,I.freeC,I.pin,I.hok,I.len⟩
theorem Inv.unwish(I:Inv (X.wish E) pins σ H s):Inv X pins σ H s:=⟨I.ok.unwish,I.os,I.bare,I.base,I.loc,I.cell,I.free,I.freeC,I.pin,I.hok,I.len⟩
theorem SP.unwish(h:SP (X.wish E) pins D f s'):SP X pins D f s':=by
 cases f with
 |next=>obtain⟨σ',H',I,q⟩:=h;exact⟨σ',H',I.unwish,q⟩
 |brk=>obtain⟨σ',H',I,q⟩:=h;exact⟨σ',H',I.unwish,q⟩
 |cont=>obtain⟨σ',H',I,q⟩:=h;exact⟨σ',H',I.unwish,q⟩
 |ret u=>obtain⟨v,σ',H',I,r,q⟩:=h;exact⟨v,σ',H',I.unwish,r,q⟩
theorem PE.nox(h:PE X.nox e t):PE X e t:=fun pins s σ H Q I hw =>
 Bp (h pins s σ H Q (I.wish _) hw) (fun _ _ ⟨v,H',I',r,q⟩=>⟨v,H',I'.unwish,r,q⟩) fun _ _ z=>False.elim z
theorem PT.nox(h:PT X.nox e t):PT X e t:=fun pins s σ H Q I hw =>
 Bp (h pins s σ H Q (I.wish _) hw) (fun _ _ ⟨H',I',q⟩=>⟨H',I'.unwish,q⟩) fun _ _ z=>False.elim z
theorem PSs.nox{st:List Stmt}(h:PSs X.nox st t):PSs X st t:=fun pins s σ H D I hw =>
 Bp (h pins s σ H D (I.wish _) hw) (fun _ _ q=>q.unwish) fun _ _ z=>False.elim z
end
section
variable{X:Cx}{st:Stmt}{rest:List Stmt}{t u:TS}{e:Expr}{te:TE}{pos:Pos}
def tNext:TS:=fun D σ H=>D.nx σ H
def tSeq(t u:TS):TS:=fun D σ H=>t { D with nx:=u D } σ H
theorem q0k:PSs X [] tNext:=fun _ _ σ H _ I h=>Iw ⟨σ,H,I,h⟩
theorem q0d(h1:PS X st t)(h2:PSs X rest u):PSs X (st::rest) (tSeq t u):=by
 intro pins s σ H D I h;refine Nl (thn (h1 pins s σ H { D with nx:=u D } I h) fun f s1 q=>?_);cases f with
 |next =>
  obtain⟨σ',H',I',q⟩:=q;exact h2 pins s1 σ' H' D I' q
 |ret v=>exact q
 |brk=>exact q
 |cont=>exact q
theorem q0f(h1:PS X st t):PSs X [st] t:=by
 intro pins s σ H D I h;refine Nl (thn (h1 pins s σ H D I h) fun f s1 q=>?_);cases f with
 |next=>exact Iw q
 |ret v=>exact q
 |brk=>exact q
 |cont=>exact q
theorem Inv.quiet{σ:St}(I:Inv X pins σ H s):interactive X.env=false:=by simp[interactive,I.ok.kind]
def tDrop(te:TE):TS:=fun D σ H=>te σ H fun _ H1=>D.nx σ H1
theorem q1z(he:PE X e te)(hs:Jf e none pos.line X.env=pure false:=by rfl):PS X (.Expr e pos) (tDrop te):=by
 intro pins s σ H D I h;exact wpAny_Expr_any (thn (he pins s σ H _ I h) fun v s1 ⟨x,H1,I1,r1,q1⟩=>⟨σ,H1,I1,q1⟩) I.quiet hs
def tRet(te:TE):TS:=fun D σ H=>te σ H D.rt
theorem q0m(he:PE X e te):PS X (.Return (some e) pos) (tRet te):=by
 intro pins s σ H D I h;exact wpAny_Return_some (thn (he pins s σ H _ I h) fun v s1 ⟨x,H1,I1,r1,q1⟩=>⟨x,σ,H1,I1,r1,q1⟩)
def tIfS(c:TT)(t u:TS):TS:=fun D σ H=>c σ H fun b H1=>if b=true then t D σ H1 else u D σ H1
theorem q0v{c:Expr}{a b:List Stmt}{tc:TT}(hc:PT X c tc)(ha:PSs X a t)(hb:PSs X b u):PS X (.If c a b pos) (tIfS tc t u):=by
 intro pins s σ H D I h;refine wpAny_If (thn (hc pins s σ H _ I h) fun d s1 ⟨H1,I1,q1⟩=>?_);cases d with
 |true=>exact ha pins s1 σ H1 D I1 q1
 |false=>exact hb pins s1 σ H1 D I1 q1
end
abbrev TG:=V->St->Hp->(St->Hp->Prop)->Prop
abbrev TGs:=List V->St->Hp->(St->Hp->Prop)->Prop
def PG(X:Cx)(target:Expr)(t:TG):Prop :=
 ∀(pins:List (Addr×Obj)) (s:Af) (σ:St) (H:Hp) (v:V) (u:Value) (Q:St->Hp->Prop),Inv X pins σ H s->RelV v u->t v σ H Q ->
  wpAny (model X.prog X.w) X.A (assign target X.env u) (fun _ s'=>∃σ' H',Inv X pins σ' H' s'/\Q σ' H') X.xe s
def PGs(X:Cx)(ts:List Expr)(t:TGs):Prop :=
 ∀(pins:List (Addr×Obj)) (s:Af) (σ:St) (H:Hp) (vs:List V) (us:List Value) (Q:St->Hp->Prop),Inv X pins σ H s->Vals vs us->t vs σ H Q ->
  wpAny (model X.prog X.w) X.A (assignInOrder ((Ic ts X.env).map (·.2)) us) (fun _ s'=>∃σ' H',Inv X pins σ' H' s'/\Q σ' H') X.xe s
abbrev TSet:=V->V->V->Hp->(Hp->Prop)->Prop
def PSet(X:Cx)(t:TSet):Prop :=
 ∀(pins:List (Addr×Obj)) (s:Af) (σ:St) (H:Hp) (o i v:V) (ov iv u:Value) (Q:Hp->Prop),Inv X pins σ H s->RelV o ov->RelV i iv->RelV v u->t o i v H Q ->
  wpAny (model X.prog X.w) X.A (setItem ov iv u) (fun _ s'=>∃H',Inv X pins σ H' s'/\Q H') X.xe s
section
variable{X:Cx}{pos:Pos}
def gName(i:Nat):TG:=fun v σ H Q=>Q (σ.set i (some v)) H
theorem q0q{i:Nat}{x:Str}(hN:X.N.Nodup)(hi:X.N[i]?=some x)(hx:Loc X.env.scope x)(hf:X.fn x=true\/X.env.scope.names.lookup x=some .local:=by first|exact .inl rfl|exact .inr rfl|assumption):PG X (.Name x pos) (gName i):=by
 intro pins s σ H v u Q I r h;exact Mv (q6u I hN hi hx r (fun s' I'=>⟨_,H,I',h⟩) hf)
def gNil:TGs:=fun vs σ H Q=>vs=[]/\Q σ H
def gCons(t:TG)(u:TGs):TGs:=fun vs σ H Q=>∃v r,vs=v::r/\t v σ H fun σ' H'=>u r σ' H' Q
theorem q1r:PGs X [] gNil:=by
 intro pins s σ H vs us Q I r h;obtain⟨e,h⟩:=h;exact assignInOrder_nil ⟨σ,H,I,h⟩
theorem q0t{e:Expr}{es:List Expr}{t:TG}{u:TGs}(h1:PG X e t)(h2:PGs X es u)(hs:(Ic (e::es) X.env).map (·.2)=assign e X.env::(Ic es X.env).map (·.2):=by rfl):PGs X (e::es) (gCons t u):=by
 intro pins s σ H vs us Q I r h;obtain⟨v,vr,e1,h⟩:=h;subst e1;cases r with
 |cons r rr =>
  rw[hs];refine assignInOrder_cons (thn (h1 pins s σ H _ _ _ I r h) fun _ s1 ⟨σ1,H1,I1,q1⟩=>?_);exact h2 pins s1 σ1 H1 _ _ Q I1 rr q1
def gTup(K:Ah)(n:Nat)(t:TGs):TG:=fun v σ H Q=>∃a xs,v=.ref a/\SqT K H a xs/\xs.length=n/\t xs σ H Q
theorem pg_tup{k:Nat}(hc:X.calm=true)(h:PGs X es t)(hn:(Ic es X.env).length=n:=by rfl)(hst:(Ic es X.env).findIdx? (·.1)=none:=by rfl):PG X (.Tuple es k pos) (gTup X.K n t):=by
 intro pins s σ H v u Q I r hw;obtain⟨a,xs,e1,hq,hl,hw⟩:=hw;subst e1;cases r;obtain⟨its,rv,ht,hz⟩:=I.tuple hq;refine assign_Tuple_tuple (I.ok.hd hc) ht (by simp[hn,<- hl,rv.length]) hst fun h' hx=>?_;have I1:Inv X pins σ H { s with heap:=h' }:=I.kept (t':=s.toks) fun b o e=>hx b o (Bf (Al e)) e;exact h pins _ σ H xs _ Q I1 (by simpa using rv) hw
def gSub(to ti:TE)(t:TSet):TG:=fun v σ H Q=>to σ H fun o H1=>ti σ H1 fun i H2=>t o i v H2 fun H3=>Q σ H3
theorem z0g{o i:Expr}{to ti:TE}{t:TSet}(ho:PE X o to)(hi:PE X i ti)(hs:PSet X t)(ha:∀v,assign (.Subscript o i pos) X.env v=(do
   let ov<-Jw [v] (eval o X.env);let iv<-Jw [v,ov] (eval i X.env)
   Ls pos
   Jw [v,ov,iv] (setItem ov iv v)
   release [v,ov,iv] []):=by intro _;rfl):PG X (.Subscript o i pos) (gSub to ti t):=by
 intro pins s σ H v u Q I r h;refine Ab (Bz (thn (ho pins s σ H _ I h) fun ov s1 ⟨x,H1,I1,r1,q1⟩=>?_));refine Ab (Bz (thn (hi pins s1 σ H1 _ I1 q1) fun iv s2 ⟨y,H2,I2,r2,q2⟩=>?_));refine Ab (Cy (Ab (Bz (thn (hs pins s2 σ H2 x y v ov iv u _ I2 r1 r2 r q2) fun _ s3 ⟨H3,I3,q3⟩=>?_))));exact wpAny_release ⟨σ,H3,I3,q3⟩
def tAsg(te:TE)(g:TG):TS:=fun D σ H=>te σ H fun x H1=>g x σ H1 D.nx
theorem q6d{tg e:Expr}{te:TE}{g:TG}(he:PE X e te)(hg:PG X tg g)(hs:swapsWithSole [tg] e pos.line X.env=pure false:=by rfl)(hw:swappedStores [tg] e X.env=pure none:=by rfl)(h1:(Ic [tg] X.env).map (·.2)=[assign tg X.env]:=by rfl):PS X (.Assign [tg] e pos) (tAsg te g):=by
 intro pins s σ H D I h;refine wpAny_Assign_stores (thn (he pins s σ H _ I h) fun v s1 ⟨x,H1,I1,r1,q1⟩=>?_) hs hw;rw[h1];exact thn (hg pins s1 σ H1 x v _ I1 r1 q1) fun _ s2 q=>q
theorem q0j{i:Nat}{x:Str}{e:Expr}{te:TE}{pos':Pos}(hN:X.N.Nodup)(hi:X.N[i]?=some x)(hx:Loc X.env.scope x)(he:PE X e te)(hs:Jf e (some (.Name x pos')) pos.line X.env=pure false:=by rfl)(hf:X.fn x=true\/X.env.scope.names.lookup x=some .local:=by first|exact .inl rfl|exact .inr rfl|assumption):
  PS X (.Assign [.Name x pos'] e pos) (tAsg te (gName i)):=by
 intro pins s σ H D I h;refine wpAny_Assign_Name (thn (he pins s σ H _ I h) fun v s1 ⟨y,H1,I1,r1,q1⟩=>?_) hs;exact q6u I1 hN hi hx r1 (fun s2 I2=>⟨_,H1,I2,q1⟩) hf
end
section
variable{X:Cx}{pos:Pos}
def tWhile(c:TT)(tb:TS):TS:=fun D σ H=>∃W:Nat->St->Hp->Prop,(∃m,W m σ H)/\∀m σ H,W m σ H ->
 c σ H fun b H1=>if b=true then ∃N:St->Hp->Prop,(∀σ' H',N σ' H'->∃m',m'<m/\W m' σ' H')/\tb { D with nx:=N,ct:=N,bk:=D.nx } σ H1 else D.nx σ H1
theorem z6k{c:Expr}{body:List Stmt}{tc:TT}{tb:TS}(hp:Qs (model X.prog X.w) X.A X.env X.xe)(hc:PT X c tc)(hb:PSs X body tb):PS X (.While c body [] pos) (tWhile tc tb):=by
 intro pins s σ H D I h;obtain⟨W,⟨m0,w0⟩,turn⟩:=h;refine wpAny_While (codeAny_whileLoop (fun n s'=>∃σ' H',Inv X pins σ' H' s'/\W n σ' H') ?_ m0 ⟨σ,H,I,w0⟩);rintro n s1 ⟨σ1,H1,I1,w1⟩;refine Gh hp (thn (hc pins s1 σ1 H1 _ I1 (turn n σ1 H1 w1)) fun b s2 ⟨H2,I2,q2⟩=>?_);cases b with
 |true =>
  obtain⟨N,hN,q2⟩:=q2;refine Gh hp (thn (hb pins s2 σ1 H2 _ I2 q2) fun f s3 q3=>?_);cases f with
  |next =>
   obtain⟨σ3,H3,I3,n3⟩:=q3;obtain⟨m',hm,w3⟩:=hN σ3 H3 n3;exact⟨m',hm,σ3,H3,I3,w3⟩
  |cont =>
   obtain⟨σ3,H3,I3,n3⟩:=q3;obtain⟨m',hm,w3⟩:=hN σ3 H3 n3;exact⟨m',hm,σ3,H3,I3,w3⟩
  |brk=>exact q3
  |ret v=>exact q3
 |false =>
  exact Iw ⟨σ1,H2,I2,q2⟩
end
structure It where
 go:Nat->Hp->Prop
 yld:Nat->Hp->V->Hp->Prop
 stop:Nat->Hp->Prop
def FpOk(X:Cx)(pins:List (Addr×Obj))(H:Hp)(b:Addr):Prop :=
 H b=none/\b≠X.env.locals/\b∉X.fs/\(b∈X.ex\/X.s₀.heap.objs.size<=b)/\(∀x c,X.env.cells.lookup x=some c->c≠b)/\∀p∈X.pn++pins,p.1≠b
theorem Inv.fpOk{σ:St}{b:Addr}(I:Inv X pins σ H s)(hb:s.heap.objs.size<=b)(hn:H' b=none):FpOk X pins H' b:=by
 refine⟨hn,Fe (Be I.lt hb),I.nofs hb,.inr (Bi I.sz hb),fun x c e z=>?_,fun p hp z=>?_⟩
 ·obtain⟨v,q⟩:=I.cell x c e;exact absurd (Be q.lt (by rw[z];exact hb)) (Ft _)
 ·exact absurd (Be (Al (I.pin p hp).1) (by rw[z];exact hb)) (Ft _)
structure Turn (P:Program) (w:World) (K:Ah) (tg:Expr) (J:It) (fp:List Addr) (it:Addr) (tn:Nat->Heap->Prop):Prop where
 mem:it∈fp
 obj:∀i h,tn i h->∀b∈fp,∃o,h.get? b=some o/\∀v,o.data≠.cell v
 keep:∀i h h',tn i h->(∀b∈fp,∀o,h.get? b=some o->h'.get? b=some o)->tn i h'
 item:∀(X:Cx),X.prog=P->X.w=w->X.K=K->X.calm=true->∀(i:Nat) (pins:List (Addr×Obj)) (s:Af) (σ:St) (H:Hp) (E:Value->Af->Prop),Inv X pins σ H s->(∀b∈fp,FpOk X pins H b)->tn i s.heap->J.go i H ->
  wpAny (model P w) X.A (Jg (.ref it)) (fun r s1=>∃u,r=some u /\
   wpAny (model P w) X.A (Ky tg (.ref it) u) (fun _ s2=>∃x H',Inv X pins σ H' s2/\RelV x u/\J.yld i H x H'/\tn (i+1) s2.heap/\∀b∈fp,H' b=none) E s1) E s
 done:∀(X:Cx),X.prog=P->X.w=w->X.K=K->X.calm=true->∀(i:Nat) (pins:List (Addr×Obj)) (s:Af) (σ:St) (H:Hp) (E:Value->Af->Prop),Inv X pins σ H s->(∀b∈fp,FpOk X pins H b)->tn i s.heap->J.stop i H ->
  wpAny (model P w) X.A (Jg (.ref it)) (fun r s1=>r=none/\Inv X pins σ H s1) E s
 self:∀(A:Around) (i:Nat) (s:Af) (Q:Value->Af->Prop) (E:Value->Af->Prop),tn i s.heap->Q (.ref it) s->wpAny (model P w) A (Pa (.ref it)) Q E s
abbrev TI:=St->Hp->(It->Hp->Prop)->Prop
def PIE(X:Cx)(pins:List (Addr×Obj))(σ:St)(tg:Expr)(R:It->Hp->Prop)(itv:Value)(s2:Af):Prop :=
 ∃(it:Addr) (fp:List Addr) (tn:Nat->Heap->Prop) (J:It) (H':Hp),itv=.ref it/\Inv X pins σ H' s2/\Turn X.prog X.w X.K tg J fp it tn/\tn 0 s2.heap/\(∀b∈fp,FpOk X pins H' b)/\R J H'
def PI(X:Cx)(tg iter:Expr)(wi:TI):Prop :=
 ∀(pins:List (Addr×Obj)) (s:Af) (σ:St) (H:Hp) (R:It->Hp->Prop),Inv X pins σ H s->wi σ H R ->
  wpAny (model X.prog X.w) X.A (eval iter X.env) (fun v s1=>wpAny (model X.prog X.w) X.A (Pa v) (PIE X pins σ tg R) X.xe s1) X.xe s
theorem z1n (ho : s.heap.get? it = some o) (hc : o.cls = .type n) (hd : o.data = .fields vs)
    (hn : ["enumerate", "zip", "dict_itemiterator", "dict_reverseitemiterator", "odict_iterator", "itertools.zip_longest", "itertools.pairwise"].contains n = false) (hQ : Q () s) : wpAny M A (Ky tg (.ref it) u) Q E s := by
  cases tg <;> first
    | exact Ae hQ
    | (cases u <;> first
        | exact Ae hQ
        | (refine Ab (Tc ho ?_)
           rw [hc, hd]
           show wpAny M A (if (["enumerate", "zip", "dict_itemiterator", "dict_reverseitemiterator", "odict_iterator", "itertools.zip_longest", "itertools.pairwise"].contains n && vs[0]? == some (Ek _)) = true then _ else _) Q E s
           rw [if_neg (by intro h; rw [hn, Pb] at h; cases h)]
           exact Ae hQ))
def Itl(K:Ah)(a:Addr):It :=
 ⟨fun i H=>∃xs x,SqL K H a xs/\xs[i]?=some x,fun i H x H'=>H'=H/\∀xs,SqL K H a xs->xs[i]?=some x,fun i H=>∃xs,SqL K H a xs/\xs.length<=i⟩
def Itt(K:Ah)(a:Addr):It :=
 ⟨fun i H=>∃xs x,SqT K H a xs/\xs[i]?=some x,fun i H x H'=>H'=H/\∀xs,SqT K H a xs->xs[i]?=some x,fun i H=>∃xs,SqT K H a xs/\xs.length<=i⟩
def Itr(lo:Int)(n:Nat):It:=⟨fun i _=>i<n,fun i H x H'=>H'=H/\x=.int (lo+i),fun i _=>n<=i⟩
theorem z2v{K:Ah}(a it:Addr):Turn P w K tg (Itl K a) [it] it (fun i h=>h.IsListIter it a i) where
 mem:=by simp
 obj:=fun i h st b hb=>by
  have e:b=it:=by grind
  subst e;obtain⟨o,e,c,d⟩:=st;exact⟨o,e,fun v z=>by rw[d] at z;cases z⟩
 keep:=fun i h h' st k=>st.at fun o e=>k it (by simp) o e
 item:=by
  intro X hP hw hK hc i pins s σ H E I hf st hg;subst hP hw hK;obtain⟨xs,x,hq,hx⟩:=hg;obtain⟨its,rv,p,hz⟩:=I.list hq;obtain⟨u,hu,ru⟩:=rv.get hx;obtain⟨f0,f1,f2,f3,f4,f5⟩:=hf it (by simp);refine Ol st p.isList (by simpa using hu) fun h' st' sb=>?_;have I1:Inv X pins σ H { s with heap:=h' }:=I.turned (t':=s.toks) (fun b o hb e=>(sb.2 b hb).trans e) f0 f1 f3 f4 f5;obtain⟨o,e,c,d⟩:=id st';exact⟨u,rfl,z1n e c d (by decide) ⟨x,H,I1,ru,⟨rfl,fun ys hy=>by rw[I.list_inj hy hq];exact hx⟩,st',fun b hb=>(hf b hb).1⟩⟩
 done:=by
  intro X hP hw hK hc i pins s σ H E I hf st hg;subst hP hw hK;obtain⟨xs,hq,hx⟩:=hg;obtain⟨its,rv,p,hz⟩:=I.list hq;obtain⟨f0,f1,f2,f3,f4,f5⟩:=hf it (by simp);have hl:=rv.length;exact Pc (I.ok.hd hc) st p.isList (by simp;lia) fun h' eb=>⟨rfl,I.turned (t':=s.toks) (fun b o hb e=>eb b o hb e) f0 f1 f3 f4 f5⟩
 self:=fun _ _ _ _ _ st h=>wpAny_pyIter_listiter st h
theorem z1o{K:Ah}(a it:Addr):Turn P w K tg (Itt K a) [it] it (fun i h=>h.IsTupleIter it a i) where
 mem:=by simp
 obj:=fun i h st b hb=>by
  have e:b=it:=by grind
  subst e;obtain⟨o,e,c,d⟩:=st;exact⟨o,e,fun v z=>by rw[d] at z;cases z⟩
 keep:=fun i h h' st k=>st.at fun o e=>k it (by simp) o e
 item:=by
  intro X hP hw hK hc i pins s σ H E I hf st hg;subst hP hw hK;obtain⟨xs,x,hq,hx⟩:=hg;obtain⟨its,rv,p,hz⟩:=I.tuple hq;obtain⟨u,hu,ru⟩:=rv.get hx;obtain⟨f0,f1,f2,f3,f4,f5⟩:=hf it (by simp);refine wpAny_pyNext_tuple_item st (show s.heap.IsTuple a its.toArray from p) (by simpa using hu) fun h' st' sb=>?_;have I1:Inv X pins σ H { s with heap:=h' }:=I.turned (t':=s.toks) (fun b o hb e=>(sb.2 b hb).trans e) f0 f1 f3 f4 f5;obtain⟨o,e,c,d⟩:=id st';exact⟨u,rfl,z1n e c d (by decide) ⟨x,H,I1,ru,⟨rfl,fun ys hy=>by rw[I.tuple_inj hy hq];exact hx⟩,st',fun b hb=>(hf b hb).1⟩⟩
 done:=by
  intro X hP hw hK hc i pins s σ H E I hf st hg;subst hP hw hK;obtain⟨xs,hq,hx⟩:=hg;obtain⟨its,rv,p,hz⟩:=I.tuple hq;obtain⟨f0,f1,f2,f3,f4,f5⟩:=hf it (by simp);have hl:=rv.length;exact wpAny_pyNext_tuple_end (I.ok.hd hc) st (show s.heap.IsTuple a its.toArray from p) (by simp;lia) fun h' eb=>⟨rfl,I.turned (t':=s.toks) (fun b o hb e=>eb b o hb e) f0 f1 f3 f4 f5⟩
 self:=fun _ _ _ _ _ st h=>wpAny_pyIter_tupleiter st h
theorem z1p{K:Nm}(it:Addr)(lo:Int)(n:Nat):Turn P w K tg (Itr lo n) [it] it (fun i h=>IsRangeIter h it (lo+(i:Nat)*1) ((n:Int)-(i:Nat)) 1) where
 mem:=by simp
 obj:=fun i h st b hb=>by
  have e:b=it:=by grind
  subst e;exact⟨_,st,fun v z=>by
   have z':=z;cases z'⟩
 keep:=fun i h h' st k=>k it (by simp) _ st
 item:=by
  intro X hP hw hK hc i pins s σ H E I hf st hg;subst hP hw hK;obtain⟨f0,f1,f2,f3,f4,f5⟩:=hf it (by simp);have W:=Walks.range (prog:=X.prog) (w:=X.w) (I.ok.hd hc) it lo 1 n;refine W.item i s _ _ hg st fun v h' tk hv st' kk=>?_;obtain⟨t,rfl⟩:=hv;have I1:Inv X pins σ H { s with heap:=h',toks:=tk }:=I.turned (fun b o hb e=>kk b o (by simpa using hb) e) f0 f1 f3 f4 f5;refine⟨_,rfl,z1n st' rfl rfl (by decide) ⟨.int (lo+i),H,I1,⟨t,?_⟩,⟨rfl,rfl⟩,st',fun b hb=>(hf b hb).1⟩⟩;rw[Int.mul_one]
 done:=by
  intro X hP hw hK hc i pins s σ H E I hf st hg;obtain⟨f0,f1,f2,f3,f4,f5⟩:=hf it (by simp);exact wpAny_pyNext_range_end (I.ok.hd hc) st (by have:n<=i:=hg;lia) fun h' eb=>⟨rfl,I.turned (t':=s.toks) (fun b o hb e=>eb b o hb e) f0 f1 f3 f4 f5⟩
 self:=fun _ _ _ _ _ st h=>wpAny_pyIter_rangeiter st h
open PySem PySem.Spec PyProof.Rows
section
variable{X:Cx}{tg:Expr}
theorem z6l{σ:St}{lo:Int}(I:Inv X pins σ H s)(h1 : -(2^62)<=lo)(h2:lo<2^62)(h3 : -(2^62)<=hi)(h4:hi<2^62)(q:R (Itr lo (hi-lo).toNat) H):wpAny (model X.prog X.w) X.A (Pa (.ref s.heap.objs.size)) (PIE X pins σ tg R) E { s with heap:=s.heap.push { cls:=.type "range",data:=.fields #[.int lo t,.int hi u,.int 1 v] },toks:=tk }:=by
 refine wpAny_pyIter_range (IsRange.new ..) (small_one h1 h2 h3 h4) ?_;have I1:Inv X pins σ H { s with heap:=s.heap.push { cls:=.type "range",data:=.fields #[.int lo t,.int hi u,.int 1 v] },toks:=tk }:=I.kept fun b o e=>Ag _ e;refine⟨(s.heap.push { cls:=.type "range",data:=.fields #[.int lo t,.int hi u,.int 1 v] }).objs.size,[(s.heap.push { cls:=.type "range",data:=.fields #[.int lo t,.int hi u,.int 1 v] }).objs.size],_,_,H,rfl,
  I1.kept (t':=tk) fun b o e=>Ag _ e,z1p _ lo (hi-lo).toNat,?_,fun b hb=>?_,q⟩
 ·have e1:lo+((0:Nat):Int)*1=lo:=by simp
  have e2:(((hi-lo).toNat:Nat):Int)-((0:Nat):Int)=Dw.Range.rangeSize lo hi 1:=by rw[rangeSize_one];split<;>lia
  rw[e1,e2];exact As _ rfl
 ·have e:b=(s.heap.push { cls:=.type "range",data:=.fields #[.int lo t,.int hi u,.int 1 v] }).objs.size:=by simpa using hb
  subst e;exact I1.fpOk (Ak _) (I1.hok.fresh (Ak _))
def iRng1(ta:TA):TI:=fun σ H R=>ta σ H fun vs H1=>∃j:Int,vs=[.int j] /\ -(2^62)<=j/\j<2^62/\R (Itr 0 j.toNat) H1
theorem q2q{a:Expr}{ta:TA}{p pos:Pos}(hg:Gl X "range")(hm:X.mg "range" = none)(ha:PA X [a] ta)(hs:Bc [a] X.env=[(false,eval a X.env)]:=by rfl):PI X tg (.Call (.Name "range" p) [a] [] pos) (iRng1 ta):=by
 intro pins s σ H R I h;refine Call_ (q7s I hg hm boot_range (Ia (thn (ha pos pins s σ H _ I h) fun us s1 ⟨vs,H1,I1,r1,q1⟩=>?_) hs rfl));obtain⟨j,e,q1,q2,q⟩:=q1;subst e;cases r1 with
 |cons r rr =>
  cases rr;obtain⟨t,rfl⟩:=r;exact call_range_1 (z6l I1 (by lia) (by lia) q1 q2 (by simpa using q))
def tFor(wi:TI)(g:TG)(tb:TS):TS:=fun D σ H=>wi σ H fun J H1=>∃W:Nat->Nat->St->Hp->Prop,(∃m,W 0 m σ H1)/\∀i m σ H,W i m σ H ->
 (J.stop i H/\D.nx σ H)\/(J.go i H/\∃N:St->Hp->Prop,(∀σ' H',N σ' H'->∃m',m'<m/\W (i+1) m' σ' H')/\∀x H',J.yld i H x H'->g x σ H' fun σ2 H2=>tb { D with nx:=N,ct:=N,bk:=D.nx } σ2 H2)
def pinsAt(fp:List Addr)(h:Heap):List (Addr×Obj):=fp.filterMap fun b=>(h.get? b).map fun o=>(b,o)
theorem q1o(hb:b∈fp)(e:h.get? b=some o):(b,o)∈pinsAt fp h:=Qt.mpr ⟨b,hb,by rw[e];rfl⟩
theorem z2w(hp:p∈pinsAt fp h):p.1∈fp/\h.get? p.1=some p.2:=by
 obtain⟨b,hb,e⟩:=Qt.mp hp;cases q:h.get? b with
 |none=>rw[q] at e;cases e
 |some o =>
  rw[q] at e;have e':=Dc e;subst e';exact⟨hb,q⟩
theorem Inv.pinned{σ:St}(I:Inv X pins σ H s)(hf:∀b∈fp,FpOk X pins H b)(ho:∀b∈fp,∃o,s.heap.get? b=some o/\∀v,o.data≠.cell v):Inv X (pins++pinsAt fp s.heap) σ H s :=
 I.pins_of fun p hp=>(Aq.mp hp).elim (fun z=>I.pin p (Bn _ z)) fun z=>by
  obtain⟨hb,e⟩:=z2w z;obtain⟨f0,f1,f2,_⟩:=hf p.1 hb;obtain⟨o,e',d⟩:=ho p.1 hb;rw[e] at e';cases e';exact⟨e,f0,f1,f2,d⟩
theorem Inv.unpinned{σ:St}(I:Inv X (pins++pl) σ H s):Inv X pins σ H s:=I.pins_of fun p hp=>I.pin p (Bn _ (Bw _ hp))
theorem q2r{iter:Expr}{body:List Stmt}{wi:TI}{g:TG}{tb:TS}{pos:Pos}(hp:Qs (model X.prog X.w) X.A X.env X.xe)(hc:X.calm=true)(hi:PI X tg iter wi)(hg:PG X tg g)(hb:PSs X body tb)(hs:∀x,Kd iter X.env x=pure x:=by intro _;rfl):PS X (.For tg iter body [] pos) (tFor wi g tb):=by
 intro pins s σ H D I h;refine wpAny_For (thn (hi pins s σ H _ I h) fun v s1 h1=>thn h1 fun itv s2 h2=>?_) hs;obtain⟨it,fp,tn,J,H2,e,I2,T,st2,f2,W,⟨m0,w0⟩,turn⟩:=h2;subst e;have stat:∀{H':Hp},(∀b∈fp,H' b=none)->∀b∈fp,FpOk X pins H' b:=fun hn b hb=>⟨hn b hb,(f2 b hb).2⟩
 refine codeAny_forLoop_any (fun n s'=>∃i σ' H',Inv X pins σ' H' s'/\tn i s'.heap/\(∀b∈fp,H' b=none)/\W i n σ' H') ?_ m0 ⟨0,σ,H2,I2,st2,fun b hb=>(f2 b hb).1,w0⟩;rintro n s3 ⟨i,σ3,H3,I3,st3,fr3,w3⟩;rcases turn i n σ3 H3 w3 with⟨stop,qn⟩|⟨go,N,hN,step⟩
 ·refine Gh hp (thn (T.done X rfl rfl rfl hc i pins s3 σ3 H3 X.xe I3 (stat fr3) st3 stop) fun r s4 ⟨hr,I4⟩=>?_);subst hr;exact Iw ⟨σ3,H3,I4,qn⟩
 ·refine Gh hp (thn (T.item X rfl rfl rfl hc i pins s3 σ3 H3 X.xe I3 (stat fr3) st3 go) fun r s4 ⟨u,hr,h4⟩=>?_);subst hr;refine Gh hp (thn h4 fun _ s5 ⟨x,H5,I5,r5,y5,st5,fr5⟩=>?_);have I5':=I5.pinned (stat fr5) (T.obj _ _ st5);refine Gh hp (thn (hg _ s5 σ3 H5 x u _ I5' r5 (step x H5 y5)) fun _ s6 ⟨σ6,H6,I6,q6⟩=>?_);refine Gh hp (thn (hb _ s6 σ6 H6 _ I6 q6) fun f s7 q7=>?_);have again:∀{σ7:St} {H7:Hp},Inv X (pins++pinsAt fp s5.heap) σ7 H7 s7->N σ7 H7->∃m,m<n/\∃i σ' H',Inv X pins σ' H' s7/\tn i s7.heap/\(∀b∈fp,H' b=none)/\W i m σ' H':=fun{σ7 H7} I7 n7=>by
   obtain⟨m',hm,w7⟩:=hN σ7 H7 n7;refine⟨m',hm,i+1,σ7,H7,I7.unpinned,T.keep _ _ _ st5 fun b hb o e=>(I7.pin (b,o) (Bn _ (Bn _ (q1o hb e)))).1,fun b hb=>?_,w7⟩;obtain⟨o,e,d⟩:=T.obj _ _ st5 b hb;exact(I7.pin (b,o) (Bn _ (Bn _ (q1o hb e)))).2.1
  cases f with
  |next=>obtain⟨σ7,H7,I7,n7⟩:=q7;exact again I7 n7
  |cont=>obtain⟨σ7,H7,I7,n7⟩:=q7;exact again I7 n7
  |brk=>obtain⟨σ7,H7,I7,q7⟩:=q7;exact⟨σ7,H7,I7.unpinned,q7⟩
  |ret v=>obtain⟨x7,σ7,H7,I7,r7,q7⟩:=q7;exact⟨x7,σ7,H7,I7.unpinned,r7,q7⟩
end
theorem z0h{K:Nm}{g:TG}{tb:TS}{D:Ends}(Pv:Nat->St->Hp->Prop)(h0:Pv 0 σ H)(hl:∀i σ H,i<=xs.length->Pv i σ H->SqL K H a xs)(hs:∀i x σ H,xs[i]?=some x->Pv i σ H->g x σ H fun σ2 H2=>tb { D with nx:=Pv (i+1),ct:=Pv (i+1),bk:=D.nx } σ2 H2)(hd:∀σ H,Pv xs.length σ H->D.nx σ H):
  ∃W:Nat->Nat->St->Hp->Prop,(∃m,W 0 m σ H)/\∀i m σ H,W i m σ H ->
   ((Itl K a).stop i H/\D.nx σ H)\/((Itl K a).go i H/\∃N:St->Hp->Prop,(∀σ' H',N σ' H'->∃m',m'<m/\W (i+1) m' σ' H')/\∀x H',(Itl K a).yld i H x H'->g x σ H' fun σ2 H2=>tb { D with nx:=N,ct:=N,bk:=D.nx } σ2 H2):=by
 refine⟨fun i m σ H=>m=xs.length-i/\i<=xs.length/\Pv i σ H,⟨xs.length,by simp,Bo _,h0⟩,?_⟩;rintro i m σ H ⟨rfl,hi,p⟩;have q:=hl i σ H hi p;by_cases hlt:i<xs.length
 ·refine .inr ⟨⟨xs,xs[i],q,by simp[hlt]⟩,Pv (i+1),fun σ' H' p'=>⟨xs.length-(i+1),by lia,rfl,hlt,p'⟩,fun x H' y=>?_⟩;obtain⟨e,y⟩:=y;subst e;exact hs i x σ _ (y xs q) p
 ·have e:i=xs.length:=by lia
  subst e;exact .inl ⟨⟨xs,q,Ak _⟩,hd σ H p⟩
theorem z9m{K:Nm}{g:TG}{tb:TS}{D:Ends}(Pv:Nat->St->Hp->Prop)(h0:Pv 0 σ H)(hl:∀i σ H,i<=xs.length->Pv i σ H->SqT K H a xs)(hs:∀i x σ H,xs[i]?=some x->Pv i σ H->g x σ H fun σ2 H2=>tb { D with nx:=Pv (i+1),ct:=Pv (i+1),bk:=D.nx } σ2 H2)(hd:∀σ H,Pv xs.length σ H->D.nx σ H):
  ∃W:Nat->Nat->St->Hp->Prop,(∃m,W 0 m σ H)/\∀i m σ H,W i m σ H ->
   ((Itt K a).stop i H/\D.nx σ H)\/((Itt K a).go i H/\∃N:St->Hp->Prop,(∀σ' H',N σ' H'->∃m',m'<m/\W (i+1) m' σ' H')/\∀x H',(Itt K a).yld i H x H'->g x σ H' fun σ2 H2=>tb { D with nx:=N,ct:=N,bk:=D.nx } σ2 H2):=by
 refine⟨fun i m σ H=>m=xs.length-i/\i<=xs.length/\Pv i σ H,⟨xs.length,by simp,Bo _,h0⟩,?_⟩;rintro i m σ H ⟨rfl,hi,p⟩;have q:=hl i σ H hi p;by_cases hlt:i<xs.length
 ·refine .inr ⟨⟨xs,xs[i],q,by simp[hlt]⟩,Pv (i+1),fun σ' H' p'=>⟨xs.length-(i+1),by lia,rfl,hlt,p'⟩,fun x H' y=>?_⟩;obtain⟨e,y⟩:=y;subst e;exact hs i x σ _ (y xs q) p
 ·have e:i=xs.length:=by lia
  subst e;exact .inl ⟨⟨xs,q,Ak _⟩,hd σ H p⟩
theorem q4r{lo:Int}{g:TG}{tb:TS}{D:Ends}(Pv:Nat->St->Hp->Prop)(h0:Pv 0 σ H)(hs:∀i σ H,i<n->Pv i σ H->g (.int (lo+i)) σ H fun σ2 H2=>tb { D with nx:=Pv (i+1),ct:=Pv (i+1),bk:=D.nx } σ2 H2)(hd:∀σ H,Pv n σ H->D.nx σ H):
  ∃W:Nat->Nat->St->Hp->Prop,(∃m,W 0 m σ H)/\∀i m σ H,W i m σ H ->
   ((Itr lo n).stop i H/\D.nx σ H)\/((Itr lo n).go i H/\∃N:St->Hp->Prop,(∀σ' H',N σ' H'->∃m',m'<m/\W (i+1) m' σ' H')/\∀x H',(Itr lo n).yld i H x H'->g x σ H' fun σ2 H2=>tb { D with nx:=N,ct:=N,bk:=D.nx } σ2 H2):=by
 refine⟨fun i m σ H=>m=n-i/\i<=n/\Pv i σ H,⟨n,by simp,Bo _,h0⟩,?_⟩;rintro i m σ H ⟨rfl,hi,p⟩;by_cases hlt:i<n
 ·refine .inr ⟨hlt,Pv (i+1),fun σ' H' p'=>⟨n-(i+1),by lia,rfl,hlt,p'⟩,fun x H' y=>?_⟩;obtain⟨e,y⟩:=y;subst e y;exact hs i σ _ hlt p
 ·have e:i=n:=by lia
  subst e;exact .inl ⟨Ak _,hd σ H p⟩
theorem z6m(Pv:St->Hp->Prop)(μ:St->Hp->Nat)(h0:Pv σ H)(hs:∀σ H,Pv σ H->c σ H fun b H1=>if b=true then tb { D with nx:=fun σ' H'=>Pv σ' H'/\μ σ' H'<μ σ H,ct:=fun σ' H'=>Pv σ' H'/\μ σ' H'<μ σ H,bk:=D.nx } σ H1 else D.nx σ H1)(mono:∀σ H Q Q',(∀b H1,Q b H1->Q' b H1)->c σ H Q->c σ H Q'):tWhile c tb D σ H:=by
 refine⟨fun m σ H=>m=μ σ H/\Pv σ H,⟨_,rfl,h0⟩,?_⟩;rintro m σ H ⟨rfl,p⟩;refine mono σ H _ _ (fun b H1 q=>?_) (hs σ H p);cases b with
 |true=>exact⟨_,fun σ' H' ⟨p',l⟩=>⟨_,l,rfl,p'⟩,q⟩
 |false=>exact q
open PySem PySem.Spec PyProof.Rows
abbrev R2:=V->V->Hp->VK->Prop
def OpR(X:Cx)(f:Value->Value->Sem Value)(r:R2):Prop :=
 ∀(pins:List (Addr×Obj)) (s:Af) (σ:St) (H:Hp) (x y:V) (v u:Value) (Q:VK),Inv X pins σ H s->RelV x v->RelV y u->r x y H Q ->
  wpAny (model X.prog X.w) X.A (f v u) (EP X pins σ Q) X.xe s
def UnR(X:Cx)(f:Value->Sem Value)(r:V->Hp->VK->Prop):Prop :=
 ∀(pins:List (Addr×Obj)) (s:Af) (σ:St) (H:Hp) (x:V) (v:Value) (Q:VK),Inv X pins σ H s->RelV x v->r x H Q ->
  wpAny (model X.prog X.w) X.A (f v) (EP X pins σ Q) X.xe s
def CallR(X:Cx)(f:Value)(r:List V->Hp->VK->Prop):Prop :=
 ∀(pins:List (Addr×Obj)) (s:Af) (σ:St) (H:Hp) (xs:List V) (us:List Value) (Q:VK),Inv X pins σ H s->Vals xs us->r xs H Q ->
  wpAny (model X.prog X.w) X.A (call f us) (EP X pins σ Q) X.xe s
def TruR(X:Cx)(r:V->Hp->(Bool->Hp->Prop)->Prop):Prop :=
 ∀(pins:List (Addr×Obj)) (s:Af) (σ:St) (H:Hp) (x:V) (v:Value) (Q:Bool->Hp->Prop),Inv X pins σ H s->RelV x v->r x H Q ->
  wpAny (model X.prog X.w) X.A (truthy v) (TP X pins σ Q) X.xe s
def tOp(r:R2)(ta tb:TE):TE:=fun σ H Q=>ta σ H fun x H1=>tb σ H1 fun y H2=>r x y H2 Q
def tUn(r:V->Hp->VK->Prop)(ta:TE):TE:=fun σ H Q=>ta σ H fun x H1=>r x H1 Q
def rI(C:Int->Int->Prop)(g:Int->Int->V):R2:=fun x y H Q=>∃i j,x=.int i/\y=.int j/\C i j/\Q (g i j) H
def rI0(g:Int->Int->V):R2:=fun x y H Q=>∃i j,x=.int i/\y=.int j/\Q (g i j) H
def rU(g:Int->V):V->Hp->VK->Prop:=fun x H Q=>∃i,x=.int i/\Q (g i) H
section
variable{X:Cx}{a b c:Expr}{ta tb tc:TE}{pos:Pos}
theorem binT(ha:PE X a ta)(hb:PE X b tb){σ:St}{R:V->V->Hp->Prop}(I:Inv X pins σ H s)(h:ta σ H fun x H1=>tb σ H1 fun y H2=>R x y H2){f:Value->Value->Sem Value}(hf:∀v u s2 x y H2,Inv X pins σ H2 s2->RelV x v->RelV y u->R x y H2->wpAny (model X.prog X.w) X.A (f v u) Q X.xe s2):
  wpAny (model X.prog X.w) X.A (eval a X.env) (fun v s₁=>wpAny (model X.prog X.w) X.A (eval b X.env) (fun u s₂=>wpAny (model X.prog X.w) X.A (f v u) Q X.xe s₂) X.xe s₁) X.xe s:=by
 refine thn (ha pins s σ H _ I h) fun v s1 ⟨x,H1,I1,r1,q1⟩=>?_;refine thn (hb pins s1 σ H1 _ I1 q1) fun u s2 ⟨y,H2,I2,r2,q2⟩=>?_;exact hf v u s2 x y H2 I2 r1 r2 q2
theorem q0u{op:Operator}{r:R2}(ho:OpR X (Fy op) r)(ha:PE X a ta)(hb:PE X b tb):PE X (.BinOp a op b pos) (tOp r ta tb):=by
 intro pins s σ H Q I h;exact wpAny_BinOp (binT ha hb I h fun v u s2 x y H2 I2 rx ry q=>ho pins s2 σ H2 x y v u Q I2 rx ry q)
theorem q5x{op:UnaryOp}{r:V->Hp->VK->Prop}(ho:UnR X (unaryOp op) r)(ha:PE X a ta):PE X (.UnaryOp op a pos) (tUn r ta):=by
 intro pins s σ H Q I h;exact UnaryOp_ (thn (ha pins s σ H _ I h) fun v s1 ⟨x,H1,I1,r1,q1⟩=>ho pins s1 σ H1 x v Q I1 r1 q1)
theorem opI{g:Int->Int->Int}(rule:∀(i j:Int) (t u:Tok) (s:Af) (Q:Value->Af->Prop) (E:Value->Af->Prop),C i j->Q (.int (g i j) s.toks) { s with toks:=s.toks+1 }->wpAny (model X.prog X.w) X.A (f (.int i t) (.int j u)) Q E s):
  OpR X f (rI C fun i j=>.int (g i j)):=by
 intro pins s σ H x y v u Q I rx ry h;obtain⟨i,j,rfl,rfl,hc,q⟩:=h;obtain⟨t,rfl⟩:=rx;obtain⟨t',rfl⟩:=ry;exact rule i j t t' s _ _ hc ⟨.int (g i j),H,I.tok _,⟨_,rfl⟩,q⟩
theorem opI0{g:Int->Int->Int}(rule:∀(i j:Int) (t u:Tok) (s:Af) (Q:Value->Af->Prop) (E:Value->Af->Prop),Q (.int (g i j) s.toks) { s with toks:=s.toks+1 }->wpAny (model X.prog X.w) X.A (f (.int i t) (.int j u)) Q E s):
  OpR X f (rI0 fun i j=>.int (g i j)):=by
 intro pins s σ H x y v u Q I rx ry h;obtain⟨i,j,rfl,rfl,q⟩:=h;obtain⟨t,rfl⟩:=rx;obtain⟨t',rfl⟩:=ry;exact rule i j t t' s _ _ ⟨.int (g i j),H,I.tok _,⟨_,rfl⟩,q⟩
theorem opB0{g:Int->Int->Bool}(rule:∀(i j:Int) (t u:Tok) (s:Af) (Q:Value->Af->Prop) (E:Value->Af->Prop),Q (.bool (g i j)) s->wpAny (model X.prog X.w) X.A (f (.int i t) (.int j u)) Q E s):
  OpR X f (rI0 fun i j=>.bl (g i j)):=by
 intro pins s σ H x y v u Q I rx ry h;obtain⟨i,j,rfl,rfl,q⟩:=h;obtain⟨t,rfl⟩:=rx;obtain⟨t',rfl⟩:=ry;exact rule i j t t' s _ _ ⟨.bl (g i j),H,I,rfl,q⟩
def CDiv(i j:Int):Prop:=0<j/\j<1073741824
def CPow(i j:Int):Prop:=0<=j/\j<=1000000/\i.natAbs<2^64
def CMul(i j:Int):Prop:=(-(2^64)<i/\i<2^64)\/(-(2^64)<j/\j<2^64)
theorem CMul.ok(h:CMul i j):IntMulOk i j:=by
 rcases h with⟨h1,h2⟩|⟨h1,h2⟩
 ·exact .of_left (intBits_le_64 h1 h2)
 ·exact .of_right (intBits_le_64 h1 h2)
theorem op_add:OpR X (Fy .Add) (rI0 fun i j=>.int (i+j)):=opI0 fun _ _ _ _ _ _ _ q=>add_int q
theorem op_mul:OpR X (Fy .Mult) (rI CMul fun i j=>.int (i*j)):=opI fun _ _ _ _ _ _ _ hc q=>mul_int q hc.ok
theorem z2x:OpR X (Fy .FloorDiv) (rI CDiv fun i j=>.int (i / j)):=opI fun i j _ _ _ _ _ hc q=>by
 have h1:=hc.1;have h2:=hc.2;exact floordiv_int (by lia) (by rw[Int.fdiv_eq_ediv_of_nonneg i (by lia)];exact q) (.inl (PyProof.noPylong_small (by lia)))
theorem q6e:OpR X (Fy .Mod) (rI (fun _ j=>0<j) fun i j=>.int (i%j)):=opI fun i j _ _ _ _ _ hc q=>by
 exact mod_int' (by lia) (by rw[Int.fmod_eq_emod_of_nonneg i (by lia)];exact q)
theorem z2y:OpR X (Fy .Pow) (rI CPow fun i j=>.int (i^j.toNat)):=opI fun _ _ _ _ _ _ _ hc q=>pow_int_small hc.1 hc.2.1 hc.2.2 q
theorem unI{g:Int->Int}(rule:∀(i:Int) (t:Tok) (s:Af) (Q:Value->Af->Prop) (E:Value->Af->Prop),Q (.int (g i) s.toks) { s with toks:=s.toks+1 }->wpAny (model X.prog X.w) X.A (f (.int i t)) Q E s):
  UnR X f (rU fun i=>.int (g i)):=by
 intro pins s σ H x v Q I rx h;obtain⟨i,rfl,q⟩:=h;obtain⟨t,rfl⟩:=rx;exact rule i t s _ _ ⟨.int (g i),H,I.tok _,⟨_,rfl⟩,q⟩
theorem q3g:UnR X (unaryOp .USub) (rU fun i=>.int (-i)):=unI fun _ _ _ _ _ q=>neg_int q
end
def scal:V->V->Bool
 |.non,.non=>true|.non,.int _=>true|.int _,.non=>true|.non,.bl _=>true|.bl _,.non=>true|.non,.str _=>true|.str _,.non=>true
 |.int _,.int _=>true|.bl _,.bl _=>true|.str _,.str _=>true|.byt _,.byt _=>true
 |.int _,.str _=>true|.str _,.int _=>true|.bl _,.str _=>true|.str _,.bl _=>true
 |_,_=>false
def rEq:R2:=fun x y H Q=>scal x y=true/\Q (.bl (decide (x=y))) H
def rNe:R2:=fun x y H Q=>scal x y=true/\Q (.bl (!decide (x=y))) H
theorem z2z:decide (V.int i=V.int j)=(i==j):=by
 rw[Iy];simp
theorem z8j:decide (V.bl i=V.bl j)=(i==j):=by
 rw[Iy];simp
theorem dec_str:decide (V.str i=V.str j)=(i==j):=by
 rw[Iy];simp
theorem z3a:decide (V.byt i=V.byt j)=(i.toList==j.toList):=by
 rw[Iy];cases i;cases j;simp
section
variable{X:Cx}{a b c:Expr}{ta tb tc:TE}{pos:Pos}
theorem q0w{σ:St}(I:Inv X pins σ H s)(q:Q (.bl k) H)(e:k=k'):EP X pins σ Q (.bool k') s:=by
 subst e;exact⟨.bl k,H,I,rfl,q⟩
theorem op_eq:OpR X (Bs .Eq) rEq:=by
 intro pins s σ H x y v u Q I rx ry h;obtain⟨hs,q⟩:=h;cases x with
 |non =>
  cases rx;cases y with
  |non=>cases ry;exact PySem.EqNone.eq_none_none (q0w I q (by simp))
  |bl j=>cases ry;exact PySem.EqNone.eq_none_bool (q0w I q (by simp))
  |int j=>obtain⟨t',rfl⟩:=ry;exact PySem.EqNone.eq_none_int (q0w I q (by simp))
  |str j=>obtain⟨t',rfl⟩:=ry;exact PySem.EqNone.eq_none_str (q0w I q (by simp))
  |_=>exact absurd (show false=true from hs) Bh
 |bl i =>
  cases rx;cases y with
  |non=>cases ry;exact PySem.EqNone.eq_bool_none (q0w I q (by simp))
  |bl j=>cases ry;exact eq_bool (q0w I q z8j)
  |str j=>obtain⟨t',rfl⟩:=ry;exact PySem.EqMixed.eq_bool_str (q0w I q (by simp))
  |_=>exact absurd (show false=true from hs) Bh
 |int i =>
  obtain⟨t,rfl⟩:=rx;cases y with
  |non=>cases ry;exact PySem.EqNone.eq_int_none (q0w I q (by simp))
  |int j=>obtain⟨t',rfl⟩:=ry;exact eq_int (q0w I q z2z)
  |str j=>obtain⟨t',rfl⟩:=ry;exact PySem.EqMixed.eq_int_str (q0w I q (by simp))
  |_=>exact absurd (show false=true from hs) Bh
 |str i =>
  obtain⟨t,rfl⟩:=rx;cases y with
  |non=>cases ry;exact PySem.EqNone.eq_str_none (q0w I q (by simp))
  |bl j=>cases ry;exact PySem.EqMixed.eq_str_bool (q0w I q (by simp))
  |int j=>obtain⟨t',rfl⟩:=ry;exact PySem.EqMixed.eq_str_int (q0w I q (by simp))
  |str j=>obtain⟨t',rfl⟩:=ry;exact eq_str (q0w I q dec_str)
  |_=>exact absurd (show false=true from hs) Bh
 |byt i =>
  obtain⟨t,rfl⟩:=rx;cases y with
  |byt j=>obtain⟨t',rfl⟩:=ry;exact W.eq_bytes (q0w I q z3a)
  |_=>exact absurd (show false=true from hs) Bh
 |_=>cases y<;>exact absurd (show false=true from hs) Bh
theorem op_ne:OpR X (Bs .NotEq) rNe:=by
 intro pins s σ H x y v u Q I rx ry h;obtain⟨hs,q⟩:=h;cases x with
 |non =>
  cases rx;cases y with
  |non=>cases ry;exact PySem.EqNone.ne_none_none (q0w I q (by simp))
  |bl j=>cases ry;exact PySem.EqNone.ne_none_bool (q0w I q (by simp))
  |int j=>obtain⟨t',rfl⟩:=ry;exact PySem.EqNone.ne_none_int (q0w I q (by simp))
  |str j=>obtain⟨t',rfl⟩:=ry;exact PySem.EqNone.ne_none_str (q0w I q (by simp))
  |_=>exact absurd (show false=true from hs) Bh
 |bl i =>
  cases rx;cases y with
  |non=>cases ry;exact PySem.EqNone.ne_bool_none (q0w I q (by simp))
  |bl j=>cases ry;exact ne_bool (q0w I q (congrArg not z8j))
  |str j=>obtain⟨t',rfl⟩:=ry;exact PySem.EqMixed.ne_bool_str (q0w I q (by simp))
  |_=>exact absurd (show false=true from hs) Bh
 |int i =>
  obtain⟨t,rfl⟩:=rx;cases y with
  |non=>cases ry;exact PySem.EqNone.ne_int_none (q0w I q (by simp))
  |int j=>obtain⟨t',rfl⟩:=ry;exact ne_int (q0w I q (congrArg not z2z))
  |str j=>obtain⟨t',rfl⟩:=ry;exact PySem.EqMixed.ne_int_str (q0w I q (by simp))
  |_=>exact absurd (show false=true from hs) Bh
 |str i =>
  obtain⟨t,rfl⟩:=rx;cases y with
  |non=>cases ry;exact PySem.EqNone.ne_str_none (q0w I q (by simp))
  |bl j=>cases ry;exact PySem.EqMixed.ne_str_bool (q0w I q (by simp))
  |int j=>obtain⟨t',rfl⟩:=ry;exact PySem.EqMixed.ne_str_int (q0w I q (by simp))
  |str j=>obtain⟨t',rfl⟩:=ry;exact ne_str (q0w I q (congrArg not dec_str))
  |_=>exact absurd (show false=true from hs) Bh
 |byt i =>
  obtain⟨t,rfl⟩:=rx;cases y with
  |byt j=>obtain⟨t',rfl⟩:=ry;exact W.ne_bytes (q0w I q (congrArg not z3a))
  |_=>exact absurd (show false=true from hs) Bh
 |_=>cases y<;>exact absurd (show false=true from hs) Bh
theorem z6n:OpR X (Bs .Lt) (rI0 fun i j=>.bl (decide (i<j))):=opB0 fun _ _ _ _ _ _ _ q=>lt_int q
theorem z3b:OpR X (Bs .LtE) (rI0 fun i j=>.bl (decide (i<=j))):=opB0 fun _ _ _ _ _ _ _ q=>le_int q
theorem q3y:OpR X (Bs .Gt) (rI0 fun i j=>.bl (decide (j<i))):=opB0 fun _ _ _ _ _ _ _ q=>gt_int q
theorem op_in_str:OpR X (Bs .In) (fun x y H Q=>∃i j,x=.str i/\y=.str j/\Q (.bl (!(Dg j i 0 j.length 1).isEmpty)) H):=by
 intro pins s σ H x y v u Q I rx ry h;obtain⟨i,j,rfl,rfl,q⟩:=h;obtain⟨t,rfl⟩:=rx;obtain⟨t',rfl⟩:=ry;exact in_str (q0w I q rfl)
theorem OpR.or(h:OpR X f r)(h':OpR X f r'):OpR X f (fun x y H Q=>r x y H Q\/r' x y H Q):=by
 intro pins s σ H x y v u Q I rx ry q;rcases q with q|q
 ·exact h pins s σ H x y v u Q I rx ry q
 ·exact h' pins s σ H x y v u Q I rx ry q
theorem nomark(b:Expr)(h:op≠.In:=by decide)(h2:op≠.NotIn:=by decide):Hb op b=false:=by
 have e1:(op==CmpOp.In)=false:=by grind
 have e2:(op==CmpOp.NotIn)=false:=by grind
 cases b<;>simp[Hb,e1,e2]
theorem q1s{op:CmpOp}{r:R2}(ho:OpR X (Bs op) r)(ha:PE X a ta)(hb:PE X b tb)(hm:Hb op b=false):PE X (.Compare a [op] [b] pos) (tOp r ta tb):=by
 intro pins s σ H Q I h;exact wpAny_Compare1 (binT ha hb I h fun v u s2 x y H2 I2 rx ry q=>ho pins s2 σ H2 x y v u Q I2 rx ry q) hm
def tTest(t:TE):TT:=fun σ H Q=>t σ H fun x H'=>∃k,x=.bl k/\Q k H'
theorem q0l{op:CmpOp}{r:R2}(ho:OpR X (Bs op) r)(ha:PE X a ta)(hb:PE X b tb)(hm:Hb op b=false):PT X (.Compare a [op] [b] pos) (tTest (tOp r ta tb)):=by
 intro pins s σ H Q I h;refine Oz (thn (ha pins s σ H _ I h) fun v s1 ⟨x,H1,I1,r1,q1⟩=>thn (hb pins s1 σ H1 _ I1 q1) fun u s2 ⟨y,H2,I2,r2,q2⟩ =>
  thn (ho pins s2 σ H2 x y v u _ I2 r1 r2 q2) fun c s3 ⟨z,H3,I3,r3,k,e,q3⟩=>?_) hm
 subst e;cases r3;exact Cu ⟨H3,I3,q3⟩
def tChain(r r':R2)(ta tb tc:TE):TE:=fun σ H Q=>ta σ H fun x H1=>tb σ H1 fun y H2=>r x y H2 fun z H3=>∃k,z=.bl k /\
 (if k=true then tc σ H3 fun w' H4=>r' y w' H4 Q else Q (.bl false) H3)
theorem z0i{op op':CmpOp}{r r':R2}(ho:OpR X (Bs op) r)(ho':OpR X (Bs op') r')(ha:PE X a ta)(hb:PE X b tb)(hc:PE X c tc)(hm:lastMarks [op,op'] [b,c]=false:=by with_unfolding_all rfl):PT X (.Compare a [op,op'] [b,c] pos) (tTest (tChain r r' ta tb tc)):=by
 intro pins s σ H Q I h;refine isTrue_chain (thn (ha pins s σ H _ I h) fun v s1 ⟨x,H1,I1,r1,q1⟩=>test_link (thn (hb pins s1 σ H1 _ I1 q1) fun u s2 ⟨y,H2,I2,r2,q2⟩ =>
  thn (ho pins s2 σ H2 x y v u _ I2 r1 r2 q2) fun d s3 ⟨z,H3,I3,r3,k,e,q3⟩=>?_)) hm
 subst e;cases r3;refine Cu ?_;cases k with
 |false =>
  obtain⟨k',e',q'⟩:=q3;cases e';exact ite_ff ⟨H3,I3,q'⟩
 |true =>
  refine ite_tt (test_last (thn (hc pins s3 σ H3 _ I3 q3) fun w' s4 ⟨z',H4,I4,r4,q4⟩=>thn (ho' pins s4 σ H4 y z' u w' _ I4 r2 r4 q4) fun d' s5 ⟨z2,H5,I5,r5,k2,e2,q5⟩=>?_));subst e2;cases r5;exact Cu ⟨H5,I5,q5⟩
def TruV(K:Ah)(x:V)(H:Hp)(k:Bool):Prop :=
 match x with
 |.non=>k=false
 |.bl b=>k=b
 |.int i=>k=(i != 0)
 |.str y=>y.length<=sizeLine/\k=((y.length:Int) != 0)
 |.byt y=>y.size<=sizeLine/\k=((y.size:Int) != 0)
 |.ref p=>(∃xs,SqL K H p xs/\k = !xs.isEmpty)\/(∃xs,SqT K H p xs/\k = !xs.isEmpty)\/∃kvs,H p=some (.dK kvs)/\k = !kvs.isEmpty
 |_=>False
theorem z1q{kvs:List (κ×V)}{vs:List (κ×Value)}(r:KV kvs vs):(!vs.isEmpty) = !kvs.isEmpty:=by
 cases r<;>rfl
theorem q6f(r:Vals xs its):(!its.toArray.isEmpty) = !xs.isEmpty:=by
 cases r<;>simp
theorem line63:(sizeLine:Nat)<2^63:=by rw[Ea];decide
theorem tru_ok:TruR X (fun x H Q=>∃k,TruV X.K x H k/\Q k H):=by
 intro pins s σ H x v Q I rx h;obtain⟨k,e,q⟩:=h;have hs:=Ea;cases x with
 |non =>
  cases rx;have e':=e;subst e';exact truthy_none ⟨H,I,q⟩
 |bl b =>
  cases rx;have e':=e;subst e';exact Cu ⟨H,I,q⟩
 |int i =>
  obtain⟨t,rfl⟩:=rx;have e':=e;subst e';exact PySem.P.truthy_int ⟨H,I,q⟩
 |str y =>
  obtain⟨t,rfl⟩:=rx;obtain⟨hy,e'⟩:y.length<=sizeLine/\k=((y.length:Int) != 0):=e;subst e';exact PySem.P.truthy_str (by lia) ⟨H,I.tok _,q⟩
 |byt y =>
  obtain⟨t,rfl⟩:=rx;obtain⟨hy,e'⟩:y.size<=sizeLine/\k=((y.size:Int) != 0):=e;subst e';exact W.truthy_bytes (by lia) ⟨H,I.tok _,q⟩
 |ref p =>
  cases rx;have e':=e;rcases e' with⟨xs,hx,e'⟩|⟨xs,hx,e'⟩|⟨kvs,hx,e'⟩
  ·subst e';obtain⟨its,r,pl,hz⟩:=I.list hx;have hlen:=r.length;exact wpAny_truthy_list pl.isList (by simp only[Ax];lia) ⟨H,I.tok _,by rw[q6f r];exact q⟩
  ·subst e';obtain⟨its,r,pl,hz⟩:=I.tuple hx;have hlen:=r.length;exact truthy_tuple pl (by simp only[Ax];lia) ⟨H,I.tok _,by rw[q6f r];exact q⟩
  ·subst e';obtain⟨hz,hS,vs,r,m⟩:kvs.length<=sizeLine/\(p==Fb)=false/\∃vs,KV kvs vs/\s.heap.DictOf (mixKind X.prog X.w) p vs:=I.hok p _ hx;have hlen:=Fs r;exact wpAny_truthy_dict hS m (by lia) ⟨H,I.tok _,by rw[z1q r];exact q⟩
 |_=>exact(show False from e).elim
theorem z6o(ha:PE X a ta)(he:∀whole,isTrue a X.env whole=(do let v<-whole;Ls a.pos;Jw [v] (truthy v))):
  PT X a (fun σ H Q=>ta σ H fun x H'=>∃k,TruV X.K x H' k/\Q k H'):=by
 intro pins s σ H Q I h;exact isTrue_plain (thn (ha pins s σ H _ I h) fun v s1 ⟨x,H1,I1,r1,q1⟩=>tru_ok pins s1 σ H1 x v Q I1 r1 q1) (he _)
theorem op_add_str:OpR X (Fy .Add) (fun x y H Q=>∃i j,x=.str i/\y=.str j/\i.length+j.length<=sizeLine/\Q (.str (i++j)) H):=by
 intro pins s σ H x y v u Q I rx ry h;obtain⟨i,j,rfl,rfl,hz,q⟩:=h;obtain⟨t,rfl⟩:=rx;obtain⟨t',rfl⟩:=ry;exact add_str (fun t' tk=>⟨.str (i++j),H,I.tok _,⟨_,rfl⟩,q⟩) hz
theorem vals1(r:Vals [x] us):∃u,us=[u]/\RelV x u:=by
 cases r with
 |cons r1 r2=>cases r2;exact⟨_,rfl,r1⟩
theorem vals2(r:Vals [x,y] us):∃u w',us=[u,w']/\RelV x u/\RelV y w':=by
 cases r with
 |cons r1 r2 =>
  cases r2 with
  |cons r3 r4=>cases r4;exact⟨_,_,rfl,r1,r3⟩
theorem z3c(hc:X.calm=true):CallR X (.builtin "max") (fun xs H Q=>∃i j,xs=[.int i,.int j]/\Q (.int (if j>i then j else i)) H):=by
 intro pins s σ H xs us Q I r h;obtain⟨i,j,rfl,q⟩:=h;obtain⟨u,w',rfl,⟨t,rfl⟩,⟨t',rfl⟩⟩:=vals2 r;refine max_two_ints (I.ok.hd hc) fun h' tk k=>⟨_,H,I.kept k,?_,q⟩
 by_cases hj:j>i
 ·rw[if_pos hj,if_pos hj];exact⟨_,rfl⟩
 ·rw[if_neg hj,if_neg hj];exact⟨_,rfl⟩
theorem z3d(hc:X.calm=true):CallR X (.builtin "min") (fun xs H Q=>∃i j,xs=[.int i,.int j]/\Q (.int (if j<i then j else i)) H):=by
 intro pins s σ H xs us Q I r h;obtain⟨i,j,rfl,q⟩:=h;obtain⟨u,w',rfl,⟨t,rfl⟩,⟨t',rfl⟩⟩:=vals2 r;refine min_two_ints (I.ok.hd hc) fun h' tk k=>⟨_,H,I.kept k,?_,q⟩
 by_cases hj:j<i
 ·rw[if_pos hj,if_pos hj];exact⟨_,rfl⟩
 ·rw[if_neg hj,if_neg hj];exact⟨_,rfl⟩
theorem call_int1:CallR X (.type "int") (fun xs H Q=>(∃i,xs=[.int i]/\Q (.int i) H)\/∃k,xs=[.bl k]/\Q (.int (if k then 1 else 0)) H):=by
 intro pins s σ H xs us Q I r h;rcases h with⟨i,rfl,q⟩|⟨k,rfl,q⟩
 ·obtain⟨u,rfl,t,rfl⟩:=vals1 r;exact call_int_int ⟨.int i,H,I,⟨_,rfl⟩,q⟩
 ·obtain⟨u,rfl,r1⟩:=vals1 r;cases r1;exact call_int_bool ⟨.int (if k then 1 else 0),H,I.tok _,⟨_,rfl⟩,q⟩
def LenV(K:Ah)(x:V)(H:Hp)(n:Nat):Prop :=
 match x with
 |.str y=>y.length<=sizeLine/\n=y.length
 |.byt y=>y.size<=sizeLine/\n=y.size
 |.ref p=>(∃xs,SqL K H p xs/\n=xs.length)\/∃xs,SqT K H p xs/\n=xs.length
 |_=>False
theorem z6p:CallR X (.builtin "len") (fun xs H Q=>∃x n,xs=[x]/\LenV X.K x H n/\Q (.int n) H):=by
 intro pins s σ H xs us Q I r h;obtain⟨x,n,rfl,e,q⟩:=h;obtain⟨u,rfl,rx⟩:=vals1 r;have hs:=Ea;cases x with
 |str y =>
  obtain⟨t,rfl⟩:=rx;obtain⟨hy,e'⟩:y.length<=sizeLine/\n=y.length:=e;subst e';exact len_str (by lia) ⟨.int _,H,I.tok _,⟨_,rfl⟩,q⟩
 |byt y =>
  obtain⟨t,rfl⟩:=rx;obtain⟨hy,e'⟩:y.size<=sizeLine/\n=y.size:=e;subst e';exact W.len_bytes (by lia) ⟨.int _,H,I.tok _,⟨_,rfl⟩,q⟩
 |ref p =>
  cases rx;have e':=e;rcases e' with⟨xs,hx,e'⟩|⟨xs,hx,e'⟩
  ·subst e';obtain⟨its,r',pl,hz⟩:=I.list hx;have hlen:=r'.length;exact Calls.call_len_list pl.isList (by simp only[Ax];lia) ⟨.int xs.length,H,I.tok _,⟨_,by simp only[Ax];rw[hlen]⟩,q⟩
  ·subst e';obtain⟨its,r',pl,hz⟩:=I.tuple hx;have hlen:=r'.length;exact len_tuple pl (by simp only[Ax];lia) ⟨.int xs.length,H,I.tok _,⟨_,by simp only[Ax];rw[hlen]⟩,q⟩
 |_=>exact(show False from e).elim
end
open PySem PySem.Spec PyProof.Rows
structure ObjM (h:Heap) (x dx C:Addr) (mA:Str->Option Value):Prop where
 obj:h.get? x=some (Jd C dx)
 ns:h.Ns1 dx mA
 ne:dx≠x
theorem q7t{h:Heap}(n:h.Ns1 dx mA):∃od,h.get? dx=some od/\∀name,Sn name od=some (mA name):=by
 obtain⟨o,es,ep,ho,hd,hk,_,hm⟩:=n;refine⟨o,ho,fun name=>?_⟩;have e:=hm name;unfold nsFind findBy at e;rw[<- Ma] at e;unfold Sn;rw[hd];dsimp only;split
 ·grind
 ·rename_i q;rw[q] at e;have a:es.toList.any (·.refKey)=false:=by
   rw[List.any_eq_false];intro y hy;obtain⟨z,t,hkey⟩:=hk y (Py.mp hy);simp[Jh.refKey,hkey]
  have a':¬es.toList.any (·.refKey)=true:=by grind
  rw[if_neg a'];exact congrArg some e
theorem ObjM.look(I:ObjM h x dx C mA):∃od,Ji h x (Jd C dx) C (some od)/\∀name,Sn name od=some (mA name) :=
 let ⟨od,ho,hl⟩:=q7t I.ns
 ⟨od,⟨I.obj,rfl,rfl,ho⟩,hl⟩
section
variable{prog:Program}{w:World}{A:Around}{E:Value->Af->Prop}{s:Af}{K:Ah}{x dx C f:Addr}{mA:Str->Option Value}{name:Str}{v:Value}
theorem z9n(X:K.In s.heap)(I:ObjM s.heap x dx C mA)(hg:Nd K C name=true)(hh:Ke K C=true)(ha:Bl K (.ref C) name=some none)(hv:mA name=some v)(hv':Td v=true)(h:Q v { s with toks:=s.toks+1 }):
  wpAny (model prog w) A (Tz (.ref x) name expr) Q E s:=by
 obtain⟨od,J,hl⟩:=I.look;exact W.get_value X J (Qg hg).1 (W.findObj_own hh ha rfl (by rw[hl,hv])) hv' h
theorem z6q(X:K.In s.heap)(I:ObjM s.heap x dx C mA)(hg:Nd K C name=true)(hf:Bl K (.ref C) name=some (some (.ref f)))(ht:Te K (.ref f)=true)(hv:mA name=none)(h:Q (.ref f,[.ref x]) s):
  wpAny (model prog w) A (Kp (.ref x) name pl) Q E s:=by
 obtain⟨od,J,hl⟩:=I.look;exact W.method_fn X J (Qg hg).1 (Qg hg).2 hf (beq_iff_eq.mp ht) (by show(Sn name od).map (·.isSome)=some false;rw[hl,hv];rfl) h
theorem z9o(X:K.In s.heap)(I:ObjM s.heap x dx C mA)(hs:Bl K (.ref C) "__setattr__" = some (some (.builtin "object.__setattr__")))(hp:Sh K C=true)(ht:Ud K C name=some none)(hh:Ke K C=true)(hw:Kv mA ns)(hsz:ns.length<=sizeLine)(h:∀h',ObjM h' x dx C (fun y=>if y=name then some v else mA y)->Ge dx s.heap h'->Q () { s with heap:=h',toks:=s.toks+2 }):
  wpAny (model prog w) A (Ua (.ref x) name v) Q E s:=by
 obtain⟨od,J,hl⟩:=I.look;refine Si X J hs (W.osa_open X J hp ht fun b=>?_);obtain⟨cd,hc,hd'⟩:=W.any_some hh;have hx:=I.obj;refine Ab (Ae (Ab (Ab (Lu hx (Ab (Qu (Mn X hc) ?_))))));rw[hd'];refine Ae (Ab (Ae (Ab ?_)));refine Qv I.ns fun h' hn2 hs2=>?_
 obtain⟨oD,esD,epD,hoD,hdD,hcD⟩:=hn2.count (Mw name v hw);refine Ab (Nn hoD (by rw[hdD];exact Np (Bi hcD (by rw[Aw];lia))) ?_);exact Ae (h _ ⟨(hs2.2 _ (Cd I.ne)).trans I.obj,hn2,I.ne⟩ hs2)
theorem z6r(X:K.In s.heap)(hm:Ue K C=true)(hi:Bl K (.ref C) "__init__" = some (some (.ref f)))(hf:W.typeIn K (.ref f)=some (.type "function"))(h:Fl (model prog w) (A.under (.builtin "type.__call__" ⟨.ref C::vs,kw⟩)) (.call (.ref f) ⟨.ref (s.heap.objs.size+1)::vs,kw⟩) (W.InitBack (s.heap.objs.size+1) R)
   { s with heap:=(s.heap.push Cm).push (Jd C s.heap.objs.size) }):
  Fl (model prog w) A (.call (.ref C) ⟨vs,kw⟩) R s:=by
 exact W.make_core (W.makes_of X hm) (Hs X hi) (fun self=>W.bind_fn X self hf) (.inl rfl) h
end
def putF(f:Str)(v:V):List (Str×V)->List (Str×V)
 |[]=>[(f,v)]
 |(g,x)::r=>if g=f then(g,v)::r else(g,x)::putF f v r
theorem q2g(f g:Str)(v:V):∀fs:List (Str×V),(putF f v fs).lookup g=if g=f then some v else fs.lookup g
 |[]=>by
  show List.lookup g [(f,v)]=_;by_cases h:g=f
  ·have hb:(g==f)=true:=beq_iff_eq.mpr h;simp only[List.lookup,hb,if_pos h]
  ·simp_all
 |(k,x)::r=>by
  have ih:=q2g f g v r;rw[show putF f v ((k,x)::r)=(if k=f then(k,v)::r else(k,x)::putF f v r) from rfl];by_cases hk:k=f
  ·rw[if_pos hk];by_cases h:g=k
   ·simp_all
   ·have hb:(g==k)=false:=beq_eq_false_iff_ne.mpr h;simp only[List.lookup,hb,if_neg (fun e:g=f=>h (e.trans hk.symm))]
  ·rw[if_neg hk];by_cases h:g=k
   ·simp_all
   ·have hb:(g==k)=false:=beq_eq_false_iff_ne.mpr h;simp only[List.lookup,hb];exact ih
theorem q2s(f:Str)(v:V):∀fs:List (Str×V),f∈(putF f v fs).map (·.1)/\∀g,g∈fs.map (·.1)->g∈(putF f v fs).map (·.1)
 |[]=>⟨by simp[putF],fun g h=>by simp at h⟩
 |(k,x)::r=>by
  obtain⟨i1,i2⟩:=q2s f v r;rw[show putF f v ((k,x)::r)=(if k=f then(k,v)::r else(k,x)::putF f v r) from rfl];by_cases hk:k=f
  ·grind
  ·grind
theorem q4s(f:Str)(v:V):∀fs:List (Str×V),(putF f v fs).length<=fs.length+1
 |[]=>by simp[putF]
 |(k,x)::r=>by
  have ih:=q4s f v r;rw[show putF f v ((k,x)::r)=(if k=f then(k,v)::r else(k,x)::putF f v r) from rfl];by_cases hk:k=f
  ·grind
  ·grind
theorem RelO.some_of(r:RelO (some v) o):∃u,o=some u/\RelV v u:=by
 cases o with
 |none=>exact(show False from r).elim
 |some u=>exact⟨u,rfl,r⟩
theorem RelO.none_of(r:RelO none o):o=none:=by
 cases o with
 |none=>rfl
 |some u=>exact(show False from r).elim
theorem q7u(r:RelV v u):Td u=true:=by
 cases v with
 |non=>cases(show u=Value.none from r);rfl
 |bl b=>cases(show u=Value.bool b from r);rfl
 |int i=>obtain⟨t,e⟩:=(show ∃t,u=Value.int i t from r);cases e;rfl
 |str x=>obtain⟨t,e⟩:=(show ∃t,u=Value.str x t from r);cases e;rfl
 |byt b=>obtain⟨t,e⟩:=(show ∃t,u=Value.bytes b t from r);cases e;rfl
 |flt b=>obtain⟨t,e⟩:=(show ∃t,u=Value.float b t from r);cases e;rfl
 |ref a=>cases(show u=Value.ref a from r);rfl
 |ty n=>cases(show u=Value.type n from r);rfl
section
variable{P:Program}{w:World}{H H':Hp}{h h':Heap}{a C dx:Addr}{fs fs':List (Str×V)}
theorem q6x(hok:HOk P w H h)(e:H a=some (.ins C dx fs)):∃mA,ObjM h a dx C mA/\(∀f,RelO (fs.lookup f) (mA f))/\Kv mA (fs.map (·.1))/\fs.length<=1000/\H dx=some (.own a):=by
 obtain⟨d,z,ne,ob,mA,n,r,q⟩:=(show ObjOk P w H h a (.ins C dx fs) from hok a _ e)
 exact⟨mA,⟨ob,n,ne⟩,r,q,z,d⟩
end
structure Cls (K:Ah) (C:Addr):Prop where
 pg:Nd K C Od=true
 hd:Ke K C=true
 po:Sh K C=true
 sa:Bl K (.ref C) "__setattr__" = some (some (.builtin "object.__setattr__"))
theorem Cls.get{K:Ah}(c:Cls K C)(f:Str):Nd K C f=true:=c.pg
def NoAttr(K:Ah)(C:Addr)(f:Str):Prop:=Bl K (.ref C) f=some none
theorem NoAttr.taker{K:Ah}(n:NoAttr K C f):Ud K C f=some none:=by
 unfold Ud;rw[show Bl K (.ref C) f=some none from n];rfl
structure Meth (K:Ah) (C:Addr) (m:Str) (f:Addr):Prop where
 at_:Bl K (.ref C) m=some (some (.ref f))
 fn:Te K (.ref f)=true
 kp:Es K (.ref f)=true
section
variable{X:Cx}{pins:List (Addr×Obj)}{σ:St}{H:Hp}{s:Af}{a C dx:Addr}{fs:List (Str×V)}{f:Str}{v:V}{A:Around}{E:Value->Af->Prop}
theorem z1r(I:Inv X pins σ H s)(e:H a=some (.ins C dx fs))(c:Cls X.K C)(n:NoAttr X.K C f)(l:fs.lookup f=some v)(h:∀u s',Inv X pins σ H s'->RelV v u->Q u s'):wpAny (model X.prog X.w) A (Tz (.ref a) f b) Q E s:=by
 obtain⟨mA,O,r,_,_,_⟩:=q6x I.hok e;obtain⟨u,hu,ru⟩:=RelO.some_of (by rw[<- l];exact r f);exact z9n I.kIn O (c.get f) c.hd n hu (q7u ru) (h u _ (I.tok _) ru)
theorem q6g(I:Inv X pins σ H s)(e:H a=some (.ins C dx fs))(c:Cls X.K C)(k:Meth X.K C m g)(l:fs.lookup m=none)(h:Q (.ref g,[.ref a]) s):wpAny (model X.prog X.w) A (Kp (.ref a) m pl) Q E s:=by
 obtain⟨mA,O,r,_,_,_⟩:=q6x I.hok e;have hn:=RelO.none_of (by rw[<- l];exact r m);exact z6q I.kIn O (c.get m) k.at_ k.fn hn h
theorem z1s(I:Inv X pins σ H s)(e:H a=some (.ins C dx fs))(c:Cls X.K C)(n:NoAttr X.K C f)(hl:fs.length<1000)(ry:RelV y u)(h:∀s',Inv X pins σ (upd H a (.ins C dx (putF f y fs))) s'->Q () s'):wpAny (model X.prog X.w) A (Ua (.ref a) f u) Q E s:=by
 obtain⟨mA,O,r,wi,_,ho⟩:=q6x I.hok e;have hz:(fs.map (·.1)).length<=sizeLine:=by rw[Ad,Ea];lia
 refine z9o I.kIn O c.sa c.po n.taker c.hd wi hz fun h' O' sb=>h _ ?_;have hd:∃o,h'.get? dx=some o:=let ⟨o,_,_,e',_⟩:=O'.ns;⟨o,e'⟩;refine I.write (by rw[e];exact True.intro) (.inr ho) (fun b q hb z=>(sb.2 b hb).trans z) hd ?_;refine⟨by rw[q0e O.ne];exact ho,?_,O.ne,O'.obj,_,O'.ns,fun g=>?_,fun g hg=>?_⟩
 ·have:=q4s f y fs;lia
 ·show RelO ((putF f y fs).lookup g) (if g=f then some u else mA g);rw[q2g];by_cases q:g=f
  ·rw[if_pos q,if_pos q];exact ry
  ·grind
 ·by_cases q:g=f
  ·rw[q];exact(q2s f y fs).1
  ·refine(q2s f y fs).2 g (wi g fun z=>hg ?_);show(if g=f then some u else mA g)=none;rw[if_neg q];exact z
theorem Inv.made(I:Inv X pins σ H s):Inv X pins σ (upd (upd H s.heap.objs.size (.own (s.heap.objs.size+1))) (s.heap.objs.size+1) (.ins C s.heap.objs.size []))
  { s with heap:=(s.heap.push Cm).push (Jd C s.heap.objs.size) }:=by
 have e1:(s.heap.push Cm).get? s.heap.objs.size=some Cm:=As s.heap rfl;have e2:((s.heap.push Cm).push (Jd C s.heap.objs.size)).get? (s.heap.objs.size+1)=some (Jd C s.heap.objs.size):=by
  have:=As (s.heap.push Cm) (o:=Jd C s.heap.objs.size) rfl
  rwa [Gp] at this
 have e3:(s.heap.push Cm).Ns s.heap.objs.size (fun _=>none):=⟨Cm,#[],_,e1,rfl,(fun e he=>absurd he (by simp)),fun _=>rfl⟩
 have I1:=I.laid (o:=.own (s.heap.objs.size+1)) (h':=s.heap.push Cm) (t':=s.toks) (fun b u q=>Ag _ q) (Ak _) ⟨_,e1⟩;refine I1.laid (t':=s.toks) (fun b u q=>Ag _ q) (Jj (Gp _ _)) ?_;have ne:s.heap.objs.size≠s.heap.objs.size+1:=Bf (Gs _);refine⟨by rw[q0e ne,q0b],Bo _,ne,e2,fun _=>none,(Rt e3).at fun o q=>Ag _ q,fun _=>True.intro,fun y hy=>absurd rfl hy⟩
theorem z3e(hb:Gj e f env (eval e env)=eval e env)(h:wpAny (model prog w) A (eval e env) (fun o s₁=>wpAny (model prog w) A (Tz o f true) Q E s₁) E s):wpAny (model prog w) A (eval (.Attribute e f pos) env) Q E s :=
 Attribute_any_ h (by rw[arm_eval_Attribute,hb])
end
def tFld(K:Ah)(ta:TE)(f:Str):TE:=fun σ H Q=>ta σ H fun x H1=>∃a C dx fs v,x=.ref a/\H1 a=some (.ins C dx fs)/\Cls K C/\NoAttr K C f/\fs.lookup f=some v/\Q v H1
def sFld(K:Ah)(ta tv:TE)(f:Str):TS:=fun D σ H=>tv σ H fun y H1=>ta σ H1 fun x H2=>∃a C dx fs,x=.ref a/\H2 a=some (.ins C dx fs)/\Cls K C/\NoAttr K C f/\fs.length<1000 /\
 D.nx σ (upd H2 a (.ins C dx (putF f y fs)))
section
variable{X:Cx}{o e value:Expr}{f:Str}{pos pos' tpos:Pos}{ta tv:TE}
theorem pe_fld(he:PE X e ta)(hb:Gj e f X.env (eval e X.env)=eval e X.env):PE X (.Attribute e f pos) (tFld X.K ta f):=by
 intro pins s σ H Q I h;refine z3e hb (thn (he pins s σ H _ I h) fun u s1 ⟨x,H1,I1,rx,a,C,dx,fs,v,ex,ea,c,n,l,q⟩=>?_);subst ex;obtain rfl:u=Value.ref a:=rx;exact z1r I1 ea c n l fun u' s2 I2 ru=>⟨v,H1,I2,ru,q⟩
theorem ps_fld(ha:PE X o ta)(hv:PE X value tv)(hs:Jf value (some (.Attribute o f pos')) pos.line X.env=pure false):PS X (.Assign [.Attribute o f pos'] value pos) (sFld X.K ta tv f):=by
 intro pins s σ H D I h;refine Kt (thn (hv pins s σ H _ I h) fun u s1 ⟨y,H1,I1,ry,q⟩=>thn (ha pins s1 σ H1 _ I1 q) fun ov s2 ⟨x,H2,I2,rx,a,C,dx,fs,ex,ea,c,n,l,q2⟩=>?_) hs;subst ex;obtain rfl:ov=Value.ref a:=rx;exact z1s I2 ea c n l ry fun s3 I3=>⟨σ,_,I3,q2⟩
end
section
variable{X:Cx}{pins:List (Addr×Obj)}{σ:St}{H:Hp}{s:Af}{A:Around}{E:Value->Af->Prop}{Q:Value->Af->Prop}{c:Value}{b:Bool}
inductive TyOf (K:Ah) (H:Hp):V->Value->Prop where
 |non:TyOf K H .non (.type "NoneType")
 |bl (x:Bool):TyOf K H (.bl x) (.type "bool")
 |int (i:Int):TyOf K H (.int i) (.type "int")
 |str (x:Str):TyOf K H (.str x) (.type "str")
 |flt (x:UInt64):TyOf K H (.flt x) (.type "float")
 |lst {a:Addr} {xs:List V} (e:H a=some (.lst xs)):TyOf K H (.ref a) (.type "list")
 |frz {a:Addr} {o:Obj} {xs:List V} (e:H a=some (.frz o (.lst xs))):TyOf K H (.ref a) (.type "list")
 |tup {a:Addr} {xs:List V} (e:H a=some (.tup xs)):TyOf K H (.ref a) (.type "tuple")
 |dK {a:Addr} {kvs:List (Key×V)} (e:H a=some (.dK kvs)):TyOf K H (.ref a) (.type "dict")
 |dT {a:Addr} {kvs:List (List Key×V)} (e:H a=some (.dT kvs)):TyOf K H (.ref a) (.type "dict")
 |ins {a C dx:Addr} {fs:List (Str×V)} (e:H a=some (.ins C dx fs)) (cl:Cls K C) (ha:Bl K (.ref C) "__class__" = some (some (.builtin "object.__class__")))
   (hn:Hn K (.builtin "object.__class__") "__get__" = some (some (.builtin "getset_descriptor.__get__"))) (htk:Mb K (.builtin "object.__class__")=some true)
   (hm:Lv K C (.type "object")=some true):TyOf K H (.ref a) (.ref C)
theorem z3f(I:Inv X pins σ H s)(rx:RelV x u)(ty:TyOf X.K H x t)(e:Di X.K t c=some b)(h:∀tk,Q (.bool b) { s with toks:=tk }):
  wpAny (model X.prog X.w) A (call (.builtin "isinstance") [u,c]) Q E s:=by
 cases ty with
 |non=>cases(show u=Value.none from rx);exact Fu W.kitx_none I.kIn True.intro e (fun z=>nomatch z) h
 |bl y=>cases(show u=Value.bool y from rx);exact Fu W.kitx_bool I.kIn True.intro e (fun z=>nomatch z) h
 |int i=>obtain⟨t,q⟩:=(show ∃t,u=Value.int i t from rx);cases q;exact Fu W.kitx_int I.kIn True.intro e (fun z=>nomatch z) h
 |str y=>obtain⟨t,q⟩:=(show ∃t,u=Value.str y t from rx);cases q;exact Fu W.kitx_str I.kIn True.intro e (fun z=>nomatch z) h
 |flt y=>obtain⟨t,q⟩:=(show ∃t,u=Value.float y t from rx);cases q;exact Fu W.kitx_float I.kIn True.intro e (fun z=>nomatch z) h
 | @lst a xs ea =>
  cases(show u=Value.ref a from rx);obtain⟨_,_,n,_,h1⟩:=(show ObjOk X.prog X.w H s.heap a (.lst xs) from I.hok a _ ea)
  exact Fu W.kitx_list I.kIn ⟨_,h1,rfl⟩ e (fun z=>nomatch z) h
 | @frz a ob xs ea =>
  cases(show u=Value.ref a from rx);obtain⟨_,_,_,n,_,h1⟩:=(show ObjOk X.prog X.w H s.heap a (.frz ob (.lst xs)) from I.hok a _ ea)
  exact Fu W.kitx_list I.kIn ⟨_,h1,rfl⟩ e (fun z=>nomatch z) h
 | @tup a xs ea =>
  cases(show u=Value.ref a from rx);obtain⟨_,_,_,p⟩:=(show ObjOk X.prog X.w H s.heap a (.tup xs) from I.hok a _ ea)
  obtain⟨o,h1,h2,_⟩:=p;exact Fu W.kitx_tuple I.kIn ⟨o,h1,h2⟩ e (fun z=>nomatch z) h
 | @dK a kvs ea =>
  cases(show u=Value.ref a from rx);obtain⟨_,_,vs,_,p⟩:=(show ObjOk X.prog X.w H s.heap a (.dK kvs) from I.hok a _ ea)
  obtain⟨o,es,ep,h1,h2,_⟩:=p;exact Fu W.kitx_dict I.kIn ⟨o,h1,h2.1⟩ e (fun z=>nomatch z) h
 | @dT a kvs ea =>
  cases(show u=Value.ref a from rx);obtain⟨_,_,xs,_,o,es,ep,h1,h2,_⟩:=(show ObjOk X.prog X.w H s.heap a (.dT kvs) from I.hok a _ ea)
  exact Fu W.kitx_dict I.kIn ⟨o,h1,h2.1⟩ e (fun z=>nomatch z) h
 | @ins a C dx fs ea cl ha hn htk hm =>
  cases(show u=Value.ref a from rx);obtain⟨mA,O,_⟩:=q6x I.hok ea;obtain⟨od,J,_⟩:=O.look;exact Fu (W.kitx_own (cl.get _) cl.hd ha hn htk hm) I.kIn J e (fun z=>nomatch z) h
end
open PySem PySem.Spec PyProof.Rows
structure Room (k:Nat) (A:Around):Prop where
 hd:A.handled=none
 dp:A.depth+3*k+5<recursionLimit
 un:A.units+16*k+200<cLine
 gd:A.guards=some []
theorem Room.mono(r:Room k A)(h:j<=k):Room j A:=⟨r.hd,by have:=r.dp;lia,by have:=r.un;lia,r.gd⟩
theorem Room.deeper(r:Room (k+1) A)(env:Env):Room k (A.deeper env) :=
 ⟨r.hd,by have:=r.dp;show A.depth+1+3*k+5<_;lia,by have:=r.un;show A.units+3+16*k+200<_;lia,r.gd⟩
theorem Room.in1(r:Room (k+1) A):Room k A.in1 :=
 ⟨r.hd,by have:=r.dp;show A.depth+3*k+5<_;lia,by have:=r.un;show A.units+1+16*k+200<_;lia,r.gd⟩
theorem z1t{A:Around}:(A.under (.builtin "type.__call__" ⟨.ref C::us,kw⟩)).depth=A.depth+1:=by
 first|rfl|simp[Nq,Code.weight,Code.isCreation,Code.isGuard,Code.isCaller,Code.frames,Qw,guardIds]
theorem z1u{A:Around}:(A.under (.builtin "type.__call__" ⟨.ref C::us,kw⟩)).units=A.units+1:=by
 first|rfl|simp[Nq,Code.cUnits,Code.frames,Qw]
theorem make_guards{A:Around}:(A.under (.builtin "type.__call__" ⟨.ref C::us,kw⟩)).guards=A.guards:=by
 have:(Code.builtin "type.__call__" ⟨.ref C::us,kw⟩).guards=[]:=by simp[Code.guards,Code.isGuard,guardIds]
 unfold Nq;rw[this];cases e:A.guards<;>simp[pushGuards,e]
theorem Room.make(r:Room (k+1) A)(C:Addr)(us:List Value)(kw:List (Str×Value)):Room k (A.under (.builtin "type.__call__" ⟨.ref C::us,kw⟩)) :=
 ⟨r.hd,by have:=r.dp;rw[z1t];lia,by have:=r.un;rw[z1u];lia,make_guards.trans r.gd⟩
theorem Room.depth(r:Room k A):A.depth<recursionLimit:=by have:=r.dp;lia
theorem Room.units(r:Room k A):A.units+64<cLine:=by have:=r.un;lia
def tNil:TA:=fun _ H Q=>Q [] H
def tCons(ta:TE)(tr:TA):TA:=fun σ H Q=>ta σ H fun x H1=>tr σ H1 fun xs H2=>Q (x::xs) H2
section
variable{X:Cx}{e:Expr}{es:List Expr}{te:TE}{t:TA}{pos:Pos}
theorem q0c:PA X [] tNil:=fun _ _ _ _ H Q I h=>Calls.spliced_nil ⟨[],H,I,.nil,h⟩
theorem q0a(ha:PE X e te)(hr:PA X es t)(hs:Bc (e::es) X.env=(false,eval e X.env)::Bc es X.env:=by rfl):PA X (e::es) (tCons te t):=by
 intro pos pins s σ H Q I h;rw[hs];refine Calls.spliced_cons (thn (ha pins s σ H _ I h) fun u s1 ⟨x,H1,I1,r1,q1⟩=>?_);exact thn (hr pos pins s1 σ H1 _ I1 q1) fun us s2 ⟨xs,H2,I2,r2,q2⟩=>⟨x::xs,H2,I2,.cons r1 r2,q2⟩
def tTup(t:TA):TE:=fun σ H Q=>t σ H fun xs H1=>xs.length<=sizeLine/\∀p,H1 p=none->Q (.ref p) (upd H1 p (.tup xs))
def tLst(t:TA):TE:=fun σ H Q=>t σ H fun xs H1=>xs.length<=sizeLine/\∀p,H1 p=none->Q (.ref p) (upd H1 p (.lst xs))
theorem q1c{x1}(h:PA X es t):PE X (.Tuple es x1 pos) (tTup t):=by
 intro pins s σ H Q I hq;refine wpAny_Tuple_spliced (thn (h pos pins s σ H _ I hq) fun us s1 ⟨xs,H1,I1,r,z,q⟩=>⟨by rw[<- r.length];exact z,?_⟩);have hf:=I1.hok.fresh (Ak _);refine⟨.ref s1.heap.objs.size,upd H1 s1.heap.objs.size (.tup xs),I1.laid (t':=s1.toks) (fun b u e=>Ag _ e) (Ak _) ?_,rfl,q _ hf⟩;exact⟨z,us,r,⟨_,As _ rfl,rfl,_,rfl⟩⟩
theorem q1d(h:PA X es t):PE X (.List es pos) (tLst t):=by
 intro pins s σ H Q I hq;refine wpAny_List_spliced (thn (h pos pins s σ H _ I hq) fun us s1 ⟨xs,H1,I1,r,z,q⟩=>⟨by rw[<- r.length];exact z,?_⟩);have hf:=I1.hok.fresh (Ak _);refine⟨.ref s1.heap.objs.size,upd H1 s1.heap.objs.size (.lst xs),I1.laid (t':=s1.toks) (fun b u e=>Ag _ e) (Ak _) ?_,rfl,q _ hf⟩;exact⟨z,us,0,r,As _ rfl⟩
end
abbrev Sp:=List V->Hp->VK->XK->Prop
abbrev CXT:=List Env->Hp->Af->XK->Value->Af->Prop
structure Env0 (P:Program) (w:World) (K:Ah) (mg:Str->Option Value) (base:Heap) (A:Around) (outer:List Env) (s:Af) (H:Hp):Prop where
 frames:A.frames=some outer
 mod:Mod K mg base
 bs:∀b o,base.get? b=some o->s.heap.get? b=some o/\H b=none
 bsz:base.objs.size<=s.heap.objs.size
 funs:s.heap.FunFrames base outer
 frf:∀b∈frs outer,H b=none
 hok:HOk P w H s.heap
 bare:Jv s.gens
def CE(outer:List Env)(P:Program)(w:World)(H:Hp)(s:Af)(Q:VK)(u:Value)(s':Af):Prop :=
 ∃v H',s'.os=s.os/\Jv s'.gens/\Un (frs outer) [] H H' s.heap s'.heap/\HOk P w H' s'.heap/\RelV v u/\Q v H'
def CR(CX:CXT)(outer:List Env)(P:Program)(w:World)(H:Hp)(s:Af)(Q:VK)(E:XK)(r:Result)(s':Af):Prop :=
 match r with
 |.ok (.ret u)=>CE outer P w H s Q u s'
 |.ok _=>False
 |.error e=>CX outer H s E e s'
structure FnOk (P:Program) (w:World) (K:Ah) (mg:Str->Option Value) (base:Heap) (CX:CXT) (k:Nat) (f:Addr) (fd:Ie) (ps:List Str) (sp:Sp):Prop where
 len:∀vs H Q E,sp vs H Q E->vs.length=ps.length
 run:∀(A:Around) (outer:List Env) (s:Af) (H:Hp) (args:Args) (us:List Value) (vs:List V) (Q:VK) (E:XK),Room k A->Env0 P w K mg base A outer s H->Pd s fd args (ps.zip us)->Vals vs us->sp vs H Q E ->
  Fl (model P w) A (.call (.ref f) args) (CR CX outer P w H s Q E) s
theorem FnOk.mono{K:Ah}(F:FnOk P w K mg base CX j f fd ps sp)(h:j<=k):
  FnOk P w K mg base CX k f fd ps sp:=⟨F.len,fun A outer s H args us vs Q E hr=>F.run A outer s H args us vs Q E (hr.mono h)⟩
theorem FnOk.imp{K:Ah}(F:FnOk P w K mg base CX k f fd ps sp)(h:∀vs H Q E,sp' vs H Q E->sp vs H Q E):FnOk P w K mg base CX k f fd ps sp' :=
 ⟨fun vs H Q E q=>F.len vs H Q E (h _ _ _ _ q),fun A outer s H args us vs Q E hr he hb hv hs=>F.run A outer s H args us vs Q E hr he hb hv (h _ _ _ _ hs)⟩
theorem Env0.make{K:Ah}(e:Env0 P w K mg base A outer s H)(C:Addr)(us:List Value)(kw:List (Str×Value)):
  Env0 P w K mg base (A.under (.builtin "type.__call__" ⟨.ref C::us,kw⟩)) outer s H:=⟨by first|exact e.frames|(simpa[Nq,Code.envs,Qw,pushEnvs] using e.frames),e.mod,e.bs,e.bsz,e.funs,e.frf,e.hok,e.bare⟩
theorem Env0.in1{K:Ah}(e:Env0 P w K mg base A outer s H):
  Env0 P w K mg base A.in1 outer s H:=⟨e.frames,e.mod,e.bs,e.bsz,e.funs,e.frf,e.hok,e.bare⟩
section
variable{X:Cx}{pins:List (Addr×Obj)}{σ:St}{H:Hp}{s s':Af}
theorem Inv.env0(I:Inv X pins σ H s):Env0 X.prog X.w X.K X.mg X.base X.A X.stack s H :=
 ⟨I.ok.frames,I.ok.mod,I.bs,Bi I.ok.bsz I.sz,I.stack,I.stkFree,I.hok,I.bare⟩
theorem Inv.after(I:Inv X pins σ H s)(h:CE X.stack X.prog X.w H s Q u s'):EP X pins σ Q u s':=by
 obtain⟨v,H',os,bare,un,hok,r,q⟩:=h;obtain⟨hh,g,d,t,os'⟩:=s';obtain rfl:os'=s.os:=os;exact⟨v,H',I.call (h':=hh) (g':=g) (d':=d) (t':=t) un hok bare (fun b z=>absurd z (by simp)),r,q⟩
end
def tCall(sp:Sp)(dvs:List V)(E:XK)(t:TA):TE:=fun σ H Q=>t σ H fun vs H1=>sp (vs++dvs) H1 Q E
def tMeth(C:Addr)(m:Str)(sp:Sp)(dvs:List V)(E:XK)(ta:TE)(t:TA):TE:=fun σ H Q=>ta σ H fun x H1=>∃a dx fs,x=.ref a/\H1 a=some (.ins C dx fs)/\fs.lookup m=none /\
 t σ H1 fun vs H2=>sp (x::(vs++dvs)) H2 Q E
def Binds(K:Ah)(fd:Ie)(ps:List Str)(ds:List Value):Prop :=
 ∀(s:Af) (us:List Value),K.In s.heap->(us++ds).length=ps.length->Pd s fd ⟨us,[]⟩ (ps.zip (us++ds))
theorem Binds.all{K:Ah}(h:∀us:List Value,us.length=ps.length->bindArgs fd ⟨us,[]⟩=pure (ps.zip us)):Binds K fd ps []:=fun s us _ hl=>by
 rw[Ei] at hl ⊢;exact .of_eq (h us hl)
def Passes(CX:CXT)(X:Cx)(E:XK):Prop:=∀(pins:List (Addr×Obj)) (σ:St) (H:Hp) (s:Af) (e:Value) (s':Af),Inv X pins σ H s->CX X.stack H s E e s'->X.xe e s'
section
variable{X:Cx}{CX:CXT}{k:Nat}{f C:Addr}{fd:Ie}{ps:List Str}{sp:Sp}{dvs:List V}{ds:List Value}{E:XK}{x m:Str}{p pos apos:Pos}{e o:Expr}{es:List Expr}{ta:TE}{t:TA}
theorem z3g{σ:St}(F:FnOk X.prog X.w X.K X.mg X.base CX k f fd ps sp)(hr:Room k X.A)(hb:Binds X.K fd ps ds)(hd:Vals dvs ds)(hx:Passes CX X E)(I:Inv X pins σ H s)(r:Vals vs us)(h:sp (vs++dvs) H Q E):wpAny (model X.prog X.w) X.A (call (.ref f) us) (EP X pins σ Q) X.xe s:=by
 have r2:=r.append hd;have hl:(us++ds).length=ps.length:=by rw[<- r2.length];exact F.len _ _ _ _ h
 refine Hd (Ht (F.run X.A X.stack s H ⟨us,[]⟩ (us++ds) (vs++dvs) Q E hr I.env0 (hb s us I.kIn hl) r2 h) fun r s' hq=>?_);cases r with
 |error e=>exact hx pins σ H s e s' I hq
 |ok fl =>
  cases fl with
  |ret u=>exact I.after hq
  |next=>exact False.elim hq
  |brk=>exact False.elim hq
  |cont=>exact False.elim hq
theorem z9p(F:FnOk X.prog X.w X.K X.mg X.base CX k f fd ps sp)(hr:Room k X.A)(hg:Gl X x)(hm:X.mg x=some (.ref f))(hk:Es X.K (.ref f)=true)(hb:Binds X.K fd ps ds)(hd:Vals dvs ds)(hx:Passes CX X E)(ha:PA X (e::es) t)(hdb:(x==("__debug__" : Str))=false:=by decide)(he:Bc (e::es) X.env=(false,eval e X.env)::Bc es X.env:=by rfl)(hpl:(Eg pos (Bc es X.env)).any (·.1)=false:=by rfl):
  PE X (.Call (.Name x p) (e::es) [] pos) (tCall sp dvs E t):=by
 intro pins s σ H Q I h;refine Ew (q2o I hg hm ?_ hdb);refine Jk I.ok.mod.kin hk (thn (ha pos pins s σ H _ I h) fun us s1 ⟨vs,H1,I1,r,q⟩=>⟨I1.kIn,?_⟩) he hpl;exact z3g F hr hb hd hx I1 r q
theorem z9q{pl:Sem Bool}(he:PE X o ta)(c:Cls X.K C)(hm:Meth X.K C m f)(F:FnOk X.prog X.w X.K X.mg X.base CX k f fd ps sp)(hr:Room k X.A)(hb:Binds X.K fd ps ds)(hd:Vals dvs ds)(hx:Passes CX X E)(ha:PA X (e::es) t)(hst:Bc (e::es) X.env=(false,eval e X.env)::Bc es X.env:=by rfl)(hpl:(Eg pos (Bc es X.env)).any (·.1)=false:=by rfl)(ht:eval (.Call (.Attribute o m apos) (e::es) [] pos) X.env=(do
   let ov<-eval o X.env
   Ls apos.atName
   let (f,first)<-Jw [ov] (Kp ov m pl)
   Pz pos f first (Eg pos (Bc (e::es) X.env)) (Lw pos (Ip [] X.env))):=by rfl):
  PE X (.Call (.Attribute o m apos) (e::es) [] pos) (tMeth C m sp dvs E ta t):=by
 intro pins s σ H Q I h;refine Oe (thn (he pins s σ H _ I h) fun u s1 ⟨x,H1,I1,rx,a,dx,fs,ex,ea,l,q⟩=>?_) ht;subst ex;obtain rfl:u=Value.ref a:=rx;refine q6g I1 ea c hm l ?_;refine Jk I.ok.mod.kin hm.kp (thn (ha pos pins s1 σ H1 _ I1 q) fun us s2 ⟨vs,H2,I2,r,q2⟩=>⟨I2.kIn,?_⟩) hst hpl;exact z3g (vs:=.ref a::vs) F hr hb hd hx I2 (.cons rfl r) q2
theorem z6s(he:PE X o ta)(c:Cls X.K C)(hm:Meth X.K C m f)(F:FnOk X.prog X.w X.K X.mg X.base CX k f fd ps sp)(hr:Room k X.A)(hb:Binds X.K fd ps ds)(hd:Vals dvs ds)(hx:Passes CX X E)(ht:eval (.Call (.Attribute o m apos) [] [] pos) X.env=(do
   let ov<-eval o X.env
   Ls apos.atName
   let (f,first)<-Jw [ov] (Kp ov m pl)
   Pz pos f first (Eg pos (Bc [] X.env)) (Lw pos (Ip [] X.env))):=by rfl):
  PE X (.Call (.Attribute o m apos) [] [] pos) (tMeth C m sp dvs E ta tNil):=by
 intro pins s σ H Q I h;refine Oe (thn (he pins s σ H _ I h) fun u s1 ⟨x,H1,I1,rx,a,dx,fs,ex,ea,l,q⟩=>?_) ht;subst ex;obtain rfl:u=Value.ref a:=rx;refine q6g I1 ea c hm l ?_;exact W.callWith_K0 I1.kIn hm.kp (z3g (vs:=[.ref a]) F hr hb hd hx I1 (.cons rfl .nil) q)
structure Mk (K:Ah) (C f:Addr):Prop where
 makes:Ue K C=true
 init:Bl K (.ref C) "__init__" = some (some (.ref f))
 fn:Te K (.ref f)=true
 kp:Es K (.ref C)=true
end
structure FnScope (N P:List Str) (sc:Scope):Prop where
 kind:sc.kind=.function
 co:sc.isCoroutine=false
 gen:sc.isGenerator=false
 nd:N.Nodup
 pre:N.take P.length=P
 par:∀x∈P,sc.names.lookup x=some .local\/sc.names.lookup x=some .cell
 nofree:∀y∈sc.names,y.2≠.free
theorem q7v{kindOf:Str->Option Bd}:∀{binds:List (Str×Value)} {m:Str->Option Value},(∀v,(x,v)∉binds)->bindL kindOf binds m x=m x
 |[],_,_=>rfl
 |(n,v)::r,m,h=>by
  unfold bindL;rw[q7v fun w hw=>h w (Ai _ hw)];split
  ·have:x≠n:=by rintro rfl;exact h v Am
   simp[this]
  ·rfl
theorem q7w{kindOf:Str->Option Bd}:∀{binds:List (Str×Value)} {m:Str->Option Value},(∀v,(x,v)∉binds)->bindC kindOf binds m x=m x
 |[],_,_=>rfl
 |(n,v)::r,m,h=>by
  unfold bindC;rw[q7w fun w hw=>h w (Ai _ hw)];split
  ·rfl
  ·have:x≠n:=by rintro rfl;exact h v Am
   simp[this]
theorem q7x{kindOf:Str->Option Bd}{x:Str}{v:Value}:∀{P:List Str} {vs:List Value} {i:Nat} {m:Str->Option Value},P.Nodup->P[i]?=some x->vs[i]?=some v->kindOf x=some .local ->
  bindL kindOf (P.zip vs) m x=some v
 |[],_,_,_,_,h,_,_=>by simp at h
 |_::_,[],_,_,_,_,h,_=>by simp at h
 |p::P,w::vs,0,m,nd,h1,h2,hk=>by
  simp at h1 h2;subst h1;subst h2;show bindL kindOf ((p,w)::P.zip vs) m p=_;unfold bindL;rw[q7v fun v hv=>(Dd.mp nd).1 (Of hv).1,if_pos hk];simp
 |p::P,w::vs,i+1,m,nd,h1,h2,hk=>by
  show bindL kindOf ((p,w)::P.zip vs) m x=_;unfold bindL;exact q7x (i:=i) (Dd.mp nd).2 (by simpa using h1) (by simpa using h2) hk
theorem q7y{kindOf:Str->Option Bd}{x:Str}{v:Value}:∀{P:List Str} {vs:List Value} {i:Nat} {m:Str->Option Value},P.Nodup->P[i]?=some x->vs[i]?=some v->kindOf x≠some .local ->
  bindC kindOf (P.zip vs) m x=some v
 |[],_,_,_,_,h,_,_=>by simp at h
 |_::_,[],_,_,_,_,h,_=>by simp at h
 |p::P,w::vs,0,m,nd,h1,h2,hk=>by
  simp at h1 h2;subst h1;subst h2;show bindC kindOf ((p,w)::P.zip vs) m p=_;unfold bindC;rw[q7w fun v hv=>(Dd.mp nd).1 (Of hv).1,if_neg hk];simp
 |p::P,w::vs,i+1,m,nd,h1,h2,hk=>by
  show bindC kindOf ((p,w)::P.zip vs) m x=_;unfold bindC;exact q7y (i:=i) (Dd.mp nd).2 (by simpa using h1) (by simpa using h2) hk
def start(N:List Str)(vs:List V):St:=vs.map some++List.replicate (N.length-vs.length) none
def cxOf(CX:CXT)(P:Program)(w:World)(K:Ah)(mg:Str->Option Value)(base:Heap)(N:List Str)(qual:Str)(scope:Scope)(f:Addr)(cd:Value)(A:Around)(outer:List Env)(s:Af)(H:Hp)(E:XK):Cx where
 prog:=P
 w:=w
 K:=K
 mg:=mg
 base:=base
 A:=A.deeper (Fx qual scope s.heap.objs.size f cd)
 N:=N
 s₀:=s
 H₀:=H
 env:=Fx qual scope s.heap.objs.size f cd
 outer:=outer
 stack:=Fx qual scope s.heap.objs.size f cd::outer
 ex:=[]
 calm:=true
 fn:=fun _=>true
 pn:=[]
 xe:=fun e s'=>wpAny (model P w) (A.deeper (Fx qual scope s.heap.objs.size f cd)) (leaving (Fx qual scope s.heap.objs.size f cd) e) (fun _ s''=>CX outer H s E e s'') (fun e' s''=>CX outer H s E e' s'') s'
theorem z0j{sc:Scope}(h:sc.names.lookup x=some .cell):∃c,(cellsFrom n sc.names []).lookup x=some c:=by
 have q:=So sc.names n [] (.inl h);exact Nr.mp q
theorem z3h{K:Ah}(S:FnScope N ps scope)(hd:A.handled=none)(e0:Env0 P w K mg base A outer s H)(hl:vs.length=ps.length)(r:Vals vs us)(x:InCallC s s.heap.objs.size (bindL (Fx qual scope s.heap.objs.size f cd).kindOf (ps.zip us) fun _=>none) (cellsFrom (s.heap.objs.size+1) scope.names []) (bindC (Fx qual scope s.heap.objs.size f cd).kindOf (ps.zip us) fun _=>none) s1):
  Inv (cxOf CX P w K mg base N qual scope f cd A outer s H E) [] (start N vs) H s1:=by
 have hpl:ps.length<=N.length:=by have:=congrArg List.length S.pre;rw[Bu] at this;lia
 obtain⟨h1,tk,rfl,hk⟩:=x.done;have noA:∀b:Addr,b∉(cxOf CX P w K mg base N qual scope f cd A outer s H E).ex:=fun b z=>absurd (show b∈([]:List Addr) from z) (by simp)
 refine⟨⟨e0.mod,S.kind,rfl,rfl,Ak _,fun y z c h1 h2=>?_,fun y hy=>?_,fun y c _ h=>?_,fun _=>hd,Around.frames_deeper e0.frames,.inr ⟨rfl,rfl⟩,fun b z=>absurd z (noA b),e0.bs,e0.bsz,fun b _ _=>noA b,fun b z=>absurd z (noA b),e0.funs,e0.frf⟩,
  rfl,e0.bare,Un.kept hk,⟨_,x.toInCall.ns,fun i y v h1 h2 h3=>?_⟩,fun y c h=>⟨_,x.cell y c h⟩,e0.hok.fresh (Ak _),fun y c h=>?_,fun p hp=>absurd (show p∈([]:List (Addr×Obj)) from hp) (by simp),e0.hok.kept hk,?_⟩
 ·exact name_of_addr x.apart (Ej h1) (Ej h2)
 ·have hy:scope.names.lookup y=some .cell\/scope.names.lookup y=some .free:=hy;rcases hy with hy|hy
  ·exact z0j hy
  ·exact absurd rfl (S.nofree _ (Ej hy))
 ·exact Je (x.above y c (Ej h))
 ·have hi:i<vs.length:=by
   unfold start at h2;by_cases hi:i<vs.length
   ·exact hi
   ·rw[Mo (by simpa using hi)] at h2;rw[List.getElem?_replicate] at h2;split at h2<;>cases h2
  have ha:vs[i]?=some v:=by
   unfold start at h2;rw[Nf (by simpa using hi),Bk] at h2;cases e:vs[i]? with
   |none=>simp_all
   |some a=>grind
  obtain⟨u,hu,rv⟩:=r.get ha;have hp:ps[i]?=some y:=by
   rw[<- S.pre,List.getElem?_take_of_lt (by lia)];exact h1
  have ndP:ps.Nodup:=by rw[<- S.pre];exact S.nd.sublist (List.take_sublist _ _)
  refine⟨u,rv,?_⟩;rcases S.par y (Au hp) with k|k
  ·exact .inl ⟨k,q7x ndP hp hu k⟩
  ·obtain⟨c,e⟩:=z0j k;refine .inr ⟨.inl k,c,e,?_⟩;have q:=x.cell y c e;rw[q7y ndP hp hu (by show scope.names.lookup y≠_;rw[k];decide)] at q;exact q
 ·exact e0.hok.fresh (Je (x.above y c (Ej h)))
 ·unfold start;show _=N.length;rw[Aj,Ad,List.length_replicate];lia
theorem z6t{K:Ah}{kV:Value}(lk:K.lookup f=some ⟨oc,od,.func (Gu name qual params body scope dV kV doc pm an cdv ct),osl⟩)(hcd:Jl K cdv qual=true)(S:FnScope N ps scope)(len:∀vs H Q E,sp vs H Q E->vs.length=ps.length)(hbody:∀(A:Around) (outer:List Env) (s:Af) (H:Hp) (vs:List V) (Q:VK) (E:XK),Room k (A.deeper (Fx qual scope s.heap.objs.size f cdv))->sp vs H Q E ->
   ∃t,PSs (cxOf CX P w K mg base N qual scope f cdv A outer s H E) body t/\t { nx:=fun _ H'=>Q .non H',rt:=Q } (start N vs) H):
  FnOk P w K mg base CX (k+1) f (Gu name qual params body scope dV kV doc pm an cdv ct) ps sp:=by
 refine⟨len,fun A outer s H args us vs Q E hr e0 hb r hsp=>?_⟩;have hl:=len _ _ _ _ hsp;have KX:=e0.mod.kin.keeps fun b o e=>(e0.bs b o e).1;have lim:=e0.mod.nolimit.keeps fun b o e=>(e0.bs b o e).1;have hkind:∀y∈ps.zip us,scope.names.lookup y.1=some .local\/(scope.names.lookup y.1=some .cell/\((cellsFrom (s.heap.objs.size+1) scope.names []).lookup y.1).isSome=true):=fun⟨n,v⟩ hy=>by
  rcases S.par n (Of hy).1 with q|q
  ·exact .inl q
  ·exact .inr ⟨q,So _ _ _ (.inl q)⟩
 refine codeAny_call_function hr.depth (KX _ _ lk) rfl S.co S.gen rfl (W.codeRec_of KX hcd) (hb _ _ _ _ ?_);refine wpAny_newFunctionEnv_cells S.kind hkind fun env he s1 x=>?_;subst he;refine⟨lim.keeps x.toInCall.keep,codeAny_func ?_⟩;obtain⟨t,ht,hq⟩:=hbody A outer s H vs Q E (hr.deeper _) hsp;have I:Inv (cxOf CX P w K mg base N qual scope f cdv A outer s H E) [] (start N vs) H s1:=z3h S hr.hd e0 hl r x;refine Bp (ht [] s1 (start N vs) H _ I hq) (fun fl s' hs=>?_) fun e s' hs=>hs;have fin:∀{σ':St} {H':Hp} {v:V} {u:Value},Inv (cxOf CX P w K mg base N qual scope f cdv A outer s H E) [] σ' H' s'->RelV v u->Q v H'->CE outer P w H s Q u s' :=
  fun{σ' H' v u} J rv q=>⟨v,H',J.os,J.bare,J.base,J.hok,rv,q⟩
 cases fl with
 |ret u =>
  obtain⟨v,σ',H',J,rv,q⟩:=hs;exact fin J rv q
 |next =>
  obtain⟨σ',H',J,q⟩:=hs;exact fin (v:=V.non) J rfl q
 |brk =>
  obtain⟨_,_,_,q⟩:=hs;exact False.elim q
 |cont =>
  obtain⟨_,_,_,q⟩:=hs;exact False.elim q
open PySem PySem.Spec PyProof.Rows
section
variable{X:Cx}{x:Str}{p pos:Pos}{e:Expr}{es:List Expr}{t:TA}{id T:String}{r:List V->Hp->VK->Prop}
def tCB(r:List V->Hp->VK->Prop)(t:TA):TE:=fun σ H Q=>t σ H fun vs H1=>r vs H1 Q
theorem q0i(hc:CallR X (.builtin id) r)(hg:Gl X x)(hm:X.mg x=none)(hv:Hr x=some (.builtin id))(ha:PA X (e::es) t)(hn:x ≠ "__name__" := by decide)(hdb:(x==("__debug__" : Str))=false:=by decide)(he:Bc (e::es) X.env=(false,eval e X.env)::Bc es X.env:=by rfl)(hpl:(Eg pos (Bc es X.env)).any (·.1)=false:=by rfl):PE X (.Call (.Name x p) (e::es) [] pos) (tCB r t):=by
 intro pins s σ H Q I h;refine Ew (q7s I hg hm hv ?_ hn hdb);exact Kz (thn (ha pos pins s σ H _ I h) fun us s1 ⟨vs,H1,I1,r1,q1⟩=>hc pins s1 σ H1 vs us Q I1 r1 q1) he hpl
theorem q0x(hc:CallR X (.type T) r)(hg:Gl X x)(hm:X.mg x=none)(hv:Hr x=some (.type T))(ha:PA X (e::es) t)(hn:x ≠ "__name__" := by decide)(hdb:(x==("__debug__" : Str))=false:=by decide)(he:Bc (e::es) X.env=(false,eval e X.env)::Bc es X.env:=by rfl)(hpl:(Eg pos (Bc es X.env)).any (·.1)=false:=by rfl):PE X (.Call (.Name x p) (e::es) [] pos) (tCB r t):=by
 intro pins s σ H Q I h;refine Ew (q7s I hg hm hv ?_ hn hdb);exact Ia (thn (ha pos pins s σ H _ I h) fun us s1 ⟨vs,H1,I1,r1,q1⟩=>hc pins s1 σ H1 vs us Q I1 r1 q1) he hpl
end
end L2
namespace HT
open PySem PyProof.Rows
section
variable{prog:Program}{w:World}{A:Around}{E:Value->Af->Prop}{s:Af}
theorem cat_tup(ht:IsTup s.heap t vs.toArray)(hb:IsTup s.heap b ws.toArray)(hv:vs≠[])(h1:ws=[]->Q (.ref t) s)(h2:ws≠[]->Q (.ref s.heap.objs.size) { s with heap:=s.heap.push { cls:=.type "tuple",data:=.seq (vs++ws).toArray } })(hsz:vs.length+ws.length<=sizeLine):wpAny (model prog w) A (Fy .Add (.ref t) (.ref b)) Q E s:=by
 obtain⟨⟨cls,dd,data,sl⟩,ho,hc,n,hd⟩:=id ht;obtain⟨⟨cls2,dd2,data2,sl2⟩,ho2,hc2,n2,hd2⟩:=id hb;subst hc hd hc2 hd2;have e:vs.toArray++ws.toArray=(vs++ws).toArray:=by simp
 by_cases hw:ws=[]
 ·exact Qx ⟨_,ho,rfl⟩ ⟨_,ho2,rfl⟩ Nt Qh Kg Jz (Jm _ _)
   (tuple_addW1 t b vs.toArray ws.toArray n n2 dd dd2 sl sl2 (by simpa using hv) (by simp[hw])) ⟨ho,ho2,h1 hw⟩
 ·refine Qx ⟨_,ho,rfl⟩ ⟨_,ho2,rfl⟩ Nt Qh Kg Jz (Jm _ _)
   (tuple_addW2 t b vs.toArray ws.toArray n n2 dd dd2 sl sl2 (by simpa using hv) (by simpa using hw) (by rw[Ax,Ax];exact hsz)) ⟨ho,ho2,?_⟩
  rw[e];exact h2 hw
def sIx(n d:Nat):Option Int->Nat
 |none=>d
 |some v=>if v<0 then(v+(n:Int)).toNat else min v.toNat n
theorem z3i(v:Int)(n d:Nat):(if v<0 then max (v+(n:Int)) 0 else min v (n:Int))=((sIx n d (some v):Nat):Int):=by
 show(if v<0 then max (v+(n:Int)) 0 else min v (n:Int))=(((if v<0 then(v+(n:Int)).toNat else min v.toNat n):Nat):Int)
 by_cases hv:v<0
 ·grind
 ·grind
theorem z1v(lo hi:Option Int)(n:Nat):Ng lo hi 1 (n:Int)=(((sIx n 0 lo:Nat):Int),((sIx n n hi:Nat):Int)):=by
 refine Prod.ext ?_ ?_
 ·cases lo with
  |none=>rfl
  |some v=>exact z3i v n 0
 ·cases hi with
  |none=>rfl
  |some v=>exact z3i v n n
theorem z1w(i j:Nat):Gm (i:Int) (j:Int) 1=j-i:=by
 unfold Gm;have h1:(1:Int)>0:=by lia
 simp only[h1,if_true,Int.ediv_one];split<;>lia
theorem q6h(p:Mc v o)(h:Q o s):wpAny (model prog w) A (Dw.Slice.slicePartIndex v) Q E s:=by
 cases p with
 |none=>exact slicePart_none h
 |int i t=>exact slicePart_int h
theorem q4m{lo:Option Int}{n:Nat}(hs:s.heap.IsSliceOf sl vl vu .none)(pl:Mc vl lo)(pu:Mc vu hi)(h:Q (((sIx n 0 lo:Nat):Int),1,sIx n n hi-sIx n 0 lo) s):wpAny (model prog w) A (Dw.Slice.sliceApplied (.ref sl) (pure (n:Int))) Q E s:=by
 obtain⟨os,hos,hcs,hds⟩:=id hs;refine Ab (Ab (Ca hos hds rfl (Ab (Ca hos hds rfl (Ab (Ca hos hds rfl (Ae ?_)))))));refine Ab (slicePart_none ?_);refine Ab (q6h pl (Ab (q6h pu (Ab (Ae ?_)))));show wpAny _ _ (match Ng lo hi 1 (n:Int) with|(lo,hi)=>pure (lo,(1:Int),Gm lo hi 1)) _ _ s;rw[z1v lo hi n];show wpAny _ _ (pure (((sIx n 0 lo:Nat):Int),(1:Int),Gm ((sIx n 0 lo:Nat):Int) ((sIx n n hi:Nat):Int) 1)) _ _ s;rw[z1w];exact Ae h
theorem z6u(xs:Array Value)(i k:Nat):((List.range k).filterMap fun(m:Nat)=>xs[((i:Int)+(m:Int)*1).toNat]?).toArray=((xs.toList.drop i).take k).toArray:=by
 have e:(fun(m:Nat)=>xs[((i:Int)+(m:Int)*1).toNat]?)=fun m=>xs[i+m]?:=by grind
 rw[e];have:=pick_run xs i k;rw[Qy] at this;have e2:((fun x=>xs[x]?)∘fun x=>i+x)=fun m=>xs[i+m]?:=rfl;rw[e2] at this;rw[this]
theorem getItem_tuple_cut{lo:Option Int}(ht:IsTup s.heap t items)(hs:s.heap.IsSliceOf sl vl vu .none)(pl:Mc vl lo)(pu:Mc vu hi)(hw:¬(sIx items.size 0 lo=0/\sIx items.size items.size hi=items.size))(h:Q (.ref s.heap.objs.size) { s with heap:=s.heap.push { cls:=.type "tuple",data:=.seq ((items.toList.drop (sIx items.size 0 lo)).take (sIx items.size items.size hi-sIx items.size 0 lo)).toArray } })(hsz:items.size<=sizeLine):wpAny (model prog w) A (getItem (.ref t) (.ref sl)) Q E s:=by
 have htake:sizeOk (.seq ((items.toList.drop (sIx items.size 0 lo)).take (sIx items.size items.size hi-sIx items.size 0 lo)).toArray):=by
  show((items.toList.drop (sIx items.size 0 lo)).take (sIx items.size items.size hi-sIx items.size 0 lo)).toArray.size<=sizeLine;rw[Ax,Bu,Dj,Fw];lia
 obtain⟨os,hos,hcs,hds⟩:=id hs;have hTs:s.TypeIs (.ref sl) "slice" := ⟨os,hos,hcs⟩
 unfold getItem;try with_reducible refine Bz ?_
 refine Ab (wpAny_sequenceKey ht.typeIs (by decide) ?_);refine Ab (Dh ht.typeIs Ha
  (Co Ha ht.typeIs entry_tuple_getitem ?_ (args_tuple_getitem _ _)))
 show wpAny _ _ (Dw.Tuple.tupleItemsOf (.ref t) >>= _) _ _ s;refine Ab (tupleItemsOf_ ht ?_);refine Ab (Hu hTs ?_);refine Ab (q4m hs pl pu ?_);have hno:¬((((sIx items.size 0 lo:Nat):Int)==0&&(1:Int)==1&&(sIx items.size items.size hi-sIx items.size 0 lo)==items.size)=true):=by grind
 show wpAny _ _ (if (((sIx items.size 0 lo:Nat):Int)==0&&(1:Int)==1&&(sIx items.size items.size hi-sIx items.size 0 lo)==items.size)=true then _ else _) _ _ s;rw[if_neg hno,z6u];first
  |exact Ab (By (Ae ⟨_,rfl,Ae h⟩) htake)
  |exact Ab (By (Ab (Ae (Ae ⟨_,rfl,Ae h⟩))) htake)
  |exact Ab (Ab (By (Ae (Ae ⟨_,rfl,Ae h⟩)) htake))
  |exact Ab (Ab (By (Ae ⟨_,rfl,Ae h⟩) htake))
end
end HT
namespace L2
open PySem PySem.Spec PyProof.Rows
abbrev TO:=St->Hp->(Option Int->Hp->Prop)->Prop
def PO(X:Cx)(e:Option Expr)(t:TO):Prop :=
 ∀(pins:List (Addr×Obj)) (s:Af) (σ:St) (H:Hp) (Q:Option Int->Hp->Prop),Inv X pins σ H s->t σ H Q ->
  wpAny (model X.prog X.w) X.A (evalPart e X.env) (fun u s'=>∃o H',Inv X pins σ H' s'/\Mc u o/\Q o H') X.xe s
def tNoPart:TO:=fun _ H Q=>Q none H
def tPart(t:TE):TO:=fun σ H Q=>t σ H fun x H1=>∃i,x=.int i/\Q (some i) H1
section
variable{X:Cx}{e:Expr}{te:TE}{lo hi:Option Expr}{tl th:TO}{pos p2:Pos}
theorem q1t:PO X none tNoPart:=by
 intro pins s σ H Q I h;exact Ae ⟨none,H,I,.none,h⟩
theorem q1u(h:PE X e te):PO X (some e) (tPart te):=by
 intro pins s σ H Q I hw;refine thn (h pins s σ H _ I hw) fun u s1 ⟨x,H1,I1,r1,q1⟩=>?_;obtain⟨i,rfl,q⟩:=q1;obtain⟨t,rfl⟩:=r1;exact⟨some i,H1,I1,.int i t,q⟩
def SlR(X:Cx)(r:V->Option Int->Option Int->Hp->VK->Prop):Prop :=
 ∀(pins:List (Addr×Obj)) (s:Af) (σ:St) (H:Hp) (x:V) (v vl vu:Value) (lo hi:Option Int) (sl:Addr) (Q:VK),Inv X pins σ H s->RelV x v->s.heap.IsSliceOf sl vl vu .none->Mc vl lo->Mc vu hi->r x lo hi H Q ->
  ∃T id,Nh (.type T) "__getitem__" = pure (some (.builtin id))/\s.TypeIs v T/\wpAny (model X.prog X.w) X.A (getItem v (.ref sl)) (EP X pins σ Q) X.xe s
theorem SlR.or(h:SlR X r)(h':SlR X r'):SlR X (fun x lo hi H Q=>r x lo hi H Q\/r' x lo hi H Q):=by
 intro pins s σ H x v vl vu lo hi sl Q I rx hs pl pu q;rcases q with q|q
 ·exact h pins s σ H x v vl vu lo hi sl Q I rx hs pl pu q
 ·exact h' pins s σ H x v vl vu lo hi sl Q I rx hs pl pu q
def tSl(r:V->Option Int->Option Int->Hp->VK->Prop)(te:TE)(tl th:TO):TE:=fun σ H Q=>te σ H fun x H1=>tl σ H1 fun l H2=>th σ H2 fun u H3=>r x l u H3 Q
theorem q1i{r:V->Option Int->Option Int->Hp->VK->Prop}(hr:SlR X r)(he:PE X e te)(hl:PO X lo tl)(hu:PO X hi th):PE X (.Subscript e (.Slice lo hi none p2) pos) (tSl r te tl th):=by
 intro pins s σ H Q I h;refine Tf (thn (he pins s σ H _ I h) fun v s1 ⟨x,H1,I1,r1,q1⟩=>?_);refine wpAny_Slice (thn (hl pins s1 σ H1 _ I1 q1) fun vl s2 ⟨l,H2,I2,pl,q2⟩=>thn (hu pins s2 σ H2 _ I2 q2) fun vu s3 ⟨u,H3,I3,pu,q3⟩=>?_);refine Ae ?_;have I4:Inv X pins σ H3 { s3 with heap:=s3.heap.push { cls:=.type "slice",data:=.fields #[vl,vu,.none] } }:=I3.kept (t':=s3.toks) fun b ob q=>Ag _ q;obtain⟨T,id,hT,ht,hg⟩:=hr pins { s3 with heap:=s3.heap.push { cls:=.type "slice",data:=.fields #[vl,vu,.none] } } σ H3 x v vl vu l u s3.heap.objs.size Q I4 r1 (Heap.IsSliceOf.new ..) pl pu q3;exact tail_any ht hT hg (by with_unfolding_all rfl)
def cutV(xs:List V)(lo hi:Option Int):List V:=(xs.drop (HT.sIx xs.length 0 lo)).take (HT.sIx xs.length xs.length hi-HT.sIx xs.length 0 lo)
theorem q4t(xs:List V)(lo hi:Option Int):(cutV xs lo hi).length<=xs.length:=by
 unfold cutV;rw[Bu,Dj];lia
def rSlT(K:Ah):V->Option Int->Option Int->Hp->VK->Prop:=fun x lo hi H Q=>∃a xs,x=.ref a/\SqT K H a xs /\
 ¬(HT.sIx xs.length 0 lo=0/\HT.sIx xs.length xs.length hi=xs.length)/\∀p,H p=none->Q (.ref p) (upd H p (.tup (cutV xs lo hi)))
theorem sl_tup:SlR X (rSlT X.K):=by
 intro pins s σ H x v vl vu lo hi sl Q I rx hs pl pu h;obtain⟨a,xs,rfl,hx,hw,q⟩:=h;cases rx;obtain⟨its,r,ht,hz⟩:=I.tuple hx;have hlen:its.toArray.size=xs.length:=by rw[Ax];exact r.length.symm
 refine⟨"tuple",_,Ha.lookup,ht.typeIs,?_⟩;refine HT.getItem_tuple_cut ht hs pl pu (by rw[hlen];exact hw) ?_ (by rw[hlen];exact hz);rw[hlen];refine⟨.ref s.heap.objs.size,_,I.laid (t':=s.toks) (fun b ob q=>Ag _ q) (Ak _) ?_,rfl,q _ (I.hok.fresh (Ak _))⟩;exact⟨Bi (q4t xs lo hi) hz,_,(r.drop (HT.sIx xs.length 0 lo)).take (HT.sIx xs.length xs.length hi-HT.sIx xs.length 0 lo),Ug _ _⟩
theorem Vals.nil_iff(r:Vals xs us):us=[]↔xs=[]:=by
 cases r with
 |nil=>simp
 |cons _ _=>simp
end
open PySem PySem.Spec PyProof.Rows
def ixN(n:Nat)(i:Int):Option Nat:=if 0<=i then(if i<n then some i.toNat else none) else if -(n:Int)<=i then some (i+n).toNat else none
def atI{α:Type}(xs:List α)(i:Int):Option α:=(ixN xs.length i).bind fun j=>xs[j]?
theorem z3j(h:ixN n i=some j):seqIndex? i n=some j/\j<n /\ -(n:Int)<=i/\i<n:=by
 unfold ixN at h;by_cases h0:0<=i
 ·rw[if_pos h0] at h;by_cases h1:i<n
  ·rw[if_pos h1] at h;have e:=Dc h;exact⟨by rw[Sj h0 h1,e],by lia,by lia,h1⟩
  ·grind
 ·rw[if_neg h0] at h;by_cases h1 : -(n:Int)<=i
  ·rw[if_pos h1] at h;have e:=Dc h;exact⟨by rw[seqIndex_neg (by lia) h1,e],by lia,h1,by lia⟩
  ·grind
theorem q4u{xs:List α}{v:α}(h:atI xs i=some v):∃j,seqIndex? i xs.length=some j/\xs[j]?=some v/\j<xs.length /\ -(xs.length:Int)<=i/\i<xs.length:=by
 unfold atI at h;cases e:ixN xs.length i with
 |none=>rw[e] at h;cases h
 |some j =>
  rw[e] at h;obtain⟨h1,h2,h3,h4⟩:=z3j e;exact⟨j,h1,h,h2,h3,h4⟩
theorem q9j{xs:List α}{j:Nat}{v:α}(h:xs[j]?=some v):atI xs (j:Int)=some v:=by
 have hj:=(Ba.mp h).1;have e:ixN xs.length (j:Int)=some j:=by
  unfold ixN;rw[if_pos (by lia),if_pos (by lia)];simp
 unfold atI;rw[e];exact h
def PlainIx(b:Expr):Prop:=∀o i,Om b false o i=operate [o,i] (getItem o i)
def IxR(X:Cx)(r:R2):Prop :=
 ∀(value slice:Expr) (pins:List (Addr×Obj)) (s:Af) (σ:St) (H:Hp) (x y:V) (v u:Value) (Q:VK),Inv X pins σ H s->RelV x v->RelV y u->r x y H Q ->
  Om slice false v u=operate [v,u] (getItem v u)->wpAny (model X.prog X.w) X.A (subscriptTail value slice v u) (EP X pins σ Q) X.xe s
def MtR(X:Cx)(id:String)(r:V->List V->Hp->VK->Prop):Prop :=
 ∀(pins:List (Addr×Obj)) (s:Af) (σ:St) (H:Hp) (x:V) (xs:List V) (v:Value) (us:List Value) (Q:VK),Inv X pins σ H s->RelV x v->Vals xs us->r x xs H Q ->
  wpAny (model X.prog X.w) X.A (call (.builtin id) (v::us)) (EP X pins σ Q) X.xe s
section
variable{X:Cx}{a b:Expr}{ta tb:TE}{pos:Pos}
theorem IxR.or(h:IxR X r)(h':IxR X r'):IxR X (fun x y H Q=>r x y H Q\/r' x y H Q):=by
 intro value slice pins s σ H x y v u Q I rx ry q hs;rcases q with q|q
 ·exact h value slice pins s σ H x y v u Q I rx ry q hs
 ·exact h' value slice pins s σ H x y v u Q I rx ry q hs
theorem MtR.or{id:String}(h:MtR X id r)(h':MtR X id r'):MtR X id (fun x xs H Q=>r x xs H Q\/r' x xs H Q):=by
 intro pins s σ H x xs v us Q I rx rs q;rcases q with q|q
 ·exact h pins s σ H x xs v us Q I rx rs q
 ·exact h' pins s σ H x xs v us Q I rx rs q
theorem q0z{r:R2}(hr:IxR X r)(ha:PE X a ta)(hb:PE X b tb)(hs:PlainIx b):PE X (.Subscript a b pos) (tOp r ta tb):=by
 intro pins s σ H Q I h;exact Tf (binT ha hb I h fun v u s2 x y H2 I2 rx ry q=>hr a b pins s2 σ H2 x y v u Q I2 rx ry q (hs _ _))
def rIxL(K:Ah):R2:=fun x y H Q=>∃p xs i v,x=.ref p/\y=.int i/\SqL K H p xs/\atI xs i=some v/\Q v H
def rIxT(K:Ah):R2:=fun x y H Q=>∃p xs i v,x=.ref p/\y=.int i/\SqT K H p xs/\atI xs i=some v/\Q v H
def rIxS:R2:=fun x y H Q=>∃z i c,x=.str z/\y=.int i/\z.length<=sizeLine/\atI z.cps.toList i=some c/\Q (.str ⟨#[c]⟩) H
theorem ix_list:IxR X (rIxL X.K):=by
 intro value slice pins s σ H x y v u Q I rx ry h hs;obtain⟨p,xs,i,z,rfl,rfl,hq,he,q⟩:=h;cases rx;obtain⟨t,rfl⟩:=ry;obtain⟨its,r,pl,hz⟩:=I.list hq;obtain⟨j,h1,h2,h3,h4,h5⟩:=q4u he;obtain⟨w,ew,rw'⟩:=r.get h2;have hl:=r.length;have hn:=line63;have fin:EP X pins σ Q w s:=⟨z,H,I,rw',q⟩
 by_cases h0:0<=i
 ·have hj:i.toNat=j:=by
   rw[Sj h0 h5] at h1;exact Dc h1
  exact item_listR pl.isList h0 (by lia) (by rw[hj];simpa using ew) fin hs
 ·have hj:(i+(its.toArray.size:Int)).toNat=j:=by
   rw[seqIndex_neg (by lia) h4] at h1;rw[Ax,<- hl];exact Dc h1
  exact Oo pl.isList.typeIs slot_list_getitem.lookup
   (wpAny_getItem_list_neg pl.isList (by lia) (by rw[Ax]<;>lia) (by lia) (by rw[hj];simpa using ew) ⟨rfl,fin⟩) hs
theorem ix_tup:IxR X (rIxT X.K):=by
 intro value slice pins s σ H x y v u Q I rx ry h hs;obtain⟨p,xs,i,z,rfl,rfl,hq,he,q⟩:=h;cases rx;obtain⟨t,rfl⟩:=ry;obtain⟨its,r,pl,hz⟩:=I.tuple hq;obtain⟨j,h1,h2,h3,h4,h5⟩:=q4u he;obtain⟨w,ew,rw'⟩:=r.get h2;have hl:=r.length;have hn:=line63;have fin:EP X pins σ Q w s:=⟨z,H,I,rw',q⟩
 exact Oo pl.typeIs slot_tuple_getitem.lookup
  (getItem_tuple pl (by lia) (by lia) (by rw[Ax,<- hl];exact h1) (by simpa using ew) ⟨rfl,fin⟩) hs
theorem ix_str:IxR X rIxS:=by
 intro value slice pins s σ H x y v u Q I rx ry h hs;obtain⟨z,i,c,rfl,rfl,hz,he,q⟩:=h;obtain⟨t,rfl⟩:=rx;obtain⟨t',rfl⟩:=ry;obtain⟨j,h1,h2,h3,h4,h5⟩:=q4u he;have hl:z.cps.toList.length=z.length:=by simp[Str.length]
 rw[hl] at h1 h4 h5;have hn:=line63;exact tail_any (Jx s z t) slot_str_getitem.lookup (getItem_str (by
  have e1:decide (i < -(2^63:Int))=false:=decide_eq_false (by lia);have e2:decide (i>=2^63)=false:=decide_eq_false (by lia);rw[e1,e2,Bool.or_false]) (by rw[h1];simpa using h2) ⟨.str ⟨#[c]⟩,H,I.tok _,⟨_,rfl⟩,q⟩) hs
def rIx(K:Ah):R2:=fun x y H Q=>rIxL K x y H Q\/rIxT K x y H Q\/rIxS x y H Q
theorem ix_seq:IxR X (rIx X.K):=ix_list.or (ix_tup.or ix_str)
theorem z1x(its:List Value)(n j:Nat)(u:Value):Ga (·.setIfInBounds j u) { cls:=.type "list",data:=.seq its.toArray n }={ cls:=.type "list",data:=.seq (its.set j u).toArray n }:=by
 simp[Ga]
theorem Inv.lst{pins:List (Addr×Obj)}{σ:St}{H:Hp}{s:Af}{p:Addr}{xs:List V}(I:Inv X pins σ H s)(h:H p=some (.lst xs)):
  ∃(its:List Value) (n:Nat),Vals xs its/\s.heap.get? p=some { cls:=.type "list",data:=.seq its.toArray n }/\xs.length<=sizeLine:=by
 obtain⟨z,its,n,r,e⟩:=I.hok p _ h;exact⟨its,n,r,e,z⟩
theorem Inv.lstUpd{σ:St}{its:List Value}(I:Inv X pins σ H s)(h:H p=some (.lst xs))(ho:s.heap.get? p=some { cls:=.type "list",data:=.seq its.toArray n })(hf:f { cls:=.type "list",data:=.seq its.toArray n }={ cls:=.type "list",data:=.seq its'.toArray n' })(r:Vals ys its')(hz:ys.length<=sizeLine)(t:Nat):
  Inv X pins σ (upd H p (.lst ys)) { s with heap:=s.heap.update p f,toks:=t }:=by
 have e:(s.heap.update p f).get? p=some { cls:=.type "list",data:=.seq its'.toArray n' }:=by
  rw[Ex f ho (by rw[hf]<;>rfl),hf]
 refine I.write (by rw[h];trivial) (.inl rfl) (fun b u hb q=>(Br _ _ (Cd hb)).trans q) ⟨_,e⟩ ?_;exact⟨hz,its',n',r,e⟩
def rSetL:V->V->V->Hp->(Hp->Prop)->Prop:=fun o i v H Q=>∃p xs k j,o=.ref p/\i=.int k/\H p=some (.lst xs)/\ixN xs.length k=some j/\Q (upd H p (.lst (xs.set j v)))
theorem q4o:PSet X rSetL:=by
 intro pins s σ H o i v ov iv u Q I ro ri rv h;obtain⟨p,xs,k,j,rfl,rfl,hp,hj,q⟩:=h;cases ro;obtain⟨t,rfl⟩:=ri;obtain⟨its,n,r,ho,hz⟩:=I.lst hp;obtain⟨h1,h2,h3,h4⟩:=z3j hj;have hl:=r.length;have hn:=line63;have I':Inv X pins σ (upd H p (.lst (xs.set j v))) { s with heap:=s.heap.update p (Ga (·.setIfInBounds j u)) } :=
  I.lstUpd hp ho (z1x its n j u) (r.set rv j) (by rw[Tg];exact hz) s.toks
 by_cases h0:0<=k
 ·have hk:k.toNat=j:=by
   rw[Sj h0 h4] at h1;exact Dc h1
  exact W.ki_setAt ho h0 (by lia) (by rw[Ax,<- hl];exact h4) (by rw[hk];exact⟨_,I',q⟩)
 ·have hk:(k+(its.toArray.size:Int)).toNat=j:=by
   rw[seqIndex_neg (by lia) h3] at h1;rw[Ax,<- hl];exact Dc h1
  exact W.ki_setBack ho (by lia) (by rw[Ax,<- hl];exact h3) (by lia) (by rw[hk];exact⟨_,I',q⟩)
theorem q7z(lo hi:Option Int)(n:Nat):(Iq lo hi none n).1=((HT.sIx n 0 lo:Nat):Int)/\(Iq lo hi none n).2.1=((HT.sIx n n hi:Nat):Int)/\(Iq lo hi none n).2.2=1:=by
 refine⟨?_,?_,rfl⟩
 ·cases lo with
  |none=>simp[Iq,HT.sIx]
  |some i =>
   simp only[Iq,HT.sIx,Sq,show(1:Int)>0 by decide,if_true];by_cases h:i<0
   ·simp only[h,if_true]<;>lia
   ·simp only[h,if_false]<;>lia
 ·cases hi with
  |none=>simp[Iq,HT.sIx]
  |some i =>
   simp only[Iq,HT.sIx,Sq,show(1:Int)>0 by decide,if_true];by_cases h:i<0
   ·simp only[h,if_true]<;>lia
   ·simp only[h,if_false]<;>lia
theorem q6y(its:List Value)(lo hi:Option Int):slicePick its.toArray lo hi none=((its.drop (HT.sIx its.length 0 lo)).take (HT.sIx its.length its.length hi-HT.sIx its.length 0 lo)).toArray:=by
 obtain⟨h1,h2,h3⟩:=q7z lo hi its.toArray.size;unfold slicePick;rw[h1,h2,h3];simp only[sliceRange_one,pick_run,Ax]<;>rfl
def rSlL(K:Ah):V->Option Int->Option Int->Hp->VK->Prop:=fun x lo hi H Q=>∃a xs,x=.ref a/\SqL K H a xs/\∀p,H p=none->Q (.ref p) (upd H p (.lst (cutV xs lo hi)))
theorem sl_list:SlR X (rSlL X.K):=by
 intro pins s σ H x v vl vu lo hi sl Q I rx hs pl pu h;obtain⟨a,xs,rfl,hx,q⟩:=h;cases rx;obtain⟨its,r,ht,hz⟩:=I.list hx;have hlen:=r.length;refine⟨"list",_,slot_list_getitem.lookup,ht.isList.typeIs,?_⟩;refine wpAny_getItem_list_slice ht.isList hs pl pu .none (by simp) ?_ (by rw[Ax]<;>lia);rw[q6y,<- hlen];refine⟨.ref s.heap.objs.size,_,I.laid (t':=s.toks) (fun b ob q=>Ag _ q) (Ak _) ?_,rfl,q _ (I.hok.fresh (Ak _))⟩;exact⟨Bi (q4t xs lo hi) hz,_,0,(r.drop (HT.sIx xs.length 0 lo)).take (HT.sIx xs.length xs.length hi-HT.sIx xs.length 0 lo),As _ rfl⟩
def flatV:V->Bool
 |.non=>true
 |.bl _=>true
 |.int _=>true
 |.str _=>true
 |_=>false
def eqV:V->V->Bool
 |.non,.non=>true
 |.bl a,.bl b=>a==b
 |.bl a,.int b=>(if a then 1 else 0)==b
 |.int a,.bl b=>a==(if b then 1 else 0)
 |.int a,.int b=>a==b
 |.str a,.str b=>a==b
 |_,_=>false
theorem eqAt_V(ry:RelV y u)(rx:RelV x v)(fy:flatV y=true)(fx:flatV x=true):Cv A s u v (eqV y x):=by
 cases y with
 |non =>
  cases ry;cases x with
  |non=>cases rx;exact Th _
  |bl b=>cases rx;exact Cv.none_bool b
  |int b=>obtain⟨t,rfl⟩:=rx;exact Cv.none_int b t
  |str b=>obtain⟨t,rfl⟩:=rx;exact Cv.none_str b t
  |_=>exact absurd (show false=true from fx) Bh
 |bl a =>
  cases ry;cases x with
  |non=>cases rx;exact Cv.bool_none a
  |bl b=>cases rx;exact Cv.bool_bool a b
  |int b=>obtain⟨t,rfl⟩:=rx;exact Cv.bool_int a b t
  |str b=>obtain⟨t,rfl⟩:=rx;exact Cv.bool_str a b t
  |_=>exact absurd (show false=true from fx) Bh
 |int a =>
  obtain⟨t',rfl⟩:=ry;cases x with
  |non=>cases rx;exact Cv.int_none a t'
  |bl b=>cases rx;exact Cv.int_bool a t' b
  |int b=>obtain⟨t,rfl⟩:=rx;exact Cv.int_int a t' b t
  |str b=>obtain⟨t,rfl⟩:=rx;exact Qp a t' b t
  |_=>exact absurd (show false=true from fx) Bh
 |str a =>
  obtain⟨t',rfl⟩:=ry;cases x with
  |non=>cases rx;exact Cv.str_none a t'
  |bl b=>cases rx;exact Cv.str_bool a t' b
  |int b=>obtain⟨t,rfl⟩:=rx;exact Qq a t' b t
  |str b=>obtain⟨t,rfl⟩:=rx;exact Md a t' b t
  |_=>exact absurd (show false=true from fx) Bh
 |_=>exact absurd (show false=true from fy) Bh
def eqU(x:V)(u:Value):Bool:=match u with
 |.none=>eqV .non x
 |.bool b=>eqV (.bl b) x
 |.int i _=>eqV (.int i) x
 |.str z _=>eqV (.str z) x
 |_=>false
theorem z8k(r:RelV y u)(f:flatV y=true):eqU x u=eqV y x:=by
 cases y with
 |non=>cases r;rfl
 |bl b=>cases r;rfl
 |int i=>obtain⟨t,rfl⟩:=r;rfl
 |str z=>obtain⟨t,rfl⟩:=r;rfl
 |_=>exact absurd (show false=true from f) Bh
theorem q4v{x:V}:∀{xs:List V} {us:List Value},Vals xs us->xs.all flatV=true->us.any (eqU x)=xs.any fun y=>eqV y x
 |_,_,.nil,_=>rfl
 |y::xs,u::us,.cons r t,f=>by
  rw[List.all_cons,Et] at f;rw[Mp,Mp,z8k r f.1,q4v t f.2]
theorem q3n{A:Around}{s:Af}{x:V}{v:Value}(rx:RelV x v)(fx:flatV x=true):∀{xs:List V} {us:List Value},Vals xs us->xs.all flatV=true->∀u∈us,Cv A s u v (eqU x u)
 |_,_,.nil,_=>fun u hu=>by cases hu
 |y::xs,u::us,.cons r t,f=>fun u' hu=>by
  rw[List.all_cons,Et] at f;rcases Az.mp hu with rfl|hu
  ·rw[z8k r f.1];exact eqAt_V r rx f.1 fx
  ·exact q3n rx fx t f.2 u' hu
def inV(x:V)(xs:List V):Bool:=xs.any fun y=>eqV y x
def rIn(K:Ah)(neg:Bool):R2:=fun x y H Q=>∃p xs,y=.ref p/\(SqL K H p xs\/SqT K H p xs)/\flatV x=true/\xs.all flatV=true/\Q (.bl (if neg then !inV x xs else inV x xs)) H
theorem z3k:OpR X (Bs .In) (rIn X.K false):=by
 intro pins s σ H x y v u Q I rx ry h;obtain⟨p,xs,rfl,hq,fx,fs,q⟩:=h;cases ry;rcases hq with hq|hq
 ·obtain⟨its,r,pl,hz⟩:=I.list hq;refine Ti (eqU x) pl.isList (fun w hw=>q3n rx fx r fs w (by simpa using hw)) ⟨.bl _,H,I,rfl,?_⟩;rw[show its.toArray.any (eqU x)=its.any (eqU x) by simp,q4v r fs];exact q
 ·obtain⟨its,r,pl,hz⟩:=I.tuple hq;refine SeqAt.in_tupleAt (eqU x) pl (fun w hw=>q3n rx fx r fs w (by simpa using hw)) ⟨.bl _,H,I,rfl,?_⟩;rw[show its.toArray.any (eqU x)=its.any (eqU x) by simp,q4v r fs];exact q
theorem q8a:OpR X (Bs .NotIn) (rIn X.K true):=by
 intro pins s σ H x y v u Q I rx ry h;obtain⟨p,xs,rfl,hq,fx,fs,q⟩:=h;cases ry;rcases hq with hq|hq
 ·obtain⟨its,r,pl,hz⟩:=I.list hq;refine Qz (eqU x) pl.isList (fun w hw=>q3n rx fx r fs w (by simpa using hw)) ⟨.bl _,H,I,rfl,?_⟩;rw[show its.toArray.any (eqU x)=its.any (eqU x) by simp,q4v r fs];exact q
 ·obtain⟨its,r,pl,hz⟩:=I.tuple hq;refine SeqAt.notIn_tupleAt (eqU x) pl (fun w hw=>q3n rx fx r fs w (by simpa using hw)) ⟨.bl _,H,I,rfl,?_⟩;rw[show its.toArray.any (eqU x)=its.any (eqU x) by simp,q4v r fs];exact q
theorem op_notIn_str:OpR X (Bs .NotIn) (fun x y H Q=>∃i j,x=.str i/\y=.str j/\Q (.bl (!(!(Dg j i 0 j.length 1).isEmpty))) H):=by
 intro pins s σ H x y v u Q I rx ry h;obtain⟨i,j,rfl,rfl,q⟩:=h;obtain⟨t,rfl⟩:=rx;obtain⟨t',rfl⟩:=ry;exact notIn_str ⟨.bl _,H,I,rfl,q⟩
theorem CallR.or(h:CallR X f r)(h':CallR X f r'):CallR X f (fun xs H Q=>r xs H Q\/r' xs H Q):=by
 intro pins s σ H xs us Q I rs q;rcases q with q|q
 ·exact h pins s σ H xs us Q I rs q
 ·exact h' pins s σ H xs us Q I rs q
theorem q8b:CallR X (.type "list") (fun xs H Q=>∃p ys,xs=[.ref p]/\(SqL X.K H p ys\/SqT X.K H p ys)/\∀l,H l=none->Q (.ref l) (upd H l (.lst ys))):=by
 intro pins s σ H xs us Q I r h;obtain⟨p,ys,rfl,hq,q⟩:=h;obtain⟨u,rfl,rx⟩:=vals1 r;cases rx;have fin:∀(its:List Value),Vals ys its->ys.length<=sizeLine->∀(h':Heap) (c':Nat),(∀b o',s.heap.get? b=some o'->h'.get? b=some o') ->
   h'.get? s.heap.objs.size=some { cls:=.type "list",dict:=none,data:=.seq its.toArray c',slots:=#[] }->EP X pins σ Q (.ref s.heap.objs.size) { s with heap:=h' }:=fun its r' hz h' c' kp e =>
  ⟨.ref s.heap.objs.size,_,I.laid (t':=s.toks) kp (Ak _) (show ObjOk X.prog X.w _ h' _ (.lst ys) from⟨hz,its,c',r',e⟩),rfl,q _ (I.hok.fresh (Ak _))⟩
 rcases hq with hq|hq
 ·obtain⟨its,r',pl,hz⟩:=I.list hq;have hlen:=r'.length;obtain⟨o,ho,hc,n,hd⟩:=pl.isList;exact call_list_seq p (.inl rfl) ho hc hd (fun h' c' kp e=>fin its r' hz h' c' kp e) (by simp only[Ax]<;>lia)
 ·obtain⟨its,r',pl,hz⟩:=I.tuple hq;have hlen:=r'.length;obtain⟨o,ho,hc,n,hd⟩:=pl;exact call_list_seq p (.inr rfl) ho hc hd (fun h' c' kp e=>fin its r' hz h' c' kp e) (by simp only[Ax]<;>lia)
theorem q6z:CallR X (.type "tuple") (fun xs H Q=>∃p ys,xs=[.ref p]/\((SqL X.K H p ys/\∀l,H l=none->Q (.ref l) (upd H l (.tup ys)))\/(SqT X.K H p ys/\Q (.ref p) H))):=by
 intro pins s σ H xs us Q I r h;obtain⟨p,ys,rfl,h⟩:=h;obtain⟨u,rfl,rx⟩:=vals1 r;cases rx;rcases h with⟨hq,q⟩|⟨hq,q⟩
 ·obtain⟨its,r',pl,hz⟩:=I.list hq;have hlen:=r'.length;refine call_tuple_list pl.isList (fun h' kp=>?_) (by simp only[Ax]<;>lia);have I1:Inv X pins σ H { s with heap:=h' }:=I.kept (t':=s.toks) kp;have I2:Inv X pins σ (upd H h'.objs.size (.tup ys)) { s with heap:=h'.push { cls:=.type "tuple",data:=.seq its.toArray } } :=
   I1.laid (t':=s.toks) (fun b o e=>Ag _ e) (Ak _) (show ObjOk X.prog X.w _ _ _ (.tup ys) from⟨hz,its,r',Ug _ _⟩)
  exact⟨.ref h'.objs.size,_,I2,rfl,q _ (I1.hok.fresh (Ak _))⟩
 ·obtain⟨its,r',pl,hz⟩:=I.tuple hq;exact call_tuple_same pl ⟨.ref p,H,I,rfl,q⟩
def tyV(K:Ah)(T:String)(x:V)(H:Hp):Prop:=match x with
 |.str _=>T = "str"
 |.int _=>T = "int"
 |.ref p=>(T = "list" /\ ∃xs,SqL K H p xs)\/(T = "tuple" /\ ∃o,K.lookup p=some o/\o.cls=.type "tuple" /\ o.dict=none) \/
   (T = "dict" /\ ((∃kvs,H p=some (.dK kvs))\/∃kvs,H p=some (.dT kvs)))\/(T = "set" /\ ∃S n,H p=some (.set S n))
 |_=>False
theorem z8l{σ:St}(I:Inv X pins σ H s)(r:RelV x v)(ty:tyV X.K T x H):
  s.TypeIs v T/\∀a,v=.ref a->∃ob,s.heap.get? a=some ob/\ob.dict=none:=by
 cases x with
 |str z =>
  obtain⟨t,rfl⟩:=r;cases(show T = "str" from ty);exact⟨Jx s z t,fun _ e=>nomatch e⟩
 |int i =>
  obtain⟨t,rfl⟩:=r;cases(show T = "int" from ty);exact⟨Tj s i t,fun _ e=>nomatch e⟩
 |ref p =>
  cases r;rcases ty with⟨rfl,xs,hq⟩|⟨rfl,o,hk,hc,hd⟩|⟨rfl,hk⟩|⟨rfl,S,n,hk⟩
  ·obtain⟨its,_,pl,_⟩:=I.list hq;refine⟨pl.isList.typeIs,fun a e=>?_⟩;cases e;obtain⟨o,n,e,c,hd,_⟩:=pl;exact⟨o,e,hd⟩
  ·refine⟨⟨o,I.kIn p o hk,hc⟩,fun a e=>?_⟩;cases e;exact⟨o,I.kIn _ o hk,hd⟩
  ·have z:∃o,s.heap.get? p=some o/\o.ExactDict:=by
    rcases hk with⟨kvs,hk⟩|⟨kvs,hk⟩
    ·obtain⟨_,_,_,_,o,_,_,e,ex,_⟩:=I.hok p _ hk;exact⟨o,e,ex⟩
    ·obtain⟨_,_,_,_,o,_,_,e,ex,_⟩:=I.hok p _ hk;exact⟨o,e,ex⟩
   obtain⟨o,e,ex⟩:=z;refine⟨⟨o,e,ex.1⟩,fun a e2=>?_⟩;cases e2;exact⟨o,e,ex.2.1⟩
  ·obtain⟨o,_,_,_,e,ex,_⟩:=I.hok p _ hk;refine⟨⟨o,e,ex.1⟩,fun a e2=>?_⟩;cases e2;exact⟨o,e,ex.2.1⟩
 |_=>exact False.elim ty
def tBM0(K:Ah)(T:String)(r:V->List V->Hp->VK->Prop)(to:TE):TE:=fun σ H Q=>to σ H fun x H1=>tyV K T x H1/\r x [] H1 Q
def tBM(K:Ah)(T:String)(r:V->List V->Hp->VK->Prop)(to:TE)(t:TA):TE:=fun σ H Q=>to σ H fun x H1=>tyV K T x H1/\t σ H1 fun xs H2=>r x xs H2 Q
variable{o e:Expr}{es:List Expr}{to:TE}{t:TA}{name:Str}{apos cpos:Pos}{T id:String}{r:V->List V->Hp->VK->Prop}
theorem pe_bm0(pa:Qa T)(slot:Slot T name id)(hty:typeOf (.builtin id)=pure (.type "method_descriptor"))(hm:MtR X id r)(ho:PE X o to)(hbase:Gj o name X.env (eval o X.env)=eval o X.env:=by rfl)(hline:(apos.endLine==cpos.line)=true:=by rfl):PE X (.Call (.Attribute o name apos) [] [] cpos) (tBM0 X.K T r to):=by
 intro pins s σ H Q I h;refine wpAny_Call_method0_late hbase hline (thn (ho pins s σ H _ I h) fun v s1 ⟨x,H1,I1,r1,ty,q1⟩=>?_);obtain⟨h1,h2⟩:=z8l I1 r1 ty;exact⟨T,id,pa,slot,hty,h1,h2,Oq rfl (PySem.evalArgs_none (hm pins s1 σ H1 x [] v [] Q I1 r1 .nil q1))⟩
theorem pe_bm(pa:Qa T)(slot:Slot T name id)(hty:typeOf (.builtin id)=pure (.type "method_descriptor"))(hm:MtR X id r)(ho:PE X o to)(ha:PA X (e::es) t)(hbase:Gj o name X.env (eval o X.env)=eval o X.env:=by rfl)(hfew:((Eg cpos (Bc (e::es) X.env)).all (fun x => !x.1)&&(Lw cpos (Ip [] X.env)).all (fun x=>x.1.isSome)
   && decide ((e::es).length+([]:List Ub).length+(if ([]:List Ub).isEmpty then 0 else 1)<30))=true:=by rfl)(hline:(apos.endLine==cpos.line)=true:=by rfl)(hs:Bc (e::es) X.env=(false,eval e X.env)::Bc es X.env:=by rfl)(hplain:(Eg cpos (Bc es X.env)).any (·.1)=false:=by rfl):
  PE X (.Call (.Attribute o name apos) (e::es) [] cpos) (tBM X.K T r to t):=by
 intro pins s σ H Q I h;refine wpAny_Call_method_late hbase hfew hline rfl (thn (ho pins s σ H _ I h) fun v s1 ⟨x,H1,I1,r1,ty,q1⟩=>?_);obtain⟨h1,h2⟩:=z8l I1 r1 ty;refine⟨T,id,pa,slot,hty,h1,h2,?_⟩;have hA:=ha cpos pins s1 σ H1 _ I1 q1;rw[hs] at hA ⊢;refine Oq (by show(false||(Eg cpos (Bc es X.env)).any (·.1))=false;rw[hplain]<;>rfl) (Calls.evalArgs_plain ?_);exact thn hA fun us s2 ⟨vs,H2,I2,r2,q2⟩=>hm pins s2 σ H2 x vs v us Q I2 r1 r2 q2
end
open PySem PySem.Spec PyProof.Rows
def MtM(X:Cx)(id:String)(r:V->List V->Hp->VK->Prop):Prop :=
 ∀(pins:List (Addr×Obj)) (s:Af) (σ:St) (H:Hp) (x:V) (xs:List V) (v:Value) (us:List Value) (Q:VK),Inv X pins σ H s->RelV x v->Vals xs us->r x xs H Q ->
  wpAny (model X.prog X.w) X.A (call (.builtin id) (v::us)) (EP X pins σ Q) X.xe s
theorem Vals.one:∀{x:V} {us:List Value},Vals [x] us->∃u,us=[u]/\RelV x u
 |_,_,.cons r .nil=>⟨_,rfl,r⟩
theorem Vals.two:∀{x y:V} {us:List Value},Vals [x,y] us->∃u v,us=[u,v]/\RelV x u/\RelV y v
 |_,_,_,.cons r (.cons q .nil)=>⟨_,_,rfl,r,q⟩
theorem Vals.zero:∀{us:List Value},Vals [] us->us=[]
 |_,.nil=>rfl
theorem Vals.dropLast(h:Vals xs us):Vals xs.dropLast us.dropLast:=by
 induction h with
 |nil=>exact .nil
 |cons r t ih =>
  cases t with
  |nil=>exact .nil
  |cons q t'=>exact .cons r ih
theorem Vals.eraseIdx:∀{xs:List V} {us:List Value} (i:Nat),Vals xs us->Vals (xs.eraseIdx i) (us.eraseIdx i)
 |_,_,_,.nil=>.nil
 |_,_,0,.cons _ t=>t
 |_,_,i+1,.cons r t=>.cons r (Vals.eraseIdx i t)
theorem Vals.rep{xs:List V}{us:List Value}(h:Vals xs us):∀k:Nat,Vals (List.replicate k xs).flatten (List.replicate k us).flatten
 |0=>.nil
 |k+1=>by
  rw[Lo,Lo,Mx,Mx];exact Vals.append h (Vals.rep h k)
theorem q8c{α:Type}:∀(l:List α) (i:Nat),(l.eraseIdx i).length<=l.length
 |[],_=>Ak _
 |_::_,0=>Ir _
 |_::r,i+1=>Gv (q8c r i)
theorem q8d(its:List Value):∀(k:Nat) (acc:List Value),
  List.foldl (fun x1 x2=>x1++x2) acc.toArray (List.replicate k its.toArray)=(acc++(List.replicate k its).flatten).toArray
 |0,acc=>by simp
 |k+1,acc=>by
  have e:acc.toArray++its.toArray=(acc++its).toArray:=by simp
  have e2:(acc++its)++(List.replicate k its).flatten=acc++(List.replicate (k+1) its).flatten:=by grind
  rw[<- e2,<- q8d its k (acc++its),<- e,Lo,To]
section
variable{X:Cx}{pins:List (Addr×Obj)}{σ:St}{H:Hp}{s:Af}{l b:Addr}{xs ys zs:List V}
theorem Inv.lset{its:List Value}(I:Inv X pins σ H s)(hH:H l=some (.lst xs))(e:s.heap.get? l=some { cls:=.type "list",data:=.seq its.toArray n })(hf:f its.toArray=its'.toArray)(hv:Vals ys its')(hz:ys.length<=sizeLine):
  Inv X pins σ (upd H l (.lst ys)) { s with heap:=s.heap.update l (Ga f),toks:=t' }:=by
 have q:=PySem.IsL.update e f;rw[hf] at q;refine I.write (by rw[hH];exact trivial) (.inl rfl) (fun b' u hb hu=>(Br s.heap (Ga f) (Cd hb)).trans hu) ⟨_,q⟩ ?_;exact⟨hz,its',_,hv,q⟩
theorem Inv.lnew(I:Inv X pins σ H s)(hv:Vals ys its)(hz:ys.length<=sizeLine):
  Inv X pins σ (upd H s.heap.objs.size (.lst ys)) { s with heap:=s.heap.push { cls:=.type "list",data:=.seq its.toArray },toks:=t' } :=
 I.laid (fun _ _ q=>Ag _ q) (Ak _) ⟨hz,its,0,hv,As _ rfl⟩
theorem Inv.fresh(I:Inv X pins σ H s):H s.heap.objs.size=none:=I.hok.fresh (Ak _)
theorem Inv.lstM(I:Inv X pins σ H s)(hH:H l=some (.lst xs)):xs.length<=sizeLine/\∃(its:List Value) (n:Nat),Vals xs its/\xs.length=its.length/\s.heap.get? l=some { cls:=.type "list",data:=.seq its.toArray n }:=by
 obtain⟨z,its,n,r,e⟩:=I.hok l _ hH;exact⟨z,its,n,r,r.length,e⟩
theorem notLongL(h:n<=sizeLine):Nu n=false:=by
 exact decide_eq_false (by lia)
end
section
variable{X:Cx}
def rAppend:V->List V->Hp->VK->Prop:=fun x vs H Q=>∃l xs y,x=.ref l/\vs=[y]/\H l=some (.lst xs)/\xs.length<sizeLine/\Q .non (upd H l (.lst (xs++[y])))
theorem q1v:MtM X "list.append" rAppend:=by
 intro pins s σ H x vs v us Q I rx rv h;obtain⟨l,xs,y,rfl,rfl,hH,hz,q⟩:=h;cases rx;obtain⟨u,rfl,ru⟩:=rv.one;obtain⟨z,its,n,r,hl,e⟩:=I.lstM hH;refine He F.slot_list_append ⟨_,e,rfl⟩ F.entry_list_append (F.args_list_append_2 _ _) (PySem.list_append l its.toArray n u (by rw[Ax];lia)) ⟨e,?_⟩;refine⟨.non,_,I.lset (its':=its++[u]) hH e (by simp) (r.append (.cons ru .nil)) ?_,rfl,q⟩;rw[Aj,Bt];lia
def rPopAt:V->List V->Hp->VK->Prop:=fun x vs H Q=>∃l xs i k y,x=.ref l/\vs=[.int i]/\H l=some (.lst xs) /\ -(2^63)<=i/\i<2^63/\seqIndex? i xs.length=some k/\xs[k]?=some y/\Q y (upd H l (.lst (xs.eraseIdx k)))
theorem z0k:MtM X "list.pop" rPopAt:=by
 intro pins s σ H x vs v us Q I rx rv h;obtain⟨l,xs,i,k,y,rfl,rfl,hH,h1,h2,hk,hy,q⟩:=h;cases rx;obtain⟨u,rfl,ru⟩:=rv.one;obtain⟨t,rfl⟩:=ru;obtain⟨z,its,n,r,hl,e⟩:=I.lstM hH;obtain⟨w,hw,rw'⟩:=r.get hy;refine He F.slot_list_pop ⟨_,e,rfl⟩ F.entry_list_pop (F.args_list_pop_2 _ _)
  (MeetsSeq.list_pop_at l its.toArray n i t k w (fitsIndex_both h1 h2) (by rw[Ax,<- hl];exact hk) (by rw[<- Hv];exact hw) (by rw[Ax];lia)) ⟨e,?_⟩
 refine⟨y,_,I.lset (its':=its.eraseIdx k) hH e ?_ (r.eraseIdx k) ?_,rw',q⟩
 ·simp_all
 ·have:=q8c xs k;lia
def rCat:R2:=fun x y H Q=>∃l b xs zs,x=.ref l/\y=.ref b/\H l=some (.lst xs)/\H b=some (.lst zs)/\xs.length+zs.length<=sizeLine/\∀p,H p=none->Q (.ref p) (upd H p (.lst (xs++zs)))
theorem op_cat:OpR X (Fy .Add) rCat:=by
 intro pins s σ H x y v u Q I rx ry h;obtain⟨l,b,xs,zs,rfl,rfl,hH,hB,hz,q⟩:=h;cases rx;cases ry;obtain⟨z,its,n,r,hl,e⟩:=I.lstM hH;obtain⟨z2,its2,n2,r2,hl2,e2⟩:=I.lstM hB;refine PySem.P.add_list e e2 ?_ (by rw[Ax,Ax];lia);have ea:its.toArray++its2.toArray=(its++its2).toArray:=by simp
 rw[ea];exact⟨.ref _,_,I.lnew (t':=s.toks) (r.append r2) (by rw[Aj];lia),rfl,q _ I.fresh⟩
def rRep:R2:=fun x y H Q=>∃l k xs,x=.ref l/\y=.int k/\H l=some (.lst xs) /\ -(2^63)<=k/\k<2^63/\xs.length*k.toNat<=sizeLine /\
 ∀p,H p=none->Q (.ref p) (upd H p (.lst (List.replicate k.toNat xs).flatten))
theorem z9r{α:Type}(xs:List α)(k:Nat):(List.replicate k xs).flatten.length=k*xs.length:=by simp_all
theorem op_rep:OpR X (Fy .Mult) rRep:=by
 intro pins s σ H x y v u Q I rx ry h;obtain⟨l,k,xs,rfl,rfl,hH,h1,h2,hz,q⟩:=h;cases rx;obtain⟨t,rfl⟩:=ry;obtain⟨z,its,n,r,hl,e⟩:=I.lstM hH;have hlen:its.toArray.size*k.toNat<=sizeLine:=by simp_all
 have hcap:¬its.toArray.size*k.toNat>(2^63-1) / 8:=by
  have:(sizeLine:Nat)<=(2^63-1) / 8:=by decide
  lia
 have hfit:¬(!Builtin.List.listFitsIndex k)=true:=by
  rw[fitsIndex_both h1 h2];exact Bh
 have hlong:¬Nu (its.toArray.size*k.toNat)=true:=by
  rw[notLongL hlen];exact Bh
 have hnew:List.foldl (fun x1 x2=>x1++x2) #[] (List.replicate (if its.toArray.isEmpty=true then 0 else k.toNat) its.toArray)=(List.replicate k.toNat its).flatten.toArray:=by
  have f0:∀m:Nat,List.foldl (fun x1 x2=>x1++x2) #[] (List.replicate m its.toArray)=(List.replicate m its).flatten.toArray:=fun m=>by
   have:=q8d its m [];exact this
  cases its with
  |nil=>simp
  |cons a r'=>grind
 refine wpAny_binaryOp_repeat_ref (by decide) ⟨_,e,rfl⟩ (fun s'=>Tj s' k t) noFill_list_mul F.fills_int_mul Tp repeat_list F.slot_int_index.lookup
  (He Tp (Tj s k t) F.entry_int_rmul (F.args_int_rmul_2 _ _) (int___rmul___int_list k t l its.toArray n)
   ⟨e,rfl,⟨_,e,rfl⟩,He F.slot_list_mul ⟨_,e,rfl⟩ F.entry_list_mul (F.args_list_mul_2 _ _) (AutoListH.list___mul___list_int_3 l its.toArray n k t hfit hcap hlong) ⟨e,?_⟩⟩)
 rw[hnew];exact⟨.ref _,_,I.lnew (t':=s.toks) (r.rep k.toNat) (by rw[z9r,Nat.mul_comm];exact hz),rfl,q _ I.fresh⟩
end
end L2
namespace Att
open PySem PySem.W PySem.Calls PyProof.Rows
theorem q4w:∀(ns:List Int) (vs:List Value),WellAll P h vs (ns.map WData.int)->Rq vs ns:=by
 intro ns;induction ns with
 |nil =>
  intro vs w;cases w;exact .nil
 |cons n ns ih =>
  intro vs w;cases w with
  |cons a b =>
   cases a;exact .cons _ _ (ih _ b)
theorem z3l{l:OpenLaw}(hn:l.most=some n)(hpre:l.row.toRowW.claim.pre args=true)(hwl:WellAll P h vals args):
  ∃a vs ns,vals=[Value.ref a]/\args=[WData.list (ns.map WData.int)]/\h.get? a=some { cls:=.type "list",data:=.seq vs.toArray }/\Rq vs ns/\ns.length<=n:=by
 have hsh:=(pre_splitW hpre).1;have hc:l.pre.holds [] { args:=args }=true:=(pre_splitW hpre).2;obtain⟨d,r,rfl,h1,h2⟩:=hasAllW_cons hsh;obtain rfl:=hasAllW_nil h2;obtain⟨xs,rfl,h3⟩:=hasW_list h1;obtain⟨ns,rfl⟩:=items_int h3;have hlen:ns.length<=n:=by
  have h4:(WTm.not (.lt (.lit (.int (n:Int))) (.len (.arg 0)))).holds [] { args:=[.list (ns.map .int)] }=true:=by
   have h4:=(holds_andW hc).1;rw[hn] at h4;exact h4
  have h5:=condW_of h4 (w_not (w_lt w_lit (w_len_list (w_arg rfl))));first
   |(rw[decide_eq_true q'] at h5;exact absurd h5 (by decide))
   |(simp at h5;lia)
 cases hwl with
 |cons w1 w2 =>
  cases w2;cases w1 with
  |list ho hall=>exact⟨_,_,ns,rfl,rfl,ho,q4w ns _ hall,hlen⟩
theorem z3m(l:OpenLaw)(args:List WData):l.row.toRowW.claim.post args (.bool true) args=true :=
 postW_of
  (show WShape.has [] (.bool true) .bool=true by first|rfl|decide|simp[WShape.has,WShape.arms,WShape.armsAll])
  (show(WTm.eq .res (.lit (.bool true))).value [] { args:=args,res:=some (.bool true),after:=args }=some (.bool (true==true)) from w_eq_bool (w_res rfl) w_lit) rfl
theorem attach_call{l:OpenLaw}(hn:l.most=some n)(hdf:d.params.defaults=[])(call:∀(w:World) (s₀ s₁:Af) (mg mb:Str->Option Value) (fa:Addr) (o:Obj) (pm cd doc:Value) (a:Addr) (vs:List Value) (ns:List Int),
   Ground q loose [] XP w s₀ mg mb s₁.heap->YP w s₁.heap ->
   s₁.heap.get? fa=some o->o.data=.func (docDef d.name d.params d.body d.scope pm cd doc)->s₁.heap.CodeRec cd d.name->mg d.name=some (.ref fa) ->
   s₁.heap.get? a=some { cls:=.type "list",data:=.seq vs.toArray }->Rq vs ns->ns.length<=n->s₁.gens=#[] ->
   Fl (model l.prog w) Nj (.call (.ref fa) ⟨[.ref a],[]⟩) (fun r s'=>r=.ok (.ret (.bool true))/\OldK s₁.heap s'.heap/\s'.os=s₁.os/\Jv s'.gens) s₁):
  WalkO q loose XP YP l.row.toRowW d [] (fun f vs=>Tq f vs):=by
 intro w s₀ s₁ mg mb G Y fa o pm cd doc dV kV ho hd hcd hD hmg hg args vals as hpre hlay hrd hwl hlo;obtain rfl:dV=.none:=Dflts.none hD hdf;obtain rfl:kV=.none:=Dflts.noKw hD;obtain⟨a,vs,ns,rfl,rfl,hobj,hints,hlen⟩:=z3l hn hpre hwl;refine enter_call (Ht (call w s₀ s₁ mg mb fa o pm cd doc a vs ns G Y ho (fd_plain hd) hcd hmg hobj hints hlen hg) fun r s' hq=>?_);obtain⟨rfl,h2,h3,h4⟩:=hq;exact⟨.inl ⟨.bool true,.bool true,[],rfl,fun _=>rfl,.bool true,z3m l _,fun _=>⟨List.Pairwise.nil,fun _ hm=>(nomatch hm)⟩⟩,h2,h3,h4⟩
end Att
namespace L2
open PySem PySem.Spec PyProof.Rows
theorem q8e:∀{vs:List Value} {ns:List Int},Rq vs ns->Vals (ns.map V.int) vs
 |_,_,.nil=>.nil
 |_,_,.cons n t h=>.cons ⟨t,rfl⟩ (q8e h)
def Only(H:Hp):Prop:=∀b,H b=none\/∃o xs,H b=some (.frz o (.lst xs))
theorem z6v{K:Ah}(KX:K.In s₁.heap)(hns:s₁.heap.Ns Cc mg)(hb:s₁.heap.Ns builtinsNs mb)(hbb:∀x:Str,x ≠ "__name__" -> mb x=Hr x)(hlim:s₁.heap.NoLimit)(hg:s₁.gens=#[])(ha:s₁.heap.get? a=some { cls:=.type "list",data:=.seq vs.toArray })(hi:Rq vs ns)(hl:ns.length<=sizeLine)(hr:Room k Nj)(F:∀base:Heap,K.In base->base.Ns Cc mg->FnOk P w K mg base CX k fa fd [x] sp)(hbind:∀(s:Af) (u:Value),Pd s fd ⟨[u],[]⟩ [(x,u)])(hsp:∀H:Hp,Only H->SqL K H a (ns.map V.int)->sp [.ref a] H (fun v _=>v=.bl true) fun _ _ _=>False)(hCX:∀H e s',CX [] H s₁ (fun _ _ _=>False) e s'->False):
  Fl (model P w) Nj (.call (.ref fa) ⟨[.ref a],[]⟩) (fun r s'=>r=.ok (.ret (.bool true))/\OldK s₁.heap s'.heap/\s'.os=s₁.os/\Jv s'.gens) s₁:=by
 have rv:=q8e hi;have lenV:=hi.length;have core:∀H:Hp,Only H->SqL K H a (ns.map V.int)->HOk P w H s₁.heap->(∀b,H b≠none->b=a)->(H a≠none->K.lookup a=none) ->
   Fl (model P w) Nj (.call (.ref fa) ⟨[.ref a],[]⟩) (fun r s'=>r=.ok (.ret (.bool true))/\OldK s₁.heap s'.heap/\s'.os=s₁.os/\Jv s'.gens) s₁:=by
  intro H hO hS hok hA hK;have base_of:∀{b:Addr} {o:Obj},s₁.heap.get? b=some o->H b=none->(hidT s₁.heap H).get? b=some o:=fun e n=>z6j e n;have noA:∀{b:Addr} {o:Obj} {es:Array Jh} {ep:Nat},s₁.heap.get? b=some o->o.data=.dict es ep->H b=none:=fun{b o es ep} e d=>by
   cases q:H b with
   |none=>rfl
   |some u =>
    have e':=hA b (by rw[q];simp);subst e';rw[ha] at e;cases e;have d':=d;cases d'
  have nsK:∀{b:Addr} {m:Str->Option Value},s₁.heap.Ns b m->(hidT s₁.heap H).Ns b m:=fun{b m} ⟨o,es,ep,e,d,r⟩=>⟨o,es,ep,base_of e (noA e d),d,r⟩
  have hKb:=fun b o e=>base_of (KX b o e) (by
   cases q:H b with
   |none=>rfl
   |some u =>
    have e':=hA b (by rw[q];simp);subst e';rw[hK (by rw[q];simp)] at e;cases e)
  have hM:Mod K mg (hidT s₁.heap H):=⟨hKb,nsK hns,⟨mb,nsK hb,hbb⟩,let ⟨mc,h1,h2⟩:=hlim;⟨mc,nsK h1,h2⟩⟩
  have e0:Env0 P w K mg (hidT s₁.heap H) Nj [] s₁ H:=⟨rfl,hM,fun b o e=>z9l e,Jj (z2t _ _),trivial,fun b hb=>absurd (show b∈([]:List Addr) from hb) (by simp),hok,.of_eq hg⟩
  refine Ht ((F _ hKb (nsK hns)).run Nj [] s₁ H ⟨[.ref a],[]⟩ [.ref a] [.ref a] _ _ hr e0 (hbind s₁ (.ref a)) (.cons rfl .nil) (hsp H hO hS)) fun r s' h=>?_;cases r with
  |error e=>exact(hCX H e s' h).elim
  |ok fl =>
   cases fl with
   |next=>exact False.elim h
   |brk=>exact False.elim h
   |cont=>exact False.elim h
   |ret u =>
    obtain⟨v,H',os,bare,un,hok',r',q⟩:=h;have q':=q;subst q';obtain rfl:u=Value.bool true:=r';refine⟨rfl,OldK.of_keep fun b o e=>?_,os,bare⟩;cases q:H b with
    |none=>exact un.keep b o e q (by intro z;exact absurd (show b∈([]:List Addr) from z) (by simp)) (by simp)
    |some u =>
     rcases hO b with z|⟨ob,xs,z⟩
     ·grind
     ·have z2:=un.frzs b ob _ z;obtain⟨e1,_⟩:=hok b _ z;obtain⟨e2,_⟩:=hok' b _ z2;rw[e] at e1;cases e1;exact e2
 cases hk:K.lookup a with
 |some o =>
  have e:=KX a o hk;rw[ha] at e;cases e;refine core (fun _=>none) (fun _=>.inl rfl) (.inr ⟨_,vs.toArray,_,hk,rfl,rfl,rfl,by rw[Ax,lenV];exact hl,by simpa using rv⟩) (fun b u z=>by have z':(none:Option HO)=some u:=z;cases z') (fun b z=>absurd rfl z) fun z=>absurd rfl z
 |none =>
  refine core (fun b=>if b=a then some (.frz { cls:=.type "list",data:=.seq vs.toArray } (.lst (ns.map V.int))) else none) (fun b=>?_) (.inl (.inr ⟨{ cls:=.type "list",data:=.seq vs.toArray },if_pos rfl⟩)) (fun b u z=>?_) (fun b z=>?_) fun _=>hk
  ·by_cases hb:b=a
   ·simp_all
   ·simp_all
  ·by_cases hb:b=a
   ·have z':=(if_pos hb).symm.trans z;cases z';subst hb;exact⟨ha,by rw[Ad];exact hl,vs,_,rv,ha⟩
   ·grind
  ·grind
theorem walk_of{l:Uh}{K:Params->Ah}{CX:World->CXT}{sp:World->Sp}(hn:l.most=some n)(hn2:n<=sizeLine)(hdf:d.params.defaults=[])(hr:Room k Nj)(hY:∀(w:World) (h:Heap),YP w h->(K w.params).In h)(F:∀(w:World) (mg:Str->Option Value) (fa:Addr) (h:Heap),(K w.params).In h->h.Ns Cc mg->mg d.name=some (.ref fa) ->
   ∃fd:Ie,(∀(s:Af) (u:Value),Pd s fd ⟨[u],[]⟩ [(x,u)]) /\
    ∀base:Heap,(K w.params).In base->base.Ns Cc mg->FnOk l.prog w (K w.params) mg base (CX w) k fa fd [x] (sp w))(hsp:∀(w:World) (H:Hp) (a:Addr) (ns:List Int),ns.length<=n->Only H->SqL (K w.params) H a (ns.map V.int)->sp w [.ref a] H (fun v _=>v=.bl true) fun _ _ _=>False)(hCX:∀(w:World) (H:Hp) (s:Af) (e:Value) (s':Af),CX w [] H s (fun _ _ _=>False) e s'->False):
  W.WalkO q loose XP YP l.row.toRowW d [] (fun f vs=>Tq f vs):=by
 refine Att.attach_call hn hdf fun w s₀ s₁ mg mb fa o pm cd doc a vs ns G Y ho hd hcd hmg hobj hints hlen hg=>?_;have KX:=hY w _ Y;obtain⟨fd,hb,hF⟩:=F w mg fa _ KX G.T.g hmg;exact z6v KX G.T.g G.T.b G.T.builtins G.T.nolimit hg hobj hints (Bi hlen hn2) hr hF hb (fun H hO hS=>hsp w H a ns hlen hO hS) fun H e s'=>hCX w H s₁ e s'
def inClass(s:Stmt)(j:Nat):Stmt:=match s with
 |.ClassDef _ _ _ body _ _ _ _ _ _ _=>body.getD j (.Pass ⟨0,0,0,0⟩)
 |_=>.Pass ⟨0,0,0,0⟩
def defArgs(s:Stmt):Arguments:=match s with
 |.FunctionDef _ a _ _ _ _ _ _ _ _=>a
 |_=>{ posonlyargs:=[],args:=[],vararg:=none,kwonlyargs:=[],kw_defaults:=[],kwarg:=none,defaults:=[] }
def defBody(s:Stmt):List Stmt:=match s with
 |.FunctionDef _ _ b _ _ _ _ _ _ _=>b
 |_=>[]
def defScope(s:Stmt):Scope:=match s with
 |.FunctionDef _ _ _ _ _ _ sc _ _ _=>sc
 |_=>{ kind:=.function,names:=[],isGenerator:=false,isCoroutine:=false }
abbrev CX0:CXT:=fun _ _ _ _ _ _=>False
abbrev E0:XK:=fun _ _ _=>False
theorem pass0:Passes CX0 X E0:=fun _ _ _ _ _ _ _ h=>h.elim
structure Fun (K:Ah) (x qual:Str) (st:Stmt) (f:Addr) (fd:Ie):Prop where
 ex:∃(oc:Value) (od:Option Addr) (kV doc pm:Value) (an:Option Addr) (cdv ct:Value) (osl:Array (Option Value)),
  fd=Gu x qual (defArgs st) (defBody st) (defScope st) .none kV doc pm an cdv ct/\K.lookup f=some ⟨oc,od,.func fd,osl⟩/\Jl K cdv qual=true
 kp:Es K (.ref f)=true
section
variable{P:Program}{w:World}{K:Ah}{mg:Str->Option Value}{base:Heap}
theorem Fun.ok{st:Stmt}(F:Fun K x qual st f fd)(S:FnScope N ps (defScope st))(len:∀vs H Q E,sp vs H Q E->vs.length=ps.length)(hbody:∀(cdv:Value) (A:Around) (outer:List Env) (s:Af) (H:Hp) (vs:List V) (Q:VK) (E:XK),Room k (A.deeper (Fx qual (defScope st) s.heap.objs.size f cdv))->sp vs H Q E ->
   ∃t,PSs (cxOf CX0 P w K mg base N qual (defScope st) f cdv A outer s H E).nox (defBody st) t/\t { nx:=fun _ H'=>Q .non H',rt:=Q } (start N vs) H):FnOk P w K mg base CX0 (k+1) f fd ps sp:=by
 obtain⟨oc,od,kV,doc,pm,an,cdv,ct,osl,rfl,lk,hcd⟩:=F.ex;refine z6t lk hcd S len fun A outer s H vs Q E hr hsp=>?_
 obtain⟨t,h,q⟩:=hbody cdv A outer s H vs Q E hr hsp;exact⟨t,h.nox,q⟩
theorem Fun.binds{st:Stmt}(F:Fun K x qual st f fd)(h:∀(kV doc pm:Value) (an:Option Addr) (cdv ct:Value) (us:List Value),us.length=ps.length->bindArgs (Gu x qual (defArgs st) (defBody st) (defScope st) .none kV doc pm an cdv ct) ⟨us,[]⟩=pure (ps.zip us)):Binds K fd ps []:=by
 obtain⟨oc,od,kV,doc,pm,an,cdv,ct,osl,rfl,lk,hcd⟩:=F.ex;exact .all (h kV doc pm an cdv ct)
theorem q4x{st:Stmt}{kV:Value}(l:K.lookup f=some ⟨oc,od,.func (Gu x qual (defArgs st) (defBody st) (defScope st) .none kV doc pm an cdv ct),osl⟩)(c:Jl K cdv qual=true)(k:Es K (.ref f)=true):Fun K x qual st f (Gu x qual (defArgs st) (defBody st) (defScope st) .none kV doc pm an cdv ct):=⟨⟨oc,od,kV,doc,pm,an,cdv,ct,osl,rfl,l,c⟩,k⟩
end
theorem z1y(hr:Room k A):A.units+1<cLine:=Me (Nat.add_le_add_left (by decide:1<=64) _) hr.units
section
variable{X:Cx}
theorem pv(i:Nat){x:Str}{pos:Pos}(hN:X.N[i]?=some x:=by rfl)(hv:Vis X.env.scope x:=by first|exact Or.inl rfl|exact Or.inr (Or.inl rfl)|exact Or.inr (Or.inr rfl))(hd:(x==("__debug__" : Str))=false:=by decide)(hcd:(x==("__classdict__" : Str))=false:=by decide):PE X (.Name x pos) (tVar i):=pe_var hN hv hd hcd
end
theorem iteF{B:Prop}(h:B):if false=true then A else B:=by
 exact h
theorem iteT{B:Prop}(h:A):if true=true then A else B:=by
 exact h
theorem ite2{B:Prop}[Decidable c](h1:c->A)(h2:¬c->B):if c then A else B:=by grind
def Same(H H':Hp):Prop:=∀b o,H b=some o->H' b=some o
theorem Same.refl(H:Hp):Same H H:=fun _ _ h=>h
theorem Same.trans(a:Same H H1)(b:Same H1 H2):Same H H2:=fun c o h=>b c o (a c o h)
theorem Same.free(e:Same H H')(h:H' l=Option.none):H l=Option.none:=by
 cases q:H l with
 |none=>rfl
 |some o =>
  rw[e l o q] at h;cases h
theorem Same.seq{K:Ah}(e:Same H H')(h:SqL K H a xs):SqL K H' a xs:=by
 rcases h with(h|⟨o,h⟩)|h
 ·exact .inl (.inl (e _ _ h))
 ·exact .inl (.inr ⟨o,e _ _ h⟩)
 ·exact .inr h
open PySem PySem.Spec PyProof.Rows
abbrev Caps:=List (Str×Nat)
def capV(σ:St):Caps->St
 |[]=>[]
 |(_,i)::r=>(σ[i]?).join::capV σ r
def CapOk(X:Cx)(scope:Scope):Caps->Prop
 |[]=>True
 |(x,i)::r=>(X.N[i]?=some x/\scope.names.lookup x=some .free/\(X.env.scope.names.lookup x=some .cell\/X.env.scope.names.lookup x=some .free))/\CapOk X scope r
def cxComp(X:Cx)(N:List Str)(scope:Scope)(cl:List (Str×Addr))(C:Addr)(fp:List Addr)(s:Af)(H:Hp):Cx where
 prog:=X.prog
 w:=X.w
 K:=X.K
 mg:=X.mg
 base:=X.base
 A:=X.A
 N:=N
 s₀:=s
 H₀:=H
 env:=Ff scope cl C X.env
 outer:=X.stack
 stack:=X.stack
 ex:=fp
 fn:=fun _=>false
 calm:=X.calm
 pn:=[]
 xe:=fun _ _=>False
theorem z1z(names:List (Str×Bd))(hh:∀x,(x,Bd.free)∈names->∃c,env.cells.lookup x=some c):∀acc:List (Str×Addr),
  ∃cl,(forIn names acc (fun(x:Str×Bd) (r:List (Str×Addr))=>match x with
   |(name,kind)=>if (kind==Bd.free)=true then do let a<-cellOf env name;pure (ForInStep.yield ((name,a)::r)) else pure (ForInStep.yield r)):Sem (List (Str×Addr)))=pure cl /\
   (∀x c,(x,c)∈cl->(x,c)∈acc\/env.cells.lookup x=some c)/\(∀x,((x,Bd.free)∈names\/∃c,(x,c)∈acc)->∃c,(x,c)∈cl):=by
 induction names with
 |nil=>intro acc;exact⟨acc,rfl,fun x c h=>.inl h,fun x h=>h.elim (fun z=>nomatch z) id⟩
 |cons n r ih =>
  intro acc;obtain⟨name,kind⟩:=n;by_cases hk:kind=Bd.free
  ·subst hk;obtain⟨c,hc⟩:=hh name Am;obtain⟨cl,e,h1,h2⟩:=ih (fun x hx=>hh x (Ai _ hx)) ((name,c)::acc);refine⟨cl,?_,fun x d hd=>?_,fun x hx=>?_⟩
   ·rw[Og];have:cellOf env name=pure c:=by unfold cellOf;rw[hc]
    simp only[beq_self_eq_true,if_true,this];exact e
   ·rcases h1 x d hd with z|z
    ·rcases Az.mp z with z|z
     ·cases z;exact .inr hc
     ·exact .inl z
    ·exact .inr z
   ·refine h2 x ?_;rcases hx with hx|⟨d,hd⟩
    ·rcases Az.mp hx with z|z
     ·simp_all
     ·exact .inl z
    ·grind
  ·obtain⟨cl,e,h1,h2⟩:=ih (fun x hx=>hh x (Ai _ hx)) acc;refine⟨cl,?_,h1,fun x hx=>h2 x ?_⟩
   ·simp_all
   ·grind
theorem q7a{cl:List (Str×Addr)}(h:(x,c)∈cl):∃d,cl.lookup x=some d:=by
 induction cl with
 |nil=>cases h
 |cons y r ih =>
  obtain⟨n,a⟩:=y;cases e:x==n with
  |true=>simp_all
  |false =>
   rcases Az.mp h with z|z
   ·cases z;simp at e
   ·obtain⟨d,hd⟩:=ih z;exact⟨d,by simp only[Ig,e];exact hd⟩
theorem z2a(hh:∀x,(x,Bd.free)∈scope.names->∃c,env.cells.lookup x=some c):
  ∃cl,Tr scope env=pure cl/\(∀x c,cl.lookup x=some c->env.cells.lookup x=some c)/\∀x,(x,Bd.free)∈scope.names->∃c,cl.lookup x=some c:=by
 obtain⟨cl,e,h1,h2⟩:=z1z scope.names hh [];refine⟨cl,?_,fun x c h=>?_,fun x hx=>?_⟩
 ·unfold Tr;have e2:=congrArg (fun m:Sem (List (Str×Addr))=>m >>= fun cs=>(pure cs:Sem _)) e;exact e2
 ·rcases h1 x c (Ej h) with z|z
  ·cases z
  ·exact z
 ·obtain⟨c,hc⟩:=h2 x (.inl hx);exact q7a hc
theorem q3i{env:Env}{k:Bd}(hk:k=.cell\/k=.free):∀{names:List (Str×Bd)} {x:Str},(∀y∈names,y.2≠.cell) ->
  (names.map fun(n,k)=>if (k==Bd.free&&env.scope.kind==.function&&env.kindOf n==some .cell) then(n,Bd.cell) else(n,k)).lookup x=some k->(x,Bd.free)∈names
 |[],_,_,h=>by simp at h
 |(n,k')::r,x,hc,h=>by
  have ih:=@q3i env k hk r x fun y hy=>hc y (Ai _ hy);by_cases c:(k'==Bd.free&&env.scope.kind==.function&&env.kindOf n==some .cell)=true
  ·have h':((n,Bd.cell)::r.map fun(n,k)=>if (k==Bd.free&&env.scope.kind==.function&&env.kindOf n==some .cell) then(n,Bd.cell) else(n,k)).lookup x=some k:=by
    have e:(if (k'==Bd.free&&env.scope.kind==.function&&env.kindOf n==some .cell)=true then(n,Bd.cell) else(n,k'))=(n,Bd.cell):=if_pos c;rw[<- e];exact h
   cases e:x==n with
   |true =>simp_all
   |false=>exact Ai _ (ih (by simp only[Ig,e] at h';exact h'))
  ·have h':((n,k')::r.map fun(n,k)=>if (k==Bd.free&&env.scope.kind==.function&&env.kindOf n==some .cell) then(n,Bd.cell) else(n,k)).lookup x=some k:=by
    have e:(if (k'==Bd.free&&env.scope.kind==.function&&env.kindOf n==some .cell)=true then(n,Bd.cell) else(n,k'))=(n,k'):=if_neg c;rw[<- e];exact h
   cases e:x==n with
   |true =>simp_all
   |false=>exact Ai _ (ih (by simp only[Ig,e] at h';exact h'))
theorem q4i{env:Env}:∀{names:List (Str×Bd)} {x:Str},names.lookup x=some .free ->
    ((names.map fun(n,k)=>if (k==Bd.free&&env.scope.kind==.function&&env.kindOf n==some .cell) then(n,Bd.cell) else(n,k)).lookup x=some .cell \/
     (names.map fun(n,k)=>if (k==Bd.free&&env.scope.kind==.function&&env.kindOf n==some .cell) then(n,Bd.cell) else(n,k)).lookup x=some .free)
  |[],_,h=>by simp at h
  |(n,k')::r,x,h=>by
    have ih:=@q4i env r x;by_cases c:(k'==Bd.free&&env.scope.kind==.function&&env.kindOf n==some .cell)=true
    · have e:(if (k'==Bd.free&&env.scope.kind==.function&&env.kindOf n==some .cell)=true then(n,Bd.cell) else(n,k'))=(n,Bd.cell):=if_pos c;show(List.lookup x ((if (k'==Bd.free&&env.scope.kind==.function&&env.kindOf n==some .cell)=true then(n,Bd.cell) else(n,k'))::_)=_\/List.lookup x ((if (k'==Bd.free&&env.scope.kind==.function&&env.kindOf n==some .cell)=true then(n,Bd.cell) else(n,k'))::_)=_);rw[e];cases ex:x==n with
      |true=>simp_all
      |false =>
        simp only[Ig,ex] at h ⊢;exact ih h
    · have e:(if (k'==Bd.free&&env.scope.kind==.function&&env.kindOf n==some .cell)=true then(n,Bd.cell) else(n,k'))=(n,k'):=if_neg c;show(List.lookup x ((if (k'==Bd.free&&env.scope.kind==.function&&env.kindOf n==some .cell)=true then(n,Bd.cell) else(n,k'))::_)=_\/List.lookup x ((if (k'==Bd.free&&env.scope.kind==.function&&env.kindOf n==some .cell)=true then(n,Bd.cell) else(n,k'))::_)=_);rw[e];cases ex:x==n with
      |true =>simp_all
      |false =>
        simp only[Ig,ex] at h ⊢;exact ih h
theorem q4y(σ:St):∀caps:Caps,(capV σ caps).length=caps.length
 |[]=>rfl
 |(_,_)::r=>congrArg (· + 1) (q4y σ r)
theorem z0l:∀{caps:Caps} {j:Nat} {x:Str} {v:V},CapOk X scope caps->(caps.map (·.1))[j]?=some x->(capV σ caps)[j]?=some (some v) ->
  ∃i:Nat,X.N[i]?=some x/\σ[i]?=some (some v)/\scope.names.lookup x=some .free/\(X.env.scope.names.lookup x=some .cell\/X.env.scope.names.lookup x=some .free)
 |[],_,_,_,_,h,_=>by simp at h
 |(y,i)::r,0,x,v,hc,h1,h2=>by
  simp at h1;subst h1;have e:(σ[i]?).join=some v:=by simpa[capV] using h2
  refine⟨i,hc.1.1,?_,hc.1.2⟩;cases q:σ[i]? with
  |none=>rw[q] at e;cases e
  |some z=>simp_all
 |(y,i)::r,j+1,x,v,hc,h1,h2=>z0l hc.2 (by simpa using h1) (by simpa[capV] using h2)
def tg0(tg:List Str)(σ:St)(caps:Caps):St:=tg.map (fun _=>none)++capV σ caps
theorem Inv.ofcomp{σ:St}{C:Addr}(tg:List Str)(I:Inv X pins σ H s)(hkind:scope.kind=.function)(hnc:∀y∈scope.names,y.2≠.cell)(hc1:∀x c,cl.lookup x=some c->X.env.cells.lookup x=some c)(hc2:∀x,(x,Bd.free)∈scope.names->∃c,cl.lookup x=some c)(hf:∀b∈fp,FpOk X pins H b)(hfo:∀b∈fp,∃o,s.heap.get? b=some o)(hC:s.heap.objs.size<=C)(hns:h₁.Ns C m)(hk:∀b o,s.heap.get? b=some o->h₁.get? b=some o)(co:CapOk X scope caps):
  Inv (cxComp X (tg++caps.map (·.1)) scope cl C fp s H) [] (tg0 tg σ caps) H { s with heap:=h₁,toks:=tk }:=by
 have hfs:∀b∈fp,b∉frs X.stack:=fun b hb hx=>by
  rcases Az.mp (I.stkSub b hx) with z|z
  ·exact(hf b hb).2.1 z
  ·exact(hf b hb).2.2.1 z
 have ok:(cxComp X (tg++caps.map (·.1)) scope cl C fp s H).Ok:=by
  refine⟨I.ok.mod,hkind,I.ok.glob,I.ok.blt,hC,fun x y c h1 h2=>I.ok.inj x y c (hc1 x c h1) (hc1 y c h2),fun x hx=>?_,fun x c h=>(nomatch h),I.ok.hd,I.ok.frames,.inl rfl,fun b hb=>⟨?_,fun x c h=>(hf b hb).2.2.2.2.1 x c (hc1 x c h)⟩,
   I.bs,Bi I.ok.bsz I.sz,fun b o e hb=>?_,hfs,I.stack,I.stkFree⟩
  ·rcases hx with hx|hx
   ·exact hc2 x (q3i (.inl rfl) hnc hx)
   ·exact hc2 x (q3i (.inr rfl) hnc hx)
  ·obtain⟨o,e⟩:=hfo b hb;exact Bf (Be (Al e) hC)
  ·rcases(hf b hb).2.2.2.1 with z|z
   ·exact I.ok.noex b o e z
   ·exact absurd (Be (Al (I.ok.bs b o e).1) z) (Ft _)
 refine⟨ok,rfl,I.bare,Un.kept hk,⟨m,hns,fun j x v h1 h2 h3=>?_⟩,fun x c h=>?_,I.hok.fresh hC,fun x c h=>I.freeC x c (hc1 x c h),fun p hp=>(nomatch hp),I.hok.kept hk,?_⟩
 ·have h1':(tg++caps.map (·.1))[j]?=some x:=h1;have h2':(tg.map (fun _=>none)++capV σ caps)[j]?=some (some v):=h2;by_cases hj:j<tg.length
  ·rw[Nf (by simpa using hj),Bk] at h2';cases e:tg[j]? with
   |none=>grind
   |some z=>simp_all
  ·rw[Mo (by simpa using hj)] at h2' h1';rw[Ad] at h2';obtain⟨i,e1,e2,e3,e4⟩:=z0l co h1' h2';obtain⟨mX,hn,hl⟩:=I.loc;obtain⟨u,r,l⟩:=hl i x v e1 e2 (.inr e4);refine⟨u,r,?_⟩;have key:∃c,X.env.cells.lookup x=some c/\s.heap.IsCell c (some u):=by
    rcases l with⟨k,_⟩|⟨_,c,e,z⟩
    ·have k':X.env.scope.names.lookup x=some .local:=k;rcases e4 with e4|e4 <;> · rw[e4] at k';cases k'
    ·exact⟨c,e,z⟩
   obtain⟨c,ec,o,ho,hd⟩:=key;obtain⟨d,ed⟩:=hc2 x (Ej e3);have hdc:=Dc ((hc1 x d ed).symm.trans ec);subst hdc;exact .inr ⟨q4i e3,d,ed,o,hk _ o ho,hd⟩
 ·obtain⟨v,o,ho,hd⟩:=I.cell x c (hc1 x c h);exact⟨v,o,hk _ o ho,hd⟩
 ·show(tg.map (fun _=>(none:Option V))++capV σ caps).length=(tg++caps.map (·.1)).length;rw[Aj,Aj,Ad,Ad,q4y]
def PIfs(X:Cx)(ifs:List Expr)(t:TT):Prop :=
 ∀(pins:List (Addr×Obj)) (s:Af) (σ:St) (H:Hp) (Q:Bool->Hp->Prop),Inv X pins σ H s->t σ H Q ->
  wpAny (model X.prog X.w) X.A (forIn ifs true fun c r=>if r=true then do let ok<-isTrue c X.env (eval c X.env);pure (ForInStep.yield ok) else pure (ForInStep.yield r)) (TP X pins σ Q) X.xe s
def tIf0:TT:=fun _ H Q=>Q true H
theorem q3z:PIfs X [] tIf0:=fun pins s σ H Q I h=>wpAny_tests_nil ⟨H,I,h⟩
theorem q7b{X:Cx}{c:Expr}{t:TT}(h:PT X c t):PIfs X [c] t:=fun pins s σ H Q I q=>wpAny_tests_one (h pins s σ H Q I q)
def Keeps0(σ0 σ2:St):Prop:=σ0.length=σ2.length/\∀(i:Nat) v,σ0[i]?=some (some v)->σ2[i]?=some (some v)
def CompW(J:It)(g:TG)(tt:TT)(te:TE)(σ0:St)(D:Addr)(Fin:List V->Hp->Prop)(H1:Hp):Prop :=
 ∃W:Nat->Nat->List V->Hp->Prop,(∃m,W 0 m [] (upd H1 D (.lst [])))/\∀i m ys H,W i m ys H->H D=some (.lst ys) /\
  ((J.stop i H/\Fin ys H)\/(J.go i H/\∃N:List V->Hp->Prop,(∀zs H',N zs H'->∃m',m'<m/\W (i+1) m' zs H')/\∀x H',J.yld i H x H'->g x σ0 H' fun σ2 H2=>Keeps0 σ0 σ2/\tt σ2 H2 fun b H3 =>
   if b=true then te σ2 H3 fun v H4=>H4 D=some (.lst ys)/\ys.length<sizeLine/\N (ys++[v]) (upd H4 D (.lst (ys++[v])))
   else N ys H3))
theorem z0m{σ:St}{Fin:Addr->List V->Hp->Prop}{RR:Value->Addr->Result->Af->Prop}(hc:X.calm=true)(hkind:scope.kind=.function)(hnc:∀y∈scope.names,y.2≠.cell)(hc1:∀x c,cl.lookup x=some c->X.env.cells.lookup x=some c)(hc2:∀x,(x,Bd.free)∈scope.names->∃c,cl.lookup x=some c)(co:CapOk X scope caps)(hg:∀C s H,PG (cxComp X (tg++caps.map (·.1)) scope cl C fp s H) target g)(ht:∀C s H,PIfs (cxComp X (tg++caps.map (·.1)) scope cl C fp s H) ifs tt)(he:∀C s H,PE (cxComp X (tg++caps.map (·.1)) scope cl C fp s H) elt te)(I2:Inv X pins σ H1 s₂)(T:Turn X.prog X.w X.K target J fp it tn)(st:tn 0 s₂.heap)(hf:∀b∈fp,FpOk X pins H1 b)(hw:∀D,H1 D=none->CompW J g tt te (tg0 tg σ caps) D (Fin D) H1)(hRR:∀D C ys H' s',H1 D=none->Inv X pins σ H' s'->(∃m,s'.heap.Ns C m)->FpOk X pins H' C->Fin D ys H'->RR (.ref D) C (.ok .next) s'):
  wpAny (model X.prog X.w) X.A (newList []) (fun acc s₃=>wpAny (model X.prog X.w) X.A (newFunctionEnv scope X.env.globals cl [] X.env.qual none .none (some X.env)) (fun cenv s₄ =>
   Fl (model X.prog X.w) X.A (.compStart (.ListComp elt [⟨target,iter,ifs,0⟩] scope pos) 0 (.ref it) acc { cenv with scope:=relabel scope X.env }) (RR acc cenv.locals) s₄) E s₃) E s₂:=by
 have I3:Inv X pins σ (upd H1 s₂.heap.objs.size (.lst [])) { s₂ with heap:=s₂.heap.push { cls:=.type "list",dict:=none,data:=.seq ([]:List Value).toArray },toks:=s₂.toks }:=I2.lnew .nil (Bo _);have hD0:=I2.fresh;refine By (Qb hnc (by intro y hy;simp at hy) (fun h₁ hns₁ hsb₁=>?_) hkind);dsimp only at hns₁ hsb₁ ⊢;generalize hDd:s₂.heap.objs.size=D at I3 hD0 hns₁ hsb₁ ⊢;generalize hs3:({ s₂ with heap:=s₂.heap.push { cls:=.type "list",dict:=none,data:=.seq ([]:List Value).toArray } }:Af)=s₃ at I3 hns₁ hsb₁ ⊢;have e3:s₂.heap.push { cls:=.type "list",dict:=none,data:=.seq ([]:List Value).toArray }=s₃.heap:=by grind
 have o3:({ s₂ with heap:=h₁,toks:=s₂.toks+([]:List (Str×Value)).length }:Af)={ s₃ with heap:=h₁,toks:=s₂.toks }:=by grind
 have size3:s₃.heap.objs.size=D+1:=by rw[<- e3,Gp,hDd]
 rw[e3] at hns₁ hsb₁ ⊢;have old3:∀b o,s₂.heap.get? b=some o->s₃.heap.get? b=some o:=fun b o e=>by rw[<- e3];exact Ag _ e
 generalize hCd:s₃.heap.objs.size=C at hns₁ hsb₁ ⊢;have hk:=fun b o e=>hsb₁.extBut b o (by rw[<- hCd];exact Bf (Al e)) (Ag _ e);have fpo:∀b∈fp,∃o,s₂.heap.get? b=some o:=fun b hb=>by obtain⟨o,e,_⟩:=T.obj 0 _ st b hb;exact⟨o,e⟩
 have fpne:∀b∈fp,b≠D:=fun b hb=>by obtain⟨o,e⟩:=fpo b hb;rw[<- hDd];exact Bf (Al e)
 have hf3:∀b∈fp,FpOk X pins (upd H1 D (.lst [])) b:=fun b hb=>⟨by rw[q0e (fpne b hb)];exact(hf b hb).1,(hf b hb).2⟩
 have IY:=Inv.ofcomp (tk:=s₂.toks) tg I3 hkind hnc hc1 hc2 hf3 (fun b hb=>let ⟨o,e⟩:=fpo b hb;⟨o,old3 b o e⟩) (Jj hCd) hns₁ hk co;have FC:FpOk X pins H1 C:=by
  have z:=I3.fpOk (H':=H1) (Jj hCd) (I2.hok.fresh (by rw[hDd,<- hCd,size3];exact Ir _));exact z
 generalize hY:cxComp X (tg++caps.map (·.1)) scope cl C fp s₃ (upd H1 D (.lst []))=Y at IY;have hgY:PG Y target g:=by grind
 have htY:PIfs Y ifs tt:=by grind
 have heY:PE Y elt te:=by grind
 have hYp:Y.prog=X.prog:=by rw[<- hY];rfl
 have hYw:Y.w=X.w:=by rw[<- hY];rfl
 have hYK:Y.K=X.K:=by rw[<- hY];rfl
 have hYA:Y.A=X.A:=by rw[<- hY];rfl
 have hYe:Y.env=Ff scope cl C X.env:=by rw[<- hY];rfl
 have hYx:Y.ex=fp:=by rw[<- hY];rfl
 have hYn:Y.pn=[]:=by rw[<- hY];rfl
 have hYc:Y.calm=true:=by rw[<- hY];exact hc
 have hYxe:Y.xe=fun _ _=>False:=by rw[<- hY];rfl
 have fpY:∀{H':Hp},(∀b∈fp,H' b=none)->∀b∈fp,FpOk Y [] H' b:=fun{H'} hn b hb=>by
  refine⟨hn b hb,?_,?_,.inl (by rw[hYx];exact hb),fun x c e=>?_,fun p hp=>?_⟩
  ·have:=(IY.ok.exf b (by rw[hYx];exact hb)).1;exact this
  ·exact IY.ok.exfs b (by rw[hYx];exact hb)
  ·exact(IY.ok.exf b (by rw[hYx];exact hb)).2 x c e
  ·grind
 obtain⟨W,⟨m0,w0⟩,turn⟩:=hw D hD0;have stY:=T.keep 0 _ _ st fun b hb o e=>hk b o (old3 b o e)
 have back:∀{H':Hp} {s':Af} {σ':St},Inv Y [] σ' H' s'->Inv X pins σ H' s':=fun{H' s' σ'} IE=>by
  have hun:=IE.base;have hos:=IE.os;rw[<- hY] at hun hos;exact I3.call' hos hun (by have z:=IE.hok;rw[hYp,hYw] at z;exact z) IE.bare fun b hb=>⟨(hf b hb).2.2.2.1,(hf b hb).2.1,(hf b hb).2.2.2.2.1,(hf b hb).2.2.2.2.2⟩
 have gY:∀pins s σ H v u Q (E':Value->Af->Prop),Inv Y pins σ H s->RelV v u->g v σ H Q->wpAny (model X.prog X.w) X.A (assign target (Ff scope cl C X.env) u) (fun _ s'=>∃σ' H',Inv Y pins σ' H' s'/\Q σ' H') E' s:=fun pins s σ H v u Q E' IE r q=>by
  have z:=hgY pins s σ H v u Q IE r q;rw[hYp,hYw,hYA,hYe,hYxe] at z;exact Bp z (fun _ _ x=>x) fun _ _ f=>f.elim
 have tY:∀pins s σ H Q (E':Value->Af->Prop),Inv Y pins σ H s->tt σ H Q->wpAny (model X.prog X.w) X.A (forIn ifs true fun c r=>if r=true then do let ok<-isTrue c (Ff scope cl C X.env) (eval c (Ff scope cl C X.env));pure (ForInStep.yield ok) else pure (ForInStep.yield r)) (TP Y pins σ Q) E' s:=fun pins s σ H Q E' IE q=>by
  have z:=htY pins s σ H Q IE q;rw[hYp,hYw,hYA,hYe,hYxe] at z;exact Bp z (fun _ _ x=>x) fun _ _ f=>f.elim
 have eY:∀pins s σ H Q (E':Value->Af->Prop),Inv Y pins σ H s->te σ H Q->wpAny (model X.prog X.w) X.A (eval elt (Ff scope cl C X.env)) (EP Y pins σ Q) E' s:=fun pins s σ H Q E' IE q=>by
  have z:=heY pins s σ H Q IE q;rw[hYp,hYw,hYA,hYe,hYxe] at z;exact Bp z (fun _ _ x=>x) fun _ _ f=>f.elim
 have aY:∀pins s σ H ys v u Q (E':Value->Af->Prop),Inv Y pins σ H s->RelV v u->H D=some (.lst ys)->ys.length<sizeLine->Q .non (upd H D (.lst (ys++[v])))->wpAny (model X.prog X.w) X.A (call (.builtin "list.append") [.ref D,u]) (EP Y pins σ Q) E' s:=fun pins s σ H ys v u Q E' IE r hH hz q=>by
  have z:=q1v pins s σ H (.ref D) [v] (.ref D) [u] Q IE rfl (.cons r .nil) ⟨D,ys,v,rfl,rfl,hH,hz,q⟩;rw[hYp,hYw,hYA,hYxe] at z;exact Bp z (fun _ _ x=>x) fun _ _ f=>f.elim
 have tiY:∀i pins s σ H (E':Value->Af->Prop),Inv Y pins σ H s->(∀b∈fp,FpOk Y pins H b)->tn i s.heap->J.go i H ->
   wpAny (model X.prog X.w) X.A (Jg (.ref it)) (fun r s1=>∃u,r=some u /\
    wpAny (model X.prog X.w) X.A (Ky target (.ref it) u) (fun _ s2=>∃x H',Inv Y pins σ H' s2/\RelV x u/\J.yld i H x H'/\tn (i+1) s2.heap/\∀b∈fp,H' b=none) E' s1) E' s:=fun i pins s σ H E' IE hfy st go=>by
  have z:=T.item Y hYp hYw hYK hYc i pins s σ H E' IE hfy st go;rw[hYA] at z;exact z
 have tdY:∀i pins s σ H (E':Value->Af->Prop),Inv Y pins σ H s->(∀b∈fp,FpOk Y pins H b)->tn i s.heap->J.stop i H ->
   wpAny (model X.prog X.w) X.A (Jg (.ref it)) (fun r s1=>r=none/\Inv Y pins σ H s1) E' s:=fun i pins s σ H E' IE hfy st go=>by
  have z:=T.done Y hYp hYw hYK hYc i pins s σ H E' IE hfy st go;rw[hYA] at z;exact z
 have loop:Fl (model X.prog X.w) X.A (.compLoop (.ListComp elt [⟨target,iter,ifs,0⟩] scope pos) 0 (.ref it) (.ref D) (Ff scope cl C X.env)) (RR (.ref D) C) { s₃ with heap:=h₁,toks:=s₂.toks }:=by
  refine codeAny_loop rfl (fun n s'=>∃i ys H',Inv Y [] (tg0 tg σ caps) H' s'/\tn i s'.heap/\(∀b∈fp,H' b=none)/\W i n ys H') ?_ m0 ⟨0,[],_,IY,stY,fun b hb=>(hf3 b hb).1,w0⟩;rintro n s4 ⟨i,ys,H4,I4,st4,fr4,w4⟩;refine wpAny_noted ?_;obtain⟨hHD,alt⟩:=turn i n ys H4 w4;rcases alt with⟨stop,fin⟩|⟨go,N,hN,step⟩
  ·refine Ab (Cy (Ab (thn (tdY i [] s4 _ H4 _ I4 (fpY fr4) st4 stop) fun r s5 ⟨hr,I5⟩=>?_)));subst hr;refine Ae (hRR D C ys H4 s5 hD0 (back I5) ?_ ⟨?_,FC.2⟩ fin)
   ·obtain⟨m,hm,_⟩:=I5.loc;rw[hYe] at hm;exact⟨m,hm⟩
   ·have z:=I5.free;rw[hYe] at z;exact z
  ·refine Ab (Cy (Ab (thn (tiY i [] s4 _ H4 _ I4 (fpY fr4) st4 go) fun r s5 ⟨u,hr,h5⟩=>?_)));subst hr;refine Ab (thn h5 fun _ s6 ⟨x,H6,I6,r6,y6,st6,fr6⟩=>?_);have I6':=I6.pinned (fpY fr6) (T.obj _ _ st6);refine Ab (thn (gY _ s6 _ H6 x u _ _ I6' r6 (step x H6 y6)) fun _ s7 ⟨σ7,H7,I7,kp,q7⟩=>?_);refine Ab (thn (tY _ s7 σ7 H7 _ _ I7 q7) fun b s8 ⟨H8,I8,q8⟩=>?_);have again:∀{H9:Hp} {s9:Af} {zs:List V} {m':Nat},Inv Y ([]++pinsAt fp s6.heap) σ7 H9 s9->m'<n->W (i+1) m' zs H9->∃m,m<n/\∃i ys H',Inv Y [] (tg0 tg σ caps) H' s9/\tn i s9.heap/\(∀b∈fp,H' b=none)/\W i m ys H':=fun{H9 s9 zs m'} I9 hm w9=>by
    refine⟨m',hm,i+1,zs,H9,I9.unpinned.weak kp.1 kp.2,T.keep _ _ _ st6 fun b hb o e=>(I9.pin (b,o) (Bn _ (Bn _ (q1o hb e)))).1,fun b hb=>?_,w9⟩;obtain⟨o,e,d⟩:=T.obj _ _ st6 b hb;exact(I9.pin (b,o) (Bn _ (Bn _ (q1o hb e)))).2.1
   cases b with
   |true =>
    refine Ab (Ab (thn (eY _ s8 σ7 H8 _ _ I8 q8) fun v s9 ⟨vv,H9,I9,r9,hH9,hz9,n9⟩=>?_));obtain⟨m',hm',w9⟩:=hN _ _ n9;refine Ab (thn (aY _ s9 σ7 H9 ys vv v (fun _ H10=>W (i+1) m' (ys++[vv]) H10) _ I9 r9 hH9 hz9 w9) fun _ s10 ⟨_,H10,I10,_,w10⟩=>?_);exact Ae (Ae ⟨rfl,again I10 hm' w10⟩)
   |false =>
    obtain⟨m',hm',w8⟩:=hN _ _ q8;exact Ae ⟨rfl,again I8 hm' w8⟩
 rw[o3];exact codeAny_compStart_list loop (T.self _ 0 _ _ _ stY loop)
def isCF(k:Option Bd):Bool:=k==some .cell||k==some .free
def capChk(N:List Str)(names outer:List (Str×Bd)):Caps->Bool
 |[]=>true
 |(x,i)::r=>decide (N[i]?=some x)&&(names.lookup x==some .free)&&isCF (outer.lookup x)&&capChk N names outer r
def compChk(N:List Str)(outer scope:Scope)(caps:Caps):Bool :=
 (scope.kind==.function)&&(scope.names.all fun y=>y.2 != .cell&&(y.2 != .local||scope.names.lookup y.1==some .local)&&(y.2 != .free||isCF (outer.names.lookup y.1)))&&capChk N scope.names outer.names caps
theorem z3n(h:isCF k=true):k=some .cell\/k=some .free:=by
 unfold isCF at h;simpa using h
theorem q8f:∀{caps:Caps},capChk X.N scope.names X.env.scope.names caps=true->CapOk X scope caps
 |[],_=>trivial
 |(x,i)::r,h=>by
  unfold capChk at h;simp only[Et] at h;obtain⟨⟨⟨h1,h2⟩,h3⟩,h4⟩:=h;exact⟨⟨of_decide_eq_true h1,by simpa using h2,z3n h3⟩,q8f h4⟩
theorem q4a(h:compChk X.N X.env.scope scope caps=true):
  scope.kind=.function/\(∀y∈scope.names,y.2≠.cell)/\(∀y∈scope.names,y.2=.local->scope.names.lookup y.1=some .local)/\(∀x,(x,Bd.free)∈scope.names->X.env.scope.names.lookup x=some .cell\/X.env.scope.names.lookup x=some .free)/\CapOk X scope caps:=by
 unfold compChk at h;simp only[Et,Cq] at h;obtain⟨⟨h1,h2⟩,h3⟩:=h;refine⟨by simpa using h1,fun y hy e=>?_,fun y hy e=>?_,fun x hx=>?_,q8f h3⟩
 ·have z:=(h2 y hy).1.1;rw[e] at z;simp at z
 ·have z:=(h2 y hy).1.2;rw[e] at z;simpa using z
 ·have z:=(h2 _ hx).2;exact z3n (by simpa using z)
def tComp(wi:TI)(g:TG)(tt:TT)(te:TE)(tg:List Str)(caps:Caps):TE:=fun σ H Q=>wi σ H fun J H1=>∀D,H1 D=none->CompW J g tt te (tg0 tg σ caps) D (fun _ H'=>Q (.ref D) H') H1
section
variable{X:Cx}{iter target elt:Expr}{ifs:List Expr}{scope:Scope}{pos:Pos}{wi:TI}{g:TG}{tt:TT}{te:TE}
theorem q9k{σ:St}(I:Inv X pins σ H s)(hfree:∀x,(x,Bd.free)∈scope.names->X.env.scope.names.lookup x=some .cell\/X.env.scope.names.lookup x=some .free):
  ∃cl,Tr scope X.env=pure cl/\(∀x c,cl.lookup x=some c->X.env.cells.lookup x=some c)/\∀x,(x,Bd.free)∈scope.names->∃c,cl.lookup x=some c :=
 z2a fun x hx=>I.ok.has x (hfree x hx)
theorem q2h(tg:List Str)(caps:Caps)(hc:X.calm=true)(hi:PI X target iter wi)(hg:∀cl C fp s H,PG (cxComp X (tg++caps.map (·.1)) scope cl C fp s H) target g)(ht:∀cl C fp s H,PIfs (cxComp X (tg++caps.map (·.1)) scope cl C fp s H) ifs tt)(he:∀cl C fp s H,PE (cxComp X (tg++caps.map (·.1)) scope cl C fp s H) elt te)(hk:compChk X.N X.env.scope scope caps=true:=by rfl)(hs:∀x,Kd iter X.env x=pure x:=by intro _;rfl):
  PE X (.ListComp elt [⟨target,iter,ifs,0⟩] scope pos) (tComp wi g tt te tg caps):=by
 intro pins s σ H Q I h;obtain⟨hkind,hnc,hnames,hfree,co⟩:=q4a hk;obtain⟨cl,hclos,hc1,hc2⟩:=q9k I hfree;refine Jn rfl hs hclos hkind hnames (thn (hi pins s σ H _ I h) fun v s1 h1=>thn h1 fun itv s2 h2=>?_);obtain⟨it,fp,tn,J,H2,e,I2,T,st2,f2,hw⟩:=h2;subst e;refine z0m hc hkind hnc hc1 hc2 co (fun C s H=>hg cl C fp s H) (fun C s H=>ht cl C fp s H) (fun C s H=>he cl C fp s H) I2 T st2 f2 hw ?_;intro D C ys H' s' hD I' hm F fin;obtain⟨m,hm⟩:=hm;refine⟨m,hm,fun h' hsb=>⟨.ref D,H',I'.turned (t':=s'.toks) (fun b o hb e=>(hsb.2 b hb).trans e) F.1 F.2.1 F.2.2.2.1 F.2.2.2.2.1 F.2.2.2.2.2,rfl,fin⟩⟩
def tSetC(wi:TI)(g:TG)(tt:TT)(te:TE)(tg:List Str)(caps:Caps)(i:Nat):TS:=fun D' σ H=>wi σ H fun J H1=>∀D,H1 D=none->CompW J g tt te (tg0 tg σ caps) D (fun _ H'=>D'.nx (σ.set i (some (.ref D))) H') H1
theorem z3o{i:Nat}{y:Str}{py spos:Pos}(tg:List Str)(caps:Caps)(hN:X.N.Nodup)(hiN:X.N[i]?=some y)(hx:Loc X.env.scope y)(hc:X.calm=true)(hi:PI X target iter wi)(hg:∀cl C fp s H,PG (cxComp X (tg++caps.map (·.1)) scope cl C fp s H) target g)(ht:∀cl C fp s H,PIfs (cxComp X (tg++caps.map (·.1)) scope cl C fp s H) ifs tt)(he:∀cl C fp s H,PE (cxComp X (tg++caps.map (·.1)) scope cl C fp s H) elt te)(hk:compChk X.N X.env.scope scope caps=true:=by rfl)(hs:∀x,Kd iter X.env x=pure x:=by intro _;rfl)(hsw:Jf (.ListComp elt [⟨target,iter,ifs,0⟩] scope pos) (some (.Name y py)) spos.line X.env=pure true:=by rfl)(hf:X.fn y=true\/X.env.scope.names.lookup y=some .local:=by first|exact .inl rfl|exact .inr rfl|assumption):
  PS X (.Assign [.Name y py] (.ListComp elt [⟨target,iter,ifs,0⟩] scope pos) spos) (tSetC wi g tt te tg caps i):=by
 intro pins s σ H D' I h;obtain⟨hkind,hnc,hnames,hfree,co⟩:=q4a hk;obtain⟨cl,hclos,hc1,hc2⟩:=q9k I hfree;rw[Pe _ _ _ _ hsw];refine Ab (Cy (Ab ?_));refine Ab (Bp (Jn (use:=some (assign (.Name y py) X.env)) rfl hs hclos hkind hnames
  (thn (hi pins s σ H _ I h) fun v s1 h1=>thn h1 fun itv s2 h2=>?_)) (fun _ s' hq=>Ae (Ae hq)) fun _ _ e=>e)
 obtain⟨it,fp,tn,J,H2,e,I2,T,st2,f2,hw⟩:=h2;subst e;refine z0m (RR:=fun acc C=>compPost (model X.prog X.w) X.A X.xe (some (assign (.Name y py) X.env)) (fun _ s'=>SP X pins D' .next s') acc C) (Fin:=fun D _ H'=>D'.nx (σ.set i (some (.ref D))) H') hc hkind hnc hc1 hc2 co (fun C s H=>hg cl C fp s H) (fun C s H=>ht cl C fp s H) (fun C s H=>he cl C fp s H) I2 T st2 f2 hw ?_;intro D C ys H' s' hD I' hm F fin;obtain⟨m,hm⟩:=hm;refine Mv (q4q (v:=.ref D) I' hN hiN hx rfl (fun s'' I'' hsb=>?_) hf);obtain⟨a,sb,ha⟩:=hsb;have hCa:C≠a:=by
  rcases ha with ha|ha
  ·rw[ha];exact F.2.1
  ·exact fun z=>F.2.2.2.2.1 y a ha z.symm
 refine⟨m,hm.sameBut sb hCa,fun h' hs'=>?_⟩;exact⟨_,H',I''.turned (t':=s''.toks) (fun b o hb e=>(hs'.2 b hb).trans e) F.1 F.2.1 F.2.2.2.1 F.2.2.2.2.1 F.2.2.2.2.2,fin⟩
end
theorem q9l{Fin:List V->Hp->Prop}(Pv:Nat->List V->Hp->Prop)(h0:Pv 0 [] (upd H1 D (.lst [])))(hl:∀i ys H,Pv i ys H->H D=some (.lst ys))(hgo:∀i ys H,i<n->Pv i ys H->J.go i H)(hstop:∀ys H,Pv n ys H->J.stop n H)(hs:∀i ys H x H',i<n->Pv i ys H->J.yld i H x H'->g x σ0 H' fun σ2 H2=>Keeps0 σ0 σ2/\tt σ2 H2 fun b H3 =>
   if b=true then te σ2 H3 fun v H4=>H4 D=some (.lst ys)/\ys.length<sizeLine/\Pv (i+1) (ys++[v]) (upd H4 D (.lst (ys++[v]))) else Pv (i+1) ys H3)(hd:∀ys H,Pv n ys H->Fin ys H):CompW J g tt te σ0 D Fin H1:=by
 refine⟨fun i m ys H=>m=n-i/\i<=n/\Pv i ys H,⟨n,by simp,Bo _,h0⟩,?_⟩;rintro i m ys H ⟨rfl,hi,p⟩;refine⟨hl i ys H p,?_⟩;by_cases hlt:i<n
 ·exact .inr ⟨hgo i ys H hlt p,Pv (i+1),fun zs H' q=>⟨n-(i+1),by lia,rfl,hlt,q⟩,fun x H' y=>hs i ys H x H' hlt p y⟩
 ·grind
theorem z2b{lo:Int}{Fin:List V->Hp->Prop}(Pv:Nat->List V->Hp->Prop)(h0:Pv 0 [] (upd H1 D (.lst [])))(hl:∀i ys H,Pv i ys H->H D=some (.lst ys))(hs:∀i ys H,i<n->Pv i ys H->g (.int (lo+i)) σ0 H fun σ2 H2=>Keeps0 σ0 σ2/\tt σ2 H2 fun b H3 =>
   if b=true then te σ2 H3 fun v H4=>H4 D=some (.lst ys)/\ys.length<sizeLine/\Pv (i+1) (ys++[v]) (upd H4 D (.lst (ys++[v]))) else Pv (i+1) ys H3)(hd:∀ys H,Pv n ys H->Fin ys H):CompW (Itr lo n) g tt te σ0 D Fin H1 :=
 q9l Pv h0 hl (fun i ys H h _=>h) (fun ys H _=>Ak _) (fun i ys H x H' h p y=>by obtain⟨e,y⟩:=y;subst e y;exact hs i ys _ h p) hd
theorem q4z{K:Ah}{Fin:List V->Hp->Prop}(Pv:Nat->List V->Hp->Prop)(h0:Pv 0 [] (upd H1 D (.lst [])))(hl:∀i ys H,Pv i ys H->H D=some (.lst ys)/\SqL K H a xs)(hs:∀i ys H x,xs[i]?=some x->Pv i ys H->g x σ0 H fun σ2 H2=>Keeps0 σ0 σ2/\tt σ2 H2 fun b H3 =>
   if b=true then te σ2 H3 fun v H4=>H4 D=some (.lst ys)/\ys.length<sizeLine/\Pv (i+1) (ys++[v]) (upd H4 D (.lst (ys++[v]))) else Pv (i+1) ys H3)(hd:∀ys H,Pv xs.length ys H->Fin ys H):CompW (Itl K a) g tt te σ0 D Fin H1 :=
 q9l Pv h0 (fun i ys H p=>(hl i ys H p).1) (fun i ys H h p=>⟨xs,xs[i],(hl i ys H p).2,by simp[h]⟩) (fun ys H p=>⟨xs,(hl _ ys H p).2,Ak _⟩)
  (fun i ys H x H' h p y=>by obtain⟨e,y⟩:=y;subst e;exact hs i ys _ x (y xs (hl i ys _ p).2) p) hd
theorem q2c{r:St}:Keeps0 (none::r) (v::r):=⟨rfl,fun i w h=>by
 cases i with
 |zero=>cases h
 |succ i=>exact h⟩
theorem q4b{r:St}:Keeps0 (none::none::r) (v::w::r):=⟨rfl,fun i u h=>by
 cases i with
 |zero=>cases h
 |succ i=>cases i with
  |zero=>cases h
  |succ i=>exact h⟩
open PySem PySem.Spec PyProof.Rows
section
variable{X:Cx}
theorem bigline:sizeLine=16777216:=Ea
def rSlS:V->Option Int->Option Int->Hp->VK->Prop:=fun x lo hi H Q=>∃z,x=.str z/\z.length<=sizeLine/\Q (.str (Ra z lo hi)) H
theorem q5a(h:Mc v o):∃p:Option (Int×Tok),v=partValue p/\o=p.map (·.1):=by
 cases h with
 |none=>exact⟨none,rfl,rfl⟩
 |int i t=>exact⟨some (i,t),rfl,rfl⟩
theorem sl_str:SlR X rSlS:=by
 intro pins s σ H x v vl vu lo hi sl Q I rx hs pl pu h;obtain⟨z,rfl,hz,q⟩:=h;obtain⟨t,rfl⟩:=rx;obtain⟨p1,rfl,rfl⟩:=q5a pl;obtain⟨p2,rfl,rfl⟩:=q5a pu;refine⟨"str",_,F.slot_str_getitem.lookup,Jx _ _ _,wpAny_getItem_str_slice (st:=none) hs rfl
  (post_val_or_str ⟨Bi (Txt.slice_le z _ _) hz,fun t' k=>⟨.str (Ra z (p1.map (·.1)) (p2.map (·.1))),H,I.tok _,⟨t',rfl⟩,q⟩⟩)⟩
def rLower:V->List V->Hp->VK->Prop:=fun x vs H Q=>∃z,x=.str z/\vs=[]/\3*z.length<=sizeLine/\Q (.str (Txt.lower z)) H
theorem fit3(h:n<=3*m)(h2:3*m<=sizeLine):Ql n=false:=by
 exact decide_eq_false (by lia)
theorem q7c:MtM X "str.lower" rLower:=by
 intro pins s σ H x vs v us Q I rx rv h;obtain⟨z,rfl,rfl,hz,q⟩:=h;obtain⟨t,rfl⟩:=rx;cases rv.zero;exact SC.lower (fit3 (len_lower z) hz) ⟨.str _,H,I.tok _,⟨_,rfl⟩,q⟩
theorem q4c:∀{ys:List Str} {us:List Value},Vals (ys.map V.str) us->Hc us ys
 |[],_,.nil=>.nil
 |y::ys,_,.cons r t=>by obtain⟨k,rfl⟩:=r;exact .cons y k (q4c t)
theorem q3h:∀(l:List (Str×Tok)),Vals ((l.map (·.1)).map V.str) (strValues l)
 |[]=>.nil
 |(x,t)::r=>.cons ⟨t,rfl⟩ (q3h r)
def rJoin(K:Ah):V->List V->Hp->VK->Prop:=fun x vs H Q=>∃(z:Str) (p:Addr) (ys:List Str),x=.str z/\vs=[.ref p]/\(SqL K H p (ys.map V.str)\/SqT K H p (ys.map V.str))/\(ys.map (·.length)).sum+ys.length*z.length<=16777216/\Q (.str (Kl z ys)) H
theorem z9s:MtM X "str.join" (rJoin X.K):=by
 intro pins s σ H x vs v us Q I rx rv h;obtain⟨z,p,ys,rfl,rfl,hq,hz,q⟩:=h;obtain⟨t,rfl⟩:=rx;obtain⟨u,rfl,ru⟩:=rv.one;cases ru;rcases hq with hq|hq
 ·obtain⟨its,r,pl,_⟩:=I.list hq;exact join_list pl.isList (q4c (by simpa using r)) hz fun t' k=>⟨.str _,H,I.tok _,⟨_,rfl⟩,q⟩
 ·obtain⟨its,r,pl,_⟩:=I.tuple hq;exact join_tuple pl (q4c (by simpa using r)) hz fun t' k=>⟨.str _,H,I.tok _,⟨_,rfl⟩,q⟩
def rSplit:V->List V->Hp->VK->Prop:=fun x vs H Q=>∃z y,x=.str z/\vs=[.str y]/\(y.length==0)=false/\z.length+1<=sizeLine/\(Ib z y).length<=sizeLine/\(Dw.Str.partsBetween z (Dg z y 0 z.length (z.length+1)) y.length).length<=sizeLine/\∀p,H p=none->Q (.ref p) (upd H p (.lst ((Ib z y).map V.str)))
theorem q3b:MtM X "str.split" rSplit:=by
 intro pins s σ H x vs v us Q I rx rv h;obtain⟨z,y,rfl,rfl,hy,hz,hz2,hz3,q⟩:=h;obtain⟨t,rfl⟩:=rx;obtain⟨u,rfl,ru⟩:=rv.one;obtain⟨t',rfl⟩:=ru;have fin:∀(l:List (Str×Tok)) (tk:Nat),l.map (·.1)=Ib z y->EP X pins σ Q (.ref s.heap.objs.size) { s with toks:=tk,heap:=s.heap.push { cls:=.type "list",data:=.seq (strValues l).toArray } }:=fun l tk e=>by
  refine⟨.ref s.heap.objs.size,_,I.lnew (t':=tk) (by rw[<- e];exact q3h l) (by rw[Ad];exact hz2),rfl,q _ I.fresh⟩
 cases h1:(decide (z.length<y.length)||decide (Qm z<Qm y))
 ·cases hf:(Dg z y 0 z.length (z.length+1)).isEmpty
  ·refine He Nv (Jx _ _ _) My (Mg _ _) (meets_str_split_sep z y t t' h1 hy hf (by lia) hz3) ?_;rw[strsFrom_eq];exact fin (numbered s.toks _) _ ((numbered_texts _ _).trans ((if_neg (ne_true_of_eq_false h1)).trans (if_neg (ne_true_of_eq_false hf))).symm)
  ·exact He Nv (Jx _ _ _) My (Mg _ _) (meets_str_split_not_found z y t t' h1 hy hf)
    (fin [(z,t)] _ ((if_neg (ne_true_of_eq_false h1)).trans (if_pos hf)).symm)
 ·exact He Nv (Jx _ _ _) My (Mg _ _) (meets_str_split_cannot_occur z y t t' h1)
   (fin [(z,t)] _ (if_pos h1).symm)
def rMulS:R2:=fun x y H Q=>∃z n,x=.str z/\y=.int n/\MulOk z n/\Q (.str (Txt.mul z n)) H
theorem op_mulS:OpR X (Fy .Mult) rMulS:=by
 intro pins s σ H x y v u Q I rx ry h;obtain⟨z,n,rfl,rfl,hm,q⟩:=h;obtain⟨t,rfl⟩:=rx;obtain⟨t',rfl⟩:=ry;exact SB.mul hm fun t2 k=>⟨.str _,H,I.tok _,⟨_,rfl⟩,q⟩
theorem q5b:∀{bs:List Bool} {us:List Value},Vals (bs.map V.bl) us->LSm.BoolsAre us bs
 |[],_,.nil=>.nil
 |b::bs,_,.cons r t=>by cases r;exact .cons b (q5b t)
theorem z6w(hc:X.calm=true):CallR X (.builtin "all") (fun xs H Q=>∃(p:Addr) (bs:List Bool),xs=[.ref p]/\SqL X.K H p (bs.map V.bl)/\Q (.bl (bs.all id)) H):=by
 intro pins s σ H xs us Q I r h;obtain⟨p,bs,rfl,hq,q⟩:=h;obtain⟨u,rfl,rx⟩:=vals1 r;cases rx;obtain⟨its,r',pl,hz⟩:=I.list hq;have hb:=q5b r';have hlt:p<s.heap.objs.size:=by obtain⟨_,e,_⟩:=pl.isList;exact Al e
 refine call_all_walk (Mz pl.isList ?_);refine⟨s.heap.objs.size,[s.heap.objs.size,p],[s.heap.objs.size],its.toArray.size,_,_,fun i=>(bs[i]?).getD true,rfl,Walks.list (A:=X.A.in1) (I.ok.hd hc) _ p (Bf hlt) its.toArray,
  ⟨⟨_,As _ rfl,rfl,rfl⟩,pl.isList.push _⟩,fun i v s' Q' E' hP hQ=>?_,fun h' tk hk=>?_⟩
 ·obtain⟨b,e,rfl⟩:=hb.get i v (by simpa using hP);simp only[e,Option.getD_some] at hQ;exact Cu hQ
 ·have e:((List.range its.toArray.size).all fun i=>(bs[i]?).getD true)=bs.all id:=by
   rw[Ax,hb.length];exact LSm.range_all bs
  rw[e];exact⟨.bl _,H,I.kept (t':=tk) (LSm.kept_iter hk),rfl,q⟩
theorem q9m:CallR X (.builtin "isinstance") (fun xs H Q=>∃x c t b,xs=[x,.ty c]/\TyOf X.K H x t/\Di X.K t (.type c)=some b/\Q (.bl b) H):=by
 intro pins s σ H xs us Q I r h;obtain⟨x,c,t,b,rfl,ty,e,q⟩:=h;obtain⟨u,v,rfl,ru,rv⟩:=r.two;cases rv;exact z3f I ru ty e fun tk=>⟨.bl b,H,I.tok _,rfl,q⟩
def Its(z:Str):It:=⟨fun i _=>i<z.length,fun i H x H'=>H'=H/\∃c,z.cps[i]?=some c/\x=.str ⟨#[c]⟩,fun i _=>z.length<=i⟩
end
theorem z3p{K:Ah}(it:Addr)(z:Str)(t:Tok):Turn P w K tg (Its z) [it] it (fun i h=>i<=z.length/\h.IsStrIter it "str_ascii_iterator" z t i) where
 mem:=by simp
 obj:=fun i h st b hb=>by
  have e:b=it:=by grind
  subst e;obtain⟨_,o,e,c,d⟩:=st;exact⟨o,e,fun v z=>by rw[d] at z;cases z⟩
 keep:=fun i h h' st k=>⟨st.1,let ⟨o,e,c,d⟩:=st.2;⟨o,k it (by simp) o e,c,d⟩⟩
 item:=by
  intro X hP hw hK hc i pins s σ H E I hf st hg;obtain⟨f0,f1,f2,f3,f4,f5⟩:=hf it (by simp);have hi:i<z.cps.size:=hg;refine wpAny_pyNext_ascii_item st.2 (c:=z.cps[i]) (by simp[hi]) fun h' hit' hs'=>?_;have I1:Inv X pins σ H { s with heap:=h',toks:=s.toks+1 }:=I.turned (fun b o hb e=>(hs'.2 b hb).trans e) f0 f1 f3 f4 f5;obtain⟨o,e,c,d⟩:=id hit';exact⟨_,rfl,z1n e c d (by decide) ⟨.str ⟨#[z.cps[i]]⟩,H,I1,⟨_,rfl⟩,⟨rfl,_,by simp[hi],rfl⟩,⟨hg,hit'⟩,fun b hb=>(hf b hb).1⟩⟩
 done:=by
  intro X hP hw hK hc i pins s σ H E I hf st hg;obtain⟨f0,f1,f2,f3,f4,f5⟩:=hf it (by simp);have hi:z.cps.size<=i:=hg;exact wpAny_pyNext_ascii_end (I.ok.hd hc) st.2 (by simp;lia) fun h' eb=>⟨rfl,I.turned (t':=s.toks) (fun b o hb e=>eb b o hb e) f0 f1 f3 f4 f5⟩
 self:=fun _ _ _ _ _ st h=>wpAny_pyIter_striter_ascii st.2 h
theorem z3q{K:Ah}(it:Addr)(z:Str)(t:Tok):Turn P w K tg (Its z) [it] it (fun i h=>i<=z.length/\h.IsStrIter it "str_iterator" z t i) where
 mem:=by simp
 obj:=fun i h st b hb=>by
  have e:b=it:=by grind
  subst e;obtain⟨_,o,e,c,d⟩:=st;exact⟨o,e,fun v z=>by rw[d] at z;cases z⟩
 keep:=fun i h h' st k=>⟨st.1,let ⟨o,e,c,d⟩:=st.2;⟨o,k it (by simp) o e,c,d⟩⟩
 item:=by
  intro X hP hw hK hc i pins s σ H E I hf st hg;obtain⟨f0,f1,f2,f3,f4,f5⟩:=hf it (by simp);have hi:i<z.cps.size:=hg;refine wpAny_pyNext_wide_item st.2 (c:=z.cps[i]) (by simp[hi]) fun h' hit' hs'=>?_;have I1:Inv X pins σ H { s with heap:=h',toks:=s.toks+1 }:=I.turned (fun b o hb e=>(hs'.2 b hb).trans e) f0 f1 f3 f4 f5;obtain⟨o,e,c,d⟩:=id hit';exact⟨_,rfl,z1n e c d (by decide) ⟨.str ⟨#[z.cps[i]]⟩,H,I1,⟨_,rfl⟩,⟨rfl,_,by simp[hi],rfl⟩,⟨hg,hit'⟩,fun b hb=>(hf b hb).1⟩⟩
 done:=by
  intro X hP hw hK hc i pins s σ H E I hf st hg;obtain⟨f0,f1,f2,f3,f4,f5⟩:=hf it (by simp);have hi:z.cps.size<=i:=hg;exact wpAny_pyNext_wide_end (I.ok.hd hc) st.2 (by simp;lia) fun h' eb=>⟨rfl,I.turned (t':=s.toks) (fun b o hb e=>eb b o hb e) f0 f1 f3 f4 f5⟩
 self:=fun _ _ _ _ _ st h=>wpAny_pyIter_striter_wide st.2 h
theorem q7d{Fin:List V->Hp->Prop}(Pv:Nat->List V->Hp->Prop)(h0:Pv 0 [] (upd H1 D (.lst [])))(hl:∀i ys H,Pv i ys H->H D=some (.lst ys))(hs:∀i ys H c,z.cps[i]?=some c->Pv i ys H->g (.str ⟨#[c]⟩) σ0 H fun σ2 H2=>Keeps0 σ0 σ2/\tt σ2 H2 fun b H3 =>
   if b=true then te σ2 H3 fun v H4=>H4 D=some (.lst ys)/\ys.length<sizeLine/\Pv (i+1) (ys++[v]) (upd H4 D (.lst (ys++[v]))) else Pv (i+1) ys H3)(hd:∀ys H,Pv z.length ys H->Fin ys H):CompW (Its z) g tt te σ0 D Fin H1 :=
 q9l Pv h0 hl (fun i ys H h _=>h) (fun ys H _=>Ak _) (fun i ys H x H' h p y=>by obtain⟨e,c,hc,y⟩:=y;subst e y;exact hs i ys _ c hc p) hd
open PySem PySem.Spec PyProof.Rows
structure Vw (K:Ah) (H:Hp) (h:Heap):Prop where
 lst:∀a xs,SqL K H a xs->∃its:List Value,Vals xs its/\h.IsList a its.toArray
 tup:∀a xs,SqT K H a xs->∃its:List Value,Vals xs its/\h.IsTuple a its.toArray
theorem SqL.ne{K:Ah}(h:SqL K H a xs)(hb:H b=none)(hk:K.lookup b=none):a≠b:=by
 rintro rfl;rcases h with(h|⟨o,h⟩)|⟨o,_,_,h,_⟩
 ·rw[hb] at h;cases h
 ·rw[hb] at h;cases h
 ·rw[hk] at h;cases h
theorem SqT.ne{K:Ah}(h:SqT K H a xs)(hb:H b=none)(hk:K.lookup b=none):a≠b:=by
 rintro rfl;rcases h with(h|⟨o,h⟩)|⟨o,_,_,h,_⟩
 ·rw[hb] at h;cases h
 ·rw[hb] at h;cases h
 ·rw[hk] at h;cases h
theorem Vw.linj{K:Ah}(v:Vw K H h)(p:SqL K H a xs)(q:SqL K H a ys):xs=ys:=by
 obtain⟨its,r,o,e,_,n,d⟩:=v.lst a xs p;obtain⟨its',r',o',e',_,n',d'⟩:=v.lst a ys q;have:its=its':=by grind
 subst this;exact r.inj r'
theorem Inv.vw{σ:St}(I:Inv X pins σ H s):Vw X.K H s.heap :=
 ⟨fun a xs q=>let ⟨its,r,l,_⟩:=I.list q;⟨its,r,l.isList⟩,fun a xs q=>let ⟨its,r,l,_⟩:=I.tuple q;⟨its,r,l⟩⟩
structure Srce (P:Program) (w:World) (K:Ah) (J:It) (it:Addr) (st:Nat->Heap->Prop):Prop where
 obj:∀i h,st i h->∃o,h.get? it=some o/\∀v,o.data≠.cell v
 keep:∀i h h',st i h->(∀o,h.get? it=some o->h'.get? it=some o)->st i h'
 item:∀(A:Around) (i:Nat) (s:Af) (H:Hp) (Q:Value->Af->Prop) (E:Value->Af->Prop),A.handled=none->Vw K H s.heap->H it=none->K.lookup it=none->st i s.heap->J.go i H ->
  (∀u x h' tk,RelV x u->J.yld i H x H->st (i+1) h'->Ge it s.heap h'->Q u { s with heap:=h',toks:=tk })->wpAny (model P w) A (Ni (.ref it)) Q E s
 done:∀(A:Around) (i:Nat) (s:Af) (H:Hp) (Q:Value->Af->Prop) (E:Value->Af->Prop),A.handled=none->Vw K H s.heap->H it=none->K.lookup it=none->st i s.heap->J.stop i H ->
  (∀h' e,Sk it s.heap h'->(∃o,h'.get? e=some o/\o.cls=.type "StopIteration")->E (.ref e) { s with heap:=h' })->wpAny (model P w) A (Ni (.ref it)) Q E s
theorem z3r{K:Ah}(a it:Addr):Srce P w K (Itl K a) it (fun i h=>h.IsListIter it a i) where
 obj:=fun i h st=>by obtain⟨o,e,c,d⟩:=st;exact⟨o,e,fun v z=>by rw[d] at z;cases z⟩
 keep:=fun i h h' st k=>st.at fun o e=>k o e
 item:=fun A i s H Q E hh vw hn hk st go hQ=>by
  obtain⟨xs,x,hq,hx⟩:=go;obtain⟨its,rv,p⟩:=vw.lst a xs hq;obtain⟨u,hu,ru⟩:=rv.get hx;refine wpAny_nextOf_list_item st p (by simpa using hu) fun h' st' sb=>?_
  exact hQ u x h' s.toks ru ⟨rfl,fun ys hy=>by rw[vw.linj hy hq];exact hx⟩ st' sb
 done:=fun A i s H Q E hh vw hn hk st stop hE=>by
  obtain⟨xs,hq,hx⟩:=stop;obtain⟨its,rv,p⟩:=vw.lst a xs hq;have hl:=rv.length;exact wpAny_nextOf_list_end hh st p (by simp;lia) hE
def stStr(it:Addr)(z:Str)(t:Tok)(i:Nat)(h:Heap):Prop:=h.IsStrIter it (Iu z) z t i
theorem z6x{K:Ah}(it:Addr)(z:Str)(t:Tok):Srce P w K (Its z) it (stStr it z t) where
 obj:=fun i h st=>by obtain⟨o,e,c,d⟩:=st;exact⟨o,e,fun v z=>by rw[d] at z;cases z⟩
 keep:=fun i h h' st k=>by obtain⟨o,e,r⟩:=st;exact⟨o,k o e,r⟩
 item:=fun A i s H Q E hh vw hn hk st go hQ=>by
  have hi:i<z.cps.size:=go;unfold stStr Iu at st;cases ha:z.cps.all (· < 128)
  ·rw[ha] at st;refine wpAny_nextOf_wide_item st (c:=z.cps[i]) (by simp[hi]) fun h' hit' hs'=>?_;exact hQ _ (.str ⟨#[z.cps[i]]⟩) h' (s.toks+1) ⟨_,rfl⟩ ⟨rfl,_,by simp[hi],rfl⟩ (by unfold stStr Iu;rw[ha];exact hit') hs'
  ·rw[ha] at st;refine wpAny_nextOf_ascii_item st (c:=z.cps[i]) (by simp[hi]) fun h' hit' hs'=>?_;exact hQ _ (.str ⟨#[z.cps[i]]⟩) h' (s.toks+1) ⟨_,rfl⟩ ⟨rfl,_,by simp[hi],rfl⟩ (by unfold stStr Iu;rw[ha];exact hit') hs'
 done:=fun A i s H Q E hh vw hn hk st stop hE=>by
  have hi:z.cps.size<=i:=stop;unfold stStr Iu at st;cases ha:z.cps.all (· < 128)
  ·rw[ha] at st;exact wpAny_nextOf_wide_end hh st (by simp;lia) hE
  ·rw[ha] at st;exact wpAny_nextOf_ascii_end hh st (by simp;lia) hE
theorem Inv.turnedL{σ:St}{ch:List Addr}(I:Inv X pins σ H s)(k:∀b o,b∉ch->s.heap.get? b=some o->h'.get? b=some o)(hf:∀b∈ch,FpOk X pins H b):Inv X pins σ H { s with heap:=h',toks:=t' }:=by
 have nit:∀b u,H b=some u->b∉ch:=fun b u e z=>by rw[(hf b z).1] at e;cases e
 refine I.step (g':=s.gens) (d':=s.drawn) (fun b hb=>?_) (fun b o _ _ hc e _=>k b o hc e) (fun b o _ _ hc e _=>⟨o.slots,k b o hc e⟩) (fun _ _ _ _ n=>n)
  (fun b o hc e=>?_) (fun _ _ e=>e) (fun _ _ _ e=>e) (fun b ps e=>⟨#[],by rw[e];simp⟩) (fun m hm=>?_) (fun b u e=>?_) I.bare
 ·exact⟨(hf b hb).2.2.2.1,(hf b hb).2.1,(hf b hb).2.2.2.2.1,(hf b hb).2.2.2.2.2⟩
 ·exact⟨o,k b o hc e⟩
 ·obtain⟨o,es,ep,ho,r⟩:=hm;exact⟨o,es,ep,k _ o (fun z=>(hf _ z).2.1 rfl) ho,r⟩
 ·refine(I.hok b u e).stay (fun c v hc q=>k c v ?_ q) (fun _ q=>q) fun _ _ q=>q;rcases hc with z|z
  ·rw[z];exact nit b u e
  ·exact nit c _ z
theorem Inv.track{σ:St}{T:Addr}(I:Inv X pins σ H s)(hT:X.s₀.heap.objs.size<=T)(hF:FpOk X pins H T)(new:ObjOk X.prog X.w (upd H T o) s.heap T o):Inv X pins σ (upd H T o) s:=by
 have hn:=hF.1;refine⟨I.ok,I.os,I.bare,⟨I.base.keep,I.base.slot,fun b ob e n hx=>?_,I.base.there,fun b xs e=>?_,fun b ob u e=>?_,fun b ps e=>?_⟩,I.loc,I.cell,?_,fun x c e=>?_,fun p hp=>?_,fun b u e=>?_,I.len⟩
 ·rw[q0e (Bf (Be (Al e) hT))];exact I.base.free b ob e n hx
 ·have z:=I.base.tups b xs e;rw[q0e (q0n z hn)];exact z
 ·have z:=I.base.frzs b ob u e;rw[q0e (q0n z hn)];exact z
 ·obtain⟨m,z⟩:=I.base.tbls b ps e;exact⟨m,by rw[q0e (q0n z hn)];exact z⟩
 ·rw[q0e (Cd hF.2.1)];exact I.free
 ·rw[q0e (hF.2.2.2.2.1 x c e)];exact I.freeC x c e
 ·obtain⟨e,n,ne,nf,d⟩:=I.pin p hp;exact⟨e,by rw[q0e (hF.2.2.2.2.2 p hp)];exact n,ne,nf,d⟩
 ·by_cases hb:b=T
  ·subst hb;rw[q0b] at e;cases e;exact new
  ·rw[q0e hb] at e;exact(I.hok b u e).stay (fun _ _ _ q=>q) (fun c q=>by rw[q0e (q0n q hn)];exact q) fun c xs q=>by rw[q0e (q0n q hn)];exact q
theorem FpOk.noK{σ:St}(I:Inv X pins σ H' s)(f:FpOk X pins H b):X.K.lookup b=none:=by
 cases e:X.K.lookup b with
 |none=>rfl
 |some o =>
  have e1:=I.ok.mod.kin b o e;rcases f.2.2.2.1 with z|z
  ·exact absurd z (I.ok.noex b o e1)
  ·exact absurd (Be (Al (I.ok.bs b o e1).1) z) (Ft _)
abbrev zs1(h:Heap)(x:Str)(t:Tok):Heap:=h.push { cls:=.type (Iu x),data:=.fields #[.str x t,.int 0 0] }
abbrev zs2(h:Heap)(x y:Str)(t u:Tok):Heap:=(zs1 h x t).push { cls:=.type (Iu y),data:=.fields #[.str y u,.int 0 0] }
set_option maxHeartbeats 4000000 in
section
variable{X:Cx}{elts:List Expr}{kk:Nat}{tpos:Pos}
theorem z8m{J:It}{g:TG}{tb:TS}{D:Ends}(Pv:Nat->St->Hp->Prop)(h0:Pv 0 σ H)(hgo:∀i σ H,i<n->Pv i σ H->J.go i H)(hstop:∀σ H,Pv n σ H->J.stop n H)(hs:∀i x σ H H',i<n->Pv i σ H->J.yld i H x H'->g x σ H' fun σ2 H2=>tb { D with nx:=Pv (i+1),ct:=Pv (i+1),bk:=D.nx } σ2 H2)(hd:∀σ H,Pv n σ H->D.nx σ H):
  ∃W:Nat->Nat->St->Hp->Prop,(∃m,W 0 m σ H)/\∀i m σ H,W i m σ H ->
   (J.stop i H/\D.nx σ H)\/(J.go i H/\∃N:St->Hp->Prop,(∀σ' H',N σ' H'->∃m',m'<m/\W (i+1) m' σ' H')/\∀x H',J.yld i H x H'->g x σ H' fun σ2 H2=>tb { D with nx:=N,ct:=N,bk:=D.nx } σ2 H2):=by
 refine⟨fun i m σ H=>m=n-i/\i<=n/\Pv i σ H,⟨n,by simp,Bo _,h0⟩,?_⟩;rintro i m σ H ⟨rfl,hi,p⟩;by_cases hlt:i<n
 ·exact .inr ⟨hgo i σ H hlt p,Pv (i+1),fun σ' H' p'=>⟨n-(i+1),by lia,rfl,hlt,p'⟩,fun x H' y=>hs i x σ H H' hlt p y⟩
 ·grind
end
open PySem PySem.Spec PyProof.Rows
structure Cal (P:Program) (w:World) (K:Ah) (mg:Str->Option Value) (base:Heap) (x:Str) (k:Nat) (ps:List Str) (sp:Sp):Prop where
 ex:∃f fd,FnOk P w K mg base CX0 k f fd ps sp/\mg x=some (.ref f)/\Es K (.ref f)=true/\Binds K fd ps []
structure Df (K:Ah) (mg:Str->Option Value) (x:Str) (st:Stmt) (ps:List Str):Prop where
 ex:∃f fd,Fun K x x st f fd/\mg x=some (.ref f)/\Binds K fd ps []
theorem Df.cal{K:Ah}{st:Stmt}(D:Df K mg x st ps)(S:FnScope N ps (defScope st))(len:∀vs H Q E,sp vs H Q E->vs.length=ps.length)(hbody:∀(f:Addr) (cdv:Value) (A:Around) (outer:List Env) (s:Af) (H:Hp) (vs:List V) (Q:VK) (E:XK),Room k (A.deeper (Fx x (defScope st) s.heap.objs.size f cdv))->sp vs H Q E ->
   ∃t,PSs (cxOf CX0 P w K mg base N x (defScope st) f cdv A outer s H E).nox (defBody st) t/\t { nx:=fun _ H'=>Q .non H',rt:=Q } (start N vs) H):Cal P w K mg base x (k+1) ps sp:=by
 obtain⟨f,fd,F,hm,hb⟩:=D.ex;exact⟨f,fd,F.ok S len fun cdv A outer s H vs Q E hr h=>hbody f cdv A outer s H vs Q E hr h,hm,F.kp,hb⟩
theorem Cal.imp{K:Ah}(C:Cal P w K mg base x k ps sp)(h:∀vs H Q E,sp' vs H Q E->sp vs H Q E):Cal P w K mg base x k ps sp':=by
 obtain⟨f,fd,F,r⟩:=C.ex;exact⟨f,fd,F.imp h,r⟩
section
variable{X:Cx}{x:Str}{k j:Nat}{ps:List Str}{sp:Sp}{p pos:Pos}{e:Expr}{es:List Expr}{t:TA}
theorem pe_c(C:Cal X.prog X.w X.K X.mg X.base x k ps sp)(hr:Room j X.A)(ha:PA X (e::es) t)(hjk:k<=j:=by decide)(hg:Gl X x:=by rfl)(hdb:(x==("__debug__" : Str))=false:=by decide)(he:Bc (e::es) X.env=(false,eval e X.env)::Bc es X.env:=by rfl)(hpl:(Eg pos (Bc es X.env)).any (·.1)=false:=by rfl):
  PE X (.Call (.Name x p) (e::es) [] pos) (tCall sp [] E0 t):=by
 obtain⟨f,fd,F,hm,hk,hb⟩:=C.ex;exact z9p F (hr.mono hjk) hg hm hk hb .nil pass0 ha hdb he hpl
end
theorem PI.or(h1:PI X tg l w1)(h2:PI X tg l w2):PI X tg l (fun σ H R=>w1 σ H R\/w2 σ H R):=by
 intro pins s σ H R I h;rcases h with h|h
 ·exact h1 pins s σ H R I h
 ·exact h2 pins s σ H R I h
structure FeedAt (H:Hp) (a b:Addr):Prop where
 fa:∃i j:Int,H a=some (.lst [.ref b,.int i,.int j])
 fb:∃ns:List Int,H b=some (.lst (ns.map V.int))
structure Fd (a b:Addr) (H H':Hp):Prop where
 feed:FeedAt H' a b
 keep:∀c o,H c=some o->c≠a->H' c=some o
theorem FeedAt.ne(F:FeedAt H a b):b≠a:=by
 obtain⟨⟨i,j,h⟩,ns,h'⟩:=F;refine z2s h' h ?_;intro z;cases ns with
 |nil=>cases z
 |cons n r=>simp at z
theorem Fd.refl(F:FeedAt H a b):Fd a b H H:=⟨F,fun _ _ h _=>h⟩
theorem Fd.trans(x:Fd a b H H1)(y:Fd a b H1 H2):Fd a b H H2:=⟨y.feed,fun c o h hc=>y.keep c o (x.keep c o h hc) hc⟩
theorem Fd.free(x:Fd a b H H')(h:H' p=none):H p=none:=by
 cases e:H p with
 |none=>rfl
 |some o =>
  by_cases hp:p=a
  ·subst hp;obtain⟨i,j,q⟩:=x.feed.fa;rw[h] at q;cases q
  ·rw[x.keep p o e hp] at h;cases h
theorem FeedAt.upd(F:FeedAt H a b)(ha:a≠p)(hb:b≠p):FeedAt (upd H p o) a b :=
 ⟨let ⟨i,j,h⟩:=F.fa;⟨i,j,by rw[q0e ha];exact h⟩,let ⟨ns,h⟩:=F.fb;⟨ns,by rw[q0e hb];exact h⟩⟩
theorem FeedAt.na(F:FeedAt H a b)(h:H p=none):a≠p:=by obtain⟨i,j,q⟩:=F.fa;exact q0n q h
theorem FeedAt.nb(F:FeedAt H a b)(h:H p=none):b≠p:=by obtain⟨ns,q⟩:=F.fb;exact q0n q h
theorem Fd.put(x:Fd a b H H')(F:FeedAt H a b)(h:H p=none):Fd a b H (upd H' p o) :=
 ⟨x.feed.upd (F.na h) (F.nb h),fun c u e hc=>by rw[q0e (q0n e h)];exact x.keep c u e hc⟩
theorem Fd.new(x:Fd a b H H')(h:H' p=none):Fd a b H (upd H' p o) :=
 ⟨x.feed.upd (x.feed.na h) (x.feed.nb h),fun c u e hc=>by rw[q0e (q0n (x.keep c u e hc) h)];exact x.keep c u e hc⟩
theorem Fd.at(x:Fd a b H H')(h:H c=some o)(hc:c≠a):H' c=some o:=x.keep c o h hc
theorem Fd.same(x:Fd a b H H')(s:Same H' H2):Fd a b H H2 :=
 ⟨⟨let ⟨i,j,h⟩:=x.feed.fa;⟨i,j,s _ _ h⟩,let ⟨ns,h⟩:=x.feed.fb;⟨ns,s _ _ h⟩⟩,fun c o e hc=>s _ _ (x.keep c o e hc)⟩
theorem Same.new(s:Same H H')(h:H' p=none):Same H (upd H' p o):=fun c u e=>by rw[q0e (q0n (s c u e) h)];exact s c u e
theorem Same.put(s:Same H H')(h:H p=none):Same H (upd H' p o):=fun c u e=>by rw[q0e (q0n e h)];exact s c u e
def spDraw:Sp:=fun vs H Q _=>∃a b m,vs=[.ref a,.int m]/\FeedAt H a b/\0<m/\m<1073741824/\∀(r:Int) H',0<=r->r<m->Fd a b H H'->Q (.int r) H'
theorem z9t{xs:List α}(i:Int)(h:xs≠[]):∃x,x∈xs/\atI xs (i%(xs.length:Int))=some x:=by
 have hl:0<(xs.length:Int):=by
  cases xs with
  |nil=>exact absurd rfl h
  |cons a r=>grind
 have h0:=La i (show(xs.length:Int)≠0 by lia);have h1:=Jo i hl;have hn:(i%(xs.length:Int)).toNat<xs.length:=by lia
 unfold atI ixN;rw[if_pos h0,if_pos h1];simp[hn]
theorem q6i{xs:List α}(h0:0<=i)(h1:i<(xs.length:Int)):∃x,xs[i.toNat]?=some x/\atI xs i=some x:=by
 have hn:i.toNat<xs.length:=by lia
 unfold atI ixN;rw[if_pos h0,if_pos h1];simp[hn]
open PySem PySem.Spec PyProof.Rows
mutual
inductive Dt (K : Ah) (H : Hp) : V → PyData → Prop
  | non : Dt K H .non .none
  | bl (b : Bool) : Dt K H (.bl b) (.bool b)
  | int (i : Int) : Dt K H (.int i) (.int i)
  | str (x : Str) : Dt K H (.str x) (.str x)
  | lst {a : Addr} {xs : List V} {ds : List PyData} : SqL K H a xs → Dts K H xs ds → Dt K H (.ref a) (.list ds)
  | tup {a : Addr} {xs : List V} {ds : List PyData} : SqT K H a xs → Dts K H xs ds → Dt K H (.ref a) (.tuple ds)
inductive Dts (K : Ah) (H : Hp) : List V → List PyData → Prop
  | nil : Dts K H [] []
  | cons {x : V} {xs : List V} {d : PyData} {ds : List PyData} : Dt K H x d → Dts K H xs ds → Dts K H (x :: xs) (d :: ds)
end
section
variable{X:Cx}{pins:List (Addr×Obj)}{σ:St}{H:Hp}{s:Af}
mutual
theorem Dt.reads (I : Inv X pins σ H s) : ∀ {x : V} {d : PyData} {u : Value}, Dt X.K H x d → RelV x u → ∃ as, Reads s.heap u d as
  | _, _, _, .non, r => by cases r; exact ⟨_, .none⟩
  | _, _, _, .bl b, r => by cases r; exact ⟨_, .bool b⟩
  | _, _, _, .int i, r => by obtain ⟨t, rfl⟩ := r; exact ⟨_, .int i t⟩
  | _, _, _, .str x, r => by obtain ⟨t, rfl⟩ := r; exact ⟨_, .str x t⟩
  | _, _, _, .lst q ds, r => by
    cases r
    obtain ⟨its, rv, ⟨o, n, e, c, _, d⟩, _⟩ := I.list q
    obtain ⟨as, h⟩ := Dts.reads I ds rv
    exact ⟨_, .list e c d (by simpa using h)⟩
  | _, _, _, .tup q ds, r => by
    cases r
    obtain ⟨its, rv, ⟨o, e, c, n, d⟩, _⟩ := I.tuple q
    obtain ⟨as, h⟩ := Dts.reads I ds rv
    exact ⟨_, .tuple e c d (by simpa using h)⟩
theorem Dts.reads (I : Inv X pins σ H s) : ∀ {xs : List V} {ds : List PyData} {us : List Value}, Dts X.K H xs ds → Vals xs us → ∃ as, ReadsAll s.heap us ds as
  | _, _, _, .nil, .nil => ⟨_, .nil⟩
  | _, _, _, .cons d ds, .cons r rs => by
    obtain ⟨as, h⟩ := Dt.reads I d r
    obtain ⟨bs, h'⟩ := Dts.reads I ds rs
    exact ⟨_, .cons h h'⟩
end
end
section
variable{X:Cx}{k:Nat}
def rEqD(K:Ah):R2:=fun x y H Q=>∃d e,Dt K H x d/\Dt K H y e/\d.canLay0=true/\e.canLay0=true/\min d.depth e.depth<=100/\Q (.bl (Ds d e)) H
def rNeD(K:Ah):R2:=fun x y H Q=>∃d e,Dt K H x d/\Dt K H y e/\d.canLay0=true/\e.canLay0=true/\min d.depth e.depth<=100/\Q (.bl (!PyData.eqv d e)) H
theorem op_eqD(hr:Room k X.A):OpR X (Bs .Eq) (rEqD X.K):=by
 intro pins s σ H x y v u Q I rx ry h;obtain⟨d,e,hd,he,cd,ce,hm,q⟩:=h;obtain⟨as,r1⟩:=hd.reads I rx;obtain⟨bs,r2⟩:=he.reads I ry;have hu:=hr.un;exact SeqAt.rcAt_reads r1 r2 cd ce (by lia) X.prog X.w X.xe _ ⟨.bl _,H,I,rfl,q⟩
theorem op_neD(hr:Room k X.A):OpR X (Bs .NotEq) (rNeD X.K):=by
 intro pins s σ H x y v u Q I rx ry h;obtain⟨d,e,hd,he,cd,ce,hm,q⟩:=h;obtain⟨as,r1⟩:=hd.reads I rx;obtain⟨bs,r2⟩:=he.reads I ry;have hu:=hr.un;exact SeqAt.rcNeAt_reads r1 r2 cd ce (by lia) X.prog X.w X.xe _ ⟨.bl _,H,I,rfl,q⟩
def rAddU:R2:=fun x y H Q=>(∃i j,x=.int i/\y=.int j/\Q (.int (i+j)) H)\/(∃i j,x=.str i/\y=.str j/\i.length+j.length<=sizeLine/\Q (.str (i++j)) H)\/rCat x y H Q
theorem q0p:OpR X (Fy .Add) rAddU:=op_add.or (op_add_str.or op_cat)
def rMulU:R2:=fun x y H Q=>(∃i j,x=.int i/\y=.int j/\CMul i j/\Q (.int (i*j)) H)\/rMulS x y H Q\/rRep x y H Q
theorem q3j:OpR X (Fy .Mult) rMulU:=op_mul.or (op_mulS.or op_rep)
def rEqU(K:Ah):R2:=fun x y H Q=>rEq x y H Q\/rEqD K x y H Q
theorem op_eqU(hr:Room k X.A):OpR X (Bs .Eq) (rEqU X.K):=op_eq.or (op_eqD hr)
def rNeU(K:Ah):R2:=fun x y H Q=>rNe x y H Q\/rNeD K x y H Q
theorem op_neU(hr:Room k X.A):OpR X (Bs .NotEq) (rNeU X.K):=op_ne.or (op_neD hr)
def rInU(K:Ah):R2:=fun x y H Q=>(∃i j,x=.str i/\y=.str j/\Q (.bl (!(Dg j i 0 j.length 1).isEmpty)) H)\/rIn K false x y H Q
theorem op_inU:OpR X (Bs .In) (rInU X.K):=op_in_str.or z3k
def rNinU(K:Ah):R2:=fun x y H Q=>(∃i j,x=.str i/\y=.str j/\Q (.bl (!(!(Dg j i 0 j.length 1).isEmpty))) H)\/rIn K true x y H Q
theorem z9u:OpR X (Bs .NotIn) (rNinU X.K):=op_notIn_str.or q8a
def rSlU(K:Ah):V->Option Int->Option Int->Hp->VK->Prop:=fun x lo hi H Q=>rSlS x lo hi H Q\/rSlL K x lo hi H Q\/rSlT K x lo hi H Q
theorem sl_U:SlR X (rSlU X.K):=sl_str.or (sl_list.or sl_tup)
def iAny(K:Ah)(tl:TE):TI:=fun σ H R=>tl σ H fun x H1=>(∃a,x=.ref a/\(∃xs,SqL K H1 a xs)/\R (Itl K a) H1)\/(∃a,x=.ref a/\(∃xs,SqT K H1 a xs)/\R (Itt K a) H1)\/∃z,x=.str z/\R (Its z) H1
theorem pi_any(hl:PE X l tl):PI X tg l (iAny X.K tl):=by
 intro pins s σ H R I h;refine thn (hl pins s σ H _ I h) fun v s1 ⟨x,H1,I1,r1,q1⟩=>?_;have fp:∀b∈[s1.heap.objs.size],FpOk X pins H1 b:=fun b hb=>by
  have e:b=s1.heap.objs.size:=by grind
  subst e;exact I1.fpOk (Ak _) (I1.hok.fresh (Ak _))
 rcases q1 with⟨a,e,⟨xs,hq⟩,q⟩|⟨a,e,⟨xs,hq⟩,q⟩|⟨z,e,q⟩
 ·subst e;cases r1;obtain⟨its,rv,p,hz⟩:=I1.list hq;exact Mz p.isList ⟨s1.heap.objs.size,[s1.heap.objs.size],_,_,H1,rfl,I1.kept (t':=s1.toks) fun b o e=>Ag _ e,z2v a _,⟨_,As _ rfl,rfl,rfl⟩,fp,q⟩
 ·subst e;cases r1;obtain⟨its,rv,p,hz⟩:=I1.tuple hq;exact wpAny_pyIter_tuple (show s1.heap.IsTuple a its.toArray from p) ⟨s1.heap.objs.size,[s1.heap.objs.size],_,_,H1,rfl,I1.kept (t':=s1.toks) fun b o e=>Ag _ e,z1o a _,⟨_,As _ rfl,rfl,rfl⟩,fp,q⟩
 ·subst e;obtain⟨t,rfl⟩:=r1;cases ha:z.cps.all (· < 128)
  ·exact wpAny_pyIter_wide ha ⟨s1.heap.objs.size,[s1.heap.objs.size],_,_,H1,rfl,I1.kept (t':=s1.toks) fun b o e=>Ag _ e,z3q _ z t,⟨Bo _,_,As _ rfl,rfl,rfl⟩,fp,q⟩
  ·exact wpAny_pyIter_ascii ha ⟨s1.heap.objs.size,[s1.heap.objs.size],_,_,H1,rfl,I1.kept (t':=s1.toks) fun b o e=>Ag _ e,z3p _ z t,⟨Bo _,_,As _ rfl,rfl,rfl⟩,fp,q⟩
end
open PySem PySem.Spec PyProof.Rows
section
variable{X:Cx}{a b o e l:Expr}{es:List Expr}{ta tb to te tl:TE}{t:TA}{pos p2 apos cpos:Pos}{k:Nat}{name:Str}{T idn:String}{r:V->List V->Hp->VK->Prop}
theorem ix_k(K:Ah)(hK:X.K=K):IxR X (rIx K):=by subst hK;exact ix_seq
theorem q1m(K:Ah)(hK:X.K=K):CallR X (.builtin "len") (fun xs H Q=>∃x n,xs=[x]/\LenV K x H n/\Q (.int n) H):=by subst hK;exact z6p
theorem eq_k(K:Ah)(hK:X.K=K)(hr:Room k X.A):OpR X (Bs .Eq) (rEqU K):=by subst hK;exact op_eqU hr
theorem ne_k(K:Ah)(hK:X.K=K)(hr:Room k X.A):OpR X (Bs .NotEq) (rNeU K):=by subst hK;exact op_neU hr
theorem in_k(K:Ah)(hK:X.K=K):OpR X (Bs .In) (rInU K):=by subst hK;exact op_inU
theorem nin_k(K:Ah)(hK:X.K=K):OpR X (Bs .NotIn) (rNinU K):=by subst hK;exact z9u
theorem sl_k(K:Ah)(hK:X.K=K):SlR X (rSlU K):=by subst hK;exact sl_U
theorem q5c{tg:Expr}(K:Ah)(hK:X.K=K)(hl:PE X l tl):PI X tg l (iAny K tl):=by subst hK;exact pi_any hl
theorem all_k(K:Ah)(hK:X.K=K)(hc:X.calm=true):CallR X (.builtin "all") (fun xs H Q=>∃(p:Addr) (bs:List Bool),xs=[.ref p]/\SqL K H p (bs.map V.bl)/\Q (.bl (bs.all id)) H):=by subst hK;exact z6w hc
theorem z3s(K:Ah)(hK:X.K=K):CallR X (.builtin "isinstance") (fun xs H Q=>∃x c t b,xs=[x,.ty c]/\TyOf K H x t/\Di K t (.type c)=some b/\Q (.bl b) H):=by subst hK;exact q9m
theorem z3t(K:Ah)(hK:X.K=K):CallR X (.type "list") (fun xs H Q=>∃p ys,xs=[.ref p]/\(SqL K H p ys\/SqT K H p ys)/\∀l,H l=none->Q (.ref l) (upd H l (.lst ys))):=by subst hK;exact q8b
theorem z3u(K:Ah)(hK:X.K=K):CallR X (.type "tuple") (fun xs H Q=>∃p ys,xs=[.ref p]/\((SqL K H p ys/\∀l,H l=none->Q (.ref l) (upd H l (.tup ys)))\/(SqT K H p ys/\Q (.ref p) H))):=by subst hK;exact q6z
theorem z8n(K:Ah)(hK:X.K=K):MtM X "str.join" (rJoin K):=by subst hK;exact z9s
theorem q2t{kk n:Nat}{u:TGs}(K:Ah)(hK:X.K=K)(hc:X.calm=true)(h:PGs X es u)(hn:(Ic es X.env).length=n:=by rfl)(hst:(Ic es X.env).findIdx? (·.1)=none:=by rfl):PG X (.Tuple es kk pos) (gTup K n u):=by subst hK;exact pg_tup hc h hn hst
theorem bm_k(K:Ah)(hK:X.K=K)(pa:Qa T)(slot:Slot T name idn)(hty:typeOf (.builtin idn)=pure (.type "method_descriptor"))(hm:MtR X idn r)(ho:PE X o to)(ha:PA X (e::es) t)(hbase:Gj o name X.env (eval o X.env)=eval o X.env:=by rfl)(hfew:((Eg cpos (Bc (e::es) X.env)).all (fun x => !x.1)&&(Lw cpos (Ip [] X.env)).all (fun x=>x.1.isSome)
   && decide ((e::es).length+([]:List Ub).length+(if ([]:List Ub).isEmpty then 0 else 1)<30))=true:=by rfl)(hline:(apos.endLine==cpos.line)=true:=by rfl)(hs:Bc (e::es) X.env=(false,eval e X.env)::Bc es X.env:=by rfl)(hplain:(Eg cpos (Bc es X.env)).any (·.1)=false:=by rfl):
  PE X (.Call (.Attribute o name apos) (e::es) [] cpos) (tBM K T r to t):=by subst hK;exact pe_bm pa slot hty hm ho ha hbase hfew hline hs hplain
theorem z6y(K:Ah)(hK:X.K=K)(pa:Qa T)(slot:Slot T name idn)(hty:typeOf (.builtin idn)=pure (.type "method_descriptor"))(hm:MtR X idn r)(ho:PE X o to)(hbase:Gj o name X.env (eval o X.env)=eval o X.env:=by rfl)(hline:(apos.endLine==cpos.line)=true:=by rfl):PE X (.Call (.Attribute o name apos) [] [] cpos) (tBM0 K T r to):=by subst hK;exact pe_bm0 pa slot hty hm ho hbase hline
theorem q2d(K:Ah)(hK:X.K=K)(ha:PE X a ta)(he:∀whole,isTrue a X.env whole=(do let v<-whole;Ls a.pos;Jw [v] (truthy v))):
  PT X a (fun σ H Q=>ta σ H fun x H'=>∃k,TruV K x H' k/\Q k H'):=by subst hK;exact z6o ha he
end
theorem q5d{lo:Int}{r:St}{Fin:List V->Hp->Prop}(Pv:Nat->List V->Hp->Prop)(h0:Pv 0 [] (upd H1 D (.lst [])))(hl:∀i ys H,Pv i ys H->H D=some (.lst ys))(hs:∀i ys H,i<n->Pv i ys H->te (some (.int (lo+i))::r) H fun v H4=>H4 D=some (.lst ys)/\ys.length<sizeLine/\Pv (i+1) (ys++[v]) (upd H4 D (.lst (ys++[v]))))(hd:∀ys H,Pv n ys H->Fin ys H):CompW (Itr lo n) (gName 0) tIf0 te (none::r) D Fin H1 :=
 z2b Pv h0 hl (fun i ys H h p=>(⟨q2c,iteT (hs i ys H h p)⟩:Keeps0 (none::r) (some (.int (lo+i))::r)/\if true=true then te (some (.int (lo+i))::r) H fun v H4=>H4 D=some (.lst ys)/\ys.length<sizeLine/\Pv (i+1) (ys++[v]) (upd H4 D (.lst (ys++[v]))) else Pv (i+1) ys H)) hd
theorem z3v{r:St}{Fin:List V->Hp->Prop}(Pv:Nat->List V->Hp->Prop)(h0:Pv 0 [] (upd H1 D (.lst [])))(hl:∀i ys H,Pv i ys H->H D=some (.lst ys))(hs:∀i ys H c,z.cps[i]?=some c->Pv i ys H->te (some (.str ⟨#[c]⟩)::r) H fun v H4=>H4 D=some (.lst ys)/\ys.length<sizeLine/\Pv (i+1) (ys++[v]) (upd H4 D (.lst (ys++[v]))))(hd:∀ys H,Pv z.length ys H->Fin ys H):CompW (Its z) (gName 0) tIf0 te (none::r) D Fin H1 :=
 q7d Pv h0 hl (fun i ys H c h p=>(⟨q2c,iteT (hs i ys H c h p)⟩:Keeps0 (none::r) (some (.str ⟨#[c]⟩)::r)/\if true=true then te (some (.str ⟨#[c]⟩)::r) H fun v H4=>H4 D=some (.lst ys)/\ys.length<sizeLine/\Pv (i+1) (ys++[v]) (upd H4 D (.lst (ys++[v]))) else Pv (i+1) ys H)) hd
theorem q6j{K:Ah}{r:St}{Fin:List V->Hp->Prop}(Pv:Nat->List V->Hp->Prop)(h0:Pv 0 [] (upd H1 D (.lst [])))(hl:∀i ys H,Pv i ys H->H D=some (.lst ys)/\SqL K H a xs)(hs:∀i ys H x,xs[i]?=some x->Pv i ys H->te (some x::r) H fun v H4=>H4 D=some (.lst ys)/\ys.length<sizeLine/\Pv (i+1) (ys++[v]) (upd H4 D (.lst (ys++[v]))))(hd:∀ys H,Pv xs.length ys H->Fin ys H):CompW (Itl K a) (gName 0) tIf0 te (none::r) D Fin H1 :=
 q4z Pv h0 hl (fun i ys H x h p=>(⟨q2c,iteT (hs i ys H x h p)⟩:Keeps0 (none::r) (some x::r)/\if true=true then te (some x::r) H fun v H4=>H4 D=some (.lst ys)/\ys.length<sizeLine/\Pv (i+1) (ys++[v]) (upd H4 D (.lst (ys++[v]))) else Pv (i+1) ys H)) hd
def tSeqJ(t u:TS):TS:=fun D σ H=>∃J:St->Hp->Prop,(∀σ' H',J σ' H'->u D σ' H')/\t { D with nx:=J } σ H
theorem q1j{X:Cx}{st:Stmt}{rest:List Stmt}{t u:TS}(h1:PS X st t)(h2:PSs X rest u):PSs X (st::rest) (tSeqJ t u):=by
 intro pins s σ H D I h;obtain⟨J,hJ,h⟩:=h;refine Nl (thn (h1 pins s σ H { D with nx:=J } I h) fun f s1 q=>?_);cases f with
 |next =>
  obtain⟨σ',H',I',q⟩:=q;exact h2 pins s1 σ' H' D I' (hJ σ' H' q)
 |ret v=>exact q
 |brk=>exact q
 |cont=>exact q
def tVJ(t:TE):TE:=fun σ H Q=>∃J:VK,(∀v H',J v H'->Q v H')/\t σ H J
theorem pe_j{X:Cx}{e:Expr}{t:TE}(h:PE X e t):PE X e (tVJ t):=by
 intro pins s σ H Q I hw;obtain⟨J,hJ,hw⟩:=hw;exact thn (h pins s σ H J I hw) fun u s' ⟨v,H',I',r,q⟩=>⟨v,H',I',r,hJ v H' q⟩
def tTJ(t:TT):TT:=fun σ H Q=>∃J:Bool->Hp->Prop,(∀b H',J b H'->Q b H')/\t σ H J
theorem pt_j{X:Cx}{e:Expr}{t:TT}(h:PT X e t):PT X e (tTJ t):=by
 intro pins s σ H Q I hw;obtain⟨J,hJ,hw⟩:=hw;exact thn (h pins s σ H J I hw) fun u s' ⟨H',I',q⟩=>⟨H',I',hJ u H' q⟩
theorem iteB{B:Prop}(hA:c=true->A)(hB:c=false->B):if c=true then A else B:=by grind
end L2
namespace TX
open PySem PySem.Spec PyProof.Rows L2
abbrev tl(x:Str):List Nat:=x.cps.toList
abbrev mk(l:List Nat):Str:=⟨l.toArray⟩
theorem q0s(l:List Nat):tl (mk l)=l:=by simp[tl,mk]
theorem q8g(x:Str):mk (tl x)=x:=by simp[tl,mk]
theorem ext(h:tl x=tl y):x=y:=ext_toList h
theorem len(x:Str):x.length=(tl x).length:=by simp[tl,Str.length]
theorem q4j(x y:Str):tl (x++y)=tl x++tl y:=by
 show(x.cps++y.cps).toList=_;simp[tl]
theorem q1b(x y:Str):(x++y).length=x.length+y.length:=by rw[len,len,len,q4j,Aj]
theorem get{i:Nat}(h:x.cps[i]?=some c):(tl x)[i]?=some c:=by simpa[tl] using h
theorem q5e(z:Str)(ts:List Str):Kl z ts=Lx z ts:=StrLaws.glued_eq_join z ts
theorem z9v:∀ts:List Str,tl (Kl (Ac "") ts)=(ts.map tl).flatten:=by
 intro ts;rw[q5e];induction ts with
 |nil=>rfl
 |cons a r ih =>
  cases r with
  |nil=>simp[Lx]
  |cons b r =>
   show tl (a++Ac "" ++ Lx (Ac "") (b::r))=_;rw[q4j,q4j,ih];have e:tl (Ac "")=[]:=by decide +kernel
   rw[e];simp
theorem z3w(cs:List Nat):Kl (Ac "") (cs.map fun c=>(⟨#[c]⟩:Str))=mk cs:=by
 apply ext;rw[z9v,q0s,Bj];induction cs with
 |nil=>rfl
 |cons c r ih=>rw[Ao,Mx,ih];rfl
theorem z6z(cs:List Nat):((cs.map fun c=>(⟨#[c]⟩:Str)).map (·.length)).sum=cs.length:=by
 induction cs with
 |nil=>rfl
 |cons c r ih=>rw[Ao,Ao,List.sum_cons,ih,Aw];show 1+_=_;lia
theorem z0n{j:Int}(h0:0<=j)(h1:j<=(tl x).length):Ra x none (some j)=mk ((tl x).take j.toNat):=by
 show Cw x none (some j)=_;rw[StrLaws.sliceText_to ⟨h0,h1⟩];simp[mk,tl]
theorem q6k{i:Int}(h0:0<=i)(h1:i<=(tl x).length):Ra x (some i) none=mk ((tl x).drop i.toNat):=by
 show Cw x (some i) none=_;rw[StrLaws.sliceText_from ⟨h0,h1⟩];rw[Cg];rw[Dj];lia
theorem z3x(x:Str)(c:Nat):(!(Dg x ⟨#[c]⟩ 0 x.length 1).isEmpty)=decide (c∈tl x):=StrLaws.found_one x c
theorem lower(h:∀c∈tl x,c<128):tl (Txt.lower x)=(tl x).map lo1:=by
 rw[lower_ascii h];simp[tl]
theorem small(h:n<=1000000):n<=sizeLine:=by rw[Ea];lia
theorem small'(h:n<=1000000):n<sizeLine:=by rw[Ea];lia
end TX
namespace L2
open PySem PySem.Spec PyProof.Rows TX
theorem q1y{α:Type}{l:List α}{x:α}(h:l[i]?=some x):l.take (i+1)=l.take i++[x]:=by
 rw[Ly,h];rfl
open PySem PySem.Spec PyProof.Rows
section
variable{prog:Program}{w:World}{K:Ah}{A:Around}{E:Value->Af->Prop}{s:Af}{J:It}{st:Nat->Heap->Prop}{e it:Addr}{H:Hp}
theorem z2c{i:Nat}{Q:Value->Af->Prop}(S:Srce prog w K J it st)(hh:A.handled=none)(vw:Vw K H s.heap)(nH:H it=none)(nK:K.lookup it=none)(he:IsEnum s.heap e it i old)(hst:st i s.heap)(go:J.go i H)(hne:e≠it)(hQ:∀u x h' tk,RelV x u->J.yld i H x H->IsEnumOut h' e it ((i:Int)+1) u s.heap.objs.size->st (i+1) h'->h'.get? s.heap.objs.size=some { cls:=.type "tuple",data:=.seq #[.int i tk,u] }->h'.objs.size=s.heap.objs.size+1 ->
   (∀b o,b≠e->b≠it->s.heap.get? b=some o->h'.get? b=some o)->Q (.ref s.heap.objs.size) { s with heap:=h',toks:=tk+1 }):
  wpAny (model prog w) A (Dw.«enumerate.__next__» ⟨[.ref e],[]⟩) (fun fin s'=>∃v,fin=.done (.ret v)/\Q v s') E s:=by
 obtain⟨hp,g,d,tk₀,os⟩:=s;show wpAny _ _ (field (.ref e) 2 >>= _) _ _ _;refine Ab (Ca he rfl rfl ?_);refine Ab (S.item _ i _ H _ _ hh vw nH nK hst go fun u x h₁ tk rx yx st₁ hs₁=>?_);have he₁:=(hs₁.2 e hne).trans he;refine Ab (Ca he₁ rfl rfl ?_);refine Ab (Ca he₁ rfl rfl ?_);refine Ab (wpAny_mkInt ?_);refine Ab (Gf he₁ (by simp) fun h₂ he₂ hs₂=>?_);refine Ab (Gf he₂ (by simp) fun h₃ he₃ hs₃=>?_);refine Ab (Pf ?_);have he₄:IsEnum (h₃.push { cls:=.type "tuple",data:=.seq #[.int i tk,u] }) e it ((i:Int)+1) old:=Ag _ he₃;generalize hh₄:h₃.push { cls:=.type "tuple",data:=.seq #[.int i tk,u] }=h₄ at he₄;have hsz:h₃.objs.size=hp.objs.size:=by rw[hs₃.1,hs₂.1,hs₁.1]
 have hel:=Al he;have ht₄:h₄.get? hp.objs.size=some { cls:=.type "tuple",data:=.seq #[.int i tk,u] }:=by rw[<- hh₄,<- hsz];exact As _ rfl
 have hz₄:h₄.objs.size=hp.objs.size+1:=by rw[<- hh₄,Gp,hsz]
 have hk₄:∀b o,b≠e->b≠it->hp.get? b=some o->h₄.get? b=some o:=fun b o hbe hbi hb=>by
  rw[<- hh₄];exact Ag _ (hs₃.extBut b o hbe (hs₂.extBut b o hbe (hs₁.extBut b o hbi hb)))
 have hit₄:st (i+1) h₄:=S.keep _ _ _ st₁ fun o y=>by
  rw[<- hh₄];exact Ag _ (hs₃.extBut it o hne.symm (hs₂.extBut it o hne.symm y))
 rw[hsz];refine Ab ?_;refine Ab (Ca he₄ rfl rfl (Ae ?_));refine Ab (Lb ?_);refine Ab (Ca he₄ rfl rfl ?_);refine Ab (Gf he₄ (by simp) fun h₅ he₅ hs₅=>?_);refine Ab ?_;refine Ab (Gf he₅ (by simp) fun h₆ he₆ hs₆=>?_);refine Gf he₆ (by simp) fun h₇ he₇ hs₇=>?_;have up:=fun b o hb y=>hs₇.extBut b o hb (hs₆.extBut b o hb (hs₅.extBut b o hb y));refine Ab (wpAny_letGo (Ae ⟨_,rfl,hQ u x h₇ tk rx yx he₇ (S.keep _ _ _ hit₄ fun o y=>up _ o hne.symm y) (up _ _ (Fe hel) ht₄) ?_ fun b o hbe hbi hb=>up b o hbe (hk₄ b o hbe hbi hb)⟩));rw[hs₇.1,hs₆.1,hs₅.1,hz₄]
end
def Ite(J:It):It:=⟨fun i H=>J.go i H,fun i H x H'=>∃T y,H T=none/\J.yld i H y H/\x=.ref T/\H'=upd H T (.tup [.int i,y]),fun i H=>J.stop i H⟩
theorem z3y{K:Ah}{st:Nat->Heap->Prop}(hne:e≠it)(S:Srce P w K J it st):
  Turn P w K (.Tuple elts kk pos) (Ite J) [e,it] e (fun i h=>(∃old,IsEnum h e it i old)/\st i h) where
 mem:=by simp
 obj:=fun i h hs b hb=>by
  obtain⟨⟨old,he⟩,h1⟩:=hs;simp only[Az,Km,or_false] at hb;rcases hb with rfl|rfl
  ·grind
  ·exact S.obj i h h1
 keep:=fun i h h' hs k=>by
  obtain⟨⟨old,he⟩,h1⟩:=hs;exact⟨⟨old,k e (by simp) _ he⟩,S.keep _ _ _ h1 fun o y=>k it (by simp) o y⟩
 item:=by
  intro X hP hw hK hc i pins s σ H E I hf hs hg;subst hP hw hK;obtain⟨⟨old,he⟩,h1⟩:=hs;have hT:s.TypeIs (.ref e) "enumerate" := ⟨_,he,rfl⟩
  refine Ab (En (Dh hT Hw
   (Co Hw hT Ot
    (z2c S (I.ok.hd hc) I.vw (hf it (by simp)).1 ((hf it (by simp)).noK I) he h1 hg hne fun u x h' tk rx yx a1 a2 a3 a4 a5=>Ae ?_) (Ob _))))
  refine⟨_,rfl,?_⟩;refine wpAny_letOwnedTupleGo_enum a1 fun h2 he2 hs2=>?_;have k2:∀c o,c∉[e,it]->s.heap.get? c=some o->h2.get? c=some o:=fun c o hcn y=>by
   simp only[Az,Km,or_false,not_or] at hcn;exact hs2.extBut _ _ hcn.1 (a5 c o hcn.1 hcn.2 y)
  have elt:=Al he;have ilt:it<s.heap.objs.size:=by obtain⟨o,y,_⟩:=S.obj _ _ h1;exact Al y
  have I1:Inv X pins σ H { s with heap:=h2,toks:=tk+1 }:=I.turnedL k2 hf;have FT:=I.fpOk (Ak _) I.fresh;have hT2:h2.get? s.heap.objs.size=some { cls:=.type "tuple",data:=.seq #[.int i tk,u] }:=hs2.extBut _ _ (Fe elt) a3;have I2:Inv X pins σ (upd H s.heap.objs.size (.tup [.int i,x])) { s with heap:=h2,toks:=tk+1 } :=
   I1.track I.sz FT ⟨by show 2<=sizeLine;decide,[.int i tk,u],.cons ⟨_,rfl⟩ (.cons rx .nil),⟨_,hT2,rfl,_,rfl⟩⟩
  refine⟨.ref s.heap.objs.size,_,I2,rfl,⟨_,x,I.fresh,yx,rfl,rfl⟩,⟨⟨u,by simpa using he2⟩,S.keep _ _ _ a2 fun o y=>hs2.extBut _ _ hne.symm y⟩,fun b hb=>?_⟩;have hb2:=(hf b hb).1;rw[q0e]
  ·exact hb2
  ·grind
 done:=by
  intro X hP hw hK hc i pins s σ H E I hf hs hg;subst hP hw hK;obtain⟨⟨old,he⟩,h1⟩:=hs;have hT:s.TypeIs (.ref e) "enumerate" := ⟨_,he,rfl⟩
  refine Ab (En (Dh hT Hw
   (Co Hw hT Ot ?_ (Ob _))))
  show wpAny _ _ (field (.ref e) 2 >>= _) _ _ _;refine Ab (Ca he rfl rfl ?_);refine Ab (S.done _ i _ H _ _ (I.ok.hd hc) I.vw (hf it (by simp)).1 ((hf it (by simp)).noK I) h1 hg fun h' x he' hx'=>?_);obtain⟨o,ho,hcl⟩:=hx';refine Ab (Nw ⟨o,ho,hcl⟩ Pg ?_);refine Ae ⟨rfl,I.turnedL (t':=s.toks) (fun c o hcn y=>?_) hf⟩;simp only[Az,Km,or_false,not_or] at hcn;exact he' c o hcn.2 y
 self:=fun _ _ _ _ _ hs h=>by
  obtain⟨⟨old,he⟩,_⟩:=hs;exact Ru he h
section
variable{X:Cx}{elts:List Expr}{kk:Nat}{tpos:Pos}
theorem q8h{σ:St}{st:Nat->Heap->Prop}(I:Inv X pins σ H s)(S:Srce X.prog X.w X.K J s.heap.objs.size st)(he:IsEnum h' (s.heap.objs.size+1) s.heap.objs.size 0 .none)(h1:st 0 h')(hk:∀c o,s.heap.get? c=some o->h'.get? c=some o)(q:R (Ite J) H):
  wpAny (model X.prog X.w) X.A (Pa (.ref (s.heap.objs.size+1))) (PIE X pins σ (.Tuple elts kk tpos) R) E { s with heap:=h' }:=by
 refine Ru he ?_;refine⟨_,_,_,_,H,rfl,I.kept (t':=s.toks) hk,z3y (show(s.heap.objs.size+1:Nat)≠s.heap.objs.size by lia) S,⟨⟨_,he⟩,h1⟩,fun b hb=>?_,q⟩;have hb':s.heap.objs.size<=b:=by
  simp only[Az,Km,or_false] at hb;rcases hb with rfl|rfl
  ·exact Ir _
  ·exact Ak _
 exact I.fpOk hb' (I.hok.fresh hb')
def iEnum(K:Ah)(ta:TA):TI:=fun σ H R=>ta σ H fun vs H1=>(∃z,vs=[.str z]/\R (Ite (Its z)) H1)\/∃a xs,vs=[.ref a]/\SqL K H1 a xs/\R (Ite (Itl K a)) H1
theorem z9w(hg:Gl X "enumerate")(hm:X.mg "enumerate" = none)(ha:PA X [a] ta)(hs:Bc [a] X.env=[(false,eval a X.env)]:=by rfl):
  PI X (.Tuple elts kk tpos) (.Call (.Name "enumerate" p) [a] [] pos) (iEnum X.K ta):=by
 intro pins s σ H R I h;refine Call_ (q7s I hg hm (by decide +kernel:Hr "enumerate" = some (.type "enumerate")) (Ia (thn (ha pos pins s σ H _ I h) fun us s1 ⟨vs,H1,I1,r1,q1⟩=>?_) hs rfl));rcases q1 with⟨z,e,q⟩|⟨l,xs,e,hq,q⟩
 ·subst e;obtain⟨u,rfl,t,rfl⟩:=vals1 r1;exact call_enumerate_str fun h' he hi hz hk=>q8h I1 (z6x _ z t) he hi hk q
 ·subst e;obtain⟨u,rfl,r⟩:=vals1 r1;cases r;obtain⟨its,rv,pl,_⟩:=I1.list hq;exact call_enumerate_list pl.isList fun h' he hi hz hk=>q8h I1 (z3r l _) he hi hk q
theorem z0o{a:Expr}{ta:TA}{p pos:Pos}(K:Ah)(hK:X.K=K)(hg:Gl X "enumerate")(hm:X.mg "enumerate" = none)(ha:PA X [a] ta)(hs:Bc [a] X.env=[(false,eval a X.env)]:=by rfl):
  PI X (.Tuple elts kk tpos) (.Call (.Name "enumerate" p) [a] [] pos) (iEnum K ta):=by subst hK;exact z9w hg hm ha hs
end
end L2
namespace K
open PySem L2 TX
def NSs:Str:=Ac "abcdefghijklmnopqrstuvwxyzABCDEFGHIJKLMNOPQRSTUVWXYZ0123456789-_."
def GSs:Str:=Ac "?*#@"
abbrev NS:List Nat:=tl NSs
abbrev GS:List Nat:=tl GSs
inductive Pt where
 |tx (l:List Nat)
 |gp (c:Nat)
namespace Pt
def fl:Pt->List Nat
 |tx l=>l
 |gp c=>[c]
def isG:Pt->Bool
 |tx _=>false
 |gp _=>true
def ok:Pt->Prop
 |tx l=>l≠[]/\∀c∈l,c∈NS
 |gp c=>c∈GS
def word:Pt->Str
 |tx _=>Ac "text"
 |gp _=>Ac "gap"
def vs(p:Pt):List V:=[.str p.word,.str (mk p.fl)]
def dat(p:Pt):PyData:=.tuple [.str p.word,.str (mk p.fl)]
end Pt
def tp(t:List Nat):List Pt:=if t=[] then[] else[.tx t]
def TKeep(H H':Hp):Prop:=∀T xs,H T=some (.tup xs)->H' T=some (.tup xs)
theorem TKeep.refl(H:Hp):TKeep H H:=fun _ _ h=>h
theorem TKeep.trans(a:TKeep H H1)(b:TKeep H1 H2):TKeep H H2:=fun T xs h=>b T xs (a T xs h)
theorem TKeep.new(k:TKeep H H')(h:H' p=none):TKeep H (upd H' p o):=fun T xs e=>by rw[q0e (q0n (k T xs e) h)];exact k T xs e
theorem TKeep.lst{H H':Hp}{p:Addr}{ys zs:List V}(k:TKeep H H')(h:H' p=some (.lst ys)):TKeep H (upd H' p (.lst zs)):=fun T xs e=>by
 rw[q0e (z2s (k T xs e) h (by intro z;cases z))];exact k T xs e
theorem Fd.tk(F:FeedAt H a b)(x:Fd a b H H'):TKeep H H':=fun T xs e=>by
 obtain⟨i,j,h⟩:=F.fa;exact x.at e (z2s e h (by intro z;cases z))
theorem Same.tk(s:Same H H'):TKeep H H':=fun T xs e=>s _ _ e
theorem z7a(h:∀c∈l,c<128):Jp (mk l)=true:=by
 unfold Jp;rw[Rb];intro c hc;have:=h c (by simpa[mk] using hc);simp;lia
theorem Pt.dt{p:Pt}(h:H T=some (.tup p.vs)):Dt K H (.ref T) p.dat :=
 .tup (SqT.of h) (.cons (.str _) (.cons (.str _) .nil))
end K
namespace L2
open PySem PySem.Spec PyProof.Rows
section
variable{κ:Type}[DecidableEq κ]
def valV(kvs:List (κ×V))(k:κ):Option V:=(kvs.find? fun kv=>decide (kv.1=k)).map (·.2)
def putK(kvs:List (κ×V))(k:κ)(v:V):List (κ×V) :=
 if (kvs.any fun kv=>decide (kv.1=k))=true then kvs.map (fun kv=>if kv.1=k then(kv.1,v) else kv) else kvs++[(k,v)]
def dropK(kvs:List (κ×V))(k:κ):List (κ×V):=kvs.filter fun kv=>decide (kv.1≠k)
theorem q1g{p:κ×V}(e:p.1=k):valV (p::r) k=some p.2:=by simp[valV,Hf,e]
theorem q1e{p:κ×V}(e:¬p.1=k):valV (p::r) k=valV r k:=by simp[valV,Hf,e]
theorem q3o(k:κ):∀kvs:List (κ×V),(kvs.any fun kv=>decide (kv.1=k))=(valV kvs k).isSome
 |[]=>rfl
 |p::r=>by
  rw[Mp];by_cases e:p.1=k
  ·simp only[q1g e,decide_eq_true e,Bool.true_or,Option.isSome_some]
  ·rw[q1e e,decide_eq_false e,Bool.false_or];exact q3o k r
theorem z0p(k j:κ)(y:V):∀kvs:List (κ×V),valV (kvs.map fun kv=>if kv.1=k then(kv.1,y) else kv) j=(valV kvs j).map fun x=>if j=k then y else x
 |[]=>rfl
 |p::r=>by
  have ih:=z0p k j y r;rw[Ao];by_cases h:p.1=k
  ·rw[if_pos h];by_cases e:p.1=j
   ·rw[q1g (p:=(p.1,y)) e,q1g e,Iz,if_pos (e.symm.trans h)]
   ·rw[q1e (p:=(p.1,y)) e,q1e e,ih]
  ·rw[if_neg h];by_cases e:p.1=j
   ·rw[q1g e,q1g e,Iz,if_neg (fun z=>h (e.trans z))]
   ·rw[q1e e,q1e e,ih]
theorem q8i(k j:κ)(y:V):∀kvs:List (κ×V),valV kvs k=none->valV (kvs++[(k,y)]) j=if j=k then some y else valV kvs j
 |[],_=>by
  by_cases e:k=j
  ·rw[if_pos e.symm];exact q1g (p:=(k,y)) e
  ·rw[if_neg (fun z=>e z.symm)];exact q1e (p:=(k,y)) e
 |p::r,hn=>by
  rw[List.cons_append];have hk:¬p.1=k:=fun z=>by rw[q1g z] at hn;cases hn
  rw[q1e hk] at hn;have ih:=q8i k j y r hn;by_cases e:p.1=j
  ·rw[q1g e,q1g e,if_neg (fun z=>hk (e.trans z))]
  ·rw[q1e e,q1e e,ih]
theorem z7b(kvs:List (κ×V))(k j:κ)(y:V):valV (putK kvs k y) j=if j=k then some y else valV kvs j:=by
 unfold putK;by_cases a:(kvs.any fun kv=>decide (kv.1=k))=true
 ·rw[if_pos a,z0p];rw[q3o] at a;by_cases e:j=k
  ·obtain⟨x,hx⟩:=Nr.mp a;rw[if_pos e,e,hx,Iz,if_pos rfl]
  ·simp_all
 ·rw[if_neg a];refine q8i k j y kvs ?_;rw[q3o] at a;cases q:valV kvs k with
  |none=>rfl
  |some x=>grind
theorem q1w(kvs:List (κ×V))(k:κ)(v:V):(putK kvs k v).length<=kvs.length+1:=by
 unfold putK;split
 ·grind
 ·grind
theorem z7c{kvs:List (κ×V)}(v:V)(h:valV kvs k=none):putK kvs k v=kvs++[(k,v)]:=by
 unfold putK;rw[q3o,h];exact if_neg (by decide)
theorem RelO.isSome_eq(r:RelO o u):o.isSome=u.isSome:=by
 cases o with
 |none=>cases u with
  |none=>rfl
  |some _=>exact(show False from r).elim
 |some _=>cases u with
  |none=>exact(show False from r).elim
  |some _=>rfl
theorem RelO.getD(r:RelO o u)(rd:RelV d d'):RelV (o.getD d) (u.getD d'):=by
 cases o with
 |none=>cases u with
  |none=>exact rd
  |some _=>exact(show False from r).elim
 |some _=>cases u with
  |none=>exact(show False from r).elim
  |some _=>exact r
theorem KV.val(r:KV kvs vs)(k:κ):RelO (valV kvs k) (valueAt vs k):=by
 induction r with
 |nil=>exact True.intro
 | @cons p q ps qs h t ih =>
  obtain⟨h1,h2⟩:=h;by_cases e:p.1=k
  ·have e':q.1=k:=h1.symm.trans e;have b:valueAt (q::qs) k=some q.2:=by simp[valueAt,Hf,e']
   rw[q1g e,b];exact h2
  ·have e':¬q.1=k:=fun z=>e (h1.trans z);have b:valueAt (q::qs) k=valueAt qs k:=by simp[valueAt,Hf,e']
   rw[q1e e,b];exact ih
theorem KV.any(r:KV kvs vs)(k:κ):(kvs.any fun kv=>decide (kv.1=k))=vs.any fun kv=>decide (kv.1=k):=by
 induction r with
 |nil=>rfl
 |cons h t ih=>simp_all
theorem KV.repl(r:KV kvs vs)(k:κ)(ry:RelV y u):
  KV (kvs.map fun kv=>if kv.1=k then(kv.1,y) else kv) (vs.map fun kv=>if kv.1=k then(kv.1,u) else kv):=by
 induction r with
 |nil=>exact .nil
 | @cons p q ps qs h t ih =>
  refine .cons ?_ ih;by_cases e:p.1=k
  ·simp_all
  ·simp_all
theorem KV.put(r:KV kvs vs)(k:κ)(ry:RelV y u):KV (putK kvs k y) (stored vs k u):=by
 unfold putK stored;rw[r.any k];by_cases e:(vs.any fun kv=>decide (kv.1=k))=true
 ·rw[if_pos e,if_pos e];exact r.repl k ry
 ·rw[if_neg e,if_neg e];exact Cz.snoc r ⟨rfl,ry⟩
theorem KV.drop(r:KV kvs vs)(k:κ):KV (dropK kvs k) (without vs k):=by
 unfold dropK without;induction r with
 |nil=>exact .nil
 | @cons p q ps qs h t ih =>
  obtain⟨h1,h2⟩:=h;rw[Nx,Nx];by_cases e:p.1=k
  ·simp_all
  ·have e':¬q.1=k:=fun z=>e (h1.trans z);have a:decide (p.1≠k)=true:=by simp[e]
   have b:decide (q.1≠k)=true:=by simp[e']
   rw[if_pos a,if_pos b];exact .cons ⟨h1,h2⟩ ih
theorem KV.keys{kvs:List (κ×V)}(r:KV kvs vs):kvs.map (·.1)=vs.map (·.1):=by
 induction r with
 |nil=>rfl
 |cons h t ih=>grind
theorem KV.length{kvs:List (κ×V)}(r:KV kvs vs):kvs.length=vs.length:=Fs r
end
theorem z7d(r:RelV (kV k) u):(mixKind P w).is k u=true:=by
 cases k with
 |inl i=>obtain⟨t,e⟩:=(show ∃t,u=Value.int i t from r);subst e;exact q9h P w i t
 |inr x=>obtain⟨t,e⟩:=(show ∃t,u=Value.str x t from r);subst e;exact q9i P w x t
theorem q8j{P:Program}{w:World}:∀{ks:List Key} {us:List Value},Vals (ks.map kV) us->ItemsAre (mixKind P w) ks us
 |[],_,r=>by rw[List.map_nil] at r;cases r;exact .nil
 |k::ks,_,r=>by
  rw[Ao] at r;cases r with
  |cons h t=>exact .cons (z7d h) (q8j t)
abbrev KT(H:Hp):List (List Key×V)->List (List Key×Addr×Value)->Prop:=Cz fun p q=>p.1=q.1/\H q.2.1=some (.tup (p.1.map kV))/\RelV p.2 q.2.2
theorem KT.val(r:KT H kvs xs)(k:List Key):RelO (valV kvs k) ((atKey xs k).map (·.2)):=by
 induction r with
 |nil=>exact True.intro
 | @cons p q ps qs h t ih =>
  obtain⟨h1,_,h2⟩:=h;by_cases e:p.1=k
  ·have e':q.1=k:=h1.symm.trans e;have b:atKey (q::qs) k=some q.2:=by simp[atKey,Hf,e']
   rw[q1g e,b];exact h2
  ·have e':¬q.1=k:=fun z=>e (h1.trans z);have b:atKey (q::qs) k=atKey qs k:=by simp[atKey,Hf,e']
   rw[q1e e,b];exact ih
theorem KT.repl(r:KT H kvs xs)(k:List Key)(ry:RelV y u):
  KT H (kvs.map fun kv=>if kv.1=k then(kv.1,y) else kv) (xs.map (putAt k u)):=by
 induction r with
 |nil=>exact .nil
 | @cons p q ps qs h t ih =>
  refine .cons ?_ ih;unfold putAt;by_cases e:p.1=k
  ·simp_all
  ·simp_all
theorem KT.put(r:KT H kvs xs)(k:List Key)(hb:H b=some (.tup (k.map kV)))(ry:RelV y u):
  KT H (putK kvs k y) (storedH xs k b u):=by
 have e:(kvs.any fun kv=>decide (kv.1=k))=(atKey xs k).isSome:=by
  rw[q3o,(r.val k).isSome_eq,Rx]
 unfold putK storedH;rw[e];by_cases q:(atKey xs k).isSome=true
 ·rw[if_pos q,if_pos q];exact r.repl k ry
 ·rw[if_neg q,if_neg q];exact Cz.snoc r ⟨rfl,hb,ry⟩
theorem KT.keeps(r:KT H kvs xs)(ht:∀b ys,H b=some (.tup ys)->H' b=some (.tup ys)):KT H' kvs xs :=
 Cz.mapP r fun _ _ z=>⟨z.1,ht _ _ z.2.1,z.2.2⟩
section
variable{P:Program}{w:World}{H:Hp}{h:Heap}{a:Addr}
theorem rd_of(ok:HOk P w H h)(e:Rd H a u):ObjOk P w H h a u:=e.ok ok
theorem z7e(ok:HOk P w H h)(e:Rd H a (.dK kvs)):kvs.length<=sizeLine/\(a==Fb)=false/\∃vs,KV kvs vs/\h.DictOf (mixKind P w) a vs :=
 show ObjOk P w H h a (.dK kvs) from rd_of ok e
theorem dk_of(ok:HOk P w H h)(e:H a=some (.dK kvs)):kvs.length<=sizeLine/\(a==Fb)=false/\∃vs,KV kvs vs/\h.DictOf (mixKind P w) a vs:=z7e ok (.inl e)
theorem q8k(ok:HOk P w H h)(e:H a=some (.tup (ks.map kV))):(Jc (mixKind P w)).is h ks a:=by
 obtain⟨_,its,r,o,h1,h2,n,h3⟩:=(show ObjOk P w H h a (.tup (ks.map kV)) from ok a _ e)
 exact⟨o,its.toArray,n,h1,h2,h3,by simpa using q8j r⟩
theorem z7f(ok:HOk P w H h)(e:Rd H a (.dT kvs)):kvs.length<=sizeLine/\(a==Fb)=false /\
  ∃xs,KT H kvs xs/\h.DictOfH (Jc (mixKind P w)) a xs:=by
 obtain⟨z,y,xs,r,o,es,ep,h1,h2,h3,h4,h5⟩:=(show ObjOk P w H h a (.dT kvs) from rd_of ok e)
 refine⟨z,y,xs,r,o,es,ep,h1,h2,h3,h4,fun x hx=>?_,h5⟩;have all:∀{l:List (List Key×V)} {m:List (List Key×Addr×Value)},KT H l m->∀x∈m,(Jc (mixKind P w)).is h x.1 x.2.1:=by
  intro l m q;induction q with
  |nil=>grind
  | @cons p q ps qs hq t ih =>
   intro x hx;rcases Az.mp hx with e|hx
   ·subst e;exact q8k ok (by rw[<- hq.1];exact hq.2.1)
   ·exact ih x hx
 exact all r x hx
theorem dt_of(ok:HOk P w H h)(e:H a=some (.dT kvs)):kvs.length<=sizeLine/\(a==Fb)=false /\
  ∃xs,KT H kvs xs/\h.DictOfH (Jc (mixKind P w)) a xs:=z7f ok (.inl e)
end
def DGet(H:Hp)(a:Addr)(y:V)(r:Option V):Prop :=
 (∃kvs k,Rd H a (.dK kvs)/\y=kV k/\r=valV kvs k)\/∃kvs k b,Rd H a (.dT kvs)/\y=.ref b/\H b=some (.tup (k.map kV))/\r=valV kvs k
def DPut(H:Hp)(a:Addr)(y v:V)(H':Hp):Prop :=
 (∃kvs k,H a=some (.dK kvs)/\y=kV k/\kvs.length<sizeLine/\H'=upd H a (.dK (putK kvs k v))) \/
 ∃kvs k b,H a=some (.dT kvs)/\y=.ref b/\H b=some (.tup (k.map kV))/\kvs.length<sizeLine/\H'=upd H a (.dT (putK kvs k v))
theorem DGet.k{k:Key}(e:H a=some (.dK kvs)):DGet H a (kV k) (valV kvs k):=.inl ⟨kvs,k,.inl e,rfl,rfl⟩
theorem DGet.t{k:List Key}(e:H a=some (.dT kvs))(eb:H b=some (.tup (k.map kV))):DGet H a (.ref b) (valV kvs k):=.inr ⟨kvs,k,b,.inl e,rfl,eb,rfl⟩
theorem DPut.k{k:Key}(e:H a=some (.dK kvs))(hl:kvs.length<sizeLine):DPut H a (kV k) v (upd H a (.dK (putK kvs k v))):=.inl ⟨kvs,k,e,rfl,hl,rfl⟩
theorem DPut.t{k:List Key}(e:H a=some (.dT kvs))(eb:H b=some (.tup (k.map kV)))(hl:kvs.length<sizeLine):
  DPut H a (.ref b) v (upd H a (.dT (putK kvs k v))):=.inr ⟨kvs,k,b,e,rfl,eb,hl,rfl⟩
section
variable{X:Cx}{pins:List (Addr×Obj)}{σ:St}{H:Hp}{s:Af}{a:Addr}{y v:V}{u r:Value}{o:Option V}{A:Around}{E:Value->Af->Prop}
theorem Inv.big(I:Inv X pins σ H s):Fb<s.heap.objs.size:=by
 have h:=(I.mod.glob.keeps I.bk).lt;exact Nat.lt_trans (by decide) h
theorem z3z(hu:A.units+1<cLine)(I:Inv X pins σ H s)(g:DGet H a y (some v))(ry:RelV y u)(h:∀w' s',Inv X pins σ H s'->RelV v w'->Q w' s'):
  wpAny (model X.prog X.w) A (getItem (.ref a) u) Q E s:=by
 rcases g with⟨kvs,k,e,ey,l⟩|⟨kvs,k,b,e,ey,eb,l⟩
 ·subst ey;obtain⟨z,hd,vs,rel,dd⟩:=z7e I.hok e;obtain⟨w',hw,rw'⟩:=RelO.some_of (by rw[l];exact rel.val k);exact wpAny_getItem_of (z7d ry) dd.mapOf hw (h w' _ (I.tok _) rw')
 ·subst ey;cases(show u=Value.ref b from ry);obtain⟨z,hd,xs,rel,dd⟩:=z7f I.hok e;obtain⟨w',hw,rw'⟩:=RelO.some_of (by rw[l];exact rel.val k);obtain⟨p,hp,hp2⟩:=Ci.mp hw;refine wpAny_getItem_heap (Mh hu) (q8k I.hok eb) dd hp ?_;rw[hp2];exact h w' _ (I.tok _) rw'
theorem z9x(hu:A.units+1<cLine)(I:Inv X pins σ H s)(g:DGet H a y o)(ry:RelV y u)(h:∀s',Inv X pins σ H s'->Q (.bool (!o.isSome)) s'):
  wpAny (model X.prog X.w) A (Bs .NotIn u (.ref a)) Q E s:=by
 rcases g with⟨kvs,k,e,ey,l⟩|⟨kvs,k,b,e,ey,eb,l⟩
 ·subst ey;obtain⟨z,hd,vs,rel,dd⟩:=z7e I.hok e;refine wpAny_notIn_of (z7d ry) hd dd.mapOf ?_;rw[<- (rel.val k).isSome_eq,<- l];exact h _ (I.tok _)
 ·subst ey;cases(show u=Value.ref b from ry);obtain⟨z,hd,xs,rel,dd⟩:=z7f I.hok e;refine wpAny_notIn_heap (Mh hu) (q8k I.hok eb) hd dd ?_;have q:=(rel.val k).isSome_eq;rw[Rx] at q;rw[<- q,<- l];exact h _ (I.tok _)
theorem q9n(I:Inv X pins σ H s)(mu:Mut (H a))(hs:Ge a s.heap h')(he:∃q,h'.get? a=some q)(new:ObjOk X.prog X.w (upd H a ob) h' a ob):
  Inv X pins σ (upd H a ob) { s with heap:=h',toks:=t' } :=
 I.write mu (.inl rfl) (fun b q hb z=>(hs.2 b hb).trans z) he new
theorem dk_new(z:kvs.length<=sizeLine)(hd:(a==Fb)=false)(rel:KV kvs vs)(dd:h'.DictOf (mixKind P w) a vs):
  ObjOk P w H' h' a (.dK kvs):=⟨z,hd,vs,rel,dd⟩
theorem z4a(hu:A.units+1<cLine)(I:Inv X pins σ H s)(g:DPut H a y v H')(ry:RelV y u)(rv:RelV v r)(h:∀s',Inv X pins σ H' s'->Q () s'):
  wpAny (model X.prog X.w) A (setItem (.ref a) u r) Q E s:=by
 rcases g with⟨kvs,k,e,ey,l,eH⟩|⟨kvs,k,b,e,ey,eb,l,eH⟩
 ·subst ey eH;obtain⟨z,hd,vs,rel,dd⟩:=dk_of I.hok e;have hz:vs.length<=sizeLine:=by rw[<- rel.length];exact z
  have hl:(putK kvs k v).length<=sizeLine:=by have:=q1w kvs k v;lia
  refine wpAny_setItem_pairs (z7d ry) dd fun h' dd' hs=>h _ ?_;have he:∃q,h'.get? a=some q:=let ⟨q,_,_,hq,_⟩:=dd';⟨q,hq⟩;exact q9n I (by rw[e];exact True.intro) hs he (dk_new hl hd (rel.put k rv) dd')
 ·subst ey eH;cases(show u=Value.ref b from ry);obtain⟨z,hd,xs,rel,dd⟩:=dt_of I.hok e;have hz:xs.length<=sizeLine:=by rw[<- Fs rel];exact z
  have hl:(putK kvs k v).length<=sizeLine:=by have:=q1w kvs k v;lia
  refine wpAny_setItem_heap (Mh hu) (q8k I.hok eb) dd fun h' dd' hs=>h _ ?_;obtain⟨q,es,ep,hq,h2,h3,h4,_,h5⟩:=dd';refine q9n I (by rw[e];exact True.intro) hs ⟨q,hq⟩ ⟨hl,hd,_,(rel.put k eb rv).keeps fun c ys ec=>?_,q,es,ep,hq,h2,h3,h4,h5⟩;rw[q0e (z2s ec e (fun z=>nomatch z))];exact ec
end
def NoSl(i:Expr):Prop:=∀ov iv,Om i false ov iv=operate [ov,iv] (getItem ov iv)
theorem z9y{id:String}(hl:Nh (.type T) "__getitem__" = pure (some (.builtin id)))(hs:NoSl slice)(h:wpAny (model prog w) A (eval value env) (fun o s₁=>wpAny (model prog w) A (eval slice env) (fun i s₂=>s₂.TypeIs o T/\wpAny (model prog w) A (getItem o i) Q E s₂) E s₁) E s):
  wpAny (model prog w) A (eval (.Subscript value slice pos) env) Q E s:=by
 refine Tf (Bp h (fun o s₁ h₁=>Bp h₁ (fun i s₂ h₂=>?_) fun _ _ x=>x) fun _ _ x=>x);obtain⟨hT,h₂⟩:=h₂;refine Ab ?_;refine Ab (wpAny_specialOf hT hl ?_);have fin:wpAny (model prog w) A (Om slice false o i) (fun r s₃=>wpAny (model prog w) A (letTemporaryGo value o r >>= fun _=>pure r) Q E s₃) E s₂:=by
  rw[hs o i];exact wpAny_operating (Bp h₂ (fun r s₃ h₃=>Ab (wpAny_letTemporaryGo (Ae h₃))) fun _ _ x=>x)
 first
  |exact Ae (Ab fin)
  |exact Ab (Ae (Ab fin))
  |exact Ab fin
theorem q9o{σ:St}(I:Inv X pins σ H s)(g:DGet H a y o):s.TypeIs (.ref a) "dict" := by
 rcases g with⟨kvs,k,e,_,_⟩|⟨kvs,k,b,e,_,_,_⟩
 ·obtain⟨_,_,vs,_,dd⟩:=z7e I.hok e;exact dd.typeIs
 ·obtain⟨_,_,xs,_,dd⟩:=z7f I.hok e;exact dd.typeIs
def tDGet(td ty:TE):TE:=fun σ H Q=>td σ H fun x H1=>ty σ H1 fun y H2=>∃a v,x=.ref a/\DGet H2 a y (some v)/\Q v H2
def tDNotIn(ty td:TE):TE:=fun σ H Q=>ty σ H fun y H1=>td σ H1 fun x H2=>∃a o,x=.ref a/\DGet H2 a y o/\Q (.bl (!o.isSome)) H2
def sDPut(td ty tv:TE):TS:=fun D σ H=>tv σ H fun v H1=>td σ H1 fun x H2=>ty σ H2 fun y H3=>∃a H4,x=.ref a/\DPut H3 a y v H4/\D.nx σ H4
section
variable{X:Cx}{o i e value:Expr}{pos pos' tpos:Pos}{td ty tv:TE}
theorem z9z(hu:X.A.units+1<cLine)(ho:PE X o td)(hi:PE X i ty)(hs:NoSl i):PE X (.Subscript o i pos) (tDGet td ty):=by
 intro pins s σ H Q I h;refine z9y PySem.F.slot_dict_getitem.lookup hs (thn (ho pins s σ H _ I h) fun u s1 ⟨x,H1,I1,rx,q1⟩=>thn (hi pins s1 σ H1 _ I1 q1) fun iv s2 ⟨y,H2,I2,ry,a,v,ex,g,q2⟩=>?_);subst ex;obtain rfl:u=Value.ref a:=rx;exact⟨q9o I2 g,z3z hu I2 g ry fun w' s3 I3 rw'=>⟨v,H2,I3,rw',q2⟩⟩
theorem q8l(hu:X.A.units+1<cLine)(hi:PE X i ty)(ho:PE X o td):PC X .NotIn i o (tDNotIn ty td):=by
 intro pins s σ H Q I h;refine thn (hi pins s σ H _ I h) fun iv s1 ⟨y,H1,I1,ry,q1⟩=>thn (ho pins s1 σ H1 _ I1 q1) fun u s2 ⟨x,H2,I2,rx,a,ov,ex,g,q2⟩=>?_;subst ex;obtain rfl:u=Value.ref a:=rx;exact z9x hu I2 g ry fun s3 I3=>⟨.bl (!ov.isSome),H2,I3,rfl,q2⟩
theorem z4b(hu:X.A.units+1<cLine)(ho:PE X o td)(hi:PE X i ty)(hv:PE X value tv)(hs:Jf value (some (.Subscript o i pos')) pos.line X.env=pure false):
  PS X (.Assign [.Subscript o i pos'] value pos) (sDPut td ty tv):=by
 intro pins s σ H D I h;refine wpAny_Assign_Subscript (thn (hv pins s σ H _ I h) fun r s1 ⟨v,H1,I1,rv,q1⟩=>thn (ho pins s1 σ H1 _ I1 q1) fun u s2 ⟨x,H2,I2,rx,q2⟩=>thn (hi pins s2 σ H2 _ I2 q2) fun iv s3 ⟨y,H3,I3,ry,a,H4,ex,g,q3⟩=>?_) hs;subst ex;obtain rfl:u=Value.ref a:=rx;exact z4a hu I3 g ry rv fun s4 I4=>⟨σ,H4,I4,q3⟩
end
theorem q7e(h:Heap)(hb:Fb<h.objs.size):ObjOk P w H (h.push { cls:=.type "dict",data:=.dict #[] }) h.objs.size (.dT []) :=
 ⟨Bo _,beq_eq_false_iff_ne.mpr (Cd (Bf hb)),[],.nil,_,#[],0,As _ rfl,⟨rfl,rfl,rfl⟩,rfl,rfl,List.nodup_nil⟩
def tDNewT:TE:=fun _ H Q=>∀p,H p=none->Q (.ref p) (upd H p (.dT []))
section
variable{X:Cx}{pos:Pos}
theorem z0q:PE X (.Dict [] [] pos) tDNewT:=fun pins s σ H Q I h =>
 wpAny_Dict_empty ⟨.ref s.heap.objs.size,_,I.laid (t':=s.toks) (fun _ _ q=>Ag _ q) (Ak _) (q7e s.heap I.big),rfl,h _ (I.hok.fresh (Ak _))⟩
end
end L2
namespace K
open PySem L2 TX
def FIs:Str:=Ac "0123456789"
def LEs:Str:=Ac "abcdefghijklmnopqrstuvwxyzABCDEFGHIJKLMNOPQRSTUVWXYZ"
abbrev FI:List Nat:=tl FIs
abbrev LE:List Nat:=tl LEs
def allOf(t s:List Nat):Bool:=decide (t≠[])&&t.all fun c=>decide (c∈s)
def gapTakes(c:Nat)(t:List Nat):Bool:=if c=63 then decide (t.length=1) else if c=35 then allOf t FI else if c=64 then allOf t LE else true
def Pt.takes:Pt->List Nat->Bool
 |.tx l,t=>decide (t=l)
 |.gp c,t=>gapTakes c t
def cut(n:List Nat)(b e:Nat):List Nat:=(n.drop b).take (e-b)
def farTo(p:Pt)(n:List Nat)(L:Nat->Bool)(b k:Nat):Option Nat:=((List.range' b k).filter fun e=>L e&&p.takes (cut n b e)).getLast?
def far(p:Pt)(n:List Nat)(L:Nat->Bool)(b:Nat):Option Nat:=if b<=n.length then farTo p n L b (n.length+1-b) else none
def fits(n:List Nat):List Pt->Nat->Bool
 |[],b=>decide (b=n.length)
 |p::ps,b=>(far p n (fits n ps) b).isSome
def rd(n:List Nat):List Pt->Nat->List (List Nat)
 |[],_=>[]
 |p::ps,b=>(if p.isG then[cut n b ((far p n (fits n ps) b).getD 0)] else[])++rd n ps ((far p n (fits n ps) b).getD 0)
structure DF (H:Hp) (a:Addr) (f:Nat->Option Nat):Prop where
 ex:∃kvs:List (Key×V),H a=some (.dK kvs)/\kvs.length<=5000/\∀b:Nat,valV kvs (Sum.inl (b:Int))=(f b).map fun e=>V.int (e:Nat)
theorem DF.same(h:DF H a f)(sm:Same H H'):DF H' a f:=let ⟨kvs,h1,h2,h3⟩:=h.ex;⟨kvs,sm _ _ h1,h2,h3⟩
theorem DF.get(h:DF H a f)(b:Nat):DGet H a (.int (b:Int)) ((f b).map fun e=>V.int (e:Nat)):=by
 obtain⟨kvs,h1,h2,h3⟩:=h.ex;have:=DGet.k (k:=Sum.inl (b:Int)) h1;rw[h3] at this;exact this
theorem DF.new(h:DF H a f)(hb:H b=none):DF (upd H b o) a f:=h.same ((Same.refl H).new hb)
inductive DS (H:Hp) (n:List Nat):List Addr->List Pt->Prop
 |nil:DS H n [] []
 |cons {d:Addr} {p:Pt} {ds:List Addr} {ps:List Pt}:DF H d (far p n (fits n ps))->DS H n ds ps->DS H n (d::ds) (p::ps)
theorem DS.same(h:DS H n ds ps)(sm:Same H H'):DS H' n ds ps:=by
 induction h with
 |nil=>exact .nil
 |cons a _ ih=>exact .cons (a.same sm) ih
theorem DS.len(h:DS H n ds ps):ds.length=ps.length:=by
 induction h with
 |nil=>rfl
 |cons _ _ ih=>simp[ih]
theorem DS.get(h:DS H n ds ps):∀{i:Nat} {d:Addr},ds[i]?=some d->∃p,ps[i]?=some p/\DF H d (far p n (fits n (ps.drop (i+1)))):=by
 induction h with
 |nil=>simp_all
 | @cons d0 p ds ps a _ ih =>
  intro i d h;cases i with
  |zero=>simp_all
  |succ i =>simp_all
abbrev vN(ns:List (List Nat)):List V:=ns.map fun n=>V.str (mk n)
theorem q0o(l:List Nat):(mk l).length=l.length:=by rw[len,q0s]
theorem mk_inj:mk a=mk b↔a=b:=by grind
theorem dec_str(a b:List Nat):decide (V.str (mk a)=V.str (mk b))=decide (a=b):=by simp_all
end K
namespace L2
open PySem PySem.Spec PyProof.Rows
theorem Inv.freezeK{σ:St}(I:Inv X pins σ H s)(hd:H d=some u)(ho:s.heap.get? d=some ob)(hu:(∃kvs,u=.dK kvs)\/∃kvs,u=.dT kvs):Inv X pins σ (upd H d (.frz ob u)) s:=by
 have no:∀{v:HO} {b:Addr},H b=some v->((∀kvs,v≠.dK kvs)/\∀kvs,v≠.dT kvs)->b≠d:=fun{v b} z hv y=>by
  subst y;rw[hd] at z;cases z;rcases hu with⟨kvs,rfl⟩|⟨kvs,rfl⟩
  ·exact hv.1 _ rfl
  ·exact hv.2 _ rfl
 have nn:∀{b:Addr},H b=none->b≠d:=fun{b} z y=>by subst y;rw[hd] at z;cases z
 refine⟨I.ok,I.os,I.bare,⟨I.base.keep,I.base.slot,fun b o e n hx=>?_,I.base.there,fun b xs e=>?_,fun b o v e=>?_,fun b ps e=>?_⟩,I.loc,I.cell,?_,fun x c e=>?_,fun p hp=>?_,fun b v e=>?_,I.len⟩
 ·have z:=I.base.free b o e n hx;rw[q0e (nn z)];exact z
 ·have z:=I.base.tups b xs e;rw[q0e (no z ⟨fun _ y=>(by cases y),fun _ y=>(by cases y)⟩)];exact z
 ·have z:=I.base.frzs b o v e;rw[q0e (no z ⟨fun _ y=>(by cases y),fun _ y=>(by cases y)⟩)];exact z
 ·obtain⟨m,z⟩:=I.base.tbls b ps e;exact⟨m,by rw[q0e (no z ⟨fun _ y=>(by cases y),fun _ y=>(by cases y)⟩)];exact z⟩
 ·rw[q0e (nn I.free)];exact I.free
 ·rw[q0e (nn (I.freeC x c e))];exact I.freeC x c e
 ·obtain⟨e,n,ne,nf',dd⟩:=I.pin p hp;exact⟨e,by rw[q0e (nn n)];exact n,ne,nf',dd⟩
 ·have st:∀{b:Addr} {v:HO},ObjOk X.prog X.w H s.heap b v->ObjOk X.prog X.w (upd H d (.frz ob u)) s.heap b v:=fun x =>
   x.stay (fun _ _ _ q=>q) (fun c q=>by rw[q0e (no q ⟨fun _ y=>(by cases y),fun _ y=>(by cases y)⟩)];exact q) fun c xs q=>by rw[q0e (no q ⟨fun _ y=>(by cases y),fun _ y=>(by cases y)⟩)];exact q
  by_cases hb:b=d
  ·subst hb;rw[q0b] at e;cases e;exact⟨ho,st (I.hok b u hd)⟩
  ·rw[q0e hb] at e;exact st (I.hok b v e)
theorem KV.at'(r:KV kvs vs):∀{i:Nat} {k:Key} {v:V},kvs[i]?=some (k,v)->∃u,vs[i]?=some (k,u):=by
 induction r with
 |nil=>simp_all
 | @cons p q ps qs h t ih =>
  intro i k v hx;cases i with
  |zero=>simp at hx;subst hx;obtain⟨q1,q2⟩:=q;have:=h.1;simp at this;subst this;exact⟨q2,rfl⟩
  |succ i=>simp_all
end L2
namespace K
open PySem L2 TX
theorem q7f(l:Option Int)(len:Nat)(h:(len:Int)<=j):De l (some j) 1 len=De l (some (len:Int)) 1 len:=by
 have a:¬(j<0):=by lia
 have b:¬((len:Int)<0):=by lia
 have c:min j (len:Int)=(len:Int):=by lia
 simp[De,a,b,c]
end K
namespace L2
open PySem PySem.Spec PyProof.Rows
section
variable{X:Cx}
theorem z4c:CallR X (.type "int") (fun xs H Q=>∃x n,xs=[.str x]/\Ph x=some n/\x.length<=640/\Q (.int n) H):=by
 intro pins s σ H xs us Q I r h;obtain⟨x,n,rfl,h1,h2,q⟩:=h;obtain⟨u,rfl,t,rfl⟩:=vals1 r;exact W.KIN.call_text h1 h2 ⟨.int n,H,I.tok _,⟨_,rfl⟩,q⟩
theorem q2u:CallR X (.type "int") (fun xs H Q=>((∃i,xs=[.int i]/\Q (.int i) H)\/∃k,xs=[.bl k]/\Q (.int (if k then 1 else 0)) H)\/∃x n,xs=[.str x]/\Ph x=some n/\x.length<=640/\Q (.int n) H):=call_int1.or z4c
theorem q3p:CallR X (.type "str") (fun xs H Q=>∃n:Nat,xs=[.int (n:Int)]/\n<=10^12/\Q (.str (Ac (toString (n:Int)))) H):=by
 intro pins s σ H xs us Q I r h;obtain⟨n,rfl,h1,q⟩:=h;obtain⟨u,rfl,t,rfl⟩:=vals1 r;refine PySem.P.str_of_int ?_ ⟨.str (Ac (toString (n:Int))),H,I.tok _,⟨_,rfl⟩,q⟩;rw[Rc];have h2:n<2^40:=Me h1 (by decide);have:n.log2<40:=by
  by_cases hz:n=0
  ·rw[hz];decide
  ·exact(Nat.log2_lt hz).mpr h2
 lia
end
end L2
namespace K
open PySem L2 TX
def dg(m:Nat):List Nat:=tl (Ac (toString (m:Int)))
theorem q9p(m:Nat):Ac (toString (m:Int))=mk (dg m):=(q8g _).symm
theorem z7g(m:Nat):dg m=(Nat.toDigits 10 m).map Char.toNat:=W.KIN.signs_num m
theorem q3c(h:m<10):dg m=[48+m]:=by
 rw[z7g,Nat.toDigits_of_lt_base h];exact(by decide:∀m:Nat,m<10->[Nat.digitChar m].map Char.toNat=[48+m]) m h
theorem q7g(h:10<=m):dg m=dg (m / 10)++[48+m%10]:=by
 have hm:m%10<10:=Nat.mod_lt m (by decide);have t:Nat.toDigits 10 (m / 10)++Nat.toDigits 10 (m%10)=Nat.toDigits 10 (10*(m / 10)+m%10):=Nat.toDigits_append_toDigits (by decide) (by lia) hm;rw[Nat.div_add_mod] at t;rw[z7g,z7g,<- t,Ap];congr 1;exact(z7g (m%10)).symm.trans (q3c hm)
theorem z8o(m:Nat):∀c∈dg m,c∈FI:=by
 have hf:∀d:Nat,d<10->48+d∈FI:=by decide +kernel
 induction m using Nat.strongRecOn with
 |_ m ih =>
  by_cases h:m<10
  ·rw[q3c h];intro c hc;rw[An.mp hc];exact hf m h
  ·rw[q7g (by lia)];intro c hc;rcases Aq.mp hc with z|z
   ·grind
   ·rw[An.mp z];exact hf _ (Nat.mod_lt m (by decide))
theorem z4d(m:Nat):∃d r,dg m=(48+d)::r/\d<10/\(d=0->m=0/\r=[]):=by
 induction m using Nat.strongRecOn with
 |_ m ih =>
  by_cases h:m<10
  ·exact⟨m,[],q3c h,h,fun z=>⟨z,rfl⟩⟩
  ·obtain⟨d,r,h1,h2,h3⟩:=ih (m / 10) (by lia);refine⟨d,r++[48+m%10],by rw[q7g (by lia),h1];rfl,h2,fun z=>?_⟩;have:=(h3 z).1;lia
theorem q8m:∀(k m:Nat),m<10^(k+1)->(dg m).length<=k+1
 |0,m,h=>by rw[q3c (by simpa using h)];exact Ak _
 |k+1,m,h=>by
  by_cases hz:m<10
  ·rw[q3c hz];simp
  ·rw[q7g (by lia),Aj,Bt];have:=q8m k (m / 10) (by rw[Nat.pow_succ] at h;lia);lia
theorem dg_pos(m:Nat):1<=(dg m).length:=by obtain⟨d,r,h,_⟩:=z4d m;rw[h];simp
end K
namespace L2
open PySem PySem.Spec PyProof.Rows
theorem Inv.thaw{σ:St}(I:Inv X pins σ H s)(hd:H d=some (.frz ob u))(h0:∀o v,X.H₀ d≠some (.frz o v)):Inv X pins σ (upd H d u) s:=by
 have no:∀{v:HO} {b:Addr},H b=some v->(∀o z,v≠.frz o z)->b≠d:=fun{v b} z hv y=>by
  subst y;rw[hd] at z;cases z;exact hv _ _ rfl
 have nn:∀{b:Addr},H b=none->b≠d:=fun{b} z y=>by subst y;rw[hd] at z;cases z
 refine⟨I.ok,I.os,I.bare,⟨I.base.keep,I.base.slot,fun b o e n hx=>?_,I.base.there,fun b xs e=>?_,fun b o v e=>?_,fun b ps e=>?_⟩,I.loc,I.cell,?_,fun x c e=>?_,fun p hp=>?_,fun b v e=>?_,I.len⟩
 ·have z:=I.base.free b o e n hx;rw[q0e (nn z)];exact z
 ·have z:=I.base.tups b xs e;rw[q0e (no z fun _ _ y=>(by cases y))];exact z
 ·have z:=I.base.frzs b o v e;rw[q0e (fun y=>by subst y;exact h0 _ _ e)];exact z
 ·obtain⟨m,z⟩:=I.base.tbls b ps e;exact⟨m,by rw[q0e (no z fun _ _ y=>(by cases y))];exact z⟩
 ·rw[q0e (nn I.free)];exact I.free
 ·rw[q0e (nn (I.freeC x c e))];exact I.freeC x c e
 ·obtain⟨e,n,ne,nf',dd⟩:=I.pin p hp;exact⟨e,by rw[q0e (nn n)];exact n,ne,nf',dd⟩
 ·have st:∀{b:Addr} {v:HO},ObjOk X.prog X.w H s.heap b v->ObjOk X.prog X.w (upd H d u) s.heap b v:=fun x =>
   x.stay (fun _ _ _ q=>q) (fun c q=>by rw[q0e (no q fun _ _ y=>(by cases y))];exact q) fun c xs q=>by rw[q0e (no q fun _ _ y=>(by cases y))];exact q
  by_cases hb:b=d
  ·subst hb;rw[q0b] at e;cases e;exact st (I.hok b _ hd).2
  ·rw[q0e hb] at e;exact st (I.hok b v e)
def Ends.thaw(D:Ends)(d:Addr):Ends where
 nx:=fun σ H=>∃ob u,H d=some (.frz ob u)/\D.nx σ (upd H d u)
 rt:=fun v H=>∃ob u,H d=some (.frz ob u)/\D.rt v (upd H d u)
 bk:=fun σ H=>∃ob u,H d=some (.frz ob u)/\D.bk σ (upd H d u)
 ct:=fun σ H=>∃ob u,H d=some (.frz ob u)/\D.ct σ (upd H d u)
def tThaw(h₀:Hp)(t:TS):TS:=fun D σ H=>∃d,(∀o v,h₀ d≠some (.frz o v))/\t (D.thaw d) σ H
theorem x0a{X:Cx}{st:Stmt}{t:TS}(h₀:Hp)(hH:X.H₀=h₀)(h:PS X st t):PS X st (tThaw h₀ t):=by
 subst hH;intro pins s σ H D I q;obtain⟨d,hd,q⟩:=q;refine Bp (h pins s σ H _ I q) (fun f s' z=>?_) fun _ _ z=>z;cases f with
 |next=>obtain⟨σ',H',I',ob,u,e,n⟩:=z;exact⟨σ',_,I'.thaw e hd,n⟩
 |brk=>obtain⟨σ',H',I',ob,u,e,n⟩:=z;exact⟨σ',_,I'.thaw e hd,n⟩
 |cont=>obtain⟨σ',H',I',ob,u,e,n⟩:=z;exact⟨σ',_,I'.thaw e hd,n⟩
 |ret v=>obtain⟨x,σ',H',I',r,ob,u,e,n⟩:=z;exact⟨x,σ',_,I'.thaw e hd,r,n⟩
end L2
namespace PySem.Rv
open Sem (wp)
section
variable{prog:Program}{w:World}{A:Around}{E:Value->Af->Prop}{s:Af}{it d:Addr}{i ep:Nat}{dob:Obj}{ens:Array Jh}
theorem keys_iter(hsys:(d==Fb)=false)(hT:s.TypeIs (.ref d) "dict")(hdo:s.heap.get? d=some dob)(hda:dob.data=.dict ens ep)(hQ:Q (.ref s.heap.objs.size) { s with heap:=s.heap.push { cls:=.type "dict_keyiterator",data:=.fields #[.ref d,.int 0 0,.int ens.size 0,.int ep 0] } }):
  wpAny (model prog w) A (Pa (.ref d)) Q E s:=by
 refine Ry hT Sr (Co Sr hT F.entry_dict_iter ?_ (F.args_dict_iter_1 _));refine Ab (Ab (Kq hT (Ae ?_)));show wpAny _ _ (Kr d >>= _) _ _ s;unfold Kr;rw[if_neg (by rw[hsys];decide)];refine Ab (Ae (Ab (Gk hdo hda (Ab (Hg hdo hda ?_)))));refine Ab (By (Ae ⟨_,rfl, "dict_keyiterator",_,⟨_,As _ rfl,rfl⟩,Ed.lookup,?_⟩));simpa[Ek] using hQ
theorem keys_item(hki:s.heap.IsKeyIter it d i ens.size ep)(hdo:s.heap.get? d=some dob)(hda:dob.data=.dict ens ep)(hlt:i<ens.size)(hQ:∀h',h'.IsKeyIter it d (i+1) ens.size ep->Ge it s.heap h'->Q (some ens[i].key) { s with heap:=h' }):wpAny (model prog w) A (Jg (.ref it)) Q E s:=by
 obtain⟨io,hio,hic,hid⟩:=id hki;refine Ab (En (Dh hki.typeIs Ed
  (Co Ed hki.typeIs Ll ?_ (Lc _))))
 refine Ab (Ae (Ab (Ab ?_)));first|refine Ab (Fv hki.typeIs (Ae ?_))|refine Ab (Gw hki.typeIs (Ae ?_))
 refine Ab (Lz hio hid ?_);refine Ab (Ae (Ab (Gk hdo hda ?_)));rw[if_neg (by simp)];refine Ab (Ae (Ab (Hg hdo hda ?_)));rw[if_neg (by simp)];refine Ae ?_;simp only[show ¬((i:Int)<0) from by lia,if_false,Eh,Du hlt];refine Ab ?_;first|refine Ab (Fv hki.typeIs (Ae ?_))|refine Ab (Gw hki.typeIs (Ae ?_))
 refine Ab (Pj hki.typeIs ?_);show wpAny _ _ (setField (.ref it) 1 (Ek ((i:Int)+1)) >>= _) _ _ s;refine Ab (Gq hio hid (by simp) ?_);have hki2:(s.heap.update it (Eo (·.setIfInBounds 1 (Ek ((i:Int)+1))))).IsKeyIter it d (i+1) ens.size ep :=
  ⟨_,Ex _ hio (Ks (Gg hid _)),(Obj.cls_mapFields ..).trans hic,by rw[Gg hid];simp[Ek]⟩
 refine Ab (Bz (Ab (Pj (s:={ s with heap:=s.heap.update it (Eo (·.setIfInBounds 1 (Ek ((i:Int)+1)))) }) hki2.typeIs ?_)));exact Ae (Ae ⟨_,rfl,Ae (hQ _ hki2 (Lq ..))⟩)
theorem keys_end(hh:A.handled=none)(hki:s.heap.IsKeyIter it d i ens.size ep)(hdo:s.heap.get? d=some dob)(hda:dob.data=.dict ens ep)(hge:ens.size<=i)(hQ:∀h',Sk it s.heap h'->Q none { s with heap:=h' }):wpAny (model prog w) A (Jg (.ref it)) Q E s:=by
 obtain⟨io,hio,hic,hid⟩:=id hki;refine Ab (En (Dh hki.typeIs Ed
  (Co Ed hki.typeIs Ll ?_ (Lc _))))
 refine Ab (Ae (Ab (Ab ?_)));first|refine Ab (Fv hki.typeIs (Ae ?_))|refine Ab (Gw hki.typeIs (Ae ?_))
 refine Ab (Lz hio hid ?_);refine Ab (Ae (Ab (Gk hdo hda ?_)));rw[if_neg (by simp)];refine Ab (Ae (Ab (Hg hdo hda ?_)));rw[if_neg (by simp)];refine Ae ?_;simp only[show ¬((i:Int)<0) from by lia,if_false,Eh,Ou hge];refine Ab ?_;first|refine Ab (Fv hki.typeIs (Ae ?_))|refine Ab (Gw hki.typeIs (Ae ?_))
 show wpAny _ _ (setField (.ref it) 0 .none >>= _) _ _ s;refine Ab (Gq hio hid (by simp) ?_);refine Ab ?_;refine Ab (By ?_ (by size_fits));refine Ab (wpAny_of_eq (by first|rfl|(simp only[firstArgMember];rfl)) ?_);refine By ?_ (by size_fits);refine Ab (wpAny_handled ?_);rw[show A.in1.handled=none from hh];refine Ab (Ae (wpAny_throw ?_));refine Ab (Nw ⟨_,As _ rfl,rfl⟩ Pg ?_);exact Ae (hQ _ (((Lq ..).extBut.push _).push _))
end
end PySem.Rv
namespace L2
open PySem PySem.Spec PyProof.Rows
def Itk(d:Addr)(ob:Obj)(kvs:List (List Key×V)):It :=
 ⟨fun i H=>H d=some (.frz ob (.dT kvs))/\i<kvs.length,fun i H x H'=>H'=H/\∃k v b,kvs[i]?=some (k,v)/\H b=some (.tup (k.map kV))/\x=.ref b,fun i H=>H d=some (.frz ob (.dT kvs))/\kvs.length<=i⟩
theorem Cz.at'{F:α->β->Prop}:∀{l:List α} {m:List β} {i:Nat} {p:α},Cz F l m->l[i]?=some p->∃q,m[i]?=some q/\F p q
 |_,_,0,_,.cons h t,e=>by simp at e;subst e;exact⟨_,rfl,h⟩
 |_,_,i+1,_,.cons h t,e=>by
  obtain⟨q,h1,h2⟩:=Cz.at' t (by simpa using e);exact⟨q,by simpa using h1,h2⟩
theorem z4e(ok:HOk P w H h)(hfz:H d=some (.frz ob (.dT kvs)))(hob:ob.data=.dict ens ep):
  h.get? d=some ob/\ens.size=kvs.length/\∀{i:Nat} {k:List Key} {v:V} (hlt:i<ens.size),kvs[i]?=some (k,v)->∃b,ens[i].key=.ref b/\H b=some (.tup (k.map kV)):=by
 obtain⟨hget,z,hsys,xs,hp,o,es,ep',h1,h2,h3,h4,h5⟩:=(show ObjOk P w H h d (.frz ob (.dT kvs)) from ok d _ hfz)
 rw[hget] at h1;cases h1;rw[hob] at h3;cases h3;have hl:=Fs hp;have hz:ens.size=xs.length:=by rw[<- Fw,h4,Ad]
 refine⟨hget,by lia,fun{i k v} hlt hk=>?_⟩;obtain⟨q,hq,e1,e2,e3⟩:=Cz.at' hp hk;refine⟨q.2.1,?_,e2⟩;have:ens.toList[i]?=some (Sz (Jc (mixKind P w)) q):=by simp_all
 rw[Hv,Du hlt] at this;injection this with this;rw[this];rfl
theorem z2d{K:Ah}(d it:Addr)(ob:Obj)(kvs:List (List Key×V))(ens:Array Jh)(ep:Nat)(hob:ob.data=.dict ens ep):
  Turn P w K tg (Itk d ob kvs) [it] it (fun i h=>h.IsKeyIter it d i ens.size ep) where
 mem:=by simp
 obj:=fun i h st b hb=>by
  have e:b=it:=by grind
  subst e;obtain⟨o,e,c,dd⟩:=st;exact⟨o,e,fun v z=>by rw[dd] at z;cases z⟩
 keep:=fun i h h' st k=>st.at fun o e=>k it (by simp) o e
 item:=by
  intro X hP hw hK hc i pins s σ H E I hf st hg;obtain⟨hfz,hi⟩:=hg;obtain⟨hget,hsz,hkey⟩:=z4e I.hok hfz hob;obtain⟨f0,f1,f2,f3,f4,f5⟩:=hf it (by simp);obtain⟨⟨k,v⟩,hkv⟩:∃p,kvs[i]?=some p:=⟨kvs[i],by simp[hi]⟩
  have hlt:i<ens.size:=by lia
  obtain⟨b,hb1,hb2⟩:=hkey hlt hkv;refine PySem.Rv.keys_item st hget hob hlt fun h' st' sb=>?_
  rw[hb1];have I1:Inv X pins σ H { s with heap:=h' }:=I.turned (t':=s.toks) (fun b o hb e=>(sb.2 b hb).trans e) f0 f1 f3 f4 f5;obtain⟨o,e,c,dd⟩:=id st';exact⟨.ref b,rfl,z1n e c dd (by decide) ⟨.ref b,H,I1,rfl,⟨rfl,k,v,b,hkv,hb2,rfl⟩,st',fun b hb=>(hf b hb).1⟩⟩
 done:=by
  intro X hP hw hK hc i pins s σ H E I hf st hg;obtain⟨hfz,hi⟩:=hg;obtain⟨hget,hsz,hkey⟩:=z4e I.hok hfz hob;obtain⟨f0,f1,f2,f3,f4,f5⟩:=hf it (by simp);exact PySem.Rv.keys_end (I.ok.hd hc) st hget hob (by lia) fun h' eb=>⟨rfl,I.turned (t':=s.toks) (fun b o hb e=>eb b o hb e) f0 f1 f3 f4 f5⟩
 self:=fun _ _ _ _ _ st h=>wpAny_pyIter_keyiter st h
section
variable{X:Cx}{tg l:Expr}{tl:TE}
def iDictT(tl:TE):TI:=fun σ H R=>tl σ H fun x H1=>∃d kvs,x=.ref d/\H1 d=some (.dT kvs)/\∀ob,R (Itk d ob kvs) (upd H1 d (.frz ob (.dT kvs)))
theorem z7h(hl:PE X l tl):PI X tg l (iDictT tl):=by
 intro pins s σ H R I h;refine thn (hl pins s σ H _ I h) fun v s1 ⟨x,H1,I1,r1,q1⟩=>?_;obtain⟨d,kvs,e,hd,q⟩:=q1;subst e;cases r1;obtain⟨z,hsys,xs,hp,ob,ens,ep,ho,hex,hob,h4,h5⟩:=(show ObjOk X.prog X.w H1 s1.heap d (.dT kvs) from I1.hok d _ hd)
 refine PySem.Rv.keys_iter hsys ⟨ob,ho,hex.1⟩ ho hob ?_;have hne:=Bf (Al ho);have I2:=(I1.freezeK hd ho (.inr ⟨_,rfl⟩)).kept (t':=s1.toks) (h':=s1.heap.push { cls:=.type "dict_keyiterator",data:=.fields #[.ref d,.int 0 0,.int ens.size 0,.int ep 0] }) fun b o e=>Ag _ e;refine⟨s1.heap.objs.size,[s1.heap.objs.size],_,_,_,rfl,I2,z2d d _ ob kvs ens ep hob,⟨_,As _ rfl,rfl,rfl⟩,fun b hb=>?_,q ob⟩;have e:b=s1.heap.objs.size:=by grind
 subst e;exact I1.fpOk (Ak _) (by rw[q0e (Cd hne)];exact I1.hok.fresh (Ak _))
theorem ditT_k(K:Ah)(hK:X.K=K)(hl:PE X l tl):PI X tg l (iDictT tl):=z7h hl
theorem z4f{g:TG}{tb:TS}{D:Ends}(Pv:Nat->St->Hp->Prop)(h0:Pv 0 σ H)(hl:∀i σ H,Pv i σ H->H d=some (.frz ob (.dT kvs)))(hs:∀i k v b σ H,kvs[i]?=some (k,v)->H b=some (.tup (k.map kV))->Pv i σ H->g (.ref b) σ H fun σ2 H2=>tb { D with nx:=Pv (i+1),ct:=Pv (i+1),bk:=D.nx } σ2 H2)(hd:∀σ H,Pv kvs.length σ H->D.nx σ H):
  ∃W:Nat->Nat->St->Hp->Prop,(∃m,W 0 m σ H)/\∀i m σ H,W i m σ H ->
   ((Itk d ob kvs).stop i H/\D.nx σ H)\/((Itk d ob kvs).go i H/\∃N:St->Hp->Prop,(∀σ' H',N σ' H'->∃m',m'<m/\W (i+1) m' σ' H')/\∀x H',(Itk d ob kvs).yld i H x H'->g x σ H' fun σ2 H2=>tb { D with nx:=N,ct:=N,bk:=D.nx } σ2 H2):=by
 refine z8m Pv h0 (fun i σ H h p=>⟨hl i σ H p,h⟩) (fun σ H p=>⟨hl _ σ H p,Ak _⟩) (fun i x σ H H' h p yl=>?_) hd;obtain⟨rfl,k,v,b,hk,hb,rfl⟩:=yl;exact hs i k v b σ _ hk hb p
end
end L2
namespace SB
open PySem PyProof.Rows
section
variable{prog:Program}{w:World}{A:Around}{E:Value->Af->Prop}{s:Af}
def Tells(prog:Program)(w:World)(A:Around)(s:Af)(kd:Kn)(S:Value->Prop)(r:Value->Int):Prop :=
 ∀(E:Value->Af->Prop) (x y:Value) (Q:Bool->Af->Prop),S x->S y->Q (decide (r x<r y)) s->wpAny (model prog w) A (keyLt' kd x y) Q E s
def rk(r:Value->Int)(xs:Array Keyed)(i:Nat):Int:=((xs[i]?).map fun p=>r p.1).getD 0
theorem x0b(h:xs[i]?=ys[j]?):rk r xs i=rk r ys j:=by unfold rk;rw[h]
theorem rk_if[Decidable c](h:xs[i]?=if c then ys[a]? else ys[b]?):rk r xs i=if c then rk r ys a else rk r ys b:=by
 by_cases hc:c
 ·rw[if_pos hc] at h ⊢;exact x0b h
 ·rw[if_neg hc] at h ⊢;exact x0b h
theorem z4g(hj:j<=xs.size)(k:Nat):rk r (Ld xs i j ((j-i) / 2)) k=if i<=k/\k<j then rk r xs (i+j-1-k) else rk r xs k:=rk_if (getElem?_mirror_all hj k)
theorem z8p(hn:n<xs.size)(hd:d<=n)(k:Nat):rk r (bubble xs n d) k=if k=n-d then rk r xs n else if n-d<k/\k<=n then rk r xs (k-1) else rk r xs k:=by
 have e:=getElem?_bubble hn d hd k;by_cases h:k=n-d
 ·rw[if_pos h] at e ⊢;exact x0b e
 ·rw[if_neg h] at e ⊢;exact rk_if e
structure Mid (kd:Kn) (a₀:Array Keyed) (st:Hh):Prop where
 pm:(arrOf st).Perm a₀
 kn:kindOf st=kd
 fl:Ss st=none
 pd:Oh st=#[]
variable{kd:Kn}{S:Value->Prop}{r:Value->Int}{a₀:Array Keyed}
theorem Mid.sz{st:Hh}(h:Mid kd a₀ st):(arrOf st).size=a₀.size:=h.pm.size_eq
theorem Mid.put{st:Hh}(h:Mid kd a₀ st)(p:xs.Perm (arrOf st)):Mid kd a₀ (setArr st xs):=⟨p.trans h.pm,h.kn,h.fl,h.pd⟩
theorem z4h{st:Hh}(T:Tells prog w A s kd S r)(hS:∀p∈a₀.toList,S p.1)(m:Mid kd a₀ st)(hi:i<a₀.size)(hj:j<a₀.size)(h:Q (some (decide (rk r (arrOf st) i<rk r (arrOf st) j))) st):wpS (model prog w) A E s (ltAt' i j) Q st:=by
 have get:∀{k:Nat},k<a₀.size->∃p,(arrOf st)[k]?=some p/\S p.1/\rk r (arrOf st) k=r p.1:=fun{k} hk=>by
  have hk':k<(arrOf st).size:=by rw[m.sz];exact hk
  have e:(arrOf st)[k]?=some (arrOf st)[k]:=getElem?_pos _ k hk';refine⟨_,e,hS _ ((Mq.mp m.pm).mem_iff.mp (by simp)),?_⟩;unfold rk;rw[e];rfl
 obtain⟨p,e1,s1,r1⟩:=get hi;obtain⟨q,e2,s2,r2⟩:=get hj;rw[r1,r2] at h;refine Bx (Pk ?_);show wpS _ _ _ _ (elem' (arrOf st) i >>= fun x=>elem' (arrOf st) j >>= fun y=>lt' x y) Q st;rw[elem'_eq,elem'_eq,e1,e2];refine Bx (Cr (Bx (Cr ?_)));rw[lt'_eq];refine Bx (Pk ?_);rw[m.kn];exact Bx (wpS_lift (En (T _ p.1 q.1 _ s1 s2 ⟨rfl,Cr h⟩)))
def Up(r:Value->Int)(xs:Array Keyed)(n:Nat):Prop:=∀i j,i<=j->j<n->rk r xs i<=rk r xs j
def Down(r:Value->Int)(xs:Array Keyed)(n:Nat):Prop:=∀i j,i<=j->j<n->rk r xs j<=rk r xs i
theorem Up.one:Up r xs 1:=fun i j h1 h2=>by rw[show i=j by lia];exact Kh _
theorem Up.more(h:Up r xs n)(h1:1<=n)(e:rk r xs (n-1)<=rk r xs n):Up r xs (n+1):=fun i j a b=>by
 by_cases z:j<n
 ·exact h i j a z
 ·have hj:j=n:=by lia
  subst hj;by_cases y:i=j
  ·grind
  ·have:=h i (j-1) (by lia) (by lia);lia
theorem Down.more(h:Down r xs n)(h1:1<=n)(e:rk r xs n<=rk r xs (n-1)):Down r xs (n+1):=fun i j a b=>by
 by_cases z:j<n
 ·exact h i j a z
 ·have hj:j=n:=by lia
  subst hj;by_cases y:i=j
  ·grind
  ·have:=h i (j-1) (by lia) (by lia);lia
theorem Down.mir(h:Down r xs n)(hn:n<=xs.size):Up r (Ld xs 0 n ((n-0) / 2)) n:=fun i j a b=>by
 rw[z4g hn,z4g hn,if_pos (by lia),if_pos (by lia)];exact h _ _ (by lia) (by lia)
theorem q5f(hj:j<=xs.size)(h:∀k,i<=k->k<j->rk r xs k=rk r xs (j-1))(k:Nat):rk r (Ld xs i j ((j-i) / 2)) k=rk r xs k:=by
 rw[z4g hj];by_cases z:i<=k/\k<j
 ·grind
 ·rw[if_neg z]
theorem z8q{st:Hh}(T:Tells prog w A s kd S r)(hS:∀p∈a₀.toList,S p.1)(m:Mid kd a₀ st)(hn:n<=a₀.size)(h1:1<=a)(han:a<=n)(u:Up r (arrOf st) a)(h:∀k,a<=k->k<=n->Up r (arrOf st) k->(k=n\/rk r (arrOf st) k<rk r (arrOf st) (k-1))->Q (none,k) st):wpS (model prog w) A E s (ascLoop a n) Q st:=by
 refine Jq (fun x c t=>t=st/\c=(none,x)/\Up r (arrOf st) x) (fun x c t hx hxn ⟨et,ec,ux⟩=>?_) (fun c t ⟨et,ec,ux⟩=>?_) ⟨rfl,rfl,u⟩
 ·subst et ec;refine Bx (z4h T hS m (by lia) (by lia) ?_);by_cases z:rk r (arrOf t) x<rk r (arrOf t) (x-1)
  ·simp only[decide_eq_true z,if_true];exact Cr (h x hx (by lia) ux (.inr z))
  ·simp only[decide_eq_false z,Bq,if_false];exact Cr ⟨rfl,rfl,ux.more (by lia) (by lia)⟩
 ·grind
theorem z4i{st:Hh}(T:Tells prog w A s kd S r)(hS:∀p∈a₀.toList,S p.1)(m:Mid kd a₀ st)(hn:n<=a₀.size)(h1:1<=k)(hkn:k<=n)(d:Down r (arrOf st) k)(h:∀j t,Mid kd a₀ t->1<=j->j<=n->Up r (arrOf t) j->Q (some j) t):wpS (model prog w) A E s (tail3 k n) Q st:=by
 have m2:=m.put (Ov (arrOf st) 0 k ((k-0) / 2));refine Bx (Ow (Bx (z8q T hS m2 hn h1 hkn (d.mir (by rw[m.sz];lia)) fun j a b u _=>Cr (h j _ m2 (by lia) b u))))
theorem x0c{st:Hh}(T:Tells prog w A s kd S r)(hS:∀p∈a₀.toList,S p.1)(m:Mid kd a₀ st)(hn:n<=a₀.size)(h1:1<=k)(hkn:k<=n)(d:Down r (arrOf st) k)(h:∀j q t,Mid kd a₀ t->k<=j->j<=n->Down r (arrOf t) j->q+1<=j->(∀i,j-(q+1)<=i->i<j->rk r (arrOf t) i=rk r (arrOf t) (j-1))->Q (none,j,q) t):wpS (model prog w) A E s (descLoop k n) Q st:=by
 refine Jq (fun x c t=>∃q,c=(none,x,q)/\Mid kd a₀ t/\Down r (arrOf t) x/\q+1<=x/\∀i,x-(q+1)<=i->i<x->rk r (arrOf t) i=rk r (arrOf t) (x-1))
  (fun x c t hx hxn ⟨q,ec,mt,dx,hq,eq⟩=>?_) (fun c t ⟨q,ec,mt,dx,hq,eq⟩=>?_) ⟨0,rfl,m,d,by lia,fun i a b=>by rw[show i=k-1 by lia]⟩
 ·subst ec;have zs:x<=(arrOf t).size:=by rw[mt.sz];lia
  dsimp only;refine Bx (z4h T hS mt (by lia) (by lia) ?_);by_cases z:rk r (arrOf t) x<rk r (arrOf t) (x-1)
  ·simp only[decide_eq_true z,if_true];by_cases y:q>0
   ·rw[if_pos y];have em:=fun k=>q5f zs eq k;have d2:Down r (Ld (arrOf t) (x-(q+1)) x ((x-(x-(q+1))) / 2)) x:=fun i j a b=>by rw[em,em];exact dx i j a b
    exact Bx (Ow (Cr ⟨0,rfl,mt.put (Ov _ _ _ _),d2.more (by lia) (by rw[em,em];lia),by lia,fun i a b=>by rw[show i=x+1-1 by lia]⟩))
   ·rw[if_neg y];exact Cr ⟨0,rfl,mt,dx.more (by lia) (by lia),by lia,fun i a b=>by rw[show i=x+1-1 by lia]⟩
  ·simp only[decide_eq_false z,Bq,if_false];refine Bx (z4h T hS mt (by lia) (by lia) ?_);by_cases y:rk r (arrOf t) (x-1)<rk r (arrOf t) x
   ·simp only[decide_eq_true y,if_true];exact Cr (h x q t mt hx (by lia) dx hq eq)
   ·simp only[decide_eq_false y,Bq,if_false];have ex:rk r (arrOf t) x=rk r (arrOf t) (x-1):=by lia
    refine Cr ⟨q+1,rfl,mt,dx.more (by lia) (by lia),by lia,fun i a b=>?_⟩;rw[show x+1-1=x by lia,ex];by_cases c:i=x
    ·rw[c,ex]
    ·grind
 ·grind
theorem z4j{st:Hh}(T:Tells prog w A s kd S r)(hS:∀p∈a₀.toList,S p.1)(m:Mid kd a₀ st)(hn:n<=a₀.size)(hkn:k+1<=n)(d:Down r (arrOf st) (k+1))(h:∀j t,Mid kd a₀ t->1<=j->j<=n->Up r (arrOf t) j->Q (some j) t):wpS (model prog w) A E s (descPart k n) Q st:=by
 refine Bx (wpS_lift (Lb ⟨rfl,Bx (x0c T hS m hn (by lia) hkn d fun j q t mt a b dt hq eq=>?_)⟩));have zs:j<=(arrOf t).size:=by rw[mt.sz];lia
 dsimp only;by_cases y:q>0
 ·rw[if_pos y];exact Bx (Ow (z4i T hS (mt.put (Ov _ _ _ _)) hn (by lia) b (fun i i' a' b'=>by show rk r (Ld _ _ _ _) i'<=rk r (Ld _ _ _ _) i;rw[q5f zs eq,q5f zs eq];exact dt i i' a' b') h))
 ·rw[if_neg y];exact z4i T hS mt hn (by lia) b dt h
theorem run_ok{st:Hh}(T:Tells prog w A s kd S r)(hS:∀p∈a₀.toList,S p.1)(m:Mid kd a₀ st)(hn:n<=a₀.size)(h1:1<=n)(h:∀j t,Mid kd a₀ t->1<=j->j<=n->Up r (arrOf t) j->Q (some j) t):wpS (model prog w) A E s (countRun' 0 n) Q st:=by
 rw[countRun0_eq];refine Bx (z8q T hS m hn (Ak 1) h1 Up.one fun k a b u o=>?_);have zs:k<=(arrOf st).size:=by rw[m.sz];lia
 dsimp only;by_cases e:k=n
 ·rw[if_pos (by simpa using e)];exact Cr (h k st m a b u)
 rw[if_neg (by simpa using e)];by_cases g:k>1
 ·rw[if_pos g];refine Bx (z4h T hS m (by lia) (by lia) ?_);by_cases z:rk r (arrOf st) 0<rk r (arrOf st) (k-1)
  ·simp only[decide_eq_true z,if_true];exact Cr (h k st m a b u)
  ·simp only[decide_eq_false z,Bq,if_false];have al:∀i,0<=i->i<k->rk r (arrOf st) i=rk r (arrOf st) (k-1):=fun i _ hi=>by
    have u1:=u 0 i (by lia) hi;have u2:=u i (k-1) (by lia) (by lia);lia
   refine Bx (Ow (z4j T hS (m.put (Ov _ _ _ _)) hn (by lia) (Down.more (fun i j a' b'=>?_) (by lia) ?_) h))
   ·show rk r (Ld _ _ _ _) j<=rk r (Ld _ _ _ _) i;rw[q5f zs al,q5f zs al,al i (by lia) (by lia),al j (by lia) (by lia)];exact Kh _
   ·show rk r (Ld _ _ _ _) k<=rk r (Ld _ _ _ _) (k-1);rw[q5f zs al,q5f zs al];lia
 ·rw[if_neg g];exact z4j T hS m hn (by lia) (Down.more (fun i j a' b'=>by rw[show i=j by lia];exact Kh _) (by lia) (by lia)) h
theorem ins_ok{st:Hh}(T:Tells prog w A s kd S r)(hS:∀p∈a₀.toList,S p.1)(m:Mid kd a₀ st)(hn:n<=a₀.size)(hk:k<=n)(u:Up r (arrOf st) k)(h:∀t,Mid kd a₀ t->Up r (arrOf t) n->Q true t):wpS (model prog w) A E s (binarySort' 0 n k) Q st:=by
 rw[binarySort'_eq];simp only[Nat.zero_add];refine Bx (Su (Jq (fun j c t=>c=(none,())/\Mid kd a₀ t/\Up r (arrOf t) (min j n)) (Q:=fun c t=>c=(none,())/\Mid kd a₀ t/\Up r (arrOf t) n) ?step ?fin ⟨rfl,m,?init⟩) ?post)
 case step =>
  rintro j c t hj hjn ⟨rfl,mt,ut⟩;refine Bx (Su (Jq (fun x c t'=>t'=t/\∃lo hi,c=(none,lo,hi)/\lo<=hi/\hi<=j/\hi-lo<=j-x/\(∀i,i<lo->rk r (arrOf t) i<=rk r (arrOf t) j)/\∀i,hi<=i->i<j->rk r (arrOf t) j<rk r (arrOf t) i)
   (Q:=fun c t'=>t'=t/\∃lo hi,c=(none,lo,hi)/\lo<=j/\(∀i,i<lo->rk r (arrOf t) i<=rk r (arrOf t) j)/\∀i,lo<=i->i<j->rk r (arrOf t) j<rk r (arrOf t) i)
   ?st2 ?fi2 ⟨rfl,0,j,rfl,by lia,by lia,by lia,fun i z=>by lia,fun i z y=>by lia⟩) ?po2)
  case st2 =>
   rintro x c t' hx hxj ⟨rfl,lo,hi,rfl,a1,a2,a3,a4,a5⟩;dsimp only;by_cases z:lo>=hi
   ·rw[if_pos z];exact Cr ⟨rfl,lo,hi,rfl,by lia,a4,fun i b c=>a5 i (by lia) c⟩
   ·rw[if_neg z];refine Bx (z4h T hS mt (by lia) (by lia) ?_);by_cases y:rk r (arrOf t') j<rk r (arrOf t') ((lo+hi) / 2)
    ·simp only[decide_eq_true y,if_true];refine Cr ⟨rfl,lo,(lo+hi) / 2,rfl,by lia,by lia,by lia,a4,fun i b c=>?_⟩;have:=ut ((lo+hi) / 2) i b (by lia);lia
    ·simp only[decide_eq_false y,Bq,if_false];refine Cr ⟨rfl,(lo+hi) / 2+1,hi,rfl,by lia,a2,by lia,fun i b=>?_,a5⟩;have:=ut i ((lo+hi) / 2) (by lia) (by lia);lia
  case fi2 =>
   rintro c t' ⟨rfl,lo,hi,rfl,a1,a2,a3,a4,a5⟩;exact⟨rfl,lo,hi,rfl,by lia,a4,fun i b c=>a5 i (by lia) c⟩
  case po2 =>
   rintro c t' ⟨rfl,lo,hi,rfl,a1,a4,a5⟩;rw[moveDown'_eq];have zs:j<(arrOf t').size:=by rw[mt.sz];lia
   refine Bx (Ts (Cr ⟨rfl,mt.put (bubble_perm _ _ _),fun i i' b c=>?_⟩));have e1:j-(j-lo)=lo:=by lia
   rw[z8p zs (by lia),z8p zs (by lia),e1];by_cases b1:i=lo
   ·grind
   ·rw[if_neg b1];by_cases b2:i'=lo
    ·grind
    ·rw[if_neg b2];by_cases b3:lo<i/\i<=j
     ·rw[if_pos b3,if_pos (by lia)];exact ut _ _ (by lia) (by lia)
     ·rw[if_neg b3];by_cases b4:lo<i'/\i'<=j
      ·grind
      ·rw[if_neg b4];exact ut _ _ b (by lia)
 case fin =>
  rintro c t ⟨ec,mt,ut⟩;have e:min (max (max k 1) n) n=n:=by lia
  rw[e] at ut;exact⟨ec,mt,ut⟩
 case init =>
  intro i j a b;by_cases z:k=0
  ·grind
  ·exact u i j a (by lia)
 case post =>
  rintro c t ⟨rfl,mt,ut⟩;exact Cr (h t mt ut)
structure Fin' (a₀:Array Keyed) (r:Value->Int) (st:Hh):Prop where
 pm:(arrOf st).Perm a₀
 fl:Ss st=none
 pd:Oh st=#[(0,a₀.size,0)]
 up:Up r (arrOf st) a₀.size
theorem x0d{st:Hh}(T:Tells prog w A s kd S r)(hS:∀p∈a₀.toList,S p.1)(m:Mid kd a₀ st)(h2:2<=a₀.size)(h64:a₀.size<64)(h:∀t,(arrOf t).Perm a₀->Ss t=none->Up r (arrOf t) a₀.size->Q () t):wpS (model prog w) A E s sortRuns' Q st:=by
 rw[sortRuns'_eq];have em:minRun' a₀.size a₀.size 0=a₀.size:=by
  cases z:a₀.size with
  |zero=>rfl
  |succ f=>rw[minRun'_succ,if_pos (by lia)]
 have fin:∀{t:Hh},Mid kd a₀ t->Up r (arrOf t) a₀.size->Fin' a₀ r (setPending t ((Oh t).push (0,a₀.size,0))):=fun{t} mt ut=>⟨mt.pm,mt.fl,by show(Oh t).push _=_;rw[mt.pd];rfl,ut⟩
 have none_back:∀{t:Hh},Mid kd a₀ t->(Oh t).back?=none:=fun{t} mt=>by rw[mt.pd];rfl
 refine Bx (Pk ?_);simp only[m.sz,em];refine Bx (Su (Jq (fun x c t=>(x=0/\c=(none,0)/\Mid kd a₀ t)\/(1<=x/\c=(none,a₀.size)/\Fin' a₀ r t)) (Q:=fun c t=>c=(none,a₀.size)/\Fin' a₀ r t) ?st1 ?fi1 (.inl ⟨rfl,rfl,m⟩)) ?po1)
 case st1 =>
  intro x c t _ hx o;rcases o with⟨rfl,rfl,mt⟩|⟨x1,rfl,f⟩
  ·dsimp only;rw[if_neg (by lia)];simp only[Rf,Nat.min_self,Nat.zero_add];refine Bx (run_ok T hS mt (Ak _) (by lia) fun j t' mt' j1 j2 ut'=>?_);dsimp only;by_cases z:j<a₀.size
   ·rw[if_pos z];refine Bx (wpS_lift (Lb ⟨rfl,Bx (ins_ok T hS mt' (Ak _) j2 ut' fun t2 mt2 ut2=>?_)⟩));refine Bx (Pk ?_);rw[none_back mt2];exact Bx (Ts (Cr (.inr ⟨by lia,rfl,fin mt2 ut2⟩)))
   ·rw[if_neg z];have ej:j=a₀.size:=by lia
    subst ej;refine Bx (Pk ?_);rw[none_back mt'];exact Bx (Ts (Cr (.inr ⟨by lia,rfl,fin mt' ut'⟩)))
  ·dsimp only;rw[if_pos (Ak _)];exact Cr ⟨rfl,f⟩
 case fi1 =>
  intro c t o;rcases o with⟨z,_⟩|⟨_,ec,f⟩
  ·lia
  ·exact⟨ec,f⟩
 case po1 =>
  rintro c t ⟨rfl,f⟩;refine Bx (Su (Jq (fun _ c t'=>t'=t/\c=(none,())) (Q:=fun c t'=>t'=t/\c=(none,())) ?st3 (fun _ _ z=>z) ⟨rfl,rfl⟩) ?po3)
  case st3 =>
   rintro x c t' _ _ ⟨rfl,rfl⟩;refine Bx (Pk ?_);rw[if_pos (by rw[f.pd];exact Ak 1)];exact Cr ⟨rfl,rfl⟩
  case po3 =>
   rintro c t' ⟨rfl,rfl⟩;exact Cr (h _ f.pm f.fl f.up)
end
end SB
namespace PySem.Rv
open Sem (wp)
abbrev itemObj(d:Addr)(i n ep:Nat)(f0 f1 ok ov:Value):Obj:={ cls:=.type "dict_itemiterator",dict:=none,data:=.fields #[f0,f1,.ref d,.int i 0,.int n 0,.int ep 0,ok,ov],slots:=#[] }
def ItemIt(h:Heap)(it d:Addr)(i n ep:Nat):Prop:=∃f0 f1 ok ov,h.get? it=some (itemObj d i n ep f0 f1 ok ov)/\(f0=.none\/∃a:Addr,f0=Ek a)
theorem ItemIt.typeIs{s:Af}(x:ItemIt s.heap it d i n ep):s.TypeIs (.ref it) "dict_itemiterator" := by
 obtain⟨f0,f1,ok,ov,e,_⟩:=x;exact⟨_,e,rfl⟩
theorem ItemIt.lt(x:ItemIt h it d i n ep):it<h.objs.size:=by
 obtain⟨f0,f1,ok,ov,e,_⟩:=x;exact Al e
theorem ItemIt.keep(x:ItemIt h it d i n ep)(k:∀o,h.get? it=some o->h'.get? it=some o):ItemIt h' it d i n ep:=by
 obtain⟨f0,f1,ok,ov,e,z⟩:=x;exact⟨f0,f1,ok,ov,k _ e,z⟩
section
variable{prog:Program}{w:World}{A:Around}{E:Value->Af->Prop}{s:Af}{it d v:Addr}{i ep:Nat}{dob:Obj}{ens:Array Jh}
theorem items_iter(hv:s.heap.IsItemsView v d)(hdo:s.heap.get? d=some dob)(hda:dob.data=.dict ens ep)(hQ:Q (.ref s.heap.objs.size) { s with heap:=s.heap.push (itemObj d 0 ens.size ep .none (.bool false) .none .none) }):wpAny (model prog w) A (Pa (.ref v)) Q E s:=by
 obtain⟨o,ho,hc,hf⟩:=id hv;refine Ry hv.typeIs Ox (Co Ox hv.typeIs F.entry_dict_items_iter ?_ (F.args_dict_items_iter_1 _));unfold Dw.«dict_items.__iter__»;refine Ab (Ae (Ab ?_));unfold Dw.Dict_items.dictOf;refine Ab (Ca ho hf rfl (Ae (Ab ?_)));unfold Dw.Dict_items.newIterator;refine Ab (Gk hdo hda (Ab (Hg hdo hda ?_)));simp only[show Hx "dict_itemiterator" = true from by decide,if_true];refine By (Ae ⟨_,rfl, "dict_itemiterator",_,⟨_,As _ rfl,rfl⟩,Dx.lookup,?_⟩) (by simp[sizeOk,Jy,Ea]);simpa[Ek,itemObj,Jy] using hQ
theorem q6l(e:s.heap.get? it=some (itemObj d i n ep f0 f1 ok ov))(hk:k<8)(hQ:∀h',h'.get? it=some { cls:=.type "dict_itemiterator",dict:=none,data:=.fields ((#[f0,f1,.ref d,.int i 0,.int n 0,.int ep 0,ok,ov]:Array Value).setIfInBounds k x),slots:=#[] }->Ge it s.heap h'->Q () { s with heap:=h' }):
  wpAny (model prog w) A (setField (.ref it) k x) Q E s:=Gf e (by simpa using hk) hQ
theorem owned(x:ItemIt s.heap it d i n ep)(hQ:∀b h',ItemIt h' it d i n ep->Ge it s.heap h'->Q b { s with heap:=h' }):
  wpAny (model prog w) A (Dw.Dict_items.ownedTupleIsFree (.ref it)) Q E s:=by
 obtain⟨f0,f1,ok,ov,e,z⟩:=id x;refine Ab (Ca e rfl rfl ?_);rcases z with rfl|⟨a,rfl⟩
 ·exact Ae (hQ true s.heap x (Na _ _))
 ·show wpAny _ _ (loadIfAlive (Int.toNat (a:Int)) >>= _) _ _ _;have al:∀{Q':Option Obj->Af->Prop},Q' (s.heap.get? (Int.toNat (a:Int))) s->wpAny (model prog w) A (loadIfAlive (Int.toNat (a:Int))) Q' E s:=fun h' _ _ _=>h';refine Ab (al ?_);by_cases hn:(s.heap.get? (Int.toNat (a:Int))).isNone=true
  ·rw[if_pos hn];exact Ae (hQ true s.heap x (Na _ _))
  ·rw[if_neg hn];refine Ab (Ca e rfl (x:=f1) rfl ?_);by_cases hb:(f1 != Value.bool true)=true
   ·rw[if_pos hb];refine Ab (q6l e (by decide) fun h' e' sb=>Ae (hQ false h' ⟨_,_,_,_,e',.inr ⟨a,rfl⟩⟩ sb))
   ·rw[if_neg hb];exact Ae (hQ false s.heap x (Na _ _))
theorem items_item(x:ItemIt s.heap it d i ens.size ep)(hdo:s.heap.get? d=some dob)(hda:dob.data=.dict ens ep)(hlt:i<ens.size)(hQ:∀h',ItemIt h' it d (i+1) ens.size ep->h'.get? s.heap.objs.size=some { cls:=.type "tuple",data:=.seq #[ens[i].key,ens[i].val] }->h'.objs.size=s.heap.objs.size+1 ->
   (∀b o,b≠it->s.heap.get? b=some o->h'.get? b=some o)->Q (some (.ref s.heap.objs.size)) { s with heap:=h' }):wpAny (model prog w) A (Jg (.ref it)) Q E s:=by
 obtain⟨f0,f1,ok,ov,e,z⟩:=id x;have hT:=x.typeIs;refine Ab (En (Dh hT Dx (Co Dx hT Le ?_ (Ku _))));refine Ab (Ae (Ab (Ab ?_)));first|refine Ab (Fg hT (Ae ?_))|refine Ab (Gn hT (Ae ?_))
 refine Ab (Lz e rfl ?_);simp only[show Hx "dict_itemiterator" = true from by decide,if_true];refine Ab (Ae (Ab (Gk hdo hda ?_)));rw[if_neg (by simp)];refine Ab (Ae (Ab (Hg hdo hda ?_)));rw[if_neg (by simp)];refine Ae ?_;simp only[show ¬((i:Int)<0) from by lia,if_false,Eh,Du hlt];refine Ab ?_;first|refine Ab (Fg hT (Ae ?_))|refine Ab (Gn hT (Ae ?_))
 refine Ab (Ki hT ?_);show wpAny _ _ (setField (.ref it) 3 (Ek ((i:Int)+1)) >>= _) _ _ s;refine Ab (q6l e (by decide) fun h₁ e₁ sb₁=>?_);have x₁:ItemIt h₁ it d (i+1) ens.size ep:=⟨f0,f1,ok,ov,by rw[e₁];simp[itemObj,Ek],z⟩
 refine Ab (Bz ?_);refine Ab (Ki x₁.typeIs (Ab (Ki x₁.typeIs ?_)));have z₁:=sb₁.1;have hil:=Bf x.lt;refine Ab (Pf ?_);refine Ab (owned (x₁.keep fun o q=>Ag _ q) fun b h₂ x₂ sb₂=>?_);have t₂:h₂.get? s.heap.objs.size=some { cls:=.type "tuple",data:=.seq #[ens[i].key,ens[i].val] }:=by
  rw[sb₂.2 _ (Cd hil),<- z₁];exact As _ rfl
 have n₂:h₂.objs.size=s.heap.objs.size+1:=by rw[sb₂.1];show(h₁.push _).objs.size=_;rw[Gp,z₁]
 have k₂:∀b o,b≠it->s.heap.get? b=some o->h₂.get? b=some o:=fun b o hb q=>by
  rw[sb₂.2 b hb];exact Ag _ ((sb₁.2 b hb).trans q)
 have ez:(Value.ref h₁.objs.size)=.ref s.heap.objs.size:=by rw[z₁]
 cases b with
 |false =>
  refine Ae (Ae ⟨_,rfl,Ae ?_⟩);rw[ez];exact hQ h₂ x₂ t₂ n₂ k₂
 |true =>
  obtain⟨g0,g1,ok2,ov2,e₂,_⟩:=x₂;refine Ab (Ca e₂ rfl rfl (Ab (Ca e₂ rfl rfl ?_)));refine Ab (q6l e₂ (by decide) fun h₃ e₃ sb₃=>?_);refine Ab (q6l e₃ (by decide) fun h₄ e₄ sb₄=>?_);refine Ab (q6l e₄ (by decide) fun h₅ e₅ sb₅=>?_);refine Ab (q6l e₅ (by decide) fun h₆ e₆ sb₆=>?_);have kk:∀b o,b≠it->h₂.get? b=some o->h₆.get? b=some o:=fun b o hb q=>(sb₆.2 b hb).trans ((sb₅.2 b hb).trans ((sb₄.2 b hb).trans ((sb₃.2 b hb).trans q)))
  refine Ab (wpAny_letGo (Ae (Ae ⟨_,rfl,Ae ?_⟩)));rw[ez];refine hQ h₆ ⟨_,_,_,_,e₆,.inr ⟨_,rfl⟩⟩ (kk _ _ (Cd hil) t₂) ?_ fun b o hb q=>kk b o hb (k₂ b o hb q);rw[sb₆.1];rw[sb₅.1];rw[sb₄.1];rw[sb₃.1];exact n₂
theorem items_end(hh:A.handled=none)(x:ItemIt s.heap it d i ens.size ep)(hdo:s.heap.get? d=some dob)(hda:dob.data=.dict ens ep)(hge:ens.size<=i)(hQ:∀h',Sk it s.heap h'->Q none { s with heap:=h' }):wpAny (model prog w) A (Jg (.ref it)) Q E s:=by
 obtain⟨f0,f1,ok,ov,e,z⟩:=id x;have hT:=x.typeIs;refine Ab (En (Dh hT Dx (Co Dx hT Le ?_ (Ku _))));refine Ab (Ae (Ab (Ab ?_)));first|refine Ab (Fg hT (Ae ?_))|refine Ab (Gn hT (Ae ?_))
 refine Ab (Lz e rfl ?_);simp only[show Hx "dict_itemiterator" = true from by decide,if_true];refine Ab (Ae (Ab (Gk hdo hda ?_)));rw[if_neg (by simp)];refine Ab (Ae (Ab (Hg hdo hda ?_)));rw[if_neg (by simp)];refine Ae ?_;simp only[show ¬((i:Int)<0) from by lia,if_false,Eh,Ou hge];refine Ab ?_;first|refine Ab (Fg hT (Ae ?_))|refine Ab (Gn hT (Ae ?_))
 show wpAny _ _ (setField (.ref it) 2 .none >>= _) _ _ s;refine Ab (Gq e rfl (by simp) ?_);show wpAny _ _ (newExc (.type "StopIteration") [] >>= _) _ _ _;refine Ab ?_;refine Ab (By (Ab (wpAny_of_eq (by first|rfl|(simp only[firstArgMember];rfl)) ?_)) (by size_fits));refine By ?_ (by size_fits);refine Ab (wpAny_handled ?_);rw[show A.in1.handled=none from hh];refine Ab (Ae (wpAny_throw ?_));refine Ab (Nw ⟨_,As _ rfl,rfl⟩ Pg ?_);exact Ae (hQ _ (((Lq ..).extBut.push _).push _))
end
end PySem.Rv
namespace SB
open PySem PyProof.Rows TX
abbrev Pth:=List (List Nat)
def pLt:Pth->Pth->Bool
 |[],[]=>false
 |[],_::_=>true
 |_::_,[]=>false
 |a::r,b::t=>if a=b then pLt r t else decide (a<b)
theorem q3q(a b:List Nat)(r t:Pth):pLt (a::r) (b::t)=if a=b then pLt r t else decide (a<b):=rfl
theorem q4d:∀p:Pth,pLt p p=false
 |[]=>rfl
 |a::r=>by rw[q3q,if_pos rfl];exact q4d r
theorem q8n{c:List Nat}(h:a<b)(h':b<c):a<c:=List.lt_trans h h'
theorem x0e{b:List Nat}(h:¬a<b)(h':¬b<a):a=b:=List.le_antisymm (List.not_lt.mp h') (List.not_lt.mp h)
theorem q8o:∀{p q t:Pth},pLt p q=true->pLt q t=true->pLt p t=true
 |[],[],_,h,_=>by cases h
 |_::_,[],_,h,_=>by cases h
 |_,_::_,[],_,h=>by cases h
 |[],_::_,_::_,_,_=>rfl
 |a::p,b::q,c::t,h,h'=>by
  rw[q3q] at h h' ⊢;by_cases e1:a=b
  ·subst e1;rw[if_pos rfl] at h;by_cases e2:a=c
   ·rw[if_pos e2] at h' ⊢;exact q8o h h'
   ·rw[if_neg e2] at h' ⊢;exact h'
  ·rw[if_neg e1] at h;by_cases e2:b=c
   ·subst e2;rw[if_neg e1];exact h
   ·rw[if_neg e2] at h';have h1:=of_decide_eq_true h;have h2:=of_decide_eq_true h';have h3:=q8n h1 h2;rw[if_neg (fun e=>by subst e;exact absurd (q8n h1 h2) (List.lt_irrefl _))];exact decide_eq_true h3
theorem q9q:∀{p q:Pth},pLt p q=false->pLt q p=false->p=q
 |[],[],_,_=>rfl
 |[],_::_,h,_=>by cases h
 |_::_,[],_,h=>by cases h
 |a::p,b::q,h,h'=>by
  rw[q3q] at h h';by_cases e:a=b
  ·subst e;rw[if_pos rfl] at h h';rw[q9q h h']
  ·rw[if_neg e] at h;rw[if_neg (Cd e)] at h';exact absurd (x0e (of_decide_eq_false h) (of_decide_eq_false h')) e
def pRank(ps:List Pth)(p:Pth):Nat:=(ps.filter fun q=>pLt q p).length
theorem q8p{α:Type}{f g:α->Bool}:∀(l:List α),(∀x∈l,f x=true->g x=true)->(l.filter f).length<=(l.filter g).length
 |[],_=>Ak _
 |x::r,h=>by
  have ih:=q8p r fun y hy=>h y (Ai _ hy);by_cases hf:f x=true
  ·simp_all
  ·rw[Ka hf];by_cases hg:g x=true
   ·rw[Kb hg];exact Dp ih
   ·simp_all
theorem q8q{α:Type}{f g:α->Bool}{y:α}:∀(l:List α),(∀x∈l,f x=true->g x=true)->y∈l->f y=false->g y=true->(l.filter f).length<(l.filter g).length
 |[],_,hy,_,_=>by cases hy
 |x::r,h,hy,h1,h2=>by
  rcases Az.mp hy with e|hy
  ·subst e;rw[Ka (by rw[h1];decide),Kb h2];exact Nat.lt_succ_of_le (q8p r fun z hz=>h z (Ai _ hz))
  ·have ih:=q8q r (fun z hz=>h z (Ai _ hz)) hy h1 h2;by_cases hf:f x=true
   ·simp_all
   ·rw[Ka hf];by_cases hg:g x=true
    ·rw[Kb hg];exact Hq ih
    ·simp_all
theorem q6m(hp:p∈ps)(h:pLt p q=true):pRank ps p<pRank ps q :=
 q8q ps (fun x _ hx=>q8o hx h) hp (q4d p) h
theorem q9r(hp:p∈ps)(hq:q∈ps):pLt p q=decide ((pRank ps p:Int)<(pRank ps q:Int)):=by
 cases h:pLt p q with
 |true=>have:=q6m hp h;exact(decide_eq_true (by lia)).symm
 |false =>
  cases h':pLt q p with
  |true=>have:=q6m hq h';exact(decide_eq_false (by lia)).symm
  |false=>rw[q9q h h'];exact(decide_eq_false (by lia)).symm
def PathAt(h:Heap)(v:Value)(p:Pth):Prop:=∃a its,v=.ref a/\IsTup h a its/\Hc its.toList (p.map mk)
theorem mk_inj(h:mk a=mk b):a=b:=by have:=congrArg tl h;rwa [q0s,q0s] at this
theorem q5g:∀{vs:List Value} {ss ts:List Str},Hc vs ss->Hc vs ts->ss=ts
 |_,_,_,.nil,.nil=>rfl
 |_,_,_,.cons y t h,.cons _ _ h'=>by rw[q5g h h']
theorem q6n:∀{p q:Pth},p.map mk=q.map mk->p=q
 |[],[],_=>rfl
 |[],_::_,h=>by simp at h
 |_::_,[],h=>by simp at h
 |a::p,b::q,h=>by
  rw[Ao,Ao] at h;injection h with h1 h2;rw[mk_inj h1,q6n h2]
theorem q1x:∀{vs:List Value} {p:Pth},Hc vs (p.map mk)->vs.length=p.length
 |_,[],.nil=>rfl
 |vs,n::p,h=>by
  rw[Ao] at h;cases h with
  |cons _ _ h'=>rw[Aw,Aw,q1x h']
theorem IsTup.inj(h1:IsTup h a x)(h2:IsTup h a y):x=y:=by
 obtain⟨o,e,_,n,d⟩:=h1;obtain⟨o',e',_,n',d'⟩:=h2;rw[e] at e';cases e';rw[d] at d';cases d';rfl
theorem PathAt.inj(h1:PathAt h v p)(h2:PathAt h v q):p=q:=by
 obtain⟨a,its,rfl,t,s⟩:=h1;obtain⟨a',its',e,t',s'⟩:=h2;cases e;rw[IsTup.inj t t'] at s;exact q6n (q5g s s')
theorem IsTup.keep(t:IsTup h a x)(k:∀o,h.get? a=some o->h'.get? a=some o):IsTup h' a x:=let ⟨o,e,r⟩:=t;⟨o,k o e,r⟩
theorem PathAt.keep(x:PathAt h v p)(k:∀b o,h.get? b=some o->h'.get? b=some o):PathAt h' v p:=let ⟨a,its,e,t,s⟩:=x;⟨a,its,e,IsTup.keep t fun o=>k a o,s⟩
def dP(p:Pth):List PyData:=p.map fun n=>PyData.str (mk n)
def Low(p:Pth):Prop:=∀n∈p,∀c∈n,c<128
theorem q6o:∀{p:Pth} {vs:List Value},Hc vs (p.map mk)->∃as,ReadsAll h vs (dP p) as
 |[],_,.nil=>⟨_,.nil⟩
 |n::p,vs,x=>by
  rw[Ao] at x;cases x with
  |cons y t s =>
   obtain⟨as,h'⟩:=q6o s;exact⟨_,.cons (.str _ t) h'⟩
theorem PathAt.reads(x:PathAt h v p):∃as,Reads h v (.tuple (dP p)) as:=by
 obtain⟨a,its,rfl,⟨o,e,c,n,d⟩,s⟩:=x;obtain⟨as,r⟩:=q6o s;exact⟨_,.tuple e c d r⟩
theorem z4k(h:∀c∈l,c<128):Jp (mk l)=true:=by
 unfold Jp;simp only[mk,List.all_toArray,Cq];intro c hc;have:=h c hc;simp;lia
theorem z0r:∀{p:Pth},Low p->Kc (dP p)=true
 |[],_=>rfl
 |n::r,h=>by
  have h1:=z4k (h n Am);have ih:=z0r fun x hx=>h x (Ai _ hx);show Kc (PyData.str (mk n)::dP r)=true;simp only[Kc,Ih,h1,ih,Bool.and_self]
theorem q7h:∀p:Pth,Ey (dP p)<=1
 |[]=>by simp[dP,Ey]
 |n::r=>by
  have ih:=q7h r;show Ey (PyData.str (mk n)::dP r)<=1;simp only[Ey,Mi];lia
theorem q5h:∀p q:Pth,Ep (dP p) (dP q)=decide (p=q)
 |[],[]=>rfl
 |[],_::_=>rfl
 |_::_,[]=>rfl
 |a::p,b::q=>by
  show Ep (PyData.str (mk a)::dP p) (PyData.str (mk b)::dP q)=_;have e:Ep (PyData.str (mk a)::dP p) (PyData.str (mk b)::dP q)=(Ds (PyData.str (mk a)) (PyData.str (mk b))&&Ep (dP p) (dP q)):=by simp only[Ep]
  have e2:Ds (PyData.str (mk a)) (PyData.str (mk b))=(mk a==mk b):=by simp only[Ds]
  rw[e,e2,q5h p q];by_cases h:a=b
  ·subst h;simp
  ·grind
section
variable{prog:Program}{w:World}{A:Around}{E:Value->Af->Prop}{s:Af}{x y:Value}{p q:Pth}
theorem z7i(hx:PathAt s.heap x p)(hy:PathAt s.heap y q)(lp:Low p)(lq:Low q)(hu:A.units+2<cLine):Cv A s x y (decide (p=q)):=by
 obtain⟨as,r1⟩:=hx.reads;obtain⟨bs,r2⟩:=hy.reads;have h:=Sv (.tuple (dP p)) (.tuple (dP q)) A s x y as bs r1 r2 (by simp only[Ih,z0r lp]) (by simp only[Ih,z0r lq]) (by
  have h1:(PyData.tuple (dP p)).depth=Ey (dP p)+1:=by simp only[Mi]
  have:=q7h p;lia)
 have e:Ds (.tuple (dP p)) (.tuple (dP q))=decide (p=q):=by simp only[Ds,q5h]
 rwa [e] at h
theorem q8r(l b:Addr)(items items2:Array Value)(n n2:Nat)(dd dd2:Option Addr)(sl sl2:Array (Option Value))(p q:Pth)(hi:Hc items.toList (p.map mk))(hj:Hc items2.toList (q.map mk)):
  Meets (Dw.«tuple.__lt__» ⟨[.ref l,.ref b],[]⟩)
   (fun _ R s=>s.heap.get? l=some { cls:=.type "tuple",dict:=dd,data:=.seq items n,slots:=sl }/\s.heap.get? b=some { cls:=.type "tuple",dict:=dd2,data:=.seq items2 n2,slots:=sl2 } /\
    R (.ok (.ret (.bool (pLt p q)))) s) :=
 .of_wp fun prog w A R s h=>by
  obtain⟨hp,g,d,tk,os⟩:=s;obtain⟨hl,hb,h⟩:=h;have f2:=AutoSeq1.sub_tuple_tuple;have z1:items.size=p.length:=by have:=q1x hi;simpa using this
  have z2:items2.size=q.length:=by have:=q1x hj;simpa using this
  wp_walk using Lg hl,Lg hb,wpAny_forIn_list _ (fun rest c s'=>c.1=none/\s'=⟨hp,g,d,tk,os⟩/\∃(vs ws:List Value) (p' q':Pth),rest=vs.zip ws /\
   Hc vs (p'.map mk)/\Hc ws (q'.map mk)/\p'.length+items2.size=q'.length+items.size/\R (.ok (.ret (.bool (pLt p' q')))) ⟨hp,g,d,tk,os⟩) _
  case turn =>
   rintro⟨y,x⟩ rest c s' ⟨hb',rfl,vs,ws,p',q',hz,hvi,hwi,hlen,hR⟩;cases p' with
   |nil=>cases hvi;rw[Rz] at hz;cases hz
   |cons m p' =>
    cases q' with
    |nil=>cases hwi;rw[Rg] at hz;cases hz
    |cons m' q' =>
     rw[Ao] at hvi hwi;cases hvi with
     |cons _ t hvi' =>
      cases hwi with
      |cons _ u hwi' =>
       rw[Jr] at hz;injection hz with hyx hrest;injection hyx with hy hx;subst hy hx;rw[q3q] at hR;simp only[Aw] at hlen;refine Ab (Md (mk m) t (mk m') u (A:=A.in1) (s:=⟨hp,g,d,tk,os⟩) prog w _ _ ?_);by_cases e:m=m'
       ·subst e;rw[if_pos rfl] at hR;rw[beq_self_eq_true]
        wp_walk
        exact⟨rfl,rfl,_,_,_,_,hrest,hvi',hwi',by lia,hR⟩
       ·rw[if_neg e] at hR;have e2:(mk m==mk m')=false:=beq_eq_false_iff_ne.mpr fun z=>e (mk_inj z);rw[e2];have hri:∀(E:Value->Af->Prop) (Q:Value->Af->Prop),Q (.bool (decide (m<m'))) ⟨hp,g,d,tk,os⟩->wpAny (model prog w) A.in1 (richCompare .Lt (.str (mk m) t) (.str (mk m') u)) Q E ⟨hp,g,d,tk,os⟩:=fun E Q hq =>
         (Qn (by
          have e3:(mk m).cps.toList=m:=q0s m;have e4:(mk m').cps.toList=m':=q0s m';rw[e3,e4];exact hq):wpAny (model prog w) A.in1 (Bs .Lt (.str (mk m) t) (.str (mk m') u)) Q E ⟨hp,g,d,tk,os⟩)
        wp_walk using hri
        exact⟨_,rfl,by simpa using hR⟩
  case fin =>
   rintro⟨b1,b2⟩ s' ⟨hb',rfl,vs,ws,p',q',hz,hvi,hwi,hlen,hR⟩;simp only at hb';subst hb';have hv:pLt p' q'=decide (items.size<items2.size):=by
    cases p' with
    |nil =>
     cases q' with
     |nil=>exact(decide_eq_false (by simp only[Fh] at hlen;lia)).symm
     |cons m' q'=>exact(decide_eq_true (by simp only[Fh,Aw] at hlen;lia)).symm
    |cons m p' =>
     cases q' with
     |nil=>exact(decide_eq_false (by simp only[Fh,Aw] at hlen;lia)).symm
     |cons m' q' =>
      rw[Ao] at hvi hwi;cases hvi with
      |cons _ t _=>cases hwi with|cons _ u _=>rw[Jr] at hz;cases hz
   rw[hv] at hR
   wp_walk
   exact⟨_,rfl,by simpa[Dw.Tuple.tupleCompareSizes] using hR⟩
  case h =>
   exact⟨rfl,rfl,items.toList,items2.toList,p,q,rfl,hi,hj,by lia,h⟩
theorem z7j{Q:Value->Af->Prop}(hx:PathAt s.heap x p)(hy:PathAt s.heap y q)(hu:A.units<cLine)(h:Q (.bool (pLt p q)) s):wpAny (model prog w) A (Bs .Lt x y) Q E s:=by
 obtain⟨l,items,rfl,hl,hi⟩:=hx;obtain⟨b,items2,rfl,hb,hj⟩:=hy;obtain⟨⟨cls,dd,data,sl⟩,ho,hc,n,hd⟩:=id hl;obtain⟨⟨cls2,dd2,data2,sl2⟩,ho2,hc2,n2,hd2⟩:=id hb;simp only at hc hd hc2 hd2;subst hc hd hc2 hd2;exact richCompare_meets_room (op:=.Lt) ⟨_,ho,rfl⟩ ⟨_,ho2,rfl⟩ PySem.F.slot_tuple_lt PySem.F.entry_tuple_lt (PySem.F.args_tuple_lt_2 _ _) (q8r l b items items2 n n2 dd dd2 sl sl2 p q hi hj)
  ⟨ho,ho2,show Value.bool (pLt p q)≠Value.notImplemented/\Q (.bool (pLt p q)) s from⟨(fun x=>nomatch x),h⟩⟩ hu
theorem x0f{b:Bool}{m m':List Nat}{t u:Tok}{Q:Bool->Af->Prop}(h:Q (decide (m<m')) s):wpAny (model prog w) A (oneLt' b (.str (mk m) t) (.str (mk m') u)) Q E s:=by
 have e3:(mk m).cps.toList=m:=q0s m;have e4:(mk m').cps.toList=m':=q0s m';cases b with
 |true=>exact oneLt_str (by rw[e3,e4];exact h)
 |false =>
  rw[oneLt'_eq];simp only[Bq,if_false];exact Ab ((Qn (by rw[e3,e4];exact Cu h):wpAny (model prog w) A (Bs .Lt (.str (mk m) t) (.str (mk m') u)) _ E s))
theorem z7k{Q:Bool->Af->Prop}(hx:PathAt s.heap x p)(hy:PathAt s.heap y q)(hu:A.units<cLine)(h:Q (pLt p q) s):wpAny (model prog w) A (oneLt' false x y) Q E s:=by
 rw[oneLt'_eq];simp only[Bq,if_false];exact Ab (z7j hx hy hu (Cu h):wpAny (model prog w) A (Bs .Lt x y) _ E s)
theorem z4l{b:Bool}{Q:Bool->Af->Prop}(hx:PathAt s.heap x p)(hy:PathAt s.heap y q)(h:Q (pLt p q) s):wpAny (model prog w) A (keyLt' (Rr b) x y) Q E s:=by
 obtain⟨l,items,rfl,⟨o,ho,hc,n,hd⟩,hi⟩:=hx;obtain⟨m,items2,rfl,⟨o2,ho2,hc2,n2,hd2⟩,hj⟩:=hy;refine Ab (m:=Gb (.ref l)) (Js ho hd (Ab (m:=Gb (.ref m)) (Js ho2 hd2 ?_)));have z1:items.size=p.length:=by have:=q1x hi;simpa using this
 have z2:items2.size=q.length:=by have:=q1x hj;simpa using this
 refine Ab (wpAny_forIn_list _ (fun rest c s'=>c=(none,())/\s'=s/\∃(vs ws:List Value) (p' q':Pth) (k:Nat),rest=(vs.zip ws).zipIdx k/\Hc vs (p'.map mk)/\Hc ws (q'.map mk) /\
   p'.length+items2.size=q'.length+items.size/\Q (pLt p' q') s) (fun c s'=>match c.1 with|some r=>Q r s'|none=>c.1=none/\Q (decide (items.size<items2.size)) s') ?turn ?fin _ _ ?h0|>fun z=>Bp z ?post fun _ _ e=>e)
 case post =>
  rintro⟨c,⟨⟩⟩ s' hc;cases c with
  |none=>exact Ae hc.2
  |some r=>exact Ae hc
 case h0=>exact⟨rfl,rfl,items.toList,items2.toList,p,q,0,rfl,hi,hj,by lia,h⟩
 case fin =>
  rintro c s' ⟨rfl,rfl,vs,ws,p',q',k,hz,hv,hw,hl,hQ⟩;have e:pLt p' q'=decide (items.size<items2.size):=by
   cases p' with
   |nil =>
    cases q' with
    |nil=>exact(decide_eq_false (by simp only[Fh] at hl;lia)).symm
    |cons m' q'=>exact(decide_eq_true (by simp only[Fh,Aw] at hl;lia)).symm
   |cons m p' =>
    cases q' with
    |nil=>exact(decide_eq_false (by simp only[Fh,Aw] at hl;lia)).symm
    |cons m' q' =>
     rw[Ao] at hv hw;cases hv with
     |cons _ t _=>cases hw with|cons _ u _=>rw[Jr,Sw] at hz;cases hz
  rw[e] at hQ;exact⟨rfl,hQ⟩
 case turn =>
  rintro⟨⟨y,x⟩,i⟩ rest c s' ⟨rfl,rfl,vs,ws,p',q',k,hz,hv,hw,hl,hQ⟩;cases p' with
  |nil=>cases hv;rw[Rz] at hz;cases hz
  |cons m p' =>
   cases q' with
   |nil=>cases hw;rw[Rg] at hz;cases hz
   |cons m' q' =>
    rw[Ao] at hv hw;cases hv with
    |cons _ t hv' =>
     cases hw with
     |cons _ u hw' =>
      rw[Jr,Sw] at hz;injection hz with h1 h2;injection h1 with h1 h3;injection h1 with h4 h5;subst h4 h5 h3;rw[q3q] at hQ;simp only[Aw] at hl;refine Ab (Md (mk m) t (mk m') u (A:=A) (s:=s') prog w _ _ ?_);by_cases e:m=m'
      ·subst e;rw[if_pos rfl] at hQ;rw[beq_self_eq_true];simp only[Qi,Bq,if_false];exact Ae ⟨rfl,rfl,_,_,_,_,_,h2,hv',hw',by lia,hQ⟩
      ·rw[if_neg e] at hQ;have e2:(mk m==mk m')=false:=beq_eq_false_iff_ne.mpr fun z=>e (mk_inj z);rw[e2];simp only[Bool.not_false,if_true];exact Ab (x0f (b:=b&&i==0) (Ae hQ))
def PairAt(h:Heap)(v:Value)(p:Pth)(m:Value):Prop:=∃a k,v=.ref a/\IsTup h a #[k,m]/\PathAt h k p
theorem PairAt.keep{h h':Heap}{v m:Value}{p:Pth}(x:PairAt h v p m)(k:∀b o,h.get? b=some o->h'.get? b=some o):PairAt h' v p m:=let ⟨a,z,e,t,s⟩:=x;⟨a,z,e,IsTup.keep t fun o=>k a o,s.keep k⟩
theorem z4m{m m':Value}{Q:Bool->Af->Prop}(hx:PairAt s.heap x p m)(hy:PairAt s.heap y q m')(hxy:p=q->x=y)(lp:Low p)(lq:Low q)(hu:A.units+2<cLine)(h:Q (pLt p q) s):wpAny (model prog w) A (keyLt' (Rr false) x y) Q E s:=by
 obtain⟨l,k,rfl,hl,hk⟩:=hx;obtain⟨l2,k2,rfl,hl2,hk2⟩:=hy;obtain⟨o,ho,hc,n,hd⟩:=id hl;obtain⟨o2,ho2,hc2,n2,hd2⟩:=id hl2;refine Ab (m:=Gb (.ref l)) (Js ho hd (Ab (m:=Gb (.ref l2)) (Js ho2 hd2 ?_)));show wpAny (model prog w) A (forIn [((k,k2),0),((m,m'),1)] ((none,()):Option Bool×Unit) _ >>= _) Q E s;rw[Og];refine Ab (Ab (Ab (z7i hk hk2 lp lq hu prog w _ _ ?_)));by_cases e:p=q
 ·have e1:=hxy e;cases e1;have e2:=IsTup.inj hl hl2;have e3:k=k2/\m=m':=by
   have:=congrArg Array.toList e2;simpa using this
  obtain⟨rfl,rfl⟩:=e3;subst e;rw[decide_eq_true rfl];simp only[Qi,Bq,if_false];refine Ae ?_;dsimp only;rw[Og];refine Ab (Ab (Th m (A:=A) (s:=s) prog w _ _ ?_));simp only[Qi,Bq,if_false];refine Ae ?_;dsimp only;rw[List.forIn_nil];refine Ae (Ae ?_);rw[q4d] at h;simpa using h
 ·rw[decide_eq_false e];simp only[Bool.not_false,if_true,Pb];refine Ab (z7k hk hk2 (by lia) (Ae ?_));exact Ae (Ae h)
theorem q9s{α β:Type}{f:α->Sem β}{g:α->β}:∀(l:List α) {Q:List β->Af->Prop},(∀a∈l,∀(Q':β->Af->Prop),Q' (g a) s->wpAny (model prog w) A (f a) Q' E s)->Q (l.map g) s->wpAny (model prog w) A (l.mapM f) Q E s
 |[],Q,_,h=>by rw[List.mapM_nil];exact Ae h
 |a::l,Q,hf,h=>by
  rw[List.mapM_cons];refine Ab (hf a Am _ (Ab (q9s l (fun b hb=>hf b (Ai _ hb)) (Ae h))))
theorem z7l{a:Addr}{its:Array Value}{Q:Option Value->Af->Prop}(t:IsTup s.heap a its)(h:Q its[0]? s):wpAny (model prog w) A (firstOfTuple' (.ref a)) Q E s:=by
 obtain⟨o,ho,hc,n,hd⟩:=t;refine Ab (m:=typeOf (.ref a)) (Hu (T := "tuple") ⟨o,ho,hc⟩ ?_);have e:(Value.type "tuple" != Value.type "tuple")=false:=by decide
 rw[e];simp only[Bq,if_false];exact Ab (m:=Gb (.ref a)) (Js ho hd (Ae h))
theorem z4n{T:String}{vs:List Value}{fs:Value->Value}{Q:Kn->Af->Prop}(hne:vs≠[])(hf:∀v∈vs,∃a its,v=.ref a/\IsTup s.heap a its/\its[0]?=some (fs v))(hT:∀v∈vs,s.TypeIs (fs v) T)(h:Q (Rr (Value.type T != Value.type "tuple")) s):wpAny (model prog w) A (keyKind' vs.toArray) Q E s:=by
 rw[keyKind'_eq,Sa];refine Ab (Ab (q9s (g:=fun v=>some (fs v)) vs (fun v hv Q' h'=>?_) (Ae ?_)))
 ·obtain⟨a,its,rfl,t,e⟩:=hf v hv;exact z7l t (by rw[e];exact h')
 ·have hall:((vs.map fun v=>some (fs v)).toArray.all fun x=>x.isSome)=true:=by simp
  rw[if_pos (by simpa using hall)];refine Ab (Lb ?_);rw[oneTypeOnly'_eq];have e:Array.filterMap id (vs.map fun v=>some (fs v)).toArray=(vs.map fs).toArray:=by
   simp[Qy]
  rw[e,Sa];refine Ab (Ab (Ab (q9s (g:=fun _=>Value.type T) (vs.map fs) (fun x hx Q' h'=>?_) (Ae ?_))))
  ·obtain⟨v,hv,rfl⟩:=Ay.mp hx;exact Hu (hT v hv) h'
  ·cases vs with
   |nil=>exact absurd rfl hne
   |cons v vs =>
    have e0:(((v::vs).map fs).map fun _=>Value.type T).toArray[0]?=some (Value.type T):=by simp
    have ea:((((v::vs).map fs).map fun _=>Value.type T).toArray.all fun x=>x==Value.type T)=true:=by simp
    rw[e0];dsimp only;rw[ea];simp only[if_true];exact Ae (Ae (by simpa using h))
end
open PySem PyProof.Rows TX
section
variable{prog:Program}{w:World}{A:Around}{E:Value->Af->Prop}{s:Af}{kd:Kn}{S:Value->Prop}{r:Value->Int}{vs:List Value}
def KeptBut(a:Addr)(h h':Heap):Prop:=∀b o,b≠a->h.get? b=some o->h'.get? b=some o
structure Sorted (r:Value->Int) (vs:List Value) (out:Array Value):Prop where
 perm:out.toList.Perm vs
 rise:out.toList.Pairwise fun x y=>r x<=r y
theorem z7m{xs:Array Keyed}(hp:xs.Perm (pairsOf vs)):(∀p∈xs.toList,p.1=p.2)/\(xs.map (·.2)).toList.Perm vs:=by
 have hl:xs.toList.Perm (vs.zip vs):=by rw[<- pairsOf_toList];exact Mq.mp hp
 refine⟨fun p hp'=>(mem_zip_self (hl.mem_iff.mp hp')).1,?_⟩;rw[Array.toList_map];have:=hl.map (·.2)
 rwa [List.map_snd_zip (Ak _)] at this
theorem q8s{st:Hh}(hp:(arrOf st).Perm (pairsOf vs))(u:Up r (arrOf st) (pairsOf vs).size):Sorted r vs ((arrOf st).map (·.2)):=by
 obtain⟨h1,h2⟩:=z7m hp;refine⟨h2,?_⟩;rw[List.pairwise_iff_getElem];intro i j hi hj hij;have hi':i<(arrOf st).size:=by simp_all
 have hj':j<(arrOf st).size:=by simp_all
 have e:=u i j (Je hij) (by rw[<- hp.size_eq];exact hj');have k:∀{n:Nat} (hn:n<(arrOf st).size),rk r (arrOf st) n=r (arrOf st)[n].2:=fun{n} hn=>by
  unfold rk;rw[getElem?_pos (arrOf st) n hn];show r (arrOf st)[n].1=_;rw[h1 (arrOf st)[n] (by simp)]
 rw[k hi',k hj'] at e;simpa using e
theorem z4o(ho:s.heap.get? a=some (Lh "list" vs.toArray n))(h64:vs.length<64)(hS:∀v∈vs,S v)(hk:2<=vs.length->∀s' (E:Value->Af->Prop) (Q:Kn->Af->Prop),KeptBut a s.heap s'.heap->Q kd s'->wpAny (model prog w) A (keyKind' vs.toArray) Q E s')(T:∀s',KeptBut a s.heap s'.heap->Tells prog w A s' kd S r)(h:∀out,Sorted r vs out->P (.done (.ret .none)) { s with heap:=sortedHeap s.heap a vs out }):
  wpAny (model prog w) A (Dw.«list.sort» ⟨[.ref a],[]⟩) P E s:=by
 have hz2:=pairsOf_size vs;have hz3:vs.length<=sizeLine:=by rw[Ea];lia
 rw[list_sort_plain];refine Ab (Js ho rfl (Ab (Qj ho rfl ?_)));have o1:=get?_update_seq ho (fun _=>#[]);refine Ab (Sl o1 rfl (Ab (Pf (Ab (wpAny_newList (Bz ?_))))));generalize hg:(((s.heap.update a (Ga fun _=>#[])).push (Lh "tuple" vs.toArray 0)).push (Lh "list" #[] 0))=g;have kg:KeptBut a s.heap g:=fun b o hb e=>by
  rw[<- hg];exact Ag _ (Ag _ ((Br _ _ (Cd hb)).trans e))
 have og:=Ag (Lh "list" #[] 0) (Ag (Lh "tuple" vs.toArray 0) o1);rw[hg] at og;have fin:∀out,Sorted r vs out->P (.done (.ret .none)) { s with heap:=g.update a (Ga fun _=>out) }:=fun out so=>by
  have:=h out so;unfold sortedHeap at this
  rwa [hg] at this
 by_cases h2:vs.length<2
 ·have h2':vs.toArray.size<2:=by simpa using h2
  simp only[if_pos h2'];refine Ab (Ae ?_);refine Ab (Ae (Ab (Sl og rfl (Ab (Qj og rfl ?_ (hsz2:=by show((pairsOf vs).map _).size<=_;rw[Array.size_map];lia))))));simp only[bne_self_eq_false,Bq,if_false];exact Ae (fin _ (q8s (Tu _) fun i j a' b'=>by rw[show i=j by lia];exact Kh _))
 ·have h2':¬vs.toArray.size<2:=by simpa using h2
  simp only[if_neg h2'];refine Ab (hk (by lia) _ _ _ kg ?_);refine Ab (Bp (x0d (a₀:=pairsOf vs) (Q:=fun _ t=>(arrOf t).Perm (pairsOf vs)/\Ss t=none/\Up r (arrOf t) (pairsOf vs).size) (T _ kg) (fun p hp=>hS _ ?_)
   ⟨Tu _,rfl,rfl,rfl⟩ (by lia) (by lia) fun t a1 a2 a3=>⟨a1,a2,a3⟩) ?_ fun _ _ e=>e)
  ·rw[pairsOf_toList] at hp;exact(mem_zip_self hp).2
  ·rintro⟨⟨⟩,t⟩ s' ⟨rfl,pm,fl,up⟩;refine Ab (Sl og rfl (Ab (Qj og rfl ?_ (hsz2:=by show((arrOf t).map _).size<=_;rw[Array.size_map,pm.size_eq];lia))));rw[fl];simp only[bne_self_eq_false,Bq,if_false];exact Ae (fin _ (q8s pm up))
end
section
variable{prog:Program}{w:World}{A:Around}{E:Value->Af->Prop}{s:Af}
structure Ready (prog:Program) (w:World) (A:Around) (vs:List Value) (h:Heap) (kd:Kn) (S:Value->Prop) (r:Value->Int):Prop where
 few:vs.length<64
 all:∀v∈vs,S v
 kind:2<=vs.length->∀A' s' (E:Value->Af->Prop) (Q:Kn->Af->Prop),A'.units<=A.units+9->(∀b o,h.get? b=some o->s'.heap.get? b=some o)->Q kd s'->wpAny (model prog w) A' (keyKind' vs.toArray) Q E s'
 tells:∀A' s',A'.units<=A.units+9->(∀b o,h.get? b=some o->s'.heap.get? b=some o)->Tells prog w A' s' kd S r
theorem sorted_ok
  (hc:∀{Q':List Value->Af->Prop},(∀vs h tk kd S r,Ready prog w A vs h kd S r ->
    (∀h' out,Sorted r vs out->(∀b o,h.get? b=some o->h'.get? b=some o)->(∃e,h'.get? h.objs.size=some (Lh "list" out e))->Q (.ref h.objs.size) { s with heap:=h',toks:=tk })->Q' vs { s with heap:=h,toks:=tk }) ->
   wpAny (model prog w) A.in1 (collect x) Q' E s):wpAny (model prog w) A (call (.builtin "sorted") [x]) Q E s:=by
 refine Calls.call_function_entry kind_sorted plain_sorted entry_sorted (args_sorted1 _) ?_;refine Ab (Ae (Ab (hc fun vs h tk kd S r rd hQ=>?_)));have hz3:vs.length<=sizeLine:=by have:=rd.few;rw[Ea];lia
 refine Ab (wpAny_newList ?_);have ho:(h.push (Lh "list" vs.toArray 0)).get? h.objs.size=some (Lh "list" vs.toArray 0):=As _ rfl;have kb:∀{g:Heap},KeptBut h.objs.size (h.push (Lh "list" vs.toArray 0)) g->∀b o,h.get? b=some o->g.get? b=some o:=fun kg b o e=>kg b o (Bf (Al e)) (Ag _ e);refine Ab (Bz (Co slot_list_sort ⟨_,ho,rfl⟩ entry_list_sort (z4o ho rd.few rd.all (fun h2 s' E Q kg q=>rd.kind h2 _ s' E Q (by show A.units+1+1<=_;lia) (kb kg) q) (fun s' kg=>rd.tells _ s' (by show A.units+1+1<=_;lia) (kb kg)) fun out so=>⟨_,rfl,?_⟩) (args_list_sort _)));refine Ae ⟨_,rfl,hQ _ out so (fun b o e=>?_) (sortedHeap_at ho)⟩;have:=sortedHeap_old (vs:=vs) (out:=out) (h:=h.push (Lh "list" vs.toArray 0)) (Bf (Al e)) (by rw[size_push'];exact Hq (Al e));rw[this];exact Ag _ e
theorem perm_map_inv {α β : Type} {g : α → β} : ∀ {l m : List β}, l.Perm m → ∀ {zs : List α}, m = zs.map g → ∃ zs' : List α, zs'.Perm zs ∧ l = zs'.map g := by
  intro l m h;induction h with
  | nil => simp_all
  | cons x h ih => intro zs e; cases zs with
    | nil => cases e
    | cons z zs =>
      injection e with e1 e2;obtain ⟨zs', h1, h2⟩ := ih e2;exact ⟨z :: zs', h1.cons z, by rw [Ao, ← h2, e1]⟩
  | swap x y l => intro zs e; cases zs with
    | nil => cases e
    | cons z zs => cases zs with
      | nil => cases e
      | cons z2 zs =>
        injection e with e1 e2;injection e2 with e2 e3;exact ⟨z2 :: z :: zs, List.Perm.swap _ _ _, by rw [Ao, Ao, ← e1, ← e2, ← e3]⟩
  | trans h1 h2 ih1 ih2 => intro zs e
                           obtain ⟨zs', p1, e1⟩ := ih2 e;obtain ⟨zs2, p2, e2⟩ := ih1 e1;exact ⟨zs2, p2.trans p1, e2⟩
open Classical in
noncomputable def keyBy (K:Value->Pth->Prop) (v:Value):Pth:=if h:∃p,K v p then choose h else[]
theorem q3d{K:Value->Pth->Prop}(hK:∀v p q,K v p->K v q->p=q){v:Value}{p:Pth}(h:K v p):keyBy K v=p:=by
 unfold keyBy;have hx:∃p,K v p:=⟨p,h⟩
 rw[dif_pos hx];exact hK v _ _ (Classical.choose_spec hx) h
theorem rise_paths{K:Value->Pth->Prop}(hK:∀v p q,K v p->K v q->p=q){α:Type}{g:α->Value}{f:α->Pth}:∀{zs:List α},(∀z∈zs,K (g z) (f z)/\f z∈ps)->(zs.map g).Pairwise (fun x y=>(pRank ps (keyBy K x):Int)<=(pRank ps (keyBy K y):Int))->(zs.map f).Pairwise fun a b=>pLt b a=false
 |[],_,_=>.nil
 |z::zs,hz,h=>by
  rw[Ao] at h ⊢;obtain⟨h1,h2⟩:=Jt.mp h;refine Jt.mpr ⟨fun b hb=>?_,rise_paths hK (fun y hy=>hz y (Ai _ hy)) h2⟩;obtain⟨y,hy,rfl⟩:=Ay.mp hb;obtain⟨k1,m1⟩:=hz z Am;obtain⟨k2,m2⟩:=hz y (Ai _ hy);have:=h1 (g y) (Ay.mpr ⟨y,hy,rfl⟩);rw[q3d hK k1,q3d hK k2] at this;rw[q9r m2 m1];exact decide_eq_false (by lia)
theorem ready_paths(few:vs.length<64)(hp:∀v∈vs,∃p∈ps,p≠[]/\PathAt h v p):
  Ready prog w A vs h (Rr true) (fun v=>∃p∈ps,PathAt h v p) (fun v=>(pRank ps (keyBy (PathAt h) v):Int)) where
 few:=few
 all:=fun v hv=>let ⟨p,a,_,b⟩:=hp v hv;⟨p,a,b⟩
 kind:=fun h2 A' s' E Q _ k q=>by
  have hne:vs≠[]:=fun z=>by rw[z] at h2;simp at h2
  have ex:∀v∈vs,∃a its n p t,v=.ref a/\IsTup s'.heap a its/\its[0]?=some (.str (mk n) t):=fun v hv=>by
   obtain⟨p,_,hne,x⟩:=hp v hv;obtain⟨a,its,rfl,tt,st⟩:=x.keep k;cases p with
   |nil=>exact absurd rfl hne
   |cons n p =>
    obtain⟨l⟩:=its;cases st with
    |cons _ t st'=>exact⟨a,_,n,p,t,rfl,tt,rfl⟩
  refine z4n (fs:=fun v=>(match v with|.ref a=>(match s'.heap.get? a with|some o=>(match o.data with|.seq its _=>its.getD 0 .none|_=>.none)|none=>.none)|_=>.none)) hne (fun v hv=>?_) (fun v hv=>?_) (by rw[show(Value.type "str" != Value.type "tuple")=true from by decide];exact q)
  ·obtain⟨a,its,n,p,t,rfl,tt,e⟩:=ex v hv;refine⟨a,its,rfl,tt,?_⟩;obtain⟨o,e1,e2,m,e3⟩:=tt;simp only[e1,e3];rw[e,Mj,e];rfl
  ·obtain⟨a,its,n,p,t,rfl,tt,e⟩:=ex v hv;obtain⟨o,e1,e2,m,e3⟩:=tt;simp only[e1,e3];rw[Mj,e];exact Jx _ _ _
 tells:=fun A' s' _ k E x y Q ⟨p,hp1,x1⟩ ⟨q,hq1,y1⟩ h'=>by
  refine z4l (x1.keep k) (y1.keep k) ?_;have hK:∀v p q,PathAt h v p->PathAt h v q->p=q:=fun _ _ _ a b=>a.inj b;have e1:=q3d hK x1;have e2:=q3d hK y1;rw[q9r hp1 hq1,<- e1,<- e2];exact h'
theorem PairAt.inj(h1:PairAt h v p m)(h2:PairAt h v q m'):p=q:=by
 obtain⟨a,k,rfl,t,s⟩:=h1;obtain⟨a',k',e,t',s'⟩:=h2;cases e;have e:=congrArg Array.toList (IsTup.inj t t');have e2:k=k':=by grind
 subst e2;exact s.inj s'
theorem ready_pairs(few:vs.length<64)(hp:∀v∈vs,∃p∈ps,∃m,Low p/\PairAt h v p m)(hi:∀u∈vs,∀v∈vs,∀p m m',PairAt h u p m->PairAt h v p m'->u=v)(hu:A.units+12<cLine):
  Ready prog w A vs h (Rr false) (fun v=>v∈vs) (fun v=>(pRank ps (keyBy (fun v p=>∃m,PairAt h v p m) v):Int)) where
 few:=few
 all:=fun v hv=>hv
 kind:=fun h2 A' s' E Q _ k q=>by
  have hne:vs≠[]:=fun z=>by rw[z] at h2;simp at h2
  have ex:∀v∈vs,∃a b its m,v=.ref a/\IsTup s'.heap a #[.ref b,m]/\IsTup s'.heap b its:=fun v hv=>by
   obtain⟨p,_,m,_,x⟩:=hp v hv;obtain⟨a,z,rfl,tt,b,its,rfl,t2,_⟩:=x.keep k;exact⟨a,b,its,m,rfl,tt,t2⟩
  refine z4n (fs:=fun v=>(match v with|.ref a=>(match s'.heap.get? a with|some o=>(match o.data with|.seq its _=>its.getD 0 .none|_=>.none)|none=>.none)|_=>.none)) hne (fun v hv=>?_) (fun v hv=>?_) (by rw[show(Value.type "tuple" != Value.type "tuple")=false from by decide];exact q)
  ·obtain⟨a,b,its,m,rfl,tt,_⟩:=ex v hv;refine⟨a,_,rfl,tt,?_⟩;obtain⟨o,e1,e2,n,e3⟩:=tt;simp only[e1,e3];rfl
  ·obtain⟨a,b,its,m,rfl,tt,t2⟩:=ex v hv;obtain⟨o,e1,e2,n,e3⟩:=tt;simp only[e1,e3];obtain⟨o2,f1,f2,_⟩:=t2;exact⟨o2,f1,f2⟩
 tells:=fun A' s' hA k E x y Q hx hy h'=>by
  obtain⟨p,hp1,m,lp,x1⟩:=hp x hx;obtain⟨q,hq1,m',lq,y1⟩:=hp y hy;refine z4m (x1.keep k) (y1.keep k) (fun e=>by subst e;exact hi x hx y hy _ _ _ x1 y1) lp lq (by lia) ?_;have hK:∀v p q,(∃m,PairAt h v p m)->(∃m,PairAt h v q m)->p=q:=fun v p q ⟨_,a⟩ ⟨_,b⟩=>PairAt.inj a b
  have e1:=q3d hK ⟨m,x1⟩;have e2:=q3d hK ⟨m',y1⟩;rw[q9r hp1 hq1,<- e1,<- e2];exact h'
end
end SB
namespace PySem.Rv
open Sem (wp)
structure Runs (prog:Program) (w:World) (A:Around) (S I:Addr) (n:Nat) (Fc:List Value->Heap->Prop) (It:Nat->Heap->Prop):Prop where
 keepF:∀acc h h',Fc acc h->(∀b o,b≠S->b≠I->h.get? b=some o->h'.get? b=some o)->Fc acc h'
 keepI:∀i h h',It i h->(∀b o,b≠S->h.get? b=some o->h'.get? b=some o)->It i h'
 item:∀acc (s:Af) (Q:Option Value->Af->Prop) (E:Value->Af->Prop),acc.length<n->Fc acc s.heap->It acc.length s.heap ->
  (∀v h',Fc (acc++[v]) h'->It (acc.length+1) h'->(∀b o,b≠I->s.heap.get? b=some o->h'.get? b=some o)->Q (some v) { s with heap:=h' })->wpAny (model prog w) A.in1 (Jg (.ref I)) Q E s
 done:∀(s:Af) (Q:Option Value->Af->Prop) (E:Value->Af->Prop),It n s.heap->(∀h',(∀b o,b≠I->s.heap.get? b=some o->h'.get? b=some o)->Q none { s with heap:=h' })->wpAny (model prog w) A.in1 (Jg (.ref I)) Q E s
section
variable{prog:Program}{w:World}{A:Around}{E:Value->Af->Prop}{S I:Addr}{n:Nat}{Fc:List Value->Heap->Prop}{It:Nat->Heap->Prop}
theorem grow(W:Runs prog w A S I n Fc It)(hSI:S≠I)(hn:n<=sizeLine)(res:Value):∀(k:Nat) (acc:List Value) (s:Af) (c:Nat),n-acc.length=k->acc.length<=n->Fc acc s.heap->It acc.length s.heap ->
  s.heap.get? S=some { cls:=.type "list",data:=.seq acc.toArray c } ->
  (∀acc' h' c',acc'.length=n->Fc acc' h'->(∀b o,b≠S->b≠I->s.heap.get? b=some o->h'.get? b=some o)->h'.get? S=some { cls:=.type "list",data:=.seq acc'.toArray c' }->R (.ok (.ret res)) { s with heap:=h' }) ->
  Fl (model prog w) A (.builtin "list.extend.loop" ⟨[.ref S,.ref I,res],[]⟩) R s:=by
 intro k;induction k with
 |zero =>
  intro acc s c hk hl f i hS hR;refine Hi Qo ?_;rw[Fi Gy _];have e:acc.length=n:=by lia
  refine Ab (W.done s _ _ (by rw[<- e];exact i) fun h' kp=>Ae ?_);exact hR acc h' c e (W.keepF _ _ _ f fun b o _ hb q=>kp b o hb q) (fun b o _ hb q=>kp b o hb q) (kp S _ hSI hS)
 |succ k ih =>
  intro acc s c hk hl f i hS hR;refine Hi Qo ?_;rw[Fi Gy _];refine Ab (W.item acc s _ _ (by lia) f i fun v h' f' i' kp=>?_);have hS':=kp S _ hSI hS;have oth:∀b o,b≠S->h'.get? b=some o->(h'.update S (Ga (·.push v))).get? b=some o:=fun b o hb q=>(Br _ _ (Cd hb)).trans q;have hS2:(h'.update S (Ga (·.push v))).get? S=some { cls:=.type "list",data:=.seq (acc++[v]).toArray (c+1) }:=by
   have:=Hy hS' (fun x=>x.push v);rw[this];simp
  refine Ab (Oi hS' rfl (Ae ⟨Im Gy _,ih (acc++[v]) _ (c+1) (by rw[Aj,Bt];lia) (by rw[Aj,Bt];lia)
   (W.keepF _ _ _ f' fun b o hb _ q=>oth b o hb q) (by rw[Aj,Bt];exact W.keepI _ _ _ i' oth) hS2 fun acc' h2 c' e2 f2 k2 s2=>hR acc' h2 c' e2 f2 (fun b o hb hb' q=>k2 b o hb hb' (oth b o hb (kp b o hb' q))) s2⟩) (by rw[Ax];lia) (by simp;lia))
theorem collect_runs(hT:∀h,(∀b o,s.heap.get? b=some o->h.get? b=some o)->(⟨h,s.gens,s.drawn,s.toks,s.os⟩:Af).TypeIs (.ref v) T)(hv:v<s.heap.objs.size)(h1:(Value.type T==Value.type "list")=false)(h2:(Value.type T==Value.type "tuple")=false)(hint:∀(A:Around) (E:Value->Af->Prop) (s':Af) (Q:Bool->Af->Prop),s'.TypeIs (.ref v) T->Q false s'->wpAny (model prog w) A (Dw.List.listLengthHint (.ref v)) Q E s')(iter:∀(A:Around) (E:Value->Af->Prop) (h:Heap) (Q:Value->Af->Prop),(∀b o,s.heap.get? b=some o->h.get? b=some o)->Q (.ref h.objs.size) { s with heap:=h.push oI }->wpAny (model prog w) A (Pa (.ref v)) Q E { s with heap:=h })(hoI:∀h:Heap,(h.push oI).get? h.objs.size=some oI)(W:Runs prog w A s.heap.objs.size (s.heap.objs.size+1) n Fc It)(hn:n<=sizeLine)(h0:∀h,(∀b o,s.heap.get? b=some o->h.get? b=some o)->h.get? (s.heap.objs.size+1)=some oI->Fc [] h/\It 0 h)(hQ:∀acc h,acc.length=n->Fc acc h->s.heap.objs.size<=h.objs.size->(∀b o,s.heap.get? b=some o->h.get? b=some o)->Q acc { s with heap:=h }):wpAny (model prog w) A (collect (.ref v)) Q E s:=by
 refine Ab (wpAny_runValue (Hi F.entry_proto_collect ?_));rw[Fi F.plain_proto_collect _];refine Ab (By (Ae ⟨Im Sd _,Hi F.entry_list_iadd ?_⟩));rw[Fi Sd _];show wpAny _ A.in1 (Dw.List.listExtendWith (.ref s.heap.objs.size) (.ref v) (.ref s.heap.objs.size)) _ _ { s with heap:=s.heap.push { cls:=.type "list",data:=.seq ([]:List Value).toArray } };generalize hg:s.heap.push { cls:=.type "list",data:=.seq ([]:List Value).toArray }=g;have kg:∀b o,s.heap.get? b=some o->g.get? b=some o:=fun b o q=>by rw[<- hg];exact Ag _ q
 have gz:g.objs.size=s.heap.objs.size+1:=by rw[<- hg];exact Gp _ _
 have gS:g.get? s.heap.objs.size=some { cls:=.type "list",data:=.seq ([]:List Value).toArray }:=by rw[<- hg];exact As _ rfl
 refine Ab (Hu (hT g kg) ?_);have hs:Ny (.ref s.heap.objs.size) (.ref v)=false:=by simp[Ny,Fe hv]
 simp only[hs,h1,h2,Bool.or_false,Bq,if_false];refine Ab (iter _ _ g _ kg ?_);rw[gz];have kI:∀b o,g.get? b=some o->(g.push oI).get? b=some o:=fun b o q=>Ag _ q;have hS₁:=kI _ _ gS;have put:∀(h:Heap) (c:Nat),(∀b o,b≠s.heap.objs.size->(g.push oI).get? b=some o->h.get? b=some o)->h.get? s.heap.objs.size=some { cls:=.type "list",data:=.seq ([]:List Value).toArray c }->h.get? (s.heap.objs.size+1)=some oI ->
   Fl (model prog w) A (.builtin "list.extend.loop" ⟨[.ref s.heap.objs.size,.ref (s.heap.objs.size+1),.ref s.heap.objs.size],[]⟩) (fun r s'=>∃acc c',r=.ok (.ret (.ref s.heap.objs.size))/\s'.heap.get? s.heap.objs.size=some { cls:=.type "list",data:=.seq acc c' }/\Q acc.toList s') { s with heap:=h }:=by
  intro h c kh hh hi;obtain⟨f,i⟩:=h0 h (fun b o q=>kh b o (Bf (Al q)) (kI b o (kg b o q))) hi;refine grow W (Bf (Gs _)) hn _ n [] _ c (by simp) (Bo _) f i hh fun acc h' c' e f' k' s'=>⟨acc.toArray,c',rfl,s',?_⟩
  have:=hQ acc h' e f' (Je (Al s')) fun b o q=>k' b o (Bf (Al q)) (Bf (Hq (Al q))) (kh b o (Bf (Al q)) (kI b o (kg b o q)));simpa using this
 have gI:(g.push oI).get? (s.heap.objs.size+1)=some oI:=by grind
 refine Ab (Bz (hint _ _ _ _ (hT (g.push oI) fun b o q=>kI b o (kg b o q)) ?_));have last:∀(h:Heap) (c:Nat),(∀b o,b≠s.heap.objs.size->(g.push oI).get? b=some o->h.get? b=some o)->h.get? s.heap.objs.size=some { cls:=.type "list",data:=.seq ([]:List Value).toArray c }->h.get? (s.heap.objs.size+1)=some oI->∀{R:Result->Af->Prop},
   (∀s' acc c',s'.heap.get? s.heap.objs.size=some { cls:=.type "list",data:=.seq acc c' }->Q acc.toList s'->R (.ok (.ret (.ref s.heap.objs.size))) s')->Fl (model prog w) A (.builtin "list.extend.loop" ⟨[.ref s.heap.objs.size,.ref (s.heap.objs.size+1),.ref s.heap.objs.size],[]⟩) R { s with heap:=h }:=by
  intro h c kh hh hi R hR;refine Ht (put h c kh hh hi) fun r s' z=>?_;obtain⟨acc,c',rfl,e,q⟩:=z;exact hR s' acc c' e q
 refine wpAny_ite_split (fun _=>?_) (fun _=>?_)
 ·refine Ab (Lb (Ab ?_));show wpAny _ _ (updateSeq s.heap.objs.size (·.push .none) >>= fun _=>updateSeq s.heap.objs.size (·.pop)) _ _ _;refine Ab (Oi hS₁ rfl ?_);have hS₂:=Hy hS₁ (fun x=>x.push Value.none);refine Oi hS₂ rfl ?_;have hS₃:=Hy hS₂ (fun x=>x.pop);have oth:∀b o,b≠s.heap.objs.size->(g.push oI).get? b=some o->(((g.push oI).update s.heap.objs.size (Ga fun x=>x.push Value.none)).update s.heap.objs.size (Ga fun x=>x.pop)).get? b=some o :=
   fun b o hb q=>(Br _ _ (Cd hb)).trans ((Br _ _ (Cd hb)).trans q)
  refine Ae ⟨Im Gy _,last _ _ oth hS₃ (oth _ _ (Fe (Gs _)) gI) fun s' acc c' e q=>?_⟩;exact Ab (Tc e (Ae q))
 ·refine Ae ⟨Im Gy _,last _ _ (fun b o _ q=>q) hS₁ gI fun s' acc c' e q=>?_⟩;exact Ab (Tc e (Ae q))
end
end PySem.Rv
namespace L2
open PySem PySem.Spec PyProof.Rows SB TX
def kP(p:Pth):List Key:=p.map fun n=>Sum.inr (mk n)
abbrev vP(p:Pth):List V:=p.map fun n=>V.str (mk n)
theorem q7i(p:Pth):(kP p).map kV=vP p:=by unfold kP;rw[Bj];rfl
abbrev HRow:=Pth×V
abbrev dR(rows:List HRow):HO:=.dT (rows.map fun r=>(kP r.1,r.2))
theorem q8t:∀{p:Pth} {us:List Value},Vals (vP p) us->Hc us (p.map mk)
 |[],_,.nil=>.nil
 |n::p,us,h=>by
  cases h with
  |cons r t =>
   obtain⟨k,rfl⟩:=r;exact .cons _ k (q8t t)
section
variable{X:Cx}{pins:List (Addr×Obj)}{σ:St}{H:Hp}{s:Af}
theorem Inv.path(I:Inv X pins σ H s)(h:H b=some (.tup (vP p))):PathAt s.heap (.ref b) p:=by
 obtain⟨z,its,r,t⟩:=I.hok b _ h;exact⟨b,its.toArray,rfl,t,by simpa using q8t r⟩
theorem Inv.rows(I:Inv X pins σ H s){rows:List HRow}(hd:H d=some (dR rows)):(d==Fb)=false/\rows.length<=sizeLine/\∃ob es ep,s.heap.get? d=some ob/\ob.ExactDict/\ob.data=.dict es ep/\(rows.map (·.1)).Nodup /\
  ∃zs:List (Addr×Value×HRow),zs.map (·.2.2)=rows/\es.toList.map (fun e=>(e.key,e.val))=zs.map (fun z=>(Value.ref z.1,z.2.1))/\∀z∈zs,H z.1=some (.tup (vP z.2.2.1))/\RelV z.2.2.2 z.2.1:=by
 obtain⟨z,hsys,xs,hp,ob,es,ep,ho,hex,hob,h4,h5⟩:=(show ObjOk X.prog X.w H s.heap d (dR rows) from I.hok d _ hd)
 rw[Ad] at z;have go:∀(rows:List HRow) (xs:List (List Key×Addr×Value)),Cz (fun(p:List Key×V) (q:List Key×Addr×Value)=>p.1=q.1/\H q.2.1=some (.tup (p.1.map kV))/\RelV p.2 q.2.2) (rows.map fun r=>(kP r.1,r.2)) xs ->
   xs.map (·.1)=rows.map (fun r=>kP r.1)/\∃zs:List (Addr×Value×HRow),zs.map (·.2.2)=rows/\(xs.map (Sz (Jc (mixKind X.prog X.w)))).map (fun e=>(e.key,e.val))=zs.map (fun z=>(Value.ref z.1,z.2.1))/\∀z∈zs,H z.1=some (.tup (vP z.2.2.1))/\RelV z.2.2.2 z.2.1:=by
  intro rows;induction rows with
  |nil=>intro xs h;cases h;exact⟨rfl,[],rfl,rfl,fun _ h=>nomatch h⟩
  |cons r rows ih =>
   intro xs h;cases h with
   |cons hq t =>
    rename_i q ys;obtain⟨e1,e2,e3⟩:=hq;obtain⟨i0,zs,i1,i2,i3⟩:=ih ys t;refine⟨by rw[Ao,Ao,i0,<- e1],(q.2.1,q.2.2,r)::zs,by rw[Ao,i1],by rw[Ao,Ao,Ao,i2];rfl,fun z hz=>?_⟩;rcases Az.mp hz with rfl|hz
    ·exact⟨by rw[<- q7i];exact e2,e3⟩
    ·exact i3 z hz
 obtain⟨g0,zs,g1,g2,g3⟩:=go rows xs hp;refine⟨hsys,z,ob,es,ep,ho,hex,hob,?_,zs,g1,by rw[h4];exact g2,g3⟩;rw[g0] at h5;have e:rows.map (fun r=>kP r.1)=(rows.map (·.1)).map kP:=by simp_all
 rw[e] at h5;exact(List.pairwise_map.mp h5).imp fun hne z=>hne (by rw[z])
end
abbrev PTs(H:Hp):List Addr->List Pth->Prop:=Cz fun b p=>H b=some (.tup (vP p))
def rSortD:List V->Hp->VK->Prop:=fun vs H Q=>∃d rows,vs=[.ref d]/\H d=some (dR rows)/\rows.length<64/\(∀r∈rows,r.1≠[]) /\
 ∀L bs ps,H L=none->ps.Perm (rows.map (·.1))->ps.Pairwise (fun a b=>pLt b a=false)->PTs H bs ps->Q (.ref L) (upd H L (.lst (bs.map V.ref)))
theorem q5i:∀(bs:List Addr),Vals (bs.map V.ref) (bs.map Value.ref)
 |[]=>.nil
 |b::bs=>.cons rfl (q5i bs)
theorem z8r{H:Hp}{α:Type}{f:α->Addr}{g:α->Pth}:∀{zs:List α},(∀z∈zs,H (f z)=some (.tup (vP (g z))))->PTs H (zs.map f) (zs.map g)
 |[],_=>.nil
 |z::zs,h=>.cons (h z Am) (z8r fun y hy=>h y (Ai _ hy))
theorem z2e(hr:Room k X.A):CallR X (.builtin "sorted") rSortD:=by
 intro pins s σ H xs us Q I rv h;obtain⟨d,rows,rfl,hd,few,hne,q⟩:=h;obtain⟨u,rfl,ru⟩:=rv.one;cases ru;obtain⟨hsys,hz,ob,es,ep,ho,hex,hob,nd,zs,z1,z2,z3⟩:=I.rows hd;have hlen:es.size=rows.length:=by
  have:=congrArg List.length z2;rw[Ad,Ad,Fw] at this;rw[this,<- z1,Ad]
 have hkeys:∀{i:Nat} (hi:i<es.size),∃z∈zs,zs[i]?=some z/\es[i].key=.ref z.1:=fun{i} hi=>by
  have e:=congrArg (fun l=>l[i]?) z2;simp only[Bk,Hv,Du hi,Iz] at e;cases hzi:zs[i]? with
  |none=>simp_all
  |some z =>
   rw[hzi] at e;injection e with e;injection e with e1 e2;exact⟨z,Au hzi,rfl,e1⟩
 have hdL:=Al ho;refine SB.sorted_ok fun{Q'} kk=>?_;refine PySem.Rv.collect_runs (n:=es.size) (Fc:=fun acc _=>acc=(zs.take acc.length).map fun z=>Value.ref z.1)
  (It:=fun i h=>h.IsKeyIter (s.heap.objs.size+1) d i es.size ep/\h.get? d=some ob) (fun h kh=>⟨ob,kh _ _ ho,hex.1⟩) hdL (by decide) (by decide) (fun A E s' Q hT hq=>W.kdl_hint_dict hT hq)
  (fun A E h Q kh hq=>PySem.Rv.keys_iter hsys ⟨ob,kh _ _ ho,hex.1⟩ (kh _ _ ho) hob hq) (fun h=>As _ rfl) ⟨fun acc h h' f _=>f,fun i h h' ⟨f1,f2⟩ kp=>⟨f1.at fun o e=>kp _ _ (Fe (Gs _)) e,kp _ _ (Bf hdL) f2⟩,?_,?_⟩ (by lia)
  (fun h kh ki=>⟨rfl,⟨_,ki,rfl,rfl⟩,kh _ _ ho⟩) (fun acc h el f hz2 kh=>?_)
 ·intro acc s' Q E hl f ⟨i1,i2⟩ hq;refine PySem.Rv.keys_item i1 i2 hob hl fun h' j1 sb=>?_;obtain⟨z,hzm,hzi,hzk⟩:=hkeys hl;rw[hzk];refine hq _ h' ?_ ⟨j1,(sb.2 d (Bf (Hq hdL))).trans i2⟩ fun b o hb e=>(sb.2 b hb).trans e;rw[Aj,Bt,Ly,hzi,Ap,<- f];rfl
 ·intro s' Q E ⟨i1,i2⟩ hq;exact PySem.Rv.keys_end hr.hd i1 i2 hob (Ak _) fun h' eb=>hq h' fun b o hb e=>eb b o hb e
 ·have hzl:zs.length=es.size:=by rw[hlen,<- z1,Ad]
  have ea:acc=zs.map fun z=>Value.ref z.1:=by grind
  have hpa:∀v∈acc,∃p∈rows.map (·.1),p≠[]/\PathAt h v p:=fun v hv=>by
   rw[ea] at hv;obtain⟨z,hzm,rfl⟩:=Ay.mp hv;have hm:z.2.2∈rows:=by grind
   exact⟨z.2.2.1,Ay.mpr ⟨_,hm,rfl⟩,hne _ hm,(I.path (z3 z hzm).1).keep kh⟩
  refine kk acc h s.toks _ _ _ (SB.ready_paths (by lia) hpa) fun h' out so kh' ⟨e,he⟩=>?_;have pm:=so.perm;rw[ea] at pm;obtain⟨zs',p1,p2⟩:=SB.perm_map_inv pm rfl;have hrise:=so.rise;rw[p2] at hrise;have hps:=SB.rise_paths (fun _ _ _ a b=>a.inj b) (fun z hz=>by
   have hzm:=p1.mem_iff.mp hz;have hm:z.2.2∈rows:=by grind
   exact⟨(I.path (z3 z hzm).1).keep kh,Ay.mpr ⟨_,hm,rfl⟩⟩) hrise
  have keep:=fun b o z=>kh' b o (kh b o z);have hfr:=I.hok.fresh hz2;have eo:out.toList=(zs'.map (·.1)).map Value.ref:=by rw[p2,Bj];rfl
  have el2:(zs'.map (·.1)).length=es.size:=by rw[Ad,p1.length_eq,hzl]
  refine⟨.ref h.objs.size,upd H h.objs.size (.lst ((zs'.map (·.1)).map V.ref)),I.laid (t':=s.toks) keep hz2 ⟨by rw[Ad,el2];lia,_,e,q5i _,?_⟩,rfl,?_⟩
  ·rw[he,<- eo]
  ·refine q _ (zs'.map (·.1)) (zs'.map fun z=>z.2.2.1) hfr ?_ hps (z8r fun z hz=>(z3 z (p1.mem_iff.mp hz)).1);have:=p1.map fun z:Addr×Value×HRow=>z.2.2.1;have e3:zs.map (fun z=>z.2.2.1)=rows.map (·.1):=by rw[<- z1,Bj];rfl
   rwa [e3] at this
def vwO(v d:Addr):HO:=.ext fun h=>h.IsItemsView v d
def rItems:V->List V->Hp->VK->Prop:=fun x vs H Q=>∃d rows,x=.ref d/\vs=[]/\H d=some (dR rows)/\∀v,H v=none->Q (.ref v) (upd H v (vwO v d))
theorem z7n:MtR X "dict.items" rItems:=by
 intro pins s σ H x vs v us Q I rx rv h;obtain⟨d,rows,rfl,rfl,hd,q⟩:=h;cases rx;have hus:=rv.zero;subst hus;obtain⟨hsys,hz,ob,es,ep,ho,hex,hob,_⟩:=I.rows hd;refine Co F.slot_dict_items ⟨ob,ho,hex.1⟩ F.entry_dict_items ?_ (F.args_dict_items_1 _);refine Ab ?_;unfold Dw.Dict.noArgs;refine Ab (Kq ⟨ob,ho,hex.1⟩ ?_);show wpAny _ _ (pure d) _ _ s;refine Ae ?_;unfold Kr;rw[if_neg (by rw[hsys];exact Bh)];refine Ab (Ae (Ab (By (Ae ⟨_,rfl,.ref s.heap.objs.size,_,I.laid (t':=s.toks) (fun b u e=>Ag _ e) (Ak _) ?_,rfl,q _ I.fresh⟩))));exact⟨⟨_,As _ rfl,rfl,rfl⟩,⟨_,As _ rfl⟩,fun h1 h2 ⟨o,e,c,dd⟩ k=>⟨o,k o e,c,dd⟩⟩
def PR(H:Hp)(a:Addr)(r:HRow):Prop:=∃b,H a=some (.tup [.ref b,r.2])/\H b=some (.tup (vP r.1))
abbrev PRs(H:Hp):List Addr->List HRow->Prop:=Cz (PR H)
def rSortV:List V->Hp->VK->Prop:=fun vs H Q=>∃v d rows,vs=[.ref v]/\H v=some (vwO v d)/\H d=some (dR rows)/\rows.length<64/\(∀r∈rows,Low r.1) /\
 ∀L as rs H',H L=none->rs.Perm rows->(rs.map (·.1)).Pairwise (fun a b=>pLt b a=false)->Same H H'->H' L=some (.lst (as.map V.ref))->PRs H' as rs->Q (.ref L) H'
theorem Inv.tracks{σ:St}:∀{zs:List (Addr×List V)} {H:Hp},Inv X pins σ H s->X.s₀.heap.objs.size<=n->(zs.map (·.1)).Nodup ->
  (∀z∈zs,n<=z.1/\FpOk X pins H z.1/\z.2.length<=sizeLine/\∃its,Vals z.2 its/\IsTup s.heap z.1 its.toArray)->∃H',Inv X pins σ H' s/\Same H H'/\(∀z∈zs,H' z.1=some (.tup z.2))/\∀b,(∀z∈zs,z.1≠b)->H' b=H b:=by
 intro zs;induction zs with
 |nil=>intro H I _ _ _;exact⟨H,I,Same.refl H,(fun _ h=>nomatch h),fun _ _=>rfl⟩
 |cons z zs ih =>
  intro H I hn nd hz;obtain⟨h1,h2,h3,its,h4,h5⟩:=hz z Am;rw[Ao,Dd] at nd;have I2:=I.track (o:=.tup z.2) (Bi hn h1) h2 ⟨h3,its,h4,h5⟩;obtain⟨H',J,sm,ht,ho⟩:=ih I2 hn nd.2 (fun y hy=>by
   obtain⟨g1,g2,g3,g4⟩:=hz y (Ai _ hy);exact⟨g1,⟨by rw[q0e (fun e=>nd.1 (by rw[<- e];exact Ay.mpr ⟨y,hy,rfl⟩))];exact g2.1,g2.2⟩,g3,g4⟩)
  refine⟨H',J,((Same.refl H).new h2.1).trans sm,fun y hy=>?_,fun b hb'=>?_⟩
  ·rcases Az.mp hy with rfl|hy
   ·exact sm _ _ q0b
   ·exact ht y hy
  ·rw[ho b fun y hy=>hb' y (Ai _ hy),q0e (Cd (hb' z Am))]
theorem q3r{α β:Type}{f:α->β}:∀{l:List α},(l.map f).Nodup->∀{x y:α},x∈l->y∈l->f x=f y->x=y
 |[],_,_,_,h,_,_=>nomatch h
 |a::l,nd,x,y,hx,hy,e=>by
  rw[Ao,Dd] at nd;rcases Az.mp hx with ex|hx1
  ·rcases Az.mp hy with ey|hy1
   ·rw[ex,ey]
   ·exact absurd (by rw[<- ex,e];exact Ay.mpr ⟨y,hy1,rfl⟩) nd.1
  ·rcases Az.mp hy with ey|hy1
   ·exact absurd (by rw[<- ey,<- e];exact Ay.mpr ⟨x,hx1,rfl⟩) nd.1
   ·exact q3r nd.2 hx1 hy1 e
abbrev Zt:=Addr×Value×HRow
structure Made (h:Heap) (lo:Nat) (ws:List (Addr×Zt)):Prop where
 rise:(ws.map (·.1)).Pairwise fun a b:Nat=>a<b
 low:∀x∈ws,lo<=(show Nat from x.1)
 at_:∀x∈ws,IsTup h x.1 #[.ref x.2.1,x.2.2.1]
theorem Made.keep{lo:Nat}(m:Made h lo ws)(k:∀(a:Nat) o,lo<=a->h.get? a=some o->h'.get? a=some o):Made h' lo ws :=
 ⟨m.rise,m.low,fun x hx=>SB.IsTup.keep (m.at_ x hx) fun o e=>k _ o (m.low x hx) e⟩
theorem z4p{H:Hp}{α:Type}{f:α->Addr}{g:α->HRow}:∀{zs:List α},(∀z∈zs,PR H (f z) (g z))->PRs H (zs.map f) (zs.map g)
 |[],_=>.nil
 |z::zs,h=>.cons (h z Am) (z4p fun y hy=>h y (Ai _ hy))
theorem z2f(hr:Room k X.A):CallR X (.builtin "sorted") rSortV:=by
 intro pins s σ H xs us Q I rv h;obtain⟨v,d,rows,rfl,hv,hd,few,hlow,q⟩:=h;obtain⟨u,rfl,ru⟩:=rv.one;cases ru;obtain⟨hsys,hz,ob,es,ep,ho,hex,hob,nd,zs,z1,z2,z3⟩:=I.rows hd;obtain⟨vo,vho,vc,vd⟩:s.heap.IsItemsView v d:=(I.hok v _ hv).1;have hlen:es.size=rows.length:=by
  have:=congrArg List.length z2;rw[Ad,Ad,Fw] at this;rw[this,<- z1,Ad]
 have hkeys:∀{i:Nat} (hi:i<es.size),∃z∈zs,zs[i]?=some z/\es[i].key=.ref z.1/\es[i].val=z.2.1:=fun{i} hi=>by
  have e:=congrArg (fun l=>l[i]?) z2;simp only[Bk,Hv,Du hi,Iz] at e;cases hzi:zs[i]? with
  |none=>simp_all
  |some z =>
   rw[hzi] at e;injection e with e;injection e with e1 e2;exact⟨z,Au hzi,rfl,e1,e2⟩
 have hzl:zs.length=es.size:=by grind
 have hdL:=Al ho;have hu:=hr.un;refine SB.sorted_ok fun{Q'} kk=>?_;refine PySem.Rv.collect_runs (n:=es.size) (oI:=PySem.Rv.itemObj d 0 es.size ep .none (.bool false) .none .none) (Fc:=fun acc h=>∃ws,acc=ws.map (fun x=>Value.ref x.1)/\ws.map (·.2)=zs.take acc.length/\Made h (s.heap.objs.size+2) ws)
  (It:=fun i h=>PySem.Rv.ItemIt h (s.heap.objs.size+1) d i es.size ep/\h.get? d=some ob) (fun h kh=>⟨vo,kh _ _ vho,vc⟩) (Al vho) (by decide) (by decide) (fun A E s' Q hT hq=>W.kdx_hint hT hq)
  (fun A E h Q kh hq=>PySem.Rv.items_iter ⟨vo,kh _ _ vho,vc,vd⟩ (kh _ _ ho) hob hq) (fun h=>As _ rfl) ⟨?_,fun i h h' ⟨f1,f2⟩ kp=>⟨f1.keep fun o e=>kp _ _ (Fe (Gs _)) e,kp _ _ (Bf hdL) f2⟩,?_,?_⟩ (by lia)
  (fun h kh ki=>⟨⟨[],rfl,rfl,.nil,(fun _ z=>nomatch z),(fun _ z=>nomatch z)⟩,⟨_,_,_,_,ki,.inl rfl⟩,kh _ _ ho⟩) (fun acc h el f hz2 kh=>?_)
 ·rintro acc h h' ⟨ws,e1,e2,m⟩ kp;refine⟨ws,e1,e2,m.keep fun a o ha e=>kp a o (fun z=>?_) (fun z=>?_) e⟩
  ·rw[z] at ha;exact absurd ha (by lia)
  ·grind
 ·rintro acc s' Q E hl ⟨ws,e1,e2,m⟩ ⟨i1,i2⟩ hq;refine PySem.Rv.items_item i1 i2 hob hl fun h' j1 j2 j3 j4=>?_;obtain⟨z,hzm,hzi,hzk,hzv⟩:=hkeys hl;have lo:=i1.lt;have ni:∀{a:Nat},s.heap.objs.size+2<=a->a≠s.heap.objs.size+1:=fun h=>by lia
  refine hq _ h' ⟨ws++[(s'.heap.objs.size,z)],by rw[e1,Ap];rfl,?_,?_⟩ ⟨j1,j4 d ob (Bf (Hq hdL)) i2⟩ j4
  ·rw[Ap,e2,Aj,Bt,Ly,hzi];rfl
  ·have m':=m.keep (h':=h') fun a o ha e=>j4 a o (ni ha) e;refine⟨?_,fun x hx=>?_,fun x hx=>?_⟩
   ·rw[Ap];refine List.pairwise_append.mpr ⟨m.rise,Oc _ _,fun a ha b hb=>?_⟩;obtain⟨x,hx,rfl⟩:=Ay.mp ha;have hb':b=s'.heap.objs.size:=by simpa using hb
    rw[hb'];obtain⟨o,eo,_⟩:=m.at_ x hx;exact Al eo
   ·rcases Aq.mp hx with hx|hx
    ·exact m.low x hx
    ·rw[An.mp hx];exact lo
   ·rcases Aq.mp hx with hx|hx
    ·exact m'.at_ x hx
    ·rw[An.mp hx];refine⟨_,j2,rfl,0,?_⟩;rw[hzk,hzv]
 ·rintro s' Q E ⟨i1,i2⟩ hq;exact PySem.Rv.items_end hr.hd i1 i2 hob (Ak _) fun h' eb=>hq h' fun b o hb e=>eb b o hb e
 ·obtain⟨ws,e1,e2,m⟩:=f;rw[el,<- hzl,Cj] at e2;have hwz:∀{x:Addr×Zt},x∈ws->x.2∈zs:=fun{x} hx=>by rw[<- e2];exact Ay.mpr ⟨x,hx,rfl⟩
  have hrow:∀{x:Addr×Zt},x∈ws->x.2.2.2∈rows:=fun{x} hx=>by rw[<- z1];exact Ay.mpr ⟨_,hwz hx,rfl⟩
  have hpa:∀{x:Addr×Zt},x∈ws->PairAt h (.ref x.1) x.2.2.2.1 x.2.2.1:=fun{x} hx=>⟨x.1,.ref x.2.1,rfl,m.at_ x hx,(I.path (z3 _ (hwz hx)).1).keep kh⟩
  have hnd:(ws.map fun x=>x.2.2.2.1).Nodup:=by grind
  have hacc:∀{w:Value},w∈acc->∃x∈ws,w=.ref x.1:=fun{w} hw=>by
   rw[e1] at hw;obtain⟨x,hx,rfl⟩:=Ay.mp hw;exact⟨x,hx,rfl⟩
  refine kk acc h s.toks _ _ _ (SB.ready_pairs (ps:=rows.map (·.1)) (by lia) (fun w hw=>?_) (fun w hw y hy p mm mm' hp1 hp2=>?_) (by lia)) fun h' out so kh' ⟨e,he⟩=>?_
  ·grind
  ·obtain⟨x,hx,rfl⟩:=hacc hw;obtain⟨x2,hx2,rfl⟩:=hacc hy;have q1:=SB.PairAt.inj hp1 (hpa hx);have q2:=SB.PairAt.inj hp2 (hpa hx2);rw[q3r hnd hx hx2 (q1.symm.trans q2)]
  ·have pm:=so.perm;rw[e1] at pm;obtain⟨ws',p1,p2⟩:=SB.perm_map_inv pm rfl;have hrise:=so.rise;rw[p2] at hrise;have hps:=SB.rise_paths (fun w a b ⟨_,x⟩ ⟨_,y⟩=>SB.PairAt.inj x y) (fun x hx=>by
    have hxm:=p1.mem_iff.mp hx;exact⟨⟨_,hpa hxm⟩,Ay.mpr ⟨_,hrow hxm,rfl⟩⟩) hrise
   have keep:=fun b o z=>kh' b o (kh b o z);have I1:=I.kept (t':=s.toks) keep;have hlo:=fun{x} hx=>Bi (Nat.le_add_right _ 2) (m.low x (p1.mem_iff.mp hx));have ndA:(ws'.map (·.1)).Nodup:=by
    have:(ws.map (·.1)).Nodup:=m.rise.imp fun h e=>by subst e;exact absurd h (Ft _)
    exact(p1.map (·.1)).nodup_iff.mpr this
   obtain⟨H1,J,sm,ht,hot⟩:=I1.tracks (zs:=ws'.map fun x=>(x.1,[V.ref x.2.1,x.2.2.2.2])) I.sz (by rw[Bj];exact ndA) (fun z hz=>by
    obtain⟨x,hx,rfl⟩:=Ay.mp hz;refine⟨hlo hx,I.fpOk (hlo hx) (I.hok.fresh (hlo hx)),by show 2<=sizeLine;decide,[.ref x.2.1,x.2.2.1],.cons rfl (.cons (z3 _ (hwz (p1.mem_iff.mp hx))).2 .nil),?_⟩;exact SB.IsTup.keep (m.at_ x (p1.mem_iff.mp hx)) fun o e=>kh' _ o e)
   have hL1:H1 h.objs.size=none:=by
    rw[hot _ fun z hz e=>?_]
    ·exact I.hok.fresh hz2
    ·obtain⟨x,hx,rfl⟩:=Ay.mp hz;obtain⟨o,eo,_⟩:=m.at_ x (p1.mem_iff.mp hx);exact absurd (Al eo) (by rw[show x.1=h.objs.size from e];exact Ft _)
   have el2:(ws'.map (·.1)).length=es.size:=by rw[Ad,p1.length_eq,<- hzl,<- e2,Ad]
   have eo:out.toList=(ws'.map (·.1)).map Value.ref:=by rw[p2,Bj];rfl
   have J2:=J.track (o:=.lst ((ws'.map (·.1)).map V.ref)) (Bi I.sz hz2) (I.fpOk hz2 hL1) ⟨by rw[Ad,el2];lia,_,e,q5i _,by rw[<- eo];exact he⟩;have sm2:Same H (upd H1 h.objs.size (.lst ((ws'.map (·.1)).map V.ref))):=sm.trans ((Same.refl H1).new hL1);refine⟨.ref h.objs.size,_,J2,rfl,q _ (ws'.map (·.1)) (ws'.map fun x=>x.2.2.2) _ (I.hok.fresh hz2) ?_ (by rw[Bj];exact hps) sm2 q0b (z4p fun x hx=>?_)⟩
   ·have e3:ws.map (fun x=>x.2.2.2)=rows:=by rw[<- z1,<- e2,Bj];rfl
    rw[<- e3];exact p1.map _
   ·refine⟨x.2.1,?_,sm2 _ _ (z3 _ (hwz (p1.mem_iff.mp hx))).1⟩;exact(Same.refl H1).new hL1 _ _ (ht _ (Ay.mpr ⟨x,hx,rfl⟩))
open PySem PySem.Spec PyProof.Rows
theorem d_set{σ:St}(hu:A.units+1<cLine)(I:Inv X pins σ H s)(e:H a=some (.dT kvs))(eb:H b=some (.tup (k.map kV)))(l:kvs.length<sizeLine)(rv:RelV v r)(h:∀s',Inv X pins σ (upd H a (.dT (putK kvs k v))) s'->(∀b o,b≠a->s.heap.get? b=some o->s'.heap.get? b=some o)->Q () s'):wpAny (model X.prog X.w) A (dictSet a (.ref b) r) Q E s:=by
 obtain⟨z,hd,xs,rel,dd⟩:=dt_of I.hok e;have hz:xs.length<=sizeLine:=by rw[<- Fs rel];exact z
 have hl:(putK kvs k v).length<=sizeLine:=by have:=q1w kvs k v;lia
 refine wpAny_dictSet_heap (show(Jc (mixKind X.prog X.w)).room A from Nat.lt_of_succ_lt hu) (q8k I.hok eb) dd fun h' dd' hs=>h _ ?_ fun b o hb e=>(hs.2 b hb).trans e;obtain⟨q,es,ep,hq,h2,h3,h4,_,h5⟩:=dd';refine q9n I (by rw[e];exact True.intro) hs ⟨q,hq⟩ ⟨hl,hd,_,(rel.put k eb rv).keeps fun c ys ec=>?_,q,es,ep,hq,h2,h3,h4,h5⟩;rw[q0e (z2s ec e (fun z=>nomatch z))];exact ec
def CompWD(J:It)(g:TG)(tt:TT)(tk tv:TE)(σ0:St)(D:Addr)(Fin:List (List Key×V)->Hp->Prop)(H1:Hp):Prop :=
 ∃W:Nat->Nat->List (List Key×V)->Hp->Prop,(∃m,W 0 m [] (upd H1 D (.dT [])))/\∀i m ys H,W i m ys H->H D=some (.dT ys) /\
  ((J.stop i H/\Fin ys H)\/(J.go i H/\∃N:List (List Key×V)->Hp->Prop,(∀zs H',N zs H'->∃m',m'<m/\W (i+1) m' zs H')/\∀x H',J.yld i H x H'->g x σ0 H' fun σ2 H2=>Keeps0 σ0 σ2/\tt σ2 H2 fun b H3 =>
   if b=true then tk σ2 H3 fun y H4=>tv σ2 H4 fun v H5=>∃k c,y=.ref c/\H5 c=some (.tup (k.map kV))/\H5 D=some (.dT ys)/\ys.length<sizeLine/\N (putK ys k v) (upd H5 D (.dT (putK ys k v)))
   else N ys H3))
theorem z4q{σ:St}{Fin:Addr->List (List Key×V)->Hp->Prop}{RR:Value->Addr->Result->Af->Prop}(hc:X.calm=true)(hkind:scope.kind=.function)(hnc:∀y∈scope.names,y.2≠.cell)(hc1:∀x c,cl.lookup x=some c->X.env.cells.lookup x=some c)(hc2:∀x,(x,Bd.free)∈scope.names->∃c,cl.lookup x=some c)(co:CapOk X scope caps)(hg:∀C s H,PG (cxComp X (tg++caps.map (·.1)) scope cl C fp s H) target g)(ht:∀C s H,PIfs (cxComp X (tg++caps.map (·.1)) scope cl C fp s H) ifs tt)(he:∀C s H,PE (cxComp X (tg++caps.map (·.1)) scope cl C fp s H) kx tk)(hv:∀C s H,PE (cxComp X (tg++caps.map (·.1)) scope cl C fp s H) vx tv)(hu:X.A.units+1<cLine)(I2:Inv X pins σ H1 s₂)(T:Turn X.prog X.w X.K target J fp it tn)(st:tn 0 s₂.heap)(hf:∀b∈fp,FpOk X pins H1 b)(hw:∀D,H1 D=none->CompWD J g tt tk tv (tg0 tg σ caps) D (Fin D) H1)(hRR:∀D C ys H' s',H1 D=none->Inv X pins σ H' s'->(∃m,s'.heap.Ns C m)->FpOk X pins H' C->Fin D ys H'->RR (.ref D) C (.ok .next) s'):
  wpAny (model X.prog X.w) X.A newDict (fun acc s₃=>wpAny (model X.prog X.w) X.A (newFunctionEnv scope X.env.globals cl [] X.env.qual none .none (some X.env)) (fun cenv s₄ =>
   Fl (model X.prog X.w) X.A (.compStart (.DictComp kx vx [⟨target,iter,ifs,0⟩] scope pos) 0 (.ref it) acc { cenv with scope:=relabel scope X.env }) (RR acc cenv.locals) s₄) E s₃) E s₂:=by
 have I3:Inv X pins σ (upd H1 s₂.heap.objs.size (.dT [])) { s₂ with heap:=s₂.heap.push { cls:=.type "dict",dict:=none,data:=.dict #[] },toks:=s₂.toks }:=I2.laid (fun _ _ q=>Ag _ q) (Ak _) (q7e s₂.heap I2.big);have hD0:=I2.fresh;refine By (Qb hnc (by intro y hy;simp at hy) (fun h₁ hns₁ hsb₁=>?_) hkind);dsimp only at hns₁ hsb₁ ⊢;generalize hDd:s₂.heap.objs.size=D at I3 hD0 hns₁ hsb₁ ⊢;generalize hs3:({ s₂ with heap:=s₂.heap.push { cls:=.type "dict",dict:=none,data:=.dict #[] } }:Af)=s₃ at I3 hns₁ hsb₁ ⊢;have e3:s₂.heap.push { cls:=.type "dict",dict:=none,data:=.dict #[] }=s₃.heap:=by grind
 have o3:({ s₂ with heap:=h₁,toks:=s₂.toks+([]:List (Str×Value)).length }:Af)={ s₃ with heap:=h₁,toks:=s₂.toks }:=by grind
 have size3:s₃.heap.objs.size=D+1:=by rw[<- e3,Gp,hDd]
 rw[e3] at hns₁ hsb₁ ⊢;have old3:∀b o,s₂.heap.get? b=some o->s₃.heap.get? b=some o:=fun b o e=>by rw[<- e3];exact Ag _ e
 generalize hCd:s₃.heap.objs.size=C at hns₁ hsb₁ ⊢;have hk:=fun b o e=>hsb₁.extBut b o (by rw[<- hCd];exact Bf (Al e)) (Ag _ e);have fpo:∀b∈fp,∃o,s₂.heap.get? b=some o:=fun b hb=>by obtain⟨o,e,_⟩:=T.obj 0 _ st b hb;exact⟨o,e⟩
 have fpne:∀b∈fp,b≠D:=fun b hb=>by obtain⟨o,e⟩:=fpo b hb;rw[<- hDd];exact Bf (Al e)
 have hf3:∀b∈fp,FpOk X pins (upd H1 D (.dT [])) b:=fun b hb=>⟨by rw[q0e (fpne b hb)];exact(hf b hb).1,(hf b hb).2⟩
 have IY:=Inv.ofcomp (tk:=s₂.toks) tg I3 hkind hnc hc1 hc2 hf3 (fun b hb=>let ⟨o,e⟩:=fpo b hb;⟨o,old3 b o e⟩) (Jj hCd) hns₁ hk co;have FC:FpOk X pins H1 C:=by
  have z:=I3.fpOk (H':=H1) (Jj hCd) (I2.hok.fresh (by rw[hDd,<- hCd,size3];exact Ir _));exact z
 generalize hY:cxComp X (tg++caps.map (·.1)) scope cl C fp s₃ (upd H1 D (.dT []))=Y at IY;have hgY:PG Y target g:=by grind
 have htY:PIfs Y ifs tt:=by grind
 have heY:PE Y kx tk:=by grind
 have hvY:PE Y vx tv:=by grind
 have hYp:Y.prog=X.prog:=by rw[<- hY];rfl
 have hYw:Y.w=X.w:=by rw[<- hY];rfl
 have hYK:Y.K=X.K:=by rw[<- hY];rfl
 have hYA:Y.A=X.A:=by rw[<- hY];rfl
 have hYe:Y.env=Ff scope cl C X.env:=by rw[<- hY];rfl
 have hYx:Y.ex=fp:=by rw[<- hY];rfl
 have hYn:Y.pn=[]:=by rw[<- hY];rfl
 have hYc:Y.calm=true:=by rw[<- hY];exact hc
 have hYxe:Y.xe=fun _ _=>False:=by rw[<- hY];rfl
 have fpY:∀{H':Hp},(∀b∈fp,H' b=none)->∀b∈fp,FpOk Y [] H' b:=fun{H'} hn b hb=>by
  refine⟨hn b hb,?_,?_,.inl (by rw[hYx];exact hb),fun x c e=>?_,fun p hp=>?_⟩
  ·have:=(IY.ok.exf b (by rw[hYx];exact hb)).1;exact this
  ·exact IY.ok.exfs b (by rw[hYx];exact hb)
  ·exact(IY.ok.exf b (by rw[hYx];exact hb)).2 x c e
  ·grind
 obtain⟨W,⟨m0,w0⟩,turn⟩:=hw D hD0;have stY:=T.keep 0 _ _ st fun b hb o e=>hk b o (old3 b o e)
 have back:∀{H':Hp} {s':Af} {σ':St},Inv Y [] σ' H' s'->Inv X pins σ H' s':=fun{H' s' σ'} IE=>by
  have hun:=IE.base;have hos:=IE.os;rw[<- hY] at hun hos;exact I3.call' hos hun (by have z:=IE.hok;rw[hYp,hYw] at z;exact z) IE.bare fun b hb=>⟨(hf b hb).2.2.2.1,(hf b hb).2.1,(hf b hb).2.2.2.2.1,(hf b hb).2.2.2.2.2⟩
 have gY:∀pins s σ H v u Q (E':Value->Af->Prop),Inv Y pins σ H s->RelV v u->g v σ H Q->wpAny (model X.prog X.w) X.A (assign target (Ff scope cl C X.env) u) (fun _ s'=>∃σ' H',Inv Y pins σ' H' s'/\Q σ' H') E' s:=fun pins s σ H v u Q E' IE r q=>by
  have z:=hgY pins s σ H v u Q IE r q;rw[hYp,hYw,hYA,hYe,hYxe] at z;exact Bp z (fun _ _ x=>x) fun _ _ f=>f.elim
 have tY:∀pins s σ H Q (E':Value->Af->Prop),Inv Y pins σ H s->tt σ H Q->wpAny (model X.prog X.w) X.A (forIn ifs true fun c r=>if r=true then do let ok<-isTrue c (Ff scope cl C X.env) (eval c (Ff scope cl C X.env));pure (ForInStep.yield ok) else pure (ForInStep.yield r)) (TP Y pins σ Q) E' s:=fun pins s σ H Q E' IE q=>by
  have z:=htY pins s σ H Q IE q;rw[hYp,hYw,hYA,hYe,hYxe] at z;exact Bp z (fun _ _ x=>x) fun _ _ f=>f.elim
 have eY:∀pins s σ H Q (E':Value->Af->Prop),Inv Y pins σ H s->tk σ H Q->wpAny (model X.prog X.w) X.A (eval kx (Ff scope cl C X.env)) (EP Y pins σ Q) E' s:=fun pins s σ H Q E' IE q=>by
  have z:=heY pins s σ H Q IE q;rw[hYp,hYw,hYA,hYe,hYxe] at z;exact Bp z (fun _ _ x=>x) fun _ _ f=>f.elim
 have vY:∀pins s σ H Q (E':Value->Af->Prop),Inv Y pins σ H s->tv σ H Q->wpAny (model X.prog X.w) X.A (eval vx (Ff scope cl C X.env)) (EP Y pins σ Q) E' s:=fun pins s σ H Q E' IE q=>by
  have z:=hvY pins s σ H Q IE q;rw[hYp,hYw,hYA,hYe,hYxe] at z;exact Bp z (fun _ _ x=>x) fun _ _ f=>f.elim
 have tiY:∀i pins s σ H (E':Value->Af->Prop),Inv Y pins σ H s->(∀b∈fp,FpOk Y pins H b)->tn i s.heap->J.go i H ->
   wpAny (model X.prog X.w) X.A (Jg (.ref it)) (fun r s1=>∃u,r=some u /\
    wpAny (model X.prog X.w) X.A (Ky target (.ref it) u) (fun _ s2=>∃x H',Inv Y pins σ H' s2/\RelV x u/\J.yld i H x H'/\tn (i+1) s2.heap/\∀b∈fp,H' b=none) E' s1) E' s:=fun i pins s σ H E' IE hfy st go=>by
  have z:=T.item Y hYp hYw hYK hYc i pins s σ H E' IE hfy st go;rw[hYA] at z;exact z
 have tdY:∀i pins s σ H (E':Value->Af->Prop),Inv Y pins σ H s->(∀b∈fp,FpOk Y pins H b)->tn i s.heap->J.stop i H ->
   wpAny (model X.prog X.w) X.A (Jg (.ref it)) (fun r s1=>r=none/\Inv Y pins σ H s1) E' s:=fun i pins s σ H E' IE hfy st go=>by
  have z:=T.done Y hYp hYw hYK hYc i pins s σ H E' IE hfy st go;rw[hYA] at z;exact z
 have loop:Fl (model X.prog X.w) X.A (.compLoop (.DictComp kx vx [⟨target,iter,ifs,0⟩] scope pos) 0 (.ref it) (.ref D) (Ff scope cl C X.env)) (RR (.ref D) C) { s₃ with heap:=h₁,toks:=s₂.toks }:=by
  refine codeAny_loop rfl (fun n s'=>∃i ys H',Inv Y [] (tg0 tg σ caps) H' s'/\tn i s'.heap/\(∀b∈fp,H' b=none)/\W i n ys H') ?_ m0 ⟨0,[],_,IY,stY,fun b hb=>(hf3 b hb).1,w0⟩;rintro n s4 ⟨i,ys,H4,I4,st4,fr4,w4⟩;refine wpAny_noted ?_;obtain⟨hHD,alt⟩:=turn i n ys H4 w4;rcases alt with⟨stop,fin⟩|⟨go,N,hN,step⟩
  ·refine Ab (Cy (Ab (thn (tdY i [] s4 _ H4 _ I4 (fpY fr4) st4 stop) fun r s5 ⟨hr,I5⟩=>?_)));subst hr;refine Ae (hRR D C ys H4 s5 hD0 (back I5) ?_ ⟨?_,FC.2⟩ fin)
   ·obtain⟨m,hm,_⟩:=I5.loc;rw[hYe] at hm;exact⟨m,hm⟩
   ·have z:=I5.free;rw[hYe] at z;exact z
  ·refine Ab (Cy (Ab (thn (tiY i [] s4 _ H4 _ I4 (fpY fr4) st4 go) fun r s5 ⟨u,hr,h5⟩=>?_)));subst hr;refine Ab (thn h5 fun _ s6 ⟨x,H6,I6,r6,y6,st6,fr6⟩=>?_);have I6':=I6.pinned (fpY fr6) (T.obj _ _ st6);refine Ab (thn (gY _ s6 _ H6 x u _ _ I6' r6 (step x H6 y6)) fun _ s7 ⟨σ7,H7,I7,kp,q7⟩=>?_);refine Ab (thn (tY _ s7 σ7 H7 _ _ I7 q7) fun b s8 ⟨H8,I8,q8⟩=>?_);have again:∀{H9:Hp} {s9:Af} {zs:List (List Key×V)} {m':Nat},Inv Y ([]++pinsAt fp s6.heap) σ7 H9 s9->m'<n->W (i+1) m' zs H9->∃m,m<n/\∃i ys H',Inv Y [] (tg0 tg σ caps) H' s9/\tn i s9.heap/\(∀b∈fp,H' b=none)/\W i m ys H':=fun{H9 s9 zs m'} I9 hm w9=>by
    refine⟨m',hm,i+1,zs,H9,I9.unpinned.weak kp.1 kp.2,T.keep _ _ _ st6 fun b hb o e=>(I9.pin (b,o) (Bn _ (Bn _ (q1o hb e)))).1,fun b hb=>?_,w9⟩;obtain⟨o,e,d⟩:=T.obj _ _ st6 b hb;exact(I9.pin (b,o) (Bn _ (Bn _ (q1o hb e)))).2.1
   cases b with
   |true =>
    refine Ab (Ab (thn (eY _ s8 σ7 H8 _ _ I8 q8) fun kv s9 ⟨yy,H9,I9,r9,q9⟩=>?_));refine Ab (Bz (thn (vY _ s9 σ7 H9 _ _ I9 q9) fun vv s10 ⟨v,H10,I10,r10,kk,bb,ey,hbb,hH10,hz10,n10⟩=>?_));subst ey;cases r9;obtain⟨m',hm',w10⟩:=hN _ _ n10;refine Ab (Cy (Bz ?_));have z:=d_set (E:=notedBy (model X.prog X.w) X.A (Ff scope cl C X.env) fun e s'=>RR (.ref D) C (.error e) s') (Q:=fun _ s'=>Inv Y ([]++pinsAt fp s6.heap) σ7 (upd H10 D (.dT (putK ys kk v))) s') hu I10 hH10 hbb hz10 r10 fun s' I' _=>I';rw[hYp,hYw] at z;exact thn z fun _ s11 I11=>Ae ⟨rfl,again I11 hm' w10⟩
   |false =>
    obtain⟨m',hm',w8⟩:=hN _ _ q8;exact Ae ⟨rfl,again I8 hm' w8⟩
 rw[o3];exact codeAny_compStart_dict loop (T.self _ 0 _ _ _ stY loop)
section
variable{X:Cx}{iter target kx vx:Expr}{ifs:List Expr}{scope:Scope}{pos:Pos}{wi:TI}{g:TG}{tt:TT}{tk tv:TE}
def tSetDC(wi:TI)(g:TG)(tt:TT)(tk tv:TE)(tg:List Str)(caps:Caps)(i:Nat):TS:=fun D' σ H=>wi σ H fun J H1=>∀D,H1 D=none->CompWD J g tt tk tv (tg0 tg σ caps) D (fun _ H'=>D'.nx (σ.set i (some (.ref D))) H') H1
theorem z7o{i:Nat}{y:Str}{py spos:Pos}(tg:List Str)(caps:Caps)(hN:X.N.Nodup)(hiN:X.N[i]?=some y)(hx:Loc X.env.scope y)(hc:X.calm=true)(hi:PI X target iter wi)(hg:∀cl C fp s H,PG (cxComp X (tg++caps.map (·.1)) scope cl C fp s H) target g)(ht:∀cl C fp s H,PIfs (cxComp X (tg++caps.map (·.1)) scope cl C fp s H) ifs tt)(he:∀cl C fp s H,PE (cxComp X (tg++caps.map (·.1)) scope cl C fp s H) kx tk)(hv:∀cl C fp s H,PE (cxComp X (tg++caps.map (·.1)) scope cl C fp s H) vx tv)(hu:X.A.units+1<cLine)(hk:compChk X.N X.env.scope scope caps=true:=by rfl)(hs:∀x,Kd iter X.env x=pure x:=by intro _;rfl)(hsw:Jf (.DictComp kx vx [⟨target,iter,ifs,0⟩] scope pos) (some (.Name y py)) spos.line X.env=pure true:=by rfl)(hf:X.fn y=true\/X.env.scope.names.lookup y=some .local:=by first|exact .inl rfl|exact .inr rfl|assumption):
  PS X (.Assign [.Name y py] (.DictComp kx vx [⟨target,iter,ifs,0⟩] scope pos) spos) (tSetDC wi g tt tk tv tg caps i):=by
 intro pins s σ H D' I h;obtain⟨hkind,hnc,hnames,hfree,co⟩:=q4a hk;obtain⟨cl,hclos,hc1,hc2⟩:=q9k I hfree;rw[Pe _ _ _ _ hsw];refine Ab (Cy (Ab ?_));refine Ab (Bp (Jn (use:=some (assign (.Name y py) X.env)) rfl hs hclos hkind hnames
  (thn (hi pins s σ H _ I h) fun v s1 h1=>thn h1 fun itv s2 h2=>?_)) (fun _ s' hq=>Ae (Ae hq)) fun _ _ e=>e)
 obtain⟨it,fp,tn,J,H2,e,I2,T,st2,f2,hw⟩:=h2;subst e;refine z4q (RR:=fun acc C=>compPost (model X.prog X.w) X.A X.xe (some (assign (.Name y py) X.env)) (fun _ s'=>SP X pins D' .next s') acc C) (Fin:=fun D _ H'=>D'.nx (σ.set i (some (.ref D))) H') hc hkind hnc hc1 hc2 co (fun C s H=>hg cl C fp s H) (fun C s H=>ht cl C fp s H) (fun C s H=>he cl C fp s H) (fun C s H=>hv cl C fp s H) hu I2 T st2 f2 hw ?_;intro D C ys H' s' hD I' hm F fin;obtain⟨m,hm⟩:=hm;refine Mv (q4q (v:=.ref D) I' hN hiN hx rfl (fun s'' I'' hsb=>?_) hf);obtain⟨a,sb,ha⟩:=hsb;have hCa:C≠a:=by
  rcases ha with ha|ha
  ·rw[ha];exact F.2.1
  ·exact fun z=>F.2.2.2.2.1 y a ha z.symm
 refine⟨m,hm.sameBut sb hCa,fun h' hs'=>?_⟩;exact⟨_,H',I''.turned (t':=s''.toks) (fun b o hb e=>(hs'.2 b hb).trans e) F.1 F.2.1 F.2.2.2.1 F.2.2.2.2.1 F.2.2.2.2.2,fin⟩
end
theorem z7p{Fin:List (List Key×V)->Hp->Prop}(Pv:Nat->List (List Key×V)->Hp->Prop)(h0:Pv 0 [] (upd H1 D (.dT [])))(hl:∀i ys H,Pv i ys H->H D=some (.dT ys))(hgo:∀i ys H,i<n->Pv i ys H->J.go i H)(hstop:∀ys H,Pv n ys H->J.stop n H)(hs:∀i ys H x H',i<n->Pv i ys H->J.yld i H x H'->g x σ0 H' fun σ2 H2=>Keeps0 σ0 σ2/\tt σ2 H2 fun b H3 =>
   if b=true then tk σ2 H3 fun y H4=>tv σ2 H4 fun v H5=>∃k c,y=.ref c/\H5 c=some (.tup (k.map kV))/\H5 D=some (.dT ys)/\ys.length<sizeLine/\Pv (i+1) (putK ys k v) (upd H5 D (.dT (putK ys k v))) else Pv (i+1) ys H3)(hd:∀ys H,Pv n ys H->Fin ys H):CompWD J g tt tk tv σ0 D Fin H1:=by
 refine⟨fun i m ys H=>m=n-i/\i<=n/\Pv i ys H,⟨n,by simp,Bo _,h0⟩,?_⟩;rintro i m ys H ⟨rfl,hi,p⟩;refine⟨hl i ys H p,?_⟩;by_cases hlt:i<n
 ·exact .inr ⟨hgo i ys H hlt p,Pv (i+1),fun zs H' q=>⟨n-(i+1),by lia,rfl,hlt,q⟩,fun x H' y=>hs i ys H x H' hlt p y⟩
 ·have e:i=n:=by lia
  subst e;exact .inl ⟨hstop ys H p,hd ys H p⟩
theorem z2g{K:Ah}{Fin:List (List Key×V)->Hp->Prop}(Pv:Nat->List (List Key×V)->Hp->Prop)(h0:Pv 0 [] (upd H1 D (.dT [])))(hl:∀i ys H,Pv i ys H->H D=some (.dT ys)/\SqL K H a xs)(hs:∀i ys H x,xs[i]?=some x->Pv i ys H->g x σ0 H fun σ2 H2=>Keeps0 σ0 σ2/\tt σ2 H2 fun b H3 =>
   if b=true then tk σ2 H3 fun y H4=>tv σ2 H4 fun v H5=>∃k c,y=.ref c/\H5 c=some (.tup (k.map kV))/\H5 D=some (.dT ys)/\ys.length<sizeLine/\Pv (i+1) (putK ys k v) (upd H5 D (.dT (putK ys k v))) else Pv (i+1) ys H3)(hd:∀ys H,Pv xs.length ys H->Fin ys H):CompWD (Itl K a) g tt tk tv σ0 D Fin H1 :=
 z7p Pv h0 (fun i ys H p=>(hl i ys H p).1) (fun i ys H h p=>⟨xs,xs[i],(hl i ys H p).2,by simp[h]⟩) (fun ys H p=>⟨xs,(hl _ ys H p).2,Ak _⟩)
  (fun i ys H x H' h p y=>by obtain⟨e,y⟩:=y;subst e;exact hs i ys _ x (y xs (hl i ys _ p).2) p) hd
end L2
namespace PySem.Rv
open Sem (wp)
section
variable{prog:Program}{w:World}{A:Around}{E:Value->Af->Prop}{s:Af}
theorem q5y:Nh (.type "list") "keys" = pure none:=by rw[typeLookup_type,builtinLookup_eq_fast];kernel_rfl
theorem no_keys(hx:s.heap.get? a=some { cls:=.type "list",dict:=none,data:=.seq xs k,slots:=#[] })(hA:A.handled=none)(h:∀h' tk,(∀b o,s.heap.get? b=some o->h'.get? b=some o)->Q none { s with heap:=h',toks:=tk }):wpAny (model prog w) A (getAttr? (.ref a) "keys") Q E s:=by
 obtain⟨hp,g,d,tk,os⟩:=s;have hT:∀tk',(⟨hp,g,d,tk',os⟩:Af).TypeIs (.ref a) "list" := fun _=>⟨_,hx,rfl⟩
 have f1:=sub_AttributeError;have f3:=Ju.lookup;have f4:=Ju.bind (.ref a);have f5:=am_list_getattr_none;repeat (any_goals (first|assumption|exact hT _|((with_reducible show wpAny _ _ (call (Value.builtin "list.__getattribute__") _ _) _ _ _);refine He Ju (hT _) am_entry_list_getattribute (F.args_list_getattribute_2 _ _) (meets_getattribute_miss_list a xs k #[] "keys" _ q5y (by decide +kernel) (by decide +kernel)) ⟨hx,hA,fun h' tk' e hx'=>?_⟩)|wp_step))
 obtain⟨t',u',he⟩:=hx'.there;show wpAny _ _ (getattributeRaised _ _ _ _ _ _ _) _ _ _;repeat (any_goals (first|assumption|wp_step))
 exact h _ _ hx'.keeps
end
theorem plain_upd:plainId "dict.update.loop" = true:=by decide +kernel
theorem entry_upd:entryFor table "dict.update.loop" = some Dw.«dict.update.loop» := entryFor_of_fast (by kernel_rfl)
end PySem.Rv
namespace L2
open PySem PySem.Spec PyProof.Rows SB TX
def putR(acc:List (List Key×V))(r:HRow):List (List Key×V):=putK acc (kP r.1) r.2
theorem z0s:∀(rows:List HRow) (acc:List (List Key×V)),(rows.foldl putR acc).length<=acc.length+rows.length
 |[],acc=>Ak _
 |r::rows,acc=>by
  have h1:=z0s rows (putR acc r);have h2:=q1w acc (kP r.1) r.2;rw[To,Aw];unfold putR at h1 ⊢;lia
section
variable{X:Cx}{pins:List (Addr×Obj)}{σ:St}
theorem z4r(I:Inv X pins σ H s)(h:H L=some (.lst xs)):∃its,Vals xs its/\s.heap.IsList L its.toArray:=by
 obtain⟨z,its,n,r,e⟩:=I.hok L _ h;exact⟨its,r,_,e,rfl,n,rfl⟩
theorem z4s(hh:A.handled=none)(hu:A.units+3<cLine)(few:rows.length<sizeLine):∀(k i:Nat) (H:Hp) (s:Af),rows.length-i=k->i<=rows.length->Inv X pins σ H s->H L=some (.lst (as.map V.ref))->PRs H as rows ->
  H D=some (.dT ((rows.take i).foldl putR []))->s.heap.IsListIter it L i->FpOk X pins H it->(∀H' s',Inv X pins σ H' s'->H' D=some (.dT (rows.foldl putR []))->(∀b,b≠D->H' b=H b)->R (.ok (.ret .none)) s') ->
  Fl (model X.prog X.w) A (.builtin "dict.update.loop" ⟨[.ref D,.ref it,Ek i,.none],[]⟩) R s:=by
 intro k;induction k with
 |zero =>
  intro i H s hk hi I hL hp hD hit hf hR;have ei:i=rows.length:=by lia
  subst ei;rw[Cj] at hD;obtain⟨its,rv,hl⟩:=z4r I hL;have hlen:its.length=rows.length:=by rw[<- rv.length,Ad];exact Fs hp
  refine Hi PySem.Rv.entry_upd ?_;rw[Fi PySem.Rv.plain_upd _];refine Ab (Pc hh hit hl (by simp[hlen]) fun h' eb=>?_);exact Ab (Ae (Ae (hR H _ (I.turned (t':=s.toks) (fun b o hb e=>eb b o hb e) hf.1 hf.2.1 hf.2.2.2.1 hf.2.2.2.2.1 hf.2.2.2.2.2) hD fun _ _=>rfl)))
 |succ k ih =>
  intro i H s hk hi I hL hp hD hit hf hR;obtain⟨its,rv,hl⟩:=z4r I hL;have hil:i<rows.length:=by lia
  obtain⟨a,ha⟩:∃a,as[i]?=some a:=⟨as[i]'(by rw[Fs hp];exact hil),by simp[Fs hp,hil]⟩
  obtain⟨r,hr,b,hpa,hpb⟩:=Cz.at' hp ha;obtain⟨u,hu1,hu2⟩:=rv.get (by rw[Bk,ha];rfl);cases hu2;refine Hi PySem.Rv.entry_upd ?_;rw[Fi PySem.Rv.plain_upd _];refine Ab (Ol hit hl (by simpa using hu1) fun h' hit' sb=>?_);have I1:Inv X pins σ H { s with heap:=h' }:=I.turned (t':=s.toks) (fun b o hb e=>(sb.2 b hb).trans e) hf.1 hf.2.1 hf.2.2.2.1 hf.2.2.2.2.1 hf.2.2.2.2.2;obtain⟨z,pits,pr,o,po,pc,pn,pd⟩:=I1.hok a _ hpa;obtain⟨u1,u2,e12,r1,r2⟩:=pr.two;subst e12;cases r1;refine Ab (Bz ?_);refine Ab (wpAny_tryCatch ?_);refine Ab (Hu ⟨o,po,pc⟩ ?_);refine Ab (wpAny_seqItems po pd (Ae ?_));have elen:((rows.take i).foldl putR []).length<sizeLine:=by
   have h1:=z0s (rows.take i) [];rw[Bu] at h1;have h2:([]:List (List Key×V)).length=0:=rfl;lia
  refine Bz (d_set (by show A.units+1+1<cLine;lia) I1 hD (by rw[q7i];exact hpb) elen r2 fun s' I' kp=>?_);refine Ae ⟨Im PySem.Rv.plain_upd _,?_⟩;have hLD:L≠D:=fun z=>by rw[z,hD] at hL;cases hL
  have hitD:it≠D:=fun z=>by have y:=hf.1;rw[z,hD] at y;cases y
  have hnt:∀{T:Addr} {xs:List V},H T=some (.tup xs)->T≠D:=fun{T xs} e z=>by rw[z,hD] at e;cases e
  have et:(rows.take (i+1)).foldl putR []=putK ((rows.take i).foldl putR []) (kP r.1) r.2:=by
   rw[Ly,hr];rw[Se];rfl
  have hit2:=hit'.at fun o e=>kp _ _ hitD e;refine ih (i+1) _ s' (by lia) hil I' (by rw[q0e hLD];exact hL) (Cz.imp' (fun a r ⟨b,h1,h2⟩=>⟨b,by rw[q0e (hnt h1)];exact h1,by rw[q0e (hnt h2)];exact h2⟩) hp) (by rw[q0b,et]) hit2 ⟨by rw[q0e hitD];exact hf.1,hf.2⟩ fun H' s'' J j1 j2=>?_;exact hR H' s'' J j1 fun b hb=>by rw[j2 b hb,q0e hb]
end
def rDictL:List V->Hp->VK->Prop:=fun vs H Q=>∃L as rows,vs=[.ref L]/\H L=some (.lst (as.map V.ref))/\PRs H as rows/\rows.length<1000/\∀D,H D=none->Q (.ref D) (upd H D (.dT (rows.foldl putR [])))
theorem z2h(hr:Room k X.A):CallR X (.type "dict") rDictL:=by
 intro pins s σ H xs us Q I rv h;obtain⟨L,as,rows,rfl,hL,hp,few,q⟩:=h;obtain⟨u,rfl,ru⟩:=rv.one;cases ru;have hu:=hr.un;have hh:=hr.hd;refine callType_codes (Q₁:=fun obj s₁=>obj=.ref s.heap.objs.size/\s₁={ s with heap:=s.heap.push { cls:=.type "dict",data:=.dict #[] } }) F.kt_called_dict (F.kt_typeCall_dict_1 _) F.entry_dict_init (kt_code_dict_new _ ⟨rfl,rfl⟩) fun obj s₁ h₁=>?_;obtain⟨rfl,rfl⟩:=h₁;have hDf:=I.fresh;have I1:Inv X pins σ (upd H s.heap.objs.size (.dT [])) { s with heap:=s.heap.push { cls:=.type "dict",data:=.dict #[] } }:=I.laid (t':=s.toks) (fun _ _ e=>Ag _ e) (Ak _) (q7e s.heap I.big);have hD1:(s.heap.push { cls:=.type "dict",data:=.dict #[] }).get? s.heap.objs.size=some { cls:=.type "dict",data:=.dict #[] }:=As _ rfl;have hLD:=q0n hL hDf;have hL1:upd H s.heap.objs.size (.dT []) L=some (.lst (as.map V.ref)):=by rw[q0e hLD];exact hL
 have sm:=(Same.refl H).new (o:=.dT []) hDf;have hp1:PRs (upd H s.heap.objs.size (.dT [])) as rows:=Cz.imp' (fun a r ⟨b,h1,h2⟩=>⟨b,sm _ _ h1,sm _ _ h2⟩) hp;obtain⟨z,its,n,r1,e1⟩:=I1.hok L _ hL1;refine⟨⟨_,hD1,rfl⟩,F.args_dict_init_2 _ _,?_⟩;refine Ab ?_;unfold Dw.Dict.selfAndRest;refine Ab (Kq ⟨_,hD1,rfl⟩ ?_);show wpAny _ _ (pure (s.heap.objs.size,[Value.ref L])) _ _ _;refine Ae ?_;refine Ab (Hu ⟨_,e1,rfl⟩ ?_);refine Ab (PySem.Rv.no_keys e1 hh fun h' tk kp=>?_);have I2:=I1.kept (t':=tk) kp;refine Ab (Lb ?_);have e2:=kp _ _ e1;refine Ab (Mz ⟨_,e2,rfl,n,rfl⟩ ?_);have hsz:=Al (kp _ _ hD1);have I3:Inv X pins σ (upd H s.heap.objs.size (.dT [])) { s with heap:=h'.push { cls:=.type "list_iterator",data:=.fields #[.ref L,.int 0 0] },toks:=tk }:=I2.kept (t':=tk) fun _ _ e=>Ag _ e;refine Ae ⟨Im PySem.Rv.plain_upd _,?_⟩;refine z4s (A:=X.A.in1) hh (by show X.A.units+1+3<cLine;lia) (TX.small' (by lia)) rows.length 0 _ _ (by lia) (Bo _) I3 hL1 hp1 q0b ⟨_,As _ rfl,rfl,rfl⟩ ?_ fun H' s' J j1 j2=>?_
 ·exact I2.fpOk (Ak _) (by rw[q0e (Fe hsz)];exact I.hok.fresh (Je hsz))
 ·have eH:H'=upd H s.heap.objs.size (.dT (rows.foldl putR [])):=by
   funext b;by_cases hb:b=s.heap.objs.size
   ·rw[hb,j1,q0b]
   ·rw[j2 b hb,q0e hb,q0e hb]
  rw[eH] at J;exact⟨rfl,.ref s.heap.objs.size,_,J,rfl,q _ hDf⟩
open PySem PySem.Spec PyProof.Rows
structure Mf (K:Ah) (C:Addr) (m qual:Str) (st:Stmt) (ps:List Str):Prop where
 ex:∃f fd,Fun K m qual st f fd/\Meth K C m f/\Binds K fd ps []
structure MCal (P:Program) (w:World) (K:Ah) (mg:Str->Option Value) (base:Heap) (C:Addr) (m:Str) (k:Nat) (ps:List Str) (sp:Sp):Prop where
 ex:∃f fd,FnOk P w K mg base CX0 k f fd ps sp/\Meth K C m f/\Binds K fd ps []
 cl:Cls K C
theorem Mf.cal{K:Ah}{st:Stmt}(D:Mf K C m qual st ps)(cl:Cls K C)(S:FnScope N ps (defScope st))(len:∀vs H Q E,sp vs H Q E->vs.length=ps.length)(hbody:∀(f:Addr) (cdv:Value) (A:Around) (outer:List Env) (s:Af) (H:Hp) (vs:List V) (Q:VK) (E:XK),Room k (A.deeper (Fx qual (defScope st) s.heap.objs.size f cdv))->sp vs H Q E ->
   ∃t,PSs (cxOf CX0 P w K mg base N qual (defScope st) f cdv A outer s H E).nox (defBody st) t/\t { nx:=fun _ H'=>Q .non H',rt:=Q } (start N vs) H):MCal P w K mg base C m (k+1) ps sp:=by
 obtain⟨f,fd,F,hm,hb⟩:=D.ex;exact⟨⟨f,fd,F.ok S len fun cdv A outer s H vs Q E hr h=>hbody f cdv A outer s H vs Q E hr h,hm,hb⟩,cl⟩
theorem MCal.imp{K:Ah}(M:MCal P w K mg base C m k ps sp)(h:∀vs H Q E,sp' vs H Q E->sp vs H Q E):MCal P w K mg base C m k ps sp':=by
 obtain⟨f,fd,F,r⟩:=M.ex;exact⟨⟨f,fd,F.imp h,r⟩,M.cl⟩
section
variable{X:Cx}{C:Addr}{x m:Str}{k j:Nat}{ps:List Str}{sp:Sp}{p pos apos:Pos}{o e:Expr}{es:List Expr}{ta:TE}{t:TA}
theorem pe_m{pl:Sem Bool}(M:MCal X.prog X.w X.K X.mg X.base C m k ps sp)(hr:Room j X.A)(he:PE X o ta)(ha:PA X (e::es) t)(hjk:k<=j:=by decide)(hst:Bc (e::es) X.env=(false,eval e X.env)::Bc es X.env:=by rfl)(hpl:(Eg pos (Bc es X.env)).any (·.1)=false:=by rfl)(ht:eval (.Call (.Attribute o m apos) (e::es) [] pos) X.env=(do
   let ov<-eval o X.env
   Ls apos.atName
   let (f,first)<-Jw [ov] (Kp ov m pl)
   Pz pos f first (Eg pos (Bc (e::es) X.env)) (Lw pos (Ip [] X.env))):=by rfl):PE X (.Call (.Attribute o m apos) (e::es) [] pos) (tMeth C m sp [] E0 ta t):=by
 obtain⟨f,fd,F,hm,hb⟩:=M.ex;exact z9q he M.cl hm F (hr.mono hjk) hb .nil pass0 ha hst hpl ht
theorem pe_m0{pl:Sem Bool}(M:MCal X.prog X.w X.K X.mg X.base C m k ps sp)(hr:Room j X.A)(he:PE X o ta)(hjk:k<=j:=by decide)(ht:eval (.Call (.Attribute o m apos) [] [] pos) X.env=(do
   let ov<-eval o X.env
   Ls apos.atName
   let (f,first)<-Jw [ov] (Kp ov m pl)
   Pz pos f first (Eg pos (Bc [] X.env)) (Lw pos (Ip [] X.env))):=by rfl):PE X (.Call (.Attribute o m apos) [] [] pos) (tMeth C m sp [] E0 ta tNil):=by
 obtain⟨f,fd,F,hm,hb⟩:=M.ex;exact z6s he M.cl hm F (hr.mono hjk) hb .nil pass0 ht
end
structure Kf (K:Ah) (mg:Str->Option Value) (C:Addr) (x qual:Str) (st:Stmt) (ps:List Str):Prop where
 ex:∃(f:Addr) (fd:Ie) (oc:Value) (od:Option Addr) (dV kV doc pm:Value) (an:Option Addr) (cdv ct:Value) (osl:Array (Option Value)),fd=Gu "__init__" qual (defArgs st) (defBody st) (defScope st) dV kV doc pm an cdv ct /\
  K.lookup f=some ⟨oc,od,.func fd,osl⟩/\Jl K cdv qual=true/\Mk K C f/\Binds K fd ps []/\Binds K fd ps [.bool false]
 at_:mg x=some (.ref C)
 cl:Cls K C
structure KCal (P:Program) (w:World) (K:Ah) (mg:Str->Option Value) (base:Heap) (C:Addr) (x:Str) (k:Nat) (ps:List Str) (sp:Sp):Prop where
 ex:∃f fd,FnOk P w K mg base CX0 k f fd ps sp/\Mk K C f/\Binds K fd ps []/\Binds K fd ps [.bool false]
 at_:mg x=some (.ref C)
 cl:Cls K C
theorem Kf.cal{K:Ah}{st:Stmt}(D:Kf K mg C x qual st ps)(S:FnScope N ps (defScope st))(len:∀vs H Q E,sp vs H Q E->vs.length=ps.length)(hbody:∀(f:Addr) (cdv:Value) (A:Around) (outer:List Env) (s:Af) (H:Hp) (vs:List V) (Q:VK) (E:XK),Room k (A.deeper (Fx qual (defScope st) s.heap.objs.size f cdv))->sp vs H Q E ->
   ∃t,PSs (cxOf CX0 P w K mg base N qual (defScope st) f cdv A outer s H E).nox (defBody st) t/\t { nx:=fun _ H'=>Q .non H',rt:=Q } (start N vs) H):KCal P w K mg base C x (k+1) ps sp:=by
 obtain⟨f,fd,oc,od,dV,kV,doc,pm,an,cdv,ct,osl,rfl,lk,hcd,M,b1,b2⟩:=D.ex;refine⟨⟨f,_,z6t lk hcd S len fun A outer s H vs Q E hr hsp=>?_,M,b1,b2⟩,D.at_,D.cl⟩;obtain⟨t,h,q⟩:=hbody f cdv A outer s H vs Q E hr hsp;exact⟨t,h.nox,q⟩
theorem q3s{K:Nm}{g:TG}{tb:TS}{D:Ends}(Pv:Nat->St->Hp->Prop)(h0:Pv 0 σ H)(hl:∀i σ H,Pv i σ H->SqL K H a xs)(hs:∀i x T σ H,xs[i]?=some x->Pv i σ H->H T=none->g (.ref T) σ (upd H T (.tup [.int i,x])) fun σ2 H2=>tb { D with nx:=Pv (i+1),ct:=Pv (i+1),bk:=D.nx } σ2 H2)(hd:∀σ H,Pv xs.length σ H->D.nx σ H):
  ∃W:Nat->Nat->St->Hp->Prop,(∃m,W 0 m σ H)/\∀i m σ H,W i m σ H ->
   ((Ite (Itl K a)).stop i H/\D.nx σ H)\/((Ite (Itl K a)).go i H/\∃N:St->Hp->Prop,(∀σ' H',N σ' H'->∃m',m'<m/\W (i+1) m' σ' H')/\∀v H',(Ite (Itl K a)).yld i H v H'->g v σ H' fun σ2 H2=>tb { D with nx:=N,ct:=N,bk:=D.nx } σ2 H2):=by
 refine z8m Pv h0 (fun i σ H h p=>⟨xs,xs[i],hl i σ H p,by simp[h]⟩) (fun σ H p=>⟨xs,hl _ σ H p,Ak _⟩) (fun i v σ H H' h p yl=>?_) hd;obtain⟨T,y,hT,⟨_,hy⟩,rfl,rfl⟩:=yl;exact hs i y T σ H (hy xs (hl i σ H p)) p hT
open PySem PySem.Spec PyProof.Rows
def rCatP:R2:=fun x y H Q=>∃a b xs ys,x=.ref a/\y=.ref b/\H a=some (.tup xs)/\H b=some (.tup ys)/\xs.length+ys.length<=sizeLine/\∀p H',Same H H'->H' p=some (.tup (xs++ys))->(∀c,c≠p->H' c=H c)->Q (.ref p) H'
theorem z4t:OpR X (Fy .Add) rCatP:=by
 intro pins s σ H x y v u Q I rx ry h;obtain⟨a,b,xs,ys,rfl,rfl,ha,hb,hz,q⟩:=h;cases rx;cases ry;obtain⟨za,its,r1,p1⟩:=I.hok a _ ha;obtain⟨zb,its2,r2,p2⟩:=I.hok b _ hb;by_cases hx:its=[]
 ·have hx':xs=[]:=r1.nil_iff.mp hx;obtain⟨⟨cls,dd,data,sl⟩,ho,hc,n,hd⟩:=id p1;obtain⟨⟨cls2,dd2,data2,sl2⟩,ho2,hc2,n2,hd2⟩:=id p2;subst hc hd hc2 hd2;refine Qx ⟨_,ho,rfl⟩ ⟨_,ho2,rfl⟩ Nt Qh Kg Jz (Jm _ _) (tuple_addW0 a b its.toArray its2.toArray n n2 dd dd2 sl sl2 (by simp[hx])) ⟨ho,ho2,?_⟩;exact⟨.ref b,H,I,rfl,q b H (Same.refl H) (by rw[hx',List.nil_append];exact hb) fun _ _=>rfl⟩
 ·refine HT.cat_tup p1 p2 hx (fun z=>?_) (fun z=>?_) (by rw[<- r1.length,<- r2.length];exact hz)
  ·have hy:ys=[]:=r2.nil_iff.mp z;exact⟨.ref a,H,I,rfl,q a H (Same.refl H) (by rw[hy,Ei];exact ha) fun _ _=>rfl⟩
  ·refine⟨.ref s.heap.objs.size,_,I.laid (t':=s.toks) (fun b ob q=>Ag _ q) (Ak _) ?_,rfl,q _ _ ((Same.refl H).new I.fresh) q0b fun c hc=>q0e hc⟩;exact⟨by rw[Aj];exact hz,_,r1.append r2,Ug _ _⟩
theorem z4u{X:Cx}{e:Expr}{f:Str}{pos:Pos}{ta:TE}(K:Ah)(hK:X.K=K)(he:PE X e ta)(hb:Gj e f X.env (eval e X.env)=eval e X.env:=by rfl):PE X (.Attribute e f pos) (tFld K ta f):=by subst hK;exact pe_fld he hb
theorem z8s{X:Cx}{o value:Expr}{f:Str}{pos pos':Pos}{ta tv:TE}(K:Ah)(hK:X.K=K)(ha:PE X o ta)(hv:PE X value tv)(hs:Jf value (some (.Attribute o f pos')) pos.line X.env=pure false:=by rfl):PS X (.Assign [.Attribute o f pos'] value pos) (sFld K ta tv f):=by subst hK;exact ps_fld ha hv hs
end L2
namespace HM
open PySem PySem.Spec PyProof.Rows L2 TX SB
def NSs:Str:=Ac "abcdefghijklmnopqrstuvwxyzABCDEFGHIJKLMNOPQRSTUVWXYZ0123456789-_."
abbrev NS:List Nat:=tl NSs
theorem ns_low:∀c∈NS,c<128:=by decide +kernel
structure okN (n:List Nat):Prop where
 one:1<=n.length
 few:n.length<=12
 all:∀c∈n,c∈NS
theorem okN.low(h:okN n):∀c∈n,c<128:=fun c hc=>ns_low c (h.all c hc)
structure okP (p:Pth):Prop where
 ne:p≠[]
 few:p.length<=6
 all:∀n∈p,okN n
theorem okP.low(h:okP p):Low p:=fun n hn=>(h.all n hn).low
abbrev Rw:=Pth×Option Int
def mV:Option Int->V
 |none=>.non
 |some i=>.int i
def rR(r:Rw):HRow:=(r.1,mV r.2)
theorem mV_inj(h:mV a=mV b):a=b:=by
 cases a with
 |none=>cases b with
  |none=>rfl
  |some j=>cases h
 |some i=>cases b with
  |none=>cases h
  |some j=>cases h;rfl
theorem mV_none:mV a=.non↔a=none:=⟨fun h=>mV_inj (b:=none) h,fun h=>by rw[h];rfl⟩
def lowN(n:List Nat):List Nat:=n.map lo1
def fold(bl:Bool)(p:Pth):Pth:=if bl then p.dropLast++[lowN (p.getLastD [])] else p
theorem z8t(p:Pth):fold false p=p:=rfl
theorem z0t(p:Pth):fold true p=p.dropLast++[lowN (p.getLastD [])]:=rfl
theorem z4v{p:Pth}(h:p≠[]):p=p.dropLast++[p.getLastD []]:=by
 have e:=Fz h;have e2:p.getLastD []=p.getLast h:=by rw[Ja,Ho h];rfl
 rw[e2];exact e.symm
theorem x0g{p q:Pth}(hp:p≠[])(hq:q≠[]):fold bl p=fold bl q↔p.dropLast=q.dropLast/\(if bl then lowN (p.getLastD [])=lowN (q.getLastD []) else p.getLastD []=q.getLastD []):=by
 cases bl with
 |true =>
  rw[z0t,z0t];constructor
  ·simp_all
  ·simp_all
 |false =>
  rw[z8t,z8t];constructor
  ·grind
  ·rintro⟨h1,h2⟩;rw[z4v hp,z4v hq,h1,h2]
structure Hl (bl:Bool) (rows:List Rw):Prop where
 ok:∀r∈rows,okP r.1
 nd:(rows.map fun r=>fold bl r.1).Nodup
 dr:∀r∈rows,r.1.dropLast=[]\/(r.1.dropLast,none)∈rows
theorem Hl.perm(h:Hl bl rows)(p:rows'.Perm rows):Hl bl rows' :=
 ⟨fun r hr=>h.ok r (p.mem_iff.mp hr),(p.map _).nodup_iff.mpr h.nd,fun r hr=>(h.dr r (p.mem_iff.mp hr)).imp id fun z=>p.mem_iff.mpr z⟩
theorem Hl.nil(bl:Bool):Hl bl []:=⟨(fun _ h=>nomatch h),.nil,(fun _ h=>nomatch h)⟩
theorem q4k{α β:Type}{f:α->β}:∀{l:List α},(l.map f).Nodup->l.Nodup
 |[],_=>.nil
 |a::l,h=>by
  rw[Ao,Dd] at h;exact Dd.mpr ⟨fun z=>h.1 (Ay.mpr ⟨a,z,rfl⟩),q4k h.2⟩
theorem Hl.paths(h:Hl bl rows):(rows.map (·.1)).Nodup:=by
 have e:rows.map (fun r=>fold bl r.1)=(rows.map (·.1)).map (fold bl):=by simp_all
 have:=h.nd;rw[e] at this;exact q4k this
abbrev Zr:=Addr×Rw
structure RL (H:Hp) (L:Addr) (zs:List Zr):Prop where
 at_:H L=some (.lst (zs.map fun z=>V.ref z.1))
 pr:∀z∈zs,PR H z.1 (rR z.2)
theorem PR.same(h:PR H a r)(k:∀T xs,H T=some (.tup xs)->H' T=some (.tup xs)):PR H' a r:=let ⟨b,h1,h2⟩:=h;⟨b,k _ _ h1,k _ _ h2⟩
theorem RL.same(h:RL H L zs)(s:Same H H'):RL H' L zs:=⟨s _ _ h.at_,fun z hz=>PR.same (h.pr z hz) fun T xs e=>s _ _ e⟩
theorem tupFd(F:FeedAt H a b)(fd:Fd a b H H'):∀T xs,H T=some (.tup xs)->H' T=some (.tup xs):=fun T xs e=>fd.at e fun z=>by
 subst z;obtain⟨i,j,q⟩:=F.fa;rw[q] at e;cases e
theorem RL.fd(h:RL H L zs)(F:FeedAt H a b)(fd:Fd a b H H')(hL:L≠a):RL H' L zs:=⟨fd.at h.at_ hL,fun z hz=>PR.same (h.pr z hz) (tupFd F fd)⟩
theorem prs_zs{zs:List Zr}(h:∀z∈zs,PR H z.1 (rR z.2)):PRs H (zs.map (·.1)) (zs.map fun z=>rR z.2):=z4p h
theorem zs_of:∀{as:List Addr} {rs:List HRow} {rows:List Rw},PRs H as rs->rs=rows.map rR->∃zs:List Zr,zs.map (·.1)=as/\zs.map (·.2)=rows/\∀z∈zs,PR H z.1 (rR z.2)
 |_,_,[],.nil,_=>⟨[],rfl,rfl,(fun _ h=>nomatch h)⟩
 |_,_,_::_,.nil,e=>by cases e
 |_,_,[],.cons _ _,e=>by cases e
 |a::as,_,r::rows,.cons h t,e=>by
  rw[Ao] at e;injection e with e1 e2;obtain⟨zs,z1,z2,z3⟩:=zs_of t e2;refine⟨(a,r)::zs,by rw[Ao,z1],by rw[Ao,z2],fun z hz=>?_⟩;rcases Az.mp hz with rfl|hz
  ·rw[<- e1];exact h
  ·exact z3 z hz
theorem q5j:∀{l m:List Pth},l.Perm m->l.Nodup->l.Pairwise (fun a b=>pLt b a=false)->m.Pairwise (fun a b=>pLt b a=false)->l=m
 |[],m,p,_,_,_=>(List.perm_nil.mp p.symm).symm
 |a::l,[],p,_,_,_=>absurd (p.length_eq) (by simp)
 |a::l,b::m,p,nd,h1,h2=>by
  obtain⟨n1,n2⟩:=Dd.mp nd;obtain⟨a1,a2⟩:=Jt.mp h1;obtain⟨b1,b2⟩:=Jt.mp h2;have e:a=b:=by
   have ha:=p.mem_iff.mp Am;have hb:=p.mem_iff.mpr Am;rcases Az.mp ha with e|ha
   ·exact e
   ·rcases Az.mp hb with e|hb
    ·exact e.symm
    ·exact q9q (b1 a ha) (a1 b hb)
  subst e;rw[q5j ((List.perm_cons a).mp p) n2 a2 b2]
def dMk:Option Int->PyData
 |none=>.none
 |some i=>.int i
def dRw(r:Rw):PyData:=.tuple [.tuple (dP r.1),dMk r.2]
theorem x0h{K:Ah}(m:Option Int):Dt K H (mV m) (dMk m):=by
 cases m with
 |none=>exact .non
 |some i=>exact .int i
theorem z0u{K:Ah}{H:Hp}:∀p:Pth,Dts K H (vP p) (dP p)
 |[]=>.nil
 |n::p=>.cons (.str _) (z0u p)
theorem q5k{K:Ah}(h:H a=some (.tup (vP p))):Dt K H (.ref a) (.tuple (dP p)):=.tup (SqT.of h) (z0u p)
theorem dt_row{K:Ah}(h:PR H a (rR r)):Dt K H (.ref a) (dRw r):=by
 obtain⟨b,h1,h2⟩:=h;exact .tup (SqT.of h1) (.cons (q5k h2) (.cons (x0h _) .nil))
theorem z0v{K:Ah}{H:Hp}:∀{zs:List Zr},(∀z∈zs,PR H z.1 (rR z.2))->Dts K H (zs.map fun z=>V.ref z.1) (zs.map fun z=>dRw z.2)
 |[],_=>.nil
 |z::zs,h=>.cons (dt_row (h z Am)) (z0v fun x hx=>h x (Ai _ hx))
theorem RL.dt{K:Ah}(h:RL H L zs):Dt K H (.ref L) (.list (zs.map fun z=>dRw z.2)):=.lst (SqL.of h.at_) (z0v h.pr)
theorem x0i(m:Option Int):(dMk m).canLay0=true:=by cases m<;>simp[dMk,Gr]
theorem q5l(h:Low p):(PyData.tuple (dP p)).canLay0=true:=by simp only[Ih,z0r h]
theorem x0j(h:Low r.1):(dRw r).canLay0=true:=by
 have:=q5l h;simp only[dRw,Gr,Fo] at this ⊢;rw[this,x0i];rfl
theorem z0w:∀{rows:List Rw},(∀r∈rows,Low r.1)->Fo (rows.map dRw)=true
 |[],_=>by simp[Fo]
 |r::rows,h=>by
  simp only[Ao,Fo];rw[x0j (h r Am),z0w fun x hx=>h x (Ai _ hx)];rfl
theorem z0x{rows:List Rw}(h:∀r∈rows,Low r.1):(PyData.list (rows.map dRw)).canLay0=true:=by simp only[Gr];exact z0w h
theorem z4w(m:Option Int):(dMk m).depth<=1:=by cases m<;>simp[dMk,Li]
theorem q5m(p:Pth):(PyData.tuple (dP p)).depth<=2:=by
 have h1:(PyData.tuple (dP p)).depth=Ey (dP p)+1:=by simp only[Mi]
 have:=q7h p;lia
theorem z4x(r:Rw):(dRw r).depth<=3:=by
 have h1:=q5m r.1;have h2:=z4w r.2;have e:(dRw r).depth=max (PyData.tuple (dP r.1)).depth (max (dMk r.2).depth 0)+1:=by simp only[dRw,Li,Gi]
 lia
theorem q6p:∀rows:List Rw,Gi (rows.map dRw)<=3
 |[]=>by simp[Gi]
 |r::rows=>by
  have h1:=z4x r;have h2:=q6p rows;simp only[Ao,Gi];lia
theorem z0y(rows:List Rw):(PyData.list (rows.map dRw)).depth<=100:=by
 have:=q6p rows;simp only[Li];lia
theorem q8u(p q:Pth):Ds (.tuple (dP p)) (.tuple (dP q))=decide (p=q):=by simp only[Ds,q5h]
theorem eqv_no(rows:List Rw):Ds (.list (rows.map dRw)) (.list [])=decide (rows=[]):=by
 cases rows with
 |nil=>simp[Ds,Ep]
 |cons p r=>simp[Ds,Ep]
theorem q3t(zs:List Zr):zs.map (fun z=>dRw z.2)=(zs.map (·.2)).map dRw:=by rw[Bj];rfl
theorem z0z{K:Ah}(ha:H a=some (.tup (vP p)))(hb:H b=some (.tup (vP q)))(lp:Low p)(lq:Low q)(k:Q (.bl (!decide (p=q))) H):rNeU K (.ref a) (.ref b) H Q:=by
 refine .inr ⟨_,_,q5k ha,q5k hb,q5l lp,q5l lq,by have:=q5m p;lia,?_⟩;rw[q8u];exact k
theorem x0k{K:Ah}(ha:RL H a zs)(hb:RL H b zs')(e:zs.map (·.2)=zs'.map (·.2))(l:∀r∈zs.map (·.2),Low r.1)(k:Q (.bl false) H):rNeU K (.ref a) (.ref b) H Q:=by
 refine .inr ⟨_,_,ha.dt,hb.dt,?_,?_,?_,?_⟩
 ·rw[q3t];exact z0x l
 ·rw[q3t,<- e];exact z0x l
 ·rw[q3t,q3t];have:=z0y (zs.map (·.2));lia
 ·rw[q3t,q3t,<- e,SeqAt.eqv_refl _ (z0x l)];exact k
theorem ne_no{K:Ah}(ha:RL H a zs)(hb:H b=some (.lst []))(l:∀r∈zs.map (·.2),Low r.1)(k:Q (.bl (!decide (zs=[]))) H):rNeU K (.ref a) (.ref b) H Q:=by
 refine .inr ⟨_,_,ha.dt,.lst (SqL.of hb) .nil,?_,by simp[Gr,Fo],?_,?_⟩
 ·rw[q3t];exact z0x l
 ·rw[q3t];have:=z0y (zs.map (·.2));lia
 ·rw[q3t,eqv_no];have:decide (zs.map (·.2)=[])=decide (zs=[]):=decide_eq_decide.mpr List.map_eq_nil_iff;rw[this];exact k
end HM
namespace L2
open PySem PySem.Spec PyProof.Rows SB
theorem ers_map{α β:Type}(f:α->β):∀(l:List α) (k:Nat),(l.map f).eraseIdx k=(l.eraseIdx k).map f
 |[],_=>rfl
 |_::_,0=>rfl
 |a::l,k+1=>by show f a::(l.map f).eraseIdx k=f a::(l.eraseIdx k).map f;rw[ers_map f l k]
end L2
namespace HM
open PySem PySem.Spec PyProof.Rows L2 TX SB
theorem Hl.anc(h:Hl bl rows):∀(n:Nat) (r:Rw),r∈rows->r.1.length<=n->∀k,1<=k->k<r.1.length->(r.1.take k,none)∈rows
 |0,r,_,hl,k,_,hk=>absurd hk (by lia)
 |n+1,r,hr,hl,k,h1,hk=>by
  have hd:r.1.dropLast=r.1.take (r.1.length-1):=Pl;have hne:r.1.dropLast≠[]:=fun z=>by
   have:=congrArg List.length z;simp at this;lia
  have hm:=(h.dr r hr).resolve_left hne;by_cases e:k=r.1.length-1
  ·grind
  ·have:=h.anc n (r.1.dropLast,none) hm (by rw[Ii];lia) k h1 (by rw[Ii];lia);rw[show((r.1.dropLast,(none:Option Int)):Rw).1=r.1.dropLast from rfl,hd,List.take_take,Nat.min_eq_left (by lia)] at this;exact this
theorem Hl.one(h:Hl bl rows)(h1:(p,a)∈rows)(h2:(p,b)∈rows):a=b:=by
 have:=q3r h.paths h1 h2 rfl;cases this;rfl
theorem Hl.slip(h:Hl bl rows)(hp:(p,some m)∈rows)(hr:r∈rows)(ht:r.1.take p.length=p):r.1=p:=by
 by_cases hl:p.length<r.1.length
 ·have h0:=Ck.mpr (h.ok _ hp).ne;have:=h.anc _ r hr (Ak _) p.length h0 hl;rw[ht] at this;cases h.one hp this
 ·grind
theorem Hl.eq(h:Hl bl rows)(hr:r∈rows)(hs:s∈rows)(e:fold bl r.1=fold bl s.1):r=s:=q3r (f:=fun r:Rw=>fold bl r.1) h.nd hr hs e
theorem ns_lo:∀c∈NS,lo1 c∈NS:=by decide +kernel
theorem okN.lo(h:okN n):okN (lowN n):=⟨by unfold lowN;rw[Ad];exact h.one,by unfold lowN;rw[Ad];exact h.few,fun c hc=>by
 obtain⟨x,hx,rfl⟩:=Ay.mp hc;exact ns_lo x (h.all x hx)⟩
theorem okP.snoc{q:Pth}(h:q=[]\/okP q)(hl:q.length<6)(hn:okN n):okP (q++[n]):=by
 refine⟨by simp,by rw[Aj];show _+1<=6;lia,fun x hx=>?_⟩;rcases Aq.mp hx with hx|hx
 ·rcases h with e|h
  ·rw[e] at hx;cases hx
  ·exact h.all x hx
 ·grind
def uppN(n:List Nat):List Nat:=n.map up1
theorem ns_up:∀c∈NS,up1 c∈NS:=by decide +kernel
theorem okN.up(h:okN n):okN (uppN n):=⟨by unfold uppN;rw[Ad];exact h.one,by unfold uppN;rw[Ad];exact h.few,fun c hc=>by
 obtain⟨x,hx,rfl⟩:=Ay.mp hc;exact ns_up x (h.all x hx)⟩
end HM
namespace L2
open PySem PySem.Spec PyProof.Rows
abbrev TF:=St->Hp->(Str->Hp->Prop)->Prop
def PF1(X:Cx)(e:Expr)(t:TF):Prop:=∀(pins:List (Addr×Obj)) (s:Af) (σ:St) (H:Hp) (R:Str->Hp->Prop),Inv X pins σ H s->t σ H R ->
 wpAny (model X.prog X.w) X.A (eval e X.env) (fun v s1=>∃y k H1,v=.str y k/\Inv X pins σ H1 s1/\R y H1) X.xe s
def PFs(X:Cx):List Expr->List TF->Prop
 |[],[]=>True
 |e::es,t::ts=>PF1 X e t/\PFs X es ts
 |_,_=>False
def tFs:List TF->Str->St->Hp->VK->Prop
 |[],acc,_,H,Q=>acc.length<=sizeLine/\Q (.str acc) H
 |t::ts,acc,σ,H,Q=>t σ H fun y H1=>(acc++y).length<=sizeLine/\tFs ts (acc++y) σ H1 Q
section
variable{X:Cx}
theorem z7q{σ:St}:∀{ts:List TF} {es:List Expr} {acc:Str} {H:Hp} {s:Af},PFs X es ts->Inv X pins σ H s->tFs ts acc σ H Q ->
  Joins (model X.prog X.w) X.A X.xe (evalEach es X.env) acc (fun out s₁=>out.length<=sizeLine/\EP X pins σ Q (.str out s₁.toks) { s₁ with toks:=s₁.toks+1 }) s:=by
 intro ts;induction ts with
 |nil =>
  intro es acc H s hp I h;cases es with
  |nil=>exact⟨h.1,.str acc,H,I.tok _,⟨_,rfl⟩,h.2⟩
  |cons e es=>exact False.elim hp
 |cons t ts ih =>
  intro es acc H s hp I h;cases es with
  |nil=>exact False.elim hp
  |cons e es =>
   refine Bp (hp.1 pins s σ H _ I h) (fun v s1 z=>?_) fun _ _ z=>z;obtain⟨y,k,H1,ev,I1,hz,q⟩:=z;exact⟨y,k,ev,hz,ih hp.2 I1 q⟩
theorem z4y{v₁ v₂:Expr}{rest:List Expr}{pos:Pos}{t₁ t₂:TF}{ts:List TF}(h1:PF1 X v₁ t₁)(h2:PF1 X v₂ t₂)(h3:PFs X rest ts):PE X (.JoinedStr (v₁::v₂::rest) pos) (fun σ H Q=>tFs (t₁::t₂::ts) Od σ H Q):=by
 intro pins s σ H Q I h;exact wpAny_JoinedStr (z7q (ts:=t₁::t₂::ts) ⟨h1,h2,h3⟩ I h)
theorem z4z:PFs X [] []:=trivial
theorem z1a{e:Expr}{es:List Expr}{t:TF}{ts:List TF}(h:PF1 X e t)(r:PFs X es ts):PFs X (e::es) (t::ts):=⟨h,r⟩
def tFv(te:TE):TF:=fun σ H R=>te σ H fun v H1=>(∃x,v=.str x/\x.length<=sizeLine/\R x H1)\/∃n:Nat,v=.int (n:Int)/\n<=10^12/\R (Ac (toString (n:Int))) H1
theorem z5a{n:Nat}(h:n<=10^12):(n:Int).natAbs.log2<1920:=by
 rw[Rc];by_cases h0:n=0
 ·subst h0;decide
 ·rw[Nat.log2_lt h0];exact Me h (Be (by decide:10^12<2^64) (Lj (by decide) (by decide)))
theorem z8u{e:Expr}{pos:Pos}{te:TE}(he:PE X e te):PF1 X (.FormattedValue e (-1) none pos) (tFv te):=by
 intro pins s σ H R I h;refine FormattedValue_plain (thn (he pins s σ H _ I h) fun u s1 ⟨v,H1,I1,rv,q⟩=>?_);rcases q with⟨x,rfl,hz,q⟩|⟨n,rfl,hn,q⟩
 ·obtain⟨t,rfl⟩:=rv;exact formatField_str (fun t' tk=>⟨x,t',H1,rfl,I1.tok _,q⟩) hz
 ·obtain⟨t,rfl⟩:=rv;exact formatField_int_small (z5a hn) ⟨_,_,H1,rfl,I1.tok _,q⟩
theorem z1b:PF1 X (.Constant (.str c) k pos) (fun _ H R=>R c H):=by
 intro pins s σ H R I h;exact thn (q0h pins s σ H (fun v H1=>∃y,v=.str y/\R y H1) I ⟨c,rfl,h⟩) fun u s1 ⟨v,H1,I1,rv,y,ev,q⟩=>by
  subst ev;obtain⟨t,rfl⟩:=rv;exact⟨y,t,H1,rfl,I1,q⟩
end
structure Isi (K:Ah) (C:Addr):Prop where
 cl:Cls K C
 ha:Bl K (.ref C) "__class__" = some (some (.builtin "object.__class__"))
 hn:Hn K (.builtin "object.__class__") "__get__" = some (some (.builtin "getset_descriptor.__get__"))
 htk:Mb K (.builtin "object.__class__")=some true
 hm:Lv K C (.type "object")=some true
 one:Di K (.ref C) (.ref C)=some true
end L2
namespace PM
open PySem PySem.Spec PyProof.Rows L2 TX
def jn:List (List Nat)->List Nat
 |[]=>[]
 |[a]=>a
 |a::b::r=>a++47::jn (b::r)
theorem z5b:∀{xs:List (List Nat)},xs≠[]->∀y,jn (xs++[y])=jn xs++47::y
 |[],h,_=>absurd rfl h
 |[a],_,y=>rfl
 |a::b::r,_,y=>by
  have ih:=z5b (xs:=b::r) (by simp) y;show a++47::jn (b::r++[y])=_;rw[ih];show _=(a++47::jn (b::r))++47::y;simp
theorem z5c:∀{xs:List (List Nat)} {m:Nat},(∀x∈xs,x.length<=m)->(jn xs).length<=xs.length*(m+1)
 |[],m,_=>Bo _
 |[a],m,h=>by
  have:=h a Am;show a.length<=1*(m+1);lia
 |a::b::r,m,h=>by
  have h1:=h a Am;have ih:=z5c fun x hx=>h x (Ai _ hx);show(a++47::jn (b::r)).length<=(b::r).length.succ*(m+1);rw[Aj,Aw,Rh];lia
def sp:List Nat->List (List Nat)
 |[]=>[[]]
 |c::r=>if c=47 then[]::sp r else match sp r with | []=>[[c]]|p::q=>(c::p)::q
theorem z8v:∀{a:List Nat} (l:List Nat),47∉a->sp (a++47::l)=a::sp l
 |[],l,_=>by show(if 47=47 then _ else _)=_;rw[if_pos rfl]
 |c::a,l,h=>by
  have hc:c≠47:=fun z=>h (by rw[z];exact Am);have ih:=z8v l fun z=>h (Ai _ z);show(if c=47 then _ else _)=_;rw[if_neg hc];show(match sp (a++47::l) with | []=>[[c]]|p::q=>(c::p)::q)=_;rw[ih]
theorem z8w:∀{a:List Nat},47∉a->sp a=[a]
 |[],_=>rfl
 |c::a,h=>by
  have hc:c≠47:=fun z=>h (by rw[z];exact Am);have ih:=z8w fun z=>h (Ai _ z);show(if c=47 then _ else _)=_;rw[if_neg hc,ih]
theorem sp_jn:∀{xs:List (List Nat)},xs≠[]->(∀x∈xs,47∉x)->sp (jn xs)=xs
 |[],h,_=>absurd rfl h
 |[a],_,f=>z8w (f a Am)
 |a::b::r,_,f=>by
  show sp (a++47::jn (b::r))=_;rw[z8v _ (f a Am),sp_jn (by simp) fun x hx=>f x (Ai _ hx)]
theorem slash:Ac "/" = ⟨#[47]⟩:=by decide +kernel
theorem tl_joinS:∀ts:List Str,tl (Kl (Ac "/") ts)=jn (ts.map tl):=by
 intro ts;rw[q5e];induction ts with
 |nil=>rfl
 |cons a r ih =>
  cases r with
  |nil=>simp[Lx,jn]
  |cons b r =>
   show tl (a++Ac "/" ++ Lx (Ac "/") (b::r))=_;rw[q4j,q4j,ih];have e:tl (Ac "/")=[47]:=by decide +kernel
   rw[e];show _=tl a++47::jn (tl b::r.map tl);simp
theorem q7j(z:Str):(Ib z (Ac "/")).map tl=sp (tl z):=by
 have h1:=Ri z (Ac "/");rw[<- q5e] at h1;have h2:=tl_joinS (Ib z (Ac "/"));rw[h1] at h2;have h3:=Rj z 47;rw[<- slash] at h3;have h4:=split_pos z (Ac "/");rw[h2,sp_jn]
 ·intro z;have:=congrArg List.length z;rw[Ad,Fh] at this;lia
 ·grind
theorem split_mk(z:Str):(Ib z (Ac "/")).map V.str=(sp (tl z)).map fun n=>V.str (mk n):=by
 rw[<- q7j,Bj];refine Gz fun p _=>?_;show V.str p=V.str (mk (tl p));rw[q8g]
theorem join_mk(ns:List (List Nat)):Kl (Ac "/") (ns.map mk)=mk (jn ns):=by
 apply ext;rw[tl_joinS,q0s,Bj];congr 1;conv=>rhs;rw[<- Sm ns]
 exact Gz fun p _=>q0s _
theorem z5d:∀l:List Nat,(sp l).length<=l.length+1
 |[]=>Ak _
 |c::r=>by
  have ih:=z5d r;show(if c=47 then[]::sp r else match sp r with | []=>[[c]]|p::q=>(c::p)::q).length<=_;split
  ·simp;lia
  ·cases e:sp r with
   |nil=>simp
   |cons p q=>grind
end PM
namespace PC
open PySem PySem.Spec PyProof.Rows L2 TX
def jc(s:Nat):List (List Nat)->List Nat
 |[]=>[]
 |[a]=>a
 |a::b::r=>a++s::jc s (b::r)
theorem jc_len:∀{xs:List (List Nat)} {m:Nat},(∀x∈xs,x.length<=m)->(jc s xs).length<=xs.length*(m+1)
 |[],m,_=>Bo _
 |[a],m,h=>by
  have:=h a Am;show a.length<=1*(m+1);lia
 |a::b::r,m,h=>by
  have h1:=h a Am;have ih:=jc_len (s:=s) fun x hx=>h x (Ai _ hx);show(a++s::jc s (b::r)).length<=(b::r).length.succ*(m+1);rw[Aj,Aw,Rh];lia
def sc(s:Nat):List Nat->List (List Nat)
 |[]=>[[]]
 |c::r=>if c=s then[]::sc s r else match sc s r with | []=>[[c]]|p::q=>(c::p)::q
theorem z8x:∀{a:List Nat} (l:List Nat),s∉a->sc s (a++s::l)=a::sc s l
 |[],l,_=>by show(if s=s then _ else _)=_;rw[if_pos rfl]
 |c::a,l,h=>by
  have hc:c≠s:=fun z=>h (by rw[z];exact Am);have ih:=z8x l fun z=>h (Ai _ z);show(if c=s then _ else _)=_;rw[if_neg hc];show(match sc s (a++s::l) with | []=>[[c]]|p::q=>(c::p)::q)=_;rw[ih]
theorem sc_one:∀{a:List Nat},s∉a->sc s a=[a]
 |[],_=>rfl
 |c::a,h=>by
  have hc:c≠s:=fun z=>h (by rw[z];exact Am);have ih:=sc_one fun z=>h (Ai _ z);show(if c=s then _ else _)=_;rw[if_neg hc,ih]
theorem sc_jc{s:Nat}:∀{xs:List (List Nat)},xs≠[]->(∀x∈xs,s∉x)->sc s (jc s xs)=xs
 |[],h,_=>absurd rfl h
 |[a],_,f=>sc_one (f a Am)
 |a::b::r,_,f=>by
  show sc s (a++s::jc s (b::r))=_;rw[z8x _ (f a Am),sc_jc (by simp) fun x hx=>f x (Ai _ hx)]
theorem tl_joinS(s:Nat):∀ts:List Str,tl (Kl ((⟨#[s]⟩:Str)) ts)=jc s (ts.map tl):=by
 intro ts;rw[q5e];induction ts with
 |nil=>rfl
 |cons a r ih =>
  cases r with
  |nil=>simp[Lx,jc]
  |cons b r =>
   show tl (a++(⟨#[s]⟩:Str)++Lx ((⟨#[s]⟩:Str)) (b::r))=_;rw[q4j,q4j,ih];have e:tl (⟨#[s]⟩:Str)=[s]:=rfl;rw[e];show _=tl a++s::jc s (tl b::r.map tl);simp
theorem split_sc(s:Nat)(z:Str):(Ib z ((⟨#[s]⟩:Str))).map tl=sc s (tl z):=by
 have h1:=Ri z ((⟨#[s]⟩:Str));rw[<- q5e] at h1;have h2:=tl_joinS s (Ib z ((⟨#[s]⟩:Str)));rw[h1] at h2;have h3:=Rj z s;have h4:=split_pos z ((⟨#[s]⟩:Str));rw[h2,sc_jc]
 ·intro z;have:=congrArg List.length z;rw[Ad,Fh] at this;lia
 ·grind
theorem split_mk(s:Nat)(z:Str):(Ib z ((⟨#[s]⟩:Str))).map V.str=(sc s (tl z)).map fun n=>V.str (mk n):=by
 rw[<- split_sc s,Bj];refine Gz fun p _=>?_;show V.str p=V.str (mk (tl p));rw[q8g]
theorem join_mk(s:Nat)(ns:List (List Nat)):Kl ((⟨#[s]⟩:Str)) (ns.map mk)=mk (jc s ns):=by
 apply ext;rw[tl_joinS s,q0s,Bj];congr 1;conv=>rhs;rw[<- Sm ns]
 exact Gz fun p _=>q0s _
theorem sc_len:∀l:List Nat,(sc s l).length<=l.length+1
 |[]=>Ak _
 |c::r=>by
  have ih:=sc_len (s:=s) r;show(if c=s then[]::sc s r else match sc s r with | []=>[[c]]|p::q=>(c::p)::q).length<=_;split
  ·simp;lia
  ·cases e:sc s r with
   |nil=>simp
   |cons p q=>grind
end PC
namespace L2
open PySem PySem.Spec PyProof.Rows
section
variable{M:Model}{A:Around}{E:Value->Af->Prop}{s:Af}
def TbAt(h:Heap)(e:Addr)(vs:Array Value)(T:Addr)(fl:Value):Prop:=vs[1]?=some (.ref T)/\T≠e/\∃oT ts,h.get? T=some oT/\oT.data=.fields ts/\ts[3]?=some fl
def TbOk(L:Addr)(h:Heap)(e:Addr)(vs:Array Value):Prop:=vs[1]?=some .none\/∃T,TbAt h e vs T .none\/TbAt h e vs T (Ek L)
structure LeftX (fr:List Addr) (e:Addr) (oe:Obj) (vs:Array Value) (fl:Value) (h h':Heap):Prop where
 ex:∃T,(h.objs.size<=T\/vs[1]?=some (.ref T))/\T≠e/\h'.get? e=some (oe.mapFields (·.setIfInBounds 1 (.ref T)))/\∃oT ts,h'.get? T=some oT/\oT.data=.fields ts/\ts[3]?=some fl
 keep:∀b o,h.get? b=some o->b≠e->vs[1]?≠some (.ref b)->b∉fr->h'.get? b=some o
 slot:∀b o,h.get? b=some o->b∈fr->∃sl,h'.get? b=some { o with slots:=sl }
theorem q8v{oe:Obj}(hd:oe.data=.fields vs)(h1:vs[1]?=some x):oe.mapFields (·.setIfInBounds 1 x)=oe:=by
 obtain⟨c,d,dt,sl⟩:=oe;cases hd;have e:vs.setIfInBounds 1 x=vs:=by
  have hs:=(Dk.mp h1)
  obtain⟨hlt,hx⟩:=hs;apply Array.ext
  ·simp
  ·intro i h2 h3;rw[Array.getElem_setIfInBounds (by simpa using h3)];split
   ·grind
   ·rfl
 show(⟨c,d,.fields (vs.setIfInBounds 1 x),sl⟩:Obj)=_;rw[e]
theorem entryX
  (hfr:A.frames=some (env::outer))(hl:s.heap.FunFrames base (env::outer))(hf:env.frame=some L)(he:s.heap.get? e=some oe)(hd:oe.data=.fields vs)(hsz:1<vs.size)(h:∀h',(∃T,s.heap.objs.size<=T/\h'.get? e=some (oe.mapFields (·.setIfInBounds 1 (.ref T)))/\∃oT ts,h'.get? T=some oT/\oT.data=.fields ts/\ts[3]?=some (Ek L)) ->
   (∀b o,s.heap.get? b=some o->b≠e->b∉(env::outer).filterMap (·.frame)->h'.get? b=some o) ->
   (∀b o,s.heap.get? b=some o->b∈(env::outer).filterMap (·.frame)->∃sl,h'.get? b=some { o with slots:=sl })->Q () { s with heap:=h' }):
  wpAny M A (do let a<-frameOf env;let pl<-entryPlaceOf L hadNext;let b<-EntryCells.newEntry head a .none (Ek L) .none pl;setField (.ref e) 1 b) Q E s:=by
 have hene:e∉(env::outer).filterMap (·.frame):=fun hm=>by
  obtain⟨_,o,ho,hnf⟩:=hl.mem hm;rw[he] at ho;injection ho with ho;subst ho;exact hnf vs hd
 refine Ab (wpAny_frameOf_fun hfr hl hf fun h₁ hs₁=>?_);refine Ab (wpAny_entryPlaceOf fun pl hpl=>?_);refine Ab (By ?_ (hpl.sizeOk5 _ _ _ _ _));have he₁:=(hs₁.2.1 e hene).trans he;have he₂:=Ag { cls:=.type "traceback",dict:=none,data:=.fields ([head,.ref L,.none,Ek L,.none]++(if pl.isEmpty then List.replicate 6 Value.none else pl)).toArray } he₁;have hTe:=Fe (Al he₁);have hd₃:=Gg hd (·.setIfInBounds 1 (Value.ref h₁.objs.size));have he₃:=Ex (Eo (·.setIfInBounds 1 (Value.ref h₁.objs.size))) he₂ (Ks hd₃);have hT₃:=(Br (h₁.push { cls:=.type "traceback",dict:=none,data:=.fields ([head,.ref L,.none,Ek L,.none]++(if pl.isEmpty then List.replicate 6 Value.none else pl)).toArray })
  (Eo (·.setIfInBounds 1 (Value.ref h₁.objs.size))) (Cd hTe)).trans (As h₁ rfl)
 refine Gq he₂ hd hsz (h _ ⟨h₁.objs.size,by rw[hs₁.1];exact Ak _,he₃,_,_,hT₃,rfl,by first|(simp;done)|(rcases hpl with rfl|⟨_,_,_,_,_,_,_,rfl⟩<;>simp)⟩ ?_ ?_)
 ·intro b o hb hbe hbf;have hb₁:=(hs₁.2.1 b hbf).trans hb;rw[Br _ _ (Cd hbe)];exact Ag _ hb₁
 ·intro b o hb hbf;have hbe:b≠e:=fun z=>hene (z▸hbf);obtain⟨sl,hb₁⟩:=hs₁.2.2 b o hb;refine⟨sl,?_⟩;rw[Br _ _ (Cd hbe)];exact Ag _ hb₁
theorem noteX
  (hfr:A.frames=some (env::outer))(hl:s.heap.FunFrames base (env::outer))(hf:env.frame=some L)(he:s.heap.get? e=some oe)(hd:oe.data=.fields vs)(ht:TbOk L s.heap e vs)(h:∀h',LeftX ((env::outer).filterMap (·.frame)) e oe vs (Ek L) s.heap h'->Q () { s with heap:=h' }):wpAny M A (noteFrame (.ref e) env) Q E s:=by
 have helt:=Al he;unfold noteFrame;simp only[hf];rcases ht with h1|⟨T,⟨h1,hTe,oT,ts,hT,hdT,h3⟩|⟨h1,hTe,oT,ts,hT,hdT,h3⟩⟩
 ·refine Ab (Ca he hd h1 ?_);refine entryX hfr hl hf he hd (Dk.mp h1).1 fun h' ⟨T,q1,q2,q3⟩ b c=>h h' ⟨⟨T,.inl q1,fun z=>absurd helt (Gd.mpr (z▸q1)),q2,q3⟩,fun x o hx hxe _ hxf=>b x o hx hxe hxf,c⟩
 ·refine Ab (Ca he hd h1 ?_);refine Ab (Ca hT hdT h3 ?_);refine Ab (Gq hT hdT (Dk.mp h3).1 ?_);have other:∀b,b≠T->(s.heap.update T (Eo (·.setIfInBounds 3 Value.none))).get? b=s.heap.get? b:=fun b hb=>Br _ _ (Cd hb);have noRecord:∀b o,s.heap.get? b=some o->(∀vs,o.data≠.fields vs)->b≠T:=fun b o hb hnf q=>by
   rw[q,hT] at hb;injection hb with hb;subst hb;exact hnf ts hdT
  have hTf:T∉(env::outer).filterMap (·.frame):=fun hm=>by
   obtain⟨_,o,ho,hnf⟩:=hl.mem hm;rw[hT] at ho;injection ho with ho;subst ho;exact hnf ts hdT
  have hsz:(s.heap.update T (Eo (·.setIfInBounds 3 Value.none))).objs.size=s.heap.objs.size:=by simp_all
  refine entryX hfr (hl.of_keeps fun b o hb hnf=>⟨o,(other b (noRecord b o hb hnf)).trans hb,rfl⟩) hf ((other e (Cd hTe)).trans he) hd (Dk.mp h1).1 fun h' a b c=>h h' ⟨?_,fun x o hx hxe hx1 hxf=>?_,fun x o hx hxf=>?_⟩
  ·obtain⟨T',q1,q2,q3⟩:=a;rw[hsz] at q1;exact⟨T',.inl q1,fun z=>absurd helt (Gd.mpr (z▸q1)),q2,q3⟩
  ·exact b x o ((other x fun z=>hx1 (by rw[z];exact h1)).trans hx) hxe hxf
  ·exact c x o ((other x fun z=>hTf (z▸hxf)).trans hx) hxf
 ·refine Ab (Ca he hd h1 ?_);refine Ab (Ca hT hdT h3 ?_);rw[if_pos (show(Ek L==Ek L)=true from by simp)];refine Ae (h s.heap ⟨⟨T,.inr h1,hTe,by rw[q8v hd h1];exact he,oT,ts,hT,hdT,h3⟩,fun x o hx _ _ _=>hx,fun x o hx _=>⟨o.slots,hx⟩⟩)
theorem flightX(he:s.heap.get? e=some oe)(hd:oe.data=.fields vs)(ht:TbAt s.heap e vs T fl)(hTf:T∉fr)(h:∀h',LeftX fr e oe vs (f.elim .none fun f=>Ek f) s.heap h'->Q () { s with heap:=h' }):wpAny M A (setFlight (.ref e) f) Q E s:=by
 obtain⟨h1,hTe,oT,ts,hT,hdT,h3⟩:=ht;have other:∀b,b≠T->(s.heap.update T (Eo (·.setIfInBounds 3 (f.elim Value.none fun f=>Ek f)))).get? b=s.heap.get? b:=fun b hb=>Br _ _ (Cd hb)
 refine Ab (Ca he hd h1 ?_);refine Gq hT hdT (Dk.mp h3).1 (h _ ⟨⟨T,.inr h1,hTe,?_,_,_,Ex _ hT (Ks (Gg hdT _)),Gg hdT _,?_⟩,fun x o hx _ hx1 _=>?_,fun x o hx hxf=>?_⟩)
 ·rw[q8v hd h1,other e (Cd hTe)];exact he
 ·simp[(Dk.mp h3).1]
 ·rw[other x fun z=>hx1 (by rw[z];exact h1)];exact hx
 ·rw[other x fun z=>hTf (z▸hxf)];exact⟨o.slots,hx⟩
end
open PySem PySem.Spec PyProof.Rows
def ExO(C:Value)(dd:Option Addr)(e:Addr):HO:=.ext fun h=>∃vs sl,h.get? e=some { cls:=C,dict:=dd,data:=.fields vs,slots:=sl }/\vs.size=6
structure FlX (X:Cx) (pins:List (Addr×Obj)) (H:Hp) (s:Af) (e:Addr):Prop where
 at_:∃C dd,H e=some (ExO C dd e)
 tb:∃oe vs,s.heap.get? e=some oe/\oe.data=.fields vs/\TbOk X.env.locals s.heap e vs/\∀T,vs[1]?=some (.ref T)->X.s₀.heap.objs.size<=T/\H T=none/\T≠X.env.locals/\(∀x c,X.env.cells.lookup x=some c->c≠T)/\∀p∈X.pn++pins,p.1≠T
 new:X.s₀.heap.objs.size<=e
section
variable{X:Cx}{pins:List (Addr×Obj)}{σ:St}{H:Hp}{s:Af}{e:Addr}{oe:Obj}{vs:Array Value}{fl:Value}{h':Heap}
def chOf(vs:Array Value):List Addr:=match vs[(1:Nat)]? with|some (Value.ref T)=>[T]|_=>[]
theorem chOf_mem:b∈chOf vs↔vs[(1:Nat)]?=some (Value.ref b):=by
 unfold chOf;constructor
 ·intro h;split at h
  ·simp_all
  ·cases h
 ·simp_all
theorem Inv.leftX(I:Inv X pins σ H s)(F:FlX X pins H s e)(he:s.heap.get? e=some oe)(hd:oe.data=.fields vs)(hfl:fl=.none\/fl=Ek X.env.locals)(hT:∀T,vs[1]?=some (.ref T)->X.s₀.heap.objs.size<=T/\H T=none/\T≠X.env.locals/\(∀x c,X.env.cells.lookup x=some c->c≠T)/\∀p∈X.pn++pins,p.1≠T)(L:LeftX (frs X.stack) e oe vs fl s.heap h'):Inv X pins σ H { s with heap:=h' }/\FlX X pins H { s with heap:=h' } e/\∃oe' vs' T,h'.get? e=some oe'/\oe'.data=.fields vs'/\TbAt h' e vs' T fl:=by
 obtain⟨C,dd,hE⟩:=F.at_;obtain⟨T',hT'1,hT'e,hE',oT,ts,q1,q2,q3⟩:=L.ex;have hne:∀b,H b=none->b≠e:=fun b h z=>by rw[z,hE] at h;cases h
 have un:Un (frs X.stack) (chOf vs) H H s.heap h':=⟨fun b o hb n hf hc=>L.keep b o hb (hne b n) (fun z=>hc (chOf_mem.mpr z)) hf,fun b o hb n hf hc=>L.slot b o hb hf,fun _ _ _ n _=>n,fun b o hb hc=>by
   by_cases z:b=e
   ·simp_all
   ·by_cases y:b∈frs X.stack
    ·obtain⟨sl,k⟩:=L.slot b o hb y;exact⟨_,k⟩
    ·exact⟨o,L.keep b o hb z (fun x=>hc (chOf_mem.mpr x)) y⟩,
  fun _ _ q=>q,fun _ _ _ q=>q,fun _ ps q=>⟨#[],by rw[q];simp⟩⟩
 have hsz6:vs.size=6/\oe.cls=C/\oe.dict=dd:=by
  obtain⟨⟨vs2,sl,z,z6⟩,_,_⟩:=I.hok e _ hE;rw[he] at z;cases z;cases hd;exact⟨z6,rfl,rfl⟩
 have hok:HOk X.prog X.w H h':=fun a o ha=>by
  by_cases z:a=e
  ·subst z;rw[hE] at ha;cases ha;refine⟨⟨vs.setIfInBounds 1 (.ref T'),oe.slots,?_,by simpa using hsz6.1⟩,⟨_,hE'⟩,fun h1 h2 ⟨ws,sl,k1,k2⟩ k=>⟨ws,sl,k _ k1,k2⟩⟩;rw[hE'];obtain⟨c,d,dt,sl⟩:=oe;cases hd;obtain⟨_,rfl,rfl⟩:=hsz6;rfl
  ·refine(I.hok a o ha).stay (fun b u hb hu=>?_) (fun _ q=>q) fun _ _ q=>q;have hbt:H b≠none/\b≠e:=by
    rcases hb with rfl|hb
    ·grind
    ·refine⟨by rw[hb];simp,fun y=>?_⟩;rw[y,hE] at hb;cases hb
   exact L.keep b u hu hbt.2 (fun y=>hbt.1 (hT b y).2.1) fun y=>hbt.1 (I.stkFree b y)
 have hch:∀b∈chOf vs,(b∈X.ex\/X.s₀.heap.objs.size<=b)/\b≠X.env.locals/\(∀x c,X.env.cells.lookup x=some c->c≠b)/\∀p∈X.pn++pins,p.1≠b:=fun b hb=>by
  obtain⟨a1,_,a3,a4,a5⟩:=hT b (chOf_mem.mp hb);exact⟨.inr a1,a3,a4,a5⟩
 have I':Inv X pins σ H { s with heap:=h' }:=I.call' (s':={ s with heap:=h' }) rfl un hok I.bare hch;have hd':=Gg hd (·.setIfInBounds 1 (Value.ref T'));have hlt1:1<vs.size:=by grind
 have hTb:TbAt h' e (vs.setIfInBounds 1 (.ref T')) T' fl:=⟨by simp[hlt1],hT'e,oT,ts,q1,q2,q3⟩
 refine⟨I',⟨⟨C,dd,hE⟩,⟨_,_,hE',hd',.inr ⟨T',?_⟩,fun T hTT=>?_⟩,F.new⟩,_,_,T',hE',hd',hTb⟩
 ·lia
 ·have:T=T':=by
   have z:=hTb.1;rw[z] at hTT;injection hTT with y;injection y with y;exact y.symm
  subst this;rcases hT'1 with k|k
  ·refine⟨Bi I.sz k,I.hok.fresh k,fun z=>absurd I.lt (Gd.mpr (z▸k)),fun x c hx z=>?_,fun p hp z=>?_⟩
   ·obtain⟨v,o,ho,_⟩:=I.cell x c hx;exact absurd (Al ho) (Gd.mpr (z▸k))
   ·obtain⟨ho,_⟩:=I.pin p hp;exact absurd (Al ho) (Gd.mpr (z▸k))
  ·exact hT T k
def XE(X:Cx)(J:Addr->St->Hp->Prop)(e:Value)(s:Af):Prop:=∃pins σ H ea,e=.ref ea/\Inv X pins σ H s/\FlX X pins H s ea/\J ea σ H
theorem z8y(hst:X.stack=X.env::X.outer):frs X.stack=(X.env::X.outer).filterMap (·.frame):=by rw[hst];rfl
theorem passX(hst:X.stack=X.env::X.outer)(hf:X.env.frame=some X.env.locals):Qs (model X.prog X.w) X.A X.env (XE X J):=by
 rintro e s' ⟨pins,σ,H,ea,rfl,I,F,j⟩;obtain⟨oe,vs,he,hd,ht,hT⟩:=F.tb;have hfr:X.A.frames=some (X.env::X.outer):=by rw[<- hst];exact I.ok.frames
 have hl:s'.heap.FunFrames X.base (X.env::X.outer):=by rw[<- hst];exact I.stack
 refine noteX hfr hl hf he hd ht fun h1 L1=>?_;rw[<- z8y hst] at L1;obtain⟨I1,F1,oe1,vs1,T1,e1,d1,t1⟩:=I.leftX F he hd (.inr rfl) hT L1;refine Ab (Ca e1 d1 t1.1 ?_);have hT1f:T1∉frs X.stack:=fun hm=>by
  obtain⟨_,_,oT,ts,q1,q2,_⟩:=t1;obtain⟨_,o,ho,hnf⟩:=I1.stack.mem hm;rw[q1] at ho;injection ho with ho;subst ho;exact hnf ts q2
 obtain⟨oe1',vs1',e1',d1',_,hT1⟩:=F1.tb;have q:oe1'=oe1/\vs1'=vs1:=by grind
 obtain⟨rfl,rfl⟩:=q;refine flightX e1 d1 t1 hT1f fun h2 L2=>?_
 rw[hf] at L2;obtain⟨I2,F2,_⟩:=I1.leftX F1 e1 d1 (.inr rfl) hT1 L2;exact⟨pins,σ,H,ea,rfl,I2,F2,j⟩
end
open PySem PySem.Spec PyProof.Rows
def CXR(P:Program)(w:World):CXT:=fun outer H s E e s'=>∃ea H',e=.ref ea/\s'.os=s.os/\Jv s'.gens/\Un (frs outer) [] H H' s.heap s'.heap/\HOk P w H' s'.heap/\s.heap.objs.size<=ea/\(∃C dd,H' ea=some (ExO C dd ea)) /\
 (∃oe vs,s'.heap.get? ea=some oe/\oe.data=.fields vs/\(vs[1]?=some .none\/∃T,TbAt s'.heap ea vs T .none)/\∀T,vs[1]?=some (.ref T)->s.heap.objs.size<=T/\H' T=none)/\E (.ref ea) none H'
section
variable{X:Cx}{J J':Addr->St->Hp->Prop}{E:Value->Af->Prop}{e:Value}{s:Af}
theorem FlX.wish(F:FlX X pins H s ea)(E:Value->Af->Prop):FlX (X.wish E) pins H s ea:=⟨F.at_,F.tb,F.new⟩
theorem FlX.unwish(F:FlX (X.wish E) pins H s ea):FlX X pins H s ea:=⟨F.at_,F.tb,F.new⟩
theorem XE.wish(h:XE X J e s):XE (X.wish E) J e s:=by
 obtain⟨pins,σ,H,ea,rfl,I,F,j⟩:=h;exact⟨pins,σ,H,ea,rfl,I.wish _,F.wish _,j⟩
theorem XE.unwish(h:XE (X.wish E) J e s):XE X J e s:=by
 obtain⟨pins,σ,H,ea,rfl,I,F,j⟩:=h;exact⟨pins,σ,H,ea,rfl,I.unwish,F.unwish,j⟩
structure AccX (X:Cx) (J:Addr->St->Hp->Prop):Prop where
 acc:∀e s,XE X J e s->X.xe e s
theorem AccX.of:AccX (X.wish (XE X J)) J:=⟨fun _ _ h=>h.unwish⟩
theorem PSs.wishX{st:List Stmt}(hE:∀e s,E e s->X.xe e s)(h:PSs (X.wish E) st t):PSs X st t:=fun pins s σ H D I hw =>
 Bp (h pins s σ H D (I.wish _) hw) (fun _ _ q=>q.unwish) hE
theorem leaves{K:Ah}(h:XE (cxOf (CXR P w) P w K mg base N qual scope f cd A outer s₀ H₀ E₀) (fun ea _ H'=>E₀ (.ref ea) none H') e s):(cxOf (CXR P w) P w K mg base N qual scope f cd A outer s₀ H₀ E₀).xe e s:=by
 obtain⟨pins,σ,H,ea,rfl,I,F,j⟩:=h;obtain⟨oe,vs,he,hd,ht,hT⟩:=F.tb;refine Ab (noteX I.ok.frames I.stack rfl he hd ht fun h1 L1=>?_);obtain⟨I1,F1,oe1,vs1,T1,e1,d1,t1⟩:=I.leftX F he hd (.inr rfl) hT L1;have hT1f:T1∉frs (cxOf (CXR P w) P w K mg base N qual scope f cd A outer s₀ H₀ E₀).stack:=fun hm=>by
  obtain⟨_,_,oT,ts,q1,q2,_⟩:=t1;obtain⟨_,o,ho,hnf⟩:=I1.stack.mem hm;rw[q1] at ho;injection ho with ho;subst ho;exact hnf ts q2
 obtain⟨oe1',vs1',e1',d1',_,hT1⟩:=F1.tb;have q:oe1'=oe1/\vs1'=vs1:=by grind
 obtain⟨rfl,rfl⟩:=q;refine flightX e1 d1 t1 hT1f fun h2 L2=>?_
 obtain⟨I2,F2,oe2,vs2,T2,e2,d2,t2⟩:=I1.leftX F1 e1 d1 (.inl rfl) hT1 L2;obtain⟨oe2',vs2',e2',d2',_,hT2⟩:=F2.tb;have q:oe2'=oe2/\vs2'=vs2:=by grind
 obtain⟨rfl,rfl⟩:=q;exact⟨ea,H,rfl,I2.os,I2.bare,I2.base,I2.hok,F2.new,F2.at_,⟨_,_,e2,d2,.inr ⟨T2,t2⟩,fun T hTT=>⟨(hT2 T hTT).1,(hT2 T hTT).2.1⟩⟩,j⟩
end
abbrev cxX(P:Program)(w:World)(K:Ah)(mg:Str->Option Value)(base:Heap)(N:List Str)(qual:Str)(scope:Scope)(f:Addr)(cd:Value)(A:Around)(outer:List Env)(s:Af)(H:Hp)(E:XK):Cx :=
 (cxOf (CXR P w) P w K mg base N qual scope f cd A outer s H E).wish (XE (cxOf (CXR P w) P w K mg base N qual scope f cd A outer s H E) fun ea _ H'=>E (.ref ea) none H')
section
variable{P:Program}{w:World}{K:Ah}{mg:Str->Option Value}{base:Heap}
theorem accX:AccX (cxX P w K mg base N qual scope f cd A outer s H E) fun ea _ H'=>E (.ref ea) none H':=AccX.of
theorem passDef:Qs (model P w) (A.deeper (Fx qual scope s.heap.objs.size f cd)) (Fx qual scope s.heap.objs.size f cd) (cxX P w K mg base N qual scope f cd A outer s H E).xe :=
 passX rfl rfl
theorem Fun.okX{st:Stmt}(F:Fun K x qual st f fd)(S:FnScope N ps (defScope st))(len:∀vs H Q E,sp vs H Q E->vs.length=ps.length)(hbody:∀(cdv:Value) (A:Around) (outer:List Env) (s:Af) (H:Hp) (vs:List V) (Q:VK) (E:XK),Room k (A.deeper (Fx qual (defScope st) s.heap.objs.size f cdv))->sp vs H Q E ->
   ∃t,PSs (cxX P w K mg base N qual (defScope st) f cdv A outer s H E) (defBody st) t/\t { nx:=fun _ H'=>Q .non H',rt:=Q } (start N vs) H):FnOk P w K mg base (CXR P w) (k+1) f fd ps sp:=by
 obtain⟨oc,od,kV,doc,pm,an,cdv,ct,osl,rfl,lk,hcd⟩:=F.ex;refine z6t lk hcd S len fun A outer s H vs Q E hr hsp=>?_
 obtain⟨t,h,q⟩:=hbody cdv A outer s H vs Q E hr hsp;exact⟨t,PSs.wishX (fun e s' z=>leaves z) h,q⟩
structure CalX (P:Program) (w:World) (K:Ah) (mg:Str->Option Value) (base:Heap) (x:Str) (k:Nat) (ps:List Str) (sp:Sp):Prop where
 ex:∃f fd,FnOk P w K mg base (CXR P w) k f fd ps sp/\mg x=some (.ref f)/\Es K (.ref f)=true/\Binds K fd ps []
theorem Df.calX{st:Stmt}(D:Df K mg x st ps)(S:FnScope N ps (defScope st))(len:∀vs H Q E,sp vs H Q E->vs.length=ps.length)(hbody:∀(f:Addr) (cdv:Value) (A:Around) (outer:List Env) (s:Af) (H:Hp) (vs:List V) (Q:VK) (E:XK),Room k (A.deeper (Fx x (defScope st) s.heap.objs.size f cdv))->sp vs H Q E ->
   ∃t,PSs (cxX P w K mg base N x (defScope st) f cdv A outer s H E) (defBody st) t/\t { nx:=fun _ H'=>Q .non H',rt:=Q } (start N vs) H):CalX P w K mg base x (k+1) ps sp:=by
 obtain⟨f,fd,F,hm,hb⟩:=D.ex;exact⟨f,fd,F.okX S len fun cdv A outer s H vs Q E hr h=>hbody f cdv A outer s H vs Q E hr h,hm,F.kp,hb⟩
end
section
variable{X:Cx}{J:Addr->St->Hp->Prop}{k j:Nat}{f:Addr}{fd:Ie}{ps:List Str}{sp:Sp}{x:Str}{p pos:Pos}{e:Expr}{es:List Expr}{t:TA}
def tCallX(sp:Sp)(J:Addr->St->Hp->Prop)(t:TA):TE:=fun σ H Q=>t σ H fun vs H1=>sp vs H1 Q fun e _ H'=>∀ea,e=.ref ea->J ea σ H'
theorem x0l{σ:St}(F:FnOk X.prog X.w X.K X.mg X.base (CXR X.prog X.w) k f fd ps sp)(hr:Room k X.A)(hb:Binds X.K fd ps [])(hx:AccX X J)(I:Inv X pins σ H s)(r:Vals vs us)(h:sp vs H Q fun e _ H'=>∀ea,e=.ref ea->J ea σ H'):wpAny (model X.prog X.w) X.A (call (.ref f) us) (EP X pins σ Q) X.xe s:=by
 have hl:(us++[]).length=ps.length:=by rw[Ei,<- r.length];exact F.len _ _ _ _ h
 have hb':=hb s us I.kIn hl;rw[Ei] at hb';refine Hd (Ht (F.run X.A X.stack s H ⟨us,[]⟩ us vs Q _ hr I.env0 hb' r h) fun r s' hq=>?_);cases r with
 |error e =>
  obtain⟨ea,H',rfl,os,bare,un,hok,hnew,hat,⟨oe,ws,he,hd,ht,hT⟩,j⟩:=hq;have I':=I.call' os un hok bare fun b z=>absurd z (by simp)
  refine hx.acc _ _ ⟨pins,σ,H',ea,rfl,I',⟨hat,⟨oe,ws,he,hd,?_,fun T hTT=>?_⟩,Bi I.sz hnew⟩,j ea rfl⟩
  ·rcases ht with z|⟨T,z⟩
   ·exact .inl z
   ·exact .inr ⟨T,.inl z⟩
  ·obtain⟨a1,a2⟩:=hT T hTT;refine⟨Bi I.sz a1,a2,fun z=>absurd I.lt (Gd.mpr (z▸a1)),fun y c hy z=>?_,fun q hq z=>?_⟩
   ·obtain⟨v,o,ho,_⟩:=I.cell y c hy;exact absurd (Al ho) (Gd.mpr (z▸a1))
   ·obtain⟨ho,_⟩:=I.pin q hq;exact absurd (Al ho) (Gd.mpr (z▸a1))
 |ok fl =>
  cases fl with
  |ret u=>exact I.after hq
  |next=>exact False.elim hq
  |brk=>exact False.elim hq
  |cont=>exact False.elim hq
theorem pe_cX(C:CalX X.prog X.w X.K X.mg X.base x k ps sp)(hr:Room j X.A)(hx:AccX X J)(ha:PA X (e::es) t)(hjk:k<=j:=by decide)(hg:Gl X x:=by rfl)(hdb:(x==("__debug__" : Str))=false:=by decide)(he:Bc (e::es) X.env=(false,eval e X.env)::Bc es X.env:=by rfl)(hpl:(Eg pos (Bc es X.env)).any (·.1)=false:=by rfl):
  PE X (.Call (.Name x p) (e::es) [] pos) (tCallX sp J t):=by
 obtain⟨f,fd,F,hm,hk,hb⟩:=C.ex;intro pins s σ H Q I h;refine Ew (q2o I hg hm ?_ hdb);refine Jk I.ok.mod.kin hk (thn (ha pos pins s σ H _ I h) fun us s1 ⟨vs,H1,I1,r,q⟩=>⟨I1.kIn,?_⟩) he hpl;exact x0l F (hr.mono hjk) hb hx I1 r q
end
open PySem PySem.Spec PyProof.Rows
structure ECls (K:Ah) (C:Addr) (bm:List Value):Prop where
 ex:∃nm q N bs hdct sn sub ab col dd k0 k1 k2 k3 k5 newId,K.lookup C=some (Dm nm q C N bs bm hdct sn sub ab col dd k0 k1 k2 k3 k5 newId)
 base:bm.contains (.type "BaseException")=true
section
variable{M:Model}{A:Around}{E:Value->Af->Prop}{h:Heap}{g:Array Sx}{d:Drawn}{t:Nat}{os:Pm}
variable{nm q:Str}{C N:Addr}{bs bm:List Value}{hdct:Bool}{sn:List Str}{sub:List Value}{ab:Bool}{col:Option Bool}{dd:Option Addr}{k0 k1 k2 k3 k5:Option Value}{newId:String}
variable{nm' q':Str}{D N':Addr}{bs' bm':List Value}{hdct':Bool}{sn':List Str}{sub':List Value}{ab':Bool}{col':Option Bool}{dd':Option Addr}{k0' k1' k2' k3' k5':Option Value}{newId':String}
theorem excMatchX(hC:h.get? C=some (Dm nm q C N bs bm hdct sn sub ab col dd k0 k1 k2 k3 k5 newId))(hD:h.get? D=some (Dm nm' q' D N' bs' bm' hdct' sn' sub' ab' col' dd' k0' k1' k2' k3' k5' newId'))(he:h.get? e=some oe)(hcls:oe.cls=.ref C)(hbase:bm'.contains (.type "BaseException")=true)(hq:Q ((Value.ref C::bm).contains (.ref D)) ⟨h,g,d,t,os⟩):wpAny M A (excMatches (.ref e) (.ref D)) Q E ⟨h,g,d,t,os⟩:=by
 have hcB:(Value.ref D::bm').contains (.type "BaseException")=true:=by grind
 have f:=tc_notTuple;repeat (first|(with_reducible refine Fp he ?_;rw[hcls])|with_reducible refine Fp hD ?_|(with_reducible refine Iv hD ?_;rw[hcB])|(with_reducible refine Iv hC ?_)|wp_step)
 cases hb:(Value.ref C::bm).contains (.ref D)<;>(rw[hb] at hq;wp_walk;exact hq)
end
section
variable{X:Cx}{pins:List (Addr×Obj)}{σ:St}{H:Hp}{s:Af}
theorem q7k(I:Inv X pins σ H s)(hN:X.N.Nodup)(hi:X.N[i]?=some x)(hk:X.env.scope.names.lookup x=some .local)(h:∀s',Inv X pins (σ.set i none) H s'->Q () s'):wpAny M A (do bindName X.env x .none;unbindBehindTheSuite X.env x pos) Q E s:=by
 obtain⟨m,hn,hl⟩:=id I.loc;have hcls:(X.env.scope.kind==.class||(X.env.scope.kind==.module&&X.env.locals != X.env.globals))=false:=by rw[I.ok.kind];rfl
 have hiσ:i<σ.length:=by rw[I.len];exact(Ba.mp hi).1
 have cne:=I.cne;have tracked:∀{a:Addr} {h':Heap},(∃o,s.heap.get? a=some o/\H a=none)->Ge a s.heap h'->HOk X.prog X.w H h':=fun{a h'} ha hs b ob e=>by
  refine(I.hok b ob e).stay (fun c w' hc q=>(hs.2 c ?_).trans q) (fun _ q=>q) fun _ _ q=>q;rcases hc with rfl|hc
  ·grind
  ·grind
 refine wpAny_nameGoes_keeps hk hn hcls fun h' v hn' hs=>?_;obtain⟨oL,_,_,hoL,_⟩:=id hn;refine h _ ⟨I.ok,I.os,I.bare,⟨fun b o e n hb hx=>?_,fun b o e n hb hx=>?_,I.base.free,fun b o e hx=>?_,I.base.tups,I.base.frzs,I.base.tbls⟩,⟨_,hn',fun j y v' e1 e2 e3=>?_⟩,fun y c e=>?_,I.free,I.freeC,fun p hp=>?_,tracked ⟨oL,hoL,I.free⟩ hs,by simpa using I.len⟩
 ·exact(hs.2 b (Bf (Be (Al e) I.ok.above))).trans (I.base.keep b o e n hb hx)
 ·obtain⟨sl,e1⟩:=I.base.slot b o e n hb hx;exact⟨sl,(hs.2 b (Bf (Be (Al e) I.ok.above))).trans e1⟩
 ·obtain⟨o',e1⟩:=I.base.there b o e hx;exact⟨o',(hs.2 b (Bf (Be (Al e) I.ok.above))).trans e1⟩
 ·by_cases hj:j=i
  ·simp_all
  ·rw[Kx (Cd hj)] at e2;obtain⟨u',r',q⟩:=hl j y v' e1 e2 e3;refine⟨u',r',?_⟩;rcases q with⟨k,e⟩|⟨k,c,e,z⟩
   ·refine .inl ⟨k,?_⟩;have:y≠x:=fun e=>hj (q6t hN e1 (e▸hi));simp[this,e]
   ·exact .inr ⟨k,c,e,z.sameBut hs (cne y c e)⟩
 ·obtain⟨w',z⟩:=I.cell y c e;exact⟨w',z.sameBut hs (cne y c e)⟩
 ·obtain⟨e,n,ne,nf,d⟩:=I.pin p hp;exact⟨(hs.2 p.1 ne).trans e,n,ne,nf,d⟩
abbrev Cx.pinned(X:Cx)(pn:List (Addr×Obj)):Cx:={ X with pn:=pn }
theorem Cx.Ok.pinned{pn:List (Addr×Obj)}(ok:X.Ok):(X.pinned pn).Ok:=⟨ok.mod,ok.kind,ok.glob,ok.blt,ok.above,ok.inj,ok.has,ok.cab,ok.hd,ok.frames,ok.stk,ok.exf,ok.bs,ok.bsz,ok.noex,ok.exfs,ok.funs,ok.frf⟩
theorem Cx.Ok.unpin{pn:List (Addr×Obj)}(ok:(X.pinned pn).Ok):X.Ok:=⟨ok.mod,ok.kind,ok.glob,ok.blt,ok.above,ok.inj,ok.has,ok.cab,ok.hd,ok.frames,ok.stk,ok.exf,ok.bs,ok.bsz,ok.noex,ok.exfs,ok.funs,ok.frf⟩
theorem Inv.toPn(I:Inv X pins σ H s):Inv (X.pinned (X.pn++pins)) [] σ H s:=⟨I.ok.pinned,I.os,I.bare,I.base,I.loc,I.cell,I.free,I.freeC,fun p hp=>I.pin p (by simpa using hp),I.hok,I.len⟩
theorem Inv.ofPn(I:Inv (X.pinned (X.pn++pins)) pins' σ H s):Inv X pins σ H s:=⟨I.ok.unpin,I.os,I.bare,I.base,I.loc,I.cell,I.free,I.freeC,fun p hp=>I.pin p (Bw _ hp),I.hok,I.len⟩
theorem FlX.ofPn(F:FlX (X.pinned (X.pn++pins)) pins' H s e):FlX X pins H s e:=by
 obtain⟨oe,vs,h1,h2,h3,h4⟩:=F.tb;exact⟨F.at_,⟨oe,vs,h1,h2,h3,fun T hT=>let ⟨a,b,c,d,f⟩:=h4 T hT;⟨a,b,c,d,fun p hp=>f p (Bw _ hp)⟩⟩,F.new⟩
abbrev Cx.hand(X:Cx)(e:Addr):Cx:={ X with A:=X.A.mark (some (.ref e)),calm:=false,xe:=fun _ _=>False }
theorem Cx.Ok.hand(ok:X.Ok):(X.hand e).Ok:=⟨ok.mod,ok.kind,ok.glob,ok.blt,ok.above,ok.inj,ok.has,ok.cab,(fun z=>by cases z),ok.frames,ok.stk,ok.exf,ok.bs,ok.bsz,ok.noex,ok.exfs,ok.funs,ok.frf⟩
theorem Inv.hand(I:Inv X pins σ H s)(e:Addr):Inv (X.hand e) pins σ H s:=⟨I.ok.hand,I.os,I.bare,I.base,I.loc,I.cell,I.free,I.freeC,I.pin,I.hok,I.len⟩
theorem Inv.unhand(I:Inv (X.hand e) pins σ H s)(ok:X.Ok):Inv X pins σ H s:=⟨ok,I.os,I.bare,I.base,I.loc,I.cell,I.free,I.freeC,I.pin,I.hok,I.len⟩
def SubX(K:Ah)(C:Value)(D:Addr):Prop:=∃c bm,C=.ref c/\ECls K c bm/\(Value.ref c::bm).contains (.ref D)=true
def gone(i:Nat)(D:Ends):Ends:=⟨fun σ H=>D.nx (σ.set i none) H,D.rt,fun σ H=>D.bk (σ.set i none) H,fun σ H=>D.ct (σ.set i none) H⟩
def tTry(K:Ah)(i:Nat)(C:Addr)(th:TS)(tb:(Addr->St->Hp->Prop)->TS):TS:=fun D σ H=>∃J:Addr->St->Hp->Prop,
 (∀ea σ' H',J ea σ' H'->(∃c dd,H' ea=some (ExO c dd ea)/\SubX K c C)/\th (gone i D) (σ'.set i (some (.ref ea))) H')/\tb J D σ H
theorem ps_try(K:Ah)(hK:X.K=K)(hst:X.stack=X.env::X.outer)(hf:X.env.frame=some X.env.locals)(hN:X.N.Nodup)(hi:X.N[i]?=some n)(hk:X.env.scope.names.lookup n=some .local)(hg:Gl X dn)(hm:X.mg dn=some (.ref C))(eC:ECls X.K C bmC)(hb:∀pn J,PSs ((X.pinned pn).wish (XE (X.pinned pn) J)) body (tb J))(hh:∀ea,PSs (X.hand ea) (b₀::suite) th)(hdb:(dn==("__debug__" : Str))=false:=by decide):
  PS X (.Try body [.ExceptHandler (some (.Name dn dp)) (some n) (b₀::suite) hp] [] [] pos) (tTry K i C th tb):=by
 subst hK;intro pins s σ H D I ⟨J,hJ,q⟩;refine wpAny_Try_except (Bp (hb (X.pn++pins) J [] s σ H D (I.toPn.wish _) q) (fun f s1 z=>?_) fun e s1 z=>?_)
 ·have z':=z.unwish;have z2:SP X pins D f s1:=by
   cases f with
   |next=>obtain⟨σ',H',I',q'⟩:=z';exact⟨σ',H',I'.ofPn,q'⟩
   |brk=>obtain⟨σ',H',I',q'⟩:=z';exact⟨σ',H',I'.ofPn,q'⟩
   |cont=>obtain⟨σ',H',I',q'⟩:=z';exact⟨σ',H',I'.ofPn,q'⟩
   |ret u=>obtain⟨v,σ',H',I',r,q'⟩:=z';exact⟨v,σ',H',I'.ofPn,r,q'⟩
  cases f with
  |next=>exact Iw z2
  |ret v=>exact z2
  |brk=>exact z2
  |cont=>exact z2
 ·obtain⟨pins',σ1,H1,ea,rfl,I1,F1,j⟩:=z;have I1:=I1.ofPn;have F1:=F1.ofPn;obtain⟨⟨c,dd,hat,cc,bm,rfl,eCc,hsub⟩,hth⟩:=hJ ea σ1 H1 j;obtain⟨oe,vs,he,hd,ht,hT⟩:=F1.tb;have hfr:X.A.frames=some (X.env::X.outer):=by rw[<- hst];exact I.ok.frames
  have hl:s1.heap.FunFrames X.base (X.env::X.outer):=by rw[<- hst];exact I1.stack
  refine noteX hfr hl hf he hd ht fun h2 L2=>?_;rw[<- z8y hst] at L2;obtain⟨I2,F2,oe2,vs2,T2,e2,d2,t2⟩:=I1.leftX F1 he hd (.inr rfl) hT L2;have land:∀{s':Af} {oe:Obj} {vs:Array Value} {T:Addr} {fl:Value} {Aa:Around} {Ee:Value->Af->Prop} {Q:Unit->Af->Prop},Inv X pins σ1 H1 s'->FlX X pins H1 s' ea->s'.heap.get? ea=some oe->oe.data=.fields vs->TbAt s'.heap ea vs T fl ->
    (∀h',Inv X pins σ1 H1 { s' with heap:=h' }->FlX X pins H1 { s' with heap:=h' } ea->(∃oe' vs' T',h'.get? ea=some oe'/\oe'.data=.fields vs'/\TbAt h' ea vs' T' .none)->Q () { s' with heap:=h' })->wpAny (model X.prog X.w) Aa (setFlight (.ref ea) none) Q Ee s':=by
   intro s' oe vs T fl Aa Ee Q I' F' e' d' t' k;have hTf:T∉frs X.stack:=fun hm=>by
    obtain⟨_,_,oT,ts,q1,q2,_⟩:=t';obtain⟨_,o,ho,hnf⟩:=I'.stack.mem hm;rw[q1] at ho;injection ho with ho;subst ho;exact hnf ts q2
   obtain⟨oe1',vs1',e1',d1',_,hT1⟩:=F'.tb;have q:oe1'=oe/\vs1'=vs:=by grind
   obtain⟨rfl,rfl⟩:=q;refine flightX e' d' t' hTf fun h3 L3=>?_
   obtain⟨I3,F3,oe3,vs3,T3,e3,d3,t3⟩:=I'.leftX F' e' d' (.inl rfl) hT1 L3;exact k h3 I3 F3 ⟨oe3,vs3,T3,e3,d3,t3⟩
  refine land I2 F2 e2 d2 t2 fun h3 I3 F3 ⟨oe3,vs3,T3,e3,d3,t3⟩=>?_;refine wpAny_handleBy_cons (codeAny_handlers_test ?_) (by intro z;cases z);refine q2o (I3.hand ea) hg hm ?_ hdb;obtain⟨nm,q0,N,bs,hdct,sn,sub,ab,col,dd0,k0,k1,k2,k3,k5,newId,lk⟩:=eCc.ex;obtain⟨nm',q0',N',bs',hdct',sn',sub',ab',col',dd0',k0',k1',k2',k3',k5',newId',lk'⟩:=eC.ex;have hcls:∃oe,h3.get? ea=some oe/\oe.cls=.ref cc:=by
   obtain⟨⟨ws,sl,z,_⟩,_,_⟩:=I3.hok ea _ hat;exact⟨_,z,rfl⟩
  obtain⟨oe4,e4,c4⟩:=hcls;refine excMatchX (I3.kIn _ _ lk) (I3.kIn _ _ lk') e4 c4 eC.base ?_;rw[hsub];refine codeAny_handlers_suite_as (land I3 F3 e3 d3 t3 fun h5 I5 F5 _=>?_);refine q6u (X:=X.hand ea) (I5.hand ea) hN hi (.inl hk) (show RelV (.ref ea) (.ref ea) from rfl) (fun s6 I6=>?_) (.inr hk);refine Bp (hh ea pins s6 _ H1 (gone i D) I6 hth) (fun f s7 z=>?_) fun _ _ z=>z.elim
  cases f with
  |next =>
   obtain⟨σ',H',I',q'⟩:=z;exact q7k (I'.unhand I.ok) hN hi hk fun s8 I8=>⟨_,H',I8,q'⟩
  |brk =>
   obtain⟨σ',H',I',q'⟩:=z;exact q7k (I'.unhand I.ok) hN hi hk fun s8 I8=>⟨_,H',I8,q'⟩
  |cont =>
   obtain⟨σ',H',I',q'⟩:=z;exact q7k (I'.unhand I.ok) hN hi hk fun s8 I8=>⟨_,H',I8,q'⟩
  |ret u =>
   obtain⟨v,σ',H',I',r,q'⟩:=z;exact q7k (I'.unhand I.ok) hN hi hk fun s8 I8=>⟨v,_,H',I8,r,q'⟩
end
open PySem PySem.Spec PyProof.Rows
section
variable{prog:Program}{w:World}{A:Around}{E:Value->Af->Prop}{h:Heap}{g:Array Sx}{d:Drawn}{t:Nat}{os:Pm}
variable{nm q:Str}{C N:Addr}{bs bm bmB:List Value}{hdct:Bool}{sn:List Str}{sub:List Value}{ab:Bool}{col:Option Bool}{dd:Option Addr}{k0 k1 k2 k3 k5:Option Value}{B newId initId:String}
theorem q3k(F:Rk B newId initId bmB)(T:Pn h bmB bm){rest:List Value}(hC:h.get? C=some (Dm nm q C N bs bm hdct sn sub ab col dd k0 k1 k2 k3 k5 newId))(hn:h.Ns N mN)(hi:mN "__init__" = some (.ref fI))(hfI:h.get? fI=some oI)(hfc:oI.cls=.type "function")(hq:∀h' e,Heap.MadeExcOf h h' e (.ref C) rest->h.objs.size<=e ->
   wpAny (model prog w) A (call (.ref fI) (.ref e::rest)) (fun r s'=>r=.none/\Q (.done (.ret (.ref e))) s') E ⟨h',g,d,t,os⟩)(hrest:rest.length<=sizeLine:=by size_fits):
  wpAny (model prog w) A (Dw.«type.__call__» ⟨.ref C::rest,[]⟩) Q E ⟨h,g,d,t,os⟩:=by
 repeat (first|with_reducible refine Fp hC ?_|with_reducible refine wpAny_madeBy_exc hC ?_|wp_step)
 refine codeAny_call_builtin_code (Rl _ F.quiet) (wpAny_check_new_subT F T hC ?_);refine codeAny_exc_new_subT F T hC ?_ hrest;have hC₁:=Ag { cls:=.ref C,data:=.fields #[.ref h.objs.size,.none,.none,.none,.bool false,.none] }
  (Ag { cls:=.type "tuple",data:=.seq rest.toArray } hC)
 have hfI₁:=Ag { cls:=.ref C,data:=.fields #[.ref h.objs.size,.none,.none,.none,.bool false,.none] }
  (Ag { cls:=.type "tuple",data:=.seq rest.toArray } hfI)
 have hn₁:((h.push { cls:=.type "tuple",data:=.seq rest.toArray }).push { cls:=.ref C,data:=.fields #[.ref h.objs.size,.none,.none,.none,.bool false,.none] }).Ns N mN :=
  let ⟨o,es,ep,e,r⟩:=hn;⟨o,es,ep,Ag _ (Ag _ e),r⟩
 have hget:((h.push { cls:=.type "tuple",data:=.seq rest.toArray }).push
   { cls:=.ref C,data:=.fields #[.ref h.objs.size,.none,.none,.none,.bool false,.none] }).get? (h.objs.size+1)=some
   { cls:=.ref C,data:=.fields #[.ref h.objs.size,.none,.none,.none,.bool false,.none] }:=by heap_get
 have T₁:=T.keeps (h':=(h.push { cls:=.type "tuple",data:=.seq rest.toArray }).push { cls:=.ref C,data:=.fields #[.ref h.objs.size,.none,.none,.none,.bool false,.none] })
  fun b o e=>Ag _ (Ag _ e)
 have hcC:(Value.ref C::bm).contains (.ref C)=true:=by simp
 repeat (first|with_reducible refine Fp hget ?_|(with_reducible refine Iv hC₁ ?_;rw[hcC])|wp_step)
 refine wpAny_typeLookup_tail hC₁ hn₁ T₁ F.mroIs F.init.lookup ?_;rw[hi];refine Bz (Ab ?_);refine Ab (Hu ⟨_,hfI₁,hfc⟩ ?_);refine Ae (Ab (Bp (hq _ (h.objs.size+1) ⟨fun b o hb=>Ag _ (Ag _ hb),Kw (Ir _),h.objs.size,hget,Kw (Ak _),?_⟩ (Ir _)) (fun r s' hr=>?_) fun _ _ x=>x))
 ·exact Ag _ (Heap.get?_push_at rfl rfl)
 ·obtain⟨rfl,hQ⟩:=hr
  wp_walk
  exact hQ
theorem q5z(F:Rk B newId initId bmB)(T:Pn h bmB bm){rest:List Value}(hC:h.get? C=some (Dm nm q C N bs bm hdct sn sub ab col dd k0 k1 k2 k3 k5 newId))(hn:h.Ns N mN)(hi:mN "__init__" = some (.ref fI))(hfI:h.get? fI=some oI)(hfc:oI.cls=.type "function")(hq:∀h' e,Heap.MadeExcOf h h' e (.ref C) rest->h.objs.size<=e ->
   wpAny (model prog w) (A.under (.builtin "type.__call__" ⟨.ref C::rest,[]⟩)) (call (.ref fI) (.ref e::rest)) (fun r s'=>r=.none/\Q (.ref e) s') E ⟨h',g,d,t,os⟩)(hrest:rest.length<=sizeLine:=by size_fits):
  wpAny (model prog w) A (call (.ref C) rest) Q E ⟨h,g,d,t,os⟩:=by
 have f1:=tc_lookup;have f2:=tc_bind (.ref C);refine Hd (codeAny_of_tree ?_);repeat (any_goals (first|assumption|with_reducible refine Fp hC ?_|wp_step))
 refine⟨rfl,?_⟩;refine codeAny_call_builtin_at (Rl _ (by decide +kernel)) entry_typeCall (wpAny_check_type_call_sub hC (q3k F T hC hn hi hfI hfc fun h' e hm hle=>?_));exact hq h' e hm hle
theorem raiseX(hbase:bm.contains (.type "BaseException")=true)(hh:A.handled=none)(h:wpAny M A x (fun v s₁=>∃e de vs sl,v=.ref e/\s₁.heap.get? C=some (Dm nm q C N bs bm hdct sn sub ab col dd k0 k1 k2 k3 k5 newId) /\
   s₁.heap.get? e=some { cls:=.ref C,dict:=de,data:=.fields vs,slots:=sl }/\vs[1]?=some .none/\E (.ref e) s₁) E s):
  wpAny M A (raiseStmt env (some x) none) Q E s:=by
 have hcB:(Value.ref C::bm).contains (.type "BaseException")=true:=by grind
 refine Ab (Bp h (fun v s₁ h₁=>?_) fun _ _ x=>x);obtain⟨e,de,vs,sl,rfl,hC,he,h1,hE⟩:=h₁;repeat (first|with_reducible refine Fp he ?_|with_reducible refine Fp hC ?_|(with_reducible refine Iv hC ?_;rw[hcB])|(with_reducible refine Ca he rfl h1 ?_)|wp_step)
 exact wpAny_raiseNew_none hh hE
end
open PySem PySem.Spec PyProof.Rows
def ExN(C:Value)(dd:Option Addr)(e:Addr):HO:=.ext fun h=>∃vs sl,h.get? e=some { cls:=C,dict:=dd,data:=.fields vs,slots:=sl }/\vs.size=6/\vs[1]?=some .none
abbrev bmV:List Value:=[.type "ValueError",.type "Exception",.type "BaseException",.type "object"]
structure EMk (K:Ah) (C fI:Addr) (bm:List Value):Prop where
 ex:∃nm q N bs hdct sn sub ab col dd k0 k1 k2 k3 k5 mN,K.lookup C=some (Dm nm q C N bs bm hdct sn sub ab col dd k0 k1 k2 k3 k5 "ValueError.__new__")/\(∀h:Heap,K.In h->h.Ns N mN)/\mN "__init__" = some (.ref fI)
 tail:∀h:Heap,K.In h->Pn h bmV bm
 fn:∃oI,K.lookup fI=some oI/\oI.cls=.type "function"
 kp:Es K (.ref C)=true
theorem EMk.base{K:Ah}(M:EMk K C fI bm)(KX:K.In h):bm.contains (.type "BaseException")=true:=(M.tail h KX).hasType (by decide)
section
variable{X:Cx}{pins:List (Addr×Obj)}{σ:St}{H:Hp}{s:Af}{e:Addr}
theorem Inv.asO(I:Inv X pins σ H s)(h:H e=some (ExN C dd e)):Inv X pins σ (upd H e (ExO C dd e)) s:=by
 have un:Un (frs X.stack) [] H (upd H e (ExO C dd e)) s.heap s.heap:=by
  have hk:∀{b:Addr} {o:HO},H b=some o->b≠e\/o=ExN C dd e:=fun{b o} hb=>by
   by_cases z:b=e
   ·grind
   ·exact .inl z
  refine⟨fun b o hb _ _ _=>hb,fun b o hb _ _ _=>⟨o.slots,hb⟩,fun b o _ n _=>?_,fun b o hb _=>⟨o,hb⟩,fun b xs q=>?_,fun b o u q=>?_,fun b ps q=>⟨#[],?_⟩⟩
  ·rw[q0e (fun z=>by rw[z,h] at n;cases n)];exact n
  ·rcases hk q with z|z
   ·rw[q0e z];exact q
   ·cases z
  ·rcases hk q with z|z
   ·rw[q0e z];exact q
   ·cases z
  ·rcases hk q with z|z
   ·rw[q0e z,q];simp
   ·cases z
 have hok:HOk X.prog X.w (upd H e (ExO C dd e)) s.heap:=fun a o ha=>by
  by_cases z:a=e
  ·subst z;rw[q0b] at ha;cases ha;obtain⟨⟨vs,sl,q1,q2,_⟩,q3,_⟩:=I.hok a _ h;exact⟨⟨vs,sl,q1,q2⟩,q3,fun h1 h2 ⟨ws,sl,k1,k2⟩ k=>⟨ws,sl,k _ k1,k2⟩⟩
  ·rw[q0e z] at ha;refine(I.hok a o ha).stay (fun b u _ q=>q) (fun b q=>?_) fun b xs q=>?_
   ·rw[q0e (fun y=>by rw[y,h] at q;cases q)];exact q
   ·rw[q0e (fun y=>by rw[y,h] at q;cases q)];exact q
 exact I.call' (s':=s) rfl un hok I.bare fun b z=>absurd z (by simp)
def tRaise(C:Addr)(sp:Sp)(J:Addr->St->Hp->Prop)(t:TA):TS:=fun _ σ H=>t σ H fun vs H1=>∀ea,H1 ea=none ->
 sp (.ref ea::vs) (upd H1 ea (ExN (.ref C) none ea)) (fun v H2=>v=.non/\∃dd,H2 ea=some (ExN (.ref C) dd ea)/\J ea σ (upd H2 ea (ExO (.ref C) dd ea))) E0
theorem z7r{np cpos pos:Pos}(M:EMk X.K C fI bm)(F:FnOk X.prog X.w X.K X.mg X.base CX0 k fI fd ps sp)(hr:Room (k+1) X.A)(hb:Binds X.K fd ps [])(hx:AccX X J)(hc:X.calm=true)(hg:Gl X x)(hm:X.mg x=some (.ref C))(ha:PA X (e₀::es) t)(hps:ps.length<=100:=by decide)(hdb:(x==("__debug__" : Str))=false:=by decide)(he:Bc (e₀::es) X.env=(false,eval e₀ X.env)::Bc es X.env:=by rfl)(hpl:(Eg cpos (Bc es X.env)).any (·.1)=false:=by rfl):
  PS X (.Raise (some (.Call (.Name x np) (e₀::es) [] cpos)) none pos) (tRaise C sp J t):=by
 intro pins s σ H D I h;obtain⟨nm,q,N,bs,hdct,sn,sub,ab,col,dd,k0,k1,k2,k3,k5,mN,lk,hN,hi⟩:=M.ex;obtain⟨oI,lkI,hfc⟩:=M.fn;have key:wpAny (model X.prog X.w) X.A (eval (.Call (.Name x np) (e₀::es) [] cpos) X.env) (fun v s₁=>∃e de vs sl,v=.ref e/\s₁.heap.get? C=some (Dm nm q C N bs bm hdct sn sub ab col dd k0 k1 k2 k3 k5 "ValueError.__new__") /\
   s₁.heap.get? e=some { cls:=.ref C,dict:=de,data:=.fields vs,slots:=sl }/\vs[1]?=some .none/\X.xe (.ref e) s₁) X.xe s:=by
  refine Ew (q2o I hg hm ?_ hdb);refine Jk I.ok.mod.kin M.kp (thn (ha cpos pins s σ H _ I h) fun us s1 ⟨vs,H1,I1,r,hq⟩=>⟨I1.kIn,?_⟩) he hpl;obtain⟨hp,g,dr,tk,os⟩:=s1;have KX:=I1.kIn;have hlen:us.length<=sizeLine:=by
   have hh:=F.len _ _ _ _ (hq hp.objs.size (I1.hok.fresh (Ak _)));rw[Aw] at hh;rw[<- r.length,Ea];lia
  refine q5z Mr (M.tail hp KX) (KX _ _ lk) (hN hp KX) hi (KX _ _ lkI) hfc fun h' e hme hle=>?_;have hfree:=I1.hok.fresh hle;obtain⟨t0,hrec,_,_⟩:=hme.there;have I2:Inv X pins σ (upd H1 e (ExN (.ref C) none e)) ⟨h',g,dr,tk,os⟩:=I1.laid (h':=h') (t':=tk) (fun b u q=>hme.keeps b u q) hle ⟨⟨_,_,hrec,rfl,rfl⟩,⟨_,hrec⟩,fun h1 h2 ⟨ws,sl,k1,k2⟩ k=>⟨ws,sl,k _ k1,k2⟩⟩;have hq':=hq e hfree;have r2:Vals (V.ref e::vs) (Value.ref e::us):=.cons rfl r;have hl:((Value.ref e::us)++[]).length=ps.length:=by rw[Ei,<- r2.length];exact F.len _ _ _ _ hq'
  have hb':=hb ⟨h',g,dr,tk,os⟩ (Value.ref e::us) I2.kIn hl;rw[Ei] at hb';refine Hd (Ht (F.run _ X.stack _ _ ⟨Value.ref e::us,[]⟩ (Value.ref e::us) _ _ _ (hr.make C us []) (I2.env0.make C us []) hb' r2 hq') fun r s' hz=>?_);cases r with
  |error e=>exact hz.elim
  |ok fl =>
   cases fl with
   |ret u =>
    obtain⟨v,H',I3,rv,ev,de,hE,j⟩:=I2.after hz;subst ev;refine⟨rv,?_⟩;obtain⟨⟨ws,sl,q1,q2,q3⟩,_,_⟩:=I3.hok e _ hE;refine⟨e,de,ws,sl,rfl,I3.kIn _ _ lk,q1,q3,hx.acc _ _ ⟨pins,σ,_,e,rfl,I3.asO hE,⟨⟨_,_,q0b⟩,⟨_,ws,q1,rfl,.inl q3,fun T hT=>?_⟩,Bi I1.sz hle⟩,j⟩⟩;rw[q3] at hT;cases hT
   |next=>exact False.elim hz
   |brk=>exact False.elim hz
   |cont=>exact False.elim hz
 have hbase:=M.base I.kIn;first
  |exact Ab (Cy (raiseX hbase (I.ok.hd hc) (Ab (Bp key (fun v s₁ z=>Ab (Cy (Ae z))) fun _ _ z=>z))))
  |(simp only[evalOpt,Option.map];exact Ab (Cy (raiseX hbase (I.ok.hd hc) (Ab (Bp key (fun v s₁ z=>Ab (Cy (Ae z))) fun _ _ z=>z)))))
  |exact Ab (Cy (raiseX hbase (I.ok.hd hc) key))
end
open PySem PySem.Spec PyProof.Rows
section
variable{prog:Program}{w:World}{A:Around}{R:Result->Af->Prop}{h:Heap}{g:Array Sx}{d:Drawn}{t:Nat}{os:Pm}
variable{nm q:Str}{C N:Addr}{bs bm bmB:List Value}{hdct:Bool}{sn:List Str}{sub:List Value}{ab:Bool}{col:Option Bool}{dd:Option Addr}{k0 k1 k2 k3 k5:Option Value}{B newId initId:String}
theorem z5e(F:Rk B newId initId bmB)(T:Pn h bmB bm){rest:List Value}(hC:h.get? C=some (Dm nm q C N bs bm hdct sn sub ab col dd k0 k1 k2 k3 k5 newId))(he:h.get? e=some { cls:=.ref C,dict:=de,data:=.fields vs,slots:=sl })(hs:vs.size=6)(hrest:rest.length<=sizeLine)(hq:R (.ok (.ret .none)) ⟨(h.push { cls:=.type "tuple",data:=.seq rest.toArray }).update e (Eo (·.setIfInBounds 0 (.ref h.objs.size))),g,d,t,os⟩):
  Fl (model prog w) A (.call (.builtin initId) ⟨.ref e::rest,[]⟩) R ⟨h,g,d,t,os⟩:=by
 refine Ij F.init.plain F.initEntry (wpAny_check_init_subT F T hC he rfl ?_);have he2:=Ag { cls:=.type "tuple",data:=.seq rest.toArray } he
 wp_walk
 have h0:vs[(0:Nat)]?=some (vs[0]'(by lia)):=Du (by lia);rw[h0];refine Ae (Ab (Gq he2 rfl (by lia) ?_));generalize vs[0]'(by lia)=v0;cases v0<;>(wp_walk;exact hq)
end
theorem upd_id(h:H a=some o):upd H a o=H:=by
 funext b;by_cases z:b=a
 ·rw[z,q0b,h]
 ·rw[q0e z]
structure ELow (K:Ah) (C:Addr) (bm:List Value):Prop where
 ex:∃nm q N bs hdct sn sub ab col dd k0 k1 k2 k3 k5,K.lookup C=some (Dm nm q C N bs bm hdct sn sub ab col dd k0 k1 k2 k3 k5 "ValueError.__new__")
 tail:∀h:Heap,K.In h->Pn h bmV bm
theorem EMk.low{K:Ah}(M:EMk K C fI bm):ELow K C bm:=by
 obtain⟨nm,q,N,bs,hdct,sn,sub,ab,col,dd,k0,k1,k2,k3,k5,mN,lk,_⟩:=M.ex;exact⟨⟨nm,q,N,bs,hdct,sn,sub,ab,col,dd,k0,k1,k2,k3,k5,lk⟩,M.tail⟩
structure EIni (K:Ah) (D:Addr) (mc:Value):Prop where
 sp:Hn K (.ref D) "__getattribute__" = some (some (.builtin "type.__getattribute__"))
 rd:W.readsIn K D mc=true
 fc:W.findCls K (.ref D) mc "__init__" = some (.val (.builtin "ValueError.__init__"))
section
variable{X:Cx}{x:Str}{p pos apos:Pos}{a b:Expr}{t:TA}{C D:Addr}{bm:List Value}{mc:Value}
def tIni(C:Addr)(t:TA):TE:=fun σ H Q=>t σ H fun vs H1=>∃ea v de,vs=[.ref ea,v]/\H1 ea=some (ExN (.ref C) de ea)/\Q .non H1
theorem z8z{pl:Sem Bool}(L:ELow X.K C bm)(N:EIni X.K D mc)(hg:Gl X x)(hm:X.mg x=some (.ref D))(ha:PA X [a,b] t)(hdb:(x==("__debug__" : Str))=false:=by decide)(hst:Bc [a,b] X.env=(false,eval a X.env)::Bc [b] X.env:=by rfl)(hpl:(Eg pos (Bc [b] X.env)).any (·.1)=false:=by rfl)(ht:eval (.Call (.Attribute (.Name x p) "__init__" apos) [a,b] [] pos) X.env=(do
   let ov<-eval (.Name x p) X.env
   Ls apos.atName
   let (f,first)<-Jw [ov] (Kp ov "__init__" pl)
   Pz pos f first (Eg pos (Bc [a,b] X.env)) (Lw pos (Ip [] X.env))):=by rfl):
  PE X (.Call (.Attribute (.Name x p) "__init__" apos) [a,b] [] pos) (tIni C t):=by
 intro pins s σ H Q I h;refine Oe (q2o I hg hm ?_ hdb) ht;refine W.method_cls I.kIn N.sp (W.cls_value I.kIn N.rd N.fc rfl ?_);refine Kz (thn (ha pos pins _ σ H _ (I.tok _) h) fun us s1 ⟨vs,H1,I1,r,ea,v,de,ev,hE,q⟩=>?_) hst hpl;subst ev;obtain⟨u1,u2,rfl,ru,rv⟩:=r.two;obtain rfl:u1=Value.ref ea:=ru;obtain⟨hp,g,dr,tk,os⟩:=s1;obtain⟨nm,q0,N0,bs,hdct,sn,sub,ab,col,dd,k0,k1,k2,k3,k5,lk⟩:=L.ex;obtain⟨⟨ws,sl,q1,q2,q3⟩,_,_⟩:=I1.hok ea _ hE;refine Hd (z5e Mr (L.tail hp I1.kIn) (I1.kIn _ _ lk) q1 q2 (by show 1<=sizeLine;decide) ?_);have q1':=Ag { cls:=.type "tuple",data:=.seq #[u2] } q1;have hrec:=Ex (Eo (·.setIfInBounds 0 (Value.ref hp.objs.size))) q1' rfl;have I2:=I1.write (o:=ExN (.ref C) de ea) (t':=tk) (h':=(hp.push { cls:=.type "tuple",data:=.seq #[u2] }).update ea (Eo (·.setIfInBounds 0 (Value.ref hp.objs.size)))) (by rw[hE];exact trivial) (.inl rfl)
  (fun b u hb hu=>by rw[Br _ _ (Cd hb)];exact Ag _ hu) ⟨_,hrec⟩
  ⟨⟨ws.setIfInBounds 0 (.ref hp.objs.size),sl,hrec,by simpa using q2,by rw[Array.getElem?_setIfInBounds_ne (by decide)];exact q3⟩,⟨_,hrec⟩,fun h1 h2 ⟨ws,sl,k1,k2⟩ k=>⟨ws,sl,k _ k1,k2⟩⟩
 rw[upd_id hE] at I2;exact⟨.non,H1,I2,rfl,q⟩
end
open PySem PySem.Spec PyProof.Rows
def ExMro(l:List Value):Prop:=∃rs:List Addr,l=rs.map Value.ref++bmV
theorem z2i(self:Value):Tv self "__setattr__" bmV=pure ():=by kernel_rfl
theorem z5f(self:Value)(h:ExMro l):Tv self "__setattr__" l=pure ():=by
 obtain⟨rs,rfl⟩:=h;induction rs with
 |nil=>exact z2i self
 |cons c r ih=>show Tv self "__setattr__" (.ref c::(r.map Value.ref++bmV))=_;rw[refuseLoop_ref];exact ih
theorem q6q(h:ExMro l):l.contains (.type "object")=true/\l.isEmpty=false:=by
 obtain⟨rs,rfl⟩:=h;refine⟨?_,?_⟩
 ·induction rs with
  |nil=>decide
  |cons c r ih=>show(Value.ref c::(r.map Value.ref++bmV)).contains _=true;rw[Ml,ih,Rm]
 ·cases rs<;>rfl
structure ESet (K:Ah) (C:Addr) (f:Str):Prop where
 cls:∃cd,Nk K C=some cd/\ExMro cd.mro/\cd.hasDict=true
 sa:Bl K (.ref C) "__setattr__" = some (some (.builtin "object.__setattr__"))
 tk:Bl K (.ref C) f=some none
section
variable{prog:Program}{w:World}{A:Around}{R:Result->Af->Prop}{s:Af}{K:Ah}{x C:Addr}
theorem q8w(X:K.In s.heap)(I:Ji s.heap x ox C od)(S:ESet K C name)(h:wpAny (model prog w) A.in1 (Dw.ObjectAttr.storeInOwnDict (.ref x) (.ref C) (.str name tk) name v false)
   (fun fin s'=>match fin with|.done f=>R (.ok f) s'|.again c'=>c'.quiet=true/\Fl (model prog w) A c' R s') (fun e s'=>R (.error e) s') s):
  Fl (model prog w) A (.call (.builtin "object.__setattr__") ⟨[.ref x,.str name tk,v],[]⟩) R s:=by
 have SF:=PySem.F.store_object;obtain⟨cd,hc,ho,_⟩:=S.cls;have sub:Uc (model prog w) s.heap (isInstance (.ref x) (.type "object")) true:=I.type.andThen (Qk X (by unfold Lv;rw[hc,Eu,if_neg (by rw[(q6q ho).2];decide),(q6q ho).1]));refine Ij SF.slot.plain SF.entry (@Rn (model prog w) _ _ s "object.__setattr__" "object" "__setattr__" (.ref x) [.str name tk,v] [] _ SF.kind SF.split sub (SF.args (.ref x) (.str name tk) v) ?_);have hm:Uc (model prog w) s.heap (mroOf (.ref C)) cd.mro:=(Mn X hc).andThen .now;rw[W.osa_eq,refuse_eq];refine Ab (Ab (I.type.here (Ab (hm.here ?_))));rw[z5f _ ho];refine Ae (Ab (I.type.here (Ab ((Hs X S.tk).here (Ab ?_)))));exact Ae h
end
open PySem PySem.Spec PyProof.Rows
def XdO(d:Addr)(fs:List (Str×V)):HO:=.ext fun h=>∃mA,h.Ns1 d mA/\(∀f,RelO (fs.lookup f) (mA f))/\Kv mA (fs.map (·.1))
theorem x0m(n:h.Ns1 d mA)(r:∀f,RelO (fs.lookup f) (mA f))(wi:Kv mA (fs.map (·.1))):ObjOk P w H h d (XdO d fs) :=
 ⟨⟨mA,n,r,wi⟩,let ⟨o,_,_,e,_⟩:=n;⟨o,e⟩,fun h1 h2 ⟨mA,n,r,wi⟩ k=>⟨mA,n.at k,r,wi⟩⟩
theorem exn_ok(q1:h.get? e=some { cls:=C,dict:=dd,data:=.fields vs,slots:=sl })(q2:vs.size=6)(q3:vs[1]?=some .none):ObjOk P w H h e (ExN C dd e) :=
 ⟨⟨vs,sl,q1,q2,q3⟩,⟨_,q1⟩,fun h1 h2 ⟨ws,sl,k1,k2⟩ k=>⟨ws,sl,k _ k1,k2⟩⟩
section
variable{X:Cx}{pins:List (Addr×Obj)}{σ:St}{H:Hp}{s:Af}{x C d:Addr}{f:Str}{y:V}{u:Value}{A:Around}{E:Value->Af->Prop}{Q:Unit->Af->Prop}
theorem z5g(I:Inv X pins σ H s)(hE:H x=some (ExN (.ref C) (some d) x))(hd:H d=some (XdO d fs))(S:ESet X.K C f)(hl:fs.length<1000)(ry:RelV y u)(h:∀s',Inv X pins σ (upd H d (XdO d (putF f y fs))) s'->Q () s'):wpAny (model X.prog X.w) A (Ua (.ref x) f u) Q E s:=by
 obtain⟨⟨vs,sl,q1,q2,q3⟩,_,_⟩:=I.hok x _ hE;obtain⟨⟨mA,n,r,wi⟩,⟨od,hod⟩,_⟩:=I.hok d _ hd;have J:Ji s.heap x { cls:=.ref C,dict:=some d,data:=.fields vs,slots:=sl } C (some od):=⟨q1,rfl,rfl,hod⟩
 refine Si I.kIn J S.sa (q8w I.kIn J S ?_);obtain⟨cd,hc,_,hd'⟩:=S.cls;refine Ab (Ae (Ab (Ab (Lu q1 (Ab (Qu (Mn I.kIn hc) ?_))))));rw[hd'];refine Ae (Ab (Ae (Ab ?_)));refine Qv n fun h' hn2 hs2=>?_;obtain⟨oD,esD,epD,hoD,hdD,hcD⟩:=hn2.count (Mw f u wi);refine Ab (Nn hoD (by rw[hdD];exact Np (Bi hcD (by rw[Aw,Ad,Ea];lia))) ?_);refine Ae (h _ (I.write (t':=s.toks+1+1) (h':=h') (by rw[hd];exact trivial) (.inl rfl) (fun b q hb z=>(hs2.2 b hb).trans z) ⟨_,hoD⟩ (x0m hn2 (fun g=>?_) fun g hg=>?_)))
 ·show RelO ((putF f y fs).lookup g) (if g=f then some u else mA g);rw[q2g];by_cases q:g=f
  ·rw[if_pos q,if_pos q];exact ry
  ·grind
 ·by_cases q:g=f
  ·rw[q];exact(q2s f y fs).1
  ·refine(q2s f y fs).2 g (wi g fun z=>hg ?_);rw[if_neg q];exact z
theorem z5h(I:Inv X pins σ H s)(hE:H x=some (ExN (.ref C) none x))(S:ESet X.K C f)(ry:RelV y u)(h:∀d s',H d=none->d≠x->Inv X pins σ (upd (upd (upd H d (XdO d [])) x (ExN (.ref C) (some d) x)) d (XdO d [(f,y)])) s'->Q () s'):wpAny (model X.prog X.w) A (Ua (.ref x) f u) Q E s:=by
 obtain⟨⟨vs,sl,q1,q2,q3⟩,_,_⟩:=I.hok x _ hE;have J:Ji s.heap x { cls:=.ref C,dict:=none,data:=.fields vs,slots:=sl } C none:=⟨q1,rfl,rfl,trivial⟩
 refine Si I.kIn J S.sa (q8w I.kIn J S ?_);obtain⟨cd,hc,_,hd'⟩:=S.cls;refine Ab (Ae (Ab (Ab (Lu q1 (Ab (Qu (Mn I.kIn hc) ?_))))));rw[hd'];have hxlt:=Al q1;have hfresh:=I.hok.fresh (Ak s.heap.objs.size);have hne:=Fe hxlt;have e1:(s.heap.push Cm).get? s.heap.objs.size=some Cm:=As s.heap rfl;have e3:(s.heap.push Cm).Ns s.heap.objs.size (fun _=>none):=⟨Cm,#[],_,e1,rfl,(fun e he=>absurd he (by simp)),fun _=>rfl⟩
 have I1:=I.laid (o:=XdO s.heap.objs.size []) (h':=s.heap.push Cm) (t':=s.toks+1) (fun b u q=>Ag _ q) (Ak _) (x0m (Rt e3) (fun _=>True.intro) fun y hy=>absurd rfl hy);have q1':=Ag Cm q1;have hrec:=Ex (fun o:Obj=>{ o with dict:=some s.heap.objs.size }) q1' rfl;have hE1:upd H s.heap.objs.size (XdO s.heap.objs.size []) x=some (ExN (.ref C) none x):=by rw[q0e (Cd hne)];exact hE
 have I2:=I1.write (t':=s.toks+1) (h':=(s.heap.push Cm).update x (fun o:Obj=>{ o with dict:=some s.heap.objs.size })) (by rw[hE1];exact trivial) (.inl rfl)
  (fun b u hb hu=>by rw[Br _ _ (Cd hb)];exact hu) ⟨_,hrec⟩ (exn_ok hrec q2 q3)
 have hd2:upd (upd H s.heap.objs.size (XdO s.heap.objs.size [])) x (ExN (.ref C) (some s.heap.objs.size) x) s.heap.objs.size=some (XdO s.heap.objs.size []):=by rw[q0e hne,q0b]
 obtain⟨⟨mA,n,r,wi⟩,⟨od,hod⟩,_⟩:=I2.hok _ _ hd2;refine Ab (wpAny_alloc (Ab (wpAny_update q1' ?_)));refine Ae (Ab (Ae (Ab ?_)));refine Qv n fun h' hn2 hs2=>?_
 obtain⟨oD,esD,epD,hoD,hdD,hcD⟩:=hn2.count (Mw f u wi);refine Ab (Nn hoD (by rw[hdD];exact Np (Bi hcD (by rw[Aw,Ad,Ea];decide))) ?_);refine Ae (h s.heap.objs.size _ hfresh hne (I2.write (t':=s.toks+1+1) (h':=h') (by rw[hd2];exact trivial) (.inl rfl) (fun b q hb z=>(hs2.2 b hb).trans z) ⟨_,hoD⟩ (x0m hn2 (fun g=>?_) fun g hg=>?_)))
 ·have e:(putF f y []).lookup g=if g=f then some y else List.lookup g []:=q2g f g y []
  show RelO ((putF f y []).lookup g) (if g=f then some u else mA g);rw[e];by_cases q:g=f
  ·rw[if_pos q,if_pos q];exact ry
  ·grind
 ·by_cases q:g=f
  ·grind
  ·exfalso;have:=wi g fun z=>hg (by show(if g=f then some u else mA g)=none;rw[if_neg q];exact z);cases this
end
open PySem PySem.Spec PyProof.Rows
structure EGet (K:Ah) (C:Addr) (f:Str):Prop where
 cls:∃cd,Nk K C=some cd/\ExMro cd.mro/\cd.hasDict=true
 ga:Bl K (.ref C) "__getattribute__" = some (some (.builtin "BaseException.__getattribute__"))
 gh:Bl K (.ref C) "__getattr__" = some none
 tk:Bl K (.ref C) f=some none
theorem z5i(h:ExMro l):l.contains (.type "BaseException")=true:=by
 obtain⟨rs,rfl⟩:=h;induction rs with
 |nil=>decide
 |cons c r ih=>show(Value.ref c::(r.map Value.ref++bmV)).contains _=true;rw[Ml,ih,Rm]
section
variable{prog:Program}{w:World}{A:Around}{E:Value->Af->Prop}{s:Af}{K:Ah}{x C:Addr}{ox:Obj}{od:Option Obj}{name:Str}{expr:Bool}{v:Value}{Q:Value->Af->Prop}
theorem getE(X:K.In s.heap)(I:Ji s.heap x ox C od)(G:EGet K C name)(hf:Ui K C od name=some (.value v))(hh:Td v=true)(h:Q v { s with toks:=s.toks+1 }):
  wpAny (model prog w) A (Tz (.ref x) name expr) Q E s:=by
 obtain⟨hp,g,d,t,os⟩:=s;have L0:=I.type (M:=model prog w);have L1:=Hs (M:=model prog w) X G.ga;have L2:=Hs (M:=model prog w) X G.gh;have L3:=W.looks_find (M:=model prog w) X I hf;have SG:=Ms.ga;obtain⟨cd,hc,ho,_⟩:=G.cls;have sub:Uc (model prog w) hp (isInstance (.ref x) (.type "BaseException")) true:=I.type.andThen (Qk X (by unfold Lv;rw[hc,Eu,if_neg (by rw[(q6q ho).2];decide),z5i ho]));have hk:builtinKind "BaseException.__getattribute__" = some .slot:=by decide +kernel
 have hsplit:splitId "BaseException.__getattribute__" = some ("BaseException", "__getattribute__"):=by decide +kernel
 refine Ab (wpAny_mkText (Bz (Ab (L0.at (Ab (L1.at ?_))))));refine Ab (show wpAny _ _ (Nh (.ref C) "__getattr__") _ _ _ from L2.at ?_);have hx0:(expr&&onTheHeap (Value.builtin "BaseException.__getattribute__"))=false:=by cases expr<;>rfl
 unfold callGetattribute boundAndCalled;rw[hx0];refine Ab (En (Bz (show wpAny _ _ (bindSpecial _ _ >>= _) _ _ _ from ?_)));refine Ab (Ae (Hd (Ij SG.plain Po (@Rn (model prog w) _ _ _ "BaseException.__getattribute__" "BaseException" "__getattribute__" (.ref x) [.str name t] [] _ hk hsplit sub (Qc (.ref x) (.str name t)) ?_))));refine Ab (Ae (Ab (Ae (Ab (L0.at (Ab (L3.at ?_)))))));refine Ae ?_;show wpAny _ _ (handedOut v) _ _ _;rw[W.handedOut_of hh];exact Ae h
end
open PySem PySem.Spec PyProof.Rows
section
variable{X:Cx}{e o value:Expr}{f:Str}{pos pos':Pos}{ta tv:TE}
def tEfld(K:Ah)(ta:TE)(f:Str):TE:=fun σ H Q=>ta σ H fun x H1=>∃a C d fs v,x=.ref a/\(H1 a=some (ExO (.ref C) (some d) a)\/H1 a=some (ExN (.ref C) (some d) a))/\H1 d=some (XdO d fs)/\EGet K C f/\fs.lookup f=some v/\Q v H1
theorem z9a(K:Ah)(hK:X.K=K)(he:PE X e ta)(hb:Gj e f X.env (eval e X.env)=eval e X.env:=by rfl):PE X (.Attribute e f pos) (tEfld K ta f):=by
 subst hK;intro pins s σ H Q I h;refine z3e hb (thn (he pins s σ H _ I h) fun u s1 ⟨x,H1,I1,rx,a,C,d,fs,v,ex,ea,hd,G,l,q⟩=>?_);subst ex;obtain rfl:u=Value.ref a:=rx;obtain⟨⟨mA,n,r,wi⟩,_,_⟩:=I1.hok d _ hd;obtain⟨od,hod,hlk⟩:=q7t n;have hrec:∃vs sl,s1.heap.get? a=some { cls:=.ref C,dict:=some d,data:=.fields vs,slots:=sl }:=by
  rcases ea with ea|ea
  ·obtain⟨⟨vs,sl,q1,_⟩,_,_⟩:=I1.hok a _ ea;exact⟨vs,sl,q1⟩
  ·obtain⟨⟨vs,sl,q1,_⟩,_,_⟩:=I1.hok a _ ea;exact⟨vs,sl,q1⟩
 obtain⟨vs,sl,q1⟩:=hrec;have J:Ji s1.heap a { cls:=.ref C,dict:=some d,data:=.fields vs,slots:=sl } C (some od):=⟨q1,rfl,rfl,hod⟩
 have hr:=r f;rw[l] at hr;cases hm:mA f with
 |none=>rw[hm] at hr;exact hr.elim
 |some u =>
  rw[hm] at hr;have ru:=hr;have hh:Ke X.K C=true:=by
   obtain⟨cd,hc,_,hd'⟩:=G.cls;unfold Ke;rw[hc];exact hd'
  exact getE I1.kIn J G (W.findObj_own hh G.tk rfl (by rw[hlk,hm])) (q7u ru) ⟨v,H1,I1.tok _,ru,q⟩
def sEfld(K:Ah)(ta tv:TE)(f:Str):TS:=fun D σ H=>tv σ H fun y H1=>ta σ H1 fun x H2=>∃a C,x=.ref a/\ESet K C f /\
 ((H2 a=some (ExN (.ref C) none a)/\∀d,H2 d=none->d≠a->D.nx σ (upd (upd (upd H2 d (XdO d [])) a (ExN (.ref C) (some d) a)) d (XdO d [(f,y)]))) \/
  ∃d fs,H2 a=some (ExN (.ref C) (some d) a)/\H2 d=some (XdO d fs)/\fs.length<1000/\D.nx σ (upd H2 d (XdO d (putF f y fs))))
theorem z9b(K:Ah)(hK:X.K=K)(ha:PE X o ta)(hv:PE X value tv)(hs:Jf value (some (.Attribute o f pos')) pos.line X.env=pure false:=by rfl):PS X (.Assign [.Attribute o f pos'] value pos) (sEfld K ta tv f):=by
 subst hK;intro pins s σ H D I h;refine Kt (thn (hv pins s σ H _ I h) fun u s1 ⟨y,H1,I1,ry,q⟩=>thn (ha pins s1 σ H1 _ I1 q) fun ov s2 ⟨x,H2,I2,rx,a,C,ex,S,q2⟩=>?_) hs;subst ex;obtain rfl:ov=Value.ref a:=rx;rcases q2 with⟨hE,q2⟩|⟨d,fs,hE,hd,hl,q2⟩
 ·exact z5h I2 hE S ry fun d s3 hn hne I3=>⟨σ,_,I3,q2 d hn hne⟩
 ·exact z5g I2 hE hd S hl ry fun s3 I3=>⟨σ,_,I3,q2⟩
end
open PySem PySem.Spec PyProof.Rows
structure EIsi (K:Ah) (C:Addr):Prop where
 cls:∃cd,Nk K C=some cd/\ExMro cd.mro/\cd.hasDict=true
 ga:Bl K (.ref C) "__getattribute__" = some (some (.builtin "BaseException.__getattribute__"))
 gh:Bl K (.ref C) "__getattr__" = some none
 ha:Bl K (.ref C) "__class__" = some (some (.builtin "object.__class__"))
 hn:Hn K (.builtin "object.__class__") "__get__" = some (some (.builtin "getset_descriptor.__get__"))
 htk:Mb K (.builtin "object.__class__")=some true
section
variable{prog:Program}{w:World}{A:Around}{E:Value->Af->Prop}{s:Af}{K:Ah}{x C:Addr}{ox:Obj}{od:Option Obj}
theorem EIsi.obj(G:EIsi K C):Lv K C (.type "object")=some true:=by
 obtain⟨cd,hc,ho,_⟩:=G.cls;unfold Lv;rw[hc,Eu,if_neg (by rw[(q6q ho).2];decide),(q6q ho).1]
theorem classE{fill:Bool}(X:K.In s.heap)(I:Ji s.heap x ox C od)(G:EIsi K C)(h:Q (.ref C) s):
  wpAny (model prog w) A (getAttrBy (.ref x) (.str "__class__" tk) fill expr) Q E s:=by
 obtain⟨hp,g,d,t,os⟩:=s;have L0:=I.type (M:=model prog w);have L1:=Hs (M:=model prog w) X G.ga;have L2:=Hs (M:=model prog w) X G.gh;obtain⟨cd,hc,ho,_⟩:=G.cls;have hf:Ui K C od "__class__" = some (.bind (.builtin "getset_descriptor.__get__") (.builtin "object.__class__")):=by
  unfold Ui;rw[hc,Eu,G.ha,Eu];dsimp only;rw[G.hn,Eu];dsimp only;rw[G.htk,Eu]
 have L3:=W.looks_find (M:=model prog w) X I hf;have SG:=Ms.ga;have sub:Uc (model prog w) hp (isInstance (.ref x) (.type "BaseException")) true:=I.type.andThen (Qk X (by unfold Lv;rw[hc,Eu,if_neg (by rw[(q6q ho).2];decide),z5i ho]));have hk:builtinKind "BaseException.__getattribute__" = some .slot:=by decide +kernel
 have hsplit:splitId "BaseException.__getattribute__" = some ("BaseException", "__getattribute__"):=by decide +kernel
 refine Bz (Ab (L0.at (Ab (L1.at ?_))));refine Ab (show wpAny _ _ (Nh (.ref C) "__getattr__") _ _ _ from L2.at ?_);have hx0:(expr&&onTheHeap (Value.builtin "BaseException.__getattribute__"))=false:=by cases expr<;>rfl
 unfold callGetattribute boundAndCalled;rw[hx0];refine Ab (En (Bz (show wpAny _ _ (bindSpecial _ _ >>= _) _ _ _ from ?_)));refine Ab (Ae (Hd (Ij SG.plain Po (@Rn (model prog w) _ _ _ "BaseException.__getattribute__" "BaseException" "__getattribute__" (.ref x) [.str "__class__" tk] [] _ hk hsplit sub (Qc (.ref x) (.str "__class__" tk)) ?_))));refine Ab (Ae (Ab (Ae (Ab (L0.at (Ab (L3.at ?_)))))));refine Ab (Bz (Hd (W.class_get X I G.obj (Ae ?_))));exact Ae h
theorem q7l(G:EIsi K C):W.KitX K (.ref x) (.ref C) (fun h=>∃ox od,Ji h x ox C od) where
 ty:=fun _ _ _ ⟨_,_,I⟩=>I.type
 it:=fun _ _ X _=>by
  obtain⟨cdD,hcD,_⟩:=G.cls;unfold Nk at hcD;split at hcD
  ·rename_i c' d' cd' sl' ho;intro A' Q' E' s' k q;exact Ab (Lu (k _ _ (X _ _ ho)) (Ae q))
  ·cases hcD
 ne:=fun h tp dd its n sl X htp=>by
  obtain⟨cdD,hcD,_⟩:=G.cls;refine Sf.mpr fun q=>?_
  have e:=Value.ref.inj (beq_iff_eq.mp q);subst e;unfold Nk at hcD;split at hcD
  ·rename_i c' d' cd' sl' ho;have z:=(X _ _ ho).symm.trans htp;cases z
  ·cases hcD
 ca:=fun{prog w A E Q s} X ⟨ox,od,I⟩ k=>by
  refine Ab (wpAny_mkText (Ab (En (classE X I G ?_))));exact Ae k
end
open PySem PySem.Spec PyProof.Rows
def strKey(e:Jh):Bool:=match e.key with|.str _ _=>true|_=>false
def isNsK(K:Ah)(N:Addr):Bool:=match K.lookup N with|some ⟨_,_,.dict es _,_⟩=>es.toList.all strKey|_=>false
def nsMapK(K:Ah)(N:Addr)(name:Str):Option Value:=match K.lookup N with|some ⟨_,_,.dict es _,_⟩=>nsFind es name|_=>none
theorem ns_K{K:Ah}(e:isNsK K N=true)(h:Heap)(X:K.In h):h.Ns N (nsMapK K N):=by
 unfold isNsK at e;split at e
 ·rename_i c d es ep sl q;refine⟨_,es,ep,X _ _ q,rfl,fun x hx=>?_,fun name=>?_⟩
  ·have hx':=Cq.mp e x (Py.mpr hx);unfold strKey at hx';split at hx'
   ·grind
   ·cases hx'
  ·unfold nsMapK;rw[q]
 ·cases e
theorem q9t{K:Ah}(e:Io K N name=some (some v)):nsMapK K N name=some v:=by
 unfold Io at e;unfold nsMapK;split at e
 ·rename_i c d es ep sl q;rw[q];dsimp only;split at e
  ·rename_i x hx;unfold nsFind findBy;rw[<- Ma,hx];exact Dc e
  ·split at e<;>cases e
 ·cases e
theorem q9u{K:Ah}(e:Io K N name=some none):nsMapK K N name=none:=by
 unfold Io at e;unfold nsMapK;split at e
 ·rename_i c d es ep sl q;rw[q];dsimp only;split at e
  ·cases e
  ·rename_i hx;unfold nsFind findBy;rw[<- Ma,hx];rfl
 ·cases e
theorem z1c{K:Ah}(l:K.lookup N=some ⟨oc,od,.dict es ep,sl⟩)(h:es.toList.all strKey=true):isNsK K N=true:=by
 unfold isNsK;rw[l];exact h
structure EBase (K:Ah) (D:Addr):Prop where
 ex:∃nm q N bs sn sub ab col dd k0 k1 k2 k3 k5,K.lookup D=some (Dm nm q D N bs bmV true sn sub ab col dd k0 k1 k2 k3 k5 "ValueError.__new__")/\isNsK K N=true/\Io K N "__init__" = some none
theorem EBase.cls{K:Ah}(B:EBase K D):ECls K D bmV:=by
 obtain⟨nm,q,N,bs,sn,sub,ab,col,dd,k0,k1,k2,k3,k5,lk,_⟩:=B.ex;exact⟨⟨nm,q,N,bs,true,sn,sub,ab,col,dd,k0,k1,k2,k3,k5,_,lk⟩,by decide⟩
theorem EBase.tail{K:Ah}(B:EBase K D)(h:Heap)(X:K.In h):Pn h bmV (.ref D::bmV):=by
 obtain⟨nm,q,N,bs,sn,sub,ab,col,dd,k0,k1,k2,k3,k5,lk,hn,hi⟩:=B.ex;exact .own (X _ _ lk) (ns_K hn h X) (q9u hi) .base
structure ELaw (K:Ah) (C D fI:Addr):Prop where
 ex:∃nm q N bs sn sub ab col dd k0 k1 k2 k3 k5,K.lookup C=some (Dm nm q C N bs (.ref D::bmV) true sn sub ab col dd k0 k1 k2 k3 k5 "ValueError.__new__")/\isNsK K N=true/\Io K N "__init__" = some (some (.ref fI))
 fn:∃oI,K.lookup fI=some oI/\oI.cls=.type "function"
 kp:Es K (.ref C)=true
section
variable{K:Ah}{C D fI:Addr}
theorem ELaw.mk_(L:ELaw K C D fI)(B:EBase K D):EMk K C fI (.ref D::bmV):=by
 obtain⟨nm,q,N,bs,sn,sub,ab,col,dd,k0,k1,k2,k3,k5,lk,hn,hi⟩:=L.ex;exact⟨⟨nm,q,N,bs,true,sn,sub,ab,col,dd,k0,k1,k2,k3,k5,nsMapK K N,lk,ns_K hn,q9t hi⟩,fun h X=>B.tail h X,L.fn,L.kp⟩
theorem ELaw.cls(L:ELaw K C D fI):ECls K C (.ref D::bmV):=by
 obtain⟨nm,q,N,bs,sn,sub,ab,col,dd,k0,k1,k2,k3,k5,lk,_⟩:=L.ex;exact⟨⟨nm,q,N,bs,true,sn,sub,ab,col,dd,k0,k1,k2,k3,k5,_,lk⟩,by rw[Ml,show bmV.contains (.type "BaseException")=true from by decide,Rm]⟩
theorem ELaw.sub(L:ELaw K C D fI):SubX K (.ref C) D:=⟨C,_,rfl,L.cls,by simp⟩
theorem ELaw.clsIn(L:ELaw K C D fI):∃cd,Nk K C=some cd/\ExMro cd.mro/\cd.hasDict=true:=by
 obtain⟨nm,q,N,bs,sn,sub,ab,col,dd,k0,k1,k2,k3,k5,lk,_⟩:=L.ex;unfold Nk;rw[lk];exact⟨_,rfl,⟨[C,D],rfl⟩,rfl⟩
theorem ELaw.set(L:ELaw K C D fI)(sa:Bl K (.ref C) "__setattr__" = some (some (.builtin "object.__setattr__")))(tk:Bl K (.ref C) f=some none):ESet K C f:=⟨L.clsIn,sa,tk⟩
theorem ELaw.get(L:ELaw K C D fI)(ga:Bl K (.ref C) "__getattribute__" = some (some (.builtin "BaseException.__getattribute__")))(gh:Bl K (.ref C) "__getattr__" = some none)(tk:Bl K (.ref C) f=some none):EGet K C f:=⟨L.clsIn,ga,gh,tk⟩
end
open PySem PySem.Spec PyProof.Rows
structure CalE (P:Program) (w:World) (K:Ah) (mg:Str->Option Value) (base:Heap) (x:Str) (C:Addr) (k:Nat) (ps:List Str) (sp:Sp):Prop where
 ex:∃fI fd bm,EMk K C fI bm/\FnOk P w K mg base CX0 k fI fd ps sp/\Binds K fd ps []
 at_:mg x=some (.ref C)
 sz:ps.length<=100
section
variable{X:Cx}{J:Addr->St->Hp->Prop}{k j:Nat}{C:Addr}{ps:List Str}{sp:Sp}{x:Str}{np cpos pos:Pos}{e₀:Expr}{es:List Expr}{t:TA}
theorem x0n(F:CalE X.prog X.w X.K X.mg X.base x C k ps sp)(hr:Room j X.A)(hx:AccX X J)(hc:X.calm=true)(ha:PA X (e₀::es) t)(hjk:k+1<=j:=by decide)(hg:Gl X x:=by rfl)(hdb:(x==("__debug__" : Str))=false:=by decide)(he:Bc (e₀::es) X.env=(false,eval e₀ X.env)::Bc es X.env:=by rfl)(hpl:(Eg cpos (Bc es X.env)).any (·.1)=false:=by rfl):
  PS X (.Raise (some (.Call (.Name x np) (e₀::es) [] cpos)) none pos) (tRaise C sp J t):=by
 obtain⟨fI,fd,bm,M,Fn,hb⟩:=F.ex;exact z7r M Fn (hr.mono hjk) hb hx hc hg F.at_ ha F.sz hdb he hpl
end
def spIni1(C:Addr)(f:Str):Sp:=fun vs H Q _=>∃ea v,vs=[.ref ea,v]/\H ea=some (ExN (.ref C) none ea)/\(∃n:Nat,v=.int (n:Int)/\n<=10^12)/\∀d,H d=none->d≠ea->Q .non (upd (upd (upd H d (XdO d [])) ea (ExN (.ref C) (some d) ea)) d (XdO d [(f,v)]))
structure Rfd (H:Hp) (ea C:Addr) (f:Str) (v:V):Prop where
 ex:∃d,H ea=some (ExO (.ref C) (some d) ea)/\H d=some (XdO d [(f,v)])
theorem raised1(hd:upd H1 ea (ExN (.ref C) none ea) d=none)(hne:d≠ea):
  ∃dd,(upd (upd (upd (upd H1 ea (ExN (.ref C) none ea)) d (XdO d [])) ea (ExN (.ref C) (some d) ea)) d (XdO d [(f,v)])) ea=some (ExN (.ref C) dd ea) /\
   Rfd (upd (upd (upd (upd (upd H1 ea (ExN (.ref C) none ea)) d (XdO d [])) ea (ExN (.ref C) (some d) ea)) d (XdO d [(f,v)])) ea (ExO (.ref C) dd ea)) ea C f v:=by
 refine⟨some d,?_,d,?_,?_⟩
 ·rw[q0e (Cd hne),q0b]
 ·rw[q0b]
 ·rw[q0e hne,q0b]
structure Ef (K:Ah) (mg:Str->Option Value) (x:Str) (C D:Addr) (qual:Str) (st:Stmt) (ps:List Str):Prop where
 ex:∃f fd mc,Fun K "__init__" qual st f fd/\ELaw K C D f/\EBase K D/\EIni K D mc/\Binds K fd ps []
 at_:mg x=some (.ref C)
theorem Ef.cal{K:Ah}{st:Stmt}(F:Ef K mg x C D qual st ps)(S:FnScope N ps (defScope st))(len:∀vs H Q E,sp vs H Q E->vs.length=ps.length)(hsz:ps.length<=100)(hbody:∀(mc:Value) (f:Addr) (cdv:Value) (A:Around) (outer:List Env) (s:Af) (H:Hp) (vs:List V) (Q:VK) (E:XK),ELow K C (.ref D::bmV)->EIni K D mc->Room k (A.deeper (Fx qual (defScope st) s.heap.objs.size f cdv))->sp vs H Q E ->
   ∃t,PSs (cxOf CX0 P w K mg base N qual (defScope st) f cdv A outer s H E).nox (defBody st) t/\t { nx:=fun _ H'=>Q .non H',rt:=Q } (start N vs) H):CalE P w K mg base x C (k+1) ps sp:=by
 obtain⟨f,fd,mc,Fn,L,B,I,hb⟩:=F.ex;exact⟨⟨f,fd,_,L.mk_ B,Fn.ok S len fun cdv A outer s H vs Q E hr h=>hbody mc f cdv A outer s H vs Q E (L.mk_ B).low I hr h,hb⟩,F.at_,hsz⟩
open PySem PySem.Spec PyProof.Rows
structure Err (H:Hp) (a C:Addr):Prop where
 ex:∃dd,(H a=some (ExO (.ref C) dd a)\/H a=some (ExN (.ref C) dd a))/\(dd=none\/∃d fs,dd=some d/\H d=some (XdO d fs))
theorem Rfd.err(r:Rfd H ea C f v):Err H ea C:=by
 obtain⟨d,h1,h2⟩:=r.ex;exact⟨some d,.inl h1,.inr ⟨d,_,rfl,h2⟩⟩
theorem Rfd.same(r:Rfd H ea C f v)(sm:∀b o,H b=some o->H' b=some o):Rfd H' ea C f v:=by
 obtain⟨d,h1,h2⟩:=r.ex;exact⟨d,sm _ _ h1,sm _ _ h2⟩
theorem Err.same(r:Err H ea C)(sm:∀b o,H b=some o->H' b=some o):Err H' ea C:=by
 obtain⟨dd,h1,h2⟩:=r.ex;refine⟨dd,h1.imp (sm _ _) (sm _ _),?_⟩;rcases h2 with h2|⟨d,fs,h2,h3⟩
 ·exact .inl h2
 ·exact .inr ⟨d,fs,h2,sm _ _ h3⟩
theorem q3e:∀{cs:List Addr} {us:List Value},Vals (cs.map V.ref) us->us=cs.map Value.ref
 |[],_,.nil=>rfl
 |c::cs,_,.cons r t=>by
  have h:_=Value.ref c:=r;rw[h,q3e t,Ao]
section
variable{X:Cx}
theorem q4l(K:Ah)(hK:X.K=K):CallR X (.builtin "isinstance") (fun xs H Q=>∃a C b,(∃c,xs=[.ref a,c]/\((∃D,c=.ref D/\Di K (.ref C) (.ref D)=some b)\/(∃n,c=.ty n/\Di K (.ref C) (.type n)=some b)\/∃(T:Addr) (cs:List Addr),c=.ref T/\SqT K H T (cs.map V.ref)/\Ik K (.ref C) (cs.map Value.ref)=some b))/\Err H a C/\EIsi K C/\Q (.bl b) H):=by
 subst hK;intro pins s σ H xs us Q I r h;obtain⟨a,C,b,⟨c,rfl,hc⟩,⟨dd,ha,hdd⟩,G,q⟩:=h;obtain⟨u,v,rfl,ru,rv⟩:=r.two;obtain rfl:u=Value.ref a:=ru;have hrec:∃ox od,Ji s.heap a ox C od:=by
  have hr:∃vs sl,s.heap.get? a=some { cls:=.ref C,dict:=dd,data:=.fields vs,slots:=sl }:=by
   rcases ha with ea|ea
   ·obtain⟨⟨vs,sl,q1,_⟩,_,_⟩:=I.hok a _ ea;exact⟨vs,sl,q1⟩
   ·obtain⟨⟨vs,sl,q1,_⟩,_,_⟩:=I.hok a _ ea;exact⟨vs,sl,q1⟩
  obtain⟨vs,sl,q1⟩:=hr;rcases hdd with rfl|⟨d,fs,rfl,hd⟩
  ·exact⟨_,none,q1,rfl,rfl,trivial⟩
  ·obtain⟨_,⟨od,hod⟩,_⟩:=I.hok d _ hd;exact⟨_,some od,q1,rfl,rfl,hod⟩
 rcases hc with⟨D,rfl,e⟩|⟨n,rfl,e⟩|⟨T,cs,rfl,hT,e⟩
 ·obtain rfl:v=Value.ref D:=rv;exact Fu (q7l G) I.kIn hrec e (fun z=>nomatch z) fun tk=>⟨.bl b,H,I.tok _,rfl,q⟩
 ·obtain rfl:v=Value.type n:=rv;exact Fu (q7l G) I.kIn hrec e (fun z=>nomatch z) fun tk=>⟨.bl b,H,I.tok _,rfl,q⟩
 ·obtain rfl:v=Value.ref T:=rv;obtain⟨its,r',⟨o,ho,oc,n,od⟩,_⟩:=I.tuple hT;rw[q3e r'] at od;obtain⟨c0,d0,dt0,sl0⟩:=o;subst oc;subst od;exact W.kia_tup (q7l G) I.kIn hrec ho e (fun z=>nomatch z) fun tk=>⟨.bl b,H,I.tok _,rfl,q⟩
end
open PySem PySem.Spec PyProof.Rows
structure MCalX (P:Program) (w:World) (K:Ah) (mg:Str->Option Value) (base:Heap) (C:Addr) (m:Str) (k:Nat) (ps:List Str) (sp:Sp):Prop where
 ex:∃f fd,FnOk P w K mg base (CXR P w) k f fd ps sp/\Meth K C m f/\Binds K fd ps []
 cl:Cls K C
theorem Mf.calX{K:Ah}{st:Stmt}(D:Mf K C m qual st ps)(cl:Cls K C)(S:FnScope N ps (defScope st))(len:∀vs H Q E,sp vs H Q E->vs.length=ps.length)(hbody:∀(f:Addr) (cdv:Value) (A:Around) (outer:List Env) (s:Af) (H:Hp) (vs:List V) (Q:VK) (E:XK),Room k (A.deeper (Fx qual (defScope st) s.heap.objs.size f cdv))->sp vs H Q E ->
   ∃t,PSs (cxX P w K mg base N qual (defScope st) f cdv A outer s H E) (defBody st) t/\t { nx:=fun _ H'=>Q .non H',rt:=Q } (start N vs) H):MCalX P w K mg base C m (k+1) ps sp:=by
 obtain⟨f,fd,F,hm,hb⟩:=D.ex;exact⟨⟨f,fd,F.okX S len fun cdv A outer s H vs Q E hr h=>hbody f cdv A outer s H vs Q E hr h,hm,hb⟩,cl⟩
structure KCalX (P:Program) (w:World) (K:Ah) (mg:Str->Option Value) (base:Heap) (C:Addr) (x:Str) (k:Nat) (ps:List Str) (sp:Sp):Prop where
 ex:∃f fd,FnOk P w K mg base (CXR P w) k f fd ps sp/\Mk K C f/\Binds K fd ps []/\Binds K fd ps [.bool false]
 at_:mg x=some (.ref C)
 cl:Cls K C
theorem Kf.calX{K:Ah}{st:Stmt}(D:Kf K mg C x qual st ps)(S:FnScope N ps (defScope st))(len:∀vs H Q E,sp vs H Q E->vs.length=ps.length)(hbody:∀(f:Addr) (cdv:Value) (A:Around) (outer:List Env) (s:Af) (H:Hp) (vs:List V) (Q:VK) (E:XK),Room k (A.deeper (Fx qual (defScope st) s.heap.objs.size f cdv))->sp vs H Q E ->
   ∃t,PSs (cxX P w K mg base N qual (defScope st) f cdv A outer s H E) (defBody st) t/\t { nx:=fun _ H'=>Q .non H',rt:=Q } (start N vs) H):KCalX P w K mg base C x (k+1) ps sp:=by
 obtain⟨f,fd,oc,od,dV,kV,doc,pm,an,cdv,ct,osl,rfl,lk,hcd,M,b1,b2⟩:=D.ex;refine⟨⟨f,_,z6t lk hcd S len fun A outer s H vs Q E hr hsp=>?_,M,b1,b2⟩,D.at_,D.cl⟩;obtain⟨t,h,q⟩:=hbody f cdv A outer s H vs Q E hr hsp;exact⟨t,PSs.wishX (fun e s' z=>leaves z) h,q⟩
section
variable{X:Cx}{J:Addr->St->Hp->Prop}{C f:Addr}{fd:Ie}{x m:Str}{k j:Nat}{ps:List Str}{sp:Sp}{p pos apos:Pos}{o e:Expr}{es:List Expr}{ta:TE}{t:TA}
def tMakeX(C:Addr)(sp:Sp)(dvs:List V)(J:Addr->St->Hp->Prop)(t:TA):TE:=fun σ H Q=>t σ H fun vs H1=>∀x dx,H1 x=none->H1 dx=none->dx≠x->sp (.ref x::(vs++dvs)) (upd (upd H1 dx (.own x)) x (.ins C dx [])) (fun v H2=>v=.non/\Q (.ref x) H2) fun e _ H'=>∀ea,e=.ref ea->J ea σ H'
theorem q8x{σ:St}(M:Mk X.K C f)(F:FnOk X.prog X.w X.K X.mg X.base (CXR X.prog X.w) k f fd ps sp)(hr:Room (k+1) X.A)(hb:Binds X.K fd ps ds)(hd:Vals dvs ds)(hx:AccX X J)(I:Inv X pins σ H s)(r:Vals vs us)(h:∀x dx,H x=none->H dx=none->dx≠x->sp (.ref x::(vs++dvs)) (upd (upd H dx (.own x)) x (.ins C dx [])) (fun v H2=>v=.non/\Q (.ref x) H2) fun e _ H'=>∀ea,e=.ref ea->J ea σ H'):
  wpAny (model X.prog X.w) X.A (call (.ref C) us) (EP X pins σ Q) X.xe s:=by
 have hq:=h (s.heap.objs.size+1) s.heap.objs.size (I.hok.fresh (Ir _)) (I.hok.fresh (Ak _)) (Bf (Gs _));have I2:=Inv.made (C:=C) I;have r2:Vals (V.ref (s.heap.objs.size+1)::(vs++dvs)) (Value.ref (s.heap.objs.size+1)::(us++ds)):=.cons rfl (r.append hd);have hl:(Value.ref (s.heap.objs.size+1)::us++ds).length=ps.length:=by
  have e:=r2.length;rw[F.len _ _ _ _ hq] at e;exact e.symm
 refine Hd (z6r I.kIn M.makes M.init (beq_iff_eq.mp M.fn) (Ht (F.run _ X.stack _ _ ⟨Value.ref (s.heap.objs.size+1)::us,[]⟩ (Value.ref (s.heap.objs.size+1)::(us++ds)) _ _ _ (hr.make C us [])
  (I2.env0.make C us []) (hb _ (Value.ref (s.heap.objs.size+1)::us) I2.kIn hl) r2 hq) fun r s' hq'=>?_))
 cases r with
 |error e =>
  obtain⟨ea,H',rfl,os,bare,un,hok,hnew,hat,⟨oe,ws,he,hd,ht,hT⟩,j⟩:=hq';have I':=I2.call' os un hok bare fun b z=>absurd z (by simp)
  refine hx.acc _ _ ⟨pins,σ,H',ea,rfl,I',⟨hat,⟨oe,ws,he,hd,?_,fun T hTT=>?_⟩,Bi I2.sz hnew⟩,j ea rfl⟩
  ·rcases ht with z|⟨T,z⟩
   ·exact .inl z
   ·exact .inr ⟨T,.inl z⟩
  ·obtain⟨a1,a2⟩:=hT T hTT;refine⟨Bi I2.sz a1,a2,fun z=>absurd I2.lt (Gd.mpr (z▸a1)),fun y c hy z=>?_,fun q hq z=>?_⟩
   ·obtain⟨v,o,ho,_⟩:=I2.cell y c hy;exact absurd (Al ho) (Gd.mpr (z▸a1))
   ·obtain⟨ho,_⟩:=I2.pin q hq;exact absurd (Al ho) (Gd.mpr (z▸a1))
 |ok fl =>
  cases fl with
  |ret u =>
   obtain⟨v,H',I3,rv,ev,q3⟩:=I2.after hq';subst ev;exact⟨rv,⟨V.ref (s.heap.objs.size+1),H',I3,rfl,q3⟩⟩
  |next=>exact False.elim hq'
  |brk=>exact False.elim hq'
  |cont=>exact False.elim hq'
theorem pe_kX(M:KCalX X.prog X.w X.K X.mg X.base C x k ps sp)(hr:Room j X.A)(hx:AccX X J)(ha:PA X (e::es) t)(hjk:k+1<=j:=by decide)(hg:Gl X x:=by rfl)(hdb:(x==("__debug__" : Str))=false:=by decide)(he:Bc (e::es) X.env=(false,eval e X.env)::Bc es X.env:=by rfl)(hpl:(Eg pos (Bc es X.env)).any (·.1)=false:=by rfl):PE X (.Call (.Name x p) (e::es) [] pos) (tMakeX C sp [] J t):=by
 obtain⟨f,fd,F,m,b1,_⟩:=M.ex;intro pins s σ H Q I h;refine Ew (q2o I hg M.at_ ?_ hdb);refine Jk I.ok.mod.kin m.kp (thn (ha pos pins s σ H _ I h) fun us s1 ⟨vs,H1,I1,r,q⟩=>⟨I1.kIn,?_⟩) he hpl;exact q8x m F (hr.mono hjk) b1 .nil hx I1 r q
theorem pe_kXD(M:KCalX X.prog X.w X.K X.mg X.base C x k ps sp)(hr:Room j X.A)(hx:AccX X J)(ha:PA X (e::es) t)(hjk:k+1<=j:=by decide)(hg:Gl X x:=by rfl)(hdb:(x==("__debug__" : Str))=false:=by decide)(he:Bc (e::es) X.env=(false,eval e X.env)::Bc es X.env:=by rfl)(hpl:(Eg pos (Bc es X.env)).any (·.1)=false:=by rfl):PE X (.Call (.Name x p) (e::es) [] pos) (tMakeX C sp [.bl false] J t):=by
 obtain⟨f,fd,F,m,_,b2⟩:=M.ex;intro pins s σ H Q I h;refine Ew (q2o I hg M.at_ ?_ hdb);refine Jk I.ok.mod.kin m.kp (thn (ha pos pins s σ H _ I h) fun us s1 ⟨vs,H1,I1,r,q⟩=>⟨I1.kIn,?_⟩) he hpl;exact q8x (dvs:=[.bl false]) m F (hr.mono hjk) b2 (.cons rfl .nil) hx I1 r q
end
theorem q9v{K:Ah}{H:Hp}:∀xs:List Str,Dts K H (xs.map V.str) (xs.map PyData.str)
 |[]=>.nil
 |x::xs=>.cons (.str x) (q9v xs)
end L2
namespace HM
open PySem PySem.Spec PyProof.Rows L2 TX SB
def inP(H:Hp)(q:Pth)(a:Addr):Bool:=match H a with|some (.tup xs)=>decide (xs=vP q)|_=>false
theorem vP_inj(h:vP p=vP q):p=q:=by
 have e:(vP p).map (fun v=>match v with|.str s=>tl s|_=>[])=(vP q).map (fun v=>match v with|.str s=>tl s|_=>[]):=by rw[h]
 have f:∀x:Pth,(vP x).map (fun v=>match v with|.str s=>tl s|_=>[])=x:=fun x=>by
  rw[Bj];refine Eq.trans (Gz fun n _=>q0s n) (Sm x)
 rw[f,f] at e;exact e
theorem z9c(h:H a=some (.tup (vP r))):inP H q a=decide (r=q):=by
 unfold inP;rw[h];exact decide_eq_decide.mpr ⟨vP_inj,fun z=>by rw[z]⟩
def rInP(neg:Bool):R2:=fun x y H Q=>∃(p L:Addr) (bs:List Addr) (q:Pth),x=.ref p/\y=.ref L/\H L=some (.lst (bs.map V.ref))/\H p=some (.tup (vP q))/\Low q/\(∀b∈bs,∃r,H b=some (.tup (vP r))/\Low r)/\Q (.bl (if neg then !bs.any (inP H q) else bs.any (inP H q))) H
section
variable{X:Cx}{k:Nat}
def eR(H:Hp)(q:Pth):Value->Bool|.ref a=>inP H q a|_=>false
theorem z9d(bs:List Addr):(bs.map Value.ref).toArray.any (eR H q)=bs.any (inP H q):=by
 rw[show(bs.map Value.ref).toArray.any (eR H q)=(bs.map Value.ref).any (eR H q) by simp,List.any_map];rfl
theorem q8y(hr:Room k X.A){σ:L2.St}(I:Inv X pins σ H s){bs:List Addr}(hp:H p=some (.tup (vP q)))(lq:Low q)(hb:∀b∈bs,∃r,H b=some (.tup (vP r))/\Low r):
  ∀w∈(bs.map Value.ref).toArray,Cv X.A.in1 s w (.ref p) (eR H q w):=fun w hw=>by
 obtain⟨b,hbm,rfl⟩:∃b∈bs,w=.ref b:=by
  have:w∈bs.map Value.ref:=by grind
  obtain⟨b,h1,h2⟩:=Ay.mp this;exact⟨b,h1,h2.symm⟩
 obtain⟨r,hr1,lr⟩:=hb b hbm;obtain⟨as,r1⟩:=(q5k hr1).reads I rfl;obtain⟨as2,r2⟩:=(q5k hp).reads I rfl;have hd:=q5m r;have hu:=hr.un;have e:=Sv _ _ X.A.in1 s _ _ _ _ r1 r2 (q5l lr) (q5l lq) (by show X.A.units+1+_<_;lia);rw[q8u] at e;show Cv X.A.in1 s (.ref b) (.ref p) (inP H q b);rw[z9c hr1];exact e
theorem in_P(hr:Room k X.A):OpR X (Bs .In) (rInP false):=by
 intro pins s σ H x y v u Q I rx ry h;obtain⟨p,L,bs,q,rfl,rfl,hL,hp,lq,hb,qq⟩:=h;cases rx;cases ry;obtain⟨its,r,pl,hz⟩:=I.list (SqL.of hL);obtain rfl:=q3e r;exact Ti (eR H q) pl.isList (q8y hr I hp lq hb) ⟨.bl _,H,I,rfl,by rw[z9d];exact qq⟩
theorem nin_P(hr:Room k X.A):OpR X (Bs .NotIn) (rInP true):=by
 intro pins s σ H x y v u Q I rx ry h;obtain⟨p,L,bs,q,rfl,rfl,hL,hp,lq,hb,qq⟩:=h;cases rx;cases ry;obtain⟨its,r,pl,hz⟩:=I.list (SqL.of hL);obtain rfl:=q3e r;exact Qz (eR H q) pl.isList (q8y hr I hp lq hb) ⟨.bl _,H,I,rfl,by rw[z9d];exact qq⟩
end
end HM
namespace L2
open PySem PySem.Spec PyProof.Rows
section
variable{X:Cx}
def insN{α:Type}(xs:List α)(n:Nat)(y:α):List α:=xs.take n++y::xs.drop n
def rInsertN:V->List V->Hp->VK->Prop:=fun x vs H Q=>∃(l:Addr) (xs:List V) (y:V) (n:Nat),x=.ref l/\vs=[.int (n:Int),y]/\H l=some (.lst xs)/\xs.length<sizeLine/\n<=xs.length/\n<1000/\Q .non (upd H l (.lst (insN xs n y)))
theorem z2j:MtM X "list.insert" rInsertN:=by
 intro pins s σ H x vs v us Q I rx rv h;obtain⟨l,xs,y,n,rfl,rfl,hH,hz,hn,hb,q⟩:=h;cases rx;obtain⟨u0,u,rfl,r0,ru⟩:=rv.two;obtain⟨t0,rfl⟩:=r0;obtain⟨z,its,m,r,hl,e⟩:=I.lstM hH;have hlen:its.length=xs.length:=r.length.symm;have hf:Mt (n:Int)=true:=by
  unfold Mt;rw[Et,decide_eq_true_eq,decide_eq_true_eq];exact⟨Int.le_trans (by decide) (Int.natCast_nonneg n),Int.lt_trans (Int.ofNat_lt.mpr hb) (by decide)⟩
 have hx:∃x:Int,x=(n:Int):=⟨_,rfl⟩
 obtain⟨x,hx⟩:=hx;rw[<- hx] at hf ⊢;refine He F.slot_list_insert ⟨_,e,rfl⟩ F.entry_list_insert (F.args_list_insert_3 _ _ _) (AutoSeq1.list_insert_list_int_val_1 l its.toArray m x t0 u (by rw[hf];decide) (by rw[Ax];lia)) ⟨e,?_⟩;refine⟨.non,_,I.lset (its':=insN its n u) hH e ?_ ((r.take n).append (.cons ru (r.drop n))) ?_,rfl,q⟩
 ·have e1:(if x<0 then(x+(its.toArray.size:Int)).toNat else min x.toNat its.toArray.size)=n:=by
   rw[if_neg (by lia),Ax];lia
  show(its.toArray.extract 0 (if x<0 then(x+(its.toArray.size:Int)).toNat else min x.toNat its.toArray.size)).push u++its.toArray.extract (if x<0 then(x+(its.toArray.size:Int)).toNat else min x.toNat its.toArray.size)=(insN its n u).toArray;rw[e1];unfold insN;simp;exact Cg (by rw[Dj];exact Ak _)
 ·rw[Aj,Aw,Bu,Dj];lia
end
end L2
namespace HD
open PySem PySem.W PyProof.Rows
theorem end0:(∃f,endAt 0 t=some f)/\through t=true\/endAt 0 t=none/\through t=false:=by
 unfold endAt through;obtain⟨cur,code,pos,stack⟩:=t;cases stack with
 |cons a r=>exact .inr ⟨by cases cur<;>rfl,rfl⟩
 |nil =>
  cases cur with
  |pure f =>
   cases f with
   |done f=>simp_all
   |_=>simp_all
  |_=>exact .inr ⟨rfl,rfl⟩
theorem z1d{tb:String->Option Dw}{p:Program}{w:World}{n₀:Nat}{ann:Option Value}:∀{n:Nat} {s s':Af} {t:Thread} {f:Flow} {c:Code} {q:Pos},segRun tb p w n₀ ann 0 n s t=some (f,s',c,q)->topRun tb p w n₀ ann n s t=some s'
 |0,_,_,_,_,_,_,h=>by cases h
 |n+1,s,s',t,f,c,q,h=>by
  unfold segRun at h;unfold topRun;rcases end0 (t:=t) with⟨⟨f',e⟩,th⟩|⟨e,th⟩
  ·rw[e] at h;rw[th];cases h;rfl
  ·rw[e] at h;rw[th];dsimp only at h ⊢;cases ok:stepOk n₀ ann t with
   |false=>rw[ok] at h;cases h
   |true =>
    rw[ok] at h;dsimp only at h ⊢;cases st:step (denote tb) p w s t with
    |go s1 t1=>rw[st] at h;exact z1d h
    |halt _ _=>rw[st] at h;cases h
def mkT(l:List Obj):BT:=(l.foldl (fun(a:BT×Nat) o=>(a.1.ins a.2 o,a.2+1)) (BT.nil,0)).1
noncomputable def bootT (P:Params) (os:Pm):SharedT:=⟨mkT (boot_heap P).objs.toList,11,(boot_heap P).life,#[],boot_drawn,boot_toks,os⟩
theorem z7s(P:Params)(os:Pm):(bootT P os).abs=⟨boot_heap P,#[],boot_drawn,boot_toks,os⟩:=by kernel_rfl
theorem z5j(P:Params):((boot_heap P).isNs Cc&&(#[]:Array Sx).size==0,(boot_heap P).objs.size,(boot_heap P).nsMap Cc "__annotations__")=(true,11,some (.ref 6)):=by kernel_rfl
theorem left{Yf:Af->α}{Ya:World->α}(e:opening p=plainProg p.main.scope.names)(hN:Nat.ble 600 N=true)(f:∀s,fenceModules? p s=some s)(h:∀(w:World) (os:Pm),(segRunT Ro p w 11 (some (.ref 6)) 0 N (bootT w.params os) (topStub p)).map (fun r=>((staticsOk (Jb p.main.body) (boot_heap w.params) r.2.1.abs.heap&&namesBound p r.2.1.abs.heap&&gensDone r.2.1.abs&&laidKept (boot_heap w.params) r.2.1.abs.heap),
   openSeen q loose (Jb p.main.body) Xt true r.2.1.abs,Yf r.2.1.abs))=some (true,openGood q loose,Ya w)):LeftO p q loose Xt Yf Ya N:=fun w=>by
 obtain⟨⟨hp,gs,d,k,os⟩,e1,e2⟩:=Ci.mp (boot_open e hN f w);obtain⟨rfl,rfl,rfl,rfl⟩:hp=boot_heap w.params/\gs=#[]/\d=boot_drawn/\k=boot_toks:=by simpa using e2
 obtain⟨z1,z2,z3⟩:_/\_/\_:=by simpa only[Prod.mk.injEq] using z5j w.params
 obtain⟨⟨fl,st,c,ps⟩,r1,r2⟩:=Ci.mp (h w os);obtain⟨l1,l2,l3⟩:_/\_/\_:=by simpa only[Prod.mk.injEq] using r2
 have r:=z1d (segRun_of r1);rw[z7s] at r;have t:topFrom Ro p w N ⟨boot_heap w.params,#[],boot_drawn,boot_toks,os⟩=some st.abs:=by
  unfold topFrom;rw[z1,z2,z3,r];show(match staticsOk (Jb p.main.body) (boot_heap w.params) st.abs.heap&&namesBound p st.abs.heap&&gensDone st.abs&&laidKept (boot_heap w.params) st.abs.heap with|true=>_|false=>_)=_;rw[l1]
 unfold openEnds;rw[e1];show(topFrom Ro p w N _).map _=_;rw[t];exact congrArg some (Prod.ext l2 l3)
end HD
set_option maxHeartbeats 4000000
namespace K
open PySem L2 TX SB HM
def top(i:Nat):Stmt:=PySem.Challenge.pw_renamehall_k81_texts_of_no_hall.main.body.getD i (.Pass ⟨0,0,0,0⟩)
structure Txt (mg:Str->Option Value):Prop where
 b_ValueError:mg "ValueError" = none
 b_all:mg "all" = none
 b_bool:mg "bool" = none
 b_dict:mg "dict" = none
 b_enumerate:mg "enumerate" = none
 b_int:mg "int" = none
 b_isinstance:mg "isinstance" = none
 b_len:mg "len" = none
 b_list:mg "list" = none
 b_max:mg "max" = none
 b_min:mg "min" = none
 b_range:mg "range" = none
 b_sorted:mg "sorted" = none
 b_str:mg "str" = none
 b_tuple:mg "tuple" = none
 FIGURES:∃t,mg "FIGURES" = some (.str (Ac "0123456789") t)
 NAME_SIGNS:∃t,mg "NAME_SIGNS" = some (.str (Ac "abcdefghijklmnopqrstuvwxyzABCDEFGHIJKLMNOPQRSTUVWXYZ0123456789-_.") t)
 MOST_SIGNS:∃t,mg "MOST_SIGNS" = some (.int 12 t)
 MOST_NAMES:∃t,mg "MOST_NAMES" = some (.int 6 t)
 MOST_THINGS:∃t,mg "MOST_THINGS" = some (.int 60 t)
 MOST_MARK:∃t,mg "MOST_MARK" = some (.int 1000000000 t)
structure Calls (P:Program) (w:World) (K:Ah) (mg:Str->Option Value) (base:Heap):Prop where
 draw:Cal P w K mg base "_law_draw" 1 ["_law_feed", "_law_many"] spDraw
section
variable{P:Program}{w:World}{K:Ah}{mg:Str->Option Value}{base:Heap}
abbrev q9w:Stmt:=top 46
theorem sc_draw:FnScope ["_law_feed", "_law_many", "_law_cell", "_law_number", "_law_found"] ["_law_feed", "_law_many"] (defScope q9w):=by trivial
theorem x0o (D : Df K mg "_law_draw" q9w ["_law_feed", "_law_many"]) (T : Txt mg) : Cal P w K mg base "_law_draw" 1 ["_law_feed", "_law_many"] spDraw := by
  refine D.cal sc_draw (fun vs H Q E h => ?_) (fun f cdv A outer s H vs Q E hr h => ?_)
  · obtain ⟨a, b, m, rfl, _⟩ := h; rfl
  · obtain ⟨a, b, m, rfl, ⟨⟨i, j, ha⟩, ns, hb⟩, hm0, hm1, k⟩ := h;refine ⟨_, (q0d (q6d (q0u q0p (q0z (ix_k K rfl) (pv 0) q0g (fun _ _ => rfl)) q0g) (z0g (pv 0) q0g q4o)) (q0d (q0v (q0l (eq_k K rfl hr) (q0z (ix_k K rfl) (pv 0) q0g (fun _ _ => rfl)) q0g (nomark _)) (q0d (q0j (i := 2) sc_draw.nd rfl (by first | exact Or.inl rfl | exact Or.inr rfl) (q0z (ix_k K rfl) (pv 0) q0g (fun _ _ => rfl))) (q0d (q0v (q0l q3y (q0i (q1m K rfl) (by rfl) T.b_len Bg (q0a (q0z (ix_k K rfl) (pv 0) q0g (fun _ _ => rfl)) q0c)) q0g (nomark _)) (q0f (q0j (i := 2) sc_draw.nd rfl (by first | exact Or.inl rfl | exact Or.inr rfl) (q0z (ix_k K rfl) (q0z (ix_k K rfl) (pv 0) q0g (fun _ _ => rfl)) (q0u q6e (q0z (ix_k K rfl) (pv 0) q0g (fun _ _ => rfl)) (q0i (q1m K rfl) (by rfl) T.b_len Bg (q0a (q0z (ix_k K rfl) (pv 0) q0g (fun _ _ => rfl)) q0c))) (fun _ _ => rfl)))) q0k) (q0d (q0v (q0l z6n (pv 2) (q0u z2y q0g q0g) (nomark _)) (q0d (q0j (i := 3) sc_draw.nd rfl (by first | exact Or.inl rfl | exact Or.inr rfl) (q0u q6e (q0u q3j (q0u q0p (q0u q0p (q0u q6e (pv 2) q0g) (q0u q3j q0g (q0z (ix_k K rfl) (pv 0) q0g (fun _ _ => rfl)))) q0g) q0g) q0g)) (q0d (q0j (i := 3) sc_draw.nd rfl (by first | exact Or.inl rfl | exact Or.inr rfl) (q0u q6e (q0u q3j (pv 3) (q0u q0p (pv 3) q0g)) q0g)) (q0f (q0m (q0u q6e (q0u z2x (pv 3) q0g) (pv 1)))))) q0k) (q0f (q6d (pv 2) (z0g (pv 0) q0g q4o)))))) q0k) (q0d (q0j (i := 4) sc_draw.nd rfl (by first | exact Or.inl rfl | exact Or.inr rfl) (q0u q6e (q0z (ix_k K rfl) (pv 0) q0g (fun _ _ => rfl)) (pv 1))) (q0d (q6d (q0u z2x (q0z (ix_k K rfl) (pv 0) q0g (fun _ _ => rfl)) (pv 1)) (z0g (pv 0) q0g q4o)) (q0f (q0m (pv 4))))))), ?_⟩;have nba : b ≠ a := FeedAt.ne ⟨⟨i, j, ha⟩, ns, hb⟩;refine ⟨_, rfl, .inl ⟨a, _, 1, _, rfl, rfl, SqL.of ha, rfl, .inl ⟨_, _, rfl, rfl, _, rfl, a, _, 1, 1, rfl, rfl, ha, rfl, ?_⟩⟩⟩;generalize hH1 : upd H a _ = H1;have ha1 : H1 a = some (.lst [.ref b, .int (i + 1), .int j]) := by rw [← hH1]; exact q0b
    have hb1 : H1 b = some (.lst (ns.map V.int)) := by rw [← hH1, q0e nba]; exact hb
    have fd : ∀ (x y : Int), Fd a b H (upd H1 a (.lst [.ref b, .int x, .int y])) := fun x y => ⟨⟨⟨x, y, q0b⟩, ns, by rw [q0e nba]; exact hb1⟩, fun c o e hc => by rw [q0e hc, ← hH1, q0e hc]; exact e⟩
    have fd1 : Fd a b H H1 := ⟨⟨⟨_, _, ha1⟩, ns, hb1⟩, fun c o e hc => by rw [← hH1, q0e hc]; exact e⟩
    refine ⟨_, rfl, .inl ⟨a, _, 2, _, rfl, rfl, SqL.of ha1, rfl, .inl ⟨rfl, _, rfl, ?_⟩⟩⟩;have last : ∀ (H2 : Hp) (σ2 : St) (y : Int), H2 a = some (.lst [.ref b, .int (i + 1), .int y]) → (∀ x y : Int, Fd a b H (upd H2 a (.lst [.ref b, .int x, .int y]))) → σ2[0]? = some (some (.ref a)) → σ2[1]? = some (some (.int m)) → σ2.length = 5 →
        tSeq (tAsg (tOp (rI (fun _ j => 0 < j) fun i j => .int (i % j)) (tOp (rIx K) (tVar 0) (tC (.int 2))) (tVar 1)) (gName 4)) (tSeq (tAsg (tOp (rI CDiv fun i j => .int (i / j)) (tOp (rIx K) (tVar 0) (tC (.int 2))) (tVar 1)) (gSub (tVar 0) (tC (.int 2)) rSetL)) (tRet (tVar 4))) { nx := fun _ H' => Q .non H', rt := Q } σ2 H2 := by
      intro H2 σ2 y h2 f2 e0 e1 el;match σ2, e0, e1, el with
      | [x0, x1, x2, x3, x4], e0, e1, _ =>
        cases e0;cases e1;refine ⟨_, rfl, .inl ⟨a, _, 2, _, rfl, rfl, SqL.of h2, rfl, _, rfl, _, _, rfl, rfl, hm0, ?_⟩⟩;refine ⟨_, rfl, .inl ⟨a, _, 2, _, rfl, rfl, SqL.of h2, rfl, _, rfl, _, _, rfl, rfl, ⟨hm0, hm1⟩, _, rfl, a, _, 2, 2, rfl, rfl, h2, rfl, _, rfl, ?_⟩⟩;exact k _ _ (La _ (by lia)) (Jo _ hm0) (f2 _ _)
    refine ite2 (fun _ => ?_) (fun _ => last H1 _ j ha1 fd rfl rfl rfl);refine ⟨_, rfl, .inl ⟨a, _, 1, _, rfl, rfl, SqL.of ha1, rfl, ?_⟩⟩;refine ⟨_, rfl, .inl ⟨a, _, 0, _, rfl, rfl, SqL.of ha1, rfl, ⟨_, _, rfl, .inl ⟨_, SqL.of hb1, rfl⟩, ⟨_, _, rfl, rfl, _, rfl, ?_⟩⟩⟩⟩
    have rest : ∀ cell : Int, tSeq (tIfS (tTest (tOp (rI0 fun i j => .bl (decide (i < j))) (tVar 2) (tOp (rI CPow fun i j => .int (i ^ j.toNat)) (tC (.int 10)) (tC (.int 18)))))
          (tSeq (tAsg (tOp (rI (fun _ j => 0 < j) fun i j => .int (i % j)) (tOp rMulU (tOp rAddU (tOp rAddU (tOp (rI (fun _ j => 0 < j) fun i j => .int (i % j)) (tVar 2) (tC (.int 2147483647))) (tOp rMulU (tC (.int 613)) (tOp (rIx K) (tVar 0) (tC (.int 1))))) (tC (.int 7))) (tC (.int 48271))) (tC (.int 2147483647))) (gName 3))
            (tSeq (tAsg (tOp (rI (fun _ j => 0 < j) fun i j => .int (i % j)) (tOp rMulU (tVar 3) (tOp rAddU (tVar 3) (tC (.int 69621)))) (tC (.int 2147483629))) (gName 3))
              (tRet (tOp (rI (fun _ j => 0 < j) fun i j => .int (i % j)) (tOp (rI CDiv fun i j => .int (i / j)) (tVar 3) (tC (.int 64))) (tVar 1))))) tNext)
          (tAsg (tVar 2) (gSub (tVar 0) (tC (.int 2)) rSetL))
        { nx := fun σ2 H2 => tSeq (tAsg (tOp (rI (fun _ j => 0 < j) fun i j => .int (i % j)) (tOp (rIx K) (tVar 0) (tC (.int 2))) (tVar 1)) (gName 4)) (tSeq (tAsg (tOp (rI CDiv fun i j => .int (i / j)) (tOp (rIx K) (tVar 0) (tC (.int 2))) (tVar 1)) (gSub (tVar 0) (tC (.int 2)) rSetL)) (tRet (tVar 4))) { nx := fun _ H' => Q .non H', rt := Q } σ2 H2, rt := Q }
        [some (.ref a), some (.int m), some (.int cell), none, none] H1 := by
      intro cell;refine ⟨_, rfl, _, _, rfl, rfl, ⟨by decide, by decide, by decide⟩, _, _, rfl, rfl, _, rfl, ?_⟩;refine ite2 (fun _ => ?_) (fun _ => ?_)
      · refine ⟨_, rfl, _, _, rfl, rfl, (by show (0 : Int) < 2147483647; decide), ?_⟩;refine ⟨_, rfl, .inl ⟨a, _, 1, _, rfl, rfl, SqL.of ha1, rfl, .inl ⟨_, _, rfl, rfl, .inl ⟨by decide, by decide⟩, .inl ⟨_, _, rfl, rfl, .inl ⟨_, _, rfl, rfl, .inl ⟨_, _, rfl, rfl, .inr ⟨by decide, by decide⟩, _, _, rfl, rfl, (by show (0 : Int) < 2147483647; decide), ?_⟩⟩⟩⟩⟩⟩;generalize hn : ((cell % 2147483647 + 613 * (i + 1) + 7) * 48271) % 2147483647 = n;have n0 : 0 ≤ n := by rw [← hn]; exact La _ (by decide)
        have n1 : n < 2147483647 := by rw [← hn]; exact Jo _ (by decide)
        refine ⟨_, rfl, _, rfl, .inl ⟨_, _, rfl, rfl, .inl ⟨_, _, rfl, rfl, .inl ⟨by lia, by lia⟩, _, _, rfl, rfl, (by show (0 : Int) < 2147483629; decide), ?_⟩⟩⟩;refine ⟨_, rfl, _, _, rfl, rfl, ⟨by decide, by decide⟩, _, rfl, _, _, rfl, rfl, hm0, ?_⟩;exact k _ _ (La _ (by lia)) (Jo _ hm0) fd1
      · refine ⟨_, rfl, _, rfl, a, _, 2, 2, rfl, rfl, ha1, rfl, ?_⟩;refine last _ _ cell q0b (fun x y => ?_) rfl rfl rfl;have := fd x y;rw [z9k];exact this
    refine ite2 (fun hl => ?_) (fun _ => rest _);have hne : ns.map V.int ≠ [] := by
      intro z;rw [z] at hl;simp at hl
    obtain ⟨x, hx, ex⟩ := z9t (i + 1) hne;obtain ⟨c, rfl⟩ : ∃ c, x = V.int c := by
      obtain ⟨c, _, e⟩ := Ay.mp hx;exact ⟨c, e.symm⟩
    refine ⟨_, rfl, .inl ⟨a, _, 0, _, rfl, rfl, SqL.of ha1, rfl, ⟨_, rfl, .inl ⟨a, _, 1, _, rfl, rfl, SqL.of ha1, rfl, ⟨_, rfl, .inl ⟨a, _, 0, _, rfl, rfl, SqL.of ha1, rfl, ⟨_, _, rfl, .inl ⟨_, SqL.of hb1, rfl⟩, _, _, rfl, rfl, ?_, ?_⟩⟩⟩⟩⟩⟩⟩
    · have : 0 < (ns.map V.int).length := by
        cases e : ns.map V.int with
        | nil => exact absurd e hne
        | cons _ _ => simp
      show (0 : Int) < ((ns.map V.int).length : Int);lia
    · exact .inl ⟨b, _, _, _, rfl, rfl, SqL.of hb1, ex, rest c⟩
theorem aab_in:∀c∈tl (Ac "aAb"),c∈NS:=by decide +kernel
def spName:Sp:=fun vs H Q _=>∃a b,vs=[.ref a]/\FeedAt H a b/\∀(t:List Nat) H',okN t->Fd a b H H'->Q (.str (mk t)) H'
abbrev q9x:Stmt:=top 47
theorem sc_name:FnScope ["_law_feed", "_law_signs", "_law_size"] ["_law_feed"] (defScope q9x):=by trivial
theorem x0p(D:Df K mg "_law_name" q9x ["_law_feed"])(T:Txt mg)(C:Calls P w K mg base):Cal P w K mg base "_law_name" 2 ["_law_feed"] spName:=by
 refine D.cal sc_name (fun vs H Q E h=>?_) (fun f cdv A outer s H vs Q E hr h=>?_)
 ·obtain⟨a,b,rfl,_⟩:=h;rfl
 ·obtain⟨a,b,rfl,F,k⟩:=h;refine⟨_,(q0d (q0j (i:=1) sc_name.nd rfl (by trivial) q0h) (q0d (q0j (i:=2) sc_name.nd rfl (by trivial) (q0u q0p q0g (pe_c C.draw hr (q0a (pv 0) (q0a q0g q0c))))) (q1j (q0v (q0l q3y (pe_c C.draw hr (q0a (pv 0) (q0a q0g q0c))) q0g (nomark _)) (q0d (q0j (i:=1) sc_name.nd rfl (by trivial) q0h) (q0f (q0j (i:=2) sc_name.nd rfl (by trivial) (q0u q0p q0g (pe_c C.draw hr (q0a (pv 0) (q0a q0g q0c))))))) q0k) (q0f (q0m (@bm_k _ _ _ _ _ _ _ _ _ _ _ _ K rfl Cb Pp Pq (z8n K rfl) q0h (q0a (q2h ["_law_k"] [("_law_signs",1),("_law_feed",0)] rfl (q2q rfl T.b_range (q0a (pv 2) q0c)) (fun _ _ _ _ _=>(q0q (i:=0) (show(["_law_k", "_law_signs", "_law_feed"]:List Str).Nodup by decide +kernel) rfl (by trivial))) (fun _ _ _ _ _=>q3z) (fun _ _ _ _ _=>(q0z (ix_k K rfl) (pv 1) (pe_c C.draw hr (q0a (pv 2) (q0a (q0i (q1m K rfl) (by rfl) T.b_len Bg (q0a (pv 1) q0c)) q0c))) (fun _ _=>rfl)))) q0c) (by rfl) (by rfl) (by rfl) (by rfl) (by rfl))))))),?_⟩;refine⟨_,rfl,a,b,_,rfl,F,by decide,by decide,fun r1 H1 r10 r11 fd1=>.inl ⟨_,_,rfl,rfl,?_⟩⟩;refine⟨fun σ' H'=>∃(g:Str) (n:Int),σ'=[some (.ref a),some (.str g),some (.int n)]/\Fd a b H H'/\0<g.length/\g.length<=100/\1<=n/\n<=12/\∀c∈tl g,c∈NS,?_,?_⟩
  ·rintro σ' H' ⟨g,n,rfl,fd,hg0,hg1,hn0,hn1,hg⟩;refine⟨rfl,_,rfl,n,rfl,by lia,by lia,fun D hD=>?_⟩;have F':=fd.feed;refine q5d (n:=n.toNat) (fun i ys H2=>∃cs:List Nat,ys=cs.map (fun c=>V.str ⟨#[c]⟩)/\cs.length=i/\i<=n.toNat/\(∀c∈cs,c∈tl g)/\Fd a b H' H2/\H2 D=some (.lst ys)) ⟨[],rfl,rfl,Bo _,fun _ h=>(nomatch h),(Fd.refl F').new hD,q0b⟩ (fun i ys H' ⟨cs,_,_,_,_,_,h⟩=>h) ?_ ?_
   ·rintro i ys H2 hi ⟨cs,rfl,hl,_,hc,fd2,hHD⟩;refine⟨_,rfl,_,rfl,_,rfl,_,_,rfl,⟨small (by lia),rfl⟩,a,b,_,rfl,fd2.feed,by lia,by lia,fun r H3 r0 r1 fd3=>?_⟩;have hl2:(tl g).length=g.length:=(len g).symm;obtain⟨c,hc1,hc2⟩:=q6i (xs:=tl g) r0 (by lia);refine .inr (.inr ⟨g,r,c,rfl,rfl,small (by lia),hc2,?_⟩);have hDa:D≠a:=fun z=>by subst z;exact F'.na hD rfl
    refine⟨fd3.at hHD hDa,small' (by rw[Ad];lia),cs++[c],by rw[Ap];rfl,by rw[Aj,hl];rfl,by lia,fun d hd=>?_,(fd2.trans fd3).put F' hD,q0b⟩;rcases Aq.mp hd with z|z
    ·exact hc d z
    ·rw[An.mp z];exact Au hc1
   ·rintro ys H2 ⟨cs,rfl,hl,_,hc,fd2,hHD⟩;have e:cs.map (fun c=>V.str ⟨#[c]⟩)=(cs.map fun c=>(⟨#[c]⟩:Str)).map V.str:=by rw[Bj];rfl
    refine⟨_,D,cs.map fun c=>⟨#[c]⟩,rfl,rfl,.inl (SqL.of (by rw[<- e];exact hHD)),?_,?_⟩
    ·rw[z6z,Ad];have:(Ac "").length=0:=by decide +kernel
     rw[this,hl];exact small (by lia)
    ·have z:=z3w cs;rw[z];exact k cs H2 ⟨by lia,by lia,fun c hc'=>hg c (hc c hc')⟩ (fd.trans fd2)
  ·refine⟨_,rfl,a,b,_,rfl,fd1.feed,by decide,by decide,fun r2 H2 r20 r21 fd2=>?_⟩;refine⟨_,_,rfl,rfl,_,rfl,ite2 (fun h=>?_) (fun h=>?_)⟩
   ·refine⟨_,rfl,a,b,_,rfl,fd2.feed,by decide,by decide,fun r3 H3 r30 r31 fd3=>.inl ⟨_,_,rfl,rfl,?_⟩⟩;exact⟨_,_,rfl,(fd1.trans fd2).trans fd3,by decide +kernel,by decide +kernel,by lia,by lia,aab_in⟩
   ·exact⟨_,_,rfl,fd1.trans fd2,by decide +kernel,by decide +kernel,by lia,by lia,fun c hc=>hc⟩
def spFolded:Sp:=fun vs H Q _=>∃p q bl,vs=[.ref p,.bl bl]/\H p=some (.tup (vP q))/\okP q/\∀p' H',Same H H'->H' p'=some (.tup (vP (fold bl q)))->Q (.ref p') H'
theorem q2m(p:Pth):(vP p).length=p.length:=Ad _
theorem q3u{q:Pth}(h:q≠[]):cutV (vP q) none (some (-1))=vP q.dropLast/\¬(HT.sIx (vP q).length 0 none=0/\HT.sIx (vP q).length (vP q).length (some (-1))=(vP q).length):=by
 have hl:=Ck.mpr h;have e:HT.sIx (vP q).length (vP q).length (some (-1))=q.length-1:=by
  show(if (-1:Int)<0 then((-1:Int)+((vP q).length:Int)).toNat else min (-1:Int).toNat (vP q).length)=_;rw[if_pos (by decide),q2m];lia
 refine⟨?_,fun z=>by rw[e,q2m] at z;lia⟩;unfold cutV;rw[e];show((vP q).drop 0).take _=_;rw[List.drop_zero];show(vP q).take (q.length-1-0)=_;rw[Rf,<- Mu,<- Pl]
theorem q5n{q:Pth}(h:q≠[]):atI (vP q) (-1)=some (.str (mk (q.getLastD []))):=by
 have hl:=Ck.mpr h;unfold atI ixN;rw[if_neg (by decide),if_pos (by rw[q2m];lia)];have e:((-1:Int)+((vP q).length:Int)).toNat=q.length-1:=by rw[q2m];lia
 show(vP q)[((-1:Int)+((vP q).length:Int)).toNat]?=_;rw[e,Bk,<- List.getLast?_eq_getElem?,Ja,Ho h];rfl
theorem q5o{q:Pth}(h:okP q):okN (q.getLastD []):=by
 rw[Ja,Ho h.ne];exact h.all _ (List.getLast_mem h.ne)
theorem z7t{n:List Nat}(h:∀c∈n,c<128):Hj (mk n)=mk (lowN n):=by
 apply ext;rw[TX.lower (by rw[q0s];exact h),q0s,q0s];rfl
abbrev q5p:Stmt:=top 48
theorem z5k:FnScope ["_law_path", "_law_blind"] ["_law_path", "_law_blind"] (defScope q5p):=by trivial
theorem z5l(D:Df K mg "_law_folded" q5p ["_law_path", "_law_blind"])(T:Txt mg):Cal P w K mg base "_law_folded" 1 ["_law_path", "_law_blind"] spFolded:=by
 refine D.cal z5k (fun vs H Q E h=>?_) (fun f cdv A outer s H vs Q E hr h=>?_)
 ·obtain⟨p,q,bl,rfl,_⟩:=h;rfl
 ·obtain⟨p,q,bl,rfl,hp,ok,k⟩:=h;refine⟨_,(q0d (q0v (@q2d _ _ _ K rfl (pv 1) (fun _=>rfl)) (q0f (q0m (q0u z4t (q1i (sl_k K rfl) (pv 0) q1t (q1u (q5x q3g q0g))) (q1c (q0a (@z6y _ _ _ _ _ _ _ _ _ K rfl Cb Kj Kk q7c (q0z (ix_k K rfl) (pv 0) (q5x q3g q0g) (fun _ _=>rfl)) (by rfl) (by rfl)) q0c))))) q0k) (q0f (q0m (pv 0)))),?_⟩;cases bl with
  |false=>exact⟨_,rfl,false,rfl,iteF ⟨_,rfl,k p H (Same.refl H) hp⟩⟩
  |true =>
   obtain⟨c1,c2⟩:=q3u ok.ne;have ln:=(q5o ok).low;refine⟨_,rfl,true,rfl,iteT ⟨_,rfl,_,rfl,_,rfl,.inr (.inr ⟨p,_,rfl,SqT.of hp,c2,fun p1 hp1=>?_⟩)⟩⟩;rw[c1];have s1:=(Same.refl H).new (o:=.tup (vP q.dropLast)) hp1;refine⟨_,rfl,_,rfl,.inr (.inl ⟨p,_,-1,_,rfl,rfl,SqT.of (s1 _ _ hp),q5n ok.ne,rfl,_,rfl,rfl,small (by rw[q0o];have:=(q5o ok).few;lia),?_⟩)⟩;refine⟨by show 1<=sizeLine;decide,fun p2 hp2=>?_⟩;have s2:=s1.new (o:=.tup [.str (Hj (mk (q.getLastD [])))]) hp2;refine⟨p1,p2,_,_,rfl,rfl,by rw[q0e (fun z=>by subst z;rw[q0b] at hp2;cases hp2)];exact q0b,q0b,by rw[q2m];exact small (by rw[Ii];have:=ok.few;show _+1<=_;lia),fun p3 H3 s3 h3 _=>?_⟩;refine k p3 H3 (s2.trans s3) ?_;rw[h3,z7t ln,z0t];show _=some (HO.tup ((q.dropLast++[lowN (q.getLastD [])]).map _));rw[Ap];rfl
end
end K
set_option maxHeartbeats 4000000
namespace K
open PySem L2 TX SB HM
section
variable{P:Program}{w:World}{K:Ah}{mg:Str->Option Value}{base:Heap}
theorem z1e:∀{p q:Pth},kP p=kP q->p=q
 |[],[],_=>rfl
 |[],_::_,h=>by cases h
 |_::_,[],h=>by cases h
 |a::p,b::q,h=>by
  unfold kP at h;rw[Ao,Ao] at h;injection h with h1 h2;injection h1 with h1;rw[SB.mk_inj h1,z1e h2]
theorem z5m{rs:List HRow}{p:Pth}(h:∀r∈rs,r.1≠p):valV (rs.map fun r=>(kP r.1,r.2)) (kP p)=none:=by
 induction rs with
 |nil=>rfl
 |cons r rs ih =>
  rw[Ao,q1e (fun z=>h r Am (z1e z))];exact ih fun x hx=>h x (Ai _ hx)
theorem q8z{rs:List HRow}{r:HRow}(hr:r∈rs)(nd:(rs.map (·.1)).Nodup):valV (rs.map fun r=>(kP r.1,r.2)) (kP r.1)=some r.2:=by
 induction rs with
 |nil=>cases hr
 |cons x rs ih =>
  rw[Ao,Dd] at nd;rcases Az.mp hr with rfl|hr
  ·rw[Ao];exact q1g rfl
  ·rw[Ao,q1e (fun z=>nd.1 (by rw[z1e z];exact Ay.mpr ⟨r,hr,rfl⟩))];exact ih hr nd.2
theorem q7m{rs:List HRow}{p:Pth}{v:V}(h:∀r∈rs,r.1≠p):putK (rs.map fun r=>(kP r.1,r.2)) (kP p) v=(rs++[(p,v)]).map fun r=>(kP r.1,r.2):=by
 rw[z7c v (z5m h),Ap];rfl
def okM(o:Option Int):Prop:=∀m,o=some m->0<=m/\m<=1000000000
structure RwInv (H:Hp) (a b L Dr d:Addr) (bl:Bool) (i:Nat) (H':Hp) (zs:List Zr) (ds:List (Addr×Pth)):Prop where
 fd:Fd a b H H'
 rl:RL H' L zs
 hl:Hl bl (zs.map (·.2))
 len:zs.length<=i
 da:H' Dr=some (.lst (ds.map fun z=>V.ref z.1))
 dt:∀z∈ds,H' z.1=some (.tup (vP z.2))/\(z.2=[]\/((z.2,none)∈zs.map (·.2)))/\z.2.length<6
 dn:ds≠[]
 dl:ds.length<=i+1
 hd:H' d=some (dR (zs.map fun z=>(fold bl z.2.1,.bl true)))
 mb:∀z∈zs,okM z.2.2
theorem RwInv.go{H:Hp}{a b L Dr d:Addr}{bl:Bool}{i:Nat}{H' H2:Hp}{zs:List Zr}{ds:List (Addr×Pth)}(x:RwInv H a b L Dr d bl i H' zs ds)(fd:Fd a b H' H2)(hL:L≠a)(hD:Dr≠a)(hd:d≠a):RwInv H a b L Dr d bl i H2 zs ds :=
 ⟨x.fd.trans fd,x.rl.fd x.fd.feed fd hL,x.hl,x.len,fd.at x.da hD,fun z hz=>⟨tupFd x.fd.feed fd _ _ (x.dt z hz).1,(x.dt z hz).2⟩,x.dn,x.dl,fd.at x.hd hd,x.mb⟩
theorem RwInv.sm{H:Hp}{a b L Dr d:Addr}{bl:Bool}{i:Nat}{H' H2:Hp}{zs:List Zr}{ds:List (Addr×Pth)}(x:RwInv H a b L Dr d bl i H' zs ds)(s:Same H' H2):RwInv H a b L Dr d bl i H2 zs ds :=
 ⟨x.fd.same s,x.rl.same s,x.hl,x.len,s _ _ x.da,fun z hz=>⟨s _ _ (x.dt z hz).1,(x.dt z hz).2⟩,x.dn,x.dl,s _ _ x.hd,x.mb⟩
theorem RwInv.put{H:Hp}{a b L Dr d T p:Addr}{bl:Bool}{i:Nat}{H':Hp}{zs:List Zr}{ds:List (Addr×Pth)}{q:Pth}{m:Option Int}(x:RwInv H a b L Dr d bl i H' zs ds)(F:FeedAt H a b)(hL:H L=none)(hd:H d=none)(nLd:d≠L)(nDL:Dr≠L)(hp:H' p=some (.tup (vP q)))(ok:okP q)(hmk:okM m)(hnew:∀r∈zs.map (fun z=>((fold bl z.2.1,.bl true):HRow)),r.1≠fold bl q)(hq:q.dropLast=[]\/(q.dropLast,none)∈zs.map (·.2))(hT:upd H' d (dR (zs.map (fun z=>((fold bl z.2.1,.bl true):HRow))++[(fold bl q,.bl true)])) T=none):
  RwInv H a b L Dr d bl (i+1) (upd (upd (upd H' d (dR (zs.map (fun z=>((fold bl z.2.1,.bl true):HRow))++[(fold bl q,.bl true)]))) T (.tup [.ref p,mV m])) L (.lst (zs.map (fun z=>V.ref z.1)++[.ref T]))) (zs++[(T,(q,m))]) ds:=by
 have hTd:T≠d:=fun z=>by rw[z,q0b] at hT;cases hT
 have hT':H' T=none:=by rw[q0e hTd] at hT;exact hT
 have hLT:T≠L:=fun z=>by rw[z,x.rl.at_] at hT';cases hT'
 have hDT:Dr≠T:=fun z=>by rw[<- z,x.da] at hT';cases hT'
 have hDd:Dr≠d:=fun z=>by have e:=x.da;rw[z,x.hd] at e;cases e
 have tk:∀S xs,H' S=some (.tup xs)->upd (upd (upd H' d (dR (zs.map (fun z=>((fold bl z.2.1,.bl true):HRow))++[(fold bl q,.bl true)]))) T (.tup [.ref p,mV m])) L (.lst (zs.map (fun z=>V.ref z.1)++[.ref T])) S=some (.tup xs):=fun S xs e=>by
  rw[q0e (fun z=>by rw[z,x.rl.at_] at e;cases e),q0e (fun z=>by rw[z,hT'] at e;cases e),q0e (fun z=>by rw[z,x.hd] at e;cases e)];exact e
 have em:(zs++[(T,(q,m))]).map (·.2)=zs.map (·.2)++[(q,m)]:=by rw[Ap];rfl
 refine⟨((x.fd.put F hd).new hT).put F hL,⟨by rw[q0b,Ap];rfl,fun z hz=>?_⟩,?_,by rw[Aj];exact Gv x.len,?_,fun z hz=>?_,x.dn,Dp x.dl,?_,fun z hz=>?_⟩
 ·rcases Aq.mp hz with hz|hz
  ·exact PR.same (x.rl.pr z hz) tk
  ·rw[An.mp hz];exact⟨p,by rw[q0e hLT];exact q0b,tk _ _ hp⟩
 ·rw[em];refine⟨fun r hr=>?_,?_,fun r hr=>?_⟩
  ·rcases Aq.mp hr with hr|hr
   ·exact x.hl.ok r hr
   ·rw[An.mp hr];exact ok
  ·rw[Ap];refine Sg.mpr ⟨x.hl.nd,(Oc _ _),fun y hy y' hy'=>?_⟩;rw[An.mp hy'];obtain⟨r,hr,rfl⟩:=Ay.mp hy;obtain⟨z,hz,rfl⟩:=Ay.mp hr;exact hnew (fold bl z.2.1,.bl true) (Ay.mpr ⟨z,hz,rfl⟩)
  ·rcases Aq.mp hr with hr|hr
   ·exact(x.hl.dr r hr).imp id fun z=>Bw _ z
   ·rw[An.mp hr];exact hq.imp id fun z=>Bw _ z
 ·rw[q0e nDL,q0e hDT,q0e hDd];exact x.da
 ·obtain⟨z1,z2,z3⟩:=x.dt z hz;exact⟨tk _ _ z1,z2.imp id fun y=>by rw[em];exact Bw _ y,z3⟩
 ·rw[q0e nLd,q0e hTd.symm,q0b,Ap];rfl
 ·rcases Aq.mp hz with hz|hz
  ·exact x.mb z hz
  ·rw[An.mp hz];exact hmk
theorem RwInv.draw{H:Hp}{a b L Dr d p:Addr}{bl:Bool}{i:Nat}{H':Hp}{zs:List Zr}{ds:List (Addr×Pth)}{q:Pth}(x:RwInv H a b L Dr d bl (i+1) H' zs ds)(F:FeedAt H a b)(hD:H Dr=none)(nDL:Dr≠L)(hl:ds.length<=i+1)(hp:H' p=some (.tup (vP q)))(hq:(q,none)∈zs.map (·.2))(h6:q.length<6):RwInv H a b L Dr d bl (i+1) (upd H' Dr (.lst (ds.map (fun z=>V.ref z.1)++[.ref p]))) zs (ds++[(p,q)]):=by
 have hDd:d≠Dr:=fun z=>by have e:=x.da;rw[<- z,x.hd] at e;cases e
 have tk:∀S xs,H' S=some (.tup xs)->upd H' Dr (.lst (ds.map (fun z=>V.ref z.1)++[.ref p])) S=some (.tup xs):=fun S xs e=>by rw[q0e (fun z=>by rw[z,x.da] at e;cases e)];exact e
 refine⟨x.fd.put F hD,⟨by rw[q0e nDL.symm];exact x.rl.at_,fun z hz=>PR.same (x.rl.pr z hz) tk⟩,x.hl,x.len,by rw[q0b,Ap];rfl,fun z hz=>?_,by simp,by rw[Aj];exact Gv hl,by rw[q0e hDd];exact x.hd,x.mb⟩;rcases Aq.mp hz with hz|hz
 ·exact⟨tk _ _ (x.dt z hz).1,(x.dt z hz).2⟩
 ·rw[An.mp hz];exact⟨tk _ _ hp,.inr hq,h6⟩
structure CallsN (P:Program) (w:World) (K:Ah) (mg:Str->Option Value) (base:Heap):Prop where
 draw:Cal P w K mg base "_law_draw" 1 ["_law_feed", "_law_many"] spDraw
 name:Cal P w K mg base "_law_name" 2 ["_law_feed"] spName
 folded:Cal P w K mg base "_law_folded" 1 ["_law_path", "_law_blind"] spFolded
def spRows:Sp:=fun vs H Q _=>∃a b bl m,vs=[.ref a,.bl bl,.int m]/\FeedAt H a b/\0<=m/\m<=60/\∀L zs H',Fd a b H H'->H L=none->RL H' L zs->Hl bl (zs.map (·.2))->zs.length<=m.toNat->(∀z∈zs,okM z.2.2)->Q (.ref L) H'
abbrev q9y:Stmt:=top 49
theorem sc_rows:FnScope ["_law_feed", "_law_blind", "_law_most", "_law_rows_here", "_law_drawers", "_law_held", "_law_k", "_law_path", "_law_mark"] ["_law_feed", "_law_blind", "_law_most"] (defScope q9y):=by trivial
theorem x0q(D:Df K mg "_law_rows" q9y ["_law_feed", "_law_blind", "_law_most"])(T:Txt mg)(C:CallsN P w K mg base):Cal P w K mg base "_law_rows" 3 ["_law_feed", "_law_blind", "_law_most"] spRows:=by
 refine D.cal sc_rows (fun vs H Q E h=>?_) (fun f cdv A outer s H vs Q E hr h=>?_)
 ·obtain⟨a,b,bl,m,rfl,_⟩:=h;rfl
 ·obtain⟨a,b,bl,m,rfl,F,hm0,hm1,k⟩:=h;refine⟨_,(q0d (q0j (i:=3) sc_rows.nd rfl (by trivial) (q1d q0c)) (q0d (q0j (i:=4) sc_rows.nd rfl (by trivial) (q1d (q0a (q1c q0c) q0c))) (q0d (q0j (i:=5) sc_rows.nd rfl (by trivial) z0q) (q0d (q2r Dv rfl (q2q rfl T.b_range (q0a (pe_c C.draw hr (q0a (pv 0) (q0a (q0u q0p (pv 2) q0g) q0c))) q0c)) (q0q (i:=6) sc_rows.nd rfl (by trivial)) (q0d (q0j (i:=7) sc_rows.nd rfl (by trivial) (q0u z4t (q0z (ix_k K rfl) (pv 4) (pe_c C.draw hr (q0a (pv 0) (q0a (q0i (q1m K rfl) (by rfl) T.b_len Bg (q0a (pv 4) q0c)) q0c))) (fun _ _=>rfl)) (q1c (q0a (pe_c C.name hr (q0a (pv 0) q0c)) q0c)))) (q0d (q0j (i:=8) sc_rows.nd rfl (by trivial) (q0z (ix_k K rfl) (q1d (q0a (pe_c C.draw hr (q0a (pv 0) (q0a q0g q0c))) (q0a (pe_c C.draw hr (q0a (pv 0) (q0a (q0u q0p (q0u z2y q0g q0g) q0g) q0c))) q0c))) (pe_c C.draw hr (q0a (pv 0) (q0a q0g q0c))) (fun _ _=>rfl))) (q1j (q0v (q0l (eq_k K rfl hr) (pe_c C.draw hr (q0a (pv 0) (q0a q0g q0c))) q0g (nomark _)) (q0f (q0j (i:=8) sc_rows.nd rfl (by trivial) q1h)) q0k) (q0f (q0v (q1p (q8l (z1y hr) (pe_c C.folded hr (q0a (pv 7) (q0a (pv 1) q0c))) (pv 5))) (q0d (z4b (z1y hr) (pv 5) (pe_c C.folded hr (q0a (pv 7) (q0a (pv 1) q0c))) q6v rfl) (q0d (q1z (@bm_k _ _ _ _ _ _ _ _ _ _ _ _ K rfl Ce Dy Dz q1v (pv 3) (q0a (q1c (q0a (pv 7) (q0a (pv 8) q0c))) q0c) (by rfl) (by rfl) (by rfl) (by rfl) (by rfl))) (q0f (q0v (pt_j (@PW.pt _ _ _ (q2p (q1p (q3m (pv 8))) (q2f (q0l z6n (q0i (q1m K rfl) (by rfl) T.b_len Bg (q0a (pv 7) q0c)) q0g (nomark _)))))) (q0f (q1z (@bm_k _ _ _ _ _ _ _ _ _ _ _ _ K rfl Ce Dy Dz q1v (pv 4) (q0a (pv 7) q0c) (by rfl) (by rfl) (by rfl) (by rfl) (by rfl)))) q0k)))) q0k)))))) (q0f (q0m (pv 3))))))),?_⟩;refine⟨by show 0<=sizeLine;decide,fun L hL=>⟨by show 0<=sizeLine;decide,fun p0 hp0=>⟨by show 1<=sizeLine;decide,fun Dr hDr=>?_⟩⟩⟩;intro d hd;have hLa:L≠a:=(q0n F.fa.choose_spec.choose_spec hL).symm;have s1:=(Same.refl H).new (o:=.lst []) hL;have s2:=s1.new (o:=.tup []) hp0;have s3:=s2.new (o:=.lst [.ref p0]) hDr;have s4:=s3.new (o:=.dT []) hd;have hDrH:H Dr=none:=s2.free hDr;have hdH:H d=none:=s3.free hd;have hDa:Dr≠a:=(q0n F.fa.choose_spec.choose_spec hDrH).symm;have hda:d≠a:=(q0n F.fa.choose_spec.choose_spec hdH).symm;have hLp:p0≠L:=fun z=>by rw[z,q0b] at hp0;cases hp0
  have hLDr:Dr≠L:=fun z=>by rw[z,q0e hLp.symm,q0b] at hDr;cases hDr
  have hpDr:Dr≠p0:=fun z=>by rw[z,q0b] at hDr;cases hDr
  have hLd:d≠L:=fun z=>by rw[z,q0e hLDr.symm,q0e hLp.symm,q0b] at hd;cases hd
  have hDd:d≠Dr:=fun z=>by rw[z,q0b] at hd;cases hd
  have hpd:d≠p0:=fun z=>by rw[z,q0e hpDr.symm,q0b] at hd;cases hd
  have I0:RwInv H a b L Dr d bl 0 (upd (upd (upd (upd H L (.lst [])) p0 (.tup [])) Dr (.lst [.ref p0])) d (.dT [])) [] [(p0,[])]:=by
   refine⟨(Fd.refl F).same s4,⟨?_,(fun _ h=>nomatch h)⟩,Hl.nil bl,Ak _,?_,fun z hz=>?_,by simp,Ak _,q0b,(fun _ h=>nomatch h)⟩
   ·rw[q0e hLd.symm,q0e hLDr.symm,q0e hLp.symm];exact q0b
   ·rw[q0e hDd.symm];exact q0b
   ·rw[An.mp hz];exact⟨by rw[q0e hpd.symm,q0e hpDr.symm];exact q0b,.inl rfl,by show 0<6;decide⟩
  generalize hH0:upd (upd (upd (upd H L (.lst [])) p0 (.tup [])) Dr (.lst [.ref p0])) d (.dT [])=H0 at I0;refine⟨_,rfl,_,rfl,.inl ⟨_,_,rfl,rfl,a,b,_,rfl,I0.fd.feed,by lia,by lia,fun r0 H1 r00 r01 fd1=>?_⟩⟩;have I1:=I0.go fd1 hLa hDa hda;refine⟨r0,rfl,by lia,by lia,q4r (n:=r0.toNat) (fun i σ' H'=>∃zs ds x6 x7 x8,σ'=[some (.ref a),some (.bl bl),some (.int m),some (.ref L),some (.ref Dr),some (.ref d),x6,x7,x8]/\RwInv H a b L Dr d bl i H' zs ds/\i<=r0.toNat) ⟨[],_,none,none,none,rfl,I1,Bo _⟩ ?_ ?_⟩
  ·rintro i σ' H' hi ⟨zs,ds,x6,x7,x8,rfl,I2,_⟩;have hdl:=I2.dl;have hdn:0<ds.length:=Ck.mpr I2.dn;refine⟨_,rfl,_,rfl,_,rfl,_,_,rfl,.inl ⟨_,SqL.of I2.da,rfl⟩,a,b,_,rfl,I2.fd.feed,by rw[Ad];lia,by rw[Ad];lia,fun r1 H2 r10 r11 fd2=>?_⟩;have I3:=I2.go fd2 hLa hDa hda;rw[Ad] at r11;obtain⟨v,hv1,hv2⟩:=q6i (xs:=ds.map fun z=>V.ref z.1) r10 (by rw[Ad];exact r11);obtain⟨z,hz,rfl⟩:∃z∈ds,v=V.ref z.1:=by
    rw[Bk] at hv1;cases e:ds[r1.toNat]? with
    |none=>rw[e] at hv1;cases hv1
    |some z=>rw[e] at hv1;cases hv1;exact⟨z,Au e,rfl⟩
   refine .inl ⟨Dr,_,r1,_,rfl,rfl,SqL.of I3.da,hv2,?_⟩;refine⟨_,rfl,a,b,rfl,I3.fd.feed,fun t H3 okt fd3=>⟨by show 1<=sizeLine;decide,fun p1 hp1=>?_⟩⟩;have I4:=(I3.go fd3 hLa hDa hda).sm ((Same.refl H3).new (o:=.tup [.str (mk t)]) hp1);obtain⟨zt,zd,zl⟩:=I4.dt z hz;refine⟨z.1,p1,_,_,rfl,rfl,zt,q0b,by rw[q2m];exact small (by show _+1<=_;lia),fun p2 H5 s5 hp2 _=>?_⟩;have I5:=I4.sm s5;have hp2':H5 p2=some (.tup (vP (z.2++[t]))):=by rw[hp2];show _=some (HO.tup ((z.2++[t]).map _));rw[Ap];rfl
   have okp:okP (z.2++[t]):=by
    refine⟨by simp,by rw[Aj];show _+1<=6;lia,fun n hn=>?_⟩;rcases Aq.mp hn with hn|hn
    ·rcases zd with e|e
     ·rw[e] at hn;cases hn
     ·exact(I4.hl.ok _ e).all n hn
    ·rw[An.mp hn];exact okt
   clear hp2 I4 I3 zt;generalize hq:z.2++[t]=q at hp2' okp;have hqd:q.dropLast=[]\/(q.dropLast,none)∈zs.map (·.2):=by rw[<- hq,List.dropLast_concat];exact zd
   refine⟨_,rfl,a,b,_,rfl,I5.fd.feed,by decide,by decide,fun m1 H6 m10 m11 fd6=>?_⟩;have I6:=I5.go fd6 hLa hDa hda;refine⟨_,rfl,_,_,rfl,rfl,⟨by decide,by decide,by decide⟩,.inl ⟨_,_,rfl,rfl,a,b,_,rfl,I6.fd.feed,by decide,by decide,fun m2 H7 m20 m21 fd7=>⟨by show 2<=sizeLine;decide,fun M hM=>?_⟩⟩⟩;have I7:=(I6.go fd7 hLa hDa hda).sm ((Same.refl H7).new (o:=.lst [.int m1,.int m2]) hM);have fdM:=fd6.trans (fd7.new (o:=.lst [.int m1,.int m2]) hM);refine⟨_,rfl,a,b,_,rfl,I7.fd.feed,by decide,by decide,fun m3 H8 m30 m31 fd8=>?_⟩;have I8:=I7.go fd8 hLa hDa hda;have fdp:=fdM.trans fd8;have hMa:M≠a:=fun z=>by rw[z] at hM;obtain⟨_,_,e⟩:=(I6.go fd7 hLa hDa hda).fd.feed.fa;rw[hM] at e;cases e
   have hm8:H8 M=some (.lst [.int m1,.int m2]):=fd8.at q0b hMa;have hat:∃mk0:Int,atI [V.int m1,V.int m2] m3=some (.int mk0)/\0<=mk0/\mk0<=1000000000:=by
    have e:m3=0\/m3=1:=by lia
    rcases e with rfl|rfl
    ·exact⟨m1,rfl,m10,by lia⟩
    ·refine⟨m2,rfl,m20,?_⟩;have e:((10:Int)^(9:Int).toNat+1)=1000000001:=by decide
     lia
   obtain⟨mk0,hat,hk0,hk1⟩:=hat;refine .inl ⟨M,_,m3,_,rfl,rfl,SqL.of hm8,hat,?_⟩;have hp8:H8 p2=some (.tup (vP q)):=tupFd I5.fd.feed fdp _ _ hp2';refine⟨fun σ' H'=>∃mk0 x6,σ'=[some (.ref a),some (.bl bl),some (.int m),some (.ref L),some (.ref Dr),some (.ref d),x6,some (.ref p2),some (mV mk0)]/\RwInv H a b L Dr d bl i H' zs ds/\H' p2=some (.tup (vP q))/\okM mk0,?_,?_⟩
   ·rintro σ' H' ⟨mk0,x6,rfl,I9,hp9,hmk⟩;refine⟨_,rfl,_,rfl,p2,q,bl,rfl,hp9,okp,fun pf H10 s10 hpf=>⟨_,rfl,d,_,rfl,DGet.t (k:=kP (fold bl q)) (I9.sm s10).hd (by rw[q7i];exact hpf),_,rfl,?_⟩⟩;have I10:=I9.sm s10;refine iteB (fun hno=>?_) (fun hno=>?_)
    ·have hnew:∀r∈zs.map (fun z=>((fold bl z.2.1,.bl true):HRow)),r.1≠fold bl q:=fun r hr e=>by
      have:=q8z hr (by rw[Bj];have:=I10.hl.nd;rw[Bj] at this;exact this);rw[e] at this;rw[this] at hno;cases hno
     refine⟨_,rfl,_,rfl,_,rfl,p2,q,bl,rfl,s10 _ _ hp9,okp,fun pg H11 s11 hpg=>?_⟩;have I11:=I10.sm s11;refine⟨d,_,rfl,DPut.t (k:=kP (fold bl q)) I11.hd (by rw[q7i];exact hpg) (by rw[Ad,Ad];have:=I11.len;exact small' (by lia)),?_⟩;rw[q7m hnew];have hL12:upd H11 d (dR (zs.map (fun z=>((fold bl z.2.1,.bl true):HRow))++[(fold bl q,.bl true)])) L=some (.lst (zs.map fun z=>V.ref z.1)):=by rw[q0e hLd.symm];exact I11.rl.at_
     refine⟨_,rfl,.inl ⟨rfl,_,SqL.of hL12⟩,_,rfl,_,rfl,by show 2<=sizeLine;decide,fun T hT=>?_⟩;have hLT:L≠T:=fun z=>by rw[<- z,hL12] at hT;cases hT
     refine⟨L,_,_,rfl,rfl,by rw[q0e hLT];exact hL12,by rw[Ad];have:=I11.len;exact small' (by lia),?_⟩;have I12:=I11.put (m:=mk0) F hL hdH hLd hLDr (s11 _ _ (s10 _ _ hp9)) okp hmk hnew hqd hT;have hp12:upd (upd (upd H11 d (dR (zs.map (fun z=>((fold bl z.2.1,.bl true):HRow))++[(fold bl q,.bl true)]))) T (.tup [.ref p2,mV mk0])) L (.lst (zs.map (fun z=>V.ref z.1)++[.ref T])) p2=some (.tup (vP q)):=by
      obtain⟨b',e1,e2⟩:=I12.rl.pr (T,(q,mk0)) (by simp);have e3:H11 p2=some (.tup (vP q)):=s11 _ _ (s10 _ _ hp9);have hTd:T≠d:=fun z=>by rw[z,q0b] at hT;cases hT
      rw[q0e (fun z=>by rw[z,I11.rl.at_] at e3;cases e3),q0e (fun z=>by rw[q0e hTd,<- z,e3] at hT;cases hT),q0e (fun z=>by rw[z,I11.hd] at e3;cases e3)];exact e3
     refine⟨fun b H'=>b=(decide (mV mk0=.non)&&decide (q.length<6))/\H'=upd (upd (upd H11 d (dR (zs.map (fun z=>((fold bl z.2.1,.bl true):HRow))++[(fold bl q,.bl true)]))) T (.tup [.ref p2,mV mk0])) L (.lst (zs.map (fun z=>V.ref z.1)++[.ref T])),?_,?_⟩
     ·rintro bb H' ⟨rfl,rfl⟩;refine iteB (fun hb=>?_) (fun hb=>?_)
      ·rw[Et] at hb;have hmk:=mV_none.mp (of_decide_eq_true hb.1);subst hmk;refine⟨_,rfl,.inl ⟨rfl,_,SqL.of I12.da⟩,_,rfl,Dr,_,_,rfl,rfl,I12.da,by rw[Ad];exact small' (by lia),?_⟩;exact⟨_,_,_,_,_,rfl,I12.draw F hDrH hLDr (by lia) hp12 (by simp) (of_decide_eq_true hb.2),hi⟩
      ·exact⟨_,_,_,_,_,rfl,I12,hi⟩
     ·refine⟨_,rfl,_,rfl,?_⟩;refine iteB (fun hb=>?_) (fun hb=>?_)
      ·refine⟨_,rfl,_,_,rfl,.inr ⟨_,SqT.of hp12,rfl⟩,_,_,rfl,rfl,_,rfl,?_,rfl⟩;rw[hb,q2m,Er];exact decide_eq_decide.mpr (by lia)
      ·exact⟨by rw[hb,Pb],rfl⟩
    ·exact⟨zs,ds,_,_,_,rfl,⟨I10.fd,I10.rl,I10.hl,Dp I10.len,I10.da,I10.dt,I10.dn,Dp I10.dl,I10.hd,I10.mb⟩,hi⟩
   ·refine⟨_,rfl,a,b,_,rfl,I8.fd.feed,by decide,by decide,fun r9 H9 r90 r91 fd9=>.inl ⟨rfl,_,rfl,?_⟩⟩;have I9:=I8.go fd9 hLa hDa hda;have hp9:H9 p2=some (.tup (vP q)):=tupFd I8.fd.feed fd9 _ _ hp8;refine ite2 (fun h=>?_) (fun h=>?_)
    ·exact⟨none,_,rfl,I9,hp9,(fun _ z=>by cases z)⟩
    ·exact⟨some mk0,_,rfl,I9,hp9,(fun _ z=>by cases z;exact⟨hk0,hk1⟩)⟩
  ·rintro σ' H' ⟨zs,ds,x6,x7,x8,rfl,I2,_⟩;exact⟨_,rfl,k L zs H' I2.fd hL I2.rl I2.hl (by have:=I2.len;lia) I2.mb⟩
def lenAt(L:Addr)(H:Hp):Nat:=match H L with|some (.lst xs)=>xs.length|_=>0
theorem z1f{L:Addr}{H:Hp}{xs:List V}(h:H L=some (.lst xs)):lenAt L H=xs.length:=by unfold lenAt;rw[h]
theorem ers_map{α β:Type}(f:α->β):∀(l:List α) (k:Nat),(l.map f).eraseIdx k=(l.eraseIdx k).map f
 |[],_=>rfl
 |_::_,0=>rfl
 |a::l,k+1=>by show f a::(l.map f).eraseIdx k=f a::(l.eraseIdx k).map f;rw[ers_map f l k]
theorem z1g{α:Type}{z:α}:∀{l:List α} {k:Nat},l[k]?=some z->l.Perm (z::l.eraseIdx k)
 |[],_,h=>by cases h
 |a::l,0,h=>by cases h;exact List.Perm.refl _
 |a::l,k+1,h=>by
  show(a::l).Perm (z::a::l.eraseIdx k);exact((z1g (l:=l) (k:=k) h).cons a).trans (List.Perm.swap _ _ _)
structure MxInv (H:Hp) (a b Lf M:Addr) (zs:List Zr) (H':Hp) (zl zf:List Zr):Prop where
 fd:Fd a b H H'
 l:RL H' Lf zl
 m:RL H' M zf
 p:(zl++zf).Perm zs
theorem MxInv.go{H:Hp}{a b Lf M:Addr}{zs:List Zr}{H' H2:Hp}{zl zf:List Zr}(x:MxInv H a b Lf M zs H' zl zf)(fd:Fd a b H' H2)(hL:Lf≠a)(hM:M≠a):MxInv H a b Lf M zs H2 zl zf:=⟨x.fd.trans fd,x.l.fd x.fd.feed fd hL,x.m.fd x.fd.feed fd hM,x.p⟩
theorem MxInv.mv{H:Hp}{a b Lf M:Addr}{zs:List Zr}{H':Hp}{zl zf:List Zr}{k:Nat}{z:Zr}(x:MxInv H a b Lf M zs H' zl zf)(F:FeedAt H a b)(hL:H Lf=none)(hM:H M=none)(n:M≠Lf)(hz:zl[k]?=some z):
  MxInv H a b Lf M zs (upd (upd H' Lf (.lst ((zl.map fun z=>V.ref z.1).eraseIdx k))) M (.lst (zf.map (fun z=>V.ref z.1)++[.ref z.1]))) (zl.eraseIdx k) (zf++[z]):=by
 have tk:∀S xs,H' S=some (.tup xs)->upd (upd H' Lf (.lst ((zl.map fun z=>V.ref z.1).eraseIdx k))) M (.lst (zf.map (fun z=>V.ref z.1)++[.ref z.1])) S=some (.tup xs):=fun S xs e=>by
  rw[q0e (fun z=>by rw[z,x.m.at_] at e;cases e),q0e (fun z=>by rw[z,x.l.at_] at e;cases e)];exact e
 refine⟨(x.fd.put F hL).put F hM,⟨?_,fun y hy=>PR.same (x.l.pr y (Nz hy)) tk⟩,⟨by rw[q0b,Ap];rfl,fun y hy=>?_⟩,?_⟩
 ·rw[q0e n.symm,q0b,ers_map]
 ·rcases Aq.mp hy with hy|hy
  ·exact PR.same (x.m.pr y hy) tk
  ·rw[An.mp hy];exact PR.same (x.l.pr z (Au hz)) tk
 ·refine List.Perm.trans ?_ x.p;have e:zl.Perm (z::zl.eraseIdx k):=z1g hz;have e2:(zl.eraseIdx k++(zf++[z])).Perm (z::(zl.eraseIdx k++zf)):=by
   rw[<- Fq];exact List.perm_append_singleton _ _
  exact e2.trans (List.Perm.append_right zf e.symm)
def spMixed:Sp:=fun vs H Q _=>∃a b L zs,vs=[.ref a,.ref L]/\FeedAt H a b/\RL H L zs/\zs.length<=100/\(∀r∈zs.map (·.2),Low r.1)/\∀M zs' H',Fd a b H H'->H M=none->RL H' M zs'->zs'.Perm zs->Q (.ref M) H'
abbrev q7n:Stmt:=top 50
theorem sc_mixed:FnScope ["_law_feed", "_law_rows_here", "_law_left", "_law_found"] ["_law_feed", "_law_rows_here"] (defScope q7n):=by trivial
theorem z7u(D:Df K mg "_law_mixed" q7n ["_law_feed", "_law_rows_here"])(T:Txt mg)(C:Calls P w K mg base):Cal P w K mg base "_law_mixed" 2 ["_law_feed", "_law_rows_here"] spMixed:=by
 refine D.cal sc_mixed (fun vs H Q E h=>?_) (fun f cdv A outer s H vs Q E hr h=>?_)
 ·obtain⟨a,b,L,zs,rfl,_⟩:=h;rfl
 ·obtain⟨a,b,L,zs,rfl,F,hl,h60,hlow,k⟩:=h;refine⟨_,(q0d (q0j (i:=2) sc_mixed.nd rfl (by trivial) (q0x (z3t K rfl) (by rfl) T.b_list (by decide +kernel) (q0a (pv 1) q0c))) (q0d (q0j (i:=3) sc_mixed.nd rfl (by trivial) (q1d q0c)) (q0d (z6k Dv (q0l (ne_k K rfl hr) (pv 2) (q1d q0c) (nomark _)) (q0f (q1z (@bm_k _ _ _ _ _ _ _ _ _ _ _ _ K rfl Ce Dy Dz q1v (pv 3) (q0a (@bm_k _ _ _ _ _ _ _ _ _ _ _ _ K rfl Ce Pr Pu z0k (pv 2) (q0a (pe_c C.draw hr (q0a (pv 0) (q0a (q0i (q1m K rfl) (by rfl) T.b_len Bg (q0a (pv 2) q0c)) q0c))) q0c) (by rfl) (by rfl) (by rfl) (by rfl) (by rfl)) q0c) (by rfl) (by rfl) (by rfl) (by rfl) (by rfl))))) (q0f (q0m (pv 3)))))),?_⟩;refine⟨_,rfl,L,_,rfl,.inl (SqL.of hl.at_),fun Lf hLf=>⟨by show 0<=sizeLine;decide,fun M hM=>?_⟩⟩;have s1:=(Same.refl H).new (o:=.lst (zs.map fun z=>V.ref z.1)) hLf;have s2:=s1.new (o:=.lst []) hM;have hML:M≠Lf:=fun z=>by rw[z,q0b] at hM;cases hM
  have hMH:H M=none:=s1.free hM;have hLa:Lf≠a:=(F.na hLf).symm;have hMa:M≠a:=(F.na hMH).symm;have I0:MxInv H a b Lf M zs (upd (upd H Lf (.lst (zs.map fun z=>V.ref z.1))) M (.lst [])) zs [] :=
   ⟨(Fd.refl F).same s2,⟨by rw[q0e hML.symm];exact q0b,(hl.same s2).pr⟩,⟨q0b,(fun _ h=>nomatch h)⟩,by rw[Ei]⟩
  refine z6m (fun σ3 H3=>∃zl zf,σ3=[some (.ref a),some (.ref L),some (.ref Lf),some (.ref M)]/\MxInv H a b Lf M zs H3 zl zf) (fun _ H3=>lenAt Lf H3) ⟨zs,[],rfl,I0⟩ ?_ ?_
  ·rintro σ3 H3 ⟨zl,zf,rfl,I⟩;have hlen:zl.length+zf.length=zs.length:=by rw[<- Aj];exact I.p.length_eq
   have hlw:∀r∈zl.map (·.2),Low r.1:=fun r hr=>by
    obtain⟨z,hz,rfl⟩:=Ay.mp hr;exact hlow _ (Ay.mpr ⟨z,I.p.mem_iff.mp (Bw _ hz),rfl⟩)
   refine⟨_,rfl,by show 0<=sizeLine;decide,fun E hE=>?_⟩;have sE:=(Same.refl H3).new (o:=.lst []) hE;have I1:MxInv H a b Lf M zs (upd H3 E (.lst [])) zl zf:=⟨I.fd.same sE,I.l.same sE,I.m.same sE,I.p⟩
   refine ne_no I1.l q0b hlw ⟨_,rfl,ite2 (fun h=>?_) (fun h=>?_)⟩
   ·have hne:zl≠[]:=by simpa using h
    have hpos:=Ck.mpr hne;refine⟨_,rfl,.inl ⟨rfl,_,SqL.of I1.m.at_⟩,_,rfl,.inl ⟨rfl,_,SqL.of I1.l.at_⟩,_,rfl,_,rfl,_,_,rfl,.inl ⟨_,SqL.of I1.l.at_,rfl⟩,a,b,_,rfl,I1.fd.feed,by rw[Ad];lia,by rw[Ad];lia,fun r H4 r0 r1 fd4=>?_⟩;rw[Ad] at r1;have I2:=I1.go fd4 hLa hMa;obtain⟨v,hv1,hv2⟩:=q6i (xs:=zl) r0 r1;obtain⟨j,hj1,hj2,hj3,_,_⟩:=q4u hv2;refine⟨Lf,_,r,j,.ref v.1,rfl,rfl,I2.l.at_,by lia,by lia,by rw[Ad];exact hj1,by rw[Bk,hj2];rfl,?_⟩;refine⟨M,_,_,rfl,rfl,by rw[q0e hML];exact I2.m.at_,by rw[Ad];exact small' (by lia),?_⟩;have I3:=I2.mv F hLf hMH hML hj2;refine⟨⟨_,_,rfl,I3⟩,?_⟩;rw[z1f I3.l.at_,z1f I.l.at_,Ad,Ad,Qd,if_pos hj3];lia
   ·have hz:zl=[]:=by simpa using h
    subst hz;exact⟨_,rfl,k M zf _ I1.fd hMH I1.m I1.p⟩
  ·intro σ3 H3 Q1 Q2 hq h;obtain⟨v,e,z,h⟩:=h;refine⟨v,e,z,fun E hE=>?_⟩;rcases h E hE with h|h
   ·obtain⟨h1,b1,h2,h3⟩:=h;exact .inl ⟨h1,b1,h2,hq _ _ h3⟩
   ·obtain⟨d,e,h1,h2,h3,h4,h5,b1,h6,h7⟩:=h;exact .inr ⟨d,e,h1,h2,h3,h4,h5,b1,h6,hq _ _ h7⟩
structure Hk (K:Ah) (c:Addr):Prop where
 cl:Cls K c
 b:NoAttr K c "blind"
 m:NoAttr K c "marks"
abbrev hF(bl:Bool)(d:Addr):List (Str×V):=[("blind",.bl bl),("marks",.ref d)]
structure HallAt (c:Addr) (H:Hp) (h d:Addr) (bl:Bool) (rows:List Rw):Prop where
 i:∃dx,H h=some (.ins c dx (hF bl d))
 d:H d=some (dR (rows.map rR))
theorem HallAt.same{c:Addr}{H H':Hp}{h d:Addr}{bl:Bool}{rows:List Rw}(x:HallAt c H h d bl rows)(s:Same H H'):HallAt c H' h d bl rows:=⟨x.i.imp fun dx e=>s _ _ e,s _ _ x.d⟩
def spAlike:Sp:=fun vs H Q _=>∃x y,vs=[.str x,.str y]/\(∀c∈tl x,c<128)/\(∀c∈tl y,c<128)/\x.length<=1000/\y.length<=1000/\Q (.bl (decide ((tl x).map Ko=(tl y).map Ko))) H
abbrev q7o:Stmt:=top 33
theorem z7v:FnScope ["one", "other"] ["one", "other"] (defScope q7o):=by trivial
theorem z7w(D:Df K mg "alike" q7o ["one", "other"])(T:Txt mg):Cal P w K mg base "alike" 1 ["one", "other"] spAlike:=by
 refine D.cal z7v (fun vs H Q E h=>?_) (fun f cdv A outer s H vs Q E hr h=>?_)
 ·obtain⟨x,y,rfl,_⟩:=h;rfl
 ·obtain⟨x,y,rfl,ax,ay,lx,ly,k⟩:=h;refine⟨_,(q0f (q0m (q1s (eq_k K rfl hr) (@z6y _ _ _ _ _ _ _ _ _ K rfl Cb Kj Kk q7c (pv 0) (by rfl) (by rfl)) (@z6y _ _ _ _ _ _ _ _ _ K rfl Cb Kj Kk q7c (pv 1) (by rfl) (by rfl)) (nomark _)))),?_⟩;refine⟨_,rfl,rfl,_,rfl,rfl,small (by lia),⟨_,rfl,rfl,_,rfl,rfl,small (by lia),.inl ⟨rfl,?_⟩⟩⟩;have e:decide ((V.str (Hj x))=V.str (Hj y))=decide ((tl x).map Ko=(tl y).map Ko):=by
   rw[<- TX.lower ax,<- TX.lower ay];by_cases h:Hj x=Hj y
   ·rw[h];simp
   ·rw[decide_eq_false (fun z=>h (V.str.inj z)),decide_eq_false (fun z=>h (TX.ext z))]
  rw[e];exact k
structure CallsH (P:Program) (w:World) (K:Ah) (mg:Str->Option Value) (base:Heap):Prop where
 alike:Cal P w K mg base "alike" 1 ["one", "other"] spAlike
theorem q4p{p:Pth}(h:Low p):Low p.dropLast:=fun n hn=>h n (Qe _ hn)
def spOneP(c:Addr):Sp:=fun vs H Q _=>∃h p q bl dx fs one other,vs=[.ref h,.ref p,.ref q]/\H h=some (.ins c dx fs)/\fs.lookup ("blind" : Str)=some (V.bl bl)/\H p=some (.tup (vP one))/\H q=some (.tup (vP other))/\okP one/\okP other /\
 ∀H',Same H H'->Q (.bl (decide (fold bl one=fold bl other))) H'
abbrev q1f:Stmt:=inClass (top 40) 3
theorem q3f:FnScope ["self", "one", "other"] ["self", "one", "other"] (defScope q1f):=by trivial
theorem q9a{c:Addr}(D:Mf K c "is_one_place" "Hall.is_one_place" q1f ["self", "one", "other"])(hk:Hk K c)(T:Txt mg)(C:CallsH P w K mg base):MCal P w K mg base c "is_one_place" 2 ["self", "one", "other"] (spOneP c):=by
 refine D.cal hk.cl q3f (fun vs H Q E h=>?_) (fun f cdv A outer s H vs Q E hr h=>?_)
 ·obtain⟨h,p,q,bl,dx,fs,one,other,rfl,_⟩:=h;rfl
 ·obtain⟨h,p,q,bl,dx,fs,one,other,rfl,hh,hb,hp,hq,ok1,ok2,k⟩:=h;refine⟨_,(q0d (q0v (q0l (ne_k K rfl hr) (q1i (sl_k K rfl) (pv 1) q1t (q1u (q5x q3g q0g))) (q1i (sl_k K rfl) (pv 2) q1t (q1u (q5x q3g q0g))) (nomark _)) (q0f (q0m q6v)) q0k) (q0d (q0v (@q2d _ _ _ K rfl (@z4u _ _ _ _ _ K rfl (pv 0) (by rfl)) (fun _=>rfl)) (q0f (q0m (pe_c C.alike hr (q0a (q0z (ix_k K rfl) (pv 1) (q5x q3g q0g) (fun _ _=>rfl)) (q0a (q0z (ix_k K rfl) (pv 2) (q5x q3g q0g) (fun _ _=>rfl)) q0c))))) q0k) (q0f (q0m (q1s (eq_k K rfl hr) (q0z (ix_k K rfl) (pv 1) (q5x q3g q0g) (fun _ _=>rfl)) (q0z (ix_k K rfl) (pv 2) (q5x q3g q0g) (fun _ _=>rfl)) (nomark _)))))),?_⟩;obtain⟨c1,c2⟩:=q3u ok1.ne;obtain⟨d1,d2⟩:=q3u ok2.ne;refine⟨_,rfl,_,rfl,_,rfl,.inr (.inr ⟨p,_,rfl,SqT.of hp,c2,fun p1 hp1=>?_⟩)⟩;rw[c1];have s1:=(Same.refl H).new (o:=.tup (vP one.dropLast)) hp1;refine⟨_,rfl,_,rfl,_,rfl,.inr (.inr ⟨q,_,rfl,SqT.of (s1 _ _ hq),d2,fun p2 hp2=>?_⟩)⟩;rw[d1];have s2:=s1.new (o:=.tup (vP other.dropLast)) hp2;have hp1':upd (upd H p1 (.tup (vP one.dropLast))) p2 (.tup (vP other.dropLast)) p1=some (.tup (vP one.dropLast)):=by
   rw[q0e (fun z=>by rw[<- z,q0b] at hp2;cases hp2)];exact q0b
  generalize hH2:upd (upd H p1 (.tup (vP one.dropLast))) p2 (.tup (vP other.dropLast))=H2 at s2 hp1';have hp2':H2 p2=some (.tup (vP other.dropLast)):=by rw[<- hH2];exact q0b
  have fe:=x0g (bl:=bl) ok1.ne ok2.ne;refine z0z hp1' hp2' (q4p ok1.low) (q4p ok2.low) ⟨_,rfl,ite2 (fun hne=>?_) (fun hne=>?_)⟩
  ·have hne':one.dropLast≠other.dropLast:=by simpa using hne
   have e:decide (fold bl one=fold bl other)=false:=decide_eq_false fun z=>hne' (fe.mp z).1;refine(?_:Q _ _);rw[<- e];exact k _ s2
  ·have heq:one.dropLast=other.dropLast:=by simpa using hne
   refine⟨_,rfl,h,c,dx,fs,_,rfl,s2 _ _ hh,hk.cl,hk.b,hb,_,rfl,?_⟩;have l1:=q5o ok1;have l2:=q5o ok2;cases bl with
   |true =>
    refine iteT ⟨_,rfl,_,rfl,.inr (.inl ⟨p,_,-1,_,rfl,rfl,SqT.of (s2 _ _ hp),q5n ok1.ne,?_⟩)⟩;refine⟨_,rfl,_,rfl,.inr (.inl ⟨q,_,-1,_,rfl,rfl,SqT.of (s2 _ _ hq),q5n ok2.ne,?_⟩)⟩;refine⟨_,_,rfl,by rw[q0s];exact l1.low,by rw[q0s];exact l2.low,by rw[q0o];have:=l1.few;lia,by rw[q0o];have:=l2.few;lia,?_⟩;rw[q0s,q0s];have e:decide (fold true one=fold true other)=decide (lowN (one.getLastD [])=lowN (other.getLastD [])):=by
     refine decide_eq_decide.mpr (fe.trans ⟨fun z=>by simpa using z.2,fun z=>⟨heq,by simpa using z⟩⟩)
    have:=k _ s2;rw[e] at this;exact this
   |false =>
    refine iteF ⟨_,rfl,_,rfl,.inr (.inl ⟨p,_,-1,_,rfl,rfl,SqT.of (s2 _ _ hp),q5n ok1.ne,?_⟩)⟩;refine⟨_,rfl,_,rfl,.inr (.inl ⟨q,_,-1,_,rfl,rfl,SqT.of (s2 _ _ hq),q5n ok2.ne,?_⟩)⟩;refine .inl ⟨rfl,?_⟩;have e:decide (fold false one=fold false other)=decide (V.str (mk (one.getLastD []))=V.str (mk (other.getLastD []))):=by
     refine decide_eq_decide.mpr (fe.trans ⟨fun z=>?_,fun z=>⟨heq,?_⟩⟩)
     ·have:=z.2;simp only[Bq,if_false] at this;rw[this]
     ·simp only[Bq,if_false];exact SB.mk_inj (V.str.inj z)
    have:=k _ s2;rw[e] at this;exact this
def spThere(c:Addr):Sp:=fun vs H Q _=>∃h d p bl rows place,vs=[.ref h,.ref p]/\HallAt c H h d bl rows/\H p=some (.tup (vP place))/\okP place/\(∀r∈rows,okP r.1) /\
 (∀H',Same H H'->(∀r∈rows,fold bl r.1≠fold bl place)->Q .non H')/\∀H' b r,Same H H'->r∈rows->fold bl r.1=fold bl place->H' b=some (.tup (vP r.1))->Q (.ref b) H'
structure CallsI (P:Program) (w:World) (K:Ah) (mg:Str->Option Value) (base:Heap) (c:Addr):Prop where
 m_is_one_place:MCal P w K mg base c "is_one_place" 2 ["self", "one", "other"] (spOneP c)
theorem q9b{H H':Hp}{d:Addr}{o:HO}(hd:H d=some o)(k:∀a u,a≠d->H a=some u->H' a=some u):Same H (upd H' d o):=fun a u e=>by
 by_cases z:a=d
 ·subst z;rw[q0b,<- hd];exact e
 ·rw[q0e z];exact k a u z e
abbrev q2i:Stmt:=inClass (top 40) 4
theorem sc_Hall_there:FnScope ["self", "place", "path"] ["self", "place"] (defScope q2i):=by trivial
theorem z7x{c:Addr}(D:Mf K c "there" "Hall.there" q2i ["self", "place"])(hk:Hk K c)(T:Txt mg)(C:CallsI P w K mg base c):MCal P w K mg base c "there" 3 ["self", "place"] (spThere c):=by
 refine D.cal hk.cl sc_Hall_there (fun vs H Q E h=>?_) (fun f cdv A outer s H vs Q E hr h=>?_)
 ·obtain⟨h,d,p,bl,rows,place,rfl,_⟩:=h;rfl
 ·obtain⟨h,d,p,bl,rows,place,rfl,hh,hp,ok,oks,k1,k2⟩:=h;refine⟨_,(q0d (x0a H rfl (q2r Dv rfl (@ditT_k _ _ _ _ K rfl (@z4u _ _ _ _ _ K rfl (pv 0) (by rfl))) (q0q (i:=2) sc_Hall_there.nd rfl (by trivial)) (q0f (q0v (@q2d _ _ _ K rfl (pe_m C.m_is_one_place hr (pv 0) (q0a (pv 2) (q0a (pv 1) q0c))) (fun _=>rfl)) (q0f (q0m (pv 2))) q0k)))) (q0f (q0m q1h))),?_⟩;obtain⟨dx,hi⟩:=hh.i;have hd:=hh.d;have hhd:h≠d:=fun z=>by rw[z,hd] at hi;cases hi
  have hpd:p≠d:=fun z=>by rw[z,hd] at hp;cases hp
  refine⟨d,(fun o v e=>by rw[hd] at e;cases e),?_⟩;refine⟨_,rfl,h,c,dx,_,_,rfl,hi,hk.cl,hk.m,rfl,d,_,rfl,hd,fun ob=>?_⟩;refine z4f (fun i σ' H'=>(∃x,σ'=[some (.ref h),some (.ref p),x])/\H' d=some (.frz ob (dR (rows.map rR)))/\(∀a u,a≠d->H a=some u->H' a=some u)/\∀r∈rows.take i,fold bl r.1≠fold bl place)
   ⟨⟨none,rfl⟩,q0b,fun a u n e=>by rw[q0e n];exact e,fun r hr=>by rw[List.take_zero] at hr;cases hr⟩ (fun i σ' H' x=>x.2.1) ?_ ?_
  ·rintro i ky v b σ' H' hk' hb ⟨⟨x,rfl⟩,hfz,kp,hno⟩;obtain⟨r,hr,rfl,rfl⟩:∃r,rows[i]?=some r/\ky=kP r.1/\v=mV r.2:=by
    rw[Bk,Bk] at hk';cases e:rows[i]? with
    |none=>rw[e] at hk';cases hk'
    |some r=>rw[e] at hk';cases hk';exact⟨r,rfl,rfl,rfl⟩
   have hrm:=Au hr;rw[q7i] at hb;refine⟨_,rfl,h,dx,_,rfl,kp _ _ hhd hi,rfl,_,rfl,_,rfl,h,b,p,bl,dx,_,r.1,place,rfl,kp _ _ hhd hi,rfl,hb,kp _ _ hpd hp,oks r hrm,ok,fun H2 s2=>⟨_,rfl,?_⟩⟩;have kp2:∀a u,a≠d->H a=some u->H2 a=some u:=fun a u n e=>s2 _ _ (kp a u n e);refine iteB (fun he=>?_) (fun he=>?_)
   ·refine⟨_,rfl,ob,_,s2 _ _ hfz,k2 _ b r (q9b hd kp2) hrm (of_decide_eq_true he) ?_⟩;rw[q0e (fun z=>by rw[z,hfz] at hb;cases hb)];exact s2 _ _ hb
   ·refine⟨⟨_,rfl⟩,s2 _ _ hfz,kp2,fun y hy=>?_⟩;rw[Dq,hr] at hy;rcases Aq.mp hy with hy|hy
    ·exact hno y hy
    ·cases An.mp hy;exact of_decide_eq_false he
  ·rintro σ' H' ⟨⟨x,rfl⟩,hfz,kp,hno⟩;refine⟨ob,_,hfz,k1 _ (q9b hd kp) fun r hr=>hno r ?_⟩;rw[Ad,Ad,Cj];exact hr
theorem q2j{H H1:Hp}{ea d:Addr}{o1 o2 o3 o4 o5:HO}(sm:Same H H1)(h1:H1 ea=none)(h2:upd H1 ea o1 d=none):Same H (upd (upd (upd (upd (upd H1 ea o1) d o2) ea o3) d o4) ea o5):=fun b o hb=>by
 have hb1:=sm b o hb;have n1:b≠ea:=fun z=>by rw[z,h1] at hb1;cases hb1
 have n2:b≠d:=fun z=>by rw[<- z,q0e n1,hb1] at h2;cases h2
 rw[q0e n1,q0e n2,q0e n1,q0e n2,q0e n1];exact hb1
abbrev q1k:Stmt:=inClass (top 5) 0
theorem q3v:FnScope ["self", "at"] ["self", "at"] (defScope q1k):=by trivial
theorem q6a{Cn Dn:Addr}(F:Ef K mg "NoHall" Cn Dn "NoHall.__init__" q1k ["self", "at"])(g_HallError:mg "HallError" = some (.ref Dn))(S:ESet K Cn "at"):CalE P w K mg base "NoHall" Cn 1 ["self", "at"] (spIni1 Cn "at"):=by
 refine F.cal q3v (fun vs H Q E h=>?_) (by decide) (fun mc f cdv A outer s H vs Q E L_low N_ini hr h=>?_)
 ·obtain⟨ea,v,rfl,_⟩:=h;rfl
 ·obtain⟨ea,v,rfl,hE,⟨n,rfl,hn⟩,k⟩:=h;refine⟨_,(q0d (q1z (z8z L_low N_ini rfl g_HallError (q0a (pv 0) (q0a (z4y z1b (z8u (pv 1)) (z1a z1b z4z)) q0c)))) (q0f (z9b K rfl (pv 0) (pv 1)))),?_⟩;have ln:=q8m 12 n (by lia);have l1:(Ac "no hall: row ").length<=100:=by decide +kernel
  have l2:(Ac " is wrong").length<=100:=by decide +kernel
  have l0:Od.length=0:=by decide +kernel
  have e1:(Ac (toString (n:Int))).length<=13:=by rw[q9p,q0o];exact ln
  refine⟨_,rfl,TX.small (by rw[q1b];lia),_,rfl,.inr ⟨n,rfl,hn,TX.small (by rw[q1b,q1b];lia),TX.small (by rw[q1b,q1b,q1b];lia),TX.small (by rw[q1b,q1b,q1b];lia),?_⟩⟩;exact⟨ea,_,none,rfl,hE,_,rfl,_,rfl,ea,Cn,rfl,S,.inl ⟨hE,fun d hd hne=>k d hd hne⟩⟩
def spBlind(c:Addr):Sp:=fun vs H Q _=>∃h d bl rows,vs=[.ref h]/\HallAt c H h d bl rows/\Q (.bl bl) H
abbrev q1n:Stmt:=inClass (top 40) 2
theorem q4n:FnScope ["self"] ["self"] (defScope q1n):=by trivial
theorem z7y{c:Addr}(D:Mf K c "is_blind" "Hall.is_blind" q1n ["self"])(hk:Hk K c)(T:Txt mg):MCal P w K mg base c "is_blind" 1 ["self"] (spBlind c):=by
 refine D.cal hk.cl q4n (fun vs H Q E h=>?_) (fun f cdv A outer s H vs Q E hr h=>?_)
 ·obtain⟨h,d,bl,rows,rfl,_⟩:=h;rfl
 ·obtain⟨h,d,bl,rows,rfl,hh,k⟩:=h;refine⟨_,(q0f (q0m (@z4u _ _ _ _ _ K rfl (pv 0) (by rfl)))),?_⟩;obtain⟨dx,hi⟩:=hh.i;exact⟨_,rfl,h,c,dx,_,_,rfl,hi,hk.cl,hk.b,rfl,k⟩
def spHRows(c:Addr):Sp:=fun vs H Q _=>∃h d bl rows,vs=[.ref h]/\HallAt c H h d bl rows/\rows.length<64/\(∀r∈rows,Low r.1) /\
 ∀L zs H',H L=none->Same H H'->RL H' L zs->(zs.map (·.2)).Perm rows->(zs.map (·.2.1)).Pairwise (fun a b=>pLt b a=false)->Q (.ref L) H'
abbrev q2v:Stmt:=inClass (top 40) 1
theorem q9c:FnScope ["self"] ["self"] (defScope q2v):=by trivial
theorem z7z{c:Addr}(D:Mf K c "rows" "Hall.rows" q2v ["self"])(hk:Hk K c)(T:Txt mg):MCal P w K mg base c "rows" 2 ["self"] (spHRows c):=by
 refine D.cal hk.cl q9c (fun vs H Q E h=>?_) (fun f cdv A outer s H vs Q E hr h=>?_)
 ·obtain⟨h,d,bl,rows,rfl,_⟩:=h;rfl
 ·obtain⟨h,d,bl,rows,rfl,hh,h64,hlow,k⟩:=h;refine⟨_,(q0f (q0m (q0i (z2f hr) (by rfl) T.b_sorted (by decide +kernel) (q0a (@z6y _ _ _ _ _ _ _ _ _ K rfl PySem.F.plainAttrs_dict PySem.F.slot_dict_items PySem.F.type_dict_items z7n (@z4u _ _ _ _ _ K rfl (pv 0) (by rfl)) (by rfl) (by rfl)) q0c)))),?_⟩;obtain⟨dx,hi⟩:=hh.i;refine⟨_,rfl,h,c,dx,_,_,rfl,hi,hk.cl,hk.m,rfl,.inr (.inr (.inl ⟨rfl,.inr ⟨_,hh.d⟩⟩)),d,_,rfl,rfl,hh.d,fun v hv=>?_⟩;have s1:=(Same.refl H).new (o:=vwO v d) hv;refine⟨v,d,rows.map rR,rfl,q0b,s1 _ _ hh.d,by rw[Ad];exact h64,fun r hr=>?_,fun L as rs H' hL hp hs sm hLL prs=>?_⟩
  ·obtain⟨x,hx,rfl⟩:=Ay.mp hr;exact hlow x hx
  ·obtain⟨rows',p',rfl⟩:=perm_map_inv hp rfl;obtain⟨zs,z1,z2,z3⟩:=zs_of prs rfl;refine k L zs H' (s1.free hL) (s1.trans sm) ⟨?_,z3⟩ (by rw[z2];exact p') ?_
   ·rw[hLL,<- z1,Bj];rfl
   ·have e:zs.map (·.2.1)=(rows'.map rR).map (·.1):=by rw[<- z2,Bj,Bj];rfl
    rw[e];exact hs
structure InInv (c:Addr) (H:Hp) (x dx d Dr:Addr) (bl:Bool) (rows:List Rw) (ys:List (List Key×V)) (i:Nat) (H':Hp):Prop where
 ins:H' x=some (.ins c dx (hF bl d))
 d:H' d=some (dR ((rows.take i).map rR))
 r:H' Dr=some (.dT ys)
 k:∀a u,a≠x->H a=some u->H' a=some u
theorem InInv.same{c:Addr}{H H' H2:Hp}{x dx d Dr:Addr}{bl:Bool}{rows:List Rw}{ys:List (List Key×V)}{i:Nat}(v:InInv c H x dx d Dr bl rows ys i H')(s:Same H' H2):InInv c H x dx d Dr bl rows ys i H2:=⟨s _ _ v.ins,s _ _ v.d,s _ _ v.r,fun a u n e=>s _ _ (v.k a u n e)⟩
def Bad(bl:Bool)(rows:List Rw)(i:Nat):Prop:=∃r,rows[i]?=some r/\((r.1.dropLast≠[]/\(r.1.dropLast,none)∉rows)\/∃r'∈rows.take i,fold bl r'.1=fold bl r.1)
theorem z9e{bl:Bool}{rows:List Rw}{i:Nat}{r:Rw}(h:rows[i]?=some r)(b:Bad bl rows i):(r.1.dropLast≠[]/\(r.1.dropLast,none)∉rows)\/∃r'∈rows.take i,fold bl r'.1=fold bl r.1:=by
 obtain⟨r2,h2,b⟩:=b;rw[h] at h2;cases h2;exact b
theorem q5q{bl:Bool}{rows:List Rw}{n:Nat}(hn:rows.length<=n)(h:∀j,j<n->¬Bad bl rows j)(i:Nat):¬Bad bl rows i:=fun b=>by
 by_cases z:i<n
 ·exact h i z b
 ·obtain⟨r,hr,_⟩:=b;have:=(Ba.mp hr).1;lia
theorem q6r{α β:Type}{f:α->β}:∀{l:List α},(∀(i:Nat) r,l[i]?=some r->∀r'∈l.take i,f r'≠f r)->(l.map f).Nodup
 |[],_=>.nil
 |a::l,h=>by
  rw[Ao];refine Dd.mpr ⟨fun z=>?_,q6r fun i r hr r' hr'=>h (i+1) r hr r' (Ai _ hr')⟩;obtain⟨r,hr,e⟩:=Ay.mp z;obtain⟨i,hi⟩:=Pw.mp hr;exact h (i+1) r hi a Am e.symm
theorem hl_of{bl:Bool}{rows:List Rw}(ok:∀r∈rows,okP r.1)(h:∀i,¬Bad bl rows i):Hl bl rows:=by
 refine⟨ok,q6r fun i r hr r' hr' e=>h i ⟨r,hr,.inr ⟨r',hr',e⟩⟩,fun r hr=>?_⟩;obtain⟨i,hi⟩:=Pw.mp hr;by_cases z:r.1.dropLast=[]
 ·exact .inl z
 ·by_cases y:(r.1.dropLast,none)∈rows
  ·exact .inr y
  ·exact absurd ⟨r,hi,.inl ⟨z,y⟩⟩ (h i)
def spInitX(c Cn:Addr):Sp:=fun vs H Q E=>∃x dx L bl zs,vs=[.ref x,.ref L,.bl bl]/\H x=some (.ins c dx [])/\RL H L zs/\(∀r∈zs.map (·.2),okP r.1)/\zs.length<=60 /\
 ((∀i,¬Bad bl (zs.map (·.2)) i)->∀d H',H d=none->H' x=some (.ins c dx (hF bl d))->H' d=some (dR ((zs.map (·.2)).map rR))->(∀a u,a≠x->H a=some u->H' a=some u)->Q .non H') /\
 ∀i:Nat,Bad bl (zs.map (·.2)) i->(∀j,j<i->¬Bad bl (zs.map (·.2)) j)->∀ea H',(∀a u,a≠x->H a=some u->H' a=some u)->H ea=none->Rfd H' ea Cn "at" (.int (i:Int))->E (.ref ea) none H'
theorem none_of{H H':Hp}{x ea:Addr}{o:HO}(hx:H' x=some o)(k:∀a u,a≠x->H a=some u->H' a=some u)(h:H' ea=none):H ea=none:=by
 cases e:H ea with
 |none=>rfl
 |some u=>rw[k ea u (fun z=>by rw[z,hx] at h;cases h) e] at h;cases h
structure CallsK (P:Program) (w:World) (K:Ah) (mg:Str->Option Value) (base:Heap) (c Cn:Addr):Prop where
 e_NoHall:CalE P w K mg base "NoHall" Cn 1 ["self", "at"] (spIni1 Cn "at")
 m_there:MCal P w K mg base c "there" 3 ["self", "place"] (spThere c)
abbrev q0y:Stmt:=inClass (top 40) 0
theorem sc_Hall___init__:FnScope ["self", "rows", "blind", "drawers", "at", "path", "mark", "drawer"] ["self", "rows", "blind"] (defScope q0y):=by trivial
theorem z8a{c Cn:Addr}(D:Kf K mg c "Hall" "Hall.__init__" q0y ["self", "rows", "blind"])(hk:Hk K c)(T:Txt mg)(C:CallsK P w K mg base c Cn):KCalX P w K mg base c "Hall" 4 ["self", "rows", "blind"] (spInitX c Cn):=by
 refine D.calX sc_Hall___init__ (fun vs H Q E h=>?_) (fun f cdv A outer s H vs Q E hr h=>?_)
 ·obtain⟨x,dx,L,bl,zs,rfl,_⟩:=h;rfl
 ·obtain⟨x,dx,L,bl,zs,rfl,hx,hl,hok,h60,k,kE⟩:=h;refine⟨_,(q0d (@z8s _ _ _ _ _ _ _ _ K rfl (pv 0) (pv 2) (by rfl)) (q0d (@z8s _ _ _ _ _ _ _ _ K rfl (pv 0) z0q (by rfl)) (q0d (z7o (i:=3) ["path", "mark"] [] sc_Hall___init__.nd rfl (by trivial) rfl (@q5c _ _ _ _ K rfl (pv 1)) (fun _ _ _ _ _=>(@q2t _ _ _ _ (2) _ K rfl rfl (q0t (q0q (i:=0) (show(["path", "mark"]:List Str).Nodup by decide +kernel) rfl (by trivial)) (q0t (q0q (i:=1) (show(["path", "mark"]:List Str).Nodup by decide +kernel) rfl (by trivial)) q1r)) (by rfl) (by rfl))) (fun _ _ _ _ _=>(q7b (q1p (q3m (pv 1))))) (fun _ _ _ _ _=>(pv 0)) (fun _ _ _ _ _=>q6v) (z1y hr)) (q0f (q2r passDef rfl (@z0o _ _ _ _ _ _ _ _ K rfl rfl T.b_enumerate (q0a (pv 1) q0c) (by rfl)) (@q2t _ _ _ _ (2) _ K rfl rfl (q0t (q0q (i:=4) sc_Hall___init__.nd rfl (by trivial)) (q0t (@q2t _ _ _ _ (2) _ K rfl rfl (q0t (q0q (i:=5) sc_Hall___init__.nd rfl (by trivial)) (q0t (q0q (i:=6) sc_Hall___init__.nd rfl (by trivial)) q1r)) (by rfl) (by rfl)) q1r)) (by rfl) (by rfl)) (q0d (q0j (i:=7) sc_Hall___init__.nd rfl (by trivial) (q1i (sl_k K rfl) (pv 5) q1t (q1u (q5x q3g q0g)))) (q0d (q0v (pt_j (@PW.pt _ _ _ (q2p (q0l (ne_k K rfl hr) (pv 7) (q1c q0c) (nomark _)) (q2f (q1p (q8l (z1y hr) (pv 7) (pv 3))))))) (q0f (x0n C.e_NoHall hr accX rfl (q0a (pv 4) q0c))) q0k) (q0d (q0v (q1p (q6w (pe_m C.m_there hr (pv 0) (q0a (pv 5) q0c)))) (q0f (x0n C.e_NoHall hr accX rfl (q0a (pv 4) q0c))) q0k) (q0f (z4b (z1y hr) (@z4u _ _ _ _ _ K rfl (pv 0) (by rfl)) (pv 5) (pv 6) rfl)))))))))),?_⟩;have hLx:L≠x:=fun z=>by have e:=hl.at_;rw[z,hx] at e;cases e
  refine⟨_,rfl,_,rfl,x,c,dx,_,rfl,hx,hk.cl,hk.b,by decide,?_⟩;intro d hd;have hdx:d≠x:=fun z=>by rw[z,q0b] at hd;cases hd
  have hdH:H d=none:=by rw[q0e hdx] at hd;exact hd
  refine⟨_,rfl,x,c,dx,_,rfl,by rw[q0e hdx.symm];exact q0b,hk.cl,hk.m,by show 1<1000;decide,?_⟩;have pf:putF ("marks" : Str) (V.ref d) (putF ("blind" : Str) (V.bl bl) [])=hF bl d:=rfl;generalize hH3:upd (upd (upd H x (.ins c dx (putF ("blind" : Str) (.bl bl) []))) d (.dT [])) x (.ins c dx (putF ("marks" : Str) (.ref d) (putF ("blind" : Str) (.bl bl) [])))=H3;have k3:∀a u,a≠x->H a=some u->H3 a=some u:=fun a u n e=>by
   rw[<- hH3,q0e n,q0e (fun z=>by rw[z,hdH] at e;cases e),q0e n];exact e
  have i3:H3 x=some (.ins c dx (hF bl d)):=by rw[<- hH3,<- pf];exact q0b
  have d3:H3 d=some (.dT []):=by rw[<- hH3,q0e hdx];exact q0b
  have hl3:∀{H':Hp},(∀a u,a≠x->H a=some u->H' a=some u)->RL H' L zs:=fun{H'} kk=>⟨kk _ _ hLx hl.at_,fun z hz=>PR.same (hl.pr z hz) fun T' xs e=>kk _ _ (fun y=>by rw[y,hx] at e;cases e) e⟩
  refine⟨_,rfl,.inl ⟨L,rfl,⟨_,SqL.of (hl3 k3).at_⟩,fun Dr hDr=>?_⟩⟩;refine z2g (fun i ys H'=>H' Dr=some (.dT ys)/\Same H3 H'/\ys.length<=i/\i<=zs.length/\∀p,(valV ys (kP p)).isSome=true↔(p,none)∈(zs.take i).map (·.2)) ⟨q0b,(Same.refl H3).new hDr,Ak _,Bo _,fun p=>⟨(fun z=>nomatch z),(fun z=>nomatch z)⟩⟩ (fun i ys H' h=>⟨h.1,SqL.of (h.2.1 _ _ (hl3 k3).at_)⟩) ?_ ?_
  ·rintro i ys H' v hv ⟨hD',s',hlen,_,hsome⟩;obtain⟨z,hz,rfl⟩:=gR0 hv
   have hi:i<zs.length:=(Ba.mp hz).1;obtain⟨b,h1,h2⟩:=((hl3 k3).same s').pr z (Au hz);refine⟨z.1,_,rfl,SqT.of h1,rfl,_,_,rfl,_,_,rfl,rfl,q4b,?_⟩;refine⟨_,rfl,_,rfl,?_⟩;refine iteB (fun hm=>?_) (fun hm=>?_)
   ·refine⟨_,rfl,kP z.2.1,b,rfl,by rw[q7i];exact h2,hD',small' (by lia),q0b,fun a u e=>?_,?_,hi,fun p=>?_⟩
    ·rw[q0e (fun y=>by rw[y] at e;rw[hDr] at e;cases e)];exact s' _ _ e
    ·have:=q1w ys (kP z.2.1) (.bl true);lia
    ·have hm':mV z.2.2=.non:=of_decide_eq_true hm;have e2:z.2=(z.2.1,none):=by rw[<- mV_none.mp hm']
     rw[z7b,Dq,hz,Ap];by_cases e:kP p=kP z.2.1
     ·rw[if_pos e,z1e e];exact⟨fun _=>Bn _ (by show _∈[z.2];rw[<- e2];exact An.mpr rfl),fun _=>rfl⟩
     ·rw[if_neg e];refine(hsome p).trans ⟨fun y=>Bw _ y,fun y=>?_⟩;rcases Aq.mp y with y|y
      ·exact y
      ·have y2:(p,none)=z.2:=An.mp y;exact absurd (by rw[<- y2]) e
   ·refine⟨hD',s',by lia,hi,fun p=>?_⟩;rw[Dq,hz,Ap];refine(hsome p).trans ⟨fun y=>Bw _ y,fun y=>?_⟩;rcases Aq.mp y with y|y
    ·exact y
    ·have y2:(p,none)=z.2:=An.mp y;refine absurd ?_ (of_decide_eq_false hm);show mV z.2.2=_;rw[<- y2];rfl
  ·rintro ys H' ⟨hD',s',hlen,_,hsome⟩;rw[Ad,Cj] at hsome;have I0:InInv c H x dx d Dr bl (zs.map (·.2)) ys 0 H':=⟨s' _ _ i3,s' _ _ d3,hD',fun a u n e=>s' _ _ (k3 a u n e)⟩
   have hDx:Dr≠x:=fun z=>by rw[z,i3] at hDr;cases hDr
   have hDd:Dr≠d:=fun z=>by rw[z,d3] at hDr;cases hDr
   refine⟨_,rfl,.inr ⟨L,_,rfl,SqL.of (hl3 I0.k).at_,?_⟩⟩;refine q3s (fun i σ' H2=>∃x4 x5 x6 x7,σ'=[some (.ref x),some (.ref L),some (.bl bl),some (.ref Dr),x4,x5,x6,x7]/\InInv c H x dx d Dr bl (zs.map (·.2)) ys i H2/\∀j,j<i->¬Bad bl (zs.map (·.2)) j) ⟨none,none,none,none,rfl,I0,fun _ z=>nomatch z⟩ (fun i σ' H2 h=>by obtain⟨_,_,_,_,_,h,_⟩:=h;exact SqL.of (hl3 h.k).at_) ?_ ?_
   ·rintro i v T' σ' H2 hv ⟨x4,x5,x6,x7,rfl,I,hnb⟩ hT;obtain⟨z,hz,rfl⟩:=gR0 hv
    have hi:i<zs.length:=(Ba.mp hz).1;have hzr:(zs.map (·.2))[i]?=some z.2:=by rw[Bk,hz];rfl
    have hzm:=Au hzr;have okz:=hok _ hzm;have sT:=(Same.refl H2).new (o:=.tup [.int i,.ref z.1]) hT;have I1:=I.same sT;obtain⟨b,h1,h2⟩:=(hl3 I1.k).pr z (Au hz);refine⟨T',_,rfl,SqT.of q0b,rfl,_,_,rfl,_,_,rfl,z.1,_,rfl,SqT.of h1,rfl,_,_,rfl,_,_,rfl,rfl,rfl,?_⟩;generalize upd H2 T' (.tup [.int i,.ref z.1])=H4 at sT I1 h1 h2;replace h1:H4 z.1=some (.tup [.ref b,mV z.2.2]):=h1;replace h2:H4 b=some (.tup (vP z.2.1)):=h2;obtain⟨c1,c2⟩:=q3u okz.ne;refine⟨_,rfl,_,rfl,_,rfl,.inr (.inr ⟨b,_,rfl,SqT.of (xs:=vP z.2.1) h2,c2,fun p1 hp1=>?_⟩)⟩;rw[c1];have s5:=(Same.refl H4).new (o:=.tup (vP z.2.1.dropLast)) hp1;have I2:=I1.same s5;have h2':=s5 _ _ h2;have hp1':upd H4 p1 (.tup (vP z.2.1.dropLast)) p1=some (.tup (vP z.2.1.dropLast)):=q0b;generalize upd H4 p1 (.tup (vP z.2.1.dropLast))=H5 at s5 I2 h2' hp1';refine⟨fun bb H6=>(bb=true↔z.2.1.dropLast≠[]/\(z.2.1.dropLast,none)∉zs.map (·.2))/\Same H5 H6,?_,?_⟩
    ·rintro bb H6 ⟨hbb,s6⟩;have I3:=I2.same s6;refine ite2 (fun hb=>?_) (fun hb=>?_)
     ·refine⟨_,rfl,fun ea hea=>⟨ea,_,rfl,q0b,⟨i,rfl,by lia⟩,fun d' hd' hne=>⟨rfl,?_⟩⟩⟩;obtain⟨dd,r1,r2⟩:=raised1 (f := "at") (v:=.int (i:Int)) hd' hne;refine⟨dd,r1,kE i ⟨z.2,hzr,.inl (hbb.mp hb)⟩ hnb ea _ (fun a u n e=>q2j (Same.refl H6) hea hd' _ _ (I3.k a u n e)) (none_of I3.ins I3.k hea) r2⟩
     refine⟨_,rfl,x,dx,_,rfl,I3.ins,rfl,_,rfl,x,d,b,bl,_,z.2.1,rfl,⟨⟨dx,I3.ins⟩,I3.d⟩,s6 _ _ h2',okz,fun r hr=>hok r (Fj hr),fun H7 s7 hno=>?_,fun H7 b' r s7 hr e _=>?_⟩;rotate_left
     ·have I4:=I3.same s7;refine⟨_,rfl,iteT ⟨_,rfl,fun ea hea=>⟨ea,_,rfl,q0b,⟨i,rfl,by lia⟩,fun d' hd' hne=>⟨rfl,?_⟩⟩⟩⟩;obtain⟨dd,r1,r2⟩:=raised1 (f := "at") (v:=.int (i:Int)) hd' hne;refine⟨dd,r1,kE i ⟨z.2,hzr,.inr ⟨r,hr,e⟩⟩ hnb ea _ (fun a u n e=>q2j (Same.refl H7) hea hd' _ _ (I4.k a u n e)) (none_of I4.ins I4.k hea) r2⟩
     refine⟨_,rfl,iteF ?_⟩;have I4:=I3.same s7;refine⟨_,rfl,_,rfl,x,c,dx,_,_,rfl,I4.ins,hk.cl,hk.m,rfl,_,rfl,d,_,rfl,DPut.t (k:=kP z.2.1) I4.d (by rw[q7i];exact s7 _ _ (s6 _ _ h2')) (by rw[Ad,Ad,Bu,Ad];exact small' (by lia)),?_⟩;have hnew:∀r∈((zs.map (·.2)).take i).map rR,r.1≠z.2.1:=fun r hr e=>by
      obtain⟨y,hy,rfl⟩:=Ay.mp hr;exact hno y hy (congrArg (fold bl) e)
     rw[q7m hnew];refine⟨_,_,_,_,rfl,⟨?_,?_,?_,fun a u n e=>?_⟩,fun j hj=>?_⟩
     ·rw[q0e hdx.symm];exact I4.ins
     ·have e:((zs.map (·.2)).take (i+1)).map rR=((zs.map (·.2)).take i).map rR++[(z.2.1,mV z.2.2)]:=by rw[Dq,hzr,Ap];rfl
      rw[e];exact q0b
     ·rw[q0e hDd];exact I4.r
     ·rw[q0e (fun y=>by rw[y,hdH] at e;cases e)];exact I4.k a u n e
     ·rcases Oa.mp hj with hj|rfl
      ·exact hnb j hj
      ·intro bd;rcases z9e hzr bd with q|⟨r,hr,e⟩
       ·exact hb (hbb.mpr q)
       ·exact hno r hr e
    ·refine⟨_,rfl,by show 0<=sizeLine;decide,fun e0 he0=>?_⟩;have s6:=(Same.refl H5).new (o:=.tup []) he0;refine z0z (q:=[]) (s6 _ _ hp1') q0b (q4p okz.low) (fun _ h=>nomatch h) ⟨_,rfl,?_⟩;refine iteB (fun hne=>?_) (fun hne=>?_)
     ·have hne':z.2.1.dropLast≠[]:=by simpa using hne
      have hin:=hsome z.2.1.dropLast;refine⟨_,rfl,_,rfl,Dr,_,rfl,DGet.t (k:=kP z.2.1.dropLast) (I2.same s6).r (by rw[q7i];exact s6 _ _ hp1'),_,rfl,?_,s6⟩;cases e:valV ys (kP z.2.1.dropLast) with
      |none=>rw[e] at hin;exact⟨fun _=>⟨hne',(fun y=>nomatch (hin.mpr y))⟩,fun _=>rfl⟩
      |some v=>rw[e] at hin;exact⟨(fun y=>nomatch y),fun y=>absurd (hin.mp rfl) y.2⟩
     ·have hne':z.2.1.dropLast=[]:=by simpa using hne
      exact⟨⟨(fun y=>nomatch y),fun y=>absurd hne' y.1⟩,s6⟩
   ·rintro σ' H2 ⟨x4,x5,x6,x7,rfl,I,hnb⟩;have hd2:=I.d;rw[Ad,<- Ad (f:=fun z:Zr=>z.2),Cj] at hd2;rw[Ad] at hnb;exact k (q5q (by rw[Ad];exact Ak _) hnb) d H2 hdH I.ins hd2 I.k
theorem q6s{α β:Type}{F:α->β->Prop}:∀{l:List α} {m:List β},Cz F l m->l.length=m.length
 |_,_,.nil=>rfl
 |_,_,.cons _ t=>congrArg (· + 1) (q6s t)
theorem z1h{rows:List Rw}(nd:(rows.map (·.1)).Nodup):∀{l m:List Rw},(∀r∈l,r∈rows)->(∀r∈m,r∈rows)->l.map (·.1)=m.map (·.1)->l=m
 |[],[],_,_,_=>rfl
 |[],_::_,_,_,h=>by cases h
 |_::_,[],_,_,h=>by cases h
 |a::l,b::m,h1,h2,h=>by
  rw[Ao,Ao] at h;injection h with e1 e2;rw[q3r (f:=fun r:Rw=>r.1) nd (h1 a Am) (h2 b Am) e1,z1h nd (fun r hr=>h1 r (Ai _ hr)) (fun r hr=>h2 r (Ai _ hr)) e2]
structure CallsR (P:Program) (w:World) (K:Ah) (mg:Str->Option Value) (base:Heap) (c:Addr):Prop where
 m_rows:MCal P w K mg base c "rows" 2 ["self"] (spHRows c)
def spRight(c:Addr):Sp:=fun vs H Q _=>∃h m d bl rows,∃mrows:List Rw,vs=[.ref h,.ref m]/\HallAt c H h d bl rows/\H m=some (dR (mrows.map rR))/\mrows.Perm rows/\(rows.map (·.1)).Nodup/\(∀r∈rows,okP r.1)/\rows.length<64/\∀H',Same H H'->Q (.bl true) H'
abbrev q2k:Stmt:=top 51
theorem sc_rows_right:FnScope ["_law_hall", "_law_marks", "_law_found", "_law_row"] ["_law_hall", "_law_marks"] (defScope q2k):=by trivial
theorem z8b{c:Addr}(D:Df K mg "_law_rows_right" q2k ["_law_hall", "_law_marks"])(T:Txt mg)(C:CallsR P w K mg base c):Cal P w K mg base "_law_rows_right" 3 ["_law_hall", "_law_marks"] (spRight c):=by
 refine D.cal sc_rows_right (fun vs H Q E h=>?_) (fun f cdv A outer s H vs Q E hr h=>?_)
 ·obtain⟨h,m,d,bl,rows,mrows,rfl,_⟩:=h;rfl
 ·obtain⟨h,m,d,bl,rows,mrows,rfl,hh,hm,mpm,nd,oks,h64,k⟩:=h;refine⟨_,(q0d (q0j (i:=2) sc_rows_right.nd rfl (by trivial) (pe_m0 C.m_rows hr (pv 0))) (q0d (q0v (pt_j (@PW.pt _ _ _ (q2n (q2b (@q2d _ _ _ K rfl (q0i (z3s K rfl) (by rfl) T.b_isinstance (by decide +kernel) (q0a (pv 2) (q0a (q3x (by rfl) T.b_list (by decide +kernel) (show RelV (.ty "list") _ from rfl)) q0c))) (fun _=>rfl))) (q1q (q0l (ne_k K rfl hr) (pv 2) (q2h ["_law_path"] [("_law_marks",1)] rfl (@q5c _ _ _ _ K rfl (q0i (z2e hr) (by rfl) T.b_sorted (by decide +kernel) (q0a (pv 1) q0c))) (fun _ _ _ _ _=>(q0q (i:=0) (show(["_law_path", "_law_marks"]:List Str).Nodup by decide +kernel) rfl (by trivial))) (fun _ _ _ _ _=>q3z) (fun _ _ _ _ _=>(q1c (q0a (pv 0) (q0a (z9z (z1y hr) (pv 1) (pv 0) (fun _ _=>rfl)) q0c))))) (nomark _)))))) (q0f (q0m q6v)) q0k) (q0d (q2r Dv rfl (@q5c _ _ _ _ K rfl (pv 2)) (q0q (i:=3) sc_rows_right.nd rfl (by trivial)) (q0f (q0v (pt_j (@PW.pt _ _ _ (q2n (q2b (@q2d _ _ _ K rfl (q0i (z3s K rfl) (by rfl) T.b_isinstance (by decide +kernel) (q0a (pv 3) (q0a (q3x (by rfl) T.b_tuple (by decide +kernel) (show RelV (.ty "tuple") _ from rfl)) q0c))) (fun _=>rfl))) (q2n (q2b (@q2d _ _ _ K rfl (q0i (z3s K rfl) (by rfl) T.b_isinstance (by decide +kernel) (q0a (q0z (ix_k K rfl) (pv 3) q0g (fun _ _=>rfl)) (q0a (q3x (by rfl) T.b_tuple (by decide +kernel) (show RelV (.ty "tuple") _ from rfl)) q0c))) (fun _=>rfl))) (q1q (@q2d _ _ _ K rfl (q0i (z3s K rfl) (by rfl) T.b_isinstance (by decide +kernel) (q0a (q0z (ix_k K rfl) (pv 3) q0g (fun _ _=>rfl)) (q0a (q3x (by rfl) T.b_bool (by decide +kernel) (show RelV (.ty "bool") _ from rfl)) q0c))) (fun _=>rfl))))))) (q0f (q0m q6v)) q0k))) (q0f (q0m q6v))))),?_⟩;obtain⟨dx,hi⟩:=hh.i;have low:∀r∈rows,Low r.1:=fun r hr=>(oks r hr).low
  refine⟨_,rfl,h,dx,_,rfl,hi,rfl,h,d,bl,rows,rfl,hh,h64,low,fun L zs H1 hL s1 rl hp hs=>?_⟩;have zin:∀r∈zs.map (·.2),r∈rows:=fun r hr=>hp.mem_iff.mp hr;have lowz:∀r∈zs.map (·.2),Low r.1:=fun r hr=>low r (zin r hr);refine⟨fun b H'=>b=false/\Same H1 H',?_,?_⟩
  ·rintro b H' ⟨rfl,s2⟩;refine iteF ?_;have rl2:=rl.same s2;refine⟨_,rfl,.inl ⟨L,rfl,⟨_,SqL.of rl2.at_⟩,?_⟩⟩;refine z0h (xs:=zs.map fun z=>V.ref z.1) (fun i σ' H3=>(∃x3,σ'=[some (.ref h),some (.ref m),some (.ref L),x3])/\H3=H') ⟨⟨none,rfl⟩,rfl⟩ (fun i σ' H3 _ x=>by rw[x.2];exact SqL.of rl2.at_) ?_ ?_
   ·rintro i v σ' H3 hv ⟨⟨x3,rfl⟩,rfl⟩;obtain⟨z,hz,rfl⟩:=gR0 hv
    obtain⟨b,h1,h2⟩:=rl2.pr z (Au hz);refine⟨fun b H4=>b=false/\H4=H3,?_,?_⟩
    ·rintro b H4 ⟨rfl,rfl⟩;exact iteF ⟨⟨_,rfl⟩,rfl⟩
    ·refine⟨_,rfl,_,_,_,true,rfl,TyOf.tup h1,rfl,true,rfl,iteF ?_⟩;refine⟨_,rfl,.inr (.inl ⟨z.1,_,0,_,rfl,rfl,SqT.of h1,rfl,?_⟩)⟩;refine⟨_,_,_,true,rfl,TyOf.tup h2,rfl,true,rfl,iteF ?_⟩;refine⟨_,rfl,.inr (.inl ⟨z.1,_,1,_,rfl,rfl,SqT.of h1,rfl,?_⟩)⟩;show ∃x c t b,[mV z.2.2,_]=[x,.ty c]/\_;cases z.2.2 with
     |none=>exact⟨_,_,_,false,rfl,TyOf.non,rfl,false,rfl,rfl,rfl⟩
     |some n=>exact⟨_,_,_,false,rfl,TyOf.int n,rfl,false,rfl,rfl,rfl⟩
   ·rintro σ' H3 ⟨⟨x3,rfl⟩,rfl⟩;exact k _ (s1.trans s2)
  ·refine⟨_,rfl,_,_,_,true,rfl,TyOf.lst rl.at_,rfl,true,rfl,iteF ?_⟩;refine⟨_,rfl,_,rfl,m,_,rfl,s1 _ _ hm,by rw[Ad,mpm.length_eq];exact h64,fun r hr=>?_,fun L2 bs ps hL2 hp2 hs2 pts=>?_⟩
   ·obtain⟨y,hy,rfl⟩:=Ay.mp hr;exact(oks y (mpm.mem_iff.mp hy)).ne
   have s2:=(Same.refl H1).new (o:=.lst (bs.map V.ref)) hL2;have hLL:upd H1 L2 (.lst (bs.map V.ref)) L2=some (.lst (bs.map V.ref)):=q0b;generalize upd H1 L2 (.lst (bs.map V.ref))=H2 at s2 hLL;refine .inl ⟨L2,rfl,⟨_,SqL.of hLL⟩,fun Dl hDl=>?_⟩;have hps:(mrows.map rR).map (·.1)=mrows.map (·.1):=by rw[Bj];rfl
   rw[hps] at hp2;have ndm:(mrows.map (·.1)).Nodup:=(mpm.map _).nodup_iff.mpr nd;replace hp2:=hp2.trans (mpm.map _);have hbl:bs.length=ps.length:=q6s pts;have hpl:ps.length=rows.length:=by rw[hp2.length_eq,Ad]
   refine q6j (xs:=bs.map V.ref) (fun i ys H3=>∃ws:List Zr,ys=ws.map (fun z=>V.ref z.1)/\ws.map (fun z=>z.2.1)=ps.take i/\(∀w∈ws,w.2∈rows/\PR H3 w.1 (rR w.2))/\Same H2 H3/\H3 Dl=some (.lst ys)/\i<=ps.length)
    ⟨[],rfl,rfl,(fun _ h=>nomatch h),(Same.refl H2).new hDl,q0b,Bo _⟩ (fun i ys H3 ⟨ws,_,_,_,s3,h3,_⟩=>⟨h3,SqL.of (s3 _ _ hLL)⟩) ?_ ?_
   ·rintro i ys H3 v hv ⟨ws,rfl,hw1,hw2,s3,h3,hile⟩;obtain⟨b,hb,rfl⟩:∃b,bs[i]?=some b/\v=.ref b:=by
     rw[Bk] at hv;cases e:bs[i]? with
     |none=>rw[e] at hv;cases hv
     |some z=>rw[e] at hv;cases hv;exact⟨z,rfl,rfl⟩
    obtain⟨p,hp3,hbp⟩:=Cz.at' pts hb;have hi':i<ps.length:=(Ba.mp hp3).1;obtain⟨r,hr,rfl⟩:=Ay.mp (hp2.mem_iff.mp (Au hp3));have hb3:=s3 _ _ (s2 _ _ hbp);have hm3:=s3 _ _ (s2 _ _ (s1 _ _ hm));have hval:=q8z (rs:=mrows.map rR) (r:=rR r) (Ay.mpr ⟨r,mpm.mem_iff.mpr hr,rfl⟩) (by rw[hps];exact ndm);have hg:=DGet.t (k:=kP r.1) hm3 (by rw[q7i];exact hb3);rw[show valV ((mrows.map rR).map fun r=>(kP r.1,r.2)) (kP r.1)=some (mV r.2) from hval] at hg;refine⟨_,rfl,_,rfl,_,rfl,m,_,rfl,hg,by show 2<=sizeLine;decide,fun Tn hTn=>?_⟩;have sT:=(Same.refl H3).new (o:=.tup [.ref b,mV r.2]) hTn;have hwl:ws.length=i:=by rw[<- Ad (f:=fun z:Zr=>z.2.1),hw1,Bu];lia
    have hDT:Dl≠Tn:=fun z=>by rw[z,hTn] at h3;cases h3
    have tk:∀S xs,upd H3 Tn (.tup [.ref b,mV r.2]) S=some (.tup xs)->upd (upd H3 Tn (.tup [.ref b,mV r.2])) Dl (.lst (ws.map (fun z=>V.ref z.1)++[.ref Tn])) S=some (.tup xs):=fun S xs e=>by
     rw[q0e (fun z=>by rw[z,q0e hDT,h3] at e;cases e)];exact e
    refine⟨by rw[q0e hDT];exact h3,small' (by rw[Ad];lia),ws++[(Tn,r)],by rw[Ap];rfl,?_,fun w hw=>?_,(s3.trans sT).put hDl,q0b,hi'⟩
    ·rw[Ap,hw1,Dq,hp3];rfl
    ·rcases Aq.mp hw with hw|hw
     ·exact⟨(hw2 w hw).1,PR.same (PR.same (hw2 w hw).2 fun S xs e=>sT _ _ e) tk⟩
     ·rw[An.mp hw];exact⟨hr,b,tk _ _ q0b,tk _ _ (sT _ _ hb3)⟩
   ·rintro ys H3 ⟨ws,rfl,hw1,hw2,s3,h3,_⟩;rw[Ad,hbl,Cj] at hw1;have e1:zs.map (·.2.1)=ps:=by
     have z1:(zs.map (·.2)).map (·.1)=zs.map (·.2.1):=by rw[Bj];rfl
     have p1:(zs.map (·.2.1)).Perm (rows.map (·.1)):=by rw[<- z1];exact hp.map _
     exact q5j (p1.trans hp2.symm) (p1.nodup_iff.mpr nd) hs hs2
    have e2:zs.map (·.2)=ws.map (·.2):=z1h nd zin (fun r hr=>by obtain⟨w,hw,rfl⟩:=Ay.mp hr;exact(hw2 w hw).1) (by
     rw[Bj,Bj];show zs.map (fun z=>z.2.1)=ws.map (fun z=>z.2.1);rw[e1,hw1])
    exact x0k (rl.same (s2.trans s3)) ⟨h3,fun w hw=>(hw2 w hw).2⟩ e2 lowz ⟨_,rfl,rfl,s2.trans s3⟩
end
end K
set_option maxHeartbeats 4000000
namespace K
open PySem L2 TX SB HM PM
section
variable{P:Program}{w:World}{K:Ah}{mg:Str->Option Value}{base:Heap}
def isName(l:List Nat):Bool:=decide (1<=l.length)&&(decide (l.length<=12)&&l.all fun c=>decide (c∈NS))
def spIsName:Sp:=fun vs H Q _=>∃t,vs=[.str t]/\t.length<=20000/\∀H',Same H H'->Q (.bl (isName (tl t))) H'
def aOf(t s:List Nat):Bool:=decide (¬t=[])&&t.all fun c=>decide (c∈s)
theorem q9z{t:List Nat}:decide (V.str (mk t)=V.str (Ac ""))=decide (t=[]):=by
 refine decide_eq_decide.mpr ⟨fun h=>?_,fun h=>by rw[h];rfl⟩;injection h with h;have:=congrArg tl h;rw[q0s] at this;rw[this];decide +kernel
def spAllOf:Sp:=fun vs H Q _=>∃t g,vs=[.str (mk t),.str g]/\t.length<=20000/\∀H',Same H H'->Q (.bl (aOf t (tl g))) H'
abbrev q5r:Stmt:=top 31
theorem z5n:FnScope ["text", "signs"] ["text", "signs"] (defScope q5r):=by trivial
theorem z5o(D:Df K mg "all_of" q5r ["text", "signs"])(T:Txt mg):Cal P w K mg base "all_of" 1 ["text", "signs"] spAllOf:=by
 refine D.cal z5n (fun vs H Q E h=>?_) (fun f cdv A outer s H vs Q E hr h=>?_)
 ·obtain⟨t,g,rfl,_⟩:=h;rfl
 ·obtain⟨t,g,rfl,hl,k⟩:=h;refine⟨_,(q0f (q0m (pe_j (z2u (q1s (ne_k K rfl hr) (pv 0) q0h (nomark _)) (z0f (q0i (all_k K rfl rfl) (by rfl) T.b_all (by decide +kernel) (q0a (q2h ["sign"] [("signs",1)] rfl (@q5c _ _ _ _ K rfl (pv 0)) (fun _ _ _ _ _=>(q0q (i:=0) (show(["sign", "signs"]:List Str).Nodup by decide +kernel) rfl (by trivial))) (fun _ _ _ _ _=>q3z) (fun _ _ _ _ _=>(q1s (in_k K rfl) (pv 0) (pv 1) (by with_unfolding_all rfl)))) q0c))))))),?_⟩;refine⟨fun v H'=>v=.bl (aOf t (tl g))/\Same H H',?_,?_⟩
  ·rintro v H' ⟨rfl,sm⟩;exact k H' sm
  refine⟨_,rfl,.inl ⟨rfl,_,rfl,?_⟩⟩;rw[q9z];refine iteB (fun h=>?_) (fun h=>?_)
  ·have hne:¬t=[]:=fun z=>by rw[decide_eq_true z] at h;cases h
   refine⟨_,rfl,.inr (.inr ⟨mk t,rfl,fun D hD=>?_⟩)⟩;refine z3v (fun i ys H'=>ys=(t.take i).map (fun c=>V.bl (decide (c∈tl g)))/\Same H H'/\H' D=some (.lst ys)/\ys.length<=i/\i<=t.length) ⟨rfl,(Same.refl H).new hD,q0b,Ak _,Bo _⟩ (fun i ys H' h=>h.2.2.1) ?_ ?_
   ·rintro i ys H' c hc ⟨rfl,sm,hHD,hle,_⟩;have hci:t[i]?=some c:=by have:=get hc;rw[q0s] at this;exact this
    have hi:i<t.length:=(Ba.mp hci).1;refine⟨_,rfl,_,rfl,.inl ⟨_,_,rfl,rfl,hHD,small' (by lia),?_,sm.put hD,q0b,?_,hi⟩⟩
    ·rw[q1y hci,Ap,z3x];rfl
    ·rw[Aj,Bt];lia
   ·rintro ys H' ⟨rfl,sm,hHD,_,_⟩;have e3:t.take (mk t).length=t:=by rw[len,q0s];exact Cg (Ak _)
    rw[e3] at hHD;refine⟨D,t.map fun c=>decide (c∈tl g),rfl,SqL.of (by rw[Bj];exact hHD),?_,sm⟩;unfold aOf;rw[decide_eq_true hne,Er,List.all_map];rfl
  ·have he:t=[]:=Classical.byContradiction fun z=>by rw[decide_eq_false z] at h;cases h
   refine⟨?_,Same.refl H⟩;subst he;rfl
structure CallsNm (P:Program) (w:World) (K:Ah) (mg:Str->Option Value) (base:Heap):Prop where
 all_of:Cal P w K mg base "all_of" 1 ["text", "signs"] spAllOf
abbrev q4e:Stmt:=top 32
theorem z2k:FnScope ["text"] ["text"] (defScope q4e):=by trivial
theorem z2l(D:Df K mg "is_name" q4e ["text"])(T:Txt mg)(C:CallsNm P w K mg base):Cal P w K mg base "is_name" 2 ["text"] spIsName:=by
 refine D.cal z2k (fun vs H Q E h=>?_) (fun f cdv A outer s H vs Q E hr h=>?_)
 ·obtain⟨t,rfl,_⟩:=h;rfl
 ·obtain⟨t,rfl,hl,k⟩:=h;obtain⟨_,g_NAME_SIGNS⟩:=T.NAME_SIGNS;obtain⟨_,g_MOST_SIGNS⟩:=T.MOST_SIGNS;refine⟨_,(q0f (q0m (pe_j (z2u (q1s z3b (q0i (q1m K rfl) (by rfl) T.b_len Bg (q0a (pv 0) q0c)) (q0r (v:=.int 12) (by rfl) g_MOST_SIGNS ⟨_,rfl⟩) (nomark _)) (z0f (pe_c C.all_of hr (q0a (pv 0) (q0a (q0r (v:=.str (Ac "abcdefghijklmnopqrstuvwxyzABCDEFGHIJKLMNOPQRSTUVWXYZ0123456789-_.")) (by rfl) g_NAME_SIGNS ⟨_,rfl⟩) q0c)))))))),?_⟩;have e:=len t;refine⟨fun v H'=>v=.bl (isName (tl t))/\Same H H',?_,?_⟩
  ·rintro v H' ⟨rfl,sm⟩;exact k H' sm
  refine⟨_,rfl,_,_,rfl,⟨small (by lia),rfl⟩,_,_,rfl,rfl,_,rfl,?_⟩;refine iteB (fun h=>?_) (fun h=>?_)
  ·have h':=of_decide_eq_true h;refine⟨_,rfl,tl t,NSs,?_,by lia,fun H' sm=>⟨?_,sm⟩⟩
   ·rw[q8g];rfl
   ·unfold isName aOf;rw[decide_eq_true (show(tl t).length<=12 by lia),Er];congr 2;exact decide_eq_decide.mpr (by rw[<- List.length_eq_zero_iff];lia)
  ·have h':=of_decide_eq_false h;refine⟨?_,Same.refl H⟩;unfold isName;rw[decide_eq_false (show ¬(tl t).length<=12 by lia)];simp
def rp(l:List Nat):Option (List (List Nat)):=if (sp l).length<=6/\(sp l).all isName=true then some (sp l) else none
theorem z5p:∀(l:List Nat) (p:List Nat),p∈sp l->p.length<=l.length
 |[],p,h=>by rw[show sp []=[[]] from rfl,An] at h;rw[h];exact Ak _
 |c::r,p,h=>by
  have ih:=z5p r;have e:sp (c::r)=if c=47 then[]::sp r else match sp r with | []=>[[c]]|p::q=>(c::p)::q:=rfl
  rw[e] at h;split at h
  ·rcases Az.mp h with rfl|h
   ·exact Bo _
   ·have:=ih p h;rw[Aw];lia
  ·cases es:sp r with
   |nil=>rw[es] at h;rw[An.mp h];simp
   |cons q qs =>
    rw[es] at h ih;rcases Az.mp h with rfl|h
    ·have:=ih q Am;simp;lia
    ·have:=ih p (Ai _ h);rw[Aw];lia
def spRead:Sp:=fun vs H Q _=>∃t,vs=[.str t]/\t.length<=20000/\(rp (tl t)=none->∀H',Same H H'->Q .non H')/\∀ns,rp (tl t)=some ns->∀T H',H T=none->Same H H'->H' T=some (.tup (vN ns))->Q (.ref T) H'
structure Calls1 (P:Program) (w:World) (K:Ah) (mg:Str->Option Value) (base:Heap):Prop where
 is_name:Cal P w K mg base "is_name" 2 ["text"] spIsName
abbrev q2w:Stmt:=top 34
theorem sc_read_path:FnScope ["text", "names"] ["text"] (defScope q2w):=by trivial
theorem q9d(D:Df K mg "read_path" q2w ["text"])(T:Txt mg)(C:Calls1 P w K mg base):Cal P w K mg base "read_path" 3 ["text"] spRead:=by
 refine D.cal sc_read_path (fun vs H Q E h=>?_) (fun f cdv A outer s H vs Q E hr h=>?_)
 ·obtain⟨t,rfl,_⟩:=h;rfl
 ·obtain⟨t,rfl,hl,k1,k2⟩:=h;obtain⟨_,g_MOST_NAMES⟩:=T.MOST_NAMES;refine⟨_,(q0d (q0j (i:=1) sc_read_path.nd rfl (by trivial) (@bm_k _ _ _ _ _ _ _ _ _ _ _ _ K rfl Cb El Em q3b (pv 0) (q0a q0h q0c) (by rfl) (by rfl) (by rfl) (by rfl) (by rfl))) (q0d (q0v (q0l q3y (q0i (q1m K rfl) (by rfl) T.b_len Bg (q0a (pv 1) q0c)) (q0r (v:=.int 6) (by rfl) g_MOST_NAMES ⟨_,rfl⟩) (nomark _)) (q0f (q0m q1h)) q0k) (q0d (q0v (q2b (@q2d _ _ _ K rfl (q0i (all_k K rfl rfl) (by rfl) T.b_all (by decide +kernel) (q0a (q2h ["name"] [] rfl (@q5c _ _ _ _ K rfl (pv 1)) (fun _ _ _ _ _=>(q0q (i:=0) (show(["name"]:List Str).Nodup by decide +kernel) rfl (by trivial))) (fun _ _ _ _ _=>q3z) (fun _ _ _ _ _=>(pe_c C.is_name hr (q0a (pv 0) q0c)))) q0c)) (fun _=>rfl))) (q0f (q0m q1h)) q0k) (q0f (q0m (q0x (z3u K rfl) (by rfl) T.b_tuple (by decide +kernel) (q0a (pv 1) q0c))))))),?_⟩;have e:=len t;have hsl:=z5d (tl t);have e47:(Ac "/").length=1:=by decide +kernel
  have hsp:(Hm t (Ac "/")).length=(sp (tl t)).length:=by rw[<- q7j,Ad]
  refine⟨_,rfl,rfl,_,_,rfl,rfl,by rw[e47];rfl,small (by lia),small (by lia),?_,fun L hL=>?_⟩
  ·rw[Cs];have:=Ez t (Ac "/") 0 t.length (t.length+1);exact small (by lia)
  rw[split_mk];generalize hH1:upd H L _=H1;have sm1:Same H H1:=by rw[<- hH1];exact(Same.refl H).new hL
  have hL1:H1 L=some (.lst (vN (sp (tl t)))):=by rw[<- hH1];exact q0b
  refine⟨_,rfl,_,_,rfl,.inl ⟨_,SqL.of hL1,rfl⟩,_,_,rfl,rfl,_,rfl,?_⟩;rw[Ad];refine iteB (fun h=>?_) (fun h=>?_)
  ·have h':=of_decide_eq_true h;refine k1 ?_ _ sm1;unfold rp;rw[if_neg];rintro⟨z,_⟩;lia
  have h6:(sp (tl t)).length<=6:=by
   have:=of_decide_eq_false h;lia
  refine⟨_,rfl,.inl ⟨L,rfl,⟨_,SqL.of hL1⟩,fun D hD=>?_⟩⟩;have hLD:L≠D:=q0n hL1 hD;refine q6j (xs:=vN (sp (tl t))) (fun i ys H'=>ys=((sp (tl t)).take i).map (fun n=>V.bl (isName n))/\Same H1 H'/\H' D=some (.lst ys)/\i<=(sp (tl t)).length) ⟨rfl,(Same.refl H1).new hD,q0b,Bo _⟩ (fun i ys H' ⟨_,sm,hHD,_⟩=>⟨hHD,SqL.of (sm _ _ hL1)⟩) ?_ ?_
  ·rintro i ys H' x hx ⟨rfl,sm,hHD,hi⟩;rw[Bk] at hx;obtain⟨n,hn,rfl⟩:=Ci.mp hx;have hi':i<(sp (tl t)).length:=(Ba.mp hn).1;have hnl:=z5p _ _ (Au hn);refine⟨_,rfl,mk n,rfl,by rw[q0o];lia,fun H2 sm2=>⟨sm2 _ _ hHD,small' (by rw[Ad,Bu];lia),?_,(sm.trans sm2).put hD,q0b,hi'⟩⟩;rw[q1y hn,Ap,q0s];rfl
  ·rintro ys H' ⟨rfl,sm,hHD,_⟩;rw[Ad,Cj] at hHD;refine⟨D,(sp (tl t)).map isName,rfl,SqL.of (by rw[Bj];exact hHD),_,rfl,?_⟩;have ea:(((sp (tl t)).map isName).all id)=(sp (tl t)).all isName:=by rw[List.all_map];rfl
   rw[ea];have sm2:Same H H':=sm1.trans sm;cases hb:(sp (tl t)).all isName with
   |false =>
    refine iteT (k1 ?_ _ sm2);unfold rp;rw[if_neg];rintro⟨_,z⟩;rw[hb] at z;cases z
   |true =>
    refine iteF ⟨_,rfl,L,_,rfl,.inl ⟨SqL.of (sm _ _ hL1),fun T' hT'=>?_⟩⟩;refine k2 _ (by unfold rp;rw[if_pos ⟨h6,hb⟩]) T' _ (sm2.free hT') (sm2.new hT') q0b
structure Calls2 (P:Program) (w:World) (K:Ah) (mg:Str->Option Value) (base:Heap):Prop where
 all_of:Cal P w K mg base "all_of" 1 ["text", "signs"] spAllOf
def numOf(l:List Nat):Option Nat:=if aOf l FI=true/\l.length<=10/\dg (Bb l)=l/\Bb l<=1000000000 then some (Bb l) else none
theorem aOf_iff{l s:List Nat}:aOf l s=true↔l≠[]/\∀c∈l,c∈s:=by
 unfold aOf;rw[Et,Cq];exact⟨fun⟨a,b⟩=>⟨of_decide_eq_true a,fun c hc=>of_decide_eq_true (b c hc)⟩,fun⟨a,b⟩=>⟨decide_eq_true a,fun c hc=>decide_eq_true (b c hc)⟩⟩
theorem q7p:∀c∈FI,48<=c/\c<=57:=by decide +kernel
theorem z5q(l:List Nat)(c:Nat):Bb (l++[c])=Bb l*10+(c-48):=by
 unfold Bb;rw[Se];rfl
theorem z5r:∀(n:Nat) (l:List Nat),l.length=n->(∀c∈l,c∈FI)->Bb l<10^n
 |0,l,h,_=>by rw[Lm h];decide
 |n+1,l,h,hf=>by
  have hne:l≠[]:=fun z=>by rw[z] at h;cases h
  obtain⟨i,c,rfl⟩:∃i c,l=i++[c]:=⟨l.dropLast,l.getLast hne,(Fz hne).symm⟩
  rw[Aj,Bt] at h;have h1:=z5r n i (by lia) fun x hx=>hf x (Bw _ hx);have h2:=q7p c (hf c (by simp));rw[z5q,Nat.pow_succ];lia
theorem z9f:∀(n:Nat) (l:List Nat),l.length=n->(∀c∈l,c∈FI)->(∃d r,l=d::r/\d≠48)->1<=Bb l
 |0,l,h,_,⟨d,r,e,_⟩=>by rw[e] at h;cases h
 |n+1,l,h,hf,⟨d,r,e,hd⟩=>by
  have hne:l≠[]:=fun z=>by rw[z] at h;cases h
  obtain⟨i,c,rfl⟩:∃i c,l=i++[c]:=⟨l.dropLast,l.getLast hne,(Fz hne).symm⟩
  rw[Aj,Bt] at h;rw[z5q];cases i with
  |nil =>
   have hc:=q7p c (hf c (by simp));have:c≠48:=by
    have e1:c=d:=by simpa using congrArg List.head? e
    rw[e1];exact hd
   lia
  |cons x xs =>
   have:=z9f n (x::xs) (by lia) (fun y hy=>hf y (Bw _ hy)) ⟨x,xs,rfl,by
    have e1:x=d:=by simpa using congrArg List.head? e
    rw[e1];exact hd⟩
   lia
theorem dg_dv:∀(n:Nat) (l:List Nat),l.length=n->l≠[]->(∀c∈l,c∈FI)->(1<l.length->∃d r,l=d::r/\d≠48)->dg (Bb l)=l
 |0,l,h,hne,_,_=>absurd (Lm h) hne
 |n+1,l,h,hne,hf,h0=>by
  obtain⟨i,c,rfl⟩:∃i c,l=i++[c]:=⟨l.dropLast,l.getLast hne,(Fz hne).symm⟩
  rw[Aj,Bt] at h h0;have hc:=q7p c (hf c (by simp));rw[z5q];cases i with
  |nil =>
   rw[show Bb []*10+(c-48)=c-48 from by show 0*10+_=_;lia,q3c (by lia)];show[48+(c-48)]=[c]
   rw[show 48+(c-48)=c by lia]
  |cons x xs =>
   obtain⟨d,r,e,hd⟩:=h0 (by rw[Aw];lia);have hx:x≠48:=by
    have e1:x=d:=by simpa using congrArg List.head? e
    rw[e1];exact hd
   have hfi:=fun y hy=>hf y (Bw _ hy);have hp:=z9f n (x::xs) (by lia) hfi ⟨x,xs,rfl,hx⟩;have ih:=dg_dv n (x::xs) (by lia) (by simp) hfi fun _=>⟨x,xs,rfl,hx⟩
   rw[q7g (by lia),show(Bb (x::xs)*10+(c-48)) / 10=Bb (x::xs) by lia,show(Bb (x::xs)*10+(c-48))%10=c-48 by lia,ih,show 48+(c-48)=c by lia]
theorem dg_no0{l:List Nat}(h:dg (Bb l)=l):1<l.length->∃d r,l=d::r/\d≠48:=fun hl=>by
 obtain⟨d,r,e,_,h0⟩:=z4d (Bb l);rw[h] at e;refine⟨48+d,r,e,fun z=>?_⟩;have:=(h0 (by lia)).2;rw[e,this] at hl;simp at hl
theorem q7q{t:List Nat}(h0:t≠[])(h:∀c∈t,c∈FI)(hl:t.length<=12):Ph (mk t)=some ((Bb t:Nat):Int):=by
 have e:(mk t).cps.toList=t:=q0s t;have:=PySem.intText_digits (x:=mk t) (by rw[e];exact fun d hd=>q7p d (h d hd)) (by rw[e];exact h0) (by rw[q0o];lia);rw[e] at this;exact this
def spNumber:Sp:=fun vs H Q _=>∃l,vs=[.str (mk l),.int 0,.int 1000000000]/\l.length<=20000/\(numOf l=none->∀H',Same H H'->Q .non H')/\∀n,numOf l=some n->∀H',Same H H'->Q (.int ((n:Nat):Int)) H'
abbrev q2a:Stmt:=top 36
theorem sc_read_number:FnScope ["text", "least", "most", "number"] ["text", "least", "most"] (defScope q2a):=by trivial
theorem q6b(D:Df K mg "read_number" q2a ["text", "least", "most"])(T:Txt mg)(C:Calls2 P w K mg base):Cal P w K mg base "read_number" 2 ["text", "least", "most"] spNumber:=by
 refine D.cal sc_read_number (fun vs H Q E h=>?_) (fun f cdv A outer s H vs Q E hr h=>?_)
 ·obtain⟨n,rfl,_⟩:=h;rfl
 ·obtain⟨l,rfl,hl,kN,kS⟩:=h;obtain⟨_,g_FIGURES⟩:=T.FIGURES;refine⟨_,(q0d (q0v (pt_j (@PW.pt _ _ _ (q2n (q2b (@q2d _ _ _ K rfl (pe_c C.all_of hr (q0a (pv 0) (q0a (q0r (v:=.str (Ac "0123456789")) (by rfl) g_FIGURES ⟨_,rfl⟩) q0c))) (fun _=>rfl))) (q1q (q0l q3y (q0i (q1m K rfl) (by rfl) T.b_len Bg (q0a (pv 0) q0c)) (q0i (q1m K rfl) (by rfl) T.b_len Bg (q0a (q0x q3p (by rfl) T.b_str (by decide +kernel) (q0a (pv 2) q0c)) q0c)) (nomark _)))))) (q0f (q0m q1h)) q0k) (q0d (q0j (i:=3) sc_read_number.nd rfl (by trivial) (q0x q2u (by rfl) T.b_int (by decide +kernel) (q0a (pv 0) q0c))) (q0d (q0v (pt_j (@PW.pt _ _ _ (q2n (q0l (ne_k K rfl hr) (q0x q3p (by rfl) T.b_str (by decide +kernel) (q0a (pv 3) q0c)) (pv 0) (nomark _)) (q2n (q0l z6n (pv 3) (pv 1) (nomark _)) (q1q (q0l q3y (pv 3) (pv 2) (nomark _))))))) (q0f (q0m q1h)) q0k) (q0f (q0m (pv 3)))))),?_⟩;have e10:((Ac (toString (((1000000000:Nat):Int)))).length:Int)=10:=by decide +kernel
  refine⟨fun bb H'=>Same H H'/\bb = !(aOf l FI&&decide (l.length<=10)),?_,?_⟩;rotate_left
  ·refine⟨_,rfl,l,_,rfl,by lia,fun H1 s1=>⟨_,rfl,?_⟩⟩;show if (!aOf l FI)=true then _ else _
   refine ite2 (fun h=>⟨s1,?_⟩) (fun h=>?_)
   ·have:aOf l FI=false:=by simpa using h
    rw[this];rfl
   have ha:aOf l FI=true:=by simpa using h
   refine⟨_,rfl,_,_,rfl,⟨small (by rw[q0o];lia),rfl⟩,_,rfl,1000000000,rfl,by decide,_,_,rfl,⟨by decide +kernel,rfl⟩,?_⟩;refine⟨_,_,rfl,rfl,_,rfl,s1,?_⟩;rw[ha,Er,<- decide_not];refine decide_eq_decide.mpr ?_;show(((mk l).length:Nat):Int)>((Ac (toString (((1000000000:Nat):Int)))).length:Int)↔_;rw[e10,q0o];lia
  rintro bb H1 ⟨s1,rfl⟩;refine ite2 (fun h=>?_) (fun h=>?_)
  ·refine kN ?_ _ s1;unfold numOf;rw[if_neg];rintro⟨a,b,_⟩;rw[a,decide_eq_true b] at h;cases h
  have h':(aOf l FI&&decide (l.length<=10))=true:=by simpa using h
  obtain⟨ha,hb⟩:=Cf.mp h';have hb:=of_decide_eq_true hb;obtain⟨hne,hfi⟩:=aOf_iff.mp ha;have hlt:=z5r l.length l rfl hfi;have hlt:Bb l<10^10:=Be hlt (Lj (by decide) hb);refine⟨_,rfl,.inr ⟨_,((Bb l:Nat):Int),rfl,q7q hne hfi (by lia),by rw[q0o];lia,?_⟩⟩;refine⟨fun bb H'=>H'=H1/\(bb=true->numOf l=none)/\(bb=false->numOf l=some (Bb l)),?_,?_⟩
  ·rintro bb H' ⟨rfl,hT,hF⟩;exact ite2 (fun h=>kN (hT h) _ s1) (fun h=>⟨_,rfl,kS _ (hF (by simpa using h)) _ s1⟩)
  refine⟨_,rfl,Bb l,rfl,by lia,_,rfl,.inl ⟨rfl,_,rfl,?_⟩⟩;rw[q9p];refine ite2 (fun h=>⟨rfl,fun _=>?_,fun z=>(by cases z)⟩) (fun h=>?_)
  ·unfold numOf;rw[if_neg];rintro⟨_,_,c,_⟩;rw[c,decide_eq_true rfl] at h;cases h
  have hd:dg (Bb l)=l:=by
   have:decide (V.str (mk (dg (Bb l)))=V.str (mk l))=true:=by simpa using h
   have:=of_decide_eq_true this;injection this with this;have:=congrArg tl this
   rwa [q0s,q0s] at this
  refine⟨_,rfl,_,rfl,_,_,rfl,rfl,_,rfl,?_⟩;rw[decide_eq_false (by lia)];refine iteF ⟨_,rfl,_,rfl,_,_,rfl,rfl,_,rfl,rfl,fun z=>?_,fun z=>?_⟩
  ·unfold numOf;rw[if_neg];rintro⟨_,_,_,d⟩;have:=of_decide_eq_true z;lia
  ·unfold numOf;rw[if_pos ⟨ha,hb,hd,by have:=of_decide_eq_false z;lia⟩]
abbrev vL(ns:List (List Nat)):List V:=ns.map fun n=>V.str (mk n)
theorem z5s{s:Nat}:∀l:List Nat,PC.sc s l≠[]
 |[]=>by simp[PC.sc]
 |c::l=>by
  unfold PC.sc;split
  ·simp
  ·split<;>simp
theorem q2e{s:Nat}:∀{l x:List Nat},x∈PC.sc s l->x.length<=l.length
 |[],x,h=>by
  have:x=[]:=by simpa[PC.sc] using h
  rw[this];exact Ak _
 |c::l,x,h=>by
  have ih:=fun{y} (hy:y∈PC.sc s l)=>q2e hy;unfold PC.sc at h;split at h
  ·rcases Az.mp h with rfl|h
   ·exact Bo _
   ·exact Dp (ih h)
  ·split at h
   ·rename_i e;exact absurd e (z5s l)
   ·rename_i y ys e;rw[e] at ih;rcases Az.mp h with rfl|h
    ·have:=ih (y:=y) Am;rw[Aw,Aw];lia
    ·exact Dp (ih (Ai _ h))
def DRW:List Nat:=tl (Ac "drawer")
def SLP:List Nat:=tl (Ac "slip")
def rowW:List (List Nat)->Option Rw
 |[a,b]=>if a=DRW then(rp b).map fun q=>(q,none) else none
 |[a,b,c]=>if a=SLP then(numOf c).bind fun n=>(rp b).map fun q=>(q,some (n:Int)) else none
 |_=>none
def rowOf(l:List Nat):Option Rw:=rowW (PC.sc 32 l)
structure CallsRR (P:Program) (w:World) (K:Ah) (mg:Str->Option Value) (base:Heap):Prop where
 read_path:Cal P w K mg base "read_path" 3 ["text"] spRead
 read_number:Cal P w K mg base "read_number" 2 ["text", "least", "most"] spNumber
def spReadRow:Sp:=fun vs H Q _=>∃l,vs=[.str (mk l)]/\l.length<=20000/\(rowOf l=none->∀H',Same H H'->Q .non H')/\∀r,rowOf l=some r->∀T p H',H T=none->Same H H'->H' T=some (.tup [.ref p,mV r.2])->H' p=some (.tup (vP r.1))->Q (.ref T) H'
theorem spc':Ac " " = ⟨#[32]⟩:=by decide +kernel
theorem drw':Ac "drawer" = mk DRW:=(q8g _).symm
theorem slp':Ac "slip" = mk SLP:=(q8g _).symm
theorem q9e(a b:List Nat):decide (V.str (mk a)=V.str (mk b))=decide (a=b):=decide_eq_decide.mpr ⟨fun z=>by
 injection z with z;have:=congrArg tl z
 rwa [q0s,q0s] at this,fun z=>by rw[z]⟩
theorem q5s{ws:List (List Nat)}{i:Nat}{x:List Nat}(h:ws[i]?=some x):atI (vL ws) (i:Int)=some (.str (mk x)):=q9j (by rw[Bk,h];rfl)
theorem z2m(a b:Nat):decide (V.int ((a:Nat):Int)=V.int ((b:Nat):Int))=decide (a=b):=decide_eq_decide.mpr ⟨fun z=>by injection z with z;lia,fun z=>by rw[z]⟩
abbrev q3l:Stmt:=top 43
theorem sc_read_row:FnScope ["line", "words", "mark", "path"] ["line"] (defScope q3l):=by trivial
theorem z0a(D:Df K mg "read_row" q3l ["line"])(T:Txt mg)(C:CallsRR P w K mg base):Cal P w K mg base "read_row" 4 ["line"] spReadRow:=by
 refine D.cal sc_read_row (fun vs H Q E h=>?_) (fun f cdv A outer s H vs Q E hr h=>?_)
 ·obtain⟨l,rfl,_⟩:=h;rfl
 ·obtain⟨l,rfl,hl,kN,kS⟩:=h;obtain⟨_,g_MOST_MARK⟩:=T.MOST_MARK;refine⟨_,(q0d (q0j (i:=1) sc_read_row.nd rfl (by trivial) (@bm_k _ _ _ _ _ _ _ _ _ _ _ _ K rfl Cb El Em q3b (pv 0) (q0a q0h q0c) (by rfl) (by rfl) (by rfl) (by rfl) (by rfl))) (q1j (q0v (pt_j (@PW.pt _ _ _ (q2p (q0l (eq_k K rfl hr) (q0z (ix_k K rfl) (pv 1) q0g (fun _ _=>rfl)) q0h (nomark _)) (q2f (q0l (eq_k K rfl hr) (q0i (q1m K rfl) (by rfl) T.b_len Bg (q0a (pv 1) q0c)) q0g (nomark _)))))) (q0f (q0j (i:=2) sc_read_row.nd rfl (by trivial) q1h)) (q0f (q0v (pt_j (@PW.pt _ _ _ (q2p (q0l (eq_k K rfl hr) (q0z (ix_k K rfl) (pv 1) q0g (fun _ _=>rfl)) q0h (nomark _)) (q2f (q0l (eq_k K rfl hr) (q0i (q1m K rfl) (by rfl) T.b_len Bg (q0a (pv 1) q0c)) q0g (nomark _)))))) (q0d (q0j (i:=2) sc_read_row.nd rfl (by trivial) (pe_c C.read_number hr (q0a (q0z (ix_k K rfl) (pv 1) q0g (fun _ _=>rfl)) (q0a q0g (q0a (q0r (v:=.int 1000000000) (by rfl) g_MOST_MARK ⟨_,rfl⟩) q0c))))) (q0f (q0v (q1p (q3m (pv 2))) (q0f (q0m q1h)) q0k))) (q0f (q0m q1h))))) (q0d (q0j (i:=3) sc_read_row.nd rfl (by trivial) (pe_c C.read_path hr (q0a (q0z (ix_k K rfl) (pv 1) q0g (fun _ _=>rfl)) q0c))) (q0d (q0v (q1p (q3m (pv 3))) (q0f (q0m q1h)) q0k) (q0f (q0m (q1c (q0a (pv 3) (q0a (pv 2) q0c))))))))),?_⟩;have e:=q0o l;have e32:(Ac " ").length=1:=by decide +kernel
  have hscl:=PC.sc_len (s:=32) l;have hsp:(Hm (mk l) (Ac " ")).length<=20001:=by
   rw[spc',<- Ad (f:=tl),PC.split_sc 32 (mk l),q0s];lia
  refine⟨_,rfl,rfl,_,_,rfl,rfl,by rw[e32];rfl,small (by lia),small (by lia),?_,fun L hL=>?_⟩
  ·rw[Cs];have:=Ez (mk l) (Ac " ") 0 (mk l).length ((mk l).length+1);exact small (by lia)
  rw[spc',PC.split_mk 32 (mk l),q0s];have hro:rowOf l=rowW (PC.sc 32 l):=rfl;rw[hro] at kN kS;have hmem:∀x∈PC.sc 32 l,x.length<=20000:=fun x hx=>Bi (q2e hx) hl;have hne:PC.sc 32 l≠[]:=z5s l;generalize PC.sc 32 l=ws at *;obtain⟨a,wr,rfl⟩:∃a r,ws=a::r:=by
   cases ws with
   |nil=>exact absurd rfl hne
   |cons a r=>exact⟨a,r,rfl⟩
  have s1:=(Same.refl H).new (o:=.lst (vL (a::wr))) hL;have h1:upd H L (.lst (vL (a::wr))) L=some (.lst (vL (a::wr))):=q0b;generalize upd H L (.lst (vL (a::wr)))=H1 at s1 h1;refine⟨fun σ' H'=>∃m b,σ'=[some (.str (mk l)),some (.ref L),some (mV m),none]/\Same H1 H'/\wr[0]?=some b/\rowW (a::wr)=(rp b).map fun q=>(q,m),?_,?_⟩
  ·rintro σ' H2 ⟨m,b,rfl,s2,hb,hrw⟩;have s12:=s1.trans s2;rw[hrw] at kN kS;refine⟨_,rfl,.inl ⟨L,_,1,_,rfl,rfl,SqL.of (s2 _ _ h1),q5s (i:=1) (show(a::wr)[1]?=some b from hb),?_⟩⟩;have hbl:=hmem b (Ai _ (Au hb));refine⟨_,rfl,by rw[q0o];lia,fun z H3 s3=>?_,fun ns hns P3 H3 hP3 s3 h3=>?_⟩
   ·rw[q0s] at z;exact⟨_,rfl,_,rfl,iteT (kN (by rw[z];rfl) _ (s12.trans s3))⟩
   ·rw[q0s] at hns;refine⟨_,rfl,_,rfl,iteF ?_⟩;refine⟨_,rfl,_,rfl,by show 2<=sizeLine;decide,fun T4 hT4=>?_⟩;have s4:=(Same.refl H3).new (o:=.tup [.ref P3,mV m]) hT4;exact kS (ns,m) (by rw[hns];rfl) T4 P3 _ ((s12.trans s3).free hT4) ((s12.trans s3).trans s4) q0b (s4 _ _ h3)
  ·have hlen:(vL (a::wr)).length=wr.length+1:=by rw[Ad,Aw]
   refine⟨fun bb H'=>H'=H1/\bb=(decide (a=DRW)&&decide (wr.length=1)),?_,?_⟩;rotate_left
   ·refine⟨_,rfl,.inl ⟨L,_,0,.str (mk a),rfl,rfl,SqL.of h1,q5s (i:=0) rfl,.inl ⟨rfl,_,rfl,?_⟩⟩⟩;rw[drw',q9e];refine iteB (fun h=>?_) (fun h=>⟨rfl,by rw[h];rfl⟩);refine⟨_,rfl,_,_,rfl,.inl ⟨_,SqL.of h1,rfl⟩,.inl ⟨rfl,_,rfl,rfl,?_⟩⟩;rw[h,Er,hlen];refine(z2m (wr.length+1) 2).trans (decide_eq_decide.mpr (by lia))
   rintro bb H' ⟨rfl,rfl⟩;refine ite2 (fun h=>?_) (fun h=>?_)
   ·obtain⟨h2,h3⟩:=Cf.mp h;have h2:=of_decide_eq_true h2;have h3:=of_decide_eq_true h3;obtain⟨b,rfl⟩:∃b,wr=[b]:=by
     match wr,h3 with
     |[b],_=>exact⟨b,rfl⟩
    exact⟨none,b,rfl,Same.refl _,rfl,by show(if a=DRW then _ else _)=_;rw[if_pos h2]⟩
   refine⟨fun bb H2=>H2=H'/\bb=(decide (a=SLP)&&decide (wr.length=2)),?_,?_⟩;rotate_left
   ·refine⟨_,rfl,.inl ⟨L,_,0,.str (mk a),rfl,rfl,SqL.of h1,q5s (i:=0) rfl,.inl ⟨rfl,_,rfl,?_⟩⟩⟩;rw[slp',q9e];refine iteB (fun h=>?_) (fun h=>⟨rfl,by rw[h];rfl⟩);refine⟨_,rfl,_,_,rfl,.inl ⟨_,SqL.of h1,rfl⟩,.inl ⟨rfl,_,rfl,rfl,?_⟩⟩;rw[h,Er,hlen];refine(z2m (wr.length+1) 3).trans (decide_eq_decide.mpr (by lia))
   rintro bb H2 ⟨rfl,rfl⟩;refine ite2 (fun h'=>?_) (fun h'=>?_)
   ·obtain⟨h2,h3⟩:=Cf.mp h';have h2:=of_decide_eq_true h2;have h3:=of_decide_eq_true h3;obtain⟨b,c,rfl⟩:∃b c,wr=[b,c]:=by
     match wr,h3 with
     |[b,c],_=>exact⟨b,c,rfl⟩
    have hrw:rowW [a,b,c]=(numOf c).bind fun n=>(rp b).map fun q=>(q,some (n:Int)):=by show(if a=SLP then _ else _)=_;rw[if_pos h2]
    have hc:=hmem c (by simp);refine⟨_,rfl,.inl ⟨L,_,2,.str (mk c),rfl,rfl,SqL.of h1,rfl,?_⟩⟩;refine⟨c,rfl,by lia,fun z H3 s3=>?_,fun n hn H3 s3=>?_⟩
    ·exact⟨_,rfl,_,rfl,iteT (kN (by rw[hrw,z];rfl) _ (s1.trans s3))⟩
    ·exact⟨_,rfl,_,rfl,iteF ⟨some (n:Int),b,rfl,s3,rfl,by rw[hrw,hn];rfl⟩⟩
   ·refine kN ?_ _ s1;have n1:¬(a=DRW/\wr.length=1):=fun z=>h (by rw[decide_eq_true z.1,decide_eq_true z.2];rfl);have n2:¬(a=SLP/\wr.length=2):=fun z=>h' (by rw[decide_eq_true z.1,decide_eq_true z.2];rfl);match wr with
    |[]=>rfl
    |[b]=>show(if a=DRW then _ else _)=_;rw[if_neg fun z=>n1 ⟨z,rfl⟩]
    |[b,c]=>show(if a=SLP then _ else _)=_;rw[if_neg fun z=>n2 ⟨z,rfl⟩]
    |_::_::_::_=>rfl
def BLD:List Nat:=tl (Ac "blind")
theorem bld:Ac "blind" = mk BLD:=(q8g _).symm
theorem nl:Ac "\n" = ⟨#[10]⟩:=by decide +kernel
def rdR(bl:Bool):List (List Nat)->Nat->List Rw->Sum Nat (List Rw)
 |[],_,acc=>.inr acc
 |x::xs,k,acc=>if k=0/\bl=true then rdR bl xs (k+1) acc else match rowOf x with
  |none=>.inl k
  |some r=>if acc.length=60 then .inl k else rdR bl xs (k+1) (acc++[r])
def lnsOf(l:List Nat):List (List Nat):=if l=[] then[] else PC.sc 10 l
def blOf(ls:List (List Nat)):Bool:=decide (ls.head?=some BLD)
theorem sp_ne:∀l:List Nat,sp l≠[]
 |[]=>by simp[sp]
 |c::l=>by
  unfold sp;split
  ·simp
  ·split<;>simp
theorem rp_ok{b:List Nat}{q:Pth}(h:rp b=some q):okP q:=by
 unfold rp at h;split at h
 ·rename_i z;cases h;refine⟨fun e=>?_,z.1,fun n hn=>?_⟩
  ·have:=sp_ne b;exact this e
  ·have:=Cq.mp z.2 n hn;unfold isName at this;simp only[Et,decide_eq_true_eq,Cq] at this;exact⟨this.1,this.2.1,this.2.2⟩
 ·cases h
theorem z1i{l:List Nat}{r:Rw}(h:rowOf l=some r):okP r.1:=by
 unfold rowOf at h;generalize PC.sc 32 l=ws at h;match ws,h with
 |[a,b],h =>
  have h:(if a=DRW then(rp b).map fun q=>(q,(none:Option Int)) else none)=some r:=h;split at h
  ·obtain⟨q,hq,rfl⟩:=Ci.mp h;exact rp_ok hq
  ·cases h
 |[a,b,c],h =>
  have h:(if a=SLP then(numOf c).bind fun n=>(rp b).map fun q=>(q,some (n:Int)) else none)=some r:=h;split at h
  ·obtain⟨n,_,h⟩:=Option.bind_eq_some_iff.mp h;obtain⟨q,hq,rfl⟩:=Ci.mp h;exact rp_ok hq
  ·cases h
 |[],h=>cases h
 |[_],h=>cases h
 |_::_::_::_::_,h=>cases h
abbrev q1l:Stmt:=inClass (top 16) 0
theorem q3w:FnScope ["self", "line"] ["self", "line"] (defScope q1l):=by trivial
theorem q6c{Cn Dn:Addr}(F:Ef K mg "NoText" Cn Dn "NoText.__init__" q1l ["self", "line"])(g_HallError:mg "HallError" = some (.ref Dn))(S:ESet K Cn "line"):CalE P w K mg base "NoText" Cn 1 ["self", "line"] (spIni1 Cn "line"):=by
 refine F.cal q3w (fun vs H Q E h=>?_) (by decide) (fun mc f cdv A outer s H vs Q E L_low N_ini hr h=>?_)
 ·obtain⟨ea,v,rfl,_⟩:=h;rfl
 ·obtain⟨ea,v,rfl,hE,⟨n,rfl,hn⟩,k⟩:=h;refine⟨_,(q0d (q1z (z8z L_low N_ini rfl g_HallError (q0a (pv 0) (q0a (z4y z1b (z8u (pv 1)) (z1a z1b z4z)) q0c)))) (q0f (z9b K rfl (pv 0) (pv 1)))),?_⟩;have ln:=q8m 12 n (by lia);have l1:(Ac "no text: line ").length<=100:=by decide +kernel
  have l2:(Ac " is wrong").length<=100:=by decide +kernel
  have l0:Od.length=0:=by decide +kernel
  have e1:(Ac (toString (n:Int))).length<=13:=by rw[q9p,q0o];exact ln
  refine⟨_,rfl,TX.small (by rw[q1b];lia),_,rfl,.inr ⟨n,rfl,hn,TX.small (by rw[q1b,q1b];lia),TX.small (by rw[q1b,q1b,q1b];lia),TX.small (by rw[q1b,q1b,q1b];lia),?_⟩⟩;exact⟨ea,_,none,rfl,hE,_,rfl,_,rfl,ea,Cn,rfl,S,.inl ⟨hE,fun d hd hne=>k d hd hne⟩⟩
def RX(H:Hp)(E:XK)(C:Addr)(f:Str)(i:Nat):Prop:=∀ea H',Same H H'->H ea=none->Rfd H' ea C f (.int ((i:Nat):Int))->E (.ref ea) none H'
structure CallsRH (P:Program) (w:World) (K:Ah) (mg:Str->Option Value) (base:Heap) (c Ch Ct:Addr):Prop where
 read_row:Cal P w K mg base "read_row" 4 ["line"] spReadRow
 k_Hall:KCalX P w K mg base c "Hall" 4 ["self", "rows", "blind"] (spInitX c Ch)
 e_NoText:CalE P w K mg base "NoText" Ct 1 ["self", "line"] (spIni1 Ct "line")
def spReadHall(c Ch Ct:Addr):Sp:=fun vs H Q E=>∃l,vs=[.str (mk l)]/\l.length<=20000 /\
 (∀k,rdR (blOf (lnsOf l)) (lnsOf l) 0 []=.inl k->RX H E Ct "line" k) /\
 ∀rows,rdR (blOf (lnsOf l)) (lnsOf l) 0 []=.inr rows->(∀i,Bad (blOf (lnsOf l)) rows i->(∀j,j<i->¬Bad (blOf (lnsOf l)) rows j)->RX H E Ch "at" i) /\
  ((∀i,¬Bad (blOf (lnsOf l)) rows i)->∀h d H',Same H H'->HallAt c H' h d (blOf (lnsOf l)) rows->Q (.ref h) H')
theorem q4f{c x dx:Addr}{H1 H':Hp}(hx:H1 x=none)(hdx:H1 dx=none)(k:∀a u,a≠x->upd (upd H1 dx (.own x)) x (.ins c dx []) a=some u->H' a=some u):Same H1 H':=fun a u e=>k a u (fun z=>by rw[z,hx] at e;cases e) (by
 rw[q0e (fun z=>by rw[z,hx] at e;cases e),q0e (fun z=>by rw[z,hdx] at e;cases e)];exact e)
theorem z1j{c x dx L:Addr}{H1:Hp}{zs:List Zr}(h:RL H1 L zs)(hx:H1 x=none)(hdx:H1 dx=none):RL (upd (upd H1 dx (.own x)) x (.ins c dx [])) L zs:=h.same fun a u e=>by
 rw[q0e (fun z=>by rw[z,hx] at e;cases e),q0e (fun z=>by rw[z,hdx] at e;cases e)];exact e
theorem z5t{α:Type}{l:List α}{i:Nat}{x:α}(h:l[i]?=some x):l.drop i=x::l.drop (i+1):=by
 obtain⟨hi,e⟩:=Ba.mp h;rw[List.drop_eq_getElem_cons hi,e]
abbrev q2x:Stmt:=top 44
theorem sc_read_hall:FnScope ["text", "lines", "blind", "rows", "number", "line", "row"] ["text"] (defScope q2x):=by trivial
set_option maxHeartbeats 40000000 in
theorem q9f{c Ch Ct:Addr}(D:Df K mg "read_hall" q2x ["text"])(T:Txt mg)(C:CallsRH P w K mg base c Ch Ct):CalX P w K mg base "read_hall" 6 ["text"] (spReadHall c Ch Ct):=by
 refine D.calX sc_read_hall (fun vs H Q E h=>?_) (fun f cdv A outer s H vs Q E hr h=>?_)
 ·obtain⟨l,rfl,_⟩:=h;rfl
 ·obtain⟨l,rfl,hlen,kT,kH⟩:=h;obtain⟨_,g_MOST_THINGS⟩:=T.MOST_THINGS;refine⟨_,(q0d (q0v (q0l (eq_k K rfl hr) (pv 0) q0h (nomark _)) (q0f (q0m (pe_kXD C.k_Hall hr accX (q0a (q1d q0c) q0c)))) q0k) (q0d (q0j (i:=1) sc_read_hall.nd rfl (by trivial) (@bm_k _ _ _ _ _ _ _ _ _ _ _ _ K rfl Cb El Em q3b (pv 0) (q0a q0h q0c) (by rfl) (by rfl) (by rfl) (by rfl) (by rfl))) (q0d (q0j (i:=2) sc_read_hall.nd rfl (by trivial) (q1s (eq_k K rfl hr) (q0z (ix_k K rfl) (pv 1) q0g (fun _ _=>rfl)) q0h (nomark _))) (q0d (q0j (i:=3) sc_read_hall.nd rfl (by trivial) (q1d q0c)) (q0d (q2r passDef rfl (@z0o _ _ _ _ _ _ _ _ K rfl rfl T.b_enumerate (q0a (pv 1) q0c) (by rfl)) (@q2t _ _ _ _ (2) _ K rfl rfl (q0t (q0q (i:=4) sc_read_hall.nd rfl (by trivial)) (q0t (q0q (i:=5) sc_read_hall.nd rfl (by trivial)) q1r)) (by rfl) (by rfl)) (q0f (q0v (pt_j (@PW.pt _ _ _ (q2n (q0l q3y (pv 4) q0g (nomark _)) (q1q (q2b (@q2d _ _ _ K rfl (pv 2) (fun _=>rfl))))))) (q0d (q0j (i:=6) sc_read_hall.nd rfl (by trivial) (pe_c C.read_row hr (q0a (pv 5) q0c))) (q0d (q0v (pt_j (@PW.pt _ _ _ (q2n (q1p (q3m (pv 6))) (q1q (q0l (eq_k K rfl hr) (q0i (q1m K rfl) (by rfl) T.b_len Bg (q0a (pv 3) q0c)) (q0r (v:=.int 60) (by rfl) g_MOST_THINGS ⟨_,rfl⟩) (nomark _)))))) (q0f (x0n C.e_NoText hr accX rfl (q0a (pv 4) q0c))) q0k) (q0f (q1z (@bm_k _ _ _ _ _ _ _ _ _ _ _ _ K rfl Ce Dy Dz q1v (pv 3) (q0a (pv 6) q0c) (by rfl) (by rfl) (by rfl) (by rfl) (by rfl)))))) q0k))) (q0f (q0m (pe_kX C.k_Hall hr accX (q0a (pv 3) (q0a (pv 2) q0c)))))))))),?_⟩;refine⟨_,rfl,.inl ⟨rfl,_,rfl,?_⟩⟩;rw[q9z];refine iteB (fun h0=>?_) (fun h0=>?_)
  ·have e0:l=[]:=of_decide_eq_true h0;subst e0;obtain⟨kB,kG⟩:=kH [] rfl;refine⟨by show 0<=sizeLine;decide,fun L hL x dx hx hdx n=>?_⟩;have sL:=(Same.refl H).new (o:=.lst []) hL;refine⟨x,dx,L,false,[],rfl,q0b,z1j (zs:=[]) ⟨q0b,(fun _ h=>nomatch h)⟩ hx hdx,(fun _ h=>nomatch h),by decide,fun hg d H' hd i1 i2 i3=>⟨rfl,?_⟩,fun i hb=>?_⟩
   ·exact kG (fun i ⟨r,hr,_⟩=>by cases hr) x d H' (sL.trans (q4f hx hdx i3)) ⟨⟨dx,i1⟩,i2⟩
   ·obtain⟨r,hr,_⟩:=hb;cases hr
  have hne:l≠[]:=of_decide_eq_false h0;have els:lnsOf l=PC.sc 10 l:=by unfold lnsOf;rw[if_neg hne]
  have hscne:=z5s (s:=10) l;have hscl:=PC.sc_len (s:=10) l;rw[els] at kT kH;have hfew:(PC.sc 10 l).length<=20001:=by lia
  have hall:∀x∈PC.sc 10 l,x.length<=20000:=fun x hx=>Bi (q2e hx) hlen;have e:=q0o l;have e10:(Ac "\n").length=1:=by decide +kernel
  have hsp:(Hm (mk l) (Ac "\n")).length<=20001:=by rw[nl,<- Ad (f:=tl),PC.split_sc 10 (mk l),q0s];lia
  refine⟨_,rfl,rfl,_,_,rfl,rfl,by rw[e10];rfl,small (by lia),small (by lia),?_,fun L hL=>?_⟩
  ·rw[Cs];have:=Ez (mk l) (Ac "\n") 0 (mk l).length ((mk l).length+1);exact small (by lia)
  rw[nl,PC.split_mk 10 (mk l),q0s];generalize PC.sc 10 l=ls at *;have s1:=(Same.refl H).new (o:=.lst (vL ls)) hL;have h1:upd H L (.lst (vL ls)) L=some (.lst (vL ls)):=q0b;generalize upd H L (.lst (vL ls))=H1 at s1 h1;obtain⟨l0,lr,rfl⟩:∃a r,ls=a::r:=by
   cases ls with
   |nil=>exact absurd rfl hscne
   |cons a r=>exact⟨a,r,rfl⟩
  refine⟨_,rfl,.inl ⟨L,_,0,.str (mk l0),rfl,rfl,SqL.of h1,q5s (i:=0) rfl,.inl ⟨rfl,?_⟩⟩⟩;have ebl:decide (V.str (mk l0)=V.str (Ac "blind"))=blOf (l0::lr):=by
   rw[bld,q9e];unfold blOf;refine decide_eq_decide.mpr ⟨fun z=>by rw[z];rfl,fun z=>by injection z⟩
  rw[ebl];generalize hbl:blOf (l0::lr)=bl at *;generalize l0::lr=ls at *;refine⟨by show 0<=sizeLine;decide,fun Lr hLr=>?_⟩;have s2:=(Same.refl H1).new (o:=.lst []) hLr;have hLrH:H Lr=none:=s1.free hLr;have h2:upd H1 Lr (.lst []) L=some (.lst (vL ls)):=s2 _ _ h1;have hLL:L≠Lr:=fun z=>by rw[z,hLr] at h1;cases h1
  have r2:RL (upd H1 Lr (.lst [])) Lr []:=⟨q0b,(fun _ h=>nomatch h)⟩
  have s12:=s1.trans s2;generalize upd H1 Lr (.lst [])=H2 at s2 h2 r2 s12;refine⟨_,rfl,.inr ⟨L,_,rfl,SqL.of h2,?_⟩⟩;refine q3s (fun i σ' H'=>∃x4 x5 x6 zs,σ'=[some (.str (mk l)),some (.ref L),some (.bl bl),some (.ref Lr),x4,x5,x6]/\Same H H'/\RL H' Lr zs/\rdR bl ls 0 []=rdR bl (ls.drop i) i (zs.map (·.2))/\zs.length<=60/\(∀r∈zs.map (·.2),okP r.1)/\H' L=some (.lst (vL ls))) ⟨none,none,none,[],rfl,s12,r2,rfl,by decide,(fun _ h=>nomatch h),h2⟩ (fun i σ' H' x=>by obtain⟨_,_,_,_,_,_,_,_,_,_,x⟩:=x;exact SqL.of x) ?_ ?_
  ·rintro i v T' σ' H' hv ⟨x4,x5,x6,zs,rfl,s3,r3,e3,hz60,okz,h3⟩ hT;obtain⟨x,hll,rfl⟩:∃x,ls[i]?=some x/\v=.str (mk x):=by
    rw[Bk] at hv;obtain⟨x,hx,rfl⟩:=Ci.mp hv;exact⟨x,hx,rfl⟩
   have hi9:i<ls.length:=(Ba.mp hll).1;have sT:=(Same.refl H').new (o:=.tup [.int i,.str (mk x)]) hT;refine⟨T',_,rfl,SqT.of q0b,rfl,_,_,rfl,_,_,rfl,rfl,?_⟩;have s4:=s3.trans sT;have r4:=r3.same sT;have h4:=sT _ _ h3;generalize upd H' T' (.tup [.int i,.str (mk x)])=H4 at sT s4 r4 h4;rw[z5t hll,rdR] at e3;refine⟨fun bb H5=>(bb=true↔0<i\/bl=false)/\H5=H4,?_,?_⟩;rotate_left
   ·refine⟨_,rfl,_,_,rfl,rfl,_,rfl,?_⟩;refine iteB (fun h=>⟨⟨fun _=>.inl (by have:=of_decide_eq_true h;lia),fun _=>rfl⟩,rfl⟩) (fun h=>⟨_,rfl,bl,rfl,⟨?_,rfl⟩⟩);have h':=of_decide_eq_false h;constructor
    ·intro z;exact .inr (by simpa using z)
    ·intro z;rcases z with z|z
     ·exact absurd z (by lia)
     ·rw[z];rfl
   rintro bb H5 ⟨hbb,rfl⟩;refine iteB (fun hb=>?_) (fun hb=>?_)
   ·have hc:¬(i=0/\bl=true):=fun z=>by
     rcases hbb.mp hb with y|y
     ·lia
     ·rw[y] at z;exact absurd z.2 (by decide)
    rw[if_neg hc] at e3;refine⟨_,rfl,x,rfl,hall x (Au hll),fun hN H6 s6=>?_,fun r hS T6 p6 H6 hT6 s6 h6 hp6=>?_⟩
    ·rw[hN] at e3;refine⟨fun bb H7=>bb=true/\H7=H6,?_,⟨_,rfl,_,rfl,iteT ⟨rfl,rfl⟩⟩⟩;rintro bb H7 ⟨rfl,rfl⟩;refine iteT ⟨_,rfl,fun ea hea=>⟨ea,_,rfl,q0b,⟨i,rfl,by lia⟩,fun d hd hne=>⟨rfl,?_⟩⟩⟩;obtain⟨dd,q1,q2⟩:=raised1 (f := "line") (v:=.int ((i:Nat):Int)) hd hne;exact⟨dd,q1,kT i e3 ea _ (q2j (s4.trans s6) hea hd) ((s4.trans s6).free hea) q2⟩
    ·rw[hS] at e3;have r6:=r4.same s6;have e3':rdR bl ls 0 []=if (zs.map (·.2)).length=60 then .inl i else rdR bl (ls.drop (i+1)) (i+1) (zs.map (·.2)++[r]):=e3
     refine⟨fun bb H7=>bb=decide (zs.length=60)/\H7=H6,?_,?_⟩;rotate_left
     ·refine⟨_,rfl,_,rfl,iteF ⟨_,rfl,_,_,rfl,.inl ⟨_,SqL.of r6.at_,rfl⟩,.inl ⟨rfl,_,rfl,?_,rfl⟩⟩⟩;rw[Ad];exact z2m zs.length 60
     rintro bb H7 ⟨rfl,rfl⟩;refine ite2 (fun h=>?_) (fun h=>?_)
     ·have h:=of_decide_eq_true h;rw[Ad,if_pos h] at e3';refine⟨_,rfl,fun ea hea=>⟨ea,_,rfl,q0b,⟨i,rfl,by lia⟩,fun d hd hne=>⟨rfl,?_⟩⟩⟩;obtain⟨dd,q1,q2⟩:=raised1 (f := "line") (v:=.int ((i:Nat):Int)) hd hne;exact⟨dd,q1,kT i e3' ea _ (q2j (s4.trans s6) hea hd) ((s4.trans s6).free hea) q2⟩
     ·have h:zs.length≠60:=fun z=>h (decide_eq_true z);rw[Ad,if_neg h] at e3';refine⟨_,rfl,.inl ⟨rfl,_,SqL.of r6.at_⟩,_,rfl,Lr,_,_,rfl,rfl,r6.at_,by rw[Ad];exact small' (by lia),?_⟩;have tk:∀S xs,H7 S=some (.tup xs)->upd H7 Lr (.lst (zs.map (fun z=>V.ref z.1)++[.ref T6])) S=some (.tup xs):=fun S xs e=>by rw[q0e (fun z=>by rw[z,r6.at_] at e;cases e)];exact e
      refine⟨_,_,_,zs++[(T6,r)],rfl,(s4.trans s6).put hLrH,⟨by rw[q0b,Ap];rfl,fun z hz=>?_⟩,by rw[e3',Ap];rfl,by rw[Aj,Bt];lia,fun q hq=>?_,by rw[q0e hLL];exact s6 _ _ h4⟩
      ·rcases Aq.mp hz with hz|hz
       ·exact PR.same (r6.pr z hz) tk
       ·rw[An.mp hz];exact⟨p6,tk _ _ h6,tk _ _ hp6⟩
      ·rw[Ap] at hq;rcases Aq.mp hq with hq|hq
       ·exact okz q hq
       ·rw[An.mp hq];exact z1i hS
   ·have hc:i=0/\bl=true:=by
     by_cases z:0<i\/bl=false
     ·rw[hbb.mpr z] at hb;cases hb
     ·exact⟨by lia,by cases bl<;>simp_all⟩
    rw[if_pos hc] at e3;exact⟨_,_,_,zs,rfl,s4,r4,e3,hz60,okz,h4⟩
  ·rintro σ' H' ⟨x4,x5,x6,zs,rfl,s3,r3,e3,hz60,okz,h3⟩;rw[Ad,Sy,rdR] at e3;obtain⟨kB,kG⟩:=kH _ e3;refine⟨_,rfl,_,rfl,fun x dx hx hdx n=>?_⟩;refine⟨x,dx,Lr,bl,zs,rfl,q0b,z1j r3 hx hdx,okz,hz60,fun hg d H6 hd i1 i2 i3=>⟨rfl,?_⟩,fun i hb hj ea H6 k6 hea rf=>?_⟩
   ·exact kG hg x d H6 (s3.trans (q4f hx hdx i3)) ⟨⟨dx,i1⟩,i2⟩
   ·intro ea' ez;cases ez;have he:H' ea=none:=by
     cases e:H' ea with
     |none=>rfl
     |some u =>
      have n1:ea≠x:=fun z=>by rw[z,hx] at e;cases e
      have n2:ea≠dx:=fun z=>by rw[z,hdx] at e;cases e
      rw[q0e n1,q0e n2,e] at hea;cases hea
    exact kB i hb hj ea H6 (s3.trans (q4f hx hdx k6)) (s3.free he) rf
end
end K
set_option maxHeartbeats 4000000
namespace K
open PySem L2 TX SB HM PM PC
section
variable{P:Program}{w:World}{K:Ah}{mg:Str->Option Value}{base:Heap}
def wds(r:Rw):List (List Nat):=match r.2 with|none=>[DRW,jn r.1]|some m=>[SLP,jn r.1,dg m.toNat]
def rowT(r:Rw):List Nat:=jc 32 (wds r)
theorem z5u{q:Pth}(h:okP q):∀x∈q,x.length<=12:=fun x hx=>(h.all x hx).few
theorem z5v{q:Pth}(h:okP q):(jn q).length<=78:=by
 have:=z5c (m:=12) (z5u h);have:=h.few;have:q.length*(12+1)<=6*13:=Il _ h.few;lia
theorem q5t(q:Pth):rowT (q,none)=DRW++32::jn q:=rfl
theorem q5u(q:Pth)(m:Int):rowT (q,some m)=SLP++32::(jn q++32::dg m.toNat):=rfl
theorem drw:Ac "drawer " = mk (DRW++[32]):=by decide +kernel
theorem slp:Ac "slip " = mk (SLP++[32]):=by decide +kernel
theorem spc:Ac " " = mk [32]:=by decide +kernel
theorem q2y(a b:List Nat):mk a++mk b=mk (a++b):=ext (by rw[q4j,q0s,q0s,q0s])
theorem z5w{m:Int}(h:okM (some m)):(dg m.toNat).length<=10:=by
 have:=h m rfl;exact q8m 9 _ (by lia)
theorem z8c {r : Rw} (h : okP r.1) (hm : okM r.2) : (rowT r).length ≤ 100 := by
  obtain ⟨q, m⟩ := r;have := z5v h;cases m with
  | none => rw [q5t, Aj, Aw]; have : DRW.length = 6 := by decide +kernel
            simp only at *; lia
  | some m => rw [q5u, Aj, Aw, Aj, Aw]
              have : SLP.length = 4 := by decide +kernel
              have := z5w hm;simp only at *; lia
theorem z8d{ns:List (List Nat)}:PySem.Txt.join (Ac "\n") (ns.map mk)=mk (jc 10 ns):=by rw[nl];exact PC.join_mk 10 ns
theorem z5x(ns:List (List Nat)):(ns.map mk).map V.str=vL ns:=by rw[Bj];rfl
theorem z8e{σ:St}{H:Hp}{Q:Bool->Hp->Prop}(h:Q true H):tIf0 σ H Q:=h
theorem z5y{K:Ah}{L D:Addr}{zs:List Zr}{H1:Hp}{te:TE}{Fin:List V->Hp->Prop}(hL:RL H1 L zs)(hD:H1 D=none)(few:zs.length<=100)(ok:∀z∈zs,okP z.2.1/\okM z.2.2)(he:∀(b:Addr) (q:Pth) (m:Option Int) (H:Hp) (Q:VK),H b=some (.tup (vP q))->okP q->okM m->(∀H',Same H H'->Q (.str (mk (rowT (q,m)))) H')->te [some (.ref b),some (mV m)] H Q)(k:∀H',Same H1 H'->H' D=some (.lst (vL (zs.map fun z=>rowT z.2)))->Fin (vL (zs.map fun z=>rowT z.2)) H'):
  CompW (Itl K L) (gTup K 2 (gCons (gName 0) (gCons (gName 1) gNil))) tIf0 te [none,none] D Fin H1:=by
 refine q4z (xs:=zs.map fun z=>V.ref z.1) (fun i ys H'=>ys=vL ((zs.take i).map fun z=>rowT z.2)/\Same H1 H'/\H' D=some (.lst ys)) ⟨rfl,(Same.refl H1).new hD,q0b⟩ (fun i ys H' x=>⟨x.2.2,SqL.of (x.2.1 _ _ hL.at_)⟩) ?_ ?_
 ·rintro i ys H' v hv ⟨rfl,sm,hHD⟩;obtain⟨z,hz,rfl⟩:=gR0 hv
  have hi:i<zs.length:=(Ba.mp hz).1;obtain⟨b,h1,h2⟩:=hL.pr z (Au hz);replace h1:H1 z.1=some (.tup [.ref b,mV z.2.2]):=h1;replace h2:H1 b=some (.tup (vP z.2.1)):=h2;obtain⟨o1,o2⟩:=ok z (Au hz);refine⟨z.1,_,rfl,SqT.of (sm _ _ h1),rfl,_,_,rfl,_,_,rfl,rfl,q4b,?_⟩;refine z8e (iteT ?_);refine he b z.2.1 z.2.2 H' _ (sm _ _ h2) o1 o2 fun H2 s2=>⟨s2 _ _ hHD,small' (by rw[Ad,Ad,Bu];lia),?_,(sm.trans s2).put hD,q0b⟩
  rw[Dq,hz];show _=vL ((zs.take i++[z]).map fun z=>rowT z.2);rw[Ap];show _=((zs.take i).map (fun z=>rowT z.2)++[rowT z.2]).map _;rw[Ap];rfl
 ·rintro ys H' ⟨rfl,sm,hHD⟩;rw[Ad,Cj] at hHD ⊢;exact k H' sm hHD
def spPathText:Sp:=fun vs H Q _=>∃p q,vs=[.ref p]/\H p=some (.tup (vP q))/\okP q/\∀H',Same H H'->Q (.str (mk (jn q))) H'
theorem sls:Ac "/" = mk [47]:=by decide +kernel
abbrev q2z:Stmt:=top 52
theorem sc_path_text:FnScope ["_law_path", "_law_found", "_law_name_here"] ["_law_path"] (defScope q2z):=by trivial
theorem q9g(D:Df K mg "_law_path_text" q2z ["_law_path"])(T:Txt mg):Cal P w K mg base "_law_path_text" 1 ["_law_path"] spPathText:=by
 refine D.cal sc_path_text (fun vs H Q E h=>?_) (fun f cdv A outer s H vs Q E hr h=>?_)
 ·obtain⟨p,q,rfl,_⟩:=h;rfl
 ·obtain⟨p,q,rfl,hp,ok,k⟩:=h;refine⟨_,(q0d (q0j (i:=1) sc_path_text.nd rfl (by trivial) (q0z (ix_k K rfl) (pv 0) q0g (fun _ _=>rfl))) (q0d (q2r Dv rfl (@q5c _ _ _ _ K rfl (q1i (sl_k K rfl) (pv 0) (q1u q0g) q1t)) (q0q (i:=2) sc_path_text.nd rfl (by trivial)) (q0f (q0j (i:=1) sc_path_text.nd rfl (by trivial) (q0u q0p (q0u q0p (pv 1) q0h) (pv 2))))) (q0f (q0m (pv 1))))),?_⟩;obtain⟨n,r,rfl⟩:∃n r,q=n::r:=by
   cases q with
   |nil=>exact absurd rfl ok.ne
   |cons n r=>exact⟨n,r,rfl⟩
  have hw:¬(HT.sIx (vP (n::r)).length 0 (some ((1:Nat):Int))=0/\HT.sIx (vP (n::r)).length (vP (n::r)).length none=(vP (n::r)).length):=fun z=>by
   have e:=z.1;have e0:HT.sIx (vP (n::r)).length 0 (some ((1:Nat):Int))=min 1 (n::r).length:=by
    show(if ((1:Nat):Int)<0 then(((1:Nat):Int)+((vP (n::r)).length:Int)).toNat else min (((1:Nat):Int)).toNat (vP (n::r)).length)=_;rw[if_neg (by lia),q2m,Eh]
   rw[e0,Aw] at e;lia
  have ec:cutV (vP (n::r)) (some ((1:Nat):Int)) none=vP r:=by
   unfold cutV;have e0:HT.sIx (vP (n::r)).length 0 (some ((1:Nat):Int))=1:=by
    show(if ((1:Nat):Int)<0 then(((1:Nat):Int)+((vP (n::r)).length:Int)).toNat else min (((1:Nat):Int)).toNat (vP (n::r)).length)=_;rw[if_neg (by lia),q2m,Eh,Aw];lia
   have e1:HT.sIx (vP (n::r)).length (vP (n::r)).length none=(vP (n::r)).length:=rfl;rw[e0,e1,q2m,Aw];show((vP (n::r)).drop 1).take (r.length+1-1)=_;show(vP r).take r.length=_;rw[<- q2m r,Cj]
  have hat0:atI (vP (n::r)) 0=some (V.str (mk n)):=q9j (show(vP (n::r))[0]?=some (V.str (mk n)) from rfl);refine⟨_,rfl,.inr (.inl ⟨p,_,0,.str (mk n),rfl,rfl,SqT.of hp,hat0,?_⟩)⟩;refine⟨_,rfl,_,rfl,.inr (.inr ⟨p,_,rfl,SqT.of hp,hw,fun p1 hp1=>?_⟩)⟩;rw[show cutV (vP (n::r)) (some (1:Int)) none=vP r from ec];have s1:=(Same.refl H).new (o:=.tup (vP r)) hp1;have h1:upd H p1 (.tup (vP r)) p1=some (.tup (vP r)):=q0b;generalize upd H p1 (.tup (vP r))=H1 at s1 h1;refine .inr (.inl ⟨p1,rfl,⟨_,SqT.of h1⟩,?_⟩);have hsz:∀i,(jn ((n::r).take (i+1))).length<=100:=fun i=>by
   have h2:=z5c (xs:=(n::r).take (i+1)) (m:=12) fun x hx=>z5u ok x (Fj hx);have h3:((n::r).take (i+1)).length<=6:=by have:=ok.few;rw[Bu];lia
   have h4:((n::r).take (i+1)).length*(12+1)<=6*13:=Il _ h3;lia
  refine z9m (xs:=vP r) (fun i σ' H'=>(∃x,σ'=[some (.ref p),some (.str (mk (jn ((n::r).take (i+1))))),x])/\H'=H1) ⟨⟨none,rfl⟩,rfl⟩ (fun i σ' H' _ x=>by rw[x.2];exact SqT.of h1) ?_ ?_
  ·rintro i x σ' H' hx ⟨⟨y,rfl⟩,rfl⟩;obtain⟨l,hl,rfl⟩:∃l,r[i]?=some l/\x=.str (mk l):=by
    rw[Bk] at hx;cases e:r[i]? with
    |none=>rw[e] at hx;cases hx
    |some z=>rw[e] at hx;cases hx;exact⟨z,rfl,rfl⟩
   have hlz:=z5u ok l (Ai _ (Au hl));have h3:=hsz i;have e5:jn ((n::r).take (i+1+1))=jn ((n::r).take (i+1))++47::l:=by
    have:(n::r).take (i+1+1)=(n::r).take (i+1)++[l]:=by rw[Dq];show _++(r[i]?).toList=_;rw[hl];rfl
    rw[this];exact z5b (by simp) l
   refine⟨_,rfl,.inr (.inl ⟨_,_,rfl,rfl,by rw[q0o,sls,q0o];exact small (by show _+1<=_;lia),?_⟩)⟩;refine⟨_,rfl,.inr (.inl ⟨_,_,rfl,rfl,?_,?_⟩)⟩
   ·rw[sls,q2y,q0o,q0o,Aj];exact small (by show _+1+_<=_;lia)
   ·refine⟨⟨some (.str (mk l)),?_⟩,rfl⟩;rw[sls,q2y,q2y,e5,Fq];rfl
  ·rintro σ' H' ⟨⟨y,rfl⟩,rfl⟩;refine⟨_,rfl,?_⟩;have:=k _ s1;rw[q2m];rw[Cg (by rw[Aw];exact Ak _)];exact this
structure CallsTx (P:Program) (w:World) (K:Ah) (mg:Str->Option Value) (base:Heap):Prop where
 path_text:Cal P w K mg base "_law_path_text" 1 ["_law_path"] spPathText
def spLine:Sp:=fun vs H Q _=>∃p q m,vs=[.ref p,mV m]/\H p=some (.tup (vP q))/\okP q/\okM m/\∀H',Same H H'->Q (.str (mk (rowT (q,m)))) H'
abbrev z0b:Stmt:=top 53
theorem x0r:FnScope ["_law_path", "_law_mark"] ["_law_path", "_law_mark"] (defScope z0b):=by trivial
theorem x0s(D:Df K mg "_law_line" z0b ["_law_path", "_law_mark"])(T:Txt mg)(C:CallsTx P w K mg base):Cal P w K mg base "_law_line" 2 ["_law_path", "_law_mark"] spLine:=by
 refine D.cal x0r (fun vs H Q E h=>?_) (fun f cdv A outer s H vs Q E hr h=>?_)
 ·obtain⟨p,q,m,rfl,_⟩:=h;rfl
 ·obtain⟨p,q,m,rfl,hp,ok,om,k⟩:=h;refine⟨_,(q0d (q0v (q1p (q3m (pv 1))) (q0f (q0m (q0u q0p q0h (pe_c C.path_text hr (q0a (pv 0) q0c))))) q0k) (q0f (q0m (q0u q0p (q0u q0p (q0u q0p q0h (pe_c C.path_text hr (q0a (pv 0) q0c))) q0h) (q0x q3p (by rfl) T.b_str (by decide +kernel) (q0a (pv 1) q0c)))))),?_⟩;have hq:=z5v ok;cases m with
  |none =>
   refine⟨_,rfl,_,rfl,iteT ⟨_,rfl,p,q,rfl,hp,ok,fun H1 s1=>.inr (.inl ⟨_,_,rfl,rfl,?_,?_⟩)⟩⟩
   ·rw[drw,q0o,q0o];have:(DRW++[32]).length=7:=by decide +kernel
    exact small (by lia)
   ·have:=k H1 s1;rw[q5t] at this;rw[drw,q2y,Fq];exact this
  |some m =>
   have hd:=z5w om;obtain⟨m0,m1⟩:=om m rfl;have e4:(SLP++[32]).length=5:=by decide +kernel
   refine⟨_,rfl,_,rfl,iteF ⟨_,rfl,p,q,rfl,hp,ok,fun H1 s1=>.inr (.inl ⟨_,_,rfl,rfl,?_,?_⟩)⟩⟩
   ·rw[slp,q0o,q0o];exact small (by lia)
   rw[slp,q2y];refine .inr (.inl ⟨_,_,rfl,rfl,?_,?_⟩)
   ·rw[spc,q0o,q0o,Aj];exact small (by show _+1<=_;lia)
   rw[spc,q2y];refine⟨_,rfl,m.toNat,by show[V.int m]=_;rw[Int.toNat_of_nonneg m0],by lia,.inr (.inl ⟨_,_,rfl,rfl,?_,?_⟩)⟩
   ·rw[q9p,q0o,q0o,Aj,Aj];exact small (by show _+1+_<=_;lia)
   ·have:=k H1 s1;rw[q5u] at this;rw[q9p,q2y,Fq,Fq,Fq];exact this
end
end K
set_option maxHeartbeats 4000000
namespace K
open PySem L2 TX SB HM PM
section
variable{P:Program}{w:World}{K:Ah}{mg:Str->Option Value}{base:Heap}
theorem nT{b:Bool}(h:(!b)=true):b=false:=by cases b with|false=>rfl|true=>cases h
theorem nF{b:Bool}(h:¬(!b)=true):b=true:=by cases b with|true=>rfl|false=>exact absurd rfl h
theorem flt_nil{l s:List Nat}:(l.filter fun c => !decide (c∈s))=[]↔∀c∈l,c∈s:=by
 rw[List.filter_eq_nil_iff];exact⟨fun h c hc=>by have:=h c hc;simpa using this,fun h c hc=>by simp[h c hc]⟩
theorem flt_pos{l s:List Nat}{f:Nat->V}:decide ((((l.filter fun c => !decide (c∈s)).map f).length:Int)>0) = !(l.all fun c=>decide (c∈s)):=by
 rw[Ad];cases h:l.all fun c=>decide (c∈s) with
 |true =>
  have:(l.filter fun c => !decide (c∈s))=[]:=flt_nil.mpr fun c hc=>of_decide_eq_true (Cq.mp h c hc);rw[this];rfl
 |false =>
  refine decide_eq_true ?_;have h1:(l.filter fun c => !decide (c∈s))≠[]:=fun z=>by
   have:=Cq.mpr fun c hc=>decide_eq_true (flt_nil.mp z c hc);rw[this] at h;cases h
  have:=Ck.mpr h1;lia
theorem z1k{l s:List Nat}{f:Nat->V}{i c:Nat}(h:l[i]?=some c):((l.take (i+1)).filter fun c => !decide (c∈s)).map f=if decide (c∈s)=true then((l.take i).filter fun c => !decide (c∈s)).map f else((l.take i).filter fun c => !decide (c∈s)).map f++[f c]:=by
 rw[q1y h,List.filter_append,Ap];cases e:decide (c∈s)<;>simp[Nx,e]
abbrev q4g:Stmt:=top 55
theorem sc_path_of:FnScope ["_law_word", "_law_signs", "_law_names", "_law_name_here"] ["_law_word"] (defScope q4g):=by trivial
theorem z2n(D:Df K mg "_law_path_of" q4g ["_law_word"])(T:Txt mg):Cal P w K mg base "_law_path_of" 1 ["_law_word"] spRead:=by
 refine D.cal sc_path_of (fun vs H Q E h=>?_) (fun f cdv A outer s H vs Q E hr h=>?_)
 ·obtain⟨t,rfl,_⟩:=h;rfl
 ·obtain⟨t,rfl,hl,k1,k2⟩:=h;refine⟨_,(q0d (q0j (i:=1) sc_path_of.nd rfl (by trivial) q0h) (q0d (q0j (i:=2) sc_path_of.nd rfl (by trivial) (@bm_k _ _ _ _ _ _ _ _ _ _ _ _ K rfl Cb El Em q3b (pv 0) (q0a q0h q0c) (by rfl) (by rfl) (by rfl) (by rfl) (by rfl))) (q0d (q0v (q0l q3y (q0i (q1m K rfl) (by rfl) T.b_len Bg (q0a (pv 2) q0c)) q0g (nomark _)) (q0f (q0m q1h)) q0k) (q0d (q2r Dv rfl (@q5c _ _ _ _ K rfl (pv 2)) (q0q (i:=3) sc_path_of.nd rfl (by trivial)) (q0f (q0v (pt_j (@PW.pt _ _ _ (q2n (q2b (pt_j (z0i z3b z3b q0g (q0i (q1m K rfl) (by rfl) T.b_len Bg (q0a (pv 3) q0c)) q0g))) (q1q (q0l q3y (q0i (q1m K rfl) (by rfl) T.b_len Bg (q0a (q2h ["_law_sign"] [("_law_signs",1)] rfl (@q5c _ _ _ _ K rfl (pv 3)) (fun _ _ _ _ _=>(q0q (i:=0) (show(["_law_sign", "_law_signs"]:List Str).Nodup by decide +kernel) rfl (by trivial))) (fun _ _ _ _ _=>(q7b (q0l (nin_k K rfl) (pv 0) (pv 1) (by with_unfolding_all rfl)))) (fun _ _ _ _ _=>(pv 0))) q0c)) q0g (nomark _)))))) (q0f (q0m q1h)) q0k))) (q0f (q0m (q0x (z3u K rfl) (by rfl) T.b_tuple (by decide +kernel) (q0a (pv 2) q0c)))))))),?_⟩;have e:=len t;have hsl:=z5d (tl t);have e47:(Ac "/").length=1:=by decide +kernel
  have hsp:(Hm t (Ac "/")).length=(sp (tl t)).length:=by rw[<- q7j,Ad]
  refine⟨_,rfl,rfl,_,_,rfl,rfl,by rw[e47];rfl,small (by lia),small (by lia),?_,fun L hL=>?_⟩
  ·rw[Cs];have:=Ez t (Ac "/") 0 t.length (t.length+1);exact small (by lia)
  rw[split_mk];generalize hH1:upd H L _=H1;have sm1:Same H H1:=by rw[<- hH1];exact(Same.refl H).new hL
  have hL1:H1 L=some (.lst (vN (sp (tl t)))):=by rw[<- hH1];exact q0b
  refine⟨_,rfl,_,_,rfl,.inl ⟨_,SqL.of hL1,rfl⟩,_,_,rfl,rfl,_,rfl,?_⟩;rw[Ad];refine iteB (fun h=>?_) (fun h=>?_)
  ·have h':=of_decide_eq_true h;refine k1 ?_ _ sm1;unfold rp;rw[if_neg];rintro⟨z,_⟩;lia
  have h6:(sp (tl t)).length<=6:=by
   have:=of_decide_eq_false h;lia
  refine⟨_,rfl,.inl ⟨L,rfl,⟨_,SqL.of hL1⟩,?_⟩⟩;refine z0h (xs:=vN (sp (tl t))) (fun i σ' H'=>(∃x,σ'=[some (.str t),some (.str NSs),some (.ref L),x])/\Same H1 H'/\∀n∈(sp (tl t)).take i,isName n=true) ⟨⟨none,rfl⟩,Same.refl _,(fun _ h=>nomatch h)⟩ (fun i σ' H' _ x=>SqL.of (x.2.1 _ _ hL1)) ?_ ?_
  ·rintro i x σ' H' hx ⟨⟨y,rfl⟩,sm,hok⟩;rw[Bk] at hx;obtain⟨n,hn,rfl⟩:=Ci.mp hx;have hnl:=z5p _ _ (Au hn);have en:=q0o n;refine⟨fun bb H2=>Same H' H2/\bb = !(isName n),?_,?_⟩;rotate_left
   ·refine⟨fun b2 H2=>H2=H'/\b2=(decide (1<=n.length)&&decide (n.length<=12)),?_,?_⟩;rotate_left
    ·refine⟨_,rfl,_,_,rfl,⟨small (by lia),rfl⟩,_,_,rfl,rfl,_,rfl,?_⟩;refine iteB (fun h=>⟨_,_,rfl,rfl,_,rfl,rfl,?_⟩) (fun h=>⟨_,rfl,rfl,?_⟩)
     ·have h':=of_decide_eq_true h;rw[decide_eq_true (show 1<=n.length by lia),Er];exact decide_eq_decide.mpr (by lia)
     ·have h':=of_decide_eq_false h;rw[decide_eq_false (show ¬1<=n.length by lia)];rfl
    rintro b2 H2 ⟨rfl,rfl⟩;refine ite2 (fun h=>⟨Same.refl _,?_⟩) (fun h=>?_)
    ·unfold isName;have h':(decide (1<=n.length)&&decide (n.length<=12))=false:=nT h;rw[<- Bool.and_assoc,h'];rfl
    have h':(decide (1<=n.length)&&decide (n.length<=12))=true:=nF h;refine⟨_,rfl,.inr (.inr ⟨mk n,rfl,fun D hD=>?_⟩)⟩;refine q7d (fun i ys H3=>ys=((n.take i).filter fun c => !decide (c∈tl NSs)).map (fun c=>V.str ⟨#[c]⟩)/\Same H2 H3/\H3 D=some (.lst ys)/\ys.length<=i) ⟨rfl,(Same.refl H2).new hD,q0b,Bo _⟩ (fun i ys H3 h=>h.2.2.1) ?_ ?_
    ·rintro i ys H3 c hc ⟨rfl,sm3,hHD,hle⟩;have hci:n[i]?=some c:=by have:=get hc;rw[q0s] at this;exact this
     have hi:i<n.length:=(Ba.mp hci).1;refine⟨q2c,_,rfl,_,rfl,.inl ⟨_,_,rfl,rfl,_,rfl,?_⟩⟩;rw[z3x,z1k hci];cases hb:decide (c∈tl NSs) with
     |true=>exact iteF ⟨rfl,sm3,hHD,Dp hle⟩
     |false=>exact iteT ⟨_,rfl,hHD,small' (by lia),rfl,sm3.put hD,q0b,by rw[Aj];exact Gv hle⟩
    ·rintro ys H3 ⟨rfl,sm3,hHD,_⟩;have e3:n.take (mk n).length=n:=by rw[en];exact Cg (Ak _)
     rw[e3] at hHD;refine⟨_,_,rfl,.inl ⟨_,SqL.of hHD,rfl⟩,_,_,rfl,rfl,_,rfl,sm3,?_⟩;refine flt_pos.trans ?_;unfold isName;rw[<- Bool.and_assoc,h'];rfl
   rintro bb H2 ⟨s2,rfl⟩;refine ite2 (fun h=>?_) (fun h=>?_)
   ·refine k1 ?_ _ ((sm1.trans sm).trans s2);unfold rp;rw[if_neg];rintro⟨_,z⟩;have:=Cq.mp z n (Au hn);rw[this] at h;cases h
   ·refine⟨⟨_,rfl⟩,sm.trans s2,fun m hm=>?_⟩;rw[q1y hn] at hm;rcases Aq.mp hm with hm|hm
    ·exact hok m hm
    ·rw[An.mp hm];simpa using h
  ·rintro σ' H' ⟨⟨y,rfl⟩,sm,hok⟩;rw[Ad,Cj] at hok;have sm2:=sm1.trans sm;refine⟨_,rfl,L,_,rfl,.inl ⟨SqL.of (sm _ _ hL1),fun T' hT'=>?_⟩⟩;exact k2 _ (by unfold rp;rw[if_pos ⟨h6,Cq.mpr hok⟩]) T' _ (sm2.free hT') (sm2.new hT') q0b
def spMarkOf:Sp:=fun vs H Q _=>∃l,vs=[.str (mk l)]/\l.length<=20000/\(numOf l=none->∀H',Same H H'->Q .non H')/\∀n,numOf l=some n->∀H',Same H H'->Q (.int ((n:Nat):Int)) H'
abbrev q4h:Stmt:=top 56
theorem z2o:FnScope ["_law_word"] ["_law_word"] (defScope q4h):=by trivial
theorem z2p(D:Df K mg "_law_mark_of" q4h ["_law_word"])(T:Txt mg):Cal P w K mg base "_law_mark_of" 1 ["_law_word"] spMarkOf:=by
 refine D.cal z2o (fun vs H Q E h=>?_) (fun f cdv A outer s H vs Q E hr h=>?_)
 ·obtain⟨n,rfl,_⟩:=h;rfl
 ·obtain⟨l,rfl,hl,kN,kS⟩:=h;refine⟨_,(q0d (q0v (pt_j (@PW.pt _ _ _ (q2n (q2b (pt_j (z0i z3b z3b q0g (q0i (q1m K rfl) (by rfl) T.b_len Bg (q0a (pv 0) q0c)) q0g))) (q1q (q0l q3y (q0i (q1m K rfl) (by rfl) T.b_len Bg (q0a (q2h ["_law_sign"] [] rfl (@q5c _ _ _ _ K rfl (pv 0)) (fun _ _ _ _ _=>(q0q (i:=0) (show(["_law_sign"]:List Str).Nodup by decide +kernel) rfl (by trivial))) (fun _ _ _ _ _=>(q7b (q0l (nin_k K rfl) (pv 0) q0h (by with_unfolding_all rfl)))) (fun _ _ _ _ _=>(pv 0))) q0c)) q0g (nomark _)))))) (q0f (q0m q1h)) q0k) (q0d (q0v (pt_j (@PW.pt _ _ _ (q2n (pt_j (@PW.pt _ _ _ (q2p (q0l (eq_k K rfl hr) (q0z (ix_k K rfl) (pv 0) q0g (fun _ _=>rfl)) q0h (nomark _)) (q2f (q0l q3y (q0i (q1m K rfl) (by rfl) T.b_len Bg (q0a (pv 0) q0c)) q0g (nomark _)))))) (q1q (q0l q3y (q0x q2u (by rfl) T.b_int (by decide +kernel) (q0a (pv 0) q0c)) (q0u z2y q0g q0g) (nomark _)))))) (q0f (q0m q1h)) q0k) (q0f (q0m (q0x q2u (by rfl) T.b_int (by decide +kernel) (q0a (pv 0) q0c)))))),?_⟩;have en:=q0o l;refine⟨fun bb H2=>Same H H2/\bb = !(aOf l FI&&decide (l.length<=10)),?_,?_⟩;rotate_left
  ·refine⟨fun b2 H2=>H2=H/\b2=(decide (1<=l.length)&&decide (l.length<=10)),?_,?_⟩;rotate_left
   ·refine⟨_,rfl,_,_,rfl,⟨small (by lia),rfl⟩,_,_,rfl,rfl,_,rfl,?_⟩;refine iteB (fun h=>⟨_,_,rfl,rfl,_,rfl,rfl,?_⟩) (fun h=>⟨_,rfl,rfl,?_⟩)
    ·have h':=of_decide_eq_true h;rw[decide_eq_true (show 1<=l.length by lia),Er];exact decide_eq_decide.mpr (by lia)
    ·have h':=of_decide_eq_false h;rw[decide_eq_false (show ¬1<=l.length by lia)];rfl
   rintro b2 H2 ⟨rfl,rfl⟩;refine ite2 (fun h=>⟨Same.refl _,?_⟩) (fun h=>?_)
   ·have h':(decide (1<=l.length)&&decide (l.length<=10))=false:=nT h;have:(aOf l FI&&decide (l.length<=10))=false:=by
     cases ha:aOf l FI with
     |false=>rfl
     |true =>
      have hp:=Ck.mpr (aOf_iff.mp ha).1;rw[decide_eq_true (show 1<=l.length from hp)] at h';exact h'
    rw[this];rfl
   have h':(decide (1<=l.length)&&decide (l.length<=10))=true:=nF h;obtain⟨h1,h2⟩:=Cf.mp h';have h1:=of_decide_eq_true h1;refine⟨_,rfl,.inr (.inr ⟨mk l,rfl,fun D hD=>?_⟩)⟩;refine q7d (fun i ys H3=>ys=((l.take i).filter fun c => !decide (c∈tl (Ac "0123456789"))).map (fun c=>V.str ⟨#[c]⟩)/\Same H2 H3/\H3 D=some (.lst ys)/\ys.length<=i) ⟨rfl,(Same.refl H2).new hD,q0b,Bo _⟩ (fun i ys H3 h=>h.2.2.1) ?_ ?_
   ·rintro i ys H3 c hc ⟨rfl,sm3,hHD,hle⟩;have hci:l[i]?=some c:=by have:=get hc;rw[q0s] at this;exact this
    have hi:i<l.length:=(Ba.mp hci).1;refine⟨q2c,_,rfl,.inl ⟨_,_,rfl,rfl,_,rfl,?_⟩⟩;rw[z3x,z1k hci];cases hb:decide (c∈tl (Ac "0123456789")) with
    |true=>exact iteF ⟨rfl,sm3,hHD,Dp hle⟩
    |false=>exact iteT ⟨_,rfl,hHD,small' (by lia),rfl,sm3.put hD,q0b,by rw[Aj];exact Gv hle⟩
   ·rintro ys H3 ⟨rfl,sm3,hHD,_⟩;have e3:l.take (mk l).length=l:=by rw[en];exact Cg (Ak _)
    rw[e3] at hHD;refine⟨_,_,rfl,.inl ⟨_,SqL.of hHD,rfl⟩,_,_,rfl,rfl,_,rfl,sm3,?_⟩;refine flt_pos.trans ?_;rw[h2,Bool.and_true];unfold aOf;rw[decide_eq_true (show ¬l=[] from Ck.mp h1),Er];rfl
  rintro bb H1 ⟨s1,rfl⟩;refine ite2 (fun h=>?_) (fun h=>?_)
  ·refine kN ?_ _ s1;unfold numOf;rw[if_neg];rintro⟨a,b,_⟩;rw[a,decide_eq_true b] at h;cases h
  have h':(aOf l FI&&decide (l.length<=10))=true:=by simpa using h
  obtain⟨ha,hb⟩:=Cf.mp h';have hb:=of_decide_eq_true hb;obtain⟨hne,hfi⟩:=aOf_iff.mp ha;have hlt:=z5r l.length l rfl hfi;have hlt:Bb l<10^10:=Be hlt (Lj (by decide) hb);obtain⟨d,r,hdr⟩:∃d r,l=d::r:=by
   cases l with
   |nil=>exact absurd rfl hne
   |cons d r=>exact⟨d,r,rfl⟩
  refine⟨fun bb H'=>H'=H1/\(bb=true->numOf l=none)/\(bb=false->numOf l=some (Bb l)),?_,?_⟩
  ·rintro bb H' ⟨rfl,hT,hF⟩;refine ite2 (fun h=>kN (hT h) _ s1) (fun h=>?_);exact⟨_,rfl,.inr ⟨_,((Bb l:Nat):Int),rfl,q7q hne hfi (by lia),by rw[q0o];lia,kS _ (hF (by simpa using h)) _ s1⟩⟩
  refine⟨fun b2 H2=>H2=H1/\b2=(decide (d=48)&&decide (1<l.length)),?_,?_⟩;rotate_left
  ·have e48:Ac "0" = ⟨#[48]⟩:=by decide +kernel
   refine⟨_,rfl,.inr (.inr ⟨mk l,0,d,rfl,rfl,small (by lia),?_,.inl ⟨rfl,_,rfl,?_⟩⟩)⟩
   ·show atI (tl (mk l)) 0=_;rw[q0s,hdr];exact q9j (j:=0) (show(d::r)[0]?=some d from rfl)
   have ed:decide (V.str ⟨#[d]⟩=V.str (Ac "0"))=decide (d=48):=by
    rw[e48];exact decide_eq_decide.mpr ⟨fun z=>by injection z with z;injection z with z;injection z with z;injection z,fun z=>by rw[z]⟩
   rw[ed];refine iteB (fun hd=>?_) (fun hd=>⟨rfl,by rw[hd];rfl⟩);refine⟨_,rfl,_,_,rfl,⟨small (by lia),rfl⟩,_,_,rfl,rfl,_,rfl,rfl,?_⟩;rw[hd,Er];exact decide_eq_decide.mpr (by lia)
  rintro b2 H2 ⟨rfl,rfl⟩;refine ite2 (fun h=>⟨rfl,fun _=>?_,fun z=>(by cases z)⟩) (fun h=>?_)
  ·obtain⟨h1,h2⟩:=Cf.mp h;have h1:=of_decide_eq_true h1;have h2:=of_decide_eq_true h2;unfold numOf;rw[if_neg];rintro⟨_,_,c,_⟩;obtain⟨d',r',e,hd'⟩:=dg_no0 c h2;rw[hdr] at e;cases e;exact hd' h1
  have hd:dg (Bb l)=l:=dg_dv l.length l rfl hne hfi fun h1=>⟨d,r,hdr,fun z=>h (by rw[decide_eq_true z,decide_eq_true h1];rfl)⟩
  refine⟨_,rfl,.inr ⟨_,((Bb l:Nat):Int),rfl,q7q hne hfi (by lia),by rw[q0o];lia,?_⟩⟩;refine⟨_,_,rfl,rfl,⟨by decide,by decide,by decide⟩,_,_,rfl,rfl,_,rfl,rfl,fun z=>?_,fun z=>?_⟩
  ·unfold numOf;rw[if_neg];rintro⟨_,_,_,d⟩;have z:=of_decide_eq_true z;have e9:((10:Int)^(9:Int).toNat)=1000000000:=by decide
   rw[e9] at z;lia
  ·have z:=of_decide_eq_false z;have e9:((10:Int)^(9:Int).toNat)=1000000000:=by decide
   rw[e9] at z;unfold numOf;rw[if_pos ⟨ha,hb,hd,by lia⟩]
structure CallsRo (P:Program) (w:World) (K:Ah) (mg:Str->Option Value) (base:Heap):Prop where
 path_of:Cal P w K mg base "_law_path_of" 1 ["_law_word"] spRead
 mark_of:Cal P w K mg base "_law_mark_of" 1 ["_law_word"] spMarkOf
abbrev q5v:Stmt:=top 57
theorem sc_row_of:FnScope ["_law_line_here", "_law_words"] ["_law_line_here"] (defScope q5v):=by trivial
theorem z5z(D:Df K mg "_law_row_of" q5v ["_law_line_here"])(T:Txt mg)(C:CallsRo P w K mg base):Cal P w K mg base "_law_row_of" 2 ["_law_line_here"] spReadRow:=by
 refine D.cal sc_row_of (fun vs H Q E h=>?_) (fun f cdv A outer s H vs Q E hr h=>?_)
 ·obtain⟨l,rfl,_⟩:=h;rfl
 ·obtain⟨l,rfl,hl,kN,kS⟩:=h;refine⟨_,(q0d (q0j (i:=1) sc_row_of.nd rfl (by trivial) (@bm_k _ _ _ _ _ _ _ _ _ _ _ _ K rfl Cb El Em q3b (pv 0) (q0a q0h q0c) (by rfl) (by rfl) (by rfl) (by rfl) (by rfl))) (q0d (q0v (pt_j (@PW.pt _ _ _ (q2p (q0l (eq_k K rfl hr) (q0z (ix_k K rfl) (pv 1) q0g (fun _ _=>rfl)) q0h (nomark _)) (q2p (q0l (eq_k K rfl hr) (q0i (q1m K rfl) (by rfl) T.b_len Bg (q0a (pv 1) q0c)) q0g (nomark _)) (q2f (q1p (q6w (pe_c C.path_of hr (q0a (q0z (ix_k K rfl) (pv 1) q0g (fun _ _=>rfl)) q0c))))))))) (q0f (q0m (q1c (q0a (pe_c C.path_of hr (q0a (q0z (ix_k K rfl) (pv 1) q0g (fun _ _=>rfl)) q0c)) (q0a q1h q0c))))) q0k) (q1j (q0v (pt_j (@PW.pt _ _ _ (q2p (q0l (eq_k K rfl hr) (q0z (ix_k K rfl) (pv 1) q0g (fun _ _=>rfl)) q0h (nomark _)) (q2p (q0l (eq_k K rfl hr) (q0i (q1m K rfl) (by rfl) T.b_len Bg (q0a (pv 1) q0c)) q0g (nomark _)) (q2f (q1p (q6w (pe_c C.path_of hr (q0a (q0z (ix_k K rfl) (pv 1) q0g (fun _ _=>rfl)) q0c))))))))) (q0f (q0v (q1p (q6w (pe_c C.mark_of hr (q0a (q0z (ix_k K rfl) (pv 1) q0g (fun _ _=>rfl)) q0c)))) (q0f (q0m (q1c (q0a (pe_c C.path_of hr (q0a (q0z (ix_k K rfl) (pv 1) q0g (fun _ _=>rfl)) q0c)) (q0a (pe_c C.mark_of hr (q0a (q0z (ix_k K rfl) (pv 1) q0g (fun _ _=>rfl)) q0c)) q0c))))) q0k)) q0k) (q0f (q0m q1h))))),?_⟩;have e:=q0o l;have e32:(Ac " ").length=1:=by decide +kernel
  have hscl:=PC.sc_len (s:=32) l;have hsp:(Hm (mk l) (Ac " ")).length<=20001:=by
   rw[spc',<- Ad (f:=tl),PC.split_sc 32 (mk l),q0s];lia
  refine⟨_,rfl,rfl,_,_,rfl,rfl,by rw[e32];rfl,small (by lia),small (by lia),?_,fun L hL=>?_⟩
  ·rw[Cs];have:=Ez (mk l) (Ac " ") 0 (mk l).length ((mk l).length+1);exact small (by lia)
  rw[spc',PC.split_mk 32 (mk l),q0s];have hro:rowOf l=rowW (PC.sc 32 l):=rfl;rw[hro] at kN kS;have hmem:∀x∈PC.sc 32 l,x.length<=20000:=fun x hx=>Bi (q2e hx) hl;have hne:PC.sc 32 l≠[]:=z5s l;generalize PC.sc 32 l=ws at *;obtain⟨a,wr,rfl⟩:∃a r,ws=a::r:=by
   cases ws with
   |nil=>exact absurd rfl hne
   |cons a r=>exact⟨a,r,rfl⟩
  have s1:=(Same.refl H).new (o:=.lst (vL (a::wr))) hL;have h1:upd H L (.lst (vL (a::wr))) L=some (.lst (vL (a::wr))):=q0b;generalize upd H L (.lst (vL (a::wr)))=H1 at s1 h1;have hlen:(vL (a::wr)).length=wr.length+1:=by rw[Ad,Aw]
  refine⟨fun bb H'=>Same H1 H'/\(bb=true↔∃b q,a=DRW/\wr=[b]/\rp b=some q),?_,?_⟩;rotate_left
  ·refine⟨_,rfl,.inl ⟨L,_,0,.str (mk a),rfl,rfl,SqL.of h1,q5s (i:=0) rfl,.inl ⟨rfl,_,rfl,?_⟩⟩⟩;rw[drw',q9e];refine iteB (fun h=>?_) (fun h=>⟨Same.refl _,⟨fun z=>(by cases z),fun⟨_,_,z,_⟩=>absurd z (of_decide_eq_false h)⟩⟩);have hD:=of_decide_eq_true h;refine⟨_,rfl,_,_,rfl,.inl ⟨_,SqL.of h1,rfl⟩,.inl ⟨rfl,_,rfl,?_⟩⟩;rw[hlen,show decide (V.int ((wr.length+1:Nat):Int)=V.int 2)=decide (wr.length=1) from(z2m (wr.length+1) 2).trans (decide_eq_decide.mpr (by lia))];refine iteB (fun h=>?_) (fun h=>⟨Same.refl _,⟨fun z=>(by cases z),fun⟨_,_,_,z,_⟩=>absurd (by rw[z];rfl) (of_decide_eq_false h)⟩⟩);have h3:=of_decide_eq_true h;obtain⟨b,rfl⟩:∃b,wr=[b]:=by
    match wr,h3 with
    |[b],_=>exact⟨b,rfl⟩
   have hbl:=hmem b (by simp);refine⟨_,rfl,.inl ⟨L,_,1,.str (mk b),rfl,rfl,SqL.of h1,q5s (i:=1) rfl,?_⟩⟩;refine⟨_,rfl,by rw[q0o];lia,fun z H3 s3=>⟨_,rfl,s3,⟨fun z=>absurd z (by decide),fun⟨_,_,_,y,y2⟩=>?_⟩⟩,fun ns hns P3 H3 hP3 s3 h3=>⟨_,rfl,s3,⟨fun _=>⟨b,ns,hD,rfl,?_⟩,fun _=>rfl⟩⟩⟩
   ·cases y;rw[q0s] at z;rw[z] at y2;cases y2
   ·rw[q0s] at hns;exact hns
  rintro bb H2 ⟨s2,hbb⟩;have s12:=s1.trans s2;refine ite2 (fun h=>?_) (fun h=>?_)
  ·obtain⟨b,q,hD,rfl,hq⟩:=hbb.mp h;have hbl:=hmem b (by simp);have hrw:rowW [a,b]=some (q,none):=by show(if a=DRW then _ else _)=_;rw[if_pos hD,hq];rfl
   refine⟨_,rfl,.inl ⟨L,_,1,.str (mk b),rfl,rfl,SqL.of (s2 _ _ h1),q5s (i:=1) rfl,?_⟩⟩;refine⟨_,rfl,by rw[q0o];lia,fun z=>?_,fun ns hns P3 H3 hP3 s3 h3=>?_⟩
   ·rw[q0s,hq] at z;cases z
   rw[q0s,hq] at hns;cases hns;refine⟨by show 2<=sizeLine;decide,fun T4 hT4=>?_⟩;have s4:=(Same.refl H3).new (o:=.tup [.ref P3,mV none]) hT4;exact kS (q,none) hrw T4 P3 _ ((s12.trans s3).free hT4) ((s12.trans s3).trans s4) q0b (s4 _ _ h3)
  have nD:¬∃b q,a=DRW/\wr=[b]/\rp b=some q:=fun z=>h (hbb.mpr z);refine⟨fun σ' H'=>σ'=[some (.str (mk l)),some (.ref L)]/\Same H2 H'/\rowW (a::wr)=none,?_,?_⟩
  ·rintro σ' H' ⟨rfl,s',hn⟩;exact kN hn _ (s12.trans s')
  refine⟨fun bb H'=>Same H2 H'/\(bb=true↔∃b c q,a=SLP/\wr=[b,c]/\rp b=some q),?_,?_⟩;rotate_left
  ·refine⟨_,rfl,.inl ⟨L,_,0,.str (mk a),rfl,rfl,SqL.of (s2 _ _ h1),q5s (i:=0) rfl,.inl ⟨rfl,_,rfl,?_⟩⟩⟩;rw[slp',q9e];refine iteB (fun h=>?_) (fun h=>⟨Same.refl _,⟨fun z=>(by cases z),fun⟨_,_,_,z,_⟩=>absurd z (of_decide_eq_false h)⟩⟩);have hD:=of_decide_eq_true h;refine⟨_,rfl,_,_,rfl,.inl ⟨_,SqL.of (s2 _ _ h1),rfl⟩,.inl ⟨rfl,_,rfl,?_⟩⟩;rw[hlen,show decide (V.int ((wr.length+1:Nat):Int)=V.int 3)=decide (wr.length=2) from(z2m (wr.length+1) 3).trans (decide_eq_decide.mpr (by lia))];refine iteB (fun h=>?_) (fun h=>⟨Same.refl _,⟨fun z=>(by cases z),fun⟨_,_,_,_,z,_⟩=>absurd (by rw[z];rfl) (of_decide_eq_false h)⟩⟩);have h3:=of_decide_eq_true h;obtain⟨b,c,rfl⟩:∃b c,wr=[b,c]:=by
    match wr,h3 with
    |[b,c],_=>exact⟨b,c,rfl⟩
   have hbl:=hmem b (by simp);refine⟨_,rfl,.inl ⟨L,_,1,.str (mk b),rfl,rfl,SqL.of (s2 _ _ h1),q5s (i:=1) rfl,?_⟩⟩;refine⟨_,rfl,by rw[q0o];lia,fun z H3 s3=>⟨_,rfl,s3,⟨fun z=>absurd z (by decide),fun⟨_,_,_,_,y,y2⟩=>?_⟩⟩,fun ns hns P3 H3 hP3 s3 h3=>⟨_,rfl,s3,⟨fun _=>⟨b,c,ns,hD,rfl,?_⟩,fun _=>rfl⟩⟩⟩
   ·cases y;rw[q0s] at z;rw[z] at y2;cases y2
   ·rw[q0s] at hns;exact hns
  rintro bb H3 ⟨s3,hb3⟩;refine ite2 (fun h=>?_) (fun h=>?_)
  ·obtain⟨b,c,q,hD,rfl,hq⟩:=hb3.mp h;have hbl:=hmem b (by simp);have hcl:=hmem c (by simp);have hrw:rowW [a,b,c]=(numOf c).map fun n=>(q,some (n:Int)):=by
    show(if a=SLP then _ else _)=_;rw[if_pos hD,hq];cases numOf c<;>rfl
   have h13:=s3 _ _ (s2 _ _ h1);refine⟨_,rfl,.inl ⟨L,_,2,.str (mk c),rfl,rfl,SqL.of h13,rfl,?_⟩⟩;refine⟨c,rfl,by lia,fun z H4 s4=>⟨_,rfl,iteF ⟨rfl,s3.trans s4,by rw[hrw,z];rfl⟩⟩,fun n hn H4 s4=>⟨_,rfl,iteT ?_⟩⟩;refine⟨_,rfl,.inl ⟨L,_,1,.str (mk b),rfl,rfl,SqL.of (s4 _ _ h13),q5s (i:=1) rfl,?_⟩⟩;refine⟨_,rfl,by rw[q0o];lia,fun z=>?_,fun ns hns P5 H5 hP5 s5 h5=>?_⟩
   ·rw[q0s,hq] at z;cases z
   rw[q0s,hq] at hns;cases hns;refine⟨_,rfl,.inl ⟨L,_,2,.str (mk c),rfl,rfl,SqL.of (s5 _ _ (s4 _ _ h13)),rfl,?_⟩⟩;refine⟨c,rfl,by lia,fun z=>?_,fun n' hn' H6 s6=>?_⟩
   ·rw[hn] at z;cases z
   rw[hn] at hn';cases hn';refine⟨by show 2<=sizeLine;decide,fun T7 hT7=>?_⟩;have s7:=(Same.refl H6).new (o:=.tup [.ref P5,mV (some (n:Int))]) hT7;have sA:=(((s12.trans s3).trans s4).trans s5).trans s6;exact kS (q,some (n:Int)) (by rw[hrw,hn];rfl) T7 P5 _ (sA.free hT7) (sA.trans s7) q0b (s7 _ _ (s6 _ _ h5))
  ·have n3:¬∃b c q,a=SLP/\wr=[b,c]/\rp b=some q:=fun z=>h (hb3.mpr z);refine⟨rfl,s3,?_⟩;match wr with
   |[]=>rfl
   |[b] =>
    show(if a=DRW then _ else _)=_;by_cases hD:a=DRW
    ·rw[if_pos hD];cases hq:rp b with
     |none=>rfl
     |some q=>exact absurd ⟨b,q,hD,rfl,hq⟩ nD
    ·rw[if_neg hD]
   |[b,c] =>
    show(if a=SLP then _ else _)=_;by_cases hD:a=SLP
    ·rw[if_pos hD];cases hq:rp b with
     |none=>cases numOf c<;>rfl
     |some q=>exact absurd ⟨b,c,q,hD,rfl,hq⟩ n3
    ·rw[if_neg hD]
   |_::_::_::_=>rfl
theorem z6a(xs:List V)(n:Nat):cutV xs none (some (n:Int))=xs.take n:=by
 unfold cutV;have e0:HT.sIx xs.length 0 none=0:=rfl;have e1:HT.sIx xs.length xs.length (some (n:Int))=min n xs.length:=by
  show(if (n:Int)<0 then((n:Int)+(xs.length:Int)).toNat else min ((n:Int)).toNat xs.length)=_;rw[if_neg (by lia),Eh]
 rw[e0,e1,List.drop_zero,Rf,<- List.take_take,Cj]
theorem z6b(xs:List V)(n:Nat)(h:n<=xs.length):cutV xs (some (n:Int)) none=xs.drop n:=by
 unfold cutV;have e0:HT.sIx xs.length 0 (some (n:Int))=n:=by
  show(if (n:Int)<0 then((n:Int)+(xs.length:Int)).toNat else min ((n:Int)).toNat xs.length)=_;rw[if_neg (by lia),Eh];lia
 have e1:HT.sIx xs.length xs.length none=xs.length:=rfl;rw[e0,e1,Cg (by rw[Dj];lia)]
theorem z6c{l:List Nat}{j:Int}(h0:0<=j):Tw (mk l) none (some j)=mk (l.take j.toNat):=by
 by_cases h:j<=(l.length:Int)
 ·rw[z0n h0 (by rw[q0s];exact h),q0s]
 ·have e:Cw (mk l) none (some j)=Cw (mk l) none (some (((mk l).length:Nat):Int)):=by
   unfold Cw;rw[q7f none (mk l).length (j:=j) (by rw[q0o];lia)]
  show Cw (mk l) none (some j)=_;rw[e];have z:=z0n (x:=mk l) (j:=(((mk l).length:Nat):Int)) (by lia) (by rw[q0o,q0s];exact Kh _);refine z.trans ?_;rw[q0s,q0o,Cg (by lia),Cg (by lia)]
theorem z0c(u:Option Int)(len:Nat){j:Int}(h:(len:Int)<=j):De (some j) u 1 len=De (some (len:Int)) u 1 len:=by
 have a:¬(j<0):=by lia
 have b:¬((len:Int)<0):=by lia
 have c:min j (len:Int)=(len:Int):=by lia
 simp[De,a,b,c]
theorem z0d{l:List Nat}{j:Int}(h0:0<=j):Tw (mk l) (some j) none=mk (l.drop j.toNat):=by
 by_cases h:j<=(l.length:Int)
 ·rw[q6k h0 (by rw[q0s];exact h),q0s]
 ·have e:Cw (mk l) (some j) none=Cw (mk l) (some (((mk l).length:Nat):Int)) none:=by
   unfold Cw;rw[z0c none (mk l).length (j:=j) (by rw[q0o];lia)]
  show Cw (mk l) (some j) none=_;rw[e];have z:=q6k (x:=mk l) (i:=(((mk l).length:Nat):Int)) (by lia) (by rw[q0o,q0s];exact Kh _)
  refine z.trans ?_;rw[q0s,q0o,Oy (by lia),Oy (by lia)]
theorem z8f{q:Pth}(h:okP q){n:List Nat}(hn:okN n):okP (q.dropLast++[n]):=by
 have h1:=Ck.mpr h.ne;refine⟨by simp,by rw[Aj,Ii];have:=h.few;show _+1<=_;lia,fun x hx=>?_⟩;rcases Aq.mp hx with z|z
 ·exact h.all x (Qe _ z)
 ·rw[An.mp z];exact hn
theorem z6d{H:Hp}{q:Pth}:∀{xs:List (Addr×Pth)},(∀x∈xs,H x.1=some (.tup (vP x.2))/\Low x.2)->(xs.map (·.1)).any (inP H q)=decide (q∈xs.map (·.2))
 |[],_=>rfl
 |x::xs,h=>by
  rw[Ao,Mp,z9c (h x Am).1,z6d fun y hy=>h y (Ai _ hy),Ao,<- Bool.decide_or];refine decide_eq_decide.mpr ?_;rw[Az];exact⟨fun z=>z.imp Eq.symm id,fun z=>z.imp Eq.symm id⟩
theorem z1l{neg:Bool}{H:Hp}{p L:Addr}{xs:List (Addr×Pth)}{q:Pth}{Q:VK}(hL:H L=some (.lst (xs.map fun x=>V.ref x.1)))(hx:∀x∈xs,H x.1=some (.tup (vP x.2))/\Low x.2)(hp:H p=some (.tup (vP q)))(lq:Low q)(k:Q (.bl (if neg then !decide (q∈xs.map (·.2)) else decide (q∈xs.map (·.2)))) H):rInP neg (.ref p) (.ref L) H Q:=by
 refine⟨p,L,xs.map (·.1),q,rfl,rfl,by rw[hL,Bj];rfl,hp,lq,fun b hb=>?_,?_⟩
 ·obtain⟨x,h1,rfl⟩:=Ay.mp hb;exact⟨_,hx x h1⟩
 ·rw[z6d hx];exact k
theorem z1m{bl:Bool}{q:Pth}(h:okP q):okP (fold bl q):=by
 cases bl with
 |false=>exact h
 |true=>rw[z0t];exact z8f h (q5o h).lo
theorem z6e:∀{ls:List (List Nat)},(∀x∈ls,∀c∈x,c<128)->Fo ((ls.map mk).map PyData.str)=true
 |[],_=>rfl
 |a::r,h=>by
  rw[Ao,Ao];simp only[Fo,Gr,z7a (h a Am),z6e (ls:=r) fun x hx=>h x (Ai _ hx),Bool.and_self]
theorem z9g:∀ls:List (List Nat),Gi ((ls.map mk).map PyData.str)<=1
 |[]=>by simp[Gi]
 |a::r=>by
  have:=z9g r;rw[Ao,Ao];simp only[Gi,Li];lia
theorem dep_l(ls:List (List Nat)):(PyData.list ((ls.map mk).map PyData.str)).depth<=100:=by
 have:=z9g ls;simp only[Li];lia
theorem bl_eq(ls:List (List Nat)):Ds (.list (((ls.take 1).map mk).map PyData.str)) (.list [.str (Ac "blind")])=blOf ls:=by
 cases ls with
 |nil=>simp[Ds,Ep,blOf]
 |cons a r =>
  have e:blOf (a::r)=decide (mk a=Ac "blind"):=by
   unfold blOf;rw[bld];refine decide_eq_decide.mpr ⟨fun z=>?_,fun z=>?_⟩
   ·injection z with z;rw[z]
   ·have:=congrArg tl z;rw[q0s,q0s] at this;rw[this];rfl
  rw[e];simp[Ds,Ep];exact Iy.mpr (by rw[beq_iff_eq,decide_eq_true_iff])
theorem z9h{s:Nat}:∀{l x:List Nat} {c:Nat},x∈PC.sc s l->c∈x->c∈l
 |[],x,c,h,hc=>by
  have:x=[]:=by simpa[PC.sc] using h
  rw[this] at hc;cases hc
 |d::l,x,c,h,hc=>by
  have ih:=fun{y} (hy:y∈PC.sc s l) (hcy:c∈y)=>z9h hy hcy;unfold PC.sc at h;split at h
  ·rcases Az.mp h with rfl|h
   ·cases hc
   ·exact Ai _ (ih h hc)
  ·split at h
   ·rename_i e;exact absurd e (z5s l)
   ·rename_i y ys e;rw[e] at ih;rcases Az.mp h with rfl|h
    ·rcases Az.mp hc with rfl|hc
     ·exact Am
     ·exact Ai _ (ih Am hc)
    ·exact Ai _ (ih (Ai _ h) hc)
structure CallsDu (P:Program) (w:World) (K:Ah) (mg:Str->Option Value) (base:Heap):Prop where
 folded:Cal P w K mg base "_law_folded" 1 ["_law_path", "_law_blind"] spFolded
 row_of:Cal P w K mg base "_law_row_of" 2 ["_law_line_here"] spReadRow
def spDue:Sp:=fun vs H Q _=>∃l,vs=[.str (mk l)]/\l.length<=20000/\(∀c∈l,c<128) /\
 (∀k:Nat,rdR (blOf (lnsOf l)) (lnsOf l) 0 []=.inl k->∀T H',Same H H'->H' T=some (.tup [.str (Ac "text"),.int (k:Int)])->Q (.ref T) H') /\
 ∀rows,rdR (blOf (lnsOf l)) (lnsOf l) 0 []=.inr rows->(∀i:Nat,Bad (blOf (lnsOf l)) rows i->(∀j,j<i->¬Bad (blOf (lnsOf l)) rows j)->∀T H',Same H H'->H' T=some (.tup [.str (Ac "hall"),.int (i:Int)])->Q (.ref T) H') /\
  ((∀i,¬Bad (blOf (lnsOf l)) rows i)->∀T T2 L zs H',Same H H'->H' T=some (.tup [.str (Ac "right"),.ref T2])->H' T2=some (.tup [.ref L,.bl (blOf (lnsOf l))])->RL H' L zs->zs.map (·.2)=rows->(∀r∈rows,okP r.1)->rows.length<=60->Q (.ref T) H')
abbrev z6f:Stmt:=top 58
theorem sc_due:FnScope ["_law_text", "_law_lines", "_law_blind", "_law_rows_here", "_law_number", "_law_line_here", "_law_row", "_law_drawers", "_law_held", "_law_at", "_law_path", "_law_mark"] ["_law_text"] (defScope z6f):=by trivial
set_option maxHeartbeats 40000000 in
theorem ok_due(D:Df K mg "_law_due" z6f ["_law_text"])(T:Txt mg)(C:CallsDu P w K mg base):Cal P w K mg base "_law_due" 3 ["_law_text"] spDue:=by
 refine D.cal sc_due (fun vs H Q E h=>?_) (fun f cdv A outer s H vs Q E hr h=>?_)
 ·obtain⟨l,rfl,_⟩:=h;rfl
 ·obtain⟨l,rfl,hlen,hlow,kT,kH⟩:=h;refine⟨_,(q0d (q0j (i:=1) sc_due.nd rfl (by trivial) (@bm_k _ _ _ _ _ _ _ _ _ _ _ _ K rfl Cb El Em q3b (pv 0) (q0a q0h q0c) (by rfl) (by rfl) (by rfl) (by rfl) (by rfl))) (q1j (q0v (q0l (eq_k K rfl hr) (pv 0) q0h (nomark _)) (q0f (q0j (i:=1) sc_due.nd rfl (by trivial) (q1d q0c))) q0k) (q0d (q0j (i:=2) sc_due.nd rfl (by trivial) (q1s (eq_k K rfl hr) (q1i (sl_k K rfl) (pv 1) q1t (q1u q0g)) (q1d (q0a q0h q0c)) (nomark _))) (q0d (q0j (i:=3) sc_due.nd rfl (by trivial) (q1d q0c)) (q0d (q2r Dv rfl (@z0o _ _ _ _ _ _ _ _ K rfl rfl T.b_enumerate (q0a (pv 1) q0c) (by rfl)) (@q2t _ _ _ _ (2) _ K rfl rfl (q0t (q0q (i:=4) sc_due.nd rfl (by trivial)) (q0t (q0q (i:=5) sc_due.nd rfl (by trivial)) q1r)) (by rfl) (by rfl)) (q0f (q0v (pt_j (@PW.pt _ _ _ (q2n (q0l q3y (pv 4) q0g (nomark _)) (q1q (q2b (@q2d _ _ _ K rfl (pv 2) (fun _=>rfl))))))) (q0d (q0j (i:=6) sc_due.nd rfl (by trivial) (pe_c C.row_of hr (q0a (pv 5) q0c))) (q0d (q0v (pt_j (@PW.pt _ _ _ (q2n (q1p (q3m (pv 6))) (q1q (q0l (eq_k K rfl hr) (q0i (q1m K rfl) (by rfl) T.b_len Bg (q0a (pv 3) q0c)) q0g (nomark _)))))) (q0f (q0m (q1c (q0a q0h (q0a (pv 4) q0c))))) q0k) (q0f (q1z (@bm_k _ _ _ _ _ _ _ _ _ _ _ _ K rfl Ce Dy Dz q1v (pv 3) (q0a (pv 6) q0c) (by rfl) (by rfl) (by rfl) (by rfl) (by rfl)))))) q0k))) (q0d (q0j (i:=7) sc_due.nd rfl (by trivial) (q0u q0p (q1d (q0a (q1c q0c) q0c)) (q2h ["_law_path", "_law_mark"] [] rfl (@q5c _ _ _ _ K rfl (pv 3)) (fun _ _ _ _ _=>(@q2t _ _ _ _ (2) _ K rfl rfl (q0t (q0q (i:=0) (show(["_law_path", "_law_mark"]:List Str).Nodup by decide +kernel) rfl (by trivial)) (q0t (q0q (i:=1) (show(["_law_path", "_law_mark"]:List Str).Nodup by decide +kernel) rfl (by trivial)) q1r)) (by rfl) (by rfl))) (fun _ _ _ _ _=>(q7b (q1p (q3m (pv 1))))) (fun _ _ _ _ _=>(pv 0))))) (q0d (q0j (i:=8) sc_due.nd rfl (by trivial) (q1d q0c)) (q0d (q2r Dv rfl (@z0o _ _ _ _ _ _ _ _ K rfl rfl T.b_enumerate (q0a (pv 3) q0c) (by rfl)) (@q2t _ _ _ _ (2) _ K rfl rfl (q0t (q0q (i:=9) sc_due.nd rfl (by trivial)) (q0t (@q2t _ _ _ _ (2) _ K rfl rfl (q0t (q0q (i:=10) sc_due.nd rfl (by trivial)) (q0t (q0q (i:=11) sc_due.nd rfl (by trivial)) q1r)) (by rfl) (by rfl)) q1r)) (by rfl) (by rfl)) (q0d (q0v (pt_j (@PW.pt _ _ _ (q2n (q0l (nin_P hr) (q1i (sl_k K rfl) (pv 10) q1t (q1u (q5x q3g q0g))) (pv 7) (by with_unfolding_all rfl)) (q1q (q0l (in_P hr) (pe_c C.folded hr (q0a (pv 10) (q0a (pv 2) q0c))) (pv 8) (by with_unfolding_all rfl)))))) (q0f (q0m (q1c (q0a q0h (q0a (pv 9) q0c))))) q0k) (q0f (q1z (@bm_k _ _ _ _ _ _ _ _ _ _ _ _ K rfl Ce Dy Dz q1v (pv 8) (q0a (pe_c C.folded hr (q0a (pv 10) (q0a (pv 2) q0c))) q0c) (by rfl) (by rfl) (by rfl) (by rfl) (by rfl)))))) (q0f (q0m (q1c (q0a q0h (q0a (q1c (q0a (pv 3) (q0a (pv 2) q0c))) q0c))))))))))))),?_⟩;have hscl:=PC.sc_len (s:=10) l;have e:=q0o l;have e10:(Ac "\n").length=1:=by decide +kernel
  have hsp:(Hm (mk l) (Ac "\n")).length<=20001:=by rw[nl,<- Ad (f:=tl),PC.split_sc 10 (mk l),q0s];lia
  refine⟨_,rfl,rfl,_,_,rfl,rfl,by rw[e10];rfl,small (by lia),small (by lia),?_,fun L0 hL0=>?_⟩
  ·rw[Cs];have:=Ez (mk l) (Ac "\n") 0 (mk l).length ((mk l).length+1);exact small (by lia)
  rw[nl,PC.split_mk 10 (mk l),q0s];have s0:=(Same.refl H).new (o:=.lst (vL (PC.sc 10 l))) hL0;have h0:upd H L0 (.lst (vL (PC.sc 10 l))) L0=some (.lst (vL (PC.sc 10 l))):=q0b;generalize upd H L0 (.lst (vL (PC.sc 10 l)))=H0 at s0 h0;refine⟨fun σ' H'=>∃L',σ'=[some (.str (mk l)),some (.ref L'),none,none,none,none,none,none,none,none,none,none]/\Same H H'/\H' L'=some (.lst (vL (lnsOf l))),?_,?_⟩;rotate_left
  ·refine⟨_,rfl,.inl ⟨rfl,_,rfl,?_⟩⟩;rw[q9z];refine iteB (fun z=>?_) (fun z=>?_)
   ·have e0:l=[]:=of_decide_eq_true z;subst e0;exact⟨by show 0<=sizeLine;decide,fun L' hL'=>⟨L',rfl,s0.new hL',q0b⟩⟩
   ·exact⟨L0,rfl,s0,by rw[h0];unfold lnsOf;rw[if_neg (of_decide_eq_false z)]⟩
  clear h0 s0;rintro σ' H1 ⟨L,rfl,s1,h1⟩;have hfew:(lnsOf l).length<=20001:=by
   unfold lnsOf;split
   ·exact Bo _
   ·lia
  have hall:∀x∈lnsOf l,x.length<=20000/\∀c∈x,c<128:=fun x hx=>by
   unfold lnsOf at hx;split at hx
   ·cases hx
   ·exact⟨Bi (q2e hx) hlen,fun c hc=>hlow c (z9h hx hc)⟩
  generalize lnsOf l=ls at *;refine⟨_,rfl,_,rfl,.inr (.inl ⟨L,_,rfl,SqL.of h1,fun S1 hS1=>?_⟩)⟩;rw[show cutV (vL ls) none (some (1:Int))=vL (ls.take 1) from(z6a _ 1).trans Mu.symm];have sS:=(Same.refl H1).new (o:=.lst (vL (ls.take 1))) hS1;have hS:upd H1 S1 (.lst (vL (ls.take 1))) S1=some (.lst (vL (ls.take 1))):=q0b;generalize upd H1 S1 (.lst (vL (ls.take 1)))=H1a at sS hS;refine⟨by show 1<=sizeLine;decide,fun B1 hB1=>?_⟩;have sB:=(Same.refl H1a).new (o:=.lst [.str (Ac "blind")]) hB1;refine .inr ⟨_,_,.lst (SqL.of (sB _ _ hS)) (by rw[<- z5x];exact q9v _),.lst (SqL.of q0b) (.cons (.str _) .nil),?_,by decide +kernel,Bi (Tx _ _) (dep_l _),?_⟩
  ·simp only[Gr];exact z6e fun x hx=>(hall x (Fj hx)).2
  rw[bl_eq];have s1b:=(s1.trans sS).trans sB;have h1b:=sB _ _ (sS _ _ h1);generalize upd H1a B1 (.lst [.str (Ac "blind")])=H1b at sB s1b h1b;generalize hbl:blOf ls=bl at *;refine⟨by show 0<=sizeLine;decide,fun Lr hLr=>?_⟩;have s2:=(Same.refl H1b).new (o:=.lst []) hLr;have hLrH:H Lr=none:=s1b.free hLr;have h2:upd H1b Lr (.lst []) L=some (.lst (vL ls)):=s2 _ _ h1b;have hLL:L≠Lr:=fun z=>by rw[z,hLr] at h1b;cases h1b
  have r2:RL (upd H1b Lr (.lst [])) Lr []:=⟨q0b,(fun _ h=>nomatch h)⟩
  have s12:=s1b.trans s2;generalize upd H1b Lr (.lst [])=H2 at s2 h2 r2 s12;refine⟨_,rfl,.inr ⟨L,_,rfl,SqL.of h2,?_⟩⟩;refine q3s (fun i σ' H'=>∃x4 x5 x6 zs,σ'=[some (.str (mk l)),some (.ref L),some (.bl bl),some (.ref Lr),x4,x5,x6,none,none,none,none,none]/\Same H H'/\RL H' Lr zs/\rdR bl ls 0 []=rdR bl (ls.drop i) i (zs.map (·.2))/\zs.length<=60/\(∀r∈zs.map (·.2),okP r.1)/\H' L=some (.lst (vL ls))) ⟨none,none,none,[],rfl,s12,r2,rfl,by decide,(fun _ h=>nomatch h),h2⟩ (fun i σ' H' x=>by obtain⟨_,_,_,_,_,_,_,_,_,_,x⟩:=x;exact SqL.of x) ?_ ?_
  ·rintro i v T' σ' H' hv ⟨x4,x5,x6,zs,rfl,s3,r3,e3,hz60,okz,h3⟩ hT;obtain⟨x,hll,rfl⟩:∃x,ls[i]?=some x/\v=.str (mk x):=by
    rw[Bk] at hv;obtain⟨x,hx,rfl⟩:=Ci.mp hv;exact⟨x,hx,rfl⟩
   have hi9:i<ls.length:=(Ba.mp hll).1;have sT:=(Same.refl H').new (o:=.tup [.int i,.str (mk x)]) hT;refine⟨T',_,rfl,SqT.of q0b,rfl,_,_,rfl,_,_,rfl,rfl,?_⟩;have s4:=s3.trans sT;have r4:=r3.same sT;have h4:=sT _ _ h3;generalize upd H' T' (.tup [.int i,.str (mk x)])=H4 at sT s4 r4 h4;rw[z5t hll,rdR] at e3;refine⟨fun bb H5=>(bb=true↔0<i\/bl=false)/\H5=H4,?_,?_⟩;rotate_left
   ·refine⟨_,rfl,_,_,rfl,rfl,_,rfl,?_⟩;refine iteB (fun h=>⟨⟨fun _=>.inl (by have:=of_decide_eq_true h;lia),fun _=>rfl⟩,rfl⟩) (fun h=>⟨_,rfl,bl,rfl,⟨?_,rfl⟩⟩);have h':=of_decide_eq_false h;constructor
    ·intro z;exact .inr (by simpa using z)
    ·intro z;rcases z with z|z
     ·exact absurd z (by lia)
     ·rw[z];rfl
   rintro bb H5 ⟨hbb,rfl⟩;refine iteB (fun hb=>?_) (fun hb=>?_)
   ·have hc:¬(i=0/\bl=true):=fun z=>by
     rcases hbb.mp hb with y|y
     ·lia
     ·rw[y] at z;exact absurd z.2 (by decide)
    rw[if_neg hc] at e3;refine⟨_,rfl,x,rfl,(hall x (Au hll)).1,fun hN H6 s6=>?_,fun r hS T6 p6 H6 hT6 s6 h6 hp6=>?_⟩
    ·rw[hN] at e3;refine⟨fun bb H7=>bb=true/\H7=H6,?_,⟨_,rfl,_,rfl,iteT ⟨rfl,rfl⟩⟩⟩;rintro bb H7 ⟨rfl,rfl⟩;exact iteT ⟨_,rfl,by show 2<=sizeLine;decide,fun T8 hT8=>kT i e3 T8 _ ((s4.trans s6).new hT8) q0b⟩
    ·rw[hS] at e3;have r6:=r4.same s6;have e3':rdR bl ls 0 []=if (zs.map (·.2)).length=60 then .inl i else rdR bl (ls.drop (i+1)) (i+1) (zs.map (·.2)++[r]):=e3
     refine⟨fun bb H7=>bb=decide (zs.length=60)/\H7=H6,?_,?_⟩;rotate_left
     ·refine⟨_,rfl,_,rfl,iteF ⟨_,rfl,_,_,rfl,.inl ⟨_,SqL.of r6.at_,rfl⟩,.inl ⟨rfl,_,rfl,?_,rfl⟩⟩⟩;rw[Ad];exact z2m zs.length 60
     rintro bb H7 ⟨rfl,rfl⟩;refine ite2 (fun h=>?_) (fun h=>?_)
     ·have h:=of_decide_eq_true h;rw[Ad,if_pos h] at e3';exact⟨_,rfl,by show 2<=sizeLine;decide,fun T8 hT8=>kT i e3' T8 _ ((s4.trans s6).new hT8) q0b⟩
     ·have h:zs.length≠60:=fun z=>h (decide_eq_true z);rw[Ad,if_neg h] at e3';refine⟨_,rfl,.inl ⟨rfl,_,SqL.of r6.at_⟩,_,rfl,Lr,_,_,rfl,rfl,r6.at_,by rw[Ad];exact small' (by lia),?_⟩;have tk:∀S xs,H7 S=some (.tup xs)->upd H7 Lr (.lst (zs.map (fun z=>V.ref z.1)++[.ref T6])) S=some (.tup xs):=fun S xs e=>by rw[q0e (fun z=>by rw[z,r6.at_] at e;cases e)];exact e
      refine⟨_,_,_,zs++[(T6,r)],rfl,(s4.trans s6).put hLrH,⟨by rw[q0b,Ap];rfl,fun z hz=>?_⟩,by rw[e3',Ap];rfl,by rw[Aj,Bt];lia,fun q hq=>?_,by rw[q0e hLL];exact s6 _ _ h4⟩
      ·rcases Aq.mp hz with hz|hz
       ·exact PR.same (r6.pr z hz) tk
       ·rw[An.mp hz];exact⟨p6,tk _ _ h6,tk _ _ hp6⟩
      ·rw[Ap] at hq;rcases Aq.mp hq with hq|hq
       ·exact okz q hq
       ·rw[An.mp hq];exact z1i hS
   ·have hc:i=0/\bl=true:=by
     by_cases z:0<i\/bl=false
     ·rw[hbb.mpr z] at hb;cases hb
     ·exact⟨by lia,by cases bl<;>simp_all⟩
    rw[if_pos hc] at e3;exact⟨_,_,_,zs,rfl,s4,r4,e3,hz60,okz,h4⟩
  ·rintro σ' Hz ⟨x4,x5,x6,zs,rfl,sZ,rl,e3,h60,okr,h3⟩;rw[Ad,Sy,rdR] at e3;obtain⟨kB,kG⟩:=kH _ e3;refine⟨by show 0<=sizeLine;decide,fun p0 hp0=>⟨by show 1<=sizeLine;decide,fun l0 hl0=>?_⟩⟩;have s0:=((Same.refl Hz).new (o:=.tup []) hp0).new (o:=.lst [.ref p0]) hl0;have n0:p0≠l0:=fun z=>by rw[<- z,q0b] at hl0;cases hl0
   have hp0':upd (upd Hz p0 (.tup [])) l0 (.lst [.ref p0]) p0=some (.tup (vP [])):=by rw[q0e n0];exact q0b
   have hl0':upd (upd Hz p0 (.tup [])) l0 (.lst [.ref p0]) l0=some (.lst [.ref p0]):=q0b;generalize upd (upd Hz p0 (.tup [])) l0 (.lst [.ref p0])=H1 at s0 hp0' hl0';have rl1:=rl.same s0;refine⟨_,rfl,.inl ⟨Lr,rfl,⟨_,SqL.of rl1.at_⟩,fun Dl hDl=>?_⟩⟩;refine q4z (K:=K) (xs:=zs.map fun z=>V.ref z.1) (fun i ys H'=>∃bs:List (Addr×Pth),ys=bs.map (fun x=>V.ref x.1)/\(∀x∈bs,H' x.1=some (.tup (vP x.2))/\Low x.2)/\(∀p,p∈bs.map (·.2)↔(p,none)∈(zs.take i).map (·.2))/\bs.length<=i/\Same H1 H'/\H' Dl=some (.lst ys)) ⟨[],rfl,(fun _ h=>nomatch h),fun p=>⟨(fun z=>nomatch z),(fun z=>nomatch z)⟩,Ak _,(Same.refl H1).new hDl,q0b⟩ (fun i ys H' ⟨bs,_,_,_,_,s',h'⟩=>⟨h',SqL.of (s' _ _ rl1.at_)⟩) ?_ ?_
   ·rintro i ys H' v hv ⟨bs,rfl,hb,hbs,hbl,s',h'⟩;obtain⟨z,hz,rfl⟩:=gR0 hv
    have hi:i<zs.length:=(Ba.mp hz).1;obtain⟨b,h1,h2⟩:=(rl1.same s').pr z (Au hz);have okz':=okr z.2 (Ay.mpr ⟨z,Au hz,rfl⟩);refine⟨z.1,_,rfl,SqT.of h1,rfl,_,_,rfl,_,_,rfl,rfl,q4b,?_⟩;refine⟨_,rfl,_,rfl,?_⟩;have htk:∀p,(p,none)∈(zs.take (i+1)).map (·.2)↔(p,none)∈(zs.take i).map (·.2)\/(p,none)=z.2:=fun p=>by
     rw[Dq,hz,Ap,Aq];exact⟨fun y=>y.imp id fun y=>An.mp y,fun y=>y.imp id fun y=>An.mpr y⟩
    refine ite2 (fun hm=>?_) (fun hm=>?_)
    ·have hm':mV z.2.2=.non:=of_decide_eq_true hm;have e2:z.2=(z.2.1,none):=by rw[<- mV_none.mp hm']
     have tk:∀S xs,H' S=some (.tup xs)->upd H' Dl (.lst (bs.map (fun x=>V.ref x.1)++[.ref b])) S=some (.tup xs):=fun S xs e=>by
      rw[q0e (fun z=>by rw[z,h'] at e;cases e)];exact e
     refine⟨_,rfl,h',small' (by rw[Ad];lia),bs++[(b,z.2.1)],by rw[Ap];rfl,fun x hx=>?_,fun p=>?_,by rw[Aj];exact Gv hbl,s'.put hDl,q0b⟩
     ·rcases Aq.mp hx with y|y
      ·exact⟨tk _ _ (hb x y).1,(hb x y).2⟩
      ·rw[An.mp y];exact⟨tk _ _ h2,okz'.low⟩
     ·rw[htk,Ap,Aq,hbs];refine⟨fun y=>y.imp id fun y=>?_,fun y=>y.imp id fun y=>?_⟩
      ·have e3:p=z.2.1:=An.mp y;rw[e2,e3]
      ·exact An.mpr (by show p=z.2.1;rw[<- y])
    ·refine⟨bs,rfl,hb,fun p=>?_,Dp hbl,s',h'⟩;rw[htk,hbs];refine⟨.inl,fun y=>y.resolve_right fun y=>?_⟩;refine absurd ?_ (of_decide_eq_false (Sf.mpr hm));show mV z.2.2=_;rw[<- y];rfl
   ·rintro ys H2 ⟨bs,rfl,hb,hbs,hbl,s2,h2⟩;rw[Ad] at hbl;rw[Ad,Cj] at hbs;refine .inr (.inr ⟨l0,Dl,_,_,rfl,rfl,s2 _ _ hl0',h2,small (by rw[Ad];show 1+_<=_;lia),fun l1 hl1=>?_⟩);have s3:=(Same.refl H2).new (o:=.lst ([.ref p0]++bs.map fun x=>V.ref x.1)) hl1;have hd3:upd H2 l1 (.lst ([.ref p0]++bs.map fun x=>V.ref x.1)) l1=some (.lst (((p0,[])::bs).map fun x=>V.ref x.1)):=q0b;generalize upd H2 l1 (.lst ([.ref p0]++bs.map fun x=>V.ref x.1))=H3 at s3 hd3;have hx3:∀x∈(p0,[])::bs,H3 x.1=some (.tup (vP x.2))/\Low x.2:=fun x hx=>by
     rcases Az.mp hx with rfl|hx
     ·exact⟨s3 _ _ (s2 _ _ hp0'),(fun _ h=>nomatch h)⟩
     ·exact⟨s3 _ _ (hb x hx).1,(hb x hx).2⟩
    have hds:∀p,p∈((p0,[])::bs).map (·.2)↔p=[]\/(p,none)∈zs.map (·.2):=fun p=>by
     rw[Ao,Az,hbs]
    have sm3:=(s0.trans s2).trans s3;clear hbs hb hbl h2;generalize (p0,[])::bs=ds at hd3 hx3 hds;refine⟨by show 0<=sizeLine;decide,fun l2 hl2=>?_⟩;have hl2H:Hz l2=none:=sm3.free hl2;have s4:=(Same.refl H3).new (o:=.lst []) hl2;refine⟨_,rfl,.inr ⟨Lr,_,rfl,SqL.of ((rl.same sm3).same s4).at_,?_⟩⟩;refine q3s (fun i σ' H'=>∃(fs:List (Addr×Pth)) (y4 y5 y6 x4 x5 x6:Option V),σ'=[some (.str (mk l)),some (.ref L),some (.bl bl),some (.ref Lr),y4,y5,y6,some (.ref l1),some (.ref l2),x4,x5,x6]/\(∀a u,a≠l2->H3 a=some u->H' a=some u)/\H' l2=some (.lst (fs.map fun x=>V.ref x.1))/\(∀x∈fs,H' x.1=some (.tup (vP x.2))/\Low x.2)/\fs.map (·.2)=((zs.map (·.2)).take i).map (fun r=>fold bl r.1)/\∀j,j<i->¬Bad bl (zs.map (·.2)) j)
     ⟨[],_,_,_,none,none,none,rfl,fun a u n e=>by rw[q0e n];exact e,q0b,(fun _ h=>nomatch h),rfl,(fun _ h=>nomatch h)⟩ (fun i σ' H' h=>by obtain⟨_,_,_,_,_,_,_,_,kp,_⟩:=h;exact SqL.of (kp _ _ (fun z=>by have e:=(rl.same sm3).at_;rw[z,hl2] at e;cases e) (rl.same sm3).at_)) ?_ ?_
    ·rintro i v T' σ' H' hv ⟨fs,y4,y5,y6,x4,x5,x6,rfl,kp,hf,hfx,hfs,hnb⟩ hT;obtain⟨z,hz,rfl⟩:=gR0 hv
     have hi:i<zs.length:=(Ba.mp hz).1;have hzr:(zs.map (·.2))[i]?=some z.2:=by rw[Bk,hz];rfl
     have okz':=okr z.2 (Au hzr);have sT:=(Same.refl H').new (o:=.tup [.int i,.ref z.1]) hT;have kpn:∀{a u},H3 a=some u->H' a=some u:=fun{a u} e=>kp a u (fun y=>by rw[y,hl2] at e;cases e) e;have sm':Same Hz H':=fun a u e=>kpn (sm3 _ _ e);obtain⟨b,h1,h2⟩:=((rl.same sm').same sT).pr z (Au hz);refine⟨T',_,rfl,SqT.of q0b,rfl,_,_,rfl,_,_,rfl,z.1,_,rfl,SqT.of h1,rfl,_,_,rfl,_,_,rfl,rfl,rfl,?_⟩;generalize upd H' T' (.tup [.int i,.ref z.1])=H4 at sT h1 h2;replace h2:H4 b=some (.tup (vP z.2.1)):=h2;have hfl:fs.length=i:=by
      have e:=congrArg List.length hfs;rw[Ad,Ad,Bu,Ad] at e;lia
     refine⟨fun bb H6=>(bb=true↔Bad bl (zs.map (·.2)) i)/\Same H4 H6,?_,?_⟩
     ·rintro bb H6 ⟨hbb,s6⟩;refine ite2 (fun hb=>?_) (fun hb=>?_)
      ·exact⟨_,rfl,by show 2<=sizeLine;decide,fun T8 hT8=>kB i (hbb.mp hb) hnb T8 _ ((sZ.trans ((sm'.trans sT).trans s6)).new hT8) q0b⟩
      ·refine⟨_,rfl,.inl ⟨rfl,_,SqL.of (s6 _ _ (sT _ _ hf))⟩,_,rfl,_,rfl,b,z.2.1,bl,rfl,s6 _ _ h2,okz',fun pf H7 s7 hpf=>?_⟩;have hf7:=s7 _ _ (s6 _ _ (sT _ _ hf));refine⟨l2,_,_,rfl,rfl,hf7,by rw[Ad];exact small' (by lia),?_⟩;have tk:∀S xs,H7 S=some (.tup xs)->upd H7 l2 (.lst (fs.map (fun x=>V.ref x.1)++[.ref pf])) S=some (.tup xs):=fun S xs e=>by
        rw[q0e (fun z=>by rw[z,hf7] at e;cases e)];exact e
       refine⟨fs++[(pf,fold bl z.2.1)],_,_,_,_,_,_,rfl,fun a u n e=>?_,by rw[q0b,Ap];rfl,fun x hx=>?_,?_,fun j hj=>?_⟩
       ·rw[q0e n];exact s7 _ _ (s6 _ _ (sT _ _ (kpn e)))
       ·rcases Aq.mp hx with y|y
        ·exact⟨tk _ _ (s7 _ _ (s6 _ _ (sT _ _ (hfx x y).1))),(hfx x y).2⟩
        ·rw[An.mp y];exact⟨tk _ _ hpf,(z1m okz').low⟩
       ·rw[Ap,hfs,Dq,hzr,Ap];rfl
       ·rcases Oa.mp hj with hj|rfl
        ·exact hnb j hj
        ·exact fun y=>hb (hbb.mpr y)
     ·obtain⟨c1,c2⟩:=q3u okz'.ne;refine⟨_,rfl,_,rfl,_,rfl,.inr (.inr ⟨b,_,rfl,SqT.of h2,c2,fun p1 hp1=>?_⟩)⟩;rw[c1];have s5:=(Same.refl H4).new (o:=.tup (vP z.2.1.dropLast)) hp1;have hd5:=s5 _ _ (sT _ _ (kpn hd3));have hx5:∀x∈ds,upd H4 p1 (.tup (vP z.2.1.dropLast)) x.1=some (.tup (vP x.2))/\Low x.2:=fun x hx=>⟨s5 _ _ (sT _ _ (kpn (hx3 x hx).1)),(hx3 x hx).2⟩
      have hp5:upd H4 p1 (.tup (vP z.2.1.dropLast)) p1=some (.tup (vP z.2.1.dropLast)):=q0b;generalize upd H4 p1 (.tup (vP z.2.1.dropLast))=H5 at s5 hd5 hx5 hp5;refine⟨_,rfl,z1l hd5 hx5 hp5 (q4p okz'.low) ⟨_,rfl,iteB (fun h=>?_) (fun h=>?_)⟩⟩
      ·refine⟨⟨fun _=>⟨z.2,hzr,.inl ?_⟩,fun _=>rfl⟩,s5⟩;have hn:¬(z.2.1.dropLast∈ds.map (·.2)):=by simpa using h
       rw[hds] at hn;exact⟨fun y=>hn (.inl y),fun y=>hn (.inr y)⟩
      ·have hy:z.2.1.dropLast∈ds.map (·.2):=by simpa using h
       rw[hds] at hy;refine⟨_,rfl,_,rfl,b,z.2.1,bl,rfl,s5 _ _ h2,okz',fun pf H7 s7 hpf=>?_⟩;refine⟨_,rfl,z1l (s7 _ _ (s5 _ _ (sT _ _ hf))) (fun x hx=>⟨s7 _ _ (s5 _ _ (sT _ _ (hfx x hx).1)),(hfx x hx).2⟩) hpf (z1m okz').low ⟨_,rfl,?_,s5.trans s7⟩⟩;show decide _=true↔_;rw[decide_eq_true_iff,hfs];refine⟨fun y=>?_,fun y=>?_⟩
       ·obtain⟨r,hr,e⟩:=Ay.mp y;exact⟨z.2,hzr,.inr ⟨r,hr,e⟩⟩
       ·rcases z9e hzr y with⟨q1,q2⟩|⟨r,hr,e⟩
        ·exact absurd hy fun y=>y.elim q1 q2
        ·exact Ay.mpr ⟨r,hr,e⟩
    ·rintro σ' H' ⟨fs,y4,y5,y6,x4,x5,x6,rfl,kp,hf,hfx,hfs,hnb⟩;rw[Ad] at hnb;have sm':Same Hz H':=fun a u e=>kp a u (fun y=>by rw[y,hl2H] at e;cases e) (sm3 _ _ e);refine⟨_,rfl,_,rfl,by show 2<=sizeLine;decide,fun T2 hT2=>⟨by show 2<=sizeLine;decide,fun T3 hT3=>?_⟩⟩;have t2:=(Same.refl H').new (o:=.tup [.ref Lr,.bl bl]) hT2;have hT2':upd H' T2 (.tup [.ref Lr,.bl bl]) T2=some (.tup [.ref Lr,.bl bl]):=q0b;generalize upd H' T2 (.tup [.ref Lr,.bl bl])=H8 at t2 hT2' hT3;have t3:=(Same.refl H8).new (o:=.tup [.str (Ac "right"),.ref T2]) hT3;exact kG (q5q (by rw[Ad];exact Ak _) hnb) T3 T2 Lr zs _ (sZ.trans ((sm'.trans t2).trans t3)) q0b (t3 _ _ hT2') (((rl.same sm').same t2).same t3) rfl okr (by rw[Ad];exact h60)
end
end K
set_option maxHeartbeats 4000000
namespace K
open PySem L2 TX SB HM PM
section
variable{P:Program}{w:World}{K:Ah}{mg:Str->Option Value}{base:Heap}
theorem rfd_at{H:Hp}{ea C:Addr}{f:Str}{v:V}(r:Rfd H ea C f v){K:Ah}{D:Addr}(s:SubX K (.ref C) D):∃c dd,H ea=some (ExO c dd ea)/\SubX K c D:=by
 obtain⟨d,h1,_⟩:=r.ex;exact⟨_,_,h1,s⟩
structure KxC (K:Ah) (C Dn:Addr) (f:Str) (ds es fs:List Addr):Prop where
 sub:SubX K (.ref C) Dn
 isi:EIsi K C
 get:EGet K C f
 val:Di K (.ref C) (.type "ValueError")=some true
 any1:Ik K (.ref C) (ds.map Value.ref)=some false
 any2:Ik K (.ref C) (es.map Value.ref)=some false
 any3:Ik K (.ref C) (fs.map Value.ref)=some false
structure CallsTo (P:Program) (w:World) (K:Ah) (mg:Str->Option Value) (base:Heap) (c Ch Ct Dn:Addr) (ds es fs:List Addr):Prop where
 read_hall:CalX P w K mg base "read_hall" 6 ["text"] (spReadHall c Ch Ct)
 g_HallError:mg "HallError" = some (.ref Dn)
 e_HallError:ECls K Dn bmV
 kh:KxC K Ch Dn "at" ds es fs
 kt:KxC K Ct Dn "line" ds es fs
 g_NoHall:mg "NoHall" = some (.ref Ch)
 g_NoText:mg "NoText" = some (.ref Ct)
 hh:Di K (.ref Ch) (.ref Ch)=some true
 ht:Di K (.ref Ch) (.ref Ct)=some false
 th:Di K (.ref Ct) (.ref Ch)=some false
 tt:Di K (.ref Ct) (.ref Ct)=some true
 ex:∃c_Broken c_Busy c_Fixed c_Full c_Meets c_NoBook c_NoDoer c_NoDrawer c_NoLine c_NoPattern c_NoPlace c_NoRule c_NoRules c_NoSame c_NoTemplate c_NoThing c_NoWish c_NotEmpty c_Strayed c_Taken c_TooMuch,ds=[c_Broken,c_Busy,c_Fixed,c_Full,c_Meets,c_NoBook,c_NoDoer,c_NoDrawer,c_NoLine,c_NoPattern,c_NoPlace]/\es=[c_NoRule,c_NoRules,c_NoSame,c_NoTemplate,c_NoThing,c_NoWish,c_NotEmpty,c_Strayed]/\fs=[c_Taken,c_TooMuch]/\mg "Broken" = some (.ref c_Broken)/\mg "Busy" = some (.ref c_Busy)/\mg "Fixed" = some (.ref c_Fixed)/\mg "Full" = some (.ref c_Full)/\mg "Meets" = some (.ref c_Meets)/\mg "NoBook" = some (.ref c_NoBook)/\mg "NoDoer" = some (.ref c_NoDoer)/\mg "NoDrawer" = some (.ref c_NoDrawer)/\mg "NoLine" = some (.ref c_NoLine)/\mg "NoPattern" = some (.ref c_NoPattern)/\mg "NoPlace" = some (.ref c_NoPlace)/\mg "NoRule" = some (.ref c_NoRule)/\mg "NoRules" = some (.ref c_NoRules)/\mg "NoSame" = some (.ref c_NoSame)/\mg "NoTemplate" = some (.ref c_NoTemplate)/\mg "NoThing" = some (.ref c_NoThing)/\mg "NoWish" = some (.ref c_NoWish)/\mg "NotEmpty" = some (.ref c_NotEmpty)/\mg "Strayed" = some (.ref c_Strayed)/\mg "Taken" = some (.ref c_Taken)/\mg "TooMuch" = some (.ref c_TooMuch)
def spTold(c:Addr):Sp:=fun vs H Q _=>∃l,vs=[.str (mk l)]/\l.length<=20000 /\
 (∀k:Nat,rdR (blOf (lnsOf l)) (lnsOf l) 0 []=.inl k->∀T H',Same H H'->H' T=some (.tup [.str (Ac "text"),.int (k:Int)])->Q (.ref T) H') /\
 ∀rows,rdR (blOf (lnsOf l)) (lnsOf l) 0 []=.inr rows->(∀i:Nat,Bad (blOf (lnsOf l)) rows i->(∀j,j<i->¬Bad (blOf (lnsOf l)) rows j)->∀T H',Same H H'->H' T=some (.tup [.str (Ac "hall"),.int (i:Int)])->Q (.ref T) H') /\
  ((∀i,¬Bad (blOf (lnsOf l)) rows i)->∀T h d H',Same H H'->HallAt c H' h d (blOf (lnsOf l)) rows->H' T=some (.tup [.str (Ac "right"),.ref h])->Q (.ref T) H')
abbrev z0e:Stmt:=top 59
theorem sc_told:FnScope ["_law_text", "_law_told_here", "_law_found", "e", "_law_others"] ["_law_text"] (defScope z0e):=by trivial
set_option maxHeartbeats 40000000 in
theorem x0t{c c_NoHall c_NoText Dn:Addr}{ds es fs:List Addr}(D:Df K mg "_law_told" z0e ["_law_text"])(T:Txt mg)(C:CallsTo P w K mg base c c_NoHall c_NoText Dn ds es fs):Cal P w K mg base "_law_told" 7 ["_law_text"] (spTold c):=by
 refine D.cal sc_told (fun vs H Q E h=>?_) (fun f cdv A outer s H vs Q E hr h=>?_)
 ·obtain⟨l,rfl,_⟩:=h;rfl
 ·obtain⟨l,rfl,hlen,kT,kH⟩:=h;have g_HallError:=C.g_HallError;have e_HallError:=C.e_HallError;have g_NoHall:=C.g_NoHall;have g_NoText:=C.g_NoText;obtain⟨c_Broken,c_Busy,c_Fixed,c_Full,c_Meets,c_NoBook,c_NoDoer,c_NoDrawer,c_NoLine,c_NoPattern,c_NoPlace,c_NoRule,c_NoRules,c_NoSame,c_NoTemplate,c_NoThing,c_NoWish,c_NotEmpty,c_Strayed,c_Taken,c_TooMuch,rfl,rfl,rfl,g_Broken,g_Busy,g_Fixed,g_Full,g_Meets,g_NoBook,g_NoDoer,g_NoDrawer,g_NoLine,g_NoPattern,g_NoPlace,g_NoRule,g_NoRules,g_NoSame,g_NoTemplate,g_NoThing,g_NoWish,g_NotEmpty,g_Strayed,g_Taken,g_TooMuch⟩:=C.ex;refine⟨_,(q0d (q0j (i:=1) sc_told.nd rfl (by trivial) q1h) (q0d (q0j (i:=2) sc_told.nd rfl (by trivial) q1h) (q0d (ps_try (i:=3) K rfl rfl rfl sc_told.nd rfl rfl rfl g_HallError e_HallError (fun _ _=>(q0f (q0j (i:=2) sc_told.nd rfl (by trivial) (pe_cX C.read_hall hr AccX.of (q0a (pv 0) q0c)))))
    (fun _=>(q0f (q0j (i:=1) sc_told.nd rfl (by trivial) (pv 3))))) (q0d (q0v (q1p (q3m (pv 1))) (q0f (q0m (q1c (q0a q0h (q0a (pv 2) q0c))))) q0k) (q0d (q0j (i:=4) sc_told.nd rfl (by trivial) (q0i (q4l K rfl) (by rfl) T.b_isinstance (by decide +kernel) (q0a (pv 1) (q0a (q1c (q0a (q0r (v:=.ref c_Broken) (by rfl) g_Broken rfl) (q0a (q0r (v:=.ref c_Busy) (by rfl) g_Busy rfl) (q0a (q0r (v:=.ref c_Fixed) (by rfl) g_Fixed rfl) (q0a (q0r (v:=.ref c_Full) (by rfl) g_Full rfl) (q0a (q0r (v:=.ref c_Meets) (by rfl) g_Meets rfl) (q0a (q0r (v:=.ref c_NoBook) (by rfl) g_NoBook rfl) (q0a (q0r (v:=.ref c_NoDoer) (by rfl) g_NoDoer rfl) (q0a (q0r (v:=.ref c_NoDrawer) (by rfl) g_NoDrawer rfl) (q0a (q0r (v:=.ref c_NoLine) (by rfl) g_NoLine rfl) (q0a (q0r (v:=.ref c_NoPattern) (by rfl) g_NoPattern rfl) (q0a (q0r (v:=.ref c_NoPlace) (by rfl) g_NoPlace rfl) q0c)))))))))))) q0c)))) (q0d (q0j (i:=4) sc_told.nd rfl (by trivial) (pe_j (pe_or (pv 4) (z0f (q0i (q4l K rfl) (by rfl) T.b_isinstance (by decide +kernel) (q0a (pv 1) (q0a (q1c (q0a (q0r (v:=.ref c_NoRule) (by rfl) g_NoRule rfl) (q0a (q0r (v:=.ref c_NoRules) (by rfl) g_NoRules rfl) (q0a (q0r (v:=.ref c_NoSame) (by rfl) g_NoSame rfl) (q0a (q0r (v:=.ref c_NoTemplate) (by rfl) g_NoTemplate rfl) (q0a (q0r (v:=.ref c_NoThing) (by rfl) g_NoThing rfl) (q0a (q0r (v:=.ref c_NoWish) (by rfl) g_NoWish rfl) (q0a (q0r (v:=.ref c_NotEmpty) (by rfl) g_NotEmpty rfl) (q0a (q0r (v:=.ref c_Strayed) (by rfl) g_Strayed rfl) q0c))))))))) q0c))))))) (q0d (q0v (pt_j (@PW.pt _ _ _ (q2n (@q2d _ _ _ K rfl (pv 4) (fun _=>rfl)) (q2n (@q2d _ _ _ K rfl (q0i (q4l K rfl) (by rfl) T.b_isinstance (by decide +kernel) (q0a (pv 1) (q0a (q1c (q0a (q0r (v:=.ref c_Taken) (by rfl) g_Taken rfl) (q0a (q0r (v:=.ref c_TooMuch) (by rfl) g_TooMuch rfl) q0c))) q0c))) (fun _=>rfl)) (q1q (q2b (@q2d _ _ _ K rfl (q0i (q4l K rfl) (by rfl) T.b_isinstance (by decide +kernel) (q0a (pv 1) (q0a (q3x (by rfl) T.b_ValueError (by decide +kernel) (show RelV (.ty "ValueError") _ from rfl)) q0c))) (fun _=>rfl)))))))) (q0f (q0m (q1c (q0a q0h (q0a q1h q0c))))) q0k) (q0d (q0v (pt_j (@PW.pt _ _ _ (q2p (@q2d _ _ _ K rfl (q0i (q4l K rfl) (by rfl) T.b_isinstance (by decide +kernel) (q0a (pv 1) (q0a (q0r (v:=.ref c_NoText) (by rfl) g_NoText rfl) q0c))) (fun _=>rfl)) (q2f (q2b (@q2d _ _ _ K rfl (q0i (q4l K rfl) (by rfl) T.b_isinstance (by decide +kernel) (q0a (pv 1) (q0a (q0r (v:=.ref c_NoHall) (by rfl) g_NoHall rfl) q0c))) (fun _=>rfl))))))) (q0f (q0m (q1c (q0a q0h (q0a (z9a K rfl (pv 1)) q0c))))) q0k) (q0d (q0v (pt_j (@PW.pt _ _ _ (q2p (@q2d _ _ _ K rfl (q0i (q4l K rfl) (by rfl) T.b_isinstance (by decide +kernel) (q0a (pv 1) (q0a (q0r (v:=.ref c_NoHall) (by rfl) g_NoHall rfl) q0c))) (fun _=>rfl)) (q2f (q2b (@q2d _ _ _ K rfl (q0i (q4l K rfl) (by rfl) T.b_isinstance (by decide +kernel) (q0a (pv 1) (q0a (q0r (v:=.ref c_NoText) (by rfl) g_NoText rfl) q0c))) (fun _=>rfl))))))) (q0f (q0m (q1c (q0a q0h (q0a (z9a K rfl (pv 1)) q0c))))) q0k) (q0f (q0m (q1c (q0a q0h (q0a q1h q0c)))))))))))))),?_⟩
  refine⟨fun ea σ' H'=>σ'=[some (.str (mk l)),some .non,some .non,none,none]/\Same H H'/\∃(Cx:Addr) (fl:Str) (i:Nat),Rfd H' ea Cx fl (.int (i:Int))/\KxC K Cx Dn fl [c_Broken,c_Busy,c_Fixed,c_Full,c_Meets,c_NoBook,c_NoDoer,c_NoDrawer,c_NoLine,c_NoPattern,c_NoPlace] [c_NoRule,c_NoRules,c_NoSame,c_NoTemplate,c_NoThing,c_NoWish,c_NotEmpty,c_Strayed] [c_Taken,c_TooMuch] /\
   ((Cx=c_NoText/\fl = "line" /\ rdR (blOf (lnsOf l)) (lnsOf l) 0 []=.inl i)\/(Cx=c_NoHall/\fl = "at" /\ ∃rows,rdR (blOf (lnsOf l)) (lnsOf l) 0 []=.inr rows/\Bad (blOf (lnsOf l)) rows i/\∀j,j<i->¬Bad (blOf (lnsOf l)) rows j)),?_,?_⟩
  ·rintro ea σ' H' ⟨rfl,sm,Cx,fl,i,rf,kx,hcase⟩;refine⟨rfd_at rf kx.sub,_,rfl,_,rfl,_,rfl,iteF ?_⟩;refine⟨_,rfl,by show 11<=sizeLine;decide,fun U0 hU0=>?_⟩;have s0:=(Same.refl H').new (o:=.tup [.ref c_Broken,.ref c_Busy,.ref c_Fixed,.ref c_Full,.ref c_Meets,.ref c_NoBook,.ref c_NoDoer,.ref c_NoDrawer,.ref c_NoLine,.ref c_NoPattern,.ref c_NoPlace]) hU0;refine⟨ea,Cx,false,⟨_,rfl,.inr (.inr ⟨U0,[c_Broken,c_Busy,c_Fixed,c_Full,c_Meets,c_NoBook,c_NoDoer,c_NoDrawer,c_NoLine,c_NoPattern,c_NoPlace],rfl,SqT.of q0b,kx.any1⟩)⟩,rf.err.same s0,kx.isi,?_⟩;generalize upd H' U0 _=H0 at s0;refine⟨fun v' H1=>v'=.bl false/\Same H' H1,?_,?_⟩;rotate_left
   ·refine⟨_,rfl,false,rfl,iteF ⟨_,rfl,by show 8<=sizeLine;decide,fun U1 hU1=>?_⟩⟩;have s1:=s0.new (o:=.tup [.ref c_NoRule,.ref c_NoRules,.ref c_NoSame,.ref c_NoTemplate,.ref c_NoThing,.ref c_NoWish,.ref c_NotEmpty,.ref c_Strayed]) hU1;exact⟨ea,Cx,false,⟨_,rfl,.inr (.inr ⟨U1,[c_NoRule,c_NoRules,c_NoSame,c_NoTemplate,c_NoThing,c_NoWish,c_NotEmpty,c_Strayed],rfl,SqT.of q0b,kx.any2⟩)⟩,rf.err.same s1,kx.isi,rfl,s1⟩
   rintro v' H1 ⟨rfl,s1⟩;refine⟨fun b H2=>b=false/\Same H' H2,?_,?_⟩;rotate_left
   ·refine⟨_,rfl,false,rfl,iteF ⟨_,rfl,by show 2<=sizeLine;decide,fun U2 hU2=>?_⟩⟩;have s2:=s1.new (o:=.tup [.ref c_Taken,.ref c_TooMuch]) hU2;refine⟨ea,Cx,false,⟨_,rfl,.inr (.inr ⟨U2,[c_Taken,c_TooMuch],rfl,SqT.of q0b,kx.any3⟩)⟩,rf.err.same s2,kx.isi,false,rfl,iteF ?_⟩;exact⟨_,rfl,ea,Cx,true,⟨_,rfl,.inr (.inl ⟨_,rfl,kx.val⟩)⟩,rf.err.same s2,kx.isi,true,rfl,rfl,s2⟩
   rintro b H2 ⟨rfl,s2⟩;obtain⟨de,q1,q2⟩:=(rf.same s2).ex;have e2:=rf.err.same s2;refine iteF ?_;rcases hcase with⟨rfl,rfl,hr1⟩|⟨rfl,rfl,rows,hr1,bd,lst⟩
   ·refine⟨fun b H3=>b=true/\H3=H2,?_,?_⟩;rotate_left
    ·refine⟨_,rfl,ea,Cx,true,⟨_,rfl,.inl ⟨Cx,rfl,C.tt⟩⟩,e2,kx.isi,true,rfl,iteT ?_⟩;exact⟨_,rfl,ea,Cx,false,⟨_,rfl,.inl ⟨c_NoHall,rfl,C.th⟩⟩,e2,kx.isi,false,rfl,rfl,rfl⟩
    rintro b H3 ⟨rfl,rfl⟩;refine iteT ⟨_,rfl,ea,Cx,de,_,_,rfl,.inl q1,q2,kx.get,rfl,by show 2<=sizeLine;decide,fun T1 hT1=>?_⟩;exact kT i hr1 T1 _ ((sm.trans s2).new hT1) q0b
   ·refine⟨fun b H3=>b=false/\H3=H2,?_,?_⟩;rotate_left
    ·exact⟨_,rfl,ea,Cx,false,⟨_,rfl,.inl ⟨c_NoText,rfl,C.ht⟩⟩,e2,kx.isi,false,rfl,iteF ⟨rfl,rfl⟩⟩
    rintro b H3 ⟨rfl,rfl⟩;refine iteF ⟨fun b H4=>b=true/\H4=H3,?_,?_⟩;rotate_left
    ·refine⟨_,rfl,ea,Cx,true,⟨_,rfl,.inl ⟨Cx,rfl,C.hh⟩⟩,e2,kx.isi,true,rfl,iteT ?_⟩;exact⟨_,rfl,ea,Cx,false,⟨_,rfl,.inl ⟨c_NoText,rfl,C.ht⟩⟩,e2,kx.isi,false,rfl,rfl,rfl⟩
    rintro b H4 ⟨rfl,rfl⟩;refine iteT ⟨_,rfl,ea,Cx,de,_,_,rfl,.inl q1,q2,kx.get,rfl,by show 2<=sizeLine;decide,fun T1 hT1=>?_⟩;exact(kH rows hr1).1 i bd lst T1 _ ((sm.trans s2).new hT1) q0b
  ·refine⟨_,rfl,l,rfl,hlen,fun k hk ea H' s' hea rf ea' ez=>?_,fun rows hrw=>⟨fun i bd lst ea H' s' hea rf ea' ez=>?_,fun nb h d H6 s6 hh=>?_⟩⟩
   ·cases ez;exact⟨rfl,s',c_NoText, "line",k,rf,C.kt,.inl ⟨rfl,rfl,hk⟩⟩
   ·cases ez;exact⟨rfl,s',c_NoHall, "at",i,rf,C.kh,.inr ⟨rfl,rfl,rows,hrw,bd,lst⟩⟩
   ·refine⟨_,rfl,_,rfl,iteT ⟨_,rfl,by show 2<=sizeLine;decide,fun T1 hT1=>?_⟩⟩;have s7:=(Same.refl H6).new (o:=.tup [.str (Ac "right"),.ref h]) hT1;exact(kH rows hrw).2 nb T1 h d _ (s6.trans s7) (hh.same s7) q0b
end
end K
set_option maxHeartbeats 4000000
namespace K
open PySem L2 TX SB HM PM
section
variable{P:Program}{w:World}{K:Ah}{mg:Str->Option Value}{base:Heap}
def LnOk(B:Nat)(x:List Nat):Prop:=x.length<=B/\∀c∈x,c<128
theorem LnOk.up{B B':Nat}{x:List Nat}(h:LnOk B x)(e:B<=B'):LnOk B' x:=⟨Bi h.1 e,h.2⟩
def okV(m:Nat):V->Bool
 |.str s=>decide (s.length<=m)&&s.cps.all fun c=>decide (c<128)
 |_=>false
structure GoodS (m n:Nat) (xs:List V):Prop where
 len:xs.length=n
 ok:∀v∈xs,∃l,v=.str (mk l)/\LnOk m l
theorem lits{m n:Nat}{xs:List V}(h:(decide (xs.length=n)&&xs.all (okV m))=true):GoodS m n xs:=by
 obtain⟨h1,h2⟩:=Cf.mp h;refine⟨of_decide_eq_true h1,fun v hv=>?_⟩;have h3:=Cq.mp h2 v hv;cases v with
 |str s =>
  obtain⟨h4,h5⟩:=Cf.mp h3;have h4:=of_decide_eq_true h4;refine⟨tl s,by rw[q8g],by rw[<- len];exact h4,fun c hc=>?_⟩;have h6:=Rb.mp h5 c (Array.mem_def.mpr hc);exact of_decide_eq_true h6
 |_=>cases h3
theorem GoodS.cat{m n k:Nat}{xs ys:List V}(a:GoodS m n xs)(b:GoodS m k ys):GoodS m (n+k) (xs++ys):=⟨by rw[Aj,a.len,b.len],fun v hv=>(Aq.mp hv).elim (a.ok v) (b.ok v)⟩
theorem z8g{α:Type}{xs:List α}{n:Nat}{y x:α}(h:x∈insN xs n y):x∈xs\/x=y:=by
 rcases Aq.mp h with h|h
 ·exact .inl (Fj h)
 ·rcases Az.mp h with h|h
  ·exact .inr h
  ·exact .inl (Lk h)
theorem insN_map{α β:Type}{f:α->β}{xs:List α}{n:Nat}{y:α}:(insN xs n y).map f=insN (xs.map f) n (f y):=by
 unfold insN;rw[Ap,Mu,Ao,List.map_drop]
theorem z8h{α:Type}{xs:List α}{n:Nat}{y:α}:(insN xs n y).length=xs.length+1:=by
 unfold insN;rw[Aj,Aw,Bu,Dj];lia
def spOther:Sp:=fun vs H Q _=>∃a b,vs=[.ref a]/\FeedAt H a b/\∀l H',LnOk 100 l->Fd a b H H'->Q (.str (mk l)) H'
theorem mul_y(n:Nat)(h:n<=20)(h1:1<=n):MulOk (Ac "y") (n:Int):=by
 have e1:(Ac "y").length=1:=by decide +kernel
 refine⟨?_,fun _ _=>?_,fun _ _=>?_⟩
 ·rw[Bool.or_eq_false_iff];exact⟨decide_eq_false (by lia),decide_eq_false (by lia)⟩
 ·rw[e1];have h0:0<(n:Int):=by lia
  have:1<=(2^63-1:Int) / (n:Int):=(Int.le_ediv_iff_mul_le h0).mpr (by lia);lia
 ·rw[e1];unfold Ql;exact decide_eq_false (by have:=bigline;lia)
abbrev q2l:Stmt:=top 60
theorem sc_other_line:FnScope ["_law_feed", "_law_some"] ["_law_feed"] (defScope q2l):=by trivial
set_option maxHeartbeats 40000000 in
theorem q7r(D:Df K mg "_law_other_line" q2l ["_law_feed"])(T:Txt mg)(C:Calls P w K mg base):Cal P w K mg base "_law_other_line" 2 ["_law_feed"] spOther:=by
 refine D.cal sc_other_line (fun vs H Q E h=>?_) (fun f cdv A outer s H vs Q E hr h=>?_)
 ·obtain⟨a,b,rfl,_⟩:=h;rfl
 ·obtain⟨a,b,rfl,F,k⟩:=h;refine⟨_,(@q0d _ _ _ _ _ (@q0j _ _ (1) _ _ _ _ sc_other_line.nd rfl (by trivial) (@q1d _ _ _ _ (@q0a _ _ _ _ _ q0h (@q0a _ _ _ _ _ q0h (@q0a _ _ _ _ _ q0h (@q0a _ _ _ _ _ q0h (@q0a _ _ _ _ _ q0h (@q0a _ _ _ _ _ q0h (@q0a _ _ _ _ _ q0h (@q0a _ _ _ _ _ q0h (@q0a _ _ _ _ _ q0h (@q0a _ _ _ _ _ q0h (@q0a _ _ _ _ _ q0h q0c (by rfl)) (by rfl)) (by rfl)) (by rfl)) (by rfl)) (by rfl)) (by rfl)) (by rfl)) (by rfl)) (by rfl)) (by rfl))) (by rfl) (by first|exact .inl rfl|exact .inr rfl|assumption)) (@q0d _ _ _ _ _ (@q0j _ _ (1) _ _ _ _ sc_other_line.nd rfl (by trivial) (@q0u _ _ _ _ _ _ _ _ q0p (pv 1) (@q1d _ _ _ _ (@q0a _ _ _ _ _ q0h (@q0a _ _ _ _ _ q0h (@q0a _ _ _ _ _ q0h (@q0a _ _ _ _ _ q0h (@q0a _ _ _ _ _ q0h (@q0a _ _ _ _ _ q0h q0c (by rfl)) (by rfl)) (by rfl)) (by rfl)) (by rfl)) (by rfl)))) (by rfl) (by first|exact .inl rfl|exact .inr rfl|assumption)) (@q0d _ _ _ _ _ (@q0j _ _ (1) _ _ _ _ sc_other_line.nd rfl (by trivial) (@q0u _ _ _ _ _ _ _ _ q0p (pv 1) (@q1d _ _ _ _ (@q0a _ _ _ _ _ q0h (@q0a _ _ _ _ _ q0h (@q0a _ _ _ _ _ q0h (@q0a _ _ _ _ _ q0h (@q0a _ _ _ _ _ q0h (@q0a _ _ _ _ _ q0h (@q0a _ _ _ _ _ q0h q0c (by rfl)) (by rfl)) (by rfl)) (by rfl)) (by rfl)) (by rfl)) (by rfl)))) (by rfl) (by first|exact .inl rfl|exact .inr rfl|assumption)) (@q0d _ _ _ _ _ (@q0j _ _ (1) _ _ _ _ sc_other_line.nd rfl (by trivial) (@q0u _ _ _ _ _ _ _ _ q0p (pv 1) (@q1d _ _ _ _ (@q0a _ _ _ _ _ q0h (@q0a _ _ _ _ _ (@q0u _ _ _ _ _ _ _ _ q0p (@q0u _ _ _ _ _ _ _ _ q0p q0h (@q0u _ _ _ _ _ _ _ _ q3j q0h q0g)) q0h) (@q0a _ _ _ _ _ (@q0u _ _ _ _ _ _ _ _ q0p (@q0u _ _ _ _ _ _ _ _ q0p q0h (@q0u _ _ _ _ _ _ _ _ q3j q0h q0g)) q0h) (@q0a _ _ _ _ _ q0h q0c (by rfl)) (by rfl)) (by rfl)) (by rfl)))) (by rfl) (by first|exact .inl rfl|exact .inr rfl|assumption)) (@q0d _ _ _ _ _ (@q0j _ _ (1) _ _ _ _ sc_other_line.nd rfl (by trivial) (@q0u _ _ _ _ _ _ _ _ q0p (pv 1) (@q1d _ _ _ _ (@q0a _ _ _ _ _ q0h (@q0a _ _ _ _ _ q0h q0c (by rfl)) (by rfl)))) (by rfl) (by first|exact .inl rfl|exact .inr rfl|assumption)) (@q0d _ _ _ _ _ (@q0j _ _ (1) _ _ _ _ sc_other_line.nd rfl (by trivial) (@q0u _ _ _ _ _ _ _ _ q0p (pv 1) (@q1d _ _ _ _ (@q0a _ _ _ _ _ q0h (@q0a _ _ _ _ _ q0h (@q0a _ _ _ _ _ q0h (@q0a _ _ _ _ _ q0h (@q0a _ _ _ _ _ q0h (@q0a _ _ _ _ _ q0h (@q0a _ _ _ _ _ q0h q0c (by rfl)) (by rfl)) (by rfl)) (by rfl)) (by rfl)) (by rfl)) (by rfl)))) (by rfl) (by first|exact .inl rfl|exact .inr rfl|assumption)) (@q0f _ _ _ (@q0m _ _ _ _ (@q0z _ _ _ _ _ _ _ (ix_k K rfl) (pv 1) (@pe_c _ _ _ _ _ _ _ _ _ _ _ C.draw hr (@q0a _ _ _ _ _ (pv 0) (@q0a _ _ _ _ _ (@q0i _ _ _ _ _ _ _ _ _ (q1m K rfl) (by rfl) T.b_len Bg (@q0a _ _ _ _ _ (pv 1) q0c (by rfl)) (by decide) (by decide) (by rfl) (by rfl)) q0c (by rfl)) (by rfl)) (by decide) (by rfl) (by decide) (by rfl) (by rfl)) (fun _ _=>rfl)))))))))),?_⟩;refine⟨by show 11<=sizeLine;decide,fun l1 hl1=>?_⟩;generalize hH1:upd H l1 _=H1;obtain⟨s1,xs1,h1,g1⟩:Same H H1/\∃xs,H1 l1=some (.lst xs)/\GoodS 100 11 xs:=⟨by rw[<- hH1];exact(Same.refl H).new hl1,_,by rw[<- hH1];exact q0b,lits (by decide +kernel)⟩
  clear hH1;have sm1:=s1;refine⟨_,rfl,by show 6<=sizeLine;decide,fun m2 hm2=>?_⟩;generalize hH2:upd H1 m2 _=G2;obtain⟨t2,ys2,hy2,gy2⟩:Same H1 G2/\∃xs,G2 m2=some (.lst xs)/\GoodS 100 6 xs:=⟨by rw[<- hH2];exact(Same.refl H1).new hm2,_,by rw[<- hH2];exact q0b,lits (by decide +kernel)⟩
  clear hH2;refine .inr (.inr ⟨l1,m2,_,_,rfl,rfl,t2 _ _ h1,hy2,by rw[g1.len,gy2.len];decide,fun l2 hl2=>?_⟩);generalize hH2:upd G2 l2 _=H2;obtain⟨s2,h2⟩:Same G2 H2/\H2 l2=some (.lst (xs1++ys2)):=⟨by rw[<- hH2];exact(Same.refl G2).new hl2,by rw[<- hH2];exact q0b⟩
  clear hH2;have g2:=g1.cat gy2;have sm2:=(sm1.trans t2).trans s2;generalize xs1++ys2=xs2 at h2 g2;refine⟨_,rfl,by show 7<=sizeLine;decide,fun m3 hm3=>?_⟩;generalize hH3:upd H2 m3 _=G3;obtain⟨t3,ys3,hy3,gy3⟩:Same H2 G3/\∃xs,G3 m3=some (.lst xs)/\GoodS 100 7 xs:=⟨by rw[<- hH3];exact(Same.refl H2).new hm3,_,by rw[<- hH3];exact q0b,lits (by decide +kernel)⟩
  clear hH3;refine .inr (.inr ⟨l2,m3,_,_,rfl,rfl,t3 _ _ h2,hy3,by rw[g2.len,gy3.len];decide,fun l3 hl3=>?_⟩);generalize hH3:upd G3 l3 _=H3;obtain⟨s3,h3⟩:Same G3 H3/\H3 l3=some (.lst (xs2++ys3)):=⟨by rw[<- hH3];exact(Same.refl G3).new hl3,by rw[<- hH3];exact q0b⟩
  clear hH3;have g3:=g2.cat gy3;have sm3:=(sm2.trans t3).trans s3;generalize xs2++ys3=xs3 at h3 g3;refine⟨_,rfl,.inr (.inl ⟨_,_,rfl,rfl,mul_y 13 (by decide) (by decide),.inr (.inl ⟨_,_,rfl,rfl,by decide +kernel,.inr (.inl ⟨_,_,rfl,rfl,by decide +kernel,?_⟩)⟩)⟩)⟩;refine .inr (.inl ⟨_,_,rfl,rfl,mul_y 12 (by decide) (by decide),.inr (.inl ⟨_,_,rfl,rfl,by decide +kernel,.inr (.inl ⟨_,_,rfl,rfl,by decide +kernel,?_⟩)⟩)⟩);refine⟨by show 4<=sizeLine;decide,fun m4 hm4=>?_⟩;generalize hH4:upd H3 m4 _=G4;obtain⟨t4,ys4,hy4,gy4⟩:Same H3 G4/\∃xs,G4 m4=some (.lst xs)/\GoodS 100 4 xs:=⟨by rw[<- hH4];exact(Same.refl H3).new hm4,_,by rw[<- hH4];exact q0b,lits (by decide +kernel)⟩
  clear hH4;refine .inr (.inr ⟨l3,m4,_,_,rfl,rfl,t4 _ _ h3,hy4,by rw[g3.len,gy4.len];decide,fun l4 hl4=>?_⟩);generalize hH4:upd G4 l4 _=H4;obtain⟨s4,h4⟩:Same G4 H4/\H4 l4=some (.lst (xs3++ys4)):=⟨by rw[<- hH4];exact(Same.refl G4).new hl4,by rw[<- hH4];exact q0b⟩
  clear hH4;have g4:=g3.cat gy4;have sm4:=(sm3.trans t4).trans s4;generalize xs3++ys4=xs4 at h4 g4;refine⟨_,rfl,by show 2<=sizeLine;decide,fun m5 hm5=>?_⟩;generalize hH5:upd H4 m5 _=G5;obtain⟨t5,ys5,hy5,gy5⟩:Same H4 G5/\∃xs,G5 m5=some (.lst xs)/\GoodS 100 2 xs:=⟨by rw[<- hH5];exact(Same.refl H4).new hm5,_,by rw[<- hH5];exact q0b,lits (by decide +kernel)⟩
  clear hH5;refine .inr (.inr ⟨l4,m5,_,_,rfl,rfl,t5 _ _ h4,hy5,by rw[g4.len,gy5.len];decide,fun l5 hl5=>?_⟩);generalize hH5:upd G5 l5 _=H5;obtain⟨s5,h5⟩:Same G5 H5/\H5 l5=some (.lst (xs4++ys5)):=⟨by rw[<- hH5];exact(Same.refl G5).new hl5,by rw[<- hH5];exact q0b⟩
  clear hH5;have g5:=g4.cat gy5;have sm5:=(sm4.trans t5).trans s5;generalize xs4++ys5=xs5 at h5 g5;refine⟨_,rfl,by show 7<=sizeLine;decide,fun m6 hm6=>?_⟩;generalize hH6:upd H5 m6 _=G6;obtain⟨t6,ys6,hy6,gy6⟩:Same H5 G6/\∃xs,G6 m6=some (.lst xs)/\GoodS 100 7 xs:=⟨by rw[<- hH6];exact(Same.refl H5).new hm6,_,by rw[<- hH6];exact q0b,lits (by decide +kernel)⟩
  clear hH6;refine .inr (.inr ⟨l5,m6,_,_,rfl,rfl,t6 _ _ h5,hy6,by rw[g5.len,gy6.len];decide,fun l6 hl6=>?_⟩);generalize hH6:upd G6 l6 _=H6;obtain⟨s6,h6⟩:Same G6 H6/\H6 l6=some (.lst (xs5++ys6)):=⟨by rw[<- hH6];exact(Same.refl G6).new hl6,by rw[<- hH6];exact q0b⟩
  clear hH6;have g6:=g5.cat gy6;have sm6:=(sm5.trans t6).trans s6;generalize xs5++ys6=xs6 at h6 g6;refine⟨_,rfl,_,rfl,_,rfl,_,_,rfl,.inl ⟨_,SqL.of h6,rfl⟩,a,b,_,rfl,((Fd.refl F).same sm6).feed,by rw[g6.len];decide,by rw[g6.len];decide,fun r H7 r0 r1 fd7=>?_⟩;have fdA:=((Fd.refl F).same sm6).trans fd7;obtain⟨v,hv1,hv2⟩:=q6i (xs:=xs6) r0 r1;obtain⟨x,rfl,okx⟩:=g6.ok v (Au hv1);have hl6:l6≠a:=(F.na ((sm5.trans t6).free hl6)).symm;exact .inl ⟨l6,_,r,_,rfl,rfl,SqL.of (fd7.at h6 hl6),hv2,k x _ okx fdA⟩
end
end K
set_option maxHeartbeats 4000000
namespace K
open PySem L2 TX SB HM PM
section
variable{P:Program}{w:World}{K:Ah}{mg:Str->Option Value}{base:Heap}
structure CallsSp (P:Program) (w:World) (K:Ah) (mg:Str->Option Value) (base:Heap):Prop where
 draw:Cal P w K mg base "_law_draw" 1 ["_law_feed", "_law_many"] spDraw
 other_line:Cal P w K mg base "_law_other_line" 2 ["_law_feed"] spOther
def spSpoilt:Sp:=fun vs H Q _=>∃a b L ls B,vs=[.ref a,.ref L]/\FeedAt H a b/\H L=some (.lst (vL ls))/\(∀x∈ls,LnOk B x)/\ls.length<=100/\100<=B/\B<=200/\L≠a/\∀L' ls' H',Fd a b H H'->H L'=none->H' L'=some (.lst (vL ls'))->(∀x∈ls',LnOk (B+1) x)->ls'.length<=ls.length+1->Q (.ref L') H'
abbrev q5w:Stmt:=top 61
theorem sc_spoilt:FnScope ["_law_feed", "_law_lines", "_law_at", "_law_way", "_law_some", "_law_line_here", "_law_spot", "_law_sign"] ["_law_feed", "_law_lines"] (defScope q5w):=by trivial
set_option maxHeartbeats 40000000 in
theorem z6g(D:Df K mg "_law_spoilt" q5w ["_law_feed", "_law_lines"])(T:Txt mg)(C:CallsSp P w K mg base):Cal P w K mg base "_law_spoilt" 3 ["_law_feed", "_law_lines"] spSpoilt:=by
 refine D.cal sc_spoilt (fun vs H Q E h=>?_) (fun f cdv A outer s H vs Q E hr h=>?_)
 ·obtain⟨a,b,L,ls,B,rfl,_⟩:=h;rfl
 ·obtain⟨a,b,L,ls,B,rfl,F,hL,okl,h100,hB0,hB1,hLa,k⟩:=h;refine⟨_,(q0d (q0j (i:=2) sc_spoilt.nd rfl (by trivial) (pe_c C.draw hr (q0a (pv 0) (q0a (q0u q0p (q0i (q1m K rfl) (by rfl) T.b_len Bg (q0a (pv 1) q0c)) q0g) q0c)))) (q0d (q0j (i:=3) sc_spoilt.nd rfl (by trivial) (pe_c C.draw hr (q0a (pv 0) (q0a q0g q0c)))) (q0d (q0v (pt_j (@PW.pt _ _ _ (q2n (q0l z6n (pv 3) q0g (nomark _)) (q1q (q0l (eq_k K rfl hr) (pv 1) (q1d q0c) (nomark _)))))) (q0f (q0m (q0u q0p (q0u q0p (q1i (sl_k K rfl) (pv 1) q1t (q1u (pv 2))) (q1d (q0a (pe_c C.other_line hr (q0a (pv 0) q0c)) q0c))) (q1i (sl_k K rfl) (pv 1) (q1u (pv 2)) q1t)))) q0k) (q0d (q0j (i:=2) sc_spoilt.nd rfl (by trivial) (pe_c C.draw hr (q0a (pv 0) (q0a (q0i (q1m K rfl) (by rfl) T.b_len Bg (q0a (pv 1) q0c)) q0c)))) (q0d (q0j (i:=4) sc_spoilt.nd rfl (by trivial) (q0x (z3t K rfl) (by rfl) T.b_list (by decide +kernel) (q0a (pv 1) q0c))) (q1j (q0v (q0l (eq_k K rfl hr) (pv 3) q0g (nomark _)) (q0f (q1z (@bm_k _ _ _ _ _ _ _ _ _ _ _ _ K rfl Ce Pr Pu z0k (pv 4) (q0a (pv 2) q0c) (by rfl) (by rfl) (by rfl) (by rfl) (by rfl)))) q0k) (q1j (q0v (q0l (eq_k K rfl hr) (pv 3) q0g (nomark _)) (q0f (q1z (@bm_k _ _ _ _ _ _ _ _ _ _ _ _ K rfl Ce PySem.F.slot_list_insert PySem.F.type_list_insert z2j (pv 4) (q0a (pe_c C.draw hr (q0a (pv 0) (q0a (q0i (q1m K rfl) (by rfl) T.b_len Bg (q0a (pv 1) q0c)) q0c))) (q0a (q0z (ix_k K rfl) (pv 4) (pv 2) (fun _ _=>rfl)) q0c)) (by rfl) (by rfl) (by rfl) (by rfl) (by rfl)))) q0k) (q1j (q0v (q0l q3y (pv 3) q0g (nomark _)) (q0d (q0j (i:=5) sc_spoilt.nd rfl (by trivial) (q0z (ix_k K rfl) (pv 4) (pv 2) (fun _ _=>rfl))) (q0d (q0j (i:=6) sc_spoilt.nd rfl (by trivial) (pe_c C.draw hr (q0a (pv 0) (q0a (q0u q0p (q0i (q1m K rfl) (by rfl) T.b_len Bg (q0a (pv 5) q0c)) q0g) q0c)))) (q0d (q0j (i:=7) sc_spoilt.nd rfl (by trivial) (q0z (ix_k K rfl) (q1d (q0a q0h (q0a q0h (q0a q0h (q0a q0h (q0a q0h (q0a q0h (q0a q0h (q0a q0h q0c))))))))) (pe_c C.draw hr (q0a (pv 0) (q0a q0g q0c))) (fun _ _=>rfl))) (q0f (q6d (q0u q0p (q0u q0p (q1i (sl_k K rfl) (pv 5) q1t (q1u (pv 6))) (pv 7)) (q1i (sl_k K rfl) (pv 5) (q1u (q0u q0p (pv 6) (pe_c C.draw hr (q0a (pv 0) (q0a q0g q0c))))) q1t)) (z0g (pv 4) (pv 2) q4o)))))) q0k) (q0f (q0m (pv 4))))))))))),?_⟩;have hlm:(vL ls).length=ls.length:=Ad _;refine⟨_,rfl,_,rfl,_,_,rfl,.inl ⟨_,SqL.of hL,rfl⟩,.inl ⟨_,_,rfl,rfl,a,b,_,rfl,F,by rw[hlm];lia,by rw[hlm];lia,fun r0 H1 r00 r01 fd1=>?_⟩⟩;rw[hlm] at r01;obtain⟨n,rfl⟩:∃n:Nat,r0=(n:Int):=⟨r0.toNat,by lia⟩
  have hn:n<=(vL ls).length:=by rw[hlm];lia
  have hL1:=fd1.at hL hLa;refine⟨_,rfl,a,b,_,rfl,fd1.feed,by decide,by decide,fun wy H2 wy0 wy1 fd2=>?_⟩;have hL2:=fd2.at hL1 hLa;have fd2':=fd1.trans fd2;refine⟨fun bb H3=>Same H2 H3/\(bb=false->ls≠[]/\2<=wy),?_,?_⟩;rotate_left
  ·refine⟨_,rfl,_,_,rfl,rfl,_,rfl,iteB (fun h=>⟨Same.refl _,fun z=>(by cases z)⟩) (fun h=>?_)⟩;have h2:=of_decide_eq_false h;refine⟨_,rfl,by show 0<=sizeLine;decide,fun E0 hE0=>?_⟩;have s3:=(Same.refl H2).new (o:=.lst []) hE0;refine .inr ⟨_,_,.lst (SqL.of (s3 _ _ hL2)) (by rw[<- z5x];exact q9v _),.lst (SqL.of q0b) .nil,?_,by decide +kernel,Bi (Tx _ _) (dep_l _),_,rfl,s3,fun z=>⟨fun e=>?_,by lia⟩⟩
   ·simp only[Gr];exact z6e fun x hx=>(okl x hx).2
   ·rw[e] at z;simp[Ds,Ep] at z
  rintro bb H3 ⟨s3,hbb⟩;have hL3:=s3 _ _ hL2;have fd3:=fd2'.same s3;refine ite2 (fun h=>?_) (fun h=>?_)
  ·refine⟨_,rfl,_,rfl,_,rfl,.inr (.inl ⟨L,_,rfl,SqL.of hL3,fun l1 hl1=>?_⟩)⟩;rw[z6a];have s5:=(Same.refl H3).new (o:=.lst ((vL ls).take n)) hl1;have h5:upd H3 l1 (.lst ((vL ls).take n)) l1=some (.lst ((vL ls).take n)):=q0b;generalize upd H3 l1 (.lst ((vL ls).take n))=H5 at s5 h5;have fd5:=fd3.same s5;have hl1a:l1≠a:=(fd3.feed.na hl1).symm;refine⟨_,rfl,a,b,rfl,fd5.feed,fun x H6 okx fd6=>⟨by show 1<=sizeLine;decide,fun l2 hl2=>?_⟩⟩;have h6:=fd6.at h5 hl1a;have hL6:=fd6.at (s5 _ _ hL3) hLa;have fd6':=fd5.trans fd6;have s7:=(Same.refl H6).new (o:=.lst [.str (mk x)]) hl2;refine .inr (.inr ⟨l1,l2,_,_,rfl,rfl,s7 _ _ h6,q0b,small (by rw[Bu];show _+1<=_;lia),fun l3 hl3=>?_⟩);generalize upd H6 l2 (.lst [.str (mk x)])=H7 at s7 hl3;have s8:=(Same.refl H7).new (o:=.lst ((vL ls).take n++[.str (mk x)])) hl3;have h8:upd H7 l3 (.lst ((vL ls).take n++[.str (mk x)])) l3=some (.lst ((vL ls).take n++[.str (mk x)])):=q0b;generalize upd H7 l3 (.lst ((vL ls).take n++[.str (mk x)]))=H8 at s8 h8;refine⟨_,rfl,_,rfl,_,rfl,.inr (.inl ⟨L,_,rfl,SqL.of (s8 _ _ (s7 _ _ hL6)),fun l4 hl4=>?_⟩)⟩;rw[z6b _ _ hn];have s9:=(Same.refl H8).new (o:=.lst ((vL ls).drop n)) hl4;refine .inr (.inr ⟨l3,l4,_,_,rfl,rfl,s9 _ _ h8,q0b,small (by rw[Aj,Bu,Dj];show _+1+_<=_;lia),fun l5 hl5=>?_⟩);have sA:=((s7.trans s8).trans s9).new (o:=.lst (((vL ls).take n++[.str (mk x)])++(vL ls).drop n)) hl5;refine k l5 (ls.take n++[x]++ls.drop n) _ (fd6'.same sA) (fd6'.free (((s7.trans s8).trans s9).free hl5)) ?_ (fun y hy=>?_) ?_
   ·rw[q0b];show some (HO.lst _)=some (HO.lst ((ls.take n++[x]++ls.drop n).map _));rw[Ap,Ap,Mu,List.map_drop];rfl
   ·rcases Aq.mp hy with hy|hy
    ·rcases Aq.mp hy with hy|hy
     ·exact(okl y (Fj hy)).up (by lia)
     ·rw[An.mp hy];exact okx.up (by lia)
    ·exact(okl y (Lk hy)).up (by lia)
   ·rw[Aj,Aj,Bu,Dj];show _+1+_<=_;lia
  have hbf:bb=false:=by cases bb with|false=>rfl|true=>exact absurd rfl h
  obtain⟨hne,hwy⟩:=hbb hbf;have hpos:=Ck.mpr hne;refine⟨_,rfl,_,rfl,_,_,rfl,.inl ⟨_,SqL.of hL3,rfl⟩,a,b,_,rfl,fd3.feed,by rw[hlm];lia,by rw[hlm];lia,fun r4 H4 r40 r41 fd4=>?_⟩;rw[hlm] at r41;have hL4:=fd4.at hL3 hLa;have fd4':=fd3.trans fd4;refine⟨_,rfl,L,_,rfl,.inl (SqL.of hL4),fun L2 hL2f=>?_⟩;have hL2H:H L2=none:=fd4'.free hL2f;have hL2a:L2≠a:=(F.na hL2H).symm;have s5:=(Same.refl H4).new (o:=.lst (vL ls)) hL2f;have h5:upd H4 L2 (.lst (vL ls)) L2=some (.lst (vL ls)):=q0b;generalize upd H4 L2 (.lst (vL ls))=H5 at s5 h5;have fd5:=fd4'.same s5;have hLL:L≠L2:=fun z=>by rw[z,hL2f] at hL4;cases hL4
  have hL5:=s5 _ _ hL4;obtain⟨x,hx1,hx2⟩:=q6i (xs:=ls) r40 r41;obtain⟨j,hj1,hj2,hj3,_,_⟩:=q4u hx2;have hxok:=okl x (Au hx1);have hat:atI (vL ls) r4=some (.str (mk x)):=by
   have e:r4=((r4.toNat:Nat):Int):=by lia
   rw[e];exact q5s hx1
  refine⟨fun σ' H'=>∃ls',σ'=[some (.ref a),some (.ref L),some (.int r4),some (.int wy),some (.ref L2),none,none,none]/\Fd a b H H'/\H' L2=some (.lst (vL ls'))/\H' L=some (.lst (vL ls))/\(∀x∈ls',LnOk B x)/\ls'.length<=ls.length/\(wy≠2->ls'=ls),?_,?_⟩;rotate_left
  ·refine⟨_,rfl,.inl ⟨rfl,_,rfl,ite2 (fun h=>?_) (fun h=>?_)⟩⟩
   ·have h2:V.int wy=V.int 2:=of_decide_eq_true h;refine⟨_,rfl,.inl ⟨rfl,_,SqL.of h5⟩,_,rfl,?_⟩;refine⟨L2,_,r4,j,.str (mk x),rfl,rfl,h5,by lia,by lia,by rw[hlm];exact hj1,by rw[Bk,hj2];rfl,?_⟩;refine⟨ls.eraseIdx j,rfl,fd5.put F hL2H,?_,by rw[q0e hLL];exact hL5,fun y hy=>okl y (Nz hy),by rw[Qd,if_pos hj3];lia,fun z=>absurd (by injection h2) z⟩;rw[q0b];exact congrArg (fun z=>some (HO.lst z)) (ers_map _ ls j)
   ·exact⟨ls,rfl,fd5,h5,hL5,okl,Ak _,fun _=>rfl⟩
  rintro σ' H6 ⟨l6,rfl,fd6,h6,hL6,ok6,len6,e6⟩;refine⟨fun σ' H'=>∃ls',σ'=[some (.ref a),some (.ref L),some (.int r4),some (.int wy),some (.ref L2),none,none,none]/\Fd a b H H'/\H' L2=some (.lst (vL ls'))/\(∀x∈ls',LnOk B x)/\ls'.length<=ls.length+1/\(3<wy->ls'=ls),?_,?_⟩;rotate_left
  ·refine⟨_,rfl,.inl ⟨rfl,_,rfl,ite2 (fun h=>?_) (fun h=>?_)⟩⟩
   ·have h3:V.int wy=V.int 3:=of_decide_eq_true h;have h3:wy=3:=by injection h3
    have e:=e6 (by lia);subst e;refine⟨_,rfl,.inl ⟨rfl,_,SqL.of h6⟩,_,rfl,_,rfl,_,_,rfl,.inl ⟨_,SqL.of hL6,rfl⟩,a,b,_,rfl,fd6.feed,by rw[hlm];lia,by rw[hlm];lia,fun r7 H7 r70 r71 fd7=>?_⟩;rw[hlm] at r71;have h7:=fd7.at h6 hL2a;refine⟨_,rfl,_,rfl,.inl ⟨L2,_,r4,_,rfl,rfl,SqL.of h7,hat,?_⟩⟩;have e7:r7=((r7.toNat:Nat):Int):=by lia
    refine⟨L2,_,.str (mk x),r7.toNat,rfl,by rw[<- e7],h7,by rw[hlm];exact small' (by lia),by rw[hlm];lia,by lia,?_⟩;refine⟨insN l6 r7.toNat x,rfl,(fd6.trans fd7).put F hL2H,?_,fun y hy=>?_,by rw[z8h];lia,fun z=>absurd z (by lia)⟩
    ·rw[q0b];exact congrArg (fun z=>some (HO.lst z)) insN_map.symm
    ·rcases z8g hy with hy|rfl
     ·exact okl y hy
     ·exact hxok
   ·exact⟨l6,rfl,fd6,h6,ok6,by lia,fun z=>e6 (by lia)⟩
  rintro σ' H7 ⟨l7,rfl,fd7,h7,ok7,len7,e7⟩;refine⟨fun σ' H'=>∃ls' x5 x6 x7,σ'=[some (.ref a),some (.ref L),some (.int r4),some (.int wy),some (.ref L2),x5,x6,x7]/\Fd a b H H'/\H' L2=some (.lst (vL ls'))/\(∀x∈ls',LnOk (B+1) x)/\ls'.length<=ls.length+1,?_,?_⟩
  ·rintro σ' H8 ⟨l8,x5,x6,x7,rfl,fd8,h8,ok8,len8⟩;exact⟨_,rfl,k L2 l8 _ fd8 hL2H h8 ok8 len8⟩
  refine⟨_,rfl,_,_,rfl,rfl,_,rfl,ite2 (fun h=>?_) (fun h=>?_)⟩;rotate_left
  ·exact⟨l7,_,_,_,rfl,fd7,h7,fun y hy=>(ok7 y hy).up (by lia),len7⟩
  have h3:wy>3:=of_decide_eq_true h;have e:=e7 h3;subst e;have ex:=q0o x;have hxl:=hxok.1;refine⟨_,rfl,_,rfl,.inl ⟨L2,_,r4,_,rfl,rfl,SqL.of h7,hat,?_⟩⟩;refine⟨_,rfl,_,rfl,_,_,rfl,⟨small (by lia),rfl⟩,.inl ⟨_,_,rfl,rfl,a,b,_,rfl,fd7.feed,by lia,by lia,fun sp H8 sp0 sp1 fd8=>?_⟩⟩;have h8:=fd8.at h7 hL2a;have fd8':=fd7.trans fd8;refine⟨by show 8<=sizeLine;decide,fun M hM=>?_⟩;generalize hH9:upd H8 M _=H9;obtain⟨s9,xs,h9,g9⟩:Same H8 H9/\∃xs,H9 M=some (.lst xs)/\GoodS 1 8 xs:=⟨by rw[<- hH9];exact(Same.refl H8).new hM,_,by rw[<- hH9];exact q0b,lits (by decide +kernel)⟩
  clear hH9;have hMa:M≠a:=(fd8'.feed.na hM).symm;have fd9:=fd8'.same s9;refine⟨_,rfl,a,b,_,rfl,fd9.feed,by decide,by decide,fun r9 HA r90 r91 fdA=>?_⟩;obtain⟨v,hv1,hv2⟩:=q6i (xs:=xs) r90 (by rw[g9.len];exact r91);obtain⟨sg,rfl,oks⟩:=g9.ok v (Au hv1);refine .inl ⟨M,_,r9,_,rfl,rfl,SqL.of (fdA.at h9 hMa),hv2,?_⟩;have hA:=fdA.at (s9 _ _ h8) hL2a;have fdA':=fd9.trans fdA;refine⟨_,rfl,_,rfl,_,rfl,.inl ⟨_,rfl,small (by lia),?_⟩⟩;rw[z6c sp0];have t1:(x.take sp.toNat).length<=B:=by rw[Bu];lia
  have hs1:=oks.1;refine⟨_,rfl,.inr (.inl ⟨_,_,rfl,rfl,by rw[q0o,q0o];exact small (by lia),?_⟩)⟩;rw[q2y];refine⟨_,rfl,_,rfl,_,rfl,a,b,_,rfl,fdA'.feed,by decide,by decide,fun rB HB rB0 rB1 fdB=>?_⟩;refine .inl ⟨_,_,rfl,rfl,_,rfl,.inl ⟨_,rfl,small (by lia),?_⟩⟩;rw[z0d (by lia)];have t2:(x.drop (sp+rB).toNat).length<=x.length-sp.toNat:=by rw[Dj];lia
  have t3:(x.take sp.toNat).length<=sp.toNat:=by rw[Bu];lia
  refine .inr (.inl ⟨_,_,rfl,rfl,by rw[q0o,q0o,Aj];exact small (by lia),?_⟩);rw[q2y];have hB:=fdB.at hA hL2a;refine⟨_,rfl,_,rfl,L2,_,r4,r4.toNat,rfl,rfl,hB,?_,?_⟩
  ·unfold ixN;rw[hlm,if_pos r40,if_pos r41]
  refine⟨l7.set r4.toNat (x.take sp.toNat++sg++x.drop (sp+rB).toNat),_,_,_,rfl,(fdA'.trans fdB).put F hL2H,?_,fun y hy=>?_,by rw[Tg];lia⟩
  ·rw[q0b];exact congrArg (fun z=>some (HO.lst z)) List.map_set.symm
  ·rcases List.mem_or_eq_of_mem_set hy with hy|rfl
   ·exact(okl y hy).up (by lia)
   ·refine⟨by rw[Aj,Aj];lia,fun c hc=>?_⟩;rcases Aq.mp hc with hc|hc
    ·rcases Aq.mp hc with hc|hc
     ·exact hxok.2 c (Fj hc)
     ·exact oks.2 c hc
    ·exact hxok.2 c (Lk hc)
end
end K
set_option maxHeartbeats 4000000
namespace K
open PySem L2 TX SB HM PM
section
variable{P:Program}{w:World}{K:Ah}{mg:Str->Option Value}{base:Heap}
theorem foldR:∀{rs acc:List HRow},((acc++rs).map (·.1)).Nodup->rs.foldl putR (acc.map fun r=>(kP r.1,r.2))=(acc++rs).map fun r=>(kP r.1,r.2)
 |[],acc,_=>by rw[Ei];rfl
 |r::rs,acc,nd=>by
  have e:acc++r::rs=(acc++[r])++rs:=by rw[Fq];rfl
  show rs.foldl putR (putK (acc.map fun r=>(kP r.1,r.2)) (kP r.1) r.2)=_;rw[q7m (p:=r.1) (v:=r.2) fun x hx z=>by
   rw[Ap,Ao] at nd;exact(Sg.mp nd).2.2 _ (Ay.mpr ⟨x,hx,rfl⟩) _ Am z]
  rw[e] at nd ⊢;exact foldR nd
theorem z6h{bl:Bool}{zs:List Zr}(hl:Hl bl (zs.map (·.2))):HO.dT ((zs.map fun z=>rR z.2).foldl putR [])=dR ((zs.map (·.2)).map rR):=by
 have er:(zs.map fun z=>rR z.2)=(zs.map (·.2)).map rR:=by rw[Bj];rfl
 have nd2:(((zs.map (·.2)).map rR).map (·.1)).Nodup:=by rw[Bj];exact hl.paths
 rw[er];exact congrArg HO.dT (foldR (acc:=[]) nd2)
theorem fi_ns:∀c∈FI,c∈NS:=by decide +kernel
theorem mulN{n:Int}(h:n=0\/n=1):∃u:List Nat,Txt.mul (⟨#[10]⟩:Str) n=mk u/\(u=[]\/u=[10])/\MulOk (⟨#[10]⟩:Str) n:=by
 rcases h with rfl|rfl
 ·refine⟨[],rfl,.inl rfl,by decide,fun h=>absurd (by decide) h,fun h=>absurd (by decide) h⟩
 ·refine⟨[10],rfl,.inr rfl,by decide,fun _ h=>?_,fun _ h=>?_⟩
  ·cases h
  ·cases h
theorem z9i{s:Nat}:∀{xs:List (List Nat)} {c:Nat},c∈PC.jc s xs->c=s\/∃x∈xs,c∈x
 |[],c,h=>by cases h
 |[a],c,h=>.inr ⟨a,Am,h⟩
 |a::b::r,c,h=>by
  have h:c∈a++s::PC.jc s (b::r):=h;rcases Aq.mp h with h|h
  ·exact .inr ⟨a,Am,h⟩
  ·rcases Az.mp h with h|h
   ·exact .inl h
   ·rcases z9i h with h|⟨x,hx,hc⟩
    ·exact .inl h
    ·exact .inr ⟨x,Ai _ hx,hc⟩
theorem z9j{q:Pth}(h:okP q):∀c∈jn q,c<128:=by
 have:∀xs:List (List Nat),(∀x∈xs,∀c∈x,c<128)->∀c∈jn xs,c<128:=by
  intro xs;induction xs with
  |nil=>intro _ c hc;cases hc
  |cons a r ih =>
   intro hx c hc;cases r with
   |nil=>exact hx a Am c hc
   |cons b r =>
    have hc:c∈a++47::jn (b::r):=hc;rcases Aq.mp hc with z|z
    ·exact hx a Am c z
    ·rcases Az.mp z with rfl|z
     ·decide
     ·exact ih (fun x hx'=>hx x (Ai _ hx')) c z
 exact this q fun x hx=>(h.all x hx).low
theorem x0u:∀c∈DRW,c<128:=by decide +kernel
theorem x0v:∀c∈SLP,c<128:=by decide +kernel
theorem fi_low:∀c∈FI,c<128:=by decide +kernel
theorem x0w{q:Pth}{m:Option Int}(h:okP q)(hm:okM m):LnOk 100 (rowT (q,m)):=by
 refine⟨z8c (r:=(q,m)) h hm,fun c hc=>?_⟩;cases m with
 |none =>
  rw[q5t] at hc;rcases Aq.mp hc with z|z
  ·exact x0u c z
  ·rcases Az.mp z with rfl|z
   ·decide
   ·exact z9j h c z
 |some m =>
  rw[q5u] at hc;rcases Aq.mp hc with z|z
  ·exact x0v c z
  ·rcases Az.mp z with rfl|z
   ·decide
   ·rcases Aq.mp z with z|z
    ·exact z9j h c z
    ·rcases Az.mp z with rfl|z
     ·decide
     ·exact fi_low c (z8o _ c z)
theorem bld_ok:LnOk 100 BLD:=⟨by decide +kernel,by decide +kernel⟩
theorem x0x{B:Nat}{ns:List (List Nat)}(h:∀x∈ns,x.length<=B):((ns.map mk).map (·.length)).sum<=ns.length*B:=by
 induction ns with
 |nil=>exact Bo _
 |cons a r ih =>
  have:=ih fun x hx=>h x (Ai _ hx);have h1:=h a Am;rw[Ao,Ao,List.sum_cons,q0o,Aw,Rh];lia
structure CallsO (P:Program) (w:World) (K:Ah) (mg:Str->Option Value) (base:Heap) (c:Addr):Prop where
 draw:Cal P w K mg base "_law_draw" 1 ["_law_feed", "_law_many"] spDraw
 rows:Cal P w K mg base "_law_rows" 3 ["_law_feed", "_law_blind", "_law_most"] spRows
 mixed:Cal P w K mg base "_law_mixed" 2 ["_law_feed", "_law_rows_here"] spMixed
 line:Cal P w K mg base "_law_line" 2 ["_law_path", "_law_mark"] spLine
 spoilt:Cal P w K mg base "_law_spoilt" 3 ["_law_feed", "_law_lines"] spSpoilt
 due:Cal P w K mg base "_law_due" 3 ["_law_text"] spDue
 told:Cal P w K mg base "_law_told" 7 ["_law_text"] (spTold c)
 rows_right:Cal P w K mg base "_law_rows_right" 3 ["_law_hall", "_law_marks"] (spRight c)
 m_is_blind:MCal P w K mg base c "is_blind" 1 ["self"] (spBlind c)
 hi:Isi K c
 kb:Di K (.ref c) (.type "bool")=some false
def spOne:Sp:=fun vs H Q _=>∃a b,vs=[.ref a]/\FeedAt H a b/\∀H',Fd a b H H'->Q (.bl true) H'
abbrev z6i:Stmt:=top 62
theorem sc_one:FnScope ["_law_feed", "_law_blind", "_law_rows_here", "_law_lines", "_law_k", "_law_text", "_law_due_here", "_law_more", "_law_word", "_law_found"] ["_law_feed"] (defScope z6i):=by trivial
set_option maxHeartbeats 40000000 in
theorem ok_one{c:Addr}(D:Df K mg "_law_one" z6i ["_law_feed"])(T:Txt mg)(C:CallsO P w K mg base c):Cal P w K mg base "_law_one" 8 ["_law_feed"] spOne:=by
 refine D.cal sc_one (fun vs H Q E h=>?_) (fun f cdv A outer s H vs Q E hr h=>?_)
 ·obtain⟨a,b,rfl,_⟩:=h;rfl
 ·obtain⟨a,b,rfl,F,k⟩:=h;refine⟨_,(q0d (q0j (i:=1) sc_one.nd rfl (by trivial) (q1s (eq_k K rfl hr) (pe_c C.draw hr (q0a (pv 0) (q0a q0g q0c))) q0g (nomark _))) (q0d (q0j (i:=2) sc_one.nd rfl (by trivial) (pe_c C.rows hr (q0a (pv 0) (q0a (pv 1) (q0a q0g q0c))))) (q1j (q0v (q0l (eq_k K rfl hr) (pe_c C.draw hr (q0a (pv 0) (q0a q0g q0c))) q0g (nomark _)) (q0f (z3o (i:=2) ["_law_k"] [] sc_one.nd rfl (by trivial) rfl (q2q rfl T.b_range (q0a (q0u q0p q0g (pe_c C.draw hr (q0a (pv 0) (q0a q0g q0c)))) q0c)) (fun _ _ _ _ _=>(q0q (i:=0) (show(["_law_k"]:List Str).Nodup by decide +kernel) rfl (by trivial))) (fun _ _ _ _ _=>q3z) (fun _ _ _ _ _=>(q1c (q0a (q1c (q0a (q0u q0p q0h (q0x q3p (by rfl) T.b_str (by decide +kernel) (q0a (pv 0) q0c))) q0c)) (q0a (pv 0) q0c)))))) q0k) (q0d (z3o (i:=3) ["_law_path", "_law_mark"] [] sc_one.nd rfl (by trivial) rfl (@q5c _ _ _ _ K rfl (pe_c C.mixed hr (q0a (pv 0) (q0a (pv 2) q0c)))) (fun _ _ _ _ _=>(@q2t _ _ _ _ (2) _ K rfl rfl (q0t (q0q (i:=0) (show(["_law_path", "_law_mark"]:List Str).Nodup by decide +kernel) rfl (by trivial)) (q0t (q0q (i:=1) (show(["_law_path", "_law_mark"]:List Str).Nodup by decide +kernel) rfl (by trivial)) q1r)) (by rfl) (by rfl))) (fun _ _ _ _ _=>q3z) (fun _ _ _ _ _=>(pe_c C.line hr (q0a (pv 0) (q0a (pv 1) q0c))))) (q0d (q0j (i:=3) sc_one.nd rfl (by trivial) (q0u q0p (q0u q3j (q1d (q0a q0h q0c)) (q0x q2u (by rfl) T.b_int (by decide +kernel) (q0a (pv 1) q0c))) (pv 3))) (q0d (q2r Dv rfl (q2q rfl T.b_range (q0a (pe_c C.draw hr (q0a (pv 0) (q0a q0g q0c))) q0c)) (q0q (i:=4) sc_one.nd rfl (by trivial)) (q0f (q0j (i:=3) sc_one.nd rfl (by trivial) (pe_c C.spoilt hr (q0a (pv 0) (q0a (pv 3) q0c)))))) (q0d (q0j (i:=5) sc_one.nd rfl (by trivial) (q0u q0p (@bm_k _ _ _ _ _ _ _ _ _ _ _ _ K rfl Cb Pp Pq (z8n K rfl) q0h (q0a (pv 3) q0c) (by rfl) (by rfl) (by rfl) (by rfl) (by rfl)) (q0u q3j q0h (q0x q2u (by rfl) T.b_int (by decide +kernel) (q0a (q1s (eq_k K rfl hr) (pe_c C.draw hr (q0a (pv 0) (q0a q0g q0c))) q0g (nomark _)) q0c))))) (q0d (q6d (pe_c C.due hr (q0a (pv 5) q0c)) (@q2t _ _ _ _ (2) _ K rfl rfl (q0t (q0q (i:=6) sc_one.nd rfl (by trivial)) (q0t (q0q (i:=7) sc_one.nd rfl (by trivial)) q1r)) (by rfl) (by rfl))) (q0d (q6d (pe_c C.told hr (q0a (pv 5) q0c)) (@q2t _ _ _ _ (2) _ K rfl rfl (q0t (q0q (i:=8) sc_one.nd rfl (by trivial)) (q0t (q0q (i:=9) sc_one.nd rfl (by trivial)) q1r)) (by rfl) (by rfl))) (q0d (q0v (pt_j (@PW.pt _ _ _ (q2n (q0l (ne_k K rfl hr) (pv 8) (pv 6) (nomark _)) (q1q (@q2d _ _ _ K rfl (q0i (z3s K rfl) (by rfl) T.b_isinstance (by decide +kernel) (q0a (pv 9) (q0a (q3x (by rfl) T.b_bool (by decide +kernel) (show RelV (.ty "bool") _ from rfl)) q0c))) (fun _=>rfl)))))) (q0f (q0m q6v)) q0k) (q0d (q0v (q0l (ne_k K rfl hr) (pv 8) q0h (nomark _)) (q0f (q0m (q1s (eq_k K rfl hr) (pv 9) (pv 7) (nomark _)))) q0k) (q0f (q0m (pe_j (z2u (pe_c C.rows_right hr (q0a (pv 9) (q0a (q0x (z2h hr) (by rfl) T.b_dict (by decide +kernel) (q0a (q0z (ix_k K rfl) (pv 7) q0g (fun _ _=>rfl)) q0c)) q0c))) (z0f (q1s (eq_k K rfl hr) (pe_m0 C.m_is_blind hr (pv 9)) (q0z (ix_k K rfl) (pv 7) q0g (fun _ _=>rfl)) (nomark _)))))))))))))))))),?_⟩;refine⟨_,rfl,a,b,_,rfl,F,by decide,by decide,fun r0 H1 r00 r01 fd1=>.inl ⟨rfl,?_⟩⟩;generalize decide (V.int r0=V.int 0)=bl;refine⟨_,rfl,_,rfl,a,b,bl,12,rfl,fd1.feed,by decide,by decide,fun L0 zs0 H2 fd2 hL0 rl0 hl0 len0 mb0=>?_⟩;have fd2':=fd1.trans fd2;refine⟨fun σ' H'=>∃L zs,σ'=[some (.ref a),some (.bl bl),some (.ref L),none,none,none,none,none,none,none]/\Fd a b H H'/\RL H' L zs/\zs.length<=63/\(∀z∈zs,okP z.2.1/\okM z.2.2),?_,?_⟩;rotate_left
  ·refine⟨_,rfl,a,b,_,rfl,fd2'.feed,by decide,by decide,fun r3 H3 r30 r31 fd3=>.inl ⟨rfl,_,rfl,ite2 (fun h=>?_) (fun h=>?_)⟩⟩;rotate_left
   ·exact⟨L0,zs0,rfl,fd2'.trans fd3,rl0.fd fd2'.feed fd3 (fd1.feed.na hL0).symm,by lia,fun z hz=>⟨hl0.ok _ (Ay.mpr ⟨z,hz,rfl⟩),mb0 z hz⟩⟩
   have fd3':=fd2'.trans fd3;refine⟨_,rfl,a,b,_,rfl,fd3'.feed,by decide,by decide,fun r4 H4 r40 r41 fd4=>.inl ⟨_,_,rfl,rfl,58+r4,rfl,by lia,by lia,fun D hD=>?_⟩⟩;have fd4':=fd3'.trans fd4;refine q5d (n:=(58+r4).toNat) (fun i ys H'=>∃zs:List Zr,ys=zs.map (fun z=>V.ref z.1)/\zs.length=i/\(∀z∈zs,PR H' z.1 (rR z.2)/\okP z.2.1/\okM z.2.2)/\Same H4 H'/\H' D=some (.lst ys)) ⟨[],rfl,rfl,(fun _ h=>nomatch h),(Same.refl H4).new hD,q0b⟩ (fun i ys H' x=>by obtain⟨_,_,_,_,_,h⟩:=x;exact h) ?_ ?_
   ·rintro i ys H' hi ⟨zs,rfl,hz,hzs,sm,hHD⟩;have hdl:=q8m 2 i (by lia);have hdp:=dg_pos i;have eg:Ac "g" = mk [103]:=by decide +kernel
    refine⟨_,rfl,i,by show[V.int (0+(i:Int))]=_;rw[Int.zero_add],by lia,.inr (.inl ⟨_,_,rfl,rfl,by rw[eg,q9p,q0o,q0o];exact small (by show 1+_<=_;lia),?_⟩)⟩;rw[eg,q9p,q2y];refine⟨by show 1<=sizeLine;decide,fun p hp=>⟨_,rfl,by show 2<=sizeLine;decide,fun Tt hTt=>?_⟩⟩;have s1:=(Same.refl H').new (o:=.tup [.str (mk ([103]++dg i))]) hp;have hp1:upd H' p (.tup [.str (mk ([103]++dg i))]) p=some (.tup (vP [103::dg i])):=q0b;generalize upd H' p (.tup [.str (mk ([103]++dg i))])=H5 at s1 hp1 hTt;have s2:=(Same.refl H5).new (o:=.tup [.ref p,.int (0+(i:Int))]) hTt;have hT2:upd H5 Tt (.tup [.ref p,.int (0+(i:Int))]) Tt=some (.tup [.ref p,mV (some (i:Int))]):=by rw[q0b,Int.zero_add];rfl
    generalize upd H5 Tt (.tup [.ref p,.int (0+(i:Int))])=H6 at s2 hT2;have h6D:=s2 _ _ (s1 _ _ hHD);have tk:∀S xs,H6 S=some (.tup xs)->upd H6 D (.lst (zs.map (fun z=>V.ref z.1)++[.ref Tt])) S=some (.tup xs):=fun S xs e=>by rw[q0e (fun z=>by rw[z,h6D] at e;cases e)];exact e
    refine⟨h6D,small' (by rw[Ad];lia),zs++[(Tt,([103::dg i],some (i:Int)))],by rw[Ap];rfl,by rw[Aj,hz];rfl,fun z hz'=>?_,(sm.trans (s1.trans s2)).put hD,q0b⟩;rcases Aq.mp hz' with y|y
    ·obtain⟨h1,h2⟩:=hzs z y;obtain⟨b',q1,q2⟩:=h1;exact⟨⟨b',tk _ _ (s2 _ _ (s1 _ _ q1)),tk _ _ (s2 _ _ (s1 _ _ q2))⟩,h2⟩
    ·rw[An.mp y];refine⟨⟨p,tk _ _ hT2,tk _ _ (s2 _ _ hp1)⟩,⟨by simp,by show 1<=6;decide,fun n hn=>?_⟩,fun m hm=>?_⟩
     ·rw[An.mp hn];refine⟨by simp,by rw[Aw];lia,fun x hx=>?_⟩;rcases Az.mp hx with rfl|hx
      ·decide +kernel
      ·exact fi_ns x (z8o i x hx)
     ·cases hm;lia
   ·rintro ys H5 ⟨zs,rfl,hz,hzs,sm,hHD⟩;exact⟨D,zs,rfl,fd4'.same sm,⟨hHD,fun z h=>(hzs z h).1⟩,by lia,fun z h=>(hzs z h).2⟩
  clear rl0 hl0 len0 mb0 fd2' fd2 hL0;rintro σ' H3 ⟨L,zs,rfl,fd3,rl3,len3,ok3⟩;refine⟨_,rfl,_,rfl,a,b,L,zs,rfl,fd3.feed,rl3,by lia,fun r hr=>?_,fun M zs' H4 fd4 hM rl4 perm=>?_⟩
  ·obtain⟨z,hz,rfl⟩:=Ay.mp hr;exact(ok3 z hz).1.low
  have len4:zs'.length<=63:=by rw[perm.length_eq];exact len3
  have ok4:∀z∈zs',okP z.2.1/\okM z.2.2:=fun z hz=>ok3 z (perm.mem_iff.mp hz);have fd4':=fd3.trans fd4;refine .inl ⟨M,rfl,⟨_,SqL.of rl4.at_⟩,fun D hD=>?_⟩;refine z5y rl4 hD (by lia) ok4 (fun b' q' m' HC Q' hb ok om q''=>⟨_,rfl,_,rfl,b',_,m',rfl,hb,ok,om,q''⟩) fun H5 s5 h5=>?_;have fd5:=fd4'.same s5;refine⟨by show 1<=sizeLine;decide,fun L0' hL0'=>?_⟩;have t0:=(Same.refl H5).new (o:=.lst [.str (Ac "blind")]) hL0';have h0:upd H5 L0' (.lst [.str (Ac "blind")]) L0'=some (.lst [.str (Ac "blind")]):=q0b;generalize upd H5 L0' (.lst [.str (Ac "blind")])=HA at t0 h0;refine⟨_,rfl,.inl (.inr ⟨bl,rfl,.inr (.inr ⟨L0',_,_,rfl,rfl,h0,by split<;>decide,by split<;>decide,by split<;>decide,fun L1 hL1=>?_⟩)⟩)⟩;have e0:(List.replicate (if bl=true then(1:Int) else 0).toNat [V.str (Ac "blind")]).flatten=vL (if bl then[BLD] else[]):=by
   cases bl with
   |false=>rfl
   |true=>show[V.str (Ac "blind")]=[V.str (mk BLD)];rw[bld]
  rw[e0];have t1:=(Same.refl HA).new (o:=.lst (vL (if bl then[BLD] else[]))) hL1;have h1:upd HA L1 (.lst (vL (if bl then[BLD] else[]))) L1=some (.lst (vL (if bl then[BLD] else[]))):=q0b;have t01:=t0.trans t1;generalize upd HA L1 (.lst (vL (if bl then[BLD] else[])))=HB at t1 h1 t01;have hb1:(vL (if bl then[BLD] else[])).length<=1:=by cases bl<;>decide
  have hb2:(vL (zs'.map fun z=>rowT z.2)).length=zs'.length:=by rw[Ad,Ad]
  refine⟨_,rfl,.inr (.inr ⟨L1,D,_,_,rfl,rfl,h1,t01 _ _ h5,small (by lia),fun L5 hL5=>?_⟩)⟩;have e1:vL (if bl then[BLD] else[])++vL (zs'.map fun z=>rowT z.2)=vL ((if bl then[BLD] else[])++zs'.map fun z=>rowT z.2):=Ap.symm;rw[e1];have okl:∀x∈(if bl then[BLD] else[])++zs'.map fun z=>rowT z.2,LnOk 100 x:=fun x hx=>by
   rcases Aq.mp hx with hx|hx
   ·cases bl with
    |false=>cases hx
    |true=>rw[An.mp hx];exact bld_ok
   ·obtain⟨z,hz,rfl⟩:=Ay.mp hx;exact x0w (ok4 z hz).1 (ok4 z hz).2
  have lenl:((if bl then[BLD] else[])++zs'.map fun z=>rowT z.2).length<=64:=by
   rw[Aj,Ad];have:(if bl then[BLD] else[]:List (List Nat)).length<=1:=by cases bl<;>decide
   lia
  generalize (if bl then[BLD] else[])++zs'.map (fun z=>rowT z.2)=ls at okl lenl;have t2:=(Same.refl HB).new (o:=.lst (vL ls)) hL5;have hC:upd HB L5 (.lst (vL ls)) L5=some (.lst (vL ls)):=q0b;have hL5H:H L5=none:=(fd5.same t01).free hL5;have fdC:=(fd5.same t01).same t2;generalize upd HB L5 (.lst (vL ls))=HC at t2 hC fdC;clear t0 h0 t1 h1 t01 e0 e1 hb1 hb2 hL1 hL0' s5 h5 rl4 rl3;refine⟨_,rfl,a,b,_,rfl,fdC.feed,by decide,by decide,fun r7 H7 r70 r71 fd7=>?_⟩;refine⟨r7,rfl,by lia,by lia,q4r (n:=r7.toNat) (fun i σ' H'=>∃L' ls' x4,σ'=[some (.ref a),some (.bl bl),some (.ref L),some (.ref L'),x4,none,none,none,none,none]/\Fd a b H H'/\H' L'=some (.lst (vL ls'))/\(∀x∈ls',LnOk (100+i) x)/\ls'.length<=64+i/\L'≠a) ⟨L5,ls,_,rfl,fdC.trans fd7,fd7.at hC (F.na hL5H).symm,okl,lenl,(F.na hL5H).symm⟩ ?_ ?_⟩
  ·rintro i σ' H8 hi ⟨L',ls',x4,rfl,fd8,h8,ok8,len8,hLa⟩;refine⟨_,rfl,_,rfl,a,b,L',ls',100+i,rfl,fd8.feed,h8,ok8,by lia,by lia,by lia,hLa,fun L9 ls9 H9 fd9 hL9 h9 ok9 len9=>?_⟩;exact⟨L9,ls9,_,rfl,fd8.trans fd9,h9,ok9,by lia,(fd8.feed.na hL9).symm⟩
  rintro σ' H8 ⟨L',ls',x4,rfl,fd8,h8,ok8,len8,hLa⟩;have hr7:r7.toNat<=3:=by lia
  have okT:∀x∈ls',x.length<=103:=fun x hx=>Bi (ok8 x hx).1 (by lia);have lenT:ls'.length<=67:=by lia
  have hlow:∀x∈ls',∀c∈x,c<128:=fun x hx=>(ok8 x hx).2;have hjl:=PC.jc_len (s:=10) (m:=103) okT;have hjl2:ls'.length*(103+1)<=67*104:=Il _ lenT;refine⟨rfl,_,rfl,_,L',ls'.map mk,rfl,rfl,.inl (SqL.of (by rw[z5x];exact h8)),?_,?_⟩
  ·have:=x0x okT;have e:(Ac "\n").length=1:=by decide +kernel
   have h3:ls'.length*103<=67*103:=Il _ lenT;rw[e,Ad];lia
  rw[z8d];refine⟨_,rfl,a,b,_,rfl,fd8.feed,by decide,by decide,fun r8 H9 r80 r81 fd9=>.inl ⟨rfl,.inl (.inr ⟨_,rfl,?_⟩)⟩⟩;generalize decide (V.int r8=V.int 0)=be;obtain⟨u,eu,hu,mok⟩:=mulN (n:=if be=true then 1 else 0) (by split<;>simp);rw[nl];refine .inr (.inl ⟨_,_,rfl,rfl,mok,?_⟩);rw[eu];have hul:u.length<=1:=by rcases hu with rfl|rfl<;>decide
  refine .inr (.inl ⟨_,_,rfl,rfl,by rw[q0o,q0o];exact small (by lia),?_⟩);rw[q2y];have lenX:(PC.jc 10 ls'++u).length<=20000:=by rw[Aj];lia
  have lowX:∀c∈PC.jc 10 ls'++u,c<128:=fun c hc=>by
   rcases Aq.mp hc with hc|hc
   ·rcases z9i hc with rfl|⟨x,hx,hcx⟩
    ·decide
    ·exact hlow x hx c hcx
   ·rcases hu with rfl|rfl
    ·cases hc
    ·rw[An.mp hc];decide
  have fd9':=fd8.trans fd9;generalize PC.jc 10 ls'++u=l at lenX lowX;clear hjl hjl2 hlow okT lenT ok8 h8;refine⟨_,rfl,l,rfl,lenX,lowX,fun n hn T1 HA sA hT1=>?_,fun rows hrw=>⟨fun i bd lst T1 HA sA hT1=>?_,fun nb T1 T2 Lr zr HA sA hT1 hT2 rlr er okr len60=>?_⟩⟩
  ·refine⟨T1,_,rfl,SqT.of hT1,rfl,_,_,rfl,_,_,rfl,rfl,?_⟩;refine⟨_,rfl,l,rfl,lenX,fun n' hn' U1 HB sB hU1=>?_,fun rows hrw=>?_⟩;rotate_left
   ·rw[hn] at hrw;cases hrw
   rw[hn] at hn';cases hn';refine⟨U1,_,rfl,SqT.of hU1,rfl,_,_,rfl,_,_,rfl,rfl,?_⟩;refine⟨fun bb HC=>bb=false/\HC=HB,?_,?_⟩;rotate_left
   ·refine⟨_,rfl,_,rfl,.inl ⟨rfl,_,rfl,?_⟩⟩;rw[decide_eq_true rfl];exact iteF ⟨_,rfl,_,_,_,false,rfl,TyOf.int _,rfl,false,rfl,rfl,rfl⟩
   rintro bb HC ⟨rfl,rfl⟩;refine iteF ⟨_,rfl,.inl ⟨rfl,_,rfl,?_⟩⟩;rw[show decide (V.str (Ac "text")=V.str (Ac "right"))=false from by decide +kernel];refine iteT ⟨_,rfl,_,rfl,.inl ⟨rfl,?_⟩⟩;rw[decide_eq_true rfl];exact k _ (fd9'.same (sA.trans sB))
  ·refine⟨T1,_,rfl,SqT.of hT1,rfl,_,_,rfl,_,_,rfl,rfl,?_⟩;refine⟨_,rfl,l,rfl,lenX,fun n' hn'=>?_,fun rows' hrw'=>?_⟩
   ·rw[hrw] at hn';cases hn'
   rw[hrw] at hrw';cases hrw';refine⟨fun i' bd' lst' U1 HB sB hU1=>?_,fun nb=>absurd bd (nb i)⟩;obtain rfl:i'=i:=by
    rcases Nat.lt_trichotomy i' i with y|y|y
    ·exact absurd bd' (lst i' y)
    ·exact y
    ·exact absurd bd (lst' i y)
   refine⟨U1,_,rfl,SqT.of hU1,rfl,_,_,rfl,_,_,rfl,rfl,?_⟩;refine⟨fun bb HC=>bb=false/\HC=HB,?_,?_⟩;rotate_left
   ·refine⟨_,rfl,_,rfl,.inl ⟨rfl,_,rfl,?_⟩⟩;rw[decide_eq_true rfl];exact iteF ⟨_,rfl,_,_,_,false,rfl,TyOf.int _,rfl,false,rfl,rfl,rfl⟩
   rintro bb HC ⟨rfl,rfl⟩;refine iteF ⟨_,rfl,.inl ⟨rfl,_,rfl,?_⟩⟩;rw[show decide (V.str (Ac "hall")=V.str (Ac "right"))=false from by decide +kernel];refine iteT ⟨_,rfl,_,rfl,.inl ⟨rfl,?_⟩⟩;rw[decide_eq_true rfl];exact k _ (fd9'.same (sA.trans sB))
  ·refine⟨T1,_,rfl,SqT.of hT1,rfl,_,_,rfl,_,_,rfl,rfl,?_⟩;refine⟨_,rfl,l,rfl,lenX,fun n' hn'=>?_,fun rows' hrw'=>?_⟩
   ·rw[hrw] at hn';cases hn'
   rw[hrw] at hrw';cases hrw';refine⟨fun i bd=>absurd bd (nb i),fun _ U1 h d HB sB hh hU1=>?_⟩;have hl:=hl_of okr nb;subst er;obtain⟨dx,hin⟩:=hh.i;refine⟨U1,_,rfl,SqT.of hU1,rfl,_,_,rfl,_,_,rfl,rfl,?_⟩;refine⟨fun bb HC=>bb=false/\HC=HB,?_,?_⟩;rotate_left
   ·refine⟨_,rfl,_,rfl,.inl ⟨rfl,_,rfl,?_⟩⟩;rw[decide_eq_true rfl];exact iteF ⟨_,rfl,_,_,_,false,rfl,TyOf.ins hin C.hi.cl C.hi.ha C.hi.hn C.hi.htk C.hi.hm,C.kb,false,rfl,rfl,rfl⟩
   rintro bb HC ⟨rfl,rfl⟩;refine iteF ⟨_,rfl,.inl ⟨rfl,_,rfl,?_⟩⟩;rw[decide_eq_true rfl];refine iteF ?_;have rlC:=rlr.same sB;have hT2C:=sB _ _ hT2;refine⟨fun v H7=>v=.bl true/\Same HC H7,?_,?_⟩
   ·rintro v H7 ⟨rfl,s7⟩;exact k _ (fd9'.same ((sA.trans sB).trans s7))
   refine⟨_,rfl,_,rfl,.inr (.inl ⟨T2,_,0,.ref Lr,rfl,rfl,SqT.of hT2C,rfl,Lr,zr.map (·.1),zr.map (fun z=>rR z.2),rfl,by rw[Bj];exact rlC.at_,prs_zs rlC.pr,by rw[Ad] at len60 ⊢;lia,fun m hm=>?_⟩)⟩;rw[z6h hl];have s7:=(Same.refl HC).new (o:=dR ((zr.map (·.2)).map rR)) hm;refine⟨h,m,d,_,_,_,rfl,hh.same s7,q0b,List.Perm.refl _,hl.paths,hl.ok,by lia,fun H8 s8=>⟨true,rfl,iteT ?_⟩⟩;have hh8:=(hh.same s7).same s8;obtain⟨dx8,hi8⟩:=hh8.i;refine⟨_,rfl,h,dx8,_,rfl,hi8,rfl,h,d,_,_,rfl,hh8,_,rfl,.inr (.inl ⟨T2,_,1,.bl (blOf (lnsOf l)),rfl,rfl,SqT.of (s8 _ _ (s7 _ _ hT2C)),rfl,.inl ⟨by cases blOf (lnsOf l)<;>rfl,?_⟩⟩)⟩;exact⟨by rw[decide_eq_true rfl],s7.trans s8⟩
structure CallsL (P:Program) (w:World) (K:Ah) (mg:Str->Option Value) (base:Heap):Prop where
 one:Cal P w K mg base "_law_one" 8 ["_law_feed"] spOne
def spLaw(K:Ah):Sp:=fun vs H Q _=>∃(a:Addr) (ns:List Int),vs=[.ref a]/\SqL K H a (ns.map V.int)/\ns.length<=63/\∀H',Q (.bl true) H'
abbrev q3a:Stmt:=top 63
theorem sc_law:FnScope ["_law_script", "_law_feed", "_law_k"] ["_law_script"] (defScope q3a):=by trivial
theorem z8i(T:Txt mg)(C:CallsL P w K mg base)(f:Addr)(cdv:Value)(A:Around)(outer:List Env)(s:Af)(H:Hp)(vs:List V)(Q:VK)(E:XK)(hr:Room 8 (A.deeper (PyProof.Rows.envOfC "law" (defScope q3a) s.heap.objs.size f cdv)))(h:spLaw K vs H Q E):
  ∃t,PSs (cxOf CX0 P w K mg base ["_law_script", "_law_feed", "_law_k"] "law" (defScope q3a) f cdv A outer s H E).nox (defBody q3a) t/\t { nx:=fun _ H'=>Q .non H',rt:=Q } (L2.start ["_law_script", "_law_feed", "_law_k"] vs) H:=by
  obtain⟨sc,ns,rfl,hS,hns,k⟩:=h;refine⟨_,(q0d (q0j (i:=1) sc_law.nd rfl (by trivial) (q1d (q0a (q0x (z3t K rfl) (by rfl) T.b_list (by decide +kernel) (q0a (pv 0) q0c)) (q0a q0g (q0a q0g q0c))))) (q0d (q2r Dv rfl (q2q rfl T.b_range (q0a (q0i (z3c rfl) (by rfl) T.b_max (by decide +kernel) (q0a q0g (q0a (q0i (z3d rfl) (by rfl) T.b_min (by decide +kernel) (q0a q0g (q0a (q0i (q1m K rfl) (by rfl) T.b_len Bg (q0a (pv 0) q0c)) q0c))) q0c))) q0c)) (q0q (i:=2) sc_law.nd rfl (by trivial)) (q0f (q0v (q2b (@q2d _ _ _ K rfl (pe_c C.one hr (q0a (pv 1) q0c)) (fun _=>rfl))) (q0f (q0m q6v)) q0k))) (q0f (q0m q6v)))),?_⟩;refine⟨_,rfl,sc,_,rfl,.inl hS,fun b hb=>⟨by show 3<=sizeLine;decide,fun a ha=>?_⟩⟩;have nba:b≠a:=q0n q0b ha;have F:FeedAt (upd (upd H b (.lst (ns.map V.int))) a (.lst [.ref b,.int 0,.int 0])) a b:=⟨⟨0,0,q0b⟩,ns,by rw[q0e nba];exact q0b⟩
  have sS:Same H (upd (upd H b (.lst (ns.map V.int))) a (.lst [.ref b,.int 0,.int 0])):=((Same.refl H).new hb).new ha;generalize hH1:upd (upd H b _) a _=H1;rw[hH1] at F sS;refine⟨_,rfl,_,_,rfl,.inl ⟨_,sS.seq hS,rfl⟩,?_⟩;refine⟨_,_,rfl,_,_,rfl,_,rfl,?_,?_,q4r (fun i σ' H'=>∃x2,σ'=[some (.ref sc),some (.ref a),x2]/\Fd a b H1 H') ⟨none,rfl,Fd.refl F⟩ ?_ ?_⟩
  ·rw[Ad];split<;>split<;>lia
  ·rw[Ad];split<;>split<;>lia
  ·rintro i σ' H' hi ⟨x2,rfl,fd⟩;exact⟨_,rfl,a,b,rfl,fd.feed,fun H2 fd2=>⟨true,rfl,iteF ⟨_,rfl,fd.trans fd2⟩⟩⟩
  ·rintro σ' H' ⟨x2,rfl,fd⟩;exact k _
end
end K
set_option maxHeartbeats 4000000
namespace K
open PySem L2 TX SB HM
theorem df_mk{K:Ah}{mg:Str->Option Value}{h:Heap}{x:Str}{st:Stmt}{ps:List Str}{f:Addr}{oc:Value}{od an:Option Addr}{osl:Array (Option Value)}{kV doc pm cdv ct:Value}(X:K.In h)(G:h.Ns Cc mg)(a:Io K Cc x=some (some (.ref f)))(l:K.lookup f=some ⟨oc,od,.func (Gu x x (defArgs st) (defBody st) (defScope st) .none kV doc pm an cdv ct),osl⟩)(c:Jl K cdv x=true)(k:Es K (.ref f)=true)(hb:∀(kV doc pm:Value) (an:Option Addr) (cdv ct:Value) (us:List Value),us.length=ps.length->bindArgs (Gu x x (defArgs st) (defBody st) (defScope st) .none kV doc pm an cdv ct) ⟨us,[]⟩=pure (ps.zip us)):Df K mg x st ps :=
 ⟨f,_,q4x l c k,Px X G a,(q4x (st:=st) l c k).binds hb⟩
theorem mf_mk{K:Ah}{C:Addr}{m qual:Str}{st:Stmt}{ps:List Str}{f:Addr}{oc:Value}{od an:Option Addr}{osl:Array (Option Value)}{kV doc pm cdv ct:Value}(a:Bl K (.ref C) m=some (some (.ref f)))(l:K.lookup f=some ⟨oc,od,.func (Gu m qual (defArgs st) (defBody st) (defScope st) .none kV doc pm an cdv ct),osl⟩)(c:Jl K cdv qual=true)(k:Es K (.ref f)=true)(i:Te K (.ref f)=true)(hb:∀(kV doc pm:Value) (an:Option Addr) (cdv ct:Value) (us:List Value),us.length=ps.length->bindArgs (Gu m qual (defArgs st) (defBody st) (defScope st) .none kV doc pm an cdv ct) ⟨us,[]⟩=pure (ps.zip us)):Mf K C m qual st ps :=
 ⟨⟨f,_,q4x l c k,⟨a,i,k⟩,(q4x (st:=st) l c k).binds hb⟩⟩
structure Eb (K:Ah) (mg:Str->Option Value) (D:Addr) (mc:Value):Prop where
 gl:mg "HallError" = some (.ref D)
 base:EBase K D
 ini:EIni K D mc
 hn:Hn K (.builtin "object.__class__") "__get__" = some (some (.builtin "getset_descriptor.__get__"))
 htk:Mb K (.builtin "object.__class__")=some true
theorem eb_mk{K:Ah}{mg:Str->Option Value}{h:Heap}(X:K.In h)(G:h.Ns Cc mg){D:Addr}{nm qn:Str}{N:Addr}{bs:List Value}{sn:List Str}{sub:List Value}{ab:Bool}{col:Option Bool}{dd:Option Addr}{k0 k1 k2 k3 k5:Option Value}{oc mc:Value}{od:Option Addr}{es:Array Jh}{ep:Nat}{sl:Array (Option Value)}(g:Io K Cc "HallError" = some (some (.ref D)))(l:K.lookup D=some (Dm nm qn D N bs bmV true sn sub ab col dd k0 k1 k2 k3 k5 "ValueError.__new__"))(n:K.lookup N=some ⟨oc,od,.dict es ep,sl⟩)(s:es.toList.all strKey=true)(i:Io K N "__init__" = some none)(sp:Hn K (.ref D) "__getattribute__" = some (some (.builtin "type.__getattribute__")))(tm:W.typeIn K (.ref D)=some mc)(rd:W.readsIn K D mc=true)(fc:W.findCls K (.ref D) mc "__init__" = some (.val (.builtin "ValueError.__init__")))(hn:Hn K (.builtin "object.__class__") "__get__" = some (some (.builtin "getset_descriptor.__get__")))(htk:Mb K (.builtin "object.__class__")=some true):Eb K mg D mc :=
 ⟨Px X G g,⟨nm,qn,N,bs,sn,sub,ab,col,dd,k0,k1,k2,k3,k5,l,z1c n s,i⟩,⟨sp,rd,fc⟩,hn,htk⟩
structure Ec (K:Ah) (mg:Str->Option Value) (x:Str) (C D:Addr) (qual:Str) (st:Stmt) (ps:List Str):Prop where
 gl:mg x=some (.ref C)
 ex:∃f fd,Fun K "__init__" qual st f fd/\ELaw K C D f/\Binds K fd ps []
 sa:Bl K (.ref C) "__setattr__" = some (some (.builtin "object.__setattr__"))
 ga:Bl K (.ref C) "__getattribute__" = some (some (.builtin "BaseException.__getattribute__"))
 gh:Bl K (.ref C) "__getattr__" = some none
 ha:Bl K (.ref C) "__class__" = some (some (.builtin "object.__class__"))
section
variable{K:Ah}{mg:Str->Option Value}{x:Str}{C D:Addr}{qual:Str}{st:Stmt}{ps:List Str}{mc:Value}{f:Str}
theorem Ec.ef(E:Ec K mg x C D qual st ps)(B:Eb K mg D mc):Ef K mg x C D qual st ps:=by
 obtain⟨f,fd,h1,h2,h3⟩:=E.ex;exact⟨⟨f,fd,mc,h1,h2,B.base,B.ini,h3⟩,E.gl⟩
theorem Ec.set(E:Ec K mg x C D qual st ps)(tk:Bl K (.ref C) f=some none):ESet K C f:=by
 obtain⟨_,_,_,h,_⟩:=E.ex;exact h.set E.sa tk
theorem Ec.get(E:Ec K mg x C D qual st ps)(tk:Bl K (.ref C) f=some none):EGet K C f:=by
 obtain⟨_,_,_,h,_⟩:=E.ex;exact h.get E.ga E.gh tk
theorem Ec.isi(E:Ec K mg x C D qual st ps)(B:Eb K mg D mc):EIsi K C:=by
 obtain⟨_,_,_,h,_⟩:=E.ex;exact⟨h.clsIn,E.ga,E.gh,E.ha,B.hn,B.htk⟩
theorem Ec.cls(E:Ec K mg x C D qual st ps):ECls K C (.ref D::bmV):=by
 obtain⟨_,_,_,h,_⟩:=E.ex;exact h.cls
theorem Ec.sub(E:Ec K mg x C D qual st ps):SubX K (.ref C) D:=by
 obtain⟨_,_,_,h,_⟩:=E.ex;exact h.sub
theorem ec_mk{h:Heap}(X:K.In h)(G:h.Ns Cc mg){nm qn:Str}{N:Addr}{bs:List Value}{sn:List Str}{sub:List Value}{ab:Bool}{col:Option Bool}{dd:Option Addr}{k0 k1 k2 k3 k5:Option Value}{oc:Value}{od:Option Addr}{es:Array Jh}{ep:Nat}{sl:Array (Option Value)}{fi:Addr}{odi an:Option Addr}{sli:Array (Option Value)}{oci kV dc pm cd ct:Value}(g:Io K Cc x=some (some (.ref C)))(l:K.lookup C=some (Dm nm qn C N bs (.ref D::bmV) true sn sub ab col dd k0 k1 k2 k3 k5 "ValueError.__new__"))(n:K.lookup N=some ⟨oc,od,.dict es ep,sl⟩)(s:es.toList.all strKey=true)(i:Io K N "__init__" = some (some (.ref fi)))(li:K.lookup fi=some ⟨oci,odi,.func (Gu "__init__" qual (defArgs st) (defBody st) (defScope st) .none kV dc pm an cd ct),sli⟩)(ci:Jl K cd qual=true)(ki:Es K (.ref fi)=true)(ti:oci=.type "function")(kp:Es K (.ref C)=true)(sa:Bl K (.ref C) "__setattr__" = some (some (.builtin "object.__setattr__")))(ga:Bl K (.ref C) "__getattribute__" = some (some (.builtin "BaseException.__getattribute__")))(gh:Bl K (.ref C) "__getattr__" = some none)(ha:Bl K (.ref C) "__class__" = some (some (.builtin "object.__class__")))(hb:∀(kV doc pm:Value) (an:Option Addr) (cdv ct:Value) (us:List Value),us.length=ps.length->bindArgs (Gu "__init__" qual (defArgs st) (defBody st) (defScope st) .none kV doc pm an cdv ct) ⟨us,[]⟩=pure (ps.zip us)):Ec K mg x C D qual st ps :=
 ⟨Px X G g,⟨fi,_,q4x li ci ki,⟨⟨nm,qn,N,bs,sn,sub,ab,col,dd,k0,k1,k2,k3,k5,l,z1c n s,i⟩,⟨_,li,ti⟩,kp⟩,(q4x (st:=st) li ci ki).binds hb⟩,sa,ga,gh,ha⟩
end
theorem len_1{us:List Value}(h:us.length=1):∃x0,us=[x0]:=by
 match us,h with
 |[x0],_=>exact⟨x0,rfl⟩
theorem len_2{us:List Value}(h:us.length=2):∃x0 x1,us=[x0,x1]:=by
 match us,h with
 |[x0,x1],_=>exact⟨x0,x1,rfl⟩
theorem len_3{us:List Value}(h:us.length=3):∃x0 x1 x2,us=[x0,x1,x2]:=by
 match us,h with
 |[x0,x1,x2],_=>exact⟨x0,x1,x2,rfl⟩
theorem len_4{us:List Value}(h:us.length=4):∃x0 x1 x2 x3,us=[x0,x1,x2,x3]:=by
 match us,h with
 |[x0,x1,x2,x3],_=>exact⟨x0,x1,x2,x3,rfl⟩
theorem len_5{us:List Value}(h:us.length=5):∃x0 x1 x2 x3 x4,us=[x0,x1,x2,x3,x4]:=by
 match us,h with
 |[x0,x1,x2,x3,x4],_=>exact⟨x0,x1,x2,x3,x4,rfl⟩
theorem all_mk{lw:Uh}{w:World}{K:Ah}{h:Heap}{mg:Str->Option Value}{fa:Addr}(X:K.In h)(G:h.Ns Cc mg)(hfa:mg "law" = some (.ref fa)){f23:Addr}{od23 an23:Option Addr}{sl23:Array (Option Value)}{oc23 kV23 dc23 pm23 cd23 ct23:Value}{eHallError:Addr}{mcH:Value}{eNoPattern:Addr}{eNoTemplate:Addr}{eNoHall:Addr}{eNoThing:Addr}{eNoDrawer:Addr}{eTaken:Addr}{eFixed:Addr}{eNotEmpty:Addr}{eNoWish:Addr}{eMeets:Addr}{eNoPlace:Addr}{eBroken:Addr}{eStrayed:Addr}{eNoText:Addr}{eNoRule:Addr}{eFull:Addr}{eNoBook:Addr}{eNoSame:Addr}{eTooMuch:Addr}{eNoLine:Addr}{eBusy:Addr}{eNoDoer:Addr}{eNoRules:Addr}{cHall:Addr}{fminit:Addr}{odminit anminit:Option Addr}{slminit:Array (Option Value)}{ocminit kVminit dcminit pmminit cdminit ctminit:Value}{dtminit:Addr}{tdminit:Option Addr}{tsminit:Array (Option Value)}{tnminit:Nat}(D_all_of:Df K mg "all_of" q5r ["text", "signs"])(D_is_name:Df K mg "is_name" q4e ["text"])(D_alike:Df K mg "alike" q7o ["one", "other"])(D_read_path:Df K mg "read_path" q2w ["text"])(D_read_number:Df K mg "read_number" q2a ["text", "least", "most"])(D_read_row:Df K mg "read_row" q3l ["line"])(D_read_hall:Df K mg "read_hall" q2x ["text"])(D_draw:Df K mg "_law_draw" q9w ["_law_feed", "_law_many"])(D_name:Df K mg "_law_name" q9x ["_law_feed"])(D_folded:Df K mg "_law_folded" q5p ["_law_path", "_law_blind"])(D_rows:Df K mg "_law_rows" q9y ["_law_feed", "_law_blind", "_law_most"])(D_mixed:Df K mg "_law_mixed" q7n ["_law_feed", "_law_rows_here"])(D_rows_right:Df K mg "_law_rows_right" q2k ["_law_hall", "_law_marks"])(D_path_text:Df K mg "_law_path_text" q2z ["_law_path"])(D_line:Df K mg "_law_line" z0b ["_law_path", "_law_mark"])(D_path_of:Df K mg "_law_path_of" q4g ["_law_word"])(D_mark_of:Df K mg "_law_mark_of" q4h ["_law_word"])(D_row_of:Df K mg "_law_row_of" q5v ["_law_line_here"])(D_due:Df K mg "_law_due" z6f ["_law_text"])(D_told:Df K mg "_law_told" z0e ["_law_text"])(D_other_line:Df K mg "_law_other_line" q2l ["_law_feed"])(D_spoilt:Df K mg "_law_spoilt" q5w ["_law_feed", "_law_lines"])(D_one:Df K mg "_law_one" z6i ["_law_feed"])(a23:Io K Cc "law" = some (some (.ref f23)))(l23:K.lookup f23=some ⟨oc23,od23,.func (Gu "law" "law" (defArgs q3a) (defBody q3a) (defScope q3a) .none kV23 dc23 pm23 an23 cd23 ct23),sl23⟩)(c23:Jl K cd23 "law" = true)(k23:Es K (.ref f23)=true)(T:Txt mg)(E0:Eb K mg eHallError mcH)(gl_NoPattern:mg "NoPattern" = some (.ref eNoPattern))(gl_NoTemplate:mg "NoTemplate" = some (.ref eNoTemplate))(E_NoHall:Ec K mg "NoHall" eNoHall eHallError "NoHall.__init__" q1k ["self", "at"])(t_NoHall_at:Bl K (.ref eNoHall) "at" = some none)(gl_NoThing:mg "NoThing" = some (.ref eNoThing))(gl_NoDrawer:mg "NoDrawer" = some (.ref eNoDrawer))(gl_Taken:mg "Taken" = some (.ref eTaken))(gl_Fixed:mg "Fixed" = some (.ref eFixed))(gl_NotEmpty:mg "NotEmpty" = some (.ref eNotEmpty))(gl_NoWish:mg "NoWish" = some (.ref eNoWish))(gl_Meets:mg "Meets" = some (.ref eMeets))(gl_NoPlace:mg "NoPlace" = some (.ref eNoPlace))(gl_Broken:mg "Broken" = some (.ref eBroken))(gl_Strayed:mg "Strayed" = some (.ref eStrayed))(E_NoText:Ec K mg "NoText" eNoText eHallError "NoText.__init__" q1l ["self", "line"])(t_NoText_line:Bl K (.ref eNoText) "line" = some none)(gl_NoRule:mg "NoRule" = some (.ref eNoRule))(gl_Full:mg "Full" = some (.ref eFull))(gl_NoBook:mg "NoBook" = some (.ref eNoBook))(gl_NoSame:mg "NoSame" = some (.ref eNoSame))(gl_TooMuch:mg "TooMuch" = some (.ref eTooMuch))(gl_NoLine:mg "NoLine" = some (.ref eNoLine))(gl_Busy:mg "Busy" = some (.ref eBusy))(gl_NoDoer:mg "NoDoer" = some (.ref eNoDoer))(gl_NoRules:mg "NoRules" = some (.ref eNoRules))(KO_NoHall_NoHall:Di K (.ref eNoHall) (.ref eNoHall)=some true)(KO_NoHall_NoText:Di K (.ref eNoHall) (.ref eNoText)=some false)(KO_NoHall_ValueError:Di K (.ref eNoHall) (.type "ValueError")=some true)(KO_NoText_NoHall:Di K (.ref eNoText) (.ref eNoHall)=some false)(KO_NoText_NoText:Di K (.ref eNoText) (.ref eNoText)=some true)(KO_NoText_ValueError:Di K (.ref eNoText) (.type "ValueError")=some true)(KA_NoHall__Broken__Busy__Fixed__Full__Meets__NoBook__NoDoer__NoDrawer__NoLine__NoPattern__NoPlace:Ik K (.ref eNoHall) [.ref eBroken,.ref eBusy,.ref eFixed,.ref eFull,.ref eMeets,.ref eNoBook,.ref eNoDoer,.ref eNoDrawer,.ref eNoLine,.ref eNoPattern,.ref eNoPlace]=some false)(KA_NoHall__NoRule__NoRules__NoSame__NoTemplate__NoThing__NoWish__NotEmpty__Strayed:Ik K (.ref eNoHall) [.ref eNoRule,.ref eNoRules,.ref eNoSame,.ref eNoTemplate,.ref eNoThing,.ref eNoWish,.ref eNotEmpty,.ref eStrayed]=some false)(KA_NoHall__Taken__TooMuch:Ik K (.ref eNoHall) [.ref eTaken,.ref eTooMuch]=some false)(KA_NoText__Broken__Busy__Fixed__Full__Meets__NoBook__NoDoer__NoDrawer__NoLine__NoPattern__NoPlace:Ik K (.ref eNoText) [.ref eBroken,.ref eBusy,.ref eFixed,.ref eFull,.ref eMeets,.ref eNoBook,.ref eNoDoer,.ref eNoDrawer,.ref eNoLine,.ref eNoPattern,.ref eNoPlace]=some false)(KA_NoText__NoRule__NoRules__NoSame__NoTemplate__NoThing__NoWish__NotEmpty__Strayed:Ik K (.ref eNoText) [.ref eNoRule,.ref eNoRules,.ref eNoSame,.ref eNoTemplate,.ref eNoThing,.ref eNoWish,.ref eNotEmpty,.ref eStrayed]=some false)(KA_NoText__Taken__TooMuch:Ik K (.ref eNoText) [.ref eTaken,.ref eTooMuch]=some false)(gcHall:Io K Cc "Hall" = some (some (.ref cHall)))(pgcHall:Nd K cHall Od=true)(hdcHall:Ke K cHall=true)(pocHall:Sh K cHall=true)(sacHall:Bl K (.ref cHall) "__setattr__" = some (some (.builtin "object.__setattr__")))(nacHall_blind:Bl K (.ref cHall) "blind" = some none)(nacHall_marks:Bl K (.ref cHall) "marks" = some none)(iacHall:Bl K (.ref cHall) "__class__" = some (some (.builtin "object.__class__")))(ibcHall:Hn K (.builtin "object.__class__") "__get__" = some (some (.builtin "getset_descriptor.__get__")))(iccHall:Mb K (.builtin "object.__class__")=some true)(idcHall:Lv K cHall (.type "object")=some true)(aminit:Bl K (.ref cHall) "__init__" = some (some (.ref fminit)))(lminit:K.lookup fminit=some ⟨ocminit,odminit,.func (Gu "__init__" "Hall.__init__" (defArgs q0y) (defBody q0y) (defScope q0y) (.ref dtminit) kVminit dcminit pmminit anminit cdminit ctminit),slminit⟩)(cminit:Jl K cdminit "Hall.__init__" = true)(kminit:Es K (.ref fminit)=true)(iminit:Te K (.ref fminit)=true)(mkcHall:Ue K cHall=true)(kccHall:Es K (.ref cHall)=true)(tminit:K.lookup dtminit=some ⟨.type "tuple",tdminit,.seq #[.bool false] tnminit,tsminit⟩)(M_is_blind:Mf K cHall "is_blind" "Hall.is_blind" q1n ["self"])(M_is_one_place:Mf K cHall "is_one_place" "Hall.is_one_place" q1f ["self", "one", "other"])(M_rows:Mf K cHall "rows" "Hall.rows" q2v ["self"])(M_there:Mf K cHall "there" "Hall.there" q2i ["self", "place"])(KO_Hall_bool:Di K (.ref cHall) (.type "bool")=some false):
  ∃fd:Ie,(∀(s:Af) (v:Value),Pd s fd ⟨[v],[]⟩ [("_law_script",v)])/\∀base:Heap,K.In base->base.Ns Cc mg->FnOk lw.prog w K mg base CX0 9 fa fd ["_law_script"] (spLaw K):=by
 have e:=hfa.symm.trans (Px X G a23);cases e;have EB_HallError:=E0.base;have gl_HallError:=E0.gl;have EF_NoHall:=E_NoHall.ef E0;have ES_NoHall_at:=E_NoHall.set t_NoHall_at;have EG_NoHall_at:=E_NoHall.get t_NoHall_at;have EI_NoHall:=E_NoHall.isi E0;have gl_NoHall:=E_NoHall.gl;have EF_NoText:=E_NoText.ef E0;have ES_NoText_line:=E_NoText.set t_NoText_line;have EG_NoText_line:=E_NoText.get t_NoText_line;have EI_NoText:=E_NoText.isi E0;have gl_NoText:=E_NoText.gl;have clcHall:Cls K cHall:=⟨pgcHall,hdcHall,pocHall,sacHall⟩
 have isi_Hall:Isi K cHall:=⟨clcHall,iacHall,ibcHall,iccHall,idcHall,by first|exact if_pos (beq_self_eq_true _)|(unfold Di;simp)⟩
 have gl_Hall:mg "Hall" = some (.ref cHall):=Px X G gcHall;have K_Hall:Kf K mg cHall "Hall" "Hall.__init__" q0y ["self", "rows", "blind"]:=⟨⟨fminit,_,ocminit,odminit,.ref dtminit,kVminit,dcminit,pmminit,anminit,cdminit,ctminit,slminit,rfl,lminit,cminit,⟨mkcHall,aminit,iminit,kccHall⟩,fun s us Y hl=>by obtain⟨_,_,_,rfl⟩:=len_3 (by rw[Ei] at hl;exact hl:us.length=3);exact W.binds_K Y rfl tminit rfl rfl rfl,fun s us Y hl=>by obtain⟨_,_,rfl⟩:=len_2 (by rw[Aj] at hl;exact Nat.succ.inj hl:us.length=2);exact W.binds_K Y rfl tminit rfl rfl rfl⟩,Px X G gcHall,clcHall⟩
 have FL:=q4x (st:=q3a) l23 c23 k23;refine⟨Gu "law" "law" (defArgs q3a) (defBody q3a) (defScope q3a) .none kV23 dc23 pm23 an23 cd23 ct23,fun s v=>.of_eq rfl,fun base _ _=>?_⟩;have hk:Hk K cHall:=⟨clcHall,nacHall_blind,nacHall_marks⟩
 have c1:=x0o (P:=lw.prog) (w:=w) (base:=base) D_draw T;have c2:=x0p (P:=lw.prog) (w:=w) (base:=base) D_name T ⟨c1⟩;have c3:=z5l (P:=lw.prog) (w:=w) (base:=base) D_folded T;have c4:=x0q (P:=lw.prog) (w:=w) (base:=base) D_rows T ⟨c1,c2,c3⟩;have c5:=z7u (P:=lw.prog) (w:=w) (base:=base) D_mixed T ⟨c1⟩;have c6:=z7w (P:=lw.prog) (w:=w) (base:=base) D_alike T;have c7:=q9a (P:=lw.prog) (w:=w) (base:=base) M_is_one_place hk T ⟨c6⟩;have c8:=z7x (P:=lw.prog) (w:=w) (base:=base) M_there hk T ⟨c7⟩;have eH:=q6a (P:=lw.prog) (w:=w) (base:=base) EF_NoHall gl_HallError ES_NoHall_at;have c9:=z8a (P:=lw.prog) (w:=w) (base:=base) K_Hall hk T ⟨eH,c8⟩;have c10:=z7z (P:=lw.prog) (w:=w) (base:=base) M_rows hk T;have c11:=z7y (P:=lw.prog) (w:=w) (base:=base) M_is_blind hk T;have c12:=z8b (P:=lw.prog) (w:=w) (base:=base) D_rows_right T ⟨c10⟩;have c13:=z5o (P:=lw.prog) (w:=w) (base:=base) D_all_of T;have c14:=z2l (P:=lw.prog) (w:=w) (base:=base) D_is_name T ⟨c13⟩;have c16:=q9d (P:=lw.prog) (w:=w) (base:=base) D_read_path T ⟨c14⟩;have c17:=q6b (P:=lw.prog) (w:=w) (base:=base) D_read_number T ⟨c13⟩;have c18:=z0a (P:=lw.prog) (w:=w) (base:=base) D_read_row T ⟨c16,c17⟩;have eT:=q6c (P:=lw.prog) (w:=w) (base:=base) EF_NoText gl_HallError ES_NoText_line;have c19:=q9f (P:=lw.prog) (w:=w) (base:=base) D_read_hall T ⟨c18,c9,eT⟩;have c20:=q9g (P:=lw.prog) (w:=w) (base:=base) D_path_text T;have c21:=x0s (P:=lw.prog) (w:=w) (base:=base) D_line T ⟨c20⟩;have c22:=z2n (P:=lw.prog) (w:=w) (base:=base) D_path_of T;have c23:=z2p (P:=lw.prog) (w:=w) (base:=base) D_mark_of T;have c24:=z5z (P:=lw.prog) (w:=w) (base:=base) D_row_of T ⟨c22,c23⟩;have c25:=ok_due (P:=lw.prog) (w:=w) (base:=base) D_due T ⟨c3,c24⟩;have CT:CallsTo lw.prog w K mg base cHall eNoHall eNoText eHallError [eBroken,eBusy,eFixed,eFull,eMeets,eNoBook,eNoDoer,eNoDrawer,eNoLine,eNoPattern,eNoPlace] [eNoRule,eNoRules,eNoSame,eNoTemplate,eNoThing,eNoWish,eNotEmpty,eStrayed] [eTaken,eTooMuch]:=⟨c19,gl_HallError,EB_HallError.cls,⟨E_NoHall.sub,EI_NoHall,EG_NoHall_at,KO_NoHall_ValueError,KA_NoHall__Broken__Busy__Fixed__Full__Meets__NoBook__NoDoer__NoDrawer__NoLine__NoPattern__NoPlace,KA_NoHall__NoRule__NoRules__NoSame__NoTemplate__NoThing__NoWish__NotEmpty__Strayed,KA_NoHall__Taken__TooMuch⟩,⟨E_NoText.sub,EI_NoText,EG_NoText_line,KO_NoText_ValueError,KA_NoText__Broken__Busy__Fixed__Full__Meets__NoBook__NoDoer__NoDrawer__NoLine__NoPattern__NoPlace,KA_NoText__NoRule__NoRules__NoSame__NoTemplate__NoThing__NoWish__NotEmpty__Strayed,KA_NoText__Taken__TooMuch⟩,gl_NoHall,gl_NoText,KO_NoHall_NoHall,KO_NoHall_NoText,KO_NoText_NoHall,KO_NoText_NoText,eBroken,eBusy,eFixed,eFull,eMeets,eNoBook,eNoDoer,eNoDrawer,eNoLine,eNoPattern,eNoPlace,eNoRule,eNoRules,eNoSame,eNoTemplate,eNoThing,eNoWish,eNotEmpty,eStrayed,eTaken,eTooMuch,rfl,rfl,rfl,gl_Broken,gl_Busy,gl_Fixed,gl_Full,gl_Meets,gl_NoBook,gl_NoDoer,gl_NoDrawer,gl_NoLine,gl_NoPattern,gl_NoPlace,gl_NoRule,gl_NoRules,gl_NoSame,gl_NoTemplate,gl_NoThing,gl_NoWish,gl_NotEmpty,gl_Strayed,gl_Taken,gl_TooMuch⟩
 have c26:=x0t (P:=lw.prog) (w:=w) (base:=base) D_told T CT;have c27:=q7r (P:=lw.prog) (w:=w) (base:=base) D_other_line T ⟨c1⟩;have c28:=z6g (P:=lw.prog) (w:=w) (base:=base) D_spoilt T ⟨c1,c27⟩;have CL:CallsL lw.prog w K mg base:=⟨ok_one D_one T ⟨c1,c4,c5,c21,c28,c25,c26,c12,c11,isi_Hall,KO_Hall_bool⟩⟩
 exact FL.ok sc_law (fun vs H Q E h=>by obtain⟨a,ns,rfl,_⟩:=h;rfl) (fun cdv A outer s H vs Q E hr h=>z8i T CL _ cdv A outer s H vs Q E hr h)
theorem walk{l:Uh}{q:Program}{loose:List Str}{XP:(Str->Option Value)->Heap->Prop}{YP:World->Heap->Prop}{d:DefRec}{K:Params->Ah}(hn:l.most=some 63)(hdf:d.params.defaults=[])(hY:∀(w:World) (h:Heap),YP w h->(K w.params).In h)(F:∀(w:World) (mg:Str->Option Value) (fa:Addr) (h:Heap),(K w.params).In h->h.Ns Cc mg->mg d.name=some (.ref fa) ->
   ∃fd:Ie,(∀(s:Af) (u:Value),Pd s fd ⟨[u],[]⟩ [("_law_script",u)])/\∀base:Heap,(K w.params).In base->base.Ns Cc mg->FnOk l.prog w (K w.params) mg base CX0 9 fa fd ["_law_script"] (spLaw (K w.params))):
  W.WalkO q loose XP YP l.row.toRowW d [] (fun f vs=>Tq f vs) :=
 L2.walk_of (n:=63) (k:=9) (x := "_law_script") (CX:=fun _=>CX0) (sp:=fun w=>spLaw (K w.params)) hn (by decide) hdf ⟨rfl,by decide,by decide,rfl⟩ hY F (fun _ _ a ns hl _ hS=>⟨a,ns,rfl,hS,hl,fun _=>rfl⟩) fun _ _ _ _ _ z=>z
end K
namespace K
open PySem PySem.W PyProof.Rows
abbrev loose:List Str:=[Ac "_wall",Ac "HallError",Ac "NoPattern",Ac "NoTemplate",Ac "NoHall",Ac "NoThing",Ac "NoDrawer",Ac "Taken",Ac "Fixed",Ac "NotEmpty",Ac "NoWish",Ac "Meets",Ac "NoPlace",Ac "Broken",Ac "Strayed",Ac "NoText",Ac "NoRule",Ac "Full",Ac "NoBook",Ac "NoSame",Ac "TooMuch",Ac "NoLine",Ac "Busy",Ac "NoDoer",Ac "NoRules",Ac "FIGURES",Ac "NAME_SIGNS",Ac "MOST_SIGNS",Ac "MOST_NAMES",Ac "all_of",Ac "is_name",Ac "alike",Ac "read_path",Ac "read_number",Ac "MOST_THINGS",Ac "carried",Ac "Hall",Ac "MOST_MARK",Ac "read_row",Ac "read_hall",Ac "_law_draw",Ac "_law_name",Ac "_law_folded",Ac "_law_rows",Ac "_law_mixed",Ac "_law_rows_right",Ac "_law_path_text",Ac "_law_line",Ac "_law_shown",Ac "_law_path_of",Ac "_law_mark_of",Ac "_law_row_of",Ac "_law_due",Ac "_law_told",Ac "_law_other_line",Ac "_law_spoilt",Ac "_law_one"]
abbrev vw:Program:=view PySem.Challenge.pw_renamehall_k81_texts_of_no_hall [63]
abbrev xt(s:Af):Bool:=xlAt vw [] s&&recOk [] s
end K
open PySem PySem.W PyProof.Rows
local macro_rules | `(tactic| o_head $H) => `(tactic| (
  refine holds_open (q := K.vw) (loose := K.loose) (Xt := K.xt) (XP := XL K.vw []) (Yf := Hook.obs $H) (Ya := Hook.val $H) (YP := Hook.says $H) (N := 60000) ?hl (Hook.of $H) (Hook.keeps $H) (fun s e => xl_of s (Cf.mp e).1) XL.keeps
    (by rfl) (by rfl) (by rfl) (fun s e => recFacts_of (Cf.mp e).2) (by rfl) (by first | assumption | decide +kernel) (by decide +kernel) ⟨rfl, rfl, rfl, rfl, rfl, by decide +kernel⟩ ?hw ?hc))
set_option maxRecDepth 100000 in
set_option maxHeartbeats 0 in
theorem PySem.Challenge.cw_renamehall_k81_texts_of_no_hall_holds : PySem.Challenge.rw_renamehall_k81_texts_of_no_hall.Holds := by
  w_on; o_law; k_head; (case hw => w_witness2)
  (case hl =>
    refine HD.left (by kernel_rfl) (by rfl) (fun _ => by kernel_rfl) fun w os => ?_
    change (segRunT Ro PySem.Challenge.pw_renamehall_k81_texts_of_no_hall w 11 (some (.ref 6)) 0 60000 (HD.bootT w.params os) (topStub PySem.Challenge.pw_renamehall_k81_texts_of_no_hall)).map (fun r => ((staticsOk (Jb PySem.Challenge.pw_renamehall_k81_texts_of_no_hall.main.body) (boot_heap w.params) r.2.1.abs.heap && namesBound PySem.Challenge.pw_renamehall_k81_texts_of_no_hall r.2.1.abs.heap && gensDone r.2.1.abs && laidKept (boot_heap w.params) r.2.1.abs.heap), openSeen K.vw K.loose (Jb PySem.Challenge.pw_renamehall_k81_texts_of_no_hall.main.body) K.xt true r.2.1.abs, _)) = some (true, openGood K.vw K.loose, _)
    unfold K.xt K.vw
    rw [PySem.W.Fast.te10110043849684766642, PySem.W.Fast.te4187177175401517315, PySem.W.Fast.te14364793385576792824, PySem.W.Fast.te5923862056798008813, PySem.W.Fast.te13962737638589227270]
    kernel_rfl)
  k_fill
  refine K.walk (l := PySem.Challenge.rw_renamehall_k81_texts_of_no_hall) rfl rfl (fun w h Y => PySem.W.kIn_of Y) ?F
  case F =>
    intro w mg fa h KX G hmg
    refine' K.all_mk KX G hmg (K.df_mk KX G ?_ ?_ ?_ ?_ ?_) (K.df_mk KX G ?_ ?_ ?_ ?_ ?_) (K.df_mk KX G ?_ ?_ ?_ ?_ ?_) (K.df_mk KX G ?_ ?_ ?_ ?_ ?_) (K.df_mk KX G ?_ ?_ ?_ ?_ ?_) (K.df_mk KX G ?_ ?_ ?_ ?_ ?_) (K.df_mk KX G ?_ ?_ ?_ ?_ ?_) (K.df_mk KX G ?_ ?_ ?_ ?_ ?_) (K.df_mk KX G ?_ ?_ ?_ ?_ ?_) (K.df_mk KX G ?_ ?_ ?_ ?_ ?_) (K.df_mk KX G ?_ ?_ ?_ ?_ ?_) (K.df_mk KX G ?_ ?_ ?_ ?_ ?_) (K.df_mk KX G ?_ ?_ ?_ ?_ ?_) (K.df_mk KX G ?_ ?_ ?_ ?_ ?_) (K.df_mk KX G ?_ ?_ ?_ ?_ ?_) (K.df_mk KX G ?_ ?_ ?_ ?_ ?_) (K.df_mk KX G ?_ ?_ ?_ ?_ ?_) (K.df_mk KX G ?_ ?_ ?_ ?_ ?_) (K.df_mk KX G ?_ ?_ ?_ ?_ ?_) (K.df_mk KX G ?_ ?_ ?_ ?_ ?_) (K.df_mk KX G ?_ ?_ ?_ ?_ ?_) (K.df_mk KX G ?_ ?_ ?_ ?_ ?_) (K.df_mk KX G ?_ ?_ ?_ ?_ ?_) ?_ ?_ ?_ ?_ ⟨mg_none_of KX G ?_, mg_none_of KX G ?_, mg_none_of KX G ?_, mg_none_of KX G ?_, mg_none_of KX G ?_, mg_none_of KX G ?_, mg_none_of KX G ?_, mg_none_of KX G ?_, mg_none_of KX G ?_, mg_none_of KX G ?_, mg_none_of KX G ?_, mg_none_of KX G ?_, mg_none_of KX G ?_, mg_none_of KX G ?_, mg_none_of KX G ?_, ⟨_, mg_of KX G ?_⟩, ⟨_, mg_of KX G ?_⟩, ⟨_, mg_of KX G ?_⟩, ⟨_, mg_of KX G ?_⟩, ⟨_, mg_of KX G ?_⟩, ⟨_, mg_of KX G ?_⟩⟩ (K.eb_mk KX G ?_ ?_ ?_ ?_ ?_ ?_ ?_ ?_ ?_ ?_ ?_) (mg_of KX G ?_) (mg_of KX G ?_) (K.ec_mk KX G ?_ ?_ ?_ ?_ ?_ ?_ ?_ ?_ ?_ ?_ ?_ ?_ ?_ ?_ ?_) ?_ (mg_of KX G ?_) (mg_of KX G ?_) (mg_of KX G ?_) (mg_of KX G ?_) (mg_of KX G ?_) (mg_of KX G ?_) (mg_of KX G ?_) (mg_of KX G ?_) (mg_of KX G ?_) (mg_of KX G ?_) (K.ec_mk KX G ?_ ?_ ?_ ?_ ?_ ?_ ?_ ?_ ?_ ?_ ?_ ?_ ?_ ?_ ?_) ?_ (mg_of KX G ?_) (mg_of KX G ?_) (mg_of KX G ?_) (mg_of KX G ?_) (mg_of KX G ?_) (mg_of KX G ?_) (mg_of KX G ?_) (mg_of KX G ?_) (mg_of KX G ?_) ?_ ?_ ?_ ?_ ?_ ?_ ?_ ?_ ?_ ?_ ?_ ?_ ?_ ?_ ?_ ?_ ?_ ?_ ?_ ?_ ?_ ?_ ?_ ?_ ?_ ?_ ?_ ?_ ?_ ?_ ?_ (K.mf_mk ?_ ?_ ?_ ?_ ?_ ?_) (K.mf_mk ?_ ?_ ?_ ?_ ?_ ?_) (K.mf_mk ?_ ?_ ?_ ?_ ?_ ?_) (K.mf_mk ?_ ?_ ?_ ?_ ?_ ?_) ?_
    all_goals try (first | k_is | kit_is | rfl | decide +kernel | (intro _ _ _ _ _ _ us hl; first | (obtain ⟨_, rfl⟩ := K.len_1 hl; rfl) | (obtain ⟨_, _, rfl⟩ := K.len_2 hl; rfl) | (obtain ⟨_, _, _, rfl⟩ := K.len_3 hl; rfl) | (obtain ⟨_, _, _, _, rfl⟩ := K.len_4 hl; rfl) | (obtain ⟨_, _, _, _, _, rfl⟩ := K.len_5 hl; rfl) | (cases us with | nil => rfl | cons _ _ => cases hl)))
