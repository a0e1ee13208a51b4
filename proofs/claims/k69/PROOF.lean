import PyProof.Rows.All
import Wide.All
import OpenK.AllK
import Wide.FinOn
import Lean
import PyProof.EqAt
import PyProof.EqKinds
import PyProof.TupleCall
import PySem.Challenge.RW_renamehall_k69_whole_long_books
import KE.IntTextLaws
import KE.KIsAll
import PyProof.ExcArgsOwn
import PyProof.ExcBaseAll.ValueError
import PyProof.ExcClass2
import PyProof.ExcInit
import PyProof.InstStore
import PyProof.Rows.CatchBare
import PyProof.Rows.CatchOwn
import PyProof.StationsW
import PyProof.SumWalk
import PyProof.ReprRoads
set_option Elab.async false
set_option linter.all false
set_option maxRecDepth 100000
local macro_rules|`(tactic|trivial)=>`(tactic|first|exact Or.inl rfl|exact Or.inr rfl|fail)
local macro_rules|`(tactic|trivial)=>`(tactic|first|(refine⟨rfl,rfl,rfl,?_,rfl,?_,?_⟩<;>decide +kernel)|fail)
theorem gR0{α β:Type}{f:α->β}{l:List α}{i:Nat}{v:β}(h:(l.map f)[i]?=some v):∃z,l[i]?=some z/\v=f z:=by
 rw[List.getElem?_map] at h;cases e:l[i]? with
 |none=>rw[e] at h;cases h
 |some z=>rw[e] at h;cases h;exact⟨z,rfl,rfl⟩
open Array renaming getElem?_eq_getElem→Dj,length_toList→Ea,getElem?_toList→Fg,getD_eq_getD_getElem?→Ly,perm_iff_toList_perm→Me,getElem?_eq_none→Oa,append_assoc→Qe
open Array.Perm renaming refl→Su
open Bool renaming false_ne_true→Bh,false_eq_true→Bq,and_eq_true→Ci,eq_iff_iff→Kq,and_eq_true_iff→Pl,not_true→Pr
open Int renaming toNat_natCast→Bu,emod_lt_of_pos→Ja,emod_nonneg→Ks,zero_add→La,le_refl→Ob,natAbs_natCast→Qp
open List renaming length_map→Aa,length_append→Af,mem_cons_of_mem→Ah,mem_cons_self→Aj,map_append→Al,mem_map→Am,length_take→An,map_cons→Ao,mem_of_getElem?→Aq,getElem?_map→Au,size_toArray→Av,getElem?_eq_some_iff→Ax,mem_append→Ay,mem_singleton→Az,mem_cons→Ba,mem_of_mem_take→Bc,map_map→Bd,length_cons→Bf,take_length→Bj,take_add_one→Bm,mem_append_right→Bo,append_assoc→Bp,length_pos_iff→Bs,append_nil→Bv,getElem?_eq_getElem→Bz,getD_eq_getElem?_getD→Ca,take_of_length_le→Cd,length_singleton→Ce,nodup_cons→Cg,map_take→Cp,map_congr_left→Cu,length_drop→Cw,getElem?_append_right→Cz,mem_range→Dc,length_range→De,getElem?_append_left→Dh,length_dropLast→Ds,length_nil→Dx,getLastD_eq_getLast?→Ef,getLast?_eq_some_getLast→Et,length_set→Ff,dropLast_eq_take→Fi,dropLast_concat→Fu,all_eq_true→Gh,find?_cons→Gq,take_append_of_le_length→Gv,take_take→Hg,getElem?_set_ne→Hn,lookup_cons→Hr,map_reverse→Hx,filterMap_cons→Ie,getElem?_take_of_lt→Iu,zip_cons_cons→Jf,pairwise_cons→Jh,drop_zero→Jm,take_zero→Jn,filter_cons_of_neg→Jp,filter_cons_of_pos→Jq,flatten_cons→Js,getElem?_set_self→Jv,drop_of_length_le→Ka,not_mem_nil→Ke,drop_append_of_le_length→Ld,replicate_succ→Lg,filterMap_map→Ls,getElem?_take→Lz,all_cons→Mc,sum_cons→Md,take_sublist→Mi,getElem?_eq_none_iff→Mm,mem_or_eq_of_mem_set→Mq,cons_append→Nf,of_mem_zip→Nn,forIn_cons→Np,map_id→Of,take_succ→Om,take_append_drop→Ox,mem_append_left→Pa,mem_of_mem_drop→Ph,getLastD_concat→Pj,any_cons→Pp,map_drop→Pw,getElem?_range→Py,length_reverse→Qb,mem_filterMap→Qf,zip_nil_right→Qs,reverse_cons→Ra,zip_nil_left→Rg,mapM_toArray→Ri,nodup_append→Rl,filter_cons→Rx,zipIdx_cons→Sb,drop_length→Se,mem_reverse→Sf,nodup_range→Sg,mem_filter→Sh,nil_append→Sv
open Nat renaming le_refl→Ak,ne_of_lt→Bg,lt_of_lt_of_le→Bl,zero_le→Br,le_trans→Cq,lt_irrefl→Ep,ne_of_gt→Ge,lt_succ_self→Gf,min_eq_left→Gu,lt_succ_of_lt→Gx,le_of_lt→Gy,le_of_eq→Io,sub_zero→Je,le_succ→Lo,lt_of_le_of_lt→Lv,succ_mul→Nh,sub_self→Ni,mul_le_mul_right→Pk,zero_add→Qq,lt_or_ge→Qw,min_eq_right→Sd
open Ne renaming symm→Dd
open Option renaming map_eq_some_iff→Ed,map_some→Ij,isSome_map→Ml,isSome_iff_exists→Mz,getD_none→Ru
open Option.some renaming inj→Dg
open PyProof.Rows renaming wpS_bind→By,slot_tuple_getitem→Cm,wpS_pure→Cs,callWith_type1→Ez,StrsAre→Gn,SortSt→Gs,get?_update_seq→Hf,lo1→Hv,envOfC→Hy,wpS_forRange→Jd,listItems_at→Jg,SortKind→Kh,AllBare→Ki,mirror→Kv,seqObj→Ky,len_partsBetween→Le,pendingOf→Nq,subscriptTail_builtinR→Nw,mirror_perm→Oc,wpS_reverse→Od,wpS_get→Ow,Subscript_→Pc,Constant_none→Pm,listUpdate_at→Pu,lt_str→Pz,args_tuple_getitem→Ql,IntsAre→Qx,tuples'→Qy,seqEpoch_at→Rp,failedOf→Rz,wpS_mono→Sa,wpS_modify→Ss
open PyProof.Rows.IsTup renaming new→Ta
open PySem renaming wpAny_bind→Ab,wpAny_pure→Ac,Shared→Ae,NameKind→Bb,starEach→Bi,boot_len→Bk,wpAny_newObj_type→Bt,compareOp→Bw,wpAny_call_entry→Bx,wpAny_mono→Cb,wpAny_callSpecial?_slot→Cc,mainGlobals→Cj,wpAny_field→Ck,wpAny_holding→Cy,Builtin→Dm,Paired→Dp,wpAny_truthy_bool→Du,mem_of_lookup→Eb,sizeLine_eq→Eg,sysModules→Eh,binaryOp→Ej,compEnvC→Ek,wpAny_typeNameOfWhole_itemiter→El,wpAny_attempt→Er,wpAny_typeNameOfWhole_keyiter→Es,backTo→Eu,wpAny_setField_rec→Fb,wpAny_passesOwn→Fe,behindInMarks→Fl,wpAny_standAt→Fm,rawInt→Fo,wpAny_dictEntries→Fp,wpAny_typeNameOf_itemiter→Ft,sliceBounds→Fy,codeAny→Fz,bootBuiltins→Gd,wpAny_comprehension_free→Gi,wpAny_typeNameOf_keyiter→Gj,attributeBase→Gm,call_meets→Gp,wpAny_dictEpoch→Gr,foldedSetIterable→Gw,pyNext→Gz,codeAny_mono→Ha,builtinLookup_eq_fast→Hc,isSubtype_type→Hd,tupleKind→Hj,assignEach→Ho,find?_eq_fast→Hz,strIterType→Ib,wpAny_of_eq→Ic,wpAny_execs_nil→Ih,letOwnedTupleGo→Ii,codeAny_builtin→Ik,importedModules→Il,FuncData→Ip,wpAny_Call_Name_kw→Iq,wpAny_typeOf→Iy,tupleKind_room_in1→Jb,typeIs_str→Jj,wpAny_rule→Jk,wpAny_pyIter_slot→Jt,keywordEach→Jw,IsPart→Jy,wpAny_isOneOf_itemiter→Jz,wpAny_isInstance→Kg,swapsWith→Kj,holding→Kk,typeLookup_type→Kt,isSubtype_stop→Lj,wpAny_setField→Lk,wpAny_fieldsOf→Ll,pyIter→Lp,DictEntry→Lq,getMethod→Lr,plainId_quiet→Mg,wpAny_assign_Name→Mh,standAt→Mr,callerA→Ms,Within→Mt,wpAny_execs_cons→Mu,backToKw→My,noFill_tuple_add→Na,wpAny_getItem_list_slice→Nb,wpAny_updateSeq→Nr,subscripted→Nv,wpAny_isTrue_Compare1→Oi,BindsTo→Oj,exec_Assign_Name_used→Ol,wpAny_newTuple→Oo,firstArgMember→Ot,wpAny_notOrdered_dict→Ou,wpAny_isOneOf_keyiter→Ov,entryOfKey→Oz,wpAny_load→Pb,PlainAttrs→Pd,wpAny_newFunctionEnv→Pe,entryFor→Pf,codeAny_call_builtin→Pg,seq_tuple_add→Po,wpAny_handled→Pq,concat_meets→Qk,slicePick→Qn,treeTable→Qv,wpAny_sequenceKey→Qz,wpAny_pyIter_list→Rb,wpAny_pyIter_enum→Rc,seqIndex_of→Rn,wpAny_throw→Ro,callWith→Rr,wpAny_Name→Si,wpAny_call→Sj,typeLookup→Sl,typeIs_int→Sn,call→Sq,closureFor→Sr,sliceRange→Sw,Keyword→Sx
open PySem.Around renaming under_plainId→Hu,under→Mx
open PySem.AutoSeq1 renaming wpAny_loadPart'→Kx
open PySem.Builtin.Dict renaming showsAll→Km
open PySem.Builtin.Dict_items renaming ownsTuple→He,ownedTupleFields→Jl
open PySem.Builtin.List renaming listItems→Ey,listTooLong→Iz,listSameRef→Ng
open PySem.Builtin.Slice renaming slicePlaces→Fq,sliceAdjust→Mo
open PySem.Builtin.SmallTypes renaming nextOf→Mp
open PySem.Builtin.Str renaming occurrences→Cn,strSliceIndices→Dz,partsBetween→Nc,strKind→Px
open PySem.Builtin.Tuple renaming tupleItemsOf→Mb
open PySem.Calls renaming Name_function_global→Ma,callWith_builtin→Nx
open PySem.Code renaming isFrame→Qi
open PySem.F renaming plainAttrs_str→Cf,plainAttrs_list→Co,slot_dict_itemiterator_next→Ct,slot_dict_keyiterator_next→Dq,slot_list_append→Em,type_list_append→En,plain_extend_loop→Gk,slot_enumerate_next→Hb,slot_str_join→Hh,type_str_join→Hi,slot_list_reversed→Hs,args_tuple_add_2→Iv,entry_tuple_add→Jo,slot_tuple_add→Jx,slot_str_split→Kb,type_str_split→Kc,args_dict_itemiterator_next_1→Ko,args_dict_keyiterator_next_1→Ku,entry_dict_itemiterator_next→Kw,entry_dict_keyiterator_next→Lb,slot_dict_itemiterator_iter→Lc,args_str_split_2→Lw,entry_str_split→Mj,slot_str_split→Nd,args_enumerate_next_1→Nj,plainAttrs_dict→Nk,slot_dict_items→Nl,type_dict_items→Nm,entry_enumerate_next→Nz,slot_dict_items_iter→Oe,slot_str_lower→Og,type_str_lower→Oh,entry_extend_loop→Qa,plain_list_iadd→Rk,slot_dict_iter→Ry,slot_int_rmul→So
open PySem.Heap renaming get?_push_of_some→Ai,lt_size→Ap,get?_push_size→Ar,get?_update_other→Ec,SameBut→Ei,size_push→Ga,get?_update_self→Kl,ExtBut→Ny
open PySem.Heap.IsSliceOf renaming new→Qm
open PySem.Heap.SameBut renaming update→Ig,refl→Ju
open PySem.Obj renaming mapSeq→Ex,data_mapFields→Jc,isFreed_of_fields→Oq,cls_mapFields→Rf
open PySem.Paired renaming length→Fj
open PySem.PassesOwn renaming never→Dy
open PySem.PyData renaming canLayAll0→Dw,depthAll→Ee,depthAll→Fh,eqv→Fs,canLay0→Gb,canLay0→Ht,eqvAll→Ia,depth→Ji,canLayAll0→Jr,depth→Lx,strOk→Qr
open PySem.SeqAt renaming EqAt→Di
open PySem.SeqAt.EqAt renaming str_str→Lu,int_str→Qc,str_int→Qd,same→Sm
open PySem.Str renaming ofString→Ad,empty→Fw,join→Li
open PySem.StrLaws renaming sliceText→Dv,occ_length_le→Oy,join_split→Qt,split_free→Qu
open PySem.Txt renaming split→Hm,join→Kd,lower→Kz,split→Nt,slice→Qo
open PySem.W renaming Frag→Ag,findIn→Cv,keepIn→Fn,emptyDict→Fv,kia_one→Fx,fnOf→Gg,codeIn→Hq,instObj→Im,plainGet→Kr,hasDictIn→Lm,Frag→Mw,plainOver→Nu,plainGet_of→Pn,isFn→Qg,makesIn→Qh,callWith_K→Qj,lookIn→Rq,cellsFrom_some→Rt,methodCall_KW→Sk,mg_of→Sy,takerIn→Sz,OpenLaw→Tb
namespace L2
open PySem PySem.Spec PyProof.Rows
abbrev Key:=Sum Int Str
def keyIs:Key->Value->Bool
 |.inl k,v=>Value.isInt k v
 |.inr x,v=>Value.isStrOf x v
def keyH(w:World):Key->Int
 |.inl k=>hashInt k
 |.inr x=>hashStr w x
theorem q1a:∀{k:Key} {v:Value},keyIs k v=true->(∃i t,k=Sum.inl i/\v=Value.int i t)\/(∃x t,k=Sum.inr x/\v=Value.str x t)
 |.inl i,v,h=>by
  obtain⟨t,e⟩:=Value.isInt_shape (k:=i) (v:=v) h;exact .inl ⟨i,t,rfl,e⟩
 |.inr x,v,h=>by
  obtain⟨t,e⟩:=Value.isStrOf_shape h;exact .inr ⟨x,t,rfl,e⟩
theorem z4y(i:Int)(t:Tok):keyIs (.inl i) (.int i t)=true:=by simp[keyIs,Value.isInt]
theorem z4z(x:Str)(t:Tok):keyIs (.inr x) (.str x t)=true:=by simp[keyIs,Value.isStrOf]
theorem key_ll(a b:Int):decide ((Sum.inl a:Key)=Sum.inl b)=(a==b):=by grind
theorem key_rr(a b:Str):decide ((Sum.inr a:Key)=Sum.inr b)=decide (a=b):=by grind
theorem key_lr(a:Int)(b:Str):decide ((Sum.inl a:Key)=Sum.inr b)=false:=decide_eq_false (fun q=>nomatch q)
theorem key_rl(a:Str)(b:Int):decide ((Sum.inr a:Key)=Sum.inl b)=false:=decide_eq_false (fun q=>nomatch q)
def mixKind(prog:Program)(w:World):PySem.KeyKind prog w Key where
 is:=keyIs
 hash:=keyH w
 inj:=fun v a b ha hb=>by
  rcases q1a ha with⟨i,t,rfl,rfl⟩|⟨x,t,rfl,rfl⟩
  ·rcases q1a hb with⟨j,u,rfl,e⟩|⟨y,u,rfl,e⟩
   ·injection e with e1 _;rw[e1]
   ·exact nomatch e
  ·rcases q1a hb with⟨j,u,rfl,e⟩|⟨y,u,rfl,e⟩
   ·exact nomatch e
   ·injection e with e1 _;rw[e1]
 byValue:=fun k v h=>by
  rcases q1a h with⟨i,t,rfl,rfl⟩|⟨x,t,rfl,rfl⟩<;>rfl
 pyHash:=fun hv h=>by
  rcases q1a hv with⟨i,t,rfl,rfl⟩|⟨x,t,rfl,rfl⟩
  ·exact wpAny_pyHash_int h
  ·exact wpAny_pyHash_str h
 eqBool:=fun hu hv h=>by
  rcases q1a hu with⟨i,t,rfl,rfl⟩|⟨x,t,rfl,rfl⟩
  ·rcases q1a hv with⟨j,u,rfl,rfl⟩|⟨y,u,rfl,rfl⟩
   ·rw[key_ll] at h;exact wpAny_eqBool_int h
   ·rw[key_lr] at h;exact Qc i t y u _ _ _ _ h
  ·rcases q1a hv with⟨j,u,rfl,rfl⟩|⟨y,u,rfl,rfl⟩
   ·rw[key_rl] at h;exact Qd x t j u _ _ _ _ h
   ·rw[key_rr] at h;exact wpAny_eqBool_str h
 «strs» := fun k x t v h=>by
  rcases q1a h with⟨i,u,rfl,e⟩|⟨y,u,rfl,e⟩
  ·exact nomatch e
  ·injection e with e1 _
   subst e1
   cases v<;>rfl
theorem z1c(prog:Program)(w:World)(i:Int)(t:Tok):(mixKind prog w).is (.inl i) (.int i t)=true:=z4y i t
theorem z1d(prog:Program)(w:World)(x:Str)(t:Tok):(mixKind prog w).is (.inr x) (.str x t)=true:=z4z x t
inductive V where
 |non|bl (b:Bool)|int (i:Int)|str (x:Str)|byt (b:Array UInt8)|flt (b:UInt64)|ref (a:Addr)|ty (n:String)
 deriving DecidableEq
def RelV:V->Value->Prop
 |.non,u=>u=Value.none
 |.bl b,u=>u=Value.bool b
 |.int i,u=>∃t,u=Value.int i t
 |.str x,u=>∃t,u=Value.str x t
 |.byt b,u=>∃t,u=Value.bytes b t
 |.flt b,u=>∃t,u=Value.float b t
 |.ref a,u=>u=Value.ref a
 |.ty n,u=>u=Value.type n
abbrev Vals:List V->List Value->Prop:=Dp RelV
theorem Vals.length(r:Vals xs us):xs.length=us.length:=Fj r
theorem Vals.get:∀{xs:List V} {us:List Value} {i:Nat} {x:V},Vals xs us->xs[i]?=some x->∃u,us[i]?=some u/\RelV x u
 |_,_,_,_,.nil,e=>by simp at e
 |_,_,0,_,.cons r _,e=>by simp at e;subst e;exact⟨_,rfl,r⟩
 |_,_,i+1,x,.cons _ t,e=>by
  obtain⟨u,h1,h2⟩:=Vals.get (i:=i) (x:=x) t (by simpa using e);exact⟨u,by simpa using h1,h2⟩
theorem Vals.set{x:V}{u:Value}(r:RelV x u):∀{xs:List V} {us:List Value} (i:Nat),Vals xs us->Vals (xs.set i x) (us.set i u)
 |_,_,_,.nil=>.nil
 |_,_,0,.cons _ t=>.cons r t
 |_,_,i+1,.cons q t=>.cons q (Vals.set r i t)
theorem Vals.append:∀{xs ys:List V} {us ws:List Value},Vals xs us->Vals ys ws->Vals (xs++ys) (us++ws)
 |_,_,_,_,.nil,s=>s
 |_,_,_,_,.cons r t,s=>.cons r (Vals.append t s)
theorem Vals.take:∀{xs:List V} {us:List Value} (n:Nat),Vals xs us->Vals (xs.take n) (us.take n)
 |_,_,0,_=>.nil
 |_,_,_+1,.nil=>.nil
 |_,_,n+1,.cons r t=>.cons r (Vals.take n t)
theorem Vals.drop:∀{xs:List V} {us:List Value} (n:Nat),Vals xs us->Vals (xs.drop n) (us.drop n)
 |_,_,0,r=>r
 |_,_,_+1,.nil=>.nil
 |_,_,n+1,.cons _ t=>Vals.drop n t
theorem Vals.none_of:∀{xs:List V} {us:List Value} {i:Nat},Vals xs us->xs[i]?=none->us[i]?=none:=fun{xs us i} r e=>by
 have h1:=r.length;have h2:=Mm.mp e;exact Mm.mpr (by lia)
def RelO:Option V->Option Value->Prop
 |some v,some u=>RelV v u
 |none,none=>True
 |_,_=>False
def KV{κ:Type}:List (κ×V)->List (κ×Value)->Prop:=Dp fun(p:κ×V) (q:κ×Value)=>p.1=q.1/\RelV p.2 q.2
def kV:Key->V
 |.inl i=>.int i
 |.inr x=>.str x
inductive HO where
 |lst (xs:List V)
 |tup (xs:List V)
 |dK (kvs:List (Key×V))|dT (kvs:List (List Key×V))
 |set (S:Int->Bool) (n:Nat)
 |ins (C dx:Addr) (fs:List (Str×V))
 |own (x:Addr)
 |xd (fs:List (Str×V))
 |met (f x:Addr)
 |rng (lo hi:Int)
 |frz (o:Obj) (u:HO)
 |tbl (ps:Array Value)
 |ext (φ:Heap->Prop)
abbrev Hp:=Addr->Option HO
def upd(H:Hp)(a:Addr)(o:HO):Hp:=fun b=>if b=a then some o else H b
theorem q0b:upd H a o a=some o:=by unfold upd;rw[if_pos rfl]
theorem q0e(h:b≠a):upd H a o b=H b:=by unfold upd;rw[if_neg h]
theorem x2m:upd (upd H a o) a u=upd H a u:=by
 funext b;unfold upd;split<;>rfl
theorem z5a{H:Hp}(h:H a=some o)(h':H b=some u)(d:o≠u):a≠b:=by grind
theorem q0m{H:Hp}(h:H a=some o)(h':H b=none):a≠b:=by
 intro e;subst e;rw[h] at h';cases h'
section
variable(P:Program)(w:World)
def ObjOk(H:Hp)(h:Heap)(a:Addr):HO->Prop
 |.lst xs=>xs.length<=sizeLine/\∃(its:List Value) (n:Nat),Vals xs its/\h.get? a=some { cls:=.type "list",data:=.seq its.toArray n }
 |.tup xs=>xs.length<=sizeLine/\∃its:List Value,Vals xs its/\IsTup h a its.toArray
 |.dK kvs=>kvs.length<=sizeLine/\(a==Eh)=false/\∃vs,KV kvs vs/\h.DictOf (mixKind P w) a vs
 |.dT kvs=>kvs.length<=sizeLine/\(a==Eh)=false/\∃xs:List (List Key×Addr×Value),
   Dp (fun(p:List Key×V) (q:List Key×Addr×Value)=>p.1=q.1/\H q.2.1=some (.tup (p.1.map kV))/\RelV p.2 q.2.2) kvs xs /\
   ∃o es ep,h.get? a=some o/\o.ExactDict/\o.data=.dict es ep/\es.toList=xs.map (Oz (Hj (mixKind P w)))/\(xs.map (·.1)).Nodup
 |.set S n=>h.SetOf (intKind P w) a S n
 |.ins C dx fs=>H dx=some (.own a)/\fs.length<=1000/\dx≠a/\h.get? a=some (Im C dx) /\
   ∃mA,h.Ns1 dx mA/\(∀f,RelO (fs.lookup f) (mA f))/\Mt mA (fs.map (·.1))
 |.own _=>∃o,h.get? a=some o
 |.xd fs=>∃mA,h.Ns1 a mA/\∀f,RelO (fs.lookup f) (mA f)
 |.rng lo hi=>∃t u v,h.get? a=some { cls:=.type "range",data:=.fields #[.int lo t,.int hi u,.int 1 v] }
 |.frz o u=>h.get? a=some o/\ObjOk H h a u
 |.tbl ps=>h.get? a=some { cls:=.none,data:=.fields ps }
 |.met f x=>h.get? a=some (W.methodObj (.ref f) (.ref x))
 |.ext φ=>φ h/\(∃o,h.get? a=some o)/\∀h1 h2:Heap,φ h1->(∀o,h1.get? a=some o->h2.get? a=some o)->φ h2
def HOk(H:Hp)(h:Heap):Prop:=∀a o,H a=some o->ObjOk P w H h a o
end
section
variable{P:Program}{w:World}{H H':Hp}{h h':Heap}{a:Addr}{o:HO}
theorem ObjOk.lt(x:ObjOk P w H h a o):a<h.objs.size:=by
 cases o with
 |lst xs=>obtain⟨_,_,_,_,e⟩:=x;exact Ap e
 |tup xs=>obtain⟨_,_,_,p⟩:=x;exact p.lt
 |dK kvs=>obtain⟨_,_,_,_,o,_,_,e,_⟩:=x;exact Ap e
 |dT kvs=>obtain⟨_,_,_,_,o,_,_,e,_⟩:=x;exact Ap e
 |set S n=>obtain⟨o,_,_,_,e,_⟩:=x;exact Ap e
 |ins C dx fs=>obtain⟨_,_,_,e,_⟩:=x;exact Ap e
 |own y=>obtain⟨_,e⟩:=x;exact Ap e
 |xd fs=>obtain⟨_,⟨_,_,_,e,_⟩,_⟩:=x;exact Ap e
 |rng lo hi=>obtain⟨_,_,_,e⟩:=x;exact Ap e
 |frz ob u=>obtain⟨e,_⟩:=x;exact Ap e
 |tbl ps=>exact Ap (show h.get? a=some _ from x)
 |met f y=>exact Ap (show h.get? a=some _ from x)
 |ext φ=>obtain⟨_,⟨_,e⟩,_⟩:=x;exact Ap e
theorem Dp.mapP{α β:Type}{F G:α->β->Prop}:∀{l₁:List α} {l₂:List β},Dp F l₁ l₂->(∀a b,F a b->G a b)->Dp G l₁ l₂
 |_,_,.nil,_=>.nil
 |_,_,.cons r t,f=>.cons (f _ _ r) (Dp.mapP t f)
theorem ObjOk.stay(x:ObjOk P w H h a o)(k:∀b u,(b=a\/H b=some (.own a))->h.get? b=some u->h'.get? b=some u)(ho:∀b,H b=some (.own a)->H' b=some (.own a))(ht:∀b xs,H b=some (.tup xs)->H' b=some (.tup xs)):ObjOk P w H' h' a o:=by
 induction o with
 |lst xs=>obtain⟨z,its,n,r,e⟩:=x;exact⟨z,its,n,r,k _ _ (.inl rfl) e⟩
 |tup xs=>obtain⟨z,its,r,ob,e,c⟩:=x;exact⟨z,its,r,ob,k _ _ (.inl rfl) e,c⟩
 |dK kvs=>obtain⟨z,y,vs,r,ob,es,ep,e,c⟩:=x;exact⟨z,y,vs,r,ob,es,ep,k _ _ (.inl rfl) e,c⟩
 |dT kvs =>
  obtain⟨z,y,xs,r,ob,es,ep,e,c⟩:=x;exact⟨z,y,xs,Dp.mapP r fun p q z=>⟨z.1,ht _ _ z.2.1,z.2.2⟩,ob,es,ep,k _ _ (.inl rfl) e,c⟩
 |set S n=>obtain⟨ob,es,ep,t,e,c⟩:=x;exact⟨ob,es,ep,t,k _ _ (.inl rfl) e,c⟩
 |ins C dx fs =>
  obtain⟨d,z,ne,e,mA,⟨od,es,ep,e2,c⟩,r⟩:=x;exact⟨ho _ d,z,ne,k _ _ (.inl rfl) e,mA,⟨od,es,ep,k _ _ (.inr d) e2,c⟩,r⟩
 |own y=>obtain⟨ob,e⟩:=x;exact⟨ob,k _ _ (.inl rfl) e⟩
 |xd fs=>obtain⟨mA,⟨od,es,ep,e,c⟩,r⟩:=x;exact⟨mA,⟨od,es,ep,k _ _ (.inl rfl) e,c⟩,r⟩
 |rng lo hi=>obtain⟨t,u,v,e⟩:=x;exact⟨t,u,v,k _ _ (.inl rfl) e⟩
 |frz ob u ih=>obtain⟨e,q⟩:=x;exact⟨k _ _ (.inl rfl) e,ih q⟩
 |tbl ps =>
  have e:h.get? a=some { cls:=.none,data:=.fields ps }:=x;exact k a _ (.inl rfl) e
 |met f y =>
  have e:=x;exact k a _ (.inl rfl) e
 |ext φ=>obtain⟨p,⟨o,e⟩,st⟩:=x;exact⟨st _ _ p fun o q=>k _ _ (.inl rfl) q,⟨o,k _ _ (.inl rfl) e⟩,st⟩
theorem HOk.lt(x:HOk P w H h)(e:H a=some o):a<h.objs.size:=(x a o e).lt
theorem HOk.fresh(x:HOk P w H h)(e:h.objs.size<=a):H a=none:=by
 cases q:H a with
 |none=>rfl
 |some u=>exact absurd (Bl (x.lt q) e) (Ep _)
theorem HOk.kept(x:HOk P w H h)(k:∀b u,h.get? b=some u->h'.get? b=some u):HOk P w H h':=fun a o e =>
 (x a o e).stay (fun b u _ q=>k b u q) (fun _ q=>q) fun _ _ q=>q
theorem HOk.laid(x:HOk P w H h)(k:∀b u,h.get? b=some u->h'.get? b=some u)(hp:h.objs.size<=a)(new:ObjOk P w (upd H a o) h' a o):HOk P w (upd H a o) h':=fun b u e=>by
 have hn:=x.fresh hp;by_cases hb:b=a
 ·subst hb;rw[q0b] at e;cases e;exact new
 ·rw[q0e hb] at e;exact(x b u e).stay (fun c v _ q=>k c v q) (fun c q=>by rw[q0e (q0m q hn)];exact q) fun c xs q=>by rw[q0e (q0m q hn)];exact q
end
def Rd(H:Hp)(a:Addr)(u:HO):Prop:=H a=some u\/∃o,H a=some (.frz o u)
theorem Rd.of(h:H a=some u):Rd H a u:=.inl h
theorem Rd.ok(r:Rd H a u)(x:HOk P w H h):ObjOk P w H h a u:=by
 rcases r with r|⟨o,r⟩
 ·exact x a u r
 ·obtain⟨_,q⟩:=x a _ r;exact q
def Mut:Option HO->Prop
 |some (.lst _)=>True
 |some (.dK _)=>True
 |some (.dT _)=>True
 |some (.set _ _)=>True
 |some (.ins _ _ _)=>True
 |some (.ext _)=>True
 |_=>False
section
variable{P:Program}{w:World}{H:Hp}{h h':Heap}{x e:Addr}{o':HO}
theorem HOk.write(ok:HOk P w H h)(mu:Mut (H x))(he:e=x\/H e=some (.own x))(k:∀b u,b≠e->h.get? b=some u->h'.get? b=some u)(heo:∃u,h'.get? e=some u)(new:ObjOk P w (upd H x o') h' x o'):HOk P w (upd H x o') h':=fun b u q=>by
 have nown:∀c y,H c=some (.own y)->c≠x:=fun c y r z=>by subst z;rw[r] at mu;exact mu
 have ntup:∀c xs,H c=some (.tup xs)->c≠x:=fun c xs r z=>by subst z;rw[r] at mu;exact mu
 by_cases hb:b=x
 ·subst hb;rw[q0b] at q;cases q;exact new
 ·rw[q0e hb] at q;by_cases hbe:b=e
  ·have q':H b=some (.own x):=by
    rcases he with z|z
    ·grind
    ·rw[hbe];exact z
   rw[q] at q';cases q';obtain⟨v,hv⟩:=heo;exact⟨v,by rw[hbe];exact hv⟩
  ·refine(ok b u q).stay (fun c v hc r=>k c v ?_ r) (fun c r=>by rw[q0e (nown c b r)];exact r) fun c xs r=>by rw[q0e (ntup c xs r)];exact r
   rcases hc with rfl|hc
   ·exact hbe
   ·grind
end
structure Un (fs ex:List Addr) (H H':Hp) (h h':Heap):Prop where
 keep:∀b o,h.get? b=some o->H b=none->b∉fs->b∉ex->h'.get? b=some o
 slot:∀b o,h.get? b=some o->H b=none->b∈fs->b∉ex->∃sl,h'.get? b=some { o with slots:=sl }
 free:∀b o,h.get? b=some o->H b=none->b∉ex->H' b=none
 there:∀b o,h.get? b=some o->b∉ex->∃o',h'.get? b=some o'
 tups:∀b xs,H b=some (.tup xs)->H' b=some (.tup xs)
 frzs:∀b o u,H b=some (.frz o u)->H' b=some (.frz o u)
 tbls:∀b ps,H b=some (.tbl ps)->∃more,H' b=some (.tbl (ps++more))
section
variable{fs fs' ex ex':List Addr}{H H1 H2:Hp}{h h1 h2 h':Heap}{a x e:Addr}{o:HO}
theorem Un.any(u:Un fs ex H H1 h h1)(q:h.get? b=some ob)(n:H b=none)(hx:b∉ex):∃sl,h1.get? b=some { ob with slots:=sl }:=by
 by_cases hb:b∈fs
 ·exact u.slot b ob q n hb hx
 ·exact⟨ob.slots,u.keep b ob q n hb hx⟩
theorem Un.trans(a:Un fs ex H H1 h h1)(b:Un fs ex H1 H2 h1 h2):Un fs ex H H2 h h2 where
 keep:=fun c ob q n hc hx=>b.keep c ob (a.keep c ob q n hc hx) (a.free c ob q n hx) hc hx
 slot:=fun c ob q n hc hx=>by
  obtain⟨sl,e1⟩:=a.slot c ob q n hc hx;obtain⟨sl',e2⟩:=b.slot c _ e1 (a.free c ob q n hx) hc hx;exact⟨sl',e2⟩
 free:=fun c ob q n hx=>by
  obtain⟨o',e1⟩:=a.there c ob q hx;exact b.free c o' e1 (a.free c ob q n hx) hx
 there:=fun c ob q hx=>by
  obtain⟨o',e1⟩:=a.there c ob q hx;exact b.there c o' e1 hx
 tups:=fun c xs q=>b.tups c xs (a.tups c xs q)
 frzs:=fun c ob xs q=>b.frzs c ob xs (a.frzs c ob xs q)
 tbls:=fun c ps q=>by
  obtain⟨m1,e1⟩:=a.tbls c ps q;obtain⟨m2,e2⟩:=b.tbls c _ e1;exact⟨m1++m2,by rw[e2,Qe]⟩
theorem Un.kept(k:∀b u,h.get? b=some u->h'.get? b=some u):Un fs ex H H h h' :=
 ⟨fun b ob q _ _ _=>k b ob q,fun b ob q _ _ _=>⟨ob.slots,k b ob q⟩,fun _ _ _ n _=>n,fun b ob q _=>⟨ob,k b ob q⟩,fun _ _ q=>q,fun _ _ _ q=>q,fun _ ps q=>⟨#[],by rw[q];simp⟩⟩
theorem Un.refl:Un fs ex H H h h:=Un.kept fun _ _ q=>q
theorem Un.laid(k:∀b u,h.get? b=some u->h'.get? b=some u)(hp:h.objs.size<=a)(hn:H a=none):Un fs ex H (upd H a o) h h' where
 keep:=fun b u q _ _ _=>k b u q
 slot:=fun b u q _ _ _=>⟨u.slots,k b u q⟩
 free:=fun b u q n _=>by rw[q0e (Bg (Bl (Ap q) hp))];exact n
 there:=fun b u q _=>⟨u,k b u q⟩
 tups:=fun b xs q=>by rw[q0e (q0m q hn)];exact q
 frzs:=fun b u xs q=>by rw[q0e (q0m q hn)];exact q
 tbls:=fun b ps q=>⟨#[],by rw[q0e (q0m q hn),q];simp⟩
theorem Un.write(mu:Mut (H x))(he:e=x\/H e=some (.own x))(k:∀b u,b≠e->h.get? b=some u->h'.get? b=some u)(heo:∃u,h'.get? e=some u):Un fs ex H (upd H x o) h h':=by
 have hx:∀b,H b=none->b≠x:=fun b n z=>by subst z;rw[n] at mu;exact mu
 have hb:∀b,H b=none->b≠e:=fun b n z=>by
  subst z;rcases he with r|r
  ·exact hx b n r
  ·rw[n] at r;cases r
 have hm:∀b u,H b=some u->¬Mut (some u)->b≠x:=fun b u q nm z=>by subst z;rw[q] at mu;exact nm mu
 refine⟨fun b u q n _ _=>k b u (hb b n) q,fun b u q n _ _=>⟨u.slots,k b u (hb b n) q⟩,fun b u q n _=>by rw[q0e (hx b n)];exact n,fun b u q _=>?_,
  fun b xs q=>by rw[q0e (hm b _ q fun z=>z)];exact q,fun b u xs q=>by rw[q0e (hm b _ q fun z=>z)];exact q,fun b ps q=>⟨#[],by rw[q0e (hm b _ q fun z=>z),q];simp⟩⟩
 by_cases hbe:b=e
 ·subst hbe;exact heo
 ·grind
theorem Un.mono(u:Un fs ex H H1 h h1)(hs:∀b∈fs,b∈fs')(hx:∀b∈ex,b∈ex'):Un fs' ex' H H1 h h1 :=
 ⟨fun b ob q n hb he=>u.keep b ob q n (fun z=>hb (hs b z)) fun z=>he (hx b z),fun _ _ q n _ he=>u.any q n fun z=>he (hx _ z),fun b ob q n he=>u.free b ob q n fun z=>he (hx b z),fun b ob q he=>u.there b ob q fun z=>he (hx b z),u.tups,u.frzs,u.tbls⟩
end
def trk(h:Heap)(H:Hp):List Addr:=(List.range h.objs.size).filter fun a=>(H a).isSome
def hidT(h:Heap)(H:Hp):Heap:=W.hideAll h (trk h H)
theorem z5b(h:Heap)(H:Hp):(hidT h H).objs.size=h.objs.size:=W.hideAll_size _ _
theorem z9b(e:h.get? b=some o)(n:H b=none):(hidT h H).get? b=some o :=
 W.hideAll_get _ e fun hm=>by
  have q:=(Sh.mp hm).2;rw[n] at q;simp at q
theorem x2n(e:(hidT h H).get? b=some o):h.get? b=some o/\H b=none:=by
 have e':=W.of_hideAll (trk h H) e;refine⟨e',?_⟩;cases q:H b with
 |none=>rfl
 |some x =>
  have hm:b∈trk h H:=Sh.mpr ⟨Dc.mpr (Ap e'),by simp[q]⟩;have z:(hidT h H).get? b=none:=W.hideAll_none (trk h H) hm;rw[z] at e;cases e
def allNews(g h:Heap)(L:Addr):List (Addr×Obj):=(List.range h.objs.size).filterMap fun a=>if a=L\/(g.get? a).isSome=true then none else(h.get? a).map fun o=>(a,o)
def rest(g h:Heap)(L d:Addr):List (Addr×Obj):=(allNews g h L).filter fun p=>decide (p.1≠d)
open PySem PySem.Spec PyProof.Rows
structure Mod (K:Ag) (mg:Str->Option Value) (base:Heap):Prop where
 kin:K.In base
 glob:base.Ns Cj mg
 blt:∃mb,base.Ns builtinsNs mb/\∀x:Str,x ≠ "__name__" -> mb x=Gd x
 nolimit:base.NoLimit
structure Cx where
 prog:Program
 w:World
 K:Ag
 mg:Str->Option Value
 base:Heap
 A:Around
 N:List Str
 s₀:Ae
 H₀:Hp
 env:Env
 outer:List Env
 stack:List Env
 ex:List Addr
 fn:Str->Bool
 calm:Bool
 pn:List (Addr×Obj)
 xe:Value->Ae->Prop
def frs(l:List Env):List Addr:=l.filterMap (·.frame)
abbrev Cx.fs(X:Cx):List Addr:=frs X.outer
def Vis(sc:Scope)(x:Str):Prop:=sc.names.lookup x=some .local\/sc.names.lookup x=some .cell\/sc.names.lookup x=some .free
def Loc(sc:Scope)(x:Str):Prop:=sc.names.lookup x=some .local\/sc.names.lookup x=some .cell
def Look(env:Env)(h:Heap)(m:Str->Option Value)(x:Str)(u:Value):Prop :=
 (env.kindOf x=some .local/\m x=some u)\/((env.kindOf x=some .cell\/env.kindOf x=some .free)/\∃c,env.cells.lookup x=some c/\h.IsCell c (some u))
structure Cx.Ok (X:Cx):Prop where
 mod:Mod X.K X.mg X.base
 kind:X.env.scope.kind=.function
 glob:X.env.globals=Cj
 blt:X.env.builtins=builtinsNs
 above:X.s₀.heap.objs.size<=X.env.locals
 inj:∀x y c,X.env.cells.lookup x=some c->X.env.cells.lookup y=some c->x=y
 has:∀x,(X.env.kindOf x=some .cell\/X.env.kindOf x=some .free)->∃c,X.env.cells.lookup x=some c
 cab:∀x c,X.fn x=true->X.env.cells.lookup x=some c->X.s₀.heap.objs.size<=c
 hd:X.calm=true->X.A.handled=none
 frames:X.A.frames=some X.stack
 stk:X.stack=X.outer\/(X.stack=X.env::X.outer/\X.env.frame=some X.env.locals)
 exf:∀b∈X.ex,b≠X.env.locals/\∀x c,X.env.cells.lookup x=some c->c≠b
 bs:∀b o,X.base.get? b=some o->X.s₀.heap.get? b=some o/\X.H₀ b=none
 bsz:X.base.objs.size<=X.s₀.heap.objs.size
 noex:∀b o,X.base.get? b=some o->b∉X.ex
 exfs:∀b∈X.ex,b∉X.fs
 funs:X.s₀.heap.FunFrames X.base X.outer
 frf:∀b∈X.fs,X.H₀ b=none
structure Inv (X:Cx) (pins:List (Addr×Obj)) (σ:List (Option V)) (H:Hp) (s:Ae):Prop where
 ok:X.Ok
 os:s.os=X.s₀.os
 bare:Ki s.gens
 base:Un X.fs X.ex X.H₀ H X.s₀.heap s.heap
 loc:∃m,s.heap.Ns X.env.locals m/\∀(i:Nat) (x:Str) (v:V),X.N[i]?=some x->σ[i]?=some (some v)->Vis X.env.scope x->∃u,RelV v u/\Look X.env s.heap m x u
 cell:∀x c,X.env.cells.lookup x=some c->∃v,s.heap.IsCell c v
 free:H X.env.locals=none
 freeC:∀x c,X.env.cells.lookup x=some c->H c=none
 pin:∀p∈X.pn++pins,s.heap.get? p.1=some p.2/\H p.1=none/\p.1≠X.env.locals/\p.1∉X.fs/\∀v,p.2.data≠.cell v
 hok:HOk X.prog X.w H s.heap
 len:σ.length=X.N.length
section
variable{X:Cx}{pins:List (Addr×Obj)}{σ:List (Option V)}{H H':Hp}{s:Ae}{h':Heap}
theorem Cx.Ok.nofr(ok:X.Ok)(e:X.base.get? b=some o):b∉X.fs:=fun hb=>by
 have:=(ok.funs.mem hb).1;rw[e] at this;cases this
theorem Inv.bs(I:Inv X pins σ H s):∀b o,X.base.get? b=some o->s.heap.get? b=some o/\H b=none:=fun b o e =>
 ⟨I.base.keep b o (I.ok.bs b o e).1 (I.ok.bs b o e).2 (I.ok.nofr e) (I.ok.noex b o e),I.base.free b o (I.ok.bs b o e).1 (I.ok.bs b o e).2 (I.ok.noex b o e)⟩
theorem Inv.bk(I:Inv X pins σ H s):∀b o,X.base.get? b=some o->s.heap.get? b=some o:=fun b o e=>(I.bs b o e).1
theorem Inv.mod(I:Inv X pins σ H s):Mod X.K X.mg X.base:=I.ok.mod
theorem Inv.kIn(I:Inv X pins σ H s):X.K.In s.heap:=I.ok.mod.kin.keeps I.bk
theorem Inv.nolimit(I:Inv X pins σ H s):s.heap.NoLimit:=I.ok.mod.nolimit.keeps I.bk
theorem Inv.fr(I:Inv X pins σ H s):∃m,Fr X.base X.env.locals s.heap m :=
 let ⟨m,hn,_⟩:=I.loc
 ⟨m,hn,I.bk,Cq I.ok.bsz I.ok.above⟩
theorem Inv.lt(I:Inv X pins σ H s):X.env.locals<s.heap.objs.size:=let ⟨_,hn,_⟩:=I.loc;hn.lt
theorem Inv.sz(I:Inv X pins σ H s):X.s₀.heap.objs.size<=s.heap.objs.size:=Cq I.ok.above (Gy I.lt)
theorem Inv.nofs(I:Inv X pins σ H s){a:Addr}(h:s.heap.objs.size<=a):a∉X.fs:=fun hb=>by
 obtain⟨_,o,ho,_⟩:=I.ok.funs.mem hb;exact absurd (Bl (Ap ho) (Cq I.sz h)) (Ep _)
theorem Inv.cne(I:Inv X pins σ H s):∀x c,X.env.cells.lookup x=some c->c≠X.env.locals:=fun x c e z=>by
 obtain⟨v,o,ho,hd⟩:=I.cell x c e;obtain⟨m,⟨o',es,ep,ho',hd',_⟩,_⟩:=I.loc;rw[z,ho'] at ho;cases ho;rw[hd'] at hd;cases hd
theorem Inv.funs(I:Inv X pins σ H s):s.heap.FunFrames X.base X.outer:=by
 have all:∀(l:List Env),(∀b∈frs l,b∈X.fs)->X.s₀.heap.FunFrames X.base l->s.heap.FunFrames X.base l:=by
  intro l;induction l with
  |nil=>intro _ _;trivial
  |cons env r ih =>
   intro hs hl;obtain⟨hk,⟨L,o,hf,hn,ho,hd⟩,hr⟩:=hl;have hL:=hs L (by unfold frs;rw[Ie,hf];exact Aj);obtain⟨sl,e⟩:=I.base.slot L o ho (I.ok.frf L hL) hL fun z=>I.ok.exfs L z hL;exact⟨hk,⟨L,_,hf,hn,e,hd⟩,ih (fun b hb=>hs b (by unfold frs;rw[Ie,hf];exact Ah _ hb)) hr⟩
 exact all X.outer (fun _ hb=>hb) I.ok.funs
theorem Inv.stack(I:Inv X pins σ H s):s.heap.FunFrames X.base X.stack:=by
 rcases I.ok.stk with e|⟨e,hf⟩
 ·rw[e];exact I.funs
 ·rw[e];obtain⟨m,hn,_⟩:=I.loc;refine .cons (by rw[I.ok.kind];decide) hf hn ?_ I.funs;exact Heap.get?_none_of_le (Cq I.ok.bsz I.ok.above)
theorem Inv.stkSub(I:Inv X pins σ H s):∀b∈frs X.stack,b∈X.env.locals::X.fs:=fun b hb=>by
 rcases I.ok.stk with e|⟨e,hf⟩
 ·grind
 ·rw[e] at hb;unfold frs at hb;rw[Ie,hf] at hb;exact hb
theorem Inv.stkFree(I:Inv X pins σ H s):∀b∈frs X.stack,H b=none:=fun b hb=>by
 rcases Ba.mp (I.stkSub b hb) with e|hb
 ·rw[e];exact I.free
 ·obtain⟨_,o,ho,_⟩:=I.ok.funs.mem hb;exact I.base.free b o ho (I.ok.frf b hb) fun z=>I.ok.exfs b z hb
theorem Inv.step{ch:List Addr}(I:Inv X pins σ H s)(hch:∀b∈ch,(b∈X.ex\/X.s₀.heap.objs.size<=b)/\b≠X.env.locals/\(∀x c,X.env.cells.lookup x=some c->c≠b)/\∀p∈X.pn++pins,p.1≠b)(keep:∀b o,b≠X.env.locals->b∉X.fs->b∉ch->s.heap.get? b=some o->H b=none->h'.get? b=some o)(slot:∀b o,b≠X.env.locals->b∈X.fs->b∉ch->s.heap.get? b=some o->H b=none->∃sl,h'.get? b=some { o with slots:=sl })(free:∀b o,b∉ch->s.heap.get? b=some o->H b=none->H' b=none)(there:∀b o,b∉ch->s.heap.get? b=some o->∃o',h'.get? b=some o')(tups:∀b xs,H b=some (.tup xs)->H' b=some (.tup xs))(frzs:∀b o u,H b=some (.frz o u)->H' b=some (.frz o u))(tbls:∀b ps,H b=some (.tbl ps)->∃more,H' b=some (.tbl (ps++more)))(ns:∀m,s.heap.Ns X.env.locals m->h'.Ns X.env.locals m)(hok:HOk X.prog X.w H' h')(hg:Ki g'):
  Inv X pins σ H' { s with heap:=h',gens:=g',drawn:=d',toks:=t' }:=by
 have neL:∀b o,X.s₀.heap.get? b=some o->b≠X.env.locals:=fun b o e=>Bg (Bl (Ap e) I.ok.above);have neC:∀b o,X.s₀.heap.get? b=some o->b∉X.ex->b∉ch:=fun b o e hx hb=>by
  rcases(hch b hb).1 with z|z
  ·exact hx z
  ·exact absurd (Bl (Ap e) z) (Ep _)
 have cellK:∀x c,X.env.cells.lookup x=some c->∀v,s.heap.IsCell c v->h'.IsCell c v:=fun x c e v ⟨o,ho,hd⟩=>by
  have nch:=fun z=>(hch c z).2.2.1 x c e rfl;by_cases hc:c∈X.fs
  ·obtain⟨sl,q⟩:=slot c o (I.cne x c e) hc nch ho (I.freeC x c e);exact⟨_,q,hd⟩
  ·exact⟨o,keep c o (I.cne x c e) hc nch ho (I.freeC x c e),hd⟩
 refine⟨I.ok,I.os,hg,⟨fun b o e n hb hx=>?_,fun b o e n hb hx=>?_,fun b o e n hx=>?_,fun b o e hx=>?_,fun b xs e=>tups b xs (I.base.tups b xs e),fun b o xs e=>frzs b o xs (I.base.frzs b o xs e),fun b ps e=>?_⟩,?_,fun x c e=>?_,?_,fun x c e=>?_,fun p hp=>?_,hok,I.len⟩
 ·exact keep b o (neL b o e) hb (neC b o e hx) (I.base.keep b o e n hb hx) (I.base.free b o e n hx)
 ·obtain⟨sl,e1⟩:=I.base.slot b o e n hb hx;obtain⟨sl',e2⟩:=slot b _ (neL b o e) hb (neC b o e hx) e1 (I.base.free b o e n hx);exact⟨sl',e2⟩
 ·obtain⟨o',e1⟩:=I.base.there b o e hx;exact free b o' (neC b o e hx) e1 (I.base.free b o e n hx)
 ·obtain⟨o',e1⟩:=I.base.there b o e hx;exact there b o' (neC b o e hx) e1
 ·obtain⟨m1,e1⟩:=I.base.tbls b ps e;obtain⟨m2,e2⟩:=tbls b _ e1;exact⟨m1++m2,by rw[e2,Qe]⟩
 ·obtain⟨m,hn,hl⟩:=I.loc;refine⟨m,ns m hn,fun i x v e1 e2 e3=>?_⟩;obtain⟨u,r,l⟩:=hl i x v e1 e2 e3;refine⟨u,r,?_⟩;rcases l with l|⟨k,c,e,z⟩
  ·exact .inl l
  ·exact .inr ⟨k,c,e,cellK x c e _ z⟩
 ·obtain⟨v,z⟩:=I.cell x c e;exact⟨v,cellK x c e v z⟩
 ·obtain⟨m,⟨o,_,_,ho,_⟩,_⟩:=I.loc;exact free _ o (fun z=>(hch _ z).2.1 rfl) ho I.free
 ·obtain⟨v,o,ho,hd⟩:=I.cell x c e;exact free c o (fun z=>(hch c z).2.2.1 x c e rfl) ho (I.freeC x c e)
 ·obtain⟨e,n,ne,nf,d⟩:=I.pin p hp;have nch:=fun z=>(hch p.1 z).2.2.2 p hp rfl
  exact⟨keep p.1 p.2 ne nf nch e n,free p.1 p.2 nch e n,ne,nf,d⟩
theorem Inv.un(I:Inv X pins σ H s)(u:Un X.fs [] H H' s.heap h')(hok:HOk X.prog X.w H' h'):Inv X pins σ H' { s with heap:=h',toks:=t' }:=by
 obtain⟨m,⟨o,es,ep,ho,r⟩,_⟩:=id I.loc;obtain⟨sl,hL⟩:=u.any ho I.free (by simp);exact I.step (g':=s.gens) (d':=s.drawn) (ch:=[]) (fun _ z=>nomatch z) (fun b o _ hb _ e n=>u.keep b o e n hb (by simp)) (fun b o _ hb _ e n=>u.slot b o e n hb (by simp)) (fun b o _ e n=>u.free b o e n (by simp)) (fun b o _ e=>u.there b o e (by simp)) u.tups u.frzs u.tbls (fun m' hm=>by
  obtain⟨o',es',ep',ho',r'⟩:=hm;rw[ho] at ho';cases ho';exact⟨_,es',ep',hL,r'⟩) hok I.bare
theorem Inv.call(I:Inv X pins σ H s)(u:Un (frs X.stack) ch H H' s.heap h')(hok:HOk X.prog X.w H' h')(hg:Ki g')(hch:∀b∈ch,(b∈X.ex\/X.s₀.heap.objs.size<=b)/\b≠X.env.locals/\(∀x c,X.env.cells.lookup x=some c->c≠b)/\∀p∈X.pn++pins,p.1≠b):
  Inv X pins σ H' { s with heap:=h',gens:=g',drawn:=d',toks:=t' }:=by
 obtain⟨m,⟨o,es,ep,ho,r⟩,_⟩:=id I.loc;obtain⟨sl,hL⟩:=u.any ho I.free fun z=>(hch _ z).2.1 rfl
 exact I.step hch (fun b o hL hb hc e n=>u.keep b o e n (fun z=>(Ba.mp (I.stkSub b z)).elim hL hb) hc) (fun b o _ _ hc e n=>u.any e n hc) (fun b o hc e n=>u.free b o e n hc) (fun b o hc e=>u.there b o e hc) u.tups u.frzs u.tbls (fun m' hm=>by
  obtain⟨o',es',ep',ho',r'⟩:=hm;rw[ho] at ho';cases ho';exact⟨_,es',ep',hL,r'⟩) hok hg
theorem Inv.turned(I:Inv X pins σ H s)(k:∀b o,b≠it->s.heap.get? b=some o->h'.get? b=some o)(hn:H it=none)(hL:it≠X.env.locals)(h1:it∈X.ex\/X.s₀.heap.objs.size<=it)(h2:∀x c,X.env.cells.lookup x=some c->c≠it)(h3:∀p∈X.pn++pins,p.1≠it):Inv X pins σ H { s with heap:=h',toks:=t' }:=by
 have nit:∀b u,H b=some u->b≠it:=fun b u e z=>by rw[z,hn] at e;cases e
 refine I.step (g':=s.gens) (d':=s.drawn) (ch:=[it]) (fun b hb=>?_) (fun b o _ _ hc e _=>k b o (fun z=>hc (by simp[z])) e) (fun b o _ _ hc e _=>⟨o.slots,k b o (fun z=>hc (by simp[z])) e⟩) (fun _ _ _ _ n=>n)
  (fun b o hc e=>⟨o,k b o (fun z=>hc (by simp[z])) e⟩) (fun _ _ e=>e) (fun _ _ _ e=>e) (fun b ps e=>⟨#[],by rw[e];simp⟩) (fun m hm=>?_) (fun b u e=>?_) I.bare
 ·have e:b=it:=by simpa using hb
  subst e;exact⟨h1,hL,h2,h3⟩
 ·obtain⟨o,es,ep,ho,r⟩:=hm;exact⟨o,es,ep,k _ o (Dd hL) ho,r⟩
 ·refine(I.hok b u e).stay (fun c v hc q=>k c v ?_ q) (fun _ q=>q) fun _ _ q=>q;rcases hc with z|z
  ·rw[z];exact nit b u e
  ·exact nit c _ z
theorem Inv.tok(I:Inv X pins σ H s)(t:Nat):Inv X pins σ H { s with toks:=t }:=I.un (h':=s.heap) (t':=t) Un.refl I.hok
theorem Inv.kept(I:Inv X pins σ H s)(k:∀b u,s.heap.get? b=some u->h'.get? b=some u):Inv X pins σ H { s with heap:=h',toks:=t' }:=I.un (Un.kept k) (I.hok.kept k)
theorem Inv.laid{a:Addr}(I:Inv X pins σ H s)(k:∀b u,s.heap.get? b=some u->h'.get? b=some u)(hp:s.heap.objs.size<=a)(new:ObjOk X.prog X.w (upd H a o) h' a o):
  Inv X pins σ (upd H a o) { s with heap:=h',toks:=t' }:=I.un (Un.laid k hp (I.hok.fresh hp)) (I.hok.laid k hp new)
theorem Inv.write(I:Inv X pins σ H s)(mu:Mut (H x))(he:e=x\/H e=some (.own x))(k:∀b u,b≠e->s.heap.get? b=some u->h'.get? b=some u)(heo:∃u,h'.get? e=some u)(new:ObjOk X.prog X.w (upd H x o) h' x o):Inv X pins σ (upd H x o) { s with heap:=h',toks:=t' }:=I.un (Un.write mu he k heo) (I.hok.write mu he k heo new)
theorem Inv.weak(I:Inv X pins σ H s)(hl:σ'.length=σ.length)(w:∀(i:Nat) v,σ'[i]?=some (some v)->σ[i]?=some (some v)):Inv X pins σ' H s :=
 ⟨I.ok,I.os,I.bare,I.base,let ⟨m,hn,hl'⟩:=I.loc;⟨m,hn,fun i x v e1 e2 e3=>hl' i x v e1 (w i v e2) e3⟩,I.cell,I.free,I.freeC,I.pin,I.hok,hl.trans I.len⟩
theorem Inv.pins_of(I:Inv X pins σ H s)(h:∀p∈pins',s.heap.get? p.1=some p.2/\H p.1=none/\p.1≠X.env.locals/\p.1∉X.fs/\∀v,p.2.data≠.cell v):Inv X pins' σ H s :=
 ⟨I.ok,I.os,I.bare,I.base,I.loc,I.cell,I.free,I.freeC,fun p hp=>(Ay.mp hp).elim (fun z=>I.pin p (Pa _ z)) (h p),I.hok,I.len⟩
theorem z2k{N:List Str}(hN:N.Nodup){j:Nat}(a:N[i]?=some x)(b:N[j]?=some x):i=j:=by
 obtain⟨h1,e1⟩:=Ax.mp a;obtain⟨h2,e2⟩:=Ax.mp b;exact(List.getElem_inj hN).mp (e1.trans e2.symm)
theorem q5z(I:Inv X pins σ H s)(hN:X.N.Nodup)(hi:X.N[i]?=some x)(hx:Loc X.env.scope x)(r:RelV v u)(h:∀s',Inv X pins (σ.set i (some v)) H s'->(∃a,Ei a s.heap s'.heap/\(a=X.env.locals\/X.env.cells.lookup x=some a))->Q () s')(hf:X.fn x=true\/X.env.scope.names.lookup x=some .local:=by first|exact .inl rfl|exact .inr rfl|assumption):wpAny M A (storeName X.env x u) Q E s:=by
 obtain⟨m,hn,hl⟩:=id I.loc;have hcls:(X.env.scope.kind==.class||(X.env.scope.kind==.module&&X.env.locals != X.env.globals))=false:=by rw[I.ok.kind];rfl
 have hiσ:i<σ.length:=by rw[I.len];exact(Ax.mp hi).1
 have cne:=I.cne;have tracked:∀{a:Addr} {h':Heap},(∃o,s.heap.get? a=some o/\H a=none)->Ei a s.heap h'->HOk X.prog X.w H h':=fun{a h'} ha hs b ob e=>by
  obtain⟨_,_,hfree⟩:=ha;refine(I.hok b ob e).stay (fun c w' hc q=>(hs.2 c ?_).trans q) (fun _ q=>q) fun _ _ q=>q
  rcases hc with rfl|hc
  ·grind
  ·grind
 rcases hx with hk|hk
 ·refine wpAny_storeName_local hk hn (fun h' hn' hs=>?_) hcls;obtain⟨oL,_,_,hoL,_⟩:=id hn;refine h _ ⟨I.ok,I.os,I.bare,⟨fun b o e n hb hx=>?_,fun b o e n hb hx=>?_,I.base.free,fun b o e hx=>?_,I.base.tups,I.base.frzs,I.base.tbls⟩,⟨_,hn',fun j y v' e1 e2 e3=>?_⟩,fun y c e=>?_,I.free,I.freeC,fun p hp=>?_,tracked ⟨oL,hoL,I.free⟩ hs,by simpa using I.len⟩ ⟨_,hs,.inl rfl⟩
  ·exact(hs.2 b (Bg (Bl (Ap e) I.ok.above))).trans (I.base.keep b o e n hb hx)
  ·obtain⟨sl,e1⟩:=I.base.slot b o e n hb hx;exact⟨sl,(hs.2 b (Bg (Bl (Ap e) I.ok.above))).trans e1⟩
  ·obtain⟨o',e1⟩:=I.base.there b o e hx;exact⟨o',(hs.2 b (Bg (Bl (Ap e) I.ok.above))).trans e1⟩
  ·by_cases hj:j=i
   ·subst hj;rw[hi] at e1;cases e1;rw[Jv hiσ] at e2;cases e2;exact⟨u,r,.inl ⟨hk,by simp⟩⟩
   ·rw[Hn (Dd hj)] at e2;obtain⟨u',r',q⟩:=hl j y v' e1 e2 e3;refine⟨u',r',?_⟩;rcases q with⟨k,e⟩|⟨k,c,e,z⟩
    ·refine .inl ⟨k,?_⟩;have:y≠x:=fun e=>hj (z2k hN e1 (e▸hi));simp[this,e]
    ·exact .inr ⟨k,c,e,z.sameBut hs (cne y c e)⟩
  ·obtain⟨w',z⟩:=I.cell y c e;exact⟨w',z.sameBut hs (cne y c e)⟩
  ·obtain⟨e,n,ne,nf,d⟩:=I.pin p hp;exact⟨(hs.2 p.1 ne).trans e,n,ne,nf,d⟩
 ·have hfn:X.fn x=true:=by
   rcases hf with z|z
   ·exact z
   ·grind
  obtain⟨c,hc⟩:=I.ok.has x (.inl hk);obtain⟨w',z⟩:=I.cell x c hc;refine wpAny_storeName_cell I.ok.kind hk hc z (fun h' hc' hs=>?_);obtain⟨oc,hoc,hocd⟩:=id z;refine h { s with heap:=h' } ⟨I.ok,I.os,I.bare,⟨fun b o e n hb hx=>?_,fun b o e n hb hx=>?_,I.base.free,fun b o e hx=>?_,I.base.tups,I.base.frzs,I.base.tbls⟩,⟨m,hn.sameBut hs (Dd (cne x c hc)),fun j y v' e1 e2 e3=>?_⟩,fun y c' e=>?_,I.free,I.freeC,fun p hp=>?_,tracked ⟨oc,hoc,I.freeC x c hc⟩ hs,by simpa using I.len⟩ ⟨c,hs,.inr hc⟩
  ·exact(hs.2 b (Bg (Bl (Ap e) (I.ok.cab x c hfn hc)))).trans (I.base.keep b o e n hb hx)
  ·obtain⟨sl,e1⟩:=I.base.slot b o e n hb hx;exact⟨sl,(hs.2 b (Bg (Bl (Ap e) (I.ok.cab x c hfn hc)))).trans e1⟩
  ·obtain⟨o',e1⟩:=I.base.there b o e hx;exact⟨o',(hs.2 b (Bg (Bl (Ap e) (I.ok.cab x c hfn hc)))).trans e1⟩
  ·by_cases hj:j=i
   ·subst hj;rw[hi] at e1;cases e1;rw[Jv hiσ] at e2;cases e2;exact⟨u,r,.inr ⟨.inl hk,c,hc,hc'⟩⟩
   ·rw[Hn (Dd hj)] at e2;obtain⟨u',r',q⟩:=hl j y v' e1 e2 e3;refine⟨u',r',?_⟩;rcases q with q|⟨k,c',e,z'⟩
    ·exact .inl q
    ·refine .inr ⟨k,c',e,z'.sameBut hs ?_⟩;rintro rfl;exact hj (z2k hN e1 (I.ok.inj _ _ _ e hc▸hi))
  ·by_cases hcc:c'=c
   ·grind
   ·obtain⟨w2,z2⟩:=I.cell y c' e;exact⟨w2,z2.sameBut hs hcc⟩
  ·obtain⟨e,n,ne,nf,d⟩:=I.pin p hp;refine⟨(hs.2 p.1 ?_).trans e,n,ne,nf,d⟩;intro q;rw[q,hoc] at e;have q':=Dg e;exact d w' (by rw[<- q'];exact hocd)
theorem z2l(I:Inv X pins σ H s)(hN:X.N.Nodup)(hi:X.N[i]?=some x)(hx:Loc X.env.scope x)(r:RelV v u)(h:∀s',Inv X pins (σ.set i (some v)) H s'->Q () s')(hf:X.fn x=true\/X.env.scope.names.lookup x=some .local:=by first|exact .inl rfl|exact .inr rfl|assumption):wpAny M A (storeName X.env x u) Q E s :=
 q5z I hN hi hx r (fun s' I' _=>h s' I') hf
theorem Inv.call'(I:Inv X pins σ H s)(ho:s'.os=s.os)(u:Un (frs X.stack) ch H H' s.heap s'.heap)(hok:HOk X.prog X.w H' s'.heap)(hg:Ki s'.gens)(hch:∀b∈ch,(b∈X.ex\/X.s₀.heap.objs.size<=b)/\b≠X.env.locals/\(∀x c,X.env.cells.lookup x=some c->c≠b)/\∀p∈X.pn++pins,p.1≠b):Inv X pins σ H' s':=by
 obtain⟨h',g',d',t',o'⟩:=s';have e:=ho;subst e;exact I.call (g':=g') (t':=t') (d':=d') u hok hg hch
end
abbrev XK:=Value->Option Addr->Hp->Prop
abbrev St:=List (Option V)
abbrev VK:=V->Hp->Prop
abbrev TE:=St->Hp->VK->Prop
abbrev TT:=St->Hp->(Bool->Hp->Prop)->Prop
abbrev TA:=St->Hp->(List V->Hp->Prop)->Prop
structure Ends where
 nx:St->Hp->Prop
 rt:VK
 bk:St->Hp->Prop:=fun _ _=>False
 ct:St->Hp->Prop:=fun _ _=>False
abbrev TS:=Ends->St->Hp->Prop
def EP(X:Cx)(pins:List (Addr×Obj))(σ:St)(Q:VK)(u:Value)(s':Ae):Prop:=∃v H',Inv X pins σ H' s'/\RelV v u/\Q v H'
def TP(X:Cx)(pins:List (Addr×Obj))(σ:St)(Q:Bool->Hp->Prop)(b:Bool)(s':Ae):Prop:=∃H',Inv X pins σ H' s'/\Q b H'
def AP(X:Cx)(pins:List (Addr×Obj))(σ:St)(Q:List V->Hp->Prop)(us:List Value)(s':Ae):Prop:=∃vs H',Inv X pins σ H' s'/\Vals vs us/\Q vs H'
def SP(X:Cx)(pins:List (Addr×Obj))(D:Ends)(f:Flow)(s':Ae):Prop :=
 match f with
 |.next=>∃σ' H',Inv X pins σ' H' s'/\D.nx σ' H'
 |.brk=>∃σ' H',Inv X pins σ' H' s'/\D.bk σ' H'
 |.cont=>∃σ' H',Inv X pins σ' H' s'/\D.ct σ' H'
 |.ret u=>∃v σ' H',Inv X pins σ' H' s'/\RelV v u/\D.rt v H'
def PE(X:Cx)(e:Expr)(t:TE):Prop :=
 ∀(pins:List (Addr×Obj)) (s:Ae) (σ:St) (H:Hp) (Q:VK),Inv X pins σ H s->t σ H Q->wpAny (model X.prog X.w) X.A (eval e X.env) (EP X pins σ Q) X.xe s
def PT(X:Cx)(e:Expr)(t:TT):Prop :=
 ∀(pins:List (Addr×Obj)) (s:Ae) (σ:St) (H:Hp) (Q:Bool->Hp->Prop),Inv X pins σ H s->t σ H Q->wpAny (model X.prog X.w) X.A (isTrue e X.env (eval e X.env)) (TP X pins σ Q) X.xe s
def PW(X:Cx)(e:Expr)(t:TT):Prop :=
 ∀(whole:Sem Value) (pins:List (Addr×Obj)) (s:Ae) (σ:St) (H:Hp) (Q:Bool->Hp->Prop),Inv X pins σ H s->t σ H Q->wpAny (model X.prog X.w) X.A (isTrue e X.env whole) (TP X pins σ Q) X.xe s
theorem PW.pt{X:Cx}{e:Expr}{t:TT}(h:PW X e t):PT X e t:=h _
def PA(X:Cx)(es:List Expr)(t:TA):Prop :=
 ∀(pos:Pos) (pins:List (Addr×Obj)) (s:Ae) (σ:St) (H:Hp) (Q:List V->Hp->Prop),Inv X pins σ H s->t σ H Q->wpAny (model X.prog X.w) X.A (spliced (Eu pos (Bi es X.env))) (AP X pins σ Q) X.xe s
def PS(X:Cx)(st:Stmt)(t:TS):Prop :=
 ∀(pins:List (Addr×Obj)) (s:Ae) (σ:St) (H:Hp) (D:Ends),Inv X pins σ H s->t D σ H->wpAny (model X.prog X.w) X.A (exec st X.env) (SP X pins D) X.xe s
def PSs(X:Cx)(st:List Stmt)(t:TS):Prop :=
 ∀(pins:List (Addr×Obj)) (s:Ae) (σ:St) (H:Hp) (D:Ends),Inv X pins σ H s->t D σ H->wpAny (model X.prog X.w) X.A (execs st X.env) (SP X pins D) X.xe s
theorem thn{t:Sem α}{Q Q':α->Ae->Prop}(h:wpAny M A t Q E s)(hQ:∀a s,Q a s->Q' a s):wpAny M A t Q' E s:=Cb h hQ fun _ _ x=>x
open PySem PySem.Spec PyProof.Rows
section
variable{X:Cx}
def tVar(i:Nat):TE:=fun σ H Q=>∃v,σ[i]?=some (some v)/\Q v H
def tC(v:V):TE:=fun _ H Q=>Q v H
theorem pe_var{pos:Pos}(hN:X.N[i]?=some x)(hv:Vis X.env.scope x)(hd:(x==("__debug__" : Str))=false:=by decide)(hcd:(x==("__classdict__" : Str))=false:=by decide):PE X (.Name x pos) (tVar i):=by
 intro pins s σ H Q I h;obtain⟨v,e,h⟩:=h;obtain⟨m,hn,hl⟩:=I.loc;obtain⟨u,r,l⟩:=hl i x v hN e hv;have fin:EP X pins σ Q u s:=⟨v,H,I,r,h⟩
 rcases l with⟨hk,hm⟩|⟨hk,c,hc,hcell⟩
 ·exact Si (wpAny_loadName_local I.ok.kind hk hn hm fin) hd
 ·rcases hk with hk|hk
  ·exact Si (wpAny_loadName_cell I.ok.kind hk hc hcell fin) hd
  ·exact Si (wpAny_loadName_free I.ok.kind hk hc hcell fin hcd) hd
theorem q0g{i j pos}:PE X (.Constant (.int i) j pos) (tC (.int i)):=fun _ _ _ H _ I h=>wpAny_Constant_int ⟨.int i,H,I.tok _,⟨_,rfl⟩,h⟩
theorem q4g{b j pos}:PE X (.Constant (.bool b) j pos) (tC (.bl b)):=fun _ _ _ H _ I h=>Constant_bool ⟨.bl b,H,I,rfl,h⟩
theorem z2m{j pos}:PE X (.Constant .none j pos) (tC .non):=fun _ _ _ H _ I h=>Pm ⟨.non,H,I,rfl,h⟩
theorem q1l{x j pos}:PE X (.Constant (.str x) j pos) (tC (.str x)):=fun _ _ _ H _ I h=>Calls.Constant_str ⟨.str x,H,I.tok _,⟨_,rfl⟩,h⟩
def Gl(X:Cx)(x:Str):Prop:=X.env.kindOf x=some .globalImplicit
theorem z1e{σ:St}(I:Inv X pins σ H s)(hg:Gl X x)(hm:X.mg x=some u)(h:Q u s)(hd:(x==("__debug__" : Str))=false:=by decide):wpAny (model X.prog X.w) X.A (eval (.Name x pos) X.env) Q E s :=
 Ma I.ok.kind hg (Calls.loadGlobal_global (by rw[I.ok.glob];exact I.mod.glob.keeps I.bk) hm h) hd
theorem q7o{E:Value->Ae->Prop}{σ:St}{pos:Pos}(I:Inv X pins σ H s)(hg:Gl X x)(hm:X.mg x=none)(hv:Gd x=some u)(h:Q u s)(hn:x ≠ "__name__" := by decide)(hd:(x==("__debug__" : Str))=false:=by decide):wpAny (model X.prog X.w) X.A (eval (.Name x pos) X.env) Q E s:=by
 obtain⟨mb,h1,h2⟩:=I.mod.blt;exact Ma I.ok.kind hg (Calls.loadGlobal_builtin (by rw[I.ok.glob];exact I.mod.glob.keeps I.bk) hm (by rw[I.ok.blt];exact h1.keeps I.bk) ((h2 x hn).trans hv) h) hd
theorem z1f{x:Str}{v:V}{u:Value}{pos:Pos}(hg:Gl X x)(hm:X.mg x=some u)(r:RelV v u)(hd:(x==("__debug__" : Str))=false:=by decide):PE X (.Name x pos) (tC v) :=
 fun _ _ _ H _ I h=>z1e I hg hm ⟨v,H,I,r,h⟩ hd
theorem q8g{x:Str}{v:V}{u:Value}{pos:Pos}(hg:Gl X x)(hm:X.mg x=none)(hv:Gd x=some u)(r:RelV v u)(hn:x ≠ "__name__" := by decide)(hd:(x==("__debug__" : Str))=false:=by decide):PE X (.Name x pos) (tC v) :=
 fun _ _ _ H _ I h=>q7o I hg hm hv ⟨v,H,I,r,h⟩ hn hd
variable{a b:Expr}{ta tb:TE}{pos:Pos}
def PC(X:Cx)(op:CmpOp)(a b:Expr)(t:TE):Prop :=
 ∀(pins:List (Addr×Obj)) (s:Ae) (σ:St) (H:Hp) (Q:VK),Inv X pins σ H s->t σ H Q ->
  wpAny (model X.prog X.w) X.A (eval a X.env) (fun v s₁=>wpAny (model X.prog X.w) X.A (eval b X.env) (fun u s₂=>wpAny (model X.prog X.w) X.A (Bw op v u) (EP X pins σ Q) X.xe s₂) X.xe s₁) X.xe s
theorem nobehind(b:Expr)(h:op≠.In)(h2:op≠.NotIn):Fl op b=false:=by
 have e1:(op==CmpOp.In)=false:=by grind
 have e2:(op==CmpOp.NotIn)=false:=by grind
 cases b<;>simp[Fl,e1,e2]
def tIsN(ta:TE):TE:=fun σ H Q=>ta σ H fun x H1=>Q (.bl (decide (x=.non))) H1
def tNotN(ta:TE):TE:=fun σ H Q=>ta σ H fun x H1=>Q (.bl (!decide (x=.non))) H1
theorem RelV.none_iff(r:RelV x v):(v==Value.none)=decide (x=.non):=by
 cases x with
 |non=>cases r;rfl
 |bl _=>cases r;rfl
 |int _=>obtain⟨t,rfl⟩:=r;rfl
 |str _=>obtain⟨t,rfl⟩:=r;rfl
 |byt _=>obtain⟨t,rfl⟩:=r;rfl
 |flt _=>obtain⟨t,rfl⟩:=r;rfl
 |ref _=>cases r;rfl
 |ty _=>cases r;rfl
theorem z2n{j pos'}(ha:PE X a ta):PC X .Is a (.Constant .none j pos') (tIsN ta):=by
 intro pins s σ H Q I h;refine thn (ha pins s σ H _ I h) fun v s1 ⟨x,H1,I1,r1,q1⟩=>?_;exact Pm (is_none_gen ⟨.bl _,H1,I1,by rw[r1.none_iff];rfl,q1⟩)
theorem z5c{j pos'}(ha:PE X a ta):PC X .IsNot a (.Constant .none j pos') (tNotN ta):=by
 intro pins s σ H Q I h;refine thn (ha pins s σ H _ I h) fun v s1 ⟨x,H1,I1,r1,q1⟩=>?_;exact Pm (isnot_none_gen ⟨.bl _,H1,I1,by rw[r1.none_iff];rfl,q1⟩)
def tB(t:TE):TT:=fun σ H Q=>t σ H fun x H1=>∃c,x=.bl c/\Q c H1
theorem x1k{op:CmpOp}{t:TE}(h:PC X op a b t)(h1:Fl op b=false:=by first|exact nobehind _ (by decide) (by decide)|rfl):PE X (.Compare a [op] [b] pos) t:=fun pins s σ H Q I hw=>wpAny_Compare1 (h pins s σ H Q I hw) h1
theorem q6a{op:CmpOp}{t:TE}(h:PC X op a b t)(h1:Fl op b=false:=by first|exact nobehind _ (by decide) (by decide)|rfl):PT X (.Compare a [op] [b] pos) (tB t):=by
 intro pins s σ H Q I hw;refine Oi (thn (h pins s σ H _ I hw) fun v s1 h1=>thn h1 fun u s2 h2=>thn h2 fun c s3 ⟨x,H1,I1,r1,q1⟩=>?_) h1;obtain⟨d,rfl,q⟩:=q1;cases r1;exact Du ⟨H1,I1,q⟩
variable{tA tB':TT}{rest:List Expr}
def tAnd(t u:TT):TT:=fun σ H Q=>t σ H fun c H1=>if c=true then u σ H1 Q else Q false H1
def tOr(t u:TT):TT:=fun σ H Q=>t σ H fun c H1=>if c=true then Q true H1 else u σ H1 Q
def tNot(t:TT):TT:=fun σ H Q=>t σ H fun c H1=>Q (!c) H1
theorem q8h(ha:PT X a tA):PW X (.BoolOp .And [a] pos) tA:=by
 intro wh pins s σ H Q I h;refine isTrue_and (thn (ha pins s σ H Q I h) fun c s1 e=>?_);cases c with
 |true=>exact isTrue_and_nil e
 |false=>exact e
theorem q4h(ha:PT X a tA):PW X (.BoolOp .Or [a] pos) tA:=by
 intro wh pins s σ H Q I h;refine isTrue_or (thn (ha pins s σ H Q I h) fun c s1 e=>?_);cases c with
 |false=>exact isTrue_or_nil e
 |true=>exact e
theorem z2o(ha:PT X a tA)(hb:PW X (.BoolOp .And (b::rest) pos) tB'):PW X (.BoolOp .And (a::b::rest) pos) (tAnd tA tB'):=by
 intro wh pins s σ H Q I h;refine isTrue_and (thn (ha pins s σ H _ I h) fun c s1 ⟨H1,I1,q1⟩=>?_);cases c with
 |true=>exact hb wh pins s1 σ H1 Q I1 q1
 |false=>exact⟨H1,I1,q1⟩
theorem q7i(ha:PT X a tA)(hb:PW X (.BoolOp .Or (b::rest) pos) tB'):PW X (.BoolOp .Or (a::b::rest) pos) (tOr tA tB'):=by
 intro wh pins s σ H Q I h;refine isTrue_or (thn (ha pins s σ H _ I h) fun c s1 ⟨H1,I1,q1⟩=>?_);cases c with
 |true=>exact⟨H1,I1,q1⟩
 |false=>exact hb wh pins s1 σ H1 Q I1 q1
theorem q4i(ha:PT X a tA):PT X (.UnaryOp .Not a pos) (tNot tA):=by
 intro pins s σ H Q I h;exact isTrue_not (ha pins s σ H (fun c H1=>Q (!c) H1) I h)
def tAndV(ta tb:TE):TE:=fun σ H Q=>ta σ H fun x H1=>∃c,x=.bl c/\if c=true then tb σ H1 Q else Q (.bl false) H1
def tOrV(ta tb:TE):TE:=fun σ H Q=>ta σ H fun x H1=>∃c,x=.bl c/\if c=true then Q (.bl true) H1 else tb σ H1 Q
theorem q9d{op}{t:TE}(h:PE X a t):PE X (.BoolOp op [a] pos) t:=fun pins s σ H Q I hw=>BoolOp_one (h pins s σ H Q I hw)
theorem z2p(ha:PE X a ta)(hb:PE X (.BoolOp .And (b::rest) pos) tb):PE X (.BoolOp .And (a::b::rest) pos) (tAndV ta tb):=by
 intro pins s σ H Q I h;refine BoolOp_and (thn (ha pins s σ H _ I h) fun v s1 ⟨x,H1,I1,r1,q1⟩=>?_);obtain⟨c,rfl,q1⟩:=q1;cases r1;refine Du ?_;cases c with
 |true=>exact hb pins s1 σ H1 Q I1 q1
 |false=>exact⟨.bl false,H1,I1,rfl,q1⟩
theorem pe_or(ha:PE X a ta)(hb:PE X (.BoolOp .Or (b::rest) pos) tb):PE X (.BoolOp .Or (a::b::rest) pos) (tOrV ta tb):=by
 intro pins s σ H Q I h;refine BoolOp_or (thn (ha pins s σ H _ I h) fun v s1 ⟨x,H1,I1,r1,q1⟩=>?_);obtain⟨c,rfl,q1⟩:=q1;cases r1;refine Du ?_;cases c with
 |false=>exact hb pins s1 σ H1 Q I1 q1
 |true=>exact⟨.bl true,H1,I1,rfl,q1⟩
end
open PySem PySem.Spec PyProof.Rows
def SqL(K:Ag)(H:Hp)(a:Addr)(xs:List V):Prop :=
 Rd H a (.lst xs) \/
  ∃(o:Obj) (its:Array Value) (n:Nat),K.lookup a=some o/\o.cls=.type "list" /\ o.dict=none/\o.data=.seq its n/\its.size<=sizeLine/\Vals xs its.toList
def SqT(K:Ag)(H:Hp)(a:Addr)(xs:List V):Prop :=
 Rd H a (.tup xs) \/
  ∃(o:Obj) (its:Array Value) (n:Nat),K.lookup a=some o/\o.cls=.type "tuple" /\ o.data=.seq its n/\its.size<=sizeLine/\Vals xs its.toList
def absV:Value->Option V
 |.none=>some .non
 |.bool b=>some (.bl b)
 |.int i _=>some (.int i)
 |.str x _=>some (.str x)
 |.bytes b _=>some (.byt b)
 |.float b _=>some (.flt b)
 |.ref a=>some (.ref a)
 |.type n=>some (.ty n)
 |_=>none
theorem RelV.abs(r:RelV x u):absV u=some x:=by
 cases x with
 |non=>cases r;rfl
 |bl _=>cases r;rfl
 |int _=>obtain⟨t,rfl⟩:=r;rfl
 |str _=>obtain⟨t,rfl⟩:=r;rfl
 |byt _=>obtain⟨t,rfl⟩:=r;rfl
 |flt _=>obtain⟨t,rfl⟩:=r;rfl
 |ref _=>cases r;rfl
 |ty _=>cases r;rfl
theorem RelV.inj(r:RelV x u)(q:RelV y u):x=y:=Dg (r.abs.symm.trans q.abs)
theorem Vals.inj:∀{xs ys:List V} {us:List Value},Vals xs us->Vals ys us->xs=ys
 |_,_,_,.nil,.nil=>rfl
 |_,_,_,.cons r t,.cons r' t'=>by rw[r.inj r',Vals.inj t t']
section
variable{X:Cx}{pins:List (Addr×Obj)}{σ:St}{H:Hp}{s:Ae}{a:Addr}{xs ys:List V}
theorem SqL.of{K:Ag}(h:H a=some (.lst xs)):SqL K H a xs:=.inl (.inl h)
theorem SqT.of{K:Ag}(h:H a=some (.tup xs)):SqT K H a xs:=.inl (.inl h)
theorem Inv.list(I:Inv X pins σ H s)(h:SqL X.K H a xs):∃its:List Value,Vals xs its/\PlainL s.heap a its.toArray/\xs.length<=sizeLine:=by
 rcases h with h|⟨o,its,n,hk,hc,hd,hs,hz,r⟩
 ·obtain⟨z,its,n,r,e⟩:=h.ok I.hok;exact⟨its,r,⟨_,n,e,rfl,rfl,rfl⟩,z⟩
 ·refine⟨its.toList,r,⟨o,n,I.kIn a o hk,hc,hd,by simpa using hs⟩,?_⟩;have e:=r.length;simp only[Ea] at e;lia
theorem Inv.tuple(I:Inv X pins σ H s)(h:SqT X.K H a xs):∃its:List Value,Vals xs its/\IsTup s.heap a its.toArray/\xs.length<=sizeLine:=by
 rcases h with h|⟨o,its,n,hk,hc,hs,hz,r⟩
 ·obtain⟨z,its,r,p⟩:=h.ok I.hok;exact⟨its,r,p,z⟩
 ·refine⟨its.toList,r,⟨o,I.kIn a o hk,hc,n,by simpa using hs⟩,?_⟩;have e:=r.length;simp only[Ea] at e;lia
theorem Inv.list_inj(I:Inv X pins σ H s)(h:SqL X.K H a xs)(h':SqL X.K H a ys):xs=ys:=by
 obtain⟨its,r,⟨o,n,e,_,_,d⟩,_⟩:=I.list h;obtain⟨its',r',⟨o',n',e',_,_,d'⟩,_⟩:=I.list h';have:its=its':=by grind
 subst this;exact r.inj r'
theorem Inv.tuple_inj(I:Inv X pins σ H s)(h:SqT X.K H a xs)(h':SqT X.K H a ys):xs=ys:=by
 obtain⟨its,r,⟨o,e,_,n,d⟩,_⟩:=I.tuple h;obtain⟨its',r',⟨o',e',_,n',d'⟩,_⟩:=I.tuple h';have:its=its':=by grind
 subst this;exact r.inj r'
end
abbrev Cx.wish(X:Cx)(E:Value->Ae->Prop):Cx:={ X with xe:=E }
abbrev Cx.nox(X:Cx):Cx:=X.wish fun _ _=>False
theorem Cx.Ok.wish{X:Cx}(ok:X.Ok)(E:Value->Ae->Prop):(X.wish E).Ok :=
 ⟨ok.mod,ok.kind,ok.glob,ok.blt,ok.above,ok.inj,ok.has,ok.cab,ok.hd,ok.frames,ok.stk,ok.exf,ok.bs,ok.bsz,ok.noex,ok.exfs,ok.funs,ok.frf⟩
theorem Cx.Ok.unwish{X:Cx}(ok:(X.wish E).Ok):X.Ok :=
 ⟨ok.mod,ok.kind,ok.glob,ok.blt,ok.above,ok.inj,ok.has,ok.cab,ok.hd,ok.frames,ok.stk,ok.exf,ok.bs,ok.bsz,ok.noex,ok.exfs,ok.funs,ok.frf⟩
section
variable{X:Cx}{pins:List (Addr×Obj)}{σ:St}{H:Hp}{s:Ae}{E:Value->Ae->Prop}
theorem Inv.wish(I:Inv X pins σ H s)(E:Value->Ae->Prop):Inv (X.wish E) pins σ H s:=⟨I.ok.wish E,I.os,I.bare,I.base,I.loc,I.cell,I.free,I.freeC,I.pin,I.hok,I.len⟩
theorem Inv.unwish(I:Inv (X.wish E) pins σ H s):Inv X pins σ H s:=⟨I.ok.unwish,I.os,I.bare,I.base,I.loc,I.cell,I.free,I.freeC,I.pin,I.hok,I.len⟩
theorem SP.unwish(h:SP (X.wish E) pins D f s'):SP X pins D f s':=by
 cases f with
 |next=>obtain⟨σ',H',I,q⟩:=h;exact⟨σ',H',I.unwish,q⟩
 |brk=>obtain⟨σ',H',I,q⟩:=h;exact⟨σ',H',I.unwish,q⟩
 |cont=>obtain⟨σ',H',I,q⟩:=h;exact⟨σ',H',I.unwish,q⟩
 |ret u=>obtain⟨v,σ',H',I,r,q⟩:=h;exact⟨v,σ',H',I.unwish,r,q⟩
theorem PE.nox(h:PE X.nox e t):PE X e t:=fun pins s σ H Q I hw =>
 Cb (h pins s σ H Q (I.wish _) hw) (fun _ _ ⟨v,H',I',r,q⟩=>⟨v,H',I'.unwish,r,q⟩) fun _ _ z=>False.elim z
theorem PT.nox(h:PT X.nox e t):PT X e t:=fun pins s σ H Q I hw =>
 Cb (h pins s σ H Q (I.wish _) hw) (fun _ _ ⟨H',I',q⟩=>⟨H',I'.unwish,q⟩) fun _ _ z=>False.elim z
theorem PSs.nox{st:List Stmt}(h:PSs X.nox st t):PSs X st t:=fun pins s σ H D I hw =>
 Cb (h pins s σ H D (I.wish _) hw) (fun _ _ q=>q.unwish) fun _ _ z=>False.elim z
end
section
variable{X:Cx}{st:Stmt}{rest:List Stmt}{t u:TS}{e:Expr}{te:TE}{pos:Pos}
def tNext:TS:=fun D σ H=>D.nx σ H
def tSeq(t u:TS):TS:=fun D σ H=>t { D with nx:=u D } σ H
theorem q0n:PSs X [] tNext:=fun _ _ σ H _ I h=>Ih ⟨σ,H,I,h⟩
theorem q0c(h1:PS X st t)(h2:PSs X rest u):PSs X (st::rest) (tSeq t u):=by
 intro pins s σ H D I h;refine Mu (thn (h1 pins s σ H { D with nx:=u D } I h) fun f s1 q=>?_);cases f with
 |next =>
  obtain⟨σ',H',I',q⟩:=q;exact h2 pins s1 σ' H' D I' q
 |ret v=>exact q
 |brk=>exact q
 |cont=>exact q
theorem q0f(h1:PS X st t):PSs X [st] t:=by
 intro pins s σ H D I h;refine Mu (thn (h1 pins s σ H D I h) fun f s1 q=>?_);cases f with
 |next=>exact Ih q
 |ret v=>exact q
 |brk=>exact q
 |cont=>exact q
theorem Inv.quiet{σ:St}(I:Inv X pins σ H s):interactive X.env=false:=by simp[interactive,I.ok.kind]
def tDrop(te:TE):TS:=fun D σ H=>te σ H fun _ H1=>D.nx σ H1
theorem q1d(he:PE X e te)(hs:Kj e none pos.line X.env=pure false:=by rfl):PS X (.Expr e pos) (tDrop te):=by
 intro pins s σ H D I h;exact wpAny_Expr_any (thn (he pins s σ H _ I h) fun v s1 ⟨x,H1,I1,r1,q1⟩=>⟨σ,H1,I1,q1⟩) I.quiet hs
def tRet(te:TE):TS:=fun D σ H=>te σ H D.rt
theorem q0k(he:PE X e te):PS X (.Return (some e) pos) (tRet te):=by
 intro pins s σ H D I h;exact wpAny_Return_some (thn (he pins s σ H _ I h) fun v s1 ⟨x,H1,I1,r1,q1⟩=>⟨x,σ,H1,I1,r1,q1⟩)
def tIfS(c:TT)(t u:TS):TS:=fun D σ H=>c σ H fun b H1=>if b=true then t D σ H1 else u D σ H1
theorem q1j{c:Expr}{a b:List Stmt}{tc:TT}(hc:PT X c tc)(ha:PSs X a t)(hb:PSs X b u):PS X (.If c a b pos) (tIfS tc t u):=by
 intro pins s σ H D I h;refine wpAny_If (thn (hc pins s σ H _ I h) fun d s1 ⟨H1,I1,q1⟩=>?_);cases d with
 |true=>exact ha pins s1 σ H1 D I1 q1
 |false=>exact hb pins s1 σ H1 D I1 q1
def tNever:TS:=fun _ _ _=>False
theorem q1n:PS X st tNever:=fun _ _ _ _ _ _ h=>h.elim
end
abbrev TG:=V->St->Hp->(St->Hp->Prop)->Prop
abbrev TGs:=List V->St->Hp->(St->Hp->Prop)->Prop
def PG(X:Cx)(target:Expr)(t:TG):Prop :=
 ∀(pins:List (Addr×Obj)) (s:Ae) (σ:St) (H:Hp) (v:V) (u:Value) (Q:St->Hp->Prop),Inv X pins σ H s->RelV v u->t v σ H Q ->
  wpAny (model X.prog X.w) X.A (assign target X.env u) (fun _ s'=>∃σ' H',Inv X pins σ' H' s'/\Q σ' H') X.xe s
def PGs(X:Cx)(ts:List Expr)(t:TGs):Prop :=
 ∀(pins:List (Addr×Obj)) (s:Ae) (σ:St) (H:Hp) (vs:List V) (us:List Value) (Q:St->Hp->Prop),Inv X pins σ H s->Vals vs us->t vs σ H Q ->
  wpAny (model X.prog X.w) X.A (assignInOrder ((Ho ts X.env).map (·.2)) us) (fun _ s'=>∃σ' H',Inv X pins σ' H' s'/\Q σ' H') X.xe s
abbrev TSet:=V->V->V->Hp->(Hp->Prop)->Prop
def PSet(X:Cx)(t:TSet):Prop :=
 ∀(pins:List (Addr×Obj)) (s:Ae) (σ:St) (H:Hp) (o i v:V) (ov iv u:Value) (Q:Hp->Prop),Inv X pins σ H s->RelV o ov->RelV i iv->RelV v u->t o i v H Q ->
  wpAny (model X.prog X.w) X.A (setItem ov iv u) (fun _ s'=>∃H',Inv X pins σ H' s'/\Q H') X.xe s
section
variable{X:Cx}{pos:Pos}
def gName(i:Nat):TG:=fun v σ H Q=>Q (σ.set i (some v)) H
theorem q0h{i:Nat}{x:Str}(hN:X.N.Nodup)(hi:X.N[i]?=some x)(hx:Loc X.env.scope x)(hf:X.fn x=true\/X.env.scope.names.lookup x=some .local:=by first|exact .inl rfl|exact .inr rfl|assumption):PG X (.Name x pos) (gName i):=by
 intro pins s σ H v u Q I r h;exact Mh (z2l I hN hi hx r (fun s' I'=>⟨_,H,I',h⟩) hf)
def gNil:TGs:=fun vs σ H Q=>vs=[]/\Q σ H
def gCons(t:TG)(u:TGs):TGs:=fun vs σ H Q=>∃v r,vs=v::r/\t v σ H fun σ' H'=>u r σ' H' Q
theorem q1e:PGs X [] gNil:=by
 intro pins s σ H vs us Q I r h;obtain⟨e,h⟩:=h;exact assignInOrder_nil ⟨σ,H,I,h⟩
theorem q0j{e:Expr}{es:List Expr}{t:TG}{u:TGs}(h1:PG X e t)(h2:PGs X es u)(hs:(Ho (e::es) X.env).map (·.2)=assign e X.env::(Ho es X.env).map (·.2):=by rfl):PGs X (e::es) (gCons t u):=by
 intro pins s σ H vs us Q I r h;obtain⟨v,vr,e1,h⟩:=h;subst e1;cases r with
 |cons r rr =>
  rw[hs];refine assignInOrder_cons (thn (h1 pins s σ H _ _ _ I r h) fun _ s1 ⟨σ1,H1,I1,q1⟩=>?_);exact h2 pins s1 σ1 H1 _ _ Q I1 rr q1
def gTup(K:Ag)(n:Nat)(t:TGs):TG:=fun v σ H Q=>∃a xs,v=.ref a/\SqT K H a xs/\xs.length=n/\t xs σ H Q
theorem pg_tup{k:Nat}(hc:X.calm=true)(h:PGs X es t)(hn:(Ho es X.env).length=n:=by rfl)(hst:(Ho es X.env).findIdx? (·.1)=none:=by rfl):PG X (.Tuple es k pos) (gTup X.K n t):=by
 intro pins s σ H v u Q I r hw;obtain⟨a,xs,e1,hq,hl,hw⟩:=hw;subst e1;cases r;obtain⟨its,rv,ht,hz⟩:=I.tuple hq;refine assign_Tuple_tuple (I.ok.hd hc) ht (by simp[hn,<- hl,rv.length]) hst fun h' hx=>?_;have I1:Inv X pins σ H { s with heap:=h' }:=I.kept (t':=s.toks) fun b o e=>hx b o (Bg (Ap e)) e;exact h pins _ σ H xs _ Q I1 (by simpa using rv) hw
def gSub(to ti:TE)(t:TSet):TG:=fun v σ H Q=>to σ H fun o H1=>ti σ H1 fun i H2=>t o i v H2 fun H3=>Q σ H3
theorem z2q{o i:Expr}{to ti:TE}{t:TSet}(ho:PE X o to)(hi:PE X i ti)(hs:PSet X t)(ha:∀v,assign (.Subscript o i pos) X.env v=(do
   let ov<-Kk [v] (eval o X.env);let iv<-Kk [v,ov] (eval i X.env)
   Mr pos
   Kk [v,ov,iv] (setItem ov iv v)
   release [v,ov,iv] []):=by intro _;rfl):PG X (.Subscript o i pos) (gSub to ti t):=by
 intro pins s σ H v u Q I r h;refine Ab (Cy (thn (ho pins s σ H _ I h) fun ov s1 ⟨x,H1,I1,r1,q1⟩=>?_));refine Ab (Cy (thn (hi pins s1 σ H1 _ I1 q1) fun iv s2 ⟨y,H2,I2,r2,q2⟩=>?_));refine Ab (Fm (Ab (Cy (thn (hs pins s2 σ H2 x y v ov iv u _ I2 r1 r2 r q2) fun _ s3 ⟨H3,I3,q3⟩=>?_))));exact wpAny_release ⟨σ,H3,I3,q3⟩
def tAsg(te:TE)(g:TG):TS:=fun D σ H=>te σ H fun x H1=>g x σ H1 D.nx
theorem q2s{tg e:Expr}{te:TE}{g:TG}(he:PE X e te)(hg:PG X tg g)(hs:swapsWithSole [tg] e pos.line X.env=pure false:=by rfl)(hw:swappedStores [tg] e X.env=pure none:=by rfl)(h1:(Ho [tg] X.env).map (·.2)=[assign tg X.env]:=by rfl):PS X (.Assign [tg] e pos) (tAsg te g):=by
 intro pins s σ H D I h;refine wpAny_Assign_stores (thn (he pins s σ H _ I h) fun v s1 ⟨x,H1,I1,r1,q1⟩=>?_) hs hw;rw[h1];exact thn (hg pins s1 σ H1 x v _ I1 r1 q1) fun _ s2 q=>q
theorem q0o{i:Nat}{x:Str}{e:Expr}{te:TE}{pos':Pos}(hN:X.N.Nodup)(hi:X.N[i]?=some x)(hx:Loc X.env.scope x)(he:PE X e te)(hs:Kj e (some (.Name x pos')) pos.line X.env=pure false:=by rfl)(hf:X.fn x=true\/X.env.scope.names.lookup x=some .local:=by first|exact .inl rfl|exact .inr rfl|assumption):
  PS X (.Assign [.Name x pos'] e pos) (tAsg te (gName i)):=by
 intro pins s σ H D I h;refine wpAny_Assign_Name (thn (he pins s σ H _ I h) fun v s1 ⟨y,H1,I1,r1,q1⟩=>?_) hs;exact z2l I1 hN hi hx r1 (fun s2 I2=>⟨_,H1,I2,q1⟩) hf
end
section
variable{X:Cx}{pos:Pos}
def tWhile(c:TT)(tb:TS):TS:=fun D σ H=>∃W:Nat->St->Hp->Prop,(∃m,W m σ H)/\∀m σ H,W m σ H ->
 c σ H fun b H1=>if b=true then ∃N:St->Hp->Prop,(∀σ' H',N σ' H'->∃m',m'<m/\W m' σ' H')/\tb { D with nx:=N,ct:=N,bk:=D.nx } σ H1 else D.nx σ H1
theorem z9c{c:Expr}{body:List Stmt}{tc:TT}{tb:TS}(hp:PassesOwn (model X.prog X.w) X.A X.env X.xe)(hc:PT X c tc)(hb:PSs X body tb):PS X (.While c body [] pos) (tWhile tc tb):=by
 intro pins s σ H D I h;obtain⟨W,⟨m0,w0⟩,turn⟩:=h;refine wpAny_While (codeAny_whileLoop (fun n s'=>∃σ' H',Inv X pins σ' H' s'/\W n σ' H') ?_ m0 ⟨σ,H,I,w0⟩);rintro n s1 ⟨σ1,H1,I1,w1⟩;refine Fe hp (thn (hc pins s1 σ1 H1 _ I1 (turn n σ1 H1 w1)) fun b s2 ⟨H2,I2,q2⟩=>?_);cases b with
 |true =>
  obtain⟨N,hN,q2⟩:=q2;refine Fe hp (thn (hb pins s2 σ1 H2 _ I2 q2) fun f s3 q3=>?_);cases f with
  |next =>
   obtain⟨σ3,H3,I3,n3⟩:=q3;obtain⟨m',hm,w3⟩:=hN σ3 H3 n3;exact⟨m',hm,σ3,H3,I3,w3⟩
  |cont =>
   obtain⟨σ3,H3,I3,n3⟩:=q3;obtain⟨m',hm,w3⟩:=hN σ3 H3 n3;exact⟨m',hm,σ3,H3,I3,w3⟩
  |brk=>exact q3
  |ret v=>exact q3
 |false =>
  exact Ih ⟨σ1,H2,I2,q2⟩
end
structure It where
 go:Nat->Hp->Prop
 yld:Nat->Hp->V->Hp->Prop
 stop:Nat->Hp->Prop
def FpOk(X:Cx)(pins:List (Addr×Obj))(H:Hp)(b:Addr):Prop :=
 H b=none/\b≠X.env.locals/\b∉X.fs/\(b∈X.ex\/X.s₀.heap.objs.size<=b)/\(∀x c,X.env.cells.lookup x=some c->c≠b)/\∀p∈X.pn++pins,p.1≠b
theorem Inv.fpOk{σ:St}{b:Addr}(I:Inv X pins σ H s)(hb:s.heap.objs.size<=b)(hn:H' b=none):FpOk X pins H' b:=by
 refine⟨hn,Ge (Bl I.lt hb),I.nofs hb,.inr (Cq I.sz hb),fun x c e z=>?_,fun p hp z=>?_⟩
 ·obtain⟨v,q⟩:=I.cell x c e;exact absurd (Bl q.lt (by rw[z];exact hb)) (Ep _)
 ·exact absurd (Bl (Ap (I.pin p hp).1) (by rw[z];exact hb)) (Ep _)
structure Turn (P:Program) (w:World) (K:Ag) (tg:Expr) (J:It) (fp:List Addr) (it:Addr) (tn:Nat->Heap->Prop):Prop where
 mem:it∈fp
 obj:∀i h,tn i h->∀b∈fp,∃o,h.get? b=some o/\∀v,o.data≠.cell v
 keep:∀i h h',tn i h->(∀b∈fp,∀o,h.get? b=some o->h'.get? b=some o)->tn i h'
 item:∀(X:Cx),X.prog=P->X.w=w->X.K=K->X.calm=true->∀(i:Nat) (pins:List (Addr×Obj)) (s:Ae) (σ:St) (H:Hp) (E:Value->Ae->Prop),Inv X pins σ H s->(∀b∈fp,FpOk X pins H b)->tn i s.heap->J.go i H ->
  wpAny (model P w) X.A (Gz (.ref it)) (fun r s1=>∃u,r=some u /\
   wpAny (model P w) X.A (Ii tg (.ref it) u) (fun _ s2=>∃x H',Inv X pins σ H' s2/\RelV x u/\J.yld i H x H'/\tn (i+1) s2.heap/\∀b∈fp,H' b=none) E s1) E s
 done:∀(X:Cx),X.prog=P->X.w=w->X.K=K->X.calm=true->∀(i:Nat) (pins:List (Addr×Obj)) (s:Ae) (σ:St) (H:Hp) (E:Value->Ae->Prop),Inv X pins σ H s->(∀b∈fp,FpOk X pins H b)->tn i s.heap->J.stop i H ->
  wpAny (model P w) X.A (Gz (.ref it)) (fun r s1=>r=none/\Inv X pins σ H s1) E s
 self:∀(A:Around) (i:Nat) (s:Ae) (Q:Value->Ae->Prop) (E:Value->Ae->Prop),tn i s.heap->Q (.ref it) s->wpAny (model P w) A (Lp (.ref it)) Q E s
abbrev TI:=St->Hp->(It->Hp->Prop)->Prop
def PIE(X:Cx)(pins:List (Addr×Obj))(σ:St)(tg:Expr)(R:It->Hp->Prop)(itv:Value)(s2:Ae):Prop :=
 ∃(it:Addr) (fp:List Addr) (tn:Nat->Heap->Prop) (J:It) (H':Hp),itv=.ref it/\Inv X pins σ H' s2/\Turn X.prog X.w X.K tg J fp it tn/\tn 0 s2.heap/\(∀b∈fp,FpOk X pins H' b)/\R J H'
def PI(X:Cx)(tg iter:Expr)(wi:TI):Prop :=
 ∀(pins:List (Addr×Obj)) (s:Ae) (σ:St) (H:Hp) (R:It->Hp->Prop),Inv X pins σ H s->wi σ H R ->
  wpAny (model X.prog X.w) X.A (eval iter X.env) (fun v s1=>wpAny (model X.prog X.w) X.A (Lp v) (PIE X pins σ tg R) X.xe s1) X.xe s
theorem z1g (ho : s.heap.get? it = some o) (hc : o.cls = .type n) (hd : o.data = .fields vs)
    (hn : ["enumerate", "zip", "dict_itemiterator", "dict_reverseitemiterator", "odict_iterator", "itertools.zip_longest", "itertools.pairwise"].contains n = false) (hQ : Q () s) : wpAny M A (Ii tg (.ref it) u) Q E s := by
  cases tg <;> first
    | exact Ac hQ
    | (cases u <;> first
        | exact Ac hQ
        | (refine Ab (Pb ho ?_)
           rw [hc, hd]
           show wpAny M A (if (["enumerate", "zip", "dict_itemiterator", "dict_reverseitemiterator", "odict_iterator", "itertools.zip_longest", "itertools.pairwise"].contains n && vs[0]? == some (Fo _)) = true then _ else _) Q E s
           rw [if_neg (by intro h; rw [hn, Bool.false_and] at h; cases h)]
           exact Ac hQ))
def Itl(K:Ag)(a:Addr):It :=
 ⟨fun i H=>∃xs x,SqL K H a xs/\xs[i]?=some x,fun i H x H'=>H'=H/\∀xs,SqL K H a xs->xs[i]?=some x,fun i H=>∃xs,SqL K H a xs/\xs.length<=i⟩
def Itt(K:Ag)(a:Addr):It :=
 ⟨fun i H=>∃xs x,SqT K H a xs/\xs[i]?=some x,fun i H x H'=>H'=H/\∀xs,SqT K H a xs->xs[i]?=some x,fun i H=>∃xs,SqT K H a xs/\xs.length<=i⟩
def Itr(lo:Int)(n:Nat):It:=⟨fun i _=>i<n,fun i H x H'=>H'=H/\x=.int (lo+i),fun i _=>n<=i⟩
theorem z5d{K:Ag}(a it:Addr):Turn P w K tg (Itl K a) [it] it (fun i h=>h.IsListIter it a i) where
 mem:=by simp
 obj:=fun i h st b hb=>by
  have e:b=it:=by grind
  subst e;obtain⟨o,e,c,d⟩:=st;exact⟨o,e,fun v z=>by rw[d] at z;cases z⟩
 keep:=fun i h h' st k=>st.at fun o e=>k it (by simp) o e
 item:=by
  intro X hP hw hK hc i pins s σ H E I hf st hg;subst hP hw hK;obtain⟨xs,x,hq,hx⟩:=hg;obtain⟨its,rv,p,hz⟩:=I.list hq;obtain⟨u,hu,ru⟩:=rv.get hx;obtain⟨f0,f1,f2,f3,f4,f5⟩:=hf it (by simp);refine wpAny_pyNext_list_item st p.isList (by simpa using hu) fun h' st' sb=>?_;have I1:Inv X pins σ H { s with heap:=h' }:=I.turned (t':=s.toks) (fun b o hb e=>(sb.2 b hb).trans e) f0 f1 f3 f4 f5;obtain⟨o,e,c,d⟩:=id st';exact⟨u,rfl,z1g e c d (by decide) ⟨x,H,I1,ru,⟨rfl,fun ys hy=>by rw[I.list_inj hy hq];exact hx⟩,st',fun b hb=>(hf b hb).1⟩⟩
 done:=by
  intro X hP hw hK hc i pins s σ H E I hf st hg;subst hP hw hK;obtain⟨xs,hq,hx⟩:=hg;obtain⟨its,rv,p,hz⟩:=I.list hq;obtain⟨f0,f1,f2,f3,f4,f5⟩:=hf it (by simp);have hl:=rv.length;exact wpAny_pyNext_list_end (I.ok.hd hc) st p.isList (by simp;lia) fun h' eb=>⟨rfl,I.turned (t':=s.toks) (fun b o hb e=>eb b o hb e) f0 f1 f3 f4 f5⟩
 self:=fun _ _ _ _ _ st h=>wpAny_pyIter_listiter st h
theorem z3w{K:Ag}(a it:Addr):Turn P w K tg (Itt K a) [it] it (fun i h=>h.IsTupleIter it a i) where
 mem:=by simp
 obj:=fun i h st b hb=>by
  have e:b=it:=by grind
  subst e;obtain⟨o,e,c,d⟩:=st;exact⟨o,e,fun v z=>by rw[d] at z;cases z⟩
 keep:=fun i h h' st k=>st.at fun o e=>k it (by simp) o e
 item:=by
  intro X hP hw hK hc i pins s σ H E I hf st hg;subst hP hw hK;obtain⟨xs,x,hq,hx⟩:=hg;obtain⟨its,rv,p,hz⟩:=I.tuple hq;obtain⟨u,hu,ru⟩:=rv.get hx;obtain⟨f0,f1,f2,f3,f4,f5⟩:=hf it (by simp);refine wpAny_pyNext_tuple_item st (show s.heap.IsTuple a its.toArray from p) (by simpa using hu) fun h' st' sb=>?_;have I1:Inv X pins σ H { s with heap:=h' }:=I.turned (t':=s.toks) (fun b o hb e=>(sb.2 b hb).trans e) f0 f1 f3 f4 f5;obtain⟨o,e,c,d⟩:=id st';exact⟨u,rfl,z1g e c d (by decide) ⟨x,H,I1,ru,⟨rfl,fun ys hy=>by rw[I.tuple_inj hy hq];exact hx⟩,st',fun b hb=>(hf b hb).1⟩⟩
 done:=by
  intro X hP hw hK hc i pins s σ H E I hf st hg;subst hP hw hK;obtain⟨xs,hq,hx⟩:=hg;obtain⟨its,rv,p,hz⟩:=I.tuple hq;obtain⟨f0,f1,f2,f3,f4,f5⟩:=hf it (by simp);have hl:=rv.length;exact wpAny_pyNext_tuple_end (I.ok.hd hc) st (show s.heap.IsTuple a its.toArray from p) (by simp;lia) fun h' eb=>⟨rfl,I.turned (t':=s.toks) (fun b o hb e=>eb b o hb e) f0 f1 f3 f4 f5⟩
 self:=fun _ _ _ _ _ st h=>wpAny_pyIter_tupleiter st h
theorem z3x{K:Mw}(it:Addr)(lo:Int)(n:Nat):Turn P w K tg (Itr lo n) [it] it (fun i h=>IsRangeIter h it (lo+(i:Nat)*1) ((n:Int)-(i:Nat)) 1) where
 mem:=by simp
 obj:=fun i h st b hb=>by
  have e:b=it:=by grind
  subst e;exact⟨_,st,fun v z=>by
   have z':=z;cases z'⟩
 keep:=fun i h h' st k=>k it (by simp) _ st
 item:=by
  intro X hP hw hK hc i pins s σ H E I hf st hg;subst hP hw hK;obtain⟨f0,f1,f2,f3,f4,f5⟩:=hf it (by simp);have W:=Walks.range (prog:=X.prog) (w:=X.w) (I.ok.hd hc) it lo 1 n;refine W.item i s _ _ hg st fun v h' tk hv st' kk=>?_;obtain⟨t,rfl⟩:=hv;have I1:Inv X pins σ H { s with heap:=h',toks:=tk }:=I.turned (fun b o hb e=>kk b o (by simpa using hb) e) f0 f1 f3 f4 f5;refine⟨_,rfl,z1g st' rfl rfl (by decide) ⟨.int (lo+i),H,I1,⟨t,?_⟩,⟨rfl,rfl⟩,st',fun b hb=>(hf b hb).1⟩⟩;rw[Int.mul_one]
 done:=by
  intro X hP hw hK hc i pins s σ H E I hf st hg;obtain⟨f0,f1,f2,f3,f4,f5⟩:=hf it (by simp);exact wpAny_pyNext_range_end (I.ok.hd hc) st (by have:n<=i:=hg;lia) fun h' eb=>⟨rfl,I.turned (t':=s.toks) (fun b o hb e=>eb b o hb e) f0 f1 f3 f4 f5⟩
 self:=fun _ _ _ _ _ st h=>wpAny_pyIter_rangeiter st h
open PySem PySem.Spec PyProof.Rows
section
variable{X:Cx}{tg:Expr}
theorem z9d{σ:St}{lo:Int}(I:Inv X pins σ H s)(h1 : -(2^62)<=lo)(h2:lo<2^62)(h3 : -(2^62)<=hi)(h4:hi<2^62)(q:R (Itr lo (hi-lo).toNat) H):wpAny (model X.prog X.w) X.A (Lp (.ref s.heap.objs.size)) (PIE X pins σ tg R) E { s with heap:=s.heap.push { cls:=.type "range",data:=.fields #[.int lo t,.int hi u,.int 1 v] },toks:=tk }:=by
 refine wpAny_pyIter_range (IsRange.new ..) (small_one h1 h2 h3 h4) ?_;have I1:Inv X pins σ H { s with heap:=s.heap.push { cls:=.type "range",data:=.fields #[.int lo t,.int hi u,.int 1 v] },toks:=tk }:=I.kept fun b o e=>Ai _ e;refine⟨(s.heap.push { cls:=.type "range",data:=.fields #[.int lo t,.int hi u,.int 1 v] }).objs.size,[(s.heap.push { cls:=.type "range",data:=.fields #[.int lo t,.int hi u,.int 1 v] }).objs.size],_,_,H,rfl,
  I1.kept (t':=tk) fun b o e=>Ai _ e,z3x _ lo (hi-lo).toNat,?_,fun b hb=>?_,q⟩
 ·have e1:lo+((0:Nat):Int)*1=lo:=by simp
  have e2:(((hi-lo).toNat:Nat):Int)-((0:Nat):Int)=Dm.Range.rangeSize lo hi 1:=by rw[rangeSize_one];split<;>lia
  rw[e1,e2];exact Ar _ rfl
 ·have e:b=(s.heap.push { cls:=.type "range",data:=.fields #[.int lo t,.int hi u,.int 1 v] }).objs.size:=by simpa using hb
  subst e;exact I1.fpOk (Ak _) (I1.hok.fresh (Ak _))
def iRng1(ta:TA):TI:=fun σ H R=>ta σ H fun vs H1=>∃j:Int,vs=[.int j] /\ -(2^62)<=j/\j<2^62/\R (Itr 0 j.toNat) H1
theorem q1y{a:Expr}{ta:TA}{p pos:Pos}(hg:Gl X "range")(hm:X.mg "range" = none)(ha:PA X [a] ta)(hs:Bi [a] X.env=[(false,eval a X.env)]:=by rfl):PI X tg (.Call (.Name "range" p) [a] [] pos) (iRng1 ta):=by
 intro pins s σ H R I h;refine Call_ (q7o I hg hm boot_range (Ez (thn (ha pos pins s σ H _ I h) fun us s1 ⟨vs,H1,I1,r1,q1⟩=>?_) hs rfl));obtain⟨j,e,q1,q2,q⟩:=q1;subst e;cases r1 with
 |cons r rr =>
  cases rr;obtain⟨t,rfl⟩:=r;exact call_range_1 (z9d I1 (by lia) (by lia) q1 q2 (by simpa using q))
def tFor(wi:TI)(g:TG)(tb:TS):TS:=fun D σ H=>wi σ H fun J H1=>∃W:Nat->Nat->St->Hp->Prop,(∃m,W 0 m σ H1)/\∀i m σ H,W i m σ H ->
 (J.stop i H/\D.nx σ H)\/(J.go i H/\∃N:St->Hp->Prop,(∀σ' H',N σ' H'->∃m',m'<m/\W (i+1) m' σ' H')/\∀x H',J.yld i H x H'->g x σ H' fun σ2 H2=>tb { D with nx:=N,ct:=N,bk:=D.nx } σ2 H2)
def pinsAt(fp:List Addr)(h:Heap):List (Addr×Obj):=fp.filterMap fun b=>(h.get? b).map fun o=>(b,o)
theorem q1x(hb:b∈fp)(e:h.get? b=some o):(b,o)∈pinsAt fp h:=Qf.mpr ⟨b,hb,by rw[e];rfl⟩
theorem z5e(hp:p∈pinsAt fp h):p.1∈fp/\h.get? p.1=some p.2:=by
 obtain⟨b,hb,e⟩:=Qf.mp hp;cases q:h.get? b with
 |none=>rw[q] at e;cases e
 |some o =>
  rw[q] at e;have e':=Dg e;subst e';exact⟨hb,q⟩
theorem Inv.pinned{σ:St}(I:Inv X pins σ H s)(hf:∀b∈fp,FpOk X pins H b)(ho:∀b∈fp,∃o,s.heap.get? b=some o/\∀v,o.data≠.cell v):Inv X (pins++pinsAt fp s.heap) σ H s :=
 I.pins_of fun p hp=>(Ay.mp hp).elim (fun z=>I.pin p (Bo _ z)) fun z=>by
  obtain⟨hb,e⟩:=z5e z;obtain⟨f0,f1,f2,_⟩:=hf p.1 hb;obtain⟨o,e',d⟩:=ho p.1 hb;rw[e] at e';cases e';exact⟨e,f0,f1,f2,d⟩
theorem Inv.unpinned{σ:St}(I:Inv X (pins++pl) σ H s):Inv X pins σ H s:=I.pins_of fun p hp=>I.pin p (Bo _ (Pa _ hp))
theorem q5k{iter:Expr}{body:List Stmt}{wi:TI}{g:TG}{tb:TS}{pos:Pos}(hp:PassesOwn (model X.prog X.w) X.A X.env X.xe)(hc:X.calm=true)(hi:PI X tg iter wi)(hg:PG X tg g)(hb:PSs X body tb)(hs:∀x,Gw iter X.env x=pure x:=by intro _;rfl):PS X (.For tg iter body [] pos) (tFor wi g tb):=by
 intro pins s σ H D I h;refine wpAny_For (thn (hi pins s σ H _ I h) fun v s1 h1=>thn h1 fun itv s2 h2=>?_) hs;obtain⟨it,fp,tn,J,H2,e,I2,T,st2,f2,W,⟨m0,w0⟩,turn⟩:=h2;subst e;have stat:∀{H':Hp},(∀b∈fp,H' b=none)->∀b∈fp,FpOk X pins H' b:=fun hn b hb=>⟨hn b hb,(f2 b hb).2⟩
 refine codeAny_forLoop_any (fun n s'=>∃i σ' H',Inv X pins σ' H' s'/\tn i s'.heap/\(∀b∈fp,H' b=none)/\W i n σ' H') ?_ m0 ⟨0,σ,H2,I2,st2,fun b hb=>(f2 b hb).1,w0⟩;rintro n s3 ⟨i,σ3,H3,I3,st3,fr3,w3⟩;rcases turn i n σ3 H3 w3 with⟨stop,qn⟩|⟨go,N,hN,step⟩
 ·refine Fe hp (thn (T.done X rfl rfl rfl hc i pins s3 σ3 H3 X.xe I3 (stat fr3) st3 stop) fun r s4 ⟨hr,I4⟩=>?_);subst hr;exact Ih ⟨σ3,H3,I4,qn⟩
 ·refine Fe hp (thn (T.item X rfl rfl rfl hc i pins s3 σ3 H3 X.xe I3 (stat fr3) st3 go) fun r s4 ⟨u,hr,h4⟩=>?_);subst hr;refine Fe hp (thn h4 fun _ s5 ⟨x,H5,I5,r5,y5,st5,fr5⟩=>?_);have I5':=I5.pinned (stat fr5) (T.obj _ _ st5);refine Fe hp (thn (hg _ s5 σ3 H5 x u _ I5' r5 (step x H5 y5)) fun _ s6 ⟨σ6,H6,I6,q6⟩=>?_);refine Fe hp (thn (hb _ s6 σ6 H6 _ I6 q6) fun f s7 q7=>?_);have again:∀{σ7:St} {H7:Hp},Inv X (pins++pinsAt fp s5.heap) σ7 H7 s7->N σ7 H7->∃m,m<n/\∃i σ' H',Inv X pins σ' H' s7/\tn i s7.heap/\(∀b∈fp,H' b=none)/\W i m σ' H':=fun{σ7 H7} I7 n7=>by
   obtain⟨m',hm,w7⟩:=hN σ7 H7 n7;refine⟨m',hm,i+1,σ7,H7,I7.unpinned,T.keep _ _ _ st5 fun b hb o e=>(I7.pin (b,o) (Bo _ (Bo _ (q1x hb e)))).1,fun b hb=>?_,w7⟩;obtain⟨o,e,d⟩:=T.obj _ _ st5 b hb;exact(I7.pin (b,o) (Bo _ (Bo _ (q1x hb e)))).2.1
  cases f with
  |next=>obtain⟨σ7,H7,I7,n7⟩:=q7;exact again I7 n7
  |cont=>obtain⟨σ7,H7,I7,n7⟩:=q7;exact again I7 n7
  |brk=>obtain⟨σ7,H7,I7,q7⟩:=q7;exact⟨σ7,H7,I7.unpinned,q7⟩
  |ret v=>obtain⟨x7,σ7,H7,I7,r7,q7⟩:=q7;exact⟨x7,σ7,H7,I7.unpinned,r7,q7⟩
end
theorem z2r{K:Mw}{g:TG}{tb:TS}{D:Ends}(Pv:Nat->St->Hp->Prop)(h0:Pv 0 σ H)(hl:∀i σ H,i<=xs.length->Pv i σ H->SqL K H a xs)(hs:∀i x σ H,xs[i]?=some x->Pv i σ H->g x σ H fun σ2 H2=>tb { D with nx:=Pv (i+1),ct:=Pv (i+1),bk:=D.nx } σ2 H2)(hd:∀σ H,Pv xs.length σ H->D.nx σ H):
  ∃W:Nat->Nat->St->Hp->Prop,(∃m,W 0 m σ H)/\∀i m σ H,W i m σ H ->
   ((Itl K a).stop i H/\D.nx σ H)\/((Itl K a).go i H/\∃N:St->Hp->Prop,(∀σ' H',N σ' H'->∃m',m'<m/\W (i+1) m' σ' H')/\∀x H',(Itl K a).yld i H x H'->g x σ H' fun σ2 H2=>tb { D with nx:=N,ct:=N,bk:=D.nx } σ2 H2):=by
 refine⟨fun i m σ H=>m=xs.length-i/\i<=xs.length/\Pv i σ H,⟨xs.length,by simp,Br _,h0⟩,?_⟩;rintro i m σ H ⟨rfl,hi,p⟩;have q:=hl i σ H hi p;by_cases hlt:i<xs.length
 ·refine .inr ⟨⟨xs,xs[i],q,by simp[hlt]⟩,Pv (i+1),fun σ' H' p'=>⟨xs.length-(i+1),by lia,rfl,hlt,p'⟩,fun x H' y=>?_⟩;obtain⟨e,y⟩:=y;subst e;exact hs i x σ _ (y xs q) p
 ·have e:i=xs.length:=by lia
  subst e;exact .inl ⟨⟨xs,q,Ak _⟩,hd σ H p⟩
theorem x2o{K:Mw}{g:TG}{tb:TS}{D:Ends}(Pv:Nat->St->Hp->Prop)(h0:Pv 0 σ H)(hl:∀i σ H,i<=xs.length->Pv i σ H->SqT K H a xs)(hs:∀i x σ H,xs[i]?=some x->Pv i σ H->g x σ H fun σ2 H2=>tb { D with nx:=Pv (i+1),ct:=Pv (i+1),bk:=D.nx } σ2 H2)(hd:∀σ H,Pv xs.length σ H->D.nx σ H):
  ∃W:Nat->Nat->St->Hp->Prop,(∃m,W 0 m σ H)/\∀i m σ H,W i m σ H ->
   ((Itt K a).stop i H/\D.nx σ H)\/((Itt K a).go i H/\∃N:St->Hp->Prop,(∀σ' H',N σ' H'->∃m',m'<m/\W (i+1) m' σ' H')/\∀x H',(Itt K a).yld i H x H'->g x σ H' fun σ2 H2=>tb { D with nx:=N,ct:=N,bk:=D.nx } σ2 H2):=by
 refine⟨fun i m σ H=>m=xs.length-i/\i<=xs.length/\Pv i σ H,⟨xs.length,by simp,Br _,h0⟩,?_⟩;rintro i m σ H ⟨rfl,hi,p⟩;have q:=hl i σ H hi p;by_cases hlt:i<xs.length
 ·refine .inr ⟨⟨xs,xs[i],q,by simp[hlt]⟩,Pv (i+1),fun σ' H' p'=>⟨xs.length-(i+1),by lia,rfl,hlt,p'⟩,fun x H' y=>?_⟩;obtain⟨e,y⟩:=y;subst e;exact hs i x σ _ (y xs q) p
 ·have e:i=xs.length:=by lia
  subst e;exact .inl ⟨⟨xs,q,Ak _⟩,hd σ H p⟩
theorem q9e{lo:Int}{g:TG}{tb:TS}{D:Ends}(Pv:Nat->St->Hp->Prop)(h0:Pv 0 σ H)(hs:∀i σ H,i<n->Pv i σ H->g (.int (lo+i)) σ H fun σ2 H2=>tb { D with nx:=Pv (i+1),ct:=Pv (i+1),bk:=D.nx } σ2 H2)(hd:∀σ H,Pv n σ H->D.nx σ H):
  ∃W:Nat->Nat->St->Hp->Prop,(∃m,W 0 m σ H)/\∀i m σ H,W i m σ H ->
   ((Itr lo n).stop i H/\D.nx σ H)\/((Itr lo n).go i H/\∃N:St->Hp->Prop,(∀σ' H',N σ' H'->∃m',m'<m/\W (i+1) m' σ' H')/\∀x H',(Itr lo n).yld i H x H'->g x σ H' fun σ2 H2=>tb { D with nx:=N,ct:=N,bk:=D.nx } σ2 H2):=by
 refine⟨fun i m σ H=>m=n-i/\i<=n/\Pv i σ H,⟨n,by simp,Br _,h0⟩,?_⟩;rintro i m σ H ⟨rfl,hi,p⟩;by_cases hlt:i<n
 ·refine .inr ⟨hlt,Pv (i+1),fun σ' H' p'=>⟨n-(i+1),by lia,rfl,hlt,p'⟩,fun x H' y=>?_⟩;obtain⟨e,y⟩:=y;subst e y;exact hs i σ _ hlt p
 ·have e:i=n:=by lia
  subst e;exact .inl ⟨Ak _,hd σ H p⟩
theorem z9e(Pv:St->Hp->Prop)(μ:St->Hp->Nat)(h0:Pv σ H)(hs:∀σ H,Pv σ H->c σ H fun b H1=>if b=true then tb { D with nx:=fun σ' H'=>Pv σ' H'/\μ σ' H'<μ σ H,ct:=fun σ' H'=>Pv σ' H'/\μ σ' H'<μ σ H,bk:=D.nx } σ H1 else D.nx σ H1)(mono:∀σ H Q Q',(∀b H1,Q b H1->Q' b H1)->c σ H Q->c σ H Q'):tWhile c tb D σ H:=by
 refine⟨fun m σ H=>m=μ σ H/\Pv σ H,⟨_,rfl,h0⟩,?_⟩;rintro m σ H ⟨rfl,p⟩;refine mono σ H _ _ (fun b H1 q=>?_) (hs σ H p);cases b with
 |true=>exact⟨_,fun σ' H' ⟨p',l⟩=>⟨_,l,rfl,p'⟩,q⟩
 |false=>exact q
open PySem PySem.Spec PyProof.Rows
abbrev R2:=V->V->Hp->VK->Prop
def OpR(X:Cx)(f:Value->Value->Sem Value)(r:R2):Prop :=
 ∀(pins:List (Addr×Obj)) (s:Ae) (σ:St) (H:Hp) (x y:V) (v u:Value) (Q:VK),Inv X pins σ H s->RelV x v->RelV y u->r x y H Q ->
  wpAny (model X.prog X.w) X.A (f v u) (EP X pins σ Q) X.xe s
def UnR(X:Cx)(f:Value->Sem Value)(r:V->Hp->VK->Prop):Prop :=
 ∀(pins:List (Addr×Obj)) (s:Ae) (σ:St) (H:Hp) (x:V) (v:Value) (Q:VK),Inv X pins σ H s->RelV x v->r x H Q ->
  wpAny (model X.prog X.w) X.A (f v) (EP X pins σ Q) X.xe s
def CallR(X:Cx)(f:Value)(r:List V->Hp->VK->Prop):Prop :=
 ∀(pins:List (Addr×Obj)) (s:Ae) (σ:St) (H:Hp) (xs:List V) (us:List Value) (Q:VK),Inv X pins σ H s->Vals xs us->r xs H Q ->
  wpAny (model X.prog X.w) X.A (call f us) (EP X pins σ Q) X.xe s
def TruR(X:Cx)(r:V->Hp->(Bool->Hp->Prop)->Prop):Prop :=
 ∀(pins:List (Addr×Obj)) (s:Ae) (σ:St) (H:Hp) (x:V) (v:Value) (Q:Bool->Hp->Prop),Inv X pins σ H s->RelV x v->r x H Q ->
  wpAny (model X.prog X.w) X.A (truthy v) (TP X pins σ Q) X.xe s
def tOp(r:R2)(ta tb:TE):TE:=fun σ H Q=>ta σ H fun x H1=>tb σ H1 fun y H2=>r x y H2 Q
def tUn(r:V->Hp->VK->Prop)(ta:TE):TE:=fun σ H Q=>ta σ H fun x H1=>r x H1 Q
def rI(C:Int->Int->Prop)(g:Int->Int->V):R2:=fun x y H Q=>∃i j,x=.int i/\y=.int j/\C i j/\Q (g i j) H
def rI0(g:Int->Int->V):R2:=fun x y H Q=>∃i j,x=.int i/\y=.int j/\Q (g i j) H
def rU(g:Int->V):V->Hp->VK->Prop:=fun x H Q=>∃i,x=.int i/\Q (g i) H
section
variable{X:Cx}{a b c:Expr}{ta tb tc:TE}{pos:Pos}
theorem binT(ha:PE X a ta)(hb:PE X b tb){σ:St}{R:V->V->Hp->Prop}(I:Inv X pins σ H s)(h:ta σ H fun x H1=>tb σ H1 fun y H2=>R x y H2){f:Value->Value->Sem Value}(hf:∀v u s2 x y H2,Inv X pins σ H2 s2->RelV x v->RelV y u->R x y H2->wpAny (model X.prog X.w) X.A (f v u) Q X.xe s2):
  wpAny (model X.prog X.w) X.A (eval a X.env) (fun v s₁=>wpAny (model X.prog X.w) X.A (eval b X.env) (fun u s₂=>wpAny (model X.prog X.w) X.A (f v u) Q X.xe s₂) X.xe s₁) X.xe s:=by
 refine thn (ha pins s σ H _ I h) fun v s1 ⟨x,H1,I1,r1,q1⟩=>?_;refine thn (hb pins s1 σ H1 _ I1 q1) fun u s2 ⟨y,H2,I2,r2,q2⟩=>?_;exact hf v u s2 x y H2 I2 r1 r2 q2
theorem q0p{op:Operator}{r:R2}(ho:OpR X (Ej op) r)(ha:PE X a ta)(hb:PE X b tb):PE X (.BinOp a op b pos) (tOp r ta tb):=by
 intro pins s σ H Q I h;exact wpAny_BinOp (binT ha hb I h fun v u s2 x y H2 I2 rx ry q=>ho pins s2 σ H2 x y v u Q I2 rx ry q)
theorem q4j{op:UnaryOp}{r:V->Hp->VK->Prop}(ho:UnR X (unaryOp op) r)(ha:PE X a ta):PE X (.UnaryOp op a pos) (tUn r ta):=by
 intro pins s σ H Q I h;exact UnaryOp_ (thn (ha pins s σ H _ I h) fun v s1 ⟨x,H1,I1,r1,q1⟩=>ho pins s1 σ H1 x v Q I1 r1 q1)
theorem opI{g:Int->Int->Int}(rule:∀(i j:Int) (t u:Tok) (s:Ae) (Q:Value->Ae->Prop) (E:Value->Ae->Prop),C i j->Q (.int (g i j) s.toks) { s with toks:=s.toks+1 }->wpAny (model X.prog X.w) X.A (f (.int i t) (.int j u)) Q E s):
  OpR X f (rI C fun i j=>.int (g i j)):=by
 intro pins s σ H x y v u Q I rx ry h;obtain⟨i,j,rfl,rfl,hc,q⟩:=h;obtain⟨t,rfl⟩:=rx;obtain⟨t',rfl⟩:=ry;exact rule i j t t' s _ _ hc ⟨.int (g i j),H,I.tok _,⟨_,rfl⟩,q⟩
theorem opI0{g:Int->Int->Int}(rule:∀(i j:Int) (t u:Tok) (s:Ae) (Q:Value->Ae->Prop) (E:Value->Ae->Prop),Q (.int (g i j) s.toks) { s with toks:=s.toks+1 }->wpAny (model X.prog X.w) X.A (f (.int i t) (.int j u)) Q E s):
  OpR X f (rI0 fun i j=>.int (g i j)):=by
 intro pins s σ H x y v u Q I rx ry h;obtain⟨i,j,rfl,rfl,q⟩:=h;obtain⟨t,rfl⟩:=rx;obtain⟨t',rfl⟩:=ry;exact rule i j t t' s _ _ ⟨.int (g i j),H,I.tok _,⟨_,rfl⟩,q⟩
theorem opB0{g:Int->Int->Bool}(rule:∀(i j:Int) (t u:Tok) (s:Ae) (Q:Value->Ae->Prop) (E:Value->Ae->Prop),Q (.bool (g i j)) s->wpAny (model X.prog X.w) X.A (f (.int i t) (.int j u)) Q E s):
  OpR X f (rI0 fun i j=>.bl (g i j)):=by
 intro pins s σ H x y v u Q I rx ry h;obtain⟨i,j,rfl,rfl,q⟩:=h;obtain⟨t,rfl⟩:=rx;obtain⟨t',rfl⟩:=ry;exact rule i j t t' s _ _ ⟨.bl (g i j),H,I,rfl,q⟩
def CDiv(i j:Int):Prop:=0<j/\j<1073741824
def CPow(i j:Int):Prop:=0<=j/\j<=1000000/\i.natAbs<2^64
def CMul(i j:Int):Prop:=(-(2^64)<i/\i<2^64)\/(-(2^64)<j/\j<2^64)
theorem CMul.ok(h:CMul i j):IntMulOk i j:=by
 rcases h with⟨h1,h2⟩|⟨h1,h2⟩
 ·exact .of_left (intBits_le_64 h1 h2)
 ·exact .of_right (intBits_le_64 h1 h2)
theorem op_add:OpR X (Ej .Add) (rI0 fun i j=>.int (i+j)):=opI0 fun _ _ _ _ _ _ _ q=>add_int q
theorem q4k:OpR X (Ej .Sub) (rI0 fun i j=>.int (i-j)):=opI0 fun _ _ _ _ _ _ _ q=>sub_int q
theorem op_mul:OpR X (Ej .Mult) (rI CMul fun i j=>.int (i*j)):=opI fun _ _ _ _ _ _ _ hc q=>mul_int q hc.ok
theorem q4u:OpR X (Ej .FloorDiv) (rI CDiv fun i j=>.int (i / j)):=opI fun i j _ _ _ _ _ hc q=>by
 have h1:=hc.1;have h2:=hc.2;exact floordiv_int (by lia) (by rw[Int.fdiv_eq_ediv_of_nonneg i (by lia)];exact q) (.inl (PyProof.noPylong_small (by lia)))
theorem q6b:OpR X (Ej .Mod) (rI (fun _ j=>0<j) fun i j=>.int (i%j)):=opI fun i j _ _ _ _ _ hc q=>by
 exact mod_int' (by lia) (by rw[Int.fmod_eq_emod_of_nonneg i (by lia)];exact q)
theorem op_pow:OpR X (Ej .Pow) (rI CPow fun i j=>.int (i^j.toNat)):=opI fun _ _ _ _ _ _ _ hc q=>pow_int_small hc.1 hc.2.1 hc.2.2 q
theorem unI{g:Int->Int}(rule:∀(i:Int) (t:Tok) (s:Ae) (Q:Value->Ae->Prop) (E:Value->Ae->Prop),Q (.int (g i) s.toks) { s with toks:=s.toks+1 }->wpAny (model X.prog X.w) X.A (f (.int i t)) Q E s):
  UnR X f (rU fun i=>.int (g i)):=by
 intro pins s σ H x v Q I rx h;obtain⟨i,rfl,q⟩:=h;obtain⟨t,rfl⟩:=rx;exact rule i t s _ _ ⟨.int (g i),H,I.tok _,⟨_,rfl⟩,q⟩
theorem q2b:UnR X (unaryOp .USub) (rU fun i=>.int (-i)):=unI fun _ _ _ _ _ q=>neg_int q
end
def scal:V->V->Bool
 |.non,.non=>true|.non,.int _=>true|.int _,.non=>true|.non,.bl _=>true|.bl _,.non=>true|.non,.str _=>true|.str _,.non=>true
 |.int _,.int _=>true|.bl _,.bl _=>true|.str _,.str _=>true|.byt _,.byt _=>true
 |.int _,.str _=>true|.str _,.int _=>true|.bl _,.str _=>true|.str _,.bl _=>true
 |_,_=>false
def rEq:R2:=fun x y H Q=>scal x y=true/\Q (.bl (decide (x=y))) H
def rNe:R2:=fun x y H Q=>scal x y=true/\Q (.bl (!decide (x=y))) H
theorem z5f:decide (V.int i=V.int j)=(i==j):=by
 rw[Kq];simp
theorem x1l:decide (V.bl i=V.bl j)=(i==j):=by
 rw[Kq];simp
theorem dec_str:decide (V.str i=V.str j)=(i==j):=by
 rw[Kq];simp
theorem z5g:decide (V.byt i=V.byt j)=(i.toList==j.toList):=by
 rw[Kq];cases i;cases j;simp
section
variable{X:Cx}{a b c:Expr}{ta tb tc:TE}{pos:Pos}
theorem q0v{σ:St}(I:Inv X pins σ H s)(q:Q (.bl k) H)(e:k=k'):EP X pins σ Q (.bool k') s:=by
 subst e;exact⟨.bl k,H,I,rfl,q⟩
theorem op_eq:OpR X (Bw .Eq) rEq:=by
 intro pins s σ H x y v u Q I rx ry h;obtain⟨hs,q⟩:=h;cases x with
 |non =>
  cases rx;cases y with
  |non=>cases ry;exact PySem.EqNone.eq_none_none (q0v I q (by simp))
  |bl j=>cases ry;exact PySem.EqNone.eq_none_bool (q0v I q (by simp))
  |int j=>obtain⟨t',rfl⟩:=ry;exact PySem.EqNone.eq_none_int (q0v I q (by simp))
  |str j=>obtain⟨t',rfl⟩:=ry;exact PySem.EqNone.eq_none_str (q0v I q (by simp))
  |_=>exact absurd (show false=true from hs) Bh
 |bl i =>
  cases rx;cases y with
  |non=>cases ry;exact PySem.EqNone.eq_bool_none (q0v I q (by simp))
  |bl j=>cases ry;exact eq_bool (q0v I q x1l)
  |str j=>obtain⟨t',rfl⟩:=ry;exact PySem.EqMixed.eq_bool_str (q0v I q (by simp))
  |_=>exact absurd (show false=true from hs) Bh
 |int i =>
  obtain⟨t,rfl⟩:=rx;cases y with
  |non=>cases ry;exact PySem.EqNone.eq_int_none (q0v I q (by simp))
  |int j=>obtain⟨t',rfl⟩:=ry;exact eq_int (q0v I q z5f)
  |str j=>obtain⟨t',rfl⟩:=ry;exact PySem.EqMixed.eq_int_str (q0v I q (by simp))
  |_=>exact absurd (show false=true from hs) Bh
 |str i =>
  obtain⟨t,rfl⟩:=rx;cases y with
  |non=>cases ry;exact PySem.EqNone.eq_str_none (q0v I q (by simp))
  |bl j=>cases ry;exact PySem.EqMixed.eq_str_bool (q0v I q (by simp))
  |int j=>obtain⟨t',rfl⟩:=ry;exact PySem.EqMixed.eq_str_int (q0v I q (by simp))
  |str j=>obtain⟨t',rfl⟩:=ry;exact eq_str (q0v I q dec_str)
  |_=>exact absurd (show false=true from hs) Bh
 |byt i =>
  obtain⟨t,rfl⟩:=rx;cases y with
  |byt j=>obtain⟨t',rfl⟩:=ry;exact W.eq_bytes (q0v I q z5g)
  |_=>exact absurd (show false=true from hs) Bh
 |_=>cases y<;>exact absurd (show false=true from hs) Bh
theorem op_ne:OpR X (Bw .NotEq) rNe:=by
 intro pins s σ H x y v u Q I rx ry h;obtain⟨hs,q⟩:=h;cases x with
 |non =>
  cases rx;cases y with
  |non=>cases ry;exact PySem.EqNone.ne_none_none (q0v I q (by simp))
  |bl j=>cases ry;exact PySem.EqNone.ne_none_bool (q0v I q (by simp))
  |int j=>obtain⟨t',rfl⟩:=ry;exact PySem.EqNone.ne_none_int (q0v I q (by simp))
  |str j=>obtain⟨t',rfl⟩:=ry;exact PySem.EqNone.ne_none_str (q0v I q (by simp))
  |_=>exact absurd (show false=true from hs) Bh
 |bl i =>
  cases rx;cases y with
  |non=>cases ry;exact PySem.EqNone.ne_bool_none (q0v I q (by simp))
  |bl j=>cases ry;exact ne_bool (q0v I q (congrArg not x1l))
  |str j=>obtain⟨t',rfl⟩:=ry;exact PySem.EqMixed.ne_bool_str (q0v I q (by simp))
  |_=>exact absurd (show false=true from hs) Bh
 |int i =>
  obtain⟨t,rfl⟩:=rx;cases y with
  |non=>cases ry;exact PySem.EqNone.ne_int_none (q0v I q (by simp))
  |int j=>obtain⟨t',rfl⟩:=ry;exact ne_int (q0v I q (congrArg not z5f))
  |str j=>obtain⟨t',rfl⟩:=ry;exact PySem.EqMixed.ne_int_str (q0v I q (by simp))
  |_=>exact absurd (show false=true from hs) Bh
 |str i =>
  obtain⟨t,rfl⟩:=rx;cases y with
  |non=>cases ry;exact PySem.EqNone.ne_str_none (q0v I q (by simp))
  |bl j=>cases ry;exact PySem.EqMixed.ne_str_bool (q0v I q (by simp))
  |int j=>obtain⟨t',rfl⟩:=ry;exact PySem.EqMixed.ne_str_int (q0v I q (by simp))
  |str j=>obtain⟨t',rfl⟩:=ry;exact ne_str (q0v I q (congrArg not dec_str))
  |_=>exact absurd (show false=true from hs) Bh
 |byt i =>
  obtain⟨t,rfl⟩:=rx;cases y with
  |byt j=>obtain⟨t',rfl⟩:=ry;exact W.ne_bytes (q0v I q (congrArg not z5g))
  |_=>exact absurd (show false=true from hs) Bh
 |_=>cases y<;>exact absurd (show false=true from hs) Bh
theorem op_lt:OpR X (Bw .Lt) (rI0 fun i j=>.bl (decide (i<j))):=opB0 fun _ _ _ _ _ _ _ q=>lt_int q
theorem op_le:OpR X (Bw .LtE) (rI0 fun i j=>.bl (decide (i<=j))):=opB0 fun _ _ _ _ _ _ _ q=>le_int q
theorem z9f:OpR X (Bw .Gt) (rI0 fun i j=>.bl (decide (j<i))):=opB0 fun _ _ _ _ _ _ _ q=>gt_int q
theorem op_ge:OpR X (Bw .GtE) (rI0 fun i j=>.bl (decide (j<=i))):=opB0 fun _ _ _ _ _ _ _ q=>ge_int q
theorem op_in_str:OpR X (Bw .In) (fun x y H Q=>∃i j,x=.str i/\y=.str j/\Q (.bl (!(Cn j i 0 j.length 1).isEmpty)) H):=by
 intro pins s σ H x y v u Q I rx ry h;obtain⟨i,j,rfl,rfl,q⟩:=h;obtain⟨t,rfl⟩:=rx;obtain⟨t',rfl⟩:=ry;exact in_str (q0v I q rfl)
theorem OpR.or(h:OpR X f r)(h':OpR X f r'):OpR X f (fun x y H Q=>r x y H Q\/r' x y H Q):=by
 intro pins s σ H x y v u Q I rx ry q;rcases q with q|q
 ·exact h pins s σ H x y v u Q I rx ry q
 ·exact h' pins s σ H x y v u Q I rx ry q
theorem nomark(b:Expr)(h:op≠.In:=by decide)(h2:op≠.NotIn:=by decide):Fl op b=false:=by
 have e1:(op==CmpOp.In)=false:=by grind
 have e2:(op==CmpOp.NotIn)=false:=by grind
 cases b<;>simp[Fl,e1,e2]
theorem q2t{op:CmpOp}{r:R2}(ho:OpR X (Bw op) r)(ha:PE X a ta)(hb:PE X b tb)(hm:Fl op b=false):PE X (.Compare a [op] [b] pos) (tOp r ta tb):=by
 intro pins s σ H Q I h;exact wpAny_Compare1 (binT ha hb I h fun v u s2 x y H2 I2 rx ry q=>ho pins s2 σ H2 x y v u Q I2 rx ry q) hm
def tTest(t:TE):TT:=fun σ H Q=>t σ H fun x H'=>∃k,x=.bl k/\Q k H'
theorem q0s{op:CmpOp}{r:R2}(ho:OpR X (Bw op) r)(ha:PE X a ta)(hb:PE X b tb)(hm:Fl op b=false):PT X (.Compare a [op] [b] pos) (tTest (tOp r ta tb)):=by
 intro pins s σ H Q I h;refine Oi (thn (ha pins s σ H _ I h) fun v s1 ⟨x,H1,I1,r1,q1⟩=>thn (hb pins s1 σ H1 _ I1 q1) fun u s2 ⟨y,H2,I2,r2,q2⟩ =>
  thn (ho pins s2 σ H2 x y v u _ I2 r1 r2 q2) fun c s3 ⟨z,H3,I3,r3,k,e,q3⟩=>?_) hm
 subst e;cases r3;exact Du ⟨H3,I3,q3⟩
def TruV(K:Ag)(x:V)(H:Hp)(k:Bool):Prop :=
 match x with
 |.non=>k=false
 |.bl b=>k=b
 |.int i=>k=(i != 0)
 |.str y=>y.length<=sizeLine/\k=((y.length:Int) != 0)
 |.byt y=>y.size<=sizeLine/\k=((y.size:Int) != 0)
 |.ref p=>(∃xs,SqL K H p xs/\k = !xs.isEmpty)\/(∃xs,SqT K H p xs/\k = !xs.isEmpty)\/∃kvs,H p=some (.dK kvs)/\k = !kvs.isEmpty
 |_=>False
theorem z3y{kvs:List (κ×V)}{vs:List (κ×Value)}(r:KV kvs vs):(!vs.isEmpty) = !kvs.isEmpty:=by
 cases r<;>rfl
theorem q7p(r:Vals xs its):(!its.toArray.isEmpty) = !xs.isEmpty:=by
 cases r<;>simp
theorem line63:(sizeLine:Nat)<2^63:=by rw[Eg];decide
theorem tru_ok:TruR X (fun x H Q=>∃k,TruV X.K x H k/\Q k H):=by
 intro pins s σ H x v Q I rx h;obtain⟨k,e,q⟩:=h;have hs:=Eg;cases x with
 |non =>
  cases rx;have e':=e;subst e';exact truthy_none ⟨H,I,q⟩
 |bl b =>
  cases rx;have e':=e;subst e';exact Du ⟨H,I,q⟩
 |int i =>
  obtain⟨t,rfl⟩:=rx;have e':=e;subst e';exact PySem.P.truthy_int ⟨H,I,q⟩
 |str y =>
  obtain⟨t,rfl⟩:=rx;obtain⟨hy,e'⟩:y.length<=sizeLine/\k=((y.length:Int) != 0):=e;subst e';exact PySem.P.truthy_str (by lia) ⟨H,I.tok _,q⟩
 |byt y =>
  obtain⟨t,rfl⟩:=rx;obtain⟨hy,e'⟩:y.size<=sizeLine/\k=((y.size:Int) != 0):=e;subst e';exact W.truthy_bytes (by lia) ⟨H,I.tok _,q⟩
 |ref p =>
  cases rx;have e':=e;rcases e' with⟨xs,hx,e'⟩|⟨xs,hx,e'⟩|⟨kvs,hx,e'⟩
  ·subst e';obtain⟨its,r,pl,hz⟩:=I.list hx;have hlen:=r.length;exact wpAny_truthy_list pl.isList (by simp only[Av];lia) ⟨H,I.tok _,by rw[q7p r];exact q⟩
  ·subst e';obtain⟨its,r,pl,hz⟩:=I.tuple hx;have hlen:=r.length;exact truthy_tuple pl (by simp only[Av];lia) ⟨H,I.tok _,by rw[q7p r];exact q⟩
  ·subst e';obtain⟨hz,hS,vs,r,m⟩:kvs.length<=sizeLine/\(p==Eh)=false/\∃vs,KV kvs vs/\s.heap.DictOf (mixKind X.prog X.w) p vs:=I.hok p _ hx;have hlen:=Fj r;exact wpAny_truthy_dict hS m (by lia) ⟨H,I.tok _,by rw[z3y r];exact q⟩
 |_=>exact(show False from e).elim
theorem z9g(ha:PE X a ta)(he:∀whole,isTrue a X.env whole=(do let v<-whole;Mr a.pos;Kk [v] (truthy v))):
  PT X a (fun σ H Q=>ta σ H fun x H'=>∃k,TruV X.K x H' k/\Q k H'):=by
 intro pins s σ H Q I h;exact isTrue_plain (thn (ha pins s σ H _ I h) fun v s1 ⟨x,H1,I1,r1,q1⟩=>tru_ok pins s1 σ H1 x v Q I1 r1 q1) (he _)
theorem op_add_str:OpR X (Ej .Add) (fun x y H Q=>∃i j,x=.str i/\y=.str j/\i.length+j.length<=sizeLine/\Q (.str (i++j)) H):=by
 intro pins s σ H x y v u Q I rx ry h;obtain⟨i,j,rfl,rfl,hz,q⟩:=h;obtain⟨t,rfl⟩:=rx;obtain⟨t',rfl⟩:=ry;exact add_str (fun t' tk=>⟨.str (i++j),H,I.tok _,⟨_,rfl⟩,q⟩) hz
theorem vals1(r:Vals [x] us):∃u,us=[u]/\RelV x u:=by
 cases r with
 |cons r1 r2=>cases r2;exact⟨_,rfl,r1⟩
theorem vals2(r:Vals [x,y] us):∃u w',us=[u,w']/\RelV x u/\RelV y w':=by
 cases r with
 |cons r1 r2 =>
  cases r2 with
  |cons r3 r4=>cases r4;exact⟨_,_,rfl,r1,r3⟩
theorem q9f(hc:X.calm=true):CallR X (.builtin "max") (fun xs H Q=>∃i j,xs=[.int i,.int j]/\Q (.int (if j>i then j else i)) H):=by
 intro pins s σ H xs us Q I r h;obtain⟨i,j,rfl,q⟩:=h;obtain⟨u,w',rfl,⟨t,rfl⟩,⟨t',rfl⟩⟩:=vals2 r;refine max_two_ints (I.ok.hd hc) fun h' tk k=>⟨_,H,I.kept k,?_,q⟩
 by_cases hj:j>i
 ·rw[if_pos hj,if_pos hj];exact⟨_,rfl⟩
 ·rw[if_neg hj,if_neg hj];exact⟨_,rfl⟩
theorem q6c(hc:X.calm=true):CallR X (.builtin "min") (fun xs H Q=>∃i j,xs=[.int i,.int j]/\Q (.int (if j<i then j else i)) H):=by
 intro pins s σ H xs us Q I r h;obtain⟨i,j,rfl,q⟩:=h;obtain⟨u,w',rfl,⟨t,rfl⟩,⟨t',rfl⟩⟩:=vals2 r;refine min_two_ints (I.ok.hd hc) fun h' tk k=>⟨_,H,I.kept k,?_,q⟩
 by_cases hj:j<i
 ·rw[if_pos hj,if_pos hj];exact⟨_,rfl⟩
 ·rw[if_neg hj,if_neg hj];exact⟨_,rfl⟩
theorem call_int1:CallR X (.type "int") (fun xs H Q=>(∃i,xs=[.int i]/\Q (.int i) H)\/∃k,xs=[.bl k]/\Q (.int (if k then 1 else 0)) H):=by
 intro pins s σ H xs us Q I r h;rcases h with⟨i,rfl,q⟩|⟨k,rfl,q⟩
 ·obtain⟨u,rfl,t,rfl⟩:=vals1 r;exact call_int_int ⟨.int i,H,I,⟨_,rfl⟩,q⟩
 ·obtain⟨u,rfl,r1⟩:=vals1 r;cases r1;exact call_int_bool ⟨.int (if k then 1 else 0),H,I.tok _,⟨_,rfl⟩,q⟩
def LenV(K:Ag)(x:V)(H:Hp)(n:Nat):Prop :=
 match x with
 |.str y=>y.length<=sizeLine/\n=y.length
 |.byt y=>y.size<=sizeLine/\n=y.size
 |.ref p=>(∃xs,SqL K H p xs/\n=xs.length)\/∃xs,SqT K H p xs/\n=xs.length
 |_=>False
theorem z9h:CallR X (.builtin "len") (fun xs H Q=>∃x n,xs=[x]/\LenV X.K x H n/\Q (.int n) H):=by
 intro pins s σ H xs us Q I r h;obtain⟨x,n,rfl,e,q⟩:=h;obtain⟨u,rfl,rx⟩:=vals1 r;have hs:=Eg;cases x with
 |str y =>
  obtain⟨t,rfl⟩:=rx;obtain⟨hy,e'⟩:y.length<=sizeLine/\n=y.length:=e;subst e';exact len_str (by lia) ⟨.int _,H,I.tok _,⟨_,rfl⟩,q⟩
 |byt y =>
  obtain⟨t,rfl⟩:=rx;obtain⟨hy,e'⟩:y.size<=sizeLine/\n=y.size:=e;subst e';exact W.len_bytes (by lia) ⟨.int _,H,I.tok _,⟨_,rfl⟩,q⟩
 |ref p =>
  cases rx;have e':=e;rcases e' with⟨xs,hx,e'⟩|⟨xs,hx,e'⟩
  ·subst e';obtain⟨its,r',pl,hz⟩:=I.list hx;have hlen:=r'.length;exact Calls.call_len_list pl.isList (by simp only[Av];lia) ⟨.int xs.length,H,I.tok _,⟨_,by simp only[Av];rw[hlen]⟩,q⟩
  ·subst e';obtain⟨its,r',pl,hz⟩:=I.tuple hx;have hlen:=r'.length;exact len_tuple pl (by simp only[Av];lia) ⟨.int xs.length,H,I.tok _,⟨_,by simp only[Av];rw[hlen]⟩,q⟩
 |_=>exact(show False from e).elim
end
open PySem PySem.Spec PyProof.Rows
structure ObjM (h:Heap) (x dx C:Addr) (mA:Str->Option Value):Prop where
 obj:h.get? x=some (Im C dx)
 ns:h.Ns1 dx mA
 ne:dx≠x
theorem z5h{h:Heap}(n:h.Ns1 dx mA):∃od,h.get? dx=some od/\∀name,Rq name od=some (mA name):=by
 obtain⟨o,es,ep,ho,hd,hk,_,hm⟩:=n;refine⟨o,ho,fun name=>?_⟩;have e:=hm name;unfold nsFind findBy at e;rw[<- Array.find?_toList] at e;unfold Rq;rw[hd];dsimp only;split
 ·grind
 ·rename_i q;rw[q] at e;have a:es.toList.any (·.refKey)=false:=by
   rw[List.any_eq_false];intro y hy;obtain⟨z,t,hkey⟩:=hk y (Array.mem_toList_iff.mp hy);simp[Lq.refKey,hkey]
  have a':¬es.toList.any (·.refKey)=true:=by grind
  rw[if_neg a'];exact congrArg some e
theorem ObjM.look(I:ObjM h x dx C mA):∃od,W.InstAt h x (Im C dx) C (some od)/\∀name,Rq name od=some (mA name) :=
 let ⟨od,ho,hl⟩:=z5h I.ns
 ⟨od,⟨I.obj,rfl,rfl,ho⟩,hl⟩
section
variable{prog:Program}{w:World}{A:Around}{E:Value->Ae->Prop}{s:Ae}{K:Ag}{x dx C f:Addr}{mA:Str->Option Value}{name:Str}{v:Value}
theorem x2p(X:K.In s.heap)(I:ObjM s.heap x dx C mA)(hg:Kr K C name=true)(hh:Lm K C=true)(ha:Cv K (.ref C) name=some none)(hv:mA name=some v)(hv':W.handedIn v=true)(h:Q v { s with toks:=s.toks+1 }):
  wpAny (model prog w) A (getAttr (.ref x) name expr) Q E s:=by
 obtain⟨od,J,hl⟩:=I.look;exact W.get_value X J (Pn hg).1 (W.findObj_own hh ha rfl (by rw[hl,hv])) hv' h
theorem z9i(X:K.In s.heap)(I:ObjM s.heap x dx C mA)(hg:Kr K C name=true)(hf:Cv K (.ref C) name=some (some (.ref f)))(ht:Qg K (.ref f)=true)(hv:mA name=none)(h:Q (.ref f,[.ref x]) s):
  wpAny (model prog w) A (Lr (.ref x) name pl) Q E s:=by
 obtain⟨od,J,hl⟩:=I.look;exact W.method_fn X J (Pn hg).1 (Pn hg).2 hf (beq_iff_eq.mp ht) (by show(Rq name od).map (·.isSome)=some false;rw[hl,hv];rfl) h
theorem x2q(X:K.In s.heap)(I:ObjM s.heap x dx C mA)(hs:Cv K (.ref C) "__setattr__" = some (some (.builtin "object.__setattr__")))(hp:Nu K C=true)(ht:Sz K C name=some none)(hh:Lm K C=true)(hw:Mt mA ns)(hsz:ns.length<=sizeLine)(h:∀h',ObjM h' x dx C (fun y=>if y=name then some v else mA y)->Ei dx s.heap h'->Q () { s with heap:=h',toks:=s.toks+2 }):
  wpAny (model prog w) A (setAttr (.ref x) name v) Q E s:=by
 obtain⟨od,J,hl⟩:=I.look;refine W.set_plain X J hs (W.osa_open X J hp ht fun b=>?_);obtain⟨cd,hc,hd'⟩:=W.any_some hh;have hx:=I.obj;refine Ab (Ac (Ab (Ab (wpAny_loadPart hx (Ab (W.Looks.here (W.looks_clsIn X hc) ?_))))));rw[hd'];refine Ac (Ab (Ac (Ab ?_)));refine wpAny_nsSet1 I.ns fun h' hn2 hs2=>?_
 obtain⟨oD,esD,epD,hoD,hdD,hcD⟩:=hn2.count (Mt.cons name v hw);refine Ab (wpAny_lookBehind hoD (by rw[hdD];exact pastItsLine_dict (Cq hcD (by rw[Bf];lia))) ?_);exact Ac (h _ ⟨(hs2.2 _ (Dd I.ne)).trans I.obj,hn2,I.ne⟩ hs2)
theorem z9j(X:K.In s.heap)(hm:Qh K C=true)(hi:Cv K (.ref C) "__init__" = some (some (.ref f)))(hf:W.typeIn K (.ref f)=some (.type "function"))(h:Fz (model prog w) (A.under (.builtin "type.__call__" ⟨.ref C::vs,kw⟩)) (.call (.ref f) ⟨.ref (s.heap.objs.size+1)::vs,kw⟩) (W.InitBack (s.heap.objs.size+1) R)
   { s with heap:=(s.heap.push Fv).push (Im C s.heap.objs.size) }):
  Fz (model prog w) A (.call (.ref C) ⟨vs,kw⟩) R s:=by
 exact W.make_core (W.makes_of X hm) (W.looks_findIn X hi) (fun self=>W.bind_fn X self hf) (.inl rfl) h
end
def putF(f:Str)(v:V):List (Str×V)->List (Str×V)
 |[]=>[(f,v)]
 |(g,x)::r=>if g=f then(g,v)::r else(g,x)::putF f v r
theorem q6d(f g:Str)(v:V):∀fs:List (Str×V),(putF f v fs).lookup g=if g=f then some v else fs.lookup g
 |[]=>by
  show List.lookup g [(f,v)]=_;by_cases h:g=f
  ·have hb:(g==f)=true:=beq_iff_eq.mpr h;simp only[List.lookup,hb,if_pos h]
  ·simp_all
 |(k,x)::r=>by
  have ih:=q6d f g v r;rw[show putF f v ((k,x)::r)=(if k=f then(k,v)::r else(k,x)::putF f v r) from rfl];by_cases hk:k=f
  ·rw[if_pos hk];by_cases h:g=k
   ·simp_all
   ·have hb:(g==k)=false:=beq_eq_false_iff_ne.mpr h;simp only[List.lookup,hb,if_neg (fun e:g=f=>h (e.trans hk.symm))]
  ·rw[if_neg hk];by_cases h:g=k
   ·simp_all
   ·have hb:(g==k)=false:=beq_eq_false_iff_ne.mpr h;simp only[List.lookup,hb];exact ih
theorem q6e(f:Str)(v:V):∀fs:List (Str×V),f∈(putF f v fs).map (·.1)/\∀g,g∈fs.map (·.1)->g∈(putF f v fs).map (·.1)
 |[]=>⟨by simp[putF],fun g h=>by simp at h⟩
 |(k,x)::r=>by
  obtain⟨i1,i2⟩:=q6e f v r;rw[show putF f v ((k,x)::r)=(if k=f then(k,v)::r else(k,x)::putF f v r) from rfl];by_cases hk:k=f
  ·grind
  ·grind
theorem q6f(f:Str)(v:V):∀fs:List (Str×V),(putF f v fs).length<=fs.length+1
 |[]=>by simp[putF]
 |(k,x)::r=>by
  have ih:=q6f f v r;rw[show putF f v ((k,x)::r)=(if k=f then(k,v)::r else(k,x)::putF f v r) from rfl];by_cases hk:k=f
  ·grind
  ·grind
theorem RelO.some_of(r:RelO (some v) o):∃u,o=some u/\RelV v u:=by
 cases o with
 |none=>exact(show False from r).elim
 |some u=>exact⟨u,rfl,r⟩
theorem RelO.none_of(r:RelO none o):o=none:=by
 cases o with
 |none=>rfl
 |some u=>exact(show False from r).elim
theorem z5i(r:RelV v u):W.handedIn u=true:=by
 cases v with
 |non=>cases(show u=Value.none from r);rfl
 |bl b=>cases(show u=Value.bool b from r);rfl
 |int i=>obtain⟨t,e⟩:=(show ∃t,u=Value.int i t from r);cases e;rfl
 |str x=>obtain⟨t,e⟩:=(show ∃t,u=Value.str x t from r);cases e;rfl
 |byt b=>obtain⟨t,e⟩:=(show ∃t,u=Value.bytes b t from r);cases e;rfl
 |flt b=>obtain⟨t,e⟩:=(show ∃t,u=Value.float b t from r);cases e;rfl
 |ref a=>cases(show u=Value.ref a from r);rfl
 |ty n=>cases(show u=Value.type n from r);rfl
section
variable{P:Program}{w:World}{H H':Hp}{h h':Heap}{a C dx:Addr}{fs fs':List (Str×V)}
theorem q8i(hok:HOk P w H h)(e:H a=some (.ins C dx fs)):∃mA,ObjM h a dx C mA/\(∀f,RelO (fs.lookup f) (mA f))/\Mt mA (fs.map (·.1))/\fs.length<=1000/\H dx=some (.own a):=by
 obtain⟨d,z,ne,ob,mA,n,r,q⟩:=(show ObjOk P w H h a (.ins C dx fs) from hok a _ e)
 exact⟨mA,⟨ob,n,ne⟩,r,q,z,d⟩
end
structure Cls (K:Ag) (C:Addr):Prop where
 pg:Kr K C Fw=true
 hd:Lm K C=true
 po:Nu K C=true
 sa:Cv K (.ref C) "__setattr__" = some (some (.builtin "object.__setattr__"))
theorem Cls.get{K:Ag}(c:Cls K C)(f:Str):Kr K C f=true:=c.pg
def NoAttr(K:Ag)(C:Addr)(f:Str):Prop:=Cv K (.ref C) f=some none
theorem NoAttr.taker{K:Ag}(n:NoAttr K C f):Sz K C f=some none:=by
 unfold Sz;rw[show Cv K (.ref C) f=some none from n];rfl
structure Meth (K:Ag) (C:Addr) (m:Str) (f:Addr):Prop where
 at_:Cv K (.ref C) m=some (some (.ref f))
 fn:Qg K (.ref f)=true
 kp:Fn K (.ref f)=true
section
variable{X:Cx}{pins:List (Addr×Obj)}{σ:St}{H:Hp}{s:Ae}{a C dx:Addr}{fs:List (Str×V)}{f:Str}{v:V}{A:Around}{E:Value->Ae->Prop}
theorem q7q(I:Inv X pins σ H s)(e:H a=some (.ins C dx fs))(c:Cls X.K C)(n:NoAttr X.K C f)(l:fs.lookup f=some v)(h:∀u s',Inv X pins σ H s'->RelV v u->Q u s'):wpAny (model X.prog X.w) A (getAttr (.ref a) f b) Q E s:=by
 obtain⟨mA,O,r,_,_,_⟩:=q8i I.hok e;obtain⟨u,hu,ru⟩:=RelO.some_of (by rw[<- l];exact r f);exact x2p I.kIn O (c.get f) c.hd n hu (z5i ru) (h u _ (I.tok _) ru)
theorem q7r(I:Inv X pins σ H s)(e:H a=some (.ins C dx fs))(c:Cls X.K C)(k:Meth X.K C m g)(l:fs.lookup m=none)(h:Q (.ref g,[.ref a]) s):wpAny (model X.prog X.w) A (Lr (.ref a) m pl) Q E s:=by
 obtain⟨mA,O,r,_,_,_⟩:=q8i I.hok e;have hn:=RelO.none_of (by rw[<- l];exact r m);exact z9i I.kIn O (c.get m) k.at_ k.fn hn h
theorem q7s(I:Inv X pins σ H s)(e:H a=some (.ins C dx fs))(c:Cls X.K C)(n:NoAttr X.K C f)(hl:fs.length<1000)(ry:RelV y u)(h:∀s',Inv X pins σ (upd H a (.ins C dx (putF f y fs))) s'->Q () s'):wpAny (model X.prog X.w) A (setAttr (.ref a) f u) Q E s:=by
 obtain⟨mA,O,r,wi,_,ho⟩:=q8i I.hok e;have hz:(fs.map (·.1)).length<=sizeLine:=by rw[Aa,Eg];lia
 refine x2q I.kIn O c.sa c.po n.taker c.hd wi hz fun h' O' sb=>h _ ?_;have hd:∃o,h'.get? dx=some o:=let ⟨o,_,_,e',_⟩:=O'.ns;⟨o,e'⟩;refine I.write (by rw[e];exact True.intro) (.inr ho) (fun b q hb z=>(sb.2 b hb).trans z) hd ?_;refine⟨by rw[q0e O.ne];exact ho,?_,O.ne,O'.obj,_,O'.ns,fun g=>?_,fun g hg=>?_⟩
 ·have:=q6f f y fs;lia
 ·show RelO ((putF f y fs).lookup g) (if g=f then some u else mA g);rw[q6d];by_cases q:g=f
  ·rw[if_pos q,if_pos q];exact ry
  ·grind
 ·by_cases q:g=f
  ·rw[q];exact(q6e f y fs).1
  ·refine(q6e f y fs).2 g (wi g fun z=>hg ?_);show(if g=f then some u else mA g)=none;rw[if_neg q];exact z
theorem Inv.made(I:Inv X pins σ H s):Inv X pins σ (upd (upd H s.heap.objs.size (.own (s.heap.objs.size+1))) (s.heap.objs.size+1) (.ins C s.heap.objs.size []))
  { s with heap:=(s.heap.push Fv).push (Im C s.heap.objs.size) }:=by
 have e1:(s.heap.push Fv).get? s.heap.objs.size=some Fv:=Ar s.heap rfl;have e2:((s.heap.push Fv).push (Im C s.heap.objs.size)).get? (s.heap.objs.size+1)=some (Im C s.heap.objs.size):=by
  have:=Ar (s.heap.push Fv) (o:=Im C s.heap.objs.size) rfl
  rwa [Ga] at this
 have e3:(s.heap.push Fv).Ns s.heap.objs.size (fun _=>none):=⟨Fv,#[],_,e1,rfl,(fun e he=>absurd he (by simp)),fun _=>rfl⟩
 have I1:=I.laid (o:=.own (s.heap.objs.size+1)) (h':=s.heap.push Fv) (t':=s.toks) (fun b u q=>Ai _ q) (Ak _) ⟨_,e1⟩;refine I1.laid (t':=s.toks) (fun b u q=>Ai _ q) (Io (Ga _ _)) ?_;have ne:s.heap.objs.size≠s.heap.objs.size+1:=Bg (Gf _);refine⟨by rw[q0e ne,q0b],Br _,ne,e2,fun _=>none,(Heap.Ns1.of_empty e3).at fun o q=>Ai _ q,fun _=>True.intro,fun y hy=>absurd rfl hy⟩
theorem x2r(hb:Gm e f env (eval e env)=eval e env)(h:wpAny (model prog w) A (eval e env) (fun o s₁=>wpAny (model prog w) A (getAttr o f true) Q E s₁) E s):wpAny (model prog w) A (eval (.Attribute e f pos) env) Q E s :=
 Attribute_any_ h (by rw[arm_eval_Attribute,hb])
end
def tFld(K:Ag)(ta:TE)(f:Str):TE:=fun σ H Q=>ta σ H fun x H1=>∃a C dx fs v,x=.ref a/\H1 a=some (.ins C dx fs)/\Cls K C/\NoAttr K C f/\fs.lookup f=some v/\Q v H1
def sFld(K:Ag)(ta tv:TE)(f:Str):TS:=fun D σ H=>tv σ H fun y H1=>ta σ H1 fun x H2=>∃a C dx fs,x=.ref a/\H2 a=some (.ins C dx fs)/\Cls K C/\NoAttr K C f/\fs.length<1000 /\
 D.nx σ (upd H2 a (.ins C dx (putF f y fs)))
def InOp(X:Cx)(op:Operator)(rd:V->V->Hp->VK->Prop):Prop :=
 ∀(pins:List (Addr×Obj)) (s:Ae) (σ:St) (H:Hp) (x y:V) (u v:Value) (Q:VK),Inv X pins σ H s->RelV x u->RelV y v->rd x y H Q->wpAny (model X.prog X.w) X.A (inplaceOp op u v) (EP X pins σ Q) X.xe s
def sFldAug(K:Ag)(ta tv:TE)(rd:V->V->Hp->VK->Prop)(f:Str):TS:=fun D σ H=>ta σ H fun x H1=>∃a C dx fs v,x=.ref a/\H1 a=some (.ins C dx fs)/\Cls K C/\NoAttr K C f/\fs.lookup f=some v /\
 tv σ H1 fun y H2=>rd v y H2 fun z H3=>∃dx' fs',H3 a=some (.ins C dx' fs')/\fs'.length<1000/\D.nx σ (upd H3 a (.ins C dx' (putF f z fs')))
section
variable{X:Cx}{o e value:Expr}{f:Str}{pos pos' tpos:Pos}{ta tv:TE}
theorem pe_fld(he:PE X e ta)(hb:Gm e f X.env (eval e X.env)=eval e X.env):PE X (.Attribute e f pos) (tFld X.K ta f):=by
 intro pins s σ H Q I h;refine x2r hb (thn (he pins s σ H _ I h) fun u s1 ⟨x,H1,I1,rx,a,C,dx,fs,v,ex,ea,c,n,l,q⟩=>?_);subst ex;obtain rfl:u=Value.ref a:=rx;exact q7q I1 ea c n l fun u' s2 I2 ru=>⟨v,H1,I2,ru,q⟩
theorem ps_fld(ha:PE X o ta)(hv:PE X value tv)(hs:Kj value (some (.Attribute o f pos')) pos.line X.env=pure false):PS X (.Assign [.Attribute o f pos'] value pos) (sFld X.K ta tv f):=by
 intro pins s σ H D I h;refine plainObj_wpAny_Assign_Attribute (thn (hv pins s σ H _ I h) fun u s1 ⟨y,H1,I1,ry,q⟩=>thn (ha pins s1 σ H1 _ I1 q) fun ov s2 ⟨x,H2,I2,rx,a,C,dx,fs,ex,ea,c,n,l,q2⟩=>?_) hs;subst ex;obtain rfl:ov=Value.ref a:=rx;exact q7s I2 ea c n l ry fun s3 I3=>⟨σ,_,I3,q2⟩
theorem z5j(ha:PE X o ta)(hv:PE X value tv)(hop:InOp X op rd):PS X (.AugAssign (.Attribute o f tpos) op value pos) (sFldAug X.K ta tv rd f):=by
 intro pins s σ H D I h;refine wpAny_AugAssign_AttributeAny (thn (ha pins s σ H _ I h) fun ov s1 ⟨x,H1,I1,rx,a,C,dx,fs,v,ex,ea,c,n,l,q⟩=>?_);subst ex;obtain rfl:ov=Value.ref a:=rx;refine q7q I1 ea c n l fun u s2 I2 ru=>thn (hv pins s2 σ H1 _ I2 q) fun w3 s3 ⟨y,H2,I3,ry,q3⟩=>thn (hop pins s3 σ H2 v y u w3 _ I3 ru ry q3) fun w4 s4 ⟨z,H3,I4,rz,dx',fs',ea',l',q4⟩=>?_;exact q7s I4 ea' c n l' rz fun s5 I5=>⟨σ,_,I5,q4⟩
def rAdd:V->V->Hp->VK->Prop:=fun x y H Q=>∃i j,x=.int i/\y=.int j/\Q (.int (i+j)) H
theorem in_add:InOp X .Add rAdd:=by
 rintro pins s σ H x y u v Q I rx ry ⟨i,j,rfl,rfl,q⟩;obtain⟨t,rfl⟩:=(show ∃t,u=Value.int i t from rx)
 obtain⟨t',rfl⟩:=(show ∃t',v=Value.int j t' from ry)
 exact PyProof.Rows.iadd_int ⟨.int (i+j),H,I.tok _,⟨_,rfl⟩,q⟩
end
section
variable{X:Cx}{pins:List (Addr×Obj)}{σ:St}{H:Hp}{s:Ae}{A:Around}{E:Value->Ae->Prop}{Q:Value->Ae->Prop}{c:Value}{b:Bool}
inductive TyOf (K:Ag) (H:Hp):V->Value->Prop where
 |non:TyOf K H .non (.type "NoneType")
 |bl (x:Bool):TyOf K H (.bl x) (.type "bool")
 |int (i:Int):TyOf K H (.int i) (.type "int")
 |str (x:Str):TyOf K H (.str x) (.type "str")
 |flt (x:UInt64):TyOf K H (.flt x) (.type "float")
 |lst {a:Addr} {xs:List V} (e:H a=some (.lst xs)):TyOf K H (.ref a) (.type "list")
 |frz {a:Addr} {o:Obj} {xs:List V} (e:H a=some (.frz o (.lst xs))):TyOf K H (.ref a) (.type "list")
 |tup {a:Addr} {xs:List V} (e:H a=some (.tup xs)):TyOf K H (.ref a) (.type "tuple")
 |dK {a:Addr} {kvs:List (Key×V)} (e:H a=some (.dK kvs)):TyOf K H (.ref a) (.type "dict")
 |dT {a:Addr} {kvs:List (List Key×V)} (e:H a=some (.dT kvs)):TyOf K H (.ref a) (.type "dict")
 |ins {a C dx:Addr} {fs:List (Str×V)} (e:H a=some (.ins C dx fs)) (cl:Cls K C) (ha:Cv K (.ref C) "__class__" = some (some (.builtin "object.__class__")))
   (hn:W.specialIn K (.builtin "object.__class__") "__get__" = some (some (.builtin "getset_descriptor.__get__"))) (htk:W.takesIn K (.builtin "object.__class__")=some true)
   (hm:W.mroIn K C (.type "object")=some true):TyOf K H (.ref a) (.ref C)
theorem z5k(I:Inv X pins σ H s)(rx:RelV x u)(ty:TyOf X.K H x t)(e:W.kitOne X.K t c=some b)(h:∀tk,Q (.bool b) { s with toks:=tk }):
  wpAny (model X.prog X.w) A (call (.builtin "isinstance") [u,c]) Q E s:=by
 cases ty with
 |non=>cases(show u=Value.none from rx);exact Fx W.kitx_none I.kIn True.intro e (fun z=>nomatch z) h
 |bl y=>cases(show u=Value.bool y from rx);exact Fx W.kitx_bool I.kIn True.intro e (fun z=>nomatch z) h
 |int i=>obtain⟨t,q⟩:=(show ∃t,u=Value.int i t from rx);cases q;exact Fx W.kitx_int I.kIn True.intro e (fun z=>nomatch z) h
 |str y=>obtain⟨t,q⟩:=(show ∃t,u=Value.str y t from rx);cases q;exact Fx W.kitx_str I.kIn True.intro e (fun z=>nomatch z) h
 |flt y=>obtain⟨t,q⟩:=(show ∃t,u=Value.float y t from rx);cases q;exact Fx W.kitx_float I.kIn True.intro e (fun z=>nomatch z) h
 | @lst a xs ea =>
  cases(show u=Value.ref a from rx);obtain⟨_,_,n,_,h1⟩:=(show ObjOk X.prog X.w H s.heap a (.lst xs) from I.hok a _ ea)
  exact Fx W.kitx_list I.kIn ⟨_,h1,rfl⟩ e (fun z=>nomatch z) h
 | @frz a ob xs ea =>
  cases(show u=Value.ref a from rx);obtain⟨_,_,_,n,_,h1⟩:=(show ObjOk X.prog X.w H s.heap a (.frz ob (.lst xs)) from I.hok a _ ea)
  exact Fx W.kitx_list I.kIn ⟨_,h1,rfl⟩ e (fun z=>nomatch z) h
 | @tup a xs ea =>
  cases(show u=Value.ref a from rx);obtain⟨_,_,_,p⟩:=(show ObjOk X.prog X.w H s.heap a (.tup xs) from I.hok a _ ea)
  obtain⟨o,h1,h2,_⟩:=p;exact Fx W.kitx_tuple I.kIn ⟨o,h1,h2⟩ e (fun z=>nomatch z) h
 | @dK a kvs ea =>
  cases(show u=Value.ref a from rx);obtain⟨_,_,vs,_,p⟩:=(show ObjOk X.prog X.w H s.heap a (.dK kvs) from I.hok a _ ea)
  obtain⟨o,es,ep,h1,h2,_⟩:=p;exact Fx W.kitx_dict I.kIn ⟨o,h1,h2.1⟩ e (fun z=>nomatch z) h
 | @dT a kvs ea =>
  cases(show u=Value.ref a from rx);obtain⟨_,_,xs,_,o,es,ep,h1,h2,_⟩:=(show ObjOk X.prog X.w H s.heap a (.dT kvs) from I.hok a _ ea)
  exact Fx W.kitx_dict I.kIn ⟨o,h1,h2.1⟩ e (fun z=>nomatch z) h
 | @ins a C dx fs ea cl ha hn htk hm =>
  cases(show u=Value.ref a from rx);obtain⟨mA,O,_⟩:=q8i I.hok ea;obtain⟨od,J,_⟩:=O.look;exact Fx (W.kitx_own (cl.get _) cl.hd ha hn htk hm) I.kIn J e (fun z=>nomatch z) h
end
open PySem PySem.Spec PyProof.Rows
structure Room (k:Nat) (A:Around):Prop where
 hd:A.handled=none
 dp:A.depth+3*k+5<recursionLimit
 un:A.units+16*k+200<cLine
 gd:A.guards=some []
theorem Room.mono(r:Room k A)(h:j<=k):Room j A:=⟨r.hd,by have:=r.dp;lia,by have:=r.un;lia,r.gd⟩
theorem Room.deeper(r:Room (k+1) A)(env:Env):Room k (A.deeper env) :=
 ⟨r.hd,by have:=r.dp;show A.depth+1+3*k+5<_;lia,by have:=r.un;show A.units+3+16*k+200<_;lia,r.gd⟩
theorem Room.in1(r:Room (k+1) A):Room k A.in1 :=
 ⟨r.hd,by have:=r.dp;show A.depth+3*k+5<_;lia,by have:=r.un;show A.units+1+16*k+200<_;lia,r.gd⟩
theorem z3z{A:Around}:(A.under (.builtin "type.__call__" ⟨.ref C::us,kw⟩)).depth=A.depth+1:=by
 first|rfl|simp[Mx,Code.weight,Code.isCreation,Code.isGuard,Code.isCaller,Code.frames,Qi,guardIds]
theorem z4a{A:Around}:(A.under (.builtin "type.__call__" ⟨.ref C::us,kw⟩)).units=A.units+1:=by
 first|rfl|simp[Mx,Code.cUnits,Code.frames,Qi]
theorem make_guards{A:Around}:(A.under (.builtin "type.__call__" ⟨.ref C::us,kw⟩)).guards=A.guards:=by
 have:(Code.builtin "type.__call__" ⟨.ref C::us,kw⟩).guards=[]:=by simp[Code.guards,Code.isGuard,guardIds]
 unfold Mx;rw[this];cases e:A.guards<;>simp[pushGuards,e]
theorem Room.make(r:Room (k+1) A)(C:Addr)(us:List Value)(kw:List (Str×Value)):Room k (A.under (.builtin "type.__call__" ⟨.ref C::us,kw⟩)) :=
 ⟨r.hd,by have:=r.dp;rw[z3z];lia,by have:=r.un;rw[z4a];lia,make_guards.trans r.gd⟩
theorem Room.depth(r:Room k A):A.depth<recursionLimit:=by have:=r.dp;lia
theorem Room.units(r:Room k A):A.units+64<cLine:=by have:=r.un;lia
def tNil:TA:=fun _ H Q=>Q [] H
def tCons(ta:TE)(tr:TA):TA:=fun σ H Q=>ta σ H fun x H1=>tr σ H1 fun xs H2=>Q (x::xs) H2
section
variable{X:Cx}{e:Expr}{es:List Expr}{te:TE}{t:TA}{pos:Pos}
theorem q0d:PA X [] tNil:=fun _ _ _ _ H Q I h=>Calls.spliced_nil ⟨[],H,I,.nil,h⟩
theorem q0a(ha:PE X e te)(hr:PA X es t)(hs:Bi (e::es) X.env=(false,eval e X.env)::Bi es X.env:=by rfl):PA X (e::es) (tCons te t):=by
 intro pos pins s σ H Q I h;rw[hs];refine Calls.spliced_cons (thn (ha pins s σ H _ I h) fun u s1 ⟨x,H1,I1,r1,q1⟩=>?_);exact thn (hr pos pins s1 σ H1 _ I1 q1) fun us s2 ⟨xs,H2,I2,r2,q2⟩=>⟨x::xs,H2,I2,.cons r1 r2,q2⟩
def tTup(t:TA):TE:=fun σ H Q=>t σ H fun xs H1=>xs.length<=sizeLine/\∀p,H1 p=none->Q (.ref p) (upd H1 p (.tup xs))
def tLst(t:TA):TE:=fun σ H Q=>t σ H fun xs H1=>xs.length<=sizeLine/\∀p,H1 p=none->Q (.ref p) (upd H1 p (.lst xs))
theorem q1z{x1}(h:PA X es t):PE X (.Tuple es x1 pos) (tTup t):=by
 intro pins s σ H Q I hq;refine wpAny_Tuple_spliced (thn (h pos pins s σ H _ I hq) fun us s1 ⟨xs,H1,I1,r,z,q⟩=>⟨by rw[<- r.length];exact z,?_⟩);have hf:=I1.hok.fresh (Ak _);refine⟨.ref s1.heap.objs.size,upd H1 s1.heap.objs.size (.tup xs),I1.laid (t':=s1.toks) (fun b u e=>Ai _ e) (Ak _) ?_,rfl,q _ hf⟩;exact⟨z,us,r,⟨_,Ar _ rfl,rfl,_,rfl⟩⟩
theorem q6g(h:PA X es t):PE X (.List es pos) (tLst t):=by
 intro pins s σ H Q I hq;refine wpAny_List_spliced (thn (h pos pins s σ H _ I hq) fun us s1 ⟨xs,H1,I1,r,z,q⟩=>⟨by rw[<- r.length];exact z,?_⟩);have hf:=I1.hok.fresh (Ak _);refine⟨.ref s1.heap.objs.size,upd H1 s1.heap.objs.size (.lst xs),I1.laid (t':=s1.toks) (fun b u e=>Ai _ e) (Ak _) ?_,rfl,q _ hf⟩;exact⟨z,us,0,r,Ar _ rfl⟩
end
abbrev Sp:=List V->Hp->VK->XK->Prop
abbrev CXT:=List Env->Hp->Ae->XK->Value->Ae->Prop
structure Env0 (P:Program) (w:World) (K:Ag) (mg:Str->Option Value) (base:Heap) (A:Around) (outer:List Env) (s:Ae) (H:Hp):Prop where
 frames:A.frames=some outer
 mod:Mod K mg base
 bs:∀b o,base.get? b=some o->s.heap.get? b=some o/\H b=none
 bsz:base.objs.size<=s.heap.objs.size
 funs:s.heap.FunFrames base outer
 frf:∀b∈frs outer,H b=none
 hok:HOk P w H s.heap
 bare:Ki s.gens
def CE(outer:List Env)(P:Program)(w:World)(H:Hp)(s:Ae)(Q:VK)(u:Value)(s':Ae):Prop :=
 ∃v H',s'.os=s.os/\Ki s'.gens/\Un (frs outer) [] H H' s.heap s'.heap/\HOk P w H' s'.heap/\RelV v u/\Q v H'
def CR(CX:CXT)(outer:List Env)(P:Program)(w:World)(H:Hp)(s:Ae)(Q:VK)(E:XK)(r:Result)(s':Ae):Prop :=
 match r with
 |.ok (.ret u)=>CE outer P w H s Q u s'
 |.ok _=>False
 |.error e=>CX outer H s E e s'
structure FnOk (P:Program) (w:World) (K:Ag) (mg:Str->Option Value) (base:Heap) (CX:CXT) (k:Nat) (f:Addr) (fd:Ip) (ps:List Str) (sp:Sp):Prop where
 len:∀vs H Q E,sp vs H Q E->vs.length=ps.length
 run:∀(A:Around) (outer:List Env) (s:Ae) (H:Hp) (args:Args) (us:List Value) (vs:List V) (Q:VK) (E:XK),Room k A->Env0 P w K mg base A outer s H->Oj s fd args (ps.zip us)->Vals vs us->sp vs H Q E ->
  Fz (model P w) A (.call (.ref f) args) (CR CX outer P w H s Q E) s
theorem FnOk.mono{K:Ag}(F:FnOk P w K mg base CX j f fd ps sp)(h:j<=k):
  FnOk P w K mg base CX k f fd ps sp:=⟨F.len,fun A outer s H args us vs Q E hr=>F.run A outer s H args us vs Q E (hr.mono h)⟩
theorem FnOk.imp{K:Ag}(F:FnOk P w K mg base CX k f fd ps sp)(h:∀vs H Q E,sp' vs H Q E->sp vs H Q E):FnOk P w K mg base CX k f fd ps sp' :=
 ⟨fun vs H Q E q=>F.len vs H Q E (h _ _ _ _ q),fun A outer s H args us vs Q E hr he hb hv hs=>F.run A outer s H args us vs Q E hr he hb hv (h _ _ _ _ hs)⟩
theorem Env0.make{K:Ag}(e:Env0 P w K mg base A outer s H)(C:Addr)(us:List Value)(kw:List (Str×Value)):
  Env0 P w K mg base (A.under (.builtin "type.__call__" ⟨.ref C::us,kw⟩)) outer s H:=⟨by first|exact e.frames|(simpa[Mx,Code.envs,Qi,pushEnvs] using e.frames),e.mod,e.bs,e.bsz,e.funs,e.frf,e.hok,e.bare⟩
theorem Env0.in1{K:Ag}(e:Env0 P w K mg base A outer s H):
  Env0 P w K mg base A.in1 outer s H:=⟨e.frames,e.mod,e.bs,e.bsz,e.funs,e.frf,e.hok,e.bare⟩
section
variable{X:Cx}{pins:List (Addr×Obj)}{σ:St}{H:Hp}{s s':Ae}
theorem Inv.env0(I:Inv X pins σ H s):Env0 X.prog X.w X.K X.mg X.base X.A X.stack s H :=
 ⟨I.ok.frames,I.ok.mod,I.bs,Cq I.ok.bsz I.sz,I.stack,I.stkFree,I.hok,I.bare⟩
theorem Inv.after(I:Inv X pins σ H s)(h:CE X.stack X.prog X.w H s Q u s'):EP X pins σ Q u s':=by
 obtain⟨v,H',os,bare,un,hok,r,q⟩:=h;obtain⟨hh,g,d,t,os'⟩:=s';obtain rfl:os'=s.os:=os;exact⟨v,H',I.call (h':=hh) (g':=g) (d':=d) (t':=t) un hok bare (fun b z=>absurd z (by simp)),r,q⟩
end
def tCall(sp:Sp)(dvs:List V)(E:XK)(t:TA):TE:=fun σ H Q=>t σ H fun vs H1=>sp (vs++dvs) H1 Q E
def tMeth(C:Addr)(m:Str)(sp:Sp)(dvs:List V)(E:XK)(ta:TE)(t:TA):TE:=fun σ H Q=>ta σ H fun x H1=>∃a dx fs,x=.ref a/\H1 a=some (.ins C dx fs)/\fs.lookup m=none /\
 t σ H1 fun vs H2=>sp (x::(vs++dvs)) H2 Q E
def tMake(C:Addr)(sp:Sp)(dvs:List V)(E:XK)(t:TA):TE:=fun σ H Q=>t σ H fun vs H1=>∀x dx,H1 x=none->H1 dx=none->dx≠x ->
 sp (.ref x::(vs++dvs)) (upd (upd H1 dx (.own x)) x (.ins C dx [])) (fun v H2=>v=.non/\Q (.ref x) H2) E
def Binds(K:Ag)(fd:Ip)(ps:List Str)(ds:List Value):Prop :=
 ∀(s:Ae) (us:List Value),K.In s.heap->(us++ds).length=ps.length->Oj s fd ⟨us,[]⟩ (ps.zip (us++ds))
theorem Binds.all{K:Ag}(h:∀us:List Value,us.length=ps.length->bindArgs fd ⟨us,[]⟩=pure (ps.zip us)):Binds K fd ps []:=fun s us _ hl=>by
 rw[Bv] at hl ⊢;exact .of_eq (h us hl)
def Passes(CX:CXT)(X:Cx)(E:XK):Prop:=∀(pins:List (Addr×Obj)) (σ:St) (H:Hp) (s:Ae) (e:Value) (s':Ae),Inv X pins σ H s->CX X.stack H s E e s'->X.xe e s'
section
variable{X:Cx}{CX:CXT}{k:Nat}{f C:Addr}{fd:Ip}{ps:List Str}{sp:Sp}{dvs:List V}{ds:List Value}{E:XK}{x m:Str}{p pos apos:Pos}{e o:Expr}{es:List Expr}{ta:TE}{t:TA}
theorem z5l{σ:St}(F:FnOk X.prog X.w X.K X.mg X.base CX k f fd ps sp)(hr:Room k X.A)(hb:Binds X.K fd ps ds)(hd:Vals dvs ds)(hx:Passes CX X E)(I:Inv X pins σ H s)(r:Vals vs us)(h:sp (vs++dvs) H Q E):wpAny (model X.prog X.w) X.A (call (.ref f) us) (EP X pins σ Q) X.xe s:=by
 have r2:=r.append hd;have hl:(us++ds).length=ps.length:=by rw[<- r2.length];exact F.len _ _ _ _ h
 refine Sj (Ha (F.run X.A X.stack s H ⟨us,[]⟩ (us++ds) (vs++dvs) Q E hr I.env0 (hb s us I.kIn hl) r2 h) fun r s' hq=>?_);cases r with
 |error e=>exact hx pins σ H s e s' I hq
 |ok fl =>
  cases fl with
  |ret u=>exact I.after hq
  |next=>exact False.elim hq
  |brk=>exact False.elim hq
  |cont=>exact False.elim hq
theorem x2s(F:FnOk X.prog X.w X.K X.mg X.base CX k f fd ps sp)(hr:Room k X.A)(hg:Gl X x)(hm:X.mg x=some (.ref f))(hk:Fn X.K (.ref f)=true)(hb:Binds X.K fd ps ds)(hd:Vals dvs ds)(hx:Passes CX X E)(ha:PA X (e::es) t)(hdb:(x==("__debug__" : Str))=false:=by decide)(he:Bi (e::es) X.env=(false,eval e X.env)::Bi es X.env:=by rfl)(hpl:(Eu pos (Bi es X.env)).any (·.1)=false:=by rfl):
  PE X (.Call (.Name x p) (e::es) [] pos) (tCall sp dvs E t):=by
 intro pins s σ H Q I h;refine Iq (z1e I hg hm ?_ hdb);refine Qj I.ok.mod.kin hk (thn (ha pos pins s σ H _ I h) fun us s1 ⟨vs,H1,I1,r,q⟩=>⟨I1.kIn,?_⟩) he hpl;exact z5l F hr hb hd hx I1 r q
theorem x2t{pl:Sem Bool}(he:PE X o ta)(c:Cls X.K C)(hm:Meth X.K C m f)(F:FnOk X.prog X.w X.K X.mg X.base CX k f fd ps sp)(hr:Room k X.A)(hb:Binds X.K fd ps ds)(hd:Vals dvs ds)(hx:Passes CX X E)(ha:PA X (e::es) t)(hst:Bi (e::es) X.env=(false,eval e X.env)::Bi es X.env:=by rfl)(hpl:(Eu pos (Bi es X.env)).any (·.1)=false:=by rfl)(ht:eval (.Call (.Attribute o m apos) (e::es) [] pos) X.env=(do
   let ov<-eval o X.env
   Mr apos.atName
   let (f,first)<-Kk [ov] (Lr ov m pl)
   Rr pos f first (Eu pos (Bi (e::es) X.env)) (My pos (Jw [] X.env))):=by rfl):
  PE X (.Call (.Attribute o m apos) (e::es) [] pos) (tMeth C m sp dvs E ta t):=by
 intro pins s σ H Q I h;refine Sk (thn (he pins s σ H _ I h) fun u s1 ⟨x,H1,I1,rx,a,dx,fs,ex,ea,l,q⟩=>?_) ht;subst ex;obtain rfl:u=Value.ref a:=rx;refine q7r I1 ea c hm l ?_;refine Qj I.ok.mod.kin hm.kp (thn (ha pos pins s1 σ H1 _ I1 q) fun us s2 ⟨vs,H2,I2,r,q2⟩=>⟨I2.kIn,?_⟩) hst hpl;exact z5l (vs:=.ref a::vs) F hr hb hd hx I2 (.cons rfl r) q2
theorem z9k(he:PE X o ta)(c:Cls X.K C)(hm:Meth X.K C m f)(F:FnOk X.prog X.w X.K X.mg X.base CX k f fd ps sp)(hr:Room k X.A)(hb:Binds X.K fd ps ds)(hd:Vals dvs ds)(hx:Passes CX X E)(ht:eval (.Call (.Attribute o m apos) [] [] pos) X.env=(do
   let ov<-eval o X.env
   Mr apos.atName
   let (f,first)<-Kk [ov] (Lr ov m pl)
   Rr pos f first (Eu pos (Bi [] X.env)) (My pos (Jw [] X.env))):=by rfl):
  PE X (.Call (.Attribute o m apos) [] [] pos) (tMeth C m sp dvs E ta tNil):=by
 intro pins s σ H Q I h;refine Sk (thn (he pins s σ H _ I h) fun u s1 ⟨x,H1,I1,rx,a,dx,fs,ex,ea,l,q⟩=>?_) ht;subst ex;obtain rfl:u=Value.ref a:=rx;refine q7r I1 ea c hm l ?_;exact W.callWith_K0 I1.kIn hm.kp (z5l (vs:=[.ref a]) F hr hb hd hx I1 (.cons rfl .nil) q)
structure Mk (K:Ag) (C f:Addr):Prop where
 makes:Qh K C=true
 init:Cv K (.ref C) "__init__" = some (some (.ref f))
 fn:Qg K (.ref f)=true
 kp:Fn K (.ref C)=true
theorem z9l{σ:St}(M:Mk X.K C f)(F:FnOk X.prog X.w X.K X.mg X.base CX k f fd ps sp)(hr:Room (k+1) X.A)(hb:Binds X.K fd ps ds)(hd:Vals dvs ds)(hx:Passes CX X E)(I:Inv X pins σ H s)(r:Vals vs us)(h:∀x dx,H x=none->H dx=none->dx≠x->sp (.ref x::(vs++dvs)) (upd (upd H dx (.own x)) x (.ins C dx [])) (fun v H2=>v=.non/\Q (.ref x) H2) E):
  wpAny (model X.prog X.w) X.A (call (.ref C) us) (EP X pins σ Q) X.xe s:=by
 have hq:=h (s.heap.objs.size+1) s.heap.objs.size (I.hok.fresh (Lo _)) (I.hok.fresh (Ak _)) (Bg (Gf _));have I2:=Inv.made (C:=C) I;have r2:Vals (V.ref (s.heap.objs.size+1)::(vs++dvs)) (Value.ref (s.heap.objs.size+1)::(us++ds)):=.cons rfl (r.append hd);have hl:(Value.ref (s.heap.objs.size+1)::us++ds).length=ps.length:=by
  have e:=r2.length;rw[F.len _ _ _ _ hq] at e;exact e.symm
 refine Sj (z9j I.kIn M.makes M.init (beq_iff_eq.mp M.fn) (Ha (F.run _ X.stack _ _ ⟨Value.ref (s.heap.objs.size+1)::us,[]⟩ (Value.ref (s.heap.objs.size+1)::(us++ds)) _ _ E (hr.make C us [])
  (I2.env0.make C us []) (hb _ (Value.ref (s.heap.objs.size+1)::us) I2.kIn hl) r2 hq) fun r s' hq'=>?_))
 cases r with
 |error e=>exact hx pins σ _ _ e s' I2 hq'
 |ok fl =>
  cases fl with
  |ret u =>
   obtain⟨v,H',I3,rv,ev,q3⟩:=I2.after hq';subst ev;exact⟨rv,⟨V.ref (s.heap.objs.size+1),H',I3,rfl,q3⟩⟩
  |next=>exact False.elim hq'
  |brk=>exact False.elim hq'
  |cont=>exact False.elim hq'
theorem z5m(M:Mk X.K C f)(F:FnOk X.prog X.w X.K X.mg X.base CX k f fd ps sp)(hr:Room (k+1) X.A)(hg:Gl X x)(hm:X.mg x=some (.ref C))(hb:Binds X.K fd ps ds)(hd:Vals dvs ds)(hx:Passes CX X E)(ha:PA X (e::es) t)(hdb:(x==("__debug__" : Str))=false:=by decide)(he:Bi (e::es) X.env=(false,eval e X.env)::Bi es X.env:=by rfl)(hpl:(Eu pos (Bi es X.env)).any (·.1)=false:=by rfl):
  PE X (.Call (.Name x p) (e::es) [] pos) (tMake C sp dvs E t):=by
 intro pins s σ H Q I h;refine Iq (z1e I hg hm ?_ hdb);refine Qj I.ok.mod.kin M.kp (thn (ha pos pins s σ H _ I h) fun us s1 ⟨vs,H1,I1,r,q⟩=>⟨I1.kIn,?_⟩) he hpl;exact z9l M F hr hb hd hx I1 r q
end
structure FnScope (N P:List Str) (sc:Scope):Prop where
 kind:sc.kind=.function
 co:sc.isCoroutine=false
 gen:sc.isGenerator=false
 nd:N.Nodup
 pre:N.take P.length=P
 par:∀x∈P,sc.names.lookup x=some .local\/sc.names.lookup x=some .cell
 nofree:∀y∈sc.names,y.2≠.free
theorem q9g{kindOf:Str->Option Bb}:∀{binds:List (Str×Value)} {m:Str->Option Value},(∀v,(x,v)∉binds)->bindL kindOf binds m x=m x
 |[],_,_=>rfl
 |(n,v)::r,m,h=>by
  unfold bindL;rw[q9g fun w hw=>h w (Ah _ hw)];split
  ·have:x≠n:=by rintro rfl;exact h v Aj
   simp[this]
  ·rfl
theorem q9h{kindOf:Str->Option Bb}:∀{binds:List (Str×Value)} {m:Str->Option Value},(∀v,(x,v)∉binds)->bindC kindOf binds m x=m x
 |[],_,_=>rfl
 |(n,v)::r,m,h=>by
  unfold bindC;rw[q9h fun w hw=>h w (Ah _ hw)];split
  ·rfl
  ·have:x≠n:=by rintro rfl;exact h v Aj
   simp[this]
theorem q9i{kindOf:Str->Option Bb}{x:Str}{v:Value}:∀{P:List Str} {vs:List Value} {i:Nat} {m:Str->Option Value},P.Nodup->P[i]?=some x->vs[i]?=some v->kindOf x=some .local ->
  bindL kindOf (P.zip vs) m x=some v
 |[],_,_,_,_,h,_,_=>by simp at h
 |_::_,[],_,_,_,_,h,_=>by simp at h
 |p::P,w::vs,0,m,nd,h1,h2,hk=>by
  simp at h1 h2;subst h1;subst h2;show bindL kindOf ((p,w)::P.zip vs) m p=_;unfold bindL;rw[q9g fun v hv=>(Cg.mp nd).1 (Nn hv).1,if_pos hk];simp
 |p::P,w::vs,i+1,m,nd,h1,h2,hk=>by
  show bindL kindOf ((p,w)::P.zip vs) m x=_;unfold bindL;exact q9i (i:=i) (Cg.mp nd).2 (by simpa using h1) (by simpa using h2) hk
theorem q9j{kindOf:Str->Option Bb}{x:Str}{v:Value}:∀{P:List Str} {vs:List Value} {i:Nat} {m:Str->Option Value},P.Nodup->P[i]?=some x->vs[i]?=some v->kindOf x≠some .local ->
  bindC kindOf (P.zip vs) m x=some v
 |[],_,_,_,_,h,_,_=>by simp at h
 |_::_,[],_,_,_,_,h,_=>by simp at h
 |p::P,w::vs,0,m,nd,h1,h2,hk=>by
  simp at h1 h2;subst h1;subst h2;show bindC kindOf ((p,w)::P.zip vs) m p=_;unfold bindC;rw[q9h fun v hv=>(Cg.mp nd).1 (Nn hv).1,if_neg hk];simp
 |p::P,w::vs,i+1,m,nd,h1,h2,hk=>by
  show bindC kindOf ((p,w)::P.zip vs) m x=_;unfold bindC;exact q9j (i:=i) (Cg.mp nd).2 (by simpa using h1) (by simpa using h2) hk
def start(N:List Str)(vs:List V):St:=vs.map some++List.replicate (N.length-vs.length) none
def cxOf(CX:CXT)(P:Program)(w:World)(K:Ag)(mg:Str->Option Value)(base:Heap)(N:List Str)(qual:Str)(scope:Scope)(f:Addr)(cd:Value)(A:Around)(outer:List Env)(s:Ae)(H:Hp)(E:XK):Cx where
 prog:=P
 w:=w
 K:=K
 mg:=mg
 base:=base
 A:=A.deeper (Hy qual scope s.heap.objs.size f cd)
 N:=N
 s₀:=s
 H₀:=H
 env:=Hy qual scope s.heap.objs.size f cd
 outer:=outer
 stack:=Hy qual scope s.heap.objs.size f cd::outer
 ex:=[]
 calm:=true
 fn:=fun _=>true
 pn:=[]
 xe:=fun e s'=>wpAny (model P w) (A.deeper (Hy qual scope s.heap.objs.size f cd)) (leaving (Hy qual scope s.heap.objs.size f cd) e) (fun _ s''=>CX outer H s E e s'') (fun e' s''=>CX outer H s E e' s'') s'
theorem z2s{sc:Scope}(h:sc.names.lookup x=some .cell):∃c,(cellsFrom n sc.names []).lookup x=some c:=by
 have q:=Rt sc.names n [] (.inl h);exact Mz.mp q
theorem z5n{K:Ag}(S:FnScope N ps scope)(hd:A.handled=none)(e0:Env0 P w K mg base A outer s H)(hl:vs.length=ps.length)(r:Vals vs us)(x:InCallC s s.heap.objs.size (bindL (Hy qual scope s.heap.objs.size f cd).kindOf (ps.zip us) fun _=>none) (cellsFrom (s.heap.objs.size+1) scope.names []) (bindC (Hy qual scope s.heap.objs.size f cd).kindOf (ps.zip us) fun _=>none) s1):
  Inv (cxOf CX P w K mg base N qual scope f cd A outer s H E) [] (start N vs) H s1:=by
 have hpl:ps.length<=N.length:=by have:=congrArg List.length S.pre;rw[An] at this;lia
 obtain⟨h1,tk,rfl,hk⟩:=x.done;have noA:∀b:Addr,b∉(cxOf CX P w K mg base N qual scope f cd A outer s H E).ex:=fun b z=>absurd (show b∈([]:List Addr) from z) (by simp)
 refine⟨⟨e0.mod,S.kind,rfl,rfl,Ak _,fun y z c h1 h2=>?_,fun y hy=>?_,fun y c _ h=>?_,fun _=>hd,Around.frames_deeper e0.frames,.inr ⟨rfl,rfl⟩,fun b z=>absurd z (noA b),e0.bs,e0.bsz,fun b _ _=>noA b,fun b z=>absurd z (noA b),e0.funs,e0.frf⟩,
  rfl,e0.bare,Un.kept hk,⟨_,x.toInCall.ns,fun i y v h1 h2 h3=>?_⟩,fun y c h=>⟨_,x.cell y c h⟩,e0.hok.fresh (Ak _),fun y c h=>?_,fun p hp=>absurd (show p∈([]:List (Addr×Obj)) from hp) (by simp),e0.hok.kept hk,?_⟩
 ·exact name_of_addr x.apart (Eb h1) (Eb h2)
 ·have hy:scope.names.lookup y=some .cell\/scope.names.lookup y=some .free:=hy;rcases hy with hy|hy
  ·exact z2s hy
  ·exact absurd rfl (S.nofree _ (Eb hy))
 ·exact Gy (x.above y c (Eb h))
 ·have hi:i<vs.length:=by
   unfold start at h2;by_cases hi:i<vs.length
   ·exact hi
   ·rw[Cz (by simpa using hi)] at h2;rw[List.getElem?_replicate] at h2;split at h2<;>cases h2
  have ha:vs[i]?=some v:=by
   unfold start at h2;rw[Dh (by simpa using hi),Au] at h2;cases e:vs[i]? with
   |none=>simp_all
   |some a=>grind
  obtain⟨u,hu,rv⟩:=r.get ha;have hp:ps[i]?=some y:=by
   rw[<- S.pre,Iu (by lia)];exact h1
  have ndP:ps.Nodup:=by rw[<- S.pre];exact S.nd.sublist (Mi _ _)
  refine⟨u,rv,?_⟩;rcases S.par y (Aq hp) with k|k
  ·exact .inl ⟨k,q9i ndP hp hu k⟩
  ·obtain⟨c,e⟩:=z2s k;refine .inr ⟨.inl k,c,e,?_⟩;have q:=x.cell y c e;rw[q9j ndP hp hu (by show scope.names.lookup y≠_;rw[k];decide)] at q;exact q
 ·exact e0.hok.fresh (Gy (x.above y c (Eb h)))
 ·unfold start;show _=N.length;rw[Af,Aa,List.length_replicate];lia
theorem x2u{K:Ag}{kV:Value}(lk:K.lookup f=some ⟨oc,od,.func (Gg name qual params body scope dV kV doc pm an cdv ct),osl⟩)(hcd:Hq K cdv qual=true)(S:FnScope N ps scope)(len:∀vs H Q E,sp vs H Q E->vs.length=ps.length)(hbody:∀(A:Around) (outer:List Env) (s:Ae) (H:Hp) (vs:List V) (Q:VK) (E:XK),Room k (A.deeper (Hy qual scope s.heap.objs.size f cdv))->sp vs H Q E ->
   ∃t,PSs (cxOf CX P w K mg base N qual scope f cdv A outer s H E) body t/\t { nx:=fun _ H'=>Q .non H',rt:=Q } (start N vs) H):
  FnOk P w K mg base CX (k+1) f (Gg name qual params body scope dV kV doc pm an cdv ct) ps sp:=by
 refine⟨len,fun A outer s H args us vs Q E hr e0 hb r hsp=>?_⟩;have hl:=len _ _ _ _ hsp;have KX:=e0.mod.kin.keeps fun b o e=>(e0.bs b o e).1;have lim:=e0.mod.nolimit.keeps fun b o e=>(e0.bs b o e).1;have hkind:∀y∈ps.zip us,scope.names.lookup y.1=some .local\/(scope.names.lookup y.1=some .cell/\((cellsFrom (s.heap.objs.size+1) scope.names []).lookup y.1).isSome=true):=fun⟨n,v⟩ hy=>by
  rcases S.par n (Nn hy).1 with q|q
  ·exact .inl q
  ·exact .inr ⟨q,Rt _ _ _ (.inl q)⟩
 refine codeAny_call_function hr.depth (KX _ _ lk) rfl S.co S.gen rfl (W.codeRec_of KX hcd) (hb _ _ _ _ ?_);refine wpAny_newFunctionEnv_cells S.kind hkind fun env he s1 x=>?_;subst he;refine⟨lim.keeps x.toInCall.keep,codeAny_func ?_⟩;obtain⟨t,ht,hq⟩:=hbody A outer s H vs Q E (hr.deeper _) hsp;have I:Inv (cxOf CX P w K mg base N qual scope f cdv A outer s H E) [] (start N vs) H s1:=z5n S hr.hd e0 hl r x;refine Cb (ht [] s1 (start N vs) H _ I hq) (fun fl s' hs=>?_) fun e s' hs=>hs;have fin:∀{σ':St} {H':Hp} {v:V} {u:Value},Inv (cxOf CX P w K mg base N qual scope f cdv A outer s H E) [] σ' H' s'->RelV v u->Q v H'->CE outer P w H s Q u s' :=
  fun{σ' H' v u} J rv q=>⟨v,H',J.os,J.bare,J.base,J.hok,rv,q⟩
 cases fl with
 |ret u =>
  obtain⟨v,σ',H',J,rv,q⟩:=hs;exact fin J rv q
 |next =>
  obtain⟨σ',H',J,q⟩:=hs;exact fin (v:=V.non) J rfl q
 |brk =>
  obtain⟨_,_,_,q⟩:=hs;exact False.elim q
 |cont =>
  obtain⟨_,_,_,q⟩:=hs;exact False.elim q
open PySem PySem.Spec PyProof.Rows
section
variable{X:Cx}{x:Str}{p pos:Pos}{e:Expr}{es:List Expr}{t:TA}{id T:String}{r:List V->Hp->VK->Prop}
def tCB(r:List V->Hp->VK->Prop)(t:TA):TE:=fun σ H Q=>t σ H fun vs H1=>r vs H1 Q
theorem q0i(hc:CallR X (.builtin id) r)(hg:Gl X x)(hm:X.mg x=none)(hv:Gd x=some (.builtin id))(ha:PA X (e::es) t)(hn:x ≠ "__name__" := by decide)(hdb:(x==("__debug__" : Str))=false:=by decide)(he:Bi (e::es) X.env=(false,eval e X.env)::Bi es X.env:=by rfl)(hpl:(Eu pos (Bi es X.env)).any (·.1)=false:=by rfl):PE X (.Call (.Name x p) (e::es) [] pos) (tCB r t):=by
 intro pins s σ H Q I h;refine Iq (q7o I hg hm hv ?_ hn hdb);exact PyProof.Rows.callWith_builtin1 (thn (ha pos pins s σ H _ I h) fun us s1 ⟨vs,H1,I1,r1,q1⟩=>hc pins s1 σ H1 vs us Q I1 r1 q1) he hpl
theorem q0y(hc:CallR X (.type T) r)(hg:Gl X x)(hm:X.mg x=none)(hv:Gd x=some (.type T))(ha:PA X (e::es) t)(hn:x ≠ "__name__" := by decide)(hdb:(x==("__debug__" : Str))=false:=by decide)(he:Bi (e::es) X.env=(false,eval e X.env)::Bi es X.env:=by rfl)(hpl:(Eu pos (Bi es X.env)).any (·.1)=false:=by rfl):PE X (.Call (.Name x p) (e::es) [] pos) (tCB r t):=by
 intro pins s σ H Q I h;refine Iq (q7o I hg hm hv ?_ hn hdb);exact Ez (thn (ha pos pins s σ H _ I h) fun us s1 ⟨vs,H1,I1,r1,q1⟩=>hc pins s1 σ H1 vs us Q I1 r1 q1) he hpl
end
end L2
namespace HT
open PySem PyProof.Rows
section
variable{prog:Program}{w:World}{A:Around}{E:Value->Ae->Prop}{s:Ae}
theorem cat_tup(ht:IsTup s.heap t vs.toArray)(hb:IsTup s.heap b ws.toArray)(hv:vs≠[])(h1:ws=[]->Q (.ref t) s)(h2:ws≠[]->Q (.ref s.heap.objs.size) { s with heap:=s.heap.push { cls:=.type "tuple",data:=.seq (vs++ws).toArray } })(hsz:vs.length+ws.length<=sizeLine):wpAny (model prog w) A (Ej .Add (.ref t) (.ref b)) Q E s:=by
 obtain⟨⟨cls,dd,data,sl⟩,ho,hc,n,hd⟩:=id ht;obtain⟨⟨cls2,dd2,data2,sl2⟩,ho2,hc2,n2,hd2⟩:=id hb;subst hc hd hc2 hd2;have e:vs.toArray++ws.toArray=(vs++ws).toArray:=by simp
 by_cases hw:ws=[]
 ·exact Qk ⟨_,ho,rfl⟩ ⟨_,ho2,rfl⟩ Na Po Jx Jo (Iv _ _)
   (tuple_addW1 t b vs.toArray ws.toArray n n2 dd dd2 sl sl2 (by simpa using hv) (by simp[hw])) ⟨ho,ho2,h1 hw⟩
 ·refine Qk ⟨_,ho,rfl⟩ ⟨_,ho2,rfl⟩ Na Po Jx Jo (Iv _ _)
   (tuple_addW2 t b vs.toArray ws.toArray n n2 dd dd2 sl sl2 (by simpa using hv) (by simpa using hw) (by rw[Av,Av];exact hsz)) ⟨ho,ho2,?_⟩
  rw[e];exact h2 hw
def sIx(n d:Nat):Option Int->Nat
 |none=>d
 |some v=>if v<0 then(v+(n:Int)).toNat else min v.toNat n
theorem z5o(v:Int)(n d:Nat):(if v<0 then max (v+(n:Int)) 0 else min v (n:Int))=((sIx n d (some v):Nat):Int):=by
 show(if v<0 then max (v+(n:Int)) 0 else min v (n:Int))=(((if v<0 then(v+(n:Int)).toNat else min v.toNat n):Nat):Int)
 by_cases hv:v<0
 ·grind
 ·grind
theorem z4b(lo hi:Option Int)(n:Nat):Mo lo hi 1 (n:Int)=(((sIx n 0 lo:Nat):Int),((sIx n n hi:Nat):Int)):=by
 refine Prod.ext ?_ ?_
 ·cases lo with
  |none=>rfl
  |some v=>exact z5o v n 0
 ·cases hi with
  |none=>rfl
  |some v=>exact z5o v n n
theorem z4c(i j:Nat):Fq (i:Int) (j:Int) 1=j-i:=by
 unfold Fq;have h1:(1:Int)>0:=by lia
 simp only[h1,if_true,Int.ediv_one];split<;>lia
theorem q7t(p:Jy v o)(h:Q o s):wpAny (model prog w) A (Dm.Slice.slicePartIndex v) Q E s:=by
 cases p with
 |none=>exact slicePart_none h
 |int i t=>exact slicePart_int h
theorem q2r{lo:Option Int}{n:Nat}(hs:s.heap.IsSliceOf sl vl vu .none)(pl:Jy vl lo)(pu:Jy vu hi)(h:Q (((sIx n 0 lo:Nat):Int),1,sIx n n hi-sIx n 0 lo) s):wpAny (model prog w) A (Dm.Slice.sliceApplied (.ref sl) (pure (n:Int))) Q E s:=by
 obtain⟨os,hos,hcs,hds⟩:=id hs;refine Ab (Ab (Ck hos hds rfl (Ab (Ck hos hds rfl (Ab (Ck hos hds rfl (Ac ?_)))))));refine Ab (slicePart_none ?_);refine Ab (q7t pl (Ab (q7t pu (Ab (Ac ?_)))));show wpAny _ _ (match Mo lo hi 1 (n:Int) with|(lo,hi)=>pure (lo,(1:Int),Fq lo hi 1)) _ _ s;rw[z4b lo hi n];show wpAny _ _ (pure (((sIx n 0 lo:Nat):Int),(1:Int),Fq ((sIx n 0 lo:Nat):Int) ((sIx n n hi:Nat):Int) 1)) _ _ s;rw[z4c];exact Ac h
theorem z9m(xs:Array Value)(i k:Nat):((List.range k).filterMap fun(m:Nat)=>xs[((i:Int)+(m:Int)*1).toNat]?).toArray=((xs.toList.drop i).take k).toArray:=by
 have e:(fun(m:Nat)=>xs[((i:Int)+(m:Int)*1).toNat]?)=fun m=>xs[i+m]?:=by grind
 rw[e];have:=pick_run xs i k;rw[Ls] at this;have e2:((fun x=>xs[x]?)∘fun x=>i+x)=fun m=>xs[i+m]?:=rfl;rw[e2] at this;rw[this]
theorem getItem_tuple_cut{lo:Option Int}(ht:IsTup s.heap t items)(hs:s.heap.IsSliceOf sl vl vu .none)(pl:Jy vl lo)(pu:Jy vu hi)(hw:¬(sIx items.size 0 lo=0/\sIx items.size items.size hi=items.size))(h:Q (.ref s.heap.objs.size) { s with heap:=s.heap.push { cls:=.type "tuple",data:=.seq ((items.toList.drop (sIx items.size 0 lo)).take (sIx items.size items.size hi-sIx items.size 0 lo)).toArray } })(hsz:items.size<=sizeLine):wpAny (model prog w) A (getItem (.ref t) (.ref sl)) Q E s:=by
 have htake:sizeOk (.seq ((items.toList.drop (sIx items.size 0 lo)).take (sIx items.size items.size hi-sIx items.size 0 lo)).toArray):=by
  show((items.toList.drop (sIx items.size 0 lo)).take (sIx items.size items.size hi-sIx items.size 0 lo)).toArray.size<=sizeLine;rw[Av,An,Cw,Ea];lia
 obtain⟨os,hos,hcs,hds⟩:=id hs;have hTs:s.TypeIs (.ref sl) "slice" := ⟨os,hos,hcs⟩
 unfold getItem;try with_reducible refine Cy ?_
 refine Ab (Qz ht.typeIs (by decide) ?_);refine Ab (Cc ht.typeIs Cm
  (Bx Cm ht.typeIs entry_tuple_getitem ?_ (Ql _ _)))
 show wpAny _ _ (Mb (.ref t) >>= _) _ _ s;refine Ab (tupleItemsOf_ ht ?_);refine Ab (Iy hTs ?_);refine Ab (q2r hs pl pu ?_);have hno:¬((((sIx items.size 0 lo:Nat):Int)==0&&(1:Int)==1&&(sIx items.size items.size hi-sIx items.size 0 lo)==items.size)=true):=by grind
 show wpAny _ _ (if (((sIx items.size 0 lo:Nat):Int)==0&&(1:Int)==1&&(sIx items.size items.size hi-sIx items.size 0 lo)==items.size)=true then _ else _) _ _ s;rw[if_neg hno,z9m];first
  |exact Ab (Bt (Ac ⟨_,rfl,Ac h⟩) htake)
  |exact Ab (Bt (Ab (Ac (Ac ⟨_,rfl,Ac h⟩))) htake)
  |exact Ab (Ab (Bt (Ac (Ac ⟨_,rfl,Ac h⟩)) htake))
  |exact Ab (Ab (Bt (Ac ⟨_,rfl,Ac h⟩) htake))
end
end HT
namespace L2
open PySem PySem.Spec PyProof.Rows
abbrev TO:=St->Hp->(Option Int->Hp->Prop)->Prop
def PO(X:Cx)(e:Option Expr)(t:TO):Prop :=
 ∀(pins:List (Addr×Obj)) (s:Ae) (σ:St) (H:Hp) (Q:Option Int->Hp->Prop),Inv X pins σ H s->t σ H Q ->
  wpAny (model X.prog X.w) X.A (evalPart e X.env) (fun u s'=>∃o H',Inv X pins σ H' s'/\Jy u o/\Q o H') X.xe s
def tNoPart:TO:=fun _ H Q=>Q none H
def tPart(t:TE):TO:=fun σ H Q=>t σ H fun x H1=>∃i,x=.int i/\Q (some i) H1
section
variable{X:Cx}{e:Expr}{te:TE}{lo hi:Option Expr}{tl th:TO}{pos p2:Pos}
theorem q0w:PO X none tNoPart:=by
 intro pins s σ H Q I h;exact Ac ⟨none,H,I,.none,h⟩
theorem q0t(h:PE X e te):PO X (some e) (tPart te):=by
 intro pins s σ H Q I hw;refine thn (h pins s σ H _ I hw) fun u s1 ⟨x,H1,I1,r1,q1⟩=>?_;obtain⟨i,rfl,q⟩:=q1;obtain⟨t,rfl⟩:=r1;exact⟨some i,H1,I1,.int i t,q⟩
def SlR(X:Cx)(r:V->Option Int->Option Int->Hp->VK->Prop):Prop :=
 ∀(pins:List (Addr×Obj)) (s:Ae) (σ:St) (H:Hp) (x:V) (v vl vu:Value) (lo hi:Option Int) (sl:Addr) (Q:VK),Inv X pins σ H s->RelV x v->s.heap.IsSliceOf sl vl vu .none->Jy vl lo->Jy vu hi->r x lo hi H Q ->
  ∃T id,Sl (.type T) "__getitem__" = pure (some (.builtin id))/\s.TypeIs v T/\wpAny (model X.prog X.w) X.A (getItem v (.ref sl)) (EP X pins σ Q) X.xe s
theorem SlR.or(h:SlR X r)(h':SlR X r'):SlR X (fun x lo hi H Q=>r x lo hi H Q\/r' x lo hi H Q):=by
 intro pins s σ H x v vl vu lo hi sl Q I rx hs pl pu q;rcases q with q|q
 ·exact h pins s σ H x v vl vu lo hi sl Q I rx hs pl pu q
 ·exact h' pins s σ H x v vl vu lo hi sl Q I rx hs pl pu q
def tSl(r:V->Option Int->Option Int->Hp->VK->Prop)(te:TE)(tl th:TO):TE:=fun σ H Q=>te σ H fun x H1=>tl σ H1 fun l H2=>th σ H2 fun u H3=>r x l u H3 Q
theorem q0r{r:V->Option Int->Option Int->Hp->VK->Prop}(hr:SlR X r)(he:PE X e te)(hl:PO X lo tl)(hu:PO X hi th):PE X (.Subscript e (.Slice lo hi none p2) pos) (tSl r te tl th):=by
 intro pins s σ H Q I h;refine Pc (thn (he pins s σ H _ I h) fun v s1 ⟨x,H1,I1,r1,q1⟩=>?_);refine wpAny_Slice (thn (hl pins s1 σ H1 _ I1 q1) fun vl s2 ⟨l,H2,I2,pl,q2⟩=>thn (hu pins s2 σ H2 _ I2 q2) fun vu s3 ⟨u,H3,I3,pu,q3⟩=>?_);refine Ac ?_;have I4:Inv X pins σ H3 { s3 with heap:=s3.heap.push { cls:=.type "slice",data:=.fields #[vl,vu,.none] } }:=I3.kept (t':=s3.toks) fun b ob q=>Ai _ q;obtain⟨T,id,hT,ht,hg⟩:=hr pins { s3 with heap:=s3.heap.push { cls:=.type "slice",data:=.fields #[vl,vu,.none] } } σ H3 x v vl vu l u s3.heap.objs.size Q I4 r1 (Qm ..) pl pu q3;exact tail_any ht hT hg (by with_unfolding_all rfl)
def cutV(xs:List V)(lo hi:Option Int):List V:=(xs.drop (HT.sIx xs.length 0 lo)).take (HT.sIx xs.length xs.length hi-HT.sIx xs.length 0 lo)
theorem q6h(xs:List V)(lo hi:Option Int):(cutV xs lo hi).length<=xs.length:=by
 unfold cutV;rw[An,Cw];lia
def rSlT(K:Ag):V->Option Int->Option Int->Hp->VK->Prop:=fun x lo hi H Q=>∃a xs,x=.ref a/\SqT K H a xs /\
 ¬(HT.sIx xs.length 0 lo=0/\HT.sIx xs.length xs.length hi=xs.length)/\∀p,H p=none->Q (.ref p) (upd H p (.tup (cutV xs lo hi)))
theorem x1m:SlR X (rSlT X.K):=by
 intro pins s σ H x v vl vu lo hi sl Q I rx hs pl pu h;obtain⟨a,xs,rfl,hx,hw,q⟩:=h;cases rx;obtain⟨its,r,ht,hz⟩:=I.tuple hx;have hlen:its.toArray.size=xs.length:=by rw[Av];exact r.length.symm
 refine⟨"tuple",_,Cm.lookup,ht.typeIs,?_⟩;refine HT.getItem_tuple_cut ht hs pl pu (by rw[hlen];exact hw) ?_ (by rw[hlen];exact hz);rw[hlen];refine⟨.ref s.heap.objs.size,_,I.laid (t':=s.toks) (fun b ob q=>Ai _ q) (Ak _) ?_,rfl,q _ (I.hok.fresh (Ak _))⟩;exact⟨Cq (q6h xs lo hi) hz,_,(r.drop (HT.sIx xs.length 0 lo)).take (HT.sIx xs.length xs.length hi-HT.sIx xs.length 0 lo),Ta _ _⟩
theorem Vals.nil_iff(r:Vals xs us):us=[]↔xs=[]:=by
 cases r with
 |nil=>simp
 |cons _ _=>simp
end
open PySem PySem.Spec PyProof.Rows
def ixN(n:Nat)(i:Int):Option Nat:=if 0<=i then(if i<n then some i.toNat else none) else if -(n:Int)<=i then some (i+n).toNat else none
def atI{α:Type}(xs:List α)(i:Int):Option α:=(ixN xs.length i).bind fun j=>xs[j]?
theorem z5p(h:ixN n i=some j):seqIndex? i n=some j/\j<n /\ -(n:Int)<=i/\i<n:=by
 unfold ixN at h;by_cases h0:0<=i
 ·rw[if_pos h0] at h;by_cases h1:i<n
  ·rw[if_pos h1] at h;have e:=Dg h;exact⟨by rw[Rn h0 h1,e],by lia,by lia,h1⟩
  ·grind
 ·rw[if_neg h0] at h;by_cases h1 : -(n:Int)<=i
  ·rw[if_pos h1] at h;have e:=Dg h;exact⟨by rw[seqIndex_neg (by lia) h1,e],by lia,h1,by lia⟩
  ·grind
theorem q8j{xs:List α}{v:α}(h:atI xs i=some v):∃j,seqIndex? i xs.length=some j/\xs[j]?=some v/\j<xs.length /\ -(xs.length:Int)<=i/\i<xs.length:=by
 unfold atI at h;cases e:ixN xs.length i with
 |none=>rw[e] at h;cases h
 |some j =>
  rw[e] at h;obtain⟨h1,h2,h3,h4⟩:=z5p e;exact⟨j,h1,h,h2,h3,h4⟩
theorem q6i{xs:List α}{j:Nat}{v:α}(h:xs[j]?=some v):atI xs (j:Int)=some v:=by
 have hj:=(Ax.mp h).1;have e:ixN xs.length (j:Int)=some j:=by
  unfold ixN;rw[if_pos (by lia),if_pos (by lia)];simp
 unfold atI;rw[e];exact h
def PlainIx(b:Expr):Prop:=∀o i,Nv b false o i=operate [o,i] (getItem o i)
def IxR(X:Cx)(r:R2):Prop :=
 ∀(value slice:Expr) (pins:List (Addr×Obj)) (s:Ae) (σ:St) (H:Hp) (x y:V) (v u:Value) (Q:VK),Inv X pins σ H s->RelV x v->RelV y u->r x y H Q ->
  Nv slice false v u=operate [v,u] (getItem v u)->wpAny (model X.prog X.w) X.A (subscriptTail value slice v u) (EP X pins σ Q) X.xe s
def MtR(X:Cx)(id:String)(r:V->List V->Hp->VK->Prop):Prop :=
 ∀(pins:List (Addr×Obj)) (s:Ae) (σ:St) (H:Hp) (x:V) (xs:List V) (v:Value) (us:List Value) (Q:VK),Inv X pins σ H s->RelV x v->Vals xs us->r x xs H Q ->
  wpAny (model X.prog X.w) X.A (call (.builtin id) (v::us)) (EP X pins σ Q) X.xe s
section
variable{X:Cx}{a b:Expr}{ta tb:TE}{pos:Pos}
theorem IxR.or(h:IxR X r)(h':IxR X r'):IxR X (fun x y H Q=>r x y H Q\/r' x y H Q):=by
 intro value slice pins s σ H x y v u Q I rx ry q hs;rcases q with q|q
 ·exact h value slice pins s σ H x y v u Q I rx ry q hs
 ·exact h' value slice pins s σ H x y v u Q I rx ry q hs
theorem MtR.or{id:String}(h:MtR X id r)(h':MtR X id r'):MtR X id (fun x xs H Q=>r x xs H Q\/r' x xs H Q):=by
 intro pins s σ H x xs v us Q I rx rs q;rcases q with q|q
 ·exact h pins s σ H x xs v us Q I rx rs q
 ·exact h' pins s σ H x xs v us Q I rx rs q
theorem q1m{r:R2}(hr:IxR X r)(ha:PE X a ta)(hb:PE X b tb)(hs:PlainIx b):PE X (.Subscript a b pos) (tOp r ta tb):=by
 intro pins s σ H Q I h;exact Pc (binT ha hb I h fun v u s2 x y H2 I2 rx ry q=>hr a b pins s2 σ H2 x y v u Q I2 rx ry q (hs _ _))
def rIxL(K:Ag):R2:=fun x y H Q=>∃p xs i v,x=.ref p/\y=.int i/\SqL K H p xs/\atI xs i=some v/\Q v H
def rIxT(K:Ag):R2:=fun x y H Q=>∃p xs i v,x=.ref p/\y=.int i/\SqT K H p xs/\atI xs i=some v/\Q v H
def rIxS:R2:=fun x y H Q=>∃z i c,x=.str z/\y=.int i/\z.length<=sizeLine/\atI z.cps.toList i=some c/\Q (.str ⟨#[c]⟩) H
theorem ix_list:IxR X (rIxL X.K):=by
 intro value slice pins s σ H x y v u Q I rx ry h hs;obtain⟨p,xs,i,z,rfl,rfl,hq,he,q⟩:=h;cases rx;obtain⟨t,rfl⟩:=ry;obtain⟨its,r,pl,hz⟩:=I.list hq;obtain⟨j,h1,h2,h3,h4,h5⟩:=q8j he;obtain⟨w,ew,rw'⟩:=r.get h2;have hl:=r.length;have hn:=line63;have fin:EP X pins σ Q w s:=⟨z,H,I,rw',q⟩
 by_cases h0:0<=i
 ·have hj:i.toNat=j:=by
   rw[Rn h0 h5] at h1;exact Dg h1
  exact item_listR pl.isList h0 (by lia) (by rw[hj];simpa using ew) fin hs
 ·have hj:(i+(its.toArray.size:Int)).toNat=j:=by
   rw[seqIndex_neg (by lia) h4] at h1;rw[Av,<- hl];exact Dg h1
  exact Nw pl.isList.typeIs slot_list_getitem.lookup
   (wpAny_getItem_list_neg pl.isList (by lia) (by rw[Av]<;>lia) (by lia) (by rw[hj];simpa using ew) ⟨rfl,fin⟩) hs
theorem ix_tup:IxR X (rIxT X.K):=by
 intro value slice pins s σ H x y v u Q I rx ry h hs;obtain⟨p,xs,i,z,rfl,rfl,hq,he,q⟩:=h;cases rx;obtain⟨t,rfl⟩:=ry;obtain⟨its,r,pl,hz⟩:=I.tuple hq;obtain⟨j,h1,h2,h3,h4,h5⟩:=q8j he;obtain⟨w,ew,rw'⟩:=r.get h2;have hl:=r.length;have hn:=line63;have fin:EP X pins σ Q w s:=⟨z,H,I,rw',q⟩
 exact Nw pl.typeIs slot_tuple_getitem.lookup
  (getItem_tuple pl (by lia) (by lia) (by rw[Av,<- hl];exact h1) (by simpa using ew) ⟨rfl,fin⟩) hs
theorem ix_str:IxR X rIxS:=by
 intro value slice pins s σ H x y v u Q I rx ry h hs;obtain⟨z,i,c,rfl,rfl,hz,he,q⟩:=h;obtain⟨t,rfl⟩:=rx;obtain⟨t',rfl⟩:=ry;obtain⟨j,h1,h2,h3,h4,h5⟩:=q8j he;have hl:z.cps.toList.length=z.length:=by simp[Str.length]
 rw[hl] at h1 h4 h5;have hn:=line63;exact tail_any (Jj s z t) slot_str_getitem.lookup (getItem_str (by
  have e1:decide (i < -(2^63:Int))=false:=decide_eq_false (by lia);have e2:decide (i>=2^63)=false:=decide_eq_false (by lia);rw[e1,e2,Bool.or_false]) (by rw[h1];simpa using h2) ⟨.str ⟨#[c]⟩,H,I.tok _,⟨_,rfl⟩,q⟩) hs
def rIx(K:Ag):R2:=fun x y H Q=>rIxL K x y H Q\/rIxT K x y H Q\/rIxS x y H Q
theorem ix_seq:IxR X (rIx X.K):=ix_list.or (ix_tup.or ix_str)
theorem z4d(its:List Value)(n j:Nat)(u:Value):Ex (·.setIfInBounds j u) { cls:=.type "list",data:=.seq its.toArray n }={ cls:=.type "list",data:=.seq (its.set j u).toArray n }:=by
 simp[Ex]
theorem Inv.lst{pins:List (Addr×Obj)}{σ:St}{H:Hp}{s:Ae}{p:Addr}{xs:List V}(I:Inv X pins σ H s)(h:H p=some (.lst xs)):
  ∃(its:List Value) (n:Nat),Vals xs its/\s.heap.get? p=some { cls:=.type "list",data:=.seq its.toArray n }/\xs.length<=sizeLine:=by
 obtain⟨z,its,n,r,e⟩:=I.hok p _ h;exact⟨its,n,r,e,z⟩
theorem Inv.lstUpd{σ:St}{its:List Value}(I:Inv X pins σ H s)(h:H p=some (.lst xs))(ho:s.heap.get? p=some { cls:=.type "list",data:=.seq its.toArray n })(hf:f { cls:=.type "list",data:=.seq its.toArray n }={ cls:=.type "list",data:=.seq its'.toArray n' })(r:Vals ys its')(hz:ys.length<=sizeLine)(t:Nat):
  Inv X pins σ (upd H p (.lst ys)) { s with heap:=s.heap.update p f,toks:=t }:=by
 have e:(s.heap.update p f).get? p=some { cls:=.type "list",data:=.seq its'.toArray n' }:=by
  rw[Kl f ho (by rw[hf]<;>rfl),hf]
 refine I.write (by rw[h];trivial) (.inl rfl) (fun b u hb q=>(Ec _ _ (Dd hb)).trans q) ⟨_,e⟩ ?_;exact⟨hz,its',n',r,e⟩
def rSetL:V->V->V->Hp->(Hp->Prop)->Prop:=fun o i v H Q=>∃p xs k j,o=.ref p/\i=.int k/\H p=some (.lst xs)/\ixN xs.length k=some j/\Q (upd H p (.lst (xs.set j v)))
theorem q5s:PSet X rSetL:=by
 intro pins s σ H o i v ov iv u Q I ro ri rv h;obtain⟨p,xs,k,j,rfl,rfl,hp,hj,q⟩:=h;cases ro;obtain⟨t,rfl⟩:=ri;obtain⟨its,n,r,ho,hz⟩:=I.lst hp;obtain⟨h1,h2,h3,h4⟩:=z5p hj;have hl:=r.length;have hn:=line63;have I':Inv X pins σ (upd H p (.lst (xs.set j v))) { s with heap:=s.heap.update p (Ex (·.setIfInBounds j u)) } :=
  I.lstUpd hp ho (z4d its n j u) (r.set rv j) (by rw[Ff];exact hz) s.toks
 by_cases h0:0<=k
 ·have hk:k.toNat=j:=by
   rw[Rn h0 h4] at h1;exact Dg h1
  exact W.ki_setAt ho h0 (by lia) (by rw[Av,<- hl];exact h4) (by rw[hk];exact⟨_,I',q⟩)
 ·have hk:(k+(its.toArray.size:Int)).toNat=j:=by
   rw[seqIndex_neg (by lia) h3] at h1;rw[Av,<- hl];exact Dg h1
  exact W.ki_setBack ho (by lia) (by rw[Av,<- hl];exact h3) (by lia) (by rw[hk];exact⟨_,I',q⟩)
theorem q9k(lo hi:Option Int)(n:Nat):(Fy lo hi none n).1=((HT.sIx n 0 lo:Nat):Int)/\(Fy lo hi none n).2.1=((HT.sIx n n hi:Nat):Int)/\(Fy lo hi none n).2.2=1:=by
 refine⟨?_,?_,rfl⟩
 ·cases lo with
  |none=>simp[Fy,HT.sIx]
  |some i =>
   simp only[Fy,HT.sIx,Ru,show(1:Int)>0 by decide,if_true];by_cases h:i<0
   ·simp only[h,if_true]<;>lia
   ·simp only[h,if_false]<;>lia
 ·cases hi with
  |none=>simp[Fy,HT.sIx]
  |some i =>
   simp only[Fy,HT.sIx,Ru,show(1:Int)>0 by decide,if_true];by_cases h:i<0
   ·simp only[h,if_true]<;>lia
   ·simp only[h,if_false]<;>lia
theorem q8k(its:List Value)(lo hi:Option Int):Qn its.toArray lo hi none=((its.drop (HT.sIx its.length 0 lo)).take (HT.sIx its.length its.length hi-HT.sIx its.length 0 lo)).toArray:=by
 obtain⟨h1,h2,h3⟩:=q9k lo hi its.toArray.size;unfold Qn;rw[h1,h2,h3];simp only[sliceRange_one,pick_run,Av]<;>rfl
def rSlL(K:Ag):V->Option Int->Option Int->Hp->VK->Prop:=fun x lo hi H Q=>∃a xs,x=.ref a/\SqL K H a xs/\∀p,H p=none->Q (.ref p) (upd H p (.lst (cutV xs lo hi)))
theorem sl_list:SlR X (rSlL X.K):=by
 intro pins s σ H x v vl vu lo hi sl Q I rx hs pl pu h;obtain⟨a,xs,rfl,hx,q⟩:=h;cases rx;obtain⟨its,r,ht,hz⟩:=I.list hx;have hlen:=r.length;refine⟨"list",_,slot_list_getitem.lookup,ht.isList.typeIs,?_⟩;refine Nb ht.isList hs pl pu .none (by simp) ?_ (by rw[Av]<;>lia);rw[q8k,<- hlen];refine⟨.ref s.heap.objs.size,_,I.laid (t':=s.toks) (fun b ob q=>Ai _ q) (Ak _) ?_,rfl,q _ (I.hok.fresh (Ak _))⟩;exact⟨Cq (q6h xs lo hi) hz,_,0,(r.drop (HT.sIx xs.length 0 lo)).take (HT.sIx xs.length xs.length hi-HT.sIx xs.length 0 lo),Ar _ rfl⟩
def flatV:V->Bool
 |.non=>true
 |.bl _=>true
 |.int _=>true
 |.str _=>true
 |_=>false
def eqV:V->V->Bool
 |.non,.non=>true
 |.bl a,.bl b=>a==b
 |.bl a,.int b=>(if a then 1 else 0)==b
 |.int a,.bl b=>a==(if b then 1 else 0)
 |.int a,.int b=>a==b
 |.str a,.str b=>a==b
 |_,_=>false
theorem eqAt_V(ry:RelV y u)(rx:RelV x v)(fy:flatV y=true)(fx:flatV x=true):Di A s u v (eqV y x):=by
 cases y with
 |non =>
  cases ry;cases x with
  |non=>cases rx;exact Sm _
  |bl b=>cases rx;exact Di.none_bool b
  |int b=>obtain⟨t,rfl⟩:=rx;exact Di.none_int b t
  |str b=>obtain⟨t,rfl⟩:=rx;exact Di.none_str b t
  |_=>exact absurd (show false=true from fx) Bh
 |bl a =>
  cases ry;cases x with
  |non=>cases rx;exact Di.bool_none a
  |bl b=>cases rx;exact Di.bool_bool a b
  |int b=>obtain⟨t,rfl⟩:=rx;exact Di.bool_int a b t
  |str b=>obtain⟨t,rfl⟩:=rx;exact Di.bool_str a b t
  |_=>exact absurd (show false=true from fx) Bh
 |int a =>
  obtain⟨t',rfl⟩:=ry;cases x with
  |non=>cases rx;exact Di.int_none a t'
  |bl b=>cases rx;exact Di.int_bool a t' b
  |int b=>obtain⟨t,rfl⟩:=rx;exact Di.int_int a t' b t
  |str b=>obtain⟨t,rfl⟩:=rx;exact Qc a t' b t
  |_=>exact absurd (show false=true from fx) Bh
 |str a =>
  obtain⟨t',rfl⟩:=ry;cases x with
  |non=>cases rx;exact Di.str_none a t'
  |bl b=>cases rx;exact Di.str_bool a t' b
  |int b=>obtain⟨t,rfl⟩:=rx;exact Qd a t' b t
  |str b=>obtain⟨t,rfl⟩:=rx;exact Lu a t' b t
  |_=>exact absurd (show false=true from fx) Bh
 |_=>exact absurd (show false=true from fy) Bh
def eqU(x:V)(u:Value):Bool:=match u with
 |.none=>eqV .non x
 |.bool b=>eqV (.bl b) x
 |.int i _=>eqV (.int i) x
 |.str z _=>eqV (.str z) x
 |_=>false
theorem z5q(r:RelV y u)(f:flatV y=true):eqU x u=eqV y x:=by
 cases y with
 |non=>cases r;rfl
 |bl b=>cases r;rfl
 |int i=>obtain⟨t,rfl⟩:=r;rfl
 |str z=>obtain⟨t,rfl⟩:=r;rfl
 |_=>exact absurd (show false=true from f) Bh
theorem q6j{x:V}:∀{xs:List V} {us:List Value},Vals xs us->xs.all flatV=true->us.any (eqU x)=xs.any fun y=>eqV y x
 |_,_,.nil,_=>rfl
 |y::xs,u::us,.cons r t,f=>by
  rw[Mc,Ci] at f;rw[Pp,Pp,z5q r f.1,q6j t f.2]
theorem q3m{A:Around}{s:Ae}{x:V}{v:Value}(rx:RelV x v)(fx:flatV x=true):∀{xs:List V} {us:List Value},Vals xs us->xs.all flatV=true->∀u∈us,Di A s u v (eqU x u)
 |_,_,.nil,_=>fun u hu=>by cases hu
 |y::xs,u::us,.cons r t,f=>fun u' hu=>by
  rw[Mc,Ci] at f;rcases Ba.mp hu with rfl|hu
  ·rw[z5q r f.1];exact eqAt_V r rx f.1 fx
  ·exact q3m rx fx t f.2 u' hu
def inV(x:V)(xs:List V):Bool:=xs.any fun y=>eqV y x
def rIn(K:Ag)(neg:Bool):R2:=fun x y H Q=>∃p xs,y=.ref p/\(SqL K H p xs\/SqT K H p xs)/\flatV x=true/\xs.all flatV=true/\Q (.bl (if neg then !inV x xs else inV x xs)) H
theorem z5r:OpR X (Bw .In) (rIn X.K false):=by
 intro pins s σ H x y v u Q I rx ry h;obtain⟨p,xs,rfl,hq,fx,fs,q⟩:=h;cases ry;rcases hq with hq|hq
 ·obtain⟨its,r,pl,hz⟩:=I.list hq;refine SeqAt.in_listAt (eqU x) pl.isList (fun w hw=>q3m rx fx r fs w (by simpa using hw)) ⟨.bl _,H,I,rfl,?_⟩;rw[show its.toArray.any (eqU x)=its.any (eqU x) by simp,q6j r fs];exact q
 ·obtain⟨its,r,pl,hz⟩:=I.tuple hq;refine SeqAt.in_tupleAt (eqU x) pl (fun w hw=>q3m rx fx r fs w (by simpa using hw)) ⟨.bl _,H,I,rfl,?_⟩;rw[show its.toArray.any (eqU x)=its.any (eqU x) by simp,q6j r fs];exact q
theorem q9l:OpR X (Bw .NotIn) (rIn X.K true):=by
 intro pins s σ H x y v u Q I rx ry h;obtain⟨p,xs,rfl,hq,fx,fs,q⟩:=h;cases ry;rcases hq with hq|hq
 ·obtain⟨its,r,pl,hz⟩:=I.list hq;refine SeqAt.notIn_listAt (eqU x) pl.isList (fun w hw=>q3m rx fx r fs w (by simpa using hw)) ⟨.bl _,H,I,rfl,?_⟩;rw[show its.toArray.any (eqU x)=its.any (eqU x) by simp,q6j r fs];exact q
 ·obtain⟨its,r,pl,hz⟩:=I.tuple hq;refine SeqAt.notIn_tupleAt (eqU x) pl (fun w hw=>q3m rx fx r fs w (by simpa using hw)) ⟨.bl _,H,I,rfl,?_⟩;rw[show its.toArray.any (eqU x)=its.any (eqU x) by simp,q6j r fs];exact q
theorem op_notIn_str:OpR X (Bw .NotIn) (fun x y H Q=>∃i j,x=.str i/\y=.str j/\Q (.bl (!(!(Cn j i 0 j.length 1).isEmpty))) H):=by
 intro pins s σ H x y v u Q I rx ry h;obtain⟨i,j,rfl,rfl,q⟩:=h;obtain⟨t,rfl⟩:=rx;obtain⟨t',rfl⟩:=ry;exact notIn_str ⟨.bl _,H,I,rfl,q⟩
theorem CallR.or(h:CallR X f r)(h':CallR X f r'):CallR X f (fun xs H Q=>r xs H Q\/r' xs H Q):=by
 intro pins s σ H xs us Q I rs q;rcases q with q|q
 ·exact h pins s σ H xs us Q I rs q
 ·exact h' pins s σ H xs us Q I rs q
theorem q9m:CallR X (.type "list") (fun xs H Q=>∃p ys,xs=[.ref p]/\(SqL X.K H p ys\/SqT X.K H p ys)/\∀l,H l=none->Q (.ref l) (upd H l (.lst ys))):=by
 intro pins s σ H xs us Q I r h;obtain⟨p,ys,rfl,hq,q⟩:=h;obtain⟨u,rfl,rx⟩:=vals1 r;cases rx;have fin:∀(its:List Value),Vals ys its->ys.length<=sizeLine->∀(h':Heap) (c':Nat),(∀b o',s.heap.get? b=some o'->h'.get? b=some o') ->
   h'.get? s.heap.objs.size=some { cls:=.type "list",dict:=none,data:=.seq its.toArray c',slots:=#[] }->EP X pins σ Q (.ref s.heap.objs.size) { s with heap:=h' }:=fun its r' hz h' c' kp e =>
  ⟨.ref s.heap.objs.size,_,I.laid (t':=s.toks) kp (Ak _) (show ObjOk X.prog X.w _ h' _ (.lst ys) from⟨hz,its,c',r',e⟩),rfl,q _ (I.hok.fresh (Ak _))⟩
 rcases hq with hq|hq
 ·obtain⟨its,r',pl,hz⟩:=I.list hq;have hlen:=r'.length;obtain⟨o,ho,hc,n,hd⟩:=pl.isList;exact call_list_seq p (.inl rfl) ho hc hd (fun h' c' kp e=>fin its r' hz h' c' kp e) (by simp only[Av]<;>lia)
 ·obtain⟨its,r',pl,hz⟩:=I.tuple hq;have hlen:=r'.length;obtain⟨o,ho,hc,n,hd⟩:=pl;exact call_list_seq p (.inr rfl) ho hc hd (fun h' c' kp e=>fin its r' hz h' c' kp e) (by simp only[Av]<;>lia)
theorem q8l:CallR X (.type "tuple") (fun xs H Q=>∃p ys,xs=[.ref p]/\((SqL X.K H p ys/\∀l,H l=none->Q (.ref l) (upd H l (.tup ys)))\/(SqT X.K H p ys/\Q (.ref p) H))):=by
 intro pins s σ H xs us Q I r h;obtain⟨p,ys,rfl,h⟩:=h;obtain⟨u,rfl,rx⟩:=vals1 r;cases rx;rcases h with⟨hq,q⟩|⟨hq,q⟩
 ·obtain⟨its,r',pl,hz⟩:=I.list hq;have hlen:=r'.length;refine call_tuple_list pl.isList (fun h' kp=>?_) (by simp only[Av]<;>lia);have I1:Inv X pins σ H { s with heap:=h' }:=I.kept (t':=s.toks) kp;have I2:Inv X pins σ (upd H h'.objs.size (.tup ys)) { s with heap:=h'.push { cls:=.type "tuple",data:=.seq its.toArray } } :=
   I1.laid (t':=s.toks) (fun b o e=>Ai _ e) (Ak _) (show ObjOk X.prog X.w _ _ _ (.tup ys) from⟨hz,its,r',Ta _ _⟩)
  exact⟨.ref h'.objs.size,_,I2,rfl,q _ (I1.hok.fresh (Ak _))⟩
 ·obtain⟨its,r',pl,hz⟩:=I.tuple hq;exact call_tuple_same pl ⟨.ref p,H,I,rfl,q⟩
def tyV(K:Ag)(T:String)(x:V)(H:Hp):Prop:=match x with
 |.str _=>T = "str"
 |.int _=>T = "int"
 |.ref p=>(T = "list" /\ ∃xs,SqL K H p xs)\/(T = "tuple" /\ ∃o,K.lookup p=some o/\o.cls=.type "tuple" /\ o.dict=none) \/
   (T = "dict" /\ ((∃kvs,H p=some (.dK kvs))\/∃kvs,H p=some (.dT kvs)))\/(T = "set" /\ ∃S n,H p=some (.set S n))
 |_=>False
theorem x1n{σ:St}(I:Inv X pins σ H s)(r:RelV x v)(ty:tyV X.K T x H):
  s.TypeIs v T/\∀a,v=.ref a->∃ob,s.heap.get? a=some ob/\ob.dict=none:=by
 cases x with
 |str z =>
  obtain⟨t,rfl⟩:=r;cases(show T = "str" from ty);exact⟨Jj s z t,fun _ e=>nomatch e⟩
 |int i =>
  obtain⟨t,rfl⟩:=r;cases(show T = "int" from ty);exact⟨Sn s i t,fun _ e=>nomatch e⟩
 |ref p =>
  cases r;rcases ty with⟨rfl,xs,hq⟩|⟨rfl,o,hk,hc,hd⟩|⟨rfl,hk⟩|⟨rfl,S,n,hk⟩
  ·obtain⟨its,_,pl,_⟩:=I.list hq;refine⟨pl.isList.typeIs,fun a e=>?_⟩;cases e;obtain⟨o,n,e,c,hd,_⟩:=pl;exact⟨o,e,hd⟩
  ·refine⟨⟨o,I.kIn p o hk,hc⟩,fun a e=>?_⟩;cases e;exact⟨o,I.kIn _ o hk,hd⟩
  ·have z:∃o,s.heap.get? p=some o/\o.ExactDict:=by
    rcases hk with⟨kvs,hk⟩|⟨kvs,hk⟩
    ·obtain⟨_,_,_,_,o,_,_,e,ex,_⟩:=I.hok p _ hk;exact⟨o,e,ex⟩
    ·obtain⟨_,_,_,_,o,_,_,e,ex,_⟩:=I.hok p _ hk;exact⟨o,e,ex⟩
   obtain⟨o,e,ex⟩:=z;refine⟨⟨o,e,ex.1⟩,fun a e2=>?_⟩;cases e2;exact⟨o,e,ex.2.1⟩
  ·obtain⟨o,_,_,_,e,ex,_⟩:=I.hok p _ hk;refine⟨⟨o,e,ex.1⟩,fun a e2=>?_⟩;cases e2;exact⟨o,e,ex.2.1⟩
 |_=>exact False.elim ty
def tBM0(K:Ag)(T:String)(r:V->List V->Hp->VK->Prop)(to:TE):TE:=fun σ H Q=>to σ H fun x H1=>tyV K T x H1/\r x [] H1 Q
def tBM(K:Ag)(T:String)(r:V->List V->Hp->VK->Prop)(to:TE)(t:TA):TE:=fun σ H Q=>to σ H fun x H1=>tyV K T x H1/\t σ H1 fun xs H2=>r x xs H2 Q
variable{o e:Expr}{es:List Expr}{to:TE}{t:TA}{name:Str}{apos cpos:Pos}{T id:String}{r:V->List V->Hp->VK->Prop}
theorem pe_bm0(pa:Pd T)(slot:Slot T name id)(hty:typeOf (.builtin id)=pure (.type "method_descriptor"))(hm:MtR X id r)(ho:PE X o to)(hbase:Gm o name X.env (eval o X.env)=eval o X.env:=by rfl)(hline:(apos.endLine==cpos.line)=true:=by rfl):PE X (.Call (.Attribute o name apos) [] [] cpos) (tBM0 X.K T r to):=by
 intro pins s σ H Q I h;refine wpAny_Call_method0_late hbase hline (thn (ho pins s σ H _ I h) fun v s1 ⟨x,H1,I1,r1,ty,q1⟩=>?_);obtain⟨h1,h2⟩:=x1n I1 r1 ty;exact⟨T,id,pa,slot,hty,h1,h2,Nx rfl (PySem.evalArgs_none (hm pins s1 σ H1 x [] v [] Q I1 r1 .nil q1))⟩
theorem pe_bm(pa:Pd T)(slot:Slot T name id)(hty:typeOf (.builtin id)=pure (.type "method_descriptor"))(hm:MtR X id r)(ho:PE X o to)(ha:PA X (e::es) t)(hbase:Gm o name X.env (eval o X.env)=eval o X.env:=by rfl)(hfew:((Eu cpos (Bi (e::es) X.env)).all (fun x => !x.1)&&(My cpos (Jw [] X.env)).all (fun x=>x.1.isSome)
   && decide ((e::es).length+([]:List Sx).length+(if ([]:List Sx).isEmpty then 0 else 1)<30))=true:=by rfl)(hline:(apos.endLine==cpos.line)=true:=by rfl)(hs:Bi (e::es) X.env=(false,eval e X.env)::Bi es X.env:=by rfl)(hplain:(Eu cpos (Bi es X.env)).any (·.1)=false:=by rfl):
  PE X (.Call (.Attribute o name apos) (e::es) [] cpos) (tBM X.K T r to t):=by
 intro pins s σ H Q I h;refine wpAny_Call_method_late hbase hfew hline rfl (thn (ho pins s σ H _ I h) fun v s1 ⟨x,H1,I1,r1,ty,q1⟩=>?_);obtain⟨h1,h2⟩:=x1n I1 r1 ty;refine⟨T,id,pa,slot,hty,h1,h2,?_⟩;have hA:=ha cpos pins s1 σ H1 _ I1 q1;rw[hs] at hA ⊢;refine Nx (by show(false||(Eu cpos (Bi es X.env)).any (·.1))=false;rw[hplain]<;>rfl) (Calls.evalArgs_plain ?_);exact thn hA fun us s2 ⟨vs,H2,I2,r2,q2⟩=>hm pins s2 σ H2 x vs v us Q I2 r1 r2 q2
end
open PySem PySem.Spec PyProof.Rows
def MtM(X:Cx)(id:String)(r:V->List V->Hp->VK->Prop):Prop :=
 ∀(pins:List (Addr×Obj)) (s:Ae) (σ:St) (H:Hp) (x:V) (xs:List V) (v:Value) (us:List Value) (Q:VK),Inv X pins σ H s->RelV x v->Vals xs us->r x xs H Q ->
  wpAny (model X.prog X.w) X.A (call (.builtin id) (v::us)) (EP X pins σ Q) X.xe s
theorem Vals.one:∀{x:V} {us:List Value},Vals [x] us->∃u,us=[u]/\RelV x u
 |_,_,.cons r .nil=>⟨_,rfl,r⟩
theorem Vals.two:∀{x y:V} {us:List Value},Vals [x,y] us->∃u v,us=[u,v]/\RelV x u/\RelV y v
 |_,_,_,.cons r (.cons q .nil)=>⟨_,_,rfl,r,q⟩
theorem Vals.zero:∀{us:List Value},Vals [] us->us=[]
 |_,.nil=>rfl
theorem Vals.dropLast(h:Vals xs us):Vals xs.dropLast us.dropLast:=by
 induction h with
 |nil=>exact .nil
 |cons r t ih =>
  cases t with
  |nil=>exact .nil
  |cons q t'=>exact .cons r ih
theorem Vals.eraseIdx:∀{xs:List V} {us:List Value} (i:Nat),Vals xs us->Vals (xs.eraseIdx i) (us.eraseIdx i)
 |_,_,_,.nil=>.nil
 |_,_,0,.cons _ t=>t
 |_,_,i+1,.cons r t=>.cons r (Vals.eraseIdx i t)
theorem Vals.reverse(h:Vals xs us):Vals xs.reverse us.reverse:=by
 induction h with
 |nil=>exact .nil
 |cons r t ih=>rw[Ra,Ra];exact Vals.append ih (.cons r .nil)
theorem Vals.rep{xs:List V}{us:List Value}(h:Vals xs us):∀k:Nat,Vals (List.replicate k xs).flatten (List.replicate k us).flatten
 |0=>.nil
 |k+1=>by
  rw[Lg,Lg,Js,Js];exact Vals.append h (Vals.rep h k)
theorem q9n{α:Type}:∀(l:List α) (i:Nat),(l.eraseIdx i).length<=l.length
 |[],_=>Ak _
 |_::_,0=>Lo _
 |_::r,i+1=>Nat.succ_le_succ (q9n r i)
theorem q9o(its:List Value):∀(k:Nat) (acc:List Value),
  List.foldl (fun x1 x2=>x1++x2) acc.toArray (List.replicate k its.toArray)=(acc++(List.replicate k its).flatten).toArray
 |0,acc=>by simp
 |k+1,acc=>by
  have e:acc.toArray++its.toArray=(acc++its).toArray:=by simp
  have e2:(acc++its)++(List.replicate k its).flatten=acc++(List.replicate (k+1) its).flatten:=by grind
  rw[<- e2,<- q9o its k (acc++its),<- e,Lg,List.foldl_cons]
section
variable{X:Cx}{pins:List (Addr×Obj)}{σ:St}{H:Hp}{s:Ae}{l b:Addr}{xs ys zs:List V}
theorem Inv.lset{its:List Value}(I:Inv X pins σ H s)(hH:H l=some (.lst xs))(e:s.heap.get? l=some { cls:=.type "list",data:=.seq its.toArray n })(hf:f its.toArray=its'.toArray)(hv:Vals ys its')(hz:ys.length<=sizeLine):
  Inv X pins σ (upd H l (.lst ys)) { s with heap:=s.heap.update l (Ex f),toks:=t' }:=by
 have q:=PySem.IsL.update e f;rw[hf] at q;refine I.write (by rw[hH];exact trivial) (.inl rfl) (fun b' u hb hu=>(Ec s.heap (Ex f) (Dd hb)).trans hu) ⟨_,q⟩ ?_;exact⟨hz,its',_,hv,q⟩
theorem Inv.lnew(I:Inv X pins σ H s)(hv:Vals ys its)(hz:ys.length<=sizeLine):
  Inv X pins σ (upd H s.heap.objs.size (.lst ys)) { s with heap:=s.heap.push { cls:=.type "list",data:=.seq its.toArray },toks:=t' } :=
 I.laid (fun _ _ q=>Ai _ q) (Ak _) ⟨hz,its,0,hv,Ar _ rfl⟩
theorem Inv.fresh(I:Inv X pins σ H s):H s.heap.objs.size=none:=I.hok.fresh (Ak _)
theorem Inv.lstM(I:Inv X pins σ H s)(hH:H l=some (.lst xs)):xs.length<=sizeLine/\∃(its:List Value) (n:Nat),Vals xs its/\xs.length=its.length/\s.heap.get? l=some { cls:=.type "list",data:=.seq its.toArray n }:=by
 obtain⟨z,its,n,r,e⟩:=I.hok l _ hH;exact⟨z,its,n,r,r.length,e⟩
theorem notLongL(h:n<=sizeLine):Iz n=false:=by
 exact decide_eq_false (by lia)
end
section
variable{X:Cx}
def rAppend:V->List V->Hp->VK->Prop:=fun x vs H Q=>∃l xs y,x=.ref l/\vs=[y]/\H l=some (.lst xs)/\xs.length<sizeLine/\Q .non (upd H l (.lst (xs++[y])))
theorem q2g:MtM X "list.append" rAppend:=by
 intro pins s σ H x vs v us Q I rx rv h;obtain⟨l,xs,y,rfl,rfl,hH,hz,q⟩:=h;cases rx;obtain⟨u,rfl,ru⟩:=rv.one;obtain⟨z,its,n,r,hl,e⟩:=I.lstM hH;refine Gp F.slot_list_append ⟨_,e,rfl⟩ F.entry_list_append (F.args_list_append_2 _ _) (PySem.list_append l its.toArray n u (by rw[Av];lia)) ⟨e,?_⟩;refine⟨.non,_,I.lset (its':=its++[u]) hH e (by simp) (r.append (.cons ru .nil)) ?_,rfl,q⟩;rw[Af,Ce];lia
def rExtend:V->List V->Hp->VK->Prop:=fun x vs H Q=>∃l b xs zs,x=.ref l/\vs=[.ref b]/\H l=some (.lst xs)/\H b=some (.lst zs)/\xs.length+zs.length<=sizeLine/\Q .non (upd H l (.lst (xs++zs)))
theorem z5s:MtM X "list.extend" rExtend:=by
 intro pins s σ H x vs v us Q I rx rv h;obtain⟨l,b,xs,zs,rfl,rfl,hH,hB,hz,q⟩:=h;cases rx;obtain⟨u,rfl,ru⟩:=rv.one;cases ru;obtain⟨z,its,n,r,hl,e⟩:=I.lstM hH;obtain⟨z2,its2,n2,r2,hl2,e2⟩:=I.lstM hB;have hsz:its.toArray.size+its2.toArray.size<=sizeLine:=by grind
 have hlong:¬(!its.toArray.isEmpty&&Iz (its.toArray.size+its2.toArray.size))=true:=by
  rw[notLongL hsz,Bool.and_false];exact Bh
 refine Gp F.slot_list_extend ⟨_,e,rfl⟩ F.entry_list_extend (F.args_list_extend_2 _ _)
  (AutoSeq1.list_extend_list_list_0 l its.toArray n b its2.toArray n2 hlong (by rw[Av];lia) (by lia)) ⟨e,e2,?_⟩
 refine⟨.non,_,I.lset (its':=its++its2) hH e (by simp) (r.append r2) ?_,rfl,q⟩;rw[Af];lia
def rPopAt:V->List V->Hp->VK->Prop:=fun x vs H Q=>∃l xs i k y,x=.ref l/\vs=[.int i]/\H l=some (.lst xs) /\ -(2^63)<=i/\i<2^63/\seqIndex? i xs.length=some k/\xs[k]?=some y/\Q y (upd H l (.lst (xs.eraseIdx k)))
theorem z9n:MtM X "list.pop" rPopAt:=by
 intro pins s σ H x vs v us Q I rx rv h;obtain⟨l,xs,i,k,y,rfl,rfl,hH,h1,h2,hk,hy,q⟩:=h;cases rx;obtain⟨u,rfl,ru⟩:=rv.one;obtain⟨t,rfl⟩:=ru;obtain⟨z,its,n,r,hl,e⟩:=I.lstM hH;obtain⟨w,hw,rw'⟩:=r.get hy;refine Gp F.slot_list_pop ⟨_,e,rfl⟩ F.entry_list_pop (F.args_list_pop_2 _ _)
  (MeetsSeq.list_pop_at l its.toArray n i t k w (fitsIndex_both h1 h2) (by rw[Av,<- hl];exact hk) (by rw[<- Fg];exact hw) (by rw[Av];lia)) ⟨e,?_⟩
 refine⟨y,_,I.lset (its':=its.eraseIdx k) hH e ?_ (r.eraseIdx k) ?_,rw',q⟩
 ·simp_all
 ·have:=q9n xs k;lia
def rCat:R2:=fun x y H Q=>∃l b xs zs,x=.ref l/\y=.ref b/\H l=some (.lst xs)/\H b=some (.lst zs)/\xs.length+zs.length<=sizeLine/\∀p,H p=none->Q (.ref p) (upd H p (.lst (xs++zs)))
theorem op_cat:OpR X (Ej .Add) rCat:=by
 intro pins s σ H x y v u Q I rx ry h;obtain⟨l,b,xs,zs,rfl,rfl,hH,hB,hz,q⟩:=h;cases rx;cases ry;obtain⟨z,its,n,r,hl,e⟩:=I.lstM hH;obtain⟨z2,its2,n2,r2,hl2,e2⟩:=I.lstM hB;refine PySem.P.add_list e e2 ?_ (by rw[Av,Av];lia);have ea:its.toArray++its2.toArray=(its++its2).toArray:=by simp
 rw[ea];exact⟨.ref _,_,I.lnew (t':=s.toks) (r.append r2) (by rw[Af];lia),rfl,q _ I.fresh⟩
def rRep:R2:=fun x y H Q=>∃l k xs,x=.ref l/\y=.int k/\H l=some (.lst xs) /\ -(2^63)<=k/\k<2^63/\xs.length*k.toNat<=sizeLine /\
 ∀p,H p=none->Q (.ref p) (upd H p (.lst (List.replicate k.toNat xs).flatten))
theorem x2v{α:Type}(xs:List α)(k:Nat):(List.replicate k xs).flatten.length=k*xs.length:=by simp_all
theorem op_rep:OpR X (Ej .Mult) rRep:=by
 intro pins s σ H x y v u Q I rx ry h;obtain⟨l,k,xs,rfl,rfl,hH,h1,h2,hz,q⟩:=h;cases rx;obtain⟨t,rfl⟩:=ry;obtain⟨z,its,n,r,hl,e⟩:=I.lstM hH;have hlen:its.toArray.size*k.toNat<=sizeLine:=by simp_all
 have hcap:¬its.toArray.size*k.toNat>(2^63-1) / 8:=by
  have:(sizeLine:Nat)<=(2^63-1) / 8:=by decide
  lia
 have hfit:¬(!Builtin.List.listFitsIndex k)=true:=by
  rw[fitsIndex_both h1 h2];exact Bh
 have hlong:¬Iz (its.toArray.size*k.toNat)=true:=by
  rw[notLongL hlen];exact Bh
 have hnew:List.foldl (fun x1 x2=>x1++x2) #[] (List.replicate (if its.toArray.isEmpty=true then 0 else k.toNat) its.toArray)=(List.replicate k.toNat its).flatten.toArray:=by
  have f0:∀m:Nat,List.foldl (fun x1 x2=>x1++x2) #[] (List.replicate m its.toArray)=(List.replicate m its).flatten.toArray:=fun m=>by
   have:=q9o its m [];exact this
  cases its with
  |nil=>simp
  |cons a r'=>grind
 refine wpAny_binaryOp_repeat_ref (by decide) ⟨_,e,rfl⟩ (fun s'=>Sn s' k t) noFill_list_mul F.fills_int_mul So repeat_list F.slot_int_index.lookup
  (Gp So (Sn s k t) F.entry_int_rmul (F.args_int_rmul_2 _ _) (int___rmul___int_list k t l its.toArray n)
   ⟨e,rfl,⟨_,e,rfl⟩,Gp F.slot_list_mul ⟨_,e,rfl⟩ F.entry_list_mul (F.args_list_mul_2 _ _) (AutoListH.list___mul___list_int_3 l its.toArray n k t hfit hcap hlong) ⟨e,?_⟩⟩)
 rw[hnew];exact⟨.ref _,_,I.lnew (t':=s.toks) (r.rep k.toNat) (by rw[x2v,Nat.mul_comm];exact hz),rfl,q _ I.fresh⟩
end
end L2
namespace Att
open PySem PySem.W PySem.Calls PyProof.Rows
theorem q6k:∀(ns:List Int) (vs:List Value),WellAll P h vs (ns.map WData.int)->Qx vs ns:=by
 intro ns;induction ns with
 |nil =>
  intro vs w;cases w;exact .nil
 |cons n ns ih =>
  intro vs w;cases w with
  |cons a b =>
   cases a;exact .cons _ _ (ih _ b)
theorem z5t{l:OpenLaw}(hn:l.most=some n)(hpre:l.row.toRowW.claim.pre args=true)(hwl:WellAll P h vals args):
  ∃a vs ns,vals=[Value.ref a]/\args=[WData.list (ns.map WData.int)]/\h.get? a=some { cls:=.type "list",data:=.seq vs.toArray }/\Qx vs ns/\ns.length<=n:=by
 have hsh:=(pre_splitW hpre).1;have hc:l.pre.holds [] { args:=args }=true:=(pre_splitW hpre).2;obtain⟨d,r,rfl,h1,h2⟩:=hasAllW_cons hsh;obtain rfl:=hasAllW_nil h2;obtain⟨xs,rfl,h3⟩:=hasW_list h1;obtain⟨ns,rfl⟩:=items_int h3;have hlen:ns.length<=n:=by
  have h4:(WTm.not (.lt (.lit (.int (n:Int))) (.len (.arg 0)))).holds [] { args:=[.list (ns.map .int)] }=true:=by
   have h4:=(holds_andW hc).1;rw[hn] at h4;exact h4
  have h5:=condW_of h4 (w_not (w_lt w_lit (w_len_list (w_arg rfl))));first
   |(rw[decide_eq_true q'] at h5;exact absurd h5 (by decide))
   |(simp at h5;lia)
 cases hwl with
 |cons w1 w2 =>
  cases w2;cases w1 with
  |list ho hall=>exact⟨_,_,ns,rfl,rfl,ho,q6k ns _ hall,hlen⟩
theorem z5u(l:OpenLaw)(args:List WData):l.row.toRowW.claim.post args (.bool true) args=true :=
 postW_of
  (show WShape.has [] (.bool true) .bool=true by first|rfl|decide|simp[WShape.has,WShape.arms,WShape.armsAll])
  (show(WTm.eq .res (.lit (.bool true))).value [] { args:=args,res:=some (.bool true),after:=args }=some (.bool (true==true)) from w_eq_bool (w_res rfl) w_lit) rfl
theorem attach_call{l:OpenLaw}(hn:l.most=some n)(hdf:d.params.defaults=[])(call:∀(w:World) (s₀ s₁:Ae) (mg mb:Str->Option Value) (fa:Addr) (o:Obj) (pm cd doc:Value) (a:Addr) (vs:List Value) (ns:List Int),
   Ground q loose [] XP w s₀ mg mb s₁.heap->YP w s₁.heap ->
   s₁.heap.get? fa=some o->o.data=.func (docDef d.name d.params d.body d.scope pm cd doc)->s₁.heap.CodeRec cd d.name->mg d.name=some (.ref fa) ->
   s₁.heap.get? a=some { cls:=.type "list",data:=.seq vs.toArray }->Qx vs ns->ns.length<=n->s₁.gens=#[] ->
   Fz (model l.prog w) Ms (.call (.ref fa) ⟨[.ref a],[]⟩) (fun r s'=>r=.ok (.ret (.bool true))/\OldK s₁.heap s'.heap/\s'.os=s₁.os/\Ki s'.gens) s₁):
  WalkO q loose XP YP l.row.toRowW d [] (fun f vs=>Sq f vs):=by
 intro w s₀ s₁ mg mb G Y fa o pm cd doc dV kV ho hd hcd hD hmg hg args vals as hpre hlay hrd hwl hlo;obtain rfl:dV=.none:=Dflts.none hD hdf;obtain rfl:kV=.none:=Dflts.noKw hD;obtain⟨a,vs,ns,rfl,rfl,hobj,hints,hlen⟩:=z5t hn hpre hwl;refine enter_call (Ha (call w s₀ s₁ mg mb fa o pm cd doc a vs ns G Y ho (fd_plain hd) hcd hmg hobj hints hlen hg) fun r s' hq=>?_);obtain⟨rfl,h2,h3,h4⟩:=hq;exact⟨.inl ⟨.bool true,.bool true,[],rfl,fun _=>rfl,.bool true,z5u l _,fun _=>⟨List.Pairwise.nil,fun _ hm=>(nomatch hm)⟩⟩,h2,h3,h4⟩
end Att
namespace L2
open PySem PySem.Spec PyProof.Rows
theorem q9p:∀{vs:List Value} {ns:List Int},Qx vs ns->Vals (ns.map V.int) vs
 |_,_,.nil=>.nil
 |_,_,.cons n t h=>.cons ⟨t,rfl⟩ (q9p h)
def Only(H:Hp):Prop:=∀b,H b=none\/∃o xs,H b=some (.frz o (.lst xs))
theorem z9o{K:Ag}(KX:K.In s₁.heap)(hns:s₁.heap.Ns Cj mg)(hb:s₁.heap.Ns builtinsNs mb)(hbb:∀x:Str,x ≠ "__name__" -> mb x=Gd x)(hlim:s₁.heap.NoLimit)(hg:s₁.gens=#[])(ha:s₁.heap.get? a=some { cls:=.type "list",data:=.seq vs.toArray })(hi:Qx vs ns)(hl:ns.length<=sizeLine)(hr:Room k Ms)(F:∀base:Heap,K.In base->base.Ns Cj mg->FnOk P w K mg base CX k fa fd [x] sp)(hbind:∀(s:Ae) (u:Value),Oj s fd ⟨[u],[]⟩ [(x,u)])(hsp:∀H:Hp,Only H->SqL K H a (ns.map V.int)->sp [.ref a] H (fun v _=>v=.bl true) fun _ _ _=>False)(hCX:∀H e s',CX [] H s₁ (fun _ _ _=>False) e s'->False):
  Fz (model P w) Ms (.call (.ref fa) ⟨[.ref a],[]⟩) (fun r s'=>r=.ok (.ret (.bool true))/\OldK s₁.heap s'.heap/\s'.os=s₁.os/\Ki s'.gens) s₁:=by
 have rv:=q9p hi;have lenV:=hi.length;have core:∀H:Hp,Only H->SqL K H a (ns.map V.int)->HOk P w H s₁.heap->(∀b,H b≠none->b=a)->(H a≠none->K.lookup a=none) ->
   Fz (model P w) Ms (.call (.ref fa) ⟨[.ref a],[]⟩) (fun r s'=>r=.ok (.ret (.bool true))/\OldK s₁.heap s'.heap/\s'.os=s₁.os/\Ki s'.gens) s₁:=by
  intro H hO hS hok hA hK;have base_of:∀{b:Addr} {o:Obj},s₁.heap.get? b=some o->H b=none->(hidT s₁.heap H).get? b=some o:=fun e n=>z9b e n;have noA:∀{b:Addr} {o:Obj} {es:Array Lq} {ep:Nat},s₁.heap.get? b=some o->o.data=.dict es ep->H b=none:=fun{b o es ep} e d=>by
   cases q:H b with
   |none=>rfl
   |some u =>
    have e':=hA b (by rw[q];simp);subst e';rw[ha] at e;cases e;have d':=d;cases d'
  have nsK:∀{b:Addr} {m:Str->Option Value},s₁.heap.Ns b m->(hidT s₁.heap H).Ns b m:=fun{b m} ⟨o,es,ep,e,d,r⟩=>⟨o,es,ep,base_of e (noA e d),d,r⟩
  have hKb:=fun b o e=>base_of (KX b o e) (by
   cases q:H b with
   |none=>rfl
   |some u =>
    have e':=hA b (by rw[q];simp);subst e';rw[hK (by rw[q];simp)] at e;cases e)
  have hM:Mod K mg (hidT s₁.heap H):=⟨hKb,nsK hns,⟨mb,nsK hb,hbb⟩,let ⟨mc,h1,h2⟩:=hlim;⟨mc,nsK h1,h2⟩⟩
  have e0:Env0 P w K mg (hidT s₁.heap H) Ms [] s₁ H:=⟨rfl,hM,fun b o e=>x2n e,Io (z5b _ _),trivial,fun b hb=>absurd (show b∈([]:List Addr) from hb) (by simp),hok,.of_eq hg⟩
  refine Ha ((F _ hKb (nsK hns)).run Ms [] s₁ H ⟨[.ref a],[]⟩ [.ref a] [.ref a] _ _ hr e0 (hbind s₁ (.ref a)) (.cons rfl .nil) (hsp H hO hS)) fun r s' h=>?_;cases r with
  |error e=>exact(hCX H e s' h).elim
  |ok fl =>
   cases fl with
   |next=>exact False.elim h
   |brk=>exact False.elim h
   |cont=>exact False.elim h
   |ret u =>
    obtain⟨v,H',os,bare,un,hok',r',q⟩:=h;have q':=q;subst q';obtain rfl:u=Value.bool true:=r';refine⟨rfl,OldK.of_keep fun b o e=>?_,os,bare⟩;cases q:H b with
    |none=>exact un.keep b o e q (by intro z;exact absurd (show b∈([]:List Addr) from z) (by simp)) (by simp)
    |some u =>
     rcases hO b with z|⟨ob,xs,z⟩
     ·grind
     ·have z2:=un.frzs b ob _ z;obtain⟨e1,_⟩:=hok b _ z;obtain⟨e2,_⟩:=hok' b _ z2;rw[e] at e1;cases e1;exact e2
 cases hk:K.lookup a with
 |some o =>
  have e:=KX a o hk;rw[ha] at e;cases e;refine core (fun _=>none) (fun _=>.inl rfl) (.inr ⟨_,vs.toArray,_,hk,rfl,rfl,rfl,by rw[Av,lenV];exact hl,by simpa using rv⟩) (fun b u z=>by have z':(none:Option HO)=some u:=z;cases z') (fun b z=>absurd rfl z) fun z=>absurd rfl z
 |none =>
  refine core (fun b=>if b=a then some (.frz { cls:=.type "list",data:=.seq vs.toArray } (.lst (ns.map V.int))) else none) (fun b=>?_) (.inl (.inr ⟨{ cls:=.type "list",data:=.seq vs.toArray },if_pos rfl⟩)) (fun b u z=>?_) (fun b z=>?_) fun _=>hk
  ·by_cases hb:b=a
   ·simp_all
   ·simp_all
  ·by_cases hb:b=a
   ·have z':=(if_pos hb).symm.trans z;cases z';subst hb;exact⟨ha,by rw[Aa];exact hl,vs,_,rv,ha⟩
   ·grind
  ·grind
theorem walk_of{l:Tb}{K:Params->Ag}{CX:World->CXT}{sp:World->Sp}(hn:l.most=some n)(hn2:n<=sizeLine)(hdf:d.params.defaults=[])(hr:Room k Ms)(hY:∀(w:World) (h:Heap),YP w h->(K w.params).In h)(F:∀(w:World) (mg:Str->Option Value) (fa:Addr) (h:Heap),(K w.params).In h->h.Ns Cj mg->mg d.name=some (.ref fa) ->
   ∃fd:Ip,(∀(s:Ae) (u:Value),Oj s fd ⟨[u],[]⟩ [(x,u)]) /\
    ∀base:Heap,(K w.params).In base->base.Ns Cj mg->FnOk l.prog w (K w.params) mg base (CX w) k fa fd [x] (sp w))(hsp:∀(w:World) (H:Hp) (a:Addr) (ns:List Int),ns.length<=n->Only H->SqL (K w.params) H a (ns.map V.int)->sp w [.ref a] H (fun v _=>v=.bl true) fun _ _ _=>False)(hCX:∀(w:World) (H:Hp) (s:Ae) (e:Value) (s':Ae),CX w [] H s (fun _ _ _=>False) e s'->False):
  W.WalkO q loose XP YP l.row.toRowW d [] (fun f vs=>Sq f vs):=by
 refine Att.attach_call hn hdf fun w s₀ s₁ mg mb fa o pm cd doc a vs ns G Y ho hd hcd hmg hobj hints hlen hg=>?_;have KX:=hY w _ Y;obtain⟨fd,hb,hF⟩:=F w mg fa _ KX G.T.g hmg;exact z9o KX G.T.g G.T.b G.T.builtins G.T.nolimit hg hobj hints (Cq hlen hn2) hr hF hb (fun H hO hS=>hsp w H a ns hlen hO hS) fun H e s'=>hCX w H s₁ e s'
def inClass(s:Stmt)(j:Nat):Stmt:=match s with
 |.ClassDef _ _ _ body _ _ _ _ _ _ _=>body.getD j (.Pass ⟨0,0,0,0⟩)
 |_=>.Pass ⟨0,0,0,0⟩
def defArgs(s:Stmt):Arguments:=match s with
 |.FunctionDef _ a _ _ _ _ _ _ _ _=>a
 |_=>{ posonlyargs:=[],args:=[],vararg:=none,kwonlyargs:=[],kw_defaults:=[],kwarg:=none,defaults:=[] }
def defBody(s:Stmt):List Stmt:=match s with
 |.FunctionDef _ _ b _ _ _ _ _ _ _=>b
 |_=>[]
def defScope(s:Stmt):Scope:=match s with
 |.FunctionDef _ _ _ _ _ _ sc _ _ _=>sc
 |_=>{ kind:=.function,names:=[],isGenerator:=false,isCoroutine:=false }
abbrev CX0:CXT:=fun _ _ _ _ _ _=>False
abbrev E0:XK:=fun _ _ _=>False
theorem pass0:Passes CX0 X E0:=fun _ _ _ _ _ _ _ h=>h.elim
structure Fun (K:Ag) (x qual:Str) (st:Stmt) (f:Addr) (fd:Ip):Prop where
 ex:∃(oc:Value) (od:Option Addr) (kV doc pm:Value) (an:Option Addr) (cdv ct:Value) (osl:Array (Option Value)),
  fd=Gg x qual (defArgs st) (defBody st) (defScope st) .none kV doc pm an cdv ct/\K.lookup f=some ⟨oc,od,.func fd,osl⟩/\Hq K cdv qual=true
 kp:Fn K (.ref f)=true
section
variable{P:Program}{w:World}{K:Ag}{mg:Str->Option Value}{base:Heap}
theorem Fun.ok{st:Stmt}(F:Fun K x qual st f fd)(S:FnScope N ps (defScope st))(len:∀vs H Q E,sp vs H Q E->vs.length=ps.length)(hbody:∀(cdv:Value) (A:Around) (outer:List Env) (s:Ae) (H:Hp) (vs:List V) (Q:VK) (E:XK),Room k (A.deeper (Hy qual (defScope st) s.heap.objs.size f cdv))->sp vs H Q E ->
   ∃t,PSs (cxOf CX0 P w K mg base N qual (defScope st) f cdv A outer s H E).nox (defBody st) t/\t { nx:=fun _ H'=>Q .non H',rt:=Q } (start N vs) H):FnOk P w K mg base CX0 (k+1) f fd ps sp:=by
 obtain⟨oc,od,kV,doc,pm,an,cdv,ct,osl,rfl,lk,hcd⟩:=F.ex;refine x2u lk hcd S len fun A outer s H vs Q E hr hsp=>?_
 obtain⟨t,h,q⟩:=hbody cdv A outer s H vs Q E hr hsp;exact⟨t,h.nox,q⟩
theorem Fun.binds{st:Stmt}(F:Fun K x qual st f fd)(h:∀(kV doc pm:Value) (an:Option Addr) (cdv ct:Value) (us:List Value),us.length=ps.length->bindArgs (Gg x qual (defArgs st) (defBody st) (defScope st) .none kV doc pm an cdv ct) ⟨us,[]⟩=pure (ps.zip us)):Binds K fd ps []:=by
 obtain⟨oc,od,kV,doc,pm,an,cdv,ct,osl,rfl,lk,hcd⟩:=F.ex;exact .all (h kV doc pm an cdv ct)
theorem q7u{st:Stmt}{kV:Value}(l:K.lookup f=some ⟨oc,od,.func (Gg x qual (defArgs st) (defBody st) (defScope st) .none kV doc pm an cdv ct),osl⟩)(c:Hq K cdv qual=true)(k:Fn K (.ref f)=true):Fun K x qual st f (Gg x qual (defArgs st) (defBody st) (defScope st) .none kV doc pm an cdv ct):=⟨⟨oc,od,kV,doc,pm,an,cdv,ct,osl,rfl,l,c⟩,k⟩
end
theorem q7j(hr:Room k A):A.units+1<cLine:=Lv (Nat.add_le_add_left (by decide:1<=64) _) hr.units
section
variable{X:Cx}
theorem pv(i:Nat){x:Str}{pos:Pos}(hN:X.N[i]?=some x:=by rfl)(hv:Vis X.env.scope x:=by first|exact Or.inl rfl|exact Or.inr (Or.inl rfl)|exact Or.inr (Or.inr rfl))(hd:(x==("__debug__" : Str))=false:=by decide)(hcd:(x==("__classdict__" : Str))=false:=by decide):PE X (.Name x pos) (tVar i):=pe_var hN hv hd hcd
end
theorem iteF{B:Prop}(h:B):if false=true then A else B:=by
 exact h
theorem iteT{B:Prop}(h:A):if true=true then A else B:=by
 exact h
theorem ite2{B:Prop}[Decidable c](h1:c->A)(h2:¬c->B):if c then A else B:=by grind
def Same(H H':Hp):Prop:=∀b o,H b=some o->H' b=some o
theorem Same.refl(H:Hp):Same H H:=fun _ _ h=>h
theorem Same.trans(a:Same H H1)(b:Same H1 H2):Same H H2:=fun c o h=>b c o (a c o h)
theorem Same.free(e:Same H H')(h:H' l=Option.none):H l=Option.none:=by
 cases q:H l with
 |none=>rfl
 |some o =>
  rw[e l o q] at h;cases h
theorem Same.seq{K:Ag}(e:Same H H')(h:SqL K H a xs):SqL K H' a xs:=by
 rcases h with(h|⟨o,h⟩)|h
 ·exact .inl (.inl (e _ _ h))
 ·exact .inl (.inr ⟨o,e _ _ h⟩)
 ·exact .inr h
open PySem PySem.Spec PyProof.Rows
abbrev Caps:=List (Str×Nat)
def capV(σ:St):Caps->St
 |[]=>[]
 |(_,i)::r=>(σ[i]?).join::capV σ r
def CapOk(X:Cx)(scope:Scope):Caps->Prop
 |[]=>True
 |(x,i)::r=>(X.N[i]?=some x/\scope.names.lookup x=some .free/\(X.env.scope.names.lookup x=some .cell\/X.env.scope.names.lookup x=some .free))/\CapOk X scope r
def cxComp(X:Cx)(N:List Str)(scope:Scope)(cl:List (Str×Addr))(C:Addr)(fp:List Addr)(s:Ae)(H:Hp):Cx where
 prog:=X.prog
 w:=X.w
 K:=X.K
 mg:=X.mg
 base:=X.base
 A:=X.A
 N:=N
 s₀:=s
 H₀:=H
 env:=Ek scope cl C X.env
 outer:=X.stack
 stack:=X.stack
 ex:=fp
 fn:=fun _=>false
 calm:=X.calm
 pn:=[]
 xe:=fun _ _=>False
theorem z4e(names:List (Str×Bb))(hh:∀x,(x,Bb.free)∈names->∃c,env.cells.lookup x=some c):∀acc:List (Str×Addr),
  ∃cl,(forIn names acc (fun(x:Str×Bb) (r:List (Str×Addr))=>match x with
   |(name,kind)=>if (kind==Bb.free)=true then do let a<-cellOf env name;pure (ForInStep.yield ((name,a)::r)) else pure (ForInStep.yield r)):Sem (List (Str×Addr)))=pure cl /\
   (∀x c,(x,c)∈cl->(x,c)∈acc\/env.cells.lookup x=some c)/\(∀x,((x,Bb.free)∈names\/∃c,(x,c)∈acc)->∃c,(x,c)∈cl):=by
 induction names with
 |nil=>intro acc;exact⟨acc,rfl,fun x c h=>.inl h,fun x h=>h.elim (fun z=>nomatch z) id⟩
 |cons n r ih =>
  intro acc;obtain⟨name,kind⟩:=n;by_cases hk:kind=Bb.free
  ·subst hk;obtain⟨c,hc⟩:=hh name Aj;obtain⟨cl,e,h1,h2⟩:=ih (fun x hx=>hh x (Ah _ hx)) ((name,c)::acc);refine⟨cl,?_,fun x d hd=>?_,fun x hx=>?_⟩
   ·rw[Np];have:cellOf env name=pure c:=by unfold cellOf;rw[hc]
    simp only[beq_self_eq_true,if_true,this];exact e
   ·rcases h1 x d hd with z|z
    ·rcases Ba.mp z with z|z
     ·cases z;exact .inr hc
     ·exact .inl z
    ·exact .inr z
   ·refine h2 x ?_;rcases hx with hx|⟨d,hd⟩
    ·rcases Ba.mp hx with z|z
     ·simp_all
     ·exact .inl z
    ·grind
  ·obtain⟨cl,e,h1,h2⟩:=ih (fun x hx=>hh x (Ah _ hx)) acc;refine⟨cl,?_,h1,fun x hx=>h2 x ?_⟩
   ·simp_all
   ·grind
theorem q8m{cl:List (Str×Addr)}(h:(x,c)∈cl):∃d,cl.lookup x=some d:=by
 induction cl with
 |nil=>cases h
 |cons y r ih =>
  obtain⟨n,a⟩:=y;cases e:x==n with
  |true=>simp_all
  |false =>
   rcases Ba.mp h with z|z
   ·cases z;simp at e
   ·obtain⟨d,hd⟩:=ih z;exact⟨d,by simp only[Hr,e];exact hd⟩
theorem z4f(hh:∀x,(x,Bb.free)∈scope.names->∃c,env.cells.lookup x=some c):
  ∃cl,Sr scope env=pure cl/\(∀x c,cl.lookup x=some c->env.cells.lookup x=some c)/\∀x,(x,Bb.free)∈scope.names->∃c,cl.lookup x=some c:=by
 obtain⟨cl,e,h1,h2⟩:=z4e scope.names hh [];refine⟨cl,?_,fun x c h=>?_,fun x hx=>?_⟩
 ·unfold Sr;have e2:=congrArg (fun m:Sem (List (Str×Addr))=>m >>= fun cs=>(pure cs:Sem _)) e;exact e2
 ·rcases h1 x c (Eb h) with z|z
  ·cases z
  ·exact z
 ·obtain⟨c,hc⟩:=h2 x (.inl hx);exact q8m hc
theorem q3x{env:Env}{k:Bb}(hk:k=.cell\/k=.free):∀{names:List (Str×Bb)} {x:Str},(∀y∈names,y.2≠.cell) ->
  (names.map fun(n,k)=>if (k==Bb.free&&env.scope.kind==.function&&env.kindOf n==some .cell) then(n,Bb.cell) else(n,k)).lookup x=some k->(x,Bb.free)∈names
 |[],_,_,h=>by simp at h
 |(n,k')::r,x,hc,h=>by
  have ih:=@q3x env k hk r x fun y hy=>hc y (Ah _ hy);by_cases c:(k'==Bb.free&&env.scope.kind==.function&&env.kindOf n==some .cell)=true
  ·have h':((n,Bb.cell)::r.map fun(n,k)=>if (k==Bb.free&&env.scope.kind==.function&&env.kindOf n==some .cell) then(n,Bb.cell) else(n,k)).lookup x=some k:=by
    have e:(if (k'==Bb.free&&env.scope.kind==.function&&env.kindOf n==some .cell)=true then(n,Bb.cell) else(n,k'))=(n,Bb.cell):=if_pos c;rw[<- e];exact h
   cases e:x==n with
   |true =>simp_all
   |false=>exact Ah _ (ih (by simp only[Hr,e] at h';exact h'))
  ·have h':((n,k')::r.map fun(n,k)=>if (k==Bb.free&&env.scope.kind==.function&&env.kindOf n==some .cell) then(n,Bb.cell) else(n,k)).lookup x=some k:=by
    have e:(if (k'==Bb.free&&env.scope.kind==.function&&env.kindOf n==some .cell)=true then(n,Bb.cell) else(n,k'))=(n,k'):=if_neg c;rw[<- e];exact h
   cases e:x==n with
   |true =>simp_all
   |false=>exact Ah _ (ih (by simp only[Hr,e] at h';exact h'))
theorem q5l{env:Env}:∀{names:List (Str×Bb)} {x:Str},names.lookup x=some .free ->
    ((names.map fun(n,k)=>if (k==Bb.free&&env.scope.kind==.function&&env.kindOf n==some .cell) then(n,Bb.cell) else(n,k)).lookup x=some .cell \/
     (names.map fun(n,k)=>if (k==Bb.free&&env.scope.kind==.function&&env.kindOf n==some .cell) then(n,Bb.cell) else(n,k)).lookup x=some .free)
  |[],_,h=>by simp at h
  |(n,k')::r,x,h=>by
    have ih:=@q5l env r x;by_cases c:(k'==Bb.free&&env.scope.kind==.function&&env.kindOf n==some .cell)=true
    · have e:(if (k'==Bb.free&&env.scope.kind==.function&&env.kindOf n==some .cell)=true then(n,Bb.cell) else(n,k'))=(n,Bb.cell):=if_pos c;show(List.lookup x ((if (k'==Bb.free&&env.scope.kind==.function&&env.kindOf n==some .cell)=true then(n,Bb.cell) else(n,k'))::_)=_\/List.lookup x ((if (k'==Bb.free&&env.scope.kind==.function&&env.kindOf n==some .cell)=true then(n,Bb.cell) else(n,k'))::_)=_);rw[e];cases ex:x==n with
      |true=>simp_all
      |false =>
        simp only[Hr,ex] at h ⊢;exact ih h
    · have e:(if (k'==Bb.free&&env.scope.kind==.function&&env.kindOf n==some .cell)=true then(n,Bb.cell) else(n,k'))=(n,k'):=if_neg c;show(List.lookup x ((if (k'==Bb.free&&env.scope.kind==.function&&env.kindOf n==some .cell)=true then(n,Bb.cell) else(n,k'))::_)=_\/List.lookup x ((if (k'==Bb.free&&env.scope.kind==.function&&env.kindOf n==some .cell)=true then(n,Bb.cell) else(n,k'))::_)=_);rw[e];cases ex:x==n with
      |true =>simp_all
      |false =>
        simp only[Hr,ex] at h ⊢;exact ih h
theorem q6l(σ:St):∀caps:Caps,(capV σ caps).length=caps.length
 |[]=>rfl
 |(_,_)::r=>congrArg (· + 1) (q6l σ r)
theorem z2t:∀{caps:Caps} {j:Nat} {x:Str} {v:V},CapOk X scope caps->(caps.map (·.1))[j]?=some x->(capV σ caps)[j]?=some (some v) ->
  ∃i:Nat,X.N[i]?=some x/\σ[i]?=some (some v)/\scope.names.lookup x=some .free/\(X.env.scope.names.lookup x=some .cell\/X.env.scope.names.lookup x=some .free)
 |[],_,_,_,_,h,_=>by simp at h
 |(y,i)::r,0,x,v,hc,h1,h2=>by
  simp at h1;subst h1;have e:(σ[i]?).join=some v:=by simpa[capV] using h2
  refine⟨i,hc.1.1,?_,hc.1.2⟩;cases q:σ[i]? with
  |none=>rw[q] at e;cases e
  |some z=>simp_all
 |(y,i)::r,j+1,x,v,hc,h1,h2=>z2t hc.2 (by simpa using h1) (by simpa[capV] using h2)
def tg0(tg:List Str)(σ:St)(caps:Caps):St:=tg.map (fun _=>none)++capV σ caps
theorem Inv.ofcomp{σ:St}{C:Addr}(tg:List Str)(I:Inv X pins σ H s)(hkind:scope.kind=.function)(hnc:∀y∈scope.names,y.2≠.cell)(hc1:∀x c,cl.lookup x=some c->X.env.cells.lookup x=some c)(hc2:∀x,(x,Bb.free)∈scope.names->∃c,cl.lookup x=some c)(hf:∀b∈fp,FpOk X pins H b)(hfo:∀b∈fp,∃o,s.heap.get? b=some o)(hC:s.heap.objs.size<=C)(hns:h₁.Ns C m)(hk:∀b o,s.heap.get? b=some o->h₁.get? b=some o)(co:CapOk X scope caps):
  Inv (cxComp X (tg++caps.map (·.1)) scope cl C fp s H) [] (tg0 tg σ caps) H { s with heap:=h₁,toks:=tk }:=by
 have hfs:∀b∈fp,b∉frs X.stack:=fun b hb hx=>by
  rcases Ba.mp (I.stkSub b hx) with z|z
  ·exact(hf b hb).2.1 z
  ·exact(hf b hb).2.2.1 z
 have ok:(cxComp X (tg++caps.map (·.1)) scope cl C fp s H).Ok:=by
  refine⟨I.ok.mod,hkind,I.ok.glob,I.ok.blt,hC,fun x y c h1 h2=>I.ok.inj x y c (hc1 x c h1) (hc1 y c h2),fun x hx=>?_,fun x c h=>(nomatch h),I.ok.hd,I.ok.frames,.inl rfl,fun b hb=>⟨?_,fun x c h=>(hf b hb).2.2.2.2.1 x c (hc1 x c h)⟩,
   I.bs,Cq I.ok.bsz I.sz,fun b o e hb=>?_,hfs,I.stack,I.stkFree⟩
  ·rcases hx with hx|hx
   ·exact hc2 x (q3x (.inl rfl) hnc hx)
   ·exact hc2 x (q3x (.inr rfl) hnc hx)
  ·obtain⟨o,e⟩:=hfo b hb;exact Bg (Bl (Ap e) hC)
  ·rcases(hf b hb).2.2.2.1 with z|z
   ·exact I.ok.noex b o e z
   ·exact absurd (Bl (Ap (I.ok.bs b o e).1) z) (Ep _)
 refine⟨ok,rfl,I.bare,Un.kept hk,⟨m,hns,fun j x v h1 h2 h3=>?_⟩,fun x c h=>?_,I.hok.fresh hC,fun x c h=>I.freeC x c (hc1 x c h),fun p hp=>(nomatch hp),I.hok.kept hk,?_⟩
 ·have h1':(tg++caps.map (·.1))[j]?=some x:=h1;have h2':(tg.map (fun _=>none)++capV σ caps)[j]?=some (some v):=h2;by_cases hj:j<tg.length
  ·rw[Dh (by simpa using hj),Au] at h2';cases e:tg[j]? with
   |none=>grind
   |some z=>simp_all
  ·rw[Cz (by simpa using hj)] at h2' h1';rw[Aa] at h2';obtain⟨i,e1,e2,e3,e4⟩:=z2t co h1' h2';obtain⟨mX,hn,hl⟩:=I.loc;obtain⟨u,r,l⟩:=hl i x v e1 e2 (.inr e4);refine⟨u,r,?_⟩;have key:∃c,X.env.cells.lookup x=some c/\s.heap.IsCell c (some u):=by
    rcases l with⟨k,_⟩|⟨_,c,e,z⟩
    ·have k':X.env.scope.names.lookup x=some .local:=k;rcases e4 with e4|e4 <;> · rw[e4] at k';cases k'
    ·exact⟨c,e,z⟩
   obtain⟨c,ec,o,ho,hd⟩:=key;obtain⟨d,ed⟩:=hc2 x (Eb e3);have hdc:=Dg ((hc1 x d ed).symm.trans ec);subst hdc;exact .inr ⟨q5l e3,d,ed,o,hk _ o ho,hd⟩
 ·obtain⟨v,o,ho,hd⟩:=I.cell x c (hc1 x c h);exact⟨v,o,hk _ o ho,hd⟩
 ·show(tg.map (fun _=>(none:Option V))++capV σ caps).length=(tg++caps.map (·.1)).length;rw[Af,Af,Aa,Aa,q6l]
def PIfs(X:Cx)(ifs:List Expr)(t:TT):Prop :=
 ∀(pins:List (Addr×Obj)) (s:Ae) (σ:St) (H:Hp) (Q:Bool->Hp->Prop),Inv X pins σ H s->t σ H Q ->
  wpAny (model X.prog X.w) X.A (forIn ifs true fun c r=>if r=true then do let ok<-isTrue c X.env (eval c X.env);pure (ForInStep.yield ok) else pure (ForInStep.yield r)) (TP X pins σ Q) X.xe s
def tIf0:TT:=fun _ H Q=>Q true H
theorem q1f:PIfs X [] tIf0:=fun pins s σ H Q I h=>wpAny_tests_nil ⟨H,I,h⟩
theorem x2w{X:Cx}{c:Expr}{t:TT}(h:PT X c t):PIfs X [c] t:=fun pins s σ H Q I q=>wpAny_tests_one (h pins s σ H Q I q)
def Keeps0(σ0 σ2:St):Prop:=σ0.length=σ2.length/\∀(i:Nat) v,σ0[i]?=some (some v)->σ2[i]?=some (some v)
def CompW(J:It)(g:TG)(tt:TT)(te:TE)(σ0:St)(D:Addr)(Fin:List V->Hp->Prop)(H1:Hp):Prop :=
 ∃W:Nat->Nat->List V->Hp->Prop,(∃m,W 0 m [] (upd H1 D (.lst [])))/\∀i m ys H,W i m ys H->H D=some (.lst ys) /\
  ((J.stop i H/\Fin ys H)\/(J.go i H/\∃N:List V->Hp->Prop,(∀zs H',N zs H'->∃m',m'<m/\W (i+1) m' zs H')/\∀x H',J.yld i H x H'->g x σ0 H' fun σ2 H2=>Keeps0 σ0 σ2/\tt σ2 H2 fun b H3 =>
   if b=true then te σ2 H3 fun v H4=>H4 D=some (.lst ys)/\ys.length<sizeLine/\N (ys++[v]) (upd H4 D (.lst (ys++[v])))
   else N ys H3))
theorem z2u{σ:St}{Fin:Addr->List V->Hp->Prop}{RR:Value->Addr->Result->Ae->Prop}(hc:X.calm=true)(hkind:scope.kind=.function)(hnc:∀y∈scope.names,y.2≠.cell)(hc1:∀x c,cl.lookup x=some c->X.env.cells.lookup x=some c)(hc2:∀x,(x,Bb.free)∈scope.names->∃c,cl.lookup x=some c)(co:CapOk X scope caps)(hg:∀C s H,PG (cxComp X (tg++caps.map (·.1)) scope cl C fp s H) target g)(ht:∀C s H,PIfs (cxComp X (tg++caps.map (·.1)) scope cl C fp s H) ifs tt)(he:∀C s H,PE (cxComp X (tg++caps.map (·.1)) scope cl C fp s H) elt te)(I2:Inv X pins σ H1 s₂)(T:Turn X.prog X.w X.K target J fp it tn)(st:tn 0 s₂.heap)(hf:∀b∈fp,FpOk X pins H1 b)(hw:∀D,H1 D=none->CompW J g tt te (tg0 tg σ caps) D (Fin D) H1)(hRR:∀D C ys H' s',H1 D=none->Inv X pins σ H' s'->(∃m,s'.heap.Ns C m)->FpOk X pins H' C->Fin D ys H'->RR (.ref D) C (.ok .next) s'):
  wpAny (model X.prog X.w) X.A (newList []) (fun acc s₃=>wpAny (model X.prog X.w) X.A (newFunctionEnv scope X.env.globals cl [] X.env.qual none .none (some X.env)) (fun cenv s₄ =>
   Fz (model X.prog X.w) X.A (.compStart (.ListComp elt [⟨target,iter,ifs,0⟩] scope pos) 0 (.ref it) acc { cenv with scope:=relabel scope X.env }) (RR acc cenv.locals) s₄) E s₃) E s₂:=by
 have I3:Inv X pins σ (upd H1 s₂.heap.objs.size (.lst [])) { s₂ with heap:=s₂.heap.push { cls:=.type "list",dict:=none,data:=.seq ([]:List Value).toArray },toks:=s₂.toks }:=I2.lnew .nil (Br _);have hD0:=I2.fresh;refine Bt (Pe hnc (by intro y hy;simp at hy) (fun h₁ hns₁ hsb₁=>?_) hkind);dsimp only at hns₁ hsb₁ ⊢;generalize hDd:s₂.heap.objs.size=D at I3 hD0 hns₁ hsb₁ ⊢;generalize hs3:({ s₂ with heap:=s₂.heap.push { cls:=.type "list",dict:=none,data:=.seq ([]:List Value).toArray } }:Ae)=s₃ at I3 hns₁ hsb₁ ⊢;have e3:s₂.heap.push { cls:=.type "list",dict:=none,data:=.seq ([]:List Value).toArray }=s₃.heap:=by grind
 have o3:({ s₂ with heap:=h₁,toks:=s₂.toks+([]:List (Str×Value)).length }:Ae)={ s₃ with heap:=h₁,toks:=s₂.toks }:=by grind
 have size3:s₃.heap.objs.size=D+1:=by rw[<- e3,Ga,hDd]
 rw[e3] at hns₁ hsb₁ ⊢;have old3:∀b o,s₂.heap.get? b=some o->s₃.heap.get? b=some o:=fun b o e=>by rw[<- e3];exact Ai _ e
 generalize hCd:s₃.heap.objs.size=C at hns₁ hsb₁ ⊢;have hk:=fun b o e=>hsb₁.extBut b o (by rw[<- hCd];exact Bg (Ap e)) (Ai _ e);have fpo:∀b∈fp,∃o,s₂.heap.get? b=some o:=fun b hb=>by obtain⟨o,e,_⟩:=T.obj 0 _ st b hb;exact⟨o,e⟩
 have fpne:∀b∈fp,b≠D:=fun b hb=>by obtain⟨o,e⟩:=fpo b hb;rw[<- hDd];exact Bg (Ap e)
 have hf3:∀b∈fp,FpOk X pins (upd H1 D (.lst [])) b:=fun b hb=>⟨by rw[q0e (fpne b hb)];exact(hf b hb).1,(hf b hb).2⟩
 have IY:=Inv.ofcomp (tk:=s₂.toks) tg I3 hkind hnc hc1 hc2 hf3 (fun b hb=>let ⟨o,e⟩:=fpo b hb;⟨o,old3 b o e⟩) (Io hCd) hns₁ hk co;have FC:FpOk X pins H1 C:=by
  have z:=I3.fpOk (H':=H1) (Io hCd) (I2.hok.fresh (by rw[hDd,<- hCd,size3];exact Lo _));exact z
 generalize hY:cxComp X (tg++caps.map (·.1)) scope cl C fp s₃ (upd H1 D (.lst []))=Y at IY;have hgY:PG Y target g:=by grind
 have htY:PIfs Y ifs tt:=by grind
 have heY:PE Y elt te:=by grind
 have hYp:Y.prog=X.prog:=by rw[<- hY];rfl
 have hYw:Y.w=X.w:=by rw[<- hY];rfl
 have hYK:Y.K=X.K:=by rw[<- hY];rfl
 have hYA:Y.A=X.A:=by rw[<- hY];rfl
 have hYe:Y.env=Ek scope cl C X.env:=by rw[<- hY];rfl
 have hYx:Y.ex=fp:=by rw[<- hY];rfl
 have hYn:Y.pn=[]:=by rw[<- hY];rfl
 have hYc:Y.calm=true:=by rw[<- hY];exact hc
 have hYxe:Y.xe=fun _ _=>False:=by rw[<- hY];rfl
 have fpY:∀{H':Hp},(∀b∈fp,H' b=none)->∀b∈fp,FpOk Y [] H' b:=fun{H'} hn b hb=>by
  refine⟨hn b hb,?_,?_,.inl (by rw[hYx];exact hb),fun x c e=>?_,fun p hp=>?_⟩
  ·have:=(IY.ok.exf b (by rw[hYx];exact hb)).1;exact this
  ·exact IY.ok.exfs b (by rw[hYx];exact hb)
  ·exact(IY.ok.exf b (by rw[hYx];exact hb)).2 x c e
  ·grind
 obtain⟨W,⟨m0,w0⟩,turn⟩:=hw D hD0;have stY:=T.keep 0 _ _ st fun b hb o e=>hk b o (old3 b o e)
 have back:∀{H':Hp} {s':Ae} {σ':St},Inv Y [] σ' H' s'->Inv X pins σ H' s':=fun{H' s' σ'} IE=>by
  have hun:=IE.base;have hos:=IE.os;rw[<- hY] at hun hos;exact I3.call' hos hun (by have z:=IE.hok;rw[hYp,hYw] at z;exact z) IE.bare fun b hb=>⟨(hf b hb).2.2.2.1,(hf b hb).2.1,(hf b hb).2.2.2.2.1,(hf b hb).2.2.2.2.2⟩
 have gY:∀pins s σ H v u Q (E':Value->Ae->Prop),Inv Y pins σ H s->RelV v u->g v σ H Q->wpAny (model X.prog X.w) X.A (assign target (Ek scope cl C X.env) u) (fun _ s'=>∃σ' H',Inv Y pins σ' H' s'/\Q σ' H') E' s:=fun pins s σ H v u Q E' IE r q=>by
  have z:=hgY pins s σ H v u Q IE r q;rw[hYp,hYw,hYA,hYe,hYxe] at z;exact Cb z (fun _ _ x=>x) fun _ _ f=>f.elim
 have tY:∀pins s σ H Q (E':Value->Ae->Prop),Inv Y pins σ H s->tt σ H Q->wpAny (model X.prog X.w) X.A (forIn ifs true fun c r=>if r=true then do let ok<-isTrue c (Ek scope cl C X.env) (eval c (Ek scope cl C X.env));pure (ForInStep.yield ok) else pure (ForInStep.yield r)) (TP Y pins σ Q) E' s:=fun pins s σ H Q E' IE q=>by
  have z:=htY pins s σ H Q IE q;rw[hYp,hYw,hYA,hYe,hYxe] at z;exact Cb z (fun _ _ x=>x) fun _ _ f=>f.elim
 have eY:∀pins s σ H Q (E':Value->Ae->Prop),Inv Y pins σ H s->te σ H Q->wpAny (model X.prog X.w) X.A (eval elt (Ek scope cl C X.env)) (EP Y pins σ Q) E' s:=fun pins s σ H Q E' IE q=>by
  have z:=heY pins s σ H Q IE q;rw[hYp,hYw,hYA,hYe,hYxe] at z;exact Cb z (fun _ _ x=>x) fun _ _ f=>f.elim
 have aY:∀pins s σ H ys v u Q (E':Value->Ae->Prop),Inv Y pins σ H s->RelV v u->H D=some (.lst ys)->ys.length<sizeLine->Q .non (upd H D (.lst (ys++[v])))->wpAny (model X.prog X.w) X.A (call (.builtin "list.append") [.ref D,u]) (EP Y pins σ Q) E' s:=fun pins s σ H ys v u Q E' IE r hH hz q=>by
  have z:=q2g pins s σ H (.ref D) [v] (.ref D) [u] Q IE rfl (.cons r .nil) ⟨D,ys,v,rfl,rfl,hH,hz,q⟩;rw[hYp,hYw,hYA,hYxe] at z;exact Cb z (fun _ _ x=>x) fun _ _ f=>f.elim
 have tiY:∀i pins s σ H (E':Value->Ae->Prop),Inv Y pins σ H s->(∀b∈fp,FpOk Y pins H b)->tn i s.heap->J.go i H ->
   wpAny (model X.prog X.w) X.A (Gz (.ref it)) (fun r s1=>∃u,r=some u /\
    wpAny (model X.prog X.w) X.A (Ii target (.ref it) u) (fun _ s2=>∃x H',Inv Y pins σ H' s2/\RelV x u/\J.yld i H x H'/\tn (i+1) s2.heap/\∀b∈fp,H' b=none) E' s1) E' s:=fun i pins s σ H E' IE hfy st go=>by
  have z:=T.item Y hYp hYw hYK hYc i pins s σ H E' IE hfy st go;rw[hYA] at z;exact z
 have tdY:∀i pins s σ H (E':Value->Ae->Prop),Inv Y pins σ H s->(∀b∈fp,FpOk Y pins H b)->tn i s.heap->J.stop i H ->
   wpAny (model X.prog X.w) X.A (Gz (.ref it)) (fun r s1=>r=none/\Inv Y pins σ H s1) E' s:=fun i pins s σ H E' IE hfy st go=>by
  have z:=T.done Y hYp hYw hYK hYc i pins s σ H E' IE hfy st go;rw[hYA] at z;exact z
 have loop:Fz (model X.prog X.w) X.A (.compLoop (.ListComp elt [⟨target,iter,ifs,0⟩] scope pos) 0 (.ref it) (.ref D) (Ek scope cl C X.env)) (RR (.ref D) C) { s₃ with heap:=h₁,toks:=s₂.toks }:=by
  refine codeAny_loop rfl (fun n s'=>∃i ys H',Inv Y [] (tg0 tg σ caps) H' s'/\tn i s'.heap/\(∀b∈fp,H' b=none)/\W i n ys H') ?_ m0 ⟨0,[],_,IY,stY,fun b hb=>(hf3 b hb).1,w0⟩;rintro n s4 ⟨i,ys,H4,I4,st4,fr4,w4⟩;refine wpAny_noted ?_;obtain⟨hHD,alt⟩:=turn i n ys H4 w4;rcases alt with⟨stop,fin⟩|⟨go,N,hN,step⟩
  ·refine Ab (Fm (Ab (thn (tdY i [] s4 _ H4 _ I4 (fpY fr4) st4 stop) fun r s5 ⟨hr,I5⟩=>?_)));subst hr;refine Ac (hRR D C ys H4 s5 hD0 (back I5) ?_ ⟨?_,FC.2⟩ fin)
   ·obtain⟨m,hm,_⟩:=I5.loc;rw[hYe] at hm;exact⟨m,hm⟩
   ·have z:=I5.free;rw[hYe] at z;exact z
  ·refine Ab (Fm (Ab (thn (tiY i [] s4 _ H4 _ I4 (fpY fr4) st4 go) fun r s5 ⟨u,hr,h5⟩=>?_)));subst hr;refine Ab (thn h5 fun _ s6 ⟨x,H6,I6,r6,y6,st6,fr6⟩=>?_);have I6':=I6.pinned (fpY fr6) (T.obj _ _ st6);refine Ab (thn (gY _ s6 _ H6 x u _ _ I6' r6 (step x H6 y6)) fun _ s7 ⟨σ7,H7,I7,kp,q7⟩=>?_);refine Ab (thn (tY _ s7 σ7 H7 _ _ I7 q7) fun b s8 ⟨H8,I8,q8⟩=>?_);have again:∀{H9:Hp} {s9:Ae} {zs:List V} {m':Nat},Inv Y ([]++pinsAt fp s6.heap) σ7 H9 s9->m'<n->W (i+1) m' zs H9->∃m,m<n/\∃i ys H',Inv Y [] (tg0 tg σ caps) H' s9/\tn i s9.heap/\(∀b∈fp,H' b=none)/\W i m ys H':=fun{H9 s9 zs m'} I9 hm w9=>by
    refine⟨m',hm,i+1,zs,H9,I9.unpinned.weak kp.1 kp.2,T.keep _ _ _ st6 fun b hb o e=>(I9.pin (b,o) (Bo _ (Bo _ (q1x hb e)))).1,fun b hb=>?_,w9⟩;obtain⟨o,e,d⟩:=T.obj _ _ st6 b hb;exact(I9.pin (b,o) (Bo _ (Bo _ (q1x hb e)))).2.1
   cases b with
   |true =>
    refine Ab (Ab (thn (eY _ s8 σ7 H8 _ _ I8 q8) fun v s9 ⟨vv,H9,I9,r9,hH9,hz9,n9⟩=>?_));obtain⟨m',hm',w9⟩:=hN _ _ n9;refine Ab (thn (aY _ s9 σ7 H9 ys vv v (fun _ H10=>W (i+1) m' (ys++[vv]) H10) _ I9 r9 hH9 hz9 w9) fun _ s10 ⟨_,H10,I10,_,w10⟩=>?_);exact Ac (Ac ⟨rfl,again I10 hm' w10⟩)
   |false =>
    obtain⟨m',hm',w8⟩:=hN _ _ q8;exact Ac ⟨rfl,again I8 hm' w8⟩
 rw[o3];exact codeAny_compStart_list loop (T.self _ 0 _ _ _ stY loop)
def isCF(k:Option Bb):Bool:=k==some .cell||k==some .free
def capChk(N:List Str)(names outer:List (Str×Bb)):Caps->Bool
 |[]=>true
 |(x,i)::r=>decide (N[i]?=some x)&&(names.lookup x==some .free)&&isCF (outer.lookup x)&&capChk N names outer r
def compChk(N:List Str)(outer scope:Scope)(caps:Caps):Bool :=
 (scope.kind==.function)&&(scope.names.all fun y=>y.2 != .cell&&(y.2 != .local||scope.names.lookup y.1==some .local)&&(y.2 != .free||isCF (outer.names.lookup y.1)))&&capChk N scope.names outer.names caps
theorem z5v(h:isCF k=true):k=some .cell\/k=some .free:=by
 unfold isCF at h;simpa using h
theorem q9q:∀{caps:Caps},capChk X.N scope.names X.env.scope.names caps=true->CapOk X scope caps
 |[],_=>trivial
 |(x,i)::r,h=>by
  unfold capChk at h;simp only[Ci] at h;obtain⟨⟨⟨h1,h2⟩,h3⟩,h4⟩:=h;exact⟨⟨of_decide_eq_true h1,by simpa using h2,z5v h3⟩,q9q h4⟩
theorem q3n(h:compChk X.N X.env.scope scope caps=true):
  scope.kind=.function/\(∀y∈scope.names,y.2≠.cell)/\(∀y∈scope.names,y.2=.local->scope.names.lookup y.1=some .local)/\(∀x,(x,Bb.free)∈scope.names->X.env.scope.names.lookup x=some .cell\/X.env.scope.names.lookup x=some .free)/\CapOk X scope caps:=by
 unfold compChk at h;simp only[Ci,Gh] at h;obtain⟨⟨h1,h2⟩,h3⟩:=h;refine⟨by simpa using h1,fun y hy e=>?_,fun y hy e=>?_,fun x hx=>?_,q9q h3⟩
 ·have z:=(h2 y hy).1.1;rw[e] at z;simp at z
 ·have z:=(h2 y hy).1.2;rw[e] at z;simpa using z
 ·have z:=(h2 _ hx).2;exact z5v (by simpa using z)
def tComp(wi:TI)(g:TG)(tt:TT)(te:TE)(tg:List Str)(caps:Caps):TE:=fun σ H Q=>wi σ H fun J H1=>∀D,H1 D=none->CompW J g tt te (tg0 tg σ caps) D (fun _ H'=>Q (.ref D) H') H1
section
variable{X:Cx}{iter target elt:Expr}{ifs:List Expr}{scope:Scope}{pos:Pos}{wi:TI}{g:TG}{tt:TT}{te:TE}
theorem q8n{σ:St}(I:Inv X pins σ H s)(hfree:∀x,(x,Bb.free)∈scope.names->X.env.scope.names.lookup x=some .cell\/X.env.scope.names.lookup x=some .free):
  ∃cl,Sr scope X.env=pure cl/\(∀x c,cl.lookup x=some c->X.env.cells.lookup x=some c)/\∀x,(x,Bb.free)∈scope.names->∃c,cl.lookup x=some c :=
 z4f fun x hx=>I.ok.has x (hfree x hx)
theorem q1o(tg:List Str)(caps:Caps)(hc:X.calm=true)(hi:PI X target iter wi)(hg:∀cl C fp s H,PG (cxComp X (tg++caps.map (·.1)) scope cl C fp s H) target g)(ht:∀cl C fp s H,PIfs (cxComp X (tg++caps.map (·.1)) scope cl C fp s H) ifs tt)(he:∀cl C fp s H,PE (cxComp X (tg++caps.map (·.1)) scope cl C fp s H) elt te)(hk:compChk X.N X.env.scope scope caps=true:=by rfl)(hs:∀x,Gw iter X.env x=pure x:=by intro _;rfl):
  PE X (.ListComp elt [⟨target,iter,ifs,0⟩] scope pos) (tComp wi g tt te tg caps):=by
 intro pins s σ H Q I h;obtain⟨hkind,hnc,hnames,hfree,co⟩:=q3n hk;obtain⟨cl,hclos,hc1,hc2⟩:=q8n I hfree;refine Gi rfl hs hclos hkind hnames (thn (hi pins s σ H _ I h) fun v s1 h1=>thn h1 fun itv s2 h2=>?_);obtain⟨it,fp,tn,J,H2,e,I2,T,st2,f2,hw⟩:=h2;subst e;refine z2u hc hkind hnc hc1 hc2 co (fun C s H=>hg cl C fp s H) (fun C s H=>ht cl C fp s H) (fun C s H=>he cl C fp s H) I2 T st2 f2 hw ?_;intro D C ys H' s' hD I' hm F fin;obtain⟨m,hm⟩:=hm;refine⟨m,hm,fun h' hsb=>⟨.ref D,H',I'.turned (t':=s'.toks) (fun b o hb e=>(hsb.2 b hb).trans e) F.1 F.2.1 F.2.2.2.1 F.2.2.2.2.1 F.2.2.2.2.2,rfl,fin⟩⟩
def tSetC(wi:TI)(g:TG)(tt:TT)(te:TE)(tg:List Str)(caps:Caps)(i:Nat):TS:=fun D' σ H=>wi σ H fun J H1=>∀D,H1 D=none->CompW J g tt te (tg0 tg σ caps) D (fun _ H'=>D'.nx (σ.set i (some (.ref D))) H') H1
theorem q6m{i:Nat}{y:Str}{py spos:Pos}(tg:List Str)(caps:Caps)(hN:X.N.Nodup)(hiN:X.N[i]?=some y)(hx:Loc X.env.scope y)(hc:X.calm=true)(hi:PI X target iter wi)(hg:∀cl C fp s H,PG (cxComp X (tg++caps.map (·.1)) scope cl C fp s H) target g)(ht:∀cl C fp s H,PIfs (cxComp X (tg++caps.map (·.1)) scope cl C fp s H) ifs tt)(he:∀cl C fp s H,PE (cxComp X (tg++caps.map (·.1)) scope cl C fp s H) elt te)(hk:compChk X.N X.env.scope scope caps=true:=by rfl)(hs:∀x,Gw iter X.env x=pure x:=by intro _;rfl)(hsw:Kj (.ListComp elt [⟨target,iter,ifs,0⟩] scope pos) (some (.Name y py)) spos.line X.env=pure true:=by rfl)(hf:X.fn y=true\/X.env.scope.names.lookup y=some .local:=by first|exact .inl rfl|exact .inr rfl|assumption):
  PS X (.Assign [.Name y py] (.ListComp elt [⟨target,iter,ifs,0⟩] scope pos) spos) (tSetC wi g tt te tg caps i):=by
 intro pins s σ H D' I h;obtain⟨hkind,hnc,hnames,hfree,co⟩:=q3n hk;obtain⟨cl,hclos,hc1,hc2⟩:=q8n I hfree;rw[Ol _ _ _ _ hsw];refine Ab (Fm (Ab ?_));refine Ab (Cb (Gi (use:=some (assign (.Name y py) X.env)) rfl hs hclos hkind hnames
  (thn (hi pins s σ H _ I h) fun v s1 h1=>thn h1 fun itv s2 h2=>?_)) (fun _ s' hq=>Ac (Ac hq)) fun _ _ e=>e)
 obtain⟨it,fp,tn,J,H2,e,I2,T,st2,f2,hw⟩:=h2;subst e;refine z2u (RR:=fun acc C=>compPost (model X.prog X.w) X.A X.xe (some (assign (.Name y py) X.env)) (fun _ s'=>SP X pins D' .next s') acc C) (Fin:=fun D _ H'=>D'.nx (σ.set i (some (.ref D))) H') hc hkind hnc hc1 hc2 co (fun C s H=>hg cl C fp s H) (fun C s H=>ht cl C fp s H) (fun C s H=>he cl C fp s H) I2 T st2 f2 hw ?_;intro D C ys H' s' hD I' hm F fin;obtain⟨m,hm⟩:=hm;refine Mh (q5z (v:=.ref D) I' hN hiN hx rfl (fun s'' I'' hsb=>?_) hf);obtain⟨a,sb,ha⟩:=hsb;have hCa:C≠a:=by
  rcases ha with ha|ha
  ·rw[ha];exact F.2.1
  ·exact fun z=>F.2.2.2.2.1 y a ha z.symm
 refine⟨m,hm.sameBut sb hCa,fun h' hs'=>?_⟩;exact⟨_,H',I''.turned (t':=s''.toks) (fun b o hb e=>(hs'.2 b hb).trans e) F.1 F.2.1 F.2.2.2.1 F.2.2.2.2.1 F.2.2.2.2.2,fin⟩
end
theorem q8o{Fin:List V->Hp->Prop}(Pv:Nat->List V->Hp->Prop)(h0:Pv 0 [] (upd H1 D (.lst [])))(hl:∀i ys H,Pv i ys H->H D=some (.lst ys))(hgo:∀i ys H,i<n->Pv i ys H->J.go i H)(hstop:∀ys H,Pv n ys H->J.stop n H)(hs:∀i ys H x H',i<n->Pv i ys H->J.yld i H x H'->g x σ0 H' fun σ2 H2=>Keeps0 σ0 σ2/\tt σ2 H2 fun b H3 =>
   if b=true then te σ2 H3 fun v H4=>H4 D=some (.lst ys)/\ys.length<sizeLine/\Pv (i+1) (ys++[v]) (upd H4 D (.lst (ys++[v]))) else Pv (i+1) ys H3)(hd:∀ys H,Pv n ys H->Fin ys H):CompW J g tt te σ0 D Fin H1:=by
 refine⟨fun i m ys H=>m=n-i/\i<=n/\Pv i ys H,⟨n,by simp,Br _,h0⟩,?_⟩;rintro i m ys H ⟨rfl,hi,p⟩;refine⟨hl i ys H p,?_⟩;by_cases hlt:i<n
 ·exact .inr ⟨hgo i ys H hlt p,Pv (i+1),fun zs H' q=>⟨n-(i+1),by lia,rfl,hlt,q⟩,fun x H' y=>hs i ys H x H' hlt p y⟩
 ·grind
theorem z4g{lo:Int}{Fin:List V->Hp->Prop}(Pv:Nat->List V->Hp->Prop)(h0:Pv 0 [] (upd H1 D (.lst [])))(hl:∀i ys H,Pv i ys H->H D=some (.lst ys))(hs:∀i ys H,i<n->Pv i ys H->g (.int (lo+i)) σ0 H fun σ2 H2=>Keeps0 σ0 σ2/\tt σ2 H2 fun b H3 =>
   if b=true then te σ2 H3 fun v H4=>H4 D=some (.lst ys)/\ys.length<sizeLine/\Pv (i+1) (ys++[v]) (upd H4 D (.lst (ys++[v]))) else Pv (i+1) ys H3)(hd:∀ys H,Pv n ys H->Fin ys H):CompW (Itr lo n) g tt te σ0 D Fin H1 :=
 q8o Pv h0 hl (fun i ys H h _=>h) (fun ys H _=>Ak _) (fun i ys H x H' h p y=>by obtain⟨e,y⟩:=y;subst e y;exact hs i ys _ h p) hd
theorem q6n{K:Ag}{Fin:List V->Hp->Prop}(Pv:Nat->List V->Hp->Prop)(h0:Pv 0 [] (upd H1 D (.lst [])))(hl:∀i ys H,Pv i ys H->H D=some (.lst ys)/\SqL K H a xs)(hs:∀i ys H x,xs[i]?=some x->Pv i ys H->g x σ0 H fun σ2 H2=>Keeps0 σ0 σ2/\tt σ2 H2 fun b H3 =>
   if b=true then te σ2 H3 fun v H4=>H4 D=some (.lst ys)/\ys.length<sizeLine/\Pv (i+1) (ys++[v]) (upd H4 D (.lst (ys++[v]))) else Pv (i+1) ys H3)(hd:∀ys H,Pv xs.length ys H->Fin ys H):CompW (Itl K a) g tt te σ0 D Fin H1 :=
 q8o Pv h0 (fun i ys H p=>(hl i ys H p).1) (fun i ys H h p=>⟨xs,xs[i],(hl i ys H p).2,by simp[h]⟩) (fun ys H p=>⟨xs,(hl _ ys H p).2,Ak _⟩)
  (fun i ys H x H' h p y=>by obtain⟨e,y⟩:=y;subst e;exact hs i ys _ x (y xs (hl i ys _ p).2) p) hd
theorem q4v{r:St}:Keeps0 (none::r) (v::r):=⟨rfl,fun i w h=>by
 cases i with
 |zero=>cases h
 |succ i=>exact h⟩
theorem q2h{r:St}:Keeps0 (none::none::r) (v::w::r):=⟨rfl,fun i u h=>by
 cases i with
 |zero=>cases h
 |succ i=>cases i with
  |zero=>cases h
  |succ i=>exact h⟩
open PySem PySem.Spec PyProof.Rows
section
variable{X:Cx}
def rSlS:V->Option Int->Option Int->Hp->VK->Prop:=fun x lo hi H Q=>∃z,x=.str z/\z.length<=sizeLine/\Q (.str (Qo z lo hi)) H
theorem q6o(h:Jy v o):∃p:Option (Int×Tok),v=partValue p/\o=p.map (·.1):=by
 cases h with
 |none=>exact⟨none,rfl,rfl⟩
 |int i t=>exact⟨some (i,t),rfl,rfl⟩
theorem sl_str:SlR X rSlS:=by
 intro pins s σ H x v vl vu lo hi sl Q I rx hs pl pu h;obtain⟨z,rfl,hz,q⟩:=h;obtain⟨t,rfl⟩:=rx;obtain⟨p1,rfl,rfl⟩:=q6o pl;obtain⟨p2,rfl,rfl⟩:=q6o pu;refine⟨"str",_,F.slot_str_getitem.lookup,Jj _ _ _,wpAny_getItem_str_slice (st:=none) hs rfl
  (post_val_or_str ⟨Cq (Txt.slice_le z _ _) hz,fun t' k=>⟨.str (Qo z (p1.map (·.1)) (p2.map (·.1))),H,I.tok _,⟨t',rfl⟩,q⟩⟩)⟩
def rLower:V->List V->Hp->VK->Prop:=fun x vs H Q=>∃z,x=.str z/\vs=[]/\3*z.length<=sizeLine/\Q (.str (Txt.lower z)) H
theorem fit3(h:n<=3*m)(h2:3*m<=sizeLine):Dm.Str.tooLong n=false:=by
 exact decide_eq_false (by lia)
theorem z2v:MtM X "str.lower" rLower:=by
 intro pins s σ H x vs v us Q I rx rv h;obtain⟨z,rfl,rfl,hz,q⟩:=h;obtain⟨t,rfl⟩:=rx;cases rv.zero;exact SC.lower (fit3 (len_lower z) hz) ⟨.str _,H,I.tok _,⟨_,rfl⟩,q⟩
theorem q4w:∀{ys:List Str} {us:List Value},Vals (ys.map V.str) us->Gn us ys
 |[],_,.nil=>.nil
 |y::ys,_,.cons r t=>by obtain⟨k,rfl⟩:=r;exact .cons y k (q4w t)
theorem q3w:∀(l:List (Str×Tok)),Vals ((l.map (·.1)).map V.str) (strValues l)
 |[]=>.nil
 |(x,t)::r=>.cons ⟨t,rfl⟩ (q3w r)
def rJoin(K:Ag):V->List V->Hp->VK->Prop:=fun x vs H Q=>∃(z:Str) (p:Addr) (ys:List Str),x=.str z/\vs=[.ref p]/\(SqL K H p (ys.map V.str)\/SqT K H p (ys.map V.str))/\(ys.map (·.length)).sum+ys.length*z.length<=16777216/\Q (.str (Kd z ys)) H
theorem x2x:MtM X "str.join" (rJoin X.K):=by
 intro pins s σ H x vs v us Q I rx rv h;obtain⟨z,p,ys,rfl,rfl,hq,hz,q⟩:=h;obtain⟨t,rfl⟩:=rx;obtain⟨u,rfl,ru⟩:=rv.one;cases ru;rcases hq with hq|hq
 ·obtain⟨its,r,pl,_⟩:=I.list hq;exact join_list pl.isList (q4w (by simpa using r)) hz fun t' k=>⟨.str _,H,I.tok _,⟨_,rfl⟩,q⟩
 ·obtain⟨its,r,pl,_⟩:=I.tuple hq;exact join_tuple pl (q4w (by simpa using r)) hz fun t' k=>⟨.str _,H,I.tok _,⟨_,rfl⟩,q⟩
def rSplit:V->List V->Hp->VK->Prop:=fun x vs H Q=>∃z y,x=.str z/\vs=[.str y]/\(y.length==0)=false/\z.length+1<=sizeLine/\(Hm z y).length<=sizeLine/\(Nc z (Cn z y 0 z.length (z.length+1)) y.length).length<=sizeLine/\∀p,H p=none->Q (.ref p) (upd H p (.lst ((Hm z y).map V.str)))
theorem q8p:MtM X "str.split" rSplit:=by
 intro pins s σ H x vs v us Q I rx rv h;obtain⟨z,y,rfl,rfl,hy,hz,hz2,hz3,q⟩:=h;obtain⟨t,rfl⟩:=rx;obtain⟨u,rfl,ru⟩:=rv.one;obtain⟨t',rfl⟩:=ru;have fin:∀(l:List (Str×Tok)) (tk:Nat),l.map (·.1)=Hm z y->EP X pins σ Q (.ref s.heap.objs.size) { s with toks:=tk,heap:=s.heap.push { cls:=.type "list",data:=.seq (strValues l).toArray } }:=fun l tk e=>by
  refine⟨.ref s.heap.objs.size,_,I.lnew (t':=tk) (by rw[<- e];exact q3w l) (by rw[Aa];exact hz2),rfl,q _ I.fresh⟩
 cases h1:(decide (z.length<y.length)||decide (Px z<Px y))
 ·cases hf:(Cn z y 0 z.length (z.length+1)).isEmpty
  ·refine Gp Nd (Jj _ _ _) Mj (Lw _ _) (meets_str_split_sep z y t t' h1 hy hf (by lia) hz3) ?_;rw[strsFrom_eq];exact fin (numbered s.toks _) _ ((numbered_texts _ _).trans ((if_neg (ne_true_of_eq_false h1)).trans (if_neg (ne_true_of_eq_false hf))).symm)
  ·exact Gp Nd (Jj _ _ _) Mj (Lw _ _) (meets_str_split_not_found z y t t' h1 hy hf)
    (fin [(z,t)] _ ((if_neg (ne_true_of_eq_false h1)).trans (if_pos hf)).symm)
 ·exact Gp Nd (Jj _ _ _) Mj (Lw _ _) (meets_str_split_cannot_occur z y t t' h1)
   (fin [(z,t)] _ (if_pos h1).symm)
def rMulS:R2:=fun x y H Q=>∃z n,x=.str z/\y=.int n/\MulOk z n/\Q (.str (Txt.mul z n)) H
theorem op_mulS:OpR X (Ej .Mult) rMulS:=by
 intro pins s σ H x y v u Q I rx ry h;obtain⟨z,n,rfl,rfl,hm,q⟩:=h;obtain⟨t,rfl⟩:=rx;obtain⟨t',rfl⟩:=ry;exact SB.mul hm fun t2 k=>⟨.str _,H,I.tok _,⟨_,rfl⟩,q⟩
theorem q6p:∀{bs:List Bool} {us:List Value},Vals (bs.map V.bl) us->LSm.BoolsAre us bs
 |[],_,.nil=>.nil
 |b::bs,_,.cons r t=>by cases r;exact .cons b (q6p t)
theorem z9p(hc:X.calm=true):CallR X (.builtin "all") (fun xs H Q=>∃(p:Addr) (bs:List Bool),xs=[.ref p]/\SqL X.K H p (bs.map V.bl)/\Q (.bl (bs.all id)) H):=by
 intro pins s σ H xs us Q I r h;obtain⟨p,bs,rfl,hq,q⟩:=h;obtain⟨u,rfl,rx⟩:=vals1 r;cases rx;obtain⟨its,r',pl,hz⟩:=I.list hq;have hb:=q6p r';have hlt:p<s.heap.objs.size:=by obtain⟨_,e,_⟩:=pl.isList;exact Ap e
 refine call_all_walk (Rb pl.isList ?_);refine⟨s.heap.objs.size,[s.heap.objs.size,p],[s.heap.objs.size],its.toArray.size,_,_,fun i=>(bs[i]?).getD true,rfl,Walks.list (A:=X.A.in1) (I.ok.hd hc) _ p (Bg hlt) its.toArray,
  ⟨⟨_,Ar _ rfl,rfl,rfl⟩,pl.isList.push _⟩,fun i v s' Q' E' hP hQ=>?_,fun h' tk hk=>?_⟩
 ·obtain⟨b,e,rfl⟩:=hb.get i v (by simpa using hP);simp only[e,Option.getD_some] at hQ;exact Du hQ
 ·have e:((List.range its.toArray.size).all fun i=>(bs[i]?).getD true)=bs.all id:=by
   rw[Av,hb.length];exact LSm.range_all bs
  rw[e];exact⟨.bl _,H,I.kept (t':=tk) (LSm.kept_iter hk),rfl,q⟩
theorem z1h:CallR X (.builtin "isinstance") (fun xs H Q=>∃x c t b,xs=[x,.ty c]/\TyOf X.K H x t/\W.kitOne X.K t (.type c)=some b/\Q (.bl b) H):=by
 intro pins s σ H xs us Q I r h;obtain⟨x,c,t,b,rfl,ty,e,q⟩:=h;obtain⟨u,v,rfl,ru,rv⟩:=r.two;cases rv;exact z5k I ru ty e fun tk=>⟨.bl b,H,I.tok _,rfl,q⟩
def Its(z:Str):It:=⟨fun i _=>i<z.length,fun i H x H'=>H'=H/\∃c,z.cps[i]?=some c/\x=.str ⟨#[c]⟩,fun i _=>z.length<=i⟩
end
theorem z5w{K:Ag}(it:Addr)(z:Str)(t:Tok):Turn P w K tg (Its z) [it] it (fun i h=>i<=z.length/\h.IsStrIter it "str_ascii_iterator" z t i) where
 mem:=by simp
 obj:=fun i h st b hb=>by
  have e:b=it:=by grind
  subst e;obtain⟨_,o,e,c,d⟩:=st;exact⟨o,e,fun v z=>by rw[d] at z;cases z⟩
 keep:=fun i h h' st k=>⟨st.1,let ⟨o,e,c,d⟩:=st.2;⟨o,k it (by simp) o e,c,d⟩⟩
 item:=by
  intro X hP hw hK hc i pins s σ H E I hf st hg;obtain⟨f0,f1,f2,f3,f4,f5⟩:=hf it (by simp);have hi:i<z.cps.size:=hg;refine wpAny_pyNext_ascii_item st.2 (c:=z.cps[i]) (by simp[hi]) fun h' hit' hs'=>?_;have I1:Inv X pins σ H { s with heap:=h',toks:=s.toks+1 }:=I.turned (fun b o hb e=>(hs'.2 b hb).trans e) f0 f1 f3 f4 f5;obtain⟨o,e,c,d⟩:=id hit';exact⟨_,rfl,z1g e c d (by decide) ⟨.str ⟨#[z.cps[i]]⟩,H,I1,⟨_,rfl⟩,⟨rfl,_,by simp[hi],rfl⟩,⟨hg,hit'⟩,fun b hb=>(hf b hb).1⟩⟩
 done:=by
  intro X hP hw hK hc i pins s σ H E I hf st hg;obtain⟨f0,f1,f2,f3,f4,f5⟩:=hf it (by simp);have hi:z.cps.size<=i:=hg;exact wpAny_pyNext_ascii_end (I.ok.hd hc) st.2 (by simp;lia) fun h' eb=>⟨rfl,I.turned (t':=s.toks) (fun b o hb e=>eb b o hb e) f0 f1 f3 f4 f5⟩
 self:=fun _ _ _ _ _ st h=>wpAny_pyIter_striter_ascii st.2 h
theorem z5x{K:Ag}(it:Addr)(z:Str)(t:Tok):Turn P w K tg (Its z) [it] it (fun i h=>i<=z.length/\h.IsStrIter it "str_iterator" z t i) where
 mem:=by simp
 obj:=fun i h st b hb=>by
  have e:b=it:=by grind
  subst e;obtain⟨_,o,e,c,d⟩:=st;exact⟨o,e,fun v z=>by rw[d] at z;cases z⟩
 keep:=fun i h h' st k=>⟨st.1,let ⟨o,e,c,d⟩:=st.2;⟨o,k it (by simp) o e,c,d⟩⟩
 item:=by
  intro X hP hw hK hc i pins s σ H E I hf st hg;obtain⟨f0,f1,f2,f3,f4,f5⟩:=hf it (by simp);have hi:i<z.cps.size:=hg;refine wpAny_pyNext_wide_item st.2 (c:=z.cps[i]) (by simp[hi]) fun h' hit' hs'=>?_;have I1:Inv X pins σ H { s with heap:=h',toks:=s.toks+1 }:=I.turned (fun b o hb e=>(hs'.2 b hb).trans e) f0 f1 f3 f4 f5;obtain⟨o,e,c,d⟩:=id hit';exact⟨_,rfl,z1g e c d (by decide) ⟨.str ⟨#[z.cps[i]]⟩,H,I1,⟨_,rfl⟩,⟨rfl,_,by simp[hi],rfl⟩,⟨hg,hit'⟩,fun b hb=>(hf b hb).1⟩⟩
 done:=by
  intro X hP hw hK hc i pins s σ H E I hf st hg;obtain⟨f0,f1,f2,f3,f4,f5⟩:=hf it (by simp);have hi:z.cps.size<=i:=hg;exact wpAny_pyNext_wide_end (I.ok.hd hc) st.2 (by simp;lia) fun h' eb=>⟨rfl,I.turned (t':=s.toks) (fun b o hb e=>eb b o hb e) f0 f1 f3 f4 f5⟩
 self:=fun _ _ _ _ _ st h=>wpAny_pyIter_striter_wide st.2 h
theorem z9q{Fin:List V->Hp->Prop}(Pv:Nat->List V->Hp->Prop)(h0:Pv 0 [] (upd H1 D (.lst [])))(hl:∀i ys H,Pv i ys H->H D=some (.lst ys))(hs:∀i ys H c,z.cps[i]?=some c->Pv i ys H->g (.str ⟨#[c]⟩) σ0 H fun σ2 H2=>Keeps0 σ0 σ2/\tt σ2 H2 fun b H3 =>
   if b=true then te σ2 H3 fun v H4=>H4 D=some (.lst ys)/\ys.length<sizeLine/\Pv (i+1) (ys++[v]) (upd H4 D (.lst (ys++[v]))) else Pv (i+1) ys H3)(hd:∀ys H,Pv z.length ys H->Fin ys H):CompW (Its z) g tt te σ0 D Fin H1 :=
 q8o Pv h0 hl (fun i ys H h _=>h) (fun ys H _=>Ak _) (fun i ys H x H' h p y=>by obtain⟨e,c,hc,y⟩:=y;subst e y;exact hs i ys _ c hc p) hd
open PySem PySem.Spec PyProof.Rows
structure Vw (K:Ag) (H:Hp) (h:Heap):Prop where
 lst:∀a xs,SqL K H a xs->∃its:List Value,Vals xs its/\h.IsList a its.toArray
 tup:∀a xs,SqT K H a xs->∃its:List Value,Vals xs its/\h.IsTuple a its.toArray
theorem SqL.ne{K:Ag}(h:SqL K H a xs)(hb:H b=none)(hk:K.lookup b=none):a≠b:=by
 rintro rfl;rcases h with(h|⟨o,h⟩)|⟨o,_,_,h,_⟩
 ·rw[hb] at h;cases h
 ·rw[hb] at h;cases h
 ·rw[hk] at h;cases h
theorem SqT.ne{K:Ag}(h:SqT K H a xs)(hb:H b=none)(hk:K.lookup b=none):a≠b:=by
 rintro rfl;rcases h with(h|⟨o,h⟩)|⟨o,_,_,h,_⟩
 ·rw[hb] at h;cases h
 ·rw[hb] at h;cases h
 ·rw[hk] at h;cases h
theorem Vw.linj{K:Ag}(v:Vw K H h)(p:SqL K H a xs)(q:SqL K H a ys):xs=ys:=by
 obtain⟨its,r,o,e,_,n,d⟩:=v.lst a xs p;obtain⟨its',r',o',e',_,n',d'⟩:=v.lst a ys q;have:its=its':=by grind
 subst this;exact r.inj r'
theorem Inv.vw{σ:St}(I:Inv X pins σ H s):Vw X.K H s.heap :=
 ⟨fun a xs q=>let ⟨its,r,l,_⟩:=I.list q;⟨its,r,l.isList⟩,fun a xs q=>let ⟨its,r,l,_⟩:=I.tuple q;⟨its,r,l⟩⟩
structure Srce (P:Program) (w:World) (K:Ag) (J:It) (it:Addr) (st:Nat->Heap->Prop):Prop where
 obj:∀i h,st i h->∃o,h.get? it=some o/\∀v,o.data≠.cell v
 keep:∀i h h',st i h->(∀o,h.get? it=some o->h'.get? it=some o)->st i h'
 item:∀(A:Around) (i:Nat) (s:Ae) (H:Hp) (Q:Value->Ae->Prop) (E:Value->Ae->Prop),A.handled=none->Vw K H s.heap->H it=none->K.lookup it=none->st i s.heap->J.go i H ->
  (∀u x h' tk,RelV x u->J.yld i H x H->st (i+1) h'->Ei it s.heap h'->Q u { s with heap:=h',toks:=tk })->wpAny (model P w) A (Mp (.ref it)) Q E s
 done:∀(A:Around) (i:Nat) (s:Ae) (H:Hp) (Q:Value->Ae->Prop) (E:Value->Ae->Prop),A.handled=none->Vw K H s.heap->H it=none->K.lookup it=none->st i s.heap->J.stop i H ->
  (∀h' e,Ny it s.heap h'->(∃o,h'.get? e=some o/\o.cls=.type "StopIteration")->E (.ref e) { s with heap:=h' })->wpAny (model P w) A (Mp (.ref it)) Q E s
theorem z5y{K:Ag}(a it:Addr):Srce P w K (Itl K a) it (fun i h=>h.IsListIter it a i) where
 obj:=fun i h st=>by obtain⟨o,e,c,d⟩:=st;exact⟨o,e,fun v z=>by rw[d] at z;cases z⟩
 keep:=fun i h h' st k=>st.at fun o e=>k o e
 item:=fun A i s H Q E hh vw hn hk st go hQ=>by
  obtain⟨xs,x,hq,hx⟩:=go;obtain⟨its,rv,p⟩:=vw.lst a xs hq;obtain⟨u,hu,ru⟩:=rv.get hx;refine wpAny_nextOf_list_item st p (by simpa using hu) fun h' st' sb=>?_
  exact hQ u x h' s.toks ru ⟨rfl,fun ys hy=>by rw[vw.linj hy hq];exact hx⟩ st' sb
 done:=fun A i s H Q E hh vw hn hk st stop hE=>by
  obtain⟨xs,hq,hx⟩:=stop;obtain⟨its,rv,p⟩:=vw.lst a xs hq;have hl:=rv.length;exact wpAny_nextOf_list_end hh st p (by simp;lia) hE
def stStr(it:Addr)(z:Str)(t:Tok)(i:Nat)(h:Heap):Prop:=h.IsStrIter it (Ib z) z t i
theorem z9r{K:Ag}(it:Addr)(z:Str)(t:Tok):Srce P w K (Its z) it (stStr it z t) where
 obj:=fun i h st=>by obtain⟨o,e,c,d⟩:=st;exact⟨o,e,fun v z=>by rw[d] at z;cases z⟩
 keep:=fun i h h' st k=>by obtain⟨o,e,r⟩:=st;exact⟨o,k o e,r⟩
 item:=fun A i s H Q E hh vw hn hk st go hQ=>by
  have hi:i<z.cps.size:=go;unfold stStr Ib at st;cases ha:z.cps.all (· < 128)
  ·rw[ha] at st;refine wpAny_nextOf_wide_item st (c:=z.cps[i]) (by simp[hi]) fun h' hit' hs'=>?_;exact hQ _ (.str ⟨#[z.cps[i]]⟩) h' (s.toks+1) ⟨_,rfl⟩ ⟨rfl,_,by simp[hi],rfl⟩ (by unfold stStr Ib;rw[ha];exact hit') hs'
  ·rw[ha] at st;refine wpAny_nextOf_ascii_item st (c:=z.cps[i]) (by simp[hi]) fun h' hit' hs'=>?_;exact hQ _ (.str ⟨#[z.cps[i]]⟩) h' (s.toks+1) ⟨_,rfl⟩ ⟨rfl,_,by simp[hi],rfl⟩ (by unfold stStr Ib;rw[ha];exact hit') hs'
 done:=fun A i s H Q E hh vw hn hk st stop hE=>by
  have hi:z.cps.size<=i:=stop;unfold stStr Ib at st;cases ha:z.cps.all (· < 128)
  ·rw[ha] at st;exact wpAny_nextOf_wide_end hh st (by simp;lia) hE
  ·rw[ha] at st;exact wpAny_nextOf_ascii_end hh st (by simp;lia) hE
theorem Inv.turnedL{σ:St}{ch:List Addr}(I:Inv X pins σ H s)(k:∀b o,b∉ch->s.heap.get? b=some o->h'.get? b=some o)(hf:∀b∈ch,FpOk X pins H b):Inv X pins σ H { s with heap:=h',toks:=t' }:=by
 have nit:∀b u,H b=some u->b∉ch:=fun b u e z=>by rw[(hf b z).1] at e;cases e
 refine I.step (g':=s.gens) (d':=s.drawn) (fun b hb=>?_) (fun b o _ _ hc e _=>k b o hc e) (fun b o _ _ hc e _=>⟨o.slots,k b o hc e⟩) (fun _ _ _ _ n=>n)
  (fun b o hc e=>?_) (fun _ _ e=>e) (fun _ _ _ e=>e) (fun b ps e=>⟨#[],by rw[e];simp⟩) (fun m hm=>?_) (fun b u e=>?_) I.bare
 ·exact⟨(hf b hb).2.2.2.1,(hf b hb).2.1,(hf b hb).2.2.2.2.1,(hf b hb).2.2.2.2.2⟩
 ·exact⟨o,k b o hc e⟩
 ·obtain⟨o,es,ep,ho,r⟩:=hm;exact⟨o,es,ep,k _ o (fun z=>(hf _ z).2.1 rfl) ho,r⟩
 ·refine(I.hok b u e).stay (fun c v hc q=>k c v ?_ q) (fun _ q=>q) fun _ _ q=>q;rcases hc with z|z
  ·rw[z];exact nit b u e
  ·exact nit c _ z
theorem Inv.track{σ:St}{T:Addr}(I:Inv X pins σ H s)(hT:X.s₀.heap.objs.size<=T)(hF:FpOk X pins H T)(new:ObjOk X.prog X.w (upd H T o) s.heap T o):Inv X pins σ (upd H T o) s:=by
 have hn:=hF.1;refine⟨I.ok,I.os,I.bare,⟨I.base.keep,I.base.slot,fun b ob e n hx=>?_,I.base.there,fun b xs e=>?_,fun b ob u e=>?_,fun b ps e=>?_⟩,I.loc,I.cell,?_,fun x c e=>?_,fun p hp=>?_,fun b u e=>?_,I.len⟩
 ·rw[q0e (Bg (Bl (Ap e) hT))];exact I.base.free b ob e n hx
 ·have z:=I.base.tups b xs e;rw[q0e (q0m z hn)];exact z
 ·have z:=I.base.frzs b ob u e;rw[q0e (q0m z hn)];exact z
 ·obtain⟨m,z⟩:=I.base.tbls b ps e;exact⟨m,by rw[q0e (q0m z hn)];exact z⟩
 ·rw[q0e (Dd hF.2.1)];exact I.free
 ·rw[q0e (hF.2.2.2.2.1 x c e)];exact I.freeC x c e
 ·obtain⟨e,n,ne,nf,d⟩:=I.pin p hp;exact⟨e,by rw[q0e (hF.2.2.2.2.2 p hp)];exact n,ne,nf,d⟩
 ·by_cases hb:b=T
  ·subst hb;rw[q0b] at e;cases e;exact new
  ·rw[q0e hb] at e;exact(I.hok b u e).stay (fun _ _ _ q=>q) (fun c q=>by rw[q0e (q0m q hn)];exact q) fun c xs q=>by rw[q0e (q0m q hn)];exact q
theorem FpOk.noK{σ:St}(I:Inv X pins σ H' s)(f:FpOk X pins H b):X.K.lookup b=none:=by
 cases e:X.K.lookup b with
 |none=>rfl
 |some o =>
  have e1:=I.ok.mod.kin b o e;rcases f.2.2.2.1 with z|z
  ·exact absurd z (I.ok.noex b o e1)
  ·exact absurd (Bl (Ap (I.ok.bs b o e1).1) z) (Ep _)
abbrev zs1(h:Heap)(x:Str)(t:Tok):Heap:=h.push { cls:=.type (Ib x),data:=.fields #[.str x t,.int 0 0] }
abbrev zs2(h:Heap)(x y:Str)(t u:Tok):Heap:=(zs1 h x t).push { cls:=.type (Ib y),data:=.fields #[.str y u,.int 0 0] }
abbrev zs3(h:Heap)(x y:Str)(t u:Tok):Heap:=(zs2 h x y t u).push { cls:=.type "tuple",data:=.seq #[.ref h.objs.size,.ref (zs1 h x t).objs.size] }
abbrev zs4(h:Heap)(x y:Str)(t u:Tok):Heap:=(zs3 h x y t u).push { cls:=.type "tuple",data:=.seq #[.none,.none] }
set_option maxHeartbeats 4000000 in
section
variable{X:Cx}{elts:List Expr}{kk:Nat}{tpos:Pos}
theorem x1o{J:It}{g:TG}{tb:TS}{D:Ends}(Pv:Nat->St->Hp->Prop)(h0:Pv 0 σ H)(hgo:∀i σ H,i<n->Pv i σ H->J.go i H)(hstop:∀σ H,Pv n σ H->J.stop n H)(hs:∀i x σ H H',i<n->Pv i σ H->J.yld i H x H'->g x σ H' fun σ2 H2=>tb { D with nx:=Pv (i+1),ct:=Pv (i+1),bk:=D.nx } σ2 H2)(hd:∀σ H,Pv n σ H->D.nx σ H):
  ∃W:Nat->Nat->St->Hp->Prop,(∃m,W 0 m σ H)/\∀i m σ H,W i m σ H ->
   (J.stop i H/\D.nx σ H)\/(J.go i H/\∃N:St->Hp->Prop,(∀σ' H',N σ' H'->∃m',m'<m/\W (i+1) m' σ' H')/\∀x H',J.yld i H x H'->g x σ H' fun σ2 H2=>tb { D with nx:=N,ct:=N,bk:=D.nx } σ2 H2):=by
 refine⟨fun i m σ H=>m=n-i/\i<=n/\Pv i σ H,⟨n,by simp,Br _,h0⟩,?_⟩;rintro i m σ H ⟨rfl,hi,p⟩;by_cases hlt:i<n
 ·exact .inr ⟨hgo i σ H hlt p,Pv (i+1),fun σ' H' p'=>⟨n-(i+1),by lia,rfl,hlt,p'⟩,fun x H' y=>hs i x σ H H' hlt p y⟩
 ·grind
end
open PySem PySem.Spec PyProof.Rows
structure Cal (P:Program) (w:World) (K:Ag) (mg:Str->Option Value) (base:Heap) (x:Str) (k:Nat) (ps:List Str) (sp:Sp):Prop where
 ex:∃f fd,FnOk P w K mg base CX0 k f fd ps sp/\mg x=some (.ref f)/\Fn K (.ref f)=true/\Binds K fd ps []
structure Df (K:Ag) (mg:Str->Option Value) (x:Str) (st:Stmt) (ps:List Str):Prop where
 ex:∃f fd,Fun K x x st f fd/\mg x=some (.ref f)/\Binds K fd ps []
theorem Df.cal{K:Ag}{st:Stmt}(D:Df K mg x st ps)(S:FnScope N ps (defScope st))(len:∀vs H Q E,sp vs H Q E->vs.length=ps.length)(hbody:∀(f:Addr) (cdv:Value) (A:Around) (outer:List Env) (s:Ae) (H:Hp) (vs:List V) (Q:VK) (E:XK),Room k (A.deeper (Hy x (defScope st) s.heap.objs.size f cdv))->sp vs H Q E ->
   ∃t,PSs (cxOf CX0 P w K mg base N x (defScope st) f cdv A outer s H E).nox (defBody st) t/\t { nx:=fun _ H'=>Q .non H',rt:=Q } (start N vs) H):Cal P w K mg base x (k+1) ps sp:=by
 obtain⟨f,fd,F,hm,hb⟩:=D.ex;exact⟨f,fd,F.ok S len fun cdv A outer s H vs Q E hr h=>hbody f cdv A outer s H vs Q E hr h,hm,F.kp,hb⟩
theorem Cal.imp{K:Ag}(C:Cal P w K mg base x k ps sp)(h:∀vs H Q E,sp' vs H Q E->sp vs H Q E):Cal P w K mg base x k ps sp':=by
 obtain⟨f,fd,F,r⟩:=C.ex;exact⟨f,fd,F.imp h,r⟩
section
variable{X:Cx}{x:Str}{k j:Nat}{ps:List Str}{sp:Sp}{p pos:Pos}{e:Expr}{es:List Expr}{t:TA}
theorem pe_c(C:Cal X.prog X.w X.K X.mg X.base x k ps sp)(hr:Room j X.A)(ha:PA X (e::es) t)(hjk:k<=j:=by decide)(hg:Gl X x:=by rfl)(hdb:(x==("__debug__" : Str))=false:=by decide)(he:Bi (e::es) X.env=(false,eval e X.env)::Bi es X.env:=by rfl)(hpl:(Eu pos (Bi es X.env)).any (·.1)=false:=by rfl):
  PE X (.Call (.Name x p) (e::es) [] pos) (tCall sp [] E0 t):=by
 obtain⟨f,fd,F,hm,hk,hb⟩:=C.ex;exact x2s F (hr.mono hjk) hg hm hk hb .nil pass0 ha hdb he hpl
end
theorem PI.or(h1:PI X tg l w1)(h2:PI X tg l w2):PI X tg l (fun σ H R=>w1 σ H R\/w2 σ H R):=by
 intro pins s σ H R I h;rcases h with h|h
 ·exact h1 pins s σ H R I h
 ·exact h2 pins s σ H R I h
structure FeedAt (H:Hp) (a b:Addr):Prop where
 fa:∃i j:Int,H a=some (.lst [.ref b,.int i,.int j])
 fb:∃ns:List Int,H b=some (.lst (ns.map V.int))
structure Fd (a b:Addr) (H H':Hp):Prop where
 feed:FeedAt H' a b
 keep:∀c o,H c=some o->c≠a->H' c=some o
theorem FeedAt.ne(F:FeedAt H a b):b≠a:=by
 obtain⟨⟨i,j,h⟩,ns,h'⟩:=F;refine z5a h' h ?_;intro z;cases ns with
 |nil=>cases z
 |cons n r=>simp at z
theorem Fd.refl(F:FeedAt H a b):Fd a b H H:=⟨F,fun _ _ h _=>h⟩
theorem Fd.trans(x:Fd a b H H1)(y:Fd a b H1 H2):Fd a b H H2:=⟨y.feed,fun c o h hc=>y.keep c o (x.keep c o h hc) hc⟩
theorem Fd.free(x:Fd a b H H')(h:H' p=none):H p=none:=by
 cases e:H p with
 |none=>rfl
 |some o =>
  by_cases hp:p=a
  ·subst hp;obtain⟨i,j,q⟩:=x.feed.fa;rw[h] at q;cases q
  ·rw[x.keep p o e hp] at h;cases h
theorem FeedAt.upd(F:FeedAt H a b)(ha:a≠p)(hb:b≠p):FeedAt (upd H p o) a b :=
 ⟨let ⟨i,j,h⟩:=F.fa;⟨i,j,by rw[q0e ha];exact h⟩,let ⟨ns,h⟩:=F.fb;⟨ns,by rw[q0e hb];exact h⟩⟩
theorem FeedAt.na(F:FeedAt H a b)(h:H p=none):a≠p:=by obtain⟨i,j,q⟩:=F.fa;exact q0m q h
theorem FeedAt.nb(F:FeedAt H a b)(h:H p=none):b≠p:=by obtain⟨ns,q⟩:=F.fb;exact q0m q h
theorem Fd.put(x:Fd a b H H')(F:FeedAt H a b)(h:H p=none):Fd a b H (upd H' p o) :=
 ⟨x.feed.upd (F.na h) (F.nb h),fun c u e hc=>by rw[q0e (q0m e h)];exact x.keep c u e hc⟩
theorem Fd.new(x:Fd a b H H')(h:H' p=none):Fd a b H (upd H' p o) :=
 ⟨x.feed.upd (x.feed.na h) (x.feed.nb h),fun c u e hc=>by rw[q0e (q0m (x.keep c u e hc) h)];exact x.keep c u e hc⟩
theorem Fd.at(x:Fd a b H H')(h:H c=some o)(hc:c≠a):H' c=some o:=x.keep c o h hc
theorem Fd.same(x:Fd a b H H')(s:Same H' H2):Fd a b H H2 :=
 ⟨⟨let ⟨i,j,h⟩:=x.feed.fa;⟨i,j,s _ _ h⟩,let ⟨ns,h⟩:=x.feed.fb;⟨ns,s _ _ h⟩⟩,fun c o e hc=>s _ _ (x.keep c o e hc)⟩
theorem Same.new(s:Same H H')(h:H' p=none):Same H (upd H' p o):=fun c u e=>by rw[q0e (q0m (s c u e) h)];exact s c u e
theorem Same.put(s:Same H H')(h:H p=none):Same H (upd H' p o):=fun c u e=>by rw[q0e (q0m e h)];exact s c u e
def spDraw:Sp:=fun vs H Q _=>∃a b m,vs=[.ref a,.int m]/\FeedAt H a b/\0<m/\m<1073741824/\∀(r:Int) H',0<=r->r<m->Fd a b H H'->Q (.int r) H'
theorem x2y{xs:List α}(i:Int)(h:xs≠[]):∃x,x∈xs/\atI xs (i%(xs.length:Int))=some x:=by
 have hl:0<(xs.length:Int):=by
  cases xs with
  |nil=>exact absurd rfl h
  |cons a r=>grind
 have h0:=Ks i (show(xs.length:Int)≠0 by lia);have h1:=Ja i hl;have hn:(i%(xs.length:Int)).toNat<xs.length:=by lia
 unfold atI ixN;rw[if_pos h0,if_pos h1];simp[hn]
theorem z5z{xs:List α}(h0:0<=i)(h1:i<(xs.length:Int)):∃x,xs[i.toNat]?=some x/\atI xs i=some x:=by
 have hn:i.toNat<xs.length:=by lia
 unfold atI ixN;rw[if_pos h0,if_pos h1];simp[hn]
open PySem PySem.Spec PyProof.Rows
mutual
inductive Dt (K : Ag) (H : Hp) : V → PyData → Prop
  | non : Dt K H .non .none
  | bl (b : Bool) : Dt K H (.bl b) (.bool b)
  | int (i : Int) : Dt K H (.int i) (.int i)
  | str (x : Str) : Dt K H (.str x) (.str x)
  | lst {a : Addr} {xs : List V} {ds : List PyData} : SqL K H a xs → Dts K H xs ds → Dt K H (.ref a) (.list ds)
  | tup {a : Addr} {xs : List V} {ds : List PyData} : SqT K H a xs → Dts K H xs ds → Dt K H (.ref a) (.tuple ds)
inductive Dts (K : Ag) (H : Hp) : List V → List PyData → Prop
  | nil : Dts K H [] []
  | cons {x : V} {xs : List V} {d : PyData} {ds : List PyData} : Dt K H x d → Dts K H xs ds → Dts K H (x :: xs) (d :: ds)
end
section
variable{X:Cx}{pins:List (Addr×Obj)}{σ:St}{H:Hp}{s:Ae}
mutual
theorem Dt.reads (I : Inv X pins σ H s) : ∀ {x : V} {d : PyData} {u : Value}, Dt X.K H x d → RelV x u → ∃ as, Reads s.heap u d as
  | _, _, _, .non, r => by cases r; exact ⟨_, .none⟩
  | _, _, _, .bl b, r => by cases r; exact ⟨_, .bool b⟩
  | _, _, _, .int i, r => by obtain ⟨t, rfl⟩ := r; exact ⟨_, .int i t⟩
  | _, _, _, .str x, r => by obtain ⟨t, rfl⟩ := r; exact ⟨_, .str x t⟩
  | _, _, _, .lst q ds, r => by
    cases r
    obtain ⟨its, rv, ⟨o, n, e, c, _, d⟩, _⟩ := I.list q
    obtain ⟨as, h⟩ := Dts.reads I ds rv
    exact ⟨_, .list e c d (by simpa using h)⟩
  | _, _, _, .tup q ds, r => by
    cases r
    obtain ⟨its, rv, ⟨o, e, c, n, d⟩, _⟩ := I.tuple q
    obtain ⟨as, h⟩ := Dts.reads I ds rv
    exact ⟨_, .tuple e c d (by simpa using h)⟩
theorem Dts.reads (I : Inv X pins σ H s) : ∀ {xs : List V} {ds : List PyData} {us : List Value}, Dts X.K H xs ds → Vals xs us → ∃ as, ReadsAll s.heap us ds as
  | _, _, _, .nil, .nil => ⟨_, .nil⟩
  | _, _, _, .cons d ds, .cons r rs => by
    obtain ⟨as, h⟩ := Dt.reads I d r
    obtain ⟨bs, h'⟩ := Dts.reads I ds rs
    exact ⟨_, .cons h h'⟩
end
end
section
variable{X:Cx}{k:Nat}
def rEqD(K:Ag):R2:=fun x y H Q=>∃d e,Dt K H x d/\Dt K H y e/\d.canLay0=true/\e.canLay0=true/\min d.depth e.depth<=100/\Q (.bl (Fs d e)) H
def rNeD(K:Ag):R2:=fun x y H Q=>∃d e,Dt K H x d/\Dt K H y e/\d.canLay0=true/\e.canLay0=true/\min d.depth e.depth<=100/\Q (.bl (!PyData.eqv d e)) H
theorem op_eqD(hr:Room k X.A):OpR X (Bw .Eq) (rEqD X.K):=by
 intro pins s σ H x y v u Q I rx ry h;obtain⟨d,e,hd,he,cd,ce,hm,q⟩:=h;obtain⟨as,r1⟩:=hd.reads I rx;obtain⟨bs,r2⟩:=he.reads I ry;have hu:=hr.un;exact SeqAt.rcAt_reads r1 r2 cd ce (by lia) X.prog X.w X.xe _ ⟨.bl _,H,I,rfl,q⟩
theorem op_neD(hr:Room k X.A):OpR X (Bw .NotEq) (rNeD X.K):=by
 intro pins s σ H x y v u Q I rx ry h;obtain⟨d,e,hd,he,cd,ce,hm,q⟩:=h;obtain⟨as,r1⟩:=hd.reads I rx;obtain⟨bs,r2⟩:=he.reads I ry;have hu:=hr.un;exact SeqAt.rcNeAt_reads r1 r2 cd ce (by lia) X.prog X.w X.xe _ ⟨.bl _,H,I,rfl,q⟩
def rAddU:R2:=fun x y H Q=>(∃i j,x=.int i/\y=.int j/\Q (.int (i+j)) H)\/(∃i j,x=.str i/\y=.str j/\i.length+j.length<=sizeLine/\Q (.str (i++j)) H)\/rCat x y H Q
theorem q0q:OpR X (Ej .Add) rAddU:=op_add.or (op_add_str.or op_cat)
def rMulU:R2:=fun x y H Q=>(∃i j,x=.int i/\y=.int j/\CMul i j/\Q (.int (i*j)) H)\/rMulS x y H Q\/rRep x y H Q
theorem q3y:OpR X (Ej .Mult) rMulU:=op_mul.or (op_mulS.or op_rep)
def rEqU(K:Ag):R2:=fun x y H Q=>rEq x y H Q\/rEqD K x y H Q
theorem op_eqU(hr:Room k X.A):OpR X (Bw .Eq) (rEqU X.K):=op_eq.or (op_eqD hr)
def rNeU(K:Ag):R2:=fun x y H Q=>rNe x y H Q\/rNeD K x y H Q
theorem op_neU(hr:Room k X.A):OpR X (Bw .NotEq) (rNeU X.K):=op_ne.or (op_neD hr)
def rInU(K:Ag):R2:=fun x y H Q=>(∃i j,x=.str i/\y=.str j/\Q (.bl (!(Cn j i 0 j.length 1).isEmpty)) H)\/rIn K false x y H Q
theorem op_inU:OpR X (Bw .In) (rInU X.K):=op_in_str.or z5r
def rNinU(K:Ag):R2:=fun x y H Q=>(∃i j,x=.str i/\y=.str j/\Q (.bl (!(!(Cn j i 0 j.length 1).isEmpty))) H)\/rIn K true x y H Q
theorem x2z:OpR X (Bw .NotIn) (rNinU X.K):=op_notIn_str.or q9l
def rSlU(K:Ag):V->Option Int->Option Int->Hp->VK->Prop:=fun x lo hi H Q=>rSlS x lo hi H Q\/rSlL K x lo hi H Q\/rSlT K x lo hi H Q
theorem sl_U:SlR X (rSlU X.K):=sl_str.or (sl_list.or x1m)
def iAny(K:Ag)(tl:TE):TI:=fun σ H R=>tl σ H fun x H1=>(∃a,x=.ref a/\(∃xs,SqL K H1 a xs)/\R (Itl K a) H1)\/(∃a,x=.ref a/\(∃xs,SqT K H1 a xs)/\R (Itt K a) H1)\/∃z,x=.str z/\R (Its z) H1
theorem pi_any(hl:PE X l tl):PI X tg l (iAny X.K tl):=by
 intro pins s σ H R I h;refine thn (hl pins s σ H _ I h) fun v s1 ⟨x,H1,I1,r1,q1⟩=>?_;have fp:∀b∈[s1.heap.objs.size],FpOk X pins H1 b:=fun b hb=>by
  have e:b=s1.heap.objs.size:=by grind
  subst e;exact I1.fpOk (Ak _) (I1.hok.fresh (Ak _))
 rcases q1 with⟨a,e,⟨xs,hq⟩,q⟩|⟨a,e,⟨xs,hq⟩,q⟩|⟨z,e,q⟩
 ·subst e;cases r1;obtain⟨its,rv,p,hz⟩:=I1.list hq;exact Rb p.isList ⟨s1.heap.objs.size,[s1.heap.objs.size],_,_,H1,rfl,I1.kept (t':=s1.toks) fun b o e=>Ai _ e,z5d a _,⟨_,Ar _ rfl,rfl,rfl⟩,fp,q⟩
 ·subst e;cases r1;obtain⟨its,rv,p,hz⟩:=I1.tuple hq;exact wpAny_pyIter_tuple (show s1.heap.IsTuple a its.toArray from p) ⟨s1.heap.objs.size,[s1.heap.objs.size],_,_,H1,rfl,I1.kept (t':=s1.toks) fun b o e=>Ai _ e,z3w a _,⟨_,Ar _ rfl,rfl,rfl⟩,fp,q⟩
 ·subst e;obtain⟨t,rfl⟩:=r1;cases ha:z.cps.all (· < 128)
  ·exact wpAny_pyIter_wide ha ⟨s1.heap.objs.size,[s1.heap.objs.size],_,_,H1,rfl,I1.kept (t':=s1.toks) fun b o e=>Ai _ e,z5x _ z t,⟨Br _,_,Ar _ rfl,rfl,rfl⟩,fp,q⟩
  ·exact wpAny_pyIter_ascii ha ⟨s1.heap.objs.size,[s1.heap.objs.size],_,_,H1,rfl,I1.kept (t':=s1.toks) fun b o e=>Ai _ e,z5w _ z t,⟨Br _,_,Ar _ rfl,rfl,rfl⟩,fp,q⟩
end
open PySem PySem.Spec PyProof.Rows
section
variable{X:Cx}{a b o e l:Expr}{es:List Expr}{ta tb to te tl:TE}{t:TA}{pos p2 apos cpos:Pos}{k:Nat}{name:Str}{T idn:String}{r:V->List V->Hp->VK->Prop}
theorem ix_k(K:Ag)(hK:X.K=K):IxR X (rIx K):=by subst hK;exact ix_seq
theorem q1v(K:Ag)(hK:X.K=K):CallR X (.builtin "len") (fun xs H Q=>∃x n,xs=[x]/\LenV K x H n/\Q (.int n) H):=by subst hK;exact z9h
theorem eq_k(K:Ag)(hK:X.K=K)(hr:Room k X.A):OpR X (Bw .Eq) (rEqU K):=by subst hK;exact op_eqU hr
theorem ne_k(K:Ag)(hK:X.K=K)(hr:Room k X.A):OpR X (Bw .NotEq) (rNeU K):=by subst hK;exact op_neU hr
theorem in_k(K:Ag)(hK:X.K=K):OpR X (Bw .In) (rInU K):=by subst hK;exact op_inU
theorem nin_k(K:Ag)(hK:X.K=K):OpR X (Bw .NotIn) (rNinU K):=by subst hK;exact x2z
theorem sl_k(K:Ag)(hK:X.K=K):SlR X (rSlU K):=by subst hK;exact sl_U
theorem q4l{tg:Expr}(K:Ag)(hK:X.K=K)(hl:PE X l tl):PI X tg l (iAny K tl):=by subst hK;exact pi_any hl
theorem all_k(K:Ag)(hK:X.K=K)(hc:X.calm=true):CallR X (.builtin "all") (fun xs H Q=>∃(p:Addr) (bs:List Bool),xs=[.ref p]/\SqL K H p (bs.map V.bl)/\Q (.bl (bs.all id)) H):=by subst hK;exact z9p hc
theorem z9s(K:Ag)(hK:X.K=K):CallR X (.builtin "isinstance") (fun xs H Q=>∃x c t b,xs=[x,.ty c]/\TyOf K H x t/\W.kitOne K t (.type c)=some b/\Q (.bl b) H):=by subst hK;exact z1h
theorem q7v(K:Ag)(hK:X.K=K):CallR X (.type "list") (fun xs H Q=>∃p ys,xs=[.ref p]/\(SqL K H p ys\/SqT K H p ys)/\∀l,H l=none->Q (.ref l) (upd H l (.lst ys))):=by subst hK;exact q9m
theorem z6a(K:Ag)(hK:X.K=K):CallR X (.type "tuple") (fun xs H Q=>∃p ys,xs=[.ref p]/\((SqL K H p ys/\∀l,H l=none->Q (.ref l) (upd H l (.tup ys)))\/(SqT K H p ys/\Q (.ref p) H))):=by subst hK;exact q8l
theorem z2w(K:Ag)(hK:X.K=K):MtM X "str.join" (rJoin K):=by subst hK;exact x2x
theorem q1u{kk n:Nat}{u:TGs}(K:Ag)(hK:X.K=K)(hc:X.calm=true)(h:PGs X es u)(hn:(Ho es X.env).length=n:=by rfl)(hst:(Ho es X.env).findIdx? (·.1)=none:=by rfl):PG X (.Tuple es kk pos) (gTup K n u):=by subst hK;exact pg_tup hc h hn hst
theorem bm_k(K:Ag)(hK:X.K=K)(pa:Pd T)(slot:Slot T name idn)(hty:typeOf (.builtin idn)=pure (.type "method_descriptor"))(hm:MtR X idn r)(ho:PE X o to)(ha:PA X (e::es) t)(hbase:Gm o name X.env (eval o X.env)=eval o X.env:=by rfl)(hfew:((Eu cpos (Bi (e::es) X.env)).all (fun x => !x.1)&&(My cpos (Jw [] X.env)).all (fun x=>x.1.isSome)
   && decide ((e::es).length+([]:List Sx).length+(if ([]:List Sx).isEmpty then 0 else 1)<30))=true:=by rfl)(hline:(apos.endLine==cpos.line)=true:=by rfl)(hs:Bi (e::es) X.env=(false,eval e X.env)::Bi es X.env:=by rfl)(hplain:(Eu cpos (Bi es X.env)).any (·.1)=false:=by rfl):
  PE X (.Call (.Attribute o name apos) (e::es) [] cpos) (tBM K T r to t):=by subst hK;exact pe_bm pa slot hty hm ho ha hbase hfew hline hs hplain
theorem z9t(K:Ag)(hK:X.K=K)(pa:Pd T)(slot:Slot T name idn)(hty:typeOf (.builtin idn)=pure (.type "method_descriptor"))(hm:MtR X idn r)(ho:PE X o to)(hbase:Gm o name X.env (eval o X.env)=eval o X.env:=by rfl)(hline:(apos.endLine==cpos.line)=true:=by rfl):PE X (.Call (.Attribute o name apos) [] [] cpos) (tBM0 K T r to):=by subst hK;exact pe_bm0 pa slot hty hm ho hbase hline
theorem q4m(K:Ag)(hK:X.K=K)(ha:PE X a ta)(he:∀whole,isTrue a X.env whole=(do let v<-whole;Mr a.pos;Kk [v] (truthy v))):
  PT X a (fun σ H Q=>ta σ H fun x H'=>∃k,TruV K x H' k/\Q k H'):=by subst hK;exact z9g ha he
end
theorem q2n{lo:Int}{r:St}{Fin:List V->Hp->Prop}(Pv:Nat->List V->Hp->Prop)(h0:Pv 0 [] (upd H1 D (.lst [])))(hl:∀i ys H,Pv i ys H->H D=some (.lst ys))(hs:∀i ys H,i<n->Pv i ys H->te (some (.int (lo+i))::r) H fun v H4=>H4 D=some (.lst ys)/\ys.length<sizeLine/\Pv (i+1) (ys++[v]) (upd H4 D (.lst (ys++[v]))))(hd:∀ys H,Pv n ys H->Fin ys H):CompW (Itr lo n) (gName 0) tIf0 te (none::r) D Fin H1 :=
 z4g Pv h0 hl (fun i ys H h p=>(⟨q4v,iteT (hs i ys H h p)⟩:Keeps0 (none::r) (some (.int (lo+i))::r)/\if true=true then te (some (.int (lo+i))::r) H fun v H4=>H4 D=some (.lst ys)/\ys.length<sizeLine/\Pv (i+1) (ys++[v]) (upd H4 D (.lst (ys++[v]))) else Pv (i+1) ys H)) hd
theorem z6b{r:St}{Fin:List V->Hp->Prop}(Pv:Nat->List V->Hp->Prop)(h0:Pv 0 [] (upd H1 D (.lst [])))(hl:∀i ys H,Pv i ys H->H D=some (.lst ys))(hs:∀i ys H c,z.cps[i]?=some c->Pv i ys H->te (some (.str ⟨#[c]⟩)::r) H fun v H4=>H4 D=some (.lst ys)/\ys.length<sizeLine/\Pv (i+1) (ys++[v]) (upd H4 D (.lst (ys++[v]))))(hd:∀ys H,Pv z.length ys H->Fin ys H):CompW (Its z) (gName 0) tIf0 te (none::r) D Fin H1 :=
 z9q Pv h0 hl (fun i ys H c h p=>(⟨q4v,iteT (hs i ys H c h p)⟩:Keeps0 (none::r) (some (.str ⟨#[c]⟩)::r)/\if true=true then te (some (.str ⟨#[c]⟩)::r) H fun v H4=>H4 D=some (.lst ys)/\ys.length<sizeLine/\Pv (i+1) (ys++[v]) (upd H4 D (.lst (ys++[v]))) else Pv (i+1) ys H)) hd
theorem q2i{K:Ag}{r:St}{Fin:List V->Hp->Prop}(Pv:Nat->List V->Hp->Prop)(h0:Pv 0 [] (upd H1 D (.lst [])))(hl:∀i ys H,Pv i ys H->H D=some (.lst ys)/\SqL K H a xs)(hs:∀i ys H x,xs[i]?=some x->Pv i ys H->te (some x::r) H fun v H4=>H4 D=some (.lst ys)/\ys.length<sizeLine/\Pv (i+1) (ys++[v]) (upd H4 D (.lst (ys++[v]))))(hd:∀ys H,Pv xs.length ys H->Fin ys H):CompW (Itl K a) (gName 0) tIf0 te (none::r) D Fin H1 :=
 q6n Pv h0 hl (fun i ys H x h p=>(⟨q4v,iteT (hs i ys H x h p)⟩:Keeps0 (none::r) (some x::r)/\if true=true then te (some x::r) H fun v H4=>H4 D=some (.lst ys)/\ys.length<sizeLine/\Pv (i+1) (ys++[v]) (upd H4 D (.lst (ys++[v]))) else Pv (i+1) ys H)) hd
def tSeqJ(t u:TS):TS:=fun D σ H=>∃J:St->Hp->Prop,(∀σ' H',J σ' H'->u D σ' H')/\t { D with nx:=J } σ H
theorem q2j{X:Cx}{st:Stmt}{rest:List Stmt}{t u:TS}(h1:PS X st t)(h2:PSs X rest u):PSs X (st::rest) (tSeqJ t u):=by
 intro pins s σ H D I h;obtain⟨J,hJ,h⟩:=h;refine Mu (thn (h1 pins s σ H { D with nx:=J } I h) fun f s1 q=>?_);cases f with
 |next =>
  obtain⟨σ',H',I',q⟩:=q;exact h2 pins s1 σ' H' D I' (hJ σ' H' q)
 |ret v=>exact q
 |brk=>exact q
 |cont=>exact q
def tVJ(t:TE):TE:=fun σ H Q=>∃J:VK,(∀v H',J v H'->Q v H')/\t σ H J
theorem pe_j{X:Cx}{e:Expr}{t:TE}(h:PE X e t):PE X e (tVJ t):=by
 intro pins s σ H Q I hw;obtain⟨J,hJ,hw⟩:=hw;exact thn (h pins s σ H J I hw) fun u s' ⟨v,H',I',r,q⟩=>⟨v,H',I',r,hJ v H' q⟩
def tTJ(t:TT):TT:=fun σ H Q=>∃J:Bool->Hp->Prop,(∀b H',J b H'->Q b H')/\t σ H J
theorem pt_j{X:Cx}{e:Expr}{t:TT}(h:PT X e t):PT X e (tTJ t):=by
 intro pins s σ H Q I hw;obtain⟨J,hJ,hw⟩:=hw;exact thn (h pins s σ H J I hw) fun u s' ⟨H',I',q⟩=>⟨H',I',hJ u H' q⟩
theorem iteB{B:Prop}(hA:c=true->A)(hB:c=false->B):if c=true then A else B:=by grind
end L2
namespace TX
open PySem PySem.Spec PyProof.Rows L2
abbrev tl(x:Str):List Nat:=x.cps.toList
abbrev mk(l:List Nat):Str:=⟨l.toArray⟩
theorem q0z(l:List Nat):tl (mk l)=l:=by simp[tl,mk]
theorem q9r(x:Str):mk (tl x)=x:=by simp[tl,mk]
theorem ext(h:tl x=tl y):x=y:=ext_toList h
theorem len(x:Str):x.length=(tl x).length:=by simp[tl,Str.length]
theorem q5m(x y:Str):tl (x++y)=tl x++tl y:=by
 show(x.cps++y.cps).toList=_;simp[tl]
theorem get{i:Nat}(h:x.cps[i]?=some c):(tl x)[i]?=some c:=by simpa[tl] using h
theorem q6q(z:Str)(ts:List Str):Kd z ts=Li z ts:=StrLaws.glued_eq_join z ts
theorem z6c:∀ts:List Str,tl (Kd (Ad "") ts)=(ts.map tl).flatten:=by
 intro ts;rw[q6q];induction ts with
 |nil=>rfl
 |cons a r ih =>
  cases r with
  |nil=>simp[Li]
  |cons b r =>
   show tl (a++Ad "" ++ Li (Ad "") (b::r))=_;rw[q5m,q5m,ih];have e:tl (Ad "")=[]:=by decide +kernel
   rw[e];simp
theorem z6d(cs:List Nat):Kd (Ad "") (cs.map fun c=>(⟨#[c]⟩:Str))=mk cs:=by
 apply ext;rw[z6c,q0z,Bd];induction cs with
 |nil=>rfl
 |cons c r ih=>rw[Ao,Js,ih];rfl
theorem z9u(cs:List Nat):((cs.map fun c=>(⟨#[c]⟩:Str)).map (·.length)).sum=cs.length:=by
 induction cs with
 |nil=>rfl
 |cons c r ih=>rw[Ao,Ao,Md,ih,Bf];show 1+_=_;lia
theorem z2x{j:Int}(h0:0<=j)(h1:j<=(tl x).length):Qo x none (some j)=mk ((tl x).take j.toNat):=by
 show Dv x none (some j)=_;rw[StrLaws.sliceText_to ⟨h0,h1⟩];simp[mk,tl]
theorem q7w{i:Int}(h0:0<=i)(h1:i<=(tl x).length):Qo x (some i) none=mk ((tl x).drop i.toNat):=by
 show Dv x (some i) none=_;rw[StrLaws.sliceText_from ⟨h0,h1⟩];rw[Cd];rw[Cw];lia
theorem in_one(x:Str)(c:Nat):(!(Cn x ⟨#[c]⟩ 0 x.length 1).isEmpty)=decide (c∈tl x):=StrLaws.found_one x c
theorem lower(h:∀c∈tl x,c<128):tl (Txt.lower x)=(tl x).map lo1:=by
 rw[lower_ascii h];simp[tl]
theorem small(h:n<=1000000):n<=sizeLine:=by rw[Eg];lia
theorem small'(h:n<=1000000):n<sizeLine:=by rw[Eg];lia
end TX
namespace L2
open PySem PySem.Spec PyProof.Rows TX
theorem q5n{α:Type}{l:List α}{x:α}(h:l[i]?=some x):l.take (i+1)=l.take i++[x]:=by
 rw[Om,h];rfl
open PySem PySem.Spec PyProof.Rows
section
variable{prog:Program}{w:World}{K:Ag}{A:Around}{E:Value->Ae->Prop}{s:Ae}{J:It}{st:Nat->Heap->Prop}{e it:Addr}{H:Hp}
theorem z4h{i:Nat}{Q:Value->Ae->Prop}(S:Srce prog w K J it st)(hh:A.handled=none)(vw:Vw K H s.heap)(nH:H it=none)(nK:K.lookup it=none)(he:IsEnum s.heap e it i old)(hst:st i s.heap)(go:J.go i H)(hne:e≠it)(hQ:∀u x h' tk,RelV x u->J.yld i H x H->IsEnumOut h' e it ((i:Int)+1) u s.heap.objs.size->st (i+1) h'->h'.get? s.heap.objs.size=some { cls:=.type "tuple",data:=.seq #[.int i tk,u] }->h'.objs.size=s.heap.objs.size+1 ->
   (∀b o,b≠e->b≠it->s.heap.get? b=some o->h'.get? b=some o)->Q (.ref s.heap.objs.size) { s with heap:=h',toks:=tk+1 }):
  wpAny (model prog w) A (Dm.«enumerate.__next__» ⟨[.ref e],[]⟩) (fun fin s'=>∃v,fin=.done (.ret v)/\Q v s') E s:=by
 obtain⟨hp,g,d,tk₀,os⟩:=s;show wpAny _ _ (field (.ref e) 2 >>= _) _ _ _;refine Ab (Ck he rfl rfl ?_);refine Ab (S.item _ i _ H _ _ hh vw nH nK hst go fun u x h₁ tk rx yx st₁ hs₁=>?_);have he₁:=(hs₁.2 e hne).trans he;refine Ab (Ck he₁ rfl rfl ?_);refine Ab (Ck he₁ rfl rfl ?_);refine Ab (wpAny_mkInt ?_);refine Ab (Fb he₁ (by simp) fun h₂ he₂ hs₂=>?_);refine Ab (Fb he₂ (by simp) fun h₃ he₃ hs₃=>?_);refine Ab (Oo ?_);have he₄:IsEnum (h₃.push { cls:=.type "tuple",data:=.seq #[.int i tk,u] }) e it ((i:Int)+1) old:=Ai _ he₃;generalize hh₄:h₃.push { cls:=.type "tuple",data:=.seq #[.int i tk,u] }=h₄ at he₄;have hsz:h₃.objs.size=hp.objs.size:=by rw[hs₃.1,hs₂.1,hs₁.1]
 have hel:=Ap he;have ht₄:h₄.get? hp.objs.size=some { cls:=.type "tuple",data:=.seq #[.int i tk,u] }:=by rw[<- hh₄,<- hsz];exact Ar _ rfl
 have hz₄:h₄.objs.size=hp.objs.size+1:=by rw[<- hh₄,Ga,hsz]
 have hk₄:∀b o,b≠e->b≠it->hp.get? b=some o->h₄.get? b=some o:=fun b o hbe hbi hb=>by
  rw[<- hh₄];exact Ai _ (hs₃.extBut b o hbe (hs₂.extBut b o hbe (hs₁.extBut b o hbi hb)))
 have hit₄:st (i+1) h₄:=S.keep _ _ _ st₁ fun o y=>by
  rw[<- hh₄];exact Ai _ (hs₃.extBut it o hne.symm (hs₂.extBut it o hne.symm y))
 rw[hsz];refine Ab ?_;refine Ab (Ck he₄ rfl rfl (Ac ?_));refine Ab (Jk ?_);refine Ab (Ck he₄ rfl rfl ?_);refine Ab (Fb he₄ (by simp) fun h₅ he₅ hs₅=>?_);refine Ab ?_;refine Ab (Fb he₅ (by simp) fun h₆ he₆ hs₆=>?_);refine Fb he₆ (by simp) fun h₇ he₇ hs₇=>?_;have up:=fun b o hb y=>hs₇.extBut b o hb (hs₆.extBut b o hb (hs₅.extBut b o hb y));refine Ab (wpAny_letGo (Ac ⟨_,rfl,hQ u x h₇ tk rx yx he₇ (S.keep _ _ _ hit₄ fun o y=>up _ o hne.symm y) (up _ _ (Ge hel) ht₄) ?_ fun b o hbe hbi hb=>up b o hbe (hk₄ b o hbe hbi hb)⟩));rw[hs₇.1,hs₆.1,hs₅.1,hz₄]
end
def Ite(J:It):It:=⟨fun i H=>J.go i H,fun i H x H'=>∃T y,H T=none/\J.yld i H y H/\x=.ref T/\H'=upd H T (.tup [.int i,y]),fun i H=>J.stop i H⟩
theorem z6e{K:Ag}{st:Nat->Heap->Prop}(hne:e≠it)(S:Srce P w K J it st):
  Turn P w K (.Tuple elts kk pos) (Ite J) [e,it] e (fun i h=>(∃old,IsEnum h e it i old)/\st i h) where
 mem:=by simp
 obj:=fun i h hs b hb=>by
  obtain⟨⟨old,he⟩,h1⟩:=hs;simp only[Ba,Ke,or_false] at hb;rcases hb with rfl|rfl
  ·grind
  ·exact S.obj i h h1
 keep:=fun i h h' hs k=>by
  obtain⟨⟨old,he⟩,h1⟩:=hs;exact⟨⟨old,k e (by simp) _ he⟩,S.keep _ _ _ h1 fun o y=>k it (by simp) o y⟩
 item:=by
  intro X hP hw hK hc i pins s σ H E I hf hs hg;subst hP hw hK;obtain⟨⟨old,he⟩,h1⟩:=hs;have hT:s.TypeIs (.ref e) "enumerate" := ⟨_,he,rfl⟩
  refine Ab (Er (Cc hT Hb
   (Bx Hb hT Nz
    (z4h S (I.ok.hd hc) I.vw (hf it (by simp)).1 ((hf it (by simp)).noK I) he h1 hg hne fun u x h' tk rx yx a1 a2 a3 a4 a5=>Ac ?_) (Nj _))))
  refine⟨_,rfl,?_⟩;refine wpAny_letOwnedTupleGo_enum a1 fun h2 he2 hs2=>?_;have k2:∀c o,c∉[e,it]->s.heap.get? c=some o->h2.get? c=some o:=fun c o hcn y=>by
   simp only[Ba,Ke,or_false,not_or] at hcn;exact hs2.extBut _ _ hcn.1 (a5 c o hcn.1 hcn.2 y)
  have elt:=Ap he;have ilt:it<s.heap.objs.size:=by obtain⟨o,y,_⟩:=S.obj _ _ h1;exact Ap y
  have I1:Inv X pins σ H { s with heap:=h2,toks:=tk+1 }:=I.turnedL k2 hf;have FT:=I.fpOk (Ak _) I.fresh;have hT2:h2.get? s.heap.objs.size=some { cls:=.type "tuple",data:=.seq #[.int i tk,u] }:=hs2.extBut _ _ (Ge elt) a3;have I2:Inv X pins σ (upd H s.heap.objs.size (.tup [.int i,x])) { s with heap:=h2,toks:=tk+1 } :=
   I1.track I.sz FT ⟨by show 2<=sizeLine;decide,[.int i tk,u],.cons ⟨_,rfl⟩ (.cons rx .nil),⟨_,hT2,rfl,_,rfl⟩⟩
  refine⟨.ref s.heap.objs.size,_,I2,rfl,⟨_,x,I.fresh,yx,rfl,rfl⟩,⟨⟨u,by simpa using he2⟩,S.keep _ _ _ a2 fun o y=>hs2.extBut _ _ hne.symm y⟩,fun b hb=>?_⟩;have hb2:=(hf b hb).1;rw[q0e]
  ·exact hb2
  ·grind
 done:=by
  intro X hP hw hK hc i pins s σ H E I hf hs hg;subst hP hw hK;obtain⟨⟨old,he⟩,h1⟩:=hs;have hT:s.TypeIs (.ref e) "enumerate" := ⟨_,he,rfl⟩
  refine Ab (Er (Cc hT Hb
   (Bx Hb hT Nz ?_ (Nj _))))
  show wpAny _ _ (field (.ref e) 2 >>= _) _ _ _;refine Ab (Ck he rfl rfl ?_);refine Ab (S.done _ i _ H _ _ (I.ok.hd hc) I.vw (hf it (by simp)).1 ((hf it (by simp)).noK I) h1 hg fun h' x he' hx'=>?_);obtain⟨o,ho,hcl⟩:=hx';refine Ab (Kg ⟨o,ho,hcl⟩ Lj ?_);refine Ac ⟨rfl,I.turnedL (t':=s.toks) (fun c o hcn y=>?_) hf⟩;simp only[Ba,Ke,or_false,not_or] at hcn;exact he' c o hcn.2 y
 self:=fun _ _ _ _ _ hs h=>by
  obtain⟨⟨old,he⟩,_⟩:=hs;exact Rc he h
section
variable{X:Cx}{elts:List Expr}{kk:Nat}{tpos:Pos}
theorem q9s{σ:St}{st:Nat->Heap->Prop}(I:Inv X pins σ H s)(S:Srce X.prog X.w X.K J s.heap.objs.size st)(he:IsEnum h' (s.heap.objs.size+1) s.heap.objs.size 0 .none)(h1:st 0 h')(hk:∀c o,s.heap.get? c=some o->h'.get? c=some o)(q:R (Ite J) H):
  wpAny (model X.prog X.w) X.A (Lp (.ref (s.heap.objs.size+1))) (PIE X pins σ (.Tuple elts kk tpos) R) E { s with heap:=h' }:=by
 refine Rc he ?_;refine⟨_,_,_,_,H,rfl,I.kept (t':=s.toks) hk,z6e (show(s.heap.objs.size+1:Nat)≠s.heap.objs.size by lia) S,⟨⟨_,he⟩,h1⟩,fun b hb=>?_,q⟩;have hb':s.heap.objs.size<=b:=by
  simp only[Ba,Ke,or_false] at hb;rcases hb with rfl|rfl
  ·exact Lo _
  ·exact Ak _
 exact I.fpOk hb' (I.hok.fresh hb')
def iEnum(K:Ag)(ta:TA):TI:=fun σ H R=>ta σ H fun vs H1=>(∃z,vs=[.str z]/\R (Ite (Its z)) H1)\/∃a xs,vs=[.ref a]/\SqL K H1 a xs/\R (Ite (Itl K a)) H1
theorem x3a(hg:Gl X "enumerate")(hm:X.mg "enumerate" = none)(ha:PA X [a] ta)(hs:Bi [a] X.env=[(false,eval a X.env)]:=by rfl):
  PI X (.Tuple elts kk tpos) (.Call (.Name "enumerate" p) [a] [] pos) (iEnum X.K ta):=by
 intro pins s σ H R I h;refine Call_ (q7o I hg hm (by decide +kernel:Gd "enumerate" = some (.type "enumerate")) (Ez (thn (ha pos pins s σ H _ I h) fun us s1 ⟨vs,H1,I1,r1,q1⟩=>?_) hs rfl));rcases q1 with⟨z,e,q⟩|⟨l,xs,e,hq,q⟩
 ·subst e;obtain⟨u,rfl,t,rfl⟩:=vals1 r1;exact call_enumerate_str fun h' he hi hz hk=>q9s I1 (z9r _ z t) he hi hk q
 ·subst e;obtain⟨u,rfl,r⟩:=vals1 r1;cases r;obtain⟨its,rv,pl,_⟩:=I1.list hq;exact call_enumerate_list pl.isList fun h' he hi hz hk=>q9s I1 (z5y l _) he hi hk q
theorem x1p{a:Expr}{ta:TA}{p pos:Pos}(K:Ag)(hK:X.K=K)(hg:Gl X "enumerate")(hm:X.mg "enumerate" = none)(ha:PA X [a] ta)(hs:Bi [a] X.env=[(false,eval a X.env)]:=by rfl):
  PI X (.Tuple elts kk tpos) (.Call (.Name "enumerate" p) [a] [] pos) (iEnum K ta):=by subst hK;exact x3a hg hm ha hs
end
end L2
namespace K
open PySem L2 TX
def NSs:Str:=Ad "abcdefghijklmnopqrstuvwxyzABCDEFGHIJKLMNOPQRSTUVWXYZ0123456789-_."
def GSs:Str:=Ad "?*#@"
abbrev NS:List Nat:=tl NSs
abbrev GS:List Nat:=tl GSs
inductive Pt where
 |tx (l:List Nat)
 |gp (c:Nat)
namespace Pt
def fl:Pt->List Nat
 |tx l=>l
 |gp c=>[c]
def isG:Pt->Bool
 |tx _=>false
 |gp _=>true
def ok:Pt->Prop
 |tx l=>l≠[]/\∀c∈l,c∈NS
 |gp c=>c∈GS
def word:Pt->Str
 |tx _=>Ad "text"
 |gp _=>Ad "gap"
def vs(p:Pt):List V:=[.str p.word,.str (mk p.fl)]
def dat(p:Pt):PyData:=.tuple [.str p.word,.str (mk p.fl)]
end Pt
def TKeep(H H':Hp):Prop:=∀T xs,H T=some (.tup xs)->H' T=some (.tup xs)
abbrev Tups(H:Hp):List Addr->List Pt->Prop:=Dp fun T p=>H T=some (.tup p.vs)
structure HL (H:Hp) (L:Addr) (ps:List Pt):Prop where
 ex:∃Ts:List Addr,H L=some (.lst (Ts.map V.ref))/\Tups H Ts ps
theorem Tups.keep{H H':Hp}(k:TKeep H H'):∀{Ts:List Addr} {ps:List Pt},Tups H Ts ps->Tups H' Ts ps
 |_,_,.nil=>.nil
 |_,_,.cons h t=>.cons (k _ _ h) (Tups.keep k t)
theorem Tups.len(h:Tups H Ts ps):Ts.length=ps.length:=Fj h
theorem Tups.app{H:Hp}:∀{Ts Us:List Addr} {ps qs:List Pt},Tups H Ts ps->Tups H Us qs->Tups H (Ts++Us) (ps++qs)
 |_,_,_,_,.nil,h=>h
 |_,_,_,_,.cons h t,u=>.cons h (Tups.app t u)
theorem Tups.last:∀{ps:List Pt} {p:Pt} {Ts:List Addr},Tups H Ts (ps++[p])->∃Us T,Ts=Us++[T]/\Tups H Us ps/\H T=some (.tup p.vs)
 |[],_,_,.cons h .nil=>⟨[],_,rfl,.nil,h⟩
 |_::ps,p,_,.cons h t=>by
  obtain⟨Us,T,rfl,h1,h2⟩:=Tups.last (ps:=ps) t;exact⟨_::Us,T,rfl,.cons h h1,h2⟩
theorem Tups.get:∀{Ts:List Addr} {ps:List Pt} {i:Nat} {x:V},Tups H Ts ps->(Ts.map V.ref)[i]?=some x->∃T p,x=.ref T/\ps[i]?=some p/\H T=some (.tup p.vs)
 |_,_,_,_,.nil,h=>by simp at h
 |_,_,0,x,.cons h t,e=>by simp at e;exact⟨_,_,e.symm,rfl,h⟩
 |_,_,i+1,x,.cons h t,e=>by
  obtain⟨T,p,h1,h2,h3⟩:=Tups.get (i:=i) (x:=x) t (by simpa using e);exact⟨T,p,h1,by simpa using h2,h3⟩
theorem TKeep.refl(H:Hp):TKeep H H:=fun _ _ h=>h
theorem TKeep.trans(a:TKeep H H1)(b:TKeep H1 H2):TKeep H H2:=fun T xs h=>b T xs (a T xs h)
theorem TKeep.new(k:TKeep H H')(h:H' p=none):TKeep H (upd H' p o):=fun T xs e=>by rw[q0e (q0m (k T xs e) h)];exact k T xs e
theorem TKeep.lst{H H':Hp}{p:Addr}{ys zs:List V}(k:TKeep H H')(h:H' p=some (.lst ys)):TKeep H (upd H' p (.lst zs)):=fun T xs e=>by
 rw[q0e (z5a (k T xs e) h (by intro z;cases z))];exact k T xs e
theorem Fd.tk(F:FeedAt H a b)(x:Fd a b H H'):TKeep H H':=fun T xs e=>by
 obtain⟨i,j,h⟩:=F.fa;exact x.at e (z5a e h (by intro z;cases z))
theorem Same.tk(s:Same H H'):TKeep H H':=fun T xs e=>s _ _ e
theorem HL.same(h:HL H L ps)(s:Same H H'):HL H' L ps:=by
 obtain⟨Ts,h1,h2⟩:=h.ex;exact⟨Ts,s _ _ h1,h2.keep (Same.tk s)⟩
theorem HL.fd(F:FeedAt H a b)(h:HL H L ps)(x:Fd a b H H')(hL:L≠a):HL H' L ps:=by
 obtain⟨Ts,h1,h2⟩:=h.ex;exact⟨Ts,x.at h1 hL,h2.keep (Fd.tk F x)⟩
theorem HL.new(h:HL H L ps)(hp:H p=none):HL (upd H p o) L ps:=h.same ((Same.refl H).new hp)
theorem HL.put(h:HL H L ps)(hM:H M=some (.lst ys))(hne:L≠M):HL (upd H M (.lst zs)) L ps:=by
 obtain⟨Ts,h1,h2⟩:=h.ex;exact⟨Ts,by rw[q0e hne];exact h1,h2.keep ((TKeep.refl H).lst hM)⟩
theorem HL.snoc(h1:H L=some (.lst (Ts.map V.ref)))(h2:Tups H Ts ps)(hT:H T=none):
  HL (upd (upd H T (.tup p.vs)) L (.lst (Ts.map V.ref++[.ref T]))) L (ps++[p]):=by
 have hTL:T≠L:=fun z=>by subst z;rw[hT] at h1;cases h1
 have h1':(upd H T (.tup p.vs)) L=some (.lst (Ts.map V.ref)):=by rw[q0e (Dd hTL)];exact h1
 refine⟨Ts++[T],by rw[Al];exact q0b,Tups.app ((h2.keep ((TKeep.refl H).new hT)).keep ((TKeep.refl _).lst h1')) (.cons ?_ .nil)⟩;rw[q0e hTL];exact q0b
theorem Pt.dt{p:Pt}(h:H T=some (.tup p.vs)):Dt K H (.ref T) p.dat :=
 .tup (SqT.of h) (.cons (.str _) (.cons (.str _) .nil))
end K
namespace L2
open PySem PySem.Spec PyProof.Rows
section
variable{κ:Type}[DecidableEq κ]
def valV(kvs:List (κ×V))(k:κ):Option V:=(kvs.find? fun kv=>decide (kv.1=k)).map (·.2)
def putK(kvs:List (κ×V))(k:κ)(v:V):List (κ×V) :=
 if (kvs.any fun kv=>decide (kv.1=k))=true then kvs.map (fun kv=>if kv.1=k then(kv.1,v) else kv) else kvs++[(k,v)]
def dropK(kvs:List (κ×V))(k:κ):List (κ×V):=kvs.filter fun kv=>decide (kv.1≠k)
theorem q1h{p:κ×V}(e:p.1=k):valV (p::r) k=some p.2:=by simp[valV,Gq,e]
theorem q1c{p:κ×V}(e:¬p.1=k):valV (p::r) k=valV r k:=by simp[valV,Gq,e]
theorem q4n(k:κ):∀kvs:List (κ×V),(kvs.any fun kv=>decide (kv.1=k))=(valV kvs k).isSome
 |[]=>rfl
 |p::r=>by
  rw[Pp];by_cases e:p.1=k
  ·simp only[q1h e,decide_eq_true e,Bool.true_or,Option.isSome_some]
  ·rw[q1c e,decide_eq_false e,Bool.false_or];exact q4n k r
theorem z2y(k j:κ)(y:V):∀kvs:List (κ×V),valV (kvs.map fun kv=>if kv.1=k then(kv.1,y) else kv) j=(valV kvs j).map fun x=>if j=k then y else x
 |[]=>rfl
 |p::r=>by
  have ih:=z2y k j y r;rw[Ao];by_cases h:p.1=k
  ·rw[if_pos h];by_cases e:p.1=j
   ·rw[q1h (p:=(p.1,y)) e,q1h e,Ij,if_pos (e.symm.trans h)]
   ·rw[q1c (p:=(p.1,y)) e,q1c e,ih]
  ·rw[if_neg h];by_cases e:p.1=j
   ·rw[q1h e,q1h e,Ij,if_neg (fun z=>h (e.trans z))]
   ·rw[q1c e,q1c e,ih]
theorem q9t(k j:κ)(y:V):∀kvs:List (κ×V),valV kvs k=none->valV (kvs++[(k,y)]) j=if j=k then some y else valV kvs j
 |[],_=>by
  by_cases e:k=j
  ·rw[if_pos e.symm];exact q1h (p:=(k,y)) e
  ·rw[if_neg (fun z=>e z.symm)];exact q1c (p:=(k,y)) e
 |p::r,hn=>by
  rw[Nf];have hk:¬p.1=k:=fun z=>by rw[q1h z] at hn;cases hn
  rw[q1c hk] at hn;have ih:=q9t k j y r hn;by_cases e:p.1=j
  ·rw[q1h e,q1h e,if_neg (fun z=>hk (e.trans z))]
  ·rw[q1c e,q1c e,ih]
theorem z9v(kvs:List (κ×V))(k j:κ)(y:V):valV (putK kvs k y) j=if j=k then some y else valV kvs j:=by
 unfold putK;by_cases a:(kvs.any fun kv=>decide (kv.1=k))=true
 ·rw[if_pos a,z2y];rw[q4n] at a;by_cases e:j=k
  ·obtain⟨x,hx⟩:=Mz.mp a;rw[if_pos e,e,hx,Ij,if_pos rfl]
  ·simp_all
 ·rw[if_neg a];refine q9t k j y kvs ?_;rw[q4n] at a;cases q:valV kvs k with
  |none=>rfl
  |some x=>grind
theorem q2o(kvs:List (κ×V))(k:κ)(v:V):(putK kvs k v).length<=kvs.length+1:=by
 unfold putK;split
 ·grind
 ·grind
theorem z9w{kvs:List (κ×V)}(v:V)(h:valV kvs k=none):putK kvs k v=kvs++[(k,v)]:=by
 unfold putK;rw[q4n,h];exact if_neg (by decide)
theorem RelO.isSome_eq(r:RelO o u):o.isSome=u.isSome:=by
 cases o with
 |none=>cases u with
  |none=>rfl
  |some _=>exact(show False from r).elim
 |some _=>cases u with
  |none=>exact(show False from r).elim
  |some _=>rfl
theorem RelO.getD(r:RelO o u)(rd:RelV d d'):RelV (o.getD d) (u.getD d'):=by
 cases o with
 |none=>cases u with
  |none=>exact rd
  |some _=>exact(show False from r).elim
 |some _=>cases u with
  |none=>exact(show False from r).elim
  |some _=>exact r
theorem KV.val(r:KV kvs vs)(k:κ):RelO (valV kvs k) (valueAt vs k):=by
 induction r with
 |nil=>exact True.intro
 | @cons p q ps qs h t ih =>
  obtain⟨h1,h2⟩:=h;by_cases e:p.1=k
  ·have e':q.1=k:=h1.symm.trans e;have b:valueAt (q::qs) k=some q.2:=by simp[valueAt,Gq,e']
   rw[q1h e,b];exact h2
  ·have e':¬q.1=k:=fun z=>e (h1.trans z);have b:valueAt (q::qs) k=valueAt qs k:=by simp[valueAt,Gq,e']
   rw[q1c e,b];exact ih
theorem KV.any(r:KV kvs vs)(k:κ):(kvs.any fun kv=>decide (kv.1=k))=vs.any fun kv=>decide (kv.1=k):=by
 induction r with
 |nil=>rfl
 |cons h t ih=>simp_all
theorem KV.repl(r:KV kvs vs)(k:κ)(ry:RelV y u):
  KV (kvs.map fun kv=>if kv.1=k then(kv.1,y) else kv) (vs.map fun kv=>if kv.1=k then(kv.1,u) else kv):=by
 induction r with
 |nil=>exact .nil
 | @cons p q ps qs h t ih =>
  refine .cons ?_ ih;by_cases e:p.1=k
  ·simp_all
  ·simp_all
theorem KV.put(r:KV kvs vs)(k:κ)(ry:RelV y u):KV (putK kvs k y) (stored vs k u):=by
 unfold putK stored;rw[r.any k];by_cases e:(vs.any fun kv=>decide (kv.1=k))=true
 ·rw[if_pos e,if_pos e];exact r.repl k ry
 ·rw[if_neg e,if_neg e];exact Dp.snoc r ⟨rfl,ry⟩
theorem KV.drop(r:KV kvs vs)(k:κ):KV (dropK kvs k) (without vs k):=by
 unfold dropK without;induction r with
 |nil=>exact .nil
 | @cons p q ps qs h t ih =>
  obtain⟨h1,h2⟩:=h;rw[Rx,Rx];by_cases e:p.1=k
  ·simp_all
  ·have e':¬q.1=k:=fun z=>e (h1.trans z);have a:decide (p.1≠k)=true:=by simp[e]
   have b:decide (q.1≠k)=true:=by simp[e']
   rw[if_pos a,if_pos b];exact .cons ⟨h1,h2⟩ ih
theorem KV.length{kvs:List (κ×V)}(r:KV kvs vs):kvs.length=vs.length:=Fj r
end
theorem z6f(r:RelV (kV k) u):(mixKind P w).is k u=true:=by
 cases k with
 |inl i=>obtain⟨t,e⟩:=(show ∃t,u=Value.int i t from r);subst e;exact z1c P w i t
 |inr x=>obtain⟨t,e⟩:=(show ∃t,u=Value.str x t from r);subst e;exact z1d P w x t
theorem q9u{P:Program}{w:World}:∀{ks:List Key} {us:List Value},Vals (ks.map kV) us->ItemsAre (mixKind P w) ks us
 |[],_,r=>by rw[List.map_nil] at r;cases r;exact .nil
 |k::ks,_,r=>by
  rw[Ao] at r;cases r with
  |cons h t=>exact .cons (z6f h) (q9u t)
abbrev KT(H:Hp):List (List Key×V)->List (List Key×Addr×Value)->Prop:=Dp fun p q=>p.1=q.1/\H q.2.1=some (.tup (p.1.map kV))/\RelV p.2 q.2.2
theorem KT.val(r:KT H kvs xs)(k:List Key):RelO (valV kvs k) ((atKey xs k).map (·.2)):=by
 induction r with
 |nil=>exact True.intro
 | @cons p q ps qs h t ih =>
  obtain⟨h1,_,h2⟩:=h;by_cases e:p.1=k
  ·have e':q.1=k:=h1.symm.trans e;have b:atKey (q::qs) k=some q.2:=by simp[atKey,Gq,e']
   rw[q1h e,b];exact h2
  ·have e':¬q.1=k:=fun z=>e (h1.trans z);have b:atKey (q::qs) k=atKey qs k:=by simp[atKey,Gq,e']
   rw[q1c e,b];exact ih
theorem KT.repl(r:KT H kvs xs)(k:List Key)(ry:RelV y u):
  KT H (kvs.map fun kv=>if kv.1=k then(kv.1,y) else kv) (xs.map (putAt k u)):=by
 induction r with
 |nil=>exact .nil
 | @cons p q ps qs h t ih =>
  refine .cons ?_ ih;unfold putAt;by_cases e:p.1=k
  ·simp_all
  ·simp_all
theorem KT.put(r:KT H kvs xs)(k:List Key)(hb:H b=some (.tup (k.map kV)))(ry:RelV y u):
  KT H (putK kvs k y) (storedH xs k b u):=by
 have e:(kvs.any fun kv=>decide (kv.1=k))=(atKey xs k).isSome:=by
  rw[q4n,(r.val k).isSome_eq,Ml]
 unfold putK storedH;rw[e];by_cases q:(atKey xs k).isSome=true
 ·rw[if_pos q,if_pos q];exact r.repl k ry
 ·rw[if_neg q,if_neg q];exact Dp.snoc r ⟨rfl,hb,ry⟩
theorem KT.keeps(r:KT H kvs xs)(ht:∀b ys,H b=some (.tup ys)->H' b=some (.tup ys)):KT H' kvs xs :=
 Dp.mapP r fun _ _ z=>⟨z.1,ht _ _ z.2.1,z.2.2⟩
section
variable{P:Program}{w:World}{H:Hp}{h:Heap}{a:Addr}
theorem rd_of(ok:HOk P w H h)(e:Rd H a u):ObjOk P w H h a u:=e.ok ok
theorem z6g(ok:HOk P w H h)(e:Rd H a (.dK kvs)):kvs.length<=sizeLine/\(a==Eh)=false/\∃vs,KV kvs vs/\h.DictOf (mixKind P w) a vs :=
 show ObjOk P w H h a (.dK kvs) from rd_of ok e
theorem dk_of(ok:HOk P w H h)(e:H a=some (.dK kvs)):kvs.length<=sizeLine/\(a==Eh)=false/\∃vs,KV kvs vs/\h.DictOf (mixKind P w) a vs:=z6g ok (.inl e)
theorem q7x(ok:HOk P w H h)(e:H a=some (.tup (ks.map kV))):(Hj (mixKind P w)).is h ks a:=by
 obtain⟨_,its,r,o,h1,h2,n,h3⟩:=(show ObjOk P w H h a (.tup (ks.map kV)) from ok a _ e)
 exact⟨o,its.toArray,n,h1,h2,h3,by simpa using q9u r⟩
theorem z6h(ok:HOk P w H h)(e:Rd H a (.dT kvs)):kvs.length<=sizeLine/\(a==Eh)=false /\
  ∃xs,KT H kvs xs/\h.DictOfH (Hj (mixKind P w)) a xs:=by
 obtain⟨z,y,xs,r,o,es,ep,h1,h2,h3,h4,h5⟩:=(show ObjOk P w H h a (.dT kvs) from rd_of ok e)
 refine⟨z,y,xs,r,o,es,ep,h1,h2,h3,h4,fun x hx=>?_,h5⟩;have all:∀{l:List (List Key×V)} {m:List (List Key×Addr×Value)},KT H l m->∀x∈m,(Hj (mixKind P w)).is h x.1 x.2.1:=by
  intro l m q;induction q with
  |nil=>grind
  | @cons p q ps qs hq t ih =>
   intro x hx;rcases Ba.mp hx with e|hx
   ·subst e;exact q7x ok (by rw[<- hq.1];exact hq.2.1)
   ·exact ih x hx
 exact all r x hx
theorem dt_of(ok:HOk P w H h)(e:H a=some (.dT kvs)):kvs.length<=sizeLine/\(a==Eh)=false /\
  ∃xs,KT H kvs xs/\h.DictOfH (Hj (mixKind P w)) a xs:=z6h ok (.inl e)
end
def DGet(H:Hp)(a:Addr)(y:V)(r:Option V):Prop :=
 (∃kvs k,Rd H a (.dK kvs)/\y=kV k/\r=valV kvs k)\/∃kvs k b,Rd H a (.dT kvs)/\y=.ref b/\H b=some (.tup (k.map kV))/\r=valV kvs k
def DPut(H:Hp)(a:Addr)(y v:V)(H':Hp):Prop :=
 (∃kvs k,H a=some (.dK kvs)/\y=kV k/\kvs.length<sizeLine/\H'=upd H a (.dK (putK kvs k v))) \/
 ∃kvs k b,H a=some (.dT kvs)/\y=.ref b/\H b=some (.tup (k.map kV))/\kvs.length<sizeLine/\H'=upd H a (.dT (putK kvs k v))
theorem DGet.k{k:Key}(e:H a=some (.dK kvs)):DGet H a (kV k) (valV kvs k):=.inl ⟨kvs,k,.inl e,rfl,rfl⟩
theorem DGet.t{k:List Key}(e:H a=some (.dT kvs))(eb:H b=some (.tup (k.map kV))):DGet H a (.ref b) (valV kvs k):=.inr ⟨kvs,k,b,.inl e,rfl,eb,rfl⟩
theorem DPut.k{k:Key}(e:H a=some (.dK kvs))(hl:kvs.length<sizeLine):DPut H a (kV k) v (upd H a (.dK (putK kvs k v))):=.inl ⟨kvs,k,e,rfl,hl,rfl⟩
theorem DPut.t{k:List Key}(e:H a=some (.dT kvs))(eb:H b=some (.tup (k.map kV)))(hl:kvs.length<sizeLine):
  DPut H a (.ref b) v (upd H a (.dT (putK kvs k v))):=.inr ⟨kvs,k,b,e,rfl,eb,hl,rfl⟩
section
variable{X:Cx}{pins:List (Addr×Obj)}{σ:St}{H:Hp}{s:Ae}{a:Addr}{y v:V}{u r:Value}{o:Option V}{A:Around}{E:Value->Ae->Prop}
theorem Inv.big(I:Inv X pins σ H s):Eh<s.heap.objs.size:=by
 have h:=(I.mod.glob.keeps I.bk).lt;exact Nat.lt_trans (by decide) h
theorem z6i(hu:A.units+1<cLine)(I:Inv X pins σ H s)(g:DGet H a y (some v))(ry:RelV y u)(h:∀w' s',Inv X pins σ H s'->RelV v w'->Q w' s'):
  wpAny (model X.prog X.w) A (getItem (.ref a) u) Q E s:=by
 rcases g with⟨kvs,k,e,ey,l⟩|⟨kvs,k,b,e,ey,eb,l⟩
 ·subst ey;obtain⟨z,hd,vs,rel,dd⟩:=z6g I.hok e;obtain⟨w',hw,rw'⟩:=RelO.some_of (by rw[l];exact rel.val k);exact wpAny_getItem_of (z6f ry) dd.mapOf hw (h w' _ (I.tok _) rw')
 ·subst ey;cases(show u=Value.ref b from ry);obtain⟨z,hd,xs,rel,dd⟩:=z6h I.hok e;obtain⟨w',hw,rw'⟩:=RelO.some_of (by rw[l];exact rel.val k);obtain⟨p,hp,hp2⟩:=Ed.mp hw;refine wpAny_getItem_heap (Jb hu) (q7x I.hok eb) dd hp ?_;rw[hp2];exact h w' _ (I.tok _) rw'
theorem d_in(hu:A.units+1<cLine)(I:Inv X pins σ H s)(g:DGet H a y o)(ry:RelV y u)(h:∀s',Inv X pins σ H s'->Q (.bool o.isSome) s'):
  wpAny (model X.prog X.w) A (Bw .In u (.ref a)) Q E s:=by
 rcases g with⟨kvs,k,e,ey,l⟩|⟨kvs,k,b,e,ey,eb,l⟩
 ·subst ey;obtain⟨z,hd,vs,rel,dd⟩:=z6g I.hok e;refine wpAny_in_of (z6f ry) hd dd.mapOf ?_;rw[<- (rel.val k).isSome_eq,<- l];exact h _ (I.tok _)
 ·subst ey;cases(show u=Value.ref b from ry);obtain⟨z,hd,xs,rel,dd⟩:=z6h I.hok e;refine wpAny_in_heap (Jb hu) (q7x I.hok eb) hd dd ?_;have q:=(rel.val k).isSome_eq;rw[Ml] at q;rw[<- q,<- l];exact h _ (I.tok _)
theorem x3b(hu:A.units+1<cLine)(I:Inv X pins σ H s)(g:DGet H a y o)(ry:RelV y u)(h:∀s',Inv X pins σ H s'->Q (.bool (!o.isSome)) s'):
  wpAny (model X.prog X.w) A (Bw .NotIn u (.ref a)) Q E s:=by
 rcases g with⟨kvs,k,e,ey,l⟩|⟨kvs,k,b,e,ey,eb,l⟩
 ·subst ey;obtain⟨z,hd,vs,rel,dd⟩:=z6g I.hok e;refine wpAny_notIn_of (z6f ry) hd dd.mapOf ?_;rw[<- (rel.val k).isSome_eq,<- l];exact h _ (I.tok _)
 ·subst ey;cases(show u=Value.ref b from ry);obtain⟨z,hd,xs,rel,dd⟩:=z6h I.hok e;refine wpAny_notIn_heap (Jb hu) (q7x I.hok eb) hd dd ?_;have q:=(rel.val k).isSome_eq;rw[Ml] at q;rw[<- q,<- l];exact h _ (I.tok _)
theorem z1i(I:Inv X pins σ H s)(mu:Mut (H a))(hs:Ei a s.heap h')(he:∃q,h'.get? a=some q)(new:ObjOk X.prog X.w (upd H a ob) h' a ob):
  Inv X pins σ (upd H a ob) { s with heap:=h',toks:=t' } :=
 I.write mu (.inl rfl) (fun b q hb z=>(hs.2 b hb).trans z) he new
theorem dk_new(z:kvs.length<=sizeLine)(hd:(a==Eh)=false)(rel:KV kvs vs)(dd:h'.DictOf (mixKind P w) a vs):
  ObjOk P w H' h' a (.dK kvs):=⟨z,hd,vs,rel,dd⟩
theorem z6j(hu:A.units+1<cLine)(I:Inv X pins σ H s)(g:DPut H a y v H')(ry:RelV y u)(rv:RelV v r)(h:∀s',Inv X pins σ H' s'->Q () s'):
  wpAny (model X.prog X.w) A (setItem (.ref a) u r) Q E s:=by
 rcases g with⟨kvs,k,e,ey,l,eH⟩|⟨kvs,k,b,e,ey,eb,l,eH⟩
 ·subst ey eH;obtain⟨z,hd,vs,rel,dd⟩:=dk_of I.hok e;have hz:vs.length<=sizeLine:=by rw[<- rel.length];exact z
  have hl:(putK kvs k v).length<=sizeLine:=by have:=q2o kvs k v;lia
  refine wpAny_setItem_pairs (z6f ry) dd fun h' dd' hs=>h _ ?_;have he:∃q,h'.get? a=some q:=let ⟨q,_,_,hq,_⟩:=dd';⟨q,hq⟩;exact z1i I (by rw[e];exact True.intro) hs he (dk_new hl hd (rel.put k rv) dd')
 ·subst ey eH;cases(show u=Value.ref b from ry);obtain⟨z,hd,xs,rel,dd⟩:=dt_of I.hok e;have hz:xs.length<=sizeLine:=by rw[<- Fj rel];exact z
  have hl:(putK kvs k v).length<=sizeLine:=by have:=q2o kvs k v;lia
  refine wpAny_setItem_heap (Jb hu) (q7x I.hok eb) dd fun h' dd' hs=>h _ ?_;obtain⟨q,es,ep,hq,h2,h3,h4,_,h5⟩:=dd';refine z1i I (by rw[e];exact True.intro) hs ⟨q,hq⟩ ⟨hl,hd,_,(rel.put k eb rv).keeps fun c ys ec=>?_,q,es,ep,hq,h2,h3,h4,h5⟩;rw[q0e (z5a ec e (fun z=>nomatch z))];exact ec
end
def NoSl(i:Expr):Prop:=∀ov iv,Nv i false ov iv=operate [ov,iv] (getItem ov iv)
theorem x3c{id:String}(hl:Sl (.type T) "__getitem__" = pure (some (.builtin id)))(hs:NoSl slice)(h:wpAny (model prog w) A (eval value env) (fun o s₁=>wpAny (model prog w) A (eval slice env) (fun i s₂=>s₂.TypeIs o T/\wpAny (model prog w) A (getItem o i) Q E s₂) E s₁) E s):
  wpAny (model prog w) A (eval (.Subscript value slice pos) env) Q E s:=by
 refine Pc (Cb h (fun o s₁ h₁=>Cb h₁ (fun i s₂ h₂=>?_) fun _ _ x=>x) fun _ _ x=>x);obtain⟨hT,h₂⟩:=h₂;refine Ab ?_;refine Ab (wpAny_specialOf hT hl ?_);have fin:wpAny (model prog w) A (Nv slice false o i) (fun r s₃=>wpAny (model prog w) A (letTemporaryGo value o r >>= fun _=>pure r) Q E s₃) E s₂:=by
  rw[hs o i];exact wpAny_operating (Cb h₂ (fun r s₃ h₃=>Ab (wpAny_letTemporaryGo (Ac h₃))) fun _ _ x=>x)
 first
  |exact Ac (Ab fin)
  |exact Ab (Ac (Ab fin))
  |exact Ab fin
theorem z1j{σ:St}(I:Inv X pins σ H s)(g:DGet H a y o):s.TypeIs (.ref a) "dict" := by
 rcases g with⟨kvs,k,e,_,_⟩|⟨kvs,k,b,e,_,_,_⟩
 ·obtain⟨_,_,vs,_,dd⟩:=z6g I.hok e;exact dd.typeIs
 ·obtain⟨_,_,xs,_,dd⟩:=z6h I.hok e;exact dd.typeIs
def tDGet(td ty:TE):TE:=fun σ H Q=>td σ H fun x H1=>ty σ H1 fun y H2=>∃a v,x=.ref a/\DGet H2 a y (some v)/\Q v H2
def tDIn(ty td:TE):TE:=fun σ H Q=>ty σ H fun y H1=>td σ H1 fun x H2=>∃a o,x=.ref a/\DGet H2 a y o/\Q (.bl o.isSome) H2
def tDNotIn(ty td:TE):TE:=fun σ H Q=>ty σ H fun y H1=>td σ H1 fun x H2=>∃a o,x=.ref a/\DGet H2 a y o/\Q (.bl (!o.isSome)) H2
def sDPut(td ty tv:TE):TS:=fun D σ H=>tv σ H fun v H1=>td σ H1 fun x H2=>ty σ H2 fun y H3=>∃a H4,x=.ref a/\DPut H3 a y v H4/\D.nx σ H4
section
variable{X:Cx}{o i e value:Expr}{pos pos' tpos:Pos}{td ty tv:TE}
theorem z1k(hu:X.A.units+1<cLine)(ho:PE X o td)(hi:PE X i ty)(hs:NoSl i):PE X (.Subscript o i pos) (tDGet td ty):=by
 intro pins s σ H Q I h;refine x3c PySem.F.slot_dict_getitem.lookup hs (thn (ho pins s σ H _ I h) fun u s1 ⟨x,H1,I1,rx,q1⟩=>thn (hi pins s1 σ H1 _ I1 q1) fun iv s2 ⟨y,H2,I2,ry,a,v,ex,g,q2⟩=>?_);subst ex;obtain rfl:u=Value.ref a:=rx;exact⟨z1j I2 g,z6i hu I2 g ry fun w' s3 I3 rw'=>⟨v,H2,I3,rw',q2⟩⟩
theorem pc_din(hu:X.A.units+1<cLine)(hi:PE X i ty)(ho:PE X o td):PC X .In i o (tDIn ty td):=by
 intro pins s σ H Q I h;refine thn (hi pins s σ H _ I h) fun iv s1 ⟨y,H1,I1,ry,q1⟩=>thn (ho pins s1 σ H1 _ I1 q1) fun u s2 ⟨x,H2,I2,rx,a,ov,ex,g,q2⟩=>?_;subst ex;obtain rfl:u=Value.ref a:=rx;exact d_in hu I2 g ry fun s3 I3=>⟨.bl ov.isSome,H2,I3,rfl,q2⟩
theorem q9v(hu:X.A.units+1<cLine)(hi:PE X i ty)(ho:PE X o td):PC X .NotIn i o (tDNotIn ty td):=by
 intro pins s σ H Q I h;refine thn (hi pins s σ H _ I h) fun iv s1 ⟨y,H1,I1,ry,q1⟩=>thn (ho pins s1 σ H1 _ I1 q1) fun u s2 ⟨x,H2,I2,rx,a,ov,ex,g,q2⟩=>?_;subst ex;obtain rfl:u=Value.ref a:=rx;exact x3b hu I2 g ry fun s3 I3=>⟨.bl (!ov.isSome),H2,I3,rfl,q2⟩
theorem z6k(hu:X.A.units+1<cLine)(ho:PE X o td)(hi:PE X i ty)(hv:PE X value tv)(hs:Kj value (some (.Subscript o i pos')) pos.line X.env=pure false):
  PS X (.Assign [.Subscript o i pos'] value pos) (sDPut td ty tv):=by
 intro pins s σ H D I h;refine wpAny_Assign_Subscript (thn (hv pins s σ H _ I h) fun r s1 ⟨v,H1,I1,rv,q1⟩=>thn (ho pins s1 σ H1 _ I1 q1) fun u s2 ⟨x,H2,I2,rx,q2⟩=>thn (hi pins s2 σ H2 _ I2 q2) fun iv s3 ⟨y,H3,I3,ry,a,H4,ex,g,q3⟩=>?_) hs;subst ex;obtain rfl:u=Value.ref a:=rx;exact z6j hu I3 g ry rv fun s4 I4=>⟨σ,H4,I4,q3⟩
end
theorem z2z(h:Heap)(hb:Eh<h.objs.size):ObjOk P w H (h.push { cls:=.type "dict",data:=.dict #[] }) h.objs.size (.dT []) :=
 ⟨Br _,beq_eq_false_iff_ne.mpr (Dd (Bg hb)),[],.nil,_,#[],0,Ar _ rfl,⟨rfl,rfl,rfl⟩,rfl,rfl,List.nodup_nil⟩
def tDNewT:TE:=fun _ H Q=>∀p,H p=none->Q (.ref p) (upd H p (.dT []))
section
variable{X:Cx}{pos:Pos}
theorem z3a:PE X (.Dict [] [] pos) tDNewT:=fun pins s σ H Q I h =>
 wpAny_Dict_empty ⟨.ref s.heap.objs.size,_,I.laid (t':=s.toks) (fun _ _ q=>Ai _ q) (Ak _) (z2z s.heap I.big),rfl,h _ (I.hok.fresh (Ak _))⟩
end
end L2
namespace K
open PySem L2 TX
def FIs:Str:=Ad "0123456789"
def LEs:Str:=Ad "abcdefghijklmnopqrstuvwxyzABCDEFGHIJKLMNOPQRSTUVWXYZ"
abbrev FI:List Nat:=tl FIs
abbrev LE:List Nat:=tl LEs
def allOf(t s:List Nat):Bool:=decide (t≠[])&&t.all fun c=>decide (c∈s)
def gapTakes(c:Nat)(t:List Nat):Bool:=if c=63 then decide (t.length=1) else if c=35 then allOf t FI else if c=64 then allOf t LE else true
def Pt.takes:Pt->List Nat->Bool
 |.tx l,t=>decide (t=l)
 |.gp c,t=>gapTakes c t
def cut(n:List Nat)(b e:Nat):List Nat:=(n.drop b).take (e-b)
def farTo(p:Pt)(n:List Nat)(L:Nat->Bool)(b k:Nat):Option Nat:=((List.range' b k).filter fun e=>L e&&p.takes (cut n b e)).getLast?
def far(p:Pt)(n:List Nat)(L:Nat->Bool)(b:Nat):Option Nat:=if b<=n.length then farTo p n L b (n.length+1-b) else none
def fits(n:List Nat):List Pt->Nat->Bool
 |[],b=>decide (b=n.length)
 |p::ps,b=>(far p n (fits n ps) b).isSome
def rd(n:List Nat):List Pt->Nat->List (List Nat)
 |[],_=>[]
 |p::ps,b=>(if p.isG then[cut n b ((far p n (fits n ps) b).getD 0)] else[])++rd n ps ((far p n (fits n ps) b).getD 0)
structure DF (H:Hp) (a:Addr) (f:Nat->Option Nat):Prop where
 ex:∃kvs:List (Key×V),H a=some (.dK kvs)/\kvs.length<=5000/\∀b:Nat,valV kvs (Sum.inl (b:Int))=(f b).map fun e=>V.int (e:Nat)
theorem DF.same(h:DF H a f)(sm:Same H H'):DF H' a f:=let ⟨kvs,h1,h2,h3⟩:=h.ex;⟨kvs,sm _ _ h1,h2,h3⟩
theorem DF.get(h:DF H a f)(b:Nat):DGet H a (.int (b:Int)) ((f b).map fun e=>V.int (e:Nat)):=by
 obtain⟨kvs,h1,h2,h3⟩:=h.ex;have:=DGet.k (k:=Sum.inl (b:Int)) h1;rw[h3] at this;exact this
theorem DF.new(h:DF H a f)(hb:H b=none):DF (upd H b o) a f:=h.same ((Same.refl H).new hb)
inductive DS (H:Hp) (n:List Nat):List Addr->List Pt->Prop
 |nil:DS H n [] []
 |cons {d:Addr} {p:Pt} {ds:List Addr} {ps:List Pt}:DF H d (far p n (fits n ps))->DS H n ds ps->DS H n (d::ds) (p::ps)
theorem DS.same(h:DS H n ds ps)(sm:Same H H'):DS H' n ds ps:=by
 induction h with
 |nil=>exact .nil
 |cons a _ ih=>exact .cons (a.same sm) ih
theorem DS.len(h:DS H n ds ps):ds.length=ps.length:=by
 induction h with
 |nil=>rfl
 |cons _ _ ih=>simp[ih]
theorem DS.get(h:DS H n ds ps):∀{i:Nat} {d:Addr},ds[i]?=some d->∃p,ps[i]?=some p/\DF H d (far p n (fits n (ps.drop (i+1)))):=by
 induction h with
 |nil=>simp_all
 | @cons d0 p ds ps a _ ih =>
  intro i d h;cases i with
  |zero=>simp_all
  |succ i =>simp_all
abbrev vN(ns:List (List Nat)):List V:=ns.map fun n=>V.str (mk n)
theorem q0l(l:List Nat):(mk l).length=l.length:=by rw[len,q0z]
theorem mk_inj:mk a=mk b↔a=b:=by grind
theorem dec_str(a b:List Nat):decide (V.str (mk a)=V.str (mk b))=decide (a=b):=by simp_all
end K
namespace PySem.Rv
open Sem (wp)
namespace F
theorem q5o:mroOf (.type "reversed")=pure [.type "reversed",.type "object"]:=by rw[mroOf_type];kernel_rfl
theorem q3z:Sl (.type "reversed") "__new__" = pure (some (.builtin "reversed.__new__")):=by rw[Kt,Hc];kernel_rfl
theorem q4o:Slot "reversed" "__init__" "object.__init__" :=
 .of (owner := "object") (n := "__init__") (by rw[Kt,Hc];kernel_rfl) (by decide +kernel) (by decide +kernel) (by decide +kernel)
  (by first|exact .inl (by rw[Hz];kernel_rfl)|exact .inr (by rw[Hz];kernel_rfl)) (by rw[Hd];kernel_rfl)
theorem called_reversed:TypeCalled "reversed" "reversed.__new__" "object.__init__" :=
 ⟨by decide +kernel,by decide +kernel,⟨_,_,q5o⟩,madeBy_type q5o q3z (by decide +kernel),by decide +kernel,by rw[Hd];kernel_rfl,q4o⟩
theorem typeCall_reversed_1(a:Value):checkTypeCall "reversed" ⟨[a],[]⟩=pure ():=by kernel_rfl
theorem newCall_reversed_1(a:Value):checkBuiltinCall "reversed.__new__" ⟨[.type "reversed",a],[]⟩=pure ():=by kernel_rfl
theorem entry_reversed_new:Pf table "reversed.__new__" = some Dm.«reversed.__new__» := entryFor_of_tree (by kernel_rfl)
theorem slot_lrev_next:Slot "list_reverseiterator" "__next__" "list_reverseiterator.__next__" :=
 .of (owner := "list_reverseiterator") (n := "__next__") (by rw[Kt,Hc];kernel_rfl) (by decide +kernel) (by decide +kernel) (by decide +kernel)
  (by first|exact .inl (by rw[Hz];kernel_rfl)|exact .inr (by rw[Hz];kernel_rfl)) (by rw[Hd];kernel_rfl)
theorem entry_lrev_next:Pf table "list_reverseiterator.__next__" = some Dm.«list_reverseiterator.__next__» := entryFor_of_tree (by kernel_rfl)
theorem slot_lrev_iter:Slot "list_reverseiterator" "__iter__" "list_reverseiterator.__iter__" :=
 .of (owner := "list_reverseiterator") (n := "__iter__") (by rw[Kt,Hc];kernel_rfl) (by decide +kernel) (by decide +kernel) (by decide +kernel)
  (by first|exact .inl (by rw[Hz];kernel_rfl)|exact .inr (by rw[Hz];kernel_rfl)) (by rw[Hd];kernel_rfl)
theorem entry_lrev_iter:Pf table "list_reverseiterator.__iter__" = some Dm.«dict_keyiterator.__iter__» :=
 entryFor_alias (id' := "dict_keyiterator.__iter__") (by kernel_rfl) (by first|rfl|decide +kernel|(unfold String.splitOn;simp +decide [String.splitOnAux])) (by decide +kernel) (by kernel_rfl)
theorem q7y:Manifest.owners.lookup (String.ofList ['r', 'o', 't', 'a', 'r', 'e', 't', 'i', 'e', 's', 'r', 'e', 'v', 'e', 'r', '_', 't', 's', 'i', 'l'].reverse)=some Manifest.sig_list_reverseiterator:=by kernel_rfl
theorem args_lrev_next_1(a:Value):argsOk "list_reverseiterator.__next__" ⟨[a],[]⟩:=by
 unfold argsOk;rw[signature?_of (n:=['_', '_', 't', 'x', 'e', 'n', '_', '_']) (by kernel_rfl) q7y];kernel_rfl
theorem args_lrev_iter_1(a:Value):argsOk "list_reverseiterator.__iter__" ⟨[a],[]⟩:=by
 unfold argsOk;rw[signature?_of (n:=['_', '_', 'r', 'e', 't', 'i', '_', '_']) (by kernel_rfl) q7y];kernel_rfl
theorem sub_reversed:isSubtype (.type "reversed") (.type "reversed")=pure true:=by rw[Hd];kernel_rfl
theorem sub_lrev:isSubtype (.type "list_reverseiterator") (.type "reversed")=pure false:=by rw[Hd];kernel_rfl
end F
open Sem (wp)
def IsRevIter(h:Heap)(it l:Addr)(k:Int):Prop:=∃o,h.get? it=some o/\o.cls=.type "list_reverseiterator" /\ o.data=.fields #[.ref l,.int k 0]
section
variable{prog:Program}{w:World}{A:Around}{E:Value->Ae->Prop}{s:Ae}
theorem wpAny_pyNext_rev_item{k:Nat}{items}(hit:IsRevIter s.heap it l k)(hl:s.heap.IsList l items)(hx:items[k]?=some x)(hQ:∀h',IsRevIter h' it l ((k:Int)-1)->Ei it s.heap h'->Q (some x) { s with heap:=h' }):wpAny (model prog w) A (Gz (.ref it)) Q E s:=by
 obtain⟨o,ho,hc,hd⟩:=id hit;obtain⟨ol,hol,_,nl,hdl⟩:=hl;have hT:s.TypeIs (.ref it) "list_reverseiterator" := ⟨o,ho,hc⟩
 refine Ab (Er (Cc hT F.slot_lrev_next
  (Bx F.slot_lrev_next hT F.entry_lrev_next ?_ (F.args_lrev_next_1 _))))
 show wpAny _ _ (field (.ref it) 1 >>= _) _ _ s;refine Ab (Ck ho hd rfl ?_);refine Ab (Ck ho hd rfl ?_);refine Ab (wpAny_seqItems hol hdl ?_);simp only[Bu,hx];refine Ab (Lk ho hd (by simp) (Ac ⟨x,rfl,Ac (hQ _ ?_ (Ig ..))⟩));exact⟨_,Kl _ ho (Oq (Jc hd _)),(Rf ..).trans hc,by
  rw[Jc hd];simp[Fo]⟩
theorem wpAny_pyNext_rev_end(hh:A.handled=none)(hit:IsRevIter s.heap it l k)(hk:k<0)(hQ:∀h',Ny it s.heap h'->Q none { s with heap:=h' }):wpAny (model prog w) A (Gz (.ref it)) Q E s:=by
 obtain⟨o,ho,hc,hd⟩:=id hit;have hT:s.TypeIs (.ref it) "list_reverseiterator" := ⟨o,ho,hc⟩
 refine Ab (Er (Cc hT F.slot_lrev_next
  (Bx F.slot_lrev_next hT F.entry_lrev_next ?_ (F.args_lrev_next_1 _))))
 show wpAny _ _ (field (.ref it) 1 >>= _) _ _ s;refine Ab (Ck ho hd rfl ?_);show wpAny _ _ (if (k<0) then _ else _) _ _ s;rw[if_pos hk];refine Ab (Jk (Ab ?_));refine Ab ?_;refine Ab (Bt ?_ (by size_fits));refine Ab (Ic (by first|rfl|(simp only[Ot];rfl)) ?_);refine Bt ?_ (by size_fits);refine Ab (Pq ?_);rw[show A.in1.handled=none from hh];refine Ab (Ac (Ro ?_));refine Ab (Kg ⟨_,Ar _ rfl,rfl⟩ Lj ?_);exact Ac (hQ _ (fun b o _ e=>Ai _ (Ai _ e)))
theorem wpAny_pyIter_rev(hit:IsRevIter s.heap it l k)(h:Q (.ref it) s):wpAny (model prog w) A (Lp (.ref it)) Q E s:=by
 obtain⟨o,ho,hc,hd⟩:=id hit;have hT:s.TypeIs (.ref it) "list_reverseiterator" := ⟨o,ho,hc⟩
 refine Jt hT F.slot_lrev_iter (Bx F.slot_lrev_iter hT F.entry_lrev_iter ?_ (F.args_lrev_iter_1 _));exact Ac ⟨_,rfl, "list_reverseiterator",_,hT,F.slot_lrev_next.lookup,h⟩
theorem q4a(l:Addr)(items:Array Value)(n:Nat):
  Meets (Dm.«reversed.__new__» ⟨[.type "reversed",.ref l],[]⟩) (fun _ R s=>s.heap.get? l=some { cls:=.type "list",dict:=none,data:=.seq items n,slots:=#[] } /\
   R (.ok (.ret (.ref s.heap.objs.size))) { s with heap:=s.heap.push { cls:=.type "list_reverseiterator",data:=.fields #[.ref l,Fo (((items.size:Nat):Int)-1)] } }) :=
 .of_wp fun prog w A R s h=>by
  obtain⟨hp,g,d,tk,os⟩:=s;obtain⟨hl,h⟩:=h;have hT:Ae.TypeIs ⟨hp,g,d,tk,os⟩ (.ref l) "list" := ⟨_,hl,rfl⟩
  wp_walk
  refine Ic F.sub_reversed ?_
  wp_walk
  refine Ic Hs.lookup ?_
  wp_walk
  refine Ic (Hs.bind (Value.ref l)) ?_
  wp_walk
  have key:Fz (model prog w) A.in1 (Code.call (.builtin "list.__reversed__") ⟨[.ref l],[]⟩) (fun r s'=>r=.ok (.ret (.ref hp.objs.size))/\s'=(⟨hp.push { cls:=.type "list_reverseiterator",data:=.fields #[.ref l,Fo (((items.size:Nat):Int)-1)] },g,d,tk,os⟩:Ae)) ⟨hp,g,d,tk,os⟩ :=
   Pg Hs.plain F.entry_list_reversed (Hs.check _ _ _ _ _ _ _ _ hT (F.args_list_reversed_1 _) (AutoListH.list___reversed___list_0 l items n prog w A.in1 (fun r s'=>r=.ok (.ret (.ref hp.objs.size))/\s'=(⟨hp.push { cls:=.type "list_reverseiterator",data:=.fields #[.ref l,Fo (((items.size:Nat):Int)-1)] },g,d,tk,os⟩:Ae)) ⟨hp,g,d,tk,os⟩ ⟨hl,rfl,rfl⟩))
  refine Ha key fun r s' hr=>?_;obtain⟨rfl,rfl⟩:=hr;exact Ac ⟨_,rfl,h⟩
theorem q7k(ft:TypeCalled T newId initId)(hsubU:isSubtype (.type U) (.type T)=pure false)(hct:checkTypeCall T ⟨args,[]⟩=pure ())(hcn:checkBuiltinCall newId ⟨.type T::args,[]⟩=pure ())(entryN:Pf table newId=some Bn)(g:Meets (Bn ⟨.type T::args,[]⟩) S)(h:S A.in1 (wants (fun obj s₁=>s₁.TypeIs obj U/\Q obj s₁) E) s):wpAny (model prog w) A (call (.type T) args) Q E s:=by
 obtain⟨c,tl,hmro⟩:=ft.mro;have hmade:=ft.made;refine Sj (codeAny_of_tree ?_);refine Ac ⟨Code.quiet_builtin _ (by decide +kernel),Ik F.entry_type_call ?_⟩;have h1:=ft.notType;have h2:=ft.canCreate;repeat (any_goals (first|assumption|wp_step))
 refine Ha (Pg ft.plain entryN (Ic hcn (g prog w A.in1 _ s h))) fun r s₁ hr=>?_;cases r with
 |error e=>exact hr
 |ok fl =>
  cases fl with
  |ret obj =>
   obtain⟨hT,hq⟩:=hr;repeat (any_goals (first|assumption|wp_step))
  |_=>exact hr.elim
theorem call_reversed_list(hl:s.heap.get? l=some { cls:=.type "list",dict:=none,data:=.seq items n,slots:=#[] })(h:Q (.ref s.heap.objs.size) { s with heap:=s.heap.push { cls:=.type "list_reverseiterator",data:=.fields #[.ref l,Fo (((items.size:Nat):Int)-1)] } }):
  wpAny (model prog w) A (call (.type "reversed") [.ref l]) Q E s :=
 q7k F.called_reversed F.sub_lrev (F.typeCall_reversed_1 _) (F.newCall_reversed_1 _) F.entry_reversed_new (q4a l items n) ⟨hl,⟨_,Ar _ rfl,rfl⟩,h⟩
end
end PySem.Rv
namespace L2
open PySem PySem.Spec PyProof.Rows
def Itv(K:Ag)(a:Addr)(n:Nat):It :=
 ⟨fun i H=>∃xs x,SqL K H a xs/\xs.length=n/\xs.reverse[i]?=some x,fun i H x H'=>H'=H/\∀xs,SqL K H a xs->xs.reverse[i]?=some x,fun i _=>n<=i⟩
theorem z4i(x:PySem.Rv.IsRevIter h it l k)(e:∀o,h.get? it=some o->h'.get? it=some o):PySem.Rv.IsRevIter h' it l k:=let ⟨o,ho,r⟩:=x;⟨o,e _ ho,r⟩
theorem z9x{K:Ag}(a it:Addr)(n:Nat):Turn P w K tg (Itv K a n) [it] it (fun i h=>PySem.Rv.IsRevIter h it a ((n:Int)-1-i)) where
 mem:=by simp
 obj:=fun i h st b hb=>by
  have e:b=it:=by grind
  subst e;obtain⟨o,e,c,d⟩:=st;exact⟨o,e,fun v z=>by rw[d] at z;cases z⟩
 keep:=fun i h h' st k=>z4i st fun o e=>k it (by simp) o e
 item:=by
  intro X hP hw hK hc i pins s σ H E I hf st hg;subst hP hw hK;obtain⟨xs,x,hq,hn,hx⟩:=hg;obtain⟨its,rv,p,hz⟩:=I.list hq;have hi:i<xs.length:=by have:=(Ax.mp hx).1;simpa using this
  have hx':xs[xs.length-1-i]?=some x:=by grind
  obtain⟨u,hu,ru⟩:=rv.get hx';obtain⟨f0,f1,f2,f3,f4,f5⟩:=hf it (by simp);have est:((n:Int)-1-(i:Int))=((xs.length-1-i:Nat):Int):=by lia
  have st1:PySem.Rv.IsRevIter s.heap it a ((xs.length-1-i:Nat):Int):=by simp_all
  refine PySem.Rv.wpAny_pyNext_rev_item st1 p.isList (by simpa using hu) fun h' st' sb=>?_;have I1:Inv X pins σ H { s with heap:=h' }:=I.turned (t':=s.toks) (fun b o hb e=>(sb.2 b hb).trans e) f0 f1 f3 f4 f5;obtain⟨o,e,c,d⟩:=id st';refine⟨u,rfl,z1g e c d (by decide) ⟨x,H,I1,ru,⟨rfl,fun ys hy=>by rw[I.list_inj hy hq];exact hx⟩,?_,fun b hb=>(hf b hb).1⟩⟩;have e2:((n:Int)-1-((i+1:Nat):Int))=((xs.length-1-i:Nat):Int)-1:=by lia
  rw[e2];exact st'
 done:=by
  intro X hP hw hK hc i pins s σ H E I hf st hg;obtain⟨f0,f1,f2,f3,f4,f5⟩:=hf it (by simp);have hle:n<=i:=hg;exact PySem.Rv.wpAny_pyNext_rev_end (I.ok.hd hc) st (by lia) fun h' eb=>⟨rfl,I.turned (t':=s.toks) (fun b o hb e=>eb b o hb e) f0 f1 f3 f4 f5⟩
 self:=fun _ _ _ _ _ st h=>PySem.Rv.wpAny_pyIter_rev st h
section
variable{X:Cx}{tg:Expr}
def iRev(K:Ag)(ta:TA):TI:=fun σ H R=>ta σ H fun vs H1=>∃a xs,vs=[.ref a]/\H1 a=some (.lst xs)/\R (Itv K a xs.length) H1
theorem pi_rev(hg:Gl X "reversed")(hm:X.mg "reversed" = none)(ha:PA X [a] ta)(hs:Bi [a] X.env=[(false,eval a X.env)]:=by rfl):
  PI X tg (.Call (.Name "reversed" p) [a] [] pos) (iRev X.K ta):=by
 intro pins s σ H R I h;refine Call_ (q7o I hg hm (by decide +kernel:Gd "reversed" = some (.type "reversed")) (Ez (thn (ha pos pins s σ H _ I h) fun us s1 ⟨vs,H1,I1,r1,q1⟩=>?_) hs rfl));obtain⟨l,xs,e,hq,q⟩:=q1;subst e;obtain⟨u,rfl,r⟩:=vals1 r1;cases r;obtain⟨z,its,n,rv,hl,e⟩:=I1.lstM hq;refine PySem.Rv.call_reversed_list e ?_;have hit:PySem.Rv.IsRevIter (s1.heap.push { cls:=.type "list_reverseiterator",data:=.fields #[.ref l,Fo (((its.toArray.size:Nat):Int)-1)] }) s1.heap.objs.size l ((xs.length:Int)-1-((0:Nat):Int)):=by
  refine⟨_,Ar _ rfl,rfl,?_⟩;rw[Av,<- hl];simp[Fo]
 refine PySem.Rv.wpAny_pyIter_rev hit ?_;refine⟨s1.heap.objs.size,[s1.heap.objs.size],_,_,H1,rfl,I1.kept (t':=s1.toks) fun b o e=>Ai _ e,z9x l _ xs.length,hit,fun b hb=>?_,q⟩;have e:b=s1.heap.objs.size:=by grind
 subst e;exact I1.fpOk (Ak _) (I1.hok.fresh (Ak _))
theorem rev_k{a:Expr}{ta:TA}{p pos:Pos}(K:Ag)(hK:X.K=K)(hg:Gl X "reversed")(hm:X.mg "reversed" = none)(ha:PA X [a] ta)(hs:Bi [a] X.env=[(false,eval a X.env)]:=by rfl):
  PI X tg (.Call (.Name "reversed" p) [a] [] pos) (iRev K ta):=by subst hK;exact pi_rev hg hm ha hs
end
theorem Inv.freezeK{σ:St}(I:Inv X pins σ H s)(hd:H d=some u)(ho:s.heap.get? d=some ob)(hu:(∃kvs,u=.dK kvs)\/∃kvs,u=.dT kvs):Inv X pins σ (upd H d (.frz ob u)) s:=by
 have no:∀{v:HO} {b:Addr},H b=some v->((∀kvs,v≠.dK kvs)/\∀kvs,v≠.dT kvs)->b≠d:=fun{v b} z hv y=>by
  subst y;rw[hd] at z;cases z;rcases hu with⟨kvs,rfl⟩|⟨kvs,rfl⟩
  ·exact hv.1 _ rfl
  ·exact hv.2 _ rfl
 have nn:∀{b:Addr},H b=none->b≠d:=fun{b} z y=>by subst y;rw[hd] at z;cases z
 refine⟨I.ok,I.os,I.bare,⟨I.base.keep,I.base.slot,fun b o e n hx=>?_,I.base.there,fun b xs e=>?_,fun b o v e=>?_,fun b ps e=>?_⟩,I.loc,I.cell,?_,fun x c e=>?_,fun p hp=>?_,fun b v e=>?_,I.len⟩
 ·have z:=I.base.free b o e n hx;rw[q0e (nn z)];exact z
 ·have z:=I.base.tups b xs e;rw[q0e (no z ⟨fun _ y=>(by cases y),fun _ y=>(by cases y)⟩)];exact z
 ·have z:=I.base.frzs b o v e;rw[q0e (no z ⟨fun _ y=>(by cases y),fun _ y=>(by cases y)⟩)];exact z
 ·obtain⟨m,z⟩:=I.base.tbls b ps e;exact⟨m,by rw[q0e (no z ⟨fun _ y=>(by cases y),fun _ y=>(by cases y)⟩)];exact z⟩
 ·rw[q0e (nn I.free)];exact I.free
 ·rw[q0e (nn (I.freeC x c e))];exact I.freeC x c e
 ·obtain⟨e,n,ne,nf',dd⟩:=I.pin p hp;exact⟨e,by rw[q0e (nn n)];exact n,ne,nf',dd⟩
 ·have st:∀{b:Addr} {v:HO},ObjOk X.prog X.w H s.heap b v->ObjOk X.prog X.w (upd H d (.frz ob u)) s.heap b v:=fun x =>
   x.stay (fun _ _ _ q=>q) (fun c q=>by rw[q0e (no q ⟨fun _ y=>(by cases y),fun _ y=>(by cases y)⟩)];exact q) fun c xs q=>by rw[q0e (no q ⟨fun _ y=>(by cases y),fun _ y=>(by cases y)⟩)];exact q
  by_cases hb:b=d
  ·subst hb;rw[q0b] at e;cases e;exact⟨ho,st (I.hok b u hd)⟩
  ·rw[q0e hb] at e;exact st (I.hok b v e)
theorem KV.at'(r:KV kvs vs):∀{i:Nat} {k:Key} {v:V},kvs[i]?=some (k,v)->∃u,vs[i]?=some (k,u):=by
 induction r with
 |nil=>simp_all
 | @cons p q ps qs h t ih =>
  intro i k v hx;cases i with
  |zero=>simp at hx;subst hx;obtain⟨q1,q2⟩:=q;have:=h.1;simp at this;subst this;exact⟨q2,rfl⟩
  |succ i=>simp_all
open PySem PySem.Spec PyProof.Rows
theorem q6r:∀{xs:List V} {us:List Value},xs.length=us.length->(∀(i:Nat) x u,xs[i]?=some x->us[i]?=some u->RelV x u)->Vals xs us
 |[],[],_,_=>.nil
 |[],_::_,h,_=>by simp at h
 |_::_,[],h,_=>by simp at h
 |x::xs,u::us,h,k=>.cons (k 0 x u rfl rfl) (q6r (by simpa using h) fun i y v h1 h2=>k (i+1) y v (by simpa using h1) (by simpa using h2))
section
variable{X:Cx}
theorem q8q(hc:X.calm=true):CallR X (.type "list") (fun xs H Q=>∃p i j,xs=[.ref p]/\H p=some (.rng i j)/\(-(2^62)<=i/\i<2^62 /\ -(2^62)<=j/\j<2^62)/\(j-i).toNat<=1000/\∀l,H l=none->Q (.ref l) (upd H l (.lst ((List.range (j-i).toNat).map fun k=>V.int (i+(k:Nat)))))):=by
 intro pins s σ H xs us Q I r h;obtain⟨p,i,j,rfl,hp,⟨h1,h2,h3,h4⟩,hle,q⟩:=h;obtain⟨u,rfl,ru⟩:=vals1 r;cases ru;obtain⟨t,t',v,hr⟩:=I.hok p _ hp;refine call_list_range (n:=(j-i).toNat) (I.ok.hd hc) hr (small_one h1 h2 h3 h4) (by rw[rangeSize_one];split<;>lia) (by lia) fun h' tk acc' c' hk hS hacc=>?_;have hv:Vals ((List.range (j-i).toNat).map fun k=>V.int (i+(k:Nat))) acc'.toList:=by
  refine q6r (by simp[hacc.1]) fun m x u h1 h2=>?_;have h2':acc'[m]?=some u:=by simp_all
  obtain⟨tk,rfl⟩:=hacc.2 m u h2';rw[Au] at h1;have hm:m<(j-i).toNat:=by
   have:=(Array.getElem?_eq_some_iff.mp h2').1;rw[hacc.1] at this;exact this
  rw[Py hm] at h1;cases h1;exact⟨tk,by simp⟩
 refine⟨.ref s.heap.objs.size,_,I.laid (o:=.lst ((List.range (j-i).toNat).map fun k=>V.int (i+(k:Nat)))) (h':=h') (t':=tk) (fun b u e=>hk b u e) (Ak _) ⟨?_,acc'.toList,c',hv,by simpa using hS⟩,rfl,q _ I.fresh⟩;rw[Aa,De,Eg];lia
end
open PySem PySem.Spec PyProof.Rows
section
variable{X:Cx}
theorem z6l:CallR X (.type "int") (fun xs H Q=>∃x n,xs=[.str x]/\PySem.intText? x=some n/\x.length<=640/\Q (.int n) H):=by
 intro pins s σ H xs us Q I r h;obtain⟨x,n,rfl,h1,h2,q⟩:=h;obtain⟨u,rfl,t,rfl⟩:=vals1 r;exact W.KIN.call_text h1 h2 ⟨.int n,H,I.tok _,⟨_,rfl⟩,q⟩
theorem z6m:CallR X (.type "int") (fun xs H Q=>((∃i,xs=[.int i]/\Q (.int i) H)\/∃k,xs=[.bl k]/\Q (.int (if k then 1 else 0)) H)\/∃x n,xs=[.str x]/\PySem.intText? x=some n/\x.length<=640/\Q (.int n) H):=call_int1.or z6l
theorem q9w:CallR X (.type "str") (fun xs H Q=>∃n:Nat,xs=[.int (n:Int)]/\n<=10^12/\Q (.str (Ad (toString (n:Int)))) H):=by
 intro pins s σ H xs us Q I r h;obtain⟨n,rfl,h1,q⟩:=h;obtain⟨u,rfl,t,rfl⟩:=vals1 r;refine PySem.P.str_of_int ?_ ⟨.str (Ad (toString (n:Int))),H,I.tok _,⟨_,rfl⟩,q⟩;rw[Qp];have h2:n<2^40:=Lv h1 (by decide);have:n.log2<40:=by
  by_cases hz:n=0
  ·rw[hz];decide
  ·exact(Nat.log2_lt hz).mpr h2
 lia
end
end L2
namespace K
open PySem L2 TX
def dg(m:Nat):List Nat:=tl (Ad (toString (m:Int)))
theorem z9y(m:Nat):Ad (toString (m:Int))=mk (dg m):=(q9r _).symm
theorem z9z(m:Nat):dg m=(Nat.toDigits 10 m).map Char.toNat:=W.KIN.signs_num m
theorem q4p(h:m<10):dg m=[48+m]:=by
 rw[z9z,Nat.toDigits_of_lt_base h];exact(by decide:∀m:Nat,m<10->[Nat.digitChar m].map Char.toNat=[48+m]) m h
theorem z1l(h:10<=m):dg m=dg (m / 10)++[48+m%10]:=by
 have hm:m%10<10:=Nat.mod_lt m (by decide);have t:Nat.toDigits 10 (m / 10)++Nat.toDigits 10 (m%10)=Nat.toDigits 10 (10*(m / 10)+m%10):=Nat.toDigits_append_toDigits (by decide) (by lia) hm;rw[Nat.div_add_mod] at t;rw[z9z,z9z,<- t,Al];congr 1;exact(z9z (m%10)).symm.trans (q4p hm)
theorem x1q(m:Nat):∀c∈dg m,c∈FI:=by
 have hf:∀d:Nat,d<10->48+d∈FI:=by decide +kernel
 induction m using Nat.strongRecOn with
 |_ m ih =>
  by_cases h:m<10
  ·rw[q4p h];intro c hc;rw[Az.mp hc];exact hf m h
  ·rw[z1l (by lia)];intro c hc;rcases Ay.mp hc with z|z
   ·grind
   ·rw[Az.mp z];exact hf _ (Nat.mod_lt m (by decide))
theorem x3d(m:Nat):∃d r,dg m=(48+d)::r/\d<10/\(d=0->m=0/\r=[]):=by
 induction m using Nat.strongRecOn with
 |_ m ih =>
  by_cases h:m<10
  ·exact⟨m,[],q4p h,h,fun z=>⟨z,rfl⟩⟩
  ·obtain⟨d,r,h1,h2,h3⟩:=ih (m / 10) (by lia);refine⟨d,r++[48+m%10],by rw[z1l (by lia),h1];rfl,h2,fun z=>?_⟩;have:=(h3 z).1;lia
theorem z6n:∀(k m:Nat),m<10^(k+1)->(dg m).length<=k+1
 |0,m,h=>by rw[q4p (by simpa using h)];exact Ak _
 |k+1,m,h=>by
  by_cases hz:m<10
  ·rw[q4p hz];simp
  ·rw[z1l (by lia),Af,Ce];have:=z6n k (m / 10) (by rw[Nat.pow_succ] at h;lia);lia
theorem dg_pos(m:Nat):1<=(dg m).length:=by obtain⟨d,r,h,_⟩:=x3d m;rw[h];simp
end K
namespace L2
open PySem PySem.Spec PyProof.Rows
theorem Inv.thaw{σ:St}(I:Inv X pins σ H s)(hd:H d=some (.frz ob u))(h0:∀o v,X.H₀ d≠some (.frz o v)):Inv X pins σ (upd H d u) s:=by
 have no:∀{v:HO} {b:Addr},H b=some v->(∀o z,v≠.frz o z)->b≠d:=fun{v b} z hv y=>by
  subst y;rw[hd] at z;cases z;exact hv _ _ rfl
 have nn:∀{b:Addr},H b=none->b≠d:=fun{b} z y=>by subst y;rw[hd] at z;cases z
 refine⟨I.ok,I.os,I.bare,⟨I.base.keep,I.base.slot,fun b o e n hx=>?_,I.base.there,fun b xs e=>?_,fun b o v e=>?_,fun b ps e=>?_⟩,I.loc,I.cell,?_,fun x c e=>?_,fun p hp=>?_,fun b v e=>?_,I.len⟩
 ·have z:=I.base.free b o e n hx;rw[q0e (nn z)];exact z
 ·have z:=I.base.tups b xs e;rw[q0e (no z fun _ _ y=>(by cases y))];exact z
 ·have z:=I.base.frzs b o v e;rw[q0e (fun y=>by subst y;exact h0 _ _ e)];exact z
 ·obtain⟨m,z⟩:=I.base.tbls b ps e;exact⟨m,by rw[q0e (no z fun _ _ y=>(by cases y))];exact z⟩
 ·rw[q0e (nn I.free)];exact I.free
 ·rw[q0e (nn (I.freeC x c e))];exact I.freeC x c e
 ·obtain⟨e,n,ne,nf',dd⟩:=I.pin p hp;exact⟨e,by rw[q0e (nn n)];exact n,ne,nf',dd⟩
 ·have st:∀{b:Addr} {v:HO},ObjOk X.prog X.w H s.heap b v->ObjOk X.prog X.w (upd H d u) s.heap b v:=fun x =>
   x.stay (fun _ _ _ q=>q) (fun c q=>by rw[q0e (no q fun _ _ y=>(by cases y))];exact q) fun c xs q=>by rw[q0e (no q fun _ _ y=>(by cases y))];exact q
  by_cases hb:b=d
  ·subst hb;rw[q0b] at e;cases e;exact st (I.hok b _ hd).2
  ·rw[q0e hb] at e;exact st (I.hok b v e)
def Ends.thaw(D:Ends)(d:Addr):Ends where
 nx:=fun σ H=>∃ob u,H d=some (.frz ob u)/\D.nx σ (upd H d u)
 rt:=fun v H=>∃ob u,H d=some (.frz ob u)/\D.rt v (upd H d u)
 bk:=fun σ H=>∃ob u,H d=some (.frz ob u)/\D.bk σ (upd H d u)
 ct:=fun σ H=>∃ob u,H d=some (.frz ob u)/\D.ct σ (upd H d u)
def tThaw(h₀:Hp)(t:TS):TS:=fun D σ H=>∃d,(∀o v,h₀ d≠some (.frz o v))/\t (D.thaw d) σ H
theorem x3e{X:Cx}{st:Stmt}{t:TS}(h₀:Hp)(hH:X.H₀=h₀)(h:PS X st t):PS X st (tThaw h₀ t):=by
 subst hH;intro pins s σ H D I q;obtain⟨d,hd,q⟩:=q;refine Cb (h pins s σ H _ I q) (fun f s' z=>?_) fun _ _ z=>z;cases f with
 |next=>obtain⟨σ',H',I',ob,u,e,n⟩:=z;exact⟨σ',_,I'.thaw e hd,n⟩
 |brk=>obtain⟨σ',H',I',ob,u,e,n⟩:=z;exact⟨σ',_,I'.thaw e hd,n⟩
 |cont=>obtain⟨σ',H',I',ob,u,e,n⟩:=z;exact⟨σ',_,I'.thaw e hd,n⟩
 |ret v=>obtain⟨x,σ',H',I',r,ob,u,e,n⟩:=z;exact⟨x,σ',_,I'.thaw e hd,r,n⟩
end L2
namespace PySem.Rv
open Sem (wp)
section
variable{prog:Program}{w:World}{A:Around}{E:Value->Ae->Prop}{s:Ae}{it d:Addr}{i ep:Nat}{dob:Obj}{ens:Array Lq}
theorem keys_iter(hsys:(d==Eh)=false)(hT:s.TypeIs (.ref d) "dict")(hdo:s.heap.get? d=some dob)(hda:dob.data=.dict ens ep)(hQ:Q (.ref s.heap.objs.size) { s with heap:=s.heap.push { cls:=.type "dict_keyiterator",data:=.fields #[.ref d,.int 0 0,.int ens.size 0,.int ep 0] } }):
  wpAny (model prog w) A (Lp (.ref d)) Q E s:=by
 refine Jt hT Ry (Bx Ry hT F.entry_dict_iter ?_ (F.args_dict_iter_1 _));refine Ab (Ab (Ou hT (Ac ?_)));show wpAny _ _ (Km d >>= _) _ _ s;unfold Km;rw[if_neg (by rw[hsys];decide)];refine Ab (Ac (Ab (Fp hdo hda (Ab (Gr hdo hda ?_)))));refine Ab (Bt (Ac ⟨_,rfl, "dict_keyiterator",_,⟨_,Ar _ rfl,rfl⟩,Dq.lookup,?_⟩));simpa[Fo] using hQ
theorem keys_item(hki:s.heap.IsKeyIter it d i ens.size ep)(hdo:s.heap.get? d=some dob)(hda:dob.data=.dict ens ep)(hlt:i<ens.size)(hQ:∀h',h'.IsKeyIter it d (i+1) ens.size ep->Ei it s.heap h'->Q (some ens[i].key) { s with heap:=h' }):wpAny (model prog w) A (Gz (.ref it)) Q E s:=by
 obtain⟨io,hio,hic,hid⟩:=id hki;refine Ab (Er (Cc hki.typeIs Dq
  (Bx Dq hki.typeIs Lb ?_ (Ku _))))
 refine Ab (Ac (Ab (Ab ?_)));first|refine Ab (Es hki.typeIs (Ac ?_))|refine Ab (Gj hki.typeIs (Ac ?_))
 refine Ab (Ll hio hid ?_);refine Ab (Ac (Ab (Fp hdo hda ?_)));rw[if_neg (by simp)];refine Ab (Ac (Ab (Gr hdo hda ?_)));rw[if_neg (by simp)];refine Ac ?_;simp only[show ¬((i:Int)<0) from by lia,if_false,Bu,Dj hlt];refine Ab ?_;first|refine Ab (Es hki.typeIs (Ac ?_))|refine Ab (Gj hki.typeIs (Ac ?_))
 refine Ab (Ov hki.typeIs ?_);show wpAny _ _ (setField (.ref it) 1 (Fo ((i:Int)+1)) >>= _) _ _ s;refine Ab (Lk hio hid (by simp) ?_);have hki2:(s.heap.update it (Obj.mapFields (·.setIfInBounds 1 (Fo ((i:Int)+1))))).IsKeyIter it d (i+1) ens.size ep :=
  ⟨_,Kl _ hio (Oq (Jc hid _)),(Rf ..).trans hic,by rw[Jc hid];simp[Fo]⟩
 refine Ab (Cy (Ab (Ov (s:={ s with heap:=s.heap.update it (Obj.mapFields (·.setIfInBounds 1 (Fo ((i:Int)+1)))) }) hki2.typeIs ?_)));exact Ac (Ac ⟨_,rfl,Ac (hQ _ hki2 (Ig ..))⟩)
theorem keys_end(hh:A.handled=none)(hki:s.heap.IsKeyIter it d i ens.size ep)(hdo:s.heap.get? d=some dob)(hda:dob.data=.dict ens ep)(hge:ens.size<=i)(hQ:∀h',Ny it s.heap h'->Q none { s with heap:=h' }):wpAny (model prog w) A (Gz (.ref it)) Q E s:=by
 obtain⟨io,hio,hic,hid⟩:=id hki;refine Ab (Er (Cc hki.typeIs Dq
  (Bx Dq hki.typeIs Lb ?_ (Ku _))))
 refine Ab (Ac (Ab (Ab ?_)));first|refine Ab (Es hki.typeIs (Ac ?_))|refine Ab (Gj hki.typeIs (Ac ?_))
 refine Ab (Ll hio hid ?_);refine Ab (Ac (Ab (Fp hdo hda ?_)));rw[if_neg (by simp)];refine Ab (Ac (Ab (Gr hdo hda ?_)));rw[if_neg (by simp)];refine Ac ?_;simp only[show ¬((i:Int)<0) from by lia,if_false,Bu,Oa hge];refine Ab ?_;first|refine Ab (Es hki.typeIs (Ac ?_))|refine Ab (Gj hki.typeIs (Ac ?_))
 show wpAny _ _ (setField (.ref it) 0 .none >>= _) _ _ s;refine Ab (Lk hio hid (by simp) ?_);refine Ab ?_;refine Ab (Bt ?_ (by size_fits));refine Ab (Ic (by first|rfl|(simp only[Ot];rfl)) ?_);refine Bt ?_ (by size_fits);refine Ab (Pq ?_);rw[show A.in1.handled=none from hh];refine Ab (Ac (Ro ?_));refine Ab (Kg ⟨_,Ar _ rfl,rfl⟩ Lj ?_);exact Ac (hQ _ (((Ig ..).extBut.push _).push _))
end
end PySem.Rv
namespace L2
open PySem PySem.Spec PyProof.Rows
def Itk(d:Addr)(ob:Obj)(kvs:List (List Key×V)):It :=
 ⟨fun i H=>H d=some (.frz ob (.dT kvs))/\i<kvs.length,fun i H x H'=>H'=H/\∃k v b,kvs[i]?=some (k,v)/\H b=some (.tup (k.map kV))/\x=.ref b,fun i H=>H d=some (.frz ob (.dT kvs))/\kvs.length<=i⟩
theorem Dp.at'{F:α->β->Prop}:∀{l:List α} {m:List β} {i:Nat} {p:α},Dp F l m->l[i]?=some p->∃q,m[i]?=some q/\F p q
 |_,_,0,_,.cons h t,e=>by simp at e;subst e;exact⟨_,rfl,h⟩
 |_,_,i+1,_,.cons h t,e=>by
  obtain⟨q,h1,h2⟩:=Dp.at' t (by simpa using e);exact⟨q,by simpa using h1,h2⟩
theorem z6o(ok:HOk P w H h)(hfz:H d=some (.frz ob (.dT kvs)))(hob:ob.data=.dict ens ep):
  h.get? d=some ob/\ens.size=kvs.length/\∀{i:Nat} {k:List Key} {v:V} (hlt:i<ens.size),kvs[i]?=some (k,v)->∃b,ens[i].key=.ref b/\H b=some (.tup (k.map kV)):=by
 obtain⟨hget,z,hsys,xs,hp,o,es,ep',h1,h2,h3,h4,h5⟩:=(show ObjOk P w H h d (.frz ob (.dT kvs)) from ok d _ hfz)
 rw[hget] at h1;cases h1;rw[hob] at h3;cases h3;have hl:=Fj hp;have hz:ens.size=xs.length:=by rw[<- Ea,h4,Aa]
 refine⟨hget,by lia,fun{i k v} hlt hk=>?_⟩;obtain⟨q,hq,e1,e2,e3⟩:=Dp.at' hp hk;refine⟨q.2.1,?_,e2⟩;have:ens.toList[i]?=some (Oz (Hj (mixKind P w)) q):=by simp_all
 rw[Fg,Dj hlt] at this;injection this with this;rw[this];rfl
theorem z4j{K:Ag}(d it:Addr)(ob:Obj)(kvs:List (List Key×V))(ens:Array Lq)(ep:Nat)(hob:ob.data=.dict ens ep):
  Turn P w K tg (Itk d ob kvs) [it] it (fun i h=>h.IsKeyIter it d i ens.size ep) where
 mem:=by simp
 obj:=fun i h st b hb=>by
  have e:b=it:=by grind
  subst e;obtain⟨o,e,c,dd⟩:=st;exact⟨o,e,fun v z=>by rw[dd] at z;cases z⟩
 keep:=fun i h h' st k=>st.at fun o e=>k it (by simp) o e
 item:=by
  intro X hP hw hK hc i pins s σ H E I hf st hg;obtain⟨hfz,hi⟩:=hg;obtain⟨hget,hsz,hkey⟩:=z6o I.hok hfz hob;obtain⟨f0,f1,f2,f3,f4,f5⟩:=hf it (by simp);obtain⟨⟨k,v⟩,hkv⟩:∃p,kvs[i]?=some p:=⟨kvs[i],by simp[hi]⟩
  have hlt:i<ens.size:=by lia
  obtain⟨b,hb1,hb2⟩:=hkey hlt hkv;refine PySem.Rv.keys_item st hget hob hlt fun h' st' sb=>?_
  rw[hb1];have I1:Inv X pins σ H { s with heap:=h' }:=I.turned (t':=s.toks) (fun b o hb e=>(sb.2 b hb).trans e) f0 f1 f3 f4 f5;obtain⟨o,e,c,dd⟩:=id st';exact⟨.ref b,rfl,z1g e c dd (by decide) ⟨.ref b,H,I1,rfl,⟨rfl,k,v,b,hkv,hb2,rfl⟩,st',fun b hb=>(hf b hb).1⟩⟩
 done:=by
  intro X hP hw hK hc i pins s σ H E I hf st hg;obtain⟨hfz,hi⟩:=hg;obtain⟨hget,hsz,hkey⟩:=z6o I.hok hfz hob;obtain⟨f0,f1,f2,f3,f4,f5⟩:=hf it (by simp);exact PySem.Rv.keys_end (I.ok.hd hc) st hget hob (by lia) fun h' eb=>⟨rfl,I.turned (t':=s.toks) (fun b o hb e=>eb b o hb e) f0 f1 f3 f4 f5⟩
 self:=fun _ _ _ _ _ st h=>wpAny_pyIter_keyiter st h
section
variable{X:Cx}{tg l:Expr}{tl:TE}
def iDictT(tl:TE):TI:=fun σ H R=>tl σ H fun x H1=>∃d kvs,x=.ref d/\H1 d=some (.dT kvs)/\∀ob,R (Itk d ob kvs) (upd H1 d (.frz ob (.dT kvs)))
theorem x0a(hl:PE X l tl):PI X tg l (iDictT tl):=by
 intro pins s σ H R I h;refine thn (hl pins s σ H _ I h) fun v s1 ⟨x,H1,I1,r1,q1⟩=>?_;obtain⟨d,kvs,e,hd,q⟩:=q1;subst e;cases r1;obtain⟨z,hsys,xs,hp,ob,ens,ep,ho,hex,hob,h4,h5⟩:=(show ObjOk X.prog X.w H1 s1.heap d (.dT kvs) from I1.hok d _ hd)
 refine PySem.Rv.keys_iter hsys ⟨ob,ho,hex.1⟩ ho hob ?_;have hne:=Bg (Ap ho);have I2:=(I1.freezeK hd ho (.inr ⟨_,rfl⟩)).kept (t':=s1.toks) (h':=s1.heap.push { cls:=.type "dict_keyiterator",data:=.fields #[.ref d,.int 0 0,.int ens.size 0,.int ep 0] }) fun b o e=>Ai _ e;refine⟨s1.heap.objs.size,[s1.heap.objs.size],_,_,_,rfl,I2,z4j d _ ob kvs ens ep hob,⟨_,Ar _ rfl,rfl,rfl⟩,fun b hb=>?_,q ob⟩;have e:b=s1.heap.objs.size:=by grind
 subst e;exact I1.fpOk (Ak _) (by rw[q0e (Dd hne)];exact I1.hok.fresh (Ak _))
theorem ditT_k(K:Ag)(hK:X.K=K)(hl:PE X l tl):PI X tg l (iDictT tl):=x0a hl
theorem z6p{g:TG}{tb:TS}{D:Ends}(Pv:Nat->St->Hp->Prop)(h0:Pv 0 σ H)(hl:∀i σ H,Pv i σ H->H d=some (.frz ob (.dT kvs)))(hs:∀i k v b σ H,kvs[i]?=some (k,v)->H b=some (.tup (k.map kV))->Pv i σ H->g (.ref b) σ H fun σ2 H2=>tb { D with nx:=Pv (i+1),ct:=Pv (i+1),bk:=D.nx } σ2 H2)(hd:∀σ H,Pv kvs.length σ H->D.nx σ H):
  ∃W:Nat->Nat->St->Hp->Prop,(∃m,W 0 m σ H)/\∀i m σ H,W i m σ H ->
   ((Itk d ob kvs).stop i H/\D.nx σ H)\/((Itk d ob kvs).go i H/\∃N:St->Hp->Prop,(∀σ' H',N σ' H'->∃m',m'<m/\W (i+1) m' σ' H')/\∀x H',(Itk d ob kvs).yld i H x H'->g x σ H' fun σ2 H2=>tb { D with nx:=N,ct:=N,bk:=D.nx } σ2 H2):=by
 refine x1o Pv h0 (fun i σ H h p=>⟨hl i σ H p,h⟩) (fun σ H p=>⟨hl _ σ H p,Ak _⟩) (fun i x σ H H' h p yl=>?_) hd;obtain⟨rfl,k,v,b,hk,hb,rfl⟩:=yl;exact hs i k v b σ _ hk hb p
end
end L2
namespace SB
open PySem PyProof.Rows
section
variable{prog:Program}{w:World}{A:Around}{E:Value->Ae->Prop}{s:Ae}
def Tells(prog:Program)(w:World)(A:Around)(s:Ae)(kd:Kh)(S:Value->Prop)(r:Value->Int):Prop :=
 ∀(E:Value->Ae->Prop) (x y:Value) (Q:Bool->Ae->Prop),S x->S y->Q (decide (r x<r y)) s->wpAny (model prog w) A (keyLt' kd x y) Q E s
def rk(r:Value->Int)(xs:Array Keyed)(i:Nat):Int:=((xs[i]?).map fun p=>r p.1).getD 0
theorem x3f(h:xs[i]?=ys[j]?):rk r xs i=rk r ys j:=by unfold rk;rw[h]
theorem rk_if[Decidable c](h:xs[i]?=if c then ys[a]? else ys[b]?):rk r xs i=if c then rk r ys a else rk r ys b:=by
 by_cases hc:c
 ·rw[if_pos hc] at h ⊢;exact x3f h
 ·rw[if_neg hc] at h ⊢;exact x3f h
theorem z6q(hj:j<=xs.size)(k:Nat):rk r (Kv xs i j ((j-i) / 2)) k=if i<=k/\k<j then rk r xs (i+j-1-k) else rk r xs k:=rk_if (getElem?_mirror_all hj k)
theorem x1r(hn:n<xs.size)(hd:d<=n)(k:Nat):rk r (bubble xs n d) k=if k=n-d then rk r xs n else if n-d<k/\k<=n then rk r xs (k-1) else rk r xs k:=by
 have e:=getElem?_bubble hn d hd k;by_cases h:k=n-d
 ·rw[if_pos h] at e ⊢;exact x3f e
 ·rw[if_neg h] at e ⊢;exact rk_if e
structure Mid (kd:Kh) (a₀:Array Keyed) (st:Gs):Prop where
 pm:(arrOf st).Perm a₀
 kn:kindOf st=kd
 fl:Rz st=none
 pd:Nq st=#[]
variable{kd:Kh}{S:Value->Prop}{r:Value->Int}{a₀:Array Keyed}
theorem Mid.sz{st:Gs}(h:Mid kd a₀ st):(arrOf st).size=a₀.size:=h.pm.size_eq
theorem Mid.put{st:Gs}(h:Mid kd a₀ st)(p:xs.Perm (arrOf st)):Mid kd a₀ (setArr st xs):=⟨p.trans h.pm,h.kn,h.fl,h.pd⟩
theorem z6r{st:Gs}(T:Tells prog w A s kd S r)(hS:∀p∈a₀.toList,S p.1)(m:Mid kd a₀ st)(hi:i<a₀.size)(hj:j<a₀.size)(h:Q (some (decide (rk r (arrOf st) i<rk r (arrOf st) j))) st):wpS (model prog w) A E s (ltAt' i j) Q st:=by
 have get:∀{k:Nat},k<a₀.size->∃p,(arrOf st)[k]?=some p/\S p.1/\rk r (arrOf st) k=r p.1:=fun{k} hk=>by
  have hk':k<(arrOf st).size:=by rw[m.sz];exact hk
  have e:(arrOf st)[k]?=some (arrOf st)[k]:=getElem?_pos _ k hk';refine⟨_,e,hS _ ((Me.mp m.pm).mem_iff.mp (by simp)),?_⟩;unfold rk;rw[e];rfl
 obtain⟨p,e1,s1,r1⟩:=get hi;obtain⟨q,e2,s2,r2⟩:=get hj;rw[r1,r2] at h;refine By (Ow ?_);show wpS _ _ _ _ (elem' (arrOf st) i >>= fun x=>elem' (arrOf st) j >>= fun y=>lt' x y) Q st;rw[elem'_eq,elem'_eq,e1,e2];refine By (Cs (By (Cs ?_)));rw[lt'_eq];refine By (Ow ?_);rw[m.kn];exact By (wpS_lift (Er (T _ p.1 q.1 _ s1 s2 ⟨rfl,Cs h⟩)))
def Up(r:Value->Int)(xs:Array Keyed)(n:Nat):Prop:=∀i j,i<=j->j<n->rk r xs i<=rk r xs j
def Down(r:Value->Int)(xs:Array Keyed)(n:Nat):Prop:=∀i j,i<=j->j<n->rk r xs j<=rk r xs i
theorem Up.one:Up r xs 1:=fun i j h1 h2=>by rw[show i=j by lia];exact Ob _
theorem Up.more(h:Up r xs n)(h1:1<=n)(e:rk r xs (n-1)<=rk r xs n):Up r xs (n+1):=fun i j a b=>by
 by_cases z:j<n
 ·exact h i j a z
 ·have hj:j=n:=by lia
  subst hj;by_cases y:i=j
  ·grind
  ·have:=h i (j-1) (by lia) (by lia);lia
theorem Down.more(h:Down r xs n)(h1:1<=n)(e:rk r xs n<=rk r xs (n-1)):Down r xs (n+1):=fun i j a b=>by
 by_cases z:j<n
 ·exact h i j a z
 ·have hj:j=n:=by lia
  subst hj;by_cases y:i=j
  ·grind
  ·have:=h i (j-1) (by lia) (by lia);lia
theorem Down.mir(h:Down r xs n)(hn:n<=xs.size):Up r (Kv xs 0 n ((n-0) / 2)) n:=fun i j a b=>by
 rw[z6q hn,z6q hn,if_pos (by lia),if_pos (by lia)];exact h _ _ (by lia) (by lia)
theorem q6s(hj:j<=xs.size)(h:∀k,i<=k->k<j->rk r xs k=rk r xs (j-1))(k:Nat):rk r (Kv xs i j ((j-i) / 2)) k=rk r xs k:=by
 rw[z6q hj];by_cases z:i<=k/\k<j
 ·grind
 ·rw[if_neg z]
theorem x1s{st:Gs}(T:Tells prog w A s kd S r)(hS:∀p∈a₀.toList,S p.1)(m:Mid kd a₀ st)(hn:n<=a₀.size)(h1:1<=a)(han:a<=n)(u:Up r (arrOf st) a)(h:∀k,a<=k->k<=n->Up r (arrOf st) k->(k=n\/rk r (arrOf st) k<rk r (arrOf st) (k-1))->Q (none,k) st):wpS (model prog w) A E s (ascLoop a n) Q st:=by
 refine Jd (fun x c t=>t=st/\c=(none,x)/\Up r (arrOf st) x) (fun x c t hx hxn ⟨et,ec,ux⟩=>?_) (fun c t ⟨et,ec,ux⟩=>?_) ⟨rfl,rfl,u⟩
 ·subst et ec;refine By (z6r T hS m (by lia) (by lia) ?_);by_cases z:rk r (arrOf t) x<rk r (arrOf t) (x-1)
  ·simp only[decide_eq_true z,if_true];exact Cs (h x hx (by lia) ux (.inr z))
  ·simp only[decide_eq_false z,Bq,if_false];exact Cs ⟨rfl,rfl,ux.more (by lia) (by lia)⟩
 ·grind
theorem z6s{st:Gs}(T:Tells prog w A s kd S r)(hS:∀p∈a₀.toList,S p.1)(m:Mid kd a₀ st)(hn:n<=a₀.size)(h1:1<=k)(hkn:k<=n)(d:Down r (arrOf st) k)(h:∀j t,Mid kd a₀ t->1<=j->j<=n->Up r (arrOf t) j->Q (some j) t):wpS (model prog w) A E s (tail3 k n) Q st:=by
 have m2:=m.put (Oc (arrOf st) 0 k ((k-0) / 2));refine By (Od (By (x1s T hS m2 hn h1 hkn (d.mir (by rw[m.sz];lia)) fun j a b u _=>Cs (h j _ m2 (by lia) b u))))
theorem x3g{st:Gs}(T:Tells prog w A s kd S r)(hS:∀p∈a₀.toList,S p.1)(m:Mid kd a₀ st)(hn:n<=a₀.size)(h1:1<=k)(hkn:k<=n)(d:Down r (arrOf st) k)(h:∀j q t,Mid kd a₀ t->k<=j->j<=n->Down r (arrOf t) j->q+1<=j->(∀i,j-(q+1)<=i->i<j->rk r (arrOf t) i=rk r (arrOf t) (j-1))->Q (none,j,q) t):wpS (model prog w) A E s (descLoop k n) Q st:=by
 refine Jd (fun x c t=>∃q,c=(none,x,q)/\Mid kd a₀ t/\Down r (arrOf t) x/\q+1<=x/\∀i,x-(q+1)<=i->i<x->rk r (arrOf t) i=rk r (arrOf t) (x-1))
  (fun x c t hx hxn ⟨q,ec,mt,dx,hq,eq⟩=>?_) (fun c t ⟨q,ec,mt,dx,hq,eq⟩=>?_) ⟨0,rfl,m,d,by lia,fun i a b=>by rw[show i=k-1 by lia]⟩
 ·subst ec;have zs:x<=(arrOf t).size:=by rw[mt.sz];lia
  dsimp only;refine By (z6r T hS mt (by lia) (by lia) ?_);by_cases z:rk r (arrOf t) x<rk r (arrOf t) (x-1)
  ·simp only[decide_eq_true z,if_true];by_cases y:q>0
   ·rw[if_pos y];have em:=fun k=>q6s zs eq k;have d2:Down r (Kv (arrOf t) (x-(q+1)) x ((x-(x-(q+1))) / 2)) x:=fun i j a b=>by rw[em,em];exact dx i j a b
    exact By (Od (Cs ⟨0,rfl,mt.put (Oc _ _ _ _),d2.more (by lia) (by rw[em,em];lia),by lia,fun i a b=>by rw[show i=x+1-1 by lia]⟩))
   ·rw[if_neg y];exact Cs ⟨0,rfl,mt,dx.more (by lia) (by lia),by lia,fun i a b=>by rw[show i=x+1-1 by lia]⟩
  ·simp only[decide_eq_false z,Bq,if_false];refine By (z6r T hS mt (by lia) (by lia) ?_);by_cases y:rk r (arrOf t) (x-1)<rk r (arrOf t) x
   ·simp only[decide_eq_true y,if_true];exact Cs (h x q t mt hx (by lia) dx hq eq)
   ·simp only[decide_eq_false y,Bq,if_false];have ex:rk r (arrOf t) x=rk r (arrOf t) (x-1):=by lia
    refine Cs ⟨q+1,rfl,mt,dx.more (by lia) (by lia),by lia,fun i a b=>?_⟩;rw[show x+1-1=x by lia,ex];by_cases c:i=x
    ·rw[c,ex]
    ·grind
 ·grind
theorem z6t{st:Gs}(T:Tells prog w A s kd S r)(hS:∀p∈a₀.toList,S p.1)(m:Mid kd a₀ st)(hn:n<=a₀.size)(hkn:k+1<=n)(d:Down r (arrOf st) (k+1))(h:∀j t,Mid kd a₀ t->1<=j->j<=n->Up r (arrOf t) j->Q (some j) t):wpS (model prog w) A E s (descPart k n) Q st:=by
 refine By (wpS_lift (Jk ⟨rfl,By (x3g T hS m hn (by lia) hkn d fun j q t mt a b dt hq eq=>?_)⟩));have zs:j<=(arrOf t).size:=by rw[mt.sz];lia
 dsimp only;by_cases y:q>0
 ·rw[if_pos y];exact By (Od (z6s T hS (mt.put (Oc _ _ _ _)) hn (by lia) b (fun i i' a' b'=>by show rk r (Kv _ _ _ _) i'<=rk r (Kv _ _ _ _) i;rw[q6s zs eq,q6s zs eq];exact dt i i' a' b') h))
 ·rw[if_neg y];exact z6s T hS mt hn (by lia) b dt h
theorem run_ok{st:Gs}(T:Tells prog w A s kd S r)(hS:∀p∈a₀.toList,S p.1)(m:Mid kd a₀ st)(hn:n<=a₀.size)(h1:1<=n)(h:∀j t,Mid kd a₀ t->1<=j->j<=n->Up r (arrOf t) j->Q (some j) t):wpS (model prog w) A E s (countRun' 0 n) Q st:=by
 rw[countRun0_eq];refine By (x1s T hS m hn (Ak 1) h1 Up.one fun k a b u o=>?_);have zs:k<=(arrOf st).size:=by rw[m.sz];lia
 dsimp only;by_cases e:k=n
 ·rw[if_pos (by simpa using e)];exact Cs (h k st m a b u)
 rw[if_neg (by simpa using e)];by_cases g:k>1
 ·rw[if_pos g];refine By (z6r T hS m (by lia) (by lia) ?_);by_cases z:rk r (arrOf st) 0<rk r (arrOf st) (k-1)
  ·simp only[decide_eq_true z,if_true];exact Cs (h k st m a b u)
  ·simp only[decide_eq_false z,Bq,if_false];have al:∀i,0<=i->i<k->rk r (arrOf st) i=rk r (arrOf st) (k-1):=fun i _ hi=>by
    have u1:=u 0 i (by lia) hi;have u2:=u i (k-1) (by lia) (by lia);lia
   refine By (Od (z6t T hS (m.put (Oc _ _ _ _)) hn (by lia) (Down.more (fun i j a' b'=>?_) (by lia) ?_) h))
   ·show rk r (Kv _ _ _ _) j<=rk r (Kv _ _ _ _) i;rw[q6s zs al,q6s zs al,al i (by lia) (by lia),al j (by lia) (by lia)];exact Ob _
   ·show rk r (Kv _ _ _ _) k<=rk r (Kv _ _ _ _) (k-1);rw[q6s zs al,q6s zs al];lia
 ·rw[if_neg g];exact z6t T hS m hn (by lia) (Down.more (fun i j a' b'=>by rw[show i=j by lia];exact Ob _) (by lia) (by lia)) h
theorem ins_ok{st:Gs}(T:Tells prog w A s kd S r)(hS:∀p∈a₀.toList,S p.1)(m:Mid kd a₀ st)(hn:n<=a₀.size)(hk:k<=n)(u:Up r (arrOf st) k)(h:∀t,Mid kd a₀ t->Up r (arrOf t) n->Q true t):wpS (model prog w) A E s (binarySort' 0 n k) Q st:=by
 rw[binarySort'_eq];simp only[Qq];refine By (Sa (Jd (fun j c t=>c=(none,())/\Mid kd a₀ t/\Up r (arrOf t) (min j n)) (Q:=fun c t=>c=(none,())/\Mid kd a₀ t/\Up r (arrOf t) n) ?step ?fin ⟨rfl,m,?init⟩) ?post)
 case step =>
  rintro j c t hj hjn ⟨rfl,mt,ut⟩;refine By (Sa (Jd (fun x c t'=>t'=t/\∃lo hi,c=(none,lo,hi)/\lo<=hi/\hi<=j/\hi-lo<=j-x/\(∀i,i<lo->rk r (arrOf t) i<=rk r (arrOf t) j)/\∀i,hi<=i->i<j->rk r (arrOf t) j<rk r (arrOf t) i)
   (Q:=fun c t'=>t'=t/\∃lo hi,c=(none,lo,hi)/\lo<=j/\(∀i,i<lo->rk r (arrOf t) i<=rk r (arrOf t) j)/\∀i,lo<=i->i<j->rk r (arrOf t) j<rk r (arrOf t) i)
   ?st2 ?fi2 ⟨rfl,0,j,rfl,by lia,by lia,by lia,fun i z=>by lia,fun i z y=>by lia⟩) ?po2)
  case st2 =>
   rintro x c t' hx hxj ⟨rfl,lo,hi,rfl,a1,a2,a3,a4,a5⟩;dsimp only;by_cases z:lo>=hi
   ·rw[if_pos z];exact Cs ⟨rfl,lo,hi,rfl,by lia,a4,fun i b c=>a5 i (by lia) c⟩
   ·rw[if_neg z];refine By (z6r T hS mt (by lia) (by lia) ?_);by_cases y:rk r (arrOf t') j<rk r (arrOf t') ((lo+hi) / 2)
    ·simp only[decide_eq_true y,if_true];refine Cs ⟨rfl,lo,(lo+hi) / 2,rfl,by lia,by lia,by lia,a4,fun i b c=>?_⟩;have:=ut ((lo+hi) / 2) i b (by lia);lia
    ·simp only[decide_eq_false y,Bq,if_false];refine Cs ⟨rfl,(lo+hi) / 2+1,hi,rfl,by lia,a2,by lia,fun i b=>?_,a5⟩;have:=ut i ((lo+hi) / 2) (by lia) (by lia);lia
  case fi2 =>
   rintro c t' ⟨rfl,lo,hi,rfl,a1,a2,a3,a4,a5⟩;exact⟨rfl,lo,hi,rfl,by lia,a4,fun i b c=>a5 i (by lia) c⟩
  case po2 =>
   rintro c t' ⟨rfl,lo,hi,rfl,a1,a4,a5⟩;rw[moveDown'_eq];have zs:j<(arrOf t').size:=by rw[mt.sz];lia
   refine By (Ss (Cs ⟨rfl,mt.put (bubble_perm _ _ _),fun i i' b c=>?_⟩));have e1:j-(j-lo)=lo:=by lia
   rw[x1r zs (by lia),x1r zs (by lia),e1];by_cases b1:i=lo
   ·grind
   ·rw[if_neg b1];by_cases b2:i'=lo
    ·grind
    ·rw[if_neg b2];by_cases b3:lo<i/\i<=j
     ·rw[if_pos b3,if_pos (by lia)];exact ut _ _ (by lia) (by lia)
     ·rw[if_neg b3];by_cases b4:lo<i'/\i'<=j
      ·grind
      ·rw[if_neg b4];exact ut _ _ b (by lia)
 case fin =>
  rintro c t ⟨ec,mt,ut⟩;have e:min (max (max k 1) n) n=n:=by lia
  rw[e] at ut;exact⟨ec,mt,ut⟩
 case init =>
  intro i j a b;by_cases z:k=0
  ·grind
  ·exact u i j a (by lia)
 case post =>
  rintro c t ⟨rfl,mt,ut⟩;exact Cs (h t mt ut)
structure Fin' (a₀:Array Keyed) (r:Value->Int) (st:Gs):Prop where
 pm:(arrOf st).Perm a₀
 fl:Rz st=none
 pd:Nq st=#[(0,a₀.size,0)]
 up:Up r (arrOf st) a₀.size
theorem x3h{st:Gs}(T:Tells prog w A s kd S r)(hS:∀p∈a₀.toList,S p.1)(m:Mid kd a₀ st)(h2:2<=a₀.size)(h64:a₀.size<64)(h:∀t,(arrOf t).Perm a₀->Rz t=none->Up r (arrOf t) a₀.size->Q () t):wpS (model prog w) A E s sortRuns' Q st:=by
 rw[sortRuns'_eq];have em:minRun' a₀.size a₀.size 0=a₀.size:=by
  cases z:a₀.size with
  |zero=>rfl
  |succ f=>rw[minRun'_succ,if_pos (by lia)]
 have fin:∀{t:Gs},Mid kd a₀ t->Up r (arrOf t) a₀.size->Fin' a₀ r (setPending t ((Nq t).push (0,a₀.size,0))):=fun{t} mt ut=>⟨mt.pm,mt.fl,by show(Nq t).push _=_;rw[mt.pd];rfl,ut⟩
 have none_back:∀{t:Gs},Mid kd a₀ t->(Nq t).back?=none:=fun{t} mt=>by rw[mt.pd];rfl
 refine By (Ow ?_);simp only[m.sz,em];refine By (Sa (Jd (fun x c t=>(x=0/\c=(none,0)/\Mid kd a₀ t)\/(1<=x/\c=(none,a₀.size)/\Fin' a₀ r t)) (Q:=fun c t=>c=(none,a₀.size)/\Fin' a₀ r t) ?st1 ?fi1 (.inl ⟨rfl,rfl,m⟩)) ?po1)
 case st1 =>
  intro x c t _ hx o;rcases o with⟨rfl,rfl,mt⟩|⟨x1,rfl,f⟩
  ·dsimp only;rw[if_neg (by lia)];simp only[Je,Nat.min_self,Qq];refine By (run_ok T hS mt (Ak _) (by lia) fun j t' mt' j1 j2 ut'=>?_);dsimp only;by_cases z:j<a₀.size
   ·rw[if_pos z];refine By (wpS_lift (Jk ⟨rfl,By (ins_ok T hS mt' (Ak _) j2 ut' fun t2 mt2 ut2=>?_)⟩));refine By (Ow ?_);rw[none_back mt2];exact By (Ss (Cs (.inr ⟨by lia,rfl,fin mt2 ut2⟩)))
   ·rw[if_neg z];have ej:j=a₀.size:=by lia
    subst ej;refine By (Ow ?_);rw[none_back mt'];exact By (Ss (Cs (.inr ⟨by lia,rfl,fin mt' ut'⟩)))
  ·dsimp only;rw[if_pos (Ak _)];exact Cs ⟨rfl,f⟩
 case fi1 =>
  intro c t o;rcases o with⟨z,_⟩|⟨_,ec,f⟩
  ·lia
  ·exact⟨ec,f⟩
 case po1 =>
  rintro c t ⟨rfl,f⟩;refine By (Sa (Jd (fun _ c t'=>t'=t/\c=(none,())) (Q:=fun c t'=>t'=t/\c=(none,())) ?st3 (fun _ _ z=>z) ⟨rfl,rfl⟩) ?po3)
  case st3 =>
   rintro x c t' _ _ ⟨rfl,rfl⟩;refine By (Ow ?_);rw[if_pos (by rw[f.pd];exact Ak 1)];exact Cs ⟨rfl,rfl⟩
  case po3 =>
   rintro c t' ⟨rfl,rfl⟩;exact Cs (h _ f.pm f.fl f.up)
end
end SB
namespace PySem.Rv
open Sem (wp)
abbrev itemObj(d:Addr)(i n ep:Nat)(f0 f1 ok ov:Value):Obj:={ cls:=.type "dict_itemiterator",dict:=none,data:=.fields #[f0,f1,.ref d,.int i 0,.int n 0,.int ep 0,ok,ov],slots:=#[] }
def ItemIt(h:Heap)(it d:Addr)(i n ep:Nat):Prop:=∃f0 f1 ok ov,h.get? it=some (itemObj d i n ep f0 f1 ok ov)/\(f0=.none\/∃a:Addr,f0=Fo a)
theorem ItemIt.typeIs{s:Ae}(x:ItemIt s.heap it d i n ep):s.TypeIs (.ref it) "dict_itemiterator" := by
 obtain⟨f0,f1,ok,ov,e,_⟩:=x;exact⟨_,e,rfl⟩
theorem ItemIt.lt(x:ItemIt h it d i n ep):it<h.objs.size:=by
 obtain⟨f0,f1,ok,ov,e,_⟩:=x;exact Ap e
theorem ItemIt.keep(x:ItemIt h it d i n ep)(k:∀o,h.get? it=some o->h'.get? it=some o):ItemIt h' it d i n ep:=by
 obtain⟨f0,f1,ok,ov,e,z⟩:=x;exact⟨f0,f1,ok,ov,k _ e,z⟩
section
variable{prog:Program}{w:World}{A:Around}{E:Value->Ae->Prop}{s:Ae}{it d v:Addr}{i ep:Nat}{dob:Obj}{ens:Array Lq}
theorem items_iter(hv:s.heap.IsItemsView v d)(hdo:s.heap.get? d=some dob)(hda:dob.data=.dict ens ep)(hQ:Q (.ref s.heap.objs.size) { s with heap:=s.heap.push (itemObj d 0 ens.size ep .none (.bool false) .none .none) }):wpAny (model prog w) A (Lp (.ref v)) Q E s:=by
 obtain⟨o,ho,hc,hf⟩:=id hv;refine Jt hv.typeIs Oe (Bx Oe hv.typeIs F.entry_dict_items_iter ?_ (F.args_dict_items_iter_1 _));unfold Dm.«dict_items.__iter__»;refine Ab (Ac (Ab ?_));unfold Dm.Dict_items.dictOf;refine Ab (Ck ho hf rfl (Ac (Ab ?_)));unfold Dm.Dict_items.newIterator;refine Ab (Fp hdo hda (Ab (Gr hdo hda ?_)));simp only[show He "dict_itemiterator" = true from by decide,if_true];refine Bt (Ac ⟨_,rfl, "dict_itemiterator",_,⟨_,Ar _ rfl,rfl⟩,Ct.lookup,?_⟩) (by simp[sizeOk,Jl,Eg]);simpa[Fo,itemObj,Jl] using hQ
theorem q6t(e:s.heap.get? it=some (itemObj d i n ep f0 f1 ok ov))(hk:k<8)(hQ:∀h',h'.get? it=some { cls:=.type "dict_itemiterator",dict:=none,data:=.fields ((#[f0,f1,.ref d,.int i 0,.int n 0,.int ep 0,ok,ov]:Array Value).setIfInBounds k x),slots:=#[] }->Ei it s.heap h'->Q () { s with heap:=h' }):
  wpAny (model prog w) A (setField (.ref it) k x) Q E s:=Fb e (by simpa using hk) hQ
theorem owned(x:ItemIt s.heap it d i n ep)(hQ:∀b h',ItemIt h' it d i n ep->Ei it s.heap h'->Q b { s with heap:=h' }):
  wpAny (model prog w) A (Dm.Dict_items.ownedTupleIsFree (.ref it)) Q E s:=by
 obtain⟨f0,f1,ok,ov,e,z⟩:=id x;refine Ab (Ck e rfl rfl ?_);rcases z with rfl|⟨a,rfl⟩
 ·exact Ac (hQ true s.heap x (Ju _ _))
 ·show wpAny _ _ (loadIfAlive (Int.toNat (a:Int)) >>= _) _ _ _;have al:∀{Q':Option Obj->Ae->Prop},Q' (s.heap.get? (Int.toNat (a:Int))) s->wpAny (model prog w) A (loadIfAlive (Int.toNat (a:Int))) Q' E s:=fun h' _ _ _=>h';refine Ab (al ?_);by_cases hn:(s.heap.get? (Int.toNat (a:Int))).isNone=true
  ·rw[if_pos hn];exact Ac (hQ true s.heap x (Ju _ _))
  ·rw[if_neg hn];refine Ab (Ck e rfl (x:=f1) rfl ?_);by_cases hb:(f1 != Value.bool true)=true
   ·rw[if_pos hb];refine Ab (q6t e (by decide) fun h' e' sb=>Ac (hQ false h' ⟨_,_,_,_,e',.inr ⟨a,rfl⟩⟩ sb))
   ·rw[if_neg hb];exact Ac (hQ false s.heap x (Ju _ _))
theorem items_item(x:ItemIt s.heap it d i ens.size ep)(hdo:s.heap.get? d=some dob)(hda:dob.data=.dict ens ep)(hlt:i<ens.size)(hQ:∀h',ItemIt h' it d (i+1) ens.size ep->h'.get? s.heap.objs.size=some { cls:=.type "tuple",data:=.seq #[ens[i].key,ens[i].val] }->h'.objs.size=s.heap.objs.size+1 ->
   (∀b o,b≠it->s.heap.get? b=some o->h'.get? b=some o)->Q (some (.ref s.heap.objs.size)) { s with heap:=h' }):wpAny (model prog w) A (Gz (.ref it)) Q E s:=by
 obtain⟨f0,f1,ok,ov,e,z⟩:=id x;have hT:=x.typeIs;refine Ab (Er (Cc hT Ct (Bx Ct hT Kw ?_ (Ko _))));refine Ab (Ac (Ab (Ab ?_)));first|refine Ab (El hT (Ac ?_))|refine Ab (Ft hT (Ac ?_))
 refine Ab (Ll e rfl ?_);simp only[show He "dict_itemiterator" = true from by decide,if_true];refine Ab (Ac (Ab (Fp hdo hda ?_)));rw[if_neg (by simp)];refine Ab (Ac (Ab (Gr hdo hda ?_)));rw[if_neg (by simp)];refine Ac ?_;simp only[show ¬((i:Int)<0) from by lia,if_false,Bu,Dj hlt];refine Ab ?_;first|refine Ab (El hT (Ac ?_))|refine Ab (Ft hT (Ac ?_))
 refine Ab (Jz hT ?_);show wpAny _ _ (setField (.ref it) 3 (Fo ((i:Int)+1)) >>= _) _ _ s;refine Ab (q6t e (by decide) fun h₁ e₁ sb₁=>?_);have x₁:ItemIt h₁ it d (i+1) ens.size ep:=⟨f0,f1,ok,ov,by rw[e₁];simp[itemObj,Fo],z⟩
 refine Ab (Cy ?_);refine Ab (Jz x₁.typeIs (Ab (Jz x₁.typeIs ?_)));have z₁:=sb₁.1;have hil:=Bg x.lt;refine Ab (Oo ?_);refine Ab (owned (x₁.keep fun o q=>Ai _ q) fun b h₂ x₂ sb₂=>?_);have t₂:h₂.get? s.heap.objs.size=some { cls:=.type "tuple",data:=.seq #[ens[i].key,ens[i].val] }:=by
  rw[sb₂.2 _ (Dd hil),<- z₁];exact Ar _ rfl
 have n₂:h₂.objs.size=s.heap.objs.size+1:=by rw[sb₂.1];show(h₁.push _).objs.size=_;rw[Ga,z₁]
 have k₂:∀b o,b≠it->s.heap.get? b=some o->h₂.get? b=some o:=fun b o hb q=>by
  rw[sb₂.2 b hb];exact Ai _ ((sb₁.2 b hb).trans q)
 have ez:(Value.ref h₁.objs.size)=.ref s.heap.objs.size:=by rw[z₁]
 cases b with
 |false =>
  refine Ac (Ac ⟨_,rfl,Ac ?_⟩);rw[ez];exact hQ h₂ x₂ t₂ n₂ k₂
 |true =>
  obtain⟨g0,g1,ok2,ov2,e₂,_⟩:=x₂;refine Ab (Ck e₂ rfl rfl (Ab (Ck e₂ rfl rfl ?_)));refine Ab (q6t e₂ (by decide) fun h₃ e₃ sb₃=>?_);refine Ab (q6t e₃ (by decide) fun h₄ e₄ sb₄=>?_);refine Ab (q6t e₄ (by decide) fun h₅ e₅ sb₅=>?_);refine Ab (q6t e₅ (by decide) fun h₆ e₆ sb₆=>?_);have kk:∀b o,b≠it->h₂.get? b=some o->h₆.get? b=some o:=fun b o hb q=>(sb₆.2 b hb).trans ((sb₅.2 b hb).trans ((sb₄.2 b hb).trans ((sb₃.2 b hb).trans q)))
  refine Ab (wpAny_letGo (Ac (Ac ⟨_,rfl,Ac ?_⟩)));rw[ez];refine hQ h₆ ⟨_,_,_,_,e₆,.inr ⟨_,rfl⟩⟩ (kk _ _ (Dd hil) t₂) ?_ fun b o hb q=>kk b o hb (k₂ b o hb q);rw[sb₆.1];rw[sb₅.1];rw[sb₄.1];rw[sb₃.1];exact n₂
theorem items_end(hh:A.handled=none)(x:ItemIt s.heap it d i ens.size ep)(hdo:s.heap.get? d=some dob)(hda:dob.data=.dict ens ep)(hge:ens.size<=i)(hQ:∀h',Ny it s.heap h'->Q none { s with heap:=h' }):wpAny (model prog w) A (Gz (.ref it)) Q E s:=by
 obtain⟨f0,f1,ok,ov,e,z⟩:=id x;have hT:=x.typeIs;refine Ab (Er (Cc hT Ct (Bx Ct hT Kw ?_ (Ko _))));refine Ab (Ac (Ab (Ab ?_)));first|refine Ab (El hT (Ac ?_))|refine Ab (Ft hT (Ac ?_))
 refine Ab (Ll e rfl ?_);simp only[show He "dict_itemiterator" = true from by decide,if_true];refine Ab (Ac (Ab (Fp hdo hda ?_)));rw[if_neg (by simp)];refine Ab (Ac (Ab (Gr hdo hda ?_)));rw[if_neg (by simp)];refine Ac ?_;simp only[show ¬((i:Int)<0) from by lia,if_false,Bu,Oa hge];refine Ab ?_;first|refine Ab (El hT (Ac ?_))|refine Ab (Ft hT (Ac ?_))
 show wpAny _ _ (setField (.ref it) 2 .none >>= _) _ _ s;refine Ab (Lk e rfl (by simp) ?_);show wpAny _ _ (newExc (.type "StopIteration") [] >>= _) _ _ _;refine Ab ?_;refine Ab (Bt (Ab (Ic (by first|rfl|(simp only[Ot];rfl)) ?_)) (by size_fits));refine Bt ?_ (by size_fits);refine Ab (Pq ?_);rw[show A.in1.handled=none from hh];refine Ab (Ac (Ro ?_));refine Ab (Kg ⟨_,Ar _ rfl,rfl⟩ Lj ?_);exact Ac (hQ _ (((Ig ..).extBut.push _).push _))
theorem items_go (x : ItemIt s.heap it d i n ep) (hQ : ∀ h', ItemIt h' it d i n ep → Ei it s.heap h' → Q () { s with heap := h' }) :
    wpAny (model prog w) A (Ii tg (.ref it) u) Q E s := by
  obtain ⟨f0, f1, ok, ov, e, z⟩ := id x
  have same := hQ s.heap x (Ju _ _)
  cases tg <;> first
    | exact Ac same
    | (cases u <;> first
        | exact Ac same
        | (refine Ab (Pb e ?_)
           refine wpAny_ite_split (fun _ => ?_) (fun _ => Ac same)
           exact q6t e (by decide) fun h' e' sb => hQ h' ⟨_, _, _, _, e', .inl rfl⟩ sb))
end
end PySem.Rv
namespace SB
open PySem PyProof.Rows TX
abbrev Pth:=List (List Nat)
def pLt:Pth->Pth->Bool
 |[],[]=>false
 |[],_::_=>true
 |_::_,[]=>false
 |a::r,b::t=>if a=b then pLt r t else decide (a<b)
theorem q4q(a b:List Nat)(r t:Pth):pLt (a::r) (b::t)=if a=b then pLt r t else decide (a<b):=rfl
theorem q4x:∀p:Pth,pLt p p=false
 |[]=>rfl
 |a::r=>by rw[q4q,if_pos rfl];exact q4x r
theorem q9x{c:List Nat}(h:a<b)(h':b<c):a<c:=List.lt_trans h h'
theorem x3i{b:List Nat}(h:¬a<b)(h':¬b<a):a=b:=List.le_antisymm (List.not_lt.mp h') (List.not_lt.mp h)
theorem q9y:∀{p q t:Pth},pLt p q=true->pLt q t=true->pLt p t=true
 |[],[],_,h,_=>by cases h
 |_::_,[],_,h,_=>by cases h
 |_,_::_,[],_,h=>by cases h
 |[],_::_,_::_,_,_=>rfl
 |a::p,b::q,c::t,h,h'=>by
  rw[q4q] at h h' ⊢;by_cases e1:a=b
  ·subst e1;rw[if_pos rfl] at h;by_cases e2:a=c
   ·rw[if_pos e2] at h' ⊢;exact q9y h h'
   ·rw[if_neg e2] at h' ⊢;exact h'
  ·rw[if_neg e1] at h;by_cases e2:b=c
   ·subst e2;rw[if_neg e1];exact h
   ·rw[if_neg e2] at h';have h1:=of_decide_eq_true h;have h2:=of_decide_eq_true h';have h3:=q9x h1 h2;rw[if_neg (fun e=>by subst e;exact absurd (q9x h1 h2) (List.lt_irrefl _))];exact decide_eq_true h3
theorem z1m:∀{p q:Pth},pLt p q=false->pLt q p=false->p=q
 |[],[],_,_=>rfl
 |[],_::_,h,_=>by cases h
 |_::_,[],_,h=>by cases h
 |a::p,b::q,h,h'=>by
  rw[q4q] at h h';by_cases e:a=b
  ·subst e;rw[if_pos rfl] at h h';rw[z1m h h']
  ·rw[if_neg e] at h;rw[if_neg (Dd e)] at h';exact absurd (x3i (of_decide_eq_false h) (of_decide_eq_false h')) e
def pRank(ps:List Pth)(p:Pth):Nat:=(ps.filter fun q=>pLt q p).length
theorem q9z{α:Type}{f g:α->Bool}:∀(l:List α),(∀x∈l,f x=true->g x=true)->(l.filter f).length<=(l.filter g).length
 |[],_=>Ak _
 |x::r,h=>by
  have ih:=q9z r fun y hy=>h y (Ah _ hy);by_cases hf:f x=true
  ·simp_all
  ·rw[Jp hf];by_cases hg:g x=true
   ·rw[Jq hg];exact Nat.le_succ_of_le ih
   ·simp_all
theorem z0a{α:Type}{f g:α->Bool}{y:α}:∀(l:List α),(∀x∈l,f x=true->g x=true)->y∈l->f y=false->g y=true->(l.filter f).length<(l.filter g).length
 |[],_,hy,_,_=>by cases hy
 |x::r,h,hy,h1,h2=>by
  rcases Ba.mp hy with e|hy
  ·subst e;rw[Jp (by rw[h1];decide),Jq h2];exact Nat.lt_succ_of_le (q9z r fun z hz=>h z (Ah _ hz))
  ·have ih:=z0a r (fun z hz=>h z (Ah _ hz)) hy h1 h2;by_cases hf:f x=true
   ·simp_all
   ·rw[Jp hf];by_cases hg:g x=true
    ·rw[Jq hg];exact Gx ih
    ·simp_all
theorem q7z(hp:p∈ps)(h:pLt p q=true):pRank ps p<pRank ps q :=
 z0a ps (fun x _ hx=>q9y hx h) hp (q4x p) h
theorem z1n(hp:p∈ps)(hq:q∈ps):pLt p q=decide ((pRank ps p:Int)<(pRank ps q:Int)):=by
 cases h:pLt p q with
 |true=>have:=q7z hp h;exact(decide_eq_true (by lia)).symm
 |false =>
  cases h':pLt q p with
  |true=>have:=q7z hq h';exact(decide_eq_false (by lia)).symm
  |false=>rw[z1m h h'];exact(decide_eq_false (by lia)).symm
def PathAt(h:Heap)(v:Value)(p:Pth):Prop:=∃a its,v=.ref a/\IsTup h a its/\Gn its.toList (p.map mk)
theorem mk_inj(h:mk a=mk b):a=b:=by have:=congrArg tl h;rwa [q0z,q0z] at this
theorem q6u:∀{vs:List Value} {ss ts:List Str},Gn vs ss->Gn vs ts->ss=ts
 |_,_,_,.nil,.nil=>rfl
 |_,_,_,.cons y t h,.cons _ _ h'=>by rw[q6u h h']
theorem q8a:∀{p q:Pth},p.map mk=q.map mk->p=q
 |[],[],_=>rfl
 |[],_::_,h=>by simp at h
 |_::_,[],h=>by simp at h
 |a::p,b::q,h=>by
  rw[Ao,Ao] at h;injection h with h1 h2;rw[mk_inj h1,q8a h2]
theorem q2a:∀{vs:List Value} {p:Pth},Gn vs (p.map mk)->vs.length=p.length
 |_,[],.nil=>rfl
 |vs,n::p,h=>by
  rw[Ao] at h;cases h with
  |cons _ _ h'=>rw[Bf,Bf,q2a h']
theorem IsTup.inj(h1:IsTup h a x)(h2:IsTup h a y):x=y:=by
 obtain⟨o,e,_,n,d⟩:=h1;obtain⟨o',e',_,n',d'⟩:=h2;rw[e] at e';cases e';rw[d] at d';cases d';rfl
theorem PathAt.inj(h1:PathAt h v p)(h2:PathAt h v q):p=q:=by
 obtain⟨a,its,rfl,t,s⟩:=h1;obtain⟨a',its',e,t',s'⟩:=h2;cases e;rw[IsTup.inj t t'] at s;exact q8a (q6u s s')
theorem IsTup.keep(t:IsTup h a x)(k:∀o,h.get? a=some o->h'.get? a=some o):IsTup h' a x:=let ⟨o,e,r⟩:=t;⟨o,k o e,r⟩
theorem PathAt.keep(x:PathAt h v p)(k:∀b o,h.get? b=some o->h'.get? b=some o):PathAt h' v p:=let ⟨a,its,e,t,s⟩:=x;⟨a,its,e,IsTup.keep t fun o=>k a o,s⟩
def dP(p:Pth):List PyData:=p.map fun n=>PyData.str (mk n)
def Low(p:Pth):Prop:=∀n∈p,∀c∈n,c<128
theorem q8b:∀{p:Pth} {vs:List Value},Gn vs (p.map mk)->∃as,ReadsAll h vs (dP p) as
 |[],_,.nil=>⟨_,.nil⟩
 |n::p,vs,x=>by
  rw[Ao] at x;cases x with
  |cons y t s =>
   obtain⟨as,h'⟩:=q8b s;exact⟨_,.cons (.str _ t) h'⟩
theorem PathAt.reads(x:PathAt h v p):∃as,Reads h v (.tuple (dP p)) as:=by
 obtain⟨a,its,rfl,⟨o,e,c,n,d⟩,s⟩:=x;obtain⟨as,r⟩:=q8b s;exact⟨_,.tuple e c d r⟩
theorem z6u(h:∀c∈l,c<128):Qr (mk l)=true:=by
 unfold Qr;simp only[mk,List.all_toArray,Gh];intro c hc;have:=h c hc;simp;lia
theorem z0b:∀{p:Pth},Low p->Jr (dP p)=true
 |[],_=>rfl
 |n::r,h=>by
  have h1:=z6u (h n Aj);have ih:=z0b fun x hx=>h x (Ah _ hx);show Jr (PyData.str (mk n)::dP r)=true;simp only[Jr,Ht,h1,ih,Bool.and_self]
theorem q5t:∀p:Pth,Ee (dP p)<=1
 |[]=>by simp[dP,Ee]
 |n::r=>by
  have ih:=q5t r;show Ee (PyData.str (mk n)::dP r)<=1;simp only[Ee,Lx];lia
theorem q6v:∀p q:Pth,Ia (dP p) (dP q)=decide (p=q)
 |[],[]=>rfl
 |[],_::_=>rfl
 |_::_,[]=>rfl
 |a::p,b::q=>by
  show Ia (PyData.str (mk a)::dP p) (PyData.str (mk b)::dP q)=_;have e:Ia (PyData.str (mk a)::dP p) (PyData.str (mk b)::dP q)=(Fs (PyData.str (mk a)) (PyData.str (mk b))&&Ia (dP p) (dP q)):=by simp only[Ia]
  have e2:Fs (PyData.str (mk a)) (PyData.str (mk b))=(mk a==mk b):=by simp only[Fs]
  rw[e,e2,q6v p q];by_cases h:a=b
  ·subst h;simp
  ·grind
section
variable{prog:Program}{w:World}{A:Around}{E:Value->Ae->Prop}{s:Ae}{x y:Value}{p q:Pth}
theorem x0b(hx:PathAt s.heap x p)(hy:PathAt s.heap y q)(lp:Low p)(lq:Low q)(hu:A.units+2<cLine):Di A s x y (decide (p=q)):=by
 obtain⟨as,r1⟩:=hx.reads;obtain⟨bs,r2⟩:=hy.reads;have h:=SeqAt.eqAt_reads (.tuple (dP p)) (.tuple (dP q)) A s x y as bs r1 r2 (by simp only[Ht,z0b lp]) (by simp only[Ht,z0b lq]) (by
  have h1:(PyData.tuple (dP p)).depth=Ee (dP p)+1:=by simp only[Lx]
  have:=q5t p;lia)
 have e:Fs (.tuple (dP p)) (.tuple (dP q))=decide (p=q):=by simp only[Fs,q6v]
 rwa [e] at h
theorem z0c(l b:Addr)(items items2:Array Value)(n n2:Nat)(dd dd2:Option Addr)(sl sl2:Array (Option Value))(p q:Pth)(hi:Gn items.toList (p.map mk))(hj:Gn items2.toList (q.map mk)):
  Meets (Dm.«tuple.__lt__» ⟨[.ref l,.ref b],[]⟩)
   (fun _ R s=>s.heap.get? l=some { cls:=.type "tuple",dict:=dd,data:=.seq items n,slots:=sl }/\s.heap.get? b=some { cls:=.type "tuple",dict:=dd2,data:=.seq items2 n2,slots:=sl2 } /\
    R (.ok (.ret (.bool (pLt p q)))) s) :=
 .of_wp fun prog w A R s h=>by
  obtain⟨hp,g,d,tk,os⟩:=s;obtain⟨hl,hb,h⟩:=h;have f2:=AutoSeq1.sub_tuple_tuple;have z1:items.size=p.length:=by have:=q2a hi;simpa using this
  have z2:items2.size=q.length:=by have:=q2a hj;simpa using this
  wp_walk using Kx hl,Kx hb,wpAny_forIn_list _ (fun rest c s'=>c.1=none/\s'=⟨hp,g,d,tk,os⟩/\∃(vs ws:List Value) (p' q':Pth),rest=vs.zip ws /\
   Gn vs (p'.map mk)/\Gn ws (q'.map mk)/\p'.length+items2.size=q'.length+items.size/\R (.ok (.ret (.bool (pLt p' q')))) ⟨hp,g,d,tk,os⟩) _
  case turn =>
   rintro⟨y,x⟩ rest c s' ⟨hb',rfl,vs,ws,p',q',hz,hvi,hwi,hlen,hR⟩;cases p' with
   |nil=>cases hvi;rw[Rg] at hz;cases hz
   |cons m p' =>
    cases q' with
    |nil=>cases hwi;rw[Qs] at hz;cases hz
    |cons m' q' =>
     rw[Ao] at hvi hwi;cases hvi with
     |cons _ t hvi' =>
      cases hwi with
      |cons _ u hwi' =>
       rw[Jf] at hz;injection hz with hyx hrest;injection hyx with hy hx;subst hy hx;rw[q4q] at hR;simp only[Bf] at hlen;refine Ab (Lu (mk m) t (mk m') u (A:=A.in1) (s:=⟨hp,g,d,tk,os⟩) prog w _ _ ?_);by_cases e:m=m'
       ·subst e;rw[if_pos rfl] at hR;rw[beq_self_eq_true]
        wp_walk
        exact⟨rfl,rfl,_,_,_,_,hrest,hvi',hwi',by lia,hR⟩
       ·rw[if_neg e] at hR;have e2:(mk m==mk m')=false:=beq_eq_false_iff_ne.mpr fun z=>e (mk_inj z);rw[e2];have hri:∀(E:Value->Ae->Prop) (Q:Value->Ae->Prop),Q (.bool (decide (m<m'))) ⟨hp,g,d,tk,os⟩->wpAny (model prog w) A.in1 (richCompare .Lt (.str (mk m) t) (.str (mk m') u)) Q E ⟨hp,g,d,tk,os⟩:=fun E Q hq =>
         (Pz (by
          have e3:(mk m).cps.toList=m:=q0z m;have e4:(mk m').cps.toList=m':=q0z m';rw[e3,e4];exact hq):wpAny (model prog w) A.in1 (Bw .Lt (.str (mk m) t) (.str (mk m') u)) Q E ⟨hp,g,d,tk,os⟩)
        wp_walk using hri
        exact⟨_,rfl,by simpa using hR⟩
  case fin =>
   rintro⟨b1,b2⟩ s' ⟨hb',rfl,vs,ws,p',q',hz,hvi,hwi,hlen,hR⟩;simp only at hb';subst hb';have hv:pLt p' q'=decide (items.size<items2.size):=by
    cases p' with
    |nil =>
     cases q' with
     |nil=>exact(decide_eq_false (by simp only[Dx] at hlen;lia)).symm
     |cons m' q'=>exact(decide_eq_true (by simp only[Dx,Bf] at hlen;lia)).symm
    |cons m p' =>
     cases q' with
     |nil=>exact(decide_eq_false (by simp only[Dx,Bf] at hlen;lia)).symm
     |cons m' q' =>
      rw[Ao] at hvi hwi;cases hvi with
      |cons _ t _=>cases hwi with|cons _ u _=>rw[Jf] at hz;cases hz
   rw[hv] at hR
   wp_walk
   exact⟨_,rfl,by simpa[Dm.Tuple.tupleCompareSizes] using hR⟩
  case h =>
   exact⟨rfl,rfl,items.toList,items2.toList,p,q,rfl,hi,hj,by lia,h⟩
theorem x0c{Q:Value->Ae->Prop}(hx:PathAt s.heap x p)(hy:PathAt s.heap y q)(hu:A.units<cLine)(h:Q (.bool (pLt p q)) s):wpAny (model prog w) A (Bw .Lt x y) Q E s:=by
 obtain⟨l,items,rfl,hl,hi⟩:=hx;obtain⟨b,items2,rfl,hb,hj⟩:=hy;obtain⟨⟨cls,dd,data,sl⟩,ho,hc,n,hd⟩:=id hl;obtain⟨⟨cls2,dd2,data2,sl2⟩,ho2,hc2,n2,hd2⟩:=id hb;simp only at hc hd hc2 hd2;subst hc hd hc2 hd2;exact richCompare_meets_room (op:=.Lt) ⟨_,ho,rfl⟩ ⟨_,ho2,rfl⟩ PySem.F.slot_tuple_lt PySem.F.entry_tuple_lt (PySem.F.args_tuple_lt_2 _ _) (z0c l b items items2 n n2 dd dd2 sl sl2 p q hi hj)
  ⟨ho,ho2,show Value.bool (pLt p q)≠Value.notImplemented/\Q (.bool (pLt p q)) s from⟨(fun x=>nomatch x),h⟩⟩ hu
theorem x3j{b:Bool}{m m':List Nat}{t u:Tok}{Q:Bool->Ae->Prop}(h:Q (decide (m<m')) s):wpAny (model prog w) A (oneLt' b (.str (mk m) t) (.str (mk m') u)) Q E s:=by
 have e3:(mk m).cps.toList=m:=q0z m;have e4:(mk m').cps.toList=m':=q0z m';cases b with
 |true=>exact oneLt_str (by rw[e3,e4];exact h)
 |false =>
  rw[oneLt'_eq];simp only[Bq,if_false];exact Ab ((Pz (by rw[e3,e4];exact Du h):wpAny (model prog w) A (Bw .Lt (.str (mk m) t) (.str (mk m') u)) _ E s))
theorem x0d{Q:Bool->Ae->Prop}(hx:PathAt s.heap x p)(hy:PathAt s.heap y q)(hu:A.units<cLine)(h:Q (pLt p q) s):wpAny (model prog w) A (oneLt' false x y) Q E s:=by
 rw[oneLt'_eq];simp only[Bq,if_false];exact Ab (x0c hx hy hu (Du h):wpAny (model prog w) A (Bw .Lt x y) _ E s)
theorem z6v{b:Bool}{Q:Bool->Ae->Prop}(hx:PathAt s.heap x p)(hy:PathAt s.heap y q)(h:Q (pLt p q) s):wpAny (model prog w) A (keyLt' (Qy b) x y) Q E s:=by
 obtain⟨l,items,rfl,⟨o,ho,hc,n,hd⟩,hi⟩:=hx;obtain⟨m,items2,rfl,⟨o2,ho2,hc2,n2,hd2⟩,hj⟩:=hy;refine Ab (m:=Ey (.ref l)) (Jg ho hd (Ab (m:=Ey (.ref m)) (Jg ho2 hd2 ?_)));have z1:items.size=p.length:=by have:=q2a hi;simpa using this
 have z2:items2.size=q.length:=by have:=q2a hj;simpa using this
 refine Ab (wpAny_forIn_list _ (fun rest c s'=>c=(none,())/\s'=s/\∃(vs ws:List Value) (p' q':Pth) (k:Nat),rest=(vs.zip ws).zipIdx k/\Gn vs (p'.map mk)/\Gn ws (q'.map mk) /\
   p'.length+items2.size=q'.length+items.size/\Q (pLt p' q') s) (fun c s'=>match c.1 with|some r=>Q r s'|none=>c.1=none/\Q (decide (items.size<items2.size)) s') ?turn ?fin _ _ ?h0|>fun z=>Cb z ?post fun _ _ e=>e)
 case post =>
  rintro⟨c,⟨⟩⟩ s' hc;cases c with
  |none=>exact Ac hc.2
  |some r=>exact Ac hc
 case h0=>exact⟨rfl,rfl,items.toList,items2.toList,p,q,0,rfl,hi,hj,by lia,h⟩
 case fin =>
  rintro c s' ⟨rfl,rfl,vs,ws,p',q',k,hz,hv,hw,hl,hQ⟩;have e:pLt p' q'=decide (items.size<items2.size):=by
   cases p' with
   |nil =>
    cases q' with
    |nil=>exact(decide_eq_false (by simp only[Dx] at hl;lia)).symm
    |cons m' q'=>exact(decide_eq_true (by simp only[Dx,Bf] at hl;lia)).symm
   |cons m p' =>
    cases q' with
    |nil=>exact(decide_eq_false (by simp only[Dx,Bf] at hl;lia)).symm
    |cons m' q' =>
     rw[Ao] at hv hw;cases hv with
     |cons _ t _=>cases hw with|cons _ u _=>rw[Jf,Sb] at hz;cases hz
  rw[e] at hQ;exact⟨rfl,hQ⟩
 case turn =>
  rintro⟨⟨y,x⟩,i⟩ rest c s' ⟨rfl,rfl,vs,ws,p',q',k,hz,hv,hw,hl,hQ⟩;cases p' with
  |nil=>cases hv;rw[Rg] at hz;cases hz
  |cons m p' =>
   cases q' with
   |nil=>cases hw;rw[Qs] at hz;cases hz
   |cons m' q' =>
    rw[Ao] at hv hw;cases hv with
    |cons _ t hv' =>
     cases hw with
     |cons _ u hw' =>
      rw[Jf,Sb] at hz;injection hz with h1 h2;injection h1 with h1 h3;injection h1 with h4 h5;subst h4 h5 h3;rw[q4q] at hQ;simp only[Bf] at hl;refine Ab (Lu (mk m) t (mk m') u (A:=A) (s:=s') prog w _ _ ?_);by_cases e:m=m'
      ·subst e;rw[if_pos rfl] at hQ;rw[beq_self_eq_true];simp only[Pr,Bq,if_false];exact Ac ⟨rfl,rfl,_,_,_,_,_,h2,hv',hw',by lia,hQ⟩
      ·rw[if_neg e] at hQ;have e2:(mk m==mk m')=false:=beq_eq_false_iff_ne.mpr fun z=>e (mk_inj z);rw[e2];simp only[Bool.not_false,if_true];exact Ab (x3j (b:=b&&i==0) (Ac hQ))
def PairAt(h:Heap)(v:Value)(p:Pth)(m:Value):Prop:=∃a k,v=.ref a/\IsTup h a #[k,m]/\PathAt h k p
theorem PairAt.keep{h h':Heap}{v m:Value}{p:Pth}(x:PairAt h v p m)(k:∀b o,h.get? b=some o->h'.get? b=some o):PairAt h' v p m:=let ⟨a,z,e,t,s⟩:=x;⟨a,z,e,IsTup.keep t fun o=>k a o,s.keep k⟩
theorem z6w{m m':Value}{Q:Bool->Ae->Prop}(hx:PairAt s.heap x p m)(hy:PairAt s.heap y q m')(hxy:p=q->x=y)(lp:Low p)(lq:Low q)(hu:A.units+2<cLine)(h:Q (pLt p q) s):wpAny (model prog w) A (keyLt' (Qy false) x y) Q E s:=by
 obtain⟨l,k,rfl,hl,hk⟩:=hx;obtain⟨l2,k2,rfl,hl2,hk2⟩:=hy;obtain⟨o,ho,hc,n,hd⟩:=id hl;obtain⟨o2,ho2,hc2,n2,hd2⟩:=id hl2;refine Ab (m:=Ey (.ref l)) (Jg ho hd (Ab (m:=Ey (.ref l2)) (Jg ho2 hd2 ?_)));show wpAny (model prog w) A (forIn [((k,k2),0),((m,m'),1)] ((none,()):Option Bool×Unit) _ >>= _) Q E s;rw[Np];refine Ab (Ab (Ab (x0b hk hk2 lp lq hu prog w _ _ ?_)));by_cases e:p=q
 ·have e1:=hxy e;cases e1;have e2:=IsTup.inj hl hl2;have e3:k=k2/\m=m':=by
   have:=congrArg Array.toList e2;simpa using this
  obtain⟨rfl,rfl⟩:=e3;subst e;rw[decide_eq_true rfl];simp only[Pr,Bq,if_false];refine Ac ?_;dsimp only;rw[Np];refine Ab (Ab (Sm m (A:=A) (s:=s) prog w _ _ ?_));simp only[Pr,Bq,if_false];refine Ac ?_;dsimp only;rw[List.forIn_nil];refine Ac (Ac ?_);rw[q4x] at h;simpa using h
 ·rw[decide_eq_false e];simp only[Bool.not_false,if_true,Bool.false_and];refine Ab (x0d hk hk2 (by lia) (Ac ?_));exact Ac (Ac h)
theorem z1o{α β:Type}{f:α->Sem β}{g:α->β}:∀(l:List α) {Q:List β->Ae->Prop},(∀a∈l,∀(Q':β->Ae->Prop),Q' (g a) s->wpAny (model prog w) A (f a) Q' E s)->Q (l.map g) s->wpAny (model prog w) A (l.mapM f) Q E s
 |[],Q,_,h=>by rw[List.mapM_nil];exact Ac h
 |a::l,Q,hf,h=>by
  rw[List.mapM_cons];refine Ab (hf a Aj _ (Ab (z1o l (fun b hb=>hf b (Ah _ hb)) (Ac h))))
theorem x0e{a:Addr}{its:Array Value}{Q:Option Value->Ae->Prop}(t:IsTup s.heap a its)(h:Q its[0]? s):wpAny (model prog w) A (firstOfTuple' (.ref a)) Q E s:=by
 obtain⟨o,ho,hc,n,hd⟩:=t;refine Ab (m:=typeOf (.ref a)) (Iy (T := "tuple") ⟨o,ho,hc⟩ ?_);have e:(Value.type "tuple" != Value.type "tuple")=false:=by decide
 rw[e];simp only[Bq,if_false];exact Ab (m:=Ey (.ref a)) (Jg ho hd (Ac h))
theorem z6x{T:String}{vs:List Value}{fs:Value->Value}{Q:Kh->Ae->Prop}(hne:vs≠[])(hf:∀v∈vs,∃a its,v=.ref a/\IsTup s.heap a its/\its[0]?=some (fs v))(hT:∀v∈vs,s.TypeIs (fs v) T)(h:Q (Qy (Value.type T != Value.type "tuple")) s):wpAny (model prog w) A (keyKind' vs.toArray) Q E s:=by
 rw[keyKind'_eq,Ri];refine Ab (Ab (z1o (g:=fun v=>some (fs v)) vs (fun v hv Q' h'=>?_) (Ac ?_)))
 ·obtain⟨a,its,rfl,t,e⟩:=hf v hv;exact x0e t (by rw[e];exact h')
 ·have hall:((vs.map fun v=>some (fs v)).toArray.all fun x=>x.isSome)=true:=by simp
  rw[if_pos (by simpa using hall)];refine Ab (Jk ?_);rw[oneTypeOnly'_eq];have e:Array.filterMap id (vs.map fun v=>some (fs v)).toArray=(vs.map fs).toArray:=by
   simp[Ls]
  rw[e,Ri];refine Ab (Ab (Ab (z1o (g:=fun _=>Value.type T) (vs.map fs) (fun x hx Q' h'=>?_) (Ac ?_))))
  ·obtain⟨v,hv,rfl⟩:=Am.mp hx;exact Iy (hT v hv) h'
  ·cases vs with
   |nil=>exact absurd rfl hne
   |cons v vs =>
    have e0:(((v::vs).map fs).map fun _=>Value.type T).toArray[0]?=some (Value.type T):=by simp
    have ea:((((v::vs).map fs).map fun _=>Value.type T).toArray.all fun x=>x==Value.type T)=true:=by simp
    rw[e0];dsimp only;rw[ea];simp only[if_true];exact Ac (Ac (by simpa using h))
end
open PySem PyProof.Rows TX
section
variable{prog:Program}{w:World}{A:Around}{E:Value->Ae->Prop}{s:Ae}{kd:Kh}{S:Value->Prop}{r:Value->Int}{vs:List Value}
def KeptBut(a:Addr)(h h':Heap):Prop:=∀b o,b≠a->h.get? b=some o->h'.get? b=some o
structure Sorted (r:Value->Int) (vs:List Value) (out:Array Value):Prop where
 perm:out.toList.Perm vs
 rise:out.toList.Pairwise fun x y=>r x<=r y
theorem x0f{xs:Array Keyed}(hp:xs.Perm (pairsOf vs)):(∀p∈xs.toList,p.1=p.2)/\(xs.map (·.2)).toList.Perm vs:=by
 have hl:xs.toList.Perm (vs.zip vs):=by rw[<- pairsOf_toList];exact Me.mp hp
 refine⟨fun p hp'=>(mem_zip_self (hl.mem_iff.mp hp')).1,?_⟩;rw[Array.toList_map];have:=hl.map (·.2)
 rwa [List.map_snd_zip (Ak _)] at this
theorem z0d{st:Gs}(hp:(arrOf st).Perm (pairsOf vs))(u:Up r (arrOf st) (pairsOf vs).size):Sorted r vs ((arrOf st).map (·.2)):=by
 obtain⟨h1,h2⟩:=x0f hp;refine⟨h2,?_⟩;rw[List.pairwise_iff_getElem];intro i j hi hj hij;have hi':i<(arrOf st).size:=by simp_all
 have hj':j<(arrOf st).size:=by simp_all
 have e:=u i j (Gy hij) (by rw[<- hp.size_eq];exact hj');have k:∀{n:Nat} (hn:n<(arrOf st).size),rk r (arrOf st) n=r (arrOf st)[n].2:=fun{n} hn=>by
  unfold rk;rw[getElem?_pos (arrOf st) n hn];show r (arrOf st)[n].1=_;rw[h1 (arrOf st)[n] (by simp)]
 rw[k hi',k hj'] at e;simpa using e
theorem z6y(ho:s.heap.get? a=some (Ky "list" vs.toArray n))(h64:vs.length<64)(hS:∀v∈vs,S v)(hk:2<=vs.length->∀s' (E:Value->Ae->Prop) (Q:Kh->Ae->Prop),KeptBut a s.heap s'.heap->Q kd s'->wpAny (model prog w) A (keyKind' vs.toArray) Q E s')(T:∀s',KeptBut a s.heap s'.heap->Tells prog w A s' kd S r)(h:∀out,Sorted r vs out->P (.done (.ret .none)) { s with heap:=sortedHeap s.heap a vs out }):
  wpAny (model prog w) A (Dm.«list.sort» ⟨[.ref a],[]⟩) P E s:=by
 have hz2:=pairsOf_size vs;have hz3:vs.length<=sizeLine:=by rw[Eg];lia
 rw[list_sort_plain];refine Ab (Jg ho rfl (Ab (Pu ho rfl ?_)));have o1:=get?_update_seq ho (fun _=>#[]);refine Ab (Rp o1 rfl (Ab (Oo (Ab (wpAny_newList (Cy ?_))))));generalize hg:(((s.heap.update a (Ex fun _=>#[])).push (Ky "tuple" vs.toArray 0)).push (Ky "list" #[] 0))=g;have kg:KeptBut a s.heap g:=fun b o hb e=>by
  rw[<- hg];exact Ai _ (Ai _ ((Ec _ _ (Dd hb)).trans e))
 have og:=Ai (Ky "list" #[] 0) (Ai (Ky "tuple" vs.toArray 0) o1);rw[hg] at og;have fin:∀out,Sorted r vs out->P (.done (.ret .none)) { s with heap:=g.update a (Ex fun _=>out) }:=fun out so=>by
  have:=h out so;unfold sortedHeap at this
  rwa [hg] at this
 by_cases h2:vs.length<2
 ·have h2':vs.toArray.size<2:=by simpa using h2
  simp only[if_pos h2'];refine Ab (Ac ?_);refine Ab (Ac (Ab (Rp og rfl (Ab (Pu og rfl ?_ (hsz2:=by show((pairsOf vs).map _).size<=_;rw[Array.size_map];lia))))));simp only[bne_self_eq_false,Bq,if_false];exact Ac (fin _ (z0d (Su _) fun i j a' b'=>by rw[show i=j by lia];exact Ob _))
 ·have h2':¬vs.toArray.size<2:=by simpa using h2
  simp only[if_neg h2'];refine Ab (hk (by lia) _ _ _ kg ?_);refine Ab (Cb (x3h (a₀:=pairsOf vs) (Q:=fun _ t=>(arrOf t).Perm (pairsOf vs)/\Rz t=none/\Up r (arrOf t) (pairsOf vs).size) (T _ kg) (fun p hp=>hS _ ?_)
   ⟨Su _,rfl,rfl,rfl⟩ (by lia) (by lia) fun t a1 a2 a3=>⟨a1,a2,a3⟩) ?_ fun _ _ e=>e)
  ·rw[pairsOf_toList] at hp;exact(mem_zip_self hp).2
  ·rintro⟨⟨⟩,t⟩ s' ⟨rfl,pm,fl,up⟩;refine Ab (Rp og rfl (Ab (Pu og rfl ?_ (hsz2:=by show((arrOf t).map _).size<=_;rw[Array.size_map,pm.size_eq];lia))));rw[fl];simp only[bne_self_eq_false,Bq,if_false];exact Ac (fin _ (z0d pm up))
end
section
variable{prog:Program}{w:World}{A:Around}{E:Value->Ae->Prop}{s:Ae}
structure Ready (prog:Program) (w:World) (A:Around) (vs:List Value) (h:Heap) (kd:Kh) (S:Value->Prop) (r:Value->Int):Prop where
 few:vs.length<64
 all:∀v∈vs,S v
 kind:2<=vs.length->∀A' s' (E:Value->Ae->Prop) (Q:Kh->Ae->Prop),A'.units<=A.units+9->(∀b o,h.get? b=some o->s'.heap.get? b=some o)->Q kd s'->wpAny (model prog w) A' (keyKind' vs.toArray) Q E s'
 tells:∀A' s',A'.units<=A.units+9->(∀b o,h.get? b=some o->s'.heap.get? b=some o)->Tells prog w A' s' kd S r
theorem sorted_ok
  (hc:∀{Q':List Value->Ae->Prop},(∀vs h tk kd S r,Ready prog w A vs h kd S r ->
    (∀h' out,Sorted r vs out->(∀b o,h.get? b=some o->h'.get? b=some o)->(∃e,h'.get? h.objs.size=some (Ky "list" out e))->Q (.ref h.objs.size) { s with heap:=h',toks:=tk })->Q' vs { s with heap:=h,toks:=tk }) ->
   wpAny (model prog w) A.in1 (collect x) Q' E s):wpAny (model prog w) A (call (.builtin "sorted") [x]) Q E s:=by
 refine Calls.call_function_entry kind_sorted plain_sorted entry_sorted (args_sorted1 _) ?_;refine Ab (Ac (Ab (hc fun vs h tk kd S r rd hQ=>?_)));have hz3:vs.length<=sizeLine:=by have:=rd.few;rw[Eg];lia
 refine Ab (wpAny_newList ?_);have ho:(h.push (Ky "list" vs.toArray 0)).get? h.objs.size=some (Ky "list" vs.toArray 0):=Ar _ rfl;have kb:∀{g:Heap},KeptBut h.objs.size (h.push (Ky "list" vs.toArray 0)) g->∀b o,h.get? b=some o->g.get? b=some o:=fun kg b o e=>kg b o (Bg (Ap e)) (Ai _ e);refine Ab (Cy (Bx slot_list_sort ⟨_,ho,rfl⟩ entry_list_sort (z6y ho rd.few rd.all (fun h2 s' E Q kg q=>rd.kind h2 _ s' E Q (by show A.units+1+1<=_;lia) (kb kg) q) (fun s' kg=>rd.tells _ s' (by show A.units+1+1<=_;lia) (kb kg)) fun out so=>⟨_,rfl,?_⟩) (args_list_sort _)));refine Ac ⟨_,rfl,hQ _ out so (fun b o e=>?_) (sortedHeap_at ho)⟩;have:=sortedHeap_old (vs:=vs) (out:=out) (h:=h.push (Ky "list" vs.toArray 0)) (Bg (Ap e)) (by rw[size_push'];exact Gx (Ap e));rw[this];exact Ai _ e
theorem perm_map_inv {α β : Type} {g : α → β} : ∀ {l m : List β}, l.Perm m → ∀ {zs : List α}, m = zs.map g → ∃ zs' : List α, zs'.Perm zs ∧ l = zs'.map g := by
  intro l m h;induction h with
  | nil => simp_all
  | cons x h ih => intro zs e; cases zs with
    | nil => cases e
    | cons z zs =>
      injection e with e1 e2;obtain ⟨zs', h1, h2⟩ := ih e2;exact ⟨z :: zs', h1.cons z, by rw [Ao, ← h2, e1]⟩
  | swap x y l => intro zs e; cases zs with
    | nil => cases e
    | cons z zs => cases zs with
      | nil => cases e
      | cons z2 zs =>
        injection e with e1 e2;injection e2 with e2 e3;exact ⟨z2 :: z :: zs, List.Perm.swap _ _ _, by rw [Ao, Ao, ← e1, ← e2, ← e3]⟩
  | trans h1 h2 ih1 ih2 => intro zs e
                           obtain ⟨zs', p1, e1⟩ := ih2 e;obtain ⟨zs2, p2, e2⟩ := ih1 e1;exact ⟨zs2, p2.trans p1, e2⟩
open Classical in
noncomputable def keyBy (K:Value->Pth->Prop) (v:Value):Pth:=if h:∃p,K v p then choose h else[]
theorem q3o{K:Value->Pth->Prop}(hK:∀v p q,K v p->K v q->p=q){v:Value}{p:Pth}(h:K v p):keyBy K v=p:=by
 unfold keyBy;have hx:∃p,K v p:=⟨p,h⟩
 rw[dif_pos hx];exact hK v _ _ (Classical.choose_spec hx) h
theorem rise_paths{K:Value->Pth->Prop}(hK:∀v p q,K v p->K v q->p=q){α:Type}{g:α->Value}{f:α->Pth}:∀{zs:List α},(∀z∈zs,K (g z) (f z)/\f z∈ps)->(zs.map g).Pairwise (fun x y=>(pRank ps (keyBy K x):Int)<=(pRank ps (keyBy K y):Int))->(zs.map f).Pairwise fun a b=>pLt b a=false
 |[],_,_=>.nil
 |z::zs,hz,h=>by
  rw[Ao] at h ⊢;obtain⟨h1,h2⟩:=Jh.mp h;refine Jh.mpr ⟨fun b hb=>?_,rise_paths hK (fun y hy=>hz y (Ah _ hy)) h2⟩;obtain⟨y,hy,rfl⟩:=Am.mp hb;obtain⟨k1,m1⟩:=hz z Aj;obtain⟨k2,m2⟩:=hz y (Ah _ hy);have:=h1 (g y) (Am.mpr ⟨y,hy,rfl⟩);rw[q3o hK k1,q3o hK k2] at this;rw[z1n m2 m1];exact decide_eq_false (by lia)
theorem ready_paths(few:vs.length<64)(hp:∀v∈vs,∃p∈ps,p≠[]/\PathAt h v p):
  Ready prog w A vs h (Qy true) (fun v=>∃p∈ps,PathAt h v p) (fun v=>(pRank ps (keyBy (PathAt h) v):Int)) where
 few:=few
 all:=fun v hv=>let ⟨p,a,_,b⟩:=hp v hv;⟨p,a,b⟩
 kind:=fun h2 A' s' E Q _ k q=>by
  have hne:vs≠[]:=fun z=>by rw[z] at h2;simp at h2
  have ex:∀v∈vs,∃a its n p t,v=.ref a/\IsTup s'.heap a its/\its[0]?=some (.str (mk n) t):=fun v hv=>by
   obtain⟨p,_,hne,x⟩:=hp v hv;obtain⟨a,its,rfl,tt,st⟩:=x.keep k;cases p with
   |nil=>exact absurd rfl hne
   |cons n p =>
    obtain⟨l⟩:=its;cases st with
    |cons _ t st'=>exact⟨a,_,n,p,t,rfl,tt,rfl⟩
  refine z6x (fs:=fun v=>(match v with|.ref a=>(match s'.heap.get? a with|some o=>(match o.data with|.seq its _=>its.getD 0 .none|_=>.none)|none=>.none)|_=>.none)) hne (fun v hv=>?_) (fun v hv=>?_) (by rw[show(Value.type "str" != Value.type "tuple")=true from by decide];exact q)
  ·obtain⟨a,its,n,p,t,rfl,tt,e⟩:=ex v hv;refine⟨a,its,rfl,tt,?_⟩;obtain⟨o,e1,e2,m,e3⟩:=tt;simp only[e1,e3];rw[e,Ly,e];rfl
  ·obtain⟨a,its,n,p,t,rfl,tt,e⟩:=ex v hv;obtain⟨o,e1,e2,m,e3⟩:=tt;simp only[e1,e3];rw[Ly,e];exact Jj _ _ _
 tells:=fun A' s' _ k E x y Q ⟨p,hp1,x1⟩ ⟨q,hq1,y1⟩ h'=>by
  refine z6v (x1.keep k) (y1.keep k) ?_;have hK:∀v p q,PathAt h v p->PathAt h v q->p=q:=fun _ _ _ a b=>a.inj b;have e1:=q3o hK x1;have e2:=q3o hK y1;rw[z1n hp1 hq1,<- e1,<- e2];exact h'
theorem PairAt.inj(h1:PairAt h v p m)(h2:PairAt h v q m'):p=q:=by
 obtain⟨a,k,rfl,t,s⟩:=h1;obtain⟨a',k',e,t',s'⟩:=h2;cases e;have e:=congrArg Array.toList (IsTup.inj t t');have e2:k=k':=by grind
 subst e2;exact s.inj s'
theorem ready_pairs(few:vs.length<64)(hp:∀v∈vs,∃p∈ps,∃m,Low p/\PairAt h v p m)(hi:∀u∈vs,∀v∈vs,∀p m m',PairAt h u p m->PairAt h v p m'->u=v)(hu:A.units+12<cLine):
  Ready prog w A vs h (Qy false) (fun v=>v∈vs) (fun v=>(pRank ps (keyBy (fun v p=>∃m,PairAt h v p m) v):Int)) where
 few:=few
 all:=fun v hv=>hv
 kind:=fun h2 A' s' E Q _ k q=>by
  have hne:vs≠[]:=fun z=>by rw[z] at h2;simp at h2
  have ex:∀v∈vs,∃a b its m,v=.ref a/\IsTup s'.heap a #[.ref b,m]/\IsTup s'.heap b its:=fun v hv=>by
   obtain⟨p,_,m,_,x⟩:=hp v hv;obtain⟨a,z,rfl,tt,b,its,rfl,t2,_⟩:=x.keep k;exact⟨a,b,its,m,rfl,tt,t2⟩
  refine z6x (fs:=fun v=>(match v with|.ref a=>(match s'.heap.get? a with|some o=>(match o.data with|.seq its _=>its.getD 0 .none|_=>.none)|none=>.none)|_=>.none)) hne (fun v hv=>?_) (fun v hv=>?_) (by rw[show(Value.type "tuple" != Value.type "tuple")=false from by decide];exact q)
  ·obtain⟨a,b,its,m,rfl,tt,_⟩:=ex v hv;refine⟨a,_,rfl,tt,?_⟩;obtain⟨o,e1,e2,n,e3⟩:=tt;simp only[e1,e3];rfl
  ·obtain⟨a,b,its,m,rfl,tt,t2⟩:=ex v hv;obtain⟨o,e1,e2,n,e3⟩:=tt;simp only[e1,e3];obtain⟨o2,f1,f2,_⟩:=t2;exact⟨o2,f1,f2⟩
 tells:=fun A' s' hA k E x y Q hx hy h'=>by
  obtain⟨p,hp1,m,lp,x1⟩:=hp x hx;obtain⟨q,hq1,m',lq,y1⟩:=hp y hy;refine z6w (x1.keep k) (y1.keep k) (fun e=>by subst e;exact hi x hx y hy _ _ _ x1 y1) lp lq (by lia) ?_;have hK:∀v p q,(∃m,PairAt h v p m)->(∃m,PairAt h v q m)->p=q:=fun v p q ⟨_,a⟩ ⟨_,b⟩=>PairAt.inj a b
  have e1:=q3o hK ⟨m,x1⟩;have e2:=q3o hK ⟨m',y1⟩;rw[z1n hp1 hq1,<- e1,<- e2];exact h'
end
end SB
namespace PySem.Rv
open Sem (wp)
structure Runs (prog:Program) (w:World) (A:Around) (S I:Addr) (n:Nat) (Fc:List Value->Heap->Prop) (It:Nat->Heap->Prop):Prop where
 keepF:∀acc h h',Fc acc h->(∀b o,b≠S->b≠I->h.get? b=some o->h'.get? b=some o)->Fc acc h'
 keepI:∀i h h',It i h->(∀b o,b≠S->h.get? b=some o->h'.get? b=some o)->It i h'
 item:∀acc (s:Ae) (Q:Option Value->Ae->Prop) (E:Value->Ae->Prop),acc.length<n->Fc acc s.heap->It acc.length s.heap ->
  (∀v h',Fc (acc++[v]) h'->It (acc.length+1) h'->(∀b o,b≠I->s.heap.get? b=some o->h'.get? b=some o)->Q (some v) { s with heap:=h' })->wpAny (model prog w) A.in1 (Gz (.ref I)) Q E s
 done:∀(s:Ae) (Q:Option Value->Ae->Prop) (E:Value->Ae->Prop),It n s.heap->(∀h',(∀b o,b≠I->s.heap.get? b=some o->h'.get? b=some o)->Q none { s with heap:=h' })->wpAny (model prog w) A.in1 (Gz (.ref I)) Q E s
section
variable{prog:Program}{w:World}{A:Around}{E:Value->Ae->Prop}{S I:Addr}{n:Nat}{Fc:List Value->Heap->Prop}{It:Nat->Heap->Prop}
theorem grow(W:Runs prog w A S I n Fc It)(hSI:S≠I)(hn:n<=sizeLine)(res:Value):∀(k:Nat) (acc:List Value) (s:Ae) (c:Nat),n-acc.length=k->acc.length<=n->Fc acc s.heap->It acc.length s.heap ->
  s.heap.get? S=some { cls:=.type "list",data:=.seq acc.toArray c } ->
  (∀acc' h' c',acc'.length=n->Fc acc' h'->(∀b o,b≠S->b≠I->s.heap.get? b=some o->h'.get? b=some o)->h'.get? S=some { cls:=.type "list",data:=.seq acc'.toArray c' }->R (.ok (.ret res)) { s with heap:=h' }) ->
  Fz (model prog w) A (.builtin "list.extend.loop" ⟨[.ref S,.ref I,res],[]⟩) R s:=by
 intro k;induction k with
 |zero =>
  intro acc s c hk hl f i hS hR;refine Ik Qa ?_;rw[Hu Gk _];have e:acc.length=n:=by lia
  refine Ab (W.done s _ _ (by rw[<- e];exact i) fun h' kp=>Ac ?_);exact hR acc h' c e (W.keepF _ _ _ f fun b o _ hb q=>kp b o hb q) (fun b o _ hb q=>kp b o hb q) (kp S _ hSI hS)
 |succ k ih =>
  intro acc s c hk hl f i hS hR;refine Ik Qa ?_;rw[Hu Gk _];refine Ab (W.item acc s _ _ (by lia) f i fun v h' f' i' kp=>?_);have hS':=kp S _ hSI hS;have oth:∀b o,b≠S->h'.get? b=some o->(h'.update S (Ex (·.push v))).get? b=some o:=fun b o hb q=>(Ec _ _ (Dd hb)).trans q;have hS2:(h'.update S (Ex (·.push v))).get? S=some { cls:=.type "list",data:=.seq (acc++[v]).toArray (c+1) }:=by
   have:=Hf hS' (fun x=>x.push v);rw[this];simp
  refine Ab (Nr hS' rfl (Ac ⟨Mg Gk _,ih (acc++[v]) _ (c+1) (by rw[Af,Ce];lia) (by rw[Af,Ce];lia)
   (W.keepF _ _ _ f' fun b o hb _ q=>oth b o hb q) (by rw[Af,Ce];exact W.keepI _ _ _ i' oth) hS2 fun acc' h2 c' e2 f2 k2 s2=>hR acc' h2 c' e2 f2 (fun b o hb hb' q=>k2 b o hb hb' (oth b o hb (kp b o hb' q))) s2⟩) (by rw[Av];lia) (by simp;lia))
theorem collect_runs(hT:∀h,(∀b o,s.heap.get? b=some o->h.get? b=some o)->(⟨h,s.gens,s.drawn,s.toks,s.os⟩:Ae).TypeIs (.ref v) T)(hv:v<s.heap.objs.size)(h1:(Value.type T==Value.type "list")=false)(h2:(Value.type T==Value.type "tuple")=false)(hint:∀(A:Around) (E:Value->Ae->Prop) (s':Ae) (Q:Bool->Ae->Prop),s'.TypeIs (.ref v) T->Q false s'->wpAny (model prog w) A (Dm.List.listLengthHint (.ref v)) Q E s')(iter:∀(A:Around) (E:Value->Ae->Prop) (h:Heap) (Q:Value->Ae->Prop),(∀b o,s.heap.get? b=some o->h.get? b=some o)->Q (.ref h.objs.size) { s with heap:=h.push oI }->wpAny (model prog w) A (Lp (.ref v)) Q E { s with heap:=h })(hoI:∀h:Heap,(h.push oI).get? h.objs.size=some oI)(W:Runs prog w A s.heap.objs.size (s.heap.objs.size+1) n Fc It)(hn:n<=sizeLine)(h0:∀h,(∀b o,s.heap.get? b=some o->h.get? b=some o)->h.get? (s.heap.objs.size+1)=some oI->Fc [] h/\It 0 h)(hQ:∀acc h,acc.length=n->Fc acc h->s.heap.objs.size<=h.objs.size->(∀b o,s.heap.get? b=some o->h.get? b=some o)->Q acc { s with heap:=h }):wpAny (model prog w) A (collect (.ref v)) Q E s:=by
 refine Ab (wpAny_runValue (Ik F.entry_proto_collect ?_));rw[Hu F.plain_proto_collect _];refine Ab (Bt (Ac ⟨Mg Rk _,Ik F.entry_list_iadd ?_⟩));rw[Hu Rk _];show wpAny _ A.in1 (Dm.List.listExtendWith (.ref s.heap.objs.size) (.ref v) (.ref s.heap.objs.size)) _ _ { s with heap:=s.heap.push { cls:=.type "list",data:=.seq ([]:List Value).toArray } };generalize hg:s.heap.push { cls:=.type "list",data:=.seq ([]:List Value).toArray }=g;have kg:∀b o,s.heap.get? b=some o->g.get? b=some o:=fun b o q=>by rw[<- hg];exact Ai _ q
 have gz:g.objs.size=s.heap.objs.size+1:=by rw[<- hg];exact Ga _ _
 have gS:g.get? s.heap.objs.size=some { cls:=.type "list",data:=.seq ([]:List Value).toArray }:=by rw[<- hg];exact Ar _ rfl
 refine Ab (Iy (hT g kg) ?_);have hs:Ng (.ref s.heap.objs.size) (.ref v)=false:=by simp[Ng,Ge hv]
 simp only[hs,h1,h2,Bool.or_false,Bq,if_false];refine Ab (iter _ _ g _ kg ?_);rw[gz];have kI:∀b o,g.get? b=some o->(g.push oI).get? b=some o:=fun b o q=>Ai _ q;have hS₁:=kI _ _ gS;have put:∀(h:Heap) (c:Nat),(∀b o,b≠s.heap.objs.size->(g.push oI).get? b=some o->h.get? b=some o)->h.get? s.heap.objs.size=some { cls:=.type "list",data:=.seq ([]:List Value).toArray c }->h.get? (s.heap.objs.size+1)=some oI ->
   Fz (model prog w) A (.builtin "list.extend.loop" ⟨[.ref s.heap.objs.size,.ref (s.heap.objs.size+1),.ref s.heap.objs.size],[]⟩) (fun r s'=>∃acc c',r=.ok (.ret (.ref s.heap.objs.size))/\s'.heap.get? s.heap.objs.size=some { cls:=.type "list",data:=.seq acc c' }/\Q acc.toList s') { s with heap:=h }:=by
  intro h c kh hh hi;obtain⟨f,i⟩:=h0 h (fun b o q=>kh b o (Bg (Ap q)) (kI b o (kg b o q))) hi;refine grow W (Bg (Gf _)) hn _ n [] _ c (by simp) (Br _) f i hh fun acc h' c' e f' k' s'=>⟨acc.toArray,c',rfl,s',?_⟩
  have:=hQ acc h' e f' (Gy (Ap s')) fun b o q=>k' b o (Bg (Ap q)) (Bg (Gx (Ap q))) (kh b o (Bg (Ap q)) (kI b o (kg b o q)));simpa using this
 have gI:(g.push oI).get? (s.heap.objs.size+1)=some oI:=by grind
 refine Ab (Cy (hint _ _ _ _ (hT (g.push oI) fun b o q=>kI b o (kg b o q)) ?_));have last:∀(h:Heap) (c:Nat),(∀b o,b≠s.heap.objs.size->(g.push oI).get? b=some o->h.get? b=some o)->h.get? s.heap.objs.size=some { cls:=.type "list",data:=.seq ([]:List Value).toArray c }->h.get? (s.heap.objs.size+1)=some oI->∀{R:Result->Ae->Prop},
   (∀s' acc c',s'.heap.get? s.heap.objs.size=some { cls:=.type "list",data:=.seq acc c' }->Q acc.toList s'->R (.ok (.ret (.ref s.heap.objs.size))) s')->Fz (model prog w) A (.builtin "list.extend.loop" ⟨[.ref s.heap.objs.size,.ref (s.heap.objs.size+1),.ref s.heap.objs.size],[]⟩) R { s with heap:=h }:=by
  intro h c kh hh hi R hR;refine Ha (put h c kh hh hi) fun r s' z=>?_;obtain⟨acc,c',rfl,e,q⟩:=z;exact hR s' acc c' e q
 refine wpAny_ite_split (fun _=>?_) (fun _=>?_)
 ·refine Ab (Jk (Ab ?_));show wpAny _ _ (updateSeq s.heap.objs.size (·.push .none) >>= fun _=>updateSeq s.heap.objs.size (·.pop)) _ _ _;refine Ab (Nr hS₁ rfl ?_);have hS₂:=Hf hS₁ (fun x=>x.push Value.none);refine Nr hS₂ rfl ?_;have hS₃:=Hf hS₂ (fun x=>x.pop);have oth:∀b o,b≠s.heap.objs.size->(g.push oI).get? b=some o->(((g.push oI).update s.heap.objs.size (Ex fun x=>x.push Value.none)).update s.heap.objs.size (Ex fun x=>x.pop)).get? b=some o :=
   fun b o hb q=>(Ec _ _ (Dd hb)).trans ((Ec _ _ (Dd hb)).trans q)
  refine Ac ⟨Mg Gk _,last _ _ oth hS₃ (oth _ _ (Ge (Gf _)) gI) fun s' acc c' e q=>?_⟩;exact Ab (Pb e (Ac q))
 ·refine Ac ⟨Mg Gk _,last _ _ (fun b o _ q=>q) hS₁ gI fun s' acc c' e q=>?_⟩;exact Ab (Pb e (Ac q))
end
end PySem.Rv
namespace L2
open PySem PySem.Spec PyProof.Rows SB TX
def kP(p:Pth):List Key:=p.map fun n=>Sum.inr (mk n)
abbrev vP(p:Pth):List V:=p.map fun n=>V.str (mk n)
theorem q6w(p:Pth):(kP p).map kV=vP p:=by unfold kP;rw[Bd];rfl
abbrev HRow:=Pth×V
abbrev dR(rows:List HRow):HO:=.dT (rows.map fun r=>(kP r.1,r.2))
theorem z0e:∀{p:Pth} {us:List Value},Vals (vP p) us->Gn us (p.map mk)
 |[],_,.nil=>.nil
 |n::p,us,h=>by
  cases h with
  |cons r t =>
   obtain⟨k,rfl⟩:=r;exact .cons _ k (z0e t)
section
variable{X:Cx}{pins:List (Addr×Obj)}{σ:St}{H:Hp}{s:Ae}
theorem Inv.path(I:Inv X pins σ H s)(h:H b=some (.tup (vP p))):PathAt s.heap (.ref b) p:=by
 obtain⟨z,its,r,t⟩:=I.hok b _ h;exact⟨b,its.toArray,rfl,t,by simpa using z0e r⟩
theorem Inv.rows(I:Inv X pins σ H s){rows:List HRow}(hd:H d=some (dR rows)):(d==Eh)=false/\rows.length<=sizeLine/\∃ob es ep,s.heap.get? d=some ob/\ob.ExactDict/\ob.data=.dict es ep/\(rows.map (·.1)).Nodup /\
  ∃zs:List (Addr×Value×HRow),zs.map (·.2.2)=rows/\es.toList.map (fun e=>(e.key,e.val))=zs.map (fun z=>(Value.ref z.1,z.2.1))/\∀z∈zs,H z.1=some (.tup (vP z.2.2.1))/\RelV z.2.2.2 z.2.1:=by
 obtain⟨z,hsys,xs,hp,ob,es,ep,ho,hex,hob,h4,h5⟩:=(show ObjOk X.prog X.w H s.heap d (dR rows) from I.hok d _ hd)
 rw[Aa] at z;have go:∀(rows:List HRow) (xs:List (List Key×Addr×Value)),Dp (fun(p:List Key×V) (q:List Key×Addr×Value)=>p.1=q.1/\H q.2.1=some (.tup (p.1.map kV))/\RelV p.2 q.2.2) (rows.map fun r=>(kP r.1,r.2)) xs ->
   xs.map (·.1)=rows.map (fun r=>kP r.1)/\∃zs:List (Addr×Value×HRow),zs.map (·.2.2)=rows/\(xs.map (Oz (Hj (mixKind X.prog X.w)))).map (fun e=>(e.key,e.val))=zs.map (fun z=>(Value.ref z.1,z.2.1))/\∀z∈zs,H z.1=some (.tup (vP z.2.2.1))/\RelV z.2.2.2 z.2.1:=by
  intro rows;induction rows with
  |nil=>intro xs h;cases h;exact⟨rfl,[],rfl,rfl,fun _ h=>nomatch h⟩
  |cons r rows ih =>
   intro xs h;cases h with
   |cons hq t =>
    rename_i q ys;obtain⟨e1,e2,e3⟩:=hq;obtain⟨i0,zs,i1,i2,i3⟩:=ih ys t;refine⟨by rw[Ao,Ao,i0,<- e1],(q.2.1,q.2.2,r)::zs,by rw[Ao,i1],by rw[Ao,Ao,Ao,i2];rfl,fun z hz=>?_⟩;rcases Ba.mp hz with rfl|hz
    ·exact⟨by rw[<- q6w];exact e2,e3⟩
    ·exact i3 z hz
 obtain⟨g0,zs,g1,g2,g3⟩:=go rows xs hp;refine⟨hsys,z,ob,es,ep,ho,hex,hob,?_,zs,g1,by rw[h4];exact g2,g3⟩;rw[g0] at h5;have e:rows.map (fun r=>kP r.1)=(rows.map (·.1)).map kP:=by simp_all
 rw[e] at h5;exact(List.pairwise_map.mp h5).imp fun hne z=>hne (by rw[z])
end
abbrev PTs(H:Hp):List Addr->List Pth->Prop:=Dp fun b p=>H b=some (.tup (vP p))
def rSortD:List V->Hp->VK->Prop:=fun vs H Q=>∃d rows,vs=[.ref d]/\H d=some (dR rows)/\rows.length<64/\(∀r∈rows,r.1≠[]) /\
 ∀L bs ps,H L=none->ps.Perm (rows.map (·.1))->ps.Pairwise (fun a b=>pLt b a=false)->PTs H bs ps->Q (.ref L) (upd H L (.lst (bs.map V.ref)))
theorem q6x:∀(bs:List Addr),Vals (bs.map V.ref) (bs.map Value.ref)
 |[]=>.nil
 |b::bs=>.cons rfl (q6x bs)
theorem x1t{H:Hp}{α:Type}{f:α->Addr}{g:α->Pth}:∀{zs:List α},(∀z∈zs,H (f z)=some (.tup (vP (g z))))->PTs H (zs.map f) (zs.map g)
 |[],_=>.nil
 |z::zs,h=>.cons (h z Aj) (x1t fun y hy=>h y (Ah _ hy))
theorem q8c(hr:Room k X.A):CallR X (.builtin "sorted") rSortD:=by
 intro pins s σ H xs us Q I rv h;obtain⟨d,rows,rfl,hd,few,hne,q⟩:=h;obtain⟨u,rfl,ru⟩:=rv.one;cases ru;obtain⟨hsys,hz,ob,es,ep,ho,hex,hob,nd,zs,z1,z2,z3⟩:=I.rows hd;have hlen:es.size=rows.length:=by
  have:=congrArg List.length z2;rw[Aa,Aa,Ea] at this;rw[this,<- z1,Aa]
 have hkeys:∀{i:Nat} (hi:i<es.size),∃z∈zs,zs[i]?=some z/\es[i].key=.ref z.1:=fun{i} hi=>by
  have e:=congrArg (fun l=>l[i]?) z2;simp only[Au,Fg,Dj hi,Ij] at e;cases hzi:zs[i]? with
  |none=>simp_all
  |some z =>
   rw[hzi] at e;injection e with e;injection e with e1 e2;exact⟨z,Aq hzi,rfl,e1⟩
 have hdL:=Ap ho;refine SB.sorted_ok fun{Q'} kk=>?_;refine PySem.Rv.collect_runs (n:=es.size) (Fc:=fun acc _=>acc=(zs.take acc.length).map fun z=>Value.ref z.1)
  (It:=fun i h=>h.IsKeyIter (s.heap.objs.size+1) d i es.size ep/\h.get? d=some ob) (fun h kh=>⟨ob,kh _ _ ho,hex.1⟩) hdL (by decide) (by decide) (fun A E s' Q hT hq=>W.kdl_hint_dict hT hq)
  (fun A E h Q kh hq=>PySem.Rv.keys_iter hsys ⟨ob,kh _ _ ho,hex.1⟩ (kh _ _ ho) hob hq) (fun h=>Ar _ rfl) ⟨fun acc h h' f _=>f,fun i h h' ⟨f1,f2⟩ kp=>⟨f1.at fun o e=>kp _ _ (Ge (Gf _)) e,kp _ _ (Bg hdL) f2⟩,?_,?_⟩ (by lia)
  (fun h kh ki=>⟨rfl,⟨_,ki,rfl,rfl⟩,kh _ _ ho⟩) (fun acc h el f hz2 kh=>?_)
 ·intro acc s' Q E hl f ⟨i1,i2⟩ hq;refine PySem.Rv.keys_item i1 i2 hob hl fun h' j1 sb=>?_;obtain⟨z,hzm,hzi,hzk⟩:=hkeys hl;rw[hzk];refine hq _ h' ?_ ⟨j1,(sb.2 d (Bg (Gx hdL))).trans i2⟩ fun b o hb e=>(sb.2 b hb).trans e;rw[Af,Ce,Om,hzi,Al,<- f];rfl
 ·intro s' Q E ⟨i1,i2⟩ hq;exact PySem.Rv.keys_end hr.hd i1 i2 hob (Ak _) fun h' eb=>hq h' fun b o hb e=>eb b o hb e
 ·have hzl:zs.length=es.size:=by rw[hlen,<- z1,Aa]
  have ea:acc=zs.map fun z=>Value.ref z.1:=by grind
  have hpa:∀v∈acc,∃p∈rows.map (·.1),p≠[]/\PathAt h v p:=fun v hv=>by
   rw[ea] at hv;obtain⟨z,hzm,rfl⟩:=Am.mp hv;have hm:z.2.2∈rows:=by grind
   exact⟨z.2.2.1,Am.mpr ⟨_,hm,rfl⟩,hne _ hm,(I.path (z3 z hzm).1).keep kh⟩
  refine kk acc h s.toks _ _ _ (SB.ready_paths (by lia) hpa) fun h' out so kh' ⟨e,he⟩=>?_;have pm:=so.perm;rw[ea] at pm;obtain⟨zs',p1,p2⟩:=SB.perm_map_inv pm rfl;have hrise:=so.rise;rw[p2] at hrise;have hps:=SB.rise_paths (fun _ _ _ a b=>a.inj b) (fun z hz=>by
   have hzm:=p1.mem_iff.mp hz;have hm:z.2.2∈rows:=by grind
   exact⟨(I.path (z3 z hzm).1).keep kh,Am.mpr ⟨_,hm,rfl⟩⟩) hrise
  have keep:=fun b o z=>kh' b o (kh b o z);have hfr:=I.hok.fresh hz2;have eo:out.toList=(zs'.map (·.1)).map Value.ref:=by rw[p2,Bd];rfl
  have el2:(zs'.map (·.1)).length=es.size:=by rw[Aa,p1.length_eq,hzl]
  refine⟨.ref h.objs.size,upd H h.objs.size (.lst ((zs'.map (·.1)).map V.ref)),I.laid (t':=s.toks) keep hz2 ⟨by rw[Aa,el2];lia,_,e,q6x _,?_⟩,rfl,?_⟩
  ·rw[he,<- eo]
  ·refine q _ (zs'.map (·.1)) (zs'.map fun z=>z.2.2.1) hfr ?_ hps (x1t fun z hz=>(z3 z (p1.mem_iff.mp hz)).1);have:=p1.map fun z:Addr×Value×HRow=>z.2.2.1;have e3:zs.map (fun z=>z.2.2.1)=rows.map (·.1):=by rw[<- z1,Bd];rfl
   rwa [e3] at this
def vwO(v d:Addr):HO:=.ext fun h=>h.IsItemsView v d
def rItems:V->List V->Hp->VK->Prop:=fun x vs H Q=>∃d rows,x=.ref d/\vs=[]/\H d=some (dR rows)/\∀v,H v=none->Q (.ref v) (upd H v (vwO v d))
theorem z3b:MtR X "dict.items" rItems:=by
 intro pins s σ H x vs v us Q I rx rv h;obtain⟨d,rows,rfl,rfl,hd,q⟩:=h;cases rx;have hus:=rv.zero;subst hus;obtain⟨hsys,hz,ob,es,ep,ho,hex,hob,_⟩:=I.rows hd;refine Bx F.slot_dict_items ⟨ob,ho,hex.1⟩ F.entry_dict_items ?_ (F.args_dict_items_1 _);refine Ab ?_;unfold Dm.Dict.noArgs;refine Ab (Ou ⟨ob,ho,hex.1⟩ ?_);show wpAny _ _ (pure d) _ _ s;refine Ac ?_;unfold Km;rw[if_neg (by rw[hsys];exact Bh)];refine Ab (Ac (Ab (Bt (Ac ⟨_,rfl,.ref s.heap.objs.size,_,I.laid (t':=s.toks) (fun b u e=>Ai _ e) (Ak _) ?_,rfl,q _ I.fresh⟩))));exact⟨⟨_,Ar _ rfl,rfl,rfl⟩,⟨_,Ar _ rfl⟩,fun h1 h2 ⟨o,e,c,dd⟩ k=>⟨o,k o e,c,dd⟩⟩
def PR(H:Hp)(a:Addr)(r:HRow):Prop:=∃b,H a=some (.tup [.ref b,r.2])/\H b=some (.tup (vP r.1))
abbrev PRs(H:Hp):List Addr->List HRow->Prop:=Dp (PR H)
def rSortV:List V->Hp->VK->Prop:=fun vs H Q=>∃v d rows,vs=[.ref v]/\H v=some (vwO v d)/\H d=some (dR rows)/\rows.length<64/\(∀r∈rows,Low r.1) /\
 ∀L as rs H',H L=none->rs.Perm rows->(rs.map (·.1)).Pairwise (fun a b=>pLt b a=false)->Same H H'->H' L=some (.lst (as.map V.ref))->PRs H' as rs->Q (.ref L) H'
theorem Inv.tracks{σ:St}:∀{zs:List (Addr×List V)} {H:Hp},Inv X pins σ H s->X.s₀.heap.objs.size<=n->(zs.map (·.1)).Nodup ->
  (∀z∈zs,n<=z.1/\FpOk X pins H z.1/\z.2.length<=sizeLine/\∃its,Vals z.2 its/\IsTup s.heap z.1 its.toArray)->∃H',Inv X pins σ H' s/\Same H H'/\(∀z∈zs,H' z.1=some (.tup z.2))/\∀b,(∀z∈zs,z.1≠b)->H' b=H b:=by
 intro zs;induction zs with
 |nil=>intro H I _ _ _;exact⟨H,I,Same.refl H,(fun _ h=>nomatch h),fun _ _=>rfl⟩
 |cons z zs ih =>
  intro H I hn nd hz;obtain⟨h1,h2,h3,its,h4,h5⟩:=hz z Aj;rw[Ao,Cg] at nd;have I2:=I.track (o:=.tup z.2) (Cq hn h1) h2 ⟨h3,its,h4,h5⟩;obtain⟨H',J,sm,ht,ho⟩:=ih I2 hn nd.2 (fun y hy=>by
   obtain⟨g1,g2,g3,g4⟩:=hz y (Ah _ hy);exact⟨g1,⟨by rw[q0e (fun e=>nd.1 (by rw[<- e];exact Am.mpr ⟨y,hy,rfl⟩))];exact g2.1,g2.2⟩,g3,g4⟩)
  refine⟨H',J,((Same.refl H).new h2.1).trans sm,fun y hy=>?_,fun b hb'=>?_⟩
  ·rcases Ba.mp hy with rfl|hy
   ·exact sm _ _ q0b
   ·exact ht y hy
  ·rw[ho b fun y hy=>hb' y (Ah _ hy),q0e (Dd (hb' z Aj))]
theorem q3p{α β:Type}{f:α->β}:∀{l:List α},(l.map f).Nodup->∀{x y:α},x∈l->y∈l->f x=f y->x=y
 |[],_,_,_,h,_,_=>nomatch h
 |a::l,nd,x,y,hx,hy,e=>by
  rw[Ao,Cg] at nd;rcases Ba.mp hx with ex|hx1
  ·rcases Ba.mp hy with ey|hy1
   ·rw[ex,ey]
   ·exact absurd (by rw[<- ex,e];exact Am.mpr ⟨y,hy1,rfl⟩) nd.1
  ·rcases Ba.mp hy with ey|hy1
   ·exact absurd (by rw[<- ey,<- e];exact Am.mpr ⟨x,hx1,rfl⟩) nd.1
   ·exact q3p nd.2 hx1 hy1 e
abbrev Zt:=Addr×Value×HRow
structure Made (h:Heap) (lo:Nat) (ws:List (Addr×Zt)):Prop where
 rise:(ws.map (·.1)).Pairwise fun a b:Nat=>a<b
 low:∀x∈ws,lo<=(show Nat from x.1)
 at_:∀x∈ws,IsTup h x.1 #[.ref x.2.1,x.2.2.1]
theorem Made.keep{lo:Nat}(m:Made h lo ws)(k:∀(a:Nat) o,lo<=a->h.get? a=some o->h'.get? a=some o):Made h' lo ws :=
 ⟨m.rise,m.low,fun x hx=>SB.IsTup.keep (m.at_ x hx) fun o e=>k _ o (m.low x hx) e⟩
theorem x1u{H:Hp}{α:Type}{f:α->Addr}{g:α->HRow}:∀{zs:List α},(∀z∈zs,PR H (f z) (g z))->PRs H (zs.map f) (zs.map g)
 |[],_=>.nil
 |z::zs,h=>.cons (h z Aj) (x1u fun y hy=>h y (Ah _ hy))
theorem z4k(hr:Room k X.A):CallR X (.builtin "sorted") rSortV:=by
 intro pins s σ H xs us Q I rv h;obtain⟨v,d,rows,rfl,hv,hd,few,hlow,q⟩:=h;obtain⟨u,rfl,ru⟩:=rv.one;cases ru;obtain⟨hsys,hz,ob,es,ep,ho,hex,hob,nd,zs,z1,z2,z3⟩:=I.rows hd;obtain⟨vo,vho,vc,vd⟩:s.heap.IsItemsView v d:=(I.hok v _ hv).1;have hlen:es.size=rows.length:=by
  have:=congrArg List.length z2;rw[Aa,Aa,Ea] at this;rw[this,<- z1,Aa]
 have hkeys:∀{i:Nat} (hi:i<es.size),∃z∈zs,zs[i]?=some z/\es[i].key=.ref z.1/\es[i].val=z.2.1:=fun{i} hi=>by
  have e:=congrArg (fun l=>l[i]?) z2;simp only[Au,Fg,Dj hi,Ij] at e;cases hzi:zs[i]? with
  |none=>simp_all
  |some z =>
   rw[hzi] at e;injection e with e;injection e with e1 e2;exact⟨z,Aq hzi,rfl,e1,e2⟩
 have hzl:zs.length=es.size:=by grind
 have hdL:=Ap ho;have hu:=hr.un;refine SB.sorted_ok fun{Q'} kk=>?_;refine PySem.Rv.collect_runs (n:=es.size) (oI:=PySem.Rv.itemObj d 0 es.size ep .none (.bool false) .none .none) (Fc:=fun acc h=>∃ws,acc=ws.map (fun x=>Value.ref x.1)/\ws.map (·.2)=zs.take acc.length/\Made h (s.heap.objs.size+2) ws)
  (It:=fun i h=>PySem.Rv.ItemIt h (s.heap.objs.size+1) d i es.size ep/\h.get? d=some ob) (fun h kh=>⟨vo,kh _ _ vho,vc⟩) (Ap vho) (by decide) (by decide) (fun A E s' Q hT hq=>W.kdx_hint hT hq)
  (fun A E h Q kh hq=>PySem.Rv.items_iter ⟨vo,kh _ _ vho,vc,vd⟩ (kh _ _ ho) hob hq) (fun h=>Ar _ rfl) ⟨?_,fun i h h' ⟨f1,f2⟩ kp=>⟨f1.keep fun o e=>kp _ _ (Ge (Gf _)) e,kp _ _ (Bg hdL) f2⟩,?_,?_⟩ (by lia)
  (fun h kh ki=>⟨⟨[],rfl,rfl,.nil,(fun _ z=>nomatch z),(fun _ z=>nomatch z)⟩,⟨_,_,_,_,ki,.inl rfl⟩,kh _ _ ho⟩) (fun acc h el f hz2 kh=>?_)
 ·rintro acc h h' ⟨ws,e1,e2,m⟩ kp;refine⟨ws,e1,e2,m.keep fun a o ha e=>kp a o (fun z=>?_) (fun z=>?_) e⟩
  ·rw[z] at ha;exact absurd ha (by lia)
  ·grind
 ·rintro acc s' Q E hl ⟨ws,e1,e2,m⟩ ⟨i1,i2⟩ hq;refine PySem.Rv.items_item i1 i2 hob hl fun h' j1 j2 j3 j4=>?_;obtain⟨z,hzm,hzi,hzk,hzv⟩:=hkeys hl;have lo:=i1.lt;have ni:∀{a:Nat},s.heap.objs.size+2<=a->a≠s.heap.objs.size+1:=fun h=>by lia
  refine hq _ h' ⟨ws++[(s'.heap.objs.size,z)],by rw[e1,Al];rfl,?_,?_⟩ ⟨j1,j4 d ob (Bg (Gx hdL)) i2⟩ j4
  ·rw[Al,e2,Af,Ce,Om,hzi];rfl
  ·have m':=m.keep (h':=h') fun a o ha e=>j4 a o (ni ha) e;refine⟨?_,fun x hx=>?_,fun x hx=>?_⟩
   ·rw[Al];refine List.pairwise_append.mpr ⟨m.rise,List.pairwise_singleton _ _,fun a ha b hb=>?_⟩;obtain⟨x,hx,rfl⟩:=Am.mp ha;have hb':b=s'.heap.objs.size:=by simpa using hb
    rw[hb'];obtain⟨o,eo,_⟩:=m.at_ x hx;exact Ap eo
   ·rcases Ay.mp hx with hx|hx
    ·exact m.low x hx
    ·rw[Az.mp hx];exact lo
   ·rcases Ay.mp hx with hx|hx
    ·exact m'.at_ x hx
    ·rw[Az.mp hx];refine⟨_,j2,rfl,0,?_⟩;rw[hzk,hzv]
 ·rintro s' Q E ⟨i1,i2⟩ hq;exact PySem.Rv.items_end hr.hd i1 i2 hob (Ak _) fun h' eb=>hq h' fun b o hb e=>eb b o hb e
 ·obtain⟨ws,e1,e2,m⟩:=f;rw[el,<- hzl,Bj] at e2;have hwz:∀{x:Addr×Zt},x∈ws->x.2∈zs:=fun{x} hx=>by rw[<- e2];exact Am.mpr ⟨x,hx,rfl⟩
  have hrow:∀{x:Addr×Zt},x∈ws->x.2.2.2∈rows:=fun{x} hx=>by rw[<- z1];exact Am.mpr ⟨_,hwz hx,rfl⟩
  have hpa:∀{x:Addr×Zt},x∈ws->PairAt h (.ref x.1) x.2.2.2.1 x.2.2.1:=fun{x} hx=>⟨x.1,.ref x.2.1,rfl,m.at_ x hx,(I.path (z3 _ (hwz hx)).1).keep kh⟩
  have hnd:(ws.map fun x=>x.2.2.2.1).Nodup:=by grind
  have hacc:∀{w:Value},w∈acc->∃x∈ws,w=.ref x.1:=fun{w} hw=>by
   rw[e1] at hw;obtain⟨x,hx,rfl⟩:=Am.mp hw;exact⟨x,hx,rfl⟩
  refine kk acc h s.toks _ _ _ (SB.ready_pairs (ps:=rows.map (·.1)) (by lia) (fun w hw=>?_) (fun w hw y hy p mm mm' hp1 hp2=>?_) (by lia)) fun h' out so kh' ⟨e,he⟩=>?_
  ·grind
  ·obtain⟨x,hx,rfl⟩:=hacc hw;obtain⟨x2,hx2,rfl⟩:=hacc hy;have q1:=SB.PairAt.inj hp1 (hpa hx);have q2:=SB.PairAt.inj hp2 (hpa hx2);rw[q3p hnd hx hx2 (q1.symm.trans q2)]
  ·have pm:=so.perm;rw[e1] at pm;obtain⟨ws',p1,p2⟩:=SB.perm_map_inv pm rfl;have hrise:=so.rise;rw[p2] at hrise;have hps:=SB.rise_paths (fun w a b ⟨_,x⟩ ⟨_,y⟩=>SB.PairAt.inj x y) (fun x hx=>by
    have hxm:=p1.mem_iff.mp hx;exact⟨⟨_,hpa hxm⟩,Am.mpr ⟨_,hrow hxm,rfl⟩⟩) hrise
   have keep:=fun b o z=>kh' b o (kh b o z);have I1:=I.kept (t':=s.toks) keep;have hlo:=fun{x} hx=>Cq (Nat.le_add_right _ 2) (m.low x (p1.mem_iff.mp hx));have ndA:(ws'.map (·.1)).Nodup:=by
    have:(ws.map (·.1)).Nodup:=m.rise.imp fun h e=>by subst e;exact absurd h (Ep _)
    exact(p1.map (·.1)).nodup_iff.mpr this
   obtain⟨H1,J,sm,ht,hot⟩:=I1.tracks (zs:=ws'.map fun x=>(x.1,[V.ref x.2.1,x.2.2.2.2])) I.sz (by rw[Bd];exact ndA) (fun z hz=>by
    obtain⟨x,hx,rfl⟩:=Am.mp hz;refine⟨hlo hx,I.fpOk (hlo hx) (I.hok.fresh (hlo hx)),by show 2<=sizeLine;decide,[.ref x.2.1,x.2.2.1],.cons rfl (.cons (z3 _ (hwz (p1.mem_iff.mp hx))).2 .nil),?_⟩;exact SB.IsTup.keep (m.at_ x (p1.mem_iff.mp hx)) fun o e=>kh' _ o e)
   have hL1:H1 h.objs.size=none:=by
    rw[hot _ fun z hz e=>?_]
    ·exact I.hok.fresh hz2
    ·obtain⟨x,hx,rfl⟩:=Am.mp hz;obtain⟨o,eo,_⟩:=m.at_ x (p1.mem_iff.mp hx);exact absurd (Ap eo) (by rw[show x.1=h.objs.size from e];exact Ep _)
   have el2:(ws'.map (·.1)).length=es.size:=by rw[Aa,p1.length_eq,<- hzl,<- e2,Aa]
   have eo:out.toList=(ws'.map (·.1)).map Value.ref:=by rw[p2,Bd];rfl
   have J2:=J.track (o:=.lst ((ws'.map (·.1)).map V.ref)) (Cq I.sz hz2) (I.fpOk hz2 hL1) ⟨by rw[Aa,el2];lia,_,e,q6x _,by rw[<- eo];exact he⟩;have sm2:Same H (upd H1 h.objs.size (.lst ((ws'.map (·.1)).map V.ref))):=sm.trans ((Same.refl H1).new hL1);refine⟨.ref h.objs.size,_,J2,rfl,q _ (ws'.map (·.1)) (ws'.map fun x=>x.2.2.2) _ (I.hok.fresh hz2) ?_ (by rw[Bd];exact hps) sm2 q0b (x1u fun x hx=>?_)⟩
   ·have e3:ws.map (fun x=>x.2.2.2)=rows:=by rw[<- z1,<- e2,Bd];rfl
    rw[<- e3];exact p1.map _
   ·refine⟨x.2.1,?_,sm2 _ _ (z3 _ (hwz (p1.mem_iff.mp hx))).1⟩;exact(Same.refl H1).new hL1 _ _ (ht _ (Am.mpr ⟨x,hx,rfl⟩))
open PySem PySem.Spec PyProof.Rows
theorem d_set{σ:St}(hu:A.units+1<cLine)(I:Inv X pins σ H s)(e:H a=some (.dT kvs))(eb:H b=some (.tup (k.map kV)))(l:kvs.length<sizeLine)(rv:RelV v r)(h:∀s',Inv X pins σ (upd H a (.dT (putK kvs k v))) s'->(∀b o,b≠a->s.heap.get? b=some o->s'.heap.get? b=some o)->Q () s'):wpAny (model X.prog X.w) A (dictSet a (.ref b) r) Q E s:=by
 obtain⟨z,hd,xs,rel,dd⟩:=dt_of I.hok e;have hz:xs.length<=sizeLine:=by rw[<- Fj rel];exact z
 have hl:(putK kvs k v).length<=sizeLine:=by have:=q2o kvs k v;lia
 refine wpAny_dictSet_heap (show(Hj (mixKind X.prog X.w)).room A from Nat.lt_of_succ_lt hu) (q7x I.hok eb) dd fun h' dd' hs=>h _ ?_ fun b o hb e=>(hs.2 b hb).trans e;obtain⟨q,es,ep,hq,h2,h3,h4,_,h5⟩:=dd';refine z1i I (by rw[e];exact True.intro) hs ⟨q,hq⟩ ⟨hl,hd,_,(rel.put k eb rv).keeps fun c ys ec=>?_,q,es,ep,hq,h2,h3,h4,h5⟩;rw[q0e (z5a ec e (fun z=>nomatch z))];exact ec
def CompWD(J:It)(g:TG)(tt:TT)(tk tv:TE)(σ0:St)(D:Addr)(Fin:List (List Key×V)->Hp->Prop)(H1:Hp):Prop :=
 ∃W:Nat->Nat->List (List Key×V)->Hp->Prop,(∃m,W 0 m [] (upd H1 D (.dT [])))/\∀i m ys H,W i m ys H->H D=some (.dT ys) /\
  ((J.stop i H/\Fin ys H)\/(J.go i H/\∃N:List (List Key×V)->Hp->Prop,(∀zs H',N zs H'->∃m',m'<m/\W (i+1) m' zs H')/\∀x H',J.yld i H x H'->g x σ0 H' fun σ2 H2=>Keeps0 σ0 σ2/\tt σ2 H2 fun b H3 =>
   if b=true then tk σ2 H3 fun y H4=>tv σ2 H4 fun v H5=>∃k c,y=.ref c/\H5 c=some (.tup (k.map kV))/\H5 D=some (.dT ys)/\ys.length<sizeLine/\N (putK ys k v) (upd H5 D (.dT (putK ys k v)))
   else N ys H3))
theorem z0f{σ:St}{Fin:Addr->List (List Key×V)->Hp->Prop}{RR:Value->Addr->Result->Ae->Prop}(hc:X.calm=true)(hkind:scope.kind=.function)(hnc:∀y∈scope.names,y.2≠.cell)(hc1:∀x c,cl.lookup x=some c->X.env.cells.lookup x=some c)(hc2:∀x,(x,Bb.free)∈scope.names->∃c,cl.lookup x=some c)(co:CapOk X scope caps)(hg:∀C s H,PG (cxComp X (tg++caps.map (·.1)) scope cl C fp s H) target g)(ht:∀C s H,PIfs (cxComp X (tg++caps.map (·.1)) scope cl C fp s H) ifs tt)(he:∀C s H,PE (cxComp X (tg++caps.map (·.1)) scope cl C fp s H) kx tk)(hv:∀C s H,PE (cxComp X (tg++caps.map (·.1)) scope cl C fp s H) vx tv)(hu:X.A.units+1<cLine)(I2:Inv X pins σ H1 s₂)(T:Turn X.prog X.w X.K target J fp it tn)(st:tn 0 s₂.heap)(hf:∀b∈fp,FpOk X pins H1 b)(hw:∀D,H1 D=none->CompWD J g tt tk tv (tg0 tg σ caps) D (Fin D) H1)(hRR:∀D C ys H' s',H1 D=none->Inv X pins σ H' s'->(∃m,s'.heap.Ns C m)->FpOk X pins H' C->Fin D ys H'->RR (.ref D) C (.ok .next) s'):
  wpAny (model X.prog X.w) X.A newDict (fun acc s₃=>wpAny (model X.prog X.w) X.A (newFunctionEnv scope X.env.globals cl [] X.env.qual none .none (some X.env)) (fun cenv s₄ =>
   Fz (model X.prog X.w) X.A (.compStart (.DictComp kx vx [⟨target,iter,ifs,0⟩] scope pos) 0 (.ref it) acc { cenv with scope:=relabel scope X.env }) (RR acc cenv.locals) s₄) E s₃) E s₂:=by
 have I3:Inv X pins σ (upd H1 s₂.heap.objs.size (.dT [])) { s₂ with heap:=s₂.heap.push { cls:=.type "dict",dict:=none,data:=.dict #[] },toks:=s₂.toks }:=I2.laid (fun _ _ q=>Ai _ q) (Ak _) (z2z s₂.heap I2.big);have hD0:=I2.fresh;refine Bt (Pe hnc (by intro y hy;simp at hy) (fun h₁ hns₁ hsb₁=>?_) hkind);dsimp only at hns₁ hsb₁ ⊢;generalize hDd:s₂.heap.objs.size=D at I3 hD0 hns₁ hsb₁ ⊢;generalize hs3:({ s₂ with heap:=s₂.heap.push { cls:=.type "dict",dict:=none,data:=.dict #[] } }:Ae)=s₃ at I3 hns₁ hsb₁ ⊢;have e3:s₂.heap.push { cls:=.type "dict",dict:=none,data:=.dict #[] }=s₃.heap:=by grind
 have o3:({ s₂ with heap:=h₁,toks:=s₂.toks+([]:List (Str×Value)).length }:Ae)={ s₃ with heap:=h₁,toks:=s₂.toks }:=by grind
 have size3:s₃.heap.objs.size=D+1:=by rw[<- e3,Ga,hDd]
 rw[e3] at hns₁ hsb₁ ⊢;have old3:∀b o,s₂.heap.get? b=some o->s₃.heap.get? b=some o:=fun b o e=>by rw[<- e3];exact Ai _ e
 generalize hCd:s₃.heap.objs.size=C at hns₁ hsb₁ ⊢;have hk:=fun b o e=>hsb₁.extBut b o (by rw[<- hCd];exact Bg (Ap e)) (Ai _ e);have fpo:∀b∈fp,∃o,s₂.heap.get? b=some o:=fun b hb=>by obtain⟨o,e,_⟩:=T.obj 0 _ st b hb;exact⟨o,e⟩
 have fpne:∀b∈fp,b≠D:=fun b hb=>by obtain⟨o,e⟩:=fpo b hb;rw[<- hDd];exact Bg (Ap e)
 have hf3:∀b∈fp,FpOk X pins (upd H1 D (.dT [])) b:=fun b hb=>⟨by rw[q0e (fpne b hb)];exact(hf b hb).1,(hf b hb).2⟩
 have IY:=Inv.ofcomp (tk:=s₂.toks) tg I3 hkind hnc hc1 hc2 hf3 (fun b hb=>let ⟨o,e⟩:=fpo b hb;⟨o,old3 b o e⟩) (Io hCd) hns₁ hk co;have FC:FpOk X pins H1 C:=by
  have z:=I3.fpOk (H':=H1) (Io hCd) (I2.hok.fresh (by rw[hDd,<- hCd,size3];exact Lo _));exact z
 generalize hY:cxComp X (tg++caps.map (·.1)) scope cl C fp s₃ (upd H1 D (.dT []))=Y at IY;have hgY:PG Y target g:=by grind
 have htY:PIfs Y ifs tt:=by grind
 have heY:PE Y kx tk:=by grind
 have hvY:PE Y vx tv:=by grind
 have hYp:Y.prog=X.prog:=by rw[<- hY];rfl
 have hYw:Y.w=X.w:=by rw[<- hY];rfl
 have hYK:Y.K=X.K:=by rw[<- hY];rfl
 have hYA:Y.A=X.A:=by rw[<- hY];rfl
 have hYe:Y.env=Ek scope cl C X.env:=by rw[<- hY];rfl
 have hYx:Y.ex=fp:=by rw[<- hY];rfl
 have hYn:Y.pn=[]:=by rw[<- hY];rfl
 have hYc:Y.calm=true:=by rw[<- hY];exact hc
 have hYxe:Y.xe=fun _ _=>False:=by rw[<- hY];rfl
 have fpY:∀{H':Hp},(∀b∈fp,H' b=none)->∀b∈fp,FpOk Y [] H' b:=fun{H'} hn b hb=>by
  refine⟨hn b hb,?_,?_,.inl (by rw[hYx];exact hb),fun x c e=>?_,fun p hp=>?_⟩
  ·have:=(IY.ok.exf b (by rw[hYx];exact hb)).1;exact this
  ·exact IY.ok.exfs b (by rw[hYx];exact hb)
  ·exact(IY.ok.exf b (by rw[hYx];exact hb)).2 x c e
  ·grind
 obtain⟨W,⟨m0,w0⟩,turn⟩:=hw D hD0;have stY:=T.keep 0 _ _ st fun b hb o e=>hk b o (old3 b o e)
 have back:∀{H':Hp} {s':Ae} {σ':St},Inv Y [] σ' H' s'->Inv X pins σ H' s':=fun{H' s' σ'} IE=>by
  have hun:=IE.base;have hos:=IE.os;rw[<- hY] at hun hos;exact I3.call' hos hun (by have z:=IE.hok;rw[hYp,hYw] at z;exact z) IE.bare fun b hb=>⟨(hf b hb).2.2.2.1,(hf b hb).2.1,(hf b hb).2.2.2.2.1,(hf b hb).2.2.2.2.2⟩
 have gY:∀pins s σ H v u Q (E':Value->Ae->Prop),Inv Y pins σ H s->RelV v u->g v σ H Q->wpAny (model X.prog X.w) X.A (assign target (Ek scope cl C X.env) u) (fun _ s'=>∃σ' H',Inv Y pins σ' H' s'/\Q σ' H') E' s:=fun pins s σ H v u Q E' IE r q=>by
  have z:=hgY pins s σ H v u Q IE r q;rw[hYp,hYw,hYA,hYe,hYxe] at z;exact Cb z (fun _ _ x=>x) fun _ _ f=>f.elim
 have tY:∀pins s σ H Q (E':Value->Ae->Prop),Inv Y pins σ H s->tt σ H Q->wpAny (model X.prog X.w) X.A (forIn ifs true fun c r=>if r=true then do let ok<-isTrue c (Ek scope cl C X.env) (eval c (Ek scope cl C X.env));pure (ForInStep.yield ok) else pure (ForInStep.yield r)) (TP Y pins σ Q) E' s:=fun pins s σ H Q E' IE q=>by
  have z:=htY pins s σ H Q IE q;rw[hYp,hYw,hYA,hYe,hYxe] at z;exact Cb z (fun _ _ x=>x) fun _ _ f=>f.elim
 have eY:∀pins s σ H Q (E':Value->Ae->Prop),Inv Y pins σ H s->tk σ H Q->wpAny (model X.prog X.w) X.A (eval kx (Ek scope cl C X.env)) (EP Y pins σ Q) E' s:=fun pins s σ H Q E' IE q=>by
  have z:=heY pins s σ H Q IE q;rw[hYp,hYw,hYA,hYe,hYxe] at z;exact Cb z (fun _ _ x=>x) fun _ _ f=>f.elim
 have vY:∀pins s σ H Q (E':Value->Ae->Prop),Inv Y pins σ H s->tv σ H Q->wpAny (model X.prog X.w) X.A (eval vx (Ek scope cl C X.env)) (EP Y pins σ Q) E' s:=fun pins s σ H Q E' IE q=>by
  have z:=hvY pins s σ H Q IE q;rw[hYp,hYw,hYA,hYe,hYxe] at z;exact Cb z (fun _ _ x=>x) fun _ _ f=>f.elim
 have tiY:∀i pins s σ H (E':Value->Ae->Prop),Inv Y pins σ H s->(∀b∈fp,FpOk Y pins H b)->tn i s.heap->J.go i H ->
   wpAny (model X.prog X.w) X.A (Gz (.ref it)) (fun r s1=>∃u,r=some u /\
    wpAny (model X.prog X.w) X.A (Ii target (.ref it) u) (fun _ s2=>∃x H',Inv Y pins σ H' s2/\RelV x u/\J.yld i H x H'/\tn (i+1) s2.heap/\∀b∈fp,H' b=none) E' s1) E' s:=fun i pins s σ H E' IE hfy st go=>by
  have z:=T.item Y hYp hYw hYK hYc i pins s σ H E' IE hfy st go;rw[hYA] at z;exact z
 have tdY:∀i pins s σ H (E':Value->Ae->Prop),Inv Y pins σ H s->(∀b∈fp,FpOk Y pins H b)->tn i s.heap->J.stop i H ->
   wpAny (model X.prog X.w) X.A (Gz (.ref it)) (fun r s1=>r=none/\Inv Y pins σ H s1) E' s:=fun i pins s σ H E' IE hfy st go=>by
  have z:=T.done Y hYp hYw hYK hYc i pins s σ H E' IE hfy st go;rw[hYA] at z;exact z
 have loop:Fz (model X.prog X.w) X.A (.compLoop (.DictComp kx vx [⟨target,iter,ifs,0⟩] scope pos) 0 (.ref it) (.ref D) (Ek scope cl C X.env)) (RR (.ref D) C) { s₃ with heap:=h₁,toks:=s₂.toks }:=by
  refine codeAny_loop rfl (fun n s'=>∃i ys H',Inv Y [] (tg0 tg σ caps) H' s'/\tn i s'.heap/\(∀b∈fp,H' b=none)/\W i n ys H') ?_ m0 ⟨0,[],_,IY,stY,fun b hb=>(hf3 b hb).1,w0⟩;rintro n s4 ⟨i,ys,H4,I4,st4,fr4,w4⟩;refine wpAny_noted ?_;obtain⟨hHD,alt⟩:=turn i n ys H4 w4;rcases alt with⟨stop,fin⟩|⟨go,N,hN,step⟩
  ·refine Ab (Fm (Ab (thn (tdY i [] s4 _ H4 _ I4 (fpY fr4) st4 stop) fun r s5 ⟨hr,I5⟩=>?_)));subst hr;refine Ac (hRR D C ys H4 s5 hD0 (back I5) ?_ ⟨?_,FC.2⟩ fin)
   ·obtain⟨m,hm,_⟩:=I5.loc;rw[hYe] at hm;exact⟨m,hm⟩
   ·have z:=I5.free;rw[hYe] at z;exact z
  ·refine Ab (Fm (Ab (thn (tiY i [] s4 _ H4 _ I4 (fpY fr4) st4 go) fun r s5 ⟨u,hr,h5⟩=>?_)));subst hr;refine Ab (thn h5 fun _ s6 ⟨x,H6,I6,r6,y6,st6,fr6⟩=>?_);have I6':=I6.pinned (fpY fr6) (T.obj _ _ st6);refine Ab (thn (gY _ s6 _ H6 x u _ _ I6' r6 (step x H6 y6)) fun _ s7 ⟨σ7,H7,I7,kp,q7⟩=>?_);refine Ab (thn (tY _ s7 σ7 H7 _ _ I7 q7) fun b s8 ⟨H8,I8,q8⟩=>?_);have again:∀{H9:Hp} {s9:Ae} {zs:List (List Key×V)} {m':Nat},Inv Y ([]++pinsAt fp s6.heap) σ7 H9 s9->m'<n->W (i+1) m' zs H9->∃m,m<n/\∃i ys H',Inv Y [] (tg0 tg σ caps) H' s9/\tn i s9.heap/\(∀b∈fp,H' b=none)/\W i m ys H':=fun{H9 s9 zs m'} I9 hm w9=>by
    refine⟨m',hm,i+1,zs,H9,I9.unpinned.weak kp.1 kp.2,T.keep _ _ _ st6 fun b hb o e=>(I9.pin (b,o) (Bo _ (Bo _ (q1x hb e)))).1,fun b hb=>?_,w9⟩;obtain⟨o,e,d⟩:=T.obj _ _ st6 b hb;exact(I9.pin (b,o) (Bo _ (Bo _ (q1x hb e)))).2.1
   cases b with
   |true =>
    refine Ab (Ab (thn (eY _ s8 σ7 H8 _ _ I8 q8) fun kv s9 ⟨yy,H9,I9,r9,q9⟩=>?_));refine Ab (Cy (thn (vY _ s9 σ7 H9 _ _ I9 q9) fun vv s10 ⟨v,H10,I10,r10,kk,bb,ey,hbb,hH10,hz10,n10⟩=>?_));subst ey;cases r9;obtain⟨m',hm',w10⟩:=hN _ _ n10;refine Ab (Fm (Cy ?_));have z:=d_set (E:=notedBy (model X.prog X.w) X.A (Ek scope cl C X.env) fun e s'=>RR (.ref D) C (.error e) s') (Q:=fun _ s'=>Inv Y ([]++pinsAt fp s6.heap) σ7 (upd H10 D (.dT (putK ys kk v))) s') hu I10 hH10 hbb hz10 r10 fun s' I' _=>I';rw[hYp,hYw] at z;exact thn z fun _ s11 I11=>Ac ⟨rfl,again I11 hm' w10⟩
   |false =>
    obtain⟨m',hm',w8⟩:=hN _ _ q8;exact Ac ⟨rfl,again I8 hm' w8⟩
 rw[o3];exact codeAny_compStart_dict loop (T.self _ 0 _ _ _ stY loop)
def tCompD(wi:TI)(g:TG)(tt:TT)(tk tv:TE)(tg:List Str)(caps:Caps):TE:=fun σ H Q=>wi σ H fun J H1=>∀D,H1 D=none->CompWD J g tt tk tv (tg0 tg σ caps) D (fun _ H'=>Q (.ref D) H') H1
section
variable{X:Cx}{iter target kx vx:Expr}{ifs:List Expr}{scope:Scope}{pos:Pos}{wi:TI}{g:TG}{tt:TT}{tk tv:TE}
theorem x0g(tg:List Str)(caps:Caps)(hc:X.calm=true)(hi:PI X target iter wi)(hg:∀cl C fp s H,PG (cxComp X (tg++caps.map (·.1)) scope cl C fp s H) target g)(ht:∀cl C fp s H,PIfs (cxComp X (tg++caps.map (·.1)) scope cl C fp s H) ifs tt)(he:∀cl C fp s H,PE (cxComp X (tg++caps.map (·.1)) scope cl C fp s H) kx tk)(hv:∀cl C fp s H,PE (cxComp X (tg++caps.map (·.1)) scope cl C fp s H) vx tv)(hu:X.A.units+1<cLine)(hk:compChk X.N X.env.scope scope caps=true:=by rfl)(hs:∀x,Gw iter X.env x=pure x:=by intro _;rfl):
  PE X (.DictComp kx vx [⟨target,iter,ifs,0⟩] scope pos) (tCompD wi g tt tk tv tg caps):=by
 intro pins s σ H Q I h;obtain⟨hkind,hnc,hnames,hfree,co⟩:=q3n hk;obtain⟨cl,hclos,hc1,hc2⟩:=q8n I hfree;refine Gi rfl hs hclos hkind hnames (thn (hi pins s σ H _ I h) fun v s1 h1=>thn h1 fun itv s2 h2=>?_);obtain⟨it,fp,tn,J,H2,e,I2,T,st2,f2,hw⟩:=h2;subst e;refine z0f hc hkind hnc hc1 hc2 co (fun C s H=>hg cl C fp s H) (fun C s H=>ht cl C fp s H) (fun C s H=>he cl C fp s H) (fun C s H=>hv cl C fp s H) hu I2 T st2 f2 hw ?_;intro D C ys H' s' hD I' hm F fin;obtain⟨m,hm⟩:=hm;refine⟨m,hm,fun h' hsb=>⟨.ref D,H',I'.turned (t':=s'.toks) (fun b o hb e=>(hsb.2 b hb).trans e) F.1 F.2.1 F.2.2.2.1 F.2.2.2.2.1 F.2.2.2.2.2,rfl,fin⟩⟩
def tSetDC(wi:TI)(g:TG)(tt:TT)(tk tv:TE)(tg:List Str)(caps:Caps)(i:Nat):TS:=fun D' σ H=>wi σ H fun J H1=>∀D,H1 D=none->CompWD J g tt tk tv (tg0 tg σ caps) D (fun _ H'=>D'.nx (σ.set i (some (.ref D))) H') H1
theorem x0h{i:Nat}{y:Str}{py spos:Pos}(tg:List Str)(caps:Caps)(hN:X.N.Nodup)(hiN:X.N[i]?=some y)(hx:Loc X.env.scope y)(hc:X.calm=true)(hi:PI X target iter wi)(hg:∀cl C fp s H,PG (cxComp X (tg++caps.map (·.1)) scope cl C fp s H) target g)(ht:∀cl C fp s H,PIfs (cxComp X (tg++caps.map (·.1)) scope cl C fp s H) ifs tt)(he:∀cl C fp s H,PE (cxComp X (tg++caps.map (·.1)) scope cl C fp s H) kx tk)(hv:∀cl C fp s H,PE (cxComp X (tg++caps.map (·.1)) scope cl C fp s H) vx tv)(hu:X.A.units+1<cLine)(hk:compChk X.N X.env.scope scope caps=true:=by rfl)(hs:∀x,Gw iter X.env x=pure x:=by intro _;rfl)(hsw:Kj (.DictComp kx vx [⟨target,iter,ifs,0⟩] scope pos) (some (.Name y py)) spos.line X.env=pure true:=by rfl)(hf:X.fn y=true\/X.env.scope.names.lookup y=some .local:=by first|exact .inl rfl|exact .inr rfl|assumption):
  PS X (.Assign [.Name y py] (.DictComp kx vx [⟨target,iter,ifs,0⟩] scope pos) spos) (tSetDC wi g tt tk tv tg caps i):=by
 intro pins s σ H D' I h;obtain⟨hkind,hnc,hnames,hfree,co⟩:=q3n hk;obtain⟨cl,hclos,hc1,hc2⟩:=q8n I hfree;rw[Ol _ _ _ _ hsw];refine Ab (Fm (Ab ?_));refine Ab (Cb (Gi (use:=some (assign (.Name y py) X.env)) rfl hs hclos hkind hnames
  (thn (hi pins s σ H _ I h) fun v s1 h1=>thn h1 fun itv s2 h2=>?_)) (fun _ s' hq=>Ac (Ac hq)) fun _ _ e=>e)
 obtain⟨it,fp,tn,J,H2,e,I2,T,st2,f2,hw⟩:=h2;subst e;refine z0f (RR:=fun acc C=>compPost (model X.prog X.w) X.A X.xe (some (assign (.Name y py) X.env)) (fun _ s'=>SP X pins D' .next s') acc C) (Fin:=fun D _ H'=>D'.nx (σ.set i (some (.ref D))) H') hc hkind hnc hc1 hc2 co (fun C s H=>hg cl C fp s H) (fun C s H=>ht cl C fp s H) (fun C s H=>he cl C fp s H) (fun C s H=>hv cl C fp s H) hu I2 T st2 f2 hw ?_;intro D C ys H' s' hD I' hm F fin;obtain⟨m,hm⟩:=hm;refine Mh (q5z (v:=.ref D) I' hN hiN hx rfl (fun s'' I'' hsb=>?_) hf);obtain⟨a,sb,ha⟩:=hsb;have hCa:C≠a:=by
  rcases ha with ha|ha
  ·rw[ha];exact F.2.1
  ·exact fun z=>F.2.2.2.2.1 y a ha z.symm
 refine⟨m,hm.sameBut sb hCa,fun h' hs'=>?_⟩;exact⟨_,H',I''.turned (t':=s''.toks) (fun b o hb e=>(hs'.2 b hb).trans e) F.1 F.2.1 F.2.2.2.1 F.2.2.2.2.1 F.2.2.2.2.2,fin⟩
end
theorem z3c{Fin:List (List Key×V)->Hp->Prop}(Pv:Nat->List (List Key×V)->Hp->Prop)(h0:Pv 0 [] (upd H1 D (.dT [])))(hl:∀i ys H,Pv i ys H->H D=some (.dT ys))(hgo:∀i ys H,i<n->Pv i ys H->J.go i H)(hstop:∀ys H,Pv n ys H->J.stop n H)(hs:∀i ys H x H',i<n->Pv i ys H->J.yld i H x H'->g x σ0 H' fun σ2 H2=>Keeps0 σ0 σ2/\tt σ2 H2 fun b H3 =>
   if b=true then tk σ2 H3 fun y H4=>tv σ2 H4 fun v H5=>∃k c,y=.ref c/\H5 c=some (.tup (k.map kV))/\H5 D=some (.dT ys)/\ys.length<sizeLine/\Pv (i+1) (putK ys k v) (upd H5 D (.dT (putK ys k v))) else Pv (i+1) ys H3)(hd:∀ys H,Pv n ys H->Fin ys H):CompWD J g tt tk tv σ0 D Fin H1:=by
 refine⟨fun i m ys H=>m=n-i/\i<=n/\Pv i ys H,⟨n,by simp,Br _,h0⟩,?_⟩;rintro i m ys H ⟨rfl,hi,p⟩;refine⟨hl i ys H p,?_⟩;by_cases hlt:i<n
 ·exact .inr ⟨hgo i ys H hlt p,Pv (i+1),fun zs H' q=>⟨n-(i+1),by lia,rfl,hlt,q⟩,fun x H' y=>hs i ys H x H' hlt p y⟩
 ·have e:i=n:=by lia
  subst e;exact .inl ⟨hstop ys H p,hd ys H p⟩
theorem z4l{K:Ag}{Fin:List (List Key×V)->Hp->Prop}(Pv:Nat->List (List Key×V)->Hp->Prop)(h0:Pv 0 [] (upd H1 D (.dT [])))(hl:∀i ys H,Pv i ys H->H D=some (.dT ys)/\SqL K H a xs)(hs:∀i ys H x,xs[i]?=some x->Pv i ys H->g x σ0 H fun σ2 H2=>Keeps0 σ0 σ2/\tt σ2 H2 fun b H3 =>
   if b=true then tk σ2 H3 fun y H4=>tv σ2 H4 fun v H5=>∃k c,y=.ref c/\H5 c=some (.tup (k.map kV))/\H5 D=some (.dT ys)/\ys.length<sizeLine/\Pv (i+1) (putK ys k v) (upd H5 D (.dT (putK ys k v))) else Pv (i+1) ys H3)(hd:∀ys H,Pv xs.length ys H->Fin ys H):CompWD (Itl K a) g tt tk tv σ0 D Fin H1 :=
 z3c Pv h0 (fun i ys H p=>(hl i ys H p).1) (fun i ys H h p=>⟨xs,xs[i],(hl i ys H p).2,by simp[h]⟩) (fun ys H p=>⟨xs,(hl _ ys H p).2,Ak _⟩)
  (fun i ys H x H' h p y=>by obtain⟨e,y⟩:=y;subst e;exact hs i ys _ x (y xs (hl i ys _ p).2) p) hd
open PySem PySem.Spec PyProof.Rows
structure Mf (K:Ag) (C:Addr) (m qual:Str) (st:Stmt) (ps:List Str):Prop where
 ex:∃f fd,Fun K m qual st f fd/\Meth K C m f/\Binds K fd ps []
structure MCal (P:Program) (w:World) (K:Ag) (mg:Str->Option Value) (base:Heap) (C:Addr) (m:Str) (k:Nat) (ps:List Str) (sp:Sp):Prop where
 ex:∃f fd,FnOk P w K mg base CX0 k f fd ps sp/\Meth K C m f/\Binds K fd ps []
 cl:Cls K C
theorem Mf.cal{K:Ag}{st:Stmt}(D:Mf K C m qual st ps)(cl:Cls K C)(S:FnScope N ps (defScope st))(len:∀vs H Q E,sp vs H Q E->vs.length=ps.length)(hbody:∀(f:Addr) (cdv:Value) (A:Around) (outer:List Env) (s:Ae) (H:Hp) (vs:List V) (Q:VK) (E:XK),Room k (A.deeper (Hy qual (defScope st) s.heap.objs.size f cdv))->sp vs H Q E ->
   ∃t,PSs (cxOf CX0 P w K mg base N qual (defScope st) f cdv A outer s H E).nox (defBody st) t/\t { nx:=fun _ H'=>Q .non H',rt:=Q } (start N vs) H):MCal P w K mg base C m (k+1) ps sp:=by
 obtain⟨f,fd,F,hm,hb⟩:=D.ex;exact⟨⟨f,fd,F.ok S len fun cdv A outer s H vs Q E hr h=>hbody f cdv A outer s H vs Q E hr h,hm,hb⟩,cl⟩
theorem MCal.imp{K:Ag}(M:MCal P w K mg base C m k ps sp)(h:∀vs H Q E,sp' vs H Q E->sp vs H Q E):MCal P w K mg base C m k ps sp':=by
 obtain⟨f,fd,F,r⟩:=M.ex;exact⟨⟨f,fd,F.imp h,r⟩,M.cl⟩
section
variable{X:Cx}{C:Addr}{x m:Str}{k j:Nat}{ps:List Str}{sp:Sp}{p pos apos:Pos}{o e:Expr}{es:List Expr}{ta:TE}{t:TA}
theorem pe_m{pl:Sem Bool}(M:MCal X.prog X.w X.K X.mg X.base C m k ps sp)(hr:Room j X.A)(he:PE X o ta)(ha:PA X (e::es) t)(hjk:k<=j:=by decide)(hst:Bi (e::es) X.env=(false,eval e X.env)::Bi es X.env:=by rfl)(hpl:(Eu pos (Bi es X.env)).any (·.1)=false:=by rfl)(ht:eval (.Call (.Attribute o m apos) (e::es) [] pos) X.env=(do
   let ov<-eval o X.env
   Mr apos.atName
   let (f,first)<-Kk [ov] (Lr ov m pl)
   Rr pos f first (Eu pos (Bi (e::es) X.env)) (My pos (Jw [] X.env))):=by rfl):PE X (.Call (.Attribute o m apos) (e::es) [] pos) (tMeth C m sp [] E0 ta t):=by
 obtain⟨f,fd,F,hm,hb⟩:=M.ex;exact x2t he M.cl hm F (hr.mono hjk) hb .nil pass0 ha hst hpl ht
theorem q3u{pl:Sem Bool}(M:MCal X.prog X.w X.K X.mg X.base C m k ps sp)(hr:Room j X.A)(he:PE X o ta)(hjk:k<=j:=by decide)(ht:eval (.Call (.Attribute o m apos) [] [] pos) X.env=(do
   let ov<-eval o X.env
   Mr apos.atName
   let (f,first)<-Kk [ov] (Lr ov m pl)
   Rr pos f first (Eu pos (Bi [] X.env)) (My pos (Jw [] X.env))):=by rfl):PE X (.Call (.Attribute o m apos) [] [] pos) (tMeth C m sp [] E0 ta tNil):=by
 obtain⟨f,fd,F,hm,hb⟩:=M.ex;exact z9k he M.cl hm F (hr.mono hjk) hb .nil pass0 ht
end
structure Kf (K:Ag) (mg:Str->Option Value) (C:Addr) (x qual:Str) (st:Stmt) (ps:List Str):Prop where
 ex:∃(f:Addr) (fd:Ip) (oc:Value) (od:Option Addr) (dV kV doc pm:Value) (an:Option Addr) (cdv ct:Value) (osl:Array (Option Value)),fd=Gg "__init__" qual (defArgs st) (defBody st) (defScope st) dV kV doc pm an cdv ct /\
  K.lookup f=some ⟨oc,od,.func fd,osl⟩/\Hq K cdv qual=true/\Mk K C f/\Binds K fd ps []/\Binds K fd ps [.bool false]
 at_:mg x=some (.ref C)
 cl:Cls K C
structure KCal (P:Program) (w:World) (K:Ag) (mg:Str->Option Value) (base:Heap) (C:Addr) (x:Str) (k:Nat) (ps:List Str) (sp:Sp):Prop where
 ex:∃f fd,FnOk P w K mg base CX0 k f fd ps sp/\Mk K C f/\Binds K fd ps []/\Binds K fd ps [.bool false]
 at_:mg x=some (.ref C)
 cl:Cls K C
theorem Kf.cal{K:Ag}{st:Stmt}(D:Kf K mg C x qual st ps)(S:FnScope N ps (defScope st))(len:∀vs H Q E,sp vs H Q E->vs.length=ps.length)(hbody:∀(f:Addr) (cdv:Value) (A:Around) (outer:List Env) (s:Ae) (H:Hp) (vs:List V) (Q:VK) (E:XK),Room k (A.deeper (Hy qual (defScope st) s.heap.objs.size f cdv))->sp vs H Q E ->
   ∃t,PSs (cxOf CX0 P w K mg base N qual (defScope st) f cdv A outer s H E).nox (defBody st) t/\t { nx:=fun _ H'=>Q .non H',rt:=Q } (start N vs) H):KCal P w K mg base C x (k+1) ps sp:=by
 obtain⟨f,fd,oc,od,dV,kV,doc,pm,an,cdv,ct,osl,rfl,lk,hcd,M,b1,b2⟩:=D.ex;refine⟨⟨f,_,x2u lk hcd S len fun A outer s H vs Q E hr hsp=>?_,M,b1,b2⟩,D.at_,D.cl⟩;obtain⟨t,h,q⟩:=hbody f cdv A outer s H vs Q E hr hsp;exact⟨t,h.nox,q⟩
section
variable{X:Cx}{C:Addr}{x:Str}{k j:Nat}{ps:List Str}{sp:Sp}{p pos:Pos}{e:Expr}{es:List Expr}{t:TA}
theorem pe_k(M:KCal X.prog X.w X.K X.mg X.base C x k ps sp)(hr:Room j X.A)(ha:PA X (e::es) t)(hjk:k+1<=j:=by decide)(hg:Gl X x:=by rfl)(hdb:(x==("__debug__" : Str))=false:=by decide)(he:Bi (e::es) X.env=(false,eval e X.env)::Bi es X.env:=by rfl)(hpl:(Eu pos (Bi es X.env)).any (·.1)=false:=by rfl):PE X (.Call (.Name x p) (e::es) [] pos) (tMake C sp [] E0 t):=by
 obtain⟨f,fd,F,m,b1,_⟩:=M.ex;exact z5m m F (hr.mono hjk) hg M.at_ b1 .nil pass0 ha hdb he hpl
end
theorem z0g{K:Mw}{g:TG}{tb:TS}{D:Ends}(Pv:Nat->St->Hp->Prop)(h0:Pv 0 σ H)(hl:∀i σ H,Pv i σ H->SqL K H a xs)(hs:∀i x T σ H,xs[i]?=some x->Pv i σ H->H T=none->g (.ref T) σ (upd H T (.tup [.int i,x])) fun σ2 H2=>tb { D with nx:=Pv (i+1),ct:=Pv (i+1),bk:=D.nx } σ2 H2)(hd:∀σ H,Pv xs.length σ H->D.nx σ H):
  ∃W:Nat->Nat->St->Hp->Prop,(∃m,W 0 m σ H)/\∀i m σ H,W i m σ H ->
   ((Ite (Itl K a)).stop i H/\D.nx σ H)\/((Ite (Itl K a)).go i H/\∃N:St->Hp->Prop,(∀σ' H',N σ' H'->∃m',m'<m/\W (i+1) m' σ' H')/\∀v H',(Ite (Itl K a)).yld i H v H'->g v σ H' fun σ2 H2=>tb { D with nx:=N,ct:=N,bk:=D.nx } σ2 H2):=by
 refine x1o Pv h0 (fun i σ H h p=>⟨xs,xs[i],hl i σ H p,by simp[h]⟩) (fun σ H p=>⟨xs,hl _ σ H p,Ak _⟩) (fun i v σ H H' h p yl=>?_) hd;obtain⟨T,y,hT,⟨_,hy⟩,rfl,rfl⟩:=yl;exact hs i y T σ H (hy xs (hl i σ H p)) p hT
open PySem PySem.Spec PyProof.Rows
def rCatP:R2:=fun x y H Q=>∃a b xs ys,x=.ref a/\y=.ref b/\H a=some (.tup xs)/\H b=some (.tup ys)/\xs.length+ys.length<=sizeLine/\∀p H',Same H H'->H' p=some (.tup (xs++ys))->(∀c,c≠p->H' c=H c)->Q (.ref p) H'
theorem z1p:OpR X (Ej .Add) rCatP:=by
 intro pins s σ H x y v u Q I rx ry h;obtain⟨a,b,xs,ys,rfl,rfl,ha,hb,hz,q⟩:=h;cases rx;cases ry;obtain⟨za,its,r1,p1⟩:=I.hok a _ ha;obtain⟨zb,its2,r2,p2⟩:=I.hok b _ hb;by_cases hx:its=[]
 ·have hx':xs=[]:=r1.nil_iff.mp hx;obtain⟨⟨cls,dd,data,sl⟩,ho,hc,n,hd⟩:=id p1;obtain⟨⟨cls2,dd2,data2,sl2⟩,ho2,hc2,n2,hd2⟩:=id p2;subst hc hd hc2 hd2;refine Qk ⟨_,ho,rfl⟩ ⟨_,ho2,rfl⟩ Na Po Jx Jo (Iv _ _) (tuple_addW0 a b its.toArray its2.toArray n n2 dd dd2 sl sl2 (by simp[hx])) ⟨ho,ho2,?_⟩;exact⟨.ref b,H,I,rfl,q b H (Same.refl H) (by rw[hx',Sv];exact hb) fun _ _=>rfl⟩
 ·refine HT.cat_tup p1 p2 hx (fun z=>?_) (fun z=>?_) (by rw[<- r1.length,<- r2.length];exact hz)
  ·have hy:ys=[]:=r2.nil_iff.mp z;exact⟨.ref a,H,I,rfl,q a H (Same.refl H) (by rw[hy,Bv];exact ha) fun _ _=>rfl⟩
  ·refine⟨.ref s.heap.objs.size,_,I.laid (t':=s.toks) (fun b ob q=>Ai _ q) (Ak _) ?_,rfl,q _ _ ((Same.refl H).new I.fresh) q0b fun c hc=>q0e hc⟩;exact⟨by rw[Af];exact hz,_,r1.append r2,Ta _ _⟩
theorem q2k{X:Cx}{e:Expr}{f:Str}{pos:Pos}{ta:TE}(K:Ag)(hK:X.K=K)(he:PE X e ta)(hb:Gm e f X.env (eval e X.env)=eval e X.env:=by rfl):PE X (.Attribute e f pos) (tFld K ta f):=by subst hK;exact pe_fld he hb
theorem q5p{X:Cx}{o value:Expr}{f:Str}{pos pos':Pos}{ta tv:TE}(K:Ag)(hK:X.K=K)(ha:PE X o ta)(hv:PE X value tv)(hs:Kj value (some (.Attribute o f pos')) pos.line X.env=pure false:=by rfl):PS X (.Assign [.Attribute o f pos'] value pos) (sFld K ta tv f):=by subst hK;exact ps_fld ha hv hs
end L2
namespace HM
open PySem PySem.Spec PyProof.Rows L2 TX SB
def NSs:Str:=Ad "abcdefghijklmnopqrstuvwxyzABCDEFGHIJKLMNOPQRSTUVWXYZ0123456789-_."
abbrev NS:List Nat:=tl NSs
theorem x1v:∀c∈NS,c<128:=by decide +kernel
structure okN (n:List Nat):Prop where
 one:1<=n.length
 few:n.length<=12
 all:∀c∈n,c∈NS
theorem okN.low(h:okN n):∀c∈n,c<128:=fun c hc=>x1v c (h.all c hc)
structure okP (p:Pth):Prop where
 ne:p≠[]
 few:p.length<=6
 all:∀n∈p,okN n
theorem okP.low(h:okP p):Low p:=fun n hn=>(h.all n hn).low
abbrev Rw:=Pth×Option Int
def mV:Option Int->V
 |none=>.non
 |some i=>.int i
def rR(r:Rw):HRow:=(r.1,mV r.2)
theorem mV_inj(h:mV a=mV b):a=b:=by
 cases a with
 |none=>cases b with
  |none=>rfl
  |some j=>cases h
 |some i=>cases b with
  |none=>cases h
  |some j=>cases h;rfl
theorem mV_none:mV a=.non↔a=none:=⟨fun h=>mV_inj (b:=none) h,fun h=>by rw[h];rfl⟩
def lowN(n:List Nat):List Nat:=n.map lo1
def fold(bl:Bool)(p:Pth):Pth:=if bl then p.dropLast++[lowN (p.getLastD [])] else p
theorem x1w(p:Pth):fold false p=p:=rfl
theorem z0h(p:Pth):fold true p=p.dropLast++[lowN (p.getLastD [])]:=rfl
theorem z1q{p:Pth}(h:p≠[]):p=p.dropLast++[p.getLastD []]:=by
 have e:=List.dropLast_concat_getLast h;have e2:p.getLastD []=p.getLast h:=by rw[Ef,Et h];rfl
 rw[e2];exact e.symm
theorem z1r{p q:Pth}(hp:p≠[])(hq:q≠[]):fold bl p=fold bl q↔p.dropLast=q.dropLast/\(if bl then lowN (p.getLastD [])=lowN (q.getLastD []) else p.getLastD []=q.getLastD []):=by
 cases bl with
 |true =>
  rw[z0h,z0h];constructor
  ·simp_all
  ·simp_all
 |false =>
  rw[x1w,x1w];constructor
  ·grind
  ·rintro⟨h1,h2⟩;rw[z1q hp,z1q hq,h1,h2]
structure Hl (bl:Bool) (rows:List Rw):Prop where
 ok:∀r∈rows,okP r.1
 nd:(rows.map fun r=>fold bl r.1).Nodup
 dr:∀r∈rows,r.1.dropLast=[]\/(r.1.dropLast,none)∈rows
theorem Hl.perm(h:Hl bl rows)(p:rows'.Perm rows):Hl bl rows' :=
 ⟨fun r hr=>h.ok r (p.mem_iff.mp hr),(p.map _).nodup_iff.mpr h.nd,fun r hr=>(h.dr r (p.mem_iff.mp hr)).imp id fun z=>p.mem_iff.mpr z⟩
theorem Hl.nil(bl:Bool):Hl bl []:=⟨(fun _ h=>nomatch h),.nil,(fun _ h=>nomatch h)⟩
theorem q2u{α β:Type}{f:α->β}:∀{l:List α},(l.map f).Nodup->l.Nodup
 |[],_=>.nil
 |a::l,h=>by
  rw[Ao,Cg] at h;exact Cg.mpr ⟨fun z=>h.1 (Am.mpr ⟨a,z,rfl⟩),q2u h.2⟩
theorem Hl.paths(h:Hl bl rows):(rows.map (·.1)).Nodup:=by
 have e:rows.map (fun r=>fold bl r.1)=(rows.map (·.1)).map (fold bl):=by simp_all
 have:=h.nd;rw[e] at this;exact q2u this
abbrev Zr:=Addr×Rw
structure RL (H:Hp) (L:Addr) (zs:List Zr):Prop where
 at_:H L=some (.lst (zs.map fun z=>V.ref z.1))
 pr:∀z∈zs,PR H z.1 (rR z.2)
theorem PR.same(h:PR H a r)(k:∀T xs,H T=some (.tup xs)->H' T=some (.tup xs)):PR H' a r:=let ⟨b,h1,h2⟩:=h;⟨b,k _ _ h1,k _ _ h2⟩
theorem RL.same(h:RL H L zs)(s:Same H H'):RL H' L zs:=⟨s _ _ h.at_,fun z hz=>PR.same (h.pr z hz) fun T xs e=>s _ _ e⟩
theorem tupFd(F:FeedAt H a b)(fd:Fd a b H H'):∀T xs,H T=some (.tup xs)->H' T=some (.tup xs):=fun T xs e=>fd.at e fun z=>by
 subst z;obtain⟨i,j,q⟩:=F.fa;rw[q] at e;cases e
theorem RL.fd(h:RL H L zs)(F:FeedAt H a b)(fd:Fd a b H H')(hL:L≠a):RL H' L zs:=⟨fd.at h.at_ hL,fun z hz=>PR.same (h.pr z hz) (tupFd F fd)⟩
theorem zs_of:∀{as:List Addr} {rs:List HRow} {rows:List Rw},PRs H as rs->rs=rows.map rR->∃zs:List Zr,zs.map (·.1)=as/\zs.map (·.2)=rows/\∀z∈zs,PR H z.1 (rR z.2)
 |_,_,[],.nil,_=>⟨[],rfl,rfl,(fun _ h=>nomatch h)⟩
 |_,_,_::_,.nil,e=>by cases e
 |_,_,[],.cons _ _,e=>by cases e
 |a::as,_,r::rows,.cons h t,e=>by
  rw[Ao] at e;injection e with e1 e2;obtain⟨zs,z1,z2,z3⟩:=zs_of t e2;refine⟨(a,r)::zs,by rw[Ao,z1],by rw[Ao,z2],fun z hz=>?_⟩;rcases Ba.mp hz with rfl|hz
  ·rw[<- e1];exact h
  ·exact z3 z hz
theorem q6y:∀{l m:List Pth},l.Perm m->l.Nodup->l.Pairwise (fun a b=>pLt b a=false)->m.Pairwise (fun a b=>pLt b a=false)->l=m
 |[],m,p,_,_,_=>(List.perm_nil.mp p.symm).symm
 |a::l,[],p,_,_,_=>absurd (p.length_eq) (by simp)
 |a::l,b::m,p,nd,h1,h2=>by
  obtain⟨n1,n2⟩:=Cg.mp nd;obtain⟨a1,a2⟩:=Jh.mp h1;obtain⟨b1,b2⟩:=Jh.mp h2;have e:a=b:=by
   have ha:=p.mem_iff.mp Aj;have hb:=p.mem_iff.mpr Aj;rcases Ba.mp ha with e|ha
   ·exact e
   ·rcases Ba.mp hb with e|hb
    ·exact e.symm
    ·exact z1m (b1 a ha) (a1 b hb)
  subst e;rw[q6y ((List.perm_cons a).mp p) n2 a2 b2]
def dMk:Option Int->PyData
 |none=>.none
 |some i=>.int i
def dRw(r:Rw):PyData:=.tuple [.tuple (dP r.1),dMk r.2]
theorem x3k{K:Ag}(m:Option Int):Dt K H (mV m) (dMk m):=by
 cases m with
 |none=>exact .non
 |some i=>exact .int i
theorem q5u{K:Ag}{H:Hp}:∀p:Pth,Dts K H (vP p) (dP p)
 |[]=>.nil
 |n::p=>.cons (.str _) (q5u p)
theorem q4y{K:Ag}(h:H a=some (.tup (vP p))):Dt K H (.ref a) (.tuple (dP p)):=.tup (SqT.of h) (q5u p)
theorem dt_row{K:Ag}(h:PR H a (rR r)):Dt K H (.ref a) (dRw r):=by
 obtain⟨b,h1,h2⟩:=h;exact .tup (SqT.of h1) (.cons (q4y h2) (.cons (x3k _) .nil))
theorem z3d{K:Ag}{H:Hp}:∀{zs:List Zr},(∀z∈zs,PR H z.1 (rR z.2))->Dts K H (zs.map fun z=>V.ref z.1) (zs.map fun z=>dRw z.2)
 |[],_=>.nil
 |z::zs,h=>.cons (dt_row (h z Aj)) (z3d fun x hx=>h x (Ah _ hx))
theorem RL.dt{K:Ag}(h:RL H L zs):Dt K H (.ref L) (.list (zs.map fun z=>dRw z.2)):=.lst (SqL.of h.at_) (z3d h.pr)
theorem x3l(m:Option Int):(dMk m).canLay0=true:=by cases m<;>simp[dMk,Gb]
theorem q4z(h:Low p):(PyData.tuple (dP p)).canLay0=true:=by simp only[Ht,z0b h]
theorem x3m(h:Low r.1):(dRw r).canLay0=true:=by
 have:=q4z h;simp only[dRw,Gb,Dw] at this ⊢;rw[this,x3l];rfl
theorem z3e:∀{rows:List Rw},(∀r∈rows,Low r.1)->Dw (rows.map dRw)=true
 |[],_=>by simp[Dw]
 |r::rows,h=>by
  simp only[Ao,Dw];rw[x3m (h r Aj),z3e fun x hx=>h x (Ah _ hx)];rfl
theorem z6z{rows:List Rw}(h:∀r∈rows,Low r.1):(PyData.list (rows.map dRw)).canLay0=true:=by simp only[Gb];exact z3e h
theorem z7a(m:Option Int):(dMk m).depth<=1:=by cases m<;>simp[dMk,Ji]
theorem q4r(p:Pth):(PyData.tuple (dP p)).depth<=2:=by
 have h1:(PyData.tuple (dP p)).depth=Ee (dP p)+1:=by simp only[Lx]
 have:=q5t p;lia
theorem z7b(r:Rw):(dRw r).depth<=3:=by
 have h1:=q4r r.1;have h2:=z7a r.2;have e:(dRw r).depth=max (PyData.tuple (dP r.1)).depth (max (dMk r.2).depth 0)+1:=by simp only[dRw,Ji,Fh]
 lia
theorem q8d:∀rows:List Rw,Fh (rows.map dRw)<=3
 |[]=>by simp[Fh]
 |r::rows=>by
  have h1:=z7b r;have h2:=q8d rows;simp only[Ao,Fh];lia
theorem x0i(rows:List Rw):(PyData.list (rows.map dRw)).depth<=100:=by
 have:=q8d rows;simp only[Ji];lia
theorem z0i(p q:Pth):Fs (.tuple (dP p)) (.tuple (dP q))=decide (p=q):=by simp only[Fs,q6v]
theorem q8e(zs:List Zr):zs.map (fun z=>dRw z.2)=(zs.map (·.2)).map dRw:=by rw[Bd];rfl
theorem q5v{K:Ag}(ha:H a=some (.tup (vP p)))(hb:H b=some (.tup (vP q)))(lp:Low p)(lq:Low q)(k:Q (.bl (!decide (p=q))) H):rNeU K (.ref a) (.ref b) H Q:=by
 refine .inr ⟨_,_,q4y ha,q4y hb,q4z lp,q4z lq,by have:=q4r p;lia,?_⟩;rw[z0i];exact k
theorem x3n{K:Ag}(ha:RL H a zs)(hb:RL H b zs')(e:zs.map (·.2)=zs'.map (·.2))(l:∀r∈zs.map (·.2),Low r.1)(k:Q (.bl false) H):rNeU K (.ref a) (.ref b) H Q:=by
 refine .inr ⟨_,_,ha.dt,hb.dt,?_,?_,?_,?_⟩
 ·rw[q8e];exact z6z l
 ·rw[q8e,<- e];exact z6z l
 ·rw[q8e,q8e];have:=x0i (zs.map (·.2));lia
 ·rw[q8e,q8e,<- e,SeqAt.eqv_refl _ (z6z l)];exact k
end HM
namespace L2
open PySem PySem.Spec PyProof.Rows SB
def Itm(d:Addr)(ob:Obj)(kvs:List (List Key×V)):It :=
 ⟨fun i H=>H d=some (.frz ob (.dT kvs))/\i<kvs.length,fun i H x H'=>∃k v b T,kvs[i]?=some (k,v)/\H b=some (.tup (k.map kV))/\H T=none/\x=.ref T/\H'=upd H T (.tup [.ref b,v]),fun i H=>H d=some (.frz ob (.dT kvs))/\kvs.length<=i⟩
theorem z7c(ok:HOk P w H h)(hfz:H d=some (.frz ob (.dT kvs)))(hob:ob.data=.dict ens ep):
  h.get? d=some ob/\ens.size=kvs.length/\∀{i:Nat} {k:List Key} {v:V} (hlt:i<ens.size),kvs[i]?=some (k,v)->∃b,ens[i].key=.ref b/\H b=some (.tup (k.map kV))/\RelV v ens[i].val:=by
 obtain⟨hget,z,hsys,xs,hp,o,es,ep',h1,h2,h3,h4,h5⟩:=(show ObjOk P w H h d (.frz ob (.dT kvs)) from ok d _ hfz)
 rw[hget] at h1;cases h1;rw[hob] at h3;cases h3;have hl:=Fj hp;have hz:ens.size=xs.length:=by rw[<- Ea,h4,Aa]
 refine⟨hget,by lia,fun{i k v} hlt hk=>?_⟩;obtain⟨q,hq,e1,e2,e3⟩:=Dp.at' hp hk;have:ens.toList[i]?=some (Oz (Hj (mixKind P w)) q):=by simp_all
 rw[Fg,Dj hlt] at this;injection this with this;refine⟨q.2.1,?_,e2,?_⟩
 ·rw[this];rfl
 ·rw[this];exact e3
theorem q7l:Pf table "dict_itemiterator.__iter__" = some Dm.«dict_keyiterator.__iter__» := entryFor_alias (id' := "dict_keyiterator.__iter__") (by kernel_rfl) rfl (by decide +kernel) (by kernel_rfl)
theorem ers_map{α β:Type}(f:α->β):∀(l:List α) (k:Nat),(l.map f).eraseIdx k=(l.eraseIdx k).map f
 |[],_=>rfl
 |_::_,0=>rfl
 |a::l,k+1=>by show f a::(l.map f).eraseIdx k=f a::(l.eraseIdx k).map f;rw[ers_map f l k]
theorem q2v(x:PySem.Rv.ItemIt s.heap it d i n ep)(h:Q (.ref it) s):wpAny (model prog w) A (Lp (.ref it)) Q E s:=by
 refine Jt x.typeIs Lc (Bx Lc x.typeIs q7l ?_ (F.args_dict_itemiterator_iter_1 _));exact Ac ⟨_,rfl, "dict_itemiterator",_,x.typeIs,Ct.lookup,h⟩
theorem z4m{K:Ag}(d it:Addr)(ob:Obj)(kvs:List (List Key×V))(ens:Array Lq)(ep:Nat)(hob:ob.data=.dict ens ep):
  Turn P w K tg (Itm d ob kvs) [it] it (fun i h=>PySem.Rv.ItemIt h it d i ens.size ep) where
 mem:=by simp
 obj:=fun i h st b hb=>by
  have e:b=it:=by grind
  subst e;obtain⟨f0,f1,ok,ov,e,_⟩:=st;exact⟨_,e,fun v z=>by cases z⟩
 keep:=fun i h h' st k=>st.keep fun o e=>k it (by simp) o e
 item:=by
  intro X hP hw hK hc i pins s σ H E I hf st hg;obtain⟨hfz,hi⟩:=hg;obtain⟨hget,hsz,hkey⟩:=z7c I.hok hfz hob;obtain⟨f0,f1,f2,f3,f4,f5⟩:=hf it (by simp);obtain⟨⟨k,v⟩,hkv⟩:∃p,kvs[i]?=some p:=⟨kvs[i],by simp[hi]⟩
  have hlt:i<ens.size:=by lia
  obtain⟨b,hb1,hb2,hb3⟩:=hkey hlt hkv;have ilt:=st.lt;refine PySem.Rv.items_item st hget hob hlt fun h' st' ht hn sb=>?_
  refine⟨_,rfl,PySem.Rv.items_go st' fun h2 st2 sb2=>?_⟩;have I1:Inv X pins σ H { s with heap:=h2 }:=I.turned (t':=s.toks) (fun b o hb e=>(sb2.2 b hb).trans (sb b o hb e)) f0 f1 f3 f4 f5;have FT:=I.fpOk (Ak _) I.fresh;have hT2:h2.get? s.heap.objs.size=some { cls:=.type "tuple",data:=.seq #[ens[i].key,ens[i].val] }:=(sb2.2 _ (Ge ilt)).trans ht;have I2:Inv X pins σ (upd H s.heap.objs.size (.tup [.ref b,v])) { s with heap:=h2 } :=
   I1.track I.sz FT ⟨by show 2<=sizeLine;decide,[ens[i].key,ens[i].val],.cons hb1 (.cons hb3 .nil),⟨_,hT2,rfl,_,rfl⟩⟩
  refine⟨.ref s.heap.objs.size,_,I2,rfl,⟨k,v,b,_,hkv,hb2,I.fresh,rfl,rfl⟩,st2,fun c hcc=>?_⟩;have e:c=it:=by grind
  subst e;rw[q0e (Bg ilt)];exact f0
 done:=by
  intro X hP hw hK hc i pins s σ H E I hf st hg;obtain⟨hfz,hi⟩:=hg;obtain⟨hget,hsz,hkey⟩:=z7c I.hok hfz hob;obtain⟨f0,f1,f2,f3,f4,f5⟩:=hf it (by simp);exact PySem.Rv.items_end (I.ok.hd hc) st hget hob (by lia) fun h' eb=>⟨rfl,I.turned (t':=s.toks) (fun b o hb e=>eb b o hb e) f0 f1 f3 f4 f5⟩
 self:=fun _ _ _ _ _ st h=>q2v st h
section
variable{X:Cx}{tg l:Expr}{tl:TE}
def iItemsT(tl:TE):TI:=fun σ H R=>tl σ H fun x H1=>∃v d kvs,x=.ref v/\H1 v=some (vwO v d)/\H1 d=some (.dT kvs)/\∀ob,R (Itm d ob kvs) (upd H1 d (.frz ob (.dT kvs)))
theorem z7d(hl:PE X l tl):PI X tg l (iItemsT tl):=by
 intro pins s σ H R I h;refine thn (hl pins s σ H _ I h) fun v s1 ⟨x,H1,I1,r1,q1⟩=>?_;obtain⟨vw,d,kvs,e,hv,hd,q⟩:=q1;subst e;cases r1;obtain⟨z,hsys,xs,hp,ob,ens,ep,ho,hex,hob,h4,h5⟩:=(show ObjOk X.prog X.w H1 s1.heap d (.dT kvs) from I1.hok d _ hd)
 refine PySem.Rv.items_iter (I1.hok vw _ hv).1 ho hob ?_;have hne:=Bg (Ap ho);have I2:=(I1.freezeK hd ho (.inr ⟨_,rfl⟩)).kept (t':=s1.toks) (h':=s1.heap.push (PySem.Rv.itemObj d 0 ens.size ep .none (.bool false) .none .none)) fun b o e=>Ai _ e;refine⟨s1.heap.objs.size,[s1.heap.objs.size],_,_,_,rfl,I2,z4m d _ ob kvs ens ep hob,⟨_,_,_,_,Ar _ rfl,.inl rfl⟩,fun b hb=>?_,q ob⟩;have e:b=s1.heap.objs.size:=by grind
 subst e;exact I1.fpOk (Ak _) (by rw[q0e (Dd hne)];exact I1.hok.fresh (Ak _))
theorem itm_k(K:Ag)(hK:X.K=K)(hl:PE X l tl):PI X tg l (iItemsT tl):=z7d hl
end
def tThawV(h₀:Hp)(t:TE):TE:=fun σ H Q=>∃d,(∀o v,h₀ d≠some (.frz o v))/\t σ H fun x H'=>∃ob u,H' d=some (.frz ob u)/\Q x (upd H' d u)
theorem x3o{X:Cx}{e:Expr}{t:TE}(h₀:Hp)(hH:X.H₀=h₀)(h:PE X e t):PE X e (tThawV h₀ t):=by
 subst hH;intro pins s σ H Q I q;obtain⟨d,hd,q⟩:=q;exact thn (h pins s σ H _ I q) fun v s1 ⟨x,H1,I1,r1,ob,u,e1,q1⟩=>⟨x,_,I1.thaw e1 hd,r1,q1⟩
end L2
namespace HM
open PySem PySem.Spec PyProof.Rows L2 TX SB
def carry(p q x:Pth):Pth:=if x.take p.length=p then q++x.drop p.length else x
def cR(p q:Pth)(r:Rw):Rw:=(carry p q r.1,r.2)
def mvR(p q:Pth)(r:Rw):Rw:=if r.1=p then(q,r.2) else r
theorem Hl.anc(h:Hl bl rows):∀(n:Nat) (r:Rw),r∈rows->r.1.length<=n->∀k,1<=k->k<r.1.length->(r.1.take k,none)∈rows
 |0,r,_,hl,k,_,hk=>absurd hk (by lia)
 |n+1,r,hr,hl,k,h1,hk=>by
  have hd:r.1.dropLast=r.1.take (r.1.length-1):=Fi;have hne:r.1.dropLast≠[]:=fun z=>by
   have:=congrArg List.length z;simp at this;lia
  have hm:=(h.dr r hr).resolve_left hne;by_cases e:k=r.1.length-1
  ·grind
  ·have:=h.anc n (r.1.dropLast,none) hm (by rw[Ds];lia) k h1 (by rw[Ds];lia);rw[show((r.1.dropLast,(none:Option Int)):Rw).1=r.1.dropLast from rfl,hd,Hg,Gu (by lia)] at this;exact this
theorem Hl.one(h:Hl bl rows)(h1:(p,a)∈rows)(h2:(p,b)∈rows):a=b:=by
 have:=q3p h.paths h1 h2 rfl;cases this;rfl
theorem Hl.slip(h:Hl bl rows)(hp:(p,some m)∈rows)(hr:r∈rows)(ht:r.1.take p.length=p):r.1=p:=by
 by_cases hl:p.length<r.1.length
 ·have h0:=Bs.mpr (h.ok _ hp).ne;have:=h.anc _ r hr (Ak _) p.length h0 hl;rw[ht] at this;cases h.one hp this
 ·grind
theorem Hl.carry(h:Hl bl rows)(hp:(p,some m)∈rows):rows.map (cR p q)=rows.map (mvR p q):=by
 refine Cu fun r hr=>?_;unfold cR mvR HM.carry;by_cases e:r.1=p
 ·simp_all
 ·rw[if_neg e,if_neg fun z=>e (h.slip hp hr z)]
structure Free (bl:Bool) (rows:List Rw) (p q:Pth):Prop where
 ok:okP q
 dr:q.dropLast=[]\/(q.dropLast,none)∈rows
 un:∀r∈rows,fold bl r.1=fold bl q->r.1=p
theorem q2c{α β:Type}{f:α->β}:∀{l:List α},l.Nodup->(∀x∈l,∀y∈l,f x=f y->x=y)->(l.map f).Nodup
 |[],_,_=>.nil
 |a::l,nd,h=>by
  rw[Cg] at nd;rw[Ao,Cg];refine⟨fun z=>?_,q2c nd.2 fun x hx y hy=>h x (Ah _ hx) y (Ah _ hy)⟩;obtain⟨y,hy,e⟩:=Am.mp z;exact nd.1 (by rw[<- h y (Ah _ hy) a Aj e];exact hy)
theorem Hl.nodup(h:Hl bl rows):rows.Nodup:=q2u h.nd
theorem Hl.eq(h:Hl bl rows)(hr:r∈rows)(hs:s∈rows)(e:fold bl r.1=fold bl s.1):r=s:=q3p (f:=fun r:Rw=>fold bl r.1) h.nd hr hs e
theorem Hl.eqP(h:Hl bl rows)(hr:r∈rows)(hs:s∈rows)(e:r.1=s.1):r=s:=h.eq hr hs (by rw[e])
theorem q8r(h:r.1=p):mvR p q r=(q,r.2):=if_pos h
theorem q6z(h:r.1≠p):mvR p q r=r:=if_neg h
theorem Hl.moved(h:Hl bl rows)(hp:(p,some m)∈rows)(f:Free bl rows p q):Hl bl (rows.map (mvR p q)):=by
 have dk:∀x:Pth,(x,(none:Option Int))∈rows->(x,none)∈rows.map (mvR p q):=fun x hx=>Am.mpr ⟨_,hx,q6z fun e=>by
  subst e;cases h.one hp hx⟩
 refine⟨fun r hr=>?_,?_,fun r hr=>?_⟩
 ·obtain⟨x,hx,rfl⟩:=Am.mp hr;by_cases e:x.1=p
  ·rw[q8r e];exact f.ok
  ·rw[q6z e];exact h.ok x hx
 ·rw[Bd];refine q2c h.nodup fun x hx y hy e=>?_;replace e:fold bl (mvR p q x).1=fold bl (mvR p q y).1:=e;by_cases ex:x.1=p
  ·by_cases ey:y.1=p
   ·exact h.eqP hx hy (ex.trans ey.symm)
   ·rw[q8r ex,q6z ey] at e;exact absurd (f.un y hy e.symm) ey
  ·by_cases ey:y.1=p
   ·rw[q6z ex,q8r ey] at e;exact absurd (f.un x hx e) ex
   ·rw[q6z ex,q6z ey] at e;exact h.eq hx hy e
 ·obtain⟨x,hx,rfl⟩:=Am.mp hr;by_cases e:x.1=p
  ·rw[q8r e];exact f.dr.imp id (dk _)
  ·rw[q6z e];exact(h.dr x hx).imp id (dk _)
theorem ns_lo:∀c∈NS,lo1 c∈NS:=by decide +kernel
theorem okN.lo(h:okN n):okN (lowN n):=⟨by unfold lowN;rw[Aa];exact h.one,by unfold lowN;rw[Aa];exact h.few,fun c hc=>by
 obtain⟨x,hx,rfl⟩:=Am.mp hc;exact ns_lo x (h.all x hx)⟩
theorem okP.snoc{q:Pth}(h:q=[]\/okP q)(hl:q.length<6)(hn:okN n):okP (q++[n]):=by
 refine⟨by simp,by rw[Af];show _+1<=6;lia,fun x hx=>?_⟩;rcases Ay.mp hx with hx|hx
 ·rcases h with e|h
  ·rw[e] at hx;cases hx
  ·exact h.all x hx
 ·grind
theorem q2l{K:Ag}(ha:H a=some (.tup (vP p)))(hb:H b=some (.tup (vP q)))(lp:Low p)(lq:Low q)(k:Q (.bl (decide (p=q))) H):rEqU K (.ref a) (.ref b) H Q:=by
 refine .inr ⟨_,_,q4y ha,q4y hb,q4z lp,q4z lq,by have:=q4r p;lia,?_⟩;rw[z0i];exact k
def uppN(n:List Nat):List Nat:=n.map up1
theorem ns_up:∀c∈NS,up1 c∈NS:=by decide +kernel
theorem okN.up(h:okN n):okN (uppN n):=⟨by unfold uppN;rw[Aa];exact h.one,by unfold uppN;rw[Aa];exact h.few,fun c hc=>by
 obtain⟨x,hx,rfl⟩:=Am.mp hc;exact ns_up x (h.all x hx)⟩
theorem z7e(e:H a=some (dR rs))(eb:H b=some (.tup (vP p))):DGet H a (.ref b) (valV (rs.map fun r=>(kP r.1,r.2)) (kP p)) :=
 .inr ⟨_,kP p,b,.inl e,rfl,by rw[q6w];exact eb,rfl⟩
end HM
namespace HT
open PySem PyProof.Rows
section
variable{prog:Program}{w:World}{A:Around}{E:Value->Ae->Prop}{s:Ae}
theorem getItem_tuple_whole{lo:Option Int}(ht:IsTup s.heap t items)(hs:s.heap.IsSliceOf sl vl vu .none)(pl:Jy vl lo)(pu:Jy vu hi)(hw:sIx items.size 0 lo=0/\sIx items.size items.size hi=items.size)(h:Q (.ref t) s):wpAny (model prog w) A (getItem (.ref t) (.ref sl)) Q E s:=by
 obtain⟨os,hos,hcs,hds⟩:=id hs;have hTs:s.TypeIs (.ref sl) "slice" := ⟨os,hos,hcs⟩
 unfold getItem;try with_reducible refine Cy ?_
 refine Ab (Qz ht.typeIs (by decide) ?_);refine Ab (Cc ht.typeIs Cm
  (Bx Cm ht.typeIs entry_tuple_getitem ?_ (Ql _ _)))
 show wpAny _ _ (Mb (.ref t) >>= _) _ _ s;refine Ab (tupleItemsOf_ ht ?_);refine Ab (Iy hTs ?_);refine Ab (q2r hs pl pu ?_);show wpAny _ _ (if (((sIx items.size 0 lo:Nat):Int)==0&&(1:Int)==1&&(sIx items.size items.size hi-sIx items.size 0 lo)==items.size)=true then _ else _) _ _ s;rw[if_pos (by rw[hw.1,hw.2];simp)];refine Ab (Ab (Iy ht.typeIs (Ac ?_)));exact Ab (Jk (Ac ⟨_,rfl,Ac h⟩))
end
end HT
namespace L2
open PySem PySem.Spec PyProof.Rows
def rSlP:V->Option Int->Option Int->Hp->VK->Prop:=fun x lo hi H Q=>∃a xs,x=.ref a/\H a=some (.tup xs)/\∀c H',Same H H'->H' c=some (.tup (cutV xs lo hi))->Q (.ref c) H'
theorem sl_P:SlR X rSlP:=by
 intro pins s σ H x v vl vu lo hi sl Q I rx hs pl pu h;obtain⟨a,xs,rfl,hx,q⟩:=h;by_cases hw:HT.sIx xs.length 0 lo=0/\HT.sIx xs.length xs.length hi=xs.length
 ·cases rx;obtain⟨its,r,ht,hz⟩:=I.tuple (SqT.of hx);have hlen:its.toArray.size=xs.length:=by rw[Av];exact r.length.symm
  refine⟨"tuple",_,Cm.lookup,ht.typeIs,?_⟩;refine HT.getItem_tuple_whole ht hs pl pu (by rw[hlen];exact hw) ⟨.ref a,H,I,rfl,q a H (Same.refl H) ?_⟩;unfold cutV;rw[hw.1,hw.2,Jm,Je,Bj];exact hx
 ·exact x1m pins s σ H _ v vl vu lo hi sl Q I rx hs pl pu ⟨a,xs,rfl,SqT.of hx,hw,fun p hp=>q p _ ((Same.refl H).new hp) q0b⟩
end L2
namespace HM
open PySem PySem.Spec PyProof.Rows L2 TX SB
theorem q1g(p q a:Pth):carry p q (p++a)=q++a:=by unfold carry;rw[if_pos (by simp),List.drop_left]
theorem q1p(h:x.take p.length≠p):carry p q x=x:=if_neg h
theorem q7a{p:Pth}(h:x.take p.length=p):∃a,x=p++a:=⟨x.drop p.length,by conv=>lhs;rw[<- Ox p.length x,h]⟩
theorem x3p(p a:Pth):(p++a).take p.length=p:=List.take_left
theorem q5w{a:Pth}(h:a≠[]):(p++a).dropLast=p++a.dropLast:=List.dropLast_append_of_ne_nil h
theorem x0j{a:Pth}(h:a≠[]):(p++a).getLastD []=a.getLastD []:=by
 rw[Ef,Ef,List.getLast?_append,Et h];rfl
theorem q5x{a:Pth}(h:a≠[]):fold bl (p++a)=p++fold bl a:=by
 cases bl with
 |false=>rfl
 |true=>rw[z0h,z0h,q5w h,x0j h,Bp]
theorem q3q{p:Pth}(h:p≠[]):(fold bl p).length=p.length:=by
 cases bl with
 |false=>rfl
 |true =>
  have:=Bs.mpr h;rw[z0h,Af,Ds];show _+1=_;lia
structure Turn2 (bl:Bool) (rows:List Rw) (p q:Pth):Prop where
 hl:Hl bl rows
 pin:(p,none)∈rows
 fr:Free bl rows p q
 ne:q≠p
 par:q.dropLast=p.dropLast
section
variable{bl:Bool}{rows:List Rw}{p q:Pth}
theorem Turn2.len(t:Turn2 bl rows p q):q.length=p.length:=by
 have h1:=congrArg List.length t.par;rw[Ds,Ds] at h1;have:=Bs.mpr t.fr.ok.ne;have:=Bs.mpr (t.hl.ok _ t.pin).ne;have e:(p,(none:Option Int)).1.length=p.length:=rfl;lia
theorem Turn2.okp(t:Turn2 bl rows p q):okP p:=t.hl.ok _ t.pin
theorem Turn2.noq(t:Turn2 bl rows p q)(hr:r∈rows):r.1.take q.length≠q:=fun z=>by
 have key:(∃m,(q,m)∈rows)->False:=fun⟨m,hm⟩=>t.ne (t.fr.un _ hm rfl);by_cases hl:q.length<r.1.length
 ·have:=t.hl.anc _ r hr (Ak _) q.length (Bs.mpr t.fr.ok.ne) hl;rw[z] at this;exact key ⟨_,this⟩
 ·grind
theorem Turn2.back(t:Turn2 bl rows p q):(rows.map (cR p q)).map (cR q p)=rows:=by
 rw[Bd];conv=>rhs;rw[<- Of rows]
 refine Cu fun r hr=>?_;show(carry q p (carry p q r.1),r.2)=r;by_cases h:r.1.take p.length=p
 ·obtain⟨a,e⟩:=q7a h;rw[e,q1g,q1g,<- e]
 ·rw[q1p h,q1p (t.noq hr)]
theorem Turn2.inj(t:Turn2 bl rows p q)(hx:x∈rows)(hy:y∈rows)(e:fold bl (carry p q x.1)=fold bl (carry p q y.1)):x=y:=by
 have one:∀{x y:Rw},x∈rows->y∈rows->∀a,x.1=p++a->y.1.take p.length≠p->fold bl (q++a)=fold bl y.1->False:=by
  intro x y hx hy a ea hn e;by_cases h0:a=[]
  ·rw[h0,Bv] at e;have:=t.fr.un y hy e.symm;exact hn (by rw[this,Bj])
  ·have hy0:=(t.hl.ok y hy).ne;have hd:=((z1r (by simp[h0]) hy0).mp e).1;rw[q5w h0] at hd;refine t.noq hy ?_;have e2:y.1=q++(a.dropLast++[y.1.getLastD []]):=by rw[<- Bp,hd];exact z1q hy0
   rw[e2];exact x3p _ _
 by_cases h1:x.1.take p.length=p
 ·obtain⟨a,ea⟩:=q7a h1;by_cases h2:y.1.take p.length=p
  ·obtain⟨b,eb⟩:=q7a h2;rw[ea,eb,q1g,q1g] at e;refine t.hl.eq hx hy ?_;rw[ea,eb];by_cases ha:a=[]
   ·by_cases hb:b=[]
    ·rw[ha,hb]
    ·rw[ha,Bv] at e;have:=congrArg List.length e;rw[q3q t.fr.ok.ne,q3q (by simp[hb]),Af] at this;have:=Bs.mpr hb;lia
   ·by_cases hb:b=[]
    ·rw[hb,Bv] at e;have:=congrArg List.length e;rw[q3q t.fr.ok.ne,q3q (by simp[ha]),Af] at this;have:=Bs.mpr ha;lia
    ·rw[q5x ha,q5x hb] at e;rw[q5x ha,q5x hb,List.append_cancel_left e]
  ·rw[ea,q1g,q1p h2] at e;exact(one hx hy a ea h2 e).elim
 ·by_cases h2:y.1.take p.length=p
  ·obtain⟨b,eb⟩:=q7a h2;rw[eb,q1g,q1p h1] at e;exact(one hy hx b eb h1 e.symm).elim
  ·rw[q1p h1,q1p h2] at e;exact t.hl.eq hx hy e
theorem Turn2.moved(t:Turn2 bl rows p q):Hl bl (rows.map (cR p q)):=by
 have hpl:=t.len;have hp0:=Bs.mpr t.okp.ne;have dk:∀{x y:Pth},(x,(none:Option Int))∈rows->carry p q x=y->(y,none)∈rows.map (cR p q):=fun{x y} hx e=>Am.mpr ⟨_,hx,by show(carry p q x,none)=_;rw[e]⟩;refine⟨fun r hr=>?_,?_,fun r hr=>?_⟩
 ·obtain⟨x,hx,rfl⟩:=Am.mp hr;show okP (carry p q x.1);have okx:=t.hl.ok x hx;by_cases h:x.1.take p.length=p
  ·obtain⟨a,e⟩:=q7a h;rw[e] at okx ⊢;rw[q1g];refine⟨by simp[t.fr.ok.ne],?_,fun n hn=>?_⟩
   ·have:=okx.few;rw[Af] at this ⊢;lia
   ·rcases Ay.mp hn with hn|hn
    ·exact t.fr.ok.all n hn
    ·exact okx.all n (Bo _ hn)
  ·rw[q1p h];exact okx
 ·rw[Bd];exact q2c t.hl.nodup fun x hx y hy e=>t.inj hx hy e
 ·obtain⟨x,hx,rfl⟩:=Am.mp hr;show(carry p q x.1).dropLast=[]\/((carry p q x.1).dropLast,none)∈_;by_cases h:x.1.take p.length=p
  ·obtain⟨a,e⟩:=q7a h;rw[e,q1g];by_cases ha:a=[]
   ·rw[ha,Bv,t.par];refine(t.hl.dr _ t.pin).imp id fun y=>dk y (q1p fun z=>?_);have:=congrArg List.length z;rw[An,Ds] at this;lia
   ·rw[q5w ha];have:=(t.hl.dr x hx)
    rw[e,q5w ha] at this;exact .inr (dk (this.resolve_left (by simp[t.okp.ne])) (q1g _ _ _))
  ·rw[q1p h];refine(t.hl.dr x hx).imp id fun y=>dk y (q1p fun z=>h ?_);have:=congrArg List.length z;rw[An,Ds] at this;rw[Fi,Hg,Gu (by lia)] at z;exact z
theorem Turn2.qin(t:Turn2 bl rows p q):(q,none)∈rows.map (cR p q):=Am.mpr ⟨_,t.pin,by show(carry p q p,none)=_;have:=q1g p q [];rw[Bv,Bv] at this;rw[this]⟩
theorem Turn2.rev(t:Turn2 bl rows p q):Turn2 bl (rows.map (cR p q)) q p:=by
 refine⟨t.moved,t.qin,⟨t.okp,?_,fun r hr hf=>?_⟩,t.ne.symm,t.par.symm⟩
 ·have:=t.moved.dr _ t.qin;rw[show((q,(none:Option Int)):Rw).1=q from rfl,t.par] at this;exact this
 ·obtain⟨x,hx,rfl⟩:=Am.mp hr;show carry p q x.1=q;replace hf:fold bl (carry p q x.1)=fold bl p:=hf;by_cases h:x.1.take p.length=p
  ·obtain⟨a,e⟩:=q7a h;rw[e,q1g] at hf ⊢;by_cases ha:a=[]
   ·grind
   ·have:=congrArg List.length hf;rw[q3q (by simp[ha]),q3q t.okp.ne,Af,t.len] at this;have:=Bs.mpr ha;lia
  ·rw[q1p h] at hf ⊢;have e:=t.hl.eq hx t.pin hf;rw[e] at h;exact(h (by exact Bj)).elim
end
end HM
namespace L2
open PySem PySem.Spec PyProof.Rows
theorem z7f{X:Cx}{body:List Stmt}{h0:ExceptHandler}{hs:List ExceptHandler}{pos:Pos}{t:TS}(hx:X.xe=fun _ _=>False)(hb:PSs X body t):PS X (.Try body (h0::hs) [] [] pos) t:=by
 intro pins s σ H D I q;refine wpAny_Try_except (Cb (hb pins s σ H D I q) (fun f s1 z=>?_) fun e s1 z=>by rw[hx] at z;exact z.elim);cases f with
 |next=>exact Ih z
 |ret v=>exact z
 |brk=>exact z
 |cont=>exact z
end L2
namespace HM
open PySem PySem.Spec PyProof.Rows L2 TX SB
structure Mvd (bl:Bool) (rows:List Rw) (p q:Pth):Prop where
 hl:Hl bl rows
 m:∃mk:Option Int,(p,mk)∈rows/\(mk=none->q.dropLast=p.dropLast)
 ne:q≠p
 fr:Free bl rows p q
section
variable{bl:Bool}{rows rows':List Rw}{p q:Pth}
theorem Mvd.perm(h:Mvd bl rows p q)(pm:rows'.Perm rows):Mvd bl rows' p q :=
 ⟨h.hl.perm pm,h.m.imp fun mk x=>⟨pm.mem_iff.mpr x.1,x.2⟩,h.ne,⟨h.fr.ok,h.fr.dr.imp id fun y=>pm.mem_iff.mpr y,fun r hr=>h.fr.un r (pm.mem_iff.mp hr)⟩⟩
theorem Mvd.cases(h:Mvd bl rows p q):Turn2 bl rows p q\/∃i:Int,(p,some i)∈rows:=by
 obtain⟨mk,h1,h2⟩:=h.m;cases mk with
 |none=>exact .inl ⟨h.hl,h1,h.fr,h.ne,h2 rfl⟩
 |some i=>grind
theorem x0k(hl:Hl bl rows)(hp:(p,some i)∈rows)(f:Free bl rows p q)(ne:q≠p):Free bl (rows.map (mvR p q)) q p:=by
 have dk:∀x:Pth,(x,(none:Option Int))∈rows->(x,none)∈rows.map (mvR p q):=fun x hx=>Am.mpr ⟨_,hx,q6z fun e=>by
  subst e;cases hl.one hp hx⟩
 refine⟨hl.ok _ hp,(hl.dr _ hp).imp id (dk _),fun r hr hf=>?_⟩;obtain⟨x,hx,rfl⟩:=Am.mp hr;by_cases e:x.1=p
 ·rw[q8r e]
 ·rw[q6z e] at hf ⊢;have:=hl.eq hx hp hf;rw[this] at e;exact absurd rfl e
theorem z7g(hl:Hl bl rows)(hp:(p,some i)∈rows)(f:Free bl rows p q)(ne:q≠p):(rows.map (mvR p q)).map (mvR q p)=rows:=by
 rw[Bd];conv=>rhs;rw[<- Of rows]
 refine Cu fun r hr=>?_;show mvR q p (mvR p q r)=r;by_cases e:r.1=p
 ·rw[q8r e,q8r (r:=(q,r.2)) rfl,<- e]
 ·rw[q6z e,q6z fun z=>e (f.un r hr (by rw[z]))]
theorem Mvd.moved(h:Mvd bl rows p q):Hl bl (rows.map (cR p q)):=by
 rcases h.cases with t|⟨i,hp⟩
 ·exact t.moved
 ·rw[h.hl.carry hp];exact h.hl.moved hp h.fr
theorem Mvd.rev(h:Mvd bl rows p q):Mvd bl (rows.map (cR p q)) q p:=by
 rcases h.cases with t|⟨i,hp⟩
 ·have r:=t.rev;exact⟨r.hl,⟨none,r.pin,fun _=>r.par⟩,r.ne,r.fr⟩
 ·refine⟨h.moved,?_,h.ne.symm,?_⟩<;>rw[h.hl.carry hp]
  ·exact⟨some i,Am.mpr ⟨_,hp,q8r rfl⟩,fun z=>nomatch z⟩
  ·exact x0k h.hl hp h.fr h.ne
theorem Mvd.back(h:Mvd bl rows p q):(rows.map (cR p q)).map (cR q p)=rows:=by
 rcases h.cases with t|⟨i,hp⟩
 ·exact t.back
 ·have h2:=h.moved;have hq:(q,some i)∈rows.map (cR p q):=by rw[h.hl.carry hp];exact Am.mpr ⟨_,hp,q8r rfl⟩
  rw[h2.carry hq,h.hl.carry hp];exact z7g h.hl hp h.fr h.ne
theorem Mvd.okp(h:Mvd bl rows p q):okP p:=let ⟨_,x,_⟩:=h.m;h.hl.ok _ x
end
abbrev Mv:=Pth×Pth
def wk:List Rw->List Mv->List Rw
 |rows,[]=>rows
 |rows,m::r=>wk (rows.map (cR m.1 m.2)) r
def WkOk(bl:Bool):List Rw->List Mv->Prop
 |rows,[]=>Hl bl rows
 |rows,m::r=>Mvd bl rows m.1 m.2/\WkOk bl (rows.map (cR m.1 m.2)) r
section
variable{bl:Bool}
theorem q8f:∀(ms:List Mv) (rows:List Rw),(wk rows ms).length=rows.length
 |[],_=>rfl
 |m::r,rows=>(q8f r _).trans (Aa _)
theorem z1s:∀(ms:List Mv) {rows rows':List Rw},rows'.Perm rows->(wk rows' ms).Perm (wk rows ms)
 |[],_,_,p=>p
 |m::r,_,_,p=>z1s r (p.map _)
theorem z7h:∀(a b:List Mv) (rows:List Rw),wk rows (a++b)=wk (wk rows a) b
 |[],_,_=>rfl
 |_::a,b,_=>z7h a b _
theorem WkOk.perm:∀{ms:List Mv} {rows rows':List Rw},WkOk bl rows ms->rows'.Perm rows->WkOk bl rows' ms
 |[],_,_,h,p=>Hl.perm h p
 |_::_,_,_,h,p=>⟨h.1.perm p,WkOk.perm h.2 (p.map _)⟩
theorem WkOk.fin:∀{ms:List Mv} {rows:List Rw},WkOk bl rows ms->Hl bl (wk rows ms)
 |[],_,h=>h
 |m::r,rows,h=>WkOk.fin (ms:=r) (rows:=rows.map (cR m.1 m.2)) h.2
theorem WkOk.hd:∀{ms:List Mv} {rows:List Rw},WkOk bl rows ms->Hl bl rows
 |[],_,h=>h
 |_::_,_,h=>h.1.hl
theorem WkOk.app:∀{a b:List Mv} {rows:List Rw},WkOk bl rows (a++b)↔WkOk bl rows a/\WkOk bl (wk rows a) b
 |[],_,_=>⟨fun h=>⟨h.hd,h⟩,fun h=>h.2⟩
 |m::a,b,rows=>by
  have ih:=WkOk.app (a:=a) (b:=b) (rows:=rows.map (cR m.1 m.2));exact⟨fun h=>⟨⟨h.1,(ih.mp h.2).1⟩,(ih.mp h.2).2⟩,fun h=>⟨h.1.1,ih.mpr ⟨h.1.2,h.2⟩⟩⟩
def tb(ms:List Mv):List Mv:=ms.reverse.map fun m=>(m.2,m.1)
theorem z7i(m:Mv)(r:List Mv):tb (m::r)=tb r++[(m.2,m.1)]:=by simp[tb]
theorem x1x(ms:List Mv):(tb ms).length=ms.length:=by simp[tb]
theorem z1t:∀{ms:List Mv} {rows:List Rw},WkOk bl rows ms->wk (wk rows ms) (tb ms)=rows
 |[],_,_=>rfl
 |m::r,rows,h=>by
  rw[z7i,z7h];show wk (wk (wk (rows.map (cR m.1 m.2)) r) (tb r)) _=rows;rw[z1t h.2];exact h.1.back
theorem WkOk.back:∀{ms:List Mv} {rows:List Rw},WkOk bl rows ms->WkOk bl (wk rows ms) (tb ms)
 |[],_,h=>h
 |m::r,rows,h=>by
  rw[z7i];refine WkOk.app.mpr ⟨WkOk.back (ms:=r) h.2,?_⟩;show WkOk bl (wk (wk (rows.map (cR m.1 m.2)) r) (tb r)) _;rw[z1t h.2];refine⟨h.1.rev,?_⟩;show Hl bl ((rows.map (cR m.1 m.2)).map (cR m.2 m.1));rw[h.1.back];exact h.1.hl
theorem WkOk.take(h:WkOk bl rows ms)(n:Nat):WkOk bl rows (ms.take n)/\WkOk bl (wk rows (ms.take n)) (ms.drop n):=WkOk.app.mp (by rw[Ox];exact h)
theorem WkOk.snoc(h:WkOk bl rows ms)(x:Mvd bl (wk rows ms) m.1 m.2):WkOk bl rows (ms++[m]):=WkOk.app.mpr ⟨h,x,x.moved⟩
theorem z1u(ms:List Mv)(m:Mv)(rows:List Rw):wk rows (ms++[m])=(wk rows ms).map (cR m.1 m.2):=z7h ms [m] rows
end
def MT(H:Hp)(T:Addr)(m:Mv):Prop:=∃A B,H T=some (.tup [.ref A,.ref B])/\H A=some (.tup (vP m.1))/\H B=some (.tup (vP m.2))
abbrev Zm:=Addr×Mv
structure ML (H:Hp) (L:Addr) (zs:List Zm):Prop where
 at_:H L=some (.lst (zs.map fun z=>V.ref z.1))
 pr:∀z∈zs,MT H z.1 z.2
theorem MT.keep(h:MT H T m)(k:∀T xs,H T=some (.tup xs)->H' T=some (.tup xs)):MT H' T m:=let ⟨A,B,h1,h2,h3⟩:=h;⟨A,B,k _ _ h1,k _ _ h2,k _ _ h3⟩
theorem ML.same(h:ML H L zs)(s:Same H H'):ML H' L zs:=⟨s _ _ h.at_,fun z hz=>(h.pr z hz).keep fun T xs e=>s _ _ e⟩
theorem ML.fd(h:ML H L zs)(F:FeedAt H a b)(fd:Fd a b H H')(hL:L≠a):ML H' L zs:=⟨fd.at h.at_ hL,fun z hz=>(h.pr z hz).keep (tupFd F fd)⟩
theorem ML.nil(h:H L=some (.lst [])):ML H L []:=⟨h,fun _ z=>nomatch z⟩
theorem ML.cut(h:ML H L zs)(hL:H L'=none)(n:Nat):ML (upd H L' (.lst ((zs.map fun z=>V.ref z.1).drop n))) L' (zs.drop n) :=
 ⟨by rw[q0b,Pw],fun z hz=>(h.pr z (Ph hz)).keep fun T xs e=>by rw[q0e (q0m e hL)];exact e⟩
theorem ML.pre(h:ML H L zs)(hL:H L'=none)(n:Nat):ML (upd H L' (.lst ((zs.map fun z=>V.ref z.1).take n))) L' (zs.take n) :=
 ⟨by rw[q0b,Cp],fun z hz=>(h.pr z (Bc hz)).keep fun T xs e=>by rw[q0e (q0m e hL)];exact e⟩
end HM
namespace L2
open PySem PySem.Spec PyProof.Rows
abbrev TF:=St->Hp->(Str->Hp->Prop)->Prop
def PF1(X:Cx)(e:Expr)(t:TF):Prop:=∀(pins:List (Addr×Obj)) (s:Ae) (σ:St) (H:Hp) (R:Str->Hp->Prop),Inv X pins σ H s->t σ H R ->
 wpAny (model X.prog X.w) X.A (eval e X.env) (fun v s1=>∃y k H1,v=.str y k/\Inv X pins σ H1 s1/\R y H1) X.xe s
def PFs(X:Cx):List Expr->List TF->Prop
 |[],[]=>True
 |e::es,t::ts=>PF1 X e t/\PFs X es ts
 |_,_=>False
def tFs:List TF->Str->St->Hp->VK->Prop
 |[],acc,_,H,Q=>acc.length<=sizeLine/\Q (.str acc) H
 |t::ts,acc,σ,H,Q=>t σ H fun y H1=>(acc++y).length<=sizeLine/\tFs ts (acc++y) σ H1 Q
section
variable{X:Cx}
theorem x0l{σ:St}:∀{ts:List TF} {es:List Expr} {acc:Str} {H:Hp} {s:Ae},PFs X es ts->Inv X pins σ H s->tFs ts acc σ H Q ->
  Joins (model X.prog X.w) X.A X.xe (evalEach es X.env) acc (fun out s₁=>out.length<=sizeLine/\EP X pins σ Q (.str out s₁.toks) { s₁ with toks:=s₁.toks+1 }) s:=by
 intro ts;induction ts with
 |nil =>
  intro es acc H s hp I h;cases es with
  |nil=>exact⟨h.1,.str acc,H,I.tok _,⟨_,rfl⟩,h.2⟩
  |cons e es=>exact False.elim hp
 |cons t ts ih =>
  intro es acc H s hp I h;cases es with
  |nil=>exact False.elim hp
  |cons e es =>
   refine Cb (hp.1 pins s σ H _ I h) (fun v s1 z=>?_) fun _ _ z=>z;obtain⟨y,k,H1,ev,I1,hz,q⟩:=z;exact⟨y,k,ev,hz,ih hp.2 I1 q⟩
theorem z7j{v₁ v₂:Expr}{rest:List Expr}{pos:Pos}{t₁ t₂:TF}{ts:List TF}(h1:PF1 X v₁ t₁)(h2:PF1 X v₂ t₂)(h3:PFs X rest ts):PE X (.JoinedStr (v₁::v₂::rest) pos) (fun σ H Q=>tFs (t₁::t₂::ts) Fw σ H Q):=by
 intro pins s σ H Q I h;exact wpAny_JoinedStr (x0l (ts:=t₁::t₂::ts) ⟨h1,h2,h3⟩ I h)
theorem z7k:PFs X [] []:=trivial
theorem z3f{e:Expr}{es:List Expr}{t:TF}{ts:List TF}(h:PF1 X e t)(r:PFs X es ts):PFs X (e::es) (t::ts):=⟨h,r⟩
def tFv(te:TE):TF:=fun σ H R=>te σ H fun v H1=>(∃x,v=.str x/\x.length<=sizeLine/\R x H1)\/∃n:Nat,v=.int (n:Int)/\n<=10^12/\R (Ad (toString (n:Int))) H1
theorem z7l{n:Nat}(h:n<=10^12):(n:Int).natAbs.log2<1920:=by
 rw[Qp];by_cases h0:n=0
 ·subst h0;decide
 ·rw[Nat.log2_lt h0];exact Lv h (Bl (by decide:10^12<2^64) (Nat.pow_le_pow_right (by decide) (by decide)))
theorem z7m{e:Expr}{pos:Pos}{te:TE}(he:PE X e te):PF1 X (.FormattedValue e (-1) none pos) (tFv te):=by
 intro pins s σ H R I h;refine FormattedValue_plain (thn (he pins s σ H _ I h) fun u s1 ⟨v,H1,I1,rv,q⟩=>?_);rcases q with⟨x,rfl,hz,q⟩|⟨n,rfl,hn,q⟩
 ·obtain⟨t,rfl⟩:=rv;exact formatField_str (fun t' tk=>⟨x,t',H1,rfl,I1.tok _,q⟩) hz
 ·obtain⟨t,rfl⟩:=rv;exact formatField_int_small (z7l hn) ⟨_,_,H1,rfl,I1.tok _,q⟩
theorem z7n:PF1 X (.Constant (.str c) k pos) (fun _ H R=>R c H):=by
 intro pins s σ H R I h;exact thn (q1l pins s σ H (fun v H1=>∃y,v=.str y/\R y H1) I ⟨c,rfl,h⟩) fun u s1 ⟨v,H1,I1,rv,y,ev,q⟩=>by
  subst ev;obtain⟨t,rfl⟩:=rv;exact⟨y,t,H1,rfl,I1,q⟩
end
end L2
namespace PM
open PySem PySem.Spec PyProof.Rows L2 TX
def jn:List (List Nat)->List Nat
 |[]=>[]
 |[a]=>a
 |a::b::r=>a++47::jn (b::r)
theorem x3q(a:List Nat)(h:r≠[]):jn (a::r)=a++47::jn r:=by
 cases r with
 |nil=>exact absurd rfl h
 |cons b r=>rfl
theorem z7o:∀{xs:List (List Nat)},xs≠[]->∀y,jn (xs++[y])=jn xs++47::y
 |[],h,_=>absurd rfl h
 |[a],_,y=>rfl
 |a::b::r,_,y=>by
  have ih:=z7o (xs:=b::r) (by simp) y;show a++47::jn (b::r++[y])=_;rw[ih];show _=(a++47::jn (b::r))++47::y;simp
theorem z7p:∀{xs:List (List Nat)} {m:Nat},(∀x∈xs,x.length<=m)->(jn xs).length<=xs.length*(m+1)
 |[],m,_=>Br _
 |[a],m,h=>by
  have:=h a Aj;show a.length<=1*(m+1);lia
 |a::b::r,m,h=>by
  have h1:=h a Aj;have ih:=z7p fun x hx=>h x (Ah _ hx);show(a++47::jn (b::r)).length<=(b::r).length.succ*(m+1);rw[Af,Bf,Nh];lia
def sp:List Nat->List (List Nat)
 |[]=>[[]]
 |c::r=>if c=47 then[]::sp r else match sp r with | []=>[[c]]|p::q=>(c::p)::q
theorem x1y:∀{a:List Nat} (l:List Nat),47∉a->sp (a++47::l)=a::sp l
 |[],l,_=>by show(if 47=47 then _ else _)=_;rw[if_pos rfl]
 |c::a,l,h=>by
  have hc:c≠47:=fun z=>h (by rw[z];exact Aj);have ih:=x1y l fun z=>h (Ah _ z);show(if c=47 then _ else _)=_;rw[if_neg hc];show(match sp (a++47::l) with | []=>[[c]]|p::q=>(c::p)::q)=_;rw[ih]
theorem x1z:∀{a:List Nat},47∉a->sp a=[a]
 |[],_=>rfl
 |c::a,h=>by
  have hc:c≠47:=fun z=>h (by rw[z];exact Aj);have ih:=x1z fun z=>h (Ah _ z);show(if c=47 then _ else _)=_;rw[if_neg hc,ih]
theorem x3r:∀{xs:List (List Nat)},xs≠[]->(∀x∈xs,47∉x)->sp (jn xs)=xs
 |[],h,_=>absurd rfl h
 |[a],_,f=>x1z (f a Aj)
 |a::b::r,_,f=>by
  show sp (a++47::jn (b::r))=_;rw[x1y _ (f a Aj),x3r (by simp) fun x hx=>f x (Ah _ hx)]
theorem slash:Ad "/" = ⟨#[47]⟩:=by decide +kernel
theorem tl_joinS:∀ts:List Str,tl (Kd (Ad "/") ts)=jn (ts.map tl):=by
 intro ts;rw[q6q];induction ts with
 |nil=>rfl
 |cons a r ih =>
  cases r with
  |nil=>simp[Li,jn]
  |cons b r =>
   show tl (a++Ad "/" ++ Li (Ad "/") (b::r))=_;rw[q5m,q5m,ih];have e:tl (Ad "/")=[47]:=by decide +kernel
   rw[e];show _=tl a++47::jn (tl b::r.map tl);simp
theorem z3g(z:Str):(Hm z (Ad "/")).map tl=sp (tl z):=by
 have h1:=Qt z (Ad "/");rw[<- q6q] at h1;have h2:=tl_joinS (Hm z (Ad "/"));rw[h1] at h2;have h3:=Qu z 47;rw[<- slash] at h3;have h4:=split_pos z (Ad "/");rw[h2,x3r]
 ·intro z;have:=congrArg List.length z;rw[Aa,Dx] at this;lia
 ·grind
theorem split_mk(z:Str):(Hm z (Ad "/")).map V.str=(sp (tl z)).map fun n=>V.str (mk n):=by
 rw[<- z3g,Bd];refine Cu fun p _=>?_;show V.str p=V.str (mk (tl p));rw[q9r]
theorem join_mk(ns:List (List Nat)):Kd (Ad "/") (ns.map mk)=mk (jn ns):=by
 apply ext;rw[tl_joinS,q0z,Bd];congr 1;conv=>rhs;rw[<- Of ns]
 exact Cu fun p _=>q0z _
theorem x2a:∀l:List Nat,(sp l).length<=l.length+1
 |[]=>Ak _
 |c::r=>by
  have ih:=x2a r;show(if c=47 then[]::sp r else match sp r with | []=>[[c]]|p::q=>(c::p)::q).length<=_;split
  ·simp;lia
  ·cases e:sp r with
   |nil=>simp
   |cons p q=>grind
end PM
namespace PC
open PySem PySem.Spec PyProof.Rows L2 TX
def jc(s:Nat):List (List Nat)->List Nat
 |[]=>[]
 |[a]=>a
 |a::b::r=>a++s::jc s (b::r)
theorem jc_cons(a:List Nat)(h:r≠[]):jc s (a::r)=a++s::jc s r:=by
 cases r with
 |nil=>exact absurd rfl h
 |cons b r=>rfl
def sc(s:Nat):List Nat->List (List Nat)
 |[]=>[[]]
 |c::r=>if c=s then[]::sc s r else match sc s r with | []=>[[c]]|p::q=>(c::p)::q
theorem x2b:∀{a:List Nat} (l:List Nat),s∉a->sc s (a++s::l)=a::sc s l
 |[],l,_=>by show(if s=s then _ else _)=_;rw[if_pos rfl]
 |c::a,l,h=>by
  have hc:c≠s:=fun z=>h (by rw[z];exact Aj);have ih:=x2b l fun z=>h (Ah _ z);show(if c=s then _ else _)=_;rw[if_neg hc];show(match sc s (a++s::l) with | []=>[[c]]|p::q=>(c::p)::q)=_;rw[ih]
theorem sc_one:∀{a:List Nat},s∉a->sc s a=[a]
 |[],_=>rfl
 |c::a,h=>by
  have hc:c≠s:=fun z=>h (by rw[z];exact Aj);have ih:=sc_one fun z=>h (Ah _ z);show(if c=s then _ else _)=_;rw[if_neg hc,ih]
theorem sc_jc{s:Nat}:∀{xs:List (List Nat)},xs≠[]->(∀x∈xs,s∉x)->sc s (jc s xs)=xs
 |[],h,_=>absurd rfl h
 |[a],_,f=>sc_one (f a Aj)
 |a::b::r,_,f=>by
  show sc s (a++s::jc s (b::r))=_;rw[x2b _ (f a Aj),sc_jc (by simp) fun x hx=>f x (Ah _ hx)]
theorem tl_joinS(s:Nat):∀ts:List Str,tl (Kd ((⟨#[s]⟩:Str)) ts)=jc s (ts.map tl):=by
 intro ts;rw[q6q];induction ts with
 |nil=>rfl
 |cons a r ih =>
  cases r with
  |nil=>simp[Li,jc]
  |cons b r =>
   show tl (a++(⟨#[s]⟩:Str)++Li ((⟨#[s]⟩:Str)) (b::r))=_;rw[q5m,q5m,ih];have e:tl (⟨#[s]⟩:Str)=[s]:=rfl;rw[e];show _=tl a++s::jc s (tl b::r.map tl);simp
theorem x0m(s:Nat)(z:Str):(Hm z ((⟨#[s]⟩:Str))).map tl=sc s (tl z):=by
 have h1:=Qt z ((⟨#[s]⟩:Str));rw[<- q6q] at h1;have h2:=tl_joinS s (Hm z ((⟨#[s]⟩:Str)));rw[h1] at h2;have h3:=Qu z s;have h4:=split_pos z ((⟨#[s]⟩:Str));rw[h2,sc_jc]
 ·intro z;have:=congrArg List.length z;rw[Aa,Dx] at this;lia
 ·grind
theorem split_mk(s:Nat)(z:Str):(Hm z ((⟨#[s]⟩:Str))).map V.str=(sc s (tl z)).map fun n=>V.str (mk n):=by
 rw[<- x0m s,Bd];refine Cu fun p _=>?_;show V.str p=V.str (mk (tl p));rw[q9r]
theorem join_mk(s:Nat)(ns:List (List Nat)):Kd ((⟨#[s]⟩:Str)) (ns.map mk)=mk (jc s ns):=by
 apply ext;rw[tl_joinS s,q0z,Bd];congr 1;conv=>rhs;rw[<- Of ns]
 exact Cu fun p _=>q0z _
theorem sc_len:∀l:List Nat,(sc s l).length<=l.length+1
 |[]=>Ak _
 |c::r=>by
  have ih:=sc_len (s:=s) r;show(if c=s then[]::sc s r else match sc s r with | []=>[[c]]|p::q=>(c::p)::q).length<=_;split
  ·simp;lia
  ·cases e:sc s r with
   |nil=>simp
   |cons p q=>grind
end PC
namespace L2
open PySem PySem.Spec PyProof.Rows
theorem x0n{X:Cx}{o value:Expr}{op:Operator}{f:Str}{pos tpos:Pos}{ta tv:TE}{rd:V->V->Hp->VK->Prop}(K:Ag)(hK:X.K=K)(ha:PE X o ta)(hv:PE X value tv)(hop:InOp X op rd):PS X (.AugAssign (.Attribute o f tpos) op value pos) (sFldAug K ta tv rd f):=by subst hK;exact z5j ha hv hop
structure Kf0 (K:Ag) (mg:Str->Option Value) (C:Addr) (x qual:Str) (st:Stmt) (ps:List Str):Prop where
 ex:∃(f:Addr) (fd:Ip) (oc:Value) (od:Option Addr) (dV kV doc pm:Value) (an:Option Addr) (cdv ct:Value) (osl:Array (Option Value)),fd=Gg "__init__" qual (defArgs st) (defBody st) (defScope st) dV kV doc pm an cdv ct /\
  K.lookup f=some ⟨oc,od,.func fd,osl⟩/\Hq K cdv qual=true/\Mk K C f/\Binds K fd ps []
 at_:mg x=some (.ref C)
 cl:Cls K C
structure KCal0 (P:Program) (w:World) (K:Ag) (mg:Str->Option Value) (base:Heap) (C:Addr) (x:Str) (k:Nat) (ps:List Str) (sp:Sp):Prop where
 ex:∃f fd,FnOk P w K mg base CX0 k f fd ps sp/\Mk K C f/\Binds K fd ps []
 at_:mg x=some (.ref C)
 cl:Cls K C
theorem Kf0.cal{K:Ag}{st:Stmt}(D:Kf0 K mg C x qual st ps)(S:FnScope N ps (defScope st))(len:∀vs H Q E,sp vs H Q E->vs.length=ps.length)(hbody:∀(f:Addr) (cdv:Value) (A:Around) (outer:List Env) (s:Ae) (H:Hp) (vs:List V) (Q:VK) (E:XK),Room k (A.deeper (Hy qual (defScope st) s.heap.objs.size f cdv))->sp vs H Q E ->
   ∃t,PSs (cxOf CX0 P w K mg base N qual (defScope st) f cdv A outer s H E).nox (defBody st) t/\t { nx:=fun _ H'=>Q .non H',rt:=Q } (start N vs) H):KCal0 P w K mg base C x (k+1) ps sp:=by
 obtain⟨f,fd,oc,od,dV,kV,doc,pm,an,cdv,ct,osl,rfl,lk,hcd,M,b1⟩:=D.ex;refine⟨⟨f,_,x2u lk hcd S len fun A outer s H vs Q E hr hsp=>?_,M,b1⟩,D.at_,D.cl⟩;obtain⟨t,h,q⟩:=hbody f cdv A outer s H vs Q E hr hsp;exact⟨t,h.nox,q⟩
section
variable{X:Cx}{C:Addr}{x:Str}{k j:Nat}{ps:List Str}{sp:Sp}{p pos:Pos}{e:Expr}{es:List Expr}{t:TA}
theorem x3s(M:KCal0 X.prog X.w X.K X.mg X.base C x k ps sp)(hr:Room j X.A)(ha:PA X (e::es) t)(hjk:k+1<=j:=by decide)(hg:Gl X x:=by rfl)(hdb:(x==("__debug__" : Str))=false:=by decide)(he:Bi (e::es) X.env=(false,eval e X.env)::Bi es X.env:=by rfl)(hpl:(Eu pos (Bi es X.env)).any (·.1)=false:=by rfl):PE X (.Call (.Name x p) (e::es) [] pos) (tMake C sp [] E0 t):=by
 obtain⟨f,fd,F,m,b1⟩:=M.ex;exact z5m m F (hr.mono hjk) hg M.at_ b1 .nil pass0 ha hdb he hpl
end
open PySem PySem.Spec PyProof.Rows
theorem q8s{y:V}:∀{xs:List V} {us:List Value},Vals xs us->xs.all flatV=true->∀(i:Nat) (hi:i<us.length),∃z,xs[i]?=some z/\eqU y us[i]=eqV z y
 |_,_,.nil,_,i,hi=>absurd hi (Nat.not_lt_zero _)
 |x::xs,u::us,.cons r t,f,0,_=>by
  rw[Mc,Ci] at f;exact⟨x,rfl,z5q r f.1⟩
 |x::xs,u::us,.cons r t,f,i+1,hi=>by
  rw[Mc,Ci] at f;exact q8s t f.2 i (Nat.lt_of_succ_lt_succ hi)
def rIndexL:V->List V->Hp->VK->Prop:=fun x vs H Q=>∃l xs y,∃j:Nat,x=.ref l/\vs=[y]/\H l=some (.lst xs)/\flatV y=true/\xs.all flatV=true/\(∃z,xs[j]?=some z/\eqV z y=true)/\(∀i z,i<j->xs[i]?=some z->eqV z y=false)/\Q (.int (j:Int)) H
theorem z7q:MtM X "list.index" rIndexL:=by
 intro pins s σ H x vs v us Q I rx rv h;obtain⟨l,xs,y,j,rfl,rfl,hH,fy,fs,⟨z0,hz0,e0⟩,no,q⟩:=h;cases rx;obtain⟨u,rfl,ru⟩:=rv.one;obtain⟨z,its,n,r,hl,e⟩:=I.lstM hH;have hj:j<its.length:=by rw[<- r.length];exact(Ax.mp hz0).1
 have hsm:xs.length<=sizeLine:=z;rw[Eg] at hsm;have hjx:j<xs.length:=(Ax.mp hz0).1;refine Gp F.slot_list_index ⟨_,e,rfl⟩ F.entry_list_index (F.args_list_index_2 _ _) (SeqAt.list_indexAt l its.toArray n none #[] u (eqU y) j (by simpa using hj) (by lia) ?_ ?_) ⟨e,fun w hw=>q3m ru fy r fs w (by simpa using hw),.int (j:Int),H,I.tok _,⟨_,rfl⟩,q⟩
 ·obtain⟨z1,h1,h2⟩:=q8s (y:=y) r fs j hj;rw[hz0] at h1;cases h1;simpa[h2] using e0
 ·intro m hm hlt;obtain⟨z1,h1,h2⟩:=q8s (y:=y) r fs m (by simpa using hm);simpa[h2] using no m z1 hlt h1
theorem z4n(n:Nat):(List.range n).map (fun(k:Nat)=>((n:Int)-1 + -1*(k:Int)).toNat)=(List.range n).reverse:=by
 refine List.ext_getElem (by simp) fun i h1 h2=>?_;simp at h1 ⊢;lia
theorem range_all{α:Type}(its:List α):(List.range its.length).filterMap (fun i=>its[i]?)=its:=by
 induction its with
 |nil=>rfl
 |cons a l ih =>
  rw[Bf,List.range_succ_eq_map,Ie];show a::(List.map Nat.succ (List.range l.length)).filterMap (fun i=>(a::l)[i]?)=a::l;rw[Ls];exact congrArg (a :: ·) ih
theorem q8t(its:List Value):Qn its.toArray none none (some (-1))=its.reverse.toArray:=by
 unfold Qn;have e:Fy none none (some (-1)) its.toArray.size=((its.length:Int)-1,-1,-1):=by
  simp[Fy]
 rw[e];congr 1;show(Sw ((its.length:Int)-1) (-1) (-1)).filterMap _=_;have c:(if (-1:Int)>0 then(if (its.length:Int)-1 < -1 then(-1-((its.length:Int)-1) + -1-1) / -1 else 0) else(if (its.length:Int)-1 > -1 then((its.length:Int)-1 - -1 - -1-1) / (- -1) else 0)).toNat=its.length:=by
  rw[if_neg (by decide),show(- -1:Int)=1 from rfl,Int.ediv_one];split<;>lia
 unfold Sw;simp only[c];rw[z4n,List.filterMap_reverse];congr 1;have:=range_all its;simpa using this
def tRev(K:Ag)(te:TE)(tk:TO):TE:=fun σ H Q=>te σ H fun x H1=>tk σ H1 fun l H2=>∃a xs,l=some (-1)/\x=.ref a/\SqL K H2 a xs/\∀p,H2 p=none->Q (.ref p) (upd H2 p (.lst xs.reverse))
theorem pe_rev{X:Cx}{e k:Expr}{p2 pos:Pos}{te:TE}{tk:TO}(K:Ag)(hK:X.K=K)(he:PE X e te)(hk:PO X (some k) tk):PE X (.Subscript e (.Slice none none (some k) p2) pos) (tRev K te tk):=by
 subst hK;intro pins s σ H Q I h;refine Pc (thn (he pins s σ H _ I h) fun v s1 ⟨x,H1,I1,r1,q1⟩=>?_);refine wpAny_Slice (Ac (Ac (thn (hk pins s1 σ H1 _ I1 q1) fun vu s3 ⟨u,H3,I3,pu,q3⟩=>?_)));obtain⟨a,xs,rfl,rfl,hx,q⟩:=q3;cases r1;have I4:Inv X pins σ H3 { s3 with heap:=s3.heap.push { cls:=.type "slice",data:=.fields #[.none,.none,vu] } }:=I3.kept (t':=s3.toks) fun b ob q=>Ai _ q;obtain⟨its,r,ht,hz⟩:=I4.list hx;have hlen:=r.length;refine tail_any ht.isList.typeIs slot_list_getitem.lookup ?_ (by with_unfolding_all rfl);refine Nb ht.isList (Qm ..) .none .none pu (by simp) ?_ (by rw[Av]<;>lia);rw[q8t];refine⟨.ref _,_,I4.laid (t':=s3.toks) (fun b ob q=>Ai _ q) (Ak _) ?_,rfl,q _ (I4.hok.fresh (Ak _))⟩;exact⟨by rw[Qb];exact hz,_,0,r.reverse,Ar _ rfl⟩
section
variable{X:Cx}
theorem z7r:CallR X (.type "range") (fun xs H Q=>∃j,xs=[.int j]/\∀p,H p=none->Q (.ref p) (upd H p (.rng 0 j))):=by
 intro pins s σ H xs us Q I r h;obtain⟨j,rfl,q⟩:=h;obtain⟨u,rfl,⟨t,rfl⟩⟩:=vals1 r;exact call_range_1 ⟨.ref s.heap.objs.size,_,I.laid (o:=.rng 0 j) (t':=s.toks+1+1) (fun b u e=>Ai _ e) (Ak _) ⟨s.toks,t,s.toks+1,Ar _ rfl⟩,rfl,q _ I.fresh⟩
end
end L2
namespace HD
open PySem PySem.W PyProof.Rows
theorem end0:(∃f,endAt 0 t=some f)/\through t=true\/endAt 0 t=none/\through t=false:=by
 unfold endAt through;obtain⟨cur,code,pos,stack⟩:=t;cases stack with
 |cons a r=>exact .inr ⟨by cases cur<;>rfl,rfl⟩
 |nil =>
  cases cur with
  |pure f =>
   cases f with
   |done f=>simp_all
   |_=>simp_all
  |_=>exact .inr ⟨rfl,rfl⟩
theorem z3h{tb:String->Option Dm}{p:Program}{w:World}{n₀:Nat}{ann:Option Value}:∀{n:Nat} {s s':Ae} {t:Thread} {f:Flow} {c:Code} {q:Pos},segRun tb p w n₀ ann 0 n s t=some (f,s',c,q)->topRun tb p w n₀ ann n s t=some s'
 |0,_,_,_,_,_,_,h=>by cases h
 |n+1,s,s',t,f,c,q,h=>by
  unfold segRun at h;unfold topRun;rcases end0 (t:=t) with⟨⟨f',e⟩,th⟩|⟨e,th⟩
  ·rw[e] at h;rw[th];cases h;rfl
  ·rw[e] at h;rw[th];dsimp only at h ⊢;cases ok:stepOk n₀ ann t with
   |false=>rw[ok] at h;cases h
   |true =>
    rw[ok] at h;dsimp only at h ⊢;cases st:step (denote tb) p w s t with
    |go s1 t1=>rw[st] at h;exact z3h h
    |halt _ _=>rw[st] at h;cases h
def mkT(l:List Obj):BT:=(l.foldl (fun(a:BT×Nat) o=>(a.1.ins a.2 o,a.2+1)) (BT.nil,0)).1
noncomputable def bootT (P:Params) (os:OsState):SharedT:=⟨mkT (boot_heap P).objs.toList,11,(boot_heap P).life,#[],boot_drawn,boot_toks,os⟩
theorem x0o(P:Params)(os:OsState):(bootT P os).abs=⟨boot_heap P,#[],boot_drawn,boot_toks,os⟩:=by kernel_rfl
theorem z7s(P:Params):((boot_heap P).isNs Cj&&(#[]:Array GenState).size==0,(boot_heap P).objs.size,(boot_heap P).nsMap Cj "__annotations__")=(true,11,some (.ref 6)):=by kernel_rfl
theorem left{Yf:Ae->α}{Ya:World->α}(e:opening p=plainProg p.main.scope.names)(hN:Nat.ble 600 N=true)(f:∀s,fenceModules? p s=some s)(h:∀(w:World) (os:OsState),(segRunT Qv p w 11 (some (.ref 6)) 0 N (bootT w.params os) (topStub p)).map (fun r=>((staticsOk (Il p.main.body) (boot_heap w.params) r.2.1.abs.heap&&namesBound p r.2.1.abs.heap&&gensDone r.2.1.abs&&laidKept (boot_heap w.params) r.2.1.abs.heap),
   openSeen q loose (Il p.main.body) Xt true r.2.1.abs,Yf r.2.1.abs))=some (true,openGood q loose,Ya w)):LeftO p q loose Xt Yf Ya N:=fun w=>by
 obtain⟨⟨hp,gs,d,k,os⟩,e1,e2⟩:=Ed.mp (boot_open e hN f w);obtain⟨rfl,rfl,rfl,rfl⟩:hp=boot_heap w.params/\gs=#[]/\d=boot_drawn/\k=boot_toks:=by simpa using e2
 obtain⟨z1,z2,z3⟩:_/\_/\_:=by simpa only[Prod.mk.injEq] using z7s w.params
 obtain⟨⟨fl,st,c,ps⟩,r1,r2⟩:=Ed.mp (h w os);obtain⟨l1,l2,l3⟩:_/\_/\_:=by simpa only[Prod.mk.injEq] using r2
 have r:=z3h (segRun_of r1);rw[x0o] at r;have t:topFrom Qv p w N ⟨boot_heap w.params,#[],boot_drawn,boot_toks,os⟩=some st.abs:=by
  unfold topFrom;rw[z1,z2,z3,r];show(match staticsOk (Il p.main.body) (boot_heap w.params) st.abs.heap&&namesBound p st.abs.heap&&gensDone st.abs&&laidKept (boot_heap w.params) st.abs.heap with|true=>_|false=>_)=_;rw[l1]
 unfold openEnds;rw[e1];show(topFrom Qv p w N _).map _=_;rw[t];exact congrArg some (Prod.ext l2 l3)
end HD
set_option maxHeartbeats 4000000
namespace K
open PySem L2 TX SB HM PM
def top(i:Nat):Stmt:=PySem.Challenge.pw_renamehall_k69_whole_long_books.main.body.getD i (.Pass ⟨0,0,0,0⟩)
structure Txt (mg:Str->Option Value):Prop where
 b_all:mg "all" = none
 b_bool:mg "bool" = none
 b_dict:mg "dict" = none
 b_enumerate:mg "enumerate" = none
 b_int:mg "int" = none
 b_isinstance:mg "isinstance" = none
 b_len:mg "len" = none
 b_list:mg "list" = none
 b_max:mg "max" = none
 b_min:mg "min" = none
 b_range:mg "range" = none
 b_reversed:mg "reversed" = none
 b_sorted:mg "sorted" = none
 b_str:mg "str" = none
 b_tuple:mg "tuple" = none
 NAME_SIGNS:∃t,mg "NAME_SIGNS" = some (.str (Ad "abcdefghijklmnopqrstuvwxyzABCDEFGHIJKLMNOPQRSTUVWXYZ0123456789-_.") t)
 MOST_SIGNS:∃t,mg "MOST_SIGNS" = some (.int 12 t)
 MOST_NAMES:∃t,mg "MOST_NAMES" = some (.int 6 t)
structure Calls (P:Program) (w:World) (K:Ag) (mg:Str->Option Value) (base:Heap):Prop where
 draw:Cal P w K mg base "_law_draw" 1 ["_law_feed", "_law_many"] spDraw
section
variable{P:Program}{w:World}{K:Ag}{mg:Str->Option Value}{base:Heap}
abbrev z1v:Stmt:=top 39
theorem sc_draw:FnScope ["_law_feed", "_law_many", "_law_cell", "_law_number", "_law_found"] ["_law_feed", "_law_many"] (defScope z1v):=by trivial
theorem x3t (D : Df K mg "_law_draw" z1v ["_law_feed", "_law_many"]) (T : Txt mg) : Cal P w K mg base "_law_draw" 1 ["_law_feed", "_law_many"] spDraw := by
  refine D.cal sc_draw (fun vs H Q E h => ?_) (fun f cdv A outer s H vs Q E hr h => ?_)
  · obtain ⟨a, b, m, rfl, _⟩ := h; rfl
  · obtain ⟨a, b, m, rfl, ⟨⟨i, j, ha⟩, ns, hb⟩, hm0, hm1, k⟩ := h;refine ⟨_, (q0c (q2s (q0p q0q (q1m (ix_k K rfl) (pv 0) q0g (fun _ _ => rfl)) q0g) (z2q (pv 0) q0g q5s)) (q0c (q1j (q0s (eq_k K rfl hr) (q1m (ix_k K rfl) (pv 0) q0g (fun _ _ => rfl)) q0g (nomark _)) (q0c (q0o (i := 2) sc_draw.nd rfl (by first | exact Or.inl rfl | exact Or.inr rfl) (q1m (ix_k K rfl) (pv 0) q0g (fun _ _ => rfl))) (q0c (q1j (q0s z9f (q0i (q1v K rfl) (by rfl) T.b_len Bk (q0a (q1m (ix_k K rfl) (pv 0) q0g (fun _ _ => rfl)) q0d)) q0g (nomark _)) (q0f (q0o (i := 2) sc_draw.nd rfl (by first | exact Or.inl rfl | exact Or.inr rfl) (q1m (ix_k K rfl) (q1m (ix_k K rfl) (pv 0) q0g (fun _ _ => rfl)) (q0p q6b (q1m (ix_k K rfl) (pv 0) q0g (fun _ _ => rfl)) (q0i (q1v K rfl) (by rfl) T.b_len Bk (q0a (q1m (ix_k K rfl) (pv 0) q0g (fun _ _ => rfl)) q0d))) (fun _ _ => rfl)))) q0n) (q0c (q1j (q0s op_lt (pv 2) (q0p op_pow q0g q0g) (nomark _)) (q0c (q0o (i := 3) sc_draw.nd rfl (by first | exact Or.inl rfl | exact Or.inr rfl) (q0p q6b (q0p q3y (q0p q0q (q0p q0q (q0p q6b (pv 2) q0g) (q0p q3y q0g (q1m (ix_k K rfl) (pv 0) q0g (fun _ _ => rfl)))) q0g) q0g) q0g)) (q0c (q0o (i := 3) sc_draw.nd rfl (by first | exact Or.inl rfl | exact Or.inr rfl) (q0p q6b (q0p q3y (pv 3) (q0p q0q (pv 3) q0g)) q0g)) (q0f (q0k (q0p q6b (q0p q4u (pv 3) q0g) (pv 1)))))) q0n) (q0f (q2s (pv 2) (z2q (pv 0) q0g q5s)))))) q0n) (q0c (q0o (i := 4) sc_draw.nd rfl (by first | exact Or.inl rfl | exact Or.inr rfl) (q0p q6b (q1m (ix_k K rfl) (pv 0) q0g (fun _ _ => rfl)) (pv 1))) (q0c (q2s (q0p q4u (q1m (ix_k K rfl) (pv 0) q0g (fun _ _ => rfl)) (pv 1)) (z2q (pv 0) q0g q5s)) (q0f (q0k (pv 4))))))), ?_⟩;have nba : b ≠ a := FeedAt.ne ⟨⟨i, j, ha⟩, ns, hb⟩;refine ⟨_, rfl, .inl ⟨a, _, 1, _, rfl, rfl, SqL.of ha, rfl, .inl ⟨_, _, rfl, rfl, _, rfl, a, _, 1, 1, rfl, rfl, ha, rfl, ?_⟩⟩⟩;generalize hH1 : upd H a _ = H1;have ha1 : H1 a = some (.lst [.ref b, .int (i + 1), .int j]) := by rw [← hH1]; exact q0b
    have hb1 : H1 b = some (.lst (ns.map V.int)) := by rw [← hH1, q0e nba]; exact hb
    have fd : ∀ (x y : Int), Fd a b H (upd H1 a (.lst [.ref b, .int x, .int y])) := fun x y => ⟨⟨⟨x, y, q0b⟩, ns, by rw [q0e nba]; exact hb1⟩, fun c o e hc => by rw [q0e hc, ← hH1, q0e hc]; exact e⟩
    have fd1 : Fd a b H H1 := ⟨⟨⟨_, _, ha1⟩, ns, hb1⟩, fun c o e hc => by rw [← hH1, q0e hc]; exact e⟩
    refine ⟨_, rfl, .inl ⟨a, _, 2, _, rfl, rfl, SqL.of ha1, rfl, .inl ⟨rfl, _, rfl, ?_⟩⟩⟩;have last : ∀ (H2 : Hp) (σ2 : St) (y : Int), H2 a = some (.lst [.ref b, .int (i + 1), .int y]) → (∀ x y : Int, Fd a b H (upd H2 a (.lst [.ref b, .int x, .int y]))) → σ2[0]? = some (some (.ref a)) → σ2[1]? = some (some (.int m)) → σ2.length = 5 →
        tSeq (tAsg (tOp (rI (fun _ j => 0 < j) fun i j => .int (i % j)) (tOp (rIx K) (tVar 0) (tC (.int 2))) (tVar 1)) (gName 4)) (tSeq (tAsg (tOp (rI CDiv fun i j => .int (i / j)) (tOp (rIx K) (tVar 0) (tC (.int 2))) (tVar 1)) (gSub (tVar 0) (tC (.int 2)) rSetL)) (tRet (tVar 4))) { nx := fun _ H' => Q .non H', rt := Q } σ2 H2 := by
      intro H2 σ2 y h2 f2 e0 e1 el;match σ2, e0, e1, el with
      | [x0, x1, x2, x3, x4], e0, e1, _ =>
        cases e0;cases e1;refine ⟨_, rfl, .inl ⟨a, _, 2, _, rfl, rfl, SqL.of h2, rfl, _, rfl, _, _, rfl, rfl, hm0, ?_⟩⟩;refine ⟨_, rfl, .inl ⟨a, _, 2, _, rfl, rfl, SqL.of h2, rfl, _, rfl, _, _, rfl, rfl, ⟨hm0, hm1⟩, _, rfl, a, _, 2, 2, rfl, rfl, h2, rfl, _, rfl, ?_⟩⟩;exact k _ _ (Ks _ (by lia)) (Ja _ hm0) (f2 _ _)
    refine ite2 (fun _ => ?_) (fun _ => last H1 _ j ha1 fd rfl rfl rfl);refine ⟨_, rfl, .inl ⟨a, _, 1, _, rfl, rfl, SqL.of ha1, rfl, ?_⟩⟩;refine ⟨_, rfl, .inl ⟨a, _, 0, _, rfl, rfl, SqL.of ha1, rfl, ⟨_, _, rfl, .inl ⟨_, SqL.of hb1, rfl⟩, ⟨_, _, rfl, rfl, _, rfl, ?_⟩⟩⟩⟩
    have rest : ∀ cell : Int, tSeq (tIfS (tTest (tOp (rI0 fun i j => .bl (decide (i < j))) (tVar 2) (tOp (rI CPow fun i j => .int (i ^ j.toNat)) (tC (.int 10)) (tC (.int 18)))))
          (tSeq (tAsg (tOp (rI (fun _ j => 0 < j) fun i j => .int (i % j)) (tOp rMulU (tOp rAddU (tOp rAddU (tOp (rI (fun _ j => 0 < j) fun i j => .int (i % j)) (tVar 2) (tC (.int 2147483647))) (tOp rMulU (tC (.int 613)) (tOp (rIx K) (tVar 0) (tC (.int 1))))) (tC (.int 7))) (tC (.int 48271))) (tC (.int 2147483647))) (gName 3))
            (tSeq (tAsg (tOp (rI (fun _ j => 0 < j) fun i j => .int (i % j)) (tOp rMulU (tVar 3) (tOp rAddU (tVar 3) (tC (.int 69621)))) (tC (.int 2147483629))) (gName 3))
              (tRet (tOp (rI (fun _ j => 0 < j) fun i j => .int (i % j)) (tOp (rI CDiv fun i j => .int (i / j)) (tVar 3) (tC (.int 64))) (tVar 1))))) tNext)
          (tAsg (tVar 2) (gSub (tVar 0) (tC (.int 2)) rSetL))
        { nx := fun σ2 H2 => tSeq (tAsg (tOp (rI (fun _ j => 0 < j) fun i j => .int (i % j)) (tOp (rIx K) (tVar 0) (tC (.int 2))) (tVar 1)) (gName 4)) (tSeq (tAsg (tOp (rI CDiv fun i j => .int (i / j)) (tOp (rIx K) (tVar 0) (tC (.int 2))) (tVar 1)) (gSub (tVar 0) (tC (.int 2)) rSetL)) (tRet (tVar 4))) { nx := fun _ H' => Q .non H', rt := Q } σ2 H2, rt := Q }
        [some (.ref a), some (.int m), some (.int cell), none, none] H1 := by
      intro cell;refine ⟨_, rfl, _, _, rfl, rfl, ⟨by decide, by decide, by decide⟩, _, _, rfl, rfl, _, rfl, ?_⟩;refine ite2 (fun _ => ?_) (fun _ => ?_)
      · refine ⟨_, rfl, _, _, rfl, rfl, (by show (0 : Int) < 2147483647; decide), ?_⟩;refine ⟨_, rfl, .inl ⟨a, _, 1, _, rfl, rfl, SqL.of ha1, rfl, .inl ⟨_, _, rfl, rfl, .inl ⟨by decide, by decide⟩, .inl ⟨_, _, rfl, rfl, .inl ⟨_, _, rfl, rfl, .inl ⟨_, _, rfl, rfl, .inr ⟨by decide, by decide⟩, _, _, rfl, rfl, (by show (0 : Int) < 2147483647; decide), ?_⟩⟩⟩⟩⟩⟩;generalize hn : ((cell % 2147483647 + 613 * (i + 1) + 7) * 48271) % 2147483647 = n;have n0 : 0 ≤ n := by rw [← hn]; exact Ks _ (by decide)
        have n1 : n < 2147483647 := by rw [← hn]; exact Ja _ (by decide)
        refine ⟨_, rfl, _, rfl, .inl ⟨_, _, rfl, rfl, .inl ⟨_, _, rfl, rfl, .inl ⟨by lia, by lia⟩, _, _, rfl, rfl, (by show (0 : Int) < 2147483629; decide), ?_⟩⟩⟩;refine ⟨_, rfl, _, _, rfl, rfl, ⟨by decide, by decide⟩, _, rfl, _, _, rfl, rfl, hm0, ?_⟩;exact k _ _ (Ks _ (by lia)) (Ja _ hm0) fd1
      · refine ⟨_, rfl, _, rfl, a, _, 2, 2, rfl, rfl, ha1, rfl, ?_⟩;refine last _ _ cell q0b (fun x y => ?_) rfl rfl rfl;have := fd x y;rw [x2m];exact this
    refine ite2 (fun hl => ?_) (fun _ => rest _);have hne : ns.map V.int ≠ [] := by
      intro z;rw [z] at hl;simp at hl
    obtain ⟨x, hx, ex⟩ := x2y (i + 1) hne;obtain ⟨c, rfl⟩ : ∃ c, x = V.int c := by
      obtain ⟨c, _, e⟩ := Am.mp hx;exact ⟨c, e.symm⟩
    refine ⟨_, rfl, .inl ⟨a, _, 0, _, rfl, rfl, SqL.of ha1, rfl, ⟨_, rfl, .inl ⟨a, _, 1, _, rfl, rfl, SqL.of ha1, rfl, ⟨_, rfl, .inl ⟨a, _, 0, _, rfl, rfl, SqL.of ha1, rfl, ⟨_, _, rfl, .inl ⟨_, SqL.of hb1, rfl⟩, _, _, rfl, rfl, ?_, ?_⟩⟩⟩⟩⟩⟩⟩
    · have : 0 < (ns.map V.int).length := by
        cases e : ns.map V.int with
        | nil => exact absurd e hne
        | cons _ _ => simp
      show (0 : Int) < ((ns.map V.int).length : Int);lia
    · exact .inl ⟨b, _, _, _, rfl, rfl, SqL.of hb1, ex, rest c⟩
theorem q1i(p:Pth):(vP p).length=p.length:=Aa _
theorem q3r{q:Pth}(h:q≠[]):cutV (vP q) none (some (-1))=vP q.dropLast/\¬(HT.sIx (vP q).length 0 none=0/\HT.sIx (vP q).length (vP q).length (some (-1))=(vP q).length):=by
 have hl:=Bs.mpr h;have e:HT.sIx (vP q).length (vP q).length (some (-1))=q.length-1:=by
  show(if (-1:Int)<0 then((-1:Int)+((vP q).length:Int)).toNat else min (-1:Int).toNat (vP q).length)=_;rw[if_pos (by decide),q1i];lia
 refine⟨?_,fun z=>by rw[e,q1i] at z;lia⟩;unfold cutV;rw[e];show((vP q).drop 0).take _=_;rw[Jm];show(vP q).take (q.length-1-0)=_;rw[Je,<- Cp,<- Fi]
theorem q8u{q:Pth}(h:q≠[]):atI (vP q) (-1)=some (.str (mk (q.getLastD []))):=by
 have hl:=Bs.mpr h;unfold atI ixN;rw[if_neg (by decide),if_pos (by rw[q1i];lia)];have e:((-1:Int)+((vP q).length:Int)).toNat=q.length-1:=by rw[q1i];lia
 show(vP q)[((-1:Int)+((vP q).length:Int)).toNat]?=_;rw[e,Au,<- List.getLast?_eq_getElem?,Ef,Et h];rfl
theorem z7t{q:Pth}(h:okP q):okN (q.getLastD []):=by
 rw[Ef,Et h.ne];exact h.all _ (List.getLast_mem h.ne)
end
end K
set_option maxHeartbeats 4000000
namespace K
open PySem L2 TX SB HM PM
section
variable{P:Program}{w:World}{K:Ag}{mg:Str->Option Value}{base:Heap}
theorem z3i:∀{p q:Pth},kP p=kP q->p=q
 |[],[],_=>rfl
 |[],_::_,h=>by cases h
 |_::_,[],h=>by cases h
 |a::p,b::q,h=>by
  unfold kP at h;rw[Ao,Ao] at h;injection h with h1 h2;injection h1 with h1;rw[SB.mk_inj h1,z3i h2]
theorem z7u{rs:List HRow}{p:Pth}(h:∀r∈rs,r.1≠p):valV (rs.map fun r=>(kP r.1,r.2)) (kP p)=none:=by
 induction rs with
 |nil=>rfl
 |cons r rs ih =>
  rw[Ao,q1c (fun z=>h r Aj (z3i z))];exact ih fun x hx=>h x (Ah _ hx)
theorem q7b{rs:List HRow}{r:HRow}(hr:r∈rs)(nd:(rs.map (·.1)).Nodup):valV (rs.map fun r=>(kP r.1,r.2)) (kP r.1)=some r.2:=by
 induction rs with
 |nil=>cases hr
 |cons x rs ih =>
  rw[Ao,Cg] at nd;rcases Ba.mp hr with rfl|hr
  ·rw[Ao];exact q1h rfl
  ·rw[Ao,q1c (fun z=>nd.1 (by rw[z3i z];exact Am.mpr ⟨r,hr,rfl⟩))];exact ih hr nd.2
theorem q8v{rs:List HRow}{p:Pth}{v:V}(h:∀r∈rs,r.1≠p):putK (rs.map fun r=>(kP r.1,r.2)) (kP p) v=(rs++[(p,v)]).map fun r=>(kP r.1,r.2):=by
 rw[z9w v (z7u h),Al];rfl
def lenAt(L:Addr)(H:Hp):Nat:=match H L with|some (.lst xs)=>xs.length|_=>0
theorem z3j{L:Addr}{H:Hp}{xs:List V}(h:H L=some (.lst xs)):lenAt L H=xs.length:=by unfold lenAt;rw[h]
theorem ers_map{α β:Type}(f:α->β):∀(l:List α) (k:Nat),(l.map f).eraseIdx k=(l.eraseIdx k).map f
 |[],_=>rfl
 |_::_,0=>rfl
 |a::l,k+1=>by show f a::(l.map f).eraseIdx k=f a::(l.eraseIdx k).map f;rw[ers_map f l k]
theorem z3k{α:Type}{z:α}:∀{l:List α} {k:Nat},l[k]?=some z->l.Perm (z::l.eraseIdx k)
 |[],_,h=>by cases h
 |a::l,0,h=>by cases h;exact List.Perm.refl _
 |a::l,k+1,h=>by
  show(a::l).Perm (z::a::l.eraseIdx k);exact((z3k (l:=l) (k:=k) h).cons a).trans (List.Perm.swap _ _ _)
abbrev vI(ks:List Nat):List V:=ks.map fun k:Nat=>V.int (k:Int)
theorem dts_I{H:Hp}:∀ks:List Nat,Dts K H (vI ks) (ks.map fun k:Nat=>PyData.int (k:Int))
 |[]=>.nil
 |_::ks=>.cons (.int _) (dts_I ks)
theorem lay_I:∀ks:List Nat,Dw (ks.map fun k:Nat=>PyData.int (k:Int))=true
 |[]=>by simp[Dw]
 |_::ks=>by rw[Ao];simp only[Dw,Gb,lay_I ks,Bool.and_self]
theorem dep_I:∀ks:List Nat,Fh (ks.map fun k:Nat=>PyData.int (k:Int))<=50
 |[]=>by simp[Fh]
 |_::ks=>by have:=dep_I ks;rw[Ao];simp only[Fh,Ji];lia
theorem ne_noI{H:Hp}{a b:Addr}{ks:List Nat}{Q:VK}(ha:H a=some (.lst (vI ks)))(hb:H b=some (.lst []))(k:Q (.bl (!decide (ks=[]))) H):rNeU K (.ref a) (.ref b) H Q:=by
 refine .inr ⟨_,_,.lst (SqL.of ha) (dts_I ks),.lst (SqL.of hb) .nil,by simp only[Gb,lay_I],by simp[Gb,Dw],?_,?_⟩
 ·have:=dep_I ks;simp only[Ji];lia
 ·have e:Fs (.list (ks.map fun k:Nat=>PyData.int (k:Int))) (.list [])=decide (ks=[]):=by cases ks<;>simp[Fs,Ia]
  rw[e];exact k
structure MxInv (H:Hp) (a b Lf M:Addr) (ks:List Nat) (H':Hp) (kl kf:List Nat):Prop where
 fd:Fd a b H H'
 l:H' Lf=some (.lst (vI kl))
 m:H' M=some (.lst (vI kf))
 p:(kl++kf).Perm ks
theorem MxInv.go{H:Hp}{a b Lf M:Addr}{ks:List Nat}{H' H2:Hp}{kl kf:List Nat}(x:MxInv H a b Lf M ks H' kl kf)(fd:Fd a b H' H2)(hL:Lf≠a)(hM:M≠a):MxInv H a b Lf M ks H2 kl kf:=⟨x.fd.trans fd,fd.at x.l hL,fd.at x.m hM,x.p⟩
theorem MxInv.mv{H:Hp}{a b Lf M:Addr}{ks:List Nat}{H':Hp}{kl kf:List Nat}{k z:Nat}(x:MxInv H a b Lf M ks H' kl kf)(F:FeedAt H a b)(hL:H Lf=none)(hM:H M=none)(n:M≠Lf)(hz:kl[k]?=some z):
  MxInv H a b Lf M ks (upd (upd H' Lf (.lst ((vI kl).eraseIdx k))) M (.lst (vI kf++[.int (z:Int)]))) (kl.eraseIdx k) (kf++[z]):=by
 refine⟨(x.fd.put F hL).put F hM,?_,by rw[q0b];show _=some (HO.lst ((kf++[z]).map _));rw[Al];rfl,?_⟩
 ·rw[q0e n.symm,q0b,ers_map]
 ·refine List.Perm.trans ?_ x.p;have e:kl.Perm (z::kl.eraseIdx k):=z3k hz;have e2:(kl.eraseIdx k++(kf++[z])).Perm (z::(kl.eraseIdx k++kf)):=by
   rw[<- Bp];exact List.perm_append_singleton _ _
  exact e2.trans (List.Perm.append_right kf e.symm)
def spMixed:Sp:=fun vs H Q _=>∃a b L ks,vs=[.ref a,.ref L]/\FeedAt H a b/\H L=some (.lst (vI ks))/\ks.length<=60/\∀M ks' H',Fd a b H H'->H M=none->H' M=some (.lst (vI ks'))->ks'.Perm ks->Q (.ref M) H'
abbrev q8w:Stmt:=top 40
theorem sc_mixed:FnScope ["_law_feed", "_law_rows", "_law_left", "_law_found"] ["_law_feed", "_law_rows"] (defScope q8w):=by trivial
theorem x0p(D:Df K mg "_law_mixed" q8w ["_law_feed", "_law_rows"])(T:Txt mg)(C:Calls P w K mg base):Cal P w K mg base "_law_mixed" 2 ["_law_feed", "_law_rows"] spMixed:=by
 refine D.cal sc_mixed (fun vs H Q E h=>?_) (fun f cdv A outer s H vs Q E hr h=>?_)
 ·obtain⟨a,b,L,ks,rfl,_⟩:=h;rfl
 ·obtain⟨a,b,L,ks,rfl,F,hl,h60,k⟩:=h;refine⟨_,(q0c (q0o (i:=2) sc_mixed.nd rfl (by trivial) (q0y (q7v K rfl) (by rfl) T.b_list (by decide +kernel) (q0a (pv 1) q0d))) (q0c (q0o (i:=3) sc_mixed.nd rfl (by trivial) (q6g q0d)) (q0c (z9c Dy (q0s (ne_k K rfl hr) (pv 2) (q6g q0d) (nomark _)) (q0f (q1d (@bm_k _ _ _ _ _ _ _ _ _ _ _ _ K rfl Co Em En q2g (pv 3) (q0a (@bm_k _ _ _ _ _ _ _ _ _ _ _ _ K rfl Co PySem.F.slot_list_pop PySem.F.type_list_pop z9n (pv 2) (q0a (pe_c C.draw hr (q0a (pv 0) (q0a (q0i (q1v K rfl) (by rfl) T.b_len Bk (q0a (pv 2) q0d)) q0d))) q0d) (by rfl) (by rfl) (by rfl) (by rfl) (by rfl)) q0d) (by rfl) (by rfl) (by rfl) (by rfl) (by rfl))))) (q0f (q0k (pv 3)))))),?_⟩;refine⟨_,rfl,L,_,rfl,.inl (SqL.of hl),fun Lf hLf=>⟨by show 0<=sizeLine;decide,fun M hM=>?_⟩⟩;have s1:=(Same.refl H).new (o:=.lst (vI ks)) hLf;have s2:=s1.new (o:=.lst []) hM;have hML:M≠Lf:=fun z=>by rw[z,q0b] at hM;cases hM
  have hMH:H M=none:=s1.free hM;have hLa:Lf≠a:=(F.na hLf).symm;have hMa:M≠a:=(F.na hMH).symm;have I0:MxInv H a b Lf M ks (upd (upd H Lf (.lst (vI ks))) M (.lst [])) ks [] :=
   ⟨(Fd.refl F).same s2,by rw[q0e hML.symm];exact q0b,q0b,by rw[Bv]⟩
  refine z9e (fun σ3 H3=>∃kl kf,σ3=[some (.ref a),some (.ref L),some (.ref Lf),some (.ref M)]/\MxInv H a b Lf M ks H3 kl kf) (fun _ H3=>lenAt Lf H3) ⟨ks,[],rfl,I0⟩ ?_ ?_
  ·rintro σ3 H3 ⟨kl,kf,rfl,I⟩;have hlen:kl.length+kf.length=ks.length:=by rw[<- Af];exact I.p.length_eq
   refine⟨_,rfl,by show 0<=sizeLine;decide,fun E hE=>?_⟩;have sE:=(Same.refl H3).new (o:=.lst []) hE;have I1:MxInv H a b Lf M ks (upd H3 E (.lst [])) kl kf:=⟨I.fd.same sE,sE _ _ I.l,sE _ _ I.m,I.p⟩
   refine ne_noI I1.l q0b ⟨_,rfl,ite2 (fun h=>?_) (fun h=>?_)⟩
   ·have hne:kl≠[]:=by simpa using h
    have hpos:=Bs.mpr hne;refine⟨_,rfl,.inl ⟨rfl,_,SqL.of I1.m⟩,_,rfl,.inl ⟨rfl,_,SqL.of I1.l⟩,_,rfl,_,rfl,_,_,rfl,.inl ⟨_,SqL.of I1.l,rfl⟩,a,b,_,rfl,I1.fd.feed,by rw[Aa];lia,by rw[Aa];lia,fun r H4 r0 r1 fd4=>?_⟩;rw[Aa] at r1;have I2:=I1.go fd4 hLa hMa;obtain⟨v,hv1,hv2⟩:=z5z (xs:=kl) r0 r1;obtain⟨j,hj1,hj2,hj3,_,_⟩:=q8j hv2;refine⟨Lf,_,r,j,.int (v:Int),rfl,rfl,I2.l,by lia,by lia,by rw[Aa];exact hj1,by rw[Au,hj2];rfl,?_⟩;refine⟨M,_,_,rfl,rfl,by rw[q0e hML];exact I2.m,by rw[Aa];exact small' (by lia),?_⟩;have I3:=I2.mv F hLf hMH hML hj2;refine⟨⟨_,_,rfl,I3⟩,?_⟩;rw[z3j I3.l,z3j I.l,Aa,Aa,List.length_eraseIdx,if_pos hj3];lia
   ·have hz:kl=[]:=by simpa using h
    subst hz;exact⟨_,rfl,k M kf _ I1.fd hMH I1.m I1.p⟩
  ·intro σ3 H3 Q1 Q2 hq h;obtain⟨v,e,z,h⟩:=h;refine⟨v,e,z,fun E hE=>?_⟩;rcases h E hE with h|h
   ·obtain⟨h1,b1,h2,h3⟩:=h;exact .inl ⟨h1,b1,h2,hq _ _ h3⟩
   ·obtain⟨d,e,h1,h2,h3,h4,h5,b1,h6,h7⟩:=h;exact .inr ⟨d,e,h1,h2,h3,h4,h5,b1,h6,hq _ _ h7⟩
structure Hk (K:Ag) (c:Addr):Prop where
 cl:Cls K c
 b:NoAttr K c "blind"
 m:NoAttr K c "marks"
abbrev hF(bl:Bool)(d:Addr):List (Str×V):=[("blind",.bl bl),("marks",.ref d)]
structure HallAt (c:Addr) (H:Hp) (h d:Addr) (bl:Bool) (rows:List Rw):Prop where
 i:∃dx,H h=some (.ins c dx (hF bl d))
 d:H d=some (dR (rows.map rR))
theorem HallAt.same{c:Addr}{H H':Hp}{h d:Addr}{bl:Bool}{rows:List Rw}(x:HallAt c H h d bl rows)(s:Same H H'):HallAt c H' h d bl rows:=⟨x.i.imp fun dx e=>s _ _ e,s _ _ x.d⟩
def spAlike:Sp:=fun vs H Q _=>∃x y,vs=[.str x,.str y]/\(∀c∈tl x,c<128)/\(∀c∈tl y,c<128)/\x.length<=1000/\y.length<=1000/\Q (.bl (decide ((tl x).map Hv=(tl y).map Hv))) H
abbrev q8x:Stmt:=top 17
theorem x0q:FnScope ["one", "other"] ["one", "other"] (defScope q8x):=by trivial
theorem x0r(D:Df K mg "alike" q8x ["one", "other"])(T:Txt mg):Cal P w K mg base "alike" 1 ["one", "other"] spAlike:=by
 refine D.cal x0q (fun vs H Q E h=>?_) (fun f cdv A outer s H vs Q E hr h=>?_)
 ·obtain⟨x,y,rfl,_⟩:=h;rfl
 ·obtain⟨x,y,rfl,ax,ay,lx,ly,k⟩:=h;refine⟨_,(q0f (q0k (q2t (eq_k K rfl hr) (@z9t _ _ _ _ _ _ _ _ _ K rfl Cf Og Oh z2v (pv 0) (by rfl) (by rfl)) (@z9t _ _ _ _ _ _ _ _ _ K rfl Cf Og Oh z2v (pv 1) (by rfl) (by rfl)) (nomark _)))),?_⟩;refine⟨_,rfl,rfl,_,rfl,rfl,small (by lia),⟨_,rfl,rfl,_,rfl,rfl,small (by lia),.inl ⟨rfl,?_⟩⟩⟩;have e:decide ((V.str (Kz x))=V.str (Kz y))=decide ((tl x).map Hv=(tl y).map Hv):=by
   rw[<- TX.lower ax,<- TX.lower ay];by_cases h:Kz x=Kz y
   ·rw[h];simp
   ·rw[decide_eq_false (fun z=>h (V.str.inj z)),decide_eq_false (fun z=>h (TX.ext z))]
  rw[e];exact k
structure CallsH (P:Program) (w:World) (K:Ag) (mg:Str->Option Value) (base:Heap):Prop where
 alike:Cal P w K mg base "alike" 1 ["one", "other"] spAlike
theorem q3s{p:Pth}(h:Low p):Low p.dropLast:=fun n hn=>h n (List.dropLast_subset _ hn)
def spOneP(c:Addr):Sp:=fun vs H Q _=>∃h p q bl dx fs one other,vs=[.ref h,.ref p,.ref q]/\H h=some (.ins c dx fs)/\fs.lookup ("blind" : Str)=some (V.bl bl)/\H p=some (.tup (vP one))/\H q=some (.tup (vP other))/\okP one/\okP other /\
 ∀H',Same H H'->Q (.bl (decide (fold bl one=fold bl other))) H'
abbrev q1k:Stmt:=inClass (top 22) 3
theorem q3v:FnScope ["self", "one", "other"] ["self", "one", "other"] (defScope q1k):=by trivial
theorem z0j{c:Addr}(D:Mf K c "is_one_place" "Hall.is_one_place" q1k ["self", "one", "other"])(hk:Hk K c)(T:Txt mg)(C:CallsH P w K mg base):MCal P w K mg base c "is_one_place" 2 ["self", "one", "other"] (spOneP c):=by
 refine D.cal hk.cl q3v (fun vs H Q E h=>?_) (fun f cdv A outer s H vs Q E hr h=>?_)
 ·obtain⟨h,p,q,bl,dx,fs,one,other,rfl,_⟩:=h;rfl
 ·obtain⟨h,p,q,bl,dx,fs,one,other,rfl,hh,hb,hp,hq,ok1,ok2,k⟩:=h;refine⟨_,(q0c (q1j (q0s (ne_k K rfl hr) (q0r (sl_k K rfl) (pv 1) q0w (q0t (q4j q2b q0g))) (q0r (sl_k K rfl) (pv 2) q0w (q0t (q4j q2b q0g))) (nomark _)) (q0f (q0k q4g)) q0n) (q0c (q1j (@q4m _ _ _ K rfl (@q2k _ _ _ _ _ K rfl (pv 0) (by rfl)) (fun _=>rfl)) (q0f (q0k (pe_c C.alike hr (q0a (q1m (ix_k K rfl) (pv 1) (q4j q2b q0g) (fun _ _=>rfl)) (q0a (q1m (ix_k K rfl) (pv 2) (q4j q2b q0g) (fun _ _=>rfl)) q0d))))) q0n) (q0f (q0k (q2t (eq_k K rfl hr) (q1m (ix_k K rfl) (pv 1) (q4j q2b q0g) (fun _ _=>rfl)) (q1m (ix_k K rfl) (pv 2) (q4j q2b q0g) (fun _ _=>rfl)) (nomark _)))))),?_⟩;obtain⟨c1,c2⟩:=q3r ok1.ne;obtain⟨d1,d2⟩:=q3r ok2.ne;refine⟨_,rfl,_,rfl,_,rfl,.inr (.inr ⟨p,_,rfl,SqT.of hp,c2,fun p1 hp1=>?_⟩)⟩;rw[c1];have s1:=(Same.refl H).new (o:=.tup (vP one.dropLast)) hp1;refine⟨_,rfl,_,rfl,_,rfl,.inr (.inr ⟨q,_,rfl,SqT.of (s1 _ _ hq),d2,fun p2 hp2=>?_⟩)⟩;rw[d1];have s2:=s1.new (o:=.tup (vP other.dropLast)) hp2;have hp1':upd (upd H p1 (.tup (vP one.dropLast))) p2 (.tup (vP other.dropLast)) p1=some (.tup (vP one.dropLast)):=by
   rw[q0e (fun z=>by rw[<- z,q0b] at hp2;cases hp2)];exact q0b
  generalize hH2:upd (upd H p1 (.tup (vP one.dropLast))) p2 (.tup (vP other.dropLast))=H2 at s2 hp1';have hp2':H2 p2=some (.tup (vP other.dropLast)):=by rw[<- hH2];exact q0b
  have fe:=z1r (bl:=bl) ok1.ne ok2.ne;refine q5v hp1' hp2' (q3s ok1.low) (q3s ok2.low) ⟨_,rfl,ite2 (fun hne=>?_) (fun hne=>?_)⟩
  ·have hne':one.dropLast≠other.dropLast:=by simpa using hne
   have e:decide (fold bl one=fold bl other)=false:=decide_eq_false fun z=>hne' (fe.mp z).1;refine(?_:Q _ _);rw[<- e];exact k _ s2
  ·have heq:one.dropLast=other.dropLast:=by simpa using hne
   refine⟨_,rfl,h,c,dx,fs,_,rfl,s2 _ _ hh,hk.cl,hk.b,hb,_,rfl,?_⟩;have l1:=z7t ok1;have l2:=z7t ok2;cases bl with
   |true =>
    refine iteT ⟨_,rfl,_,rfl,.inr (.inl ⟨p,_,-1,_,rfl,rfl,SqT.of (s2 _ _ hp),q8u ok1.ne,?_⟩)⟩;refine⟨_,rfl,_,rfl,.inr (.inl ⟨q,_,-1,_,rfl,rfl,SqT.of (s2 _ _ hq),q8u ok2.ne,?_⟩)⟩;refine⟨_,_,rfl,by rw[q0z];exact l1.low,by rw[q0z];exact l2.low,by rw[q0l];have:=l1.few;lia,by rw[q0l];have:=l2.few;lia,?_⟩;rw[q0z,q0z];have e:decide (fold true one=fold true other)=decide (lowN (one.getLastD [])=lowN (other.getLastD [])):=by
     refine decide_eq_decide.mpr (fe.trans ⟨fun z=>by simpa using z.2,fun z=>⟨heq,by simpa using z⟩⟩)
    have:=k _ s2;rw[e] at this;exact this
   |false =>
    refine iteF ⟨_,rfl,_,rfl,.inr (.inl ⟨p,_,-1,_,rfl,rfl,SqT.of (s2 _ _ hp),q8u ok1.ne,?_⟩)⟩;refine⟨_,rfl,_,rfl,.inr (.inl ⟨q,_,-1,_,rfl,rfl,SqT.of (s2 _ _ hq),q8u ok2.ne,?_⟩)⟩;refine .inl ⟨rfl,?_⟩;have e:decide (fold false one=fold false other)=decide (V.str (mk (one.getLastD []))=V.str (mk (other.getLastD []))):=by
     refine decide_eq_decide.mpr (fe.trans ⟨fun z=>?_,fun z=>⟨heq,?_⟩⟩)
     ·have:=z.2;simp only[Bq,if_false] at this;rw[this]
     ·simp only[Bq,if_false];exact SB.mk_inj (V.str.inj z)
    have:=k _ s2;rw[e] at this;exact this
def spThere(c:Addr):Sp:=fun vs H Q _=>∃h d p bl rows place,vs=[.ref h,.ref p]/\HallAt c H h d bl rows/\H p=some (.tup (vP place))/\okP place/\(∀r∈rows,okP r.1) /\
 (∀H',Same H H'->(∀r∈rows,fold bl r.1≠fold bl place)->Q .non H')/\∀H' b r,Same H H'->r∈rows->fold bl r.1=fold bl place->H' b=some (.tup (vP r.1))->Q (.ref b) H'
structure CallsI (P:Program) (w:World) (K:Ag) (mg:Str->Option Value) (base:Heap) (c:Addr):Prop where
 m_is_one_place:MCal P w K mg base c "is_one_place" 2 ["self", "one", "other"] (spOneP c)
theorem z0k{H H':Hp}{d:Addr}{o:HO}(hd:H d=some o)(k:∀a u,a≠d->H a=some u->H' a=some u):Same H (upd H' d o):=fun a u e=>by
 by_cases z:a=d
 ·subst z;rw[q0b,<- hd];exact e
 ·rw[q0e z];exact k a u z e
abbrev q2p:Stmt:=inClass (top 22) 4
theorem sc_Hall_there:FnScope ["self", "place", "path"] ["self", "place"] (defScope q2p):=by trivial
theorem x0s{c:Addr}(D:Mf K c "there" "Hall.there" q2p ["self", "place"])(hk:Hk K c)(T:Txt mg)(C:CallsI P w K mg base c):MCal P w K mg base c "there" 3 ["self", "place"] (spThere c):=by
 refine D.cal hk.cl sc_Hall_there (fun vs H Q E h=>?_) (fun f cdv A outer s H vs Q E hr h=>?_)
 ·obtain⟨h,d,p,bl,rows,place,rfl,_⟩:=h;rfl
 ·obtain⟨h,d,p,bl,rows,place,rfl,hh,hp,ok,oks,k1,k2⟩:=h;refine⟨_,(q0c (x3e H rfl (q5k Dy rfl (@ditT_k _ _ _ _ K rfl (@q2k _ _ _ _ _ K rfl (pv 0) (by rfl))) (q0h (i:=2) sc_Hall_there.nd rfl (by trivial)) (q0f (q1j (@q4m _ _ _ K rfl (pe_m C.m_is_one_place hr (pv 0) (q0a (pv 2) (q0a (pv 1) q0d))) (fun _=>rfl)) (q0f (q0k (pv 2))) q0n)))) (q0f (q0k z2m))),?_⟩;obtain⟨dx,hi⟩:=hh.i;have hd:=hh.d;have hhd:h≠d:=fun z=>by rw[z,hd] at hi;cases hi
  have hpd:p≠d:=fun z=>by rw[z,hd] at hp;cases hp
  refine⟨d,(fun o v e=>by rw[hd] at e;cases e),?_⟩;refine⟨_,rfl,h,c,dx,_,_,rfl,hi,hk.cl,hk.m,rfl,d,_,rfl,hd,fun ob=>?_⟩;refine z6p (fun i σ' H'=>(∃x,σ'=[some (.ref h),some (.ref p),x])/\H' d=some (.frz ob (dR (rows.map rR)))/\(∀a u,a≠d->H a=some u->H' a=some u)/\∀r∈rows.take i,fold bl r.1≠fold bl place)
   ⟨⟨none,rfl⟩,q0b,fun a u n e=>by rw[q0e n];exact e,fun r hr=>by rw[Jn] at hr;cases hr⟩ (fun i σ' H' x=>x.2.1) ?_ ?_
  ·rintro i ky v b σ' H' hk' hb ⟨⟨x,rfl⟩,hfz,kp,hno⟩;obtain⟨r,hr,rfl,rfl⟩:∃r,rows[i]?=some r/\ky=kP r.1/\v=mV r.2:=by
    rw[Au,Au] at hk';cases e:rows[i]? with
    |none=>rw[e] at hk';cases hk'
    |some r=>rw[e] at hk';cases hk';exact⟨r,rfl,rfl,rfl⟩
   have hrm:=Aq hr;rw[q6w] at hb;refine⟨_,rfl,h,dx,_,rfl,kp _ _ hhd hi,rfl,_,rfl,_,rfl,h,b,p,bl,dx,_,r.1,place,rfl,kp _ _ hhd hi,rfl,hb,kp _ _ hpd hp,oks r hrm,ok,fun H2 s2=>⟨_,rfl,?_⟩⟩;have kp2:∀a u,a≠d->H a=some u->H2 a=some u:=fun a u n e=>s2 _ _ (kp a u n e);refine iteB (fun he=>?_) (fun he=>?_)
   ·refine⟨_,rfl,ob,_,s2 _ _ hfz,k2 _ b r (z0k hd kp2) hrm (of_decide_eq_true he) ?_⟩;rw[q0e (fun z=>by rw[z,hfz] at hb;cases hb)];exact s2 _ _ hb
   ·refine⟨⟨_,rfl⟩,s2 _ _ hfz,kp2,fun y hy=>?_⟩;rw[Bm,hr] at hy;rcases Ay.mp hy with hy|hy
    ·exact hno y hy
    ·cases Az.mp hy;exact of_decide_eq_false he
  ·rintro σ' H' ⟨⟨x,rfl⟩,hfz,kp,hno⟩;refine⟨ob,_,hfz,k1 _ (z0k hd kp) fun r hr=>hno r ?_⟩;rw[Aa,Aa,Bj];exact hr
def spBlind(c:Addr):Sp:=fun vs H Q _=>∃h d bl rows,vs=[.ref h]/\HallAt c H h d bl rows/\Q (.bl bl) H
abbrev q1w:Stmt:=inClass (top 22) 2
theorem q5q:FnScope ["self"] ["self"] (defScope q1w):=by trivial
theorem x0t{c:Addr}(D:Mf K c "is_blind" "Hall.is_blind" q1w ["self"])(hk:Hk K c)(T:Txt mg):MCal P w K mg base c "is_blind" 1 ["self"] (spBlind c):=by
 refine D.cal hk.cl q5q (fun vs H Q E h=>?_) (fun f cdv A outer s H vs Q E hr h=>?_)
 ·obtain⟨h,d,bl,rows,rfl,_⟩:=h;rfl
 ·obtain⟨h,d,bl,rows,rfl,hh,k⟩:=h;refine⟨_,(q0f (q0k (@q2k _ _ _ _ _ K rfl (pv 0) (by rfl)))),?_⟩;obtain⟨dx,hi⟩:=hh.i;exact⟨_,rfl,h,c,dx,_,_,rfl,hi,hk.cl,hk.b,rfl,k⟩
def spHRows(c:Addr):Sp:=fun vs H Q _=>∃h d bl rows,vs=[.ref h]/\HallAt c H h d bl rows/\rows.length<64/\(∀r∈rows,Low r.1) /\
 ∀L zs H',H L=none->Same H H'->RL H' L zs->(zs.map (·.2)).Perm rows->(zs.map (·.2.1)).Pairwise (fun a b=>pLt b a=false)->Q (.ref L) H'
abbrev q2w:Stmt:=inClass (top 22) 1
theorem z0l:FnScope ["self"] ["self"] (defScope q2w):=by trivial
theorem x0u{c:Addr}(D:Mf K c "rows" "Hall.rows" q2w ["self"])(hk:Hk K c)(T:Txt mg):MCal P w K mg base c "rows" 2 ["self"] (spHRows c):=by
 refine D.cal hk.cl z0l (fun vs H Q E h=>?_) (fun f cdv A outer s H vs Q E hr h=>?_)
 ·obtain⟨h,d,bl,rows,rfl,_⟩:=h;rfl
 ·obtain⟨h,d,bl,rows,rfl,hh,h64,hlow,k⟩:=h;refine⟨_,(q0f (q0k (q0i (z4k hr) (by rfl) T.b_sorted (by decide +kernel) (q0a (@z9t _ _ _ _ _ _ _ _ _ K rfl Nk Nl Nm z3b (@q2k _ _ _ _ _ K rfl (pv 0) (by rfl)) (by rfl) (by rfl)) q0d)))),?_⟩;obtain⟨dx,hi⟩:=hh.i;refine⟨_,rfl,h,c,dx,_,_,rfl,hi,hk.cl,hk.m,rfl,.inr (.inr (.inl ⟨rfl,.inr ⟨_,hh.d⟩⟩)),d,_,rfl,rfl,hh.d,fun v hv=>?_⟩;have s1:=(Same.refl H).new (o:=vwO v d) hv;refine⟨v,d,rows.map rR,rfl,q0b,s1 _ _ hh.d,by rw[Aa];exact h64,fun r hr=>?_,fun L as rs H' hL hp hs sm hLL prs=>?_⟩
  ·obtain⟨x,hx,rfl⟩:=Am.mp hr;exact hlow x hx
  ·obtain⟨rows',p',rfl⟩:=perm_map_inv hp rfl;obtain⟨zs,z1,z2,z3⟩:=zs_of prs rfl;refine k L zs H' (s1.free hL) (s1.trans sm) ⟨?_,z3⟩ (by rw[z2];exact p') ?_
   ·rw[hLL,<- z1,Bd];rfl
   ·have e:zs.map (·.2.1)=(rows'.map rR).map (·.1):=by rw[<- z2,Bd,Bd];rfl
    rw[e];exact hs
theorem z3l{α:Type}:∀{l:List α} {i:Nat} {r:α},l[i]?=some r->l=l.take i++r::l.drop (i+1)
 |[],_,_,h=>by cases h
 |a::l,0,_,h=>by cases h;rfl
 |a::l,i+1,r,h=>by show a::l=a::(l.take i++r::l.drop (i+1));rw[<- z3l (l:=l) (i:=i) h]
theorem z1w{α β:Type}{f:α->β}{l:List α}{i:Nat}{r r':α}(nd:(l.map f).Nodup)(hr:l[i]?=some r)(hr':r'∈l.take i):f r'≠f r:=by
 rw[z3l hr,Al,Ao] at nd;exact fun z=>(Rl.mp nd).2.2 _ (Am.mpr ⟨r',hr',rfl⟩) _ Aj z
structure InInv (c:Addr) (H:Hp) (x dx d Dr:Addr) (bl:Bool) (rows:List Rw) (ys:List (List Key×V)) (i:Nat) (H':Hp):Prop where
 ins:H' x=some (.ins c dx (hF bl d))
 d:H' d=some (dR ((rows.take i).map rR))
 r:H' Dr=some (.dT ys)
 k:∀a u,a≠x->H a=some u->H' a=some u
theorem InInv.same{c:Addr}{H H' H2:Hp}{x dx d Dr:Addr}{bl:Bool}{rows:List Rw}{ys:List (List Key×V)}{i:Nat}(v:InInv c H x dx d Dr bl rows ys i H')(s:Same H' H2):InInv c H x dx d Dr bl rows ys i H2:=⟨s _ _ v.ins,s _ _ v.d,s _ _ v.r,fun a u n e=>s _ _ (v.k a u n e)⟩
def spInit(c:Addr):Sp:=fun vs H Q _=>∃x dx L bl zs,vs=[.ref x,.ref L,.bl bl]/\H x=some (.ins c dx [])/\RL H L zs/\Hl bl (zs.map (·.2))/\zs.length<=60 /\
 ∀d H',H d=none->H' x=some (.ins c dx (hF bl d))->H' d=some (dR ((zs.map (·.2)).map rR))->(∀a u,a≠x->H a=some u->H' a=some u)->Q .non H'
structure CallsK (P:Program) (w:World) (K:Ag) (mg:Str->Option Value) (base:Heap) (c:Addr):Prop where
 m_there:MCal P w K mg base c "there" 3 ["self", "place"] (spThere c)
abbrev q0x:Stmt:=inClass (top 22) 0
theorem sc_Hall___init__:FnScope ["self", "rows", "blind", "drawers", "at", "path", "mark", "drawer"] ["self", "rows", "blind"] (defScope q0x):=by trivial
theorem x3u{c:Addr}(D:Kf K mg c "Hall" "Hall.__init__" q0x ["self", "rows", "blind"])(hk:Hk K c)(T:Txt mg)(C:CallsK P w K mg base c):KCal P w K mg base c "Hall" 4 ["self", "rows", "blind"] (spInit c):=by
 refine D.cal sc_Hall___init__ (fun vs H Q E h=>?_) (fun f cdv A outer s H vs Q E hr h=>?_)
 ·obtain⟨x,dx,L,bl,zs,rfl,_⟩:=h;rfl
 ·obtain⟨x,dx,L,bl,zs,rfl,hx,hl,hH,h60,k⟩:=h;refine⟨_,(q0c (@q5p _ _ _ _ _ _ _ _ K rfl (pv 0) (pv 2) (by rfl)) (q0c (@q5p _ _ _ _ _ _ _ _ K rfl (pv 0) z3a (by rfl)) (q0c (x0h (i:=3) ["path", "mark"] [] sc_Hall___init__.nd rfl (by trivial) rfl (@q4l _ _ _ _ K rfl (pv 1)) (fun _ _ _ _ _=>(@q1u _ _ _ _ (2) _ K rfl rfl (q0j (q0h (i:=0) (show(["path", "mark"]:List Str).Nodup by decide +kernel) rfl (by trivial)) (q0j (q0h (i:=1) (show(["path", "mark"]:List Str).Nodup by decide +kernel) rfl (by trivial)) q1e)) (by rfl) (by rfl))) (fun _ _ _ _ _=>(x2w (q6a (z2n (pv 1))))) (fun _ _ _ _ _=>(pv 0)) (fun _ _ _ _ _=>q4g) (q7j hr)) (q0f (q5k Dy rfl (@x1p _ _ _ _ _ _ _ _ K rfl rfl T.b_enumerate (q0a (pv 1) q0d) (by rfl)) (@q1u _ _ _ _ (2) _ K rfl rfl (q0j (q0h (i:=4) sc_Hall___init__.nd rfl (by trivial)) (q0j (@q1u _ _ _ _ (2) _ K rfl rfl (q0j (q0h (i:=5) sc_Hall___init__.nd rfl (by trivial)) (q0j (q0h (i:=6) sc_Hall___init__.nd rfl (by trivial)) q1e)) (by rfl) (by rfl)) q1e)) (by rfl) (by rfl)) (q0c (q0o (i:=7) sc_Hall___init__.nd rfl (by trivial) (q0r (sl_k K rfl) (pv 5) q0w (q0t (q4j q2b q0g)))) (q0c (q1j (pt_j (@PW.pt _ _ _ (z2o (q0s (ne_k K rfl hr) (pv 7) (q1z q0d) (nomark _)) (q8h (q6a (q9v (q7j hr) (pv 7) (pv 3))))))) (q0f q1n) q0n) (q0c (q1j (q6a (z5c (pe_m C.m_there hr (pv 0) (q0a (pv 5) q0d)))) (q0f q1n) q0n) (q0f (z6k (q7j hr) (@q2k _ _ _ _ _ K rfl (pv 0) (by rfl)) (pv 5) (pv 6) rfl)))))))))),?_⟩;have hLx:L≠x:=fun z=>by have e:=hl.at_;rw[z,hx] at e;cases e
  refine⟨_,rfl,_,rfl,x,c,dx,_,rfl,hx,hk.cl,hk.b,by decide,?_⟩;intro d hd;have hdx:d≠x:=fun z=>by rw[z,q0b] at hd;cases hd
  have hdH:H d=none:=by rw[q0e hdx] at hd;exact hd
  refine⟨_,rfl,x,c,dx,_,rfl,by rw[q0e hdx.symm];exact q0b,hk.cl,hk.m,by show 1<1000;decide,?_⟩;have pf:putF ("marks" : Str) (V.ref d) (putF ("blind" : Str) (V.bl bl) [])=hF bl d:=rfl;generalize hH3:upd (upd (upd H x (.ins c dx (putF ("blind" : Str) (.bl bl) []))) d (.dT [])) x (.ins c dx (putF ("marks" : Str) (.ref d) (putF ("blind" : Str) (.bl bl) [])))=H3;have k3:∀a u,a≠x->H a=some u->H3 a=some u:=fun a u n e=>by
   rw[<- hH3,q0e n,q0e (fun z=>by rw[z,hdH] at e;cases e),q0e n];exact e
  have i3:H3 x=some (.ins c dx (hF bl d)):=by rw[<- hH3,<- pf];exact q0b
  have d3:H3 d=some (.dT []):=by rw[<- hH3,q0e hdx];exact q0b
  have hl3:∀{H':Hp},(∀a u,a≠x->H a=some u->H' a=some u)->RL H' L zs:=fun{H'} kk=>⟨kk _ _ hLx hl.at_,fun z hz=>PR.same (hl.pr z hz) fun T' xs e=>kk _ _ (fun y=>by rw[y,hx] at e;cases e) e⟩
  refine⟨_,rfl,.inl ⟨L,rfl,⟨_,SqL.of (hl3 k3).at_⟩,fun Dr hDr=>?_⟩⟩;refine z4l (fun i ys H'=>H' Dr=some (.dT ys)/\Same H3 H'/\ys.length<=i/\i<=zs.length/\∀p,(p,none)∈(zs.take i).map (·.2)->(valV ys (kP p)).isSome=true) ⟨q0b,(Same.refl H3).new hDr,Ak _,Br _,fun p hp=>by rw[Jn] at hp;cases hp⟩ (fun i ys H' h=>⟨h.1,SqL.of (h.2.1 _ _ (hl3 k3).at_)⟩) ?_ ?_
  ·rintro i ys H' v hv ⟨hD',s',hlen,_,hsome⟩;obtain⟨z,hz,rfl⟩:=gR0 hv
   have hi:i<zs.length:=(Ax.mp hz).1;obtain⟨b,h1,h2⟩:=((hl3 k3).same s').pr z (Aq hz);refine⟨z.1,_,rfl,SqT.of h1,rfl,_,_,rfl,_,_,rfl,rfl,q2h,?_⟩;refine⟨_,rfl,_,rfl,?_⟩;refine iteB (fun hm=>?_) (fun hm=>?_)
   ·refine⟨_,rfl,kP z.2.1,b,rfl,by rw[q6w];exact h2,hD',small' (by lia),q0b,fun a u e=>?_,?_,hi,fun p hp=>?_⟩
    ·rw[q0e (fun y=>by rw[y] at e;rw[hDr] at e;cases e)];exact s' _ _ e
    ·have:=q2o ys (kP z.2.1) (.bl true);lia
    ·rw[z9v];by_cases e:kP p=kP z.2.1
     ·rw[if_pos e];rfl
     ·rw[if_neg e];rw[Bm,hz,Al] at hp;rcases Ay.mp hp with hp|hp
      ·exact hsome p hp
      ·exfalso;have e2:(p,none)=z.2:=Az.mp hp;exact e (by rw[<- e2])
   ·refine⟨hD',s',by lia,hi,fun p hp=>?_⟩;rw[Bm,hz,Al] at hp;rcases Ay.mp hp with hp|hp
    ·exact hsome p hp
    ·exfalso;have e:(p,none)=z.2:=Az.mp hp;refine of_decide_eq_false hm ?_;show mV z.2.2=_;rw[<- e];rfl
  ·rintro ys H' ⟨hD',s',hlen,_,hsome⟩;rw[Aa,Bj] at hsome;have I0:InInv c H x dx d Dr bl (zs.map (·.2)) ys 0 H':=⟨s' _ _ i3,s' _ _ d3,hD',fun a u n e=>s' _ _ (k3 a u n e)⟩
   have hDx:Dr≠x:=fun z=>by rw[z,i3] at hDr;cases hDr
   have hDd:Dr≠d:=fun z=>by rw[z,d3] at hDr;cases hDr
   refine⟨_,rfl,.inr ⟨L,_,rfl,SqL.of (hl3 I0.k).at_,?_⟩⟩;refine z0g (fun i σ' H2=>∃x4 x5 x6 x7,σ'=[some (.ref x),some (.ref L),some (.bl bl),some (.ref Dr),x4,x5,x6,x7]/\InInv c H x dx d Dr bl (zs.map (·.2)) ys i H2) ⟨none,none,none,none,rfl,I0⟩ (fun i σ' H2 h=>by obtain⟨_,_,_,_,_,h⟩:=h;exact SqL.of (hl3 h.k).at_) ?_ ?_
   ·rintro i v T' σ' H2 hv ⟨x4,x5,x6,x7,rfl,I⟩ hT;obtain⟨z,hz,rfl⟩:=gR0 hv
    have hi:i<zs.length:=(Ax.mp hz).1;have hzr:(zs.map (·.2))[i]?=some z.2:=by rw[Au,hz];rfl
    have hzm:=Aq hzr;have okz:=hH.ok _ hzm;have sT:=(Same.refl H2).new (o:=.tup [.int i,.ref z.1]) hT;have I1:=I.same sT;obtain⟨b,h1,h2⟩:=(hl3 I1.k).pr z (Aq hz);refine⟨T',_,rfl,SqT.of q0b,rfl,_,_,rfl,_,_,rfl,z.1,_,rfl,SqT.of h1,rfl,_,_,rfl,_,_,rfl,rfl,rfl,?_⟩;generalize upd H2 T' (.tup [.int i,.ref z.1])=H4 at sT I1 h1 h2;replace h1:H4 z.1=some (.tup [.ref b,mV z.2.2]):=h1;replace h2:H4 b=some (.tup (vP z.2.1)):=h2;obtain⟨c1,c2⟩:=q3r okz.ne;refine⟨_,rfl,_,rfl,_,rfl,.inr (.inr ⟨b,_,rfl,SqT.of (xs:=vP z.2.1) h2,c2,fun p1 hp1=>?_⟩)⟩;rw[c1];have s5:=(Same.refl H4).new (o:=.tup (vP z.2.1.dropLast)) hp1;have I2:=I1.same s5;have h2':=s5 _ _ h2;have hp1':upd H4 p1 (.tup (vP z.2.1.dropLast)) p1=some (.tup (vP z.2.1.dropLast)):=q0b;generalize upd H4 p1 (.tup (vP z.2.1.dropLast))=H5 at s5 I2 h2' hp1';refine⟨fun bb H6=>bb=false/\Same H5 H6,?_,?_⟩
    ·rintro bb H6 ⟨rfl,s6⟩;refine iteF ?_;have I3:=I2.same s6;refine⟨_,rfl,x,dx,_,rfl,I3.ins,rfl,_,rfl,x,d,b,bl,_,z.2.1,rfl,⟨⟨dx,I3.ins⟩,I3.d⟩,s6 _ _ h2',okz,fun r hr=>hH.ok r (Bc hr),fun H7 s7 _=>?_,fun H7 b' r s7 hr e _=>absurd e (z1w (f:=fun r:Rw=>fold bl r.1) hH.nd hzr hr)⟩;refine⟨_,rfl,iteF ?_⟩;have I4:=I3.same s7;refine⟨_,rfl,_,rfl,x,c,dx,_,_,rfl,I4.ins,hk.cl,hk.m,rfl,_,rfl,d,_,rfl,DPut.t (k:=kP z.2.1) I4.d (by rw[q6w];exact s7 _ _ (s6 _ _ h2')) (by rw[Aa,Aa,An,Aa];exact small' (by lia)),?_⟩;have hnew:∀r∈((zs.map (·.2)).take i).map rR,r.1≠z.2.1:=fun r hr=>by
      obtain⟨y,hy,rfl⟩:=Am.mp hr;exact z1w (f:=fun r:Rw=>r.1) hH.paths hzr hy
     rw[q8v hnew];refine⟨_,_,_,_,rfl,?_,?_,?_,fun a u n e=>?_⟩
     ·rw[q0e hdx.symm];exact I4.ins
     ·have e:((zs.map (·.2)).take (i+1)).map rR=((zs.map (·.2)).take i).map rR++[(z.2.1,mV z.2.2)]:=by rw[Bm,hzr,Al];rfl
      rw[e];exact q0b
     ·rw[q0e hDd];exact I4.r
     ·rw[q0e (fun y=>by rw[y,hdH] at e;cases e)];exact I4.k a u n e
    ·refine⟨_,rfl,by show 0<=sizeLine;decide,fun e0 he0=>?_⟩;have s6:=(Same.refl H5).new (o:=.tup []) he0;refine q5v (q:=[]) (s6 _ _ hp1') q0b (q3s okz.low) (fun _ h=>nomatch h) ⟨_,rfl,?_⟩;refine iteB (fun hne=>?_) (fun hne=>?_)
     ·have hne':z.2.1.dropLast≠[]:=by simpa using hne
      have hin:=hsome _ ((hH.dr _ hzm).resolve_left hne');refine⟨_,rfl,_,rfl,Dr,_,rfl,DGet.t (k:=kP z.2.1.dropLast) (I2.same s6).r (by rw[q6w];exact s6 _ _ hp1'),_,rfl,?_,s6⟩;cases e:valV ys (kP z.2.1.dropLast) with
      |none=>rw[e] at hin;cases hin
      |some v=>rfl
     ·exact⟨rfl,s6⟩
   ·rintro σ' H2 ⟨x4,x5,x6,x7,rfl,I⟩;have hd2:=I.d;rw[Aa,<- Aa (f:=fun z:Zr=>z.2),Bj] at hd2;exact k d H2 hdH I.ins hd2 I.k
theorem q5a{α β:Type}{F:α->β->Prop}:∀{l:List α} {m:List β},Dp F l m->l.length=m.length
 |_,_,.nil=>rfl
 |_,_,.cons _ t=>congrArg (· + 1) (q5a t)
theorem q8y{rows:List Rw}(nd:(rows.map (·.1)).Nodup):∀{l m:List Rw},(∀r∈l,r∈rows)->(∀r∈m,r∈rows)->l.map (·.1)=m.map (·.1)->l=m
 |[],[],_,_,_=>rfl
 |[],_::_,_,_,h=>by cases h
 |_::_,[],_,_,h=>by cases h
 |a::l,b::m,h1,h2,h=>by
  rw[Ao,Ao] at h;injection h with e1 e2;rw[q3p (f:=fun r:Rw=>r.1) nd (h1 a Aj) (h2 b Aj) e1,q8y nd (fun r hr=>h1 r (Ah _ hr)) (fun r hr=>h2 r (Ah _ hr)) e2]
structure CallsR (P:Program) (w:World) (K:Ag) (mg:Str->Option Value) (base:Heap) (c:Addr):Prop where
 m_rows:MCal P w K mg base c "rows" 2 ["self"] (spHRows c)
def spRight(c:Addr):Sp:=fun vs H Q _=>∃h m d bl rows,∃mrows:List Rw,vs=[.ref h,.ref m]/\HallAt c H h d bl rows/\H m=some (dR (mrows.map rR))/\mrows.Perm rows/\(rows.map (·.1)).Nodup/\(∀r∈rows,okP r.1)/\rows.length<64/\∀H',Same H H'->Q (.bl true) H'
abbrev q2q:Stmt:=top 41
theorem sc_rows_right:FnScope ["_law_hall", "_law_marks", "_law_found", "_law_row"] ["_law_hall", "_law_marks"] (defScope q2q):=by trivial
theorem x0v{c:Addr}(D:Df K mg "_law_rows_right" q2q ["_law_hall", "_law_marks"])(T:Txt mg)(C:CallsR P w K mg base c):Cal P w K mg base "_law_rows_right" 3 ["_law_hall", "_law_marks"] (spRight c):=by
 refine D.cal sc_rows_right (fun vs H Q E h=>?_) (fun f cdv A outer s H vs Q E hr h=>?_)
 ·obtain⟨h,m,d,bl,rows,mrows,rfl,_⟩:=h;rfl
 ·obtain⟨h,m,d,bl,rows,mrows,rfl,hh,hm,mpm,nd,oks,h64,k⟩:=h;refine⟨_,(q0c (q0o (i:=2) sc_rows_right.nd rfl (by trivial) (q3u C.m_rows hr (pv 0))) (q0c (q1j (pt_j (@PW.pt _ _ _ (q7i (q4i (@q4m _ _ _ K rfl (q0i (z9s K rfl) (by rfl) T.b_isinstance (by decide +kernel) (q0a (pv 2) (q0a (q8g (by rfl) T.b_list (by decide +kernel) (show RelV (.ty "list") _ from rfl)) q0d))) (fun _=>rfl))) (q4h (q0s (ne_k K rfl hr) (pv 2) (q1o ["_law_path"] [("_law_marks",1)] rfl (@q4l _ _ _ _ K rfl (q0i (q8c hr) (by rfl) T.b_sorted (by decide +kernel) (q0a (pv 1) q0d))) (fun _ _ _ _ _=>(q0h (i:=0) (show(["_law_path", "_law_marks"]:List Str).Nodup by decide +kernel) rfl (by trivial))) (fun _ _ _ _ _=>q1f) (fun _ _ _ _ _=>(q1z (q0a (pv 0) (q0a (z1k (q7j hr) (pv 1) (pv 0) (fun _ _=>rfl)) q0d))))) (nomark _)))))) (q0f (q0k q4g)) q0n) (q0c (q5k Dy rfl (@q4l _ _ _ _ K rfl (pv 2)) (q0h (i:=3) sc_rows_right.nd rfl (by trivial)) (q0f (q1j (pt_j (@PW.pt _ _ _ (q7i (q4i (@q4m _ _ _ K rfl (q0i (z9s K rfl) (by rfl) T.b_isinstance (by decide +kernel) (q0a (pv 3) (q0a (q8g (by rfl) T.b_tuple (by decide +kernel) (show RelV (.ty "tuple") _ from rfl)) q0d))) (fun _=>rfl))) (q7i (q4i (@q4m _ _ _ K rfl (q0i (z9s K rfl) (by rfl) T.b_isinstance (by decide +kernel) (q0a (q1m (ix_k K rfl) (pv 3) q0g (fun _ _=>rfl)) (q0a (q8g (by rfl) T.b_tuple (by decide +kernel) (show RelV (.ty "tuple") _ from rfl)) q0d))) (fun _=>rfl))) (q4h (@q4m _ _ _ K rfl (q0i (z9s K rfl) (by rfl) T.b_isinstance (by decide +kernel) (q0a (q1m (ix_k K rfl) (pv 3) q0g (fun _ _=>rfl)) (q0a (q8g (by rfl) T.b_bool (by decide +kernel) (show RelV (.ty "bool") _ from rfl)) q0d))) (fun _=>rfl))))))) (q0f (q0k q4g)) q0n))) (q0f (q0k q4g))))),?_⟩;obtain⟨dx,hi⟩:=hh.i;have low:∀r∈rows,Low r.1:=fun r hr=>(oks r hr).low
  refine⟨_,rfl,h,dx,_,rfl,hi,rfl,h,d,bl,rows,rfl,hh,h64,low,fun L zs H1 hL s1 rl hp hs=>?_⟩;have zin:∀r∈zs.map (·.2),r∈rows:=fun r hr=>hp.mem_iff.mp hr;have lowz:∀r∈zs.map (·.2),Low r.1:=fun r hr=>low r (zin r hr);refine⟨fun b H'=>b=false/\Same H1 H',?_,?_⟩
  ·rintro b H' ⟨rfl,s2⟩;refine iteF ?_;have rl2:=rl.same s2;refine⟨_,rfl,.inl ⟨L,rfl,⟨_,SqL.of rl2.at_⟩,?_⟩⟩;refine z2r (xs:=zs.map fun z=>V.ref z.1) (fun i σ' H3=>(∃x3,σ'=[some (.ref h),some (.ref m),some (.ref L),x3])/\H3=H') ⟨⟨none,rfl⟩,rfl⟩ (fun i σ' H3 _ x=>by rw[x.2];exact SqL.of rl2.at_) ?_ ?_
   ·rintro i v σ' H3 hv ⟨⟨x3,rfl⟩,rfl⟩;obtain⟨z,hz,rfl⟩:=gR0 hv
    obtain⟨b,h1,h2⟩:=rl2.pr z (Aq hz);refine⟨fun b H4=>b=false/\H4=H3,?_,?_⟩
    ·rintro b H4 ⟨rfl,rfl⟩;exact iteF ⟨⟨_,rfl⟩,rfl⟩
    ·refine⟨_,rfl,_,_,_,true,rfl,TyOf.tup h1,rfl,true,rfl,iteF ?_⟩;refine⟨_,rfl,.inr (.inl ⟨z.1,_,0,_,rfl,rfl,SqT.of h1,rfl,?_⟩)⟩;refine⟨_,_,_,true,rfl,TyOf.tup h2,rfl,true,rfl,iteF ?_⟩;refine⟨_,rfl,.inr (.inl ⟨z.1,_,1,_,rfl,rfl,SqT.of h1,rfl,?_⟩)⟩;show ∃x c t b,[mV z.2.2,_]=[x,.ty c]/\_;cases z.2.2 with
     |none=>exact⟨_,_,_,false,rfl,TyOf.non,rfl,false,rfl,rfl,rfl⟩
     |some n=>exact⟨_,_,_,false,rfl,TyOf.int n,rfl,false,rfl,rfl,rfl⟩
   ·rintro σ' H3 ⟨⟨x3,rfl⟩,rfl⟩;exact k _ (s1.trans s2)
  ·refine⟨_,rfl,_,_,_,true,rfl,TyOf.lst rl.at_,rfl,true,rfl,iteF ?_⟩;refine⟨_,rfl,_,rfl,m,_,rfl,s1 _ _ hm,by rw[Aa,mpm.length_eq];exact h64,fun r hr=>?_,fun L2 bs ps hL2 hp2 hs2 pts=>?_⟩
   ·obtain⟨y,hy,rfl⟩:=Am.mp hr;exact(oks y (mpm.mem_iff.mp hy)).ne
   have s2:=(Same.refl H1).new (o:=.lst (bs.map V.ref)) hL2;have hLL:upd H1 L2 (.lst (bs.map V.ref)) L2=some (.lst (bs.map V.ref)):=q0b;generalize upd H1 L2 (.lst (bs.map V.ref))=H2 at s2 hLL;refine .inl ⟨L2,rfl,⟨_,SqL.of hLL⟩,fun Dl hDl=>?_⟩;have hps:(mrows.map rR).map (·.1)=mrows.map (·.1):=by rw[Bd];rfl
   rw[hps] at hp2;have ndm:(mrows.map (·.1)).Nodup:=(mpm.map _).nodup_iff.mpr nd;replace hp2:=hp2.trans (mpm.map _);have hbl:bs.length=ps.length:=q5a pts;have hpl:ps.length=rows.length:=by rw[hp2.length_eq,Aa]
   refine q2i (xs:=bs.map V.ref) (fun i ys H3=>∃ws:List Zr,ys=ws.map (fun z=>V.ref z.1)/\ws.map (fun z=>z.2.1)=ps.take i/\(∀w∈ws,w.2∈rows/\PR H3 w.1 (rR w.2))/\Same H2 H3/\H3 Dl=some (.lst ys)/\i<=ps.length)
    ⟨[],rfl,rfl,(fun _ h=>nomatch h),(Same.refl H2).new hDl,q0b,Br _⟩ (fun i ys H3 ⟨ws,_,_,_,s3,h3,_⟩=>⟨h3,SqL.of (s3 _ _ hLL)⟩) ?_ ?_
   ·rintro i ys H3 v hv ⟨ws,rfl,hw1,hw2,s3,h3,hile⟩;obtain⟨b,hb,rfl⟩:∃b,bs[i]?=some b/\v=.ref b:=by
     rw[Au] at hv;cases e:bs[i]? with
     |none=>rw[e] at hv;cases hv
     |some z=>rw[e] at hv;cases hv;exact⟨z,rfl,rfl⟩
    obtain⟨p,hp3,hbp⟩:=Dp.at' pts hb;have hi':i<ps.length:=(Ax.mp hp3).1;obtain⟨r,hr,rfl⟩:=Am.mp (hp2.mem_iff.mp (Aq hp3));have hb3:=s3 _ _ (s2 _ _ hbp);have hm3:=s3 _ _ (s2 _ _ (s1 _ _ hm));have hval:=q7b (rs:=mrows.map rR) (r:=rR r) (Am.mpr ⟨r,mpm.mem_iff.mpr hr,rfl⟩) (by rw[hps];exact ndm);have hg:=DGet.t (k:=kP r.1) hm3 (by rw[q6w];exact hb3);rw[show valV ((mrows.map rR).map fun r=>(kP r.1,r.2)) (kP r.1)=some (mV r.2) from hval] at hg;refine⟨_,rfl,_,rfl,_,rfl,m,_,rfl,hg,by show 2<=sizeLine;decide,fun Tn hTn=>?_⟩;have sT:=(Same.refl H3).new (o:=.tup [.ref b,mV r.2]) hTn;have hwl:ws.length=i:=by rw[<- Aa (f:=fun z:Zr=>z.2.1),hw1,An];lia
    have hDT:Dl≠Tn:=fun z=>by rw[z,hTn] at h3;cases h3
    have tk:∀S xs,upd H3 Tn (.tup [.ref b,mV r.2]) S=some (.tup xs)->upd (upd H3 Tn (.tup [.ref b,mV r.2])) Dl (.lst (ws.map (fun z=>V.ref z.1)++[.ref Tn])) S=some (.tup xs):=fun S xs e=>by
     rw[q0e (fun z=>by rw[z,q0e hDT,h3] at e;cases e)];exact e
    refine⟨by rw[q0e hDT];exact h3,small' (by rw[Aa];lia),ws++[(Tn,r)],by rw[Al];rfl,?_,fun w hw=>?_,(s3.trans sT).put hDl,q0b,hi'⟩
    ·rw[Al,hw1,Bm,hp3];rfl
    ·rcases Ay.mp hw with hw|hw
     ·exact⟨(hw2 w hw).1,PR.same (PR.same (hw2 w hw).2 fun S xs e=>sT _ _ e) tk⟩
     ·rw[Az.mp hw];exact⟨hr,b,tk _ _ q0b,tk _ _ (sT _ _ hb3)⟩
   ·rintro ys H3 ⟨ws,rfl,hw1,hw2,s3,h3,_⟩;rw[Aa,hbl,Bj] at hw1;have e1:zs.map (·.2.1)=ps:=by
     have z1:(zs.map (·.2)).map (·.1)=zs.map (·.2.1):=by rw[Bd];rfl
     have p1:(zs.map (·.2.1)).Perm (rows.map (·.1)):=by rw[<- z1];exact hp.map _
     exact q6y (p1.trans hp2.symm) (p1.nodup_iff.mpr nd) hs hs2
    have e2:zs.map (·.2)=ws.map (·.2):=q8y nd zin (fun r hr=>by obtain⟨w,hw,rfl⟩:=Am.mp hr;exact(hw2 w hw).1) (by
     rw[Bd,Bd];show zs.map (fun z=>z.2.1)=ws.map (fun z=>z.2.1);rw[e1,hw1])
    exact x3n (rl.same (s2.trans s3)) ⟨h3,fun w hw=>(hw2 w hw).2⟩ e2 lowz ⟨_,rfl,rfl,s2.trans s3⟩
def spCarried:Sp:=fun vs H Q _=>∃a b c x p q,vs=[.ref a,.ref b,.ref c]/\H a=some (.tup (vP x))/\H b=some (.tup (vP p))/\H c=some (.tup (vP q))/\Low x/\Low p/\x.length<=100/\q.length<=100/\∀e H',Same H H'->H' e=some (.tup (vP (carry p q x)))->Q (.ref e) H'
theorem vP_app(p q:Pth):vP (p++q)=vP p++vP q:=Al
theorem x2c(x:Pth)(n:Nat):cutV (vP x) none (some (n:Int))=vP (x.take n):=by
 unfold cutV;have e0:HT.sIx (vP x).length 0 none=0:=rfl;have e1:HT.sIx (vP x).length (vP x).length (some (n:Int))=min n x.length:=by
  show(if (n:Int)<0 then((n:Int)+((vP x).length:Int)).toNat else min ((n:Int)).toNat (vP x).length)=_;rw[if_neg (by lia),q1i,Bu]
 rw[e0,e1,Jm,Je,<- Cp];rw[<- Hg,Bj]
theorem x0w(x:Pth)(n:Nat):cutV (vP x) (some (n:Int)) none=vP (x.drop n):=by
 unfold cutV;have e0:HT.sIx (vP x).length 0 (some (n:Int))=min n x.length:=by
  show(if (n:Int)<0 then((n:Int)+((vP x).length:Int)).toNat else min ((n:Int)).toNat (vP x).length)=_;rw[if_neg (by lia),q1i,Bu]
 have e1:HT.sIx (vP x).length (vP x).length none=x.length:=q1i x;rw[e0,e1,<- Pw,<- Cp];congr 1;rcases Qw n x.length with h|h
 ·rw[Gu (Gy h)];exact Cd (by rw[Cw];lia)
 ·rw[Sd h,Se,Ka h];exact List.take_nil
theorem x0x{p:Pth}{n:Nat}(h:Low p):Low (p.take n):=fun x hx=>h x (Bc hx)
abbrev q5b:Stmt:=top 21
theorem z4o:FnScope ["path", "moved", "place"] ["path", "moved", "place"] (defScope q5b):=by trivial
theorem z4p(D:Df K mg "carried" q5b ["path", "moved", "place"])(T:Txt mg):Cal P w K mg base "carried" 1 ["path", "moved", "place"] spCarried:=by
 refine D.cal z4o (fun vs H Q E h=>?_) (fun f cdv A outer s H vs Q E hr h=>?_)
 ·obtain⟨a,b,c,x,p,q,rfl,_⟩:=h;rfl
 ·obtain⟨a,b,c,x,p,q,rfl,ha,hb,hc,lx,lp,l1,l2,k⟩:=h;refine⟨_,(q0c (q1j (q0s (eq_k K rfl hr) (q0r sl_P (pv 0) q0w (q0t (q0i (q1v K rfl) (by rfl) T.b_len Bk (q0a (pv 1) q0d)))) (pv 1) (nomark _)) (q0f (q0k (q0p z1p (pv 2) (q0r sl_P (pv 0) (q0t (q0i (q1v K rfl) (by rfl) T.b_len Bk (q0a (pv 1) q0d))) q0w)))) q0n) (q0f (q0k (pv 0)))),?_⟩;refine⟨_,rfl,_,rfl,_,_,rfl,.inr ⟨_,SqT.of hb,rfl⟩,_,rfl,a,_,rfl,ha,fun t1 H1 s1 h1=>?_⟩;rw[q1i,x2c] at h1;refine⟨_,rfl,q2l h1 (s1 _ _ hb) (x0x lx) lp ⟨_,rfl,?_⟩⟩;refine iteB (fun he=>?_) (fun he=>?_)
  ·have he:=of_decide_eq_true he;refine⟨_,rfl,_,rfl,_,rfl,_,_,rfl,.inr ⟨_,SqT.of (s1 _ _ hb),rfl⟩,_,rfl,a,_,rfl,s1 _ _ ha,fun t2 H2 s2 h2=>?_⟩;rw[q1i,x0w] at h2;refine⟨c,t2,_,_,rfl,rfl,s2 _ _ (s1 _ _ hc),h2,by rw[q1i,q1i,Cw];exact small (by lia),fun e H3 s3 h3 _=>?_⟩;refine k e H3 ((s1.trans s2).trans s3) ?_;rw[h3,<- vP_app];unfold carry;rw[if_pos he]
  ·have he:=of_decide_eq_false he;refine⟨_,rfl,k a H1 s1 ?_⟩;unfold carry;rw[if_neg he];exact s1 _ _ ha
theorem x0y{rs:List HRow}{p:Pth}{v:V}(h:valV (rs.map fun r=>(kP r.1,r.2)) (kP p)=some v):(p,v)∈rs:=by
 induction rs with
 |nil=>cases h
 |cons r rs ih =>
  rw[Ao] at h;by_cases e:kP r.1=kP p
  ·rw[q1h e] at h;cases h;rw[<- z3i e];exact Aj
  ·rw[q1c e] at h;exact Ah _ (ih h)
theorem z3m{rows:List Rw}(nd:(rows.map (·.1)).Nodup){p:Pth}{m:Option Int}(h:(p,m)∈rows):valV ((rows.map rR).map fun r=>(kP r.1,r.2)) (kP p)=some (mV m) :=
 q7b (rs:=rows.map rR) (r:=rR (p,m)) (Am.mpr ⟨_,h,rfl⟩) (by rw[Bd];exact nd)
theorem z0m{rows:List Rw}{p:Pth}{v:V}(h:valV ((rows.map rR).map fun r=>(kP r.1,r.2)) (kP p)=some v):∃m,v=mV m/\(p,m)∈rows:=by
 obtain⟨r,hr,e⟩:=Am.mp (x0y h);cases e;exact⟨r.2,rfl,hr⟩
def spIsDrawer(c:Addr):Sp:=fun vs H Q _=>∃h d p bl rows q,vs=[.ref h,.ref p]/\HallAt c H h d bl rows/\H p=some (.tup (vP q))/\Low q/\(rows.map (·.1)).Nodup/\∀H' bb,Same H H'->(bb=true↔q=[]\/(q,none)∈rows)->Q (.bl bb) H'
abbrev q1s:Stmt:=inClass (top 22) 6
theorem q5c:FnScope ["self", "path"] ["self", "path"] (defScope q1s):=by trivial
theorem z0n{c:Addr}(D:Mf K c "is_drawer" "Hall.is_drawer" q1s ["self", "path"])(hk:Hk K c)(T:Txt mg):MCal P w K mg base c "is_drawer" 1 ["self", "path"] (spIsDrawer c):=by
 refine D.cal hk.cl q5c (fun vs H Q E h=>?_) (fun f cdv A outer s H vs Q E hr h=>?_)
 ·obtain⟨h,d,p,bl,rows,q,rfl,_⟩:=h;rfl
 ·obtain⟨h,d,p,bl,rows,q,rfl,hh,hp,lq,nd,k⟩:=h;refine⟨_,(q0f (q0k (pe_j (pe_or (q2t (eq_k K rfl hr) (pv 1) (q1z q0d) (nomark _)) (q9d (pe_j (z2p (x1k (pc_din (q7j hr) (pv 1) (@q2k _ _ _ _ _ K rfl (pv 0) (by rfl)))) (q9d (x1k (z2n (z1k (q7j hr) (@q2k _ _ _ _ _ K rfl (pv 0) (by rfl)) (pv 1) (fun _ _=>rfl)))))))))))),?_⟩;obtain⟨dx,hi⟩:=hh.i;refine⟨fun v H'=>∃bb,v=.bl bb/\Same H H'/\(bb=true↔q=[]\/(q,none)∈rows),fun v H' x=>?_,?_⟩
  ·obtain⟨bb,rfl,s1,e⟩:=x;exact k H' bb s1 e
  refine⟨_,rfl,by show 0<=sizeLine;decide,fun e0 he0=>?_⟩;have s1:=(Same.refl H).new (o:=.tup []) he0;refine q2l (q:=[]) (s1 _ _ hp) q0b lq (fun _ h=>nomatch h) ⟨_,rfl,?_⟩;refine iteB (fun he=>?_) (fun he=>?_)
  ·exact⟨true,rfl,s1,⟨fun _=>.inl (of_decide_eq_true he),fun _=>rfl⟩⟩
  have he:=of_decide_eq_false he;refine⟨fun v H'=>∃bb,v=.bl bb/\Same H H'/\(bb=true↔q=[]\/(q,none)∈rows),fun v H' x=>x,?_⟩;refine⟨_,rfl,_,rfl,h,c,dx,_,_,rfl,s1 _ _ hi,hk.cl,hk.m,rfl,d,_,rfl,z7e (s1 _ _ hh.d) (s1 _ _ hp),_,rfl,?_⟩;cases hv:valV ((rows.map rR).map fun r=>(kP r.1,r.2)) (kP q) with
  |none =>
   refine iteF ⟨false,rfl,s1,⟨(fun z=>by cases z),fun z=>?_⟩⟩;exfalso;rw[z3m nd (z.resolve_left he)] at hv;cases hv
  |some v =>
   obtain⟨m,rfl,hm⟩:=z0m hv;refine iteT ⟨_,rfl,h,c,dx,_,_,rfl,s1 _ _ hi,hk.cl,hk.m,rfl,_,rfl,d,mV m,rfl,?_,_,rfl,s1,?_⟩
   ·rw[<- hv];exact z7e (s1 _ _ hh.d) (s1 _ _ hp)
   ·rw[decide_eq_true_iff];refine⟨fun z=>.inr (by rw[mV_none.mp z] at hm;exact hm),fun z=>mV_none.mpr ?_⟩;have:=q3p (f:=fun r:Rw=>r.1) nd hm (z.resolve_left he) rfl;cases this;rfl
def spAskThing(c:Addr):Sp:=fun vs H Q _=>∃h d p bl rows q m,vs=[.ref h,.ref p]/\HallAt c H h d bl rows/\H p=some (.tup (vP q))/\(rows.map (·.1)).Nodup/\(q,m)∈rows/\Q .non H
abbrev q1t:Stmt:=inClass (top 22) 11
theorem q5d:FnScope ["self", "path"] ["self", "path"] (defScope q1t):=by trivial
theorem z0o{c:Addr}(D:Mf K c "ask_thing" "Hall.ask_thing" q1t ["self", "path"])(hk:Hk K c)(T:Txt mg):MCal P w K mg base c "ask_thing" 1 ["self", "path"] (spAskThing c):=by
 refine D.cal hk.cl q5d (fun vs H Q E h=>?_) (fun f cdv A outer s H vs Q E hr h=>?_)
 ·obtain⟨h,d,p,bl,rows,q,m,rfl,_⟩:=h;rfl
 ·obtain⟨h,d,p,bl,rows,q,m,rfl,hh,hp,nd,hm,k⟩:=h;refine⟨_,(q0f (q1j (q6a (q9v (q7j hr) (pv 1) (@q2k _ _ _ _ _ K rfl (pv 0) (by rfl)))) (q0f q1n) q0n)),?_⟩;obtain⟨dx,hi⟩:=hh.i;refine⟨_,rfl,_,rfl,h,c,dx,_,_,rfl,hi,hk.cl,hk.m,rfl,d,_,rfl,z7e hh.d hp,_,rfl,?_⟩;rw[z3m nd hm];exact iteF k
structure CallsD (P:Program) (w:World) (K:Ag) (mg:Str->Option Value) (base:Heap) (c:Addr):Prop where
 m_is_drawer:MCal P w K mg base c "is_drawer" 1 ["self", "path"] (spIsDrawer c)
def spAskDrawer(c:Addr):Sp:=fun vs H Q _=>∃h d p bl rows q,vs=[.ref h,.ref p]/\HallAt c H h d bl rows/\H p=some (.tup (vP q))/\Low q/\(rows.map (·.1)).Nodup/\(q=[]\/(q,none)∈rows)/\∀H',Same H H'->Q .non H'
abbrev q1q:Stmt:=inClass (top 22) 12
theorem q4s:FnScope ["self", "path"] ["self", "path"] (defScope q1q):=by trivial
theorem q8z{c:Addr}(D:Mf K c "ask_drawer" "Hall.ask_drawer" q1q ["self", "path"])(hk:Hk K c)(T:Txt mg)(C:CallsD P w K mg base c):MCal P w K mg base c "ask_drawer" 2 ["self", "path"] (spAskDrawer c):=by
 refine D.cal hk.cl q4s (fun vs H Q E h=>?_) (fun f cdv A outer s H vs Q E hr h=>?_)
 ·obtain⟨h,d,p,bl,rows,q,rfl,_⟩:=h;rfl
 ·obtain⟨h,d,p,bl,rows,q,rfl,hh,hp,lq,nd,hq,k⟩:=h;refine⟨_,(q0f (q1j (q4i (@q4m _ _ _ K rfl (pe_m C.m_is_drawer hr (pv 0) (q0a (pv 1) q0d)) (fun _=>rfl))) (q0f q1n) q0n)),?_⟩;obtain⟨dx,hi⟩:=hh.i;refine⟨_,rfl,h,dx,_,rfl,hi,rfl,_,rfl,h,d,p,bl,rows,q,rfl,hh,hp,lq,nd,fun H' bb s1 hb=>⟨bb,rfl,?_⟩⟩;have e:=hb.mpr hq;subst e;exact iteF (k H' s1)
def spThere1(c:Addr):Sp:=fun vs H Q _=>∃h d p bl rows place,vs=[.ref h,.ref p]/\HallAt c H h d bl rows/\H p=some (.tup (vP place))/\okP place/\(∀r∈rows,okP r.1) /\
 ∀H' v,Same H H'->(v=.non/\(∀r∈rows,fold bl r.1≠fold bl place)\/∃b r,v=.ref b/\r∈rows/\fold bl r.1=fold bl place/\H' b=some (.tup (vP r.1)))->Q v H'
theorem there1{c:Addr}(M:MCal P w K mg base c "there" 3 ["self", "place"] (spThere c)):MCal P w K mg base c "there" 3 ["self", "place"] (spThere1 c) :=
 M.imp fun vs H Q E h=>by
  obtain⟨h,d,p,bl,rows,place,e,hh,hp,ok,oks,k⟩:=h;exact⟨h,d,p,bl,rows,place,e,hh,hp,ok,oks,fun H' s1 n=>k H' _ s1 (.inl ⟨rfl,n⟩),fun H' b r s1 hr e hb=>k H' _ s1 (.inr ⟨b,r,rfl,hr,e,hb⟩)⟩
structure CallsV (P:Program) (w:World) (K:Ag) (mg:Str->Option Value) (base:Heap) (c:Addr):Prop where
 carried:Cal P w K mg base "carried" 1 ["path", "moved", "place"] spCarried
 m_ask_thing:MCal P w K mg base c "ask_thing" 1 ["self", "path"] (spAskThing c)
 m_ask_drawer:MCal P w K mg base c "ask_drawer" 2 ["self", "path"] (spAskDrawer c)
 m_is_drawer:MCal P w K mg base c "is_drawer" 1 ["self", "path"] (spIsDrawer c)
 m_there:MCal P w K mg base c "there" 3 ["self", "place"] (spThere1 c)
def spMove(c:Addr):Sp:=fun vs H Q _=>∃h d a b bl rows p q m,vs=[.ref h,.ref a,.ref b]/\HallAt c H h d bl rows/\Hl bl rows/\rows.length<=60/\H a=some (.tup (vP p))/\H b=some (.tup (vP q))/\(p,m)∈rows/\(m=none->q.dropLast=p.dropLast)/\q≠p/\Free bl rows p q /\
 ((rows.map (cR p q)).map (·.1)).Nodup/\∀D H',H D=none->(∀x u,x≠h->H x=some u->H' x=some u)->HallAt c H' h D bl (rows.map (cR p q))->Q .non H'
theorem z1x{σ:St}{H:Hp}{Q:Bool->Hp->Prop}(h:Q true H):tIf0 σ H Q:=h
abbrev q2x:Stmt:=inClass (top 22) 10
theorem sc_Hall_move:FnScope ["self", "path", "place", "other"] ["self", "path", "place"] (defScope q2x):=by trivial
theorem x3v{c:Addr}(D:Mf K c "move" "Hall.move" q2x ["self", "path", "place"])(hk:Hk K c)(T:Txt mg)(C:CallsV P w K mg base c):MCal P w K mg base c "move" 4 ["self", "path", "place"] (spMove c):=by
 refine D.cal hk.cl sc_Hall_move (fun vs H Q E h=>?_) (fun f cdv A outer s H vs Q E hr h=>?_)
 ·obtain⟨h,d,a,b,bl,rows,p,q,m,rfl,_⟩:=h;rfl
 ·obtain⟨h,d,a,b,bl,rows,p,q,m,rfl,hh,hl,h60,ha,hb,hp,hm,hne,fr,ndc,k⟩:=h;refine⟨_,(q0c (q1d (pe_m C.m_ask_thing hr (pv 0) (q0a (pv 1) q0d))) (q0c (q1d (pe_m C.m_ask_drawer hr (pv 0) (q0a (q0r (sl_k K rfl) (pv 2) q0w (q0t (q4j q2b q0g))) q0d))) (q0c (q1j (pt_j (@PW.pt _ _ _ (z2o (@q4m _ _ _ K rfl (pe_m C.m_is_drawer hr (pv 0) (q0a (pv 1) q0d)) (fun _=>rfl)) (q8h (q0s (ne_k K rfl hr) (q0r (sl_k K rfl) (pv 2) q0w (q0t (q4j q2b q0g))) (q0r (sl_k K rfl) (pv 1) q0w (q0t (q4j q2b q0g))) (nomark _)))))) (q0f q1n) q0n) (q0c (q0o (i:=3) sc_Hall_move.nd rfl (by trivial) (pe_m C.m_there hr (pv 0) (q0a (pv 2) q0d))) (q0c (q1j (pt_j (@PW.pt _ _ _ (z2o (q6a (z5c (pv 3))) (q8h (pt_j (@PW.pt _ _ _ (q7i (q0s (ne_k K rfl hr) (pv 3) (pv 1) (nomark _)) (q4h (q0s (eq_k K rfl hr) (pv 2) (pv 1) (nomark _)))))))))) (q0f q1n) q0n) (q0f (@q5p _ _ _ _ _ _ _ _ K rfl (pv 0) (x3o H rfl (x0g ["thing", "mark"] [("path",1),("place",2)] rfl (@itm_k _ _ _ _ K rfl (@z9t _ _ _ _ _ _ _ _ _ K rfl Nk Nl Nm z3b (@q2k _ _ _ _ _ K rfl (pv 0) (by rfl)) (by rfl) (by rfl))) (fun _ _ _ _ _=>(@q1u _ _ _ _ (2) _ K rfl rfl (q0j (q0h (i:=0) (show(["thing", "mark", "path", "place"]:List Str).Nodup by decide +kernel) rfl (by trivial)) (q0j (q0h (i:=1) (show(["thing", "mark", "path", "place"]:List Str).Nodup by decide +kernel) rfl (by trivial)) q1e)) (by rfl) (by rfl))) (fun _ _ _ _ _=>q1f) (fun _ _ _ _ _=>(pe_c C.carried hr (q0a (pv 0) (q0a (pv 2) (q0a (pv 3) q0d))))) (fun _ _ _ _ _=>(pv 1)) (q7j hr))) (by rfl)))))))),?_⟩;obtain⟨dx,hi⟩:=hh.i;have okp:=hl.ok _ hp;obtain⟨c1,c2⟩:=q3r fr.ok.ne;obtain⟨c3,c4⟩:=q3r okp.ne;refine⟨_,rfl,h,dx,_,rfl,hi,rfl,_,rfl,h,d,a,bl,rows,p,m,rfl,hh,ha,hl.paths,hp,?_⟩;refine⟨_,rfl,h,dx,_,rfl,hi,rfl,_,rfl,_,rfl,_,rfl,.inr (.inr ⟨b,_,rfl,SqT.of hb,c2,fun t1 ht1=>?_⟩)⟩;rw[c1];have s1:=(Same.refl H).new (o:=.tup (vP q.dropLast)) ht1;refine⟨h,d,t1,bl,rows,q.dropLast,rfl,hh.same s1,q0b,q3s fr.ok.low,hl.paths,fr.dr,fun H1 s2=>?_⟩;have s12:=s1.trans s2;refine⟨fun bb H2=>bb=false/\Same H H2,?_,?_⟩;rotate_left
  ·refine⟨_,rfl,h,dx,_,rfl,s12 _ _ hi,rfl,_,rfl,h,d,a,bl,rows,p,rfl,hh.same s12,s12 _ _ ha,okp.low,hl.paths,fun H2 bb s3 hbb=>⟨bb,rfl,?_⟩⟩;have s13:=s12.trans s3;refine iteB (fun e=>?_) (fun e=>⟨rfl,s13⟩);have hpn:(p,none)∈rows:=(hbb.mp e).resolve_left okp.ne;have em:=hl.one hp hpn;refine⟨_,rfl,_,rfl,_,rfl,.inr (.inr ⟨b,_,rfl,SqT.of (s13 _ _ hb),c2,fun t2 ht2=>?_⟩)⟩;rw[c1];have s4:=(Same.refl H2).new (o:=.tup (vP q.dropLast)) ht2;refine⟨_,rfl,_,rfl,_,rfl,.inr (.inr ⟨a,_,rfl,SqT.of (s4 _ _ (s13 _ _ ha)),c4,fun t3 ht3=>?_⟩)⟩;rw[c3];have s5:=((Same.refl H2).new (o:=.tup (vP q.dropLast)) ht2).new (o:=.tup (vP p.dropLast)) ht3;refine q5v (p:=q.dropLast) (q:=p.dropLast) (by rw[q0e (fun z=>by rw[<- z,q0b] at ht3;cases ht3)];exact q0b) q0b (q3s fr.ok.low) (q3s okp.low) ⟨_,rfl,?_,s13.trans s5⟩;rw[decide_eq_true (hm em)];rfl
  rintro bb H2 ⟨rfl,s3⟩;refine iteF ?_;refine⟨_,rfl,h,dx,_,rfl,s3 _ _ hi,rfl,_,rfl,h,d,b,bl,rows,q,rfl,hh.same s3,s3 _ _ hb,fr.ok,hl.ok,fun H3 ov s4 hov=>?_⟩;have s34:=s3.trans s4;refine⟨fun bb H4=>bb=false/\Same H H4,?_,?_⟩;rotate_left
  ·refine⟨_,rfl,_,rfl,?_⟩;rcases hov with⟨rfl,_⟩|⟨e,r,rfl,hr,hf,he⟩
   ·exact iteF ⟨rfl,s34⟩
   ·refine iteT ?_;have er:=fr.un r hr hf;rw[er] at he;refine⟨fun bb H4=>bb=false/\Same H H4,fun bb H4 x=>x,?_⟩;refine⟨_,rfl,_,rfl,q5v he (s34 _ _ ha) okp.low okp.low ⟨_,rfl,?_⟩⟩;rw[decide_eq_true rfl];refine iteF ⟨_,rfl,_,rfl,q2l (s34 _ _ hb) (s34 _ _ ha) fr.ok.low okp.low ⟨_,rfl,decide_eq_false hne,s34⟩⟩
  rintro bb H4 ⟨rfl,s5⟩;refine iteF ?_;have hh5:=hh.same s5;have hdf:∀o v,H d≠some (.frz o v):=fun o v e=>by rw[hh.d] at e;cases e
  refine⟨d,hdf,_,rfl,h,c,dx,_,_,rfl,s5 _ _ hi,hk.cl,hk.m,rfl,.inr (.inr (.inl ⟨rfl,.inr ⟨_,hh5.d⟩⟩)),d,_,rfl,rfl,hh5.d,fun v hv=>?_⟩;have s6:=(Same.refl H4).new (o:=vwO v d) hv;have hvv:upd H4 v (vwO v d) v=some (vwO v d):=q0b;have hh6:=hh5.same s6;have s56:=s5.trans s6;generalize upd H4 v (vwO v d)=H5 at s6 hvv hh6 s56;refine⟨v,d,_,rfl,hvv,hh6.d,fun ob D hD=>?_⟩;have hDd:D≠d:=fun z=>by rw[z,q0b] at hD;cases hD
  have hD5:H5 D=none:=by rw[q0e hDd] at hD;exact hD
  have hDH:H D=none:=s56.free hD5;have had:a≠d:=fun z=>by have:=s56 _ _ ha;rw[z,hh6.d] at this;cases this
  have hbd:b≠d:=fun z=>by have:=s56 _ _ hb;rw[z,hh6.d] at this;cases this
  refine z3c (n:=rows.length) (fun i ys H'=>ys=((((rows.take i).map (cR p q)).map rR).map fun r=>(kP r.1,r.2))/\H' D=some (.dT ys)/\H' d=some (.frz ob (dR (rows.map rR)))/\∀x u,x≠d->H x=some u->H' x=some u)
   ⟨rfl,q0b,by rw[q0e hDd.symm];exact q0b,fun x u n e=>by rw[q0e (fun z=>by rw[z,hDH] at e;cases e),q0e n];exact s56 _ _ e⟩ (fun i ys H' x=>x.2.1) (fun i ys H' hi x=>⟨x.2.2.1,by rw[Aa,Aa];exact hi⟩) (fun ys H' x=>⟨x.2.2.1,by rw[Aa,Aa];exact Ak _⟩) ?_ ?_
  ·rintro i ys H' x H6 hi' ⟨rfl,hHD,hfz,kp⟩ ⟨ky,v',b',T',hk',hb',hT',rfl,rfl⟩;obtain⟨r,hr,rfl,rfl⟩:∃r,rows[i]?=some r/\ky=kP r.1/\v'=mV r.2:=by
    rw[Au,Au] at hk';cases e:rows[i]? with
    |none=>rw[e] at hk';cases hk'
    |some r=>rw[e] at hk';cases hk';exact⟨r,rfl,rfl,rfl⟩
   rw[q6w] at hb';have okr:=hl.ok _ (Aq hr);have sT:=(Same.refl H').new (o:=.tup [.ref b',mV r.2]) hT';refine⟨T',_,rfl,SqT.of q0b,rfl,_,_,rfl,_,_,rfl,rfl,q2h,?_⟩;refine z1x (iteT ?_);refine⟨_,rfl,_,rfl,_,rfl,b',a,b,r.1,p,q,rfl,sT _ _ hb',sT _ _ (kp _ _ had ha),sT _ _ (kp _ _ hbd hb),okr.low,okp.low,by have:=okr.few;lia,by have:=fr.ok.few;lia,fun e H7 s7 he=>?_⟩;have sT7:=sT.trans s7;have hnew:∀y∈((rows.take i).map (cR p q)).map rR,y.1≠carry p q r.1:=fun y hy=>by
    obtain⟨z,hz,rfl⟩:=Am.mp hy;obtain⟨x,hx,rfl⟩:=Am.mp hz;exact z1w (f:=fun r:Rw=>(cR p q r).1) (by rw[Bd] at ndc;exact ndc) hr hx
   refine⟨_,rfl,kP (carry p q r.1),e,rfl,by rw[q6w];exact he,sT7 _ _ hHD,by rw[Aa,Aa,Aa,An];exact small' (by lia),?_,q0b,?_,fun x u n e=>?_⟩
   ·rw[q8v hnew,Bm,hr];show _=((((rows.take i++[r]).map (cR p q)).map rR).map fun r=>(kP r.1,r.2))
    simp only[Al];rfl
   ·rw[q0e hDd.symm];exact sT7 _ _ hfz
   ·rw[q0e (fun z=>by rw[z,hDH] at e;cases e)];exact sT7 _ _ (kp _ _ n e)
  ·rintro ys H' ⟨rfl,hHD,hfz,kp⟩;rw[Bj] at hHD;have hhd:h≠d:=fun z=>by have:=s56 _ _ hi;rw[z,hh6.d] at this;cases this
   have hhD:h≠D:=fun z=>by rw[<- z,hi] at hDH;cases hDH
   refine⟨ob,_,hfz,_,rfl,h,c,dx,_,rfl,by rw[q0e hhd];exact kp _ _ hhd hi,hk.cl,hk.m,by show 2<1000;decide,?_⟩;refine k D _ hDH (fun x u n e=>?_) ⟨⟨dx,q0b⟩,?_⟩
   ·rw[q0e n];by_cases z:x=d
    ·rw[z] at e ⊢;rw[q0b,<- hh.d];exact e
    ·rw[q0e z];exact kp _ _ z e
   ·rw[q0e hhD.symm,q0e hDd];exact hHD
theorem x3w{ds:List Addr}{i:Nat}{d:Addr}(h:ds[i]?=some d):atI (ds.map V.ref) i=some (.ref d):=by
 have hi:=(Ax.mp h).1;obtain⟨x,h1,h2⟩:=z5z (xs:=ds.map V.ref) (i:=(i:Int)) (by lia) (by rw[Aa];lia);rw[h2,<- h1];show(ds.map V.ref)[i]?=_;rw[Au,h];rfl
theorem z0p{c x dx d:Addr}{H1 H':Hp}(hx:H1 x=none)(hdx:H1 dx=none)(hd:upd (upd H1 dx (.own x)) x (.ins c dx []) d=none)(k:∀a u,a≠x->upd (upd H1 dx (.own x)) x (.ins c dx []) a=some u->H' a=some u):Same H1 H'/\H1 d=none:=by
 refine⟨fun a u e=>k a u (fun z=>by rw[z,hx] at e;cases e) ?_,?_⟩
 ·rw[q0e (fun z=>by rw[z,hx] at e;cases e),q0e (fun z=>by rw[z,hdx] at e;cases e)];exact e
 ·have h1:d≠x:=fun z=>by rw[z,q0b] at hd;cases hd
  rw[q0e h1] at hd;have h2:d≠dx:=fun z=>by rw[z,q0b] at hd;cases hd
  rw[q0e h2] at hd;exact hd
theorem z7v{c x dx L:Addr}{H1:Hp}{zs:List Zr}(h:RL H1 L zs)(hx:H1 x=none)(hdx:H1 dx=none):RL (upd (upd H1 dx (.own x)) x (.ins c dx [])) L zs:=h.same fun a u e=>by
 rw[q0e (fun z=>by rw[z,hx] at e;cases e),q0e (fun z=>by rw[z,hdx] at e;cases e)];exact e
theorem z1y{c a b h d:Addr}{bl:Bool}{rows:List Rw}{H H':Hp}(x:HallAt c H h d bl rows)(F:FeedAt H a b)(fd:Fd a b H H'):HallAt c H' h d bl rows:=by
 obtain⟨i,j,q⟩:=F.fa;exact⟨x.i.imp fun dx e=>fd.at e fun z=>by(rw[z,q] at e;cases e),fd.at x.d fun z=>by have e:=x.d;rw[z,q] at e;cases e⟩
structure CallsC (P:Program) (w:World) (K:Ag) (mg:Str->Option Value) (base:Heap) (c:Addr):Prop where
 m_rows:MCal P w K mg base c "rows" 2 ["self"] (spHRows c)
 m_is_blind:MCal P w K mg base c "is_blind" 1 ["self"] (spBlind c)
 k_Hall:KCal P w K mg base c "Hall" 4 ["self", "rows", "blind"] (spInit c)
def spCopied(c:Addr):Sp:=fun vs H Q _=>∃h d bl rows,vs=[.ref h]/\HallAt c H h d bl rows/\Hl bl rows/\rows.length<=60/\∀h' d' rows' H',Same H H'->H h'=none->HallAt c H' h' d' bl rows'->rows'.Perm rows->Q (.ref h') H'
abbrev q7c:Stmt:=top 24
theorem z7w:FnScope ["hall"] ["hall"] (defScope q7c):=by trivial
theorem z7x{c:Addr}(D:Df K mg "copied" q7c ["hall"])(T:Txt mg)(C:CallsC P w K mg base c):Cal P w K mg base "copied" 6 ["hall"] (spCopied c):=by
 refine D.cal z7w (fun vs H Q E h=>?_) (fun f cdv A outer s H vs Q E hr h=>?_)
 ·obtain⟨h,d,bl,rows,rfl,_⟩:=h;rfl
 ·obtain⟨h,d,bl,rows,rfl,hh,hl,h60,k⟩:=h;refine⟨_,(q0f (q0k (pe_k C.k_Hall hr (q0a (q3u C.m_rows hr (pv 0)) (q0a (q3u C.m_is_blind hr (pv 0)) q0d))))),?_⟩;obtain⟨dx,hi⟩:=hh.i;refine⟨_,rfl,h,dx,_,rfl,hi,rfl,h,d,bl,rows,rfl,hh,by lia,fun r hr=>(hl.ok r hr).low,fun L zs H1 hL s1 rl1 pm1 pw1=>?_⟩;have hh1:=hh.same s1;refine⟨_,rfl,h,dx,_,rfl,s1 _ _ hi,rfl,h,d,bl,rows,rfl,hh1,fun x dx' hx hdx n=>?_⟩;have hl1:Hl bl (zs.map (·.2)):=hl.perm pm1;refine⟨x,dx',L,bl,zs,rfl,q0b,z7v rl1 hx hdx,hl1,by have:=pm1.length_eq;rw[Aa] at this;lia,fun d' H2 hd i1 i2 i3=>⟨rfl,?_⟩⟩;obtain⟨s2,_⟩:=z0p hx hdx hd i3;exact k x d' _ H2 (s1.trans s2) (s1.free hx) ⟨⟨dx',i1⟩,i2⟩ pm1
structure CallsM (P:Program) (w:World) (K:Ag) (mg:Str->Option Value) (base:Heap) (c:Addr):Prop where
 m_move:MCal P w K mg base c "move" 4 ["self", "path", "place"] (spMove c)
def spMade(c:Addr):Sp:=fun vs H Q _=>∃h d a b bl rows p q,vs=[.ref h,.ref a,.ref b]/\HallAt c H h d bl rows/\rows.length<=60/\H a=some (.tup (vP p))/\H b=some (.tup (vP q))/\Mvd bl rows p q /\
 ∀D H',H D=none->(∀x u,x≠h->H x=some u->H' x=some u)->HallAt c H' h D bl (rows.map (cR p q))->Q (.bl true) H'
abbrev q5e:Stmt:=top 25
theorem z4q:FnScope ["hall", "path", "place"] ["hall", "path", "place"] (defScope q5e):=by trivial
theorem z4r{c:Addr}(D:Df K mg "is_made" q5e ["hall", "path", "place"])(T:Txt mg)(C:CallsM P w K mg base c):Cal P w K mg base "is_made" 5 ["hall", "path", "place"] (spMade c):=by
 refine D.cal z4q (fun vs H Q E h=>?_) (fun f cdv A outer s H vs Q E hr h=>?_)
 ·obtain⟨h,d,a,b,bl,rows,p,q,rfl,_⟩:=h;rfl
 ·obtain⟨h,d,a,b,bl,rows,p,q,rfl,hh,h60,ha,hb,mv,k⟩:=h;refine⟨_,(q0c (z7f rfl (q0f (q1d (pe_m C.m_move hr (pv 0) (q0a (pv 1) (q0a (pv 2) q0d)))))) (q0f (q0k q4g))),?_⟩;obtain⟨dx,hi⟩:=hh.i;obtain⟨mk0,hp,par⟩:=mv.m;refine⟨_,rfl,h,dx,_,rfl,hi,rfl,_,rfl,_,rfl,h,d,a,b,bl,rows,p,q,mk0,rfl,hh,mv.hl,h60,ha,hb,hp,par,mv.ne,mv.fr,mv.moved.paths,fun D1 H4 hD1 kp hall4=>?_⟩;exact k D1 H4 hD1 kp hall4
structure CallsW (P:Program) (w:World) (K:Ag) (mg:Str->Option Value) (base:Heap) (c:Addr):Prop where
 copied:Cal P w K mg base "copied" 6 ["hall"] (spCopied c)
 is_made:Cal P w K mg base "is_made" 5 ["hall", "path", "place"] (spMade c)
def spWalk(c:Addr):Sp:=fun vs H Q _=>∃h d L bl rows zs,vs=[.ref h,.ref L]/\HallAt c H h d bl rows/\rows.length<=60/\ML H L zs/\WkOk bl rows (zs.map (·.2)) /\
 ∀h' d' rows' H',Same H H'->H h'=none->HallAt c H' h' d' bl rows'->rows'.Perm (wk rows (zs.map (·.2)))->Q (.ref h') H'
abbrev z1z:Stmt:=top 26
theorem sc_walk:FnScope ["hall", "row", "walked", "at", "path", "place"] ["hall", "row"] (defScope z1z):=by trivial
theorem x3x{c:Addr}(D:Df K mg "walk" z1z ["hall", "row"])(T:Txt mg)(C:CallsW P w K mg base c):Cal P w K mg base "walk" 7 ["hall", "row"] (spWalk c):=by
 refine D.cal sc_walk (fun vs H Q E h=>?_) (fun f cdv A outer s H vs Q E hr h=>?_)
 ·obtain⟨h,d,L,bl,rows,zs,rfl,_⟩:=h;rfl
 ·obtain⟨h,d,L,bl,rows,zs,rfl,hh,h60,ml,ok,k⟩:=h;refine⟨_,(q0c (q0o (i:=2) sc_walk.nd rfl (by trivial) (pe_c C.copied hr (q0a (pv 0) q0d))) (q0c (q5k Dy rfl (@x1p _ _ _ _ _ _ _ _ K rfl rfl T.b_enumerate (q0a (pv 1) q0d) (by rfl)) (@q1u _ _ _ _ (2) _ K rfl rfl (q0j (q0h (i:=3) sc_walk.nd rfl (by trivial)) (q0j (@q1u _ _ _ _ (2) _ K rfl rfl (q0j (q0h (i:=4) sc_walk.nd rfl (by trivial)) (q0j (q0h (i:=5) sc_walk.nd rfl (by trivial)) q1e)) (by rfl) (by rfl)) q1e)) (by rfl) (by rfl)) (q0f (q1j (q4i (@q4m _ _ _ K rfl (pe_c C.is_made hr (q0a (pv 2) (q0a (pv 4) (q0a (pv 5) q0d)))) (fun _=>rfl))) (q0f q1n) q0n))) (q0f (q0k (pv 2))))),?_⟩;refine⟨_,rfl,h,d,bl,rows,rfl,hh,ok.hd,h60,fun h' d0 rows0 H1 s1 hh' hall1 pm1=>?_⟩;refine⟨_,rfl,.inr ⟨L,_,rfl,SqL.of (s1 _ _ ml.at_),?_⟩⟩;refine z0g (fun i σ' H2=>∃x3 x4 x5 d' rows',σ'=[some (.ref h),some (.ref L),some (.ref h'),x3,x4,x5]/\Same H H2/\HallAt c H2 h' d' bl rows'/\rows'.Perm (wk rows ((zs.map (·.2)).take i))) ⟨none,none,none,d0,rows0,rfl,s1,hall1,pm1⟩ (fun i σ' H2 h=>by obtain⟨_,_,_,_,_,_,s2,_⟩:=h;exact SqL.of (s2 _ _ ml.at_)) ?_ ?_
  ·rintro i v T' σ' H2 hv ⟨x3,x4,x5,d',rows',rfl,s2,hall2,pm2⟩ hT;obtain⟨z,hz,rfl⟩:=gR0 hv
   have sT:=(Same.refl H2).new (o:=.tup [.int i,.ref z.1]) hT;obtain⟨A1,B1,g1,g2,g3⟩:=((ml.same s2).same sT).pr z (Aq hz);have hzr:(zs.map (·.2))[i]?=some z.2:=by rw[Au,hz];rfl
   have e1:(zs.map (·.2)).take (i+1)=(zs.map (·.2)).take i++[z.2]:=by rw[Bm,hzr];rfl
   have mv0:Mvd bl (wk rows ((zs.map (·.2)).take i)) z.2.1 z.2.2:=by
    have:=(ok.take (i+1)).1;rw[e1] at this;exact(WkOk.app.mp this).2.1
   have mv:=mv0.perm pm2;refine⟨T',_,rfl,SqT.of q0b,rfl,_,_,rfl,_,_,rfl,z.1,_,rfl,SqT.of g1,rfl,_,_,rfl,_,_,rfl,rfl,rfl,?_⟩;have hall3:=hall2.same sT;have s3:=s2.trans sT;refine⟨_,rfl,_,rfl,_,rfl,h',d',A1,B1,bl,rows',z.2.1,z.2.2,rfl,hall3,by rw[pm2.length_eq,q8f];exact h60,g2,g3,mv,fun D1 H4 hD1 kp hall4=>⟨true,rfl,iteF ?_⟩⟩;refine⟨_,_,_,D1,_,rfl,fun x u e=>kp x u (fun y=>by rw[y,hh'] at e;cases e) (s3 _ _ e),hall4,?_⟩;rw[e1,z1u];exact pm2.map _
  ·rintro σ' H2 ⟨x3,x4,x5,d',rows',rfl,s2,hall2,pm2⟩;rw[Aa,<- Aa (f:=fun z:Zm=>z.2),Bj] at pm2;exact⟨_,rfl,k h' d' rows' H2 s2 hh' hall2 pm2⟩
theorem z7y{a:Addr}{xs:List V}{te:TE}{r:St}{D:Addr}{Fin:List V->Hp->Prop}{H1:Hp}(Pv:Nat->List V->Hp->Prop)(h0:Pv 0 [] (upd H1 D (.lst [])))(hl:∀i ys H,Pv i ys H->H D=some (.lst ys)/\SqL K H a xs)(hs:∀i ys H x,xs.reverse[i]?=some x->Pv i ys H->∃T v w,x=.ref T/\SqT K H T [v,w]/\te (some v::some w::r) H fun u H4=>H4 D=some (.lst ys)/\ys.length<sizeLine/\Pv (i+1) (ys++[u]) (upd H4 D (.lst (ys++[u]))))(hd:∀ys H,Pv xs.length ys H->Fin ys H):CompW (Itv K a xs.length) (gTup K 2 (gCons (gName 0) (gCons (gName 1) gNil))) tIf0 te (none::none::r) D Fin H1 :=
 q8o (n:=xs.length) Pv h0 (fun i ys H p=>(hl i ys H p).1) (fun i ys H h p=>⟨xs,xs.reverse[i]'(by simpa using h),(hl i ys H p).2,rfl,Bz _⟩) (fun ys H p=>Ak _)
  (fun i ys H x H' h p y=>by
   obtain⟨e,y⟩:=y;subst e;obtain⟨T,v,w,rfl,hT,q⟩:=hs i ys _ x (y xs (hl i ys _ p).2) p;refine⟨T,_,rfl,hT,rfl,_,_,rfl,_,_,rfl,rfl,q2h,?_⟩;exact iteT (B:=Pv (i+1) ys H') q) hd
def spTurned:Sp:=fun vs H Q _=>∃L zs,vs=[.ref L]/\ML H L zs/\zs.length<=2000/\∀L' zs' H',H L'=none->Same H H'->ML H' L' zs'->zs'.map (·.2)=tb (zs.map (·.2))->Q (.ref L') H'
abbrev q2d:Stmt:=top 27
theorem q7m:FnScope ["row"] ["row"] (defScope q2d):=by trivial
theorem q7n(D:Df K mg "turned_back" q2d ["row"])(T:Txt mg):Cal P w K mg base "turned_back" 1 ["row"] spTurned:=by
 refine D.cal q7m (fun vs H Q E h=>?_) (fun f cdv A outer s H vs Q E hr h=>?_)
 ·obtain⟨L,zs,rfl,_⟩:=h;rfl
 ·obtain⟨L,zs,rfl,ml,hml,k⟩:=h;refine⟨_,(q0f (q0k (q1o ["path", "place"] [] rfl (@rev_k _ _ _ _ _ _ K rfl rfl T.b_reversed (q0a (pv 0) q0d) (by rfl)) (fun _ _ _ _ _=>(@q1u _ _ _ _ (2) _ K rfl rfl (q0j (q0h (i:=0) (show(["path", "place"]:List Str).Nodup by decide +kernel) rfl (by trivial)) (q0j (q0h (i:=1) (show(["path", "place"]:List Str).Nodup by decide +kernel) rfl (by trivial)) q1e)) (by rfl) (by rfl))) (fun _ _ _ _ _=>q1f) (fun _ _ _ _ _=>(q1z (q0a (pv 1) (q0a (pv 0) q0d))))))),?_⟩;refine⟨_,rfl,L,_,rfl,ml.at_,fun D hD=>?_⟩;refine z7y (xs:=zs.map fun z=>V.ref z.1) (fun i ys H'=>∃us:List Zm,ys=us.map (fun z=>V.ref z.1)/\Same H H'/\ML H' D us/\us.map (·.2)=((zs.map (·.2)).reverse.take i).map (fun m=>(m.2,m.1))/\i<=zs.length) ⟨[],rfl,(Same.refl H).new hD,ML.nil q0b,by rw[Jn];rfl,Br _⟩ (fun i ys H' ⟨us,e,sm,hu,_⟩=>⟨by rw[e];exact hu.at_,SqL.of (sm _ _ ml.at_)⟩) ?_ ?_
  ·rintro i ys H' x hx ⟨us,rfl,sm,hu,hum,hi⟩;rw[<- Hx] at hx;obtain⟨z,hz,rfl⟩:=gR0 hx
   have hzm:z∈zs:=Sf.mp (Aq hz);have hi':i<zs.length:=by have:=(Ax.mp hz).1;simpa using this
   obtain⟨A1,B1,g1,g2,g3⟩:=(ml.same sm).pr z hzm;have hul:us.length<=zs.length:=by
    have:=congrArg List.length hum;rw[Aa,Aa,An] at this;lia
   refine⟨z.1,.ref A1,.ref B1,rfl,SqT.of g1,_,rfl,_,rfl,by show 2<=sizeLine;decide,fun T2 hT2=>?_⟩;have sT:=(Same.refl H').new (o:=.tup [.ref B1,.ref A1]) hT2;have hu2:=hu.same sT;have kt:∀S xs,upd H' T2 (.tup [.ref B1,.ref A1]) S=some (.tup xs)->upd (upd H' T2 (.tup [.ref B1,.ref A1])) D (.lst (us.map (fun z=>V.ref z.1)++[.ref T2])) S=some (.tup xs):=fun S xs e=>by rw[q0e (fun y=>by have:=hu2.at_;rw[<- y,e] at this;cases this)];exact e
   refine⟨hu2.at_,small' (by rw[Aa];lia),us++[(T2,(z.2.2,z.2.1))],by rw[Al];rfl,(sm.new hT2).put hD,⟨by rw[Al];exact q0b,fun y hy=>?_⟩,?_,hi'⟩
   ·rcases Ay.mp hy with hy|hy
    ·exact(hu2.pr y hy).keep kt
    ·rw[Az.mp hy];exact MT.keep (m:=(z.2.2,z.2.1)) ⟨B1,A1,q0b,sT _ _ g3,sT _ _ g2⟩ kt
   ·have e2:(zs.map (·.2)).reverse[i]?=some z.2:=by rw[<- Hx,Au,hz];rfl
    rw[Al,hum,Bm,e2,Al];rfl
  ·rintro ys H' ⟨us,rfl,sm,hu,hum,hi⟩;refine k D us H' hD sm hu ?_;have e3:((zs.map (·.2)).reverse).length=(zs.map fun z=>V.ref z.1).length:=by simp
   rw[hum,<- e3,Bj];rfl
def spot(ns:List (List Nat))(k:Nat):Pth:=ns.take (min k 5)++[ns.getD k []]
def mk5(k:Nat):Option Int:=if k<=4 then none else some (k:Int)
def th(ns:List (List Nat)):List Rw:=(List.range ns.length).map fun k=>(spot ns k,mk5 k)
structure Nms (ns:List (List Nat)):Prop where
 ok:∀n∈ns,okN n
 ap:∀i j,i<ns.length->j<ns.length->lowN (ns.getD i [])=lowN (ns.getD j [])->i=j
section
variable{ns:List (List Nat)}{k:Nat}
theorem x2d(h:k<ns.length):ns.getD k []∈ns:=by
 rw[Ca,Bz h];exact List.getElem_mem h
theorem q5f:spot ns k≠[]:=by unfold spot;simp
theorem q9a:(spot ns k).dropLast=ns.take (min k 5):=by unfold spot;rw[Fu]
theorem q7d:(spot ns k).getLastD []=ns.getD k []:=by unfold spot;rw[Pj]
theorem q3t(h:k<ns.length):(spot ns k).length=min k 5+1:=by unfold spot;rw[Af,An];simp;lia
theorem x2e(h:k<ns.length):(spot ns k,mk5 k)∈th ns:=Am.mpr ⟨k,Dc.mpr h,rfl⟩
theorem z3n{m:Nat}(h:m<ns.length)(h5:m<5):spot ns m=ns.take (m+1):=by
 unfold spot;rw[show min m 5=m from by lia,Bm,Ca,Bz h];rfl
theorem z7z(h:k<ns.length):ns.take (min k 5)=[]\/(ns.take (min k 5),(none:Option Int))∈th ns:=by
 by_cases h0:k=0
 ·subst h0;left;rfl
 right;have hm:min k 5-1<ns.length:=by lia
 have e:=z3n (ns:=ns) hm (by lia);rw[show min k 5-1+1=min k 5 from by lia] at e;rw[<- e];have:=x2e hm;rw[show mk5 (min k 5-1)=none from by unfold mk5;rw[if_pos (by lia)]] at this;exact this
theorem x3y(n:Nms ns)(h:k<ns.length):okP (spot ns k):=by
 refine⟨q5f,by rw[q3t h];lia,fun x hx=>?_⟩;unfold spot at hx;rcases Ay.mp hx with hx|hx
 ·exact n.ok x (Bc hx)
 ·rw[Az.mp hx];exact n.ok _ (x2d h)
theorem z3o{bl:Bool}{p q:Pth}(hp:p≠[])(hq:q≠[])(e:fold bl p=fold bl q):lowN (p.getLastD [])=lowN (q.getLastD []):=by
 have:=((z1r hp hq).mp e).2;cases bl with
 |true=>exact this
 |false=>exact congrArg lowN this
theorem z8a{bl:Bool}(n:Nms ns):Hl bl (th ns):=by
 refine⟨fun r hr=>?_,?_,fun r hr=>?_⟩
 ·obtain⟨k,hk,rfl⟩:=Am.mp hr;exact x3y n (Dc.mp hk)
 ·unfold th;rw[Bd];refine q2c Sg fun x hx y hy e=>?_;have:=z3o q5f q5f e;rw[q7d,q7d] at this;exact n.ap x y (Dc.mp hx) (Dc.mp hy) this
 ·obtain⟨k,hk,rfl⟩:=Am.mp hr;show(spot ns k).dropLast=[]\/((spot ns k).dropLast,none)∈th ns;rw[q9a];exact z7z (Dc.mp hk)
def plc(ns:List (List Nat))(k:Nat)(f:List Nat):Pth:=ns.take (min k 5)++[f]
theorem th_mvd{bl:Bool}{f:List Nat}(n:Nms ns)(h:k<ns.length)(okf:okN f)(ap:∀j,j<ns.length->lowN (ns.getD j [])≠lowN f):Mvd bl (th ns) (spot ns k) (plc ns k f):=by
 have gl:(plc ns k f).getLastD []=f:=by unfold plc;rw[Pj]
 have ne:plc ns k f≠[]:=by unfold plc;simp
 refine⟨z8a n,⟨mk5 k,x2e h,fun _=>by rw[q9a];unfold plc;rw[Fu]⟩,fun e=>?_,⟨⟨ne,?_,fun x hx=>?_⟩,?_,fun r hr e=>?_⟩⟩
 ·have:=congrArg (fun p:Pth=>p.getLastD []) e;simp only[gl,q7d] at this;exact ap k h (by rw[this])
 ·unfold plc;rw[Af,An];simp;lia
 ·unfold plc at hx;rcases Ay.mp hx with hx|hx
  ·exact n.ok x (Bc hx)
  ·rw[Az.mp hx];exact okf
 ·show(plc ns k f).dropLast=[]\/_;unfold plc;rw[Fu];exact z7z h
 ·obtain⟨j,hj,rfl⟩:=Am.mp hr;have:=z3o q5f ne e;rw[q7d,gl] at this;exact absurd this (ap j (Dc.mp hj))
theorem z3p{f:List Nat}{j:Nat}(h:k<ns.length):(ns.set k f).getD j []=if j=k then f else ns.getD j []:=by
 rw[Ca,List.getElem?_set,Ca];by_cases e:j=k
 ·subst e;simp[h]
 ·rw[if_neg (fun z=>e z.symm),if_neg e]
theorem q7e{f:List Nat}{m:Nat}(h:m<=k):(ns.set k f).take m=ns.take m:=by
 rw[List.take_set_of_le h]
theorem x0z{f:List Nat}{j:Nat}(n:Nms ns)(h:k<ns.length)(hj:j<ns.length):carry (spot ns k) (plc ns k f) (spot ns j)=spot (ns.set k f) j:=by
 unfold carry;rw[q3t h];have es:spot (ns.set k f) j=(ns.set k f).take (min j 5)++[if j=k then f else ns.getD j []]:=by unfold spot;rw[z3p h]
 by_cases e:j=k
 ·subst e;rw[if_pos (by rw[Cd (by rw[q3t h];exact Ak _)]),es,if_pos rfl,Ka (by rw[q3t h];exact Ak _),Bv,q7e (by lia)];rfl
 rw[es,if_neg e];by_cases c:k<min j 5
 ·have k5:k<5:=by lia
  have e1:(spot ns j).take (k+1)=ns.take (k+1):=by
   unfold spot;rw[Gv (by rw[An];lia),Hg,show min (k+1) (min j 5)=k+1 from by lia]
  rw[show min k 5+1=k+1 from by lia,if_pos (by rw[e1,z3n h k5])];unfold plc spot;rw[Ld (by rw[An];lia),show min k 5=k from by lia,<- Bp];congr 1;refine List.ext_getElem? fun i=>?_;rw[Bp,List.singleton_append,Lz];by_cases i1:i<k
  ·rw[Dh (by rw[An];lia),Lz,if_pos i1,if_pos (by lia),Hn (by lia)]
  ·rw[Cz (by rw[An];lia),An,show min k ns.length=k from by lia];by_cases i2:i=k
   ·subst i2;rw[Ni,if_pos c,Jv h];rfl
   ·rw[show i-k=(i-k-1)+1 from by lia,List.getElem?_cons_succ,List.getElem?_drop,Lz,show k+1+(i-k-1)=i from by lia,Hn (by lia)]
 ·have hne:(spot ns j).take (min k 5+1)≠spot ns k:=fun z=>by
   by_cases l:(spot ns j).length<=min k 5+1
   ·rw[Cd l] at z;have:=congrArg (fun p:Pth=>p.getLastD []) z;simp only[q7d] at this;exact e (n.ap j k hj h (by rw[this]))
   ·rw[q3t hj] at l;lia
  rw[if_neg hne];unfold spot;rw[q7e (by lia)]
theorem x2f{f:List Nat}(n:Nms ns)(h:k<ns.length):(th ns).map (cR (spot ns k) (plc ns k f))=th (ns.set k f):=by
 unfold th;rw[Bd,Ff];refine Cu fun j hj=>?_;show(carry (spot ns k) (plc ns k f) (spot ns j),mk5 j)=_;rw[x0z n h (Dc.mp hj)]
end
def dg3(n:Nat):List Nat:=[48+n / 100,48+n / 10%10,48+n%10]
def nam(i:Nat)(t:List Nat)(n:Nat):List Nat:=t.take i++dg3 n++t.drop i
theorem z8b:∀d,d<10->48+d∈NS:=by decide +kernel
theorem z8c:∀d,d<10->Hv (48+d)=48+d:=by decide +kernel
theorem dg3_in{n:Nat}(h:n<1000):∀c∈dg3 n,c∈NS:=by
 intro c hc;unfold dg3 at hc;rcases Ba.mp hc with rfl|hc
 ·exact z8b _ (by lia)
 rcases Ba.mp hc with rfl|hc
 ·exact z8b _ (by lia)
 rw[Az.mp hc];exact z8b _ (by lia)
theorem x3z{n:Nat}(h:n<1000):lowN (dg3 n)=dg3 n:=by
 unfold lowN dg3;rw[Ao,Ao,Ao,List.map_nil,z8c _ (by lia),z8c _ (by lia),z8c _ (by lia)]
theorem x4a{n m:Nat}(e:dg3 n=dg3 m):n=m:=by
 unfold dg3 at e;injection e with e1 e;injection e with e2 e;injection e with e3 _;lia
theorem nam_ok{i n:Nat}{t:List Nat}(hi:i<=9)(ht:t.length=9)(hn:n<1000)(ok:∀c∈t,c∈NS):okN (nam i t n):=by
 have l:(nam i t n).length=12:=by
  unfold nam dg3;rw[Af,Af,An,Cw];simp;lia
 refine⟨by lia,by lia,fun c hc=>?_⟩;unfold nam at hc;rcases Ay.mp hc with hc|hc
 ·rcases Ay.mp hc with hc|hc
  ·exact ok c (Bc hc)
  ·exact dg3_in hn c hc
 ·exact ok c (Ph hc)
theorem x4b{i n m:Nat}{t u:List Nat}(hi:i<=9)(ht:t.length=9)(hu:u.length=9)(hn:n<1000)(hm:m<1000)(e:lowN (nam i t n)=lowN (nam i u m)):n=m:=by
 have key:∀{v:List Nat} {k:Nat},v.length=9->k<1000->((lowN (nam i v k)).drop i).take 3=dg3 k:=fun{v k} hv hk=>by
  unfold nam;have e1:lowN (v.take i++dg3 k++v.drop i)=lowN (v.take i)++(dg3 k++lowN (v.drop i)):=by
   have:=x3z hk;unfold lowN at this ⊢;rw[Al,Al,this,Bp]
  have l1:(lowN (v.take i)).length=i:=by unfold lowN;rw[Aa,An];lia
  rw[e1,Ld (by lia),Ka (by lia),Sv];rfl
 have h1:=key (v:=t) ht hn;have h2:=key (v:=u) hu hm;rw[e,h2] at h1;exact x4a h1.symm
def mvs(fr:List (List Nat)):List (List Nat)->List Nat->List Mv
 |_,[]=>[]
 |ns,k::r=>(spot ns k,plc ns k (fr.getD k []))::mvs fr (ns.set k (fr.getD k [])) r
def aft(fr:List (List Nat)):List (List Nat)->List Nat->List (List Nat)
 |ns,[]=>ns
 |ns,k::r=>aft fr (ns.set k (fr.getD k [])) r
structure Due (fr ns:List (List Nat)) (o:List Nat):Prop where
 n:Nms ns
 lt:∀k∈o,k<ns.length
 ok:∀k∈o,okN (fr.getD k [])
 ap:∀k∈o,∀j,j<ns.length->lowN (ns.getD j [])≠lowN (fr.getD k [])
 nd:o.Nodup
 tw:∀k∈o,∀l∈o,lowN (fr.getD k [])=lowN (fr.getD l [])->k=l
theorem Due.tl{fr ns:List (List Nat)}{k:Nat}{o:List Nat}(h:Due fr ns (k::o)):Due fr (ns.set k (fr.getD k [])) o:=by
 have hk:k<ns.length:=h.lt k Aj;have nd:=Cg.mp h.nd;refine⟨⟨fun n hn=>?_,fun i j hi hj e=>?_⟩,fun l hl=>?_,fun l hl=>h.ok l (Ah _ hl),fun l hl j hj=>?_,nd.2,fun a ha b hb=>h.tw a (Ah _ ha) b (Ah _ hb)⟩
 ·rcases Mq hn with hn|rfl
  ·exact h.n.ok n hn
  ·exact h.ok k Aj
 ·rw[Ff] at hi hj;rw[z3p hk,z3p hk] at e;by_cases e1:i=k
  ·by_cases e2:j=k
   ·rw[e1,e2]
   ·rw[if_pos e1,if_neg e2] at e;exact absurd e.symm (h.ap k Aj j hj)
  ·by_cases e2:j=k
   ·rw[if_neg e1,if_pos e2] at e;exact absurd e (h.ap k Aj i hi)
   ·rw[if_neg e1,if_neg e2] at e;exact h.n.ap i j hi hj e
 ·rw[Ff];exact h.lt l (Ah _ hl)
 ·rw[Ff] at hj;rw[z3p hk];split
  ·intro e;have:=h.tw k Aj l (Ah _ hl) e;exact nd.1 (this▸hl)
  ·exact h.ap l (Ah _ hl) j hj
theorem x2g{bl:Bool}{fr:List (List Nat)}:∀{o:List Nat} {ns:List (List Nat)},Due fr ns o->WkOk bl (th ns) (mvs fr ns o)
 |[],_,h=>z8a h.n
 |k::r,ns,h=>by
  have hk:=h.lt k Aj;refine⟨th_mvd h.n hk (h.ok k Aj) (h.ap k Aj),?_⟩;show WkOk bl ((th ns).map (cR (spot ns k) (plc ns k (fr.getD k [])))) _;rw[x2f h.n hk];exact x2g h.tl
theorem x2h{fr:List (List Nat)}:∀{o:List Nat} {ns:List (List Nat)},Due fr ns o->wk (th ns) (mvs fr ns o)=th (aft fr ns o)
 |[],_,_=>rfl
 |k::r,ns,h=>by
  show wk ((th ns).map (cR (spot ns k) (plc ns k (fr.getD k [])))) _=_;rw[x2f h.n (h.lt k Aj)];exact x2h h.tl
theorem z3q{fr:List (List Nat)}:∀{o:List Nat} {ns:List (List Nat)} (i:Nat),(mvs fr ns o).take i=mvs fr ns (o.take i)
 |[],_,0=>rfl
 |[],_,_+1=>rfl
 |_::_,_,0=>rfl
 |k::r,ns,i+1=>by
  show _::(mvs fr (ns.set k (fr.getD k [])) r).take i=_::mvs fr (ns.set k (fr.getD k [])) (r.take i);rw[z3q i]
theorem q7f{fr:List (List Nat)}:∀{o:List Nat} {ns:List (List Nat)},(mvs fr ns o).length=o.length
 |[],_=>rfl
 |_::r,_=>congrArg (· + 1) (q7f (o:=r))
theorem Due.take{fr ns:List (List Nat)}{o:List Nat}(h:Due fr ns o)(i:Nat):Due fr ns (o.take i) :=
 ⟨h.n,fun k hk=>h.lt k (Bc hk),fun k hk=>h.ok k (Bc hk),fun k hk=>h.ap k (Bc hk),h.nd.sublist (Mi _ _),fun k hk l hl=>h.tw k (Bc hk) l (Bc hl)⟩
theorem mvs_at{fr ns:List (List Nat)}{o:List Nat}(h:Due fr ns o)(i:Nat):wk (th ns) ((mvs fr ns o).take i)=th (aft fr ns (o.take i)):=by
 rw[z3q];exact x2h (h.take i)
end
end K
set_option maxHeartbeats 4000000
namespace K
open PySem L2 TX SB HM PM
section
variable{P:Program}{w:World}{K:Ag}{mg:Str->Option Value}{base:Heap}
theorem z3r{q:Pth}(h:okP q):∀x∈q,x.length<=12:=fun x hx=>(h.all x hx).few
theorem q2y{q:Pth}(h:okP q):(jn q).length<=78:=by
 have:=z7p (m:=12) (z3r h);have:=h.few;have:q.length*(12+1)<=6*13:=Pk _ h.few;lia
theorem spc:Ad " " = mk [32]:=by decide +kernel
theorem q1r(a b:List Nat):mk a++mk b=mk (a++b):=ext (by rw[q5m,q0z,q0z,q0z])
theorem z8d(a:Str):Fw++a=a:=ext (by rw[q5m];rfl)
def MVT:List Nat:=tl (Ad "move ")
def BGN:List Nat:=tl (Ad "begin")
def DNT:List Nat:=tl (Ad "done ")
def mvT(m:Mv):List Nat:=MVT++(jn m.1++32::jn m.2)
def dnT(k:Nat):List Nat:=DNT++dg k
def lnsB(ms:List Mv):List (List Nat):=ms.map mvT++BGN::(List.range ms.length).map dnT
def bkT(ls:List (List Nat)):List Nat:=(ls.map fun l=>l++[10]).flatten
def wr(l n:Nat):Nat:=min n (l+1)+(n-(l+1)) / 2
def md(l n:Nat):Nat:=(n-(l+1)+1) / 2
def stL(ms:List Mv)(n:Nat):List (List Nat):=(ms.take n).map mvT++(if ms.length<n then[BGN] else[])++(List.range ((n-(ms.length+1)) / 2)).map dnT
theorem stL_eq{ms:List Mv}{n:Nat}(h:n<=3*ms.length+2):stL ms n=(lnsB ms).take (wr ms.length n):=by
 unfold stL lnsB wr;by_cases hn:ms.length<n
 ·have e1:min n (ms.length+1)=ms.length+1:=Sd hn;have e2:ms.length+1+(n-(ms.length+1)) / 2=(ms.map mvT).length+((n-(ms.length+1)) / 2+1):=by rw[Aa];lia
  rw[if_pos hn,e1,e2,List.take_length_add_append,List.take_succ_cons,Cd (Gy hn),<- Cp,List.take_range,Gu (by lia),Bp];rfl
 ·have e1:min n (ms.length+1)=n:=Gu (by lia);have e2:n-(ms.length+1)=0:=by lia
  rw[if_neg hn,e1,e2,Gv (by rw[Aa];lia),<- Cp,Bv];show(ms.take n).map mvT++[]=_;rw[Bv];rfl
theorem mvw:Ad "move " = mk MVT:=(q9r _).symm
theorem bgw:Ad "begin" = mk BGN:=(q9r _).symm
theorem dnw:Ad "done " = mk DNT:=(q9r _).symm
theorem q4b:MVT.length=5:=by decide +kernel
theorem x4c:BGN.length=5:=by decide +kernel
theorem z8e:DNT.length=5:=by decide +kernel
def okMv(m:Mv):Prop:=okP m.1/\okP m.2
theorem z2a{m:Mv}(h:okMv m):(mvT m).length<=200:=by
 have:=q2y h.1;have:=q2y h.2;unfold mvT;rw[Af,Af,Bf,q4b];lia
theorem dg_le{k:Nat}(h:k<=1000):(dg k).length<=10:=z6n 9 _ (by lia)
theorem z2b{k:Nat}(h:k<=1000):(dnT k).length<=200:=by
 have:=dg_le h;unfold dnT;rw[Af,z8e];lia
theorem q5y(ms:List Mv):(lnsB ms).length=2*ms.length+1:=by
 unfold lnsB;rw[Af,Bf,Aa,Aa,De];lia
theorem q4t{ms:List Mv}(h:∀m∈ms,okMv m)(hl:ms.length<=1000):∀x∈lnsB ms,x.length<=200:=fun x hx=>by
 unfold lnsB at hx;rcases Ay.mp hx with hx|hx
 ·obtain⟨m,hm,rfl⟩:=Am.mp hx;exact z2a (h m hm)
 ·rcases Ba.mp hx with rfl|hx
  ·rw[x4c];lia
  ·obtain⟨k,hk,rfl⟩:=Am.mp hx;have:=Dc.mp hk;exact z2b (by lia)
abbrev vL(ns:List (List Nat)):List V:=ns.map fun n=>V.str (mk n)
theorem vL_map(ns:List (List Nat)):(ns.map mk).map V.str=vL ns:=by rw[Bd];rfl
theorem z8f(a:List (List Nat))(b:List Nat):vL a++[V.str (mk b)]=vL (a++[b]):=by show _=(a++[b]).map _;rw[Al];rfl
theorem x4d{M:Nat}{ns:List (List Nat)}(h:∀x∈ns,x.length<=M):((ns.map mk).map (·.length)).sum<=ns.length*M:=by
 induction ns with
 |nil=>exact Br _
 |cons a r ih =>
  have:=ih fun x hx=>h x (Ah _ hx);have h1:=h a Aj;rw[Ao,Ao,Md,q0l,Bf,Nh];lia
theorem nlw:Ad "\n" = mk [10]:=by decide +kernel
theorem z8g(ns:List (List Nat)):(ns.map mk).map tl=ns:=by
 rw[Bd];exact List.map_id'' (fun x=>q0z x) ns
theorem z8h(ls:List (List Nat)):PySem.Txt.join (Ad "") ((ls.map fun l=>l++[10]).map mk)=mk (bkT ls):=ext (by rw[z6c,q0z,z8g];rfl)
theorem z8i{K:Ag}{L D:Addr}{ls:List (List Nat)}{H1:Hp}{te:TE}{Fin:List V->Hp->Prop}(hL:H1 L=some (.lst (vL ls)))(hD:H1 D=none)(few:ls.length<=1000)(sz:∀x∈ls,x.length<=200)(he:∀(l:List Nat) (H:Hp) (Q:VK),l.length<=200->Q (.str (mk (l++[10]))) H->te [some (.str (mk l))] H Q)(k:∀H',Same H1 H'->H' D=some (.lst (((ls.map fun l=>l++[10]).map mk).map V.str))->(((ls.map fun l=>l++[10]).map mk).map (·.length)).sum+((ls.map fun l=>l++[10]).map mk).length*(Ad "").length<=16777216->Fin (((ls.map fun l=>l++[10]).map mk).map V.str) H'):
  CompW (Itl K L) (gName 0) tIf0 te [none] D Fin H1:=by
 refine q2i (xs:=vL ls) (fun i ys H'=>ys=vL ((ls.take i).map fun l=>l++[10])/\Same H1 H'/\H' D=some (.lst ys)) ⟨rfl,(Same.refl H1).new hD,q0b⟩ (fun i ys H' x=>⟨x.2.2,SqL.of (x.2.1 _ _ hL)⟩) ?_ ?_
 ·rintro i ys H' v hv ⟨rfl,sm,hHD⟩;obtain⟨l,hl,rfl⟩:∃l,ls[i]?=some l/\v=.str (mk l):=by
   rw[Au] at hv;cases e:ls[i]? with
   |none=>rw[e] at hv;cases hv
   |some z=>rw[e] at hv;cases hv;exact⟨z,rfl,rfl⟩
  have hi:i<ls.length:=(Ax.mp hl).1;refine he l H' _ (sz l (Aq hl)) ⟨hHD,small' (by rw[Aa,Aa,An];lia),?_,sm.put hD,q0b⟩;rw[Bm,hl];show _=vL ((ls.take i++[l]).map fun l=>l++[10]);rw[Al];show _=((ls.take i).map (fun l=>l++[10])++[l++[10]]).map _;rw[Al];rfl
 ·rintro ys H' ⟨rfl,sm,hHD⟩;rw[Aa,Bj] at hHD ⊢;rw[<- vL_map] at hHD ⊢;refine k H' sm hHD ?_;have:=x4d (M:=201) (ns:=ls.map fun l=>l++[10]) fun x hx=>by
   obtain⟨y,hy,rfl⟩:=Am.mp hx;rw[Af];have:=sz y hy;show _+1<=_;lia
  rw[Aa] at this;have e0:(Ad "").length=0:=by decide +kernel
  rw[e0,Nat.mul_zero];lia
theorem z3s{K:Ag}{L D:Addr}{zs:List Zm}{H1:Hp}{te:TE}{Fin:List V->Hp->Prop}(hL:ML H1 L zs)(hD:H1 D=none)(few:zs.length<=1000)(ok:∀m∈zs.map (·.2),okMv m)(he:∀(A B:Addr) (m:Mv) (H:Hp) (Q:VK),okMv m->H A=some (.tup (vP m.1))->H B=some (.tup (vP m.2))->(∀H',Same H H'->Q (.str (mk (mvT m))) H')->te [some (.ref A),some (.ref B)] H Q)(k:∀H',Same H1 H'->H' D=some (.lst (vL ((zs.map (·.2)).map mvT)))->Fin (vL ((zs.map (·.2)).map mvT)) H'):
  CompW (Itl K L) (gTup K 2 (gCons (gName 0) (gCons (gName 1) gNil))) tIf0 te [none,none] D Fin H1:=by
 refine q6n (xs:=zs.map fun z=>V.ref z.1) (fun i ys H'=>ys=vL (((zs.take i).map (·.2)).map mvT)/\Same H1 H'/\H' D=some (.lst ys)) ⟨rfl,(Same.refl H1).new hD,q0b⟩ (fun i ys H' x=>⟨x.2.2,SqL.of (x.2.1 _ _ hL.at_)⟩) ?_ ?_
 ·rintro i ys H' v hv ⟨rfl,sm,hHD⟩;obtain⟨z,hz,rfl⟩:=gR0 hv
  have hi:i<zs.length:=(Ax.mp hz).1;obtain⟨A,B,h1,h2,h3⟩:=(hL.same sm).pr z (Aq hz);have o1:=ok z.2 (Am.mpr ⟨z,Aq hz,rfl⟩);refine⟨z.1,_,rfl,SqT.of h1,rfl,_,_,rfl,_,_,rfl,rfl,q2h,?_⟩;refine z1x (iteT ?_);refine he A B z.2 H' _ o1 h2 h3 fun H2 s2=>⟨s2 _ _ hHD,small' (by rw[Aa,Aa,Aa,An];lia),?_,(sm.trans s2).put hD,q0b⟩
  rw[Bm,hz];show _=vL (((zs.take i++[z]).map (·.2)).map mvT);rw[Al,Al];show _=(((zs.take i).map (·.2)).map mvT++[mvT z.2]).map _;rw[Al];rfl
 ·rintro ys H' ⟨rfl,sm,hHD⟩;rw[Aa,Bj] at hHD ⊢;exact k H' sm hHD
theorem z3t{D:Addr}{n:Nat}{H1:Hp}{te:TE}{Fin:List V->Hp->Prop}(hD:H1 D=none)(few:n<=1000)(he:∀(i:Nat) (H:Hp) (Q:VK),i<=1000->Q (.str (mk (dnT i))) H->te [some (.int (i:Int))] H Q)(k:∀H',Same H1 H'->H' D=some (.lst (vL ((List.range n).map dnT)))->Fin (vL ((List.range n).map dnT)) H'):
  CompW (Itr 0 n) (gName 0) tIf0 te [none] D Fin H1:=by
 refine q2n (fun i ys H'=>ys=vL ((List.range i).map dnT)/\Same H1 H'/\H' D=some (.lst ys)) ⟨rfl,(Same.refl H1).new hD,q0b⟩ (fun i ys H' x=>x.2.2) ?_ ?_
 ·rintro i ys H' hi ⟨rfl,sm,hHD⟩;rw[La];refine he i H' _ (by lia) ⟨hHD,small' (by rw[Aa,Aa,De];lia),?_,sm.put hD,q0b⟩;rw[List.range_succ,Al];show _=((List.range i).map dnT++[dnT i]).map _;rw[Al];rfl
 ·rintro ys H' ⟨rfl,sm,hHD⟩;exact k H' sm hHD
theorem q2m(xs:List V)(n:Nat):cutV xs none (some (n:Int))=xs.take n:=by
 have e1:HT.sIx xs.length xs.length (some (n:Int))=min n xs.length:=by
  show(if (n:Int)<0 then((n:Int)+(xs.length:Int)).toNat else min ((n:Int)).toNat xs.length)=_;rw[if_neg (by lia),Bu]
 have e0:HT.sIx xs.length 0 none=0:=rfl;unfold cutV;rw[e0,e1,Jm,Je,<- Hg,Bj]
def isName(l:List Nat):Bool:=decide (1<=l.length)&&(decide (l.length<=12)&&l.all fun c=>decide (c∈NS))
def spIsName:Sp:=fun vs H Q _=>∃t,vs=[.str t]/\t.length<=1000/\∀H',Same H H'->Q (.bl (isName (tl t))) H'
def aOf(t s:List Nat):Bool:=decide (¬t=[])&&t.all fun c=>decide (c∈s)
theorem x4e{t:List Nat}:decide (V.str (mk t)=V.str (Ad ""))=decide (t=[]):=by
 refine decide_eq_decide.mpr ⟨fun h=>?_,fun h=>by rw[h];rfl⟩;injection h with h;have:=congrArg tl h;rw[q0z] at this;rw[this];decide +kernel
def spAllOf:Sp:=fun vs H Q _=>∃t g,vs=[.str (mk t),.str g]/\t.length<=1000/\∀H',Same H H'->Q (.bl (aOf t (tl g))) H'
abbrev q7g:Stmt:=top 15
theorem z8j:FnScope ["text", "signs"] ["text", "signs"] (defScope q7g):=by trivial
theorem z8k(D:Df K mg "all_of" q7g ["text", "signs"])(T:Txt mg):Cal P w K mg base "all_of" 1 ["text", "signs"] spAllOf:=by
 refine D.cal z8j (fun vs H Q E h=>?_) (fun f cdv A outer s H vs Q E hr h=>?_)
 ·obtain⟨t,g,rfl,_⟩:=h;rfl
 ·obtain⟨t,g,rfl,hl,k⟩:=h;refine⟨_,(q0f (q0k (pe_j (z2p (q2t (ne_k K rfl hr) (pv 0) q1l (nomark _)) (q9d (q0i (all_k K rfl rfl) (by rfl) T.b_all (by decide +kernel) (q0a (q1o ["sign"] [("signs",1)] rfl (@q4l _ _ _ _ K rfl (pv 0)) (fun _ _ _ _ _=>(q0h (i:=0) (show(["sign", "signs"]:List Str).Nodup by decide +kernel) rfl (by trivial))) (fun _ _ _ _ _=>q1f) (fun _ _ _ _ _=>(q2t (in_k K rfl) (pv 0) (pv 1) (by with_unfolding_all rfl)))) q0d))))))),?_⟩;refine⟨fun v H'=>v=.bl (aOf t (tl g))/\Same H H',?_,?_⟩
  ·rintro v H' ⟨rfl,sm⟩;exact k H' sm
  refine⟨_,rfl,.inl ⟨rfl,_,rfl,?_⟩⟩;rw[x4e];refine iteB (fun h=>?_) (fun h=>?_)
  ·have hne:¬t=[]:=fun z=>by rw[decide_eq_true z] at h;cases h
   refine⟨_,rfl,.inr (.inr ⟨mk t,rfl,fun D hD=>?_⟩)⟩;refine z6b (fun i ys H'=>ys=(t.take i).map (fun c=>V.bl (decide (c∈tl g)))/\Same H H'/\H' D=some (.lst ys)/\ys.length<=i/\i<=t.length) ⟨rfl,(Same.refl H).new hD,q0b,Ak _,Br _⟩ (fun i ys H' h=>h.2.2.1) ?_ ?_
   ·rintro i ys H' c hc ⟨rfl,sm,hHD,hle,_⟩;have hci:t[i]?=some c:=by have:=get hc;rw[q0z] at this;exact this
    have hi:i<t.length:=(Ax.mp hci).1;refine⟨_,rfl,_,rfl,.inl ⟨_,_,rfl,rfl,hHD,small' (by lia),?_,sm.put hD,q0b,?_,hi⟩⟩
    ·rw[q5n hci,Al,in_one];rfl
    ·rw[Af,Ce];lia
   ·rintro ys H' ⟨rfl,sm,hHD,_,_⟩;have e3:t.take (mk t).length=t:=by rw[len,q0z];exact Cd (Ak _)
    rw[e3] at hHD;refine⟨D,t.map fun c=>decide (c∈tl g),rfl,SqL.of (by rw[Bd];exact hHD),?_,sm⟩;unfold aOf;rw[decide_eq_true hne,Bool.true_and,List.all_map];rfl
  ·have he:t=[]:=Classical.byContradiction fun z=>by rw[decide_eq_false z] at h;cases h
   refine⟨?_,Same.refl H⟩;subst he;rfl
structure CallsNm (P:Program) (w:World) (K:Ag) (mg:Str->Option Value) (base:Heap):Prop where
 all_of:Cal P w K mg base "all_of" 1 ["text", "signs"] spAllOf
abbrev q5g:Stmt:=top 16
theorem z4s:FnScope ["text"] ["text"] (defScope q5g):=by trivial
theorem z4t(D:Df K mg "is_name" q5g ["text"])(T:Txt mg)(C:CallsNm P w K mg base):Cal P w K mg base "is_name" 2 ["text"] spIsName:=by
 refine D.cal z4s (fun vs H Q E h=>?_) (fun f cdv A outer s H vs Q E hr h=>?_)
 ·obtain⟨t,rfl,_⟩:=h;rfl
 ·obtain⟨t,rfl,hl,k⟩:=h;obtain⟨_,g_NAME_SIGNS⟩:=T.NAME_SIGNS;obtain⟨_,g_MOST_SIGNS⟩:=T.MOST_SIGNS;refine⟨_,(q0f (q0k (pe_j (z2p (q2t op_le (q0i (q1v K rfl) (by rfl) T.b_len Bk (q0a (pv 0) q0d)) (z1f (v:=.int 12) (by rfl) g_MOST_SIGNS ⟨_,rfl⟩) (nomark _)) (q9d (pe_c C.all_of hr (q0a (pv 0) (q0a (z1f (v:=.str (Ad "abcdefghijklmnopqrstuvwxyzABCDEFGHIJKLMNOPQRSTUVWXYZ0123456789-_.")) (by rfl) g_NAME_SIGNS ⟨_,rfl⟩) q0d)))))))),?_⟩;have e:=len t;refine⟨fun v H'=>v=.bl (isName (tl t))/\Same H H',?_,?_⟩
  ·rintro v H' ⟨rfl,sm⟩;exact k H' sm
  refine⟨_,rfl,_,_,rfl,⟨small (by lia),rfl⟩,_,_,rfl,rfl,_,rfl,?_⟩;refine iteB (fun h=>?_) (fun h=>?_)
  ·have h':=of_decide_eq_true h;refine⟨_,rfl,tl t,NSs,?_,by lia,fun H' sm=>⟨?_,sm⟩⟩
   ·rw[q9r];rfl
   ·unfold isName aOf;rw[decide_eq_true (show(tl t).length<=12 by lia),Bool.true_and];congr 2;exact decide_eq_decide.mpr (by rw[<- List.length_eq_zero_iff];lia)
  ·have h':=of_decide_eq_false h;refine⟨?_,Same.refl H⟩;unfold isName;rw[decide_eq_false (show ¬(tl t).length<=12 by lia)];simp
theorem z4u{l:List Nat}(h:isName l=true):1<=l.length/\l.length<=12:=by
 unfold isName at h;rw[Ci,Ci,decide_eq_true_eq,decide_eq_true_eq] at h;exact⟨h.1,h.2.1⟩
theorem z4v{l:List Nat}(h:isName l=true):∀c∈l,c∈NS:=by
 unfold isName at h;rw[Ci,Ci,Gh] at h;exact fun c hc=>of_decide_eq_true (h.2.2 c hc)
theorem z8l{l:List Nat}(h1:1<=l.length)(h2:l.length<=12)(h3:∀c∈l,c∈NS):isName l=true:=by
 unfold isName;rw[Ci,Ci,Gh];exact⟨decide_eq_true h1,decide_eq_true h2,fun c hc=>decide_eq_true (h3 c hc)⟩
theorem no47:(47:Nat)∉NS:=by decide +kernel
theorem z2c{l:List Nat}(h:isName l=true):47∉l:=fun z=>no47 (z4v h 47 z)
def rp(l:List Nat):Option (List (List Nat)):=if (sp l).length<=6/\(sp l).all isName=true then some (sp l) else none
structure PN (ns:List (List Nat)):Prop where
 ne:1<=ns.length
 le:ns.length<=6
 ok:∀n∈ns,isName n=true
theorem PN.rp{ns:List (List Nat)}(h:PN ns):rp (jn ns)=some ns:=by
 have e:sp (jn ns)=ns:=x3r (fun z=>by have:=h.ne;rw[z] at this;simp at this) fun x hx=>z2c (h.ok x hx);unfold K.rp;rw[e,if_pos ⟨h.le,Gh.mpr h.ok⟩]
theorem PN.sz{ns:List (List Nat)}(h:PN ns):∀x∈ns,x.length<=20:=fun x hx=>by have:=z4u (h.ok x hx);lia
theorem x2i:∀{ns:List (List Nat)},(∀x∈ns,x.length<=20)->((ns.map mk).map (·.length)).sum<=ns.length*20
 |[],_=>Ak _
 |a::r,h=>by
  have ih:=x2i (ns:=r) fun x hx=>h x (Ah _ hx);have h1:=h a Aj;rw[Ao,Ao,Md,q0l,Bf,Nh];lia
theorem vN_map(ns:List (List Nat)):(ns.map mk).map V.str=vN ns:=by rw[Bd];rfl
theorem x2j:∀(l:List Nat) (p:List Nat),p∈sp l->p.length<=l.length
 |[],p,h=>by rw[show sp []=[[]] from rfl,Az] at h;rw[h];exact Ak _
 |c::r,p,h=>by
  have ih:=x2j r;have e:sp (c::r)=if c=47 then[]::sp r else match sp r with | []=>[[c]]|p::q=>(c::p)::q:=rfl
  rw[e] at h;split at h
  ·rcases Ba.mp h with rfl|h
   ·exact Br _
   ·have:=ih p h;rw[Bf];lia
  ·cases es:sp r with
   |nil=>rw[es] at h;rw[Az.mp h];simp
   |cons q qs =>
    rw[es] at h ih;rcases Ba.mp h with rfl|h
    ·have:=ih q Aj;simp;lia
    ·have:=ih p (Ah _ h);rw[Bf];lia
def spShow(K:Ag):Sp:=fun vs H Q _=>∃p ns,vs=[.ref p]/\SqT K H p (vN ns)/\ns.length<=20/\(∀x∈ns,x.length<=20)/\Q (.str (mk (jn ns))) H
abbrev q2z:Stmt:=top 18
theorem z0q:FnScope ["path"] ["path"] (defScope q2z):=by trivial
theorem z0r(D:Df K mg "show_path" q2z ["path"]):Cal P w K mg base "show_path" 1 ["path"] (spShow K):=by
 refine D.cal z0q (fun vs H Q E h=>?_) (fun f cdv A outer s H vs Q E hr h=>?_)
 ·obtain⟨p,ns,rfl,_⟩:=h;rfl
 ·obtain⟨p,ns,rfl,hp,hl,hz,k⟩:=h;refine⟨_,(q0f (q0k (@bm_k _ _ _ _ _ _ _ _ _ _ _ _ K rfl Cf Hh Hi (z2w K rfl) q1l (q0a (pv 0) q0d) (by rfl) (by rfl) (by rfl) (by rfl) (by rfl)))),?_⟩;refine⟨rfl,_,rfl,_,p,ns.map mk,rfl,rfl,.inr (by rw[vN_map];exact hp),?_,?_⟩
  ·have:=x2i hz;have e:(Ad "/").length=1:=by decide +kernel
   rw[e,Aa];lia
  ·rw[join_mk];exact k
def spRead:Sp:=fun vs H Q _=>∃t,vs=[.str t]/\t.length<=1000/\(rp (tl t)=none->∀H',Same H H'->Q .non H')/\∀ns,rp (tl t)=some ns->∀T H',H T=none->Same H H'->H' T=some (.tup (vN ns))->Q (.ref T) H'
structure Calls1 (P:Program) (w:World) (K:Ag) (mg:Str->Option Value) (base:Heap):Prop where
 is_name:Cal P w K mg base "is_name" 2 ["text"] spIsName
abbrev q3a:Stmt:=top 19
theorem sc_read_path:FnScope ["text", "names"] ["text"] (defScope q3a):=by trivial
theorem z0s(D:Df K mg "read_path" q3a ["text"])(T:Txt mg)(C:Calls1 P w K mg base):Cal P w K mg base "read_path" 3 ["text"] spRead:=by
 refine D.cal sc_read_path (fun vs H Q E h=>?_) (fun f cdv A outer s H vs Q E hr h=>?_)
 ·obtain⟨t,rfl,_⟩:=h;rfl
 ·obtain⟨t,rfl,hl,k1,k2⟩:=h;obtain⟨_,g_MOST_NAMES⟩:=T.MOST_NAMES;refine⟨_,(q0c (q0o (i:=1) sc_read_path.nd rfl (by trivial) (@bm_k _ _ _ _ _ _ _ _ _ _ _ _ K rfl Cf Kb Kc q8p (pv 0) (q0a q1l q0d) (by rfl) (by rfl) (by rfl) (by rfl) (by rfl))) (q0c (q1j (q0s z9f (q0i (q1v K rfl) (by rfl) T.b_len Bk (q0a (pv 1) q0d)) (z1f (v:=.int 6) (by rfl) g_MOST_NAMES ⟨_,rfl⟩) (nomark _)) (q0f (q0k z2m)) q0n) (q0c (q1j (q4i (@q4m _ _ _ K rfl (q0i (all_k K rfl rfl) (by rfl) T.b_all (by decide +kernel) (q0a (q1o ["name"] [] rfl (@q4l _ _ _ _ K rfl (pv 1)) (fun _ _ _ _ _=>(q0h (i:=0) (show(["name"]:List Str).Nodup by decide +kernel) rfl (by trivial))) (fun _ _ _ _ _=>q1f) (fun _ _ _ _ _=>(pe_c C.is_name hr (q0a (pv 0) q0d)))) q0d)) (fun _=>rfl))) (q0f (q0k z2m)) q0n) (q0f (q0k (q0y (z6a K rfl) (by rfl) T.b_tuple (by decide +kernel) (q0a (pv 1) q0d))))))),?_⟩;have e:=len t;have hsl:=x2a (tl t);have e47:(Ad "/").length=1:=by decide +kernel
  have hsp:(Nt t (Ad "/")).length=(sp (tl t)).length:=by rw[<- z3g,Aa]
  refine⟨_,rfl,rfl,_,_,rfl,rfl,by rw[e47];rfl,small (by lia),small (by lia),?_,fun L hL=>?_⟩
  ·rw[Le];have:=Oy t (Ad "/") 0 t.length (t.length+1);exact small (by lia)
  rw[split_mk];generalize hH1:upd H L _=H1;have sm1:Same H H1:=by rw[<- hH1];exact(Same.refl H).new hL
  have hL1:H1 L=some (.lst (vN (sp (tl t)))):=by rw[<- hH1];exact q0b
  refine⟨_,rfl,_,_,rfl,.inl ⟨_,SqL.of hL1,rfl⟩,_,_,rfl,rfl,_,rfl,?_⟩;rw[Aa];refine iteB (fun h=>?_) (fun h=>?_)
  ·have h':=of_decide_eq_true h;refine k1 ?_ _ sm1;unfold rp;rw[if_neg];rintro⟨z,_⟩;lia
  have h6:(sp (tl t)).length<=6:=by
   have:=of_decide_eq_false h;lia
  refine⟨_,rfl,.inl ⟨L,rfl,⟨_,SqL.of hL1⟩,fun D hD=>?_⟩⟩;have hLD:L≠D:=q0m hL1 hD;refine q2i (xs:=vN (sp (tl t))) (fun i ys H'=>ys=((sp (tl t)).take i).map (fun n=>V.bl (isName n))/\Same H1 H'/\H' D=some (.lst ys)/\i<=(sp (tl t)).length) ⟨rfl,(Same.refl H1).new hD,q0b,Br _⟩ (fun i ys H' ⟨_,sm,hHD,_⟩=>⟨hHD,SqL.of (sm _ _ hL1)⟩) ?_ ?_
  ·rintro i ys H' x hx ⟨rfl,sm,hHD,hi⟩;rw[Au] at hx;obtain⟨n,hn,rfl⟩:=Ed.mp hx;have hi':i<(sp (tl t)).length:=(Ax.mp hn).1;have hnl:=x2j _ _ (Aq hn);refine⟨_,rfl,mk n,rfl,by rw[q0l];lia,fun H2 sm2=>⟨sm2 _ _ hHD,small' (by rw[Aa,An];lia),?_,(sm.trans sm2).put hD,q0b,hi'⟩⟩;rw[q5n hn,Al,q0z];rfl
  ·rintro ys H' ⟨rfl,sm,hHD,_⟩;rw[Aa,Bj] at hHD;refine⟨D,(sp (tl t)).map isName,rfl,SqL.of (by rw[Bd];exact hHD),_,rfl,?_⟩;have ea:(((sp (tl t)).map isName).all id)=(sp (tl t)).all isName:=by rw[List.all_map];rfl
   rw[ea];have sm2:Same H H':=sm1.trans sm;cases hb:(sp (tl t)).all isName with
   |false =>
    refine iteT (k1 ?_ _ sm2);unfold rp;rw[if_neg];rintro⟨_,z⟩;rw[hb] at z;cases z
   |true =>
    refine iteF ⟨_,rfl,L,_,rfl,.inl ⟨SqL.of (sm _ _ hL1),fun T' hT'=>?_⟩⟩;refine k2 _ (by unfold rp;rw[if_pos ⟨h6,hb⟩]) T' _ (sm2.free hT') (sm2.new hT') q0b
def spPathText:Sp:=fun vs H Q _=>∃p q,vs=[.ref p]/\H p=some (.tup (vP q))/\okP q/\∀H',Same H H'->Q (.str (mk (jn q))) H'
theorem sls:Ad "/" = mk [47]:=by decide +kernel
abbrev q3b:Stmt:=top 42
theorem sc_path_text:FnScope ["_law_path", "_law_found", "_law_name"] ["_law_path"] (defScope q3b):=by trivial
theorem z0t(D:Df K mg "_law_path_text" q3b ["_law_path"])(T:Txt mg):Cal P w K mg base "_law_path_text" 1 ["_law_path"] spPathText:=by
 refine D.cal sc_path_text (fun vs H Q E h=>?_) (fun f cdv A outer s H vs Q E hr h=>?_)
 ·obtain⟨p,q,rfl,_⟩:=h;rfl
 ·obtain⟨p,q,rfl,hp,ok,k⟩:=h;refine⟨_,(q0c (q0o (i:=1) sc_path_text.nd rfl (by trivial) (q1m (ix_k K rfl) (pv 0) q0g (fun _ _=>rfl))) (q0c (q5k Dy rfl (@q4l _ _ _ _ K rfl (q0r (sl_k K rfl) (pv 0) (q0t q0g) q0w)) (q0h (i:=2) sc_path_text.nd rfl (by trivial)) (q0f (q0o (i:=1) sc_path_text.nd rfl (by trivial) (q0p q0q (q0p q0q (pv 1) q1l) (pv 2))))) (q0f (q0k (pv 1))))),?_⟩;obtain⟨n,r,rfl⟩:∃n r,q=n::r:=by
   cases q with
   |nil=>exact absurd rfl ok.ne
   |cons n r=>exact⟨n,r,rfl⟩
  have hw:¬(HT.sIx (vP (n::r)).length 0 (some ((1:Nat):Int))=0/\HT.sIx (vP (n::r)).length (vP (n::r)).length none=(vP (n::r)).length):=fun z=>by
   have e:=z.1;have e0:HT.sIx (vP (n::r)).length 0 (some ((1:Nat):Int))=min 1 (n::r).length:=by
    show(if ((1:Nat):Int)<0 then(((1:Nat):Int)+((vP (n::r)).length:Int)).toNat else min (((1:Nat):Int)).toNat (vP (n::r)).length)=_;rw[if_neg (by lia),q1i,Bu]
   rw[e0,Bf] at e;lia
  have ec:cutV (vP (n::r)) (some ((1:Nat):Int)) none=vP r:=by
   unfold cutV;have e0:HT.sIx (vP (n::r)).length 0 (some ((1:Nat):Int))=1:=by
    show(if ((1:Nat):Int)<0 then(((1:Nat):Int)+((vP (n::r)).length:Int)).toNat else min (((1:Nat):Int)).toNat (vP (n::r)).length)=_;rw[if_neg (by lia),q1i,Bu,Bf];lia
   have e1:HT.sIx (vP (n::r)).length (vP (n::r)).length none=(vP (n::r)).length:=rfl;rw[e0,e1,q1i,Bf];show((vP (n::r)).drop 1).take (r.length+1-1)=_;show(vP r).take r.length=_;rw[<- q1i r,Bj]
  have hat0:atI (vP (n::r)) 0=some (V.str (mk n)):=q6i (show(vP (n::r))[0]?=some (V.str (mk n)) from rfl);refine⟨_,rfl,.inr (.inl ⟨p,_,0,.str (mk n),rfl,rfl,SqT.of hp,hat0,?_⟩)⟩;refine⟨_,rfl,_,rfl,.inr (.inr ⟨p,_,rfl,SqT.of hp,hw,fun p1 hp1=>?_⟩)⟩;rw[show cutV (vP (n::r)) (some (1:Int)) none=vP r from ec];have s1:=(Same.refl H).new (o:=.tup (vP r)) hp1;have h1:upd H p1 (.tup (vP r)) p1=some (.tup (vP r)):=q0b;generalize upd H p1 (.tup (vP r))=H1 at s1 h1;refine .inr (.inl ⟨p1,rfl,⟨_,SqT.of h1⟩,?_⟩);have hsz:∀i,(jn ((n::r).take (i+1))).length<=100:=fun i=>by
   have h2:=z7p (xs:=(n::r).take (i+1)) (m:=12) fun x hx=>z3r ok x (Bc hx);have h3:((n::r).take (i+1)).length<=6:=by have:=ok.few;rw[An];lia
   have h4:((n::r).take (i+1)).length*(12+1)<=6*13:=Pk _ h3;lia
  refine x2o (xs:=vP r) (fun i σ' H'=>(∃x,σ'=[some (.ref p),some (.str (mk (jn ((n::r).take (i+1))))),x])/\H'=H1) ⟨⟨none,rfl⟩,rfl⟩ (fun i σ' H' _ x=>by rw[x.2];exact SqT.of h1) ?_ ?_
  ·rintro i x σ' H' hx ⟨⟨y,rfl⟩,rfl⟩;obtain⟨l,hl,rfl⟩:∃l,r[i]?=some l/\x=.str (mk l):=by
    rw[Au] at hx;cases e:r[i]? with
    |none=>rw[e] at hx;cases hx
    |some z=>rw[e] at hx;cases hx;exact⟨z,rfl,rfl⟩
   have hlz:=z3r ok l (Ah _ (Aq hl));have h3:=hsz i;have e5:jn ((n::r).take (i+1+1))=jn ((n::r).take (i+1))++47::l:=by
    have:(n::r).take (i+1+1)=(n::r).take (i+1)++[l]:=by rw[Bm];show _++(r[i]?).toList=_;rw[hl];rfl
    rw[this];exact z7o (by simp) l
   refine⟨_,rfl,.inr (.inl ⟨_,_,rfl,rfl,by rw[q0l,sls,q0l];exact small (by show _+1<=_;lia),?_⟩)⟩;refine⟨_,rfl,.inr (.inl ⟨_,_,rfl,rfl,?_,?_⟩)⟩
   ·rw[sls,q1r,q0l,q0l,Af];exact small (by show _+1+_<=_;lia)
   ·refine⟨⟨some (.str (mk l)),?_⟩,rfl⟩;rw[sls,q1r,q1r,e5,Bp];rfl
  ·rintro σ' H' ⟨⟨y,rfl⟩,rfl⟩;refine⟨_,rfl,?_⟩;have:=k _ s1;rw[q1i];rw[Cd (by rw[Bf];exact Ak _)];exact this
structure CallsLo (P:Program) (w:World) (K:Ag) (mg:Str->Option Value) (base:Heap):Prop where
 show_path:Cal P w K mg base "show_path" 1 ["path"] (spShow K)
def spLines:Sp:=fun vs H Q _=>∃L zs,vs=[.ref L]/\ML H L zs/\(∀m∈zs.map (·.2),okMv m)/\zs.length<=400/\∀D H',H D=none->Same H H'->H' D=some (.lst (vL (lnsB (zs.map (·.2)))))->Q (.ref D) H'
abbrev q4c:Stmt:=top 29
theorem sc_lines_of:FnScope ["row", "lines"] ["row"] (defScope q4c):=by trivial
theorem z2d(D:Df K mg "lines_of" q4c ["row"])(T:Txt mg)(C:CallsLo P w K mg base):Cal P w K mg base "lines_of" 2 ["row"] spLines:=by
 refine D.cal sc_lines_of (fun vs H Q E h=>?_) (fun f cdv A outer s H vs Q E hr h=>?_)
 ·obtain⟨L,zs,rfl,_⟩:=h;rfl
 ·obtain⟨L,zs,rfl,ml,okm,few,k⟩:=h;refine⟨_,(q0c (q6m (i:=1) ["path", "place"] [] sc_lines_of.nd rfl (by trivial) rfl (@q4l _ _ _ _ K rfl (pv 0)) (fun _ _ _ _ _=>(@q1u _ _ _ _ (2) _ K rfl rfl (q0j (q0h (i:=0) (show(["path", "place"]:List Str).Nodup by decide +kernel) rfl (by trivial)) (q0j (q0h (i:=1) (show(["path", "place"]:List Str).Nodup by decide +kernel) rfl (by trivial)) q1e)) (by rfl) (by rfl))) (fun _ _ _ _ _=>q1f) (fun _ _ _ _ _=>(z7j z7n (z7m (pe_c C.show_path hr (q0a (pv 0) q0d))) (z3f z7n (z3f (z7m (pe_c C.show_path hr (q0a (pv 1) q0d))) z7k))))) (q0c (q1d (@bm_k _ _ _ _ _ _ _ _ _ _ _ _ K rfl Co Em En q2g (pv 1) (q0a q1l q0d) (by rfl) (by rfl) (by rfl) (by rfl) (by rfl))) (q0c (q1d (@bm_k _ _ _ _ _ _ _ _ _ _ _ _ K rfl Co PySem.F.slot_list_extend PySem.F.type_list_extend z5s (pv 1) (q0a (q1o ["at"] [] rfl (q1y rfl T.b_range (q0a (q0i (q1v K rfl) (by rfl) T.b_len Bk (q0a (pv 0) q0d)) q0d)) (fun _ _ _ _ _=>(q0h (i:=0) (show(["at"]:List Str).Nodup by decide +kernel) rfl (by trivial))) (fun _ _ _ _ _=>q1f) (fun _ _ _ _ _=>(z7j z7n (z7m (pv 0)) z7k))) q0d) (by rfl) (by rfl) (by rfl) (by rfl) (by rfl))) (q0f (q0k (pv 1)))))),?_⟩;refine⟨_,rfl,.inl ⟨L,rfl,⟨_,SqL.of ml.at_⟩,fun D hD=>?_⟩⟩;refine z3s ml hD (by lia) okm (fun A1 B1 m H2 Q' om hA hB q=>?_) fun H2 s2 h2=>?_
  ·have j1:=q2y om.1;have j2:=q2y om.2;have f1:=om.1.few;have f2:=om.2.few;have sz:∀{q:Pth},okP q->∀x∈q,x.length<=20:=fun{q} o x hx=>by have:=z3r o x hx;lia
   have e1:Fw++Ad "move " ++ mk (jn m.1)=mk (MVT++jn m.1):=by rw[z8d,mvw,q1r]
   have e2:Fw++Ad "move " ++ mk (jn m.1)++Ad " " = mk (MVT++(jn m.1++[32])):=by rw[e1,spc,q1r,Bp]
   have e3:Fw++Ad "move " ++ mk (jn m.1)++Ad " " ++ mk (jn m.2)=mk (mvT m):=by
    rw[e2,q1r,Bp,Bp];rfl
   have l3:=z2a om;refine⟨by decide +kernel,_,rfl,A1,m.1,rfl,SqT.of hA,by lia,sz om.1,.inl ⟨_,rfl,small (by rw[q0l];lia),?_,?_⟩⟩
   ·rw[e1,q0l,Af,q4b];exact small (by lia)
   refine⟨?_,_,rfl,B1,m.2,rfl,SqT.of hB,by lia,sz om.2,.inl ⟨_,rfl,small (by rw[q0l];lia),?_,?_,?_⟩⟩
   ·rw[e2,q0l,Af,Af,q4b];exact small (by show 5+(_+1)<=_;lia)
   ·rw[e3,q0l];exact small (by lia)
   ·rw[e3,q0l];exact small (by lia)
   ·show Q' (.str (Fw++Ad "move " ++ mk (jn m.1)++Ad " " ++ mk (jn m.2))) H2;rw[e3];exact q _ (Same.refl _)
  have lm:((zs.map (·.2)).map mvT).length=zs.length:=by rw[Aa,Aa]
  refine⟨_,rfl,.inl ⟨rfl,_,SqL.of h2⟩,D,_,_,rfl,rfl,h2,small' (by rw[Aa,lm];lia),?_⟩;have e1:vL ((zs.map (·.2)).map mvT)++[V.str (Ad "begin")]=vL ((zs.map (·.2)).map mvT++[BGN]):=by rw[bgw,z8f]
  rw[e1];have s3:Same H (upd H2 D (.lst (vL ((zs.map (·.2)).map mvT++[BGN])))):=s2.put hD;have h3:upd H2 D (.lst (vL ((zs.map (·.2)).map mvT++[BGN]))) D=some (.lst (vL ((zs.map (·.2)).map mvT++[BGN]))):=q0b;generalize upd H2 D (.lst (vL ((zs.map (·.2)).map mvT++[BGN])))=H3 at s3 h3;have ml3:=ml.same s3;refine⟨_,rfl,.inl ⟨rfl,_,SqL.of h3⟩,_,rfl,_,_,rfl,.inl ⟨_,SqL.of ml3.at_,rfl⟩,_,rfl,by lia,by rw[Aa];lia,fun D2 hD2=>?_⟩;have e2:((zs.map fun z=>V.ref z.1).length:Int).toNat=(zs.map (·.2)).length:=by rw[Bu,Aa,Aa]
  rw[e2];refine z3t hD2 (by rw[Aa];lia) (fun i H4 Q' hi q=>?_) fun H4 s4 h4=>?_
  ·have e3:Fw++Ad "done " ++ Ad (toString ((i:Nat):Int))=mk (dnT i):=by rw[z8d,dnw,z9y,q1r];rfl
   have l3:=z2b hi;refine⟨by decide +kernel,_,rfl,.inr ⟨i,rfl,by lia,?_,?_,?_⟩⟩
   ·rw[e3,q0l];exact small (by lia)
   ·rw[e3,q0l];exact small (by lia)
   ·show Q' (.str (Fw++Ad "done " ++ Ad (toString ((i:Nat):Int)))) H4;rw[e3];exact q
  refine⟨D,D2,_,_,rfl,rfl,s4 _ _ h3,h4,small (by rw[Aa,Af,lm,Aa,Aa,De,Aa];show _+1+_<=_;lia),?_⟩;have e3:vL ((zs.map (·.2)).map mvT++[BGN])++vL ((List.range (zs.map (·.2)).length).map dnT)=vL (lnsB (zs.map (·.2))):=by
   unfold lnsB;rw[show(zs.map (·.2)).map mvT++BGN::(List.range (zs.map (·.2)).length).map dnT=((zs.map (·.2)).map mvT++[BGN])++(List.range (zs.map (·.2)).length).map dnT from by rw[Bp];rfl];exact Al.symm
  rw[e3];exact⟨_,rfl,k D _ hD ((s3.trans s4).put hD) q0b⟩
structure CallsSt (P:Program) (w:World) (K:Ag) (mg:Str->Option Value) (base:Heap):Prop where
 path_text:Cal P w K mg base "_law_path_text" 1 ["_law_path"] spPathText
def bkN(ms:List Mv)(n:Nat):List Nat:=bkT ((lnsB ms).take (wr ms.length n))
def spStop:Sp:=fun vs H Q _=>∃L zs,∃n:Nat,vs=[.ref L,.int (n:Int)]/\ML H L zs/\(∀m∈zs.map (·.2),okMv m)/\zs.length<=400/\n<=3*zs.length+2/\∀T H',H T=none->Same H H'->H' T=some (.tup [.str (mk (bkN (zs.map (·.2)) n)),.int (md zs.length n:Int)])->Q (.ref T) H'
abbrev z2e:Stmt:=top 43
theorem sc_stop:FnScope ["_law_row", "_law_steps", "_law_lines", "_law_more"] ["_law_row", "_law_steps"] (defScope z2e):=by trivial
theorem x4f(D:Df K mg "_law_stop" z2e ["_law_row", "_law_steps"])(T:Txt mg)(C:CallsSt P w K mg base):Cal P w K mg base "_law_stop" 2 ["_law_row", "_law_steps"] spStop:=by
 refine D.cal sc_stop (fun vs H Q E h=>?_) (fun f cdv A outer s H vs Q E hr h=>?_)
 ·obtain⟨L,zs,n,rfl,_⟩:=h;rfl
 ·obtain⟨L,zs,n,rfl,ml,okm,few,hn,k⟩:=h;refine⟨_,(q0c (q6m (i:=2) ["_law_path", "_law_place"] [] sc_stop.nd rfl (by trivial) rfl (@q4l _ _ _ _ K rfl (q0r (sl_k K rfl) (pv 0) q0w (q0t (pv 1)))) (fun _ _ _ _ _=>(@q1u _ _ _ _ (2) _ K rfl rfl (q0j (q0h (i:=0) (show(["_law_path", "_law_place"]:List Str).Nodup by decide +kernel) rfl (by trivial)) (q0j (q0h (i:=1) (show(["_law_path", "_law_place"]:List Str).Nodup by decide +kernel) rfl (by trivial)) q1e)) (by rfl) (by rfl))) (fun _ _ _ _ _=>q1f) (fun _ _ _ _ _=>(q0p q0q (q0p q0q (q0p q0q q1l (pe_c C.path_text hr (q0a (pv 0) q0d))) q1l) (pe_c C.path_text hr (q0a (pv 1) q0d))))) (q2j (q1j (q0s z9f (pv 1) (q0i (q1v K rfl) (by rfl) T.b_len Bk (q0a (pv 0) q0d)) (nomark _)) (q0f (q1d (@bm_k _ _ _ _ _ _ _ _ _ _ _ _ K rfl Co Em En q2g (pv 2) (q0a q1l q0d) (by rfl) (by rfl) (by rfl) (by rfl) (by rfl)))) q0n) (q0c (q0o (i:=3) sc_stop.nd rfl (by trivial) (q0i (q9f rfl) (by rfl) T.b_max (by decide +kernel) (q0a q0g (q0a (q0p q4k (q0p q4k (pv 1) (q0i (q1v K rfl) (by rfl) T.b_len Bk (q0a (pv 0) q0d))) q0g) q0d)))) (q0c (q0o (i:=2) sc_stop.nd rfl (by trivial) (q0p q0q (pv 2) (q1o ["_law_k"] [] rfl (q1y rfl T.b_range (q0a (q0p q4u (pv 3) q0g) q0d)) (fun _ _ _ _ _=>(q0h (i:=0) (show(["_law_k"]:List Str).Nodup by decide +kernel) rfl (by trivial))) (fun _ _ _ _ _=>q1f) (fun _ _ _ _ _=>(q0p q0q q1l (q0y q9w (by rfl) T.b_str (by decide +kernel) (q0a (pv 0) q0d))))))) (q0f (q0k (q1z (q0a (@bm_k _ _ _ _ _ _ _ _ _ _ _ _ K rfl Cf Hh Hi (z2w K rfl) q1l (q0a (q1o ["_law_line"] [] rfl (@q4l _ _ _ _ K rfl (pv 2)) (fun _ _ _ _ _=>(q0h (i:=0) (show(["_law_line"]:List Str).Nodup by decide +kernel) rfl (by trivial))) (fun _ _ _ _ _=>q1f) (fun _ _ _ _ _=>(q0p q0q (pv 0) q1l))) q0d) (by rfl) (by rfl) (by rfl) (by rfl) (by rfl)) (q0a (q0p q4u (q0p q0q (pv 3) q0g) q0g) q0d))))))))),?_⟩;refine⟨_,rfl,_,rfl,_,rfl,.inr (.inl ⟨L,_,rfl,SqL.of ml.at_,fun L1 hL1=>?_⟩)⟩;rw[q2m];have ml1:=ml.pre hL1 n;have s1:=(Same.refl H).new (o:=.lst ((zs.map fun z=>V.ref z.1).take n)) hL1;generalize upd H L1 (.lst ((zs.map fun z=>V.ref z.1).take n))=H1 at ml1 s1;refine .inl ⟨L1,rfl,⟨_,SqL.of ml1.at_⟩,fun D hD=>?_⟩;have hDH:H D=none:=s1.free hD;refine z3s ml1 hD (by rw[An];lia) (fun m hm=>okm m (by rw[Cp] at hm;exact Bc hm)) (fun A1 B1 m H2 Q' om hA hB q=>?_) fun H2 s2 h2=>?_
  ·have j1:=q2y om.1;have j2:=q2y om.2;refine⟨_,rfl,A1,m.1,rfl,hA,om.1,fun H3 s3=>.inr (.inl ⟨_,_,rfl,rfl,?_,.inr (.inl ⟨_,_,rfl,rfl,?_,?_⟩)⟩)⟩
   ·rw[mvw,q0l,q0l,q4b];exact small (by lia)
   ·rw[mvw,spc,q1r,q0l,q0l,Af,q4b];exact small (by show 5+_+1<=_;lia)
   refine⟨_,rfl,B1,m.2,rfl,s3 _ _ hB,om.2,fun H4 s4=>.inr (.inl ⟨_,_,rfl,rfl,?_,?_⟩)⟩
   ·rw[mvw,spc,q1r,q1r,q0l,q0l,Af,Af,q4b];exact small (by show 5+_+1+_<=_;lia)
   ·have e3:Ad "move " ++ mk (jn m.1)++Ad " " ++ mk (jn m.2)=mk (mvT m):=by rw[mvw,spc,q1r,q1r,q1r,Bp,Bp];rfl
    rw[e3];exact q _ (s3.trans s4)
  have s12:=s1.trans s2;have lt:(zs.take n).length<=400:=by rw[An];lia
  have ml2:=ml.same s12;refine⟨fun σ' H'=>σ'=[some (.ref L),some (.int (n:Int)),some (.ref D),none]/\Same H H'/\H' D=some (.lst (vL (((zs.map (·.2)).take n).map mvT++(if zs.length<n then[BGN] else[])))),?_,?_⟩;rotate_left
  ·refine⟨_,rfl,_,rfl,_,_,rfl,.inl ⟨_,SqL.of ml2.at_,rfl⟩,_,_,rfl,rfl,_,rfl,?_⟩;rw[Aa,<- Cp];refine iteB (fun hb=>?_) (fun hb=>?_)
   ·have hb:(zs.length:Int)<(n:Int):=of_decide_eq_true hb;refine⟨_,rfl,.inl ⟨rfl,_,SqL.of h2⟩,D,_,_,rfl,rfl,h2,small' (by rw[Aa,Aa,Aa];lia),rfl,s12.put hDH,?_⟩;rw[q0b,if_pos (by lia),bgw];exact congrArg some (congrArg HO.lst (z8f _ _))
   ·have hb:¬(zs.length:Int)<(n:Int):=of_decide_eq_false hb;refine⟨rfl,s12,?_⟩;rw[if_neg (by lia),Bv];exact h2
  rintro σ' H3 ⟨rfl,s3,h3⟩;have ml3:=ml.same s3;refine⟨_,rfl,_,rfl,_,_,rfl,.inl ⟨_,SqL.of ml3.at_,rfl⟩,_,_,rfl,rfl,_,_,rfl,rfl,_,_,rfl,?_⟩;have em:(if (n:Int)-((zs.map fun z=>V.ref z.1).length:Int)-1>0 then(n:Int)-((zs.map fun z=>V.ref z.1).length:Int)-1 else 0)=((n-(zs.length+1):Nat):Int):=by
   rw[Aa];split<;>lia
  rw[em];have hq:((n-(zs.length+1):Nat):Int) / 2=(((n-(zs.length+1)) / 2:Nat):Int):=rfl;have hqb:(n-(zs.length+1)) / 2<=zs.length:=by lia
  refine⟨_,rfl,_,rfl,_,_,rfl,rfl,⟨by decide,by decide⟩,_,rfl,by lia,by lia,fun D2 hD2=>?_⟩;rw[hq,Bu];refine z3t hD2 (by lia) (fun i H4 Q' hi q=>?_) fun H4 s4 h4=>?_
  ·have l3:=z2b hi;have dl:=dg_le hi;refine⟨_,rfl,i,rfl,by lia,.inr (.inl ⟨_,_,rfl,rfl,?_,?_⟩)⟩
   ·rw[dnw,z9y,q0l,q0l,z8e];exact small (by lia)
   ·have e3:Ad "done " ++ Ad (toString ((i:Nat):Int))=mk (dnT i):=by rw[dnw,z9y,q1r];rfl
    rw[e3];exact q
  have ll:(vL (((zs.map (·.2)).take n).map mvT++(if zs.length<n then[BGN] else[]))).length<=401:=by
   rw[Aa,Af,Aa,An,Aa];split
   ·show _+1<=_;lia
   ·show _+0<=_;lia
  have l4:(vL ((List.range ((n-(zs.length+1)) / 2)).map dnT)).length=(n-(zs.length+1)) / 2:=by rw[Aa,Aa,De]
  refine .inr (.inr ⟨D,D2,_,_,rfl,rfl,s4 _ _ h3,h4,small (by lia),fun D3 hD3=>?_⟩);have e5:vL (((zs.map (·.2)).take n).map mvT++(if zs.length<n then[BGN] else[]))++vL ((List.range ((n-(zs.length+1)) / 2)).map dnT)=vL (stL (zs.map (·.2)) n):=by
   unfold stL;rw[Aa];exact Al.symm
  rw[e5,stL_eq (by rw[Aa];exact hn)];have s5:=(s3.trans s4).new (o:=.lst (vL ((lnsB (zs.map (·.2))).take (wr (zs.map (·.2)).length n)))) hD3;have h5:upd H4 D3 (.lst (vL ((lnsB (zs.map (·.2))).take (wr (zs.map (·.2)).length n)))) D3=some (.lst (vL ((lnsB (zs.map (·.2))).take (wr (zs.map (·.2)).length n)))):=q0b;generalize upd H4 D3 (.lst (vL ((lnsB (zs.map (·.2))).take (wr (zs.map (·.2)).length n))))=H5 at s5 h5;refine⟨rfl,_,rfl,.inl ⟨D3,rfl,⟨_,SqL.of h5⟩,fun D4 hD4=>?_⟩⟩;refine z8i h5 hD4 (by rw[An,q5y,Aa];lia) (fun x hx=>q4t okm (by rw[Aa];lia) x (Bc hx)) (fun l H6 Q' hl q=>?_) fun H6 s6 h6 hz=>?_
  ·refine⟨_,rfl,.inr (.inl ⟨_,_,rfl,rfl,?_,?_⟩)⟩
   ·rw[nlw,q0l,q0l];exact small (by show _+1<=_;lia)
   ·rw[nlw,q1r];exact q
  refine⟨_,D4,_,rfl,rfl,.inl (SqL.of h6),hz,?_⟩;rw[z8h];refine⟨_,rfl,.inl ⟨_,_,rfl,rfl,_,_,rfl,rfl,⟨by decide,by decide⟩,by show 2<=sizeLine;decide,fun T1 hT1=>?_⟩⟩;have s7:=(s5.trans s6)
  exact k T1 _ (s7.free hT1) (s7.new hT1) q0b
def okMs(ms:List Mv):Prop:=∀m∈ms,okP m.1/\okP m.2
theorem ne_dt{H:Hp}{x y:V}{d:PyData}{Q:VK}(hx:Dt K H x d)(hy:Dt K H y d)(l:d.canLay0=true)(dp:d.depth<=100)(k:Q (.bl false) H):rNeU K x y H Q:=by
 refine .inr ⟨_,_,hx,hy,l,l,by rw[Nat.min_self];exact dp,?_⟩;rw[SeqAt.eqv_refl _ l];exact k
theorem q5h{bl:Bool}:∀{ms:List Mv} {rows:List Rw},WkOk bl rows ms->okMs ms
 |[],_,_=>fun _ h=>nomatch h
 |m::ms,rows,h=>fun x hx=>by
  rcases Ba.mp hx with rfl|hx
  ·exact⟨h.1.okp,h.1.fr.ok⟩
  ·exact q5h h.2 x hx
structure Dk (K:Ag) (c:Addr):Prop where
 cl:Cls K c
 h:NoAttr K c "held"
 m:NoAttr K c "moves"
 s:NoAttr K c "steps"
abbrev dF(h L:Addr)(n:Nat):List (Str×V):=[("held",.ref h),("moves",.ref L),("steps",.int (n:Int))]
structure DoAt (c cD:Addr) (H:Hp) (x h d L:Addr) (bl:Bool) (R0:List Rw) (zs:List Zm) (n:Nat):Prop where
 i:∃dx,H x=some (.ins cD dx (dF h L n))
 ha:∃rows,HallAt c H h d bl rows/\rows.Perm (wk R0 ((zs.map (·.2)).take (md zs.length n)))
 ml:ML H L zs
 ok:WkOk bl R0 (zs.map (·.2))
 l60:R0.length<=60
 few:zs.length<=100
 le:n<=3*zs.length+1
theorem DoAt.same{c cD:Addr}{H H':Hp}{x h d L:Addr}{bl:Bool}{R0:List Rw}{zs:List Zm}{n:Nat}(D:DoAt c cD H x h d L bl R0 zs n)(s:Same H H'):DoAt c cD H' x h d L bl R0 zs n :=
 ⟨D.i.imp fun dx e=>s _ _ e,D.ha.imp fun r e=>⟨e.1.same s,e.2⟩,D.ml.same s,D.ok,D.l60,D.few,D.le⟩
theorem DoAt.fd{c cD a b:Addr}{H H':Hp}{x h d L:Addr}{bl:Bool}{R0:List Rw}{zs:List Zm}{n:Nat}(D:DoAt c cD H x h d L bl R0 zs n)(F:FeedAt H a b)(fd:Fd a b H H')(hL:L≠a):DoAt c cD H' x h d L bl R0 zs n:=by
 obtain⟨i,j,q⟩:=F.fa;exact⟨D.i.imp fun dx e=>fd.at e fun z=>by(rw[z,q] at e;cases e),D.ha.imp fun r e=>⟨z1y e.1 F fd,e.2⟩,D.ml.fd F fd hL,D.ok,D.l60,D.few,D.le⟩
def Kp(x h:Addr)(H H':Hp):Prop:=∀y u,y≠x->y≠h->H y=some u->H' y=some u
theorem Kp.refl{x h:Addr}{H:Hp}:Kp x h H H:=fun _ _ _ _ e=>e
theorem Kp.trans{x h:Addr}{H H' H2:Hp}(a:Kp x h H H')(b:Kp x h H' H2):Kp x h H H2:=fun y u n m e=>b y u n m (a y u n m e)
theorem Kp.ml{x h L:Addr}{zs:List Zm}{H H':Hp}(k:Kp x h H H'){C1 C2 d1 d2:Addr}{f1 f2:List (Str×V)}(hx:H x=some (.ins C1 d1 f1))(hh:H h=some (.ins C2 d2 f2))(m:ML H L zs):ML H' L zs :=
 ⟨k _ _ (fun z=>by have:=m.at_;rw[z,hx] at this;cases this) (fun z=>by have:=m.at_;rw[z,hh] at this;cases this) m.at_,fun z hz=>(m.pr z hz).keep fun T xs e=>k _ _ (fun z=>by rw[z,hx] at e;cases e) (fun z=>by rw[z,hh] at e;cases e) e⟩
def spLeft(cD:Addr):Sp:=fun vs H Q _=>∃x dx h L n zs,vs=[.ref x]/\H x=some (.ins cD dx (dF h L n))/\ML H L zs/\Q (.int (3*(zs.length:Int)+1-(n:Int))) H
abbrev q3c:Stmt:=inClass (top 30) 3
theorem z0u:FnScope ["self"] ["self"] (defScope q3c):=by trivial
theorem x4g{cD:Addr}(D:Mf K cD "left" "Doer.left" q3c ["self"])(dk:Dk K cD)(T:Txt mg):MCal P w K mg base cD "left" 1 ["self"] (spLeft cD):=by
 refine D.cal dk.cl z0u (fun vs H Q E h=>?_) (fun f cdv A outer s H vs Q E hr h=>?_)
 ·obtain⟨x,dx,h,L,n,zs,rfl,_⟩:=h;rfl
 ·obtain⟨x,dx,h,L,n,zs,rfl,hx,ml,k⟩:=h;refine⟨_,(q0f (q0k (q0p q4k (q0p q0q (q0p q3y q0g (q0i (q1v K rfl) (by rfl) T.b_len Bk (q0a (@q2k _ _ _ _ _ K rfl (pv 0) (by rfl)) q0d))) q0g) (@q2k _ _ _ _ _ K rfl (pv 0) (by rfl))))),?_⟩;refine⟨_,rfl,x,cD,dx,_,_,rfl,hx,dk.cl,dk.m,rfl,_,_,rfl,.inl ⟨_,SqL.of ml.at_,rfl⟩,.inl ⟨_,_,rfl,rfl,.inl ⟨by decide,by decide⟩,.inl ⟨_,_,rfl,rfl,_,rfl,x,cD,dx,_,_,rfl,hx,dk.cl,dk.s,rfl,_,_,rfl,rfl,?_⟩⟩⟩;rw[Aa];exact k
structure CallsD1 (P:Program) (w:World) (K:Ag) (mg:Str->Option Value) (base:Heap) (c:Addr):Prop where
 m_move:MCal P w K mg base c "move" 4 ["self", "path", "place"] (spMove c)
def spDoOne(c cD:Addr):Sp:=fun vs H Q _=>∃x h d L bl R0 zs n,vs=[.ref x]/\DoAt c cD H x h d L bl R0 zs n/\n<3*zs.length+1/\∀d' H',Kp x h H H'->DoAt c cD H' x h d' L bl R0 zs (n+1)->Q .non H'
abbrev q2e:Stmt:=inClass (top 30) 2
theorem sc_Doer_do_one:FnScope ["self", "behind_begin", "path", "place"] ["self"] (defScope q2e):=by trivial
theorem z8m{c cD:Addr}(D:Mf K cD "do_one" "Doer.do_one" q2e ["self"])(dk:Dk K cD)(T:Txt mg)(C:CallsD1 P w K mg base c):MCal P w K mg base cD "do_one" 5 ["self"] (spDoOne c cD):=by
 refine D.cal dk.cl sc_Doer_do_one (fun vs H Q E h=>?_) (fun f cdv A outer s H vs Q E hr h=>?_)
 ·obtain⟨x,h,d,L,bl,R0,zs,n,rfl,_⟩:=h;rfl
 ·obtain⟨x,h,d,L,bl,R0,zs,n,rfl,da,hn,k⟩:=h;refine⟨_,(q0c (q0o (i:=1) sc_Doer_do_one.nd rfl (by trivial) (q0p q4k (q0p q4k (@q2k _ _ _ _ _ K rfl (pv 0) (by rfl)) (q0i (q1v K rfl) (by rfl) T.b_len Bk (q0a (@q2k _ _ _ _ _ K rfl (pv 0) (by rfl)) q0d))) q0g)) (q2j (q1j (pt_j (@PW.pt _ _ _ (z2o (q0s op_ge (pv 1) q0g (nomark _)) (q8h (q0s (eq_k K rfl hr) (q0p q6b (pv 1) q0g) q0g (nomark _)))))) (q0c (q2s (q1m (ix_k K rfl) (@q2k _ _ _ _ _ K rfl (pv 0) (by rfl)) (q0p q4u (pv 1) q0g) (fun _ _=>rfl)) (@q1u _ _ _ _ (2) _ K rfl rfl (q0j (q0h (i:=2) sc_Doer_do_one.nd rfl (by trivial)) (q0j (q0h (i:=3) sc_Doer_do_one.nd rfl (by trivial)) q1e)) (by rfl) (by rfl))) (q0f (q1d (pe_m C.m_move hr (@q2k _ _ _ _ _ K rfl (pv 0) (by rfl)) (q0a (pv 2) (q0a (pv 3) q0d)))))) q0n) (q0f (x0n K rfl (pv 0) q0g in_add)))),?_⟩;obtain⟨dx,hx⟩:=da.i;obtain⟨rows,hh,pm⟩:=da.ha;obtain⟨dh,hi⟩:=hh.i;have ml:=da.ml;have hxh:x≠h:=fun z=>by rw[z,hi] at hx;cases hx
  have hLh:L≠h:=fun z=>by have:=ml.at_;rw[z,hi] at this;cases this
  refine⟨_,rfl,x,cD,dx,_,_,rfl,hx,dk.cl,dk.s,rfl,_,rfl,x,cD,dx,_,_,rfl,hx,dk.cl,dk.m,rfl,_,_,rfl,.inl ⟨_,SqL.of ml.at_,rfl⟩,_,_,rfl,rfl,_,_,rfl,rfl,?_⟩;rw[Aa];refine⟨fun σ' H'=>(∃x1 x2 x3,σ'=[some (.ref x),x1,x2,x3])/\(∀y u,y≠h->H y=some u->H' y=some u)/\∃d' rows',HallAt c H' h d' bl rows'/\rows'.Perm (wk R0 ((zs.map (·.2)).take (md zs.length (n+1)))),?_,?_⟩
  ·rintro σ' H' ⟨⟨x1,x2,x3,rfl⟩,kp,d',rows',hh',pm'⟩;have hx':=kp _ _ hxh hx;refine⟨_,rfl,x,cD,dx,_,_,rfl,hx',dk.cl,dk.s,rfl,_,_,rfl,rfl,dx,_,hx',by show 3<1000;decide,?_⟩;obtain⟨dh',hi'⟩:=hh'.i;have hdx:d'≠x:=fun z=>by have:=hh'.d;rw[z,hx'] at this;cases this
   refine k d' _ (fun y u n1 n2 e=>by rw[q0e n1];exact kp y u n2 e) ⟨⟨dx,q0b⟩,⟨rows',⟨⟨dh',by rw[q0e hxh.symm];exact hi'⟩,by rw[q0e hdx];exact hh'.d⟩,pm'⟩,?_,da.ok,da.l60,da.few,by have:=da.le;lia⟩;refine⟨by rw[q0e (fun z=>by have:=ml.at_;rw[z,hx] at this;cases this)];exact kp _ _ hLh ml.at_,fun z hz=>(ml.pr z hz).keep fun T' xs e=>?_⟩;rw[q0e (fun z=>by rw[z,hx] at e;cases e)];exact kp _ _ (fun z=>by rw[z,hi] at e;cases e) e
  have stay:¬(zs.length+1<=n/\(n-(zs.length+1))%2=0)->md zs.length (n+1)=md zs.length n:=fun z=>by unfold md;lia
  refine⟨fun bb H2=>bb=decide (zs.length+1<=n/\(n-(zs.length+1))%2=0)/\H2=H,?_,?_⟩;rotate_left
  ·refine⟨_,rfl,_,_,rfl,rfl,_,rfl,iteB (fun hb=>?_) (fun hb=>?_)⟩
   ·have hb:(0:Int)<=(n:Int)-(zs.length:Int)-1:=of_decide_eq_true hb;have e0:(n:Int)-(zs.length:Int)-1=((n-(zs.length+1):Nat):Int):=by lia
    refine⟨_,rfl,_,_,rfl,rfl,by show(0:Int)<2;decide,.inl ⟨rfl,_,rfl,?_,rfl⟩⟩;rw[e0];refine decide_eq_decide.mpr ⟨fun z=>⟨by lia,?_⟩,fun z=>?_⟩
    ·have:((n-(zs.length+1):Nat):Int)%2=0:=by injection z
     lia
    ·have e1:((n-(zs.length+1):Nat):Int)%2=0:=by have:=z.2;lia
     show V.int (((n-(zs.length+1):Nat):Int)%2)=V.int 0;rw[e1]
   ·have hb:¬(0:Int)<=(n:Int)-(zs.length:Int)-1:=of_decide_eq_false hb;exact⟨(decide_eq_false fun z=>hb (by lia)).symm,rfl⟩
  rintro bb H2 ⟨rfl,rfl⟩;refine iteB (fun hb=>?_) (fun hb=>?_)
  ·obtain⟨hb1,hb2⟩:=of_decide_eq_true hb;have e0:((n:Int)-(zs.length:Int)-1) / 2=(((n-(zs.length+1)) / 2:Nat):Int):=by lia
   have m0:md zs.length n=(n-(zs.length+1)) / 2:=by unfold md;lia
   have m1:md zs.length (n+1)=(n-(zs.length+1)) / 2+1:=by unfold md;lia
   have hj:(n-(zs.length+1)) / 2<zs.length:=by lia
   generalize (n-(zs.length+1)) / 2=j at e0 m0 m1 hj;obtain⟨z,hz⟩:∃z,zs[j]?=some z:=⟨zs[j],Bz hj⟩
   obtain⟨A1,B1,g1,g2,g3⟩:=ml.pr z (Aq hz);have hat:atI (zs.map fun z=>V.ref z.1) (j:Int)=some (.ref z.1):=q6i (by rw[Au,hz];rfl);refine⟨_,rfl,x,cD,dx,_,_,rfl,hx,dk.cl,dk.m,rfl,_,rfl,_,_,rfl,rfl,⟨by decide,by decide⟩,.inl ⟨L,_,_,_,rfl,rfl,SqL.of ml.at_,by rw[e0];exact hat,?_⟩⟩;refine⟨z.1,_,rfl,SqT.of g1,rfl,_,_,rfl,_,_,rfl,rfl,?_⟩;have hzr:(zs.map (·.2))[j]?=some z.2:=by rw[Au,hz];rfl
   have e1:(zs.map (·.2)).take (j+1)=(zs.map (·.2)).take j++[z.2]:=by rw[Bm,hzr];rfl
   have mv0:Mvd bl (wk R0 ((zs.map (·.2)).take j)) z.2.1 z.2.2:=by
    have:=(da.ok.take (j+1)).1;rw[e1] at this;exact(WkOk.app.mp this).2.1
   rw[m0] at pm;have mv:=mv0.perm pm;obtain⟨mk0,hp,par⟩:=mv.m;refine⟨_,rfl,x,cD,dx,_,_,rfl,hx,dk.cl,dk.h,rfl,h,dh,_,rfl,hi,rfl,_,rfl,_,rfl,h,d,A1,B1,bl,rows,z.2.1,z.2.2,mk0,rfl,hh,mv.hl,by rw[pm.length_eq,q8f];exact da.l60,g2,g3,hp,par,mv.ne,mv.fr,mv.moved.paths,fun D1 H4 hD1 kp hall4=>?_⟩;refine⟨⟨_,_,_,rfl⟩,kp,D1,_,hall4,?_⟩;rw[m1,e1,z1u];exact pm.map _
  ·have hb:=of_decide_eq_false hb;exact⟨⟨_,_,_,rfl⟩,fun _ _ _ e=>e,d,rows,hh,by rw[stay hb];exact pm⟩
structure CallsDo (P:Program) (w:World) (K:Ag) (mg:Str->Option Value) (base:Heap) (c cD:Addr):Prop where
 m_left:MCal P w K mg base cD "left" 1 ["self"] (spLeft cD)
 m_do_one:MCal P w K mg base cD "do_one" 5 ["self"] (spDoOne c cD)
def spDo(c cD:Addr):Sp:=fun vs H Q _=>∃x h d L bl R0 zs n,∃many:Nat,vs=[.ref x,.int (many:Int)]/\DoAt c cD H x h d L bl R0 zs n/\∀d' H',Kp x h H H'->DoAt c cD H' x h d' L bl R0 zs (min (3*zs.length+1) (n+many))->Q .non H'
abbrev q5i:Stmt:=inClass (top 30) 1
theorem sc_Doer_do:FnScope ["self", "many", "step"] ["self", "many"] (defScope q5i):=by trivial
theorem ok_do{c cD:Addr}(D:Mf K cD "do" "Doer.do" q5i ["self", "many"])(dk:Dk K cD)(T:Txt mg)(C:CallsDo P w K mg base c cD):MCal P w K mg base cD "do" 6 ["self", "many"] (spDo c cD):=by
 refine D.cal dk.cl sc_Doer_do (fun vs H Q E h=>?_) (fun f cdv A outer s H vs Q E hr h=>?_)
 ·obtain⟨x,h,d,L,bl,R0,zs,n,many,rfl,_⟩:=h;rfl
 ·obtain⟨x,h,d,L,bl,R0,zs,n,many,rfl,da,k⟩:=h;refine⟨_,(q0f (q5k Dy rfl (q1y rfl T.b_range (q0a (q0i (q6c rfl) (by rfl) T.b_min (by decide +kernel) (q0a (pv 1) (q0a (q3u C.m_left hr (pv 0)) q0d))) q0d)) (q0h (i:=2) sc_Doer_do.nd rfl (by trivial)) (q0f (q1d (q3u C.m_do_one hr (pv 0)))))),?_⟩;obtain⟨dx,hx⟩:=da.i;have le:=da.le;have few:=da.few;refine⟨_,rfl,_,rfl,x,dx,_,rfl,hx,rfl,x,dx,h,L,n,zs,rfl,hx,da.ml,_,_,rfl,?_⟩;have em:(if 3*(zs.length:Int)+1-(n:Int)<(many:Int) then 3*(zs.length:Int)+1-(n:Int) else(many:Int))=((min (3*zs.length+1-n) many:Nat):Int):=by split<;>lia
  rw[em];refine⟨_,rfl,by lia,by lia,q9e (n:=min (3*zs.length+1-n) many) (fun i σ' H'=>∃x2 d',σ'=[some (.ref x),some (.int (many:Int)),x2]/\Kp x h H H'/\DoAt c cD H' x h d' L bl R0 zs (n+i)) ⟨none,d,rfl,Kp.refl,da⟩ ?_ ?_⟩
  ·rintro i σ' H' hi ⟨x2,d',rfl,kp,da'⟩;obtain⟨dx',hx'⟩:=da'.i;exact⟨_,rfl,x,dx',_,rfl,hx',rfl,x,h,d',L,bl,R0,zs,n+i,rfl,da',by lia,fun d2 H2 kp2 da2=>⟨_,d2,rfl,kp.trans kp2,da2⟩⟩
  ·rintro σ' H' ⟨x2,d',rfl,kp,da'⟩;refine k d' H' kp ?_;rw[show min (3*zs.length+1) (n+many)=n+min (3*zs.length+1-n) many from by lia];exact da'
structure CallsBk (P:Program) (w:World) (K:Ag) (mg:Str->Option Value) (base:Heap):Prop where
 lines_of:Cal P w K mg base "lines_of" 2 ["row"] spLines
def spBook(c cD:Addr):Sp:=fun vs H Q _=>∃x h d L bl R0 zs n,vs=[.ref x]/\DoAt c cD H x h d L bl R0 zs n/\∀H',Same H H'->Q (.str (mk (bkN (zs.map (·.2)) n))) H'
abbrev q3d:Stmt:=inClass (top 30) 4
theorem sc_Doer_book:FnScope ["self", "to_begin", "written"] ["self"] (defScope q3d):=by trivial
theorem x4h{c cD:Addr}(D:Mf K cD "book" "Doer.book" q3d ["self"])(dk:Dk K cD)(T:Txt mg)(C:CallsBk P w K mg base):MCal P w K mg base cD "book" 3 ["self"] (spBook c cD):=by
 refine D.cal dk.cl sc_Doer_book (fun vs H Q E h=>?_) (fun f cdv A outer s H vs Q E hr h=>?_)
 ·obtain⟨x,h,d,L,bl,R0,zs,n,rfl,_⟩:=h;rfl
 ·obtain⟨x,h,d,L,bl,R0,zs,n,rfl,da,k⟩:=h;refine⟨_,(q0c (q0o (i:=1) sc_Doer_book.nd rfl (by trivial) (q0p q0q (q0i (q1v K rfl) (by rfl) T.b_len Bk (q0a (@q2k _ _ _ _ _ K rfl (pv 0) (by rfl)) q0d)) q0g)) (q0c (q0o (i:=2) sc_Doer_book.nd rfl (by trivial) (q0p q0q (q0i (q6c rfl) (by rfl) T.b_min (by decide +kernel) (q0a (@q2k _ _ _ _ _ K rfl (pv 0) (by rfl)) (q0a (pv 1) q0d))) (q0p q4u (q0i (q9f rfl) (by rfl) T.b_max (by decide +kernel) (q0a (q0p q4k (@q2k _ _ _ _ _ K rfl (pv 0) (by rfl)) (pv 1)) (q0a q0g q0d))) q0g))) (q0f (q0k (@bm_k _ _ _ _ _ _ _ _ _ _ _ _ K rfl Cf Hh Hi (z2w K rfl) q1l (q0a (q1o ["line"] [] rfl (@q4l _ _ _ _ K rfl (q0r (sl_k K rfl) (pe_c C.lines_of hr (q0a (@q2k _ _ _ _ _ K rfl (pv 0) (by rfl)) q0d)) q0w (q0t (pv 2)))) (fun _ _ _ _ _=>(q0h (i:=0) (show(["line"]:List Str).Nodup by decide +kernel) rfl (by trivial))) (fun _ _ _ _ _=>q1f) (fun _ _ _ _ _=>(q0p q0q (pv 0) q1l))) q0d) (by rfl) (by rfl) (by rfl) (by rfl) (by rfl)))))),?_⟩;obtain⟨dx,hx⟩:=da.i;have ml:=da.ml;have few:=da.few;have okm:okMs (zs.map (·.2)):=q5h da.ok;refine⟨_,rfl,x,cD,dx,_,_,rfl,hx,dk.cl,dk.m,rfl,_,_,rfl,.inl ⟨_,SqL.of ml.at_,rfl⟩,.inl ⟨_,_,rfl,rfl,?_⟩⟩;rw[Aa];refine⟨_,rfl,x,cD,dx,_,_,rfl,hx,dk.cl,dk.s,rfl,_,rfl,_,_,rfl,_,rfl,x,cD,dx,_,_,rfl,hx,dk.cl,dk.s,rfl,_,rfl,_,_,rfl,rfl,_,_,rfl,_,_,rfl,rfl,⟨by decide,by decide⟩,.inl ⟨_,_,rfl,rfl,?_⟩⟩;have ew:(if (zs.length:Int)+1<(n:Int) then(zs.length:Int)+1 else(n:Int))+(if (0:Int)>(n:Int)-((zs.length:Int)+1) then 0 else(n:Int)-((zs.length:Int)+1)) / 2=((wr zs.length n:Nat):Int):=by
   unfold wr;split<;>split<;>lia
  rw[ew];refine⟨rfl,_,rfl,x,cD,dx,_,_,rfl,hx,dk.cl,dk.m,rfl,L,zs,rfl,ml,okm,by lia,fun D1 H1 hD1 s1 h1=>?_⟩;refine⟨_,rfl,_,rfl,.inr (.inl ⟨D1,_,rfl,SqL.of h1,fun D2 hD2=>?_⟩)⟩;rw[q2m,<- Cp];have s2:=s1.new (o:=.lst (vL ((lnsB (zs.map (·.2))).take (wr zs.length n)))) hD2;have h2:upd H1 D2 (.lst (vL ((lnsB (zs.map (·.2))).take (wr zs.length n)))) D2=some (.lst (vL ((lnsB (zs.map (·.2))).take (wr zs.length n)))):=q0b;generalize upd H1 D2 (.lst (vL ((lnsB (zs.map (·.2))).take (wr zs.length n))))=H2 at s2 h2;refine .inl ⟨D2,rfl,⟨_,SqL.of h2⟩,fun D4 hD4=>?_⟩;refine z8i h2 hD4 (by rw[An,q5y,Aa];lia) (fun y hy=>q4t okm (by rw[Aa];lia) y (Bc hy)) (fun l H6 Q' hl q=>?_) fun H6 s6 h6 hz=>?_
  ·refine⟨_,rfl,.inr (.inl ⟨_,_,rfl,rfl,?_,?_⟩)⟩
   ·rw[nlw,q0l,q0l];exact small (by show _+1<=_;lia)
   ·rw[nlw,q1r];exact q
  refine⟨_,D4,_,rfl,rfl,.inl (SqL.of h6),hz,?_⟩;rw[z8h];have e:bkT ((lnsB (zs.map (·.2))).take (wr zs.length n))=bkN (zs.map (·.2)) n:=by unfold bkN;rw[Aa]
  rw[e];exact k H6 (s2.trans s6)
structure CallsDh (P:Program) (w:World) (K:Ag) (mg:Str->Option Value) (base:Heap) (c:Addr):Prop where
 copied:Cal P w K mg base "copied" 6 ["hall"] (spCopied c)
def spDHall(c cD:Addr):Sp:=fun vs H Q _=>∃x h d L bl R0 zs n,vs=[.ref x]/\DoAt c cD H x h d L bl R0 zs n/\∀h' d' rows' H',Same H H'->H h'=none->HallAt c H' h' d' bl rows'->rows'.Perm (wk R0 ((zs.map (·.2)).take (md zs.length n)))->Q (.ref h') H'
abbrev q3e:Stmt:=inClass (top 30) 5
theorem z0v:FnScope ["self"] ["self"] (defScope q3e):=by trivial
theorem x1a{c cD:Addr}(D:Mf K cD "hall" "Doer.hall" q3e ["self"])(dk:Dk K cD)(T:Txt mg)(C:CallsDh P w K mg base c):MCal P w K mg base cD "hall" 7 ["self"] (spDHall c cD):=by
 refine D.cal dk.cl z0v (fun vs H Q E h=>?_) (fun f cdv A outer s H vs Q E hr h=>?_)
 ·obtain⟨x,h,d,L,bl,R0,zs,n,rfl,_⟩:=h;rfl
 ·obtain⟨x,h,d,L,bl,R0,zs,n,rfl,da,k⟩:=h;refine⟨_,(q0f (q0k (pe_c C.copied hr (q0a (@q2k _ _ _ _ _ K rfl (pv 0) (by rfl)) q0d)))),?_⟩;obtain⟨dx,hx⟩:=da.i;obtain⟨rows,hh,pm⟩:=da.ha;exact⟨_,rfl,x,cD,dx,_,_,rfl,hx,dk.cl,dk.h,rfl,h,d,bl,rows,rfl,hh,(da.ok.take _).1.fin.perm pm,by rw[pm.length_eq,q8f];exact da.l60,fun h' d' rows' H' s1 hn hh' pm'=>k h' d' rows' H' s1 hn hh' (pm'.trans pm)⟩
structure CallsDi (P:Program) (w:World) (K:Ag) (mg:Str->Option Value) (base:Heap) (c:Addr):Prop where
 copied:Cal P w K mg base "copied" 6 ["hall"] (spCopied c)
 walk:Cal P w K mg base "walk" 7 ["hall", "row"] (spWalk c)
def spDInit(c cD:Addr):Sp:=fun vs H Q _=>∃x dx h d L bl rows zs,vs=[.ref x,.ref h,.ref L]/\H x=some (.ins cD dx [])/\HallAt c H h d bl rows/\rows.length<=60/\ML H L zs/\WkOk bl rows (zs.map (·.2))/\zs.length<=100 /\
 ∀h' d' L' H',H h'=none->H L'=none->(∀y u,y≠x->H y=some u->H' y=some u)->DoAt c cD H' x h' d' L' bl rows zs 0->Q .non H'
abbrev q0u:Stmt:=inClass (top 30) 0
theorem q5r:FnScope ["self", "hall", "row"] ["self", "hall", "row"] (defScope q0u):=by trivial
theorem x1b{c cD:Addr}(D:Kf0 K mg cD "Doer" "Doer.__init__" q0u ["self", "hall", "row"])(dk:Dk K cD)(T:Txt mg)(C:CallsDi P w K mg base c):KCal0 P w K mg base cD "Doer" 8 ["self", "hall", "row"] (spDInit c cD):=by
 refine D.cal q5r (fun vs H Q E h=>?_) (fun f cdv A outer s H vs Q E hr h=>?_)
 ·obtain⟨x,dx,h,d,L,bl,rows,zs,rfl,_⟩:=h;rfl
 ·obtain⟨x,dx,h,d,L,bl,rows,zs,rfl,hx,hh,h60,ml,ok,few,k⟩:=h;refine⟨_,(q0c (q1d (pe_c C.walk hr (q0a (pv 1) (q0a (pv 2) q0d)))) (q0c (@q5p _ _ _ _ _ _ _ _ K rfl (pv 0) (pe_c C.copied hr (q0a (pv 1) q0d)) (by rfl)) (q0c (@q5p _ _ _ _ _ _ _ _ K rfl (pv 0) (q0y (q7v K rfl) (by rfl) T.b_list (by decide +kernel) (q0a (pv 2) q0d)) (by rfl)) (q0f (@q5p _ _ _ _ _ _ _ _ K rfl (pv 0) q0g (by rfl)))))),?_⟩;refine⟨_,rfl,_,rfl,h,d,L,bl,rows,zs,rfl,hh,h60,ml,ok,fun h1 d1 rows1 H1 s1 _ hall1 pm1=>?_⟩;refine⟨_,rfl,h,d,bl,rows,rfl,hh.same s1,ok.hd,h60,fun h2 d2 rows2 H2 s2 hn2 hall2 pm2=>?_⟩;have s12:=s1.trans s2;refine⟨_,rfl,x,cD,dx,_,rfl,s12 _ _ hx,dk.cl,dk.h,by decide,?_⟩;have hn2H:=s1.free hn2;have hLx:L≠x:=fun z=>by have:=ml.at_;rw[z,hx] at this;cases this
  have hxh2:x≠h2:=fun z=>by rw[<- z,hx] at hn2H;cases hn2H
  refine⟨_,rfl,L,_,rfl,.inl (SqL.of (by rw[q0e hLx];exact s12 _ _ ml.at_)),fun L3 hL3=>?_⟩;have hL3x:L3≠x:=fun z=>by rw[z,q0b] at hL3;cases hL3
  have hL3H:H2 L3=none:=by rw[q0e hL3x] at hL3;exact hL3
  refine⟨_,rfl,x,cD,dx,_,rfl,by rw[q0e hL3x.symm];exact q0b,dk.cl,dk.m,by show 1<1000;decide,?_⟩;refine⟨_,rfl,x,cD,dx,_,rfl,q0b,dk.cl,dk.s,by show 2<1000;decide,?_⟩;obtain⟨dh2,hi2⟩:=hall2.i;have hd2x:d2≠x:=fun z=>by have:=hall2.d;rw[z,s12 _ _ hx] at this;cases this
  have kp:∀y u,y≠x->H2 y=some u->upd (upd (upd (upd H2 x (.ins cD dx (putF ("held" : Str) (.ref h2) []))) L3 (.lst (zs.map fun z=>V.ref z.1))) x (.ins cD dx (putF ("moves" : Str) (.ref L3) (putF ("held" : Str) (.ref h2) [])))) x (.ins cD dx (putF ("steps" : Str) (.int 0) (putF ("moves" : Str) (.ref L3) (putF ("held" : Str) (.ref h2) [])))) y=some u:=fun y u n e=>by
   rw[q0e n,q0e n,q0e (fun z=>by rw[z,hL3H] at e;cases e),q0e n];exact e
  have tk:∀T' xs,H2 T'=some (.tup xs)->T'≠x:=fun T' xs e z=>by rw[z,s12 _ _ hx] at e;cases e
  refine k h2 d2 L3 _ hn2H (s12.free hL3H) (fun y u n e=>kp y u n (s12 _ _ e)) ⟨⟨dx,q0b⟩,⟨rows2,⟨⟨dh2,kp _ _ hxh2.symm hi2⟩,kp _ _ hd2x hall2.d⟩,?_⟩,⟨?_,fun z hz=>((ml.same s12).pr z hz).keep fun T' xs e=>kp _ _ (tk _ _ e) e⟩,ok,h60,few,Br _⟩
  ·have e0:md zs.length 0=0:=by unfold md;lia
   rw[e0,Jn];exact pm2
  ·rw[q0e hL3x,q0e hL3x];exact q0b
theorem no32:(32:Nat)∉HM.NS:=by decide +kernel
theorem no10:(10:Nat)∉HM.NS:=by decide +kernel
theorem q7h{q:Pth}(c:Nat)(hc:c∉HM.NS)(h47:c≠47)(h:∀n∈q,okN n):c∉jn q:=by
 induction q with
 |nil=>intro z;cases z
 |cons a r ih =>
  cases r with
  |nil=>exact fun z=>hc ((h a Aj).all c z)
  |cons b r =>
   rw[x3q a (by simp)];intro z;rcases Ay.mp z with z|z
   ·exact hc ((h a Aj).all c z)
   ·rcases Ba.mp z with z|z
    ·exact h47 z
    ·exact ih (fun n hn=>h n (Ah _ hn)) z
theorem x4i{c n:Nat}(hc:c∉tl (Ad "0123456789")):c∉dg n:=fun z=>hc (x1q n c z)
theorem pn_of{q:Pth}(h:okP q):PN q:=⟨Bs.mpr h.ne,h.few,fun n hn=>z8l (h.all n hn).one (h.all n hn).few (fun c hc=>(h.all n hn).all c hc)⟩
theorem x2k{q:Pth}(h:okP q):∀c∈jn q,c<128:=fun c hc=>by
 by_cases h47:c=47
 ·rw[h47];decide
 by_cases hn:c∈HM.NS
 ·exact x1v c hn
 ·exact absurd hc (q7h c hn h47 h.all)
theorem z0w{ms:List Mv}(h:okMs ms):∀x∈lnsB ms,(10:Nat)∉x:=fun x hx=>by
 unfold lnsB at hx;rcases Ay.mp hx with hx|hx
 ·obtain⟨m,hm,rfl⟩:=Am.mp hx;unfold mvT;intro z;rcases Ay.mp z with z|z
  ·revert z;decide +kernel
  rcases Ay.mp z with z|z
  ·exact q7h 10 no10 (by decide) (h m hm).1.all z
  rcases Ba.mp z with z|z
  ·revert z;decide
  ·exact q7h 10 no10 (by decide) (h m hm).2.all z
 ·rcases Ba.mp hx with rfl|hx
  ·decide +kernel
  ·obtain⟨k,_,rfl⟩:=Am.mp hx;unfold dnT;intro z;rcases Ay.mp z with z|z
   ·revert z;decide +kernel
   ·exact x4i (by decide +kernel) z
theorem fi_low:∀c∈tl (Ad "0123456789"),c<128:=by decide +kernel
theorem x1c{ms:List Mv}(h:okMs ms):Low (lnsB ms):=fun x hx c hc=>by
 unfold lnsB at hx;have h1:∀c∈MVT,c<128:=by decide +kernel
 have h2:∀c∈BGN,c<128:=by decide +kernel
 have h3:∀c∈DNT,c<128:=by decide +kernel
 rcases Ay.mp hx with hx|hx
 ·obtain⟨m,hm,rfl⟩:=Am.mp hx;unfold mvT at hc;rcases Ay.mp hc with hc|hc
  ·exact h1 c hc
  rcases Ay.mp hc with hc|hc
  ·exact x2k (h m hm).1 c hc
  rcases Ba.mp hc with hc|hc
  ·rw[hc];decide
  ·exact x2k (h m hm).2 c hc
 ·rcases Ba.mp hx with rfl|hx
  ·exact h2 c hc
  ·obtain⟨k,_,rfl⟩:=Am.mp hx;unfold dnT at hc;rcases Ay.mp hc with hc|hc
   ·exact h3 c hc
   ·exact fi_low c (x1q k c hc)
theorem jc_bk:∀(ls:List (List Nat)) (p:List Nat),PC.jc 10 (ls++[p])=bkT ls++p
 |[],p=>rfl
 |l::ls,p=>by
  have ih:=jc_bk ls p;rw[Nf,PC.jc_cons l (by simp),ih];show _=((l++[10])++(ls.map fun l=>l++[10]).flatten)++p;rw[Bp,Bp];rfl
theorem x1d{ls:List (List Nat)}{p:List Nat}(h:∀x∈ls,(10:Nat)∉x)(hp:(10:Nat)∉p):PC.sc 10 (bkT ls++p)=ls++[p]:=by
 rw[<- jc_bk];refine PC.sc_jc (by simp) fun x hx=>?_;rcases Ay.mp hx with hx|hx
 ·exact h x hx
 ·rw[Az.mp hx];exact hp
def MOV:List Nat:=tl (Ad "move")
theorem mov:Ad "move" = mk MOV:=(q9r _).symm
theorem x1e{m:Mv}(h:okMv m):PC.sc 32 (mvT m)=[MOV,jn m.1,jn m.2]:=by
 have e:mvT m=PC.jc 32 [MOV,jn m.1,jn m.2]:=by
  have e0:MVT=MOV++[32]:=by decide +kernel
  unfold mvT;rw[e0,Bp];rfl
 rw[e];refine PC.sc_jc (by simp) fun x hx=>?_;have h0:(32:Nat)∉MOV:=by decide +kernel
 rcases Ba.mp hx with rfl|hx
 ·exact h0
 rcases Ba.mp hx with rfl|hx
 ·exact q7h 32 no32 (by decide) h.1.all
 rcases Ba.mp hx with rfl|hx
 ·exact q7h 32 no32 (by decide) h.2.all
 ·cases hx
theorem spl1{s:Nat}{c t:Str}(hc:c=⟨#[s]⟩):(Nt t c).map V.str=vL (PC.sc s (tl t)):=by rw[hc];exact PC.split_mk s t
theorem z8n{s:Nat}{c t:Str}(hc:c=⟨#[s]⟩):(Nt t c).length<=t.length+1:=by
 have:=PC.sc_len (s:=s) (tl t);rw[hc,<- Aa (f:=V.str),PC.split_mk,Aa,len];exact this
theorem z8o{c t:Str}(h:t.length<=500000):(Nc t (Cn t c 0 t.length (t.length+1)) c.length).length<=sizeLine:=by
 rw[Le];have:=Oy t c 0 t.length (t.length+1);exact small (by lia)
theorem spS:Ad " " = ⟨#[32]⟩:=by decide +kernel
theorem spN:Ad "\n" = ⟨#[10]⟩:=by decide +kernel
structure CallsRm (P:Program) (w:World) (K:Ag) (mg:Str->Option Value) (base:Heap):Prop where
 read_path:Cal P w K mg base "read_path" 3 ["text"] spRead
def spRdMove:Sp:=fun vs H Q _=>∃m:Mv,vs=[.str (mk (mvT m))]/\okMv m/\∀T H',H T=none->Same H H'->MT H' T m->Q (.ref T) H'
abbrev q3f:Stmt:=top 31
theorem sc_read_move:FnScope ["line", "words", "path", "place"] ["line"] (defScope q3f):=by trivial
theorem z0x(D:Df K mg "read_move" q3f ["line"])(T:Txt mg)(C:CallsRm P w K mg base):Cal P w K mg base "read_move" 4 ["line"] spRdMove:=by
 refine D.cal sc_read_move (fun vs H Q E h=>?_) (fun f cdv A outer s H vs Q E hr h=>?_)
 ·obtain⟨m,rfl,_⟩:=h;rfl
 ·obtain⟨m,rfl,om,k⟩:=h;refine⟨_,(q0c (q0o (i:=1) sc_read_move.nd rfl (by trivial) (@bm_k _ _ _ _ _ _ _ _ _ _ _ _ K rfl Cf Kb Kc q8p (pv 0) (q0a q1l q0d) (by rfl) (by rfl) (by rfl) (by rfl) (by rfl))) (q0c (q1j (pt_j (@PW.pt _ _ _ (q7i (q0s (ne_k K rfl hr) (q0i (q1v K rfl) (by rfl) T.b_len Bk (q0a (pv 1) q0d)) q0g (nomark _)) (q4h (q0s (ne_k K rfl hr) (q1m (ix_k K rfl) (pv 1) q0g (fun _ _=>rfl)) q1l (nomark _)))))) (q0f q1n) q0n) (q0c (q0o (i:=2) sc_read_move.nd rfl (by trivial) (pe_c C.read_path hr (q0a (q1m (ix_k K rfl) (pv 1) q0g (fun _ _=>rfl)) q0d))) (q0c (q0o (i:=3) sc_read_move.nd rfl (by trivial) (pe_c C.read_path hr (q0a (q1m (ix_k K rfl) (pv 1) q0g (fun _ _=>rfl)) q0d))) (q0c (q1j (pt_j (@PW.pt _ _ _ (q7i (q6a (z2n (pv 2))) (q4h (q6a (z2n (pv 3))))))) (q0f q1n) q0n) (q0f (q0k (q1z (q0a (pv 2) (q0a (pv 3) q0d)))))))))),?_⟩;have lz:=z2a om;have e1:(Ad " ").length=1:=by decide +kernel
  have lt:(mk (mvT m)).length<=200:=by rw[q0l];exact lz
  refine⟨_,rfl,rfl,_,_,rfl,rfl,by rw[e1];rfl,small (by lia),?_,z8o (by lia),fun L hL=>?_⟩
  ·have:=z8n (t:=mk (mvT m)) spS;exact small (by lia)
  rw[spl1 spS,q0z,x1e om];have s1:=(Same.refl H).new (o:=.lst (vL [MOV,jn m.1,jn m.2])) hL;have h1:upd H L (.lst (vL [MOV,jn m.1,jn m.2])) L=some (.lst (vL [MOV,jn m.1,jn m.2])):=q0b;generalize upd H L (.lst (vL [MOV,jn m.1,jn m.2]))=H1 at s1 h1;refine⟨fun bb H2=>bb=false/\H2=H1,?_,?_⟩;rotate_left
  ·refine⟨_,rfl,_,_,rfl,.inl ⟨_,SqL.of h1,rfl⟩,.inl ⟨rfl,_,rfl,?_⟩⟩;rw[decide_eq_true (show V.int (((vL [MOV,jn m.1,jn m.2]).length:Nat):Int)=V.int 3 from rfl)];refine iteF ⟨_,rfl,.inl ⟨L,_,0,_,rfl,rfl,SqL.of h1,rfl,.inl ⟨rfl,_,rfl,?_,rfl⟩⟩⟩;rw[mov,decide_eq_true rfl];rfl
  rintro bb H2 ⟨rfl,rfl⟩;refine iteF ?_;have j1:=q2y om.1;have j2:=q2y om.2;have r1:rp (tl (mk (jn m.1)))=some m.1:=by rw[q0z];exact(pn_of om.1).rp
  have r2:rp (tl (mk (jn m.2)))=some m.2:=by rw[q0z];exact(pn_of om.2).rp
  refine⟨_,rfl,.inl ⟨L,_,1,_,rfl,rfl,SqL.of h1,rfl,_,rfl,by rw[q0l];lia,(fun z=>by rw[r1] at z;cases z),fun ns hns T1 H2 hT1 s2 h2=>?_⟩⟩;rw[r1] at hns;cases hns;refine⟨_,rfl,.inl ⟨L,_,2,_,rfl,rfl,SqL.of (s2 _ _ h1),rfl,_,rfl,by rw[q0l];lia,(fun z=>by rw[r2] at z;cases z),fun ns hns T2 H3 hT2 s3 h3=>?_⟩⟩;rw[r2] at hns;cases hns;refine⟨fun bb H4=>bb=false/\H4=H3,?_,?_⟩;rotate_left
  ·exact⟨_,rfl,_,rfl,iteF ⟨_,rfl,_,rfl,rfl,rfl⟩⟩
  rintro bb H4 ⟨rfl,rfl⟩;refine iteF ⟨_,rfl,_,rfl,by show 2<=sizeLine;decide,fun T3 hT3=>?_⟩;have s4:=(Same.refl H4).new (o:=.tup [.ref T1,.ref T2]) hT3;have s13:=(s1.trans s2).trans s3;exact k T3 _ (s13.free hT3) (s13.trans s4) ⟨T1,T2,q0b,s4 _ _ (s3 _ _ h2),s4 _ _ h3⟩
theorem cut_dl{xs:List V}(h:xs≠[]):cutV xs none (some (-1))=xs.dropLast:=by
 have hl:=Bs.mpr h;have e:HT.sIx xs.length xs.length (some (-1))=xs.length-1:=by
  show(if (-1:Int)<0 then((-1:Int)+(xs.length:Int)).toNat else min (-1:Int).toNat xs.length)=_;rw[if_pos (by decide)];lia
 have e0:HT.sIx xs.length 0 none=0:=rfl;unfold cutV;rw[e0,e,Jm,Je,Fi]
theorem z8p(ls:List (List Nat)):(vL ls).all flatV=true:=by
 rw[Gh];intro x hx;obtain⟨l,_,rfl⟩:=Am.mp hx;rfl
theorem z8q(a b:List Nat):eqV (.str (mk a)) (.str (mk b))=decide (a=b):=by
 show(mk a==mk b)=_;by_cases h:a=b
 ·rw[h,beq_self_eq_true,decide_eq_true rfl]
 ·rw[decide_eq_false h,beq_eq_false_iff_ne];intro z;have:=congrArg tl z;rw[q0z,q0z] at this;exact h this
theorem x1f(m:Mv):mvT m≠BGN:=fun z=>by
 have e1:MVT=109::[111,118,101,32]:=by decide +kernel
 have e2:BGN=98::[101,103,105,110]:=by decide +kernel
 unfold mvT at z;rw[e1,e2,Nf] at z;injection z with z _;cases z
theorem x4j{K:Ag}{L D:Addr}{ms:List Mv}{H1:Hp}{te:TE}{Fin:List V->Hp->Prop}(hL:H1 L=some (.lst (vL (ms.map mvT))))(hD:H1 D=none)(few:ms.length<=1000)(ok:okMs ms)(he:∀(m:Mv) (H:Hp) (Q:VK),okMv m->(∀T H',H T=none->Same H H'->MT H' T m->Q (.ref T) H')->te [some (.str (mk (mvT m)))] H Q)(k:∀(zs:List Zm) H',Same H1 H'->ML H' D zs->zs.map (·.2)=ms->Fin (zs.map fun z=>V.ref z.1) H'):
  CompW (Itl K L) (gName 0) tIf0 te [none] D Fin H1:=by
 refine q2i (xs:=vL (ms.map mvT)) (fun i ys H'=>∃us:List Zm,ys=us.map (fun z=>V.ref z.1)/\us.map (·.2)=ms.take i/\Same H1 H'/\ML H' D us) ⟨[],rfl,rfl,(Same.refl H1).new hD,ML.nil q0b⟩ (fun i ys H' x=>by obtain⟨us,e,_,sm,ml⟩:=x;exact⟨by rw[e];exact ml.at_,SqL.of (sm _ _ hL)⟩) ?_ ?_
 ·rintro i ys H' v hv ⟨us,rfl,hu,sm,ml⟩;obtain⟨m,hm,rfl⟩:∃m,ms[i]?=some m/\v=.str (mk (mvT m)):=by
   rw[Au,Au] at hv;cases e:ms[i]? with
   |none=>rw[e] at hv;cases hv
   |some z=>rw[e] at hv;cases hv;exact⟨z,rfl,rfl⟩
  have hul:us.length<=ms.length:=by have:=congrArg List.length hu;rw[Aa,An] at this;lia
  refine he m H' _ (ok m (Aq hm)) fun T' H2 hT' s2 mt=>?_;have ml2:=ml.same s2;have kt:∀S xs,H2 S=some (.tup xs)->upd H2 D (.lst (us.map (fun z=>V.ref z.1)++[.ref T'])) S=some (.tup xs):=fun S xs e=>by rw[q0e (fun y=>by have:=ml2.at_;rw[<- y,e] at this;cases this)];exact e
  refine⟨ml2.at_,small' (by rw[Aa];lia),us++[(T',m)],by rw[Al];rfl,?_,(sm.trans s2).put hD,⟨by rw[Al];exact q0b,fun y hy=>?_⟩⟩
  ·rw[Al,hu,Bm,hm];rfl
  ·rcases Ay.mp hy with hy|hy
   ·exact(ml2.pr y hy).keep kt
   ·rw[Az.mp hy];exact mt.keep kt
 ·rintro ys H' ⟨us,rfl,hu,sm,ml⟩;rw[Aa,Aa,Bj] at hu;exact k us H' sm ml hu
theorem x1g{H:Hp}{L M:Addr}{ls:List (List Nat)}{Q:VK}(h:H L=some (.lst (vL ls)))(g:H M=some (.lst (vL ls)))(lo:Low ls)(k:Q (.bl false) H):rNeU K (.ref L) (.ref M) H Q :=
 ne_dt (d:=.list (dP ls)) (.lst (SqL.of h) (q5u ls)) (.lst (SqL.of g) (q5u ls)) (by simp only[Gb,z0b lo]) (by have:=q5t ls;simp only[Ji];lia) k
structure CallsRb (P:Program) (w:World) (K:Ag) (mg:Str->Option Value) (base:Heap):Prop where
 lines_of:Cal P w K mg base "lines_of" 2 ["row"] spLines
 read_move:Cal P w K mg base "read_move" 4 ["line"] spRdMove
theorem z8r{ms:List Mv}{k:Nat}(hk:ms.length+1<=k):((lnsB ms).take k).take ms.length=ms.map mvT:=by
 rw[Hg,Gu (by lia)];unfold lnsB;rw[Gv (by rw[Aa];exact Ak _),Cd (by rw[Aa];exact Ak _)]
theorem x4k{ms:List Mv}{k:Nat}(hk:ms.length+1<=k):((lnsB ms).take k)[ms.length]?=some BGN:=by
 rw[Iu (by lia)];unfold lnsB;rw[Cz (by rw[Aa];exact Ak _),Aa,Ni];rfl
theorem x4l{ms:List Mv}{k i:Nat}{l:List Nat}(hi:i<ms.length)(h:((lnsB ms).take k)[i]?=some l):l≠BGN:=by
 have h1:=Ax.mp h;have h2:(lnsB ms)[i]?=some l:=by
  obtain⟨a,b⟩:=h1;rw[An] at a;rw[Iu (by lia)] at h;exact h
 unfold lnsB at h2;rw[Dh (by rw[Aa];exact hi),Au] at h2;obtain⟨m,_,rfl⟩:=Ed.mp h2;exact x1f m
def spRdBook:Sp:=fun vs H Q _=>∃(ms:List Mv) (k:Nat) (p:List Nat),vs=[.str (mk (bkT ((lnsB ms).take k)++p))]/\okMs ms/\ms.length<=100/\ms.length+1<=k/\k<=2*ms.length+1/\(10:Nat)∉p/\p.length<=1000 /\
 ∀T L zs H',H L=none->Same H H'->ML H' L zs->zs.map (·.2)=ms->H' T=some (.tup [.ref L,.int ((k-ms.length-1:Nat):Int)])->Q (.ref T) H'
theorem z2f{M:Nat}:∀{ls:List (List Nat)},(∀x∈ls,x.length<=M)->(bkT ls).length<=ls.length*(M+1)
 |[],_=>Br _
 |l::ls,h=>by
  have ih:=z2f (ls:=ls) fun x hx=>h x (Ah _ hx);have h1:=h l Aj;show((l++[10])++bkT ls).length<=_;have e:(l::ls).length*(M+1)=ls.length*(M+1)+(M+1):=Nh _ _;rw[Af,Af,e];show l.length+1+_<=_;lia
abbrev q3g:Stmt:=top 32
theorem sc_read_book:FnScope ["text", "lines", "row"] ["text"] (defScope q3g):=by trivial
theorem z0y(D:Df K mg "read_book" q3g ["text"])(T:Txt mg)(C:CallsRb P w K mg base):Cal P w K mg base "read_book" 5 ["text"] spRdBook:=by
 refine D.cal sc_read_book (fun vs H Q E h=>?_) (fun f cdv A outer s H vs Q E hr h=>?_)
 ·obtain⟨ms,kk,p,rfl,_⟩:=h;rfl
 ·obtain⟨ms,kk,p,rfl,okm,few,hk1,hk2,hp,hpl,k⟩:=h;refine⟨_,(q0c (q0o (i:=1) sc_read_book.nd rfl (by trivial) (q0r (sl_k K rfl) (@bm_k _ _ _ _ _ _ _ _ _ _ _ _ K rfl Cf Kb Kc q8p (pv 0) (q0a q1l q0d) (by rfl) (by rfl) (by rfl) (by rfl) (by rfl)) q0w (q0t (q4j q2b q0g)))) (q0c (q1j (q0s (nin_k K rfl) q1l (pv 1) (by with_unfolding_all rfl)) (q0f q1n) q0n) (q0c (q6m (i:=2) ["line"] [] sc_read_book.nd rfl (by trivial) rfl (@q4l _ _ _ _ K rfl (q0r (sl_k K rfl) (pv 1) q0w (q0t (@bm_k _ _ _ _ _ _ _ _ _ _ _ _ K rfl Co PySem.F.slot_list_index PySem.F.type_list_index z7q (pv 1) (q0a q1l q0d) (by rfl) (by rfl) (by rfl) (by rfl) (by rfl))))) (fun _ _ _ _ _=>(q0h (i:=0) (show(["line"]:List Str).Nodup by decide +kernel) rfl (by trivial))) (fun _ _ _ _ _=>q1f) (fun _ _ _ _ _=>(pe_c C.read_move hr (q0a (pv 0) q0d)))) (q0c (q1j (q0s (ne_k K rfl hr) (pv 1) (q0r (sl_k K rfl) (pe_c C.lines_of hr (q0a (pv 2) q0d)) q0w (q0t (q0i (q1v K rfl) (by rfl) T.b_len Bk (q0a (pv 1) q0d)))) (nomark _)) (q0f q1n) q0n) (q0f (q0k (q1z (q0a (pv 2) (q0a (q0p q4k (q0p q4k (q0i (q1v K rfl) (by rfl) T.b_len Bk (q0a (pv 1) q0d)) (q0i (q1v K rfl) (by rfl) T.b_len Bk (q0a (pv 2) q0d))) q0g) q0d))))))))),?_⟩;have e1:(Ad "\n").length=1:=by decide +kernel
  have ll:((lnsB ms).take kk).length=kk:=by rw[An,q5y];lia
  have all:∀x∈(lnsB ms).take kk,x.length<=200:=fun x hx=>q4t okm (by lia) x (Bc hx);have fr:∀x∈(lnsB ms).take kk,(10:Nat)∉x:=fun x hx=>z0w okm x (Bc hx);have lo:Low ((lnsB ms).take kk):=fun x hx=>x1c okm x (Bc hx);have eT:=z8r hk1;have eA:=x4k hk1;have eN:∀(i:Nat) (l:List Nat),i<ms.length->((lnsB ms).take kk)[i]?=some l->l≠BGN:=fun i l hi h=>x4l hi h;have eL:(lnsB ms).take ((lnsB ms).take kk).length=(lnsB ms).take kk:=by rw[ll]
  have lt:(mk (bkT ((lnsB ms).take kk)++p)).length<=100000:=by
   have:=z2f all;rw[ll] at this;rw[q0l,Af];lia
  have esp:PC.sc 10 (tl (mk (bkT ((lnsB ms).take kk)++p)))=(lnsB ms).take kk++[p]:=by rw[q0z];exact x1d fr hp
  generalize mk (bkT ((lnsB ms).take kk)++p)=t at lt esp;generalize hls:(lnsB ms).take kk=ls at ll all fr lo eT eA eN eL esp;refine⟨_,rfl,rfl,_,_,rfl,rfl,by rw[e1];rfl,small (by lia),?_,z8o (by lia),fun L0 hL0=>?_⟩
  ·have:=z8n (t:=t) spN;exact small (by lia)
  rw[spl1 spN,esp];refine⟨_,rfl,_,rfl,.inr (.inl ⟨L0,_,rfl,SqL.of q0b,fun L1 hL1=>?_⟩)⟩;have ed:(vL (ls++[p])).dropLast=vL ls:=by rw[<- List.map_dropLast,Fu]
  rw[cut_dl (by simp),ed];have s1:=((Same.refl H).new (o:=.lst (vL (ls++[p]))) hL0).new (o:=.lst (vL ls)) hL1;have h1:upd (upd H L0 (.lst (vL (ls++[p])))) L1 (.lst (vL ls)) L1=some (.lst (vL ls)):=q0b;generalize upd (upd H L0 (.lst (vL (ls++[p])))) L1 (.lst (vL ls))=H1 at s1 h1;have hin:inV (.str (mk BGN)) (vL ls)=true:=by
   unfold inV;rw[List.any_eq_true];exact⟨.str (mk BGN),Am.mpr ⟨BGN,Aq eA,rfl⟩,by rw[z8q,decide_eq_true rfl]⟩
  refine⟨_,rfl,.inr ⟨L1,_,rfl,.inl (SqL.of h1),rfl,z8p ls,_,rfl,?_⟩⟩;rw[bgw,hin];refine iteF ?_;refine⟨_,rfl,_,rfl,.inl ⟨rfl,_,SqL.of h1⟩,L1,_,_,ms.length,rfl,rfl,h1,rfl,z8p ls,⟨_,by rw[Au,eA];rfl,by rw[z8q,decide_eq_true rfl]⟩,fun i z hi hz=>?_,_,rfl,.inr (.inl ⟨L1,_,rfl,SqL.of h1,fun L2 hL2=>?_⟩)⟩
  ·rw[Au] at hz;obtain⟨l,hl,rfl⟩:=Ed.mp hz;rw[z8q];exact decide_eq_false (eN i l hi hl)
  rw[q2m,<- Cp,eT];have s2:=s1.new (o:=.lst (vL (ms.map mvT))) hL2;have h12:=(Same.refl H1).new (o:=.lst (vL (ms.map mvT))) hL2 _ _ h1;have h2:upd H1 L2 (.lst (vL (ms.map mvT))) L2=some (.lst (vL (ms.map mvT))):=q0b;generalize upd H1 L2 (.lst (vL (ms.map mvT)))=H2 at s2 h2 h12;refine .inl ⟨L2,rfl,⟨_,SqL.of h2⟩,fun D1 hD1=>?_⟩;refine x4j h2 hD1 (by lia) okm (fun m H3 Q' om q=>⟨_,rfl,m,rfl,om,q⟩) fun zs H3 s3 ml ez=>?_;have h13:=s3 _ _ h12;have hzl:zs.length=ms.length:=by have:=congrArg List.length ez;rw[Aa] at this;exact this
  refine⟨_,rfl,_,rfl,D1,zs,rfl,ml,by rw[ez];exact okm,by lia,fun D2 H4 hD2 s4 h4=>?_⟩;rw[ez] at h4;refine⟨_,rfl,_,_,rfl,.inl ⟨_,SqL.of (s4 _ _ h13),rfl⟩,_,rfl,.inr (.inl ⟨D2,_,rfl,SqL.of h4,fun D3 hD3=>?_⟩)⟩;rw[Aa,q2m,<- Cp,eL];have s5:=(Same.refl H4).new (o:=.lst (vL ls)) hD3;have h5:upd H4 D3 (.lst (vL ls)) D3=some (.lst (vL ls)):=q0b;generalize upd H4 D3 (.lst (vL ls))=H5 at s5 h5;have h15:=s5 _ _ (s4 _ _ h13);refine x1g h15 h5 lo ⟨false,rfl,iteF ?_⟩;have ml5:=(ml.same s4).same s5;refine⟨_,rfl,_,rfl,_,_,rfl,.inl ⟨_,SqL.of h15,rfl⟩,_,rfl,_,_,rfl,.inl ⟨_,SqL.of ml5.at_,rfl⟩,_,_,rfl,rfl,_,_,rfl,rfl,by show 2<=sizeLine;decide,fun T1 hT1=>?_⟩;have ei:(((vL ls).length:Nat):Int)-(((zs.map fun z=>V.ref z.1).length:Nat):Int)-1=((kk-ms.length-1:Nat):Int):=by
   rw[Aa,Aa,ll,hzl];lia
  have s6:=(Same.refl H5).new (o:=.tup [.ref D1,.int ((((vL ls).length:Nat):Int)-(((zs.map fun z=>V.ref z.1).length:Nat):Int)-1)]) hT1;refine k T1 D1 zs _ (s2.free hD1) ((s2.trans ((s3.trans s4).trans s5)).trans s6) (ml5.same s6) ez ?_;rw[q0b];show some (HO.tup [V.ref D1,V.int ((((vL ls).length:Nat):Int)-(((zs.map fun z=>V.ref z.1).length:Nat):Int)-1)])=_;rw[ei]
theorem x2l{bl:Bool}{rows:List Rw}{p:Pth}{m:Option Int}(hl:Hl bl rows)(hp:(p,m)∈rows):∀r∈rows,fold bl r.1=fold bl p->r.1=p:=fun r hr e=>by
 have:=hl.eq hr hp e;rw[this]
theorem x4m{H:Hp}{b:Addr}{p:Pth}{Q:VK}(hb:H b=some (.tup (vP p)))(lp:Low p)(k:Q (.bl false) H):rEqU K .non (.ref b) H Q:=by
 refine .inr ⟨_,_,.non,q4y hb,rfl,q4z lp,by have:=q4r p;lia,?_⟩;exact k
structure CallsMw (P:Program) (w:World) (K:Ag) (mg:Str->Option Value) (base:Heap) (c:Addr):Prop where
 m_there:MCal P w K mg base c "there" 3 ["self", "place"] (spThere1 c)
structure StopAt (c:Addr) (H:Hp) (h d:Addr) (bl:Bool) (R0 rows:List Rw) (ms:List Mv) (k j:Nat):Prop where
 ha:HallAt c H h d bl rows
 pm:rows.Perm (wk R0 (ms.take j))
 ok:WkOk bl R0 ms
 l60:R0.length<=60
 kj:j=k\/j=k+1
 le:j<=ms.length
theorem StopAt.same{c:Addr}{H H':Hp}{h d:Addr}{bl:Bool}{R0 rows:List Rw}{ms:List Mv}{k j:Nat}(x:StopAt c H h d bl R0 rows ms k j)(s:Same H H'):StopAt c H' h d bl R0 rows ms k j:=⟨x.ha.same s,x.pm,x.ok,x.l60,x.kj,x.le⟩
def spMwl(c:Addr):Sp:=fun vs H Q _=>∃h d L bl R0 rows zs k j,vs=[.ref h,.ref L,.int ((k:Nat):Int)]/\StopAt c H h d bl R0 rows (zs.map (·.2)) k j/\ML H L zs/\∀H',Same H H'->Q (.bl (decide (j=k+1))) H'
abbrev q1b:Stmt:=top 33
theorem sc_is_made_without_line:FnScope ["hall", "row", "done", "path", "place"] ["hall", "row", "done"] (defScope q1b):=by trivial
theorem ok_mwl{c:Addr}(D:Df K mg "is_made_without_line" q1b ["hall", "row", "done"])(T:Txt mg)(C:CallsMw P w K mg base c):Cal P w K mg base "is_made_without_line" 4 ["hall", "row", "done"] (spMwl c):=by
 refine D.cal sc_is_made_without_line (fun vs H Q E h=>?_) (fun f cdv A outer s H vs Q E hr h=>?_)
 ·obtain⟨h,d,L,bl,R0,rows,zs,kk,j,rfl,_⟩:=h;rfl
 ·obtain⟨h,d,L,bl,R0,rows,zs,kk,j,rfl,st,ml,k⟩:=h;refine⟨_,(q0c (q1j (q0s (eq_k K rfl hr) (pv 2) (q0i (q1v K rfl) (by rfl) T.b_len Bk (q0a (pv 1) q0d)) (nomark _)) (q0f (q0k q4g)) q0n) (q0c (q2s (q1m (ix_k K rfl) (pv 1) (pv 2) (fun _ _=>rfl)) (@q1u _ _ _ _ (2) _ K rfl rfl (q0j (q0h (i:=3) sc_is_made_without_line.nd rfl (by trivial)) (q0j (q0h (i:=4) sc_is_made_without_line.nd rfl (by trivial)) q1e)) (by rfl) (by rfl))) (q0c (q1j (q0s (eq_k K rfl hr) (pe_m C.m_there hr (pv 0) (q0a (pv 3) q0d)) (pv 3) (nomark _)) (q0f (q0k q4g)) q0n) (q0c (q1j (q0s (eq_k K rfl hr) (pe_m C.m_there hr (pv 0) (q0a (pv 4) q0d)) (pv 4) (nomark _)) (q0f (q0k q4g)) q0n) (q0f q1n))))),?_⟩;have le:=st.le;have kj:=st.kj;rw[Aa] at le;obtain⟨dh,hi⟩:=st.ha.i;refine⟨_,rfl,_,rfl,_,_,rfl,.inl ⟨_,SqL.of ml.at_,rfl⟩,.inl ⟨rfl,_,rfl,?_⟩⟩;rw[Aa];refine iteB (fun hb=>?_) (fun hb=>?_)
  ·have hb:=of_decide_eq_true hb;have hb:(kk:Int)=(zs.length:Int):=by injection hb
   have e:decide (j=kk+1)=false:=decide_eq_false (by lia);have:=k H (Same.refl H);rw[e] at this;exact this
  have hb:=of_decide_eq_false hb;have hk:kk<zs.length:=by
   have:¬kk=zs.length:=fun z=>hb (by rw[z]);lia
  obtain⟨z,hz⟩:∃z,zs[kk]?=some z:=⟨zs[kk],Bz hk⟩
  obtain⟨A1,B1,g1,g2,g3⟩:=ml.pr z (Aq hz);have hat:atI (zs.map fun z=>V.ref z.1) (kk:Int)=some (.ref z.1):=q6i (by rw[Au,hz];rfl);refine⟨_,rfl,_,rfl,.inl ⟨L,_,_,_,rfl,rfl,SqL.of ml.at_,hat,?_⟩⟩;refine⟨z.1,_,rfl,SqT.of g1,rfl,_,_,rfl,_,_,rfl,rfl,?_⟩;have hzr:(zs.map (·.2))[kk]?=some z.2:=by rw[Au,hz];rfl
  have e1:(zs.map (·.2)).take (kk+1)=(zs.map (·.2)).take kk++[z.2]:=by rw[Bm,hzr];rfl
  have mv0:Mvd bl (wk R0 ((zs.map (·.2)).take kk)) z.2.1 z.2.2:=by
   have:=(st.ok.take (kk+1)).1;rw[e1] at this;exact(WkOk.app.mp this).2.1
  have hl:=(st.ok.take j).1.fin.perm st.pm;have okp:=mv0.okp;have okq:=mv0.fr.ok;refine⟨_,rfl,h,dh,_,rfl,hi,rfl,_,rfl,h,d,A1,bl,rows,z.2.1,rfl,st.ha,g2,okp,hl.ok,fun H1 v1 s1 hv1=>?_⟩;rcases kj with rfl|rfl
  ·
   have mv:=mv0.perm st.pm;obtain⟨mk0,hp,_⟩:=mv.m;rcases hv1 with⟨rfl,no⟩|⟨b,r,rfl,hr,hf,hb1⟩
   ·exact absurd rfl (no _ hp)
   rw[x2l hl hp r hr hf] at hb1;refine⟨_,rfl,q2l hb1 (s1 _ _ g2) okp.low okp.low ⟨_,rfl,?_⟩⟩;rw[decide_eq_true rfl];have:=k H1 s1;rw[decide_eq_false (by lia)] at this;exact iteT this
  ·
   have pm:=st.pm;rw[e1,z1u] at pm;have rv:=mv0.rev.perm pm;obtain⟨mk0,hq,_⟩:=rv.m;have e2:∀{Q':VK},Q' (.bl false) H1->rEqU K v1 (.ref A1) H1 Q':=fun{Q'} q=>by
    rcases hv1 with⟨rfl,no⟩|⟨b,r,rfl,hr,hf,hb1⟩
    ·exact x4m (s1 _ _ g2) okp.low q
    ·rw[rv.fr.un r hr hf] at hb1;refine q2l hb1 (s1 _ _ g2) okq.low okp.low ?_;rw[decide_eq_false mv0.ne];exact q
   refine⟨_,rfl,e2 ⟨false,rfl,iteF ?_⟩⟩;refine⟨_,rfl,h,dh,_,rfl,s1 _ _ hi,rfl,_,rfl,h,d,B1,bl,rows,z.2.2,rfl,st.ha.same s1,s1 _ _ g3,okq,hl.ok,fun H2 v2 s2 hv2=>?_⟩;rcases hv2 with⟨rfl,no⟩|⟨b,r,rfl,hr,hf,hb1⟩
   ·exact absurd rfl (no _ hq)
   rw[x2l hl hq r hr hf] at hb1;refine⟨_,rfl,q2l hb1 (s2 _ _ (s1 _ _ g3)) okq.low okq.low ⟨_,rfl,?_⟩⟩;rw[decide_eq_true rfl];have:=k H2 (s1.trans s2);rw[decide_eq_true rfl] at this;exact iteT this
structure CallsRs (P:Program) (w:World) (K:Ag) (mg:Str->Option Value) (base:Heap) (c:Addr):Prop where
 read_book:Cal P w K mg base "read_book" 5 ["text"] spRdBook
 is_made_without_line:Cal P w K mg base "is_made_without_line" 4 ["hall", "row", "done"] (spMwl c)
def dnN(l n:Nat):Nat:=(n-(l+1)) / 2
structure HB (c:Addr) (H:Hp) (h d:Addr) (bl:Bool) (R0 rows:List Rw) (ms:List Mv) (n:Nat) (p:List Nat):Prop where
 ha:HallAt c H h d bl rows
 pm:rows.Perm (wk R0 (ms.take (md ms.length n)))
 ok:WkOk bl R0 ms
 l60:R0.length<=60
 few:ms.length<=100
 ge:ms.length+1<=n
 le:n<=3*ms.length+1
 nl:(10:Nat)∉p
 pl:p.length<=1000
theorem HB.same{c:Addr}{H H':Hp}{h d:Addr}{bl:Bool}{R0 rows:List Rw}{ms:List Mv}{n:Nat}{p:List Nat}(x:HB c H h d bl R0 rows ms n p)(s:Same H H'):HB c H' h d bl R0 rows ms n p:=⟨x.ha.same s,x.pm,x.ok,x.l60,x.few,x.ge,x.le,x.nl,x.pl⟩
def spRdStop(c:Addr):Sp:=fun vs H Q _=>∃h d bl R0 rows ms n p,vs=[.ref h,.str (mk (bkN ms n++p))]/\HB c H h d bl R0 rows ms n p/\∀T L zs H',H L=none->Same H H'->ML H' L zs->zs.map (·.2)=ms->H' T=some (.tup [.ref L,.int ((dnN ms.length n:Nat):Int),.int ((md ms.length n:Nat):Int)])->Q (.ref T) H'
abbrev q3h:Stmt:=top 34
theorem sc_read_stop:FnScope ["hall", "text", "row", "done"] ["hall", "text"] (defScope q3h):=by trivial
theorem z0z{c:Addr}(D:Df K mg "read_stop" q3h ["hall", "text"])(T:Txt mg)(C:CallsRs P w K mg base c):Cal P w K mg base "read_stop" 6 ["hall", "text"] (spRdStop c):=by
 refine D.cal sc_read_stop (fun vs H Q E h=>?_) (fun f cdv A outer s H vs Q E hr h=>?_)
 ·obtain⟨h,d,bl,R0,rows,ms,n,p,rfl,_⟩:=h;rfl
 ·obtain⟨h,d,bl,R0,rows,ms,n,p,rfl,hb,k⟩:=h;refine⟨_,(q0c (q2s (pe_c C.read_book hr (q0a (pv 1) q0d)) (@q1u _ _ _ _ (2) _ K rfl rfl (q0j (q0h (i:=2) sc_read_stop.nd rfl (by trivial)) (q0j (q0h (i:=3) sc_read_stop.nd rfl (by trivial)) q1e)) (by rfl) (by rfl))) (q0c (q1j (@q4m _ _ _ K rfl (pe_c C.is_made_without_line hr (q0a (pv 0) (q0a (pv 2) (q0a (pv 3) q0d)))) (fun _=>rfl)) (q0f (q0k (q1z (q0a (pv 2) (q0a (pv 3) (q0a (q0p q0q (pv 3) q0g) q0d)))))) q0n) (q0f (q0k (q1z (q0a (pv 2) (q0a (pv 3) (q0a (pv 3) q0d)))))))),?_⟩;have few:=hb.few;have ge:=hb.ge;have le:=hb.le;have okm:okMs ms:=q5h hb.ok;have w1:wr ms.length n=ms.length+1+dnN ms.length n:=by unfold wr dnN;lia
  have w2:wr ms.length n-ms.length-1=dnN ms.length n:=by lia
  have kj:md ms.length n=dnN ms.length n\/md ms.length n=dnN ms.length n+1:=by unfold md dnN;lia
  have jl:md ms.length n<=ms.length:=by unfold md;lia
  have dl:dnN ms.length n<=ms.length:=by unfold dnN;lia
  refine⟨_,rfl,ms,wr ms.length n,p,rfl,okm,few,by lia,by lia,hb.nl,hb.pl,fun T1 L zs H1 hL s1 ml ez hT1=>?_⟩;rw[w2] at hT1;refine⟨T1,_,rfl,SqT.of hT1,rfl,_,_,rfl,_,_,rfl,rfl,?_⟩;have st1:StopAt c H1 h d bl R0 rows (zs.map (·.2)) (dnN ms.length n) (md ms.length n):=⟨hb.ha.same s1,by rw[ez];exact hb.pm,by rw[ez];exact hb.ok,hb.l60,kj,by rw[ez];exact jl⟩
  refine⟨_,rfl,_,rfl,_,rfl,h,d,L,bl,R0,rows,zs,dnN ms.length n,md ms.length n,rfl,st1,ml,fun H2 s2=>⟨_,rfl,?_⟩⟩;refine iteB (fun hd=>?_) (fun hd=>?_)
  ·have hd:=of_decide_eq_true hd;refine⟨_,rfl,_,rfl,_,rfl,.inl ⟨_,_,rfl,rfl,by show 3<=sizeLine;decide,fun T2 hT2=>?_⟩⟩;have s3:=(Same.refl H2).new (o:=.tup [.ref L,.int ((dnN ms.length n:Nat):Int),.int (((dnN ms.length n:Nat):Int)+1)]) hT2;refine k T2 L zs _ hL ((s1.trans s2).trans s3) ((ml.same s2).same s3) ez ?_;rw[q0b,hd];rfl
  ·have hd:=of_decide_eq_false hd;refine⟨_,rfl,_,rfl,_,rfl,by show 3<=sizeLine;decide,fun T2 hT2=>?_⟩;have s3:=(Same.refl H2).new (o:=.tup [.ref L,.int ((dnN ms.length n:Nat):Int),.int ((dnN ms.length n:Nat):Int)]) hT2;refine k T2 L zs _ hL ((s1.trans s2).trans s3) ((ml.same s2).same s3) ez ?_;rw[q0b,show md ms.length n=dnN ms.length n from by lia]
structure CallsAr (P:Program) (w:World) (K:Ag) (mg:Str->Option Value) (base:Heap) (c:Addr):Prop where
 walk:Cal P w K mg base "walk" 7 ["hall", "row"] (spWalk c)
def spAskRest(c:Addr):Sp:=fun vs H Q _=>∃h d L bl rows zs j,vs=[.ref h,.ref L,.int ((j:Nat):Int)]/\HallAt c H h d bl rows/\rows.length<=60/\ML H L zs/\j<=zs.length/\WkOk bl rows ((zs.map (·.2)).drop j)/\∀H',Same H H'->Q .non H'
theorem z8s(xs:List V)(n:Nat)(h:n<=xs.length):cutV xs (some (n:Int)) none=xs.drop n:=by
 have e1:HT.sIx xs.length 0 (some (n:Int))=n:=by
  show(if (n:Int)<0 then((n:Int)+(xs.length:Int)).toNat else min ((n:Int)).toNat xs.length)=_;rw[if_neg (by lia)];lia
 have e2:HT.sIx xs.length xs.length none=xs.length:=rfl;unfold cutV;rw[e1,e2];exact Cd (by rw[Cw];exact Ak _)
abbrev q4d:Stmt:=top 35
theorem z2g:FnScope ["hall", "row", "made", "refusal"] ["hall", "row", "made"] (defScope q4d):=by trivial
theorem z2h{c:Addr}(D:Df K mg "ask_rest" q4d ["hall", "row", "made"])(T:Txt mg)(C:CallsAr P w K mg base c):Cal P w K mg base "ask_rest" 8 ["hall", "row", "made"] (spAskRest c):=by
 refine D.cal z2g (fun vs H Q E h=>?_) (fun f cdv A outer s H vs Q E hr h=>?_)
 ·obtain⟨h,d,L,bl,rows,zs,j,rfl,_⟩:=h;rfl
 ·obtain⟨h,d,L,bl,rows,zs,j,rfl,hh,h60,ml,jl,ok,k⟩:=h;refine⟨_,(q0f (z7f rfl (q0f (q1d (pe_c C.walk hr (q0a (pv 0) (q0a (q0r (sl_k K rfl) (pv 1) (q0t (pv 2)) q0w) q0d))))))),?_⟩;refine⟨_,rfl,_,rfl,_,rfl,_,rfl,.inr (.inl ⟨L,_,rfl,SqL.of ml.at_,fun L3 hL3=>?_⟩)⟩;rw[z8s _ _ (by rw[Aa];exact jl)];have ml3:=ml.cut hL3 j;have s3:=(Same.refl H).new (o:=.lst ((zs.map fun z=>V.ref z.1).drop j)) hL3;generalize upd H L3 (.lst ((zs.map fun z=>V.ref z.1).drop j))=H3 at ml3 s3;exact⟨h,d,L3,bl,rows,zs.drop j,rfl,hh.same s3,h60,ml3,by rw[Pw];exact ok,fun h1 d1 rows1 H4 s4 _ hall1 pm1=>k H4 (s3.trans s4)⟩
structure CallsAg (P:Program) (w:World) (K:Ag) (mg:Str->Option Value) (base:Heap) (c cD:Addr):Prop where
 read_stop:Cal P w K mg base "read_stop" 6 ["hall", "text"] (spRdStop c)
 ask_rest:Cal P w K mg base "ask_rest" 8 ["hall", "row", "made"] (spAskRest c)
 k_Doer:KCal0 P w K mg base cD "Doer" 8 ["self", "hall", "row"] (spDInit c cD)
def spAgain(c cD:Addr):Sp:=fun vs H Q _=>∃h d bl R0 rows ms n p,vs=[.ref h,.str (mk (bkN ms n++p))]/\HB c H h d bl R0 rows ms n p/\∀x h' d' L zs H',H x=none->H h'=none->H L=none->Same H H'->DoAt c cD H' x h' d' L bl R0 zs n->zs.map (·.2)=ms->Q (.ref x) H'
abbrev q2f:Stmt:=top 36
theorem sc_begun_again:FnScope ["hall", "text", "row", "done", "made", "doer"] ["hall", "text"] (defScope q2f):=by trivial
theorem x1h{c cD:Addr}(D:Df K mg "begun_again" q2f ["hall", "text"])(dk:Dk K cD)(T:Txt mg)(C:CallsAg P w K mg base c cD):Cal P w K mg base "begun_again" 10 ["hall", "text"] (spAgain c cD):=by
 refine D.cal sc_begun_again (fun vs H Q E h=>?_) (fun f cdv A outer s H vs Q E hr h=>?_)
 ·obtain⟨h,d,bl,R0,rows,ms,n,p,rfl,_⟩:=h;rfl
 ·obtain⟨h,d,bl,R0,rows,ms,n,p,rfl,hb,k⟩:=h;refine⟨_,(q0c (q2s (pe_c C.read_stop hr (q0a (pv 0) (q0a (pv 1) q0d))) (@q1u _ _ _ _ (3) _ K rfl rfl (q0j (q0h (i:=2) sc_begun_again.nd rfl (by trivial)) (q0j (q0h (i:=3) sc_begun_again.nd rfl (by trivial)) (q0j (q0h (i:=4) sc_begun_again.nd rfl (by trivial)) q1e))) (by rfl) (by rfl))) (q0c (q1d (pe_c C.ask_rest hr (q0a (pv 0) (q0a (pv 2) (q0a (pv 4) q0d))))) (q0c (q0o (i:=5) sc_begun_again.nd rfl (by trivial) (x3s C.k_Doer hr (q0a (pv 0) (q0a (q6g q0d) q0d)))) (q0c (@q5p _ _ _ _ _ _ _ _ K rfl (pv 5) (pv 2) (by rfl)) (q0c (@q5p _ _ _ _ _ _ _ _ K rfl (pv 5) (q0p q0q (q0p q0q (q0p q0q (q0i (q1v K rfl) (by rfl) T.b_len Bk (q0a (pv 2) q0d)) q0g) (pv 4)) (pv 3)) (by rfl)) (q0f (q0k (pv 5)))))))),?_⟩;have few:=hb.few;have ge:=hb.ge;have le:=hb.le;have jl:md ms.length n<=ms.length:=by unfold md;lia
  have rl:rows.length<=60:=by rw[hb.pm.length_eq,q8f];exact hb.l60
  refine⟨_,rfl,_,rfl,h,d,bl,R0,rows,ms,n,p,rfl,hb,fun T1 L zs H1 hL s1 ml ez hT1=>?_⟩;have hzl:zs.length=ms.length:=by have:=congrArg List.length ez;rw[Aa] at this;exact this
  refine⟨T1,_,rfl,SqT.of hT1,rfl,_,_,rfl,_,_,rfl,_,_,rfl,rfl,?_⟩;have hb1:=hb.same s1;refine⟨_,rfl,_,rfl,_,rfl,h,d,L,bl,rows,zs,md ms.length n,rfl,hb1.ha,rl,ml,by lia,by rw[ez];exact(hb.ok.take _).2.perm hb.pm,fun H2 s2=>?_⟩;have hb2:=hb1.same s2;have ml2:=ml.same s2;refine⟨_,rfl,by show 0<=sizeLine;decide,fun E0 hE0=>?_⟩;have s3:=(Same.refl H2).new (o:=.lst []) hE0;have h3:ML (upd H2 E0 (.lst [])) E0 []:=ML.nil q0b;generalize upd H2 E0 (.lst [])=H3 at s3 h3;intro x dx hx hdx nx;have sx:Same H3 (upd (upd H3 dx (.own x)) x (.ins cD dx [])):=fun y u e=>by
   rw[q0e (fun z=>by rw[z,hx] at e;cases e),q0e (fun z=>by rw[z,hdx] at e;cases e)];exact e
  have s23:=s2.trans s3;have s123:=s1.trans s23;refine⟨x,dx,h,d,E0,bl,rows,[],rfl,q0b,((hb1.same s23).same sx).ha,rl,h3.same sx,(hb.ok.take (md ms.length n)).1.fin.perm hb.pm,by show 0<=100;decide,fun h' d' L' H4 hh' hL' kp da=>⟨rfl,?_⟩⟩;have s4:Same H3 H4:=fun y u e=>kp y u (fun z=>by rw[z,hx] at e;cases e) (sx _ _ e);obtain⟨dx4,hx4⟩:=da.i;obtain⟨rows4,hh4,pm4⟩:=da.ha;obtain⟨dh4,hi4⟩:=hh4.i;have ml4:=(ml2.same s3).same s4;refine⟨_,rfl,_,rfl,x,cD,dx4,_,rfl,hx4,dk.cl,dk.m,by show 3<1000;decide,?_⟩;have hLx:L≠x:=fun z=>by have:=ml4.at_;rw[z,hx4] at this;cases this
  have hhx:h'≠x:=fun z=>by rw[z,hx4] at hi4;cases hi4
  have hdx4:d'≠x:=fun z=>by have:=hh4.d;rw[z,hx4] at this;cases this
  refine⟨_,rfl,_,_,rfl,.inl ⟨_,SqL.of (by rw[q0e hLx];exact ml4.at_),rfl⟩,.inl ⟨_,_,rfl,rfl,_,rfl,.inl ⟨_,_,rfl,rfl,_,rfl,.inl ⟨_,_,rfl,rfl,?_⟩⟩⟩⟩;refine⟨_,rfl,x,cD,dx4,_,rfl,q0b,dk.cl,dk.s,by show 3<1000;decide,_,rfl,?_⟩;have es:(((zs.map fun z=>V.ref z.1).length:Nat):Int)+1+((md ms.length n:Nat):Int)+((dnN ms.length n:Nat):Int)=(n:Int):=by
   rw[Aa,hzl];have:ms.length+1+md ms.length n+dnN ms.length n=n:=by unfold md dnN;lia
   lia
  have kx:∀{y:Addr} {u:HO},y≠x->H4 y=some u->upd (upd H4 x (.ins cD dx4 (putF ("moves" : Str) (.ref L) (dF h' L' 0)))) x (.ins cD dx4 (putF ("steps" : Str) (.int ((((zs.map fun z=>V.ref z.1).length:Nat):Int)+1+((md ms.length n:Nat):Int)+((dnN ms.length n:Nat):Int))) (putF ("moves" : Str) (.ref L) (dF h' L' 0)))) y=some u:=fun{y u} n e=>by rw[q0e n,q0e n];exact e
  have nf:∀{y:Addr},H3 y=none->H y=none:=fun{y} e=>s123.free e;refine k x h' d' L zs _ (nf hx) (nf (sx.free hh')) hL (fun y u e=>kx (fun z=>by rw[z,nf hx] at e;cases e) (s4 _ _ (s123 _ _ e))) ⟨⟨dx4,?_⟩,⟨rows4,⟨⟨dh4,kx hhx hi4⟩,kx hdx4 hh4.d⟩,?_⟩,⟨kx hLx ml4.at_,fun z hz=>(ml4.pr z hz).keep fun T' xs e=>kx (fun y=>by rw[y,hx4] at e;cases e) e⟩,by rw[ez];exact hb.ok,hb.l60,by lia,by lia⟩ ez
  ·rw[q0b,es];rfl
  ·rw[ez,hzl];exact pm4.trans hb.pm
structure CallsWb (P:Program) (w:World) (K:Ag) (mg:Str->Option Value) (base:Heap) (c cD:Addr):Prop where
 read_stop:Cal P w K mg base "read_stop" 6 ["hall", "text"] (spRdStop c)
 turned_back:Cal P w K mg base "turned_back" 1 ["row"] spTurned
 k_Doer:KCal0 P w K mg base cD "Doer" 8 ["self", "hall", "row"] (spDInit c cD)
def spWayBack(c cD:Addr):Sp:=fun vs H Q _=>∃h d bl R0 rows ms n p,vs=[.ref h,.str (mk (bkN ms n++p))]/\HB c H h d bl R0 rows ms n p/\∀x h' d' L zs H',H x=none->H h'=none->H L=none->Same H H'->DoAt c cD H' x h' d' L bl rows zs 0->zs.map (·.2)=tb (ms.take (md ms.length n))->Q (.ref x) H'
abbrev q4e:Stmt:=top 37
theorem sc_way_back:FnScope ["hall", "text", "row", "done", "made"] ["hall", "text"] (defScope q4e):=by trivial
theorem z2i{c cD:Addr}(D:Df K mg "way_back" q4e ["hall", "text"])(T:Txt mg)(C:CallsWb P w K mg base c cD):Cal P w K mg base "way_back" 10 ["hall", "text"] (spWayBack c cD):=by
 refine D.cal sc_way_back (fun vs H Q E h=>?_) (fun f cdv A outer s H vs Q E hr h=>?_)
 ·obtain⟨h,d,bl,R0,rows,ms,n,p,rfl,_⟩:=h;rfl
 ·obtain⟨h,d,bl,R0,rows,ms,n,p,rfl,hb,k⟩:=h;refine⟨_,(q0c (q2s (pe_c C.read_stop hr (q0a (pv 0) (q0a (pv 1) q0d))) (@q1u _ _ _ _ (3) _ K rfl rfl (q0j (q0h (i:=2) sc_way_back.nd rfl (by trivial)) (q0j (q0h (i:=3) sc_way_back.nd rfl (by trivial)) (q0j (q0h (i:=4) sc_way_back.nd rfl (by trivial)) q1e))) (by rfl) (by rfl))) (q0f (q0k (x3s C.k_Doer hr (q0a (pv 0) (q0a (pe_c C.turned_back hr (q0a (q0r (sl_k K rfl) (pv 2) q0w (q0t (pv 4))) q0d)) q0d)))))),?_⟩;have few:=hb.few;have rl:rows.length<=60:=by rw[hb.pm.length_eq,q8f];exact hb.l60
  refine⟨_,rfl,_,rfl,h,d,bl,R0,rows,ms,n,p,rfl,hb,fun T1 L zs H1 hL s1 ml ez hT1=>?_⟩;have hzl:zs.length=ms.length:=by have:=congrArg List.length ez;rw[Aa] at this;exact this
  refine⟨T1,_,rfl,SqT.of hT1,rfl,_,_,rfl,_,_,rfl,_,_,rfl,rfl,?_⟩;refine⟨_,rfl,_,rfl,_,rfl,_,rfl,.inr (.inl ⟨L,_,rfl,SqL.of ml.at_,fun L3 hL3=>?_⟩)⟩;rw[q2m];have ml3:=ml.pre hL3 (md ms.length n);have s3:=(Same.refl H1).new (o:=.lst ((zs.map fun z=>V.ref z.1).take (md ms.length n))) hL3;generalize upd H1 L3 (.lst ((zs.map fun z=>V.ref z.1).take (md ms.length n)))=H3 at ml3 s3;refine⟨L3,zs.take (md ms.length n),rfl,ml3,by rw[An];lia,fun L4 zs4 H4 hL4 s4 ml4 e4=>?_⟩;rw[Cp,ez] at e4;intro x dx hx hdx nx;have sx:Same H4 (upd (upd H4 dx (.own x)) x (.ins cD dx [])):=fun y u e=>by
   rw[q0e (fun z=>by rw[z,hx] at e;cases e),q0e (fun z=>by rw[z,hdx] at e;cases e)];exact e
  have s14:=s1.trans (s3.trans s4);have l4:zs4.length<=100:=by
   have:=congrArg List.length e4;rw[Aa] at this;unfold tb at this;rw[Aa,Qb,An] at this;lia
  have okb:WkOk bl rows (zs4.map (·.2)):=by rw[e4];exact(hb.ok.take _).1.back.perm hb.pm
  refine⟨x,dx,h,d,L4,bl,rows,zs4,rfl,q0b,((hb.same s14).same sx).ha,rl,ml4.same sx,okb,l4,fun h' d' L' H5 hh' hL' kp da=>⟨rfl,?_⟩⟩;have s5:Same H4 H5:=fun y u e=>kp y u (fun z=>by rw[z,hx] at e;cases e) (sx _ _ e);exact k x h' d' L' zs4 H5 (s14.free hx) (s14.free (sx.free hh')) (s14.free (sx.free hL')) (s14.trans s5) da e4
theorem jn12:∀{p:Pth},p≠[]->(∀n∈p,n.length=12)->(jn p).length+1=13*p.length
 |[],h,_=>absurd rfl h
 |[a],_,l=>by
  have:=l a Aj;show a.length+1=13*1;lia
 |a::b::r,_,l=>by
  have ih:=jn12 (p:=b::r) (by simp) (fun n hn=>l n (Ah _ hn));have:=l a Aj;have e:(jn (a::b::r)).length=a.length+((jn (b::r)).length+1):=by
   show(a++_::jn (b::r)).length=_;rw[Af,Bf]
  rw[e,Bf];rw[Bf] at ih ⊢;lia
theorem mvT12{fr ns:List (List Nat)}{k:Nat}(h:k<ns.length)(l:∀n∈ns,n.length=12)(lf:(fr.getD k []).length=12):(mvT (spot ns k,plc ns k (fr.getD k []))).length+1=26*(min k 5+1)+5:=by
 have e1:=jn12 (p:=spot ns k) q5f (fun n hn=>by
  unfold spot at hn;rcases Ay.mp hn with hn|hn
  ·exact l n (Bc hn)
  ·rw[Az.mp hn];exact l _ (x2d h))
 have e2:=jn12 (p:=plc ns k (fr.getD k [])) (by unfold plc;simp) (fun n hn=>by
  unfold plc at hn;rcases Ay.mp hn with hn|hn
  ·exact l n (Bc hn)
  ·rw[Az.mp hn];exact lf)
 rw[q3t h] at e1;have l2:(plc ns k (fr.getD k [])).length=min k 5+1:=by unfold plc;rw[Af,An];simp;lia
 rw[l2] at e2;unfold mvT;rw[Af,q4b,Af,Bf];show 5+((jn (spot ns k)).length+((jn (plc ns k (fr.getD k []))).length+1))+1=_;lia
theorem z8t(a b:List (List Nat)):bkT (a++b)=bkT a++bkT b:=by unfold bkT;rw[Al,List.flatten_append]
theorem z8u{fr:List (List Nat)}:∀{o:List Nat} {ns:List (List Nat)},(∀k∈o,k<ns.length)->(∀n∈ns,n.length=12)->(∀k∈o,(fr.getD k []).length=12)->(bkT ((mvs fr ns o).map mvT)).length=(o.map fun k=>26*(min k 5+1)+5).sum
 |[],_,_,_,_=>rfl
 |k::r,ns,lt,l,lf=>by
  have hk:=lt k Aj;have ih:=z8u (fr:=fr) (o:=r) (ns:=ns.set k (fr.getD k [])) (fun j hj=>by rw[Ff];exact lt j (Ah _ hj)) (fun n hn=>by
   rcases Mq hn with hn|rfl
   ·exact l n hn
   ·exact lf k Aj) (fun j hj=>lf j (Ah _ hj))
  have e:=mvT12 (fr:=fr) hk l (lf k Aj);rw[Ao,Md,<- ih,<- e];show(bkT (mvT _::(mvs fr (ns.set k (fr.getD k [])) r).map mvT)).length=_;unfold bkT;rw[Ao,Js,Af,Af];rfl
theorem sum60:((List.range 60).map fun k=>26*(min k 5+1)+5).sum=9270:=by decide +kernel
theorem x4n{fr ns:List (List Nat)}{o:List Nat}{n:Nat}(pm:o.Perm (List.range 60))(hl:ns.length=60)(l:∀n∈ns,n.length=12)(lf:∀k,k<60->(fr.getD k []).length=12)(hn:60<=n):9270<=(bkN (mvs fr ns o) n).length:=by
 have lt:∀k∈o,k<60:=fun k hk=>Dc.mp (pm.mem_iff.mp hk);have e:=z8u (fr:=fr) (o:=o) (ns:=ns) (fun k hk=>by rw[hl];exact lt k hk) l (fun k hk=>lf k (lt k hk));rw[(pm.map _).sum_nat,sum60] at e;have ol:(mvs fr ns o).length=60:=by rw[q7f,pm.length_eq,De]
 unfold bkN lnsB;have w60:(mvs fr ns o).length<=wr (mvs fr ns o).length n:=by rw[ol];unfold wr;lia
 rw[List.take_append,Cd (by rw[Aa];exact w60),z8t,Af,e];lia
theorem x1i{l:List Nat}{i:Nat}(h:i<=l.length):PySem.Txt.slice (mk l) (some (i:Int)) (some (-1))=mk ((l.drop i).dropLast):=by
 by_cases h0:l=[]
 ·subst h0;have:i=0:=by simpa using h
  subst this;decide +kernel
 have hl:=Bs.mpr h0;have ei:Dz (some (i:Int)) (some (-1)) 1 l.length=Dz (some (i:Int)) (some (((l.length-1:Nat)):Int)) 1 l.length:=by
  have a:¬(((l.length-1:Nat):Int)<0):=by lia
  have b:(-1:Int)+(l.length:Int)=((l.length-1:Nat):Int):=by lia
  simp only[Dz,if_neg a,if_pos (show(-1:Int)<0 from by decide),b]
 have e:Dv (mk l) (some (i:Int)) (some (-1))=Dv (mk l) (some (i:Int)) (some (((l.length-1:Nat)):Int)):=by
  unfold Dv;rw[q0l,ei]
 show Dv (mk l) (some (i:Int)) (some (-1))=_;rw[e];by_cases hi:i<=l.length-1
 ·have e2:Dv (mk l) (some (i:Int)) (some (((l.length-1:Nat)):Int))=mk ((l.drop i).take (l.length-1-i)):=by
   rw[StrLaws.sliceText_plain ⟨by lia,by lia,by rw[show((mk l).cps.toList).length=l.length from congrArg List.length (q0z l)];lia⟩];have e1:((i:Nat):Int).toNat=i:=by lia
   have e2:(((l.length-1:Nat):Int)-((i:Nat):Int)).toNat=l.length-1-i:=by lia
   show mk (((mk l).cps.toList.drop ((i:Nat):Int).toNat).take (((l.length-1:Nat):Int)-((i:Nat):Int)).toNat)=_;rw[show(mk l).cps.toList=l from q0z l,e1,e2]
  rw[e2,Fi,Cw,show l.length-1-i=l.length-i-1 from by lia]
 ·have hi:i=l.length:=by lia
  subst hi;have er:Dz (some (l.length:Int)) (some (((l.length-1:Nat)):Int)) 1 l.length=[]:=by
   have a:¬(((l.length-1:Nat):Int)<0):=by lia
   have b:¬((l.length:Int)<0):=by lia
   have c:max (0:Int) (min (l.length:Int) (l.length:Int))=(l.length:Int):=by lia
   have d:max (0:Int) (min ((l.length-1:Nat):Int) (l.length:Int))=((l.length-1:Nat):Int):=by lia
   have f:¬((l.length:Int)<((l.length-1:Nat):Int)):=by lia
   simp only[Dz,if_neg a,if_neg b,if_pos (show(1:Int)>0 from by decide),c,d,Sw,if_neg f];rfl
  unfold Dv;rw[q0l,er,Se];rw[if_neg]
  ·rfl
  ·intro z;have z2:((([]:List Nat).length==l.length))=true:=by simpa using z
   have:=beq_iff_eq.mp z2;rw[Dx] at this;lia
theorem x4o(ms:List Mv)(n:Nat):∃e,bkN ms (n+1)=bkN ms n++e/\(e=[]\/∃l∈lnsB ms,e=l++[10]):=by
 have hw:wr ms.length (n+1)=wr ms.length n\/wr ms.length (n+1)=wr ms.length n+1:=by unfold wr;lia
 unfold bkN;rcases hw with e|e
 ·exact⟨[],by rw[e,Bv],.inl rfl⟩
 ·rw[e,Bm];cases hl:(lnsB ms)[wr ms.length n]? with
  |none=>exact⟨[],by show bkT (_++[])=_;rw[Bv,Bv],.inl rfl⟩
  |some l =>
   refine⟨l++[10],?_,.inr ⟨l,Aq hl,rfl⟩⟩;rw[z8t];show _++((l++[10])++[])=_;rw[Bv]
theorem z8v{ms:List Mv}(h:okMs ms)(hl:ms.length<=100)(n:Nat):(bkN ms n).length<=50000:=by
 have:=z2f (M:=200) (ls:=(lnsB ms).take (wr ms.length n)) fun x hx=>q4t h (by lia) x (Bc hx);have h2:((lnsB ms).take (wr ms.length n)).length<=201:=by rw[An,q5y];lia
 unfold bkN;lia
theorem x4p:∀n,n<1000->(dg (1000+n)).drop 1=dg3 n:=by decide +kernel
def spLong:Sp:=fun vs H Q _=>∃a b,∃i n:Nat,vs=[.ref a,.int (i:Int),.int (n:Int)]/\FeedAt H a b/\i<=9/\n<1000/\∀(t:List Nat) H',t.length=9->(∀c∈t,c∈NS)->Fd a b H H'->Q (.str (mk (nam i t n))) H'
abbrev q3i:Stmt:=top 44
theorem sc_long_name:FnScope ["_law_feed", "_law_at", "_law_number", "_law_signs", "_law_text"] ["_law_feed", "_law_at", "_law_number"] (defScope q3i):=by trivial
theorem z1a(D:Df K mg "_law_long_name" q3i ["_law_feed", "_law_at", "_law_number"])(T:Txt mg)(C:Calls P w K mg base):Cal P w K mg base "_law_long_name" 2 ["_law_feed", "_law_at", "_law_number"] spLong:=by
 refine D.cal sc_long_name (fun vs H Q E h=>?_) (fun f cdv A outer s H vs Q E hr h=>?_)
 ·obtain⟨a,b,i,n,rfl,_⟩:=h;rfl
 ·obtain⟨a,b,i,n,rfl,F,hi,hn,k⟩:=h;refine⟨_,(q0c (q0o (i:=3) sc_long_name.nd rfl (by trivial) q1l) (q0c (q0o (i:=4) sc_long_name.nd rfl (by trivial) (@bm_k _ _ _ _ _ _ _ _ _ _ _ _ K rfl Cf Hh Hi (z2w K rfl) q1l (q0a (q1o ["_law_k"] [("_law_signs",3),("_law_feed",0)] rfl (q1y rfl T.b_range (q0a q0g q0d)) (fun _ _ _ _ _=>(q0h (i:=0) (show(["_law_k", "_law_signs", "_law_feed"]:List Str).Nodup by decide +kernel) rfl (by trivial))) (fun _ _ _ _ _=>q1f) (fun _ _ _ _ _=>(q1m (ix_k K rfl) (pv 1) (pe_c C.draw hr (q0a (pv 2) (q0a (q0i (q1v K rfl) (by rfl) T.b_len Bk (q0a (pv 1) q0d)) q0d))) (fun _ _=>rfl)))) q0d) (by rfl) (by rfl) (by rfl) (by rfl) (by rfl))) (q0f (q0k (q0p q0q (q0p q0q (q0r (sl_k K rfl) (pv 4) q0w (q0t (pv 1))) (q0r (sl_k K rfl) (q0y q9w (by rfl) T.b_str (by decide +kernel) (q0a (q0p q0q q0g (pv 2)) q0d)) (q0t q0g) q0w)) (q0r (sl_k K rfl) (pv 4) (q0t (pv 1)) q0w)))))),?_⟩;have hg0:(Ad "abcdefghijklmnopqrstuvwxyzABCDEFGHIJKLMNOPQRSTUVWXYZ0123456789-_.").length=65:=by decide +kernel
  generalize hg:Ad "abcdefghijklmnopqrstuvwxyzABCDEFGHIJKLMNOPQRSTUVWXYZ0123456789-_." = g at hg0;have hgn:∀c∈tl g,c∈NS:=by rw[<- hg];exact fun c hc=>hc
  refine⟨rfl,9,rfl,by decide,by decide,fun D hD=>?_⟩;refine q2n (n:=9) (fun i ys H2=>∃cs:List Nat,ys=cs.map (fun c=>V.str ⟨#[c]⟩)/\cs.length=i/\i<=9/\(∀c∈cs,c∈tl g)/\Fd a b H H2/\H2 D=some (.lst ys)) ⟨[],rfl,rfl,Br _,fun _ h=>(nomatch h),(Fd.refl F).new hD,q0b⟩ (fun i ys H' ⟨cs,_,_,_,_,_,h⟩=>h) ?_ ?_
  ·rintro i ys H2 hi ⟨cs,rfl,hl,_,hc,fd2,hHD⟩;refine⟨_,rfl,_,rfl,_,rfl,_,_,rfl,⟨small (by lia),rfl⟩,a,b,_,rfl,fd2.feed,by lia,by lia,fun r H3 r0 r1 fd3=>?_⟩;have hl2:(tl g).length=g.length:=(len g).symm;obtain⟨c,hc1,hc2⟩:=z5z (xs:=tl g) r0 (by lia);refine .inr (.inr ⟨g,r,c,rfl,rfl,small (by lia),hc2,?_⟩);have hDa:D≠a:=fun z=>by subst z;exact F.na hD rfl
   refine⟨fd3.at hHD hDa,small' (by rw[Aa];lia),cs++[c],by rw[Al];rfl,by rw[Af,hl];rfl,by lia,fun d hd=>?_,(fd2.trans fd3).put F hD,q0b⟩;rcases Ay.mp hd with z|z
   ·exact hc d z
   ·rw[Az.mp z];exact Aq hc1
  ·rintro ys H2 ⟨cs,rfl,hl,_,hc,fd2,hHD⟩;have e:cs.map (fun c=>V.str ⟨#[c]⟩)=(cs.map fun c=>(⟨#[c]⟩:Str)).map V.str:=by rw[Bd];rfl
   refine⟨_,D,cs.map fun c=>⟨#[c]⟩,rfl,rfl,.inl (SqL.of (by rw[<- e];exact hHD)),?_,?_⟩
   ·rw[z9u,Aa];have:(Ad "").length=0:=by decide +kernel
    rw[this,hl];exact small (by lia)
   ·rw[show PySem.Txt.join (Ad "") (cs.map fun c=>(⟨#[c]⟩:Str))=mk cs from z6d cs];have l4:(dg (1000+n)).length<=4:=z6n 3 _ (by lia);refine⟨_,rfl,_,rfl,_,rfl,.inl ⟨_,rfl,small (by rw[q0l];lia),?_⟩⟩;rw[z2x (x:=mk cs) (by lia) (by rw[q0z];lia),q0z,Bu];refine⟨_,rfl,.inl ⟨_,_,rfl,rfl,1000+n,rfl,by lia,?_⟩⟩;rw[z9y];refine⟨1,rfl,.inl ⟨_,rfl,small (by rw[q0l];lia),?_⟩⟩;rw[q7w (x:=mk (dg (1000+n))) (by decide) (by rw[q0z];have:=dg_pos (1000+n);lia),q0z,show(1:Int).toNat=1 from rfl,x4p n hn];refine .inr (.inl ⟨_,_,rfl,rfl,small (by rw[q0l,q0l,An];show _+3<=_;lia),?_⟩);rw[q1r];refine⟨_,rfl,_,rfl,_,rfl,.inl ⟨_,rfl,small (by rw[q0l];lia),?_⟩⟩;rw[q7w (x:=mk cs) (by lia) (by rw[q0z];lia),q0z,Bu];refine .inr (.inl ⟨_,_,rfl,rfl,small (by rw[q0l,q0l,Af,An,Cw];show _+3+_<=_;lia),?_⟩);rw[q1r];exact k cs H2 (by lia) (fun c hc'=>hgn c (hc c hc')) fd2
def spSpot:Sp:=fun vs H Q _=>∃N ns,∃k:Nat,vs=[.ref N,.int (k:Int)]/\H N=some (.lst (vP ns))/\k<ns.length/\ns.length<=60/\∀p H',Same H H'->H' p=some (.tup (vP (spot ns k)))->Q (.ref p) H'
theorem z8w(ns:Pth)(n:Nat):cutV (vP ns) none (some (n:Int))=vP (ns.take n):=by
 rw[x2c]
abbrev q5j:Stmt:=top 45
theorem z4w:FnScope ["_law_names", "_law_k"] ["_law_names", "_law_k"] (defScope q5j):=by trivial
theorem z4x(D:Df K mg "_law_spot_of" q5j ["_law_names", "_law_k"])(T:Txt mg):Cal P w K mg base "_law_spot_of" 1 ["_law_names", "_law_k"] spSpot:=by
 refine D.cal z4w (fun vs H Q E h=>?_) (fun f cdv A outer s H vs Q E hr h=>?_)
 ·obtain⟨N,ns,k,rfl,_⟩:=h;rfl
 ·obtain⟨N,ns,k,rfl,hN,hk,h60,kk⟩:=h;refine⟨_,(q0f (q0k (q0p z1p (q0y (z6a K rfl) (by rfl) T.b_tuple (by decide +kernel) (q0a (q0r (sl_k K rfl) (pv 0) q0w (q0t (q0i (q6c rfl) (by rfl) T.b_min (by decide +kernel) (q0a (pv 1) (q0a q0g q0d))))) q0d)) (q1z (q0a (q1m (ix_k K rfl) (pv 0) (pv 1) (fun _ _=>rfl)) q0d))))),?_⟩;refine⟨_,rfl,_,rfl,_,_,rfl,_,rfl,.inr (.inl ⟨N,_,rfl,SqL.of hN,fun L1 hL1=>?_⟩)⟩;have em:(if (5:Int)<(k:Int) then(5:Int) else(k:Int))=((min k 5:Nat):Int):=by split<;>lia
  rw[em,z8w];have s1:=(Same.refl H).new (o:=.lst (vP (ns.take (min k 5)))) hL1;have h1:upd H L1 (.lst (vP (ns.take (min k 5)))) L1=some (.lst (vP (ns.take (min k 5)))):=q0b;generalize upd H L1 (.lst (vP (ns.take (min k 5))))=H1 at s1 h1;refine⟨L1,_,rfl,.inl ⟨SqL.of h1,fun t1 ht1=>?_⟩⟩;have s2:=(Same.refl H1).new (o:=.tup (vP (ns.take (min k 5)))) ht1;have h2:upd H1 t1 (.tup (vP (ns.take (min k 5)))) t1=some (.tup (vP (ns.take (min k 5)))):=q0b;generalize upd H1 t1 (.tup (vP (ns.take (min k 5))))=H2 at s2 h2;have s12:=s1.trans s2;have hat:atI (vP ns) (k:Int)=some (.str (mk (ns.getD k []))):=q6i (by
   show(ns.map _)[k]?=_;rw[Au,Bz hk,Ca,Bz hk];rfl)
  refine⟨_,rfl,_,rfl,.inl ⟨N,_,_,_,rfl,rfl,SqL.of (s12 _ _ hN),hat,by show 1<=sizeLine;decide,fun p1 hp1=>?_⟩⟩;have s3:=(Same.refl H2).new (o:=.tup [.str (mk (ns.getD k []))]) hp1;refine⟨t1,p1,_,_,rfl,rfl,s3 _ _ h2,q0b,by rw[q1i,An];exact small (by show _+1<=_;lia),fun p2 H5 s5 hp2 _=>?_⟩;refine kk p2 H5 ((s12.trans s3).trans s5) ?_;rw[hp2];show _=some (HO.tup ((_++[ns.getD k []]).map _));rw[Al];rfl
structure CallsTb (P:Program) (w:World) (K:Ag) (mg:Str->Option Value) (base:Heap):Prop where
 spot_of:Cal P w K mg base "_law_spot_of" 1 ["_law_names", "_law_k"] spSpot
def spThings:Sp:=fun vs H Q _=>∃N ns,vs=[.ref N]/\H N=some (.lst (vP ns))/\Nms ns/\ns.length<=60/\∀m H',H m=none->Same H H'->H' m=some (dR ((th ns).map rR))->Q (.ref m) H'
theorem z8x{ns:List (List Nat)}{i:Nat}(h:i<ns.length):(th ns).take (i+1)=(th ns).take i++[(spot ns i,mk5 i)]:=by
 rw[Bm];congr 1;unfold th;rw[Au,Py h];rfl
theorem z3u(ns:List (List Nat)):(th ns).length=ns.length:=by unfold th;rw[Aa,De]
theorem th_new{ns:List (List Nat)}(n:Nms ns){i:Nat}(h:i<ns.length):∀r∈((th ns).take i).map rR,r.1≠spot ns i:=fun r hr e=>by
 obtain⟨y,hy,rfl⟩:=Am.mp hr;have nd:=(z8a (bl:=false) n).paths;have nd2:(((th ns).take (i+1)).map (·.1)).Nodup:=by rw[Cp];exact nd.sublist (Mi _ _)
 rw[z8x h,Al] at nd2;exact(Rl.mp nd2).2.2 _ (Am.mpr ⟨y,hy,rfl⟩) _ (Az.mpr rfl) e
abbrev q3j:Stmt:=top 46
theorem sc_things_by:FnScope ["_law_names", "_law_marks", "_law_k"] ["_law_names"] (defScope q3j):=by trivial
theorem z1b(D:Df K mg "_law_things_by" q3j ["_law_names"])(T:Txt mg)(C:CallsTb P w K mg base):Cal P w K mg base "_law_things_by" 2 ["_law_names"] spThings:=by
 refine D.cal sc_things_by (fun vs H Q E h=>?_) (fun f cdv A outer s H vs Q E hr h=>?_)
 ·obtain⟨N,ns,rfl,_⟩:=h;rfl
 ·obtain⟨N,ns,rfl,hN,n,h60,k⟩:=h;refine⟨_,(q0c (q0o (i:=1) sc_things_by.nd rfl (by trivial) z3a) (q0c (q5k Dy rfl (q1y rfl T.b_range (q0a (q0i (q1v K rfl) (by rfl) T.b_len Bk (q0a (pv 0) q0d)) q0d)) (q0h (i:=2) sc_things_by.nd rfl (by trivial)) (q0f (z6k (q7j hr) (pv 1) (pe_c C.spot_of hr (q0a (pv 0) (q0a (pv 2) q0d))) (q1m (ix_k K rfl) (q6g (q0a z2m (q0a (pv 2) q0d))) (q0y z6m (by rfl) T.b_int (by decide +kernel) (q0a (q2t z9f (pv 2) q0g (nomark _)) q0d)) (fun _ _=>rfl)) rfl))) (q0f (q0k (pv 1))))),?_⟩;intro m hm;have s0:=(Same.refl H).new (o:=.dT []) hm;refine⟨_,rfl,_,ns.length,rfl,.inl ⟨_,SqL.of (s0 _ _ hN),by rw[q1i]⟩,?_⟩;refine⟨(ns.length:Int),rfl,by lia,by lia,q9e (n:=ns.length) (fun i σ' H'=>∃x2,σ'=[some (.ref N),some (.ref m),x2]/\Same H H'/\H' m=some (dR (((th ns).take i).map rR))) ⟨none,rfl,s0,q0b⟩ ?_ ?_⟩
  ·rintro i σ' H1 hi ⟨x2,rfl,s1,hm1⟩;rw[show(0+(i:Int))=(i:Int) from La _];refine⟨_,rfl,by show 2<=sizeLine;decide,fun M hM=>?_⟩;have s2':=(Same.refl H1).new (o:=.lst [.non,.int (i:Int)]) hM;have hM2:upd H1 M (.lst [.non,.int (i:Int)]) M=some (.lst [.non,.int (i:Int)]):=q0b;generalize upd H1 M (.lst [.non,.int (i:Int)])=H2 at s2' hM2;have s2:=s1.trans s2';have hm2:=s2' _ _ hm1;have hat:atI [V.non,V.int (i:Int)] (if decide ((i:Int)>4) then 1 else 0)=some (mV (mk5 i)):=by
    unfold mk5;by_cases c:i<=4
    ·rw[if_pos c,decide_eq_false (by lia)];rfl
    ·rw[if_neg c,decide_eq_true (by lia)];rfl
   refine⟨_,rfl,_,_,rfl,rfl,.inl (.inr ⟨_,rfl,.inl ⟨M,_,_,_,rfl,rfl,SqL.of hM2,hat,?_⟩⟩)⟩;refine⟨_,rfl,_,rfl,_,rfl,N,ns,i,rfl,s2 _ _ hN,hi,h60,fun p H3 s3 hp=>?_⟩;have hm3:=s3 _ _ hm2;refine⟨m,_,rfl,DPut.t (k:=kP (spot ns i)) hm3 (by rw[q6w];exact hp) (by rw[Aa,Aa,An];exact small' (by rw[z3u];lia)),?_⟩;rw[q8v (p:=spot ns i) (v:=mV (mk5 i)) (th_new n hi)];refine⟨_,rfl,fun x u e=>by rw[q0e (fun y=>by rw[y,hm] at e;cases e)];exact(s2.trans s3) _ _ e,?_⟩;have em:((th ns).take (i+1)).map rR=((th ns).take i).map rR++[(spot ns i,mV (mk5 i))]:=by rw[z8x hi,Al];rfl
   rw[q0b,em]
  ·rintro σ' H1 ⟨x2,rfl,s1,hm1⟩;rw[<- z3u ns,Bj] at hm1;exact⟨_,rfl,k m H1 hm s1 hm1⟩
theorem q9b{fr:List (List Nat)}:∀{o:List Nat} {ns:List (List Nat)} {k:Nat},aft fr ns (o++[k])=(aft fr ns o).set k (fr.getD k [])
 |[],_,_=>rfl
 |_::r,_,_=>q9b (o:=r)
theorem z3v{fr:List (List Nat)}:∀{o:List Nat} {ns:List (List Nat)} {k:Nat},mvs fr ns (o++[k])=mvs fr ns o++[(spot (aft fr ns o) k,plc (aft fr ns o) k (fr.getD k []))]
 |[],_,_=>rfl
 |j::r,ns,k=>congrArg (_ :: ·) (z3v (o:=r))
theorem q9c{fr:List (List Nat)}:∀{o:List Nat} {ns:List (List Nat)},(aft fr ns o).length=ns.length
 |[],_=>rfl
 |_::r,ns=>(q9c (o:=r)).trans (Ff ..)
theorem aft_n{fr:List (List Nat)}:∀{o:List Nat} {ns:List (List Nat)},Due fr ns o->Nms (aft fr ns o)
 |[],_,h=>h.n
 |k::r,ns,h=>aft_n (o:=r) (ns:=ns.set k (fr.getD k [])) h.tl
structure StN (H:Hp) (S:Addr) (ds:List Addr) (fr ns:List (List Nat)) (o:List Nat):Prop where
 at_:H S=some (.lst (ds.map V.ref))
 len:ds.length=o.length+1
 pr:∀i d,ds[i]?=some d->H d=some (.lst (vP (aft fr ns (o.take i))))
theorem StN.same{H H':Hp}{S:Addr}{ds:List Addr}{fr ns:List (List Nat)}{o:List Nat}(x:StN H S ds fr ns o)(s:Same H H'):StN H' S ds fr ns o:=⟨s _ _ x.at_,x.len,fun i d e=>s _ _ (x.pr i d e)⟩
def spMovesBy:Sp:=fun vs H Q _=>∃N Fr O ns fr o,vs=[.ref N,.ref Fr,.ref O]/\H N=some (.lst (vP ns))/\H Fr=some (.lst (vP fr))/\H O=some (.lst (vI o))/\Due fr ns o/\ns.length<=60/\fr.length=ns.length/\o.length<=60 /\
 ∀T R S zs ds H',Same H H'->H R=none->H S=none->(∀d∈ds,H d=none)->ML H' R zs->zs.map (·.2)=mvs fr ns o->StN H' S ds fr ns o->H' T=some (.tup [.ref R,.ref S])->Q (.ref T) H'
structure MbI (H:Hp) (R W S:Addr) (fr ns:List (List Nat)) (o:List Nat) (i:Nat) (H':Hp) (zs:List Zm) (ds:List Addr):Prop where
 sm:Same H H'
 r:ML H' R zs
 er:zs.map (·.2)=mvs fr ns (o.take i)
 wk:H' W=some (.lst (vP (aft fr ns (o.take i))))
 sa:H' S=some (.lst (ds.map V.ref))
 sl:ds.length=i+1
 sp:∀j d,ds[j]?=some d->H' d=some (.lst (vP (aft fr ns (o.take j))))
 sn:∀d∈ds,H d=none
 nw:∀d∈ds,d≠W/\d≠S/\d≠R
abbrev q4f:Stmt:=top 47
theorem sc_moves_by:FnScope ["_law_names", "_law_fresh", "_law_order", "_law_row", "_law_now", "_law_stands", "_law_k", "_law_path"] ["_law_names", "_law_fresh", "_law_order"] (defScope q4f):=by trivial
theorem z2j(D:Df K mg "_law_moves_by" q4f ["_law_names", "_law_fresh", "_law_order"])(T:Txt mg)(C:CallsTb P w K mg base):Cal P w K mg base "_law_moves_by" 2 ["_law_names", "_law_fresh", "_law_order"] spMovesBy:=by
 refine D.cal sc_moves_by (fun vs H Q E h=>?_) (fun f cdv A outer s H vs Q E hr h=>?_)
 ·obtain⟨N,Fr,O,ns,fr,o,rfl,_⟩:=h;rfl
 ·obtain⟨N,Fr,O,ns,fr,o,rfl,hN,hF,hO,due,h60,hfl,ol,k⟩:=h;refine⟨_,(q0c (q0o (i:=3) sc_moves_by.nd rfl (by trivial) (q6g q0d)) (q0c (q0o (i:=4) sc_moves_by.nd rfl (by trivial) (q0y (q7v K rfl) (by rfl) T.b_list (by decide +kernel) (q0a (pv 0) q0d))) (q0c (q0o (i:=5) sc_moves_by.nd rfl (by trivial) (q6g (q0a (q0y (q7v K rfl) (by rfl) T.b_list (by decide +kernel) (q0a (pv 4) q0d)) q0d))) (q0c (q5k Dy rfl (@q4l _ _ _ _ K rfl (pv 2)) (q0h (i:=6) sc_moves_by.nd rfl (by trivial)) (q0c (q0o (i:=7) sc_moves_by.nd rfl (by trivial) (pe_c C.spot_of hr (q0a (pv 4) (q0a (pv 6) q0d)))) (q0c (q2s (q1m (ix_k K rfl) (pv 1) (pv 6) (fun _ _=>rfl)) (z2q (pv 4) (pv 6) q5s)) (q0c (q1d (@bm_k _ _ _ _ _ _ _ _ _ _ _ _ K rfl Co Em En q2g (pv 3) (q0a (q1z (q0a (pv 7) (q0a (q0p z1p (q0r (sl_k K rfl) (pv 7) q0w (q0t (q4j q2b q0g))) (q1z (q0a (q1m (ix_k K rfl) (pv 1) (pv 6) (fun _ _=>rfl)) q0d))) q0d))) q0d) (by rfl) (by rfl) (by rfl) (by rfl) (by rfl))) (q0f (q1d (@bm_k _ _ _ _ _ _ _ _ _ _ _ _ K rfl Co Em En q2g (pv 5) (q0a (q0y (q7v K rfl) (by rfl) T.b_list (by decide +kernel) (q0a (pv 4) q0d)) q0d) (by rfl) (by rfl) (by rfl) (by rfl) (by rfl)))))))) (q0f (q0k (q1z (q0a (pv 3) (q0a (pv 5) q0d))))))))),?_⟩;refine⟨by show 0<=sizeLine;decide,fun R hR=>?_⟩;have s1:=(Same.refl H).new (o:=.lst []) hR;have r1:upd H R (.lst []) R=some (.lst []):=q0b;generalize upd H R (.lst [])=H1 at s1 r1;refine⟨_,rfl,N,_,rfl,.inl (SqL.of (s1 _ _ hN)),fun W hW=>?_⟩;have s2:=(Same.refl H1).new (o:=.lst (vP ns)) hW;have w2:upd H1 W (.lst (vP ns)) W=some (.lst (vP ns)):=q0b;have nRW:R≠W:=fun z=>by rw[<- z,r1] at hW;cases hW
  have hWH:=s1.free hW;generalize upd H1 W (.lst (vP ns))=H2 at s2 w2;refine⟨_,rfl,W,_,rfl,.inl (SqL.of w2),fun D0 hD0=>⟨by show 1<=sizeLine;decide,fun S hS=>?_⟩⟩;have s3:=(Same.refl H2).new (o:=.lst (vP ns)) hD0;have s4:=s3.new (o:=.lst [.ref D0]) hS;have hD0H:=(s1.trans s2).free hD0;have hSH:=((s1.trans s2).trans s3).free hS;have n0S:D0≠S:=fun z=>by rw[<- z,q0b] at hS;cases hS
  have n0W:D0≠W:=fun z=>by rw[z,w2] at hD0;cases hD0
  have n0R:D0≠R:=fun z=>by rw[z,s2 _ _ r1] at hD0;cases hD0
  have nWS:W≠S:=fun z=>by rw[<- z,s3 _ _ w2] at hS;cases hS
  have nRS:R≠S:=fun z=>by rw[<- z,s3 _ _ (s2 _ _ r1)] at hS;cases hS
  have I0:MbI H R W S fr ns o 0 (upd (upd H2 D0 (.lst (vP ns))) S (.lst [.ref D0])) [] [D0]:=by
   refine⟨(s1.trans s2).trans s4,⟨s4 _ _ (s2 _ _ r1),fun _ h=>nomatch h⟩,by rw[Jn];rfl,s4 _ _ w2,q0b,rfl,fun j d e=>?_,fun d hd=>by rw[Az.mp hd];exact hD0H,fun d hd=>by rw[Az.mp hd];exact⟨n0W,n0S,n0R⟩⟩;cases j with
   |zero=>cases e;rw[q0e n0S];exact q0b
   |succ j=>cases e
  generalize upd (upd H2 D0 (.lst (vP ns))) S (.lst [.ref D0])=H4 at I0;refine⟨_,rfl,.inl ⟨O,rfl,⟨_,SqL.of (I0.sm _ _ hO)⟩,?_⟩⟩;refine z2r (xs:=vI o) (fun i σ' H'=>∃zs ds x6 x7,σ'=[some (.ref N),some (.ref Fr),some (.ref O),some (.ref R),some (.ref W),some (.ref S),x6,x7]/\MbI H R W S fr ns o i H' zs ds/\i<=o.length) ⟨[],[D0],none,none,rfl,I0,Br _⟩ (fun i σ' H' _ x=>by obtain⟨_,_,_,_,_,I,_⟩:=x;exact SqL.of (I.sm _ _ hO)) ?_ ?_
  ·rintro i v σ' H5 hv ⟨zs,ds,x6,x7,rfl,I,_⟩;obtain⟨q,hq,rfl⟩:∃q,o[i]?=some q/\v=.int ((q:Nat):Int):=by
    rw[Au] at hv;cases e:o[i]? with
    |none=>rw[e] at hv;cases hv
    |some q=>rw[e] at hv;cases hv;exact⟨q,rfl,rfl⟩
   have hil:i<o.length:=(Ax.mp hq).1;have hqm:=Aq hq;have hqn:q<ns.length:=due.lt q hqm;have e1:o.take (i+1)=o.take i++[q]:=by rw[Bm,hq];rfl
   generalize hnow:aft fr ns (o.take i)=now at *;have hnl:now.length=ns.length:=by rw[<- hnow];exact q9c
   have Iw:=I.wk;rw[hnow] at Iw;refine⟨_,rfl,_,rfl,W,now,q,rfl,Iw,by lia,by lia,fun p H6 s6 hp=>?_⟩;have hatF:atI (vP fr) (q:Int)=some (.str (mk (fr.getD q []))):=q6i (by
    show(fr.map _)[q]?=_;rw[Au,Bz (by lia),Ca,Bz (by lia)];rfl)
   have sH6:=I.sm.trans s6;refine⟨_,rfl,_,rfl,.inl ⟨Fr,_,_,_,rfl,rfl,SqL.of (sH6 _ _ hF),hatF,_,rfl,_,rfl,W,_,_,q,rfl,rfl,s6 _ _ Iw,?_,?_⟩⟩
   ·unfold L2.ixN;rw[if_pos (by lia),if_pos (by rw[q1i];lia),Bu]
   have ew:(vP now).set q (V.str (mk (fr.getD q [])))=vP (now.set q (fr.getD q [])):=by
    show(now.map _).set q _=(now.set q _).map _;rw[List.map_set]
   rw[ew];have kW:∀{x:Addr} {u:HO},x≠W->H6 x=some u->upd H6 W (.lst (vP (now.set q (fr.getD q [])))) x=some u:=fun{x u} n e=>by rw[q0e n];exact e
   have tkW:∀S xs,H6 S=some (.tup xs)->upd H6 W (.lst (vP (now.set q (fr.getD q [])))) S=some (.tup xs):=fun S xs e=>kW (fun z=>by rw[z,s6 _ _ Iw] at e;cases e) e;have s7:Same H (upd H6 W (.lst (vP (now.set q (fr.getD q []))))):=fun x u e=>kW (fun z=>by rw[z,hWH] at e;cases e) (sH6 _ _ e);have w7:upd H6 W (.lst (vP (now.set q (fr.getD q [])))) W=some (.lst (vP (now.set q (fr.getD q [])))):=q0b;have r7:ML (upd H6 W (.lst (vP (now.set q (fr.getD q []))))) R zs:=⟨kW nRW (s6 _ _ I.r.at_),fun z hz=>(I.r.pr z hz).keep fun T xs e=>tkW _ _ (s6 _ _ e)⟩
   have sa7:upd H6 W (.lst (vP (now.set q (fr.getD q [])))) S=some (.lst (ds.map V.ref)):=kW nWS.symm (s6 _ _ I.sa);have sp7:∀j d,ds[j]?=some d->upd H6 W (.lst (vP (now.set q (fr.getD q [])))) d=some (.lst (vP (aft fr ns (o.take j)))):=fun j d e=>kW (I.nw d (Aq e)).1 (s6 _ _ (I.sp j d e));have hp7:=tkW _ _ hp;generalize upd H6 W (.lst (vP (now.set q (fr.getD q []))))=H7 at s7 w7 r7 sa7 sp7 hp7;have okp:spot now q≠[]:=q5f;obtain⟨c1,c2⟩:=q3r okp;have zl:zs.length=i:=by have:=congrArg List.length I.er;rw[Aa,q7f,An] at this;lia
   refine⟨_,rfl,.inl ⟨rfl,_,SqL.of r7.at_⟩,_,rfl,_,rfl,_,rfl,_,rfl,.inr (.inr ⟨p,_,rfl,SqT.of hp7,c2,fun t1 ht1=>?_⟩)⟩;rw[c1];have s8:=(Same.refl H7).new (o:=.tup (vP (spot now q).dropLast)) ht1;have ht1':upd H7 t1 (.tup (vP (spot now q).dropLast)) t1=some (.tup (vP (spot now q).dropLast)):=q0b;generalize upd H7 t1 (.tup (vP (spot now q).dropLast))=H8 at s8 ht1';refine⟨_,rfl,_,rfl,.inl ⟨Fr,_,_,_,rfl,rfl,SqL.of (s8 _ _ (s7 _ _ hF)),hatF,by show 1<=sizeLine;decide,fun p1 hp1=>?_⟩⟩;have s9:=(Same.refl H8).new (o:=.tup [.str (mk (fr.getD q []))]) hp1;have sl5:(spot now q).dropLast.length<=5:=by rw[q9a,An];lia
   refine⟨t1,p1,_,_,rfl,rfl,s9 _ _ ht1',q0b,by rw[q1i];exact small (by show _+1<=_;lia),fun p2 HA sA hp2 _=>?_⟩;have hp2':HA p2=some (.tup (vP (plc now q (fr.getD q [])))):=by
    rw[hp2,q9a];unfold plc;show _=some (HO.tup ((_++[fr.getD q []]).map _));rw[Al];rfl
   have s7A:=(s8.trans s9).trans sA;refine⟨by show 2<=sizeLine;decide,fun T1 hT1=>?_⟩;have sB:=(Same.refl HA).new (o:=.tup [.ref p,.ref p2]) hT1;have s7B:=s7A.trans sB;have mtB:MT (upd HA T1 (.tup [.ref p,.ref p2])) T1 (spot now q,plc now q (fr.getD q [])):=⟨p,p2,q0b,s7B _ _ hp7,sB _ _ hp2'⟩
   have rB:=r7.same s7B;generalize upd HA T1 (.tup [.ref p,.ref p2])=HB at sB s7B mtB rB;refine⟨R,_,_,rfl,rfl,rB.at_,by rw[Aa];exact small' (by lia),?_⟩;have kR:∀{x:Addr} {u:HO},x≠R->HB x=some u->upd HB R (.lst (zs.map (fun z=>V.ref z.1)++[.ref T1])) x=some u:=fun{x u} n e=>by rw[q0e n];exact e
   have tkR:∀S xs,HB S=some (.tup xs)->upd HB R (.lst (zs.map (fun z=>V.ref z.1)++[.ref T1])) S=some (.tup xs):=fun S xs e=>kR (fun z=>by rw[z,rB.at_] at e;cases e) e;have sC:Same H (upd HB R (.lst (zs.map (fun z=>V.ref z.1)++[.ref T1]))):=fun x u e=>kR (fun z=>by rw[z,hR] at e;cases e) (s7B _ _ (s7 _ _ e));have rC:ML (upd HB R (.lst (zs.map (fun z=>V.ref z.1)++[.ref T1]))) R (zs++[(T1,(spot now q,plc now q (fr.getD q [])))]):=⟨by rw[q0b,Al];rfl,fun z hz=>by
    rcases Ay.mp hz with hz|hz
    ·exact(rB.pr z hz).keep tkR
    ·rw[Az.mp hz];exact mtB.keep tkR⟩
   have wC:=kR (Dd nRW) (s7B _ _ w7);have saC:=kR (Dd nRS) (s7B _ _ sa7);have spC:=fun j d e=>kR (I.nw d (Aq e)).2.2 (s7B _ _ (sp7 j d e));generalize upd HB R (.lst (zs.map (fun z=>V.ref z.1)++[.ref T1]))=HC at sC rC wC saC spC;refine⟨_,rfl,.inl ⟨rfl,_,SqL.of saC⟩,_,rfl,W,_,rfl,.inl (SqL.of wC),fun Dn hDn=>?_⟩;have sD:=(Same.refl HC).new (o:=.lst (vP (now.set q (fr.getD q [])))) hDn;have dD:upd HC Dn (.lst (vP (now.set q (fr.getD q [])))) Dn=some (.lst (vP (now.set q (fr.getD q [])))):=q0b;generalize upd HC Dn (.lst (vP (now.set q (fr.getD q []))))=HD at sD dD;have isl:=I.sl;refine⟨S,_,_,rfl,rfl,sD _ _ saC,by rw[Aa];exact small' (by lia),?_⟩;have nDW:Dn≠W:=fun z=>by rw[z,wC] at hDn;cases hDn
   have nDS:Dn≠S:=fun z=>by rw[z,saC] at hDn;cases hDn
   have nDR:Dn≠R:=fun z=>by rw[z,rC.at_] at hDn;cases hDn
   have kS:∀{x:Addr} {u:HO},x≠S->HD x=some u->upd HD S (.lst (ds.map V.ref++[.ref Dn])) x=some u:=fun{x u} n e=>by rw[q0e n];exact e
   refine⟨zs++[(T1,(spot now q,plc now q (fr.getD q [])))],ds++[Dn],_,_,rfl,⟨fun x u e=>kS (fun z=>by rw[z,hSH] at e;cases e) (sD _ _ (sC _ _ e)),⟨kS nRS (sD _ _ rC.at_),fun z hz=>(rC.pr z hz).keep fun T xs e=>kS (fun z=>by rw[z,saC] at e;cases e) (sD _ _ e)⟩,?_,?_,by rw[q0b,Al];rfl,by rw[Af,I.sl];rfl,fun j d e=>?_,fun d hd=>?_,fun d hd=>?_⟩,hil⟩
   ·rw[e1,z3v,hnow,Al,I.er];rfl
   ·rw[e1,q9b,hnow];exact kS nWS (sD _ _ wC)
   ·rcases Qw j ds.length with l|l
    ·rw[Dh l] at e;exact kS (I.nw d (Aq e)).2.1 (sD _ _ (spC j d e))
    ·rw[Cz l] at e;have ej:j=i+1:=by
      have:=(Ax.mp e).1;rw[Ce] at this;lia
     subst ej;rw[I.sl,Ni] at e;cases e;rw[e1,q9b,hnow];exact kS nDS dD
   ·rcases Ay.mp hd with hd|hd
    ·exact I.sn d hd
    ·rw[Az.mp hd];exact sC.free hDn
   ·rcases Ay.mp hd with hd|hd
    ·exact I.nw d hd
    ·rw[Az.mp hd];exact⟨nDW,nDS,nDR⟩
  ·rintro σ' H5 ⟨zs,ds,x6,x7,rfl,I,_⟩;have ev:(vI o).length=o.length:=Aa _;obtain⟨Ism,Ir,Ier,_,Isa,Isl,Isp,Isn,_⟩:=I;rw[ev,Bj] at Ier;rw[ev] at Isl;refine⟨_,rfl,_,rfl,by show 2<=sizeLine;decide,fun T1 hT1=>?_⟩;have sT:=(Same.refl H5).new (o:=.tup [.ref R,.ref S]) hT1;exact k T1 R S zs ds _ (Ism.trans sT) hR hSH Isn (Ir.same sT) Ier (StN.same ⟨Isa,Isl,Isp⟩ sT) q0b
structure CallsSs (P:Program) (w:World) (K:Ag) (mg:Str->Option Value) (base:Heap) (c cD:Addr):Prop where
 stop:Cal P w K mg base "_law_stop" 2 ["_law_row", "_law_steps"] spStop
 rows_right:Cal P w K mg base "_law_rows_right" 3 ["_law_hall", "_law_marks"] (spRight c)
 things_by:Cal P w K mg base "_law_things_by" 2 ["_law_names"] spThings
 m_left:MCal P w K mg base cD "left" 1 ["self"] (spLeft cD)
 m_hall:MCal P w K mg base cD "hall" 7 ["self"] (spDHall c cD)
 m_book:MCal P w K mg base cD "book" 3 ["self"] (spBook c cD)
def spStands(c cD:Addr):Sp:=fun vs H Q _=>∃x h d L R S bl R0 zs zs2 ds fr ns o n,vs=[.ref x,.ref R,.ref S,.int ((n:Nat):Int)]/\DoAt c cD H x h d L bl R0 zs n/\ML H R zs2/\zs2.map (·.2)=zs.map (·.2)/\StN H S ds fr ns o/\zs.map (·.2)=mvs fr ns o/\Due fr ns o/\(th ns).Perm R0/\ns.length<=60/\∀H',Same H H'->Q (.bl true) H'
abbrev q3k:Stmt:=top 48
theorem sc_stands_so:FnScope ["_law_doer", "_law_row", "_law_stands", "_law_steps", "_law_book", "_law_made"] ["_law_doer", "_law_row", "_law_stands", "_law_steps"] (defScope q3k):=by trivial
theorem z8y{c cD:Addr}(D:Df K mg "_law_stands_so" q3k ["_law_doer", "_law_row", "_law_stands", "_law_steps"])(T:Txt mg)(C:CallsSs P w K mg base c cD):Cal P w K mg base "_law_stands_so" 8 ["_law_doer", "_law_row", "_law_stands", "_law_steps"] (spStands c cD):=by
 refine D.cal sc_stands_so (fun vs H Q E h=>?_) (fun f cdv A outer s H vs Q E hr h=>?_)
 ·obtain⟨x,h,d,L,R,S,bl,R0,zs,zs2,ds,fr,ns,o,n,rfl,_⟩:=h;rfl
 ·obtain⟨x,h,d,L,R,S,bl,R0,zs,zs2,ds,fr,ns,o,n,rfl,da,mr,ez,st,em,due,pw,h60,k⟩:=h;refine⟨_,(q0c (q2s (pe_c C.stop hr (q0a (pv 1) (q0a (pv 3) q0d))) (@q1u _ _ _ _ (2) _ K rfl rfl (q0j (q0h (i:=4) sc_stands_so.nd rfl (by trivial)) (q0j (q0h (i:=5) sc_stands_so.nd rfl (by trivial)) q1e)) (by rfl) (by rfl))) (q0c (q1j (pt_j (@PW.pt _ _ _ (q7i (q0s (ne_k K rfl hr) (q3u C.m_left hr (pv 0)) (q0p q4k (q0p q0q (q0p q3y q0g (q0i (q1v K rfl) (by rfl) T.b_len Bk (q0a (pv 1) q0d))) q0g) (pv 3)) (nomark _)) (q4h (q0s (ne_k K rfl hr) (q3u C.m_book hr (pv 0)) (pv 4) (nomark _)))))) (q0f (q0k q4g)) q0n) (q0f (q0k (pe_c C.rows_right hr (q0a (q3u C.m_hall hr (pv 0)) (q0a (pe_c C.things_by hr (q0a (q1m (ix_k K rfl) (pv 2) (pv 5) (fun _ _=>rfl)) q0d)) q0d))))))),?_⟩;have lz:zs2.length=zs.length:=by have:=congrArg List.length ez;rw[Aa,Aa] at this;exact this
  have few:=da.few;have le:=da.le;have okm:okMs (zs.map (·.2)):=q5h da.ok;refine⟨_,rfl,_,rfl,R,zs2,n,rfl,mr,by rw[ez];exact okm,by lia,by lia,fun T1 H1 _ s1 hT1=>⟨T1,_,rfl,SqT.of hT1,rfl,_,_,rfl,_,_,rfl,rfl,?_⟩⟩;rw[ez,lz];have da1:=da.same s1;obtain⟨dx,hx⟩:=da1.i;refine⟨fun bb H2=>bb=false/\Same H1 H2,?_,?_⟩;rotate_left
  ·refine⟨_,rfl,x,dx,_,rfl,hx,rfl,x,dx,h,L,n,zs,rfl,hx,da1.ml,?_⟩;refine⟨_,rfl,_,_,rfl,.inl ⟨_,SqL.of (mr.same s1).at_,rfl⟩,.inl ⟨_,_,rfl,rfl,.inl ⟨by decide,by decide⟩,.inl ⟨_,_,rfl,rfl,_,rfl,_,_,rfl,rfl,.inl ⟨rfl,_,rfl,?_⟩⟩⟩⟩;rw[Aa,lz,decide_eq_true rfl];refine iteF ⟨_,rfl,x,dx,_,rfl,hx,rfl,x,h,d,L,bl,R0,zs,n,rfl,da1,fun H2 s2=>⟨_,rfl,.inl ⟨rfl,_,rfl,?_,s2⟩⟩⟩;rw[decide_eq_true rfl];rfl
  rintro bb H2 ⟨rfl,s2⟩;refine iteF ?_;have s12:=s1.trans s2;have da2:=da1.same s2;have hx2:=s2 _ _ hx;refine⟨_,rfl,x,dx,_,rfl,hx2,rfl,x,h,d,L,bl,R0,zs,n,rfl,da2,fun h' d' rows' H3 s3 _ hh' pm'=>?_⟩;have sA:=s12.trans s3;have stA:=st.same sA;have zo:zs.length=o.length:=by have:=congrArg List.length em;rw[Aa,q7f] at this;exact this
  have hm:md zs.length n<=zs.length:=by unfold md;lia
  obtain⟨dn,hdn⟩:∃dn,ds[md zs.length n]?=some dn:=⟨ds[md zs.length n]'(by rw[stA.len];lia),Bz _⟩
  have pE:rows'.Perm (th (aft fr ns (o.take (md zs.length n)))):=by
   rw[<- mvs_at due,<- em];exact pm'.trans (z1s _ pw.symm)
  have na:=aft_n (due.take (md zs.length n));have hlE:Hl bl rows':=(z8a na).perm pE;refine⟨_,rfl,_,rfl,.inl ⟨S,_,_,_,rfl,rfl,SqL.of stA.at_,x3w hdn,dn,_,rfl,stA.pr _ dn hdn,na,by rw[q9c];exact h60,fun m H4 hm4 s4 hM4=>?_⟩⟩;exact⟨h',m,d',bl,rows',_,rfl,hh'.same s4,hM4,pE.symm,hlE.paths,hlE.ok,by rw[pE.length_eq,z3u,q9c];lia,fun H5 s5=>k H5 ((sA.trans s4).trans s5)⟩
theorem fd_kp{a b x h:Addr}{H H' H2:Hp}(y:Fd a b H H')(F:FeedAt H a b)(hx:H x=none)(hh:H h=none)(kp:Kp x h H' H2):Fd a b H H2:=by
 refine⟨?_,fun c o e hc=>kp c o (fun z=>by rw[z,hx] at e;cases e) (fun z=>by rw[z,hh] at e;cases e) (y.keep c o e hc)⟩;obtain⟨⟨i,j,e1⟩,ns,e2⟩:=y.feed;exact⟨⟨i,j,kp _ _ (F.na hx) (F.na hh) e1⟩,ns,kp _ _ (F.nb hx) (F.nb hh) e2⟩
def Kn(H H':Hp):Prop:=∀y u,H y=some u->(∀C d fs,u≠.ins C d fs)->H' y=some u
theorem Kp.kn{x h:Addr}{H H':Hp}(k:Kp x h H H'){C1 C2 d1 d2:Addr}{f1 f2:List (Str×V)}(hx:H x=some (.ins C1 d1 f1))(hh:H h=some (.ins C2 d2 f2)):Kn H H':=fun y u e ni=>k y u (fun z=>by rw[z,hx] at e;cases e;exact ni _ _ _ rfl) (fun z=>by rw[z,hh] at e;cases e;exact ni _ _ _ rfl) e
theorem DoAt.ins{c cD:Addr}{H:Hp}{x h d L:Addr}{bl:Bool}{R0:List Rw}{zs:List Zm}{n:Nat}(D:DoAt c cD H x h d L bl R0 zs n):∃d1 f1 d2 f2,H x=some (.ins cD d1 f1)/\H h=some (.ins c d2 f2):=by
 obtain⟨dx,hx⟩:=D.i;obtain⟨rows,hh,_⟩:=D.ha;obtain⟨dh,hi⟩:=hh.i;exact⟨dx,_,dh,_,hx,hi⟩
theorem mlKn{H H':Hp}{L:Addr}{zs:List Zm}(m:ML H L zs)(k:Kn H H'):ML H' L zs:=⟨k _ _ m.at_ (by intro _ _ _ z;cases z),fun z hz=>(m.pr z hz).keep fun T xs e=>k _ _ e (by intro _ _ _ z;cases z)⟩
theorem HallAt.kn{c:Addr}{H H':Hp}{h d:Addr}{bl:Bool}{rows:List Rw}(x:HallAt c H h d bl rows)(k:Kn H H')(hi:∀u,H h=some u->H' h=some u):HallAt c H' h d bl rows:=⟨x.i.imp fun _ e=>hi _ e,k _ _ x.d (by intro _ _ _ z;cases z)⟩
theorem DoAt.kn{c cD:Addr}{H H':Hp}{x h d L:Addr}{bl:Bool}{R0:List Rw}{zs:List Zm}{n:Nat}(D:DoAt c cD H x h d L bl R0 zs n)(k:Kn H H')(hx:∀u,H x=some u->H' x=some u)(hh:∀u,H h=some u->H' h=some u):DoAt c cD H' x h d L bl R0 zs n :=
 ⟨D.i.imp fun _ e=>hx _ e,D.ha.imp fun r e=>⟨e.1.kn k hh,e.2⟩,mlKn D.ml k,D.ok,D.l60,D.few,D.le⟩
structure T9 (c cD:Addr) (H:Hp) (a b h0 d0 m S R:Addr) (bl:Bool) (Rh:List Rw) (fr ns:List (List Nat)) (o:List Nat) (ds:List Addr) (zs:List Zm) (x h L:Addr) (n:Nat) (H':Hp):Prop where
 fd:Fd a b H H'
 ha:HallAt c H' h0 d0 bl Rh
 mm:H' m=some (dR ((th ns).map rR))
 s:StN H' S ds fr ns o
 r:ML H' R zs
 dd:∃d zs',DoAt c cD H' x h d L bl Rh zs' n/\zs'.map (·.2)=zs.map (·.2)
 xn:H x=none
 hn:H h=none
 Ln:H L=none
 mn:H m=none
 sn:H S=none
 rn:H R=none
 dn:∀d∈ds,H d=none
 n1:h0≠x
 n2:h0≠h
section
variable{c cD:Addr}{H:Hp}{a b h0 d0 m S R:Addr}{bl:Bool}{Rh:List Rw}{fr ns:List (List Nat)}{o:List Nat}{ds:List Addr}{zs:List Zm}{x h L:Addr}{n:Nat}{H' H2:Hp}
theorem StN.kn(x:StN H' S ds fr ns o)(k:Kn H' H2):StN H2 S ds fr ns o:=⟨k _ _ x.at_ (by intro _ _ _ z;cases z),x.len,fun i d e=>k _ _ (x.pr i d e) (by intro _ _ _ z;cases z)⟩
theorem T9.same(t:T9 c cD H a b h0 d0 m S R bl Rh fr ns o ds zs x h L n H')(s:Same H' H2):T9 c cD H a b h0 d0 m S R bl Rh fr ns o ds zs x h L n H2 :=
 ⟨t.fd.same s,t.ha.same s,s _ _ t.mm,t.s.same s,t.r.same s,t.dd.imp fun _ e=>e.imp fun _ e=>⟨e.1.same s,e.2⟩,t.xn,t.hn,t.Ln,t.mn,t.sn,t.rn,t.dn,t.n1,t.n2⟩
theorem T9.go(t:T9 c cD H a b h0 d0 m S R bl Rh fr ns o ds zs x h L n H')(F:FeedAt H a b)(fd:Fd a b H' H2):T9 c cD H a b h0 d0 m S R bl Rh fr ns o ds zs x h L n H2 :=
 ⟨t.fd.trans fd,z1y t.ha t.fd.feed fd,fd.at t.mm (F.na t.mn).symm,⟨fd.at t.s.at_ (F.na t.sn).symm,t.s.len,fun i d e=>fd.at (t.s.pr i d e) (F.na (t.dn d (Aq e))).symm⟩,t.r.fd t.fd.feed fd (F.na t.rn).symm,t.dd.imp fun _ e=>e.imp fun _ e=>⟨e.1.fd t.fd.feed fd (F.na t.Ln).symm,e.2⟩,t.xn,t.hn,t.Ln,t.mn,t.sn,t.rn,t.dn,t.n1,t.n2⟩
theorem T9.kp{n2:Nat}{d2:Addr}{zs':List Zm}(t:T9 c cD H a b h0 d0 m S R bl Rh fr ns o ds zs x h L n H')(F:FeedAt H a b)(kp:Kp x h H' H2)(dn:DoAt c cD H2 x h d2 L bl Rh zs' n2)(ez:zs'.map (·.2)=zs.map (·.2)):T9 c cD H a b h0 d0 m S R bl Rh fr ns o ds zs x h L n2 H2:=by
 obtain⟨d,zs1,da,_⟩:=t.dd;obtain⟨_,_,_,_,hx,hi⟩:=da.ins;have kn:=kp.kn hx hi;exact⟨fd_kp t.fd F t.xn t.hn kp,t.ha.kn kn fun u e=>kp _ _ t.n1 t.n2 e,kn _ _ t.mm (by intro _ _ _ z;cases z),t.s.kn kn,mlKn t.r kn,⟨d2,zs',dn,ez⟩,t.xn,t.hn,t.Ln,t.mn,t.sn,t.rn,t.dn,t.n1,t.n2⟩
theorem T9.other{y g:Addr}{C1 C2 d1 d2:Addr}{f1 f2:List (Str×V)}(t:T9 c cD H a b h0 d0 m S R bl Rh fr ns o ds zs x h L n H')(F:FeedAt H a b)(kp:Kp y g H' H2)(hy:H' y=some (.ins C1 d1 f1))(hg:H' g=some (.ins C2 d2 f2))(yn:H y=none)(gn:H g=none)(a1:x≠y)(a2:x≠g)(a3:h≠y)(a4:h≠g)(a5:h0≠y)(a6:h0≠g):T9 c cD H a b h0 d0 m S R bl Rh fr ns o ds zs x h L n H2:=by
 have kn:=kp.kn hy hg;exact⟨fd_kp t.fd F yn gn kp,t.ha.kn kn fun u e=>kp _ _ a5 a6 e,kn _ _ t.mm (by intro _ _ _ z;cases z),t.s.kn kn,mlKn t.r kn,t.dd.imp fun _ e=>e.imp fun _ e=>⟨e.1.kn kn (fun u e=>kp _ _ a1 a2 e) (fun u e=>kp _ _ a3 a4 e),e.2⟩,t.xn,t.hn,t.Ln,t.mn,t.sn,t.rn,t.dn,t.n1,t.n2⟩
end
end
end K
set_option maxHeartbeats 4000000
namespace K
open PySem L2 TX SB HM PM
section
variable{P:Program}{w:World}{K:Ag}{mg:Str->Option Value}{base:Heap}
def NmI(i j:Nat)(ns:List (List Nat)):Prop:=∀q,q<ns.length->∃t:List Nat,t.length=9/\(∀c∈t,c∈NS)/\ns.getD q []=nam i t (j+q)
theorem z8z{i:Nat}{t:List Nat}{n:Nat}(ht:t.length=9):(nam i t n).length=12:=by
 unfold nam dg3;rw[Af,Af,An,Cw];simp;lia
theorem gd_of{ns:List (List Nat)}{n:List Nat}(h:n∈ns):∃q,q<ns.length/\ns.getD q []=n:=by
 obtain⟨q,hq⟩:=List.mem_iff_getElem?.mp h;exact⟨q,(Ax.mp hq).1,by rw[Ca,hq];rfl⟩
theorem NmI.snoc{i j:Nat}{ns:List (List Nat)}{t:List Nat}(h:NmI i j ns)(ht:t.length=9)(hc:∀c∈t,c∈NS):NmI i j (ns++[nam i t (j+ns.length)]):=fun q hq=>by
 rw[Af,Ce] at hq;rw[Ca];rcases Qw q ns.length with l|l
 ·obtain⟨u,h1,h2,h3⟩:=h q l;refine⟨u,h1,h2,?_⟩;rw[Dh l,<- Ca,h3]
 ·have e:q=ns.length:=by lia
  subst e;refine⟨t,ht,hc,?_⟩;rw[Cz (Ak _),Ni];rfl
theorem NmI.l12{i j:Nat}{ns:List (List Nat)}(h:NmI i j ns):∀n∈ns,n.length=12:=fun n hn=>by
 obtain⟨q,hq,rfl⟩:=gd_of hn;obtain⟨t,h1,_,h3⟩:=h q hq;rw[h3];exact z8z h1
theorem NmI.due{i:Nat}{ns fr:List (List Nat)}{o:List Nat}(hi:i<=9)(hn:NmI i 0 ns)(hf:NmI i 100 fr)(ln:ns.length=60)(lf:fr.length=60)(pm:o.Perm (List.range 60)):Due fr ns o:=by
 have ok:∀{j:Nat} {ms:List (List Nat)} {q:Nat},NmI i j ms->ms.length=60->j<=100->q<60->okN (ms.getD q []):=fun{j ms q} h hl hj hq=>by
  obtain⟨t,h1,h2,h3⟩:=h q (by lia);rw[h3];exact nam_ok hi h1 (by lia) h2
 have lt:∀k∈o,k<60:=fun k hk=>Dc.mp (pm.mem_iff.mp hk);have low:∀{j j':Nat} {ms ms':List (List Nat)} {q q':Nat},NmI i j ms->NmI i j' ms'->ms.length=60->ms'.length=60->j<=100->j'<=100->q<60->q'<60->lowN (ms.getD q [])=lowN (ms'.getD q' [])->j+q=j'+q':=fun{j j' ms ms' q q'} h h' hl hl' hj hj' hq hq' e=>by
  obtain⟨t,h1,h2,h3⟩:=h q (by lia);obtain⟨u,g1,g2,g3⟩:=h' q' (by lia);rw[h3,g3] at e;exact x4b hi h1 g1 (by lia) (by lia) e
 refine⟨⟨fun n hn'=>?_,fun p q hp hq e=>?_⟩,fun k hk=>by rw[ln];exact lt k hk,fun k hk=>ok hf lf (by lia) (lt k hk),fun k hk j hj e=>?_,pm.nodup_iff.mpr Sg,fun k hk l hl e=>?_⟩
 ·obtain⟨q,hq,rfl⟩:=gd_of hn';exact ok hn ln (by lia) (by lia)
 ·have:=low hn hn ln ln (by lia) (by lia) (by lia) (by lia) e;lia
 ·have:=low hn hf ln lf (by lia) (by lia) (by lia) (lt k hk) e;lia
 ·have:=low hf hf lf lf (by lia) (by lia) (lt k hk) (lt l hl) e;lia
structure CallsO (P:Program) (w:World) (K:Ag) (mg:Str->Option Value) (base:Heap) (c cD:Addr):Prop where
 draw:Cal P w K mg base "_law_draw" 1 ["_law_feed", "_law_many"] spDraw
 long_name:Cal P w K mg base "_law_long_name" 2 ["_law_feed", "_law_at", "_law_number"] spLong
 mixed:Cal P w K mg base "_law_mixed" 2 ["_law_feed", "_law_rows"] spMixed
 moves_by:Cal P w K mg base "_law_moves_by" 2 ["_law_names", "_law_fresh", "_law_order"] spMovesBy
 things_by:Cal P w K mg base "_law_things_by" 2 ["_law_names"] spThings
 rows_right:Cal P w K mg base "_law_rows_right" 3 ["_law_hall", "_law_marks"] (spRight c)
 stands_so:Cal P w K mg base "_law_stands_so" 8 ["_law_doer", "_law_row", "_law_stands", "_law_steps"] (spStands c cD)
 stop:Cal P w K mg base "_law_stop" 2 ["_law_row", "_law_steps"] spStop
 begun_again:Cal P w K mg base "begun_again" 10 ["hall", "text"] (spAgain c cD)
 way_back:Cal P w K mg base "way_back" 10 ["hall", "text"] (spWayBack c cD)
 m_left:MCal P w K mg base cD "left" 1 ["self"] (spLeft cD)
 m_hall:MCal P w K mg base cD "hall" 7 ["self"] (spDHall c cD)
 m_book:MCal P w K mg base cD "book" 3 ["self"] (spBook c cD)
 m_do:MCal P w K mg base cD "do" 6 ["self", "many"] (spDo c cD)
 m_is_blind:MCal P w K mg base c "is_blind" 1 ["self"] (spBlind c)
 k_Hall:KCal P w K mg base c "Hall" 4 ["self", "rows", "blind"] (spInit c)
 k_Doer:KCal0 P w K mg base cD "Doer" 8 ["self", "hall", "row"] (spDInit c cD)
def spOne:Sp:=fun vs H Q _=>∃a b,vs=[.ref a]/\FeedAt H a b/\∀H',Fd a b H H'->Q (.bl true) H'
abbrev z9a:Stmt:=top 49
theorem sc_one:FnScope ["_law_feed", "_law_blind", "_law_at", "_law_names", "_law_fresh", "_law_row", "_law_stands", "_law_marks", "_law_hall", "_law_steps", "_law_doer", "_law_book", "_law_line", "_law_text", "_law_other", "_law_made", "_law_back", "_law_turned"] ["_law_feed"] (defScope z9a):=by trivial
set_option maxHeartbeats 40000000 in
theorem ok_one{c cD:Addr}(D:Df K mg "_law_one" z9a ["_law_feed"])(T:Txt mg)(C:CallsO P w K mg base c cD):Cal P w K mg base "_law_one" 11 ["_law_feed"] spOne:=by
 refine D.cal sc_one (fun vs H Q E h=>?_) (fun f cdv A outer s H vs Q E hr h=>?_)
 ·obtain⟨a,b,rfl,_⟩:=h;rfl
 ·obtain⟨a,b,rfl,F,k⟩:=h;refine⟨_,(q0c (q0o (i:=1) sc_one.nd rfl (by trivial) (q2t (eq_k K rfl hr) (pe_c C.draw hr (q0a (pv 0) (q0a q0g q0d))) q0g (nomark _))) (q0c (q0o (i:=2) sc_one.nd rfl (by trivial) (pe_c C.draw hr (q0a (pv 0) (q0a q0g q0d)))) (q0c (q6m (i:=3) ["_law_k"] [("_law_feed",0),("_law_at",2)] sc_one.nd rfl (by trivial) rfl (q1y rfl T.b_range (q0a q0g q0d)) (fun _ _ _ _ _=>(q0h (i:=0) (show(["_law_k", "_law_feed", "_law_at"]:List Str).Nodup by decide +kernel) rfl (by trivial))) (fun _ _ _ _ _=>q1f) (fun _ _ _ _ _=>(pe_c C.long_name hr (q0a (pv 1) (q0a (pv 2) (q0a (pv 0) q0d)))))) (q0c (q6m (i:=4) ["_law_k"] [("_law_feed",0),("_law_at",2)] sc_one.nd rfl (by trivial) rfl (q1y rfl T.b_range (q0a q0g q0d)) (fun _ _ _ _ _=>(q0h (i:=0) (show(["_law_k", "_law_feed", "_law_at"]:List Str).Nodup by decide +kernel) rfl (by trivial))) (fun _ _ _ _ _=>q1f) (fun _ _ _ _ _=>(pe_c C.long_name hr (q0a (pv 1) (q0a (pv 2) (q0a (q0p q0q q0g (pv 0)) q0d)))))) (q0c (q2s (pe_c C.moves_by hr (q0a (pv 3) (q0a (pv 4) (q0a (pe_c C.mixed hr (q0a (pv 0) (q0a (q0y (q8q rfl) (by rfl) T.b_list (by decide +kernel) (q0a (q0y z7r (by rfl) T.b_range (by decide +kernel) (q0a q0g q0d)) q0d)) q0d))) q0d)))) (@q1u _ _ _ _ (2) _ K rfl rfl (q0j (q0h (i:=5) sc_one.nd rfl (by trivial)) (q0j (q0h (i:=6) sc_one.nd rfl (by trivial)) q1e)) (by rfl) (by rfl))) (q0c (q0o (i:=7) sc_one.nd rfl (by trivial) (pe_c C.things_by hr (q0a (pv 3) q0d))) (q0c (q0o (i:=8) sc_one.nd rfl (by trivial) (pe_k C.k_Hall hr (q0a (q1o ["_law_path"] [("_law_marks",7)] rfl (@q4l _ _ _ _ K rfl (q0i (q8c hr) (by rfl) T.b_sorted (by decide +kernel) (q0a (pv 7) q0d))) (fun _ _ _ _ _=>(q0h (i:=0) (show(["_law_path", "_law_marks"]:List Str).Nodup by decide +kernel) rfl (by trivial))) (fun _ _ _ _ _=>q1f) (fun _ _ _ _ _=>(q1z (q0a (pv 0) (q0a (z1k (q7j hr) (pv 1) (pv 0) (fun _ _=>rfl)) q0d))))) (q0a (pv 1) q0d)))) (q0c (q0o (i:=9) sc_one.nd rfl (by trivial) (q0p q0q q0g (pe_c C.draw hr (q0a (pv 0) (q0a q0g q0d))))) (q0c (q0o (i:=10) sc_one.nd rfl (by trivial) (x3s C.k_Doer hr (q0a (pv 8) (q0a (pv 5) q0d)))) (q2j (q1d (pe_m C.m_do hr (pv 10) (q0a (pv 9) q0d))) (q0c (q0o (i:=11) sc_one.nd rfl (by trivial) (q3u C.m_book hr (pv 10))) (q0c (q1j (pt_j (@PW.pt _ _ _ (q7i (q0s op_le (q0i (q1v K rfl) (by rfl) T.b_len Bk (q0a (pv 11) q0d)) q0g (nomark _)) (q4h (q4i (@q4m _ _ _ K rfl (pe_c C.stands_so hr (q0a (pv 10) (q0a (pv 5) (q0a (pv 6) (q0a (pv 9) q0d))))) (fun _=>rfl))))))) (q0f (q0k q4g)) q0n) (q0c (q0o (i:=12) sc_one.nd rfl (by trivial) (q0r (sl_k K rfl) (q1m (ix_k K rfl) (pe_c C.stop hr (q0a (pv 5) (q0a (q0p q0q (pv 9) q0g) q0d))) q0g (fun _ _=>rfl)) (q0t (q0i (q1v K rfl) (by rfl) T.b_len Bk (q0a (pv 11) q0d))) (q0t (q4j q2b q0g)))) (q2j (q0o (i:=13) sc_one.nd rfl (by trivial) (q0p q0q (pv 11) (q0r (sl_k K rfl) (pv 12) q0w (q0t (q0p q3y (pe_c C.draw hr (q0a (pv 0) (q0a (q0p q0q (q0i (q1v K rfl) (by rfl) T.b_len Bk (q0a (pv 12) q0d)) q0g) q0d))) (pe_c C.draw hr (q0a (pv 0) (q0a q0g q0d)))))))) (q0c (q0o (i:=14) sc_one.nd rfl (by trivial) (pe_c C.begun_again hr (q0a (q3u C.m_hall hr (pv 10)) (q0a (pv 13) q0d)))) (q0c (q1j (q4i (@q4m _ _ _ K rfl (pe_c C.stands_so hr (q0a (pv 14) (q0a (pv 5) (q0a (pv 6) (q0a (pv 9) q0d))))) (fun _=>rfl))) (q0f (q0k q4g)) q0n) (q2j (q1d (pe_m C.m_do hr (pv 14) (q0a q0g q0d))) (q0c (q1j (pt_j (@PW.pt _ _ _ (q7i (q4i (@q4m _ _ _ K rfl (pe_c C.stands_so hr (q0a (pv 14) (q0a (pv 5) (q0a (pv 6) (q0a q0g q0d))))) (fun _=>rfl))) (q4h (q0s (ne_k K rfl hr) (q3u C.m_is_blind hr (q3u C.m_hall hr (pv 14))) (pv 1) (nomark _)))))) (q0f (q0k q4g)) q0n) (q0c (q0o (i:=15) sc_one.nd rfl (by trivial) (q1m (ix_k K rfl) (pe_c C.stop hr (q0a (pv 5) (q0a (pv 9) q0d))) q0g (fun _ _=>rfl))) (q0c (q0o (i:=16) sc_one.nd rfl (by trivial) (pe_c C.way_back hr (q0a (q3u C.m_hall hr (pv 10)) (q0a (pv 13) q0d)))) (q0c (q1d (pe_m C.m_do hr (pv 16) (q0a q0g q0d))) (q2j (q0o (i:=17) sc_one.nd rfl (by trivial) (pe_rev K rfl (q1o ["_law_path", "_law_place"] [] rfl (@q4l _ _ _ _ K rfl (q0r (sl_k K rfl) (pv 5) q0w (q0t (pv 15)))) (fun _ _ _ _ _=>(@q1u _ _ _ _ (2) _ K rfl rfl (q0j (q0h (i:=0) (show(["_law_path", "_law_place"]:List Str).Nodup by decide +kernel) rfl (by trivial)) (q0j (q0h (i:=1) (show(["_law_path", "_law_place"]:List Str).Nodup by decide +kernel) rfl (by trivial)) q1e)) (by rfl) (by rfl))) (fun _ _ _ _ _=>q1f) (fun _ _ _ _ _=>(q1z (q0a (pv 1) (q0a (pv 0) q0d))))) (q0t (q4j q2b q0g)))) (q0c (q1j (pt_j (@PW.pt _ _ _ (q7i (q0s (ne_k K rfl hr) (q3u C.m_book hr (pv 16)) (q1m (ix_k K rfl) (pe_c C.stop hr (q0a (pv 17) (q0a (q0p q0q (q0p q3y q0g (pv 15)) q0g) q0d))) q0g (fun _ _=>rfl)) (nomark _)) (q4h (q0s (ne_k K rfl hr) (q3u C.m_left hr (pv 16)) q0g (nomark _)))))) (q0f (q0k q4g)) q0n) (q0f (q0k (pe_j (z2p (pe_c C.rows_right hr (q0a (q3u C.m_hall hr (pv 16)) (q0a (pv 7) q0d))) (q9d (pe_c C.rows_right hr (q0a (pv 8) (q0a (pv 7) q0d))))))))))))))))))))))))))))))),?_⟩;refine⟨_,rfl,a,b,_,rfl,F,by decide,by decide,fun r0 H1 r00 r01 fd1=>.inl ⟨rfl,?_⟩⟩;generalize decide (V.int r0=V.int 0)=bl;refine⟨_,rfl,a,b,_,rfl,fd1.feed,by decide,by decide,fun r1 H2 r10 r11 fd2=>?_⟩;obtain⟨i,rfl,hi⟩:∃i:Nat,r1=(i:Int)/\i<=9:=⟨r1.toNat,by lia,by lia⟩
  have f2:=fd1.trans fd2;refine⟨60,rfl,by decide,by decide,fun N hN=>?_⟩;have hNa:N≠a:=(f2.feed.na hN).symm;refine q2n (n:=60) (fun j ys H'=>∃ns:List (List Nat),ys=vP ns/\ns.length=j/\NmI i 0 ns/\Fd a b H2 H'/\H' N=some (.lst ys)) ⟨[],rfl,rfl,(fun q hq=>by cases hq),(Fd.refl f2.feed).new hN,q0b⟩ (fun j ys H' x=>by obtain⟨_,_,_,_,_,h⟩:=x;exact h) ?_ ?_
  ·rintro j ys H' hj ⟨ns,rfl,hl,nm,fd,hHN⟩;refine⟨_,rfl,_,rfl,_,rfl,a,b,i,j,by rw[La];rfl,fd.feed,hi,by lia,fun t H3 ht hc fd3=>?_⟩;refine⟨fd3.at hHN hNa,small' (by rw[q1i];lia),ns++[nam i t j],by show _=(ns++[_]).map _;rw[Al];rfl,by rw[Af,hl];rfl,?_,(fd.trans fd3).put f2.feed hN,q0b⟩;have:=nm.snoc ht hc;rw[hl,Qq] at this;exact this
  rintro ys H3 ⟨ns,rfl,ln,hn,fd3,hN3⟩;have f3:=f2.trans fd3;refine⟨60,rfl,by decide,by decide,fun Fr hFr=>?_⟩;have hFra:Fr≠a:=(f3.feed.na hFr).symm;have hFN:N≠Fr:=fun z=>by rw[<- z,hN3] at hFr;cases hFr
  refine q2n (n:=60) (fun j ys H'=>∃fr:List (List Nat),ys=vP fr/\fr.length=j/\NmI i 100 fr/\Fd a b H3 H'/\H' Fr=some (.lst ys)) ⟨[],rfl,rfl,(fun q hq=>by cases hq),(Fd.refl f3.feed).new hFr,q0b⟩ (fun j ys H' x=>by obtain⟨_,_,_,_,_,h⟩:=x;exact h) ?_ ?_
  ·rintro j ys H' hj ⟨fr,rfl,hl,nm,fd,hHN⟩;refine⟨_,rfl,_,rfl,_,rfl,.inl ⟨_,_,rfl,rfl,a,b,i,100+j,by rw[La];rfl,fd.feed,hi,by lia,fun t H4 ht hc fd4=>?_⟩⟩;refine⟨fd4.at hHN hFra,small' (by rw[q1i];lia),fr++[nam i t (100+j)],by show _=(fr++[_]).map _;rw[Al];rfl,by rw[Af,hl];rfl,?_,(fd.trans fd4).put f3.feed hFr,q0b⟩;have:=nm.snoc ht hc;rw[hl] at this;exact this
  rintro ys H4 ⟨fr,rfl,lf,hf,fd4,hF4⟩;have f4:=f3.trans fd4;have hN4:=fd4.at hN3 hNa;refine⟨_,rfl,_,rfl,_,rfl,60,rfl,fun pr hpr=>?_⟩;have s5:=(Same.refl H4).new (o:=.rng 0 60) hpr;have hpr5:upd H4 pr (.rng 0 60) pr=some (.rng 0 60):=q0b;generalize upd H4 pr (.rng 0 60)=H5 at s5 hpr5;refine⟨pr,0,60,rfl,hpr5,by decide,by decide,fun O hO=>?_⟩;have eO:((List.range ((60:Int)-0).toNat).map fun k:Nat=>V.int ((0:Int)+(k:Nat)))=vI (List.range 60):=by
   show(List.range 60).map _=(List.range 60).map _;exact Cu fun k _=>by rw[La]
  rw[eO];have s6:=(Same.refl H5).new (o:=.lst (vI (List.range 60))) hO;have hO6:upd H5 O (.lst (vI (List.range 60))) O=some (.lst (vI (List.range 60))):=q0b;generalize upd H5 O (.lst (vI (List.range 60)))=H6 at s6 hO6;have s46:=s5.trans s6;have f6:=f4.same s46;refine⟨a,b,O,_,rfl,f6.feed,hO6,by rw[De];decide,fun O2 o H7 fd7 hO2 hO7 pm=>?_⟩;have f7:=f6.trans fd7;have hN7:=fd7.at (s46 _ _ hN4) hNa;have hF7:=fd7.at (s46 _ _ hF4) hFra;have due:Due fr ns o:=hn.due hi hf ln lf pm;have ol:o.length=60:=by rw[pm.length_eq,De]
  refine⟨N,Fr,O2,ns,fr,o,rfl,hN7,hF7,hO7,due,by lia,by lia,by lia,fun T8 R S zs ds H8 s8 hR hS hds mr em st hT8=>?_⟩;refine⟨T8,_,rfl,SqT.of hT8,rfl,_,_,rfl,_,_,rfl,rfl,?_⟩;have f8:=f7.same s8;have lz:zs.length=60:=by have:=congrArg List.length em;rw[Aa,q7f,ol] at this;exact this
  refine⟨_,rfl,N,ns,rfl,s8 _ _ hN7,due.n,by lia,fun m H9 hm s9 hm9=>?_⟩;have f9:=f8.same s9;have mr9:=mr.same s9;have st9:=st.same s9;have hlT:Hl bl (th ns):=z8a due.n;have tl60:(th ns).length=60:=by rw[z3u,ln]
  refine⟨_,rfl,m,_,rfl,hm9,by rw[Aa,tl60];decide,fun r hr=>?_,fun L2 bs ps hL2 hp2 hs2 pts=>?_⟩
  ·obtain⟨y,hy,rfl⟩:=Am.mp hr;exact(hlT.ok y hy).ne
  have sA:=(Same.refl H9).new (o:=.lst (bs.map V.ref)) hL2;have hLL:upd H9 L2 (.lst (bs.map V.ref)) L2=some (.lst (bs.map V.ref)):=q0b;generalize upd H9 L2 (.lst (bs.map V.ref))=HA at sA hLL;refine .inl ⟨L2,rfl,⟨_,SqL.of hLL⟩,fun Dl hDl=>?_⟩;have hps:((th ns).map rR).map (·.1)=(th ns).map (·.1):=by rw[Bd];rfl
  rw[hps] at hp2;have hbl:bs.length=ps.length:=q5a pts;have hpl:ps.length=60:=by rw[hp2.length_eq,Aa,tl60]
  refine q2i (xs:=bs.map V.ref) (fun i ys H3=>∃ws:List Zr,ys=ws.map (fun z=>V.ref z.1)/\ws.map (fun z=>z.2.1)=ps.take i/\(∀w∈ws,w.2∈th ns/\PR H3 w.1 (rR w.2))/\Same HA H3/\H3 Dl=some (.lst ys)/\i<=ps.length)
   ⟨[],rfl,rfl,(fun _ h=>nomatch h),(Same.refl HA).new hDl,q0b,Br _⟩ (fun i ys H3 ⟨ws,_,_,_,s3,h3,_⟩=>⟨h3,SqL.of (s3 _ _ hLL)⟩) ?_ ?_
  ·rintro i ys H3 v hv ⟨ws,rfl,hw1,hw2,s3,h3,hile⟩;obtain⟨b,hb,rfl⟩:∃b,bs[i]?=some b/\v=.ref b:=by
    rw[Au] at hv;cases e:bs[i]? with
    |none=>rw[e] at hv;cases hv
    |some z=>rw[e] at hv;cases hv;exact⟨z,rfl,rfl⟩
   obtain⟨p,hp3,hbp⟩:=Dp.at' pts hb;have hi':i<ps.length:=(Ax.mp hp3).1;obtain⟨r,hr,rfl⟩:=Am.mp (hp2.mem_iff.mp (Aq hp3));have hb3:=s3 _ _ (sA _ _ hbp);have hm3:=s3 _ _ (sA _ _ hm9);have hval:=q7b (rs:=(th ns).map rR) (r:=rR r) (Am.mpr ⟨r,hr,rfl⟩) (by rw[hps];exact hlT.paths);have hg:=DGet.t (k:=kP r.1) hm3 (by rw[q6w];exact hb3);rw[show valV (((th ns).map rR).map fun r=>(kP r.1,r.2)) (kP r.1)=some (mV r.2) from hval] at hg;refine⟨_,rfl,_,rfl,_,rfl,m,_,rfl,hg,by show 2<=sizeLine;decide,fun Tn hTn=>?_⟩;have sT:=(Same.refl H3).new (o:=.tup [.ref b,mV r.2]) hTn;have hwl:ws.length=i:=by rw[<- Aa (f:=fun z:Zr=>z.2.1),hw1,An];lia
   have hDT:Dl≠Tn:=fun z=>by rw[z,hTn] at h3;cases h3
   have tk:∀S xs,upd H3 Tn (.tup [.ref b,mV r.2]) S=some (.tup xs)->upd (upd H3 Tn (.tup [.ref b,mV r.2])) Dl (.lst (ws.map (fun z=>V.ref z.1)++[.ref Tn])) S=some (.tup xs):=fun S xs e=>by
    rw[q0e (fun z=>by rw[z,q0e hDT,h3] at e;cases e)];exact e
   refine⟨by rw[q0e hDT];exact h3,small' (by rw[Aa];lia),ws++[(Tn,r)],by rw[Al];rfl,?_,fun w hw=>?_,(s3.trans sT).put hDl,q0b,hi'⟩
   ·rw[Al,hw1,Bm,hp3];rfl
   ·rcases Ay.mp hw with hw|hw
    ·exact⟨(hw2 w hw).1,PR.same (PR.same (hw2 w hw).2 fun S xs e=>sT _ _ e) tk⟩
    ·rw[Az.mp hw];exact⟨hr,b,tk _ _ q0b,tk _ _ (sT _ _ hb3)⟩
  rintro ys HB1 ⟨ws,rfl,hw1,hw2,sB,hDB,_⟩;rw[Aa,hbl,Bj] at hw1;have hw1':(ws.map (·.2)).map (·.1)=ps:=by rw[Bd];exact hw1
  have pmW:(ws.map (·.2)).Perm (th ns):=by
   obtain⟨l,q1,q2⟩:=SB.perm_map_inv (g:=fun r:Rw=>r.1) hp2 rfl;have:ws.map (·.2)=l:=q8y hlT.paths (fun r hr=>by obtain⟨w,hw,rfl⟩:=Am.mp hr;exact(hw2 w hw).1) (fun r hr=>q1.mem_iff.mp hr) (by rw[hw1'];exact q2);rw[this];exact q1
  have rlB:RL HB1 Dl ws:=⟨hDB,fun w hw=>(hw2 w hw).2⟩
  have sAB:=sA.trans sB;refine⟨_,rfl,fun h0 dx0 hh0 hdx0 n0=>?_⟩;refine⟨h0,dx0,Dl,bl,ws,rfl,q0b,z7v rlB hh0 hdx0,hlT.perm pmW,by have:=pmW.length_eq;rw[Aa] at this;lia,fun d0 HC hd0 i1 i2 i3=>⟨rfl,?_⟩⟩;obtain⟨sC,_⟩:=z0p hh0 hdx0 hd0 i3;have haC:HallAt c HC h0 d0 bl (ws.map (·.2)):=⟨⟨dx0,i1⟩,i2⟩
  generalize hRh:ws.map (·.2)=Rh at pmW haC;have s9C:=sAB.trans sC;have f9C:=f9.same s9C;have h60:Rh.length<=60:=by rw[pmW.length_eq,tl60];decide
  have okT:WkOk bl (th ns) (zs.map (·.2)):=by rw[em];exact x2g due
  have okR:WkOk bl Rh (zs.map (·.2)):=okT.perm pmW;clear i1 i2 i3 hd0 hh0 hdx0 n0 rlB hw2 hDB hp2 hs2 pts hLL sA sB sAB sC hL2 hDl;refine⟨_,rfl,a,b,_,rfl,f9C.feed,by decide,by decide,fun r2 HD r20 r21 fdD=>.inl ⟨_,_,rfl,rfl,?_⟩⟩;obtain⟨n,en,ge0,le0⟩:∃n:Nat,(62:Int)+r2=(n:Int)/\62<=n/\n<=181:=⟨62+r2.toNat,by lia,by lia,by lia⟩
  rw[en];have hRH:H R=none:=f7.free hR;have hSH:H S=none:=f7.free hS;have hmH:H m=none:=f8.free hm;have hdsH:∀d∈ds,H d=none:=fun d hd=>f7.free (hds d hd);have haD:=z1y haC f9C.feed fdD;have mrD:=(mr9.same s9C).fd f9C.feed fdD (F.na hRH).symm;have stD:StN HD S ds fr ns o:=⟨fdD.at (s9C _ _ st9.at_) (F.na hSH).symm,st9.len,fun i d e=>fdD.at (s9C _ _ (st9.pr i d e)) (F.na (hdsH d (Aq e))).symm⟩
  have hmD:HD m=some (dR ((th ns).map rR)):=fdD.at (s9C _ _ hm9) (F.na hmH).symm;have fD:=f9C.trans fdD;clear st9 mr9 hm9 haC;refine⟨_,rfl,_,rfl,fun x dx hx hdx nx=>?_⟩;have sx:Same HD (upd (upd HD dx (.own x)) x (.ins cD dx [])):=fun y u e=>by
   rw[q0e (fun z=>by rw[z,hx] at e;cases e),q0e (fun z=>by rw[z,hdx] at e;cases e)];exact e
  refine⟨x,dx,h0,d0,R,bl,Rh,zs,rfl,q0b,haD.same sx,h60,mrD.same sx,okR,by lia,fun h1 d1 L1 HE hh1 hL1 kp da=>⟨rfl,?_⟩⟩;have sE:Same HD HE:=fun y u e=>kp y u (fun z=>by rw[z,hx] at e;cases e) (sx _ _ e);have n1:h0≠x:=fun z=>by obtain⟨_,e⟩:=haD.i;rw[z,hx] at e;cases e
  have n2:h0≠h1:=fun z=>by obtain⟨_,e⟩:=(haD.same sx).i;rw[z,hh1] at e;cases e
  have tE:T9 c cD H a b h0 d0 m S R bl Rh fr ns o ds zs x h1 L1 0 HE:=⟨fD.same sE,haD.same sE,sE _ _ hmD,stD.same sE,mrD.same sE,⟨d1,zs,da,rfl⟩,fD.free hx,fD.free (sx.free hh1),fD.free (sx.free hL1),hmH,hSH,hRH,hdsH,n1,n2⟩
  obtain⟨dxE,hxE⟩:=da.i;refine⟨fun σ' H'=>σ'=[some (.ref a),some (.bl bl),some (.int (i:Int)),some (.ref N),some (.ref Fr),some (.ref R),some (.ref S),some (.ref m),some (.ref h0),some (.int (n:Int)),some (.ref x),none,none,none,none,none,none,none]/\∃d2,T9 c cD H a b h0 d0 m S R bl Rh fr ns o ds zs x h1 L1 n H'/\DoAt c cD H' x h1 d2 L1 bl Rh zs n,?_,?_⟩;rotate_left
  ·refine⟨_,rfl,x,dxE,_,rfl,hxE,rfl,_,rfl,x,h1,d1,L1,bl,Rh,zs,0,n,rfl,da,fun d2 HF kpF daF=>?_⟩;have tF:=tE.kp F kpF daF rfl;rw[show min (3*zs.length+1) (0+n)=n from by lia] at tF daF;exact⟨rfl,d2,tF,daF⟩
  clear tE da kp hxE sE sx haD mrD stD hmD fD;rintro σ' HF ⟨rfl,d2,tF,daF⟩;have okm:okMs (zs.map (·.2)):=q5h okR;have lm:(zs.map (·.2)).length<=100:=by rw[Aa];lia
  obtain⟨dxF,hxF⟩:=daF.i;refine⟨_,rfl,x,dxF,_,rfl,hxF,rfl,x,h1,d2,L1,bl,Rh,zs,n,rfl,daF,fun HG sG=>?_⟩;have tG:=tF.same sG;have daG:=daF.same sG;have long:9270<=(bkN (zs.map (·.2)) n).length:=by
   rw[em];exact x4n pm ln hn.l12 (fun k hk=>by obtain⟨t,h1,_,h3⟩:=hf k (by lia);rw[h3];exact z8z h1) (by lia)
  have lb:=z8v okm lm n;have lb1:=z8v okm lm (n+1);refine⟨fun bb H'=>bb=false/\Same HG H',?_,?_⟩;rotate_left
  ·refine⟨_,rfl,_,_,rfl,⟨small (by rw[q0l];lia),rfl⟩,_,_,rfl,rfl,_,rfl,?_⟩;rw[decide_eq_false (by rw[q0l];lia)];exact iteF ⟨_,rfl,_,rfl,_,rfl,_,rfl,x,h1,d2,L1,R,S,bl,Rh,zs,zs,ds,fr,ns,o,n,rfl,daG,tG.r,rfl,tG.s,em,due,pmW.symm,by lia,fun H' s'=>⟨true,rfl,rfl,s'⟩⟩
  rintro bb HH ⟨rfl,sH⟩;refine iteF ?_;have tH:=tG.same sH;have daH:=daG.same sH;obtain⟨e,ee,he⟩:=x4o (zs.map (·.2)) n;refine⟨_,rfl,_,rfl,.inl ⟨_,_,rfl,rfl,R,zs,n+1,rfl,tH.r,okm,by lia,by lia,fun T1 HI _ sI hT1=>?_⟩⟩;refine .inr (.inl ⟨T1,_,0,_,rfl,rfl,SqT.of hT1,rfl,_,rfl,_,_,rfl,⟨small (by rw[q0l];lia),rfl⟩,_,rfl,_,rfl,_,rfl,.inl ⟨_,rfl,small (by rw[q0l];lia),?_⟩⟩);rw[q0l,x1i (by rw[ee,Af];lia)];have el:((bkN (zs.map (·.2)) (n+1)).drop (bkN (zs.map (·.2)) n).length).dropLast=e.dropLast:=by rw[ee,List.drop_left]
  rw[el];have h10:(10:Nat)∉e.dropLast/\e.dropLast.length<=200:=by
   rcases he with rfl|⟨l,hl,rfl⟩
   ·exact⟨by simp,by simp⟩
   ·rw[Fu];exact⟨z0w okm l hl,q4t okm (by lia) l hl⟩
  generalize e.dropLast=q at h10;have tI:=tH.same sI;refine⟨fun σ' H'=>∃l p,σ'=[some (.ref a),some (.bl bl),some (.int (i:Int)),some (.ref N),some (.ref Fr),some (.ref R),some (.ref S),some (.ref m),some (.ref h0),some (.int (n:Int)),some (.ref x),some (.str (mk (bkN (zs.map (·.2)) n))),l,some (.str (mk (bkN (zs.map (·.2)) n++p))),none,none,none,none]/\T9 c cD H a b h0 d0 m S R bl Rh fr ns o ds zs x h1 L1 n H'/\(10:Nat)∉p/\p.length<=1000,?_,?_⟩;rotate_left
  ·refine⟨_,rfl,_,rfl,_,rfl,_,rfl,_,_,rfl,⟨small (by rw[q0l];lia),rfl⟩,.inl ⟨_,_,rfl,rfl,a,b,_,rfl,tI.fd.feed,by rw[q0l];lia,by rw[q0l];lia,fun r3 HJ r30 r31 fdJ=>?_⟩⟩;rw[q0l] at r31;have tJ:=tI.go F fdJ;refine⟨_,rfl,a,b,_,rfl,tJ.fd.feed,by decide,by decide,fun r4 HK r40 r41 fdK=>.inl ⟨_,_,rfl,rfl,.inr ⟨by lia,by lia⟩,?_⟩⟩;have tK:=tJ.go F fdK;obtain⟨j,hj,jl⟩:∃j:Nat,r3*r4=(j:Int)/\j<=q.length:=by
    have:r4=0\/r4=1:=by lia
    rcases this with rfl|rfl
    ·exact⟨0,by lia,Br _⟩
    ·exact⟨r3.toNat,by lia,by lia⟩
   rw[hj];refine⟨_,rfl,.inl ⟨_,rfl,small (by rw[q0l];lia),?_⟩⟩;rw[z2x (x:=mk q) (by lia) (by rw[q0z];lia),q0z,Bu];refine .inr (.inl ⟨_,_,rfl,rfl,small (by rw[q0l,q0l,An];lia),?_⟩);rw[q1r];exact⟨_,q.take j,rfl,tK,fun z=>h10.1 (Bc z),by rw[An];lia⟩
  clear tI tH tG tF daG daF daH hxF;rintro σ' HK ⟨l,p,rfl,tK,hp,hpl⟩;obtain⟨dK,zsK,daK,ezK⟩:=tK.dd;have lzK:zsK.length=60:=by have:=congrArg List.length ezK;rw[Aa,Aa] at this;lia
  obtain⟨dxK,hxK⟩:=daK.i;refine⟨_,rfl,x,dxK,_,rfl,hxK,rfl,x,h1,dK,L1,bl,Rh,zsK,n,rfl,daK,fun g dg rg HL sL gn hg pg=>?_⟩;have tL:=tK.same sL;rw[ezK,lzK] at pg;have hb:HB c HL g dg bl Rh rg (zs.map (·.2)) n p:=⟨hg,by rw[Aa,lz];exact pg,okR,h60,by rw[Aa];lia,by rw[Aa];lia,by rw[Aa];lia,hp,hpl⟩
  refine⟨_,rfl,g,dg,bl,Rh,rg,zs.map (·.2),n,p,rfl,hb,fun y g2 dg2 M zs2 HM yn g2n Mn sM daM ezM=>?_⟩;have tM:=tL.same sM;have lzM:zs2.length=60:=by have:=congrArg List.length ezM;rw[Aa,Aa] at this;lia
  have em2:zs2.map (·.2)=mvs fr ns o:=ezM.trans em;refine⟨_,rfl,_,rfl,_,rfl,_,rfl,y,g2,dg2,M,R,S,bl,Rh,zs2,zs,ds,fr,ns,o,n,rfl,daM,tM.r,ezM.symm,tM.s,em2,due,pmW.symm,by lia,fun HN' sN=>⟨true,rfl,iteF ?_⟩⟩;have tN:=tM.same sN;have daN:=daM.same sN;obtain⟨dyN,hyN⟩:=daN.i;obtain⟨dyN',fyN,dgN,fgN,hyN',hgN⟩:=daN.ins;refine⟨fun σ' H'=>σ'=[some (.ref a),some (.bl bl),some (.int (i:Int)),some (.ref N),some (.ref Fr),some (.ref R),some (.ref S),some (.ref m),some (.ref h0),some (.int (n:Int)),some (.ref x),some (.str (mk (bkN (zs.map (·.2)) n))),l,some (.str (mk (bkN (zs.map (·.2)) n++p))),some (.ref y),none,none,none]/\∃d5,T9 c cD H a b h0 d0 m S R bl Rh fr ns o ds zs x h1 L1 n H'/\DoAt c cD H' y g2 d5 M bl Rh zs2 181,?_,?_⟩;rotate_left
  ·refine⟨_,rfl,y,dyN,_,rfl,hyN,rfl,y,g2,dg2,M,bl,Rh,zs2,n,181,rfl,daN,fun d5 HO1 kpO daO=>?_⟩;rw[lzM,show min (3*60+1) (n+181)=181 from by lia] at daO;have nfr:∀{w u:Addr} {ob:HO},HL w=none->HL u=some ob->u≠w:=fun{w u ob} e1 e2 z=>by rw[z,e1] at e2;cases e2
   obtain⟨_,_,daL,_⟩:=tL.dd;obtain⟨_,_,_,_,j1,j2⟩:=daL.ins;obtain⟨_,j3⟩:=tL.ha.i;have tO:=tN.other F kpO hyN' hgN (tL.fd.free yn) (tL.fd.free g2n) (nfr yn j1) (nfr g2n j1) (nfr yn j2) (nfr g2n j2) (nfr yn j3) (nfr g2n j3);exact⟨rfl,d5,tO,daO⟩
  clear tN tM hb daM daN hyN hyN' hgN hg pg gn tL;rintro σ' HO1 ⟨rfl,d5,tO,daO⟩;refine⟨fun bb H'=>bb=false/\Same HO1 H',?_,?_⟩;rotate_left
  ·refine⟨_,rfl,_,rfl,_,rfl,y,g2,d5,M,R,S,bl,Rh,zs2,zs,ds,fr,ns,o,181,rfl,daO,tO.r,ezM.symm,tO.s,em2,due,pmW.symm,by lia,fun HP sP=>⟨true,rfl,iteF ?_⟩⟩;have daP:=daO.same sP;obtain⟨dyP,hyP⟩:=daP.i;refine⟨_,rfl,y,dyP,_,rfl,hyP,rfl,y,g2,d5,M,bl,Rh,zs2,181,rfl,daP,fun g3 dg3 rg3 HQ sQ _ hg3 pg3=>?_⟩;obtain⟨dh,hi3⟩:=hg3.i;refine⟨g3,dh,_,rfl,hi3,rfl,g3,dg3,bl,rg3,rfl,hg3,_,rfl,.inl ⟨by cases bl<;>rfl,_,rfl,?_,sP.trans sQ⟩⟩;rw[decide_eq_true rfl];rfl
  rintro bb HP ⟨rfl,sP⟩;refine iteF ?_;have tP:=tO.same sP;refine⟨_,rfl,_,rfl,R,zs,n,rfl,tP.r,okm,by lia,by lia,fun T2 HQ _ sQ hT2=>?_⟩;refine .inr (.inl ⟨T2,_,1,_,rfl,rfl,SqT.of hT2,rfl,?_⟩);have tQ:=tP.same sQ;obtain⟨dQ,zsQ,daQ,ezQ⟩:=tQ.dd;have lzQ:zsQ.length=60:=by have:=congrArg List.length ezQ;rw[Aa,Aa] at this;lia
  obtain⟨dxQ,hxQ⟩:=daQ.i;refine⟨_,rfl,x,dxQ,_,rfl,hxQ,rfl,x,h1,dQ,L1,bl,Rh,zsQ,n,rfl,daQ,fun g dg rg HR sR gn hg pg=>?_⟩;rw[ezQ,lzQ] at pg;have tR:=tQ.same sR;have hb:HB c HR g dg bl Rh rg (zs.map (·.2)) n p:=⟨hg,by rw[Aa,lz];exact pg,okR,h60,by rw[Aa];lia,by rw[Aa];lia,by rw[Aa];lia,hp,hpl⟩
  refine⟨_,rfl,g,dg,bl,Rh,rg,zs.map (·.2),n,p,rfl,hb,fun z g4 dg4 M4 zs4 HS zn g4n M4n sS daS ezS=>?_⟩;have mdl:md 60 n<=60:=by unfold md;lia
  rw[Aa,lz] at ezS;have lzS:zs4.length=md 60 n:=by
   have:=congrArg List.length ezS;rw[Aa,x1x,An,Aa] at this;lia
  have tS:=tR.same sS;obtain⟨dzS,hzS⟩:=daS.i;obtain⟨dzS',fzS,dgS,fgS,hzS',hgS⟩:=daS.ins;refine⟨_,rfl,z,dzS,_,rfl,hzS,rfl,z,g4,dg4,M4,bl,rg,zs4,0,181,rfl,daS,fun d6 HT kpT daT=>?_⟩;rw[show min (3*zs4.length+1) (0+181)=3*zs4.length+1 from by lia] at daT;have nfr:∀{w u:Addr} {ob:HO},HR w=none->HR u=some ob->u≠w:=fun{w u ob} e1 e2 z=>by rw[z,e1] at e2;cases e2
  obtain⟨_,_,daR,_⟩:=tR.dd;obtain⟨_,_,_,_,j1,j2⟩:=daR.ins;obtain⟨_,j3⟩:=tR.ha.i;have tT:=tS.other F kpT hzS' hgS (tR.fd.free zn) (tR.fd.free g4n) (nfr zn j1) (nfr g4n j1) (nfr zn j2) (nfr g4n j2) (nfr zn j3) (nfr g4n j3);clear tS hb daS hzS hzS' hgS kpT gn j1 j2 j3 daR tR hg;have back:wk rg (zs4.map (·.2))=wk rg (tb ((zs.map (·.2)).take (md 60 n))):=by rw[ezS]
  have pback:(wk rg (tb ((zs.map (·.2)).take (md 60 n)))).Perm (th ns):=by
   have q:=z1s (tb ((zs.map (·.2)).take (md 60 n))) pg;rw[z1t (okR.take _).1] at q;exact q.trans pmW
  have lzi:(zs.length:Nat)=60:=lz;rw[lz];refine⟨fun σ' H'=>∃L6 us,σ'=[some (.ref a),some (.bl bl),some (.int (i:Int)),some (.ref N),some (.ref Fr),some (.ref R),some (.ref S),some (.ref m),some (.ref h0),some (.int (n:Int)),some (.ref x),some (.str (mk (bkN (zs.map (·.2)) n))),l,some (.str (mk (bkN (zs.map (·.2)) n++p))),some (.ref y),some (.int ((md 60 n:Nat):Int)),some (.ref z),some (.ref L6)]/\Same HT H'/\ML H' L6 us/\us.map (·.2)=tb ((zs.map (·.2)).take (md 60 n)),?_,?_⟩;rotate_left
  ·refine⟨_,rfl,_,rfl,_,rfl,.inr (.inl ⟨R,_,rfl,SqL.of tT.r.at_,fun L5 hL5=>?_⟩)⟩;rw[q2m];have mlU:=tT.r.pre hL5 (md 60 n);have sU:=(Same.refl HT).new (o:=.lst ((zs.map fun z=>V.ref z.1).take (md 60 n))) hL5;generalize upd HT L5 (.lst ((zs.map fun z=>V.ref z.1).take (md 60 n)))=HU at mlU sU;refine .inl ⟨L5,rfl,⟨_,SqL.of mlU.at_⟩,fun Dt hDt=>?_⟩;refine q6n (xs:=(zs.take (md 60 n)).map fun z=>V.ref z.1) (fun i ys H'=>∃us:List Zm,ys=us.map (fun z=>V.ref z.1)/\us.map (·.2)=(((zs.take (md 60 n)).map (·.2)).take i).map (fun m=>(m.2,m.1))/\(∀u∈us,MT H' u.1 u.2)/\Same HU H'/\H' Dt=some (.lst ys)) ⟨[],rfl,rfl,(fun _ h=>nomatch h),(Same.refl HU).new hDt,q0b⟩ (fun i ys H' x=>by obtain⟨_,_,_,_,s',h'⟩:=x;exact⟨h',SqL.of (s' _ _ mlU.at_)⟩) ?_ ?_
   ·rintro i ys H' v hv ⟨us,rfl,eu,hu,s',hD'⟩;obtain⟨w,hw,rfl⟩:∃w,(zs.take (md 60 n))[i]?=some w/\v=.ref w.1:=by
     rw[Au] at hv;cases e:(zs.take (md 60 n))[i]? with
     |none=>rw[e] at hv;cases hv
     |some w=>rw[e] at hv;cases hv;exact⟨w,rfl,rfl⟩
    obtain⟨A1,B1,q1,q2,q3⟩:=(mlU.same s').pr w (Aq hw);have e2:((zs.take (md 60 n)).map (·.2))[i]?=some w.2:=by rw[Au,hw];rfl
    have hil:i<(zs.take (md 60 n)).length:=(Ax.mp hw).1;rw[An] at hil;have ul:us.length=i:=by
     have:=congrArg List.length eu;rw[Aa,Aa,An,Aa,An] at this;lia
    refine⟨w.1,_,rfl,SqT.of q1,rfl,_,_,rfl,_,_,rfl,rfl,q2h,?_⟩;refine z1x (iteT ?_);refine⟨_,rfl,_,rfl,by show 2<=sizeLine;decide,fun T3 hT3=>?_⟩;have sT:=(Same.refl H').new (o:=.tup [.ref B1,.ref A1]) hT3;have mt:MT (upd H' T3 (.tup [.ref B1,.ref A1])) T3 (w.2.2,w.2.1):=⟨B1,A1,q0b,sT _ _ q3,sT _ _ q2⟩
    have hD3:=sT _ _ hD';have hu3:∀u∈us,MT (upd H' T3 (.tup [.ref B1,.ref A1])) u.1 u.2:=fun u hu'=>(hu u hu').keep fun S xs e=>sT _ _ e;generalize upd H' T3 (.tup [.ref B1,.ref A1])=H3 at sT mt hD3 hu3;have tk:∀S xs,H3 S=some (.tup xs)->upd H3 Dt (.lst (us.map (fun z=>V.ref z.1)++[.ref T3])) S=some (.tup xs):=fun S xs e=>by rw[q0e (fun z=>by rw[z,hD3] at e;cases e)];exact e
    refine⟨hD3,small' (by rw[Aa];lia),us++[(T3,(w.2.2,w.2.1))],by rw[Al];rfl,?_,fun u hu'=>?_,(s'.trans sT).put hDt,q0b⟩
    ·rw[Al,eu,Bm,e2,Al];rfl
    ·rcases Ay.mp hu' with hu'|hu'
     ·exact(hu3 u hu').keep tk
     ·rw[Az.mp hu'];exact mt.keep tk
   rintro ys HV ⟨us,rfl,eu,hu,sV,hDV⟩;rw[Aa,<- Aa (f:=fun z:Zm=>z.2),Bj] at eu;refine⟨_,rfl,_,rfl,Dt,_,rfl,rfl,SqL.of hDV,fun L6 hL6=>?_⟩;rw[<- Hx];have sW:=(Same.refl HV).new (o:=.lst (us.reverse.map fun z=>V.ref z.1)) hL6;have mlW:ML (upd HV L6 (.lst (us.reverse.map fun z=>V.ref z.1))) L6 us.reverse:=⟨q0b,fun u hu'=>(hu u (Sf.mp hu')).keep fun S xs e=>sW _ _ e⟩
   generalize upd HV L6 (.lst (us.reverse.map fun z=>V.ref z.1))=HW at sW mlW;have etb:us.reverse.map (·.2)=tb ((zs.map (·.2)).take (md 60 n)):=by
    unfold tb;rw[Hx,eu,Cp,Hx]
   exact⟨L6,us.reverse,rfl,(sU.trans sV).trans sW,mlW,etb⟩
  rintro σ' HW ⟨L6,us,rfl,sTW,mlW,etb⟩;have tW:=tT.same sTW;have daW:=daT.same sTW;have okS:okMs (zs4.map (·.2)):=q5h daW.ok;have lus:us.length=md 60 n:=by have:=congrArg List.length etb;rw[Aa,x1x,An,Aa] at this;lia
  obtain⟨dzW,hzW⟩:=daW.i;refine⟨fun bb H'=>bb=false/\Same HW H',?_,?_⟩;rotate_left
  ·refine⟨_,rfl,z,dzW,_,rfl,hzW,rfl,z,g4,d6,M4,bl,rg,zs4,_,rfl,daW,fun HX sX=>?_⟩;refine⟨_,rfl,_,rfl,.inl ⟨_,_,rfl,rfl,.inl ⟨by decide,by decide⟩,.inl ⟨_,_,rfl,rfl,L6,us,3*md 60 n+1,rfl,mlW.same sX,by rw[etb,<- ezS];exact okS,by lia,by lia,fun T4 HY _ sY hT4=>?_⟩⟩⟩;refine .inr (.inl ⟨T4,_,0,_,rfl,rfl,SqT.of hT4,rfl,.inl ⟨rfl,_,rfl,?_⟩⟩);rw[etb,ezS,lzS,decide_eq_true rfl];have sWY:=sX.trans sY;refine iteF ⟨_,rfl,z,dzW,_,rfl,sWY _ _ hzW,rfl,z,dzW,g4,M4,_,zs4,rfl,sWY _ _ hzW,(daW.same sWY).ml,.inl ⟨rfl,_,rfl,?_,sWY⟩⟩;rw[decide_eq_true (show V.int (3*(zs4.length:Int)+1-((3*zs4.length+1:Nat):Int))=V.int 0 from by congr 1;lia)];rfl
  rintro bb HX ⟨rfl,sX⟩;refine iteF ?_;have tX:=tW.same sX;have daX:=daW.same sX;obtain⟨dzX,hzX⟩:=daX.i;refine⟨fun v H'=>v=.bl true/\Same HX H',?_,?_⟩
  ·rintro v H' ⟨rfl,s'⟩;exact k H' (tX.same s').fd
  have mfull:md zs4.length (3*zs4.length+1)=zs4.length:=by unfold md;lia
  refine⟨_,rfl,z,dzX,_,rfl,hzX,rfl,z,g4,d6,M4,bl,rg,zs4,_,rfl,daX,fun g5 dg5 rg5 HY sY _ hg5 pg5=>?_⟩;rw[mfull,<- Aa (f:=fun z:Zm=>z.2),Bj,back] at pg5;have p5:=pg5.trans pback;have q5:Hl bl rg5:=hlT.perm p5;refine⟨_,rfl,g5,m,dg5,bl,rg5,th ns,rfl,hg5,sY _ _ tX.mm,p5.symm,q5.paths,q5.ok,by rw[p5.length_eq];lia,fun HZ sZ=>⟨true,rfl,iteT ?_⟩⟩;have tZ:=(tX.same sY).same sZ;have qR:Hl bl Rh:=hlT.perm pmW;exact⟨_,rfl,_,rfl,h0,m,d0,bl,Rh,th ns,rfl,tZ.ha,tZ.mm,pmW.symm,qR.paths,qR.ok,by lia,fun H' s'=>⟨rfl,(sY.trans sZ).trans s'⟩⟩
structure CallsL (P:Program) (w:World) (K:Ag) (mg:Str->Option Value) (base:Heap):Prop where
 one:Cal P w K mg base "_law_one" 11 ["_law_feed"] spOne
def spLaw(K:Ag):Sp:=fun vs H Q _=>∃(a:Addr) (ns:List Int),vs=[.ref a]/\SqL K H a (ns.map V.int)/\ns.length<=63/\∀H',Q (.bl true) H'
abbrev q3l:Stmt:=top 50
theorem sc_law:FnScope ["_law_script"] ["_law_script"] (defScope q3l):=by trivial
theorem x1j(T:Txt mg)(C:CallsL P w K mg base)(f:Addr)(cdv:Value)(A:Around)(outer:List Env)(s:Ae)(H:Hp)(vs:List V)(Q:VK)(E:XK)(hr:Room 11 (A.deeper (PyProof.Rows.envOfC "law" (defScope q3l) s.heap.objs.size f cdv)))(h:spLaw K vs H Q E):
  ∃t,PSs (cxOf CX0 P w K mg base ["_law_script"] "law" (defScope q3l) f cdv A outer s H E).nox (defBody q3l) t/\t { nx:=fun _ H'=>Q .non H',rt:=Q } (L2.start ["_law_script"] vs) H:=by
  obtain⟨sc,ns,rfl,hS,hns,k⟩:=h;refine⟨_,(q0f (q0k (pe_c C.one hr (q0a (q6g (q0a (q0y (q7v K rfl) (by rfl) T.b_list (by decide +kernel) (q0a (pv 0) q0d)) (q0a q0g (q0a q0g q0d)))) q0d)))),?_⟩;refine⟨_,rfl,sc,_,rfl,.inl hS,fun b hb=>⟨by show 3<=sizeLine;decide,fun a ha=>?_⟩⟩;have nba:b≠a:=q0m q0b ha;have F:FeedAt (upd (upd H b (.lst (ns.map V.int))) a (.lst [.ref b,.int 0,.int 0])) a b:=⟨⟨0,0,q0b⟩,ns,by rw[q0e nba];exact q0b⟩
  exact⟨a,b,rfl,F,fun H' _=>k H'⟩
end
end K
set_option maxHeartbeats 4000000
namespace K
open PySem L2 TX SB HM PM
theorem df_mk{K:Ag}{mg:Str->Option Value}{h:Heap}{x:Str}{st:Stmt}{ps:List Str}{f:Addr}{oc:Value}{od an:Option Addr}{osl:Array (Option Value)}{kV doc pm cdv ct:Value}(X:K.In h)(G:h.Ns Cj mg)(a:W.nsIn K Cj x=some (some (.ref f)))(l:K.lookup f=some ⟨oc,od,.func (Gg x x (defArgs st) (defBody st) (defScope st) .none kV doc pm an cdv ct),osl⟩)(c:Hq K cdv x=true)(k:Fn K (.ref f)=true)(hb:∀(kV doc pm:Value) (an:Option Addr) (cdv ct:Value) (us:List Value),us.length=ps.length->bindArgs (Gg x x (defArgs st) (defBody st) (defScope st) .none kV doc pm an cdv ct) ⟨us,[]⟩=pure (ps.zip us)):Df K mg x st ps :=
 ⟨f,_,q7u l c k,Sy X G a,(q7u (st:=st) l c k).binds hb⟩
theorem mf_mk{K:Ag}{C:Addr}{m qual:Str}{st:Stmt}{ps:List Str}{f:Addr}{oc:Value}{od an:Option Addr}{osl:Array (Option Value)}{kV doc pm cdv ct:Value}(a:Cv K (.ref C) m=some (some (.ref f)))(l:K.lookup f=some ⟨oc,od,.func (Gg m qual (defArgs st) (defBody st) (defScope st) .none kV doc pm an cdv ct),osl⟩)(c:Hq K cdv qual=true)(k:Fn K (.ref f)=true)(i:Qg K (.ref f)=true)(hb:∀(kV doc pm:Value) (an:Option Addr) (cdv ct:Value) (us:List Value),us.length=ps.length->bindArgs (Gg m qual (defArgs st) (defBody st) (defScope st) .none kV doc pm an cdv ct) ⟨us,[]⟩=pure (ps.zip us)):Mf K C m qual st ps :=
 ⟨⟨f,_,q7u l c k,⟨a,i,k⟩,(q7u (st:=st) l c k).binds hb⟩⟩
theorem len_1{us:List Value}(h:us.length=1):∃x0,us=[x0]:=by
 match us,h with
 |[x0],_=>exact⟨x0,rfl⟩
theorem len_2{us:List Value}(h:us.length=2):∃x0 x1,us=[x0,x1]:=by
 match us,h with
 |[x0,x1],_=>exact⟨x0,x1,rfl⟩
theorem len_3{us:List Value}(h:us.length=3):∃x0 x1 x2,us=[x0,x1,x2]:=by
 match us,h with
 |[x0,x1,x2],_=>exact⟨x0,x1,x2,rfl⟩
theorem len_4{us:List Value}(h:us.length=4):∃x0 x1 x2 x3,us=[x0,x1,x2,x3]:=by
 match us,h with
 |[x0,x1,x2,x3],_=>exact⟨x0,x1,x2,x3,rfl⟩
theorem len_5{us:List Value}(h:us.length=5):∃x0 x1 x2 x3 x4,us=[x0,x1,x2,x3,x4]:=by
 match us,h with
 |[x0,x1,x2,x3,x4],_=>exact⟨x0,x1,x2,x3,x4,rfl⟩
theorem all_mk{lw:Tb}{w:World}{K:Ag}{h:Heap}{mg:Str->Option Value}{fa:Addr}(X:K.In h)(G:h.Ns Cj mg)(hfa:mg "law" = some (.ref fa)){f29:Addr}{od29 an29:Option Addr}{sl29:Array (Option Value)}{oc29 kV29 dc29 pm29 cd29 ct29:Value}{cHall:Addr}{fminit:Addr}{odminit anminit:Option Addr}{slminit:Array (Option Value)}{ocminit kVminit dcminit pmminit cdminit ctminit:Value}{dtminit:Addr}{tdminit:Option Addr}{tsminit:Array (Option Value)}{tnminit:Nat}{cDoer:Addr}{fminitDoer:Addr}{odminitDoer anminitDoer:Option Addr}{slminitDoer:Array (Option Value)}{ocminitDoer kVminitDoer dcminitDoer pmminitDoer cdminitDoer ctminitDoer:Value}(D_all_of:Df K mg "all_of" q7g ["text", "signs"])(D_is_name:Df K mg "is_name" q5g ["text"])(D_alike:Df K mg "alike" q8x ["one", "other"])(D_show_path:Df K mg "show_path" q2z ["path"])(D_read_path:Df K mg "read_path" q3a ["text"])(D_carried:Df K mg "carried" q5b ["path", "moved", "place"])(D_copied:Df K mg "copied" q7c ["hall"])(D_is_made:Df K mg "is_made" q5e ["hall", "path", "place"])(D_walk:Df K mg "walk" z1z ["hall", "row"])(D_turned_back:Df K mg "turned_back" q2d ["row"])(D_lines_of:Df K mg "lines_of" q4c ["row"])(D_read_move:Df K mg "read_move" q3f ["line"])(D_read_book:Df K mg "read_book" q3g ["text"])(D_is_made_without_line:Df K mg "is_made_without_line" q1b ["hall", "row", "done"])(D_read_stop:Df K mg "read_stop" q3h ["hall", "text"])(D_ask_rest:Df K mg "ask_rest" q4d ["hall", "row", "made"])(D_begun_again:Df K mg "begun_again" q2f ["hall", "text"])(D_way_back:Df K mg "way_back" q4e ["hall", "text"])(D_draw:Df K mg "_law_draw" z1v ["_law_feed", "_law_many"])(D_mixed:Df K mg "_law_mixed" q8w ["_law_feed", "_law_rows"])(D_rows_right:Df K mg "_law_rows_right" q2q ["_law_hall", "_law_marks"])(D_path_text:Df K mg "_law_path_text" q3b ["_law_path"])(D_stop:Df K mg "_law_stop" z2e ["_law_row", "_law_steps"])(D_long_name:Df K mg "_law_long_name" q3i ["_law_feed", "_law_at", "_law_number"])(D_spot_of:Df K mg "_law_spot_of" q5j ["_law_names", "_law_k"])(D_things_by:Df K mg "_law_things_by" q3j ["_law_names"])(D_moves_by:Df K mg "_law_moves_by" q4f ["_law_names", "_law_fresh", "_law_order"])(D_stands_so:Df K mg "_law_stands_so" q3k ["_law_doer", "_law_row", "_law_stands", "_law_steps"])(D_one:Df K mg "_law_one" z9a ["_law_feed"])(a29:W.nsIn K Cj "law" = some (some (.ref f29)))(l29:K.lookup f29=some ⟨oc29,od29,.func (Gg "law" "law" (defArgs q3l) (defBody q3l) (defScope q3l) .none kV29 dc29 pm29 an29 cd29 ct29),sl29⟩)(c29:Hq K cd29 "law" = true)(k29:Fn K (.ref f29)=true)(T:Txt mg)(gcHall:W.nsIn K Cj "Hall" = some (some (.ref cHall)))(pgcHall:Kr K cHall Fw=true)(hdcHall:Lm K cHall=true)(pocHall:Nu K cHall=true)(sacHall:Cv K (.ref cHall) "__setattr__" = some (some (.builtin "object.__setattr__")))(nacHall_blind:Cv K (.ref cHall) "blind" = some none)(nacHall_marks:Cv K (.ref cHall) "marks" = some none)(aminit:Cv K (.ref cHall) "__init__" = some (some (.ref fminit)))(lminit:K.lookup fminit=some ⟨ocminit,odminit,.func (Gg "__init__" "Hall.__init__" (defArgs q0x) (defBody q0x) (defScope q0x) (.ref dtminit) kVminit dcminit pmminit anminit cdminit ctminit),slminit⟩)(cminit:Hq K cdminit "Hall.__init__" = true)(kminit:Fn K (.ref fminit)=true)(iminit:Qg K (.ref fminit)=true)(mkcHall:Qh K cHall=true)(kccHall:Fn K (.ref cHall)=true)(tminit:K.lookup dtminit=some ⟨.type "tuple",tdminit,.seq #[.bool false] tnminit,tsminit⟩)(M_ask_drawer:Mf K cHall "ask_drawer" "Hall.ask_drawer" q1q ["self", "path"])(M_ask_thing:Mf K cHall "ask_thing" "Hall.ask_thing" q1t ["self", "path"])(M_is_blind:Mf K cHall "is_blind" "Hall.is_blind" q1w ["self"])(M_is_drawer:Mf K cHall "is_drawer" "Hall.is_drawer" q1s ["self", "path"])(M_is_one_place:Mf K cHall "is_one_place" "Hall.is_one_place" q1k ["self", "one", "other"])(M_move:Mf K cHall "move" "Hall.move" q2x ["self", "path", "place"])(M_rows:Mf K cHall "rows" "Hall.rows" q2w ["self"])(M_there:Mf K cHall "there" "Hall.there" q2p ["self", "place"])(gcDoer:W.nsIn K Cj "Doer" = some (some (.ref cDoer)))(pgcDoer:Kr K cDoer Fw=true)(hdcDoer:Lm K cDoer=true)(pocDoer:Nu K cDoer=true)(sacDoer:Cv K (.ref cDoer) "__setattr__" = some (some (.builtin "object.__setattr__")))(nacDoer_held:Cv K (.ref cDoer) "held" = some none)(nacDoer_moves:Cv K (.ref cDoer) "moves" = some none)(nacDoer_steps:Cv K (.ref cDoer) "steps" = some none)(aminitDoer:Cv K (.ref cDoer) "__init__" = some (some (.ref fminitDoer)))(lminitDoer:K.lookup fminitDoer=some ⟨ocminitDoer,odminitDoer,.func (Gg "__init__" "Doer.__init__" (defArgs q0u) (defBody q0u) (defScope q0u) .none kVminitDoer dcminitDoer pmminitDoer anminitDoer cdminitDoer ctminitDoer),slminitDoer⟩)(cminitDoer:Hq K cdminitDoer "Doer.__init__" = true)(kminitDoer:Fn K (.ref fminitDoer)=true)(iminitDoer:Qg K (.ref fminitDoer)=true)(mkcDoer:Qh K cDoer=true)(kccDoer:Fn K (.ref cDoer)=true)(M_book:Mf K cDoer "book" "Doer.book" q3d ["self"])(M_do:Mf K cDoer "do" "Doer.do" q5i ["self", "many"])(M_do_one:Mf K cDoer "do_one" "Doer.do_one" q2e ["self"])(M_hall:Mf K cDoer "hall" "Doer.hall" q3e ["self"])(M_left:Mf K cDoer "left" "Doer.left" q3c ["self"]):
  ∃fd:Ip,(∀(s:Ae) (v:Value),Oj s fd ⟨[v],[]⟩ [("_law_script",v)])/\∀base:Heap,K.In base->base.Ns Cj mg->FnOk lw.prog w K mg base CX0 12 fa fd ["_law_script"] (spLaw K):=by
 have e:=hfa.symm.trans (Sy X G a29);cases e;have clcHall:Cls K cHall:=⟨pgcHall,hdcHall,pocHall,sacHall⟩
 have K_Hall:Kf K mg cHall "Hall" "Hall.__init__" q0x ["self", "rows", "blind"]:=⟨⟨fminit,_,ocminit,odminit,.ref dtminit,kVminit,dcminit,pmminit,anminit,cdminit,ctminit,slminit,rfl,lminit,cminit,⟨mkcHall,aminit,iminit,kccHall⟩,fun s us Y hl=>by obtain⟨_,_,_,rfl⟩:=len_3 (by rw[Bv] at hl;exact hl:us.length=3);exact W.binds_K Y rfl tminit rfl rfl rfl,fun s us Y hl=>by obtain⟨_,_,rfl⟩:=len_2 (by rw[Af] at hl;exact Nat.succ.inj hl:us.length=2);exact W.binds_K Y rfl tminit rfl rfl rfl⟩,Sy X G gcHall,clcHall⟩
 have clcDoer:Cls K cDoer:=⟨pgcDoer,hdcDoer,pocDoer,sacDoer⟩
 have K_Doer:Kf0 K mg cDoer "Doer" "Doer.__init__" q0u ["self", "hall", "row"]:=⟨⟨fminitDoer,_,ocminitDoer,odminitDoer,.none,kVminitDoer,dcminitDoer,pmminitDoer,anminitDoer,cdminitDoer,ctminitDoer,slminitDoer,rfl,lminitDoer,cminitDoer,⟨mkcDoer,aminitDoer,iminitDoer,kccDoer⟩,(q7u (st:=q0u) lminitDoer cminitDoer kminitDoer).binds fun _ _ _ _ _ _ us hl=>by obtain⟨_,_,_,rfl⟩:=len_3 hl;rfl⟩,Sy X G gcDoer,clcDoer⟩
 have FL:=q7u (st:=q3l) l29 c29 k29;refine⟨Gg "law" "law" (defArgs q3l) (defBody q3l) (defScope q3l) .none kV29 dc29 pm29 an29 cd29 ct29,fun s v=>.of_eq rfl,fun base _ _=>?_⟩;have hk:Hk K cHall:=⟨clcHall,nacHall_blind,nacHall_marks⟩
 have dk:Dk K cDoer:=⟨clcDoer,nacDoer_held,nacDoer_moves,nacDoer_steps⟩
 have c1:=x3t (P:=lw.prog) (w:=w) (base:=base) D_draw T;have c5:=x0p (P:=lw.prog) (w:=w) (base:=base) D_mixed T ⟨c1⟩;have c6:=x0r (P:=lw.prog) (w:=w) (base:=base) D_alike T;have c7:=z0j (P:=lw.prog) (w:=w) (base:=base) M_is_one_place hk T ⟨c6⟩;have c8:=x0s (P:=lw.prog) (w:=w) (base:=base) M_there hk T ⟨c7⟩;have c9:=x3u (P:=lw.prog) (w:=w) (base:=base) K_Hall hk T ⟨c8⟩;have c10:=x0u (P:=lw.prog) (w:=w) (base:=base) M_rows hk T;have c11:=x0t (P:=lw.prog) (w:=w) (base:=base) M_is_blind hk T;have c12:=x0v (P:=lw.prog) (w:=w) (base:=base) D_rows_right T ⟨c10⟩;have c13:=z4p (P:=lw.prog) (w:=w) (base:=base) D_carried T;have c14:=z0n (P:=lw.prog) (w:=w) (base:=base) M_is_drawer hk T;have c15:=z0o (P:=lw.prog) (w:=w) (base:=base) M_ask_thing hk T;have c16:=q8z (P:=lw.prog) (w:=w) (base:=base) M_ask_drawer hk T ⟨c14⟩;have c17:=x3v (P:=lw.prog) (w:=w) (base:=base) M_move hk T ⟨c13,c15,c16,c14,there1 c8⟩;have c21:=z7x (P:=lw.prog) (w:=w) (base:=base) D_copied T ⟨c10,c11,c9⟩;have c22:=z4r (P:=lw.prog) (w:=w) (base:=base) D_is_made T ⟨c17⟩;have c23:=x3x (P:=lw.prog) (w:=w) (base:=base) D_walk T ⟨c21,c22⟩;have c24:=q7n (P:=lw.prog) (w:=w) (base:=base) D_turned_back T;have p1:=z8k (P:=lw.prog) (w:=w) (base:=base) D_all_of T;have p2:=z4t (P:=lw.prog) (w:=w) (base:=base) D_is_name T ⟨p1⟩;have p3:=z0s (P:=lw.prog) (w:=w) (base:=base) D_read_path T ⟨p2⟩;have e1:=z0r (P:=lw.prog) (w:=w) (base:=base) D_show_path;have e2:=z0t (P:=lw.prog) (w:=w) (base:=base) D_path_text T;have e3:=z2d (P:=lw.prog) (w:=w) (base:=base) D_lines_of T ⟨e1⟩;have e4:=x4f (P:=lw.prog) (w:=w) (base:=base) D_stop T ⟨e2⟩;have e5:=x4g (P:=lw.prog) (w:=w) (base:=base) M_left dk T;have e6:=z8m (P:=lw.prog) (w:=w) (base:=base) M_do_one dk T ⟨c17⟩;have e7:=ok_do (P:=lw.prog) (w:=w) (base:=base) M_do dk T ⟨e5,e6⟩;have e8:=x4h (c:=cHall) (P:=lw.prog) (w:=w) (base:=base) M_book dk T ⟨e3⟩;have e9:=x1a (P:=lw.prog) (w:=w) (base:=base) M_hall dk T ⟨c21⟩;have e10:=x1b (P:=lw.prog) (w:=w) (base:=base) K_Doer dk T ⟨c21,c23⟩;have r1:=z0x (P:=lw.prog) (w:=w) (base:=base) D_read_move T ⟨p3⟩;have r2:=z0y (P:=lw.prog) (w:=w) (base:=base) D_read_book T ⟨e3,r1⟩;have r3:=ok_mwl (P:=lw.prog) (w:=w) (base:=base) D_is_made_without_line T ⟨there1 c8⟩;have r4:=z0z (P:=lw.prog) (w:=w) (base:=base) D_read_stop T ⟨r2,r3⟩;have r5:=z2h (P:=lw.prog) (w:=w) (base:=base) D_ask_rest T ⟨c23⟩;have r6:=x1h (P:=lw.prog) (w:=w) (base:=base) D_begun_again dk T ⟨r4,r5,e10⟩;have r7:=z2i (P:=lw.prog) (w:=w) (base:=base) D_way_back T ⟨r4,c24,e10⟩;have n1:=z1a (P:=lw.prog) (w:=w) (base:=base) D_long_name T ⟨c1⟩;have n2:=z4x (P:=lw.prog) (w:=w) (base:=base) D_spot_of T;have n3:=z1b (P:=lw.prog) (w:=w) (base:=base) D_things_by T ⟨n2⟩;have n4:=z2j (P:=lw.prog) (w:=w) (base:=base) D_moves_by T ⟨n2⟩;have n5:=z8y (P:=lw.prog) (w:=w) (base:=base) D_stands_so T ⟨e4,c12,n3,e5,e9,e8⟩;have CL:CallsL lw.prog w K mg base:=⟨ok_one D_one T ⟨c1,n1,c5,n4,n3,c12,n5,e4,r6,r7,e5,e9,e8,e7,c11,c9,e10⟩⟩
 exact FL.ok sc_law (fun vs H Q E h=>by obtain⟨a,ns,rfl,_⟩:=h;rfl) (fun cdv A outer s H vs Q E hr h=>x1j T CL _ cdv A outer s H vs Q E hr h)
theorem walk{l:Tb}{q:Program}{loose:List Str}{XP:(Str->Option Value)->Heap->Prop}{YP:World->Heap->Prop}{d:DefRec}{K:Params->Ag}(hn:l.most=some 63)(hdf:d.params.defaults=[])(hY:∀(w:World) (h:Heap),YP w h->(K w.params).In h)(F:∀(w:World) (mg:Str->Option Value) (fa:Addr) (h:Heap),(K w.params).In h->h.Ns Cj mg->mg d.name=some (.ref fa) ->
   ∃fd:Ip,(∀(s:Ae) (u:Value),Oj s fd ⟨[u],[]⟩ [("_law_script",u)])/\∀base:Heap,(K w.params).In base->base.Ns Cj mg->FnOk l.prog w (K w.params) mg base CX0 12 fa fd ["_law_script"] (spLaw (K w.params))):
  W.WalkO q loose XP YP l.row.toRowW d [] (fun f vs=>Sq f vs) :=
 L2.walk_of (n:=63) (k:=12) (x := "_law_script") (CX:=fun _=>CX0) (sp:=fun w=>spLaw (K w.params)) hn (by decide) hdf ⟨rfl,by decide,by decide,rfl⟩ hY F (fun _ _ a ns hl _ hS=>⟨a,ns,rfl,hS,hl,fun _=>rfl⟩) fun _ _ _ _ _ z=>z
end K
namespace K
open PySem PySem.W PyProof.Rows
abbrev loose:List Str:=[Ad "_wall",Ad "HallError",Ad "NoHall",Ad "NoThing",Ad "NoDrawer",Ad "Taken",Ad "Fixed",Ad "Broken",Ad "Strayed",Ad "NoBook",Ad "NAME_SIGNS",Ad "MOST_SIGNS",Ad "MOST_NAMES",Ad "all_of",Ad "is_name",Ad "alike",Ad "show_path",Ad "read_path",Ad "carried",Ad "Hall",Ad "copied",Ad "is_made",Ad "walk",Ad "turned_back",Ad "lines_of",Ad "Doer",Ad "read_move",Ad "read_book",Ad "is_made_without_line",Ad "read_stop",Ad "ask_rest",Ad "begun_again",Ad "way_back",Ad "_law_draw",Ad "_law_mixed",Ad "_law_rows_right",Ad "_law_path_text",Ad "_law_stop",Ad "_law_long_name",Ad "_law_spot_of",Ad "_law_things_by",Ad "_law_moves_by",Ad "_law_stands_so",Ad "_law_one"]
abbrev vw:Program:=view PySem.Challenge.pw_renamehall_k69_whole_long_books [50]
abbrev xt(s:Ae):Bool:=xlAt vw [] s&&recOk [] s
end K
open PySem PySem.W PyProof.Rows
local macro_rules | `(tactic| o_head $H) => `(tactic| (
  refine holds_open (q := K.vw) (loose := K.loose) (Xt := K.xt) (XP := XL K.vw []) (Yf := Hook.obs $H) (Ya := Hook.val $H) (YP := Hook.says $H) (N := 60000) ?hl (Hook.of $H) (Hook.keeps $H) (fun s e => xl_of s (Pl.mp e).1) XL.keeps
    (by rfl) (by rfl) (by rfl) (fun s e => recFacts_of (Pl.mp e).2) (by rfl) (by first | assumption | decide +kernel) (by decide +kernel) ⟨rfl, rfl, rfl, rfl, rfl, by decide +kernel⟩ ?hw ?hc))
set_option maxRecDepth 100000 in
set_option maxHeartbeats 0 in
theorem PySem.Challenge.cw_renamehall_k69_whole_long_books_holds : PySem.Challenge.rw_renamehall_k69_whole_long_books.Holds := by
  w_on; o_law; k_head; (case hw => w_witness2)
  (case hl =>
    refine HD.left (by kernel_rfl) (by rfl) (fun _ => by kernel_rfl) fun w os => ?_
    change (segRunT Qv PySem.Challenge.pw_renamehall_k69_whole_long_books w 11 (some (.ref 6)) 0 60000 (HD.bootT w.params os) (topStub PySem.Challenge.pw_renamehall_k69_whole_long_books)).map (fun r => ((staticsOk (Il PySem.Challenge.pw_renamehall_k69_whole_long_books.main.body) (boot_heap w.params) r.2.1.abs.heap && namesBound PySem.Challenge.pw_renamehall_k69_whole_long_books r.2.1.abs.heap && gensDone r.2.1.abs && laidKept (boot_heap w.params) r.2.1.abs.heap), openSeen K.vw K.loose (Il PySem.Challenge.pw_renamehall_k69_whole_long_books.main.body) K.xt true r.2.1.abs, _)) = some (true, openGood K.vw K.loose, _)
    unfold K.xt K.vw
    rw [PySem.W.Fast.te10110043849684766642, PySem.W.Fast.te4187177175401517315, PySem.W.Fast.te14364793385576792824, PySem.W.Fast.te5923862056798008813, PySem.W.Fast.te2155771544763489141]
    kernel_rfl)
  k_fill
  refine K.walk (l := PySem.Challenge.rw_renamehall_k69_whole_long_books) rfl rfl (fun w h Y => PySem.W.kIn_of Y) ?F
  case F =>
    intro w mg fa h KX G hmg
    refine' K.all_mk KX G hmg (K.df_mk KX G ?_ ?_ ?_ ?_ ?_) (K.df_mk KX G ?_ ?_ ?_ ?_ ?_) (K.df_mk KX G ?_ ?_ ?_ ?_ ?_) (K.df_mk KX G ?_ ?_ ?_ ?_ ?_) (K.df_mk KX G ?_ ?_ ?_ ?_ ?_) (K.df_mk KX G ?_ ?_ ?_ ?_ ?_) (K.df_mk KX G ?_ ?_ ?_ ?_ ?_) (K.df_mk KX G ?_ ?_ ?_ ?_ ?_) (K.df_mk KX G ?_ ?_ ?_ ?_ ?_) (K.df_mk KX G ?_ ?_ ?_ ?_ ?_) (K.df_mk KX G ?_ ?_ ?_ ?_ ?_) (K.df_mk KX G ?_ ?_ ?_ ?_ ?_) (K.df_mk KX G ?_ ?_ ?_ ?_ ?_) (K.df_mk KX G ?_ ?_ ?_ ?_ ?_) (K.df_mk KX G ?_ ?_ ?_ ?_ ?_) (K.df_mk KX G ?_ ?_ ?_ ?_ ?_) (K.df_mk KX G ?_ ?_ ?_ ?_ ?_) (K.df_mk KX G ?_ ?_ ?_ ?_ ?_) (K.df_mk KX G ?_ ?_ ?_ ?_ ?_) (K.df_mk KX G ?_ ?_ ?_ ?_ ?_) (K.df_mk KX G ?_ ?_ ?_ ?_ ?_) (K.df_mk KX G ?_ ?_ ?_ ?_ ?_) (K.df_mk KX G ?_ ?_ ?_ ?_ ?_) (K.df_mk KX G ?_ ?_ ?_ ?_ ?_) (K.df_mk KX G ?_ ?_ ?_ ?_ ?_) (K.df_mk KX G ?_ ?_ ?_ ?_ ?_) (K.df_mk KX G ?_ ?_ ?_ ?_ ?_) (K.df_mk KX G ?_ ?_ ?_ ?_ ?_) (K.df_mk KX G ?_ ?_ ?_ ?_ ?_) ?_ ?_ ?_ ?_ ⟨mg_none_of KX G ?_, mg_none_of KX G ?_, mg_none_of KX G ?_, mg_none_of KX G ?_, mg_none_of KX G ?_, mg_none_of KX G ?_, mg_none_of KX G ?_, mg_none_of KX G ?_, mg_none_of KX G ?_, mg_none_of KX G ?_, mg_none_of KX G ?_, mg_none_of KX G ?_, mg_none_of KX G ?_, mg_none_of KX G ?_, mg_none_of KX G ?_, ⟨_, mg_of KX G ?_⟩, ⟨_, mg_of KX G ?_⟩, ⟨_, mg_of KX G ?_⟩⟩ ?_ ?_ ?_ ?_ ?_ ?_ ?_ ?_ ?_ ?_ ?_ ?_ ?_ ?_ ?_ (K.mf_mk ?_ ?_ ?_ ?_ ?_ ?_) (K.mf_mk ?_ ?_ ?_ ?_ ?_ ?_) (K.mf_mk ?_ ?_ ?_ ?_ ?_ ?_) (K.mf_mk ?_ ?_ ?_ ?_ ?_ ?_) (K.mf_mk ?_ ?_ ?_ ?_ ?_ ?_) (K.mf_mk ?_ ?_ ?_ ?_ ?_ ?_) (K.mf_mk ?_ ?_ ?_ ?_ ?_ ?_) (K.mf_mk ?_ ?_ ?_ ?_ ?_ ?_) ?_ ?_ ?_ ?_ ?_ ?_ ?_ ?_ ?_ ?_ ?_ ?_ ?_ ?_ ?_ (K.mf_mk ?_ ?_ ?_ ?_ ?_ ?_) (K.mf_mk ?_ ?_ ?_ ?_ ?_ ?_) (K.mf_mk ?_ ?_ ?_ ?_ ?_ ?_) (K.mf_mk ?_ ?_ ?_ ?_ ?_ ?_) (K.mf_mk ?_ ?_ ?_ ?_ ?_ ?_)
    all_goals try (first | k_is | kit_is | rfl | decide +kernel | (intro _ _ _ _ _ _ us hl; first | (obtain ⟨_, rfl⟩ := K.len_1 hl; rfl) | (obtain ⟨_, _, rfl⟩ := K.len_2 hl; rfl) | (obtain ⟨_, _, _, rfl⟩ := K.len_3 hl; rfl) | (obtain ⟨_, _, _, _, rfl⟩ := K.len_4 hl; rfl) | (obtain ⟨_, _, _, _, _, rfl⟩ := K.len_5 hl; rfl) | (cases us with | nil => rfl | cons _ _ => cases hl)))
