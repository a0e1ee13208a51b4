import PyProof.Rows.All
import Wide.All
import OpenK.AllK
import Wide.FinOn
import Lean
import PyProof.EqAt
import PyProof.EqKinds
import PyProof.TupleCall
import PySem.Challenge.RW_renamehall_k50_walks
import KE.IntTextLaws
import KE.KIsAll
import PyProof.ExcArgsOwn
import PyProof.ExcBaseAll.ValueError
import PyProof.ExcClass2
import PyProof.ExcInit
import PyProof.InstStore
import PyProof.Rows.CatchBare
import PyProof.Rows.CatchOwn
import PyProof.StationsW
import PyProof.SumWalk
import PyProof.ReprRoads
import PyProof.SetRoads
import PyProof.Rows.SetFrom
set_option Elab.async false
set_option linter.all false
set_option maxRecDepth 100000
local macro_rules|`(tactic|trivial)=>`(tactic|first|exact Or.inl rfl|exact Or.inr rfl|fail)
local macro_rules|`(tactic|trivial)=>`(tactic|first|(refine⟨rfl,rfl,rfl,?_,rfl,?_,?_⟩<;>decide +kernel)|fail)
theorem gR0{α β:Type}{f:α->β}{l:List α}{i:Nat}{v:β}(h:(l.map f)[i]?=some v):∃z,l[i]?=some z/\v=f z:=by
 rw[List.getElem?_map] at h;cases e:l[i]? with
 |none=>rw[e] at h;cases h
 |some z=>rw[e] at h;cases h;exact⟨z,rfl,rfl⟩
open Array renaming getElem?_eq_getElem→Bq,length_toList→Ca,getElem?_toList→Ed,getElem?_eq_none→Gq,getD_eq_getD_getElem?→Hh,perm_iff_toList_perm→Lg,append_assoc→Pl,toList_map→Rj
open Array.Perm renaming refl→Sa
open Bool renaming false_eq_true→Bg,false_ne_true→Bk,and_eq_true→Eb,eq_iff_iff→Kb,false_and→Kq,not_false→Nu,and_eq_true_iff→Ox,and_self→Pc,not_true→Pd
open Int renaming toNat_natCast→Fj,emod_lt_of_pos→Ip,emod_nonneg→Kd,le_refl→Nf
open List renaming length_map→Ac,mem_map→Ag,mem_cons_of_mem→Ah,map_cons→Ak,length_append→An,getElem?_map→Ao,mem_cons_self→Ap,mem_singleton→Ar,size_toArray→As,map_append→Av,mem_of_getElem?→Ay,mem_append→Az,map_map→Ba,mem_cons→Bb,length_pos_iff→Bd,mem_append_right→Bf,take_length→Bh,length_cons→Bl,getElem?_eq_some_iff→Bp,length_dropLast→Bz,take_add_one→Cb,nodup_cons→Cf,length_take→Cj,append_nil→Cq,getLastD_eq_getLast?→Cy,length_singleton→Dc,getLast?_eq_some_getLast→Dd,mem_append_left→Dh,pairwise_cons→Ex,getElem?_append_right→Fg,mem_of_mem_take→Fo,not_mem_nil→Fu,filter_cons_of_neg→Ga,filter_cons_of_pos→Gb,map_take→Ge,find?_cons→Gg,length_nil→Gj,dropLast_concat_getLast→He,length_drop→Hm,lookup_cons→Ho,map_congr_left→Ia,getElem?_append_left→Ie,zip_cons_cons→Ir,mem_of_mem_eraseIdx→Iw,getElem?_eq_getElem→Iz,pairwise_singleton→Jf,append_assoc→Ji,nodup_append→Jk,take_of_length_le→Jp,all_eq_true→Jt,dropLast_eq_take→Jy,filterMap_cons→Kn,replicate_succ→Ko,take_zero→Kt,perm_append_singleton→Lh,flatten_cons→Li,getElem?_eq_none_iff→Ll,getElem_mem→Mh,eq_of_mem_replicate→Mi,mem_filter→Mo,of_mem_zip→Mp,forIn_cons→Mq,getElem?_set_self→Mu,length_replicate→Nm,take_succ→Nv,take_take→Nx,drop_zero→Ny,take_append_drop→Nz,length_filter_le→Oc,getElem?_set_ne→Oe,mem_of_mem_drop→Oq,dropLast_subset→Ow,map_drop→Pf,map_eq_nil_iff→Pk,mem_filterMap→Pn,filterMap_map→Pr,zip_nil_right→Pz,filter_append→Qe,reverse_cons→Qk,zip_nil_left→Qm,mapM_toArray→Qn,not_lt→Qv,filter_cons→Rc,zipIdx_cons→Ri,getLast_mem→Rl,foldl_cons→Rt,nil_append→Sb
open List.Perm renaming refl→Ob
open Nat renaming le_refl→Ai,ne_of_lt→Au,lt_of_lt_of_le→Be,zero_le→Bv,le_trans→By,lt_succ_of_lt→Dn,ne_of_gt→Dv,lt_irrefl→Dy,lt_succ_self→Ea,le_succ_of_le→Fl,le_succ→Fs,le_of_lt→Ft,succ_le_succ→Hn,le_of_eq→Ij,sub_zero→Md,min_eq_left→Mt,zero_add→Px,lt_or_ge→Qc
open Ne renaming symm→Dp
open Option renaming map_eq_some_iff→Gp,map_some→Ig,isSome_map→Lk,isSome_iff_exists→Ma,getD_none→Ra
open Option.some renaming inj→Co
open PyProof.Rows renaming wpS_bind→Bm,slot_tuple_getitem→Cc,wpS_pure→Cm,StrsAre→Fb,lo1→Fx,SortSt→Gi,get?_update_seq→Hd,callWith_type1→Hg,seqObj→Hv,envOfC→Il,wpS_forRange→Iq,listItems_at→Iu,SortKind→Ju,AllBare→Jv,mirror→Kg,IntsAre→Lv,pendingOf→Mr,subscriptTail_builtinR→Mz,mirror_perm→Ng,wpS_reverse→Nh,wpS_get→Nt,IntsAre→Ov,Constant_none→Oy,listUpdate_at→Pe,lt_str→Ph,args_tuple_getitem→Pu,tuples'→Qg,seqEpoch_at→Qw,failedOf→Rg,wpS_mono→Rh,Subscript_→Rq,wpS_modify→Rz
open PyProof.Rows.F renaming plain_set_update_loop→Ey,entry_set_update_loop→Iy
open PySem renaming wpAny_bind→Aa,wpAny_pure→Ab,Shared→Ad,NameKind→Ax,starEach→Bc,wpAny_newObj_type→Bi,wpAny_call_entry→Bj,wpAny_callSpecial?_slot→Bn,boot_len→Bo,wpAny_holding→Br,Paired→Bu,wpAny_mono→Bw,Builtin→Bx,compareOp→Ce,mainGlobals→Ci,sizeLine_eq→Cp,wpAny_setField_rec→Cs,wpAny_field→Cu,codeAny_builtin→Cw,sysModules→Dg,wpAny_dictEntries→Dm,mem_of_lookup→Dq,backTo→Du,compEnvC→Eg,wpAny_typeNameOfWhole_itemiter→Eh,wpAny_truthy_bool→Ek,attributeBase→Em,wpAny_attempt→En,wpAny_typeNameOfWhole_keyiter→Eo,binaryOp→Ep,codeAny→Er,wpAny_typeOf→Eu,tupleKind_room_in1→Ew,wpAny_passesOwn→Ez,wpAny_notOrdered_dict→Fe,behindInMarks→Ff,plainId_quiet→Fi,wpAny_typeNameOf_itemiter→Fn,wpAny_typeNameOf_keyiter→Fv,wpAny_standAt→Gd,tupleKind→Gf,wpAny_dictEpoch→Gh,keywordEach→Gn,bootBuiltins→Gv,pyNext→Gw,codeAny_mono→Gx,wpAny_fieldsOf→Hb,assignEach→Hj,wpAny_rule→Hq,wpAny_isInstance→Hr,wpAny_askSetting→Ht,rawInt→Hu,intKind→Hw,sliceBounds→Hy,strIterType→Hz,wpAny_execs_nil→Ib,letOwnedTupleGo→Ic,importedModules→Ih,wpAny_Call_Name_kw→Ik,wpAny_comprehension_free→Io,holding→Ja,foldedSetIterable→Jg,wpAny_pyIter_slot→Jh,wpAny_setState_of→Jj,IsPart→Jm,wpAny_isOneOf_itemiter→Jo,FuncData→Jq,backToKw→Jr,pyIter→Ka,call_meets→Kc,wpAny_ite_split→Ki,wpAny_setEntries_of→Kp,Keyword→Kr,isSubtype_stop→Ks,wpAny_of_eq→Ku,swapsWith→Kv,DictEntry→Kw,getMethod→Kx,pickOrder→La,wpAny_pyIter_list→Lj,entryOfKey→Lm,standAt→Lu,callerA→Lw,Within→Lx,wpAny_execs_cons→Ly,noFill_tuple_add→Mb,checkBuiltinCall→Mg,wpAny_updateSeq→Ms,wpAny_pyNext_list_item→Mw,subscripted→My,wpAny_letGo→Nb,wpAny_isTrue_Compare1→Nj,wpAny_pyNext_list_end→Nk,BindsTo→Nl,wpAny_newTuple→Nn,wpAny_isOneOf_keyiter→Np,wpAny_setField→Nq,firstArgMember→Nr,builtinLookup_eq_fast→Nw,wpAny_load→Of,wpAny_call→Oh,typeIs_str→Oi,PlainAttrs→Oj,wpAny_newFunctionEnv→Om,codeAny_call_builtin→Ot,intKind_is→Ou,seq_tuple_add→Pa,wpAny_handled→Pb,concat_meets→Pq,treeTable→Qd,hashInt→Qf,wpAny_assign_Name→Qh,wpAny_sequenceKey→Qj,wpAny_pyIter_enum→Ql,seqIndex_of→Qt,wpAny_throw→Qu,callWith→Qy,entryFor→Rk,wpAny_Name→Rm,typeLookup→Rp,typeIs_int→Rr,call→Rx,closureFor→Ry,setsByText→Se
open PySem.Around renaming under_plainId→Cg,under→Lz
open PySem.AutoSeq1 renaming wpAny_loadPart'→Kj
open PySem.Builtin.Dict renaming showsAll→Jx,takeOut→Kk,pendingCount→Ls
open PySem.Builtin.Dict_items renaming ownsTuple→Hc,ownedTupleFields→Jb
open PySem.Builtin.List renaming listItems→Et,listLengthHint→Hi,listTooLong→Mc,listSameRef→Me
open PySem.Builtin.Slice renaming slicePlaces→Fm,sliceAdjust→Lo
open PySem.Builtin.SmallTypes renaming nextOf→Lp
open PySem.Builtin.Str renaming tooLong→Pg
open PySem.Builtin.Tuple renaming tupleItemsOf→Lc
open PySem.Calls renaming callWith_builtin→Jn,spliced_cons→Ky,Name_function_global→Lb,evalArgs_plain→Ol,spliced_nil→Qi
open PySem.Code renaming isFrame→Po
open PySem.F renaming slot_dict_itemiterator_next→Cn,plainAttrs_list→Ct,slot_dict_keyiterator_next→Dj,plainAttrs_str→Dx,slot_list_append→Ei,type_list_append→Ej,called_set→Fw,plain_extend_loop→Fz,slot_str_lower→Gr,type_str_lower→Gs,slot_enumerate_next→Ha,args_tuple_add_2→Im,slot_list_getattribute→Iv,entry_tuple_add→Jc,plainAttrs_dict→Jd,slot_tuple_add→Jl,slot_dict_get→Jw,args_dict_itemiterator_next_1→Jz,args_dict_keyiterator_next_1→Ke,entry_dict_itemiterator_next→Kh,entry_dict_keyiterator_next→Kl,slot_dict_itemiterator_iter→Km,slot_dict_delitem→Lr,args_enumerate_next_1→Mj,args_dict_get_3→Ml,slot_dict_items→Mm,type_dict_items→Mn,entry_enumerate_next→Nc,entry_dict_get→Nd,slot_dict_items_iter→Ni,slot_dict_len→Oa,entry_extend_loop→Pj,plain_list_iadd→Qp,slot_dict_iter→Rf,slot_int_rmul→Ru,plain_set_new→Sd,slot_set_iter→Sf
open PySem.Heap renaming get?_push_of_some→Ae,lt_size→Aj,get?_push_size→Al,SameBut→De,get?_update_other→Dw,size_push→Es,get?_update_self→Gz,ExtBut→Na
open PySem.Heap.SameBut renaming update→Ds,refl→Gu
open PySem.Obj renaming mapSeq→Di,data_mapDictKeys→Oo,data_mapFields→Pw
open PySem.Paired renaming length→Cd
open PySem.PassesOwn renaming never→Cr
open PySem.PyData renaming canLayAll0→Bs,depthAll→Cz,eqv→Dz,depthAll→Ee,canLay0→Ef,eqvAll→Fh,depth→Hf,canLay0→Hs,canLayAll0→Je,depth→Kz,strOk→Py
open PySem.SeqAt renaming EqAt→Od
open PySem.SeqAt.EqAt renaming str_str→Qa
open PySem.SetTable renaming insertAt→Cv
open PySem.Str renaming ofString→Am
open PySem.Txt renaming lower→Gk,join→Rb
open PySem.W renaming Frag→Af,findIn→Dk,emptyDict→Fp,kia_one→Fq,keepIn→Gm,fnOf→Gy,instObj→Ii,codeIn→Js,plainGet→Ln,hasDictIn→Mx,kitOne→Og,plainGet_of→Oz,Frag→Pm,callWith_K→Pp,plainOver→Qr,specialIn→Qs,lookIn→Qx,cellsFrom_some→Qz,isFn→Rn,methodCall_KW→Ro,mg_of→Sg,takerIn→Sh,makesIn→Si,takesIn→Sj,OpenLaw→Sl
open PySem.pickOrder renaming go→Qb
namespace L2
open PySem PySem.Spec PyProof.Rows
abbrev Key:=Sum Int Str
def keyIs:Key->Value->Bool
 |.inl k,v=>Value.isInt k v
 |.inr x,v=>Value.isStrOf x v
def keyH(w:World):Key->Int
 |.inl k=>Qf k
 |.inr x=>hashStr w x
theorem q0v:∀{k:Key} {v:Value},keyIs k v=true->(∃i t,k=Sum.inl i/\v=Value.int i t)\/(∃x t,k=Sum.inr x/\v=Value.str x t)
 |.inl i,v,h=>by
  obtain⟨t,e⟩:=Value.isInt_shape (k:=i) (v:=v) h;exact .inl ⟨i,t,rfl,e⟩
 |.inr x,v,h=>by
  obtain⟨t,e⟩:=Value.isStrOf_shape h;exact .inr ⟨x,t,rfl,e⟩
theorem z2j(i:Int)(t:Tok):keyIs (.inl i) (.int i t)=true:=by simp[keyIs,Value.isInt]
theorem z2k(x:Str)(t:Tok):keyIs (.inr x) (.str x t)=true:=by simp[keyIs,Value.isStrOf]
theorem key_ll(a b:Int):decide ((Sum.inl a:Key)=Sum.inl b)=(a==b):=by grind
theorem key_rr(a b:Str):decide ((Sum.inr a:Key)=Sum.inr b)=decide (a=b):=by grind
theorem key_lr(a:Int)(b:Str):decide ((Sum.inl a:Key)=Sum.inr b)=false:=decide_eq_false (fun q=>nomatch q)
theorem key_rl(a:Str)(b:Int):decide ((Sum.inr a:Key)=Sum.inl b)=false:=decide_eq_false (fun q=>nomatch q)
def mixKind(prog:Program)(w:World):PySem.KeyKind prog w Key where
 is:=keyIs
 hash:=keyH w
 inj:=fun v a b ha hb=>by
  rcases q0v ha with⟨i,t,rfl,rfl⟩|⟨x,t,rfl,rfl⟩
  ·rcases q0v hb with⟨j,u,rfl,e⟩|⟨y,u,rfl,e⟩
   ·injection e with e1 _;rw[e1]
   ·exact nomatch e
  ·rcases q0v hb with⟨j,u,rfl,e⟩|⟨y,u,rfl,e⟩
   ·exact nomatch e
   ·injection e with e1 _;rw[e1]
 byValue:=fun k v h=>by
  rcases q0v h with⟨i,t,rfl,rfl⟩|⟨x,t,rfl,rfl⟩<;>rfl
 pyHash:=fun hv h=>by
  rcases q0v hv with⟨i,t,rfl,rfl⟩|⟨x,t,rfl,rfl⟩
  ·exact wpAny_pyHash_int h
  ·exact wpAny_pyHash_str h
 eqBool:=fun hu hv h=>by
  rcases q0v hu with⟨i,t,rfl,rfl⟩|⟨x,t,rfl,rfl⟩
  ·rcases q0v hv with⟨j,u,rfl,rfl⟩|⟨y,u,rfl,rfl⟩
   ·rw[key_ll] at h;exact wpAny_eqBool_int h
   ·rw[key_lr] at h;exact Od.int_str i t y u _ _ _ _ h
  ·rcases q0v hv with⟨j,u,rfl,rfl⟩|⟨y,u,rfl,rfl⟩
   ·rw[key_rl] at h;exact Od.str_int x t j u _ _ _ _ h
   ·rw[key_rr] at h;exact wpAny_eqBool_str h
 «strs» := fun k x t v h=>by
  rcases q0v h with⟨i,u,rfl,e⟩|⟨y,u,rfl,e⟩
  ·exact nomatch e
  ·injection e with e1 _
   subst e1
   cases v<;>rfl
theorem q8z(prog:Program)(w:World)(i:Int)(t:Tok):(mixKind prog w).is (.inl i) (.int i t)=true:=z2j i t
theorem q9a(prog:Program)(w:World)(x:Str)(t:Tok):(mixKind prog w).is (.inr x) (.str x t)=true:=z2k x t
inductive V where
 |non|bl (b:Bool)|int (i:Int)|str (x:Str)|byt (b:Array UInt8)|flt (b:UInt64)|ref (a:Addr)|ty (n:String)
 deriving DecidableEq
def RelV:V->Value->Prop
 |.non,u=>u=Value.none
 |.bl b,u=>u=Value.bool b
 |.int i,u=>∃t,u=Value.int i t
 |.str x,u=>∃t,u=Value.str x t
 |.byt b,u=>∃t,u=Value.bytes b t
 |.flt b,u=>∃t,u=Value.float b t
 |.ref a,u=>u=Value.ref a
 |.ty n,u=>u=Value.type n
abbrev Vals:List V->List Value->Prop:=Bu RelV
theorem Vals.length(r:Vals xs us):xs.length=us.length:=Cd r
theorem Vals.get:∀{xs:List V} {us:List Value} {i:Nat} {x:V},Vals xs us->xs[i]?=some x->∃u,us[i]?=some u/\RelV x u
 |_,_,_,_,.nil,e=>by simp at e
 |_,_,0,_,.cons r _,e=>by simp at e;subst e;exact⟨_,rfl,r⟩
 |_,_,i+1,x,.cons _ t,e=>by
  obtain⟨u,h1,h2⟩:=Vals.get (i:=i) (x:=x) t (by simpa using e);exact⟨u,by simpa using h1,h2⟩
theorem Vals.set{x:V}{u:Value}(r:RelV x u):∀{xs:List V} {us:List Value} (i:Nat),Vals xs us->Vals (xs.set i x) (us.set i u)
 |_,_,_,.nil=>.nil
 |_,_,0,.cons _ t=>.cons r t
 |_,_,i+1,.cons q t=>.cons q (Vals.set r i t)
theorem Vals.append:∀{xs ys:List V} {us ws:List Value},Vals xs us->Vals ys ws->Vals (xs++ys) (us++ws)
 |_,_,_,_,.nil,s=>s
 |_,_,_,_,.cons r t,s=>.cons r (Vals.append t s)
theorem Vals.take:∀{xs:List V} {us:List Value} (n:Nat),Vals xs us->Vals (xs.take n) (us.take n)
 |_,_,0,_=>.nil
 |_,_,_+1,.nil=>.nil
 |_,_,n+1,.cons r t=>.cons r (Vals.take n t)
theorem Vals.drop:∀{xs:List V} {us:List Value} (n:Nat),Vals xs us->Vals (xs.drop n) (us.drop n)
 |_,_,0,r=>r
 |_,_,_+1,.nil=>.nil
 |_,_,n+1,.cons _ t=>Vals.drop n t
theorem Vals.none_of:∀{xs:List V} {us:List Value} {i:Nat},Vals xs us->xs[i]?=none->us[i]?=none:=fun{xs us i} r e=>by
 have h1:=r.length;have h2:=Ll.mp e;exact Ll.mpr (by lia)
def RelO:Option V->Option Value->Prop
 |some v,some u=>RelV v u
 |none,none=>True
 |_,_=>False
def KV{κ:Type}:List (κ×V)->List (κ×Value)->Prop:=Bu fun(p:κ×V) (q:κ×Value)=>p.1=q.1/\RelV p.2 q.2
def kV:Key->V
 |.inl i=>.int i
 |.inr x=>.str x
inductive HO where
 |lst (xs:List V)
 |tup (xs:List V)
 |dK (kvs:List (Key×V))|dT (kvs:List (List Key×V))
 |set (S:Int->Bool) (n:Nat)
 |ins (C dx:Addr) (fs:List (Str×V))
 |own (x:Addr)
 |xd (fs:List (Str×V))
 |met (f x:Addr)
 |rng (lo hi:Int)
 |frz (o:Obj) (u:HO)
 |tbl (ps:Array Value)
 |ext (φ:Heap->Prop)
abbrev Hp:=Addr->Option HO
def upd(H:Hp)(a:Addr)(o:HO):Hp:=fun b=>if b=a then some o else H b
theorem q0b:upd H a o a=some o:=by unfold upd;rw[if_pos rfl]
theorem q0c(h:b≠a):upd H a o b=H b:=by unfold upd;rw[if_neg h]
theorem z8e:upd (upd H a o) a u=upd H a u:=by
 funext b;unfold upd;split<;>rfl
theorem z1b{H:Hp}(h:H a=some o)(h':H b=some u)(d:o≠u):a≠b:=by grind
theorem q0h{H:Hp}(h:H a=some o)(h':H b=none):a≠b:=by
 intro e;subst e;rw[h] at h';cases h'
section
variable(P:Program)(w:World)
def ObjOk(H:Hp)(h:Heap)(a:Addr):HO->Prop
 |.lst xs=>xs.length<=sizeLine/\∃(its:List Value) (n:Nat),Vals xs its/\h.get? a=some { cls:=.type "list",data:=.seq its.toArray n }
 |.tup xs=>xs.length<=sizeLine/\∃its:List Value,Vals xs its/\IsTup h a its.toArray
 |.dK kvs=>kvs.length<=sizeLine/\(a==Dg)=false/\∃vs,KV kvs vs/\h.DictOf (mixKind P w) a vs
 |.dT kvs=>kvs.length<=sizeLine/\(a==Dg)=false/\∃xs:List (List Key×Addr×Value),
   Bu (fun(p:List Key×V) (q:List Key×Addr×Value)=>p.1=q.1/\H q.2.1=some (.tup (p.1.map kV))/\RelV p.2 q.2.2) kvs xs /\
   ∃o es ep,h.get? a=some o/\o.ExactDict/\o.data=.dict es ep/\es.toList=xs.map (Lm (Gf (mixKind P w)))/\(xs.map (·.1)).Nodup
 |.set S n=>h.SetOf (Hw P w) a S n
 |.ins C dx fs=>H dx=some (.own a)/\fs.length<=1000/\dx≠a/\h.get? a=some (Ii C dx) /\
   ∃mA,h.Ns1 dx mA/\(∀f,RelO (fs.lookup f) (mA f))/\Lx mA (fs.map (·.1))
 |.own _=>∃o,h.get? a=some o
 |.xd fs=>∃mA,h.Ns1 a mA/\∀f,RelO (fs.lookup f) (mA f)
 |.rng lo hi=>∃t u v,h.get? a=some { cls:=.type "range",data:=.fields #[.int lo t,.int hi u,.int 1 v] }
 |.frz o u=>h.get? a=some o/\ObjOk H h a u
 |.tbl ps=>h.get? a=some { cls:=.none,data:=.fields ps }
 |.met f x=>h.get? a=some (W.methodObj (.ref f) (.ref x))
 |.ext φ=>φ h/\(∃o,h.get? a=some o)/\∀h1 h2:Heap,φ h1->(∀o,h1.get? a=some o->h2.get? a=some o)->φ h2
def HOk(H:Hp)(h:Heap):Prop:=∀a o,H a=some o->ObjOk P w H h a o
end
section
variable{P:Program}{w:World}{H H':Hp}{h h':Heap}{a:Addr}{o:HO}
theorem ObjOk.lt(x:ObjOk P w H h a o):a<h.objs.size:=by
 cases o with
 |lst xs=>obtain⟨_,_,_,_,e⟩:=x;exact Aj e
 |tup xs=>obtain⟨_,_,_,p⟩:=x;exact p.lt
 |dK kvs=>obtain⟨_,_,_,_,o,_,_,e,_⟩:=x;exact Aj e
 |dT kvs=>obtain⟨_,_,_,_,o,_,_,e,_⟩:=x;exact Aj e
 |set S n=>obtain⟨o,_,_,_,e,_⟩:=x;exact Aj e
 |ins C dx fs=>obtain⟨_,_,_,e,_⟩:=x;exact Aj e
 |own y=>obtain⟨_,e⟩:=x;exact Aj e
 |xd fs=>obtain⟨_,⟨_,_,_,e,_⟩,_⟩:=x;exact Aj e
 |rng lo hi=>obtain⟨_,_,_,e⟩:=x;exact Aj e
 |frz ob u=>obtain⟨e,_⟩:=x;exact Aj e
 |tbl ps=>exact Aj (show h.get? a=some _ from x)
 |met f y=>exact Aj (show h.get? a=some _ from x)
 |ext φ=>obtain⟨_,⟨_,e⟩,_⟩:=x;exact Aj e
theorem Bu.mapP{α β:Type}{F G:α->β->Prop}:∀{l₁:List α} {l₂:List β},Bu F l₁ l₂->(∀a b,F a b->G a b)->Bu G l₁ l₂
 |_,_,.nil,_=>.nil
 |_,_,.cons r t,f=>.cons (f _ _ r) (Bu.mapP t f)
theorem Bu.imp'{F G:α->β->Prop}(f:∀a b,F a b->G a b){l₁:List α}{l₂:List β}(r:Bu F l₁ l₂):Bu G l₁ l₂:=Bu.mapP r f
theorem ObjOk.stay(x:ObjOk P w H h a o)(k:∀b u,(b=a\/H b=some (.own a))->h.get? b=some u->h'.get? b=some u)(ho:∀b,H b=some (.own a)->H' b=some (.own a))(ht:∀b xs,H b=some (.tup xs)->H' b=some (.tup xs)):ObjOk P w H' h' a o:=by
 induction o with
 |lst xs=>obtain⟨z,its,n,r,e⟩:=x;exact⟨z,its,n,r,k _ _ (.inl rfl) e⟩
 |tup xs=>obtain⟨z,its,r,ob,e,c⟩:=x;exact⟨z,its,r,ob,k _ _ (.inl rfl) e,c⟩
 |dK kvs=>obtain⟨z,y,vs,r,ob,es,ep,e,c⟩:=x;exact⟨z,y,vs,r,ob,es,ep,k _ _ (.inl rfl) e,c⟩
 |dT kvs =>
  obtain⟨z,y,xs,r,ob,es,ep,e,c⟩:=x;exact⟨z,y,xs,Bu.mapP r fun p q z=>⟨z.1,ht _ _ z.2.1,z.2.2⟩,ob,es,ep,k _ _ (.inl rfl) e,c⟩
 |set S n=>obtain⟨ob,es,ep,t,e,c⟩:=x;exact⟨ob,es,ep,t,k _ _ (.inl rfl) e,c⟩
 |ins C dx fs =>
  obtain⟨d,z,ne,e,mA,⟨od,es,ep,e2,c⟩,r⟩:=x;exact⟨ho _ d,z,ne,k _ _ (.inl rfl) e,mA,⟨od,es,ep,k _ _ (.inr d) e2,c⟩,r⟩
 |own y=>obtain⟨ob,e⟩:=x;exact⟨ob,k _ _ (.inl rfl) e⟩
 |xd fs=>obtain⟨mA,⟨od,es,ep,e,c⟩,r⟩:=x;exact⟨mA,⟨od,es,ep,k _ _ (.inl rfl) e,c⟩,r⟩
 |rng lo hi=>obtain⟨t,u,v,e⟩:=x;exact⟨t,u,v,k _ _ (.inl rfl) e⟩
 |frz ob u ih=>obtain⟨e,q⟩:=x;exact⟨k _ _ (.inl rfl) e,ih q⟩
 |tbl ps =>
  have e:h.get? a=some { cls:=.none,data:=.fields ps }:=x;exact k a _ (.inl rfl) e
 |met f y =>
  have e:=x;exact k a _ (.inl rfl) e
 |ext φ=>obtain⟨p,⟨o,e⟩,st⟩:=x;exact⟨st _ _ p fun o q=>k _ _ (.inl rfl) q,⟨o,k _ _ (.inl rfl) e⟩,st⟩
theorem HOk.lt(x:HOk P w H h)(e:H a=some o):a<h.objs.size:=(x a o e).lt
theorem HOk.fresh(x:HOk P w H h)(e:h.objs.size<=a):H a=none:=by
 cases q:H a with
 |none=>rfl
 |some u=>exact absurd (Be (x.lt q) e) (Dy _)
theorem HOk.kept(x:HOk P w H h)(k:∀b u,h.get? b=some u->h'.get? b=some u):HOk P w H h':=fun a o e =>
 (x a o e).stay (fun b u _ q=>k b u q) (fun _ q=>q) fun _ _ q=>q
theorem HOk.laid(x:HOk P w H h)(k:∀b u,h.get? b=some u->h'.get? b=some u)(hp:h.objs.size<=a)(new:ObjOk P w (upd H a o) h' a o):HOk P w (upd H a o) h':=fun b u e=>by
 have hn:=x.fresh hp;by_cases hb:b=a
 ·subst hb;rw[q0b] at e;cases e;exact new
 ·rw[q0c hb] at e;exact(x b u e).stay (fun c v _ q=>k c v q) (fun c q=>by rw[q0c (q0h q hn)];exact q) fun c xs q=>by rw[q0c (q0h q hn)];exact q
end
def Rd(H:Hp)(a:Addr)(u:HO):Prop:=H a=some u\/∃o,H a=some (.frz o u)
theorem Rd.of(h:H a=some u):Rd H a u:=.inl h
theorem Rd.ok(r:Rd H a u)(x:HOk P w H h):ObjOk P w H h a u:=by
 rcases r with r|⟨o,r⟩
 ·exact x a u r
 ·obtain⟨_,q⟩:=x a _ r;exact q
def Mut:Option HO->Prop
 |some (.lst _)=>True
 |some (.dK _)=>True
 |some (.dT _)=>True
 |some (.set _ _)=>True
 |some (.ins _ _ _)=>True
 |some (.ext _)=>True
 |_=>False
section
variable{P:Program}{w:World}{H:Hp}{h h':Heap}{x e:Addr}{o':HO}
theorem HOk.write(ok:HOk P w H h)(mu:Mut (H x))(he:e=x\/H e=some (.own x))(k:∀b u,b≠e->h.get? b=some u->h'.get? b=some u)(heo:∃u,h'.get? e=some u)(new:ObjOk P w (upd H x o') h' x o'):HOk P w (upd H x o') h':=fun b u q=>by
 have nown:∀c y,H c=some (.own y)->c≠x:=fun c y r z=>by subst z;rw[r] at mu;exact mu
 have ntup:∀c xs,H c=some (.tup xs)->c≠x:=fun c xs r z=>by subst z;rw[r] at mu;exact mu
 by_cases hb:b=x
 ·subst hb;rw[q0b] at q;cases q;exact new
 ·rw[q0c hb] at q;by_cases hbe:b=e
  ·have q':H b=some (.own x):=by
    rcases he with z|z
    ·grind
    ·rw[hbe];exact z
   rw[q] at q';cases q';obtain⟨v,hv⟩:=heo;exact⟨v,by rw[hbe];exact hv⟩
  ·refine(ok b u q).stay (fun c v hc r=>k c v ?_ r) (fun c r=>by rw[q0c (nown c b r)];exact r) fun c xs r=>by rw[q0c (ntup c xs r)];exact r
   rcases hc with rfl|hc
   ·exact hbe
   ·grind
end
structure Un (fs ex:List Addr) (H H':Hp) (h h':Heap):Prop where
 keep:∀b o,h.get? b=some o->H b=none->b∉fs->b∉ex->h'.get? b=some o
 slot:∀b o,h.get? b=some o->H b=none->b∈fs->b∉ex->∃sl,h'.get? b=some { o with slots:=sl }
 free:∀b o,h.get? b=some o->H b=none->b∉ex->H' b=none
 there:∀b o,h.get? b=some o->b∉ex->∃o',h'.get? b=some o'
 tups:∀b xs,H b=some (.tup xs)->H' b=some (.tup xs)
 frzs:∀b o u,H b=some (.frz o u)->H' b=some (.frz o u)
 tbls:∀b ps,H b=some (.tbl ps)->∃more,H' b=some (.tbl (ps++more))
section
variable{fs fs' ex ex':List Addr}{H H1 H2:Hp}{h h1 h2 h':Heap}{a x e:Addr}{o:HO}
theorem Un.any(u:Un fs ex H H1 h h1)(q:h.get? b=some ob)(n:H b=none)(hx:b∉ex):∃sl,h1.get? b=some { ob with slots:=sl }:=by
 by_cases hb:b∈fs
 ·exact u.slot b ob q n hb hx
 ·exact⟨ob.slots,u.keep b ob q n hb hx⟩
theorem Un.trans(a:Un fs ex H H1 h h1)(b:Un fs ex H1 H2 h1 h2):Un fs ex H H2 h h2 where
 keep:=fun c ob q n hc hx=>b.keep c ob (a.keep c ob q n hc hx) (a.free c ob q n hx) hc hx
 slot:=fun c ob q n hc hx=>by
  obtain⟨sl,e1⟩:=a.slot c ob q n hc hx;obtain⟨sl',e2⟩:=b.slot c _ e1 (a.free c ob q n hx) hc hx;exact⟨sl',e2⟩
 free:=fun c ob q n hx=>by
  obtain⟨o',e1⟩:=a.there c ob q hx;exact b.free c o' e1 (a.free c ob q n hx) hx
 there:=fun c ob q hx=>by
  obtain⟨o',e1⟩:=a.there c ob q hx;exact b.there c o' e1 hx
 tups:=fun c xs q=>b.tups c xs (a.tups c xs q)
 frzs:=fun c ob xs q=>b.frzs c ob xs (a.frzs c ob xs q)
 tbls:=fun c ps q=>by
  obtain⟨m1,e1⟩:=a.tbls c ps q;obtain⟨m2,e2⟩:=b.tbls c _ e1;exact⟨m1++m2,by rw[e2,Pl]⟩
theorem Un.kept(k:∀b u,h.get? b=some u->h'.get? b=some u):Un fs ex H H h h' :=
 ⟨fun b ob q _ _ _=>k b ob q,fun b ob q _ _ _=>⟨ob.slots,k b ob q⟩,fun _ _ _ n _=>n,fun b ob q _=>⟨ob,k b ob q⟩,fun _ _ q=>q,fun _ _ _ q=>q,fun _ ps q=>⟨#[],by rw[q];simp⟩⟩
theorem Un.refl:Un fs ex H H h h:=Un.kept fun _ _ q=>q
theorem Un.laid(k:∀b u,h.get? b=some u->h'.get? b=some u)(hp:h.objs.size<=a)(hn:H a=none):Un fs ex H (upd H a o) h h' where
 keep:=fun b u q _ _ _=>k b u q
 slot:=fun b u q _ _ _=>⟨u.slots,k b u q⟩
 free:=fun b u q n _=>by rw[q0c (Au (Be (Aj q) hp))];exact n
 there:=fun b u q _=>⟨u,k b u q⟩
 tups:=fun b xs q=>by rw[q0c (q0h q hn)];exact q
 frzs:=fun b u xs q=>by rw[q0c (q0h q hn)];exact q
 tbls:=fun b ps q=>⟨#[],by rw[q0c (q0h q hn),q];simp⟩
theorem Un.write(mu:Mut (H x))(he:e=x\/H e=some (.own x))(k:∀b u,b≠e->h.get? b=some u->h'.get? b=some u)(heo:∃u,h'.get? e=some u):Un fs ex H (upd H x o) h h':=by
 have hx:∀b,H b=none->b≠x:=fun b n z=>by subst z;rw[n] at mu;exact mu
 have hb:∀b,H b=none->b≠e:=fun b n z=>by
  subst z;rcases he with r|r
  ·exact hx b n r
  ·rw[n] at r;cases r
 have hm:∀b u,H b=some u->¬Mut (some u)->b≠x:=fun b u q nm z=>by subst z;rw[q] at mu;exact nm mu
 refine⟨fun b u q n _ _=>k b u (hb b n) q,fun b u q n _ _=>⟨u.slots,k b u (hb b n) q⟩,fun b u q n _=>by rw[q0c (hx b n)];exact n,fun b u q _=>?_,
  fun b xs q=>by rw[q0c (hm b _ q fun z=>z)];exact q,fun b u xs q=>by rw[q0c (hm b _ q fun z=>z)];exact q,fun b ps q=>⟨#[],by rw[q0c (hm b _ q fun z=>z),q];simp⟩⟩
 by_cases hbe:b=e
 ·subst hbe;exact heo
 ·grind
theorem Un.mono(u:Un fs ex H H1 h h1)(hs:∀b∈fs,b∈fs')(hx:∀b∈ex,b∈ex'):Un fs' ex' H H1 h h1 :=
 ⟨fun b ob q n hb he=>u.keep b ob q n (fun z=>hb (hs b z)) fun z=>he (hx b z),fun _ _ q n _ he=>u.any q n fun z=>he (hx _ z),fun b ob q n he=>u.free b ob q n fun z=>he (hx b z),fun b ob q he=>u.there b ob q fun z=>he (hx b z),u.tups,u.frzs,u.tbls⟩
end
def trk(h:Heap)(H:Hp):List Addr:=(List.range h.objs.size).filter fun a=>(H a).isSome
def hidT(h:Heap)(H:Hp):Heap:=W.hideAll h (trk h H)
theorem z2l(h:Heap)(H:Hp):(hidT h H).objs.size=h.objs.size:=W.hideAll_size _ _
theorem z5i(e:h.get? b=some o)(n:H b=none):(hidT h H).get? b=some o :=
 W.hideAll_get _ e fun hm=>by
  have q:=(Mo.mp hm).2;rw[n] at q;simp at q
theorem z8f(e:(hidT h H).get? b=some o):h.get? b=some o/\H b=none:=by
 have e':=W.of_hideAll (trk h H) e;refine⟨e',?_⟩;cases q:H b with
 |none=>rfl
 |some x =>
  have hm:b∈trk h H:=Mo.mpr ⟨List.mem_range.mpr (Aj e'),by simp[q]⟩;have z:(hidT h H).get? b=none:=W.hideAll_none (trk h H) hm;rw[z] at e;cases e
def allNews(g h:Heap)(L:Addr):List (Addr×Obj):=(List.range h.objs.size).filterMap fun a=>if a=L\/(g.get? a).isSome=true then none else(h.get? a).map fun o=>(a,o)
def rest(g h:Heap)(L d:Addr):List (Addr×Obj):=(allNews g h L).filter fun p=>decide (p.1≠d)
open PySem PySem.Spec PyProof.Rows
structure Mod (K:Af) (mg:Str->Option Value) (base:Heap):Prop where
 kin:K.In base
 glob:base.Ns Ci mg
 blt:∃mb,base.Ns builtinsNs mb/\∀x:Str,x ≠ "__name__" -> mb x=Gv x
 nolimit:base.NoLimit
structure Cx where
 prog:Program
 w:World
 K:Af
 mg:Str->Option Value
 base:Heap
 A:Around
 N:List Str
 s₀:Ad
 H₀:Hp
 env:Env
 outer:List Env
 stack:List Env
 ex:List Addr
 fn:Str->Bool
 calm:Bool
 pn:List (Addr×Obj)
 xe:Value->Ad->Prop
def frs(l:List Env):List Addr:=l.filterMap (·.frame)
abbrev Cx.fs(X:Cx):List Addr:=frs X.outer
def Vis(sc:Scope)(x:Str):Prop:=sc.names.lookup x=some .local\/sc.names.lookup x=some .cell\/sc.names.lookup x=some .free
def Loc(sc:Scope)(x:Str):Prop:=sc.names.lookup x=some .local\/sc.names.lookup x=some .cell
def Look(env:Env)(h:Heap)(m:Str->Option Value)(x:Str)(u:Value):Prop :=
 (env.kindOf x=some .local/\m x=some u)\/((env.kindOf x=some .cell\/env.kindOf x=some .free)/\∃c,env.cells.lookup x=some c/\h.IsCell c (some u))
structure Cx.Ok (X:Cx):Prop where
 mod:Mod X.K X.mg X.base
 kind:X.env.scope.kind=.function
 glob:X.env.globals=Ci
 blt:X.env.builtins=builtinsNs
 above:X.s₀.heap.objs.size<=X.env.locals
 inj:∀x y c,X.env.cells.lookup x=some c->X.env.cells.lookup y=some c->x=y
 has:∀x,(X.env.kindOf x=some .cell\/X.env.kindOf x=some .free)->∃c,X.env.cells.lookup x=some c
 cab:∀x c,X.fn x=true->X.env.cells.lookup x=some c->X.s₀.heap.objs.size<=c
 hd:X.calm=true->X.A.handled=none
 frames:X.A.frames=some X.stack
 stk:X.stack=X.outer\/(X.stack=X.env::X.outer/\X.env.frame=some X.env.locals)
 exf:∀b∈X.ex,b≠X.env.locals/\∀x c,X.env.cells.lookup x=some c->c≠b
 bs:∀b o,X.base.get? b=some o->X.s₀.heap.get? b=some o/\X.H₀ b=none
 bsz:X.base.objs.size<=X.s₀.heap.objs.size
 noex:∀b o,X.base.get? b=some o->b∉X.ex
 exfs:∀b∈X.ex,b∉X.fs
 funs:X.s₀.heap.FunFrames X.base X.outer
 frf:∀b∈X.fs,X.H₀ b=none
structure Inv (X:Cx) (pins:List (Addr×Obj)) (σ:List (Option V)) (H:Hp) (s:Ad):Prop where
 ok:X.Ok
 os:s.os=X.s₀.os
 bare:Jv s.gens
 base:Un X.fs X.ex X.H₀ H X.s₀.heap s.heap
 loc:∃m,s.heap.Ns X.env.locals m/\∀(i:Nat) (x:Str) (v:V),X.N[i]?=some x->σ[i]?=some (some v)->Vis X.env.scope x->∃u,RelV v u/\Look X.env s.heap m x u
 cell:∀x c,X.env.cells.lookup x=some c->∃v,s.heap.IsCell c v
 free:H X.env.locals=none
 freeC:∀x c,X.env.cells.lookup x=some c->H c=none
 pin:∀p∈X.pn++pins,s.heap.get? p.1=some p.2/\H p.1=none/\p.1≠X.env.locals/\p.1∉X.fs/\∀v,p.2.data≠.cell v
 hok:HOk X.prog X.w H s.heap
 len:σ.length=X.N.length
section
variable{X:Cx}{pins:List (Addr×Obj)}{σ:List (Option V)}{H H':Hp}{s:Ad}{h':Heap}
theorem Cx.Ok.nofr(ok:X.Ok)(e:X.base.get? b=some o):b∉X.fs:=fun hb=>by
 have:=(ok.funs.mem hb).1;rw[e] at this;cases this
theorem Inv.bs(I:Inv X pins σ H s):∀b o,X.base.get? b=some o->s.heap.get? b=some o/\H b=none:=fun b o e =>
 ⟨I.base.keep b o (I.ok.bs b o e).1 (I.ok.bs b o e).2 (I.ok.nofr e) (I.ok.noex b o e),I.base.free b o (I.ok.bs b o e).1 (I.ok.bs b o e).2 (I.ok.noex b o e)⟩
theorem Inv.bk(I:Inv X pins σ H s):∀b o,X.base.get? b=some o->s.heap.get? b=some o:=fun b o e=>(I.bs b o e).1
theorem Inv.mod(I:Inv X pins σ H s):Mod X.K X.mg X.base:=I.ok.mod
theorem Inv.kIn(I:Inv X pins σ H s):X.K.In s.heap:=I.ok.mod.kin.keeps I.bk
theorem Inv.nolimit(I:Inv X pins σ H s):s.heap.NoLimit:=I.ok.mod.nolimit.keeps I.bk
theorem Inv.fr(I:Inv X pins σ H s):∃m,Fr X.base X.env.locals s.heap m :=
 let ⟨m,hn,_⟩:=I.loc
 ⟨m,hn,I.bk,By I.ok.bsz I.ok.above⟩
theorem Inv.lt(I:Inv X pins σ H s):X.env.locals<s.heap.objs.size:=let ⟨_,hn,_⟩:=I.loc;hn.lt
theorem Inv.sz(I:Inv X pins σ H s):X.s₀.heap.objs.size<=s.heap.objs.size:=By I.ok.above (Ft I.lt)
theorem Inv.nofs(I:Inv X pins σ H s){a:Addr}(h:s.heap.objs.size<=a):a∉X.fs:=fun hb=>by
 obtain⟨_,o,ho,_⟩:=I.ok.funs.mem hb;exact absurd (Be (Aj ho) (By I.sz h)) (Dy _)
theorem Inv.cne(I:Inv X pins σ H s):∀x c,X.env.cells.lookup x=some c->c≠X.env.locals:=fun x c e z=>by
 obtain⟨v,o,ho,hd⟩:=I.cell x c e;obtain⟨m,⟨o',es,ep,ho',hd',_⟩,_⟩:=I.loc;rw[z,ho'] at ho;cases ho;rw[hd'] at hd;cases hd
theorem Inv.funs(I:Inv X pins σ H s):s.heap.FunFrames X.base X.outer:=by
 have all:∀(l:List Env),(∀b∈frs l,b∈X.fs)->X.s₀.heap.FunFrames X.base l->s.heap.FunFrames X.base l:=by
  intro l;induction l with
  |nil=>intro _ _;trivial
  |cons env r ih =>
   intro hs hl;obtain⟨hk,⟨L,o,hf,hn,ho,hd⟩,hr⟩:=hl;have hL:=hs L (by unfold frs;rw[Kn,hf];exact Ap);obtain⟨sl,e⟩:=I.base.slot L o ho (I.ok.frf L hL) hL fun z=>I.ok.exfs L z hL;exact⟨hk,⟨L,_,hf,hn,e,hd⟩,ih (fun b hb=>hs b (by unfold frs;rw[Kn,hf];exact Ah _ hb)) hr⟩
 exact all X.outer (fun _ hb=>hb) I.ok.funs
theorem Inv.stack(I:Inv X pins σ H s):s.heap.FunFrames X.base X.stack:=by
 rcases I.ok.stk with e|⟨e,hf⟩
 ·rw[e];exact I.funs
 ·rw[e];obtain⟨m,hn,_⟩:=I.loc;refine .cons (by rw[I.ok.kind];decide) hf hn ?_ I.funs;exact Heap.get?_none_of_le (By I.ok.bsz I.ok.above)
theorem Inv.stkSub(I:Inv X pins σ H s):∀b∈frs X.stack,b∈X.env.locals::X.fs:=fun b hb=>by
 rcases I.ok.stk with e|⟨e,hf⟩
 ·grind
 ·rw[e] at hb;unfold frs at hb;rw[Kn,hf] at hb;exact hb
theorem Inv.stkFree(I:Inv X pins σ H s):∀b∈frs X.stack,H b=none:=fun b hb=>by
 rcases Bb.mp (I.stkSub b hb) with e|hb
 ·rw[e];exact I.free
 ·obtain⟨_,o,ho,_⟩:=I.ok.funs.mem hb;exact I.base.free b o ho (I.ok.frf b hb) fun z=>I.ok.exfs b z hb
theorem Inv.step{ch:List Addr}(I:Inv X pins σ H s)(hch:∀b∈ch,(b∈X.ex\/X.s₀.heap.objs.size<=b)/\b≠X.env.locals/\(∀x c,X.env.cells.lookup x=some c->c≠b)/\∀p∈X.pn++pins,p.1≠b)(keep:∀b o,b≠X.env.locals->b∉X.fs->b∉ch->s.heap.get? b=some o->H b=none->h'.get? b=some o)(slot:∀b o,b≠X.env.locals->b∈X.fs->b∉ch->s.heap.get? b=some o->H b=none->∃sl,h'.get? b=some { o with slots:=sl })(free:∀b o,b∉ch->s.heap.get? b=some o->H b=none->H' b=none)(there:∀b o,b∉ch->s.heap.get? b=some o->∃o',h'.get? b=some o')(tups:∀b xs,H b=some (.tup xs)->H' b=some (.tup xs))(frzs:∀b o u,H b=some (.frz o u)->H' b=some (.frz o u))(tbls:∀b ps,H b=some (.tbl ps)->∃more,H' b=some (.tbl (ps++more)))(ns:∀m,s.heap.Ns X.env.locals m->h'.Ns X.env.locals m)(hok:HOk X.prog X.w H' h')(hg:Jv g'):
  Inv X pins σ H' { s with heap:=h',gens:=g',drawn:=d',toks:=t' }:=by
 have neL:∀b o,X.s₀.heap.get? b=some o->b≠X.env.locals:=fun b o e=>Au (Be (Aj e) I.ok.above);have neC:∀b o,X.s₀.heap.get? b=some o->b∉X.ex->b∉ch:=fun b o e hx hb=>by
  rcases(hch b hb).1 with z|z
  ·exact hx z
  ·exact absurd (Be (Aj e) z) (Dy _)
 have cellK:∀x c,X.env.cells.lookup x=some c->∀v,s.heap.IsCell c v->h'.IsCell c v:=fun x c e v ⟨o,ho,hd⟩=>by
  have nch:=fun z=>(hch c z).2.2.1 x c e rfl;by_cases hc:c∈X.fs
  ·obtain⟨sl,q⟩:=slot c o (I.cne x c e) hc nch ho (I.freeC x c e);exact⟨_,q,hd⟩
  ·exact⟨o,keep c o (I.cne x c e) hc nch ho (I.freeC x c e),hd⟩
 refine⟨I.ok,I.os,hg,⟨fun b o e n hb hx=>?_,fun b o e n hb hx=>?_,fun b o e n hx=>?_,fun b o e hx=>?_,fun b xs e=>tups b xs (I.base.tups b xs e),fun b o xs e=>frzs b o xs (I.base.frzs b o xs e),fun b ps e=>?_⟩,?_,fun x c e=>?_,?_,fun x c e=>?_,fun p hp=>?_,hok,I.len⟩
 ·exact keep b o (neL b o e) hb (neC b o e hx) (I.base.keep b o e n hb hx) (I.base.free b o e n hx)
 ·obtain⟨sl,e1⟩:=I.base.slot b o e n hb hx;obtain⟨sl',e2⟩:=slot b _ (neL b o e) hb (neC b o e hx) e1 (I.base.free b o e n hx);exact⟨sl',e2⟩
 ·obtain⟨o',e1⟩:=I.base.there b o e hx;exact free b o' (neC b o e hx) e1 (I.base.free b o e n hx)
 ·obtain⟨o',e1⟩:=I.base.there b o e hx;exact there b o' (neC b o e hx) e1
 ·obtain⟨m1,e1⟩:=I.base.tbls b ps e;obtain⟨m2,e2⟩:=tbls b _ e1;exact⟨m1++m2,by rw[e2,Pl]⟩
 ·obtain⟨m,hn,hl⟩:=I.loc;refine⟨m,ns m hn,fun i x v e1 e2 e3=>?_⟩;obtain⟨u,r,l⟩:=hl i x v e1 e2 e3;refine⟨u,r,?_⟩;rcases l with l|⟨k,c,e,z⟩
  ·exact .inl l
  ·exact .inr ⟨k,c,e,cellK x c e _ z⟩
 ·obtain⟨v,z⟩:=I.cell x c e;exact⟨v,cellK x c e v z⟩
 ·obtain⟨m,⟨o,_,_,ho,_⟩,_⟩:=I.loc;exact free _ o (fun z=>(hch _ z).2.1 rfl) ho I.free
 ·obtain⟨v,o,ho,hd⟩:=I.cell x c e;exact free c o (fun z=>(hch c z).2.2.1 x c e rfl) ho (I.freeC x c e)
 ·obtain⟨e,n,ne,nf,d⟩:=I.pin p hp;have nch:=fun z=>(hch p.1 z).2.2.2 p hp rfl
  exact⟨keep p.1 p.2 ne nf nch e n,free p.1 p.2 nch e n,ne,nf,d⟩
theorem Inv.un(I:Inv X pins σ H s)(u:Un X.fs [] H H' s.heap h')(hok:HOk X.prog X.w H' h'):Inv X pins σ H' { s with heap:=h',toks:=t' }:=by
 obtain⟨m,⟨o,es,ep,ho,r⟩,_⟩:=id I.loc;obtain⟨sl,hL⟩:=u.any ho I.free (by simp);exact I.step (g':=s.gens) (d':=s.drawn) (ch:=[]) (fun _ z=>nomatch z) (fun b o _ hb _ e n=>u.keep b o e n hb (by simp)) (fun b o _ hb _ e n=>u.slot b o e n hb (by simp)) (fun b o _ e n=>u.free b o e n (by simp)) (fun b o _ e=>u.there b o e (by simp)) u.tups u.frzs u.tbls (fun m' hm=>by
  obtain⟨o',es',ep',ho',r'⟩:=hm;rw[ho] at ho';cases ho';exact⟨_,es',ep',hL,r'⟩) hok I.bare
theorem Inv.call(I:Inv X pins σ H s)(u:Un (frs X.stack) ch H H' s.heap h')(hok:HOk X.prog X.w H' h')(hg:Jv g')(hch:∀b∈ch,(b∈X.ex\/X.s₀.heap.objs.size<=b)/\b≠X.env.locals/\(∀x c,X.env.cells.lookup x=some c->c≠b)/\∀p∈X.pn++pins,p.1≠b):
  Inv X pins σ H' { s with heap:=h',gens:=g',drawn:=d',toks:=t' }:=by
 obtain⟨m,⟨o,es,ep,ho,r⟩,_⟩:=id I.loc;obtain⟨sl,hL⟩:=u.any ho I.free fun z=>(hch _ z).2.1 rfl
 exact I.step hch (fun b o hL hb hc e n=>u.keep b o e n (fun z=>(Bb.mp (I.stkSub b z)).elim hL hb) hc) (fun b o _ _ hc e n=>u.any e n hc) (fun b o hc e n=>u.free b o e n hc) (fun b o hc e=>u.there b o e hc) u.tups u.frzs u.tbls (fun m' hm=>by
  obtain⟨o',es',ep',ho',r'⟩:=hm;rw[ho] at ho';cases ho';exact⟨_,es',ep',hL,r'⟩) hok hg
theorem Inv.turned(I:Inv X pins σ H s)(k:∀b o,b≠it->s.heap.get? b=some o->h'.get? b=some o)(hn:H it=none)(hL:it≠X.env.locals)(h1:it∈X.ex\/X.s₀.heap.objs.size<=it)(h2:∀x c,X.env.cells.lookup x=some c->c≠it)(h3:∀p∈X.pn++pins,p.1≠it):Inv X pins σ H { s with heap:=h',toks:=t' }:=by
 have nit:∀b u,H b=some u->b≠it:=fun b u e z=>by rw[z,hn] at e;cases e
 refine I.step (g':=s.gens) (d':=s.drawn) (ch:=[it]) (fun b hb=>?_) (fun b o _ _ hc e _=>k b o (fun z=>hc (by simp[z])) e) (fun b o _ _ hc e _=>⟨o.slots,k b o (fun z=>hc (by simp[z])) e⟩) (fun _ _ _ _ n=>n)
  (fun b o hc e=>⟨o,k b o (fun z=>hc (by simp[z])) e⟩) (fun _ _ e=>e) (fun _ _ _ e=>e) (fun b ps e=>⟨#[],by rw[e];simp⟩) (fun m hm=>?_) (fun b u e=>?_) I.bare
 ·have e:b=it:=by simpa using hb
  subst e;exact⟨h1,hL,h2,h3⟩
 ·obtain⟨o,es,ep,ho,r⟩:=hm;exact⟨o,es,ep,k _ o (Dp hL) ho,r⟩
 ·refine(I.hok b u e).stay (fun c v hc q=>k c v ?_ q) (fun _ q=>q) fun _ _ q=>q;rcases hc with z|z
  ·rw[z];exact nit b u e
  ·exact nit c _ z
theorem Inv.tok(I:Inv X pins σ H s)(t:Nat):Inv X pins σ H { s with toks:=t }:=I.un (h':=s.heap) (t':=t) Un.refl I.hok
theorem Inv.kept(I:Inv X pins σ H s)(k:∀b u,s.heap.get? b=some u->h'.get? b=some u):Inv X pins σ H { s with heap:=h',toks:=t' }:=I.un (Un.kept k) (I.hok.kept k)
theorem Inv.laid{a:Addr}(I:Inv X pins σ H s)(k:∀b u,s.heap.get? b=some u->h'.get? b=some u)(hp:s.heap.objs.size<=a)(new:ObjOk X.prog X.w (upd H a o) h' a o):
  Inv X pins σ (upd H a o) { s with heap:=h',toks:=t' }:=I.un (Un.laid k hp (I.hok.fresh hp)) (I.hok.laid k hp new)
theorem Inv.write(I:Inv X pins σ H s)(mu:Mut (H x))(he:e=x\/H e=some (.own x))(k:∀b u,b≠e->s.heap.get? b=some u->h'.get? b=some u)(heo:∃u,h'.get? e=some u)(new:ObjOk X.prog X.w (upd H x o) h' x o):Inv X pins σ (upd H x o) { s with heap:=h',toks:=t' }:=I.un (Un.write mu he k heo) (I.hok.write mu he k heo new)
theorem Inv.weak(I:Inv X pins σ H s)(hl:σ'.length=σ.length)(w:∀(i:Nat) v,σ'[i]?=some (some v)->σ[i]?=some (some v)):Inv X pins σ' H s :=
 ⟨I.ok,I.os,I.bare,I.base,let ⟨m,hn,hl'⟩:=I.loc;⟨m,hn,fun i x v e1 e2 e3=>hl' i x v e1 (w i v e2) e3⟩,I.cell,I.free,I.freeC,I.pin,I.hok,hl.trans I.len⟩
theorem Inv.pins_of(I:Inv X pins σ H s)(h:∀p∈pins',s.heap.get? p.1=some p.2/\H p.1=none/\p.1≠X.env.locals/\p.1∉X.fs/\∀v,p.2.data≠.cell v):Inv X pins' σ H s :=
 ⟨I.ok,I.os,I.bare,I.base,I.loc,I.cell,I.free,I.freeC,fun p hp=>(Az.mp hp).elim (fun z=>I.pin p (Dh _ z)) (h p),I.hok,I.len⟩
theorem q9z{N:List Str}(hN:N.Nodup){j:Nat}(a:N[i]?=some x)(b:N[j]?=some x):i=j:=by
 obtain⟨h1,e1⟩:=Bp.mp a;obtain⟨h2,e2⟩:=Bp.mp b;exact(List.getElem_inj hN).mp (e1.trans e2.symm)
theorem q7g(I:Inv X pins σ H s)(hN:X.N.Nodup)(hi:X.N[i]?=some x)(hx:Loc X.env.scope x)(r:RelV v u)(h:∀s',Inv X pins (σ.set i (some v)) H s'->(∃a,De a s.heap s'.heap/\(a=X.env.locals\/X.env.cells.lookup x=some a))->Q () s')(hf:X.fn x=true\/X.env.scope.names.lookup x=some .local:=by first|exact .inl rfl|exact .inr rfl|assumption):wpAny M A (storeName X.env x u) Q E s:=by
 obtain⟨m,hn,hl⟩:=id I.loc;have hcls:(X.env.scope.kind==.class||(X.env.scope.kind==.module&&X.env.locals != X.env.globals))=false:=by rw[I.ok.kind];rfl
 have hiσ:i<σ.length:=by rw[I.len];exact(Bp.mp hi).1
 have cne:=I.cne;have tracked:∀{a:Addr} {h':Heap},(∃o,s.heap.get? a=some o/\H a=none)->De a s.heap h'->HOk X.prog X.w H h':=fun{a h'} ha hs b ob e=>by
  obtain⟨_,_,hfree⟩:=ha;refine(I.hok b ob e).stay (fun c w' hc q=>(hs.2 c ?_).trans q) (fun _ q=>q) fun _ _ q=>q
  rcases hc with rfl|hc
  ·grind
  ·grind
 rcases hx with hk|hk
 ·refine wpAny_storeName_local hk hn (fun h' hn' hs=>?_) hcls;obtain⟨oL,_,_,hoL,_⟩:=id hn;refine h _ ⟨I.ok,I.os,I.bare,⟨fun b o e n hb hx=>?_,fun b o e n hb hx=>?_,I.base.free,fun b o e hx=>?_,I.base.tups,I.base.frzs,I.base.tbls⟩,⟨_,hn',fun j y v' e1 e2 e3=>?_⟩,fun y c e=>?_,I.free,I.freeC,fun p hp=>?_,tracked ⟨oL,hoL,I.free⟩ hs,by simpa using I.len⟩ ⟨_,hs,.inl rfl⟩
  ·exact(hs.2 b (Au (Be (Aj e) I.ok.above))).trans (I.base.keep b o e n hb hx)
  ·obtain⟨sl,e1⟩:=I.base.slot b o e n hb hx;exact⟨sl,(hs.2 b (Au (Be (Aj e) I.ok.above))).trans e1⟩
  ·obtain⟨o',e1⟩:=I.base.there b o e hx;exact⟨o',(hs.2 b (Au (Be (Aj e) I.ok.above))).trans e1⟩
  ·by_cases hj:j=i
   ·subst hj;rw[hi] at e1;cases e1;rw[Mu hiσ] at e2;cases e2;exact⟨u,r,.inl ⟨hk,by simp⟩⟩
   ·rw[Oe (Dp hj)] at e2;obtain⟨u',r',q⟩:=hl j y v' e1 e2 e3;refine⟨u',r',?_⟩;rcases q with⟨k,e⟩|⟨k,c,e,z⟩
    ·refine .inl ⟨k,?_⟩;have:y≠x:=fun e=>hj (q9z hN e1 (e▸hi));simp[this,e]
    ·exact .inr ⟨k,c,e,z.sameBut hs (cne y c e)⟩
  ·obtain⟨w',z⟩:=I.cell y c e;exact⟨w',z.sameBut hs (cne y c e)⟩
  ·obtain⟨e,n,ne,nf,d⟩:=I.pin p hp;exact⟨(hs.2 p.1 ne).trans e,n,ne,nf,d⟩
 ·have hfn:X.fn x=true:=by
   rcases hf with z|z
   ·exact z
   ·grind
  obtain⟨c,hc⟩:=I.ok.has x (.inl hk);obtain⟨w',z⟩:=I.cell x c hc;refine wpAny_storeName_cell I.ok.kind hk hc z (fun h' hc' hs=>?_);obtain⟨oc,hoc,hocd⟩:=id z;refine h { s with heap:=h' } ⟨I.ok,I.os,I.bare,⟨fun b o e n hb hx=>?_,fun b o e n hb hx=>?_,I.base.free,fun b o e hx=>?_,I.base.tups,I.base.frzs,I.base.tbls⟩,⟨m,hn.sameBut hs (Dp (cne x c hc)),fun j y v' e1 e2 e3=>?_⟩,fun y c' e=>?_,I.free,I.freeC,fun p hp=>?_,tracked ⟨oc,hoc,I.freeC x c hc⟩ hs,by simpa using I.len⟩ ⟨c,hs,.inr hc⟩
  ·exact(hs.2 b (Au (Be (Aj e) (I.ok.cab x c hfn hc)))).trans (I.base.keep b o e n hb hx)
  ·obtain⟨sl,e1⟩:=I.base.slot b o e n hb hx;exact⟨sl,(hs.2 b (Au (Be (Aj e) (I.ok.cab x c hfn hc)))).trans e1⟩
  ·obtain⟨o',e1⟩:=I.base.there b o e hx;exact⟨o',(hs.2 b (Au (Be (Aj e) (I.ok.cab x c hfn hc)))).trans e1⟩
  ·by_cases hj:j=i
   ·subst hj;rw[hi] at e1;cases e1;rw[Mu hiσ] at e2;cases e2;exact⟨u,r,.inr ⟨.inl hk,c,hc,hc'⟩⟩
   ·rw[Oe (Dp hj)] at e2;obtain⟨u',r',q⟩:=hl j y v' e1 e2 e3;refine⟨u',r',?_⟩;rcases q with q|⟨k,c',e,z'⟩
    ·exact .inl q
    ·refine .inr ⟨k,c',e,z'.sameBut hs ?_⟩;rintro rfl;exact hj (q9z hN e1 (I.ok.inj _ _ _ e hc▸hi))
  ·by_cases hcc:c'=c
   ·grind
   ·obtain⟨w2,z2⟩:=I.cell y c' e;exact⟨w2,z2.sameBut hs hcc⟩
  ·obtain⟨e,n,ne,nf,d⟩:=I.pin p hp;refine⟨(hs.2 p.1 ?_).trans e,n,ne,nf,d⟩;intro q;rw[q,hoc] at e;have q':=Co e;exact d w' (by rw[<- q'];exact hocd)
theorem z0a(I:Inv X pins σ H s)(hN:X.N.Nodup)(hi:X.N[i]?=some x)(hx:Loc X.env.scope x)(r:RelV v u)(h:∀s',Inv X pins (σ.set i (some v)) H s'->Q () s')(hf:X.fn x=true\/X.env.scope.names.lookup x=some .local:=by first|exact .inl rfl|exact .inr rfl|assumption):wpAny M A (storeName X.env x u) Q E s :=
 q7g I hN hi hx r (fun s' I' _=>h s' I') hf
theorem Inv.call'(I:Inv X pins σ H s)(ho:s'.os=s.os)(u:Un (frs X.stack) ch H H' s.heap s'.heap)(hok:HOk X.prog X.w H' s'.heap)(hg:Jv s'.gens)(hch:∀b∈ch,(b∈X.ex\/X.s₀.heap.objs.size<=b)/\b≠X.env.locals/\(∀x c,X.env.cells.lookup x=some c->c≠b)/\∀p∈X.pn++pins,p.1≠b):Inv X pins σ H' s':=by
 obtain⟨h',g',d',t',o'⟩:=s';have e:=ho;subst e;exact I.call (g':=g') (t':=t') (d':=d') u hok hg hch
end
abbrev XK:=Value->Option Addr->Hp->Prop
abbrev St:=List (Option V)
abbrev VK:=V->Hp->Prop
abbrev TE:=St->Hp->VK->Prop
abbrev TT:=St->Hp->(Bool->Hp->Prop)->Prop
abbrev TA:=St->Hp->(List V->Hp->Prop)->Prop
structure Ends where
 nx:St->Hp->Prop
 rt:VK
 bk:St->Hp->Prop:=fun _ _=>False
 ct:St->Hp->Prop:=fun _ _=>False
abbrev TS:=Ends->St->Hp->Prop
def EP(X:Cx)(pins:List (Addr×Obj))(σ:St)(Q:VK)(u:Value)(s':Ad):Prop:=∃v H',Inv X pins σ H' s'/\RelV v u/\Q v H'
def TP(X:Cx)(pins:List (Addr×Obj))(σ:St)(Q:Bool->Hp->Prop)(b:Bool)(s':Ad):Prop:=∃H',Inv X pins σ H' s'/\Q b H'
def AP(X:Cx)(pins:List (Addr×Obj))(σ:St)(Q:List V->Hp->Prop)(us:List Value)(s':Ad):Prop:=∃vs H',Inv X pins σ H' s'/\Vals vs us/\Q vs H'
def SP(X:Cx)(pins:List (Addr×Obj))(D:Ends)(f:Flow)(s':Ad):Prop :=
 match f with
 |.next=>∃σ' H',Inv X pins σ' H' s'/\D.nx σ' H'
 |.brk=>∃σ' H',Inv X pins σ' H' s'/\D.bk σ' H'
 |.cont=>∃σ' H',Inv X pins σ' H' s'/\D.ct σ' H'
 |.ret u=>∃v σ' H',Inv X pins σ' H' s'/\RelV v u/\D.rt v H'
def PE(X:Cx)(e:Expr)(t:TE):Prop :=
 ∀(pins:List (Addr×Obj)) (s:Ad) (σ:St) (H:Hp) (Q:VK),Inv X pins σ H s->t σ H Q->wpAny (model X.prog X.w) X.A (eval e X.env) (EP X pins σ Q) X.xe s
def PT(X:Cx)(e:Expr)(t:TT):Prop :=
 ∀(pins:List (Addr×Obj)) (s:Ad) (σ:St) (H:Hp) (Q:Bool->Hp->Prop),Inv X pins σ H s->t σ H Q->wpAny (model X.prog X.w) X.A (isTrue e X.env (eval e X.env)) (TP X pins σ Q) X.xe s
def PW(X:Cx)(e:Expr)(t:TT):Prop :=
 ∀(whole:Sem Value) (pins:List (Addr×Obj)) (s:Ad) (σ:St) (H:Hp) (Q:Bool->Hp->Prop),Inv X pins σ H s->t σ H Q->wpAny (model X.prog X.w) X.A (isTrue e X.env whole) (TP X pins σ Q) X.xe s
theorem PW.pt{X:Cx}{e:Expr}{t:TT}(h:PW X e t):PT X e t:=h _
def PA(X:Cx)(es:List Expr)(t:TA):Prop :=
 ∀(pos:Pos) (pins:List (Addr×Obj)) (s:Ad) (σ:St) (H:Hp) (Q:List V->Hp->Prop),Inv X pins σ H s->t σ H Q->wpAny (model X.prog X.w) X.A (spliced (Du pos (Bc es X.env))) (AP X pins σ Q) X.xe s
def PS(X:Cx)(st:Stmt)(t:TS):Prop :=
 ∀(pins:List (Addr×Obj)) (s:Ad) (σ:St) (H:Hp) (D:Ends),Inv X pins σ H s->t D σ H->wpAny (model X.prog X.w) X.A (exec st X.env) (SP X pins D) X.xe s
def PSs(X:Cx)(st:List Stmt)(t:TS):Prop :=
 ∀(pins:List (Addr×Obj)) (s:Ad) (σ:St) (H:Hp) (D:Ends),Inv X pins σ H s->t D σ H->wpAny (model X.prog X.w) X.A (execs st X.env) (SP X pins D) X.xe s
theorem thn{t:Sem α}{Q Q':α->Ad->Prop}(h:wpAny M A t Q E s)(hQ:∀a s,Q a s->Q' a s):wpAny M A t Q' E s:=Bw h hQ fun _ _ x=>x
open PySem PySem.Spec PyProof.Rows
section
variable{X:Cx}
def tVar(i:Nat):TE:=fun σ H Q=>∃v,σ[i]?=some (some v)/\Q v H
def tC(v:V):TE:=fun _ H Q=>Q v H
theorem pe_var{pos:Pos}(hN:X.N[i]?=some x)(hv:Vis X.env.scope x)(hd:(x==("__debug__" : Str))=false:=by decide)(hcd:(x==("__classdict__" : Str))=false:=by decide):PE X (.Name x pos) (tVar i):=by
 intro pins s σ H Q I h;obtain⟨v,e,h⟩:=h;obtain⟨m,hn,hl⟩:=I.loc;obtain⟨u,r,l⟩:=hl i x v hN e hv;have fin:EP X pins σ Q u s:=⟨v,H,I,r,h⟩
 rcases l with⟨hk,hm⟩|⟨hk,c,hc,hcell⟩
 ·exact Rm (wpAny_loadName_local I.ok.kind hk hn hm fin) hd
 ·rcases hk with hk|hk
  ·exact Rm (wpAny_loadName_cell I.ok.kind hk hc hcell fin) hd
  ·exact Rm (wpAny_loadName_free I.ok.kind hk hc hcell fin hcd) hd
theorem q0g{i j pos}:PE X (.Constant (.int i) j pos) (tC (.int i)):=fun _ _ _ H _ I h=>wpAny_Constant_int ⟨.int i,H,I.tok _,⟨_,rfl⟩,h⟩
theorem q3u{b j pos}:PE X (.Constant (.bool b) j pos) (tC (.bl b)):=fun _ _ _ H _ I h=>Constant_bool ⟨.bl b,H,I,rfl,h⟩
theorem q7h{j pos}:PE X (.Constant .none j pos) (tC .non):=fun _ _ _ H _ I h=>Oy ⟨.non,H,I,rfl,h⟩
theorem q2i{x j pos}:PE X (.Constant (.str x) j pos) (tC (.str x)):=fun _ _ _ H _ I h=>Calls.Constant_str ⟨.str x,H,I.tok _,⟨_,rfl⟩,h⟩
def Gl(X:Cx)(x:Str):Prop:=X.env.kindOf x=some .globalImplicit
theorem q9b{σ:St}(I:Inv X pins σ H s)(hg:Gl X x)(hm:X.mg x=some u)(h:Q u s)(hd:(x==("__debug__" : Str))=false:=by decide):wpAny (model X.prog X.w) X.A (eval (.Name x pos) X.env) Q E s :=
 Lb I.ok.kind hg (Calls.loadGlobal_global (by rw[I.ok.glob];exact I.mod.glob.keeps I.bk) hm h) hd
theorem q7i{E:Value->Ad->Prop}{σ:St}{pos:Pos}(I:Inv X pins σ H s)(hg:Gl X x)(hm:X.mg x=none)(hv:Gv x=some u)(h:Q u s)(hn:x ≠ "__name__" := by decide)(hd:(x==("__debug__" : Str))=false:=by decide):wpAny (model X.prog X.w) X.A (eval (.Name x pos) X.env) Q E s:=by
 obtain⟨mb,h1,h2⟩:=I.mod.blt;exact Lb I.ok.kind hg (Calls.loadGlobal_builtin (by rw[I.ok.glob];exact I.mod.glob.keeps I.bk) hm (by rw[I.ok.blt];exact h1.keeps I.bk) ((h2 x hn).trans hv) h) hd
theorem z2m{x:Str}{v:V}{u:Value}{pos:Pos}(hg:Gl X x)(hm:X.mg x=some u)(r:RelV v u)(hd:(x==("__debug__" : Str))=false:=by decide):PE X (.Name x pos) (tC v) :=
 fun _ _ _ H _ I h=>q9b I hg hm ⟨v,H,I,r,h⟩ hd
theorem q6j{x:Str}{v:V}{u:Value}{pos:Pos}(hg:Gl X x)(hm:X.mg x=none)(hv:Gv x=some u)(r:RelV v u)(hn:x ≠ "__name__" := by decide)(hd:(x==("__debug__" : Str))=false:=by decide):PE X (.Name x pos) (tC v) :=
 fun _ _ _ H _ I h=>q7i I hg hm hv ⟨v,H,I,r,h⟩ hn hd
variable{a b:Expr}{ta tb:TE}{pos:Pos}
def PC(X:Cx)(op:CmpOp)(a b:Expr)(t:TE):Prop :=
 ∀(pins:List (Addr×Obj)) (s:Ad) (σ:St) (H:Hp) (Q:VK),Inv X pins σ H s->t σ H Q ->
  wpAny (model X.prog X.w) X.A (eval a X.env) (fun v s₁=>wpAny (model X.prog X.w) X.A (eval b X.env) (fun u s₂=>wpAny (model X.prog X.w) X.A (Ce op v u) (EP X pins σ Q) X.xe s₂) X.xe s₁) X.xe s
theorem nobehind(b:Expr)(h:op≠.In)(h2:op≠.NotIn):Ff op b=false:=by
 have e1:(op==CmpOp.In)=false:=by grind
 have e2:(op==CmpOp.NotIn)=false:=by grind
 cases b<;>simp[Ff,e1,e2]
def tIsN(ta:TE):TE:=fun σ H Q=>ta σ H fun x H1=>Q (.bl (decide (x=.non))) H1
def tNotN(ta:TE):TE:=fun σ H Q=>ta σ H fun x H1=>Q (.bl (!decide (x=.non))) H1
theorem RelV.none_iff(r:RelV x v):(v==Value.none)=decide (x=.non):=by
 cases x with
 |non=>cases r;rfl
 |bl _=>cases r;rfl
 |int _=>obtain⟨t,rfl⟩:=r;rfl
 |str _=>obtain⟨t,rfl⟩:=r;rfl
 |byt _=>obtain⟨t,rfl⟩:=r;rfl
 |flt _=>obtain⟨t,rfl⟩:=r;rfl
 |ref _=>cases r;rfl
 |ty _=>cases r;rfl
theorem q4u{j pos'}(ha:PE X a ta):PC X .Is a (.Constant .none j pos') (tIsN ta):=by
 intro pins s σ H Q I h;refine thn (ha pins s σ H _ I h) fun v s1 ⟨x,H1,I1,r1,q1⟩=>?_;exact Oy (is_none_gen ⟨.bl _,H1,I1,by rw[r1.none_iff];rfl,q1⟩)
theorem q4v{j pos'}(ha:PE X a ta):PC X .IsNot a (.Constant .none j pos') (tNotN ta):=by
 intro pins s σ H Q I h;refine thn (ha pins s σ H _ I h) fun v s1 ⟨x,H1,I1,r1,q1⟩=>?_;exact Oy (isnot_none_gen ⟨.bl _,H1,I1,by rw[r1.none_iff];rfl,q1⟩)
def tB(t:TE):TT:=fun σ H Q=>t σ H fun x H1=>∃c,x=.bl c/\Q c H1
theorem z7m{op:CmpOp}{t:TE}(h:PC X op a b t)(h1:Ff op b=false:=by first|exact nobehind _ (by decide) (by decide)|rfl):PE X (.Compare a [op] [b] pos) t:=fun pins s σ H Q I hw=>wpAny_Compare1 (h pins s σ H Q I hw) h1
theorem q1o{op:CmpOp}{t:TE}(h:PC X op a b t)(h1:Ff op b=false:=by first|exact nobehind _ (by decide) (by decide)|rfl):PT X (.Compare a [op] [b] pos) (tB t):=by
 intro pins s σ H Q I hw;refine Nj (thn (h pins s σ H _ I hw) fun v s1 h1=>thn h1 fun u s2 h2=>thn h2 fun c s3 ⟨x,H1,I1,r1,q1⟩=>?_) h1;obtain⟨d,rfl,q⟩:=q1;cases r1;exact Ek ⟨H1,I1,q⟩
variable{tA tB':TT}{rest:List Expr}
def tAnd(t u:TT):TT:=fun σ H Q=>t σ H fun c H1=>if c=true then u σ H1 Q else Q false H1
def tOr(t u:TT):TT:=fun σ H Q=>t σ H fun c H1=>if c=true then Q true H1 else u σ H1 Q
def tNot(t:TT):TT:=fun σ H Q=>t σ H fun c H1=>Q (!c) H1
theorem q2c(ha:PT X a tA):PW X (.BoolOp .And [a] pos) tA:=by
 intro wh pins s σ H Q I h;refine isTrue_and (thn (ha pins s σ H Q I h) fun c s1 e=>?_);cases c with
 |true=>exact isTrue_and_nil e
 |false=>exact e
theorem q4g(ha:PT X a tA):PW X (.BoolOp .Or [a] pos) tA:=by
 intro wh pins s σ H Q I h;refine isTrue_or (thn (ha pins s σ H Q I h) fun c s1 e=>?_);cases c with
 |false=>exact isTrue_or_nil e
 |true=>exact e
theorem q3k(ha:PT X a tA)(hb:PW X (.BoolOp .And (b::rest) pos) tB'):PW X (.BoolOp .And (a::b::rest) pos) (tAnd tA tB'):=by
 intro wh pins s σ H Q I h;refine isTrue_and (thn (ha pins s σ H _ I h) fun c s1 ⟨H1,I1,q1⟩=>?_);cases c with
 |true=>exact hb wh pins s1 σ H1 Q I1 q1
 |false=>exact⟨H1,I1,q1⟩
theorem q5t(ha:PT X a tA)(hb:PW X (.BoolOp .Or (b::rest) pos) tB'):PW X (.BoolOp .Or (a::b::rest) pos) (tOr tA tB'):=by
 intro wh pins s σ H Q I h;refine isTrue_or (thn (ha pins s σ H _ I h) fun c s1 ⟨H1,I1,q1⟩=>?_);cases c with
 |true=>exact⟨H1,I1,q1⟩
 |false=>exact hb wh pins s1 σ H1 Q I1 q1
theorem q3c(ha:PT X a tA):PT X (.UnaryOp .Not a pos) (tNot tA):=by
 intro pins s σ H Q I h;exact isTrue_not (ha pins s σ H (fun c H1=>Q (!c) H1) I h)
def tAndV(ta tb:TE):TE:=fun σ H Q=>ta σ H fun x H1=>∃c,x=.bl c/\if c=true then tb σ H1 Q else Q (.bl false) H1
def tOrV(ta tb:TE):TE:=fun σ H Q=>ta σ H fun x H1=>∃c,x=.bl c/\if c=true then Q (.bl true) H1 else tb σ H1 Q
theorem z2n{op}{t:TE}(h:PE X a t):PE X (.BoolOp op [a] pos) t:=fun pins s σ H Q I hw=>BoolOp_one (h pins s σ H Q I hw)
theorem z7n(ha:PE X a ta)(hb:PE X (.BoolOp .And (b::rest) pos) tb):PE X (.BoolOp .And (a::b::rest) pos) (tAndV ta tb):=by
 intro pins s σ H Q I h;refine BoolOp_and (thn (ha pins s σ H _ I h) fun v s1 ⟨x,H1,I1,r1,q1⟩=>?_);obtain⟨c,rfl,q1⟩:=q1;cases r1;refine Ek ?_;cases c with
 |true=>exact hb pins s1 σ H1 Q I1 q1
 |false=>exact⟨.bl false,H1,I1,rfl,q1⟩
theorem pe_or(ha:PE X a ta)(hb:PE X (.BoolOp .Or (b::rest) pos) tb):PE X (.BoolOp .Or (a::b::rest) pos) (tOrV ta tb):=by
 intro pins s σ H Q I h;refine BoolOp_or (thn (ha pins s σ H _ I h) fun v s1 ⟨x,H1,I1,r1,q1⟩=>?_);obtain⟨c,rfl,q1⟩:=q1;cases r1;refine Ek ?_;cases c with
 |false=>exact hb pins s1 σ H1 Q I1 q1
 |true=>exact⟨.bl true,H1,I1,rfl,q1⟩
end
open PySem PySem.Spec PyProof.Rows
def SqL(K:Af)(H:Hp)(a:Addr)(xs:List V):Prop :=
 Rd H a (.lst xs) \/
  ∃(o:Obj) (its:Array Value) (n:Nat),K.lookup a=some o/\o.cls=.type "list" /\ o.dict=none/\o.data=.seq its n/\its.size<=sizeLine/\Vals xs its.toList
def SqT(K:Af)(H:Hp)(a:Addr)(xs:List V):Prop :=
 Rd H a (.tup xs) \/
  ∃(o:Obj) (its:Array Value) (n:Nat),K.lookup a=some o/\o.cls=.type "tuple" /\ o.data=.seq its n/\its.size<=sizeLine/\Vals xs its.toList
def absV:Value->Option V
 |.none=>some .non
 |.bool b=>some (.bl b)
 |.int i _=>some (.int i)
 |.str x _=>some (.str x)
 |.bytes b _=>some (.byt b)
 |.float b _=>some (.flt b)
 |.ref a=>some (.ref a)
 |.type n=>some (.ty n)
 |_=>none
theorem RelV.abs(r:RelV x u):absV u=some x:=by
 cases x with
 |non=>cases r;rfl
 |bl _=>cases r;rfl
 |int _=>obtain⟨t,rfl⟩:=r;rfl
 |str _=>obtain⟨t,rfl⟩:=r;rfl
 |byt _=>obtain⟨t,rfl⟩:=r;rfl
 |flt _=>obtain⟨t,rfl⟩:=r;rfl
 |ref _=>cases r;rfl
 |ty _=>cases r;rfl
theorem RelV.inj(r:RelV x u)(q:RelV y u):x=y:=Co (r.abs.symm.trans q.abs)
theorem Vals.inj:∀{xs ys:List V} {us:List Value},Vals xs us->Vals ys us->xs=ys
 |_,_,_,.nil,.nil=>rfl
 |_,_,_,.cons r t,.cons r' t'=>by rw[r.inj r',Vals.inj t t']
section
variable{X:Cx}{pins:List (Addr×Obj)}{σ:St}{H:Hp}{s:Ad}{a:Addr}{xs ys:List V}
theorem SqL.of{K:Af}(h:H a=some (.lst xs)):SqL K H a xs:=.inl (.inl h)
theorem SqT.of{K:Af}(h:H a=some (.tup xs)):SqT K H a xs:=.inl (.inl h)
theorem Inv.list(I:Inv X pins σ H s)(h:SqL X.K H a xs):∃its:List Value,Vals xs its/\PlainL s.heap a its.toArray/\xs.length<=sizeLine:=by
 rcases h with h|⟨o,its,n,hk,hc,hd,hs,hz,r⟩
 ·obtain⟨z,its,n,r,e⟩:=h.ok I.hok;exact⟨its,r,⟨_,n,e,rfl,rfl,rfl⟩,z⟩
 ·refine⟨its.toList,r,⟨o,n,I.kIn a o hk,hc,hd,by simpa using hs⟩,?_⟩;have e:=r.length;simp only[Ca] at e;lia
theorem Inv.tuple(I:Inv X pins σ H s)(h:SqT X.K H a xs):∃its:List Value,Vals xs its/\IsTup s.heap a its.toArray/\xs.length<=sizeLine:=by
 rcases h with h|⟨o,its,n,hk,hc,hs,hz,r⟩
 ·obtain⟨z,its,r,p⟩:=h.ok I.hok;exact⟨its,r,p,z⟩
 ·refine⟨its.toList,r,⟨o,I.kIn a o hk,hc,n,by simpa using hs⟩,?_⟩;have e:=r.length;simp only[Ca] at e;lia
theorem Inv.list_inj(I:Inv X pins σ H s)(h:SqL X.K H a xs)(h':SqL X.K H a ys):xs=ys:=by
 obtain⟨its,r,⟨o,n,e,_,_,d⟩,_⟩:=I.list h;obtain⟨its',r',⟨o',n',e',_,_,d'⟩,_⟩:=I.list h';have:its=its':=by grind
 subst this;exact r.inj r'
theorem Inv.tuple_inj(I:Inv X pins σ H s)(h:SqT X.K H a xs)(h':SqT X.K H a ys):xs=ys:=by
 obtain⟨its,r,⟨o,e,_,n,d⟩,_⟩:=I.tuple h;obtain⟨its',r',⟨o',e',_,n',d'⟩,_⟩:=I.tuple h';have:its=its':=by grind
 subst this;exact r.inj r'
end
abbrev Cx.wish(X:Cx)(E:Value->Ad->Prop):Cx:={ X with xe:=E }
abbrev Cx.nox(X:Cx):Cx:=X.wish fun _ _=>False
theorem Cx.Ok.wish{X:Cx}(ok:X.Ok)(E:Value->Ad->Prop):(X.wish E).Ok :=
 ⟨ok.mod,ok.kind,ok.glob,ok.blt,ok.above,ok.inj,ok.has,ok.cab,ok.hd,ok.frames,ok.stk,ok.exf,ok.bs,ok.bsz,ok.noex,ok.exfs,ok.funs,ok.frf⟩
theorem Cx.Ok.unwish{X:Cx}(ok:(X.wish E).Ok):X.Ok :=
 ⟨ok.mod,ok.kind,ok.glob,ok.blt,ok.above,ok.inj,ok.has,ok.cab,ok.hd,ok.frames,ok.stk,ok.exf,ok.bs,ok.bsz,ok.noex,ok.exfs,ok.funs,ok.frf⟩
section
variable{X:Cx}{pins:List (Addr×Obj)}{σ:St}{H:Hp}{s:Ad}{E:Value->Ad->Prop}
theorem Inv.wish(I:Inv X pins σ H s)(E:Value->Ad->Prop):Inv (X.wish E) pins σ H s:=⟨I.ok.wish E,I.os,I.bare,I.base,I.loc,I.cell,I.free,I.freeC,I.pin,I.hok,I.len⟩
theorem Inv.unwish(I:Inv (X.wish E) pins σ H s):Inv X pins σ H s:=⟨I.ok.unwish,I.os,I.bare,I.base,I.loc,I.cell,I.free,I.freeC,I.pin,I.hok,I.len⟩
theorem SP.unwish(h:SP (X.wish E) pins D f s'):SP X pins D f s':=by
 cases f with
 |next=>obtain⟨σ',H',I,q⟩:=h;exact⟨σ',H',I.unwish,q⟩
 |brk=>obtain⟨σ',H',I,q⟩:=h;exact⟨σ',H',I.unwish,q⟩
 |cont=>obtain⟨σ',H',I,q⟩:=h;exact⟨σ',H',I.unwish,q⟩
 |ret u=>obtain⟨v,σ',H',I,r,q⟩:=h;exact⟨v,σ',H',I.unwish,r,q⟩
theorem PE.nox(h:PE X.nox e t):PE X e t:=fun pins s σ H Q I hw =>
 Bw (h pins s σ H Q (I.wish _) hw) (fun _ _ ⟨v,H',I',r,q⟩=>⟨v,H',I'.unwish,r,q⟩) fun _ _ z=>False.elim z
theorem PT.nox(h:PT X.nox e t):PT X e t:=fun pins s σ H Q I hw =>
 Bw (h pins s σ H Q (I.wish _) hw) (fun _ _ ⟨H',I',q⟩=>⟨H',I'.unwish,q⟩) fun _ _ z=>False.elim z
theorem PSs.nox{st:List Stmt}(h:PSs X.nox st t):PSs X st t:=fun pins s σ H D I hw =>
 Bw (h pins s σ H D (I.wish _) hw) (fun _ _ q=>q.unwish) fun _ _ z=>False.elim z
end
section
variable{X:Cx}{st:Stmt}{rest:List Stmt}{t u:TS}{e:Expr}{te:TE}{pos:Pos}
def tNext:TS:=fun D σ H=>D.nx σ H
def tSeq(t u:TS):TS:=fun D σ H=>t { D with nx:=u D } σ H
theorem q0j:PSs X [] tNext:=fun _ _ σ H _ I h=>Ib ⟨σ,H,I,h⟩
theorem q0e(h1:PS X st t)(h2:PSs X rest u):PSs X (st::rest) (tSeq t u):=by
 intro pins s σ H D I h;refine Ly (thn (h1 pins s σ H { D with nx:=u D } I h) fun f s1 q=>?_);cases f with
 |next =>
  obtain⟨σ',H',I',q⟩:=q;exact h2 pins s1 σ' H' D I' q
 |ret v=>exact q
 |brk=>exact q
 |cont=>exact q
theorem q0f(h1:PS X st t):PSs X [st] t:=by
 intro pins s σ H D I h;refine Ly (thn (h1 pins s σ H D I h) fun f s1 q=>?_);cases f with
 |next=>exact Ib q
 |ret v=>exact q
 |brk=>exact q
 |cont=>exact q
theorem Inv.quiet{σ:St}(I:Inv X pins σ H s):interactive X.env=false:=by simp[interactive,I.ok.kind]
def tDrop(te:TE):TS:=fun D σ H=>te σ H fun _ H1=>D.nx σ H1
theorem q1g(he:PE X e te)(hs:Kv e none pos.line X.env=pure false:=by rfl):PS X (.Expr e pos) (tDrop te):=by
 intro pins s σ H D I h;exact wpAny_Expr_any (thn (he pins s σ H _ I h) fun v s1 ⟨x,H1,I1,r1,q1⟩=>⟨σ,H1,I1,q1⟩) I.quiet hs
def tRet(te:TE):TS:=fun D σ H=>te σ H D.rt
theorem q0k(he:PE X e te):PS X (.Return (some e) pos) (tRet te):=by
 intro pins s σ H D I h;exact wpAny_Return_some (thn (he pins s σ H _ I h) fun v s1 ⟨x,H1,I1,r1,q1⟩=>⟨x,σ,H1,I1,r1,q1⟩)
def tIfS(c:TT)(t u:TS):TS:=fun D σ H=>c σ H fun b H1=>if b=true then t D σ H1 else u D σ H1
theorem q0w{c:Expr}{a b:List Stmt}{tc:TT}(hc:PT X c tc)(ha:PSs X a t)(hb:PSs X b u):PS X (.If c a b pos) (tIfS tc t u):=by
 intro pins s σ H D I h;refine wpAny_If (thn (hc pins s σ H _ I h) fun d s1 ⟨H1,I1,q1⟩=>?_);cases d with
 |true=>exact ha pins s1 σ H1 D I1 q1
 |false=>exact hb pins s1 σ H1 D I1 q1
def tNever:TS:=fun _ _ _=>False
theorem q1m:PS X st tNever:=fun _ _ _ _ _ _ h=>h.elim
end
abbrev TG:=V->St->Hp->(St->Hp->Prop)->Prop
abbrev TGs:=List V->St->Hp->(St->Hp->Prop)->Prop
def PG(X:Cx)(target:Expr)(t:TG):Prop :=
 ∀(pins:List (Addr×Obj)) (s:Ad) (σ:St) (H:Hp) (v:V) (u:Value) (Q:St->Hp->Prop),Inv X pins σ H s->RelV v u->t v σ H Q ->
  wpAny (model X.prog X.w) X.A (assign target X.env u) (fun _ s'=>∃σ' H',Inv X pins σ' H' s'/\Q σ' H') X.xe s
def PGs(X:Cx)(ts:List Expr)(t:TGs):Prop :=
 ∀(pins:List (Addr×Obj)) (s:Ad) (σ:St) (H:Hp) (vs:List V) (us:List Value) (Q:St->Hp->Prop),Inv X pins σ H s->Vals vs us->t vs σ H Q ->
  wpAny (model X.prog X.w) X.A (assignInOrder ((Hj ts X.env).map (·.2)) us) (fun _ s'=>∃σ' H',Inv X pins σ' H' s'/\Q σ' H') X.xe s
abbrev TSet:=V->V->V->Hp->(Hp->Prop)->Prop
def PSet(X:Cx)(t:TSet):Prop :=
 ∀(pins:List (Addr×Obj)) (s:Ad) (σ:St) (H:Hp) (o i v:V) (ov iv u:Value) (Q:Hp->Prop),Inv X pins σ H s->RelV o ov->RelV i iv->RelV v u->t o i v H Q ->
  wpAny (model X.prog X.w) X.A (setItem ov iv u) (fun _ s'=>∃H',Inv X pins σ H' s'/\Q H') X.xe s
section
variable{X:Cx}{pos:Pos}
def gName(i:Nat):TG:=fun v σ H Q=>Q (σ.set i (some v)) H
theorem q0o{i:Nat}{x:Str}(hN:X.N.Nodup)(hi:X.N[i]?=some x)(hx:Loc X.env.scope x)(hf:X.fn x=true\/X.env.scope.names.lookup x=some .local:=by first|exact .inl rfl|exact .inr rfl|assumption):PG X (.Name x pos) (gName i):=by
 intro pins s σ H v u Q I r h;exact Qh (z0a I hN hi hx r (fun s' I'=>⟨_,H,I',h⟩) hf)
def gNil:TGs:=fun vs σ H Q=>vs=[]/\Q σ H
def gCons(t:TG)(u:TGs):TGs:=fun vs σ H Q=>∃v r,vs=v::r/\t v σ H fun σ' H'=>u r σ' H' Q
theorem q3e:PGs X [] gNil:=by
 intro pins s σ H vs us Q I r h;obtain⟨e,h⟩:=h;exact assignInOrder_nil ⟨σ,H,I,h⟩
theorem q0x{e:Expr}{es:List Expr}{t:TG}{u:TGs}(h1:PG X e t)(h2:PGs X es u)(hs:(Hj (e::es) X.env).map (·.2)=assign e X.env::(Hj es X.env).map (·.2):=by rfl):PGs X (e::es) (gCons t u):=by
 intro pins s σ H vs us Q I r h;obtain⟨v,vr,e1,h⟩:=h;subst e1;cases r with
 |cons r rr =>
  rw[hs];refine assignInOrder_cons (thn (h1 pins s σ H _ _ _ I r h) fun _ s1 ⟨σ1,H1,I1,q1⟩=>?_);exact h2 pins s1 σ1 H1 _ _ Q I1 rr q1
def gTup(K:Af)(n:Nat)(t:TGs):TG:=fun v σ H Q=>∃a xs,v=.ref a/\SqT K H a xs/\xs.length=n/\t xs σ H Q
theorem pg_tup{k:Nat}(hc:X.calm=true)(h:PGs X es t)(hn:(Hj es X.env).length=n:=by rfl)(hst:(Hj es X.env).findIdx? (·.1)=none:=by rfl):PG X (.Tuple es k pos) (gTup X.K n t):=by
 intro pins s σ H v u Q I r hw;obtain⟨a,xs,e1,hq,hl,hw⟩:=hw;subst e1;cases r;obtain⟨its,rv,ht,hz⟩:=I.tuple hq;refine assign_Tuple_tuple (I.ok.hd hc) ht (by simp[hn,<- hl,rv.length]) hst fun h' hx=>?_;have I1:Inv X pins σ H { s with heap:=h' }:=I.kept (t':=s.toks) fun b o e=>hx b o (Au (Aj e)) e;exact h pins _ σ H xs _ Q I1 (by simpa using rv) hw
def gSub(to ti:TE)(t:TSet):TG:=fun v σ H Q=>to σ H fun o H1=>ti σ H1 fun i H2=>t o i v H2 fun H3=>Q σ H3
theorem z2o{o i:Expr}{to ti:TE}{t:TSet}(ho:PE X o to)(hi:PE X i ti)(hs:PSet X t)(ha:∀v,assign (.Subscript o i pos) X.env v=(do
   let ov<-Ja [v] (eval o X.env);let iv<-Ja [v,ov] (eval i X.env)
   Lu pos
   Ja [v,ov,iv] (setItem ov iv v)
   release [v,ov,iv] []):=by intro _;rfl):PG X (.Subscript o i pos) (gSub to ti t):=by
 intro pins s σ H v u Q I r h;refine Aa (Br (thn (ho pins s σ H _ I h) fun ov s1 ⟨x,H1,I1,r1,q1⟩=>?_));refine Aa (Br (thn (hi pins s1 σ H1 _ I1 q1) fun iv s2 ⟨y,H2,I2,r2,q2⟩=>?_));refine Aa (Gd (Aa (Br (thn (hs pins s2 σ H2 x y v ov iv u _ I2 r1 r2 r q2) fun _ s3 ⟨H3,I3,q3⟩=>?_))));exact wpAny_release ⟨σ,H3,I3,q3⟩
def tAsg(te:TE)(g:TG):TS:=fun D σ H=>te σ H fun x H1=>g x σ H1 D.nx
theorem z0b{tg e:Expr}{te:TE}{g:TG}(he:PE X e te)(hg:PG X tg g)(hs:swapsWithSole [tg] e pos.line X.env=pure false:=by rfl)(hw:swappedStores [tg] e X.env=pure none:=by rfl)(h1:(Hj [tg] X.env).map (·.2)=[assign tg X.env]:=by rfl):PS X (.Assign [tg] e pos) (tAsg te g):=by
 intro pins s σ H D I h;refine wpAny_Assign_stores (thn (he pins s σ H _ I h) fun v s1 ⟨x,H1,I1,r1,q1⟩=>?_) hs hw;rw[h1];exact thn (hg pins s1 σ H1 x v _ I1 r1 q1) fun _ s2 q=>q
theorem q0l{i:Nat}{x:Str}{e:Expr}{te:TE}{pos':Pos}(hN:X.N.Nodup)(hi:X.N[i]?=some x)(hx:Loc X.env.scope x)(he:PE X e te)(hs:Kv e (some (.Name x pos')) pos.line X.env=pure false:=by rfl)(hf:X.fn x=true\/X.env.scope.names.lookup x=some .local:=by first|exact .inl rfl|exact .inr rfl|assumption):
  PS X (.Assign [.Name x pos'] e pos) (tAsg te (gName i)):=by
 intro pins s σ H D I h;refine wpAny_Assign_Name (thn (he pins s σ H _ I h) fun v s1 ⟨y,H1,I1,r1,q1⟩=>?_) hs;exact z0a I1 hN hi hx r1 (fun s2 I2=>⟨_,H1,I2,q1⟩) hf
end
section
variable{X:Cx}{pos:Pos}
def tWhile(c:TT)(tb:TS):TS:=fun D σ H=>∃W:Nat->St->Hp->Prop,(∃m,W m σ H)/\∀m σ H,W m σ H ->
 c σ H fun b H1=>if b=true then ∃N:St->Hp->Prop,(∀σ' H',N σ' H'->∃m',m'<m/\W m' σ' H')/\tb { D with nx:=N,ct:=N,bk:=D.nx } σ H1 else D.nx σ H1
theorem z5j{c:Expr}{body:List Stmt}{tc:TT}{tb:TS}(hp:PassesOwn (model X.prog X.w) X.A X.env X.xe)(hc:PT X c tc)(hb:PSs X body tb):PS X (.While c body [] pos) (tWhile tc tb):=by
 intro pins s σ H D I h;obtain⟨W,⟨m0,w0⟩,turn⟩:=h;refine wpAny_While (codeAny_whileLoop (fun n s'=>∃σ' H',Inv X pins σ' H' s'/\W n σ' H') ?_ m0 ⟨σ,H,I,w0⟩);rintro n s1 ⟨σ1,H1,I1,w1⟩;refine Ez hp (thn (hc pins s1 σ1 H1 _ I1 (turn n σ1 H1 w1)) fun b s2 ⟨H2,I2,q2⟩=>?_);cases b with
 |true =>
  obtain⟨N,hN,q2⟩:=q2;refine Ez hp (thn (hb pins s2 σ1 H2 _ I2 q2) fun f s3 q3=>?_);cases f with
  |next =>
   obtain⟨σ3,H3,I3,n3⟩:=q3;obtain⟨m',hm,w3⟩:=hN σ3 H3 n3;exact⟨m',hm,σ3,H3,I3,w3⟩
  |cont =>
   obtain⟨σ3,H3,I3,n3⟩:=q3;obtain⟨m',hm,w3⟩:=hN σ3 H3 n3;exact⟨m',hm,σ3,H3,I3,w3⟩
  |brk=>exact q3
  |ret v=>exact q3
 |false =>
  exact Ib ⟨σ1,H2,I2,q2⟩
end
structure It where
 go:Nat->Hp->Prop
 yld:Nat->Hp->V->Hp->Prop
 stop:Nat->Hp->Prop
def FpOk(X:Cx)(pins:List (Addr×Obj))(H:Hp)(b:Addr):Prop :=
 H b=none/\b≠X.env.locals/\b∉X.fs/\(b∈X.ex\/X.s₀.heap.objs.size<=b)/\(∀x c,X.env.cells.lookup x=some c->c≠b)/\∀p∈X.pn++pins,p.1≠b
theorem Inv.fpOk{σ:St}{b:Addr}(I:Inv X pins σ H s)(hb:s.heap.objs.size<=b)(hn:H' b=none):FpOk X pins H' b:=by
 refine⟨hn,Dv (Be I.lt hb),I.nofs hb,.inr (By I.sz hb),fun x c e z=>?_,fun p hp z=>?_⟩
 ·obtain⟨v,q⟩:=I.cell x c e;exact absurd (Be q.lt (by rw[z];exact hb)) (Dy _)
 ·exact absurd (Be (Aj (I.pin p hp).1) (by rw[z];exact hb)) (Dy _)
structure Turn (P:Program) (w:World) (K:Af) (tg:Expr) (J:It) (fp:List Addr) (it:Addr) (tn:Nat->Heap->Prop):Prop where
 mem:it∈fp
 obj:∀i h,tn i h->∀b∈fp,∃o,h.get? b=some o/\∀v,o.data≠.cell v
 keep:∀i h h',tn i h->(∀b∈fp,∀o,h.get? b=some o->h'.get? b=some o)->tn i h'
 item:∀(X:Cx),X.prog=P->X.w=w->X.K=K->X.calm=true->∀(i:Nat) (pins:List (Addr×Obj)) (s:Ad) (σ:St) (H:Hp) (E:Value->Ad->Prop),Inv X pins σ H s->(∀b∈fp,FpOk X pins H b)->tn i s.heap->J.go i H ->
  wpAny (model P w) X.A (Gw (.ref it)) (fun r s1=>∃u,r=some u /\
   wpAny (model P w) X.A (Ic tg (.ref it) u) (fun _ s2=>∃x H',Inv X pins σ H' s2/\RelV x u/\J.yld i H x H'/\tn (i+1) s2.heap/\∀b∈fp,H' b=none) E s1) E s
 done:∀(X:Cx),X.prog=P->X.w=w->X.K=K->X.calm=true->∀(i:Nat) (pins:List (Addr×Obj)) (s:Ad) (σ:St) (H:Hp) (E:Value->Ad->Prop),Inv X pins σ H s->(∀b∈fp,FpOk X pins H b)->tn i s.heap->J.stop i H ->
  wpAny (model P w) X.A (Gw (.ref it)) (fun r s1=>r=none/\Inv X pins σ H s1) E s
 self:∀(A:Around) (i:Nat) (s:Ad) (Q:Value->Ad->Prop) (E:Value->Ad->Prop),tn i s.heap->Q (.ref it) s->wpAny (model P w) A (Ka (.ref it)) Q E s
abbrev TI:=St->Hp->(It->Hp->Prop)->Prop
def PIE(X:Cx)(pins:List (Addr×Obj))(σ:St)(tg:Expr)(R:It->Hp->Prop)(itv:Value)(s2:Ad):Prop :=
 ∃(it:Addr) (fp:List Addr) (tn:Nat->Heap->Prop) (J:It) (H':Hp),itv=.ref it/\Inv X pins σ H' s2/\Turn X.prog X.w X.K tg J fp it tn/\tn 0 s2.heap/\(∀b∈fp,FpOk X pins H' b)/\R J H'
def PI(X:Cx)(tg iter:Expr)(wi:TI):Prop :=
 ∀(pins:List (Addr×Obj)) (s:Ad) (σ:St) (H:Hp) (R:It->Hp->Prop),Inv X pins σ H s->wi σ H R ->
  wpAny (model X.prog X.w) X.A (eval iter X.env) (fun v s1=>wpAny (model X.prog X.w) X.A (Ka v) (PIE X pins σ tg R) X.xe s1) X.xe s
theorem z1c (ho : s.heap.get? it = some o) (hc : o.cls = .type n) (hd : o.data = .fields vs)
    (hn : ["enumerate", "zip", "dict_itemiterator", "dict_reverseitemiterator", "odict_iterator", "itertools.zip_longest", "itertools.pairwise"].contains n = false) (hQ : Q () s) : wpAny M A (Ic tg (.ref it) u) Q E s := by
  cases tg <;> first
    | exact Ab hQ
    | (cases u <;> first
        | exact Ab hQ
        | (refine Aa (Of ho ?_)
           rw [hc, hd]
           show wpAny M A (if (["enumerate", "zip", "dict_itemiterator", "dict_reverseitemiterator", "odict_iterator", "itertools.zip_longest", "itertools.pairwise"].contains n && vs[0]? == some (Hu _)) = true then _ else _) Q E s
           rw [if_neg (by intro h; rw [hn, Kq] at h; cases h)]
           exact Ab hQ))
def Itl(K:Af)(a:Addr):It :=
 ⟨fun i H=>∃xs x,SqL K H a xs/\xs[i]?=some x,fun i H x H'=>H'=H/\∀xs,SqL K H a xs->xs[i]?=some x,fun i H=>∃xs,SqL K H a xs/\xs.length<=i⟩
def Itt(K:Af)(a:Addr):It :=
 ⟨fun i H=>∃xs x,SqT K H a xs/\xs[i]?=some x,fun i H x H'=>H'=H/\∀xs,SqT K H a xs->xs[i]?=some x,fun i H=>∃xs,SqT K H a xs/\xs.length<=i⟩
def Itr(lo:Int)(n:Nat):It:=⟨fun i _=>i<n,fun i H x H'=>H'=H/\x=.int (lo+i),fun i _=>n<=i⟩
theorem z2p{K:Af}(a it:Addr):Turn P w K tg (Itl K a) [it] it (fun i h=>h.IsListIter it a i) where
 mem:=by simp
 obj:=fun i h st b hb=>by
  have e:b=it:=by grind
  subst e;obtain⟨o,e,c,d⟩:=st;exact⟨o,e,fun v z=>by rw[d] at z;cases z⟩
 keep:=fun i h h' st k=>st.at fun o e=>k it (by simp) o e
 item:=by
  intro X hP hw hK hc i pins s σ H E I hf st hg;subst hP hw hK;obtain⟨xs,x,hq,hx⟩:=hg;obtain⟨its,rv,p,hz⟩:=I.list hq;obtain⟨u,hu,ru⟩:=rv.get hx;obtain⟨f0,f1,f2,f3,f4,f5⟩:=hf it (by simp);refine Mw st p.isList (by simpa using hu) fun h' st' sb=>?_;have I1:Inv X pins σ H { s with heap:=h' }:=I.turned (t':=s.toks) (fun b o hb e=>(sb.2 b hb).trans e) f0 f1 f3 f4 f5;obtain⟨o,e,c,d⟩:=id st';exact⟨u,rfl,z1c e c d (by decide) ⟨x,H,I1,ru,⟨rfl,fun ys hy=>by rw[I.list_inj hy hq];exact hx⟩,st',fun b hb=>(hf b hb).1⟩⟩
 done:=by
  intro X hP hw hK hc i pins s σ H E I hf st hg;subst hP hw hK;obtain⟨xs,hq,hx⟩:=hg;obtain⟨its,rv,p,hz⟩:=I.list hq;obtain⟨f0,f1,f2,f3,f4,f5⟩:=hf it (by simp);have hl:=rv.length;exact Nk (I.ok.hd hc) st p.isList (by simp;lia) fun h' eb=>⟨rfl,I.turned (t':=s.toks) (fun b o hb e=>eb b o hb e) f0 f1 f3 f4 f5⟩
 self:=fun _ _ _ _ _ st h=>wpAny_pyIter_listiter st h
theorem z1d{K:Af}(a it:Addr):Turn P w K tg (Itt K a) [it] it (fun i h=>h.IsTupleIter it a i) where
 mem:=by simp
 obj:=fun i h st b hb=>by
  have e:b=it:=by grind
  subst e;obtain⟨o,e,c,d⟩:=st;exact⟨o,e,fun v z=>by rw[d] at z;cases z⟩
 keep:=fun i h h' st k=>st.at fun o e=>k it (by simp) o e
 item:=by
  intro X hP hw hK hc i pins s σ H E I hf st hg;subst hP hw hK;obtain⟨xs,x,hq,hx⟩:=hg;obtain⟨its,rv,p,hz⟩:=I.tuple hq;obtain⟨u,hu,ru⟩:=rv.get hx;obtain⟨f0,f1,f2,f3,f4,f5⟩:=hf it (by simp);refine wpAny_pyNext_tuple_item st (show s.heap.IsTuple a its.toArray from p) (by simpa using hu) fun h' st' sb=>?_;have I1:Inv X pins σ H { s with heap:=h' }:=I.turned (t':=s.toks) (fun b o hb e=>(sb.2 b hb).trans e) f0 f1 f3 f4 f5;obtain⟨o,e,c,d⟩:=id st';exact⟨u,rfl,z1c e c d (by decide) ⟨x,H,I1,ru,⟨rfl,fun ys hy=>by rw[I.tuple_inj hy hq];exact hx⟩,st',fun b hb=>(hf b hb).1⟩⟩
 done:=by
  intro X hP hw hK hc i pins s σ H E I hf st hg;subst hP hw hK;obtain⟨xs,hq,hx⟩:=hg;obtain⟨its,rv,p,hz⟩:=I.tuple hq;obtain⟨f0,f1,f2,f3,f4,f5⟩:=hf it (by simp);have hl:=rv.length;exact wpAny_pyNext_tuple_end (I.ok.hd hc) st (show s.heap.IsTuple a its.toArray from p) (by simp;lia) fun h' eb=>⟨rfl,I.turned (t':=s.toks) (fun b o hb e=>eb b o hb e) f0 f1 f3 f4 f5⟩
 self:=fun _ _ _ _ _ st h=>wpAny_pyIter_tupleiter st h
theorem z1e{K:Pm}(it:Addr)(lo:Int)(n:Nat):Turn P w K tg (Itr lo n) [it] it (fun i h=>IsRangeIter h it (lo+(i:Nat)*1) ((n:Int)-(i:Nat)) 1) where
 mem:=by simp
 obj:=fun i h st b hb=>by
  have e:b=it:=by grind
  subst e;exact⟨_,st,fun v z=>by
   have z':=z;cases z'⟩
 keep:=fun i h h' st k=>k it (by simp) _ st
 item:=by
  intro X hP hw hK hc i pins s σ H E I hf st hg;subst hP hw hK;obtain⟨f0,f1,f2,f3,f4,f5⟩:=hf it (by simp);have W:=Walks.range (prog:=X.prog) (w:=X.w) (I.ok.hd hc) it lo 1 n;refine W.item i s _ _ hg st fun v h' tk hv st' kk=>?_;obtain⟨t,rfl⟩:=hv;have I1:Inv X pins σ H { s with heap:=h',toks:=tk }:=I.turned (fun b o hb e=>kk b o (by simpa using hb) e) f0 f1 f3 f4 f5;refine⟨_,rfl,z1c st' rfl rfl (by decide) ⟨.int (lo+i),H,I1,⟨t,?_⟩,⟨rfl,rfl⟩,st',fun b hb=>(hf b hb).1⟩⟩;rw[Int.mul_one]
 done:=by
  intro X hP hw hK hc i pins s σ H E I hf st hg;obtain⟨f0,f1,f2,f3,f4,f5⟩:=hf it (by simp);exact wpAny_pyNext_range_end (I.ok.hd hc) st (by have:n<=i:=hg;lia) fun h' eb=>⟨rfl,I.turned (t':=s.toks) (fun b o hb e=>eb b o hb e) f0 f1 f3 f4 f5⟩
 self:=fun _ _ _ _ _ st h=>wpAny_pyIter_rangeiter st h
open PySem PySem.Spec PyProof.Rows
section
variable{X:Cx}{tg:Expr}
theorem z5k{σ:St}{lo:Int}(I:Inv X pins σ H s)(h1 : -(2^62)<=lo)(h2:lo<2^62)(h3 : -(2^62)<=hi)(h4:hi<2^62)(q:R (Itr lo (hi-lo).toNat) H):wpAny (model X.prog X.w) X.A (Ka (.ref s.heap.objs.size)) (PIE X pins σ tg R) E { s with heap:=s.heap.push { cls:=.type "range",data:=.fields #[.int lo t,.int hi u,.int 1 v] },toks:=tk }:=by
 refine wpAny_pyIter_range (IsRange.new ..) (small_one h1 h2 h3 h4) ?_;have I1:Inv X pins σ H { s with heap:=s.heap.push { cls:=.type "range",data:=.fields #[.int lo t,.int hi u,.int 1 v] },toks:=tk }:=I.kept fun b o e=>Ae _ e;refine⟨(s.heap.push { cls:=.type "range",data:=.fields #[.int lo t,.int hi u,.int 1 v] }).objs.size,[(s.heap.push { cls:=.type "range",data:=.fields #[.int lo t,.int hi u,.int 1 v] }).objs.size],_,_,H,rfl,
  I1.kept (t':=tk) fun b o e=>Ae _ e,z1e _ lo (hi-lo).toNat,?_,fun b hb=>?_,q⟩
 ·have e1:lo+((0:Nat):Int)*1=lo:=by simp
  have e2:(((hi-lo).toNat:Nat):Int)-((0:Nat):Int)=Bx.Range.rangeSize lo hi 1:=by rw[rangeSize_one];split<;>lia
  rw[e1,e2];exact Al _ rfl
 ·have e:b=(s.heap.push { cls:=.type "range",data:=.fields #[.int lo t,.int hi u,.int 1 v] }).objs.size:=by simpa using hb
  subst e;exact I1.fpOk (Ai _) (I1.hok.fresh (Ai _))
def iRng1(ta:TA):TI:=fun σ H R=>ta σ H fun vs H1=>∃j:Int,vs=[.int j] /\ -(2^62)<=j/\j<2^62/\R (Itr 0 j.toNat) H1
theorem q3l{a:Expr}{ta:TA}{p pos:Pos}(hg:Gl X "range")(hm:X.mg "range" = none)(ha:PA X [a] ta)(hs:Bc [a] X.env=[(false,eval a X.env)]:=by rfl):PI X tg (.Call (.Name "range" p) [a] [] pos) (iRng1 ta):=by
 intro pins s σ H R I h;refine Call_ (q7i I hg hm boot_range (Hg (thn (ha pos pins s σ H _ I h) fun us s1 ⟨vs,H1,I1,r1,q1⟩=>?_) hs rfl));obtain⟨j,e,q1,q2,q⟩:=q1;subst e;cases r1 with
 |cons r rr =>
  cases rr;obtain⟨t,rfl⟩:=r;exact call_range_1 (z5k I1 (by lia) (by lia) q1 q2 (by simpa using q))
def tFor(wi:TI)(g:TG)(tb:TS):TS:=fun D σ H=>wi σ H fun J H1=>∃W:Nat->Nat->St->Hp->Prop,(∃m,W 0 m σ H1)/\∀i m σ H,W i m σ H ->
 (J.stop i H/\D.nx σ H)\/(J.go i H/\∃N:St->Hp->Prop,(∀σ' H',N σ' H'->∃m',m'<m/\W (i+1) m' σ' H')/\∀x H',J.yld i H x H'->g x σ H' fun σ2 H2=>tb { D with nx:=N,ct:=N,bk:=D.nx } σ2 H2)
def pinsAt(fp:List Addr)(h:Heap):List (Addr×Obj):=fp.filterMap fun b=>(h.get? b).map fun o=>(b,o)
theorem q1s(hb:b∈fp)(e:h.get? b=some o):(b,o)∈pinsAt fp h:=Pn.mpr ⟨b,hb,by rw[e];rfl⟩
theorem z2q(hp:p∈pinsAt fp h):p.1∈fp/\h.get? p.1=some p.2:=by
 obtain⟨b,hb,e⟩:=Pn.mp hp;cases q:h.get? b with
 |none=>rw[q] at e;cases e
 |some o =>
  rw[q] at e;have e':=Co e;subst e';exact⟨hb,q⟩
theorem Inv.pinned{σ:St}(I:Inv X pins σ H s)(hf:∀b∈fp,FpOk X pins H b)(ho:∀b∈fp,∃o,s.heap.get? b=some o/\∀v,o.data≠.cell v):Inv X (pins++pinsAt fp s.heap) σ H s :=
 I.pins_of fun p hp=>(Az.mp hp).elim (fun z=>I.pin p (Bf _ z)) fun z=>by
  obtain⟨hb,e⟩:=z2q z;obtain⟨f0,f1,f2,_⟩:=hf p.1 hb;obtain⟨o,e',d⟩:=ho p.1 hb;rw[e] at e';cases e';exact⟨e,f0,f1,f2,d⟩
theorem Inv.unpinned{σ:St}(I:Inv X (pins++pl) σ H s):Inv X pins σ H s:=I.pins_of fun p hp=>I.pin p (Bf _ (Dh _ hp))
theorem q3d{iter:Expr}{body:List Stmt}{wi:TI}{g:TG}{tb:TS}{pos:Pos}(hp:PassesOwn (model X.prog X.w) X.A X.env X.xe)(hc:X.calm=true)(hi:PI X tg iter wi)(hg:PG X tg g)(hb:PSs X body tb)(hs:∀x,Jg iter X.env x=pure x:=by intro _;rfl):PS X (.For tg iter body [] pos) (tFor wi g tb):=by
 intro pins s σ H D I h;refine wpAny_For (thn (hi pins s σ H _ I h) fun v s1 h1=>thn h1 fun itv s2 h2=>?_) hs;obtain⟨it,fp,tn,J,H2,e,I2,T,st2,f2,W,⟨m0,w0⟩,turn⟩:=h2;subst e;have stat:∀{H':Hp},(∀b∈fp,H' b=none)->∀b∈fp,FpOk X pins H' b:=fun hn b hb=>⟨hn b hb,(f2 b hb).2⟩
 refine codeAny_forLoop_any (fun n s'=>∃i σ' H',Inv X pins σ' H' s'/\tn i s'.heap/\(∀b∈fp,H' b=none)/\W i n σ' H') ?_ m0 ⟨0,σ,H2,I2,st2,fun b hb=>(f2 b hb).1,w0⟩;rintro n s3 ⟨i,σ3,H3,I3,st3,fr3,w3⟩;rcases turn i n σ3 H3 w3 with⟨stop,qn⟩|⟨go,N,hN,step⟩
 ·refine Ez hp (thn (T.done X rfl rfl rfl hc i pins s3 σ3 H3 X.xe I3 (stat fr3) st3 stop) fun r s4 ⟨hr,I4⟩=>?_);subst hr;exact Ib ⟨σ3,H3,I4,qn⟩
 ·refine Ez hp (thn (T.item X rfl rfl rfl hc i pins s3 σ3 H3 X.xe I3 (stat fr3) st3 go) fun r s4 ⟨u,hr,h4⟩=>?_);subst hr;refine Ez hp (thn h4 fun _ s5 ⟨x,H5,I5,r5,y5,st5,fr5⟩=>?_);have I5':=I5.pinned (stat fr5) (T.obj _ _ st5);refine Ez hp (thn (hg _ s5 σ3 H5 x u _ I5' r5 (step x H5 y5)) fun _ s6 ⟨σ6,H6,I6,q6⟩=>?_);refine Ez hp (thn (hb _ s6 σ6 H6 _ I6 q6) fun f s7 q7=>?_);have again:∀{σ7:St} {H7:Hp},Inv X (pins++pinsAt fp s5.heap) σ7 H7 s7->N σ7 H7->∃m,m<n/\∃i σ' H',Inv X pins σ' H' s7/\tn i s7.heap/\(∀b∈fp,H' b=none)/\W i m σ' H':=fun{σ7 H7} I7 n7=>by
   obtain⟨m',hm,w7⟩:=hN σ7 H7 n7;refine⟨m',hm,i+1,σ7,H7,I7.unpinned,T.keep _ _ _ st5 fun b hb o e=>(I7.pin (b,o) (Bf _ (Bf _ (q1s hb e)))).1,fun b hb=>?_,w7⟩;obtain⟨o,e,d⟩:=T.obj _ _ st5 b hb;exact(I7.pin (b,o) (Bf _ (Bf _ (q1s hb e)))).2.1
  cases f with
  |next=>obtain⟨σ7,H7,I7,n7⟩:=q7;exact again I7 n7
  |cont=>obtain⟨σ7,H7,I7,n7⟩:=q7;exact again I7 n7
  |brk=>obtain⟨σ7,H7,I7,q7⟩:=q7;exact⟨σ7,H7,I7.unpinned,q7⟩
  |ret v=>obtain⟨x7,σ7,H7,I7,r7,q7⟩:=q7;exact⟨x7,σ7,H7,I7.unpinned,r7,q7⟩
end
theorem z0c{K:Pm}{g:TG}{tb:TS}{D:Ends}(Pv:Nat->St->Hp->Prop)(h0:Pv 0 σ H)(hl:∀i σ H,i<=xs.length->Pv i σ H->SqL K H a xs)(hs:∀i x σ H,xs[i]?=some x->Pv i σ H->g x σ H fun σ2 H2=>tb { D with nx:=Pv (i+1),ct:=Pv (i+1),bk:=D.nx } σ2 H2)(hd:∀σ H,Pv xs.length σ H->D.nx σ H):
  ∃W:Nat->Nat->St->Hp->Prop,(∃m,W 0 m σ H)/\∀i m σ H,W i m σ H ->
   ((Itl K a).stop i H/\D.nx σ H)\/((Itl K a).go i H/\∃N:St->Hp->Prop,(∀σ' H',N σ' H'->∃m',m'<m/\W (i+1) m' σ' H')/\∀x H',(Itl K a).yld i H x H'->g x σ H' fun σ2 H2=>tb { D with nx:=N,ct:=N,bk:=D.nx } σ2 H2):=by
 refine⟨fun i m σ H=>m=xs.length-i/\i<=xs.length/\Pv i σ H,⟨xs.length,by simp,Bv _,h0⟩,?_⟩;rintro i m σ H ⟨rfl,hi,p⟩;have q:=hl i σ H hi p;by_cases hlt:i<xs.length
 ·refine .inr ⟨⟨xs,xs[i],q,by simp[hlt]⟩,Pv (i+1),fun σ' H' p'=>⟨xs.length-(i+1),by lia,rfl,hlt,p'⟩,fun x H' y=>?_⟩;obtain⟨e,y⟩:=y;subst e;exact hs i x σ _ (y xs q) p
 ·have e:i=xs.length:=by lia
  subst e;exact .inl ⟨⟨xs,q,Ai _⟩,hd σ H p⟩
theorem q4w{lo:Int}{g:TG}{tb:TS}{D:Ends}(Pv:Nat->St->Hp->Prop)(h0:Pv 0 σ H)(hs:∀i σ H,i<n->Pv i σ H->g (.int (lo+i)) σ H fun σ2 H2=>tb { D with nx:=Pv (i+1),ct:=Pv (i+1),bk:=D.nx } σ2 H2)(hd:∀σ H,Pv n σ H->D.nx σ H):
  ∃W:Nat->Nat->St->Hp->Prop,(∃m,W 0 m σ H)/\∀i m σ H,W i m σ H ->
   ((Itr lo n).stop i H/\D.nx σ H)\/((Itr lo n).go i H/\∃N:St->Hp->Prop,(∀σ' H',N σ' H'->∃m',m'<m/\W (i+1) m' σ' H')/\∀x H',(Itr lo n).yld i H x H'->g x σ H' fun σ2 H2=>tb { D with nx:=N,ct:=N,bk:=D.nx } σ2 H2):=by
 refine⟨fun i m σ H=>m=n-i/\i<=n/\Pv i σ H,⟨n,by simp,Bv _,h0⟩,?_⟩;rintro i m σ H ⟨rfl,hi,p⟩;by_cases hlt:i<n
 ·refine .inr ⟨hlt,Pv (i+1),fun σ' H' p'=>⟨n-(i+1),by lia,rfl,hlt,p'⟩,fun x H' y=>?_⟩;obtain⟨e,y⟩:=y;subst e y;exact hs i σ _ hlt p
 ·have e:i=n:=by lia
  subst e;exact .inl ⟨Ai _,hd σ H p⟩
theorem z5l(Pv:St->Hp->Prop)(μ:St->Hp->Nat)(h0:Pv σ H)(hs:∀σ H,Pv σ H->c σ H fun b H1=>if b=true then tb { D with nx:=fun σ' H'=>Pv σ' H'/\μ σ' H'<μ σ H,ct:=fun σ' H'=>Pv σ' H'/\μ σ' H'<μ σ H,bk:=D.nx } σ H1 else D.nx σ H1)(mono:∀σ H Q Q',(∀b H1,Q b H1->Q' b H1)->c σ H Q->c σ H Q'):tWhile c tb D σ H:=by
 refine⟨fun m σ H=>m=μ σ H/\Pv σ H,⟨_,rfl,h0⟩,?_⟩;rintro m σ H ⟨rfl,p⟩;refine mono σ H _ _ (fun b H1 q=>?_) (hs σ H p);cases b with
 |true=>exact⟨_,fun σ' H' ⟨p',l⟩=>⟨_,l,rfl,p'⟩,q⟩
 |false=>exact q
open PySem PySem.Spec PyProof.Rows
abbrev R2:=V->V->Hp->VK->Prop
def OpR(X:Cx)(f:Value->Value->Sem Value)(r:R2):Prop :=
 ∀(pins:List (Addr×Obj)) (s:Ad) (σ:St) (H:Hp) (x y:V) (v u:Value) (Q:VK),Inv X pins σ H s->RelV x v->RelV y u->r x y H Q ->
  wpAny (model X.prog X.w) X.A (f v u) (EP X pins σ Q) X.xe s
def UnR(X:Cx)(f:Value->Sem Value)(r:V->Hp->VK->Prop):Prop :=
 ∀(pins:List (Addr×Obj)) (s:Ad) (σ:St) (H:Hp) (x:V) (v:Value) (Q:VK),Inv X pins σ H s->RelV x v->r x H Q ->
  wpAny (model X.prog X.w) X.A (f v) (EP X pins σ Q) X.xe s
def CallR(X:Cx)(f:Value)(r:List V->Hp->VK->Prop):Prop :=
 ∀(pins:List (Addr×Obj)) (s:Ad) (σ:St) (H:Hp) (xs:List V) (us:List Value) (Q:VK),Inv X pins σ H s->Vals xs us->r xs H Q ->
  wpAny (model X.prog X.w) X.A (call f us) (EP X pins σ Q) X.xe s
def TruR(X:Cx)(r:V->Hp->(Bool->Hp->Prop)->Prop):Prop :=
 ∀(pins:List (Addr×Obj)) (s:Ad) (σ:St) (H:Hp) (x:V) (v:Value) (Q:Bool->Hp->Prop),Inv X pins σ H s->RelV x v->r x H Q ->
  wpAny (model X.prog X.w) X.A (truthy v) (TP X pins σ Q) X.xe s
def tOp(r:R2)(ta tb:TE):TE:=fun σ H Q=>ta σ H fun x H1=>tb σ H1 fun y H2=>r x y H2 Q
def tUn(r:V->Hp->VK->Prop)(ta:TE):TE:=fun σ H Q=>ta σ H fun x H1=>r x H1 Q
def rI(C:Int->Int->Prop)(g:Int->Int->V):R2:=fun x y H Q=>∃i j,x=.int i/\y=.int j/\C i j/\Q (g i j) H
def rI0(g:Int->Int->V):R2:=fun x y H Q=>∃i j,x=.int i/\y=.int j/\Q (g i j) H
def rU(g:Int->V):V->Hp->VK->Prop:=fun x H Q=>∃i,x=.int i/\Q (g i) H
section
variable{X:Cx}{a b c:Expr}{ta tb tc:TE}{pos:Pos}
theorem binT(ha:PE X a ta)(hb:PE X b tb){σ:St}{R:V->V->Hp->Prop}(I:Inv X pins σ H s)(h:ta σ H fun x H1=>tb σ H1 fun y H2=>R x y H2){f:Value->Value->Sem Value}(hf:∀v u s2 x y H2,Inv X pins σ H2 s2->RelV x v->RelV y u->R x y H2->wpAny (model X.prog X.w) X.A (f v u) Q X.xe s2):
  wpAny (model X.prog X.w) X.A (eval a X.env) (fun v s₁=>wpAny (model X.prog X.w) X.A (eval b X.env) (fun u s₂=>wpAny (model X.prog X.w) X.A (f v u) Q X.xe s₂) X.xe s₁) X.xe s:=by
 refine thn (ha pins s σ H _ I h) fun v s1 ⟨x,H1,I1,r1,q1⟩=>?_;refine thn (hb pins s1 σ H1 _ I1 q1) fun u s2 ⟨y,H2,I2,r2,q2⟩=>?_;exact hf v u s2 x y H2 I2 r1 r2 q2
theorem q1a{op:Operator}{r:R2}(ho:OpR X (Ep op) r)(ha:PE X a ta)(hb:PE X b tb):PE X (.BinOp a op b pos) (tOp r ta tb):=by
 intro pins s σ H Q I h;exact wpAny_BinOp (binT ha hb I h fun v u s2 x y H2 I2 rx ry q=>ho pins s2 σ H2 x y v u Q I2 rx ry q)
theorem q1h{op:UnaryOp}{r:V->Hp->VK->Prop}(ho:UnR X (unaryOp op) r)(ha:PE X a ta):PE X (.UnaryOp op a pos) (tUn r ta):=by
 intro pins s σ H Q I h;exact UnaryOp_ (thn (ha pins s σ H _ I h) fun v s1 ⟨x,H1,I1,r1,q1⟩=>ho pins s1 σ H1 x v Q I1 r1 q1)
theorem opI{g:Int->Int->Int}(rule:∀(i j:Int) (t u:Tok) (s:Ad) (Q:Value->Ad->Prop) (E:Value->Ad->Prop),C i j->Q (.int (g i j) s.toks) { s with toks:=s.toks+1 }->wpAny (model X.prog X.w) X.A (f (.int i t) (.int j u)) Q E s):
  OpR X f (rI C fun i j=>.int (g i j)):=by
 intro pins s σ H x y v u Q I rx ry h;obtain⟨i,j,rfl,rfl,hc,q⟩:=h;obtain⟨t,rfl⟩:=rx;obtain⟨t',rfl⟩:=ry;exact rule i j t t' s _ _ hc ⟨.int (g i j),H,I.tok _,⟨_,rfl⟩,q⟩
theorem opI0{g:Int->Int->Int}(rule:∀(i j:Int) (t u:Tok) (s:Ad) (Q:Value->Ad->Prop) (E:Value->Ad->Prop),Q (.int (g i j) s.toks) { s with toks:=s.toks+1 }->wpAny (model X.prog X.w) X.A (f (.int i t) (.int j u)) Q E s):
  OpR X f (rI0 fun i j=>.int (g i j)):=by
 intro pins s σ H x y v u Q I rx ry h;obtain⟨i,j,rfl,rfl,q⟩:=h;obtain⟨t,rfl⟩:=rx;obtain⟨t',rfl⟩:=ry;exact rule i j t t' s _ _ ⟨.int (g i j),H,I.tok _,⟨_,rfl⟩,q⟩
theorem opB0{g:Int->Int->Bool}(rule:∀(i j:Int) (t u:Tok) (s:Ad) (Q:Value->Ad->Prop) (E:Value->Ad->Prop),Q (.bool (g i j)) s->wpAny (model X.prog X.w) X.A (f (.int i t) (.int j u)) Q E s):
  OpR X f (rI0 fun i j=>.bl (g i j)):=by
 intro pins s σ H x y v u Q I rx ry h;obtain⟨i,j,rfl,rfl,q⟩:=h;obtain⟨t,rfl⟩:=rx;obtain⟨t',rfl⟩:=ry;exact rule i j t t' s _ _ ⟨.bl (g i j),H,I,rfl,q⟩
def CDiv(i j:Int):Prop:=0<j/\j<1073741824
def CPow(i j:Int):Prop:=0<=j/\j<=1000000/\i.natAbs<2^64
def CMul(i j:Int):Prop:=(-(2^64)<i/\i<2^64)\/(-(2^64)<j/\j<2^64)
theorem CMul.ok(h:CMul i j):IntMulOk i j:=by
 rcases h with⟨h1,h2⟩|⟨h1,h2⟩
 ·exact .of_left (intBits_le_64 h1 h2)
 ·exact .of_right (intBits_le_64 h1 h2)
theorem op_add:OpR X (Ep .Add) (rI0 fun i j=>.int (i+j)):=opI0 fun _ _ _ _ _ _ _ q=>add_int q
theorem op_mul:OpR X (Ep .Mult) (rI CMul fun i j=>.int (i*j)):=opI fun _ _ _ _ _ _ _ hc q=>mul_int q hc.ok
theorem q9c:OpR X (Ep .FloorDiv) (rI CDiv fun i j=>.int (i / j)):=opI fun i j _ _ _ _ _ hc q=>by
 have h1:=hc.1;have h2:=hc.2;exact floordiv_int (by lia) (by rw[Int.fdiv_eq_ediv_of_nonneg i (by lia)];exact q) (.inl (PyProof.noPylong_small (by lia)))
theorem q5w:OpR X (Ep .Mod) (rI (fun _ j=>0<j) fun i j=>.int (i%j)):=opI fun i j _ _ _ _ _ hc q=>by
 exact mod_int' (by lia) (by rw[Int.fmod_eq_emod_of_nonneg i (by lia)];exact q)
theorem z7o:OpR X (Ep .Pow) (rI CPow fun i j=>.int (i^j.toNat)):=opI fun _ _ _ _ _ _ _ hc q=>pow_int_small hc.1 hc.2.1 hc.2.2 q
theorem unI{g:Int->Int}(rule:∀(i:Int) (t:Tok) (s:Ad) (Q:Value->Ad->Prop) (E:Value->Ad->Prop),Q (.int (g i) s.toks) { s with toks:=s.toks+1 }->wpAny (model X.prog X.w) X.A (f (.int i t)) Q E s):
  UnR X f (rU fun i=>.int (g i)):=by
 intro pins s σ H x v Q I rx h;obtain⟨i,rfl,q⟩:=h;obtain⟨t,rfl⟩:=rx;exact rule i t s _ _ ⟨.int (g i),H,I.tok _,⟨_,rfl⟩,q⟩
theorem q0r:UnR X (unaryOp .USub) (rU fun i=>.int (-i)):=unI fun _ _ _ _ _ q=>neg_int q
end
def scal:V->V->Bool
 |.non,.non=>true|.non,.int _=>true|.int _,.non=>true|.non,.bl _=>true|.bl _,.non=>true|.non,.str _=>true|.str _,.non=>true
 |.int _,.int _=>true|.bl _,.bl _=>true|.str _,.str _=>true|.byt _,.byt _=>true
 |.int _,.str _=>true|.str _,.int _=>true|.bl _,.str _=>true|.str _,.bl _=>true
 |_,_=>false
def rEq:R2:=fun x y H Q=>scal x y=true/\Q (.bl (decide (x=y))) H
def rNe:R2:=fun x y H Q=>scal x y=true/\Q (.bl (!decide (x=y))) H
theorem z2r:decide (V.int i=V.int j)=(i==j):=by
 rw[Kb];simp
theorem z7p:decide (V.bl i=V.bl j)=(i==j):=by
 rw[Kb];simp
theorem dec_str:decide (V.str i=V.str j)=(i==j):=by
 rw[Kb];simp
theorem z2s:decide (V.byt i=V.byt j)=(i.toList==j.toList):=by
 rw[Kb];cases i;cases j;simp
section
variable{X:Cx}{a b c:Expr}{ta tb tc:TE}{pos:Pos}
theorem q0p{σ:St}(I:Inv X pins σ H s)(q:Q (.bl k) H)(e:k=k'):EP X pins σ Q (.bool k') s:=by
 subst e;exact⟨.bl k,H,I,rfl,q⟩
theorem op_eq:OpR X (Ce .Eq) rEq:=by
 intro pins s σ H x y v u Q I rx ry h;obtain⟨hs,q⟩:=h;cases x with
 |non =>
  cases rx;cases y with
  |non=>cases ry;exact PySem.EqNone.eq_none_none (q0p I q (by simp))
  |bl j=>cases ry;exact PySem.EqNone.eq_none_bool (q0p I q (by simp))
  |int j=>obtain⟨t',rfl⟩:=ry;exact PySem.EqNone.eq_none_int (q0p I q (by simp))
  |str j=>obtain⟨t',rfl⟩:=ry;exact PySem.EqNone.eq_none_str (q0p I q (by simp))
  |_=>exact absurd (show false=true from hs) Bk
 |bl i =>
  cases rx;cases y with
  |non=>cases ry;exact PySem.EqNone.eq_bool_none (q0p I q (by simp))
  |bl j=>cases ry;exact eq_bool (q0p I q z7p)
  |str j=>obtain⟨t',rfl⟩:=ry;exact PySem.EqMixed.eq_bool_str (q0p I q (by simp))
  |_=>exact absurd (show false=true from hs) Bk
 |int i =>
  obtain⟨t,rfl⟩:=rx;cases y with
  |non=>cases ry;exact PySem.EqNone.eq_int_none (q0p I q (by simp))
  |int j=>obtain⟨t',rfl⟩:=ry;exact eq_int (q0p I q z2r)
  |str j=>obtain⟨t',rfl⟩:=ry;exact PySem.EqMixed.eq_int_str (q0p I q (by simp))
  |_=>exact absurd (show false=true from hs) Bk
 |str i =>
  obtain⟨t,rfl⟩:=rx;cases y with
  |non=>cases ry;exact PySem.EqNone.eq_str_none (q0p I q (by simp))
  |bl j=>cases ry;exact PySem.EqMixed.eq_str_bool (q0p I q (by simp))
  |int j=>obtain⟨t',rfl⟩:=ry;exact PySem.EqMixed.eq_str_int (q0p I q (by simp))
  |str j=>obtain⟨t',rfl⟩:=ry;exact eq_str (q0p I q dec_str)
  |_=>exact absurd (show false=true from hs) Bk
 |byt i =>
  obtain⟨t,rfl⟩:=rx;cases y with
  |byt j=>obtain⟨t',rfl⟩:=ry;exact W.eq_bytes (q0p I q z2s)
  |_=>exact absurd (show false=true from hs) Bk
 |_=>cases y<;>exact absurd (show false=true from hs) Bk
theorem op_ne:OpR X (Ce .NotEq) rNe:=by
 intro pins s σ H x y v u Q I rx ry h;obtain⟨hs,q⟩:=h;cases x with
 |non =>
  cases rx;cases y with
  |non=>cases ry;exact PySem.EqNone.ne_none_none (q0p I q (by simp))
  |bl j=>cases ry;exact PySem.EqNone.ne_none_bool (q0p I q (by simp))
  |int j=>obtain⟨t',rfl⟩:=ry;exact PySem.EqNone.ne_none_int (q0p I q (by simp))
  |str j=>obtain⟨t',rfl⟩:=ry;exact PySem.EqNone.ne_none_str (q0p I q (by simp))
  |_=>exact absurd (show false=true from hs) Bk
 |bl i =>
  cases rx;cases y with
  |non=>cases ry;exact PySem.EqNone.ne_bool_none (q0p I q (by simp))
  |bl j=>cases ry;exact ne_bool (q0p I q (congrArg not z7p))
  |str j=>obtain⟨t',rfl⟩:=ry;exact PySem.EqMixed.ne_bool_str (q0p I q (by simp))
  |_=>exact absurd (show false=true from hs) Bk
 |int i =>
  obtain⟨t,rfl⟩:=rx;cases y with
  |non=>cases ry;exact PySem.EqNone.ne_int_none (q0p I q (by simp))
  |int j=>obtain⟨t',rfl⟩:=ry;exact ne_int (q0p I q (congrArg not z2r))
  |str j=>obtain⟨t',rfl⟩:=ry;exact PySem.EqMixed.ne_int_str (q0p I q (by simp))
  |_=>exact absurd (show false=true from hs) Bk
 |str i =>
  obtain⟨t,rfl⟩:=rx;cases y with
  |non=>cases ry;exact PySem.EqNone.ne_str_none (q0p I q (by simp))
  |bl j=>cases ry;exact PySem.EqMixed.ne_str_bool (q0p I q (by simp))
  |int j=>obtain⟨t',rfl⟩:=ry;exact PySem.EqMixed.ne_str_int (q0p I q (by simp))
  |str j=>obtain⟨t',rfl⟩:=ry;exact ne_str (q0p I q (congrArg not dec_str))
  |_=>exact absurd (show false=true from hs) Bk
 |byt i =>
  obtain⟨t,rfl⟩:=rx;cases y with
  |byt j=>obtain⟨t',rfl⟩:=ry;exact W.ne_bytes (q0p I q (congrArg not z2s))
  |_=>exact absurd (show false=true from hs) Bk
 |_=>cases y<;>exact absurd (show false=true from hs) Bk
theorem z8g:OpR X (Ce .Lt) (rI0 fun i j=>.bl (decide (i<j))):=opB0 fun _ _ _ _ _ _ _ q=>lt_int q
theorem op_gt:OpR X (Ce .Gt) (rI0 fun i j=>.bl (decide (j<i))):=opB0 fun _ _ _ _ _ _ _ q=>gt_int q
theorem op_ge:OpR X (Ce .GtE) (rI0 fun i j=>.bl (decide (j<=i))):=opB0 fun _ _ _ _ _ _ _ q=>ge_int q
theorem OpR.or(h:OpR X f r)(h':OpR X f r'):OpR X f (fun x y H Q=>r x y H Q\/r' x y H Q):=by
 intro pins s σ H x y v u Q I rx ry q;rcases q with q|q
 ·exact h pins s σ H x y v u Q I rx ry q
 ·exact h' pins s σ H x y v u Q I rx ry q
theorem nomark(b:Expr)(h:op≠.In:=by decide)(h2:op≠.NotIn:=by decide):Ff op b=false:=by
 have e1:(op==CmpOp.In)=false:=by grind
 have e2:(op==CmpOp.NotIn)=false:=by grind
 cases b<;>simp[Ff,e1,e2]
theorem q6k{op:CmpOp}{r:R2}(ho:OpR X (Ce op) r)(ha:PE X a ta)(hb:PE X b tb)(hm:Ff op b=false):PE X (.Compare a [op] [b] pos) (tOp r ta tb):=by
 intro pins s σ H Q I h;exact wpAny_Compare1 (binT ha hb I h fun v u s2 x y H2 I2 rx ry q=>ho pins s2 σ H2 x y v u Q I2 rx ry q) hm
def tTest(t:TE):TT:=fun σ H Q=>t σ H fun x H'=>∃k,x=.bl k/\Q k H'
theorem q0m{op:CmpOp}{r:R2}(ho:OpR X (Ce op) r)(ha:PE X a ta)(hb:PE X b tb)(hm:Ff op b=false):PT X (.Compare a [op] [b] pos) (tTest (tOp r ta tb)):=by
 intro pins s σ H Q I h;refine Nj (thn (ha pins s σ H _ I h) fun v s1 ⟨x,H1,I1,r1,q1⟩=>thn (hb pins s1 σ H1 _ I1 q1) fun u s2 ⟨y,H2,I2,r2,q2⟩ =>
  thn (ho pins s2 σ H2 x y v u _ I2 r1 r2 q2) fun c s3 ⟨z,H3,I3,r3,k,e,q3⟩=>?_) hm
 subst e;cases r3;exact Ek ⟨H3,I3,q3⟩
def TruV(K:Af)(x:V)(H:Hp)(k:Bool):Prop :=
 match x with
 |.non=>k=false
 |.bl b=>k=b
 |.int i=>k=(i != 0)
 |.str y=>y.length<=sizeLine/\k=((y.length:Int) != 0)
 |.byt y=>y.size<=sizeLine/\k=((y.size:Int) != 0)
 |.ref p=>(∃xs,SqL K H p xs/\k = !xs.isEmpty)\/(∃xs,SqT K H p xs/\k = !xs.isEmpty)\/∃kvs,H p=some (.dK kvs)/\k = !kvs.isEmpty
 |_=>False
theorem z1f{kvs:List (κ×V)}{vs:List (κ×Value)}(r:KV kvs vs):(!vs.isEmpty) = !kvs.isEmpty:=by
 cases r<;>rfl
theorem q5x(r:Vals xs its):(!its.toArray.isEmpty) = !xs.isEmpty:=by
 cases r<;>simp
theorem line63:(sizeLine:Nat)<2^63:=by rw[Cp];decide
theorem tru_ok:TruR X (fun x H Q=>∃k,TruV X.K x H k/\Q k H):=by
 intro pins s σ H x v Q I rx h;obtain⟨k,e,q⟩:=h;have hs:=Cp;cases x with
 |non =>
  cases rx;have e':=e;subst e';exact truthy_none ⟨H,I,q⟩
 |bl b =>
  cases rx;have e':=e;subst e';exact Ek ⟨H,I,q⟩
 |int i =>
  obtain⟨t,rfl⟩:=rx;have e':=e;subst e';exact PySem.P.truthy_int ⟨H,I,q⟩
 |str y =>
  obtain⟨t,rfl⟩:=rx;obtain⟨hy,e'⟩:y.length<=sizeLine/\k=((y.length:Int) != 0):=e;subst e';exact PySem.P.truthy_str (by lia) ⟨H,I.tok _,q⟩
 |byt y =>
  obtain⟨t,rfl⟩:=rx;obtain⟨hy,e'⟩:y.size<=sizeLine/\k=((y.size:Int) != 0):=e;subst e';exact W.truthy_bytes (by lia) ⟨H,I.tok _,q⟩
 |ref p =>
  cases rx;have e':=e;rcases e' with⟨xs,hx,e'⟩|⟨xs,hx,e'⟩|⟨kvs,hx,e'⟩
  ·subst e';obtain⟨its,r,pl,hz⟩:=I.list hx;have hlen:=r.length;exact wpAny_truthy_list pl.isList (by simp only[As];lia) ⟨H,I.tok _,by rw[q5x r];exact q⟩
  ·subst e';obtain⟨its,r,pl,hz⟩:=I.tuple hx;have hlen:=r.length;exact truthy_tuple pl (by simp only[As];lia) ⟨H,I.tok _,by rw[q5x r];exact q⟩
  ·subst e';obtain⟨hz,hS,vs,r,m⟩:kvs.length<=sizeLine/\(p==Dg)=false/\∃vs,KV kvs vs/\s.heap.DictOf (mixKind X.prog X.w) p vs:=I.hok p _ hx;have hlen:=Cd r;exact wpAny_truthy_dict hS m (by lia) ⟨H,I.tok _,by rw[z1f r];exact q⟩
 |_=>exact(show False from e).elim
theorem z5m(ha:PE X a ta)(he:∀whole,isTrue a X.env whole=(do let v<-whole;Lu a.pos;Ja [v] (truthy v))):
  PT X a (fun σ H Q=>ta σ H fun x H'=>∃k,TruV X.K x H' k/\Q k H'):=by
 intro pins s σ H Q I h;exact isTrue_plain (thn (ha pins s σ H _ I h) fun v s1 ⟨x,H1,I1,r1,q1⟩=>tru_ok pins s1 σ H1 x v Q I1 r1 q1) (he _)
theorem op_add_str:OpR X (Ep .Add) (fun x y H Q=>∃i j,x=.str i/\y=.str j/\i.length+j.length<=sizeLine/\Q (.str (i++j)) H):=by
 intro pins s σ H x y v u Q I rx ry h;obtain⟨i,j,rfl,rfl,hz,q⟩:=h;obtain⟨t,rfl⟩:=rx;obtain⟨t',rfl⟩:=ry;exact add_str (fun t' tk=>⟨.str (i++j),H,I.tok _,⟨_,rfl⟩,q⟩) hz
theorem vals1(r:Vals [x] us):∃u,us=[u]/\RelV x u:=by
 cases r with
 |cons r1 r2=>cases r2;exact⟨_,rfl,r1⟩
theorem vals2(r:Vals [x,y] us):∃u w',us=[u,w']/\RelV x u/\RelV y w':=by
 cases r with
 |cons r1 r2 =>
  cases r2 with
  |cons r3 r4=>cases r4;exact⟨_,_,rfl,r1,r3⟩
theorem z2t(hc:X.calm=true):CallR X (.builtin "max") (fun xs H Q=>∃i j,xs=[.int i,.int j]/\Q (.int (if j>i then j else i)) H):=by
 intro pins s σ H xs us Q I r h;obtain⟨i,j,rfl,q⟩:=h;obtain⟨u,w',rfl,⟨t,rfl⟩,⟨t',rfl⟩⟩:=vals2 r;refine max_two_ints (I.ok.hd hc) fun h' tk k=>⟨_,H,I.kept k,?_,q⟩
 by_cases hj:j>i
 ·rw[if_pos hj,if_pos hj];exact⟨_,rfl⟩
 ·rw[if_neg hj,if_neg hj];exact⟨_,rfl⟩
theorem q7j(hc:X.calm=true):CallR X (.builtin "min") (fun xs H Q=>∃i j,xs=[.int i,.int j]/\Q (.int (if j<i then j else i)) H):=by
 intro pins s σ H xs us Q I r h;obtain⟨i,j,rfl,q⟩:=h;obtain⟨u,w',rfl,⟨t,rfl⟩,⟨t',rfl⟩⟩:=vals2 r;refine min_two_ints (I.ok.hd hc) fun h' tk k=>⟨_,H,I.kept k,?_,q⟩
 by_cases hj:j<i
 ·rw[if_pos hj,if_pos hj];exact⟨_,rfl⟩
 ·rw[if_neg hj,if_neg hj];exact⟨_,rfl⟩
def LenV(K:Af)(x:V)(H:Hp)(n:Nat):Prop :=
 match x with
 |.str y=>y.length<=sizeLine/\n=y.length
 |.byt y=>y.size<=sizeLine/\n=y.size
 |.ref p=>(∃xs,SqL K H p xs/\n=xs.length)\/∃xs,SqT K H p xs/\n=xs.length
 |_=>False
theorem z5n:CallR X (.builtin "len") (fun xs H Q=>∃x n,xs=[x]/\LenV X.K x H n/\Q (.int n) H):=by
 intro pins s σ H xs us Q I r h;obtain⟨x,n,rfl,e,q⟩:=h;obtain⟨u,rfl,rx⟩:=vals1 r;have hs:=Cp;cases x with
 |str y =>
  obtain⟨t,rfl⟩:=rx;obtain⟨hy,e'⟩:y.length<=sizeLine/\n=y.length:=e;subst e';exact len_str (by lia) ⟨.int _,H,I.tok _,⟨_,rfl⟩,q⟩
 |byt y =>
  obtain⟨t,rfl⟩:=rx;obtain⟨hy,e'⟩:y.size<=sizeLine/\n=y.size:=e;subst e';exact W.len_bytes (by lia) ⟨.int _,H,I.tok _,⟨_,rfl⟩,q⟩
 |ref p =>
  cases rx;have e':=e;rcases e' with⟨xs,hx,e'⟩|⟨xs,hx,e'⟩
  ·subst e';obtain⟨its,r',pl,hz⟩:=I.list hx;have hlen:=r'.length;exact Calls.call_len_list pl.isList (by simp only[As];lia) ⟨.int xs.length,H,I.tok _,⟨_,by simp only[As];rw[hlen]⟩,q⟩
  ·subst e';obtain⟨its,r',pl,hz⟩:=I.tuple hx;have hlen:=r'.length;exact len_tuple pl (by simp only[As];lia) ⟨.int xs.length,H,I.tok _,⟨_,by simp only[As];rw[hlen]⟩,q⟩
 |_=>exact(show False from e).elim
end
open PySem PySem.Spec PyProof.Rows
structure ObjM (h:Heap) (x dx C:Addr) (mA:Str->Option Value):Prop where
 obj:h.get? x=some (Ii C dx)
 ns:h.Ns1 dx mA
 ne:dx≠x
theorem z2u{h:Heap}(n:h.Ns1 dx mA):∃od,h.get? dx=some od/\∀name,Qx name od=some (mA name):=by
 obtain⟨o,es,ep,ho,hd,hk,_,hm⟩:=n;refine⟨o,ho,fun name=>?_⟩;have e:=hm name;unfold nsFind findBy at e;rw[<- Array.find?_toList] at e;unfold Qx;rw[hd];dsimp only;split
 ·grind
 ·rename_i q;rw[q] at e;have a:es.toList.any (·.refKey)=false:=by
   rw[List.any_eq_false];intro y hy;obtain⟨z,t,hkey⟩:=hk y (Array.mem_toList_iff.mp hy);simp[Kw.refKey,hkey]
  have a':¬es.toList.any (·.refKey)=true:=by grind
  rw[if_neg a'];exact congrArg some e
theorem ObjM.look(I:ObjM h x dx C mA):∃od,W.InstAt h x (Ii C dx) C (some od)/\∀name,Qx name od=some (mA name) :=
 let ⟨od,ho,hl⟩:=z2u I.ns
 ⟨od,⟨I.obj,rfl,rfl,ho⟩,hl⟩
section
variable{prog:Program}{w:World}{A:Around}{E:Value->Ad->Prop}{s:Ad}{K:Af}{x dx C f:Addr}{mA:Str->Option Value}{name:Str}{v:Value}
theorem z8h(X:K.In s.heap)(I:ObjM s.heap x dx C mA)(hg:Ln K C name=true)(hh:Mx K C=true)(ha:Dk K (.ref C) name=some none)(hv:mA name=some v)(hv':W.handedIn v=true)(h:Q v { s with toks:=s.toks+1 }):
  wpAny (model prog w) A (getAttr (.ref x) name expr) Q E s:=by
 obtain⟨od,J,hl⟩:=I.look;exact W.get_value X J (Oz hg).1 (W.findObj_own hh ha rfl (by rw[hl,hv])) hv' h
theorem z5o(X:K.In s.heap)(I:ObjM s.heap x dx C mA)(hg:Ln K C name=true)(hf:Dk K (.ref C) name=some (some (.ref f)))(ht:Rn K (.ref f)=true)(hv:mA name=none)(h:Q (.ref f,[.ref x]) s):
  wpAny (model prog w) A (Kx (.ref x) name pl) Q E s:=by
 obtain⟨od,J,hl⟩:=I.look;exact W.method_fn X J (Oz hg).1 (Oz hg).2 hf (beq_iff_eq.mp ht) (by show(Qx name od).map (·.isSome)=some false;rw[hl,hv];rfl) h
theorem z8i(X:K.In s.heap)(I:ObjM s.heap x dx C mA)(hs:Dk K (.ref C) "__setattr__" = some (some (.builtin "object.__setattr__")))(hp:Qr K C=true)(ht:Sh K C name=some none)(hh:Mx K C=true)(hw:Lx mA ns)(hsz:ns.length<=sizeLine)(h:∀h',ObjM h' x dx C (fun y=>if y=name then some v else mA y)->De dx s.heap h'->Q () { s with heap:=h',toks:=s.toks+2 }):
  wpAny (model prog w) A (setAttr (.ref x) name v) Q E s:=by
 obtain⟨od,J,hl⟩:=I.look;refine W.set_plain X J hs (W.osa_open X J hp ht fun b=>?_);obtain⟨cd,hc,hd'⟩:=W.any_some hh;have hx:=I.obj;refine Aa (Ab (Aa (Aa (wpAny_loadPart hx (Aa (W.Looks.here (W.looks_clsIn X hc) ?_))))));rw[hd'];refine Ab (Aa (Ab (Aa ?_)));refine wpAny_nsSet1 I.ns fun h' hn2 hs2=>?_
 obtain⟨oD,esD,epD,hoD,hdD,hcD⟩:=hn2.count (Lx.cons name v hw);refine Aa (wpAny_lookBehind hoD (by rw[hdD];exact pastItsLine_dict (By hcD (by rw[Bl];lia))) ?_);exact Ab (h _ ⟨(hs2.2 _ (Dp I.ne)).trans I.obj,hn2,I.ne⟩ hs2)
theorem z5p(X:K.In s.heap)(hm:Si K C=true)(hi:Dk K (.ref C) "__init__" = some (some (.ref f)))(hf:W.typeIn K (.ref f)=some (.type "function"))(h:Er (model prog w) (A.under (.builtin "type.__call__" ⟨.ref C::vs,kw⟩)) (.call (.ref f) ⟨.ref (s.heap.objs.size+1)::vs,kw⟩) (W.InitBack (s.heap.objs.size+1) R)
   { s with heap:=(s.heap.push Fp).push (Ii C s.heap.objs.size) }):
  Er (model prog w) A (.call (.ref C) ⟨vs,kw⟩) R s:=by
 exact W.make_core (W.makes_of X hm) (W.looks_findIn X hi) (fun self=>W.bind_fn X self hf) (.inl rfl) h
end
def putF(f:Str)(v:V):List (Str×V)->List (Str×V)
 |[]=>[(f,v)]
 |(g,x)::r=>if g=f then(g,v)::r else(g,x)::putF f v r
theorem q4x(f g:Str)(v:V):∀fs:List (Str×V),(putF f v fs).lookup g=if g=f then some v else fs.lookup g
 |[]=>by
  show List.lookup g [(f,v)]=_;by_cases h:g=f
  ·have hb:(g==f)=true:=beq_iff_eq.mpr h;simp only[List.lookup,hb,if_pos h]
  ·simp_all
 |(k,x)::r=>by
  have ih:=q4x f g v r;rw[show putF f v ((k,x)::r)=(if k=f then(k,v)::r else(k,x)::putF f v r) from rfl];by_cases hk:k=f
  ·rw[if_pos hk];by_cases h:g=k
   ·simp_all
   ·have hb:(g==k)=false:=beq_eq_false_iff_ne.mpr h;simp only[List.lookup,hb,if_neg (fun e:g=f=>h (e.trans hk.symm))]
  ·rw[if_neg hk];by_cases h:g=k
   ·simp_all
   ·have hb:(g==k)=false:=beq_eq_false_iff_ne.mpr h;simp only[List.lookup,hb];exact ih
theorem q4y(f:Str)(v:V):∀fs:List (Str×V),f∈(putF f v fs).map (·.1)/\∀g,g∈fs.map (·.1)->g∈(putF f v fs).map (·.1)
 |[]=>⟨by simp[putF],fun g h=>by simp at h⟩
 |(k,x)::r=>by
  obtain⟨i1,i2⟩:=q4y f v r;rw[show putF f v ((k,x)::r)=(if k=f then(k,v)::r else(k,x)::putF f v r) from rfl];by_cases hk:k=f
  ·grind
  ·grind
theorem q4z(f:Str)(v:V):∀fs:List (Str×V),(putF f v fs).length<=fs.length+1
 |[]=>by simp[putF]
 |(k,x)::r=>by
  have ih:=q4z f v r;rw[show putF f v ((k,x)::r)=(if k=f then(k,v)::r else(k,x)::putF f v r) from rfl];by_cases hk:k=f
  ·grind
  ·grind
theorem RelO.some_of(r:RelO (some v) o):∃u,o=some u/\RelV v u:=by
 cases o with
 |none=>exact(show False from r).elim
 |some u=>exact⟨u,rfl,r⟩
theorem RelO.none_of(r:RelO none o):o=none:=by
 cases o with
 |none=>rfl
 |some u=>exact(show False from r).elim
theorem z2v(r:RelV v u):W.handedIn u=true:=by
 cases v with
 |non=>cases(show u=Value.none from r);rfl
 |bl b=>cases(show u=Value.bool b from r);rfl
 |int i=>obtain⟨t,e⟩:=(show ∃t,u=Value.int i t from r);cases e;rfl
 |str x=>obtain⟨t,e⟩:=(show ∃t,u=Value.str x t from r);cases e;rfl
 |byt b=>obtain⟨t,e⟩:=(show ∃t,u=Value.bytes b t from r);cases e;rfl
 |flt b=>obtain⟨t,e⟩:=(show ∃t,u=Value.float b t from r);cases e;rfl
 |ref a=>cases(show u=Value.ref a from r);rfl
 |ty n=>cases(show u=Value.type n from r);rfl
section
variable{P:Program}{w:World}{H H':Hp}{h h':Heap}{a C dx:Addr}{fs fs':List (Str×V)}
theorem q6l(hok:HOk P w H h)(e:H a=some (.ins C dx fs)):∃mA,ObjM h a dx C mA/\(∀f,RelO (fs.lookup f) (mA f))/\Lx mA (fs.map (·.1))/\fs.length<=1000/\H dx=some (.own a):=by
 obtain⟨d,z,ne,ob,mA,n,r,q⟩:=(show ObjOk P w H h a (.ins C dx fs) from hok a _ e)
 exact⟨mA,⟨ob,n,ne⟩,r,q,z,d⟩
end
structure Cls (K:Af) (C:Addr):Prop where
 pg:Ln K C Str.empty=true
 hd:Mx K C=true
 po:Qr K C=true
 sa:Dk K (.ref C) "__setattr__" = some (some (.builtin "object.__setattr__"))
theorem Cls.get{K:Af}(c:Cls K C)(f:Str):Ln K C f=true:=c.pg
def NoAttr(K:Af)(C:Addr)(f:Str):Prop:=Dk K (.ref C) f=some none
theorem NoAttr.taker{K:Af}(n:NoAttr K C f):Sh K C f=some none:=by
 unfold Sh;rw[show Dk K (.ref C) f=some none from n];rfl
structure Meth (K:Af) (C:Addr) (m:Str) (f:Addr):Prop where
 at_:Dk K (.ref C) m=some (some (.ref f))
 fn:Rn K (.ref f)=true
 kp:Gm K (.ref f)=true
section
variable{X:Cx}{pins:List (Addr×Obj)}{σ:St}{H:Hp}{s:Ad}{a C dx:Addr}{fs:List (Str×V)}{f:Str}{v:V}{A:Around}{E:Value->Ad->Prop}
theorem z1g(I:Inv X pins σ H s)(e:H a=some (.ins C dx fs))(c:Cls X.K C)(n:NoAttr X.K C f)(l:fs.lookup f=some v)(h:∀u s',Inv X pins σ H s'->RelV v u->Q u s'):wpAny (model X.prog X.w) A (getAttr (.ref a) f b) Q E s:=by
 obtain⟨mA,O,r,_,_,_⟩:=q6l I.hok e;obtain⟨u,hu,ru⟩:=RelO.some_of (by rw[<- l];exact r f);exact z8h I.kIn O (c.get f) c.hd n hu (z2v ru) (h u _ (I.tok _) ru)
theorem q5y(I:Inv X pins σ H s)(e:H a=some (.ins C dx fs))(c:Cls X.K C)(k:Meth X.K C m g)(l:fs.lookup m=none)(h:Q (.ref g,[.ref a]) s):wpAny (model X.prog X.w) A (Kx (.ref a) m pl) Q E s:=by
 obtain⟨mA,O,r,_,_,_⟩:=q6l I.hok e;have hn:=RelO.none_of (by rw[<- l];exact r m);exact z5o I.kIn O (c.get m) k.at_ k.fn hn h
theorem z1h(I:Inv X pins σ H s)(e:H a=some (.ins C dx fs))(c:Cls X.K C)(n:NoAttr X.K C f)(hl:fs.length<1000)(ry:RelV y u)(h:∀s',Inv X pins σ (upd H a (.ins C dx (putF f y fs))) s'->Q () s'):wpAny (model X.prog X.w) A (setAttr (.ref a) f u) Q E s:=by
 obtain⟨mA,O,r,wi,_,ho⟩:=q6l I.hok e;have hz:(fs.map (·.1)).length<=sizeLine:=by rw[Ac,Cp];lia
 refine z8i I.kIn O c.sa c.po n.taker c.hd wi hz fun h' O' sb=>h _ ?_;have hd:∃o,h'.get? dx=some o:=let ⟨o,_,_,e',_⟩:=O'.ns;⟨o,e'⟩;refine I.write (by rw[e];exact True.intro) (.inr ho) (fun b q hb z=>(sb.2 b hb).trans z) hd ?_;refine⟨by rw[q0c O.ne];exact ho,?_,O.ne,O'.obj,_,O'.ns,fun g=>?_,fun g hg=>?_⟩
 ·have:=q4z f y fs;lia
 ·show RelO ((putF f y fs).lookup g) (if g=f then some u else mA g);rw[q4x];by_cases q:g=f
  ·rw[if_pos q,if_pos q];exact ry
  ·grind
 ·by_cases q:g=f
  ·rw[q];exact(q4y f y fs).1
  ·refine(q4y f y fs).2 g (wi g fun z=>hg ?_);show(if g=f then some u else mA g)=none;rw[if_neg q];exact z
theorem Inv.made(I:Inv X pins σ H s):Inv X pins σ (upd (upd H s.heap.objs.size (.own (s.heap.objs.size+1))) (s.heap.objs.size+1) (.ins C s.heap.objs.size []))
  { s with heap:=(s.heap.push Fp).push (Ii C s.heap.objs.size) }:=by
 have e1:(s.heap.push Fp).get? s.heap.objs.size=some Fp:=Al s.heap rfl;have e2:((s.heap.push Fp).push (Ii C s.heap.objs.size)).get? (s.heap.objs.size+1)=some (Ii C s.heap.objs.size):=by
  have:=Al (s.heap.push Fp) (o:=Ii C s.heap.objs.size) rfl
  rwa [Es] at this
 have e3:(s.heap.push Fp).Ns s.heap.objs.size (fun _=>none):=⟨Fp,#[],_,e1,rfl,(fun e he=>absurd he (by simp)),fun _=>rfl⟩
 have I1:=I.laid (o:=.own (s.heap.objs.size+1)) (h':=s.heap.push Fp) (t':=s.toks) (fun b u q=>Ae _ q) (Ai _) ⟨_,e1⟩;refine I1.laid (t':=s.toks) (fun b u q=>Ae _ q) (Ij (Es _ _)) ?_;have ne:s.heap.objs.size≠s.heap.objs.size+1:=Au (Ea _);refine⟨by rw[q0c ne,q0b],Bv _,ne,e2,fun _=>none,(Heap.Ns1.of_empty e3).at fun o q=>Ae _ q,fun _=>True.intro,fun y hy=>absurd rfl hy⟩
theorem z8j(hb:Em e f env (eval e env)=eval e env)(h:wpAny (model prog w) A (eval e env) (fun o s₁=>wpAny (model prog w) A (getAttr o f true) Q E s₁) E s):wpAny (model prog w) A (eval (.Attribute e f pos) env) Q E s :=
 Attribute_any_ h (by rw[arm_eval_Attribute,hb])
end
def tFld(K:Af)(ta:TE)(f:Str):TE:=fun σ H Q=>ta σ H fun x H1=>∃a C dx fs v,x=.ref a/\H1 a=some (.ins C dx fs)/\Cls K C/\NoAttr K C f/\fs.lookup f=some v/\Q v H1
def sFld(K:Af)(ta tv:TE)(f:Str):TS:=fun D σ H=>tv σ H fun y H1=>ta σ H1 fun x H2=>∃a C dx fs,x=.ref a/\H2 a=some (.ins C dx fs)/\Cls K C/\NoAttr K C f/\fs.length<1000 /\
 D.nx σ (upd H2 a (.ins C dx (putF f y fs)))
section
variable{X:Cx}{o e value:Expr}{f:Str}{pos pos' tpos:Pos}{ta tv:TE}
theorem pe_fld(he:PE X e ta)(hb:Em e f X.env (eval e X.env)=eval e X.env):PE X (.Attribute e f pos) (tFld X.K ta f):=by
 intro pins s σ H Q I h;refine z8j hb (thn (he pins s σ H _ I h) fun u s1 ⟨x,H1,I1,rx,a,C,dx,fs,v,ex,ea,c,n,l,q⟩=>?_);subst ex;obtain rfl:u=Value.ref a:=rx;exact z1g I1 ea c n l fun u' s2 I2 ru=>⟨v,H1,I2,ru,q⟩
theorem ps_fld(ha:PE X o ta)(hv:PE X value tv)(hs:Kv value (some (.Attribute o f pos')) pos.line X.env=pure false):PS X (.Assign [.Attribute o f pos'] value pos) (sFld X.K ta tv f):=by
 intro pins s σ H D I h;refine plainObj_wpAny_Assign_Attribute (thn (hv pins s σ H _ I h) fun u s1 ⟨y,H1,I1,ry,q⟩=>thn (ha pins s1 σ H1 _ I1 q) fun ov s2 ⟨x,H2,I2,rx,a,C,dx,fs,ex,ea,c,n,l,q2⟩=>?_) hs;subst ex;obtain rfl:ov=Value.ref a:=rx;exact z1h I2 ea c n l ry fun s3 I3=>⟨σ,_,I3,q2⟩
end
section
variable{X:Cx}{pins:List (Addr×Obj)}{σ:St}{H:Hp}{s:Ad}{A:Around}{E:Value->Ad->Prop}{Q:Value->Ad->Prop}{c:Value}{b:Bool}
inductive TyOf (K:Af) (H:Hp):V->Value->Prop where
 |non:TyOf K H .non (.type "NoneType")
 |bl (x:Bool):TyOf K H (.bl x) (.type "bool")
 |int (i:Int):TyOf K H (.int i) (.type "int")
 |str (x:Str):TyOf K H (.str x) (.type "str")
 |flt (x:UInt64):TyOf K H (.flt x) (.type "float")
 |lst {a:Addr} {xs:List V} (e:H a=some (.lst xs)):TyOf K H (.ref a) (.type "list")
 |frz {a:Addr} {o:Obj} {xs:List V} (e:H a=some (.frz o (.lst xs))):TyOf K H (.ref a) (.type "list")
 |tup {a:Addr} {xs:List V} (e:H a=some (.tup xs)):TyOf K H (.ref a) (.type "tuple")
 |dK {a:Addr} {kvs:List (Key×V)} (e:H a=some (.dK kvs)):TyOf K H (.ref a) (.type "dict")
 |dT {a:Addr} {kvs:List (List Key×V)} (e:H a=some (.dT kvs)):TyOf K H (.ref a) (.type "dict")
 |ins {a C dx:Addr} {fs:List (Str×V)} (e:H a=some (.ins C dx fs)) (cl:Cls K C) (ha:Dk K (.ref C) "__class__" = some (some (.builtin "object.__class__")))
   (hn:Qs K (.builtin "object.__class__") "__get__" = some (some (.builtin "getset_descriptor.__get__"))) (htk:Sj K (.builtin "object.__class__")=some true)
   (hm:W.mroIn K C (.type "object")=some true):TyOf K H (.ref a) (.ref C)
theorem q7k(I:Inv X pins σ H s)(rx:RelV x u)(ty:TyOf X.K H x t)(e:Og X.K t c=some b)(h:∀tk,Q (.bool b) { s with toks:=tk }):
  wpAny (model X.prog X.w) A (call (.builtin "isinstance") [u,c]) Q E s:=by
 cases ty with
 |non=>cases(show u=Value.none from rx);exact Fq W.kitx_none I.kIn True.intro e (fun z=>nomatch z) h
 |bl y=>cases(show u=Value.bool y from rx);exact Fq W.kitx_bool I.kIn True.intro e (fun z=>nomatch z) h
 |int i=>obtain⟨t,q⟩:=(show ∃t,u=Value.int i t from rx);cases q;exact Fq W.kitx_int I.kIn True.intro e (fun z=>nomatch z) h
 |str y=>obtain⟨t,q⟩:=(show ∃t,u=Value.str y t from rx);cases q;exact Fq W.kitx_str I.kIn True.intro e (fun z=>nomatch z) h
 |flt y=>obtain⟨t,q⟩:=(show ∃t,u=Value.float y t from rx);cases q;exact Fq W.kitx_float I.kIn True.intro e (fun z=>nomatch z) h
 | @lst a xs ea =>
  cases(show u=Value.ref a from rx);obtain⟨_,_,n,_,h1⟩:=(show ObjOk X.prog X.w H s.heap a (.lst xs) from I.hok a _ ea)
  exact Fq W.kitx_list I.kIn ⟨_,h1,rfl⟩ e (fun z=>nomatch z) h
 | @frz a ob xs ea =>
  cases(show u=Value.ref a from rx);obtain⟨_,_,_,n,_,h1⟩:=(show ObjOk X.prog X.w H s.heap a (.frz ob (.lst xs)) from I.hok a _ ea)
  exact Fq W.kitx_list I.kIn ⟨_,h1,rfl⟩ e (fun z=>nomatch z) h
 | @tup a xs ea =>
  cases(show u=Value.ref a from rx);obtain⟨_,_,_,p⟩:=(show ObjOk X.prog X.w H s.heap a (.tup xs) from I.hok a _ ea)
  obtain⟨o,h1,h2,_⟩:=p;exact Fq W.kitx_tuple I.kIn ⟨o,h1,h2⟩ e (fun z=>nomatch z) h
 | @dK a kvs ea =>
  cases(show u=Value.ref a from rx);obtain⟨_,_,vs,_,p⟩:=(show ObjOk X.prog X.w H s.heap a (.dK kvs) from I.hok a _ ea)
  obtain⟨o,es,ep,h1,h2,_⟩:=p;exact Fq W.kitx_dict I.kIn ⟨o,h1,h2.1⟩ e (fun z=>nomatch z) h
 | @dT a kvs ea =>
  cases(show u=Value.ref a from rx);obtain⟨_,_,xs,_,o,es,ep,h1,h2,_⟩:=(show ObjOk X.prog X.w H s.heap a (.dT kvs) from I.hok a _ ea)
  exact Fq W.kitx_dict I.kIn ⟨o,h1,h2.1⟩ e (fun z=>nomatch z) h
 | @ins a C dx fs ea cl ha hn htk hm =>
  cases(show u=Value.ref a from rx);obtain⟨mA,O,_⟩:=q6l I.hok ea;obtain⟨od,J,_⟩:=O.look;exact Fq (W.kitx_own (cl.get _) cl.hd ha hn htk hm) I.kIn J e (fun z=>nomatch z) h
end
open PySem PySem.Spec PyProof.Rows
structure Room (k:Nat) (A:Around):Prop where
 hd:A.handled=none
 dp:A.depth+3*k+5<recursionLimit
 un:A.units+16*k+200<cLine
 gd:A.guards=some []
theorem Room.mono(r:Room k A)(h:j<=k):Room j A:=⟨r.hd,by have:=r.dp;lia,by have:=r.un;lia,r.gd⟩
theorem Room.deeper(r:Room (k+1) A)(env:Env):Room k (A.deeper env) :=
 ⟨r.hd,by have:=r.dp;show A.depth+1+3*k+5<_;lia,by have:=r.un;show A.units+3+16*k+200<_;lia,r.gd⟩
theorem Room.in1(r:Room (k+1) A):Room k A.in1 :=
 ⟨r.hd,by have:=r.dp;show A.depth+3*k+5<_;lia,by have:=r.un;show A.units+1+16*k+200<_;lia,r.gd⟩
theorem z1i{A:Around}:(A.under (.builtin "type.__call__" ⟨.ref C::us,kw⟩)).depth=A.depth+1:=by
 first|rfl|simp[Lz,Code.weight,Code.isCreation,Code.isGuard,Code.isCaller,Code.frames,Po,guardIds]
theorem z1j{A:Around}:(A.under (.builtin "type.__call__" ⟨.ref C::us,kw⟩)).units=A.units+1:=by
 first|rfl|simp[Lz,Code.cUnits,Code.frames,Po]
theorem make_guards{A:Around}:(A.under (.builtin "type.__call__" ⟨.ref C::us,kw⟩)).guards=A.guards:=by
 have:(Code.builtin "type.__call__" ⟨.ref C::us,kw⟩).guards=[]:=by simp[Code.guards,Code.isGuard,guardIds]
 unfold Lz;rw[this];cases e:A.guards<;>simp[pushGuards,e]
theorem Room.make(r:Room (k+1) A)(C:Addr)(us:List Value)(kw:List (Str×Value)):Room k (A.under (.builtin "type.__call__" ⟨.ref C::us,kw⟩)) :=
 ⟨r.hd,by have:=r.dp;rw[z1i];lia,by have:=r.un;rw[z1j];lia,make_guards.trans r.gd⟩
theorem Room.depth(r:Room k A):A.depth<recursionLimit:=by have:=r.dp;lia
theorem Room.units(r:Room k A):A.units+64<cLine:=by have:=r.un;lia
def tNil:TA:=fun _ H Q=>Q [] H
def tCons(ta:TE)(tr:TA):TA:=fun σ H Q=>ta σ H fun x H1=>tr σ H1 fun xs H2=>Q (x::xs) H2
section
variable{X:Cx}{e:Expr}{es:List Expr}{te:TE}{t:TA}{pos:Pos}
theorem q0d:PA X [] tNil:=fun _ _ _ _ H Q I h=>Qi ⟨[],H,I,.nil,h⟩
theorem q0a(ha:PE X e te)(hr:PA X es t)(hs:Bc (e::es) X.env=(false,eval e X.env)::Bc es X.env:=by rfl):PA X (e::es) (tCons te t):=by
 intro pos pins s σ H Q I h;rw[hs];refine Ky (thn (ha pins s σ H _ I h) fun u s1 ⟨x,H1,I1,r1,q1⟩=>?_);exact thn (hr pos pins s1 σ H1 _ I1 q1) fun us s2 ⟨xs,H2,I2,r2,q2⟩=>⟨x::xs,H2,I2,.cons r1 r2,q2⟩
def tTup(t:TA):TE:=fun σ H Q=>t σ H fun xs H1=>xs.length<=sizeLine/\∀p,H1 p=none->Q (.ref p) (upd H1 p (.tup xs))
def tLst(t:TA):TE:=fun σ H Q=>t σ H fun xs H1=>xs.length<=sizeLine/\∀p,H1 p=none->Q (.ref p) (upd H1 p (.lst xs))
theorem q1c{x1}(h:PA X es t):PE X (.Tuple es x1 pos) (tTup t):=by
 intro pins s σ H Q I hq;refine wpAny_Tuple_spliced (thn (h pos pins s σ H _ I hq) fun us s1 ⟨xs,H1,I1,r,z,q⟩=>⟨by rw[<- r.length];exact z,?_⟩);have hf:=I1.hok.fresh (Ai _);refine⟨.ref s1.heap.objs.size,upd H1 s1.heap.objs.size (.tup xs),I1.laid (t':=s1.toks) (fun b u e=>Ae _ e) (Ai _) ?_,rfl,q _ hf⟩;exact⟨z,us,r,⟨_,Al _ rfl,rfl,_,rfl⟩⟩
theorem q1r(h:PA X es t):PE X (.List es pos) (tLst t):=by
 intro pins s σ H Q I hq;refine wpAny_List_spliced (thn (h pos pins s σ H _ I hq) fun us s1 ⟨xs,H1,I1,r,z,q⟩=>⟨by rw[<- r.length];exact z,?_⟩);have hf:=I1.hok.fresh (Ai _);refine⟨.ref s1.heap.objs.size,upd H1 s1.heap.objs.size (.lst xs),I1.laid (t':=s1.toks) (fun b u e=>Ae _ e) (Ai _) ?_,rfl,q _ hf⟩;exact⟨z,us,0,r,Al _ rfl⟩
end
abbrev Sp:=List V->Hp->VK->XK->Prop
abbrev CXT:=List Env->Hp->Ad->XK->Value->Ad->Prop
structure Env0 (P:Program) (w:World) (K:Af) (mg:Str->Option Value) (base:Heap) (A:Around) (outer:List Env) (s:Ad) (H:Hp):Prop where
 frames:A.frames=some outer
 mod:Mod K mg base
 bs:∀b o,base.get? b=some o->s.heap.get? b=some o/\H b=none
 bsz:base.objs.size<=s.heap.objs.size
 funs:s.heap.FunFrames base outer
 frf:∀b∈frs outer,H b=none
 hok:HOk P w H s.heap
 bare:Jv s.gens
def CE(outer:List Env)(P:Program)(w:World)(H:Hp)(s:Ad)(Q:VK)(u:Value)(s':Ad):Prop :=
 ∃v H',s'.os=s.os/\Jv s'.gens/\Un (frs outer) [] H H' s.heap s'.heap/\HOk P w H' s'.heap/\RelV v u/\Q v H'
def CR(CX:CXT)(outer:List Env)(P:Program)(w:World)(H:Hp)(s:Ad)(Q:VK)(E:XK)(r:Result)(s':Ad):Prop :=
 match r with
 |.ok (.ret u)=>CE outer P w H s Q u s'
 |.ok _=>False
 |.error e=>CX outer H s E e s'
structure FnOk (P:Program) (w:World) (K:Af) (mg:Str->Option Value) (base:Heap) (CX:CXT) (k:Nat) (f:Addr) (fd:Jq) (ps:List Str) (sp:Sp):Prop where
 len:∀vs H Q E,sp vs H Q E->vs.length=ps.length
 run:∀(A:Around) (outer:List Env) (s:Ad) (H:Hp) (args:Args) (us:List Value) (vs:List V) (Q:VK) (E:XK),Room k A->Env0 P w K mg base A outer s H->Nl s fd args (ps.zip us)->Vals vs us->sp vs H Q E ->
  Er (model P w) A (.call (.ref f) args) (CR CX outer P w H s Q E) s
theorem FnOk.mono{K:Af}(F:FnOk P w K mg base CX j f fd ps sp)(h:j<=k):
  FnOk P w K mg base CX k f fd ps sp:=⟨F.len,fun A outer s H args us vs Q E hr=>F.run A outer s H args us vs Q E (hr.mono h)⟩
theorem FnOk.imp{K:Af}(F:FnOk P w K mg base CX k f fd ps sp)(h:∀vs H Q E,sp' vs H Q E->sp vs H Q E):FnOk P w K mg base CX k f fd ps sp' :=
 ⟨fun vs H Q E q=>F.len vs H Q E (h _ _ _ _ q),fun A outer s H args us vs Q E hr he hb hv hs=>F.run A outer s H args us vs Q E hr he hb hv (h _ _ _ _ hs)⟩
theorem Env0.make{K:Af}(e:Env0 P w K mg base A outer s H)(C:Addr)(us:List Value)(kw:List (Str×Value)):
  Env0 P w K mg base (A.under (.builtin "type.__call__" ⟨.ref C::us,kw⟩)) outer s H:=⟨by first|exact e.frames|(simpa[Lz,Code.envs,Po,pushEnvs] using e.frames),e.mod,e.bs,e.bsz,e.funs,e.frf,e.hok,e.bare⟩
theorem Env0.in1{K:Af}(e:Env0 P w K mg base A outer s H):
  Env0 P w K mg base A.in1 outer s H:=⟨e.frames,e.mod,e.bs,e.bsz,e.funs,e.frf,e.hok,e.bare⟩
section
variable{X:Cx}{pins:List (Addr×Obj)}{σ:St}{H:Hp}{s s':Ad}
theorem Inv.env0(I:Inv X pins σ H s):Env0 X.prog X.w X.K X.mg X.base X.A X.stack s H :=
 ⟨I.ok.frames,I.ok.mod,I.bs,By I.ok.bsz I.sz,I.stack,I.stkFree,I.hok,I.bare⟩
theorem Inv.after(I:Inv X pins σ H s)(h:CE X.stack X.prog X.w H s Q u s'):EP X pins σ Q u s':=by
 obtain⟨v,H',os,bare,un,hok,r,q⟩:=h;obtain⟨hh,g,d,t,os'⟩:=s';obtain rfl:os'=s.os:=os;exact⟨v,H',I.call (h':=hh) (g':=g) (d':=d) (t':=t) un hok bare (fun b z=>absurd z (by simp)),r,q⟩
end
def tCall(sp:Sp)(dvs:List V)(E:XK)(t:TA):TE:=fun σ H Q=>t σ H fun vs H1=>sp (vs++dvs) H1 Q E
def tMeth(C:Addr)(m:Str)(sp:Sp)(dvs:List V)(E:XK)(ta:TE)(t:TA):TE:=fun σ H Q=>ta σ H fun x H1=>∃a dx fs,x=.ref a/\H1 a=some (.ins C dx fs)/\fs.lookup m=none /\
 t σ H1 fun vs H2=>sp (x::(vs++dvs)) H2 Q E
def tMake(C:Addr)(sp:Sp)(dvs:List V)(E:XK)(t:TA):TE:=fun σ H Q=>t σ H fun vs H1=>∀x dx,H1 x=none->H1 dx=none->dx≠x ->
 sp (.ref x::(vs++dvs)) (upd (upd H1 dx (.own x)) x (.ins C dx [])) (fun v H2=>v=.non/\Q (.ref x) H2) E
def Binds(K:Af)(fd:Jq)(ps:List Str)(ds:List Value):Prop :=
 ∀(s:Ad) (us:List Value),K.In s.heap->(us++ds).length=ps.length->Nl s fd ⟨us,[]⟩ (ps.zip (us++ds))
theorem Binds.all{K:Af}(h:∀us:List Value,us.length=ps.length->bindArgs fd ⟨us,[]⟩=pure (ps.zip us)):Binds K fd ps []:=fun s us _ hl=>by
 rw[Cq] at hl ⊢;exact .of_eq (h us hl)
def Passes(CX:CXT)(X:Cx)(E:XK):Prop:=∀(pins:List (Addr×Obj)) (σ:St) (H:Hp) (s:Ad) (e:Value) (s':Ad),Inv X pins σ H s->CX X.stack H s E e s'->X.xe e s'
section
variable{X:Cx}{CX:CXT}{k:Nat}{f C:Addr}{fd:Jq}{ps:List Str}{sp:Sp}{dvs:List V}{ds:List Value}{E:XK}{x m:Str}{p pos apos:Pos}{e o:Expr}{es:List Expr}{ta:TE}{t:TA}
theorem z2w{σ:St}(F:FnOk X.prog X.w X.K X.mg X.base CX k f fd ps sp)(hr:Room k X.A)(hb:Binds X.K fd ps ds)(hd:Vals dvs ds)(hx:Passes CX X E)(I:Inv X pins σ H s)(r:Vals vs us)(h:sp (vs++dvs) H Q E):wpAny (model X.prog X.w) X.A (call (.ref f) us) (EP X pins σ Q) X.xe s:=by
 have r2:=r.append hd;have hl:(us++ds).length=ps.length:=by rw[<- r2.length];exact F.len _ _ _ _ h
 refine Oh (Gx (F.run X.A X.stack s H ⟨us,[]⟩ (us++ds) (vs++dvs) Q E hr I.env0 (hb s us I.kIn hl) r2 h) fun r s' hq=>?_);cases r with
 |error e=>exact hx pins σ H s e s' I hq
 |ok fl =>
  cases fl with
  |ret u=>exact I.after hq
  |next=>exact False.elim hq
  |brk=>exact False.elim hq
  |cont=>exact False.elim hq
theorem z8k(F:FnOk X.prog X.w X.K X.mg X.base CX k f fd ps sp)(hr:Room k X.A)(hg:Gl X x)(hm:X.mg x=some (.ref f))(hk:Gm X.K (.ref f)=true)(hb:Binds X.K fd ps ds)(hd:Vals dvs ds)(hx:Passes CX X E)(ha:PA X (e::es) t)(hdb:(x==("__debug__" : Str))=false:=by decide)(he:Bc (e::es) X.env=(false,eval e X.env)::Bc es X.env:=by rfl)(hpl:(Du pos (Bc es X.env)).any (·.1)=false:=by rfl):
  PE X (.Call (.Name x p) (e::es) [] pos) (tCall sp dvs E t):=by
 intro pins s σ H Q I h;refine Ik (q9b I hg hm ?_ hdb);refine Pp I.ok.mod.kin hk (thn (ha pos pins s σ H _ I h) fun us s1 ⟨vs,H1,I1,r,q⟩=>⟨I1.kIn,?_⟩) he hpl;exact z2w F hr hb hd hx I1 r q
theorem z8l{pl:Sem Bool}(he:PE X o ta)(c:Cls X.K C)(hm:Meth X.K C m f)(F:FnOk X.prog X.w X.K X.mg X.base CX k f fd ps sp)(hr:Room k X.A)(hb:Binds X.K fd ps ds)(hd:Vals dvs ds)(hx:Passes CX X E)(ha:PA X (e::es) t)(hst:Bc (e::es) X.env=(false,eval e X.env)::Bc es X.env:=by rfl)(hpl:(Du pos (Bc es X.env)).any (·.1)=false:=by rfl)(ht:eval (.Call (.Attribute o m apos) (e::es) [] pos) X.env=(do
   let ov<-eval o X.env
   Lu apos.atName
   let (f,first)<-Ja [ov] (Kx ov m pl)
   Qy pos f first (Du pos (Bc (e::es) X.env)) (Jr pos (Gn [] X.env))):=by rfl):
  PE X (.Call (.Attribute o m apos) (e::es) [] pos) (tMeth C m sp dvs E ta t):=by
 intro pins s σ H Q I h;refine Ro (thn (he pins s σ H _ I h) fun u s1 ⟨x,H1,I1,rx,a,dx,fs,ex,ea,l,q⟩=>?_) ht;subst ex;obtain rfl:u=Value.ref a:=rx;refine q5y I1 ea c hm l ?_;refine Pp I.ok.mod.kin hm.kp (thn (ha pos pins s1 σ H1 _ I1 q) fun us s2 ⟨vs,H2,I2,r,q2⟩=>⟨I2.kIn,?_⟩) hst hpl;exact z2w (vs:=.ref a::vs) F hr hb hd hx I2 (.cons rfl r) q2
theorem z5q(he:PE X o ta)(c:Cls X.K C)(hm:Meth X.K C m f)(F:FnOk X.prog X.w X.K X.mg X.base CX k f fd ps sp)(hr:Room k X.A)(hb:Binds X.K fd ps ds)(hd:Vals dvs ds)(hx:Passes CX X E)(ht:eval (.Call (.Attribute o m apos) [] [] pos) X.env=(do
   let ov<-eval o X.env
   Lu apos.atName
   let (f,first)<-Ja [ov] (Kx ov m pl)
   Qy pos f first (Du pos (Bc [] X.env)) (Jr pos (Gn [] X.env))):=by rfl):
  PE X (.Call (.Attribute o m apos) [] [] pos) (tMeth C m sp dvs E ta tNil):=by
 intro pins s σ H Q I h;refine Ro (thn (he pins s σ H _ I h) fun u s1 ⟨x,H1,I1,rx,a,dx,fs,ex,ea,l,q⟩=>?_) ht;subst ex;obtain rfl:u=Value.ref a:=rx;refine q5y I1 ea c hm l ?_;exact W.callWith_K0 I1.kIn hm.kp (z2w (vs:=[.ref a]) F hr hb hd hx I1 (.cons rfl .nil) q)
structure Mk (K:Af) (C f:Addr):Prop where
 makes:Si K C=true
 init:Dk K (.ref C) "__init__" = some (some (.ref f))
 fn:Rn K (.ref f)=true
 kp:Gm K (.ref C)=true
theorem z5r{σ:St}(M:Mk X.K C f)(F:FnOk X.prog X.w X.K X.mg X.base CX k f fd ps sp)(hr:Room (k+1) X.A)(hb:Binds X.K fd ps ds)(hd:Vals dvs ds)(hx:Passes CX X E)(I:Inv X pins σ H s)(r:Vals vs us)(h:∀x dx,H x=none->H dx=none->dx≠x->sp (.ref x::(vs++dvs)) (upd (upd H dx (.own x)) x (.ins C dx [])) (fun v H2=>v=.non/\Q (.ref x) H2) E):
  wpAny (model X.prog X.w) X.A (call (.ref C) us) (EP X pins σ Q) X.xe s:=by
 have hq:=h (s.heap.objs.size+1) s.heap.objs.size (I.hok.fresh (Fs _)) (I.hok.fresh (Ai _)) (Au (Ea _));have I2:=Inv.made (C:=C) I;have r2:Vals (V.ref (s.heap.objs.size+1)::(vs++dvs)) (Value.ref (s.heap.objs.size+1)::(us++ds)):=.cons rfl (r.append hd);have hl:(Value.ref (s.heap.objs.size+1)::us++ds).length=ps.length:=by
  have e:=r2.length;rw[F.len _ _ _ _ hq] at e;exact e.symm
 refine Oh (z5p I.kIn M.makes M.init (beq_iff_eq.mp M.fn) (Gx (F.run _ X.stack _ _ ⟨Value.ref (s.heap.objs.size+1)::us,[]⟩ (Value.ref (s.heap.objs.size+1)::(us++ds)) _ _ E (hr.make C us [])
  (I2.env0.make C us []) (hb _ (Value.ref (s.heap.objs.size+1)::us) I2.kIn hl) r2 hq) fun r s' hq'=>?_))
 cases r with
 |error e=>exact hx pins σ _ _ e s' I2 hq'
 |ok fl =>
  cases fl with
  |ret u =>
   obtain⟨v,H',I3,rv,ev,q3⟩:=I2.after hq';subst ev;exact⟨rv,⟨V.ref (s.heap.objs.size+1),H',I3,rfl,q3⟩⟩
  |next=>exact False.elim hq'
  |brk=>exact False.elim hq'
  |cont=>exact False.elim hq'
theorem z8m(M:Mk X.K C f)(F:FnOk X.prog X.w X.K X.mg X.base CX k f fd ps sp)(hr:Room (k+1) X.A)(hg:Gl X x)(hm:X.mg x=some (.ref C))(hb:Binds X.K fd ps ds)(hd:Vals dvs ds)(hx:Passes CX X E)(ha:PA X (e::es) t)(hdb:(x==("__debug__" : Str))=false:=by decide)(he:Bc (e::es) X.env=(false,eval e X.env)::Bc es X.env:=by rfl)(hpl:(Du pos (Bc es X.env)).any (·.1)=false:=by rfl):
  PE X (.Call (.Name x p) (e::es) [] pos) (tMake C sp dvs E t):=by
 intro pins s σ H Q I h;refine Ik (q9b I hg hm ?_ hdb);refine Pp I.ok.mod.kin M.kp (thn (ha pos pins s σ H _ I h) fun us s1 ⟨vs,H1,I1,r,q⟩=>⟨I1.kIn,?_⟩) he hpl;exact z5r M F hr hb hd hx I1 r q
end
structure FnScope (N P:List Str) (sc:Scope):Prop where
 kind:sc.kind=.function
 co:sc.isCoroutine=false
 gen:sc.isGenerator=false
 nd:N.Nodup
 pre:N.take P.length=P
 par:∀x∈P,sc.names.lookup x=some .local\/sc.names.lookup x=some .cell
 nofree:∀y∈sc.names,y.2≠.free
theorem q7l{kindOf:Str->Option Ax}:∀{binds:List (Str×Value)} {m:Str->Option Value},(∀v,(x,v)∉binds)->bindL kindOf binds m x=m x
 |[],_,_=>rfl
 |(n,v)::r,m,h=>by
  unfold bindL;rw[q7l fun w hw=>h w (Ah _ hw)];split
  ·have:x≠n:=by rintro rfl;exact h v Ap
   simp[this]
  ·rfl
theorem q7m{kindOf:Str->Option Ax}:∀{binds:List (Str×Value)} {m:Str->Option Value},(∀v,(x,v)∉binds)->bindC kindOf binds m x=m x
 |[],_,_=>rfl
 |(n,v)::r,m,h=>by
  unfold bindC;rw[q7m fun w hw=>h w (Ah _ hw)];split
  ·rfl
  ·have:x≠n:=by rintro rfl;exact h v Ap
   simp[this]
theorem q7n{kindOf:Str->Option Ax}{x:Str}{v:Value}:∀{P:List Str} {vs:List Value} {i:Nat} {m:Str->Option Value},P.Nodup->P[i]?=some x->vs[i]?=some v->kindOf x=some .local ->
  bindL kindOf (P.zip vs) m x=some v
 |[],_,_,_,_,h,_,_=>by simp at h
 |_::_,[],_,_,_,_,h,_=>by simp at h
 |p::P,w::vs,0,m,nd,h1,h2,hk=>by
  simp at h1 h2;subst h1;subst h2;show bindL kindOf ((p,w)::P.zip vs) m p=_;unfold bindL;rw[q7l fun v hv=>(Cf.mp nd).1 (Mp hv).1,if_pos hk];simp
 |p::P,w::vs,i+1,m,nd,h1,h2,hk=>by
  show bindL kindOf ((p,w)::P.zip vs) m x=_;unfold bindL;exact q7n (i:=i) (Cf.mp nd).2 (by simpa using h1) (by simpa using h2) hk
theorem q7o{kindOf:Str->Option Ax}{x:Str}{v:Value}:∀{P:List Str} {vs:List Value} {i:Nat} {m:Str->Option Value},P.Nodup->P[i]?=some x->vs[i]?=some v->kindOf x≠some .local ->
  bindC kindOf (P.zip vs) m x=some v
 |[],_,_,_,_,h,_,_=>by simp at h
 |_::_,[],_,_,_,_,h,_=>by simp at h
 |p::P,w::vs,0,m,nd,h1,h2,hk=>by
  simp at h1 h2;subst h1;subst h2;show bindC kindOf ((p,w)::P.zip vs) m p=_;unfold bindC;rw[q7m fun v hv=>(Cf.mp nd).1 (Mp hv).1,if_neg hk];simp
 |p::P,w::vs,i+1,m,nd,h1,h2,hk=>by
  show bindC kindOf ((p,w)::P.zip vs) m x=_;unfold bindC;exact q7o (i:=i) (Cf.mp nd).2 (by simpa using h1) (by simpa using h2) hk
def start(N:List Str)(vs:List V):St:=vs.map some++List.replicate (N.length-vs.length) none
def cxOf(CX:CXT)(P:Program)(w:World)(K:Af)(mg:Str->Option Value)(base:Heap)(N:List Str)(qual:Str)(scope:Scope)(f:Addr)(cd:Value)(A:Around)(outer:List Env)(s:Ad)(H:Hp)(E:XK):Cx where
 prog:=P
 w:=w
 K:=K
 mg:=mg
 base:=base
 A:=A.deeper (Il qual scope s.heap.objs.size f cd)
 N:=N
 s₀:=s
 H₀:=H
 env:=Il qual scope s.heap.objs.size f cd
 outer:=outer
 stack:=Il qual scope s.heap.objs.size f cd::outer
 ex:=[]
 calm:=true
 fn:=fun _=>true
 pn:=[]
 xe:=fun e s'=>wpAny (model P w) (A.deeper (Il qual scope s.heap.objs.size f cd)) (leaving (Il qual scope s.heap.objs.size f cd) e) (fun _ s''=>CX outer H s E e s'') (fun e' s''=>CX outer H s E e' s'') s'
theorem z0d{sc:Scope}(h:sc.names.lookup x=some .cell):∃c,(cellsFrom n sc.names []).lookup x=some c:=by
 have q:=Qz sc.names n [] (.inl h);exact Ma.mp q
theorem z2x{K:Af}(S:FnScope N ps scope)(hd:A.handled=none)(e0:Env0 P w K mg base A outer s H)(hl:vs.length=ps.length)(r:Vals vs us)(x:InCallC s s.heap.objs.size (bindL (Il qual scope s.heap.objs.size f cd).kindOf (ps.zip us) fun _=>none) (cellsFrom (s.heap.objs.size+1) scope.names []) (bindC (Il qual scope s.heap.objs.size f cd).kindOf (ps.zip us) fun _=>none) s1):
  Inv (cxOf CX P w K mg base N qual scope f cd A outer s H E) [] (start N vs) H s1:=by
 have hpl:ps.length<=N.length:=by have:=congrArg List.length S.pre;rw[Cj] at this;lia
 obtain⟨h1,tk,rfl,hk⟩:=x.done;have noA:∀b:Addr,b∉(cxOf CX P w K mg base N qual scope f cd A outer s H E).ex:=fun b z=>absurd (show b∈([]:List Addr) from z) (by simp)
 refine⟨⟨e0.mod,S.kind,rfl,rfl,Ai _,fun y z c h1 h2=>?_,fun y hy=>?_,fun y c _ h=>?_,fun _=>hd,Around.frames_deeper e0.frames,.inr ⟨rfl,rfl⟩,fun b z=>absurd z (noA b),e0.bs,e0.bsz,fun b _ _=>noA b,fun b z=>absurd z (noA b),e0.funs,e0.frf⟩,
  rfl,e0.bare,Un.kept hk,⟨_,x.toInCall.ns,fun i y v h1 h2 h3=>?_⟩,fun y c h=>⟨_,x.cell y c h⟩,e0.hok.fresh (Ai _),fun y c h=>?_,fun p hp=>absurd (show p∈([]:List (Addr×Obj)) from hp) (by simp),e0.hok.kept hk,?_⟩
 ·exact name_of_addr x.apart (Dq h1) (Dq h2)
 ·have hy:scope.names.lookup y=some .cell\/scope.names.lookup y=some .free:=hy;rcases hy with hy|hy
  ·exact z0d hy
  ·exact absurd rfl (S.nofree _ (Dq hy))
 ·exact Ft (x.above y c (Dq h))
 ·have hi:i<vs.length:=by
   unfold start at h2;by_cases hi:i<vs.length
   ·exact hi
   ·rw[Fg (by simpa using hi)] at h2;rw[List.getElem?_replicate] at h2;split at h2<;>cases h2
  have ha:vs[i]?=some v:=by
   unfold start at h2;rw[Ie (by simpa using hi),Ao] at h2;cases e:vs[i]? with
   |none=>simp_all
   |some a=>grind
  obtain⟨u,hu,rv⟩:=r.get ha;have hp:ps[i]?=some y:=by
   rw[<- S.pre,List.getElem?_take_of_lt (by lia)];exact h1
  have ndP:ps.Nodup:=by rw[<- S.pre];exact S.nd.sublist (List.take_sublist _ _)
  refine⟨u,rv,?_⟩;rcases S.par y (Ay hp) with k|k
  ·exact .inl ⟨k,q7n ndP hp hu k⟩
  ·obtain⟨c,e⟩:=z0d k;refine .inr ⟨.inl k,c,e,?_⟩;have q:=x.cell y c e;rw[q7o ndP hp hu (by show scope.names.lookup y≠_;rw[k];decide)] at q;exact q
 ·exact e0.hok.fresh (Ft (x.above y c (Dq h)))
 ·unfold start;show _=N.length;rw[An,Ac,Nm];lia
theorem fn_of{K:Af}{kV:Value}(lk:K.lookup f=some ⟨oc,od,.func (Gy name qual params body scope dV kV doc pm an cdv ct),osl⟩)(hcd:Js K cdv qual=true)(S:FnScope N ps scope)(len:∀vs H Q E,sp vs H Q E->vs.length=ps.length)(hbody:∀(A:Around) (outer:List Env) (s:Ad) (H:Hp) (vs:List V) (Q:VK) (E:XK),Room k (A.deeper (Il qual scope s.heap.objs.size f cdv))->sp vs H Q E ->
   ∃t,PSs (cxOf CX P w K mg base N qual scope f cdv A outer s H E) body t/\t { nx:=fun _ H'=>Q .non H',rt:=Q } (start N vs) H):
  FnOk P w K mg base CX (k+1) f (Gy name qual params body scope dV kV doc pm an cdv ct) ps sp:=by
 refine⟨len,fun A outer s H args us vs Q E hr e0 hb r hsp=>?_⟩;have hl:=len _ _ _ _ hsp;have KX:=e0.mod.kin.keeps fun b o e=>(e0.bs b o e).1;have lim:=e0.mod.nolimit.keeps fun b o e=>(e0.bs b o e).1;have hkind:∀y∈ps.zip us,scope.names.lookup y.1=some .local\/(scope.names.lookup y.1=some .cell/\((cellsFrom (s.heap.objs.size+1) scope.names []).lookup y.1).isSome=true):=fun⟨n,v⟩ hy=>by
  rcases S.par n (Mp hy).1 with q|q
  ·exact .inl q
  ·exact .inr ⟨q,Qz _ _ _ (.inl q)⟩
 refine codeAny_call_function hr.depth (KX _ _ lk) rfl S.co S.gen rfl (W.codeRec_of KX hcd) (hb _ _ _ _ ?_);refine wpAny_newFunctionEnv_cells S.kind hkind fun env he s1 x=>?_;subst he;refine⟨lim.keeps x.toInCall.keep,codeAny_func ?_⟩;obtain⟨t,ht,hq⟩:=hbody A outer s H vs Q E (hr.deeper _) hsp;have I:Inv (cxOf CX P w K mg base N qual scope f cdv A outer s H E) [] (start N vs) H s1:=z2x S hr.hd e0 hl r x;refine Bw (ht [] s1 (start N vs) H _ I hq) (fun fl s' hs=>?_) fun e s' hs=>hs;have fin:∀{σ':St} {H':Hp} {v:V} {u:Value},Inv (cxOf CX P w K mg base N qual scope f cdv A outer s H E) [] σ' H' s'->RelV v u->Q v H'->CE outer P w H s Q u s' :=
  fun{σ' H' v u} J rv q=>⟨v,H',J.os,J.bare,J.base,J.hok,rv,q⟩
 cases fl with
 |ret u =>
  obtain⟨v,σ',H',J,rv,q⟩:=hs;exact fin J rv q
 |next =>
  obtain⟨σ',H',J,q⟩:=hs;exact fin (v:=V.non) J rfl q
 |brk =>
  obtain⟨_,_,_,q⟩:=hs;exact False.elim q
 |cont =>
  obtain⟨_,_,_,q⟩:=hs;exact False.elim q
open PySem PySem.Spec PyProof.Rows
section
variable{X:Cx}{x:Str}{p pos:Pos}{e:Expr}{es:List Expr}{t:TA}{id T:String}{r:List V->Hp->VK->Prop}
def tCB(r:List V->Hp->VK->Prop)(t:TA):TE:=fun σ H Q=>t σ H fun vs H1=>r vs H1 Q
theorem q0i(hc:CallR X (.builtin id) r)(hg:Gl X x)(hm:X.mg x=none)(hv:Gv x=some (.builtin id))(ha:PA X (e::es) t)(hn:x ≠ "__name__" := by decide)(hdb:(x==("__debug__" : Str))=false:=by decide)(he:Bc (e::es) X.env=(false,eval e X.env)::Bc es X.env:=by rfl)(hpl:(Du pos (Bc es X.env)).any (·.1)=false:=by rfl):PE X (.Call (.Name x p) (e::es) [] pos) (tCB r t):=by
 intro pins s σ H Q I h;refine Ik (q7i I hg hm hv ?_ hn hdb);exact PyProof.Rows.callWith_builtin1 (thn (ha pos pins s σ H _ I h) fun us s1 ⟨vs,H1,I1,r1,q1⟩=>hc pins s1 σ H1 vs us Q I1 r1 q1) he hpl
theorem q2k(hc:CallR X (.type T) r)(hg:Gl X x)(hm:X.mg x=none)(hv:Gv x=some (.type T))(ha:PA X (e::es) t)(hn:x ≠ "__name__" := by decide)(hdb:(x==("__debug__" : Str))=false:=by decide)(he:Bc (e::es) X.env=(false,eval e X.env)::Bc es X.env:=by rfl)(hpl:(Du pos (Bc es X.env)).any (·.1)=false:=by rfl):PE X (.Call (.Name x p) (e::es) [] pos) (tCB r t):=by
 intro pins s σ H Q I h;refine Ik (q7i I hg hm hv ?_ hn hdb);exact Hg (thn (ha pos pins s σ H _ I h) fun us s1 ⟨vs,H1,I1,r1,q1⟩=>hc pins s1 σ H1 vs us Q I1 r1 q1) he hpl
end
end L2
namespace HT
open PySem PyProof.Rows
section
variable{prog:Program}{w:World}{A:Around}{E:Value->Ad->Prop}{s:Ad}
theorem cat_tup(ht:IsTup s.heap t vs.toArray)(hb:IsTup s.heap b ws.toArray)(hv:vs≠[])(h1:ws=[]->Q (.ref t) s)(h2:ws≠[]->Q (.ref s.heap.objs.size) { s with heap:=s.heap.push { cls:=.type "tuple",data:=.seq (vs++ws).toArray } })(hsz:vs.length+ws.length<=sizeLine):wpAny (model prog w) A (Ep .Add (.ref t) (.ref b)) Q E s:=by
 obtain⟨⟨cls,dd,data,sl⟩,ho,hc,n,hd⟩:=id ht;obtain⟨⟨cls2,dd2,data2,sl2⟩,ho2,hc2,n2,hd2⟩:=id hb;subst hc hd hc2 hd2;have e:vs.toArray++ws.toArray=(vs++ws).toArray:=by simp
 by_cases hw:ws=[]
 ·exact Pq ⟨_,ho,rfl⟩ ⟨_,ho2,rfl⟩ Mb Pa Jl Jc (Im _ _)
   (tuple_addW1 t b vs.toArray ws.toArray n n2 dd dd2 sl sl2 (by simpa using hv) (by simp[hw])) ⟨ho,ho2,h1 hw⟩
 ·refine Pq ⟨_,ho,rfl⟩ ⟨_,ho2,rfl⟩ Mb Pa Jl Jc (Im _ _)
   (tuple_addW2 t b vs.toArray ws.toArray n n2 dd dd2 sl sl2 (by simpa using hv) (by simpa using hw) (by rw[As,As];exact hsz)) ⟨ho,ho2,?_⟩
  rw[e];exact h2 hw
def sIx(n d:Nat):Option Int->Nat
 |none=>d
 |some v=>if v<0 then(v+(n:Int)).toNat else min v.toNat n
theorem z2y(v:Int)(n d:Nat):(if v<0 then max (v+(n:Int)) 0 else min v (n:Int))=((sIx n d (some v):Nat):Int):=by
 show(if v<0 then max (v+(n:Int)) 0 else min v (n:Int))=(((if v<0 then(v+(n:Int)).toNat else min v.toNat n):Nat):Int)
 by_cases hv:v<0
 ·grind
 ·grind
theorem z1k(lo hi:Option Int)(n:Nat):Lo lo hi 1 (n:Int)=(((sIx n 0 lo:Nat):Int),((sIx n n hi:Nat):Int)):=by
 refine Prod.ext ?_ ?_
 ·cases lo with
  |none=>rfl
  |some v=>exact z2y v n 0
 ·cases hi with
  |none=>rfl
  |some v=>exact z2y v n n
theorem z1l(i j:Nat):Fm (i:Int) (j:Int) 1=j-i:=by
 unfold Fm;have h1:(1:Int)>0:=by lia
 simp only[h1,if_true,Int.ediv_one];split<;>lia
theorem q5z(p:Jm v o)(h:Q o s):wpAny (model prog w) A (Bx.Slice.slicePartIndex v) Q E s:=by
 cases p with
 |none=>exact slicePart_none h
 |int i t=>exact slicePart_int h
theorem q2j{lo:Option Int}{n:Nat}(hs:s.heap.IsSliceOf sl vl vu .none)(pl:Jm vl lo)(pu:Jm vu hi)(h:Q (((sIx n 0 lo:Nat):Int),1,sIx n n hi-sIx n 0 lo) s):wpAny (model prog w) A (Bx.Slice.sliceApplied (.ref sl) (pure (n:Int))) Q E s:=by
 obtain⟨os,hos,hcs,hds⟩:=id hs;refine Aa (Aa (Cu hos hds rfl (Aa (Cu hos hds rfl (Aa (Cu hos hds rfl (Ab ?_)))))));refine Aa (slicePart_none ?_);refine Aa (q5z pl (Aa (q5z pu (Aa (Ab ?_)))));show wpAny _ _ (match Lo lo hi 1 (n:Int) with|(lo,hi)=>pure (lo,(1:Int),Fm lo hi 1)) _ _ s;rw[z1k lo hi n];show wpAny _ _ (pure (((sIx n 0 lo:Nat):Int),(1:Int),Fm ((sIx n 0 lo:Nat):Int) ((sIx n n hi:Nat):Int) 1)) _ _ s;rw[z1l];exact Ab h
theorem z5s(xs:Array Value)(i k:Nat):((List.range k).filterMap fun(m:Nat)=>xs[((i:Int)+(m:Int)*1).toNat]?).toArray=((xs.toList.drop i).take k).toArray:=by
 have e:(fun(m:Nat)=>xs[((i:Int)+(m:Int)*1).toNat]?)=fun m=>xs[i+m]?:=by grind
 rw[e];have:=pick_run xs i k;rw[Pr] at this;have e2:((fun x=>xs[x]?)∘fun x=>i+x)=fun m=>xs[i+m]?:=rfl;rw[e2] at this;rw[this]
theorem getItem_tuple_cut{lo:Option Int}(ht:IsTup s.heap t items)(hs:s.heap.IsSliceOf sl vl vu .none)(pl:Jm vl lo)(pu:Jm vu hi)(hw:¬(sIx items.size 0 lo=0/\sIx items.size items.size hi=items.size))(h:Q (.ref s.heap.objs.size) { s with heap:=s.heap.push { cls:=.type "tuple",data:=.seq ((items.toList.drop (sIx items.size 0 lo)).take (sIx items.size items.size hi-sIx items.size 0 lo)).toArray } })(hsz:items.size<=sizeLine):wpAny (model prog w) A (getItem (.ref t) (.ref sl)) Q E s:=by
 have htake:sizeOk (.seq ((items.toList.drop (sIx items.size 0 lo)).take (sIx items.size items.size hi-sIx items.size 0 lo)).toArray):=by
  show((items.toList.drop (sIx items.size 0 lo)).take (sIx items.size items.size hi-sIx items.size 0 lo)).toArray.size<=sizeLine;rw[As,Cj,Hm,Ca];lia
 obtain⟨os,hos,hcs,hds⟩:=id hs;have hTs:s.TypeIs (.ref sl) "slice" := ⟨os,hos,hcs⟩
 unfold getItem;try with_reducible refine Br ?_
 refine Aa (Qj ht.typeIs (by decide) ?_);refine Aa (Bn ht.typeIs Cc
  (Bj Cc ht.typeIs entry_tuple_getitem ?_ (Pu _ _)))
 show wpAny _ _ (Lc (.ref t) >>= _) _ _ s;refine Aa (tupleItemsOf_ ht ?_);refine Aa (Eu hTs ?_);refine Aa (q2j hs pl pu ?_);have hno:¬((((sIx items.size 0 lo:Nat):Int)==0&&(1:Int)==1&&(sIx items.size items.size hi-sIx items.size 0 lo)==items.size)=true):=by grind
 show wpAny _ _ (if (((sIx items.size 0 lo:Nat):Int)==0&&(1:Int)==1&&(sIx items.size items.size hi-sIx items.size 0 lo)==items.size)=true then _ else _) _ _ s;rw[if_neg hno,z5s];first
  |exact Aa (Bi (Ab ⟨_,rfl,Ab h⟩) htake)
  |exact Aa (Bi (Aa (Ab (Ab ⟨_,rfl,Ab h⟩))) htake)
  |exact Aa (Aa (Bi (Ab (Ab ⟨_,rfl,Ab h⟩)) htake))
  |exact Aa (Aa (Bi (Ab ⟨_,rfl,Ab h⟩) htake))
end
end HT
namespace L2
open PySem PySem.Spec PyProof.Rows
abbrev TO:=St->Hp->(Option Int->Hp->Prop)->Prop
def PO(X:Cx)(e:Option Expr)(t:TO):Prop :=
 ∀(pins:List (Addr×Obj)) (s:Ad) (σ:St) (H:Hp) (Q:Option Int->Hp->Prop),Inv X pins σ H s->t σ H Q ->
  wpAny (model X.prog X.w) X.A (evalPart e X.env) (fun u s'=>∃o H',Inv X pins σ H' s'/\Jm u o/\Q o H') X.xe s
def tNoPart:TO:=fun _ H Q=>Q none H
def tPart(t:TE):TO:=fun σ H Q=>t σ H fun x H1=>∃i,x=.int i/\Q (some i) H1
theorem z1m:∀{us:List Value},Vals (ns.map V.int) us->Lv us ns:=by
 induction ns with
 |nil=>intro us r;cases r;exact .nil
 |cons n ns ih =>
  intro us r;cases r with
  |cons r1 r2 =>
   obtain⟨t,e⟩:=r1;subst e;exact .cons n t (ih r2)
section
variable{X:Cx}{e:Expr}{te:TE}{lo hi:Option Expr}{tl th:TO}{pos p2:Pos}
theorem q0s:PO X none tNoPart:=by
 intro pins s σ H Q I h;exact Ab ⟨none,H,I,.none,h⟩
theorem q0t(h:PE X e te):PO X (some e) (tPart te):=by
 intro pins s σ H Q I hw;refine thn (h pins s σ H _ I hw) fun u s1 ⟨x,H1,I1,r1,q1⟩=>?_;obtain⟨i,rfl,q⟩:=q1;obtain⟨t,rfl⟩:=r1;exact⟨some i,H1,I1,.int i t,q⟩
def SlR(X:Cx)(r:V->Option Int->Option Int->Hp->VK->Prop):Prop :=
 ∀(pins:List (Addr×Obj)) (s:Ad) (σ:St) (H:Hp) (x:V) (v vl vu:Value) (lo hi:Option Int) (sl:Addr) (Q:VK),Inv X pins σ H s->RelV x v->s.heap.IsSliceOf sl vl vu .none->Jm vl lo->Jm vu hi->r x lo hi H Q ->
  ∃T id,Rp (.type T) "__getitem__" = pure (some (.builtin id))/\s.TypeIs v T/\wpAny (model X.prog X.w) X.A (getItem v (.ref sl)) (EP X pins σ Q) X.xe s
theorem SlR.or(h:SlR X r)(h':SlR X r'):SlR X (fun x lo hi H Q=>r x lo hi H Q\/r' x lo hi H Q):=by
 intro pins s σ H x v vl vu lo hi sl Q I rx hs pl pu q;rcases q with q|q
 ·exact h pins s σ H x v vl vu lo hi sl Q I rx hs pl pu q
 ·exact h' pins s σ H x v vl vu lo hi sl Q I rx hs pl pu q
def tSl(r:V->Option Int->Option Int->Hp->VK->Prop)(te:TE)(tl th:TO):TE:=fun σ H Q=>te σ H fun x H1=>tl σ H1 fun l H2=>th σ H2 fun u H3=>r x l u H3 Q
theorem q0n{r:V->Option Int->Option Int->Hp->VK->Prop}(hr:SlR X r)(he:PE X e te)(hl:PO X lo tl)(hu:PO X hi th):PE X (.Subscript e (.Slice lo hi none p2) pos) (tSl r te tl th):=by
 intro pins s σ H Q I h;refine Rq (thn (he pins s σ H _ I h) fun v s1 ⟨x,H1,I1,r1,q1⟩=>?_);refine wpAny_Slice (thn (hl pins s1 σ H1 _ I1 q1) fun vl s2 ⟨l,H2,I2,pl,q2⟩=>thn (hu pins s2 σ H2 _ I2 q2) fun vu s3 ⟨u,H3,I3,pu,q3⟩=>?_);refine Ab ?_;have I4:Inv X pins σ H3 { s3 with heap:=s3.heap.push { cls:=.type "slice",data:=.fields #[vl,vu,.none] } }:=I3.kept (t':=s3.toks) fun b ob q=>Ae _ q;obtain⟨T,id,hT,ht,hg⟩:=hr pins { s3 with heap:=s3.heap.push { cls:=.type "slice",data:=.fields #[vl,vu,.none] } } σ H3 x v vl vu l u s3.heap.objs.size Q I4 r1 (Heap.IsSliceOf.new ..) pl pu q3;exact tail_any ht hT hg (by with_unfolding_all rfl)
def cutV(xs:List V)(lo hi:Option Int):List V:=(xs.drop (HT.sIx xs.length 0 lo)).take (HT.sIx xs.length xs.length hi-HT.sIx xs.length 0 lo)
theorem q5a(xs:List V)(lo hi:Option Int):(cutV xs lo hi).length<=xs.length:=by
 unfold cutV;rw[Cj,Hm];lia
def rSlT(K:Af):V->Option Int->Option Int->Hp->VK->Prop:=fun x lo hi H Q=>∃a xs,x=.ref a/\SqT K H a xs /\
 ¬(HT.sIx xs.length 0 lo=0/\HT.sIx xs.length xs.length hi=xs.length)/\∀p,H p=none->Q (.ref p) (upd H p (.tup (cutV xs lo hi)))
theorem z7q:SlR X (rSlT X.K):=by
 intro pins s σ H x v vl vu lo hi sl Q I rx hs pl pu h;obtain⟨a,xs,rfl,hx,hw,q⟩:=h;cases rx;obtain⟨its,r,ht,hz⟩:=I.tuple hx;have hlen:its.toArray.size=xs.length:=by rw[As];exact r.length.symm
 refine⟨"tuple",_,Cc.lookup,ht.typeIs,?_⟩;refine HT.getItem_tuple_cut ht hs pl pu (by rw[hlen];exact hw) ?_ (by rw[hlen];exact hz);rw[hlen];refine⟨.ref s.heap.objs.size,_,I.laid (t':=s.toks) (fun b ob q=>Ae _ q) (Ai _) ?_,rfl,q _ (I.hok.fresh (Ai _))⟩;exact⟨By (q5a xs lo hi) hz,_,(r.drop (HT.sIx xs.length 0 lo)).take (HT.sIx xs.length xs.length hi-HT.sIx xs.length 0 lo),IsTup.new _ _⟩
theorem Vals.nil_iff(r:Vals xs us):us=[]↔xs=[]:=by
 cases r with
 |nil=>simp
 |cons _ _=>simp
end
open PySem PySem.Spec PyProof.Rows
def ixN(n:Nat)(i:Int):Option Nat:=if 0<=i then(if i<n then some i.toNat else none) else if -(n:Int)<=i then some (i+n).toNat else none
def atI{α:Type}(xs:List α)(i:Int):Option α:=(ixN xs.length i).bind fun j=>xs[j]?
theorem z2z(h:ixN n i=some j):seqIndex? i n=some j/\j<n /\ -(n:Int)<=i/\i<n:=by
 unfold ixN at h;by_cases h0:0<=i
 ·rw[if_pos h0] at h;by_cases h1:i<n
  ·rw[if_pos h1] at h;have e:=Co h;exact⟨by rw[Qt h0 h1,e],by lia,by lia,h1⟩
  ·grind
 ·rw[if_neg h0] at h;by_cases h1 : -(n:Int)<=i
  ·rw[if_pos h1] at h;have e:=Co h;exact⟨by rw[seqIndex_neg (by lia) h1,e],by lia,h1,by lia⟩
  ·grind
theorem q6m{xs:List α}{v:α}(h:atI xs i=some v):∃j,seqIndex? i xs.length=some j/\xs[j]?=some v/\j<xs.length /\ -(xs.length:Int)<=i/\i<xs.length:=by
 unfold atI at h;cases e:ixN xs.length i with
 |none=>rw[e] at h;cases h
 |some j =>
  rw[e] at h;obtain⟨h1,h2,h3,h4⟩:=z2z e;exact⟨j,h1,h,h2,h3,h4⟩
theorem z8n{xs:List α}{j:Nat}{v:α}(h:xs[j]?=some v):atI xs (j:Int)=some v:=by
 have hj:=(Bp.mp h).1;have e:ixN xs.length (j:Int)=some j:=by
  unfold ixN;rw[if_pos (by lia),if_pos (by lia)];simp
 unfold atI;rw[e];exact h
theorem z5t(xs:List α)(v:α):atI (xs++[v]) (-1)=some v:=by
 have hl:(xs++[v]).length=xs.length+1:=by simp
 have e:ixN (xs++[v]).length (-1)=some xs.length:=by
  unfold ixN;rw[hl,if_neg (by decide),if_pos (by lia)];congr 1;lia
 unfold atI;rw[e];simp
def PlainIx(b:Expr):Prop:=∀o i,My b false o i=operate [o,i] (getItem o i)
def IxR(X:Cx)(r:R2):Prop :=
 ∀(value slice:Expr) (pins:List (Addr×Obj)) (s:Ad) (σ:St) (H:Hp) (x y:V) (v u:Value) (Q:VK),Inv X pins σ H s->RelV x v->RelV y u->r x y H Q ->
  My slice false v u=operate [v,u] (getItem v u)->wpAny (model X.prog X.w) X.A (subscriptTail value slice v u) (EP X pins σ Q) X.xe s
def MtR(X:Cx)(id:String)(r:V->List V->Hp->VK->Prop):Prop :=
 ∀(pins:List (Addr×Obj)) (s:Ad) (σ:St) (H:Hp) (x:V) (xs:List V) (v:Value) (us:List Value) (Q:VK),Inv X pins σ H s->RelV x v->Vals xs us->r x xs H Q ->
  wpAny (model X.prog X.w) X.A (call (.builtin id) (v::us)) (EP X pins σ Q) X.xe s
section
variable{X:Cx}{a b:Expr}{ta tb:TE}{pos:Pos}
theorem IxR.or(h:IxR X r)(h':IxR X r'):IxR X (fun x y H Q=>r x y H Q\/r' x y H Q):=by
 intro value slice pins s σ H x y v u Q I rx ry q hs;rcases q with q|q
 ·exact h value slice pins s σ H x y v u Q I rx ry q hs
 ·exact h' value slice pins s σ H x y v u Q I rx ry q hs
theorem MtR.or{id:String}(h:MtR X id r)(h':MtR X id r'):MtR X id (fun x xs H Q=>r x xs H Q\/r' x xs H Q):=by
 intro pins s σ H x xs v us Q I rx rs q;rcases q with q|q
 ·exact h pins s σ H x xs v us Q I rx rs q
 ·exact h' pins s σ H x xs v us Q I rx rs q
theorem q0z{r:R2}(hr:IxR X r)(ha:PE X a ta)(hb:PE X b tb)(hs:PlainIx b):PE X (.Subscript a b pos) (tOp r ta tb):=by
 intro pins s σ H Q I h;exact Rq (binT ha hb I h fun v u s2 x y H2 I2 rx ry q=>hr a b pins s2 σ H2 x y v u Q I2 rx ry q (hs _ _))
def rIxL(K:Af):R2:=fun x y H Q=>∃p xs i v,x=.ref p/\y=.int i/\SqL K H p xs/\atI xs i=some v/\Q v H
def rIxT(K:Af):R2:=fun x y H Q=>∃p xs i v,x=.ref p/\y=.int i/\SqT K H p xs/\atI xs i=some v/\Q v H
def rIxS:R2:=fun x y H Q=>∃z i c,x=.str z/\y=.int i/\z.length<=sizeLine/\atI z.cps.toList i=some c/\Q (.str ⟨#[c]⟩) H
theorem ix_list:IxR X (rIxL X.K):=by
 intro value slice pins s σ H x y v u Q I rx ry h hs;obtain⟨p,xs,i,z,rfl,rfl,hq,he,q⟩:=h;cases rx;obtain⟨t,rfl⟩:=ry;obtain⟨its,r,pl,hz⟩:=I.list hq;obtain⟨j,h1,h2,h3,h4,h5⟩:=q6m he;obtain⟨w,ew,rw'⟩:=r.get h2;have hl:=r.length;have hn:=line63;have fin:EP X pins σ Q w s:=⟨z,H,I,rw',q⟩
 by_cases h0:0<=i
 ·have hj:i.toNat=j:=by
   rw[Qt h0 h5] at h1;exact Co h1
  exact item_listR pl.isList h0 (by lia) (by rw[hj];simpa using ew) fin hs
 ·have hj:(i+(its.toArray.size:Int)).toNat=j:=by
   rw[seqIndex_neg (by lia) h4] at h1;rw[As,<- hl];exact Co h1
  exact Mz pl.isList.typeIs slot_list_getitem.lookup
   (wpAny_getItem_list_neg pl.isList (by lia) (by rw[As]<;>lia) (by lia) (by rw[hj];simpa using ew) ⟨rfl,fin⟩) hs
theorem ix_tup:IxR X (rIxT X.K):=by
 intro value slice pins s σ H x y v u Q I rx ry h hs;obtain⟨p,xs,i,z,rfl,rfl,hq,he,q⟩:=h;cases rx;obtain⟨t,rfl⟩:=ry;obtain⟨its,r,pl,hz⟩:=I.tuple hq;obtain⟨j,h1,h2,h3,h4,h5⟩:=q6m he;obtain⟨w,ew,rw'⟩:=r.get h2;have hl:=r.length;have hn:=line63;have fin:EP X pins σ Q w s:=⟨z,H,I,rw',q⟩
 exact Mz pl.typeIs slot_tuple_getitem.lookup
  (getItem_tuple pl (by lia) (by lia) (by rw[As,<- hl];exact h1) (by simpa using ew) ⟨rfl,fin⟩) hs
theorem ix_str:IxR X rIxS:=by
 intro value slice pins s σ H x y v u Q I rx ry h hs;obtain⟨z,i,c,rfl,rfl,hz,he,q⟩:=h;obtain⟨t,rfl⟩:=rx;obtain⟨t',rfl⟩:=ry;obtain⟨j,h1,h2,h3,h4,h5⟩:=q6m he;have hl:z.cps.toList.length=z.length:=by simp[Str.length]
 rw[hl] at h1 h4 h5;have hn:=line63;exact tail_any (Oi s z t) slot_str_getitem.lookup (getItem_str (by
  have e1:decide (i < -(2^63:Int))=false:=decide_eq_false (by lia);have e2:decide (i>=2^63)=false:=decide_eq_false (by lia);rw[e1,e2,Bool.or_false]) (by rw[h1];simpa using h2) ⟨.str ⟨#[c]⟩,H,I.tok _,⟨_,rfl⟩,q⟩) hs
def rIx(K:Af):R2:=fun x y H Q=>rIxL K x y H Q\/rIxT K x y H Q\/rIxS x y H Q
theorem ix_seq:IxR X (rIx X.K):=ix_list.or (ix_tup.or ix_str)
theorem z1n(its:List Value)(n j:Nat)(u:Value):Di (·.setIfInBounds j u) { cls:=.type "list",data:=.seq its.toArray n }={ cls:=.type "list",data:=.seq (its.set j u).toArray n }:=by
 simp[Di]
theorem Inv.lst{pins:List (Addr×Obj)}{σ:St}{H:Hp}{s:Ad}{p:Addr}{xs:List V}(I:Inv X pins σ H s)(h:H p=some (.lst xs)):
  ∃(its:List Value) (n:Nat),Vals xs its/\s.heap.get? p=some { cls:=.type "list",data:=.seq its.toArray n }/\xs.length<=sizeLine:=by
 obtain⟨z,its,n,r,e⟩:=I.hok p _ h;exact⟨its,n,r,e,z⟩
theorem Inv.lstUpd{σ:St}{its:List Value}(I:Inv X pins σ H s)(h:H p=some (.lst xs))(ho:s.heap.get? p=some { cls:=.type "list",data:=.seq its.toArray n })(hf:f { cls:=.type "list",data:=.seq its.toArray n }={ cls:=.type "list",data:=.seq its'.toArray n' })(r:Vals ys its')(hz:ys.length<=sizeLine)(t:Nat):
  Inv X pins σ (upd H p (.lst ys)) { s with heap:=s.heap.update p f,toks:=t }:=by
 have e:(s.heap.update p f).get? p=some { cls:=.type "list",data:=.seq its'.toArray n' }:=by
  rw[Gz f ho (by rw[hf]<;>rfl),hf]
 refine I.write (by rw[h];trivial) (.inl rfl) (fun b u hb q=>(Dw _ _ (Dp hb)).trans q) ⟨_,e⟩ ?_;exact⟨hz,its',n',r,e⟩
def rSetL:V->V->V->Hp->(Hp->Prop)->Prop:=fun o i v H Q=>∃p xs k j,o=.ref p/\i=.int k/\H p=some (.lst xs)/\ixN xs.length k=some j/\Q (upd H p (.lst (xs.set j v)))
theorem q6n:PSet X rSetL:=by
 intro pins s σ H o i v ov iv u Q I ro ri rv h;obtain⟨p,xs,k,j,rfl,rfl,hp,hj,q⟩:=h;cases ro;obtain⟨t,rfl⟩:=ri;obtain⟨its,n,r,ho,hz⟩:=I.lst hp;obtain⟨h1,h2,h3,h4⟩:=z2z hj;have hl:=r.length;have hn:=line63;have I':Inv X pins σ (upd H p (.lst (xs.set j v))) { s with heap:=s.heap.update p (Di (·.setIfInBounds j u)) } :=
  I.lstUpd hp ho (z1n its n j u) (r.set rv j) (by rw[List.length_set];exact hz) s.toks
 by_cases h0:0<=k
 ·have hk:k.toNat=j:=by
   rw[Qt h0 h4] at h1;exact Co h1
  exact W.ki_setAt ho h0 (by lia) (by rw[As,<- hl];exact h4) (by rw[hk];exact⟨_,I',q⟩)
 ·have hk:(k+(its.toArray.size:Int)).toNat=j:=by
   rw[seqIndex_neg (by lia) h3] at h1;rw[As,<- hl];exact Co h1
  exact W.ki_setBack ho (by lia) (by rw[As,<- hl];exact h3) (by lia) (by rw[hk];exact⟨_,I',q⟩)
theorem q7p(lo hi:Option Int)(n:Nat):(Hy lo hi none n).1=((HT.sIx n 0 lo:Nat):Int)/\(Hy lo hi none n).2.1=((HT.sIx n n hi:Nat):Int)/\(Hy lo hi none n).2.2=1:=by
 refine⟨?_,?_,rfl⟩
 ·cases lo with
  |none=>simp[Hy,HT.sIx]
  |some i =>
   simp only[Hy,HT.sIx,Ra,show(1:Int)>0 by decide,if_true];by_cases h:i<0
   ·simp only[h,if_true]<;>lia
   ·simp only[h,if_false]<;>lia
 ·cases hi with
  |none=>simp[Hy,HT.sIx]
  |some i =>
   simp only[Hy,HT.sIx,Ra,show(1:Int)>0 by decide,if_true];by_cases h:i<0
   ·simp only[h,if_true]<;>lia
   ·simp only[h,if_false]<;>lia
theorem q6o(its:List Value)(lo hi:Option Int):slicePick its.toArray lo hi none=((its.drop (HT.sIx its.length 0 lo)).take (HT.sIx its.length its.length hi-HT.sIx its.length 0 lo)).toArray:=by
 obtain⟨h1,h2,h3⟩:=q7p lo hi its.toArray.size;unfold slicePick;rw[h1,h2,h3];simp only[sliceRange_one,pick_run,As]<;>rfl
def rSlL(K:Af):V->Option Int->Option Int->Hp->VK->Prop:=fun x lo hi H Q=>∃a xs,x=.ref a/\SqL K H a xs/\∀p,H p=none->Q (.ref p) (upd H p (.lst (cutV xs lo hi)))
theorem sl_list:SlR X (rSlL X.K):=by
 intro pins s σ H x v vl vu lo hi sl Q I rx hs pl pu h;obtain⟨a,xs,rfl,hx,q⟩:=h;cases rx;obtain⟨its,r,ht,hz⟩:=I.list hx;have hlen:=r.length;refine⟨"list",_,slot_list_getitem.lookup,ht.isList.typeIs,?_⟩;refine wpAny_getItem_list_slice ht.isList hs pl pu .none (by simp) ?_ (by rw[As]<;>lia);rw[q6o,<- hlen];refine⟨.ref s.heap.objs.size,_,I.laid (t':=s.toks) (fun b ob q=>Ae _ q) (Ai _) ?_,rfl,q _ (I.hok.fresh (Ai _))⟩;exact⟨By (q5a xs lo hi) hz,_,0,(r.drop (HT.sIx xs.length 0 lo)).take (HT.sIx xs.length xs.length hi-HT.sIx xs.length 0 lo),Al _ rfl⟩
theorem CallR.or(h:CallR X f r)(h':CallR X f r'):CallR X f (fun xs H Q=>r xs H Q\/r' xs H Q):=by
 intro pins s σ H xs us Q I rs q;rcases q with q|q
 ·exact h pins s σ H xs us Q I rs q
 ·exact h' pins s σ H xs us Q I rs q
theorem q7q:CallR X (.type "list") (fun xs H Q=>∃p ys,xs=[.ref p]/\(SqL X.K H p ys\/SqT X.K H p ys)/\∀l,H l=none->Q (.ref l) (upd H l (.lst ys))):=by
 intro pins s σ H xs us Q I r h;obtain⟨p,ys,rfl,hq,q⟩:=h;obtain⟨u,rfl,rx⟩:=vals1 r;cases rx;have fin:∀(its:List Value),Vals ys its->ys.length<=sizeLine->∀(h':Heap) (c':Nat),(∀b o',s.heap.get? b=some o'->h'.get? b=some o') ->
   h'.get? s.heap.objs.size=some { cls:=.type "list",dict:=none,data:=.seq its.toArray c',slots:=#[] }->EP X pins σ Q (.ref s.heap.objs.size) { s with heap:=h' }:=fun its r' hz h' c' kp e =>
  ⟨.ref s.heap.objs.size,_,I.laid (t':=s.toks) kp (Ai _) (show ObjOk X.prog X.w _ h' _ (.lst ys) from⟨hz,its,c',r',e⟩),rfl,q _ (I.hok.fresh (Ai _))⟩
 rcases hq with hq|hq
 ·obtain⟨its,r',pl,hz⟩:=I.list hq;have hlen:=r'.length;obtain⟨o,ho,hc,n,hd⟩:=pl.isList;exact call_list_seq p (.inl rfl) ho hc hd (fun h' c' kp e=>fin its r' hz h' c' kp e) (by simp only[As]<;>lia)
 ·obtain⟨its,r',pl,hz⟩:=I.tuple hq;have hlen:=r'.length;obtain⟨o,ho,hc,n,hd⟩:=pl;exact call_list_seq p (.inr rfl) ho hc hd (fun h' c' kp e=>fin its r' hz h' c' kp e) (by simp only[As]<;>lia)
def tyV(K:Af)(T:String)(x:V)(H:Hp):Prop:=match x with
 |.str _=>T = "str"
 |.int _=>T = "int"
 |.ref p=>(T = "list" /\ ∃xs,SqL K H p xs)\/(T = "tuple" /\ ∃o,K.lookup p=some o/\o.cls=.type "tuple" /\ o.dict=none) \/
   (T = "dict" /\ ((∃kvs,H p=some (.dK kvs))\/∃kvs,H p=some (.dT kvs)))\/(T = "set" /\ ∃S n,H p=some (.set S n))
 |_=>False
theorem z7r{σ:St}(I:Inv X pins σ H s)(r:RelV x v)(ty:tyV X.K T x H):
  s.TypeIs v T/\∀a,v=.ref a->∃ob,s.heap.get? a=some ob/\ob.dict=none:=by
 cases x with
 |str z =>
  obtain⟨t,rfl⟩:=r;cases(show T = "str" from ty);exact⟨Oi s z t,fun _ e=>nomatch e⟩
 |int i =>
  obtain⟨t,rfl⟩:=r;cases(show T = "int" from ty);exact⟨Rr s i t,fun _ e=>nomatch e⟩
 |ref p =>
  cases r;rcases ty with⟨rfl,xs,hq⟩|⟨rfl,o,hk,hc,hd⟩|⟨rfl,hk⟩|⟨rfl,S,n,hk⟩
  ·obtain⟨its,_,pl,_⟩:=I.list hq;refine⟨pl.isList.typeIs,fun a e=>?_⟩;cases e;obtain⟨o,n,e,c,hd,_⟩:=pl;exact⟨o,e,hd⟩
  ·refine⟨⟨o,I.kIn p o hk,hc⟩,fun a e=>?_⟩;cases e;exact⟨o,I.kIn _ o hk,hd⟩
  ·have z:∃o,s.heap.get? p=some o/\o.ExactDict:=by
    rcases hk with⟨kvs,hk⟩|⟨kvs,hk⟩
    ·obtain⟨_,_,_,_,o,_,_,e,ex,_⟩:=I.hok p _ hk;exact⟨o,e,ex⟩
    ·obtain⟨_,_,_,_,o,_,_,e,ex,_⟩:=I.hok p _ hk;exact⟨o,e,ex⟩
   obtain⟨o,e,ex⟩:=z;refine⟨⟨o,e,ex.1⟩,fun a e2=>?_⟩;cases e2;exact⟨o,e,ex.2.1⟩
  ·obtain⟨o,_,_,_,e,ex,_⟩:=I.hok p _ hk;refine⟨⟨o,e,ex.1⟩,fun a e2=>?_⟩;cases e2;exact⟨o,e,ex.2.1⟩
 |_=>exact False.elim ty
def tBM0(K:Af)(T:String)(r:V->List V->Hp->VK->Prop)(to:TE):TE:=fun σ H Q=>to σ H fun x H1=>tyV K T x H1/\r x [] H1 Q
def tBM(K:Af)(T:String)(r:V->List V->Hp->VK->Prop)(to:TE)(t:TA):TE:=fun σ H Q=>to σ H fun x H1=>tyV K T x H1/\t σ H1 fun xs H2=>r x xs H2 Q
variable{o e:Expr}{es:List Expr}{to:TE}{t:TA}{name:Str}{apos cpos:Pos}{T id:String}{r:V->List V->Hp->VK->Prop}
theorem pe_bm0(pa:Oj T)(slot:Slot T name id)(hty:typeOf (.builtin id)=pure (.type "method_descriptor"))(hm:MtR X id r)(ho:PE X o to)(hbase:Em o name X.env (eval o X.env)=eval o X.env:=by rfl)(hline:(apos.endLine==cpos.line)=true:=by rfl):PE X (.Call (.Attribute o name apos) [] [] cpos) (tBM0 X.K T r to):=by
 intro pins s σ H Q I h;refine wpAny_Call_method0_late hbase hline (thn (ho pins s σ H _ I h) fun v s1 ⟨x,H1,I1,r1,ty,q1⟩=>?_);obtain⟨h1,h2⟩:=z7r I1 r1 ty;exact⟨T,id,pa,slot,hty,h1,h2,Jn rfl (PySem.evalArgs_none (hm pins s1 σ H1 x [] v [] Q I1 r1 .nil q1))⟩
theorem pe_bm(pa:Oj T)(slot:Slot T name id)(hty:typeOf (.builtin id)=pure (.type "method_descriptor"))(hm:MtR X id r)(ho:PE X o to)(ha:PA X (e::es) t)(hbase:Em o name X.env (eval o X.env)=eval o X.env:=by rfl)(hfew:((Du cpos (Bc (e::es) X.env)).all (fun x => !x.1)&&(Jr cpos (Gn [] X.env)).all (fun x=>x.1.isSome)
   && decide ((e::es).length+([]:List Kr).length+(if ([]:List Kr).isEmpty then 0 else 1)<30))=true:=by rfl)(hline:(apos.endLine==cpos.line)=true:=by rfl)(hs:Bc (e::es) X.env=(false,eval e X.env)::Bc es X.env:=by rfl)(hplain:(Du cpos (Bc es X.env)).any (·.1)=false:=by rfl):
  PE X (.Call (.Attribute o name apos) (e::es) [] cpos) (tBM X.K T r to t):=by
 intro pins s σ H Q I h;refine wpAny_Call_method_late hbase hfew hline rfl (thn (ho pins s σ H _ I h) fun v s1 ⟨x,H1,I1,r1,ty,q1⟩=>?_);obtain⟨h1,h2⟩:=z7r I1 r1 ty;refine⟨T,id,pa,slot,hty,h1,h2,?_⟩;have hA:=ha cpos pins s1 σ H1 _ I1 q1;rw[hs] at hA ⊢;refine Jn (by show(false||(Du cpos (Bc es X.env)).any (·.1))=false;rw[hplain]<;>rfl) (Ol ?_);exact thn hA fun us s2 ⟨vs,H2,I2,r2,q2⟩=>hm pins s2 σ H2 x vs v us Q I2 r1 r2 q2
end
open PySem PySem.Spec PyProof.Rows
def MtM(X:Cx)(id:String)(r:V->List V->Hp->VK->Prop):Prop :=
 ∀(pins:List (Addr×Obj)) (s:Ad) (σ:St) (H:Hp) (x:V) (xs:List V) (v:Value) (us:List Value) (Q:VK),Inv X pins σ H s->RelV x v->Vals xs us->r x xs H Q ->
  wpAny (model X.prog X.w) X.A (call (.builtin id) (v::us)) (EP X pins σ Q) X.xe s
theorem Vals.one:∀{x:V} {us:List Value},Vals [x] us->∃u,us=[u]/\RelV x u
 |_,_,.cons r .nil=>⟨_,rfl,r⟩
theorem Vals.two:∀{x y:V} {us:List Value},Vals [x,y] us->∃u v,us=[u,v]/\RelV x u/\RelV y v
 |_,_,_,.cons r (.cons q .nil)=>⟨_,_,rfl,r,q⟩
theorem Vals.zero:∀{us:List Value},Vals [] us->us=[]
 |_,.nil=>rfl
theorem Vals.dropLast(h:Vals xs us):Vals xs.dropLast us.dropLast:=by
 induction h with
 |nil=>exact .nil
 |cons r t ih =>
  cases t with
  |nil=>exact .nil
  |cons q t'=>exact .cons r ih
theorem Vals.eraseIdx:∀{xs:List V} {us:List Value} (i:Nat),Vals xs us->Vals (xs.eraseIdx i) (us.eraseIdx i)
 |_,_,_,.nil=>.nil
 |_,_,0,.cons _ t=>t
 |_,_,i+1,.cons r t=>.cons r (Vals.eraseIdx i t)
theorem Vals.reverse(h:Vals xs us):Vals xs.reverse us.reverse:=by
 induction h with
 |nil=>exact .nil
 |cons r t ih=>rw[Qk,Qk];exact Vals.append ih (.cons r .nil)
theorem Vals.rep{xs:List V}{us:List Value}(h:Vals xs us):∀k:Nat,Vals (List.replicate k xs).flatten (List.replicate k us).flatten
 |0=>.nil
 |k+1=>by
  rw[Ko,Ko,Li,Li];exact Vals.append h (Vals.rep h k)
theorem q7r{α:Type}:∀(l:List α) (i:Nat),(l.eraseIdx i).length<=l.length
 |[],_=>Ai _
 |_::_,0=>Fs _
 |_::r,i+1=>Hn (q7r r i)
theorem q7s(its:List Value):∀(k:Nat) (acc:List Value),
  List.foldl (fun x1 x2=>x1++x2) acc.toArray (List.replicate k its.toArray)=(acc++(List.replicate k its).flatten).toArray
 |0,acc=>by simp
 |k+1,acc=>by
  have e:acc.toArray++its.toArray=(acc++its).toArray:=by simp
  have e2:(acc++its)++(List.replicate k its).flatten=acc++(List.replicate (k+1) its).flatten:=by grind
  rw[<- e2,<- q7s its k (acc++its),<- e,Ko,Rt]
section
variable{X:Cx}{pins:List (Addr×Obj)}{σ:St}{H:Hp}{s:Ad}{l b:Addr}{xs ys zs:List V}
theorem Inv.lset{its:List Value}(I:Inv X pins σ H s)(hH:H l=some (.lst xs))(e:s.heap.get? l=some { cls:=.type "list",data:=.seq its.toArray n })(hf:f its.toArray=its'.toArray)(hv:Vals ys its')(hz:ys.length<=sizeLine):
  Inv X pins σ (upd H l (.lst ys)) { s with heap:=s.heap.update l (Di f),toks:=t' }:=by
 have q:=PySem.IsL.update e f;rw[hf] at q;refine I.write (by rw[hH];exact trivial) (.inl rfl) (fun b' u hb hu=>(Dw s.heap (Di f) (Dp hb)).trans hu) ⟨_,q⟩ ?_;exact⟨hz,its',_,hv,q⟩
theorem Inv.lnew(I:Inv X pins σ H s)(hv:Vals ys its)(hz:ys.length<=sizeLine):
  Inv X pins σ (upd H s.heap.objs.size (.lst ys)) { s with heap:=s.heap.push { cls:=.type "list",data:=.seq its.toArray },toks:=t' } :=
 I.laid (fun _ _ q=>Ae _ q) (Ai _) ⟨hz,its,0,hv,Al _ rfl⟩
theorem Inv.fresh(I:Inv X pins σ H s):H s.heap.objs.size=none:=I.hok.fresh (Ai _)
theorem Inv.lstM(I:Inv X pins σ H s)(hH:H l=some (.lst xs)):xs.length<=sizeLine/\∃(its:List Value) (n:Nat),Vals xs its/\xs.length=its.length/\s.heap.get? l=some { cls:=.type "list",data:=.seq its.toArray n }:=by
 obtain⟨z,its,n,r,e⟩:=I.hok l _ hH;exact⟨z,its,n,r,r.length,e⟩
theorem notLongL(h:n<=sizeLine):Mc n=false:=by
 exact decide_eq_false (by lia)
end
section
variable{X:Cx}
def rAppend:V->List V->Hp->VK->Prop:=fun x vs H Q=>∃l xs y,x=.ref l/\vs=[y]/\H l=some (.lst xs)/\xs.length<sizeLine/\Q .non (upd H l (.lst (xs++[y])))
theorem q2a:MtM X "list.append" rAppend:=by
 intro pins s σ H x vs v us Q I rx rv h;obtain⟨l,xs,y,rfl,rfl,hH,hz,q⟩:=h;cases rx;obtain⟨u,rfl,ru⟩:=rv.one;obtain⟨z,its,n,r,hl,e⟩:=I.lstM hH;refine Kc F.slot_list_append ⟨_,e,rfl⟩ F.entry_list_append (F.args_list_append_2 _ _) (PySem.list_append l its.toArray n u (by rw[As];lia)) ⟨e,?_⟩;refine⟨.non,_,I.lset (its':=its++[u]) hH e (by simp) (r.append (.cons ru .nil)) ?_,rfl,q⟩;rw[An,Dc];lia
def rPopAt:V->List V->Hp->VK->Prop:=fun x vs H Q=>∃l xs i k y,x=.ref l/\vs=[.int i]/\H l=some (.lst xs) /\ -(2^63)<=i/\i<2^63/\seqIndex? i xs.length=some k/\xs[k]?=some y/\Q y (upd H l (.lst (xs.eraseIdx k)))
theorem z5u:MtM X "list.pop" rPopAt:=by
 intro pins s σ H x vs v us Q I rx rv h;obtain⟨l,xs,i,k,y,rfl,rfl,hH,h1,h2,hk,hy,q⟩:=h;cases rx;obtain⟨u,rfl,ru⟩:=rv.one;obtain⟨t,rfl⟩:=ru;obtain⟨z,its,n,r,hl,e⟩:=I.lstM hH;obtain⟨w,hw,rw'⟩:=r.get hy;refine Kc F.slot_list_pop ⟨_,e,rfl⟩ F.entry_list_pop (F.args_list_pop_2 _ _)
  (MeetsSeq.list_pop_at l its.toArray n i t k w (fitsIndex_both h1 h2) (by rw[As,<- hl];exact hk) (by rw[<- Ed];exact hw) (by rw[As];lia)) ⟨e,?_⟩
 refine⟨y,_,I.lset (its':=its.eraseIdx k) hH e ?_ (r.eraseIdx k) ?_,rw',q⟩
 ·simp_all
 ·have:=q7r xs k;lia
def rClear:V->List V->Hp->VK->Prop:=fun x vs H Q=>∃l xs,x=.ref l/\vs=[]/\H l=some (.lst xs)/\Q .non (upd H l (.lst []))
theorem z5v:MtM X "list.clear" rClear:=by
 intro pins s σ H x vs v us Q I rx rv h;obtain⟨l,xs,rfl,rfl,hH,q⟩:=h;cases rx;have hus:=rv.zero;subst hus;obtain⟨z,its,n,r,hl,e⟩:=I.lstM hH;refine Kc F.slot_list_clear ⟨_,e,rfl⟩ F.entry_list_clear (F.args_list_clear_1 _) (AutoSeq1.list_clear_list_0 l its.toArray n (by rw[As];lia)) ⟨e,?_⟩;exact⟨.non,_,I.lset (its':=[]) hH e rfl .nil (Bv _),rfl,q⟩
def rCat:R2:=fun x y H Q=>∃l b xs zs,x=.ref l/\y=.ref b/\H l=some (.lst xs)/\H b=some (.lst zs)/\xs.length+zs.length<=sizeLine/\∀p,H p=none->Q (.ref p) (upd H p (.lst (xs++zs)))
theorem op_cat:OpR X (Ep .Add) rCat:=by
 intro pins s σ H x y v u Q I rx ry h;obtain⟨l,b,xs,zs,rfl,rfl,hH,hB,hz,q⟩:=h;cases rx;cases ry;obtain⟨z,its,n,r,hl,e⟩:=I.lstM hH;obtain⟨z2,its2,n2,r2,hl2,e2⟩:=I.lstM hB;refine PySem.P.add_list e e2 ?_ (by rw[As,As];lia);have ea:its.toArray++its2.toArray=(its++its2).toArray:=by simp
 rw[ea];exact⟨.ref _,_,I.lnew (t':=s.toks) (r.append r2) (by rw[An];lia),rfl,q _ I.fresh⟩
def rRep:R2:=fun x y H Q=>∃l k xs,x=.ref l/\y=.int k/\H l=some (.lst xs) /\ -(2^63)<=k/\k<2^63/\xs.length*k.toNat<=sizeLine /\
 ∀p,H p=none->Q (.ref p) (upd H p (.lst (List.replicate k.toNat xs).flatten))
theorem z8o{α:Type}(xs:List α)(k:Nat):(List.replicate k xs).flatten.length=k*xs.length:=by simp_all
theorem op_rep:OpR X (Ep .Mult) rRep:=by
 intro pins s σ H x y v u Q I rx ry h;obtain⟨l,k,xs,rfl,rfl,hH,h1,h2,hz,q⟩:=h;cases rx;obtain⟨t,rfl⟩:=ry;obtain⟨z,its,n,r,hl,e⟩:=I.lstM hH;have hlen:its.toArray.size*k.toNat<=sizeLine:=by simp_all
 have hcap:¬its.toArray.size*k.toNat>(2^63-1) / 8:=by
  have:(sizeLine:Nat)<=(2^63-1) / 8:=by decide
  lia
 have hfit:¬(!Builtin.List.listFitsIndex k)=true:=by
  rw[fitsIndex_both h1 h2];exact Bk
 have hlong:¬Mc (its.toArray.size*k.toNat)=true:=by
  rw[notLongL hlen];exact Bk
 have hnew:List.foldl (fun x1 x2=>x1++x2) #[] (List.replicate (if its.toArray.isEmpty=true then 0 else k.toNat) its.toArray)=(List.replicate k.toNat its).flatten.toArray:=by
  have f0:∀m:Nat,List.foldl (fun x1 x2=>x1++x2) #[] (List.replicate m its.toArray)=(List.replicate m its).flatten.toArray:=fun m=>by
   have:=q7s its m [];exact this
  cases its with
  |nil=>simp
  |cons a r'=>grind
 refine wpAny_binaryOp_repeat_ref (by decide) ⟨_,e,rfl⟩ (fun s'=>Rr s' k t) noFill_list_mul F.fills_int_mul Ru repeat_list F.slot_int_index.lookup
  (Kc Ru (Rr s k t) F.entry_int_rmul (F.args_int_rmul_2 _ _) (int___rmul___int_list k t l its.toArray n)
   ⟨e,rfl,⟨_,e,rfl⟩,Kc F.slot_list_mul ⟨_,e,rfl⟩ F.entry_list_mul (F.args_list_mul_2 _ _) (AutoListH.list___mul___list_int_3 l its.toArray n k t hfit hcap hlong) ⟨e,?_⟩⟩)
 rw[hnew];exact⟨.ref _,_,I.lnew (t':=s.toks) (r.rep k.toNat) (by rw[z8o,Nat.mul_comm];exact hz),rfl,q _ I.fresh⟩
end
end L2
namespace Att
open PySem PySem.W PySem.Calls PyProof.Rows
theorem q5b:∀(ns:List Int) (vs:List Value),WellAll P h vs (ns.map WData.int)->Lv vs ns:=by
 intro ns;induction ns with
 |nil =>
  intro vs w;cases w;exact .nil
 |cons n ns ih =>
  intro vs w;cases w with
  |cons a b =>
   cases a;exact .cons _ _ (ih _ b)
theorem z3a{l:OpenLaw}(hn:l.most=some n)(hpre:l.row.toRowW.claim.pre args=true)(hwl:WellAll P h vals args):
  ∃a vs ns,vals=[Value.ref a]/\args=[WData.list (ns.map WData.int)]/\h.get? a=some { cls:=.type "list",data:=.seq vs.toArray }/\Lv vs ns/\ns.length<=n:=by
 have hsh:=(pre_splitW hpre).1;have hc:l.pre.holds [] { args:=args }=true:=(pre_splitW hpre).2;obtain⟨d,r,rfl,h1,h2⟩:=hasAllW_cons hsh;obtain rfl:=hasAllW_nil h2;obtain⟨xs,rfl,h3⟩:=hasW_list h1;obtain⟨ns,rfl⟩:=items_int h3;have hlen:ns.length<=n:=by
  have h4:(WTm.not (.lt (.lit (.int (n:Int))) (.len (.arg 0)))).holds [] { args:=[.list (ns.map .int)] }=true:=by
   have h4:=(holds_andW hc).1;rw[hn] at h4;exact h4
  have h5:=condW_of h4 (w_not (w_lt w_lit (w_len_list (w_arg rfl))));first
   |(rw[decide_eq_true q'] at h5;exact absurd h5 (by decide))
   |(simp at h5;lia)
 cases hwl with
 |cons w1 w2 =>
  cases w2;cases w1 with
  |list ho hall=>exact⟨_,_,ns,rfl,rfl,ho,q5b ns _ hall,hlen⟩
theorem z3b(l:OpenLaw)(args:List WData):l.row.toRowW.claim.post args (.bool true) args=true :=
 postW_of
  (show WShape.has [] (.bool true) .bool=true by first|rfl|decide|simp[WShape.has,WShape.arms,WShape.armsAll])
  (show(WTm.eq .res (.lit (.bool true))).value [] { args:=args,res:=some (.bool true),after:=args }=some (.bool (true==true)) from w_eq_bool (w_res rfl) w_lit) rfl
theorem attach_call{l:OpenLaw}(hn:l.most=some n)(hdf:d.params.defaults=[])(call:∀(w:World) (s₀ s₁:Ad) (mg mb:Str->Option Value) (fa:Addr) (o:Obj) (pm cd doc:Value) (a:Addr) (vs:List Value) (ns:List Int),
   Ground q loose [] XP w s₀ mg mb s₁.heap->YP w s₁.heap ->
   s₁.heap.get? fa=some o->o.data=.func (docDef d.name d.params d.body d.scope pm cd doc)->s₁.heap.CodeRec cd d.name->mg d.name=some (.ref fa) ->
   s₁.heap.get? a=some { cls:=.type "list",data:=.seq vs.toArray }->Lv vs ns->ns.length<=n->s₁.gens=#[] ->
   Er (model l.prog w) Lw (.call (.ref fa) ⟨[.ref a],[]⟩) (fun r s'=>r=.ok (.ret (.bool true))/\OldK s₁.heap s'.heap/\s'.os=s₁.os/\Jv s'.gens) s₁):
  WalkO q loose XP YP l.row.toRowW d [] (fun f vs=>Rx f vs):=by
 intro w s₀ s₁ mg mb G Y fa o pm cd doc dV kV ho hd hcd hD hmg hg args vals as hpre hlay hrd hwl hlo;obtain rfl:dV=.none:=Dflts.none hD hdf;obtain rfl:kV=.none:=Dflts.noKw hD;obtain⟨a,vs,ns,rfl,rfl,hobj,hints,hlen⟩:=z3a hn hpre hwl;refine enter_call (Gx (call w s₀ s₁ mg mb fa o pm cd doc a vs ns G Y ho (fd_plain hd) hcd hmg hobj hints hlen hg) fun r s' hq=>?_);obtain⟨rfl,h2,h3,h4⟩:=hq;exact⟨.inl ⟨.bool true,.bool true,[],rfl,fun _=>rfl,.bool true,z3b l _,fun _=>⟨List.Pairwise.nil,fun _ hm=>(nomatch hm)⟩⟩,h2,h3,h4⟩
end Att
namespace L2
open PySem PySem.Spec PyProof.Rows
theorem q7t:∀{vs:List Value} {ns:List Int},Lv vs ns->Vals (ns.map V.int) vs
 |_,_,.nil=>.nil
 |_,_,.cons n t h=>.cons ⟨t,rfl⟩ (q7t h)
def Only(H:Hp):Prop:=∀b,H b=none\/∃o xs,H b=some (.frz o (.lst xs))
theorem z5w{K:Af}(KX:K.In s₁.heap)(hns:s₁.heap.Ns Ci mg)(hb:s₁.heap.Ns builtinsNs mb)(hbb:∀x:Str,x ≠ "__name__" -> mb x=Gv x)(hlim:s₁.heap.NoLimit)(hg:s₁.gens=#[])(ha:s₁.heap.get? a=some { cls:=.type "list",data:=.seq vs.toArray })(hi:Lv vs ns)(hl:ns.length<=sizeLine)(hr:Room k Lw)(F:∀base:Heap,K.In base->base.Ns Ci mg->FnOk P w K mg base CX k fa fd [x] sp)(hbind:∀(s:Ad) (u:Value),Nl s fd ⟨[u],[]⟩ [(x,u)])(hsp:∀H:Hp,Only H->SqL K H a (ns.map V.int)->sp [.ref a] H (fun v _=>v=.bl true) fun _ _ _=>False)(hCX:∀H e s',CX [] H s₁ (fun _ _ _=>False) e s'->False):
  Er (model P w) Lw (.call (.ref fa) ⟨[.ref a],[]⟩) (fun r s'=>r=.ok (.ret (.bool true))/\OldK s₁.heap s'.heap/\s'.os=s₁.os/\Jv s'.gens) s₁:=by
 have rv:=q7t hi;have lenV:=hi.length;have core:∀H:Hp,Only H->SqL K H a (ns.map V.int)->HOk P w H s₁.heap->(∀b,H b≠none->b=a)->(H a≠none->K.lookup a=none) ->
   Er (model P w) Lw (.call (.ref fa) ⟨[.ref a],[]⟩) (fun r s'=>r=.ok (.ret (.bool true))/\OldK s₁.heap s'.heap/\s'.os=s₁.os/\Jv s'.gens) s₁:=by
  intro H hO hS hok hA hK;have base_of:∀{b:Addr} {o:Obj},s₁.heap.get? b=some o->H b=none->(hidT s₁.heap H).get? b=some o:=fun e n=>z5i e n;have noA:∀{b:Addr} {o:Obj} {es:Array Kw} {ep:Nat},s₁.heap.get? b=some o->o.data=.dict es ep->H b=none:=fun{b o es ep} e d=>by
   cases q:H b with
   |none=>rfl
   |some u =>
    have e':=hA b (by rw[q];simp);subst e';rw[ha] at e;cases e;have d':=d;cases d'
  have nsK:∀{b:Addr} {m:Str->Option Value},s₁.heap.Ns b m->(hidT s₁.heap H).Ns b m:=fun{b m} ⟨o,es,ep,e,d,r⟩=>⟨o,es,ep,base_of e (noA e d),d,r⟩
  have hKb:=fun b o e=>base_of (KX b o e) (by
   cases q:H b with
   |none=>rfl
   |some u =>
    have e':=hA b (by rw[q];simp);subst e';rw[hK (by rw[q];simp)] at e;cases e)
  have hM:Mod K mg (hidT s₁.heap H):=⟨hKb,nsK hns,⟨mb,nsK hb,hbb⟩,let ⟨mc,h1,h2⟩:=hlim;⟨mc,nsK h1,h2⟩⟩
  have e0:Env0 P w K mg (hidT s₁.heap H) Lw [] s₁ H:=⟨rfl,hM,fun b o e=>z8f e,Ij (z2l _ _),trivial,fun b hb=>absurd (show b∈([]:List Addr) from hb) (by simp),hok,.of_eq hg⟩
  refine Gx ((F _ hKb (nsK hns)).run Lw [] s₁ H ⟨[.ref a],[]⟩ [.ref a] [.ref a] _ _ hr e0 (hbind s₁ (.ref a)) (.cons rfl .nil) (hsp H hO hS)) fun r s' h=>?_;cases r with
  |error e=>exact(hCX H e s' h).elim
  |ok fl =>
   cases fl with
   |next=>exact False.elim h
   |brk=>exact False.elim h
   |cont=>exact False.elim h
   |ret u =>
    obtain⟨v,H',os,bare,un,hok',r',q⟩:=h;have q':=q;subst q';obtain rfl:u=Value.bool true:=r';refine⟨rfl,OldK.of_keep fun b o e=>?_,os,bare⟩;cases q:H b with
    |none=>exact un.keep b o e q (by intro z;exact absurd (show b∈([]:List Addr) from z) (by simp)) (by simp)
    |some u =>
     rcases hO b with z|⟨ob,xs,z⟩
     ·grind
     ·have z2:=un.frzs b ob _ z;obtain⟨e1,_⟩:=hok b _ z;obtain⟨e2,_⟩:=hok' b _ z2;rw[e] at e1;cases e1;exact e2
 cases hk:K.lookup a with
 |some o =>
  have e:=KX a o hk;rw[ha] at e;cases e;refine core (fun _=>none) (fun _=>.inl rfl) (.inr ⟨_,vs.toArray,_,hk,rfl,rfl,rfl,by rw[As,lenV];exact hl,by simpa using rv⟩) (fun b u z=>by have z':(none:Option HO)=some u:=z;cases z') (fun b z=>absurd rfl z) fun z=>absurd rfl z
 |none =>
  refine core (fun b=>if b=a then some (.frz { cls:=.type "list",data:=.seq vs.toArray } (.lst (ns.map V.int))) else none) (fun b=>?_) (.inl (.inr ⟨{ cls:=.type "list",data:=.seq vs.toArray },if_pos rfl⟩)) (fun b u z=>?_) (fun b z=>?_) fun _=>hk
  ·by_cases hb:b=a
   ·simp_all
   ·simp_all
  ·by_cases hb:b=a
   ·have z':=(if_pos hb).symm.trans z;cases z';subst hb;exact⟨ha,by rw[Ac];exact hl,vs,_,rv,ha⟩
   ·grind
  ·grind
theorem walk_of{l:Sl}{K:Params->Af}{CX:World->CXT}{sp:World->Sp}(hn:l.most=some n)(hn2:n<=sizeLine)(hdf:d.params.defaults=[])(hr:Room k Lw)(hY:∀(w:World) (h:Heap),YP w h->(K w.params).In h)(F:∀(w:World) (mg:Str->Option Value) (fa:Addr) (h:Heap),(K w.params).In h->h.Ns Ci mg->mg d.name=some (.ref fa) ->
   ∃fd:Jq,(∀(s:Ad) (u:Value),Nl s fd ⟨[u],[]⟩ [(x,u)]) /\
    ∀base:Heap,(K w.params).In base->base.Ns Ci mg->FnOk l.prog w (K w.params) mg base (CX w) k fa fd [x] (sp w))(hsp:∀(w:World) (H:Hp) (a:Addr) (ns:List Int),ns.length<=n->Only H->SqL (K w.params) H a (ns.map V.int)->sp w [.ref a] H (fun v _=>v=.bl true) fun _ _ _=>False)(hCX:∀(w:World) (H:Hp) (s:Ad) (e:Value) (s':Ad),CX w [] H s (fun _ _ _=>False) e s'->False):
  W.WalkO q loose XP YP l.row.toRowW d [] (fun f vs=>Rx f vs):=by
 refine Att.attach_call hn hdf fun w s₀ s₁ mg mb fa o pm cd doc a vs ns G Y ho hd hcd hmg hobj hints hlen hg=>?_;have KX:=hY w _ Y;obtain⟨fd,hb,hF⟩:=F w mg fa _ KX G.T.g hmg;exact z5w KX G.T.g G.T.b G.T.builtins G.T.nolimit hg hobj hints (By hlen hn2) hr hF hb (fun H hO hS=>hsp w H a ns hlen hO hS) fun H e s'=>hCX w H s₁ e s'
def inClass(s:Stmt)(j:Nat):Stmt:=match s with
 |.ClassDef _ _ _ body _ _ _ _ _ _ _=>body.getD j (.Pass ⟨0,0,0,0⟩)
 |_=>.Pass ⟨0,0,0,0⟩
def defArgs(s:Stmt):Arguments:=match s with
 |.FunctionDef _ a _ _ _ _ _ _ _ _=>a
 |_=>{ posonlyargs:=[],args:=[],vararg:=none,kwonlyargs:=[],kw_defaults:=[],kwarg:=none,defaults:=[] }
def defBody(s:Stmt):List Stmt:=match s with
 |.FunctionDef _ _ b _ _ _ _ _ _ _=>b
 |_=>[]
def defScope(s:Stmt):Scope:=match s with
 |.FunctionDef _ _ _ _ _ _ sc _ _ _=>sc
 |_=>{ kind:=.function,names:=[],isGenerator:=false,isCoroutine:=false }
abbrev CX0:CXT:=fun _ _ _ _ _ _=>False
abbrev E0:XK:=fun _ _ _=>False
theorem pass0:Passes CX0 X E0:=fun _ _ _ _ _ _ _ h=>h.elim
structure Fun (K:Af) (x qual:Str) (st:Stmt) (f:Addr) (fd:Jq):Prop where
 ex:∃(oc:Value) (od:Option Addr) (kV doc pm:Value) (an:Option Addr) (cdv ct:Value) (osl:Array (Option Value)),
  fd=Gy x qual (defArgs st) (defBody st) (defScope st) .none kV doc pm an cdv ct/\K.lookup f=some ⟨oc,od,.func fd,osl⟩/\Js K cdv qual=true
 kp:Gm K (.ref f)=true
section
variable{P:Program}{w:World}{K:Af}{mg:Str->Option Value}{base:Heap}
theorem Fun.ok{st:Stmt}(F:Fun K x qual st f fd)(S:FnScope N ps (defScope st))(len:∀vs H Q E,sp vs H Q E->vs.length=ps.length)(hbody:∀(cdv:Value) (A:Around) (outer:List Env) (s:Ad) (H:Hp) (vs:List V) (Q:VK) (E:XK),Room k (A.deeper (Il qual (defScope st) s.heap.objs.size f cdv))->sp vs H Q E ->
   ∃t,PSs (cxOf CX0 P w K mg base N qual (defScope st) f cdv A outer s H E).nox (defBody st) t/\t { nx:=fun _ H'=>Q .non H',rt:=Q } (start N vs) H):FnOk P w K mg base CX0 (k+1) f fd ps sp:=by
 obtain⟨oc,od,kV,doc,pm,an,cdv,ct,osl,rfl,lk,hcd⟩:=F.ex;refine fn_of lk hcd S len fun A outer s H vs Q E hr hsp=>?_
 obtain⟨t,h,q⟩:=hbody cdv A outer s H vs Q E hr hsp;exact⟨t,h.nox,q⟩
theorem Fun.binds{st:Stmt}(F:Fun K x qual st f fd)(h:∀(kV doc pm:Value) (an:Option Addr) (cdv ct:Value) (us:List Value),us.length=ps.length->bindArgs (Gy x qual (defArgs st) (defBody st) (defScope st) .none kV doc pm an cdv ct) ⟨us,[]⟩=pure (ps.zip us)):Binds K fd ps []:=by
 obtain⟨oc,od,kV,doc,pm,an,cdv,ct,osl,rfl,lk,hcd⟩:=F.ex;exact .all (h kV doc pm an cdv ct)
theorem q7u{st:Stmt}{kV:Value}(l:K.lookup f=some ⟨oc,od,.func (Gy x qual (defArgs st) (defBody st) (defScope st) .none kV doc pm an cdv ct),osl⟩)(c:Js K cdv qual=true)(k:Gm K (.ref f)=true):Fun K x qual st f (Gy x qual (defArgs st) (defBody st) (defScope st) .none kV doc pm an cdv ct):=⟨⟨oc,od,kV,doc,pm,an,cdv,ct,osl,rfl,l,c⟩,k⟩
end
theorem q1t(hr:Room k A):A.units+1<cLine:=Nat.lt_of_le_of_lt (Nat.add_le_add_left (by decide:1<=64) _) hr.units
section
variable{X:Cx}
theorem pv(i:Nat){x:Str}{pos:Pos}(hN:X.N[i]?=some x:=by rfl)(hv:Vis X.env.scope x:=by first|exact Or.inl rfl|exact Or.inr (Or.inl rfl)|exact Or.inr (Or.inr rfl))(hd:(x==("__debug__" : Str))=false:=by decide)(hcd:(x==("__classdict__" : Str))=false:=by decide):PE X (.Name x pos) (tVar i):=pe_var hN hv hd hcd
end
theorem iteF{B:Prop}(h:B):if false=true then A else B:=by
 exact h
theorem iteT{B:Prop}(h:A):if true=true then A else B:=by
 exact h
theorem ite2{B:Prop}[Decidable c](h1:c->A)(h2:¬c->B):if c then A else B:=by grind
def Same(H H':Hp):Prop:=∀b o,H b=some o->H' b=some o
theorem Same.refl(H:Hp):Same H H:=fun _ _ h=>h
theorem Same.trans(a:Same H H1)(b:Same H1 H2):Same H H2:=fun c o h=>b c o (a c o h)
theorem Same.free(e:Same H H')(h:H' l=Option.none):H l=Option.none:=by
 cases q:H l with
 |none=>rfl
 |some o =>
  rw[e l o q] at h;cases h
theorem Same.seq{K:Af}(e:Same H H')(h:SqL K H a xs):SqL K H' a xs:=by
 rcases h with(h|⟨o,h⟩)|h
 ·exact .inl (.inl (e _ _ h))
 ·exact .inl (.inr ⟨o,e _ _ h⟩)
 ·exact .inr h
open PySem PySem.Spec PyProof.Rows
abbrev Caps:=List (Str×Nat)
def capV(σ:St):Caps->St
 |[]=>[]
 |(_,i)::r=>(σ[i]?).join::capV σ r
def CapOk(X:Cx)(scope:Scope):Caps->Prop
 |[]=>True
 |(x,i)::r=>(X.N[i]?=some x/\scope.names.lookup x=some .free/\(X.env.scope.names.lookup x=some .cell\/X.env.scope.names.lookup x=some .free))/\CapOk X scope r
def cxComp(X:Cx)(N:List Str)(scope:Scope)(cl:List (Str×Addr))(C:Addr)(fp:List Addr)(s:Ad)(H:Hp):Cx where
 prog:=X.prog
 w:=X.w
 K:=X.K
 mg:=X.mg
 base:=X.base
 A:=X.A
 N:=N
 s₀:=s
 H₀:=H
 env:=Eg scope cl C X.env
 outer:=X.stack
 stack:=X.stack
 ex:=fp
 fn:=fun _=>false
 calm:=X.calm
 pn:=[]
 xe:=fun _ _=>False
theorem z1o(names:List (Str×Ax))(hh:∀x,(x,Ax.free)∈names->∃c,env.cells.lookup x=some c):∀acc:List (Str×Addr),
  ∃cl,(forIn names acc (fun(x:Str×Ax) (r:List (Str×Addr))=>match x with
   |(name,kind)=>if (kind==Ax.free)=true then do let a<-cellOf env name;pure (ForInStep.yield ((name,a)::r)) else pure (ForInStep.yield r)):Sem (List (Str×Addr)))=pure cl /\
   (∀x c,(x,c)∈cl->(x,c)∈acc\/env.cells.lookup x=some c)/\(∀x,((x,Ax.free)∈names\/∃c,(x,c)∈acc)->∃c,(x,c)∈cl):=by
 induction names with
 |nil=>intro acc;exact⟨acc,rfl,fun x c h=>.inl h,fun x h=>h.elim (fun z=>nomatch z) id⟩
 |cons n r ih =>
  intro acc;obtain⟨name,kind⟩:=n;by_cases hk:kind=Ax.free
  ·subst hk;obtain⟨c,hc⟩:=hh name Ap;obtain⟨cl,e,h1,h2⟩:=ih (fun x hx=>hh x (Ah _ hx)) ((name,c)::acc);refine⟨cl,?_,fun x d hd=>?_,fun x hx=>?_⟩
   ·rw[Mq];have:cellOf env name=pure c:=by unfold cellOf;rw[hc]
    simp only[beq_self_eq_true,if_true,this];exact e
   ·rcases h1 x d hd with z|z
    ·rcases Bb.mp z with z|z
     ·cases z;exact .inr hc
     ·exact .inl z
    ·exact .inr z
   ·refine h2 x ?_;rcases hx with hx|⟨d,hd⟩
    ·rcases Bb.mp hx with z|z
     ·simp_all
     ·exact .inl z
    ·grind
  ·obtain⟨cl,e,h1,h2⟩:=ih (fun x hx=>hh x (Ah _ hx)) acc;refine⟨cl,?_,h1,fun x hx=>h2 x ?_⟩
   ·simp_all
   ·grind
theorem q6p{cl:List (Str×Addr)}(h:(x,c)∈cl):∃d,cl.lookup x=some d:=by
 induction cl with
 |nil=>cases h
 |cons y r ih =>
  obtain⟨n,a⟩:=y;cases e:x==n with
  |true=>simp_all
  |false =>
   rcases Bb.mp h with z|z
   ·cases z;simp at e
   ·obtain⟨d,hd⟩:=ih z;exact⟨d,by simp only[Ho,e];exact hd⟩
theorem z1p(hh:∀x,(x,Ax.free)∈scope.names->∃c,env.cells.lookup x=some c):
  ∃cl,Ry scope env=pure cl/\(∀x c,cl.lookup x=some c->env.cells.lookup x=some c)/\∀x,(x,Ax.free)∈scope.names->∃c,cl.lookup x=some c:=by
 obtain⟨cl,e,h1,h2⟩:=z1o scope.names hh [];refine⟨cl,?_,fun x c h=>?_,fun x hx=>?_⟩
 ·unfold Ry;have e2:=congrArg (fun m:Sem (List (Str×Addr))=>m >>= fun cs=>(pure cs:Sem _)) e;exact e2
 ·rcases h1 x c (Dq h) with z|z
  ·cases z
  ·exact z
 ·obtain⟨c,hc⟩:=h2 x (.inl hx);exact q6p hc
theorem q3f{env:Env}{k:Ax}(hk:k=.cell\/k=.free):∀{names:List (Str×Ax)} {x:Str},(∀y∈names,y.2≠.cell) ->
  (names.map fun(n,k)=>if (k==Ax.free&&env.scope.kind==.function&&env.kindOf n==some .cell) then(n,Ax.cell) else(n,k)).lookup x=some k->(x,Ax.free)∈names
 |[],_,_,h=>by simp at h
 |(n,k')::r,x,hc,h=>by
  have ih:=@q3f env k hk r x fun y hy=>hc y (Ah _ hy);by_cases c:(k'==Ax.free&&env.scope.kind==.function&&env.kindOf n==some .cell)=true
  ·have h':((n,Ax.cell)::r.map fun(n,k)=>if (k==Ax.free&&env.scope.kind==.function&&env.kindOf n==some .cell) then(n,Ax.cell) else(n,k)).lookup x=some k:=by
    have e:(if (k'==Ax.free&&env.scope.kind==.function&&env.kindOf n==some .cell)=true then(n,Ax.cell) else(n,k'))=(n,Ax.cell):=if_pos c;rw[<- e];exact h
   cases e:x==n with
   |true =>simp_all
   |false=>exact Ah _ (ih (by simp only[Ho,e] at h';exact h'))
  ·have h':((n,k')::r.map fun(n,k)=>if (k==Ax.free&&env.scope.kind==.function&&env.kindOf n==some .cell) then(n,Ax.cell) else(n,k)).lookup x=some k:=by
    have e:(if (k'==Ax.free&&env.scope.kind==.function&&env.kindOf n==some .cell)=true then(n,Ax.cell) else(n,k'))=(n,k'):=if_neg c;rw[<- e];exact h
   cases e:x==n with
   |true =>simp_all
   |false=>exact Ah _ (ih (by simp only[Ho,e] at h';exact h'))
theorem q4h{env:Env}:∀{names:List (Str×Ax)} {x:Str},names.lookup x=some .free ->
    ((names.map fun(n,k)=>if (k==Ax.free&&env.scope.kind==.function&&env.kindOf n==some .cell) then(n,Ax.cell) else(n,k)).lookup x=some .cell \/
     (names.map fun(n,k)=>if (k==Ax.free&&env.scope.kind==.function&&env.kindOf n==some .cell) then(n,Ax.cell) else(n,k)).lookup x=some .free)
  |[],_,h=>by simp at h
  |(n,k')::r,x,h=>by
    have ih:=@q4h env r x;by_cases c:(k'==Ax.free&&env.scope.kind==.function&&env.kindOf n==some .cell)=true
    · have e:(if (k'==Ax.free&&env.scope.kind==.function&&env.kindOf n==some .cell)=true then(n,Ax.cell) else(n,k'))=(n,Ax.cell):=if_pos c;show(List.lookup x ((if (k'==Ax.free&&env.scope.kind==.function&&env.kindOf n==some .cell)=true then(n,Ax.cell) else(n,k'))::_)=_\/List.lookup x ((if (k'==Ax.free&&env.scope.kind==.function&&env.kindOf n==some .cell)=true then(n,Ax.cell) else(n,k'))::_)=_);rw[e];cases ex:x==n with
      |true=>simp_all
      |false =>
        simp only[Ho,ex] at h ⊢;exact ih h
    · have e:(if (k'==Ax.free&&env.scope.kind==.function&&env.kindOf n==some .cell)=true then(n,Ax.cell) else(n,k'))=(n,k'):=if_neg c;show(List.lookup x ((if (k'==Ax.free&&env.scope.kind==.function&&env.kindOf n==some .cell)=true then(n,Ax.cell) else(n,k'))::_)=_\/List.lookup x ((if (k'==Ax.free&&env.scope.kind==.function&&env.kindOf n==some .cell)=true then(n,Ax.cell) else(n,k'))::_)=_);rw[e];cases ex:x==n with
      |true =>simp_all
      |false =>
        simp only[Ho,ex] at h ⊢;exact ih h
theorem q5c(σ:St):∀caps:Caps,(capV σ caps).length=caps.length
 |[]=>rfl
 |(_,_)::r=>congrArg (· + 1) (q5c σ r)
theorem z0e:∀{caps:Caps} {j:Nat} {x:Str} {v:V},CapOk X scope caps->(caps.map (·.1))[j]?=some x->(capV σ caps)[j]?=some (some v) ->
  ∃i:Nat,X.N[i]?=some x/\σ[i]?=some (some v)/\scope.names.lookup x=some .free/\(X.env.scope.names.lookup x=some .cell\/X.env.scope.names.lookup x=some .free)
 |[],_,_,_,_,h,_=>by simp at h
 |(y,i)::r,0,x,v,hc,h1,h2=>by
  simp at h1;subst h1;have e:(σ[i]?).join=some v:=by simpa[capV] using h2
  refine⟨i,hc.1.1,?_,hc.1.2⟩;cases q:σ[i]? with
  |none=>rw[q] at e;cases e
  |some z=>simp_all
 |(y,i)::r,j+1,x,v,hc,h1,h2=>z0e hc.2 (by simpa using h1) (by simpa[capV] using h2)
def tg0(tg:List Str)(σ:St)(caps:Caps):St:=tg.map (fun _=>none)++capV σ caps
theorem Inv.ofcomp{σ:St}{C:Addr}(tg:List Str)(I:Inv X pins σ H s)(hkind:scope.kind=.function)(hnc:∀y∈scope.names,y.2≠.cell)(hc1:∀x c,cl.lookup x=some c->X.env.cells.lookup x=some c)(hc2:∀x,(x,Ax.free)∈scope.names->∃c,cl.lookup x=some c)(hf:∀b∈fp,FpOk X pins H b)(hfo:∀b∈fp,∃o,s.heap.get? b=some o)(hC:s.heap.objs.size<=C)(hns:h₁.Ns C m)(hk:∀b o,s.heap.get? b=some o->h₁.get? b=some o)(co:CapOk X scope caps):
  Inv (cxComp X (tg++caps.map (·.1)) scope cl C fp s H) [] (tg0 tg σ caps) H { s with heap:=h₁,toks:=tk }:=by
 have hfs:∀b∈fp,b∉frs X.stack:=fun b hb hx=>by
  rcases Bb.mp (I.stkSub b hx) with z|z
  ·exact(hf b hb).2.1 z
  ·exact(hf b hb).2.2.1 z
 have ok:(cxComp X (tg++caps.map (·.1)) scope cl C fp s H).Ok:=by
  refine⟨I.ok.mod,hkind,I.ok.glob,I.ok.blt,hC,fun x y c h1 h2=>I.ok.inj x y c (hc1 x c h1) (hc1 y c h2),fun x hx=>?_,fun x c h=>(nomatch h),I.ok.hd,I.ok.frames,.inl rfl,fun b hb=>⟨?_,fun x c h=>(hf b hb).2.2.2.2.1 x c (hc1 x c h)⟩,
   I.bs,By I.ok.bsz I.sz,fun b o e hb=>?_,hfs,I.stack,I.stkFree⟩
  ·rcases hx with hx|hx
   ·exact hc2 x (q3f (.inl rfl) hnc hx)
   ·exact hc2 x (q3f (.inr rfl) hnc hx)
  ·obtain⟨o,e⟩:=hfo b hb;exact Au (Be (Aj e) hC)
  ·rcases(hf b hb).2.2.2.1 with z|z
   ·exact I.ok.noex b o e z
   ·exact absurd (Be (Aj (I.ok.bs b o e).1) z) (Dy _)
 refine⟨ok,rfl,I.bare,Un.kept hk,⟨m,hns,fun j x v h1 h2 h3=>?_⟩,fun x c h=>?_,I.hok.fresh hC,fun x c h=>I.freeC x c (hc1 x c h),fun p hp=>(nomatch hp),I.hok.kept hk,?_⟩
 ·have h1':(tg++caps.map (·.1))[j]?=some x:=h1;have h2':(tg.map (fun _=>none)++capV σ caps)[j]?=some (some v):=h2;by_cases hj:j<tg.length
  ·rw[Ie (by simpa using hj),Ao] at h2';cases e:tg[j]? with
   |none=>grind
   |some z=>simp_all
  ·rw[Fg (by simpa using hj)] at h2' h1';rw[Ac] at h2';obtain⟨i,e1,e2,e3,e4⟩:=z0e co h1' h2';obtain⟨mX,hn,hl⟩:=I.loc;obtain⟨u,r,l⟩:=hl i x v e1 e2 (.inr e4);refine⟨u,r,?_⟩;have key:∃c,X.env.cells.lookup x=some c/\s.heap.IsCell c (some u):=by
    rcases l with⟨k,_⟩|⟨_,c,e,z⟩
    ·have k':X.env.scope.names.lookup x=some .local:=k;rcases e4 with e4|e4 <;> · rw[e4] at k';cases k'
    ·exact⟨c,e,z⟩
   obtain⟨c,ec,o,ho,hd⟩:=key;obtain⟨d,ed⟩:=hc2 x (Dq e3);have hdc:=Co ((hc1 x d ed).symm.trans ec);subst hdc;exact .inr ⟨q4h e3,d,ed,o,hk _ o ho,hd⟩
 ·obtain⟨v,o,ho,hd⟩:=I.cell x c (hc1 x c h);exact⟨v,o,hk _ o ho,hd⟩
 ·show(tg.map (fun _=>(none:Option V))++capV σ caps).length=(tg++caps.map (·.1)).length;rw[An,An,Ac,Ac,q5c]
def PIfs(X:Cx)(ifs:List Expr)(t:TT):Prop :=
 ∀(pins:List (Addr×Obj)) (s:Ad) (σ:St) (H:Hp) (Q:Bool->Hp->Prop),Inv X pins σ H s->t σ H Q ->
  wpAny (model X.prog X.w) X.A (forIn ifs true fun c r=>if r=true then do let ok<-isTrue c X.env (eval c X.env);pure (ForInStep.yield ok) else pure (ForInStep.yield r)) (TP X pins σ Q) X.xe s
def tIf0:TT:=fun _ H Q=>Q true H
theorem q9d:PIfs X [] tIf0:=fun pins s σ H Q I h=>wpAny_tests_nil ⟨H,I,h⟩
theorem q9e{X:Cx}{c:Expr}{t:TT}(h:PT X c t):PIfs X [c] t:=fun pins s σ H Q I q=>wpAny_tests_one (h pins s σ H Q I q)
def Keeps0(σ0 σ2:St):Prop:=σ0.length=σ2.length/\∀(i:Nat) v,σ0[i]?=some (some v)->σ2[i]?=some (some v)
def CompW(J:It)(g:TG)(tt:TT)(te:TE)(σ0:St)(D:Addr)(Fin:List V->Hp->Prop)(H1:Hp):Prop :=
 ∃W:Nat->Nat->List V->Hp->Prop,(∃m,W 0 m [] (upd H1 D (.lst [])))/\∀i m ys H,W i m ys H->H D=some (.lst ys) /\
  ((J.stop i H/\Fin ys H)\/(J.go i H/\∃N:List V->Hp->Prop,(∀zs H',N zs H'->∃m',m'<m/\W (i+1) m' zs H')/\∀x H',J.yld i H x H'->g x σ0 H' fun σ2 H2=>Keeps0 σ0 σ2/\tt σ2 H2 fun b H3 =>
   if b=true then te σ2 H3 fun v H4=>H4 D=some (.lst ys)/\ys.length<sizeLine/\N (ys++[v]) (upd H4 D (.lst (ys++[v])))
   else N ys H3))
theorem z5x{σ:St}{Fin:Addr->List V->Hp->Prop}{RR:Value->Addr->Result->Ad->Prop}(hc:X.calm=true)(hkind:scope.kind=.function)(hnc:∀y∈scope.names,y.2≠.cell)(hc1:∀x c,cl.lookup x=some c->X.env.cells.lookup x=some c)(hc2:∀x,(x,Ax.free)∈scope.names->∃c,cl.lookup x=some c)(co:CapOk X scope caps)(hg:∀C s H,PG (cxComp X (tg++caps.map (·.1)) scope cl C fp s H) target g)(ht:∀C s H,PIfs (cxComp X (tg++caps.map (·.1)) scope cl C fp s H) ifs tt)(he:∀C s H,PE (cxComp X (tg++caps.map (·.1)) scope cl C fp s H) elt te)(I2:Inv X pins σ H1 s₂)(T:Turn X.prog X.w X.K target J fp it tn)(st:tn 0 s₂.heap)(hf:∀b∈fp,FpOk X pins H1 b)(hw:∀D,H1 D=none->CompW J g tt te (tg0 tg σ caps) D (Fin D) H1)(hRR:∀D C ys H' s',H1 D=none->Inv X pins σ H' s'->(∃m,s'.heap.Ns C m)->FpOk X pins H' C->Fin D ys H'->RR (.ref D) C (.ok .next) s'):
  wpAny (model X.prog X.w) X.A (newList []) (fun acc s₃=>wpAny (model X.prog X.w) X.A (newFunctionEnv scope X.env.globals cl [] X.env.qual none .none (some X.env)) (fun cenv s₄ =>
   Er (model X.prog X.w) X.A (.compStart (.ListComp elt [⟨target,iter,ifs,0⟩] scope pos) 0 (.ref it) acc { cenv with scope:=relabel scope X.env }) (RR acc cenv.locals) s₄) E s₃) E s₂:=by
 have I3:Inv X pins σ (upd H1 s₂.heap.objs.size (.lst [])) { s₂ with heap:=s₂.heap.push { cls:=.type "list",dict:=none,data:=.seq ([]:List Value).toArray },toks:=s₂.toks }:=I2.lnew .nil (Bv _);have hD0:=I2.fresh;refine Bi (Om hnc (by intro y hy;simp at hy) (fun h₁ hns₁ hsb₁=>?_) hkind);dsimp only at hns₁ hsb₁ ⊢;generalize hDd:s₂.heap.objs.size=D at I3 hD0 hns₁ hsb₁ ⊢;generalize hs3:({ s₂ with heap:=s₂.heap.push { cls:=.type "list",dict:=none,data:=.seq ([]:List Value).toArray } }:Ad)=s₃ at I3 hns₁ hsb₁ ⊢;have e3:s₂.heap.push { cls:=.type "list",dict:=none,data:=.seq ([]:List Value).toArray }=s₃.heap:=by grind
 have o3:({ s₂ with heap:=h₁,toks:=s₂.toks+([]:List (Str×Value)).length }:Ad)={ s₃ with heap:=h₁,toks:=s₂.toks }:=by grind
 have size3:s₃.heap.objs.size=D+1:=by rw[<- e3,Es,hDd]
 rw[e3] at hns₁ hsb₁ ⊢;have old3:∀b o,s₂.heap.get? b=some o->s₃.heap.get? b=some o:=fun b o e=>by rw[<- e3];exact Ae _ e
 generalize hCd:s₃.heap.objs.size=C at hns₁ hsb₁ ⊢;have hk:=fun b o e=>hsb₁.extBut b o (by rw[<- hCd];exact Au (Aj e)) (Ae _ e);have fpo:∀b∈fp,∃o,s₂.heap.get? b=some o:=fun b hb=>by obtain⟨o,e,_⟩:=T.obj 0 _ st b hb;exact⟨o,e⟩
 have fpne:∀b∈fp,b≠D:=fun b hb=>by obtain⟨o,e⟩:=fpo b hb;rw[<- hDd];exact Au (Aj e)
 have hf3:∀b∈fp,FpOk X pins (upd H1 D (.lst [])) b:=fun b hb=>⟨by rw[q0c (fpne b hb)];exact(hf b hb).1,(hf b hb).2⟩
 have IY:=Inv.ofcomp (tk:=s₂.toks) tg I3 hkind hnc hc1 hc2 hf3 (fun b hb=>let ⟨o,e⟩:=fpo b hb;⟨o,old3 b o e⟩) (Ij hCd) hns₁ hk co;have FC:FpOk X pins H1 C:=by
  have z:=I3.fpOk (H':=H1) (Ij hCd) (I2.hok.fresh (by rw[hDd,<- hCd,size3];exact Fs _));exact z
 generalize hY:cxComp X (tg++caps.map (·.1)) scope cl C fp s₃ (upd H1 D (.lst []))=Y at IY;have hgY:PG Y target g:=by grind
 have htY:PIfs Y ifs tt:=by grind
 have heY:PE Y elt te:=by grind
 have hYp:Y.prog=X.prog:=by rw[<- hY];rfl
 have hYw:Y.w=X.w:=by rw[<- hY];rfl
 have hYK:Y.K=X.K:=by rw[<- hY];rfl
 have hYA:Y.A=X.A:=by rw[<- hY];rfl
 have hYe:Y.env=Eg scope cl C X.env:=by rw[<- hY];rfl
 have hYx:Y.ex=fp:=by rw[<- hY];rfl
 have hYn:Y.pn=[]:=by rw[<- hY];rfl
 have hYc:Y.calm=true:=by rw[<- hY];exact hc
 have hYxe:Y.xe=fun _ _=>False:=by rw[<- hY];rfl
 have fpY:∀{H':Hp},(∀b∈fp,H' b=none)->∀b∈fp,FpOk Y [] H' b:=fun{H'} hn b hb=>by
  refine⟨hn b hb,?_,?_,.inl (by rw[hYx];exact hb),fun x c e=>?_,fun p hp=>?_⟩
  ·have:=(IY.ok.exf b (by rw[hYx];exact hb)).1;exact this
  ·exact IY.ok.exfs b (by rw[hYx];exact hb)
  ·exact(IY.ok.exf b (by rw[hYx];exact hb)).2 x c e
  ·grind
 obtain⟨W,⟨m0,w0⟩,turn⟩:=hw D hD0;have stY:=T.keep 0 _ _ st fun b hb o e=>hk b o (old3 b o e)
 have back:∀{H':Hp} {s':Ad} {σ':St},Inv Y [] σ' H' s'->Inv X pins σ H' s':=fun{H' s' σ'} IE=>by
  have hun:=IE.base;have hos:=IE.os;rw[<- hY] at hun hos;exact I3.call' hos hun (by have z:=IE.hok;rw[hYp,hYw] at z;exact z) IE.bare fun b hb=>⟨(hf b hb).2.2.2.1,(hf b hb).2.1,(hf b hb).2.2.2.2.1,(hf b hb).2.2.2.2.2⟩
 have gY:∀pins s σ H v u Q (E':Value->Ad->Prop),Inv Y pins σ H s->RelV v u->g v σ H Q->wpAny (model X.prog X.w) X.A (assign target (Eg scope cl C X.env) u) (fun _ s'=>∃σ' H',Inv Y pins σ' H' s'/\Q σ' H') E' s:=fun pins s σ H v u Q E' IE r q=>by
  have z:=hgY pins s σ H v u Q IE r q;rw[hYp,hYw,hYA,hYe,hYxe] at z;exact Bw z (fun _ _ x=>x) fun _ _ f=>f.elim
 have tY:∀pins s σ H Q (E':Value->Ad->Prop),Inv Y pins σ H s->tt σ H Q->wpAny (model X.prog X.w) X.A (forIn ifs true fun c r=>if r=true then do let ok<-isTrue c (Eg scope cl C X.env) (eval c (Eg scope cl C X.env));pure (ForInStep.yield ok) else pure (ForInStep.yield r)) (TP Y pins σ Q) E' s:=fun pins s σ H Q E' IE q=>by
  have z:=htY pins s σ H Q IE q;rw[hYp,hYw,hYA,hYe,hYxe] at z;exact Bw z (fun _ _ x=>x) fun _ _ f=>f.elim
 have eY:∀pins s σ H Q (E':Value->Ad->Prop),Inv Y pins σ H s->te σ H Q->wpAny (model X.prog X.w) X.A (eval elt (Eg scope cl C X.env)) (EP Y pins σ Q) E' s:=fun pins s σ H Q E' IE q=>by
  have z:=heY pins s σ H Q IE q;rw[hYp,hYw,hYA,hYe,hYxe] at z;exact Bw z (fun _ _ x=>x) fun _ _ f=>f.elim
 have aY:∀pins s σ H ys v u Q (E':Value->Ad->Prop),Inv Y pins σ H s->RelV v u->H D=some (.lst ys)->ys.length<sizeLine->Q .non (upd H D (.lst (ys++[v])))->wpAny (model X.prog X.w) X.A (call (.builtin "list.append") [.ref D,u]) (EP Y pins σ Q) E' s:=fun pins s σ H ys v u Q E' IE r hH hz q=>by
  have z:=q2a pins s σ H (.ref D) [v] (.ref D) [u] Q IE rfl (.cons r .nil) ⟨D,ys,v,rfl,rfl,hH,hz,q⟩;rw[hYp,hYw,hYA,hYxe] at z;exact Bw z (fun _ _ x=>x) fun _ _ f=>f.elim
 have tiY:∀i pins s σ H (E':Value->Ad->Prop),Inv Y pins σ H s->(∀b∈fp,FpOk Y pins H b)->tn i s.heap->J.go i H ->
   wpAny (model X.prog X.w) X.A (Gw (.ref it)) (fun r s1=>∃u,r=some u /\
    wpAny (model X.prog X.w) X.A (Ic target (.ref it) u) (fun _ s2=>∃x H',Inv Y pins σ H' s2/\RelV x u/\J.yld i H x H'/\tn (i+1) s2.heap/\∀b∈fp,H' b=none) E' s1) E' s:=fun i pins s σ H E' IE hfy st go=>by
  have z:=T.item Y hYp hYw hYK hYc i pins s σ H E' IE hfy st go;rw[hYA] at z;exact z
 have tdY:∀i pins s σ H (E':Value->Ad->Prop),Inv Y pins σ H s->(∀b∈fp,FpOk Y pins H b)->tn i s.heap->J.stop i H ->
   wpAny (model X.prog X.w) X.A (Gw (.ref it)) (fun r s1=>r=none/\Inv Y pins σ H s1) E' s:=fun i pins s σ H E' IE hfy st go=>by
  have z:=T.done Y hYp hYw hYK hYc i pins s σ H E' IE hfy st go;rw[hYA] at z;exact z
 have loop:Er (model X.prog X.w) X.A (.compLoop (.ListComp elt [⟨target,iter,ifs,0⟩] scope pos) 0 (.ref it) (.ref D) (Eg scope cl C X.env)) (RR (.ref D) C) { s₃ with heap:=h₁,toks:=s₂.toks }:=by
  refine codeAny_loop rfl (fun n s'=>∃i ys H',Inv Y [] (tg0 tg σ caps) H' s'/\tn i s'.heap/\(∀b∈fp,H' b=none)/\W i n ys H') ?_ m0 ⟨0,[],_,IY,stY,fun b hb=>(hf3 b hb).1,w0⟩;rintro n s4 ⟨i,ys,H4,I4,st4,fr4,w4⟩;refine wpAny_noted ?_;obtain⟨hHD,alt⟩:=turn i n ys H4 w4;rcases alt with⟨stop,fin⟩|⟨go,N,hN,step⟩
  ·refine Aa (Gd (Aa (thn (tdY i [] s4 _ H4 _ I4 (fpY fr4) st4 stop) fun r s5 ⟨hr,I5⟩=>?_)));subst hr;refine Ab (hRR D C ys H4 s5 hD0 (back I5) ?_ ⟨?_,FC.2⟩ fin)
   ·obtain⟨m,hm,_⟩:=I5.loc;rw[hYe] at hm;exact⟨m,hm⟩
   ·have z:=I5.free;rw[hYe] at z;exact z
  ·refine Aa (Gd (Aa (thn (tiY i [] s4 _ H4 _ I4 (fpY fr4) st4 go) fun r s5 ⟨u,hr,h5⟩=>?_)));subst hr;refine Aa (thn h5 fun _ s6 ⟨x,H6,I6,r6,y6,st6,fr6⟩=>?_);have I6':=I6.pinned (fpY fr6) (T.obj _ _ st6);refine Aa (thn (gY _ s6 _ H6 x u _ _ I6' r6 (step x H6 y6)) fun _ s7 ⟨σ7,H7,I7,kp,q7⟩=>?_);refine Aa (thn (tY _ s7 σ7 H7 _ _ I7 q7) fun b s8 ⟨H8,I8,q8⟩=>?_);have again:∀{H9:Hp} {s9:Ad} {zs:List V} {m':Nat},Inv Y ([]++pinsAt fp s6.heap) σ7 H9 s9->m'<n->W (i+1) m' zs H9->∃m,m<n/\∃i ys H',Inv Y [] (tg0 tg σ caps) H' s9/\tn i s9.heap/\(∀b∈fp,H' b=none)/\W i m ys H':=fun{H9 s9 zs m'} I9 hm w9=>by
    refine⟨m',hm,i+1,zs,H9,I9.unpinned.weak kp.1 kp.2,T.keep _ _ _ st6 fun b hb o e=>(I9.pin (b,o) (Bf _ (Bf _ (q1s hb e)))).1,fun b hb=>?_,w9⟩;obtain⟨o,e,d⟩:=T.obj _ _ st6 b hb;exact(I9.pin (b,o) (Bf _ (Bf _ (q1s hb e)))).2.1
   cases b with
   |true =>
    refine Aa (Aa (thn (eY _ s8 σ7 H8 _ _ I8 q8) fun v s9 ⟨vv,H9,I9,r9,hH9,hz9,n9⟩=>?_));obtain⟨m',hm',w9⟩:=hN _ _ n9;refine Aa (thn (aY _ s9 σ7 H9 ys vv v (fun _ H10=>W (i+1) m' (ys++[vv]) H10) _ I9 r9 hH9 hz9 w9) fun _ s10 ⟨_,H10,I10,_,w10⟩=>?_);exact Ab (Ab ⟨rfl,again I10 hm' w10⟩)
   |false =>
    obtain⟨m',hm',w8⟩:=hN _ _ q8;exact Ab ⟨rfl,again I8 hm' w8⟩
 rw[o3];exact codeAny_compStart_list loop (T.self _ 0 _ _ _ stY loop)
def isCF(k:Option Ax):Bool:=k==some .cell||k==some .free
def capChk(N:List Str)(names outer:List (Str×Ax)):Caps->Bool
 |[]=>true
 |(x,i)::r=>decide (N[i]?=some x)&&(names.lookup x==some .free)&&isCF (outer.lookup x)&&capChk N names outer r
def compChk(N:List Str)(outer scope:Scope)(caps:Caps):Bool :=
 (scope.kind==.function)&&(scope.names.all fun y=>y.2 != .cell&&(y.2 != .local||scope.names.lookup y.1==some .local)&&(y.2 != .free||isCF (outer.names.lookup y.1)))&&capChk N scope.names outer.names caps
theorem z3c(h:isCF k=true):k=some .cell\/k=some .free:=by
 unfold isCF at h;simpa using h
theorem q7v:∀{caps:Caps},capChk X.N scope.names X.env.scope.names caps=true->CapOk X scope caps
 |[],_=>trivial
 |(x,i)::r,h=>by
  unfold capChk at h;simp only[Eb] at h;obtain⟨⟨⟨h1,h2⟩,h3⟩,h4⟩:=h;exact⟨⟨of_decide_eq_true h1,by simpa using h2,z3c h3⟩,q7v h4⟩
theorem q3v(h:compChk X.N X.env.scope scope caps=true):
  scope.kind=.function/\(∀y∈scope.names,y.2≠.cell)/\(∀y∈scope.names,y.2=.local->scope.names.lookup y.1=some .local)/\(∀x,(x,Ax.free)∈scope.names->X.env.scope.names.lookup x=some .cell\/X.env.scope.names.lookup x=some .free)/\CapOk X scope caps:=by
 unfold compChk at h;simp only[Eb,Jt] at h;obtain⟨⟨h1,h2⟩,h3⟩:=h;refine⟨by simpa using h1,fun y hy e=>?_,fun y hy e=>?_,fun x hx=>?_,q7v h3⟩
 ·have z:=(h2 y hy).1.1;rw[e] at z;simp at z
 ·have z:=(h2 y hy).1.2;rw[e] at z;simpa using z
 ·have z:=(h2 _ hx).2;exact z3c (by simpa using z)
def tComp(wi:TI)(g:TG)(tt:TT)(te:TE)(tg:List Str)(caps:Caps):TE:=fun σ H Q=>wi σ H fun J H1=>∀D,H1 D=none->CompW J g tt te (tg0 tg σ caps) D (fun _ H'=>Q (.ref D) H') H1
section
variable{X:Cx}{iter target elt:Expr}{ifs:List Expr}{scope:Scope}{pos:Pos}{wi:TI}{g:TG}{tt:TT}{te:TE}
theorem q9f{σ:St}(I:Inv X pins σ H s)(hfree:∀x,(x,Ax.free)∈scope.names->X.env.scope.names.lookup x=some .cell\/X.env.scope.names.lookup x=some .free):
  ∃cl,Ry scope X.env=pure cl/\(∀x c,cl.lookup x=some c->X.env.cells.lookup x=some c)/\∀x,(x,Ax.free)∈scope.names->∃c,cl.lookup x=some c :=
 z1p fun x hx=>I.ok.has x (hfree x hx)
theorem q4q(tg:List Str)(caps:Caps)(hc:X.calm=true)(hi:PI X target iter wi)(hg:∀cl C fp s H,PG (cxComp X (tg++caps.map (·.1)) scope cl C fp s H) target g)(ht:∀cl C fp s H,PIfs (cxComp X (tg++caps.map (·.1)) scope cl C fp s H) ifs tt)(he:∀cl C fp s H,PE (cxComp X (tg++caps.map (·.1)) scope cl C fp s H) elt te)(hk:compChk X.N X.env.scope scope caps=true:=by rfl)(hs:∀x,Jg iter X.env x=pure x:=by intro _;rfl):
  PE X (.ListComp elt [⟨target,iter,ifs,0⟩] scope pos) (tComp wi g tt te tg caps):=by
 intro pins s σ H Q I h;obtain⟨hkind,hnc,hnames,hfree,co⟩:=q3v hk;obtain⟨cl,hclos,hc1,hc2⟩:=q9f I hfree;refine Io rfl hs hclos hkind hnames (thn (hi pins s σ H _ I h) fun v s1 h1=>thn h1 fun itv s2 h2=>?_);obtain⟨it,fp,tn,J,H2,e,I2,T,st2,f2,hw⟩:=h2;subst e;refine z5x hc hkind hnc hc1 hc2 co (fun C s H=>hg cl C fp s H) (fun C s H=>ht cl C fp s H) (fun C s H=>he cl C fp s H) I2 T st2 f2 hw ?_;intro D C ys H' s' hD I' hm F fin;obtain⟨m,hm⟩:=hm;refine⟨m,hm,fun h' hsb=>⟨.ref D,H',I'.turned (t':=s'.toks) (fun b o hb e=>(hsb.2 b hb).trans e) F.1 F.2.1 F.2.2.2.1 F.2.2.2.2.1 F.2.2.2.2.2,rfl,fin⟩⟩
end
theorem q6q{Fin:List V->Hp->Prop}(Pv:Nat->List V->Hp->Prop)(h0:Pv 0 [] (upd H1 D (.lst [])))(hl:∀i ys H,Pv i ys H->H D=some (.lst ys))(hgo:∀i ys H,i<n->Pv i ys H->J.go i H)(hstop:∀ys H,Pv n ys H->J.stop n H)(hs:∀i ys H x H',i<n->Pv i ys H->J.yld i H x H'->g x σ0 H' fun σ2 H2=>Keeps0 σ0 σ2/\tt σ2 H2 fun b H3 =>
   if b=true then te σ2 H3 fun v H4=>H4 D=some (.lst ys)/\ys.length<sizeLine/\Pv (i+1) (ys++[v]) (upd H4 D (.lst (ys++[v]))) else Pv (i+1) ys H3)(hd:∀ys H,Pv n ys H->Fin ys H):CompW J g tt te σ0 D Fin H1:=by
 refine⟨fun i m ys H=>m=n-i/\i<=n/\Pv i ys H,⟨n,by simp,Bv _,h0⟩,?_⟩;rintro i m ys H ⟨rfl,hi,p⟩;refine⟨hl i ys H p,?_⟩;by_cases hlt:i<n
 ·exact .inr ⟨hgo i ys H hlt p,Pv (i+1),fun zs H' q=>⟨n-(i+1),by lia,rfl,hlt,q⟩,fun x H' y=>hs i ys H x H' hlt p y⟩
 ·grind
theorem z1q{lo:Int}{Fin:List V->Hp->Prop}(Pv:Nat->List V->Hp->Prop)(h0:Pv 0 [] (upd H1 D (.lst [])))(hl:∀i ys H,Pv i ys H->H D=some (.lst ys))(hs:∀i ys H,i<n->Pv i ys H->g (.int (lo+i)) σ0 H fun σ2 H2=>Keeps0 σ0 σ2/\tt σ2 H2 fun b H3 =>
   if b=true then te σ2 H3 fun v H4=>H4 D=some (.lst ys)/\ys.length<sizeLine/\Pv (i+1) (ys++[v]) (upd H4 D (.lst (ys++[v]))) else Pv (i+1) ys H3)(hd:∀ys H,Pv n ys H->Fin ys H):CompW (Itr lo n) g tt te σ0 D Fin H1 :=
 q6q Pv h0 hl (fun i ys H h _=>h) (fun ys H _=>Ai _) (fun i ys H x H' h p y=>by obtain⟨e,y⟩:=y;subst e y;exact hs i ys _ h p) hd
theorem z3d{K:Af}{Fin:List V->Hp->Prop}(Pv:Nat->List V->Hp->Prop)(h0:Pv 0 [] (upd H1 D (.lst [])))(hl:∀i ys H,Pv i ys H->H D=some (.lst ys)/\SqL K H a xs)(hs:∀i ys H x,xs[i]?=some x->Pv i ys H->g x σ0 H fun σ2 H2=>Keeps0 σ0 σ2/\tt σ2 H2 fun b H3 =>
   if b=true then te σ2 H3 fun v H4=>H4 D=some (.lst ys)/\ys.length<sizeLine/\Pv (i+1) (ys++[v]) (upd H4 D (.lst (ys++[v]))) else Pv (i+1) ys H3)(hd:∀ys H,Pv xs.length ys H->Fin ys H):CompW (Itl K a) g tt te σ0 D Fin H1 :=
 q6q Pv h0 (fun i ys H p=>(hl i ys H p).1) (fun i ys H h p=>⟨xs,xs[i],(hl i ys H p).2,by simp[h]⟩) (fun ys H p=>⟨xs,(hl _ ys H p).2,Ai _⟩)
  (fun i ys H x H' h p y=>by obtain⟨e,y⟩:=y;subst e;exact hs i ys _ x (y xs (hl i ys _ p).2) p) hd
theorem q2v{r:St}:Keeps0 (none::r) (v::r):=⟨rfl,fun i w h=>by
 cases i with
 |zero=>cases h
 |succ i=>exact h⟩
theorem q6a{r:St}:Keeps0 (none::none::r) (v::w::r):=⟨rfl,fun i u h=>by
 cases i with
 |zero=>cases h
 |succ i=>cases i with
  |zero=>cases h
  |succ i=>exact h⟩
open PySem PySem.Spec PyProof.Rows
section
variable{X:Cx}
theorem bigline:sizeLine=16777216:=Cp
def rSlS:V->Option Int->Option Int->Hp->VK->Prop:=fun x lo hi H Q=>∃z,x=.str z/\z.length<=sizeLine/\Q (.str (Txt.slice z lo hi)) H
theorem q5d(h:Jm v o):∃p:Option (Int×Tok),v=partValue p/\o=p.map (·.1):=by
 cases h with
 |none=>exact⟨none,rfl,rfl⟩
 |int i t=>exact⟨some (i,t),rfl,rfl⟩
theorem sl_str:SlR X rSlS:=by
 intro pins s σ H x v vl vu lo hi sl Q I rx hs pl pu h;obtain⟨z,rfl,hz,q⟩:=h;obtain⟨t,rfl⟩:=rx;obtain⟨p1,rfl,rfl⟩:=q5d pl;obtain⟨p2,rfl,rfl⟩:=q5d pu;refine⟨"str",_,F.slot_str_getitem.lookup,Oi _ _ _,wpAny_getItem_str_slice (st:=none) hs rfl
  (post_val_or_str ⟨By (Txt.slice_le z _ _) hz,fun t' k=>⟨.str (Txt.slice z (p1.map (·.1)) (p2.map (·.1))),H,I.tok _,⟨t',rfl⟩,q⟩⟩)⟩
def rLower:V->List V->Hp->VK->Prop:=fun x vs H Q=>∃z,x=.str z/\vs=[]/\3*z.length<=sizeLine/\Q (.str (Txt.lower z)) H
theorem fit3(h:n<=3*m)(h2:3*m<=sizeLine):Pg n=false:=by
 exact decide_eq_false (by lia)
theorem q4r:MtM X "str.lower" rLower:=by
 intro pins s σ H x vs v us Q I rx rv h;obtain⟨z,rfl,rfl,hz,q⟩:=h;obtain⟨t,rfl⟩:=rx;cases rv.zero;exact SC.lower (fit3 (len_lower z) hz) ⟨.str _,H,I.tok _,⟨_,rfl⟩,q⟩
def rUpper:V->List V->Hp->VK->Prop:=fun x vs H Q=>∃z,x=.str z/\vs=[]/\3*z.length<=sizeLine/\Q (.str (Txt.upper z)) H
theorem z5y:MtM X "str.upper" rUpper:=by
 intro pins s σ H x vs v us Q I rx rv h;obtain⟨z,rfl,rfl,hz,q⟩:=h;obtain⟨t,rfl⟩:=rx;cases rv.zero;exact SC.upper (fit3 (len_upper z) hz) ⟨.str _,H,I.tok _,⟨_,rfl⟩,q⟩
theorem q3w:∀{ys:List Str} {us:List Value},Vals (ys.map V.str) us->Fb us ys
 |[],_,.nil=>.nil
 |y::ys,_,.cons r t=>by obtain⟨k,rfl⟩:=r;exact .cons y k (q3w t)
def rJoin(K:Af):V->List V->Hp->VK->Prop:=fun x vs H Q=>∃(z:Str) (p:Addr) (ys:List Str),x=.str z/\vs=[.ref p]/\(SqL K H p (ys.map V.str)\/SqT K H p (ys.map V.str))/\(ys.map (·.length)).sum+ys.length*z.length<=16777216/\Q (.str (Rb z ys)) H
theorem z8p:MtM X "str.join" (rJoin X.K):=by
 intro pins s σ H x vs v us Q I rx rv h;obtain⟨z,p,ys,rfl,rfl,hq,hz,q⟩:=h;obtain⟨t,rfl⟩:=rx;obtain⟨u,rfl,ru⟩:=rv.one;cases ru;rcases hq with hq|hq
 ·obtain⟨its,r,pl,_⟩:=I.list hq;exact join_list pl.isList (q3w (by simpa using r)) hz fun t' k=>⟨.str _,H,I.tok _,⟨_,rfl⟩,q⟩
 ·obtain⟨its,r,pl,_⟩:=I.tuple hq;exact join_tuple pl (q3w (by simpa using r)) hz fun t' k=>⟨.str _,H,I.tok _,⟨_,rfl⟩,q⟩
def rMulS:R2:=fun x y H Q=>∃z n,x=.str z/\y=.int n/\MulOk z n/\Q (.str (Txt.mul z n)) H
theorem op_mulS:OpR X (Ep .Mult) rMulS:=by
 intro pins s σ H x y v u Q I rx ry h;obtain⟨z,n,rfl,rfl,hm,q⟩:=h;obtain⟨t,rfl⟩:=rx;obtain⟨t',rfl⟩:=ry;exact SB.mul hm fun t2 k=>⟨.str _,H,I.tok _,⟨_,rfl⟩,q⟩
theorem q9g:CallR X (.builtin "isinstance") (fun xs H Q=>∃x c t b,xs=[x,.ty c]/\TyOf X.K H x t/\Og X.K t (.type c)=some b/\Q (.bl b) H):=by
 intro pins s σ H xs us Q I r h;obtain⟨x,c,t,b,rfl,ty,e,q⟩:=h;obtain⟨u,v,rfl,ru,rv⟩:=r.two;cases rv;exact q7k I ru ty e fun tk=>⟨.bl b,H,I.tok _,rfl,q⟩
def Its(z:Str):It:=⟨fun i _=>i<z.length,fun i H x H'=>H'=H/\∃c,z.cps[i]?=some c/\x=.str ⟨#[c]⟩,fun i _=>z.length<=i⟩
end
theorem z3e{K:Af}(it:Addr)(z:Str)(t:Tok):Turn P w K tg (Its z) [it] it (fun i h=>i<=z.length/\h.IsStrIter it "str_ascii_iterator" z t i) where
 mem:=by simp
 obj:=fun i h st b hb=>by
  have e:b=it:=by grind
  subst e;obtain⟨_,o,e,c,d⟩:=st;exact⟨o,e,fun v z=>by rw[d] at z;cases z⟩
 keep:=fun i h h' st k=>⟨st.1,let ⟨o,e,c,d⟩:=st.2;⟨o,k it (by simp) o e,c,d⟩⟩
 item:=by
  intro X hP hw hK hc i pins s σ H E I hf st hg;obtain⟨f0,f1,f2,f3,f4,f5⟩:=hf it (by simp);have hi:i<z.cps.size:=hg;refine wpAny_pyNext_ascii_item st.2 (c:=z.cps[i]) (by simp[hi]) fun h' hit' hs'=>?_;have I1:Inv X pins σ H { s with heap:=h',toks:=s.toks+1 }:=I.turned (fun b o hb e=>(hs'.2 b hb).trans e) f0 f1 f3 f4 f5;obtain⟨o,e,c,d⟩:=id hit';exact⟨_,rfl,z1c e c d (by decide) ⟨.str ⟨#[z.cps[i]]⟩,H,I1,⟨_,rfl⟩,⟨rfl,_,by simp[hi],rfl⟩,⟨hg,hit'⟩,fun b hb=>(hf b hb).1⟩⟩
 done:=by
  intro X hP hw hK hc i pins s σ H E I hf st hg;obtain⟨f0,f1,f2,f3,f4,f5⟩:=hf it (by simp);have hi:z.cps.size<=i:=hg;exact wpAny_pyNext_ascii_end (I.ok.hd hc) st.2 (by simp;lia) fun h' eb=>⟨rfl,I.turned (t':=s.toks) (fun b o hb e=>eb b o hb e) f0 f1 f3 f4 f5⟩
 self:=fun _ _ _ _ _ st h=>wpAny_pyIter_striter_ascii st.2 h
theorem z3f{K:Af}(it:Addr)(z:Str)(t:Tok):Turn P w K tg (Its z) [it] it (fun i h=>i<=z.length/\h.IsStrIter it "str_iterator" z t i) where
 mem:=by simp
 obj:=fun i h st b hb=>by
  have e:b=it:=by grind
  subst e;obtain⟨_,o,e,c,d⟩:=st;exact⟨o,e,fun v z=>by rw[d] at z;cases z⟩
 keep:=fun i h h' st k=>⟨st.1,let ⟨o,e,c,d⟩:=st.2;⟨o,k it (by simp) o e,c,d⟩⟩
 item:=by
  intro X hP hw hK hc i pins s σ H E I hf st hg;obtain⟨f0,f1,f2,f3,f4,f5⟩:=hf it (by simp);have hi:i<z.cps.size:=hg;refine wpAny_pyNext_wide_item st.2 (c:=z.cps[i]) (by simp[hi]) fun h' hit' hs'=>?_;have I1:Inv X pins σ H { s with heap:=h',toks:=s.toks+1 }:=I.turned (fun b o hb e=>(hs'.2 b hb).trans e) f0 f1 f3 f4 f5;obtain⟨o,e,c,d⟩:=id hit';exact⟨_,rfl,z1c e c d (by decide) ⟨.str ⟨#[z.cps[i]]⟩,H,I1,⟨_,rfl⟩,⟨rfl,_,by simp[hi],rfl⟩,⟨hg,hit'⟩,fun b hb=>(hf b hb).1⟩⟩
 done:=by
  intro X hP hw hK hc i pins s σ H E I hf st hg;obtain⟨f0,f1,f2,f3,f4,f5⟩:=hf it (by simp);have hi:z.cps.size<=i:=hg;exact wpAny_pyNext_wide_end (I.ok.hd hc) st.2 (by simp;lia) fun h' eb=>⟨rfl,I.turned (t':=s.toks) (fun b o hb e=>eb b o hb e) f0 f1 f3 f4 f5⟩
 self:=fun _ _ _ _ _ st h=>wpAny_pyIter_striter_wide st.2 h
open PySem PySem.Spec PyProof.Rows
structure Vw (K:Af) (H:Hp) (h:Heap):Prop where
 lst:∀a xs,SqL K H a xs->∃its:List Value,Vals xs its/\h.IsList a its.toArray
 tup:∀a xs,SqT K H a xs->∃its:List Value,Vals xs its/\h.IsTuple a its.toArray
theorem SqL.ne{K:Af}(h:SqL K H a xs)(hb:H b=none)(hk:K.lookup b=none):a≠b:=by
 rintro rfl;rcases h with(h|⟨o,h⟩)|⟨o,_,_,h,_⟩
 ·rw[hb] at h;cases h
 ·rw[hb] at h;cases h
 ·rw[hk] at h;cases h
theorem SqT.ne{K:Af}(h:SqT K H a xs)(hb:H b=none)(hk:K.lookup b=none):a≠b:=by
 rintro rfl;rcases h with(h|⟨o,h⟩)|⟨o,_,_,h,_⟩
 ·rw[hb] at h;cases h
 ·rw[hb] at h;cases h
 ·rw[hk] at h;cases h
theorem Vw.linj{K:Af}(v:Vw K H h)(p:SqL K H a xs)(q:SqL K H a ys):xs=ys:=by
 obtain⟨its,r,o,e,_,n,d⟩:=v.lst a xs p;obtain⟨its',r',o',e',_,n',d'⟩:=v.lst a ys q;have:its=its':=by grind
 subst this;exact r.inj r'
theorem Inv.vw{σ:St}(I:Inv X pins σ H s):Vw X.K H s.heap :=
 ⟨fun a xs q=>let ⟨its,r,l,_⟩:=I.list q;⟨its,r,l.isList⟩,fun a xs q=>let ⟨its,r,l,_⟩:=I.tuple q;⟨its,r,l⟩⟩
structure Srce (P:Program) (w:World) (K:Af) (J:It) (it:Addr) (st:Nat->Heap->Prop):Prop where
 obj:∀i h,st i h->∃o,h.get? it=some o/\∀v,o.data≠.cell v
 keep:∀i h h',st i h->(∀o,h.get? it=some o->h'.get? it=some o)->st i h'
 item:∀(A:Around) (i:Nat) (s:Ad) (H:Hp) (Q:Value->Ad->Prop) (E:Value->Ad->Prop),A.handled=none->Vw K H s.heap->H it=none->K.lookup it=none->st i s.heap->J.go i H ->
  (∀u x h' tk,RelV x u->J.yld i H x H->st (i+1) h'->De it s.heap h'->Q u { s with heap:=h',toks:=tk })->wpAny (model P w) A (Lp (.ref it)) Q E s
 done:∀(A:Around) (i:Nat) (s:Ad) (H:Hp) (Q:Value->Ad->Prop) (E:Value->Ad->Prop),A.handled=none->Vw K H s.heap->H it=none->K.lookup it=none->st i s.heap->J.stop i H ->
  (∀h' e,Na it s.heap h'->(∃o,h'.get? e=some o/\o.cls=.type "StopIteration")->E (.ref e) { s with heap:=h' })->wpAny (model P w) A (Lp (.ref it)) Q E s
theorem z3g{K:Af}(a it:Addr):Srce P w K (Itl K a) it (fun i h=>h.IsListIter it a i) where
 obj:=fun i h st=>by obtain⟨o,e,c,d⟩:=st;exact⟨o,e,fun v z=>by rw[d] at z;cases z⟩
 keep:=fun i h h' st k=>st.at fun o e=>k o e
 item:=fun A i s H Q E hh vw hn hk st go hQ=>by
  obtain⟨xs,x,hq,hx⟩:=go;obtain⟨its,rv,p⟩:=vw.lst a xs hq;obtain⟨u,hu,ru⟩:=rv.get hx;refine wpAny_nextOf_list_item st p (by simpa using hu) fun h' st' sb=>?_
  exact hQ u x h' s.toks ru ⟨rfl,fun ys hy=>by rw[vw.linj hy hq];exact hx⟩ st' sb
 done:=fun A i s H Q E hh vw hn hk st stop hE=>by
  obtain⟨xs,hq,hx⟩:=stop;obtain⟨its,rv,p⟩:=vw.lst a xs hq;have hl:=rv.length;exact wpAny_nextOf_list_end hh st p (by simp;lia) hE
def stStr(it:Addr)(z:Str)(t:Tok)(i:Nat)(h:Heap):Prop:=h.IsStrIter it (Hz z) z t i
theorem z5z{K:Af}(it:Addr)(z:Str)(t:Tok):Srce P w K (Its z) it (stStr it z t) where
 obj:=fun i h st=>by obtain⟨o,e,c,d⟩:=st;exact⟨o,e,fun v z=>by rw[d] at z;cases z⟩
 keep:=fun i h h' st k=>by obtain⟨o,e,r⟩:=st;exact⟨o,k o e,r⟩
 item:=fun A i s H Q E hh vw hn hk st go hQ=>by
  have hi:i<z.cps.size:=go;unfold stStr Hz at st;cases ha:z.cps.all (· < 128)
  ·rw[ha] at st;refine wpAny_nextOf_wide_item st (c:=z.cps[i]) (by simp[hi]) fun h' hit' hs'=>?_;exact hQ _ (.str ⟨#[z.cps[i]]⟩) h' (s.toks+1) ⟨_,rfl⟩ ⟨rfl,_,by simp[hi],rfl⟩ (by unfold stStr Hz;rw[ha];exact hit') hs'
  ·rw[ha] at st;refine wpAny_nextOf_ascii_item st (c:=z.cps[i]) (by simp[hi]) fun h' hit' hs'=>?_;exact hQ _ (.str ⟨#[z.cps[i]]⟩) h' (s.toks+1) ⟨_,rfl⟩ ⟨rfl,_,by simp[hi],rfl⟩ (by unfold stStr Hz;rw[ha];exact hit') hs'
 done:=fun A i s H Q E hh vw hn hk st stop hE=>by
  have hi:z.cps.size<=i:=stop;unfold stStr Hz at st;cases ha:z.cps.all (· < 128)
  ·rw[ha] at st;exact wpAny_nextOf_wide_end hh st (by simp;lia) hE
  ·rw[ha] at st;exact wpAny_nextOf_ascii_end hh st (by simp;lia) hE
theorem Inv.turnedL{σ:St}{ch:List Addr}(I:Inv X pins σ H s)(k:∀b o,b∉ch->s.heap.get? b=some o->h'.get? b=some o)(hf:∀b∈ch,FpOk X pins H b):Inv X pins σ H { s with heap:=h',toks:=t' }:=by
 have nit:∀b u,H b=some u->b∉ch:=fun b u e z=>by rw[(hf b z).1] at e;cases e
 refine I.step (g':=s.gens) (d':=s.drawn) (fun b hb=>?_) (fun b o _ _ hc e _=>k b o hc e) (fun b o _ _ hc e _=>⟨o.slots,k b o hc e⟩) (fun _ _ _ _ n=>n)
  (fun b o hc e=>?_) (fun _ _ e=>e) (fun _ _ _ e=>e) (fun b ps e=>⟨#[],by rw[e];simp⟩) (fun m hm=>?_) (fun b u e=>?_) I.bare
 ·exact⟨(hf b hb).2.2.2.1,(hf b hb).2.1,(hf b hb).2.2.2.2.1,(hf b hb).2.2.2.2.2⟩
 ·exact⟨o,k b o hc e⟩
 ·obtain⟨o,es,ep,ho,r⟩:=hm;exact⟨o,es,ep,k _ o (fun z=>(hf _ z).2.1 rfl) ho,r⟩
 ·refine(I.hok b u e).stay (fun c v hc q=>k c v ?_ q) (fun _ q=>q) fun _ _ q=>q;rcases hc with z|z
  ·rw[z];exact nit b u e
  ·exact nit c _ z
theorem Inv.track{σ:St}{T:Addr}(I:Inv X pins σ H s)(hT:X.s₀.heap.objs.size<=T)(hF:FpOk X pins H T)(new:ObjOk X.prog X.w (upd H T o) s.heap T o):Inv X pins σ (upd H T o) s:=by
 have hn:=hF.1;refine⟨I.ok,I.os,I.bare,⟨I.base.keep,I.base.slot,fun b ob e n hx=>?_,I.base.there,fun b xs e=>?_,fun b ob u e=>?_,fun b ps e=>?_⟩,I.loc,I.cell,?_,fun x c e=>?_,fun p hp=>?_,fun b u e=>?_,I.len⟩
 ·rw[q0c (Au (Be (Aj e) hT))];exact I.base.free b ob e n hx
 ·have z:=I.base.tups b xs e;rw[q0c (q0h z hn)];exact z
 ·have z:=I.base.frzs b ob u e;rw[q0c (q0h z hn)];exact z
 ·obtain⟨m,z⟩:=I.base.tbls b ps e;exact⟨m,by rw[q0c (q0h z hn)];exact z⟩
 ·rw[q0c (Dp hF.2.1)];exact I.free
 ·rw[q0c (hF.2.2.2.2.1 x c e)];exact I.freeC x c e
 ·obtain⟨e,n,ne,nf,d⟩:=I.pin p hp;exact⟨e,by rw[q0c (hF.2.2.2.2.2 p hp)];exact n,ne,nf,d⟩
 ·by_cases hb:b=T
  ·subst hb;rw[q0b] at e;cases e;exact new
  ·rw[q0c hb] at e;exact(I.hok b u e).stay (fun _ _ _ q=>q) (fun c q=>by rw[q0c (q0h q hn)];exact q) fun c xs q=>by rw[q0c (q0h q hn)];exact q
theorem FpOk.noK{σ:St}(I:Inv X pins σ H' s)(f:FpOk X pins H b):X.K.lookup b=none:=by
 cases e:X.K.lookup b with
 |none=>rfl
 |some o =>
  have e1:=I.ok.mod.kin b o e;rcases f.2.2.2.1 with z|z
  ·exact absurd z (I.ok.noex b o e1)
  ·exact absurd (Be (Aj (I.ok.bs b o e1).1) z) (Dy _)
abbrev zs1(h:Heap)(x:Str)(t:Tok):Heap:=h.push { cls:=.type (Hz x),data:=.fields #[.str x t,.int 0 0] }
abbrev zs2(h:Heap)(x y:Str)(t u:Tok):Heap:=(zs1 h x t).push { cls:=.type (Hz y),data:=.fields #[.str y u,.int 0 0] }
set_option maxHeartbeats 4000000 in
section
variable{X:Cx}{elts:List Expr}{kk:Nat}{tpos:Pos}
theorem z7s{J:It}{g:TG}{tb:TS}{D:Ends}(Pv:Nat->St->Hp->Prop)(h0:Pv 0 σ H)(hgo:∀i σ H,i<n->Pv i σ H->J.go i H)(hstop:∀σ H,Pv n σ H->J.stop n H)(hs:∀i x σ H H',i<n->Pv i σ H->J.yld i H x H'->g x σ H' fun σ2 H2=>tb { D with nx:=Pv (i+1),ct:=Pv (i+1),bk:=D.nx } σ2 H2)(hd:∀σ H,Pv n σ H->D.nx σ H):
  ∃W:Nat->Nat->St->Hp->Prop,(∃m,W 0 m σ H)/\∀i m σ H,W i m σ H ->
   (J.stop i H/\D.nx σ H)\/(J.go i H/\∃N:St->Hp->Prop,(∀σ' H',N σ' H'->∃m',m'<m/\W (i+1) m' σ' H')/\∀x H',J.yld i H x H'->g x σ H' fun σ2 H2=>tb { D with nx:=N,ct:=N,bk:=D.nx } σ2 H2):=by
 refine⟨fun i m σ H=>m=n-i/\i<=n/\Pv i σ H,⟨n,by simp,Bv _,h0⟩,?_⟩;rintro i m σ H ⟨rfl,hi,p⟩;by_cases hlt:i<n
 ·exact .inr ⟨hgo i σ H hlt p,Pv (i+1),fun σ' H' p'=>⟨n-(i+1),by lia,rfl,hlt,p'⟩,fun x H' y=>hs i x σ H H' hlt p y⟩
 ·grind
end
open PySem PySem.Spec PyProof.Rows
structure Cal (P:Program) (w:World) (K:Af) (mg:Str->Option Value) (base:Heap) (x:Str) (k:Nat) (ps:List Str) (sp:Sp):Prop where
 ex:∃f fd,FnOk P w K mg base CX0 k f fd ps sp/\mg x=some (.ref f)/\Gm K (.ref f)=true/\Binds K fd ps []
structure Df (K:Af) (mg:Str->Option Value) (x:Str) (st:Stmt) (ps:List Str):Prop where
 ex:∃f fd,Fun K x x st f fd/\mg x=some (.ref f)/\Binds K fd ps []
theorem Df.cal{K:Af}{st:Stmt}(D:Df K mg x st ps)(S:FnScope N ps (defScope st))(len:∀vs H Q E,sp vs H Q E->vs.length=ps.length)(hbody:∀(f:Addr) (cdv:Value) (A:Around) (outer:List Env) (s:Ad) (H:Hp) (vs:List V) (Q:VK) (E:XK),Room k (A.deeper (Il x (defScope st) s.heap.objs.size f cdv))->sp vs H Q E ->
   ∃t,PSs (cxOf CX0 P w K mg base N x (defScope st) f cdv A outer s H E).nox (defBody st) t/\t { nx:=fun _ H'=>Q .non H',rt:=Q } (start N vs) H):Cal P w K mg base x (k+1) ps sp:=by
 obtain⟨f,fd,F,hm,hb⟩:=D.ex;exact⟨f,fd,F.ok S len fun cdv A outer s H vs Q E hr h=>hbody f cdv A outer s H vs Q E hr h,hm,F.kp,hb⟩
theorem Cal.imp{K:Af}(C:Cal P w K mg base x k ps sp)(h:∀vs H Q E,sp' vs H Q E->sp vs H Q E):Cal P w K mg base x k ps sp':=by
 obtain⟨f,fd,F,r⟩:=C.ex;exact⟨f,fd,F.imp h,r⟩
section
variable{X:Cx}{x:Str}{k j:Nat}{ps:List Str}{sp:Sp}{p pos:Pos}{e:Expr}{es:List Expr}{t:TA}
theorem pe_c(C:Cal X.prog X.w X.K X.mg X.base x k ps sp)(hr:Room j X.A)(ha:PA X (e::es) t)(hjk:k<=j:=by decide)(hg:Gl X x:=by rfl)(hdb:(x==("__debug__" : Str))=false:=by decide)(he:Bc (e::es) X.env=(false,eval e X.env)::Bc es X.env:=by rfl)(hpl:(Du pos (Bc es X.env)).any (·.1)=false:=by rfl):
  PE X (.Call (.Name x p) (e::es) [] pos) (tCall sp [] E0 t):=by
 obtain⟨f,fd,F,hm,hk,hb⟩:=C.ex;exact z8k F (hr.mono hjk) hg hm hk hb .nil pass0 ha hdb he hpl
end
theorem PI.or(h1:PI X tg l w1)(h2:PI X tg l w2):PI X tg l (fun σ H R=>w1 σ H R\/w2 σ H R):=by
 intro pins s σ H R I h;rcases h with h|h
 ·exact h1 pins s σ H R I h
 ·exact h2 pins s σ H R I h
structure FeedAt (H:Hp) (a b:Addr):Prop where
 fa:∃i j:Int,H a=some (.lst [.ref b,.int i,.int j])
 fb:∃ns:List Int,H b=some (.lst (ns.map V.int))
structure Fd (a b:Addr) (H H':Hp):Prop where
 feed:FeedAt H' a b
 keep:∀c o,H c=some o->c≠a->H' c=some o
theorem FeedAt.ne(F:FeedAt H a b):b≠a:=by
 obtain⟨⟨i,j,h⟩,ns,h'⟩:=F;refine z1b h' h ?_;intro z;cases ns with
 |nil=>cases z
 |cons n r=>simp at z
theorem Fd.refl(F:FeedAt H a b):Fd a b H H:=⟨F,fun _ _ h _=>h⟩
theorem Fd.trans(x:Fd a b H H1)(y:Fd a b H1 H2):Fd a b H H2:=⟨y.feed,fun c o h hc=>y.keep c o (x.keep c o h hc) hc⟩
theorem Fd.free(x:Fd a b H H')(h:H' p=none):H p=none:=by
 cases e:H p with
 |none=>rfl
 |some o =>
  by_cases hp:p=a
  ·subst hp;obtain⟨i,j,q⟩:=x.feed.fa;rw[h] at q;cases q
  ·rw[x.keep p o e hp] at h;cases h
theorem FeedAt.upd(F:FeedAt H a b)(ha:a≠p)(hb:b≠p):FeedAt (upd H p o) a b :=
 ⟨let ⟨i,j,h⟩:=F.fa;⟨i,j,by rw[q0c ha];exact h⟩,let ⟨ns,h⟩:=F.fb;⟨ns,by rw[q0c hb];exact h⟩⟩
theorem FeedAt.na(F:FeedAt H a b)(h:H p=none):a≠p:=by obtain⟨i,j,q⟩:=F.fa;exact q0h q h
theorem FeedAt.nb(F:FeedAt H a b)(h:H p=none):b≠p:=by obtain⟨ns,q⟩:=F.fb;exact q0h q h
theorem Fd.put(x:Fd a b H H')(F:FeedAt H a b)(h:H p=none):Fd a b H (upd H' p o) :=
 ⟨x.feed.upd (F.na h) (F.nb h),fun c u e hc=>by rw[q0c (q0h e h)];exact x.keep c u e hc⟩
theorem Fd.new(x:Fd a b H H')(h:H' p=none):Fd a b H (upd H' p o) :=
 ⟨x.feed.upd (x.feed.na h) (x.feed.nb h),fun c u e hc=>by rw[q0c (q0h (x.keep c u e hc) h)];exact x.keep c u e hc⟩
theorem Fd.at(x:Fd a b H H')(h:H c=some o)(hc:c≠a):H' c=some o:=x.keep c o h hc
theorem Fd.same(x:Fd a b H H')(s:Same H' H2):Fd a b H H2 :=
 ⟨⟨let ⟨i,j,h⟩:=x.feed.fa;⟨i,j,s _ _ h⟩,let ⟨ns,h⟩:=x.feed.fb;⟨ns,s _ _ h⟩⟩,fun c o e hc=>s _ _ (x.keep c o e hc)⟩
theorem Same.new(s:Same H H')(h:H' p=none):Same H (upd H' p o):=fun c u e=>by rw[q0c (q0h (s c u e) h)];exact s c u e
theorem Same.put(s:Same H H')(h:H p=none):Same H (upd H' p o):=fun c u e=>by rw[q0c (q0h e h)];exact s c u e
def spDraw:Sp:=fun vs H Q _=>∃a b m,vs=[.ref a,.int m]/\FeedAt H a b/\0<m/\m<1073741824/\∀(r:Int) H',0<=r->r<m->Fd a b H H'->Q (.int r) H'
theorem z8q{xs:List α}(i:Int)(h:xs≠[]):∃x,x∈xs/\atI xs (i%(xs.length:Int))=some x:=by
 have hl:0<(xs.length:Int):=by
  cases xs with
  |nil=>exact absurd rfl h
  |cons a r=>grind
 have h0:=Kd i (show(xs.length:Int)≠0 by lia);have h1:=Ip i hl;have hn:(i%(xs.length:Int)).toNat<xs.length:=by lia
 unfold atI ixN;rw[if_pos h0,if_pos h1];simp[hn]
theorem q7w{xs:List α}(h0:0<=i)(h1:i<(xs.length:Int)):∃x,xs[i.toNat]?=some x/\atI xs i=some x:=by
 have hn:i.toNat<xs.length:=by lia
 unfold atI ixN;rw[if_pos h0,if_pos h1];simp[hn]
open PySem PySem.Spec PyProof.Rows
mutual
inductive Dt (K : Af) (H : Hp) : V → PyData → Prop
  | non : Dt K H .non .none
  | bl (b : Bool) : Dt K H (.bl b) (.bool b)
  | int (i : Int) : Dt K H (.int i) (.int i)
  | str (x : Str) : Dt K H (.str x) (.str x)
  | lst {a : Addr} {xs : List V} {ds : List PyData} : SqL K H a xs → Dts K H xs ds → Dt K H (.ref a) (.list ds)
  | tup {a : Addr} {xs : List V} {ds : List PyData} : SqT K H a xs → Dts K H xs ds → Dt K H (.ref a) (.tuple ds)
inductive Dts (K : Af) (H : Hp) : List V → List PyData → Prop
  | nil : Dts K H [] []
  | cons {x : V} {xs : List V} {d : PyData} {ds : List PyData} : Dt K H x d → Dts K H xs ds → Dts K H (x :: xs) (d :: ds)
end
section
variable{X:Cx}{pins:List (Addr×Obj)}{σ:St}{H:Hp}{s:Ad}
mutual
theorem Dt.reads (I : Inv X pins σ H s) : ∀ {x : V} {d : PyData} {u : Value}, Dt X.K H x d → RelV x u → ∃ as, Reads s.heap u d as
  | _, _, _, .non, r => by cases r; exact ⟨_, .none⟩
  | _, _, _, .bl b, r => by cases r; exact ⟨_, .bool b⟩
  | _, _, _, .int i, r => by obtain ⟨t, rfl⟩ := r; exact ⟨_, .int i t⟩
  | _, _, _, .str x, r => by obtain ⟨t, rfl⟩ := r; exact ⟨_, .str x t⟩
  | _, _, _, .lst q ds, r => by
    cases r
    obtain ⟨its, rv, ⟨o, n, e, c, _, d⟩, _⟩ := I.list q
    obtain ⟨as, h⟩ := Dts.reads I ds rv
    exact ⟨_, .list e c d (by simpa using h)⟩
  | _, _, _, .tup q ds, r => by
    cases r
    obtain ⟨its, rv, ⟨o, e, c, n, d⟩, _⟩ := I.tuple q
    obtain ⟨as, h⟩ := Dts.reads I ds rv
    exact ⟨_, .tuple e c d (by simpa using h)⟩
theorem Dts.reads (I : Inv X pins σ H s) : ∀ {xs : List V} {ds : List PyData} {us : List Value}, Dts X.K H xs ds → Vals xs us → ∃ as, ReadsAll s.heap us ds as
  | _, _, _, .nil, .nil => ⟨_, .nil⟩
  | _, _, _, .cons d ds, .cons r rs => by
    obtain ⟨as, h⟩ := Dt.reads I d r
    obtain ⟨bs, h'⟩ := Dts.reads I ds rs
    exact ⟨_, .cons h h'⟩
end
end
section
variable{X:Cx}{k:Nat}
def rEqD(K:Af):R2:=fun x y H Q=>∃d e,Dt K H x d/\Dt K H y e/\d.canLay0=true/\e.canLay0=true/\min d.depth e.depth<=100/\Q (.bl (Dz d e)) H
def rNeD(K:Af):R2:=fun x y H Q=>∃d e,Dt K H x d/\Dt K H y e/\d.canLay0=true/\e.canLay0=true/\min d.depth e.depth<=100/\Q (.bl (!PyData.eqv d e)) H
theorem op_eqD(hr:Room k X.A):OpR X (Ce .Eq) (rEqD X.K):=by
 intro pins s σ H x y v u Q I rx ry h;obtain⟨d,e,hd,he,cd,ce,hm,q⟩:=h;obtain⟨as,r1⟩:=hd.reads I rx;obtain⟨bs,r2⟩:=he.reads I ry;have hu:=hr.un;exact SeqAt.rcAt_reads r1 r2 cd ce (by lia) X.prog X.w X.xe _ ⟨.bl _,H,I,rfl,q⟩
theorem op_neD(hr:Room k X.A):OpR X (Ce .NotEq) (rNeD X.K):=by
 intro pins s σ H x y v u Q I rx ry h;obtain⟨d,e,hd,he,cd,ce,hm,q⟩:=h;obtain⟨as,r1⟩:=hd.reads I rx;obtain⟨bs,r2⟩:=he.reads I ry;have hu:=hr.un;exact SeqAt.rcNeAt_reads r1 r2 cd ce (by lia) X.prog X.w X.xe _ ⟨.bl _,H,I,rfl,q⟩
def rAddU:R2:=fun x y H Q=>(∃i j,x=.int i/\y=.int j/\Q (.int (i+j)) H)\/(∃i j,x=.str i/\y=.str j/\i.length+j.length<=sizeLine/\Q (.str (i++j)) H)\/rCat x y H Q
theorem q1z:OpR X (Ep .Add) rAddU:=op_add.or (op_add_str.or op_cat)
def rMulU:R2:=fun x y H Q=>(∃i j,x=.int i/\y=.int j/\CMul i j/\Q (.int (i*j)) H)\/rMulS x y H Q\/rRep x y H Q
theorem q2l:OpR X (Ep .Mult) rMulU:=op_mul.or (op_mulS.or op_rep)
def rEqU(K:Af):R2:=fun x y H Q=>rEq x y H Q\/rEqD K x y H Q
theorem op_eqU(hr:Room k X.A):OpR X (Ce .Eq) (rEqU X.K):=op_eq.or (op_eqD hr)
def rNeU(K:Af):R2:=fun x y H Q=>rNe x y H Q\/rNeD K x y H Q
theorem op_neU(hr:Room k X.A):OpR X (Ce .NotEq) (rNeU X.K):=op_ne.or (op_neD hr)
def rSlU(K:Af):V->Option Int->Option Int->Hp->VK->Prop:=fun x lo hi H Q=>rSlS x lo hi H Q\/rSlL K x lo hi H Q\/rSlT K x lo hi H Q
theorem sl_U:SlR X (rSlU X.K):=sl_str.or (sl_list.or z7q)
def iAny(K:Af)(tl:TE):TI:=fun σ H R=>tl σ H fun x H1=>(∃a,x=.ref a/\(∃xs,SqL K H1 a xs)/\R (Itl K a) H1)\/(∃a,x=.ref a/\(∃xs,SqT K H1 a xs)/\R (Itt K a) H1)\/∃z,x=.str z/\R (Its z) H1
theorem pi_any(hl:PE X l tl):PI X tg l (iAny X.K tl):=by
 intro pins s σ H R I h;refine thn (hl pins s σ H _ I h) fun v s1 ⟨x,H1,I1,r1,q1⟩=>?_;have fp:∀b∈[s1.heap.objs.size],FpOk X pins H1 b:=fun b hb=>by
  have e:b=s1.heap.objs.size:=by grind
  subst e;exact I1.fpOk (Ai _) (I1.hok.fresh (Ai _))
 rcases q1 with⟨a,e,⟨xs,hq⟩,q⟩|⟨a,e,⟨xs,hq⟩,q⟩|⟨z,e,q⟩
 ·subst e;cases r1;obtain⟨its,rv,p,hz⟩:=I1.list hq;exact Lj p.isList ⟨s1.heap.objs.size,[s1.heap.objs.size],_,_,H1,rfl,I1.kept (t':=s1.toks) fun b o e=>Ae _ e,z2p a _,⟨_,Al _ rfl,rfl,rfl⟩,fp,q⟩
 ·subst e;cases r1;obtain⟨its,rv,p,hz⟩:=I1.tuple hq;exact wpAny_pyIter_tuple (show s1.heap.IsTuple a its.toArray from p) ⟨s1.heap.objs.size,[s1.heap.objs.size],_,_,H1,rfl,I1.kept (t':=s1.toks) fun b o e=>Ae _ e,z1d a _,⟨_,Al _ rfl,rfl,rfl⟩,fp,q⟩
 ·subst e;obtain⟨t,rfl⟩:=r1;cases ha:z.cps.all (· < 128)
  ·exact wpAny_pyIter_wide ha ⟨s1.heap.objs.size,[s1.heap.objs.size],_,_,H1,rfl,I1.kept (t':=s1.toks) fun b o e=>Ae _ e,z3f _ z t,⟨Bv _,_,Al _ rfl,rfl,rfl⟩,fp,q⟩
  ·exact wpAny_pyIter_ascii ha ⟨s1.heap.objs.size,[s1.heap.objs.size],_,_,H1,rfl,I1.kept (t':=s1.toks) fun b o e=>Ae _ e,z3e _ z t,⟨Bv _,_,Al _ rfl,rfl,rfl⟩,fp,q⟩
end
open PySem PySem.Spec PyProof.Rows
section
variable{X:Cx}{a b o e l:Expr}{es:List Expr}{ta tb to te tl:TE}{t:TA}{pos p2 apos cpos:Pos}{k:Nat}{name:Str}{T idn:String}{r:V->List V->Hp->VK->Prop}
theorem ix_k(K:Af)(hK:X.K=K):IxR X (rIx K):=by subst hK;exact ix_seq
theorem q2m(K:Af)(hK:X.K=K):CallR X (.builtin "len") (fun xs H Q=>∃x n,xs=[x]/\LenV K x H n/\Q (.int n) H):=by subst hK;exact z5n
theorem eq_k(K:Af)(hK:X.K=K)(hr:Room k X.A):OpR X (Ce .Eq) (rEqU K):=by subst hK;exact op_eqU hr
theorem ne_k(K:Af)(hK:X.K=K)(hr:Room k X.A):OpR X (Ce .NotEq) (rNeU K):=by subst hK;exact op_neU hr
theorem sl_k(K:Af)(hK:X.K=K):SlR X (rSlU K):=by subst hK;exact sl_U
theorem z6a{tg:Expr}(K:Af)(hK:X.K=K)(hl:PE X l tl):PI X tg l (iAny K tl):=by subst hK;exact pi_any hl
theorem z6b(K:Af)(hK:X.K=K):CallR X (.builtin "isinstance") (fun xs H Q=>∃x c t b,xs=[x,.ty c]/\TyOf K H x t/\Og K t (.type c)=some b/\Q (.bl b) H):=by subst hK;exact q9g
theorem z3h(K:Af)(hK:X.K=K):CallR X (.type "list") (fun xs H Q=>∃p ys,xs=[.ref p]/\(SqL K H p ys\/SqT K H p ys)/\∀l,H l=none->Q (.ref l) (upd H l (.lst ys))):=by subst hK;exact q7q
theorem join_k(K:Af)(hK:X.K=K):MtM X "str.join" (rJoin K):=by subst hK;exact z8p
theorem q5e{kk n:Nat}{u:TGs}(K:Af)(hK:X.K=K)(hc:X.calm=true)(h:PGs X es u)(hn:(Hj es X.env).length=n:=by rfl)(hst:(Hj es X.env).findIdx? (·.1)=none:=by rfl):PG X (.Tuple es kk pos) (gTup K n u):=by subst hK;exact pg_tup hc h hn hst
theorem bm_k(K:Af)(hK:X.K=K)(pa:Oj T)(slot:Slot T name idn)(hty:typeOf (.builtin idn)=pure (.type "method_descriptor"))(hm:MtR X idn r)(ho:PE X o to)(ha:PA X (e::es) t)(hbase:Em o name X.env (eval o X.env)=eval o X.env:=by rfl)(hfew:((Du cpos (Bc (e::es) X.env)).all (fun x => !x.1)&&(Jr cpos (Gn [] X.env)).all (fun x=>x.1.isSome)
   && decide ((e::es).length+([]:List Kr).length+(if ([]:List Kr).isEmpty then 0 else 1)<30))=true:=by rfl)(hline:(apos.endLine==cpos.line)=true:=by rfl)(hs:Bc (e::es) X.env=(false,eval e X.env)::Bc es X.env:=by rfl)(hplain:(Du cpos (Bc es X.env)).any (·.1)=false:=by rfl):
  PE X (.Call (.Attribute o name apos) (e::es) [] cpos) (tBM K T r to t):=by subst hK;exact pe_bm pa slot hty hm ho ha hbase hfew hline hs hplain
theorem q7x(K:Af)(hK:X.K=K)(pa:Oj T)(slot:Slot T name idn)(hty:typeOf (.builtin idn)=pure (.type "method_descriptor"))(hm:MtR X idn r)(ho:PE X o to)(hbase:Em o name X.env (eval o X.env)=eval o X.env:=by rfl)(hline:(apos.endLine==cpos.line)=true:=by rfl):PE X (.Call (.Attribute o name apos) [] [] cpos) (tBM0 K T r to):=by subst hK;exact pe_bm0 pa slot hty hm ho hbase hline
theorem q2z(K:Af)(hK:X.K=K)(ha:PE X a ta)(he:∀whole,isTrue a X.env whole=(do let v<-whole;Lu a.pos;Ja [v] (truthy v))):
  PT X a (fun σ H Q=>ta σ H fun x H'=>∃k,TruV K x H' k/\Q k H'):=by subst hK;exact z5m ha he
end
theorem q9h{lo:Int}{r:St}{Fin:List V->Hp->Prop}(Pv:Nat->List V->Hp->Prop)(h0:Pv 0 [] (upd H1 D (.lst [])))(hl:∀i ys H,Pv i ys H->H D=some (.lst ys))(hs:∀i ys H,i<n->Pv i ys H->te (some (.int (lo+i))::r) H fun v H4=>H4 D=some (.lst ys)/\ys.length<sizeLine/\Pv (i+1) (ys++[v]) (upd H4 D (.lst (ys++[v]))))(hd:∀ys H,Pv n ys H->Fin ys H):CompW (Itr lo n) (gName 0) tIf0 te (none::r) D Fin H1 :=
 z1q Pv h0 hl (fun i ys H h p=>(⟨q2v,iteT (hs i ys H h p)⟩:Keeps0 (none::r) (some (.int (lo+i))::r)/\if true=true then te (some (.int (lo+i))::r) H fun v H4=>H4 D=some (.lst ys)/\ys.length<sizeLine/\Pv (i+1) (ys++[v]) (upd H4 D (.lst (ys++[v]))) else Pv (i+1) ys H)) hd
theorem z1r{K:Af}{r:St}{Fin:List V->Hp->Prop}(Pv:Nat->List V->Hp->Prop)(h0:Pv 0 [] (upd H1 D (.lst [])))(hl:∀i ys H,Pv i ys H->H D=some (.lst ys)/\SqL K H a xs)(hs:∀i ys H x,xs[i]?=some x->Pv i ys H->te (some x::r) H fun v H4=>H4 D=some (.lst ys)/\ys.length<sizeLine/\Pv (i+1) (ys++[v]) (upd H4 D (.lst (ys++[v]))))(hd:∀ys H,Pv xs.length ys H->Fin ys H):CompW (Itl K a) (gName 0) tIf0 te (none::r) D Fin H1 :=
 z3d Pv h0 hl (fun i ys H x h p=>(⟨q2v,iteT (hs i ys H x h p)⟩:Keeps0 (none::r) (some x::r)/\if true=true then te (some x::r) H fun v H4=>H4 D=some (.lst ys)/\ys.length<sizeLine/\Pv (i+1) (ys++[v]) (upd H4 D (.lst (ys++[v]))) else Pv (i+1) ys H)) hd
def tSeqJ(t u:TS):TS:=fun D σ H=>∃J:St->Hp->Prop,(∀σ' H',J σ' H'->u D σ' H')/\t { D with nx:=J } σ H
theorem q7y{X:Cx}{st:Stmt}{rest:List Stmt}{t u:TS}(h1:PS X st t)(h2:PSs X rest u):PSs X (st::rest) (tSeqJ t u):=by
 intro pins s σ H D I h;obtain⟨J,hJ,h⟩:=h;refine Ly (thn (h1 pins s σ H { D with nx:=J } I h) fun f s1 q=>?_);cases f with
 |next =>
  obtain⟨σ',H',I',q⟩:=q;exact h2 pins s1 σ' H' D I' (hJ σ' H' q)
 |ret v=>exact q
 |brk=>exact q
 |cont=>exact q
def tVJ(t:TE):TE:=fun σ H Q=>∃J:VK,(∀v H',J v H'->Q v H')/\t σ H J
theorem pe_j{X:Cx}{e:Expr}{t:TE}(h:PE X e t):PE X e (tVJ t):=by
 intro pins s σ H Q I hw;obtain⟨J,hJ,hw⟩:=hw;exact thn (h pins s σ H J I hw) fun u s' ⟨v,H',I',r,q⟩=>⟨v,H',I',r,hJ v H' q⟩
def tTJ(t:TT):TT:=fun σ H Q=>∃J:Bool->Hp->Prop,(∀b H',J b H'->Q b H')/\t σ H J
theorem pt_j{X:Cx}{e:Expr}{t:TT}(h:PT X e t):PT X e (tTJ t):=by
 intro pins s σ H Q I hw;obtain⟨J,hJ,hw⟩:=hw;exact thn (h pins s σ H J I hw) fun u s' ⟨H',I',q⟩=>⟨H',I',hJ u H' q⟩
theorem iteB{B:Prop}(hA:c=true->A)(hB:c=false->B):if c=true then A else B:=by grind
end L2
namespace TX
open PySem PySem.Spec PyProof.Rows L2
abbrev tl(x:Str):List Nat:=x.cps.toList
abbrev mk(l:List Nat):Str:=⟨l.toArray⟩
theorem q3a(l:List Nat):tl (mk l)=l:=by simp[tl,mk]
theorem ext(h:tl x=tl y):x=y:=ext_toList h
theorem len(x:Str):x.length=(tl x).length:=by simp[tl,Str.length]
theorem z7t(x y:Str):tl (x++y)=tl x++tl y:=by
 show(x.cps++y.cps).toList=_;simp[tl]
theorem get{i:Nat}(h:x.cps[i]?=some c):(tl x)[i]?=some c:=by simpa[tl] using h
theorem z8r(z:Str)(ts:List Str):Rb z ts=Str.join z ts:=StrLaws.glued_eq_join z ts
theorem z8s:∀ts:List Str,tl (Rb (Am "") ts)=(ts.map tl).flatten:=by
 intro ts;rw[z8r];induction ts with
 |nil=>rfl
 |cons a r ih =>
  cases r with
  |nil=>simp[Str.join]
  |cons b r =>
   show tl (a++Am "" ++ Str.join (Am "") (b::r))=_;rw[z7t,z7t,ih];have e:tl (Am "")=[]:=by decide +kernel
   rw[e];simp
theorem z3i(cs:List Nat):Rb (Am "") (cs.map fun c=>(⟨#[c]⟩:Str))=mk cs:=by
 apply ext;rw[z8s,q3a,Ba];induction cs with
 |nil=>rfl
 |cons c r ih=>rw[Ak,Li,ih];rfl
theorem z6c(cs:List Nat):((cs.map fun c=>(⟨#[c]⟩:Str)).map (·.length)).sum=cs.length:=by
 induction cs with
 |nil=>rfl
 |cons c r ih=>rw[Ak,Ak,List.sum_cons,ih,Bl];show 1+_=_;lia
theorem lower(h:∀c∈tl x,c<128):tl (Txt.lower x)=(tl x).map lo1:=by
 rw[lower_ascii h];simp[tl]
theorem small(h:n<=1000000):n<=sizeLine:=by rw[Cp];lia
theorem small'(h:n<=1000000):n<sizeLine:=by rw[Cp];lia
end TX
namespace L2
open PySem PySem.Spec PyProof.Rows
section
variable{prog:Program}{w:World}{K:Af}{A:Around}{E:Value->Ad->Prop}{s:Ad}{J:It}{st:Nat->Heap->Prop}{e it:Addr}{H:Hp}
theorem z1s{i:Nat}{Q:Value->Ad->Prop}(S:Srce prog w K J it st)(hh:A.handled=none)(vw:Vw K H s.heap)(nH:H it=none)(nK:K.lookup it=none)(he:IsEnum s.heap e it i old)(hst:st i s.heap)(go:J.go i H)(hne:e≠it)(hQ:∀u x h' tk,RelV x u->J.yld i H x H->IsEnumOut h' e it ((i:Int)+1) u s.heap.objs.size->st (i+1) h'->h'.get? s.heap.objs.size=some { cls:=.type "tuple",data:=.seq #[.int i tk,u] }->h'.objs.size=s.heap.objs.size+1 ->
   (∀b o,b≠e->b≠it->s.heap.get? b=some o->h'.get? b=some o)->Q (.ref s.heap.objs.size) { s with heap:=h',toks:=tk+1 }):
  wpAny (model prog w) A (Bx.«enumerate.__next__» ⟨[.ref e],[]⟩) (fun fin s'=>∃v,fin=.done (.ret v)/\Q v s') E s:=by
 obtain⟨hp,g,d,tk₀,os⟩:=s;show wpAny _ _ (field (.ref e) 2 >>= _) _ _ _;refine Aa (Cu he rfl rfl ?_);refine Aa (S.item _ i _ H _ _ hh vw nH nK hst go fun u x h₁ tk rx yx st₁ hs₁=>?_);have he₁:=(hs₁.2 e hne).trans he;refine Aa (Cu he₁ rfl rfl ?_);refine Aa (Cu he₁ rfl rfl ?_);refine Aa (wpAny_mkInt ?_);refine Aa (Cs he₁ (by simp) fun h₂ he₂ hs₂=>?_);refine Aa (Cs he₂ (by simp) fun h₃ he₃ hs₃=>?_);refine Aa (Nn ?_);have he₄:IsEnum (h₃.push { cls:=.type "tuple",data:=.seq #[.int i tk,u] }) e it ((i:Int)+1) old:=Ae _ he₃;generalize hh₄:h₃.push { cls:=.type "tuple",data:=.seq #[.int i tk,u] }=h₄ at he₄;have hsz:h₃.objs.size=hp.objs.size:=by rw[hs₃.1,hs₂.1,hs₁.1]
 have hel:=Aj he;have ht₄:h₄.get? hp.objs.size=some { cls:=.type "tuple",data:=.seq #[.int i tk,u] }:=by rw[<- hh₄,<- hsz];exact Al _ rfl
 have hz₄:h₄.objs.size=hp.objs.size+1:=by rw[<- hh₄,Es,hsz]
 have hk₄:∀b o,b≠e->b≠it->hp.get? b=some o->h₄.get? b=some o:=fun b o hbe hbi hb=>by
  rw[<- hh₄];exact Ae _ (hs₃.extBut b o hbe (hs₂.extBut b o hbe (hs₁.extBut b o hbi hb)))
 have hit₄:st (i+1) h₄:=S.keep _ _ _ st₁ fun o y=>by
  rw[<- hh₄];exact Ae _ (hs₃.extBut it o hne.symm (hs₂.extBut it o hne.symm y))
 rw[hsz];refine Aa ?_;refine Aa (Cu he₄ rfl rfl (Ab ?_));refine Aa (Hq ?_);refine Aa (Cu he₄ rfl rfl ?_);refine Aa (Cs he₄ (by simp) fun h₅ he₅ hs₅=>?_);refine Aa ?_;refine Aa (Cs he₅ (by simp) fun h₆ he₆ hs₆=>?_);refine Cs he₆ (by simp) fun h₇ he₇ hs₇=>?_;have up:=fun b o hb y=>hs₇.extBut b o hb (hs₆.extBut b o hb (hs₅.extBut b o hb y));refine Aa (Nb (Ab ⟨_,rfl,hQ u x h₇ tk rx yx he₇ (S.keep _ _ _ hit₄ fun o y=>up _ o hne.symm y) (up _ _ (Dv hel) ht₄) ?_ fun b o hbe hbi hb=>up b o hbe (hk₄ b o hbe hbi hb)⟩));rw[hs₇.1,hs₆.1,hs₅.1,hz₄]
end
def Ite(J:It):It:=⟨fun i H=>J.go i H,fun i H x H'=>∃T y,H T=none/\J.yld i H y H/\x=.ref T/\H'=upd H T (.tup [.int i,y]),fun i H=>J.stop i H⟩
theorem z3j{K:Af}{st:Nat->Heap->Prop}(hne:e≠it)(S:Srce P w K J it st):
  Turn P w K (.Tuple elts kk pos) (Ite J) [e,it] e (fun i h=>(∃old,IsEnum h e it i old)/\st i h) where
 mem:=by simp
 obj:=fun i h hs b hb=>by
  obtain⟨⟨old,he⟩,h1⟩:=hs;simp only[Bb,Fu,or_false] at hb;rcases hb with rfl|rfl
  ·grind
  ·exact S.obj i h h1
 keep:=fun i h h' hs k=>by
  obtain⟨⟨old,he⟩,h1⟩:=hs;exact⟨⟨old,k e (by simp) _ he⟩,S.keep _ _ _ h1 fun o y=>k it (by simp) o y⟩
 item:=by
  intro X hP hw hK hc i pins s σ H E I hf hs hg;subst hP hw hK;obtain⟨⟨old,he⟩,h1⟩:=hs;have hT:s.TypeIs (.ref e) "enumerate" := ⟨_,he,rfl⟩
  refine Aa (En (Bn hT Ha
   (Bj Ha hT Nc
    (z1s S (I.ok.hd hc) I.vw (hf it (by simp)).1 ((hf it (by simp)).noK I) he h1 hg hne fun u x h' tk rx yx a1 a2 a3 a4 a5=>Ab ?_) (Mj _))))
  refine⟨_,rfl,?_⟩;refine wpAny_letOwnedTupleGo_enum a1 fun h2 he2 hs2=>?_;have k2:∀c o,c∉[e,it]->s.heap.get? c=some o->h2.get? c=some o:=fun c o hcn y=>by
   simp only[Bb,Fu,or_false,not_or] at hcn;exact hs2.extBut _ _ hcn.1 (a5 c o hcn.1 hcn.2 y)
  have elt:=Aj he;have ilt:it<s.heap.objs.size:=by obtain⟨o,y,_⟩:=S.obj _ _ h1;exact Aj y
  have I1:Inv X pins σ H { s with heap:=h2,toks:=tk+1 }:=I.turnedL k2 hf;have FT:=I.fpOk (Ai _) I.fresh;have hT2:h2.get? s.heap.objs.size=some { cls:=.type "tuple",data:=.seq #[.int i tk,u] }:=hs2.extBut _ _ (Dv elt) a3;have I2:Inv X pins σ (upd H s.heap.objs.size (.tup [.int i,x])) { s with heap:=h2,toks:=tk+1 } :=
   I1.track I.sz FT ⟨by show 2<=sizeLine;decide,[.int i tk,u],.cons ⟨_,rfl⟩ (.cons rx .nil),⟨_,hT2,rfl,_,rfl⟩⟩
  refine⟨.ref s.heap.objs.size,_,I2,rfl,⟨_,x,I.fresh,yx,rfl,rfl⟩,⟨⟨u,by simpa using he2⟩,S.keep _ _ _ a2 fun o y=>hs2.extBut _ _ hne.symm y⟩,fun b hb=>?_⟩;have hb2:=(hf b hb).1;rw[q0c]
  ·exact hb2
  ·grind
 done:=by
  intro X hP hw hK hc i pins s σ H E I hf hs hg;subst hP hw hK;obtain⟨⟨old,he⟩,h1⟩:=hs;have hT:s.TypeIs (.ref e) "enumerate" := ⟨_,he,rfl⟩
  refine Aa (En (Bn hT Ha
   (Bj Ha hT Nc ?_ (Mj _))))
  show wpAny _ _ (field (.ref e) 2 >>= _) _ _ _;refine Aa (Cu he rfl rfl ?_);refine Aa (S.done _ i _ H _ _ (I.ok.hd hc) I.vw (hf it (by simp)).1 ((hf it (by simp)).noK I) h1 hg fun h' x he' hx'=>?_);obtain⟨o,ho,hcl⟩:=hx';refine Aa (Hr ⟨o,ho,hcl⟩ Ks ?_);refine Ab ⟨rfl,I.turnedL (t':=s.toks) (fun c o hcn y=>?_) hf⟩;simp only[Bb,Fu,or_false,not_or] at hcn;exact he' c o hcn.2 y
 self:=fun _ _ _ _ _ hs h=>by
  obtain⟨⟨old,he⟩,_⟩:=hs;exact Ql he h
section
variable{X:Cx}{elts:List Expr}{kk:Nat}{tpos:Pos}
theorem q7z{σ:St}{st:Nat->Heap->Prop}(I:Inv X pins σ H s)(S:Srce X.prog X.w X.K J s.heap.objs.size st)(he:IsEnum h' (s.heap.objs.size+1) s.heap.objs.size 0 .none)(h1:st 0 h')(hk:∀c o,s.heap.get? c=some o->h'.get? c=some o)(q:R (Ite J) H):
  wpAny (model X.prog X.w) X.A (Ka (.ref (s.heap.objs.size+1))) (PIE X pins σ (.Tuple elts kk tpos) R) E { s with heap:=h' }:=by
 refine Ql he ?_;refine⟨_,_,_,_,H,rfl,I.kept (t':=s.toks) hk,z3j (show(s.heap.objs.size+1:Nat)≠s.heap.objs.size by lia) S,⟨⟨_,he⟩,h1⟩,fun b hb=>?_,q⟩;have hb':s.heap.objs.size<=b:=by
  simp only[Bb,Fu,or_false] at hb;rcases hb with rfl|rfl
  ·exact Fs _
  ·exact Ai _
 exact I.fpOk hb' (I.hok.fresh hb')
def iEnum(K:Af)(ta:TA):TI:=fun σ H R=>ta σ H fun vs H1=>(∃z,vs=[.str z]/\R (Ite (Its z)) H1)\/∃a xs,vs=[.ref a]/\SqL K H1 a xs/\R (Ite (Itl K a)) H1
theorem z8t(hg:Gl X "enumerate")(hm:X.mg "enumerate" = none)(ha:PA X [a] ta)(hs:Bc [a] X.env=[(false,eval a X.env)]:=by rfl):
  PI X (.Tuple elts kk tpos) (.Call (.Name "enumerate" p) [a] [] pos) (iEnum X.K ta):=by
 intro pins s σ H R I h;refine Call_ (q7i I hg hm (by decide +kernel:Gv "enumerate" = some (.type "enumerate")) (Hg (thn (ha pos pins s σ H _ I h) fun us s1 ⟨vs,H1,I1,r1,q1⟩=>?_) hs rfl));rcases q1 with⟨z,e,q⟩|⟨l,xs,e,hq,q⟩
 ·subst e;obtain⟨u,rfl,t,rfl⟩:=vals1 r1;exact call_enumerate_str fun h' he hi hz hk=>q7z I1 (z5z _ z t) he hi hk q
 ·subst e;obtain⟨u,rfl,r⟩:=vals1 r1;cases r;obtain⟨its,rv,pl,_⟩:=I1.list hq;exact call_enumerate_list pl.isList fun h' he hi hz hk=>q7z I1 (z3g l _) he hi hk q
theorem z7u{a:Expr}{ta:TA}{p pos:Pos}(K:Af)(hK:X.K=K)(hg:Gl X "enumerate")(hm:X.mg "enumerate" = none)(ha:PA X [a] ta)(hs:Bc [a] X.env=[(false,eval a X.env)]:=by rfl):
  PI X (.Tuple elts kk tpos) (.Call (.Name "enumerate" p) [a] [] pos) (iEnum K ta):=by subst hK;exact z8t hg hm ha hs
end
end L2
namespace K
open PySem L2 TX
def NSs:Str:=Am "abcdefghijklmnopqrstuvwxyzABCDEFGHIJKLMNOPQRSTUVWXYZ0123456789-_."
def GSs:Str:=Am "?*#@"
abbrev NS:List Nat:=tl NSs
abbrev GS:List Nat:=tl GSs
inductive Pt where
 |tx (l:List Nat)
 |gp (c:Nat)
namespace Pt
def fl:Pt->List Nat
 |tx l=>l
 |gp c=>[c]
def isG:Pt->Bool
 |tx _=>false
 |gp _=>true
def ok:Pt->Prop
 |tx l=>l≠[]/\∀c∈l,c∈NS
 |gp c=>c∈GS
def word:Pt->Str
 |tx _=>Am "text"
 |gp _=>Am "gap"
def vs(p:Pt):List V:=[.str p.word,.str (mk p.fl)]
def dat(p:Pt):PyData:=.tuple [.str p.word,.str (mk p.fl)]
end Pt
def TKeep(H H':Hp):Prop:=∀T xs,H T=some (.tup xs)->H' T=some (.tup xs)
theorem TKeep.refl(H:Hp):TKeep H H:=fun _ _ h=>h
theorem TKeep.trans(a:TKeep H H1)(b:TKeep H1 H2):TKeep H H2:=fun T xs h=>b T xs (a T xs h)
theorem TKeep.new(k:TKeep H H')(h:H' p=none):TKeep H (upd H' p o):=fun T xs e=>by rw[q0c (q0h (k T xs e) h)];exact k T xs e
theorem TKeep.lst{H H':Hp}{p:Addr}{ys zs:List V}(k:TKeep H H')(h:H' p=some (.lst ys)):TKeep H (upd H' p (.lst zs)):=fun T xs e=>by
 rw[q0c (z1b (k T xs e) h (by intro z;cases z))];exact k T xs e
theorem Fd.tk(F:FeedAt H a b)(x:Fd a b H H'):TKeep H H':=fun T xs e=>by
 obtain⟨i,j,h⟩:=F.fa;exact x.at e (z1b e h (by intro z;cases z))
theorem Same.tk(s:Same H H'):TKeep H H':=fun T xs e=>s _ _ e
theorem Pt.dt{p:Pt}(h:H T=some (.tup p.vs)):Dt K H (.ref T) p.dat :=
 .tup (SqT.of h) (.cons (.str _) (.cons (.str _) .nil))
end K
namespace L2
open PySem PySem.Spec PyProof.Rows
section
variable{κ:Type}[DecidableEq κ]
def valV(kvs:List (κ×V))(k:κ):Option V:=(kvs.find? fun kv=>decide (kv.1=k)).map (·.2)
def putK(kvs:List (κ×V))(k:κ)(v:V):List (κ×V) :=
 if (kvs.any fun kv=>decide (kv.1=k))=true then kvs.map (fun kv=>if kv.1=k then(kv.1,v) else kv) else kvs++[(k,v)]
def dropK(kvs:List (κ×V))(k:κ):List (κ×V):=kvs.filter fun kv=>decide (kv.1≠k)
theorem q1b{p:κ×V}(e:p.1=k):valV (p::r) k=some p.2:=by simp[valV,Gg,e]
theorem q0y{p:κ×V}(e:¬p.1=k):valV (p::r) k=valV r k:=by simp[valV,Gg,e]
theorem q3m(k:κ):∀kvs:List (κ×V),(kvs.any fun kv=>decide (kv.1=k))=(valV kvs k).isSome
 |[]=>rfl
 |p::r=>by
  rw[List.any_cons];by_cases e:p.1=k
  ·simp only[q1b e,decide_eq_true e,Bool.true_or,Option.isSome_some]
  ·rw[q0y e,decide_eq_false e,Bool.false_or];exact q3m k r
theorem z0f(k j:κ)(y:V):∀kvs:List (κ×V),valV (kvs.map fun kv=>if kv.1=k then(kv.1,y) else kv) j=(valV kvs j).map fun x=>if j=k then y else x
 |[]=>rfl
 |p::r=>by
  have ih:=z0f k j y r;rw[Ak];by_cases h:p.1=k
  ·rw[if_pos h];by_cases e:p.1=j
   ·rw[q1b (p:=(p.1,y)) e,q1b e,Ig,if_pos (e.symm.trans h)]
   ·rw[q0y (p:=(p.1,y)) e,q0y e,ih]
  ·rw[if_neg h];by_cases e:p.1=j
   ·rw[q1b e,q1b e,Ig,if_neg (fun z=>h (e.trans z))]
   ·rw[q0y e,q0y e,ih]
theorem q8a(k j:κ)(y:V):∀kvs:List (κ×V),valV kvs k=none->valV (kvs++[(k,y)]) j=if j=k then some y else valV kvs j
 |[],_=>by
  by_cases e:k=j
  ·rw[if_pos e.symm];exact q1b (p:=(k,y)) e
  ·rw[if_neg (fun z=>e z.symm)];exact q0y (p:=(k,y)) e
 |p::r,hn=>by
  rw[List.cons_append];have hk:¬p.1=k:=fun z=>by rw[q1b z] at hn;cases hn
  rw[q0y hk] at hn;have ih:=q8a k j y r hn;by_cases e:p.1=j
  ·rw[q1b e,q1b e,if_neg (fun z=>hk (e.trans z))]
  ·rw[q0y e,q0y e,ih]
theorem z6d(kvs:List (κ×V))(k j:κ)(y:V):valV (putK kvs k y) j=if j=k then some y else valV kvs j:=by
 unfold putK;by_cases a:(kvs.any fun kv=>decide (kv.1=k))=true
 ·rw[if_pos a,z0f];rw[q3m] at a;by_cases e:j=k
  ·obtain⟨x,hx⟩:=Ma.mp a;rw[if_pos e,e,hx,Ig,if_pos rfl]
  ·simp_all
 ·rw[if_neg a];refine q8a k j y kvs ?_;rw[q3m] at a;cases q:valV kvs k with
  |none=>rfl
  |some x=>grind
theorem q1u(kvs:List (κ×V))(k:κ)(v:V):(putK kvs k v).length<=kvs.length+1:=by
 unfold putK;split
 ·grind
 ·grind
theorem z6e{kvs:List (κ×V)}(v:V)(h:valV kvs k=none):putK kvs k v=kvs++[(k,v)]:=by
 unfold putK;rw[q3m,h];exact if_neg (by decide)
theorem RelO.isSome_eq(r:RelO o u):o.isSome=u.isSome:=by
 cases o with
 |none=>cases u with
  |none=>rfl
  |some _=>exact(show False from r).elim
 |some _=>cases u with
  |none=>exact(show False from r).elim
  |some _=>rfl
theorem RelO.getD(r:RelO o u)(rd:RelV d d'):RelV (o.getD d) (u.getD d'):=by
 cases o with
 |none=>cases u with
  |none=>exact rd
  |some _=>exact(show False from r).elim
 |some _=>cases u with
  |none=>exact(show False from r).elim
  |some _=>exact r
theorem KV.val(r:KV kvs vs)(k:κ):RelO (valV kvs k) (valueAt vs k):=by
 induction r with
 |nil=>exact True.intro
 | @cons p q ps qs h t ih =>
  obtain⟨h1,h2⟩:=h;by_cases e:p.1=k
  ·have e':q.1=k:=h1.symm.trans e;have b:valueAt (q::qs) k=some q.2:=by simp[valueAt,Gg,e']
   rw[q1b e,b];exact h2
  ·have e':¬q.1=k:=fun z=>e (h1.trans z);have b:valueAt (q::qs) k=valueAt qs k:=by simp[valueAt,Gg,e']
   rw[q0y e,b];exact ih
theorem KV.any(r:KV kvs vs)(k:κ):(kvs.any fun kv=>decide (kv.1=k))=vs.any fun kv=>decide (kv.1=k):=by
 induction r with
 |nil=>rfl
 |cons h t ih=>simp_all
theorem KV.repl(r:KV kvs vs)(k:κ)(ry:RelV y u):
  KV (kvs.map fun kv=>if kv.1=k then(kv.1,y) else kv) (vs.map fun kv=>if kv.1=k then(kv.1,u) else kv):=by
 induction r with
 |nil=>exact .nil
 | @cons p q ps qs h t ih =>
  refine .cons ?_ ih;by_cases e:p.1=k
  ·simp_all
  ·simp_all
theorem KV.put(r:KV kvs vs)(k:κ)(ry:RelV y u):KV (putK kvs k y) (stored vs k u):=by
 unfold putK stored;rw[r.any k];by_cases e:(vs.any fun kv=>decide (kv.1=k))=true
 ·rw[if_pos e,if_pos e];exact r.repl k ry
 ·rw[if_neg e,if_neg e];exact Bu.snoc r ⟨rfl,ry⟩
theorem KV.drop(r:KV kvs vs)(k:κ):KV (dropK kvs k) (without vs k):=by
 unfold dropK without;induction r with
 |nil=>exact .nil
 | @cons p q ps qs h t ih =>
  obtain⟨h1,h2⟩:=h;rw[Rc,Rc];by_cases e:p.1=k
  ·simp_all
  ·have e':¬q.1=k:=fun z=>e (h1.trans z);have a:decide (p.1≠k)=true:=by simp[e]
   have b:decide (q.1≠k)=true:=by simp[e']
   rw[if_pos a,if_pos b];exact .cons ⟨h1,h2⟩ ih
theorem KV.keys{kvs:List (κ×V)}(r:KV kvs vs):kvs.map (·.1)=vs.map (·.1):=by
 induction r with
 |nil=>rfl
 |cons h t ih=>grind
theorem KV.length{kvs:List (κ×V)}(r:KV kvs vs):kvs.length=vs.length:=Cd r
end
theorem z1t(r:RelV (kV k) u):(mixKind P w).is k u=true:=by
 cases k with
 |inl i=>obtain⟨t,e⟩:=(show ∃t,u=Value.int i t from r);subst e;exact q8z P w i t
 |inr x=>obtain⟨t,e⟩:=(show ∃t,u=Value.str x t from r);subst e;exact q9a P w x t
theorem q8b{P:Program}{w:World}:∀{ks:List Key} {us:List Value},Vals (ks.map kV) us->ItemsAre (mixKind P w) ks us
 |[],_,r=>by rw[List.map_nil] at r;cases r;exact .nil
 |k::ks,_,r=>by
  rw[Ak] at r;cases r with
  |cons h t=>exact .cons (z1t h) (q8b t)
abbrev KT(H:Hp):List (List Key×V)->List (List Key×Addr×Value)->Prop:=Bu fun p q=>p.1=q.1/\H q.2.1=some (.tup (p.1.map kV))/\RelV p.2 q.2.2
theorem KT.val(r:KT H kvs xs)(k:List Key):RelO (valV kvs k) ((atKey xs k).map (·.2)):=by
 induction r with
 |nil=>exact True.intro
 | @cons p q ps qs h t ih =>
  obtain⟨h1,_,h2⟩:=h;by_cases e:p.1=k
  ·have e':q.1=k:=h1.symm.trans e;have b:atKey (q::qs) k=some q.2:=by simp[atKey,Gg,e']
   rw[q1b e,b];exact h2
  ·have e':¬q.1=k:=fun z=>e (h1.trans z);have b:atKey (q::qs) k=atKey qs k:=by simp[atKey,Gg,e']
   rw[q0y e,b];exact ih
theorem KT.repl(r:KT H kvs xs)(k:List Key)(ry:RelV y u):
  KT H (kvs.map fun kv=>if kv.1=k then(kv.1,y) else kv) (xs.map (putAt k u)):=by
 induction r with
 |nil=>exact .nil
 | @cons p q ps qs h t ih =>
  refine .cons ?_ ih;unfold putAt;by_cases e:p.1=k
  ·simp_all
  ·simp_all
theorem KT.put(r:KT H kvs xs)(k:List Key)(hb:H b=some (.tup (k.map kV)))(ry:RelV y u):
  KT H (putK kvs k y) (storedH xs k b u):=by
 have e:(kvs.any fun kv=>decide (kv.1=k))=(atKey xs k).isSome:=by
  rw[q3m,(r.val k).isSome_eq,Lk]
 unfold putK storedH;rw[e];by_cases q:(atKey xs k).isSome=true
 ·rw[if_pos q,if_pos q];exact r.repl k ry
 ·rw[if_neg q,if_neg q];exact Bu.snoc r ⟨rfl,hb,ry⟩
theorem KT.keeps(r:KT H kvs xs)(ht:∀b ys,H b=some (.tup ys)->H' b=some (.tup ys)):KT H' kvs xs :=
 Bu.mapP r fun _ _ z=>⟨z.1,ht _ _ z.2.1,z.2.2⟩
section
variable{P:Program}{w:World}{H:Hp}{h:Heap}{a:Addr}
theorem rd_of(ok:HOk P w H h)(e:Rd H a u):ObjOk P w H h a u:=e.ok ok
theorem q9i(ok:HOk P w H h)(e:Rd H a (.dK kvs)):kvs.length<=sizeLine/\(a==Dg)=false/\∃vs,KV kvs vs/\h.DictOf (mixKind P w) a vs :=
 show ObjOk P w H h a (.dK kvs) from rd_of ok e
theorem dk_of(ok:HOk P w H h)(e:H a=some (.dK kvs)):kvs.length<=sizeLine/\(a==Dg)=false/\∃vs,KV kvs vs/\h.DictOf (mixKind P w) a vs:=q9i ok (.inl e)
theorem q4i(ok:HOk P w H h)(e:H a=some (.tup (ks.map kV))):(Gf (mixKind P w)).is h ks a:=by
 obtain⟨_,its,r,o,h1,h2,n,h3⟩:=(show ObjOk P w H h a (.tup (ks.map kV)) from ok a _ e)
 exact⟨o,its.toArray,n,h1,h2,h3,by simpa using q8b r⟩
theorem q9j(ok:HOk P w H h)(e:Rd H a (.dT kvs)):kvs.length<=sizeLine/\(a==Dg)=false /\
  ∃xs,KT H kvs xs/\h.DictOfH (Gf (mixKind P w)) a xs:=by
 obtain⟨z,y,xs,r,o,es,ep,h1,h2,h3,h4,h5⟩:=(show ObjOk P w H h a (.dT kvs) from rd_of ok e)
 refine⟨z,y,xs,r,o,es,ep,h1,h2,h3,h4,fun x hx=>?_,h5⟩;have all:∀{l:List (List Key×V)} {m:List (List Key×Addr×Value)},KT H l m->∀x∈m,(Gf (mixKind P w)).is h x.1 x.2.1:=by
  intro l m q;induction q with
  |nil=>grind
  | @cons p q ps qs hq t ih =>
   intro x hx;rcases Bb.mp hx with e|hx
   ·subst e;exact q4i ok (by rw[<- hq.1];exact hq.2.1)
   ·exact ih x hx
 exact all r x hx
theorem z6f(ok:HOk P w H h)(e:H a=some (.dT kvs)):kvs.length<=sizeLine/\(a==Dg)=false /\
  ∃xs,KT H kvs xs/\h.DictOfH (Gf (mixKind P w)) a xs:=q9j ok (.inl e)
end
def DGet(H:Hp)(a:Addr)(y:V)(r:Option V):Prop :=
 (∃kvs k,Rd H a (.dK kvs)/\y=kV k/\r=valV kvs k)\/∃kvs k b,Rd H a (.dT kvs)/\y=.ref b/\H b=some (.tup (k.map kV))/\r=valV kvs k
def DPut(H:Hp)(a:Addr)(y v:V)(H':Hp):Prop :=
 (∃kvs k,H a=some (.dK kvs)/\y=kV k/\kvs.length<sizeLine/\H'=upd H a (.dK (putK kvs k v))) \/
 ∃kvs k b,H a=some (.dT kvs)/\y=.ref b/\H b=some (.tup (k.map kV))/\kvs.length<sizeLine/\H'=upd H a (.dT (putK kvs k v))
theorem DGet.k{k:Key}(e:H a=some (.dK kvs)):DGet H a (kV k) (valV kvs k):=.inl ⟨kvs,k,.inl e,rfl,rfl⟩
theorem DGet.t{k:List Key}(e:H a=some (.dT kvs))(eb:H b=some (.tup (k.map kV))):DGet H a (.ref b) (valV kvs k):=.inr ⟨kvs,k,b,.inl e,rfl,eb,rfl⟩
theorem DPut.k{k:Key}(e:H a=some (.dK kvs))(hl:kvs.length<sizeLine):DPut H a (kV k) v (upd H a (.dK (putK kvs k v))):=.inl ⟨kvs,k,e,rfl,hl,rfl⟩
theorem DPut.t{k:List Key}(e:H a=some (.dT kvs))(eb:H b=some (.tup (k.map kV)))(hl:kvs.length<sizeLine):
  DPut H a (.ref b) v (upd H a (.dT (putK kvs k v))):=.inr ⟨kvs,k,b,e,rfl,eb,hl,rfl⟩
section
variable{X:Cx}{pins:List (Addr×Obj)}{σ:St}{H:Hp}{s:Ad}{a:Addr}{y v:V}{u r:Value}{o:Option V}{A:Around}{E:Value->Ad->Prop}
theorem Inv.big(I:Inv X pins σ H s):Dg<s.heap.objs.size:=by
 have h:=(I.mod.glob.keeps I.bk).lt;exact Nat.lt_trans (by decide) h
theorem z3k(hu:A.units+1<cLine)(I:Inv X pins σ H s)(g:DGet H a y (some v))(ry:RelV y u)(h:∀w' s',Inv X pins σ H s'->RelV v w'->Q w' s'):
  wpAny (model X.prog X.w) A (getItem (.ref a) u) Q E s:=by
 rcases g with⟨kvs,k,e,ey,l⟩|⟨kvs,k,b,e,ey,eb,l⟩
 ·subst ey;obtain⟨z,hd,vs,rel,dd⟩:=q9i I.hok e;obtain⟨w',hw,rw'⟩:=RelO.some_of (by rw[l];exact rel.val k);exact wpAny_getItem_of (z1t ry) dd.mapOf hw (h w' _ (I.tok _) rw')
 ·subst ey;cases(show u=Value.ref b from ry);obtain⟨z,hd,xs,rel,dd⟩:=q9j I.hok e;obtain⟨w',hw,rw'⟩:=RelO.some_of (by rw[l];exact rel.val k);obtain⟨p,hp,hp2⟩:=Gp.mp hw;refine wpAny_getItem_heap (Ew hu) (q4i I.hok eb) dd hp ?_;rw[hp2];exact h w' _ (I.tok _) rw'
theorem d_in(hu:A.units+1<cLine)(I:Inv X pins σ H s)(g:DGet H a y o)(ry:RelV y u)(h:∀s',Inv X pins σ H s'->Q (.bool o.isSome) s'):
  wpAny (model X.prog X.w) A (Ce .In u (.ref a)) Q E s:=by
 rcases g with⟨kvs,k,e,ey,l⟩|⟨kvs,k,b,e,ey,eb,l⟩
 ·subst ey;obtain⟨z,hd,vs,rel,dd⟩:=q9i I.hok e;refine wpAny_in_of (z1t ry) hd dd.mapOf ?_;rw[<- (rel.val k).isSome_eq,<- l];exact h _ (I.tok _)
 ·subst ey;cases(show u=Value.ref b from ry);obtain⟨z,hd,xs,rel,dd⟩:=q9j I.hok e;refine wpAny_in_heap (Ew hu) (q4i I.hok eb) hd dd ?_;have q:=(rel.val k).isSome_eq;rw[Lk] at q;rw[<- q,<- l];exact h _ (I.tok _)
theorem z8u(hu:A.units+1<cLine)(I:Inv X pins σ H s)(g:DGet H a y o)(ry:RelV y u)(h:∀s',Inv X pins σ H s'->Q (.bool (!o.isSome)) s'):
  wpAny (model X.prog X.w) A (Ce .NotIn u (.ref a)) Q E s:=by
 rcases g with⟨kvs,k,e,ey,l⟩|⟨kvs,k,b,e,ey,eb,l⟩
 ·subst ey;obtain⟨z,hd,vs,rel,dd⟩:=q9i I.hok e;refine wpAny_notIn_of (z1t ry) hd dd.mapOf ?_;rw[<- (rel.val k).isSome_eq,<- l];exact h _ (I.tok _)
 ·subst ey;cases(show u=Value.ref b from ry);obtain⟨z,hd,xs,rel,dd⟩:=q9j I.hok e;refine wpAny_notIn_heap (Ew hu) (q4i I.hok eb) hd dd ?_;have q:=(rel.val k).isSome_eq;rw[Lk] at q;rw[<- q,<- l];exact h _ (I.tok _)
theorem q6r(I:Inv X pins σ H s)(mu:Mut (H a))(hs:De a s.heap h')(he:∃q,h'.get? a=some q)(new:ObjOk X.prog X.w (upd H a ob) h' a ob):
  Inv X pins σ (upd H a ob) { s with heap:=h',toks:=t' } :=
 I.write mu (.inl rfl) (fun b q hb z=>(hs.2 b hb).trans z) he new
theorem dk_new(z:kvs.length<=sizeLine)(hd:(a==Dg)=false)(rel:KV kvs vs)(dd:h'.DictOf (mixKind P w) a vs):
  ObjOk P w H' h' a (.dK kvs):=⟨z,hd,vs,rel,dd⟩
theorem z3l(hu:A.units+1<cLine)(I:Inv X pins σ H s)(g:DPut H a y v H')(ry:RelV y u)(rv:RelV v r)(h:∀s',Inv X pins σ H' s'->Q () s'):
  wpAny (model X.prog X.w) A (setItem (.ref a) u r) Q E s:=by
 rcases g with⟨kvs,k,e,ey,l,eH⟩|⟨kvs,k,b,e,ey,eb,l,eH⟩
 ·subst ey eH;obtain⟨z,hd,vs,rel,dd⟩:=dk_of I.hok e;have hz:vs.length<=sizeLine:=by rw[<- rel.length];exact z
  have hl:(putK kvs k v).length<=sizeLine:=by have:=q1u kvs k v;lia
  refine wpAny_setItem_pairs (z1t ry) dd fun h' dd' hs=>h _ ?_;have he:∃q,h'.get? a=some q:=let ⟨q,_,_,hq,_⟩:=dd';⟨q,hq⟩;exact q6r I (by rw[e];exact True.intro) hs he (dk_new hl hd (rel.put k rv) dd')
 ·subst ey eH;cases(show u=Value.ref b from ry);obtain⟨z,hd,xs,rel,dd⟩:=z6f I.hok e;have hz:xs.length<=sizeLine:=by rw[<- Cd rel];exact z
  have hl:(putK kvs k v).length<=sizeLine:=by have:=q1u kvs k v;lia
  refine wpAny_setItem_heap (Ew hu) (q4i I.hok eb) dd fun h' dd' hs=>h _ ?_;obtain⟨q,es,ep,hq,h2,h3,h4,_,h5⟩:=dd';refine q6r I (by rw[e];exact True.intro) hs ⟨q,hq⟩ ⟨hl,hd,_,(rel.put k eb rv).keeps fun c ys ec=>?_,q,es,ep,hq,h2,h3,h4,h5⟩;rw[q0c (z1b ec e (fun z=>nomatch z))];exact ec
end
def NoSl(i:Expr):Prop:=∀ov iv,My i false ov iv=operate [ov,iv] (getItem ov iv)
theorem z8v{id:String}(hl:Rp (.type T) "__getitem__" = pure (some (.builtin id)))(hs:NoSl slice)(h:wpAny (model prog w) A (eval value env) (fun o s₁=>wpAny (model prog w) A (eval slice env) (fun i s₂=>s₂.TypeIs o T/\wpAny (model prog w) A (getItem o i) Q E s₂) E s₁) E s):
  wpAny (model prog w) A (eval (.Subscript value slice pos) env) Q E s:=by
 refine Rq (Bw h (fun o s₁ h₁=>Bw h₁ (fun i s₂ h₂=>?_) fun _ _ x=>x) fun _ _ x=>x);obtain⟨hT,h₂⟩:=h₂;refine Aa ?_;refine Aa (wpAny_specialOf hT hl ?_);have fin:wpAny (model prog w) A (My slice false o i) (fun r s₃=>wpAny (model prog w) A (letTemporaryGo value o r >>= fun _=>pure r) Q E s₃) E s₂:=by
  rw[hs o i];exact wpAny_operating (Bw h₂ (fun r s₃ h₃=>Aa (wpAny_letTemporaryGo (Ab h₃))) fun _ _ x=>x)
 first
  |exact Ab (Aa fin)
  |exact Aa (Ab (Aa fin))
  |exact Aa fin
theorem q9k{σ:St}(I:Inv X pins σ H s)(g:DGet H a y o):s.TypeIs (.ref a) "dict" := by
 rcases g with⟨kvs,k,e,_,_⟩|⟨kvs,k,b,e,_,_,_⟩
 ·obtain⟨_,_,vs,_,dd⟩:=q9i I.hok e;exact dd.typeIs
 ·obtain⟨_,_,xs,_,dd⟩:=q9j I.hok e;exact dd.typeIs
def tDGet(td ty:TE):TE:=fun σ H Q=>td σ H fun x H1=>ty σ H1 fun y H2=>∃a v,x=.ref a/\DGet H2 a y (some v)/\Q v H2
def tDIn(ty td:TE):TE:=fun σ H Q=>ty σ H fun y H1=>td σ H1 fun x H2=>∃a o,x=.ref a/\DGet H2 a y o/\Q (.bl o.isSome) H2
def tDNotIn(ty td:TE):TE:=fun σ H Q=>ty σ H fun y H1=>td σ H1 fun x H2=>∃a o,x=.ref a/\DGet H2 a y o/\Q (.bl (!o.isSome)) H2
def sDPut(td ty tv:TE):TS:=fun D σ H=>tv σ H fun v H1=>td σ H1 fun x H2=>ty σ H2 fun y H3=>∃a H4,x=.ref a/\DPut H3 a y v H4/\D.nx σ H4
section
variable{X:Cx}{o i e value:Expr}{pos pos' tpos:Pos}{td ty tv:TE}
theorem q3g(hu:X.A.units+1<cLine)(ho:PE X o td)(hi:PE X i ty)(hs:NoSl i):PE X (.Subscript o i pos) (tDGet td ty):=by
 intro pins s σ H Q I h;refine z8v PySem.F.slot_dict_getitem.lookup hs (thn (ho pins s σ H _ I h) fun u s1 ⟨x,H1,I1,rx,q1⟩=>thn (hi pins s1 σ H1 _ I1 q1) fun iv s2 ⟨y,H2,I2,ry,a,v,ex,g,q2⟩=>?_);subst ex;obtain rfl:u=Value.ref a:=rx;exact⟨q9k I2 g,z3k hu I2 g ry fun w' s3 I3 rw'=>⟨v,H2,I3,rw',q2⟩⟩
theorem z3m(hu:X.A.units+1<cLine)(hi:PE X i ty)(ho:PE X o td):PC X .In i o (tDIn ty td):=by
 intro pins s σ H Q I h;refine thn (hi pins s σ H _ I h) fun iv s1 ⟨y,H1,I1,ry,q1⟩=>thn (ho pins s1 σ H1 _ I1 q1) fun u s2 ⟨x,H2,I2,rx,a,ov,ex,g,q2⟩=>?_;subst ex;obtain rfl:u=Value.ref a:=rx;exact d_in hu I2 g ry fun s3 I3=>⟨.bl ov.isSome,H2,I3,rfl,q2⟩
theorem q3n(hu:X.A.units+1<cLine)(hi:PE X i ty)(ho:PE X o td):PC X .NotIn i o (tDNotIn ty td):=by
 intro pins s σ H Q I h;refine thn (hi pins s σ H _ I h) fun iv s1 ⟨y,H1,I1,ry,q1⟩=>thn (ho pins s1 σ H1 _ I1 q1) fun u s2 ⟨x,H2,I2,rx,a,ov,ex,g,q2⟩=>?_;subst ex;obtain rfl:u=Value.ref a:=rx;exact z8u hu I2 g ry fun s3 I3=>⟨.bl (!ov.isSome),H2,I3,rfl,q2⟩
theorem q5f(hu:X.A.units+1<cLine)(ho:PE X o td)(hi:PE X i ty)(hv:PE X value tv)(hs:Kv value (some (.Subscript o i pos')) pos.line X.env=pure false):
  PS X (.Assign [.Subscript o i pos'] value pos) (sDPut td ty tv):=by
 intro pins s σ H D I h;refine wpAny_Assign_Subscript (thn (hv pins s σ H _ I h) fun r s1 ⟨v,H1,I1,rv,q1⟩=>thn (ho pins s1 σ H1 _ I1 q1) fun u s2 ⟨x,H2,I2,rx,q2⟩=>thn (hi pins s2 σ H2 _ I2 q2) fun iv s3 ⟨y,H3,I3,ry,a,H4,ex,g,q3⟩=>?_) hs;subst ex;obtain rfl:u=Value.ref a:=rx;exact z3l hu I3 g ry rv fun s4 I4=>⟨σ,H4,I4,q3⟩
end
theorem q6s(h:Heap)(hb:Dg<h.objs.size):ObjOk P w H (h.push { cls:=.type "dict",data:=.dict #[] }) h.objs.size (.dT []) :=
 ⟨Bv _,beq_eq_false_iff_ne.mpr (Dp (Au hb)),[],.nil,_,#[],0,Al _ rfl,⟨rfl,rfl,rfl⟩,rfl,rfl,List.nodup_nil⟩
def tDNewT:TE:=fun _ H Q=>∀p,H p=none->Q (.ref p) (upd H p (.dT []))
section
variable{X:Cx}{pos:Pos}
theorem q6t:PE X (.Dict [] [] pos) tDNewT:=fun pins s σ H Q I h =>
 wpAny_Dict_empty ⟨.ref s.heap.objs.size,_,I.laid (t':=s.toks) (fun _ _ q=>Ae _ q) (Ai _) (q6s s.heap I.big),rfl,h _ (I.hok.fresh (Ai _))⟩
end
structure M1 (X:Cx) (o:Expr) (m:Str) (apos:Pos) (e:Expr) (cpos:Pos):Prop where
 base:Em o m X.env (eval o X.env)=eval o X.env
 few:((Du cpos (Bc [e] X.env)).all (fun x => !x.1)&&(Jr cpos (Gn [] X.env)).all (fun x=>x.1.isSome)
  && decide (([e]:List Expr).length+([]:List Kr).length+(if ([]:List Kr).isEmpty then 0 else 1)<30))=true
 line:(apos.endLine==cpos.line)=true
 trees:Du cpos (Bc [e] X.env)=[(false,eval e X.env)]
structure M2 (X:Cx) (o:Expr) (m:Str) (apos:Pos) (e f:Expr) (cpos:Pos):Prop where
 base:Em o m X.env (eval o X.env)=eval o X.env
 few:((Du cpos (Bc [e,f] X.env)).all (fun x => !x.1)&&(Jr cpos (Gn [] X.env)).all (fun x=>x.1.isSome)
  && decide (([e,f]:List Expr).length+([]:List Kr).length+(if ([]:List Kr).isEmpty then 0 else 1)<30))=true
 line:(apos.endLine==cpos.line)=true
 trees:Du cpos (Bc [e,f] X.env)=[(false,eval e X.env),(false,eval f X.env)]
def IsD(H:Hp)(a:Addr):Prop:=(∃kvs,Rd H a (.dK kvs))\/∃kvs,Rd H a (.dT kvs)
theorem isD_at{σ:St}(I:Inv X pins σ H s)(d:IsD H a):
  s.TypeIs (.ref a) "dict" /\ (∀b,Value.ref a=.ref b->∃ob,s.heap.get? b=some ob/\ob.dict=none)/\(a==Dg)=false:=by
 rcases d with⟨kvs,e⟩|⟨kvs,e⟩
 ·obtain⟨_,hd,vs,_,dd⟩:=q9i I.hok e;refine⟨dd.typeIs,fun b q=>?_,hd⟩;cases q;obtain⟨ob,_,_,h1,h2,_⟩:=dd;exact⟨ob,h1,h2.2.1⟩
 ·obtain⟨_,hd,xs,_,dd⟩:=q9j I.hok e;refine⟨dd.typeIs,fun b q=>?_,hd⟩;cases q;obtain⟨ob,_,_,h1,h2,_⟩:=dd;exact⟨ob,h1,h2.2.1⟩
section
variable{X:Cx}{pins:List (Addr×Obj)}{σ:St}{H:Hp}{s:Ad}{a:Addr}{y d:V}{u r:Value}{o:Option V}{A:Around}{E:Value->Ad->Prop}
theorem d_get2(hu:A.units+1<cLine)(I:Inv X pins σ H s)(g:DGet H a y o)(ry:RelV y u)(rd:RelV d r)(h:∀w' s',Inv X pins σ H s'->RelV (o.getD d) w'->Q w' s'):
  wpAny (model X.prog X.w) A (call (.builtin "dict.get") [.ref a,u,r]) Q E s:=by
 rcases g with⟨kvs,k,e,ey,l⟩|⟨kvs,k,b,e,ey,eb,l⟩
 ·subst ey;obtain⟨z,hd,vs,rel,dd⟩:=q9i I.hok e;refine call_meetsIn Jw dd.typeIs Nd (Ml _ _ _) (meets_dict_get_default (mixKind X.prog X.w) a (z1t ry) hd r) ⟨_,dd.mapOf,h _ _ (I.tok _) ?_⟩;rw[l];exact(rel.val k).getD rd
 ·subst ey;cases(show u=Value.ref b from ry);obtain⟨z,hd,xs,rel,dd⟩:=q9j I.hok e;refine call_meetsIn Jw dd.typeIs Nd (Ml _ _ _) (meetsH_dict_get_default (Gf (mixKind X.prog X.w)) a b hd r) ⟨Ew hu,k,xs,q4i I.hok eb,dd,h _ _ (I.tok _) ?_⟩;rw[l];exact(rel.val k).getD rd
end
def tDGet2(td ty tx:TE):TE:=fun σ H Q=>td σ H fun x H1=>∃a,x=.ref a/\IsD H1 a/\ty σ H1 fun y H2=>tx σ H2 fun z H3=>∃o,DGet H3 a y o/\Q (o.getD z) H3
section
variable{X:Cx}{o e f:Expr}{apos cpos:Pos}{td ty tx:TE}
theorem z6g(hu:X.A.units+1<cLine)(ho:PE X o td)(he:PE X e ty)(hf:PE X f tx)(m:M2 X o "get" apos e f cpos):PE X (.Call (.Attribute o "get" apos) [e,f] [] cpos) (tDGet2 td ty tx):=by
 intro pins s σ H Q I h;refine wpAny_Call_method m.base m.few m.line Jd Jw PySem.F.type_dict_get (thn (ho pins s σ H _ I h) fun u s1 ⟨x,H1,I1,rx,a,ex,d,q1⟩=>?_);subst ex;obtain rfl:u=Value.ref a:=rx;obtain⟨t1,t2,_⟩:=isD_at I1 d;refine⟨t1,t2,?_⟩;rw[m.trees];refine Jn rfl (Ol (Ky (thn (he pins s1 σ H1 _ I1 q1) fun iv s2 ⟨y,H2,I2,ry,q2⟩ =>
  Ky (thn (hf pins s2 σ H2 _ I2 q2) fun fv s3 ⟨z,H3,I3,rz,ov,g,q3⟩=>Qi ?_))))
 exact d_get2 hu I3 g ry rz fun w' s4 I4 rw'=>⟨_,H3,I4,rw',q3⟩
end
end L2
namespace K
open PySem L2 TX
def FIs:Str:=Am "0123456789"
def LEs:Str:=Am "abcdefghijklmnopqrstuvwxyzABCDEFGHIJKLMNOPQRSTUVWXYZ"
abbrev FI:List Nat:=tl FIs
abbrev LE:List Nat:=tl LEs
def allOf(t s:List Nat):Bool:=decide (t≠[])&&t.all fun c=>decide (c∈s)
def gapTakes(c:Nat)(t:List Nat):Bool:=if c=63 then decide (t.length=1) else if c=35 then allOf t FI else if c=64 then allOf t LE else true
def Pt.takes:Pt->List Nat->Bool
 |.tx l,t=>decide (t=l)
 |.gp c,t=>gapTakes c t
def cut(n:List Nat)(b e:Nat):List Nat:=(n.drop b).take (e-b)
def farTo(p:Pt)(n:List Nat)(L:Nat->Bool)(b k:Nat):Option Nat:=((List.range' b k).filter fun e=>L e&&p.takes (cut n b e)).getLast?
def far(p:Pt)(n:List Nat)(L:Nat->Bool)(b:Nat):Option Nat:=if b<=n.length then farTo p n L b (n.length+1-b) else none
def fits(n:List Nat):List Pt->Nat->Bool
 |[],b=>decide (b=n.length)
 |p::ps,b=>(far p n (fits n ps) b).isSome
def rd(n:List Nat):List Pt->Nat->List (List Nat)
 |[],_=>[]
 |p::ps,b=>(if p.isG then[cut n b ((far p n (fits n ps) b).getD 0)] else[])++rd n ps ((far p n (fits n ps) b).getD 0)
structure DF (H:Hp) (a:Addr) (f:Nat->Option Nat):Prop where
 ex:∃kvs:List (Key×V),H a=some (.dK kvs)/\kvs.length<=5000/\∀b:Nat,valV kvs (Sum.inl (b:Int))=(f b).map fun e=>V.int (e:Nat)
theorem DF.same(h:DF H a f)(sm:Same H H'):DF H' a f:=let ⟨kvs,h1,h2,h3⟩:=h.ex;⟨kvs,sm _ _ h1,h2,h3⟩
theorem DF.get(h:DF H a f)(b:Nat):DGet H a (.int (b:Int)) ((f b).map fun e=>V.int (e:Nat)):=by
 obtain⟨kvs,h1,h2,h3⟩:=h.ex;have:=DGet.k (k:=Sum.inl (b:Int)) h1;rw[h3] at this;exact this
theorem DF.new(h:DF H a f)(hb:H b=none):DF (upd H b o) a f:=h.same ((Same.refl H).new hb)
inductive DS (H:Hp) (n:List Nat):List Addr->List Pt->Prop
 |nil:DS H n [] []
 |cons {d:Addr} {p:Pt} {ds:List Addr} {ps:List Pt}:DF H d (far p n (fits n ps))->DS H n ds ps->DS H n (d::ds) (p::ps)
theorem DS.same(h:DS H n ds ps)(sm:Same H H'):DS H' n ds ps:=by
 induction h with
 |nil=>exact .nil
 |cons a _ ih=>exact .cons (a.same sm) ih
theorem DS.len(h:DS H n ds ps):ds.length=ps.length:=by
 induction h with
 |nil=>rfl
 |cons _ _ ih=>simp[ih]
theorem DS.get(h:DS H n ds ps):∀{i:Nat} {d:Addr},ds[i]?=some d->∃p,ps[i]?=some p/\DF H d (far p n (fits n (ps.drop (i+1)))):=by
 induction h with
 |nil=>simp_all
 | @cons d0 p ds ps a _ ih =>
  intro i d h;cases i with
  |zero=>simp_all
  |succ i =>simp_all
theorem q8c(l:List Nat):(mk l).length=l.length:=by rw[len,q3a]
theorem mk_inj:mk a=mk b↔a=b:=by grind
theorem dec_str(a b:List Nat):decide (V.str (mk a)=V.str (mk b))=decide (a=b):=by simp_all
end K
namespace L2
open PySem PySem.Spec PyProof.Rows
theorem Inv.freezeK{σ:St}(I:Inv X pins σ H s)(hd:H d=some u)(ho:s.heap.get? d=some ob)(hu:(∃kvs,u=.dK kvs)\/∃kvs,u=.dT kvs):Inv X pins σ (upd H d (.frz ob u)) s:=by
 have no:∀{v:HO} {b:Addr},H b=some v->((∀kvs,v≠.dK kvs)/\∀kvs,v≠.dT kvs)->b≠d:=fun{v b} z hv y=>by
  subst y;rw[hd] at z;cases z;rcases hu with⟨kvs,rfl⟩|⟨kvs,rfl⟩
  ·exact hv.1 _ rfl
  ·exact hv.2 _ rfl
 have nn:∀{b:Addr},H b=none->b≠d:=fun{b} z y=>by subst y;rw[hd] at z;cases z
 refine⟨I.ok,I.os,I.bare,⟨I.base.keep,I.base.slot,fun b o e n hx=>?_,I.base.there,fun b xs e=>?_,fun b o v e=>?_,fun b ps e=>?_⟩,I.loc,I.cell,?_,fun x c e=>?_,fun p hp=>?_,fun b v e=>?_,I.len⟩
 ·have z:=I.base.free b o e n hx;rw[q0c (nn z)];exact z
 ·have z:=I.base.tups b xs e;rw[q0c (no z ⟨fun _ y=>(by cases y),fun _ y=>(by cases y)⟩)];exact z
 ·have z:=I.base.frzs b o v e;rw[q0c (no z ⟨fun _ y=>(by cases y),fun _ y=>(by cases y)⟩)];exact z
 ·obtain⟨m,z⟩:=I.base.tbls b ps e;exact⟨m,by rw[q0c (no z ⟨fun _ y=>(by cases y),fun _ y=>(by cases y)⟩)];exact z⟩
 ·rw[q0c (nn I.free)];exact I.free
 ·rw[q0c (nn (I.freeC x c e))];exact I.freeC x c e
 ·obtain⟨e,n,ne,nf',dd⟩:=I.pin p hp;exact⟨e,by rw[q0c (nn n)];exact n,ne,nf',dd⟩
 ·have st:∀{b:Addr} {v:HO},ObjOk X.prog X.w H s.heap b v->ObjOk X.prog X.w (upd H d (.frz ob u)) s.heap b v:=fun x =>
   x.stay (fun _ _ _ q=>q) (fun c q=>by rw[q0c (no q ⟨fun _ y=>(by cases y),fun _ y=>(by cases y)⟩)];exact q) fun c xs q=>by rw[q0c (no q ⟨fun _ y=>(by cases y),fun _ y=>(by cases y)⟩)];exact q
  by_cases hb:b=d
  ·subst hb;rw[q0b] at e;cases e;exact⟨ho,st (I.hok b u hd)⟩
  ·rw[q0c hb] at e;exact st (I.hok b v e)
theorem KV.at'(r:KV kvs vs):∀{i:Nat} {k:Key} {v:V},kvs[i]?=some (k,v)->∃u,vs[i]?=some (k,u):=by
 induction r with
 |nil=>simp_all
 | @cons p q ps qs h t ih =>
  intro i k v hx;cases i with
  |zero=>simp at hx;subst hx;obtain⟨q1,q2⟩:=q;have:=h.1;simp at this;subst this;exact⟨q2,rfl⟩
  |succ i=>simp_all
theorem Inv.thaw{σ:St}(I:Inv X pins σ H s)(hd:H d=some (.frz ob u))(h0:∀o v,X.H₀ d≠some (.frz o v)):Inv X pins σ (upd H d u) s:=by
 have no:∀{v:HO} {b:Addr},H b=some v->(∀o z,v≠.frz o z)->b≠d:=fun{v b} z hv y=>by
  subst y;rw[hd] at z;cases z;exact hv _ _ rfl
 have nn:∀{b:Addr},H b=none->b≠d:=fun{b} z y=>by subst y;rw[hd] at z;cases z
 refine⟨I.ok,I.os,I.bare,⟨I.base.keep,I.base.slot,fun b o e n hx=>?_,I.base.there,fun b xs e=>?_,fun b o v e=>?_,fun b ps e=>?_⟩,I.loc,I.cell,?_,fun x c e=>?_,fun p hp=>?_,fun b v e=>?_,I.len⟩
 ·have z:=I.base.free b o e n hx;rw[q0c (nn z)];exact z
 ·have z:=I.base.tups b xs e;rw[q0c (no z fun _ _ y=>(by cases y))];exact z
 ·have z:=I.base.frzs b o v e;rw[q0c (fun y=>by subst y;exact h0 _ _ e)];exact z
 ·obtain⟨m,z⟩:=I.base.tbls b ps e;exact⟨m,by rw[q0c (no z fun _ _ y=>(by cases y))];exact z⟩
 ·rw[q0c (nn I.free)];exact I.free
 ·rw[q0c (nn (I.freeC x c e))];exact I.freeC x c e
 ·obtain⟨e,n,ne,nf',dd⟩:=I.pin p hp;exact⟨e,by rw[q0c (nn n)];exact n,ne,nf',dd⟩
 ·have st:∀{b:Addr} {v:HO},ObjOk X.prog X.w H s.heap b v->ObjOk X.prog X.w (upd H d u) s.heap b v:=fun x =>
   x.stay (fun _ _ _ q=>q) (fun c q=>by rw[q0c (no q fun _ _ y=>(by cases y))];exact q) fun c xs q=>by rw[q0c (no q fun _ _ y=>(by cases y))];exact q
  by_cases hb:b=d
  ·subst hb;rw[q0b] at e;cases e;exact st (I.hok b _ hd).2
  ·rw[q0c hb] at e;exact st (I.hok b v e)
def Ends.thaw(D:Ends)(d:Addr):Ends where
 nx:=fun σ H=>∃ob u,H d=some (.frz ob u)/\D.nx σ (upd H d u)
 rt:=fun v H=>∃ob u,H d=some (.frz ob u)/\D.rt v (upd H d u)
 bk:=fun σ H=>∃ob u,H d=some (.frz ob u)/\D.bk σ (upd H d u)
 ct:=fun σ H=>∃ob u,H d=some (.frz ob u)/\D.ct σ (upd H d u)
def tThaw(h₀:Hp)(t:TS):TS:=fun D σ H=>∃d,(∀o v,h₀ d≠some (.frz o v))/\t (D.thaw d) σ H
theorem q9l{X:Cx}{st:Stmt}{t:TS}(h₀:Hp)(hH:X.H₀=h₀)(h:PS X st t):PS X st (tThaw h₀ t):=by
 subst hH;intro pins s σ H D I q;obtain⟨d,hd,q⟩:=q;refine Bw (h pins s σ H _ I q) (fun f s' z=>?_) fun _ _ z=>z;cases f with
 |next=>obtain⟨σ',H',I',ob,u,e,n⟩:=z;exact⟨σ',_,I'.thaw e hd,n⟩
 |brk=>obtain⟨σ',H',I',ob,u,e,n⟩:=z;exact⟨σ',_,I'.thaw e hd,n⟩
 |cont=>obtain⟨σ',H',I',ob,u,e,n⟩:=z;exact⟨σ',_,I'.thaw e hd,n⟩
 |ret v=>obtain⟨x,σ',H',I',r,ob,u,e,n⟩:=z;exact⟨x,σ',_,I'.thaw e hd,r,n⟩
end L2
namespace PySem.Rv
open Sem (wp)
section
variable{prog:Program}{w:World}{A:Around}{E:Value->Ad->Prop}{s:Ad}{it d:Addr}{i ep:Nat}{dob:Obj}{ens:Array Kw}
theorem keys_iter(hsys:(d==Dg)=false)(hT:s.TypeIs (.ref d) "dict")(hdo:s.heap.get? d=some dob)(hda:dob.data=.dict ens ep)(hQ:Q (.ref s.heap.objs.size) { s with heap:=s.heap.push { cls:=.type "dict_keyiterator",data:=.fields #[.ref d,.int 0 0,.int ens.size 0,.int ep 0] } }):
  wpAny (model prog w) A (Ka (.ref d)) Q E s:=by
 refine Jh hT Rf (Bj Rf hT F.entry_dict_iter ?_ (F.args_dict_iter_1 _));refine Aa (Aa (Fe hT (Ab ?_)));show wpAny _ _ (Jx d >>= _) _ _ s;unfold Jx;rw[if_neg (by rw[hsys];decide)];refine Aa (Ab (Aa (Dm hdo hda (Aa (Gh hdo hda ?_)))));refine Aa (Bi (Ab ⟨_,rfl, "dict_keyiterator",_,⟨_,Al _ rfl,rfl⟩,Dj.lookup,?_⟩));simpa[Hu] using hQ
theorem keys_item(hki:s.heap.IsKeyIter it d i ens.size ep)(hdo:s.heap.get? d=some dob)(hda:dob.data=.dict ens ep)(hlt:i<ens.size)(hQ:∀h',h'.IsKeyIter it d (i+1) ens.size ep->De it s.heap h'->Q (some ens[i].key) { s with heap:=h' }):wpAny (model prog w) A (Gw (.ref it)) Q E s:=by
 obtain⟨io,hio,hic,hid⟩:=id hki;refine Aa (En (Bn hki.typeIs Dj
  (Bj Dj hki.typeIs Kl ?_ (Ke _))))
 refine Aa (Ab (Aa (Aa ?_)));first|refine Aa (Eo hki.typeIs (Ab ?_))|refine Aa (Fv hki.typeIs (Ab ?_))
 refine Aa (Hb hio hid ?_);refine Aa (Ab (Aa (Dm hdo hda ?_)));rw[if_neg (by simp)];refine Aa (Ab (Aa (Gh hdo hda ?_)));rw[if_neg (by simp)];refine Ab ?_;simp only[show ¬((i:Int)<0) from by lia,if_false,Fj,Bq hlt];refine Aa ?_;first|refine Aa (Eo hki.typeIs (Ab ?_))|refine Aa (Fv hki.typeIs (Ab ?_))
 refine Aa (Np hki.typeIs ?_);show wpAny _ _ (setField (.ref it) 1 (Hu ((i:Int)+1)) >>= _) _ _ s;refine Aa (Nq hio hid (by simp) ?_);have hki2:(s.heap.update it (Obj.mapFields (·.setIfInBounds 1 (Hu ((i:Int)+1))))).IsKeyIter it d (i+1) ens.size ep :=
  ⟨_,Gz _ hio (Obj.isFreed_of_fields (Pw hid _)),(Obj.cls_mapFields ..).trans hic,by rw[Pw hid];simp[Hu]⟩
 refine Aa (Br (Aa (Np (s:={ s with heap:=s.heap.update it (Obj.mapFields (·.setIfInBounds 1 (Hu ((i:Int)+1)))) }) hki2.typeIs ?_)));exact Ab (Ab ⟨_,rfl,Ab (hQ _ hki2 (Ds ..))⟩)
theorem keys_end(hh:A.handled=none)(hki:s.heap.IsKeyIter it d i ens.size ep)(hdo:s.heap.get? d=some dob)(hda:dob.data=.dict ens ep)(hge:ens.size<=i)(hQ:∀h',Na it s.heap h'->Q none { s with heap:=h' }):wpAny (model prog w) A (Gw (.ref it)) Q E s:=by
 obtain⟨io,hio,hic,hid⟩:=id hki;refine Aa (En (Bn hki.typeIs Dj
  (Bj Dj hki.typeIs Kl ?_ (Ke _))))
 refine Aa (Ab (Aa (Aa ?_)));first|refine Aa (Eo hki.typeIs (Ab ?_))|refine Aa (Fv hki.typeIs (Ab ?_))
 refine Aa (Hb hio hid ?_);refine Aa (Ab (Aa (Dm hdo hda ?_)));rw[if_neg (by simp)];refine Aa (Ab (Aa (Gh hdo hda ?_)));rw[if_neg (by simp)];refine Ab ?_;simp only[show ¬((i:Int)<0) from by lia,if_false,Fj,Gq hge];refine Aa ?_;first|refine Aa (Eo hki.typeIs (Ab ?_))|refine Aa (Fv hki.typeIs (Ab ?_))
 show wpAny _ _ (setField (.ref it) 0 .none >>= _) _ _ s;refine Aa (Nq hio hid (by simp) ?_);refine Aa ?_;refine Aa (Bi ?_ (by size_fits));refine Aa (Ku (by first|rfl|(simp only[Nr];rfl)) ?_);refine Bi ?_ (by size_fits);refine Aa (Pb ?_);rw[show A.in1.handled=none from hh];refine Aa (Ab (Qu ?_));refine Aa (Hr ⟨_,Al _ rfl,rfl⟩ Ks ?_);exact Ab (hQ _ (((Ds ..).extBut.push _).push _))
end
end PySem.Rv
namespace L2
open PySem PySem.Spec PyProof.Rows
def Itk(d:Addr)(ob:Obj)(kvs:List (List Key×V)):It :=
 ⟨fun i H=>H d=some (.frz ob (.dT kvs))/\i<kvs.length,fun i H x H'=>H'=H/\∃k v b,kvs[i]?=some (k,v)/\H b=some (.tup (k.map kV))/\x=.ref b,fun i H=>H d=some (.frz ob (.dT kvs))/\kvs.length<=i⟩
theorem Bu.at'{F:α->β->Prop}:∀{l:List α} {m:List β} {i:Nat} {p:α},Bu F l m->l[i]?=some p->∃q,m[i]?=some q/\F p q
 |_,_,0,_,.cons h t,e=>by simp at e;subst e;exact⟨_,rfl,h⟩
 |_,_,i+1,_,.cons h t,e=>by
  obtain⟨q,h1,h2⟩:=Bu.at' t (by simpa using e);exact⟨q,by simpa using h1,h2⟩
theorem z3n(ok:HOk P w H h)(hfz:H d=some (.frz ob (.dT kvs)))(hob:ob.data=.dict ens ep):
  h.get? d=some ob/\ens.size=kvs.length/\∀{i:Nat} {k:List Key} {v:V} (hlt:i<ens.size),kvs[i]?=some (k,v)->∃b,ens[i].key=.ref b/\H b=some (.tup (k.map kV)):=by
 obtain⟨hget,z,hsys,xs,hp,o,es,ep',h1,h2,h3,h4,h5⟩:=(show ObjOk P w H h d (.frz ob (.dT kvs)) from ok d _ hfz)
 rw[hget] at h1;cases h1;rw[hob] at h3;cases h3;have hl:=Cd hp;have hz:ens.size=xs.length:=by rw[<- Ca,h4,Ac]
 refine⟨hget,by lia,fun{i k v} hlt hk=>?_⟩;obtain⟨q,hq,e1,e2,e3⟩:=Bu.at' hp hk;refine⟨q.2.1,?_,e2⟩;have:ens.toList[i]?=some (Lm (Gf (mixKind P w)) q):=by simp_all
 rw[Ed,Bq hlt] at this;injection this with this;rw[this];rfl
theorem z1u{K:Af}(d it:Addr)(ob:Obj)(kvs:List (List Key×V))(ens:Array Kw)(ep:Nat)(hob:ob.data=.dict ens ep):
  Turn P w K tg (Itk d ob kvs) [it] it (fun i h=>h.IsKeyIter it d i ens.size ep) where
 mem:=by simp
 obj:=fun i h st b hb=>by
  have e:b=it:=by grind
  subst e;obtain⟨o,e,c,dd⟩:=st;exact⟨o,e,fun v z=>by rw[dd] at z;cases z⟩
 keep:=fun i h h' st k=>st.at fun o e=>k it (by simp) o e
 item:=by
  intro X hP hw hK hc i pins s σ H E I hf st hg;obtain⟨hfz,hi⟩:=hg;obtain⟨hget,hsz,hkey⟩:=z3n I.hok hfz hob;obtain⟨f0,f1,f2,f3,f4,f5⟩:=hf it (by simp);obtain⟨⟨k,v⟩,hkv⟩:∃p,kvs[i]?=some p:=⟨kvs[i],by simp[hi]⟩
  have hlt:i<ens.size:=by lia
  obtain⟨b,hb1,hb2⟩:=hkey hlt hkv;refine PySem.Rv.keys_item st hget hob hlt fun h' st' sb=>?_
  rw[hb1];have I1:Inv X pins σ H { s with heap:=h' }:=I.turned (t':=s.toks) (fun b o hb e=>(sb.2 b hb).trans e) f0 f1 f3 f4 f5;obtain⟨o,e,c,dd⟩:=id st';exact⟨.ref b,rfl,z1c e c dd (by decide) ⟨.ref b,H,I1,rfl,⟨rfl,k,v,b,hkv,hb2,rfl⟩,st',fun b hb=>(hf b hb).1⟩⟩
 done:=by
  intro X hP hw hK hc i pins s σ H E I hf st hg;obtain⟨hfz,hi⟩:=hg;obtain⟨hget,hsz,hkey⟩:=z3n I.hok hfz hob;obtain⟨f0,f1,f2,f3,f4,f5⟩:=hf it (by simp);exact PySem.Rv.keys_end (I.ok.hd hc) st hget hob (by lia) fun h' eb=>⟨rfl,I.turned (t':=s.toks) (fun b o hb e=>eb b o hb e) f0 f1 f3 f4 f5⟩
 self:=fun _ _ _ _ _ st h=>wpAny_pyIter_keyiter st h
section
variable{X:Cx}{tg l:Expr}{tl:TE}
def iDictT(tl:TE):TI:=fun σ H R=>tl σ H fun x H1=>∃d kvs,x=.ref d/\H1 d=some (.dT kvs)/\∀ob,R (Itk d ob kvs) (upd H1 d (.frz ob (.dT kvs)))
theorem z6h(hl:PE X l tl):PI X tg l (iDictT tl):=by
 intro pins s σ H R I h;refine thn (hl pins s σ H _ I h) fun v s1 ⟨x,H1,I1,r1,q1⟩=>?_;obtain⟨d,kvs,e,hd,q⟩:=q1;subst e;cases r1;obtain⟨z,hsys,xs,hp,ob,ens,ep,ho,hex,hob,h4,h5⟩:=(show ObjOk X.prog X.w H1 s1.heap d (.dT kvs) from I1.hok d _ hd)
 refine PySem.Rv.keys_iter hsys ⟨ob,ho,hex.1⟩ ho hob ?_;have hne:=Au (Aj ho);have I2:=(I1.freezeK hd ho (.inr ⟨_,rfl⟩)).kept (t':=s1.toks) (h':=s1.heap.push { cls:=.type "dict_keyiterator",data:=.fields #[.ref d,.int 0 0,.int ens.size 0,.int ep 0] }) fun b o e=>Ae _ e;refine⟨s1.heap.objs.size,[s1.heap.objs.size],_,_,_,rfl,I2,z1u d _ ob kvs ens ep hob,⟨_,Al _ rfl,rfl,rfl⟩,fun b hb=>?_,q ob⟩;have e:b=s1.heap.objs.size:=by grind
 subst e;exact I1.fpOk (Ai _) (by rw[q0c (Dp hne)];exact I1.hok.fresh (Ai _))
theorem q8d(K:Af)(hK:X.K=K)(hl:PE X l tl):PI X tg l (iDictT tl):=z6h hl
theorem q5g{g:TG}{tb:TS}{D:Ends}(Pv:Nat->St->Hp->Prop)(h0:Pv 0 σ H)(hl:∀i σ H,Pv i σ H->H d=some (.frz ob (.dT kvs)))(hs:∀i k v b σ H,kvs[i]?=some (k,v)->H b=some (.tup (k.map kV))->Pv i σ H->g (.ref b) σ H fun σ2 H2=>tb { D with nx:=Pv (i+1),ct:=Pv (i+1),bk:=D.nx } σ2 H2)(hd:∀σ H,Pv kvs.length σ H->D.nx σ H):
  ∃W:Nat->Nat->St->Hp->Prop,(∃m,W 0 m σ H)/\∀i m σ H,W i m σ H ->
   ((Itk d ob kvs).stop i H/\D.nx σ H)\/((Itk d ob kvs).go i H/\∃N:St->Hp->Prop,(∀σ' H',N σ' H'->∃m',m'<m/\W (i+1) m' σ' H')/\∀x H',(Itk d ob kvs).yld i H x H'->g x σ H' fun σ2 H2=>tb { D with nx:=N,ct:=N,bk:=D.nx } σ2 H2):=by
 refine z7s Pv h0 (fun i σ H h p=>⟨hl i σ H p,h⟩) (fun σ H p=>⟨hl _ σ H p,Ai _⟩) (fun i x σ H H' h p yl=>?_) hd;obtain⟨rfl,k,v,b,hk,hb,rfl⟩:=yl;exact hs i k v b σ _ hk hb p
end
end L2
namespace SB
open PySem PyProof.Rows
section
variable{prog:Program}{w:World}{A:Around}{E:Value->Ad->Prop}{s:Ad}
def Tells(prog:Program)(w:World)(A:Around)(s:Ad)(kd:Ju)(S:Value->Prop)(r:Value->Int):Prop :=
 ∀(E:Value->Ad->Prop) (x y:Value) (Q:Bool->Ad->Prop),S x->S y->Q (decide (r x<r y)) s->wpAny (model prog w) A (keyLt' kd x y) Q E s
def rk(r:Value->Int)(xs:Array Keyed)(i:Nat):Int:=((xs[i]?).map fun p=>r p.1).getD 0
theorem z8w(h:xs[i]?=ys[j]?):rk r xs i=rk r ys j:=by unfold rk;rw[h]
theorem rk_if[Decidable c](h:xs[i]?=if c then ys[a]? else ys[b]?):rk r xs i=if c then rk r ys a else rk r ys b:=by
 by_cases hc:c
 ·rw[if_pos hc] at h ⊢;exact z8w h
 ·rw[if_neg hc] at h ⊢;exact z8w h
theorem z3o(hj:j<=xs.size)(k:Nat):rk r (Kg xs i j ((j-i) / 2)) k=if i<=k/\k<j then rk r xs (i+j-1-k) else rk r xs k:=rk_if (getElem?_mirror_all hj k)
theorem z7v(hn:n<xs.size)(hd:d<=n)(k:Nat):rk r (bubble xs n d) k=if k=n-d then rk r xs n else if n-d<k/\k<=n then rk r xs (k-1) else rk r xs k:=by
 have e:=getElem?_bubble hn d hd k;by_cases h:k=n-d
 ·rw[if_pos h] at e ⊢;exact z8w e
 ·rw[if_neg h] at e ⊢;exact rk_if e
structure Mid (kd:Ju) (a₀:Array Keyed) (st:Gi):Prop where
 pm:(arrOf st).Perm a₀
 kn:kindOf st=kd
 fl:Rg st=none
 pd:Mr st=#[]
variable{kd:Ju}{S:Value->Prop}{r:Value->Int}{a₀:Array Keyed}
theorem Mid.sz{st:Gi}(h:Mid kd a₀ st):(arrOf st).size=a₀.size:=h.pm.size_eq
theorem Mid.put{st:Gi}(h:Mid kd a₀ st)(p:xs.Perm (arrOf st)):Mid kd a₀ (setArr st xs):=⟨p.trans h.pm,h.kn,h.fl,h.pd⟩
theorem z3p{st:Gi}(T:Tells prog w A s kd S r)(hS:∀p∈a₀.toList,S p.1)(m:Mid kd a₀ st)(hi:i<a₀.size)(hj:j<a₀.size)(h:Q (some (decide (rk r (arrOf st) i<rk r (arrOf st) j))) st):wpS (model prog w) A E s (ltAt' i j) Q st:=by
 have get:∀{k:Nat},k<a₀.size->∃p,(arrOf st)[k]?=some p/\S p.1/\rk r (arrOf st) k=r p.1:=fun{k} hk=>by
  have hk':k<(arrOf st).size:=by rw[m.sz];exact hk
  have e:(arrOf st)[k]?=some (arrOf st)[k]:=getElem?_pos _ k hk';refine⟨_,e,hS _ ((Lg.mp m.pm).mem_iff.mp (by simp)),?_⟩;unfold rk;rw[e];rfl
 obtain⟨p,e1,s1,r1⟩:=get hi;obtain⟨q,e2,s2,r2⟩:=get hj;rw[r1,r2] at h;refine Bm (Nt ?_);show wpS _ _ _ _ (elem' (arrOf st) i >>= fun x=>elem' (arrOf st) j >>= fun y=>lt' x y) Q st;rw[elem'_eq,elem'_eq,e1,e2];refine Bm (Cm (Bm (Cm ?_)));rw[lt'_eq];refine Bm (Nt ?_);rw[m.kn];exact Bm (wpS_lift (En (T _ p.1 q.1 _ s1 s2 ⟨rfl,Cm h⟩)))
def Up(r:Value->Int)(xs:Array Keyed)(n:Nat):Prop:=∀i j,i<=j->j<n->rk r xs i<=rk r xs j
def Down(r:Value->Int)(xs:Array Keyed)(n:Nat):Prop:=∀i j,i<=j->j<n->rk r xs j<=rk r xs i
theorem Up.one:Up r xs 1:=fun i j h1 h2=>by rw[show i=j by lia];exact Nf _
theorem Up.more(h:Up r xs n)(h1:1<=n)(e:rk r xs (n-1)<=rk r xs n):Up r xs (n+1):=fun i j a b=>by
 by_cases z:j<n
 ·exact h i j a z
 ·have hj:j=n:=by lia
  subst hj;by_cases y:i=j
  ·grind
  ·have:=h i (j-1) (by lia) (by lia);lia
theorem Down.more(h:Down r xs n)(h1:1<=n)(e:rk r xs n<=rk r xs (n-1)):Down r xs (n+1):=fun i j a b=>by
 by_cases z:j<n
 ·exact h i j a z
 ·have hj:j=n:=by lia
  subst hj;by_cases y:i=j
  ·grind
  ·have:=h i (j-1) (by lia) (by lia);lia
theorem Down.mir(h:Down r xs n)(hn:n<=xs.size):Up r (Kg xs 0 n ((n-0) / 2)) n:=fun i j a b=>by
 rw[z3o hn,z3o hn,if_pos (by lia),if_pos (by lia)];exact h _ _ (by lia) (by lia)
theorem q5h(hj:j<=xs.size)(h:∀k,i<=k->k<j->rk r xs k=rk r xs (j-1))(k:Nat):rk r (Kg xs i j ((j-i) / 2)) k=rk r xs k:=by
 rw[z3o hj];by_cases z:i<=k/\k<j
 ·grind
 ·rw[if_neg z]
theorem z7w{st:Gi}(T:Tells prog w A s kd S r)(hS:∀p∈a₀.toList,S p.1)(m:Mid kd a₀ st)(hn:n<=a₀.size)(h1:1<=a)(han:a<=n)(u:Up r (arrOf st) a)(h:∀k,a<=k->k<=n->Up r (arrOf st) k->(k=n\/rk r (arrOf st) k<rk r (arrOf st) (k-1))->Q (none,k) st):wpS (model prog w) A E s (ascLoop a n) Q st:=by
 refine Iq (fun x c t=>t=st/\c=(none,x)/\Up r (arrOf st) x) (fun x c t hx hxn ⟨et,ec,ux⟩=>?_) (fun c t ⟨et,ec,ux⟩=>?_) ⟨rfl,rfl,u⟩
 ·subst et ec;refine Bm (z3p T hS m (by lia) (by lia) ?_);by_cases z:rk r (arrOf t) x<rk r (arrOf t) (x-1)
  ·simp only[decide_eq_true z,if_true];exact Cm (h x hx (by lia) ux (.inr z))
  ·simp only[decide_eq_false z,Bg,if_false];exact Cm ⟨rfl,rfl,ux.more (by lia) (by lia)⟩
 ·grind
theorem z3q{st:Gi}(T:Tells prog w A s kd S r)(hS:∀p∈a₀.toList,S p.1)(m:Mid kd a₀ st)(hn:n<=a₀.size)(h1:1<=k)(hkn:k<=n)(d:Down r (arrOf st) k)(h:∀j t,Mid kd a₀ t->1<=j->j<=n->Up r (arrOf t) j->Q (some j) t):wpS (model prog w) A E s (tail3 k n) Q st:=by
 have m2:=m.put (Ng (arrOf st) 0 k ((k-0) / 2));refine Bm (Nh (Bm (z7w T hS m2 hn h1 hkn (d.mir (by rw[m.sz];lia)) fun j a b u _=>Cm (h j _ m2 (by lia) b u))))
theorem z8x{st:Gi}(T:Tells prog w A s kd S r)(hS:∀p∈a₀.toList,S p.1)(m:Mid kd a₀ st)(hn:n<=a₀.size)(h1:1<=k)(hkn:k<=n)(d:Down r (arrOf st) k)(h:∀j q t,Mid kd a₀ t->k<=j->j<=n->Down r (arrOf t) j->q+1<=j->(∀i,j-(q+1)<=i->i<j->rk r (arrOf t) i=rk r (arrOf t) (j-1))->Q (none,j,q) t):wpS (model prog w) A E s (descLoop k n) Q st:=by
 refine Iq (fun x c t=>∃q,c=(none,x,q)/\Mid kd a₀ t/\Down r (arrOf t) x/\q+1<=x/\∀i,x-(q+1)<=i->i<x->rk r (arrOf t) i=rk r (arrOf t) (x-1))
  (fun x c t hx hxn ⟨q,ec,mt,dx,hq,eq⟩=>?_) (fun c t ⟨q,ec,mt,dx,hq,eq⟩=>?_) ⟨0,rfl,m,d,by lia,fun i a b=>by rw[show i=k-1 by lia]⟩
 ·subst ec;have zs:x<=(arrOf t).size:=by rw[mt.sz];lia
  dsimp only;refine Bm (z3p T hS mt (by lia) (by lia) ?_);by_cases z:rk r (arrOf t) x<rk r (arrOf t) (x-1)
  ·simp only[decide_eq_true z,if_true];by_cases y:q>0
   ·rw[if_pos y];have em:=fun k=>q5h zs eq k;have d2:Down r (Kg (arrOf t) (x-(q+1)) x ((x-(x-(q+1))) / 2)) x:=fun i j a b=>by rw[em,em];exact dx i j a b
    exact Bm (Nh (Cm ⟨0,rfl,mt.put (Ng _ _ _ _),d2.more (by lia) (by rw[em,em];lia),by lia,fun i a b=>by rw[show i=x+1-1 by lia]⟩))
   ·rw[if_neg y];exact Cm ⟨0,rfl,mt,dx.more (by lia) (by lia),by lia,fun i a b=>by rw[show i=x+1-1 by lia]⟩
  ·simp only[decide_eq_false z,Bg,if_false];refine Bm (z3p T hS mt (by lia) (by lia) ?_);by_cases y:rk r (arrOf t) (x-1)<rk r (arrOf t) x
   ·simp only[decide_eq_true y,if_true];exact Cm (h x q t mt hx (by lia) dx hq eq)
   ·simp only[decide_eq_false y,Bg,if_false];have ex:rk r (arrOf t) x=rk r (arrOf t) (x-1):=by lia
    refine Cm ⟨q+1,rfl,mt,dx.more (by lia) (by lia),by lia,fun i a b=>?_⟩;rw[show x+1-1=x by lia,ex];by_cases c:i=x
    ·rw[c,ex]
    ·grind
 ·grind
theorem z3r{st:Gi}(T:Tells prog w A s kd S r)(hS:∀p∈a₀.toList,S p.1)(m:Mid kd a₀ st)(hn:n<=a₀.size)(hkn:k+1<=n)(d:Down r (arrOf st) (k+1))(h:∀j t,Mid kd a₀ t->1<=j->j<=n->Up r (arrOf t) j->Q (some j) t):wpS (model prog w) A E s (descPart k n) Q st:=by
 refine Bm (wpS_lift (Hq ⟨rfl,Bm (z8x T hS m hn (by lia) hkn d fun j q t mt a b dt hq eq=>?_)⟩));have zs:j<=(arrOf t).size:=by rw[mt.sz];lia
 dsimp only;by_cases y:q>0
 ·rw[if_pos y];exact Bm (Nh (z3q T hS (mt.put (Ng _ _ _ _)) hn (by lia) b (fun i i' a' b'=>by show rk r (Kg _ _ _ _) i'<=rk r (Kg _ _ _ _) i;rw[q5h zs eq,q5h zs eq];exact dt i i' a' b') h))
 ·rw[if_neg y];exact z3q T hS mt hn (by lia) b dt h
theorem run_ok{st:Gi}(T:Tells prog w A s kd S r)(hS:∀p∈a₀.toList,S p.1)(m:Mid kd a₀ st)(hn:n<=a₀.size)(h1:1<=n)(h:∀j t,Mid kd a₀ t->1<=j->j<=n->Up r (arrOf t) j->Q (some j) t):wpS (model prog w) A E s (countRun' 0 n) Q st:=by
 rw[countRun0_eq];refine Bm (z7w T hS m hn (Ai 1) h1 Up.one fun k a b u o=>?_);have zs:k<=(arrOf st).size:=by rw[m.sz];lia
 dsimp only;by_cases e:k=n
 ·rw[if_pos (by simpa using e)];exact Cm (h k st m a b u)
 rw[if_neg (by simpa using e)];by_cases g:k>1
 ·rw[if_pos g];refine Bm (z3p T hS m (by lia) (by lia) ?_);by_cases z:rk r (arrOf st) 0<rk r (arrOf st) (k-1)
  ·simp only[decide_eq_true z,if_true];exact Cm (h k st m a b u)
  ·simp only[decide_eq_false z,Bg,if_false];have al:∀i,0<=i->i<k->rk r (arrOf st) i=rk r (arrOf st) (k-1):=fun i _ hi=>by
    have u1:=u 0 i (by lia) hi;have u2:=u i (k-1) (by lia) (by lia);lia
   refine Bm (Nh (z3r T hS (m.put (Ng _ _ _ _)) hn (by lia) (Down.more (fun i j a' b'=>?_) (by lia) ?_) h))
   ·show rk r (Kg _ _ _ _) j<=rk r (Kg _ _ _ _) i;rw[q5h zs al,q5h zs al,al i (by lia) (by lia),al j (by lia) (by lia)];exact Nf _
   ·show rk r (Kg _ _ _ _) k<=rk r (Kg _ _ _ _) (k-1);rw[q5h zs al,q5h zs al];lia
 ·rw[if_neg g];exact z3r T hS m hn (by lia) (Down.more (fun i j a' b'=>by rw[show i=j by lia];exact Nf _) (by lia) (by lia)) h
theorem ins_ok{st:Gi}(T:Tells prog w A s kd S r)(hS:∀p∈a₀.toList,S p.1)(m:Mid kd a₀ st)(hn:n<=a₀.size)(hk:k<=n)(u:Up r (arrOf st) k)(h:∀t,Mid kd a₀ t->Up r (arrOf t) n->Q true t):wpS (model prog w) A E s (binarySort' 0 n k) Q st:=by
 rw[binarySort'_eq];simp only[Px];refine Bm (Rh (Iq (fun j c t=>c=(none,())/\Mid kd a₀ t/\Up r (arrOf t) (min j n)) (Q:=fun c t=>c=(none,())/\Mid kd a₀ t/\Up r (arrOf t) n) ?step ?fin ⟨rfl,m,?init⟩) ?post)
 case step =>
  rintro j c t hj hjn ⟨rfl,mt,ut⟩;refine Bm (Rh (Iq (fun x c t'=>t'=t/\∃lo hi,c=(none,lo,hi)/\lo<=hi/\hi<=j/\hi-lo<=j-x/\(∀i,i<lo->rk r (arrOf t) i<=rk r (arrOf t) j)/\∀i,hi<=i->i<j->rk r (arrOf t) j<rk r (arrOf t) i)
   (Q:=fun c t'=>t'=t/\∃lo hi,c=(none,lo,hi)/\lo<=j/\(∀i,i<lo->rk r (arrOf t) i<=rk r (arrOf t) j)/\∀i,lo<=i->i<j->rk r (arrOf t) j<rk r (arrOf t) i)
   ?st2 ?fi2 ⟨rfl,0,j,rfl,by lia,by lia,by lia,fun i z=>by lia,fun i z y=>by lia⟩) ?po2)
  case st2 =>
   rintro x c t' hx hxj ⟨rfl,lo,hi,rfl,a1,a2,a3,a4,a5⟩;dsimp only;by_cases z:lo>=hi
   ·rw[if_pos z];exact Cm ⟨rfl,lo,hi,rfl,by lia,a4,fun i b c=>a5 i (by lia) c⟩
   ·rw[if_neg z];refine Bm (z3p T hS mt (by lia) (by lia) ?_);by_cases y:rk r (arrOf t') j<rk r (arrOf t') ((lo+hi) / 2)
    ·simp only[decide_eq_true y,if_true];refine Cm ⟨rfl,lo,(lo+hi) / 2,rfl,by lia,by lia,by lia,a4,fun i b c=>?_⟩;have:=ut ((lo+hi) / 2) i b (by lia);lia
    ·simp only[decide_eq_false y,Bg,if_false];refine Cm ⟨rfl,(lo+hi) / 2+1,hi,rfl,by lia,a2,by lia,fun i b=>?_,a5⟩;have:=ut i ((lo+hi) / 2) (by lia) (by lia);lia
  case fi2 =>
   rintro c t' ⟨rfl,lo,hi,rfl,a1,a2,a3,a4,a5⟩;exact⟨rfl,lo,hi,rfl,by lia,a4,fun i b c=>a5 i (by lia) c⟩
  case po2 =>
   rintro c t' ⟨rfl,lo,hi,rfl,a1,a4,a5⟩;rw[moveDown'_eq];have zs:j<(arrOf t').size:=by rw[mt.sz];lia
   refine Bm (Rz (Cm ⟨rfl,mt.put (bubble_perm _ _ _),fun i i' b c=>?_⟩));have e1:j-(j-lo)=lo:=by lia
   rw[z7v zs (by lia),z7v zs (by lia),e1];by_cases b1:i=lo
   ·grind
   ·rw[if_neg b1];by_cases b2:i'=lo
    ·grind
    ·rw[if_neg b2];by_cases b3:lo<i/\i<=j
     ·rw[if_pos b3,if_pos (by lia)];exact ut _ _ (by lia) (by lia)
     ·rw[if_neg b3];by_cases b4:lo<i'/\i'<=j
      ·grind
      ·rw[if_neg b4];exact ut _ _ b (by lia)
 case fin =>
  rintro c t ⟨ec,mt,ut⟩;have e:min (max (max k 1) n) n=n:=by lia
  rw[e] at ut;exact⟨ec,mt,ut⟩
 case init =>
  intro i j a b;by_cases z:k=0
  ·grind
  ·exact u i j a (by lia)
 case post =>
  rintro c t ⟨rfl,mt,ut⟩;exact Cm (h t mt ut)
structure Fin' (a₀:Array Keyed) (r:Value->Int) (st:Gi):Prop where
 pm:(arrOf st).Perm a₀
 fl:Rg st=none
 pd:Mr st=#[(0,a₀.size,0)]
 up:Up r (arrOf st) a₀.size
theorem z8y{st:Gi}(T:Tells prog w A s kd S r)(hS:∀p∈a₀.toList,S p.1)(m:Mid kd a₀ st)(h2:2<=a₀.size)(h64:a₀.size<64)(h:∀t,(arrOf t).Perm a₀->Rg t=none->Up r (arrOf t) a₀.size->Q () t):wpS (model prog w) A E s sortRuns' Q st:=by
 rw[sortRuns'_eq];have em:minRun' a₀.size a₀.size 0=a₀.size:=by
  cases z:a₀.size with
  |zero=>rfl
  |succ f=>rw[minRun'_succ,if_pos (by lia)]
 have fin:∀{t:Gi},Mid kd a₀ t->Up r (arrOf t) a₀.size->Fin' a₀ r (setPending t ((Mr t).push (0,a₀.size,0))):=fun{t} mt ut=>⟨mt.pm,mt.fl,by show(Mr t).push _=_;rw[mt.pd];rfl,ut⟩
 have none_back:∀{t:Gi},Mid kd a₀ t->(Mr t).back?=none:=fun{t} mt=>by rw[mt.pd];rfl
 refine Bm (Nt ?_);simp only[m.sz,em];refine Bm (Rh (Iq (fun x c t=>(x=0/\c=(none,0)/\Mid kd a₀ t)\/(1<=x/\c=(none,a₀.size)/\Fin' a₀ r t)) (Q:=fun c t=>c=(none,a₀.size)/\Fin' a₀ r t) ?st1 ?fi1 (.inl ⟨rfl,rfl,m⟩)) ?po1)
 case st1 =>
  intro x c t _ hx o;rcases o with⟨rfl,rfl,mt⟩|⟨x1,rfl,f⟩
  ·dsimp only;rw[if_neg (by lia)];simp only[Md,Nat.min_self,Px];refine Bm (run_ok T hS mt (Ai _) (by lia) fun j t' mt' j1 j2 ut'=>?_);dsimp only;by_cases z:j<a₀.size
   ·rw[if_pos z];refine Bm (wpS_lift (Hq ⟨rfl,Bm (ins_ok T hS mt' (Ai _) j2 ut' fun t2 mt2 ut2=>?_)⟩));refine Bm (Nt ?_);rw[none_back mt2];exact Bm (Rz (Cm (.inr ⟨by lia,rfl,fin mt2 ut2⟩)))
   ·rw[if_neg z];have ej:j=a₀.size:=by lia
    subst ej;refine Bm (Nt ?_);rw[none_back mt'];exact Bm (Rz (Cm (.inr ⟨by lia,rfl,fin mt' ut'⟩)))
  ·dsimp only;rw[if_pos (Ai _)];exact Cm ⟨rfl,f⟩
 case fi1 =>
  intro c t o;rcases o with⟨z,_⟩|⟨_,ec,f⟩
  ·lia
  ·exact⟨ec,f⟩
 case po1 =>
  rintro c t ⟨rfl,f⟩;refine Bm (Rh (Iq (fun _ c t'=>t'=t/\c=(none,())) (Q:=fun c t'=>t'=t/\c=(none,())) ?st3 (fun _ _ z=>z) ⟨rfl,rfl⟩) ?po3)
  case st3 =>
   rintro x c t' _ _ ⟨rfl,rfl⟩;refine Bm (Nt ?_);rw[if_pos (by rw[f.pd];exact Ai 1)];exact Cm ⟨rfl,rfl⟩
  case po3 =>
   rintro c t' ⟨rfl,rfl⟩;exact Cm (h _ f.pm f.fl f.up)
end
end SB
namespace PySem.Rv
open Sem (wp)
abbrev itemObj(d:Addr)(i n ep:Nat)(f0 f1 ok ov:Value):Obj:={ cls:=.type "dict_itemiterator",dict:=none,data:=.fields #[f0,f1,.ref d,.int i 0,.int n 0,.int ep 0,ok,ov],slots:=#[] }
def ItemIt(h:Heap)(it d:Addr)(i n ep:Nat):Prop:=∃f0 f1 ok ov,h.get? it=some (itemObj d i n ep f0 f1 ok ov)/\(f0=.none\/∃a:Addr,f0=Hu a)
theorem ItemIt.typeIs{s:Ad}(x:ItemIt s.heap it d i n ep):s.TypeIs (.ref it) "dict_itemiterator" := by
 obtain⟨f0,f1,ok,ov,e,_⟩:=x;exact⟨_,e,rfl⟩
theorem ItemIt.lt(x:ItemIt h it d i n ep):it<h.objs.size:=by
 obtain⟨f0,f1,ok,ov,e,_⟩:=x;exact Aj e
theorem ItemIt.keep(x:ItemIt h it d i n ep)(k:∀o,h.get? it=some o->h'.get? it=some o):ItemIt h' it d i n ep:=by
 obtain⟨f0,f1,ok,ov,e,z⟩:=x;exact⟨f0,f1,ok,ov,k _ e,z⟩
section
variable{prog:Program}{w:World}{A:Around}{E:Value->Ad->Prop}{s:Ad}{it d v:Addr}{i ep:Nat}{dob:Obj}{ens:Array Kw}
theorem items_iter(hv:s.heap.IsItemsView v d)(hdo:s.heap.get? d=some dob)(hda:dob.data=.dict ens ep)(hQ:Q (.ref s.heap.objs.size) { s with heap:=s.heap.push (itemObj d 0 ens.size ep .none (.bool false) .none .none) }):wpAny (model prog w) A (Ka (.ref v)) Q E s:=by
 obtain⟨o,ho,hc,hf⟩:=id hv;refine Jh hv.typeIs Ni (Bj Ni hv.typeIs F.entry_dict_items_iter ?_ (F.args_dict_items_iter_1 _));unfold Bx.«dict_items.__iter__»;refine Aa (Ab (Aa ?_));unfold Bx.Dict_items.dictOf;refine Aa (Cu ho hf rfl (Ab (Aa ?_)));unfold Bx.Dict_items.newIterator;refine Aa (Dm hdo hda (Aa (Gh hdo hda ?_)));simp only[show Hc "dict_itemiterator" = true from by decide,if_true];refine Bi (Ab ⟨_,rfl, "dict_itemiterator",_,⟨_,Al _ rfl,rfl⟩,Cn.lookup,?_⟩) (by simp[sizeOk,Jb,Cp]);simpa[Hu,itemObj,Jb] using hQ
theorem q5i(e:s.heap.get? it=some (itemObj d i n ep f0 f1 ok ov))(hk:k<8)(hQ:∀h',h'.get? it=some { cls:=.type "dict_itemiterator",dict:=none,data:=.fields ((#[f0,f1,.ref d,.int i 0,.int n 0,.int ep 0,ok,ov]:Array Value).setIfInBounds k x),slots:=#[] }->De it s.heap h'->Q () { s with heap:=h' }):
  wpAny (model prog w) A (setField (.ref it) k x) Q E s:=Cs e (by simpa using hk) hQ
theorem owned(x:ItemIt s.heap it d i n ep)(hQ:∀b h',ItemIt h' it d i n ep->De it s.heap h'->Q b { s with heap:=h' }):
  wpAny (model prog w) A (Bx.Dict_items.ownedTupleIsFree (.ref it)) Q E s:=by
 obtain⟨f0,f1,ok,ov,e,z⟩:=id x;refine Aa (Cu e rfl rfl ?_);rcases z with rfl|⟨a,rfl⟩
 ·exact Ab (hQ true s.heap x (Gu _ _))
 ·show wpAny _ _ (loadIfAlive (Int.toNat (a:Int)) >>= _) _ _ _;have al:∀{Q':Option Obj->Ad->Prop},Q' (s.heap.get? (Int.toNat (a:Int))) s->wpAny (model prog w) A (loadIfAlive (Int.toNat (a:Int))) Q' E s:=fun h' _ _ _=>h';refine Aa (al ?_);by_cases hn:(s.heap.get? (Int.toNat (a:Int))).isNone=true
  ·rw[if_pos hn];exact Ab (hQ true s.heap x (Gu _ _))
  ·rw[if_neg hn];refine Aa (Cu e rfl (x:=f1) rfl ?_);by_cases hb:(f1 != Value.bool true)=true
   ·rw[if_pos hb];refine Aa (q5i e (by decide) fun h' e' sb=>Ab (hQ false h' ⟨_,_,_,_,e',.inr ⟨a,rfl⟩⟩ sb))
   ·rw[if_neg hb];exact Ab (hQ false s.heap x (Gu _ _))
theorem items_item(x:ItemIt s.heap it d i ens.size ep)(hdo:s.heap.get? d=some dob)(hda:dob.data=.dict ens ep)(hlt:i<ens.size)(hQ:∀h',ItemIt h' it d (i+1) ens.size ep->h'.get? s.heap.objs.size=some { cls:=.type "tuple",data:=.seq #[ens[i].key,ens[i].val] }->h'.objs.size=s.heap.objs.size+1 ->
   (∀b o,b≠it->s.heap.get? b=some o->h'.get? b=some o)->Q (some (.ref s.heap.objs.size)) { s with heap:=h' }):wpAny (model prog w) A (Gw (.ref it)) Q E s:=by
 obtain⟨f0,f1,ok,ov,e,z⟩:=id x;have hT:=x.typeIs;refine Aa (En (Bn hT Cn (Bj Cn hT Kh ?_ (Jz _))));refine Aa (Ab (Aa (Aa ?_)));first|refine Aa (Eh hT (Ab ?_))|refine Aa (Fn hT (Ab ?_))
 refine Aa (Hb e rfl ?_);simp only[show Hc "dict_itemiterator" = true from by decide,if_true];refine Aa (Ab (Aa (Dm hdo hda ?_)));rw[if_neg (by simp)];refine Aa (Ab (Aa (Gh hdo hda ?_)));rw[if_neg (by simp)];refine Ab ?_;simp only[show ¬((i:Int)<0) from by lia,if_false,Fj,Bq hlt];refine Aa ?_;first|refine Aa (Eh hT (Ab ?_))|refine Aa (Fn hT (Ab ?_))
 refine Aa (Jo hT ?_);show wpAny _ _ (setField (.ref it) 3 (Hu ((i:Int)+1)) >>= _) _ _ s;refine Aa (q5i e (by decide) fun h₁ e₁ sb₁=>?_);have x₁:ItemIt h₁ it d (i+1) ens.size ep:=⟨f0,f1,ok,ov,by rw[e₁];simp[itemObj,Hu],z⟩
 refine Aa (Br ?_);refine Aa (Jo x₁.typeIs (Aa (Jo x₁.typeIs ?_)));have z₁:=sb₁.1;have hil:=Au x.lt;refine Aa (Nn ?_);refine Aa (owned (x₁.keep fun o q=>Ae _ q) fun b h₂ x₂ sb₂=>?_);have t₂:h₂.get? s.heap.objs.size=some { cls:=.type "tuple",data:=.seq #[ens[i].key,ens[i].val] }:=by
  rw[sb₂.2 _ (Dp hil),<- z₁];exact Al _ rfl
 have n₂:h₂.objs.size=s.heap.objs.size+1:=by rw[sb₂.1];show(h₁.push _).objs.size=_;rw[Es,z₁]
 have k₂:∀b o,b≠it->s.heap.get? b=some o->h₂.get? b=some o:=fun b o hb q=>by
  rw[sb₂.2 b hb];exact Ae _ ((sb₁.2 b hb).trans q)
 have ez:(Value.ref h₁.objs.size)=.ref s.heap.objs.size:=by rw[z₁]
 cases b with
 |false =>
  refine Ab (Ab ⟨_,rfl,Ab ?_⟩);rw[ez];exact hQ h₂ x₂ t₂ n₂ k₂
 |true =>
  obtain⟨g0,g1,ok2,ov2,e₂,_⟩:=x₂;refine Aa (Cu e₂ rfl rfl (Aa (Cu e₂ rfl rfl ?_)));refine Aa (q5i e₂ (by decide) fun h₃ e₃ sb₃=>?_);refine Aa (q5i e₃ (by decide) fun h₄ e₄ sb₄=>?_);refine Aa (q5i e₄ (by decide) fun h₅ e₅ sb₅=>?_);refine Aa (q5i e₅ (by decide) fun h₆ e₆ sb₆=>?_);have kk:∀b o,b≠it->h₂.get? b=some o->h₆.get? b=some o:=fun b o hb q=>(sb₆.2 b hb).trans ((sb₅.2 b hb).trans ((sb₄.2 b hb).trans ((sb₃.2 b hb).trans q)))
  refine Aa (Nb (Ab (Ab ⟨_,rfl,Ab ?_⟩)));rw[ez];refine hQ h₆ ⟨_,_,_,_,e₆,.inr ⟨_,rfl⟩⟩ (kk _ _ (Dp hil) t₂) ?_ fun b o hb q=>kk b o hb (k₂ b o hb q);rw[sb₆.1];rw[sb₅.1];rw[sb₄.1];rw[sb₃.1];exact n₂
theorem items_end(hh:A.handled=none)(x:ItemIt s.heap it d i ens.size ep)(hdo:s.heap.get? d=some dob)(hda:dob.data=.dict ens ep)(hge:ens.size<=i)(hQ:∀h',Na it s.heap h'->Q none { s with heap:=h' }):wpAny (model prog w) A (Gw (.ref it)) Q E s:=by
 obtain⟨f0,f1,ok,ov,e,z⟩:=id x;have hT:=x.typeIs;refine Aa (En (Bn hT Cn (Bj Cn hT Kh ?_ (Jz _))));refine Aa (Ab (Aa (Aa ?_)));first|refine Aa (Eh hT (Ab ?_))|refine Aa (Fn hT (Ab ?_))
 refine Aa (Hb e rfl ?_);simp only[show Hc "dict_itemiterator" = true from by decide,if_true];refine Aa (Ab (Aa (Dm hdo hda ?_)));rw[if_neg (by simp)];refine Aa (Ab (Aa (Gh hdo hda ?_)));rw[if_neg (by simp)];refine Ab ?_;simp only[show ¬((i:Int)<0) from by lia,if_false,Fj,Gq hge];refine Aa ?_;first|refine Aa (Eh hT (Ab ?_))|refine Aa (Fn hT (Ab ?_))
 show wpAny _ _ (setField (.ref it) 2 .none >>= _) _ _ s;refine Aa (Nq e rfl (by simp) ?_);show wpAny _ _ (newExc (.type "StopIteration") [] >>= _) _ _ _;refine Aa ?_;refine Aa (Bi (Aa (Ku (by first|rfl|(simp only[Nr];rfl)) ?_)) (by size_fits));refine Bi ?_ (by size_fits);refine Aa (Pb ?_);rw[show A.in1.handled=none from hh];refine Aa (Ab (Qu ?_));refine Aa (Hr ⟨_,Al _ rfl,rfl⟩ Ks ?_);exact Ab (hQ _ (((Ds ..).extBut.push _).push _))
theorem items_go (x : ItemIt s.heap it d i n ep) (hQ : ∀ h', ItemIt h' it d i n ep → De it s.heap h' → Q () { s with heap := h' }) :
    wpAny (model prog w) A (Ic tg (.ref it) u) Q E s := by
  obtain ⟨f0, f1, ok, ov, e, z⟩ := id x
  have same := hQ s.heap x (Gu _ _)
  cases tg <;> first
    | exact Ab same
    | (cases u <;> first
        | exact Ab same
        | (refine Aa (Of e ?_)
           refine Ki (fun _ => ?_) (fun _ => Ab same)
           exact q5i e (by decide) fun h' e' sb => hQ h' ⟨_, _, _, _, e', .inl rfl⟩ sb))
end
end PySem.Rv
namespace SB
open PySem PyProof.Rows TX
abbrev Pth:=List (List Nat)
def pLt:Pth->Pth->Bool
 |[],[]=>false
 |[],_::_=>true
 |_::_,[]=>false
 |a::r,b::t=>if a=b then pLt r t else decide (a<b)
theorem q3o(a b:List Nat)(r t:Pth):pLt (a::r) (b::t)=if a=b then pLt r t else decide (a<b):=rfl
theorem q3x:∀p:Pth,pLt p p=false
 |[]=>rfl
 |a::r=>by rw[q3o,if_pos rfl];exact q3x r
theorem q8e{c:List Nat}(h:a<b)(h':b<c):a<c:=List.lt_trans h h'
theorem z8z{b:List Nat}(h:¬a<b)(h':¬b<a):a=b:=List.le_antisymm (Qv.mp h') (Qv.mp h)
theorem q8f:∀{p q t:Pth},pLt p q=true->pLt q t=true->pLt p t=true
 |[],[],_,h,_=>by cases h
 |_::_,[],_,h,_=>by cases h
 |_,_::_,[],_,h=>by cases h
 |[],_::_,_::_,_,_=>rfl
 |a::p,b::q,c::t,h,h'=>by
  rw[q3o] at h h' ⊢;by_cases e1:a=b
  ·subst e1;rw[if_pos rfl] at h;by_cases e2:a=c
   ·rw[if_pos e2] at h' ⊢;exact q8f h h'
   ·rw[if_neg e2] at h' ⊢;exact h'
  ·rw[if_neg e1] at h;by_cases e2:b=c
   ·subst e2;rw[if_neg e1];exact h
   ·rw[if_neg e2] at h';have h1:=of_decide_eq_true h;have h2:=of_decide_eq_true h';have h3:=q8e h1 h2;rw[if_neg (fun e=>by subst e;exact absurd (q8e h1 h2) (List.lt_irrefl _))];exact decide_eq_true h3
theorem q9m:∀{p q:Pth},pLt p q=false->pLt q p=false->p=q
 |[],[],_,_=>rfl
 |[],_::_,h,_=>by cases h
 |_::_,[],_,h=>by cases h
 |a::p,b::q,h,h'=>by
  rw[q3o] at h h';by_cases e:a=b
  ·subst e;rw[if_pos rfl] at h h';rw[q9m h h']
  ·rw[if_neg e] at h;rw[if_neg (Dp e)] at h';exact absurd (z8z (of_decide_eq_false h) (of_decide_eq_false h')) e
def pRank(ps:List Pth)(p:Pth):Nat:=(ps.filter fun q=>pLt q p).length
theorem q8g{α:Type}{f g:α->Bool}:∀(l:List α),(∀x∈l,f x=true->g x=true)->(l.filter f).length<=(l.filter g).length
 |[],_=>Ai _
 |x::r,h=>by
  have ih:=q8g r fun y hy=>h y (Ah _ hy);by_cases hf:f x=true
  ·simp_all
  ·rw[Ga hf];by_cases hg:g x=true
   ·rw[Gb hg];exact Fl ih
   ·simp_all
theorem q8h{α:Type}{f g:α->Bool}{y:α}:∀(l:List α),(∀x∈l,f x=true->g x=true)->y∈l->f y=false->g y=true->(l.filter f).length<(l.filter g).length
 |[],_,hy,_,_=>by cases hy
 |x::r,h,hy,h1,h2=>by
  rcases Bb.mp hy with e|hy
  ·subst e;rw[Ga (by rw[h1];decide),Gb h2];exact Nat.lt_succ_of_le (q8g r fun z hz=>h z (Ah _ hz))
  ·have ih:=q8h r (fun z hz=>h z (Ah _ hz)) hy h1 h2;by_cases hf:f x=true
   ·simp_all
   ·rw[Ga hf];by_cases hg:g x=true
    ·rw[Gb hg];exact Dn ih
    ·simp_all
theorem q6b(hp:p∈ps)(h:pLt p q=true):pRank ps p<pRank ps q :=
 q8h ps (fun x _ hx=>q8f hx h) hp (q3x p) h
theorem q9n(hp:p∈ps)(hq:q∈ps):pLt p q=decide ((pRank ps p:Int)<(pRank ps q:Int)):=by
 cases h:pLt p q with
 |true=>have:=q6b hp h;exact(decide_eq_true (by lia)).symm
 |false =>
  cases h':pLt q p with
  |true=>have:=q6b hq h';exact(decide_eq_false (by lia)).symm
  |false=>rw[q9m h h'];exact(decide_eq_false (by lia)).symm
def PathAt(h:Heap)(v:Value)(p:Pth):Prop:=∃a its,v=.ref a/\IsTup h a its/\Fb its.toList (p.map mk)
theorem mk_inj(h:mk a=mk b):a=b:=by have:=congrArg tl h;rwa [q3a,q3a] at this
theorem q5j:∀{vs:List Value} {ss ts:List Str},Fb vs ss->Fb vs ts->ss=ts
 |_,_,_,.nil,.nil=>rfl
 |_,_,_,.cons y t h,.cons _ _ h'=>by rw[q5j h h']
theorem q6c:∀{p q:Pth},p.map mk=q.map mk->p=q
 |[],[],_=>rfl
 |[],_::_,h=>by simp at h
 |_::_,[],h=>by simp at h
 |a::p,b::q,h=>by
  rw[Ak,Ak] at h;injection h with h1 h2;rw[mk_inj h1,q6c h2]
theorem q1v:∀{vs:List Value} {p:Pth},Fb vs (p.map mk)->vs.length=p.length
 |_,[],.nil=>rfl
 |vs,n::p,h=>by
  rw[Ak] at h;cases h with
  |cons _ _ h'=>rw[Bl,Bl,q1v h']
theorem IsTup.inj(h1:IsTup h a x)(h2:IsTup h a y):x=y:=by
 obtain⟨o,e,_,n,d⟩:=h1;obtain⟨o',e',_,n',d'⟩:=h2;rw[e] at e';cases e';rw[d] at d';cases d';rfl
theorem PathAt.inj(h1:PathAt h v p)(h2:PathAt h v q):p=q:=by
 obtain⟨a,its,rfl,t,s⟩:=h1;obtain⟨a',its',e,t',s'⟩:=h2;cases e;rw[IsTup.inj t t'] at s;exact q6c (q5j s s')
theorem IsTup.keep(t:IsTup h a x)(k:∀o,h.get? a=some o->h'.get? a=some o):IsTup h' a x:=let ⟨o,e,r⟩:=t;⟨o,k o e,r⟩
theorem PathAt.keep(x:PathAt h v p)(k:∀b o,h.get? b=some o->h'.get? b=some o):PathAt h' v p:=let ⟨a,its,e,t,s⟩:=x;⟨a,its,e,IsTup.keep t fun o=>k a o,s⟩
def dP(p:Pth):List PyData:=p.map fun n=>PyData.str (mk n)
def Low(p:Pth):Prop:=∀n∈p,∀c∈n,c<128
theorem q6d:∀{p:Pth} {vs:List Value},Fb vs (p.map mk)->∃as,ReadsAll h vs (dP p) as
 |[],_,.nil=>⟨_,.nil⟩
 |n::p,vs,x=>by
  rw[Ak] at x;cases x with
  |cons y t s =>
   obtain⟨as,h'⟩:=q6d s;exact⟨_,.cons (.str _ t) h'⟩
theorem PathAt.reads(x:PathAt h v p):∃as,Reads h v (.tuple (dP p)) as:=by
 obtain⟨a,its,rfl,⟨o,e,c,n,d⟩,s⟩:=x;obtain⟨as,r⟩:=q6d s;exact⟨_,.tuple e c d r⟩
theorem z3s(h:∀c∈l,c<128):Py (mk l)=true:=by
 unfold Py;simp only[mk,List.all_toArray,Jt];intro c hc;have:=h c hc;simp;lia
theorem q6e:∀{p:Pth},Low p->Je (dP p)=true
 |[],_=>rfl
 |n::r,h=>by
  have h1:=z3s (h n Ap);have ih:=q6e fun x hx=>h x (Ah _ hx);show Je (PyData.str (mk n)::dP r)=true;simp only[Je,Hs,h1,ih,Pc]
theorem q3p:∀p:Pth,Ee (dP p)<=1
 |[]=>by simp[dP,Ee]
 |n::r=>by
  have ih:=q3p r;show Ee (PyData.str (mk n)::dP r)<=1;simp only[Ee,Kz];lia
theorem q5k:∀p q:Pth,Fh (dP p) (dP q)=decide (p=q)
 |[],[]=>rfl
 |[],_::_=>rfl
 |_::_,[]=>rfl
 |a::p,b::q=>by
  show Fh (PyData.str (mk a)::dP p) (PyData.str (mk b)::dP q)=_;have e:Fh (PyData.str (mk a)::dP p) (PyData.str (mk b)::dP q)=(Dz (PyData.str (mk a)) (PyData.str (mk b))&&Fh (dP p) (dP q)):=by simp only[Fh]
  have e2:Dz (PyData.str (mk a)) (PyData.str (mk b))=(mk a==mk b):=by simp only[Dz]
  rw[e,e2,q5k p q];by_cases h:a=b
  ·subst h;simp
  ·grind
section
variable{prog:Program}{w:World}{A:Around}{E:Value->Ad->Prop}{s:Ad}{x y:Value}{p q:Pth}
theorem z6i(hx:PathAt s.heap x p)(hy:PathAt s.heap y q)(lp:Low p)(lq:Low q)(hu:A.units+2<cLine):Od A s x y (decide (p=q)):=by
 obtain⟨as,r1⟩:=hx.reads;obtain⟨bs,r2⟩:=hy.reads;have h:=SeqAt.eqAt_reads (.tuple (dP p)) (.tuple (dP q)) A s x y as bs r1 r2 (by simp only[Hs,q6e lp]) (by simp only[Hs,q6e lq]) (by
  have h1:(PyData.tuple (dP p)).depth=Ee (dP p)+1:=by simp only[Kz]
  have:=q3p p;lia)
 have e:Dz (.tuple (dP p)) (.tuple (dP q))=decide (p=q):=by simp only[Dz,q5k]
 rwa [e] at h
theorem q8i(l b:Addr)(items items2:Array Value)(n n2:Nat)(dd dd2:Option Addr)(sl sl2:Array (Option Value))(p q:Pth)(hi:Fb items.toList (p.map mk))(hj:Fb items2.toList (q.map mk)):
  Meets (Bx.«tuple.__lt__» ⟨[.ref l,.ref b],[]⟩)
   (fun _ R s=>s.heap.get? l=some { cls:=.type "tuple",dict:=dd,data:=.seq items n,slots:=sl }/\s.heap.get? b=some { cls:=.type "tuple",dict:=dd2,data:=.seq items2 n2,slots:=sl2 } /\
    R (.ok (.ret (.bool (pLt p q)))) s) :=
 .of_wp fun prog w A R s h=>by
  obtain⟨hp,g,d,tk,os⟩:=s;obtain⟨hl,hb,h⟩:=h;have f2:=AutoSeq1.sub_tuple_tuple;have z1:items.size=p.length:=by have:=q1v hi;simpa using this
  have z2:items2.size=q.length:=by have:=q1v hj;simpa using this
  wp_walk using Kj hl,Kj hb,wpAny_forIn_list _ (fun rest c s'=>c.1=none/\s'=⟨hp,g,d,tk,os⟩/\∃(vs ws:List Value) (p' q':Pth),rest=vs.zip ws /\
   Fb vs (p'.map mk)/\Fb ws (q'.map mk)/\p'.length+items2.size=q'.length+items.size/\R (.ok (.ret (.bool (pLt p' q')))) ⟨hp,g,d,tk,os⟩) _
  case turn =>
   rintro⟨y,x⟩ rest c s' ⟨hb',rfl,vs,ws,p',q',hz,hvi,hwi,hlen,hR⟩;cases p' with
   |nil=>cases hvi;rw[Qm] at hz;cases hz
   |cons m p' =>
    cases q' with
    |nil=>cases hwi;rw[Pz] at hz;cases hz
    |cons m' q' =>
     rw[Ak] at hvi hwi;cases hvi with
     |cons _ t hvi' =>
      cases hwi with
      |cons _ u hwi' =>
       rw[Ir] at hz;injection hz with hyx hrest;injection hyx with hy hx;subst hy hx;rw[q3o] at hR;simp only[Bl] at hlen;refine Aa (Qa (mk m) t (mk m') u (A:=A.in1) (s:=⟨hp,g,d,tk,os⟩) prog w _ _ ?_);by_cases e:m=m'
       ·subst e;rw[if_pos rfl] at hR;rw[beq_self_eq_true]
        wp_walk
        exact⟨rfl,rfl,_,_,_,_,hrest,hvi',hwi',by lia,hR⟩
       ·rw[if_neg e] at hR;have e2:(mk m==mk m')=false:=beq_eq_false_iff_ne.mpr fun z=>e (mk_inj z);rw[e2];have hri:∀(E:Value->Ad->Prop) (Q:Value->Ad->Prop),Q (.bool (decide (m<m'))) ⟨hp,g,d,tk,os⟩->wpAny (model prog w) A.in1 (richCompare .Lt (.str (mk m) t) (.str (mk m') u)) Q E ⟨hp,g,d,tk,os⟩:=fun E Q hq =>
         (Ph (by
          have e3:(mk m).cps.toList=m:=q3a m;have e4:(mk m').cps.toList=m':=q3a m';rw[e3,e4];exact hq):wpAny (model prog w) A.in1 (Ce .Lt (.str (mk m) t) (.str (mk m') u)) Q E ⟨hp,g,d,tk,os⟩)
        wp_walk using hri
        exact⟨_,rfl,by simpa using hR⟩
  case fin =>
   rintro⟨b1,b2⟩ s' ⟨hb',rfl,vs,ws,p',q',hz,hvi,hwi,hlen,hR⟩;simp only at hb';subst hb';have hv:pLt p' q'=decide (items.size<items2.size):=by
    cases p' with
    |nil =>
     cases q' with
     |nil=>exact(decide_eq_false (by simp only[Gj] at hlen;lia)).symm
     |cons m' q'=>exact(decide_eq_true (by simp only[Gj,Bl] at hlen;lia)).symm
    |cons m p' =>
     cases q' with
     |nil=>exact(decide_eq_false (by simp only[Gj,Bl] at hlen;lia)).symm
     |cons m' q' =>
      rw[Ak] at hvi hwi;cases hvi with
      |cons _ t _=>cases hwi with|cons _ u _=>rw[Ir] at hz;cases hz
   rw[hv] at hR
   wp_walk
   exact⟨_,rfl,by simpa[Bx.Tuple.tupleCompareSizes] using hR⟩
  case h =>
   exact⟨rfl,rfl,items.toList,items2.toList,p,q,rfl,hi,hj,by lia,h⟩
theorem z6j{Q:Value->Ad->Prop}(hx:PathAt s.heap x p)(hy:PathAt s.heap y q)(hu:A.units<cLine)(h:Q (.bool (pLt p q)) s):wpAny (model prog w) A (Ce .Lt x y) Q E s:=by
 obtain⟨l,items,rfl,hl,hi⟩:=hx;obtain⟨b,items2,rfl,hb,hj⟩:=hy;obtain⟨⟨cls,dd,data,sl⟩,ho,hc,n,hd⟩:=id hl;obtain⟨⟨cls2,dd2,data2,sl2⟩,ho2,hc2,n2,hd2⟩:=id hb;simp only at hc hd hc2 hd2;subst hc hd hc2 hd2;exact richCompare_meets_room (op:=.Lt) ⟨_,ho,rfl⟩ ⟨_,ho2,rfl⟩ PySem.F.slot_tuple_lt PySem.F.entry_tuple_lt (PySem.F.args_tuple_lt_2 _ _) (q8i l b items items2 n n2 dd dd2 sl sl2 p q hi hj)
  ⟨ho,ho2,show Value.bool (pLt p q)≠Value.notImplemented/\Q (.bool (pLt p q)) s from⟨(fun x=>nomatch x),h⟩⟩ hu
theorem z9a{b:Bool}{m m':List Nat}{t u:Tok}{Q:Bool->Ad->Prop}(h:Q (decide (m<m')) s):wpAny (model prog w) A (oneLt' b (.str (mk m) t) (.str (mk m') u)) Q E s:=by
 have e3:(mk m).cps.toList=m:=q3a m;have e4:(mk m').cps.toList=m':=q3a m';cases b with
 |true=>exact oneLt_str (by rw[e3,e4];exact h)
 |false =>
  rw[oneLt'_eq];simp only[Bg,if_false];exact Aa ((Ph (by rw[e3,e4];exact Ek h):wpAny (model prog w) A (Ce .Lt (.str (mk m) t) (.str (mk m') u)) _ E s))
theorem z6k{Q:Bool->Ad->Prop}(hx:PathAt s.heap x p)(hy:PathAt s.heap y q)(hu:A.units<cLine)(h:Q (pLt p q) s):wpAny (model prog w) A (oneLt' false x y) Q E s:=by
 rw[oneLt'_eq];simp only[Bg,if_false];exact Aa (z6j hx hy hu (Ek h):wpAny (model prog w) A (Ce .Lt x y) _ E s)
theorem z3t{b:Bool}{Q:Bool->Ad->Prop}(hx:PathAt s.heap x p)(hy:PathAt s.heap y q)(h:Q (pLt p q) s):wpAny (model prog w) A (keyLt' (Qg b) x y) Q E s:=by
 obtain⟨l,items,rfl,⟨o,ho,hc,n,hd⟩,hi⟩:=hx;obtain⟨m,items2,rfl,⟨o2,ho2,hc2,n2,hd2⟩,hj⟩:=hy;refine Aa (m:=Et (.ref l)) (Iu ho hd (Aa (m:=Et (.ref m)) (Iu ho2 hd2 ?_)));have z1:items.size=p.length:=by have:=q1v hi;simpa using this
 have z2:items2.size=q.length:=by have:=q1v hj;simpa using this
 refine Aa (wpAny_forIn_list _ (fun rest c s'=>c=(none,())/\s'=s/\∃(vs ws:List Value) (p' q':Pth) (k:Nat),rest=(vs.zip ws).zipIdx k/\Fb vs (p'.map mk)/\Fb ws (q'.map mk) /\
   p'.length+items2.size=q'.length+items.size/\Q (pLt p' q') s) (fun c s'=>match c.1 with|some r=>Q r s'|none=>c.1=none/\Q (decide (items.size<items2.size)) s') ?turn ?fin _ _ ?h0|>fun z=>Bw z ?post fun _ _ e=>e)
 case post =>
  rintro⟨c,⟨⟩⟩ s' hc;cases c with
  |none=>exact Ab hc.2
  |some r=>exact Ab hc
 case h0=>exact⟨rfl,rfl,items.toList,items2.toList,p,q,0,rfl,hi,hj,by lia,h⟩
 case fin =>
  rintro c s' ⟨rfl,rfl,vs,ws,p',q',k,hz,hv,hw,hl,hQ⟩;have e:pLt p' q'=decide (items.size<items2.size):=by
   cases p' with
   |nil =>
    cases q' with
    |nil=>exact(decide_eq_false (by simp only[Gj] at hl;lia)).symm
    |cons m' q'=>exact(decide_eq_true (by simp only[Gj,Bl] at hl;lia)).symm
   |cons m p' =>
    cases q' with
    |nil=>exact(decide_eq_false (by simp only[Gj,Bl] at hl;lia)).symm
    |cons m' q' =>
     rw[Ak] at hv hw;cases hv with
     |cons _ t _=>cases hw with|cons _ u _=>rw[Ir,Ri] at hz;cases hz
  rw[e] at hQ;exact⟨rfl,hQ⟩
 case turn =>
  rintro⟨⟨y,x⟩,i⟩ rest c s' ⟨rfl,rfl,vs,ws,p',q',k,hz,hv,hw,hl,hQ⟩;cases p' with
  |nil=>cases hv;rw[Qm] at hz;cases hz
  |cons m p' =>
   cases q' with
   |nil=>cases hw;rw[Pz] at hz;cases hz
   |cons m' q' =>
    rw[Ak] at hv hw;cases hv with
    |cons _ t hv' =>
     cases hw with
     |cons _ u hw' =>
      rw[Ir,Ri] at hz;injection hz with h1 h2;injection h1 with h1 h3;injection h1 with h4 h5;subst h4 h5 h3;rw[q3o] at hQ;simp only[Bl] at hl;refine Aa (Qa (mk m) t (mk m') u (A:=A) (s:=s') prog w _ _ ?_);by_cases e:m=m'
      ·subst e;rw[if_pos rfl] at hQ;rw[beq_self_eq_true];simp only[Pd,Bg,if_false];exact Ab ⟨rfl,rfl,_,_,_,_,_,h2,hv',hw',by lia,hQ⟩
      ·rw[if_neg e] at hQ;have e2:(mk m==mk m')=false:=beq_eq_false_iff_ne.mpr fun z=>e (mk_inj z);rw[e2];simp only[Nu,if_true];exact Aa (z9a (b:=b&&i==0) (Ab hQ))
def PairAt(h:Heap)(v:Value)(p:Pth)(m:Value):Prop:=∃a k,v=.ref a/\IsTup h a #[k,m]/\PathAt h k p
theorem PairAt.keep{h h':Heap}{v m:Value}{p:Pth}(x:PairAt h v p m)(k:∀b o,h.get? b=some o->h'.get? b=some o):PairAt h' v p m:=let ⟨a,z,e,t,s⟩:=x;⟨a,z,e,IsTup.keep t fun o=>k a o,s.keep k⟩
theorem z3u{m m':Value}{Q:Bool->Ad->Prop}(hx:PairAt s.heap x p m)(hy:PairAt s.heap y q m')(hxy:p=q->x=y)(lp:Low p)(lq:Low q)(hu:A.units+2<cLine)(h:Q (pLt p q) s):wpAny (model prog w) A (keyLt' (Qg false) x y) Q E s:=by
 obtain⟨l,k,rfl,hl,hk⟩:=hx;obtain⟨l2,k2,rfl,hl2,hk2⟩:=hy;obtain⟨o,ho,hc,n,hd⟩:=id hl;obtain⟨o2,ho2,hc2,n2,hd2⟩:=id hl2;refine Aa (m:=Et (.ref l)) (Iu ho hd (Aa (m:=Et (.ref l2)) (Iu ho2 hd2 ?_)));show wpAny (model prog w) A (forIn [((k,k2),0),((m,m'),1)] ((none,()):Option Bool×Unit) _ >>= _) Q E s;rw[Mq];refine Aa (Aa (Aa (z6i hk hk2 lp lq hu prog w _ _ ?_)));by_cases e:p=q
 ·have e1:=hxy e;cases e1;have e2:=IsTup.inj hl hl2;have e3:k=k2/\m=m':=by
   have:=congrArg Array.toList e2;simpa using this
  obtain⟨rfl,rfl⟩:=e3;subst e;rw[decide_eq_true rfl];simp only[Pd,Bg,if_false];refine Ab ?_;dsimp only;rw[Mq];refine Aa (Aa (Od.same m (A:=A) (s:=s) prog w _ _ ?_));simp only[Pd,Bg,if_false];refine Ab ?_;dsimp only;rw[List.forIn_nil];refine Ab (Ab ?_);rw[q3x] at h;simpa using h
 ·rw[decide_eq_false e];simp only[Nu,if_true,Kq];refine Aa (z6k hk hk2 (by lia) (Ab ?_));exact Ab (Ab h)
theorem q9o{α β:Type}{f:α->Sem β}{g:α->β}:∀(l:List α) {Q:List β->Ad->Prop},(∀a∈l,∀(Q':β->Ad->Prop),Q' (g a) s->wpAny (model prog w) A (f a) Q' E s)->Q (l.map g) s->wpAny (model prog w) A (l.mapM f) Q E s
 |[],Q,_,h=>by rw[List.mapM_nil];exact Ab h
 |a::l,Q,hf,h=>by
  rw[List.mapM_cons];refine Aa (hf a Ap _ (Aa (q9o l (fun b hb=>hf b (Ah _ hb)) (Ab h))))
theorem z6l{a:Addr}{its:Array Value}{Q:Option Value->Ad->Prop}(t:IsTup s.heap a its)(h:Q its[0]? s):wpAny (model prog w) A (firstOfTuple' (.ref a)) Q E s:=by
 obtain⟨o,ho,hc,n,hd⟩:=t;refine Aa (m:=typeOf (.ref a)) (Eu (T := "tuple") ⟨o,ho,hc⟩ ?_);have e:(Value.type "tuple" != Value.type "tuple")=false:=by decide
 rw[e];simp only[Bg,if_false];exact Aa (m:=Et (.ref a)) (Iu ho hd (Ab h))
theorem z3v{T:String}{vs:List Value}{fs:Value->Value}{Q:Ju->Ad->Prop}(hne:vs≠[])(hf:∀v∈vs,∃a its,v=.ref a/\IsTup s.heap a its/\its[0]?=some (fs v))(hT:∀v∈vs,s.TypeIs (fs v) T)(h:Q (Qg (Value.type T != Value.type "tuple")) s):wpAny (model prog w) A (keyKind' vs.toArray) Q E s:=by
 rw[keyKind'_eq,Qn];refine Aa (Aa (q9o (g:=fun v=>some (fs v)) vs (fun v hv Q' h'=>?_) (Ab ?_)))
 ·obtain⟨a,its,rfl,t,e⟩:=hf v hv;exact z6l t (by rw[e];exact h')
 ·have hall:((vs.map fun v=>some (fs v)).toArray.all fun x=>x.isSome)=true:=by simp
  rw[if_pos (by simpa using hall)];refine Aa (Hq ?_);rw[oneTypeOnly'_eq];have e:Array.filterMap id (vs.map fun v=>some (fs v)).toArray=(vs.map fs).toArray:=by
   simp[Pr]
  rw[e,Qn];refine Aa (Aa (Aa (q9o (g:=fun _=>Value.type T) (vs.map fs) (fun x hx Q' h'=>?_) (Ab ?_))))
  ·obtain⟨v,hv,rfl⟩:=Ag.mp hx;exact Eu (hT v hv) h'
  ·cases vs with
   |nil=>exact absurd rfl hne
   |cons v vs =>
    have e0:(((v::vs).map fs).map fun _=>Value.type T).toArray[0]?=some (Value.type T):=by simp
    have ea:((((v::vs).map fs).map fun _=>Value.type T).toArray.all fun x=>x==Value.type T)=true:=by simp
    rw[e0];dsimp only;rw[ea];simp only[if_true];exact Ab (Ab (by simpa using h))
end
open PySem PyProof.Rows TX
section
variable{prog:Program}{w:World}{A:Around}{E:Value->Ad->Prop}{s:Ad}{kd:Ju}{S:Value->Prop}{r:Value->Int}{vs:List Value}
def KeptBut(a:Addr)(h h':Heap):Prop:=∀b o,b≠a->h.get? b=some o->h'.get? b=some o
structure Sorted (r:Value->Int) (vs:List Value) (out:Array Value):Prop where
 perm:out.toList.Perm vs
 rise:out.toList.Pairwise fun x y=>r x<=r y
theorem z6m{xs:Array Keyed}(hp:xs.Perm (pairsOf vs)):(∀p∈xs.toList,p.1=p.2)/\(xs.map (·.2)).toList.Perm vs:=by
 have hl:xs.toList.Perm (vs.zip vs):=by rw[<- pairsOf_toList];exact Lg.mp hp
 refine⟨fun p hp'=>(mem_zip_self (hl.mem_iff.mp hp')).1,?_⟩;rw[Rj];have:=hl.map (·.2)
 rwa [List.map_snd_zip (Ai _)] at this
theorem q8j{st:Gi}(hp:(arrOf st).Perm (pairsOf vs))(u:Up r (arrOf st) (pairsOf vs).size):Sorted r vs ((arrOf st).map (·.2)):=by
 obtain⟨h1,h2⟩:=z6m hp;refine⟨h2,?_⟩;rw[List.pairwise_iff_getElem];intro i j hi hj hij;have hi':i<(arrOf st).size:=by simp_all
 have hj':j<(arrOf st).size:=by simp_all
 have e:=u i j (Ft hij) (by rw[<- hp.size_eq];exact hj');have k:∀{n:Nat} (hn:n<(arrOf st).size),rk r (arrOf st) n=r (arrOf st)[n].2:=fun{n} hn=>by
  unfold rk;rw[getElem?_pos (arrOf st) n hn];show r (arrOf st)[n].1=_;rw[h1 (arrOf st)[n] (by simp)]
 rw[k hi',k hj'] at e;simpa using e
theorem z3w(ho:s.heap.get? a=some (Hv "list" vs.toArray n))(h64:vs.length<64)(hS:∀v∈vs,S v)(hk:2<=vs.length->∀s' (E:Value->Ad->Prop) (Q:Ju->Ad->Prop),KeptBut a s.heap s'.heap->Q kd s'->wpAny (model prog w) A (keyKind' vs.toArray) Q E s')(T:∀s',KeptBut a s.heap s'.heap->Tells prog w A s' kd S r)(h:∀out,Sorted r vs out->P (.done (.ret .none)) { s with heap:=sortedHeap s.heap a vs out }):
  wpAny (model prog w) A (Bx.«list.sort» ⟨[.ref a],[]⟩) P E s:=by
 have hz2:=pairsOf_size vs;have hz3:vs.length<=sizeLine:=by rw[Cp];lia
 rw[list_sort_plain];refine Aa (Iu ho rfl (Aa (Pe ho rfl ?_)));have o1:=get?_update_seq ho (fun _=>#[]);refine Aa (Qw o1 rfl (Aa (Nn (Aa (wpAny_newList (Br ?_))))));generalize hg:(((s.heap.update a (Di fun _=>#[])).push (Hv "tuple" vs.toArray 0)).push (Hv "list" #[] 0))=g;have kg:KeptBut a s.heap g:=fun b o hb e=>by
  rw[<- hg];exact Ae _ (Ae _ ((Dw _ _ (Dp hb)).trans e))
 have og:=Ae (Hv "list" #[] 0) (Ae (Hv "tuple" vs.toArray 0) o1);rw[hg] at og;have fin:∀out,Sorted r vs out->P (.done (.ret .none)) { s with heap:=g.update a (Di fun _=>out) }:=fun out so=>by
  have:=h out so;unfold sortedHeap at this
  rwa [hg] at this
 by_cases h2:vs.length<2
 ·have h2':vs.toArray.size<2:=by simpa using h2
  simp only[if_pos h2'];refine Aa (Ab ?_);refine Aa (Ab (Aa (Qw og rfl (Aa (Pe og rfl ?_ (hsz2:=by show((pairsOf vs).map _).size<=_;rw[Array.size_map];lia))))));simp only[bne_self_eq_false,Bg,if_false];exact Ab (fin _ (q8j (Sa _) fun i j a' b'=>by rw[show i=j by lia];exact Nf _))
 ·have h2':¬vs.toArray.size<2:=by simpa using h2
  simp only[if_neg h2'];refine Aa (hk (by lia) _ _ _ kg ?_);refine Aa (Bw (z8y (a₀:=pairsOf vs) (Q:=fun _ t=>(arrOf t).Perm (pairsOf vs)/\Rg t=none/\Up r (arrOf t) (pairsOf vs).size) (T _ kg) (fun p hp=>hS _ ?_)
   ⟨Sa _,rfl,rfl,rfl⟩ (by lia) (by lia) fun t a1 a2 a3=>⟨a1,a2,a3⟩) ?_ fun _ _ e=>e)
  ·rw[pairsOf_toList] at hp;exact(mem_zip_self hp).2
  ·rintro⟨⟨⟩,t⟩ s' ⟨rfl,pm,fl,up⟩;refine Aa (Qw og rfl (Aa (Pe og rfl ?_ (hsz2:=by show((arrOf t).map _).size<=_;rw[Array.size_map,pm.size_eq];lia))));rw[fl];simp only[bne_self_eq_false,Bg,if_false];exact Ab (fin _ (q8j pm up))
end
section
variable{prog:Program}{w:World}{A:Around}{E:Value->Ad->Prop}{s:Ad}
structure Ready (prog:Program) (w:World) (A:Around) (vs:List Value) (h:Heap) (kd:Ju) (S:Value->Prop) (r:Value->Int):Prop where
 few:vs.length<64
 all:∀v∈vs,S v
 kind:2<=vs.length->∀A' s' (E:Value->Ad->Prop) (Q:Ju->Ad->Prop),A'.units<=A.units+9->(∀b o,h.get? b=some o->s'.heap.get? b=some o)->Q kd s'->wpAny (model prog w) A' (keyKind' vs.toArray) Q E s'
 tells:∀A' s',A'.units<=A.units+9->(∀b o,h.get? b=some o->s'.heap.get? b=some o)->Tells prog w A' s' kd S r
theorem sorted_ok
  (hc:∀{Q':List Value->Ad->Prop},(∀vs h tk kd S r,Ready prog w A vs h kd S r ->
    (∀h' out,Sorted r vs out->(∀b o,h.get? b=some o->h'.get? b=some o)->(∃e,h'.get? h.objs.size=some (Hv "list" out e))->Q (.ref h.objs.size) { s with heap:=h',toks:=tk })->Q' vs { s with heap:=h,toks:=tk }) ->
   wpAny (model prog w) A.in1 (collect x) Q' E s):wpAny (model prog w) A (call (.builtin "sorted") [x]) Q E s:=by
 refine Calls.call_function_entry kind_sorted plain_sorted entry_sorted (args_sorted1 _) ?_;refine Aa (Ab (Aa (hc fun vs h tk kd S r rd hQ=>?_)));have hz3:vs.length<=sizeLine:=by have:=rd.few;rw[Cp];lia
 refine Aa (wpAny_newList ?_);have ho:(h.push (Hv "list" vs.toArray 0)).get? h.objs.size=some (Hv "list" vs.toArray 0):=Al _ rfl;have kb:∀{g:Heap},KeptBut h.objs.size (h.push (Hv "list" vs.toArray 0)) g->∀b o,h.get? b=some o->g.get? b=some o:=fun kg b o e=>kg b o (Au (Aj e)) (Ae _ e);refine Aa (Br (Bj slot_list_sort ⟨_,ho,rfl⟩ entry_list_sort (z3w ho rd.few rd.all (fun h2 s' E Q kg q=>rd.kind h2 _ s' E Q (by show A.units+1+1<=_;lia) (kb kg) q) (fun s' kg=>rd.tells _ s' (by show A.units+1+1<=_;lia) (kb kg)) fun out so=>⟨_,rfl,?_⟩) (args_list_sort _)));refine Ab ⟨_,rfl,hQ _ out so (fun b o e=>?_) (sortedHeap_at ho)⟩;have:=sortedHeap_old (vs:=vs) (out:=out) (h:=h.push (Hv "list" vs.toArray 0)) (Au (Aj e)) (by rw[size_push'];exact Dn (Aj e));rw[this];exact Ae _ e
theorem perm_map_inv {α β : Type} {g : α → β} : ∀ {l m : List β}, l.Perm m → ∀ {zs : List α}, m = zs.map g → ∃ zs' : List α, zs'.Perm zs ∧ l = zs'.map g := by
  intro l m h;induction h with
  | nil => simp_all
  | cons x h ih => intro zs e; cases zs with
    | nil => cases e
    | cons z zs =>
      injection e with e1 e2;obtain ⟨zs', h1, h2⟩ := ih e2;exact ⟨z :: zs', h1.cons z, by rw [Ak, ← h2, e1]⟩
  | swap x y l => intro zs e; cases zs with
    | nil => cases e
    | cons z zs => cases zs with
      | nil => cases e
      | cons z2 zs =>
        injection e with e1 e2;injection e2 with e2 e3;exact ⟨z2 :: z :: zs, List.Perm.swap _ _ _, by rw [Ak, Ak, ← e1, ← e2, ← e3]⟩
  | trans h1 h2 ih1 ih2 => intro zs e
                           obtain ⟨zs', p1, e1⟩ := ih2 e;obtain ⟨zs2, p2, e2⟩ := ih1 e1;exact ⟨zs2, p2.trans p1, e2⟩
open Classical in
noncomputable def keyBy (K:Value->Pth->Prop) (v:Value):Pth:=if h:∃p,K v p then choose h else[]
theorem q2w{K:Value->Pth->Prop}(hK:∀v p q,K v p->K v q->p=q){v:Value}{p:Pth}(h:K v p):keyBy K v=p:=by
 unfold keyBy;have hx:∃p,K v p:=⟨p,h⟩
 rw[dif_pos hx];exact hK v _ _ (Classical.choose_spec hx) h
theorem rise_paths{K:Value->Pth->Prop}(hK:∀v p q,K v p->K v q->p=q){α:Type}{g:α->Value}{f:α->Pth}:∀{zs:List α},(∀z∈zs,K (g z) (f z)/\f z∈ps)->(zs.map g).Pairwise (fun x y=>(pRank ps (keyBy K x):Int)<=(pRank ps (keyBy K y):Int))->(zs.map f).Pairwise fun a b=>pLt b a=false
 |[],_,_=>.nil
 |z::zs,hz,h=>by
  rw[Ak] at h ⊢;obtain⟨h1,h2⟩:=Ex.mp h;refine Ex.mpr ⟨fun b hb=>?_,rise_paths hK (fun y hy=>hz y (Ah _ hy)) h2⟩;obtain⟨y,hy,rfl⟩:=Ag.mp hb;obtain⟨k1,m1⟩:=hz z Ap;obtain⟨k2,m2⟩:=hz y (Ah _ hy);have:=h1 (g y) (Ag.mpr ⟨y,hy,rfl⟩);rw[q2w hK k1,q2w hK k2] at this;rw[q9n m2 m1];exact decide_eq_false (by lia)
theorem ready_paths(few:vs.length<64)(hp:∀v∈vs,∃p∈ps,p≠[]/\PathAt h v p):
  Ready prog w A vs h (Qg true) (fun v=>∃p∈ps,PathAt h v p) (fun v=>(pRank ps (keyBy (PathAt h) v):Int)) where
 few:=few
 all:=fun v hv=>let ⟨p,a,_,b⟩:=hp v hv;⟨p,a,b⟩
 kind:=fun h2 A' s' E Q _ k q=>by
  have hne:vs≠[]:=fun z=>by rw[z] at h2;simp at h2
  have ex:∀v∈vs,∃a its n p t,v=.ref a/\IsTup s'.heap a its/\its[0]?=some (.str (mk n) t):=fun v hv=>by
   obtain⟨p,_,hne,x⟩:=hp v hv;obtain⟨a,its,rfl,tt,st⟩:=x.keep k;cases p with
   |nil=>exact absurd rfl hne
   |cons n p =>
    obtain⟨l⟩:=its;cases st with
    |cons _ t st'=>exact⟨a,_,n,p,t,rfl,tt,rfl⟩
  refine z3v (fs:=fun v=>(match v with|.ref a=>(match s'.heap.get? a with|some o=>(match o.data with|.seq its _=>its.getD 0 .none|_=>.none)|none=>.none)|_=>.none)) hne (fun v hv=>?_) (fun v hv=>?_) (by rw[show(Value.type "str" != Value.type "tuple")=true from by decide];exact q)
  ·obtain⟨a,its,n,p,t,rfl,tt,e⟩:=ex v hv;refine⟨a,its,rfl,tt,?_⟩;obtain⟨o,e1,e2,m,e3⟩:=tt;simp only[e1,e3];rw[e,Hh,e];rfl
  ·obtain⟨a,its,n,p,t,rfl,tt,e⟩:=ex v hv;obtain⟨o,e1,e2,m,e3⟩:=tt;simp only[e1,e3];rw[Hh,e];exact Oi _ _ _
 tells:=fun A' s' _ k E x y Q ⟨p,hp1,x1⟩ ⟨q,hq1,y1⟩ h'=>by
  refine z3t (x1.keep k) (y1.keep k) ?_;have hK:∀v p q,PathAt h v p->PathAt h v q->p=q:=fun _ _ _ a b=>a.inj b;have e1:=q2w hK x1;have e2:=q2w hK y1;rw[q9n hp1 hq1,<- e1,<- e2];exact h'
theorem PairAt.inj(h1:PairAt h v p m)(h2:PairAt h v q m'):p=q:=by
 obtain⟨a,k,rfl,t,s⟩:=h1;obtain⟨a',k',e,t',s'⟩:=h2;cases e;have e:=congrArg Array.toList (IsTup.inj t t');have e2:k=k':=by grind
 subst e2;exact s.inj s'
theorem ready_pairs(few:vs.length<64)(hp:∀v∈vs,∃p∈ps,∃m,Low p/\PairAt h v p m)(hi:∀u∈vs,∀v∈vs,∀p m m',PairAt h u p m->PairAt h v p m'->u=v)(hu:A.units+12<cLine):
  Ready prog w A vs h (Qg false) (fun v=>v∈vs) (fun v=>(pRank ps (keyBy (fun v p=>∃m,PairAt h v p m) v):Int)) where
 few:=few
 all:=fun v hv=>hv
 kind:=fun h2 A' s' E Q _ k q=>by
  have hne:vs≠[]:=fun z=>by rw[z] at h2;simp at h2
  have ex:∀v∈vs,∃a b its m,v=.ref a/\IsTup s'.heap a #[.ref b,m]/\IsTup s'.heap b its:=fun v hv=>by
   obtain⟨p,_,m,_,x⟩:=hp v hv;obtain⟨a,z,rfl,tt,b,its,rfl,t2,_⟩:=x.keep k;exact⟨a,b,its,m,rfl,tt,t2⟩
  refine z3v (fs:=fun v=>(match v with|.ref a=>(match s'.heap.get? a with|some o=>(match o.data with|.seq its _=>its.getD 0 .none|_=>.none)|none=>.none)|_=>.none)) hne (fun v hv=>?_) (fun v hv=>?_) (by rw[show(Value.type "tuple" != Value.type "tuple")=false from by decide];exact q)
  ·obtain⟨a,b,its,m,rfl,tt,_⟩:=ex v hv;refine⟨a,_,rfl,tt,?_⟩;obtain⟨o,e1,e2,n,e3⟩:=tt;simp only[e1,e3];rfl
  ·obtain⟨a,b,its,m,rfl,tt,t2⟩:=ex v hv;obtain⟨o,e1,e2,n,e3⟩:=tt;simp only[e1,e3];obtain⟨o2,f1,f2,_⟩:=t2;exact⟨o2,f1,f2⟩
 tells:=fun A' s' hA k E x y Q hx hy h'=>by
  obtain⟨p,hp1,m,lp,x1⟩:=hp x hx;obtain⟨q,hq1,m',lq,y1⟩:=hp y hy;refine z3u (x1.keep k) (y1.keep k) (fun e=>by subst e;exact hi x hx y hy _ _ _ x1 y1) lp lq (by lia) ?_;have hK:∀v p q,(∃m,PairAt h v p m)->(∃m,PairAt h v q m)->p=q:=fun v p q ⟨_,a⟩ ⟨_,b⟩=>PairAt.inj a b
  have e1:=q2w hK ⟨m,x1⟩;have e2:=q2w hK ⟨m',y1⟩;rw[q9n hp1 hq1,<- e1,<- e2];exact h'
end
end SB
namespace PySem.Rv
open Sem (wp)
structure Runs (prog:Program) (w:World) (A:Around) (S I:Addr) (n:Nat) (Fc:List Value->Heap->Prop) (It:Nat->Heap->Prop):Prop where
 keepF:∀acc h h',Fc acc h->(∀b o,b≠S->b≠I->h.get? b=some o->h'.get? b=some o)->Fc acc h'
 keepI:∀i h h',It i h->(∀b o,b≠S->h.get? b=some o->h'.get? b=some o)->It i h'
 item:∀acc (s:Ad) (Q:Option Value->Ad->Prop) (E:Value->Ad->Prop),acc.length<n->Fc acc s.heap->It acc.length s.heap ->
  (∀v h',Fc (acc++[v]) h'->It (acc.length+1) h'->(∀b o,b≠I->s.heap.get? b=some o->h'.get? b=some o)->Q (some v) { s with heap:=h' })->wpAny (model prog w) A.in1 (Gw (.ref I)) Q E s
 done:∀(s:Ad) (Q:Option Value->Ad->Prop) (E:Value->Ad->Prop),It n s.heap->(∀h',(∀b o,b≠I->s.heap.get? b=some o->h'.get? b=some o)->Q none { s with heap:=h' })->wpAny (model prog w) A.in1 (Gw (.ref I)) Q E s
section
variable{prog:Program}{w:World}{A:Around}{E:Value->Ad->Prop}{S I:Addr}{n:Nat}{Fc:List Value->Heap->Prop}{It:Nat->Heap->Prop}
theorem grow(W:Runs prog w A S I n Fc It)(hSI:S≠I)(hn:n<=sizeLine)(res:Value):∀(k:Nat) (acc:List Value) (s:Ad) (c:Nat),n-acc.length=k->acc.length<=n->Fc acc s.heap->It acc.length s.heap ->
  s.heap.get? S=some { cls:=.type "list",data:=.seq acc.toArray c } ->
  (∀acc' h' c',acc'.length=n->Fc acc' h'->(∀b o,b≠S->b≠I->s.heap.get? b=some o->h'.get? b=some o)->h'.get? S=some { cls:=.type "list",data:=.seq acc'.toArray c' }->R (.ok (.ret res)) { s with heap:=h' }) ->
  Er (model prog w) A (.builtin "list.extend.loop" ⟨[.ref S,.ref I,res],[]⟩) R s:=by
 intro k;induction k with
 |zero =>
  intro acc s c hk hl f i hS hR;refine Cw Pj ?_;rw[Cg Fz _];have e:acc.length=n:=by lia
  refine Aa (W.done s _ _ (by rw[<- e];exact i) fun h' kp=>Ab ?_);exact hR acc h' c e (W.keepF _ _ _ f fun b o _ hb q=>kp b o hb q) (fun b o _ hb q=>kp b o hb q) (kp S _ hSI hS)
 |succ k ih =>
  intro acc s c hk hl f i hS hR;refine Cw Pj ?_;rw[Cg Fz _];refine Aa (W.item acc s _ _ (by lia) f i fun v h' f' i' kp=>?_);have hS':=kp S _ hSI hS;have oth:∀b o,b≠S->h'.get? b=some o->(h'.update S (Di (·.push v))).get? b=some o:=fun b o hb q=>(Dw _ _ (Dp hb)).trans q;have hS2:(h'.update S (Di (·.push v))).get? S=some { cls:=.type "list",data:=.seq (acc++[v]).toArray (c+1) }:=by
   have:=Hd hS' (fun x=>x.push v);rw[this];simp
  refine Aa (Ms hS' rfl (Ab ⟨Fi Fz _,ih (acc++[v]) _ (c+1) (by rw[An,Dc];lia) (by rw[An,Dc];lia)
   (W.keepF _ _ _ f' fun b o hb _ q=>oth b o hb q) (by rw[An,Dc];exact W.keepI _ _ _ i' oth) hS2 fun acc' h2 c' e2 f2 k2 s2=>hR acc' h2 c' e2 f2 (fun b o hb hb' q=>k2 b o hb hb' (oth b o hb (kp b o hb' q))) s2⟩) (by rw[As];lia) (by simp;lia))
theorem collect_runs(hT:∀h,(∀b o,s.heap.get? b=some o->h.get? b=some o)->(⟨h,s.gens,s.drawn,s.toks,s.os⟩:Ad).TypeIs (.ref v) T)(hv:v<s.heap.objs.size)(h1:(Value.type T==Value.type "list")=false)(h2:(Value.type T==Value.type "tuple")=false)(hint:∀(A:Around) (E:Value->Ad->Prop) (s':Ad) (Q:Bool->Ad->Prop),s'.TypeIs (.ref v) T->Q false s'->wpAny (model prog w) A (Hi (.ref v)) Q E s')(iter:∀(A:Around) (E:Value->Ad->Prop) (h:Heap) (Q:Value->Ad->Prop),(∀b o,s.heap.get? b=some o->h.get? b=some o)->Q (.ref h.objs.size) { s with heap:=h.push oI }->wpAny (model prog w) A (Ka (.ref v)) Q E { s with heap:=h })(hoI:∀h:Heap,(h.push oI).get? h.objs.size=some oI)(W:Runs prog w A s.heap.objs.size (s.heap.objs.size+1) n Fc It)(hn:n<=sizeLine)(h0:∀h,(∀b o,s.heap.get? b=some o->h.get? b=some o)->h.get? (s.heap.objs.size+1)=some oI->Fc [] h/\It 0 h)(hQ:∀acc h,acc.length=n->Fc acc h->s.heap.objs.size<=h.objs.size->(∀b o,s.heap.get? b=some o->h.get? b=some o)->Q acc { s with heap:=h }):wpAny (model prog w) A (collect (.ref v)) Q E s:=by
 refine Aa (wpAny_runValue (Cw F.entry_proto_collect ?_));rw[Cg F.plain_proto_collect _];refine Aa (Bi (Ab ⟨Fi Qp _,Cw F.entry_list_iadd ?_⟩));rw[Cg Qp _];show wpAny _ A.in1 (Bx.List.listExtendWith (.ref s.heap.objs.size) (.ref v) (.ref s.heap.objs.size)) _ _ { s with heap:=s.heap.push { cls:=.type "list",data:=.seq ([]:List Value).toArray } };generalize hg:s.heap.push { cls:=.type "list",data:=.seq ([]:List Value).toArray }=g;have kg:∀b o,s.heap.get? b=some o->g.get? b=some o:=fun b o q=>by rw[<- hg];exact Ae _ q
 have gz:g.objs.size=s.heap.objs.size+1:=by rw[<- hg];exact Es _ _
 have gS:g.get? s.heap.objs.size=some { cls:=.type "list",data:=.seq ([]:List Value).toArray }:=by rw[<- hg];exact Al _ rfl
 refine Aa (Eu (hT g kg) ?_);have hs:Me (.ref s.heap.objs.size) (.ref v)=false:=by simp[Me,Dv hv]
 simp only[hs,h1,h2,Bool.or_false,Bg,if_false];refine Aa (iter _ _ g _ kg ?_);rw[gz];have kI:∀b o,g.get? b=some o->(g.push oI).get? b=some o:=fun b o q=>Ae _ q;have hS₁:=kI _ _ gS;have put:∀(h:Heap) (c:Nat),(∀b o,b≠s.heap.objs.size->(g.push oI).get? b=some o->h.get? b=some o)->h.get? s.heap.objs.size=some { cls:=.type "list",data:=.seq ([]:List Value).toArray c }->h.get? (s.heap.objs.size+1)=some oI ->
   Er (model prog w) A (.builtin "list.extend.loop" ⟨[.ref s.heap.objs.size,.ref (s.heap.objs.size+1),.ref s.heap.objs.size],[]⟩) (fun r s'=>∃acc c',r=.ok (.ret (.ref s.heap.objs.size))/\s'.heap.get? s.heap.objs.size=some { cls:=.type "list",data:=.seq acc c' }/\Q acc.toList s') { s with heap:=h }:=by
  intro h c kh hh hi;obtain⟨f,i⟩:=h0 h (fun b o q=>kh b o (Au (Aj q)) (kI b o (kg b o q))) hi;refine grow W (Au (Ea _)) hn _ n [] _ c (by simp) (Bv _) f i hh fun acc h' c' e f' k' s'=>⟨acc.toArray,c',rfl,s',?_⟩
  have:=hQ acc h' e f' (Ft (Aj s')) fun b o q=>k' b o (Au (Aj q)) (Au (Dn (Aj q))) (kh b o (Au (Aj q)) (kI b o (kg b o q)));simpa using this
 have gI:(g.push oI).get? (s.heap.objs.size+1)=some oI:=by grind
 refine Aa (Br (hint _ _ _ _ (hT (g.push oI) fun b o q=>kI b o (kg b o q)) ?_));have last:∀(h:Heap) (c:Nat),(∀b o,b≠s.heap.objs.size->(g.push oI).get? b=some o->h.get? b=some o)->h.get? s.heap.objs.size=some { cls:=.type "list",data:=.seq ([]:List Value).toArray c }->h.get? (s.heap.objs.size+1)=some oI->∀{R:Result->Ad->Prop},
   (∀s' acc c',s'.heap.get? s.heap.objs.size=some { cls:=.type "list",data:=.seq acc c' }->Q acc.toList s'->R (.ok (.ret (.ref s.heap.objs.size))) s')->Er (model prog w) A (.builtin "list.extend.loop" ⟨[.ref s.heap.objs.size,.ref (s.heap.objs.size+1),.ref s.heap.objs.size],[]⟩) R { s with heap:=h }:=by
  intro h c kh hh hi R hR;refine Gx (put h c kh hh hi) fun r s' z=>?_;obtain⟨acc,c',rfl,e,q⟩:=z;exact hR s' acc c' e q
 refine Ki (fun _=>?_) (fun _=>?_)
 ·refine Aa (Hq (Aa ?_));show wpAny _ _ (updateSeq s.heap.objs.size (·.push .none) >>= fun _=>updateSeq s.heap.objs.size (·.pop)) _ _ _;refine Aa (Ms hS₁ rfl ?_);have hS₂:=Hd hS₁ (fun x=>x.push Value.none);refine Ms hS₂ rfl ?_;have hS₃:=Hd hS₂ (fun x=>x.pop);have oth:∀b o,b≠s.heap.objs.size->(g.push oI).get? b=some o->(((g.push oI).update s.heap.objs.size (Di fun x=>x.push Value.none)).update s.heap.objs.size (Di fun x=>x.pop)).get? b=some o :=
   fun b o hb q=>(Dw _ _ (Dp hb)).trans ((Dw _ _ (Dp hb)).trans q)
  refine Ab ⟨Fi Fz _,last _ _ oth hS₃ (oth _ _ (Dv (Ea _)) gI) fun s' acc c' e q=>?_⟩;exact Aa (Of e (Ab q))
 ·refine Ab ⟨Fi Fz _,last _ _ (fun b o _ q=>q) hS₁ gI fun s' acc c' e q=>?_⟩;exact Aa (Of e (Ab q))
end
end PySem.Rv
namespace L2
open PySem PySem.Spec PyProof.Rows SB TX
def kP(p:Pth):List Key:=p.map fun n=>Sum.inr (mk n)
abbrev vP(p:Pth):List V:=p.map fun n=>V.str (mk n)
theorem q2b(p:Pth):(kP p).map kV=vP p:=by unfold kP;rw[Ba];rfl
abbrev HRow:=Pth×V
abbrev dR(rows:List HRow):HO:=.dT (rows.map fun r=>(kP r.1,r.2))
theorem q8k:∀{p:Pth} {us:List Value},Vals (vP p) us->Fb us (p.map mk)
 |[],_,.nil=>.nil
 |n::p,us,h=>by
  cases h with
  |cons r t =>
   obtain⟨k,rfl⟩:=r;exact .cons _ k (q8k t)
section
variable{X:Cx}{pins:List (Addr×Obj)}{σ:St}{H:Hp}{s:Ad}
theorem Inv.path(I:Inv X pins σ H s)(h:H b=some (.tup (vP p))):PathAt s.heap (.ref b) p:=by
 obtain⟨z,its,r,t⟩:=I.hok b _ h;exact⟨b,its.toArray,rfl,t,by simpa using q8k r⟩
theorem Inv.rows(I:Inv X pins σ H s){rows:List HRow}(hd:H d=some (dR rows)):(d==Dg)=false/\rows.length<=sizeLine/\∃ob es ep,s.heap.get? d=some ob/\ob.ExactDict/\ob.data=.dict es ep/\(rows.map (·.1)).Nodup /\
  ∃zs:List (Addr×Value×HRow),zs.map (·.2.2)=rows/\es.toList.map (fun e=>(e.key,e.val))=zs.map (fun z=>(Value.ref z.1,z.2.1))/\∀z∈zs,H z.1=some (.tup (vP z.2.2.1))/\RelV z.2.2.2 z.2.1:=by
 obtain⟨z,hsys,xs,hp,ob,es,ep,ho,hex,hob,h4,h5⟩:=(show ObjOk X.prog X.w H s.heap d (dR rows) from I.hok d _ hd)
 rw[Ac] at z;have go:∀(rows:List HRow) (xs:List (List Key×Addr×Value)),Bu (fun(p:List Key×V) (q:List Key×Addr×Value)=>p.1=q.1/\H q.2.1=some (.tup (p.1.map kV))/\RelV p.2 q.2.2) (rows.map fun r=>(kP r.1,r.2)) xs ->
   xs.map (·.1)=rows.map (fun r=>kP r.1)/\∃zs:List (Addr×Value×HRow),zs.map (·.2.2)=rows/\(xs.map (Lm (Gf (mixKind X.prog X.w)))).map (fun e=>(e.key,e.val))=zs.map (fun z=>(Value.ref z.1,z.2.1))/\∀z∈zs,H z.1=some (.tup (vP z.2.2.1))/\RelV z.2.2.2 z.2.1:=by
  intro rows;induction rows with
  |nil=>intro xs h;cases h;exact⟨rfl,[],rfl,rfl,fun _ h=>nomatch h⟩
  |cons r rows ih =>
   intro xs h;cases h with
   |cons hq t =>
    rename_i q ys;obtain⟨e1,e2,e3⟩:=hq;obtain⟨i0,zs,i1,i2,i3⟩:=ih ys t;refine⟨by rw[Ak,Ak,i0,<- e1],(q.2.1,q.2.2,r)::zs,by rw[Ak,i1],by rw[Ak,Ak,Ak,i2];rfl,fun z hz=>?_⟩;rcases Bb.mp hz with rfl|hz
    ·exact⟨by rw[<- q2b];exact e2,e3⟩
    ·exact i3 z hz
 obtain⟨g0,zs,g1,g2,g3⟩:=go rows xs hp;refine⟨hsys,z,ob,es,ep,ho,hex,hob,?_,zs,g1,by rw[h4];exact g2,g3⟩;rw[g0] at h5;have e:rows.map (fun r=>kP r.1)=(rows.map (·.1)).map kP:=by simp_all
 rw[e] at h5;exact(List.pairwise_map.mp h5).imp fun hne z=>hne (by rw[z])
end
abbrev PTs(H:Hp):List Addr->List Pth->Prop:=Bu fun b p=>H b=some (.tup (vP p))
def rSortD:List V->Hp->VK->Prop:=fun vs H Q=>∃d rows,vs=[.ref d]/\H d=some (dR rows)/\rows.length<64/\(∀r∈rows,r.1≠[]) /\
 ∀L bs ps,H L=none->ps.Perm (rows.map (·.1))->ps.Pairwise (fun a b=>pLt b a=false)->PTs H bs ps->Q (.ref L) (upd H L (.lst (bs.map V.ref)))
theorem q5l:∀(bs:List Addr),Vals (bs.map V.ref) (bs.map Value.ref)
 |[]=>.nil
 |b::bs=>.cons rfl (q5l bs)
theorem z7x{H:Hp}{α:Type}{f:α->Addr}{g:α->Pth}:∀{zs:List α},(∀z∈zs,H (f z)=some (.tup (vP (g z))))->PTs H (zs.map f) (zs.map g)
 |[],_=>.nil
 |z::zs,h=>.cons (h z Ap) (z7x fun y hy=>h y (Ah _ hy))
theorem q6f(hr:Room k X.A):CallR X (.builtin "sorted") rSortD:=by
 intro pins s σ H xs us Q I rv h;obtain⟨d,rows,rfl,hd,few,hne,q⟩:=h;obtain⟨u,rfl,ru⟩:=rv.one;cases ru;obtain⟨hsys,hz,ob,es,ep,ho,hex,hob,nd,zs,z1,z2,z3⟩:=I.rows hd;have hlen:es.size=rows.length:=by
  have:=congrArg List.length z2;rw[Ac,Ac,Ca] at this;rw[this,<- z1,Ac]
 have hkeys:∀{i:Nat} (hi:i<es.size),∃z∈zs,zs[i]?=some z/\es[i].key=.ref z.1:=fun{i} hi=>by
  have e:=congrArg (fun l=>l[i]?) z2;simp only[Ao,Ed,Bq hi,Ig] at e;cases hzi:zs[i]? with
  |none=>simp_all
  |some z =>
   rw[hzi] at e;injection e with e;injection e with e1 e2;exact⟨z,Ay hzi,rfl,e1⟩
 have hdL:=Aj ho;refine SB.sorted_ok fun{Q'} kk=>?_;refine PySem.Rv.collect_runs (n:=es.size) (Fc:=fun acc _=>acc=(zs.take acc.length).map fun z=>Value.ref z.1)
  (It:=fun i h=>h.IsKeyIter (s.heap.objs.size+1) d i es.size ep/\h.get? d=some ob) (fun h kh=>⟨ob,kh _ _ ho,hex.1⟩) hdL (by decide) (by decide) (fun A E s' Q hT hq=>W.kdl_hint_dict hT hq)
  (fun A E h Q kh hq=>PySem.Rv.keys_iter hsys ⟨ob,kh _ _ ho,hex.1⟩ (kh _ _ ho) hob hq) (fun h=>Al _ rfl) ⟨fun acc h h' f _=>f,fun i h h' ⟨f1,f2⟩ kp=>⟨f1.at fun o e=>kp _ _ (Dv (Ea _)) e,kp _ _ (Au hdL) f2⟩,?_,?_⟩ (by lia)
  (fun h kh ki=>⟨rfl,⟨_,ki,rfl,rfl⟩,kh _ _ ho⟩) (fun acc h el f hz2 kh=>?_)
 ·intro acc s' Q E hl f ⟨i1,i2⟩ hq;refine PySem.Rv.keys_item i1 i2 hob hl fun h' j1 sb=>?_;obtain⟨z,hzm,hzi,hzk⟩:=hkeys hl;rw[hzk];refine hq _ h' ?_ ⟨j1,(sb.2 d (Au (Dn hdL))).trans i2⟩ fun b o hb e=>(sb.2 b hb).trans e;rw[An,Dc,Nv,hzi,Av,<- f];rfl
 ·intro s' Q E ⟨i1,i2⟩ hq;exact PySem.Rv.keys_end hr.hd i1 i2 hob (Ai _) fun h' eb=>hq h' fun b o hb e=>eb b o hb e
 ·have hzl:zs.length=es.size:=by rw[hlen,<- z1,Ac]
  have ea:acc=zs.map fun z=>Value.ref z.1:=by grind
  have hpa:∀v∈acc,∃p∈rows.map (·.1),p≠[]/\PathAt h v p:=fun v hv=>by
   rw[ea] at hv;obtain⟨z,hzm,rfl⟩:=Ag.mp hv;have hm:z.2.2∈rows:=by grind
   exact⟨z.2.2.1,Ag.mpr ⟨_,hm,rfl⟩,hne _ hm,(I.path (z3 z hzm).1).keep kh⟩
  refine kk acc h s.toks _ _ _ (SB.ready_paths (by lia) hpa) fun h' out so kh' ⟨e,he⟩=>?_;have pm:=so.perm;rw[ea] at pm;obtain⟨zs',p1,p2⟩:=SB.perm_map_inv pm rfl;have hrise:=so.rise;rw[p2] at hrise;have hps:=SB.rise_paths (fun _ _ _ a b=>a.inj b) (fun z hz=>by
   have hzm:=p1.mem_iff.mp hz;have hm:z.2.2∈rows:=by grind
   exact⟨(I.path (z3 z hzm).1).keep kh,Ag.mpr ⟨_,hm,rfl⟩⟩) hrise
  have keep:=fun b o z=>kh' b o (kh b o z);have hfr:=I.hok.fresh hz2;have eo:out.toList=(zs'.map (·.1)).map Value.ref:=by rw[p2,Ba];rfl
  have el2:(zs'.map (·.1)).length=es.size:=by rw[Ac,p1.length_eq,hzl]
  refine⟨.ref h.objs.size,upd H h.objs.size (.lst ((zs'.map (·.1)).map V.ref)),I.laid (t':=s.toks) keep hz2 ⟨by rw[Ac,el2];lia,_,e,q5l _,?_⟩,rfl,?_⟩
  ·rw[he,<- eo]
  ·refine q _ (zs'.map (·.1)) (zs'.map fun z=>z.2.2.1) hfr ?_ hps (z7x fun z hz=>(z3 z (p1.mem_iff.mp hz)).1);have:=p1.map fun z:Addr×Value×HRow=>z.2.2.1;have e3:zs.map (fun z=>z.2.2.1)=rows.map (·.1):=by rw[<- z1,Ba];rfl
   rwa [e3] at this
def vwO(v d:Addr):HO:=.ext fun h=>h.IsItemsView v d
def rItems:V->List V->Hp->VK->Prop:=fun x vs H Q=>∃d rows,x=.ref d/\vs=[]/\H d=some (dR rows)/\∀v,H v=none->Q (.ref v) (upd H v (vwO v d))
theorem z0g:MtR X "dict.items" rItems:=by
 intro pins s σ H x vs v us Q I rx rv h;obtain⟨d,rows,rfl,rfl,hd,q⟩:=h;cases rx;have hus:=rv.zero;subst hus;obtain⟨hsys,hz,ob,es,ep,ho,hex,hob,_⟩:=I.rows hd;refine Bj F.slot_dict_items ⟨ob,ho,hex.1⟩ F.entry_dict_items ?_ (F.args_dict_items_1 _);refine Aa ?_;unfold Bx.Dict.noArgs;refine Aa (Fe ⟨ob,ho,hex.1⟩ ?_);show wpAny _ _ (pure d) _ _ s;refine Ab ?_;unfold Jx;rw[if_neg (by rw[hsys];exact Bk)];refine Aa (Ab (Aa (Bi (Ab ⟨_,rfl,.ref s.heap.objs.size,_,I.laid (t':=s.toks) (fun b u e=>Ae _ e) (Ai _) ?_,rfl,q _ I.fresh⟩))));exact⟨⟨_,Al _ rfl,rfl,rfl⟩,⟨_,Al _ rfl⟩,fun h1 h2 ⟨o,e,c,dd⟩ k=>⟨o,k o e,c,dd⟩⟩
def PR(H:Hp)(a:Addr)(r:HRow):Prop:=∃b,H a=some (.tup [.ref b,r.2])/\H b=some (.tup (vP r.1))
abbrev PRs(H:Hp):List Addr->List HRow->Prop:=Bu (PR H)
def rSortV:List V->Hp->VK->Prop:=fun vs H Q=>∃v d rows,vs=[.ref v]/\H v=some (vwO v d)/\H d=some (dR rows)/\rows.length<64/\(∀r∈rows,Low r.1) /\
 ∀L as rs H',H L=none->rs.Perm rows->(rs.map (·.1)).Pairwise (fun a b=>pLt b a=false)->Same H H'->H' L=some (.lst (as.map V.ref))->PRs H' as rs->Q (.ref L) H'
theorem Inv.tracks{σ:St}:∀{zs:List (Addr×List V)} {H:Hp},Inv X pins σ H s->X.s₀.heap.objs.size<=n->(zs.map (·.1)).Nodup ->
  (∀z∈zs,n<=z.1/\FpOk X pins H z.1/\z.2.length<=sizeLine/\∃its,Vals z.2 its/\IsTup s.heap z.1 its.toArray)->∃H',Inv X pins σ H' s/\Same H H'/\(∀z∈zs,H' z.1=some (.tup z.2))/\∀b,(∀z∈zs,z.1≠b)->H' b=H b:=by
 intro zs;induction zs with
 |nil=>intro H I _ _ _;exact⟨H,I,Same.refl H,(fun _ h=>nomatch h),fun _ _=>rfl⟩
 |cons z zs ih =>
  intro H I hn nd hz;obtain⟨h1,h2,h3,its,h4,h5⟩:=hz z Ap;rw[Ak,Cf] at nd;have I2:=I.track (o:=.tup z.2) (By hn h1) h2 ⟨h3,its,h4,h5⟩;obtain⟨H',J,sm,ht,ho⟩:=ih I2 hn nd.2 (fun y hy=>by
   obtain⟨g1,g2,g3,g4⟩:=hz y (Ah _ hy);exact⟨g1,⟨by rw[q0c (fun e=>nd.1 (by rw[<- e];exact Ag.mpr ⟨y,hy,rfl⟩))];exact g2.1,g2.2⟩,g3,g4⟩)
  refine⟨H',J,((Same.refl H).new h2.1).trans sm,fun y hy=>?_,fun b hb'=>?_⟩
  ·rcases Bb.mp hy with rfl|hy
   ·exact sm _ _ q0b
   ·exact ht y hy
  ·rw[ho b fun y hy=>hb' y (Ah _ hy),q0c (Dp (hb' z Ap))]
theorem q2d{α β:Type}{f:α->β}:∀{l:List α},(l.map f).Nodup->∀{x y:α},x∈l->y∈l->f x=f y->x=y
 |[],_,_,_,h,_,_=>nomatch h
 |a::l,nd,x,y,hx,hy,e=>by
  rw[Ak,Cf] at nd;rcases Bb.mp hx with ex|hx1
  ·rcases Bb.mp hy with ey|hy1
   ·rw[ex,ey]
   ·exact absurd (by rw[<- ex,e];exact Ag.mpr ⟨y,hy1,rfl⟩) nd.1
  ·rcases Bb.mp hy with ey|hy1
   ·exact absurd (by rw[<- ey,<- e];exact Ag.mpr ⟨x,hx1,rfl⟩) nd.1
   ·exact q2d nd.2 hx1 hy1 e
abbrev Zt:=Addr×Value×HRow
structure Made (h:Heap) (lo:Nat) (ws:List (Addr×Zt)):Prop where
 rise:(ws.map (·.1)).Pairwise fun a b:Nat=>a<b
 low:∀x∈ws,lo<=(show Nat from x.1)
 at_:∀x∈ws,IsTup h x.1 #[.ref x.2.1,x.2.2.1]
theorem Made.keep{lo:Nat}(m:Made h lo ws)(k:∀(a:Nat) o,lo<=a->h.get? a=some o->h'.get? a=some o):Made h' lo ws :=
 ⟨m.rise,m.low,fun x hx=>SB.IsTup.keep (m.at_ x hx) fun o e=>k _ o (m.low x hx) e⟩
theorem z3x{H:Hp}{α:Type}{f:α->Addr}{g:α->HRow}:∀{zs:List α},(∀z∈zs,PR H (f z) (g z))->PRs H (zs.map f) (zs.map g)
 |[],_=>.nil
 |z::zs,h=>.cons (h z Ap) (z3x fun y hy=>h y (Ah _ hy))
theorem z1v(hr:Room k X.A):CallR X (.builtin "sorted") rSortV:=by
 intro pins s σ H xs us Q I rv h;obtain⟨v,d,rows,rfl,hv,hd,few,hlow,q⟩:=h;obtain⟨u,rfl,ru⟩:=rv.one;cases ru;obtain⟨hsys,hz,ob,es,ep,ho,hex,hob,nd,zs,z1,z2,z3⟩:=I.rows hd;obtain⟨vo,vho,vc,vd⟩:s.heap.IsItemsView v d:=(I.hok v _ hv).1;have hlen:es.size=rows.length:=by
  have:=congrArg List.length z2;rw[Ac,Ac,Ca] at this;rw[this,<- z1,Ac]
 have hkeys:∀{i:Nat} (hi:i<es.size),∃z∈zs,zs[i]?=some z/\es[i].key=.ref z.1/\es[i].val=z.2.1:=fun{i} hi=>by
  have e:=congrArg (fun l=>l[i]?) z2;simp only[Ao,Ed,Bq hi,Ig] at e;cases hzi:zs[i]? with
  |none=>simp_all
  |some z =>
   rw[hzi] at e;injection e with e;injection e with e1 e2;exact⟨z,Ay hzi,rfl,e1,e2⟩
 have hzl:zs.length=es.size:=by grind
 have hdL:=Aj ho;have hu:=hr.un;refine SB.sorted_ok fun{Q'} kk=>?_;refine PySem.Rv.collect_runs (n:=es.size) (oI:=PySem.Rv.itemObj d 0 es.size ep .none (.bool false) .none .none) (Fc:=fun acc h=>∃ws,acc=ws.map (fun x=>Value.ref x.1)/\ws.map (·.2)=zs.take acc.length/\Made h (s.heap.objs.size+2) ws)
  (It:=fun i h=>PySem.Rv.ItemIt h (s.heap.objs.size+1) d i es.size ep/\h.get? d=some ob) (fun h kh=>⟨vo,kh _ _ vho,vc⟩) (Aj vho) (by decide) (by decide) (fun A E s' Q hT hq=>W.kdx_hint hT hq)
  (fun A E h Q kh hq=>PySem.Rv.items_iter ⟨vo,kh _ _ vho,vc,vd⟩ (kh _ _ ho) hob hq) (fun h=>Al _ rfl) ⟨?_,fun i h h' ⟨f1,f2⟩ kp=>⟨f1.keep fun o e=>kp _ _ (Dv (Ea _)) e,kp _ _ (Au hdL) f2⟩,?_,?_⟩ (by lia)
  (fun h kh ki=>⟨⟨[],rfl,rfl,.nil,(fun _ z=>nomatch z),(fun _ z=>nomatch z)⟩,⟨_,_,_,_,ki,.inl rfl⟩,kh _ _ ho⟩) (fun acc h el f hz2 kh=>?_)
 ·rintro acc h h' ⟨ws,e1,e2,m⟩ kp;refine⟨ws,e1,e2,m.keep fun a o ha e=>kp a o (fun z=>?_) (fun z=>?_) e⟩
  ·rw[z] at ha;exact absurd ha (by lia)
  ·grind
 ·rintro acc s' Q E hl ⟨ws,e1,e2,m⟩ ⟨i1,i2⟩ hq;refine PySem.Rv.items_item i1 i2 hob hl fun h' j1 j2 j3 j4=>?_;obtain⟨z,hzm,hzi,hzk,hzv⟩:=hkeys hl;have lo:=i1.lt;have ni:∀{a:Nat},s.heap.objs.size+2<=a->a≠s.heap.objs.size+1:=fun h=>by lia
  refine hq _ h' ⟨ws++[(s'.heap.objs.size,z)],by rw[e1,Av];rfl,?_,?_⟩ ⟨j1,j4 d ob (Au (Dn hdL)) i2⟩ j4
  ·rw[Av,e2,An,Dc,Nv,hzi];rfl
  ·have m':=m.keep (h':=h') fun a o ha e=>j4 a o (ni ha) e;refine⟨?_,fun x hx=>?_,fun x hx=>?_⟩
   ·rw[Av];refine List.pairwise_append.mpr ⟨m.rise,Jf _ _,fun a ha b hb=>?_⟩;obtain⟨x,hx,rfl⟩:=Ag.mp ha;have hb':b=s'.heap.objs.size:=by simpa using hb
    rw[hb'];obtain⟨o,eo,_⟩:=m.at_ x hx;exact Aj eo
   ·rcases Az.mp hx with hx|hx
    ·exact m.low x hx
    ·rw[Ar.mp hx];exact lo
   ·rcases Az.mp hx with hx|hx
    ·exact m'.at_ x hx
    ·rw[Ar.mp hx];refine⟨_,j2,rfl,0,?_⟩;rw[hzk,hzv]
 ·rintro s' Q E ⟨i1,i2⟩ hq;exact PySem.Rv.items_end hr.hd i1 i2 hob (Ai _) fun h' eb=>hq h' fun b o hb e=>eb b o hb e
 ·obtain⟨ws,e1,e2,m⟩:=f;rw[el,<- hzl,Bh] at e2;have hwz:∀{x:Addr×Zt},x∈ws->x.2∈zs:=fun{x} hx=>by rw[<- e2];exact Ag.mpr ⟨x,hx,rfl⟩
  have hrow:∀{x:Addr×Zt},x∈ws->x.2.2.2∈rows:=fun{x} hx=>by rw[<- z1];exact Ag.mpr ⟨_,hwz hx,rfl⟩
  have hpa:∀{x:Addr×Zt},x∈ws->PairAt h (.ref x.1) x.2.2.2.1 x.2.2.1:=fun{x} hx=>⟨x.1,.ref x.2.1,rfl,m.at_ x hx,(I.path (z3 _ (hwz hx)).1).keep kh⟩
  have hnd:(ws.map fun x=>x.2.2.2.1).Nodup:=by grind
  have hacc:∀{w:Value},w∈acc->∃x∈ws,w=.ref x.1:=fun{w} hw=>by
   rw[e1] at hw;obtain⟨x,hx,rfl⟩:=Ag.mp hw;exact⟨x,hx,rfl⟩
  refine kk acc h s.toks _ _ _ (SB.ready_pairs (ps:=rows.map (·.1)) (by lia) (fun w hw=>?_) (fun w hw y hy p mm mm' hp1 hp2=>?_) (by lia)) fun h' out so kh' ⟨e,he⟩=>?_
  ·grind
  ·obtain⟨x,hx,rfl⟩:=hacc hw;obtain⟨x2,hx2,rfl⟩:=hacc hy;have q1:=SB.PairAt.inj hp1 (hpa hx);have q2:=SB.PairAt.inj hp2 (hpa hx2);rw[q2d hnd hx hx2 (q1.symm.trans q2)]
  ·have pm:=so.perm;rw[e1] at pm;obtain⟨ws',p1,p2⟩:=SB.perm_map_inv pm rfl;have hrise:=so.rise;rw[p2] at hrise;have hps:=SB.rise_paths (fun w a b ⟨_,x⟩ ⟨_,y⟩=>SB.PairAt.inj x y) (fun x hx=>by
    have hxm:=p1.mem_iff.mp hx;exact⟨⟨_,hpa hxm⟩,Ag.mpr ⟨_,hrow hxm,rfl⟩⟩) hrise
   have keep:=fun b o z=>kh' b o (kh b o z);have I1:=I.kept (t':=s.toks) keep;have hlo:=fun{x} hx=>By (Nat.le_add_right _ 2) (m.low x (p1.mem_iff.mp hx));have ndA:(ws'.map (·.1)).Nodup:=by
    have:(ws.map (·.1)).Nodup:=m.rise.imp fun h e=>by subst e;exact absurd h (Dy _)
    exact(p1.map (·.1)).nodup_iff.mpr this
   obtain⟨H1,J,sm,ht,hot⟩:=I1.tracks (zs:=ws'.map fun x=>(x.1,[V.ref x.2.1,x.2.2.2.2])) I.sz (by rw[Ba];exact ndA) (fun z hz=>by
    obtain⟨x,hx,rfl⟩:=Ag.mp hz;refine⟨hlo hx,I.fpOk (hlo hx) (I.hok.fresh (hlo hx)),by show 2<=sizeLine;decide,[.ref x.2.1,x.2.2.1],.cons rfl (.cons (z3 _ (hwz (p1.mem_iff.mp hx))).2 .nil),?_⟩;exact SB.IsTup.keep (m.at_ x (p1.mem_iff.mp hx)) fun o e=>kh' _ o e)
   have hL1:H1 h.objs.size=none:=by
    rw[hot _ fun z hz e=>?_]
    ·exact I.hok.fresh hz2
    ·obtain⟨x,hx,rfl⟩:=Ag.mp hz;obtain⟨o,eo,_⟩:=m.at_ x (p1.mem_iff.mp hx);exact absurd (Aj eo) (by rw[show x.1=h.objs.size from e];exact Dy _)
   have el2:(ws'.map (·.1)).length=es.size:=by rw[Ac,p1.length_eq,<- hzl,<- e2,Ac]
   have eo:out.toList=(ws'.map (·.1)).map Value.ref:=by rw[p2,Ba];rfl
   have J2:=J.track (o:=.lst ((ws'.map (·.1)).map V.ref)) (By I.sz hz2) (I.fpOk hz2 hL1) ⟨by rw[Ac,el2];lia,_,e,q5l _,by rw[<- eo];exact he⟩;have sm2:Same H (upd H1 h.objs.size (.lst ((ws'.map (·.1)).map V.ref))):=sm.trans ((Same.refl H1).new hL1);refine⟨.ref h.objs.size,_,J2,rfl,q _ (ws'.map (·.1)) (ws'.map fun x=>x.2.2.2) _ (I.hok.fresh hz2) ?_ (by rw[Ba];exact hps) sm2 q0b (z3x fun x hx=>?_)⟩
   ·have e3:ws.map (fun x=>x.2.2.2)=rows:=by rw[<- z1,<- e2,Ba];rfl
    rw[<- e3];exact p1.map _
   ·refine⟨x.2.1,?_,sm2 _ _ (z3 _ (hwz (p1.mem_iff.mp hx))).1⟩;exact(Same.refl H1).new hL1 _ _ (ht _ (Ag.mpr ⟨x,hx,rfl⟩))
open PySem PySem.Spec PyProof.Rows
theorem d_set{σ:St}(hu:A.units+1<cLine)(I:Inv X pins σ H s)(e:H a=some (.dT kvs))(eb:H b=some (.tup (k.map kV)))(l:kvs.length<sizeLine)(rv:RelV v r)(h:∀s',Inv X pins σ (upd H a (.dT (putK kvs k v))) s'->(∀b o,b≠a->s.heap.get? b=some o->s'.heap.get? b=some o)->Q () s'):wpAny (model X.prog X.w) A (dictSet a (.ref b) r) Q E s:=by
 obtain⟨z,hd,xs,rel,dd⟩:=z6f I.hok e;have hz:xs.length<=sizeLine:=by rw[<- Cd rel];exact z
 have hl:(putK kvs k v).length<=sizeLine:=by have:=q1u kvs k v;lia
 refine wpAny_dictSet_heap (show(Gf (mixKind X.prog X.w)).room A from Nat.lt_of_succ_lt hu) (q4i I.hok eb) dd fun h' dd' hs=>h _ ?_ fun b o hb e=>(hs.2 b hb).trans e;obtain⟨q,es,ep,hq,h2,h3,h4,_,h5⟩:=dd';refine q6r I (by rw[e];exact True.intro) hs ⟨q,hq⟩ ⟨hl,hd,_,(rel.put k eb rv).keeps fun c ys ec=>?_,q,es,ep,hq,h2,h3,h4,h5⟩;rw[q0c (z1b ec e (fun z=>nomatch z))];exact ec
def CompWD(J:It)(g:TG)(tt:TT)(tk tv:TE)(σ0:St)(D:Addr)(Fin:List (List Key×V)->Hp->Prop)(H1:Hp):Prop :=
 ∃W:Nat->Nat->List (List Key×V)->Hp->Prop,(∃m,W 0 m [] (upd H1 D (.dT [])))/\∀i m ys H,W i m ys H->H D=some (.dT ys) /\
  ((J.stop i H/\Fin ys H)\/(J.go i H/\∃N:List (List Key×V)->Hp->Prop,(∀zs H',N zs H'->∃m',m'<m/\W (i+1) m' zs H')/\∀x H',J.yld i H x H'->g x σ0 H' fun σ2 H2=>Keeps0 σ0 σ2/\tt σ2 H2 fun b H3 =>
   if b=true then tk σ2 H3 fun y H4=>tv σ2 H4 fun v H5=>∃k c,y=.ref c/\H5 c=some (.tup (k.map kV))/\H5 D=some (.dT ys)/\ys.length<sizeLine/\N (putK ys k v) (upd H5 D (.dT (putK ys k v)))
   else N ys H3))
theorem q8l{σ:St}{Fin:Addr->List (List Key×V)->Hp->Prop}{RR:Value->Addr->Result->Ad->Prop}(hc:X.calm=true)(hkind:scope.kind=.function)(hnc:∀y∈scope.names,y.2≠.cell)(hc1:∀x c,cl.lookup x=some c->X.env.cells.lookup x=some c)(hc2:∀x,(x,Ax.free)∈scope.names->∃c,cl.lookup x=some c)(co:CapOk X scope caps)(hg:∀C s H,PG (cxComp X (tg++caps.map (·.1)) scope cl C fp s H) target g)(ht:∀C s H,PIfs (cxComp X (tg++caps.map (·.1)) scope cl C fp s H) ifs tt)(he:∀C s H,PE (cxComp X (tg++caps.map (·.1)) scope cl C fp s H) kx tk)(hv:∀C s H,PE (cxComp X (tg++caps.map (·.1)) scope cl C fp s H) vx tv)(hu:X.A.units+1<cLine)(I2:Inv X pins σ H1 s₂)(T:Turn X.prog X.w X.K target J fp it tn)(st:tn 0 s₂.heap)(hf:∀b∈fp,FpOk X pins H1 b)(hw:∀D,H1 D=none->CompWD J g tt tk tv (tg0 tg σ caps) D (Fin D) H1)(hRR:∀D C ys H' s',H1 D=none->Inv X pins σ H' s'->(∃m,s'.heap.Ns C m)->FpOk X pins H' C->Fin D ys H'->RR (.ref D) C (.ok .next) s'):
  wpAny (model X.prog X.w) X.A newDict (fun acc s₃=>wpAny (model X.prog X.w) X.A (newFunctionEnv scope X.env.globals cl [] X.env.qual none .none (some X.env)) (fun cenv s₄ =>
   Er (model X.prog X.w) X.A (.compStart (.DictComp kx vx [⟨target,iter,ifs,0⟩] scope pos) 0 (.ref it) acc { cenv with scope:=relabel scope X.env }) (RR acc cenv.locals) s₄) E s₃) E s₂:=by
 have I3:Inv X pins σ (upd H1 s₂.heap.objs.size (.dT [])) { s₂ with heap:=s₂.heap.push { cls:=.type "dict",dict:=none,data:=.dict #[] },toks:=s₂.toks }:=I2.laid (fun _ _ q=>Ae _ q) (Ai _) (q6s s₂.heap I2.big);have hD0:=I2.fresh;refine Bi (Om hnc (by intro y hy;simp at hy) (fun h₁ hns₁ hsb₁=>?_) hkind);dsimp only at hns₁ hsb₁ ⊢;generalize hDd:s₂.heap.objs.size=D at I3 hD0 hns₁ hsb₁ ⊢;generalize hs3:({ s₂ with heap:=s₂.heap.push { cls:=.type "dict",dict:=none,data:=.dict #[] } }:Ad)=s₃ at I3 hns₁ hsb₁ ⊢;have e3:s₂.heap.push { cls:=.type "dict",dict:=none,data:=.dict #[] }=s₃.heap:=by grind
 have o3:({ s₂ with heap:=h₁,toks:=s₂.toks+([]:List (Str×Value)).length }:Ad)={ s₃ with heap:=h₁,toks:=s₂.toks }:=by grind
 have size3:s₃.heap.objs.size=D+1:=by rw[<- e3,Es,hDd]
 rw[e3] at hns₁ hsb₁ ⊢;have old3:∀b o,s₂.heap.get? b=some o->s₃.heap.get? b=some o:=fun b o e=>by rw[<- e3];exact Ae _ e
 generalize hCd:s₃.heap.objs.size=C at hns₁ hsb₁ ⊢;have hk:=fun b o e=>hsb₁.extBut b o (by rw[<- hCd];exact Au (Aj e)) (Ae _ e);have fpo:∀b∈fp,∃o,s₂.heap.get? b=some o:=fun b hb=>by obtain⟨o,e,_⟩:=T.obj 0 _ st b hb;exact⟨o,e⟩
 have fpne:∀b∈fp,b≠D:=fun b hb=>by obtain⟨o,e⟩:=fpo b hb;rw[<- hDd];exact Au (Aj e)
 have hf3:∀b∈fp,FpOk X pins (upd H1 D (.dT [])) b:=fun b hb=>⟨by rw[q0c (fpne b hb)];exact(hf b hb).1,(hf b hb).2⟩
 have IY:=Inv.ofcomp (tk:=s₂.toks) tg I3 hkind hnc hc1 hc2 hf3 (fun b hb=>let ⟨o,e⟩:=fpo b hb;⟨o,old3 b o e⟩) (Ij hCd) hns₁ hk co;have FC:FpOk X pins H1 C:=by
  have z:=I3.fpOk (H':=H1) (Ij hCd) (I2.hok.fresh (by rw[hDd,<- hCd,size3];exact Fs _));exact z
 generalize hY:cxComp X (tg++caps.map (·.1)) scope cl C fp s₃ (upd H1 D (.dT []))=Y at IY;have hgY:PG Y target g:=by grind
 have htY:PIfs Y ifs tt:=by grind
 have heY:PE Y kx tk:=by grind
 have hvY:PE Y vx tv:=by grind
 have hYp:Y.prog=X.prog:=by rw[<- hY];rfl
 have hYw:Y.w=X.w:=by rw[<- hY];rfl
 have hYK:Y.K=X.K:=by rw[<- hY];rfl
 have hYA:Y.A=X.A:=by rw[<- hY];rfl
 have hYe:Y.env=Eg scope cl C X.env:=by rw[<- hY];rfl
 have hYx:Y.ex=fp:=by rw[<- hY];rfl
 have hYn:Y.pn=[]:=by rw[<- hY];rfl
 have hYc:Y.calm=true:=by rw[<- hY];exact hc
 have hYxe:Y.xe=fun _ _=>False:=by rw[<- hY];rfl
 have fpY:∀{H':Hp},(∀b∈fp,H' b=none)->∀b∈fp,FpOk Y [] H' b:=fun{H'} hn b hb=>by
  refine⟨hn b hb,?_,?_,.inl (by rw[hYx];exact hb),fun x c e=>?_,fun p hp=>?_⟩
  ·have:=(IY.ok.exf b (by rw[hYx];exact hb)).1;exact this
  ·exact IY.ok.exfs b (by rw[hYx];exact hb)
  ·exact(IY.ok.exf b (by rw[hYx];exact hb)).2 x c e
  ·grind
 obtain⟨W,⟨m0,w0⟩,turn⟩:=hw D hD0;have stY:=T.keep 0 _ _ st fun b hb o e=>hk b o (old3 b o e)
 have back:∀{H':Hp} {s':Ad} {σ':St},Inv Y [] σ' H' s'->Inv X pins σ H' s':=fun{H' s' σ'} IE=>by
  have hun:=IE.base;have hos:=IE.os;rw[<- hY] at hun hos;exact I3.call' hos hun (by have z:=IE.hok;rw[hYp,hYw] at z;exact z) IE.bare fun b hb=>⟨(hf b hb).2.2.2.1,(hf b hb).2.1,(hf b hb).2.2.2.2.1,(hf b hb).2.2.2.2.2⟩
 have gY:∀pins s σ H v u Q (E':Value->Ad->Prop),Inv Y pins σ H s->RelV v u->g v σ H Q->wpAny (model X.prog X.w) X.A (assign target (Eg scope cl C X.env) u) (fun _ s'=>∃σ' H',Inv Y pins σ' H' s'/\Q σ' H') E' s:=fun pins s σ H v u Q E' IE r q=>by
  have z:=hgY pins s σ H v u Q IE r q;rw[hYp,hYw,hYA,hYe,hYxe] at z;exact Bw z (fun _ _ x=>x) fun _ _ f=>f.elim
 have tY:∀pins s σ H Q (E':Value->Ad->Prop),Inv Y pins σ H s->tt σ H Q->wpAny (model X.prog X.w) X.A (forIn ifs true fun c r=>if r=true then do let ok<-isTrue c (Eg scope cl C X.env) (eval c (Eg scope cl C X.env));pure (ForInStep.yield ok) else pure (ForInStep.yield r)) (TP Y pins σ Q) E' s:=fun pins s σ H Q E' IE q=>by
  have z:=htY pins s σ H Q IE q;rw[hYp,hYw,hYA,hYe,hYxe] at z;exact Bw z (fun _ _ x=>x) fun _ _ f=>f.elim
 have eY:∀pins s σ H Q (E':Value->Ad->Prop),Inv Y pins σ H s->tk σ H Q->wpAny (model X.prog X.w) X.A (eval kx (Eg scope cl C X.env)) (EP Y pins σ Q) E' s:=fun pins s σ H Q E' IE q=>by
  have z:=heY pins s σ H Q IE q;rw[hYp,hYw,hYA,hYe,hYxe] at z;exact Bw z (fun _ _ x=>x) fun _ _ f=>f.elim
 have vY:∀pins s σ H Q (E':Value->Ad->Prop),Inv Y pins σ H s->tv σ H Q->wpAny (model X.prog X.w) X.A (eval vx (Eg scope cl C X.env)) (EP Y pins σ Q) E' s:=fun pins s σ H Q E' IE q=>by
  have z:=hvY pins s σ H Q IE q;rw[hYp,hYw,hYA,hYe,hYxe] at z;exact Bw z (fun _ _ x=>x) fun _ _ f=>f.elim
 have tiY:∀i pins s σ H (E':Value->Ad->Prop),Inv Y pins σ H s->(∀b∈fp,FpOk Y pins H b)->tn i s.heap->J.go i H ->
   wpAny (model X.prog X.w) X.A (Gw (.ref it)) (fun r s1=>∃u,r=some u /\
    wpAny (model X.prog X.w) X.A (Ic target (.ref it) u) (fun _ s2=>∃x H',Inv Y pins σ H' s2/\RelV x u/\J.yld i H x H'/\tn (i+1) s2.heap/\∀b∈fp,H' b=none) E' s1) E' s:=fun i pins s σ H E' IE hfy st go=>by
  have z:=T.item Y hYp hYw hYK hYc i pins s σ H E' IE hfy st go;rw[hYA] at z;exact z
 have tdY:∀i pins s σ H (E':Value->Ad->Prop),Inv Y pins σ H s->(∀b∈fp,FpOk Y pins H b)->tn i s.heap->J.stop i H ->
   wpAny (model X.prog X.w) X.A (Gw (.ref it)) (fun r s1=>r=none/\Inv Y pins σ H s1) E' s:=fun i pins s σ H E' IE hfy st go=>by
  have z:=T.done Y hYp hYw hYK hYc i pins s σ H E' IE hfy st go;rw[hYA] at z;exact z
 have loop:Er (model X.prog X.w) X.A (.compLoop (.DictComp kx vx [⟨target,iter,ifs,0⟩] scope pos) 0 (.ref it) (.ref D) (Eg scope cl C X.env)) (RR (.ref D) C) { s₃ with heap:=h₁,toks:=s₂.toks }:=by
  refine codeAny_loop rfl (fun n s'=>∃i ys H',Inv Y [] (tg0 tg σ caps) H' s'/\tn i s'.heap/\(∀b∈fp,H' b=none)/\W i n ys H') ?_ m0 ⟨0,[],_,IY,stY,fun b hb=>(hf3 b hb).1,w0⟩;rintro n s4 ⟨i,ys,H4,I4,st4,fr4,w4⟩;refine wpAny_noted ?_;obtain⟨hHD,alt⟩:=turn i n ys H4 w4;rcases alt with⟨stop,fin⟩|⟨go,N,hN,step⟩
  ·refine Aa (Gd (Aa (thn (tdY i [] s4 _ H4 _ I4 (fpY fr4) st4 stop) fun r s5 ⟨hr,I5⟩=>?_)));subst hr;refine Ab (hRR D C ys H4 s5 hD0 (back I5) ?_ ⟨?_,FC.2⟩ fin)
   ·obtain⟨m,hm,_⟩:=I5.loc;rw[hYe] at hm;exact⟨m,hm⟩
   ·have z:=I5.free;rw[hYe] at z;exact z
  ·refine Aa (Gd (Aa (thn (tiY i [] s4 _ H4 _ I4 (fpY fr4) st4 go) fun r s5 ⟨u,hr,h5⟩=>?_)));subst hr;refine Aa (thn h5 fun _ s6 ⟨x,H6,I6,r6,y6,st6,fr6⟩=>?_);have I6':=I6.pinned (fpY fr6) (T.obj _ _ st6);refine Aa (thn (gY _ s6 _ H6 x u _ _ I6' r6 (step x H6 y6)) fun _ s7 ⟨σ7,H7,I7,kp,q7⟩=>?_);refine Aa (thn (tY _ s7 σ7 H7 _ _ I7 q7) fun b s8 ⟨H8,I8,q8⟩=>?_);have again:∀{H9:Hp} {s9:Ad} {zs:List (List Key×V)} {m':Nat},Inv Y ([]++pinsAt fp s6.heap) σ7 H9 s9->m'<n->W (i+1) m' zs H9->∃m,m<n/\∃i ys H',Inv Y [] (tg0 tg σ caps) H' s9/\tn i s9.heap/\(∀b∈fp,H' b=none)/\W i m ys H':=fun{H9 s9 zs m'} I9 hm w9=>by
    refine⟨m',hm,i+1,zs,H9,I9.unpinned.weak kp.1 kp.2,T.keep _ _ _ st6 fun b hb o e=>(I9.pin (b,o) (Bf _ (Bf _ (q1s hb e)))).1,fun b hb=>?_,w9⟩;obtain⟨o,e,d⟩:=T.obj _ _ st6 b hb;exact(I9.pin (b,o) (Bf _ (Bf _ (q1s hb e)))).2.1
   cases b with
   |true =>
    refine Aa (Aa (thn (eY _ s8 σ7 H8 _ _ I8 q8) fun kv s9 ⟨yy,H9,I9,r9,q9⟩=>?_));refine Aa (Br (thn (vY _ s9 σ7 H9 _ _ I9 q9) fun vv s10 ⟨v,H10,I10,r10,kk,bb,ey,hbb,hH10,hz10,n10⟩=>?_));subst ey;cases r9;obtain⟨m',hm',w10⟩:=hN _ _ n10;refine Aa (Gd (Br ?_));have z:=d_set (E:=notedBy (model X.prog X.w) X.A (Eg scope cl C X.env) fun e s'=>RR (.ref D) C (.error e) s') (Q:=fun _ s'=>Inv Y ([]++pinsAt fp s6.heap) σ7 (upd H10 D (.dT (putK ys kk v))) s') hu I10 hH10 hbb hz10 r10 fun s' I' _=>I';rw[hYp,hYw] at z;exact thn z fun _ s11 I11=>Ab ⟨rfl,again I11 hm' w10⟩
   |false =>
    obtain⟨m',hm',w8⟩:=hN _ _ q8;exact Ab ⟨rfl,again I8 hm' w8⟩
 rw[o3];exact codeAny_compStart_dict loop (T.self _ 0 _ _ _ stY loop)
def tCompD(wi:TI)(g:TG)(tt:TT)(tk tv:TE)(tg:List Str)(caps:Caps):TE:=fun σ H Q=>wi σ H fun J H1=>∀D,H1 D=none->CompWD J g tt tk tv (tg0 tg σ caps) D (fun _ H'=>Q (.ref D) H') H1
section
variable{X:Cx}{iter target kx vx:Expr}{ifs:List Expr}{scope:Scope}{pos:Pos}{wi:TI}{g:TG}{tt:TT}{tk tv:TE}
theorem z6n(tg:List Str)(caps:Caps)(hc:X.calm=true)(hi:PI X target iter wi)(hg:∀cl C fp s H,PG (cxComp X (tg++caps.map (·.1)) scope cl C fp s H) target g)(ht:∀cl C fp s H,PIfs (cxComp X (tg++caps.map (·.1)) scope cl C fp s H) ifs tt)(he:∀cl C fp s H,PE (cxComp X (tg++caps.map (·.1)) scope cl C fp s H) kx tk)(hv:∀cl C fp s H,PE (cxComp X (tg++caps.map (·.1)) scope cl C fp s H) vx tv)(hu:X.A.units+1<cLine)(hk:compChk X.N X.env.scope scope caps=true:=by rfl)(hs:∀x,Jg iter X.env x=pure x:=by intro _;rfl):
  PE X (.DictComp kx vx [⟨target,iter,ifs,0⟩] scope pos) (tCompD wi g tt tk tv tg caps):=by
 intro pins s σ H Q I h;obtain⟨hkind,hnc,hnames,hfree,co⟩:=q3v hk;obtain⟨cl,hclos,hc1,hc2⟩:=q9f I hfree;refine Io rfl hs hclos hkind hnames (thn (hi pins s σ H _ I h) fun v s1 h1=>thn h1 fun itv s2 h2=>?_);obtain⟨it,fp,tn,J,H2,e,I2,T,st2,f2,hw⟩:=h2;subst e;refine q8l hc hkind hnc hc1 hc2 co (fun C s H=>hg cl C fp s H) (fun C s H=>ht cl C fp s H) (fun C s H=>he cl C fp s H) (fun C s H=>hv cl C fp s H) hu I2 T st2 f2 hw ?_;intro D C ys H' s' hD I' hm F fin;obtain⟨m,hm⟩:=hm;refine⟨m,hm,fun h' hsb=>⟨.ref D,H',I'.turned (t':=s'.toks) (fun b o hb e=>(hsb.2 b hb).trans e) F.1 F.2.1 F.2.2.2.1 F.2.2.2.2.1 F.2.2.2.2.2,rfl,fin⟩⟩
def tSetDC(wi:TI)(g:TG)(tt:TT)(tk tv:TE)(tg:List Str)(caps:Caps)(i:Nat):TS:=fun D' σ H=>wi σ H fun J H1=>∀D,H1 D=none->CompWD J g tt tk tv (tg0 tg σ caps) D (fun _ H'=>D'.nx (σ.set i (some (.ref D))) H') H1
theorem z6o{i:Nat}{y:Str}{py spos:Pos}(tg:List Str)(caps:Caps)(hN:X.N.Nodup)(hiN:X.N[i]?=some y)(hx:Loc X.env.scope y)(hc:X.calm=true)(hi:PI X target iter wi)(hg:∀cl C fp s H,PG (cxComp X (tg++caps.map (·.1)) scope cl C fp s H) target g)(ht:∀cl C fp s H,PIfs (cxComp X (tg++caps.map (·.1)) scope cl C fp s H) ifs tt)(he:∀cl C fp s H,PE (cxComp X (tg++caps.map (·.1)) scope cl C fp s H) kx tk)(hv:∀cl C fp s H,PE (cxComp X (tg++caps.map (·.1)) scope cl C fp s H) vx tv)(hu:X.A.units+1<cLine)(hk:compChk X.N X.env.scope scope caps=true:=by rfl)(hs:∀x,Jg iter X.env x=pure x:=by intro _;rfl)(hsw:Kv (.DictComp kx vx [⟨target,iter,ifs,0⟩] scope pos) (some (.Name y py)) spos.line X.env=pure true:=by rfl)(hf:X.fn y=true\/X.env.scope.names.lookup y=some .local:=by first|exact .inl rfl|exact .inr rfl|assumption):
  PS X (.Assign [.Name y py] (.DictComp kx vx [⟨target,iter,ifs,0⟩] scope pos) spos) (tSetDC wi g tt tk tv tg caps i):=by
 intro pins s σ H D' I h;obtain⟨hkind,hnc,hnames,hfree,co⟩:=q3v hk;obtain⟨cl,hclos,hc1,hc2⟩:=q9f I hfree;rw[exec_Assign_Name_used _ _ _ _ hsw];refine Aa (Gd (Aa ?_));refine Aa (Bw (Io (use:=some (assign (.Name y py) X.env)) rfl hs hclos hkind hnames
  (thn (hi pins s σ H _ I h) fun v s1 h1=>thn h1 fun itv s2 h2=>?_)) (fun _ s' hq=>Ab (Ab hq)) fun _ _ e=>e)
 obtain⟨it,fp,tn,J,H2,e,I2,T,st2,f2,hw⟩:=h2;subst e;refine q8l (RR:=fun acc C=>compPost (model X.prog X.w) X.A X.xe (some (assign (.Name y py) X.env)) (fun _ s'=>SP X pins D' .next s') acc C) (Fin:=fun D _ H'=>D'.nx (σ.set i (some (.ref D))) H') hc hkind hnc hc1 hc2 co (fun C s H=>hg cl C fp s H) (fun C s H=>ht cl C fp s H) (fun C s H=>he cl C fp s H) (fun C s H=>hv cl C fp s H) hu I2 T st2 f2 hw ?_;intro D C ys H' s' hD I' hm F fin;obtain⟨m,hm⟩:=hm;refine Qh (q7g (v:=.ref D) I' hN hiN hx rfl (fun s'' I'' hsb=>?_) hf);obtain⟨a,sb,ha⟩:=hsb;have hCa:C≠a:=by
  rcases ha with ha|ha
  ·rw[ha];exact F.2.1
  ·exact fun z=>F.2.2.2.2.1 y a ha z.symm
 refine⟨m,hm.sameBut sb hCa,fun h' hs'=>?_⟩;exact⟨_,H',I''.turned (t':=s''.toks) (fun b o hb e=>(hs'.2 b hb).trans e) F.1 F.2.1 F.2.2.2.1 F.2.2.2.2.1 F.2.2.2.2.2,fin⟩
end
theorem z0h{Fin:List (List Key×V)->Hp->Prop}(Pv:Nat->List (List Key×V)->Hp->Prop)(h0:Pv 0 [] (upd H1 D (.dT [])))(hl:∀i ys H,Pv i ys H->H D=some (.dT ys))(hgo:∀i ys H,i<n->Pv i ys H->J.go i H)(hstop:∀ys H,Pv n ys H->J.stop n H)(hs:∀i ys H x H',i<n->Pv i ys H->J.yld i H x H'->g x σ0 H' fun σ2 H2=>Keeps0 σ0 σ2/\tt σ2 H2 fun b H3 =>
   if b=true then tk σ2 H3 fun y H4=>tv σ2 H4 fun v H5=>∃k c,y=.ref c/\H5 c=some (.tup (k.map kV))/\H5 D=some (.dT ys)/\ys.length<sizeLine/\Pv (i+1) (putK ys k v) (upd H5 D (.dT (putK ys k v))) else Pv (i+1) ys H3)(hd:∀ys H,Pv n ys H->Fin ys H):CompWD J g tt tk tv σ0 D Fin H1:=by
 refine⟨fun i m ys H=>m=n-i/\i<=n/\Pv i ys H,⟨n,by simp,Bv _,h0⟩,?_⟩;rintro i m ys H ⟨rfl,hi,p⟩;refine⟨hl i ys H p,?_⟩;by_cases hlt:i<n
 ·exact .inr ⟨hgo i ys H hlt p,Pv (i+1),fun zs H' q=>⟨n-(i+1),by lia,rfl,hlt,q⟩,fun x H' y=>hs i ys H x H' hlt p y⟩
 ·have e:i=n:=by lia
  subst e;exact .inl ⟨hstop ys H p,hd ys H p⟩
theorem z1w{K:Af}{Fin:List (List Key×V)->Hp->Prop}(Pv:Nat->List (List Key×V)->Hp->Prop)(h0:Pv 0 [] (upd H1 D (.dT [])))(hl:∀i ys H,Pv i ys H->H D=some (.dT ys)/\SqL K H a xs)(hs:∀i ys H x,xs[i]?=some x->Pv i ys H->g x σ0 H fun σ2 H2=>Keeps0 σ0 σ2/\tt σ2 H2 fun b H3 =>
   if b=true then tk σ2 H3 fun y H4=>tv σ2 H4 fun v H5=>∃k c,y=.ref c/\H5 c=some (.tup (k.map kV))/\H5 D=some (.dT ys)/\ys.length<sizeLine/\Pv (i+1) (putK ys k v) (upd H5 D (.dT (putK ys k v))) else Pv (i+1) ys H3)(hd:∀ys H,Pv xs.length ys H->Fin ys H):CompWD (Itl K a) g tt tk tv σ0 D Fin H1 :=
 z0h Pv h0 (fun i ys H p=>(hl i ys H p).1) (fun i ys H h p=>⟨xs,xs[i],(hl i ys H p).2,by simp[h]⟩) (fun ys H p=>⟨xs,(hl _ ys H p).2,Ai _⟩)
  (fun i ys H x H' h p y=>by obtain⟨e,y⟩:=y;subst e;exact hs i ys _ x (y xs (hl i ys _ p).2) p) hd
end L2
namespace PySem.Rv
open Sem (wp)
section
variable{prog:Program}{w:World}{A:Around}{E:Value->Ad->Prop}{s:Ad}
theorem q5u:Rp (.type "list") "keys" = pure none:=by rw[typeLookup_type,Nw];kernel_rfl
theorem no_keys(hx:s.heap.get? a=some { cls:=.type "list",dict:=none,data:=.seq xs k,slots:=#[] })(hA:A.handled=none)(h:∀h' tk,(∀b o,s.heap.get? b=some o->h'.get? b=some o)->Q none { s with heap:=h',toks:=tk }):wpAny (model prog w) A (getAttr? (.ref a) "keys") Q E s:=by
 obtain⟨hp,g,d,tk,os⟩:=s;have hT:∀tk',(⟨hp,g,d,tk',os⟩:Ad).TypeIs (.ref a) "list" := fun _=>⟨_,hx,rfl⟩
 have f1:=sub_AttributeError;have f3:=Iv.lookup;have f4:=Iv.bind (.ref a);have f5:=am_list_getattr_none;repeat (any_goals (first|assumption|exact hT _|((with_reducible show wpAny _ _ (call (Value.builtin "list.__getattribute__") _ _) _ _ _);refine Kc Iv (hT _) am_entry_list_getattribute (F.args_list_getattribute_2 _ _) (meets_getattribute_miss_list a xs k #[] "keys" _ q5u (by decide +kernel) (by decide +kernel)) ⟨hx,hA,fun h' tk' e hx'=>?_⟩)|wp_step))
 obtain⟨t',u',he⟩:=hx'.there;show wpAny _ _ (getattributeRaised _ _ _ _ _ _ _) _ _ _;repeat (any_goals (first|assumption|wp_step))
 exact h _ _ hx'.keeps
end
theorem plain_upd:plainId "dict.update.loop" = true:=by decide +kernel
theorem entry_upd:Rk table "dict.update.loop" = some Bx.«dict.update.loop» := entryFor_of_fast (by kernel_rfl)
end PySem.Rv
namespace L2
open PySem PySem.Spec PyProof.Rows SB TX
def putR(acc:List (List Key×V))(r:HRow):List (List Key×V):=putK acc (kP r.1) r.2
theorem z0i:∀(rows:List HRow) (acc:List (List Key×V)),(rows.foldl putR acc).length<=acc.length+rows.length
 |[],acc=>Ai _
 |r::rows,acc=>by
  have h1:=z0i rows (putR acc r);have h2:=q1u acc (kP r.1) r.2;rw[Rt,Bl];unfold putR at h1 ⊢;lia
section
variable{X:Cx}{pins:List (Addr×Obj)}{σ:St}
theorem q6u(I:Inv X pins σ H s)(h:H L=some (.lst xs)):∃its,Vals xs its/\s.heap.IsList L its.toArray:=by
 obtain⟨z,its,n,r,e⟩:=I.hok L _ h;exact⟨its,r,_,e,rfl,n,rfl⟩
theorem z3y(hh:A.handled=none)(hu:A.units+3<cLine)(few:rows.length<sizeLine):∀(k i:Nat) (H:Hp) (s:Ad),rows.length-i=k->i<=rows.length->Inv X pins σ H s->H L=some (.lst (as.map V.ref))->PRs H as rows ->
  H D=some (.dT ((rows.take i).foldl putR []))->s.heap.IsListIter it L i->FpOk X pins H it->(∀H' s',Inv X pins σ H' s'->H' D=some (.dT (rows.foldl putR []))->(∀b,b≠D->H' b=H b)->R (.ok (.ret .none)) s') ->
  Er (model X.prog X.w) A (.builtin "dict.update.loop" ⟨[.ref D,.ref it,Hu i,.none],[]⟩) R s:=by
 intro k;induction k with
 |zero =>
  intro i H s hk hi I hL hp hD hit hf hR;have ei:i=rows.length:=by lia
  subst ei;rw[Bh] at hD;obtain⟨its,rv,hl⟩:=q6u I hL;have hlen:its.length=rows.length:=by rw[<- rv.length,Ac];exact Cd hp
  refine Cw PySem.Rv.entry_upd ?_;rw[Cg PySem.Rv.plain_upd _];refine Aa (Nk hh hit hl (by simp[hlen]) fun h' eb=>?_);exact Aa (Ab (Ab (hR H _ (I.turned (t':=s.toks) (fun b o hb e=>eb b o hb e) hf.1 hf.2.1 hf.2.2.2.1 hf.2.2.2.2.1 hf.2.2.2.2.2) hD fun _ _=>rfl)))
 |succ k ih =>
  intro i H s hk hi I hL hp hD hit hf hR;obtain⟨its,rv,hl⟩:=q6u I hL;have hil:i<rows.length:=by lia
  obtain⟨a,ha⟩:∃a,as[i]?=some a:=⟨as[i]'(by rw[Cd hp];exact hil),by simp[Cd hp,hil]⟩
  obtain⟨r,hr,b,hpa,hpb⟩:=Bu.at' hp ha;obtain⟨u,hu1,hu2⟩:=rv.get (by rw[Ao,ha];rfl);cases hu2;refine Cw PySem.Rv.entry_upd ?_;rw[Cg PySem.Rv.plain_upd _];refine Aa (Mw hit hl (by simpa using hu1) fun h' hit' sb=>?_);have I1:Inv X pins σ H { s with heap:=h' }:=I.turned (t':=s.toks) (fun b o hb e=>(sb.2 b hb).trans e) hf.1 hf.2.1 hf.2.2.2.1 hf.2.2.2.2.1 hf.2.2.2.2.2;obtain⟨z,pits,pr,o,po,pc,pn,pd⟩:=I1.hok a _ hpa;obtain⟨u1,u2,e12,r1,r2⟩:=pr.two;subst e12;cases r1;refine Aa (Br ?_);refine Aa (wpAny_tryCatch ?_);refine Aa (Eu ⟨o,po,pc⟩ ?_);refine Aa (wpAny_seqItems po pd (Ab ?_));have elen:((rows.take i).foldl putR []).length<sizeLine:=by
   have h1:=z0i (rows.take i) [];rw[Cj] at h1;have h2:([]:List (List Key×V)).length=0:=rfl;lia
  refine Br (d_set (by show A.units+1+1<cLine;lia) I1 hD (by rw[q2b];exact hpb) elen r2 fun s' I' kp=>?_);refine Ab ⟨Fi PySem.Rv.plain_upd _,?_⟩;have hLD:L≠D:=fun z=>by rw[z,hD] at hL;cases hL
  have hitD:it≠D:=fun z=>by have y:=hf.1;rw[z,hD] at y;cases y
  have hnt:∀{T:Addr} {xs:List V},H T=some (.tup xs)->T≠D:=fun{T xs} e z=>by rw[z,hD] at e;cases e
  have et:(rows.take (i+1)).foldl putR []=putK ((rows.take i).foldl putR []) (kP r.1) r.2:=by
   rw[Nv,hr];rw[List.foldl_append];rfl
  have hit2:=hit'.at fun o e=>kp _ _ hitD e;refine ih (i+1) _ s' (by lia) hil I' (by rw[q0c hLD];exact hL) (Bu.imp' (fun a r ⟨b,h1,h2⟩=>⟨b,by rw[q0c (hnt h1)];exact h1,by rw[q0c (hnt h2)];exact h2⟩) hp) (by rw[q0b,et]) hit2 ⟨by rw[q0c hitD];exact hf.1,hf.2⟩ fun H' s'' J j1 j2=>?_;exact hR H' s'' J j1 fun b hb=>by rw[j2 b hb,q0c hb]
end
def rDictL:List V->Hp->VK->Prop:=fun vs H Q=>∃L as rows,vs=[.ref L]/\H L=some (.lst (as.map V.ref))/\PRs H as rows/\rows.length<1000/\∀D,H D=none->Q (.ref D) (upd H D (.dT (rows.foldl putR [])))
theorem z1x(hr:Room k X.A):CallR X (.type "dict") rDictL:=by
 intro pins s σ H xs us Q I rv h;obtain⟨L,as,rows,rfl,hL,hp,few,q⟩:=h;obtain⟨u,rfl,ru⟩:=rv.one;cases ru;have hu:=hr.un;have hh:=hr.hd;refine callType_codes (Q₁:=fun obj s₁=>obj=.ref s.heap.objs.size/\s₁={ s with heap:=s.heap.push { cls:=.type "dict",data:=.dict #[] } }) F.kt_called_dict (F.kt_typeCall_dict_1 _) F.entry_dict_init (kt_code_dict_new _ ⟨rfl,rfl⟩) fun obj s₁ h₁=>?_;obtain⟨rfl,rfl⟩:=h₁;have hDf:=I.fresh;have I1:Inv X pins σ (upd H s.heap.objs.size (.dT [])) { s with heap:=s.heap.push { cls:=.type "dict",data:=.dict #[] } }:=I.laid (t':=s.toks) (fun _ _ e=>Ae _ e) (Ai _) (q6s s.heap I.big);have hD1:(s.heap.push { cls:=.type "dict",data:=.dict #[] }).get? s.heap.objs.size=some { cls:=.type "dict",data:=.dict #[] }:=Al _ rfl;have hLD:=q0h hL hDf;have hL1:upd H s.heap.objs.size (.dT []) L=some (.lst (as.map V.ref)):=by rw[q0c hLD];exact hL
 have sm:=(Same.refl H).new (o:=.dT []) hDf;have hp1:PRs (upd H s.heap.objs.size (.dT [])) as rows:=Bu.imp' (fun a r ⟨b,h1,h2⟩=>⟨b,sm _ _ h1,sm _ _ h2⟩) hp;obtain⟨z,its,n,r1,e1⟩:=I1.hok L _ hL1;refine⟨⟨_,hD1,rfl⟩,F.args_dict_init_2 _ _,?_⟩;refine Aa ?_;unfold Bx.Dict.selfAndRest;refine Aa (Fe ⟨_,hD1,rfl⟩ ?_);show wpAny _ _ (pure (s.heap.objs.size,[Value.ref L])) _ _ _;refine Ab ?_;refine Aa (Eu ⟨_,e1,rfl⟩ ?_);refine Aa (PySem.Rv.no_keys e1 hh fun h' tk kp=>?_);have I2:=I1.kept (t':=tk) kp;refine Aa (Hq ?_);have e2:=kp _ _ e1;refine Aa (Lj ⟨_,e2,rfl,n,rfl⟩ ?_);have hsz:=Aj (kp _ _ hD1);have I3:Inv X pins σ (upd H s.heap.objs.size (.dT [])) { s with heap:=h'.push { cls:=.type "list_iterator",data:=.fields #[.ref L,.int 0 0] },toks:=tk }:=I2.kept (t':=tk) fun _ _ e=>Ae _ e;refine Ab ⟨Fi PySem.Rv.plain_upd _,?_⟩;refine z3y (A:=X.A.in1) hh (by show X.A.units+1+3<cLine;lia) (TX.small' (by lia)) rows.length 0 _ _ (by lia) (Bv _) I3 hL1 hp1 q0b ⟨_,Al _ rfl,rfl,rfl⟩ ?_ fun H' s' J j1 j2=>?_
 ·exact I2.fpOk (Ai _) (by rw[q0c (Dv hsz)];exact I.hok.fresh (Ft hsz))
 ·have eH:H'=upd H s.heap.objs.size (.dT (rows.foldl putR [])):=by
   funext b;by_cases hb:b=s.heap.objs.size
   ·rw[hb,j1,q0b]
   ·rw[j2 b hb,q0c hb,q0c hb]
  rw[eH] at J;exact⟨rfl,.ref s.heap.objs.size,_,J,rfl,q _ hDf⟩
open PySem PySem.Spec PyProof.Rows
structure Mf (K:Af) (C:Addr) (m qual:Str) (st:Stmt) (ps:List Str):Prop where
 ex:∃f fd,Fun K m qual st f fd/\Meth K C m f/\Binds K fd ps []
structure MCal (P:Program) (w:World) (K:Af) (mg:Str->Option Value) (base:Heap) (C:Addr) (m:Str) (k:Nat) (ps:List Str) (sp:Sp):Prop where
 ex:∃f fd,FnOk P w K mg base CX0 k f fd ps sp/\Meth K C m f/\Binds K fd ps []
 cl:Cls K C
theorem Mf.cal{K:Af}{st:Stmt}(D:Mf K C m qual st ps)(cl:Cls K C)(S:FnScope N ps (defScope st))(len:∀vs H Q E,sp vs H Q E->vs.length=ps.length)(hbody:∀(f:Addr) (cdv:Value) (A:Around) (outer:List Env) (s:Ad) (H:Hp) (vs:List V) (Q:VK) (E:XK),Room k (A.deeper (Il qual (defScope st) s.heap.objs.size f cdv))->sp vs H Q E ->
   ∃t,PSs (cxOf CX0 P w K mg base N qual (defScope st) f cdv A outer s H E).nox (defBody st) t/\t { nx:=fun _ H'=>Q .non H',rt:=Q } (start N vs) H):MCal P w K mg base C m (k+1) ps sp:=by
 obtain⟨f,fd,F,hm,hb⟩:=D.ex;exact⟨⟨f,fd,F.ok S len fun cdv A outer s H vs Q E hr h=>hbody f cdv A outer s H vs Q E hr h,hm,hb⟩,cl⟩
theorem MCal.imp{K:Af}(M:MCal P w K mg base C m k ps sp)(h:∀vs H Q E,sp' vs H Q E->sp vs H Q E):MCal P w K mg base C m k ps sp':=by
 obtain⟨f,fd,F,r⟩:=M.ex;exact⟨⟨f,fd,F.imp h,r⟩,M.cl⟩
section
variable{X:Cx}{C:Addr}{x m:Str}{k j:Nat}{ps:List Str}{sp:Sp}{p pos apos:Pos}{o e:Expr}{es:List Expr}{ta:TE}{t:TA}
theorem pe_m{pl:Sem Bool}(M:MCal X.prog X.w X.K X.mg X.base C m k ps sp)(hr:Room j X.A)(he:PE X o ta)(ha:PA X (e::es) t)(hjk:k<=j:=by decide)(hst:Bc (e::es) X.env=(false,eval e X.env)::Bc es X.env:=by rfl)(hpl:(Du pos (Bc es X.env)).any (·.1)=false:=by rfl)(ht:eval (.Call (.Attribute o m apos) (e::es) [] pos) X.env=(do
   let ov<-eval o X.env
   Lu apos.atName
   let (f,first)<-Ja [ov] (Kx ov m pl)
   Qy pos f first (Du pos (Bc (e::es) X.env)) (Jr pos (Gn [] X.env))):=by rfl):PE X (.Call (.Attribute o m apos) (e::es) [] pos) (tMeth C m sp [] E0 ta t):=by
 obtain⟨f,fd,F,hm,hb⟩:=M.ex;exact z8l he M.cl hm F (hr.mono hjk) hb .nil pass0 ha hst hpl ht
theorem z6p{pl:Sem Bool}(M:MCal X.prog X.w X.K X.mg X.base C m k ps sp)(hr:Room j X.A)(he:PE X o ta)(hjk:k<=j:=by decide)(ht:eval (.Call (.Attribute o m apos) [] [] pos) X.env=(do
   let ov<-eval o X.env
   Lu apos.atName
   let (f,first)<-Ja [ov] (Kx ov m pl)
   Qy pos f first (Du pos (Bc [] X.env)) (Jr pos (Gn [] X.env))):=by rfl):PE X (.Call (.Attribute o m apos) [] [] pos) (tMeth C m sp [] E0 ta tNil):=by
 obtain⟨f,fd,F,hm,hb⟩:=M.ex;exact z5q he M.cl hm F (hr.mono hjk) hb .nil pass0 ht
end
structure Kf (K:Af) (mg:Str->Option Value) (C:Addr) (x qual:Str) (st:Stmt) (ps:List Str):Prop where
 ex:∃(f:Addr) (fd:Jq) (oc:Value) (od:Option Addr) (dV kV doc pm:Value) (an:Option Addr) (cdv ct:Value) (osl:Array (Option Value)),fd=Gy "__init__" qual (defArgs st) (defBody st) (defScope st) dV kV doc pm an cdv ct /\
  K.lookup f=some ⟨oc,od,.func fd,osl⟩/\Js K cdv qual=true/\Mk K C f/\Binds K fd ps []/\Binds K fd ps [.bool false]
 at_:mg x=some (.ref C)
 cl:Cls K C
structure KCal (P:Program) (w:World) (K:Af) (mg:Str->Option Value) (base:Heap) (C:Addr) (x:Str) (k:Nat) (ps:List Str) (sp:Sp):Prop where
 ex:∃f fd,FnOk P w K mg base CX0 k f fd ps sp/\Mk K C f/\Binds K fd ps []/\Binds K fd ps [.bool false]
 at_:mg x=some (.ref C)
 cl:Cls K C
theorem Kf.cal{K:Af}{st:Stmt}(D:Kf K mg C x qual st ps)(S:FnScope N ps (defScope st))(len:∀vs H Q E,sp vs H Q E->vs.length=ps.length)(hbody:∀(f:Addr) (cdv:Value) (A:Around) (outer:List Env) (s:Ad) (H:Hp) (vs:List V) (Q:VK) (E:XK),Room k (A.deeper (Il qual (defScope st) s.heap.objs.size f cdv))->sp vs H Q E ->
   ∃t,PSs (cxOf CX0 P w K mg base N qual (defScope st) f cdv A outer s H E).nox (defBody st) t/\t { nx:=fun _ H'=>Q .non H',rt:=Q } (start N vs) H):KCal P w K mg base C x (k+1) ps sp:=by
 obtain⟨f,fd,oc,od,dV,kV,doc,pm,an,cdv,ct,osl,rfl,lk,hcd,M,b1,b2⟩:=D.ex;refine⟨⟨f,_,fn_of lk hcd S len fun A outer s H vs Q E hr hsp=>?_,M,b1,b2⟩,D.at_,D.cl⟩;obtain⟨t,h,q⟩:=hbody f cdv A outer s H vs Q E hr hsp;exact⟨t,h.nox,q⟩
section
variable{X:Cx}{C:Addr}{x:Str}{k j:Nat}{ps:List Str}{sp:Sp}{p pos:Pos}{e:Expr}{es:List Expr}{t:TA}
theorem pe_k(M:KCal X.prog X.w X.K X.mg X.base C x k ps sp)(hr:Room j X.A)(ha:PA X (e::es) t)(hjk:k+1<=j:=by decide)(hg:Gl X x:=by rfl)(hdb:(x==("__debug__" : Str))=false:=by decide)(he:Bc (e::es) X.env=(false,eval e X.env)::Bc es X.env:=by rfl)(hpl:(Du pos (Bc es X.env)).any (·.1)=false:=by rfl):PE X (.Call (.Name x p) (e::es) [] pos) (tMake C sp [] E0 t):=by
 obtain⟨f,fd,F,m,b1,_⟩:=M.ex;exact z8m m F (hr.mono hjk) hg M.at_ b1 .nil pass0 ha hdb he hpl
end
theorem q8m{K:Pm}{g:TG}{tb:TS}{D:Ends}(Pv:Nat->St->Hp->Prop)(h0:Pv 0 σ H)(hl:∀i σ H,Pv i σ H->SqL K H a xs)(hs:∀i x T σ H,xs[i]?=some x->Pv i σ H->H T=none->g (.ref T) σ (upd H T (.tup [.int i,x])) fun σ2 H2=>tb { D with nx:=Pv (i+1),ct:=Pv (i+1),bk:=D.nx } σ2 H2)(hd:∀σ H,Pv xs.length σ H->D.nx σ H):
  ∃W:Nat->Nat->St->Hp->Prop,(∃m,W 0 m σ H)/\∀i m σ H,W i m σ H ->
   ((Ite (Itl K a)).stop i H/\D.nx σ H)\/((Ite (Itl K a)).go i H/\∃N:St->Hp->Prop,(∀σ' H',N σ' H'->∃m',m'<m/\W (i+1) m' σ' H')/\∀v H',(Ite (Itl K a)).yld i H v H'->g v σ H' fun σ2 H2=>tb { D with nx:=N,ct:=N,bk:=D.nx } σ2 H2):=by
 refine z7s Pv h0 (fun i σ H h p=>⟨xs,xs[i],hl i σ H p,by simp[h]⟩) (fun σ H p=>⟨xs,hl _ σ H p,Ai _⟩) (fun i v σ H H' h p yl=>?_) hd;obtain⟨T,y,hT,⟨_,hy⟩,rfl,rfl⟩:=yl;exact hs i y T σ H (hy xs (hl i σ H p)) p hT
open PySem PySem.Spec PyProof.Rows
def rCatP:R2:=fun x y H Q=>∃a b xs ys,x=.ref a/\y=.ref b/\H a=some (.tup xs)/\H b=some (.tup ys)/\xs.length+ys.length<=sizeLine/\∀p H',Same H H'->H' p=some (.tup (xs++ys))->(∀c,c≠p->H' c=H c)->Q (.ref p) H'
theorem q3y:OpR X (Ep .Add) rCatP:=by
 intro pins s σ H x y v u Q I rx ry h;obtain⟨a,b,xs,ys,rfl,rfl,ha,hb,hz,q⟩:=h;cases rx;cases ry;obtain⟨za,its,r1,p1⟩:=I.hok a _ ha;obtain⟨zb,its2,r2,p2⟩:=I.hok b _ hb;by_cases hx:its=[]
 ·have hx':xs=[]:=r1.nil_iff.mp hx;obtain⟨⟨cls,dd,data,sl⟩,ho,hc,n,hd⟩:=id p1;obtain⟨⟨cls2,dd2,data2,sl2⟩,ho2,hc2,n2,hd2⟩:=id p2;subst hc hd hc2 hd2;refine Pq ⟨_,ho,rfl⟩ ⟨_,ho2,rfl⟩ Mb Pa Jl Jc (Im _ _) (tuple_addW0 a b its.toArray its2.toArray n n2 dd dd2 sl sl2 (by simp[hx])) ⟨ho,ho2,?_⟩;exact⟨.ref b,H,I,rfl,q b H (Same.refl H) (by rw[hx',Sb];exact hb) fun _ _=>rfl⟩
 ·refine HT.cat_tup p1 p2 hx (fun z=>?_) (fun z=>?_) (by rw[<- r1.length,<- r2.length];exact hz)
  ·have hy:ys=[]:=r2.nil_iff.mp z;exact⟨.ref a,H,I,rfl,q a H (Same.refl H) (by rw[hy,Cq];exact ha) fun _ _=>rfl⟩
  ·refine⟨.ref s.heap.objs.size,_,I.laid (t':=s.toks) (fun b ob q=>Ae _ q) (Ai _) ?_,rfl,q _ _ ((Same.refl H).new I.fresh) q0b fun c hc=>q0c hc⟩;exact⟨by rw[An];exact hz,_,r1.append r2,IsTup.new _ _⟩
theorem q3z{X:Cx}{e:Expr}{f:Str}{pos:Pos}{ta:TE}(K:Af)(hK:X.K=K)(he:PE X e ta)(hb:Em e f X.env (eval e X.env)=eval e X.env:=by rfl):PE X (.Attribute e f pos) (tFld K ta f):=by subst hK;exact pe_fld he hb
theorem z3z{X:Cx}{o value:Expr}{f:Str}{pos pos':Pos}{ta tv:TE}(K:Af)(hK:X.K=K)(ha:PE X o ta)(hv:PE X value tv)(hs:Kv value (some (.Attribute o f pos')) pos.line X.env=pure false:=by rfl):PS X (.Assign [.Attribute o f pos'] value pos) (sFld K ta tv f):=by subst hK;exact ps_fld ha hv hs
end L2
namespace HM
open PySem PySem.Spec PyProof.Rows L2 TX SB
def NSs:Str:=Am "abcdefghijklmnopqrstuvwxyzABCDEFGHIJKLMNOPQRSTUVWXYZ0123456789-_."
abbrev NS:List Nat:=tl NSs
theorem ns_low:∀c∈NS,c<128:=by decide +kernel
structure okN (n:List Nat):Prop where
 one:1<=n.length
 few:n.length<=12
 all:∀c∈n,c∈NS
theorem okN.low(h:okN n):∀c∈n,c<128:=fun c hc=>ns_low c (h.all c hc)
structure okP (p:Pth):Prop where
 ne:p≠[]
 few:p.length<=6
 all:∀n∈p,okN n
theorem okP.low(h:okP p):Low p:=fun n hn=>(h.all n hn).low
abbrev Rw:=Pth×Option Int
def mV:Option Int->V
 |none=>.non
 |some i=>.int i
def rR(r:Rw):HRow:=(r.1,mV r.2)
theorem mV_inj(h:mV a=mV b):a=b:=by
 cases a with
 |none=>cases b with
  |none=>rfl
  |some j=>cases h
 |some i=>cases b with
  |none=>cases h
  |some j=>cases h;rfl
theorem mV_none:mV a=.non↔a=none:=⟨fun h=>mV_inj (b:=none) h,fun h=>by rw[h];rfl⟩
def lowN(n:List Nat):List Nat:=n.map lo1
def fold(bl:Bool)(p:Pth):Pth:=if bl then p.dropLast++[lowN (p.getLastD [])] else p
theorem z7y(p:Pth):fold false p=p:=rfl
theorem q5m(p:Pth):fold true p=p.dropLast++[lowN (p.getLastD [])]:=rfl
theorem q3h{p:Pth}(h:p≠[]):p=p.dropLast++[p.getLastD []]:=by
 have e:=He h;have e2:p.getLastD []=p.getLast h:=by rw[Cy,Dd h];rfl
 rw[e2];exact e.symm
theorem q9p{p q:Pth}(hp:p≠[])(hq:q≠[]):fold bl p=fold bl q↔p.dropLast=q.dropLast/\(if bl then lowN (p.getLastD [])=lowN (q.getLastD []) else p.getLastD []=q.getLastD []):=by
 cases bl with
 |true =>
  rw[q5m,q5m];constructor
  ·simp_all
  ·simp_all
 |false =>
  rw[z7y,z7y];constructor
  ·grind
  ·rintro⟨h1,h2⟩;rw[q3h hp,q3h hq,h1,h2]
structure Hl (bl:Bool) (rows:List Rw):Prop where
 ok:∀r∈rows,okP r.1
 nd:(rows.map fun r=>fold bl r.1).Nodup
 dr:∀r∈rows,r.1.dropLast=[]\/(r.1.dropLast,none)∈rows
theorem Hl.perm(h:Hl bl rows)(p:rows'.Perm rows):Hl bl rows' :=
 ⟨fun r hr=>h.ok r (p.mem_iff.mp hr),(p.map _).nodup_iff.mpr h.nd,fun r hr=>(h.dr r (p.mem_iff.mp hr)).imp id fun z=>p.mem_iff.mpr z⟩
theorem Hl.nil(bl:Bool):Hl bl []:=⟨(fun _ h=>nomatch h),.nil,(fun _ h=>nomatch h)⟩
theorem q1y{α β:Type}{f:α->β}:∀{l:List α},(l.map f).Nodup->l.Nodup
 |[],_=>.nil
 |a::l,h=>by
  rw[Ak,Cf] at h;exact Cf.mpr ⟨fun z=>h.1 (Ag.mpr ⟨a,z,rfl⟩),q1y h.2⟩
theorem Hl.paths(h:Hl bl rows):(rows.map (·.1)).Nodup:=by
 have e:rows.map (fun r=>fold bl r.1)=(rows.map (·.1)).map (fold bl):=by simp_all
 have:=h.nd;rw[e] at this;exact q1y this
abbrev Zr:=Addr×Rw
structure RL (H:Hp) (L:Addr) (zs:List Zr):Prop where
 at_:H L=some (.lst (zs.map fun z=>V.ref z.1))
 pr:∀z∈zs,PR H z.1 (rR z.2)
theorem PR.same(h:PR H a r)(k:∀T xs,H T=some (.tup xs)->H' T=some (.tup xs)):PR H' a r:=let ⟨b,h1,h2⟩:=h;⟨b,k _ _ h1,k _ _ h2⟩
theorem RL.same(h:RL H L zs)(s:Same H H'):RL H' L zs:=⟨s _ _ h.at_,fun z hz=>PR.same (h.pr z hz) fun T xs e=>s _ _ e⟩
theorem tupFd(F:FeedAt H a b)(fd:Fd a b H H'):∀T xs,H T=some (.tup xs)->H' T=some (.tup xs):=fun T xs e=>fd.at e fun z=>by
 subst z;obtain⟨i,j,q⟩:=F.fa;rw[q] at e;cases e
theorem RL.fd(h:RL H L zs)(F:FeedAt H a b)(fd:Fd a b H H')(hL:L≠a):RL H' L zs:=⟨fd.at h.at_ hL,fun z hz=>PR.same (h.pr z hz) (tupFd F fd)⟩
theorem prs_zs{zs:List Zr}(h:∀z∈zs,PR H z.1 (rR z.2)):PRs H (zs.map (·.1)) (zs.map fun z=>rR z.2):=z3x h
theorem zs_of:∀{as:List Addr} {rs:List HRow} {rows:List Rw},PRs H as rs->rs=rows.map rR->∃zs:List Zr,zs.map (·.1)=as/\zs.map (·.2)=rows/\∀z∈zs,PR H z.1 (rR z.2)
 |_,_,[],.nil,_=>⟨[],rfl,rfl,(fun _ h=>nomatch h)⟩
 |_,_,_::_,.nil,e=>by cases e
 |_,_,[],.cons _ _,e=>by cases e
 |a::as,_,r::rows,.cons h t,e=>by
  rw[Ak] at e;injection e with e1 e2;obtain⟨zs,z1,z2,z3⟩:=zs_of t e2;refine⟨(a,r)::zs,by rw[Ak,z1],by rw[Ak,z2],fun z hz=>?_⟩;rcases Bb.mp hz with rfl|hz
  ·rw[<- e1];exact h
  ·exact z3 z hz
theorem q5n:∀{l m:List Pth},l.Perm m->l.Nodup->l.Pairwise (fun a b=>pLt b a=false)->m.Pairwise (fun a b=>pLt b a=false)->l=m
 |[],m,p,_,_,_=>(List.perm_nil.mp p.symm).symm
 |a::l,[],p,_,_,_=>absurd (p.length_eq) (by simp)
 |a::l,b::m,p,nd,h1,h2=>by
  obtain⟨n1,n2⟩:=Cf.mp nd;obtain⟨a1,a2⟩:=Ex.mp h1;obtain⟨b1,b2⟩:=Ex.mp h2;have e:a=b:=by
   have ha:=p.mem_iff.mp Ap;have hb:=p.mem_iff.mpr Ap;rcases Bb.mp ha with e|ha
   ·exact e
   ·rcases Bb.mp hb with e|hb
    ·exact e.symm
    ·exact q9m (b1 a ha) (a1 b hb)
  subst e;rw[q5n ((List.perm_cons a).mp p) n2 a2 b2]
def dMk:Option Int->PyData
 |none=>.none
 |some i=>.int i
def dRw(r:Rw):PyData:=.tuple [.tuple (dP r.1),dMk r.2]
theorem z9b{K:Af}(m:Option Int):Dt K H (mV m) (dMk m):=by
 cases m with
 |none=>exact .non
 |some i=>exact .int i
theorem z0j{K:Af}{H:Hp}:∀p:Pth,Dts K H (vP p) (dP p)
 |[]=>.nil
 |n::p=>.cons (.str _) (z0j p)
theorem q2n{K:Af}(h:H a=some (.tup (vP p))):Dt K H (.ref a) (.tuple (dP p)):=.tup (SqT.of h) (z0j p)
theorem dt_row{K:Af}(h:PR H a (rR r)):Dt K H (.ref a) (dRw r):=by
 obtain⟨b,h1,h2⟩:=h;exact .tup (SqT.of h1) (.cons (q2n h2) (.cons (z9b _) .nil))
theorem z0k{K:Af}{H:Hp}:∀{zs:List Zr},(∀z∈zs,PR H z.1 (rR z.2))->Dts K H (zs.map fun z=>V.ref z.1) (zs.map fun z=>dRw z.2)
 |[],_=>.nil
 |z::zs,h=>.cons (dt_row (h z Ap)) (z0k fun x hx=>h x (Ah _ hx))
theorem RL.dt{K:Af}(h:RL H L zs):Dt K H (.ref L) (.list (zs.map fun z=>dRw z.2)):=.lst (SqL.of h.at_) (z0k h.pr)
theorem z9c(m:Option Int):(dMk m).canLay0=true:=by cases m<;>simp[dMk,Ef]
theorem q4a(h:Low p):(PyData.tuple (dP p)).canLay0=true:=by simp only[Hs,q6e h]
theorem z9d(h:Low r.1):(dRw r).canLay0=true:=by
 have:=q4a h;simp only[dRw,Ef,Bs] at this ⊢;rw[this,z9c];rfl
theorem z0l:∀{rows:List Rw},(∀r∈rows,Low r.1)->Bs (rows.map dRw)=true
 |[],_=>by simp[Bs]
 |r::rows,h=>by
  simp only[Ak,Bs];rw[z9d (h r Ap),z0l fun x hx=>h x (Ah _ hx)];rfl
theorem z0m{rows:List Rw}(h:∀r∈rows,Low r.1):(PyData.list (rows.map dRw)).canLay0=true:=by simp only[Ef];exact z0l h
theorem z4a(m:Option Int):(dMk m).depth<=1:=by cases m<;>simp[dMk,Hf]
theorem q5o(p:Pth):(PyData.tuple (dP p)).depth<=2:=by
 have h1:(PyData.tuple (dP p)).depth=Ee (dP p)+1:=by simp only[Kz]
 have:=q3p p;lia
theorem z4b(r:Rw):(dRw r).depth<=3:=by
 have h1:=q5o r.1;have h2:=z4a r.2;have e:(dRw r).depth=max (PyData.tuple (dP r.1)).depth (max (dMk r.2).depth 0)+1:=by simp only[dRw,Hf,Cz]
 lia
theorem q6g:∀rows:List Rw,Cz (rows.map dRw)<=3
 |[]=>by simp[Cz]
 |r::rows=>by
  have h1:=z4b r;have h2:=q6g rows;simp only[Ak,Cz];lia
theorem z0n(rows:List Rw):(PyData.list (rows.map dRw)).depth<=100:=by
 have:=q6g rows;simp only[Hf];lia
theorem q8n(p q:Pth):Dz (.tuple (dP p)) (.tuple (dP q))=decide (p=q):=by simp only[Dz,q5k]
theorem eqv_no(rows:List Rw):Dz (.list (rows.map dRw)) (.list [])=decide (rows=[]):=by
 cases rows with
 |nil=>simp[Dz,Fh]
 |cons p r=>simp[Dz,Fh]
theorem q3q(zs:List Zr):zs.map (fun z=>dRw z.2)=(zs.map (·.2)).map dRw:=by rw[Ba];rfl
theorem q2e{K:Af}(ha:H a=some (.tup (vP p)))(hb:H b=some (.tup (vP q)))(lp:Low p)(lq:Low q)(k:Q (.bl (!decide (p=q))) H):rNeU K (.ref a) (.ref b) H Q:=by
 refine .inr ⟨_,_,q2n ha,q2n hb,q4a lp,q4a lq,by have:=q5o p;lia,?_⟩;rw[q8n];exact k
theorem z9e{K:Af}(ha:RL H a zs)(hb:RL H b zs')(e:zs.map (·.2)=zs'.map (·.2))(l:∀r∈zs.map (·.2),Low r.1)(k:Q (.bl false) H):rNeU K (.ref a) (.ref b) H Q:=by
 refine .inr ⟨_,_,ha.dt,hb.dt,?_,?_,?_,?_⟩
 ·rw[q3q];exact z0m l
 ·rw[q3q,<- e];exact z0m l
 ·rw[q3q,q3q];have:=z0n (zs.map (·.2));lia
 ·rw[q3q,q3q,<- e,SeqAt.eqv_refl _ (z0m l)];exact k
theorem ne_no{K:Af}(ha:RL H a zs)(hb:H b=some (.lst []))(l:∀r∈zs.map (·.2),Low r.1)(k:Q (.bl (!decide (zs=[]))) H):rNeU K (.ref a) (.ref b) H Q:=by
 refine .inr ⟨_,_,ha.dt,.lst (SqL.of hb) .nil,?_,by simp[Ef,Bs],?_,?_⟩
 ·rw[q3q];exact z0m l
 ·rw[q3q];have:=z0n (zs.map (·.2));lia
 ·rw[q3q,eqv_no];have:decide (zs.map (·.2)=[])=decide (zs=[]):=decide_eq_decide.mpr Pk;rw[this];exact k
end HM
namespace L2
open PySem PySem.Spec PyProof.Rows SB
abbrev Zp:=Addr×Pth
def rSortL:List V->Hp->VK->Prop:=fun vs H Q=>∃l,∃zs:List Zp,vs=[.ref l]/\H l=some (.lst (zs.map fun z=>V.ref z.1))/\zs.length<64/\(∀z∈zs,H z.1=some (.tup (vP z.2))/\z.2≠[]) /\
 ∀(L:Addr) (zs':List Zp),H L=none->zs'.Perm zs->(zs'.map (·.2)).Pairwise (fun a b=>pLt b a=false)->Q (.ref L) (upd H L (.lst (zs'.map fun z=>V.ref z.1)))
theorem z4c:∀{zs:List Zp} {us:List Value},Vals (zs.map fun z=>V.ref z.1) us->us=zs.map fun z=>Value.ref z.1
 |[],_,.nil=>rfl
 |z::zs,_,.cons r t=>by cases r;rw[z4c t];rfl
theorem q6h:∀(zs:List Zp),Vals (zs.map fun z=>V.ref z.1) (zs.map fun z=>Value.ref z.1)
 |[]=>.nil
 |z::zs=>.cons rfl (q6h zs)
theorem z1y(hr:Room k X.A):CallR X (.builtin "sorted") rSortL:=by
 intro pins s σ H xs us Q I rv h;obtain⟨l,zs,rfl,hl,few,hz,q⟩:=h;obtain⟨u,rfl,ru⟩:=rv.one;cases ru;obtain⟨its,rv2,hil⟩:=q6u I hl;have e1:=z4c rv2;subst e1;refine SB.sorted_ok fun{Q'} kk=>?_;refine PyProof.Rows.collect_list hil ?_;have kh:∀b o,s.heap.get? b=some o->((s.heap.push (Hv "list" #[] 0)).update s.heap.objs.size (Di (· ++ (zs.map fun z=>Value.ref z.1).toArray))).get? b=some o:=fun b o e=>by
  rw[(Ds ..).2 b (Au (Aj e))];exact Ae _ e
 have hz2:s.heap.objs.size<=((s.heap.push (Hv "list" #[] 0)).update s.heap.objs.size (Di (· ++ (zs.map fun z=>Value.ref z.1).toArray))).objs.size:=by simp_all
 generalize (s.heap.push (Hv "list" #[] 0)).update s.heap.objs.size (Di (· ++ (zs.map fun z=>Value.ref z.1).toArray))=h at kh hz2;have hpa:∀v∈zs.map (fun z=>Value.ref z.1),∃p∈zs.map (·.2),p≠[]/\PathAt h v p:=fun v hv=>by
  obtain⟨z,hzm,rfl⟩:=Ag.mp hv;exact⟨z.2,Ag.mpr ⟨_,hzm,rfl⟩,(hz z hzm).2,(I.path (hz z hzm).1).keep kh⟩
 refine kk (zs.map fun z=>Value.ref z.1) h s.toks _ _ _ (SB.ready_paths (by rw[Ac];exact few) hpa) fun h' out so kh' ⟨e,he⟩=>?_;obtain⟨zs',p1,p2⟩:=SB.perm_map_inv so.perm rfl;have hrise:=so.rise;rw[p2] at hrise;have hps:=SB.rise_paths (fun _ _ _ a b=>a.inj b) (fun z hzz=>by
  have hzm:=p1.mem_iff.mp hzz;exact⟨(I.path (hz z hzm).1).keep kh,Ag.mpr ⟨_,hzm,rfl⟩⟩) hrise
 have keep:=fun b o z=>kh' b o (kh b o z);have hfr:=I.hok.fresh hz2;refine⟨.ref h.objs.size,upd H h.objs.size (.lst (zs'.map fun z=>V.ref z.1)),I.laid (t':=s.toks) keep hz2 ⟨by rw[Ac,p1.length_eq,Cp];lia,_,e,q6h _,?_⟩,rfl,q _ zs' hfr p1 hps⟩;rw[he,<- p2]
def Itm(d:Addr)(ob:Obj)(kvs:List (List Key×V)):It :=
 ⟨fun i H=>H d=some (.frz ob (.dT kvs))/\i<kvs.length,fun i H x H'=>∃k v b T,kvs[i]?=some (k,v)/\H b=some (.tup (k.map kV))/\H T=none/\x=.ref T/\H'=upd H T (.tup [.ref b,v]),fun i H=>H d=some (.frz ob (.dT kvs))/\kvs.length<=i⟩
theorem z4d(ok:HOk P w H h)(hfz:H d=some (.frz ob (.dT kvs)))(hob:ob.data=.dict ens ep):
  h.get? d=some ob/\ens.size=kvs.length/\∀{i:Nat} {k:List Key} {v:V} (hlt:i<ens.size),kvs[i]?=some (k,v)->∃b,ens[i].key=.ref b/\H b=some (.tup (k.map kV))/\RelV v ens[i].val:=by
 obtain⟨hget,z,hsys,xs,hp,o,es,ep',h1,h2,h3,h4,h5⟩:=(show ObjOk P w H h d (.frz ob (.dT kvs)) from ok d _ hfz)
 rw[hget] at h1;cases h1;rw[hob] at h3;cases h3;have hl:=Cd hp;have hz:ens.size=xs.length:=by rw[<- Ca,h4,Ac]
 refine⟨hget,by lia,fun{i k v} hlt hk=>?_⟩;obtain⟨q,hq,e1,e2,e3⟩:=Bu.at' hp hk;have:ens.toList[i]?=some (Lm (Gf (mixKind P w)) q):=by simp_all
 rw[Ed,Bq hlt] at this;injection this with this;refine⟨q.2.1,?_,e2,?_⟩
 ·rw[this];rfl
 ·rw[this];exact e3
theorem q5v:Rk table "dict_itemiterator.__iter__" = some Bx.«dict_keyiterator.__iter__» := entryFor_alias (id' := "dict_keyiterator.__iter__") (by kernel_rfl) rfl (by decide +kernel) (by kernel_rfl)
theorem ers_map{α β:Type}(f:α->β):∀(l:List α) (k:Nat),(l.map f).eraseIdx k=(l.eraseIdx k).map f
 |[],_=>rfl
 |_::_,0=>rfl
 |a::l,k+1=>by show f a::(l.map f).eraseIdx k=f a::(l.eraseIdx k).map f;rw[ers_map f l k]
theorem q2o(x:PySem.Rv.ItemIt s.heap it d i n ep)(h:Q (.ref it) s):wpAny (model prog w) A (Ka (.ref it)) Q E s:=by
 refine Jh x.typeIs Km (Bj Km x.typeIs q5v ?_ (F.args_dict_itemiterator_iter_1 _));exact Ab ⟨_,rfl, "dict_itemiterator",_,x.typeIs,Cn.lookup,h⟩
theorem z1z{K:Af}(d it:Addr)(ob:Obj)(kvs:List (List Key×V))(ens:Array Kw)(ep:Nat)(hob:ob.data=.dict ens ep):
  Turn P w K tg (Itm d ob kvs) [it] it (fun i h=>PySem.Rv.ItemIt h it d i ens.size ep) where
 mem:=by simp
 obj:=fun i h st b hb=>by
  have e:b=it:=by grind
  subst e;obtain⟨f0,f1,ok,ov,e,_⟩:=st;exact⟨_,e,fun v z=>by cases z⟩
 keep:=fun i h h' st k=>st.keep fun o e=>k it (by simp) o e
 item:=by
  intro X hP hw hK hc i pins s σ H E I hf st hg;obtain⟨hfz,hi⟩:=hg;obtain⟨hget,hsz,hkey⟩:=z4d I.hok hfz hob;obtain⟨f0,f1,f2,f3,f4,f5⟩:=hf it (by simp);obtain⟨⟨k,v⟩,hkv⟩:∃p,kvs[i]?=some p:=⟨kvs[i],by simp[hi]⟩
  have hlt:i<ens.size:=by lia
  obtain⟨b,hb1,hb2,hb3⟩:=hkey hlt hkv;have ilt:=st.lt;refine PySem.Rv.items_item st hget hob hlt fun h' st' ht hn sb=>?_
  refine⟨_,rfl,PySem.Rv.items_go st' fun h2 st2 sb2=>?_⟩;have I1:Inv X pins σ H { s with heap:=h2 }:=I.turned (t':=s.toks) (fun b o hb e=>(sb2.2 b hb).trans (sb b o hb e)) f0 f1 f3 f4 f5;have FT:=I.fpOk (Ai _) I.fresh;have hT2:h2.get? s.heap.objs.size=some { cls:=.type "tuple",data:=.seq #[ens[i].key,ens[i].val] }:=(sb2.2 _ (Dv ilt)).trans ht;have I2:Inv X pins σ (upd H s.heap.objs.size (.tup [.ref b,v])) { s with heap:=h2 } :=
   I1.track I.sz FT ⟨by show 2<=sizeLine;decide,[ens[i].key,ens[i].val],.cons hb1 (.cons hb3 .nil),⟨_,hT2,rfl,_,rfl⟩⟩
  refine⟨.ref s.heap.objs.size,_,I2,rfl,⟨k,v,b,_,hkv,hb2,I.fresh,rfl,rfl⟩,st2,fun c hcc=>?_⟩;have e:c=it:=by grind
  subst e;rw[q0c (Au ilt)];exact f0
 done:=by
  intro X hP hw hK hc i pins s σ H E I hf st hg;obtain⟨hfz,hi⟩:=hg;obtain⟨hget,hsz,hkey⟩:=z4d I.hok hfz hob;obtain⟨f0,f1,f2,f3,f4,f5⟩:=hf it (by simp);exact PySem.Rv.items_end (I.ok.hd hc) st hget hob (by lia) fun h' eb=>⟨rfl,I.turned (t':=s.toks) (fun b o hb e=>eb b o hb e) f0 f1 f3 f4 f5⟩
 self:=fun _ _ _ _ _ st h=>q2o st h
section
variable{X:Cx}{tg l:Expr}{tl:TE}
def iItemsT(tl:TE):TI:=fun σ H R=>tl σ H fun x H1=>∃v d kvs,x=.ref v/\H1 v=some (vwO v d)/\H1 d=some (.dT kvs)/\∀ob,R (Itm d ob kvs) (upd H1 d (.frz ob (.dT kvs)))
theorem z4e(hl:PE X l tl):PI X tg l (iItemsT tl):=by
 intro pins s σ H R I h;refine thn (hl pins s σ H _ I h) fun v s1 ⟨x,H1,I1,r1,q1⟩=>?_;obtain⟨vw,d,kvs,e,hv,hd,q⟩:=q1;subst e;cases r1;obtain⟨z,hsys,xs,hp,ob,ens,ep,ho,hex,hob,h4,h5⟩:=(show ObjOk X.prog X.w H1 s1.heap d (.dT kvs) from I1.hok d _ hd)
 refine PySem.Rv.items_iter (I1.hok vw _ hv).1 ho hob ?_;have hne:=Au (Aj ho);have I2:=(I1.freezeK hd ho (.inr ⟨_,rfl⟩)).kept (t':=s1.toks) (h':=s1.heap.push (PySem.Rv.itemObj d 0 ens.size ep .none (.bool false) .none .none)) fun b o e=>Ae _ e;refine⟨s1.heap.objs.size,[s1.heap.objs.size],_,_,_,rfl,I2,z1z d _ ob kvs ens ep hob,⟨_,_,_,_,Al _ rfl,.inl rfl⟩,fun b hb=>?_,q ob⟩;have e:b=s1.heap.objs.size:=by grind
 subst e;exact I1.fpOk (Ai _) (by rw[q0c (Dp hne)];exact I1.hok.fresh (Ai _))
theorem itm_k(K:Af)(hK:X.K=K)(hl:PE X l tl):PI X tg l (iItemsT tl):=z4e hl
end
def tThawV(h₀:Hp)(t:TE):TE:=fun σ H Q=>∃d,(∀o v,h₀ d≠some (.frz o v))/\t σ H fun x H'=>∃ob u,H' d=some (.frz ob u)/\Q x (upd H' d u)
theorem q9q{X:Cx}{e:Expr}{t:TE}(h₀:Hp)(hH:X.H₀=h₀)(h:PE X e t):PE X e (tThawV h₀ t):=by
 subst hH;intro pins s σ H Q I q;obtain⟨d,hd,q⟩:=q;exact thn (h pins s σ H _ I q) fun v s1 ⟨x,H1,I1,r1,ob,u,e1,q1⟩=>⟨x,_,I1.thaw e1 hd,r1,q1⟩
section
variable{prog:Program}{w:World}{K:Type}[DecidableEq K]{knd:HeapKind prog w K}{A:Around}{E:Value->Ad->Prop}{s:Ad}
theorem q3r(hu:knd.room A)(hkey:knd.is s.heap k a)(hm:s.heap.DictOfH knd d xs)(hin:∃(j:Nat) (p:Addr×Value),xs[j]?=some (k,p))(hQ:∀(j:Nat) (p:Addr×Value),xs[j]?=some (k,p)->∀h',h'.DictOfH knd d (xs.eraseIdx j)->De d s.heap h'->Q (some (Lm knd (k,p))) { s with heap:=h',toks:=s.toks+knd.draws k })(hsz:xs.length<=sizeLine:=by size_fits):wpAny (model prog w) A (Kk d (.ref a)) Q E s:=by
 obtain⟨o,es,ep,ho,hc,hd,he,his,hn⟩:=hm;unfold Kk;try with_reducible refine Br ?_
 refine Aa (knd.pyHash hu hkey ?_);refine Aa (wpAny_dictFind_heap hu hkey ho hd he his hn ?_ ?_)
 ·grind
 ·intro j p hj;refine Aa (Dm ho hd ?_);rw[entry_at he j,hj];refine Aa (wpAny_updateDictKeys (hz:=by have e:=size_of_entries he;lia) ho hd (Ab (hQ j p hj _ ⟨_,_,ep+1,Gz _ ho (Obj.isFreed_of_dict (Oo hd _)),
   hc.mapDictKeys _,Oo hd _,?_,?_,?_⟩ (Ds ..))))
  ·have:(es.eraseIdxIfInBounds j).toList=es.toList.eraseIdx j:=by obtain⟨l⟩:=es;simp
   rw[this,he,ers_map]
  ·intro x hx;exact knd.keeps (his x (Iw hx)) ho hd (Ds ..)
  ·rw[<- ers_map];exact hn.sublist (List.eraseIdx_sublist _ _)
end
theorem Bu.ers{α β:Type}{F:α->β->Prop}:∀{l:List α} {m:List β} (j:Nat),Bu F l m->Bu F (l.eraseIdx j) (m.eraseIdx j)
 |_,_,_,.nil=>.nil
 |_,_,0,.cons _ t=>t
 |_,_,j+1,.cons h t=>.cons h (Bu.ers j t)
end L2
namespace HM
open PySem PySem.Spec PyProof.Rows L2 TX SB
def carry(p q x:Pth):Pth:=if x.take p.length=p then q++x.drop p.length else x
def cR(p q:Pth)(r:Rw):Rw:=(carry p q r.1,r.2)
def mvR(p q:Pth)(r:Rw):Rw:=if r.1=p then(q,r.2) else r
theorem Hl.anc(h:Hl bl rows):∀(n:Nat) (r:Rw),r∈rows->r.1.length<=n->∀k,1<=k->k<r.1.length->(r.1.take k,none)∈rows
 |0,r,_,hl,k,_,hk=>absurd hk (by lia)
 |n+1,r,hr,hl,k,h1,hk=>by
  have hd:r.1.dropLast=r.1.take (r.1.length-1):=Jy;have hne:r.1.dropLast≠[]:=fun z=>by
   have:=congrArg List.length z;simp at this;lia
  have hm:=(h.dr r hr).resolve_left hne;by_cases e:k=r.1.length-1
  ·grind
  ·have:=h.anc n (r.1.dropLast,none) hm (by rw[Bz];lia) k h1 (by rw[Bz];lia);rw[show((r.1.dropLast,(none:Option Int)):Rw).1=r.1.dropLast from rfl,hd,Nx,Mt (by lia)] at this;exact this
theorem Hl.one(h:Hl bl rows)(h1:(p,a)∈rows)(h2:(p,b)∈rows):a=b:=by
 have:=q2d h.paths h1 h2 rfl;cases this;rfl
theorem Hl.slip(h:Hl bl rows)(hp:(p,some m)∈rows)(hr:r∈rows)(ht:r.1.take p.length=p):r.1=p:=by
 by_cases hl:p.length<r.1.length
 ·have h0:=Bd.mpr (h.ok _ hp).ne;have:=h.anc _ r hr (Ai _) p.length h0 hl;rw[ht] at this;cases h.one hp this
 ·grind
theorem Hl.carry(h:Hl bl rows)(hp:(p,some m)∈rows):rows.map (cR p q)=rows.map (mvR p q):=by
 refine Ia fun r hr=>?_;unfold cR mvR HM.carry;by_cases e:r.1=p
 ·simp_all
 ·rw[if_neg e,if_neg fun z=>e (h.slip hp hr z)]
structure Free (bl:Bool) (rows:List Rw) (p q:Pth):Prop where
 ok:okP q
 dr:q.dropLast=[]\/(q.dropLast,none)∈rows
 un:∀r∈rows,fold bl r.1=fold bl q->r.1=p
theorem q2p{α β:Type}{f:α->β}:∀{l:List α},l.Nodup->(∀x∈l,∀y∈l,f x=f y->x=y)->(l.map f).Nodup
 |[],_,_=>.nil
 |a::l,nd,h=>by
  rw[Cf] at nd;rw[Ak,Cf];refine⟨fun z=>?_,q2p nd.2 fun x hx y hy=>h x (Ah _ hx) y (Ah _ hy)⟩;obtain⟨y,hy,e⟩:=Ag.mp z;exact nd.1 (by rw[<- h y (Ah _ hy) a Ap e];exact hy)
theorem Hl.nodup(h:Hl bl rows):rows.Nodup:=q1y h.nd
theorem Hl.eq(h:Hl bl rows)(hr:r∈rows)(hs:s∈rows)(e:fold bl r.1=fold bl s.1):r=s:=q2d (f:=fun r:Rw=>fold bl r.1) h.nd hr hs e
theorem Hl.eqP(h:Hl bl rows)(hr:r∈rows)(hs:s∈rows)(e:r.1=s.1):r=s:=h.eq hr hs (by rw[e])
theorem q6v(h:r.1=p):mvR p q r=(q,r.2):=if_pos h
theorem q5p(h:r.1≠p):mvR p q r=r:=if_neg h
theorem Hl.moved(h:Hl bl rows)(hp:(p,some m)∈rows)(f:Free bl rows p q):Hl bl (rows.map (mvR p q)):=by
 have dk:∀x:Pth,(x,(none:Option Int))∈rows->(x,none)∈rows.map (mvR p q):=fun x hx=>Ag.mpr ⟨_,hx,q5p fun e=>by
  subst e;cases h.one hp hx⟩
 refine⟨fun r hr=>?_,?_,fun r hr=>?_⟩
 ·obtain⟨x,hx,rfl⟩:=Ag.mp hr;by_cases e:x.1=p
  ·rw[q6v e];exact f.ok
  ·rw[q5p e];exact h.ok x hx
 ·rw[Ba];refine q2p h.nodup fun x hx y hy e=>?_;replace e:fold bl (mvR p q x).1=fold bl (mvR p q y).1:=e;by_cases ex:x.1=p
  ·by_cases ey:y.1=p
   ·exact h.eqP hx hy (ex.trans ey.symm)
   ·rw[q6v ex,q5p ey] at e;exact absurd (f.un y hy e.symm) ey
  ·by_cases ey:y.1=p
   ·rw[q5p ex,q6v ey] at e;exact absurd (f.un x hx e) ex
   ·rw[q5p ex,q5p ey] at e;exact h.eq hx hy e
 ·obtain⟨x,hx,rfl⟩:=Ag.mp hr;by_cases e:x.1=p
  ·rw[q6v e];exact f.dr.imp id (dk _)
  ·rw[q5p e];exact(h.dr x hx).imp id (dk _)
theorem ns_lo:∀c∈NS,lo1 c∈NS:=by decide +kernel
theorem okN.lo(h:okN n):okN (lowN n):=⟨by unfold lowN;rw[Ac];exact h.one,by unfold lowN;rw[Ac];exact h.few,fun c hc=>by
 obtain⟨x,hx,rfl⟩:=Ag.mp hc;exact ns_lo x (h.all x hx)⟩
theorem okP.snoc{q:Pth}(h:q=[]\/okP q)(hl:q.length<6)(hn:okN n):okP (q++[n]):=by
 refine⟨by simp,by rw[An];show _+1<=6;lia,fun x hx=>?_⟩;rcases Az.mp hx with hx|hx
 ·rcases h with e|h
  ·rw[e] at hx;cases hx
  ·exact h.all x hx
 ·grind
theorem q8o{K:Af}{H:Hp}:∀{zs:List Zp},(∀z∈zs,H z.1=some (.tup (vP z.2)))->Dts K H (zs.map fun z=>V.ref z.1) (zs.map fun z=>PyData.tuple (dP z.2))
 |[],_=>.nil
 |z::zs,h=>.cons (q2n (h z Ap)) (q8o fun x hx=>h x (Ah _ hx))
theorem q8p:∀{zs:List Zp},(∀z∈zs,Low z.2)->Bs (zs.map fun z=>PyData.tuple (dP z.2))=true
 |[],_=>by simp[Bs]
 |z::zs,h=>by
  simp only[Ak,Bs];rw[q4a (h z Ap),q8p fun x hx=>h x (Ah _ hx)];rfl
theorem ne_noP{K:Af}{zs:List Zp}(ha:H a=some (.lst (zs.map fun z=>V.ref z.1)))(hz:∀z∈zs,H z.1=some (.tup (vP z.2)))(hb:H b=some (.lst []))(l:∀z∈zs,Low z.2)(k:Q (.bl (!decide (zs=[]))) H):rNeU K (.ref a) (.ref b) H Q:=by
 refine .inr ⟨_,_,.lst (SqL.of ha) (q8o hz),.lst (SqL.of hb) .nil,by simp only[Ef];exact q8p l,by simp[Ef,Bs],?_,?_⟩
 ·have:(PyData.list []).depth<=100:=by simp[Hf,Cz]
  lia
 ·have e:Dz (.list (zs.map fun z=>PyData.tuple (dP z.2))) (.list [])=decide (zs=[]):=by cases zs<;>simp[Dz,Fh]
  rw[e];exact k
theorem q1w{K:Af}(ha:H a=some (.tup (vP p)))(hb:H b=some (.tup (vP q)))(lp:Low p)(lq:Low q)(k:Q (.bl (decide (p=q))) H):rEqU K (.ref a) (.ref b) H Q:=by
 refine .inr ⟨_,_,q2n ha,q2n hb,q4a lp,q4a lq,by have:=q5o p;lia,?_⟩;rw[q8n];exact k
def uppN(n:List Nat):List Nat:=n.map up1
theorem ns_up:∀c∈NS,up1 c∈NS:=by decide +kernel
theorem okN.up(h:okN n):okN (uppN n):=⟨by unfold uppN;rw[Ac];exact h.one,by unfold uppN;rw[Ac];exact h.few,fun c hc=>by
 obtain⟨x,hx,rfl⟩:=Ag.mp hc;exact ns_up x (h.all x hx)⟩
theorem z6q(h:∀c∈n,c<128):PySem.Txt.upper (mk n)=mk (uppN n):=by
 rw[upper_ascii (by show ∀c∈tl (mk n),c<128;exact h)];apply ext;rw[q3a];rw[Rj];rfl
theorem z7z(e:H a=some (.frz ob (dR rs)))(eb:H b=some (.tup (vP p))):DGet H a (.ref b) (valV (rs.map fun r=>(kP r.1,r.2)) (kP p)) :=
 .inr ⟨_,kP p,b,.inr ⟨ob,e⟩,rfl,by rw[q2b];exact eb,rfl⟩
theorem q4j(e:H a=some (dR rs))(eb:H b=some (.tup (vP p))):DGet H a (.ref b) (valV (rs.map fun r=>(kP r.1,r.2)) (kP p)) :=
 .inr ⟨_,kP p,b,.inl e,rfl,by rw[q2b];exact eb,rfl⟩
end HM
namespace HT
open PySem PyProof.Rows
section
variable{prog:Program}{w:World}{A:Around}{E:Value->Ad->Prop}{s:Ad}
theorem getItem_tuple_whole{lo:Option Int}(ht:IsTup s.heap t items)(hs:s.heap.IsSliceOf sl vl vu .none)(pl:Jm vl lo)(pu:Jm vu hi)(hw:sIx items.size 0 lo=0/\sIx items.size items.size hi=items.size)(h:Q (.ref t) s):wpAny (model prog w) A (getItem (.ref t) (.ref sl)) Q E s:=by
 obtain⟨os,hos,hcs,hds⟩:=id hs;have hTs:s.TypeIs (.ref sl) "slice" := ⟨os,hos,hcs⟩
 unfold getItem;try with_reducible refine Br ?_
 refine Aa (Qj ht.typeIs (by decide) ?_);refine Aa (Bn ht.typeIs Cc
  (Bj Cc ht.typeIs entry_tuple_getitem ?_ (Pu _ _)))
 show wpAny _ _ (Lc (.ref t) >>= _) _ _ s;refine Aa (tupleItemsOf_ ht ?_);refine Aa (Eu hTs ?_);refine Aa (q2j hs pl pu ?_);show wpAny _ _ (if (((sIx items.size 0 lo:Nat):Int)==0&&(1:Int)==1&&(sIx items.size items.size hi-sIx items.size 0 lo)==items.size)=true then _ else _) _ _ s;rw[if_pos (by rw[hw.1,hw.2];simp)];refine Aa (Aa (Eu ht.typeIs (Ab ?_)));exact Aa (Hq (Ab ⟨_,rfl,Ab h⟩))
end
end HT
namespace L2
open PySem PySem.Spec PyProof.Rows
def rSlP:V->Option Int->Option Int->Hp->VK->Prop:=fun x lo hi H Q=>∃a xs,x=.ref a/\H a=some (.tup xs)/\∀c H',Same H H'->H' c=some (.tup (cutV xs lo hi))->Q (.ref c) H'
theorem sl_P:SlR X rSlP:=by
 intro pins s σ H x v vl vu lo hi sl Q I rx hs pl pu h;obtain⟨a,xs,rfl,hx,q⟩:=h;by_cases hw:HT.sIx xs.length 0 lo=0/\HT.sIx xs.length xs.length hi=xs.length
 ·cases rx;obtain⟨its,r,ht,hz⟩:=I.tuple (SqT.of hx);have hlen:its.toArray.size=xs.length:=by rw[As];exact r.length.symm
  refine⟨"tuple",_,Cc.lookup,ht.typeIs,?_⟩;refine HT.getItem_tuple_whole ht hs pl pu (by rw[hlen];exact hw) ⟨.ref a,H,I,rfl,q a H (Same.refl H) ?_⟩;unfold cutV;rw[hw.1,hw.2,Ny,Md,Bh];exact hx
 ·exact z7q pins s σ H _ v vl vu lo hi sl Q I rx hs pl pu ⟨a,xs,rfl,SqT.of hx,hw,fun p hp=>q p _ ((Same.refl H).new hp) q0b⟩
theorem q4k:∀(p:Str) (l:List Str),risingS p l=true->(p::l).Pairwise fun a b=>¬(b.cps.toList<a.cps.toList)
 |p,[],_=>Jf _ _
 |p,x::r,h=>by
  have h':(!ltCps x.cps.toList p.cps.toList&&risingS x r)=true:=h;rw[Eb] at h';have h1:¬(x.cps.toList<p.cps.toList):=by have:=h'.1;rw[ltCps_eq] at this;simpa using this
  have ih:=q4k x r h'.2;refine Ex.mpr ⟨fun y hy=>?_,ih⟩;rcases Bb.mp hy with rfl|hy
  ·exact h1
  ·have h2:=(Ex.mp ih).1 y hy;exact fun z=>h1 (List.lt_of_le_of_lt (Qv.mp h2) z)
theorem q8q:∀(l:List Str),sortedS l=true->l.Pairwise fun a b=>¬(b.cps.toList<a.cps.toList)
 |[],_=>.nil
 |x::r,h=>q4k x r h
def rSortS:List V->Hp->VK->Prop:=fun vs H Q=>∃l,∃ss:List Str,vs=[.ref l]/\H l=some (.lst (ss.map V.str))/\ss.length<64 /\
 ∀(L:Addr) (ss':List Str),H L=none->ss'.Perm ss->ss'.Pairwise (fun a b=>¬(b.cps.toList<a.cps.toList))->Q (.ref L) (upd H L (.lst (ss'.map V.str)))
theorem z4f:∀{ss:List Str} {us:List Value},Vals (ss.map V.str) us->Fb us ss
 |[],_,.nil=>.nil
 |s::ss,_,.cons r t=>by obtain⟨k,rfl⟩:=r;exact .cons s k (z4f t)
theorem z4g:∀{ss:List Str} {us:List Value},Fb us ss->Vals (ss.map V.str) us
 |_,_,.nil=>.nil
 |_,_,.cons _ _ t=>.cons ⟨_,rfl⟩ (z4g t)
theorem z2a(hr:Room k X.A):CallR X (.builtin "sorted") rSortS:=by
 intro pins s σ H xs us Q I rv h;obtain⟨l,ss,rfl,hl,few,q⟩:=h;obtain⟨u,rfl,ru⟩:=rv.one;cases ru;obtain⟨its,rv2,hil⟩:=q6u I hl;have hlen:its.length=ss.length:=by have:=rv2.length;rw[Ac] at this;exact this.symm
 refine PyProof.Rows.sorted_strs hil (z4f rv2) (by lia) fun out ss' h1 h2 h3=>?_;obtain⟨e,he⟩:=sortedAll_at s.heap its out;have keep:∀b o,s.heap.get? b=some o->(sortedAll s.heap its out).get? b=some o:=fun b o=>sortedAll_old;have hfr:=I.hok.fresh (Fs _);exact⟨.ref (s.heap.objs.size+1),_,I.laid (t':=s.toks) (o:=.lst (ss'.map V.str)) keep (Fs _) ⟨by rw[Ac,h2.length_eq,Cp];lia,_,e,z4g h1,he⟩,rfl,q _ ss' hfr h2 (q8q _ h3)⟩
end L2
namespace HM
open PySem PySem.Spec PyProof.Rows L2 TX SB
theorem q0u(p q a:Pth):carry p q (p++a)=q++a:=by unfold carry;rw[if_pos (by simp),List.drop_left]
theorem q1f(h:x.take p.length≠p):carry p q x=x:=if_neg h
theorem q4l{p:Pth}(h:x.take p.length=p):∃a,x=p++a:=⟨x.drop p.length,by conv=>lhs;rw[<- Nz p.length x,h]⟩
theorem q9r(p a:Pth):(p++a).take p.length=p:=List.take_left
theorem q4s{a:Pth}(h:a≠[]):(p++a).dropLast=p++a.dropLast:=List.dropLast_append_of_ne_nil h
theorem q6w{a:Pth}(h:a≠[]):(p++a).getLastD []=a.getLastD []:=by
 rw[Cy,Cy,List.getLast?_append,Dd h];rfl
theorem q4t{a:Pth}(h:a≠[]):fold bl (p++a)=p++fold bl a:=by
 cases bl with
 |false=>rfl
 |true=>rw[q5m,q5m,q4s h,q6w h,Ji]
theorem q2x{p:Pth}(h:p≠[]):(fold bl p).length=p.length:=by
 cases bl with
 |false=>rfl
 |true =>
  have:=Bd.mpr h;rw[q5m,An,Bz];show _+1=_;lia
structure Turn2 (bl:Bool) (rows:List Rw) (p q:Pth):Prop where
 hl:Hl bl rows
 pin:(p,none)∈rows
 fr:Free bl rows p q
 ne:q≠p
 par:q.dropLast=p.dropLast
section
variable{bl:Bool}{rows:List Rw}{p q:Pth}
theorem Turn2.len(t:Turn2 bl rows p q):q.length=p.length:=by
 have h1:=congrArg List.length t.par;rw[Bz,Bz] at h1;have:=Bd.mpr t.fr.ok.ne;have:=Bd.mpr (t.hl.ok _ t.pin).ne;have e:(p,(none:Option Int)).1.length=p.length:=rfl;lia
theorem Turn2.okp(t:Turn2 bl rows p q):okP p:=t.hl.ok _ t.pin
theorem Turn2.noq(t:Turn2 bl rows p q)(hr:r∈rows):r.1.take q.length≠q:=fun z=>by
 have key:(∃m,(q,m)∈rows)->False:=fun⟨m,hm⟩=>t.ne (t.fr.un _ hm rfl);by_cases hl:q.length<r.1.length
 ·have:=t.hl.anc _ r hr (Ai _) q.length (Bd.mpr t.fr.ok.ne) hl;rw[z] at this;exact key ⟨_,this⟩
 ·grind
theorem Turn2.back(t:Turn2 bl rows p q):(rows.map (cR p q)).map (cR q p)=rows:=by
 rw[Ba];conv=>rhs;rw[<- List.map_id rows]
 refine Ia fun r hr=>?_;show(carry q p (carry p q r.1),r.2)=r;by_cases h:r.1.take p.length=p
 ·obtain⟨a,e⟩:=q4l h;rw[e,q0u,q0u,<- e]
 ·rw[q1f h,q1f (t.noq hr)]
theorem Turn2.inj(t:Turn2 bl rows p q)(hx:x∈rows)(hy:y∈rows)(e:fold bl (carry p q x.1)=fold bl (carry p q y.1)):x=y:=by
 have one:∀{x y:Rw},x∈rows->y∈rows->∀a,x.1=p++a->y.1.take p.length≠p->fold bl (q++a)=fold bl y.1->False:=by
  intro x y hx hy a ea hn e;by_cases h0:a=[]
  ·rw[h0,Cq] at e;have:=t.fr.un y hy e.symm;exact hn (by rw[this,Bh])
  ·have hy0:=(t.hl.ok y hy).ne;have hd:=((q9p (by simp[h0]) hy0).mp e).1;rw[q4s h0] at hd;refine t.noq hy ?_;have e2:y.1=q++(a.dropLast++[y.1.getLastD []]):=by rw[<- Ji,hd];exact q3h hy0
   rw[e2];exact q9r _ _
 by_cases h1:x.1.take p.length=p
 ·obtain⟨a,ea⟩:=q4l h1;by_cases h2:y.1.take p.length=p
  ·obtain⟨b,eb⟩:=q4l h2;rw[ea,eb,q0u,q0u] at e;refine t.hl.eq hx hy ?_;rw[ea,eb];by_cases ha:a=[]
   ·by_cases hb:b=[]
    ·rw[ha,hb]
    ·rw[ha,Cq] at e;have:=congrArg List.length e;rw[q2x t.fr.ok.ne,q2x (by simp[hb]),An] at this;have:=Bd.mpr hb;lia
   ·by_cases hb:b=[]
    ·rw[hb,Cq] at e;have:=congrArg List.length e;rw[q2x t.fr.ok.ne,q2x (by simp[ha]),An] at this;have:=Bd.mpr ha;lia
    ·rw[q4t ha,q4t hb] at e;rw[q4t ha,q4t hb,List.append_cancel_left e]
  ·rw[ea,q0u,q1f h2] at e;exact(one hx hy a ea h2 e).elim
 ·by_cases h2:y.1.take p.length=p
  ·obtain⟨b,eb⟩:=q4l h2;rw[eb,q0u,q1f h1] at e;exact(one hy hx b eb h1 e.symm).elim
  ·rw[q1f h1,q1f h2] at e;exact t.hl.eq hx hy e
theorem Turn2.moved(t:Turn2 bl rows p q):Hl bl (rows.map (cR p q)):=by
 have hpl:=t.len;have hp0:=Bd.mpr t.okp.ne;have dk:∀{x y:Pth},(x,(none:Option Int))∈rows->carry p q x=y->(y,none)∈rows.map (cR p q):=fun{x y} hx e=>Ag.mpr ⟨_,hx,by show(carry p q x,none)=_;rw[e]⟩;refine⟨fun r hr=>?_,?_,fun r hr=>?_⟩
 ·obtain⟨x,hx,rfl⟩:=Ag.mp hr;show okP (carry p q x.1);have okx:=t.hl.ok x hx;by_cases h:x.1.take p.length=p
  ·obtain⟨a,e⟩:=q4l h;rw[e] at okx ⊢;rw[q0u];refine⟨by simp[t.fr.ok.ne],?_,fun n hn=>?_⟩
   ·have:=okx.few;rw[An] at this ⊢;lia
   ·rcases Az.mp hn with hn|hn
    ·exact t.fr.ok.all n hn
    ·exact okx.all n (Bf _ hn)
  ·rw[q1f h];exact okx
 ·rw[Ba];exact q2p t.hl.nodup fun x hx y hy e=>t.inj hx hy e
 ·obtain⟨x,hx,rfl⟩:=Ag.mp hr;show(carry p q x.1).dropLast=[]\/((carry p q x.1).dropLast,none)∈_;by_cases h:x.1.take p.length=p
  ·obtain⟨a,e⟩:=q4l h;rw[e,q0u];by_cases ha:a=[]
   ·rw[ha,Cq,t.par];refine(t.hl.dr _ t.pin).imp id fun y=>dk y (q1f fun z=>?_);have:=congrArg List.length z;rw[Cj,Bz] at this;lia
   ·rw[q4s ha];have:=(t.hl.dr x hx)
    rw[e,q4s ha] at this;exact .inr (dk (this.resolve_left (by simp[t.okp.ne])) (q0u _ _ _))
  ·rw[q1f h];refine(t.hl.dr x hx).imp id fun y=>dk y (q1f fun z=>h ?_);have:=congrArg List.length z;rw[Cj,Bz] at this;rw[Jy,Nx,Mt (by lia)] at z;exact z
theorem Turn2.qin(t:Turn2 bl rows p q):(q,none)∈rows.map (cR p q):=Ag.mpr ⟨_,t.pin,by show(carry p q p,none)=_;have:=q0u p q [];rw[Cq,Cq] at this;rw[this]⟩
theorem Turn2.rev(t:Turn2 bl rows p q):Turn2 bl (rows.map (cR p q)) q p:=by
 refine⟨t.moved,t.qin,⟨t.okp,?_,fun r hr hf=>?_⟩,t.ne.symm,t.par.symm⟩
 ·have:=t.moved.dr _ t.qin;rw[show((q,(none:Option Int)):Rw).1=q from rfl,t.par] at this;exact this
 ·obtain⟨x,hx,rfl⟩:=Ag.mp hr;show carry p q x.1=q;replace hf:fold bl (carry p q x.1)=fold bl p:=hf;by_cases h:x.1.take p.length=p
  ·obtain⟨a,e⟩:=q4l h;rw[e,q0u] at hf ⊢;by_cases ha:a=[]
   ·grind
   ·have:=congrArg List.length hf;rw[q2x (by simp[ha]),q2x t.okp.ne,An,t.len] at this;have:=Bd.mpr ha;lia
  ·rw[q1f h] at hf ⊢;have e:=t.hl.eq hx t.pin hf;rw[e] at h;exact(h (by exact Bh)).elim
def nms(p:Pth)(rows:List Rw):List (List Nat):=(rows.filter fun r=>decide (r.1.dropLast=p)).map fun r=>r.1.getLastD []
theorem Turn2.nms(t:Turn2 bl rows p q):HM.nms q (rows.map (cR p q))=HM.nms p rows:=by
 unfold HM.nms;rw[List.filter_map,Ba];have hf:∀r∈rows,decide ((cR p q r).1.dropLast=q)=decide (r.1.dropLast=p):=fun r hr=>decide_eq_decide.mpr (by
  show(carry p q r.1).dropLast=q↔_;by_cases h:r.1.take p.length=p
  ·obtain⟨a,e⟩:=q4l h;rw[e,q0u];by_cases ha:a=[]
   ·have h1:=Bd.mpr t.fr.ok.ne;have h2:=Bd.mpr t.okp.ne;constructor
    ·grind
    ·grind
   ·simp_all
  ·rw[q1f h];constructor
   ·intro z;exfalso;have h0:=(t.hl.ok r hr).ne;refine t.noq hr ?_;rw[q3h h0,z];exact q9r _ _
   ·intro z;exfalso;have h0:=(t.hl.ok r hr).ne;refine h ?_;rw[q3h h0,z];exact q9r _ _)
 have e1:rows.filter ((fun r:Rw=>decide (r.1.dropLast=q))∘cR p q)=rows.filter fun r=>decide (r.1.dropLast=p):=List.filter_congr hf;rw[e1];refine Ia fun r hr=>?_;obtain⟨hr1,hr2⟩:=Mo.mp hr;have hd:=of_decide_eq_true hr2;show(carry p q r.1).getLastD []=_;have h0:=(t.hl.ok r hr1).ne;have e:r.1=p++[r.1.getLastD []]:=by rw[<- hd];exact q3h h0
 rw[e,q0u,q6w (by simp),q6w (by simp)]
end
end HM
namespace L2
open PySem PySem.Spec PyProof.Rows
theorem z9f{X:Cx}{body:List Stmt}{h0:ExceptHandler}{hs:List ExceptHandler}{pos:Pos}{t:TS}(hx:X.xe=fun _ _=>False)(hb:PSs X body t):PS X (.Try body (h0::hs) [] [] pos) t:=by
 intro pins s σ H D I q;refine wpAny_Try_except (Bw (hb pins s σ H D I q) (fun f s1 z=>?_) fun e s1 z=>by rw[hx] at z;exact z.elim);cases f with
 |next=>exact Ib z
 |ret v=>exact z
 |brk=>exact z
 |cont=>exact z
theorem isD_t(e:H a=some (.dT kvs)):IsD H a:=.inr ⟨kvs,.inl e⟩
end L2
namespace HM
open PySem PySem.Spec PyProof.Rows L2 TX SB
structure Mvd (bl:Bool) (rows:List Rw) (p q:Pth):Prop where
 hl:Hl bl rows
 m:∃mk:Option Int,(p,mk)∈rows/\(mk=none->q.dropLast=p.dropLast)
 ne:q≠p
 fr:Free bl rows p q
section
variable{bl:Bool}{rows rows':List Rw}{p q:Pth}
theorem Mvd.perm(h:Mvd bl rows p q)(pm:rows'.Perm rows):Mvd bl rows' p q :=
 ⟨h.hl.perm pm,h.m.imp fun mk x=>⟨pm.mem_iff.mpr x.1,x.2⟩,h.ne,⟨h.fr.ok,h.fr.dr.imp id fun y=>pm.mem_iff.mpr y,fun r hr=>h.fr.un r (pm.mem_iff.mp hr)⟩⟩
theorem Mvd.cases(h:Mvd bl rows p q):Turn2 bl rows p q\/∃i:Int,(p,some i)∈rows:=by
 obtain⟨mk,h1,h2⟩:=h.m;cases mk with
 |none=>exact .inl ⟨h.hl,h1,h.fr,h.ne,h2 rfl⟩
 |some i=>grind
theorem z6r(hl:Hl bl rows)(hp:(p,some i)∈rows)(f:Free bl rows p q)(ne:q≠p):Free bl (rows.map (mvR p q)) q p:=by
 have dk:∀x:Pth,(x,(none:Option Int))∈rows->(x,none)∈rows.map (mvR p q):=fun x hx=>Ag.mpr ⟨_,hx,q5p fun e=>by
  subst e;cases hl.one hp hx⟩
 refine⟨hl.ok _ hp,(hl.dr _ hp).imp id (dk _),fun r hr hf=>?_⟩;obtain⟨x,hx,rfl⟩:=Ag.mp hr;by_cases e:x.1=p
 ·rw[q6v e]
 ·rw[q5p e] at hf ⊢;have:=hl.eq hx hp hf;rw[this] at e;exact absurd rfl e
theorem z4h(hl:Hl bl rows)(hp:(p,some i)∈rows)(f:Free bl rows p q)(ne:q≠p):(rows.map (mvR p q)).map (mvR q p)=rows:=by
 rw[Ba];conv=>rhs;rw[<- List.map_id rows]
 refine Ia fun r hr=>?_;show mvR q p (mvR p q r)=r;by_cases e:r.1=p
 ·rw[q6v e,q6v (r:=(q,r.2)) rfl,<- e]
 ·rw[q5p e,q5p fun z=>e (f.un r hr (by rw[z]))]
theorem Mvd.moved(h:Mvd bl rows p q):Hl bl (rows.map (cR p q)):=by
 rcases h.cases with t|⟨i,hp⟩
 ·exact t.moved
 ·rw[h.hl.carry hp];exact h.hl.moved hp h.fr
theorem Mvd.rev(h:Mvd bl rows p q):Mvd bl (rows.map (cR p q)) q p:=by
 rcases h.cases with t|⟨i,hp⟩
 ·have r:=t.rev;exact⟨r.hl,⟨none,r.pin,fun _=>r.par⟩,r.ne,r.fr⟩
 ·refine⟨h.moved,?_,h.ne.symm,?_⟩<;>rw[h.hl.carry hp]
  ·exact⟨some i,Ag.mpr ⟨_,hp,q6v rfl⟩,fun z=>nomatch z⟩
  ·exact z6r h.hl hp h.fr h.ne
theorem Mvd.back(h:Mvd bl rows p q):(rows.map (cR p q)).map (cR q p)=rows:=by
 rcases h.cases with t|⟨i,hp⟩
 ·exact t.back
 ·have h2:=h.moved;have hq:(q,some i)∈rows.map (cR p q):=by rw[h.hl.carry hp];exact Ag.mpr ⟨_,hp,q6v rfl⟩
  rw[h2.carry hq,h.hl.carry hp];exact z4h h.hl hp h.fr h.ne
theorem Mvd.okp(h:Mvd bl rows p q):okP p:=let ⟨_,x,_⟩:=h.m;h.hl.ok _ x
end
abbrev Mv:=Pth×Pth
def wk:List Rw->List Mv->List Rw
 |rows,[]=>rows
 |rows,m::r=>wk (rows.map (cR m.1 m.2)) r
def WkOk(bl:Bool):List Rw->List Mv->Prop
 |rows,[]=>Hl bl rows
 |rows,m::r=>Mvd bl rows m.1 m.2/\WkOk bl (rows.map (cR m.1 m.2)) r
section
variable{bl:Bool}
theorem z0o:∀(ms:List Mv) (rows:List Rw),(wk rows ms).length=rows.length
 |[],_=>rfl
 |m::r,rows=>(z0o r _).trans (Ac _)
theorem q9s:∀(ms:List Mv) {rows rows':List Rw},rows'.Perm rows->(wk rows' ms).Perm (wk rows ms)
 |[],_,_,p=>p
 |m::r,_,_,p=>q9s r (p.map _)
theorem z4i:∀(a b:List Mv) (rows:List Rw),wk rows (a++b)=wk (wk rows a) b
 |[],_,_=>rfl
 |_::a,b,_=>z4i a b _
theorem WkOk.perm:∀{ms:List Mv} {rows rows':List Rw},WkOk bl rows ms->rows'.Perm rows->WkOk bl rows' ms
 |[],_,_,h,p=>Hl.perm h p
 |_::_,_,_,h,p=>⟨h.1.perm p,WkOk.perm h.2 (p.map _)⟩
theorem WkOk.fin:∀{ms:List Mv} {rows:List Rw},WkOk bl rows ms->Hl bl (wk rows ms)
 |[],_,h=>h
 |m::r,rows,h=>WkOk.fin (ms:=r) (rows:=rows.map (cR m.1 m.2)) h.2
theorem WkOk.hd:∀{ms:List Mv} {rows:List Rw},WkOk bl rows ms->Hl bl rows
 |[],_,h=>h
 |_::_,_,h=>h.1.hl
theorem WkOk.app:∀{a b:List Mv} {rows:List Rw},WkOk bl rows (a++b)↔WkOk bl rows a/\WkOk bl (wk rows a) b
 |[],_,_=>⟨fun h=>⟨h.hd,h⟩,fun h=>h.2⟩
 |m::a,b,rows=>by
  have ih:=WkOk.app (a:=a) (b:=b) (rows:=rows.map (cR m.1 m.2));exact⟨fun h=>⟨⟨h.1,(ih.mp h.2).1⟩,(ih.mp h.2).2⟩,fun h=>⟨h.1.1,ih.mpr ⟨h.1.2,h.2⟩⟩⟩
def tb(ms:List Mv):List Mv:=ms.reverse.map fun m=>(m.2,m.1)
theorem z4j(m:Mv)(r:List Mv):tb (m::r)=tb r++[(m.2,m.1)]:=by simp[tb]
theorem z4k:∀{ms:List Mv} {rows:List Rw},WkOk bl rows ms->wk (wk rows ms) (tb ms)=rows
 |[],_,_=>rfl
 |m::r,rows,h=>by
  rw[z4j,z4i];show wk (wk (wk (rows.map (cR m.1 m.2)) r) (tb r)) _=rows;rw[z4k h.2];exact h.1.back
theorem WkOk.back:∀{ms:List Mv} {rows:List Rw},WkOk bl rows ms->WkOk bl (wk rows ms) (tb ms)
 |[],_,h=>h
 |m::r,rows,h=>by
  rw[z4j];refine WkOk.app.mpr ⟨WkOk.back (ms:=r) h.2,?_⟩;show WkOk bl (wk (wk (rows.map (cR m.1 m.2)) r) (tb r)) _;rw[z4k h.2];refine⟨h.1.rev,?_⟩;show Hl bl ((rows.map (cR m.1 m.2)).map (cR m.2 m.1));rw[h.1.back];exact h.1.hl
theorem WkOk.take(h:WkOk bl rows ms)(n:Nat):WkOk bl rows (ms.take n)/\WkOk bl (wk rows (ms.take n)) (ms.drop n):=WkOk.app.mp (by rw[Nz];exact h)
theorem WkOk.snoc(h:WkOk bl rows ms)(x:Mvd bl (wk rows ms) m.1 m.2):WkOk bl rows (ms++[m]):=WkOk.app.mpr ⟨h,x,x.moved⟩
theorem z4l(ms:List Mv)(m:Mv)(rows:List Rw):wk rows (ms++[m])=(wk rows ms).map (cR m.1 m.2):=z4i ms [m] rows
end
def MT(H:Hp)(T:Addr)(m:Mv):Prop:=∃A B,H T=some (.tup [.ref A,.ref B])/\H A=some (.tup (vP m.1))/\H B=some (.tup (vP m.2))
abbrev Zm:=Addr×Mv
structure ML (H:Hp) (L:Addr) (zs:List Zm):Prop where
 at_:H L=some (.lst (zs.map fun z=>V.ref z.1))
 pr:∀z∈zs,MT H z.1 z.2
theorem MT.keep(h:MT H T m)(k:∀T xs,H T=some (.tup xs)->H' T=some (.tup xs)):MT H' T m:=let ⟨A,B,h1,h2,h3⟩:=h;⟨A,B,k _ _ h1,k _ _ h2,k _ _ h3⟩
theorem ML.same(h:ML H L zs)(s:Same H H'):ML H' L zs:=⟨s _ _ h.at_,fun z hz=>(h.pr z hz).keep fun T xs e=>s _ _ e⟩
theorem ML.fd(h:ML H L zs)(F:FeedAt H a b)(fd:Fd a b H H')(hL:L≠a):ML H' L zs:=⟨fd.at h.at_ hL,fun z hz=>(h.pr z hz).keep (tupFd F fd)⟩
theorem ML.nil(h:H L=some (.lst [])):ML H L []:=⟨h,fun _ z=>nomatch z⟩
theorem ML.cut(h:ML H L zs)(hL:H L'=none)(n:Nat):ML (upd H L' (.lst ((zs.map fun z=>V.ref z.1).drop n))) L' (zs.drop n) :=
 ⟨by rw[q0b,Pf],fun z hz=>(h.pr z (Oq hz)).keep fun T xs e=>by rw[q0c (q0h e hL)];exact e⟩
theorem ML.pre(h:ML H L zs)(hL:H L'=none)(n:Nat):ML (upd H L' (.lst ((zs.map fun z=>V.ref z.1).take n))) L' (zs.take n) :=
 ⟨by rw[q0b,Ge],fun z hz=>(h.pr z (Fo hz)).keep fun T xs e=>by rw[q0c (q0h e hL)];exact e⟩
end HM
namespace L2
open PySem PySem.Spec PyProof.Rows
structure Isi (K:Af) (C:Addr):Prop where
 cl:Cls K C
 ha:Dk K (.ref C) "__class__" = some (some (.builtin "object.__class__"))
 hn:Qs K (.builtin "object.__class__") "__get__" = some (some (.builtin "getset_descriptor.__get__"))
 htk:Sj K (.builtin "object.__class__")=some true
 hm:W.mroIn K C (.type "object")=some true
 one:Og K (.ref C) (.ref C)=some true
theorem isiC_k(K:Af)(hK:X.K=K):CallR X (.builtin "isinstance") (fun xs H Q=>∃a C dx fs,xs=[.ref a,.ref C]/\H a=some (.ins C dx fs)/\Isi K C/\Q (.bl true) H):=by
 subst hK;intro pins s σ H xs us Q I r h;obtain⟨a,C,dx,fs,rfl,ha,i,q⟩:=h;obtain⟨u,v,rfl,ru,rv⟩:=r.two;cases rv;exact q7k I ru (TyOf.ins ha i.cl i.ha i.hn i.htk i.hm) i.one fun tk=>⟨.bl true,H,I.tok _,rfl,q⟩
end L2
namespace PM
open PySem PySem.Spec PyProof.Rows L2 TX
def sp:List Nat->List (List Nat)
 |[]=>[[]]
 |c::r=>if c=47 then[]::sp r else match sp r with | []=>[[c]]|p::q=>(c::p)::q
end PM
namespace PC
open PySem PySem.Spec PyProof.Rows L2 TX
def sc(s:Nat):List Nat->List (List Nat)
 |[]=>[[]]
 |c::r=>if c=s then[]::sc s r else match sc s r with | []=>[[c]]|p::q=>(c::p)::q
theorem sc_one:∀{a:List Nat},s∉a->sc s a=[a]
 |[],_=>rfl
 |c::a,h=>by
  have hc:c≠s:=fun z=>h (by rw[z];exact Ap);have ih:=sc_one fun z=>h (Ah _ z);show(if c=s then _ else _)=_;rw[if_neg hc,ih]
end PC
namespace L2
open PySem PySem.Spec PyProof.Rows
section
variable{X:Cx}{n:Nat}{o i:Expr}{td ty:TE}{tpos pos:Pos}
def sDDelT(td ty:TE):TS:=fun D σ H=>td σ H fun x H1=>ty σ H1 fun y H2=>∃d kvs b,∃k:List Key,x=.ref d/\y=.ref b/\H2 d=some (.dT kvs)/\H2 b=some (.tup (k.map kV))/\(∃(j:Nat) (v:V),kvs[j]?=some (k,v)) /\
 ∀(j:Nat) (v:V),kvs[j]?=some (k,v)->D.nx σ (upd H2 d (.dT (kvs.eraseIdx j)))
theorem z6s(hr:Room n X.A)(ho:PE X o td)(hi:PE X i ty):PS X (.Delete [.Subscript o i tpos] pos) (sDDelT td ty):=by
 intro pins s0 σ H0 D I0 h;refine wpAny_Delete (wpAny_deleteEach_cons (wpAny_delete_Subscript (thn (ho pins s0 σ H0 _ I0 h) fun u s1 ⟨x,H1,I1,rx,q1⟩=>thn (hi pins s1 σ H1 _ I1 q1) fun iv s ⟨y,H,I,ry,d,kvs,b,k,ex,ey,e,eb,hin,q⟩=>?_)));subst ex ey;obtain rfl:u=Value.ref d:=rx;obtain rfl:iv=Value.ref b:=ry;obtain⟨z,hd,xs,rel,dd⟩:=z6f I.hok e;have hz:xs.length<=sizeLine:=by rw[<- Cd rel];exact z
 have hu:=q1t hr;obtain⟨o',es,ep,ho',hc,hdd,he,his,hn⟩:=id dd;have hT:s.TypeIs (.ref d) "dict" := ⟨o',ho',hc.1⟩
 have hin2:∃(j:Nat) (p:Addr×Value),xs[j]?=some (k,p):=by
  obtain⟨j,v,hj⟩:=hin;obtain⟨⟨k',p⟩,hp,e1,_⟩:=Bu.at' rel hj;exact⟨j,p,by rw[hp,<- show k=k' from e1]⟩
 refine wpAny_delItem_slot hT (by decide) Lr (Bj Lr hT PySem.F.entry_dict_delitem ?_ (PySem.F.args_dict_delitem_2 _ _));refine Aa ?_;refine Aa (Fe hT ?_);refine Ab ?_;show wpAny _ _ (do
  let __x<-Kk d (Value.ref b);match __x with
   |some e=>do
    letGo [e.key,e.val]
    ret Value.none
   |x=>do
    Bx.Dict.missedRemoval d (Value.ref b)
    rule "dict.__delitem__.keyerror"
    let __do_lift<-newExc (Value.type "KeyError") [Value.ref b]
    raiseNew __do_lift) _ _ _
 refine Aa (q3r (Ew hu) (q4i I.hok eb) dd hin2 fun j p hj h' dd' hs=>?_);refine Aa (Nb (Ab ⟨_,rfl,?_⟩));obtain⟨⟨k',v⟩,hv⟩:∃y,kvs[j]?=some y:=⟨kvs[j]'(by rw[Cd rel];exact(Bp.mp hj).1),by simp[Cd rel,(Bp.mp hj).1]⟩
 obtain⟨y,hy,e1,e2,e3⟩:=Bu.at' rel hv;rw[hj] at hy;cases hy;subst e1;refine wpAny_deleteEach_nil ⟨σ,_,?_,q j v hv⟩;obtain⟨qo,es2,ep2,hq,h2,h3,h4,_,h5⟩:=dd';refine q6r I (by rw[e];exact True.intro) hs ⟨qo,hq⟩ ⟨By (List.length_eraseIdx_le _ _) z,hd,_,KT.keeps (Bu.ers j rel) fun c ys ec=>?_,qo,es2,ep2,hq,h2,h3,h4,h5⟩;rw[q0c (z1b ec e (fun z=>nomatch z))];exact ec
end
theorem q6x(ho:s.heap.get? a=some o)(hc:o.ExactDict)(hd:o.data=.dict es ep)(hs:(a==Dg)=false)(hz:es.size<=sizeLine)(h:∀t t',Q (.int es.size t) { s with toks:=t' }):wpAny (model prog w) A (call (.builtin "len") [.ref a]) Q E s:=by
  have hT:s.TypeIs (.ref a) "dict" := ⟨o,ho,hc.1⟩
  have hz63:¬((es.size:Nat):Int)>=2^63:=by rw[Cp] at hz;lia
  refine Oh (Ot (by decide +kernel) entry_len ?_);have hck:Mg "len" ⟨[.ref a],[]⟩=pure ():=by
    first
      |exact checkBuiltinCall_of_none (by decide +kernel) (by decide +kernel) _
      |rfl
      |(unfold Mg;rfl)
  refine Ku hck ?_;refine Aa ?_;refine Ab (Aa (Bn hT Oa (Bj Oa hT PySem.F.entry_dict_len ?_ (PySem.F.args_dict_len_1 _))));refine Aa (Aa (Fe hT ?_));refine Ab ?_;show wpAny _ _ (do
      let __do_lift<-dictSize a;let __do_lift_1<-Ls a
      retInt (↑__do_lift + ↑__do_lift_1)) _ _ _
  unfold dictSize Ls;rw[hs];refine Aa (Aa (Dm ho hd (Ab ?_)));refine Aa (Ab ?_);have e0:((es.size:Nat):Int)+((0:Nat):Int)=es.size:=by lia
  rw[e0]
  wp_walk
  refine⟨_,rfl,?_⟩;have hn:¬((es.size:Nat):Int)<0:=by lia
  refine Aa (Br ?_);refine Ab (Aa (Nb ?_));rw[if_neg hn,if_neg hz63]
  wp_walk
  exact h _ _
theorem z4m:CallR X (.builtin "len") (fun xs H Q=>∃d kvs,xs=[V.ref d]/\H d=some (.dT kvs)/\Q (.int kvs.length) H):=by
 intro pins s σ H xs us Q I r h;obtain⟨d,kvs,rfl,e,q⟩:=h;obtain⟨u,rfl,ru⟩:=vals1 r;cases ru;obtain⟨z,hd,xs,rel,dd⟩:=z6f I.hok e;obtain⟨o',es,ep,ho',hc,hdd,he,his,hn⟩:=dd;have hlen:es.size=kvs.length:=by
  have:=congrArg List.length he;rw[Ac,Ca] at this;rw[this,Cd rel]
 refine q6x ho' hc hdd hd (by rw[hlen];exact z) fun t t'=>⟨.int kvs.length,H,I.tok _,⟨t,by rw[hlen]⟩,q⟩
end L2
namespace PySem.Sk
open Sem (wp)
open PySem.Spec
abbrev Tb:=SetTable×List Int
def st1(x:Tb)(v:Int):Tb:=if v∈x.2 then x else match x.1.freeSlot v with
 |some (sl,_)=>((x.1.put sl).1,x.2.take (x.1.put sl).2++v::x.2.drop (x.1.put sl).2)
 |none=>x
def ok1(x:Tb)(v:Int):Bool:=decide (v∈x.2)||(match x.1.freeSlot v with
 |some (sl,wd) => !wd&&(x.1.put sl).1.fits (x.2.length+1) && !(x.1.put sl).1.tooFull&&decide ((x.1.put sl).2<=x.2.length)
 |none=>false)
structure Els (es:Array (Int×Value)) (hs:List Int):Prop where
 fs:es.toList.map (·.1)=hs
 vs:∀e∈es.toList,Qf e.1=e.1/\∃t,e.2=.int e.1 t
def TbAt(h:Heap)(S:Addr)(es:Array (Int×Value))(ep:Nat)(x:Tb):Prop:=h.get? S=some { cls:=.type "set",dict:=none,data:=.set es ep x.1 }/\Els es x.2/\x.1.fits x.2.length=true/\x.1.plain=true/\x.2.length<=10
section
variable{prog:Program}{w:World}{A:Around}{E:Value->Ad->Prop}{s:Ad}
theorem Els.len{es:Array (Int×Value)}{hs:List Int}(h:Els es hs):es.size=hs.length:=by rw[<- h.fs,Ac,Ca]
theorem Els.elems{es:Array (Int×Value)}{hs:List Int}(h:Els es hs):ElemsOf (Hw prog w) es.toList:=fun e he=>by
 obtain⟨h1,t,h2⟩:=h.vs e he;exact⟨⟨e.1,by rw[h2];exact Ou _ _ _ _,h1.symm⟩,by rw[h2];rfl⟩
theorem Els.ins{es:Array (Int×Value)}{hs:List Int}(h:Els es hs){v:Int}{t:Nat}(hv:Qf v=v){p:Nat}(hp:p<=hs.length):Els (Cv es p (v,.int v t)) (hs.take p++v::hs.drop p):=by
 have hl:(Cv es p (v,Value.int v t)).toList=es.toList.take p++(v,.int v t)::es.toList.drop p:=by
  unfold Cv;simp[Jp]
 refine⟨?_,fun e he=>?_⟩
 ·rw[hl,Av,Ak,Ge,Pf,h.fs]
 ·rw[hl] at he;rcases Az.mp he with z|z
  ·exact h.vs e (Fo z)
  ·rcases Bb.mp z with rfl|z
   ·exact⟨hv,t,rfl⟩
   ·exact h.vs e (Oq z)
theorem z9g{S:Addr}{es:Array (Int×Value)}{ep:Nat}{x:Tb}{v:Int}{t:Nat}{Q:Bool->Ad->Prop}(hT:TbAt s.heap S es ep x)(hv:Qf v=v)(hok:ok1 x v=true)(hl:x.2.length<10)(h:∀b h' es' ep',De S s.heap h'->TbAt h' S es' ep' (st1 x v)->Q b { s with heap:=h' }):wpAny (model prog w) A (setAddHashed S (.int v t) v) Q E s:=by
 obtain⟨ho,hel,hf,hp,hl10⟩:=hT;have hz:=hel.len;have hf':x.1.fits es.size=true:=by rw[hz];exact hf
 have hE:ElemsOf (Hw prog w) es.toList:=hel.elems;unfold setAddHashed setAddHashedIn;refine Br (Aa (Jj ho rfl hf' ?_));dsimp only;rw[byScan_of (knd:=Hw prog w) rfl (by show es.size<4096;lia) hE];simp only[↓reduceIte];unfold setAddByScan;refine Aa (Aa (Hq ?_));have hsc:=fun{Q'} (hq:Q' _ s)=>wpAny_setScan_of (A:=A) (E:=E) (knd:=Hw prog w) (adding:=true) (Q:=Q') (Ou prog w v t) ho rfl hf' hE hq;rw[show(Hw prog w).hash v=v from hv] at hsc;refine Aa (hsc ?_);have hidx:∀e∈es.toList,(Hw prog w).is v e.2=decide (e.1=v):=fun e he=>by
  obtain⟨_,u,e2⟩:=hel.vs e he;rw[e2];exact KeyKind.is_eq_decide (knd:=Hw prog w) (Ou prog w e.1 u) v |>.trans (decide_eq_decide.mpr eq_comm)
 cases hr:List.findIdx? (fun e=>(Hw prog w).is v e.2) es.toList with
 |some j =>
  obtain⟨hj,hpj,_⟩:=List.findIdx?_eq_some_iff_getElem.mp hr;have hm:v∈x.2:=by
   rw[hidx _ (Mh hj)] at hpj;rw[<- hel.fs];exact Ag.mpr ⟨_,Mh hj,of_decide_eq_true hpj⟩
  have est:st1 x v=x:=if_pos hm;refine Ab (Ab ?_);exact h _ s.heap es ep (Gu _ _) (by rw[est];exact⟨ho,hel,hf,hp,hl10⟩)
 |none =>
  have hm:v∉x.2:=fun z=>by
   rw[<- hel.fs] at z;obtain⟨e,he,rfl⟩:=Ag.mp z;have:=List.findIdx?_eq_none_iff.mp hr e he;rw[hidx e he] at this;simp at this
  unfold ok1 at hok;rw[decide_eq_false hm,Bool.false_or] at hok;unfold st1 at h;rw[if_neg hm] at h;cases hfs:x.1.freeSlot v with
  |none=>rw[hfs] at hok;cases hok
  |some sw =>
   obtain⟨sl,wd⟩:=sw;rw[hfs] at hok h;dsimp only at hok h;simp only[Eb,decide_eq_true_eq,Bool.not_eq_true'] at hok;obtain⟨⟨⟨rfl,hfit⟩,hful⟩,hple⟩:=hok;have hlay:layNew x.1 es v (.int v t)=(Cv es (x.1.put sl).2 (v,.int v t),(x.1.put sl).1,false,false):=by
    have hsz:(Cv es (x.1.put sl).2 (v,Value.int v t)).size=x.2.length+1:=by
     have:=(hel.ins (t:=t) hv hple).len;rw[this];simp;lia
    unfold layNew;rw[hfs];dsimp only;rw[hsz];unfold SetTable.orStandIn;rw[if_pos hfit,hfit];rfl
   dsimp only;rw[hlay];dsimp only;have hpl:(x.1.put sl).1.plain=true:=hp;have hins:=hel.ins (t:=t) hv hple;have hs2:(Cv es (x.1.put sl).2 (v,Value.int v t)).size=x.2.length+1:=by
    rw[hins.len];simp;lia
   refine Aa (Ab ?_);rw[if_pos hpl];refine Aa (Ab ?_);simp only[↓reduceIte];refine Aa (wpAny_storeSet_of ho rfl ?_ (fits_of_scanBound (by rw[hs2];show _<4096;lia)));rw[hful];simp only[Nu,Bool.and_false,Bg,↓reduceIte];refine Ab (Ab ?_);have hg2:(s.heap.update S (Obj.putSet (Cv es (x.1.put sl).2 (v,Value.int v t)) (x.1.put sl).1)).get? S=some { cls:=.type "set",dict:=none,data:=.set (Cv es (x.1.put sl).2 (v,.int v t)) (ep+1) (x.1.put sl).1 }:=by
    have:=Gz (Obj.putSet (Cv es (x.1.put sl).2 (v,Value.int v t)) (x.1.put sl).1) ho rfl;exact this
   refine h _ _ _ (ep+1) (Ds s.heap S _) ⟨hg2,hins,?_,hpl,?_⟩
   ·have e:(x.2.take (x.1.put sl).2++v::x.2.drop (x.1.put sl).2).length=x.2.length+1:=by simp;lia
    rw[e];exact hfit
   ·simp;lia
end
def runN(x:Tb):List Int->Option Tb
 |[]=>some x
 |v::r=>if ok1 x v=true/\x.2.length<10/\Qf v=v then runN (st1 x v) r else none
section
variable{prog:Program}{w:World}{A:Around}{R:Result->Ad->Prop}{I:Addr}{fp wr:List Addr}{G:Array GenState->Array GenState->Prop}{n:Nat}{P:Nat->Value->Prop}{St:Nat->Ad->Prop}
theorem z6t(W:WalksS prog w A.in1 I fp wr G n P St){S:Addr}(hSf:S∉fp){y:Tb}:∀(rest:List Int) (i:Nat) (s:Ad) (x:Tb) (es:Array (Int×Value)) (ep:Nat),i+rest.length=n ->
  (∀j v,j<rest.length->P (i+j) v->∃t,v=.int (rest.getD j 0) t)->St i s->TbAt s.heap S es ep x->runN x rest=some y ->
  (∀s' es' ep',Moved (S::wr) G s s'->TbAt s'.heap S es' ep' y->R (.ok (.ret .none)) s')->Er (model prog w) A (.builtin "set.update.loop" ⟨[.ref S,.ref I],[]⟩) R s:=by
 have hSw:S∉wr:=fun h=>hSf (W.sub _ h);have hsub:∀b∈wr,b∈S::wr:=fun b hb=>Ah _ hb;intro rest;induction rest with
 |nil =>
  intro i s x es ep hn _ st hT hr hR;cases hr;refine Cw Iy ?_;rw[Cg Ey _];have hin:i=n:=hn;subst hin;refine Aa (W.done s _ _ st fun s' hm=>Ab (hR s' es ep (hm.mono hsub) ?_));exact⟨hm.heap S _ hSw hT.1,hT.2⟩
 |cons v r ih =>
  intro i s x es ep hn hval st hT hr hR;rw[Bl] at hn;unfold runN at hr;split at hr
  ·rename_i hok;refine Cw Iy ?_;rw[Cg Ey _];refine Aa (W.item i s _ _ (by lia) st fun u s' hP st' hm=>?_);obtain⟨t,rfl⟩:=hval 0 u (by simp) hP;have hT':TbAt s'.heap S es ep x:=⟨hm.heap S _ hSw hT.1,hT.2⟩
   show wpAny _ A.in1 (Ja [Value.int v t] (setAdd S (.int v t)) >>= _) _ _ s';refine Aa (Br ?_);unfold setAdd;refine Br (Aa ((Hw prog w).pyHash (k:=v) (Ou prog w v t) ?_));rw[show(Hw prog w).hash v=v from hok.2.2];refine z9g (s:={ s' with toks:=s'.toks+1 }) hT' hok.2.2 hok.1 hok.2.1 fun b h' es' ep' sb hT2=>?_;refine Ab ⟨Fi Ey _,ih (i+1) _ (st1 x v) es' ep' (by lia) (fun j u hj hp=>?_) (W.frame _ s' _ _ st' (Fs _) fun b hb o e=>?_) hT2 hr fun s2 es2 ep2 hm2 hT3=>?_⟩
   ·have:=hval (j+1) u (by rw[Bl];lia) (by rw[show i+(j+1)=i+1+j by lia];exact hp);exact this
   ·rw[sb.2 b fun z:b=S=>hSf (z▸hb)];exact e
   ·refine hR s2 es2 ep2 (Moved.trans W.gtrans ((hm.mono hsub).then_heap (Fs _) fun b o hb e=>?_) hm2) hT3;rw[sb.2 b fun z:b=S=>hb (z▸Ap)];exact e
  ·cases hr
end
section
variable{prog:Program}{w:World}{A:Around}{E:Value->Ad->Prop}{s:Ad}
abbrev tb0(w:World):SetTable:=.fresh 0 0 (!w.params.followText "set-order")
theorem z9h(a:Value){Q₁:Value->Ad->Prop}(h:Q₁ (.ref s.heap.objs.size) { s with heap:=s.heap.push { cls:=.type "set",dict:=none,data:=.set #[] 0 (tb0 w) } }):
  Er (model prog w) A (.call (.builtin "set.__new__") ⟨[.type "set",a],[]⟩) (wants Q₁ E) s:=by
 refine codeAny_of_tree ?_;show wpAny _ A.in1 (do Mg "set.__new__" ⟨[.type "set",a],[]⟩;again (.builtin "set.__new__" ⟨[.type "set",a],[]⟩)) _ _ s;refine Aa (Ku (F.newCall_set_1 a) (Ab ⟨Fi Sd _,Cw F.entry_set_new ?_⟩));rw[Cg Sd _];unfold Bx.«set.__new__» Bx.Frozenset.newClass;have hsub:=sub_set_self;obtain⟨hp,g,d,tk,os⟩:=s;dsimp only
 wp_walk
 refine Ht (Ab ?_);dsimp only;simp only[newObj];exact Aa (wpAny_alloc (Ab (Ab h)))
set_option maxHeartbeats 3200000 in
theorem z6u{l:Addr}{items:Array Value}{ns:List Int}{y:Tb}{Q:Value->Ad->Prop}(hh:A.handled=none)(hl:s.heap.IsList l items)(hi:Ov items.toList ns)(hr:runN (tb0 w,[]) ns=some y)(h:∀(h':Heap) (tk:Nat) es ep,TbAt h' s.heap.objs.size es ep y->(∀b o,b<s.heap.objs.size->s.heap.get? b=some o->h'.get? b=some o)->Q (.ref s.heap.objs.size) { s with heap:=h',toks:=tk }):
  wpAny (model prog w) A (call (.type "set") [.ref l]) Q E s:=by
 obtain⟨c,tl,hmro⟩:=Fw.mro;have hmade:=Fw.made;have hsub:=Fw.sub;refine Oh (codeAny_of_tree ?_);show wpAny _ _ (callAny (.type "set") _) _ _ _;refine Ab ⟨Code.quiet_builtin _ (by decide +kernel),Cw F.entry_type_call ?_⟩;rw[Around.under_plain (weight_type_call_type "set" [.ref l] []) rfl];have h1:=Fw.notType;have h2:=Fw.canCreate;have hct:=F.typeCall_set_1 (.ref l);repeat any_goals first|assumption|wp_step
 obtain⟨led,hled⟩:∃led,led = !w.params.followText "set-order" := ⟨_,rfl⟩
 have hr:runN (.fresh 0 0 led,[]) ns=some y:=by rw[hled];exact hr
 refine Gx (z9h (.ref l) (E:=E) (Q₁:=fun obj s₁=>obj=.ref s.heap.objs.size/\s₁={ s with heap:=s.heap.push { cls:=.type "set",dict:=none,data:=.set #[] 0 (.fresh 0 0 led) } }) (by rw[hled];exact⟨rfl,rfl⟩)) fun r s₁ hr₁=>?_;cases r with
 |error e=>exact hr₁
 |ok fl =>
  cases fl with
  |ret obj =>
   obtain⟨rfl,rfl⟩:=hr₁;have hS:(s.heap.push { cls:=.type "set",dict:=none,data:=.set #[] 0 (.fresh 0 0 led) }).get? s.heap.objs.size=some { cls:=.type "set",dict:=none,data:=.set #[] 0 (.fresh 0 0 led) }:=Al _ rfl;have hT:Ad.TypeIs { s with heap:=s.heap.push { cls:=.type "set",dict:=none,data:=.set #[] 0 (.fresh 0 0 led) } } (.ref s.heap.objs.size) "set" := ⟨_,hS,rfl⟩
   have hli:=Fw.init.lookup;have hbi:=Fw.init.bind (.ref s.heap.objs.size);repeat any_goals first|assumption|wp_step
   refine Gx (Ot (R:=wants (fun r s₂=>r=.none/\∃h' tk es ep,s₂={ s with heap:=h',toks:=tk }/\TbAt h' s.heap.objs.size es ep y/\(∀b o,b<s.heap.objs.size->s.heap.get? b=some o->h'.get? b=some o)) E) Fw.init.plain F.entry_set_init (check_set_init_1 hT ?_)) fun r₂ s₂ hr₂=>?_
   ·obtain⟨ol,hol,hcl,nl,hdl⟩:=hl;obtain⟨ocls,odict,odata,oslots⟩:=ol;simp only at hcl hdl;subst hcl;subst hdl;have hol':(s.heap.push { cls:=.type "set",dict:=none,data:=.set #[] 0 (.fresh 0 0 led) }).get? l=some { cls:=.type "list",dict:=odict,data:=.seq items nl,slots:=oslots }:=Ae _ hol;have hsls:=F.sub_list_set;have hslf:=F.sub_list_frozenset;have hne:(Value.type "list" == Value.type "dict")=false:=by decide
    have hl1:(s.heap.push { cls:=.type "set",dict:=none,data:=.set #[] 0 (.fresh 0 0 led) }).IsList l items:=⟨_,hol',rfl,nl,rfl⟩
    unfold Bx.«set.__init__» noKeywords Bx.Frozenset.updateFrom;generalize hPI:Ka=PI
    wp_walk
    subst hPI;refine Lj hl1 ?_;refine Aa (wpAny_runValue ?_);have hlS:l<s.heap.objs.size:=Aj hol;have ez:(s.heap.push { cls:=.type "set",dict:=none,data:=.set #[] 0 (.fresh 0 0 led) }).objs.size=s.heap.objs.size+1:=Es _ _;have hneI:l≠(s.heap.push { cls:=.type "set",dict:=none,data:=.set #[] 0 (.fresh 0 0 led) }).objs.size:=Au (by rw[ez];exact Dn hlS);have hSf:s.heap.objs.size∉[(s.heap.push { cls:=.type "set",dict:=none,data:=.set #[] 0 (.fresh 0 0 led) }).objs.size,l]:=by
     simp only[Bb,Fu,or_false,not_or];exact⟨Au (by rw[ez];exact Ea _),Dv hlS⟩
    have hlen:items.size=ns.length:=by rw[<- Ca];exact hi.length
    refine z6t ((Walks.list (by simp[hh]) _ l hneI items).toS) hSf ns 0 _ (.fresh 0 0 led,[]) #[] 0 (by lia) (fun j v hj hp=>?_) ⟨⟨_,Al _ rfl,rfl,rfl⟩,hl1.push _⟩ ⟨?_,⟨rfl,(fun e he=>nomatch he)⟩,rfl,rfl,Bv _⟩ hr fun s' es' ep' hm hT'=>?_
    ·have hp:items[0+j]?=some v:=hp;rw[Px] at hp;exact Ov.int_at hi j v (by rw[Ed];exact hp)
    ·exact Ae _ hS
    ·obtain⟨h',g',d',tk',os'⟩:=s';have eg:g'=s.gens:=hm.gens;have ed:d'=s.drawn:=hm.drawn;have eo:os'=s.os:=hm.os;subst eg;subst ed;subst eo;refine Ab ?_;show wpAny _ _ (ret Value.none) _ _ _;refine Ab ⟨rfl,h',tk',es',ep',rfl,hT',fun b o hb e=>?_⟩;refine hm.heap b o ?_ (Ae _ (Ae _ e));simp only[Bb,Fu,or_false,not_or];exact⟨Au hb,Au (by rw[ez];exact Dn hb)⟩
   ·cases r₂ with
    |error e=>exact hr₂
    |ok fl₂ =>
     cases fl₂ with
     |ret r =>
      obtain⟨rfl,h',tk,es,ep,rfl,hT',hk'⟩:=hr₂;repeat any_goals first|assumption|wp_step
      exact h _ _ _ _ hT' hk'
     |_=>exact hr₂.elim
  |_=>exact hr₁.elim
end
end PySem.Sk
namespace PySem.Sk
open Sem (wp)
open PySem.Spec
theorem sl_next:Slot "set_iterator" "__next__" "set_iterator.__next__" :=
 .of (owner := "set_iterator") (n := "__next__") (by rw[typeLookup_type,Nw];kernel_rfl) (by decide +kernel) (by decide +kernel) (by decide +kernel) (by first|exact .inl (by decide +kernel)|exact .inr (by decide +kernel)) (by rw[isSubtype_type];kernel_rfl)
theorem z4n:Rk table "set_iterator.__next__" = some Bx.«set_iterator.__next__» := entryFor_of_tree (by kernel_rfl)
theorem z9i:Rk table "set.__iter__" = some Bx.«frozenset.__iter__» := entryFor_alias (id' := "frozenset.__iter__") (by kernel_rfl) rfl (by decide +kernel) (by kernel_rfl)
theorem ow_si:Manifest.owners.lookup (String.ofList ['r', 'o', 't', 'a', 'r', 'e', 't', 'i', '_', 't', 'e', 's'].reverse)=some Manifest.sig_set_iterator:=by kernel_rfl
theorem z4o(a:Value):argsOk "set_iterator.__next__" ⟨[a],[]⟩:=by
 unfold argsOk;rw[signature?_of (id := "set_iterator.__next__") (n:=['_', '_', 't', 'x', 'e', 'n', '_', '_']) (o:=['r', 'o', 't', 'a', 'r', 'e', 't', 'i', '_', 't', 'e', 's']) (by kernel_rfl) ow_si];kernel_rfl
def slotAt(pl:Array Nat):Nat->Nat
 |0=>0
 |i+1=>pl.getD i 0+1
def wk(t:SetTable)(n:Nat):Bool:=(List.range (n+1)).all fun i=>SetTable.below t.place (slotAt t.place i)==i
theorem z4p{α:Type}(f:Nat->Nat):∀(fuel k:Nat) (left:List α) (out:Array α),left.length=fuel->(Qb f fuel k left out).size=out.size+fuel/\∀x∈(Qb f fuel k left out).toList,x∈out.toList\/x∈left
 |0,k,left,out,_=>⟨rfl,fun x hx=>.inl hx⟩
 |fuel+1,k,left,out,h=>by
  have hlt:f k%left.length<left.length:=Nat.mod_lt _ (by lia);unfold Qb;rw[Iz hlt];dsimp only;obtain⟨a,b⟩:=z4p f fuel (k+1) (left.eraseIdx (f k%left.length)) (out.push left[f k%left.length]) (by rw[List.length_eraseIdx_of_lt hlt];lia);refine⟨by rw[a,Array.size_push];lia,fun x hx=>?_⟩;rcases b x hx with z|z
  ·rw[Array.toList_push] at z;rcases Az.mp z with z|z
   ·exact .inl z
   ·rw[Ar.mp z];exact .inr (Mh hlt)
  ·exact .inr (Iw z)
theorem z9j{α:Type}(f:Nat->Nat)(xs:Array α):(La f xs).size=xs.size/\∀x∈(La f xs).toList,x∈xs.toList:=by
 obtain⟨a,b⟩:=z4p f xs.size 0 xs.toList #[] (by simp);exact⟨by unfold La;rw[a];simp,fun x hx=>(b x hx).elim (fun z=>nomatch z) id⟩
section
variable{prog:Program}{w:World}{A:Around}{E:Value->Ad->Prop}{s:Ad}
def f0(w:World)(t:SetTable)(i:Nat):Nat:=if w.params.followText "set-order" = true then 0 else slotAt t.place i
structure Rdy (w:World) (y:Tb):Prop where
 led:y.1.led = !w.params.followText "set-order"
 wk:wk y.1 y.2.length=true
theorem z0p{S:Addr}{es:Array (Int×Value)}{ep:Nat}{y:Tb}{i:Nat}{Q:Option (Value×Nat)->Ad->Prop}(hT:TbAt s.heap S es ep y)(hy:Rdy w y)(hi:i<=y.2.length)(h:(∀v,i<y.2.length->(∃e∈es.toList,v=e.2)->Q (some (v,f0 w y.1 (i+1))) s)/\(i=y.2.length->Q none s)):wpAny (model prog w) A (setNext S (f0 w y.1 i) i ep) Q E s:=by
 obtain⟨ho,hel,hf,hp,hl10⟩:=hT;have hz:=hel.len;have hf':y.1.fits es.size=true:=by rw[hz];exact hf
 have hps:y.1.place.size=es.size:=by
  simp only[SetTable.fits,Eb,beq_iff_eq] at hf';exact hf'.1
 unfold setNext;refine Aa (Jj ho rfl hf' ?_);unfold Se;refine Aa (Aa (Ht (Ab ?_)));show wpAny _ _ (if w.params.followText "set-order" = true then _ else _) _ _ _;cases hb:w.params.followText "set-order" with
 |true =>
  rw[if_pos rfl];dsimp only;rw[if_neg (by simp)];unfold setWalk;refine Aa (Aa (Jj ho rfl hf' ?_));unfold Se;refine Aa (Aa (Ht (Ab ?_)));show wpAny _ _ (if w.params.followText "set-order" = true then _ else _) _ _ _;rw[hb,if_pos rfl];refine Aa (Ht (Ab (Ab ?_)));have e0:f0 w y.1 i=f0 w y.1 (i+1):=by unfold f0;rw[if_pos hb,if_pos hb]
  obtain⟨p1,p2⟩:=z9j (w.params.setOrder S ep) es;show Q (((La (w.params.setOrder S ep) es)[i]?).map fun e=>(e.2,f0 w y.1 i)) s;rcases Qc i y.2.length with z|z
  ·have hlt:i<(La (w.params.setOrder S ep) es).size:=by rw[p1,hz];exact z
   rw[Bq hlt];show Q (some ((La (w.params.setOrder S ep) es)[i].2,f0 w y.1 i)) s;rw[e0];exact h.1 _ z ⟨_,p2 _ (by simp),rfl⟩
  ·rw[Gq (by rw[p1,hz];exact z)];exact h.2 (by lia)
 |false =>
  rw[if_neg (by decide)];have hled:y.1.led=true:=by rw[hy.led,hb];rfl
  have e0:∀j,f0 w y.1 j=slotAt y.1.place j:=fun j=>by unfold f0;rw[hb];exact if_neg (by decide)
  have hbel:SetTable.below y.1.place (slotAt y.1.place i)=i:=by
   have:=Jt.mp hy.wk i (List.mem_range.mpr (by lia));exact eq_of_beq this
  dsimp only;have hdr:(!y.1.plain&&decide (es.size>1))=true↔False:=by rw[hp];simp
  show wpAny _ _ (if (!y.1.plain&&decide (es.size>1))=true then _ else _) _ _ _;rw[if_neg hdr.mp];refine Aa ?_;show wpAny _ _ (if (!y.1.led && !es.isEmpty)=true then _ else _) _ _ _;rw[hled,if_neg (by simp)];refine Ab (Ab ?_);rw[e0 i,hbel];rcases Qc i y.2.length with z|z
  ·rw[Bq (show i<es.size by lia),Bq (show i<y.1.place.size by lia)];have:=h.1 es[i].2 z ⟨es[i],by simp,rfl⟩;rw[e0 (i+1)] at this;have e1:slotAt y.1.place (i+1)=y.1.place[i]'(by lia)+1:=by
    show y.1.place.getD i 0+1=_;rw[Hh,Bq (show i<y.1.place.size by lia)];rfl
   rw[e1] at this;exact this
  ·rw[Gq (show es.size<=i by lia)];exact h.2 (by lia)
def IsSI(h:Heap)(it S:Addr)(f i n ep:Nat):Prop:=h.get? it=some { cls:=.type "set_iterator",data:=.fields #[.int f 0,.int i 0,.ref S,.int n 0,.int ep 0] }
theorem z6v{S:Addr}{es:Array (Int×Value)}{ep:Nat}{y:Tb}{Q:Value->Ad->Prop}(hT:TbAt s.heap S es ep y)(hQ:Q (.ref s.heap.objs.size) { s with heap:=s.heap.push { cls:=.type "set_iterator",data:=.fields #[.int (f0 w y.1 0) 0,.int (0:Nat) 0,.ref S,.int y.2.length 0,.int ep 0] } }):wpAny (model prog w) A (Ka (.ref S)) Q E s:=by
 obtain⟨ho,hel,hf,hp,hl10⟩:=hT;have hz:=hel.len;have hf':y.1.fits es.size=true:=by rw[hz];exact hf
 have hTy:s.TypeIs (.ref S) "set" := ⟨_,ho,rfl⟩
 refine Jh hTy Sf (Bj Sf hTy z9i ?_ (F.args_set_iter_1 _));unfold Bx.«frozenset.__iter__» Bx.Frozenset.slot0 Bx.Frozenset.addrOf;refine Aa (Aa (Ab (Ab ?_)));unfold Bx.Frozenset.sizeOf;refine Aa (Aa (Kp ho rfl hf' (Ab ?_)));unfold setDrawn;refine Aa (Aa (Jj ho rfl hf' ?_));unfold Se;refine Aa (Aa (Ht (Ab (Ab ?_))));have hdr:(!w.params.followText "set-order" && (!y.1.plain&&decide (es.size>1)))=true↔False:=by rw[hp];simp
 show wpAny _ _ (if (!w.params.followText "set-order" && (!y.1.plain&&decide (es.size>1)))=true then _ else _) _ _ _;rw[if_neg hdr.mp];refine Aa (Ab (Aa (wpAny_setEpoch_of ho rfl hf' ?_)));refine Aa (Bi (Ab ⟨_,rfl, "set_iterator",_,⟨_,Al _ rfl,rfl⟩,sl_next.lookup,?_⟩));have e0:f0 w y.1 0=0:=by unfold f0 slotAt;split<;>rfl
 rw[e0,<- hz] at hQ;simpa[Hu] using hQ
theorem z9k{S it:Addr}{es:Array (Int×Value)}{ep i:Nat}{y:Tb}{Q:Option Value->Ad->Prop}(hT:TbAt s.heap S es ep y)(hy:Rdy w y)(hI:IsSI s.heap it S (f0 w y.1 i) i y.2.length ep)(hi:i<y.2.length)(hQ:∀v h',(∃e∈es.toList,v=e.2)->IsSI h' it S (f0 w y.1 (i+1)) (i+1) y.2.length ep->De it s.heap h'->Q (some v) { s with heap:=h' }):wpAny (model prog w) A (Gw (.ref it)) Q E s:=by
 have hTi:s.TypeIs (.ref it) "set_iterator" := ⟨_,hI,rfl⟩
 have ho:=hT.1;have hz:=hT.2.1.len;have hf':y.1.fits es.size=true:=by rw[hz];exact hT.2.2.1
 refine Aa (En (Bn hTi sl_next (Bj sl_next hTi z4n ?_ (z4o _))));unfold Bx.«set_iterator.__next__»;refine Aa (Ab (Aa (Hb hI rfl ?_)));refine Aa (Kp ho rfl hf' ?_);rw[if_neg (by rw[hz];simp)];dsimp only;refine Aa (z0p hT hy (Ft hi) ⟨fun v _ hv=>?_,fun z=>absurd z (Au hi)⟩);refine Aa (Cs hI (by simp) fun h1 e1 sb1=>?_);refine Aa (Cs (s:={ s with heap:=h1 }) e1 (by simp) fun h2 e2 sb2=>?_);refine Ab ⟨_,rfl,Ab (hQ v h2 hv ?_ (sb1.trans sb2))⟩;refine e2.trans ?_;simp[Hu]
theorem si_end{S it:Addr}{es:Array (Int×Value)}{ep:Nat}{y:Tb}{Q:Option Value->Ad->Prop}(hh:A.handled=none)(hT:TbAt s.heap S es ep y)(hy:Rdy w y)(hI:IsSI s.heap it S (f0 w y.1 y.2.length) y.2.length y.2.length ep)(hQ:∀h',Na it s.heap h'->Q none { s with heap:=h' }):wpAny (model prog w) A (Gw (.ref it)) Q E s:=by
 have hTi:s.TypeIs (.ref it) "set_iterator" := ⟨_,hI,rfl⟩
 have ho:=hT.1;have hz:=hT.2.1.len;have hf':y.1.fits es.size=true:=by rw[hz];exact hT.2.2.1
 refine Aa (En (Bn hTi sl_next (Bj sl_next hTi z4n ?_ (z4o _))));unfold Bx.«set_iterator.__next__»;refine Aa (Ab (Aa (Hb hI rfl ?_)));refine Aa (Kp ho rfl hf' ?_);rw[if_neg (by rw[hz];simp)];dsimp only;refine Aa (z0p hT hy (Ai _) ⟨fun v z _=>absurd z (Dy _),fun _=>?_⟩);refine Aa (Cs hI (by simp) fun h1 e1 sb1=>?_);refine Aa (Aa (Bi ?_ (by size_fits)));refine Aa (Ku (by first|rfl|(simp only[Nr];rfl)) ?_);refine Bi ?_ (by size_fits);refine Aa (Pb ?_);rw[show A.in1.handled=none from hh];refine Aa (Ab (Qu ?_));refine Aa (Hr ⟨_,Al _ rfl,rfl⟩ Ks ?_);exact Ab (hQ _ ((sb1.extBut.push _).push _))
end
end PySem.Sk
namespace L2
open PySem PySem.Spec PyProof.Rows SB TX PySem.Sk
def setO(S:Addr)(y:Tb):HO:=.ext fun h=>∃es ep,TbAt h S es ep y
def rSetI(w:World):List V->Hp->VK->Prop:=fun vs H Q=>∃L ns y,vs=[.ref L]/\H L=some (.lst (ns.map V.int))/\runN (tb0 w,[]) ns=some y/\∀S,H S=none->Q (.ref S) (upd H S (setO S y))
theorem z4q(hr:Room k X.A):CallR X (.type "set") (rSetI X.w):=by
 intro pins s σ H xs us Q I rv h;obtain⟨L,ns,y,rfl,hL,hrun,q⟩:=h;obtain⟨u,rfl,ru⟩:=rv.one;cases ru;obtain⟨z,its,n,r,e⟩:=I.hok L _ hL;refine z6u (items:=its.toArray) (ns:=ns) hr.hd ⟨_,e,rfl,n,rfl⟩ (by simpa using z1m r) hrun fun h' tk es ep hT kp=>?_;exact⟨.ref s.heap.objs.size,_,I.laid (o:=setO s.heap.objs.size y) (t':=tk) (fun b u eb=>kp b u (Aj eb) eb) (Ai _) ⟨⟨es,ep,hT⟩,⟨_,hT.1⟩,fun h1 h2 ⟨es',ep',t1,t2⟩ k=>⟨es',ep',k _ t1,t2⟩⟩,rfl,q _ I.fresh⟩
def nOf:Value->Int
 |.int n _=>n
 |_=>0
theorem z0q{S:List Int}:∀{vs:List Value},(∀v∈vs,∃n∈S,∃t,v=.int n t)->∃ns:List Int,Lv vs ns
 |[],_=>⟨[],.nil⟩
 |v::vs,h=>by
  obtain⟨n,_,t,rfl⟩:=h v Ap;obtain⟨ns,hn⟩:=z0q fun u hu=>h u (Ah _ hu)
  exact⟨n::ns,.cons n t hn⟩
theorem z2b{prog:Program}{w:World}{A:Around}{vs:List Value}{h:Heap}{S:List Int}(few:vs.length<64)(hp:∀v∈vs,∃n∈S,∃t,v=.int n t):Ready prog w A vs h oneType' (fun v=>∃n t,v=.int n t) nOf where
 few:=few
 all:=fun v hv=>let ⟨n,_,t,e⟩:=hp v hv;⟨n,t,e⟩
 kind:=fun h2 A' s' E Q _ k q=>by
  obtain⟨ns,hn⟩:=z0q hp;match vs,h2 with
  |v1::v2::r,_ =>
   rw[keyKind_ints hn];exact Ab q
 tells:=fun A' s' _ k E x y Q ⟨n,t,hx⟩ ⟨m,u,hy⟩ h'=>by
  subst hx;subst hy;rw[keyLt'_oneType];exact oneLt_int h'
theorem z6w{prog:Program}{w:World}{A:Around}{E:Value->Ad->Prop}{s:Ad}{r:Addr}{Q:Bool->Ad->Prop}(hT:s.TypeIs (.ref r) "set")(h:Q false s):wpAny (model prog w) A (Hi (.ref r)) Q E s:=by
 unfold Hi;refine Aa (wpAny_specialOf hT PySem.F.slot_set_len.lookup ?_);generalize hid:("set.__len__" : String)=id0
 wp_delta
 rw[show splitId id0=some ("set", "__len__") from by subst hid;decide +kernel];subst hid;refine Aa (Hr (T := "set") (b:=true) hT (by rw[isSubtype_type];kernel_rfl) ?_);refine Ki (fun hab=>absurd hab (by decide)) (fun _=>?_);refine Ki (fun _=>?_) (fun hab=>absurd (by decide +kernel) hab);refine Aa (Eu hT ?_);exact Ab h
def rSortS0(w:World):List V->Hp->VK->Prop:=fun vs H Q=>∃S y,vs=[.ref S]/\H S=some (setO S y)/\Rdy w y/\∀L (ms:List Int),H L=none->(∀m∈ms,m∈y.2)->ms.length=y.2.length->Q (.ref L) (upd H L (.lst (ms.map V.int)))
theorem q4m{hs:List Int}:∀{l:List Value},(∀v∈l,∃n∈hs,∃t,v=.int n t)->∃ms:List Int,(∀m∈ms,m∈hs)/\ms.length=l.length/\Vals (ms.map V.int) l
 |[],_=>⟨[],(fun _ h=>nomatch h),rfl,.nil⟩
 |v::l,h=>by
  obtain⟨n,hn,t,rfl⟩:=h v Ap;obtain⟨ms,a,b,c⟩:=q4m (l:=l) fun u hu=>h u (Ah _ hu)
  exact⟨n::ms,fun m hm=>(Bb.mp hm).elim (fun z=>z▸hn) (a m),by rw[Bl,Bl,b],.cons ⟨t,rfl⟩ c⟩
theorem q9t(hr:Room k X.A):CallR X (.builtin "sorted") (rSortS0 X.w):=by
 intro pins s σ H xs us Q I rv h;obtain⟨S,y,rfl,hS,hy,q⟩:=h;obtain⟨u,rfl,ru⟩:=rv.one;cases ru;obtain⟨⟨es,ep,hT⟩,_,_⟩:=I.hok S _ hS;have hSL:=Aj hT.1;have hz:=hT.2.1.len;have hle:=hT.2.2.2.2;have kT:∀{h:Heap},(∀b o,s.heap.get? b=some o->h.get? b=some o)->TbAt h S es ep y:=fun kh=>⟨kh _ _ hT.1,hT.2⟩
 refine SB.sorted_ok fun{Q'} kk=>?_;refine PySem.Rv.collect_runs (n:=y.2.length) (T := "set") (Fc:=fun acc _=>∀v∈acc,∃e∈es.toList,v=e.2) (It:=fun i h=>IsSI h (s.heap.objs.size+1) S (f0 X.w y.1 i) i y.2.length ep/\TbAt h S es ep y)
  (fun h kh=>⟨_,kh _ _ hT.1,rfl⟩) hSL (by decide) (by decide) (fun A E s' Q hT hq=>z6w hT hq) (fun A E h Q kh hq=>z6v (kT kh) hq) (fun h=>Al _ rfl)
  ⟨fun acc h h' f _=>f,fun i h h' ⟨f1,f2⟩ kp=>⟨kp _ _ (Dv (Ea _)) f1,kp _ _ (Au hSL) f2.1,f2.2⟩,?_,?_⟩ (by have:sizeLine=_:=Cp;lia)
  (fun h kh ki=>⟨(fun _ h=>nomatch h),ki,kT kh⟩) (fun acc h el f hz2 kh=>?_)
 ·intro acc s' Q E hl f ⟨i1,i2⟩ hq;refine z9k i2 hy i1 hl fun v h' hv j1 sb=>?_;refine hq v h' (fun u hu=>?_) ⟨j1,(sb.2 S (Au (Dn hSL))).trans i2.1,i2.2⟩ fun b o hb e=>(sb.2 b hb).trans e;rcases Az.mp hu with z|z
  ·exact f u z
  ·rw[Ar.mp z];exact hv
 ·intro s' Q E ⟨i1,i2⟩ hq;exact si_end hr.hd i2 hy i1 fun h' eb=>hq h' fun b o hb e=>eb b o hb e
 ·have hin:∀v∈acc,∃n∈y.2,∃t,v=.int n t:=fun v hv=>by
   obtain⟨e,he,rfl⟩:=f v hv;obtain⟨_,t,et⟩:=hT.2.1.vs e he;exact⟨e.1,by rw[<- hT.2.1.fs];exact Ag.mpr ⟨e,he,rfl⟩,t,et⟩
  refine kk acc h s.toks _ _ _ (z2b (S:=y.2) (by lia) hin) fun h' out so kh' ⟨e,he⟩=>?_;have hout:∀v∈out.toList,∃n∈y.2,∃t,v=.int n t:=fun v hv=>hin v (so.perm.mem_iff.mp hv);obtain⟨ms,m1,m2,m3⟩:=q4m hout;have hl2:out.toList.length=y.2.length:=by rw[so.perm.length_eq,el]
  have keep:=fun b o z=>kh' b o (kh b o z);refine⟨.ref h.objs.size,upd H h.objs.size (.lst (ms.map V.int)),I.laid (t':=s.toks) keep hz2 ⟨by rw[Ac,m2,hl2];have:sizeLine=_:=Cp;lia,_,e,m3,?_⟩,rfl,q _ ms (I.hok.fresh hz2) m1 (by rw[m2,hl2])⟩;rw[he]
end L2
namespace HD
open PySem PySem.W PyProof.Rows
theorem end0:(∃f,endAt 0 t=some f)/\through t=true\/endAt 0 t=none/\through t=false:=by
 unfold endAt through;obtain⟨cur,code,pos,stack⟩:=t;cases stack with
 |cons a r=>exact .inr ⟨by cases cur<;>rfl,rfl⟩
 |nil =>
  cases cur with
  |pure f =>
   cases f with
   |done f=>simp_all
   |_=>simp_all
  |_=>exact .inr ⟨rfl,rfl⟩
theorem z0r{tb:String->Option Bx}{p:Program}{w:World}{n₀:Nat}{ann:Option Value}:∀{n:Nat} {s s':Ad} {t:Thread} {f:Flow} {c:Code} {q:Pos},segRun tb p w n₀ ann 0 n s t=some (f,s',c,q)->topRun tb p w n₀ ann n s t=some s'
 |0,_,_,_,_,_,_,h=>by cases h
 |n+1,s,s',t,f,c,q,h=>by
  unfold segRun at h;unfold topRun;rcases end0 (t:=t) with⟨⟨f',e⟩,th⟩|⟨e,th⟩
  ·rw[e] at h;rw[th];cases h;rfl
  ·rw[e] at h;rw[th];dsimp only at h ⊢;cases ok:stepOk n₀ ann t with
   |false=>rw[ok] at h;cases h
   |true =>
    rw[ok] at h;dsimp only at h ⊢;cases st:step (denote tb) p w s t with
    |go s1 t1=>rw[st] at h;exact z0r h
    |halt _ _=>rw[st] at h;cases h
def mkT(l:List Obj):BT:=(l.foldl (fun(a:BT×Nat) o=>(a.1.ins a.2 o,a.2+1)) (BT.nil,0)).1
noncomputable def bootT (P:Params) (os:OsState):SharedT:=⟨mkT (boot_heap P).objs.toList,11,(boot_heap P).life,#[],boot_drawn,boot_toks,os⟩
theorem z6x(P:Params)(os:OsState):(bootT P os).abs=⟨boot_heap P,#[],boot_drawn,boot_toks,os⟩:=by kernel_rfl
theorem z4r(P:Params):((boot_heap P).isNs Ci&&(#[]:Array GenState).size==0,(boot_heap P).objs.size,(boot_heap P).nsMap Ci "__annotations__")=(true,11,some (.ref 6)):=by kernel_rfl
theorem left{Yf:Ad->α}{Ya:World->α}(e:opening p=plainProg p.main.scope.names)(hN:Nat.ble 600 N=true)(f:∀s,fenceModules? p s=some s)(h:∀(w:World) (os:OsState),(segRunT Qd p w 11 (some (.ref 6)) 0 N (bootT w.params os) (topStub p)).map (fun r=>((staticsOk (Ih p.main.body) (boot_heap w.params) r.2.1.abs.heap&&namesBound p r.2.1.abs.heap&&gensDone r.2.1.abs&&laidKept (boot_heap w.params) r.2.1.abs.heap),
   openSeen q loose (Ih p.main.body) Xt true r.2.1.abs,Yf r.2.1.abs))=some (true,openGood q loose,Ya w)):LeftO p q loose Xt Yf Ya N:=fun w=>by
 obtain⟨⟨hp,gs,d,k,os⟩,e1,e2⟩:=Gp.mp (boot_open e hN f w);obtain⟨rfl,rfl,rfl,rfl⟩:hp=boot_heap w.params/\gs=#[]/\d=boot_drawn/\k=boot_toks:=by simpa using e2
 obtain⟨z1,z2,z3⟩:_/\_/\_:=by simpa only[Prod.mk.injEq] using z4r w.params
 obtain⟨⟨fl,st,c,ps⟩,r1,r2⟩:=Gp.mp (h w os);obtain⟨l1,l2,l3⟩:_/\_/\_:=by simpa only[Prod.mk.injEq] using r2
 have r:=z0r (segRun_of r1);rw[z6x] at r;have t:topFrom Qd p w N ⟨boot_heap w.params,#[],boot_drawn,boot_toks,os⟩=some st.abs:=by
  unfold topFrom;rw[z1,z2,z3,r];show(match staticsOk (Ih p.main.body) (boot_heap w.params) st.abs.heap&&namesBound p st.abs.heap&&gensDone st.abs&&laidKept (boot_heap w.params) st.abs.heap with|true=>_|false=>_)=_;rw[l1]
 unfold openEnds;rw[e1];show(topFrom Qd p w N _).map _=_;rw[t];exact congrArg some (Prod.ext l2 l3)
end HD
set_option maxHeartbeats 4000000
namespace K
open PySem L2 TX SB HM PM
def top(i:Nat):Stmt:=PySem.Challenge.pw_renamehall_k50_walks.main.body.getD i (.Pass ⟨0,0,0,0⟩)
structure Txt (mg:Str->Option Value):Prop where
 b_set:mg "set" = none
 b_all:mg "all" = none
 b_bool:mg "bool" = none
 b_dict:mg "dict" = none
 b_enumerate:mg "enumerate" = none
 b_isinstance:mg "isinstance" = none
 b_len:mg "len" = none
 b_list:mg "list" = none
 b_max:mg "max" = none
 b_min:mg "min" = none
 b_range:mg "range" = none
 b_sorted:mg "sorted" = none
 b_str:mg "str" = none
 b_tuple:mg "tuple" = none
 MOST_THINGS:∃t,mg "MOST_THINGS" = some (.int 60 t)
structure Calls (P:Program) (w:World) (K:Af) (mg:Str->Option Value) (base:Heap):Prop where
 draw:Cal P w K mg base "_law_draw" 1 ["_law_feed", "_law_many"] spDraw
section
variable{P:Program}{w:World}{K:Af}{mg:Str->Option Value}{base:Heap}
abbrev q9u:Stmt:=top 22
theorem sc_draw:FnScope ["_law_feed", "_law_many", "_law_cell", "_law_number", "_law_found"] ["_law_feed", "_law_many"] (defScope q9u):=by trivial
theorem z9l (D : Df K mg "_law_draw" q9u ["_law_feed", "_law_many"]) (T : Txt mg) : Cal P w K mg base "_law_draw" 1 ["_law_feed", "_law_many"] spDraw := by
  refine D.cal sc_draw (fun vs H Q E h => ?_) (fun f cdv A outer s H vs Q E hr h => ?_)
  · obtain ⟨a, b, m, rfl, _⟩ := h; rfl
  · obtain ⟨a, b, m, rfl, ⟨⟨i, j, ha⟩, ns, hb⟩, hm0, hm1, k⟩ := h;refine ⟨_, (q0e (z0b (q1a q1z (q0z (ix_k K rfl) (pv 0) q0g (fun _ _ => rfl)) q0g) (z2o (pv 0) q0g q6n)) (q0e (q0w (q0m (eq_k K rfl hr) (q0z (ix_k K rfl) (pv 0) q0g (fun _ _ => rfl)) q0g (nomark _)) (q0e (q0l (i := 2) sc_draw.nd rfl (by first | exact Or.inl rfl | exact Or.inr rfl) (q0z (ix_k K rfl) (pv 0) q0g (fun _ _ => rfl))) (q0e (q0w (q0m op_gt (q0i (q2m K rfl) (by rfl) T.b_len Bo (q0a (q0z (ix_k K rfl) (pv 0) q0g (fun _ _ => rfl)) q0d)) q0g (nomark _)) (q0f (q0l (i := 2) sc_draw.nd rfl (by first | exact Or.inl rfl | exact Or.inr rfl) (q0z (ix_k K rfl) (q0z (ix_k K rfl) (pv 0) q0g (fun _ _ => rfl)) (q1a q5w (q0z (ix_k K rfl) (pv 0) q0g (fun _ _ => rfl)) (q0i (q2m K rfl) (by rfl) T.b_len Bo (q0a (q0z (ix_k K rfl) (pv 0) q0g (fun _ _ => rfl)) q0d))) (fun _ _ => rfl)))) q0j) (q0e (q0w (q0m z8g (pv 2) (q1a z7o q0g q0g) (nomark _)) (q0e (q0l (i := 3) sc_draw.nd rfl (by first | exact Or.inl rfl | exact Or.inr rfl) (q1a q5w (q1a q2l (q1a q1z (q1a q1z (q1a q5w (pv 2) q0g) (q1a q2l q0g (q0z (ix_k K rfl) (pv 0) q0g (fun _ _ => rfl)))) q0g) q0g) q0g)) (q0e (q0l (i := 3) sc_draw.nd rfl (by first | exact Or.inl rfl | exact Or.inr rfl) (q1a q5w (q1a q2l (pv 3) (q1a q1z (pv 3) q0g)) q0g)) (q0f (q0k (q1a q5w (q1a q9c (pv 3) q0g) (pv 1)))))) q0j) (q0f (z0b (pv 2) (z2o (pv 0) q0g q6n)))))) q0j) (q0e (q0l (i := 4) sc_draw.nd rfl (by first | exact Or.inl rfl | exact Or.inr rfl) (q1a q5w (q0z (ix_k K rfl) (pv 0) q0g (fun _ _ => rfl)) (pv 1))) (q0e (z0b (q1a q9c (q0z (ix_k K rfl) (pv 0) q0g (fun _ _ => rfl)) (pv 1)) (z2o (pv 0) q0g q6n)) (q0f (q0k (pv 4))))))), ?_⟩;have nba : b ≠ a := FeedAt.ne ⟨⟨i, j, ha⟩, ns, hb⟩;refine ⟨_, rfl, .inl ⟨a, _, 1, _, rfl, rfl, SqL.of ha, rfl, .inl ⟨_, _, rfl, rfl, _, rfl, a, _, 1, 1, rfl, rfl, ha, rfl, ?_⟩⟩⟩;generalize hH1 : upd H a _ = H1;have ha1 : H1 a = some (.lst [.ref b, .int (i + 1), .int j]) := by rw [← hH1]; exact q0b
    have hb1 : H1 b = some (.lst (ns.map V.int)) := by rw [← hH1, q0c nba]; exact hb
    have fd : ∀ (x y : Int), Fd a b H (upd H1 a (.lst [.ref b, .int x, .int y])) := fun x y => ⟨⟨⟨x, y, q0b⟩, ns, by rw [q0c nba]; exact hb1⟩, fun c o e hc => by rw [q0c hc, ← hH1, q0c hc]; exact e⟩
    have fd1 : Fd a b H H1 := ⟨⟨⟨_, _, ha1⟩, ns, hb1⟩, fun c o e hc => by rw [← hH1, q0c hc]; exact e⟩
    refine ⟨_, rfl, .inl ⟨a, _, 2, _, rfl, rfl, SqL.of ha1, rfl, .inl ⟨rfl, _, rfl, ?_⟩⟩⟩;have last : ∀ (H2 : Hp) (σ2 : St) (y : Int), H2 a = some (.lst [.ref b, .int (i + 1), .int y]) → (∀ x y : Int, Fd a b H (upd H2 a (.lst [.ref b, .int x, .int y]))) → σ2[0]? = some (some (.ref a)) → σ2[1]? = some (some (.int m)) → σ2.length = 5 →
        tSeq (tAsg (tOp (rI (fun _ j => 0 < j) fun i j => .int (i % j)) (tOp (rIx K) (tVar 0) (tC (.int 2))) (tVar 1)) (gName 4)) (tSeq (tAsg (tOp (rI CDiv fun i j => .int (i / j)) (tOp (rIx K) (tVar 0) (tC (.int 2))) (tVar 1)) (gSub (tVar 0) (tC (.int 2)) rSetL)) (tRet (tVar 4))) { nx := fun _ H' => Q .non H', rt := Q } σ2 H2 := by
      intro H2 σ2 y h2 f2 e0 e1 el;match σ2, e0, e1, el with
      | [x0, x1, x2, x3, x4], e0, e1, _ =>
        cases e0;cases e1;refine ⟨_, rfl, .inl ⟨a, _, 2, _, rfl, rfl, SqL.of h2, rfl, _, rfl, _, _, rfl, rfl, hm0, ?_⟩⟩;refine ⟨_, rfl, .inl ⟨a, _, 2, _, rfl, rfl, SqL.of h2, rfl, _, rfl, _, _, rfl, rfl, ⟨hm0, hm1⟩, _, rfl, a, _, 2, 2, rfl, rfl, h2, rfl, _, rfl, ?_⟩⟩;exact k _ _ (Kd _ (by lia)) (Ip _ hm0) (f2 _ _)
    refine ite2 (fun _ => ?_) (fun _ => last H1 _ j ha1 fd rfl rfl rfl);refine ⟨_, rfl, .inl ⟨a, _, 1, _, rfl, rfl, SqL.of ha1, rfl, ?_⟩⟩;refine ⟨_, rfl, .inl ⟨a, _, 0, _, rfl, rfl, SqL.of ha1, rfl, ⟨_, _, rfl, .inl ⟨_, SqL.of hb1, rfl⟩, ⟨_, _, rfl, rfl, _, rfl, ?_⟩⟩⟩⟩
    have rest : ∀ cell : Int, tSeq (tIfS (tTest (tOp (rI0 fun i j => .bl (decide (i < j))) (tVar 2) (tOp (rI CPow fun i j => .int (i ^ j.toNat)) (tC (.int 10)) (tC (.int 18)))))
          (tSeq (tAsg (tOp (rI (fun _ j => 0 < j) fun i j => .int (i % j)) (tOp rMulU (tOp rAddU (tOp rAddU (tOp (rI (fun _ j => 0 < j) fun i j => .int (i % j)) (tVar 2) (tC (.int 2147483647))) (tOp rMulU (tC (.int 613)) (tOp (rIx K) (tVar 0) (tC (.int 1))))) (tC (.int 7))) (tC (.int 48271))) (tC (.int 2147483647))) (gName 3))
            (tSeq (tAsg (tOp (rI (fun _ j => 0 < j) fun i j => .int (i % j)) (tOp rMulU (tVar 3) (tOp rAddU (tVar 3) (tC (.int 69621)))) (tC (.int 2147483629))) (gName 3))
              (tRet (tOp (rI (fun _ j => 0 < j) fun i j => .int (i % j)) (tOp (rI CDiv fun i j => .int (i / j)) (tVar 3) (tC (.int 64))) (tVar 1))))) tNext)
          (tAsg (tVar 2) (gSub (tVar 0) (tC (.int 2)) rSetL))
        { nx := fun σ2 H2 => tSeq (tAsg (tOp (rI (fun _ j => 0 < j) fun i j => .int (i % j)) (tOp (rIx K) (tVar 0) (tC (.int 2))) (tVar 1)) (gName 4)) (tSeq (tAsg (tOp (rI CDiv fun i j => .int (i / j)) (tOp (rIx K) (tVar 0) (tC (.int 2))) (tVar 1)) (gSub (tVar 0) (tC (.int 2)) rSetL)) (tRet (tVar 4))) { nx := fun _ H' => Q .non H', rt := Q } σ2 H2, rt := Q }
        [some (.ref a), some (.int m), some (.int cell), none, none] H1 := by
      intro cell;refine ⟨_, rfl, _, _, rfl, rfl, ⟨by decide, by decide, by decide⟩, _, _, rfl, rfl, _, rfl, ?_⟩;refine ite2 (fun _ => ?_) (fun _ => ?_)
      · refine ⟨_, rfl, _, _, rfl, rfl, (by show (0 : Int) < 2147483647; decide), ?_⟩;refine ⟨_, rfl, .inl ⟨a, _, 1, _, rfl, rfl, SqL.of ha1, rfl, .inl ⟨_, _, rfl, rfl, .inl ⟨by decide, by decide⟩, .inl ⟨_, _, rfl, rfl, .inl ⟨_, _, rfl, rfl, .inl ⟨_, _, rfl, rfl, .inr ⟨by decide, by decide⟩, _, _, rfl, rfl, (by show (0 : Int) < 2147483647; decide), ?_⟩⟩⟩⟩⟩⟩;generalize hn : ((cell % 2147483647 + 613 * (i + 1) + 7) * 48271) % 2147483647 = n;have n0 : 0 ≤ n := by rw [← hn]; exact Kd _ (by decide)
        have n1 : n < 2147483647 := by rw [← hn]; exact Ip _ (by decide)
        refine ⟨_, rfl, _, rfl, .inl ⟨_, _, rfl, rfl, .inl ⟨_, _, rfl, rfl, .inl ⟨by lia, by lia⟩, _, _, rfl, rfl, (by show (0 : Int) < 2147483629; decide), ?_⟩⟩⟩;refine ⟨_, rfl, _, _, rfl, rfl, ⟨by decide, by decide⟩, _, rfl, _, _, rfl, rfl, hm0, ?_⟩;exact k _ _ (Kd _ (by lia)) (Ip _ hm0) fd1
      · refine ⟨_, rfl, _, rfl, a, _, 2, 2, rfl, rfl, ha1, rfl, ?_⟩;refine last _ _ cell q0b (fun x y => ?_) rfl rfl rfl;have := fd x y;rw [z8e];exact this
    refine ite2 (fun hl => ?_) (fun _ => rest _);have hne : ns.map V.int ≠ [] := by
      intro z;rw [z] at hl;simp at hl
    obtain ⟨x, hx, ex⟩ := z8q (i + 1) hne;obtain ⟨c, rfl⟩ : ∃ c, x = V.int c := by
      obtain ⟨c, _, e⟩ := Ag.mp hx;exact ⟨c, e.symm⟩
    refine ⟨_, rfl, .inl ⟨a, _, 0, _, rfl, rfl, SqL.of ha1, rfl, ⟨_, rfl, .inl ⟨a, _, 1, _, rfl, rfl, SqL.of ha1, rfl, ⟨_, rfl, .inl ⟨a, _, 0, _, rfl, rfl, SqL.of ha1, rfl, ⟨_, _, rfl, .inl ⟨_, SqL.of hb1, rfl⟩, _, _, rfl, rfl, ?_, ?_⟩⟩⟩⟩⟩⟩⟩
    · have : 0 < (ns.map V.int).length := by
        cases e : ns.map V.int with
        | nil => exact absurd e hne
        | cons _ _ => simp
      show (0 : Int) < ((ns.map V.int).length : Int);lia
    · exact .inl ⟨b, _, _, _, rfl, rfl, SqL.of hb1, ex, rest c⟩
theorem aab_in:∀c∈tl (Am "aAb"),c∈NS:=by decide +kernel
def spName:Sp:=fun vs H Q _=>∃a b,vs=[.ref a]/\FeedAt H a b/\∀(t:List Nat) H',okN t->Fd a b H H'->Q (.str (mk t)) H'
abbrev q9v:Stmt:=top 23
theorem sc_name:FnScope ["_law_feed", "_law_signs", "_law_size"] ["_law_feed"] (defScope q9v):=by trivial
theorem z9m(D:Df K mg "_law_name" q9v ["_law_feed"])(T:Txt mg)(C:Calls P w K mg base):Cal P w K mg base "_law_name" 2 ["_law_feed"] spName:=by
 refine D.cal sc_name (fun vs H Q E h=>?_) (fun f cdv A outer s H vs Q E hr h=>?_)
 ·obtain⟨a,b,rfl,_⟩:=h;rfl
 ·obtain⟨a,b,rfl,F,k⟩:=h;refine⟨_,(q0e (q0l (i:=1) sc_name.nd rfl (by trivial) q2i) (q0e (q0l (i:=2) sc_name.nd rfl (by trivial) (q1a q1z q0g (pe_c C.draw hr (q0a (pv 0) (q0a q0g q0d))))) (q7y (q0w (q0m op_gt (pe_c C.draw hr (q0a (pv 0) (q0a q0g q0d))) q0g (nomark _)) (q0e (q0l (i:=1) sc_name.nd rfl (by trivial) q2i) (q0f (q0l (i:=2) sc_name.nd rfl (by trivial) (q1a q1z q0g (pe_c C.draw hr (q0a (pv 0) (q0a q0g q0d))))))) q0j) (q0f (q0k (@bm_k _ _ _ _ _ _ _ _ _ _ _ _ K rfl Dx PySem.F.slot_str_join PySem.F.type_str_join (join_k K rfl) q2i (q0a (q4q ["_law_k"] [("_law_signs",1),("_law_feed",0)] rfl (q3l rfl T.b_range (q0a (pv 2) q0d)) (fun _ _ _ _ _=>(q0o (i:=0) (show(["_law_k", "_law_signs", "_law_feed"]:List Str).Nodup by decide +kernel) rfl (by trivial))) (fun _ _ _ _ _=>q9d) (fun _ _ _ _ _=>(q0z (ix_k K rfl) (pv 1) (pe_c C.draw hr (q0a (pv 2) (q0a (q0i (q2m K rfl) (by rfl) T.b_len Bo (q0a (pv 1) q0d)) q0d))) (fun _ _=>rfl)))) q0d) (by rfl) (by rfl) (by rfl) (by rfl) (by rfl))))))),?_⟩;refine⟨_,rfl,a,b,_,rfl,F,by decide,by decide,fun r1 H1 r10 r11 fd1=>.inl ⟨_,_,rfl,rfl,?_⟩⟩;refine⟨fun σ' H'=>∃(g:Str) (n:Int),σ'=[some (.ref a),some (.str g),some (.int n)]/\Fd a b H H'/\0<g.length/\g.length<=100/\1<=n/\n<=12/\∀c∈tl g,c∈NS,?_,?_⟩
  ·rintro σ' H' ⟨g,n,rfl,fd,hg0,hg1,hn0,hn1,hg⟩;refine⟨rfl,_,rfl,n,rfl,by lia,by lia,fun D hD=>?_⟩;have F':=fd.feed;refine q9h (n:=n.toNat) (fun i ys H2=>∃cs:List Nat,ys=cs.map (fun c=>V.str ⟨#[c]⟩)/\cs.length=i/\i<=n.toNat/\(∀c∈cs,c∈tl g)/\Fd a b H' H2/\H2 D=some (.lst ys)) ⟨[],rfl,rfl,Bv _,fun _ h=>(nomatch h),(Fd.refl F').new hD,q0b⟩ (fun i ys H' ⟨cs,_,_,_,_,_,h⟩=>h) ?_ ?_
   ·rintro i ys H2 hi ⟨cs,rfl,hl,_,hc,fd2,hHD⟩;refine⟨_,rfl,_,rfl,_,rfl,_,_,rfl,⟨small (by lia),rfl⟩,a,b,_,rfl,fd2.feed,by lia,by lia,fun r H3 r0 r1 fd3=>?_⟩;have hl2:(tl g).length=g.length:=(len g).symm;obtain⟨c,hc1,hc2⟩:=q7w (xs:=tl g) r0 (by lia);refine .inr (.inr ⟨g,r,c,rfl,rfl,small (by lia),hc2,?_⟩);have hDa:D≠a:=fun z=>by subst z;exact F'.na hD rfl
    refine⟨fd3.at hHD hDa,small' (by rw[Ac];lia),cs++[c],by rw[Av];rfl,by rw[An,hl];rfl,by lia,fun d hd=>?_,(fd2.trans fd3).put F' hD,q0b⟩;rcases Az.mp hd with z|z
    ·exact hc d z
    ·rw[Ar.mp z];exact Ay hc1
   ·rintro ys H2 ⟨cs,rfl,hl,_,hc,fd2,hHD⟩;have e:cs.map (fun c=>V.str ⟨#[c]⟩)=(cs.map fun c=>(⟨#[c]⟩:Str)).map V.str:=by rw[Ba];rfl
    refine⟨_,D,cs.map fun c=>⟨#[c]⟩,rfl,rfl,.inl (SqL.of (by rw[<- e];exact hHD)),?_,?_⟩
    ·rw[z6c,Ac];have:(Am "").length=0:=by decide +kernel
     rw[this,hl];exact small (by lia)
    ·have z:=z3i cs;rw[z];exact k cs H2 ⟨by lia,by lia,fun c hc'=>hg c (hc c hc')⟩ (fd.trans fd2)
  ·refine⟨_,rfl,a,b,_,rfl,fd1.feed,by decide,by decide,fun r2 H2 r20 r21 fd2=>?_⟩;refine⟨_,_,rfl,rfl,_,rfl,ite2 (fun h=>?_) (fun h=>?_)⟩
   ·refine⟨_,rfl,a,b,_,rfl,fd2.feed,by decide,by decide,fun r3 H3 r30 r31 fd3=>.inl ⟨_,_,rfl,rfl,?_⟩⟩;exact⟨_,_,rfl,(fd1.trans fd2).trans fd3,by decide +kernel,by decide +kernel,by lia,by lia,aab_in⟩
   ·exact⟨_,_,rfl,fd1.trans fd2,by decide +kernel,by decide +kernel,by lia,by lia,fun c hc=>hc⟩
def spFolded:Sp:=fun vs H Q _=>∃p q bl,vs=[.ref p,.bl bl]/\H p=some (.tup (vP q))/\okP q/\∀p' H',Same H H'->H' p'=some (.tup (vP (fold bl q)))->Q (.ref p') H'
theorem q1e(p:Pth):(vP p).length=p.length:=Ac _
theorem q1i{q:Pth}(h:q≠[]):cutV (vP q) none (some (-1))=vP q.dropLast/\¬(HT.sIx (vP q).length 0 none=0/\HT.sIx (vP q).length (vP q).length (some (-1))=(vP q).length):=by
 have hl:=Bd.mpr h;have e:HT.sIx (vP q).length (vP q).length (some (-1))=q.length-1:=by
  show(if (-1:Int)<0 then((-1:Int)+((vP q).length:Int)).toNat else min (-1:Int).toNat (vP q).length)=_;rw[if_pos (by decide),q1e];lia
 refine⟨?_,fun z=>by rw[e,q1e] at z;lia⟩;unfold cutV;rw[e];show((vP q).drop 0).take _=_;rw[Ny];show(vP q).take (q.length-1-0)=_;rw[Md,<- Ge,<- Jy]
theorem q2q{q:Pth}(h:q≠[]):atI (vP q) (-1)=some (.str (mk (q.getLastD []))):=by
 have hl:=Bd.mpr h;unfold atI ixN;rw[if_neg (by decide),if_pos (by rw[q1e];lia)];have e:((-1:Int)+((vP q).length:Int)).toNat=q.length-1:=by rw[q1e];lia
 show(vP q)[((-1:Int)+((vP q).length:Int)).toNat]?=_;rw[e,Ao,<- List.getLast?_eq_getElem?,Cy,Dd h];rfl
theorem q4b{q:Pth}(h:okP q):okN (q.getLastD []):=by
 rw[Cy,Dd h.ne];exact h.all _ (Rl h.ne)
theorem z0s{n:List Nat}(h:∀c∈n,c<128):Gk (mk n)=mk (lowN n):=by
 apply ext;rw[TX.lower (by rw[q3a];exact h),q3a,q3a];rfl
abbrev q5q:Stmt:=top 24
theorem z4s:FnScope ["_law_path", "_law_blind"] ["_law_path", "_law_blind"] (defScope q5q):=by trivial
theorem z4t(D:Df K mg "_law_folded" q5q ["_law_path", "_law_blind"])(T:Txt mg):Cal P w K mg base "_law_folded" 1 ["_law_path", "_law_blind"] spFolded:=by
 refine D.cal z4s (fun vs H Q E h=>?_) (fun f cdv A outer s H vs Q E hr h=>?_)
 ·obtain⟨p,q,bl,rfl,_⟩:=h;rfl
 ·obtain⟨p,q,bl,rfl,hp,ok,k⟩:=h;refine⟨_,(q0e (q0w (@q2z _ _ _ K rfl (pv 1) (fun _=>rfl)) (q0f (q0k (q1a q3y (q0n (sl_k K rfl) (pv 0) q0s (q0t (q1h q0r q0g))) (q1c (q0a (@q7x _ _ _ _ _ _ _ _ _ K rfl Dx Gr Gs q4r (q0z (ix_k K rfl) (pv 0) (q1h q0r q0g) (fun _ _=>rfl)) (by rfl) (by rfl)) q0d))))) q0j) (q0f (q0k (pv 0)))),?_⟩;cases bl with
  |false=>exact⟨_,rfl,false,rfl,iteF ⟨_,rfl,k p H (Same.refl H) hp⟩⟩
  |true =>
   obtain⟨c1,c2⟩:=q1i ok.ne;have ln:=(q4b ok).low;refine⟨_,rfl,true,rfl,iteT ⟨_,rfl,_,rfl,_,rfl,.inr (.inr ⟨p,_,rfl,SqT.of hp,c2,fun p1 hp1=>?_⟩)⟩⟩;rw[c1];have s1:=(Same.refl H).new (o:=.tup (vP q.dropLast)) hp1;refine⟨_,rfl,_,rfl,.inr (.inl ⟨p,_,-1,_,rfl,rfl,SqT.of (s1 _ _ hp),q2q ok.ne,rfl,_,rfl,rfl,small (by rw[q8c];have:=(q4b ok).few;lia),?_⟩)⟩;refine⟨by show 1<=sizeLine;decide,fun p2 hp2=>?_⟩;have s2:=s1.new (o:=.tup [.str (Gk (mk (q.getLastD [])))]) hp2;refine⟨p1,p2,_,_,rfl,rfl,by rw[q0c (fun z=>by subst z;rw[q0b] at hp2;cases hp2)];exact q0b,q0b,by rw[q1e];exact small (by rw[Bz];have:=ok.few;show _+1<=_;lia),fun p3 H3 s3 h3 _=>?_⟩;refine k p3 H3 (s2.trans s3) ?_;rw[h3,z0s ln,q5m];show _=some (HO.tup ((q.dropLast++[lowN (q.getLastD [])]).map _));rw[Av];rfl
end
end K
set_option maxHeartbeats 4000000
namespace K
open PySem L2 TX SB HM
section
variable{P:Program}{w:World}{K:Af}{mg:Str->Option Value}{base:Heap}
theorem q8r:∀{p q:Pth},kP p=kP q->p=q
 |[],[],_=>rfl
 |[],_::_,h=>by cases h
 |_::_,[],h=>by cases h
 |a::p,b::q,h=>by
  unfold kP at h;rw[Ak,Ak] at h;injection h with h1 h2;injection h1 with h1;rw[SB.mk_inj h1,q8r h2]
theorem z4u{rs:List HRow}{p:Pth}(h:∀r∈rs,r.1≠p):valV (rs.map fun r=>(kP r.1,r.2)) (kP p)=none:=by
 induction rs with
 |nil=>rfl
 |cons r rs ih =>
  rw[Ak,q0y (fun z=>h r Ap (q8r z))];exact ih fun x hx=>h x (Ah _ hx)
theorem q5r{rs:List HRow}{r:HRow}(hr:r∈rs)(nd:(rs.map (·.1)).Nodup):valV (rs.map fun r=>(kP r.1,r.2)) (kP r.1)=some r.2:=by
 induction rs with
 |nil=>cases hr
 |cons x rs ih =>
  rw[Ak,Cf] at nd;rcases Bb.mp hr with rfl|hr
  ·rw[Ak];exact q1b rfl
  ·rw[Ak,q0y (fun z=>nd.1 (by rw[q8r z];exact Ag.mpr ⟨r,hr,rfl⟩))];exact ih hr nd.2
theorem q2y{rs:List HRow}{p:Pth}{v:V}(h:∀r∈rs,r.1≠p):putK (rs.map fun r=>(kP r.1,r.2)) (kP p) v=(rs++[(p,v)]).map fun r=>(kP r.1,r.2):=by
 rw[z6e v (z4u h),Av];rfl
structure RwInv (H:Hp) (a b L Dr d:Addr) (bl:Bool) (i:Nat) (H':Hp) (zs:List Zr) (ds:List (Addr×Pth)):Prop where
 fd:Fd a b H H'
 rl:RL H' L zs
 hl:Hl bl (zs.map (·.2))
 len:zs.length<=i
 da:H' Dr=some (.lst (ds.map fun z=>V.ref z.1))
 dt:∀z∈ds,H' z.1=some (.tup (vP z.2))/\(z.2=[]\/((z.2,none)∈zs.map (·.2)))/\z.2.length<6
 dn:ds≠[]
 dl:ds.length<=i+1
 hd:H' d=some (dR (zs.map fun z=>(fold bl z.2.1,.bl true)))
theorem RwInv.go{H:Hp}{a b L Dr d:Addr}{bl:Bool}{i:Nat}{H' H2:Hp}{zs:List Zr}{ds:List (Addr×Pth)}(x:RwInv H a b L Dr d bl i H' zs ds)(fd:Fd a b H' H2)(hL:L≠a)(hD:Dr≠a)(hd:d≠a):RwInv H a b L Dr d bl i H2 zs ds :=
 ⟨x.fd.trans fd,x.rl.fd x.fd.feed fd hL,x.hl,x.len,fd.at x.da hD,fun z hz=>⟨tupFd x.fd.feed fd _ _ (x.dt z hz).1,(x.dt z hz).2⟩,x.dn,x.dl,fd.at x.hd hd⟩
theorem RwInv.sm{H:Hp}{a b L Dr d:Addr}{bl:Bool}{i:Nat}{H' H2:Hp}{zs:List Zr}{ds:List (Addr×Pth)}(x:RwInv H a b L Dr d bl i H' zs ds)(s:Same H' H2):RwInv H a b L Dr d bl i H2 zs ds :=
 ⟨x.fd.same s,x.rl.same s,x.hl,x.len,s _ _ x.da,fun z hz=>⟨s _ _ (x.dt z hz).1,(x.dt z hz).2⟩,x.dn,x.dl,s _ _ x.hd⟩
theorem RwInv.put{H:Hp}{a b L Dr d T p:Addr}{bl:Bool}{i:Nat}{H':Hp}{zs:List Zr}{ds:List (Addr×Pth)}{q:Pth}{m:Option Int}(x:RwInv H a b L Dr d bl i H' zs ds)(F:FeedAt H a b)(hL:H L=none)(hd:H d=none)(nLd:d≠L)(nDL:Dr≠L)(hp:H' p=some (.tup (vP q)))(ok:okP q)(hnew:∀r∈zs.map (fun z=>((fold bl z.2.1,.bl true):HRow)),r.1≠fold bl q)(hq:q.dropLast=[]\/(q.dropLast,none)∈zs.map (·.2))(hT:upd H' d (dR (zs.map (fun z=>((fold bl z.2.1,.bl true):HRow))++[(fold bl q,.bl true)])) T=none):
  RwInv H a b L Dr d bl (i+1) (upd (upd (upd H' d (dR (zs.map (fun z=>((fold bl z.2.1,.bl true):HRow))++[(fold bl q,.bl true)]))) T (.tup [.ref p,mV m])) L (.lst (zs.map (fun z=>V.ref z.1)++[.ref T]))) (zs++[(T,(q,m))]) ds:=by
 have hTd:T≠d:=fun z=>by rw[z,q0b] at hT;cases hT
 have hT':H' T=none:=by rw[q0c hTd] at hT;exact hT
 have hLT:T≠L:=fun z=>by rw[z,x.rl.at_] at hT';cases hT'
 have hDT:Dr≠T:=fun z=>by rw[<- z,x.da] at hT';cases hT'
 have hDd:Dr≠d:=fun z=>by have e:=x.da;rw[z,x.hd] at e;cases e
 have tk:∀S xs,H' S=some (.tup xs)->upd (upd (upd H' d (dR (zs.map (fun z=>((fold bl z.2.1,.bl true):HRow))++[(fold bl q,.bl true)]))) T (.tup [.ref p,mV m])) L (.lst (zs.map (fun z=>V.ref z.1)++[.ref T])) S=some (.tup xs):=fun S xs e=>by
  rw[q0c (fun z=>by rw[z,x.rl.at_] at e;cases e),q0c (fun z=>by rw[z,hT'] at e;cases e),q0c (fun z=>by rw[z,x.hd] at e;cases e)];exact e
 have em:(zs++[(T,(q,m))]).map (·.2)=zs.map (·.2)++[(q,m)]:=by rw[Av];rfl
 refine⟨((x.fd.put F hd).new hT).put F hL,⟨by rw[q0b,Av];rfl,fun z hz=>?_⟩,?_,by rw[An];exact Hn x.len,?_,fun z hz=>?_,x.dn,Fl x.dl,?_⟩
 ·rcases Az.mp hz with hz|hz
  ·exact PR.same (x.rl.pr z hz) tk
  ·rw[Ar.mp hz];exact⟨p,by rw[q0c hLT];exact q0b,tk _ _ hp⟩
 ·rw[em];refine⟨fun r hr=>?_,?_,fun r hr=>?_⟩
  ·rcases Az.mp hr with hr|hr
   ·exact x.hl.ok r hr
   ·rw[Ar.mp hr];exact ok
  ·rw[Av];refine Jk.mpr ⟨x.hl.nd,(Jf _ _),fun y hy y' hy'=>?_⟩;rw[Ar.mp hy'];obtain⟨r,hr,rfl⟩:=Ag.mp hy;obtain⟨z,hz,rfl⟩:=Ag.mp hr;exact hnew (fold bl z.2.1,.bl true) (Ag.mpr ⟨z,hz,rfl⟩)
  ·rcases Az.mp hr with hr|hr
   ·exact(x.hl.dr r hr).imp id fun z=>Dh _ z
   ·rw[Ar.mp hr];exact hq.imp id fun z=>Dh _ z
 ·rw[q0c nDL,q0c hDT,q0c hDd];exact x.da
 ·obtain⟨z1,z2,z3⟩:=x.dt z hz;exact⟨tk _ _ z1,z2.imp id fun y=>by rw[em];exact Dh _ y,z3⟩
 ·rw[q0c nLd,q0c hTd.symm,q0b,Av];rfl
theorem RwInv.draw{H:Hp}{a b L Dr d p:Addr}{bl:Bool}{i:Nat}{H':Hp}{zs:List Zr}{ds:List (Addr×Pth)}{q:Pth}(x:RwInv H a b L Dr d bl (i+1) H' zs ds)(F:FeedAt H a b)(hD:H Dr=none)(nDL:Dr≠L)(hl:ds.length<=i+1)(hp:H' p=some (.tup (vP q)))(hq:(q,none)∈zs.map (·.2))(h6:q.length<6):RwInv H a b L Dr d bl (i+1) (upd H' Dr (.lst (ds.map (fun z=>V.ref z.1)++[.ref p]))) zs (ds++[(p,q)]):=by
 have hDd:d≠Dr:=fun z=>by have e:=x.da;rw[<- z,x.hd] at e;cases e
 have tk:∀S xs,H' S=some (.tup xs)->upd H' Dr (.lst (ds.map (fun z=>V.ref z.1)++[.ref p])) S=some (.tup xs):=fun S xs e=>by rw[q0c (fun z=>by rw[z,x.da] at e;cases e)];exact e
 refine⟨x.fd.put F hD,⟨by rw[q0c nDL.symm];exact x.rl.at_,fun z hz=>PR.same (x.rl.pr z hz) tk⟩,x.hl,x.len,by rw[q0b,Av];rfl,fun z hz=>?_,by simp,by rw[An];exact Hn hl,by rw[q0c hDd];exact x.hd⟩;rcases Az.mp hz with hz|hz
 ·exact⟨tk _ _ (x.dt z hz).1,(x.dt z hz).2⟩
 ·rw[Ar.mp hz];exact⟨tk _ _ hp,.inr hq,h6⟩
structure CallsN (P:Program) (w:World) (K:Af) (mg:Str->Option Value) (base:Heap):Prop where
 draw:Cal P w K mg base "_law_draw" 1 ["_law_feed", "_law_many"] spDraw
 name:Cal P w K mg base "_law_name" 2 ["_law_feed"] spName
 folded:Cal P w K mg base "_law_folded" 1 ["_law_path", "_law_blind"] spFolded
def spRows:Sp:=fun vs H Q _=>∃a b bl m,vs=[.ref a,.bl bl,.int m]/\FeedAt H a b/\0<=m/\m<=60/\∀L zs H',Fd a b H H'->H L=none->RL H' L zs->Hl bl (zs.map (·.2))->zs.length<=m.toNat->Q (.ref L) H'
abbrev q9w:Stmt:=top 25
theorem sc_rows:FnScope ["_law_feed", "_law_blind", "_law_most", "_law_rows_here", "_law_drawers", "_law_held", "_law_k", "_law_path", "_law_mark"] ["_law_feed", "_law_blind", "_law_most"] (defScope q9w):=by trivial
theorem z9n(D:Df K mg "_law_rows" q9w ["_law_feed", "_law_blind", "_law_most"])(T:Txt mg)(C:CallsN P w K mg base):Cal P w K mg base "_law_rows" 3 ["_law_feed", "_law_blind", "_law_most"] spRows:=by
 refine D.cal sc_rows (fun vs H Q E h=>?_) (fun f cdv A outer s H vs Q E hr h=>?_)
 ·obtain⟨a,b,bl,m,rfl,_⟩:=h;rfl
 ·obtain⟨a,b,bl,m,rfl,F,hm0,hm1,k⟩:=h;refine⟨_,(q0e (q0l (i:=3) sc_rows.nd rfl (by trivial) (q1r q0d)) (q0e (q0l (i:=4) sc_rows.nd rfl (by trivial) (q1r (q0a (q1c q0d) q0d))) (q0e (q0l (i:=5) sc_rows.nd rfl (by trivial) q6t) (q0e (q3d Cr rfl (q3l rfl T.b_range (q0a (pe_c C.draw hr (q0a (pv 0) (q0a (q1a q1z (pv 2) q0g) q0d))) q0d)) (q0o (i:=6) sc_rows.nd rfl (by trivial)) (q0e (q0l (i:=7) sc_rows.nd rfl (by trivial) (q1a q3y (q0z (ix_k K rfl) (pv 4) (pe_c C.draw hr (q0a (pv 0) (q0a (q0i (q2m K rfl) (by rfl) T.b_len Bo (q0a (pv 4) q0d)) q0d))) (fun _ _=>rfl)) (q1c (q0a (pe_c C.name hr (q0a (pv 0) q0d)) q0d)))) (q0e (q0l (i:=8) sc_rows.nd rfl (by trivial) (q0z (ix_k K rfl) (q1r (q0a (pe_c C.draw hr (q0a (pv 0) (q0a q0g q0d))) (q0a (pe_c C.draw hr (q0a (pv 0) (q0a (q1a q1z (q1a z7o q0g q0g) q0g) q0d))) q0d))) (pe_c C.draw hr (q0a (pv 0) (q0a q0g q0d))) (fun _ _=>rfl))) (q7y (q0w (q0m (eq_k K rfl hr) (pe_c C.draw hr (q0a (pv 0) (q0a q0g q0d))) q0g (nomark _)) (q0f (q0l (i:=8) sc_rows.nd rfl (by trivial) q7h)) q0j) (q0f (q0w (q1o (q3n (q1t hr) (pe_c C.folded hr (q0a (pv 7) (q0a (pv 1) q0d))) (pv 5))) (q0e (q5f (q1t hr) (pv 5) (pe_c C.folded hr (q0a (pv 7) (q0a (pv 1) q0d))) q3u rfl) (q0e (q1g (@bm_k _ _ _ _ _ _ _ _ _ _ _ _ K rfl Ct Ei Ej q2a (pv 3) (q0a (q1c (q0a (pv 7) (q0a (pv 8) q0d))) q0d) (by rfl) (by rfl) (by rfl) (by rfl) (by rfl))) (q0f (q0w (pt_j (@PW.pt _ _ _ (q3k (q1o (q4u (pv 8))) (q2c (q0m z8g (q0i (q2m K rfl) (by rfl) T.b_len Bo (q0a (pv 7) q0d)) q0g (nomark _)))))) (q0f (q1g (@bm_k _ _ _ _ _ _ _ _ _ _ _ _ K rfl Ct Ei Ej q2a (pv 4) (q0a (pv 7) q0d) (by rfl) (by rfl) (by rfl) (by rfl) (by rfl)))) q0j)))) q0j)))))) (q0f (q0k (pv 3))))))),?_⟩;refine⟨by show 0<=sizeLine;decide,fun L hL=>⟨by show 0<=sizeLine;decide,fun p0 hp0=>⟨by show 1<=sizeLine;decide,fun Dr hDr=>?_⟩⟩⟩;intro d hd;have hLa:L≠a:=(q0h F.fa.choose_spec.choose_spec hL).symm;have s1:=(Same.refl H).new (o:=.lst []) hL;have s2:=s1.new (o:=.tup []) hp0;have s3:=s2.new (o:=.lst [.ref p0]) hDr;have s4:=s3.new (o:=.dT []) hd;have hDrH:H Dr=none:=s2.free hDr;have hdH:H d=none:=s3.free hd;have hDa:Dr≠a:=(q0h F.fa.choose_spec.choose_spec hDrH).symm;have hda:d≠a:=(q0h F.fa.choose_spec.choose_spec hdH).symm;have hLp:p0≠L:=fun z=>by rw[z,q0b] at hp0;cases hp0
  have hLDr:Dr≠L:=fun z=>by rw[z,q0c hLp.symm,q0b] at hDr;cases hDr
  have hpDr:Dr≠p0:=fun z=>by rw[z,q0b] at hDr;cases hDr
  have hLd:d≠L:=fun z=>by rw[z,q0c hLDr.symm,q0c hLp.symm,q0b] at hd;cases hd
  have hDd:d≠Dr:=fun z=>by rw[z,q0b] at hd;cases hd
  have hpd:d≠p0:=fun z=>by rw[z,q0c hpDr.symm,q0b] at hd;cases hd
  have I0:RwInv H a b L Dr d bl 0 (upd (upd (upd (upd H L (.lst [])) p0 (.tup [])) Dr (.lst [.ref p0])) d (.dT [])) [] [(p0,[])]:=by
   refine⟨(Fd.refl F).same s4,⟨?_,(fun _ h=>nomatch h)⟩,Hl.nil bl,Ai _,?_,fun z hz=>?_,by simp,Ai _,q0b⟩
   ·rw[q0c hLd.symm,q0c hLDr.symm,q0c hLp.symm];exact q0b
   ·rw[q0c hDd.symm];exact q0b
   ·rw[Ar.mp hz];exact⟨by rw[q0c hpd.symm,q0c hpDr.symm];exact q0b,.inl rfl,by show 0<6;decide⟩
  generalize hH0:upd (upd (upd (upd H L (.lst [])) p0 (.tup [])) Dr (.lst [.ref p0])) d (.dT [])=H0 at I0;refine⟨_,rfl,_,rfl,.inl ⟨_,_,rfl,rfl,a,b,_,rfl,I0.fd.feed,by lia,by lia,fun r0 H1 r00 r01 fd1=>?_⟩⟩;have I1:=I0.go fd1 hLa hDa hda;refine⟨r0,rfl,by lia,by lia,q4w (n:=r0.toNat) (fun i σ' H'=>∃zs ds x6 x7 x8,σ'=[some (.ref a),some (.bl bl),some (.int m),some (.ref L),some (.ref Dr),some (.ref d),x6,x7,x8]/\RwInv H a b L Dr d bl i H' zs ds/\i<=r0.toNat) ⟨[],_,none,none,none,rfl,I1,Bv _⟩ ?_ ?_⟩
  ·rintro i σ' H' hi ⟨zs,ds,x6,x7,x8,rfl,I2,_⟩;have hdl:=I2.dl;have hdn:0<ds.length:=Bd.mpr I2.dn;refine⟨_,rfl,_,rfl,_,rfl,_,_,rfl,.inl ⟨_,SqL.of I2.da,rfl⟩,a,b,_,rfl,I2.fd.feed,by rw[Ac];lia,by rw[Ac];lia,fun r1 H2 r10 r11 fd2=>?_⟩;have I3:=I2.go fd2 hLa hDa hda;rw[Ac] at r11;obtain⟨v,hv1,hv2⟩:=q7w (xs:=ds.map fun z=>V.ref z.1) r10 (by rw[Ac];exact r11);obtain⟨z,hz,rfl⟩:∃z∈ds,v=V.ref z.1:=by
    rw[Ao] at hv1;cases e:ds[r1.toNat]? with
    |none=>rw[e] at hv1;cases hv1
    |some z=>rw[e] at hv1;cases hv1;exact⟨z,Ay e,rfl⟩
   refine .inl ⟨Dr,_,r1,_,rfl,rfl,SqL.of I3.da,hv2,?_⟩;refine⟨_,rfl,a,b,rfl,I3.fd.feed,fun t H3 okt fd3=>⟨by show 1<=sizeLine;decide,fun p1 hp1=>?_⟩⟩;have I4:=(I3.go fd3 hLa hDa hda).sm ((Same.refl H3).new (o:=.tup [.str (mk t)]) hp1);obtain⟨zt,zd,zl⟩:=I4.dt z hz;refine⟨z.1,p1,_,_,rfl,rfl,zt,q0b,by rw[q1e];exact small (by show _+1<=_;lia),fun p2 H5 s5 hp2 _=>?_⟩;have I5:=I4.sm s5;have hp2':H5 p2=some (.tup (vP (z.2++[t]))):=by rw[hp2];show _=some (HO.tup ((z.2++[t]).map _));rw[Av];rfl
   have okp:okP (z.2++[t]):=by
    refine⟨by simp,by rw[An];show _+1<=6;lia,fun n hn=>?_⟩;rcases Az.mp hn with hn|hn
    ·rcases zd with e|e
     ·rw[e] at hn;cases hn
     ·exact(I4.hl.ok _ e).all n hn
    ·rw[Ar.mp hn];exact okt
   clear hp2 I4 I3 zt;generalize hq:z.2++[t]=q at hp2' okp;have hqd:q.dropLast=[]\/(q.dropLast,none)∈zs.map (·.2):=by rw[<- hq,List.dropLast_concat];exact zd
   refine⟨_,rfl,a,b,_,rfl,I5.fd.feed,by decide,by decide,fun m1 H6 m10 m11 fd6=>?_⟩;have I6:=I5.go fd6 hLa hDa hda;refine⟨_,rfl,_,_,rfl,rfl,⟨by decide,by decide,by decide⟩,.inl ⟨_,_,rfl,rfl,a,b,_,rfl,I6.fd.feed,by decide,by decide,fun m2 H7 m20 m21 fd7=>⟨by show 2<=sizeLine;decide,fun M hM=>?_⟩⟩⟩;have I7:=(I6.go fd7 hLa hDa hda).sm ((Same.refl H7).new (o:=.lst [.int m1,.int m2]) hM);have fdM:=fd6.trans (fd7.new (o:=.lst [.int m1,.int m2]) hM);refine⟨_,rfl,a,b,_,rfl,I7.fd.feed,by decide,by decide,fun m3 H8 m30 m31 fd8=>?_⟩;have I8:=I7.go fd8 hLa hDa hda;have fdp:=fdM.trans fd8;have hMa:M≠a:=fun z=>by rw[z] at hM;obtain⟨_,_,e⟩:=(I6.go fd7 hLa hDa hda).fd.feed.fa;rw[hM] at e;cases e
   have hm8:H8 M=some (.lst [.int m1,.int m2]):=fd8.at q0b hMa;have hat:∃mk0:Int,atI [V.int m1,V.int m2] m3=some (.int mk0):=by
    have e:m3=0\/m3=1:=by lia
    rcases e with rfl|rfl
    ·exact⟨m1,rfl⟩
    ·exact⟨m2,rfl⟩
   obtain⟨mk0,hat⟩:=hat;refine .inl ⟨M,_,m3,_,rfl,rfl,SqL.of hm8,hat,?_⟩;have hp8:H8 p2=some (.tup (vP q)):=tupFd I5.fd.feed fdp _ _ hp2';refine⟨fun σ' H'=>∃mk0 x6,σ'=[some (.ref a),some (.bl bl),some (.int m),some (.ref L),some (.ref Dr),some (.ref d),x6,some (.ref p2),some (mV mk0)]/\RwInv H a b L Dr d bl i H' zs ds/\H' p2=some (.tup (vP q)),?_,?_⟩
   ·rintro σ' H' ⟨mk0,x6,rfl,I9,hp9⟩;refine⟨_,rfl,_,rfl,p2,q,bl,rfl,hp9,okp,fun pf H10 s10 hpf=>⟨_,rfl,d,_,rfl,DGet.t (k:=kP (fold bl q)) (I9.sm s10).hd (by rw[q2b];exact hpf),_,rfl,?_⟩⟩;have I10:=I9.sm s10;refine iteB (fun hno=>?_) (fun hno=>?_)
    ·have hnew:∀r∈zs.map (fun z=>((fold bl z.2.1,.bl true):HRow)),r.1≠fold bl q:=fun r hr e=>by
      have:=q5r hr (by rw[Ba];have:=I10.hl.nd;rw[Ba] at this;exact this);rw[e] at this;rw[this] at hno;cases hno
     refine⟨_,rfl,_,rfl,_,rfl,p2,q,bl,rfl,s10 _ _ hp9,okp,fun pg H11 s11 hpg=>?_⟩;have I11:=I10.sm s11;refine⟨d,_,rfl,DPut.t (k:=kP (fold bl q)) I11.hd (by rw[q2b];exact hpg) (by rw[Ac,Ac];have:=I11.len;exact small' (by lia)),?_⟩;rw[q2y hnew];have hL12:upd H11 d (dR (zs.map (fun z=>((fold bl z.2.1,.bl true):HRow))++[(fold bl q,.bl true)])) L=some (.lst (zs.map fun z=>V.ref z.1)):=by rw[q0c hLd.symm];exact I11.rl.at_
     refine⟨_,rfl,.inl ⟨rfl,_,SqL.of hL12⟩,_,rfl,_,rfl,by show 2<=sizeLine;decide,fun T hT=>?_⟩;have hLT:L≠T:=fun z=>by rw[<- z,hL12] at hT;cases hT
     refine⟨L,_,_,rfl,rfl,by rw[q0c hLT];exact hL12,by rw[Ac];have:=I11.len;exact small' (by lia),?_⟩;have I12:=I11.put (m:=mk0) F hL hdH hLd hLDr (s11 _ _ (s10 _ _ hp9)) okp hnew hqd hT;have hp12:upd (upd (upd H11 d (dR (zs.map (fun z=>((fold bl z.2.1,.bl true):HRow))++[(fold bl q,.bl true)]))) T (.tup [.ref p2,mV mk0])) L (.lst (zs.map (fun z=>V.ref z.1)++[.ref T])) p2=some (.tup (vP q)):=by
      obtain⟨b',e1,e2⟩:=I12.rl.pr (T,(q,mk0)) (by simp);have e3:H11 p2=some (.tup (vP q)):=s11 _ _ (s10 _ _ hp9);have hTd:T≠d:=fun z=>by rw[z,q0b] at hT;cases hT
      rw[q0c (fun z=>by rw[z,I11.rl.at_] at e3;cases e3),q0c (fun z=>by rw[q0c hTd,<- z,e3] at hT;cases hT),q0c (fun z=>by rw[z,I11.hd] at e3;cases e3)];exact e3
     refine⟨fun b H'=>b=(decide (mV mk0=.non)&&decide (q.length<6))/\H'=upd (upd (upd H11 d (dR (zs.map (fun z=>((fold bl z.2.1,.bl true):HRow))++[(fold bl q,.bl true)]))) T (.tup [.ref p2,mV mk0])) L (.lst (zs.map (fun z=>V.ref z.1)++[.ref T])),?_,?_⟩
     ·rintro bb H' ⟨rfl,rfl⟩;refine iteB (fun hb=>?_) (fun hb=>?_)
      ·rw[Eb] at hb;have hmk:=mV_none.mp (of_decide_eq_true hb.1);subst hmk;refine⟨_,rfl,.inl ⟨rfl,_,SqL.of I12.da⟩,_,rfl,Dr,_,_,rfl,rfl,I12.da,by rw[Ac];exact small' (by lia),?_⟩;exact⟨_,_,_,_,_,rfl,I12.draw F hDrH hLDr (by lia) hp12 (by simp) (of_decide_eq_true hb.2),hi⟩
      ·exact⟨_,_,_,_,_,rfl,I12,hi⟩
     ·refine⟨_,rfl,_,rfl,?_⟩;refine iteB (fun hb=>?_) (fun hb=>?_)
      ·refine⟨_,rfl,_,_,rfl,.inr ⟨_,SqT.of hp12,rfl⟩,_,_,rfl,rfl,_,rfl,?_,rfl⟩;rw[hb,q1e,Bool.true_and];exact decide_eq_decide.mpr (by lia)
      ·exact⟨by rw[hb,Kq],rfl⟩
    ·exact⟨zs,ds,_,_,_,rfl,⟨I10.fd,I10.rl,I10.hl,Fl I10.len,I10.da,I10.dt,I10.dn,Fl I10.dl,I10.hd⟩,hi⟩
   ·refine⟨_,rfl,a,b,_,rfl,I8.fd.feed,by decide,by decide,fun r9 H9 r90 r91 fd9=>.inl ⟨rfl,_,rfl,?_⟩⟩;have I9:=I8.go fd9 hLa hDa hda;have hp9:H9 p2=some (.tup (vP q)):=tupFd I8.fd.feed fd9 _ _ hp8;refine ite2 (fun h=>?_) (fun h=>?_)
    ·exact⟨none,_,rfl,I9,hp9⟩
    ·exact⟨some mk0,_,rfl,I9,hp9⟩
  ·rintro σ' H' ⟨zs,ds,x6,x7,x8,rfl,I2,_⟩;exact⟨_,rfl,k L zs H' I2.fd hL I2.rl I2.hl (by have:=I2.len;lia)⟩
def lenAt(L:Addr)(H:Hp):Nat:=match H L with|some (.lst xs)=>xs.length|_=>0
theorem z0t{L:Addr}{H:Hp}{xs:List V}(h:H L=some (.lst xs)):lenAt L H=xs.length:=by unfold lenAt;rw[h]
theorem ers_map{α β:Type}(f:α->β):∀(l:List α) (k:Nat),(l.map f).eraseIdx k=(l.eraseIdx k).map f
 |[],_=>rfl
 |_::_,0=>rfl
 |a::l,k+1=>by show f a::(l.map f).eraseIdx k=f a::(l.eraseIdx k).map f;rw[ers_map f l k]
theorem z0u{α:Type}{z:α}:∀{l:List α} {k:Nat},l[k]?=some z->l.Perm (z::l.eraseIdx k)
 |[],_,h=>by cases h
 |a::l,0,h=>by cases h;exact Ob _
 |a::l,k+1,h=>by
  show(a::l).Perm (z::a::l.eraseIdx k);exact((z0u (l:=l) (k:=k) h).cons a).trans (List.Perm.swap _ _ _)
structure MxInv (H:Hp) (a b Lf M:Addr) (zs:List Zr) (H':Hp) (zl zf:List Zr):Prop where
 fd:Fd a b H H'
 l:RL H' Lf zl
 m:RL H' M zf
 p:(zl++zf).Perm zs
theorem MxInv.go{H:Hp}{a b Lf M:Addr}{zs:List Zr}{H' H2:Hp}{zl zf:List Zr}(x:MxInv H a b Lf M zs H' zl zf)(fd:Fd a b H' H2)(hL:Lf≠a)(hM:M≠a):MxInv H a b Lf M zs H2 zl zf:=⟨x.fd.trans fd,x.l.fd x.fd.feed fd hL,x.m.fd x.fd.feed fd hM,x.p⟩
theorem MxInv.mv{H:Hp}{a b Lf M:Addr}{zs:List Zr}{H':Hp}{zl zf:List Zr}{k:Nat}{z:Zr}(x:MxInv H a b Lf M zs H' zl zf)(F:FeedAt H a b)(hL:H Lf=none)(hM:H M=none)(n:M≠Lf)(hz:zl[k]?=some z):
  MxInv H a b Lf M zs (upd (upd H' Lf (.lst ((zl.map fun z=>V.ref z.1).eraseIdx k))) M (.lst (zf.map (fun z=>V.ref z.1)++[.ref z.1]))) (zl.eraseIdx k) (zf++[z]):=by
 have tk:∀S xs,H' S=some (.tup xs)->upd (upd H' Lf (.lst ((zl.map fun z=>V.ref z.1).eraseIdx k))) M (.lst (zf.map (fun z=>V.ref z.1)++[.ref z.1])) S=some (.tup xs):=fun S xs e=>by
  rw[q0c (fun z=>by rw[z,x.m.at_] at e;cases e),q0c (fun z=>by rw[z,x.l.at_] at e;cases e)];exact e
 refine⟨(x.fd.put F hL).put F hM,⟨?_,fun y hy=>PR.same (x.l.pr y (Iw hy)) tk⟩,⟨by rw[q0b,Av];rfl,fun y hy=>?_⟩,?_⟩
 ·rw[q0c n.symm,q0b,ers_map]
 ·rcases Az.mp hy with hy|hy
  ·exact PR.same (x.m.pr y hy) tk
  ·rw[Ar.mp hy];exact PR.same (x.l.pr z (Ay hz)) tk
 ·refine List.Perm.trans ?_ x.p;have e:zl.Perm (z::zl.eraseIdx k):=z0u hz;have e2:(zl.eraseIdx k++(zf++[z])).Perm (z::(zl.eraseIdx k++zf)):=by
   rw[<- Ji];exact Lh _ _
  exact e2.trans (List.Perm.append_right zf e.symm)
def spMixed:Sp:=fun vs H Q _=>∃a b L zs,vs=[.ref a,.ref L]/\FeedAt H a b/\RL H L zs/\zs.length<=60/\(∀r∈zs.map (·.2),Low r.1)/\∀M zs' H',Fd a b H H'->H M=none->RL H' M zs'->zs'.Perm zs->Q (.ref M) H'
abbrev q6y:Stmt:=top 26
theorem sc_mixed:FnScope ["_law_feed", "_law_rows_here", "_law_left", "_law_found"] ["_law_feed", "_law_rows_here"] (defScope q6y):=by trivial
theorem z6y(D:Df K mg "_law_mixed" q6y ["_law_feed", "_law_rows_here"])(T:Txt mg)(C:Calls P w K mg base):Cal P w K mg base "_law_mixed" 2 ["_law_feed", "_law_rows_here"] spMixed:=by
 refine D.cal sc_mixed (fun vs H Q E h=>?_) (fun f cdv A outer s H vs Q E hr h=>?_)
 ·obtain⟨a,b,L,zs,rfl,_⟩:=h;rfl
 ·obtain⟨a,b,L,zs,rfl,F,hl,h60,hlow,k⟩:=h;refine⟨_,(q0e (q0l (i:=2) sc_mixed.nd rfl (by trivial) (q2k (z3h K rfl) (by rfl) T.b_list (by decide +kernel) (q0a (pv 1) q0d))) (q0e (q0l (i:=3) sc_mixed.nd rfl (by trivial) (q1r q0d)) (q0e (z5j Cr (q0m (ne_k K rfl hr) (pv 2) (q1r q0d) (nomark _)) (q0f (q1g (@bm_k _ _ _ _ _ _ _ _ _ _ _ _ K rfl Ct Ei Ej q2a (pv 3) (q0a (@bm_k _ _ _ _ _ _ _ _ _ _ _ _ K rfl Ct PySem.F.slot_list_pop PySem.F.type_list_pop z5u (pv 2) (q0a (pe_c C.draw hr (q0a (pv 0) (q0a (q0i (q2m K rfl) (by rfl) T.b_len Bo (q0a (pv 2) q0d)) q0d))) q0d) (by rfl) (by rfl) (by rfl) (by rfl) (by rfl)) q0d) (by rfl) (by rfl) (by rfl) (by rfl) (by rfl))))) (q0f (q0k (pv 3)))))),?_⟩;refine⟨_,rfl,L,_,rfl,.inl (SqL.of hl.at_),fun Lf hLf=>⟨by show 0<=sizeLine;decide,fun M hM=>?_⟩⟩;have s1:=(Same.refl H).new (o:=.lst (zs.map fun z=>V.ref z.1)) hLf;have s2:=s1.new (o:=.lst []) hM;have hML:M≠Lf:=fun z=>by rw[z,q0b] at hM;cases hM
  have hMH:H M=none:=s1.free hM;have hLa:Lf≠a:=(F.na hLf).symm;have hMa:M≠a:=(F.na hMH).symm;have I0:MxInv H a b Lf M zs (upd (upd H Lf (.lst (zs.map fun z=>V.ref z.1))) M (.lst [])) zs [] :=
   ⟨(Fd.refl F).same s2,⟨by rw[q0c hML.symm];exact q0b,(hl.same s2).pr⟩,⟨q0b,(fun _ h=>nomatch h)⟩,by rw[Cq]⟩
  refine z5l (fun σ3 H3=>∃zl zf,σ3=[some (.ref a),some (.ref L),some (.ref Lf),some (.ref M)]/\MxInv H a b Lf M zs H3 zl zf) (fun _ H3=>lenAt Lf H3) ⟨zs,[],rfl,I0⟩ ?_ ?_
  ·rintro σ3 H3 ⟨zl,zf,rfl,I⟩;have hlen:zl.length+zf.length=zs.length:=by rw[<- An];exact I.p.length_eq
   have hlw:∀r∈zl.map (·.2),Low r.1:=fun r hr=>by
    obtain⟨z,hz,rfl⟩:=Ag.mp hr;exact hlow _ (Ag.mpr ⟨z,I.p.mem_iff.mp (Dh _ hz),rfl⟩)
   refine⟨_,rfl,by show 0<=sizeLine;decide,fun E hE=>?_⟩;have sE:=(Same.refl H3).new (o:=.lst []) hE;have I1:MxInv H a b Lf M zs (upd H3 E (.lst [])) zl zf:=⟨I.fd.same sE,I.l.same sE,I.m.same sE,I.p⟩
   refine ne_no I1.l q0b hlw ⟨_,rfl,ite2 (fun h=>?_) (fun h=>?_)⟩
   ·have hne:zl≠[]:=by simpa using h
    have hpos:=Bd.mpr hne;refine⟨_,rfl,.inl ⟨rfl,_,SqL.of I1.m.at_⟩,_,rfl,.inl ⟨rfl,_,SqL.of I1.l.at_⟩,_,rfl,_,rfl,_,_,rfl,.inl ⟨_,SqL.of I1.l.at_,rfl⟩,a,b,_,rfl,I1.fd.feed,by rw[Ac];lia,by rw[Ac];lia,fun r H4 r0 r1 fd4=>?_⟩;rw[Ac] at r1;have I2:=I1.go fd4 hLa hMa;obtain⟨v,hv1,hv2⟩:=q7w (xs:=zl) r0 r1;obtain⟨j,hj1,hj2,hj3,_,_⟩:=q6m hv2;refine⟨Lf,_,r,j,.ref v.1,rfl,rfl,I2.l.at_,by lia,by lia,by rw[Ac];exact hj1,by rw[Ao,hj2];rfl,?_⟩;refine⟨M,_,_,rfl,rfl,by rw[q0c hML];exact I2.m.at_,by rw[Ac];exact small' (by lia),?_⟩;have I3:=I2.mv F hLf hMH hML hj2;refine⟨⟨_,_,rfl,I3⟩,?_⟩;rw[z0t I3.l.at_,z0t I.l.at_,Ac,Ac,List.length_eraseIdx,if_pos hj3];lia
   ·have hz:zl=[]:=by simpa using h
    subst hz;exact⟨_,rfl,k M zf _ I1.fd hMH I1.m I1.p⟩
  ·intro σ3 H3 Q1 Q2 hq h;obtain⟨v,e,z,h⟩:=h;refine⟨v,e,z,fun E hE=>?_⟩;rcases h E hE with h|h
   ·obtain⟨h1,b1,h2,h3⟩:=h;exact .inl ⟨h1,b1,h2,hq _ _ h3⟩
   ·obtain⟨d,e,h1,h2,h3,h4,h5,b1,h6,h7⟩:=h;exact .inr ⟨d,e,h1,h2,h3,h4,h5,b1,h6,hq _ _ h7⟩
structure Hk (K:Af) (c:Addr):Prop where
 cl:Cls K c
 b:NoAttr K c "blind"
 m:NoAttr K c "marks"
abbrev hF(bl:Bool)(d:Addr):List (Str×V):=[("blind",.bl bl),("marks",.ref d)]
structure HallAt (c:Addr) (H:Hp) (h d:Addr) (bl:Bool) (rows:List Rw):Prop where
 i:∃dx,H h=some (.ins c dx (hF bl d))
 d:H d=some (dR (rows.map rR))
theorem HallAt.same{c:Addr}{H H':Hp}{h d:Addr}{bl:Bool}{rows:List Rw}(x:HallAt c H h d bl rows)(s:Same H H'):HallAt c H' h d bl rows:=⟨x.i.imp fun dx e=>s _ _ e,s _ _ x.d⟩
def spAlike:Sp:=fun vs H Q _=>∃x y,vs=[.str x,.str y]/\(∀c∈tl x,c<128)/\(∀c∈tl y,c<128)/\x.length<=1000/\y.length<=1000/\Q (.bl (decide ((tl x).map Fx=(tl y).map Fx))) H
abbrev q6z:Stmt:=top 12
theorem z6z:FnScope ["one", "other"] ["one", "other"] (defScope q6z):=by trivial
theorem z7a(D:Df K mg "alike" q6z ["one", "other"])(T:Txt mg):Cal P w K mg base "alike" 1 ["one", "other"] spAlike:=by
 refine D.cal z6z (fun vs H Q E h=>?_) (fun f cdv A outer s H vs Q E hr h=>?_)
 ·obtain⟨x,y,rfl,_⟩:=h;rfl
 ·obtain⟨x,y,rfl,ax,ay,lx,ly,k⟩:=h;refine⟨_,(q0f (q0k (q6k (eq_k K rfl hr) (@q7x _ _ _ _ _ _ _ _ _ K rfl Dx Gr Gs q4r (pv 0) (by rfl) (by rfl)) (@q7x _ _ _ _ _ _ _ _ _ K rfl Dx Gr Gs q4r (pv 1) (by rfl) (by rfl)) (nomark _)))),?_⟩;refine⟨_,rfl,rfl,_,rfl,rfl,small (by lia),⟨_,rfl,rfl,_,rfl,rfl,small (by lia),.inl ⟨rfl,?_⟩⟩⟩;have e:decide ((V.str (Gk x))=V.str (Gk y))=decide ((tl x).map Fx=(tl y).map Fx):=by
   rw[<- TX.lower ax,<- TX.lower ay];by_cases h:Gk x=Gk y
   ·rw[h];simp
   ·rw[decide_eq_false (fun z=>h (V.str.inj z)),decide_eq_false (fun z=>h (TX.ext z))]
  rw[e];exact k
structure CallsH (P:Program) (w:World) (K:Af) (mg:Str->Option Value) (base:Heap):Prop where
 alike:Cal P w K mg base "alike" 1 ["one", "other"] spAlike
theorem q1n{p:Pth}(h:Low p):Low p.dropLast:=fun n hn=>h n (Ow _ hn)
def spOneP(c:Addr):Sp:=fun vs H Q _=>∃h p q bl dx fs one other,vs=[.ref h,.ref p,.ref q]/\H h=some (.ins c dx fs)/\fs.lookup ("blind" : Str)=some (V.bl bl)/\H p=some (.tup (vP one))/\H q=some (.tup (vP other))/\okP one/\okP other /\
 ∀H',Same H H'->Q (.bl (decide (fold bl one=fold bl other))) H'
abbrev q1d:Stmt:=inClass (top 16) 3
theorem q3b:FnScope ["self", "one", "other"] ["self", "one", "other"] (defScope q1d):=by trivial
theorem q8s{c:Addr}(D:Mf K c "is_one_place" "Hall.is_one_place" q1d ["self", "one", "other"])(hk:Hk K c)(T:Txt mg)(C:CallsH P w K mg base):MCal P w K mg base c "is_one_place" 2 ["self", "one", "other"] (spOneP c):=by
 refine D.cal hk.cl q3b (fun vs H Q E h=>?_) (fun f cdv A outer s H vs Q E hr h=>?_)
 ·obtain⟨h,p,q,bl,dx,fs,one,other,rfl,_⟩:=h;rfl
 ·obtain⟨h,p,q,bl,dx,fs,one,other,rfl,hh,hb,hp,hq,ok1,ok2,k⟩:=h;refine⟨_,(q0e (q0w (q0m (ne_k K rfl hr) (q0n (sl_k K rfl) (pv 1) q0s (q0t (q1h q0r q0g))) (q0n (sl_k K rfl) (pv 2) q0s (q0t (q1h q0r q0g))) (nomark _)) (q0f (q0k q3u)) q0j) (q0e (q0w (@q2z _ _ _ K rfl (@q3z _ _ _ _ _ K rfl (pv 0) (by rfl)) (fun _=>rfl)) (q0f (q0k (pe_c C.alike hr (q0a (q0z (ix_k K rfl) (pv 1) (q1h q0r q0g) (fun _ _=>rfl)) (q0a (q0z (ix_k K rfl) (pv 2) (q1h q0r q0g) (fun _ _=>rfl)) q0d))))) q0j) (q0f (q0k (q6k (eq_k K rfl hr) (q0z (ix_k K rfl) (pv 1) (q1h q0r q0g) (fun _ _=>rfl)) (q0z (ix_k K rfl) (pv 2) (q1h q0r q0g) (fun _ _=>rfl)) (nomark _)))))),?_⟩;obtain⟨c1,c2⟩:=q1i ok1.ne;obtain⟨d1,d2⟩:=q1i ok2.ne;refine⟨_,rfl,_,rfl,_,rfl,.inr (.inr ⟨p,_,rfl,SqT.of hp,c2,fun p1 hp1=>?_⟩)⟩;rw[c1];have s1:=(Same.refl H).new (o:=.tup (vP one.dropLast)) hp1;refine⟨_,rfl,_,rfl,_,rfl,.inr (.inr ⟨q,_,rfl,SqT.of (s1 _ _ hq),d2,fun p2 hp2=>?_⟩)⟩;rw[d1];have s2:=s1.new (o:=.tup (vP other.dropLast)) hp2;have hp1':upd (upd H p1 (.tup (vP one.dropLast))) p2 (.tup (vP other.dropLast)) p1=some (.tup (vP one.dropLast)):=by
   rw[q0c (fun z=>by rw[<- z,q0b] at hp2;cases hp2)];exact q0b
  generalize hH2:upd (upd H p1 (.tup (vP one.dropLast))) p2 (.tup (vP other.dropLast))=H2 at s2 hp1';have hp2':H2 p2=some (.tup (vP other.dropLast)):=by rw[<- hH2];exact q0b
  have fe:=q9p (bl:=bl) ok1.ne ok2.ne;refine q2e hp1' hp2' (q1n ok1.low) (q1n ok2.low) ⟨_,rfl,ite2 (fun hne=>?_) (fun hne=>?_)⟩
  ·have hne':one.dropLast≠other.dropLast:=by simpa using hne
   have e:decide (fold bl one=fold bl other)=false:=decide_eq_false fun z=>hne' (fe.mp z).1;refine(?_:Q _ _);rw[<- e];exact k _ s2
  ·have heq:one.dropLast=other.dropLast:=by simpa using hne
   refine⟨_,rfl,h,c,dx,fs,_,rfl,s2 _ _ hh,hk.cl,hk.b,hb,_,rfl,?_⟩;have l1:=q4b ok1;have l2:=q4b ok2;cases bl with
   |true =>
    refine iteT ⟨_,rfl,_,rfl,.inr (.inl ⟨p,_,-1,_,rfl,rfl,SqT.of (s2 _ _ hp),q2q ok1.ne,?_⟩)⟩;refine⟨_,rfl,_,rfl,.inr (.inl ⟨q,_,-1,_,rfl,rfl,SqT.of (s2 _ _ hq),q2q ok2.ne,?_⟩)⟩;refine⟨_,_,rfl,by rw[q3a];exact l1.low,by rw[q3a];exact l2.low,by rw[q8c];have:=l1.few;lia,by rw[q8c];have:=l2.few;lia,?_⟩;rw[q3a,q3a];have e:decide (fold true one=fold true other)=decide (lowN (one.getLastD [])=lowN (other.getLastD [])):=by
     refine decide_eq_decide.mpr (fe.trans ⟨fun z=>by simpa using z.2,fun z=>⟨heq,by simpa using z⟩⟩)
    have:=k _ s2;rw[e] at this;exact this
   |false =>
    refine iteF ⟨_,rfl,_,rfl,.inr (.inl ⟨p,_,-1,_,rfl,rfl,SqT.of (s2 _ _ hp),q2q ok1.ne,?_⟩)⟩;refine⟨_,rfl,_,rfl,.inr (.inl ⟨q,_,-1,_,rfl,rfl,SqT.of (s2 _ _ hq),q2q ok2.ne,?_⟩)⟩;refine .inl ⟨rfl,?_⟩;have e:decide (fold false one=fold false other)=decide (V.str (mk (one.getLastD []))=V.str (mk (other.getLastD []))):=by
     refine decide_eq_decide.mpr (fe.trans ⟨fun z=>?_,fun z=>⟨heq,?_⟩⟩)
     ·have:=z.2;simp only[Bg,if_false] at this;rw[this]
     ·simp only[Bg,if_false];exact SB.mk_inj (V.str.inj z)
    have:=k _ s2;rw[e] at this;exact this
def spThere(c:Addr):Sp:=fun vs H Q _=>∃h d p bl rows place,vs=[.ref h,.ref p]/\HallAt c H h d bl rows/\H p=some (.tup (vP place))/\okP place/\(∀r∈rows,okP r.1) /\
 (∀H',Same H H'->(∀r∈rows,fold bl r.1≠fold bl place)->Q .non H')/\∀H' b r,Same H H'->r∈rows->fold bl r.1=fold bl place->H' b=some (.tup (vP r.1))->Q (.ref b) H'
structure CallsI (P:Program) (w:World) (K:Af) (mg:Str->Option Value) (base:Heap) (c:Addr):Prop where
 m_is_one_place:MCal P w K mg base c "is_one_place" 2 ["self", "one", "other"] (spOneP c)
theorem q1x{H H':Hp}{d:Addr}{o:HO}(hd:H d=some o)(k:∀a u,a≠d->H a=some u->H' a=some u):Same H (upd H' d o):=fun a u e=>by
 by_cases z:a=d
 ·subst z;rw[q0b,<- hd];exact e
 ·rw[q0c z];exact k a u z e
abbrev q2f:Stmt:=inClass (top 16) 4
theorem sc_Hall_there:FnScope ["self", "place", "path"] ["self", "place"] (defScope q2f):=by trivial
theorem z7b{c:Addr}(D:Mf K c "there" "Hall.there" q2f ["self", "place"])(hk:Hk K c)(T:Txt mg)(C:CallsI P w K mg base c):MCal P w K mg base c "there" 3 ["self", "place"] (spThere c):=by
 refine D.cal hk.cl sc_Hall_there (fun vs H Q E h=>?_) (fun f cdv A outer s H vs Q E hr h=>?_)
 ·obtain⟨h,d,p,bl,rows,place,rfl,_⟩:=h;rfl
 ·obtain⟨h,d,p,bl,rows,place,rfl,hh,hp,ok,oks,k1,k2⟩:=h;refine⟨_,(q0e (q9l H rfl (q3d Cr rfl (@q8d _ _ _ _ K rfl (@q3z _ _ _ _ _ K rfl (pv 0) (by rfl))) (q0o (i:=2) sc_Hall_there.nd rfl (by trivial)) (q0f (q0w (@q2z _ _ _ K rfl (pe_m C.m_is_one_place hr (pv 0) (q0a (pv 2) (q0a (pv 1) q0d))) (fun _=>rfl)) (q0f (q0k (pv 2))) q0j)))) (q0f (q0k q7h))),?_⟩;obtain⟨dx,hi⟩:=hh.i;have hd:=hh.d;have hhd:h≠d:=fun z=>by rw[z,hd] at hi;cases hi
  have hpd:p≠d:=fun z=>by rw[z,hd] at hp;cases hp
  refine⟨d,(fun o v e=>by rw[hd] at e;cases e),?_⟩;refine⟨_,rfl,h,c,dx,_,_,rfl,hi,hk.cl,hk.m,rfl,d,_,rfl,hd,fun ob=>?_⟩;refine q5g (fun i σ' H'=>(∃x,σ'=[some (.ref h),some (.ref p),x])/\H' d=some (.frz ob (dR (rows.map rR)))/\(∀a u,a≠d->H a=some u->H' a=some u)/\∀r∈rows.take i,fold bl r.1≠fold bl place)
   ⟨⟨none,rfl⟩,q0b,fun a u n e=>by rw[q0c n];exact e,fun r hr=>by rw[Kt] at hr;cases hr⟩ (fun i σ' H' x=>x.2.1) ?_ ?_
  ·rintro i ky v b σ' H' hk' hb ⟨⟨x,rfl⟩,hfz,kp,hno⟩;obtain⟨r,hr,rfl,rfl⟩:∃r,rows[i]?=some r/\ky=kP r.1/\v=mV r.2:=by
    rw[Ao,Ao] at hk';cases e:rows[i]? with
    |none=>rw[e] at hk';cases hk'
    |some r=>rw[e] at hk';cases hk';exact⟨r,rfl,rfl,rfl⟩
   have hrm:=Ay hr;rw[q2b] at hb;refine⟨_,rfl,h,dx,_,rfl,kp _ _ hhd hi,rfl,_,rfl,_,rfl,h,b,p,bl,dx,_,r.1,place,rfl,kp _ _ hhd hi,rfl,hb,kp _ _ hpd hp,oks r hrm,ok,fun H2 s2=>⟨_,rfl,?_⟩⟩;have kp2:∀a u,a≠d->H a=some u->H2 a=some u:=fun a u n e=>s2 _ _ (kp a u n e);refine iteB (fun he=>?_) (fun he=>?_)
   ·refine⟨_,rfl,ob,_,s2 _ _ hfz,k2 _ b r (q1x hd kp2) hrm (of_decide_eq_true he) ?_⟩;rw[q0c (fun z=>by rw[z,hfz] at hb;cases hb)];exact s2 _ _ hb
   ·refine⟨⟨_,rfl⟩,s2 _ _ hfz,kp2,fun y hy=>?_⟩;rw[Cb,hr] at hy;rcases Az.mp hy with hy|hy
    ·exact hno y hy
    ·cases Ar.mp hy;exact of_decide_eq_false he
  ·rintro σ' H' ⟨⟨x,rfl⟩,hfz,kp,hno⟩;refine⟨ob,_,hfz,k1 _ (q1x hd kp) fun r hr=>hno r ?_⟩;rw[Ac,Ac,Bh];exact hr
def spBlind(c:Addr):Sp:=fun vs H Q _=>∃h d bl rows,vs=[.ref h]/\HallAt c H h d bl rows/\Q (.bl bl) H
abbrev q1p:Stmt:=inClass (top 16) 2
theorem q4o:FnScope ["self"] ["self"] (defScope q1p):=by trivial
theorem z7c{c:Addr}(D:Mf K c "is_blind" "Hall.is_blind" q1p ["self"])(hk:Hk K c)(T:Txt mg):MCal P w K mg base c "is_blind" 1 ["self"] (spBlind c):=by
 refine D.cal hk.cl q4o (fun vs H Q E h=>?_) (fun f cdv A outer s H vs Q E hr h=>?_)
 ·obtain⟨h,d,bl,rows,rfl,_⟩:=h;rfl
 ·obtain⟨h,d,bl,rows,rfl,hh,k⟩:=h;refine⟨_,(q0f (q0k (@q3z _ _ _ _ _ K rfl (pv 0) (by rfl)))),?_⟩;obtain⟨dx,hi⟩:=hh.i;exact⟨_,rfl,h,c,dx,_,_,rfl,hi,hk.cl,hk.b,rfl,k⟩
def spHRows(c:Addr):Sp:=fun vs H Q _=>∃h d bl rows,vs=[.ref h]/\HallAt c H h d bl rows/\rows.length<64/\(∀r∈rows,Low r.1) /\
 ∀L zs H',H L=none->Same H H'->RL H' L zs->(zs.map (·.2)).Perm rows->(zs.map (·.2.1)).Pairwise (fun a b=>pLt b a=false)->Q (.ref L) H'
abbrev q2r:Stmt:=inClass (top 16) 1
theorem q8t:FnScope ["self"] ["self"] (defScope q2r):=by trivial
theorem z7d{c:Addr}(D:Mf K c "rows" "Hall.rows" q2r ["self"])(hk:Hk K c)(T:Txt mg):MCal P w K mg base c "rows" 2 ["self"] (spHRows c):=by
 refine D.cal hk.cl q8t (fun vs H Q E h=>?_) (fun f cdv A outer s H vs Q E hr h=>?_)
 ·obtain⟨h,d,bl,rows,rfl,_⟩:=h;rfl
 ·obtain⟨h,d,bl,rows,rfl,hh,h64,hlow,k⟩:=h;refine⟨_,(q0f (q0k (q0i (z1v hr) (by rfl) T.b_sorted (by decide +kernel) (q0a (@q7x _ _ _ _ _ _ _ _ _ K rfl Jd Mm Mn z0g (@q3z _ _ _ _ _ K rfl (pv 0) (by rfl)) (by rfl) (by rfl)) q0d)))),?_⟩;obtain⟨dx,hi⟩:=hh.i;refine⟨_,rfl,h,c,dx,_,_,rfl,hi,hk.cl,hk.m,rfl,.inr (.inr (.inl ⟨rfl,.inr ⟨_,hh.d⟩⟩)),d,_,rfl,rfl,hh.d,fun v hv=>?_⟩;have s1:=(Same.refl H).new (o:=vwO v d) hv;refine⟨v,d,rows.map rR,rfl,q0b,s1 _ _ hh.d,by rw[Ac];exact h64,fun r hr=>?_,fun L as rs H' hL hp hs sm hLL prs=>?_⟩
  ·obtain⟨x,hx,rfl⟩:=Ag.mp hr;exact hlow x hx
  ·obtain⟨rows',p',rfl⟩:=perm_map_inv hp rfl;obtain⟨zs,z1,z2,z3⟩:=zs_of prs rfl;refine k L zs H' (s1.free hL) (s1.trans sm) ⟨?_,z3⟩ (by rw[z2];exact p') ?_
   ·rw[hLL,<- z1,Ba];rfl
   ·have e:zs.map (·.2.1)=(rows'.map rR).map (·.1):=by rw[<- z2,Ba,Ba];rfl
    rw[e];exact hs
theorem z0v{α:Type}:∀{l:List α} {i:Nat} {r:α},l[i]?=some r->l=l.take i++r::l.drop (i+1)
 |[],_,_,h=>by cases h
 |a::l,0,_,h=>by cases h;rfl
 |a::l,i+1,r,h=>by show a::l=a::(l.take i++r::l.drop (i+1));rw[<- z0v (l:=l) (i:=i) h]
theorem q7a{α β:Type}{f:α->β}{l:List α}{i:Nat}{r r':α}(nd:(l.map f).Nodup)(hr:l[i]?=some r)(hr':r'∈l.take i):f r'≠f r:=by
 rw[z0v hr,Av,Ak] at nd;exact fun z=>(Jk.mp nd).2.2 _ (Ag.mpr ⟨r',hr',rfl⟩) _ Ap z
structure InInv (c:Addr) (H:Hp) (x dx d Dr:Addr) (bl:Bool) (rows:List Rw) (ys:List (List Key×V)) (i:Nat) (H':Hp):Prop where
 ins:H' x=some (.ins c dx (hF bl d))
 d:H' d=some (dR ((rows.take i).map rR))
 r:H' Dr=some (.dT ys)
 k:∀a u,a≠x->H a=some u->H' a=some u
theorem InInv.same{c:Addr}{H H' H2:Hp}{x dx d Dr:Addr}{bl:Bool}{rows:List Rw}{ys:List (List Key×V)}{i:Nat}(v:InInv c H x dx d Dr bl rows ys i H')(s:Same H' H2):InInv c H x dx d Dr bl rows ys i H2:=⟨s _ _ v.ins,s _ _ v.d,s _ _ v.r,fun a u n e=>s _ _ (v.k a u n e)⟩
def spInit(c:Addr):Sp:=fun vs H Q _=>∃x dx L bl zs,vs=[.ref x,.ref L,.bl bl]/\H x=some (.ins c dx [])/\RL H L zs/\Hl bl (zs.map (·.2))/\zs.length<=60 /\
 ∀d H',H d=none->H' x=some (.ins c dx (hF bl d))->H' d=some (dR ((zs.map (·.2)).map rR))->(∀a u,a≠x->H a=some u->H' a=some u)->Q .non H'
structure CallsK (P:Program) (w:World) (K:Af) (mg:Str->Option Value) (base:Heap) (c:Addr):Prop where
 m_there:MCal P w K mg base c "there" 3 ["self", "place"] (spThere c)
abbrev q0q:Stmt:=inClass (top 16) 0
theorem sc_Hall___init__:FnScope ["self", "rows", "blind", "drawers", "at", "path", "mark", "drawer"] ["self", "rows", "blind"] (defScope q0q):=by trivial
theorem z9o{c:Addr}(D:Kf K mg c "Hall" "Hall.__init__" q0q ["self", "rows", "blind"])(hk:Hk K c)(T:Txt mg)(C:CallsK P w K mg base c):KCal P w K mg base c "Hall" 4 ["self", "rows", "blind"] (spInit c):=by
 refine D.cal sc_Hall___init__ (fun vs H Q E h=>?_) (fun f cdv A outer s H vs Q E hr h=>?_)
 ·obtain⟨x,dx,L,bl,zs,rfl,_⟩:=h;rfl
 ·obtain⟨x,dx,L,bl,zs,rfl,hx,hl,hH,h60,k⟩:=h;refine⟨_,(q0e (@z3z _ _ _ _ _ _ _ _ K rfl (pv 0) (pv 2) (by rfl)) (q0e (@z3z _ _ _ _ _ _ _ _ K rfl (pv 0) q6t (by rfl)) (q0e (z6o (i:=3) ["path", "mark"] [] sc_Hall___init__.nd rfl (by trivial) rfl (@z6a _ _ _ _ K rfl (pv 1)) (fun _ _ _ _ _=>(@q5e _ _ _ _ (2) _ K rfl rfl (q0x (q0o (i:=0) (show(["path", "mark"]:List Str).Nodup by decide +kernel) rfl (by trivial)) (q0x (q0o (i:=1) (show(["path", "mark"]:List Str).Nodup by decide +kernel) rfl (by trivial)) q3e)) (by rfl) (by rfl))) (fun _ _ _ _ _=>(q9e (q1o (q4u (pv 1))))) (fun _ _ _ _ _=>(pv 0)) (fun _ _ _ _ _=>q3u) (q1t hr)) (q0f (q3d Cr rfl (@z7u _ _ _ _ _ _ _ _ K rfl rfl T.b_enumerate (q0a (pv 1) q0d) (by rfl)) (@q5e _ _ _ _ (2) _ K rfl rfl (q0x (q0o (i:=4) sc_Hall___init__.nd rfl (by trivial)) (q0x (@q5e _ _ _ _ (2) _ K rfl rfl (q0x (q0o (i:=5) sc_Hall___init__.nd rfl (by trivial)) (q0x (q0o (i:=6) sc_Hall___init__.nd rfl (by trivial)) q3e)) (by rfl) (by rfl)) q3e)) (by rfl) (by rfl)) (q0e (q0l (i:=7) sc_Hall___init__.nd rfl (by trivial) (q0n (sl_k K rfl) (pv 5) q0s (q0t (q1h q0r q0g)))) (q0e (q0w (pt_j (@PW.pt _ _ _ (q3k (q0m (ne_k K rfl hr) (pv 7) (q1c q0d) (nomark _)) (q2c (q1o (q3n (q1t hr) (pv 7) (pv 3))))))) (q0f q1m) q0j) (q0e (q0w (q1o (q4v (pe_m C.m_there hr (pv 0) (q0a (pv 5) q0d)))) (q0f q1m) q0j) (q0f (q5f (q1t hr) (@q3z _ _ _ _ _ K rfl (pv 0) (by rfl)) (pv 5) (pv 6) rfl)))))))))),?_⟩;have hLx:L≠x:=fun z=>by have e:=hl.at_;rw[z,hx] at e;cases e
  refine⟨_,rfl,_,rfl,x,c,dx,_,rfl,hx,hk.cl,hk.b,by decide,?_⟩;intro d hd;have hdx:d≠x:=fun z=>by rw[z,q0b] at hd;cases hd
  have hdH:H d=none:=by rw[q0c hdx] at hd;exact hd
  refine⟨_,rfl,x,c,dx,_,rfl,by rw[q0c hdx.symm];exact q0b,hk.cl,hk.m,by show 1<1000;decide,?_⟩;have pf:putF ("marks" : Str) (V.ref d) (putF ("blind" : Str) (V.bl bl) [])=hF bl d:=rfl;generalize hH3:upd (upd (upd H x (.ins c dx (putF ("blind" : Str) (.bl bl) []))) d (.dT [])) x (.ins c dx (putF ("marks" : Str) (.ref d) (putF ("blind" : Str) (.bl bl) [])))=H3;have k3:∀a u,a≠x->H a=some u->H3 a=some u:=fun a u n e=>by
   rw[<- hH3,q0c n,q0c (fun z=>by rw[z,hdH] at e;cases e),q0c n];exact e
  have i3:H3 x=some (.ins c dx (hF bl d)):=by rw[<- hH3,<- pf];exact q0b
  have d3:H3 d=some (.dT []):=by rw[<- hH3,q0c hdx];exact q0b
  have hl3:∀{H':Hp},(∀a u,a≠x->H a=some u->H' a=some u)->RL H' L zs:=fun{H'} kk=>⟨kk _ _ hLx hl.at_,fun z hz=>PR.same (hl.pr z hz) fun T' xs e=>kk _ _ (fun y=>by rw[y,hx] at e;cases e) e⟩
  refine⟨_,rfl,.inl ⟨L,rfl,⟨_,SqL.of (hl3 k3).at_⟩,fun Dr hDr=>?_⟩⟩;refine z1w (fun i ys H'=>H' Dr=some (.dT ys)/\Same H3 H'/\ys.length<=i/\i<=zs.length/\∀p,(p,none)∈(zs.take i).map (·.2)->(valV ys (kP p)).isSome=true) ⟨q0b,(Same.refl H3).new hDr,Ai _,Bv _,fun p hp=>by rw[Kt] at hp;cases hp⟩ (fun i ys H' h=>⟨h.1,SqL.of (h.2.1 _ _ (hl3 k3).at_)⟩) ?_ ?_
  ·rintro i ys H' v hv ⟨hD',s',hlen,_,hsome⟩;obtain⟨z,hz,rfl⟩:=gR0 hv
   have hi:i<zs.length:=(Bp.mp hz).1;obtain⟨b,h1,h2⟩:=((hl3 k3).same s').pr z (Ay hz);refine⟨z.1,_,rfl,SqT.of h1,rfl,_,_,rfl,_,_,rfl,rfl,q6a,?_⟩;refine⟨_,rfl,_,rfl,?_⟩;refine iteB (fun hm=>?_) (fun hm=>?_)
   ·refine⟨_,rfl,kP z.2.1,b,rfl,by rw[q2b];exact h2,hD',small' (by lia),q0b,fun a u e=>?_,?_,hi,fun p hp=>?_⟩
    ·rw[q0c (fun y=>by rw[y] at e;rw[hDr] at e;cases e)];exact s' _ _ e
    ·have:=q1u ys (kP z.2.1) (.bl true);lia
    ·rw[z6d];by_cases e:kP p=kP z.2.1
     ·rw[if_pos e];rfl
     ·rw[if_neg e];rw[Cb,hz,Av] at hp;rcases Az.mp hp with hp|hp
      ·exact hsome p hp
      ·exfalso;have e2:(p,none)=z.2:=Ar.mp hp;exact e (by rw[<- e2])
   ·refine⟨hD',s',by lia,hi,fun p hp=>?_⟩;rw[Cb,hz,Av] at hp;rcases Az.mp hp with hp|hp
    ·exact hsome p hp
    ·exfalso;have e:(p,none)=z.2:=Ar.mp hp;refine of_decide_eq_false hm ?_;show mV z.2.2=_;rw[<- e];rfl
  ·rintro ys H' ⟨hD',s',hlen,_,hsome⟩;rw[Ac,Bh] at hsome;have I0:InInv c H x dx d Dr bl (zs.map (·.2)) ys 0 H':=⟨s' _ _ i3,s' _ _ d3,hD',fun a u n e=>s' _ _ (k3 a u n e)⟩
   have hDx:Dr≠x:=fun z=>by rw[z,i3] at hDr;cases hDr
   have hDd:Dr≠d:=fun z=>by rw[z,d3] at hDr;cases hDr
   refine⟨_,rfl,.inr ⟨L,_,rfl,SqL.of (hl3 I0.k).at_,?_⟩⟩;refine q8m (fun i σ' H2=>∃x4 x5 x6 x7,σ'=[some (.ref x),some (.ref L),some (.bl bl),some (.ref Dr),x4,x5,x6,x7]/\InInv c H x dx d Dr bl (zs.map (·.2)) ys i H2) ⟨none,none,none,none,rfl,I0⟩ (fun i σ' H2 h=>by obtain⟨_,_,_,_,_,h⟩:=h;exact SqL.of (hl3 h.k).at_) ?_ ?_
   ·rintro i v T' σ' H2 hv ⟨x4,x5,x6,x7,rfl,I⟩ hT;obtain⟨z,hz,rfl⟩:=gR0 hv
    have hi:i<zs.length:=(Bp.mp hz).1;have hzr:(zs.map (·.2))[i]?=some z.2:=by rw[Ao,hz];rfl
    have hzm:=Ay hzr;have okz:=hH.ok _ hzm;have sT:=(Same.refl H2).new (o:=.tup [.int i,.ref z.1]) hT;have I1:=I.same sT;obtain⟨b,h1,h2⟩:=(hl3 I1.k).pr z (Ay hz);refine⟨T',_,rfl,SqT.of q0b,rfl,_,_,rfl,_,_,rfl,z.1,_,rfl,SqT.of h1,rfl,_,_,rfl,_,_,rfl,rfl,rfl,?_⟩;generalize upd H2 T' (.tup [.int i,.ref z.1])=H4 at sT I1 h1 h2;replace h1:H4 z.1=some (.tup [.ref b,mV z.2.2]):=h1;replace h2:H4 b=some (.tup (vP z.2.1)):=h2;obtain⟨c1,c2⟩:=q1i okz.ne;refine⟨_,rfl,_,rfl,_,rfl,.inr (.inr ⟨b,_,rfl,SqT.of (xs:=vP z.2.1) h2,c2,fun p1 hp1=>?_⟩)⟩;rw[c1];have s5:=(Same.refl H4).new (o:=.tup (vP z.2.1.dropLast)) hp1;have I2:=I1.same s5;have h2':=s5 _ _ h2;have hp1':upd H4 p1 (.tup (vP z.2.1.dropLast)) p1=some (.tup (vP z.2.1.dropLast)):=q0b;generalize upd H4 p1 (.tup (vP z.2.1.dropLast))=H5 at s5 I2 h2' hp1';refine⟨fun bb H6=>bb=false/\Same H5 H6,?_,?_⟩
    ·rintro bb H6 ⟨rfl,s6⟩;refine iteF ?_;have I3:=I2.same s6;refine⟨_,rfl,x,dx,_,rfl,I3.ins,rfl,_,rfl,x,d,b,bl,_,z.2.1,rfl,⟨⟨dx,I3.ins⟩,I3.d⟩,s6 _ _ h2',okz,fun r hr=>hH.ok r (Fo hr),fun H7 s7 _=>?_,fun H7 b' r s7 hr e _=>absurd e (q7a (f:=fun r:Rw=>fold bl r.1) hH.nd hzr hr)⟩;refine⟨_,rfl,iteF ?_⟩;have I4:=I3.same s7;refine⟨_,rfl,_,rfl,x,c,dx,_,_,rfl,I4.ins,hk.cl,hk.m,rfl,_,rfl,d,_,rfl,DPut.t (k:=kP z.2.1) I4.d (by rw[q2b];exact s7 _ _ (s6 _ _ h2')) (by rw[Ac,Ac,Cj,Ac];exact small' (by lia)),?_⟩;have hnew:∀r∈((zs.map (·.2)).take i).map rR,r.1≠z.2.1:=fun r hr=>by
      obtain⟨y,hy,rfl⟩:=Ag.mp hr;exact q7a (f:=fun r:Rw=>r.1) hH.paths hzr hy
     rw[q2y hnew];refine⟨_,_,_,_,rfl,?_,?_,?_,fun a u n e=>?_⟩
     ·rw[q0c hdx.symm];exact I4.ins
     ·have e:((zs.map (·.2)).take (i+1)).map rR=((zs.map (·.2)).take i).map rR++[(z.2.1,mV z.2.2)]:=by rw[Cb,hzr,Av];rfl
      rw[e];exact q0b
     ·rw[q0c hDd];exact I4.r
     ·rw[q0c (fun y=>by rw[y,hdH] at e;cases e)];exact I4.k a u n e
    ·refine⟨_,rfl,by show 0<=sizeLine;decide,fun e0 he0=>?_⟩;have s6:=(Same.refl H5).new (o:=.tup []) he0;refine q2e (q:=[]) (s6 _ _ hp1') q0b (q1n okz.low) (fun _ h=>nomatch h) ⟨_,rfl,?_⟩;refine iteB (fun hne=>?_) (fun hne=>?_)
     ·have hne':z.2.1.dropLast≠[]:=by simpa using hne
      have hin:=hsome _ ((hH.dr _ hzm).resolve_left hne');refine⟨_,rfl,_,rfl,Dr,_,rfl,DGet.t (k:=kP z.2.1.dropLast) (I2.same s6).r (by rw[q2b];exact s6 _ _ hp1'),_,rfl,?_,s6⟩;cases e:valV ys (kP z.2.1.dropLast) with
      |none=>rw[e] at hin;cases hin
      |some v=>rfl
     ·exact⟨rfl,s6⟩
   ·rintro σ' H2 ⟨x4,x5,x6,x7,rfl,I⟩;have hd2:=I.d;rw[Ac,<- Ac (f:=fun z:Zr=>z.2),Bh] at hd2;exact k d H2 hdH I.ins hd2 I.k
theorem q6i{α β:Type}{F:α->β->Prop}:∀{l:List α} {m:List β},Bu F l m->l.length=m.length
 |_,_,.nil=>rfl
 |_,_,.cons _ t=>congrArg (· + 1) (q6i t)
theorem z0w{rows:List Rw}(nd:(rows.map (·.1)).Nodup):∀{l m:List Rw},(∀r∈l,r∈rows)->(∀r∈m,r∈rows)->l.map (·.1)=m.map (·.1)->l=m
 |[],[],_,_,_=>rfl
 |[],_::_,_,_,h=>by cases h
 |_::_,[],_,_,h=>by cases h
 |a::l,b::m,h1,h2,h=>by
  rw[Ak,Ak] at h;injection h with e1 e2;rw[q2d (f:=fun r:Rw=>r.1) nd (h1 a Ap) (h2 b Ap) e1,z0w nd (fun r hr=>h1 r (Ah _ hr)) (fun r hr=>h2 r (Ah _ hr)) e2]
structure CallsR (P:Program) (w:World) (K:Af) (mg:Str->Option Value) (base:Heap) (c:Addr):Prop where
 m_rows:MCal P w K mg base c "rows" 2 ["self"] (spHRows c)
def spRight(c:Addr):Sp:=fun vs H Q _=>∃h m d bl rows,∃mrows:List Rw,vs=[.ref h,.ref m]/\HallAt c H h d bl rows/\H m=some (dR (mrows.map rR))/\mrows.Perm rows/\(rows.map (·.1)).Nodup/\(∀r∈rows,okP r.1)/\rows.length<64/\∀H',Same H H'->Q (.bl true) H'
abbrev q2g:Stmt:=top 27
theorem sc_rows_right:FnScope ["_law_hall", "_law_marks", "_law_found", "_law_row_here"] ["_law_hall", "_law_marks"] (defScope q2g):=by trivial
theorem z7e{c:Addr}(D:Df K mg "_law_rows_right" q2g ["_law_hall", "_law_marks"])(T:Txt mg)(C:CallsR P w K mg base c):Cal P w K mg base "_law_rows_right" 3 ["_law_hall", "_law_marks"] (spRight c):=by
 refine D.cal sc_rows_right (fun vs H Q E h=>?_) (fun f cdv A outer s H vs Q E hr h=>?_)
 ·obtain⟨h,m,d,bl,rows,mrows,rfl,_⟩:=h;rfl
 ·obtain⟨h,m,d,bl,rows,mrows,rfl,hh,hm,mpm,nd,oks,h64,k⟩:=h;refine⟨_,(q0e (q0l (i:=2) sc_rows_right.nd rfl (by trivial) (z6p C.m_rows hr (pv 0))) (q0e (q0w (pt_j (@PW.pt _ _ _ (q5t (q3c (@q2z _ _ _ K rfl (q0i (z6b K rfl) (by rfl) T.b_isinstance (by decide +kernel) (q0a (pv 2) (q0a (q6j (by rfl) T.b_list (by decide +kernel) (show RelV (.ty "list") _ from rfl)) q0d))) (fun _=>rfl))) (q4g (q0m (ne_k K rfl hr) (pv 2) (q4q ["_law_path"] [("_law_marks",1)] rfl (@z6a _ _ _ _ K rfl (q0i (q6f hr) (by rfl) T.b_sorted (by decide +kernel) (q0a (pv 1) q0d))) (fun _ _ _ _ _=>(q0o (i:=0) (show(["_law_path", "_law_marks"]:List Str).Nodup by decide +kernel) rfl (by trivial))) (fun _ _ _ _ _=>q9d) (fun _ _ _ _ _=>(q1c (q0a (pv 0) (q0a (q3g (q1t hr) (pv 1) (pv 0) (fun _ _=>rfl)) q0d))))) (nomark _)))))) (q0f (q0k q3u)) q0j) (q0e (q3d Cr rfl (@z6a _ _ _ _ K rfl (pv 2)) (q0o (i:=3) sc_rows_right.nd rfl (by trivial)) (q0f (q0w (pt_j (@PW.pt _ _ _ (q5t (q3c (@q2z _ _ _ K rfl (q0i (z6b K rfl) (by rfl) T.b_isinstance (by decide +kernel) (q0a (pv 3) (q0a (q6j (by rfl) T.b_tuple (by decide +kernel) (show RelV (.ty "tuple") _ from rfl)) q0d))) (fun _=>rfl))) (q5t (q3c (@q2z _ _ _ K rfl (q0i (z6b K rfl) (by rfl) T.b_isinstance (by decide +kernel) (q0a (q0z (ix_k K rfl) (pv 3) q0g (fun _ _=>rfl)) (q0a (q6j (by rfl) T.b_tuple (by decide +kernel) (show RelV (.ty "tuple") _ from rfl)) q0d))) (fun _=>rfl))) (q4g (@q2z _ _ _ K rfl (q0i (z6b K rfl) (by rfl) T.b_isinstance (by decide +kernel) (q0a (q0z (ix_k K rfl) (pv 3) q0g (fun _ _=>rfl)) (q0a (q6j (by rfl) T.b_bool (by decide +kernel) (show RelV (.ty "bool") _ from rfl)) q0d))) (fun _=>rfl))))))) (q0f (q0k q3u)) q0j))) (q0f (q0k q3u))))),?_⟩;obtain⟨dx,hi⟩:=hh.i;have low:∀r∈rows,Low r.1:=fun r hr=>(oks r hr).low
  refine⟨_,rfl,h,dx,_,rfl,hi,rfl,h,d,bl,rows,rfl,hh,h64,low,fun L zs H1 hL s1 rl hp hs=>?_⟩;have zin:∀r∈zs.map (·.2),r∈rows:=fun r hr=>hp.mem_iff.mp hr;have lowz:∀r∈zs.map (·.2),Low r.1:=fun r hr=>low r (zin r hr);refine⟨fun b H'=>b=false/\Same H1 H',?_,?_⟩
  ·rintro b H' ⟨rfl,s2⟩;refine iteF ?_;have rl2:=rl.same s2;refine⟨_,rfl,.inl ⟨L,rfl,⟨_,SqL.of rl2.at_⟩,?_⟩⟩;refine z0c (xs:=zs.map fun z=>V.ref z.1) (fun i σ' H3=>(∃x3,σ'=[some (.ref h),some (.ref m),some (.ref L),x3])/\H3=H') ⟨⟨none,rfl⟩,rfl⟩ (fun i σ' H3 _ x=>by rw[x.2];exact SqL.of rl2.at_) ?_ ?_
   ·rintro i v σ' H3 hv ⟨⟨x3,rfl⟩,rfl⟩;obtain⟨z,hz,rfl⟩:=gR0 hv
    obtain⟨b,h1,h2⟩:=rl2.pr z (Ay hz);refine⟨fun b H4=>b=false/\H4=H3,?_,?_⟩
    ·rintro b H4 ⟨rfl,rfl⟩;exact iteF ⟨⟨_,rfl⟩,rfl⟩
    ·refine⟨_,rfl,_,_,_,true,rfl,TyOf.tup h1,rfl,true,rfl,iteF ?_⟩;refine⟨_,rfl,.inr (.inl ⟨z.1,_,0,_,rfl,rfl,SqT.of h1,rfl,?_⟩)⟩;refine⟨_,_,_,true,rfl,TyOf.tup h2,rfl,true,rfl,iteF ?_⟩;refine⟨_,rfl,.inr (.inl ⟨z.1,_,1,_,rfl,rfl,SqT.of h1,rfl,?_⟩)⟩;show ∃x c t b,[mV z.2.2,_]=[x,.ty c]/\_;cases z.2.2 with
     |none=>exact⟨_,_,_,false,rfl,TyOf.non,rfl,false,rfl,rfl,rfl⟩
     |some n=>exact⟨_,_,_,false,rfl,TyOf.int n,rfl,false,rfl,rfl,rfl⟩
   ·rintro σ' H3 ⟨⟨x3,rfl⟩,rfl⟩;exact k _ (s1.trans s2)
  ·refine⟨_,rfl,_,_,_,true,rfl,TyOf.lst rl.at_,rfl,true,rfl,iteF ?_⟩;refine⟨_,rfl,_,rfl,m,_,rfl,s1 _ _ hm,by rw[Ac,mpm.length_eq];exact h64,fun r hr=>?_,fun L2 bs ps hL2 hp2 hs2 pts=>?_⟩
   ·obtain⟨y,hy,rfl⟩:=Ag.mp hr;exact(oks y (mpm.mem_iff.mp hy)).ne
   have s2:=(Same.refl H1).new (o:=.lst (bs.map V.ref)) hL2;have hLL:upd H1 L2 (.lst (bs.map V.ref)) L2=some (.lst (bs.map V.ref)):=q0b;generalize upd H1 L2 (.lst (bs.map V.ref))=H2 at s2 hLL;refine .inl ⟨L2,rfl,⟨_,SqL.of hLL⟩,fun Dl hDl=>?_⟩;have hps:(mrows.map rR).map (·.1)=mrows.map (·.1):=by rw[Ba];rfl
   rw[hps] at hp2;have ndm:(mrows.map (·.1)).Nodup:=(mpm.map _).nodup_iff.mpr nd;replace hp2:=hp2.trans (mpm.map _);have hbl:bs.length=ps.length:=q6i pts;have hpl:ps.length=rows.length:=by rw[hp2.length_eq,Ac]
   refine z1r (xs:=bs.map V.ref) (fun i ys H3=>∃ws:List Zr,ys=ws.map (fun z=>V.ref z.1)/\ws.map (fun z=>z.2.1)=ps.take i/\(∀w∈ws,w.2∈rows/\PR H3 w.1 (rR w.2))/\Same H2 H3/\H3 Dl=some (.lst ys)/\i<=ps.length)
    ⟨[],rfl,rfl,(fun _ h=>nomatch h),(Same.refl H2).new hDl,q0b,Bv _⟩ (fun i ys H3 ⟨ws,_,_,_,s3,h3,_⟩=>⟨h3,SqL.of (s3 _ _ hLL)⟩) ?_ ?_
   ·rintro i ys H3 v hv ⟨ws,rfl,hw1,hw2,s3,h3,hile⟩;obtain⟨b,hb,rfl⟩:∃b,bs[i]?=some b/\v=.ref b:=by
     rw[Ao] at hv;cases e:bs[i]? with
     |none=>rw[e] at hv;cases hv
     |some z=>rw[e] at hv;cases hv;exact⟨z,rfl,rfl⟩
    obtain⟨p,hp3,hbp⟩:=Bu.at' pts hb;have hi':i<ps.length:=(Bp.mp hp3).1;obtain⟨r,hr,rfl⟩:=Ag.mp (hp2.mem_iff.mp (Ay hp3));have hb3:=s3 _ _ (s2 _ _ hbp);have hm3:=s3 _ _ (s2 _ _ (s1 _ _ hm));have hval:=q5r (rs:=mrows.map rR) (r:=rR r) (Ag.mpr ⟨r,mpm.mem_iff.mpr hr,rfl⟩) (by rw[hps];exact ndm);have hg:=DGet.t (k:=kP r.1) hm3 (by rw[q2b];exact hb3);rw[show valV ((mrows.map rR).map fun r=>(kP r.1,r.2)) (kP r.1)=some (mV r.2) from hval] at hg;refine⟨_,rfl,_,rfl,_,rfl,m,_,rfl,hg,by show 2<=sizeLine;decide,fun Tn hTn=>?_⟩;have sT:=(Same.refl H3).new (o:=.tup [.ref b,mV r.2]) hTn;have hwl:ws.length=i:=by rw[<- Ac (f:=fun z:Zr=>z.2.1),hw1,Cj];lia
    have hDT:Dl≠Tn:=fun z=>by rw[z,hTn] at h3;cases h3
    have tk:∀S xs,upd H3 Tn (.tup [.ref b,mV r.2]) S=some (.tup xs)->upd (upd H3 Tn (.tup [.ref b,mV r.2])) Dl (.lst (ws.map (fun z=>V.ref z.1)++[.ref Tn])) S=some (.tup xs):=fun S xs e=>by
     rw[q0c (fun z=>by rw[z,q0c hDT,h3] at e;cases e)];exact e
    refine⟨by rw[q0c hDT];exact h3,small' (by rw[Ac];lia),ws++[(Tn,r)],by rw[Av];rfl,?_,fun w hw=>?_,(s3.trans sT).put hDl,q0b,hi'⟩
    ·rw[Av,hw1,Cb,hp3];rfl
    ·rcases Az.mp hw with hw|hw
     ·exact⟨(hw2 w hw).1,PR.same (PR.same (hw2 w hw).2 fun S xs e=>sT _ _ e) tk⟩
     ·rw[Ar.mp hw];exact⟨hr,b,tk _ _ q0b,tk _ _ (sT _ _ hb3)⟩
   ·rintro ys H3 ⟨ws,rfl,hw1,hw2,s3,h3,_⟩;rw[Ac,hbl,Bh] at hw1;have e1:zs.map (·.2.1)=ps:=by
     have z1:(zs.map (·.2)).map (·.1)=zs.map (·.2.1):=by rw[Ba];rfl
     have p1:(zs.map (·.2.1)).Perm (rows.map (·.1)):=by rw[<- z1];exact hp.map _
     exact q5n (p1.trans hp2.symm) (p1.nodup_iff.mpr nd) hs hs2
    have e2:zs.map (·.2)=ws.map (·.2):=z0w nd zin (fun r hr=>by obtain⟨w,hw,rfl⟩:=Ag.mp hr;exact(hw2 w hw).1) (by
     rw[Ba,Ba];show zs.map (fun z=>z.2.1)=ws.map (fun z=>z.2.1);rw[e1,hw1])
    exact z9e (rl.same (s2.trans s3)) ⟨h3,fun w hw=>(hw2 w hw).2⟩ e2 lowz ⟨_,rfl,rfl,s2.trans s3⟩
def spCarried:Sp:=fun vs H Q _=>∃a b c x p q,vs=[.ref a,.ref b,.ref c]/\H a=some (.tup (vP x))/\H b=some (.tup (vP p))/\H c=some (.tup (vP q))/\Low x/\Low p/\x.length<=100/\q.length<=100/\∀e H',Same H H'->H' e=some (.tup (vP (carry p q x)))->Q (.ref e) H'
theorem z0x(p q:Pth):vP (p++q)=vP p++vP q:=Av
theorem z8a(x:Pth)(n:Nat):cutV (vP x) none (some (n:Int))=vP (x.take n):=by
 unfold cutV;have e0:HT.sIx (vP x).length 0 none=0:=rfl;have e1:HT.sIx (vP x).length (vP x).length (some (n:Int))=min n x.length:=by
  show(if (n:Int)<0 then((n:Int)+((vP x).length:Int)).toNat else min ((n:Int)).toNat (vP x).length)=_;rw[if_neg (by lia),q1e,Fj]
 rw[e0,e1,Ny,Md,<- Ge];rw[<- Nx,Bh]
theorem z0y(x:Pth)(n:Nat):cutV (vP x) (some (n:Int)) none=vP (x.drop n):=by
 unfold cutV;have e0:HT.sIx (vP x).length 0 (some (n:Int))=min n x.length:=by
  show(if (n:Int)<0 then((n:Int)+((vP x).length:Int)).toNat else min ((n:Int)).toNat (vP x).length)=_;rw[if_neg (by lia),q1e,Fj]
 have e1:HT.sIx (vP x).length (vP x).length none=x.length:=q1e x;rw[e0,e1,<- Pf,<- Ge];congr 1;rcases Qc n x.length with h|h
 ·rw[Mt (Ft h)];exact Jp (by rw[Hm];lia)
 ·rw[Nat.min_eq_right h,List.drop_length,List.drop_of_length_le h];exact List.take_nil
theorem z0z{p:Pth}{n:Nat}(h:Low p):Low (p.take n):=fun x hx=>h x (Fo hx)
abbrev q4c:Stmt:=top 15
theorem z2c:FnScope ["path", "moved", "place"] ["path", "moved", "place"] (defScope q4c):=by trivial
theorem z2d(D:Df K mg "carried" q4c ["path", "moved", "place"])(T:Txt mg):Cal P w K mg base "carried" 1 ["path", "moved", "place"] spCarried:=by
 refine D.cal z2c (fun vs H Q E h=>?_) (fun f cdv A outer s H vs Q E hr h=>?_)
 ·obtain⟨a,b,c,x,p,q,rfl,_⟩:=h;rfl
 ·obtain⟨a,b,c,x,p,q,rfl,ha,hb,hc,lx,lp,l1,l2,k⟩:=h;refine⟨_,(q0e (q0w (q0m (eq_k K rfl hr) (q0n sl_P (pv 0) q0s (q0t (q0i (q2m K rfl) (by rfl) T.b_len Bo (q0a (pv 1) q0d)))) (pv 1) (nomark _)) (q0f (q0k (q1a q3y (pv 2) (q0n sl_P (pv 0) (q0t (q0i (q2m K rfl) (by rfl) T.b_len Bo (q0a (pv 1) q0d))) q0s)))) q0j) (q0f (q0k (pv 0)))),?_⟩;refine⟨_,rfl,_,rfl,_,_,rfl,.inr ⟨_,SqT.of hb,rfl⟩,_,rfl,a,_,rfl,ha,fun t1 H1 s1 h1=>?_⟩;rw[q1e,z8a] at h1;refine⟨_,rfl,q1w h1 (s1 _ _ hb) (z0z lx) lp ⟨_,rfl,?_⟩⟩;refine iteB (fun he=>?_) (fun he=>?_)
  ·have he:=of_decide_eq_true he;refine⟨_,rfl,_,rfl,_,rfl,_,_,rfl,.inr ⟨_,SqT.of (s1 _ _ hb),rfl⟩,_,rfl,a,_,rfl,s1 _ _ ha,fun t2 H2 s2 h2=>?_⟩;rw[q1e,z0y] at h2;refine⟨c,t2,_,_,rfl,rfl,s2 _ _ (s1 _ _ hc),h2,by rw[q1e,q1e,Hm];exact small (by lia),fun e H3 s3 h3 _=>?_⟩;refine k e H3 ((s1.trans s2).trans s3) ?_;rw[h3,<- z0x];unfold carry;rw[if_pos he]
  ·have he:=of_decide_eq_false he;refine⟨_,rfl,k a H1 s1 ?_⟩;unfold carry;rw[if_neg he];exact s1 _ _ ha
theorem z7f{rs:List HRow}{p:Pth}{v:V}(h:valV (rs.map fun r=>(kP r.1,r.2)) (kP p)=some v):(p,v)∈rs:=by
 induction rs with
 |nil=>cases h
 |cons r rs ih =>
  rw[Ak] at h;by_cases e:kP r.1=kP p
  ·rw[q1b e] at h;cases h;rw[<- q8r e];exact Ap
  ·rw[q0y e] at h;exact Ah _ (ih h)
theorem q2h{rows:List Rw}(nd:(rows.map (·.1)).Nodup){p:Pth}{m:Option Int}(h:(p,m)∈rows):valV ((rows.map rR).map fun r=>(kP r.1,r.2)) (kP p)=some (mV m) :=
 q5r (rs:=rows.map rR) (r:=rR (p,m)) (Ag.mpr ⟨_,h,rfl⟩) (by rw[Ba];exact nd)
theorem q4n{rows:List Rw}{p:Pth}{v:V}(h:valV ((rows.map rR).map fun r=>(kP r.1,r.2)) (kP p)=some v):∃m,v=mV m/\(p,m)∈rows:=by
 obtain⟨r,hr,e⟩:=Ag.mp (z7f h);cases e;exact⟨r.2,rfl,hr⟩
def spIsDrawer(c:Addr):Sp:=fun vs H Q _=>∃h d p bl rows q,vs=[.ref h,.ref p]/\HallAt c H h d bl rows/\H p=some (.tup (vP q))/\Low q/\(rows.map (·.1)).Nodup/\∀H' bb,Same H H'->(bb=true↔q=[]\/(q,none)∈rows)->Q (.bl bb) H'
abbrev q1k:Stmt:=inClass (top 16) 6
theorem q4d:FnScope ["self", "path"] ["self", "path"] (defScope q1k):=by trivial
theorem q8u{c:Addr}(D:Mf K c "is_drawer" "Hall.is_drawer" q1k ["self", "path"])(hk:Hk K c)(T:Txt mg):MCal P w K mg base c "is_drawer" 1 ["self", "path"] (spIsDrawer c):=by
 refine D.cal hk.cl q4d (fun vs H Q E h=>?_) (fun f cdv A outer s H vs Q E hr h=>?_)
 ·obtain⟨h,d,p,bl,rows,q,rfl,_⟩:=h;rfl
 ·obtain⟨h,d,p,bl,rows,q,rfl,hh,hp,lq,nd,k⟩:=h;refine⟨_,(q0f (q0k (pe_j (pe_or (q6k (eq_k K rfl hr) (pv 1) (q1c q0d) (nomark _)) (z2n (pe_j (z7n (z7m (z3m (q1t hr) (pv 1) (@q3z _ _ _ _ _ K rfl (pv 0) (by rfl)))) (z2n (z7m (q4u (q3g (q1t hr) (@q3z _ _ _ _ _ K rfl (pv 0) (by rfl)) (pv 1) (fun _ _=>rfl)))))))))))),?_⟩;obtain⟨dx,hi⟩:=hh.i;refine⟨fun v H'=>∃bb,v=.bl bb/\Same H H'/\(bb=true↔q=[]\/(q,none)∈rows),fun v H' x=>?_,?_⟩
  ·obtain⟨bb,rfl,s1,e⟩:=x;exact k H' bb s1 e
  refine⟨_,rfl,by show 0<=sizeLine;decide,fun e0 he0=>?_⟩;have s1:=(Same.refl H).new (o:=.tup []) he0;refine q1w (q:=[]) (s1 _ _ hp) q0b lq (fun _ h=>nomatch h) ⟨_,rfl,?_⟩;refine iteB (fun he=>?_) (fun he=>?_)
  ·exact⟨true,rfl,s1,⟨fun _=>.inl (of_decide_eq_true he),fun _=>rfl⟩⟩
  have he:=of_decide_eq_false he;refine⟨fun v H'=>∃bb,v=.bl bb/\Same H H'/\(bb=true↔q=[]\/(q,none)∈rows),fun v H' x=>x,?_⟩;refine⟨_,rfl,_,rfl,h,c,dx,_,_,rfl,s1 _ _ hi,hk.cl,hk.m,rfl,d,_,rfl,q4j (s1 _ _ hh.d) (s1 _ _ hp),_,rfl,?_⟩;cases hv:valV ((rows.map rR).map fun r=>(kP r.1,r.2)) (kP q) with
  |none =>
   refine iteF ⟨false,rfl,s1,⟨(fun z=>by cases z),fun z=>?_⟩⟩;exfalso;rw[q2h nd (z.resolve_left he)] at hv;cases hv
  |some v =>
   obtain⟨m,rfl,hm⟩:=q4n hv;refine iteT ⟨_,rfl,h,c,dx,_,_,rfl,s1 _ _ hi,hk.cl,hk.m,rfl,_,rfl,d,mV m,rfl,?_,_,rfl,s1,?_⟩
   ·rw[<- hv];exact q4j (s1 _ _ hh.d) (s1 _ _ hp)
   ·rw[decide_eq_true_iff];refine⟨fun z=>.inr (by rw[mV_none.mp z] at hm;exact hm),fun z=>mV_none.mpr ?_⟩;have:=q2d (f:=fun r:Rw=>r.1) nd hm (z.resolve_left he) rfl;cases this;rfl
def spAskThing(c:Addr):Sp:=fun vs H Q _=>∃h d p bl rows q m,vs=[.ref h,.ref p]/\HallAt c H h d bl rows/\H p=some (.tup (vP q))/\(rows.map (·.1)).Nodup/\(q,m)∈rows/\Q .non H
abbrev q1l:Stmt:=inClass (top 16) 11
theorem q4e:FnScope ["self", "path"] ["self", "path"] (defScope q1l):=by trivial
theorem q8v{c:Addr}(D:Mf K c "ask_thing" "Hall.ask_thing" q1l ["self", "path"])(hk:Hk K c)(T:Txt mg):MCal P w K mg base c "ask_thing" 1 ["self", "path"] (spAskThing c):=by
 refine D.cal hk.cl q4e (fun vs H Q E h=>?_) (fun f cdv A outer s H vs Q E hr h=>?_)
 ·obtain⟨h,d,p,bl,rows,q,m,rfl,_⟩:=h;rfl
 ·obtain⟨h,d,p,bl,rows,q,m,rfl,hh,hp,nd,hm,k⟩:=h;refine⟨_,(q0f (q0w (q1o (q3n (q1t hr) (pv 1) (@q3z _ _ _ _ _ K rfl (pv 0) (by rfl)))) (q0f q1m) q0j)),?_⟩;obtain⟨dx,hi⟩:=hh.i;refine⟨_,rfl,_,rfl,h,c,dx,_,_,rfl,hi,hk.cl,hk.m,rfl,d,_,rfl,q4j hh.d hp,_,rfl,?_⟩;rw[q2h nd hm];exact iteF k
structure CallsD (P:Program) (w:World) (K:Af) (mg:Str->Option Value) (base:Heap) (c:Addr):Prop where
 m_is_drawer:MCal P w K mg base c "is_drawer" 1 ["self", "path"] (spIsDrawer c)
def spAskDrawer(c:Addr):Sp:=fun vs H Q _=>∃h d p bl rows q,vs=[.ref h,.ref p]/\HallAt c H h d bl rows/\H p=some (.tup (vP q))/\Low q/\(rows.map (·.1)).Nodup/\(q=[]\/(q,none)∈rows)/\∀H',Same H H'->Q .non H'
abbrev q1j:Stmt:=inClass (top 16) 12
theorem q3s:FnScope ["self", "path"] ["self", "path"] (defScope q1j):=by trivial
theorem q7b{c:Addr}(D:Mf K c "ask_drawer" "Hall.ask_drawer" q1j ["self", "path"])(hk:Hk K c)(T:Txt mg)(C:CallsD P w K mg base c):MCal P w K mg base c "ask_drawer" 2 ["self", "path"] (spAskDrawer c):=by
 refine D.cal hk.cl q3s (fun vs H Q E h=>?_) (fun f cdv A outer s H vs Q E hr h=>?_)
 ·obtain⟨h,d,p,bl,rows,q,rfl,_⟩:=h;rfl
 ·obtain⟨h,d,p,bl,rows,q,rfl,hh,hp,lq,nd,hq,k⟩:=h;refine⟨_,(q0f (q0w (q3c (@q2z _ _ _ K rfl (pe_m C.m_is_drawer hr (pv 0) (q0a (pv 1) q0d)) (fun _=>rfl))) (q0f q1m) q0j)),?_⟩;obtain⟨dx,hi⟩:=hh.i;refine⟨_,rfl,h,dx,_,rfl,hi,rfl,_,rfl,h,d,p,bl,rows,q,rfl,hh,hp,lq,nd,fun H' bb s1 hb=>⟨bb,rfl,?_⟩⟩;have e:=hb.mpr hq;subst e;exact iteF (k H' s1)
def spThere1(c:Addr):Sp:=fun vs H Q _=>∃h d p bl rows place,vs=[.ref h,.ref p]/\HallAt c H h d bl rows/\H p=some (.tup (vP place))/\okP place/\(∀r∈rows,okP r.1) /\
 ∀H' v,Same H H'->(v=.non/\(∀r∈rows,fold bl r.1≠fold bl place)\/∃b r,v=.ref b/\r∈rows/\fold bl r.1=fold bl place/\H' b=some (.tup (vP r.1)))->Q v H'
theorem there1{c:Addr}(M:MCal P w K mg base c "there" 3 ["self", "place"] (spThere c)):MCal P w K mg base c "there" 3 ["self", "place"] (spThere1 c) :=
 M.imp fun vs H Q E h=>by
  obtain⟨h,d,p,bl,rows,place,e,hh,hp,ok,oks,k⟩:=h;exact⟨h,d,p,bl,rows,place,e,hh,hp,ok,oks,fun H' s1 n=>k H' _ s1 (.inl ⟨rfl,n⟩),fun H' b r s1 hr e hb=>k H' _ s1 (.inr ⟨b,r,rfl,hr,e,hb⟩)⟩
structure CallsV (P:Program) (w:World) (K:Af) (mg:Str->Option Value) (base:Heap) (c:Addr):Prop where
 carried:Cal P w K mg base "carried" 1 ["path", "moved", "place"] spCarried
 m_ask_thing:MCal P w K mg base c "ask_thing" 1 ["self", "path"] (spAskThing c)
 m_ask_drawer:MCal P w K mg base c "ask_drawer" 2 ["self", "path"] (spAskDrawer c)
 m_is_drawer:MCal P w K mg base c "is_drawer" 1 ["self", "path"] (spIsDrawer c)
 m_there:MCal P w K mg base c "there" 3 ["self", "place"] (spThere1 c)
def spMove(c:Addr):Sp:=fun vs H Q _=>∃h d a b bl rows p q m,vs=[.ref h,.ref a,.ref b]/\HallAt c H h d bl rows/\Hl bl rows/\rows.length<=60/\H a=some (.tup (vP p))/\H b=some (.tup (vP q))/\(p,m)∈rows/\(m=none->q.dropLast=p.dropLast)/\q≠p/\Free bl rows p q /\
 ((rows.map (cR p q)).map (·.1)).Nodup/\∀D H',H D=none->(∀x u,x≠h->H x=some u->H' x=some u)->HallAt c H' h D bl (rows.map (cR p q))->Q .non H'
theorem z9p{σ:St}{H:Hp}{Q:Bool->Hp->Prop}(h:Q true H):tIf0 σ H Q:=h
abbrev q2s:Stmt:=inClass (top 16) 10
theorem sc_Hall_move:FnScope ["self", "path", "place", "other"] ["self", "path", "place"] (defScope q2s):=by trivial
theorem z9q{c:Addr}(D:Mf K c "move" "Hall.move" q2s ["self", "path", "place"])(hk:Hk K c)(T:Txt mg)(C:CallsV P w K mg base c):MCal P w K mg base c "move" 4 ["self", "path", "place"] (spMove c):=by
 refine D.cal hk.cl sc_Hall_move (fun vs H Q E h=>?_) (fun f cdv A outer s H vs Q E hr h=>?_)
 ·obtain⟨h,d,a,b,bl,rows,p,q,m,rfl,_⟩:=h;rfl
 ·obtain⟨h,d,a,b,bl,rows,p,q,m,rfl,hh,hl,h60,ha,hb,hp,hm,hne,fr,ndc,k⟩:=h;refine⟨_,(q0e (q1g (pe_m C.m_ask_thing hr (pv 0) (q0a (pv 1) q0d))) (q0e (q1g (pe_m C.m_ask_drawer hr (pv 0) (q0a (q0n (sl_k K rfl) (pv 2) q0s (q0t (q1h q0r q0g))) q0d))) (q0e (q0w (pt_j (@PW.pt _ _ _ (q3k (@q2z _ _ _ K rfl (pe_m C.m_is_drawer hr (pv 0) (q0a (pv 1) q0d)) (fun _=>rfl)) (q2c (q0m (ne_k K rfl hr) (q0n (sl_k K rfl) (pv 2) q0s (q0t (q1h q0r q0g))) (q0n (sl_k K rfl) (pv 1) q0s (q0t (q1h q0r q0g))) (nomark _)))))) (q0f q1m) q0j) (q0e (q0l (i:=3) sc_Hall_move.nd rfl (by trivial) (pe_m C.m_there hr (pv 0) (q0a (pv 2) q0d))) (q0e (q0w (pt_j (@PW.pt _ _ _ (q3k (q1o (q4v (pv 3))) (q2c (pt_j (@PW.pt _ _ _ (q5t (q0m (ne_k K rfl hr) (pv 3) (pv 1) (nomark _)) (q4g (q0m (eq_k K rfl hr) (pv 2) (pv 1) (nomark _)))))))))) (q0f q1m) q0j) (q0f (@z3z _ _ _ _ _ _ _ _ K rfl (pv 0) (q9q H rfl (z6n ["thing", "mark"] [("path",1),("place",2)] rfl (@itm_k _ _ _ _ K rfl (@q7x _ _ _ _ _ _ _ _ _ K rfl Jd Mm Mn z0g (@q3z _ _ _ _ _ K rfl (pv 0) (by rfl)) (by rfl) (by rfl))) (fun _ _ _ _ _=>(@q5e _ _ _ _ (2) _ K rfl rfl (q0x (q0o (i:=0) (show(["thing", "mark", "path", "place"]:List Str).Nodup by decide +kernel) rfl (by trivial)) (q0x (q0o (i:=1) (show(["thing", "mark", "path", "place"]:List Str).Nodup by decide +kernel) rfl (by trivial)) q3e)) (by rfl) (by rfl))) (fun _ _ _ _ _=>q9d) (fun _ _ _ _ _=>(pe_c C.carried hr (q0a (pv 0) (q0a (pv 2) (q0a (pv 3) q0d))))) (fun _ _ _ _ _=>(pv 1)) (q1t hr))) (by rfl)))))))),?_⟩;obtain⟨dx,hi⟩:=hh.i;have okp:=hl.ok _ hp;obtain⟨c1,c2⟩:=q1i fr.ok.ne;obtain⟨c3,c4⟩:=q1i okp.ne;refine⟨_,rfl,h,dx,_,rfl,hi,rfl,_,rfl,h,d,a,bl,rows,p,m,rfl,hh,ha,hl.paths,hp,?_⟩;refine⟨_,rfl,h,dx,_,rfl,hi,rfl,_,rfl,_,rfl,_,rfl,.inr (.inr ⟨b,_,rfl,SqT.of hb,c2,fun t1 ht1=>?_⟩)⟩;rw[c1];have s1:=(Same.refl H).new (o:=.tup (vP q.dropLast)) ht1;refine⟨h,d,t1,bl,rows,q.dropLast,rfl,hh.same s1,q0b,q1n fr.ok.low,hl.paths,fr.dr,fun H1 s2=>?_⟩;have s12:=s1.trans s2;refine⟨fun bb H2=>bb=false/\Same H H2,?_,?_⟩;rotate_left
  ·refine⟨_,rfl,h,dx,_,rfl,s12 _ _ hi,rfl,_,rfl,h,d,a,bl,rows,p,rfl,hh.same s12,s12 _ _ ha,okp.low,hl.paths,fun H2 bb s3 hbb=>⟨bb,rfl,?_⟩⟩;have s13:=s12.trans s3;refine iteB (fun e=>?_) (fun e=>⟨rfl,s13⟩);have hpn:(p,none)∈rows:=(hbb.mp e).resolve_left okp.ne;have em:=hl.one hp hpn;refine⟨_,rfl,_,rfl,_,rfl,.inr (.inr ⟨b,_,rfl,SqT.of (s13 _ _ hb),c2,fun t2 ht2=>?_⟩)⟩;rw[c1];have s4:=(Same.refl H2).new (o:=.tup (vP q.dropLast)) ht2;refine⟨_,rfl,_,rfl,_,rfl,.inr (.inr ⟨a,_,rfl,SqT.of (s4 _ _ (s13 _ _ ha)),c4,fun t3 ht3=>?_⟩)⟩;rw[c3];have s5:=((Same.refl H2).new (o:=.tup (vP q.dropLast)) ht2).new (o:=.tup (vP p.dropLast)) ht3;refine q2e (p:=q.dropLast) (q:=p.dropLast) (by rw[q0c (fun z=>by rw[<- z,q0b] at ht3;cases ht3)];exact q0b) q0b (q1n fr.ok.low) (q1n okp.low) ⟨_,rfl,?_,s13.trans s5⟩;rw[decide_eq_true (hm em)];rfl
  rintro bb H2 ⟨rfl,s3⟩;refine iteF ?_;refine⟨_,rfl,h,dx,_,rfl,s3 _ _ hi,rfl,_,rfl,h,d,b,bl,rows,q,rfl,hh.same s3,s3 _ _ hb,fr.ok,hl.ok,fun H3 ov s4 hov=>?_⟩;have s34:=s3.trans s4;refine⟨fun bb H4=>bb=false/\Same H H4,?_,?_⟩;rotate_left
  ·refine⟨_,rfl,_,rfl,?_⟩;rcases hov with⟨rfl,_⟩|⟨e,r,rfl,hr,hf,he⟩
   ·exact iteF ⟨rfl,s34⟩
   ·refine iteT ?_;have er:=fr.un r hr hf;rw[er] at he;refine⟨fun bb H4=>bb=false/\Same H H4,fun bb H4 x=>x,?_⟩;refine⟨_,rfl,_,rfl,q2e he (s34 _ _ ha) okp.low okp.low ⟨_,rfl,?_⟩⟩;rw[decide_eq_true rfl];refine iteF ⟨_,rfl,_,rfl,q1w (s34 _ _ hb) (s34 _ _ ha) fr.ok.low okp.low ⟨_,rfl,decide_eq_false hne,s34⟩⟩
  rintro bb H4 ⟨rfl,s5⟩;refine iteF ?_;have hh5:=hh.same s5;have hdf:∀o v,H d≠some (.frz o v):=fun o v e=>by rw[hh.d] at e;cases e
  refine⟨d,hdf,_,rfl,h,c,dx,_,_,rfl,s5 _ _ hi,hk.cl,hk.m,rfl,.inr (.inr (.inl ⟨rfl,.inr ⟨_,hh5.d⟩⟩)),d,_,rfl,rfl,hh5.d,fun v hv=>?_⟩;have s6:=(Same.refl H4).new (o:=vwO v d) hv;have hvv:upd H4 v (vwO v d) v=some (vwO v d):=q0b;have hh6:=hh5.same s6;have s56:=s5.trans s6;generalize upd H4 v (vwO v d)=H5 at s6 hvv hh6 s56;refine⟨v,d,_,rfl,hvv,hh6.d,fun ob D hD=>?_⟩;have hDd:D≠d:=fun z=>by rw[z,q0b] at hD;cases hD
  have hD5:H5 D=none:=by rw[q0c hDd] at hD;exact hD
  have hDH:H D=none:=s56.free hD5;have had:a≠d:=fun z=>by have:=s56 _ _ ha;rw[z,hh6.d] at this;cases this
  have hbd:b≠d:=fun z=>by have:=s56 _ _ hb;rw[z,hh6.d] at this;cases this
  refine z0h (n:=rows.length) (fun i ys H'=>ys=((((rows.take i).map (cR p q)).map rR).map fun r=>(kP r.1,r.2))/\H' D=some (.dT ys)/\H' d=some (.frz ob (dR (rows.map rR)))/\∀x u,x≠d->H x=some u->H' x=some u)
   ⟨rfl,q0b,by rw[q0c hDd.symm];exact q0b,fun x u n e=>by rw[q0c (fun z=>by rw[z,hDH] at e;cases e),q0c n];exact s56 _ _ e⟩ (fun i ys H' x=>x.2.1) (fun i ys H' hi x=>⟨x.2.2.1,by rw[Ac,Ac];exact hi⟩) (fun ys H' x=>⟨x.2.2.1,by rw[Ac,Ac];exact Ai _⟩) ?_ ?_
  ·rintro i ys H' x H6 hi' ⟨rfl,hHD,hfz,kp⟩ ⟨ky,v',b',T',hk',hb',hT',rfl,rfl⟩;obtain⟨r,hr,rfl,rfl⟩:∃r,rows[i]?=some r/\ky=kP r.1/\v'=mV r.2:=by
    rw[Ao,Ao] at hk';cases e:rows[i]? with
    |none=>rw[e] at hk';cases hk'
    |some r=>rw[e] at hk';cases hk';exact⟨r,rfl,rfl,rfl⟩
   rw[q2b] at hb';have okr:=hl.ok _ (Ay hr);have sT:=(Same.refl H').new (o:=.tup [.ref b',mV r.2]) hT';refine⟨T',_,rfl,SqT.of q0b,rfl,_,_,rfl,_,_,rfl,rfl,q6a,?_⟩;refine z9p (iteT ?_);refine⟨_,rfl,_,rfl,_,rfl,b',a,b,r.1,p,q,rfl,sT _ _ hb',sT _ _ (kp _ _ had ha),sT _ _ (kp _ _ hbd hb),okr.low,okp.low,by have:=okr.few;lia,by have:=fr.ok.few;lia,fun e H7 s7 he=>?_⟩;have sT7:=sT.trans s7;have hnew:∀y∈((rows.take i).map (cR p q)).map rR,y.1≠carry p q r.1:=fun y hy=>by
    obtain⟨z,hz,rfl⟩:=Ag.mp hy;obtain⟨x,hx,rfl⟩:=Ag.mp hz;exact q7a (f:=fun r:Rw=>(cR p q r).1) (by rw[Ba] at ndc;exact ndc) hr hx
   refine⟨_,rfl,kP (carry p q r.1),e,rfl,by rw[q2b];exact he,sT7 _ _ hHD,by rw[Ac,Ac,Ac,Cj];exact small' (by lia),?_,q0b,?_,fun x u n e=>?_⟩
   ·rw[q2y hnew,Cb,hr];show _=((((rows.take i++[r]).map (cR p q)).map rR).map fun r=>(kP r.1,r.2))
    simp only[Av];rfl
   ·rw[q0c hDd.symm];exact sT7 _ _ hfz
   ·rw[q0c (fun z=>by rw[z,hDH] at e;cases e)];exact sT7 _ _ (kp _ _ n e)
  ·rintro ys H' ⟨rfl,hHD,hfz,kp⟩;rw[Bh] at hHD;have hhd:h≠d:=fun z=>by have:=s56 _ _ hi;rw[z,hh6.d] at this;cases this
   have hhD:h≠D:=fun z=>by rw[<- z,hi] at hDH;cases hDH
   refine⟨ob,_,hfz,_,rfl,h,c,dx,_,rfl,by rw[q0c hhd];exact kp _ _ hhd hi,hk.cl,hk.m,by show 2<1000;decide,?_⟩;refine k D _ hDH (fun x u n e=>?_) ⟨⟨dx,q0b⟩,?_⟩
   ·rw[q0c n];by_cases z:x=d
    ·rw[z] at e ⊢;rw[q0b,<- hh.d];exact e
    ·rw[q0c z];exact kp _ _ z e
   ·rw[q0c hhD.symm,q0c hDd];exact hHD
theorem z1a{p:Pth}(h:okP p)(bl:Bool):okP (fold bl p):=by
 cases bl with
 |false=>exact h
 |true =>
  rw[q5m];have e:=q3h h.ne;have hl:p.dropLast.length<6:=by rw[Bz];have:=h.few;have:=Bd.mpr h.ne;lia
  refine okP.snoc ?_ hl (q4b h).lo;by_cases z:p.dropLast=[]
  ·exact .inl z
  ·exact .inr ⟨z,by lia,fun n hn=>h.all n (Ow _ hn)⟩
structure CallsT (P:Program) (w:World) (K:Af) (mg:Str->Option Value) (base:Heap):Prop where
 folded:Cal P w K mg base "_law_folded" 1 ["_law_path", "_law_blind"] spFolded
def spThereL:Sp:=fun vs H Q _=>∃m p bl,∃rows:List Rw,∃place,vs=[.ref m,.bl bl,.ref p]/\H m=some (dR (rows.map rR))/\H p=some (.tup (vP place))/\okP place/\(∀r∈rows,okP r.1) /\
 ∀H' v,Same H H'->(v=.non/\(∀r∈rows,fold bl r.1≠fold bl place)\/∃b r,v=.ref b/\r∈rows/\fold bl r.1=fold bl place/\H' b=some (.tup (vP r.1)))->Q v H'
abbrev q7c:Stmt:=top 28
theorem sc_there:FnScope ["_law_marks", "_law_blind", "_law_place", "_law_path"] ["_law_marks", "_law_blind", "_law_place"] (defScope q7c):=by trivial
theorem z4v(D:Df K mg "_law_there" q7c ["_law_marks", "_law_blind", "_law_place"])(T:Txt mg)(C:CallsT P w K mg base):Cal P w K mg base "_law_there" 2 ["_law_marks", "_law_blind", "_law_place"] spThereL:=by
 refine D.cal sc_there (fun vs H Q E h=>?_) (fun f cdv A outer s H vs Q E hr h=>?_)
 ·obtain⟨m,p,bl,rows,place,rfl,_⟩:=h;rfl
 ·obtain⟨m,p,bl,rows,place,rfl,hd,hp,ok,oks,k⟩:=h;refine⟨_,(q0e (q9l H rfl (q3d Cr rfl (@q8d _ _ _ _ K rfl (pv 0)) (q0o (i:=3) sc_there.nd rfl (by trivial)) (q0f (q0w (q0m (eq_k K rfl hr) (pe_c C.folded hr (q0a (pv 3) (q0a (pv 1) q0d))) (pe_c C.folded hr (q0a (pv 2) (q0a (pv 1) q0d))) (nomark _)) (q0f (q0k (pv 3))) q0j)))) (q0f (q0k q7h))),?_⟩;have hpd:p≠m:=fun z=>by rw[z,hd] at hp;cases hp
  refine⟨m,(fun o v e=>by rw[hd] at e;cases e),?_⟩;refine⟨_,rfl,m,_,rfl,hd,fun ob=>?_⟩;refine q5g (fun i σ' H'=>(∃x,σ'=[some (.ref m),some (.bl bl),some (.ref p),x])/\H' m=some (.frz ob (dR (rows.map rR)))/\(∀a u,a≠m->H a=some u->H' a=some u)/\∀r∈rows.take i,fold bl r.1≠fold bl place)
   ⟨⟨none,rfl⟩,q0b,fun a u n e=>by rw[q0c n];exact e,fun r hr=>by rw[Kt] at hr;cases hr⟩ (fun i σ' H' x=>x.2.1) ?_ ?_
  ·rintro i ky v b σ' H' hk' hb ⟨⟨x,rfl⟩,hfz,kp,hno⟩;obtain⟨r,hr,rfl,rfl⟩:∃r,rows[i]?=some r/\ky=kP r.1/\v=mV r.2:=by
    rw[Ao,Ao] at hk';cases e:rows[i]? with
    |none=>rw[e] at hk';cases hk'
    |some r=>rw[e] at hk';cases hk';exact⟨r,rfl,rfl,rfl⟩
   have hrm:=Ay hr;rw[q2b] at hb;refine⟨_,rfl,_,rfl,b,r.1,bl,rfl,hb,oks r hrm,fun f1 H2 s2 hf1=>?_⟩;refine⟨_,rfl,_,rfl,p,place,bl,rfl,s2 _ _ (kp _ _ hpd hp),ok,fun f2 H3 s3 hf2=>?_⟩;have s23:=s2.trans s3;have kp2:∀a u,a≠m->H a=some u->H3 a=some u:=fun a u n e=>s23 _ _ (kp a u n e);refine q1w (s3 _ _ hf1) hf2 (z1a (oks r hrm) bl).low (z1a ok bl).low ⟨_,rfl,?_⟩;refine iteB (fun he=>?_) (fun he=>?_)
   ·refine⟨_,rfl,ob,_,s23 _ _ hfz,k _ _ (q1x hd kp2) (.inr ⟨b,r,rfl,hrm,of_decide_eq_true he,?_⟩)⟩;rw[q0c (fun z=>by rw[z,hfz] at hb;cases hb)];exact s23 _ _ hb
   ·refine⟨⟨_,rfl⟩,s23 _ _ hfz,kp2,fun y hy=>?_⟩;rw[Cb,hr] at hy;rcases Az.mp hy with hy|hy
    ·exact hno y hy
    ·cases Ar.mp hy;exact of_decide_eq_false he
  ·rintro σ' H' ⟨⟨x,rfl⟩,hfz,kp,hno⟩;refine⟨ob,_,hfz,k _ _ (q1x hd kp) (.inl ⟨rfl,fun r hr=>hno r ?_⟩)⟩;rw[Ac,Ac,Bh];exact hr
def spMoved:Sp:=fun vs H Q _=>∃m e t,∃rows:List Rw,∃p q,vs=[.ref m,.ref e,.ref t]/\H m=some (dR (rows.map rR))/\H e=some (.tup (vP p))/\H t=some (.tup (vP q))/\(∀r∈rows,okP r.1)/\Low p/\q.length<=100/\rows.length<=60/\(rows.map (·.1)).Nodup/\((rows.map (cR p q)).map (·.1)).Nodup /\
 ∀D H',H D=none->Same H H'->H' D=some (dR ((rows.map (cR p q)).map rR))->Q (.ref D) H'
abbrev q7d:Stmt:=top 29
theorem sc_moved:FnScope ["_law_marks", "_law_path", "_law_place", "_law_found", "_law_other"] ["_law_marks", "_law_path", "_law_place"] (defScope q7d):=by trivial
theorem z7g(D:Df K mg "_law_moved" q7d ["_law_marks", "_law_path", "_law_place"])(T:Txt mg):Cal P w K mg base "_law_moved" 1 ["_law_marks", "_law_path", "_law_place"] spMoved:=by
 refine D.cal sc_moved (fun vs H Q E h=>?_) (fun f cdv A outer s H vs Q E hr h=>?_)
 ·obtain⟨m,e,t,rows,p,q,rfl,_⟩:=h;rfl
 ·obtain⟨m,e,t,rows,p,q,rfl,hm,he,ht,oks,lp,lq,h60,nd,ndc,k⟩:=h;refine⟨_,(q0e (q0l (i:=3) sc_moved.nd rfl (by trivial) q6t) (q0e (q9l H rfl (q3d Cr rfl (@q8d _ _ _ _ K rfl (pv 0)) (q0o (i:=4) sc_moved.nd rfl (by trivial)) (q0f (q0w (q0m (eq_k K rfl hr) (q0n sl_P (pv 4) q0s (q0t (q0i (q2m K rfl) (by rfl) T.b_len Bo (q0a (pv 1) q0d)))) (pv 1) (nomark _)) (q0f (q5f (q1t hr) (pv 3) (q1a q3y (pv 2) (q0n sl_P (pv 4) (q0t (q0i (q2m K rfl) (by rfl) T.b_len Bo (q0a (pv 1) q0d))) q0s)) (q3g (q1t hr) (pv 0) (pv 4) (fun _ _=>rfl)) rfl)) (q0f (q5f (q1t hr) (pv 3) (pv 4) (q3g (q1t hr) (pv 0) (pv 4) (fun _ _=>rfl)) rfl)))))) (q0f (q0k (pv 3))))),?_⟩;intro D hD;have s1:=(Same.refl H).new (o:=.dT []) hD;have hDm:D≠m:=fun z=>by rw[z,hm] at hD;cases hD
  have hem:e≠m:=fun z=>by rw[z,hm] at he;cases he
  have htm:t≠m:=fun z=>by rw[z,hm] at ht;cases ht
  refine⟨m,(fun o v e=>by rw[hm] at e;cases e),?_⟩;refine⟨_,rfl,m,_,rfl,s1 _ _ hm,fun ob=>?_⟩;refine q5g (fun i σ' H'=>(∃x,σ'=[some (.ref m),some (.ref e),some (.ref t),some (.ref D),x])/\H' m=some (.frz ob (dR (rows.map rR)))/\(∀a u,a≠m->H a=some u->H' a=some u)/\H' D=some (dR (((rows.take i).map (cR p q)).map rR)))
   ⟨⟨none,rfl⟩,q0b,fun a u n e=>by rw[q0c n];exact s1 _ _ e,by rw[q0c hDm];exact q0b⟩ (fun i σ' H' x=>x.2.1) ?_ ?_
  ·rintro i ky v b σ' H' hk' hb ⟨⟨x,rfl⟩,hfz,kp,hHD⟩;obtain⟨r,hr,rfl,rfl⟩:∃r,rows[i]?=some r/\ky=kP r.1/\v=mV r.2:=by
    rw[Ao,Ao] at hk';cases e:rows[i]? with
    |none=>rw[e] at hk';cases hk'
    |some r=>rw[e] at hk';cases hk';exact⟨r,rfl,rfl,rfl⟩
   have hrm:=Ay hr;rw[q2b] at hb;have okr:=oks r hrm;have hnew:∀y∈((rows.take i).map (cR p q)).map rR,y.1≠carry p q r.1:=fun y hy=>by
    obtain⟨z,hz,rfl⟩:=Ag.mp hy;obtain⟨x,hx,rfl⟩:=Ag.mp hz;exact q7a (f:=fun r:Rw=>(cR p q r).1) (by rw[Ba] at ndc;exact ndc) hr hx
   have hlen:((((rows.take i).map (cR p q)).map rR).map fun r=>(kP r.1,r.2)).length<sizeLine:=by rw[Ac,Ac,Ac,Cj];exact small' (by lia)
   have put:∀{H2:Hp} {g:Addr},Same H' H2->H2 g=some (.tup (vP (carry p q r.1)))->DPut H2 D (.ref g) (mV r.2) (upd H2 D (dR (((rows.take (i+1)).map (cR p q)).map rR))):=fun{H2 g} s2 hg=>by
    have:=DPut.t (v:=mV r.2) (k:=kP (carry p q r.1)) (s2 _ _ hHD) (by rw[q2b];exact hg) hlen;rw[q2y hnew] at this;rw[Cb,hr];have e1:((rows.take i++(some r).toList).map (cR p q)).map rR=((rows.take i).map (cR p q)).map rR++[(carry p q r.1,mV r.2)]:=by
     show((rows.take i++[r]).map (cR p q)).map rR=_;simp only[Av];rfl
    rw[e1];exact this
   have fin:∀{H2:Hp},Same H' H2->(∃x,([some (.ref m),some (.ref e),some (.ref t),some (.ref D),some (.ref b)]:St)=[some (.ref m),some (.ref e),some (.ref t),some (.ref D),x])/\upd H2 D (dR (((rows.take (i+1)).map (cR p q)).map rR)) m=some (.frz ob (dR (rows.map rR)))/\(∀a u,a≠m->H a=some u->upd H2 D (dR (((rows.take (i+1)).map (cR p q)).map rR)) a=some u)/\upd H2 D (dR (((rows.take (i+1)).map (cR p q)).map rR)) D=some (dR (((rows.take (i+1)).map (cR p q)).map rR)):=fun{H2} s2 =>
    ⟨⟨_,rfl⟩,by rw[q0c hDm.symm];exact s2 _ _ hfz,fun a u n e=>by rw[q0c (fun z=>by rw[z,hD] at e;cases e)];exact s2 _ _ (kp a u n e),q0b⟩
   have hg:∀{H2:Hp},Same H' H2->DGet H2 m (.ref b) (some (mV r.2)):=fun{H2} s2=>by rw[<- q2h nd (p:=r.1) (m:=r.2) hrm];exact z7z (s2 _ _ hfz) (s2 _ _ hb)
   refine⟨_,rfl,_,rfl,_,_,rfl,.inr ⟨_,SqT.of (kp _ _ hem he),rfl⟩,_,rfl,b,_,rfl,hb,fun t1 H1 s1 h1=>?_⟩;rw[q1e,z8a] at h1;refine⟨_,rfl,q1w h1 (s1 _ _ (kp _ _ hem he)) (z0z okr.low) lp ⟨_,rfl,?_⟩⟩;refine iteB (fun hc=>?_) (fun hc=>?_)
   ·have hc:=of_decide_eq_true hc;refine⟨_,rfl,_,rfl,m,_,rfl,hg s1,_,rfl,_,rfl,_,rfl,_,rfl,_,_,rfl,.inr ⟨_,SqT.of (s1 _ _ (kp _ _ hem he)),rfl⟩,_,rfl,b,_,rfl,s1 _ _ hb,fun t2 H2 s2 h2=>?_⟩;rw[q1e,z0y] at h2;refine⟨t,t2,_,_,rfl,rfl,s2 _ _ (s1 _ _ (kp _ _ htm ht)),h2,by rw[q1e,q1e,Hm];have:=okr.few;exact small (by lia),fun g H3 s3 h3 _=>?_⟩;have s13:=(s1.trans s2).trans s3;have h3':H3 g=some (.tup (vP (carry p q r.1))):=by
     rw[h3,<- z0x];unfold carry;rw[if_pos hc]
    exact⟨D,_,rfl,put s13 h3',fin s13⟩
   ·have hc:=of_decide_eq_false hc;have h3':H1 b=some (.tup (vP (carry p q r.1))):=by
     unfold carry;rw[if_neg hc];exact s1 _ _ hb
    exact⟨_,rfl,_,rfl,m,_,rfl,hg s1,_,rfl,_,rfl,D,_,rfl,put s1 h3',fin s1⟩
  ·rintro σ' H' ⟨⟨x,rfl⟩,hfz,kp,hHD⟩;rw[Ac,Ac,Bh] at hHD;refine⟨ob,_,hfz,_,rfl,k D _ hD (q1x hm kp) ?_⟩;rw[q0c hDm];exact hHD
theorem z2e{tt:TT}{m D:Addr}{ob:Obj}{rows:List Rw}{r:St}{H1 H2:Hp}{Fin:List V->Hp->Prop}{ch:Rw->Bool}(hm:H1 m=some (dR (rows.map rR)))(h2:H2=upd H1 m (.frz ob (dR (rows.map rR))))(hD:H2 D=none)(few:rows.length<=1000)(ht:∀(b:Addr) (x:Rw) (H:Hp) (Q:Bool->Hp->Prop),x∈rows->H b=some (.tup (vP x.1))->H m=some (.frz ob (dR (rows.map rR)))->Q (ch x) H->tt (some (.ref b)::r) H Q)(k:∀(zs:List Zp) (H':Hp),(∀z∈zs,H' z.1=some (.tup (vP z.2))/\∃x∈rows,x.1=z.2/\ch x=true)->(∀x∈rows,ch x=true->∃z∈zs,z.2=x.1)->zs.length<=rows.length->H' D=some (.lst (zs.map fun z=>V.ref z.1))->H' m=some (.frz ob (dR (rows.map rR)))->(∀a u,a≠m->H1 a=some u->H' a=some u)->Fin (zs.map fun z=>V.ref z.1) H'):
  CompW (Itk m ob ((rows.map rR).map fun r=>(kP r.1,r.2))) (gName 0) tt (tVar 0) (none::r) D Fin H2:=by
 subst h2;have hDm:D≠m:=fun z=>by rw[z,q0b] at hD;cases hD
 have hD1:H1 D=none:=by rw[q0c hDm] at hD;exact hD
 have hlen:((rows.map rR).map fun r=>(kP r.1,r.2)).length=rows.length:=by rw[Ac,Ac]
 refine q6q (n:=rows.length) (fun i ys H'=>∃zs:List Zp,ys=zs.map (fun z=>V.ref z.1)/\zs.length<=i/\(∀z∈zs,H' z.1=some (.tup (vP z.2))/\∃x∈rows,x.1=z.2/\ch x=true)/\(∀x∈rows.take i,ch x=true->∃z∈zs,z.2=x.1)/\H' D=some (.lst ys)/\H' m=some (.frz ob (dR (rows.map rR)))/\∀a u,a≠m->H1 a=some u->H' a=some u)
  ⟨[],rfl,Bv _,(fun _ h=>nomatch h),(fun x hx=>by rw[Kt] at hx;cases hx),q0b,by rw[q0c hDm.symm];exact q0b,fun a u n e=>by rw[q0c (fun z=>by rw[z,hD1] at e;cases e),q0c n];exact e⟩
  (fun i ys H' x=>by obtain⟨_,_,_,_,_,h,_⟩:=x;exact h) (fun i ys H' hi x=>by obtain⟨_,_,_,_,_,_,h,_⟩:=x;exact⟨h,by rw[hlen];exact hi⟩) (fun ys H' x=>by obtain⟨_,_,_,_,_,_,h,_⟩:=x;exact⟨h,by rw[hlen];exact Ai _⟩) ?_ ?_
 ·rintro i ys H' x H6 hi ⟨zs,rfl,hzl,hz,hall,hHD,hfz,kp⟩ ⟨rfl,ky,v,b,hk',hb,rfl⟩;obtain⟨x,hx,rfl,rfl⟩:∃x,rows[i]?=some x/\ky=kP x.1/\v=mV x.2:=by
   rw[Ao,Ao] at hk';cases e:rows[i]? with
   |none=>rw[e] at hk';cases hk'
   |some r=>rw[e] at hk';cases hk';exact⟨r,rfl,rfl,rfl⟩
  rw[q2b] at hb;have hxm:=Ay hx;refine⟨q2v,ht b x _ _ hxm hb hfz ?_⟩;have hcase:∀{zs':List Zp},(∀z∈zs,z∈zs')->(ch x=true->∃z∈zs',z.2=x.1)->∀y∈rows.take (i+1),ch y=true->∃z∈zs',z.2=y.1:=fun{zs'} s1 s2 y hy hc=>by
   rw[Cb,hx] at hy;rcases Az.mp hy with hy|hy
   ·obtain⟨z,hz,e⟩:=hall y hy hc;exact⟨z,s1 z hz,e⟩
   ·cases Ar.mp hy;exact s2 hc
  refine iteB (fun hc=>?_) (fun hc=>?_)
  ·refine⟨_,rfl,hHD,small' (by rw[Ac];lia),zs++[(b,x.1)],by rw[Av];rfl,by rw[An];exact Hn hzl,fun z hz'=>?_,hcase (fun z hz=>Dh _ hz) (fun _=>⟨(b,x.1),by simp,rfl⟩),q0b,by rw[q0c hDm.symm];exact hfz,fun a u n e=>by rw[q0c (fun z=>by rw[z,hD1] at e;cases e)];exact kp a u n e⟩;have tk:∀S xs,H6 S=some (.tup xs)->upd H6 D (.lst (zs.map (fun z=>V.ref z.1)++[.ref b])) S=some (.tup xs):=fun S xs e=>by rw[q0c (fun z=>by rw[z,hHD] at e;cases e)];exact e
   rcases Az.mp hz' with hz'|hz'
   ·exact⟨tk _ _ (hz z hz').1,(hz z hz').2⟩
   ·rw[Ar.mp hz'];exact⟨tk _ _ hb,x,hxm,rfl,hc⟩
  ·exact⟨zs,rfl,Fl hzl,hz,hcase (fun z hz=>hz) (fun z=>by rw[hc] at z;cases z),hHD,hfz,kp⟩
 ·rintro ys H' ⟨zs,rfl,hzl,hz,hall,hHD,hfz,kp⟩;rw[Bh] at hall;exact k zs H' hz hall hzl hHD hfz kp
theorem foldR:∀{rs acc:List HRow},((acc++rs).map (·.1)).Nodup->rs.foldl putR (acc.map fun r=>(kP r.1,r.2))=(acc++rs).map fun r=>(kP r.1,r.2)
 |[],acc,_=>by rw[Cq];rfl
 |r::rs,acc,nd=>by
  have e:acc++r::rs=(acc++[r])++rs:=by rw[Ji];rfl
  show rs.foldl putR (putK (acc.map fun r=>(kP r.1,r.2)) (kP r.1) r.2)=_;rw[q2y (p:=r.1) (v:=r.2) fun x hx z=>by
   rw[Av,Ak] at nd;exact(Jk.mp nd).2.2 _ (Ag.mpr ⟨x,hx,rfl⟩) _ Ap z]
  rw[e] at nd ⊢;exact foldR nd
theorem z4w{bl:Bool}{zs:List Zr}(hl:Hl bl (zs.map (·.2))):HO.dT ((zs.map fun z=>rR z.2).foldl putR [])=dR ((zs.map (·.2)).map rR):=by
 have er:(zs.map fun z=>rR z.2)=(zs.map (·.2)).map rR:=by rw[Ba];rfl
 have nd2:(((zs.map (·.2)).map rR).map (·.1)).Nodup:=by rw[Ba];exact hl.paths
 rw[er];exact congrArg HO.dT (foldR (acc:=[]) nd2)
theorem q8w{c x dx d:Addr}{H1 H':Hp}(hx:H1 x=none)(hdx:H1 dx=none)(hd:upd (upd H1 dx (.own x)) x (.ins c dx []) d=none)(k:∀a u,a≠x->upd (upd H1 dx (.own x)) x (.ins c dx []) a=some u->H' a=some u):Same H1 H'/\H1 d=none:=by
 refine⟨fun a u e=>k a u (fun z=>by rw[z,hx] at e;cases e) ?_,?_⟩
 ·rw[q0c (fun z=>by rw[z,hx] at e;cases e),q0c (fun z=>by rw[z,hdx] at e;cases e)];exact e
 ·have h1:d≠x:=fun z=>by rw[z,q0b] at hd;cases hd
  rw[q0c h1] at hd;have h2:d≠dx:=fun z=>by rw[z,q0b] at hd;cases hd
  rw[q0c h2] at hd;exact hd
theorem z4x{c x dx L:Addr}{H1:Hp}{zs:List Zr}(h:RL H1 L zs)(hx:H1 x=none)(hdx:H1 dx=none):RL (upd (upd H1 dx (.own x)) x (.ins c dx [])) L zs:=h.same fun a u e=>by
 rw[q0c (fun z=>by rw[z,hx] at e;cases e),q0c (fun z=>by rw[z,hdx] at e;cases e)];exact e
theorem z4y{c a b h d:Addr}{bl:Bool}{rows:List Rw}{H H':Hp}(x:HallAt c H h d bl rows)(F:FeedAt H a b)(fd:Fd a b H H'):HallAt c H' h d bl rows:=by
 obtain⟨i,j,q⟩:=F.fa;exact⟨x.i.imp fun dx e=>fd.at e fun z=>by(rw[z,q] at e;cases e),fd.at x.d fun z=>by have e:=x.d;rw[z,q] at e;cases e⟩
theorem z2f{a b m:Addr}{rs:List HRow}{H H':Hp}(x:H m=some (dR rs))(F:FeedAt H a b)(fd:Fd a b H H'):H' m=some (dR rs):=by
 obtain⟨i,j,q⟩:=F.fa;exact fd.at x fun z=>by rw[z,q] at x;cases x
structure CallsC (P:Program) (w:World) (K:Af) (mg:Str->Option Value) (base:Heap) (c:Addr):Prop where
 m_rows:MCal P w K mg base c "rows" 2 ["self"] (spHRows c)
 m_is_blind:MCal P w K mg base c "is_blind" 1 ["self"] (spBlind c)
 k_Hall:KCal P w K mg base c "Hall" 4 ["self", "rows", "blind"] (spInit c)
def spCopied(c:Addr):Sp:=fun vs H Q _=>∃h d bl rows,vs=[.ref h]/\HallAt c H h d bl rows/\Hl bl rows/\rows.length<=60/\∀h' d' rows' H',Same H H'->H h'=none->H d'=none->HallAt c H' h' d' bl rows'->rows'.Perm rows->Q (.ref h') H'
abbrev q5s:Stmt:=top 18
theorem z4z:FnScope ["hall"] ["hall"] (defScope q5s):=by trivial
theorem z5a{c:Addr}(D:Df K mg "copied" q5s ["hall"])(T:Txt mg)(C:CallsC P w K mg base c):Cal P w K mg base "copied" 6 ["hall"] (spCopied c):=by
 refine D.cal z4z (fun vs H Q E h=>?_) (fun f cdv A outer s H vs Q E hr h=>?_)
 ·obtain⟨h,d,bl,rows,rfl,_⟩:=h;rfl
 ·obtain⟨h,d,bl,rows,rfl,hh,hl,h60,k⟩:=h;refine⟨_,(q0f (q0k (pe_k C.k_Hall hr (q0a (z6p C.m_rows hr (pv 0)) (q0a (z6p C.m_is_blind hr (pv 0)) q0d))))),?_⟩;obtain⟨dx,hi⟩:=hh.i;refine⟨_,rfl,h,dx,_,rfl,hi,rfl,h,d,bl,rows,rfl,hh,by lia,fun r hr=>(hl.ok r hr).low,fun L zs H1 hL s1 rl1 pm1 pw1=>?_⟩;have hh1:=hh.same s1;refine⟨_,rfl,h,dx,_,rfl,s1 _ _ hi,rfl,h,d,bl,rows,rfl,hh1,fun x dx' hx hdx n=>?_⟩;have hl1:Hl bl (zs.map (·.2)):=hl.perm pm1;refine⟨x,dx',L,bl,zs,rfl,q0b,z4x rl1 hx hdx,hl1,by have:=pm1.length_eq;rw[Ac] at this;lia,fun d' H2 hd i1 i2 i3=>⟨rfl,?_⟩⟩;obtain⟨s2,hd1⟩:=q8w hx hdx hd i3;exact k x d' _ H2 (s1.trans s2) (s1.free hx) (s1.free hd1) ⟨⟨dx',i1⟩,i2⟩ pm1
structure CallsM (P:Program) (w:World) (K:Af) (mg:Str->Option Value) (base:Heap) (c:Addr):Prop where
 m_move:MCal P w K mg base c "move" 4 ["self", "path", "place"] (spMove c)
def spMade(c:Addr):Sp:=fun vs H Q _=>∃h d a b bl rows p q,vs=[.ref h,.ref a,.ref b]/\HallAt c H h d bl rows/\rows.length<=60/\H a=some (.tup (vP p))/\H b=some (.tup (vP q))/\Mvd bl rows p q /\
 ∀D H',H D=none->(∀x u,x≠h->H x=some u->H' x=some u)->HallAt c H' h D bl (rows.map (cR p q))->Q (.bl true) H'
abbrev q4f:Stmt:=top 19
theorem z2g:FnScope ["hall", "path", "place"] ["hall", "path", "place"] (defScope q4f):=by trivial
theorem z2h{c:Addr}(D:Df K mg "is_made" q4f ["hall", "path", "place"])(T:Txt mg)(C:CallsM P w K mg base c):Cal P w K mg base "is_made" 5 ["hall", "path", "place"] (spMade c):=by
 refine D.cal z2g (fun vs H Q E h=>?_) (fun f cdv A outer s H vs Q E hr h=>?_)
 ·obtain⟨h,d,a,b,bl,rows,p,q,rfl,_⟩:=h;rfl
 ·obtain⟨h,d,a,b,bl,rows,p,q,rfl,hh,h60,ha,hb,mv,k⟩:=h;refine⟨_,(q0e (z9f rfl (q0f (q1g (pe_m C.m_move hr (pv 0) (q0a (pv 1) (q0a (pv 2) q0d)))))) (q0f (q0k q3u))),?_⟩;obtain⟨dx,hi⟩:=hh.i;obtain⟨mk0,hp,par⟩:=mv.m;refine⟨_,rfl,h,dx,_,rfl,hi,rfl,_,rfl,_,rfl,h,d,a,b,bl,rows,p,q,mk0,rfl,hh,mv.hl,h60,ha,hb,hp,par,mv.ne,mv.fr,mv.moved.paths,fun D1 H4 hD1 kp hall4=>?_⟩;exact k D1 H4 hD1 kp hall4
structure CallsW (P:Program) (w:World) (K:Af) (mg:Str->Option Value) (base:Heap) (c:Addr):Prop where
 copied:Cal P w K mg base "copied" 6 ["hall"] (spCopied c)
 is_made:Cal P w K mg base "is_made" 5 ["hall", "path", "place"] (spMade c)
def spWalk(c:Addr):Sp:=fun vs H Q _=>∃h d L bl rows zs,vs=[.ref h,.ref L]/\HallAt c H h d bl rows/\rows.length<=60/\ML H L zs/\WkOk bl rows (zs.map (·.2)) /\
 ∀h' d' rows' H',Same H H'->H h'=none->H d'=none->HallAt c H' h' d' bl rows'->rows'.Perm (wk rows (zs.map (·.2)))->Q (.ref h') H'
abbrev q9x:Stmt:=top 20
theorem sc_walk:FnScope ["hall", "row", "walked", "at", "path", "place"] ["hall", "row"] (defScope q9x):=by trivial
theorem z9r{c:Addr}(D:Df K mg "walk" q9x ["hall", "row"])(T:Txt mg)(C:CallsW P w K mg base c):Cal P w K mg base "walk" 7 ["hall", "row"] (spWalk c):=by
 refine D.cal sc_walk (fun vs H Q E h=>?_) (fun f cdv A outer s H vs Q E hr h=>?_)
 ·obtain⟨h,d,L,bl,rows,zs,rfl,_⟩:=h;rfl
 ·obtain⟨h,d,L,bl,rows,zs,rfl,hh,h60,ml,ok,k⟩:=h;refine⟨_,(q0e (q0l (i:=2) sc_walk.nd rfl (by trivial) (pe_c C.copied hr (q0a (pv 0) q0d))) (q0e (q3d Cr rfl (@z7u _ _ _ _ _ _ _ _ K rfl rfl T.b_enumerate (q0a (pv 1) q0d) (by rfl)) (@q5e _ _ _ _ (2) _ K rfl rfl (q0x (q0o (i:=3) sc_walk.nd rfl (by trivial)) (q0x (@q5e _ _ _ _ (2) _ K rfl rfl (q0x (q0o (i:=4) sc_walk.nd rfl (by trivial)) (q0x (q0o (i:=5) sc_walk.nd rfl (by trivial)) q3e)) (by rfl) (by rfl)) q3e)) (by rfl) (by rfl)) (q0f (q0w (q3c (@q2z _ _ _ K rfl (pe_c C.is_made hr (q0a (pv 2) (q0a (pv 4) (q0a (pv 5) q0d)))) (fun _=>rfl))) (q0f q1m) q0j))) (q0f (q0k (pv 2))))),?_⟩;refine⟨_,rfl,h,d,bl,rows,rfl,hh,ok.hd,h60,fun h' d0 rows0 H1 s1 hh' hd0 hall1 pm1=>?_⟩;refine⟨_,rfl,.inr ⟨L,_,rfl,SqL.of (s1 _ _ ml.at_),?_⟩⟩;refine q8m (fun i σ' H2=>∃x3 x4 x5 d' rows',σ'=[some (.ref h),some (.ref L),some (.ref h'),x3,x4,x5]/\Same H H2/\HallAt c H2 h' d' bl rows'/\rows'.Perm (wk rows ((zs.map (·.2)).take i))/\H d'=none) ⟨none,none,none,d0,rows0,rfl,s1,hall1,pm1,hd0⟩ (fun i σ' H2 h=>by obtain⟨_,_,_,_,_,_,s2,_⟩:=h;exact SqL.of (s2 _ _ ml.at_)) ?_ ?_
  ·rintro i v T' σ' H2 hv ⟨x3,x4,x5,d',rows',rfl,s2,hall2,pm2,hd2⟩ hT;obtain⟨z,hz,rfl⟩:=gR0 hv
   have sT:=(Same.refl H2).new (o:=.tup [.int i,.ref z.1]) hT;obtain⟨A1,B1,g1,g2,g3⟩:=((ml.same s2).same sT).pr z (Ay hz);have hzr:(zs.map (·.2))[i]?=some z.2:=by rw[Ao,hz];rfl
   have e1:(zs.map (·.2)).take (i+1)=(zs.map (·.2)).take i++[z.2]:=by rw[Cb,hzr];rfl
   have mv0:Mvd bl (wk rows ((zs.map (·.2)).take i)) z.2.1 z.2.2:=by
    have:=(ok.take (i+1)).1;rw[e1] at this;exact(WkOk.app.mp this).2.1
   have mv:=mv0.perm pm2;refine⟨T',_,rfl,SqT.of q0b,rfl,_,_,rfl,_,_,rfl,z.1,_,rfl,SqT.of g1,rfl,_,_,rfl,_,_,rfl,rfl,rfl,?_⟩;have hall3:=hall2.same sT;have s3:=s2.trans sT;refine⟨_,rfl,_,rfl,_,rfl,h',d',A1,B1,bl,rows',z.2.1,z.2.2,rfl,hall3,by rw[pm2.length_eq,z0o];exact h60,g2,g3,mv,fun D1 H4 hD1 kp hall4=>⟨true,rfl,iteF ?_⟩⟩;refine⟨_,_,_,D1,_,rfl,fun x u e=>kp x u (fun y=>by rw[y,hh'] at e;cases e) (s3 _ _ e),hall4,?_,s3.free hD1⟩;rw[e1,z4l];exact pm2.map _
  ·rintro σ' H2 ⟨x3,x4,x5,d',rows',rfl,s2,hall2,pm2,hd2⟩;rw[Ac,<- Ac (f:=fun z:Zm=>z.2),Bh] at pm2;exact⟨_,rfl,k h' d' rows' H2 s2 hh' hd2 hall2 pm2⟩
structure CallsDu (P:Program) (w:World) (K:Af) (mg:Str->Option Value) (base:Heap):Prop where
 there:Cal P w K mg base "_law_there" 2 ["_law_marks", "_law_blind", "_law_place"] spThereL
def spDue:Sp:=fun vs H Q _=>∃m e t bl,∃rows:List Rw,∃p q mk0,vs=[.ref m,.bl bl,.ref e,.ref t]/\H m=some (dR (rows.map rR))/\Hl bl rows/\H e=some (.tup (vP p))/\H t=some (.tup (vP q))/\(p,mk0)∈rows/\okP q /\
 ∀v H',Same H H'->((v=.non/\Mvd bl rows p q)\/∃T,v=.ref T)->Q v H'
abbrev q3i:Stmt:=top 30
theorem sc_move_due:FnScope ["_law_marks", "_law_blind", "_law_path", "_law_place", "_law_there_here"] ["_law_marks", "_law_blind", "_law_path", "_law_place"] (defScope q3i):=by trivial
theorem ok_due(D:Df K mg "_law_move_due" q3i ["_law_marks", "_law_blind", "_law_path", "_law_place"])(T:Txt mg)(C:CallsDu P w K mg base):Cal P w K mg base "_law_move_due" 3 ["_law_marks", "_law_blind", "_law_path", "_law_place"] spDue:=by
 refine D.cal sc_move_due (fun vs H Q E h=>?_) (fun f cdv A outer s H vs Q E hr h=>?_)
 ·obtain⟨m,e,t,bl,rows,p,q,mk0,rfl,_⟩:=h;rfl
 ·obtain⟨m,e,t,bl,rows,p,q,mk0,rfl,hm,hl,he,ht,hp,okq,k⟩:=h;refine⟨_,(q0e (q0w (q1o (q3n (q1t hr) (pv 2) (pv 0))) (q0f (q0k (q1c (q0a q2i (q0a (pv 2) q0d))))) q0j) (q0e (q0w (pt_j (@PW.pt _ _ _ (q3k (q0m (ne_k K rfl hr) (q0n (sl_k K rfl) (pv 3) q0s (q0t (q1h q0r q0g))) (q1c q0d) (nomark _)) (q2c (q1o (q4v (z6g (q1t hr) (pv 0) (q0n (sl_k K rfl) (pv 3) q0s (q0t (q1h q0r q0g))) q0g ⟨rfl,rfl,rfl,rfl⟩))))))) (q0f (q0k (q1c (q0a q2i (q0a (q0n (sl_k K rfl) (pv 3) q0s (q0t (q1h q0r q0g))) q0d))))) q0j) (q0e (q0w (pt_j (@PW.pt _ _ _ (q3k (q1o (q4u (q3g (q1t hr) (pv 0) (pv 2) (fun _ _=>rfl)))) (q2c (q0m (ne_k K rfl hr) (q0n (sl_k K rfl) (pv 3) q0s (q0t (q1h q0r q0g))) (q0n (sl_k K rfl) (pv 2) q0s (q0t (q1h q0r q0g))) (nomark _)))))) (q0f (q0k (q1c (q0a q2i (q0a (pv 2) q0d))))) q0j) (q0e (q0l (i:=4) sc_move_due.nd rfl (by trivial) (pe_c C.there hr (q0a (pv 0) (q0a (pv 1) (q0a (pv 3) q0d))))) (q0e (q0w (pt_j (@PW.pt _ _ _ (q5t (q0m (eq_k K rfl hr) (pv 3) (pv 2) (nomark _)) (q4g (pt_j (@PW.pt _ _ _ (q3k (q1o (q4v (pv 4))) (q2c (q0m (ne_k K rfl hr) (pv 4) (pv 2) (nomark _)))))))))) (q0f (q0k (q1c (q0a q2i (q0a (pv 4) q0d))))) q0j) (q0f (q0k q7h))))))),?_⟩;have okp:okP p:=hl.ok _ hp;obtain⟨c1,c2⟩:=q1i okq.ne;obtain⟨p1,p2⟩:=q1i okp.ne;have hg:∀{H1:Hp},Same H H1->DGet H1 m (.ref e) (some (mV mk0)):=fun{H1} s1=>by rw[<- q2h hl.paths (p:=p) (m:=mk0) hp];exact q4j (s1 _ _ hm) (s1 _ _ he)
  refine⟨_,rfl,_,rfl,m,_,rfl,hg (Same.refl H),_,rfl,iteF ?_⟩;refine⟨fun bb H1=>Same H H1/\(bb=false->q.dropLast=[]\/(q.dropLast,none)∈rows),?_,?_⟩;rotate_left
  ·refine⟨_,rfl,_,rfl,_,rfl,.inr (.inr ⟨t,_,rfl,SqT.of ht,c2,fun u1 hu1=>?_⟩)⟩;rw[c1];have s1:=(Same.refl H).new (o:=.tup (vP q.dropLast)) hu1;refine⟨by show 0<=sizeLine;decide,fun e0 he0=>?_⟩;have s2:=(Same.refl (upd H u1 (.tup (vP q.dropLast)))).new (o:=.tup []) he0;have s12:=s1.trans s2;refine q2e (q:=[]) (s2 _ _ q0b) q0b (q1n okq.low) (fun _ h=>nomatch h) ⟨_,rfl,?_⟩;refine iteB (fun hb=>?_) (fun hb=>?_)
   ·have hne:q.dropLast≠[]:=by simpa using hb
    generalize upd (upd H u1 (.tup (vP q.dropLast))) e0 (.tup [])=H2 at s12;refine⟨_,rfl,m,rfl,isD_t (s12 _ _ hm),_,rfl,_,rfl,_,rfl,.inr (.inr ⟨t,_,rfl,SqT.of (s12 _ _ ht),c2,fun u2 hu2=>?_⟩)⟩;rw[c1];have s3:=(Same.refl H2).new (o:=.tup (vP q.dropLast)) hu2;have s13:=s12.trans s3;refine⟨_,q4j (s13 _ _ hm) q0b,_,rfl,s13,fun hz=>?_⟩;cases hv:valV ((rows.map rR).map fun r=>(kP r.1,r.2)) (kP q.dropLast) with
    |none=>rw[hv] at hz;simp at hz
    |some v =>
     rw[hv] at hz;obtain⟨mm,rfl,hmm⟩:=q4n hv;have e1:mV mm=.non:=by simpa using hz
     rw[mV_none.mp e1] at hmm;exact .inr hmm
   ·exact⟨s12,fun _=>.inl (by simpa using hb)⟩
  rintro bb H1 ⟨s1,hdr⟩;refine iteB (fun hb=>?_) (fun hb=>?_)
  ·refine⟨_,rfl,_,rfl,_,rfl,.inr (.inr ⟨t,_,rfl,SqT.of (s1 _ _ ht),c2,fun u1 hu1=>⟨by show 2<=sizeLine;decide,fun T1 hT1=>?_⟩⟩)⟩;exact k _ _ ((s1.new hu1).new hT1) (.inr ⟨T1,rfl⟩)
  have hdr:=hdr hb;refine⟨fun bb H2=>Same H H2/\(bb=false->mk0=none->q.dropLast=p.dropLast),?_,?_⟩;rotate_left
  ·refine⟨_,rfl,_,rfl,m,_,rfl,hg s1,_,rfl,?_⟩;refine iteB (fun hb=>?_) (fun hb=>?_)
   ·refine⟨_,rfl,_,rfl,_,rfl,.inr (.inr ⟨t,_,rfl,SqT.of (s1 _ _ ht),c2,fun u1 hu1=>?_⟩)⟩;rw[c1];have s2:=s1.new (o:=.tup (vP q.dropLast)) hu1;have hu1':upd H1 u1 (.tup (vP q.dropLast)) u1=some (.tup (vP q.dropLast)):=q0b;generalize upd H1 u1 (.tup (vP q.dropLast))=H2 at s2 hu1';refine⟨_,rfl,_,rfl,_,rfl,.inr (.inr ⟨e,_,rfl,SqT.of (s2 _ _ he),p2,fun u2 hu2=>?_⟩)⟩;rw[p1];have s3:=(Same.refl H2).new (o:=.tup (vP p.dropLast)) hu2;refine q2e (s3 _ _ hu1') q0b (q1n okq.low) (q1n okp.low) ⟨_,rfl,s2.trans s3,fun hz _=>by simpa using hz⟩
   ·exact⟨s1,fun _ hn=>absurd (mV_none.mpr hn) (of_decide_eq_false hb)⟩
  rintro bb H2 ⟨s2,hpar⟩;refine iteB (fun hb=>?_) (fun hb=>?_)
  ·exact⟨_,rfl,by show 2<=sizeLine;decide,fun T1 hT1=>k _ _ (s2.new hT1) (.inr ⟨T1,rfl⟩)⟩
  have hpar:=hpar hb;refine⟨_,rfl,_,rfl,_,rfl,m,t,bl,rows,q,rfl,s2 _ _ hm,s2 _ _ ht,okq,hl.ok,fun H3 ov s3 hov=>?_⟩;have s23:=s2.trans s3;refine⟨fun bb H4=>H4=H3/\(bb=true->ov=.non\/∃c,ov=.ref c)/\(bb=false->q≠p/\∀r∈rows,fold bl r.1=fold bl q->r.1=p),?_,?_⟩
  ·rintro bb H4 ⟨rfl,hT,hb⟩;refine iteB (fun e1=>?_) (fun e1=>?_)
   ·exact⟨_,rfl,by show 2<=sizeLine;decide,fun T1 hT1=>k _ _ (s23.new hT1) (.inr ⟨T1,rfl⟩)⟩
   ·obtain⟨h1,h2⟩:=hb e1;exact k _ _ s23 (.inl ⟨rfl,hl,⟨mk0,hp,hpar⟩,h1,okq,hdr,h2⟩)
  refine⟨_,rfl,_,rfl,q1w (s23 _ _ ht) (s23 _ _ he) okq.low okp.low ⟨_,rfl,?_⟩⟩;have hov2:ov=.non\/∃c,ov=.ref c:=hov.imp (fun x=>x.1) fun⟨c,_,x,_⟩=>⟨c,x⟩
  refine iteB (fun e1=>⟨rfl,fun _=>hov2,fun z=>by cases z⟩) (fun e1=>?_);have hne:=of_decide_eq_false e1;refine⟨fun bb H10=>H10=H3/\(bb=true->ov=.non\/∃c,ov=.ref c)/\(bb=false->q≠p/\∀r∈rows,fold bl r.1=fold bl q->r.1=p),fun bb H10 x=>x,?_⟩;refine⟨_,rfl,_,rfl,?_⟩;rcases hov with⟨rfl,hno⟩|⟨c,r,rfl,hr,hf,hc⟩
  ·exact iteF ⟨rfl,fun _=>hov2,fun _=>⟨hne,fun r hr hf=>absurd hf (hno r hr)⟩⟩
  ·refine iteT ⟨_,rfl,_,rfl,q2e hc (s23 _ _ he) (hl.ok r hr).low okp.low ⟨_,rfl,rfl,fun _=>hov2,fun z=>⟨hne,fun r' hr' hf'=>?_⟩⟩⟩;have e2:r.1=p:=by simpa using z
   rw[<- e2,hl.eq hr' hr (hf'.trans hf.symm)]
structure CallsGo (P:Program) (w:World) (K:Af) (mg:Str->Option Value) (base:Heap):Prop where
 draw:Cal P w K mg base "_law_draw" 1 ["_law_feed", "_law_many"] spDraw
 name:Cal P w K mg base "_law_name" 2 ["_law_feed"] spName
def spGoal:Sp:=fun vs H Q _=>∃a b m e bl,∃rows:List Rw,∃p mk0,vs=[.ref a,.ref m,.ref e]/\FeedAt H a b/\H m=some (dR (rows.map rR))/\Hl bl rows/\rows.length<=60/\H e=some (.tup (vP p))/\(p,mk0)∈rows /\
 ∀t q H',Fd a b H H'->H' t=some (.tup (vP q))->okP q->Q (.ref t) H'
abbrev q9y:Stmt:=top 31
theorem sc_goal:FnScope ["_law_feed", "_law_marks", "_law_path", "_law_drawers", "_law_names", "_law_name_here"] ["_law_feed", "_law_marks", "_law_path"] (defScope q9y):=by trivial
theorem z9s(D:Df K mg "_law_goal" q9y ["_law_feed", "_law_marks", "_law_path"])(T:Txt mg)(C:CallsGo P w K mg base):Cal P w K mg base "_law_goal" 3 ["_law_feed", "_law_marks", "_law_path"] spGoal:=by
 refine D.cal sc_goal (fun vs H Q E h=>?_) (fun f cdv A outer s H vs Q E hr h=>?_)
 ·obtain⟨a,b,m,e,bl,rows,p,mk0,rfl,_⟩:=h;rfl
 ·obtain⟨a,b,m,e,bl,rows,p,mk0,rfl,F,hm,hl,h60,he,hp,k⟩:=h;refine⟨_,(q0e (q0l (i:=3) sc_goal.nd rfl (by trivial) (q1a q1z (q1r (q0a (q1c q0d) q0d)) (q0i (z1y hr) (by rfl) T.b_sorted (by decide +kernel) (q0a (q9q H rfl (q4q ["_law_other"] [("_law_marks",1)] rfl (@q8d _ _ _ _ K rfl (pv 1)) (fun _ _ _ _ _=>(q0o (i:=0) (show(["_law_other", "_law_marks"]:List Str).Nodup by decide +kernel) rfl (by trivial))) (fun _ _ _ _ _=>(q9e (pt_j (@PW.pt _ _ _ (q3k (q1o (q4u (q3g (q1t hr) (pv 1) (pv 0) (fun _ _=>rfl)))) (q2c (q0m z8g (q0i (q2m K rfl) (by rfl) T.b_len Bo (q0a (pv 0) q0d)) q0g (nomark _)))))))) (fun _ _ _ _ _=>(pv 0)))) q0d)))) (q0e (q0l (i:=4) sc_goal.nd rfl (by trivial) (q1r (q0a (pe_c C.name hr (q0a (pv 0) q0d)) (q0a (@q7x _ _ _ _ _ _ _ _ _ K rfl Dx PySem.F.slot_str_upper PySem.F.type_str_upper z5y (q0z (ix_k K rfl) (pv 2) (q1h q0r q0g) (fun _ _=>rfl)) (by rfl) (by rfl)) (q0a (@q7x _ _ _ _ _ _ _ _ _ K rfl Dx Gr Gs q4r (q0z (ix_k K rfl) (pv 2) (q1h q0r q0g) (fun _ _=>rfl)) (by rfl) (by rfl)) (q0a (pe_c C.name hr (q0a (pv 0) q0d)) q0d)))))) (q0e (q0l (i:=5) sc_goal.nd rfl (by trivial) (q0z (ix_k K rfl) (pv 4) (pe_c C.draw hr (q0a (pv 0) (q0a q0g q0d))) (fun _ _=>rfl))) (q0e (q0w (pt_j (@PW.pt _ _ _ (q5t (q1o (q4u (q3g (q1t hr) (pv 1) (pv 2) (fun _ _=>rfl)))) (q4g (q0m (eq_k K rfl hr) (pe_c C.draw hr (q0a (pv 0) (q0a q0g q0d))) q0g (nomark _)))))) (q0f (q0k (q1a q3y (q0n (sl_k K rfl) (pv 2) q0s (q0t (q1h q0r q0g))) (q1c (q0a (pv 5) q0d))))) q0j) (q0f (q0k (q1a q3y (q0z (ix_k K rfl) (pv 3) (pe_c C.draw hr (q0a (pv 0) (q0a (q0i (q2m K rfl) (by rfl) T.b_len Bo (q0a (pv 3) q0d)) q0d))) (fun _ _=>rfl)) (q1c (q0a (pv 5) q0d))))))))),?_⟩;have okp:=hl.ok _ hp;replace okp:okP p:=okp;have hma:m≠a:=fun z=>by obtain⟨_,_,q⟩:=F.fa;rw[<- z,hm] at q;cases q
  refine⟨by show 0<=sizeLine;decide,fun t0 ht0=>⟨by show 1<=sizeLine;decide,fun L0 hL0=>?_⟩⟩;have s1:=((Same.refl H).new (o:=.tup []) ht0).new (o:=.lst [.ref t0]) hL0;have h0L:upd (upd H t0 (.tup [])) L0 (.lst [.ref t0]) L0=some (.lst [.ref t0]):=q0b;have h0t:upd (upd H t0 (.tup [])) L0 (.lst [.ref t0]) t0=some (.tup (vP [])):=by rw[q0c (fun z=>by rw[<- z,q0b] at hL0;cases hL0)];exact q0b
  generalize upd (upd H t0 (.tup [])) L0 (.lst [.ref t0])=H1 at s1 h0L h0t;refine⟨m,(fun o v e=>by rw[hm] at e;cases e),_,rfl,m,_,rfl,s1 _ _ hm,fun ob D hD=>?_⟩;refine z2e (H1:=H1) (rows:=rows) (ch:=fun x=>decide (x.2=none)&&decide (x.1.length<6)) (s1 _ _ hm) rfl hD (by lia) (fun c x H2 Q' hx hc hf q=>?_) (fun zs H2 hz _ hzl hHD hfz kp=>?_)
  ·refine⟨fun bb H3=>bb=(decide (x.2=none)&&decide (x.1.length<6))/\H3=H2,?_,?_⟩
   ·rintro bb H3 ⟨rfl,rfl⟩;exact q
   have hg:DGet H2 m (.ref c) (some (mV x.2)):=by rw[<- q2h hl.paths (p:=x.1) (m:=x.2) hx];exact z7z hf hc
   refine⟨_,rfl,_,rfl,m,_,rfl,hg,_,rfl,?_⟩;have e0:decide (mV x.2=.non)=decide (x.2=none):=decide_eq_decide.mpr mV_none;rw[e0];refine iteB (fun hb=>?_) (fun hb=>?_)
   ·refine⟨_,rfl,_,_,rfl,.inr ⟨_,SqT.of hc,rfl⟩,_,_,rfl,rfl,_,rfl,?_,rfl⟩;rw[hb,q1e,Bool.true_and];exact decide_eq_decide.mpr (by lia)
   ·exact⟨by rw[hb,Kq],rfl⟩
  have hDm:D≠m:=fun z=>by rw[z,q0b] at hD;cases hD
  have hthaw:Same H1 (upd H2 m (dR (rows.map rR))):=q1x (s1 _ _ hm) kp;have sA:=s1.trans hthaw;have hnm:∀z∈zs,z.1≠m:=fun z hz' y=>by have:=(hz z hz').1;rw[y,hfz] at this;cases this
  refine⟨ob,_,hfz,D,zs,rfl,by rw[q0c hDm];exact hHD,by lia,fun z hz'=>⟨by rw[q0c (hnm z hz')];exact(hz z hz').1,?_⟩,fun L2 zs2 hL2 perm _=>?_⟩
  ·obtain⟨x,hx,e1,_⟩:=(hz z hz').2;rw[<- e1];exact(hl.ok x hx).ne
  have s3:=(Same.refl (upd H2 m (dR (rows.map rR)))).new (o:=.lst (zs2.map fun z=>V.ref z.1)) hL2;have hzs2:∀z∈zs2,upd (upd H2 m (dR (rows.map rR))) L2 (.lst (zs2.map fun z=>V.ref z.1)) z.1=some (.tup (vP z.2))/\(z.2=[]\/okP z.2)/\z.2.length<6:=fun z hz'=>by
   have hzz:=perm.mem_iff.mp hz';refine⟨s3 _ _ (by rw[q0c (hnm z hzz)];exact(hz z hzz).1),?_⟩;obtain⟨x,hx,e1,e2⟩:=(hz z hzz).2;rw[Eb] at e2;exact⟨.inr (by rw[<- e1];exact hl.ok x hx),by rw[<- e1];exact of_decide_eq_true e2.2⟩
  have hLL:upd (upd H2 m (dR (rows.map rR))) L2 (.lst (zs2.map fun z=>V.ref z.1)) L2=some (.lst (zs2.map fun z=>V.ref z.1)):=q0b;have sB:=sA.trans s3;have s1B:=hthaw.trans s3;generalize upd (upd H2 m (dR (rows.map rR))) L2 (.lst (zs2.map fun z=>V.ref z.1))=H3 at s3 hzs2 hLL sB s1B;have hz2l:zs2.length<=60:=by rw[perm.length_eq];lia
  refine .inr (.inr ⟨L0,L2,_,_,rfl,rfl,s1B _ _ h0L,hLL,by rw[Ac];exact small (by show 1+_<=_;lia),fun Ld hLd=>?_⟩);have s4:=(Same.refl H3).new (o:=.lst ([.ref t0]++zs2.map fun z=>V.ref z.1)) hLd;obtain⟨ds,hds,hdl⟩:∃ds:List Zp,[V.ref t0]++zs2.map (fun z=>V.ref z.1)=ds.map (fun z=>V.ref z.1)/\ds=(t0,[])::zs2:=⟨_,rfl,rfl⟩
  have hdp:∀z∈ds,upd H3 Ld (.lst ([.ref t0]++zs2.map fun z=>V.ref z.1)) z.1=some (.tup (vP z.2))/\(z.2=[]\/okP z.2)/\z.2.length<6:=fun z hz'=>by
   rw[hdl] at hz';rcases Bb.mp hz' with rfl|hz'
   ·exact⟨s4 _ _ (s1B _ _ h0t),.inl rfl,by show 0<6;decide⟩
   ·exact⟨s4 _ _ (hzs2 z hz').1,(hzs2 z hz').2⟩
  have hLd':upd H3 Ld (.lst ([.ref t0]++zs2.map fun z=>V.ref z.1)) Ld=some (.lst (ds.map fun z=>V.ref z.1)):=by rw[<- hds];exact q0b
  have sC:=sB.trans s4;have hdlen:0<ds.length/\ds.length<=61:=by rw[hdl,Bl];lia
  have hLdH:H Ld=none:=sB.free hLd;generalize upd H3 Ld (.lst ([.ref t0]++zs2.map fun z=>V.ref z.1))=H4 at s4 hdp hLd' sC;have fd4:Fd a b H H4:=(Fd.refl F).same sC;have hLda:Ld≠a:=(F.na hLdH).symm;clear s4 hds hdl sB s1B s3 hzs2 hLL sA hthaw kp hfz hHD hz s1 h0L h0t;have lnp:=q4b okp;refine⟨_,rfl,a,b,rfl,fd4.feed,fun n1 H5 okn1 fd5=>?_⟩;have fd45:=fd4.trans fd5;refine⟨_,rfl,_,rfl,.inr (.inl ⟨e,_,-1,_,rfl,rfl,SqT.of (tupFd F fd45 _ _ he),q2q okp.ne,rfl,_,rfl,rfl,small (by rw[q8c];have:=lnp.few;lia),?_⟩)⟩;refine⟨_,rfl,_,rfl,.inr (.inl ⟨e,_,-1,_,rfl,rfl,SqT.of (tupFd F fd45 _ _ he),q2q okp.ne,rfl,_,rfl,rfl,small (by rw[q8c];have:=lnp.few;lia),?_⟩)⟩;refine⟨_,rfl,a,b,rfl,fd45.feed,fun n2 H6 okn2 fd6=>⟨by show 4<=sizeLine;decide,fun N hN=>?_⟩⟩;have fd46:=fd45.trans fd6;rw[z6q lnp.low,z0s lnp.low];have hNN:upd H6 N (.lst [.str (mk n1),.str (mk (uppN (p.getLastD []))),.str (mk (lowN (p.getLastD []))),.str (mk n2)]) N=some (.lst [.str (mk n1),.str (mk (uppN (p.getLastD []))),.str (mk (lowN (p.getLastD []))),.str (mk n2)]):=q0b;have fd7:=fd46.same ((Same.refl H6).new (o:=.lst [.str (mk n1),.str (mk (uppN (p.getLastD []))),.str (mk (lowN (p.getLastD []))),.str (mk n2)]) hN);have hLd7:upd H6 N (.lst [.str (mk n1),.str (mk (uppN (p.getLastD []))),.str (mk (lowN (p.getLastD []))),.str (mk n2)]) Ld=some (.lst (ds.map fun z=>V.ref z.1)):=(Same.refl H6).new hN _ _ ((fd5.trans fd6).at hLd' hLda);have hNa:N≠a:=(F.na (fd46.free hN)).symm;have hdp7:∀z∈ds,upd H6 N (.lst [.str (mk n1),.str (mk (uppN (p.getLastD []))),.str (mk (lowN (p.getLastD []))),.str (mk n2)]) z.1=some (.tup (vP z.2))/\(z.2=[]\/okP z.2)/\z.2.length<6:=fun z hz=>⟨(Same.refl H6).new hN _ _ (tupFd fd4.feed (fd5.trans fd6) _ _ (hdp z hz).1),(hdp z hz).2⟩
  generalize upd H6 N _=H7 at hNN fd7 hLd7 hdp7;refine⟨_,rfl,_,rfl,a,b,_,rfl,fd7.feed,by decide,by decide,fun r1 H8 r10 r11 fd8=>?_⟩;have hat:∃nn:List Nat,atI [V.str (mk n1),V.str (mk (uppN (p.getLastD []))),V.str (mk (lowN (p.getLastD []))),V.str (mk n2)] r1=some (.str (mk nn))/\okN nn:=by
   have e:r1=0\/r1=1\/r1=2\/r1=3:=by lia
   rcases e with rfl|rfl|rfl|rfl
   ·exact⟨n1,rfl,okn1⟩
   ·exact⟨_,rfl,lnp.up⟩
   ·exact⟨_,rfl,lnp.lo⟩
   ·exact⟨n2,rfl,okn2⟩
  obtain⟨nn,hat,oknn⟩:=hat;refine .inl ⟨N,_,r1,_,rfl,rfl,SqL.of (fd8.at hNN hNa),hat,?_⟩;have fd78:=fd7.trans fd8;have hm8:=z2f hm F fd78;refine⟨fun bb H9=>Fd a b H8 H9,?_,?_⟩;rotate_left
  ·have hg:DGet H8 m (.ref e) (some (mV mk0)):=by rw[<- q2h hl.paths (p:=p) (m:=mk0) hp];exact q4j hm8 (tupFd F fd78 _ _ he)
   refine⟨_,rfl,_,rfl,m,_,rfl,hg,_,rfl,?_⟩;refine iteB (fun hb=>Fd.refl fd78.feed) (fun hb=>?_);exact⟨_,rfl,a,b,_,rfl,fd78.feed,by decide,by decide,fun r2 H9 r20 r21 fd9=>.inl ⟨rfl,_,rfl,fd9⟩⟩
  rintro bb H9 fd9;have fd79:=fd78.trans fd9;have he9:=tupFd F fd79 _ _ he;refine iteB (fun hb=>?_) (fun hb=>?_)
  ·obtain⟨c1,c2⟩:=q1i okp.ne;have hpl:p.dropLast.length<6:=by rw[Bz];have:=okp.few;have:=Bd.mpr okp.ne;lia
   refine⟨_,rfl,_,rfl,_,rfl,.inr (.inr ⟨e,_,rfl,SqT.of he9,c2,fun u1 hu1=>?_⟩)⟩;rw[c1];have sa:=(Same.refl H9).new (o:=.tup (vP p.dropLast)) hu1;refine⟨_,rfl,by show 1<=sizeLine;decide,fun u2 hu2=>?_⟩;have sb:=sa.new (o:=.tup [.str (mk nn)]) hu2;refine⟨u1,u2,_,_,rfl,rfl,by rw[q0c (fun z=>by subst z;rw[q0b] at hu2;cases hu2)];exact q0b,q0b,by rw[q1e];exact small (by show _+1<=_;lia),fun u3 H10 sc hu3 _=>?_⟩;refine k u3 (p.dropLast++[nn]) H10 (fd79.same (sb.trans sc)) ?_ (okP.snoc ((hl.dr _ hp).imp id fun y=>hl.ok _ y) hpl oknn);rw[hu3,z0x];rfl
  ·have hLd9:=fd9.at (fd8.at hLd7 hLda) hLda;refine⟨_,rfl,_,rfl,_,rfl,_,_,rfl,.inl ⟨_,SqL.of hLd9,rfl⟩,a,b,_,rfl,fd79.feed,by rw[Ac];lia,by rw[Ac];lia,fun r3 H10 r30 r31 fd10=>?_⟩;rw[Ac] at r31;obtain⟨v,hv1,hv2⟩:=q7w (xs:=ds.map fun z=>V.ref z.1) r30 (by rw[Ac];exact r31);obtain⟨z,hz,rfl⟩:∃z∈ds,v=V.ref z.1:=by
    rw[Ao] at hv1;cases e:ds[r3.toNat]? with
    |none=>rw[e] at hv1;cases hv1
    |some z=>rw[e] at hv1;cases hv1;exact⟨z,Ay e,rfl⟩
   refine .inl ⟨Ld,_,r3,_,rfl,rfl,SqL.of (fd10.at hLd9 hLda),hv2,?_⟩;obtain⟨zt,zd,zl⟩:=hdp7 z hz;have fdz:=(fd8.trans fd9).trans fd10;refine⟨_,rfl,by show 1<=sizeLine;decide,fun u2 hu2=>?_⟩;have sb:=(Same.refl H10).new (o:=.tup [.str (mk nn)]) hu2;refine⟨z.1,u2,_,_,rfl,rfl,sb _ _ (tupFd fd7.feed fdz _ _ zt),q0b,by rw[q1e];exact small (by show _+1<=_;lia),fun u3 H11 sc hu3 _=>?_⟩;refine k u3 (z.2++[nn]) H11 ((fd79.trans fd10).same (sb.trans sc)) ?_ (okP.snoc zd zl oknn);rw[hu3,z0x];rfl
theorem zp_of{H:Hp}:∀{bs:List Addr} {ps:List Pth},Bu (fun b p=>H b=some (.tup (vP p))) bs ps->∃zs:List Zp,bs.map V.ref=zs.map (fun z=>V.ref z.1)/\zs.map (·.2)=ps/\∀z∈zs,H z.1=some (.tup (vP z.2))
 |_,_,.nil=>⟨[],rfl,rfl,fun _ h=>nomatch h⟩
 |b::bs,p::ps,.cons h t=>by
  obtain⟨zs,z1,z2,z3⟩:=zp_of t;refine⟨(b,p)::zs,by rw[Ak,z1];rfl,by rw[Ak,z2],fun z hz=>?_⟩;rcases Bb.mp hz with rfl|hz
  ·exact h
  ·exact z3 z hz
structure StAt (H:Hp) (S:Addr) (ds:List Addr) (rows:List Rw) (ms:List Mv):Prop where
 at_:H S=some (.lst (ds.map V.ref))
 len:ds.length=ms.length+1
 pr:∀(i:Nat) (d:Addr),ds[i]?=some d->H d=some (dR ((wk rows (ms.take i)).map rR))
theorem StAt.same{H H':Hp}{S:Addr}{ds:List Addr}{rows:List Rw}{ms:List Mv}(x:StAt H S ds rows ms)(s:Same H H'):StAt H' S ds rows ms:=⟨s _ _ x.at_,x.len,fun i d e=>s _ _ (x.pr i d e)⟩
theorem StAt.fd{a b:Addr}{H H':Hp}{S:Addr}{ds:List Addr}{rows:List Rw}{ms:List Mv}(x:StAt H S ds rows ms)(F:FeedAt H a b)(fd:Fd a b H H')(hS:S≠a):StAt H' S ds rows ms:=⟨fd.at x.at_ hS,x.len,fun i d e=>z2f (x.pr i d e) F fd⟩
theorem StAt.last{H:Hp}{S:Addr}{ds:List Addr}{rows:List Rw}{ms:List Mv}(x:StAt H S ds rows ms):∃d,atI (ds.map V.ref) (-1)=some (.ref d)/\H d=some (dR ((wk rows ms).map rR))/\ds[ms.length]?=some d:=by
 have hl:ms.length<ds.length:=by rw[x.len];lia
 have e:ds[ms.length]?=some (ds[ms.length]):=Iz hl;refine⟨_,?_,?_,e⟩
 ·unfold atI ixN;rw[if_neg (by decide),if_pos (by rw[Ac];lia)];have e2:((-1:Int)+((ds.map V.ref).length:Int)).toNat=ms.length:=by rw[Ac,x.len];lia
  show(ds.map V.ref)[((-1:Int)+((ds.map V.ref).length:Int)).toNat]?=_;rw[e2,Ao,e];rfl
 ·have:=x.pr _ _ e;rw[Bh] at this;exact this
structure CallsRo (P:Program) (w:World) (K:Af) (mg:Str->Option Value) (base:Heap):Prop where
 draw:Cal P w K mg base "_law_draw" 1 ["_law_feed", "_law_many"] spDraw
 goal:Cal P w K mg base "_law_goal" 3 ["_law_feed", "_law_marks", "_law_path"] spGoal
 move_due:Cal P w K mg base "_law_move_due" 3 ["_law_marks", "_law_blind", "_law_path", "_law_place"] spDue
 moved:Cal P w K mg base "_law_moved" 1 ["_law_marks", "_law_path", "_law_place"] spMoved
abbrev z5b:Stmt:=top 32
theorem sc_row:FnScope ["_law_feed", "_law_marks", "_law_blind", "_law_most", "_law_row_here", "_law_stands", "_law_k", "_law_paths", "_law_path", "_law_place"] ["_law_feed", "_law_marks", "_law_blind", "_law_most"] (defScope z5b):=by trivial
structure RoM (H:Hp) (a b m:Addr) (bl:Bool) (mrows:List Rw) (i:Nat) (H':Hp) (R S:Addr) (zs:List Zm) (ds:List Addr):Prop where
 fd:Fd a b H H'
 rn:H R=none
 sn:H S=none
 rs:R≠S
 r:ML H' R zs
 s:StAt H' S ds mrows (zs.map (·.2))
 ok:WkOk bl mrows (zs.map (·.2))
 len:zs.length<=i
 dn:∀y∈ds,y=m\/H y=none
theorem RoM.same{H:Hp}{a b m:Addr}{bl:Bool}{mrows:List Rw}{i:Nat}{H' H2:Hp}{R S:Addr}{zs:List Zm}{ds:List Addr}(x:RoM H a b m bl mrows i H' R S zs ds)(s:Same H' H2):RoM H a b m bl mrows i H2 R S zs ds:=⟨x.fd.same s,x.rn,x.sn,x.rs,x.r.same s,x.s.same s,x.ok,x.len,x.dn⟩
theorem RoM.go{H:Hp}{a b m:Addr}{bl:Bool}{mrows:List Rw}{i:Nat}{H' H2:Hp}{R S:Addr}{zs:List Zm}{ds:List Addr}(x:RoM H a b m bl mrows i H' R S zs ds)(F:FeedAt H a b)(fd:Fd a b H' H2):RoM H a b m bl mrows i H2 R S zs ds :=
 ⟨x.fd.trans fd,x.rn,x.sn,x.rs,x.r.fd x.fd.feed fd (F.na x.rn).symm,x.s.fd x.fd.feed fd (F.na x.sn).symm,x.ok,x.len,x.dn⟩
def spRowM:Sp:=fun vs H Q _=>∃a b m bl,∃mrows:List Rw,∃n:Int,vs=[.ref a,.ref m,.bl bl,.int n]/\FeedAt H a b/\H m=some (dR (mrows.map rR))/\Hl bl mrows/\mrows.length<=60/\0<=n/\n<=20 /\
 ∀T R S zs ds H',RoM H a b m bl mrows 20 H' R S zs ds->H' T=some (.tup [.ref R,.ref S])->H T=none->Q (.ref T) H'
theorem z9t(D:Df K mg "_law_row" z5b ["_law_feed", "_law_marks", "_law_blind", "_law_most"])(T:Txt mg)(C:CallsRo P w K mg base):Cal P w K mg base "_law_row" 4 ["_law_feed", "_law_marks", "_law_blind", "_law_most"] spRowM:=by
 refine D.cal sc_row (fun vs H Q E h=>?_) (fun f cdv A outer s H vs Q E hr h=>?_)
 ·obtain⟨a,b,m,bl,mrows,n,rfl,_⟩:=h;rfl
 ·obtain⟨a,b,m,bl,mrows,n,rfl,F,hm,hl,h60,n0,n1,k⟩:=h;refine⟨_,(q0e (q0l (i:=4) sc_row.nd rfl (by trivial) (q1r q0d)) (q0e (q0l (i:=5) sc_row.nd rfl (by trivial) (q1r (q0a (pv 1) q0d))) (q0e (q3d Cr rfl (q3l rfl T.b_range (q0a (pe_c C.draw hr (q0a (pv 0) (q0a (q1a q1z (pv 3) q0g) q0d))) q0d)) (q0o (i:=6) sc_row.nd rfl (by trivial)) (q0e (q0l (i:=7) sc_row.nd rfl (by trivial) (q0i (q6f hr) (by rfl) T.b_sorted (by decide +kernel) (q0a (q0z (ix_k K rfl) (pv 5) (q1h q0r q0g) (fun _ _=>rfl)) q0d))) (q0f (q0w (q0m (ne_k K rfl hr) (pv 7) (q1r q0d) (nomark _)) (q0e (q0l (i:=8) sc_row.nd rfl (by trivial) (q0z (ix_k K rfl) (pv 7) (pe_c C.draw hr (q0a (pv 0) (q0a (q0i (q2m K rfl) (by rfl) T.b_len Bo (q0a (pv 7) q0d)) q0d))) (fun _ _=>rfl))) (q0e (q0l (i:=9) sc_row.nd rfl (by trivial) (pe_c C.goal hr (q0a (pv 0) (q0a (q0z (ix_k K rfl) (pv 5) (q1h q0r q0g) (fun _ _=>rfl)) (q0a (pv 8) q0d))))) (q0f (q0w (q1o (q4u (pe_c C.move_due hr (q0a (q0z (ix_k K rfl) (pv 5) (q1h q0r q0g) (fun _ _=>rfl)) (q0a (pv 2) (q0a (pv 8) (q0a (pv 9) q0d))))))) (q0e (q1g (@bm_k _ _ _ _ _ _ _ _ _ _ _ _ K rfl Ct Ei Ej q2a (pv 4) (q0a (q1c (q0a (pv 8) (q0a (pv 9) q0d))) q0d) (by rfl) (by rfl) (by rfl) (by rfl) (by rfl))) (q0f (q1g (@bm_k _ _ _ _ _ _ _ _ _ _ _ _ K rfl Ct Ei Ej q2a (pv 5) (q0a (pe_c C.moved hr (q0a (q0z (ix_k K rfl) (pv 5) (q1h q0r q0g) (fun _ _=>rfl)) (q0a (pv 8) (q0a (pv 9) q0d)))) q0d) (by rfl) (by rfl) (by rfl) (by rfl) (by rfl))))) q0j)))) q0j)))) (q0f (q0k (q1c (q0a (pv 4) (q0a (pv 5) q0d)))))))),?_⟩;refine⟨by show 0<=sizeLine;decide,fun R hR=>⟨_,rfl,by show 1<=sizeLine;decide,fun S hS=>?_⟩⟩;have hRS:R≠S:=fun z=>by rw[<- z,q0b] at hS;cases hS
  have hS0:H S=none:=by rw[q0c hRS.symm] at hS;exact hS
  have s1:Same H (upd (upd H R (.lst [])) S (.lst [.ref m])):=((Same.refl H).new hR).new hS;have I0:RoM H a b m bl mrows 0 (upd (upd H R (.lst [])) S (.lst [.ref m])) R S [] [m]:=by
   refine⟨(Fd.refl F).same s1,hR,hS0,hRS,ML.nil (by rw[q0c hRS];exact q0b),⟨q0b,rfl,fun i d e=>?_⟩,hl,Ai _,fun y hy=>.inl (Ar.mp hy)⟩;cases i with
   |zero=>cases e;exact s1 _ _ hm
   |succ i=>cases e
  generalize upd (upd H R (.lst [])) S (.lst [.ref m])=H1 at I0 s1;refine⟨_,rfl,_,rfl,.inl ⟨_,_,rfl,rfl,a,b,_,rfl,I0.fd.feed,by lia,by lia,fun tr H2 t0 t1 fd2=>?_⟩⟩;refine⟨tr,rfl,by lia,by lia,q4w (n:=tr.toNat) (fun i σ' H'=>∃x6 x7 x8 x9 zs ds,σ'=[some (.ref a),some (.ref m),some (.bl bl),some (.int n),some (.ref R),some (.ref S),x6,x7,x8,x9]/\RoM H a b m bl mrows i H' R S zs ds/\i<=20) ⟨_,_,_,_,_,_,rfl,I0.go F fd2,Bv _⟩ ?_ ?_⟩
  ·rintro i σ' H' hi ⟨x6,x7,x8,x9,zs,ds,rfl,I,hi20⟩;have hi':i+1<=20:=by lia
   have Inx:∀{H2:Hp},RoM H a b m bl mrows i H2 R S zs ds->RoM H a b m bl mrows (i+1) H2 R S zs ds:=fun{H2} x=>⟨x.fd,x.rn,x.sn,x.rs,x.r,x.s,x.ok,Fl x.len,x.dn⟩
   have hlw:=I.ok.fin;have hwl:(wk mrows (zs.map (·.2))).length<=60:=by rw[z0o];exact h60
   obtain⟨dl,hat,hdl,hdi⟩:=I.s.last;refine⟨_,rfl,_,rfl,.inl ⟨S,_,-1,_,rfl,rfl,SqL.of I.s.at_,hat,?_⟩⟩;refine⟨dl,_,rfl,hdl,by rw[Ac];lia,fun r hr=>?_,fun L2 bs ps hL2 hp2 hs2 pts=>?_⟩
   ·obtain⟨y,hy,rfl⟩:=Ag.mp hr;exact(hlw.ok y hy).ne
   obtain⟨qs,q1,q2,q3⟩:=zp_of pts;have hps:((wk mrows (zs.map (·.2))).map rR).map (·.1)=(wk mrows (zs.map (·.2))).map (·.1):=by rw[Ba];rfl
   rw[hps,<- q2] at hp2;rw[q1];have s2:=(Same.refl H').new (o:=.lst (qs.map fun z=>V.ref z.1)) hL2;have hLL:upd H' L2 (.lst (qs.map fun z=>V.ref z.1)) L2=some (.lst (qs.map fun z=>V.ref z.1)):=q0b;have hqt:∀z∈qs,upd H' L2 (.lst (qs.map fun z=>V.ref z.1)) z.1=some (.tup (vP z.2)):=fun z hz=>s2 _ _ (q3 z hz);have hqin:∀z∈qs,∃mk0,(z.2,mk0)∈wk mrows (zs.map (·.2)):=fun z hz=>by
    obtain⟨y,hy,e⟩:=Ag.mp (hp2.mem_iff.mp (Ag.mpr ⟨z,hz,rfl⟩));exact⟨y.2,by rw[<- e];exact hy⟩
   have hql:qs.length<=60:=by
    have:=hp2.length_eq;rw[Ac,Ac] at this;lia
   have I2:=I.same s2;have hL2a:L2≠a:=(F.na (I.fd.free hL2)).symm;generalize upd H' L2 (.lst (qs.map fun z=>V.ref z.1))=H3 at s2 hLL hqt I2;refine⟨_,rfl,by show 0<=sizeLine;decide,fun e0 he0=>?_⟩;have s4:=(Same.refl H3).new (o:=.lst []) he0;refine ne_noP (s4 _ _ hLL) (fun z hz=>s4 _ _ (hqt z hz)) q0b (fun z hz=>by obtain⟨_,y⟩:=hqin z hz;exact(hlw.ok _ y).low) ⟨_,rfl,?_⟩;have I4:=I2.same s4;have hLL4:=s4 _ _ hLL;have hqt4:∀z∈qs,upd H3 e0 (.lst []) z.1=some (.tup (vP z.2)):=fun z hz=>s4 _ _ (hqt z hz);generalize upd H3 e0 (.lst [])=H4 at s4 I4 hLL4 hqt4;refine iteB (fun hne=>?_) (fun hne=>⟨_,_,_,_,_,_,rfl,Inx I4,hi'⟩);have hne':qs≠[]:=by simpa using hne
   have hpos:=Bd.mpr hne';refine⟨_,rfl,_,rfl,_,rfl,_,_,rfl,.inl ⟨_,SqL.of hLL4,rfl⟩,a,b,_,rfl,I4.fd.feed,by rw[Ac];lia,by rw[Ac];lia,fun r H5 r0 r1 fd5=>?_⟩;rw[Ac] at r1;obtain⟨v,hv1,hv2⟩:=q7w (xs:=qs.map fun z=>V.ref z.1) r0 (by rw[Ac];exact r1);obtain⟨z,hz,rfl⟩:∃z∈qs,v=V.ref z.1:=by
    rw[Ao] at hv1;cases e:qs[r.toNat]? with
    |none=>rw[e] at hv1;cases hv1
    |some z=>rw[e] at hv1;cases hv1;exact⟨z,Ay e,rfl⟩
   refine .inl ⟨L2,_,r,_,rfl,rfl,SqL.of (fd5.at hLL4 hL2a),hv2,?_⟩;have I5:=I4.go F fd5;have hzt:H5 z.1=some (.tup (vP z.2)):=tupFd I4.fd.feed fd5 _ _ (hqt4 z hz);obtain⟨mk0,hzm⟩:=hqin z hz;clear hqt hqt4 hLL hLL4 hqin hv2 I2 I4 q3 s2 s4 hv1;generalize z.1=e1 at hzt;generalize z.2=p at hzt hzm;have hdl5:H5 dl=some (dR ((wk mrows (zs.map (·.2))).map rR)):=by have:=I5.s.pr _ _ hdi;rw[Bh] at this;exact this
   refine⟨_,rfl,_,rfl,_,rfl,.inl ⟨S,_,-1,_,rfl,rfl,SqL.of I5.s.at_,hat,?_⟩⟩;refine⟨_,rfl,a,b,dl,e1,bl,_,p,mk0,rfl,I5.fd.feed,hdl5,hlw,hwl,hzt,hzm,fun t q H6 fd6 ht okq=>?_⟩;have I6:=I5.go F fd6;have hzt6:H6 e1=some (.tup (vP p)):=tupFd I5.fd.feed fd6 _ _ hzt;have hdl6:=z2f hdl5 I5.fd.feed fd6;refine⟨_,rfl,_,rfl,.inl ⟨S,_,-1,_,rfl,rfl,SqL.of I6.s.at_,hat,?_⟩⟩;refine⟨_,rfl,_,rfl,_,rfl,dl,e1,t,bl,_,p,q,mk0,rfl,hdl6,hlw,hzt6,ht,hzm,okq,fun v H7 s7 hv=>⟨_,rfl,?_⟩⟩;have I7:=I6.same s7;rcases hv with⟨rfl,mv⟩|⟨T1,rfl⟩
   rotate_left
   ·exact iteF ⟨_,_,_,_,_,_,rfl,Inx I7,hi'⟩
   refine iteT ?_;refine⟨_,rfl,.inl ⟨rfl,_,SqL.of I7.r.at_⟩,_,rfl,_,rfl,by show 2<=sizeLine;decide,fun T2 hT2=>?_⟩;have s8:=(Same.refl H7).new (o:=.tup [.ref e1,.ref t]) hT2;have I8:=I7.same s8;have h8e:upd H7 T2 (.tup [.ref e1,.ref t]) e1=some (.tup (vP p)):=s8 _ _ (s7 _ _ hzt6);have h8t:upd H7 T2 (.tup [.ref e1,.ref t]) t=some (.tup (vP q)):=s8 _ _ (s7 _ _ ht);have h8T:upd H7 T2 (.tup [.ref e1,.ref t]) T2=some (.tup [.ref e1,.ref t]):=q0b;have h8d:upd H7 T2 (.tup [.ref e1,.ref t]) dl=some (dR ((wk mrows (zs.map (·.2))).map rR)):=s8 _ _ (s7 _ _ hdl6);generalize upd H7 T2 (.tup [.ref e1,.ref t])=H8 at s8 I8 h8e h8t h8T h8d;refine⟨R,_,_,rfl,rfl,I8.r.at_,by rw[Ac];have:=I8.len;exact small' (by lia),?_⟩;have kt:∀(x:Addr) (u:HO),x≠R->H8 x=some u->upd H8 R (.lst (zs.map (fun z=>V.ref z.1)++[.ref T2])) x=some u:=fun x u n e=>by rw[q0c n];exact e
   have nR:∀{x:Addr} {xs:List V},H8 x=some (.tup xs)->x≠R:=fun{x xs} e z=>by rw[z,I8.r.at_] at e;cases e
   have nRd:∀{x:Addr} {rs:List HRow},H8 x=some (dR rs)->x≠R:=fun{x rs} e z=>by rw[z,I8.r.at_] at e;cases e
   have r9:ML (upd H8 R (.lst (zs.map (fun z=>V.ref z.1)++[.ref T2]))) R (zs++[(T2,(p,q))]):=by
    refine⟨by rw[Av];exact q0b,fun y hy=>?_⟩;rcases Az.mp hy with hy|hy
    ·exact(I8.r.pr y hy).keep fun S' xs e=>kt _ _ (nR e) e
    ·rw[Ar.mp hy];exact⟨e1,t,kt _ _ (nR h8T) h8T,kt _ _ (nR h8e) h8e,kt _ _ (nR h8t) h8t⟩
   have st9:StAt (upd H8 R (.lst (zs.map (fun z=>V.ref z.1)++[.ref T2]))) S ds mrows (zs.map (·.2)):=⟨kt _ _ I8.rs.symm I8.s.at_,I8.s.len,fun j d e=>kt _ _ (nRd (I8.s.pr j d e)) (I8.s.pr j d e)⟩
   have fd9:Fd a b H (upd H8 R (.lst (zs.map (fun z=>V.ref z.1)++[.ref T2]))):=I8.fd.put F I8.rn;have h9e:=kt _ _ (nR h8e) h8e;have h9t:=kt _ _ (nR h8t) h8t;have h9d:=kt _ _ (nRd h8d) h8d;generalize upd H8 R (.lst (zs.map (fun z=>V.ref z.1)++[.ref T2]))=H9 at r9 st9 fd9 h9e h9t h9d kt;clear kt nR nRd;refine⟨_,rfl,.inl ⟨rfl,_,SqL.of st9.at_⟩,_,rfl,_,rfl,.inl ⟨S,_,-1,_,rfl,rfl,SqL.of st9.at_,hat,?_⟩⟩;refine⟨_,rfl,_,rfl,dl,e1,t,_,p,q,rfl,h9d,h9e,h9t,hlw.ok,mv.okp.low,by have:=okq.few;lia,hwl,hlw.paths,mv.moved.paths,fun D2 H10 hD2 s10 h10=>?_⟩;have st10:=st9.same s10;refine⟨S,_,_,rfl,rfl,st10.at_,by rw[Ac,st10.len,Ac];have:=I.len;exact small' (by lia),?_⟩;have em:(zs++[(T2,(p,q))]).map (·.2)=zs.map (·.2)++[(p,q)]:=by rw[Av];rfl
   have nS:∀{x:Addr} {u:HO},H10 x=some u->(∀xs,u≠.lst xs)->upd H10 S (.lst (ds.map V.ref++[.ref D2])) x=some u:=fun{x u} e n=>by rw[q0c (fun z=>by rw[z,st10.at_] at e;cases e;exact n _ rfl)];exact e
   have hRS':upd H10 S (.lst (ds.map V.ref++[.ref D2])) R=some (.lst ((zs++[(T2,(p,q))]).map fun z=>V.ref z.1)):=by rw[q0c I.rs];exact(r9.same s10).at_
   refine⟨_,_,_,_,zs++[(T2,(p,q))],ds++[D2],rfl,⟨(fd9.same s10).put F I.sn,I.rn,I.sn,I.rs,⟨hRS',fun y hy=>((r9.same s10).pr y hy).keep fun S' xs e=>nS e (fun _ z=>by cases z)⟩,⟨by rw[Av];exact q0b,?_,fun j d e=>?_⟩,?_,?_,?_⟩,hi'⟩
   ·rw[em,An,An,st10.len];rfl
   ·rw[em];have hdl0:ds.length=(zs.map (·.2)).length+1:=st10.len;by_cases hj:j<ds.length
    ·rw[Ie hj] at e;rw[List.take_append_of_le_length (by lia)];exact nS (st10.pr j d e) (fun _ z=>by cases z)
    ·have hj2:j=ds.length:=by
      have:=(Bp.mp e).1;rw[An] at this;simp at this;lia
     rw[hj2,Fg (Ai _),Nat.sub_self] at e;cases e;rw[hj2,hdl0,Jp (by rw[An];exact Ai _),z4l];exact nS h10 (fun _ z=>by cases z)
   ·rw[em];exact I.ok.snoc mv
   ·rw[An];exact Hn I.len
   ·intro y hy;rcases Az.mp hy with hy|hy
    ·exact I.dn y hy
    ·rw[Ar.mp hy];exact .inr (fd9.free hD2)
  ·rintro σ' H' ⟨x6,x7,x8,x9,zs,ds,rfl,I,hi⟩;refine⟨_,rfl,_,rfl,by show 2<=sizeLine;decide,fun T1 hT1=>?_⟩;have sT:=(Same.refl H').new (o:=.tup [.ref R,.ref S]) hT1;have I1:=I.same sT;exact k T1 R S zs ds _ ⟨I1.fd,I1.rn,I1.sn,I1.rs,I1.r,I1.s,I1.ok,by have:=I1.len;lia,I1.dn⟩ q0b (I.fd.free hT1)
end
end K
set_option maxHeartbeats 4000000
namespace K
open PySem L2 TX SB HM PM
section
variable{P:Program}{w:World}{K:Af}{mg:Str->Option Value}{base:Heap}
def okMs(ms:List Mv):Prop:=∀m∈ms,okP m.1/\okP m.2
theorem ne_dt{H:Hp}{x y:V}{d:PyData}{Q:VK}(hx:Dt K H x d)(hy:Dt K H y d)(l:d.canLay0=true)(dp:d.depth<=100)(k:Q (.bl false) H):rNeU K x y H Q:=by
 refine .inr ⟨_,_,hx,hy,l,l,by rw[Nat.min_self];exact dp,?_⟩;rw[SeqAt.eqv_refl _ l];exact k
def dM(m:Mv):PyData:=.tuple [.tuple (dP m.1),.tuple (dP m.2)]
theorem dt_M{H:Hp}{T:Addr}{m:Mv}(h:MT H T m):Dt K H (.ref T) (dM m):=by
 obtain⟨A,B,h1,h2,h3⟩:=h;exact .tup (SqT.of h1) (.cons (q2n h2) (.cons (q2n h3) .nil))
theorem z9u{H:Hp}:∀{zs:List Zm},(∀z∈zs,MT H z.1 z.2)->Dts K H (zs.map fun z=>V.ref z.1) ((zs.map (·.2)).map dM)
 |[],_=>.nil
 |z::zs,h=>.cons (dt_M (h z Ap)) (z9u fun y hy=>h y (Ah _ hy))
theorem lay_M{m:Mv}(h:okP m.1/\okP m.2):(dM m).canLay0=true:=by
 unfold dM;simp only[Ef,Bs,q6e h.1.low,q6e h.2.low,Pc]
theorem z8b:∀{ms:List Mv},okMs ms->Bs (ms.map dM)=true
 |[],_=>by simp[Bs]
 |m::ms,h=>by
  rw[Ak];simp only[Bs,lay_M (h m Ap),z8b fun y hy=>h y (Ah _ hy),Pc]
theorem dep_M(m:Mv):(dM m).depth<=50:=by
 have h1:=q3p m.1;have h2:=q3p m.2;unfold dM;simp only[Hf,Cz];lia
theorem z8c:∀ms:List Mv,Cz (ms.map dM)<=50
 |[]=>by simp[Cz]
 |m::ms=>by
  have h1:=dep_M m;have h3:=z8c ms;rw[Ak];simp only[Cz];lia
theorem ne_row{H:Hp}{L M:Addr}{zs:List Zm}{Q:VK}(h:ML H L zs)(g:ML H M zs)(ok:okMs (zs.map (·.2)))(k:Q (.bl false) H):rNeU K (.ref L) (.ref M) H Q :=
 ne_dt (d:=.list ((zs.map (·.2)).map dM)) (.lst (SqL.of h.at_) (z9u h.pr)) (.lst (SqL.of g.at_) (z9u g.pr)) (by simp only[Ef,z8b ok]) (by have:=z8c (zs.map (·.2));simp only[Hf];lia) k
theorem z5c{bl:Bool}:∀{ms:List Mv} {rows:List Rw},WkOk bl rows ms->okMs ms
 |[],_,_=>fun _ h=>nomatch h
 |m::ms,rows,h=>fun x hx=>by
  rcases Bb.mp hx with rfl|hx
  ·exact⟨h.1.okp,h.1.fr.ok⟩
  ·exact z5c h.2 x hx
theorem z2i{K:Af}{tt:TT}{te:TE}{m D:Addr}{ob:Obj}{rows:List Rw}{p:Pth}{r:St}{H1 H2:Hp}{Fin:List V->Hp->Prop}(hm:H1 m=some (dR (rows.map rR)))(h2:H2=upd H1 m (.frz ob (dR (rows.map rR))))(hD:H2 D=none)(few:rows.length<=1000)(ht:∀(b:Addr) (x:Rw) (H:Hp) (Q:Bool->Hp->Prop),x∈rows->H b=some (.tup (vP x.1))->H m=some (.frz ob (dR (rows.map rR)))->(∀a u,a≠m->H1 a=some u->H a=some u)->(∀H',Same H H'->Q (decide (x.1.dropLast=p)) H')->tt (some (.ref b)::r) H Q)(he:∀(b:Addr) (x:Rw) (H:Hp) (Q:VK),x∈rows->H b=some (.tup (vP x.1))->Q (.str (mk (x.1.getLastD []))) H->te (some (.ref b)::r) H Q)(k:∀(H':Hp),H' D=some (.lst ((nms p rows).map fun n=>V.str (mk n)))->H' m=some (.frz ob (dR (rows.map rR)))->(∀a u,a≠m->H1 a=some u->H' a=some u)->Fin ((nms p rows).map fun n=>V.str (mk n)) H'):
  CompW (Itk m ob ((rows.map rR).map fun r=>(kP r.1,r.2))) (gName 0) tt te (none::r) D Fin H2:=by
 subst h2;have hDm:D≠m:=fun z=>by rw[z,q0b] at hD;cases hD
 have hD1:H1 D=none:=by rw[q0c hDm] at hD;exact hD
 have hlen:((rows.map rR).map fun r=>(kP r.1,r.2)).length=rows.length:=by rw[Ac,Ac]
 refine q6q (n:=rows.length) (fun i ys H'=>ys=(nms p (rows.take i)).map (fun n=>V.str (mk n))/\H' D=some (.lst ys)/\H' m=some (.frz ob (dR (rows.map rR)))/\(∀a u,a≠m->H1 a=some u->H' a=some u))
  ⟨rfl,q0b,by rw[q0c hDm.symm];exact q0b,fun a u n e=>by rw[q0c (fun z=>by rw[z,hD1] at e;cases e),q0c n];exact e⟩
  (fun i ys H' x=>x.2.1) (fun i ys H' hi x=>⟨x.2.2.1,by rw[hlen];exact hi⟩) (fun ys H' x=>⟨x.2.2.1,by rw[hlen];exact Ai _⟩) ?_ ?_
 ·rintro i ys H' x H6 hi ⟨rfl,hHD,hfz,kp⟩ ⟨rfl,ky,v,b,hk',hb,rfl⟩;obtain⟨x,hx,rfl,rfl⟩:∃x,rows[i]?=some x/\ky=kP x.1/\v=mV x.2:=by
   rw[Ao,Ao] at hk';cases e:rows[i]? with
   |none=>rw[e] at hk';cases hk'
   |some r=>rw[e] at hk';cases hk';exact⟨r,rfl,rfl,rfl⟩
  rw[q2b] at hb;have hxm:=Ay hx;have e1:rows.take (i+1)=rows.take i++[x]:=by rw[Cb,hx];rfl
  have hnl:(nms p (rows.take i)).length<=1000:=by
   unfold nms;rw[Ac];refine By (Oc _ _) ?_;rw[Cj];lia
  refine⟨q2v,ht b x _ _ hxm hb hfz kp fun H7 s7=>?_⟩;have kp7:∀a u,a≠m->H1 a=some u->H7 a=some u:=fun a u n e=>s7 _ _ (kp a u n e);refine iteB (fun hc=>?_) (fun hc=>?_)
  ·refine he b x _ _ hxm (s7 _ _ hb) ⟨s7 _ _ hHD,small' (by rw[Ac];lia),?_,q0b,by rw[q0c hDm.symm];exact s7 _ _ hfz,fun a u n e=>by rw[q0c (fun z=>by rw[z,hD1] at e;cases e)];exact kp7 a u n e⟩;unfold nms;rw[e1,Qe,Gb (by simpa using hc)];simp
  ·refine⟨?_,s7 _ _ hHD,s7 _ _ hfz,kp7⟩;unfold nms;rw[e1,Qe,Ga (by simpa using hc)];simp
 ·rintro ys H' ⟨rfl,hHD,hfz,kp⟩;rw[Bh] at hHD ⊢;exact k H' hHD hfz kp
structure CallsN2 (P:Program) (w:World) (K:Af) (mg:Str->Option Value) (base:Heap) (c:Addr):Prop where
 m_ask_drawer:MCal P w K mg base c "ask_drawer" 2 ["self", "path"] (spAskDrawer c)
def spNames(c:Addr):Sp:=fun vs H Q _=>∃h d e bl rows p,vs=[.ref h,.ref e]/\HallAt c H h d bl rows/\H e=some (.tup (vP p))/\Low p/\(rows.map (·.1)).Nodup/\(p=[]\/(p,none)∈rows)/\(∀r∈rows,okP r.1)/\rows.length<64 /\
 ∀(L:Addr) (ss:List Str) H',H L=none->Same H H'->H' L=some (.lst (ss.map V.str))->ss.Perm ((nms p rows).map mk)->ss.Pairwise (fun a b=>¬(b.cps.toList<a.cps.toList))->Q (.ref L) H'
abbrev q1q:Stmt:=inClass (top 16) 7
theorem q4p:FnScope ["self", "path"] ["self", "path"] (defScope q1q):=by trivial
theorem z7h{c:Addr}(D:Mf K c "names_in" "Hall.names_in" q1q ["self", "path"])(hk:Hk K c)(T:Txt mg)(C:CallsN2 P w K mg base c):MCal P w K mg base c "names_in" 3 ["self", "path"] (spNames c):=by
 refine D.cal hk.cl q4p (fun vs H Q E h=>?_) (fun f cdv A outer s H vs Q E hr h=>?_)
 ·obtain⟨h,d,e,bl,rows,p,rfl,_⟩:=h;rfl
 ·obtain⟨h,d,e,bl,rows,p,rfl,hh,he,lp,nd,hp,oks,h64,k⟩:=h;refine⟨_,(q0e (q1g (pe_m C.m_ask_drawer hr (pv 0) (q0a (pv 1) q0d))) (q0f (q0k (q0i (z2a hr) (by rfl) T.b_sorted (by decide +kernel) (q0a (q9q H rfl (q4q ["thing"] [("path",1)] rfl (@q8d _ _ _ _ K rfl (@q3z _ _ _ _ _ K rfl (pv 0) (by rfl))) (fun _ _ _ _ _=>(q0o (i:=0) (show(["thing", "path"]:List Str).Nodup by decide +kernel) rfl (by trivial))) (fun _ _ _ _ _=>(q9e (q0m (eq_k K rfl hr) (q0n (sl_k K rfl) (pv 0) q0s (q0t (q1h q0r q0g))) (pv 1) (nomark _)))) (fun _ _ _ _ _=>(q0z (ix_k K rfl) (pv 0) (q1h q0r q0g) (fun _ _=>rfl))))) q0d))))),?_⟩;obtain⟨dx,hi⟩:=hh.i;refine⟨_,rfl,h,dx,_,rfl,hi,rfl,_,rfl,h,d,e,bl,rows,p,rfl,hh,he,lp,nd,hp,fun H1 s1=>?_⟩;have hh1:=hh.same s1;have hed:e≠d:=fun z=>by rw[z,hh.d] at he;cases he
  refine⟨d,(fun o v e=>by rw[hh.d] at e;cases e),_,rfl,h,c,dx,_,_,rfl,s1 _ _ hi,hk.cl,hk.m,rfl,d,_,rfl,hh1.d,fun ob D hD=>?_⟩;refine z2i (K:=K) (H1:=H1) (rows:=rows) (p:=p) hh1.d rfl hD (by lia) (fun b x H2 Q' hx hb hf kp q=>?_) (fun b x H2 Q' hx hb q=>?_) (fun H2 hHD hfz kp=>?_)
  ·have okx:=oks x hx;obtain⟨c1,c2⟩:=q1i okx.ne;refine⟨_,rfl,_,rfl,_,rfl,.inr (.inr ⟨b,_,rfl,SqT.of hb,c2,fun u1 hu1=>?_⟩)⟩;rw[c1];have s2:=(Same.refl H2).new (o:=.tup (vP x.1.dropLast)) hu1;exact⟨_,rfl,q1w q0b (s2 _ _ (kp _ _ hed (s1 _ _ he))) (q1n okx.low) lp ⟨_,rfl,q _ s2⟩⟩
  ·exact⟨_,rfl,_,rfl,.inr (.inl ⟨b,_,-1,_,rfl,rfl,SqT.of hb,q2q (oks x hx).ne,q⟩)⟩
  ·have hDd:D≠d:=fun z=>by rw[z,q0b] at hD;cases hD
   have s2:Same H1 (upd H2 d (dR (rows.map rR))):=q1x hh1.d kp;have hnl:(nms p rows).length<=rows.length:=by unfold nms;rw[Ac];exact Oc _ _
   refine⟨ob,_,hfz,D,(nms p rows).map mk,rfl,by rw[q0c hDd,hHD,Ba];rfl,by rw[Ac];lia,fun L ss hL pm pw=>?_⟩;exact k L ss _ ((s1.trans s2).free hL) ((s1.trans s2).new hL) q0b pm pw
structure CallsD8 (P:Program) (w:World) (K:Af) (mg:Str->Option Value) (base:Heap) (c:Addr):Prop where
 m_ask_thing:MCal P w K mg base c "ask_thing" 1 ["self", "path"] (spAskThing c)
 m_is_drawer:MCal P w K mg base c "is_drawer" 1 ["self", "path"] (spIsDrawer c)
 m_names_in:MCal P w K mg base c "names_in" 3 ["self", "path"] (spNames c)
theorem z9v{rows:List Rw}{p:Pth}(h:∀r∈rows,r.1.dropLast≠p):nms p rows=[]:=by
 unfold nms;rw[Pk,List.filter_eq_nil_iff];intro r hr e;exact h r hr (of_decide_eq_true e)
theorem q7e{α β:Type}(f:α->β):∀(l:List α) (j:Nat),(l.map f).eraseIdx j=(l.eraseIdx j).map f
 |[],_=>rfl
 |a::l,0=>rfl
 |a::l,j+1=>by show f a::(l.map f).eraseIdx j=f a::(l.eraseIdx j).map f;rw[q7e f l j]
theorem z5d{α:Type}{a:α}:∀{l:List α} {j:Nat},l[j]?=some a->l.Perm (a::l.eraseIdx j)
 |[],_,h=>by cases h
 |b::l,0,h=>by cases h;exact .refl _
 |b::l,j+1,h=>((z5d (l:=l) (j:=j) h).cons b).trans (.swap a b _)
def spDrop8(c:Addr):Sp:=fun vs H Q _=>∃h d a bl rows p m,vs=[.ref h,.ref a]/\HallAt c H h d bl rows/\(rows.map (·.1)).Nodup/\(∀r∈rows,okP r.1)/\rows.length<64/\H a=some (.tup (vP p))/\(p,m)∈rows/\(∀r∈rows,r.1.dropLast≠p) /\
 ∀rows' H',(∀x u,x≠d->H x=some u->H' x=some u)->HallAt c H' h d bl rows'->rows.Perm ((p,m)::rows')->Q .non H'
abbrev q2t:Stmt:=inClass (top 16) 9
theorem q8x:FnScope ["self", "path"] ["self", "path"] (defScope q2t):=by trivial
theorem z7i{c:Addr}(D:Mf K c "drop" "Hall.drop" q2t ["self", "path"])(hk:Hk K c)(T:Txt mg)(C:CallsD8 P w K mg base c):MCal P w K mg base c "drop" 4 ["self", "path"] (spDrop8 c):=by
 refine D.cal hk.cl q8x (fun vs H Q E h=>?_) (fun f cdv A outer s H vs Q E hr h=>?_)
 ·obtain⟨h,d,a,bl,rows,p,m,rfl,_⟩:=h;rfl
 ·obtain⟨h,d,a,bl,rows,p,m,rfl,hh,nd,oks,h64,ha,hp,nok,k⟩:=h;refine⟨_,(q0e (q1g (pe_m C.m_ask_thing hr (pv 0) (q0a (pv 1) q0d))) (q0e (q0w (pt_j (@PW.pt _ _ _ (q3k (@q2z _ _ _ K rfl (pe_m C.m_is_drawer hr (pv 0) (q0a (pv 1) q0d)) (fun _=>rfl)) (q2c (q0m (ne_k K rfl hr) (pe_m C.m_names_in hr (pv 0) (q0a (pv 1) q0d)) (q1r q0d) (nomark _)))))) (q0f q1m) q0j) (q0f (z6s hr (@q3z _ _ _ _ _ K rfl (pv 0) (by rfl)) (pv 1))))),?_⟩;obtain⟨dx,hi⟩:=hh.i;have okp:=oks _ hp;refine⟨_,rfl,h,dx,_,rfl,hi,rfl,_,rfl,h,d,a,bl,rows,p,m,rfl,hh,ha,nd,hp,?_⟩;refine⟨fun bb H2=>bb=false/\Same H H2,?_,?_⟩;rotate_left
  ·refine⟨_,rfl,h,dx,_,rfl,hi,rfl,_,rfl,h,d,a,bl,rows,p,rfl,hh,ha,okp.low,nd,fun H2 bb s3 hbb=>⟨bb,rfl,?_⟩⟩;refine iteB (fun e=>?_) (fun e=>⟨rfl,s3⟩);have hD:=hbb.mp e;refine⟨_,rfl,h,dx,_,rfl,s3 _ _ hi,rfl,_,rfl,h,d,a,bl,rows,p,rfl,hh.same s3,s3 _ _ ha,okp.low,nd,hD,oks,h64,fun L ss H4 hL s4 hLL pm pw=>?_⟩;rw[z9v nok] at pm;have es:ss=[]:=List.perm_nil.mp pm;rw[es] at hLL;refine⟨by show 0<=sizeLine;decide,fun E0 hE0=>?_⟩;have s5:=(Same.refl H4).new (o:=.lst []) hE0;exact ne_dt (d:=.list []) (.lst (SqL.of (s5 _ _ hLL)) .nil) (.lst (SqL.of q0b) .nil) (by simp[Ef,Bs]) (by simp[Hf,Cz]) ⟨false,rfl,rfl,(s3.trans s4).trans s5⟩
  rintro bb H2 ⟨rfl,s3⟩;refine iteF ?_;have hh3:=hh.same s3;obtain⟨j0,hj0⟩:=List.mem_iff_getElem?.mp hp;refine⟨_,rfl,h,c,dx,_,_,rfl,s3 _ _ hi,hk.cl,hk.m,rfl,_,rfl,d,_,a,kP p,rfl,rfl,hh3.d,by rw[q2b];exact s3 _ _ ha,⟨j0,mV m,by rw[Ao,Ao,hj0];rfl⟩,fun j v hj=>?_⟩;obtain⟨r,hr,e1⟩:∃r,rows[j]?=some r/\(kP r.1,mV r.2)=(kP p,v):=by
   rw[Ao,Ao] at hj;cases e:rows[j]? with
   |none=>rw[e] at hj;cases hj
   |some r=>rw[e] at hj;exact⟨r,rfl,Co hj⟩
  have er:r=(p,m):=q2d (f:=fun r:Rw=>r.1) nd (Ay hr) hp (q8r (congrArg Prod.fst e1));rw[er] at hr;have hhd:h≠d:=fun z=>by rw[z,hh.d] at hi;cases hi
  refine k (rows.eraseIdx j) _ (fun x u n e=>by rw[q0c n];exact s3 _ _ e) ⟨⟨dx,by rw[q0c hhd];exact s3 _ _ hi⟩,?_⟩ ?_
  ·rw[q0b,q7e,q7e]
  ·exact z5d hr
structure CallsP5 (P:Program) (w:World) (K:Af) (mg:Str->Option Value) (base:Heap) (c:Addr):Prop where
 m_ask_drawer:MCal P w K mg base c "ask_drawer" 2 ["self", "path"] (spAskDrawer c)
 m_there:MCal P w K mg base c "there" 3 ["self", "place"] (spThere1 c)
def spPut5(c:Addr):Sp:=fun vs H Q _=>∃h d a bl rows p m,vs=[.ref h,.ref a,mV m]/\HallAt c H h d bl rows/\(rows.map (·.1)).Nodup/\(∀r∈rows,okP r.1)/\rows.length<60/\H a=some (.tup (vP [p]))/\okN p/\(∀r∈rows,fold bl r.1≠fold bl [p]) /\
 ∀H',(∀x u,x≠d->H x=some u->H' x=some u)->HallAt c H' h d bl (rows++[([p],m)])->Q .non H'
abbrev q3j:Stmt:=inClass (top 16) 8
theorem sc_Hall_put:FnScope ["self", "path", "mark", "other"] ["self", "path", "mark"] (defScope q3j):=by trivial
theorem z9w{c:Addr}(D:Mf K c "put" "Hall.put" q3j ["self", "path", "mark"])(hk:Hk K c)(T:Txt mg)(C:CallsP5 P w K mg base c):MCal P w K mg base c "put" 4 ["self", "path", "mark"] (spPut5 c):=by
 refine D.cal hk.cl sc_Hall_put (fun vs H Q E h=>?_) (fun f cdv A outer s H vs Q E hr h=>?_)
 ·obtain⟨h,d,a,bl,rows,p,m,rfl,_⟩:=h;rfl
 ·obtain⟨h,d,a,bl,rows,p,m,rfl,hh,nd,oks,h60,ha,okp,fr,k⟩:=h;obtain⟨_,g_MOST_THINGS⟩:=T.MOST_THINGS;refine⟨_,(q0e (q1g (pe_m C.m_ask_drawer hr (pv 0) (q0a (q0n (sl_k K rfl) (pv 1) q0s (q0t (q1h q0r q0g))) q0d))) (q0e (q0l (i:=3) sc_Hall_put.nd rfl (by trivial) (pe_m C.m_there hr (pv 0) (q0a (pv 1) q0d))) (q0e (q0w (q1o (q4v (pv 3))) (q0f q1m) q0j) (q0e (q0w (q0m op_ge (q0i z4m (by rfl) T.b_len Bo (q0a (@q3z _ _ _ _ _ K rfl (pv 0) (by rfl)) q0d)) (z2m (v:=.int 60) (by rfl) g_MOST_THINGS ⟨_,rfl⟩) (nomark _)) (q0f q1m) q0j) (q0f (q5f (q1t hr) (@q3z _ _ _ _ _ K rfl (pv 0) (by rfl)) (pv 1) (pv 2) rfl)))))),?_⟩;obtain⟨dx,hi⟩:=hh.i;have okP1:okP [p]:=⟨by simp,by show 1<=6;decide,fun n hn=>by rw[Ar.mp hn];exact okp⟩
  obtain⟨c1,c2⟩:=q1i (q:=[p]) (by simp);refine⟨_,rfl,h,dx,_,rfl,hi,rfl,_,rfl,_,rfl,_,rfl,.inr (.inr ⟨a,_,rfl,SqT.of ha,c2,fun t1 ht1=>?_⟩)⟩;rw[c1];have s1:=(Same.refl H).new (o:=.tup (vP ([p]:Pth).dropLast)) ht1;refine⟨h,d,t1,bl,rows,[],rfl,hh.same s1,q0b,(fun _ h=>nomatch h),nd,.inl rfl,fun H1 s2=>?_⟩;have s3:=s1.trans s2;refine⟨_,rfl,h,dx,_,rfl,s3 _ _ hi,rfl,_,rfl,h,d,a,bl,rows,[p],rfl,hh.same s3,s3 _ _ ha,okP1,oks,fun H3 ov s4 hov=>?_⟩;have s34:=s3.trans s4;rcases hov with⟨rfl,no⟩|⟨e,r,rfl,hr,he,_⟩;rotate_left
  ·exact absurd he (fr r hr)
  refine⟨_,rfl,_,rfl,iteF ?_⟩;have hh3:=hh.same s34;refine⟨_,rfl,h,c,dx,_,_,rfl,s34 _ _ hi,hk.cl,hk.m,rfl,d,_,rfl,hh3.d,_,_,rfl,rfl,_,rfl,?_⟩;refine iteB (fun hb=>?_) (fun hb=>?_)
  ·have hb:=of_decide_eq_true hb;rw[Ac,Ac] at hb;lia
  refine⟨_,rfl,_,rfl,h,c,dx,_,_,rfl,s34 _ _ hi,hk.cl,hk.m,rfl,_,rfl,d,_,rfl,DPut.t (k:=kP [p]) hh3.d (by rw[q2b];exact s34 _ _ ha) (by rw[Ac,Ac];exact small' (by lia)),?_⟩;rw[q2y (p:=[p]) (fun r hr=>by
   obtain⟨x,hx,rfl⟩:=Ag.mp hr;exact fun z=>fr x hx (by rw[show x.1=[p] from z]))]
  have hhd:h≠d:=fun z=>by rw[z,hh.d] at hi;cases hi
  exact k _ (fun x u n e=>by rw[q0c n];exact s34 _ _ e) ⟨⟨dx,by rw[q0c hhd];exact s34 _ _ hi⟩,by rw[q0b];show some (dR (rows.map rR++[([p],mV m)]))=some (dR ((rows++[([p],m)]).map rR));rw[Av];rfl⟩
def ZN:List Nat:=List.replicate 12 48
theorem z9x:okN ZN:=⟨by decide,by decide,fun c hc=>by rw[Mi hc];decide +kernel⟩
theorem q8y:Txt.mul (Am "0") 12=mk ZN:=by decide +kernel
theorem z5e:MulOk (Am "0") 12:=by
 have e1:(Am "0").length=1:=by decide +kernel
 refine⟨?_,fun _ _=>?_,fun _ _=>?_⟩
 ·rw[Bool.or_eq_false_iff];exact⟨decide_eq_false (by lia),decide_eq_false (by lia)⟩
 ·rw[e1];decide
 ·rw[e1];unfold Pg;exact decide_eq_false (by have:=bigline;lia)
theorem lo48:∀c,c<128->Fx c=48->c=48:=by decide +kernel
theorem fold_z{bl:Bool}{p:Pth}(ok:okP p)(h:fold bl p=fold bl [ZN]):p=[ZN]:=by
 obtain⟨h1,h2⟩:=(q9p ok.1 (by simp)).mp h;have h1:p.dropLast=[]:=h1;have e:p=p.dropLast++[p.getLast ok.1]:=(He ok.1).symm;rw[h1,Sb] at e;have hl:p.getLastD []=p.getLast ok.1:=by rw[Cy,Dd ok.1];rfl
 have hz:p.getLast ok.1=ZN:=by
  rw[hl] at h2;cases bl with
  |false=>exact h2
  |true =>
   have h2:lowN (p.getLast ok.1)=lowN ZN:=h2;have hm:p.getLast ok.1∈p:=Rl ok.1;have hlow:=ok.low _ hm;generalize p.getLast ok.1=n at h2 hlow;have e2:lowN ZN=List.replicate 12 48:=by decide +kernel
   rw[e2] at h2;have hlen:n.length=12:=by have:=congrArg List.length h2;unfold lowN at this;rw[Ac,Nm] at this;exact this
   refine List.eq_replicate_iff.mpr ⟨hlen,fun c hc=>lo48 c (hlow c hc) ?_⟩;have:Fx c∈lowN n:=Ag.mpr ⟨c,hc,rfl⟩;rw[h2] at this;exact Mi this
 rw[e,hz]
structure CallsAp (P:Program) (w:World) (K:Af) (mg:Str->Option Value) (base:Heap) (c:Addr):Prop where
 rows_right:Cal P w K mg base "_law_rows_right" 3 ["_law_hall", "_law_marks"] (spRight c)
 m_put:MCal P w K mg base c "put" 4 ["self", "path", "mark"] (spPut5 c)
 m_drop:MCal P w K mg base c "drop" 4 ["self", "path"] (spDrop8 c)
def spAp(c:Addr):Sp:=fun vs H Q _=>∃h d h' d' m mm bl,∃rows rows' mr mr':List Rw,vs=[.ref h,.ref h',.ref m,.ref mm]/\HallAt c H h d bl rows/\HallAt c H h' d' bl rows'/\Hl bl rows/\Hl bl rows'/\rows.length<60/\rows'.length<60 /\
 H m=some (dR (mr.map rR))/\mr.Perm rows/\H mm=some (dR (mr'.map rR))/\mr'.Perm rows'/\(m≠d/\mm≠d/\m≠d'/\d≠d')/\(∀r∈rows,r.1≠[ZN])/\(∀r∈rows',r.1≠[ZN]) /\
 ∀H' rows2,(∀x u,x≠d->x≠d'->H x=some u->H' x=some u)->HallAt c H' h d bl rows2->rows2.Perm rows->Q (.bl true) H'
theorem q3t{bl:Bool}{rows:List Rw}(h:Hl bl rows):(rows.map (·.1)).Nodup:=by
 have:=h.nd;rw[show rows.map (fun r=>fold bl r.1)=(rows.map (·.1)).map (fold bl) by rw[Ba];rfl] at this;exact q1y this
abbrev q7f:Stmt:=top 33
theorem z7j:FnScope ["_law_one_here", "_law_other", "_law_marks", "_law_more"] ["_law_one_here", "_law_other", "_law_marks", "_law_more"] (defScope q7f):=by trivial
theorem z7k{c:Addr}(D:Df K mg "_law_apart" q7f ["_law_one_here", "_law_other", "_law_marks", "_law_more"])(T:Txt mg)(C:CallsAp P w K mg base c):Cal P w K mg base "_law_apart" 5 ["_law_one_here", "_law_other", "_law_marks", "_law_more"] (spAp c):=by
 refine D.cal z7j (fun vs H Q E h=>?_) (fun f cdv A outer s H vs Q E hr h=>?_)
 ·obtain⟨h,d,h',d',m,mm,bl,rows,rows',mr,mr',rfl,_⟩:=h;rfl
 ·obtain⟨h,d,h',d',m,mm,bl,rows,rows',mr,mr',rfl,ha,ha',hl,hl',h60,h60',hm,pm,hmm,pmm,⟨n1,n2,n3,n4⟩,z1,z2,k⟩:=h;refine⟨_,(q0e (q1g (pe_m C.m_put hr (pv 0) (q0a (q1c (q0a (q1a q2l q2i q0g) q0d)) (q0a q0g q0d)))) (q0e (q0w (q3c (@q2z _ _ _ K rfl (pe_c C.rows_right hr (q0a (pv 1) (q0a (pv 3) q0d))) (fun _=>rfl))) (q0f (q0k q3u)) q0j) (q0e (q1g (pe_m C.m_drop hr (pv 0) (q0a (q1c (q0a (q1a q2l q2i q0g) q0d)) q0d))) (q0e (q1g (pe_m C.m_put hr (pv 1) (q0a (q1c (q0a (q1a q2l q2i q0g) q0d)) (q0a q7h q0d)))) (q0f (q0k (pe_c C.rows_right hr (q0a (pv 0) (q0a (pv 2) q0d))))))))),?_⟩;obtain⟨dx,hi⟩:=ha.i;obtain⟨dx',hi'⟩:=ha'.i;have fz:∀{rs:List Rw},Hl bl rs->(∀r∈rs,r.1≠[ZN])->∀r∈rs,fold bl r.1≠fold bl [ZN]:=fun hl z r hr e=>z r hr (fold_z (hl.ok r hr) e)
  have hid:∀{h d x:Addr} {Hx:Hp} {rs:List Rw} {dx:Addr} {fs:List (Str×V)},Hx h=some (.ins c dx fs)->Hx d=some (dR (rs.map rR))->h≠d:=fun e1 e2 z=>by rw[z,e2] at e1;cases e1
  have h'd:h'≠d:=fun z=>by rw[z,ha.d] at hi';cases hi'
  refine⟨_,rfl,h,dx,_,rfl,hi,rfl,.inr (.inl ⟨_,_,rfl,rfl,z5e,?_⟩)⟩;rw[q8y];refine⟨by show 1<=sizeLine;decide,fun t1 ht1=>?_⟩;have s1:=(Same.refl H).new (o:=.tup [.str (mk ZN)]) ht1;have e1:upd H t1 (.tup [.str (mk ZN)]) t1=some (.tup (vP [ZN])):=q0b;generalize upd H t1 (.tup [.str (mk ZN)])=H1 at s1 e1;refine⟨h,d,t1,bl,rows,ZN,some 4,rfl,ha.same s1,q3t hl,hl.ok,h60,e1,z9x,fz hl z1,fun H2 kp2 ha2=>?_⟩;have ha2':HallAt c H2 h' d' bl rows':=⟨⟨dx',kp2 _ _ h'd (s1 _ _ hi')⟩,kp2 _ _ n4.symm (s1 _ _ ha'.d)⟩
  have hm2:=kp2 _ _ n1 (s1 _ _ hm);have hmm2:=kp2 _ _ n2 (s1 _ _ hmm);refine⟨_,rfl,_,rfl,h',mm,d',bl,rows',mr',rfl,ha2',hmm2,pmm,q3t hl',hl'.ok,by lia,fun H3 s3=>⟨true,rfl,iteF ?_⟩⟩;have ha3:=ha2.same s3;obtain⟨dx3,hi3⟩:=ha3.i;refine⟨_,rfl,h,dx3,_,rfl,hi3,rfl,.inr (.inl ⟨_,_,rfl,rfl,z5e,?_⟩)⟩;rw[q8y];refine⟨by show 1<=sizeLine;decide,fun t2 ht2=>?_⟩;have s4:=(Same.refl H3).new (o:=.tup [.str (mk ZN)]) ht2;have e2:upd H3 t2 (.tup [.str (mk ZN)]) t2=some (.tup (vP [ZN])):=q0b;generalize upd H3 t2 (.tup [.str (mk ZN)])=H4 at s4 e2;have okZ:okP [ZN]:=⟨by simp,by show 1<=6;decide,fun n hn=>by rw[Ar.mp hn];exact z9x⟩
  have nd2:((rows++[([ZN],some (4:Int))]).map (·.1)).Nodup:=by
   rw[Av];refine Jk.mpr ⟨q3t hl,by simp,fun a ha b hb=>?_⟩;obtain⟨r,hr,rfl⟩:=Ag.mp ha;rw[Ar.mp hb];exact z1 r hr
  refine⟨h,d,t2,bl,_,[ZN],some 4,rfl,ha3.same s4,nd2,fun r hr=>?_,by rw[An];show rows.length+1<64;lia,e2,by simp,fun r hr e=>?_,fun rows5 H5 kp5 ha5 pm5=>?_⟩
  ·rcases Az.mp hr with z|z
   ·exact hl.ok r z
   ·rw[Ar.mp z];exact okZ
  ·rcases Az.mp hr with z|z
   ·rcases hl.dr r z with y|y
    ·rw[y] at e;cases e
    ·exact z1 _ y e
   ·rw[Ar.mp z] at e;cases e
  have pm6:rows5.Perm rows:=by
   have p1:(rows++[([ZN],some (4:Int))]).Perm (([ZN],some (4:Int))::rows):=Lh _ _;exact(List.perm_cons _).mp (pm5.symm.trans p1)
  have s34:=s3.trans s4;have ha5':HallAt c H5 h' d' bl rows':=by
   obtain⟨⟨dx4,e4⟩,e5⟩:=ha2'.same s34;exact⟨⟨dx4,kp5 _ _ h'd e4⟩,kp5 _ _ n4.symm e5⟩
  have hm5:=kp5 _ _ n1 (s34 _ _ hm2);obtain⟨dx5,hi5⟩:=ha5'.i;have hd':h≠d':=fun z=>by
   obtain⟨dx6,e6⟩:=ha5.i;rw[z,ha5'.d] at e6;cases e6
  refine⟨_,rfl,h',dx5,_,rfl,hi5,rfl,.inr (.inl ⟨_,_,rfl,rfl,z5e,?_⟩)⟩;rw[q8y];refine⟨by show 1<=sizeLine;decide,fun t3 ht3=>?_⟩;have s6:=(Same.refl H5).new (o:=.tup [.str (mk ZN)]) ht3;have e3:upd H5 t3 (.tup [.str (mk ZN)]) t3=some (.tup (vP [ZN])):=q0b;generalize upd H5 t3 (.tup [.str (mk ZN)])=H6 at s6 e3;refine⟨h',d',t3,bl,rows',ZN,none,rfl,ha5'.same s6,q3t hl',hl'.ok,h60',e3,z9x,fz hl' z2,fun H7 kp7 ha7=>?_⟩;have ha7h:HallAt c H7 h d bl rows5:=by
   obtain⟨⟨dx6,e6⟩,e7⟩:=ha5.same s6;exact⟨⟨dx6,kp7 _ _ hd' e6⟩,kp7 _ _ n4 e7⟩
  have hm7:=kp7 _ _ n3 (s6 _ _ hm5);have hl5:Hl bl rows5:=hl.perm pm6;refine⟨_,rfl,_,rfl,h,m,d,bl,rows5,mr,rfl,ha7h,hm7,pm.trans pm6.symm,q3t hl5,hl5.ok,by have:=pm6.length_eq;lia,fun H8 s8=>?_⟩;exact k H8 rows5 (fun x u nx nx' e=>s8 _ _ (kp7 _ _ nx' (s6 _ _ (kp5 _ _ nx (s34 _ _ (kp2 _ _ nx (s1 _ _ e))))))) (ha7h.same s8) pm6
theorem z9y{xs:List V}{i:Int}(h0:0<=i)(h1:i<=xs.length):cutV xs none (some i)=xs.take i.toNat:=by
 have e1:HT.sIx xs.length xs.length (some i)=i.toNat:=by
  show(if i<0 then(i+(xs.length:Int)).toNat else min i.toNat xs.length)=_;rw[if_neg (by lia)];lia
 have e2:HT.sIx xs.length 0 none=0:=rfl;unfold cutV;rw[e1,e2];rfl
abbrev four(n:Nat):List Int:=[0,if (n:Int)<1 then(n:Int) else 1,(n:Int) / 2,(n:Int)]
def chk(led:Bool)(n:Nat):Bool:=match PySem.Sk.runN (.fresh 0 0 led,[]) (four n) with
 |some y=>(y.1.led==led)&&PySem.Sk.wk y.1 y.2.length&&y.2.all fun m=>decide (0<=m/\m<=(n:Int))
 |none=>false
theorem z9z:∀led:Bool,∀n,n<21->chk led n=true:=by decide +kernel
theorem chk_ok(w:World){n:Nat}(h:n<=20):∃y,PySem.Sk.runN (PySem.Sk.tb0 w,[]) (four n)=some y/\PySem.Sk.Rdy w y/\∀m∈y.2,0<=m/\m<=(n:Int):=by
 have hc:=z9z (!w.params.followText "set-order") n (by lia);unfold chk at hc;cases e:PySem.Sk.runN (.fresh 0 0 (!w.params.followText "set-order"),[]) (four n) with
 |none=>rw[e] at hc;cases hc
 |some y =>
  rw[e] at hc;simp only[Eb,beq_iff_eq,Jt,decide_eq_true_eq] at hc;exact⟨y,rfl,⟨hc.1.1,hc.1.2⟩,hc.2⟩
structure CallsO (P:Program) (w:World) (K:Af) (mg:Str->Option Value) (base:Heap) (c:Addr):Prop where
 draw:Cal P w K mg base "_law_draw" 1 ["_law_feed", "_law_many"] spDraw
 rows:Cal P w K mg base "_law_rows" 3 ["_law_feed", "_law_blind", "_law_most"] spRows
 mixed:Cal P w K mg base "_law_mixed" 2 ["_law_feed", "_law_rows_here"] spMixed
 row:Cal P w K mg base "_law_row" 4 ["_law_feed", "_law_marks", "_law_blind", "_law_most"] spRowM
 rows_right:Cal P w K mg base "_law_rows_right" 3 ["_law_hall", "_law_marks"] (spRight c)
 walk:Cal P w K mg base "walk" 7 ["hall", "row"] (spWalk c)
 apart:Cal P w K mg base "_law_apart" 5 ["_law_one_here", "_law_other", "_law_marks", "_law_more"] (spAp c)
 m_is_blind:MCal P w K mg base c "is_blind" 1 ["self"] (spBlind c)
 k_Hall:KCal P w K mg base c "Hall" 4 ["self", "rows", "blind"] (spInit c)
def spOne:Sp:=fun vs H Q _=>∃a b,vs=[.ref a]/\FeedAt H a b/\∀H',Fd a b H H'->Q (.bl true) H'
theorem z5f{H:Hp}{L M:Addr}{zs:List Zm}{n:Nat}(h:ML H L zs)(g:H M=some (.lst ((zs.map fun z=>V.ref z.1).take n))):ML H M (zs.take n):=⟨by rw[g,Ge],fun z hz=>h.pr z (Fo hz)⟩
theorem z8d{H:Hp}{a:Addr}{o:HO}(h:H a=none):upd H a o a=some o:=q0b
theorem z5g{a b d d':Addr}{H H1 H2:Hp}{rs:List HRow}(fd:Fd a b H H1)(hd:H d=none)(e:H1 d=some (dR rs))(hd':H1 d'=none)(kp:∀x u,x≠d->x≠d'->H1 x=some u->H2 x=some u):Fd a b H H2:=by
 obtain⟨⟨x,y,fa⟩,ns,fb⟩:=fd.feed;have ho:=fd.free hd';have na:a≠d:=fun z=>by rw[z,e] at fa;cases fa
 have na':a≠d':=fun z=>by rw[z,hd'] at fa;cases fa
 have nb:b≠d:=fun z=>by rw[z,e] at fb;cases fb
 have nb':b≠d':=fun z=>by rw[z,hd'] at fb;cases fb
 exact⟨⟨⟨x,y,kp _ _ na na' fa⟩,ns,kp _ _ nb nb' fb⟩,fun c o h hc=>kp _ _ (fun z=>by rw[z,hd] at h;cases h) (fun z=>by rw[z,ho] at h;cases h) (fd.keep c o h hc)⟩
theorem no_z{rs:List Rw}(nd:(rs.map (·.1)).Nodup)(h:valV ((rs.map rR).map fun r=>(kP r.1,r.2)) (kP [ZN])=none):∀r∈rs,r.1≠[ZN]:=fun r hr e=>by
 have:=q2h nd (p:=r.1) (m:=r.2) hr;rw[e,h] at this;cases this
abbrev z5h:Stmt:=top 34
theorem sc_one:FnScope ["_law_feed", "_law_blind", "_law_rows_here", "_law_marks", "_law_hall", "_law_row_here", "_law_stands", "_law_many", "_law_handed", "_law_found"] ["_law_feed"] (defScope z5h):=by trivial
set_option maxHeartbeats 40000000 in
theorem ok_one{c_Hall:Addr}(D:Df K mg "_law_one" z5h ["_law_feed"])(T:Txt mg)(g_Hall:mg "Hall" = some (.ref c_Hall))(isi:Isi K c_Hall)(C:CallsO P w K mg base c_Hall):Cal P w K mg base "_law_one" 8 ["_law_feed"] spOne:=by
 refine D.cal sc_one (fun vs H Q E h=>?_) (fun f cdv A outer s H vs Q E hr h=>?_)
 ·obtain⟨a,b,rfl,_⟩:=h;rfl
 ·obtain⟨a,b,rfl,F,k⟩:=h;refine⟨_,(q0e (q0l (i:=1) sc_one.nd rfl (by trivial) (q6k (eq_k K rfl hr) (pe_c C.draw hr (q0a (pv 0) (q0a q0g q0d))) q0g (nomark _))) (q0e (q0l (i:=2) sc_one.nd rfl (by trivial) (pe_c C.rows hr (q0a (pv 0) (q0a (pv 1) (q0a (q0z (ix_k K rfl) (q1r (q0a q0g (q0a q0g (q0a q0g q0d)))) (pe_c C.draw hr (q0a (pv 0) (q0a q0g q0d))) (fun _ _=>rfl)) q0d))))) (q0e (q0l (i:=3) sc_one.nd rfl (by trivial) (q2k (z1x hr) (by rfl) T.b_dict (by decide +kernel) (q0a (pv 2) q0d))) (q0e (q0l (i:=4) sc_one.nd rfl (by trivial) (pe_k C.k_Hall hr (q0a (pe_c C.mixed hr (q0a (pv 0) (q0a (pv 2) q0d))) (q0a (pv 1) q0d)))) (q0e (z0b (pe_c C.row hr (q0a (pv 0) (q0a (pv 3) (q0a (pv 1) (q0a (q0z (ix_k K rfl) (q1r (q0a q0g (q0a q0g q0d))) (pe_c C.draw hr (q0a (pv 0) (q0a q0g q0d))) (fun _ _=>rfl)) q0d))))) (@q5e _ _ _ _ (2) _ K rfl rfl (q0x (q0o (i:=5) sc_one.nd rfl (by trivial)) (q0x (q0o (i:=6) sc_one.nd rfl (by trivial)) q3e)) (by rfl) (by rfl))) (q0e (q3d Cr rfl (@z6a _ _ _ _ K rfl (q0i (q9t hr) (by rfl) T.b_sorted (by decide +kernel) (q0a (q2k (z4q hr) (by rfl) T.b_set (by decide +kernel) (q0a (q1r (q0a q0g (q0a (q0i (q7j rfl) (by rfl) T.b_min (by decide +kernel) (q0a q0g (q0a (q0i (q2m K rfl) (by rfl) T.b_len Bo (q0a (pv 5) q0d)) q0d))) (q0a (q1a q9c (q0i (q2m K rfl) (by rfl) T.b_len Bo (q0a (pv 5) q0d)) q0g) (q0a (q0i (q2m K rfl) (by rfl) T.b_len Bo (q0a (pv 5) q0d)) q0d))))) q0d)) q0d))) (q0o (i:=7) sc_one.nd rfl (by trivial)) (q0e (q0l (i:=8) sc_one.nd rfl (by trivial) (q2k (z3h K rfl) (by rfl) T.b_list (by decide +kernel) (q0a (q0n (sl_k K rfl) (pv 5) q0s (q0t (pv 7))) q0d))) (q0e (q0l (i:=9) sc_one.nd rfl (by trivial) (pe_c C.walk hr (q0a (pv 4) (q0a (pv 8) q0d)))) (q0e (q0w (pt_j (@PW.pt _ _ _ (q5t (q0m (ne_k K rfl hr) (pv 8) (q0n (sl_k K rfl) (pv 5) q0s (q0t (pv 7))) (nomark _)) (q5t (q3c (@q2z _ _ _ K rfl (q0i (isiC_k K rfl) (by rfl) T.b_isinstance (by decide +kernel) (q0a (pv 9) (q0a (z2m (v:=.ref c_Hall) (by rfl) g_Hall rfl) q0d))) (fun _=>rfl))) (q4g (q0m (ne_k K rfl hr) (z6p C.m_is_blind hr (pv 9)) (pv 1) (nomark _))))))) (q0f (q0k q3u)) q0j) (q0e (q1g (@q7x _ _ _ _ _ _ _ _ _ K rfl Ct PySem.F.slot_list_clear PySem.F.type_list_clear z5v (pv 8) (by rfl) (by rfl))) (q0f (q0w (pt_j (@PW.pt _ _ _ (q5t (q3c (@q2z _ _ _ K rfl (pe_c C.rows_right hr (q0a (pv 9) (q0a (q0z (ix_k K rfl) (pv 6) (pv 7) (fun _ _=>rfl)) q0d))) (fun _=>rfl))) (q4g (q3c (@q2z _ _ _ K rfl (pe_c C.rows_right hr (q0a (pv 4) (q0a (pv 3) q0d))) (fun _=>rfl))))))) (q0f (q0k q3u)) q0j))))))) (q0e (q0w (pt_j (@PW.pt _ _ _ (q5t (q1o (z3m (q1t hr) (q1c (q0a (q1a q2l q2i q0g) q0d)) (pv 3))) (q4g (q1o (z3m (q1t hr) (q1c (q0a (q1a q2l q2i q0g) q0d)) (q0z (ix_k K rfl) (pv 6) (q1h q0r q0g) (fun _ _=>rfl)))))))) (q0f (q0k q3u)) q0j) (q0f (q0k (pe_j (z7n (pe_c C.apart hr (q0a (pv 4) (q0a (pe_c C.walk hr (q0a (pv 4) (q0a (pv 5) q0d))) (q0a (pv 3) (q0a (q0z (ix_k K rfl) (pv 6) (q1h q0r q0g) (fun _ _=>rfl)) q0d))))) (z2n (pe_c C.apart hr (q0a (pv 4) (q0a (pe_c C.walk hr (q0a (pv 4) (q0a (q1r q0d) q0d))) (q0a (pv 3) (q0a (pv 3) q0d))))))))))))))))),?_⟩;refine⟨_,rfl,a,b,_,rfl,F,by decide,by decide,fun r0 H1 r00 r01 fd1=>.inl ⟨rfl,?_⟩⟩;generalize decide (V.int r0=V.int 0)=bl;refine⟨_,rfl,_,rfl,by show 3<=sizeLine;decide,fun M0 hM0=>?_⟩;have s1:=(Same.refl H1).new (o:=.lst [.int 4,.int 12,.int 55]) hM0;have fd1':=fd1.same s1;have hM0a:M0≠a:=fun z=>by obtain⟨_,_,e⟩:=fd1.feed.fa;rw[<- z,hM0] at e;cases e
  refine⟨_,rfl,a,b,_,rfl,fd1'.feed,by decide,by decide,fun r1 H2 r10 r11 fd2=>?_⟩;have hat:∃m0:Int,atI [V.int 4,V.int 12,V.int 55] r1=some (.int m0)/\0<=m0/\m0<=55:=by
   have e:r1=0\/r1=1\/r1=2:=by lia
   rcases e with rfl|rfl|rfl
   ·exact⟨4,rfl,by decide,by decide⟩
   ·exact⟨12,rfl,by decide,by decide⟩
   ·exact⟨55,rfl,by decide,by decide⟩
  obtain⟨m0,hat,hm0,hm1⟩:=hat;refine .inl ⟨M0,_,r1,_,rfl,rfl,SqL.of (fd2.at q0b hM0a),hat,?_⟩;have fd2':=fd1'.trans fd2;refine⟨a,b,bl,m0,rfl,fd2'.feed,hm0,by lia,fun L0 zs0 H3 fd3 hL0 rl0 hl0 len0=>?_⟩;have len55:zs0.length<=55:=by lia
  have len60:zs0.length<=60:=by lia
  have fd3':=fd2'.trans fd3;have hL0H:H L0=none:=fd2'.free hL0;have hL0a:L0≠a:=(F.na hL0H).symm;clear hat fd2 fd3 hM0a s1 fd1';refine⟨_,rfl,L0,zs0.map (·.1),zs0.map (fun z=>rR z.2),rfl,by rw[Ba];exact rl0.at_,prs_zs rl0.pr,by rw[Ac];lia,fun m hm=>?_⟩;rw[z4w hl0];have s4:=(Same.refl H3).new (o:=dR ((zs0.map (·.2)).map rR)) hm;have hm4:upd H3 m (dR ((zs0.map (·.2)).map rR)) m=some (dR ((zs0.map (·.2)).map rR)):=q0b;have hmH:H m=none:=fd3'.free hm;have rl4:=rl0.same s4;have fd4:=fd3'.same s4;generalize upd H3 m (dR ((zs0.map (·.2)).map rR))=H4 at s4 hm4 rl4 fd4;refine⟨_,rfl,_,rfl,a,b,L0,zs0,rfl,fd4.feed,rl4,len60,fun r hr=>(hl0.ok r hr).low,fun L zs H5 fd5 hL rl5 perm=>?_⟩;have hl5:Hl bl (zs.map (·.2)):=hl0.perm (perm.map _);have hlen5:zs.length<=60:=by rw[perm.length_eq];exact len60
  have rl45:=rl4.fd fd4.feed fd5 hL0a;have hm5:=z2f hm4 fd4.feed fd5;have fd45:=fd4.trans fd5;refine⟨_,rfl,fun h dx hh hdx n=>?_⟩;refine⟨h,dx,L,bl,zs,rfl,q0b,z4x rl5 hh hdx,hl5,hlen5,fun d H6 hd i1 i2 i3=>⟨rfl,?_⟩⟩;obtain⟨s6,hd5⟩:=q8w hh hdx hd i3;have mnd:m≠d:=fun z=>by rw[z,hd5] at hm5;cases hm5
  have hdH:H d=none:=fd45.free hd5;have ha6:HallAt c_Hall H6 h d bl (zs.map (·.2)):=⟨⟨dx,i1⟩,i2⟩
  have hhH:H h=none:=fd45.free hh;have fd6:=fd45.same s6;have hm6:=s6 _ _ hm5;have rl6:=rl45.same s6;clear i1 i2 i3 hd hd5 s6 hdx n fd5 fd45 rl45 hm5 rl5 hL;have wl:(zs0.map (·.2)).length<=55:=by rw[Ac];exact len55
  have pm:(zs.map (·.2)).Perm (zs0.map (·.2)):=perm.map _;have rl60:(zs.map (·.2)).length<=60:=by rw[Ac];exact hlen5
  clear fd2' fd3' fd1 fd4 rl4 hm4 s4 rl0 rl6 hlen5 hm0 hm1 len0 len60 len55 hL0;generalize zs0.map (·.2)=W at hl0 hm6 wl pm;generalize zs.map (·.2)=R0 at ha6 hl5 pm rl60;refine⟨_,rfl,_,rfl,_,rfl,by show 2<=sizeLine;decide,fun M1 hM1=>?_⟩;have sM:=(Same.refl H6).new (o:=.lst [.int 6,.int 20]) hM1;have fdM:=fd6.same sM;have hM1a:M1≠a:=(F.na (fd6.free hM1)).symm;refine⟨_,rfl,a,b,_,rfl,fdM.feed,by decide,by decide,fun r2 H7 r20 r21 fd7=>?_⟩;have hat2:∃m0:Int,atI [V.int 6,V.int 20] r2=some (.int m0)/\0<=m0/\m0<=20:=by
   have e:r2=0\/r2=1:=by lia
   rcases e with rfl|rfl
   ·exact⟨6,rfl,by decide,by decide⟩
   ·exact⟨20,rfl,by decide,by decide⟩
  obtain⟨n2,hat2,hn0,hn1⟩:=hat2;refine .inl ⟨M1,_,r2,_,rfl,rfl,SqL.of (fd7.at q0b hM1a),hat2,?_⟩;have fdM7:=fdM.trans fd7;have hm7:=z2f (sM _ _ hm6) fdM.feed fd7;have ha7:=z4y (ha6.same sM) fdM.feed fd7;clear hat2 hM1a;refine⟨a,b,m,bl,W,n2,rfl,fdM7.feed,hm7,hl0,by lia,hn0,hn1,fun T1 R S zs ds H8 I hT1 hT1n=>?_⟩;have hm8:=z2f hm7 fdM7.feed I.fd;have ha8:=z4y ha7 fdM7.feed I.fd;have fd8:=fdM7.trans I.fd;refine⟨T1,_,rfl,SqT.of hT1,rfl,_,_,rfl,_,_,rfl,rfl,?_⟩;have hR8:=I.r;have hS8:=I.s;have ok:=I.ok;have zl:=I.len;have dsd:∀y∈ds,y≠d:=fun y hy z=>by
   rcases I.dn y hy with e|e
   ·exact mnd (e▸z)
   ·rw[z,ha7.d] at e;cases e
  clear I hT1 hT1n fd7 fdM7 hm7 ha7 sM fdM hm6 ha6 fd6;have okR:WkOk bl R0 (zs.map (·.2)):=ok.perm pm;have wlen:∀xs:List Mv,(wk W xs).length<=55:=fun xs=>by rw[z0o];exact wl
  have hdl:∀{xs:List Mv},WkOk bl W xs->∀{rr:List Rw},rr.Perm (wk W xs)->(rr.map (·.1)).Nodup/\(∀r∈rr,okP r.1)/\rr.length<64:=fun{xs} o {rr} p =>
   ⟨(o.fin.perm p).paths,(o.fin.perm p).ok,by have:=p.length_eq;have:=wlen xs;lia⟩
  have okN0:WkOk bl W []:=hl0;obtain⟨y,hrun,hrdy,hyb⟩:=chk_ok w zl;have ezl:(zs.map fun z=>V.ref z.1).length=zs.length:=Ac _;refine⟨_,rfl,_,_,rfl,.inl ⟨_,SqL.of hR8.at_,rfl⟩,_,_,rfl,_,rfl,_,_,rfl,.inl ⟨_,SqL.of hR8.at_,rfl⟩,_,_,rfl,rfl,⟨by decide,by decide⟩,_,rfl,_,_,rfl,.inl ⟨_,SqL.of hR8.at_,rfl⟩,by show 4<=sizeLine;decide,fun Lq hLq=>?_⟩;rw[ezl];refine⟨Lq,four zs.length,y,rfl,q0b,hrun,fun Sq hSq=>⟨Sq,y,rfl,q0b,hrdy,fun L5 ks hL5 hks hkl=>?_⟩⟩;have s9:=(((Same.refl H8).new hLq).new hSq).new (o:=.lst (ks.map V.int)) hL5;have h9:=z8d (o:=.lst (ks.map V.int)) hL5;generalize upd (upd (upd H8 Lq _) Sq _) L5 _=H9 at s9 h9 ⊢;have hR9:=hR8.same s9;have hS9:=hS8.same s9;have ha9:=ha8.same s9;have hm9:=s9 _ _ hm8;have fd9:=fd8.same s9;clear hR8 hS8 ha8 hm8 fd8 s9 hrun hrdy;refine .inl ⟨L5,rfl,⟨_,SqL.of h9⟩,?_⟩;refine z0c (xs:=ks.map V.int) (fun j σ' H'=>∃x7 x8 x9,σ'=[some (.ref a),some (.bl bl),some (.ref L0),some (.ref m),some (.ref h),some (.ref R),some (.ref S),x7,x8,x9]/\Same H9 H') ⟨none,none,none,rfl,Same.refl _⟩ (fun j σ' H' _ x=>by obtain⟨_,_,_,_,s'⟩:=x;exact SqL.of (s' _ _ h9)) ?_ ?_
  ·rintro j v σ' HA hv ⟨x7,x8,x9,rfl,sA⟩;rw[Ao] at hv;obtain⟨k0,hk0,rfl⟩:=Gp.mp hv;obtain⟨kb0,kb1⟩:=hyb k0 (hks k0 (Ay hk0));obtain⟨n,rfl⟩:=Int.eq_ofNat_of_zero_le kb0;have hn:n<=zs.length:=by lia
   have ct:cutV (zs.map fun z=>V.ref z.1) none (some (n:Int))=(zs.map fun z=>V.ref z.1).take n:=by
    have:=z9y (xs:=zs.map fun z=>V.ref z.1) (i:=(n:Int)) (by lia) (by rw[ezl];lia);rw[this];rfl
   have tms:(zs.take n).map (·.2)=(zs.map (·.2)).take n:=Ge;refine⟨_,rfl,_,rfl,_,rfl,.inr (.inl ⟨R,_,rfl,SqL.of (hR9.same sA).at_,fun L3 hL3=>?_⟩)⟩;rw[ct];have s3:=(Same.refl HA).new (o:=.lst ((zs.map fun z=>V.ref z.1).take n)) hL3;refine⟨L3,_,rfl,.inl (SqL.of q0b),fun M hM=>?_⟩;have s4:=s3.new (o:=.lst ((zs.map fun z=>V.ref z.1).take n)) hM;have e4:=q0b (H:=upd HA L3 (.lst ((zs.map fun z=>V.ref z.1).take n))) (a:=M) (o:=.lst ((zs.map fun z=>V.ref z.1).take n));generalize upd (upd HA L3 _) M _=HB at s4 e4 ⊢;have hMA:HA M=none:=s3.free hM;have sB:=sA.trans s4;have hM9:H9 M=none:=sA.free hMA;have mlM:ML HB M (zs.take n):=z5f (hR9.same sB) e4;refine⟨_,rfl,_,rfl,h,d,M,bl,R0,zs.take n,rfl,ha9.same sB,rl60,mlM,by rw[tms];exact(okR.take n).1,fun h1 d1 rows1 HC sC hn1 hd1 hall1 pm1=>?_⟩;rw[tms] at pm1;have pE:rows1.Perm (wk W ((zs.map (·.2)).take n)):=pm1.trans (q9s _ pm);obtain⟨dx1,hi1⟩:=hall1.i;have sBC:=sB.trans sC;refine⟨fun bb H'=>bb=false/\Same HC H',?_,?_⟩;rotate_left
   ·refine⟨_,rfl,_,rfl,_,rfl,_,rfl,.inr (.inl ⟨R,_,rfl,SqL.of (hR9.same sBC).at_,fun L4 hL4=>?_⟩)⟩;rw[ct];have sD:=(Same.refl HC).new (o:=.lst ((zs.map fun z=>V.ref z.1).take n)) hL4;refine ne_row ((mlM.same sC).same sD) (z5f ((hR9.same sBC).same sD) q0b) (by rw[tms];exact z5c (okR.take n).1) ⟨_,rfl,iteF ?_⟩;refine⟨_,rfl,h1,c_Hall,dx1,_,rfl,sD _ _ hi1,isi,true,rfl,iteF ?_⟩;exact⟨_,rfl,h1,dx1,_,rfl,sD _ _ hi1,rfl,h1,d1,bl,rows1,rfl,hall1.same sD,_,rfl,.inl ⟨rfl,_,rfl,by simp,sD⟩⟩
   rintro bb HD ⟨rfl,sD⟩;refine iteF ?_;have hM4:=sD _ _ (sC _ _ mlM.at_);have sBD:=sBC.trans sD;refine⟨_,rfl,.inl ⟨rfl,_,SqL.of hM4⟩,M,_,rfl,rfl,hM4,?_⟩;have kE:∀x u,x≠M->HD x=some u->upd HD M (.lst []) x=some u:=fun x u n e=>by rw[q0c n];exact e
   have sE:Same H9 (upd HD M (.lst [])):=fun x u e=>kE x u (fun z=>by rw[z,hM9] at e;cases e) (sBD _ _ e);have hall1E:HallAt c_Hall (upd HD M (.lst [])) h1 d1 bl rows1:=by
    obtain⟨⟨dx2,e2⟩,e3⟩:=hall1.same sD;exact⟨⟨dx2,kE _ _ (fun z=>by rw[z,hM4] at e2;cases e2) e2⟩,kE _ _ (fun z=>by rw[z,hM4] at e3;cases e3) e3⟩
   generalize upd HD M (.lst [])=HE at sE hall1E ⊢;have hSE:=hS9.same sE;obtain⟨dn,hdn⟩:∃dn,ds[n]?=some dn:=⟨ds[n]'(by have:=hSE.len;rw[Ac] at this;lia),Iz _⟩
   have hdE:=hSE.pr n dn hdn;refine⟨fun bb H'=>bb=false/\Same HE H',?_,?_⟩
   ·rintro bb HF ⟨rfl,sF⟩;exact iteF ⟨_,_,_,rfl,sE.trans sF⟩
   have q1:=hdl (ok.take n).1 (rr:=rows1) pE;refine⟨_,rfl,_,rfl,_,rfl,.inl ⟨S,_,(n:Int),.ref dn,rfl,rfl,SqL.of hSE.at_,z8n (by rw[Ao,hdn];rfl),h1,dn,d1,bl,rows1,_,rfl,hall1E,hdE,pE.symm,q1.1,q1.2.1,q1.2.2,fun HF sF=>⟨true,rfl,iteF ?_⟩⟩⟩;have q0:=hdl okN0 (rr:=R0) pm;exact⟨_,rfl,_,rfl,h,m,d,bl,R0,W,rfl,(ha9.same sE).same sF,sF _ _ (sE _ _ hm9),pm.symm,q0.1,q0.2.1,q0.2.2,fun HG sG=>⟨true,rfl,rfl,sF.trans sG⟩⟩
  rintro σ' HA ⟨x7,x8,x9,rfl,sA⟩;have ha':=ha9.same sA;have hm':=sA _ _ hm9;have hS':=hS9.same sA;have hR':=hR9.same sA;have fdA:=fd9.same sA;clear hR9 hS9 ha9 hm9 fd9 h9 sA hks hkl hyb;generalize hms:zs.map (·.2)=ms at *;have mlen:ms.length=zs.length:=by rw[<- hms,Ac]
  have hSl:=hS'.len;obtain⟨di,dl,hds⟩:∃di dl,ds=di++[dl]:=⟨ds.dropLast,ds.getLast (fun z=>by rw[z] at hSl;cases hSl),(He _).symm⟩
  have hdi:di.length=ms.length:=by rw[hds,An,Dc] at hSl;lia
  have hdl':HA dl=some (dR ((wk W ms).map rR)):=by
   have:=hS'.pr ms.length dl (by rw[hds,Fg (by lia),hdi,Nat.sub_self];rfl);rw[Bh] at this;exact this
  have dld:dl≠d:=dsd dl (by rw[hds];simp);have atl:atI (ds.map V.ref) (-1)=some (.ref dl):=by rw[hds,Av];exact z5t _ _
  have okE:=hdl ok (rr:=wk W ms) (Ob _);have okW:=hdl okN0 (rr:=W) (Ob _);refine⟨fun bb H'=>Same HA H'/\(bb=false->(∀r∈W,r.1≠[ZN])/\∀r∈wk W ms,r.1≠[ZN]),?_,?_⟩;rotate_left
  ·refine .inr (.inl ⟨_,_,rfl,rfl,z5e,?_⟩);rw[q8y];refine⟨by show 1<=sizeLine;decide,fun t1 ht1=>?_⟩;have s1:=(Same.refl HA).new (o:=.tup [.str (mk ZN)]) ht1;have e1:upd HA t1 (.tup [.str (mk ZN)]) t1=some (.tup (vP [ZN])):=q0b;generalize upd HA t1 (.tup [.str (mk ZN)])=H1 at s1 e1;refine⟨_,rfl,m,_,rfl,q4j (s1 _ _ hm') e1,_,rfl,?_⟩;cases hv1:valV ((W.map rR).map fun r=>(kP r.1,r.2)) (kP [ZN]) with
   |some v=>exact iteT ⟨s1,fun z=>by cases z⟩
   |none =>
    refine iteF (.inr (.inl ⟨_,_,rfl,rfl,z5e,?_⟩));rw[q8y];refine⟨by show 1<=sizeLine;decide,fun t2 ht2=>?_⟩;have s2:=s1.new (o:=.tup [.str (mk ZN)]) ht2;have e2:upd H1 t2 (.tup [.str (mk ZN)]) t2=some (.tup (vP [ZN])):=q0b;generalize upd H1 t2 (.tup [.str (mk ZN)])=H2 at s2 e2;refine⟨_,rfl,_,rfl,.inl ⟨S,_,-1,_,rfl,rfl,SqL.of (s2 _ _ hS'.at_),atl,dl,_,rfl,q4j (s2 _ _ hdl') e2,_,rfl,s2,?_⟩⟩;intro z;have hv2:valV (((wk W ms).map rR).map fun r=>(kP r.1,r.2)) (kP [ZN])=none:=by
     cases h:valV (((wk W ms).map rR).map fun r=>(kP r.1,r.2)) (kP [ZN]) with
     |none=>rfl
     |some v=>rw[h] at z;cases z
    exact⟨no_z okW.1 hv1,no_z okE.1 hv2⟩
  rintro bb HB ⟨sB,hz⟩;have fdB:=fdA.same sB;refine ite2 (fun _=>k _ fdB) (fun hbb=>?_);obtain⟨z1,z2⟩:=hz (Bool.eq_false_iff.mpr hbb);refine⟨fun v H'=>v=.bl true/\Fd a b H H',fun v H' ⟨e,fd⟩=>by rw[e];exact k _ fd,?_⟩;have haB:=ha'.same sB;have hmB:=sB _ _ hm';have hRB:=hR'.same sB;have hlR:Hl bl R0:=hl0.perm pm;have zR:∀r∈R0,r.1≠[ZN]:=fun r hr=>z1 r (pm.mem_iff.mp hr);have lR:R0.length<60:=by rw[pm.length_eq];lia
  refine⟨_,rfl,_,rfl,_,rfl,h,d,R,bl,R0,zs,rfl,haB,rl60,hRB,by rw[hms];exact okR,fun h1 d1 rows1 HC sC hn1 hd1 hall1 pm1=>?_⟩;rw[hms] at pm1;have pE:rows1.Perm (wk W ms):=pm1.trans (q9s _ pm);have hl1:Hl bl rows1:=ok.fin.perm pE;have haC:=haB.same sC;have hmC:=sC _ _ hmB;have hdlC:=sC _ _ (sB _ _ hdl');have fdC:=fdB.same sC;have nm1:m≠d1:=fun z=>by rw[<- z,hmB] at hd1;cases hd1
  have nd1:d≠d1:=fun z=>by rw[<- z,haB.d] at hd1;cases hd1
  refine⟨_,rfl,_,rfl,_,rfl,.inl ⟨S,_,-1,_,rfl,rfl,SqL.of (sC _ _ (sB _ _ hS'.at_)),atl,h,d,h1,d1,m,dl,bl,R0,rows1,W,wk W ms,rfl,haC,hall1,hlR,hl1,lR,by rw[pE.length_eq];have:=wlen ms;lia,hmC,pm.symm,hdlC,pE.symm,⟨mnd,dld,nm1,nd1⟩,zR,fun r hr=>z2 r (pE.mem_iff.mp hr),fun HD rows2 kp2 ha2 pm2=>⟨true,rfl,iteT ?_⟩⟩⟩;have fdD:Fd a b H HD:=z5g fdB hdH haB.d hd1 fun x u n1 n2 e=>kp2 x u n1 n2 (sC _ _ e);have hmD:=kp2 _ _ mnd nm1 hmC;have pm2':rows2.Perm W:=pm2.trans pm;have hl2:Hl bl rows2:=hl0.perm pm2';have l2:rows2.length<60:=by rw[pm2.length_eq];exact lR
  have zr2:∀r∈rows2,r.1≠[ZN]:=fun r hr=>z1 r (pm2'.mem_iff.mp hr);refine⟨_,rfl,_,rfl,by show 0<=sizeLine;decide,fun Le hLe=>?_⟩;have sE:=(Same.refl HD).new (o:=.lst []) hLe;have eE:=z8d (o:=.lst []) hLe;generalize upd HD Le (.lst [])=HE at sE eE ⊢;have haE:=ha2.same sE;have hmE:=sE _ _ hmD;refine⟨h,d,Le,bl,rows2,[],rfl,haE,by lia,⟨eE,(fun _ h=>nomatch h)⟩,hl2,fun h2 d2 rows3 HF sF hn2 hd2 hall2 pm3=>?_⟩;have pm3:rows3.Perm rows2:=pm3;have fdE:=fdD.same sE;have hl3:Hl bl rows3:=hl2.perm pm3;have nm2:m≠d2:=fun z=>by rw[<- z,hmE] at hd2;cases hd2
  have nd2:d≠d2:=fun z=>by rw[<- z,haE.d] at hd2;cases hd2
  refine⟨_,rfl,_,rfl,h,d,h2,d2,m,m,bl,rows2,rows3,W,W,rfl,haE.same sF,hall2,hl2,hl3,l2,by rw[pm3.length_eq];exact l2,sF _ _ hmE,pm2'.symm,sF _ _ hmE,(pm3.trans pm2').symm,⟨mnd,mnd,nm2,nd2⟩,zr2,fun r hr=>zr2 r (pm3.mem_iff.mp hr),fun HG rows4 kp4 ha4 pm4=>⟨rfl,?_⟩⟩;exact z5g fdE hdH haE.d hd2 fun x u n1 n2 e=>kp4 x u n1 n2 (sF _ _ e)
end
end K
set_option maxHeartbeats 4000000
namespace K
open PySem L2 TX SB HM PM
section
variable{P:Program}{w:World}{K:Af}{mg:Str->Option Value}{base:Heap}
structure CallsL (P:Program) (w:World) (K:Af) (mg:Str->Option Value) (base:Heap):Prop where
 one:Cal P w K mg base "_law_one" 8 ["_law_feed"] spOne
def spLaw(K:Af):Sp:=fun vs H Q _=>∃(a:Addr) (ns:List Int),vs=[.ref a]/\SqL K H a (ns.map V.int)/\ns.length<=63/\∀H',Q (.bl true) H'
abbrev q2u:Stmt:=top 35
theorem sc_law:FnScope ["_law_script", "_law_feed", "_law_k"] ["_law_script"] (defScope q2u):=by trivial
theorem z7l(T:Txt mg)(C:CallsL P w K mg base)(f:Addr)(cdv:Value)(A:Around)(outer:List Env)(s:Ad)(H:Hp)(vs:List V)(Q:VK)(E:XK)(hr:Room 8 (A.deeper (PyProof.Rows.envOfC "law" (defScope q2u) s.heap.objs.size f cdv)))(h:spLaw K vs H Q E):
  ∃t,PSs (cxOf CX0 P w K mg base ["_law_script", "_law_feed", "_law_k"] "law" (defScope q2u) f cdv A outer s H E).nox (defBody q2u) t/\t { nx:=fun _ H'=>Q .non H',rt:=Q } (L2.start ["_law_script", "_law_feed", "_law_k"] vs) H:=by
  obtain⟨sc,ns,rfl,hS,hns,k⟩:=h;refine⟨_,(q0e (q0l (i:=1) sc_law.nd rfl (by trivial) (q1r (q0a (q2k (z3h K rfl) (by rfl) T.b_list (by decide +kernel) (q0a (pv 0) q0d)) (q0a q0g (q0a q0g q0d))))) (q0e (q3d Cr rfl (q3l rfl T.b_range (q0a (q0i (z2t rfl) (by rfl) T.b_max (by decide +kernel) (q0a q0g (q0a (q0i (q7j rfl) (by rfl) T.b_min (by decide +kernel) (q0a q0g (q0a (q0i (q2m K rfl) (by rfl) T.b_len Bo (q0a (pv 0) q0d)) q0d))) q0d))) q0d)) (q0o (i:=2) sc_law.nd rfl (by trivial)) (q0f (q0w (q3c (@q2z _ _ _ K rfl (pe_c C.one hr (q0a (pv 1) q0d)) (fun _=>rfl))) (q0f (q0k q3u)) q0j))) (q0f (q0k q3u)))),?_⟩;refine⟨_,rfl,sc,_,rfl,.inl hS,fun b hb=>⟨by show 3<=sizeLine;decide,fun a ha=>?_⟩⟩;have nba:b≠a:=q0h q0b ha;have F:FeedAt (upd (upd H b (.lst (ns.map V.int))) a (.lst [.ref b,.int 0,.int 0])) a b:=⟨⟨0,0,q0b⟩,ns,by rw[q0c nba];exact q0b⟩
  have sS:Same H (upd (upd H b (.lst (ns.map V.int))) a (.lst [.ref b,.int 0,.int 0])):=((Same.refl H).new hb).new ha;generalize hH1:upd (upd H b _) a _=H1;rw[hH1] at F sS;refine⟨_,rfl,_,_,rfl,.inl ⟨_,sS.seq hS,rfl⟩,?_⟩;refine⟨_,_,rfl,_,_,rfl,_,rfl,?_,?_,q4w (fun i σ' H'=>∃x2,σ'=[some (.ref sc),some (.ref a),x2]/\Fd a b H1 H') ⟨none,rfl,Fd.refl F⟩ ?_ ?_⟩
  ·rw[Ac];split<;>split<;>lia
  ·rw[Ac];split<;>split<;>lia
  ·rintro i σ' H' hi ⟨x2,rfl,fd⟩;exact⟨_,rfl,a,b,rfl,fd.feed,fun H2 fd2=>⟨true,rfl,iteF ⟨_,rfl,fd.trans fd2⟩⟩⟩
  ·rintro σ' H' ⟨x2,rfl,fd⟩;exact k _
end
end K
set_option maxHeartbeats 4000000
namespace K
open PySem L2 TX SB HM PM
theorem df_mk{K:Af}{mg:Str->Option Value}{h:Heap}{x:Str}{st:Stmt}{ps:List Str}{f:Addr}{oc:Value}{od an:Option Addr}{osl:Array (Option Value)}{kV doc pm cdv ct:Value}(X:K.In h)(G:h.Ns Ci mg)(a:W.nsIn K Ci x=some (some (.ref f)))(l:K.lookup f=some ⟨oc,od,.func (Gy x x (defArgs st) (defBody st) (defScope st) .none kV doc pm an cdv ct),osl⟩)(c:Js K cdv x=true)(k:Gm K (.ref f)=true)(hb:∀(kV doc pm:Value) (an:Option Addr) (cdv ct:Value) (us:List Value),us.length=ps.length->bindArgs (Gy x x (defArgs st) (defBody st) (defScope st) .none kV doc pm an cdv ct) ⟨us,[]⟩=pure (ps.zip us)):Df K mg x st ps :=
 ⟨f,_,q7u l c k,Sg X G a,(q7u (st:=st) l c k).binds hb⟩
theorem mf_mk{K:Af}{C:Addr}{m qual:Str}{st:Stmt}{ps:List Str}{f:Addr}{oc:Value}{od an:Option Addr}{osl:Array (Option Value)}{kV doc pm cdv ct:Value}(a:Dk K (.ref C) m=some (some (.ref f)))(l:K.lookup f=some ⟨oc,od,.func (Gy m qual (defArgs st) (defBody st) (defScope st) .none kV doc pm an cdv ct),osl⟩)(c:Js K cdv qual=true)(k:Gm K (.ref f)=true)(i:Rn K (.ref f)=true)(hb:∀(kV doc pm:Value) (an:Option Addr) (cdv ct:Value) (us:List Value),us.length=ps.length->bindArgs (Gy m qual (defArgs st) (defBody st) (defScope st) .none kV doc pm an cdv ct) ⟨us,[]⟩=pure (ps.zip us)):Mf K C m qual st ps :=
 ⟨⟨f,_,q7u l c k,⟨a,i,k⟩,(q7u (st:=st) l c k).binds hb⟩⟩
theorem len_1{us:List Value}(h:us.length=1):∃x0,us=[x0]:=by
 match us,h with
 |[x0],_=>exact⟨x0,rfl⟩
theorem len_2{us:List Value}(h:us.length=2):∃x0 x1,us=[x0,x1]:=by
 match us,h with
 |[x0,x1],_=>exact⟨x0,x1,rfl⟩
theorem len_3{us:List Value}(h:us.length=3):∃x0 x1 x2,us=[x0,x1,x2]:=by
 match us,h with
 |[x0,x1,x2],_=>exact⟨x0,x1,x2,rfl⟩
theorem len_4{us:List Value}(h:us.length=4):∃x0 x1 x2 x3,us=[x0,x1,x2,x3]:=by
 match us,h with
 |[x0,x1,x2,x3],_=>exact⟨x0,x1,x2,x3,rfl⟩
theorem len_5{us:List Value}(h:us.length=5):∃x0 x1 x2 x3 x4,us=[x0,x1,x2,x3,x4]:=by
 match us,h with
 |[x0,x1,x2,x3,x4],_=>exact⟨x0,x1,x2,x3,x4,rfl⟩
theorem all_mk{lw:Sl}{w:World}{K:Af}{h:Heap}{mg:Str->Option Value}{fa:Addr}(X:K.In h)(G:h.Ns Ci mg)(hfa:mg "law" = some (.ref fa)){f18:Addr}{od18 an18:Option Addr}{sl18:Array (Option Value)}{oc18 kV18 dc18 pm18 cd18 ct18:Value}{cHall:Addr}{fminit:Addr}{odminit anminit:Option Addr}{slminit:Array (Option Value)}{ocminit kVminit dcminit pmminit cdminit ctminit:Value}{dtminit:Addr}{tdminit:Option Addr}{tsminit:Array (Option Value)}{tnminit:Nat}(D_alike:Df K mg "alike" q6z ["one", "other"])(D_carried:Df K mg "carried" q4c ["path", "moved", "place"])(D_copied:Df K mg "copied" q5s ["hall"])(D_is_made:Df K mg "is_made" q4f ["hall", "path", "place"])(D_walk:Df K mg "walk" q9x ["hall", "row"])(D_draw:Df K mg "_law_draw" q9u ["_law_feed", "_law_many"])(D_name:Df K mg "_law_name" q9v ["_law_feed"])(D_folded:Df K mg "_law_folded" q5q ["_law_path", "_law_blind"])(D_rows:Df K mg "_law_rows" q9w ["_law_feed", "_law_blind", "_law_most"])(D_mixed:Df K mg "_law_mixed" q6y ["_law_feed", "_law_rows_here"])(D_rows_right:Df K mg "_law_rows_right" q2g ["_law_hall", "_law_marks"])(D_there:Df K mg "_law_there" q7c ["_law_marks", "_law_blind", "_law_place"])(D_moved:Df K mg "_law_moved" q7d ["_law_marks", "_law_path", "_law_place"])(D_move_due:Df K mg "_law_move_due" q3i ["_law_marks", "_law_blind", "_law_path", "_law_place"])(D_goal:Df K mg "_law_goal" q9y ["_law_feed", "_law_marks", "_law_path"])(D_row:Df K mg "_law_row" z5b ["_law_feed", "_law_marks", "_law_blind", "_law_most"])(D_apart:Df K mg "_law_apart" q7f ["_law_one_here", "_law_other", "_law_marks", "_law_more"])(D_one:Df K mg "_law_one" z5h ["_law_feed"])(a18:W.nsIn K Ci "law" = some (some (.ref f18)))(l18:K.lookup f18=some ⟨oc18,od18,.func (Gy "law" "law" (defArgs q2u) (defBody q2u) (defScope q2u) .none kV18 dc18 pm18 an18 cd18 ct18),sl18⟩)(c18:Js K cd18 "law" = true)(k18:Gm K (.ref f18)=true)(T:Txt mg)(gcHall:W.nsIn K Ci "Hall" = some (some (.ref cHall)))(pgcHall:Ln K cHall Str.empty=true)(hdcHall:Mx K cHall=true)(pocHall:Qr K cHall=true)(sacHall:Dk K (.ref cHall) "__setattr__" = some (some (.builtin "object.__setattr__")))(nacHall_blind:Dk K (.ref cHall) "blind" = some none)(nacHall_marks:Dk K (.ref cHall) "marks" = some none)(iacHall:Dk K (.ref cHall) "__class__" = some (some (.builtin "object.__class__")))(ibcHall:Qs K (.builtin "object.__class__") "__get__" = some (some (.builtin "getset_descriptor.__get__")))(iccHall:Sj K (.builtin "object.__class__")=some true)(idcHall:W.mroIn K cHall (.type "object")=some true)(aminit:Dk K (.ref cHall) "__init__" = some (some (.ref fminit)))(lminit:K.lookup fminit=some ⟨ocminit,odminit,.func (Gy "__init__" "Hall.__init__" (defArgs q0q) (defBody q0q) (defScope q0q) (.ref dtminit) kVminit dcminit pmminit anminit cdminit ctminit),slminit⟩)(cminit:Js K cdminit "Hall.__init__" = true)(kminit:Gm K (.ref fminit)=true)(iminit:Rn K (.ref fminit)=true)(mkcHall:Si K cHall=true)(kccHall:Gm K (.ref cHall)=true)(tminit:K.lookup dtminit=some ⟨.type "tuple",tdminit,.seq #[.bool false] tnminit,tsminit⟩)(M_ask_drawer:Mf K cHall "ask_drawer" "Hall.ask_drawer" q1j ["self", "path"])(M_ask_thing:Mf K cHall "ask_thing" "Hall.ask_thing" q1l ["self", "path"])(M_drop:Mf K cHall "drop" "Hall.drop" q2t ["self", "path"])(M_is_blind:Mf K cHall "is_blind" "Hall.is_blind" q1p ["self"])(M_is_drawer:Mf K cHall "is_drawer" "Hall.is_drawer" q1k ["self", "path"])(M_is_one_place:Mf K cHall "is_one_place" "Hall.is_one_place" q1d ["self", "one", "other"])(M_move:Mf K cHall "move" "Hall.move" q2s ["self", "path", "place"])(M_names_in:Mf K cHall "names_in" "Hall.names_in" q1q ["self", "path"])(M_put:Mf K cHall "put" "Hall.put" q3j ["self", "path", "mark"])(M_rows:Mf K cHall "rows" "Hall.rows" q2r ["self"])(M_there:Mf K cHall "there" "Hall.there" q2f ["self", "place"]):
  ∃fd:Jq,(∀(s:Ad) (v:Value),Nl s fd ⟨[v],[]⟩ [("_law_script",v)])/\∀base:Heap,K.In base->base.Ns Ci mg->FnOk lw.prog w K mg base CX0 9 fa fd ["_law_script"] (spLaw K):=by
 have e:=hfa.symm.trans (Sg X G a18);cases e;have clcHall:Cls K cHall:=⟨pgcHall,hdcHall,pocHall,sacHall⟩
 have isi_Hall:Isi K cHall:=⟨clcHall,iacHall,ibcHall,iccHall,idcHall,by first|exact if_pos (beq_self_eq_true _)|(unfold Og;simp)⟩
 have gl_Hall:mg "Hall" = some (.ref cHall):=Sg X G gcHall;have K_Hall:Kf K mg cHall "Hall" "Hall.__init__" q0q ["self", "rows", "blind"]:=⟨⟨fminit,_,ocminit,odminit,.ref dtminit,kVminit,dcminit,pmminit,anminit,cdminit,ctminit,slminit,rfl,lminit,cminit,⟨mkcHall,aminit,iminit,kccHall⟩,fun s us Y hl=>by obtain⟨_,_,_,rfl⟩:=len_3 (by rw[Cq] at hl;exact hl:us.length=3);exact W.binds_K Y rfl tminit rfl rfl rfl,fun s us Y hl=>by obtain⟨_,_,rfl⟩:=len_2 (by rw[An] at hl;exact Nat.succ.inj hl:us.length=2);exact W.binds_K Y rfl tminit rfl rfl rfl⟩,Sg X G gcHall,clcHall⟩
 have FL:=q7u (st:=q2u) l18 c18 k18;refine⟨Gy "law" "law" (defArgs q2u) (defBody q2u) (defScope q2u) .none kV18 dc18 pm18 an18 cd18 ct18,fun s v=>.of_eq rfl,fun base _ _=>?_⟩;have hk:Hk K cHall:=⟨clcHall,nacHall_blind,nacHall_marks⟩
 have c1:=z9l (P:=lw.prog) (w:=w) (base:=base) D_draw T;have c2:=z9m (P:=lw.prog) (w:=w) (base:=base) D_name T ⟨c1⟩;have c3:=z4t (P:=lw.prog) (w:=w) (base:=base) D_folded T;have c4:=z9n (P:=lw.prog) (w:=w) (base:=base) D_rows T ⟨c1,c2,c3⟩;have c5:=z6y (P:=lw.prog) (w:=w) (base:=base) D_mixed T ⟨c1⟩;have c6:=z7a (P:=lw.prog) (w:=w) (base:=base) D_alike T;have c7:=q8s (P:=lw.prog) (w:=w) (base:=base) M_is_one_place hk T ⟨c6⟩;have c8:=z7b (P:=lw.prog) (w:=w) (base:=base) M_there hk T ⟨c7⟩;have c9:=z9o (P:=lw.prog) (w:=w) (base:=base) K_Hall hk T ⟨c8⟩;have c10:=z7d (P:=lw.prog) (w:=w) (base:=base) M_rows hk T;have c11:=z7c (P:=lw.prog) (w:=w) (base:=base) M_is_blind hk T;have c12:=z7e (P:=lw.prog) (w:=w) (base:=base) D_rows_right T ⟨c10⟩;have c13:=z2d (P:=lw.prog) (w:=w) (base:=base) D_carried T;have c14:=q8u (P:=lw.prog) (w:=w) (base:=base) M_is_drawer hk T;have c15:=q8v (P:=lw.prog) (w:=w) (base:=base) M_ask_thing hk T;have c16:=q7b (P:=lw.prog) (w:=w) (base:=base) M_ask_drawer hk T ⟨c14⟩;have c17:=z9q (P:=lw.prog) (w:=w) (base:=base) M_move hk T ⟨c13,c15,c16,c14,there1 c8⟩;have c18:=z4v (P:=lw.prog) (w:=w) (base:=base) D_there T ⟨c3⟩;have c20:=z7g (P:=lw.prog) (w:=w) (base:=base) D_moved T;have c21:=z5a (P:=lw.prog) (w:=w) (base:=base) D_copied T ⟨c10,c11,c9⟩;have c22:=z2h (P:=lw.prog) (w:=w) (base:=base) D_is_made T ⟨c17⟩;have c23:=z9r (P:=lw.prog) (w:=w) (base:=base) D_walk T ⟨c21,c22⟩;have c25:=ok_due (P:=lw.prog) (w:=w) (base:=base) D_move_due T ⟨c18⟩;have c26:=z9s (P:=lw.prog) (w:=w) (base:=base) D_goal T ⟨c1,c2⟩;have c27:=z9t (P:=lw.prog) (w:=w) (base:=base) D_row T ⟨c1,c26,c25,c20⟩;have u1:=z7h (P:=lw.prog) (w:=w) (base:=base) M_names_in hk T ⟨c16⟩;have u2:=z9w (P:=lw.prog) (w:=w) (base:=base) M_put hk T ⟨c16,there1 c8⟩;have u3:=z7i (P:=lw.prog) (w:=w) (base:=base) M_drop hk T ⟨c15,c14,u1⟩;have u4:=z7k (P:=lw.prog) (w:=w) (base:=base) D_apart T ⟨c12,u2,u3⟩;have CL:CallsL lw.prog w K mg base:=⟨ok_one D_one T gl_Hall isi_Hall ⟨c1,c4,c5,c27,c12,c23,u4,c11,c9⟩⟩
 exact FL.ok sc_law (fun vs H Q E h=>by obtain⟨a,ns,rfl,_⟩:=h;rfl) (fun cdv A outer s H vs Q E hr h=>z7l T CL _ cdv A outer s H vs Q E hr h)
theorem walk{l:Sl}{q:Program}{loose:List Str}{XP:(Str->Option Value)->Heap->Prop}{YP:World->Heap->Prop}{d:DefRec}{K:Params->Af}(hn:l.most=some 63)(hdf:d.params.defaults=[])(hY:∀(w:World) (h:Heap),YP w h->(K w.params).In h)(F:∀(w:World) (mg:Str->Option Value) (fa:Addr) (h:Heap),(K w.params).In h->h.Ns Ci mg->mg d.name=some (.ref fa) ->
   ∃fd:Jq,(∀(s:Ad) (u:Value),Nl s fd ⟨[u],[]⟩ [("_law_script",u)])/\∀base:Heap,(K w.params).In base->base.Ns Ci mg->FnOk l.prog w (K w.params) mg base CX0 9 fa fd ["_law_script"] (spLaw (K w.params))):
  W.WalkO q loose XP YP l.row.toRowW d [] (fun f vs=>Rx f vs) :=
 L2.walk_of (n:=63) (k:=9) (x := "_law_script") (CX:=fun _=>CX0) (sp:=fun w=>spLaw (K w.params)) hn (by decide) hdf ⟨rfl,by decide,by decide,rfl⟩ hY F (fun _ _ a ns hl _ hS=>⟨a,ns,rfl,hS,hl,fun _=>rfl⟩) fun _ _ _ _ _ z=>z
end K
namespace K
open PySem PySem.W PyProof.Rows
abbrev loose:List Str:=[Am "_wall",Am "HallError",Am "NoHall",Am "NoThing",Am "NoDrawer",Am "Taken",Am "Fixed",Am "NotEmpty",Am "Broken",Am "Full",Am "alike",Am "MOST_THINGS",Am "carried",Am "Hall",Am "copied",Am "is_made",Am "walk",Am "_law_draw",Am "_law_name",Am "_law_folded",Am "_law_rows",Am "_law_mixed",Am "_law_rows_right",Am "_law_there",Am "_law_moved",Am "_law_move_due",Am "_law_goal",Am "_law_row",Am "_law_apart",Am "_law_one"]
abbrev vw:Program:=view PySem.Challenge.pw_renamehall_k50_walks [35]
abbrev xt(s:Ad):Bool:=xlAt vw [] s&&recOk [] s
end K
open PySem PySem.W PyProof.Rows
local macro_rules | `(tactic| o_head $H) => `(tactic| (
  refine holds_open (q := K.vw) (loose := K.loose) (Xt := K.xt) (XP := XL K.vw []) (Yf := Hook.obs $H) (Ya := Hook.val $H) (YP := Hook.says $H) (N := 60000) ?hl (Hook.of $H) (Hook.keeps $H) (fun s e => xl_of s (Ox.mp e).1) XL.keeps
    (by rfl) (by rfl) (by rfl) (fun s e => recFacts_of (Ox.mp e).2) (by rfl) (by first | assumption | decide +kernel) (by decide +kernel) ⟨rfl, rfl, rfl, rfl, rfl, by decide +kernel⟩ ?hw ?hc))
set_option maxRecDepth 100000 in
set_option maxHeartbeats 0 in
theorem PySem.Challenge.cw_renamehall_k50_walks_holds : PySem.Challenge.rw_renamehall_k50_walks.Holds := by
  w_on; o_law; k_head; (case hw => w_witness2)
  (case hl =>
    refine HD.left (by kernel_rfl) (by rfl) (fun _ => by kernel_rfl) fun w os => ?_
    change (segRunT Qd PySem.Challenge.pw_renamehall_k50_walks w 11 (some (.ref 6)) 0 60000 (HD.bootT w.params os) (topStub PySem.Challenge.pw_renamehall_k50_walks)).map (fun r => ((staticsOk (Ih PySem.Challenge.pw_renamehall_k50_walks.main.body) (boot_heap w.params) r.2.1.abs.heap && namesBound PySem.Challenge.pw_renamehall_k50_walks r.2.1.abs.heap && gensDone r.2.1.abs && laidKept (boot_heap w.params) r.2.1.abs.heap), openSeen K.vw K.loose (Ih PySem.Challenge.pw_renamehall_k50_walks.main.body) K.xt true r.2.1.abs, _)) = some (true, openGood K.vw K.loose, _)
    unfold K.xt K.vw
    rw [PySem.W.Fast.te10110043849684766642, PySem.W.Fast.te4187177175401517315, PySem.W.Fast.te14364793385576792824, PySem.W.Fast.te5923862056798008813, PySem.W.Fast.te8417904850112984861]
    kernel_rfl)
  k_fill
  refine K.walk (l := PySem.Challenge.rw_renamehall_k50_walks) rfl rfl (fun w h Y => PySem.W.kIn_of Y) ?F
  case F =>
    intro w mg fa h KX G hmg
    refine' K.all_mk KX G hmg (K.df_mk KX G ?_ ?_ ?_ ?_ ?_) (K.df_mk KX G ?_ ?_ ?_ ?_ ?_) (K.df_mk KX G ?_ ?_ ?_ ?_ ?_) (K.df_mk KX G ?_ ?_ ?_ ?_ ?_) (K.df_mk KX G ?_ ?_ ?_ ?_ ?_) (K.df_mk KX G ?_ ?_ ?_ ?_ ?_) (K.df_mk KX G ?_ ?_ ?_ ?_ ?_) (K.df_mk KX G ?_ ?_ ?_ ?_ ?_) (K.df_mk KX G ?_ ?_ ?_ ?_ ?_) (K.df_mk KX G ?_ ?_ ?_ ?_ ?_) (K.df_mk KX G ?_ ?_ ?_ ?_ ?_) (K.df_mk KX G ?_ ?_ ?_ ?_ ?_) (K.df_mk KX G ?_ ?_ ?_ ?_ ?_) (K.df_mk KX G ?_ ?_ ?_ ?_ ?_) (K.df_mk KX G ?_ ?_ ?_ ?_ ?_) (K.df_mk KX G ?_ ?_ ?_ ?_ ?_) (K.df_mk KX G ?_ ?_ ?_ ?_ ?_) (K.df_mk KX G ?_ ?_ ?_ ?_ ?_) ?_ ?_ ?_ ?_ ⟨mg_none_of KX G ?_, mg_none_of KX G ?_, mg_none_of KX G ?_, mg_none_of KX G ?_, mg_none_of KX G ?_, mg_none_of KX G ?_, mg_none_of KX G ?_, mg_none_of KX G ?_, mg_none_of KX G ?_, mg_none_of KX G ?_, mg_none_of KX G ?_, mg_none_of KX G ?_, mg_none_of KX G ?_, mg_none_of KX G ?_, ⟨_, mg_of KX G ?_⟩⟩ ?_ ?_ ?_ ?_ ?_ ?_ ?_ ?_ ?_ ?_ ?_ ?_ ?_ ?_ ?_ ?_ ?_ ?_ ?_ (K.mf_mk ?_ ?_ ?_ ?_ ?_ ?_) (K.mf_mk ?_ ?_ ?_ ?_ ?_ ?_) (K.mf_mk ?_ ?_ ?_ ?_ ?_ ?_) (K.mf_mk ?_ ?_ ?_ ?_ ?_ ?_) (K.mf_mk ?_ ?_ ?_ ?_ ?_ ?_) (K.mf_mk ?_ ?_ ?_ ?_ ?_ ?_) (K.mf_mk ?_ ?_ ?_ ?_ ?_ ?_) (K.mf_mk ?_ ?_ ?_ ?_ ?_ ?_) (K.mf_mk ?_ ?_ ?_ ?_ ?_ ?_) (K.mf_mk ?_ ?_ ?_ ?_ ?_ ?_) (K.mf_mk ?_ ?_ ?_ ?_ ?_ ?_)
    all_goals try (first | k_is | kit_is | rfl | decide +kernel | (intro _ _ _ _ _ _ us hl; first | (obtain ⟨_, rfl⟩ := K.len_1 hl; rfl) | (obtain ⟨_, _, rfl⟩ := K.len_2 hl; rfl) | (obtain ⟨_, _, _, rfl⟩ := K.len_3 hl; rfl) | (obtain ⟨_, _, _, _, rfl⟩ := K.len_4 hl; rfl) | (obtain ⟨_, _, _, _, _, rfl⟩ := K.len_5 hl; rfl) | (cases us with | nil => rfl | cons _ _ => cases hl)))
