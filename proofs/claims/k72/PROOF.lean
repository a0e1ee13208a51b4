import PyProof.Rows.All
import Wide.All
import OpenK.AllK
import Wide.FinOn
import Lean
import PyProof.EqAt
import PyProof.EqKinds
import PyProof.TupleCall
import PySem.Challenge.RW_renamehall_k72_not_held_against
import KE.IntTextLaws
import KE.KIsAll
import PyProof.ExcArgsOwn
import PyProof.ExcBaseAll.ValueError
import PyProof.ExcClass2
import PyProof.ExcInit
import PyProof.InstStore
import PyProof.Rows.CatchBare
import PyProof.Rows.CatchOwn
import PyProof.StationsW
import PyProof.SumWalk
import PyProof.ReprRoads
set_option Elab.async false
set_option linter.all false
set_option maxRecDepth 100000
local macro_rules|`(tactic|trivial)=>`(tactic|first|exact Or.inl rfl|exact Or.inr rfl|fail)
local macro_rules|`(tactic|trivial)=>`(tactic|first|(refine⟨rfl,rfl,rfl,?_,rfl,?_,?_⟩<;>decide +kernel)|fail)
open Array renaming getElem?_eq_some_iff→Ed,length_toList→Ip,find?_toList→Lj,mem_toList_iff→Ou,append_assoc→Pu,toList_map→Rn
open Bool renaming false_ne_true→Bl,and_self→Ew,and_eq_true→Ib,eq_iff_iff→Iu,or_true→Je,and_eq_true_iff→Kv,eq_false_iff→Qz
open Classical renaming byContradiction→Cu
open Int renaming emod_lt_of_pos→Jb,emod_nonneg→Kn,natCast_mul→Nk,natAbs_natCast→Qg
open List renaming length_append→Ad,length_map→Ag,getElem?_eq_some_iff→Ai,mem_singleton→Al,mem_cons_of_mem→Am,mem_cons_self→Ao,mem_cons→Ap,mem_of_getElem?→As,length_cons→Av,getElem?_eq_getElem→Aw,mem_append_right→Ay,mem_append→Az,size_toArray→Ba,map_cons→Bc,map_append→Bf,length_singleton→Bg,append_nil→Bi,getElem?_append_left→Bj,getElem?_map→Bk,getElem?_append_right→Bp,not_mem_nil→Bq,length_take→Bt,take_length→Cc,take_of_length_le→Ce,length_drop→Cf,mem_map→Ci,length_filter_le→Cj,mem_append_left→Co,dropLast_concat_getLast→Cv,append_assoc→Cw,length_pos_iff→De,flatten_cons→Dg,mem_filter→Dw,take_append_of_le_length→Ei,mem_of_mem_take→Em,map_map→Es,getD_eq_getElem?_getD→Ex,filter_cons→Ey,foldl_cons→Fj,foldl_append→Fq,flatten_append→Fw,mem_flatten→Fz,filter_append→Ga,contains_cons→Ge,take_sublist→Gj,drop_length→Hb,nodup_cons→Hg,find?_cons→Hi,getElem?_drop→Hl,take_succ→Hr,take_append_drop→Ht,take_length_add_append→Hz,lookup_cons→Ie,mem_iff_getElem→Ii,length_nil→Iv,drop_eq_getElem_cons→Iw,take_zero→Jl,length_replicate→Kb,mem_iff_getElem?→Kf,getElem?_set_ne→Kg,filterMap_cons→Kw,replicate_succ→Ky,map_congr_left→La,getElem?_take_of_lt→Mn,all_eq_true→Mp,cons_append→Mt,mem_flatMap→Mw,any_eq_true→Mx,getLast_eq_getElem→Nb,filter_cons_of_pos→Nc,of_mem_zip→Ng,getElem?_set_self→Nm,drop_of_length_le→Nw,append_eq_nil_iff→Nx,getElem?_eq_none→Oq,length_dropLast→Pa,getLast?_concat→Pb,any_cons→Pd,sum_cons→Pe,length_reverse→Pj,flatMap_append→Pl,take_succ_cons→Pn,mem_filterMap→Qa,append_of_mem→Qm,any_eq_false→Qq,reverse_cons→Qs,getLast_mem→Rm,flatMap_def→Ro
open List.Sublist renaming length_le→Jv
open Nat renaming le_refl→Aj,le_trans→Aq,zero_le→Ax,lt_of_lt_of_le→Bh,ne_of_lt→By,le_of_eq→Er,pow_le_pow_right→Fl,lt_succ_iff_lt_or_eq→Fm,lt_or_ge→Gf,lt_irrefl→Gh,le_succ_of_le→Gk,ne_of_gt→Gv,not_lt→Hk,le_succ→Hm,min_le_right→Ih,le_of_not_lt→Ij,pow_succ→Jd,eq_zero_or_pos→Jf,succ_le_succ→Jz,mul_le_mul_right→Ks,sub_self→Kt,lt_of_le_of_lt→Lm,add_sub_cancel→Lr,lt_succ_self→Mk,not_lt_zero→Nj,min_le_left→Nl,le_of_ble_eq_true→Om,pow_le_pow_left→Pm,le_of_lt→Px,mul_comm→Qd,add_zero→Qk,lt_or_eq_of_le→Ql,le_of_lt_succ→Ra,lt_succ_of_lt→Rb
open Ne renaming symm→Dm
open Option renaming map_eq_some_iff→Br,bind_some→Ez,isSome_iff_exists→Gx,isSome_map→Lx,map_some→Ni,getD_none→Ri
open Option.some renaming inj→Cg
open PyProof.Rows renaming callWith_type1→Dk,slot_tuple_getitem→Hd,envOfC→Hh,AllBare→Jg,callWith_builtin1→Kj,assignInOrder_cons→Li,upper_ascii→Mv,subscriptTail_builtinR→Nq,IntsAre→Qn,assignInOrder_nil→Qp,Subscript_→Rq
open PyProof.Rows.IsTup renaming new→Sb
open PySem renaming wpAny_bind→Ac,Shared→Ah,wpAny_pure→Ak,starEach→Bd,NameKind→Be,boot_len→Bm,wpAny_mono→Bu,wpAny_field→Bv,wpAny_standAt→Bz,mainGlobals→Cb,excClassObj→Cy,compareOp→Cz,wpAny_setField_rec→Di,wpAny_callSpecial?_slot→Dl,compEnvC→Dp,wpAny_newObj_type→Dq,wpAny_loadPart_at→Ds,wpAny_holding→Du,wpAny_call_entry→Ej,codeAny_call_builtin→El,importedModules→En,Builtin→Eo,mem_of_lookup→Ep,wpAny_Call_Name_kw→Fc,sizeLine_eq→Fe,sysModules→Ff,bootBuiltins→Fg,rawInt→Fh,wpAny_call→Fi,wpAny_truthy_bool→Fo,foldedSetIterable→Fp,wpAny_attempt→Fs,codeAny→Fx,wpAny_passesOwn→Gg,binaryOp→Gi,strIterType→Gp,wpAny_seqItems→Gr,Paired→Gs,backTo→Gu,codeAny_mono→Gw,wpAny_isSubtype_exc→Hc,behindInMarks→Hf,builtinLookup_eq_fast→Hu,isSubtype_type→Hv,assignEach→Ia,call_meets→Ic,attributeBase→Ik,find?_eq_fast→Il,sliceBounds→Io,wpAny_execs_nil→Iq,letOwnedTupleGo→Ir,wpAny_comprehension_free→Ja,tupleKind_room_in1→Jc,wpAny_rule→Jh,wpAny_setField→Ji,intText?→Jj,pyIter→Jr,IsPair→Jt,wpAny_of_eq→Ju,FuncData→Jw,checkBuiltinCall→Jx,OsState→Kd,pyNext→Kh,typeIs_str→Kk,wpAny_updateSeq_pair→Kl,typeLookup_type→Ko,codeAny_of_tree→Kp,ExcBaseFacts→Kr,holding→Lb,OwnTail→Ld,wpAny_letGo→Lg,tupleKind→Lh,DictEntry→Lk,IsPart→Ll,treeTable→Lq,wpAny_onRaise→Lu,typeLookup→Ma,codeAny_call_builtin_code→Me,wpAny_check_type_call_sub→Mf,standAt→Mh,callerA→Mi,wpAny_execs_cons→Mj,wpAny_isInstance→Ms,GenState→Mu,codeAny_call_builtin_at→Na,swapsWith→Nf,wpAny_tests_nil→Nh,seqIndex_of→Nn,subscripted→Np,wpAny_getItem_list_neg→Nr,codeAny_compStart_list→Nu,wpAny_isTrue_Compare1→Ny,BindsTo→Oa,isSubtype_stop→Oc,wpAny_typeLookup_tail→Oe,wpAny_loadPart→Og,wpAny_loadName_local→Ot,PlainAttrs→Ov,wpAny_newFunctionEnv→Ow,wpAny_check_new_subT→Ox,codeAny_exc_new_subT→Oy,wpAny_loadName_cell→Ph,Within→Pr,inplaceOp→Py,PassesOwn→Pz,codeAny_loop→Qe,wpAny_assign_Name→Qo,wpAny_pyIter_list→Qt,wpAny_pyIter_strU→Qv,wpAny_pyIter_enum→Qw,keywordEach→Rf,wpAny_noted→Rg,entryFor→Rl,wpAny_Name→Rp,typeIs_int→Rr,call→Ru,closureFor→Rx,refuseLoop→Rz,Keyword→Sa
open PySem.Around renaming under→Ml
open PySem.Builtin.Dict renaming pendingCount→Mg
open PySem.Builtin.List renaming listTooLong→Iz
open PySem.Builtin.Slice renaming slicePlaces→Gn,sliceAdjust→Lz
open PySem.Builtin.SmallTypes renaming nextOf→Mc
open PySem.Builtin.Str renaming occurrences→Dy,strSliceIndices→Hy,strKind→Pk
open PySem.Calls renaming Name_function_global→Ls,callWith_builtin→Nt
open PySem.Code renaming quiet_builtin→Hj,isFrame→Qc
open PySem.F renaming plainAttrs_list→Bs,plainAttrs_str→Bw,slot_list_append→Dc,type_list_append→Dd,slot_str_lower→Et,type_str_lower→Eu,slot_list_extend→Gy,type_list_extend→Gz,slot_str_upper→Hn,type_str_upper→Ho,slot_enumerate_next→Hs,slot_list_reversed→Ig,excBase_ValueError→Im,slot_zip_next→Km,args_str_split_2→Lp,excAttr_ValueError→Lv,entry_str_split→Lw,slot_dict_getitem→Md,slot_str_split→Mr,args_enumerate_next_1→Mz,entry_enumerate_next→Nv,entry_bexc_ga→Oh,slot_dict_len→Oi,slot_str_join→Oj,type_str_join→Ol,args_bexc_ga→Oz,args_zip_next_1→Qu,entry_zip_next→Rj,slot_int_rmul→Rt
open PySem.Heap renaming get?_push_of_some→Ae,lt_size→Au,get?_push_size→Bb,get?_update_other→Ck,get?_update_self→Eh,get?_none_of_le→Gm,size_push→Gq,SameBut→Hq,MadeExcOf→Le,get?_push_at→Qx
open PySem.Heap.Ns1 renaming of_empty→Qr
open PySem.NumText renaming digitsVal→Eg
open PySem.Obj renaming mapFields→Ft,data_mapFields→Gb,isFreed_of_fields→Kc,mapSeq→Mb
open PySem.Paired renaming length→He
open PySem.PassesOwn renaming never→Bo
open PySem.PyData renaming canLayAll0→Bx,strOk→Cq,eqv→Dr,canLay0→Ea,eqvAll→Fu,depthAll→Ku,keyHash→Lf,canLayAll0→Ly,depth→My,canLay0→Oo
open PySem.SeqAt renaming EqAt→Dz
open PySem.SeqAt.EqAt renaming int_str→Po,str_int→Pq
open PySem.Str renaming ofString→Ab,empty→Ka,join→Lc
open PySem.StrLaws renaming sliceText→Dh,sliceText_nat→Od,join_split→Qi,split_free→Qj
open PySem.Txt renaming split→Hw,slice→Kq,lower→Ln,upper→Lo,join→Mq,slice→Qf,rjustF→Ry
open PySem.W renaming Frag→Af,findIn→Cd,kitAny→Dj,emptyDict→Dx,kitOne→Fb,nsIn→Fv,keepIn→Fy,fnOf→Iy,looks_findIn→Jk,mg_of→Jm,specialIn→Js,InstAt→Jy,clsIn→Ke,Frag→Ki,callWith_K→Mm,codeIn→Mo,instObj→Nd,mroIn→Nz,Looks→Of,looks_mroIn→Pf,looks_clsIn→Pg,takesIn→Qb,check_slot→Qh,hasDictIn→Rc,cellsFrom_some→Rh,OpenLaw→Sd,findObj→Se
open PySem.W.Fast renaming te10110043849684766642→Jn,te14364793385576792824→Jo,te4187177175401517315→Jp,te5923862056798008813→Jq
open PySem.Within renaming cons→Qy
namespace L2
open PySem PySem.Spec PyProof.Rows
abbrev Key:=Sum Int Str
def keyIs:Key->Value->Bool
 |.inl k,v=>Value.isInt k v
 |.inr x,v=>Value.isStrOf x v
def keyH(w:World):Key->Int
 |.inl k=>hashInt k
 |.inr x=>hashStr w x
theorem q1j:∀{k:Key} {v:Value},keyIs k v=true->(∃i t,k=Sum.inl i/\v=Value.int i t)\/(∃x t,k=Sum.inr x/\v=Value.str x t)
 |.inl i,v,h=>by
  obtain⟨t,e⟩:=Value.isInt_shape (k:=i) (v:=v) h;exact .inl ⟨i,t,rfl,e⟩
 |.inr x,v,h=>by
  obtain⟨t,e⟩:=Value.isStrOf_shape h;exact .inr ⟨x,t,rfl,e⟩
theorem z6l(i:Int)(t:Tok):keyIs (.inl i) (.int i t)=true:=by simp[keyIs,Value.isInt]
theorem q6t(x:Str)(t:Tok):keyIs (.inr x) (.str x t)=true:=by simp[keyIs,Value.isStrOf]
theorem key_ll(a b:Int):decide ((Sum.inl a:Key)=Sum.inl b)=(a==b):=by grind
theorem key_rr(a b:Str):decide ((Sum.inr a:Key)=Sum.inr b)=decide (a=b):=by grind
theorem key_lr(a:Int)(b:Str):decide ((Sum.inl a:Key)=Sum.inr b)=false:=decide_eq_false (fun q=>nomatch q)
theorem key_rl(a:Str)(b:Int):decide ((Sum.inr a:Key)=Sum.inl b)=false:=decide_eq_false (fun q=>nomatch q)
def mixKind(prog:Program)(w:World):PySem.KeyKind prog w Key where
 is:=keyIs
 hash:=keyH w
 inj:=fun v a b ha hb=>by
  rcases q1j ha with⟨i,t,rfl,rfl⟩|⟨x,t,rfl,rfl⟩
  ·rcases q1j hb with⟨j,u,rfl,e⟩|⟨y,u,rfl,e⟩
   ·injection e with e1 _;rw[e1]
   ·exact nomatch e
  ·rcases q1j hb with⟨j,u,rfl,e⟩|⟨y,u,rfl,e⟩
   ·exact nomatch e
   ·injection e with e1 _;rw[e1]
 byValue:=fun k v h=>by
  rcases q1j h with⟨i,t,rfl,rfl⟩|⟨x,t,rfl,rfl⟩<;>rfl
 pyHash:=fun hv h=>by
  rcases q1j hv with⟨i,t,rfl,rfl⟩|⟨x,t,rfl,rfl⟩
  ·exact wpAny_pyHash_int h
  ·exact wpAny_pyHash_str h
 eqBool:=fun hu hv h=>by
  rcases q1j hu with⟨i,t,rfl,rfl⟩|⟨x,t,rfl,rfl⟩
  ·rcases q1j hv with⟨j,u,rfl,rfl⟩|⟨y,u,rfl,rfl⟩
   ·rw[key_ll] at h;exact wpAny_eqBool_int h
   ·rw[key_lr] at h;exact Po i t y u _ _ _ _ h
  ·rcases q1j hv with⟨j,u,rfl,rfl⟩|⟨y,u,rfl,rfl⟩
   ·rw[key_rl] at h;exact Pq x t j u _ _ _ _ h
   ·rw[key_rr] at h;exact wpAny_eqBool_str h
 «strs» := fun k x t v h=>by
  rcases q1j h with⟨i,u,rfl,e⟩|⟨y,u,rfl,e⟩
  ·exact nomatch e
  ·injection e with e1 _
   subst e1
   cases v<;>rfl
theorem z2i(prog:Program)(w:World)(i:Int)(t:Tok):(mixKind prog w).is (.inl i) (.int i t)=true:=z6l i t
theorem z2j(prog:Program)(w:World)(x:Str)(t:Tok):(mixKind prog w).is (.inr x) (.str x t)=true:=q6t x t
inductive V where
 |non|bl (b:Bool)|int (i:Int)|str (x:Str)|byt (b:Array UInt8)|flt (b:UInt64)|ref (a:Addr)|ty (n:String)
 deriving DecidableEq
def RelV:V->Value->Prop
 |.non,u=>u=Value.none
 |.bl b,u=>u=Value.bool b
 |.int i,u=>∃t,u=Value.int i t
 |.str x,u=>∃t,u=Value.str x t
 |.byt b,u=>∃t,u=Value.bytes b t
 |.flt b,u=>∃t,u=Value.float b t
 |.ref a,u=>u=Value.ref a
 |.ty n,u=>u=Value.type n
abbrev Vals:List V->List Value->Prop:=Gs RelV
theorem Vals.length(r:Vals xs us):xs.length=us.length:=He r
theorem Vals.get:∀{xs:List V} {us:List Value} {i:Nat} {x:V},Vals xs us->xs[i]?=some x->∃u,us[i]?=some u/\RelV x u
 |_,_,_,_,.nil,e=>by simp at e
 |_,_,0,_,.cons r _,e=>by simp at e;subst e;exact⟨_,rfl,r⟩
 |_,_,i+1,x,.cons _ t,e=>by
  obtain⟨u,h1,h2⟩:=Vals.get (i:=i) (x:=x) t (by simpa using e);exact⟨u,by simpa using h1,h2⟩
theorem Vals.set{x:V}{u:Value}(r:RelV x u):∀{xs:List V} {us:List Value} (i:Nat),Vals xs us->Vals (xs.set i x) (us.set i u)
 |_,_,_,.nil=>.nil
 |_,_,0,.cons _ t=>.cons r t
 |_,_,i+1,.cons q t=>.cons q (Vals.set r i t)
theorem Vals.append:∀{xs ys:List V} {us ws:List Value},Vals xs us->Vals ys ws->Vals (xs++ys) (us++ws)
 |_,_,_,_,.nil,s=>s
 |_,_,_,_,.cons r t,s=>.cons r (Vals.append t s)
theorem Vals.take:∀{xs:List V} {us:List Value} (n:Nat),Vals xs us->Vals (xs.take n) (us.take n)
 |_,_,0,_=>.nil
 |_,_,_+1,.nil=>.nil
 |_,_,n+1,.cons r t=>.cons r (Vals.take n t)
theorem Vals.drop:∀{xs:List V} {us:List Value} (n:Nat),Vals xs us->Vals (xs.drop n) (us.drop n)
 |_,_,0,r=>r
 |_,_,_+1,.nil=>.nil
 |_,_,n+1,.cons _ t=>Vals.drop n t
def RelO:Option V->Option Value->Prop
 |some v,some u=>RelV v u
 |none,none=>True
 |_,_=>False
def KV{κ:Type}:List (κ×V)->List (κ×Value)->Prop:=Gs fun(p:κ×V) (q:κ×Value)=>p.1=q.1/\RelV p.2 q.2
def kV:Key->V
 |.inl i=>.int i
 |.inr x=>.str x
inductive HO where
 |lst (xs:List V)
 |tup (xs:List V)
 |dK (kvs:List (Key×V))|dT (kvs:List (List Key×V))
 |set (S:Int->Bool) (n:Nat)
 |ins (C dx:Addr) (fs:List (Str×V))
 |own (x:Addr)
 |xd (fs:List (Str×V))
 |met (f x:Addr)
 |rng (lo hi:Int)
 |frz (o:Obj) (u:HO)
 |tbl (ps:Array Value)
 |ext (φ:Heap->Prop)
abbrev Hp:=Addr->Option HO
def upd(H:Hp)(a:Addr)(o:HO):Hp:=fun b=>if b=a then some o else H b
theorem q0e:upd H a o a=some o:=by unfold upd;rw[if_pos rfl]
theorem q0m(h:b≠a):upd H a o b=H b:=by unfold upd;rw[if_neg h]
theorem x2r:upd (upd H a o) a u=upd H a u:=by
 funext b;unfold upd;split<;>rfl
theorem z9q{H:Hp}(h:H a=some o)(h':H b=some u)(d:o≠u):a≠b:=by grind
theorem q0y{H:Hp}(h:H a=some o)(h':H b=none):a≠b:=by
 intro e;subst e;rw[h] at h';cases h'
section
variable(P:Program)(w:World)
def ObjOk(H:Hp)(h:Heap)(a:Addr):HO->Prop
 |.lst xs=>xs.length<=sizeLine/\∃(its:List Value) (n:Nat),Vals xs its/\h.get? a=some { cls:=.type "list",data:=.seq its.toArray n }
 |.tup xs=>xs.length<=sizeLine/\∃its:List Value,Vals xs its/\IsTup h a its.toArray
 |.dK kvs=>kvs.length<=sizeLine/\(a==Ff)=false/\∃vs,KV kvs vs/\h.DictOf (mixKind P w) a vs
 |.dT kvs=>kvs.length<=sizeLine/\(a==Ff)=false/\∃xs:List (List Key×Addr×Value),
   Gs (fun(p:List Key×V) (q:List Key×Addr×Value)=>p.1=q.1/\H q.2.1=some (.tup (p.1.map kV))/\RelV p.2 q.2.2) kvs xs /\
   ∃o es ep,h.get? a=some o/\o.ExactDict/\o.data=.dict es ep/\es.toList=xs.map (entryOfKey (Lh (mixKind P w)))/\(xs.map (·.1)).Nodup
 |.set S n=>h.SetOf (intKind P w) a S n
 |.ins C dx fs=>H dx=some (.own a)/\fs.length<=1000/\dx≠a/\h.get? a=some (Nd C dx) /\
   ∃mA,h.Ns1 dx mA/\(∀f,RelO (fs.lookup f) (mA f))/\Pr mA (fs.map (·.1))
 |.own _=>∃o,h.get? a=some o
 |.xd fs=>∃mA,h.Ns1 a mA/\∀f,RelO (fs.lookup f) (mA f)
 |.rng lo hi=>∃t u v,h.get? a=some { cls:=.type "range",data:=.fields #[.int lo t,.int hi u,.int 1 v] }
 |.frz o u=>h.get? a=some o/\ObjOk H h a u
 |.tbl ps=>h.get? a=some { cls:=.none,data:=.fields ps }
 |.met f x=>h.get? a=some (W.methodObj (.ref f) (.ref x))
 |.ext φ=>φ h/\(∃o,h.get? a=some o)/\∀h1 h2:Heap,φ h1->(∀o,h1.get? a=some o->h2.get? a=some o)->φ h2
def HOk(H:Hp)(h:Heap):Prop:=∀a o,H a=some o->ObjOk P w H h a o
end
section
variable{P:Program}{w:World}{H H':Hp}{h h':Heap}{a:Addr}{o:HO}
theorem ObjOk.lt(x:ObjOk P w H h a o):a<h.objs.size:=by
 cases o with
 |lst xs=>obtain⟨_,_,_,_,e⟩:=x;exact Au e
 |tup xs=>obtain⟨_,_,_,p⟩:=x;exact p.lt
 |dK kvs=>obtain⟨_,_,_,_,o,_,_,e,_⟩:=x;exact Au e
 |dT kvs=>obtain⟨_,_,_,_,o,_,_,e,_⟩:=x;exact Au e
 |set S n=>obtain⟨o,_,_,_,e,_⟩:=x;exact Au e
 |ins C dx fs=>obtain⟨_,_,_,e,_⟩:=x;exact Au e
 |own y=>obtain⟨_,e⟩:=x;exact Au e
 |xd fs=>obtain⟨_,⟨_,_,_,e,_⟩,_⟩:=x;exact Au e
 |rng lo hi=>obtain⟨_,_,_,e⟩:=x;exact Au e
 |frz ob u=>obtain⟨e,_⟩:=x;exact Au e
 |tbl ps=>exact Au (show h.get? a=some _ from x)
 |met f y=>exact Au (show h.get? a=some _ from x)
 |ext φ=>obtain⟨_,⟨_,e⟩,_⟩:=x;exact Au e
theorem Gs.mapP{α β:Type}{F G:α->β->Prop}:∀{l₁:List α} {l₂:List β},Gs F l₁ l₂->(∀a b,F a b->G a b)->Gs G l₁ l₂
 |_,_,.nil,_=>.nil
 |_,_,.cons r t,f=>.cons (f _ _ r) (Gs.mapP t f)
theorem ObjOk.stay(x:ObjOk P w H h a o)(k:∀b u,(b=a\/H b=some (.own a))->h.get? b=some u->h'.get? b=some u)(ho:∀b,H b=some (.own a)->H' b=some (.own a))(ht:∀b xs,H b=some (.tup xs)->H' b=some (.tup xs)):ObjOk P w H' h' a o:=by
 induction o with
 |lst xs=>obtain⟨z,its,n,r,e⟩:=x;exact⟨z,its,n,r,k _ _ (.inl rfl) e⟩
 |tup xs=>obtain⟨z,its,r,ob,e,c⟩:=x;exact⟨z,its,r,ob,k _ _ (.inl rfl) e,c⟩
 |dK kvs=>obtain⟨z,y,vs,r,ob,es,ep,e,c⟩:=x;exact⟨z,y,vs,r,ob,es,ep,k _ _ (.inl rfl) e,c⟩
 |dT kvs =>
  obtain⟨z,y,xs,r,ob,es,ep,e,c⟩:=x;exact⟨z,y,xs,Gs.mapP r fun p q z=>⟨z.1,ht _ _ z.2.1,z.2.2⟩,ob,es,ep,k _ _ (.inl rfl) e,c⟩
 |set S n=>obtain⟨ob,es,ep,t,e,c⟩:=x;exact⟨ob,es,ep,t,k _ _ (.inl rfl) e,c⟩
 |ins C dx fs =>
  obtain⟨d,z,ne,e,mA,⟨od,es,ep,e2,c⟩,r⟩:=x;exact⟨ho _ d,z,ne,k _ _ (.inl rfl) e,mA,⟨od,es,ep,k _ _ (.inr d) e2,c⟩,r⟩
 |own y=>obtain⟨ob,e⟩:=x;exact⟨ob,k _ _ (.inl rfl) e⟩
 |xd fs=>obtain⟨mA,⟨od,es,ep,e,c⟩,r⟩:=x;exact⟨mA,⟨od,es,ep,k _ _ (.inl rfl) e,c⟩,r⟩
 |rng lo hi=>obtain⟨t,u,v,e⟩:=x;exact⟨t,u,v,k _ _ (.inl rfl) e⟩
 |frz ob u ih=>obtain⟨e,q⟩:=x;exact⟨k _ _ (.inl rfl) e,ih q⟩
 |tbl ps =>
  have e:h.get? a=some { cls:=.none,data:=.fields ps }:=x;exact k a _ (.inl rfl) e
 |met f y =>
  have e:=x;exact k a _ (.inl rfl) e
 |ext φ=>obtain⟨p,⟨o,e⟩,st⟩:=x;exact⟨st _ _ p fun o q=>k _ _ (.inl rfl) q,⟨o,k _ _ (.inl rfl) e⟩,st⟩
theorem HOk.lt(x:HOk P w H h)(e:H a=some o):a<h.objs.size:=(x a o e).lt
theorem HOk.fresh(x:HOk P w H h)(e:h.objs.size<=a):H a=none:=by
 cases q:H a with
 |none=>rfl
 |some u=>exact absurd (Bh (x.lt q) e) (Gh _)
theorem HOk.kept(x:HOk P w H h)(k:∀b u,h.get? b=some u->h'.get? b=some u):HOk P w H h':=fun a o e =>
 (x a o e).stay (fun b u _ q=>k b u q) (fun _ q=>q) fun _ _ q=>q
theorem HOk.laid(x:HOk P w H h)(k:∀b u,h.get? b=some u->h'.get? b=some u)(hp:h.objs.size<=a)(new:ObjOk P w (upd H a o) h' a o):HOk P w (upd H a o) h':=fun b u e=>by
 have hn:=x.fresh hp;by_cases hb:b=a
 ·subst hb;rw[q0e] at e;cases e;exact new
 ·rw[q0m hb] at e;exact(x b u e).stay (fun c v _ q=>k c v q) (fun c q=>by rw[q0m (q0y q hn)];exact q) fun c xs q=>by rw[q0m (q0y q hn)];exact q
end
def Rd(H:Hp)(a:Addr)(u:HO):Prop:=H a=some u\/∃o,H a=some (.frz o u)
theorem Rd.of(h:H a=some u):Rd H a u:=.inl h
theorem Rd.ok(r:Rd H a u)(x:HOk P w H h):ObjOk P w H h a u:=by
 rcases r with r|⟨o,r⟩
 ·exact x a u r
 ·obtain⟨_,q⟩:=x a _ r;exact q
def Mut:Option HO->Prop
 |some (.lst _)=>True
 |some (.dK _)=>True
 |some (.dT _)=>True
 |some (.set _ _)=>True
 |some (.ins _ _ _)=>True
 |some (.ext _)=>True
 |_=>False
section
variable{P:Program}{w:World}{H:Hp}{h h':Heap}{x e:Addr}{o':HO}
theorem HOk.write(ok:HOk P w H h)(mu:Mut (H x))(he:e=x\/H e=some (.own x))(k:∀b u,b≠e->h.get? b=some u->h'.get? b=some u)(heo:∃u,h'.get? e=some u)(new:ObjOk P w (upd H x o') h' x o'):HOk P w (upd H x o') h':=fun b u q=>by
 have nown:∀c y,H c=some (.own y)->c≠x:=fun c y r z=>by subst z;rw[r] at mu;exact mu
 have ntup:∀c xs,H c=some (.tup xs)->c≠x:=fun c xs r z=>by subst z;rw[r] at mu;exact mu
 by_cases hb:b=x
 ·subst hb;rw[q0e] at q;cases q;exact new
 ·rw[q0m hb] at q;by_cases hbe:b=e
  ·have q':H b=some (.own x):=by
    rcases he with z|z
    ·grind
    ·rw[hbe];exact z
   rw[q] at q';cases q';obtain⟨v,hv⟩:=heo;exact⟨v,by rw[hbe];exact hv⟩
  ·refine(ok b u q).stay (fun c v hc r=>k c v ?_ r) (fun c r=>by rw[q0m (nown c b r)];exact r) fun c xs r=>by rw[q0m (ntup c xs r)];exact r
   rcases hc with rfl|hc
   ·exact hbe
   ·grind
end
structure Un (fs ex:List Addr) (H H':Hp) (h h':Heap):Prop where
 keep:∀b o,h.get? b=some o->H b=none->b∉fs->b∉ex->h'.get? b=some o
 slot:∀b o,h.get? b=some o->H b=none->b∈fs->b∉ex->∃sl,h'.get? b=some { o with slots:=sl }
 free:∀b o,h.get? b=some o->H b=none->b∉ex->H' b=none
 there:∀b o,h.get? b=some o->b∉ex->∃o',h'.get? b=some o'
 tups:∀b xs,H b=some (.tup xs)->H' b=some (.tup xs)
 frzs:∀b o u,H b=some (.frz o u)->H' b=some (.frz o u)
 tbls:∀b ps,H b=some (.tbl ps)->∃more,H' b=some (.tbl (ps++more))
section
variable{fs fs' ex ex':List Addr}{H H1 H2:Hp}{h h1 h2 h':Heap}{a x e:Addr}{o:HO}
theorem Un.any(u:Un fs ex H H1 h h1)(q:h.get? b=some ob)(n:H b=none)(hx:b∉ex):∃sl,h1.get? b=some { ob with slots:=sl }:=by
 by_cases hb:b∈fs
 ·exact u.slot b ob q n hb hx
 ·exact⟨ob.slots,u.keep b ob q n hb hx⟩
theorem Un.trans(a:Un fs ex H H1 h h1)(b:Un fs ex H1 H2 h1 h2):Un fs ex H H2 h h2 where
 keep:=fun c ob q n hc hx=>b.keep c ob (a.keep c ob q n hc hx) (a.free c ob q n hx) hc hx
 slot:=fun c ob q n hc hx=>by
  obtain⟨sl,e1⟩:=a.slot c ob q n hc hx;obtain⟨sl',e2⟩:=b.slot c _ e1 (a.free c ob q n hx) hc hx;exact⟨sl',e2⟩
 free:=fun c ob q n hx=>by
  obtain⟨o',e1⟩:=a.there c ob q hx;exact b.free c o' e1 (a.free c ob q n hx) hx
 there:=fun c ob q hx=>by
  obtain⟨o',e1⟩:=a.there c ob q hx;exact b.there c o' e1 hx
 tups:=fun c xs q=>b.tups c xs (a.tups c xs q)
 frzs:=fun c ob xs q=>b.frzs c ob xs (a.frzs c ob xs q)
 tbls:=fun c ps q=>by
  obtain⟨m1,e1⟩:=a.tbls c ps q;obtain⟨m2,e2⟩:=b.tbls c _ e1;exact⟨m1++m2,by rw[e2,Pu]⟩
theorem Un.kept(k:∀b u,h.get? b=some u->h'.get? b=some u):Un fs ex H H h h' :=
 ⟨fun b ob q _ _ _=>k b ob q,fun b ob q _ _ _=>⟨ob.slots,k b ob q⟩,fun _ _ _ n _=>n,fun b ob q _=>⟨ob,k b ob q⟩,fun _ _ q=>q,fun _ _ _ q=>q,fun _ ps q=>⟨#[],by rw[q];simp⟩⟩
theorem Un.refl:Un fs ex H H h h:=Un.kept fun _ _ q=>q
theorem Un.laid(k:∀b u,h.get? b=some u->h'.get? b=some u)(hp:h.objs.size<=a)(hn:H a=none):Un fs ex H (upd H a o) h h' where
 keep:=fun b u q _ _ _=>k b u q
 slot:=fun b u q _ _ _=>⟨u.slots,k b u q⟩
 free:=fun b u q n _=>by rw[q0m (By (Bh (Au q) hp))];exact n
 there:=fun b u q _=>⟨u,k b u q⟩
 tups:=fun b xs q=>by rw[q0m (q0y q hn)];exact q
 frzs:=fun b u xs q=>by rw[q0m (q0y q hn)];exact q
 tbls:=fun b ps q=>⟨#[],by rw[q0m (q0y q hn),q];simp⟩
theorem Un.write(mu:Mut (H x))(he:e=x\/H e=some (.own x))(k:∀b u,b≠e->h.get? b=some u->h'.get? b=some u)(heo:∃u,h'.get? e=some u):Un fs ex H (upd H x o) h h':=by
 have hx:∀b,H b=none->b≠x:=fun b n z=>by subst z;rw[n] at mu;exact mu
 have hb:∀b,H b=none->b≠e:=fun b n z=>by
  subst z;rcases he with r|r
  ·exact hx b n r
  ·rw[n] at r;cases r
 have hm:∀b u,H b=some u->¬Mut (some u)->b≠x:=fun b u q nm z=>by subst z;rw[q] at mu;exact nm mu
 refine⟨fun b u q n _ _=>k b u (hb b n) q,fun b u q n _ _=>⟨u.slots,k b u (hb b n) q⟩,fun b u q n _=>by rw[q0m (hx b n)];exact n,fun b u q _=>?_,
  fun b xs q=>by rw[q0m (hm b _ q fun z=>z)];exact q,fun b u xs q=>by rw[q0m (hm b _ q fun z=>z)];exact q,fun b ps q=>⟨#[],by rw[q0m (hm b _ q fun z=>z),q];simp⟩⟩
 by_cases hbe:b=e
 ·subst hbe;exact heo
 ·grind
theorem Un.mono(u:Un fs ex H H1 h h1)(hs:∀b∈fs,b∈fs')(hx:∀b∈ex,b∈ex'):Un fs' ex' H H1 h h1 :=
 ⟨fun b ob q n hb he=>u.keep b ob q n (fun z=>hb (hs b z)) fun z=>he (hx b z),fun _ _ q n _ he=>u.any q n fun z=>he (hx _ z),fun b ob q n he=>u.free b ob q n fun z=>he (hx b z),fun b ob q he=>u.there b ob q fun z=>he (hx b z),u.tups,u.frzs,u.tbls⟩
end
def trk(h:Heap)(H:Hp):List Addr:=(List.range h.objs.size).filter fun a=>(H a).isSome
def hidT(h:Heap)(H:Hp):Heap:=W.hideAll h (trk h H)
theorem z6m(h:Heap)(H:Hp):(hidT h H).objs.size=h.objs.size:=W.hideAll_size _ _
theorem z9r(e:h.get? b=some o)(n:H b=none):(hidT h H).get? b=some o :=
 W.hideAll_get _ e fun hm=>by
  have q:=(Dw.mp hm).2;rw[n] at q;simp at q
theorem x2s(e:(hidT h H).get? b=some o):h.get? b=some o/\H b=none:=by
 have e':=W.of_hideAll (trk h H) e;refine⟨e',?_⟩;cases q:H b with
 |none=>rfl
 |some x =>
  have hm:b∈trk h H:=Dw.mpr ⟨List.mem_range.mpr (Au e'),by simp[q]⟩;have z:(hidT h H).get? b=none:=W.hideAll_none (trk h H) hm;rw[z] at e;cases e
def allNews(g h:Heap)(L:Addr):List (Addr×Obj):=(List.range h.objs.size).filterMap fun a=>if a=L\/(g.get? a).isSome=true then none else(h.get? a).map fun o=>(a,o)
def rest(g h:Heap)(L d:Addr):List (Addr×Obj):=(allNews g h L).filter fun p=>decide (p.1≠d)
open PySem PySem.Spec PyProof.Rows
structure Mod (K:Af) (mg:Str->Option Value) (base:Heap):Prop where
 kin:K.In base
 glob:base.Ns Cb mg
 blt:∃mb,base.Ns builtinsNs mb/\∀x:Str,x ≠ "__name__" -> mb x=Fg x
 nolimit:base.NoLimit
structure Cx where
 prog:Program
 w:World
 K:Af
 mg:Str->Option Value
 base:Heap
 A:Around
 N:List Str
 s₀:Ah
 H₀:Hp
 env:Env
 outer:List Env
 stack:List Env
 ex:List Addr
 fn:Str->Bool
 calm:Bool
 pn:List (Addr×Obj)
 xe:Value->Ah->Prop
def frs(l:List Env):List Addr:=l.filterMap (·.frame)
abbrev Cx.fs(X:Cx):List Addr:=frs X.outer
def Vis(sc:Scope)(x:Str):Prop:=sc.names.lookup x=some .local\/sc.names.lookup x=some .cell\/sc.names.lookup x=some .free
def Loc(sc:Scope)(x:Str):Prop:=sc.names.lookup x=some .local\/sc.names.lookup x=some .cell
def Look(env:Env)(h:Heap)(m:Str->Option Value)(x:Str)(u:Value):Prop :=
 (env.kindOf x=some .local/\m x=some u)\/((env.kindOf x=some .cell\/env.kindOf x=some .free)/\∃c,env.cells.lookup x=some c/\h.IsCell c (some u))
structure Cx.Ok (X:Cx):Prop where
 mod:Mod X.K X.mg X.base
 kind:X.env.scope.kind=.function
 glob:X.env.globals=Cb
 blt:X.env.builtins=builtinsNs
 above:X.s₀.heap.objs.size<=X.env.locals
 inj:∀x y c,X.env.cells.lookup x=some c->X.env.cells.lookup y=some c->x=y
 has:∀x,(X.env.kindOf x=some .cell\/X.env.kindOf x=some .free)->∃c,X.env.cells.lookup x=some c
 cab:∀x c,X.fn x=true->X.env.cells.lookup x=some c->X.s₀.heap.objs.size<=c
 hd:X.calm=true->X.A.handled=none
 frames:X.A.frames=some X.stack
 stk:X.stack=X.outer\/(X.stack=X.env::X.outer/\X.env.frame=some X.env.locals)
 exf:∀b∈X.ex,b≠X.env.locals/\∀x c,X.env.cells.lookup x=some c->c≠b
 bs:∀b o,X.base.get? b=some o->X.s₀.heap.get? b=some o/\X.H₀ b=none
 bsz:X.base.objs.size<=X.s₀.heap.objs.size
 noex:∀b o,X.base.get? b=some o->b∉X.ex
 exfs:∀b∈X.ex,b∉X.fs
 funs:X.s₀.heap.FunFrames X.base X.outer
 frf:∀b∈X.fs,X.H₀ b=none
structure Inv (X:Cx) (pins:List (Addr×Obj)) (σ:List (Option V)) (H:Hp) (s:Ah):Prop where
 ok:X.Ok
 os:s.os=X.s₀.os
 bare:Jg s.gens
 base:Un X.fs X.ex X.H₀ H X.s₀.heap s.heap
 loc:∃m,s.heap.Ns X.env.locals m/\∀(i:Nat) (x:Str) (v:V),X.N[i]?=some x->σ[i]?=some (some v)->Vis X.env.scope x->∃u,RelV v u/\Look X.env s.heap m x u
 cell:∀x c,X.env.cells.lookup x=some c->∃v,s.heap.IsCell c v
 free:H X.env.locals=none
 freeC:∀x c,X.env.cells.lookup x=some c->H c=none
 pin:∀p∈X.pn++pins,s.heap.get? p.1=some p.2/\H p.1=none/\p.1≠X.env.locals/\p.1∉X.fs/\∀v,p.2.data≠.cell v
 hok:HOk X.prog X.w H s.heap
 len:σ.length=X.N.length
section
variable{X:Cx}{pins:List (Addr×Obj)}{σ:List (Option V)}{H H':Hp}{s:Ah}{h':Heap}
theorem Cx.Ok.nofr(ok:X.Ok)(e:X.base.get? b=some o):b∉X.fs:=fun hb=>by
 have:=(ok.funs.mem hb).1;rw[e] at this;cases this
theorem Inv.bs(I:Inv X pins σ H s):∀b o,X.base.get? b=some o->s.heap.get? b=some o/\H b=none:=fun b o e =>
 ⟨I.base.keep b o (I.ok.bs b o e).1 (I.ok.bs b o e).2 (I.ok.nofr e) (I.ok.noex b o e),I.base.free b o (I.ok.bs b o e).1 (I.ok.bs b o e).2 (I.ok.noex b o e)⟩
theorem Inv.bk(I:Inv X pins σ H s):∀b o,X.base.get? b=some o->s.heap.get? b=some o:=fun b o e=>(I.bs b o e).1
theorem Inv.mod(I:Inv X pins σ H s):Mod X.K X.mg X.base:=I.ok.mod
theorem Inv.kIn(I:Inv X pins σ H s):X.K.In s.heap:=I.ok.mod.kin.keeps I.bk
theorem Inv.nolimit(I:Inv X pins σ H s):s.heap.NoLimit:=I.ok.mod.nolimit.keeps I.bk
theorem Inv.fr(I:Inv X pins σ H s):∃m,Fr X.base X.env.locals s.heap m :=
 let ⟨m,hn,_⟩:=I.loc
 ⟨m,hn,I.bk,Aq I.ok.bsz I.ok.above⟩
theorem Inv.lt(I:Inv X pins σ H s):X.env.locals<s.heap.objs.size:=let ⟨_,hn,_⟩:=I.loc;hn.lt
theorem Inv.sz(I:Inv X pins σ H s):X.s₀.heap.objs.size<=s.heap.objs.size:=Aq I.ok.above (Px I.lt)
theorem Inv.nofs(I:Inv X pins σ H s){a:Addr}(h:s.heap.objs.size<=a):a∉X.fs:=fun hb=>by
 obtain⟨_,o,ho,_⟩:=I.ok.funs.mem hb;exact absurd (Bh (Au ho) (Aq I.sz h)) (Gh _)
theorem Inv.cne(I:Inv X pins σ H s):∀x c,X.env.cells.lookup x=some c->c≠X.env.locals:=fun x c e z=>by
 obtain⟨v,o,ho,hd⟩:=I.cell x c e;obtain⟨m,⟨o',es,ep,ho',hd',_⟩,_⟩:=I.loc;rw[z,ho'] at ho;cases ho;rw[hd'] at hd;cases hd
theorem Inv.funs(I:Inv X pins σ H s):s.heap.FunFrames X.base X.outer:=by
 have all:∀(l:List Env),(∀b∈frs l,b∈X.fs)->X.s₀.heap.FunFrames X.base l->s.heap.FunFrames X.base l:=by
  intro l;induction l with
  |nil=>intro _ _;trivial
  |cons env r ih =>
   intro hs hl;obtain⟨hk,⟨L,o,hf,hn,ho,hd⟩,hr⟩:=hl;have hL:=hs L (by unfold frs;rw[Kw,hf];exact Ao);obtain⟨sl,e⟩:=I.base.slot L o ho (I.ok.frf L hL) hL fun z=>I.ok.exfs L z hL;exact⟨hk,⟨L,_,hf,hn,e,hd⟩,ih (fun b hb=>hs b (by unfold frs;rw[Kw,hf];exact Am _ hb)) hr⟩
 exact all X.outer (fun _ hb=>hb) I.ok.funs
theorem Inv.stack(I:Inv X pins σ H s):s.heap.FunFrames X.base X.stack:=by
 rcases I.ok.stk with e|⟨e,hf⟩
 ·rw[e];exact I.funs
 ·rw[e];obtain⟨m,hn,_⟩:=I.loc;refine .cons (by rw[I.ok.kind];decide) hf hn ?_ I.funs;exact Gm (Aq I.ok.bsz I.ok.above)
theorem Inv.stkSub(I:Inv X pins σ H s):∀b∈frs X.stack,b∈X.env.locals::X.fs:=fun b hb=>by
 rcases I.ok.stk with e|⟨e,hf⟩
 ·grind
 ·rw[e] at hb;unfold frs at hb;rw[Kw,hf] at hb;exact hb
theorem Inv.stkFree(I:Inv X pins σ H s):∀b∈frs X.stack,H b=none:=fun b hb=>by
 rcases Ap.mp (I.stkSub b hb) with e|hb
 ·rw[e];exact I.free
 ·obtain⟨_,o,ho,_⟩:=I.ok.funs.mem hb;exact I.base.free b o ho (I.ok.frf b hb) fun z=>I.ok.exfs b z hb
theorem Inv.step{ch:List Addr}(I:Inv X pins σ H s)(hch:∀b∈ch,(b∈X.ex\/X.s₀.heap.objs.size<=b)/\b≠X.env.locals/\(∀x c,X.env.cells.lookup x=some c->c≠b)/\∀p∈X.pn++pins,p.1≠b)(keep:∀b o,b≠X.env.locals->b∉X.fs->b∉ch->s.heap.get? b=some o->H b=none->h'.get? b=some o)(slot:∀b o,b≠X.env.locals->b∈X.fs->b∉ch->s.heap.get? b=some o->H b=none->∃sl,h'.get? b=some { o with slots:=sl })(free:∀b o,b∉ch->s.heap.get? b=some o->H b=none->H' b=none)(there:∀b o,b∉ch->s.heap.get? b=some o->∃o',h'.get? b=some o')(tups:∀b xs,H b=some (.tup xs)->H' b=some (.tup xs))(frzs:∀b o u,H b=some (.frz o u)->H' b=some (.frz o u))(tbls:∀b ps,H b=some (.tbl ps)->∃more,H' b=some (.tbl (ps++more)))(ns:∀m,s.heap.Ns X.env.locals m->h'.Ns X.env.locals m)(hok:HOk X.prog X.w H' h')(hg:Jg g'):
  Inv X pins σ H' { s with heap:=h',gens:=g',drawn:=d',toks:=t' }:=by
 have neL:∀b o,X.s₀.heap.get? b=some o->b≠X.env.locals:=fun b o e=>By (Bh (Au e) I.ok.above);have neC:∀b o,X.s₀.heap.get? b=some o->b∉X.ex->b∉ch:=fun b o e hx hb=>by
  rcases(hch b hb).1 with z|z
  ·exact hx z
  ·exact absurd (Bh (Au e) z) (Gh _)
 have cellK:∀x c,X.env.cells.lookup x=some c->∀v,s.heap.IsCell c v->h'.IsCell c v:=fun x c e v ⟨o,ho,hd⟩=>by
  have nch:=fun z=>(hch c z).2.2.1 x c e rfl;by_cases hc:c∈X.fs
  ·obtain⟨sl,q⟩:=slot c o (I.cne x c e) hc nch ho (I.freeC x c e);exact⟨_,q,hd⟩
  ·exact⟨o,keep c o (I.cne x c e) hc nch ho (I.freeC x c e),hd⟩
 refine⟨I.ok,I.os,hg,⟨fun b o e n hb hx=>?_,fun b o e n hb hx=>?_,fun b o e n hx=>?_,fun b o e hx=>?_,fun b xs e=>tups b xs (I.base.tups b xs e),fun b o xs e=>frzs b o xs (I.base.frzs b o xs e),fun b ps e=>?_⟩,?_,fun x c e=>?_,?_,fun x c e=>?_,fun p hp=>?_,hok,I.len⟩
 ·exact keep b o (neL b o e) hb (neC b o e hx) (I.base.keep b o e n hb hx) (I.base.free b o e n hx)
 ·obtain⟨sl,e1⟩:=I.base.slot b o e n hb hx;obtain⟨sl',e2⟩:=slot b _ (neL b o e) hb (neC b o e hx) e1 (I.base.free b o e n hx);exact⟨sl',e2⟩
 ·obtain⟨o',e1⟩:=I.base.there b o e hx;exact free b o' (neC b o e hx) e1 (I.base.free b o e n hx)
 ·obtain⟨o',e1⟩:=I.base.there b o e hx;exact there b o' (neC b o e hx) e1
 ·obtain⟨m1,e1⟩:=I.base.tbls b ps e;obtain⟨m2,e2⟩:=tbls b _ e1;exact⟨m1++m2,by rw[e2,Pu]⟩
 ·obtain⟨m,hn,hl⟩:=I.loc;refine⟨m,ns m hn,fun i x v e1 e2 e3=>?_⟩;obtain⟨u,r,l⟩:=hl i x v e1 e2 e3;refine⟨u,r,?_⟩;rcases l with l|⟨k,c,e,z⟩
  ·exact .inl l
  ·exact .inr ⟨k,c,e,cellK x c e _ z⟩
 ·obtain⟨v,z⟩:=I.cell x c e;exact⟨v,cellK x c e v z⟩
 ·obtain⟨m,⟨o,_,_,ho,_⟩,_⟩:=I.loc;exact free _ o (fun z=>(hch _ z).2.1 rfl) ho I.free
 ·obtain⟨v,o,ho,hd⟩:=I.cell x c e;exact free c o (fun z=>(hch c z).2.2.1 x c e rfl) ho (I.freeC x c e)
 ·obtain⟨e,n,ne,nf,d⟩:=I.pin p hp;have nch:=fun z=>(hch p.1 z).2.2.2 p hp rfl
  exact⟨keep p.1 p.2 ne nf nch e n,free p.1 p.2 nch e n,ne,nf,d⟩
theorem Inv.un(I:Inv X pins σ H s)(u:Un X.fs [] H H' s.heap h')(hok:HOk X.prog X.w H' h'):Inv X pins σ H' { s with heap:=h',toks:=t' }:=by
 obtain⟨m,⟨o,es,ep,ho,r⟩,_⟩:=id I.loc;obtain⟨sl,hL⟩:=u.any ho I.free (by simp);exact I.step (g':=s.gens) (d':=s.drawn) (ch:=[]) (fun _ z=>nomatch z) (fun b o _ hb _ e n=>u.keep b o e n hb (by simp)) (fun b o _ hb _ e n=>u.slot b o e n hb (by simp)) (fun b o _ e n=>u.free b o e n (by simp)) (fun b o _ e=>u.there b o e (by simp)) u.tups u.frzs u.tbls (fun m' hm=>by
  obtain⟨o',es',ep',ho',r'⟩:=hm;rw[ho] at ho';cases ho';exact⟨_,es',ep',hL,r'⟩) hok I.bare
theorem Inv.call(I:Inv X pins σ H s)(u:Un (frs X.stack) ch H H' s.heap h')(hok:HOk X.prog X.w H' h')(hg:Jg g')(hch:∀b∈ch,(b∈X.ex\/X.s₀.heap.objs.size<=b)/\b≠X.env.locals/\(∀x c,X.env.cells.lookup x=some c->c≠b)/\∀p∈X.pn++pins,p.1≠b):
  Inv X pins σ H' { s with heap:=h',gens:=g',drawn:=d',toks:=t' }:=by
 obtain⟨m,⟨o,es,ep,ho,r⟩,_⟩:=id I.loc;obtain⟨sl,hL⟩:=u.any ho I.free fun z=>(hch _ z).2.1 rfl
 exact I.step hch (fun b o hL hb hc e n=>u.keep b o e n (fun z=>(Ap.mp (I.stkSub b z)).elim hL hb) hc) (fun b o _ _ hc e n=>u.any e n hc) (fun b o hc e n=>u.free b o e n hc) (fun b o hc e=>u.there b o e hc) u.tups u.frzs u.tbls (fun m' hm=>by
  obtain⟨o',es',ep',ho',r'⟩:=hm;rw[ho] at ho';cases ho';exact⟨_,es',ep',hL,r'⟩) hok hg
theorem Inv.turned(I:Inv X pins σ H s)(k:∀b o,b≠it->s.heap.get? b=some o->h'.get? b=some o)(hn:H it=none)(hL:it≠X.env.locals)(h1:it∈X.ex\/X.s₀.heap.objs.size<=it)(h2:∀x c,X.env.cells.lookup x=some c->c≠it)(h3:∀p∈X.pn++pins,p.1≠it):Inv X pins σ H { s with heap:=h',toks:=t' }:=by
 have nit:∀b u,H b=some u->b≠it:=fun b u e z=>by rw[z,hn] at e;cases e
 refine I.step (g':=s.gens) (d':=s.drawn) (ch:=[it]) (fun b hb=>?_) (fun b o _ _ hc e _=>k b o (fun z=>hc (by simp[z])) e) (fun b o _ _ hc e _=>⟨o.slots,k b o (fun z=>hc (by simp[z])) e⟩) (fun _ _ _ _ n=>n)
  (fun b o hc e=>⟨o,k b o (fun z=>hc (by simp[z])) e⟩) (fun _ _ e=>e) (fun _ _ _ e=>e) (fun b ps e=>⟨#[],by rw[e];simp⟩) (fun m hm=>?_) (fun b u e=>?_) I.bare
 ·have e:b=it:=by simpa using hb
  subst e;exact⟨h1,hL,h2,h3⟩
 ·obtain⟨o,es,ep,ho,r⟩:=hm;exact⟨o,es,ep,k _ o (Dm hL) ho,r⟩
 ·refine(I.hok b u e).stay (fun c v hc q=>k c v ?_ q) (fun _ q=>q) fun _ _ q=>q;rcases hc with z|z
  ·rw[z];exact nit b u e
  ·exact nit c _ z
theorem Inv.tok(I:Inv X pins σ H s)(t:Nat):Inv X pins σ H { s with toks:=t }:=I.un (h':=s.heap) (t':=t) Un.refl I.hok
theorem Inv.kept(I:Inv X pins σ H s)(k:∀b u,s.heap.get? b=some u->h'.get? b=some u):Inv X pins σ H { s with heap:=h',toks:=t' }:=I.un (Un.kept k) (I.hok.kept k)
theorem Inv.laid{a:Addr}(I:Inv X pins σ H s)(k:∀b u,s.heap.get? b=some u->h'.get? b=some u)(hp:s.heap.objs.size<=a)(new:ObjOk X.prog X.w (upd H a o) h' a o):
  Inv X pins σ (upd H a o) { s with heap:=h',toks:=t' }:=I.un (Un.laid k hp (I.hok.fresh hp)) (I.hok.laid k hp new)
theorem Inv.write(I:Inv X pins σ H s)(mu:Mut (H x))(he:e=x\/H e=some (.own x))(k:∀b u,b≠e->s.heap.get? b=some u->h'.get? b=some u)(heo:∃u,h'.get? e=some u)(new:ObjOk X.prog X.w (upd H x o) h' x o):Inv X pins σ (upd H x o) { s with heap:=h',toks:=t' }:=I.un (Un.write mu he k heo) (I.hok.write mu he k heo new)
theorem Inv.weak(I:Inv X pins σ H s)(hl:σ'.length=σ.length)(w:∀(i:Nat) v,σ'[i]?=some (some v)->σ[i]?=some (some v)):Inv X pins σ' H s :=
 ⟨I.ok,I.os,I.bare,I.base,let ⟨m,hn,hl'⟩:=I.loc;⟨m,hn,fun i x v e1 e2 e3=>hl' i x v e1 (w i v e2) e3⟩,I.cell,I.free,I.freeC,I.pin,I.hok,hl.trans I.len⟩
theorem Inv.pins_of(I:Inv X pins σ H s)(h:∀p∈pins',s.heap.get? p.1=some p.2/\H p.1=none/\p.1≠X.env.locals/\p.1∉X.fs/\∀v,p.2.data≠.cell v):Inv X pins' σ H s :=
 ⟨I.ok,I.os,I.bare,I.base,I.loc,I.cell,I.free,I.freeC,fun p hp=>(Az.mp hp).elim (fun z=>I.pin p (Co _ z)) (h p),I.hok,I.len⟩
theorem q8w{N:List Str}(hN:N.Nodup){j:Nat}(a:N[i]?=some x)(b:N[j]?=some x):i=j:=by
 obtain⟨h1,e1⟩:=Ai.mp a;obtain⟨h2,e2⟩:=Ai.mp b;exact(List.getElem_inj hN).mp (e1.trans e2.symm)
theorem z0n(I:Inv X pins σ H s)(hN:X.N.Nodup)(hi:X.N[i]?=some x)(hx:Loc X.env.scope x)(r:RelV v u)(h:∀s',Inv X pins (σ.set i (some v)) H s'->(∃a,Hq a s.heap s'.heap/\(a=X.env.locals\/X.env.cells.lookup x=some a))->Q () s')(hf:X.fn x=true\/X.env.scope.names.lookup x=some .local:=by first|exact .inl rfl|exact .inr rfl|assumption):wpAny M A (storeName X.env x u) Q E s:=by
 obtain⟨m,hn,hl⟩:=id I.loc;have hcls:(X.env.scope.kind==.class||(X.env.scope.kind==.module&&X.env.locals != X.env.globals))=false:=by rw[I.ok.kind];rfl
 have hiσ:i<σ.length:=by rw[I.len];exact(Ai.mp hi).1
 have cne:=I.cne;have tracked:∀{a:Addr} {h':Heap},(∃o,s.heap.get? a=some o/\H a=none)->Hq a s.heap h'->HOk X.prog X.w H h':=fun{a h'} ha hs b ob e=>by
  obtain⟨_,_,hfree⟩:=ha;refine(I.hok b ob e).stay (fun c w' hc q=>(hs.2 c ?_).trans q) (fun _ q=>q) fun _ _ q=>q
  rcases hc with rfl|hc
  ·grind
  ·grind
 rcases hx with hk|hk
 ·refine wpAny_storeName_local hk hn (fun h' hn' hs=>?_) hcls;obtain⟨oL,_,_,hoL,_⟩:=id hn;refine h _ ⟨I.ok,I.os,I.bare,⟨fun b o e n hb hx=>?_,fun b o e n hb hx=>?_,I.base.free,fun b o e hx=>?_,I.base.tups,I.base.frzs,I.base.tbls⟩,⟨_,hn',fun j y v' e1 e2 e3=>?_⟩,fun y c e=>?_,I.free,I.freeC,fun p hp=>?_,tracked ⟨oL,hoL,I.free⟩ hs,by simpa using I.len⟩ ⟨_,hs,.inl rfl⟩
  ·exact(hs.2 b (By (Bh (Au e) I.ok.above))).trans (I.base.keep b o e n hb hx)
  ·obtain⟨sl,e1⟩:=I.base.slot b o e n hb hx;exact⟨sl,(hs.2 b (By (Bh (Au e) I.ok.above))).trans e1⟩
  ·obtain⟨o',e1⟩:=I.base.there b o e hx;exact⟨o',(hs.2 b (By (Bh (Au e) I.ok.above))).trans e1⟩
  ·by_cases hj:j=i
   ·subst hj;rw[hi] at e1;cases e1;rw[Nm hiσ] at e2;cases e2;exact⟨u,r,.inl ⟨hk,by simp⟩⟩
   ·rw[Kg (Dm hj)] at e2;obtain⟨u',r',q⟩:=hl j y v' e1 e2 e3;refine⟨u',r',?_⟩;rcases q with⟨k,e⟩|⟨k,c,e,z⟩
    ·refine .inl ⟨k,?_⟩;have:y≠x:=fun e=>hj (q8w hN e1 (e▸hi));simp[this,e]
    ·exact .inr ⟨k,c,e,z.sameBut hs (cne y c e)⟩
  ·obtain⟨w',z⟩:=I.cell y c e;exact⟨w',z.sameBut hs (cne y c e)⟩
  ·obtain⟨e,n,ne,nf,d⟩:=I.pin p hp;exact⟨(hs.2 p.1 ne).trans e,n,ne,nf,d⟩
 ·have hfn:X.fn x=true:=by
   rcases hf with z|z
   ·exact z
   ·grind
  obtain⟨c,hc⟩:=I.ok.has x (.inl hk);obtain⟨w',z⟩:=I.cell x c hc;refine wpAny_storeName_cell I.ok.kind hk hc z (fun h' hc' hs=>?_);obtain⟨oc,hoc,hocd⟩:=id z;refine h { s with heap:=h' } ⟨I.ok,I.os,I.bare,⟨fun b o e n hb hx=>?_,fun b o e n hb hx=>?_,I.base.free,fun b o e hx=>?_,I.base.tups,I.base.frzs,I.base.tbls⟩,⟨m,hn.sameBut hs (Dm (cne x c hc)),fun j y v' e1 e2 e3=>?_⟩,fun y c' e=>?_,I.free,I.freeC,fun p hp=>?_,tracked ⟨oc,hoc,I.freeC x c hc⟩ hs,by simpa using I.len⟩ ⟨c,hs,.inr hc⟩
  ·exact(hs.2 b (By (Bh (Au e) (I.ok.cab x c hfn hc)))).trans (I.base.keep b o e n hb hx)
  ·obtain⟨sl,e1⟩:=I.base.slot b o e n hb hx;exact⟨sl,(hs.2 b (By (Bh (Au e) (I.ok.cab x c hfn hc)))).trans e1⟩
  ·obtain⟨o',e1⟩:=I.base.there b o e hx;exact⟨o',(hs.2 b (By (Bh (Au e) (I.ok.cab x c hfn hc)))).trans e1⟩
  ·by_cases hj:j=i
   ·subst hj;rw[hi] at e1;cases e1;rw[Nm hiσ] at e2;cases e2;exact⟨u,r,.inr ⟨.inl hk,c,hc,hc'⟩⟩
   ·rw[Kg (Dm hj)] at e2;obtain⟨u',r',q⟩:=hl j y v' e1 e2 e3;refine⟨u',r',?_⟩;rcases q with q|⟨k,c',e,z'⟩
    ·exact .inl q
    ·refine .inr ⟨k,c',e,z'.sameBut hs ?_⟩;rintro rfl;exact hj (q8w hN e1 (I.ok.inj _ _ _ e hc▸hi))
  ·by_cases hcc:c'=c
   ·grind
   ·obtain⟨w2,z2⟩:=I.cell y c' e;exact⟨w2,z2.sameBut hs hcc⟩
  ·obtain⟨e,n,ne,nf,d⟩:=I.pin p hp;refine⟨(hs.2 p.1 ?_).trans e,n,ne,nf,d⟩;intro q;rw[q,hoc] at e;have q':=Cg e;exact d w' (by rw[<- q'];exact hocd)
theorem q4e(I:Inv X pins σ H s)(hN:X.N.Nodup)(hi:X.N[i]?=some x)(hx:Loc X.env.scope x)(r:RelV v u)(h:∀s',Inv X pins (σ.set i (some v)) H s'->Q () s')(hf:X.fn x=true\/X.env.scope.names.lookup x=some .local:=by first|exact .inl rfl|exact .inr rfl|assumption):wpAny M A (storeName X.env x u) Q E s :=
 z0n I hN hi hx r (fun s' I' _=>h s' I') hf
theorem Inv.call'(I:Inv X pins σ H s)(ho:s'.os=s.os)(u:Un (frs X.stack) ch H H' s.heap s'.heap)(hok:HOk X.prog X.w H' s'.heap)(hg:Jg s'.gens)(hch:∀b∈ch,(b∈X.ex\/X.s₀.heap.objs.size<=b)/\b≠X.env.locals/\(∀x c,X.env.cells.lookup x=some c->c≠b)/\∀p∈X.pn++pins,p.1≠b):Inv X pins σ H' s':=by
 obtain⟨h',g',d',t',o'⟩:=s';have e:=ho;subst e;exact I.call (g':=g') (t':=t') (d':=d') u hok hg hch
end
abbrev XK:=Value->Option Addr->Hp->Prop
abbrev St:=List (Option V)
abbrev VK:=V->Hp->Prop
abbrev TE:=St->Hp->VK->Prop
abbrev TT:=St->Hp->(Bool->Hp->Prop)->Prop
abbrev TA:=St->Hp->(List V->Hp->Prop)->Prop
structure Ends where
 nx:St->Hp->Prop
 rt:VK
 bk:St->Hp->Prop:=fun _ _=>False
 ct:St->Hp->Prop:=fun _ _=>False
abbrev TS:=Ends->St->Hp->Prop
def EP(X:Cx)(pins:List (Addr×Obj))(σ:St)(Q:VK)(u:Value)(s':Ah):Prop:=∃v H',Inv X pins σ H' s'/\RelV v u/\Q v H'
def TP(X:Cx)(pins:List (Addr×Obj))(σ:St)(Q:Bool->Hp->Prop)(b:Bool)(s':Ah):Prop:=∃H',Inv X pins σ H' s'/\Q b H'
def AP(X:Cx)(pins:List (Addr×Obj))(σ:St)(Q:List V->Hp->Prop)(us:List Value)(s':Ah):Prop:=∃vs H',Inv X pins σ H' s'/\Vals vs us/\Q vs H'
def SP(X:Cx)(pins:List (Addr×Obj))(D:Ends)(f:Flow)(s':Ah):Prop :=
 match f with
 |.next=>∃σ' H',Inv X pins σ' H' s'/\D.nx σ' H'
 |.brk=>∃σ' H',Inv X pins σ' H' s'/\D.bk σ' H'
 |.cont=>∃σ' H',Inv X pins σ' H' s'/\D.ct σ' H'
 |.ret u=>∃v σ' H',Inv X pins σ' H' s'/\RelV v u/\D.rt v H'
def PE(X:Cx)(e:Expr)(t:TE):Prop :=
 ∀(pins:List (Addr×Obj)) (s:Ah) (σ:St) (H:Hp) (Q:VK),Inv X pins σ H s->t σ H Q->wpAny (model X.prog X.w) X.A (eval e X.env) (EP X pins σ Q) X.xe s
def PT(X:Cx)(e:Expr)(t:TT):Prop :=
 ∀(pins:List (Addr×Obj)) (s:Ah) (σ:St) (H:Hp) (Q:Bool->Hp->Prop),Inv X pins σ H s->t σ H Q->wpAny (model X.prog X.w) X.A (isTrue e X.env (eval e X.env)) (TP X pins σ Q) X.xe s
def PW(X:Cx)(e:Expr)(t:TT):Prop :=
 ∀(whole:Sem Value) (pins:List (Addr×Obj)) (s:Ah) (σ:St) (H:Hp) (Q:Bool->Hp->Prop),Inv X pins σ H s->t σ H Q->wpAny (model X.prog X.w) X.A (isTrue e X.env whole) (TP X pins σ Q) X.xe s
theorem PW.pt{X:Cx}{e:Expr}{t:TT}(h:PW X e t):PT X e t:=h _
def PA(X:Cx)(es:List Expr)(t:TA):Prop :=
 ∀(pos:Pos) (pins:List (Addr×Obj)) (s:Ah) (σ:St) (H:Hp) (Q:List V->Hp->Prop),Inv X pins σ H s->t σ H Q->wpAny (model X.prog X.w) X.A (spliced (Gu pos (Bd es X.env))) (AP X pins σ Q) X.xe s
def PS(X:Cx)(st:Stmt)(t:TS):Prop :=
 ∀(pins:List (Addr×Obj)) (s:Ah) (σ:St) (H:Hp) (D:Ends),Inv X pins σ H s->t D σ H->wpAny (model X.prog X.w) X.A (exec st X.env) (SP X pins D) X.xe s
def PSs(X:Cx)(st:List Stmt)(t:TS):Prop :=
 ∀(pins:List (Addr×Obj)) (s:Ah) (σ:St) (H:Hp) (D:Ends),Inv X pins σ H s->t D σ H->wpAny (model X.prog X.w) X.A (execs st X.env) (SP X pins D) X.xe s
theorem thn{t:Sem α}{Q Q':α->Ah->Prop}(h:wpAny M A t Q E s)(hQ:∀a s,Q a s->Q' a s):wpAny M A t Q' E s:=Bu h hQ fun _ _ x=>x
open PySem PySem.Spec PyProof.Rows
section
variable{X:Cx}
def tVar(i:Nat):TE:=fun σ H Q=>∃v,σ[i]?=some (some v)/\Q v H
def tC(v:V):TE:=fun _ H Q=>Q v H
theorem pe_var{pos:Pos}(hN:X.N[i]?=some x)(hv:Vis X.env.scope x)(hd:(x==("__debug__" : Str))=false:=by decide)(hcd:(x==("__classdict__" : Str))=false:=by decide):PE X (.Name x pos) (tVar i):=by
 intro pins s σ H Q I h;obtain⟨v,e,h⟩:=h;obtain⟨m,hn,hl⟩:=I.loc;obtain⟨u,r,l⟩:=hl i x v hN e hv;have fin:EP X pins σ Q u s:=⟨v,H,I,r,h⟩
 rcases l with⟨hk,hm⟩|⟨hk,c,hc,hcell⟩
 ·exact Rp (Ot I.ok.kind hk hn hm fin) hd
 ·rcases hk with hk|hk
  ·exact Rp (Ph I.ok.kind hk hc hcell fin) hd
  ·exact Rp (wpAny_loadName_free I.ok.kind hk hc hcell fin hcd) hd
theorem q0f{i j pos}:PE X (.Constant (.int i) j pos) (tC (.int i)):=fun _ _ _ H _ I h=>wpAny_Constant_int ⟨.int i,H,I.tok _,⟨_,rfl⟩,h⟩
theorem q5k{b j pos}:PE X (.Constant (.bool b) j pos) (tC (.bl b)):=fun _ _ _ H _ I h=>Constant_bool ⟨.bl b,H,I,rfl,h⟩
theorem x1m{j pos}:PE X (.Constant .none j pos) (tC .non):=fun _ _ _ H _ I h=>Constant_none ⟨.non,H,I,rfl,h⟩
theorem q0g{x j pos}:PE X (.Constant (.str x) j pos) (tC (.str x)):=fun _ _ _ H _ I h=>Calls.Constant_str ⟨.str x,H,I.tok _,⟨_,rfl⟩,h⟩
def Gl(X:Cx)(x:Str):Prop:=X.env.kindOf x=some .globalImplicit
theorem q3g{σ:St}(I:Inv X pins σ H s)(hg:Gl X x)(hm:X.mg x=some u)(h:Q u s)(hd:(x==("__debug__" : Str))=false:=by decide):wpAny (model X.prog X.w) X.A (eval (.Name x pos) X.env) Q E s :=
 Ls I.ok.kind hg (Calls.loadGlobal_global (by rw[I.ok.glob];exact I.mod.glob.keeps I.bk) hm h) hd
theorem q4u{E:Value->Ah->Prop}{σ:St}{pos:Pos}(I:Inv X pins σ H s)(hg:Gl X x)(hm:X.mg x=none)(hv:Fg x=some u)(h:Q u s)(hn:x ≠ "__name__" := by decide)(hd:(x==("__debug__" : Str))=false:=by decide):wpAny (model X.prog X.w) X.A (eval (.Name x pos) X.env) Q E s:=by
 obtain⟨mb,h1,h2⟩:=I.mod.blt;exact Ls I.ok.kind hg (Calls.loadGlobal_builtin (by rw[I.ok.glob];exact I.mod.glob.keeps I.bk) hm (by rw[I.ok.blt];exact h1.keeps I.bk) ((h2 x hn).trans hv) h) hd
theorem q0p{x:Str}{v:V}{u:Value}{pos:Pos}(hg:Gl X x)(hm:X.mg x=some u)(r:RelV v u)(hd:(x==("__debug__" : Str))=false:=by decide):PE X (.Name x pos) (tC v) :=
 fun _ _ _ H _ I h=>q3g I hg hm ⟨v,H,I,r,h⟩ hd
theorem z6n{x:Str}{v:V}{u:Value}{pos:Pos}(hg:Gl X x)(hm:X.mg x=none)(hv:Fg x=some u)(r:RelV v u)(hn:x ≠ "__name__" := by decide)(hd:(x==("__debug__" : Str))=false:=by decide):PE X (.Name x pos) (tC v) :=
 fun _ _ _ H _ I h=>q4u I hg hm hv ⟨v,H,I,r,h⟩ hn hd
variable{a b:Expr}{ta tb:TE}{pos:Pos}
def PC(X:Cx)(op:CmpOp)(a b:Expr)(t:TE):Prop :=
 ∀(pins:List (Addr×Obj)) (s:Ah) (σ:St) (H:Hp) (Q:VK),Inv X pins σ H s->t σ H Q ->
  wpAny (model X.prog X.w) X.A (eval a X.env) (fun v s₁=>wpAny (model X.prog X.w) X.A (eval b X.env) (fun u s₂=>wpAny (model X.prog X.w) X.A (Cz op v u) (EP X pins σ Q) X.xe s₂) X.xe s₁) X.xe s
theorem nobehind(b:Expr)(h:op≠.In)(h2:op≠.NotIn):Hf op b=false:=by
 have e1:(op==CmpOp.In)=false:=by grind
 have e2:(op==CmpOp.NotIn)=false:=by grind
 cases b<;>simp[Hf,e1,e2]
def tIsN(ta:TE):TE:=fun σ H Q=>ta σ H fun x H1=>Q (.bl (decide (x=.non))) H1
theorem RelV.none_iff(r:RelV x v):(v==Value.none)=decide (x=.non):=by
 cases x with
 |non=>cases r;rfl
 |bl _=>cases r;rfl
 |int _=>obtain⟨t,rfl⟩:=r;rfl
 |str _=>obtain⟨t,rfl⟩:=r;rfl
 |byt _=>obtain⟨t,rfl⟩:=r;rfl
 |flt _=>obtain⟨t,rfl⟩:=r;rfl
 |ref _=>cases r;rfl
 |ty _=>cases r;rfl
theorem pc_isN{j pos'}(ha:PE X a ta):PC X .Is a (.Constant .none j pos') (tIsN ta):=by
 intro pins s σ H Q I h;refine thn (ha pins s σ H _ I h) fun v s1 ⟨x,H1,I1,r1,q1⟩=>?_;exact Constant_none (is_none_gen ⟨.bl _,H1,I1,by rw[r1.none_iff];rfl,q1⟩)
def tB(t:TE):TT:=fun σ H Q=>t σ H fun x H1=>∃c,x=.bl c/\Q c H1
theorem z6o{op:CmpOp}{t:TE}(h:PC X op a b t)(h1:Hf op b=false:=by first|exact nobehind _ (by decide) (by decide)|rfl):PT X (.Compare a [op] [b] pos) (tB t):=by
 intro pins s σ H Q I hw;refine Ny (thn (h pins s σ H _ I hw) fun v s1 h1=>thn h1 fun u s2 h2=>thn h2 fun c s3 ⟨x,H1,I1,r1,q1⟩=>?_) h1;obtain⟨d,rfl,q⟩:=q1;cases r1;exact Fo ⟨H1,I1,q⟩
variable{tA tB':TT}{rest:List Expr}
def tAnd(t u:TT):TT:=fun σ H Q=>t σ H fun c H1=>if c=true then u σ H1 Q else Q false H1
def tOr(t u:TT):TT:=fun σ H Q=>t σ H fun c H1=>if c=true then Q true H1 else u σ H1 Q
def tNot(t:TT):TT:=fun σ H Q=>t σ H fun c H1=>Q (!c) H1
theorem q3h(ha:PT X a tA):PW X (.BoolOp .And [a] pos) tA:=by
 intro wh pins s σ H Q I h;refine isTrue_and (thn (ha pins s σ H Q I h) fun c s1 e=>?_);cases c with
 |true=>exact isTrue_and_nil e
 |false=>exact e
theorem q3v(ha:PT X a tA):PW X (.BoolOp .Or [a] pos) tA:=by
 intro wh pins s σ H Q I h;refine isTrue_or (thn (ha pins s σ H Q I h) fun c s1 e=>?_);cases c with
 |false=>exact isTrue_or_nil e
 |true=>exact e
theorem q4h(ha:PT X a tA)(hb:PW X (.BoolOp .And (b::rest) pos) tB'):PW X (.BoolOp .And (a::b::rest) pos) (tAnd tA tB'):=by
 intro wh pins s σ H Q I h;refine isTrue_and (thn (ha pins s σ H _ I h) fun c s1 ⟨H1,I1,q1⟩=>?_);cases c with
 |true=>exact hb wh pins s1 σ H1 Q I1 q1
 |false=>exact⟨H1,I1,q1⟩
theorem q6e(ha:PT X a tA)(hb:PW X (.BoolOp .Or (b::rest) pos) tB'):PW X (.BoolOp .Or (a::b::rest) pos) (tOr tA tB'):=by
 intro wh pins s σ H Q I h;refine isTrue_or (thn (ha pins s σ H _ I h) fun c s1 ⟨H1,I1,q1⟩=>?_);cases c with
 |true=>exact⟨H1,I1,q1⟩
 |false=>exact hb wh pins s1 σ H1 Q I1 q1
theorem pt_not(ha:PT X a tA):PT X (.UnaryOp .Not a pos) (tNot tA):=by
 intro pins s σ H Q I h;exact isTrue_not (ha pins s σ H (fun c H1=>Q (!c) H1) I h)
def tAndV(ta tb:TE):TE:=fun σ H Q=>ta σ H fun x H1=>∃c,x=.bl c/\if c=true then tb σ H1 Q else Q (.bl false) H1
def tOrV(ta tb:TE):TE:=fun σ H Q=>ta σ H fun x H1=>∃c,x=.bl c/\if c=true then Q (.bl true) H1 else tb σ H1 Q
def tNotV(ta:TE):TE:=fun σ H Q=>ta σ H fun x H1=>∃c,x=.bl c/\Q (.bl (!c)) H1
theorem q6a{op}{t:TE}(h:PE X a t):PE X (.BoolOp op [a] pos) t:=fun pins s σ H Q I hw=>BoolOp_one (h pins s σ H Q I hw)
theorem q6u(ha:PE X a ta)(hb:PE X (.BoolOp .And (b::rest) pos) tb):PE X (.BoolOp .And (a::b::rest) pos) (tAndV ta tb):=by
 intro pins s σ H Q I h;refine BoolOp_and (thn (ha pins s σ H _ I h) fun v s1 ⟨x,H1,I1,r1,q1⟩=>?_);obtain⟨c,rfl,q1⟩:=q1;cases r1;refine Fo ?_;cases c with
 |true=>exact hb pins s1 σ H1 Q I1 q1
 |false=>exact⟨.bl false,H1,I1,rfl,q1⟩
theorem pe_or(ha:PE X a ta)(hb:PE X (.BoolOp .Or (b::rest) pos) tb):PE X (.BoolOp .Or (a::b::rest) pos) (tOrV ta tb):=by
 intro pins s σ H Q I h;refine BoolOp_or (thn (ha pins s σ H _ I h) fun v s1 ⟨x,H1,I1,r1,q1⟩=>?_);obtain⟨c,rfl,q1⟩:=q1;cases r1;refine Fo ?_;cases c with
 |false=>exact hb pins s1 σ H1 Q I1 q1
 |true=>exact⟨.bl true,H1,I1,rfl,q1⟩
theorem z0o(ha:PE X a ta):PE X (.UnaryOp .Not a pos) (tNotV ta):=by
 intro pins s σ H Q I h;refine UnaryOp_ (thn (ha pins s σ H _ I h) fun v s1 ⟨x,H1,I1,r1,q1⟩=>?_);obtain⟨c,rfl,q1⟩:=q1;cases r1;exact not_of (Fo ⟨.bl (!c),H1,I1,rfl,q1⟩)
def tIf(t:TT)(ta tb:TE):TE:=fun σ H Q=>t σ H fun c H1=>if c=true then ta σ H1 Q else tb σ H1 Q
theorem q8x{c:Expr}(hc:PT X c tA)(ha:PE X a ta)(hb:PE X b tb):PE X (.IfExp c a b pos) (tIf tA ta tb):=by
 intro pins s σ H Q I h;refine wpAny_IfExp (thn (hc pins s σ H _ I h) fun d s1 ⟨H1,I1,q1⟩=>?_);cases d with
 |true=>exact ha pins s1 σ H1 Q I1 q1
 |false=>exact hb pins s1 σ H1 Q I1 q1
end
open PySem PySem.Spec PyProof.Rows
def SqL(K:Af)(H:Hp)(a:Addr)(xs:List V):Prop :=
 Rd H a (.lst xs) \/
  ∃(o:Obj) (its:Array Value) (n:Nat),K.lookup a=some o/\o.cls=.type "list" /\ o.dict=none/\o.data=.seq its n/\its.size<=sizeLine/\Vals xs its.toList
def SqT(K:Af)(H:Hp)(a:Addr)(xs:List V):Prop :=
 Rd H a (.tup xs) \/
  ∃(o:Obj) (its:Array Value) (n:Nat),K.lookup a=some o/\o.cls=.type "tuple" /\ o.data=.seq its n/\its.size<=sizeLine/\Vals xs its.toList
def absV:Value->Option V
 |.none=>some .non
 |.bool b=>some (.bl b)
 |.int i _=>some (.int i)
 |.str x _=>some (.str x)
 |.bytes b _=>some (.byt b)
 |.float b _=>some (.flt b)
 |.ref a=>some (.ref a)
 |.type n=>some (.ty n)
 |_=>none
theorem RelV.abs(r:RelV x u):absV u=some x:=by
 cases x with
 |non=>cases r;rfl
 |bl _=>cases r;rfl
 |int _=>obtain⟨t,rfl⟩:=r;rfl
 |str _=>obtain⟨t,rfl⟩:=r;rfl
 |byt _=>obtain⟨t,rfl⟩:=r;rfl
 |flt _=>obtain⟨t,rfl⟩:=r;rfl
 |ref _=>cases r;rfl
 |ty _=>cases r;rfl
theorem RelV.inj(r:RelV x u)(q:RelV y u):x=y:=Cg (r.abs.symm.trans q.abs)
theorem Vals.inj:∀{xs ys:List V} {us:List Value},Vals xs us->Vals ys us->xs=ys
 |_,_,_,.nil,.nil=>rfl
 |_,_,_,.cons r t,.cons r' t'=>by rw[r.inj r',Vals.inj t t']
section
variable{X:Cx}{pins:List (Addr×Obj)}{σ:St}{H:Hp}{s:Ah}{a:Addr}{xs ys:List V}
theorem SqL.of{K:Af}(h:H a=some (.lst xs)):SqL K H a xs:=.inl (.inl h)
theorem SqT.of{K:Af}(h:H a=some (.tup xs)):SqT K H a xs:=.inl (.inl h)
theorem Inv.list(I:Inv X pins σ H s)(h:SqL X.K H a xs):∃its:List Value,Vals xs its/\PlainL s.heap a its.toArray/\xs.length<=sizeLine:=by
 rcases h with h|⟨o,its,n,hk,hc,hd,hs,hz,r⟩
 ·obtain⟨z,its,n,r,e⟩:=h.ok I.hok;exact⟨its,r,⟨_,n,e,rfl,rfl,rfl⟩,z⟩
 ·refine⟨its.toList,r,⟨o,n,I.kIn a o hk,hc,hd,by simpa using hs⟩,?_⟩;have e:=r.length;simp only[Ip] at e;lia
theorem Inv.tuple(I:Inv X pins σ H s)(h:SqT X.K H a xs):∃its:List Value,Vals xs its/\IsTup s.heap a its.toArray/\xs.length<=sizeLine:=by
 rcases h with h|⟨o,its,n,hk,hc,hs,hz,r⟩
 ·obtain⟨z,its,r,p⟩:=h.ok I.hok;exact⟨its,r,p,z⟩
 ·refine⟨its.toList,r,⟨o,I.kIn a o hk,hc,n,by simpa using hs⟩,?_⟩;have e:=r.length;simp only[Ip] at e;lia
theorem Inv.list_inj(I:Inv X pins σ H s)(h:SqL X.K H a xs)(h':SqL X.K H a ys):xs=ys:=by
 obtain⟨its,r,⟨o,n,e,_,_,d⟩,_⟩:=I.list h;obtain⟨its',r',⟨o',n',e',_,_,d'⟩,_⟩:=I.list h';have:its=its':=by grind
 subst this;exact r.inj r'
theorem Inv.tuple_inj(I:Inv X pins σ H s)(h:SqT X.K H a xs)(h':SqT X.K H a ys):xs=ys:=by
 obtain⟨its,r,⟨o,e,_,n,d⟩,_⟩:=I.tuple h;obtain⟨its',r',⟨o',e',_,n',d'⟩,_⟩:=I.tuple h';have:its=its':=by grind
 subst this;exact r.inj r'
end
abbrev Cx.wish(X:Cx)(E:Value->Ah->Prop):Cx:={ X with xe:=E }
abbrev Cx.nox(X:Cx):Cx:=X.wish fun _ _=>False
theorem Cx.Ok.wish{X:Cx}(ok:X.Ok)(E:Value->Ah->Prop):(X.wish E).Ok :=
 ⟨ok.mod,ok.kind,ok.glob,ok.blt,ok.above,ok.inj,ok.has,ok.cab,ok.hd,ok.frames,ok.stk,ok.exf,ok.bs,ok.bsz,ok.noex,ok.exfs,ok.funs,ok.frf⟩
theorem Cx.Ok.unwish{X:Cx}(ok:(X.wish E).Ok):X.Ok :=
 ⟨ok.mod,ok.kind,ok.glob,ok.blt,ok.above,ok.inj,ok.has,ok.cab,ok.hd,ok.frames,ok.stk,ok.exf,ok.bs,ok.bsz,ok.noex,ok.exfs,ok.funs,ok.frf⟩
section
variable{X:Cx}{pins:List (Addr×Obj)}{σ:St}{H:Hp}{s:Ah}{E:Value->Ah->Prop}
theorem Inv.wish(I:Inv X pins σ H s)(E:Value->Ah->Prop):Inv (X.wish E) pins σ H s:=⟨I.ok.wish E,I.os,I.bare,I.base,I.loc,I.cell,I.free,I.freeC,I.pin,I.hok,I.len⟩
theorem Inv.unwish(I:Inv (X.wish E) pins σ H s):Inv X pins σ H s:=⟨I.ok.unwish,I.os,I.bare,I.base,I.loc,I.cell,I.free,I.freeC,I.pin,I.hok,I.len⟩
theorem SP.unwish(h:SP (X.wish E) pins D f s'):SP X pins D f s':=by
 cases f with
 |next=>obtain⟨σ',H',I,q⟩:=h;exact⟨σ',H',I.unwish,q⟩
 |brk=>obtain⟨σ',H',I,q⟩:=h;exact⟨σ',H',I.unwish,q⟩
 |cont=>obtain⟨σ',H',I,q⟩:=h;exact⟨σ',H',I.unwish,q⟩
 |ret u=>obtain⟨v,σ',H',I,r,q⟩:=h;exact⟨v,σ',H',I.unwish,r,q⟩
theorem PE.nox(h:PE X.nox e t):PE X e t:=fun pins s σ H Q I hw =>
 Bu (h pins s σ H Q (I.wish _) hw) (fun _ _ ⟨v,H',I',r,q⟩=>⟨v,H',I'.unwish,r,q⟩) fun _ _ z=>False.elim z
theorem PT.nox(h:PT X.nox e t):PT X e t:=fun pins s σ H Q I hw =>
 Bu (h pins s σ H Q (I.wish _) hw) (fun _ _ ⟨H',I',q⟩=>⟨H',I'.unwish,q⟩) fun _ _ z=>False.elim z
theorem PSs.nox{st:List Stmt}(h:PSs X.nox st t):PSs X st t:=fun pins s σ H D I hw =>
 Bu (h pins s σ H D (I.wish _) hw) (fun _ _ q=>q.unwish) fun _ _ z=>False.elim z
end
section
variable{X:Cx}{st:Stmt}{rest:List Stmt}{t u:TS}{e:Expr}{te:TE}{pos:Pos}
def tNext:TS:=fun D σ H=>D.nx σ H
def tSeq(t u:TS):TS:=fun D σ H=>t { D with nx:=u D } σ H
theorem q0j:PSs X [] tNext:=fun _ _ σ H _ I h=>Iq ⟨σ,H,I,h⟩
theorem q0b(h1:PS X st t)(h2:PSs X rest u):PSs X (st::rest) (tSeq t u):=by
 intro pins s σ H D I h;refine Mj (thn (h1 pins s σ H { D with nx:=u D } I h) fun f s1 q=>?_);cases f with
 |next =>
  obtain⟨σ',H',I',q⟩:=q;exact h2 pins s1 σ' H' D I' q
 |ret v=>exact q
 |brk=>exact q
 |cont=>exact q
theorem q0d(h1:PS X st t):PSs X [st] t:=by
 intro pins s σ H D I h;refine Mj (thn (h1 pins s σ H D I h) fun f s1 q=>?_);cases f with
 |next=>exact Iq q
 |ret v=>exact q
 |brk=>exact q
 |cont=>exact q
theorem Inv.quiet{σ:St}(I:Inv X pins σ H s):interactive X.env=false:=by simp[interactive,I.ok.kind]
def tDrop(te:TE):TS:=fun D σ H=>te σ H fun _ H1=>D.nx σ H1
theorem q0v(he:PE X e te)(hs:Nf e none pos.line X.env=pure false:=by rfl):PS X (.Expr e pos) (tDrop te):=by
 intro pins s σ H D I h;exact wpAny_Expr_any (thn (he pins s σ H _ I h) fun v s1 ⟨x,H1,I1,r1,q1⟩=>⟨σ,H1,I1,q1⟩) I.quiet hs
def tRet(te:TE):TS:=fun D σ H=>te σ H D.rt
theorem q0o(he:PE X e te):PS X (.Return (some e) pos) (tRet te):=by
 intro pins s σ H D I h;exact wpAny_Return_some (thn (he pins s σ H _ I h) fun v s1 ⟨x,H1,I1,r1,q1⟩=>⟨x,σ,H1,I1,r1,q1⟩)
def tIfS(c:TT)(t u:TS):TS:=fun D σ H=>c σ H fun b H1=>if b=true then t D σ H1 else u D σ H1
theorem q0w{c:Expr}{a b:List Stmt}{tc:TT}(hc:PT X c tc)(ha:PSs X a t)(hb:PSs X b u):PS X (.If c a b pos) (tIfS tc t u):=by
 intro pins s σ H D I h;refine wpAny_If (thn (hc pins s σ H _ I h) fun d s1 ⟨H1,I1,q1⟩=>?_);cases d with
 |true=>exact ha pins s1 σ H1 D I1 q1
 |false=>exact hb pins s1 σ H1 D I1 q1
def tNever:TS:=fun _ _ _=>False
theorem q1s:PS X st tNever:=fun _ _ _ _ _ _ h=>h.elim
end
abbrev TG:=V->St->Hp->(St->Hp->Prop)->Prop
abbrev TGs:=List V->St->Hp->(St->Hp->Prop)->Prop
def PG(X:Cx)(target:Expr)(t:TG):Prop :=
 ∀(pins:List (Addr×Obj)) (s:Ah) (σ:St) (H:Hp) (v:V) (u:Value) (Q:St->Hp->Prop),Inv X pins σ H s->RelV v u->t v σ H Q ->
  wpAny (model X.prog X.w) X.A (assign target X.env u) (fun _ s'=>∃σ' H',Inv X pins σ' H' s'/\Q σ' H') X.xe s
def PGs(X:Cx)(ts:List Expr)(t:TGs):Prop :=
 ∀(pins:List (Addr×Obj)) (s:Ah) (σ:St) (H:Hp) (vs:List V) (us:List Value) (Q:St->Hp->Prop),Inv X pins σ H s->Vals vs us->t vs σ H Q ->
  wpAny (model X.prog X.w) X.A (assignInOrder ((Ia ts X.env).map (·.2)) us) (fun _ s'=>∃σ' H',Inv X pins σ' H' s'/\Q σ' H') X.xe s
abbrev TSet:=V->V->V->Hp->(Hp->Prop)->Prop
def PSet(X:Cx)(t:TSet):Prop :=
 ∀(pins:List (Addr×Obj)) (s:Ah) (σ:St) (H:Hp) (o i v:V) (ov iv u:Value) (Q:Hp->Prop),Inv X pins σ H s->RelV o ov->RelV i iv->RelV v u->t o i v H Q ->
  wpAny (model X.prog X.w) X.A (setItem ov iv u) (fun _ s'=>∃H',Inv X pins σ H' s'/\Q H') X.xe s
abbrev TIp:=V->V->Hp->VK->Prop
def PIp(X:Cx)(op:Operator)(t:TIp):Prop :=
 ∀(pins:List (Addr×Obj)) (s:Ah) (σ:St) (H:Hp) (x y:V) (v u:Value) (Q:VK),Inv X pins σ H s->RelV x v->RelV y u->t x y H Q ->
  wpAny (model X.prog X.w) X.A (Py op v u) (EP X pins σ Q) X.xe s
section
variable{X:Cx}{pos:Pos}
def gName(i:Nat):TG:=fun v σ H Q=>Q (σ.set i (some v)) H
theorem q0l{i:Nat}{x:Str}(hN:X.N.Nodup)(hi:X.N[i]?=some x)(hx:Loc X.env.scope x)(hf:X.fn x=true\/X.env.scope.names.lookup x=some .local:=by first|exact .inl rfl|exact .inr rfl|assumption):PG X (.Name x pos) (gName i):=by
 intro pins s σ H v u Q I r h;exact Qo (q4e I hN hi hx r (fun s' I'=>⟨_,H,I',h⟩) hf)
def gNil:TGs:=fun vs σ H Q=>vs=[]/\Q σ H
def gCons(t:TG)(u:TGs):TGs:=fun vs σ H Q=>∃v r,vs=v::r/\t v σ H fun σ' H'=>u r σ' H' Q
theorem q1p:PGs X [] gNil:=by
 intro pins s σ H vs us Q I r h;obtain⟨e,h⟩:=h;exact Qp ⟨σ,H,I,h⟩
theorem q0r{e:Expr}{es:List Expr}{t:TG}{u:TGs}(h1:PG X e t)(h2:PGs X es u)(hs:(Ia (e::es) X.env).map (·.2)=assign e X.env::(Ia es X.env).map (·.2):=by rfl):PGs X (e::es) (gCons t u):=by
 intro pins s σ H vs us Q I r h;obtain⟨v,vr,e1,h⟩:=h;subst e1;cases r with
 |cons r rr =>
  rw[hs];refine Li (thn (h1 pins s σ H _ _ _ I r h) fun _ s1 ⟨σ1,H1,I1,q1⟩=>?_);exact h2 pins s1 σ1 H1 _ _ Q I1 rr q1
def gTup(K:Af)(n:Nat)(t:TGs):TG:=fun v σ H Q=>∃a xs,v=.ref a/\SqT K H a xs/\xs.length=n/\t xs σ H Q
theorem pg_tup{k:Nat}(hc:X.calm=true)(h:PGs X es t)(hn:(Ia es X.env).length=n:=by rfl)(hst:(Ia es X.env).findIdx? (·.1)=none:=by rfl):PG X (.Tuple es k pos) (gTup X.K n t):=by
 intro pins s σ H v u Q I r hw;obtain⟨a,xs,e1,hq,hl,hw⟩:=hw;subst e1;cases r;obtain⟨its,rv,ht,hz⟩:=I.tuple hq;refine assign_Tuple_tuple (I.ok.hd hc) ht (by simp[hn,<- hl,rv.length]) hst fun h' hx=>?_;have I1:Inv X pins σ H { s with heap:=h' }:=I.kept (t':=s.toks) fun b o e=>hx b o (By (Au e)) e;exact h pins _ σ H xs _ Q I1 (by simpa using rv) hw
def gSub(to ti:TE)(t:TSet):TG:=fun v σ H Q=>to σ H fun o H1=>ti σ H1 fun i H2=>t o i v H2 fun H3=>Q σ H3
theorem z6p{o i:Expr}{to ti:TE}{t:TSet}(ho:PE X o to)(hi:PE X i ti)(hs:PSet X t)(ha:∀v,assign (.Subscript o i pos) X.env v=(do
   let ov<-Lb [v] (eval o X.env);let iv<-Lb [v,ov] (eval i X.env)
   Mh pos
   Lb [v,ov,iv] (setItem ov iv v)
   release [v,ov,iv] []):=by intro _;rfl):PG X (.Subscript o i pos) (gSub to ti t):=by
 intro pins s σ H v u Q I r h;refine Ac (Du (thn (ho pins s σ H _ I h) fun ov s1 ⟨x,H1,I1,r1,q1⟩=>?_));refine Ac (Du (thn (hi pins s1 σ H1 _ I1 q1) fun iv s2 ⟨y,H2,I2,r2,q2⟩=>?_));refine Ac (Bz (Ac (Du (thn (hs pins s2 σ H2 x y v ov iv u _ I2 r1 r2 r q2) fun _ s3 ⟨H3,I3,q3⟩=>?_))));exact wpAny_release ⟨σ,H3,I3,q3⟩
def tAsg(te:TE)(g:TG):TS:=fun D σ H=>te σ H fun x H1=>g x σ H1 D.nx
theorem q3w{tg e:Expr}{te:TE}{g:TG}(he:PE X e te)(hg:PG X tg g)(hs:swapsWithSole [tg] e pos.line X.env=pure false:=by rfl)(hw:swappedStores [tg] e X.env=pure none:=by rfl)(h1:(Ia [tg] X.env).map (·.2)=[assign tg X.env]:=by rfl):PS X (.Assign [tg] e pos) (tAsg te g):=by
 intro pins s σ H D I h;refine wpAny_Assign_stores (thn (he pins s σ H _ I h) fun v s1 ⟨x,H1,I1,r1,q1⟩=>?_) hs hw;rw[h1];exact thn (hg pins s1 σ H1 x v _ I1 r1 q1) fun _ s2 q=>q
theorem q0i{i:Nat}{x:Str}{e:Expr}{te:TE}{pos':Pos}(hN:X.N.Nodup)(hi:X.N[i]?=some x)(hx:Loc X.env.scope x)(he:PE X e te)(hs:Nf e (some (.Name x pos')) pos.line X.env=pure false:=by rfl)(hf:X.fn x=true\/X.env.scope.names.lookup x=some .local:=by first|exact .inl rfl|exact .inr rfl|assumption):
  PS X (.Assign [.Name x pos'] e pos) (tAsg te (gName i)):=by
 intro pins s σ H D I h;refine wpAny_Assign_Name (thn (he pins s σ H _ I h) fun v s1 ⟨y,H1,I1,r1,q1⟩=>?_) hs;exact q4e I1 hN hi hx r1 (fun s2 I2=>⟨_,H1,I2,q1⟩) hf
def tPar(i j:Nat)(ta:TA):TS:=fun D σ H=>ta σ H fun vs H1=>∃v w,vs=[v,w]/\D.nx ((σ.set i (some v)).set j (some w)) H1
theorem ps_par{kt k2 pt2}(hc:X.calm=true)(hN:X.N.Nodup)(hi:X.N[i]?=some x)(hj:X.N[j]?=some y)(hij:i≠j)(hx:X.env.scope.names.lookup x=some .local)(hy:X.env.scope.names.lookup y=some .local)(ha:PA X [a,b] ta)(hw:swappedStores [.Tuple [.Name x px,.Name y py] kt pt] (.Tuple [a,b] k2 pt2) X.env=pure (some [x,y]))(hs:swapsWithSole [.Tuple [.Name x px,.Name y py] kt pt] (.Tuple [a,b] k2 pt2) pos.line X.env=pure false:=by rfl):
  PS X (.Assign [.Tuple [.Name x px,.Name y py] kt pt] (.Tuple [a,b] k2 pt2) pos) (tPar i j ta):=by
 intro pins s σ H D I h;refine Ac (Bz ?_);refine Ac (Ak ?_);refine Ac (Tuple_ (thn (ha _ pins s σ H _ I h) fun us s1 ⟨vs,H1,I1,r1,q1⟩=>?_));obtain⟨v,w,e1,q1⟩:=q1;subst e1;obtain⟨u1,u2,rfl,rv,rw'⟩:∃u1 u2,us=[u1,u2]/\RelV v u1/\RelV w u2:=by
  cases r1 with
  |cons p q =>
   cases q with
   |cons p' q' =>
    cases q';exact⟨_,_,rfl,p,p'⟩
 refine Dq ?_ (by show 2<=sizeLine;decide);have I2:Inv X pins σ H1 { s1 with heap:=s1.heap.push { cls:=.type "tuple",data:=.seq [u1,u2].toArray } }:=I1.kept (t':=s1.toks) fun b o e=>Ae _ e;rw[hw];refine Ac (Ak ?_);refine Ac (Jh (Ac (unpackItems_tuple (items:=#[u1,u2]) (I.ok.hd hc) (Sb s1.heap _) fun h' hx'=>?_)));have I3:=I2.kept (h':=h') (t':=s1.toks) fun b o e=>hx' b o (By (Au e)) e;refine Ac (Li (wpAny_bindName (q4e I3 hN hj (.inl hy) rw' (fun s2 I4=>?_) (.inr hy))));refine Li (wpAny_bindName (q4e I4 hN hi (.inl hx) rv (fun s3 I5=>Qp (Ak ?_)) (.inr hx)));rw[List.set_comm _ _ (Dm hij)] at I5;exact⟨_,H1,I5,q1⟩
def tAug(i:Nat)(te:TE)(ti:TIp):TS:=fun D σ H=>∃x,σ[i]?=some (some x)/\te σ H fun y H1=>ti x y H1 fun z H2=>D.nx (σ.set i (some z)) H2
theorem z0p{i:Nat}{x:Str}{e:Expr}{te:TE}{op:Operator}{ti:TIp}{pos':Pos}(hN:X.N.Nodup)(hi:X.N[i]?=some x)(hx:Loc X.env.scope x)(he:PE X e te)(ho:PIp X op ti)(hf:X.fn x=true\/X.env.scope.names.lookup x=some .local:=by first|exact .inl rfl|exact .inr rfl|assumption):
  PS X (.AugAssign (.Name x pos') op e pos) (tAug i te ti):=by
 intro pins s σ H D I h;obtain⟨v,e1,h⟩:=h;obtain⟨m,hn,hl⟩:=I.loc;have vis:Vis X.env.scope x:=by rcases hx with k|k;exact .inl k;exact .inr (.inl k)
 obtain⟨u,r,l⟩:=hl i x v hi e1 vis;refine wpAny_AugAssign_Name ?_;have go:wpAny (model X.prog X.w) X.A (eval e X.env) (fun w s₂=>wpAny (model X.prog X.w) X.A (Py op u w) (fun r s₃=>wpAny (model X.prog X.w) X.A (storeName X.env x r) (fun _=>SP X pins D .next) X.xe s₃) X.xe s₂) X.xe s:=by
  refine thn (he pins s σ H _ I h) fun w s1 ⟨y,H1,I1,r1,q1⟩=>?_;refine thn (ho pins s1 σ H1 v y u w _ I1 r r1 q1) fun z s2 ⟨zv,H2,I2,r2,q2⟩=>?_;exact q4e I2 hN hi hx r2 (fun s3 I3=>⟨_,H2,I3,q2⟩) hf
 rcases l with⟨hk,hm⟩|⟨hk,c,hc,hcell⟩
 ·exact Ot I.ok.kind hk hn hm go
 ·rcases hk with hk|hk
  ·exact Ph I.ok.kind hk hc hcell go
  ·rcases hx with k|k
   ·have:X.env.scope.names.lookup x=some .free:=hk;rw[k] at this;cases this
   ·have:X.env.scope.names.lookup x=some .free:=hk;rw[k] at this;cases this
def tAugS(to ti te:TE)(tget:V->V->Hp->VK->Prop)(tip:TIp)(tset:TSet):TS:=fun D σ H=>to σ H fun o H1=>ti σ H1 fun i H2=>tget o i H2 fun x H3=>te σ H3 fun y H4=>tip x y H4 fun z H5=>tset o i z H5 fun H6=>D.nx σ H6
def PGet(X:Cx)(t:V->V->Hp->VK->Prop):Prop :=
 ∀(pins:List (Addr×Obj)) (s:Ah) (σ:St) (H:Hp) (o i:V) (ov iv:Value) (Q:VK),Inv X pins σ H s->RelV o ov->RelV i iv->t o i H Q ->
  wpAny (model X.prog X.w) X.A (getItem ov iv) (EP X pins σ Q) X.xe s
theorem x2t(ho:PE X o to)(hi:PE X i ti)(hg:PGet X tget)(he:PE X e te)(hp:PIp X op tip)(hs:PSet X tset)(ha:∀ov iv new,augStore i ov iv new=(do Lb [new,ov,iv] (setItem ov iv new);release [new,ov,iv] [];pure .next):=by intros;rfl):PS X (.AugAssign (.Subscript o i tpos) op e pos) (tAugS to ti te tget tip tset):=by
 intro pins s σ H D I h;refine wpAny_AugAssign_SubscriptAny (thn (ho pins s σ H _ I h) fun ov s1 ⟨x1,H1,I1,r1,q1⟩=>?_) ha;refine thn (hi pins s1 σ H1 _ I1 q1) fun iv s2 ⟨x2,H2,I2,r2,q2⟩=>?_;refine thn (hg pins s2 σ H2 x1 x2 ov iv _ I2 r1 r2 q2) fun old s3 ⟨x3,H3,I3,r3,q3⟩=>?_;refine thn (he pins s3 σ H3 _ I3 q3) fun v s4 ⟨x4,H4,I4,r4,q4⟩=>?_;refine thn (hp pins s4 σ H4 x3 x4 old v _ I4 r3 r4 q4) fun new s5 ⟨x5,H5,I5,r5,q5⟩=>?_;exact thn (hs pins s5 σ H5 x1 x2 x5 ov iv new _ I5 r1 r2 r5 q5) fun _ s6 ⟨H6,I6,q6⟩=>⟨σ,H6,I6,q6⟩
end
section
variable{X:Cx}{pos:Pos}
def tWhile(c:TT)(tb:TS):TS:=fun D σ H=>∃W:Nat->St->Hp->Prop,(∃m,W m σ H)/\∀m σ H,W m σ H ->
 c σ H fun b H1=>if b=true then ∃N:St->Hp->Prop,(∀σ' H',N σ' H'->∃m',m'<m/\W m' σ' H')/\tb { D with nx:=N,ct:=N,bk:=D.nx } σ H1 else D.nx σ H1
theorem q8y{c:Expr}{body:List Stmt}{tc:TT}{tb:TS}(hp:Pz (model X.prog X.w) X.A X.env X.xe)(hc:PT X c tc)(hb:PSs X body tb):PS X (.While c body [] pos) (tWhile tc tb):=by
 intro pins s σ H D I h;obtain⟨W,⟨m0,w0⟩,turn⟩:=h;refine wpAny_While (codeAny_whileLoop (fun n s'=>∃σ' H',Inv X pins σ' H' s'/\W n σ' H') ?_ m0 ⟨σ,H,I,w0⟩);rintro n s1 ⟨σ1,H1,I1,w1⟩;refine Gg hp (thn (hc pins s1 σ1 H1 _ I1 (turn n σ1 H1 w1)) fun b s2 ⟨H2,I2,q2⟩=>?_);cases b with
 |true =>
  obtain⟨N,hN,q2⟩:=q2;refine Gg hp (thn (hb pins s2 σ1 H2 _ I2 q2) fun f s3 q3=>?_);cases f with
  |next =>
   obtain⟨σ3,H3,I3,n3⟩:=q3;obtain⟨m',hm,w3⟩:=hN σ3 H3 n3;exact⟨m',hm,σ3,H3,I3,w3⟩
  |cont =>
   obtain⟨σ3,H3,I3,n3⟩:=q3;obtain⟨m',hm,w3⟩:=hN σ3 H3 n3;exact⟨m',hm,σ3,H3,I3,w3⟩
  |brk=>exact q3
  |ret v=>exact q3
 |false =>
  exact Iq ⟨σ1,H2,I2,q2⟩
end
structure It where
 go:Nat->Hp->Prop
 yld:Nat->Hp->V->Hp->Prop
 stop:Nat->Hp->Prop
def FpOk(X:Cx)(pins:List (Addr×Obj))(H:Hp)(b:Addr):Prop :=
 H b=none/\b≠X.env.locals/\b∉X.fs/\(b∈X.ex\/X.s₀.heap.objs.size<=b)/\(∀x c,X.env.cells.lookup x=some c->c≠b)/\∀p∈X.pn++pins,p.1≠b
theorem Inv.fpOk{σ:St}{b:Addr}(I:Inv X pins σ H s)(hb:s.heap.objs.size<=b)(hn:H' b=none):FpOk X pins H' b:=by
 refine⟨hn,Gv (Bh I.lt hb),I.nofs hb,.inr (Aq I.sz hb),fun x c e z=>?_,fun p hp z=>?_⟩
 ·obtain⟨v,q⟩:=I.cell x c e;exact absurd (Bh q.lt (by rw[z];exact hb)) (Gh _)
 ·exact absurd (Bh (Au (I.pin p hp).1) (by rw[z];exact hb)) (Gh _)
structure Turn (P:Program) (w:World) (K:Af) (tg:Expr) (J:It) (fp:List Addr) (it:Addr) (tn:Nat->Heap->Prop):Prop where
 mem:it∈fp
 obj:∀i h,tn i h->∀b∈fp,∃o,h.get? b=some o/\∀v,o.data≠.cell v
 keep:∀i h h',tn i h->(∀b∈fp,∀o,h.get? b=some o->h'.get? b=some o)->tn i h'
 item:∀(X:Cx),X.prog=P->X.w=w->X.K=K->X.calm=true->∀(i:Nat) (pins:List (Addr×Obj)) (s:Ah) (σ:St) (H:Hp) (E:Value->Ah->Prop),Inv X pins σ H s->(∀b∈fp,FpOk X pins H b)->tn i s.heap->J.go i H ->
  wpAny (model P w) X.A (Kh (.ref it)) (fun r s1=>∃u,r=some u /\
   wpAny (model P w) X.A (Ir tg (.ref it) u) (fun _ s2=>∃x H',Inv X pins σ H' s2/\RelV x u/\J.yld i H x H'/\tn (i+1) s2.heap/\∀b∈fp,H' b=none) E s1) E s
 done:∀(X:Cx),X.prog=P->X.w=w->X.K=K->X.calm=true->∀(i:Nat) (pins:List (Addr×Obj)) (s:Ah) (σ:St) (H:Hp) (E:Value->Ah->Prop),Inv X pins σ H s->(∀b∈fp,FpOk X pins H b)->tn i s.heap->J.stop i H ->
  wpAny (model P w) X.A (Kh (.ref it)) (fun r s1=>r=none/\Inv X pins σ H s1) E s
 self:∀(A:Around) (i:Nat) (s:Ah) (Q:Value->Ah->Prop) (E:Value->Ah->Prop),tn i s.heap->Q (.ref it) s->wpAny (model P w) A (Jr (.ref it)) Q E s
abbrev TI:=St->Hp->(It->Hp->Prop)->Prop
def PIE(X:Cx)(pins:List (Addr×Obj))(σ:St)(tg:Expr)(R:It->Hp->Prop)(itv:Value)(s2:Ah):Prop :=
 ∃(it:Addr) (fp:List Addr) (tn:Nat->Heap->Prop) (J:It) (H':Hp),itv=.ref it/\Inv X pins σ H' s2/\Turn X.prog X.w X.K tg J fp it tn/\tn 0 s2.heap/\(∀b∈fp,FpOk X pins H' b)/\R J H'
def PI(X:Cx)(tg iter:Expr)(wi:TI):Prop :=
 ∀(pins:List (Addr×Obj)) (s:Ah) (σ:St) (H:Hp) (R:It->Hp->Prop),Inv X pins σ H s->wi σ H R ->
  wpAny (model X.prog X.w) X.A (eval iter X.env) (fun v s1=>wpAny (model X.prog X.w) X.A (Jr v) (PIE X pins σ tg R) X.xe s1) X.xe s
theorem z5g (ho : s.heap.get? it = some o) (hc : o.cls = .type n) (hd : o.data = .fields vs)
    (hn : ["enumerate", "zip", "dict_itemiterator", "dict_reverseitemiterator", "odict_iterator", "itertools.zip_longest", "itertools.pairwise"].contains n = false) (hQ : Q () s) : wpAny M A (Ir tg (.ref it) u) Q E s := by
  cases tg <;> first
    | exact Ak hQ
    | (cases u <;> first
        | exact Ak hQ
        | (refine Ac (wpAny_load ho ?_)
           rw [hc, hd]
           show wpAny M A (if (["enumerate", "zip", "dict_itemiterator", "dict_reverseitemiterator", "odict_iterator", "itertools.zip_longest", "itertools.pairwise"].contains n && vs[0]? == some (Fh _)) = true then _ else _) Q E s
           rw [if_neg (by intro h; rw [hn, Bool.false_and] at h; cases h)]
           exact Ak hQ))
def Itl(K:Af)(a:Addr):It :=
 ⟨fun i H=>∃xs x,SqL K H a xs/\xs[i]?=some x,fun i H x H'=>H'=H/\∀xs,SqL K H a xs->xs[i]?=some x,fun i H=>∃xs,SqL K H a xs/\xs.length<=i⟩
def Itt(K:Af)(a:Addr):It :=
 ⟨fun i H=>∃xs x,SqT K H a xs/\xs[i]?=some x,fun i H x H'=>H'=H/\∀xs,SqT K H a xs->xs[i]?=some x,fun i H=>∃xs,SqT K H a xs/\xs.length<=i⟩
def Itr(lo:Int)(n:Nat):It:=⟨fun i _=>i<n,fun i H x H'=>H'=H/\x=.int (lo+i),fun i _=>n<=i⟩
theorem z6q{K:Af}(a it:Addr):Turn P w K tg (Itl K a) [it] it (fun i h=>h.IsListIter it a i) where
 mem:=by simp
 obj:=fun i h st b hb=>by
  have e:b=it:=by grind
  subst e;obtain⟨o,e,c,d⟩:=st;exact⟨o,e,fun v z=>by rw[d] at z;cases z⟩
 keep:=fun i h h' st k=>st.at fun o e=>k it (by simp) o e
 item:=by
  intro X hP hw hK hc i pins s σ H E I hf st hg;subst hP hw hK;obtain⟨xs,x,hq,hx⟩:=hg;obtain⟨its,rv,p,hz⟩:=I.list hq;obtain⟨u,hu,ru⟩:=rv.get hx;obtain⟨f0,f1,f2,f3,f4,f5⟩:=hf it (by simp);refine wpAny_pyNext_list_item st p.isList (by simpa using hu) fun h' st' sb=>?_;have I1:Inv X pins σ H { s with heap:=h' }:=I.turned (t':=s.toks) (fun b o hb e=>(sb.2 b hb).trans e) f0 f1 f3 f4 f5;obtain⟨o,e,c,d⟩:=id st';exact⟨u,rfl,z5g e c d (by decide) ⟨x,H,I1,ru,⟨rfl,fun ys hy=>by rw[I.list_inj hy hq];exact hx⟩,st',fun b hb=>(hf b hb).1⟩⟩
 done:=by
  intro X hP hw hK hc i pins s σ H E I hf st hg;subst hP hw hK;obtain⟨xs,hq,hx⟩:=hg;obtain⟨its,rv,p,hz⟩:=I.list hq;obtain⟨f0,f1,f2,f3,f4,f5⟩:=hf it (by simp);have hl:=rv.length;exact wpAny_pyNext_list_end (I.ok.hd hc) st p.isList (by simp;lia) fun h' eb=>⟨rfl,I.turned (t':=s.toks) (fun b o hb e=>eb b o hb e) f0 f1 f3 f4 f5⟩
 self:=fun _ _ _ _ _ st h=>wpAny_pyIter_listiter st h
theorem z5h{K:Af}(a it:Addr):Turn P w K tg (Itt K a) [it] it (fun i h=>h.IsTupleIter it a i) where
 mem:=by simp
 obj:=fun i h st b hb=>by
  have e:b=it:=by grind
  subst e;obtain⟨o,e,c,d⟩:=st;exact⟨o,e,fun v z=>by rw[d] at z;cases z⟩
 keep:=fun i h h' st k=>st.at fun o e=>k it (by simp) o e
 item:=by
  intro X hP hw hK hc i pins s σ H E I hf st hg;subst hP hw hK;obtain⟨xs,x,hq,hx⟩:=hg;obtain⟨its,rv,p,hz⟩:=I.tuple hq;obtain⟨u,hu,ru⟩:=rv.get hx;obtain⟨f0,f1,f2,f3,f4,f5⟩:=hf it (by simp);refine wpAny_pyNext_tuple_item st (show s.heap.IsTuple a its.toArray from p) (by simpa using hu) fun h' st' sb=>?_;have I1:Inv X pins σ H { s with heap:=h' }:=I.turned (t':=s.toks) (fun b o hb e=>(sb.2 b hb).trans e) f0 f1 f3 f4 f5;obtain⟨o,e,c,d⟩:=id st';exact⟨u,rfl,z5g e c d (by decide) ⟨x,H,I1,ru,⟨rfl,fun ys hy=>by rw[I.tuple_inj hy hq];exact hx⟩,st',fun b hb=>(hf b hb).1⟩⟩
 done:=by
  intro X hP hw hK hc i pins s σ H E I hf st hg;subst hP hw hK;obtain⟨xs,hq,hx⟩:=hg;obtain⟨its,rv,p,hz⟩:=I.tuple hq;obtain⟨f0,f1,f2,f3,f4,f5⟩:=hf it (by simp);have hl:=rv.length;exact wpAny_pyNext_tuple_end (I.ok.hd hc) st (show s.heap.IsTuple a its.toArray from p) (by simp;lia) fun h' eb=>⟨rfl,I.turned (t':=s.toks) (fun b o hb e=>eb b o hb e) f0 f1 f3 f4 f5⟩
 self:=fun _ _ _ _ _ st h=>wpAny_pyIter_tupleiter st h
theorem z5i{K:Ki}(it:Addr)(lo:Int)(n:Nat):Turn P w K tg (Itr lo n) [it] it (fun i h=>IsRangeIter h it (lo+(i:Nat)*1) ((n:Int)-(i:Nat)) 1) where
 mem:=by simp
 obj:=fun i h st b hb=>by
  have e:b=it:=by grind
  subst e;exact⟨_,st,fun v z=>by
   have z':=z;cases z'⟩
 keep:=fun i h h' st k=>k it (by simp) _ st
 item:=by
  intro X hP hw hK hc i pins s σ H E I hf st hg;subst hP hw hK;obtain⟨f0,f1,f2,f3,f4,f5⟩:=hf it (by simp);have W:=Walks.range (prog:=X.prog) (w:=X.w) (I.ok.hd hc) it lo 1 n;refine W.item i s _ _ hg st fun v h' tk hv st' kk=>?_;obtain⟨t,rfl⟩:=hv;have I1:Inv X pins σ H { s with heap:=h',toks:=tk }:=I.turned (fun b o hb e=>kk b o (by simpa using hb) e) f0 f1 f3 f4 f5;refine⟨_,rfl,z5g st' rfl rfl (by decide) ⟨.int (lo+i),H,I1,⟨t,?_⟩,⟨rfl,rfl⟩,st',fun b hb=>(hf b hb).1⟩⟩;rw[Int.mul_one]
 done:=by
  intro X hP hw hK hc i pins s σ H E I hf st hg;obtain⟨f0,f1,f2,f3,f4,f5⟩:=hf it (by simp);exact wpAny_pyNext_range_end (I.ok.hd hc) st (by have:n<=i:=hg;lia) fun h' eb=>⟨rfl,I.turned (t':=s.toks) (fun b o hb e=>eb b o hb e) f0 f1 f3 f4 f5⟩
 self:=fun _ _ _ _ _ st h=>wpAny_pyIter_rangeiter st h
open PySem PySem.Spec PyProof.Rows
section
variable{X:Cx}{tg:Expr}
theorem z3s{σ:St}{lo:Int}(I:Inv X pins σ H s)(h1 : -(2^62)<=lo)(h2:lo<2^62)(h3 : -(2^62)<=hi)(h4:hi<2^62)(q:R (Itr lo (hi-lo).toNat) H):wpAny (model X.prog X.w) X.A (Jr (.ref s.heap.objs.size)) (PIE X pins σ tg R) E { s with heap:=s.heap.push { cls:=.type "range",data:=.fields #[.int lo t,.int hi u,.int 1 v] },toks:=tk }:=by
 refine wpAny_pyIter_range (IsRange.new ..) (small_one h1 h2 h3 h4) ?_;have I1:Inv X pins σ H { s with heap:=s.heap.push { cls:=.type "range",data:=.fields #[.int lo t,.int hi u,.int 1 v] },toks:=tk }:=I.kept fun b o e=>Ae _ e;refine⟨(s.heap.push { cls:=.type "range",data:=.fields #[.int lo t,.int hi u,.int 1 v] }).objs.size,[(s.heap.push { cls:=.type "range",data:=.fields #[.int lo t,.int hi u,.int 1 v] }).objs.size],_,_,H,rfl,
  I1.kept (t':=tk) fun b o e=>Ae _ e,z5i _ lo (hi-lo).toNat,?_,fun b hb=>?_,q⟩
 ·have e1:lo+((0:Nat):Int)*1=lo:=by simp
  have e2:(((hi-lo).toNat:Nat):Int)-((0:Nat):Int)=Eo.Range.rangeSize lo hi 1:=by rw[rangeSize_one];split<;>lia
  rw[e1,e2];exact Bb _ rfl
 ·have e:b=(s.heap.push { cls:=.type "range",data:=.fields #[.int lo t,.int hi u,.int 1 v] }).objs.size:=by simpa using hb
  subst e;exact I1.fpOk (Aj _) (I1.hok.fresh (Aj _))
def iRng1(ta:TA):TI:=fun σ H R=>ta σ H fun vs H1=>∃j:Int,vs=[.int j] /\ -(2^62)<=j/\j<2^62/\R (Itr 0 j.toNat) H1
def iRng2(ta:TA):TI:=fun σ H R=>ta σ H fun vs H1=>∃i j:Int,vs=[.int i,.int j]/\(-(2^62)<=i/\i<2^62 /\ -(2^62)<=j/\j<2^62)/\R (Itr i (j-i).toNat) H1
theorem q1q{a:Expr}{ta:TA}{p pos:Pos}(hg:Gl X "range")(hm:X.mg "range" = none)(ha:PA X [a] ta)(hs:Bd [a] X.env=[(false,eval a X.env)]:=by rfl):PI X tg (.Call (.Name "range" p) [a] [] pos) (iRng1 ta):=by
 intro pins s σ H R I h;refine Call_ (q4u I hg hm boot_range (Dk (thn (ha pos pins s σ H _ I h) fun us s1 ⟨vs,H1,I1,r1,q1⟩=>?_) hs rfl));obtain⟨j,e,q1,q2,q⟩:=q1;subst e;cases r1 with
 |cons r rr =>
  cases rr;obtain⟨t,rfl⟩:=r;exact call_range_1 (z3s I1 (by lia) (by lia) q1 q2 (by simpa using q))
theorem z6r{a b:Expr}{ta:TA}{p pos:Pos}(hg:Gl X "range")(hm:X.mg "range" = none)(ha:PA X [a,b] ta)(hs:Bd [a,b] X.env=[(false,eval a X.env),(false,eval b X.env)]:=by rfl)(hs2:Bd [b] X.env=[(false,eval b X.env)]:=by rfl):
  PI X tg (.Call (.Name "range" p) [a,b] [] pos) (iRng2 ta):=by
 intro pins s σ H R I h;refine Call_ (q4u I hg hm boot_range (Dk (thn (ha pos pins s σ H _ I h) fun us s1 ⟨vs,H1,I1,r1,q1⟩=>?_) (by rw[hs,hs2]) (by rw[hs2];rfl)));obtain⟨i,j,e,⟨q1,q2,q3,q4⟩,q⟩:=q1;subst e;cases r1 with
 |cons r rr =>
  cases rr with
  |cons r' rr =>
   cases rr;obtain⟨t,rfl⟩:=r;obtain⟨t',rfl⟩:=r';exact call_range_2 (z3s I1 q1 q2 q3 q4 q)
def tFor(wi:TI)(g:TG)(tb:TS):TS:=fun D σ H=>wi σ H fun J H1=>∃W:Nat->Nat->St->Hp->Prop,(∃m,W 0 m σ H1)/\∀i m σ H,W i m σ H ->
 (J.stop i H/\D.nx σ H)\/(J.go i H/\∃N:St->Hp->Prop,(∀σ' H',N σ' H'->∃m',m'<m/\W (i+1) m' σ' H')/\∀x H',J.yld i H x H'->g x σ H' fun σ2 H2=>tb { D with nx:=N,ct:=N,bk:=D.nx } σ2 H2)
def pinsAt(fp:List Addr)(h:Heap):List (Addr×Obj):=fp.filterMap fun b=>(h.get? b).map fun o=>(b,o)
theorem q1v(hb:b∈fp)(e:h.get? b=some o):(b,o)∈pinsAt fp h:=Qa.mpr ⟨b,hb,by rw[e];rfl⟩
theorem z6s(hp:p∈pinsAt fp h):p.1∈fp/\h.get? p.1=some p.2:=by
 obtain⟨b,hb,e⟩:=Qa.mp hp;cases q:h.get? b with
 |none=>rw[q] at e;cases e
 |some o =>
  rw[q] at e;have e':=Cg e;subst e';exact⟨hb,q⟩
theorem Inv.pinned{σ:St}(I:Inv X pins σ H s)(hf:∀b∈fp,FpOk X pins H b)(ho:∀b∈fp,∃o,s.heap.get? b=some o/\∀v,o.data≠.cell v):Inv X (pins++pinsAt fp s.heap) σ H s :=
 I.pins_of fun p hp=>(Az.mp hp).elim (fun z=>I.pin p (Ay _ z)) fun z=>by
  obtain⟨hb,e⟩:=z6s z;obtain⟨f0,f1,f2,_⟩:=hf p.1 hb;obtain⟨o,e',d⟩:=ho p.1 hb;rw[e] at e';cases e';exact⟨e,f0,f1,f2,d⟩
theorem Inv.unpinned{σ:St}(I:Inv X (pins++pl) σ H s):Inv X pins σ H s:=I.pins_of fun p hp=>I.pin p (Ay _ (Co _ hp))
theorem q1h{iter:Expr}{body:List Stmt}{wi:TI}{g:TG}{tb:TS}{pos:Pos}(hp:Pz (model X.prog X.w) X.A X.env X.xe)(hc:X.calm=true)(hi:PI X tg iter wi)(hg:PG X tg g)(hb:PSs X body tb)(hs:∀x,Fp iter X.env x=pure x:=by intro _;rfl):PS X (.For tg iter body [] pos) (tFor wi g tb):=by
 intro pins s σ H D I h;refine wpAny_For (thn (hi pins s σ H _ I h) fun v s1 h1=>thn h1 fun itv s2 h2=>?_) hs;obtain⟨it,fp,tn,J,H2,e,I2,T,st2,f2,W,⟨m0,w0⟩,turn⟩:=h2;subst e;have stat:∀{H':Hp},(∀b∈fp,H' b=none)->∀b∈fp,FpOk X pins H' b:=fun hn b hb=>⟨hn b hb,(f2 b hb).2⟩
 refine codeAny_forLoop_any (fun n s'=>∃i σ' H',Inv X pins σ' H' s'/\tn i s'.heap/\(∀b∈fp,H' b=none)/\W i n σ' H') ?_ m0 ⟨0,σ,H2,I2,st2,fun b hb=>(f2 b hb).1,w0⟩;rintro n s3 ⟨i,σ3,H3,I3,st3,fr3,w3⟩;rcases turn i n σ3 H3 w3 with⟨stop,qn⟩|⟨go,N,hN,step⟩
 ·refine Gg hp (thn (T.done X rfl rfl rfl hc i pins s3 σ3 H3 X.xe I3 (stat fr3) st3 stop) fun r s4 ⟨hr,I4⟩=>?_);subst hr;exact Iq ⟨σ3,H3,I4,qn⟩
 ·refine Gg hp (thn (T.item X rfl rfl rfl hc i pins s3 σ3 H3 X.xe I3 (stat fr3) st3 go) fun r s4 ⟨u,hr,h4⟩=>?_);subst hr;refine Gg hp (thn h4 fun _ s5 ⟨x,H5,I5,r5,y5,st5,fr5⟩=>?_);have I5':=I5.pinned (stat fr5) (T.obj _ _ st5);refine Gg hp (thn (hg _ s5 σ3 H5 x u _ I5' r5 (step x H5 y5)) fun _ s6 ⟨σ6,H6,I6,q6⟩=>?_);refine Gg hp (thn (hb _ s6 σ6 H6 _ I6 q6) fun f s7 q7=>?_);have again:∀{σ7:St} {H7:Hp},Inv X (pins++pinsAt fp s5.heap) σ7 H7 s7->N σ7 H7->∃m,m<n/\∃i σ' H',Inv X pins σ' H' s7/\tn i s7.heap/\(∀b∈fp,H' b=none)/\W i m σ' H':=fun{σ7 H7} I7 n7=>by
   obtain⟨m',hm,w7⟩:=hN σ7 H7 n7;refine⟨m',hm,i+1,σ7,H7,I7.unpinned,T.keep _ _ _ st5 fun b hb o e=>(I7.pin (b,o) (Ay _ (Ay _ (q1v hb e)))).1,fun b hb=>?_,w7⟩;obtain⟨o,e,d⟩:=T.obj _ _ st5 b hb;exact(I7.pin (b,o) (Ay _ (Ay _ (q1v hb e)))).2.1
  cases f with
  |next=>obtain⟨σ7,H7,I7,n7⟩:=q7;exact again I7 n7
  |cont=>obtain⟨σ7,H7,I7,n7⟩:=q7;exact again I7 n7
  |brk=>obtain⟨σ7,H7,I7,q7⟩:=q7;exact⟨σ7,H7,I7.unpinned,q7⟩
  |ret v=>obtain⟨x7,σ7,H7,I7,r7,q7⟩:=q7;exact⟨x7,σ7,H7,I7.unpinned,r7,q7⟩
end
theorem q2i{K:Ki}{g:TG}{tb:TS}{D:Ends}(Pv:Nat->St->Hp->Prop)(h0:Pv 0 σ H)(hl:∀i σ H,i<=xs.length->Pv i σ H->SqL K H a xs)(hs:∀i x σ H,xs[i]?=some x->Pv i σ H->g x σ H fun σ2 H2=>tb { D with nx:=Pv (i+1),ct:=Pv (i+1),bk:=D.nx } σ2 H2)(hd:∀σ H,Pv xs.length σ H->D.nx σ H):
  ∃W:Nat->Nat->St->Hp->Prop,(∃m,W 0 m σ H)/\∀i m σ H,W i m σ H ->
   ((Itl K a).stop i H/\D.nx σ H)\/((Itl K a).go i H/\∃N:St->Hp->Prop,(∀σ' H',N σ' H'->∃m',m'<m/\W (i+1) m' σ' H')/\∀x H',(Itl K a).yld i H x H'->g x σ H' fun σ2 H2=>tb { D with nx:=N,ct:=N,bk:=D.nx } σ2 H2):=by
 refine⟨fun i m σ H=>m=xs.length-i/\i<=xs.length/\Pv i σ H,⟨xs.length,by simp,Ax _,h0⟩,?_⟩;rintro i m σ H ⟨rfl,hi,p⟩;have q:=hl i σ H hi p;by_cases hlt:i<xs.length
 ·refine .inr ⟨⟨xs,xs[i],q,by simp[hlt]⟩,Pv (i+1),fun σ' H' p'=>⟨xs.length-(i+1),by lia,rfl,hlt,p'⟩,fun x H' y=>?_⟩;obtain⟨e,y⟩:=y;subst e;exact hs i x σ _ (y xs q) p
 ·have e:i=xs.length:=by lia
  subst e;exact .inl ⟨⟨xs,q,Aj _⟩,hd σ H p⟩
theorem x2u{K:Ki}{g:TG}{tb:TS}{D:Ends}(Pv:Nat->St->Hp->Prop)(h0:Pv 0 σ H)(hl:∀i σ H,i<=xs.length->Pv i σ H->SqT K H a xs)(hs:∀i x σ H,xs[i]?=some x->Pv i σ H->g x σ H fun σ2 H2=>tb { D with nx:=Pv (i+1),ct:=Pv (i+1),bk:=D.nx } σ2 H2)(hd:∀σ H,Pv xs.length σ H->D.nx σ H):
  ∃W:Nat->Nat->St->Hp->Prop,(∃m,W 0 m σ H)/\∀i m σ H,W i m σ H ->
   ((Itt K a).stop i H/\D.nx σ H)\/((Itt K a).go i H/\∃N:St->Hp->Prop,(∀σ' H',N σ' H'->∃m',m'<m/\W (i+1) m' σ' H')/\∀x H',(Itt K a).yld i H x H'->g x σ H' fun σ2 H2=>tb { D with nx:=N,ct:=N,bk:=D.nx } σ2 H2):=by
 refine⟨fun i m σ H=>m=xs.length-i/\i<=xs.length/\Pv i σ H,⟨xs.length,by simp,Ax _,h0⟩,?_⟩;rintro i m σ H ⟨rfl,hi,p⟩;have q:=hl i σ H hi p;by_cases hlt:i<xs.length
 ·refine .inr ⟨⟨xs,xs[i],q,by simp[hlt]⟩,Pv (i+1),fun σ' H' p'=>⟨xs.length-(i+1),by lia,rfl,hlt,p'⟩,fun x H' y=>?_⟩;obtain⟨e,y⟩:=y;subst e;exact hs i x σ _ (y xs q) p
 ·have e:i=xs.length:=by lia
  subst e;exact .inl ⟨⟨xs,q,Aj _⟩,hd σ H p⟩
theorem q1x{lo:Int}{g:TG}{tb:TS}{D:Ends}(Pv:Nat->St->Hp->Prop)(h0:Pv 0 σ H)(hs:∀i σ H,i<n->Pv i σ H->g (.int (lo+i)) σ H fun σ2 H2=>tb { D with nx:=Pv (i+1),ct:=Pv (i+1),bk:=D.nx } σ2 H2)(hd:∀σ H,Pv n σ H->D.nx σ H):
  ∃W:Nat->Nat->St->Hp->Prop,(∃m,W 0 m σ H)/\∀i m σ H,W i m σ H ->
   ((Itr lo n).stop i H/\D.nx σ H)\/((Itr lo n).go i H/\∃N:St->Hp->Prop,(∀σ' H',N σ' H'->∃m',m'<m/\W (i+1) m' σ' H')/\∀x H',(Itr lo n).yld i H x H'->g x σ H' fun σ2 H2=>tb { D with nx:=N,ct:=N,bk:=D.nx } σ2 H2):=by
 refine⟨fun i m σ H=>m=n-i/\i<=n/\Pv i σ H,⟨n,by simp,Ax _,h0⟩,?_⟩;rintro i m σ H ⟨rfl,hi,p⟩;by_cases hlt:i<n
 ·refine .inr ⟨hlt,Pv (i+1),fun σ' H' p'=>⟨n-(i+1),by lia,rfl,hlt,p'⟩,fun x H' y=>?_⟩;obtain⟨e,y⟩:=y;subst e y;exact hs i σ _ hlt p
 ·have e:i=n:=by lia
  subst e;exact .inl ⟨Aj _,hd σ H p⟩
theorem q8z(Pv:St->Hp->Prop)(μ:St->Hp->Nat)(h0:Pv σ H)(hs:∀σ H,Pv σ H->c σ H fun b H1=>if b=true then tb { D with nx:=fun σ' H'=>Pv σ' H'/\μ σ' H'<μ σ H,ct:=fun σ' H'=>Pv σ' H'/\μ σ' H'<μ σ H,bk:=D.nx } σ H1 else D.nx σ H1)(mono:∀σ H Q Q',(∀b H1,Q b H1->Q' b H1)->c σ H Q->c σ H Q'):tWhile c tb D σ H:=by
 refine⟨fun m σ H=>m=μ σ H/\Pv σ H,⟨_,rfl,h0⟩,?_⟩;rintro m σ H ⟨rfl,p⟩;refine mono σ H _ _ (fun b H1 q=>?_) (hs σ H p);cases b with
 |true=>exact⟨_,fun σ' H' ⟨p',l⟩=>⟨_,l,rfl,p'⟩,q⟩
 |false=>exact q
open PySem PySem.Spec PyProof.Rows
abbrev R2:=V->V->Hp->VK->Prop
def OpR(X:Cx)(f:Value->Value->Sem Value)(r:R2):Prop :=
 ∀(pins:List (Addr×Obj)) (s:Ah) (σ:St) (H:Hp) (x y:V) (v u:Value) (Q:VK),Inv X pins σ H s->RelV x v->RelV y u->r x y H Q ->
  wpAny (model X.prog X.w) X.A (f v u) (EP X pins σ Q) X.xe s
def UnR(X:Cx)(f:Value->Sem Value)(r:V->Hp->VK->Prop):Prop :=
 ∀(pins:List (Addr×Obj)) (s:Ah) (σ:St) (H:Hp) (x:V) (v:Value) (Q:VK),Inv X pins σ H s->RelV x v->r x H Q ->
  wpAny (model X.prog X.w) X.A (f v) (EP X pins σ Q) X.xe s
def CallR(X:Cx)(f:Value)(r:List V->Hp->VK->Prop):Prop :=
 ∀(pins:List (Addr×Obj)) (s:Ah) (σ:St) (H:Hp) (xs:List V) (us:List Value) (Q:VK),Inv X pins σ H s->Vals xs us->r xs H Q ->
  wpAny (model X.prog X.w) X.A (call f us) (EP X pins σ Q) X.xe s
def TruR(X:Cx)(r:V->Hp->(Bool->Hp->Prop)->Prop):Prop :=
 ∀(pins:List (Addr×Obj)) (s:Ah) (σ:St) (H:Hp) (x:V) (v:Value) (Q:Bool->Hp->Prop),Inv X pins σ H s->RelV x v->r x H Q ->
  wpAny (model X.prog X.w) X.A (truthy v) (TP X pins σ Q) X.xe s
def tOp(r:R2)(ta tb:TE):TE:=fun σ H Q=>ta σ H fun x H1=>tb σ H1 fun y H2=>r x y H2 Q
def tUn(r:V->Hp->VK->Prop)(ta:TE):TE:=fun σ H Q=>ta σ H fun x H1=>r x H1 Q
def rI(C:Int->Int->Prop)(g:Int->Int->V):R2:=fun x y H Q=>∃i j,x=.int i/\y=.int j/\C i j/\Q (g i j) H
def rI0(g:Int->Int->V):R2:=fun x y H Q=>∃i j,x=.int i/\y=.int j/\Q (g i j) H
def rU(g:Int->V):V->Hp->VK->Prop:=fun x H Q=>∃i,x=.int i/\Q (g i) H
section
variable{X:Cx}{a b c:Expr}{ta tb tc:TE}{pos:Pos}
theorem binT(ha:PE X a ta)(hb:PE X b tb){σ:St}{R:V->V->Hp->Prop}(I:Inv X pins σ H s)(h:ta σ H fun x H1=>tb σ H1 fun y H2=>R x y H2){f:Value->Value->Sem Value}(hf:∀v u s2 x y H2,Inv X pins σ H2 s2->RelV x v->RelV y u->R x y H2->wpAny (model X.prog X.w) X.A (f v u) Q X.xe s2):
  wpAny (model X.prog X.w) X.A (eval a X.env) (fun v s₁=>wpAny (model X.prog X.w) X.A (eval b X.env) (fun u s₂=>wpAny (model X.prog X.w) X.A (f v u) Q X.xe s₂) X.xe s₁) X.xe s:=by
 refine thn (ha pins s σ H _ I h) fun v s1 ⟨x,H1,I1,r1,q1⟩=>?_;refine thn (hb pins s1 σ H1 _ I1 q1) fun u s2 ⟨y,H2,I2,r2,q2⟩=>?_;exact hf v u s2 x y H2 I2 r1 r2 q2
theorem q0u{op:Operator}{r:R2}(ho:OpR X (Gi op) r)(ha:PE X a ta)(hb:PE X b tb):PE X (.BinOp a op b pos) (tOp r ta tb):=by
 intro pins s σ H Q I h;exact wpAny_BinOp (binT ha hb I h fun v u s2 x y H2 I2 rx ry q=>ho pins s2 σ H2 x y v u Q I2 rx ry q)
theorem z9s{op:UnaryOp}{r:V->Hp->VK->Prop}(ho:UnR X (unaryOp op) r)(ha:PE X a ta):PE X (.UnaryOp op a pos) (tUn r ta):=by
 intro pins s σ H Q I h;exact UnaryOp_ (thn (ha pins s σ H _ I h) fun v s1 ⟨x,H1,I1,r1,q1⟩=>ho pins s1 σ H1 x v Q I1 r1 q1)
theorem opI{g:Int->Int->Int}(rule:∀(i j:Int) (t u:Tok) (s:Ah) (Q:Value->Ah->Prop) (E:Value->Ah->Prop),C i j->Q (.int (g i j) s.toks) { s with toks:=s.toks+1 }->wpAny (model X.prog X.w) X.A (f (.int i t) (.int j u)) Q E s):
  OpR X f (rI C fun i j=>.int (g i j)):=by
 intro pins s σ H x y v u Q I rx ry h;obtain⟨i,j,rfl,rfl,hc,q⟩:=h;obtain⟨t,rfl⟩:=rx;obtain⟨t',rfl⟩:=ry;exact rule i j t t' s _ _ hc ⟨.int (g i j),H,I.tok _,⟨_,rfl⟩,q⟩
theorem opI0{g:Int->Int->Int}(rule:∀(i j:Int) (t u:Tok) (s:Ah) (Q:Value->Ah->Prop) (E:Value->Ah->Prop),Q (.int (g i j) s.toks) { s with toks:=s.toks+1 }->wpAny (model X.prog X.w) X.A (f (.int i t) (.int j u)) Q E s):
  OpR X f (rI0 fun i j=>.int (g i j)):=by
 intro pins s σ H x y v u Q I rx ry h;obtain⟨i,j,rfl,rfl,q⟩:=h;obtain⟨t,rfl⟩:=rx;obtain⟨t',rfl⟩:=ry;exact rule i j t t' s _ _ ⟨.int (g i j),H,I.tok _,⟨_,rfl⟩,q⟩
theorem opB0{g:Int->Int->Bool}(rule:∀(i j:Int) (t u:Tok) (s:Ah) (Q:Value->Ah->Prop) (E:Value->Ah->Prop),Q (.bool (g i j)) s->wpAny (model X.prog X.w) X.A (f (.int i t) (.int j u)) Q E s):
  OpR X f (rI0 fun i j=>.bl (g i j)):=by
 intro pins s σ H x y v u Q I rx ry h;obtain⟨i,j,rfl,rfl,q⟩:=h;obtain⟨t,rfl⟩:=rx;obtain⟨t',rfl⟩:=ry;exact rule i j t t' s _ _ ⟨.bl (g i j),H,I,rfl,q⟩
def CDiv(i j:Int):Prop:=0<j/\j<1073741824
def CPow(i j:Int):Prop:=0<=j/\j<=1000000/\i.natAbs<2^64
def CMul(i j:Int):Prop:=(-(2^64)<i/\i<2^64)\/(-(2^64)<j/\j<2^64)
theorem CMul.ok(h:CMul i j):IntMulOk i j:=by
 rcases h with⟨h1,h2⟩|⟨h1,h2⟩
 ·exact .of_left (intBits_le_64 h1 h2)
 ·exact .of_right (intBits_le_64 h1 h2)
theorem op_add:OpR X (Gi .Add) (rI0 fun i j=>.int (i+j)):=opI0 fun _ _ _ _ _ _ _ q=>add_int q
theorem z0q:OpR X (Gi .Sub) (rI0 fun i j=>.int (i-j)):=opI0 fun _ _ _ _ _ _ _ q=>sub_int q
theorem op_mul:OpR X (Gi .Mult) (rI CMul fun i j=>.int (i*j)):=opI fun _ _ _ _ _ _ _ hc q=>mul_int q hc.ok
theorem z6t:OpR X (Gi .FloorDiv) (rI CDiv fun i j=>.int (i / j)):=opI fun i j _ _ _ _ _ hc q=>by
 have h1:=hc.1;have h2:=hc.2;exact floordiv_int (by lia) (by rw[Int.fdiv_eq_ediv_of_nonneg i (by lia)];exact q) (.inl (PyProof.noPylong_small (by lia)))
theorem q8f:OpR X (Gi .Mod) (rI (fun _ j=>0<j) fun i j=>.int (i%j)):=opI fun i j _ _ _ _ _ hc q=>by
 exact mod_int' (by lia) (by rw[Int.fmod_eq_emod_of_nonneg i (by lia)];exact q)
theorem op_pow:OpR X (Gi .Pow) (rI CPow fun i j=>.int (i^j.toNat)):=opI fun _ _ _ _ _ _ _ hc q=>pow_int_small hc.1 hc.2.1 hc.2.2 q
theorem z2k:OpR X (Py .Add) (rI0 fun i j=>.int (i+j)):=opI0 fun _ _ _ _ _ _ _ q=>iadd_int q
theorem unI{g:Int->Int}(rule:∀(i:Int) (t:Tok) (s:Ah) (Q:Value->Ah->Prop) (E:Value->Ah->Prop),Q (.int (g i) s.toks) { s with toks:=s.toks+1 }->wpAny (model X.prog X.w) X.A (f (.int i t)) Q E s):
  UnR X f (rU fun i=>.int (g i)):=by
 intro pins s σ H x v Q I rx h;obtain⟨i,rfl,q⟩:=h;obtain⟨t,rfl⟩:=rx;exact rule i t s _ _ ⟨.int (g i),H,I.tok _,⟨_,rfl⟩,q⟩
theorem z3t:UnR X (unaryOp .USub) (rU fun i=>.int (-i)):=unI fun _ _ _ _ _ q=>neg_int q
end
def scal:V->V->Bool
 |.non,.non=>true|.non,.int _=>true|.int _,.non=>true|.non,.bl _=>true|.bl _,.non=>true|.non,.str _=>true|.str _,.non=>true
 |.int _,.int _=>true|.bl _,.bl _=>true|.str _,.str _=>true|.byt _,.byt _=>true
 |.int _,.str _=>true|.str _,.int _=>true|.bl _,.str _=>true|.str _,.bl _=>true
 |_,_=>false
def rEq:R2:=fun x y H Q=>scal x y=true/\Q (.bl (decide (x=y))) H
def rNe:R2:=fun x y H Q=>scal x y=true/\Q (.bl (!decide (x=y))) H
theorem z6u:decide (V.int i=V.int j)=(i==j):=by
 rw[Iu];simp
theorem x1n:decide (V.bl i=V.bl j)=(i==j):=by
 rw[Iu];simp
theorem dec_str:decide (V.str i=V.str j)=(i==j):=by
 rw[Iu];simp
theorem z6v:decide (V.byt i=V.byt j)=(i.toList==j.toList):=by
 rw[Iu];cases i;cases j;simp
section
variable{X:Cx}{a b c:Expr}{ta tb tc:TE}{pos:Pos}
theorem q1c{σ:St}(I:Inv X pins σ H s)(q:Q (.bl k) H)(e:k=k'):EP X pins σ Q (.bool k') s:=by
 subst e;exact⟨.bl k,H,I,rfl,q⟩
theorem op_eq:OpR X (Cz .Eq) rEq:=by
 intro pins s σ H x y v u Q I rx ry h;obtain⟨hs,q⟩:=h;cases x with
 |non =>
  cases rx;cases y with
  |non=>cases ry;exact PySem.EqNone.eq_none_none (q1c I q (by simp))
  |bl j=>cases ry;exact PySem.EqNone.eq_none_bool (q1c I q (by simp))
  |int j=>obtain⟨t',rfl⟩:=ry;exact PySem.EqNone.eq_none_int (q1c I q (by simp))
  |str j=>obtain⟨t',rfl⟩:=ry;exact PySem.EqNone.eq_none_str (q1c I q (by simp))
  |_=>exact absurd (show false=true from hs) Bl
 |bl i =>
  cases rx;cases y with
  |non=>cases ry;exact PySem.EqNone.eq_bool_none (q1c I q (by simp))
  |bl j=>cases ry;exact eq_bool (q1c I q x1n)
  |str j=>obtain⟨t',rfl⟩:=ry;exact PySem.EqMixed.eq_bool_str (q1c I q (by simp))
  |_=>exact absurd (show false=true from hs) Bl
 |int i =>
  obtain⟨t,rfl⟩:=rx;cases y with
  |non=>cases ry;exact PySem.EqNone.eq_int_none (q1c I q (by simp))
  |int j=>obtain⟨t',rfl⟩:=ry;exact eq_int (q1c I q z6u)
  |str j=>obtain⟨t',rfl⟩:=ry;exact PySem.EqMixed.eq_int_str (q1c I q (by simp))
  |_=>exact absurd (show false=true from hs) Bl
 |str i =>
  obtain⟨t,rfl⟩:=rx;cases y with
  |non=>cases ry;exact PySem.EqNone.eq_str_none (q1c I q (by simp))
  |bl j=>cases ry;exact PySem.EqMixed.eq_str_bool (q1c I q (by simp))
  |int j=>obtain⟨t',rfl⟩:=ry;exact PySem.EqMixed.eq_str_int (q1c I q (by simp))
  |str j=>obtain⟨t',rfl⟩:=ry;exact eq_str (q1c I q dec_str)
  |_=>exact absurd (show false=true from hs) Bl
 |byt i =>
  obtain⟨t,rfl⟩:=rx;cases y with
  |byt j=>obtain⟨t',rfl⟩:=ry;exact W.eq_bytes (q1c I q z6v)
  |_=>exact absurd (show false=true from hs) Bl
 |_=>cases y<;>exact absurd (show false=true from hs) Bl
theorem op_ne:OpR X (Cz .NotEq) rNe:=by
 intro pins s σ H x y v u Q I rx ry h;obtain⟨hs,q⟩:=h;cases x with
 |non =>
  cases rx;cases y with
  |non=>cases ry;exact PySem.EqNone.ne_none_none (q1c I q (by simp))
  |bl j=>cases ry;exact PySem.EqNone.ne_none_bool (q1c I q (by simp))
  |int j=>obtain⟨t',rfl⟩:=ry;exact PySem.EqNone.ne_none_int (q1c I q (by simp))
  |str j=>obtain⟨t',rfl⟩:=ry;exact PySem.EqNone.ne_none_str (q1c I q (by simp))
  |_=>exact absurd (show false=true from hs) Bl
 |bl i =>
  cases rx;cases y with
  |non=>cases ry;exact PySem.EqNone.ne_bool_none (q1c I q (by simp))
  |bl j=>cases ry;exact ne_bool (q1c I q (congrArg not x1n))
  |str j=>obtain⟨t',rfl⟩:=ry;exact PySem.EqMixed.ne_bool_str (q1c I q (by simp))
  |_=>exact absurd (show false=true from hs) Bl
 |int i =>
  obtain⟨t,rfl⟩:=rx;cases y with
  |non=>cases ry;exact PySem.EqNone.ne_int_none (q1c I q (by simp))
  |int j=>obtain⟨t',rfl⟩:=ry;exact ne_int (q1c I q (congrArg not z6u))
  |str j=>obtain⟨t',rfl⟩:=ry;exact PySem.EqMixed.ne_int_str (q1c I q (by simp))
  |_=>exact absurd (show false=true from hs) Bl
 |str i =>
  obtain⟨t,rfl⟩:=rx;cases y with
  |non=>cases ry;exact PySem.EqNone.ne_str_none (q1c I q (by simp))
  |bl j=>cases ry;exact PySem.EqMixed.ne_str_bool (q1c I q (by simp))
  |int j=>obtain⟨t',rfl⟩:=ry;exact PySem.EqMixed.ne_str_int (q1c I q (by simp))
  |str j=>obtain⟨t',rfl⟩:=ry;exact ne_str (q1c I q (congrArg not dec_str))
  |_=>exact absurd (show false=true from hs) Bl
 |byt i =>
  obtain⟨t,rfl⟩:=rx;cases y with
  |byt j=>obtain⟨t',rfl⟩:=ry;exact W.ne_bytes (q1c I q (congrArg not z6v))
  |_=>exact absurd (show false=true from hs) Bl
 |_=>cases y<;>exact absurd (show false=true from hs) Bl
theorem z2l:OpR X (Cz .Lt) (rI0 fun i j=>.bl (decide (i<j))):=opB0 fun _ _ _ _ _ _ _ q=>lt_int q
theorem q5l:OpR X (Cz .Gt) (rI0 fun i j=>.bl (decide (j<i))):=opB0 fun _ _ _ _ _ _ _ q=>gt_int q
theorem op_ge:OpR X (Cz .GtE) (rI0 fun i j=>.bl (decide (j<=i))):=opB0 fun _ _ _ _ _ _ _ q=>ge_int q
theorem op_in_str:OpR X (Cz .In) (fun x y H Q=>∃i j,x=.str i/\y=.str j/\Q (.bl (!(Dy j i 0 j.length 1).isEmpty)) H):=by
 intro pins s σ H x y v u Q I rx ry h;obtain⟨i,j,rfl,rfl,q⟩:=h;obtain⟨t,rfl⟩:=rx;obtain⟨t',rfl⟩:=ry;exact in_str (q1c I q rfl)
theorem OpR.or(h:OpR X f r)(h':OpR X f r'):OpR X f (fun x y H Q=>r x y H Q\/r' x y H Q):=by
 intro pins s σ H x y v u Q I rx ry q;rcases q with q|q
 ·exact h pins s σ H x y v u Q I rx ry q
 ·exact h' pins s σ H x y v u Q I rx ry q
theorem nomark(b:Expr)(h:op≠.In:=by decide)(h2:op≠.NotIn:=by decide):Hf op b=false:=by
 have e1:(op==CmpOp.In)=false:=by grind
 have e2:(op==CmpOp.NotIn)=false:=by grind
 cases b<;>simp[Hf,e1,e2]
theorem q4k{op:CmpOp}{r:R2}(ho:OpR X (Cz op) r)(ha:PE X a ta)(hb:PE X b tb)(hm:Hf op b=false):PE X (.Compare a [op] [b] pos) (tOp r ta tb):=by
 intro pins s σ H Q I h;exact wpAny_Compare1 (binT ha hb I h fun v u s2 x y H2 I2 rx ry q=>ho pins s2 σ H2 x y v u Q I2 rx ry q) hm
def tTest(t:TE):TT:=fun σ H Q=>t σ H fun x H'=>∃k,x=.bl k/\Q k H'
theorem q0h{op:CmpOp}{r:R2}(ho:OpR X (Cz op) r)(ha:PE X a ta)(hb:PE X b tb)(hm:Hf op b=false):PT X (.Compare a [op] [b] pos) (tTest (tOp r ta tb)):=by
 intro pins s σ H Q I h;refine Ny (thn (ha pins s σ H _ I h) fun v s1 ⟨x,H1,I1,r1,q1⟩=>thn (hb pins s1 σ H1 _ I1 q1) fun u s2 ⟨y,H2,I2,r2,q2⟩ =>
  thn (ho pins s2 σ H2 x y v u _ I2 r1 r2 q2) fun c s3 ⟨z,H3,I3,r3,k,e,q3⟩=>?_) hm
 subst e;cases r3;exact Fo ⟨H3,I3,q3⟩
def TruV(K:Af)(x:V)(H:Hp)(k:Bool):Prop :=
 match x with
 |.non=>k=false
 |.bl b=>k=b
 |.int i=>k=(i != 0)
 |.str y=>y.length<=sizeLine/\k=((y.length:Int) != 0)
 |.byt y=>y.size<=sizeLine/\k=((y.size:Int) != 0)
 |.ref p=>(∃xs,SqL K H p xs/\k = !xs.isEmpty)\/(∃xs,SqT K H p xs/\k = !xs.isEmpty)\/∃kvs,H p=some (.dK kvs)/\k = !kvs.isEmpty
 |_=>False
theorem z5j{kvs:List (κ×V)}{vs:List (κ×Value)}(r:KV kvs vs):(!vs.isEmpty) = !kvs.isEmpty:=by
 cases r<;>rfl
theorem q8g(r:Vals xs its):(!its.toArray.isEmpty) = !xs.isEmpty:=by
 cases r<;>simp
theorem line63:(sizeLine:Nat)<2^63:=by rw[Fe];decide
theorem tru_ok:TruR X (fun x H Q=>∃k,TruV X.K x H k/\Q k H):=by
 intro pins s σ H x v Q I rx h;obtain⟨k,e,q⟩:=h;have hs:=Fe;cases x with
 |non =>
  cases rx;have e':=e;subst e';exact truthy_none ⟨H,I,q⟩
 |bl b =>
  cases rx;have e':=e;subst e';exact Fo ⟨H,I,q⟩
 |int i =>
  obtain⟨t,rfl⟩:=rx;have e':=e;subst e';exact PySem.P.truthy_int ⟨H,I,q⟩
 |str y =>
  obtain⟨t,rfl⟩:=rx;obtain⟨hy,e'⟩:y.length<=sizeLine/\k=((y.length:Int) != 0):=e;subst e';exact PySem.P.truthy_str (by lia) ⟨H,I.tok _,q⟩
 |byt y =>
  obtain⟨t,rfl⟩:=rx;obtain⟨hy,e'⟩:y.size<=sizeLine/\k=((y.size:Int) != 0):=e;subst e';exact W.truthy_bytes (by lia) ⟨H,I.tok _,q⟩
 |ref p =>
  cases rx;have e':=e;rcases e' with⟨xs,hx,e'⟩|⟨xs,hx,e'⟩|⟨kvs,hx,e'⟩
  ·subst e';obtain⟨its,r,pl,hz⟩:=I.list hx;have hlen:=r.length;exact wpAny_truthy_list pl.isList (by simp only[Ba];lia) ⟨H,I.tok _,by rw[q8g r];exact q⟩
  ·subst e';obtain⟨its,r,pl,hz⟩:=I.tuple hx;have hlen:=r.length;exact truthy_tuple pl (by simp only[Ba];lia) ⟨H,I.tok _,by rw[q8g r];exact q⟩
  ·subst e';obtain⟨hz,hS,vs,r,m⟩:kvs.length<=sizeLine/\(p==Ff)=false/\∃vs,KV kvs vs/\s.heap.DictOf (mixKind X.prog X.w) p vs:=I.hok p _ hx;have hlen:=He r;exact wpAny_truthy_dict hS m (by lia) ⟨H,I.tok _,by rw[z5j r];exact q⟩
 |_=>exact(show False from e).elim
theorem z9t(ha:PE X a ta)(he:∀whole,isTrue a X.env whole=(do let v<-whole;Mh a.pos;Lb [v] (truthy v))):
  PT X a (fun σ H Q=>ta σ H fun x H'=>∃k,TruV X.K x H' k/\Q k H'):=by
 intro pins s σ H Q I h;exact isTrue_plain (thn (ha pins s σ H _ I h) fun v s1 ⟨x,H1,I1,r1,q1⟩=>tru_ok pins s1 σ H1 x v Q I1 r1 q1) (he _)
theorem op_add_str:OpR X (Gi .Add) (fun x y H Q=>∃i j,x=.str i/\y=.str j/\i.length+j.length<=sizeLine/\Q (.str (i++j)) H):=by
 intro pins s σ H x y v u Q I rx ry h;obtain⟨i,j,rfl,rfl,hz,q⟩:=h;obtain⟨t,rfl⟩:=rx;obtain⟨t',rfl⟩:=ry;exact add_str (fun t' tk=>⟨.str (i++j),H,I.tok _,⟨_,rfl⟩,q⟩) hz
theorem q4l:OpR X (Py .Add) (fun x y H Q=>∃i j,x=.str i/\y=.str j/\i.length+j.length<=sizeLine/\Q (.str (i++j)) H):=by
 intro pins s σ H x y v u Q I rx ry h;obtain⟨i,j,rfl,rfl,hz,q⟩:=h;obtain⟨t,rfl⟩:=rx;obtain⟨t',rfl⟩:=ry;exact iadd_str (fun t' tk=>⟨.str (i++j),H,I.tok _,⟨_,rfl⟩,q⟩) hz
theorem vals1(r:Vals [x] us):∃u,us=[u]/\RelV x u:=by
 cases r with
 |cons r1 r2=>cases r2;exact⟨_,rfl,r1⟩
theorem vals2(r:Vals [x,y] us):∃u w',us=[u,w']/\RelV x u/\RelV y w':=by
 cases r with
 |cons r1 r2 =>
  cases r2 with
  |cons r3 r4=>cases r4;exact⟨_,_,rfl,r1,r3⟩
theorem z6w(hc:X.calm=true):CallR X (.builtin "max") (fun xs H Q=>∃i j,xs=[.int i,.int j]/\Q (.int (if j>i then j else i)) H):=by
 intro pins s σ H xs us Q I r h;obtain⟨i,j,rfl,q⟩:=h;obtain⟨u,w',rfl,⟨t,rfl⟩,⟨t',rfl⟩⟩:=vals2 r;refine max_two_ints (I.ok.hd hc) fun h' tk k=>⟨_,H,I.kept k,?_,q⟩
 by_cases hj:j>i
 ·rw[if_pos hj,if_pos hj];exact⟨_,rfl⟩
 ·rw[if_neg hj,if_neg hj];exact⟨_,rfl⟩
theorem z0r(hc:X.calm=true):CallR X (.builtin "min") (fun xs H Q=>∃i j,xs=[.int i,.int j]/\Q (.int (if j<i then j else i)) H):=by
 intro pins s σ H xs us Q I r h;obtain⟨i,j,rfl,q⟩:=h;obtain⟨u,w',rfl,⟨t,rfl⟩,⟨t',rfl⟩⟩:=vals2 r;refine min_two_ints (I.ok.hd hc) fun h' tk k=>⟨_,H,I.kept k,?_,q⟩
 by_cases hj:j<i
 ·rw[if_pos hj,if_pos hj];exact⟨_,rfl⟩
 ·rw[if_neg hj,if_neg hj];exact⟨_,rfl⟩
theorem call_int1:CallR X (.type "int") (fun xs H Q=>(∃i,xs=[.int i]/\Q (.int i) H)\/∃k,xs=[.bl k]/\Q (.int (if k then 1 else 0)) H):=by
 intro pins s σ H xs us Q I r h;rcases h with⟨i,rfl,q⟩|⟨k,rfl,q⟩
 ·obtain⟨u,rfl,t,rfl⟩:=vals1 r;exact call_int_int ⟨.int i,H,I,⟨_,rfl⟩,q⟩
 ·obtain⟨u,rfl,r1⟩:=vals1 r;cases r1;exact call_int_bool ⟨.int (if k then 1 else 0),H,I.tok _,⟨_,rfl⟩,q⟩
def LenV(K:Af)(x:V)(H:Hp)(n:Nat):Prop :=
 match x with
 |.str y=>y.length<=sizeLine/\n=y.length
 |.byt y=>y.size<=sizeLine/\n=y.size
 |.ref p=>(∃xs,SqL K H p xs/\n=xs.length)\/∃xs,SqT K H p xs/\n=xs.length
 |_=>False
theorem z9u:CallR X (.builtin "len") (fun xs H Q=>∃x n,xs=[x]/\LenV X.K x H n/\Q (.int n) H):=by
 intro pins s σ H xs us Q I r h;obtain⟨x,n,rfl,e,q⟩:=h;obtain⟨u,rfl,rx⟩:=vals1 r;have hs:=Fe;cases x with
 |str y =>
  obtain⟨t,rfl⟩:=rx;obtain⟨hy,e'⟩:y.length<=sizeLine/\n=y.length:=e;subst e';exact len_str (by lia) ⟨.int _,H,I.tok _,⟨_,rfl⟩,q⟩
 |byt y =>
  obtain⟨t,rfl⟩:=rx;obtain⟨hy,e'⟩:y.size<=sizeLine/\n=y.size:=e;subst e';exact W.len_bytes (by lia) ⟨.int _,H,I.tok _,⟨_,rfl⟩,q⟩
 |ref p =>
  cases rx;have e':=e;rcases e' with⟨xs,hx,e'⟩|⟨xs,hx,e'⟩
  ·subst e';obtain⟨its,r',pl,hz⟩:=I.list hx;have hlen:=r'.length;exact Calls.call_len_list pl.isList (by simp only[Ba];lia) ⟨.int xs.length,H,I.tok _,⟨_,by simp only[Ba];rw[hlen]⟩,q⟩
  ·subst e';obtain⟨its,r',pl,hz⟩:=I.tuple hx;have hlen:=r'.length;exact len_tuple pl (by simp only[Ba];lia) ⟨.int xs.length,H,I.tok _,⟨_,by simp only[Ba];rw[hlen]⟩,q⟩
 |_=>exact(show False from e).elim
end
open PySem PySem.Spec PyProof.Rows
theorem z6x{h:Heap}(n:h.Ns1 dx mA):∃od,h.get? dx=some od/\∀name,W.lookIn name od=some (mA name):=by
 obtain⟨o,es,ep,ho,hd,hk,_,hm⟩:=n;refine⟨o,ho,fun name=>?_⟩;have e:=hm name;unfold nsFind findBy at e;rw[<- Lj] at e;unfold W.lookIn;rw[hd];dsimp only;split
 ·grind
 ·rename_i q;rw[q] at e;have a:es.toList.any (·.refKey)=false:=by
   rw[Qq];intro y hy;obtain⟨z,t,hkey⟩:=hk y (Ou.mp hy);simp[Lk.refKey,hkey]
  have a':¬es.toList.any (·.refKey)=true:=by grind
  rw[if_neg a'];exact congrArg some e
def putF(f:Str)(v:V):List (Str×V)->List (Str×V)
 |[]=>[(f,v)]
 |(g,x)::r=>if g=f then(g,v)::r else(g,x)::putF f v r
theorem q4m(f g:Str)(v:V):∀fs:List (Str×V),(putF f v fs).lookup g=if g=f then some v else fs.lookup g
 |[]=>by
  show List.lookup g [(f,v)]=_;by_cases h:g=f
  ·have hb:(g==f)=true:=beq_iff_eq.mpr h;simp only[List.lookup,hb,if_pos h]
  ·simp_all
 |(k,x)::r=>by
  have ih:=q4m f g v r;rw[show putF f v ((k,x)::r)=(if k=f then(k,v)::r else(k,x)::putF f v r) from rfl];by_cases hk:k=f
  ·rw[if_pos hk];by_cases h:g=k
   ·simp_all
   ·have hb:(g==k)=false:=beq_eq_false_iff_ne.mpr h;simp only[List.lookup,hb,if_neg (fun e:g=f=>h (e.trans hk.symm))]
  ·rw[if_neg hk];by_cases h:g=k
   ·simp_all
   ·have hb:(g==k)=false:=beq_eq_false_iff_ne.mpr h;simp only[List.lookup,hb];exact ih
theorem q6v(f:Str)(v:V):∀fs:List (Str×V),f∈(putF f v fs).map (·.1)/\∀g,g∈fs.map (·.1)->g∈(putF f v fs).map (·.1)
 |[]=>⟨by simp[putF],fun g h=>by simp at h⟩
 |(k,x)::r=>by
  obtain⟨i1,i2⟩:=q6v f v r;rw[show putF f v ((k,x)::r)=(if k=f then(k,v)::r else(k,x)::putF f v r) from rfl];by_cases hk:k=f
  ·grind
  ·grind
theorem RelO.some_of(r:RelO (some v) o):∃u,o=some u/\RelV v u:=by
 cases o with
 |none=>exact(show False from r).elim
 |some u=>exact⟨u,rfl,r⟩
theorem z6y(r:RelV v u):W.handedIn u=true:=by
 cases v with
 |non=>cases(show u=Value.none from r);rfl
 |bl b=>cases(show u=Value.bool b from r);rfl
 |int i=>obtain⟨t,e⟩:=(show ∃t,u=Value.int i t from r);cases e;rfl
 |str x=>obtain⟨t,e⟩:=(show ∃t,u=Value.str x t from r);cases e;rfl
 |byt b=>obtain⟨t,e⟩:=(show ∃t,u=Value.bytes b t from r);cases e;rfl
 |flt b=>obtain⟨t,e⟩:=(show ∃t,u=Value.float b t from r);cases e;rfl
 |ref a=>cases(show u=Value.ref a from r);rfl
 |ty n=>cases(show u=Value.type n from r);rfl
structure Cls (K:Af) (C:Addr):Prop where
 pg:W.plainGet K C Ka=true
 hd:Rc K C=true
 po:W.plainOver K C=true
 sa:Cd K (.ref C) "__setattr__" = some (some (.builtin "object.__setattr__"))
theorem Cls.get{K:Af}(c:Cls K C)(f:Str):W.plainGet K C f=true:=c.pg
section
variable{X:Cx}{pins:List (Addr×Obj)}{σ:St}{H:Hp}{s:Ah}{a C dx:Addr}{fs:List (Str×V)}{f:Str}{v:V}{A:Around}{E:Value->Ah->Prop}
theorem Inv.made(I:Inv X pins σ H s):Inv X pins σ (upd (upd H s.heap.objs.size (.own (s.heap.objs.size+1))) (s.heap.objs.size+1) (.ins C s.heap.objs.size []))
  { s with heap:=(s.heap.push Dx).push (Nd C s.heap.objs.size) }:=by
 have e1:(s.heap.push Dx).get? s.heap.objs.size=some Dx:=Bb s.heap rfl;have e2:((s.heap.push Dx).push (Nd C s.heap.objs.size)).get? (s.heap.objs.size+1)=some (Nd C s.heap.objs.size):=by
  have:=Bb (s.heap.push Dx) (o:=Nd C s.heap.objs.size) rfl
  rwa [Gq] at this
 have e3:(s.heap.push Dx).Ns s.heap.objs.size (fun _=>none):=⟨Dx,#[],_,e1,rfl,(fun e he=>absurd he (by simp)),fun _=>rfl⟩
 have I1:=I.laid (o:=.own (s.heap.objs.size+1)) (h':=s.heap.push Dx) (t':=s.toks) (fun b u q=>Ae _ q) (Aj _) ⟨_,e1⟩;refine I1.laid (t':=s.toks) (fun b u q=>Ae _ q) (Er (Gq _ _)) ?_;have ne:s.heap.objs.size≠s.heap.objs.size+1:=By (Mk _);refine⟨by rw[q0m ne,q0e],Ax _,ne,e2,fun _=>none,(Qr e3).at fun o q=>Ae _ q,fun _=>True.intro,fun y hy=>absurd rfl hy⟩
theorem x2v(hb:Ik e f env (eval e env)=eval e env)(h:wpAny (model prog w) A (eval e env) (fun o s₁=>wpAny (model prog w) A (getAttr o f true) Q E s₁) E s):wpAny (model prog w) A (eval (.Attribute e f pos) env) Q E s :=
 Attribute_any_ h (by rw[arm_eval_Attribute,hb])
end
section
variable{X:Cx}{pins:List (Addr×Obj)}{σ:St}{H:Hp}{s:Ah}{A:Around}{E:Value->Ah->Prop}{Q:Value->Ah->Prop}{c:Value}{b:Bool}
inductive TyOf (K:Af) (H:Hp):V->Value->Prop where
 |non:TyOf K H .non (.type "NoneType")
 |bl (x:Bool):TyOf K H (.bl x) (.type "bool")
 |int (i:Int):TyOf K H (.int i) (.type "int")
 |str (x:Str):TyOf K H (.str x) (.type "str")
 |flt (x:UInt64):TyOf K H (.flt x) (.type "float")
 |lst {a:Addr} {xs:List V} (e:H a=some (.lst xs)):TyOf K H (.ref a) (.type "list")
 |frz {a:Addr} {o:Obj} {xs:List V} (e:H a=some (.frz o (.lst xs))):TyOf K H (.ref a) (.type "list")
 |tup {a:Addr} {xs:List V} (e:H a=some (.tup xs)):TyOf K H (.ref a) (.type "tuple")
 |dK {a:Addr} {kvs:List (Key×V)} (e:H a=some (.dK kvs)):TyOf K H (.ref a) (.type "dict")
 |dT {a:Addr} {kvs:List (List Key×V)} (e:H a=some (.dT kvs)):TyOf K H (.ref a) (.type "dict")
 |ins {a C dx:Addr} {fs:List (Str×V)} (e:H a=some (.ins C dx fs)) (cl:Cls K C) (ha:Cd K (.ref C) "__class__" = some (some (.builtin "object.__class__")))
   (hn:Js K (.builtin "object.__class__") "__get__" = some (some (.builtin "getset_descriptor.__get__"))) (htk:Qb K (.builtin "object.__class__")=some true)
   (hm:Nz K C (.type "object")=some true):TyOf K H (.ref a) (.ref C)
end
open PySem PySem.Spec PyProof.Rows
structure Room (k:Nat) (A:Around):Prop where
 hd:A.handled=none
 dp:A.depth+3*k+5<recursionLimit
 un:A.units+16*k+200<cLine
 gd:A.guards=some []
theorem Room.mono(r:Room k A)(h:j<=k):Room j A:=⟨r.hd,by have:=r.dp;lia,by have:=r.un;lia,r.gd⟩
theorem Room.deeper(r:Room (k+1) A)(env:Env):Room k (A.deeper env) :=
 ⟨r.hd,by have:=r.dp;show A.depth+1+3*k+5<_;lia,by have:=r.un;show A.units+3+16*k+200<_;lia,r.gd⟩
theorem Room.in1(r:Room (k+1) A):Room k A.in1 :=
 ⟨r.hd,by have:=r.dp;show A.depth+3*k+5<_;lia,by have:=r.un;show A.units+1+16*k+200<_;lia,r.gd⟩
theorem z5k{A:Around}:(A.under (.builtin "type.__call__" ⟨.ref C::us,kw⟩)).depth=A.depth+1:=by
 first|rfl|simp[Ml,Code.weight,Code.isCreation,Code.isGuard,Code.isCaller,Code.frames,Qc,guardIds]
theorem z5l{A:Around}:(A.under (.builtin "type.__call__" ⟨.ref C::us,kw⟩)).units=A.units+1:=by
 first|rfl|simp[Ml,Code.cUnits,Code.frames,Qc]
theorem make_guards{A:Around}:(A.under (.builtin "type.__call__" ⟨.ref C::us,kw⟩)).guards=A.guards:=by
 have:(Code.builtin "type.__call__" ⟨.ref C::us,kw⟩).guards=[]:=by simp[Code.guards,Code.isGuard,guardIds]
 unfold Ml;rw[this];cases e:A.guards<;>simp[pushGuards,e]
theorem Room.make(r:Room (k+1) A)(C:Addr)(us:List Value)(kw:List (Str×Value)):Room k (A.under (.builtin "type.__call__" ⟨.ref C::us,kw⟩)) :=
 ⟨r.hd,by have:=r.dp;rw[z5k];lia,by have:=r.un;rw[z5l];lia,make_guards.trans r.gd⟩
theorem Room.depth(r:Room k A):A.depth<recursionLimit:=by have:=r.dp;lia
theorem Room.units(r:Room k A):A.units+64<cLine:=by have:=r.un;lia
def tNil:TA:=fun _ H Q=>Q [] H
def tCons(ta:TE)(tr:TA):TA:=fun σ H Q=>ta σ H fun x H1=>tr σ H1 fun xs H2=>Q (x::xs) H2
section
variable{X:Cx}{e:Expr}{es:List Expr}{te:TE}{t:TA}{pos:Pos}
theorem q0c:PA X [] tNil:=fun _ _ _ _ H Q I h=>Calls.spliced_nil ⟨[],H,I,.nil,h⟩
theorem q0a(ha:PE X e te)(hr:PA X es t)(hs:Bd (e::es) X.env=(false,eval e X.env)::Bd es X.env:=by rfl):PA X (e::es) (tCons te t):=by
 intro pos pins s σ H Q I h;rw[hs];refine Calls.spliced_cons (thn (ha pins s σ H _ I h) fun u s1 ⟨x,H1,I1,r1,q1⟩=>?_);exact thn (hr pos pins s1 σ H1 _ I1 q1) fun us s2 ⟨xs,H2,I2,r2,q2⟩=>⟨x::xs,H2,I2,.cons r1 r2,q2⟩
def tTup(t:TA):TE:=fun σ H Q=>t σ H fun xs H1=>xs.length<=sizeLine/\∀p,H1 p=none->Q (.ref p) (upd H1 p (.tup xs))
def tLst(t:TA):TE:=fun σ H Q=>t σ H fun xs H1=>xs.length<=sizeLine/\∀p,H1 p=none->Q (.ref p) (upd H1 p (.lst xs))
theorem q0q{x1}(h:PA X es t):PE X (.Tuple es x1 pos) (tTup t):=by
 intro pins s σ H Q I hq;refine wpAny_Tuple_spliced (thn (h pos pins s σ H _ I hq) fun us s1 ⟨xs,H1,I1,r,z,q⟩=>⟨by rw[<- r.length];exact z,?_⟩);have hf:=I1.hok.fresh (Aj _);refine⟨.ref s1.heap.objs.size,upd H1 s1.heap.objs.size (.tup xs),I1.laid (t':=s1.toks) (fun b u e=>Ae _ e) (Aj _) ?_,rfl,q _ hf⟩;exact⟨z,us,r,⟨_,Bb _ rfl,rfl,_,rfl⟩⟩
theorem q1r(h:PA X es t):PE X (.List es pos) (tLst t):=by
 intro pins s σ H Q I hq;refine wpAny_List_spliced (thn (h pos pins s σ H _ I hq) fun us s1 ⟨xs,H1,I1,r,z,q⟩=>⟨by rw[<- r.length];exact z,?_⟩);have hf:=I1.hok.fresh (Aj _);refine⟨.ref s1.heap.objs.size,upd H1 s1.heap.objs.size (.lst xs),I1.laid (t':=s1.toks) (fun b u e=>Ae _ e) (Aj _) ?_,rfl,q _ hf⟩;exact⟨z,us,0,r,Bb _ rfl⟩
end
abbrev Sp:=List V->Hp->VK->XK->Prop
abbrev CXT:=List Env->Hp->Ah->XK->Value->Ah->Prop
structure Env0 (P:Program) (w:World) (K:Af) (mg:Str->Option Value) (base:Heap) (A:Around) (outer:List Env) (s:Ah) (H:Hp):Prop where
 frames:A.frames=some outer
 mod:Mod K mg base
 bs:∀b o,base.get? b=some o->s.heap.get? b=some o/\H b=none
 bsz:base.objs.size<=s.heap.objs.size
 funs:s.heap.FunFrames base outer
 frf:∀b∈frs outer,H b=none
 hok:HOk P w H s.heap
 bare:Jg s.gens
def CE(outer:List Env)(P:Program)(w:World)(H:Hp)(s:Ah)(Q:VK)(u:Value)(s':Ah):Prop :=
 ∃v H',s'.os=s.os/\Jg s'.gens/\Un (frs outer) [] H H' s.heap s'.heap/\HOk P w H' s'.heap/\RelV v u/\Q v H'
def CR(CX:CXT)(outer:List Env)(P:Program)(w:World)(H:Hp)(s:Ah)(Q:VK)(E:XK)(r:Result)(s':Ah):Prop :=
 match r with
 |.ok (.ret u)=>CE outer P w H s Q u s'
 |.ok _=>False
 |.error e=>CX outer H s E e s'
structure FnOk (P:Program) (w:World) (K:Af) (mg:Str->Option Value) (base:Heap) (CX:CXT) (k:Nat) (f:Addr) (fd:Jw) (ps:List Str) (sp:Sp):Prop where
 len:∀vs H Q E,sp vs H Q E->vs.length=ps.length
 run:∀(A:Around) (outer:List Env) (s:Ah) (H:Hp) (args:Args) (us:List Value) (vs:List V) (Q:VK) (E:XK),Room k A->Env0 P w K mg base A outer s H->Oa s fd args (ps.zip us)->Vals vs us->sp vs H Q E ->
  Fx (model P w) A (.call (.ref f) args) (CR CX outer P w H s Q E) s
theorem FnOk.mono{K:Af}(F:FnOk P w K mg base CX j f fd ps sp)(h:j<=k):
  FnOk P w K mg base CX k f fd ps sp:=⟨F.len,fun A outer s H args us vs Q E hr=>F.run A outer s H args us vs Q E (hr.mono h)⟩
theorem FnOk.imp{K:Af}(F:FnOk P w K mg base CX k f fd ps sp)(h:∀vs H Q E,sp' vs H Q E->sp vs H Q E):FnOk P w K mg base CX k f fd ps sp' :=
 ⟨fun vs H Q E q=>F.len vs H Q E (h _ _ _ _ q),fun A outer s H args us vs Q E hr he hb hv hs=>F.run A outer s H args us vs Q E hr he hb hv (h _ _ _ _ hs)⟩
theorem Env0.make{K:Af}(e:Env0 P w K mg base A outer s H)(C:Addr)(us:List Value)(kw:List (Str×Value)):
  Env0 P w K mg base (A.under (.builtin "type.__call__" ⟨.ref C::us,kw⟩)) outer s H:=⟨by first|exact e.frames|(simpa[Ml,Code.envs,Qc,pushEnvs] using e.frames),e.mod,e.bs,e.bsz,e.funs,e.frf,e.hok,e.bare⟩
theorem Env0.in1{K:Af}(e:Env0 P w K mg base A outer s H):
  Env0 P w K mg base A.in1 outer s H:=⟨e.frames,e.mod,e.bs,e.bsz,e.funs,e.frf,e.hok,e.bare⟩
section
variable{X:Cx}{pins:List (Addr×Obj)}{σ:St}{H:Hp}{s s':Ah}
theorem Inv.env0(I:Inv X pins σ H s):Env0 X.prog X.w X.K X.mg X.base X.A X.stack s H :=
 ⟨I.ok.frames,I.ok.mod,I.bs,Aq I.ok.bsz I.sz,I.stack,I.stkFree,I.hok,I.bare⟩
theorem Inv.after(I:Inv X pins σ H s)(h:CE X.stack X.prog X.w H s Q u s'):EP X pins σ Q u s':=by
 obtain⟨v,H',os,bare,un,hok,r,q⟩:=h;obtain⟨hh,g,d,t,os'⟩:=s';obtain rfl:os'=s.os:=os;exact⟨v,H',I.call (h':=hh) (g':=g) (d':=d) (t':=t) un hok bare (fun b z=>absurd z (by simp)),r,q⟩
end
def tCall(sp:Sp)(dvs:List V)(E:XK)(t:TA):TE:=fun σ H Q=>t σ H fun vs H1=>sp (vs++dvs) H1 Q E
def Binds(K:Af)(fd:Jw)(ps:List Str)(ds:List Value):Prop :=
 ∀(s:Ah) (us:List Value),K.In s.heap->(us++ds).length=ps.length->Oa s fd ⟨us,[]⟩ (ps.zip (us++ds))
theorem Binds.all{K:Af}(h:∀us:List Value,us.length=ps.length->bindArgs fd ⟨us,[]⟩=pure (ps.zip us)):Binds K fd ps []:=fun s us _ hl=>by
 rw[Bi] at hl ⊢;exact .of_eq (h us hl)
def Passes(CX:CXT)(X:Cx)(E:XK):Prop:=∀(pins:List (Addr×Obj)) (σ:St) (H:Hp) (s:Ah) (e:Value) (s':Ah),Inv X pins σ H s->CX X.stack H s E e s'->X.xe e s'
section
variable{X:Cx}{CX:CXT}{k:Nat}{f C:Addr}{fd:Jw}{ps:List Str}{sp:Sp}{dvs:List V}{ds:List Value}{E:XK}{x m:Str}{p pos apos:Pos}{e o:Expr}{es:List Expr}{ta:TE}{t:TA}
theorem x1o{σ:St}(F:FnOk X.prog X.w X.K X.mg X.base CX k f fd ps sp)(hr:Room k X.A)(hb:Binds X.K fd ps ds)(hd:Vals dvs ds)(hx:Passes CX X E)(I:Inv X pins σ H s)(r:Vals vs us)(h:sp (vs++dvs) H Q E):wpAny (model X.prog X.w) X.A (call (.ref f) us) (EP X pins σ Q) X.xe s:=by
 have r2:=r.append hd;have hl:(us++ds).length=ps.length:=by rw[<- r2.length];exact F.len _ _ _ _ h
 refine Fi (Gw (F.run X.A X.stack s H ⟨us,[]⟩ (us++ds) (vs++dvs) Q E hr I.env0 (hb s us I.kIn hl) r2 h) fun r s' hq=>?_);cases r with
 |error e=>exact hx pins σ H s e s' I hq
 |ok fl =>
  cases fl with
  |ret u=>exact I.after hq
  |next=>exact False.elim hq
  |brk=>exact False.elim hq
  |cont=>exact False.elim hq
theorem x2w(F:FnOk X.prog X.w X.K X.mg X.base CX k f fd ps sp)(hr:Room k X.A)(hg:Gl X x)(hm:X.mg x=some (.ref f))(hk:Fy X.K (.ref f)=true)(hb:Binds X.K fd ps ds)(hd:Vals dvs ds)(hx:Passes CX X E)(ha:PA X (e::es) t)(hdb:(x==("__debug__" : Str))=false:=by decide)(he:Bd (e::es) X.env=(false,eval e X.env)::Bd es X.env:=by rfl)(hpl:(Gu pos (Bd es X.env)).any (·.1)=false:=by rfl):
  PE X (.Call (.Name x p) (e::es) [] pos) (tCall sp dvs E t):=by
 intro pins s σ H Q I h;refine Fc (q3g I hg hm ?_ hdb);refine Mm I.ok.mod.kin hk (thn (ha pos pins s σ H _ I h) fun us s1 ⟨vs,H1,I1,r,q⟩=>⟨I1.kIn,?_⟩) he hpl;exact x1o F hr hb hd hx I1 r q
theorem z9v(F:FnOk X.prog X.w X.K X.mg X.base CX k f fd ps sp)(hr:Room k X.A)(hg:Gl X x)(hm:X.mg x=some (.ref f))(hk:Fy X.K (.ref f)=true)(hb:Binds X.K fd ps ds)(hd:Vals dvs ds)(hx:Passes CX X E)(hdb:(x==("__debug__" : Str))=false:=by decide):PE X (.Call (.Name x p) [] [] pos) (tCall sp dvs E tNil):=by
 intro pins s σ H Q I h;refine Fc (q3g I hg hm ?_ hdb);exact W.callWith_K0 I.kIn hk (x1o F hr hb hd hx I .nil h)
end
structure FnScope (N P:List Str) (sc:Scope):Prop where
 kind:sc.kind=.function
 co:sc.isCoroutine=false
 gen:sc.isGenerator=false
 nd:N.Nodup
 pre:N.take P.length=P
 par:∀x∈P,sc.names.lookup x=some .local\/sc.names.lookup x=some .cell
 nofree:∀y∈sc.names,y.2≠.free
theorem z0s{kindOf:Str->Option Be}:∀{binds:List (Str×Value)} {m:Str->Option Value},(∀v,(x,v)∉binds)->bindL kindOf binds m x=m x
 |[],_,_=>rfl
 |(n,v)::r,m,h=>by
  unfold bindL;rw[z0s fun w hw=>h w (Am _ hw)];split
  ·have:x≠n:=by rintro rfl;exact h v Ao
   simp[this]
  ·rfl
theorem z0t{kindOf:Str->Option Be}:∀{binds:List (Str×Value)} {m:Str->Option Value},(∀v,(x,v)∉binds)->bindC kindOf binds m x=m x
 |[],_,_=>rfl
 |(n,v)::r,m,h=>by
  unfold bindC;rw[z0t fun w hw=>h w (Am _ hw)];split
  ·rfl
  ·have:x≠n:=by rintro rfl;exact h v Ao
   simp[this]
theorem z0u{kindOf:Str->Option Be}{x:Str}{v:Value}:∀{P:List Str} {vs:List Value} {i:Nat} {m:Str->Option Value},P.Nodup->P[i]?=some x->vs[i]?=some v->kindOf x=some .local ->
  bindL kindOf (P.zip vs) m x=some v
 |[],_,_,_,_,h,_,_=>by simp at h
 |_::_,[],_,_,_,_,h,_=>by simp at h
 |p::P,w::vs,0,m,nd,h1,h2,hk=>by
  simp at h1 h2;subst h1;subst h2;show bindL kindOf ((p,w)::P.zip vs) m p=_;unfold bindL;rw[z0s fun v hv=>(Hg.mp nd).1 (Ng hv).1,if_pos hk];simp
 |p::P,w::vs,i+1,m,nd,h1,h2,hk=>by
  show bindL kindOf ((p,w)::P.zip vs) m x=_;unfold bindL;exact z0u (i:=i) (Hg.mp nd).2 (by simpa using h1) (by simpa using h2) hk
theorem z0v{kindOf:Str->Option Be}{x:Str}{v:Value}:∀{P:List Str} {vs:List Value} {i:Nat} {m:Str->Option Value},P.Nodup->P[i]?=some x->vs[i]?=some v->kindOf x≠some .local ->
  bindC kindOf (P.zip vs) m x=some v
 |[],_,_,_,_,h,_,_=>by simp at h
 |_::_,[],_,_,_,_,h,_=>by simp at h
 |p::P,w::vs,0,m,nd,h1,h2,hk=>by
  simp at h1 h2;subst h1;subst h2;show bindC kindOf ((p,w)::P.zip vs) m p=_;unfold bindC;rw[z0t fun v hv=>(Hg.mp nd).1 (Ng hv).1,if_neg hk];simp
 |p::P,w::vs,i+1,m,nd,h1,h2,hk=>by
  show bindC kindOf ((p,w)::P.zip vs) m x=_;unfold bindC;exact z0v (i:=i) (Hg.mp nd).2 (by simpa using h1) (by simpa using h2) hk
def start(N:List Str)(vs:List V):St:=vs.map some++List.replicate (N.length-vs.length) none
def cxOf(CX:CXT)(P:Program)(w:World)(K:Af)(mg:Str->Option Value)(base:Heap)(N:List Str)(qual:Str)(scope:Scope)(f:Addr)(cd:Value)(A:Around)(outer:List Env)(s:Ah)(H:Hp)(E:XK):Cx where
 prog:=P
 w:=w
 K:=K
 mg:=mg
 base:=base
 A:=A.deeper (Hh qual scope s.heap.objs.size f cd)
 N:=N
 s₀:=s
 H₀:=H
 env:=Hh qual scope s.heap.objs.size f cd
 outer:=outer
 stack:=Hh qual scope s.heap.objs.size f cd::outer
 ex:=[]
 calm:=true
 fn:=fun _=>true
 pn:=[]
 xe:=fun e s'=>wpAny (model P w) (A.deeper (Hh qual scope s.heap.objs.size f cd)) (leaving (Hh qual scope s.heap.objs.size f cd) e) (fun _ s''=>CX outer H s E e s'') (fun e' s''=>CX outer H s E e' s'') s'
theorem z3u{sc:Scope}(h:sc.names.lookup x=some .cell):∃c,(cellsFrom n sc.names []).lookup x=some c:=by
 have q:=Rh sc.names n [] (.inl h);exact Gx.mp q
theorem z6z{K:Af}(S:FnScope N ps scope)(hd:A.handled=none)(e0:Env0 P w K mg base A outer s H)(hl:vs.length=ps.length)(r:Vals vs us)(x:InCallC s s.heap.objs.size (bindL (Hh qual scope s.heap.objs.size f cd).kindOf (ps.zip us) fun _=>none) (cellsFrom (s.heap.objs.size+1) scope.names []) (bindC (Hh qual scope s.heap.objs.size f cd).kindOf (ps.zip us) fun _=>none) s1):
  Inv (cxOf CX P w K mg base N qual scope f cd A outer s H E) [] (start N vs) H s1:=by
 have hpl:ps.length<=N.length:=by have:=congrArg List.length S.pre;rw[Bt] at this;lia
 obtain⟨h1,tk,rfl,hk⟩:=x.done;have noA:∀b:Addr,b∉(cxOf CX P w K mg base N qual scope f cd A outer s H E).ex:=fun b z=>absurd (show b∈([]:List Addr) from z) (by simp)
 refine⟨⟨e0.mod,S.kind,rfl,rfl,Aj _,fun y z c h1 h2=>?_,fun y hy=>?_,fun y c _ h=>?_,fun _=>hd,Around.frames_deeper e0.frames,.inr ⟨rfl,rfl⟩,fun b z=>absurd z (noA b),e0.bs,e0.bsz,fun b _ _=>noA b,fun b z=>absurd z (noA b),e0.funs,e0.frf⟩,
  rfl,e0.bare,Un.kept hk,⟨_,x.toInCall.ns,fun i y v h1 h2 h3=>?_⟩,fun y c h=>⟨_,x.cell y c h⟩,e0.hok.fresh (Aj _),fun y c h=>?_,fun p hp=>absurd (show p∈([]:List (Addr×Obj)) from hp) (by simp),e0.hok.kept hk,?_⟩
 ·exact name_of_addr x.apart (Ep h1) (Ep h2)
 ·have hy:scope.names.lookup y=some .cell\/scope.names.lookup y=some .free:=hy;rcases hy with hy|hy
  ·exact z3u hy
  ·exact absurd rfl (S.nofree _ (Ep hy))
 ·exact Px (x.above y c (Ep h))
 ·have hi:i<vs.length:=by
   unfold start at h2;by_cases hi:i<vs.length
   ·exact hi
   ·rw[Bp (by simpa using hi)] at h2;rw[List.getElem?_replicate] at h2;split at h2<;>cases h2
  have ha:vs[i]?=some v:=by
   unfold start at h2;rw[Bj (by simpa using hi),Bk] at h2;cases e:vs[i]? with
   |none=>simp_all
   |some a=>grind
  obtain⟨u,hu,rv⟩:=r.get ha;have hp:ps[i]?=some y:=by
   rw[<- S.pre,Mn (by lia)];exact h1
  have ndP:ps.Nodup:=by rw[<- S.pre];exact S.nd.sublist (Gj _ _)
  refine⟨u,rv,?_⟩;rcases S.par y (As hp) with k|k
  ·exact .inl ⟨k,z0u ndP hp hu k⟩
  ·obtain⟨c,e⟩:=z3u k;refine .inr ⟨.inl k,c,e,?_⟩;have q:=x.cell y c e;rw[z0v ndP hp hu (by show scope.names.lookup y≠_;rw[k];decide)] at q;exact q
 ·exact e0.hok.fresh (Px (x.above y c (Ep h)))
 ·unfold start;show _=N.length;rw[Ad,Ag,Kb];lia
theorem fn_of{K:Af}{kV:Value}(lk:K.lookup f=some ⟨oc,od,.func (Iy name qual params body scope dV kV doc pm an cdv ct),osl⟩)(hcd:Mo K cdv qual=true)(S:FnScope N ps scope)(len:∀vs H Q E,sp vs H Q E->vs.length=ps.length)(hbody:∀(A:Around) (outer:List Env) (s:Ah) (H:Hp) (vs:List V) (Q:VK) (E:XK),Room k (A.deeper (Hh qual scope s.heap.objs.size f cdv))->sp vs H Q E ->
   ∃t,PSs (cxOf CX P w K mg base N qual scope f cdv A outer s H E) body t/\t { nx:=fun _ H'=>Q .non H',rt:=Q } (start N vs) H):
  FnOk P w K mg base CX (k+1) f (Iy name qual params body scope dV kV doc pm an cdv ct) ps sp:=by
 refine⟨len,fun A outer s H args us vs Q E hr e0 hb r hsp=>?_⟩;have hl:=len _ _ _ _ hsp;have KX:=e0.mod.kin.keeps fun b o e=>(e0.bs b o e).1;have lim:=e0.mod.nolimit.keeps fun b o e=>(e0.bs b o e).1;have hkind:∀y∈ps.zip us,scope.names.lookup y.1=some .local\/(scope.names.lookup y.1=some .cell/\((cellsFrom (s.heap.objs.size+1) scope.names []).lookup y.1).isSome=true):=fun⟨n,v⟩ hy=>by
  rcases S.par n (Ng hy).1 with q|q
  ·exact .inl q
  ·exact .inr ⟨q,Rh _ _ _ (.inl q)⟩
 refine codeAny_call_function hr.depth (KX _ _ lk) rfl S.co S.gen rfl (W.codeRec_of KX hcd) (hb _ _ _ _ ?_);refine wpAny_newFunctionEnv_cells S.kind hkind fun env he s1 x=>?_;subst he;refine⟨lim.keeps x.toInCall.keep,codeAny_func ?_⟩;obtain⟨t,ht,hq⟩:=hbody A outer s H vs Q E (hr.deeper _) hsp;have I:Inv (cxOf CX P w K mg base N qual scope f cdv A outer s H E) [] (start N vs) H s1:=z6z S hr.hd e0 hl r x;refine Bu (ht [] s1 (start N vs) H _ I hq) (fun fl s' hs=>?_) fun e s' hs=>hs;have fin:∀{σ':St} {H':Hp} {v:V} {u:Value},Inv (cxOf CX P w K mg base N qual scope f cdv A outer s H E) [] σ' H' s'->RelV v u->Q v H'->CE outer P w H s Q u s' :=
  fun{σ' H' v u} J rv q=>⟨v,H',J.os,J.bare,J.base,J.hok,rv,q⟩
 cases fl with
 |ret u =>
  obtain⟨v,σ',H',J,rv,q⟩:=hs;exact fin J rv q
 |next =>
  obtain⟨σ',H',J,q⟩:=hs;exact fin (v:=V.non) J rfl q
 |brk =>
  obtain⟨_,_,_,q⟩:=hs;exact False.elim q
 |cont =>
  obtain⟨_,_,_,q⟩:=hs;exact False.elim q
open PySem PySem.Spec PyProof.Rows
section
variable{X:Cx}{x:Str}{p pos:Pos}{e:Expr}{es:List Expr}{t:TA}{id T:String}{r:List V->Hp->VK->Prop}
def tCB(r:List V->Hp->VK->Prop)(t:TA):TE:=fun σ H Q=>t σ H fun vs H1=>r vs H1 Q
theorem q0s(hc:CallR X (.builtin id) r)(hg:Gl X x)(hm:X.mg x=none)(hv:Fg x=some (.builtin id))(ha:PA X (e::es) t)(hn:x ≠ "__name__" := by decide)(hdb:(x==("__debug__" : Str))=false:=by decide)(he:Bd (e::es) X.env=(false,eval e X.env)::Bd es X.env:=by rfl)(hpl:(Gu pos (Bd es X.env)).any (·.1)=false:=by rfl):PE X (.Call (.Name x p) (e::es) [] pos) (tCB r t):=by
 intro pins s σ H Q I h;refine Fc (q4u I hg hm hv ?_ hn hdb);exact Kj (thn (ha pos pins s σ H _ I h) fun us s1 ⟨vs,H1,I1,r1,q1⟩=>hc pins s1 σ H1 vs us Q I1 r1 q1) he hpl
theorem q1e(hc:CallR X (.type T) r)(hg:Gl X x)(hm:X.mg x=none)(hv:Fg x=some (.type T))(ha:PA X (e::es) t)(hn:x ≠ "__name__" := by decide)(hdb:(x==("__debug__" : Str))=false:=by decide)(he:Bd (e::es) X.env=(false,eval e X.env)::Bd es X.env:=by rfl)(hpl:(Gu pos (Bd es X.env)).any (·.1)=false:=by rfl):PE X (.Call (.Name x p) (e::es) [] pos) (tCB r t):=by
 intro pins s σ H Q I h;refine Fc (q4u I hg hm hv ?_ hn hdb);exact Dk (thn (ha pos pins s σ H _ I h) fun us s1 ⟨vs,H1,I1,r1,q1⟩=>hc pins s1 σ H1 vs us Q I1 r1 q1) he hpl
end
end L2
namespace HT
open PySem PyProof.Rows
section
variable{prog:Program}{w:World}{A:Around}{E:Value->Ah->Prop}{s:Ah}
def sIx(n d:Nat):Option Int->Nat
 |none=>d
 |some v=>if v<0 then(v+(n:Int)).toNat else min v.toNat n
theorem z7a(v:Int)(n d:Nat):(if v<0 then max (v+(n:Int)) 0 else min v (n:Int))=((sIx n d (some v):Nat):Int):=by
 show(if v<0 then max (v+(n:Int)) 0 else min v (n:Int))=(((if v<0 then(v+(n:Int)).toNat else min v.toNat n):Nat):Int)
 by_cases hv:v<0
 ·grind
 ·grind
theorem z5m(lo hi:Option Int)(n:Nat):Lz lo hi 1 (n:Int)=(((sIx n 0 lo:Nat):Int),((sIx n n hi:Nat):Int)):=by
 refine Prod.ext ?_ ?_
 ·cases lo with
  |none=>rfl
  |some v=>exact z7a v n 0
 ·cases hi with
  |none=>rfl
  |some v=>exact z7a v n n
theorem z5n(i j:Nat):Gn (i:Int) (j:Int) 1=j-i:=by
 unfold Gn;have h1:(1:Int)>0:=by lia
 simp only[h1,if_true,Int.ediv_one];split<;>lia
theorem q8h(p:Ll v o)(h:Q o s):wpAny (model prog w) A (Eo.Slice.slicePartIndex v) Q E s:=by
 cases p with
 |none=>exact slicePart_none h
 |int i t=>exact slicePart_int h
theorem q6f{lo:Option Int}{n:Nat}(hs:s.heap.IsSliceOf sl vl vu .none)(pl:Ll vl lo)(pu:Ll vu hi)(h:Q (((sIx n 0 lo:Nat):Int),1,sIx n n hi-sIx n 0 lo) s):wpAny (model prog w) A (Eo.Slice.sliceApplied (.ref sl) (pure (n:Int))) Q E s:=by
 obtain⟨os,hos,hcs,hds⟩:=id hs;refine Ac (Ac (Bv hos hds rfl (Ac (Bv hos hds rfl (Ac (Bv hos hds rfl (Ak ?_)))))));refine Ac (slicePart_none ?_);refine Ac (q8h pl (Ac (q8h pu (Ac (Ak ?_)))));show wpAny _ _ (match Lz lo hi 1 (n:Int) with|(lo,hi)=>pure (lo,(1:Int),Gn lo hi 1)) _ _ s;rw[z5m lo hi n];show wpAny _ _ (pure (((sIx n 0 lo:Nat):Int),(1:Int),Gn ((sIx n 0 lo:Nat):Int) ((sIx n n hi:Nat):Int) 1)) _ _ s;rw[z5n];exact Ak h
theorem z9w(xs:Array Value)(i k:Nat):((List.range k).filterMap fun(m:Nat)=>xs[((i:Int)+(m:Int)*1).toNat]?).toArray=((xs.toList.drop i).take k).toArray:=by
 have e:(fun(m:Nat)=>xs[((i:Int)+(m:Int)*1).toNat]?)=fun m=>xs[i+m]?:=by grind
 rw[e];have:=pick_run xs i k;rw[List.filterMap_map] at this;have e2:((fun x=>xs[x]?)∘fun x=>i+x)=fun m=>xs[i+m]?:=rfl;rw[e2] at this;rw[this]
theorem getItem_tuple_cut{lo:Option Int}(ht:IsTup s.heap t items)(hs:s.heap.IsSliceOf sl vl vu .none)(pl:Ll vl lo)(pu:Ll vu hi)(hw:¬(sIx items.size 0 lo=0/\sIx items.size items.size hi=items.size))(h:Q (.ref s.heap.objs.size) { s with heap:=s.heap.push { cls:=.type "tuple",data:=.seq ((items.toList.drop (sIx items.size 0 lo)).take (sIx items.size items.size hi-sIx items.size 0 lo)).toArray } })(hsz:items.size<=sizeLine):wpAny (model prog w) A (getItem (.ref t) (.ref sl)) Q E s:=by
 have htake:sizeOk (.seq ((items.toList.drop (sIx items.size 0 lo)).take (sIx items.size items.size hi-sIx items.size 0 lo)).toArray):=by
  show((items.toList.drop (sIx items.size 0 lo)).take (sIx items.size items.size hi-sIx items.size 0 lo)).toArray.size<=sizeLine;rw[Ba,Bt,Cf,Ip];lia
 obtain⟨os,hos,hcs,hds⟩:=id hs;have hTs:s.TypeIs (.ref sl) "slice" := ⟨os,hos,hcs⟩
 unfold getItem;try with_reducible refine Du ?_
 refine Ac (wpAny_sequenceKey ht.typeIs (by decide) ?_);refine Ac (Dl ht.typeIs Hd
  (Ej Hd ht.typeIs entry_tuple_getitem ?_ (args_tuple_getitem _ _)))
 show wpAny _ _ (Eo.Tuple.tupleItemsOf (.ref t) >>= _) _ _ s;refine Ac (tupleItemsOf_ ht ?_);refine Ac (wpAny_typeOf hTs ?_);refine Ac (q6f hs pl pu ?_);have hno:¬((((sIx items.size 0 lo:Nat):Int)==0&&(1:Int)==1&&(sIx items.size items.size hi-sIx items.size 0 lo)==items.size)=true):=by grind
 show wpAny _ _ (if (((sIx items.size 0 lo:Nat):Int)==0&&(1:Int)==1&&(sIx items.size items.size hi-sIx items.size 0 lo)==items.size)=true then _ else _) _ _ s;rw[if_neg hno,z9w];first
  |exact Ac (Dq (Ak ⟨_,rfl,Ak h⟩) htake)
  |exact Ac (Dq (Ac (Ak (Ak ⟨_,rfl,Ak h⟩))) htake)
  |exact Ac (Ac (Dq (Ak (Ak ⟨_,rfl,Ak h⟩)) htake))
  |exact Ac (Ac (Dq (Ak ⟨_,rfl,Ak h⟩) htake))
end
end HT
namespace L2
open PySem PySem.Spec PyProof.Rows
abbrev TO:=St->Hp->(Option Int->Hp->Prop)->Prop
def PO(X:Cx)(e:Option Expr)(t:TO):Prop :=
 ∀(pins:List (Addr×Obj)) (s:Ah) (σ:St) (H:Hp) (Q:Option Int->Hp->Prop),Inv X pins σ H s->t σ H Q ->
  wpAny (model X.prog X.w) X.A (evalPart e X.env) (fun u s'=>∃o H',Inv X pins σ H' s'/\Ll u o/\Q o H') X.xe s
def tNoPart:TO:=fun _ H Q=>Q none H
def tPart(t:TE):TO:=fun σ H Q=>t σ H fun x H1=>∃i,x=.int i/\Q (some i) H1
section
variable{X:Cx}{e:Expr}{te:TE}{lo hi:Option Expr}{tl th:TO}{pos p2:Pos}
theorem q6w:PO X none tNoPart:=by
 intro pins s σ H Q I h;exact Ak ⟨none,H,I,.none,h⟩
theorem q1d(h:PE X e te):PO X (some e) (tPart te):=by
 intro pins s σ H Q I hw;refine thn (h pins s σ H _ I hw) fun u s1 ⟨x,H1,I1,r1,q1⟩=>?_;obtain⟨i,rfl,q⟩:=q1;obtain⟨t,rfl⟩:=r1;exact⟨some i,H1,I1,.int i t,q⟩
def SlR(X:Cx)(r:V->Option Int->Option Int->Hp->VK->Prop):Prop :=
 ∀(pins:List (Addr×Obj)) (s:Ah) (σ:St) (H:Hp) (x:V) (v vl vu:Value) (lo hi:Option Int) (sl:Addr) (Q:VK),Inv X pins σ H s->RelV x v->s.heap.IsSliceOf sl vl vu .none->Ll vl lo->Ll vu hi->r x lo hi H Q ->
  ∃T id,Ma (.type T) "__getitem__" = pure (some (.builtin id))/\s.TypeIs v T/\wpAny (model X.prog X.w) X.A (getItem v (.ref sl)) (EP X pins σ Q) X.xe s
theorem SlR.or(h:SlR X r)(h':SlR X r'):SlR X (fun x lo hi H Q=>r x lo hi H Q\/r' x lo hi H Q):=by
 intro pins s σ H x v vl vu lo hi sl Q I rx hs pl pu q;rcases q with q|q
 ·exact h pins s σ H x v vl vu lo hi sl Q I rx hs pl pu q
 ·exact h' pins s σ H x v vl vu lo hi sl Q I rx hs pl pu q
def tSl(r:V->Option Int->Option Int->Hp->VK->Prop)(te:TE)(tl th:TO):TE:=fun σ H Q=>te σ H fun x H1=>tl σ H1 fun l H2=>th σ H2 fun u H3=>r x l u H3 Q
theorem q1l{r:V->Option Int->Option Int->Hp->VK->Prop}(hr:SlR X r)(he:PE X e te)(hl:PO X lo tl)(hu:PO X hi th):PE X (.Subscript e (.Slice lo hi none p2) pos) (tSl r te tl th):=by
 intro pins s σ H Q I h;refine Rq (thn (he pins s σ H _ I h) fun v s1 ⟨x,H1,I1,r1,q1⟩=>?_);refine wpAny_Slice (thn (hl pins s1 σ H1 _ I1 q1) fun vl s2 ⟨l,H2,I2,pl,q2⟩=>thn (hu pins s2 σ H2 _ I2 q2) fun vu s3 ⟨u,H3,I3,pu,q3⟩=>?_);refine Ak ?_;have I4:Inv X pins σ H3 { s3 with heap:=s3.heap.push { cls:=.type "slice",data:=.fields #[vl,vu,.none] } }:=I3.kept (t':=s3.toks) fun b ob q=>Ae _ q;obtain⟨T,id,hT,ht,hg⟩:=hr pins { s3 with heap:=s3.heap.push { cls:=.type "slice",data:=.fields #[vl,vu,.none] } } σ H3 x v vl vu l u s3.heap.objs.size Q I4 r1 (Heap.IsSliceOf.new ..) pl pu q3;exact tail_any ht hT hg (by with_unfolding_all rfl)
def cutV(xs:List V)(lo hi:Option Int):List V:=(xs.drop (HT.sIx xs.length 0 lo)).take (HT.sIx xs.length xs.length hi-HT.sIx xs.length 0 lo)
theorem q6x(xs:List V)(lo hi:Option Int):(cutV xs lo hi).length<=xs.length:=by
 unfold cutV;rw[Bt,Cf];lia
def rSlT(K:Af):V->Option Int->Option Int->Hp->VK->Prop:=fun x lo hi H Q=>∃a xs,x=.ref a/\SqT K H a xs /\
 ¬(HT.sIx xs.length 0 lo=0/\HT.sIx xs.length xs.length hi=xs.length)/\∀p,H p=none->Q (.ref p) (upd H p (.tup (cutV xs lo hi)))
theorem sl_tup:SlR X (rSlT X.K):=by
 intro pins s σ H x v vl vu lo hi sl Q I rx hs pl pu h;obtain⟨a,xs,rfl,hx,hw,q⟩:=h;cases rx;obtain⟨its,r,ht,hz⟩:=I.tuple hx;have hlen:its.toArray.size=xs.length:=by rw[Ba];exact r.length.symm
 refine⟨"tuple",_,Hd.lookup,ht.typeIs,?_⟩;refine HT.getItem_tuple_cut ht hs pl pu (by rw[hlen];exact hw) ?_ (by rw[hlen];exact hz);rw[hlen];refine⟨.ref s.heap.objs.size,_,I.laid (t':=s.toks) (fun b ob q=>Ae _ q) (Aj _) ?_,rfl,q _ (I.hok.fresh (Aj _))⟩;exact⟨Aq (q6x xs lo hi) hz,_,(r.drop (HT.sIx xs.length 0 lo)).take (HT.sIx xs.length xs.length hi-HT.sIx xs.length 0 lo),Sb _ _⟩
end
open PySem PySem.Spec PyProof.Rows
def ixN(n:Nat)(i:Int):Option Nat:=if 0<=i then(if i<n then some i.toNat else none) else if -(n:Int)<=i then some (i+n).toNat else none
def atI{α:Type}(xs:List α)(i:Int):Option α:=(ixN xs.length i).bind fun j=>xs[j]?
theorem z7b(h:ixN n i=some j):seqIndex? i n=some j/\j<n /\ -(n:Int)<=i/\i<n:=by
 unfold ixN at h;by_cases h0:0<=i
 ·rw[if_pos h0] at h;by_cases h1:i<n
  ·rw[if_pos h1] at h;have e:=Cg h;exact⟨by rw[Nn h0 h1,e],by lia,by lia,h1⟩
  ·grind
 ·rw[if_neg h0] at h;by_cases h1 : -(n:Int)<=i
  ·rw[if_pos h1] at h;have e:=Cg h;exact⟨by rw[seqIndex_neg (by lia) h1,e],by lia,h1,by lia⟩
  ·grind
theorem q9a{xs:List α}{v:α}(h:atI xs i=some v):∃j,seqIndex? i xs.length=some j/\xs[j]?=some v/\j<xs.length /\ -(xs.length:Int)<=i/\i<xs.length:=by
 unfold atI at h;cases e:ixN xs.length i with
 |none=>rw[e] at h;cases h
 |some j =>
  rw[e] at h;obtain⟨h1,h2,h3,h4⟩:=z7b e;exact⟨j,h1,h,h2,h3,h4⟩
theorem q1g{xs:List α}{j:Nat}{v:α}(h:xs[j]?=some v):atI xs (j:Int)=some v:=by
 have hj:=(Ai.mp h).1;have e:ixN xs.length (j:Int)=some j:=by
  unfold ixN;rw[if_pos (by lia),if_pos (by lia)];simp
 unfold atI;rw[e];exact h
def PlainIx(b:Expr):Prop:=∀o i,Np b false o i=operate [o,i] (getItem o i)
def IxR(X:Cx)(r:R2):Prop :=
 ∀(value slice:Expr) (pins:List (Addr×Obj)) (s:Ah) (σ:St) (H:Hp) (x y:V) (v u:Value) (Q:VK),Inv X pins σ H s->RelV x v->RelV y u->r x y H Q ->
  Np slice false v u=operate [v,u] (getItem v u)->wpAny (model X.prog X.w) X.A (subscriptTail value slice v u) (EP X pins σ Q) X.xe s
def MtR(X:Cx)(id:String)(r:V->List V->Hp->VK->Prop):Prop :=
 ∀(pins:List (Addr×Obj)) (s:Ah) (σ:St) (H:Hp) (x:V) (xs:List V) (v:Value) (us:List Value) (Q:VK),Inv X pins σ H s->RelV x v->Vals xs us->r x xs H Q ->
  wpAny (model X.prog X.w) X.A (call (.builtin id) (v::us)) (EP X pins σ Q) X.xe s
section
variable{X:Cx}{a b:Expr}{ta tb:TE}{pos:Pos}
theorem IxR.or(h:IxR X r)(h':IxR X r'):IxR X (fun x y H Q=>r x y H Q\/r' x y H Q):=by
 intro value slice pins s σ H x y v u Q I rx ry q hs;rcases q with q|q
 ·exact h value slice pins s σ H x y v u Q I rx ry q hs
 ·exact h' value slice pins s σ H x y v u Q I rx ry q hs
theorem MtR.or{id:String}(h:MtR X id r)(h':MtR X id r'):MtR X id (fun x xs H Q=>r x xs H Q\/r' x xs H Q):=by
 intro pins s σ H x xs v us Q I rx rs q;rcases q with q|q
 ·exact h pins s σ H x xs v us Q I rx rs q
 ·exact h' pins s σ H x xs v us Q I rx rs q
theorem q1a{r:R2}(hr:IxR X r)(ha:PE X a ta)(hb:PE X b tb)(hs:PlainIx b):PE X (.Subscript a b pos) (tOp r ta tb):=by
 intro pins s σ H Q I h;exact Rq (binT ha hb I h fun v u s2 x y H2 I2 rx ry q=>hr a b pins s2 σ H2 x y v u Q I2 rx ry q (hs _ _))
def rIxL(K:Af):R2:=fun x y H Q=>∃p xs i v,x=.ref p/\y=.int i/\SqL K H p xs/\atI xs i=some v/\Q v H
def rIxT(K:Af):R2:=fun x y H Q=>∃p xs i v,x=.ref p/\y=.int i/\SqT K H p xs/\atI xs i=some v/\Q v H
def rIxS:R2:=fun x y H Q=>∃z i c,x=.str z/\y=.int i/\z.length<=sizeLine/\atI z.cps.toList i=some c/\Q (.str ⟨#[c]⟩) H
theorem ix_list:IxR X (rIxL X.K):=by
 intro value slice pins s σ H x y v u Q I rx ry h hs;obtain⟨p,xs,i,z,rfl,rfl,hq,he,q⟩:=h;cases rx;obtain⟨t,rfl⟩:=ry;obtain⟨its,r,pl,hz⟩:=I.list hq;obtain⟨j,h1,h2,h3,h4,h5⟩:=q9a he;obtain⟨w,ew,rw'⟩:=r.get h2;have hl:=r.length;have hn:=line63;have fin:EP X pins σ Q w s:=⟨z,H,I,rw',q⟩
 by_cases h0:0<=i
 ·have hj:i.toNat=j:=by
   rw[Nn h0 h5] at h1;exact Cg h1
  exact item_listR pl.isList h0 (by lia) (by rw[hj];simpa using ew) fin hs
 ·have hj:(i+(its.toArray.size:Int)).toNat=j:=by
   rw[seqIndex_neg (by lia) h4] at h1;rw[Ba,<- hl];exact Cg h1
  exact Nq pl.isList.typeIs slot_list_getitem.lookup
   (Nr pl.isList (by lia) (by rw[Ba]<;>lia) (by lia) (by rw[hj];simpa using ew) ⟨rfl,fin⟩) hs
theorem ix_tup:IxR X (rIxT X.K):=by
 intro value slice pins s σ H x y v u Q I rx ry h hs;obtain⟨p,xs,i,z,rfl,rfl,hq,he,q⟩:=h;cases rx;obtain⟨t,rfl⟩:=ry;obtain⟨its,r,pl,hz⟩:=I.tuple hq;obtain⟨j,h1,h2,h3,h4,h5⟩:=q9a he;obtain⟨w,ew,rw'⟩:=r.get h2;have hl:=r.length;have hn:=line63;have fin:EP X pins σ Q w s:=⟨z,H,I,rw',q⟩
 exact Nq pl.typeIs slot_tuple_getitem.lookup
  (getItem_tuple pl (by lia) (by lia) (by rw[Ba,<- hl];exact h1) (by simpa using ew) ⟨rfl,fin⟩) hs
theorem ix_str:IxR X rIxS:=by
 intro value slice pins s σ H x y v u Q I rx ry h hs;obtain⟨z,i,c,rfl,rfl,hz,he,q⟩:=h;obtain⟨t,rfl⟩:=rx;obtain⟨t',rfl⟩:=ry;obtain⟨j,h1,h2,h3,h4,h5⟩:=q9a he;have hl:z.cps.toList.length=z.length:=by simp[Str.length]
 rw[hl] at h1 h4 h5;have hn:=line63;exact tail_any (Kk s z t) slot_str_getitem.lookup (getItem_str (by
  have e1:decide (i < -(2^63:Int))=false:=decide_eq_false (by lia);have e2:decide (i>=2^63)=false:=decide_eq_false (by lia);rw[e1,e2,Bool.or_false]) (by rw[h1];simpa using h2) ⟨.str ⟨#[c]⟩,H,I.tok _,⟨_,rfl⟩,q⟩) hs
def rIx(K:Af):R2:=fun x y H Q=>rIxL K x y H Q\/rIxT K x y H Q\/rIxS x y H Q
theorem ix_seq:IxR X (rIx X.K):=ix_list.or (ix_tup.or ix_str)
theorem z5o(its:List Value)(n j:Nat)(u:Value):Mb (·.setIfInBounds j u) { cls:=.type "list",data:=.seq its.toArray n }={ cls:=.type "list",data:=.seq (its.set j u).toArray n }:=by
 simp[Mb]
theorem Inv.lst{pins:List (Addr×Obj)}{σ:St}{H:Hp}{s:Ah}{p:Addr}{xs:List V}(I:Inv X pins σ H s)(h:H p=some (.lst xs)):
  ∃(its:List Value) (n:Nat),Vals xs its/\s.heap.get? p=some { cls:=.type "list",data:=.seq its.toArray n }/\xs.length<=sizeLine:=by
 obtain⟨z,its,n,r,e⟩:=I.hok p _ h;exact⟨its,n,r,e,z⟩
theorem Inv.lstUpd{σ:St}{its:List Value}(I:Inv X pins σ H s)(h:H p=some (.lst xs))(ho:s.heap.get? p=some { cls:=.type "list",data:=.seq its.toArray n })(hf:f { cls:=.type "list",data:=.seq its.toArray n }={ cls:=.type "list",data:=.seq its'.toArray n' })(r:Vals ys its')(hz:ys.length<=sizeLine)(t:Nat):
  Inv X pins σ (upd H p (.lst ys)) { s with heap:=s.heap.update p f,toks:=t }:=by
 have e:(s.heap.update p f).get? p=some { cls:=.type "list",data:=.seq its'.toArray n' }:=by
  rw[Eh f ho (by rw[hf]<;>rfl),hf]
 refine I.write (by rw[h];trivial) (.inl rfl) (fun b u hb q=>(Ck _ _ (Dm hb)).trans q) ⟨_,e⟩ ?_;exact⟨hz,its',n',r,e⟩
def rSetL:V->V->V->Hp->(Hp->Prop)->Prop:=fun o i v H Q=>∃p xs k j,o=.ref p/\i=.int k/\H p=some (.lst xs)/\ixN xs.length k=some j/\Q (upd H p (.lst (xs.set j v)))
theorem q6l:PSet X rSetL:=by
 intro pins s σ H o i v ov iv u Q I ro ri rv h;obtain⟨p,xs,k,j,rfl,rfl,hp,hj,q⟩:=h;cases ro;obtain⟨t,rfl⟩:=ri;obtain⟨its,n,r,ho,hz⟩:=I.lst hp;obtain⟨h1,h2,h3,h4⟩:=z7b hj;have hl:=r.length;have hn:=line63;have I':Inv X pins σ (upd H p (.lst (xs.set j v))) { s with heap:=s.heap.update p (Mb (·.setIfInBounds j u)) } :=
  I.lstUpd hp ho (z5o its n j u) (r.set rv j) (by rw[List.length_set];exact hz) s.toks
 by_cases h0:0<=k
 ·have hk:k.toNat=j:=by
   rw[Nn h0 h4] at h1;exact Cg h1
  exact W.ki_setAt ho h0 (by lia) (by rw[Ba,<- hl];exact h4) (by rw[hk];exact⟨_,I',q⟩)
 ·have hk:(k+(its.toArray.size:Int)).toNat=j:=by
   rw[seqIndex_neg (by lia) h3] at h1;rw[Ba,<- hl];exact Cg h1
  exact W.ki_setBack ho (by lia) (by rw[Ba,<- hl];exact h3) (by lia) (by rw[hk];exact⟨_,I',q⟩)
theorem z0w(lo hi:Option Int)(n:Nat):(Io lo hi none n).1=((HT.sIx n 0 lo:Nat):Int)/\(Io lo hi none n).2.1=((HT.sIx n n hi:Nat):Int)/\(Io lo hi none n).2.2=1:=by
 refine⟨?_,?_,rfl⟩
 ·cases lo with
  |none=>simp[Io,HT.sIx]
  |some i =>
   simp only[Io,HT.sIx,Ri,show(1:Int)>0 by decide,if_true];by_cases h:i<0
   ·simp only[h,if_true]<;>lia
   ·simp only[h,if_false]<;>lia
 ·cases hi with
  |none=>simp[Io,HT.sIx]
  |some i =>
   simp only[Io,HT.sIx,Ri,show(1:Int)>0 by decide,if_true];by_cases h:i<0
   ·simp only[h,if_true]<;>lia
   ·simp only[h,if_false]<;>lia
theorem q9b(its:List Value)(lo hi:Option Int):slicePick its.toArray lo hi none=((its.drop (HT.sIx its.length 0 lo)).take (HT.sIx its.length its.length hi-HT.sIx its.length 0 lo)).toArray:=by
 obtain⟨h1,h2,h3⟩:=z0w lo hi its.toArray.size;unfold slicePick;rw[h1,h2,h3];simp only[sliceRange_one,pick_run,Ba]<;>rfl
def rSlL(K:Af):V->Option Int->Option Int->Hp->VK->Prop:=fun x lo hi H Q=>∃a xs,x=.ref a/\SqL K H a xs/\∀p,H p=none->Q (.ref p) (upd H p (.lst (cutV xs lo hi)))
theorem sl_list:SlR X (rSlL X.K):=by
 intro pins s σ H x v vl vu lo hi sl Q I rx hs pl pu h;obtain⟨a,xs,rfl,hx,q⟩:=h;cases rx;obtain⟨its,r,ht,hz⟩:=I.list hx;have hlen:=r.length;refine⟨"list",_,slot_list_getitem.lookup,ht.isList.typeIs,?_⟩;refine wpAny_getItem_list_slice ht.isList hs pl pu .none (by simp) ?_ (by rw[Ba]<;>lia);rw[q9b,<- hlen];refine⟨.ref s.heap.objs.size,_,I.laid (t':=s.toks) (fun b ob q=>Ae _ q) (Aj _) ?_,rfl,q _ (I.hok.fresh (Aj _))⟩;exact⟨Aq (q6x xs lo hi) hz,_,0,(r.drop (HT.sIx xs.length 0 lo)).take (HT.sIx xs.length xs.length hi-HT.sIx xs.length 0 lo),Bb _ rfl⟩
def flatV:V->Bool
 |.non=>true
 |.bl _=>true
 |.int _=>true
 |.str _=>true
 |_=>false
def eqV:V->V->Bool
 |.non,.non=>true
 |.bl a,.bl b=>a==b
 |.bl a,.int b=>(if a then 1 else 0)==b
 |.int a,.bl b=>a==(if b then 1 else 0)
 |.int a,.int b=>a==b
 |.str a,.str b=>a==b
 |_,_=>false
theorem eqAt_V(ry:RelV y u)(rx:RelV x v)(fy:flatV y=true)(fx:flatV x=true):Dz A s u v (eqV y x):=by
 cases y with
 |non =>
  cases ry;cases x with
  |non=>cases rx;exact Dz.same _
  |bl b=>cases rx;exact Dz.none_bool b
  |int b=>obtain⟨t,rfl⟩:=rx;exact Dz.none_int b t
  |str b=>obtain⟨t,rfl⟩:=rx;exact Dz.none_str b t
  |_=>exact absurd (show false=true from fx) Bl
 |bl a =>
  cases ry;cases x with
  |non=>cases rx;exact Dz.bool_none a
  |bl b=>cases rx;exact Dz.bool_bool a b
  |int b=>obtain⟨t,rfl⟩:=rx;exact Dz.bool_int a b t
  |str b=>obtain⟨t,rfl⟩:=rx;exact Dz.bool_str a b t
  |_=>exact absurd (show false=true from fx) Bl
 |int a =>
  obtain⟨t',rfl⟩:=ry;cases x with
  |non=>cases rx;exact Dz.int_none a t'
  |bl b=>cases rx;exact Dz.int_bool a t' b
  |int b=>obtain⟨t,rfl⟩:=rx;exact Dz.int_int a t' b t
  |str b=>obtain⟨t,rfl⟩:=rx;exact Po a t' b t
  |_=>exact absurd (show false=true from fx) Bl
 |str a =>
  obtain⟨t',rfl⟩:=ry;cases x with
  |non=>cases rx;exact Dz.str_none a t'
  |bl b=>cases rx;exact Dz.str_bool a t' b
  |int b=>obtain⟨t,rfl⟩:=rx;exact Pq a t' b t
  |str b=>obtain⟨t,rfl⟩:=rx;exact Dz.str_str a t' b t
  |_=>exact absurd (show false=true from fx) Bl
 |_=>exact absurd (show false=true from fy) Bl
def eqU(x:V)(u:Value):Bool:=match u with
 |.none=>eqV .non x
 |.bool b=>eqV (.bl b) x
 |.int i _=>eqV (.int i) x
 |.str z _=>eqV (.str z) x
 |_=>false
theorem x1p(r:RelV y u)(f:flatV y=true):eqU x u=eqV y x:=by
 cases y with
 |non=>cases r;rfl
 |bl b=>cases r;rfl
 |int i=>obtain⟨t,rfl⟩:=r;rfl
 |str z=>obtain⟨t,rfl⟩:=r;rfl
 |_=>exact absurd (show false=true from f) Bl
theorem q6y{x:V}:∀{xs:List V} {us:List Value},Vals xs us->xs.all flatV=true->us.any (eqU x)=xs.any fun y=>eqV y x
 |_,_,.nil,_=>rfl
 |y::xs,u::us,.cons r t,f=>by
  rw[List.all_cons,Ib] at f;rw[Pd,Pd,x1p r f.1,q6y t f.2]
theorem q4v{A:Around}{s:Ah}{x:V}{v:Value}(rx:RelV x v)(fx:flatV x=true):∀{xs:List V} {us:List Value},Vals xs us->xs.all flatV=true->∀u∈us,Dz A s u v (eqU x u)
 |_,_,.nil,_=>fun u hu=>by cases hu
 |y::xs,u::us,.cons r t,f=>fun u' hu=>by
  rw[List.all_cons,Ib] at f;rcases Ap.mp hu with rfl|hu
  ·rw[x1p r f.1];exact eqAt_V r rx f.1 fx
  ·exact q4v rx fx t f.2 u' hu
def inV(x:V)(xs:List V):Bool:=xs.any fun y=>eqV y x
def rIn(K:Af)(neg:Bool):R2:=fun x y H Q=>∃p xs,y=.ref p/\(SqL K H p xs\/SqT K H p xs)/\flatV x=true/\xs.all flatV=true/\Q (.bl (if neg then !inV x xs else inV x xs)) H
theorem z7c:OpR X (Cz .In) (rIn X.K false):=by
 intro pins s σ H x y v u Q I rx ry h;obtain⟨p,xs,rfl,hq,fx,fs,q⟩:=h;cases ry;rcases hq with hq|hq
 ·obtain⟨its,r,pl,hz⟩:=I.list hq;refine SeqAt.in_listAt (eqU x) pl.isList (fun w hw=>q4v rx fx r fs w (by simpa using hw)) ⟨.bl _,H,I,rfl,?_⟩;rw[show its.toArray.any (eqU x)=its.any (eqU x) by simp,q6y r fs];exact q
 ·obtain⟨its,r,pl,hz⟩:=I.tuple hq;refine SeqAt.in_tupleAt (eqU x) pl (fun w hw=>q4v rx fx r fs w (by simpa using hw)) ⟨.bl _,H,I,rfl,?_⟩;rw[show its.toArray.any (eqU x)=its.any (eqU x) by simp,q6y r fs];exact q
theorem z0x:OpR X (Cz .NotIn) (rIn X.K true):=by
 intro pins s σ H x y v u Q I rx ry h;obtain⟨p,xs,rfl,hq,fx,fs,q⟩:=h;cases ry;rcases hq with hq|hq
 ·obtain⟨its,r,pl,hz⟩:=I.list hq;refine SeqAt.notIn_listAt (eqU x) pl.isList (fun w hw=>q4v rx fx r fs w (by simpa using hw)) ⟨.bl _,H,I,rfl,?_⟩;rw[show its.toArray.any (eqU x)=its.any (eqU x) by simp,q6y r fs];exact q
 ·obtain⟨its,r,pl,hz⟩:=I.tuple hq;refine SeqAt.notIn_tupleAt (eqU x) pl (fun w hw=>q4v rx fx r fs w (by simpa using hw)) ⟨.bl _,H,I,rfl,?_⟩;rw[show its.toArray.any (eqU x)=its.any (eqU x) by simp,q6y r fs];exact q
theorem op_notIn_str:OpR X (Cz .NotIn) (fun x y H Q=>∃i j,x=.str i/\y=.str j/\Q (.bl (!(!(Dy j i 0 j.length 1).isEmpty))) H):=by
 intro pins s σ H x y v u Q I rx ry h;obtain⟨i,j,rfl,rfl,q⟩:=h;obtain⟨t,rfl⟩:=rx;obtain⟨t',rfl⟩:=ry;exact notIn_str ⟨.bl _,H,I,rfl,q⟩
theorem CallR.or(h:CallR X f r)(h':CallR X f r'):CallR X f (fun xs H Q=>r xs H Q\/r' xs H Q):=by
 intro pins s σ H xs us Q I rs q;rcases q with q|q
 ·exact h pins s σ H xs us Q I rs q
 ·exact h' pins s σ H xs us Q I rs q
theorem z0y:CallR X (.type "list") (fun xs H Q=>∃p ys,xs=[.ref p]/\(SqL X.K H p ys\/SqT X.K H p ys)/\∀l,H l=none->Q (.ref l) (upd H l (.lst ys))):=by
 intro pins s σ H xs us Q I r h;obtain⟨p,ys,rfl,hq,q⟩:=h;obtain⟨u,rfl,rx⟩:=vals1 r;cases rx;have fin:∀(its:List Value),Vals ys its->ys.length<=sizeLine->∀(h':Heap) (c':Nat),(∀b o',s.heap.get? b=some o'->h'.get? b=some o') ->
   h'.get? s.heap.objs.size=some { cls:=.type "list",dict:=none,data:=.seq its.toArray c',slots:=#[] }->EP X pins σ Q (.ref s.heap.objs.size) { s with heap:=h' }:=fun its r' hz h' c' kp e =>
  ⟨.ref s.heap.objs.size,_,I.laid (t':=s.toks) kp (Aj _) (show ObjOk X.prog X.w _ h' _ (.lst ys) from⟨hz,its,c',r',e⟩),rfl,q _ (I.hok.fresh (Aj _))⟩
 rcases hq with hq|hq
 ·obtain⟨its,r',pl,hz⟩:=I.list hq;have hlen:=r'.length;obtain⟨o,ho,hc,n,hd⟩:=pl.isList;exact call_list_seq p (.inl rfl) ho hc hd (fun h' c' kp e=>fin its r' hz h' c' kp e) (by simp only[Ba]<;>lia)
 ·obtain⟨its,r',pl,hz⟩:=I.tuple hq;have hlen:=r'.length;obtain⟨o,ho,hc,n,hd⟩:=pl;exact call_list_seq p (.inr rfl) ho hc hd (fun h' c' kp e=>fin its r' hz h' c' kp e) (by simp only[Ba]<;>lia)
theorem q9c:CallR X (.type "tuple") (fun xs H Q=>∃p ys,xs=[.ref p]/\((SqL X.K H p ys/\∀l,H l=none->Q (.ref l) (upd H l (.tup ys)))\/(SqT X.K H p ys/\Q (.ref p) H))):=by
 intro pins s σ H xs us Q I r h;obtain⟨p,ys,rfl,h⟩:=h;obtain⟨u,rfl,rx⟩:=vals1 r;cases rx;rcases h with⟨hq,q⟩|⟨hq,q⟩
 ·obtain⟨its,r',pl,hz⟩:=I.list hq;have hlen:=r'.length;refine call_tuple_list pl.isList (fun h' kp=>?_) (by simp only[Ba]<;>lia);have I1:Inv X pins σ H { s with heap:=h' }:=I.kept (t':=s.toks) kp;have I2:Inv X pins σ (upd H h'.objs.size (.tup ys)) { s with heap:=h'.push { cls:=.type "tuple",data:=.seq its.toArray } } :=
   I1.laid (t':=s.toks) (fun b o e=>Ae _ e) (Aj _) (show ObjOk X.prog X.w _ _ _ (.tup ys) from⟨hz,its,r',Sb _ _⟩)
  exact⟨.ref h'.objs.size,_,I2,rfl,q _ (I1.hok.fresh (Aj _))⟩
 ·obtain⟨its,r',pl,hz⟩:=I.tuple hq;exact call_tuple_same pl ⟨.ref p,H,I,rfl,q⟩
def tyV(K:Af)(T:String)(x:V)(H:Hp):Prop:=match x with
 |.str _=>T = "str"
 |.int _=>T = "int"
 |.ref p=>(T = "list" /\ ∃xs,SqL K H p xs)\/(T = "tuple" /\ ∃o,K.lookup p=some o/\o.cls=.type "tuple" /\ o.dict=none) \/
   (T = "dict" /\ ((∃kvs,H p=some (.dK kvs))\/∃kvs,H p=some (.dT kvs)))\/(T = "set" /\ ∃S n,H p=some (.set S n))
 |_=>False
theorem x1q{σ:St}(I:Inv X pins σ H s)(r:RelV x v)(ty:tyV X.K T x H):
  s.TypeIs v T/\∀a,v=.ref a->∃ob,s.heap.get? a=some ob/\ob.dict=none:=by
 cases x with
 |str z =>
  obtain⟨t,rfl⟩:=r;cases(show T = "str" from ty);exact⟨Kk s z t,fun _ e=>nomatch e⟩
 |int i =>
  obtain⟨t,rfl⟩:=r;cases(show T = "int" from ty);exact⟨Rr s i t,fun _ e=>nomatch e⟩
 |ref p =>
  cases r;rcases ty with⟨rfl,xs,hq⟩|⟨rfl,o,hk,hc,hd⟩|⟨rfl,hk⟩|⟨rfl,S,n,hk⟩
  ·obtain⟨its,_,pl,_⟩:=I.list hq;refine⟨pl.isList.typeIs,fun a e=>?_⟩;cases e;obtain⟨o,n,e,c,hd,_⟩:=pl;exact⟨o,e,hd⟩
  ·refine⟨⟨o,I.kIn p o hk,hc⟩,fun a e=>?_⟩;cases e;exact⟨o,I.kIn _ o hk,hd⟩
  ·have z:∃o,s.heap.get? p=some o/\o.ExactDict:=by
    rcases hk with⟨kvs,hk⟩|⟨kvs,hk⟩
    ·obtain⟨_,_,_,_,o,_,_,e,ex,_⟩:=I.hok p _ hk;exact⟨o,e,ex⟩
    ·obtain⟨_,_,_,_,o,_,_,e,ex,_⟩:=I.hok p _ hk;exact⟨o,e,ex⟩
   obtain⟨o,e,ex⟩:=z;refine⟨⟨o,e,ex.1⟩,fun a e2=>?_⟩;cases e2;exact⟨o,e,ex.2.1⟩
  ·obtain⟨o,_,_,_,e,ex,_⟩:=I.hok p _ hk;refine⟨⟨o,e,ex.1⟩,fun a e2=>?_⟩;cases e2;exact⟨o,e,ex.2.1⟩
 |_=>exact False.elim ty
def tBM0(K:Af)(T:String)(r:V->List V->Hp->VK->Prop)(to:TE):TE:=fun σ H Q=>to σ H fun x H1=>tyV K T x H1/\r x [] H1 Q
def tBM(K:Af)(T:String)(r:V->List V->Hp->VK->Prop)(to:TE)(t:TA):TE:=fun σ H Q=>to σ H fun x H1=>tyV K T x H1/\t σ H1 fun xs H2=>r x xs H2 Q
variable{o e:Expr}{es:List Expr}{to:TE}{t:TA}{name:Str}{apos cpos:Pos}{T id:String}{r:V->List V->Hp->VK->Prop}
theorem pe_bm0(pa:Ov T)(slot:Slot T name id)(hty:typeOf (.builtin id)=pure (.type "method_descriptor"))(hm:MtR X id r)(ho:PE X o to)(hbase:Ik o name X.env (eval o X.env)=eval o X.env:=by rfl)(hline:(apos.endLine==cpos.line)=true:=by rfl):PE X (.Call (.Attribute o name apos) [] [] cpos) (tBM0 X.K T r to):=by
 intro pins s σ H Q I h;refine wpAny_Call_method0_late hbase hline (thn (ho pins s σ H _ I h) fun v s1 ⟨x,H1,I1,r1,ty,q1⟩=>?_);obtain⟨h1,h2⟩:=x1q I1 r1 ty;exact⟨T,id,pa,slot,hty,h1,h2,Nt rfl (PySem.evalArgs_none (hm pins s1 σ H1 x [] v [] Q I1 r1 .nil q1))⟩
theorem pe_bm(pa:Ov T)(slot:Slot T name id)(hty:typeOf (.builtin id)=pure (.type "method_descriptor"))(hm:MtR X id r)(ho:PE X o to)(ha:PA X (e::es) t)(hbase:Ik o name X.env (eval o X.env)=eval o X.env:=by rfl)(hfew:((Gu cpos (Bd (e::es) X.env)).all (fun x => !x.1)&&(backToKw cpos (Rf [] X.env)).all (fun x=>x.1.isSome)
   && decide ((e::es).length+([]:List Sa).length+(if ([]:List Sa).isEmpty then 0 else 1)<30))=true:=by rfl)(hline:(apos.endLine==cpos.line)=true:=by rfl)(hs:Bd (e::es) X.env=(false,eval e X.env)::Bd es X.env:=by rfl)(hplain:(Gu cpos (Bd es X.env)).any (·.1)=false:=by rfl):
  PE X (.Call (.Attribute o name apos) (e::es) [] cpos) (tBM X.K T r to t):=by
 intro pins s σ H Q I h;refine wpAny_Call_method_late hbase hfew hline rfl (thn (ho pins s σ H _ I h) fun v s1 ⟨x,H1,I1,r1,ty,q1⟩=>?_);obtain⟨h1,h2⟩:=x1q I1 r1 ty;refine⟨T,id,pa,slot,hty,h1,h2,?_⟩;have hA:=ha cpos pins s1 σ H1 _ I1 q1;rw[hs] at hA ⊢;refine Nt (by show(false||(Gu cpos (Bd es X.env)).any (·.1))=false;rw[hplain]<;>rfl) (Calls.evalArgs_plain ?_);exact thn hA fun us s2 ⟨vs,H2,I2,r2,q2⟩=>hm pins s2 σ H2 x vs v us Q I2 r1 r2 q2
end
open PySem PySem.Spec PyProof.Rows
def MtM(X:Cx)(id:String)(r:V->List V->Hp->VK->Prop):Prop :=
 ∀(pins:List (Addr×Obj)) (s:Ah) (σ:St) (H:Hp) (x:V) (xs:List V) (v:Value) (us:List Value) (Q:VK),Inv X pins σ H s->RelV x v->Vals xs us->r x xs H Q ->
  wpAny (model X.prog X.w) X.A (call (.builtin id) (v::us)) (EP X pins σ Q) X.xe s
theorem Vals.one:∀{x:V} {us:List Value},Vals [x] us->∃u,us=[u]/\RelV x u
 |_,_,.cons r .nil=>⟨_,rfl,r⟩
theorem Vals.two:∀{x y:V} {us:List Value},Vals [x,y] us->∃u v,us=[u,v]/\RelV x u/\RelV y v
 |_,_,_,.cons r (.cons q .nil)=>⟨_,_,rfl,r,q⟩
theorem Vals.zero:∀{us:List Value},Vals [] us->us=[]
 |_,.nil=>rfl
theorem Vals.dropLast(h:Vals xs us):Vals xs.dropLast us.dropLast:=by
 induction h with
 |nil=>exact .nil
 |cons r t ih =>
  cases t with
  |nil=>exact .nil
  |cons q t'=>exact .cons r ih
theorem Vals.reverse(h:Vals xs us):Vals xs.reverse us.reverse:=by
 induction h with
 |nil=>exact .nil
 |cons r t ih=>rw[Qs,Qs];exact Vals.append ih (.cons r .nil)
theorem Vals.rep{xs:List V}{us:List Value}(h:Vals xs us):∀k:Nat,Vals (List.replicate k xs).flatten (List.replicate k us).flatten
 |0=>.nil
 |k+1=>by
  rw[Ky,Ky,Dg,Dg];exact Vals.append h (Vals.rep h k)
theorem z0z(its:List Value):∀(k:Nat) (acc:List Value),
  List.foldl (fun x1 x2=>x1++x2) acc.toArray (List.replicate k its.toArray)=(acc++(List.replicate k its).flatten).toArray
 |0,acc=>by simp
 |k+1,acc=>by
  have e:acc.toArray++its.toArray=(acc++its).toArray:=by simp
  have e2:(acc++its)++(List.replicate k its).flatten=acc++(List.replicate (k+1) its).flatten:=by grind
  rw[<- e2,<- z0z its k (acc++its),<- e,Ky,Fj]
section
variable{X:Cx}{pins:List (Addr×Obj)}{σ:St}{H:Hp}{s:Ah}{l b:Addr}{xs ys zs:List V}
theorem Inv.lset{its:List Value}(I:Inv X pins σ H s)(hH:H l=some (.lst xs))(e:s.heap.get? l=some { cls:=.type "list",data:=.seq its.toArray n })(hf:f its.toArray=its'.toArray)(hv:Vals ys its')(hz:ys.length<=sizeLine):
  Inv X pins σ (upd H l (.lst ys)) { s with heap:=s.heap.update l (Mb f),toks:=t' }:=by
 have q:=PySem.IsL.update e f;rw[hf] at q;refine I.write (by rw[hH];exact trivial) (.inl rfl) (fun b' u hb hu=>(Ck s.heap (Mb f) (Dm hb)).trans hu) ⟨_,q⟩ ?_;exact⟨hz,its',_,hv,q⟩
theorem Inv.lnew(I:Inv X pins σ H s)(hv:Vals ys its)(hz:ys.length<=sizeLine):
  Inv X pins σ (upd H s.heap.objs.size (.lst ys)) { s with heap:=s.heap.push { cls:=.type "list",data:=.seq its.toArray },toks:=t' } :=
 I.laid (fun _ _ q=>Ae _ q) (Aj _) ⟨hz,its,0,hv,Bb _ rfl⟩
theorem Inv.fresh(I:Inv X pins σ H s):H s.heap.objs.size=none:=I.hok.fresh (Aj _)
theorem Inv.lstM(I:Inv X pins σ H s)(hH:H l=some (.lst xs)):xs.length<=sizeLine/\∃(its:List Value) (n:Nat),Vals xs its/\xs.length=its.length/\s.heap.get? l=some { cls:=.type "list",data:=.seq its.toArray n }:=by
 obtain⟨z,its,n,r,e⟩:=I.hok l _ hH;exact⟨z,its,n,r,r.length,e⟩
theorem notLongL(h:n<=sizeLine):Iz n=false:=by
 exact decide_eq_false (by lia)
end
section
variable{X:Cx}
def rAppend:V->List V->Hp->VK->Prop:=fun x vs H Q=>∃l xs y,x=.ref l/\vs=[y]/\H l=some (.lst xs)/\xs.length<sizeLine/\Q .non (upd H l (.lst (xs++[y])))
theorem q1m:MtM X "list.append" rAppend:=by
 intro pins s σ H x vs v us Q I rx rv h;obtain⟨l,xs,y,rfl,rfl,hH,hz,q⟩:=h;cases rx;obtain⟨u,rfl,ru⟩:=rv.one;obtain⟨z,its,n,r,hl,e⟩:=I.lstM hH;refine Ic F.slot_list_append ⟨_,e,rfl⟩ F.entry_list_append (F.args_list_append_2 _ _) (PySem.list_append l its.toArray n u (by rw[Ba];lia)) ⟨e,?_⟩;refine⟨.non,_,I.lset (its':=its++[u]) hH e (by simp) (r.append (.cons ru .nil)) ?_,rfl,q⟩;rw[Ad,Bg];lia
def rExtend:V->List V->Hp->VK->Prop:=fun x vs H Q=>∃l b xs zs,x=.ref l/\vs=[.ref b]/\H l=some (.lst xs)/\H b=some (.lst zs)/\xs.length+zs.length<=sizeLine/\Q .non (upd H l (.lst (xs++zs)))
theorem q4w:MtM X "list.extend" rExtend:=by
 intro pins s σ H x vs v us Q I rx rv h;obtain⟨l,b,xs,zs,rfl,rfl,hH,hB,hz,q⟩:=h;cases rx;obtain⟨u,rfl,ru⟩:=rv.one;cases ru;obtain⟨z,its,n,r,hl,e⟩:=I.lstM hH;obtain⟨z2,its2,n2,r2,hl2,e2⟩:=I.lstM hB;have hsz:its.toArray.size+its2.toArray.size<=sizeLine:=by grind
 have hlong:¬(!its.toArray.isEmpty&&Iz (its.toArray.size+its2.toArray.size))=true:=by
  rw[notLongL hsz,Bool.and_false];exact Bl
 refine Ic F.slot_list_extend ⟨_,e,rfl⟩ F.entry_list_extend (F.args_list_extend_2 _ _)
  (AutoSeq1.list_extend_list_list_0 l its.toArray n b its2.toArray n2 hlong (by rw[Ba];lia) (by lia)) ⟨e,e2,?_⟩
 refine⟨.non,_,I.lset (its':=its++its2) hH e (by simp) (r.append r2) ?_,rfl,q⟩;rw[Ad];lia
def rReverse:V->List V->Hp->VK->Prop:=fun x vs H Q=>∃l xs,x=.ref l/\vs=[]/\H l=some (.lst xs)/\Q .non (upd H l (.lst xs.reverse))
theorem z5p:MtM X "list.reverse" rReverse:=by
 intro pins s σ H x vs v us Q I rx rv h;obtain⟨l,xs,rfl,rfl,hH,q⟩:=h;cases rx;have hus:=rv.zero;subst hus;obtain⟨z,its,n,r,hl,e⟩:=I.lstM hH;refine Ic F.slot_list_reverse ⟨_,e,rfl⟩ F.entry_list_reverse (F.args_list_reverse_1 _) (AutoSeq1.list_reverse_list_0 l its.toArray n (by rw[Ba];lia)) ⟨e,?_⟩;refine⟨.non,_,I.lset (its':=its.reverse) hH e (by simp) r.reverse ?_,rfl,q⟩;rw[Pj];lia
def rCat:R2:=fun x y H Q=>∃l b xs zs,x=.ref l/\y=.ref b/\H l=some (.lst xs)/\H b=some (.lst zs)/\xs.length+zs.length<=sizeLine/\∀p,H p=none->Q (.ref p) (upd H p (.lst (xs++zs)))
theorem op_cat:OpR X (Gi .Add) rCat:=by
 intro pins s σ H x y v u Q I rx ry h;obtain⟨l,b,xs,zs,rfl,rfl,hH,hB,hz,q⟩:=h;cases rx;cases ry;obtain⟨z,its,n,r,hl,e⟩:=I.lstM hH;obtain⟨z2,its2,n2,r2,hl2,e2⟩:=I.lstM hB;refine PySem.P.add_list e e2 ?_ (by rw[Ba,Ba];lia);have ea:its.toArray++its2.toArray=(its++its2).toArray:=by simp
 rw[ea];exact⟨.ref _,_,I.lnew (t':=s.toks) (r.append r2) (by rw[Ad];lia),rfl,q _ I.fresh⟩
def rRep:R2:=fun x y H Q=>∃l k xs,x=.ref l/\y=.int k/\H l=some (.lst xs) /\ -(2^63)<=k/\k<2^63/\xs.length*k.toNat<=sizeLine /\
 ∀p,H p=none->Q (.ref p) (upd H p (.lst (List.replicate k.toNat xs).flatten))
theorem x2x{α:Type}(xs:List α)(k:Nat):(List.replicate k xs).flatten.length=k*xs.length:=by simp_all
theorem op_rep:OpR X (Gi .Mult) rRep:=by
 intro pins s σ H x y v u Q I rx ry h;obtain⟨l,k,xs,rfl,rfl,hH,h1,h2,hz,q⟩:=h;cases rx;obtain⟨t,rfl⟩:=ry;obtain⟨z,its,n,r,hl,e⟩:=I.lstM hH;have hlen:its.toArray.size*k.toNat<=sizeLine:=by simp_all
 have hcap:¬its.toArray.size*k.toNat>(2^63-1) / 8:=by
  have:(sizeLine:Nat)<=(2^63-1) / 8:=by decide
  lia
 have hfit:¬(!Builtin.List.listFitsIndex k)=true:=by
  rw[fitsIndex_both h1 h2];exact Bl
 have hlong:¬Iz (its.toArray.size*k.toNat)=true:=by
  rw[notLongL hlen];exact Bl
 have hnew:List.foldl (fun x1 x2=>x1++x2) #[] (List.replicate (if its.toArray.isEmpty=true then 0 else k.toNat) its.toArray)=(List.replicate k.toNat its).flatten.toArray:=by
  have f0:∀m:Nat,List.foldl (fun x1 x2=>x1++x2) #[] (List.replicate m its.toArray)=(List.replicate m its).flatten.toArray:=fun m=>by
   have:=z0z its m [];exact this
  cases its with
  |nil=>simp
  |cons a r'=>grind
 refine wpAny_binaryOp_repeat_ref (by decide) ⟨_,e,rfl⟩ (fun s'=>Rr s' k t) noFill_list_mul F.fills_int_mul Rt repeat_list F.slot_int_index.lookup
  (Ic Rt (Rr s k t) F.entry_int_rmul (F.args_int_rmul_2 _ _) (int___rmul___int_list k t l its.toArray n)
   ⟨e,rfl,⟨_,e,rfl⟩,Ic F.slot_list_mul ⟨_,e,rfl⟩ F.entry_list_mul (F.args_list_mul_2 _ _) (AutoListH.list___mul___list_int_3 l its.toArray n k t hfit hcap hlong) ⟨e,?_⟩⟩)
 rw[hnew];exact⟨.ref _,_,I.lnew (t':=s.toks) (r.rep k.toNat) (by rw[x2x,Qd];exact hz),rfl,q _ I.fresh⟩
end
end L2
namespace Att
open PySem PySem.W PySem.Calls PyProof.Rows
theorem q6z:∀(ns:List Int) (vs:List Value),WellAll P h vs (ns.map WData.int)->Qn vs ns:=by
 intro ns;induction ns with
 |nil =>
  intro vs w;cases w;exact .nil
 |cons n ns ih =>
  intro vs w;cases w with
  |cons a b =>
   cases a;exact .cons _ _ (ih _ b)
theorem z7d{l:OpenLaw}(hn:l.most=some n)(hpre:l.row.toRowW.claim.pre args=true)(hwl:WellAll P h vals args):
  ∃a vs ns,vals=[Value.ref a]/\args=[WData.list (ns.map WData.int)]/\h.get? a=some { cls:=.type "list",data:=.seq vs.toArray }/\Qn vs ns/\ns.length<=n:=by
 have hsh:=(pre_splitW hpre).1;have hc:l.pre.holds [] { args:=args }=true:=(pre_splitW hpre).2;obtain⟨d,r,rfl,h1,h2⟩:=hasAllW_cons hsh;obtain rfl:=hasAllW_nil h2;obtain⟨xs,rfl,h3⟩:=hasW_list h1;obtain⟨ns,rfl⟩:=items_int h3;have hlen:ns.length<=n:=by
  have h4:(WTm.not (.lt (.lit (.int (n:Int))) (.len (.arg 0)))).holds [] { args:=[.list (ns.map .int)] }=true:=by
   have h4:=(holds_andW hc).1;rw[hn] at h4;exact h4
  have h5:=condW_of h4 (w_not (w_lt w_lit (w_len_list (w_arg rfl))));first
   |(rw[decide_eq_true q'] at h5;exact absurd h5 (by decide))
   |(simp at h5;lia)
 cases hwl with
 |cons w1 w2 =>
  cases w2;cases w1 with
  |list ho hall=>exact⟨_,_,ns,rfl,rfl,ho,q6z ns _ hall,hlen⟩
theorem z7e(l:OpenLaw)(args:List WData):l.row.toRowW.claim.post args (.bool true) args=true :=
 postW_of
  (show WShape.has [] (.bool true) .bool=true by first|rfl|decide|simp[WShape.has,WShape.arms,WShape.armsAll])
  (show(WTm.eq .res (.lit (.bool true))).value [] { args:=args,res:=some (.bool true),after:=args }=some (.bool (true==true)) from w_eq_bool (w_res rfl) w_lit) rfl
theorem attach_call{l:OpenLaw}(hn:l.most=some n)(hdf:d.params.defaults=[])(call:∀(w:World) (s₀ s₁:Ah) (mg mb:Str->Option Value) (fa:Addr) (o:Obj) (pm cd doc:Value) (a:Addr) (vs:List Value) (ns:List Int),
   Ground q loose [] XP w s₀ mg mb s₁.heap->YP w s₁.heap ->
   s₁.heap.get? fa=some o->o.data=.func (docDef d.name d.params d.body d.scope pm cd doc)->s₁.heap.CodeRec cd d.name->mg d.name=some (.ref fa) ->
   s₁.heap.get? a=some { cls:=.type "list",data:=.seq vs.toArray }->Qn vs ns->ns.length<=n->s₁.gens=#[] ->
   Fx (model l.prog w) Mi (.call (.ref fa) ⟨[.ref a],[]⟩) (fun r s'=>r=.ok (.ret (.bool true))/\OldK s₁.heap s'.heap/\s'.os=s₁.os/\Jg s'.gens) s₁):
  WalkO q loose XP YP l.row.toRowW d [] (fun f vs=>Ru f vs):=by
 intro w s₀ s₁ mg mb G Y fa o pm cd doc dV kV ho hd hcd hD hmg hg args vals as hpre hlay hrd hwl hlo;obtain rfl:dV=.none:=Dflts.none hD hdf;obtain rfl:kV=.none:=Dflts.noKw hD;obtain⟨a,vs,ns,rfl,rfl,hobj,hints,hlen⟩:=z7d hn hpre hwl;refine enter_call (Gw (call w s₀ s₁ mg mb fa o pm cd doc a vs ns G Y ho (fd_plain hd) hcd hmg hobj hints hlen hg) fun r s' hq=>?_);obtain⟨rfl,h2,h3,h4⟩:=hq;exact⟨.inl ⟨.bool true,.bool true,[],rfl,fun _=>rfl,.bool true,z7e l _,fun _=>⟨List.Pairwise.nil,fun _ hm=>(nomatch hm)⟩⟩,h2,h3,h4⟩
end Att
namespace L2
open PySem PySem.Spec PyProof.Rows
theorem z1a:∀{vs:List Value} {ns:List Int},Qn vs ns->Vals (ns.map V.int) vs
 |_,_,.nil=>.nil
 |_,_,.cons n t h=>.cons ⟨t,rfl⟩ (z1a h)
def Only(H:Hp):Prop:=∀b,H b=none\/∃o xs,H b=some (.frz o (.lst xs))
theorem z9x{K:Af}(KX:K.In s₁.heap)(hns:s₁.heap.Ns Cb mg)(hb:s₁.heap.Ns builtinsNs mb)(hbb:∀x:Str,x ≠ "__name__" -> mb x=Fg x)(hlim:s₁.heap.NoLimit)(hg:s₁.gens=#[])(ha:s₁.heap.get? a=some { cls:=.type "list",data:=.seq vs.toArray })(hi:Qn vs ns)(hl:ns.length<=sizeLine)(hr:Room k Mi)(F:∀base:Heap,K.In base->base.Ns Cb mg->FnOk P w K mg base CX k fa fd [x] sp)(hbind:∀(s:Ah) (u:Value),Oa s fd ⟨[u],[]⟩ [(x,u)])(hsp:∀H:Hp,Only H->SqL K H a (ns.map V.int)->sp [.ref a] H (fun v _=>v=.bl true) fun _ _ _=>False)(hCX:∀H e s',CX [] H s₁ (fun _ _ _=>False) e s'->False):
  Fx (model P w) Mi (.call (.ref fa) ⟨[.ref a],[]⟩) (fun r s'=>r=.ok (.ret (.bool true))/\OldK s₁.heap s'.heap/\s'.os=s₁.os/\Jg s'.gens) s₁:=by
 have rv:=z1a hi;have lenV:=hi.length;have core:∀H:Hp,Only H->SqL K H a (ns.map V.int)->HOk P w H s₁.heap->(∀b,H b≠none->b=a)->(H a≠none->K.lookup a=none) ->
   Fx (model P w) Mi (.call (.ref fa) ⟨[.ref a],[]⟩) (fun r s'=>r=.ok (.ret (.bool true))/\OldK s₁.heap s'.heap/\s'.os=s₁.os/\Jg s'.gens) s₁:=by
  intro H hO hS hok hA hK;have base_of:∀{b:Addr} {o:Obj},s₁.heap.get? b=some o->H b=none->(hidT s₁.heap H).get? b=some o:=fun e n=>z9r e n;have noA:∀{b:Addr} {o:Obj} {es:Array Lk} {ep:Nat},s₁.heap.get? b=some o->o.data=.dict es ep->H b=none:=fun{b o es ep} e d=>by
   cases q:H b with
   |none=>rfl
   |some u =>
    have e':=hA b (by rw[q];simp);subst e';rw[ha] at e;cases e;have d':=d;cases d'
  have nsK:∀{b:Addr} {m:Str->Option Value},s₁.heap.Ns b m->(hidT s₁.heap H).Ns b m:=fun{b m} ⟨o,es,ep,e,d,r⟩=>⟨o,es,ep,base_of e (noA e d),d,r⟩
  have hKb:=fun b o e=>base_of (KX b o e) (by
   cases q:H b with
   |none=>rfl
   |some u =>
    have e':=hA b (by rw[q];simp);subst e';rw[hK (by rw[q];simp)] at e;cases e)
  have hM:Mod K mg (hidT s₁.heap H):=⟨hKb,nsK hns,⟨mb,nsK hb,hbb⟩,let ⟨mc,h1,h2⟩:=hlim;⟨mc,nsK h1,h2⟩⟩
  have e0:Env0 P w K mg (hidT s₁.heap H) Mi [] s₁ H:=⟨rfl,hM,fun b o e=>x2s e,Er (z6m _ _),trivial,fun b hb=>absurd (show b∈([]:List Addr) from hb) (by simp),hok,.of_eq hg⟩
  refine Gw ((F _ hKb (nsK hns)).run Mi [] s₁ H ⟨[.ref a],[]⟩ [.ref a] [.ref a] _ _ hr e0 (hbind s₁ (.ref a)) (.cons rfl .nil) (hsp H hO hS)) fun r s' h=>?_;cases r with
  |error e=>exact(hCX H e s' h).elim
  |ok fl =>
   cases fl with
   |next=>exact False.elim h
   |brk=>exact False.elim h
   |cont=>exact False.elim h
   |ret u =>
    obtain⟨v,H',os,bare,un,hok',r',q⟩:=h;have q':=q;subst q';obtain rfl:u=Value.bool true:=r';refine⟨rfl,OldK.of_keep fun b o e=>?_,os,bare⟩;cases q:H b with
    |none=>exact un.keep b o e q (by intro z;exact absurd (show b∈([]:List Addr) from z) (by simp)) (by simp)
    |some u =>
     rcases hO b with z|⟨ob,xs,z⟩
     ·grind
     ·have z2:=un.frzs b ob _ z;obtain⟨e1,_⟩:=hok b _ z;obtain⟨e2,_⟩:=hok' b _ z2;rw[e] at e1;cases e1;exact e2
 cases hk:K.lookup a with
 |some o =>
  have e:=KX a o hk;rw[ha] at e;cases e;refine core (fun _=>none) (fun _=>.inl rfl) (.inr ⟨_,vs.toArray,_,hk,rfl,rfl,rfl,by rw[Ba,lenV];exact hl,by simpa using rv⟩) (fun b u z=>by have z':(none:Option HO)=some u:=z;cases z') (fun b z=>absurd rfl z) fun z=>absurd rfl z
 |none =>
  refine core (fun b=>if b=a then some (.frz { cls:=.type "list",data:=.seq vs.toArray } (.lst (ns.map V.int))) else none) (fun b=>?_) (.inl (.inr ⟨{ cls:=.type "list",data:=.seq vs.toArray },if_pos rfl⟩)) (fun b u z=>?_) (fun b z=>?_) fun _=>hk
  ·by_cases hb:b=a
   ·simp_all
   ·simp_all
  ·by_cases hb:b=a
   ·have z':=(if_pos hb).symm.trans z;cases z';subst hb;exact⟨ha,by rw[Ag];exact hl,vs,_,rv,ha⟩
   ·grind
  ·grind
theorem walk_of{l:Sd}{K:Params->Af}{CX:World->CXT}{sp:World->Sp}(hn:l.most=some n)(hn2:n<=sizeLine)(hdf:d.params.defaults=[])(hr:Room k Mi)(hY:∀(w:World) (h:Heap),YP w h->(K w.params).In h)(F:∀(w:World) (mg:Str->Option Value) (fa:Addr) (h:Heap),(K w.params).In h->h.Ns Cb mg->mg d.name=some (.ref fa) ->
   ∃fd:Jw,(∀(s:Ah) (u:Value),Oa s fd ⟨[u],[]⟩ [(x,u)]) /\
    ∀base:Heap,(K w.params).In base->base.Ns Cb mg->FnOk l.prog w (K w.params) mg base (CX w) k fa fd [x] (sp w))(hsp:∀(w:World) (H:Hp) (a:Addr) (ns:List Int),ns.length<=n->Only H->SqL (K w.params) H a (ns.map V.int)->sp w [.ref a] H (fun v _=>v=.bl true) fun _ _ _=>False)(hCX:∀(w:World) (H:Hp) (s:Ah) (e:Value) (s':Ah),CX w [] H s (fun _ _ _=>False) e s'->False):
  W.WalkO q loose XP YP l.row.toRowW d [] (fun f vs=>Ru f vs):=by
 refine Att.attach_call hn hdf fun w s₀ s₁ mg mb fa o pm cd doc a vs ns G Y ho hd hcd hmg hobj hints hlen hg=>?_;have KX:=hY w _ Y;obtain⟨fd,hb,hF⟩:=F w mg fa _ KX G.T.g hmg;exact z9x KX G.T.g G.T.b G.T.builtins G.T.nolimit hg hobj hints (Aq hlen hn2) hr hF hb (fun H hO hS=>hsp w H a ns hlen hO hS) fun H e s'=>hCX w H s₁ e s'
def inClass(s:Stmt)(j:Nat):Stmt:=match s with
 |.ClassDef _ _ _ body _ _ _ _ _ _ _=>body.getD j (.Pass ⟨0,0,0,0⟩)
 |_=>.Pass ⟨0,0,0,0⟩
def defArgs(s:Stmt):Arguments:=match s with
 |.FunctionDef _ a _ _ _ _ _ _ _ _=>a
 |_=>{ posonlyargs:=[],args:=[],vararg:=none,kwonlyargs:=[],kw_defaults:=[],kwarg:=none,defaults:=[] }
def defBody(s:Stmt):List Stmt:=match s with
 |.FunctionDef _ _ b _ _ _ _ _ _ _=>b
 |_=>[]
def defScope(s:Stmt):Scope:=match s with
 |.FunctionDef _ _ _ _ _ _ sc _ _ _=>sc
 |_=>{ kind:=.function,names:=[],isGenerator:=false,isCoroutine:=false }
abbrev CX0:CXT:=fun _ _ _ _ _ _=>False
abbrev E0:XK:=fun _ _ _=>False
theorem pass0:Passes CX0 X E0:=fun _ _ _ _ _ _ _ h=>h.elim
structure Fun (K:Af) (x qual:Str) (st:Stmt) (f:Addr) (fd:Jw):Prop where
 ex:∃(oc:Value) (od:Option Addr) (kV doc pm:Value) (an:Option Addr) (cdv ct:Value) (osl:Array (Option Value)),
  fd=Iy x qual (defArgs st) (defBody st) (defScope st) .none kV doc pm an cdv ct/\K.lookup f=some ⟨oc,od,.func fd,osl⟩/\Mo K cdv qual=true
 kp:Fy K (.ref f)=true
section
variable{P:Program}{w:World}{K:Af}{mg:Str->Option Value}{base:Heap}
theorem Fun.ok{st:Stmt}(F:Fun K x qual st f fd)(S:FnScope N ps (defScope st))(len:∀vs H Q E,sp vs H Q E->vs.length=ps.length)(hbody:∀(cdv:Value) (A:Around) (outer:List Env) (s:Ah) (H:Hp) (vs:List V) (Q:VK) (E:XK),Room k (A.deeper (Hh qual (defScope st) s.heap.objs.size f cdv))->sp vs H Q E ->
   ∃t,PSs (cxOf CX0 P w K mg base N qual (defScope st) f cdv A outer s H E).nox (defBody st) t/\t { nx:=fun _ H'=>Q .non H',rt:=Q } (start N vs) H):FnOk P w K mg base CX0 (k+1) f fd ps sp:=by
 obtain⟨oc,od,kV,doc,pm,an,cdv,ct,osl,rfl,lk,hcd⟩:=F.ex;refine fn_of lk hcd S len fun A outer s H vs Q E hr hsp=>?_
 obtain⟨t,h,q⟩:=hbody cdv A outer s H vs Q E hr hsp;exact⟨t,h.nox,q⟩
theorem Fun.binds{st:Stmt}(F:Fun K x qual st f fd)(h:∀(kV doc pm:Value) (an:Option Addr) (cdv ct:Value) (us:List Value),us.length=ps.length->bindArgs (Iy x qual (defArgs st) (defBody st) (defScope st) .none kV doc pm an cdv ct) ⟨us,[]⟩=pure (ps.zip us)):Binds K fd ps []:=by
 obtain⟨oc,od,kV,doc,pm,an,cdv,ct,osl,rfl,lk,hcd⟩:=F.ex;exact .all (h kV doc pm an cdv ct)
theorem z1b{st:Stmt}{kV:Value}(l:K.lookup f=some ⟨oc,od,.func (Iy x qual (defArgs st) (defBody st) (defScope st) .none kV doc pm an cdv ct),osl⟩)(c:Mo K cdv qual=true)(k:Fy K (.ref f)=true):Fun K x qual st f (Iy x qual (defArgs st) (defBody st) (defScope st) .none kV doc pm an cdv ct):=⟨⟨oc,od,kV,doc,pm,an,cdv,ct,osl,rfl,l,c⟩,k⟩
end
theorem z2m(hr:Room k A):A.units+1<cLine:=Lm (Nat.add_le_add_left (by decide:1<=64) _) hr.units
section
variable{X:Cx}
theorem pv(i:Nat){x:Str}{pos:Pos}(hN:X.N[i]?=some x:=by rfl)(hv:Vis X.env.scope x:=by first|exact Or.inl rfl|exact Or.inr (Or.inl rfl)|exact Or.inr (Or.inr rfl))(hd:(x==("__debug__" : Str))=false:=by decide)(hcd:(x==("__classdict__" : Str))=false:=by decide):PE X (.Name x pos) (tVar i):=pe_var hN hv hd hcd
end
theorem iteF{B:Prop}(h:B):if false=true then A else B:=by
 exact h
theorem iteT{B:Prop}(h:A):if true=true then A else B:=by
 exact h
theorem ite2{B:Prop}[Decidable c](h1:c->A)(h2:¬c->B):if c then A else B:=by grind
def Same(H H':Hp):Prop:=∀b o,H b=some o->H' b=some o
theorem Same.refl(H:Hp):Same H H:=fun _ _ h=>h
theorem Same.trans(a:Same H H1)(b:Same H1 H2):Same H H2:=fun c o h=>b c o (a c o h)
theorem Same.free(e:Same H H')(h:H' l=Option.none):H l=Option.none:=by
 cases q:H l with
 |none=>rfl
 |some o =>
  rw[e l o q] at h;cases h
theorem Same.seq{K:Af}(e:Same H H')(h:SqL K H a xs):SqL K H' a xs:=by
 rcases h with(h|⟨o,h⟩)|h
 ·exact .inl (.inl (e _ _ h))
 ·exact .inl (.inr ⟨o,e _ _ h⟩)
 ·exact .inr h
open PySem PySem.Spec PyProof.Rows
abbrev Caps:=List (Str×Nat)
def capV(σ:St):Caps->St
 |[]=>[]
 |(_,i)::r=>(σ[i]?).join::capV σ r
def CapOk(X:Cx)(scope:Scope):Caps->Prop
 |[]=>True
 |(x,i)::r=>(X.N[i]?=some x/\scope.names.lookup x=some .free/\(X.env.scope.names.lookup x=some .cell\/X.env.scope.names.lookup x=some .free))/\CapOk X scope r
def cxComp(X:Cx)(N:List Str)(scope:Scope)(cl:List (Str×Addr))(C:Addr)(fp:List Addr)(s:Ah)(H:Hp):Cx where
 prog:=X.prog
 w:=X.w
 K:=X.K
 mg:=X.mg
 base:=X.base
 A:=X.A
 N:=N
 s₀:=s
 H₀:=H
 env:=Dp scope cl C X.env
 outer:=X.stack
 stack:=X.stack
 ex:=fp
 fn:=fun _=>false
 calm:=X.calm
 pn:=[]
 xe:=fun _ _=>False
theorem z5q(names:List (Str×Be))(hh:∀x,(x,Be.free)∈names->∃c,env.cells.lookup x=some c):∀acc:List (Str×Addr),
  ∃cl,(forIn names acc (fun(x:Str×Be) (r:List (Str×Addr))=>match x with
   |(name,kind)=>if (kind==Be.free)=true then do let a<-cellOf env name;pure (ForInStep.yield ((name,a)::r)) else pure (ForInStep.yield r)):Sem (List (Str×Addr)))=pure cl /\
   (∀x c,(x,c)∈cl->(x,c)∈acc\/env.cells.lookup x=some c)/\(∀x,((x,Be.free)∈names\/∃c,(x,c)∈acc)->∃c,(x,c)∈cl):=by
 induction names with
 |nil=>intro acc;exact⟨acc,rfl,fun x c h=>.inl h,fun x h=>h.elim (fun z=>nomatch z) id⟩
 |cons n r ih =>
  intro acc;obtain⟨name,kind⟩:=n;by_cases hk:kind=Be.free
  ·subst hk;obtain⟨c,hc⟩:=hh name Ao;obtain⟨cl,e,h1,h2⟩:=ih (fun x hx=>hh x (Am _ hx)) ((name,c)::acc);refine⟨cl,?_,fun x d hd=>?_,fun x hx=>?_⟩
   ·rw[List.forIn_cons];have:cellOf env name=pure c:=by unfold cellOf;rw[hc]
    simp only[beq_self_eq_true,if_true,this];exact e
   ·rcases h1 x d hd with z|z
    ·rcases Ap.mp z with z|z
     ·cases z;exact .inr hc
     ·exact .inl z
    ·exact .inr z
   ·refine h2 x ?_;rcases hx with hx|⟨d,hd⟩
    ·rcases Ap.mp hx with z|z
     ·simp_all
     ·exact .inl z
    ·grind
  ·obtain⟨cl,e,h1,h2⟩:=ih (fun x hx=>hh x (Am _ hx)) acc;refine⟨cl,?_,h1,fun x hx=>h2 x ?_⟩
   ·simp_all
   ·grind
theorem q9d{cl:List (Str×Addr)}(h:(x,c)∈cl):∃d,cl.lookup x=some d:=by
 induction cl with
 |nil=>cases h
 |cons y r ih =>
  obtain⟨n,a⟩:=y;cases e:x==n with
  |true=>simp_all
  |false =>
   rcases Ap.mp h with z|z
   ·cases z;simp at e
   ·obtain⟨d,hd⟩:=ih z;exact⟨d,by simp only[Ie,e];exact hd⟩
theorem z5r(hh:∀x,(x,Be.free)∈scope.names->∃c,env.cells.lookup x=some c):
  ∃cl,Rx scope env=pure cl/\(∀x c,cl.lookup x=some c->env.cells.lookup x=some c)/\∀x,(x,Be.free)∈scope.names->∃c,cl.lookup x=some c:=by
 obtain⟨cl,e,h1,h2⟩:=z5q scope.names hh [];refine⟨cl,?_,fun x c h=>?_,fun x hx=>?_⟩
 ·unfold Rx;have e2:=congrArg (fun m:Sem (List (Str×Addr))=>m >>= fun cs=>(pure cs:Sem _)) e;exact e2
 ·rcases h1 x c (Ep h) with z|z
  ·cases z
  ·exact z
 ·obtain⟨c,hc⟩:=h2 x (.inl hx);exact q9d hc
theorem q4n{env:Env}{k:Be}(hk:k=.cell\/k=.free):∀{names:List (Str×Be)} {x:Str},(∀y∈names,y.2≠.cell) ->
  (names.map fun(n,k)=>if (k==Be.free&&env.scope.kind==.function&&env.kindOf n==some .cell) then(n,Be.cell) else(n,k)).lookup x=some k->(x,Be.free)∈names
 |[],_,_,h=>by simp at h
 |(n,k')::r,x,hc,h=>by
  have ih:=@q4n env k hk r x fun y hy=>hc y (Am _ hy);by_cases c:(k'==Be.free&&env.scope.kind==.function&&env.kindOf n==some .cell)=true
  ·have h':((n,Be.cell)::r.map fun(n,k)=>if (k==Be.free&&env.scope.kind==.function&&env.kindOf n==some .cell) then(n,Be.cell) else(n,k)).lookup x=some k:=by
    have e:(if (k'==Be.free&&env.scope.kind==.function&&env.kindOf n==some .cell)=true then(n,Be.cell) else(n,k'))=(n,Be.cell):=if_pos c;rw[<- e];exact h
   cases e:x==n with
   |true =>simp_all
   |false=>exact Am _ (ih (by simp only[Ie,e] at h';exact h'))
  ·have h':((n,k')::r.map fun(n,k)=>if (k==Be.free&&env.scope.kind==.function&&env.kindOf n==some .cell) then(n,Be.cell) else(n,k)).lookup x=some k:=by
    have e:(if (k'==Be.free&&env.scope.kind==.function&&env.kindOf n==some .cell)=true then(n,Be.cell) else(n,k'))=(n,k'):=if_neg c;rw[<- e];exact h
   cases e:x==n with
   |true =>simp_all
   |false=>exact Am _ (ih (by simp only[Ie,e] at h';exact h'))
theorem q6b{env:Env}:∀{names:List (Str×Be)} {x:Str},names.lookup x=some .free ->
    ((names.map fun(n,k)=>if (k==Be.free&&env.scope.kind==.function&&env.kindOf n==some .cell) then(n,Be.cell) else(n,k)).lookup x=some .cell \/
     (names.map fun(n,k)=>if (k==Be.free&&env.scope.kind==.function&&env.kindOf n==some .cell) then(n,Be.cell) else(n,k)).lookup x=some .free)
  |[],_,h=>by simp at h
  |(n,k')::r,x,h=>by
    have ih:=@q6b env r x;by_cases c:(k'==Be.free&&env.scope.kind==.function&&env.kindOf n==some .cell)=true
    · have e:(if (k'==Be.free&&env.scope.kind==.function&&env.kindOf n==some .cell)=true then(n,Be.cell) else(n,k'))=(n,Be.cell):=if_pos c;show(List.lookup x ((if (k'==Be.free&&env.scope.kind==.function&&env.kindOf n==some .cell)=true then(n,Be.cell) else(n,k'))::_)=_\/List.lookup x ((if (k'==Be.free&&env.scope.kind==.function&&env.kindOf n==some .cell)=true then(n,Be.cell) else(n,k'))::_)=_);rw[e];cases ex:x==n with
      |true=>simp_all
      |false =>
        simp only[Ie,ex] at h ⊢;exact ih h
    · have e:(if (k'==Be.free&&env.scope.kind==.function&&env.kindOf n==some .cell)=true then(n,Be.cell) else(n,k'))=(n,k'):=if_neg c;show(List.lookup x ((if (k'==Be.free&&env.scope.kind==.function&&env.kindOf n==some .cell)=true then(n,Be.cell) else(n,k'))::_)=_\/List.lookup x ((if (k'==Be.free&&env.scope.kind==.function&&env.kindOf n==some .cell)=true then(n,Be.cell) else(n,k'))::_)=_);rw[e];cases ex:x==n with
      |true =>simp_all
      |false =>
        simp only[Ie,ex] at h ⊢;exact ih h
theorem q7a(σ:St):∀caps:Caps,(capV σ caps).length=caps.length
 |[]=>rfl
 |(_,_)::r=>congrArg (· + 1) (q7a σ r)
theorem z3v:∀{caps:Caps} {j:Nat} {x:Str} {v:V},CapOk X scope caps->(caps.map (·.1))[j]?=some x->(capV σ caps)[j]?=some (some v) ->
  ∃i:Nat,X.N[i]?=some x/\σ[i]?=some (some v)/\scope.names.lookup x=some .free/\(X.env.scope.names.lookup x=some .cell\/X.env.scope.names.lookup x=some .free)
 |[],_,_,_,_,h,_=>by simp at h
 |(y,i)::r,0,x,v,hc,h1,h2=>by
  simp at h1;subst h1;have e:(σ[i]?).join=some v:=by simpa[capV] using h2
  refine⟨i,hc.1.1,?_,hc.1.2⟩;cases q:σ[i]? with
  |none=>rw[q] at e;cases e
  |some z=>simp_all
 |(y,i)::r,j+1,x,v,hc,h1,h2=>z3v hc.2 (by simpa using h1) (by simpa[capV] using h2)
def tg0(tg:List Str)(σ:St)(caps:Caps):St:=tg.map (fun _=>none)++capV σ caps
theorem Inv.ofcomp{σ:St}{C:Addr}(tg:List Str)(I:Inv X pins σ H s)(hkind:scope.kind=.function)(hnc:∀y∈scope.names,y.2≠.cell)(hc1:∀x c,cl.lookup x=some c->X.env.cells.lookup x=some c)(hc2:∀x,(x,Be.free)∈scope.names->∃c,cl.lookup x=some c)(hf:∀b∈fp,FpOk X pins H b)(hfo:∀b∈fp,∃o,s.heap.get? b=some o)(hC:s.heap.objs.size<=C)(hns:h₁.Ns C m)(hk:∀b o,s.heap.get? b=some o->h₁.get? b=some o)(co:CapOk X scope caps):
  Inv (cxComp X (tg++caps.map (·.1)) scope cl C fp s H) [] (tg0 tg σ caps) H { s with heap:=h₁,toks:=tk }:=by
 have hfs:∀b∈fp,b∉frs X.stack:=fun b hb hx=>by
  rcases Ap.mp (I.stkSub b hx) with z|z
  ·exact(hf b hb).2.1 z
  ·exact(hf b hb).2.2.1 z
 have ok:(cxComp X (tg++caps.map (·.1)) scope cl C fp s H).Ok:=by
  refine⟨I.ok.mod,hkind,I.ok.glob,I.ok.blt,hC,fun x y c h1 h2=>I.ok.inj x y c (hc1 x c h1) (hc1 y c h2),fun x hx=>?_,fun x c h=>(nomatch h),I.ok.hd,I.ok.frames,.inl rfl,fun b hb=>⟨?_,fun x c h=>(hf b hb).2.2.2.2.1 x c (hc1 x c h)⟩,
   I.bs,Aq I.ok.bsz I.sz,fun b o e hb=>?_,hfs,I.stack,I.stkFree⟩
  ·rcases hx with hx|hx
   ·exact hc2 x (q4n (.inl rfl) hnc hx)
   ·exact hc2 x (q4n (.inr rfl) hnc hx)
  ·obtain⟨o,e⟩:=hfo b hb;exact By (Bh (Au e) hC)
  ·rcases(hf b hb).2.2.2.1 with z|z
   ·exact I.ok.noex b o e z
   ·exact absurd (Bh (Au (I.ok.bs b o e).1) z) (Gh _)
 refine⟨ok,rfl,I.bare,Un.kept hk,⟨m,hns,fun j x v h1 h2 h3=>?_⟩,fun x c h=>?_,I.hok.fresh hC,fun x c h=>I.freeC x c (hc1 x c h),fun p hp=>(nomatch hp),I.hok.kept hk,?_⟩
 ·have h1':(tg++caps.map (·.1))[j]?=some x:=h1;have h2':(tg.map (fun _=>none)++capV σ caps)[j]?=some (some v):=h2;by_cases hj:j<tg.length
  ·rw[Bj (by simpa using hj),Bk] at h2';cases e:tg[j]? with
   |none=>grind
   |some z=>simp_all
  ·rw[Bp (by simpa using hj)] at h2' h1';rw[Ag] at h2';obtain⟨i,e1,e2,e3,e4⟩:=z3v co h1' h2';obtain⟨mX,hn,hl⟩:=I.loc;obtain⟨u,r,l⟩:=hl i x v e1 e2 (.inr e4);refine⟨u,r,?_⟩;have key:∃c,X.env.cells.lookup x=some c/\s.heap.IsCell c (some u):=by
    rcases l with⟨k,_⟩|⟨_,c,e,z⟩
    ·have k':X.env.scope.names.lookup x=some .local:=k;rcases e4 with e4|e4 <;> · rw[e4] at k';cases k'
    ·exact⟨c,e,z⟩
   obtain⟨c,ec,o,ho,hd⟩:=key;obtain⟨d,ed⟩:=hc2 x (Ep e3);have hdc:=Cg ((hc1 x d ed).symm.trans ec);subst hdc;exact .inr ⟨q6b e3,d,ed,o,hk _ o ho,hd⟩
 ·obtain⟨v,o,ho,hd⟩:=I.cell x c (hc1 x c h);exact⟨v,o,hk _ o ho,hd⟩
 ·show(tg.map (fun _=>(none:Option V))++capV σ caps).length=(tg++caps.map (·.1)).length;rw[Ad,Ad,Ag,Ag,q7a]
def PIfs(X:Cx)(ifs:List Expr)(t:TT):Prop :=
 ∀(pins:List (Addr×Obj)) (s:Ah) (σ:St) (H:Hp) (Q:Bool->Hp->Prop),Inv X pins σ H s->t σ H Q ->
  wpAny (model X.prog X.w) X.A (forIn ifs true fun c r=>if r=true then do let ok<-isTrue c X.env (eval c X.env);pure (ForInStep.yield ok) else pure (ForInStep.yield r)) (TP X pins σ Q) X.xe s
def tIf0:TT:=fun _ H Q=>Q true H
theorem z2n:PIfs X [] tIf0:=fun pins s σ H Q I h=>Nh ⟨H,I,h⟩
theorem q5m{X:Cx}{c:Expr}{t:TT}(h:PT X c t):PIfs X [c] t:=fun pins s σ H Q I q=>wpAny_tests_one (h pins s σ H Q I q)
def Keeps0(σ0 σ2:St):Prop:=σ0.length=σ2.length/\∀(i:Nat) v,σ0[i]?=some (some v)->σ2[i]?=some (some v)
def CompW(J:It)(g:TG)(tt:TT)(te:TE)(σ0:St)(D:Addr)(Fin:List V->Hp->Prop)(H1:Hp):Prop :=
 ∃W:Nat->Nat->List V->Hp->Prop,(∃m,W 0 m [] (upd H1 D (.lst [])))/\∀i m ys H,W i m ys H->H D=some (.lst ys) /\
  ((J.stop i H/\Fin ys H)\/(J.go i H/\∃N:List V->Hp->Prop,(∀zs H',N zs H'->∃m',m'<m/\W (i+1) m' zs H')/\∀x H',J.yld i H x H'->g x σ0 H' fun σ2 H2=>Keeps0 σ0 σ2/\tt σ2 H2 fun b H3 =>
   if b=true then te σ2 H3 fun v H4=>H4 D=some (.lst ys)/\ys.length<sizeLine/\N (ys++[v]) (upd H4 D (.lst (ys++[v])))
   else N ys H3))
theorem z3w{σ:St}{Fin:Addr->List V->Hp->Prop}{RR:Value->Addr->Result->Ah->Prop}(hc:X.calm=true)(hkind:scope.kind=.function)(hnc:∀y∈scope.names,y.2≠.cell)(hc1:∀x c,cl.lookup x=some c->X.env.cells.lookup x=some c)(hc2:∀x,(x,Be.free)∈scope.names->∃c,cl.lookup x=some c)(co:CapOk X scope caps)(hg:∀C s H,PG (cxComp X (tg++caps.map (·.1)) scope cl C fp s H) target g)(ht:∀C s H,PIfs (cxComp X (tg++caps.map (·.1)) scope cl C fp s H) ifs tt)(he:∀C s H,PE (cxComp X (tg++caps.map (·.1)) scope cl C fp s H) elt te)(I2:Inv X pins σ H1 s₂)(T:Turn X.prog X.w X.K target J fp it tn)(st:tn 0 s₂.heap)(hf:∀b∈fp,FpOk X pins H1 b)(hw:∀D,H1 D=none->CompW J g tt te (tg0 tg σ caps) D (Fin D) H1)(hRR:∀D C ys H' s',H1 D=none->Inv X pins σ H' s'->(∃m,s'.heap.Ns C m)->FpOk X pins H' C->Fin D ys H'->RR (.ref D) C (.ok .next) s'):
  wpAny (model X.prog X.w) X.A (newList []) (fun acc s₃=>wpAny (model X.prog X.w) X.A (newFunctionEnv scope X.env.globals cl [] X.env.qual none .none (some X.env)) (fun cenv s₄ =>
   Fx (model X.prog X.w) X.A (.compStart (.ListComp elt [⟨target,iter,ifs,0⟩] scope pos) 0 (.ref it) acc { cenv with scope:=relabel scope X.env }) (RR acc cenv.locals) s₄) E s₃) E s₂:=by
 have I3:Inv X pins σ (upd H1 s₂.heap.objs.size (.lst [])) { s₂ with heap:=s₂.heap.push { cls:=.type "list",dict:=none,data:=.seq ([]:List Value).toArray },toks:=s₂.toks }:=I2.lnew .nil (Ax _);have hD0:=I2.fresh;refine Dq (Ow hnc (by intro y hy;simp at hy) (fun h₁ hns₁ hsb₁=>?_) hkind);dsimp only at hns₁ hsb₁ ⊢;generalize hDd:s₂.heap.objs.size=D at I3 hD0 hns₁ hsb₁ ⊢;generalize hs3:({ s₂ with heap:=s₂.heap.push { cls:=.type "list",dict:=none,data:=.seq ([]:List Value).toArray } }:Ah)=s₃ at I3 hns₁ hsb₁ ⊢;have e3:s₂.heap.push { cls:=.type "list",dict:=none,data:=.seq ([]:List Value).toArray }=s₃.heap:=by grind
 have o3:({ s₂ with heap:=h₁,toks:=s₂.toks+([]:List (Str×Value)).length }:Ah)={ s₃ with heap:=h₁,toks:=s₂.toks }:=by grind
 have size3:s₃.heap.objs.size=D+1:=by rw[<- e3,Gq,hDd]
 rw[e3] at hns₁ hsb₁ ⊢;have old3:∀b o,s₂.heap.get? b=some o->s₃.heap.get? b=some o:=fun b o e=>by rw[<- e3];exact Ae _ e
 generalize hCd:s₃.heap.objs.size=C at hns₁ hsb₁ ⊢;have hk:=fun b o e=>hsb₁.extBut b o (by rw[<- hCd];exact By (Au e)) (Ae _ e);have fpo:∀b∈fp,∃o,s₂.heap.get? b=some o:=fun b hb=>by obtain⟨o,e,_⟩:=T.obj 0 _ st b hb;exact⟨o,e⟩
 have fpne:∀b∈fp,b≠D:=fun b hb=>by obtain⟨o,e⟩:=fpo b hb;rw[<- hDd];exact By (Au e)
 have hf3:∀b∈fp,FpOk X pins (upd H1 D (.lst [])) b:=fun b hb=>⟨by rw[q0m (fpne b hb)];exact(hf b hb).1,(hf b hb).2⟩
 have IY:=Inv.ofcomp (tk:=s₂.toks) tg I3 hkind hnc hc1 hc2 hf3 (fun b hb=>let ⟨o,e⟩:=fpo b hb;⟨o,old3 b o e⟩) (Er hCd) hns₁ hk co;have FC:FpOk X pins H1 C:=by
  have z:=I3.fpOk (H':=H1) (Er hCd) (I2.hok.fresh (by rw[hDd,<- hCd,size3];exact Hm _));exact z
 generalize hY:cxComp X (tg++caps.map (·.1)) scope cl C fp s₃ (upd H1 D (.lst []))=Y at IY;have hgY:PG Y target g:=by grind
 have htY:PIfs Y ifs tt:=by grind
 have heY:PE Y elt te:=by grind
 have hYp:Y.prog=X.prog:=by rw[<- hY];rfl
 have hYw:Y.w=X.w:=by rw[<- hY];rfl
 have hYK:Y.K=X.K:=by rw[<- hY];rfl
 have hYA:Y.A=X.A:=by rw[<- hY];rfl
 have hYe:Y.env=Dp scope cl C X.env:=by rw[<- hY];rfl
 have hYx:Y.ex=fp:=by rw[<- hY];rfl
 have hYn:Y.pn=[]:=by rw[<- hY];rfl
 have hYc:Y.calm=true:=by rw[<- hY];exact hc
 have hYxe:Y.xe=fun _ _=>False:=by rw[<- hY];rfl
 have fpY:∀{H':Hp},(∀b∈fp,H' b=none)->∀b∈fp,FpOk Y [] H' b:=fun{H'} hn b hb=>by
  refine⟨hn b hb,?_,?_,.inl (by rw[hYx];exact hb),fun x c e=>?_,fun p hp=>?_⟩
  ·have:=(IY.ok.exf b (by rw[hYx];exact hb)).1;exact this
  ·exact IY.ok.exfs b (by rw[hYx];exact hb)
  ·exact(IY.ok.exf b (by rw[hYx];exact hb)).2 x c e
  ·grind
 obtain⟨W,⟨m0,w0⟩,turn⟩:=hw D hD0;have stY:=T.keep 0 _ _ st fun b hb o e=>hk b o (old3 b o e)
 have back:∀{H':Hp} {s':Ah} {σ':St},Inv Y [] σ' H' s'->Inv X pins σ H' s':=fun{H' s' σ'} IE=>by
  have hun:=IE.base;have hos:=IE.os;rw[<- hY] at hun hos;exact I3.call' hos hun (by have z:=IE.hok;rw[hYp,hYw] at z;exact z) IE.bare fun b hb=>⟨(hf b hb).2.2.2.1,(hf b hb).2.1,(hf b hb).2.2.2.2.1,(hf b hb).2.2.2.2.2⟩
 have gY:∀pins s σ H v u Q (E':Value->Ah->Prop),Inv Y pins σ H s->RelV v u->g v σ H Q->wpAny (model X.prog X.w) X.A (assign target (Dp scope cl C X.env) u) (fun _ s'=>∃σ' H',Inv Y pins σ' H' s'/\Q σ' H') E' s:=fun pins s σ H v u Q E' IE r q=>by
  have z:=hgY pins s σ H v u Q IE r q;rw[hYp,hYw,hYA,hYe,hYxe] at z;exact Bu z (fun _ _ x=>x) fun _ _ f=>f.elim
 have tY:∀pins s σ H Q (E':Value->Ah->Prop),Inv Y pins σ H s->tt σ H Q->wpAny (model X.prog X.w) X.A (forIn ifs true fun c r=>if r=true then do let ok<-isTrue c (Dp scope cl C X.env) (eval c (Dp scope cl C X.env));pure (ForInStep.yield ok) else pure (ForInStep.yield r)) (TP Y pins σ Q) E' s:=fun pins s σ H Q E' IE q=>by
  have z:=htY pins s σ H Q IE q;rw[hYp,hYw,hYA,hYe,hYxe] at z;exact Bu z (fun _ _ x=>x) fun _ _ f=>f.elim
 have eY:∀pins s σ H Q (E':Value->Ah->Prop),Inv Y pins σ H s->te σ H Q->wpAny (model X.prog X.w) X.A (eval elt (Dp scope cl C X.env)) (EP Y pins σ Q) E' s:=fun pins s σ H Q E' IE q=>by
  have z:=heY pins s σ H Q IE q;rw[hYp,hYw,hYA,hYe,hYxe] at z;exact Bu z (fun _ _ x=>x) fun _ _ f=>f.elim
 have aY:∀pins s σ H ys v u Q (E':Value->Ah->Prop),Inv Y pins σ H s->RelV v u->H D=some (.lst ys)->ys.length<sizeLine->Q .non (upd H D (.lst (ys++[v])))->wpAny (model X.prog X.w) X.A (call (.builtin "list.append") [.ref D,u]) (EP Y pins σ Q) E' s:=fun pins s σ H ys v u Q E' IE r hH hz q=>by
  have z:=q1m pins s σ H (.ref D) [v] (.ref D) [u] Q IE rfl (.cons r .nil) ⟨D,ys,v,rfl,rfl,hH,hz,q⟩;rw[hYp,hYw,hYA,hYxe] at z;exact Bu z (fun _ _ x=>x) fun _ _ f=>f.elim
 have tiY:∀i pins s σ H (E':Value->Ah->Prop),Inv Y pins σ H s->(∀b∈fp,FpOk Y pins H b)->tn i s.heap->J.go i H ->
   wpAny (model X.prog X.w) X.A (Kh (.ref it)) (fun r s1=>∃u,r=some u /\
    wpAny (model X.prog X.w) X.A (Ir target (.ref it) u) (fun _ s2=>∃x H',Inv Y pins σ H' s2/\RelV x u/\J.yld i H x H'/\tn (i+1) s2.heap/\∀b∈fp,H' b=none) E' s1) E' s:=fun i pins s σ H E' IE hfy st go=>by
  have z:=T.item Y hYp hYw hYK hYc i pins s σ H E' IE hfy st go;rw[hYA] at z;exact z
 have tdY:∀i pins s σ H (E':Value->Ah->Prop),Inv Y pins σ H s->(∀b∈fp,FpOk Y pins H b)->tn i s.heap->J.stop i H ->
   wpAny (model X.prog X.w) X.A (Kh (.ref it)) (fun r s1=>r=none/\Inv Y pins σ H s1) E' s:=fun i pins s σ H E' IE hfy st go=>by
  have z:=T.done Y hYp hYw hYK hYc i pins s σ H E' IE hfy st go;rw[hYA] at z;exact z
 have loop:Fx (model X.prog X.w) X.A (.compLoop (.ListComp elt [⟨target,iter,ifs,0⟩] scope pos) 0 (.ref it) (.ref D) (Dp scope cl C X.env)) (RR (.ref D) C) { s₃ with heap:=h₁,toks:=s₂.toks }:=by
  refine Qe rfl (fun n s'=>∃i ys H',Inv Y [] (tg0 tg σ caps) H' s'/\tn i s'.heap/\(∀b∈fp,H' b=none)/\W i n ys H') ?_ m0 ⟨0,[],_,IY,stY,fun b hb=>(hf3 b hb).1,w0⟩;rintro n s4 ⟨i,ys,H4,I4,st4,fr4,w4⟩;refine Rg ?_;obtain⟨hHD,alt⟩:=turn i n ys H4 w4;rcases alt with⟨stop,fin⟩|⟨go,N,hN,step⟩
  ·refine Ac (Bz (Ac (thn (tdY i [] s4 _ H4 _ I4 (fpY fr4) st4 stop) fun r s5 ⟨hr,I5⟩=>?_)));subst hr;refine Ak (hRR D C ys H4 s5 hD0 (back I5) ?_ ⟨?_,FC.2⟩ fin)
   ·obtain⟨m,hm,_⟩:=I5.loc;rw[hYe] at hm;exact⟨m,hm⟩
   ·have z:=I5.free;rw[hYe] at z;exact z
  ·refine Ac (Bz (Ac (thn (tiY i [] s4 _ H4 _ I4 (fpY fr4) st4 go) fun r s5 ⟨u,hr,h5⟩=>?_)));subst hr;refine Ac (thn h5 fun _ s6 ⟨x,H6,I6,r6,y6,st6,fr6⟩=>?_);have I6':=I6.pinned (fpY fr6) (T.obj _ _ st6);refine Ac (thn (gY _ s6 _ H6 x u _ _ I6' r6 (step x H6 y6)) fun _ s7 ⟨σ7,H7,I7,kp,q7⟩=>?_);refine Ac (thn (tY _ s7 σ7 H7 _ _ I7 q7) fun b s8 ⟨H8,I8,q8⟩=>?_);have again:∀{H9:Hp} {s9:Ah} {zs:List V} {m':Nat},Inv Y ([]++pinsAt fp s6.heap) σ7 H9 s9->m'<n->W (i+1) m' zs H9->∃m,m<n/\∃i ys H',Inv Y [] (tg0 tg σ caps) H' s9/\tn i s9.heap/\(∀b∈fp,H' b=none)/\W i m ys H':=fun{H9 s9 zs m'} I9 hm w9=>by
    refine⟨m',hm,i+1,zs,H9,I9.unpinned.weak kp.1 kp.2,T.keep _ _ _ st6 fun b hb o e=>(I9.pin (b,o) (Ay _ (Ay _ (q1v hb e)))).1,fun b hb=>?_,w9⟩;obtain⟨o,e,d⟩:=T.obj _ _ st6 b hb;exact(I9.pin (b,o) (Ay _ (Ay _ (q1v hb e)))).2.1
   cases b with
   |true =>
    refine Ac (Ac (thn (eY _ s8 σ7 H8 _ _ I8 q8) fun v s9 ⟨vv,H9,I9,r9,hH9,hz9,n9⟩=>?_));obtain⟨m',hm',w9⟩:=hN _ _ n9;refine Ac (thn (aY _ s9 σ7 H9 ys vv v (fun _ H10=>W (i+1) m' (ys++[vv]) H10) _ I9 r9 hH9 hz9 w9) fun _ s10 ⟨_,H10,I10,_,w10⟩=>?_);exact Ak (Ak ⟨rfl,again I10 hm' w10⟩)
   |false =>
    obtain⟨m',hm',w8⟩:=hN _ _ q8;exact Ak ⟨rfl,again I8 hm' w8⟩
 rw[o3];exact Nu loop (T.self _ 0 _ _ _ stY loop)
def isCF(k:Option Be):Bool:=k==some .cell||k==some .free
def capChk(N:List Str)(names outer:List (Str×Be)):Caps->Bool
 |[]=>true
 |(x,i)::r=>decide (N[i]?=some x)&&(names.lookup x==some .free)&&isCF (outer.lookup x)&&capChk N names outer r
def compChk(N:List Str)(outer scope:Scope)(caps:Caps):Bool :=
 (scope.kind==.function)&&(scope.names.all fun y=>y.2 != .cell&&(y.2 != .local||scope.names.lookup y.1==some .local)&&(y.2 != .free||isCF (outer.names.lookup y.1)))&&capChk N scope.names outer.names caps
theorem z7f(h:isCF k=true):k=some .cell\/k=some .free:=by
 unfold isCF at h;simpa using h
theorem z1c:∀{caps:Caps},capChk X.N scope.names X.env.scope.names caps=true->CapOk X scope caps
 |[],_=>trivial
 |(x,i)::r,h=>by
  unfold capChk at h;simp only[Ib] at h;obtain⟨⟨⟨h1,h2⟩,h3⟩,h4⟩:=h;exact⟨⟨of_decide_eq_true h1,by simpa using h2,z7f h3⟩,z1c h4⟩
theorem q5n(h:compChk X.N X.env.scope scope caps=true):
  scope.kind=.function/\(∀y∈scope.names,y.2≠.cell)/\(∀y∈scope.names,y.2=.local->scope.names.lookup y.1=some .local)/\(∀x,(x,Be.free)∈scope.names->X.env.scope.names.lookup x=some .cell\/X.env.scope.names.lookup x=some .free)/\CapOk X scope caps:=by
 unfold compChk at h;simp only[Ib,Mp] at h;obtain⟨⟨h1,h2⟩,h3⟩:=h;refine⟨by simpa using h1,fun y hy e=>?_,fun y hy e=>?_,fun x hx=>?_,z1c h3⟩
 ·have z:=(h2 y hy).1.1;rw[e] at z;simp at z
 ·have z:=(h2 y hy).1.2;rw[e] at z;simpa using z
 ·have z:=(h2 _ hx).2;exact z7f (by simpa using z)
def tComp(wi:TI)(g:TG)(tt:TT)(te:TE)(tg:List Str)(caps:Caps):TE:=fun σ H Q=>wi σ H fun J H1=>∀D,H1 D=none->CompW J g tt te (tg0 tg σ caps) D (fun _ H'=>Q (.ref D) H') H1
section
variable{X:Cx}{iter target elt:Expr}{ifs:List Expr}{scope:Scope}{pos:Pos}{wi:TI}{g:TG}{tt:TT}{te:TE}
theorem z2o{σ:St}(I:Inv X pins σ H s)(hfree:∀x,(x,Be.free)∈scope.names->X.env.scope.names.lookup x=some .cell\/X.env.scope.names.lookup x=some .free):
  ∃cl,Rx scope X.env=pure cl/\(∀x c,cl.lookup x=some c->X.env.cells.lookup x=some c)/\∀x,(x,Be.free)∈scope.names->∃c,cl.lookup x=some c :=
 z5r fun x hx=>I.ok.has x (hfree x hx)
theorem q6m(tg:List Str)(caps:Caps)(hc:X.calm=true)(hi:PI X target iter wi)(hg:∀cl C fp s H,PG (cxComp X (tg++caps.map (·.1)) scope cl C fp s H) target g)(ht:∀cl C fp s H,PIfs (cxComp X (tg++caps.map (·.1)) scope cl C fp s H) ifs tt)(he:∀cl C fp s H,PE (cxComp X (tg++caps.map (·.1)) scope cl C fp s H) elt te)(hk:compChk X.N X.env.scope scope caps=true:=by rfl)(hs:∀x,Fp iter X.env x=pure x:=by intro _;rfl):
  PE X (.ListComp elt [⟨target,iter,ifs,0⟩] scope pos) (tComp wi g tt te tg caps):=by
 intro pins s σ H Q I h;obtain⟨hkind,hnc,hnames,hfree,co⟩:=q5n hk;obtain⟨cl,hclos,hc1,hc2⟩:=z2o I hfree;refine Ja rfl hs hclos hkind hnames (thn (hi pins s σ H _ I h) fun v s1 h1=>thn h1 fun itv s2 h2=>?_);obtain⟨it,fp,tn,J,H2,e,I2,T,st2,f2,hw⟩:=h2;subst e;refine z3w hc hkind hnc hc1 hc2 co (fun C s H=>hg cl C fp s H) (fun C s H=>ht cl C fp s H) (fun C s H=>he cl C fp s H) I2 T st2 f2 hw ?_;intro D C ys H' s' hD I' hm F fin;obtain⟨m,hm⟩:=hm;refine⟨m,hm,fun h' hsb=>⟨.ref D,H',I'.turned (t':=s'.toks) (fun b o hb e=>(hsb.2 b hb).trans e) F.1 F.2.1 F.2.2.2.1 F.2.2.2.2.1 F.2.2.2.2.2,rfl,fin⟩⟩
def tSetC(wi:TI)(g:TG)(tt:TT)(te:TE)(tg:List Str)(caps:Caps)(i:Nat):TS:=fun D' σ H=>wi σ H fun J H1=>∀D,H1 D=none->CompW J g tt te (tg0 tg σ caps) D (fun _ H'=>D'.nx (σ.set i (some (.ref D))) H') H1
theorem q7b{i:Nat}{y:Str}{py spos:Pos}(tg:List Str)(caps:Caps)(hN:X.N.Nodup)(hiN:X.N[i]?=some y)(hx:Loc X.env.scope y)(hc:X.calm=true)(hi:PI X target iter wi)(hg:∀cl C fp s H,PG (cxComp X (tg++caps.map (·.1)) scope cl C fp s H) target g)(ht:∀cl C fp s H,PIfs (cxComp X (tg++caps.map (·.1)) scope cl C fp s H) ifs tt)(he:∀cl C fp s H,PE (cxComp X (tg++caps.map (·.1)) scope cl C fp s H) elt te)(hk:compChk X.N X.env.scope scope caps=true:=by rfl)(hs:∀x,Fp iter X.env x=pure x:=by intro _;rfl)(hsw:Nf (.ListComp elt [⟨target,iter,ifs,0⟩] scope pos) (some (.Name y py)) spos.line X.env=pure true:=by rfl)(hf:X.fn y=true\/X.env.scope.names.lookup y=some .local:=by first|exact .inl rfl|exact .inr rfl|assumption):
  PS X (.Assign [.Name y py] (.ListComp elt [⟨target,iter,ifs,0⟩] scope pos) spos) (tSetC wi g tt te tg caps i):=by
 intro pins s σ H D' I h;obtain⟨hkind,hnc,hnames,hfree,co⟩:=q5n hk;obtain⟨cl,hclos,hc1,hc2⟩:=z2o I hfree;rw[exec_Assign_Name_used _ _ _ _ hsw];refine Ac (Bz (Ac ?_));refine Ac (Bu (Ja (use:=some (assign (.Name y py) X.env)) rfl hs hclos hkind hnames
  (thn (hi pins s σ H _ I h) fun v s1 h1=>thn h1 fun itv s2 h2=>?_)) (fun _ s' hq=>Ak (Ak hq)) fun _ _ e=>e)
 obtain⟨it,fp,tn,J,H2,e,I2,T,st2,f2,hw⟩:=h2;subst e;refine z3w (RR:=fun acc C=>compPost (model X.prog X.w) X.A X.xe (some (assign (.Name y py) X.env)) (fun _ s'=>SP X pins D' .next s') acc C) (Fin:=fun D _ H'=>D'.nx (σ.set i (some (.ref D))) H') hc hkind hnc hc1 hc2 co (fun C s H=>hg cl C fp s H) (fun C s H=>ht cl C fp s H) (fun C s H=>he cl C fp s H) I2 T st2 f2 hw ?_;intro D C ys H' s' hD I' hm F fin;obtain⟨m,hm⟩:=hm;refine Qo (z0n (v:=.ref D) I' hN hiN hx rfl (fun s'' I'' hsb=>?_) hf);obtain⟨a,sb,ha⟩:=hsb;have hCa:C≠a:=by
  rcases ha with ha|ha
  ·rw[ha];exact F.2.1
  ·exact fun z=>F.2.2.2.2.1 y a ha z.symm
 refine⟨m,hm.sameBut sb hCa,fun h' hs'=>?_⟩;exact⟨_,H',I''.turned (t':=s''.toks) (fun b o hb e=>(hs'.2 b hb).trans e) F.1 F.2.1 F.2.2.2.1 F.2.2.2.2.1 F.2.2.2.2.2,fin⟩
end
theorem z2p{Fin:List V->Hp->Prop}(Pv:Nat->List V->Hp->Prop)(h0:Pv 0 [] (upd H1 D (.lst [])))(hl:∀i ys H,Pv i ys H->H D=some (.lst ys))(hgo:∀i ys H,i<n->Pv i ys H->J.go i H)(hstop:∀ys H,Pv n ys H->J.stop n H)(hs:∀i ys H x H',i<n->Pv i ys H->J.yld i H x H'->g x σ0 H' fun σ2 H2=>Keeps0 σ0 σ2/\tt σ2 H2 fun b H3 =>
   if b=true then te σ2 H3 fun v H4=>H4 D=some (.lst ys)/\ys.length<sizeLine/\Pv (i+1) (ys++[v]) (upd H4 D (.lst (ys++[v]))) else Pv (i+1) ys H3)(hd:∀ys H,Pv n ys H->Fin ys H):CompW J g tt te σ0 D Fin H1:=by
 refine⟨fun i m ys H=>m=n-i/\i<=n/\Pv i ys H,⟨n,by simp,Ax _,h0⟩,?_⟩;rintro i m ys H ⟨rfl,hi,p⟩;refine⟨hl i ys H p,?_⟩;by_cases hlt:i<n
 ·exact .inr ⟨hgo i ys H hlt p,Pv (i+1),fun zs H' q=>⟨n-(i+1),by lia,rfl,hlt,q⟩,fun x H' y=>hs i ys H x H' hlt p y⟩
 ·grind
theorem z5s{lo:Int}{Fin:List V->Hp->Prop}(Pv:Nat->List V->Hp->Prop)(h0:Pv 0 [] (upd H1 D (.lst [])))(hl:∀i ys H,Pv i ys H->H D=some (.lst ys))(hs:∀i ys H,i<n->Pv i ys H->g (.int (lo+i)) σ0 H fun σ2 H2=>Keeps0 σ0 σ2/\tt σ2 H2 fun b H3 =>
   if b=true then te σ2 H3 fun v H4=>H4 D=some (.lst ys)/\ys.length<sizeLine/\Pv (i+1) (ys++[v]) (upd H4 D (.lst (ys++[v]))) else Pv (i+1) ys H3)(hd:∀ys H,Pv n ys H->Fin ys H):CompW (Itr lo n) g tt te σ0 D Fin H1 :=
 z2p Pv h0 hl (fun i ys H h _=>h) (fun ys H _=>Aj _) (fun i ys H x H' h p y=>by obtain⟨e,y⟩:=y;subst e y;exact hs i ys _ h p) hd
theorem q3x{K:Af}{Fin:List V->Hp->Prop}(Pv:Nat->List V->Hp->Prop)(h0:Pv 0 [] (upd H1 D (.lst [])))(hl:∀i ys H,Pv i ys H->H D=some (.lst ys)/\SqL K H a xs)(hs:∀i ys H x,xs[i]?=some x->Pv i ys H->g x σ0 H fun σ2 H2=>Keeps0 σ0 σ2/\tt σ2 H2 fun b H3 =>
   if b=true then te σ2 H3 fun v H4=>H4 D=some (.lst ys)/\ys.length<sizeLine/\Pv (i+1) (ys++[v]) (upd H4 D (.lst (ys++[v]))) else Pv (i+1) ys H3)(hd:∀ys H,Pv xs.length ys H->Fin ys H):CompW (Itl K a) g tt te σ0 D Fin H1 :=
 z2p Pv h0 (fun i ys H p=>(hl i ys H p).1) (fun i ys H h p=>⟨xs,xs[i],(hl i ys H p).2,by simp[h]⟩) (fun ys H p=>⟨xs,(hl _ ys H p).2,Aj _⟩)
  (fun i ys H x H' h p y=>by obtain⟨e,y⟩:=y;subst e;exact hs i ys _ x (y xs (hl i ys _ p).2) p) hd
theorem q1w{r:St}:Keeps0 (none::r) (v::r):=⟨rfl,fun i w h=>by
 cases i with
 |zero=>cases h
 |succ i=>exact h⟩
theorem q8i{r:St}:Keeps0 (none::none::r) (v::w::r):=⟨rfl,fun i u h=>by
 cases i with
 |zero=>cases h
 |succ i=>cases i with
  |zero=>cases h
  |succ i=>exact h⟩
open PySem PySem.Spec PyProof.Rows
section
variable{X:Cx}
def rSlS:V->Option Int->Option Int->Hp->VK->Prop:=fun x lo hi H Q=>∃z,x=.str z/\z.length<=sizeLine/\Q (.str (Qf z lo hi)) H
theorem q7c(h:Ll v o):∃p:Option (Int×Tok),v=partValue p/\o=p.map (·.1):=by
 cases h with
 |none=>exact⟨none,rfl,rfl⟩
 |int i t=>exact⟨some (i,t),rfl,rfl⟩
theorem sl_str:SlR X rSlS:=by
 intro pins s σ H x v vl vu lo hi sl Q I rx hs pl pu h;obtain⟨z,rfl,hz,q⟩:=h;obtain⟨t,rfl⟩:=rx;obtain⟨p1,rfl,rfl⟩:=q7c pl;obtain⟨p2,rfl,rfl⟩:=q7c pu;refine⟨"str",_,F.slot_str_getitem.lookup,Kk _ _ _,wpAny_getItem_str_slice (st:=none) hs rfl
  (post_val_or_str ⟨Aq (Txt.slice_le z _ _) hz,fun t' k=>⟨.str (Qf z (p1.map (·.1)) (p2.map (·.1))),H,I.tok _,⟨t',rfl⟩,q⟩⟩)⟩
def rLower:V->List V->Hp->VK->Prop:=fun x vs H Q=>∃z,x=.str z/\vs=[]/\3*z.length<=sizeLine/\Q (.str (Ln z)) H
theorem fit3(h:n<=3*m)(h2:3*m<=sizeLine):Eo.Str.tooLong n=false:=by
 exact decide_eq_false (by lia)
theorem q4f:MtM X "str.lower" rLower:=by
 intro pins s σ H x vs v us Q I rx rv h;obtain⟨z,rfl,rfl,hz,q⟩:=h;obtain⟨t,rfl⟩:=rx;cases rv.zero;exact SC.lower (fit3 (len_lower z) hz) ⟨.str _,H,I.tok _,⟨_,rfl⟩,q⟩
def rUpper:V->List V->Hp->VK->Prop:=fun x vs H Q=>∃z,x=.str z/\vs=[]/\3*z.length<=sizeLine/\Q (.str (Lo z)) H
theorem q6n:MtM X "str.upper" rUpper:=by
 intro pins s σ H x vs v us Q I rx rv h;obtain⟨z,rfl,rfl,hz,q⟩:=h;obtain⟨t,rfl⟩:=rx;cases rv.zero;exact SC.upper (fit3 (len_upper z) hz) ⟨.str _,H,I.tok _,⟨_,rfl⟩,q⟩
theorem q5o:∀{ys:List Str} {us:List Value},Vals (ys.map V.str) us->StrsAre us ys
 |[],_,.nil=>.nil
 |y::ys,_,.cons r t=>by obtain⟨k,rfl⟩:=r;exact .cons y k (q5o t)
theorem q4i:∀(l:List (Str×Tok)),Vals ((l.map (·.1)).map V.str) (strValues l)
 |[]=>.nil
 |(x,t)::r=>.cons ⟨t,rfl⟩ (q4i r)
def rJoin(K:Af):V->List V->Hp->VK->Prop:=fun x vs H Q=>∃(z:Str) (p:Addr) (ys:List Str),x=.str z/\vs=[.ref p]/\(SqL K H p (ys.map V.str)\/SqT K H p (ys.map V.str))/\(ys.map (·.length)).sum+ys.length*z.length<=16777216/\Q (.str (Mq z ys)) H
theorem x2y:MtM X "str.join" (rJoin X.K):=by
 intro pins s σ H x vs v us Q I rx rv h;obtain⟨z,p,ys,rfl,rfl,hq,hz,q⟩:=h;obtain⟨t,rfl⟩:=rx;obtain⟨u,rfl,ru⟩:=rv.one;cases ru;rcases hq with hq|hq
 ·obtain⟨its,r,pl,_⟩:=I.list hq;exact join_list pl.isList (q5o (by simpa using r)) hz fun t' k=>⟨.str _,H,I.tok _,⟨_,rfl⟩,q⟩
 ·obtain⟨its,r,pl,_⟩:=I.tuple hq;exact join_tuple pl (q5o (by simpa using r)) hz fun t' k=>⟨.str _,H,I.tok _,⟨_,rfl⟩,q⟩
def rSplit:V->List V->Hp->VK->Prop:=fun x vs H Q=>∃z y,x=.str z/\vs=[.str y]/\(y.length==0)=false/\z.length+1<=sizeLine/\(Hw z y).length<=sizeLine/\(Eo.Str.partsBetween z (Dy z y 0 z.length (z.length+1)) y.length).length<=sizeLine/\∀p,H p=none->Q (.ref p) (upd H p (.lst ((Hw z y).map V.str)))
theorem z9y:MtM X "str.split" rSplit:=by
 intro pins s σ H x vs v us Q I rx rv h;obtain⟨z,y,rfl,rfl,hy,hz,hz2,hz3,q⟩:=h;obtain⟨t,rfl⟩:=rx;obtain⟨u,rfl,ru⟩:=rv.one;obtain⟨t',rfl⟩:=ru;have fin:∀(l:List (Str×Tok)) (tk:Nat),l.map (·.1)=Hw z y->EP X pins σ Q (.ref s.heap.objs.size) { s with toks:=tk,heap:=s.heap.push { cls:=.type "list",data:=.seq (strValues l).toArray } }:=fun l tk e=>by
  refine⟨.ref s.heap.objs.size,_,I.lnew (t':=tk) (by rw[<- e];exact q4i l) (by rw[Ag];exact hz2),rfl,q _ I.fresh⟩
 cases h1:(decide (z.length<y.length)||decide (Pk z<Pk y))
 ·cases hf:(Dy z y 0 z.length (z.length+1)).isEmpty
  ·refine Ic Mr (Kk _ _ _) Lw (Lp _ _) (meets_str_split_sep z y t t' h1 hy hf (by lia) hz3) ?_;rw[strsFrom_eq];exact fin (numbered s.toks _) _ ((numbered_texts _ _).trans ((if_neg (ne_true_of_eq_false h1)).trans (if_neg (ne_true_of_eq_false hf))).symm)
  ·exact Ic Mr (Kk _ _ _) Lw (Lp _ _) (meets_str_split_not_found z y t t' h1 hy hf)
    (fin [(z,t)] _ ((if_neg (ne_true_of_eq_false h1)).trans (if_pos hf)).symm)
 ·exact Ic Mr (Kk _ _ _) Lw (Lp _ _) (meets_str_split_cannot_occur z y t t' h1)
   (fin [(z,t)] _ (if_pos h1).symm)
def rMulS:R2:=fun x y H Q=>∃z n,x=.str z/\y=.int n/\MulOk z n/\Q (.str (Txt.mul z n)) H
theorem op_mulS:OpR X (Gi .Mult) rMulS:=by
 intro pins s σ H x y v u Q I rx ry h;obtain⟨z,n,rfl,rfl,hm,q⟩:=h;obtain⟨t,rfl⟩:=rx;obtain⟨t',rfl⟩:=ry;exact SB.mul hm fun t2 k=>⟨.str _,H,I.tok _,⟨_,rfl⟩,q⟩
theorem q7d:∀{bs:List Bool} {us:List Value},Vals (bs.map V.bl) us->LSm.BoolsAre us bs
 |[],_,.nil=>.nil
 |b::bs,_,.cons r t=>by cases r;exact .cons b (q7d t)
theorem z9z(hc:X.calm=true):CallR X (.builtin "all") (fun xs H Q=>∃(p:Addr) (bs:List Bool),xs=[.ref p]/\SqL X.K H p (bs.map V.bl)/\Q (.bl (bs.all id)) H):=by
 intro pins s σ H xs us Q I r h;obtain⟨p,bs,rfl,hq,q⟩:=h;obtain⟨u,rfl,rx⟩:=vals1 r;cases rx;obtain⟨its,r',pl,hz⟩:=I.list hq;have hb:=q7d r';have hlt:p<s.heap.objs.size:=by obtain⟨_,e,_⟩:=pl.isList;exact Au e
 refine call_all_walk (Qt pl.isList ?_);refine⟨s.heap.objs.size,[s.heap.objs.size,p],[s.heap.objs.size],its.toArray.size,_,_,fun i=>(bs[i]?).getD true,rfl,Walks.list (A:=X.A.in1) (I.ok.hd hc) _ p (By hlt) its.toArray,
  ⟨⟨_,Bb _ rfl,rfl,rfl⟩,pl.isList.push _⟩,fun i v s' Q' E' hP hQ=>?_,fun h' tk hk=>?_⟩
 ·obtain⟨b,e,rfl⟩:=hb.get i v (by simpa using hP);simp only[e,Option.getD_some] at hQ;exact Fo hQ
 ·have e:((List.range its.toArray.size).all fun i=>(bs[i]?).getD true)=bs.all id:=by
   rw[Ba,hb.length];exact LSm.range_all bs
  rw[e];exact⟨.bl _,H,I.kept (t':=tk) (LSm.kept_iter hk),rfl,q⟩
def Its(z:Str):It:=⟨fun i _=>i<z.length,fun i H x H'=>H'=H/\∃c,z.cps[i]?=some c/\x=.str ⟨#[c]⟩,fun i _=>z.length<=i⟩
end
theorem z7g{K:Af}(it:Addr)(z:Str)(t:Tok):Turn P w K tg (Its z) [it] it (fun i h=>i<=z.length/\h.IsStrIter it "str_ascii_iterator" z t i) where
 mem:=by simp
 obj:=fun i h st b hb=>by
  have e:b=it:=by grind
  subst e;obtain⟨_,o,e,c,d⟩:=st;exact⟨o,e,fun v z=>by rw[d] at z;cases z⟩
 keep:=fun i h h' st k=>⟨st.1,let ⟨o,e,c,d⟩:=st.2;⟨o,k it (by simp) o e,c,d⟩⟩
 item:=by
  intro X hP hw hK hc i pins s σ H E I hf st hg;obtain⟨f0,f1,f2,f3,f4,f5⟩:=hf it (by simp);have hi:i<z.cps.size:=hg;refine wpAny_pyNext_ascii_item st.2 (c:=z.cps[i]) (by simp[hi]) fun h' hit' hs'=>?_;have I1:Inv X pins σ H { s with heap:=h',toks:=s.toks+1 }:=I.turned (fun b o hb e=>(hs'.2 b hb).trans e) f0 f1 f3 f4 f5;obtain⟨o,e,c,d⟩:=id hit';exact⟨_,rfl,z5g e c d (by decide) ⟨.str ⟨#[z.cps[i]]⟩,H,I1,⟨_,rfl⟩,⟨rfl,_,by simp[hi],rfl⟩,⟨hg,hit'⟩,fun b hb=>(hf b hb).1⟩⟩
 done:=by
  intro X hP hw hK hc i pins s σ H E I hf st hg;obtain⟨f0,f1,f2,f3,f4,f5⟩:=hf it (by simp);have hi:z.cps.size<=i:=hg;exact wpAny_pyNext_ascii_end (I.ok.hd hc) st.2 (by simp;lia) fun h' eb=>⟨rfl,I.turned (t':=s.toks) (fun b o hb e=>eb b o hb e) f0 f1 f3 f4 f5⟩
 self:=fun _ _ _ _ _ st h=>wpAny_pyIter_striter_ascii st.2 h
theorem z7h{K:Af}(it:Addr)(z:Str)(t:Tok):Turn P w K tg (Its z) [it] it (fun i h=>i<=z.length/\h.IsStrIter it "str_iterator" z t i) where
 mem:=by simp
 obj:=fun i h st b hb=>by
  have e:b=it:=by grind
  subst e;obtain⟨_,o,e,c,d⟩:=st;exact⟨o,e,fun v z=>by rw[d] at z;cases z⟩
 keep:=fun i h h' st k=>⟨st.1,let ⟨o,e,c,d⟩:=st.2;⟨o,k it (by simp) o e,c,d⟩⟩
 item:=by
  intro X hP hw hK hc i pins s σ H E I hf st hg;obtain⟨f0,f1,f2,f3,f4,f5⟩:=hf it (by simp);have hi:i<z.cps.size:=hg;refine wpAny_pyNext_wide_item st.2 (c:=z.cps[i]) (by simp[hi]) fun h' hit' hs'=>?_;have I1:Inv X pins σ H { s with heap:=h',toks:=s.toks+1 }:=I.turned (fun b o hb e=>(hs'.2 b hb).trans e) f0 f1 f3 f4 f5;obtain⟨o,e,c,d⟩:=id hit';exact⟨_,rfl,z5g e c d (by decide) ⟨.str ⟨#[z.cps[i]]⟩,H,I1,⟨_,rfl⟩,⟨rfl,_,by simp[hi],rfl⟩,⟨hg,hit'⟩,fun b hb=>(hf b hb).1⟩⟩
 done:=by
  intro X hP hw hK hc i pins s σ H E I hf st hg;obtain⟨f0,f1,f2,f3,f4,f5⟩:=hf it (by simp);have hi:z.cps.size<=i:=hg;exact wpAny_pyNext_wide_end (I.ok.hd hc) st.2 (by simp;lia) fun h' eb=>⟨rfl,I.turned (t':=s.toks) (fun b o hb e=>eb b o hb e) f0 f1 f3 f4 f5⟩
 self:=fun _ _ _ _ _ st h=>wpAny_pyIter_striter_wide st.2 h
theorem x2z{g:TG}{tb:TS}{D:Ends}(Pv:Nat->St->Hp->Prop)(h0:Pv 0 σ H)(hs:∀i c σ H,z.cps[i]?=some c->Pv i σ H->g (.str ⟨#[c]⟩) σ H fun σ2 H2=>tb { D with nx:=Pv (i+1),ct:=Pv (i+1),bk:=D.nx } σ2 H2)(hd:∀σ H,Pv z.length σ H->D.nx σ H):
  ∃W:Nat->Nat->St->Hp->Prop,(∃m,W 0 m σ H)/\∀i m σ H,W i m σ H ->
   ((Its z).stop i H/\D.nx σ H)\/((Its z).go i H/\∃N:St->Hp->Prop,(∀σ' H',N σ' H'->∃m',m'<m/\W (i+1) m' σ' H')/\∀x H',(Its z).yld i H x H'->g x σ H' fun σ2 H2=>tb { D with nx:=N,ct:=N,bk:=D.nx } σ2 H2):=by
 refine⟨fun i m σ H=>m=z.length-i/\i<=z.length/\Pv i σ H,⟨z.length,by simp,Ax _,h0⟩,?_⟩;rintro i m σ H ⟨rfl,hi,p⟩;by_cases hlt:i<z.length
 ·refine .inr ⟨hlt,Pv (i+1),fun σ' H' p'=>⟨z.length-(i+1),by lia,rfl,hlt,p'⟩,fun x H' y=>?_⟩;obtain⟨e,c,hc,y⟩:=y;subst e y;exact hs i c σ _ hc p
 ·have e:i=z.length:=by lia
  subst e;exact .inl ⟨Aj _,hd σ H p⟩
theorem q9e{Fin:List V->Hp->Prop}(Pv:Nat->List V->Hp->Prop)(h0:Pv 0 [] (upd H1 D (.lst [])))(hl:∀i ys H,Pv i ys H->H D=some (.lst ys))(hs:∀i ys H c,z.cps[i]?=some c->Pv i ys H->g (.str ⟨#[c]⟩) σ0 H fun σ2 H2=>Keeps0 σ0 σ2/\tt σ2 H2 fun b H3 =>
   if b=true then te σ2 H3 fun v H4=>H4 D=some (.lst ys)/\ys.length<sizeLine/\Pv (i+1) (ys++[v]) (upd H4 D (.lst (ys++[v]))) else Pv (i+1) ys H3)(hd:∀ys H,Pv z.length ys H->Fin ys H):CompW (Its z) g tt te σ0 D Fin H1 :=
 z2p Pv h0 hl (fun i ys H h _=>h) (fun ys H _=>Aj _) (fun i ys H x H' h p y=>by obtain⟨e,c,hc,y⟩:=y;subst e y;exact hs i ys _ c hc p) hd
open PySem PySem.Spec PyProof.Rows
structure Vw (K:Af) (H:Hp) (h:Heap):Prop where
 lst:∀a xs,SqL K H a xs->∃its:List Value,Vals xs its/\h.IsList a its.toArray
 tup:∀a xs,SqT K H a xs->∃its:List Value,Vals xs its/\h.IsTuple a its.toArray
theorem SqL.ne{K:Af}(h:SqL K H a xs)(hb:H b=none)(hk:K.lookup b=none):a≠b:=by
 rintro rfl;rcases h with(h|⟨o,h⟩)|⟨o,_,_,h,_⟩
 ·rw[hb] at h;cases h
 ·rw[hb] at h;cases h
 ·rw[hk] at h;cases h
theorem SqT.ne{K:Af}(h:SqT K H a xs)(hb:H b=none)(hk:K.lookup b=none):a≠b:=by
 rintro rfl;rcases h with(h|⟨o,h⟩)|⟨o,_,_,h,_⟩
 ·rw[hb] at h;cases h
 ·rw[hb] at h;cases h
 ·rw[hk] at h;cases h
theorem Vw.but{K:Af}(v:Vw K H h)(hb:H b=none)(hk:K.lookup b=none)(k:∀c o,c≠b->h.get? c=some o->h'.get? c=some o):Vw K H h' :=
 ⟨fun a xs q=>let ⟨its,r,l⟩:=v.lst a xs q;⟨its,r,l.at fun o e=>k a o (q.ne hb hk) e⟩,fun a xs q=>let ⟨its,r,l⟩:=v.tup a xs q;⟨its,r,by
  obtain⟨o,e,z⟩:=l;exact⟨o,k a o (q.ne hb hk) e,z⟩⟩⟩
theorem Vw.linj{K:Af}(v:Vw K H h)(p:SqL K H a xs)(q:SqL K H a ys):xs=ys:=by
 obtain⟨its,r,o,e,_,n,d⟩:=v.lst a xs p;obtain⟨its',r',o',e',_,n',d'⟩:=v.lst a ys q;have:its=its':=by grind
 subst this;exact r.inj r'
theorem Inv.vw{σ:St}(I:Inv X pins σ H s):Vw X.K H s.heap :=
 ⟨fun a xs q=>let ⟨its,r,l,_⟩:=I.list q;⟨its,r,l.isList⟩,fun a xs q=>let ⟨its,r,l,_⟩:=I.tuple q;⟨its,r,l⟩⟩
structure Srce (P:Program) (w:World) (K:Af) (J:It) (it:Addr) (st:Nat->Heap->Prop):Prop where
 obj:∀i h,st i h->∃o,h.get? it=some o/\∀v,o.data≠.cell v
 keep:∀i h h',st i h->(∀o,h.get? it=some o->h'.get? it=some o)->st i h'
 item:∀(A:Around) (i:Nat) (s:Ah) (H:Hp) (Q:Value->Ah->Prop) (E:Value->Ah->Prop),A.handled=none->Vw K H s.heap->H it=none->K.lookup it=none->st i s.heap->J.go i H ->
  (∀u x h' tk,RelV x u->J.yld i H x H->st (i+1) h'->Hq it s.heap h'->Q u { s with heap:=h',toks:=tk })->wpAny (model P w) A (Mc (.ref it)) Q E s
 done:∀(A:Around) (i:Nat) (s:Ah) (H:Hp) (Q:Value->Ah->Prop) (E:Value->Ah->Prop),A.handled=none->Vw K H s.heap->H it=none->K.lookup it=none->st i s.heap->J.stop i H ->
  (∀h' e,Heap.ExtBut it s.heap h'->(∃o,h'.get? e=some o/\o.cls=.type "StopIteration")->E (.ref e) { s with heap:=h' })->wpAny (model P w) A (Mc (.ref it)) Q E s
theorem q7e{K:Af}(a it:Addr):Srce P w K (Itl K a) it (fun i h=>h.IsListIter it a i) where
 obj:=fun i h st=>by obtain⟨o,e,c,d⟩:=st;exact⟨o,e,fun v z=>by rw[d] at z;cases z⟩
 keep:=fun i h h' st k=>st.at fun o e=>k o e
 item:=fun A i s H Q E hh vw hn hk st go hQ=>by
  obtain⟨xs,x,hq,hx⟩:=go;obtain⟨its,rv,p⟩:=vw.lst a xs hq;obtain⟨u,hu,ru⟩:=rv.get hx;refine wpAny_nextOf_list_item st p (by simpa using hu) fun h' st' sb=>?_
  exact hQ u x h' s.toks ru ⟨rfl,fun ys hy=>by rw[vw.linj hy hq];exact hx⟩ st' sb
 done:=fun A i s H Q E hh vw hn hk st stop hE=>by
  obtain⟨xs,hq,hx⟩:=stop;obtain⟨its,rv,p⟩:=vw.lst a xs hq;have hl:=rv.length;exact wpAny_nextOf_list_end hh st p (by simp;lia) hE
def stStr(it:Addr)(z:Str)(t:Tok)(i:Nat)(h:Heap):Prop:=h.IsStrIter it (Gp z) z t i
theorem q9f{K:Af}(it:Addr)(z:Str)(t:Tok):Srce P w K (Its z) it (stStr it z t) where
 obj:=fun i h st=>by obtain⟨o,e,c,d⟩:=st;exact⟨o,e,fun v z=>by rw[d] at z;cases z⟩
 keep:=fun i h h' st k=>by obtain⟨o,e,r⟩:=st;exact⟨o,k o e,r⟩
 item:=fun A i s H Q E hh vw hn hk st go hQ=>by
  have hi:i<z.cps.size:=go;unfold stStr Gp at st;cases ha:z.cps.all (· < 128)
  ·rw[ha] at st;refine wpAny_nextOf_wide_item st (c:=z.cps[i]) (by simp[hi]) fun h' hit' hs'=>?_;exact hQ _ (.str ⟨#[z.cps[i]]⟩) h' (s.toks+1) ⟨_,rfl⟩ ⟨rfl,_,by simp[hi],rfl⟩ (by unfold stStr Gp;rw[ha];exact hit') hs'
  ·rw[ha] at st;refine wpAny_nextOf_ascii_item st (c:=z.cps[i]) (by simp[hi]) fun h' hit' hs'=>?_;exact hQ _ (.str ⟨#[z.cps[i]]⟩) h' (s.toks+1) ⟨_,rfl⟩ ⟨rfl,_,by simp[hi],rfl⟩ (by unfold stStr Gp;rw[ha];exact hit') hs'
 done:=fun A i s H Q E hh vw hn hk st stop hE=>by
  have hi:z.cps.size<=i:=stop;unfold stStr Gp at st;cases ha:z.cps.all (· < 128)
  ·rw[ha] at st;exact wpAny_nextOf_wide_end hh st (by simp;lia) hE
  ·rw[ha] at st;exact wpAny_nextOf_ascii_end hh st (by simp;lia) hE
theorem Inv.turnedL{σ:St}{ch:List Addr}(I:Inv X pins σ H s)(k:∀b o,b∉ch->s.heap.get? b=some o->h'.get? b=some o)(hf:∀b∈ch,FpOk X pins H b):Inv X pins σ H { s with heap:=h',toks:=t' }:=by
 have nit:∀b u,H b=some u->b∉ch:=fun b u e z=>by rw[(hf b z).1] at e;cases e
 refine I.step (g':=s.gens) (d':=s.drawn) (fun b hb=>?_) (fun b o _ _ hc e _=>k b o hc e) (fun b o _ _ hc e _=>⟨o.slots,k b o hc e⟩) (fun _ _ _ _ n=>n)
  (fun b o hc e=>?_) (fun _ _ e=>e) (fun _ _ _ e=>e) (fun b ps e=>⟨#[],by rw[e];simp⟩) (fun m hm=>?_) (fun b u e=>?_) I.bare
 ·exact⟨(hf b hb).2.2.2.1,(hf b hb).2.1,(hf b hb).2.2.2.2.1,(hf b hb).2.2.2.2.2⟩
 ·exact⟨o,k b o hc e⟩
 ·obtain⟨o,es,ep,ho,r⟩:=hm;exact⟨o,es,ep,k _ o (fun z=>(hf _ z).2.1 rfl) ho,r⟩
 ·refine(I.hok b u e).stay (fun c v hc q=>k c v ?_ q) (fun _ q=>q) fun _ _ q=>q;rcases hc with z|z
  ·rw[z];exact nit b u e
  ·exact nit c _ z
theorem Inv.track{σ:St}{T:Addr}(I:Inv X pins σ H s)(hT:X.s₀.heap.objs.size<=T)(hF:FpOk X pins H T)(new:ObjOk X.prog X.w (upd H T o) s.heap T o):Inv X pins σ (upd H T o) s:=by
 have hn:=hF.1;refine⟨I.ok,I.os,I.bare,⟨I.base.keep,I.base.slot,fun b ob e n hx=>?_,I.base.there,fun b xs e=>?_,fun b ob u e=>?_,fun b ps e=>?_⟩,I.loc,I.cell,?_,fun x c e=>?_,fun p hp=>?_,fun b u e=>?_,I.len⟩
 ·rw[q0m (By (Bh (Au e) hT))];exact I.base.free b ob e n hx
 ·have z:=I.base.tups b xs e;rw[q0m (q0y z hn)];exact z
 ·have z:=I.base.frzs b ob u e;rw[q0m (q0y z hn)];exact z
 ·obtain⟨m,z⟩:=I.base.tbls b ps e;exact⟨m,by rw[q0m (q0y z hn)];exact z⟩
 ·rw[q0m (Dm hF.2.1)];exact I.free
 ·rw[q0m (hF.2.2.2.2.1 x c e)];exact I.freeC x c e
 ·obtain⟨e,n,ne,nf,d⟩:=I.pin p hp;exact⟨e,by rw[q0m (hF.2.2.2.2.2 p hp)];exact n,ne,nf,d⟩
 ·by_cases hb:b=T
  ·subst hb;rw[q0e] at e;cases e;exact new
  ·rw[q0m hb] at e;exact(I.hok b u e).stay (fun _ _ _ q=>q) (fun c q=>by rw[q0m (q0y q hn)];exact q) fun c xs q=>by rw[q0m (q0y q hn)];exact q
theorem FpOk.noK{σ:St}(I:Inv X pins σ H' s)(f:FpOk X pins H b):X.K.lookup b=none:=by
 cases e:X.K.lookup b with
 |none=>rfl
 |some o =>
  have e1:=I.ok.mod.kin b o e;rcases f.2.2.2.1 with z|z
  ·exact absurd z (I.ok.noex b o e1)
  ·exact absurd (Bh (Au (I.ok.bs b o e1).1) z) (Gh _)
structure ZipA (z TI TO i1 i2:Addr):Prop where
 TIz:TI≠z
 TOz:TO≠z
 i1z:i1≠z
 i2z:i2≠z
 TITO:TI≠TO
 TIi1:TI≠i1
 TIi2:TI≠i2
 TOi1:TO≠i1
 TOi2:TO≠i2
 i12:i1≠i2
section
variable{prog:Program}{w:World}{K:Af}{A:Around}{E:Value->Ah->Prop}{s:Ah}{J1 J2:It}{t1 t2:Nat->Heap->Prop}{z TI TO i1 i2:Addr}{H:Hp}
theorem z7i{Q:Value->Ah->Prop}(D:ZipA z TI TO i1 i2)(S1:Srce prog w K J1 i1 t1)(S2:Srce prog w K J2 i2 t2)(hh:A.handled=none)(vw:Vw K H s.heap)(nH:∀b∈[z,TI,TO,i1,i2],H b=none)(nK:∀b∈[z,TI,TO,i1,i2],K.lookup b=none)(hz:IsZip s.heap z TI TO .none)(hTI:Jt s.heap TI (.ref i1) (.ref i2))(hTO:Jt s.heap TO a b)(h1:t1 i s.heap)(h2:t2 i s.heap)(g1:J1.go i H)(g2:J2.go i H)(hQ:∀u v x y h' tk,RelV x u->RelV y v->J1.yld i H x H->J2.yld i H y H->IsZip h' z TI TO (Fh s.heap.objs.size)->Jt h' TO u v->t1 (i+1) h'->t2 (i+1) h'->Jt h' s.heap.objs.size u v->h'.objs.size=s.heap.objs.size+1 ->
   (∀c o,c≠z->c≠TO->c≠i1->c≠i2->s.heap.get? c=some o->h'.get? c=some o)->Q (.ref s.heap.objs.size) { s with heap:=h',toks:=tk }):
  wpAny (model prog w) A (Eo.«zip.__next__» ⟨[.ref z],[]⟩) (fun fin s'=>∃v,fin=.done (.ret v)/\Q v s') E s:=by
 show wpAny _ _ (field (.ref z) 2 >>= _) _ _ _;refine Ac (Bv hz rfl rfl ?_);refine Ac (Bv hz rfl rfl ?_);refine Ac (Gr hTI rfl ?_);refine Ac ?_;refine Ac (Bv hz rfl rfl (Ak ?_));refine Ac (Jh ?_);refine Ac (Bv hz rfl rfl ?_);refine Ac (Di hz (by simp) fun h₁ hz₁ hs₁=>?_);replace hz₁:IsZip h₁ z TI TO .ellipsis:=hz₁;have vw₁:=vw.but (nH z (by simp)) (nK z (by simp)) fun c o hc e=>hs₁.extBut _ _ hc e;refine Ac ?_;refine Ac (Ac (Lu ?_));refine Ac (S1.item _ i _ H _ _ hh vw₁ (nH i1 (by simp)) (nK i1 (by simp)) (S1.keep _ _ _ h1 fun o e=>hs₁.extBut _ _ D.i1z e) g1 fun u x h₂ tk₂ rx yx h1₂ hs₂=>Ak ?_);have hTO₂:=hs₂.extBut _ _ D.TOi1 (hs₁.extBut _ _ D.TOz hTO);refine Ac (Gr hTO₂ rfl ?_);refine Ac (Kl hTO₂ fun h₃ hTO₃ hs₃=>?_);have vw₃:=(vw₁.but (nH i1 (by simp)) (nK i1 (by simp)) fun c o hc e=>hs₂.extBut _ _ hc e).but (nH TO (by simp)) (nK TO (by simp)) fun c o hc e=>hs₃.extBut _ _ hc e;refine Ac (Lg (Ak ?_));refine Ac (Ac (Lu ?_));refine Ac (S2.item _ i _ H _ _ hh vw₃ (nH i2 (by simp)) (nK i2 (by simp)) (S2.keep _ _ _ h2 fun o e=>hs₃.extBut _ _ D.TOi2.symm (hs₂.extBut _ _ D.i12.symm (hs₁.extBut _ _ D.i2z e))) g2 fun v y h₄ tk₄ ry yy h2₄ hs₄=>Ak ?_);have hTO₄:=hs₄.extBut _ _ D.TOi2 hTO₃;refine Ac (Gr hTO₄ rfl ?_);refine Ac (Kl hTO₄ fun h₅ hTO₅ hs₅=>?_);replace hTO₅:Jt h₅ TO u v:=hTO₅;refine Ac (Lg (Ak (Ak ?_)));refine Ac (Gr hTO₅ rfl ?_);refine Ac (wpAny_newTuple ?_);have hsz:h₅.objs.size=s.heap.objs.size:=by rw[hs₅.1,hs₄.1,hs₃.1,hs₂.1,hs₁.1]
 have hz₅:=hs₅.extBut _ _ D.TOz.symm (hs₄.extBut _ _ D.i2z.symm (hs₃.extBut _ _ D.TOz.symm (hs₂.extBut _ _ D.i1z.symm hz₁)));have hk₅:∀c o,c≠z->c≠TO->c≠i1->c≠i2->s.heap.get? c=some o->h₅.get? c=some o:=fun c o c1 c2 c3 c4 e =>
  hs₅.extBut _ _ c2 (hs₄.extBut _ _ c4 (hs₃.extBut _ _ c2 (hs₂.extBut _ _ c3 (hs₁.extBut _ _ c1 e))))
 have h1₅:=S1.keep _ _ _ h1₂ fun o e=>hs₅.extBut _ _ D.TOi1.symm (hs₄.extBut _ _ D.i12 (hs₃.extBut _ _ D.TOi1.symm e));have h2₅:=S2.keep _ _ _ h2₄ fun o e=>hs₅.extBut _ _ D.TOi2.symm e;have hzlt:=Au hz₅;refine Ac ?_;have hz₆:IsZip (h₅.push { cls:=.type "tuple",data:=.seq #[u,v] }) z TI TO .ellipsis:=Ae _ hz₅;refine Ac (Di hz₆ (by simp) fun h₇ hz₇ hs₇=>?_);refine Di hz₇ (by simp) fun h₈ hz₈ hs₈=>?_;have up:∀c o,c≠z->h₅.get? c=some o->h₈.get? c=some o:=fun c o c1 e=>hs₈.extBut _ _ c1 (hs₇.extBut _ _ c1 (Ae _ e));have hT₈:=hs₈.extBut _ _ (Gv hzlt) (hs₇.extBut _ _ (Gv hzlt) (Bb _ rfl));have hz8:h₈.objs.size=h₅.objs.size+1:=by rw[hs₈.1,hs₇.1,Gq]
 rw[hsz] at hz₈ hT₈ hz8;refine Ak ⟨_,rfl,?_⟩;rw[hsz];exact hQ u v x y h₈ tk₄ rx ry yx yy hz₈ (up _ _ D.TOz hTO₅) (S1.keep _ _ _ h1₅ fun o e=>up _ o D.i1z e) (S2.keep _ _ _ h2₅ fun o e=>up _ o D.i2z e) hT₈ hz8 fun c o c1 c2 c3 c4 e=>up c o c1 (hk₅ c o c1 c2 c3 c4 e)
theorem x0a(D:ZipA z TI TO i1 i2)(S1:Srce prog w K J1 i1 t1)(S2:Srce prog w K J2 i2 t2)(hh:A.handled=none)(vw:Vw K H s.heap)(nH:∀b∈[z,TI,TO,i1,i2],H b=none)(nK:∀b∈[z,TI,TO,i1,i2],K.lookup b=none)(hz:IsZip s.heap z TI TO .none)(hTI:Jt s.heap TI (.ref i1) (.ref i2))(hTO:Jt s.heap TO a b)(h1:t1 i s.heap)(h2:t2 i s.heap)(hend:J1.stop i H\/(J1.go i H/\J2.stop i H))(hE:∀h' e tk,(∀c o,c≠z->c≠TO->c≠i1->c≠i2->s.heap.get? c=some o->h'.get? c=some o)->(∃o,h'.get? e=some o/\o.cls=.type "StopIteration")->E (.ref e) { s with heap:=h',toks:=tk }):
  wpAny (model prog w) A (Eo.«zip.__next__» ⟨[.ref z],[]⟩) Q E s:=by
 show wpAny _ _ (field (.ref z) 2 >>= _) _ _ _;refine Ac (Bv hz rfl rfl ?_);refine Ac (Bv hz rfl rfl ?_);refine Ac (Gr hTI rfl ?_);refine Ac ?_;refine Ac (Bv hz rfl rfl (Ak ?_));refine Ac (Jh ?_);refine Ac (Bv hz rfl rfl ?_);refine Ac (Di hz (by simp) fun h₁ hz₁ hs₁=>?_);have vw₁:=vw.but (nH z (by simp)) (nK z (by simp)) fun c o hc e=>hs₁.extBut _ _ hc e;refine Ac ?_;refine Ac (Ac (Lu ?_));rcases hend with st|⟨g1,st⟩
 ·refine Ac (S1.done _ i _ H _ _ hh vw₁ (nH i1 (by simp)) (nK i1 (by simp)) (S1.keep _ _ _ h1 fun o e=>hs₁.extBut _ _ D.i1z e) st fun h₂ e hs₂ he=>?_);obtain⟨oe,hoe,hce⟩:=he;have hz₂:=hs₂ _ _ D.i1z.symm hz₁;have hez:e≠z:=fun x=>by subst x;rw[hz₂] at hoe;cases hoe;simp at hce
  refine Di hz₂ (by simp) fun h₃ _ hs₃=>hE h₃ e _ (fun c o c1 _ c3 _ x=>hs₃.extBut _ _ c1 (hs₂ _ _ c3 (hs₁.extBut _ _ c1 x))) ⟨oe,hs₃.extBut _ _ hez hoe,hce⟩
 ·refine Ac (S1.item _ i _ H _ _ hh vw₁ (nH i1 (by simp)) (nK i1 (by simp)) (S1.keep _ _ _ h1 fun o e=>hs₁.extBut _ _ D.i1z e) g1 fun u x h₂ tk₂ rx yx h1₂ hs₂=>Ak ?_);have hTO₂:=hs₂.extBut _ _ D.TOi1 (hs₁.extBut _ _ D.TOz hTO);refine Ac (Gr hTO₂ rfl ?_);refine Ac (Kl hTO₂ fun h₃ hTO₃ hs₃=>?_);have vw₃:=(vw₁.but (nH i1 (by simp)) (nK i1 (by simp)) fun c o hc e=>hs₂.extBut _ _ hc e).but (nH TO (by simp)) (nK TO (by simp)) fun c o hc e=>hs₃.extBut _ _ hc e;refine Ac (Lg (Ak ?_));refine Ac (Ac (Lu ?_));refine Ac (S2.done _ i _ H _ _ hh vw₃ (nH i2 (by simp)) (nK i2 (by simp)) (S2.keep _ _ _ h2 fun o e=>hs₃.extBut _ _ D.TOi2.symm (hs₂.extBut _ _ D.i12.symm (hs₁.extBut _ _ D.i2z e))) st fun h₄ e hs₄ he=>?_);obtain⟨oe,hoe,hce⟩:=he;have hz₄:=hs₄ _ _ D.i2z.symm (hs₃.extBut _ _ D.TOz.symm (hs₂.extBut _ _ D.i1z.symm hz₁));have hez:e≠z:=fun x=>by subst x;rw[hz₄] at hoe;cases hoe;simp at hce
  refine Di hz₄ (by simp) fun h₅ _ hs₅=>hE h₅ e _ (fun c o c1 c2 c3 c4 x=>hs₅.extBut _ _ c1 (hs₄ _ _ c4 (hs₃.extBut _ _ c2 (hs₂.extBut _ _ c3 (hs₁.extBut _ _ c1 x))))) ⟨oe,hs₅.extBut _ _ hez hoe,hce⟩
end
def Itz(J1 J2:It):It:=⟨fun i H=>J1.go i H/\J2.go i H,fun i H x H'=>∃T x1 x2,H T=none/\J1.yld i H x1 H/\J2.yld i H x2 H/\x=.ref T/\H'=upd H T (.tup [x1,x2]),fun i H=>J1.stop i H\/(J1.go i H/\J2.stop i H)⟩
def tnZip(z TI TO i1 i2:Addr)(t1 t2:Nat->Heap->Prop)(i:Nat)(h:Heap):Prop:=IsZip h z TI TO .none/\Jt h TI (.ref i1) (.ref i2)/\(∃a b,Jt h TO a b)/\t1 i h/\t2 i h
theorem x0b{K:Af}{TI TO:Addr}(D:ZipA z TI TO i1 i2)(S1:Srce P w K J1 i1 t1)(S2:Srce P w K J2 i2 t2):
  Turn P w K (.Tuple elts kk pos) (Itz J1 J2) [z,TI,TO,i1,i2] z (tnZip z TI TO i1 i2 t1 t2) where
 mem:=by simp
 obj:=fun i h st b hb=>by
  obtain⟨hz,hTI,⟨a,c,hTO⟩,h1,h2⟩:=st;simp only[Ap,Bq,or_false] at hb;rcases hb with rfl|rfl|rfl|rfl|rfl
  ·simp_all
  ·grind
  ·grind
  ·exact S1.obj i h h1
  ·exact S2.obj i h h2
 keep:=fun i h h' st k=>by
  obtain⟨hz,hTI,⟨a,c,hTO⟩,h1,h2⟩:=st;exact⟨k z (by simp) _ hz,k TI (by simp) _ hTI,⟨a,c,k TO (by simp) _ hTO⟩,S1.keep _ _ _ h1 fun o e=>k i1 (by simp) o e,S2.keep _ _ _ h2 fun o e=>k i2 (by simp) o e⟩
 item:=by
  intro X hP hw hK hc i pins s σ H E I hf st hg;subst hP hw hK;obtain⟨hz,hTI,⟨a,c,hTO⟩,h1,h2⟩:=st;have hT:s.TypeIs (.ref z) "zip" := ⟨_,hz,rfl⟩
  refine Ac (Fs (Dl hT Km
   (Ej Km hT Rj
    (z7i D S1 S2 (I.ok.hd hc) I.vw (fun b hb=>(hf b hb).1) (fun b hb=>(hf b hb).noK I) hz hTI hTO h1 h2 hg.1 hg.2 fun u v x y h' tk rx ry yx yy a1 a2 a3 a4 a5 a6 a7=>Ak ?_) (Qu _))))
  refine⟨_,rfl,?_⟩;refine wpAny_letOwnedTupleGo_zip a1 fun h2' hz2 hs2=>?_;have k2:∀c o,c∉[z,TI,TO,i1,i2]->s.heap.get? c=some o->h2'.get? c=some o:=fun c o hcn e=>by
   simp only[Ap,Bq,or_false,not_or] at hcn;exact hs2.extBut _ _ hcn.1 (a7 c o hcn.1 hcn.2.2.1 hcn.2.2.2.1 hcn.2.2.2.2 e)
  have zlt:=Au hz;have I1:Inv X pins σ H { s with heap:=h2',toks:=tk }:=I.turnedL k2 hf;have FT:=I.fpOk (Aj _) I.fresh;have hT2:=hs2.extBut _ _ (Gv zlt) a5;have I2:Inv X pins σ (upd H s.heap.objs.size (.tup [x,y])) { s with heap:=h2',toks:=tk } :=
   I1.track I.sz FT ⟨by show 2<=sizeLine;decide,[u,v],.cons rx (.cons ry .nil),⟨_,hT2,rfl,_,rfl⟩⟩
  refine⟨.ref s.heap.objs.size,_,I2,rfl,⟨_,x,y,I.fresh,yx,yy,rfl,rfl⟩,⟨hz2,?_,⟨_,_,hs2.extBut _ _ D.TOz a2⟩,S1.keep _ _ _ a3 fun o e=>hs2.extBut _ _ D.i1z e,S2.keep _ _ _ a4 fun o e=>hs2.extBut _ _ D.i2z e⟩,fun b hb=>?_⟩
  ·exact hs2.extBut _ _ D.TIz (a7 _ _ D.TIz D.TITO D.TIi1 D.TIi2 hTI)
  ·have hb2:=(hf b hb).1;rw[q0m]
   ·exact hb2
   ·have:∃o,s.heap.get? b=some o:=by
     simp only[Ap,Bq,or_false] at hb;rcases hb with rfl|rfl|rfl|rfl|rfl
     ·exact⟨_,hz⟩
     ·grind
     ·grind
     ·obtain⟨o,e,_⟩:=S1.obj _ _ h1;exact⟨o,e⟩
     ·obtain⟨o,e,_⟩:=S2.obj _ _ h2;exact⟨o,e⟩
    obtain⟨o,e⟩:=this;exact By (Au e)
 done:=by
  intro X hP hw hK hc i pins s σ H E I hf st hg;subst hP hw hK;obtain⟨hz,hTI,⟨a,c,hTO⟩,h1,h2⟩:=st;have hT:s.TypeIs (.ref z) "zip" := ⟨_,hz,rfl⟩
  refine Ac (Fs (Dl hT Km
   (Ej Km hT Rj
    (x0a D S1 S2 (I.ok.hd hc) I.vw (fun b hb=>(hf b hb).1) (fun b hb=>(hf b hb).noK I) hz hTI hTO h1 h2 hg fun h' e tk hk he=>?_) (Qu _))))
  obtain⟨o,ho,hcl⟩:=he;refine Ac (Ms ⟨o,ho,hcl⟩ Oc ?_);refine Ak ⟨rfl,I.turnedL (fun c o hcn e=>?_) hf⟩;simp only[Ap,Bq,or_false,not_or] at hcn;exact hk c o hcn.1 hcn.2.2.1 hcn.2.2.2.1 hcn.2.2.2.2 e
 self:=fun _ _ _ _ _ st h=>wpAny_pyIter_zip st.1 h
open PySem PySem.Spec PyProof.Rows
abbrev zs1(h:Heap)(x:Str)(t:Tok):Heap:=h.push { cls:=.type (Gp x),data:=.fields #[.str x t,.int 0 0] }
abbrev zs2(h:Heap)(x y:Str)(t u:Tok):Heap:=(zs1 h x t).push { cls:=.type (Gp y),data:=.fields #[.str y u,.int 0 0] }
abbrev zs3(h:Heap)(x y:Str)(t u:Tok):Heap:=(zs2 h x y t u).push { cls:=.type "tuple",data:=.seq #[.ref h.objs.size,.ref (zs1 h x t).objs.size] }
abbrev zs4(h:Heap)(x y:Str)(t u:Tok):Heap:=(zs3 h x y t u).push { cls:=.type "tuple",data:=.seq #[.none,.none] }
abbrev zs5(h:Heap)(x y:Str)(t u:Tok):Heap:=(zs4 h x y t u).push { cls:=.type "zip",data:=.fields #[.none,.bool false,.bool false,.ref (zs2 h x y t u).objs.size,.ref (zs3 h x y t u).objs.size] }
set_option maxHeartbeats 4000000 in
theorem z2q(x y:Str)(t u:Tok):
  Meets (Eo.«zip.__new__» ⟨[.type "zip",.str x t,.str y u],[]⟩) (fun _ R s=>R (.ok (.ret (.ref (zs4 s.heap x y t u).objs.size))) { s with heap:=zs5 s.heap x y t u }) :=
 .of_wp fun prog w A R s h=>by
  obtain⟨hp,g,d,tk,os⟩:=s;have hsub:=sub_zip;have i1:∀{A:Around} {E:Value->Ah->Prop} {Q:Value->Ah->Prop},Q (.ref hp.objs.size) ⟨zs1 hp x t,g,d,tk,os⟩->wpAny (model prog w) A (Jr (.str x t)) Q E ⟨hp,g,d,tk,os⟩:=fun q=>Qv q
  have i2:∀{A:Around} {E:Value->Ah->Prop} {Q:Value->Ah->Prop},Q (.ref (zs1 hp x t).objs.size) ⟨zs2 hp x y t u,g,d,tk,os⟩->wpAny (model prog w) A (Jr (.str y u)) Q E ⟨zs1 hp x t,g,d,tk,os⟩:=fun q=>Qv q
  wp_walk using i1,i2
  exact⟨_,rfl,h⟩
theorem z7j(n:Nat):ZipA (n+4) (n+2) (n+3) n (n+1):=by
 constructor<;>(show(_:Nat)≠_;lia)
section
variable{X:Cx}{elts:List Expr}{kk:Nat}{tpos:Pos}
theorem z3x{σ:St}(I:Inv X pins σ H s)(S1:Srce X.prog X.w X.K J1 s.heap.objs.size t1)(S2:Srce X.prog X.w X.K J2 (s.heap.objs.size+1) t2)(hz:IsZip h' (s.heap.objs.size+4) (s.heap.objs.size+2) (s.heap.objs.size+3) .none)(hTI:Jt h' (s.heap.objs.size+2) (.ref s.heap.objs.size) (.ref (s.heap.objs.size+1)))(hTO:Jt h' (s.heap.objs.size+3) .none .none)(h1:t1 0 h')(h2:t2 0 h')(hk:∀c o,s.heap.get? c=some o->h'.get? c=some o)(q:R (Itz J1 J2) H):
  wpAny (model X.prog X.w) X.A (Jr (.ref (s.heap.objs.size+4))) (PIE X pins σ (.Tuple elts kk tpos) R) E { s with heap:=h' }:=by
 refine wpAny_pyIter_zip hz ?_;refine⟨_,_,_,_,H,rfl,I.kept (t':=s.toks) hk,x0b (z7j s.heap.objs.size) S1 S2,⟨hz,hTI,⟨_,_,hTO⟩,h1,h2⟩,fun b hb=>?_,q⟩;have hb':s.heap.objs.size<=b:=by grind
 exact I.fpOk hb' (I.hok.fresh hb')
def iZipS(ta:TA):TI:=fun σ H R=>ta σ H fun vs H1=>∃x y,vs=[.str x,.str y]/\R (Itz (Its x) (Its y)) H1
theorem x3a{p pos:Pos}(hg:Gl X "zip")(hm:X.mg "zip" = none)(ha:PA X [a,b] ta)(hs:Bd [a,b] X.env=[(false,eval a X.env),(false,eval b X.env)]:=by rfl)(hs2:Bd [b] X.env=[(false,eval b X.env)]:=by rfl):
  PI X (.Tuple elts kk tpos) (.Call (.Name "zip" p) [a,b] [] pos) (iZipS ta):=by
 intro pins s σ H R I h;refine Call_ (q4u I hg hm (by decide +kernel:Fg "zip" = some (.type "zip")) (Dk (thn (ha pos pins s σ H _ I h) fun us s1 ⟨vs,H1,I1,r1,q1⟩=>?_) (by rw[hs,hs2]) (by rw[hs2];rfl)));obtain⟨x,y,e,q⟩:=q1;subst e;obtain⟨u,v,rfl,⟨t,rfl⟩,⟨t',rfl⟩⟩:=r1.two;refine callType_new F.called_zip (by decide) (F.typeCall_zip_2 _ _) (F.newCall_zip_2 _ _) (fun obj=>F.args_object_init_3 obj _ _) F.entry_zip_new (z2q x y t t') ?_;have z1:(zs1 s1.heap x t).objs.size=s1.heap.objs.size+1:=Gq ..;have z2:(zs2 s1.heap x y t t').objs.size=s1.heap.objs.size+2:=by simp_all
 have z3:(zs3 s1.heap x y t t').objs.size=s1.heap.objs.size+3:=by simp_all
 have z4:(zs4 s1.heap x y t t').objs.size=s1.heap.objs.size+4:=by simp_all
 have k1:∀c o,s1.heap.get? c=some o->(zs1 s1.heap x t).get? c=some o:=fun c o e=>Ae _ e;have k2:∀c o,(zs1 s1.heap x t).get? c=some o->(zs2 s1.heap x y t t').get? c=some o:=fun c o e=>Ae _ e;have k3:∀c o,(zs2 s1.heap x y t t').get? c=some o->(zs3 s1.heap x y t t').get? c=some o:=fun c o e=>Ae _ e;have k4:∀c o,(zs3 s1.heap x y t t').get? c=some o->(zs4 s1.heap x y t t').get? c=some o:=fun c o e=>Ae _ e;have k5:∀c o,(zs4 s1.heap x y t t').get? c=some o->(zs5 s1.heap x y t t').get? c=some o:=fun c o e=>Ae _ e;have g1:(zs1 s1.heap x t).get? s1.heap.objs.size=some { cls:=.type (Gp x),data:=.fields #[.str x t,.int 0 0] }:=Bb _ rfl;have g2:(zs2 s1.heap x y t t').get? (zs1 s1.heap x t).objs.size=some { cls:=.type (Gp y),data:=.fields #[.str y t',.int 0 0] }:=Bb _ rfl;have g3:(zs3 s1.heap x y t t').get? (zs2 s1.heap x y t t').objs.size=some { cls:=.type "tuple",data:=.seq #[.ref s1.heap.objs.size,.ref (zs1 s1.heap x t).objs.size] }:=Bb _ rfl;have g4:(zs4 s1.heap x y t t').get? (zs3 s1.heap x y t t').objs.size=some { cls:=.type "tuple",data:=.seq #[.none,.none] }:=Bb _ rfl;have g5:(zs5 s1.heap x y t t').get? (zs4 s1.heap x y t t').objs.size=some { cls:=.type "zip",data:=.fields #[.none,.bool false,.bool false,.ref (zs2 s1.heap x y t t').objs.size,.ref (zs3 s1.heap x y t t').objs.size] }:=Bb _ rfl;rw[z1] at g2;rw[z2,z1] at g3;rw[z3] at g4;rw[z4,z2,z3] at g5;rw[z4];exact⟨⟨_,g5,rfl⟩,z3x I1 (q9f _ x t) (q9f _ y t') g5 (k5 _ _ (k4 _ _ g3)) (k5 _ _ g4) ⟨_,k5 _ _ (k4 _ _ (k3 _ _ (k2 _ _ g1))),rfl,rfl⟩ ⟨_,k5 _ _ (k4 _ _ (k3 _ _ g2)),rfl,rfl⟩ (fun c o e=>k5 _ _ (k4 _ _ (k3 _ _ (k2 _ _ (k1 _ _ e))))) q⟩
def iZipL(K:Af)(ta:TA):TI:=fun σ H R=>ta σ H fun vs H1=>∃a b xs ys,vs=[.ref a,.ref b]/\SqL K H1 a xs/\SqL K H1 b ys/\R (Itz (Itl K a) (Itl K b)) H1
theorem x3b{p pos:Pos}(hg:Gl X "zip")(hm:X.mg "zip" = none)(ha:PA X [a,b] ta)(hs:Bd [a,b] X.env=[(false,eval a X.env),(false,eval b X.env)]:=by rfl)(hs2:Bd [b] X.env=[(false,eval b X.env)]:=by rfl):
  PI X (.Tuple elts kk tpos) (.Call (.Name "zip" p) [a,b] [] pos) (iZipL X.K ta):=by
 intro pins s σ H R I h;refine Call_ (q4u I hg hm (by decide +kernel:Fg "zip" = some (.type "zip")) (Dk (thn (ha pos pins s σ H _ I h) fun us s1 ⟨vs,H1,I1,r1,q1⟩=>?_) (by rw[hs,hs2]) (by rw[hs2];rfl)));obtain⟨l1,l2,xs,ys,e,hx,hy,q⟩:=q1;subst e;obtain⟨u,v,rfl,r1,r2⟩:=r1.two;cases r1;cases r2;obtain⟨its,rv,pl,_⟩:=I1.list hx;obtain⟨its2,rv2,pl2,_⟩:=I1.list hy;exact call_zip_2 pl.isList pl2.isList fun h' a1 a2 a3 a4 a5 a6 a7=>z3x I1 (q7e l1 _) (q7e l2 _) a1 a2 a3 a4 a5 a7 q
theorem z7k{J:It}{g:TG}{tb:TS}{D:Ends}(Pv:Nat->St->Hp->Prop)(h0:Pv 0 σ H)(hgo:∀i σ H,i<n->Pv i σ H->J.go i H)(hstop:∀σ H,Pv n σ H->J.stop n H)(hs:∀i x σ H H',i<n->Pv i σ H->J.yld i H x H'->g x σ H' fun σ2 H2=>tb { D with nx:=Pv (i+1),ct:=Pv (i+1),bk:=D.nx } σ2 H2)(hd:∀σ H,Pv n σ H->D.nx σ H):
  ∃W:Nat->Nat->St->Hp->Prop,(∃m,W 0 m σ H)/\∀i m σ H,W i m σ H ->
   (J.stop i H/\D.nx σ H)\/(J.go i H/\∃N:St->Hp->Prop,(∀σ' H',N σ' H'->∃m',m'<m/\W (i+1) m' σ' H')/\∀x H',J.yld i H x H'->g x σ H' fun σ2 H2=>tb { D with nx:=N,ct:=N,bk:=D.nx } σ2 H2):=by
 refine⟨fun i m σ H=>m=n-i/\i<=n/\Pv i σ H,⟨n,by simp,Ax _,h0⟩,?_⟩;rintro i m σ H ⟨rfl,hi,p⟩;by_cases hlt:i<n
 ·exact .inr ⟨hgo i σ H hlt p,Pv (i+1),fun σ' H' p'=>⟨n-(i+1),by lia,rfl,hlt,p'⟩,fun x H' y=>hs i x σ H H' hlt p y⟩
 ·grind
theorem x0c{K:Ki}{g:TG}{tb:TS}{D:Ends}(Pv:Nat->St->Hp->Prop)(h0:Pv 0 σ H)(hl:∀i σ H,Pv i σ H->SqL K H a xs/\SqL K H b ys)(hs:∀i x y T σ H,xs[i]?=some x->ys[i]?=some y->Pv i σ H->H T=none->g (.ref T) σ (upd H T (.tup [x,y])) fun σ2 H2=>tb { D with nx:=Pv (i+1),ct:=Pv (i+1),bk:=D.nx } σ2 H2)(hd:∀σ H,Pv (min xs.length ys.length) σ H->D.nx σ H):
  ∃W:Nat->Nat->St->Hp->Prop,(∃m,W 0 m σ H)/\∀i m σ H,W i m σ H ->
   ((Itz (Itl K a) (Itl K b)).stop i H/\D.nx σ H)\/((Itz (Itl K a) (Itl K b)).go i H/\∃N:St->Hp->Prop,(∀σ' H',N σ' H'->∃m',m'<m/\W (i+1) m' σ' H')/\∀v H',(Itz (Itl K a) (Itl K b)).yld i H v H'->g v σ H' fun σ2 H2=>tb { D with nx:=N,ct:=N,bk:=D.nx } σ2 H2):=by
 refine z7k Pv h0 (fun i σ H h p=>⟨?_,?_⟩) (fun σ H p=>?_) (fun i v σ H H' h p yl=>?_) hd
 ·exact⟨xs,xs[i]'(by lia),(hl i σ H p).1,by simp⟩
 ·exact⟨ys,ys[i]'(by lia),(hl i σ H p).2,by simp⟩
 ·by_cases hxy:xs.length<=ys.length
  ·exact .inl ⟨xs,(hl _ σ H p).1,by lia⟩
  ·exact .inr ⟨⟨xs,xs[min xs.length ys.length]'(by lia),(hl _ σ H p).1,by simp⟩,ys,(hl _ σ H p).2,by lia⟩
 ·obtain⟨T,x1,x2,hT,⟨_,y1⟩,⟨_,y2⟩,rfl,rfl⟩:=yl;exact hs i x1 x2 T σ H (y1 xs (hl i σ H p).1) (y2 ys (hl i σ H p).2) p hT
end
open PySem PySem.Spec PyProof.Rows
structure Cal (P:Program) (w:World) (K:Af) (mg:Str->Option Value) (base:Heap) (x:Str) (k:Nat) (ps:List Str) (sp:Sp):Prop where
 ex:∃f fd,FnOk P w K mg base CX0 k f fd ps sp/\mg x=some (.ref f)/\Fy K (.ref f)=true/\Binds K fd ps []
structure Df (K:Af) (mg:Str->Option Value) (x:Str) (st:Stmt) (ps:List Str):Prop where
 ex:∃f fd,Fun K x x st f fd/\mg x=some (.ref f)/\Binds K fd ps []
theorem Df.cal{K:Af}{st:Stmt}(D:Df K mg x st ps)(S:FnScope N ps (defScope st))(len:∀vs H Q E,sp vs H Q E->vs.length=ps.length)(hbody:∀(f:Addr) (cdv:Value) (A:Around) (outer:List Env) (s:Ah) (H:Hp) (vs:List V) (Q:VK) (E:XK),Room k (A.deeper (Hh x (defScope st) s.heap.objs.size f cdv))->sp vs H Q E ->
   ∃t,PSs (cxOf CX0 P w K mg base N x (defScope st) f cdv A outer s H E).nox (defBody st) t/\t { nx:=fun _ H'=>Q .non H',rt:=Q } (start N vs) H):Cal P w K mg base x (k+1) ps sp:=by
 obtain⟨f,fd,F,hm,hb⟩:=D.ex;exact⟨f,fd,F.ok S len fun cdv A outer s H vs Q E hr h=>hbody f cdv A outer s H vs Q E hr h,hm,F.kp,hb⟩
theorem Cal.imp{K:Af}(C:Cal P w K mg base x k ps sp)(h:∀vs H Q E,sp' vs H Q E->sp vs H Q E):Cal P w K mg base x k ps sp':=by
 obtain⟨f,fd,F,r⟩:=C.ex;exact⟨f,fd,F.imp h,r⟩
section
variable{X:Cx}{x:Str}{k j:Nat}{ps:List Str}{sp:Sp}{p pos:Pos}{e:Expr}{es:List Expr}{t:TA}
theorem pe_c(C:Cal X.prog X.w X.K X.mg X.base x k ps sp)(hr:Room j X.A)(ha:PA X (e::es) t)(hjk:k<=j:=by decide)(hg:Gl X x:=by rfl)(hdb:(x==("__debug__" : Str))=false:=by decide)(he:Bd (e::es) X.env=(false,eval e X.env)::Bd es X.env:=by rfl)(hpl:(Gu pos (Bd es X.env)).any (·.1)=false:=by rfl):
  PE X (.Call (.Name x p) (e::es) [] pos) (tCall sp [] E0 t):=by
 obtain⟨f,fd,F,hm,hk,hb⟩:=C.ex;exact x2w F (hr.mono hjk) hg hm hk hb .nil pass0 ha hdb he hpl
theorem x3c(C:Cal X.prog X.w X.K X.mg X.base x k ps sp)(hr:Room j X.A)(hjk:k<=j:=by decide)(hg:Gl X x:=by rfl)(hdb:(x==("__debug__" : Str))=false:=by decide):
  PE X (.Call (.Name x p) [] [] pos) (tCall sp [] E0 tNil):=by
 obtain⟨f,fd,F,hm,hk,hb⟩:=C.ex;exact z9v F (hr.mono hjk) hg hm hk hb .nil pass0 hdb
end
theorem PI.or(h1:PI X tg l w1)(h2:PI X tg l w2):PI X tg l (fun σ H R=>w1 σ H R\/w2 σ H R):=by
 intro pins s σ H R I h;rcases h with h|h
 ·exact h1 pins s σ H R I h
 ·exact h2 pins s σ H R I h
structure FeedAt (H:Hp) (a b:Addr):Prop where
 fa:∃i j:Int,H a=some (.lst [.ref b,.int i,.int j])
 fb:∃ns:List Int,H b=some (.lst (ns.map V.int))
structure Fd (a b:Addr) (H H':Hp):Prop where
 feed:FeedAt H' a b
 keep:∀c o,H c=some o->c≠a->H' c=some o
theorem FeedAt.ne(F:FeedAt H a b):b≠a:=by
 obtain⟨⟨i,j,h⟩,ns,h'⟩:=F;refine z9q h' h ?_;intro z;cases ns with
 |nil=>cases z
 |cons n r=>simp at z
theorem Fd.refl(F:FeedAt H a b):Fd a b H H:=⟨F,fun _ _ h _=>h⟩
theorem Fd.trans(x:Fd a b H H1)(y:Fd a b H1 H2):Fd a b H H2:=⟨y.feed,fun c o h hc=>y.keep c o (x.keep c o h hc) hc⟩
theorem Fd.free(x:Fd a b H H')(h:H' p=none):H p=none:=by
 cases e:H p with
 |none=>rfl
 |some o =>
  by_cases hp:p=a
  ·subst hp;obtain⟨i,j,q⟩:=x.feed.fa;rw[h] at q;cases q
  ·rw[x.keep p o e hp] at h;cases h
theorem FeedAt.upd(F:FeedAt H a b)(ha:a≠p)(hb:b≠p):FeedAt (upd H p o) a b :=
 ⟨let ⟨i,j,h⟩:=F.fa;⟨i,j,by rw[q0m ha];exact h⟩,let ⟨ns,h⟩:=F.fb;⟨ns,by rw[q0m hb];exact h⟩⟩
theorem FeedAt.na(F:FeedAt H a b)(h:H p=none):a≠p:=by obtain⟨i,j,q⟩:=F.fa;exact q0y q h
theorem FeedAt.nb(F:FeedAt H a b)(h:H p=none):b≠p:=by obtain⟨ns,q⟩:=F.fb;exact q0y q h
theorem Fd.put(x:Fd a b H H')(F:FeedAt H a b)(h:H p=none):Fd a b H (upd H' p o) :=
 ⟨x.feed.upd (F.na h) (F.nb h),fun c u e hc=>by rw[q0m (q0y e h)];exact x.keep c u e hc⟩
theorem Fd.new(x:Fd a b H H')(h:H' p=none):Fd a b H (upd H' p o) :=
 ⟨x.feed.upd (x.feed.na h) (x.feed.nb h),fun c u e hc=>by rw[q0m (q0y (x.keep c u e hc) h)];exact x.keep c u e hc⟩
theorem Fd.at(x:Fd a b H H')(h:H c=some o)(hc:c≠a):H' c=some o:=x.keep c o h hc
theorem Fd.same(x:Fd a b H H')(s:Same H' H2):Fd a b H H2 :=
 ⟨⟨let ⟨i,j,h⟩:=x.feed.fa;⟨i,j,s _ _ h⟩,let ⟨ns,h⟩:=x.feed.fb;⟨ns,s _ _ h⟩⟩,fun c o e hc=>s _ _ (x.keep c o e hc)⟩
theorem Same.new(s:Same H H')(h:H' p=none):Same H (upd H' p o):=fun c u e=>by rw[q0m (q0y (s c u e) h)];exact s c u e
theorem Same.put(s:Same H H')(h:H p=none):Same H (upd H' p o):=fun c u e=>by rw[q0m (q0y e h)];exact s c u e
def spDraw:Sp:=fun vs H Q _=>∃a b m,vs=[.ref a,.int m]/\FeedAt H a b/\0<m/\m<1073741824/\∀(r:Int) H',0<=r->r<m->Fd a b H H'->Q (.int r) H'
def spConst(x:Str):Sp:=fun vs H Q _=>vs=[]/\Q (.str x) H
theorem x3d{xs:List α}(i:Int)(h:xs≠[]):∃x,x∈xs/\atI xs (i%(xs.length:Int))=some x:=by
 have hl:0<(xs.length:Int):=by
  cases xs with
  |nil=>exact absurd rfl h
  |cons a r=>grind
 have h0:=Kn i (show(xs.length:Int)≠0 by lia);have h1:=Jb i hl;have hn:(i%(xs.length:Int)).toNat<xs.length:=by lia
 unfold atI ixN;rw[if_pos h0,if_pos h1];simp[hn]
theorem z1d{xs:List α}(h0:0<=i)(h1:i<(xs.length:Int)):∃x,xs[i.toNat]?=some x/\atI xs i=some x:=by
 have hn:i.toNat<xs.length:=by lia
 unfold atI ixN;rw[if_pos h0,if_pos h1];simp[hn]
open PySem PySem.Spec PyProof.Rows
mutual
inductive Dt (K : Af) (H : Hp) : V → PyData → Prop
  | non : Dt K H .non .none
  | bl (b : Bool) : Dt K H (.bl b) (.bool b)
  | int (i : Int) : Dt K H (.int i) (.int i)
  | str (x : Str) : Dt K H (.str x) (.str x)
  | lst {a : Addr} {xs : List V} {ds : List PyData} : SqL K H a xs → Dts K H xs ds → Dt K H (.ref a) (.list ds)
  | tup {a : Addr} {xs : List V} {ds : List PyData} : SqT K H a xs → Dts K H xs ds → Dt K H (.ref a) (.tuple ds)
inductive Dts (K : Af) (H : Hp) : List V → List PyData → Prop
  | nil : Dts K H [] []
  | cons {x : V} {xs : List V} {d : PyData} {ds : List PyData} : Dt K H x d → Dts K H xs ds → Dts K H (x :: xs) (d :: ds)
end
section
variable{X:Cx}{pins:List (Addr×Obj)}{σ:St}{H:Hp}{s:Ah}
mutual
theorem Dt.reads (I : Inv X pins σ H s) : ∀ {x : V} {d : PyData} {u : Value}, Dt X.K H x d → RelV x u → ∃ as, Reads s.heap u d as
  | _, _, _, .non, r => by cases r; exact ⟨_, .none⟩
  | _, _, _, .bl b, r => by cases r; exact ⟨_, .bool b⟩
  | _, _, _, .int i, r => by obtain ⟨t, rfl⟩ := r; exact ⟨_, .int i t⟩
  | _, _, _, .str x, r => by obtain ⟨t, rfl⟩ := r; exact ⟨_, .str x t⟩
  | _, _, _, .lst q ds, r => by
    cases r
    obtain ⟨its, rv, ⟨o, n, e, c, _, d⟩, _⟩ := I.list q
    obtain ⟨as, h⟩ := Dts.reads I ds rv
    exact ⟨_, .list e c d (by simpa using h)⟩
  | _, _, _, .tup q ds, r => by
    cases r
    obtain ⟨its, rv, ⟨o, e, c, n, d⟩, _⟩ := I.tuple q
    obtain ⟨as, h⟩ := Dts.reads I ds rv
    exact ⟨_, .tuple e c d (by simpa using h)⟩
theorem Dts.reads (I : Inv X pins σ H s) : ∀ {xs : List V} {ds : List PyData} {us : List Value}, Dts X.K H xs ds → Vals xs us → ∃ as, ReadsAll s.heap us ds as
  | _, _, _, .nil, .nil => ⟨_, .nil⟩
  | _, _, _, .cons d ds, .cons r rs => by
    obtain ⟨as, h⟩ := Dt.reads I d r
    obtain ⟨bs, h'⟩ := Dts.reads I ds rs
    exact ⟨_, .cons h h'⟩
end
end
section
variable{X:Cx}{k:Nat}
def rEqD(K:Af):R2:=fun x y H Q=>∃d e,Dt K H x d/\Dt K H y e/\d.canLay0=true/\e.canLay0=true/\min d.depth e.depth<=100/\Q (.bl (Dr d e)) H
def rNeD(K:Af):R2:=fun x y H Q=>∃d e,Dt K H x d/\Dt K H y e/\d.canLay0=true/\e.canLay0=true/\min d.depth e.depth<=100/\Q (.bl (!PyData.eqv d e)) H
theorem op_eqD(hr:Room k X.A):OpR X (Cz .Eq) (rEqD X.K):=by
 intro pins s σ H x y v u Q I rx ry h;obtain⟨d,e,hd,he,cd,ce,hm,q⟩:=h;obtain⟨as,r1⟩:=hd.reads I rx;obtain⟨bs,r2⟩:=he.reads I ry;have hu:=hr.un;exact SeqAt.rcAt_reads r1 r2 cd ce (by lia) X.prog X.w X.xe _ ⟨.bl _,H,I,rfl,q⟩
theorem op_neD(hr:Room k X.A):OpR X (Cz .NotEq) (rNeD X.K):=by
 intro pins s σ H x y v u Q I rx ry h;obtain⟨d,e,hd,he,cd,ce,hm,q⟩:=h;obtain⟨as,r1⟩:=hd.reads I rx;obtain⟨bs,r2⟩:=he.reads I ry;have hu:=hr.un;exact SeqAt.rcNeAt_reads r1 r2 cd ce (by lia) X.prog X.w X.xe _ ⟨.bl _,H,I,rfl,q⟩
def rAddU:R2:=fun x y H Q=>(∃i j,x=.int i/\y=.int j/\Q (.int (i+j)) H)\/(∃i j,x=.str i/\y=.str j/\i.length+j.length<=sizeLine/\Q (.str (i++j)) H)\/rCat x y H Q
theorem q0k:OpR X (Gi .Add) rAddU:=op_add.or (op_add_str.or op_cat)
def rMulU:R2:=fun x y H Q=>(∃i j,x=.int i/\y=.int j/\CMul i j/\Q (.int (i*j)) H)\/rMulS x y H Q\/rRep x y H Q
theorem q5p:OpR X (Gi .Mult) rMulU:=op_mul.or (op_mulS.or op_rep)
def rEqU(K:Af):R2:=fun x y H Q=>rEq x y H Q\/rEqD K x y H Q
theorem op_eqU(hr:Room k X.A):OpR X (Cz .Eq) (rEqU X.K):=op_eq.or (op_eqD hr)
def rNeU(K:Af):R2:=fun x y H Q=>rNe x y H Q\/rNeD K x y H Q
theorem op_neU(hr:Room k X.A):OpR X (Cz .NotEq) (rNeU X.K):=op_ne.or (op_neD hr)
def rInU(K:Af):R2:=fun x y H Q=>(∃i j,x=.str i/\y=.str j/\Q (.bl (!(Dy j i 0 j.length 1).isEmpty)) H)\/rIn K false x y H Q
theorem op_inU:OpR X (Cz .In) (rInU X.K):=op_in_str.or z7c
def rNinU(K:Af):R2:=fun x y H Q=>(∃i j,x=.str i/\y=.str j/\Q (.bl (!(!(Dy j i 0 j.length 1).isEmpty))) H)\/rIn K true x y H Q
theorem x3e:OpR X (Cz .NotIn) (rNinU X.K):=op_notIn_str.or z0x
def rSlU(K:Af):V->Option Int->Option Int->Hp->VK->Prop:=fun x lo hi H Q=>rSlS x lo hi H Q\/rSlL K x lo hi H Q\/rSlT K x lo hi H Q
theorem sl_U:SlR X (rSlU X.K):=sl_str.or (sl_list.or sl_tup)
def iAny(K:Af)(tl:TE):TI:=fun σ H R=>tl σ H fun x H1=>(∃a,x=.ref a/\(∃xs,SqL K H1 a xs)/\R (Itl K a) H1)\/(∃a,x=.ref a/\(∃xs,SqT K H1 a xs)/\R (Itt K a) H1)\/∃z,x=.str z/\R (Its z) H1
theorem pi_any(hl:PE X l tl):PI X tg l (iAny X.K tl):=by
 intro pins s σ H R I h;refine thn (hl pins s σ H _ I h) fun v s1 ⟨x,H1,I1,r1,q1⟩=>?_;have fp:∀b∈[s1.heap.objs.size],FpOk X pins H1 b:=fun b hb=>by
  have e:b=s1.heap.objs.size:=by grind
  subst e;exact I1.fpOk (Aj _) (I1.hok.fresh (Aj _))
 rcases q1 with⟨a,e,⟨xs,hq⟩,q⟩|⟨a,e,⟨xs,hq⟩,q⟩|⟨z,e,q⟩
 ·subst e;cases r1;obtain⟨its,rv,p,hz⟩:=I1.list hq;exact Qt p.isList ⟨s1.heap.objs.size,[s1.heap.objs.size],_,_,H1,rfl,I1.kept (t':=s1.toks) fun b o e=>Ae _ e,z6q a _,⟨_,Bb _ rfl,rfl,rfl⟩,fp,q⟩
 ·subst e;cases r1;obtain⟨its,rv,p,hz⟩:=I1.tuple hq;exact wpAny_pyIter_tuple (show s1.heap.IsTuple a its.toArray from p) ⟨s1.heap.objs.size,[s1.heap.objs.size],_,_,H1,rfl,I1.kept (t':=s1.toks) fun b o e=>Ae _ e,z5h a _,⟨_,Bb _ rfl,rfl,rfl⟩,fp,q⟩
 ·subst e;obtain⟨t,rfl⟩:=r1;cases ha:z.cps.all (· < 128)
  ·exact wpAny_pyIter_wide ha ⟨s1.heap.objs.size,[s1.heap.objs.size],_,_,H1,rfl,I1.kept (t':=s1.toks) fun b o e=>Ae _ e,z7h _ z t,⟨Ax _,_,Bb _ rfl,rfl,rfl⟩,fp,q⟩
  ·exact wpAny_pyIter_ascii ha ⟨s1.heap.objs.size,[s1.heap.objs.size],_,_,H1,rfl,I1.kept (t':=s1.toks) fun b o e=>Ae _ e,z7g _ z t,⟨Ax _,_,Bb _ rfl,rfl,rfl⟩,fp,q⟩
def iZip(K:Af)(ta:TA):TI:=fun σ H R=>iZipS ta σ H R\/iZipL K ta σ H R
theorem pi_zip{elts:List Expr}{kk:Nat}{tpos:Pos}{p pos:Pos}(hg:Gl X "zip")(hm:X.mg "zip" = none)(ha:PA X [a,b] ta)(hs:Bd [a,b] X.env=[(false,eval a X.env),(false,eval b X.env)]:=by rfl)(hs2:Bd [b] X.env=[(false,eval b X.env)]:=by rfl):
  PI X (.Tuple elts kk tpos) (.Call (.Name "zip" p) [a,b] [] pos) (iZip X.K ta):=(x3a hg hm ha hs hs2).or (x3b hg hm ha hs hs2)
end
open PySem PySem.Spec PyProof.Rows
section
variable{X:Cx}{a b o e l:Expr}{es:List Expr}{ta tb to te tl:TE}{t:TA}{pos p2 apos cpos:Pos}{k:Nat}{name:Str}{T idn:String}{r:V->List V->Hp->VK->Prop}
theorem ix_k(K:Af)(hK:X.K=K):IxR X (rIx K):=by subst hK;exact ix_seq
theorem q2e(K:Af)(hK:X.K=K):CallR X (.builtin "len") (fun xs H Q=>∃x n,xs=[x]/\LenV K x H n/\Q (.int n) H):=by subst hK;exact z9u
theorem eq_k(K:Af)(hK:X.K=K)(hr:Room k X.A):OpR X (Cz .Eq) (rEqU K):=by subst hK;exact op_eqU hr
theorem ne_k(K:Af)(hK:X.K=K)(hr:Room k X.A):OpR X (Cz .NotEq) (rNeU K):=by subst hK;exact op_neU hr
theorem in_k(K:Af)(hK:X.K=K):OpR X (Cz .In) (rInU K):=by subst hK;exact op_inU
theorem z1e(K:Af)(hK:X.K=K):OpR X (Cz .NotIn) (rNinU K):=by subst hK;exact x3e
theorem sl_k(K:Af)(hK:X.K=K):SlR X (rSlU K):=by subst hK;exact sl_U
theorem q2t{tg:Expr}(K:Af)(hK:X.K=K)(hl:PE X l tl):PI X tg l (iAny K tl):=by subst hK;exact pi_any hl
theorem zip_k{elts:List Expr}{kk:Nat}{tpos:Pos}{p:Pos}(K:Af)(hK:X.K=K)(hg:Gl X "zip")(hm:X.mg "zip" = none)(ha:PA X [a,b] t)(hs:Bd [a,b] X.env=[(false,eval a X.env),(false,eval b X.env)]:=by rfl)(hs2:Bd [b] X.env=[(false,eval b X.env)]:=by rfl):
  PI X (.Tuple elts kk tpos) (.Call (.Name "zip" p) [a,b] [] pos) (iZip K t):=by subst hK;exact pi_zip hg hm ha hs hs2
theorem all_k(K:Af)(hK:X.K=K)(hc:X.calm=true):CallR X (.builtin "all") (fun xs H Q=>∃(p:Addr) (bs:List Bool),xs=[.ref p]/\SqL K H p (bs.map V.bl)/\Q (.bl (bs.all id)) H):=by subst hK;exact z9z hc
theorem list_k(K:Af)(hK:X.K=K):CallR X (.type "list") (fun xs H Q=>∃p ys,xs=[.ref p]/\(SqL K H p ys\/SqT K H p ys)/\∀l,H l=none->Q (.ref l) (upd H l (.lst ys))):=by subst hK;exact z0y
theorem x3f(K:Af)(hK:X.K=K):CallR X (.type "tuple") (fun xs H Q=>∃p ys,xs=[.ref p]/\((SqL K H p ys/\∀l,H l=none->Q (.ref l) (upd H l (.tup ys)))\/(SqT K H p ys/\Q (.ref p) H))):=by subst hK;exact q9c
theorem x1r(K:Af)(hK:X.K=K):MtM X "str.join" (rJoin K):=by subst hK;exact x2y
theorem q2h{kk n:Nat}{u:TGs}(K:Af)(hK:X.K=K)(hc:X.calm=true)(h:PGs X es u)(hn:(Ia es X.env).length=n:=by rfl)(hst:(Ia es X.env).findIdx? (·.1)=none:=by rfl):PG X (.Tuple es kk pos) (gTup K n u):=by subst hK;exact pg_tup hc h hn hst
theorem bm_k(K:Af)(hK:X.K=K)(pa:Ov T)(slot:Slot T name idn)(hty:typeOf (.builtin idn)=pure (.type "method_descriptor"))(hm:MtR X idn r)(ho:PE X o to)(ha:PA X (e::es) t)(hbase:Ik o name X.env (eval o X.env)=eval o X.env:=by rfl)(hfew:((Gu cpos (Bd (e::es) X.env)).all (fun x => !x.1)&&(backToKw cpos (Rf [] X.env)).all (fun x=>x.1.isSome)
   && decide ((e::es).length+([]:List Sa).length+(if ([]:List Sa).isEmpty then 0 else 1)<30))=true:=by rfl)(hline:(apos.endLine==cpos.line)=true:=by rfl)(hs:Bd (e::es) X.env=(false,eval e X.env)::Bd es X.env:=by rfl)(hplain:(Gu cpos (Bd es X.env)).any (·.1)=false:=by rfl):
  PE X (.Call (.Attribute o name apos) (e::es) [] cpos) (tBM K T r to t):=by subst hK;exact pe_bm pa slot hty hm ho ha hbase hfew hline hs hplain
theorem q7f(K:Af)(hK:X.K=K)(pa:Ov T)(slot:Slot T name idn)(hty:typeOf (.builtin idn)=pure (.type "method_descriptor"))(hm:MtR X idn r)(ho:PE X o to)(hbase:Ik o name X.env (eval o X.env)=eval o X.env:=by rfl)(hline:(apos.endLine==cpos.line)=true:=by rfl):PE X (.Call (.Attribute o name apos) [] [] cpos) (tBM0 K T r to):=by subst hK;exact pe_bm0 pa slot hty hm ho hbase hline
theorem x3g(K:Af)(hK:X.K=K)(ha:PE X a ta)(he:∀whole,isTrue a X.env whole=(do let v<-whole;Mh a.pos;Lb [v] (truthy v))):
  PT X a (fun σ H Q=>ta σ H fun x H'=>∃k,TruV K x H' k/\Q k H'):=by subst hK;exact z9t ha he
end
theorem z2r{lo:Int}{r:St}{Fin:List V->Hp->Prop}(Pv:Nat->List V->Hp->Prop)(h0:Pv 0 [] (upd H1 D (.lst [])))(hl:∀i ys H,Pv i ys H->H D=some (.lst ys))(hs:∀i ys H,i<n->Pv i ys H->te (some (.int (lo+i))::r) H fun v H4=>H4 D=some (.lst ys)/\ys.length<sizeLine/\Pv (i+1) (ys++[v]) (upd H4 D (.lst (ys++[v]))))(hd:∀ys H,Pv n ys H->Fin ys H):CompW (Itr lo n) (gName 0) tIf0 te (none::r) D Fin H1 :=
 z5s Pv h0 hl (fun i ys H h p=>(⟨q1w,iteT (hs i ys H h p)⟩:Keeps0 (none::r) (some (.int (lo+i))::r)/\if true=true then te (some (.int (lo+i))::r) H fun v H4=>H4 D=some (.lst ys)/\ys.length<sizeLine/\Pv (i+1) (ys++[v]) (upd H4 D (.lst (ys++[v]))) else Pv (i+1) ys H)) hd
theorem z7l{r:St}{Fin:List V->Hp->Prop}(Pv:Nat->List V->Hp->Prop)(h0:Pv 0 [] (upd H1 D (.lst [])))(hl:∀i ys H,Pv i ys H->H D=some (.lst ys))(hs:∀i ys H c,z.cps[i]?=some c->Pv i ys H->te (some (.str ⟨#[c]⟩)::r) H fun v H4=>H4 D=some (.lst ys)/\ys.length<sizeLine/\Pv (i+1) (ys++[v]) (upd H4 D (.lst (ys++[v]))))(hd:∀ys H,Pv z.length ys H->Fin ys H):CompW (Its z) (gName 0) tIf0 te (none::r) D Fin H1 :=
 q9e Pv h0 hl (fun i ys H c h p=>(⟨q1w,iteT (hs i ys H c h p)⟩:Keeps0 (none::r) (some (.str ⟨#[c]⟩)::r)/\if true=true then te (some (.str ⟨#[c]⟩)::r) H fun v H4=>H4 D=some (.lst ys)/\ys.length<sizeLine/\Pv (i+1) (ys++[v]) (upd H4 D (.lst (ys++[v]))) else Pv (i+1) ys H)) hd
theorem z5t{K:Af}{r:St}{Fin:List V->Hp->Prop}(Pv:Nat->List V->Hp->Prop)(h0:Pv 0 [] (upd H1 D (.lst [])))(hl:∀i ys H,Pv i ys H->H D=some (.lst ys)/\SqL K H a xs)(hs:∀i ys H x,xs[i]?=some x->Pv i ys H->te (some x::r) H fun v H4=>H4 D=some (.lst ys)/\ys.length<sizeLine/\Pv (i+1) (ys++[v]) (upd H4 D (.lst (ys++[v]))))(hd:∀ys H,Pv xs.length ys H->Fin ys H):CompW (Itl K a) (gName 0) tIf0 te (none::r) D Fin H1 :=
 q3x Pv h0 hl (fun i ys H x h p=>(⟨q1w,iteT (hs i ys H x h p)⟩:Keeps0 (none::r) (some x::r)/\if true=true then te (some x::r) H fun v H4=>H4 D=some (.lst ys)/\ys.length<sizeLine/\Pv (i+1) (ys++[v]) (upd H4 D (.lst (ys++[v]))) else Pv (i+1) ys H)) hd
def tSeqJ(t u:TS):TS:=fun D σ H=>∃J:St->Hp->Prop,(∀σ' H',J σ' H'->u D σ' H')/\t { D with nx:=J } σ H
theorem q1f{X:Cx}{st:Stmt}{rest:List Stmt}{t u:TS}(h1:PS X st t)(h2:PSs X rest u):PSs X (st::rest) (tSeqJ t u):=by
 intro pins s σ H D I h;obtain⟨J,hJ,h⟩:=h;refine Mj (thn (h1 pins s σ H { D with nx:=J } I h) fun f s1 q=>?_);cases f with
 |next =>
  obtain⟨σ',H',I',q⟩:=q;exact h2 pins s1 σ' H' D I' (hJ σ' H' q)
 |ret v=>exact q
 |brk=>exact q
 |cont=>exact q
def tVJ(t:TE):TE:=fun σ H Q=>∃J:VK,(∀v H',J v H'->Q v H')/\t σ H J
theorem pe_j{X:Cx}{e:Expr}{t:TE}(h:PE X e t):PE X e (tVJ t):=by
 intro pins s σ H Q I hw;obtain⟨J,hJ,hw⟩:=hw;exact thn (h pins s σ H J I hw) fun u s' ⟨v,H',I',r,q⟩=>⟨v,H',I',r,hJ v H' q⟩
def tTJ(t:TT):TT:=fun σ H Q=>∃J:Bool->Hp->Prop,(∀b H',J b H'->Q b H')/\t σ H J
theorem pt_j{X:Cx}{e:Expr}{t:TT}(h:PT X e t):PT X e (tTJ t):=by
 intro pins s σ H Q I hw;obtain⟨J,hJ,hw⟩:=hw;exact thn (h pins s σ H J I hw) fun u s' ⟨H',I',q⟩=>⟨H',I',hJ u H' q⟩
theorem iteB{B:Prop}(hA:c=true->A)(hB:c=false->B):if c=true then A else B:=by grind
end L2
namespace TX
open PySem PySem.Spec PyProof.Rows L2
abbrev tl(x:Str):List Nat:=x.cps.toList
abbrev mk(l:List Nat):Str:=⟨l.toArray⟩
theorem q0z(l:List Nat):tl (mk l)=l:=by simp[tl,mk]
theorem z2s(x:Str):mk (tl x)=x:=by simp[tl,mk]
theorem ext(h:tl x=tl y):x=y:=ext_toList h
theorem len(x:Str):x.length=(tl x).length:=by simp[tl,Str.length]
theorem q2n(x y:Str):tl (x++y)=tl x++tl y:=by
 show(x.cps++y.cps).toList=_;simp[tl]
theorem q0t(x y:Str):(x++y).length=x.length+y.length:=by rw[len,len,len,q2n,Ad]
theorem get{i:Nat}(h:x.cps[i]?=some c):(tl x)[i]?=some c:=by simpa[tl] using h
theorem q7g(z:Str)(ts:List Str):Mq z ts=Lc z ts:=StrLaws.glued_eq_join z ts
theorem z7m:∀ts:List Str,tl (Mq (Ab "") ts)=(ts.map tl).flatten:=by
 intro ts;rw[q7g];induction ts with
 |nil=>rfl
 |cons a r ih =>
  cases r with
  |nil=>simp[Lc]
  |cons b r =>
   show tl (a++Ab "" ++ Lc (Ab "") (b::r))=_;rw[q2n,q2n,ih];have e:tl (Ab "")=[]:=by decide +kernel
   rw[e];simp
theorem z7n(cs:List Nat):Mq (Ab "") (cs.map fun c=>(⟨#[c]⟩:Str))=mk cs:=by
 apply ext;rw[z7m,q0z,Es];induction cs with
 |nil=>rfl
 |cons c r ih=>rw[Bc,Dg,ih];rfl
theorem x0d(cs:List Nat):((cs.map fun c=>(⟨#[c]⟩:Str)).map (·.length)).sum=cs.length:=by
 induction cs with
 |nil=>rfl
 |cons c r ih=>rw[Bc,Bc,Pe,ih,Av];show 1+_=_;lia
theorem z3y{j:Int}(h0:0<=j)(h1:j<=(tl x).length):Qf x none (some j)=mk ((tl x).take j.toNat):=by
 show Dh x none (some j)=_;rw[StrLaws.sliceText_to ⟨h0,h1⟩];simp[mk,tl]
theorem q8j{i:Int}(h0:0<=i)(h1:i<=(tl x).length):Qf x (some i) none=mk ((tl x).drop i.toNat):=by
 show Dh x (some i) none=_;rw[StrLaws.sliceText_from ⟨h0,h1⟩];rw[Ce];rw[Cf];lia
theorem q2o(x:Str)(c:Nat):(!(Dy x ⟨#[c]⟩ 0 x.length 1).isEmpty)=decide (c∈tl x):=StrLaws.found_one x c
theorem lower(h:∀c∈tl x,c<128):tl (Ln x)=(tl x).map lo1:=by
 rw[lower_ascii h];simp[tl]
theorem small(h:n<=1000000):n<=sizeLine:=by rw[Fe];lia
theorem small'(h:n<=1000000):n<sizeLine:=by rw[Fe];lia
end TX
namespace L2
open PySem PySem.Spec PyProof.Rows TX
def spText:Sp:=fun vs H Q _=>∃a b g n,vs=[.ref a,.str g,.int n]/\FeedAt H a b/\0<g.length/\g.length<=1000/\0<=n/\n<=1000 /\
 ∀(t:List Nat) H',t.length=n.toNat->(∀c∈t,c∈tl g)->Fd a b H H'->Q (.str (mk t)) H'
theorem q1b{α:Type}{l:List α}{x:α}(h:l[i]?=some x):l.take (i+1)=l.take i++[x]:=by
 rw[Hr,h];rfl
open PySem PySem.Spec PyProof.Rows
section
variable{prog:Program}{w:World}{K:Af}{A:Around}{E:Value->Ah->Prop}{s:Ah}{J:It}{st:Nat->Heap->Prop}{e it:Addr}{H:Hp}
theorem z5u{i:Nat}{Q:Value->Ah->Prop}(S:Srce prog w K J it st)(hh:A.handled=none)(vw:Vw K H s.heap)(nH:H it=none)(nK:K.lookup it=none)(he:IsEnum s.heap e it i old)(hst:st i s.heap)(go:J.go i H)(hne:e≠it)(hQ:∀u x h' tk,RelV x u->J.yld i H x H->IsEnumOut h' e it ((i:Int)+1) u s.heap.objs.size->st (i+1) h'->h'.get? s.heap.objs.size=some { cls:=.type "tuple",data:=.seq #[.int i tk,u] }->h'.objs.size=s.heap.objs.size+1 ->
   (∀b o,b≠e->b≠it->s.heap.get? b=some o->h'.get? b=some o)->Q (.ref s.heap.objs.size) { s with heap:=h',toks:=tk+1 }):
  wpAny (model prog w) A (Eo.«enumerate.__next__» ⟨[.ref e],[]⟩) (fun fin s'=>∃v,fin=.done (.ret v)/\Q v s') E s:=by
 obtain⟨hp,g,d,tk₀,os⟩:=s;show wpAny _ _ (field (.ref e) 2 >>= _) _ _ _;refine Ac (Bv he rfl rfl ?_);refine Ac (S.item _ i _ H _ _ hh vw nH nK hst go fun u x h₁ tk rx yx st₁ hs₁=>?_);have he₁:=(hs₁.2 e hne).trans he;refine Ac (Bv he₁ rfl rfl ?_);refine Ac (Bv he₁ rfl rfl ?_);refine Ac (wpAny_mkInt ?_);refine Ac (Di he₁ (by simp) fun h₂ he₂ hs₂=>?_);refine Ac (Di he₂ (by simp) fun h₃ he₃ hs₃=>?_);refine Ac (wpAny_newTuple ?_);have he₄:IsEnum (h₃.push { cls:=.type "tuple",data:=.seq #[.int i tk,u] }) e it ((i:Int)+1) old:=Ae _ he₃;generalize hh₄:h₃.push { cls:=.type "tuple",data:=.seq #[.int i tk,u] }=h₄ at he₄;have hsz:h₃.objs.size=hp.objs.size:=by rw[hs₃.1,hs₂.1,hs₁.1]
 have hel:=Au he;have ht₄:h₄.get? hp.objs.size=some { cls:=.type "tuple",data:=.seq #[.int i tk,u] }:=by rw[<- hh₄,<- hsz];exact Bb _ rfl
 have hz₄:h₄.objs.size=hp.objs.size+1:=by rw[<- hh₄,Gq,hsz]
 have hk₄:∀b o,b≠e->b≠it->hp.get? b=some o->h₄.get? b=some o:=fun b o hbe hbi hb=>by
  rw[<- hh₄];exact Ae _ (hs₃.extBut b o hbe (hs₂.extBut b o hbe (hs₁.extBut b o hbi hb)))
 have hit₄:st (i+1) h₄:=S.keep _ _ _ st₁ fun o y=>by
  rw[<- hh₄];exact Ae _ (hs₃.extBut it o hne.symm (hs₂.extBut it o hne.symm y))
 rw[hsz];refine Ac ?_;refine Ac (Bv he₄ rfl rfl (Ak ?_));refine Ac (Jh ?_);refine Ac (Bv he₄ rfl rfl ?_);refine Ac (Di he₄ (by simp) fun h₅ he₅ hs₅=>?_);refine Ac ?_;refine Ac (Di he₅ (by simp) fun h₆ he₆ hs₆=>?_);refine Di he₆ (by simp) fun h₇ he₇ hs₇=>?_;have up:=fun b o hb y=>hs₇.extBut b o hb (hs₆.extBut b o hb (hs₅.extBut b o hb y));refine Ac (Lg (Ak ⟨_,rfl,hQ u x h₇ tk rx yx he₇ (S.keep _ _ _ hit₄ fun o y=>up _ o hne.symm y) (up _ _ (Gv hel) ht₄) ?_ fun b o hbe hbi hb=>up b o hbe (hk₄ b o hbe hbi hb)⟩));rw[hs₇.1,hs₆.1,hs₅.1,hz₄]
end
def Ite(J:It):It:=⟨fun i H=>J.go i H,fun i H x H'=>∃T y,H T=none/\J.yld i H y H/\x=.ref T/\H'=upd H T (.tup [.int i,y]),fun i H=>J.stop i H⟩
theorem z7o{K:Af}{st:Nat->Heap->Prop}(hne:e≠it)(S:Srce P w K J it st):
  Turn P w K (.Tuple elts kk pos) (Ite J) [e,it] e (fun i h=>(∃old,IsEnum h e it i old)/\st i h) where
 mem:=by simp
 obj:=fun i h hs b hb=>by
  obtain⟨⟨old,he⟩,h1⟩:=hs;simp only[Ap,Bq,or_false] at hb;rcases hb with rfl|rfl
  ·grind
  ·exact S.obj i h h1
 keep:=fun i h h' hs k=>by
  obtain⟨⟨old,he⟩,h1⟩:=hs;exact⟨⟨old,k e (by simp) _ he⟩,S.keep _ _ _ h1 fun o y=>k it (by simp) o y⟩
 item:=by
  intro X hP hw hK hc i pins s σ H E I hf hs hg;subst hP hw hK;obtain⟨⟨old,he⟩,h1⟩:=hs;have hT:s.TypeIs (.ref e) "enumerate" := ⟨_,he,rfl⟩
  refine Ac (Fs (Dl hT Hs
   (Ej Hs hT Nv
    (z5u S (I.ok.hd hc) I.vw (hf it (by simp)).1 ((hf it (by simp)).noK I) he h1 hg hne fun u x h' tk rx yx a1 a2 a3 a4 a5=>Ak ?_) (Mz _))))
  refine⟨_,rfl,?_⟩;refine wpAny_letOwnedTupleGo_enum a1 fun h2 he2 hs2=>?_;have k2:∀c o,c∉[e,it]->s.heap.get? c=some o->h2.get? c=some o:=fun c o hcn y=>by
   simp only[Ap,Bq,or_false,not_or] at hcn;exact hs2.extBut _ _ hcn.1 (a5 c o hcn.1 hcn.2 y)
  have elt:=Au he;have ilt:it<s.heap.objs.size:=by obtain⟨o,y,_⟩:=S.obj _ _ h1;exact Au y
  have I1:Inv X pins σ H { s with heap:=h2,toks:=tk+1 }:=I.turnedL k2 hf;have FT:=I.fpOk (Aj _) I.fresh;have hT2:h2.get? s.heap.objs.size=some { cls:=.type "tuple",data:=.seq #[.int i tk,u] }:=hs2.extBut _ _ (Gv elt) a3;have I2:Inv X pins σ (upd H s.heap.objs.size (.tup [.int i,x])) { s with heap:=h2,toks:=tk+1 } :=
   I1.track I.sz FT ⟨by show 2<=sizeLine;decide,[.int i tk,u],.cons ⟨_,rfl⟩ (.cons rx .nil),⟨_,hT2,rfl,_,rfl⟩⟩
  refine⟨.ref s.heap.objs.size,_,I2,rfl,⟨_,x,I.fresh,yx,rfl,rfl⟩,⟨⟨u,by simpa using he2⟩,S.keep _ _ _ a2 fun o y=>hs2.extBut _ _ hne.symm y⟩,fun b hb=>?_⟩;have hb2:=(hf b hb).1;rw[q0m]
  ·exact hb2
  ·grind
 done:=by
  intro X hP hw hK hc i pins s σ H E I hf hs hg;subst hP hw hK;obtain⟨⟨old,he⟩,h1⟩:=hs;have hT:s.TypeIs (.ref e) "enumerate" := ⟨_,he,rfl⟩
  refine Ac (Fs (Dl hT Hs
   (Ej Hs hT Nv ?_ (Mz _))))
  show wpAny _ _ (field (.ref e) 2 >>= _) _ _ _;refine Ac (Bv he rfl rfl ?_);refine Ac (S.done _ i _ H _ _ (I.ok.hd hc) I.vw (hf it (by simp)).1 ((hf it (by simp)).noK I) h1 hg fun h' x he' hx'=>?_);obtain⟨o,ho,hcl⟩:=hx';refine Ac (Ms ⟨o,ho,hcl⟩ Oc ?_);refine Ak ⟨rfl,I.turnedL (t':=s.toks) (fun c o hcn y=>?_) hf⟩;simp only[Ap,Bq,or_false,not_or] at hcn;exact he' c o hcn.2 y
 self:=fun _ _ _ _ _ hs h=>by
  obtain⟨⟨old,he⟩,_⟩:=hs;exact Qw he h
section
variable{X:Cx}{elts:List Expr}{kk:Nat}{tpos:Pos}
theorem z1f{σ:St}{st:Nat->Heap->Prop}(I:Inv X pins σ H s)(S:Srce X.prog X.w X.K J s.heap.objs.size st)(he:IsEnum h' (s.heap.objs.size+1) s.heap.objs.size 0 .none)(h1:st 0 h')(hk:∀c o,s.heap.get? c=some o->h'.get? c=some o)(q:R (Ite J) H):
  wpAny (model X.prog X.w) X.A (Jr (.ref (s.heap.objs.size+1))) (PIE X pins σ (.Tuple elts kk tpos) R) E { s with heap:=h' }:=by
 refine Qw he ?_;refine⟨_,_,_,_,H,rfl,I.kept (t':=s.toks) hk,z7o (show(s.heap.objs.size+1:Nat)≠s.heap.objs.size by lia) S,⟨⟨_,he⟩,h1⟩,fun b hb=>?_,q⟩;have hb':s.heap.objs.size<=b:=by
  simp only[Ap,Bq,or_false] at hb;rcases hb with rfl|rfl
  ·exact Hm _
  ·exact Aj _
 exact I.fpOk hb' (I.hok.fresh hb')
def iEnum(K:Af)(ta:TA):TI:=fun σ H R=>ta σ H fun vs H1=>(∃z,vs=[.str z]/\R (Ite (Its z)) H1)\/∃a xs,vs=[.ref a]/\SqL K H1 a xs/\R (Ite (Itl K a)) H1
theorem x3h(hg:Gl X "enumerate")(hm:X.mg "enumerate" = none)(ha:PA X [a] ta)(hs:Bd [a] X.env=[(false,eval a X.env)]:=by rfl):
  PI X (.Tuple elts kk tpos) (.Call (.Name "enumerate" p) [a] [] pos) (iEnum X.K ta):=by
 intro pins s σ H R I h;refine Call_ (q4u I hg hm (by decide +kernel:Fg "enumerate" = some (.type "enumerate")) (Dk (thn (ha pos pins s σ H _ I h) fun us s1 ⟨vs,H1,I1,r1,q1⟩=>?_) hs rfl));rcases q1 with⟨z,e,q⟩|⟨l,xs,e,hq,q⟩
 ·subst e;obtain⟨u,rfl,t,rfl⟩:=vals1 r1;exact call_enumerate_str fun h' he hi hz hk=>z1f I1 (q9f _ z t) he hi hk q
 ·subst e;obtain⟨u,rfl,r⟩:=vals1 r1;cases r;obtain⟨its,rv,pl,_⟩:=I1.list hq;exact call_enumerate_list pl.isList fun h' he hi hz hk=>z1f I1 (q7e l _) he hi hk q
theorem z3z{a:Expr}{ta:TA}{p pos:Pos}(K:Af)(hK:X.K=K)(hg:Gl X "enumerate")(hm:X.mg "enumerate" = none)(ha:PA X [a] ta)(hs:Bd [a] X.env=[(false,eval a X.env)]:=by rfl):
  PI X (.Tuple elts kk tpos) (.Call (.Name "enumerate" p) [a] [] pos) (iEnum K ta):=by subst hK;exact x3h hg hm ha hs
theorem q4x{g:TG}{tb:TS}{D:Ends}(Pv:Nat->St->Hp->Prop)(h0:Pv 0 σ H)(hs:∀i c T σ H,z.cps[i]?=some c->Pv i σ H->H T=none->g (.ref T) σ (upd H T (.tup [.int i,.str ⟨#[c]⟩])) fun σ2 H2=>tb { D with nx:=Pv (i+1),ct:=Pv (i+1),bk:=D.nx } σ2 H2)(hd:∀σ H,Pv z.length σ H->D.nx σ H):
  ∃W:Nat->Nat->St->Hp->Prop,(∃m,W 0 m σ H)/\∀i m σ H,W i m σ H ->
   ((Ite (Its z)).stop i H/\D.nx σ H)\/((Ite (Its z)).go i H/\∃N:St->Hp->Prop,(∀σ' H',N σ' H'->∃m',m'<m/\W (i+1) m' σ' H')/\∀v H',(Ite (Its z)).yld i H v H'->g v σ H' fun σ2 H2=>tb { D with nx:=N,ct:=N,bk:=D.nx } σ2 H2):=by
 refine z7k Pv h0 (fun i σ H h _=>h) (fun σ H _=>Aj _) (fun i v σ H H' h p yl=>?_) hd;obtain⟨T,y,hT,⟨_,c,hc,rfl⟩,rfl,rfl⟩:=yl;exact hs i c T σ H hc p hT
end
end L2
namespace K
open PySem L2 TX
def NSs:Str:=Ab "abcdefghijklmnopqrstuvwxyzABCDEFGHIJKLMNOPQRSTUVWXYZ0123456789-_."
def GSs:Str:=Ab "?*#@"
abbrev NS:List Nat:=tl NSs
abbrev GS:List Nat:=tl GSs
theorem z4a:∀c∈NS,c<128:=by decide +kernel
theorem x0e:∀c∈GS,c<128:=by decide +kernel
theorem z4b(h:c∈GS):([c].filter fun c=>decide (c∈GS))=[c]:=by simp_all
theorem z4c(h:¬c∈GS):([c].filter fun c=>decide (c∈GS))=[]:=by grind
inductive Pt where
 |tx (l:List Nat)
 |gp (c:Nat)
namespace Pt
def fl:Pt->List Nat
 |tx l=>l
 |gp c=>[c]
def isG:Pt->Bool
 |tx _=>false
 |gp _=>true
def ok:Pt->Prop
 |tx l=>l≠[]/\∀c∈l,c∈NS
 |gp c=>c∈GS
def word:Pt->Str
 |tx _=>Ab "text"
 |gp _=>Ab "gap"
def vs(p:Pt):List V:=[.str p.word,.str (mk p.fl)]
def dat(p:Pt):PyData:=.tuple [.str p.word,.str (mk p.fl)]
end Pt
def gaps(ps:List Pt):Nat:=(ps.filter Pt.isG).length
def tp(t:List Nat):List Pt:=if t=[] then[] else[.tx t]
def parse(cur:List Nat):List Nat->List Pt
 |[]=>tp cur
 |c::r=>if c∈GS then tp cur++.gp c::parse [] r else parse (cur++[c]) r
structure Good (l:List Nat):Prop where
 ne:l≠[]
 sg:∀c∈l,c∈GS\/c∈NS
 gp:(l.filter fun c=>decide (c∈GS)).length<=9
 len:l.length<=1000
def TKeep(H H':Hp):Prop:=∀T xs,H T=some (.tup xs)->H' T=some (.tup xs)
abbrev Tups(H:Hp):List Addr->List Pt->Prop:=Gs fun T p=>H T=some (.tup p.vs)
structure HL (H:Hp) (L:Addr) (ps:List Pt):Prop where
 ex:∃Ts:List Addr,H L=some (.lst (Ts.map V.ref))/\Tups H Ts ps
theorem Tups.keep{H H':Hp}(k:TKeep H H'):∀{Ts:List Addr} {ps:List Pt},Tups H Ts ps->Tups H' Ts ps
 |_,_,.nil=>.nil
 |_,_,.cons h t=>.cons (k _ _ h) (Tups.keep k t)
theorem Tups.len(h:Tups H Ts ps):Ts.length=ps.length:=He h
theorem Tups.app{H:Hp}:∀{Ts Us:List Addr} {ps qs:List Pt},Tups H Ts ps->Tups H Us qs->Tups H (Ts++Us) (ps++qs)
 |_,_,_,_,.nil,h=>h
 |_,_,_,_,.cons h t,u=>.cons h (Tups.app t u)
theorem Tups.last:∀{ps:List Pt} {p:Pt} {Ts:List Addr},Tups H Ts (ps++[p])->∃Us T,Ts=Us++[T]/\Tups H Us ps/\H T=some (.tup p.vs)
 |[],_,_,.cons h .nil=>⟨[],_,rfl,.nil,h⟩
 |_::ps,p,_,.cons h t=>by
  obtain⟨Us,T,rfl,h1,h2⟩:=Tups.last (ps:=ps) t;exact⟨_::Us,T,rfl,.cons h h1,h2⟩
theorem Tups.get:∀{Ts:List Addr} {ps:List Pt} {i:Nat} {x:V},Tups H Ts ps->(Ts.map V.ref)[i]?=some x->∃T p,x=.ref T/\ps[i]?=some p/\H T=some (.tup p.vs)
 |_,_,_,_,.nil,h=>by simp at h
 |_,_,0,x,.cons h t,e=>by simp at e;exact⟨_,_,e.symm,rfl,h⟩
 |_,_,i+1,x,.cons h t,e=>by
  obtain⟨T,p,h1,h2,h3⟩:=Tups.get (i:=i) (x:=x) t (by simpa using e);exact⟨T,p,h1,by simpa using h2,h3⟩
theorem TKeep.refl(H:Hp):TKeep H H:=fun _ _ h=>h
theorem TKeep.trans(a:TKeep H H1)(b:TKeep H1 H2):TKeep H H2:=fun T xs h=>b T xs (a T xs h)
theorem TKeep.new(k:TKeep H H')(h:H' p=none):TKeep H (upd H' p o):=fun T xs e=>by rw[q0m (q0y (k T xs e) h)];exact k T xs e
theorem TKeep.lst{H H':Hp}{p:Addr}{ys zs:List V}(k:TKeep H H')(h:H' p=some (.lst ys)):TKeep H (upd H' p (.lst zs)):=fun T xs e=>by
 rw[q0m (z9q (k T xs e) h (by intro z;cases z))];exact k T xs e
theorem Fd.tk(F:FeedAt H a b)(x:Fd a b H H'):TKeep H H':=fun T xs e=>by
 obtain⟨i,j,h⟩:=F.fa;exact x.at e (z9q e h (by intro z;cases z))
theorem Same.tk(s:Same H H'):TKeep H H':=fun T xs e=>s _ _ e
theorem HL.same(h:HL H L ps)(s:Same H H'):HL H' L ps:=by
 obtain⟨Ts,h1,h2⟩:=h.ex;exact⟨Ts,s _ _ h1,h2.keep (Same.tk s)⟩
theorem HL.fd(F:FeedAt H a b)(h:HL H L ps)(x:Fd a b H H')(hL:L≠a):HL H' L ps:=by
 obtain⟨Ts,h1,h2⟩:=h.ex;exact⟨Ts,x.at h1 hL,h2.keep (Fd.tk F x)⟩
theorem HL.new(h:HL H L ps)(hp:H p=none):HL (upd H p o) L ps:=h.same ((Same.refl H).new hp)
theorem HL.put(h:HL H L ps)(hM:H M=some (.lst ys))(hne:L≠M):HL (upd H M (.lst zs)) L ps:=by
 obtain⟨Ts,h1,h2⟩:=h.ex;exact⟨Ts,by rw[q0m hne];exact h1,h2.keep ((TKeep.refl H).lst hM)⟩
theorem HL.sq(h:HL H L ps):∃xs,SqL K H L xs:=let ⟨Ts,h1,_⟩:=h.ex;⟨_,SqL.of h1⟩
theorem z4d(Us:List Addr)(T:Addr):atI ((Us++[T]).map V.ref) (-1)=some (.ref T):=by
 unfold atI ixN;rw[if_neg (by decide),if_pos (by simp;lia)];have e:(-1+(((Us++[T]).map V.ref).length:Int)).toNat=Us.length:=by simp;lia
 rw[e];simp
theorem HL.snoc(h1:H L=some (.lst (Ts.map V.ref)))(h2:Tups H Ts ps)(hT:H T=none):
  HL (upd (upd H T (.tup p.vs)) L (.lst (Ts.map V.ref++[.ref T]))) L (ps++[p]):=by
 have hTL:T≠L:=fun z=>by subst z;rw[hT] at h1;cases h1
 have h1':(upd H T (.tup p.vs)) L=some (.lst (Ts.map V.ref)):=by rw[q0m (Dm hTL)];exact h1
 refine⟨Ts++[T],by rw[Bf];exact q0e,Tups.app ((h2.keep ((TKeep.refl H).new hT)).keep ((TKeep.refl _).lst h1')) (.cons ?_ .nil)⟩;rw[q0m hTL];exact q0e
theorem q9g(h:∀c∈l,c<128):Cq (mk l)=true:=by
 unfold Cq;rw[Array.all_eq_true'];intro c hc;have:=h c (by simpa[mk] using hc);simp;lia
theorem Pt.lay{p:Pt}(h:p.ok):p.dat.canLay0=true:=by
 have hs:∀c∈p.fl,c<128:=by
  cases p with
  |gp c =>
   intro d hd;have e:d=c:=by simpa[Pt.fl] using hd
   rw[e];exact x0e c h
  |tx l=>exact fun c hc=>z4a c (h.2 c hc)
 have hw:Cq p.word=true:=by
  cases p with
  |gp c=>show Cq (Ab "gap")=true;decide +kernel
  |tx l=>show Cq (Ab "text")=true;decide +kernel
 simp only[Pt.dat,Ea,Bx,hw,q9g hs,Ew]
theorem Pt.dt{p:Pt}(h:H T=some (.tup p.vs)):Dt K H (.ref T) p.dat :=
 .tup (SqT.of h) (.cons (.str _) (.cons (.str _) .nil))
end K
namespace L2
open PySem PySem.Spec PyProof.Rows
section
variable{κ:Type}[DecidableEq κ]
def valV(kvs:List (κ×V))(k:κ):Option V:=(kvs.find? fun kv=>decide (kv.1=k)).map (·.2)
def putK(kvs:List (κ×V))(k:κ)(v:V):List (κ×V) :=
 if (kvs.any fun kv=>decide (kv.1=k))=true then kvs.map (fun kv=>if kv.1=k then(kv.1,v) else kv) else kvs++[(k,v)]
def dropK(kvs:List (κ×V))(k:κ):List (κ×V):=kvs.filter fun kv=>decide (kv.1≠k)
theorem q1y{p:κ×V}(e:p.1=k):valV (p::r) k=some p.2:=by simp[valV,Hi,e]
theorem q1z{p:κ×V}(e:¬p.1=k):valV (p::r) k=valV r k:=by simp[valV,Hi,e]
theorem q6o(k:κ):∀kvs:List (κ×V),(kvs.any fun kv=>decide (kv.1=k))=(valV kvs k).isSome
 |[]=>rfl
 |p::r=>by
  rw[Pd];by_cases e:p.1=k
  ·simp only[q1y e,decide_eq_true e,Bool.true_or,Option.isSome_some]
  ·rw[q1z e,decide_eq_false e,Bool.false_or];exact q6o k r
theorem z4e(k j:κ)(y:V):∀kvs:List (κ×V),valV (kvs.map fun kv=>if kv.1=k then(kv.1,y) else kv) j=(valV kvs j).map fun x=>if j=k then y else x
 |[]=>rfl
 |p::r=>by
  have ih:=z4e k j y r;rw[Bc];by_cases h:p.1=k
  ·rw[if_pos h];by_cases e:p.1=j
   ·rw[q1y (p:=(p.1,y)) e,q1y e,Ni,if_pos (e.symm.trans h)]
   ·rw[q1z (p:=(p.1,y)) e,q1z e,ih]
  ·rw[if_neg h];by_cases e:p.1=j
   ·rw[q1y e,q1y e,Ni,if_neg (fun z=>h (e.trans z))]
   ·rw[q1z e,q1z e,ih]
theorem z1g(k j:κ)(y:V):∀kvs:List (κ×V),valV kvs k=none->valV (kvs++[(k,y)]) j=if j=k then some y else valV kvs j
 |[],_=>by
  by_cases e:k=j
  ·rw[if_pos e.symm];exact q1y (p:=(k,y)) e
  ·rw[if_neg (fun z=>e z.symm)];exact q1z (p:=(k,y)) e
 |p::r,hn=>by
  rw[Mt];have hk:¬p.1=k:=fun z=>by rw[q1y z] at hn;cases hn
  rw[q1z hk] at hn;have ih:=z1g k j y r hn;by_cases e:p.1=j
  ·rw[q1y e,q1y e,if_neg (fun z=>hk (e.trans z))]
  ·rw[q1z e,q1z e,ih]
theorem x0f(kvs:List (κ×V))(k j:κ)(y:V):valV (putK kvs k y) j=if j=k then some y else valV kvs j:=by
 unfold putK;by_cases a:(kvs.any fun kv=>decide (kv.1=k))=true
 ·rw[if_pos a,z4e];rw[q6o] at a;by_cases e:j=k
  ·obtain⟨x,hx⟩:=Gx.mp a;rw[if_pos e,e,hx,Ni,if_pos rfl]
  ·simp_all
 ·rw[if_neg a];refine z1g k j y kvs ?_;rw[q6o] at a;cases q:valV kvs k with
  |none=>rfl
  |some x=>grind
theorem q3i(kvs:List (κ×V))(k:κ)(v:V):(putK kvs k v).length<=kvs.length+1:=by
 unfold putK;split
 ·grind
 ·grind
theorem RelO.isSome_eq(r:RelO o u):o.isSome=u.isSome:=by
 cases o with
 |none=>cases u with
  |none=>rfl
  |some _=>exact(show False from r).elim
 |some _=>cases u with
  |none=>exact(show False from r).elim
  |some _=>rfl
theorem RelO.getD(r:RelO o u)(rd:RelV d d'):RelV (o.getD d) (u.getD d'):=by
 cases o with
 |none=>cases u with
  |none=>exact rd
  |some _=>exact(show False from r).elim
 |some _=>cases u with
  |none=>exact(show False from r).elim
  |some _=>exact r
theorem KV.val(r:KV kvs vs)(k:κ):RelO (valV kvs k) (valueAt vs k):=by
 induction r with
 |nil=>exact True.intro
 | @cons p q ps qs h t ih =>
  obtain⟨h1,h2⟩:=h;by_cases e:p.1=k
  ·have e':q.1=k:=h1.symm.trans e;have b:valueAt (q::qs) k=some q.2:=by simp[valueAt,Hi,e']
   rw[q1y e,b];exact h2
  ·have e':¬q.1=k:=fun z=>e (h1.trans z);have b:valueAt (q::qs) k=valueAt qs k:=by simp[valueAt,Hi,e']
   rw[q1z e,b];exact ih
theorem KV.any(r:KV kvs vs)(k:κ):(kvs.any fun kv=>decide (kv.1=k))=vs.any fun kv=>decide (kv.1=k):=by
 induction r with
 |nil=>rfl
 |cons h t ih=>simp_all
theorem KV.repl(r:KV kvs vs)(k:κ)(ry:RelV y u):
  KV (kvs.map fun kv=>if kv.1=k then(kv.1,y) else kv) (vs.map fun kv=>if kv.1=k then(kv.1,u) else kv):=by
 induction r with
 |nil=>exact .nil
 | @cons p q ps qs h t ih =>
  refine .cons ?_ ih;by_cases e:p.1=k
  ·simp_all
  ·simp_all
theorem KV.put(r:KV kvs vs)(k:κ)(ry:RelV y u):KV (putK kvs k y) (stored vs k u):=by
 unfold putK stored;rw[r.any k];by_cases e:(vs.any fun kv=>decide (kv.1=k))=true
 ·rw[if_pos e,if_pos e];exact r.repl k ry
 ·rw[if_neg e,if_neg e];exact Gs.snoc r ⟨rfl,ry⟩
theorem KV.drop(r:KV kvs vs)(k:κ):KV (dropK kvs k) (without vs k):=by
 unfold dropK without;induction r with
 |nil=>exact .nil
 | @cons p q ps qs h t ih =>
  obtain⟨h1,h2⟩:=h;rw[Ey,Ey];by_cases e:p.1=k
  ·simp_all
  ·have e':¬q.1=k:=fun z=>e (h1.trans z);have a:decide (p.1≠k)=true:=by simp[e]
   have b:decide (q.1≠k)=true:=by simp[e']
   rw[if_pos a,if_pos b];exact .cons ⟨h1,h2⟩ ih
theorem KV.keys{kvs:List (κ×V)}(r:KV kvs vs):kvs.map (·.1)=vs.map (·.1):=by
 induction r with
 |nil=>rfl
 |cons h t ih=>grind
theorem KV.length{kvs:List (κ×V)}(r:KV kvs vs):kvs.length=vs.length:=He r
end
theorem z2t(r:RelV (kV k) u):(mixKind P w).is k u=true:=by
 cases k with
 |inl i=>obtain⟨t,e⟩:=(show ∃t,u=Value.int i t from r);subst e;exact z2i P w i t
 |inr x=>obtain⟨t,e⟩:=(show ∃t,u=Value.str x t from r);subst e;exact z2j P w x t
theorem z1h{P:Program}{w:World}:∀{ks:List Key} {us:List Value},Vals (ks.map kV) us->ItemsAre (mixKind P w) ks us
 |[],_,r=>by rw[List.map_nil] at r;cases r;exact .nil
 |k::ks,_,r=>by
  rw[Bc] at r;cases r with
  |cons h t=>exact .cons (z2t h) (z1h t)
abbrev KT(H:Hp):List (List Key×V)->List (List Key×Addr×Value)->Prop:=Gs fun p q=>p.1=q.1/\H q.2.1=some (.tup (p.1.map kV))/\RelV p.2 q.2.2
theorem KT.val(r:KT H kvs xs)(k:List Key):RelO (valV kvs k) ((atKey xs k).map (·.2)):=by
 induction r with
 |nil=>exact True.intro
 | @cons p q ps qs h t ih =>
  obtain⟨h1,_,h2⟩:=h;by_cases e:p.1=k
  ·have e':q.1=k:=h1.symm.trans e;have b:atKey (q::qs) k=some q.2:=by simp[atKey,Hi,e']
   rw[q1y e,b];exact h2
  ·have e':¬q.1=k:=fun z=>e (h1.trans z);have b:atKey (q::qs) k=atKey qs k:=by simp[atKey,Hi,e']
   rw[q1z e,b];exact ih
theorem KT.repl(r:KT H kvs xs)(k:List Key)(ry:RelV y u):
  KT H (kvs.map fun kv=>if kv.1=k then(kv.1,y) else kv) (xs.map (putAt k u)):=by
 induction r with
 |nil=>exact .nil
 | @cons p q ps qs h t ih =>
  refine .cons ?_ ih;unfold putAt;by_cases e:p.1=k
  ·simp_all
  ·simp_all
theorem KT.put(r:KT H kvs xs)(k:List Key)(hb:H b=some (.tup (k.map kV)))(ry:RelV y u):
  KT H (putK kvs k y) (storedH xs k b u):=by
 have e:(kvs.any fun kv=>decide (kv.1=k))=(atKey xs k).isSome:=by
  rw[q6o,(r.val k).isSome_eq,Lx]
 unfold putK storedH;rw[e];by_cases q:(atKey xs k).isSome=true
 ·rw[if_pos q,if_pos q];exact r.repl k ry
 ·rw[if_neg q,if_neg q];exact Gs.snoc r ⟨rfl,hb,ry⟩
theorem KT.keeps(r:KT H kvs xs)(ht:∀b ys,H b=some (.tup ys)->H' b=some (.tup ys)):KT H' kvs xs :=
 Gs.mapP r fun _ _ z=>⟨z.1,ht _ _ z.2.1,z.2.2⟩
section
variable{P:Program}{w:World}{H:Hp}{h:Heap}{a:Addr}
theorem rd_of(ok:HOk P w H h)(e:Rd H a u):ObjOk P w H h a u:=e.ok ok
theorem z7p(ok:HOk P w H h)(e:Rd H a (.dK kvs)):kvs.length<=sizeLine/\(a==Ff)=false/\∃vs,KV kvs vs/\h.DictOf (mixKind P w) a vs :=
 show ObjOk P w H h a (.dK kvs) from rd_of ok e
theorem dk_of(ok:HOk P w H h)(e:H a=some (.dK kvs)):kvs.length<=sizeLine/\(a==Ff)=false/\∃vs,KV kvs vs/\h.DictOf (mixKind P w) a vs:=z7p ok (.inl e)
theorem z1i(ok:HOk P w H h)(e:H a=some (.tup (ks.map kV))):(Lh (mixKind P w)).is h ks a:=by
 obtain⟨_,its,r,o,h1,h2,n,h3⟩:=(show ObjOk P w H h a (.tup (ks.map kV)) from ok a _ e)
 exact⟨o,its.toArray,n,h1,h2,h3,by simpa using z1h r⟩
theorem z7q(ok:HOk P w H h)(e:Rd H a (.dT kvs)):kvs.length<=sizeLine/\(a==Ff)=false /\
  ∃xs,KT H kvs xs/\h.DictOfH (Lh (mixKind P w)) a xs:=by
 obtain⟨z,y,xs,r,o,es,ep,h1,h2,h3,h4,h5⟩:=(show ObjOk P w H h a (.dT kvs) from rd_of ok e)
 refine⟨z,y,xs,r,o,es,ep,h1,h2,h3,h4,fun x hx=>?_,h5⟩;have all:∀{l:List (List Key×V)} {m:List (List Key×Addr×Value)},KT H l m->∀x∈m,(Lh (mixKind P w)).is h x.1 x.2.1:=by
  intro l m q;induction q with
  |nil=>grind
  | @cons p q ps qs hq t ih =>
   intro x hx;rcases Ap.mp hx with e|hx
   ·subst e;exact z1i ok (by rw[<- hq.1];exact hq.2.1)
   ·exact ih x hx
 exact all r x hx
theorem dt_of(ok:HOk P w H h)(e:H a=some (.dT kvs)):kvs.length<=sizeLine/\(a==Ff)=false /\
  ∃xs,KT H kvs xs/\h.DictOfH (Lh (mixKind P w)) a xs:=z7q ok (.inl e)
end
def DGet(H:Hp)(a:Addr)(y:V)(r:Option V):Prop :=
 (∃kvs k,Rd H a (.dK kvs)/\y=kV k/\r=valV kvs k)\/∃kvs k b,Rd H a (.dT kvs)/\y=.ref b/\H b=some (.tup (k.map kV))/\r=valV kvs k
def DPut(H:Hp)(a:Addr)(y v:V)(H':Hp):Prop :=
 (∃kvs k,H a=some (.dK kvs)/\y=kV k/\kvs.length<sizeLine/\H'=upd H a (.dK (putK kvs k v))) \/
 ∃kvs k b,H a=some (.dT kvs)/\y=.ref b/\H b=some (.tup (k.map kV))/\kvs.length<sizeLine/\H'=upd H a (.dT (putK kvs k v))
theorem DGet.k{k:Key}(e:H a=some (.dK kvs)):DGet H a (kV k) (valV kvs k):=.inl ⟨kvs,k,.inl e,rfl,rfl⟩
theorem DGet.t{k:List Key}(e:H a=some (.dT kvs))(eb:H b=some (.tup (k.map kV))):DGet H a (.ref b) (valV kvs k):=.inr ⟨kvs,k,b,.inl e,rfl,eb,rfl⟩
theorem DPut.k{k:Key}(e:H a=some (.dK kvs))(hl:kvs.length<sizeLine):DPut H a (kV k) v (upd H a (.dK (putK kvs k v))):=.inl ⟨kvs,k,e,rfl,hl,rfl⟩
theorem DPut.t{k:List Key}(e:H a=some (.dT kvs))(eb:H b=some (.tup (k.map kV)))(hl:kvs.length<sizeLine):
  DPut H a (.ref b) v (upd H a (.dT (putK kvs k v))):=.inr ⟨kvs,k,b,e,rfl,eb,hl,rfl⟩
section
variable{X:Cx}{pins:List (Addr×Obj)}{σ:St}{H:Hp}{s:Ah}{a:Addr}{y v:V}{u r:Value}{o:Option V}{A:Around}{E:Value->Ah->Prop}
theorem Inv.big(I:Inv X pins σ H s):Ff<s.heap.objs.size:=by
 have h:=(I.mod.glob.keeps I.bk).lt;exact Nat.lt_trans (by decide) h
theorem z7r(hu:A.units+1<cLine)(I:Inv X pins σ H s)(g:DGet H a y (some v))(ry:RelV y u)(h:∀w' s',Inv X pins σ H s'->RelV v w'->Q w' s'):
  wpAny (model X.prog X.w) A (getItem (.ref a) u) Q E s:=by
 rcases g with⟨kvs,k,e,ey,l⟩|⟨kvs,k,b,e,ey,eb,l⟩
 ·subst ey;obtain⟨z,hd,vs,rel,dd⟩:=z7p I.hok e;obtain⟨w',hw,rw'⟩:=RelO.some_of (by rw[l];exact rel.val k);exact wpAny_getItem_of (z2t ry) dd.mapOf hw (h w' _ (I.tok _) rw')
 ·subst ey;cases(show u=Value.ref b from ry);obtain⟨z,hd,xs,rel,dd⟩:=z7q I.hok e;obtain⟨w',hw,rw'⟩:=RelO.some_of (by rw[l];exact rel.val k);obtain⟨p,hp,hp2⟩:=Br.mp hw;refine wpAny_getItem_heap (Jc hu) (z1i I.hok eb) dd hp ?_;rw[hp2];exact h w' _ (I.tok _) rw'
theorem d_in(hu:A.units+1<cLine)(I:Inv X pins σ H s)(g:DGet H a y o)(ry:RelV y u)(h:∀s',Inv X pins σ H s'->Q (.bool o.isSome) s'):
  wpAny (model X.prog X.w) A (Cz .In u (.ref a)) Q E s:=by
 rcases g with⟨kvs,k,e,ey,l⟩|⟨kvs,k,b,e,ey,eb,l⟩
 ·subst ey;obtain⟨z,hd,vs,rel,dd⟩:=z7p I.hok e;refine wpAny_in_of (z2t ry) hd dd.mapOf ?_;rw[<- (rel.val k).isSome_eq,<- l];exact h _ (I.tok _)
 ·subst ey;cases(show u=Value.ref b from ry);obtain⟨z,hd,xs,rel,dd⟩:=z7q I.hok e;refine wpAny_in_heap (Jc hu) (z1i I.hok eb) hd dd ?_;have q:=(rel.val k).isSome_eq;rw[Lx] at q;rw[<- q,<- l];exact h _ (I.tok _)
theorem x3i(hu:A.units+1<cLine)(I:Inv X pins σ H s)(g:DGet H a y o)(ry:RelV y u)(h:∀s',Inv X pins σ H s'->Q (.bool (!o.isSome)) s'):
  wpAny (model X.prog X.w) A (Cz .NotIn u (.ref a)) Q E s:=by
 rcases g with⟨kvs,k,e,ey,l⟩|⟨kvs,k,b,e,ey,eb,l⟩
 ·subst ey;obtain⟨z,hd,vs,rel,dd⟩:=z7p I.hok e;refine wpAny_notIn_of (z2t ry) hd dd.mapOf ?_;rw[<- (rel.val k).isSome_eq,<- l];exact h _ (I.tok _)
 ·subst ey;cases(show u=Value.ref b from ry);obtain⟨z,hd,xs,rel,dd⟩:=z7q I.hok e;refine wpAny_notIn_heap (Jc hu) (z1i I.hok eb) hd dd ?_;have q:=(rel.val k).isSome_eq;rw[Lx] at q;rw[<- q,<- l];exact h _ (I.tok _)
theorem z2u(I:Inv X pins σ H s)(mu:Mut (H a))(hs:Hq a s.heap h')(he:∃q,h'.get? a=some q)(new:ObjOk X.prog X.w (upd H a ob) h' a ob):
  Inv X pins σ (upd H a ob) { s with heap:=h',toks:=t' } :=
 I.write mu (.inl rfl) (fun b q hb z=>(hs.2 b hb).trans z) he new
theorem x1s(z:kvs.length<=sizeLine)(hd:(a==Ff)=false)(rel:KV kvs vs)(dd:h'.DictOf (mixKind P w) a vs):
  ObjOk P w H' h' a (.dK kvs):=⟨z,hd,vs,rel,dd⟩
theorem z7s(hu:A.units+1<cLine)(I:Inv X pins σ H s)(g:DPut H a y v H')(ry:RelV y u)(rv:RelV v r)(h:∀s',Inv X pins σ H' s'->Q () s'):
  wpAny (model X.prog X.w) A (setItem (.ref a) u r) Q E s:=by
 rcases g with⟨kvs,k,e,ey,l,eH⟩|⟨kvs,k,b,e,ey,eb,l,eH⟩
 ·subst ey eH;obtain⟨z,hd,vs,rel,dd⟩:=dk_of I.hok e;have hz:vs.length<=sizeLine:=by rw[<- rel.length];exact z
  have hl:(putK kvs k v).length<=sizeLine:=by have:=q3i kvs k v;lia
  refine wpAny_setItem_pairs (z2t ry) dd fun h' dd' hs=>h _ ?_;have he:∃q,h'.get? a=some q:=let ⟨q,_,_,hq,_⟩:=dd';⟨q,hq⟩;exact z2u I (by rw[e];exact True.intro) hs he (x1s hl hd (rel.put k rv) dd')
 ·subst ey eH;cases(show u=Value.ref b from ry);obtain⟨z,hd,xs,rel,dd⟩:=dt_of I.hok e;have hz:xs.length<=sizeLine:=by rw[<- He rel];exact z
  have hl:(putK kvs k v).length<=sizeLine:=by have:=q3i kvs k v;lia
  refine wpAny_setItem_heap (Jc hu) (z1i I.hok eb) dd fun h' dd' hs=>h _ ?_;obtain⟨q,es,ep,hq,h2,h3,h4,_,h5⟩:=dd';refine z2u I (by rw[e];exact True.intro) hs ⟨q,hq⟩ ⟨hl,hd,_,(rel.put k eb rv).keeps fun c ys ec=>?_,q,es,ep,hq,h2,h3,h4,h5⟩;rw[q0m (z9q ec e (fun z=>nomatch z))];exact ec
end
def NoSl(i:Expr):Prop:=∀ov iv,Np i false ov iv=operate [ov,iv] (getItem ov iv)
theorem z7t{id:String}(hl:Ma (.type T) "__getitem__" = pure (some (.builtin id)))(hs:NoSl slice)(h:wpAny (model prog w) A (eval value env) (fun o s₁=>wpAny (model prog w) A (eval slice env) (fun i s₂=>s₂.TypeIs o T/\wpAny (model prog w) A (getItem o i) Q E s₂) E s₁) E s):
  wpAny (model prog w) A (eval (.Subscript value slice pos) env) Q E s:=by
 refine Rq (Bu h (fun o s₁ h₁=>Bu h₁ (fun i s₂ h₂=>?_) fun _ _ x=>x) fun _ _ x=>x);obtain⟨hT,h₂⟩:=h₂;refine Ac ?_;refine Ac (wpAny_specialOf hT hl ?_);have fin:wpAny (model prog w) A (Np slice false o i) (fun r s₃=>wpAny (model prog w) A (letTemporaryGo value o r >>= fun _=>pure r) Q E s₃) E s₂:=by
  rw[hs o i];exact wpAny_operating (Bu h₂ (fun r s₃ h₃=>Ac (wpAny_letTemporaryGo (Ak h₃))) fun _ _ x=>x)
 first
  |exact Ak (Ac fin)
  |exact Ac (Ak (Ac fin))
  |exact Ac fin
theorem z2v{σ:St}(I:Inv X pins σ H s)(g:DGet H a y o):s.TypeIs (.ref a) "dict" := by
 rcases g with⟨kvs,k,e,_,_⟩|⟨kvs,k,b,e,_,_,_⟩
 ·obtain⟨_,_,vs,_,dd⟩:=z7p I.hok e;exact dd.typeIs
 ·obtain⟨_,_,xs,_,dd⟩:=z7q I.hok e;exact dd.typeIs
def tDGet(td ty:TE):TE:=fun σ H Q=>td σ H fun x H1=>ty σ H1 fun y H2=>∃a v,x=.ref a/\DGet H2 a y (some v)/\Q v H2
def tDIn(ty td:TE):TE:=fun σ H Q=>ty σ H fun y H1=>td σ H1 fun x H2=>∃a o,x=.ref a/\DGet H2 a y o/\Q (.bl o.isSome) H2
def tDNotIn(ty td:TE):TE:=fun σ H Q=>ty σ H fun y H1=>td σ H1 fun x H2=>∃a o,x=.ref a/\DGet H2 a y o/\Q (.bl (!o.isSome)) H2
def sDPut(td ty tv:TE):TS:=fun D σ H=>tv σ H fun v H1=>td σ H1 fun x H2=>ty σ H2 fun y H3=>∃a H4,x=.ref a/\DPut H3 a y v H4/\D.nx σ H4
section
variable{X:Cx}{o i e value:Expr}{pos pos' tpos:Pos}{td ty tv:TE}
theorem x3j(hu:X.A.units+1<cLine)(ho:PE X o td)(hi:PE X i ty)(hs:NoSl i):PE X (.Subscript o i pos) (tDGet td ty):=by
 intro pins s σ H Q I h;refine z7t Md.lookup hs (thn (ho pins s σ H _ I h) fun u s1 ⟨x,H1,I1,rx,q1⟩=>thn (hi pins s1 σ H1 _ I1 q1) fun iv s2 ⟨y,H2,I2,ry,a,v,ex,g,q2⟩=>?_);subst ex;obtain rfl:u=Value.ref a:=rx;exact⟨z2v I2 g,z7r hu I2 g ry fun w' s3 I3 rw'=>⟨v,H2,I3,rw',q2⟩⟩
theorem pc_din(hu:X.A.units+1<cLine)(hi:PE X i ty)(ho:PE X o td):PC X .In i o (tDIn ty td):=by
 intro pins s σ H Q I h;refine thn (hi pins s σ H _ I h) fun iv s1 ⟨y,H1,I1,ry,q1⟩=>thn (ho pins s1 σ H1 _ I1 q1) fun u s2 ⟨x,H2,I2,rx,a,ov,ex,g,q2⟩=>?_;subst ex;obtain rfl:u=Value.ref a:=rx;exact d_in hu I2 g ry fun s3 I3=>⟨.bl ov.isSome,H2,I3,rfl,q2⟩
theorem z7u(hu:X.A.units+1<cLine)(hi:PE X i ty)(ho:PE X o td):PC X .NotIn i o (tDNotIn ty td):=by
 intro pins s σ H Q I h;refine thn (hi pins s σ H _ I h) fun iv s1 ⟨y,H1,I1,ry,q1⟩=>thn (ho pins s1 σ H1 _ I1 q1) fun u s2 ⟨x,H2,I2,rx,a,ov,ex,g,q2⟩=>?_;subst ex;obtain rfl:u=Value.ref a:=rx;exact x3i hu I2 g ry fun s3 I3=>⟨.bl (!ov.isSome),H2,I3,rfl,q2⟩
theorem q9h(hu:X.A.units+1<cLine)(ho:PE X o td)(hi:PE X i ty)(hv:PE X value tv)(hs:Nf value (some (.Subscript o i pos')) pos.line X.env=pure false):
  PS X (.Assign [.Subscript o i pos'] value pos) (sDPut td ty tv):=by
 intro pins s σ H D I h;refine wpAny_Assign_Subscript (thn (hv pins s σ H _ I h) fun r s1 ⟨v,H1,I1,rv,q1⟩=>thn (ho pins s1 σ H1 _ I1 q1) fun u s2 ⟨x,H2,I2,rx,q2⟩=>thn (hi pins s2 σ H2 _ I2 q2) fun iv s3 ⟨y,H3,I3,ry,a,H4,ex,g,q3⟩=>?_) hs;subst ex;obtain rfl:u=Value.ref a:=rx;exact z7s hu I3 g ry rv fun s4 I4=>⟨σ,H4,I4,q3⟩
end
theorem z4f(h:Heap)(hb:Ff<h.objs.size):ObjOk P w H (h.push { cls:=.type "dict",data:=.dict #[] }) h.objs.size (.dK []) :=
 ⟨Ax _,beq_eq_false_iff_ne.mpr (Dm (By hb)),[],.nil,Heap.DictOf.new h⟩
def tDNewK:TE:=fun _ H Q=>∀p,H p=none->Q (.ref p) (upd H p (.dK []))
section
variable{X:Cx}{pos:Pos}
theorem z4g:PE X (.Dict [] [] pos) tDNewK:=fun pins s σ H Q I h =>
 wpAny_Dict_empty ⟨.ref s.heap.objs.size,_,I.laid (t':=s.toks) (fun _ _ q=>Ae _ q) (Aj _) (z4f s.heap I.big),rfl,h _ (I.hok.fresh (Aj _))⟩
end
def tPairs:List (TE×TE)->St->Hp->(List (V×V)->Hp->Prop)->Prop
 |[],_,H,Q=>Q [] H
 |(tk,tv)::r,σ,H,Q=>tk σ H fun x H1=>tv σ H1 fun y H2=>tPairs r σ H2 fun ps H3=>Q ((x,y)::ps) H3
abbrev VV:List (V×V)->List (Value×Value)->Prop:=Gs fun p q=>RelV p.1 q.1/\RelV p.2 q.2
def PPs(X:Cx)(pos:Pos)(keys:List (Option Expr))(values:List Expr)(trs:List (TE×TE)):Prop :=
 ∀(pins:List (Addr×Obj)) (s:Ah) (σ:St) (H:Hp) (Q:List (V×V)->Hp->Prop),Inv X pins σ H s->tPairs trs σ H Q ->
  wpAny (model X.prog X.w) X.A (evalPairs (pairTrees keys values X.env pos)) (fun vs s'=>∃ps H',Inv X pins σ H' s'/\VV ps vs/\Q ps H') X.xe s
theorem x3k:PPs X pos [] [] []:=fun pins s σ H Q I h=>pairTrees_nil_walk ⟨[],H,I,.nil,h⟩
theorem x0g{X:Cx}{pos:Pos}{k v:Expr}{ks:List (Option Expr)}{vs:List Expr}{tk tv:TE}{trs:List (TE×TE)}(hk:PE X k tk)(hv:PE X v tv)(hr:PPs X pos ks vs trs):
  PPs X pos (some k::ks) (v::vs) ((tk,tv)::trs):=fun pins s σ H Q I h =>
 pairTrees_cons_walk (thn (hk pins s σ H _ I h) fun u s1 ⟨x,H1,I1,rx,q1⟩=>thn (hv pins s1 σ H1 _ I1 q1) fun w2 s2 ⟨y,H2,I2,ry,q2⟩ =>
  thn (hr pins s2 σ H2 _ I2 q2) fun ws s3 ⟨ps,H3,I3,rel,q3⟩=>⟨(x,y)::ps,H3,I3,.cons ⟨rx,ry⟩ rel,q3⟩)
def mergeK(kvs more:List (Key×V)):List (Key×V):=more.foldl (fun acc kv=>putK acc kv.1 kv.2) kvs
theorem KV.merge:∀{more:List (Key×V)} {rs:List (Key×Value)} {kvs:List (Key×V)} {vs:List (Key×Value)},KV more rs->KV kvs vs->KV (mergeK kvs more) (merged vs rs):=by
 intro more rs kvs vs r;induction r generalizing kvs vs with
 |nil=>intro q;exact q
 | @cons p q ps qs h t ih =>
  intro r0;have e:KV (putK kvs p.1 p.2) (stored vs q.1 q.2):=by
   have:=r0.put p.1 h.2;rw[<- h.1];exact this
  exact ih e
theorem q4y:∀(more kvs:List (Key×V)),(mergeK kvs more).length<=kvs.length+more.length
 |[],kvs=>by show kvs.length<=kvs.length+0;lia
 |p::r,kvs=>by
  have h1:=q4y r (putK kvs p.1 p.2);have h2:=q3i kvs p.1 p.2;show(mergeK (putK kvs p.1 p.2) r).length<=_;rw[Av];lia
theorem q8k:∀{kvs:List (Key×V)} {ws:List (Value×Value)},VV (kvs.map fun kv=>(kV kv.1,kv.2)) ws->∃rs,Carries (mixKind P w) ws rs/\KV kvs rs
 |[],_,r=>by rw[List.map_nil] at r;cases r;exact⟨[],True.intro,.nil⟩
 |p::kvs,_,r=>by
  rw[Bc] at r;cases r with
  | @cons a b as bs h t =>
   obtain⟨rs,c,q⟩:=q8k (P:=P) (w:=w) t;obtain⟨b1,b2⟩:=b;exact⟨(p.1,b2)::rs,⟨z2t h.1,rfl,c⟩,.cons ⟨rfl,h.2⟩ q⟩
def tDisp(trs:List (TE×TE)):TE:=fun σ H Q=>∀p,H p=none->tPairs trs σ (upd H p (.dK [])) fun ps H2=>H2 p=some (.dK [])/\∃kvs:List (Key×V),ps=kvs.map (fun kv=>(kV kv.1,kv.2))/\kvs.length<=15/\Q (.ref p) (upd H2 p (.dK (mergeK [] kvs)))
theorem x3l{X:Cx}{pos:Pos}{keys:List (Option Expr)}{values:List Expr}{trs:List (TE×TE)}(h:PPs X pos keys values trs)(hall:keys.all (·.isSome)=true)(hl:keys.length=values.length)(h0:keys≠[])(h15:keys.length<=15):PE X (.Dict keys values pos) (tDisp trs):=by
 intro pins s σ H Q I q;have hn:=I.hok.fresh (Aj s.heap.objs.size);have I1:=I.laid (h':=s.heap.push { cls:=.type "dict",data:=.dict #[] }) (t':=s.toks) (fun _ _ q=>Ae _ q) (Aj _) (z4f s.heap I.big);refine wpAny_Dict_walk (knd:=mixKind X.prog X.w) hall hl h0 h15 (thn (h pins _ σ _ _ I1 (q _ hn)) fun ws s2 ⟨ps,H2,I2,rel,e,kvs,ep,lk,q2⟩=>?_);subst ep;obtain⟨rs,c,rk⟩:=q8k rel;obtain⟨z,hd,vs0,r0,dd⟩:=dk_of I2.hok e;cases r0;refine⟨rs,c,dd,fun h' dd' hs=>⟨.ref s.heap.objs.size,_,?_,rfl,q2⟩⟩;have hz:(mergeK [] kvs).length<=sizeLine:=by
  have h1:=q4y kvs [];rw[Iv] at h1;rw[Fe];lia
 have he:∃q,h'.get? s.heap.objs.size=some q:=let ⟨q,_,_,hq,_⟩:=dd';⟨q,hq⟩;exact z2u I2 (by rw[e];exact True.intro) hs he (x1s hz hd (rk.merge .nil) dd')
end L2
namespace K
open PySem L2 TX
def FIs:Str:=Ab "0123456789"
def LEs:Str:=Ab "abcdefghijklmnopqrstuvwxyzABCDEFGHIJKLMNOPQRSTUVWXYZ"
abbrev FI:List Nat:=tl FIs
abbrev LE:List Nat:=tl LEs
def allOf(t s:List Nat):Bool:=decide (t≠[])&&t.all fun c=>decide (c∈s)
def gapTakes(c:Nat)(t:List Nat):Bool:=if c=63 then decide (t.length=1) else if c=35 then allOf t FI else if c=64 then allOf t LE else true
def Pt.takes:Pt->List Nat->Bool
 |.tx l,t=>decide (t=l)
 |.gp c,t=>gapTakes c t
def cut(n:List Nat)(b e:Nat):List Nat:=(n.drop b).take (e-b)
def farTo(p:Pt)(n:List Nat)(L:Nat->Bool)(b k:Nat):Option Nat:=((List.range' b k).filter fun e=>L e&&p.takes (cut n b e)).getLast?
def far(p:Pt)(n:List Nat)(L:Nat->Bool)(b:Nat):Option Nat:=if b<=n.length then farTo p n L b (n.length+1-b) else none
def fits(n:List Nat):List Pt->Nat->Bool
 |[],b=>decide (b=n.length)
 |p::ps,b=>(far p n (fits n ps) b).isSome
def rd(n:List Nat):List Pt->Nat->List (List Nat)
 |[],_=>[]
 |p::ps,b=>(if p.isG then[cut n b ((far p n (fits n ps) b).getD 0)] else[])++rd n ps ((far p n (fits n ps) b).getD 0)
theorem q8l(p:Pt)(n:List Nat)(L:Nat->Bool)(b k:Nat):farTo p n L b (k+1)=if (L (b+k)&&p.takes (cut n b (b+k)))=true then some (b+k) else farTo p n L b k:=by
 unfold farTo;rw[List.range'_concat,Ga];by_cases h:(L (b+k)&&p.takes (cut n b (b+k)))=true
 ·simp_all
 ·simp_all
theorem z5v(p:Pt)(n:List Nat)(L:Nat->Bool)(b:Nat):farTo p n L b 0=none:=rfl
theorem q8m:∀{k:Nat} {p:Pt} {n:List Nat} {L:Nat->Bool} {b e:Nat},farTo p n L b k=some e->b<=e/\e<b+k/\L e=true/\p.takes (cut n b e)=true/\∀e',e<e'->e'<b+k->(L e'&&p.takes (cut n b e'))=false
 |0,p,n,L,b,e,h=>by rw[z5v] at h;cases h
 |k+1,p,n,L,b,e,h=>by
  rw[q8l] at h;by_cases c:(L (b+k)&&p.takes (cut n b (b+k)))=true
  ·rw[if_pos c] at h;cases h;rw[Ib] at c;exact⟨by lia,by lia,c.1,c.2,fun e' h1 h2=>absurd h2 (by lia)⟩
  ·rw[if_neg c] at h;obtain⟨a1,a2,a3,a4,a5⟩:=q8m h;refine⟨a1,by lia,a3,a4,fun e' h1 h2=>?_⟩;by_cases z:e'=b+k
   ·grind
   ·grind
theorem z4h(h:far p n L b=some e):b<=e/\e<=n.length/\L e=true/\p.takes (cut n b e)=true/\∀e',e<e'->e'<=n.length->(L e'&&p.takes (cut n b e'))=false:=by
 unfold far at h;by_cases hb:b<=n.length
 ·rw[if_pos hb] at h;obtain⟨a1,a2,a3,a4,a5⟩:=q8m h;exact⟨a1,by lia,a3,a4,fun e' h1 h2=>a5 e' h1 (by lia)⟩
 ·grind
def gsOf:List Pt->List Nat
 |[]=>[]
 |.gp c::ps=>c::gsOf ps
 |.tx _::ps=>gsOf ps
def glue:List Pt->List (List Nat)->List Nat
 |[],_=>[]
 |.tx l::ps,ts=>l++glue ps ts
 |.gp _::ps,[]=>glue ps []
 |.gp _::ps,t::ts=>t++glue ps ts
theorem z4i(h:b<=e):cut n b e++n.drop e=n.drop b:=by
 unfold cut;have:n.drop e=(n.drop b).drop (e-b):=by simp_all
 rw[this,Ht]
theorem x1t(n:List Nat):∀(ps:List Pt) (b:Nat),fits n ps b=true->(rd n ps b).length=(gsOf ps).length/\(∀(i c:Nat) (t:List Nat),(gsOf ps)[i]?=some c->(rd n ps b)[i]?=some t->gapTakes c t=true)/\glue ps (rd n ps b)=n.drop b/\∀t∈rd n ps b,t.length<=n.length
 |[],b,h=>by
  have hb:b=n.length:=of_decide_eq_true h;refine⟨rfl,fun i c t h=>by simp[gsOf] at h,?_,fun t ht=>by simp[rd] at ht⟩;subst hb;simp[glue]
 |p::ps,b,h=>by
  have h':(far p n (fits n ps) b).isSome=true:=h;cases hf:far p n (fits n ps) b with
  |none=>grind
  |some e =>
   obtain⟨a1,a2,a3,a4,_⟩:=z4h hf;obtain⟨i1,i2,i3,i4⟩:=x1t n ps e a3;cases p with
   |tx l =>
    have e1:rd n (.tx l::ps) b=rd n ps e:=by simp[rd,Pt.isG,hf]
    have e2:=of_decide_eq_true a4;rw[e1];refine⟨i1,i2,?_,i4⟩;show l++glue ps (rd n ps e)=_;rw[i3,<- e2,z4i a1]
   |gp c =>
    have e1:rd n (.gp c::ps) b=cut n b e::rd n ps e:=by simp[rd,Pt.isG,hf]
    rw[e1];refine⟨by simp[gsOf,i1],fun i d t h1 h2=>?_,?_,fun t ht=>?_⟩
    ·cases i with
     |zero =>
      simp[gsOf] at h1 h2;subst h1 h2;exact a4
     |succ i=>exact i2 i d t (by simpa[gsOf] using h1) (by simpa using h2)
    ·show cut n b e++glue ps (rd n ps e)=_;rw[i3,z4i a1]
    ·rcases Ap.mp ht with rfl|ht
     ·unfold cut;rw[Bt,Cf];lia
     ·exact i4 t ht
theorem allOf_iff:allOf t s=true↔t≠[]/\∀c∈t,c∈s:=by
 unfold allOf;simp
theorem q4z:∀(l cur:List Nat),(∀c∈cur,c∈NS)->(∀c∈l,c∈GS\/c∈NS)->∀p∈parse cur l,p.ok
 |[],cur,h1,_=>fun p hp=>by
  have hp':p∈tp cur:=hp;unfold tp at hp';split at hp'
  ·cases hp'
  ·rename_i hne;rw[Al.mp hp'];exact⟨hne,h1⟩
 |c::r,cur,h1,h2=>fun p hp=>by
  have e:parse cur (c::r)=if c∈GS then tp cur++.gp c::parse [] r else parse (cur++[c]) r:=rfl
  rw[e] at hp;have h3:=fun d hd=>h2 d (Am _ hd);split at hp
  ·rename_i hc;rcases Az.mp hp with z|z
   ·unfold tp at z;split at z
    ·cases z
    ·rename_i hne;rw[Al.mp z];exact⟨hne,h1⟩
   ·rcases Ap.mp z with rfl|z
    ·exact hc
    ·exact q4z r [] (fun _ h=>nomatch h) h3 p z
  ·rename_i hc;refine q4z r (cur++[c]) (fun d hd=>?_) h3 p hp;rcases Az.mp hd with z|z
   ·exact h1 d z
   ·grind
theorem x1u:∀(l cur:List Nat),(cur≠[]\/l≠[])->parse cur l≠[]
 |[],cur,h=>by
  have h1:cur≠[]:=h.resolve_right (fun z=>z rfl);show tp cur≠[];unfold tp;rw[if_neg h1];simp
 |c::r,cur,h=>by
  have e:parse cur (c::r)=if c∈GS then tp cur++.gp c::parse [] r else parse (cur++[c]) r:=rfl
  rw[e];split
  ·simp
  ·exact x1u r _ (.inl (by simp))
theorem q5q:∀(l cur:List Nat),(parse cur l).length<=2*l.length+1
 |[],cur=>by show(tp cur).length<=_;unfold tp;split<;>simp
 |c::r,cur=>by
  have e:parse cur (c::r)=if c∈GS then tp cur++.gp c::parse [] r else parse (cur++[c]) r:=rfl
  rw[e];have h0:(tp cur).length<=1:=by unfold tp;split<;>simp
  split
  ·have:=q5q r [];rw[Ad,Av,Av];lia
  ·have:=q5q r (cur++[c]);rw[Av];lia
structure DF (H:Hp) (a:Addr) (f:Nat->Option Nat):Prop where
 ex:∃kvs:List (Key×V),H a=some (.dK kvs)/\kvs.length<=5000/\∀b:Nat,valV kvs (Sum.inl (b:Int))=(f b).map fun e=>V.int (e:Nat)
theorem DF.same(h:DF H a f)(sm:Same H H'):DF H' a f:=let ⟨kvs,h1,h2,h3⟩:=h.ex;⟨kvs,sm _ _ h1,h2,h3⟩
theorem DF.get(h:DF H a f)(b:Nat):DGet H a (.int (b:Int)) ((f b).map fun e=>V.int (e:Nat)):=by
 obtain⟨kvs,h1,h2,h3⟩:=h.ex;have:=DGet.k (k:=Sum.inl (b:Int)) h1;rw[h3] at this;exact this
theorem DF.new(h:DF H a f)(hb:H b=none):DF (upd H b o) a f:=h.same ((Same.refl H).new hb)
theorem key_inj{i j:Nat}:((Sum.inl (i:Int):Key)=Sum.inl (j:Int))↔i=j:=by grind
inductive DS (H:Hp) (n:List Nat):List Addr->List Pt->Prop
 |nil:DS H n [] []
 |cons {d:Addr} {p:Pt} {ds:List Addr} {ps:List Pt}:DF H d (far p n (fits n ps))->DS H n ds ps->DS H n (d::ds) (p::ps)
theorem DS.same(h:DS H n ds ps)(sm:Same H H'):DS H' n ds ps:=by
 induction h with
 |nil=>exact .nil
 |cons a _ ih=>exact .cons (a.same sm) ih
theorem DS.keepL(h:DS H n ds ps)(k:∀b kvs,H b=some (.dK kvs)->H' b=some (.dK kvs)):DS H' n ds ps:=by
 induction h with
 |nil=>exact .nil
 |cons a _ ih=>obtain⟨kvs,a1,a2,a3⟩:=a.ex;exact .cons ⟨kvs,k _ _ a1,a2,a3⟩ ih
theorem DS.len(h:DS H n ds ps):ds.length=ps.length:=by
 induction h with
 |nil=>rfl
 |cons _ _ ih=>simp[ih]
theorem DS.get(h:DS H n ds ps):∀{i:Nat} {d:Addr},ds[i]?=some d->∃p,ps[i]?=some p/\DF H d (far p n (fits n (ps.drop (i+1)))):=by
 induction h with
 |nil=>simp_all
 | @cons d0 p ds ps a _ ih =>
  intro i d h;cases i with
  |zero=>simp_all
  |succ i =>simp_all
theorem x1v{kvs:List (Key×V)}{b e:Nat}{f:Nat->Option Nat}(h:∀c:Nat,valV kvs (Sum.inl (c:Int))=(f c).map fun e=>V.int (e:Nat))(c:Nat):
  valV (putK kvs (Sum.inl (b:Int)) (.int (e:Int))) (Sum.inl (c:Int))=((fun c=>if c=b then some e else f c) c).map fun e=>V.int (e:Nat):=by
 rw[x0f];by_cases z:c=b
 ·grind
 ·rw[if_neg (fun h=>z (key_inj.mp h)),h];show _=Option.map _ (if c=b then _ else _);rw[if_neg z]
abbrev vN(ns:List (List Nat)):List V:=ns.map fun n=>V.str (mk n)
theorem q0n(l:List Nat):(mk l).length=l.length:=by rw[len,q0z]
theorem mk_inj:mk a=mk b↔a=b:=by grind
theorem dec_str(a b:List Nat):decide (V.str (mk a)=V.str (mk b))=decide (a=b):=by simp_all
theorem q5a{α:Type}{l:List α}{x:α}(h:l[i]?=some x):l.drop i=x::l.drop (i+1):=by
 have hi:=(Ai.mp h).1;rw[Iw hi];congr 1;exact(Ai.mp h).2
end K
namespace PySem.Rv
open Sem (wp)
namespace F
theorem q6c:mroOf (.type "reversed")=pure [.type "reversed",.type "object"]:=by rw[mroOf_type];kernel_rfl
theorem q4o:Ma (.type "reversed") "__new__" = pure (some (.builtin "reversed.__new__")):=by rw[Ko,Hu];kernel_rfl
theorem q5b:Slot "reversed" "__init__" "object.__init__" :=
 .of (owner := "object") (n := "__init__") (by rw[Ko,Hu];kernel_rfl) (by decide +kernel) (by decide +kernel) (by decide +kernel)
  (by first|exact .inl (by rw[Il];kernel_rfl)|exact .inr (by rw[Il];kernel_rfl)) (by rw[Hv];kernel_rfl)
theorem called_reversed:TypeCalled "reversed" "reversed.__new__" "object.__init__" :=
 ⟨by decide +kernel,by decide +kernel,⟨_,_,q6c⟩,madeBy_type q6c q4o (by decide +kernel),by decide +kernel,by rw[Hv];kernel_rfl,q5b⟩
theorem typeCall_reversed_1(a:Value):checkTypeCall "reversed" ⟨[a],[]⟩=pure ():=by kernel_rfl
theorem newCall_reversed_1(a:Value):Jx "reversed.__new__" ⟨[.type "reversed",a],[]⟩=pure ():=by kernel_rfl
theorem entry_reversed_new:Rl table "reversed.__new__" = some Eo.«reversed.__new__» := entryFor_of_tree (by kernel_rfl)
theorem slot_lrev_next:Slot "list_reverseiterator" "__next__" "list_reverseiterator.__next__" :=
 .of (owner := "list_reverseiterator") (n := "__next__") (by rw[Ko,Hu];kernel_rfl) (by decide +kernel) (by decide +kernel) (by decide +kernel)
  (by first|exact .inl (by rw[Il];kernel_rfl)|exact .inr (by rw[Il];kernel_rfl)) (by rw[Hv];kernel_rfl)
theorem entry_lrev_next:Rl table "list_reverseiterator.__next__" = some Eo.«list_reverseiterator.__next__» := entryFor_of_tree (by kernel_rfl)
theorem slot_lrev_iter:Slot "list_reverseiterator" "__iter__" "list_reverseiterator.__iter__" :=
 .of (owner := "list_reverseiterator") (n := "__iter__") (by rw[Ko,Hu];kernel_rfl) (by decide +kernel) (by decide +kernel) (by decide +kernel)
  (by first|exact .inl (by rw[Il];kernel_rfl)|exact .inr (by rw[Il];kernel_rfl)) (by rw[Hv];kernel_rfl)
theorem entry_lrev_iter:Rl table "list_reverseiterator.__iter__" = some Eo.«dict_keyiterator.__iter__» :=
 entryFor_alias (id' := "dict_keyiterator.__iter__") (by kernel_rfl) (by first|rfl|decide +kernel|(unfold String.splitOn;simp +decide [String.splitOnAux])) (by decide +kernel) (by kernel_rfl)
theorem q8n:Manifest.owners.lookup (String.ofList ['r', 'o', 't', 'a', 'r', 'e', 't', 'i', 'e', 's', 'r', 'e', 'v', 'e', 'r', '_', 't', 's', 'i', 'l'].reverse)=some Manifest.sig_list_reverseiterator:=by kernel_rfl
theorem args_lrev_next_1(a:Value):argsOk "list_reverseiterator.__next__" ⟨[a],[]⟩:=by
 unfold argsOk;rw[signature?_of (n:=['_', '_', 't', 'x', 'e', 'n', '_', '_']) (by kernel_rfl) q8n];kernel_rfl
theorem args_lrev_iter_1(a:Value):argsOk "list_reverseiterator.__iter__" ⟨[a],[]⟩:=by
 unfold argsOk;rw[signature?_of (n:=['_', '_', 'r', 'e', 't', 'i', '_', '_']) (by kernel_rfl) q8n];kernel_rfl
theorem sub_reversed:isSubtype (.type "reversed") (.type "reversed")=pure true:=by rw[Hv];kernel_rfl
theorem sub_lrev:isSubtype (.type "list_reverseiterator") (.type "reversed")=pure false:=by rw[Hv];kernel_rfl
end F
open Sem (wp)
def IsRevIter(h:Heap)(it l:Addr)(k:Int):Prop:=∃o,h.get? it=some o/\o.cls=.type "list_reverseiterator" /\ o.data=.fields #[.ref l,.int k 0]
section
variable{prog:Program}{w:World}{A:Around}{E:Value->Ah->Prop}{s:Ah}
theorem wpAny_pyNext_rev_item{k:Nat}{items}(hit:IsRevIter s.heap it l k)(hl:s.heap.IsList l items)(hx:items[k]?=some x)(hQ:∀h',IsRevIter h' it l ((k:Int)-1)->Hq it s.heap h'->Q (some x) { s with heap:=h' }):wpAny (model prog w) A (Kh (.ref it)) Q E s:=by
 obtain⟨o,ho,hc,hd⟩:=id hit;obtain⟨ol,hol,_,nl,hdl⟩:=hl;have hT:s.TypeIs (.ref it) "list_reverseiterator" := ⟨o,ho,hc⟩
 refine Ac (Fs (Dl hT F.slot_lrev_next
  (Ej F.slot_lrev_next hT F.entry_lrev_next ?_ (F.args_lrev_next_1 _))))
 show wpAny _ _ (field (.ref it) 1 >>= _) _ _ s;refine Ac (Bv ho hd rfl ?_);refine Ac (Bv ho hd rfl ?_);refine Ac (Gr hol hdl ?_);simp only[Int.toNat_natCast,hx];refine Ac (Ji ho hd (by simp) (Ak ⟨x,rfl,Ak (hQ _ ?_ (Hq.update ..))⟩));exact⟨_,Eh _ ho (Kc (Gb hd _)),(Obj.cls_mapFields ..).trans hc,by
  rw[Gb hd];simp[Fh]⟩
theorem wpAny_pyNext_rev_end(hh:A.handled=none)(hit:IsRevIter s.heap it l k)(hk:k<0)(hQ:∀h',Heap.ExtBut it s.heap h'->Q none { s with heap:=h' }):wpAny (model prog w) A (Kh (.ref it)) Q E s:=by
 obtain⟨o,ho,hc,hd⟩:=id hit;have hT:s.TypeIs (.ref it) "list_reverseiterator" := ⟨o,ho,hc⟩
 refine Ac (Fs (Dl hT F.slot_lrev_next
  (Ej F.slot_lrev_next hT F.entry_lrev_next ?_ (F.args_lrev_next_1 _))))
 show wpAny _ _ (field (.ref it) 1 >>= _) _ _ s;refine Ac (Bv ho hd rfl ?_);show wpAny _ _ (if (k<0) then _ else _) _ _ s;rw[if_pos hk];refine Ac (Jh (Ac ?_));refine Ac ?_;refine Ac (Dq ?_ (by size_fits));refine Ac (Ju (by first|rfl|(simp only[firstArgMember];rfl)) ?_);refine Dq ?_ (by size_fits);refine Ac (wpAny_handled ?_);rw[show A.in1.handled=none from hh];refine Ac (Ak (wpAny_throw ?_));refine Ac (Ms ⟨_,Bb _ rfl,rfl⟩ Oc ?_);exact Ak (hQ _ (fun b o _ e=>Ae _ (Ae _ e)))
theorem wpAny_pyIter_rev(hit:IsRevIter s.heap it l k)(h:Q (.ref it) s):wpAny (model prog w) A (Jr (.ref it)) Q E s:=by
 obtain⟨o,ho,hc,hd⟩:=id hit;have hT:s.TypeIs (.ref it) "list_reverseiterator" := ⟨o,ho,hc⟩
 refine wpAny_pyIter_slot hT F.slot_lrev_iter (Ej F.slot_lrev_iter hT F.entry_lrev_iter ?_ (F.args_lrev_iter_1 _));exact Ak ⟨_,rfl, "list_reverseiterator",_,hT,F.slot_lrev_next.lookup,h⟩
theorem q4p(l:Addr)(items:Array Value)(n:Nat):
  Meets (Eo.«reversed.__new__» ⟨[.type "reversed",.ref l],[]⟩) (fun _ R s=>s.heap.get? l=some { cls:=.type "list",dict:=none,data:=.seq items n,slots:=#[] } /\
   R (.ok (.ret (.ref s.heap.objs.size))) { s with heap:=s.heap.push { cls:=.type "list_reverseiterator",data:=.fields #[.ref l,Fh (((items.size:Nat):Int)-1)] } }) :=
 .of_wp fun prog w A R s h=>by
  obtain⟨hp,g,d,tk,os⟩:=s;obtain⟨hl,h⟩:=h;have hT:Ah.TypeIs ⟨hp,g,d,tk,os⟩ (.ref l) "list" := ⟨_,hl,rfl⟩
  wp_walk
  refine Ju F.sub_reversed ?_
  wp_walk
  refine Ju Ig.lookup ?_
  wp_walk
  refine Ju (Ig.bind (Value.ref l)) ?_
  wp_walk
  have key:Fx (model prog w) A.in1 (Code.call (.builtin "list.__reversed__") ⟨[.ref l],[]⟩) (fun r s'=>r=.ok (.ret (.ref hp.objs.size))/\s'=(⟨hp.push { cls:=.type "list_reverseiterator",data:=.fields #[.ref l,Fh (((items.size:Nat):Int)-1)] },g,d,tk,os⟩:Ah)) ⟨hp,g,d,tk,os⟩ :=
   El Ig.plain F.entry_list_reversed (Ig.check _ _ _ _ _ _ _ _ hT (F.args_list_reversed_1 _) (AutoListH.list___reversed___list_0 l items n prog w A.in1 (fun r s'=>r=.ok (.ret (.ref hp.objs.size))/\s'=(⟨hp.push { cls:=.type "list_reverseiterator",data:=.fields #[.ref l,Fh (((items.size:Nat):Int)-1)] },g,d,tk,os⟩:Ah)) ⟨hp,g,d,tk,os⟩ ⟨hl,rfl,rfl⟩))
  refine Gw key fun r s' hr=>?_;obtain⟨rfl,rfl⟩:=hr;exact Ak ⟨_,rfl,h⟩
theorem q7y(ft:TypeCalled T newId initId)(hsubU:isSubtype (.type U) (.type T)=pure false)(hct:checkTypeCall T ⟨args,[]⟩=pure ())(hcn:Jx newId ⟨.type T::args,[]⟩=pure ())(entryN:Rl table newId=some Bn)(g:Meets (Bn ⟨.type T::args,[]⟩) S)(h:S A.in1 (wants (fun obj s₁=>s₁.TypeIs obj U/\Q obj s₁) E) s):wpAny (model prog w) A (call (.type T) args) Q E s:=by
 obtain⟨c,tl,hmro⟩:=ft.mro;have hmade:=ft.made;refine Fi (Kp ?_);refine Ak ⟨Hj _ (by decide +kernel),codeAny_builtin F.entry_type_call ?_⟩;have h1:=ft.notType;have h2:=ft.canCreate;repeat (any_goals (first|assumption|wp_step))
 refine Gw (El ft.plain entryN (Ju hcn (g prog w A.in1 _ s h))) fun r s₁ hr=>?_;cases r with
 |error e=>exact hr
 |ok fl =>
  cases fl with
  |ret obj =>
   obtain⟨hT,hq⟩:=hr;repeat (any_goals (first|assumption|wp_step))
  |_=>exact hr.elim
theorem call_reversed_list(hl:s.heap.get? l=some { cls:=.type "list",dict:=none,data:=.seq items n,slots:=#[] })(h:Q (.ref s.heap.objs.size) { s with heap:=s.heap.push { cls:=.type "list_reverseiterator",data:=.fields #[.ref l,Fh (((items.size:Nat):Int)-1)] } }):
  wpAny (model prog w) A (call (.type "reversed") [.ref l]) Q E s :=
 q7y F.called_reversed F.sub_lrev (F.typeCall_reversed_1 _) (F.newCall_reversed_1 _) F.entry_reversed_new (q4p l items n) ⟨hl,⟨_,Bb _ rfl,rfl⟩,h⟩
end
end PySem.Rv
namespace L2
open PySem PySem.Spec PyProof.Rows
def Itv(K:Af)(a:Addr)(n:Nat):It :=
 ⟨fun i H=>∃xs x,SqL K H a xs/\xs.length=n/\xs.reverse[i]?=some x,fun i H x H'=>H'=H/\∀xs,SqL K H a xs->xs.reverse[i]?=some x,fun i _=>n<=i⟩
theorem z5w(x:PySem.Rv.IsRevIter h it l k)(e:∀o,h.get? it=some o->h'.get? it=some o):PySem.Rv.IsRevIter h' it l k:=let ⟨o,ho,r⟩:=x;⟨o,e _ ho,r⟩
theorem x0h{K:Af}(a it:Addr)(n:Nat):Turn P w K tg (Itv K a n) [it] it (fun i h=>PySem.Rv.IsRevIter h it a ((n:Int)-1-i)) where
 mem:=by simp
 obj:=fun i h st b hb=>by
  have e:b=it:=by grind
  subst e;obtain⟨o,e,c,d⟩:=st;exact⟨o,e,fun v z=>by rw[d] at z;cases z⟩
 keep:=fun i h h' st k=>z5w st fun o e=>k it (by simp) o e
 item:=by
  intro X hP hw hK hc i pins s σ H E I hf st hg;subst hP hw hK;obtain⟨xs,x,hq,hn,hx⟩:=hg;obtain⟨its,rv,p,hz⟩:=I.list hq;have hi:i<xs.length:=by have:=(Ai.mp hx).1;simpa using this
  have hx':xs[xs.length-1-i]?=some x:=by grind
  obtain⟨u,hu,ru⟩:=rv.get hx';obtain⟨f0,f1,f2,f3,f4,f5⟩:=hf it (by simp);have est:((n:Int)-1-(i:Int))=((xs.length-1-i:Nat):Int):=by lia
  have st1:PySem.Rv.IsRevIter s.heap it a ((xs.length-1-i:Nat):Int):=by simp_all
  refine PySem.Rv.wpAny_pyNext_rev_item st1 p.isList (by simpa using hu) fun h' st' sb=>?_;have I1:Inv X pins σ H { s with heap:=h' }:=I.turned (t':=s.toks) (fun b o hb e=>(sb.2 b hb).trans e) f0 f1 f3 f4 f5;obtain⟨o,e,c,d⟩:=id st';refine⟨u,rfl,z5g e c d (by decide) ⟨x,H,I1,ru,⟨rfl,fun ys hy=>by rw[I.list_inj hy hq];exact hx⟩,?_,fun b hb=>(hf b hb).1⟩⟩;have e2:((n:Int)-1-((i+1:Nat):Int))=((xs.length-1-i:Nat):Int)-1:=by lia
  rw[e2];exact st'
 done:=by
  intro X hP hw hK hc i pins s σ H E I hf st hg;obtain⟨f0,f1,f2,f3,f4,f5⟩:=hf it (by simp);have hle:n<=i:=hg;exact PySem.Rv.wpAny_pyNext_rev_end (I.ok.hd hc) st (by lia) fun h' eb=>⟨rfl,I.turned (t':=s.toks) (fun b o hb e=>eb b o hb e) f0 f1 f3 f4 f5⟩
 self:=fun _ _ _ _ _ st h=>PySem.Rv.wpAny_pyIter_rev st h
section
variable{X:Cx}{tg:Expr}
def iRev(K:Af)(ta:TA):TI:=fun σ H R=>ta σ H fun vs H1=>∃a xs,vs=[.ref a]/\H1 a=some (.lst xs)/\R (Itv K a xs.length) H1
theorem pi_rev(hg:Gl X "reversed")(hm:X.mg "reversed" = none)(ha:PA X [a] ta)(hs:Bd [a] X.env=[(false,eval a X.env)]:=by rfl):
  PI X tg (.Call (.Name "reversed" p) [a] [] pos) (iRev X.K ta):=by
 intro pins s σ H R I h;refine Call_ (q4u I hg hm (by decide +kernel:Fg "reversed" = some (.type "reversed")) (Dk (thn (ha pos pins s σ H _ I h) fun us s1 ⟨vs,H1,I1,r1,q1⟩=>?_) hs rfl));obtain⟨l,xs,e,hq,q⟩:=q1;subst e;obtain⟨u,rfl,r⟩:=vals1 r1;cases r;obtain⟨z,its,n,rv,hl,e⟩:=I1.lstM hq;refine PySem.Rv.call_reversed_list e ?_;have hit:PySem.Rv.IsRevIter (s1.heap.push { cls:=.type "list_reverseiterator",data:=.fields #[.ref l,Fh (((its.toArray.size:Nat):Int)-1)] }) s1.heap.objs.size l ((xs.length:Int)-1-((0:Nat):Int)):=by
  refine⟨_,Bb _ rfl,rfl,?_⟩;rw[Ba,<- hl];simp[Fh]
 refine PySem.Rv.wpAny_pyIter_rev hit ?_;refine⟨s1.heap.objs.size,[s1.heap.objs.size],_,_,H1,rfl,I1.kept (t':=s1.toks) fun b o e=>Ae _ e,x0h l _ xs.length,hit,fun b hb=>?_,q⟩;have e:b=s1.heap.objs.size:=by grind
 subst e;exact I1.fpOk (Aj _) (I1.hok.fresh (Aj _))
theorem rev_k{a:Expr}{ta:TA}{p pos:Pos}(K:Af)(hK:X.K=K)(hg:Gl X "reversed")(hm:X.mg "reversed" = none)(ha:PA X [a] ta)(hs:Bd [a] X.env=[(false,eval a X.env)]:=by rfl):
  PI X tg (.Call (.Name "reversed" p) [a] [] pos) (iRev K ta):=by subst hK;exact pi_rev hg hm ha hs
theorem x3m{K:Ki}{g:TG}{tb:TS}{D:Ends}(Pv:Nat->St->Hp->Prop)(h0:Pv 0 σ H)(hl:∀i σ H,Pv i σ H->SqL K H a xs)(hs:∀i x σ H,xs.reverse[i]?=some x->Pv i σ H->g x σ H fun σ2 H2=>tb { D with nx:=Pv (i+1),ct:=Pv (i+1),bk:=D.nx } σ2 H2)(hd:∀σ H,Pv xs.length σ H->D.nx σ H):
  ∃W:Nat->Nat->St->Hp->Prop,(∃m,W 0 m σ H)/\∀i m σ H,W i m σ H ->
   ((Itv K a xs.length).stop i H/\D.nx σ H)\/((Itv K a xs.length).go i H/\∃N:St->Hp->Prop,(∀σ' H',N σ' H'->∃m',m'<m/\W (i+1) m' σ' H')/\∀x H',(Itv K a xs.length).yld i H x H'->g x σ H' fun σ2 H2=>tb { D with nx:=N,ct:=N,bk:=D.nx } σ2 H2):=by
 refine z7k Pv h0 (fun i σ H h p=>⟨xs,xs.reverse[i]'(by simpa using h),hl i σ H p,rfl,Aw _⟩) (fun σ H _=>Aj _) (fun i v σ H H' h p yl=>?_) hd;obtain⟨rfl,y⟩:=yl;exact hs i v σ _ (y xs (hl i σ _ p)) p
end
end L2
namespace K
open PySem L2 TX
theorem q5c(l:Option Int)(len:Nat)(h:(len:Int)<=j):Hy l (some j) 1 len=Hy l (some (len:Int)) 1 len:=by
 have a:¬(j<0):=by lia
 have b:¬((len:Int)<0):=by lia
 have c:min j (len:Int)=(len:Int):=by lia
 simp[Hy,a,b,c]
theorem q3y{l:List Nat}(h1:i<=j)(h2:i<=l.length):Kq (mk l) (some (i:Int)) (some (j:Int))=mk ((l.drop i).take (j-i)):=by
 have hlen:(mk l).cps.toList=l:=q0z l;by_cases h:j<=l.length
 ·show Dh (mk l) (some (i:Int)) (some (j:Int))=_;rw[Od (mk l) h1 (by rw[q0n];exact h),hlen]
 ·have e:Dh (mk l) (some (i:Int)) (some (j:Int))=Dh (mk l) (some (i:Int)) (some (((mk l).length:Nat):Int)):=by
   unfold Dh;rw[q5c (some (i:Int)) (mk l).length (by rw[q0n];lia)]
  show Dh (mk l) (some (i:Int)) (some (j:Int))=_;rw[e,Od (mk l) (by rw[q0n];exact h2) (Aj _),hlen,q0n];rw[Ce (by rw[Cf];lia),Ce (by rw[Cf];lia)]
end K
namespace L2
open PySem PySem.Spec PyProof.Rows
section
variable{X:Cx}
theorem z7v:CallR X (.type "int") (fun xs H Q=>∃x n,xs=[.str x]/\Jj x=some n/\x.length<=640/\Q (.int n) H):=by
 intro pins s σ H xs us Q I r h;obtain⟨x,n,rfl,h1,h2,q⟩:=h;obtain⟨u,rfl,t,rfl⟩:=vals1 r;exact W.KIN.call_text h1 h2 ⟨.int n,H,I.tok _,⟨_,rfl⟩,q⟩
theorem q2a:CallR X (.type "int") (fun xs H Q=>((∃i,xs=[.int i]/\Q (.int i) H)\/∃k,xs=[.bl k]/\Q (.int (if k then 1 else 0)) H)\/∃x n,xs=[.str x]/\Jj x=some n/\x.length<=640/\Q (.int n) H):=call_int1.or z7v
end
end L2
namespace K
open PySem L2 TX
def dg(m:Nat):List Nat:=tl (Ab (toString (m:Int)))
theorem z1j(m:Nat):Ab (toString (m:Int))=mk (dg m):=(z2s _).symm
theorem x0i(m:Nat):dg m=(Nat.toDigits 10 m).map Char.toNat:=W.KIN.signs_num m
theorem q2j(h:m<10):dg m=[48+m]:=by
 rw[x0i,Nat.toDigits_of_lt_base h];exact(by decide:∀m:Nat,m<10->[Nat.digitChar m].map Char.toNat=[48+m]) m h
theorem q9i(h:10<=m):dg m=dg (m / 10)++[48+m%10]:=by
 have hm:m%10<10:=Nat.mod_lt m (by decide);have t:Nat.toDigits 10 (m / 10)++Nat.toDigits 10 (m%10)=Nat.toDigits 10 (10*(m / 10)+m%10):=Nat.toDigits_append_toDigits (by decide) (by lia) hm;rw[Nat.div_add_mod] at t;rw[x0i,x0i,<- t,Bf];congr 1;exact(x0i (m%10)).symm.trans (q2j hm)
theorem z4j(m:Nat):∀c∈dg m,c∈FI:=by
 have hf:∀d:Nat,d<10->48+d∈FI:=by decide +kernel
 induction m using Nat.strongRecOn with
 |_ m ih =>
  by_cases h:m<10
  ·rw[q2j h];intro c hc;rw[Al.mp hc];exact hf m h
  ·rw[q9i (by lia)];intro c hc;rcases Az.mp hc with z|z
   ·grind
   ·rw[Al.mp z];exact hf _ (Nat.mod_lt m (by decide))
theorem z2w(m:Nat):∃d r,dg m=(48+d)::r/\d<10/\(d=0->m=0/\r=[]):=by
 induction m using Nat.strongRecOn with
 |_ m ih =>
  by_cases h:m<10
  ·exact⟨m,[],q2j h,h,fun z=>⟨z,rfl⟩⟩
  ·obtain⟨d,r,h1,h2,h3⟩:=ih (m / 10) (by lia);refine⟨d,r++[48+m%10],by rw[q9i (by lia),h1];rfl,h2,fun z=>?_⟩;have:=(h3 z).1;lia
theorem q3z:∀(k m:Nat),m<10^(k+1)->(dg m).length<=k+1
 |0,m,h=>by rw[q2j (by simpa using h)];exact Aj _
 |k+1,m,h=>by
  by_cases hz:m<10
  ·rw[q2j hz];simp
  ·rw[q9i (by lia),Ad,Bg];have:=q3z k (m / 10) (by rw[Jd] at h;lia);lia
theorem dg_pos(m:Nat):1<=(dg m).length:=by obtain⟨d,r,h,_⟩:=z2w m;rw[h];simp
theorem z2x(h:m<10^10):Jj (mk (dg m))=some (m:Int):=by
 exact W.KIN.num_reads (by lia) (by lia)
end K
namespace L2
open PySem PySem.Spec PyProof.Rows
structure KDict (P:Program) (w:World) (K:Af) (d:Addr) (kvs:List (Key×V)):Prop where
 ex:∃ob vs,K.lookup d=some ob/\KV kvs vs/\∀h:Heap,h.get? d=some ob->h.DictOf (mixKind P w) d vs
def tKGet(kvs:List (Key×V))(ty:TE):TE:=fun σ H Q=>ty σ H fun y H1=>∃k v,y=kV k/\valV kvs k=some v/\Q v H1
theorem z7w{X:Cx}{x:Str}{d:Addr}{kvs:List (Key×V)}{i:Expr}{ty:TE}{p pos:Pos}(hg:Gl X x)(hm:X.mg x=some (.ref d))(D:KDict X.prog X.w X.K d kvs)(hi:PE X i ty)(hs:NoSl i)(hdb:(x==("__debug__" : Str))=false:=by decide):
  PE X (.Subscript (.Name x p) i pos) (tKGet kvs ty):=by
 intro pins s σ H Q I h;refine z7t Md.lookup hs (q3g I hg hm (thn (hi pins s σ H _ I h) fun iv s2 ⟨y,H2,I2,ry,k,v,ey,l,q2⟩=>?_) hdb);subst ey;obtain⟨ob,vs,hk,rel,hd⟩:=D.ex;have dd:=hd _ (I2.kIn d ob hk);obtain⟨w',hw,rw'⟩:=RelO.some_of (by rw[<- l];exact rel.val k);exact⟨dd.typeIs,wpAny_getItem_of (z2t ry) dd.mapOf hw ⟨v,H2,I2.tok _,rw',q2⟩⟩
section
variable{X:Cx}
theorem x0j:PGet X (rIxL X.K):=by
 intro pins s σ H x y v u Q I rx ry h;obtain⟨p,xs,i,z,rfl,rfl,hq,he,q⟩:=h;cases rx;obtain⟨t,rfl⟩:=ry;obtain⟨its,r,pl,hz⟩:=I.list hq;obtain⟨j,h1,h2,h3,h4,h5⟩:=q9a he;obtain⟨w,ew,rw'⟩:=r.get h2;have hl:=r.length;have hn:=line63;have fin:EP X pins σ Q w s:=⟨z,H,I,rw',q⟩
 by_cases h0:0<=i
 ·have hj:i.toNat=j:=by
   rw[Nn h0 h5] at h1;exact Cg h1
  exact wpAny_getItem_list pl.isList h0 (by lia) (by rw[hj];simpa using ew) fin
 ·have hj:(i+(its.toArray.size:Int)).toNat=j:=by
   rw[seqIndex_neg (by lia) h4] at h1;rw[Ba,<- hl];exact Cg h1
  exact Nr pl.isList (by lia) (by rw[Ba]<;>lia) (by lia) (by rw[hj];simpa using ew) fin
theorem get_k(K:Af)(hK:X.K=K):PGet X (rIxL K):=by subst hK;exact x0j
end
open PySem PySem.Spec PyProof.Rows
section
variable{X:Cx}
def rRjust:V->List V->Hp->VK->Prop:=fun x vs H Q=>∃z i c,x=.str z/\vs=[.int i,.str c]/\PadOk i=true/\c.length=1/\Q (.str (Ry z i (c.cps.getD 0 0))) H
theorem x0k:MtM X "str.rjust" rRjust:=by
 intro pins s σ H x vs v us Q I rx rv h;obtain⟨z,i,c,rfl,rfl,hp,hc,q⟩:=h;obtain⟨t,rfl⟩:=rx;obtain⟨u,w,rfl,ru,rw'⟩:=rv.two;obtain⟨t1,rfl⟩:=ru;obtain⟨t2,rfl⟩:=rw';exact rjust_fill hp hc fun t' k=>⟨.str _,H,I.tok _,⟨_,rfl⟩,q⟩
theorem q7h:CallR X (.type "str") (fun xs H Q=>∃n:Nat,xs=[.int (n:Int)]/\n<=10^14/\Q (.str (Ab (toString (n:Int)))) H):=by
 intro pins s σ H xs us Q I r h;obtain⟨n,rfl,h1,q⟩:=h;obtain⟨u,rfl,t,rfl⟩:=vals1 r;refine PySem.P.str_of_int ?_ ⟨.str (Ab (toString (n:Int))),H,I.tok _,⟨_,rfl⟩,q⟩;rw[Qg];have h2:n<2^50:=Lm h1 (by decide);have:n.log2<50:=by
  by_cases hz:n=0
  ·rw[hz];decide
  ·exact(Nat.log2_lt hz).mpr h2
 lia
end
end L2
namespace K
open PySem L2 TX
def wn(w:Nat)(t:List Nat):List Nat:=List.replicate (w-t.length) 48++t
theorem rj{w:Nat}:Ry (mk t) (w:Int) 48=mk (wn w t):=by
 have hl:(mk t).length=t.length:=by rw[len,q0z]
 unfold Ry wn;by_cases h:((w:Nat):Int)<=((mk t).length:Int)
 ·simp_all
 ·rw[if_neg h,hl];simp[Eo.Str.padded,tl,mk]
end K
namespace SB
open PySem PyProof.Rows
section
variable{prog:Program}{w:World}{A:Around}{E:Value->Ah->Prop}{s:Ah}
def rk(r:Value->Int)(xs:Array Keyed)(i:Nat):Int:=((xs[i]?).map fun p=>r p.1).getD 0
variable{kd:SortKind}{S:Value->Prop}{r:Value->Int}{a₀:Array Keyed}
end
open PySem PyProof.Rows TX
abbrev Pth:=List (List Nat)
theorem mk_inj(h:mk a=mk b):a=b:=by have:=congrArg tl h;rwa [q0z,q0z] at this
theorem IsTup.inj(h1:IsTup h a x)(h2:IsTup h a y):x=y:=by
 obtain⟨o,e,_,n,d⟩:=h1;obtain⟨o',e',_,n',d'⟩:=h2;rw[e] at e';cases e';rw[d] at d';cases d';rfl
theorem IsTup.keep(t:IsTup h a x)(k:∀o,h.get? a=some o->h'.get? a=some o):IsTup h' a x:=let ⟨o,e,r⟩:=t;⟨o,k o e,r⟩
section
variable{prog:Program}{w:World}{A:Around}{E:Value->Ah->Prop}{s:Ah}
open Classical in
noncomputable def keyBy (K:Value->Pth->Prop) (v:Value):Pth:=if h:∃p,K v p then choose h else[]
end
end SB
namespace L2
open PySem PySem.Spec PyProof.Rows SB TX
def kP(p:Pth):List Key:=p.map fun n=>Sum.inr (mk n)
abbrev vP(p:Pth):List V:=p.map fun n=>V.str (mk n)
theorem kP_kV(p:Pth):(kP p).map kV=vP p:=by unfold kP;rw[Es];rfl
abbrev HRow:=Pth×V
abbrev dR(rows:List HRow):HO:=.dT (rows.map fun r=>(kP r.1,r.2))
section
variable{X:Cx}{pins:List (Addr×Obj)}{σ:St}{H:Hp}{s:Ah}
theorem Inv.rows(I:Inv X pins σ H s){rows:List HRow}(hd:H d=some (dR rows)):(d==Ff)=false/\rows.length<=sizeLine/\∃ob es ep,s.heap.get? d=some ob/\ob.ExactDict/\ob.data=.dict es ep/\(rows.map (·.1)).Nodup /\
  ∃zs:List (Addr×Value×HRow),zs.map (·.2.2)=rows/\es.toList.map (fun e=>(e.key,e.val))=zs.map (fun z=>(Value.ref z.1,z.2.1))/\∀z∈zs,H z.1=some (.tup (vP z.2.2.1))/\RelV z.2.2.2 z.2.1:=by
 obtain⟨z,hsys,xs,hp,ob,es,ep,ho,hex,hob,h4,h5⟩:=(show ObjOk X.prog X.w H s.heap d (dR rows) from I.hok d _ hd)
 rw[Ag] at z;have go:∀(rows:List HRow) (xs:List (List Key×Addr×Value)),Gs (fun(p:List Key×V) (q:List Key×Addr×Value)=>p.1=q.1/\H q.2.1=some (.tup (p.1.map kV))/\RelV p.2 q.2.2) (rows.map fun r=>(kP r.1,r.2)) xs ->
   xs.map (·.1)=rows.map (fun r=>kP r.1)/\∃zs:List (Addr×Value×HRow),zs.map (·.2.2)=rows/\(xs.map (entryOfKey (Lh (mixKind X.prog X.w)))).map (fun e=>(e.key,e.val))=zs.map (fun z=>(Value.ref z.1,z.2.1))/\∀z∈zs,H z.1=some (.tup (vP z.2.2.1))/\RelV z.2.2.2 z.2.1:=by
  intro rows;induction rows with
  |nil=>intro xs h;cases h;exact⟨rfl,[],rfl,rfl,fun _ h=>nomatch h⟩
  |cons r rows ih =>
   intro xs h;cases h with
   |cons hq t =>
    rename_i q ys;obtain⟨e1,e2,e3⟩:=hq;obtain⟨i0,zs,i1,i2,i3⟩:=ih ys t;refine⟨by rw[Bc,Bc,i0,<- e1],(q.2.1,q.2.2,r)::zs,by rw[Bc,i1],by rw[Bc,Bc,Bc,i2];rfl,fun z hz=>?_⟩;rcases Ap.mp hz with rfl|hz
    ·exact⟨by rw[<- kP_kV];exact e2,e3⟩
    ·exact i3 z hz
 obtain⟨g0,zs,g1,g2,g3⟩:=go rows xs hp;refine⟨hsys,z,ob,es,ep,ho,hex,hob,?_,zs,g1,by rw[h4];exact g2,g3⟩;rw[g0] at h5;have e:rows.map (fun r=>kP r.1)=(rows.map (·.1)).map kP:=by simp_all
 rw[e] at h5;exact(List.pairwise_map.mp h5).imp fun hne z=>hne (by rw[z])
end
end L2
namespace HM
open PySem PySem.Spec PyProof.Rows L2 TX SB
def NSs:Str:=Ab "abcdefghijklmnopqrstuvwxyzABCDEFGHIJKLMNOPQRSTUVWXYZ0123456789-_."
abbrev NS:List Nat:=tl NSs
abbrev Rw:=Pth×Option Int
theorem drop_app{a:Pth}(h:a≠[]):(p++a).dropLast=p++a.dropLast:=List.dropLast_append_of_ne_nil h
end HM
namespace L2
open PySem PySem.Spec PyProof.Rows
abbrev TF:=St->Hp->(Str->Hp->Prop)->Prop
def PF1(X:Cx)(e:Expr)(t:TF):Prop:=∀(pins:List (Addr×Obj)) (s:Ah) (σ:St) (H:Hp) (R:Str->Hp->Prop),Inv X pins σ H s->t σ H R ->
 wpAny (model X.prog X.w) X.A (eval e X.env) (fun v s1=>∃y k H1,v=.str y k/\Inv X pins σ H1 s1/\R y H1) X.xe s
def PFs(X:Cx):List Expr->List TF->Prop
 |[],[]=>True
 |e::es,t::ts=>PF1 X e t/\PFs X es ts
 |_,_=>False
def tFs:List TF->Str->St->Hp->VK->Prop
 |[],acc,_,H,Q=>acc.length<=sizeLine/\Q (.str acc) H
 |t::ts,acc,σ,H,Q=>t σ H fun y H1=>(acc++y).length<=sizeLine/\tFs ts (acc++y) σ H1 Q
section
variable{X:Cx}
theorem x0l{σ:St}:∀{ts:List TF} {es:List Expr} {acc:Str} {H:Hp} {s:Ah},PFs X es ts->Inv X pins σ H s->tFs ts acc σ H Q ->
  Joins (model X.prog X.w) X.A X.xe (evalEach es X.env) acc (fun out s₁=>out.length<=sizeLine/\EP X pins σ Q (.str out s₁.toks) { s₁ with toks:=s₁.toks+1 }) s:=by
 intro ts;induction ts with
 |nil =>
  intro es acc H s hp I h;cases es with
  |nil=>exact⟨h.1,.str acc,H,I.tok _,⟨_,rfl⟩,h.2⟩
  |cons e es=>exact False.elim hp
 |cons t ts ih =>
  intro es acc H s hp I h;cases es with
  |nil=>exact False.elim hp
  |cons e es =>
   refine Bu (hp.1 pins s σ H _ I h) (fun v s1 z=>?_) fun _ _ z=>z;obtain⟨y,k,H1,ev,I1,hz,q⟩:=z;exact⟨y,k,ev,hz,ih hp.2 I1 q⟩
theorem q5r{v₁ v₂:Expr}{rest:List Expr}{pos:Pos}{t₁ t₂:TF}{ts:List TF}(h1:PF1 X v₁ t₁)(h2:PF1 X v₂ t₂)(h3:PFs X rest ts):PE X (.JoinedStr (v₁::v₂::rest) pos) (fun σ H Q=>tFs (t₁::t₂::ts) Ka σ H Q):=by
 intro pins s σ H Q I h;exact wpAny_JoinedStr (x0l (ts:=t₁::t₂::ts) ⟨h1,h2,h3⟩ I h)
theorem q5s:PFs X [] []:=trivial
theorem q6p{e:Expr}{es:List Expr}{t:TF}{ts:List TF}(h:PF1 X e t)(r:PFs X es ts):PFs X (e::es) (t::ts):=⟨h,r⟩
def tFv(te:TE):TF:=fun σ H R=>te σ H fun v H1=>(∃x,v=.str x/\x.length<=sizeLine/\R x H1)\/∃n:Nat,v=.int (n:Int)/\n<=10^12/\R (Ab (toString (n:Int))) H1
theorem z7x{n:Nat}(h:n<=10^12):(n:Int).natAbs.log2<1920:=by
 rw[Qg];by_cases h0:n=0
 ·subst h0;decide
 ·rw[Nat.log2_lt h0];exact Lm h (Bh (by decide:10^12<2^64) (Fl (by decide) (by decide)))
theorem q7i{e:Expr}{pos:Pos}{te:TE}(he:PE X e te):PF1 X (.FormattedValue e (-1) none pos) (tFv te):=by
 intro pins s σ H R I h;refine FormattedValue_plain (thn (he pins s σ H _ I h) fun u s1 ⟨v,H1,I1,rv,q⟩=>?_);rcases q with⟨x,rfl,hz,q⟩|⟨n,rfl,hn,q⟩
 ·obtain⟨t,rfl⟩:=rv;exact formatField_str (fun t' tk=>⟨x,t',H1,rfl,I1.tok _,q⟩) hz
 ·obtain⟨t,rfl⟩:=rv;exact formatField_int_small (z7x hn) ⟨_,_,H1,rfl,I1.tok _,q⟩
theorem q5d:PF1 X (.Constant (.str c) k pos) (fun _ H R=>R c H):=by
 intro pins s σ H R I h;exact thn (q0g pins s σ H (fun v H1=>∃y,v=.str y/\R y H1) I ⟨c,rfl,h⟩) fun u s1 ⟨v,H1,I1,rv,y,ev,q⟩=>by
  subst ev;obtain⟨t,rfl⟩:=rv;exact⟨y,t,H1,rfl,I1,q⟩
end
open PySem PySem.Spec PyProof.Rows
section
variable{M:Model}{A:Around}{E:Value->Ah->Prop}{s:Ah}
def TbAt(h:Heap)(e:Addr)(vs:Array Value)(T:Addr)(fl:Value):Prop:=vs[1]?=some (.ref T)/\T≠e/\∃oT ts,h.get? T=some oT/\oT.data=.fields ts/\ts[3]?=some fl
def TbOk(L:Addr)(h:Heap)(e:Addr)(vs:Array Value):Prop:=vs[1]?=some .none\/∃T,TbAt h e vs T .none\/TbAt h e vs T (Fh L)
structure LeftX (fr:List Addr) (e:Addr) (oe:Obj) (vs:Array Value) (fl:Value) (h h':Heap):Prop where
 ex:∃T,(h.objs.size<=T\/vs[1]?=some (.ref T))/\T≠e/\h'.get? e=some (oe.mapFields (·.setIfInBounds 1 (.ref T)))/\∃oT ts,h'.get? T=some oT/\oT.data=.fields ts/\ts[3]?=some fl
 keep:∀b o,h.get? b=some o->b≠e->vs[1]?≠some (.ref b)->b∉fr->h'.get? b=some o
 slot:∀b o,h.get? b=some o->b∈fr->∃sl,h'.get? b=some { o with slots:=sl }
theorem z1k{oe:Obj}(hd:oe.data=.fields vs)(h1:vs[1]?=some x):oe.mapFields (·.setIfInBounds 1 x)=oe:=by
 obtain⟨c,d,dt,sl⟩:=oe;cases hd;have e:vs.setIfInBounds 1 x=vs:=by
  have hs:=(Ed.mp h1)
  obtain⟨hlt,hx⟩:=hs;apply Array.ext
  ·simp
  ·intro i h2 h3;rw[Array.getElem_setIfInBounds (by simpa using h3)];split
   ·grind
   ·rfl
 show(⟨c,d,.fields (vs.setIfInBounds 1 x),sl⟩:Obj)=_;rw[e]
theorem entryX
  (hfr:A.frames=some (env::outer))(hl:s.heap.FunFrames base (env::outer))(hf:env.frame=some L)(he:s.heap.get? e=some oe)(hd:oe.data=.fields vs)(hsz:1<vs.size)(h:∀h',(∃T,s.heap.objs.size<=T/\h'.get? e=some (oe.mapFields (·.setIfInBounds 1 (.ref T)))/\∃oT ts,h'.get? T=some oT/\oT.data=.fields ts/\ts[3]?=some (Fh L)) ->
   (∀b o,s.heap.get? b=some o->b≠e->b∉(env::outer).filterMap (·.frame)->h'.get? b=some o) ->
   (∀b o,s.heap.get? b=some o->b∈(env::outer).filterMap (·.frame)->∃sl,h'.get? b=some { o with slots:=sl })->Q () { s with heap:=h' }):
  wpAny M A (do let a<-frameOf env;let pl<-entryPlaceOf L hadNext;let b<-EntryCells.newEntry head a .none (Fh L) .none pl;setField (.ref e) 1 b) Q E s:=by
 have hene:e∉(env::outer).filterMap (·.frame):=fun hm=>by
  obtain⟨_,o,ho,hnf⟩:=hl.mem hm;rw[he] at ho;injection ho with ho;subst ho;exact hnf vs hd
 refine Ac (wpAny_frameOf_fun hfr hl hf fun h₁ hs₁=>?_);refine Ac (wpAny_entryPlaceOf fun pl hpl=>?_);refine Ac (Dq ?_ (hpl.sizeOk5 _ _ _ _ _));have he₁:=(hs₁.2.1 e hene).trans he;have he₂:=Ae { cls:=.type "traceback",dict:=none,data:=.fields ([head,.ref L,.none,Fh L,.none]++(if pl.isEmpty then List.replicate 6 Value.none else pl)).toArray } he₁;have hTe:=Gv (Au he₁);have hd₃:=Gb hd (·.setIfInBounds 1 (Value.ref h₁.objs.size));have he₃:=Eh (Ft (·.setIfInBounds 1 (Value.ref h₁.objs.size))) he₂ (Kc hd₃);have hT₃:=(Ck (h₁.push { cls:=.type "traceback",dict:=none,data:=.fields ([head,.ref L,.none,Fh L,.none]++(if pl.isEmpty then List.replicate 6 Value.none else pl)).toArray })
  (Ft (·.setIfInBounds 1 (Value.ref h₁.objs.size))) (Dm hTe)).trans (Bb h₁ rfl)
 refine Ji he₂ hd hsz (h _ ⟨h₁.objs.size,by rw[hs₁.1];exact Aj _,he₃,_,_,hT₃,rfl,by first|(simp;done)|(rcases hpl with rfl|⟨_,_,_,_,_,_,_,rfl⟩<;>simp)⟩ ?_ ?_)
 ·intro b o hb hbe hbf;have hb₁:=(hs₁.2.1 b hbf).trans hb;rw[Ck _ _ (Dm hbe)];exact Ae _ hb₁
 ·intro b o hb hbf;have hbe:b≠e:=fun z=>hene (z▸hbf);obtain⟨sl,hb₁⟩:=hs₁.2.2 b o hb;refine⟨sl,?_⟩;rw[Ck _ _ (Dm hbe)];exact Ae _ hb₁
theorem noteX
  (hfr:A.frames=some (env::outer))(hl:s.heap.FunFrames base (env::outer))(hf:env.frame=some L)(he:s.heap.get? e=some oe)(hd:oe.data=.fields vs)(ht:TbOk L s.heap e vs)(h:∀h',LeftX ((env::outer).filterMap (·.frame)) e oe vs (Fh L) s.heap h'->Q () { s with heap:=h' }):wpAny M A (noteFrame (.ref e) env) Q E s:=by
 have helt:=Au he;unfold noteFrame;simp only[hf];rcases ht with h1|⟨T,⟨h1,hTe,oT,ts,hT,hdT,h3⟩|⟨h1,hTe,oT,ts,hT,hdT,h3⟩⟩
 ·refine Ac (Bv he hd h1 ?_);refine entryX hfr hl hf he hd (Ed.mp h1).1 fun h' ⟨T,q1,q2,q3⟩ b c=>h h' ⟨⟨T,.inl q1,fun z=>absurd helt (Hk.mpr (z▸q1)),q2,q3⟩,fun x o hx hxe _ hxf=>b x o hx hxe hxf,c⟩
 ·refine Ac (Bv he hd h1 ?_);refine Ac (Bv hT hdT h3 ?_);refine Ac (Ji hT hdT (Ed.mp h3).1 ?_);have other:∀b,b≠T->(s.heap.update T (Ft (·.setIfInBounds 3 Value.none))).get? b=s.heap.get? b:=fun b hb=>Ck _ _ (Dm hb);have noRecord:∀b o,s.heap.get? b=some o->(∀vs,o.data≠.fields vs)->b≠T:=fun b o hb hnf q=>by
   rw[q,hT] at hb;injection hb with hb;subst hb;exact hnf ts hdT
  have hTf:T∉(env::outer).filterMap (·.frame):=fun hm=>by
   obtain⟨_,o,ho,hnf⟩:=hl.mem hm;rw[hT] at ho;injection ho with ho;subst ho;exact hnf ts hdT
  have hsz:(s.heap.update T (Ft (·.setIfInBounds 3 Value.none))).objs.size=s.heap.objs.size:=by simp_all
  refine entryX hfr (hl.of_keeps fun b o hb hnf=>⟨o,(other b (noRecord b o hb hnf)).trans hb,rfl⟩) hf ((other e (Dm hTe)).trans he) hd (Ed.mp h1).1 fun h' a b c=>h h' ⟨?_,fun x o hx hxe hx1 hxf=>?_,fun x o hx hxf=>?_⟩
  ·obtain⟨T',q1,q2,q3⟩:=a;rw[hsz] at q1;exact⟨T',.inl q1,fun z=>absurd helt (Hk.mpr (z▸q1)),q2,q3⟩
  ·exact b x o ((other x fun z=>hx1 (by rw[z];exact h1)).trans hx) hxe hxf
  ·exact c x o ((other x fun z=>hTf (z▸hxf)).trans hx) hxf
 ·refine Ac (Bv he hd h1 ?_);refine Ac (Bv hT hdT h3 ?_);rw[if_pos (show(Fh L==Fh L)=true from by simp)];refine Ak (h s.heap ⟨⟨T,.inr h1,hTe,by rw[z1k hd h1];exact he,oT,ts,hT,hdT,h3⟩,fun x o hx _ _ _=>hx,fun x o hx _=>⟨o.slots,hx⟩⟩)
theorem flightX(he:s.heap.get? e=some oe)(hd:oe.data=.fields vs)(ht:TbAt s.heap e vs T fl)(hTf:T∉fr)(h:∀h',LeftX fr e oe vs (f.elim .none fun f=>Fh f) s.heap h'->Q () { s with heap:=h' }):wpAny M A (setFlight (.ref e) f) Q E s:=by
 obtain⟨h1,hTe,oT,ts,hT,hdT,h3⟩:=ht;have other:∀b,b≠T->(s.heap.update T (Ft (·.setIfInBounds 3 (f.elim Value.none fun f=>Fh f)))).get? b=s.heap.get? b:=fun b hb=>Ck _ _ (Dm hb)
 refine Ac (Bv he hd h1 ?_);refine Ji hT hdT (Ed.mp h3).1 (h _ ⟨⟨T,.inr h1,hTe,?_,_,_,Eh _ hT (Kc (Gb hdT _)),Gb hdT _,?_⟩,fun x o hx _ hx1 _=>?_,fun x o hx hxf=>?_⟩)
 ·rw[z1k hd h1,other e (Dm hTe)];exact he
 ·simp[(Ed.mp h3).1]
 ·rw[other x fun z=>hx1 (by rw[z];exact h1)];exact hx
 ·rw[other x fun z=>hTf (z▸hxf)];exact⟨o.slots,hx⟩
end
open PySem PySem.Spec PyProof.Rows
def ExO(C:Value)(dd:Option Addr)(e:Addr):HO:=.ext fun h=>∃vs sl,h.get? e=some { cls:=C,dict:=dd,data:=.fields vs,slots:=sl }/\vs.size=6
structure FlX (X:Cx) (pins:List (Addr×Obj)) (H:Hp) (s:Ah) (e:Addr):Prop where
 at_:∃C dd,H e=some (ExO C dd e)
 tb:∃oe vs,s.heap.get? e=some oe/\oe.data=.fields vs/\TbOk X.env.locals s.heap e vs/\∀T,vs[1]?=some (.ref T)->X.s₀.heap.objs.size<=T/\H T=none/\T≠X.env.locals/\(∀x c,X.env.cells.lookup x=some c->c≠T)/\∀p∈X.pn++pins,p.1≠T
 new:X.s₀.heap.objs.size<=e
section
variable{X:Cx}{pins:List (Addr×Obj)}{σ:St}{H:Hp}{s:Ah}{e:Addr}{oe:Obj}{vs:Array Value}{fl:Value}{h':Heap}
def chOf(vs:Array Value):List Addr:=match vs[(1:Nat)]? with|some (Value.ref T)=>[T]|_=>[]
theorem chOf_mem:b∈chOf vs↔vs[(1:Nat)]?=some (Value.ref b):=by
 unfold chOf;constructor
 ·intro h;split at h
  ·simp_all
  ·cases h
 ·simp_all
theorem Inv.leftX(I:Inv X pins σ H s)(F:FlX X pins H s e)(he:s.heap.get? e=some oe)(hd:oe.data=.fields vs)(hfl:fl=.none\/fl=Fh X.env.locals)(hT:∀T,vs[1]?=some (.ref T)->X.s₀.heap.objs.size<=T/\H T=none/\T≠X.env.locals/\(∀x c,X.env.cells.lookup x=some c->c≠T)/\∀p∈X.pn++pins,p.1≠T)(L:LeftX (frs X.stack) e oe vs fl s.heap h'):Inv X pins σ H { s with heap:=h' }/\FlX X pins H { s with heap:=h' } e/\∃oe' vs' T,h'.get? e=some oe'/\oe'.data=.fields vs'/\TbAt h' e vs' T fl:=by
 obtain⟨C,dd,hE⟩:=F.at_;obtain⟨T',hT'1,hT'e,hE',oT,ts,q1,q2,q3⟩:=L.ex;have hne:∀b,H b=none->b≠e:=fun b h z=>by rw[z,hE] at h;cases h
 have un:Un (frs X.stack) (chOf vs) H H s.heap h':=⟨fun b o hb n hf hc=>L.keep b o hb (hne b n) (fun z=>hc (chOf_mem.mpr z)) hf,fun b o hb n hf hc=>L.slot b o hb hf,fun _ _ _ n _=>n,fun b o hb hc=>by
   by_cases z:b=e
   ·simp_all
   ·by_cases y:b∈frs X.stack
    ·obtain⟨sl,k⟩:=L.slot b o hb y;exact⟨_,k⟩
    ·exact⟨o,L.keep b o hb z (fun x=>hc (chOf_mem.mpr x)) y⟩,
  fun _ _ q=>q,fun _ _ _ q=>q,fun _ ps q=>⟨#[],by rw[q];simp⟩⟩
 have hsz6:vs.size=6/\oe.cls=C/\oe.dict=dd:=by
  obtain⟨⟨vs2,sl,z,z6⟩,_,_⟩:=I.hok e _ hE;rw[he] at z;cases z;cases hd;exact⟨z6,rfl,rfl⟩
 have hok:HOk X.prog X.w H h':=fun a o ha=>by
  by_cases z:a=e
  ·subst z;rw[hE] at ha;cases ha;refine⟨⟨vs.setIfInBounds 1 (.ref T'),oe.slots,?_,by simpa using hsz6.1⟩,⟨_,hE'⟩,fun h1 h2 ⟨ws,sl,k1,k2⟩ k=>⟨ws,sl,k _ k1,k2⟩⟩;rw[hE'];obtain⟨c,d,dt,sl⟩:=oe;cases hd;obtain⟨_,rfl,rfl⟩:=hsz6;rfl
  ·refine(I.hok a o ha).stay (fun b u hb hu=>?_) (fun _ q=>q) fun _ _ q=>q;have hbt:H b≠none/\b≠e:=by
    rcases hb with rfl|hb
    ·grind
    ·refine⟨by rw[hb];simp,fun y=>?_⟩;rw[y,hE] at hb;cases hb
   exact L.keep b u hu hbt.2 (fun y=>hbt.1 (hT b y).2.1) fun y=>hbt.1 (I.stkFree b y)
 have hch:∀b∈chOf vs,(b∈X.ex\/X.s₀.heap.objs.size<=b)/\b≠X.env.locals/\(∀x c,X.env.cells.lookup x=some c->c≠b)/\∀p∈X.pn++pins,p.1≠b:=fun b hb=>by
  obtain⟨a1,_,a3,a4,a5⟩:=hT b (chOf_mem.mp hb);exact⟨.inr a1,a3,a4,a5⟩
 have I':Inv X pins σ H { s with heap:=h' }:=I.call' (s':={ s with heap:=h' }) rfl un hok I.bare hch;have hd':=Gb hd (·.setIfInBounds 1 (Value.ref T'));have hlt1:1<vs.size:=by grind
 have hTb:TbAt h' e (vs.setIfInBounds 1 (.ref T')) T' fl:=⟨by simp[hlt1],hT'e,oT,ts,q1,q2,q3⟩
 refine⟨I',⟨⟨C,dd,hE⟩,⟨_,_,hE',hd',.inr ⟨T',?_⟩,fun T hTT=>?_⟩,F.new⟩,_,_,T',hE',hd',hTb⟩
 ·lia
 ·have:T=T':=by
   have z:=hTb.1;rw[z] at hTT;injection hTT with y;injection y with y;exact y.symm
  subst this;rcases hT'1 with k|k
  ·refine⟨Aq I.sz k,I.hok.fresh k,fun z=>absurd I.lt (Hk.mpr (z▸k)),fun x c hx z=>?_,fun p hp z=>?_⟩
   ·obtain⟨v,o,ho,_⟩:=I.cell x c hx;exact absurd (Au ho) (Hk.mpr (z▸k))
   ·obtain⟨ho,_⟩:=I.pin p hp;exact absurd (Au ho) (Hk.mpr (z▸k))
  ·exact hT T k
def XE(X:Cx)(J:Addr->St->Hp->Prop)(e:Value)(s:Ah):Prop:=∃pins σ H ea,e=.ref ea/\Inv X pins σ H s/\FlX X pins H s ea/\J ea σ H
theorem x1w(hst:X.stack=X.env::X.outer):frs X.stack=(X.env::X.outer).filterMap (·.frame):=by rw[hst];rfl
theorem passX(hst:X.stack=X.env::X.outer)(hf:X.env.frame=some X.env.locals):Pz (model X.prog X.w) X.A X.env (XE X J):=by
 rintro e s' ⟨pins,σ,H,ea,rfl,I,F,j⟩;obtain⟨oe,vs,he,hd,ht,hT⟩:=F.tb;have hfr:X.A.frames=some (X.env::X.outer):=by rw[<- hst];exact I.ok.frames
 have hl:s'.heap.FunFrames X.base (X.env::X.outer):=by rw[<- hst];exact I.stack
 refine noteX hfr hl hf he hd ht fun h1 L1=>?_;rw[<- x1w hst] at L1;obtain⟨I1,F1,oe1,vs1,T1,e1,d1,t1⟩:=I.leftX F he hd (.inr rfl) hT L1;refine Ac (Bv e1 d1 t1.1 ?_);have hT1f:T1∉frs X.stack:=fun hm=>by
  obtain⟨_,_,oT,ts,q1,q2,_⟩:=t1;obtain⟨_,o,ho,hnf⟩:=I1.stack.mem hm;rw[q1] at ho;injection ho with ho;subst ho;exact hnf ts q2
 obtain⟨oe1',vs1',e1',d1',_,hT1⟩:=F1.tb;have q:oe1'=oe1/\vs1'=vs1:=by grind
 obtain⟨rfl,rfl⟩:=q;refine flightX e1 d1 t1 hT1f fun h2 L2=>?_
 rw[hf] at L2;obtain⟨I2,F2,_⟩:=I1.leftX F1 e1 d1 (.inr rfl) hT1 L2;exact⟨pins,σ,H,ea,rfl,I2,F2,j⟩
end
open PySem PySem.Spec PyProof.Rows
def CXR(P:Program)(w:World):CXT:=fun outer H s E e s'=>∃ea H',e=.ref ea/\s'.os=s.os/\Jg s'.gens/\Un (frs outer) [] H H' s.heap s'.heap/\HOk P w H' s'.heap/\s.heap.objs.size<=ea/\(∃C dd,H' ea=some (ExO C dd ea)) /\
 (∃oe vs,s'.heap.get? ea=some oe/\oe.data=.fields vs/\(vs[1]?=some .none\/∃T,TbAt s'.heap ea vs T .none)/\∀T,vs[1]?=some (.ref T)->s.heap.objs.size<=T/\H' T=none)/\E (.ref ea) none H'
section
variable{X:Cx}{J J':Addr->St->Hp->Prop}{E:Value->Ah->Prop}{e:Value}{s:Ah}
theorem FlX.wish(F:FlX X pins H s ea)(E:Value->Ah->Prop):FlX (X.wish E) pins H s ea:=⟨F.at_,F.tb,F.new⟩
theorem FlX.unwish(F:FlX (X.wish E) pins H s ea):FlX X pins H s ea:=⟨F.at_,F.tb,F.new⟩
theorem XE.wish(h:XE X J e s):XE (X.wish E) J e s:=by
 obtain⟨pins,σ,H,ea,rfl,I,F,j⟩:=h;exact⟨pins,σ,H,ea,rfl,I.wish _,F.wish _,j⟩
theorem XE.unwish(h:XE (X.wish E) J e s):XE X J e s:=by
 obtain⟨pins,σ,H,ea,rfl,I,F,j⟩:=h;exact⟨pins,σ,H,ea,rfl,I.unwish,F.unwish,j⟩
structure AccX (X:Cx) (J:Addr->St->Hp->Prop):Prop where
 acc:∀e s,XE X J e s->X.xe e s
theorem AccX.of:AccX (X.wish (XE X J)) J:=⟨fun _ _ h=>h.unwish⟩
theorem PSs.wishX{st:List Stmt}(hE:∀e s,E e s->X.xe e s)(h:PSs (X.wish E) st t):PSs X st t:=fun pins s σ H D I hw =>
 Bu (h pins s σ H D (I.wish _) hw) (fun _ _ q=>q.unwish) hE
theorem leaves{K:Af}(h:XE (cxOf (CXR P w) P w K mg base N qual scope f cd A outer s₀ H₀ E₀) (fun ea _ H'=>E₀ (.ref ea) none H') e s):(cxOf (CXR P w) P w K mg base N qual scope f cd A outer s₀ H₀ E₀).xe e s:=by
 obtain⟨pins,σ,H,ea,rfl,I,F,j⟩:=h;obtain⟨oe,vs,he,hd,ht,hT⟩:=F.tb;refine Ac (noteX I.ok.frames I.stack rfl he hd ht fun h1 L1=>?_);obtain⟨I1,F1,oe1,vs1,T1,e1,d1,t1⟩:=I.leftX F he hd (.inr rfl) hT L1;have hT1f:T1∉frs (cxOf (CXR P w) P w K mg base N qual scope f cd A outer s₀ H₀ E₀).stack:=fun hm=>by
  obtain⟨_,_,oT,ts,q1,q2,_⟩:=t1;obtain⟨_,o,ho,hnf⟩:=I1.stack.mem hm;rw[q1] at ho;injection ho with ho;subst ho;exact hnf ts q2
 obtain⟨oe1',vs1',e1',d1',_,hT1⟩:=F1.tb;have q:oe1'=oe1/\vs1'=vs1:=by grind
 obtain⟨rfl,rfl⟩:=q;refine flightX e1 d1 t1 hT1f fun h2 L2=>?_
 obtain⟨I2,F2,oe2,vs2,T2,e2,d2,t2⟩:=I1.leftX F1 e1 d1 (.inl rfl) hT1 L2;obtain⟨oe2',vs2',e2',d2',_,hT2⟩:=F2.tb;have q:oe2'=oe2/\vs2'=vs2:=by grind
 obtain⟨rfl,rfl⟩:=q;exact⟨ea,H,rfl,I2.os,I2.bare,I2.base,I2.hok,F2.new,F2.at_,⟨_,_,e2,d2,.inr ⟨T2,t2⟩,fun T hTT=>⟨(hT2 T hTT).1,(hT2 T hTT).2.1⟩⟩,j⟩
end
abbrev cxX(P:Program)(w:World)(K:Af)(mg:Str->Option Value)(base:Heap)(N:List Str)(qual:Str)(scope:Scope)(f:Addr)(cd:Value)(A:Around)(outer:List Env)(s:Ah)(H:Hp)(E:XK):Cx :=
 (cxOf (CXR P w) P w K mg base N qual scope f cd A outer s H E).wish (XE (cxOf (CXR P w) P w K mg base N qual scope f cd A outer s H E) fun ea _ H'=>E (.ref ea) none H')
section
variable{P:Program}{w:World}{K:Af}{mg:Str->Option Value}{base:Heap}
theorem accX:AccX (cxX P w K mg base N qual scope f cd A outer s H E) fun ea _ H'=>E (.ref ea) none H':=AccX.of
theorem passDef:Pz (model P w) (A.deeper (Hh qual scope s.heap.objs.size f cd)) (Hh qual scope s.heap.objs.size f cd) (cxX P w K mg base N qual scope f cd A outer s H E).xe :=
 passX rfl rfl
theorem Fun.okX{st:Stmt}(F:Fun K x qual st f fd)(S:FnScope N ps (defScope st))(len:∀vs H Q E,sp vs H Q E->vs.length=ps.length)(hbody:∀(cdv:Value) (A:Around) (outer:List Env) (s:Ah) (H:Hp) (vs:List V) (Q:VK) (E:XK),Room k (A.deeper (Hh qual (defScope st) s.heap.objs.size f cdv))->sp vs H Q E ->
   ∃t,PSs (cxX P w K mg base N qual (defScope st) f cdv A outer s H E) (defBody st) t/\t { nx:=fun _ H'=>Q .non H',rt:=Q } (start N vs) H):FnOk P w K mg base (CXR P w) (k+1) f fd ps sp:=by
 obtain⟨oc,od,kV,doc,pm,an,cdv,ct,osl,rfl,lk,hcd⟩:=F.ex;refine fn_of lk hcd S len fun A outer s H vs Q E hr hsp=>?_
 obtain⟨t,h,q⟩:=hbody cdv A outer s H vs Q E hr hsp;exact⟨t,PSs.wishX (fun e s' z=>leaves z) h,q⟩
structure CalX (P:Program) (w:World) (K:Af) (mg:Str->Option Value) (base:Heap) (x:Str) (k:Nat) (ps:List Str) (sp:Sp):Prop where
 ex:∃f fd,FnOk P w K mg base (CXR P w) k f fd ps sp/\mg x=some (.ref f)/\Fy K (.ref f)=true/\Binds K fd ps []
theorem Df.calX{st:Stmt}(D:Df K mg x st ps)(S:FnScope N ps (defScope st))(len:∀vs H Q E,sp vs H Q E->vs.length=ps.length)(hbody:∀(f:Addr) (cdv:Value) (A:Around) (outer:List Env) (s:Ah) (H:Hp) (vs:List V) (Q:VK) (E:XK),Room k (A.deeper (Hh x (defScope st) s.heap.objs.size f cdv))->sp vs H Q E ->
   ∃t,PSs (cxX P w K mg base N x (defScope st) f cdv A outer s H E) (defBody st) t/\t { nx:=fun _ H'=>Q .non H',rt:=Q } (start N vs) H):CalX P w K mg base x (k+1) ps sp:=by
 obtain⟨f,fd,F,hm,hb⟩:=D.ex;exact⟨f,fd,F.okX S len fun cdv A outer s H vs Q E hr h=>hbody f cdv A outer s H vs Q E hr h,hm,F.kp,hb⟩
end
section
variable{X:Cx}{J:Addr->St->Hp->Prop}{k j:Nat}{f:Addr}{fd:Jw}{ps:List Str}{sp:Sp}{x:Str}{p pos:Pos}{e:Expr}{es:List Expr}{t:TA}
def tCallX(sp:Sp)(J:Addr->St->Hp->Prop)(t:TA):TE:=fun σ H Q=>t σ H fun vs H1=>sp vs H1 Q fun e _ H'=>∀ea,e=.ref ea->J ea σ H'
theorem x3n{σ:St}(F:FnOk X.prog X.w X.K X.mg X.base (CXR X.prog X.w) k f fd ps sp)(hr:Room k X.A)(hb:Binds X.K fd ps [])(hx:AccX X J)(I:Inv X pins σ H s)(r:Vals vs us)(h:sp vs H Q fun e _ H'=>∀ea,e=.ref ea->J ea σ H'):wpAny (model X.prog X.w) X.A (call (.ref f) us) (EP X pins σ Q) X.xe s:=by
 have hl:(us++[]).length=ps.length:=by rw[Bi,<- r.length];exact F.len _ _ _ _ h
 have hb':=hb s us I.kIn hl;rw[Bi] at hb';refine Fi (Gw (F.run X.A X.stack s H ⟨us,[]⟩ us vs Q _ hr I.env0 hb' r h) fun r s' hq=>?_);cases r with
 |error e =>
  obtain⟨ea,H',rfl,os,bare,un,hok,hnew,hat,⟨oe,ws,he,hd,ht,hT⟩,j⟩:=hq;have I':=I.call' os un hok bare fun b z=>absurd z (by simp)
  refine hx.acc _ _ ⟨pins,σ,H',ea,rfl,I',⟨hat,⟨oe,ws,he,hd,?_,fun T hTT=>?_⟩,Aq I.sz hnew⟩,j ea rfl⟩
  ·rcases ht with z|⟨T,z⟩
   ·exact .inl z
   ·exact .inr ⟨T,.inl z⟩
  ·obtain⟨a1,a2⟩:=hT T hTT;refine⟨Aq I.sz a1,a2,fun z=>absurd I.lt (Hk.mpr (z▸a1)),fun y c hy z=>?_,fun q hq z=>?_⟩
   ·obtain⟨v,o,ho,_⟩:=I.cell y c hy;exact absurd (Au ho) (Hk.mpr (z▸a1))
   ·obtain⟨ho,_⟩:=I.pin q hq;exact absurd (Au ho) (Hk.mpr (z▸a1))
 |ok fl =>
  cases fl with
  |ret u=>exact I.after hq
  |next=>exact False.elim hq
  |brk=>exact False.elim hq
  |cont=>exact False.elim hq
theorem q2b(C:CalX X.prog X.w X.K X.mg X.base x k ps sp)(hr:Room j X.A)(hx:AccX X J)(ha:PA X (e::es) t)(hjk:k<=j:=by decide)(hg:Gl X x:=by rfl)(hdb:(x==("__debug__" : Str))=false:=by decide)(he:Bd (e::es) X.env=(false,eval e X.env)::Bd es X.env:=by rfl)(hpl:(Gu pos (Bd es X.env)).any (·.1)=false:=by rfl):
  PE X (.Call (.Name x p) (e::es) [] pos) (tCallX sp J t):=by
 obtain⟨f,fd,F,hm,hk,hb⟩:=C.ex;intro pins s σ H Q I h;refine Fc (q3g I hg hm ?_ hdb);refine Mm I.ok.mod.kin hk (thn (ha pos pins s σ H _ I h) fun us s1 ⟨vs,H1,I1,r,q⟩=>⟨I1.kIn,?_⟩) he hpl;exact x3n F (hr.mono hjk) hb hx I1 r q
end
open PySem PySem.Spec PyProof.Rows
structure ECls (K:Af) (C:Addr) (bm:List Value):Prop where
 ex:∃nm q N bs hdct sn sub ab col dd k0 k1 k2 k3 k5 newId,K.lookup C=some (Cy nm q C N bs bm hdct sn sub ab col dd k0 k1 k2 k3 k5 newId)
 base:bm.contains (.type "BaseException")=true
section
variable{M:Model}{A:Around}{E:Value->Ah->Prop}{h:Heap}{g:Array Mu}{d:Drawn}{t:Nat}{os:Kd}
variable{nm q:Str}{C N:Addr}{bs bm:List Value}{hdct:Bool}{sn:List Str}{sub:List Value}{ab:Bool}{col:Option Bool}{dd:Option Addr}{k0 k1 k2 k3 k5:Option Value}{newId:String}
variable{nm' q':Str}{D N':Addr}{bs' bm':List Value}{hdct':Bool}{sn':List Str}{sub':List Value}{ab':Bool}{col':Option Bool}{dd':Option Addr}{k0' k1' k2' k3' k5':Option Value}{newId':String}
theorem excMatchX(hC:h.get? C=some (Cy nm q C N bs bm hdct sn sub ab col dd k0 k1 k2 k3 k5 newId))(hD:h.get? D=some (Cy nm' q' D N' bs' bm' hdct' sn' sub' ab' col' dd' k0' k1' k2' k3' k5' newId'))(he:h.get? e=some oe)(hcls:oe.cls=.ref C)(hbase:bm'.contains (.type "BaseException")=true)(hq:Q ((Value.ref C::bm).contains (.ref D)) ⟨h,g,d,t,os⟩):wpAny M A (excMatches (.ref e) (.ref D)) Q E ⟨h,g,d,t,os⟩:=by
 have hcB:(Value.ref D::bm').contains (.type "BaseException")=true:=by grind
 have f:=tc_notTuple;repeat (first|(with_reducible refine Ds he ?_;rw[hcls])|with_reducible refine Ds hD ?_|(with_reducible refine Hc hD ?_;rw[hcB])|(with_reducible refine Hc hC ?_)|wp_step)
 cases hb:(Value.ref C::bm).contains (.ref D)<;>(rw[hb] at hq;wp_walk;exact hq)
end
section
variable{X:Cx}{pins:List (Addr×Obj)}{σ:St}{H:Hp}{s:Ah}
theorem q9j(I:Inv X pins σ H s)(hN:X.N.Nodup)(hi:X.N[i]?=some x)(hk:X.env.scope.names.lookup x=some .local)(h:∀s',Inv X pins (σ.set i none) H s'->Q () s'):wpAny M A (do bindName X.env x .none;unbindBehindTheSuite X.env x pos) Q E s:=by
 obtain⟨m,hn,hl⟩:=id I.loc;have hcls:(X.env.scope.kind==.class||(X.env.scope.kind==.module&&X.env.locals != X.env.globals))=false:=by rw[I.ok.kind];rfl
 have hiσ:i<σ.length:=by rw[I.len];exact(Ai.mp hi).1
 have cne:=I.cne;have tracked:∀{a:Addr} {h':Heap},(∃o,s.heap.get? a=some o/\H a=none)->Hq a s.heap h'->HOk X.prog X.w H h':=fun{a h'} ha hs b ob e=>by
  refine(I.hok b ob e).stay (fun c w' hc q=>(hs.2 c ?_).trans q) (fun _ q=>q) fun _ _ q=>q;rcases hc with rfl|hc
  ·grind
  ·grind
 refine wpAny_nameGoes_keeps hk hn hcls fun h' v hn' hs=>?_;obtain⟨oL,_,_,hoL,_⟩:=id hn;refine h _ ⟨I.ok,I.os,I.bare,⟨fun b o e n hb hx=>?_,fun b o e n hb hx=>?_,I.base.free,fun b o e hx=>?_,I.base.tups,I.base.frzs,I.base.tbls⟩,⟨_,hn',fun j y v' e1 e2 e3=>?_⟩,fun y c e=>?_,I.free,I.freeC,fun p hp=>?_,tracked ⟨oL,hoL,I.free⟩ hs,by simpa using I.len⟩
 ·exact(hs.2 b (By (Bh (Au e) I.ok.above))).trans (I.base.keep b o e n hb hx)
 ·obtain⟨sl,e1⟩:=I.base.slot b o e n hb hx;exact⟨sl,(hs.2 b (By (Bh (Au e) I.ok.above))).trans e1⟩
 ·obtain⟨o',e1⟩:=I.base.there b o e hx;exact⟨o',(hs.2 b (By (Bh (Au e) I.ok.above))).trans e1⟩
 ·by_cases hj:j=i
  ·simp_all
  ·rw[Kg (Dm hj)] at e2;obtain⟨u',r',q⟩:=hl j y v' e1 e2 e3;refine⟨u',r',?_⟩;rcases q with⟨k,e⟩|⟨k,c,e,z⟩
   ·refine .inl ⟨k,?_⟩;have:y≠x:=fun e=>hj (q8w hN e1 (e▸hi));simp[this,e]
   ·exact .inr ⟨k,c,e,z.sameBut hs (cne y c e)⟩
 ·obtain⟨w',z⟩:=I.cell y c e;exact⟨w',z.sameBut hs (cne y c e)⟩
 ·obtain⟨e,n,ne,nf,d⟩:=I.pin p hp;exact⟨(hs.2 p.1 ne).trans e,n,ne,nf,d⟩
abbrev Cx.pinned(X:Cx)(pn:List (Addr×Obj)):Cx:={ X with pn:=pn }
theorem Cx.Ok.pinned{pn:List (Addr×Obj)}(ok:X.Ok):(X.pinned pn).Ok:=⟨ok.mod,ok.kind,ok.glob,ok.blt,ok.above,ok.inj,ok.has,ok.cab,ok.hd,ok.frames,ok.stk,ok.exf,ok.bs,ok.bsz,ok.noex,ok.exfs,ok.funs,ok.frf⟩
theorem Cx.Ok.unpin{pn:List (Addr×Obj)}(ok:(X.pinned pn).Ok):X.Ok:=⟨ok.mod,ok.kind,ok.glob,ok.blt,ok.above,ok.inj,ok.has,ok.cab,ok.hd,ok.frames,ok.stk,ok.exf,ok.bs,ok.bsz,ok.noex,ok.exfs,ok.funs,ok.frf⟩
theorem Inv.toPn(I:Inv X pins σ H s):Inv (X.pinned (X.pn++pins)) [] σ H s:=⟨I.ok.pinned,I.os,I.bare,I.base,I.loc,I.cell,I.free,I.freeC,fun p hp=>I.pin p (by simpa using hp),I.hok,I.len⟩
theorem Inv.ofPn(I:Inv (X.pinned (X.pn++pins)) pins' σ H s):Inv X pins σ H s:=⟨I.ok.unpin,I.os,I.bare,I.base,I.loc,I.cell,I.free,I.freeC,fun p hp=>I.pin p (Co _ hp),I.hok,I.len⟩
theorem FlX.ofPn(F:FlX (X.pinned (X.pn++pins)) pins' H s e):FlX X pins H s e:=by
 obtain⟨oe,vs,h1,h2,h3,h4⟩:=F.tb;exact⟨F.at_,⟨oe,vs,h1,h2,h3,fun T hT=>let ⟨a,b,c,d,f⟩:=h4 T hT;⟨a,b,c,d,fun p hp=>f p (Co _ hp)⟩⟩,F.new⟩
abbrev Cx.hand(X:Cx)(e:Addr):Cx:={ X with A:=X.A.mark (some (.ref e)),calm:=false,xe:=fun _ _=>False }
theorem Cx.Ok.hand(ok:X.Ok):(X.hand e).Ok:=⟨ok.mod,ok.kind,ok.glob,ok.blt,ok.above,ok.inj,ok.has,ok.cab,(fun z=>by cases z),ok.frames,ok.stk,ok.exf,ok.bs,ok.bsz,ok.noex,ok.exfs,ok.funs,ok.frf⟩
theorem Inv.hand(I:Inv X pins σ H s)(e:Addr):Inv (X.hand e) pins σ H s:=⟨I.ok.hand,I.os,I.bare,I.base,I.loc,I.cell,I.free,I.freeC,I.pin,I.hok,I.len⟩
theorem Inv.unhand(I:Inv (X.hand e) pins σ H s)(ok:X.Ok):Inv X pins σ H s:=⟨ok,I.os,I.bare,I.base,I.loc,I.cell,I.free,I.freeC,I.pin,I.hok,I.len⟩
def SubX(K:Af)(C:Value)(D:Addr):Prop:=∃c bm,C=.ref c/\ECls K c bm/\(Value.ref c::bm).contains (.ref D)=true
def gone(i:Nat)(D:Ends):Ends:=⟨fun σ H=>D.nx (σ.set i none) H,D.rt,fun σ H=>D.bk (σ.set i none) H,fun σ H=>D.ct (σ.set i none) H⟩
end
open PySem PySem.Spec PyProof.Rows
section
variable{prog:Program}{w:World}{A:Around}{E:Value->Ah->Prop}{h:Heap}{g:Array Mu}{d:Drawn}{t:Nat}{os:Kd}
variable{nm q:Str}{C N:Addr}{bs bm bmB:List Value}{hdct:Bool}{sn:List Str}{sub:List Value}{ab:Bool}{col:Option Bool}{dd:Option Addr}{k0 k1 k2 k3 k5:Option Value}{B newId initId:String}
theorem q4q(F:Kr B newId initId bmB)(T:Ld h bmB bm){rest:List Value}(hC:h.get? C=some (Cy nm q C N bs bm hdct sn sub ab col dd k0 k1 k2 k3 k5 newId))(hn:h.Ns N mN)(hi:mN "__init__" = some (.ref fI))(hfI:h.get? fI=some oI)(hfc:oI.cls=.type "function")(hq:∀h' e,Le h h' e (.ref C) rest->h.objs.size<=e ->
   wpAny (model prog w) A (call (.ref fI) (.ref e::rest)) (fun r s'=>r=.none/\Q (.done (.ret (.ref e))) s') E ⟨h',g,d,t,os⟩)(hrest:rest.length<=sizeLine:=by size_fits):
  wpAny (model prog w) A (Eo.«type.__call__» ⟨.ref C::rest,[]⟩) Q E ⟨h,g,d,t,os⟩:=by
 repeat (first|with_reducible refine Ds hC ?_|with_reducible refine wpAny_madeBy_exc hC ?_|wp_step)
 refine Me (Hj _ F.quiet) (Ox F T hC ?_);refine Oy F T hC ?_ hrest;have hC₁:=Ae { cls:=.ref C,data:=.fields #[.ref h.objs.size,.none,.none,.none,.bool false,.none] }
  (Ae { cls:=.type "tuple",data:=.seq rest.toArray } hC)
 have hfI₁:=Ae { cls:=.ref C,data:=.fields #[.ref h.objs.size,.none,.none,.none,.bool false,.none] }
  (Ae { cls:=.type "tuple",data:=.seq rest.toArray } hfI)
 have hn₁:((h.push { cls:=.type "tuple",data:=.seq rest.toArray }).push { cls:=.ref C,data:=.fields #[.ref h.objs.size,.none,.none,.none,.bool false,.none] }).Ns N mN :=
  let ⟨o,es,ep,e,r⟩:=hn;⟨o,es,ep,Ae _ (Ae _ e),r⟩
 have hget:((h.push { cls:=.type "tuple",data:=.seq rest.toArray }).push
   { cls:=.ref C,data:=.fields #[.ref h.objs.size,.none,.none,.none,.bool false,.none] }).get? (h.objs.size+1)=some
   { cls:=.ref C,data:=.fields #[.ref h.objs.size,.none,.none,.none,.bool false,.none] }:=by heap_get
 have T₁:=T.keeps (h':=(h.push { cls:=.type "tuple",data:=.seq rest.toArray }).push { cls:=.ref C,data:=.fields #[.ref h.objs.size,.none,.none,.none,.bool false,.none] })
  fun b o e=>Ae _ (Ae _ e)
 have hcC:(Value.ref C::bm).contains (.ref C)=true:=by simp
 repeat (first|with_reducible refine Ds hget ?_|(with_reducible refine Hc hC₁ ?_;rw[hcC])|wp_step)
 refine Oe hC₁ hn₁ T₁ F.mroIs F.init.lookup ?_;rw[hi];refine Du (Ac ?_);refine Ac (wpAny_typeOf ⟨_,hfI₁,hfc⟩ ?_);refine Ak (Ac (Bu (hq _ (h.objs.size+1) ⟨fun b o hb=>Ae _ (Ae _ hb),Gm (Hm _),h.objs.size,hget,Gm (Aj _),?_⟩ (Hm _)) (fun r s' hr=>?_) fun _ _ x=>x))
 ·exact Ae _ (Qx rfl rfl)
 ·obtain⟨rfl,hQ⟩:=hr
  wp_walk
  exact hQ
theorem q7z(F:Kr B newId initId bmB)(T:Ld h bmB bm){rest:List Value}(hC:h.get? C=some (Cy nm q C N bs bm hdct sn sub ab col dd k0 k1 k2 k3 k5 newId))(hn:h.Ns N mN)(hi:mN "__init__" = some (.ref fI))(hfI:h.get? fI=some oI)(hfc:oI.cls=.type "function")(hq:∀h' e,Le h h' e (.ref C) rest->h.objs.size<=e ->
   wpAny (model prog w) (A.under (.builtin "type.__call__" ⟨.ref C::rest,[]⟩)) (call (.ref fI) (.ref e::rest)) (fun r s'=>r=.none/\Q (.ref e) s') E ⟨h',g,d,t,os⟩)(hrest:rest.length<=sizeLine:=by size_fits):
  wpAny (model prog w) A (call (.ref C) rest) Q E ⟨h,g,d,t,os⟩:=by
 have f1:=tc_lookup;have f2:=tc_bind (.ref C);refine Fi (Kp ?_);repeat (any_goals (first|assumption|with_reducible refine Ds hC ?_|wp_step))
 refine⟨rfl,?_⟩;refine Na (Hj _ (by decide +kernel)) entry_typeCall (Mf hC (q4q F T hC hn hi hfI hfc fun h' e hm hle=>?_));exact hq h' e hm hle
theorem raiseX(hbase:bm.contains (.type "BaseException")=true)(hh:A.handled=none)(h:wpAny M A x (fun v s₁=>∃e de vs sl,v=.ref e/\s₁.heap.get? C=some (Cy nm q C N bs bm hdct sn sub ab col dd k0 k1 k2 k3 k5 newId) /\
   s₁.heap.get? e=some { cls:=.ref C,dict:=de,data:=.fields vs,slots:=sl }/\vs[1]?=some .none/\E (.ref e) s₁) E s):
  wpAny M A (raiseStmt env (some x) none) Q E s:=by
 have hcB:(Value.ref C::bm).contains (.type "BaseException")=true:=by grind
 refine Ac (Bu h (fun v s₁ h₁=>?_) fun _ _ x=>x);obtain⟨e,de,vs,sl,rfl,hC,he,h1,hE⟩:=h₁;repeat (first|with_reducible refine Ds he ?_|with_reducible refine Ds hC ?_|(with_reducible refine Hc hC ?_;rw[hcB])|(with_reducible refine Bv he rfl h1 ?_)|wp_step)
 exact wpAny_raiseNew_none hh hE
end
open PySem PySem.Spec PyProof.Rows
def ExN(C:Value)(dd:Option Addr)(e:Addr):HO:=.ext fun h=>∃vs sl,h.get? e=some { cls:=C,dict:=dd,data:=.fields vs,slots:=sl }/\vs.size=6/\vs[1]?=some .none
abbrev bmV:List Value:=[.type "ValueError",.type "Exception",.type "BaseException",.type "object"]
structure EMk (K:Af) (C fI:Addr) (bm:List Value):Prop where
 ex:∃nm q N bs hdct sn sub ab col dd k0 k1 k2 k3 k5 mN,K.lookup C=some (Cy nm q C N bs bm hdct sn sub ab col dd k0 k1 k2 k3 k5 "ValueError.__new__")/\(∀h:Heap,K.In h->h.Ns N mN)/\mN "__init__" = some (.ref fI)
 tail:∀h:Heap,K.In h->Ld h bmV bm
 fn:∃oI,K.lookup fI=some oI/\oI.cls=.type "function"
 kp:Fy K (.ref C)=true
theorem EMk.base{K:Af}(M:EMk K C fI bm)(KX:K.In h):bm.contains (.type "BaseException")=true:=(M.tail h KX).hasType (by decide)
section
variable{X:Cx}{pins:List (Addr×Obj)}{σ:St}{H:Hp}{s:Ah}{e:Addr}
theorem Inv.asO(I:Inv X pins σ H s)(h:H e=some (ExN C dd e)):Inv X pins σ (upd H e (ExO C dd e)) s:=by
 have un:Un (frs X.stack) [] H (upd H e (ExO C dd e)) s.heap s.heap:=by
  have hk:∀{b:Addr} {o:HO},H b=some o->b≠e\/o=ExN C dd e:=fun{b o} hb=>by
   by_cases z:b=e
   ·grind
   ·exact .inl z
  refine⟨fun b o hb _ _ _=>hb,fun b o hb _ _ _=>⟨o.slots,hb⟩,fun b o _ n _=>?_,fun b o hb _=>⟨o,hb⟩,fun b xs q=>?_,fun b o u q=>?_,fun b ps q=>⟨#[],?_⟩⟩
  ·rw[q0m (fun z=>by rw[z,h] at n;cases n)];exact n
  ·rcases hk q with z|z
   ·rw[q0m z];exact q
   ·cases z
  ·rcases hk q with z|z
   ·rw[q0m z];exact q
   ·cases z
  ·rcases hk q with z|z
   ·rw[q0m z,q];simp
   ·cases z
 have hok:HOk X.prog X.w (upd H e (ExO C dd e)) s.heap:=fun a o ha=>by
  by_cases z:a=e
  ·subst z;rw[q0e] at ha;cases ha;obtain⟨⟨vs,sl,q1,q2,_⟩,q3,_⟩:=I.hok a _ h;exact⟨⟨vs,sl,q1,q2⟩,q3,fun h1 h2 ⟨ws,sl,k1,k2⟩ k=>⟨ws,sl,k _ k1,k2⟩⟩
  ·rw[q0m z] at ha;refine(I.hok a o ha).stay (fun b u _ q=>q) (fun b q=>?_) fun b xs q=>?_
   ·rw[q0m (fun y=>by rw[y,h] at q;cases q)];exact q
   ·rw[q0m (fun y=>by rw[y,h] at q;cases q)];exact q
 exact I.call' (s':=s) rfl un hok I.bare fun b z=>absurd z (by simp)
def tRaise(C:Addr)(sp:Sp)(J:Addr->St->Hp->Prop)(t:TA):TS:=fun _ σ H=>t σ H fun vs H1=>∀ea,H1 ea=none ->
 sp (.ref ea::vs) (upd H1 ea (ExN (.ref C) none ea)) (fun v H2=>v=.non/\∃dd,H2 ea=some (ExN (.ref C) dd ea)/\J ea σ (upd H2 ea (ExO (.ref C) dd ea))) E0
theorem x0m{np cpos pos:Pos}(M:EMk X.K C fI bm)(F:FnOk X.prog X.w X.K X.mg X.base CX0 k fI fd ps sp)(hr:Room (k+1) X.A)(hb:Binds X.K fd ps [])(hx:AccX X J)(hc:X.calm=true)(hg:Gl X x)(hm:X.mg x=some (.ref C))(ha:PA X (e₀::es) t)(hps:ps.length<=100:=by decide)(hdb:(x==("__debug__" : Str))=false:=by decide)(he:Bd (e₀::es) X.env=(false,eval e₀ X.env)::Bd es X.env:=by rfl)(hpl:(Gu cpos (Bd es X.env)).any (·.1)=false:=by rfl):
  PS X (.Raise (some (.Call (.Name x np) (e₀::es) [] cpos)) none pos) (tRaise C sp J t):=by
 intro pins s σ H D I h;obtain⟨nm,q,N,bs,hdct,sn,sub,ab,col,dd,k0,k1,k2,k3,k5,mN,lk,hN,hi⟩:=M.ex;obtain⟨oI,lkI,hfc⟩:=M.fn;have key:wpAny (model X.prog X.w) X.A (eval (.Call (.Name x np) (e₀::es) [] cpos) X.env) (fun v s₁=>∃e de vs sl,v=.ref e/\s₁.heap.get? C=some (Cy nm q C N bs bm hdct sn sub ab col dd k0 k1 k2 k3 k5 "ValueError.__new__") /\
   s₁.heap.get? e=some { cls:=.ref C,dict:=de,data:=.fields vs,slots:=sl }/\vs[1]?=some .none/\X.xe (.ref e) s₁) X.xe s:=by
  refine Fc (q3g I hg hm ?_ hdb);refine Mm I.ok.mod.kin M.kp (thn (ha cpos pins s σ H _ I h) fun us s1 ⟨vs,H1,I1,r,hq⟩=>⟨I1.kIn,?_⟩) he hpl;obtain⟨hp,g,dr,tk,os⟩:=s1;have KX:=I1.kIn;have hlen:us.length<=sizeLine:=by
   have hh:=F.len _ _ _ _ (hq hp.objs.size (I1.hok.fresh (Aj _)));rw[Av] at hh;rw[<- r.length,Fe];lia
  refine q7z Im (M.tail hp KX) (KX _ _ lk) (hN hp KX) hi (KX _ _ lkI) hfc fun h' e hme hle=>?_;have hfree:=I1.hok.fresh hle;obtain⟨t0,hrec,_,_⟩:=hme.there;have I2:Inv X pins σ (upd H1 e (ExN (.ref C) none e)) ⟨h',g,dr,tk,os⟩:=I1.laid (h':=h') (t':=tk) (fun b u q=>hme.keeps b u q) hle ⟨⟨_,_,hrec,rfl,rfl⟩,⟨_,hrec⟩,fun h1 h2 ⟨ws,sl,k1,k2⟩ k=>⟨ws,sl,k _ k1,k2⟩⟩;have hq':=hq e hfree;have r2:Vals (V.ref e::vs) (Value.ref e::us):=.cons rfl r;have hl:((Value.ref e::us)++[]).length=ps.length:=by rw[Bi,<- r2.length];exact F.len _ _ _ _ hq'
  have hb':=hb ⟨h',g,dr,tk,os⟩ (Value.ref e::us) I2.kIn hl;rw[Bi] at hb';refine Fi (Gw (F.run _ X.stack _ _ ⟨Value.ref e::us,[]⟩ (Value.ref e::us) _ _ _ (hr.make C us []) (I2.env0.make C us []) hb' r2 hq') fun r s' hz=>?_);cases r with
  |error e=>exact hz.elim
  |ok fl =>
   cases fl with
   |ret u =>
    obtain⟨v,H',I3,rv,ev,de,hE,j⟩:=I2.after hz;subst ev;refine⟨rv,?_⟩;obtain⟨⟨ws,sl,q1,q2,q3⟩,_,_⟩:=I3.hok e _ hE;refine⟨e,de,ws,sl,rfl,I3.kIn _ _ lk,q1,q3,hx.acc _ _ ⟨pins,σ,_,e,rfl,I3.asO hE,⟨⟨_,_,q0e⟩,⟨_,ws,q1,rfl,.inl q3,fun T hT=>?_⟩,Aq I1.sz hle⟩,j⟩⟩;rw[q3] at hT;cases hT
   |next=>exact False.elim hz
   |brk=>exact False.elim hz
   |cont=>exact False.elim hz
 have hbase:=M.base I.kIn;first
  |exact Ac (Bz (raiseX hbase (I.ok.hd hc) (Ac (Bu key (fun v s₁ z=>Ac (Bz (Ak z))) fun _ _ z=>z))))
  |(simp only[evalOpt,Option.map];exact Ac (Bz (raiseX hbase (I.ok.hd hc) (Ac (Bu key (fun v s₁ z=>Ac (Bz (Ak z))) fun _ _ z=>z)))))
  |exact Ac (Bz (raiseX hbase (I.ok.hd hc) key))
end
open PySem PySem.Spec PyProof.Rows
section
variable{prog:Program}{w:World}{A:Around}{R:Result->Ah->Prop}{h:Heap}{g:Array Mu}{d:Drawn}{t:Nat}{os:Kd}
variable{nm q:Str}{C N:Addr}{bs bm bmB:List Value}{hdct:Bool}{sn:List Str}{sub:List Value}{ab:Bool}{col:Option Bool}{dd:Option Addr}{k0 k1 k2 k3 k5:Option Value}{B newId initId:String}
theorem z1l(F:Kr B newId initId bmB)(T:Ld h bmB bm){rest:List Value}(hC:h.get? C=some (Cy nm q C N bs bm hdct sn sub ab col dd k0 k1 k2 k3 k5 newId))(he:h.get? e=some { cls:=.ref C,dict:=de,data:=.fields vs,slots:=sl })(hs:vs.size=6)(hrest:rest.length<=sizeLine)(hq:R (.ok (.ret .none)) ⟨(h.push { cls:=.type "tuple",data:=.seq rest.toArray }).update e (Ft (·.setIfInBounds 0 (.ref h.objs.size))),g,d,t,os⟩):
  Fx (model prog w) A (.call (.builtin initId) ⟨.ref e::rest,[]⟩) R ⟨h,g,d,t,os⟩:=by
 refine El F.init.plain F.initEntry (wpAny_check_init_subT F T hC he rfl ?_);have he2:=Ae { cls:=.type "tuple",data:=.seq rest.toArray } he
 wp_walk
 have h0:vs[(0:Nat)]?=some (vs[0]'(by lia)):=Array.getElem?_eq_getElem (by lia);rw[h0];refine Ak (Ac (Ji he2 rfl (by lia) ?_));generalize vs[0]'(by lia)=v0;cases v0<;>(wp_walk;exact hq)
end
theorem upd_id(h:H a=some o):upd H a o=H:=by
 funext b;by_cases z:b=a
 ·rw[z,q0e,h]
 ·rw[q0m z]
structure ELow (K:Af) (C:Addr) (bm:List Value):Prop where
 ex:∃nm q N bs hdct sn sub ab col dd k0 k1 k2 k3 k5,K.lookup C=some (Cy nm q C N bs bm hdct sn sub ab col dd k0 k1 k2 k3 k5 "ValueError.__new__")
 tail:∀h:Heap,K.In h->Ld h bmV bm
theorem EMk.low{K:Af}(M:EMk K C fI bm):ELow K C bm:=by
 obtain⟨nm,q,N,bs,hdct,sn,sub,ab,col,dd,k0,k1,k2,k3,k5,mN,lk,_⟩:=M.ex;exact⟨⟨nm,q,N,bs,hdct,sn,sub,ab,col,dd,k0,k1,k2,k3,k5,lk⟩,M.tail⟩
structure EIni (K:Af) (D:Addr) (mc:Value):Prop where
 sp:Js K (.ref D) "__getattribute__" = some (some (.builtin "type.__getattribute__"))
 rd:W.readsIn K D mc=true
 fc:W.findCls K (.ref D) mc "__init__" = some (.val (.builtin "ValueError.__init__"))
section
variable{X:Cx}{x:Str}{p pos apos:Pos}{a b:Expr}{t:TA}{C D:Addr}{bm:List Value}{mc:Value}
def tIni(C:Addr)(t:TA):TE:=fun σ H Q=>t σ H fun vs H1=>∃ea v de,vs=[.ref ea,v]/\H1 ea=some (ExN (.ref C) de ea)/\Q .non H1
theorem x1x{pl:Sem Bool}(L:ELow X.K C bm)(N:EIni X.K D mc)(hg:Gl X x)(hm:X.mg x=some (.ref D))(ha:PA X [a,b] t)(hdb:(x==("__debug__" : Str))=false:=by decide)(hst:Bd [a,b] X.env=(false,eval a X.env)::Bd [b] X.env:=by rfl)(hpl:(Gu pos (Bd [b] X.env)).any (·.1)=false:=by rfl)(ht:eval (.Call (.Attribute (.Name x p) "__init__" apos) [a,b] [] pos) X.env=(do
   let ov<-eval (.Name x p) X.env
   Mh apos.atName
   let (f,first)<-Lb [ov] (getMethod ov "__init__" pl)
   callWith pos f first (Gu pos (Bd [a,b] X.env)) (backToKw pos (Rf [] X.env))):=by rfl):
  PE X (.Call (.Attribute (.Name x p) "__init__" apos) [a,b] [] pos) (tIni C t):=by
 intro pins s σ H Q I h;refine W.methodCall_KW (q3g I hg hm ?_ hdb) ht;refine W.method_cls I.kIn N.sp (W.cls_value I.kIn N.rd N.fc rfl ?_);refine Kj (thn (ha pos pins _ σ H _ (I.tok _) h) fun us s1 ⟨vs,H1,I1,r,ea,v,de,ev,hE,q⟩=>?_) hst hpl;subst ev;obtain⟨u1,u2,rfl,ru,rv⟩:=r.two;obtain rfl:u1=Value.ref ea:=ru;obtain⟨hp,g,dr,tk,os⟩:=s1;obtain⟨nm,q0,N0,bs,hdct,sn,sub,ab,col,dd,k0,k1,k2,k3,k5,lk⟩:=L.ex;obtain⟨⟨ws,sl,q1,q2,q3⟩,_,_⟩:=I1.hok ea _ hE;refine Fi (z1l Im (L.tail hp I1.kIn) (I1.kIn _ _ lk) q1 q2 (by show 1<=sizeLine;decide) ?_);have q1':=Ae { cls:=.type "tuple",data:=.seq #[u2] } q1;have hrec:=Eh (Ft (·.setIfInBounds 0 (Value.ref hp.objs.size))) q1' rfl;have I2:=I1.write (o:=ExN (.ref C) de ea) (t':=tk) (h':=(hp.push { cls:=.type "tuple",data:=.seq #[u2] }).update ea (Ft (·.setIfInBounds 0 (Value.ref hp.objs.size)))) (by rw[hE];exact trivial) (.inl rfl)
  (fun b u hb hu=>by rw[Ck _ _ (Dm hb)];exact Ae _ hu) ⟨_,hrec⟩
  ⟨⟨ws.setIfInBounds 0 (.ref hp.objs.size),sl,hrec,by simpa using q2,by rw[Array.getElem?_setIfInBounds_ne (by decide)];exact q3⟩,⟨_,hrec⟩,fun h1 h2 ⟨ws,sl,k1,k2⟩ k=>⟨ws,sl,k _ k1,k2⟩⟩
 rw[upd_id hE] at I2;exact⟨.non,H1,I2,rfl,q⟩
end
open PySem PySem.Spec PyProof.Rows
def ExMro(l:List Value):Prop:=∃rs:List Addr,l=rs.map Value.ref++bmV
theorem z5x(self:Value):Rz self "__setattr__" bmV=pure ():=by kernel_rfl
theorem z7y(self:Value)(h:ExMro l):Rz self "__setattr__" l=pure ():=by
 obtain⟨rs,rfl⟩:=h;induction rs with
 |nil=>exact z5x self
 |cons c r ih=>show Rz self "__setattr__" (.ref c::(r.map Value.ref++bmV))=_;rw[refuseLoop_ref];exact ih
theorem q8o(h:ExMro l):l.contains (.type "object")=true/\l.isEmpty=false:=by
 obtain⟨rs,rfl⟩:=h;refine⟨?_,?_⟩
 ·induction rs with
  |nil=>decide
  |cons c r ih=>show(Value.ref c::(r.map Value.ref++bmV)).contains _=true;rw[Ge,ih,Je]
 ·cases rs<;>rfl
structure ESet (K:Af) (C:Addr) (f:Str):Prop where
 cls:∃cd,Ke K C=some cd/\ExMro cd.mro/\cd.hasDict=true
 sa:Cd K (.ref C) "__setattr__" = some (some (.builtin "object.__setattr__"))
 tk:Cd K (.ref C) f=some none
section
variable{prog:Program}{w:World}{A:Around}{R:Result->Ah->Prop}{s:Ah}{K:Af}{x C:Addr}
theorem z1m(X:K.In s.heap)(I:Jy s.heap x ox C od)(S:ESet K C name)(h:wpAny (model prog w) A.in1 (Eo.ObjectAttr.storeInOwnDict (.ref x) (.ref C) (.str name tk) name v false)
   (fun fin s'=>match fin with|.done f=>R (.ok f) s'|.again c'=>c'.quiet=true/\Fx (model prog w) A c' R s') (fun e s'=>R (.error e) s') s):
  Fx (model prog w) A (.call (.builtin "object.__setattr__") ⟨[.ref x,.str name tk,v],[]⟩) R s:=by
 have SF:=PySem.F.store_object;obtain⟨cd,hc,ho,_⟩:=S.cls;have sub:Of (model prog w) s.heap (isInstance (.ref x) (.type "object")) true:=I.type.andThen (Pf X (by unfold Nz;rw[hc,Ez,if_neg (by rw[(q8o ho).2];decide),(q8o ho).1]));refine El SF.slot.plain SF.entry (@Qh (model prog w) _ _ s "object.__setattr__" "object" "__setattr__" (.ref x) [.str name tk,v] [] _ SF.kind SF.split sub (SF.args (.ref x) (.str name tk) v) ?_);have hm:Of (model prog w) s.heap (mroOf (.ref C)) cd.mro:=(Pg X hc).andThen .now;rw[W.osa_eq,refuse_eq];refine Ac (Ac (I.type.here (Ac (hm.here ?_))));rw[z7y _ ho];refine Ak (Ac (I.type.here (Ac ((Jk X S.tk).here (Ac ?_)))));exact Ak h
end
open PySem PySem.Spec PyProof.Rows
def XdO(d:Addr)(fs:List (Str×V)):HO:=.ext fun h=>∃mA,h.Ns1 d mA/\(∀f,RelO (fs.lookup f) (mA f))/\Pr mA (fs.map (·.1))
theorem x3o(n:h.Ns1 d mA)(r:∀f,RelO (fs.lookup f) (mA f))(wi:Pr mA (fs.map (·.1))):ObjOk P w H h d (XdO d fs) :=
 ⟨⟨mA,n,r,wi⟩,let ⟨o,_,_,e,_⟩:=n;⟨o,e⟩,fun h1 h2 ⟨mA,n,r,wi⟩ k=>⟨mA,n.at k,r,wi⟩⟩
theorem exn_ok(q1:h.get? e=some { cls:=C,dict:=dd,data:=.fields vs,slots:=sl })(q2:vs.size=6)(q3:vs[1]?=some .none):ObjOk P w H h e (ExN C dd e) :=
 ⟨⟨vs,sl,q1,q2,q3⟩,⟨_,q1⟩,fun h1 h2 ⟨ws,sl,k1,k2⟩ k=>⟨ws,sl,k _ k1,k2⟩⟩
section
variable{X:Cx}{pins:List (Addr×Obj)}{σ:St}{H:Hp}{s:Ah}{x C d:Addr}{f:Str}{y:V}{u:Value}{A:Around}{E:Value->Ah->Prop}{Q:Unit->Ah->Prop}
theorem z7z(I:Inv X pins σ H s)(hE:H x=some (ExN (.ref C) (some d) x))(hd:H d=some (XdO d fs))(S:ESet X.K C f)(hl:fs.length<1000)(ry:RelV y u)(h:∀s',Inv X pins σ (upd H d (XdO d (putF f y fs))) s'->Q () s'):wpAny (model X.prog X.w) A (setAttr (.ref x) f u) Q E s:=by
 obtain⟨⟨vs,sl,q1,q2,q3⟩,_,_⟩:=I.hok x _ hE;obtain⟨⟨mA,n,r,wi⟩,⟨od,hod⟩,_⟩:=I.hok d _ hd;have J:Jy s.heap x { cls:=.ref C,dict:=some d,data:=.fields vs,slots:=sl } C (some od):=⟨q1,rfl,rfl,hod⟩
 refine W.set_plain I.kIn J S.sa (z1m I.kIn J S ?_);obtain⟨cd,hc,_,hd'⟩:=S.cls;refine Ac (Ak (Ac (Ac (Og q1 (Ac (Of.here (Pg I.kIn hc) ?_))))));rw[hd'];refine Ak (Ac (Ak (Ac ?_)));refine wpAny_nsSet1 n fun h' hn2 hs2=>?_;obtain⟨oD,esD,epD,hoD,hdD,hcD⟩:=hn2.count (Qy f u wi);refine Ac (wpAny_lookBehind hoD (by rw[hdD];exact pastItsLine_dict (Aq hcD (by rw[Av,Ag,Fe];lia))) ?_);refine Ak (h _ (I.write (t':=s.toks+1+1) (h':=h') (by rw[hd];exact trivial) (.inl rfl) (fun b q hb z=>(hs2.2 b hb).trans z) ⟨_,hoD⟩ (x3o hn2 (fun g=>?_) fun g hg=>?_)))
 ·show RelO ((putF f y fs).lookup g) (if g=f then some u else mA g);rw[q4m];by_cases q:g=f
  ·rw[if_pos q,if_pos q];exact ry
  ·grind
 ·by_cases q:g=f
  ·rw[q];exact(q6v f y fs).1
  ·refine(q6v f y fs).2 g (wi g fun z=>hg ?_);rw[if_neg q];exact z
theorem z8a(I:Inv X pins σ H s)(hE:H x=some (ExN (.ref C) none x))(S:ESet X.K C f)(ry:RelV y u)(h:∀d s',H d=none->d≠x->Inv X pins σ (upd (upd (upd H d (XdO d [])) x (ExN (.ref C) (some d) x)) d (XdO d [(f,y)])) s'->Q () s'):wpAny (model X.prog X.w) A (setAttr (.ref x) f u) Q E s:=by
 obtain⟨⟨vs,sl,q1,q2,q3⟩,_,_⟩:=I.hok x _ hE;have J:Jy s.heap x { cls:=.ref C,dict:=none,data:=.fields vs,slots:=sl } C none:=⟨q1,rfl,rfl,trivial⟩
 refine W.set_plain I.kIn J S.sa (z1m I.kIn J S ?_);obtain⟨cd,hc,_,hd'⟩:=S.cls;refine Ac (Ak (Ac (Ac (Og q1 (Ac (Of.here (Pg I.kIn hc) ?_))))));rw[hd'];have hxlt:=Au q1;have hfresh:=I.hok.fresh (Aj s.heap.objs.size);have hne:=Gv hxlt;have e1:(s.heap.push Dx).get? s.heap.objs.size=some Dx:=Bb s.heap rfl;have e3:(s.heap.push Dx).Ns s.heap.objs.size (fun _=>none):=⟨Dx,#[],_,e1,rfl,(fun e he=>absurd he (by simp)),fun _=>rfl⟩
 have I1:=I.laid (o:=XdO s.heap.objs.size []) (h':=s.heap.push Dx) (t':=s.toks+1) (fun b u q=>Ae _ q) (Aj _) (x3o (Qr e3) (fun _=>True.intro) fun y hy=>absurd rfl hy);have q1':=Ae Dx q1;have hrec:=Eh (fun o:Obj=>{ o with dict:=some s.heap.objs.size }) q1' rfl;have hE1:upd H s.heap.objs.size (XdO s.heap.objs.size []) x=some (ExN (.ref C) none x):=by rw[q0m (Dm hne)];exact hE
 have I2:=I1.write (t':=s.toks+1) (h':=(s.heap.push Dx).update x (fun o:Obj=>{ o with dict:=some s.heap.objs.size })) (by rw[hE1];exact trivial) (.inl rfl)
  (fun b u hb hu=>by rw[Ck _ _ (Dm hb)];exact hu) ⟨_,hrec⟩ (exn_ok hrec q2 q3)
 have hd2:upd (upd H s.heap.objs.size (XdO s.heap.objs.size [])) x (ExN (.ref C) (some s.heap.objs.size) x) s.heap.objs.size=some (XdO s.heap.objs.size []):=by rw[q0m hne,q0e]
 obtain⟨⟨mA,n,r,wi⟩,⟨od,hod⟩,_⟩:=I2.hok _ _ hd2;refine Ac (wpAny_alloc (Ac (wpAny_update q1' ?_)));refine Ak (Ac (Ak (Ac ?_)));refine wpAny_nsSet1 n fun h' hn2 hs2=>?_
 obtain⟨oD,esD,epD,hoD,hdD,hcD⟩:=hn2.count (Qy f u wi);refine Ac (wpAny_lookBehind hoD (by rw[hdD];exact pastItsLine_dict (Aq hcD (by rw[Av,Ag,Fe];decide))) ?_);refine Ak (h s.heap.objs.size _ hfresh hne (I2.write (t':=s.toks+1+1) (h':=h') (by rw[hd2];exact trivial) (.inl rfl) (fun b q hb z=>(hs2.2 b hb).trans z) ⟨_,hoD⟩ (x3o hn2 (fun g=>?_) fun g hg=>?_)))
 ·have e:(putF f y []).lookup g=if g=f then some y else List.lookup g []:=q4m f g y []
  show RelO ((putF f y []).lookup g) (if g=f then some u else mA g);rw[e];by_cases q:g=f
  ·rw[if_pos q,if_pos q];exact ry
  ·grind
 ·by_cases q:g=f
  ·grind
  ·exfalso;have:=wi g fun z=>hg (by show(if g=f then some u else mA g)=none;rw[if_neg q];exact z);cases this
end
open PySem PySem.Spec PyProof.Rows
structure EGet (K:Af) (C:Addr) (f:Str):Prop where
 cls:∃cd,Ke K C=some cd/\ExMro cd.mro/\cd.hasDict=true
 ga:Cd K (.ref C) "__getattribute__" = some (some (.builtin "BaseException.__getattribute__"))
 gh:Cd K (.ref C) "__getattr__" = some none
 tk:Cd K (.ref C) f=some none
theorem z8b(h:ExMro l):l.contains (.type "BaseException")=true:=by
 obtain⟨rs,rfl⟩:=h;induction rs with
 |nil=>decide
 |cons c r ih=>show(Value.ref c::(r.map Value.ref++bmV)).contains _=true;rw[Ge,ih,Je]
section
variable{prog:Program}{w:World}{A:Around}{E:Value->Ah->Prop}{s:Ah}{K:Af}{x C:Addr}{ox:Obj}{od:Option Obj}{name:Str}{expr:Bool}{v:Value}{Q:Value->Ah->Prop}
theorem getE(X:K.In s.heap)(I:Jy s.heap x ox C od)(G:EGet K C name)(hf:Se K C od name=some (.value v))(hh:W.handedIn v=true)(h:Q v { s with toks:=s.toks+1 }):
  wpAny (model prog w) A (getAttr (.ref x) name expr) Q E s:=by
 obtain⟨hp,g,d,t,os⟩:=s;have L0:=I.type (M:=model prog w);have L1:=Jk (M:=model prog w) X G.ga;have L2:=Jk (M:=model prog w) X G.gh;have L3:=W.looks_find (M:=model prog w) X I hf;have SG:=Lv.ga;obtain⟨cd,hc,ho,_⟩:=G.cls;have sub:Of (model prog w) hp (isInstance (.ref x) (.type "BaseException")) true:=I.type.andThen (Pf X (by unfold Nz;rw[hc,Ez,if_neg (by rw[(q8o ho).2];decide),z8b ho]));have hk:builtinKind "BaseException.__getattribute__" = some .slot:=by decide +kernel
 have hsplit:splitId "BaseException.__getattribute__" = some ("BaseException", "__getattribute__"):=by decide +kernel
 refine Ac (wpAny_mkText (Du (Ac (L0.at (Ac (L1.at ?_))))));refine Ac (show wpAny _ _ (Ma (.ref C) "__getattr__") _ _ _ from L2.at ?_);have hx0:(expr&&onTheHeap (Value.builtin "BaseException.__getattribute__"))=false:=by cases expr<;>rfl
 unfold callGetattribute boundAndCalled;rw[hx0];refine Ac (Fs (Du (show wpAny _ _ (bindSpecial _ _ >>= _) _ _ _ from ?_)));refine Ac (Ak (Fi (El SG.plain Oh (@Qh (model prog w) _ _ _ "BaseException.__getattribute__" "BaseException" "__getattribute__" (.ref x) [.str name t] [] _ hk hsplit sub (Oz (.ref x) (.str name t)) ?_))));refine Ac (Ak (Ac (Ak (Ac (L0.at (Ac (L3.at ?_)))))));refine Ak ?_;show wpAny _ _ (handedOut v) _ _ _;rw[W.handedOut_of hh];exact Ak h
end
open PySem PySem.Spec PyProof.Rows
section
variable{X:Cx}{e o value:Expr}{f:Str}{pos pos':Pos}{ta tv:TE}
def tEfld(K:Af)(ta:TE)(f:Str):TE:=fun σ H Q=>ta σ H fun x H1=>∃a C d fs v,x=.ref a/\(H1 a=some (ExO (.ref C) (some d) a)\/H1 a=some (ExN (.ref C) (some d) a))/\H1 d=some (XdO d fs)/\EGet K C f/\fs.lookup f=some v/\Q v H1
theorem x1y(K:Af)(hK:X.K=K)(he:PE X e ta)(hb:Ik e f X.env (eval e X.env)=eval e X.env:=by rfl):PE X (.Attribute e f pos) (tEfld K ta f):=by
 subst hK;intro pins s σ H Q I h;refine x2v hb (thn (he pins s σ H _ I h) fun u s1 ⟨x,H1,I1,rx,a,C,d,fs,v,ex,ea,hd,G,l,q⟩=>?_);subst ex;obtain rfl:u=Value.ref a:=rx;obtain⟨⟨mA,n,r,wi⟩,_,_⟩:=I1.hok d _ hd;obtain⟨od,hod,hlk⟩:=z6x n;have hrec:∃vs sl,s1.heap.get? a=some { cls:=.ref C,dict:=some d,data:=.fields vs,slots:=sl }:=by
  rcases ea with ea|ea
  ·obtain⟨⟨vs,sl,q1,_⟩,_,_⟩:=I1.hok a _ ea;exact⟨vs,sl,q1⟩
  ·obtain⟨⟨vs,sl,q1,_⟩,_,_⟩:=I1.hok a _ ea;exact⟨vs,sl,q1⟩
 obtain⟨vs,sl,q1⟩:=hrec;have J:Jy s1.heap a { cls:=.ref C,dict:=some d,data:=.fields vs,slots:=sl } C (some od):=⟨q1,rfl,rfl,hod⟩
 have hr:=r f;rw[l] at hr;cases hm:mA f with
 |none=>rw[hm] at hr;exact hr.elim
 |some u =>
  rw[hm] at hr;have ru:=hr;have hh:Rc X.K C=true:=by
   obtain⟨cd,hc,_,hd'⟩:=G.cls;unfold Rc;rw[hc];exact hd'
  exact getE I1.kIn J G (W.findObj_own hh G.tk rfl (by rw[hlk,hm])) (z6y ru) ⟨v,H1,I1.tok _,ru,q⟩
def sEfld(K:Af)(ta tv:TE)(f:Str):TS:=fun D σ H=>tv σ H fun y H1=>ta σ H1 fun x H2=>∃a C,x=.ref a/\ESet K C f /\
 ((H2 a=some (ExN (.ref C) none a)/\∀d,H2 d=none->d≠a->D.nx σ (upd (upd (upd H2 d (XdO d [])) a (ExN (.ref C) (some d) a)) d (XdO d [(f,y)]))) \/
  ∃d fs,H2 a=some (ExN (.ref C) (some d) a)/\H2 d=some (XdO d fs)/\fs.length<1000/\D.nx σ (upd H2 d (XdO d (putF f y fs))))
theorem x1z(K:Af)(hK:X.K=K)(ha:PE X o ta)(hv:PE X value tv)(hs:Nf value (some (.Attribute o f pos')) pos.line X.env=pure false:=by rfl):PS X (.Assign [.Attribute o f pos'] value pos) (sEfld K ta tv f):=by
 subst hK;intro pins s σ H D I h;refine plainObj_wpAny_Assign_Attribute (thn (hv pins s σ H _ I h) fun u s1 ⟨y,H1,I1,ry,q⟩=>thn (ha pins s1 σ H1 _ I1 q) fun ov s2 ⟨x,H2,I2,rx,a,C,ex,S,q2⟩=>?_) hs;subst ex;obtain rfl:ov=Value.ref a:=rx;rcases q2 with⟨hE,q2⟩|⟨d,fs,hE,hd,hl,q2⟩
 ·exact z8a I2 hE S ry fun d s3 hn hne I3=>⟨σ,_,I3,q2 d hn hne⟩
 ·exact z7z I2 hE hd S hl ry fun s3 I3=>⟨σ,_,I3,q2⟩
end
open PySem PySem.Spec PyProof.Rows
structure EIsi (K:Af) (C:Addr):Prop where
 cls:∃cd,Ke K C=some cd/\ExMro cd.mro/\cd.hasDict=true
 ga:Cd K (.ref C) "__getattribute__" = some (some (.builtin "BaseException.__getattribute__"))
 gh:Cd K (.ref C) "__getattr__" = some none
 ha:Cd K (.ref C) "__class__" = some (some (.builtin "object.__class__"))
 hn:Js K (.builtin "object.__class__") "__get__" = some (some (.builtin "getset_descriptor.__get__"))
 htk:Qb K (.builtin "object.__class__")=some true
section
variable{prog:Program}{w:World}{A:Around}{E:Value->Ah->Prop}{s:Ah}{K:Af}{x C:Addr}{ox:Obj}{od:Option Obj}
theorem EIsi.obj(G:EIsi K C):Nz K C (.type "object")=some true:=by
 obtain⟨cd,hc,ho,_⟩:=G.cls;unfold Nz;rw[hc,Ez,if_neg (by rw[(q8o ho).2];decide),(q8o ho).1]
theorem classE{fill:Bool}(X:K.In s.heap)(I:Jy s.heap x ox C od)(G:EIsi K C)(h:Q (.ref C) s):
  wpAny (model prog w) A (getAttrBy (.ref x) (.str "__class__" tk) fill expr) Q E s:=by
 obtain⟨hp,g,d,t,os⟩:=s;have L0:=I.type (M:=model prog w);have L1:=Jk (M:=model prog w) X G.ga;have L2:=Jk (M:=model prog w) X G.gh;obtain⟨cd,hc,ho,_⟩:=G.cls;have hf:Se K C od "__class__" = some (.bind (.builtin "getset_descriptor.__get__") (.builtin "object.__class__")):=by
  unfold Se;rw[hc,Ez,G.ha,Ez];dsimp only;rw[G.hn,Ez];dsimp only;rw[G.htk,Ez]
 have L3:=W.looks_find (M:=model prog w) X I hf;have SG:=Lv.ga;have sub:Of (model prog w) hp (isInstance (.ref x) (.type "BaseException")) true:=I.type.andThen (Pf X (by unfold Nz;rw[hc,Ez,if_neg (by rw[(q8o ho).2];decide),z8b ho]));have hk:builtinKind "BaseException.__getattribute__" = some .slot:=by decide +kernel
 have hsplit:splitId "BaseException.__getattribute__" = some ("BaseException", "__getattribute__"):=by decide +kernel
 refine Du (Ac (L0.at (Ac (L1.at ?_))));refine Ac (show wpAny _ _ (Ma (.ref C) "__getattr__") _ _ _ from L2.at ?_);have hx0:(expr&&onTheHeap (Value.builtin "BaseException.__getattribute__"))=false:=by cases expr<;>rfl
 unfold callGetattribute boundAndCalled;rw[hx0];refine Ac (Fs (Du (show wpAny _ _ (bindSpecial _ _ >>= _) _ _ _ from ?_)));refine Ac (Ak (Fi (El SG.plain Oh (@Qh (model prog w) _ _ _ "BaseException.__getattribute__" "BaseException" "__getattribute__" (.ref x) [.str "__class__" tk] [] _ hk hsplit sub (Oz (.ref x) (.str "__class__" tk)) ?_))));refine Ac (Ak (Ac (Ak (Ac (L0.at (Ac (L3.at ?_)))))));refine Ac (Du (Fi (W.class_get X I G.obj (Ak ?_))));exact Ak h
theorem q9k(G:EIsi K C):W.KitX K (.ref x) (.ref C) (fun h=>∃ox od,Jy h x ox C od) where
 ty:=fun _ _ _ ⟨_,_,I⟩=>I.type
 it:=fun _ _ X _=>by
  obtain⟨cdD,hcD,_⟩:=G.cls;unfold Ke at hcD;split at hcD
  ·rename_i c' d' cd' sl' ho;intro A' Q' E' s' k q;exact Ac (Og (k _ _ (X _ _ ho)) (Ak q))
  ·cases hcD
 ne:=fun h tp dd its n sl X htp=>by
  obtain⟨cdD,hcD,_⟩:=G.cls;refine Qz.mpr fun q=>?_
  have e:=Value.ref.inj (beq_iff_eq.mp q);subst e;unfold Ke at hcD;split at hcD
  ·rename_i c' d' cd' sl' ho;have z:=(X _ _ ho).symm.trans htp;cases z
  ·cases hcD
 ca:=fun{prog w A E Q s} X ⟨ox,od,I⟩ k=>by
  refine Ac (wpAny_mkText (Ac (Fs (classE X I G ?_))));exact Ak k
end
open PySem PySem.Spec PyProof.Rows
def strKey(e:Lk):Bool:=match e.key with|.str _ _=>true|_=>false
def isNsK(K:Af)(N:Addr):Bool:=match K.lookup N with|some ⟨_,_,.dict es _,_⟩=>es.toList.all strKey|_=>false
def nsMapK(K:Af)(N:Addr)(name:Str):Option Value:=match K.lookup N with|some ⟨_,_,.dict es _,_⟩=>nsFind es name|_=>none
theorem ns_K{K:Af}(e:isNsK K N=true)(h:Heap)(X:K.In h):h.Ns N (nsMapK K N):=by
 unfold isNsK at e;split at e
 ·rename_i c d es ep sl q;refine⟨_,es,ep,X _ _ q,rfl,fun x hx=>?_,fun name=>?_⟩
  ·have hx':=Mp.mp e x (Ou.mpr hx);unfold strKey at hx';split at hx'
   ·grind
   ·cases hx'
  ·unfold nsMapK;rw[q]
 ·cases e
theorem z2y{K:Af}(e:Fv K N name=some (some v)):nsMapK K N name=some v:=by
 unfold Fv at e;unfold nsMapK;split at e
 ·rename_i c d es ep sl q;rw[q];dsimp only;split at e
  ·rename_i x hx;unfold nsFind findBy;rw[<- Lj,hx];exact Cg e
  ·split at e<;>cases e
 ·cases e
theorem q7j{K:Af}(e:Fv K N name=some none):nsMapK K N name=none:=by
 unfold Fv at e;unfold nsMapK;split at e
 ·rename_i c d es ep sl q;rw[q];dsimp only;split at e
  ·cases e
  ·rename_i hx;unfold nsFind findBy;rw[<- Lj,hx];rfl
 ·cases e
theorem q9l{K:Af}(l:K.lookup N=some ⟨oc,od,.dict es ep,sl⟩)(h:es.toList.all strKey=true):isNsK K N=true:=by
 unfold isNsK;rw[l];exact h
structure EBase (K:Af) (D:Addr):Prop where
 ex:∃nm q N bs sn sub ab col dd k0 k1 k2 k3 k5,K.lookup D=some (Cy nm q D N bs bmV true sn sub ab col dd k0 k1 k2 k3 k5 "ValueError.__new__")/\isNsK K N=true/\Fv K N "__init__" = some none
theorem EBase.cls{K:Af}(B:EBase K D):ECls K D bmV:=by
 obtain⟨nm,q,N,bs,sn,sub,ab,col,dd,k0,k1,k2,k3,k5,lk,_⟩:=B.ex;exact⟨⟨nm,q,N,bs,true,sn,sub,ab,col,dd,k0,k1,k2,k3,k5,_,lk⟩,by decide⟩
theorem EBase.tail{K:Af}(B:EBase K D)(h:Heap)(X:K.In h):Ld h bmV (.ref D::bmV):=by
 obtain⟨nm,q,N,bs,sn,sub,ab,col,dd,k0,k1,k2,k3,k5,lk,hn,hi⟩:=B.ex;exact .own (X _ _ lk) (ns_K hn h X) (q7j hi) .base
structure ELaw (K:Af) (C D fI:Addr):Prop where
 ex:∃nm q N bs sn sub ab col dd k0 k1 k2 k3 k5,K.lookup C=some (Cy nm q C N bs (.ref D::bmV) true sn sub ab col dd k0 k1 k2 k3 k5 "ValueError.__new__")/\isNsK K N=true/\Fv K N "__init__" = some (some (.ref fI))
 fn:∃oI,K.lookup fI=some oI/\oI.cls=.type "function"
 kp:Fy K (.ref C)=true
section
variable{K:Af}{C D fI:Addr}
theorem ELaw.mk_(L:ELaw K C D fI)(B:EBase K D):EMk K C fI (.ref D::bmV):=by
 obtain⟨nm,q,N,bs,sn,sub,ab,col,dd,k0,k1,k2,k3,k5,lk,hn,hi⟩:=L.ex;exact⟨⟨nm,q,N,bs,true,sn,sub,ab,col,dd,k0,k1,k2,k3,k5,nsMapK K N,lk,ns_K hn,z2y hi⟩,fun h X=>B.tail h X,L.fn,L.kp⟩
theorem ELaw.cls(L:ELaw K C D fI):ECls K C (.ref D::bmV):=by
 obtain⟨nm,q,N,bs,sn,sub,ab,col,dd,k0,k1,k2,k3,k5,lk,_⟩:=L.ex;exact⟨⟨nm,q,N,bs,true,sn,sub,ab,col,dd,k0,k1,k2,k3,k5,_,lk⟩,by rw[Ge,show bmV.contains (.type "BaseException")=true from by decide,Je]⟩
theorem ELaw.sub(L:ELaw K C D fI):SubX K (.ref C) D:=⟨C,_,rfl,L.cls,by simp⟩
theorem ELaw.clsIn(L:ELaw K C D fI):∃cd,Ke K C=some cd/\ExMro cd.mro/\cd.hasDict=true:=by
 obtain⟨nm,q,N,bs,sn,sub,ab,col,dd,k0,k1,k2,k3,k5,lk,_⟩:=L.ex;unfold Ke;rw[lk];exact⟨_,rfl,⟨[C,D],rfl⟩,rfl⟩
theorem ELaw.set(L:ELaw K C D fI)(sa:Cd K (.ref C) "__setattr__" = some (some (.builtin "object.__setattr__")))(tk:Cd K (.ref C) f=some none):ESet K C f:=⟨L.clsIn,sa,tk⟩
theorem ELaw.get(L:ELaw K C D fI)(ga:Cd K (.ref C) "__getattribute__" = some (some (.builtin "BaseException.__getattribute__")))(gh:Cd K (.ref C) "__getattr__" = some none)(tk:Cd K (.ref C) f=some none):EGet K C f:=⟨L.clsIn,ga,gh,tk⟩
end
open PySem PySem.Spec PyProof.Rows
structure CalE (P:Program) (w:World) (K:Af) (mg:Str->Option Value) (base:Heap) (x:Str) (C:Addr) (k:Nat) (ps:List Str) (sp:Sp):Prop where
 ex:∃fI fd bm,EMk K C fI bm/\FnOk P w K mg base CX0 k fI fd ps sp/\Binds K fd ps []
 at_:mg x=some (.ref C)
 sz:ps.length<=100
section
variable{X:Cx}{J:Addr->St->Hp->Prop}{k j:Nat}{C:Addr}{ps:List Str}{sp:Sp}{x:Str}{np cpos pos:Pos}{e₀:Expr}{es:List Expr}{t:TA}
theorem z8c(F:CalE X.prog X.w X.K X.mg X.base x C k ps sp)(hr:Room j X.A)(hx:AccX X J)(hc:X.calm=true)(ha:PA X (e₀::es) t)(hjk:k+1<=j:=by decide)(hg:Gl X x:=by rfl)(hdb:(x==("__debug__" : Str))=false:=by decide)(he:Bd (e₀::es) X.env=(false,eval e₀ X.env)::Bd es X.env:=by rfl)(hpl:(Gu cpos (Bd es X.env)).any (·.1)=false:=by rfl):
  PS X (.Raise (some (.Call (.Name x np) (e₀::es) [] cpos)) none pos) (tRaise C sp J t):=by
 obtain⟨fI,fd,bm,M,Fn,hb⟩:=F.ex;exact x0m M Fn (hr.mono hjk) hb hx hc hg F.at_ ha F.sz hdb he hpl
end
def spIni1(C:Addr)(f:Str):Sp:=fun vs H Q _=>∃ea v,vs=[.ref ea,v]/\H ea=some (ExN (.ref C) none ea)/\(∃n:Nat,v=.int (n:Int)/\n<=10^12)/\∀d,H d=none->d≠ea->Q .non (upd (upd (upd H d (XdO d [])) ea (ExN (.ref C) (some d) ea)) d (XdO d [(f,v)]))
structure Rfd (H:Hp) (ea C:Addr) (f:Str) (v:V):Prop where
 ex:∃d,H ea=some (ExO (.ref C) (some d) ea)/\H d=some (XdO d [(f,v)])
theorem raised1(hd:upd H1 ea (ExN (.ref C) none ea) d=none)(hne:d≠ea):
  ∃dd,(upd (upd (upd (upd H1 ea (ExN (.ref C) none ea)) d (XdO d [])) ea (ExN (.ref C) (some d) ea)) d (XdO d [(f,v)])) ea=some (ExN (.ref C) dd ea) /\
   Rfd (upd (upd (upd (upd (upd H1 ea (ExN (.ref C) none ea)) d (XdO d [])) ea (ExN (.ref C) (some d) ea)) d (XdO d [(f,v)])) ea (ExO (.ref C) dd ea)) ea C f v:=by
 refine⟨some d,?_,d,?_,?_⟩
 ·rw[q0m (Dm hne),q0e]
 ·rw[q0e]
 ·rw[q0m hne,q0e]
structure Ef (K:Af) (mg:Str->Option Value) (x:Str) (C D:Addr) (qual:Str) (st:Stmt) (ps:List Str):Prop where
 ex:∃f fd mc,Fun K "__init__" qual st f fd/\ELaw K C D f/\EBase K D/\EIni K D mc/\Binds K fd ps []
 at_:mg x=some (.ref C)
theorem Ef.cal{K:Af}{st:Stmt}(F:Ef K mg x C D qual st ps)(S:FnScope N ps (defScope st))(len:∀vs H Q E,sp vs H Q E->vs.length=ps.length)(hsz:ps.length<=100)(hbody:∀(mc:Value) (f:Addr) (cdv:Value) (A:Around) (outer:List Env) (s:Ah) (H:Hp) (vs:List V) (Q:VK) (E:XK),ELow K C (.ref D::bmV)->EIni K D mc->Room k (A.deeper (Hh qual (defScope st) s.heap.objs.size f cdv))->sp vs H Q E ->
   ∃t,PSs (cxOf CX0 P w K mg base N qual (defScope st) f cdv A outer s H E).nox (defBody st) t/\t { nx:=fun _ H'=>Q .non H',rt:=Q } (start N vs) H):CalE P w K mg base x C (k+1) ps sp:=by
 obtain⟨f,fd,mc,Fn,L,B,I,hb⟩:=F.ex;exact⟨⟨f,fd,_,L.mk_ B,Fn.ok S len fun cdv A outer s H vs Q E hr h=>hbody mc f cdv A outer s H vs Q E (L.mk_ B).low I hr h,hb⟩,F.at_,hsz⟩
open PySem PySem.Spec PyProof.Rows
structure Err (H:Hp) (a C:Addr):Prop where
 ex:∃dd,(H a=some (ExO (.ref C) dd a)\/H a=some (ExN (.ref C) dd a))/\(dd=none\/∃d fs,dd=some d/\H d=some (XdO d fs))
theorem Rfd.err(r:Rfd H ea C f v):Err H ea C:=by
 obtain⟨d,h1,h2⟩:=r.ex;exact⟨some d,.inl h1,.inr ⟨d,_,rfl,h2⟩⟩
theorem Rfd.same(r:Rfd H ea C f v)(sm:∀b o,H b=some o->H' b=some o):Rfd H' ea C f v:=by
 obtain⟨d,h1,h2⟩:=r.ex;exact⟨d,sm _ _ h1,sm _ _ h2⟩
theorem Err.same(r:Err H ea C)(sm:∀b o,H b=some o->H' b=some o):Err H' ea C:=by
 obtain⟨dd,h1,h2⟩:=r.ex;refine⟨dd,h1.imp (sm _ _) (sm _ _),?_⟩;rcases h2 with h2|⟨d,fs,h2,h3⟩
 ·exact .inl h2
 ·exact .inr ⟨d,fs,h2,sm _ _ h3⟩
theorem q8p:∀{cs:List Addr} {us:List Value},Vals (cs.map V.ref) us->us=cs.map Value.ref
 |[],_,.nil=>rfl
 |c::cs,_,.cons r t=>by
  have h:_=Value.ref c:=r;rw[h,q8p t,Bc]
section
variable{X:Cx}
theorem q4j(K:Af)(hK:X.K=K):CallR X (.builtin "isinstance") (fun xs H Q=>∃a C b,(∃c,xs=[.ref a,c]/\((∃D,c=.ref D/\Fb K (.ref C) (.ref D)=some b)\/(∃n,c=.ty n/\Fb K (.ref C) (.type n)=some b)\/∃(T:Addr) (cs:List Addr),c=.ref T/\SqT K H T (cs.map V.ref)/\Dj K (.ref C) (cs.map Value.ref)=some b))/\Err H a C/\EIsi K C/\Q (.bl b) H):=by
 subst hK;intro pins s σ H xs us Q I r h;obtain⟨a,C,b,⟨c,rfl,hc⟩,⟨dd,ha,hdd⟩,G,q⟩:=h;obtain⟨u,v,rfl,ru,rv⟩:=r.two;obtain rfl:u=Value.ref a:=ru;have hrec:∃ox od,Jy s.heap a ox C od:=by
  have hr:∃vs sl,s.heap.get? a=some { cls:=.ref C,dict:=dd,data:=.fields vs,slots:=sl }:=by
   rcases ha with ea|ea
   ·obtain⟨⟨vs,sl,q1,_⟩,_,_⟩:=I.hok a _ ea;exact⟨vs,sl,q1⟩
   ·obtain⟨⟨vs,sl,q1,_⟩,_,_⟩:=I.hok a _ ea;exact⟨vs,sl,q1⟩
  obtain⟨vs,sl,q1⟩:=hr;rcases hdd with rfl|⟨d,fs,rfl,hd⟩
  ·exact⟨_,none,q1,rfl,rfl,trivial⟩
  ·obtain⟨_,⟨od,hod⟩,_⟩:=I.hok d _ hd;exact⟨_,some od,q1,rfl,rfl,hod⟩
 rcases hc with⟨D,rfl,e⟩|⟨n,rfl,e⟩|⟨T,cs,rfl,hT,e⟩
 ·obtain rfl:v=Value.ref D:=rv;exact W.kia_one (q9k G) I.kIn hrec e (fun z=>nomatch z) fun tk=>⟨.bl b,H,I.tok _,rfl,q⟩
 ·obtain rfl:v=Value.type n:=rv;exact W.kia_one (q9k G) I.kIn hrec e (fun z=>nomatch z) fun tk=>⟨.bl b,H,I.tok _,rfl,q⟩
 ·obtain rfl:v=Value.ref T:=rv;obtain⟨its,r',⟨o,ho,oc,n,od⟩,_⟩:=I.tuple hT;rw[q8p r'] at od;obtain⟨c0,d0,dt0,sl0⟩:=o;subst oc;subst od;exact W.kia_tup (q9k G) I.kIn hrec ho e (fun z=>nomatch z) fun tk=>⟨.bl b,H,I.tok _,rfl,q⟩
end
open PySem PySem.Spec PyProof.Rows
section
variable{prog:Program}{w:World}{A:Around}{E:Value->Ah->Prop}{h:Heap}{g:Array Mu}{d:Drawn}{t:Nat}{os:Kd}
variable{nm q:Str}{C N:Addr}{bs bm bmB:List Value}{hdct:Bool}{sn:List Str}{sub:List Value}{ab:Bool}{col:Option Bool}{dd:Option Addr}{k0 k1 k2 k3 k5:Option Value}{B newId initId:String}
theorem q6g(F:Kr B newId initId bmB)(T:Ld h bmB bm){rest:List Value}(hC:h.get? C=some (Cy nm q C N bs bm hdct sn sub ab col dd k0 k1 k2 k3 k5 newId))(hn:h.Ns N mN)(hi:mN "__init__" = none)(hq:∀h' e,Le h h' e (.ref C) rest->h.objs.size<=e ->
   Q (.done (.ret (.ref e))) ⟨h',g,d,t,os⟩)(hrest:rest.length<=sizeLine:=by size_fits):
  wpAny (model prog w) A (Eo.«type.__call__» ⟨.ref C::rest,[]⟩) Q E ⟨h,g,d,t,os⟩:=by
 repeat (first|with_reducible refine Ds hC ?_|with_reducible refine wpAny_madeBy_exc hC ?_|wp_step)
 refine Me (Hj _ F.quiet) (Ox F T hC ?_);refine Oy F T hC ?_ hrest;have hC₁:=Ae { cls:=.ref C,data:=.fields #[.ref h.objs.size,.none,.none,.none,.bool false,.none] }
  (Ae { cls:=.type "tuple",data:=.seq rest.toArray } hC)
 have hn₁:((h.push { cls:=.type "tuple",data:=.seq rest.toArray }).push { cls:=.ref C,data:=.fields #[.ref h.objs.size,.none,.none,.none,.bool false,.none] }).Ns N mN :=
  let ⟨o,es,ep,e,r⟩:=hn;⟨o,es,ep,Ae _ (Ae _ e),r⟩
 have hget:((h.push { cls:=.type "tuple",data:=.seq rest.toArray }).push
   { cls:=.ref C,data:=.fields #[.ref h.objs.size,.none,.none,.none,.bool false,.none] }).get? (h.objs.size+1)=some
   { cls:=.ref C,data:=.fields #[.ref h.objs.size,.none,.none,.none,.bool false,.none] }:=by heap_get
 have T₁:=T.keeps (h':=(h.push { cls:=.type "tuple",data:=.seq rest.toArray }).push { cls:=.ref C,data:=.fields #[.ref h.objs.size,.none,.none,.none,.bool false,.none] })
  fun b o e=>Ae _ (Ae _ e)
 have hcC:(Value.ref C::bm).contains (.ref C)=true:=by simp
 repeat (first|with_reducible refine Ds hget ?_|(with_reducible refine Hc hC₁ ?_;rw[hcC])|wp_step)
 refine Oe hC₁ hn₁ T₁ F.mroIs F.init.lookup ?_;rw[hi];refine Du (Ac ?_);have hb:=F.init.bind (.ref (h.objs.size+1));rw[hb];refine Ak (Ac (Fi (z1l F T₁ hC₁ hget rfl hrest ?_)));have hget2:=Ae { cls:=.type "tuple",data:=.seq rest.toArray } hget;generalize hP:(h.push { cls:=.type "tuple",data:=.seq rest.toArray }).push { cls:=.ref C,data:=.fields #[.ref h.objs.size,.none,.none,.none,.bool false,.none] }=P at *;have hrec:=Eh (Ft (·.setIfInBounds 0 (Value.ref P.objs.size))) hget2 rfl;have hPs:P.objs.size=h.objs.size+2:=by rw[<- hP];simp[Heap.push]
 wp_walk
 refine hq _ (h.objs.size+1) ⟨fun b o hb=>?_,Gm (Hm _),P.objs.size,hrec,Gm (by lia),?_⟩ (Hm _)
 ·have hlt:=Au hb;rw[Ck _ _ (fun z=>absurd hlt (Hk.mpr (by rw[<- z];exact Hm _)))];refine Ae _ ?_;rw[<- hP];exact Ae _ (Ae _ hb)
 ·rw[Ck _ _ (fun z=>absurd (hPs.symm.trans z.symm) (by lia))];exact Qx rfl rfl
theorem z2z(F:Kr B newId initId bmB)(T:Ld h bmB bm){rest:List Value}(hC:h.get? C=some (Cy nm q C N bs bm hdct sn sub ab col dd k0 k1 k2 k3 k5 newId))(hn:h.Ns N mN)(hi:mN "__init__" = none)(hq:∀h' e,Le h h' e (.ref C) rest->h.objs.size<=e ->
   Q (.ref e) ⟨h',g,d,t,os⟩)(hrest:rest.length<=sizeLine:=by size_fits):
  wpAny (model prog w) A (call (.ref C) rest) Q E ⟨h,g,d,t,os⟩:=by
 have f1:=tc_lookup;have f2:=tc_bind (.ref C);refine Fi (Kp ?_);repeat (any_goals (first|assumption|with_reducible refine Ds hC ?_|wp_step))
 refine⟨rfl,?_⟩;refine Na (Hj _ (by decide +kernel)) entry_typeCall (Mf hC (q6g F T hC hn hi fun h' e hm hle=>?_));exact hq h' e hm hle
end
open PySem PySem.Spec PyProof.Rows
structure ELaw0 (K:Af) (C D:Addr):Prop where
 ex:∃nm q N bs sn sub ab col dd k0 k1 k2 k3 k5,K.lookup C=some (Cy nm q C N bs (.ref D::bmV) true sn sub ab col dd k0 k1 k2 k3 k5 "ValueError.__new__")/\isNsK K N=true/\Fv K N "__init__" = some none
 kp:Fy K (.ref C)=true
 base:EBase K D
theorem ELaw0.clsIn{K:Af}(L:ELaw0 K C D):∃cd,Ke K C=some cd/\ExMro cd.mro/\cd.hasDict=true:=by
 obtain⟨nm,q,N,bs,sn,sub,ab,col,dd,k0,k1,k2,k3,k5,lk,_⟩:=L.ex;unfold Ke;rw[lk];exact⟨_,rfl,⟨[C,D],rfl⟩,rfl⟩
theorem ELaw0.sub{K:Af}(L:ELaw0 K C D):SubX K (.ref C) D:=by
 obtain⟨nm,q,N,bs,sn,sub,ab,col,dd,k0,k1,k2,k3,k5,lk,_⟩:=L.ex;exact⟨C,_,rfl,⟨⟨nm,q,N,bs,true,sn,sub,ab,col,dd,k0,k1,k2,k3,k5,_,lk⟩,by rw[Ge,show bmV.contains (.type "BaseException")=true from by decide,Je]⟩,by simp⟩
section
variable{X:Cx}{J:Addr->St->Hp->Prop}{C D:Addr}{x:Str}{np cpos pos:Pos}{e₀:Expr}{es:List Expr}{t:TA}
def tRaise0(C:Addr)(J:Addr->St->Hp->Prop)(t:TA):TS:=fun _ σ H=>t σ H fun vs H1=>vs.length<=100/\∀ea,H1 ea=none->J ea σ (upd (upd H1 ea (ExN (.ref C) none ea)) ea (ExO (.ref C) none ea))
theorem q2p(M:ELaw0 X.K C D)(hx:AccX X J)(hc:X.calm=true)(hm:X.mg x=some (.ref C))(ha:PA X (e₀::es) t)(hg:Gl X x:=by rfl)(hdb:(x==("__debug__" : Str))=false:=by decide)(he:Bd (e₀::es) X.env=(false,eval e₀ X.env)::Bd es X.env:=by rfl)(hpl:(Gu cpos (Bd es X.env)).any (·.1)=false:=by rfl):
  PS X (.Raise (some (.Call (.Name x np) (e₀::es) [] cpos)) none pos) (tRaise0 C J t):=by
 intro pins s σ H Dn I h;obtain⟨nm,q,N,bs,sn,sub,ab,col,dd,k0,k1,k2,k3,k5,lk,hN,hi⟩:=M.ex;have key:wpAny (model X.prog X.w) X.A (eval (.Call (.Name x np) (e₀::es) [] cpos) X.env) (fun v s₁=>∃e de vs sl,v=.ref e/\s₁.heap.get? C=some (Cy nm q C N bs (.ref D::bmV) true sn sub ab col dd k0 k1 k2 k3 k5 "ValueError.__new__") /\
   s₁.heap.get? e=some { cls:=.ref C,dict:=de,data:=.fields vs,slots:=sl }/\vs[1]?=some .none/\X.xe (.ref e) s₁) X.xe s:=by
  refine Fc (q3g I hg hm ?_ hdb);refine Mm I.ok.mod.kin M.kp (thn (ha cpos pins s σ H _ I h) fun us s1 ⟨vs,H1,I1,r,hq0,hq⟩=>⟨I1.kIn,?_⟩) he hpl;obtain⟨hp,g,dr,tk,os⟩:=s1;have KX:=I1.kIn;have hlen:us.length<=sizeLine:=by
   rw[<- r.length,Fe];lia
  refine z2z Im (M.base.tail hp KX) (KX _ _ lk) (ns_K hN hp KX) (q7j hi) fun h' e hme hle=>?_;have hfree:=I1.hok.fresh hle;obtain⟨t0,hrec,_,_⟩:=hme.there;have I2:Inv X pins σ (upd H1 e (ExN (.ref C) none e)) ⟨h',g,dr,tk,os⟩:=I1.laid (h':=h') (t':=tk) (fun b u q=>hme.keeps b u q) hle ⟨⟨_,_,hrec,rfl,rfl⟩,⟨_,hrec⟩,fun h1 h2 ⟨ws,sl,k1,k2⟩ k=>⟨ws,sl,k _ k1,k2⟩⟩;have j:=hq e hfree;have hE:upd H1 e (ExN (.ref C) none e) e=some (ExN (.ref C) none e):=q0e;obtain⟨⟨ws,sl,q1,q2,q3⟩,_,_⟩:=I2.hok e _ hE;refine⟨e,none,ws,sl,rfl,I2.kIn _ _ lk,q1,q3,hx.acc _ _ ⟨pins,σ,_,e,rfl,I2.asO hE,⟨⟨_,_,q0e⟩,⟨_,ws,q1,rfl,.inl q3,fun T hT=>?_⟩,Aq I1.sz hle⟩,j⟩⟩;rw[q3] at hT;cases hT
 have hbase:=(M.base.tail _ I.kIn).hasType (show bmV.contains (.type "BaseException")=true by decide);first
  |exact Ac (Bz (raiseX hbase (I.ok.hd hc) (Ac (Bu key (fun v s₁ z=>Ac (Bz (Ak z))) fun _ _ z=>z))))
  |(simp only[evalOpt,Option.map];exact Ac (Bz (raiseX hbase (I.ok.hd hc) (Ac (Bu key (fun v s₁ z=>Ac (Bz (Ak z))) fun _ _ z=>z)))))
  |exact Ac (Bz (raiseX hbase (I.ok.hd hc) key))
end
open PySem PySem.Spec PyProof.Rows
section
variable{M:Model}{A:Around}{E:Value->Ah->Prop}{h:Heap}{g:Array Mu}{d:Drawn}{t:Nat}{os:Kd}
def HCls(h:Heap)(C:Addr)(bm:List Value):Prop:=∃nm q N bs hdct sn sub ab col dd k0 k1 k2 k3 k5 newId,h.get? C=some (Cy nm q C N bs bm hdct sn sub ab col dd k0 k1 k2 k3 k5 newId)
theorem ECls.hp{K:Af}{C:Addr}{bm:List Value}(e:ECls K C bm)(X:K.In h):HCls h C bm:=by
 obtain⟨nm,q,N,bs,hdct,sn,sub,ab,col,dd,k0,k1,k2,k3,k5,newId,lk⟩:=e.ex;exact⟨nm,q,N,bs,hdct,sn,sub,ab,col,dd,k0,k1,k2,k3,k5,newId,X _ _ lk⟩
set_option maxHeartbeats 4000000 in
end
section
variable{X:Cx}{pins:List (Addr×Obj)}{σ:St}{H:Hp}{s:Ah}
def Lnd(h:Heap)(ea:Addr):Prop:=∃oe vs T,h.get? ea=some oe/\oe.data=.fields vs/\TbAt h ea vs T .none
theorem z8d{ea:Addr}{oe:Obj}{vs:Array Value}{T:Addr}{fl:Value}{Aa:Around}{Ee:Value->Ah->Prop}{Q:Unit->Ah->Prop}(I:Inv X pins σ H s)(F:FlX X pins H s ea)(e:s.heap.get? ea=some oe)(d:oe.data=.fields vs)(t:TbAt s.heap ea vs T fl)(k:∀h',Inv X pins σ H { s with heap:=h' }->FlX X pins H { s with heap:=h' } ea->Lnd h' ea->Q () { s with heap:=h' }):wpAny (model X.prog X.w) Aa (setFlight (.ref ea) none) Q Ee s:=by
 have hTf:T∉frs X.stack:=fun hm=>by
  obtain⟨_,_,oT,ts,q1,q2,_⟩:=t;obtain⟨_,o,ho,hnf⟩:=I.stack.mem hm;rw[q1] at ho;injection ho with ho;subst ho;exact hnf ts q2
 obtain⟨oe1,vs1,e1,d1,_,hT1⟩:=F.tb;have q:oe1=oe/\vs1=vs:=by
  rw[e] at e1;injection e1 with z;subst z;rw[d] at d1;injection d1 with y;exact⟨rfl,y.symm⟩
 obtain⟨rfl,rfl⟩:=q;refine flightX (f:=none) e d t hTf fun h3 L3=>?_
 obtain⟨I3,F3,oe3,vs3,T3,e3,d3,t3⟩:=I.leftX F e d (.inl rfl) hT1 L3;exact k h3 I3 F3 ⟨oe3,vs3,T3,e3,d3,t3⟩
def PH(X:Cx)(hs:List ExceptHandler)(t:Addr->TS):Prop:=∀ea pins s σ H D E,X.Ok->Inv X pins σ H s->FlX X pins H s ea->Lnd s.heap ea->t ea D σ H->wpAny (model X.prog X.w) X.A (handleBy (.ref ea) X.env hs) (SP X pins D) E s
def tTryH(th:Addr->TS)(tb:(Addr->St->Hp->Prop)->TS):TS:=fun D σ H=>∃J:Addr->St->Hp->Prop,(∀ea σ' H',J ea σ' H'->th ea D σ' H')/\tb J D σ H
theorem x3p{body:List Stmt}{h₀:ExceptHandler}{hs:List ExceptHandler}{pos:Pos}{tb:(Addr->St->Hp->Prop)->TS}{th:Addr->TS}(hst:X.stack=X.env::X.outer)(hf:X.env.frame=some X.env.locals)(hb:∀pn J,PSs ((X.pinned pn).wish (XE (X.pinned pn) J)) body (tb J))(hh:PH X (h₀::hs) th):PS X (.Try body (h₀::hs) [] [] pos) (tTryH th tb):=by
 intro pins s σ H D I ⟨J,hJ,q⟩;refine wpAny_Try_except (Bu (hb (X.pn++pins) J [] s σ H D (I.toPn.wish _) q) (fun f s1 z=>?_) fun e s1 z=>?_)
 ·have z':=z.unwish;have z2:SP X pins D f s1:=by
   cases f with
   |next=>obtain⟨σ',H',I',q'⟩:=z';exact⟨σ',H',I'.ofPn,q'⟩
   |brk=>obtain⟨σ',H',I',q'⟩:=z';exact⟨σ',H',I'.ofPn,q'⟩
   |cont=>obtain⟨σ',H',I',q'⟩:=z';exact⟨σ',H',I'.ofPn,q'⟩
   |ret u=>obtain⟨v,σ',H',I',r,q'⟩:=z';exact⟨v,σ',H',I'.ofPn,r,q'⟩
  cases f with
  |next=>exact Iq z2
  |ret v=>exact z2
  |brk=>exact z2
  |cont=>exact z2
 ·obtain⟨pins',σ1,H1,ea,rfl,I1,F1,j⟩:=z;have I1:=I1.ofPn;have F1:=F1.ofPn;obtain⟨oe,vs,he,hd,ht,hT⟩:=F1.tb;have hfr:X.A.frames=some (X.env::X.outer):=by rw[<- hst];exact I.ok.frames
  have hl:s1.heap.FunFrames X.base (X.env::X.outer):=by rw[<- hst];exact I1.stack
  refine noteX hfr hl hf he hd ht fun h2 L2=>?_;rw[<- x1w hst] at L2;obtain⟨I2,F2,oe2,vs2,T2,e2,d2,t2⟩:=I1.leftX F1 he hd (.inr rfl) hT L2;exact z8d I2 F2 e2 d2 t2 fun h3 I3 F3 l3=>hh ea pins _ σ1 H1 D _ I.ok I3 F3 l3 (hJ ea σ1 H1 j)
def subE(c:Addr)(bm:List Value)(C:Addr):Bool:=(Value.ref c::bm).contains (.ref C)
theorem cls_at{c:Addr}{dd:Option Addr}{ea:Addr}(I:Inv X pins σ H s)(h:H ea=some (ExO (.ref c) dd ea)):∃oe,s.heap.get? ea=some oe/\oe.cls=.ref c:=by
 obtain⟨⟨ws,sl,z,_⟩,_,_⟩:=I.hok ea _ h;exact⟨_,z,rfl⟩
theorem ph_nil:PH X [] (fun _ _ _ _=>False):=fun _ _ _ _ _ _ _ _ _ _ _ h=>h.elim
def hAs(K:Af)(i:Nat)(C:Addr)(th:TS)(tr:Addr->TS):Addr->TS:=fun ea D σ H=>∃c bm dd,H ea=some (ExO (.ref c) dd ea)/\ECls K c bm/\if subE c bm C=true then th (gone i D) (σ.set i (some (.ref ea))) H else tr ea D σ H
theorem z8e{suite:List Stmt}{b₀:Stmt}{dn n:Str}{i:Nat}{C:Addr}{bmC:List Value}{dp hp:Pos}{rest:List ExceptHandler}{th:TS}{tr:Addr->TS}(K:Af)(hK:X.K=K)(hN:X.N.Nodup)(hi:X.N[i]?=some n)(hk:X.env.scope.names.lookup n=some .local)(hg:Gl X dn)(hm:X.mg dn=some (.ref C))(eC:ECls X.K C bmC)(hh:∀ea,PSs (X.hand ea) (b₀::suite) th)(hr:PH X rest tr)(hdb:(dn==("__debug__" : Str))=false:=by decide):
  PH X (.ExceptHandler (some (.Name dn dp)) (some n) (b₀::suite) hp::rest) (hAs K i C th tr):=by
 subst hK;intro ea pins s σ H D E ok I F ⟨oe,vs,T,e3,d3,t3⟩ ⟨c,bm,dd,hat,eCc,q⟩;refine wpAny_handleBy_cons (codeAny_handlers_test ?_) (by intro z;cases z);refine q3g (X:=X.hand ea) (I.hand ea) hg hm ?_ hdb;obtain⟨nm,q0,N,bs,hdct,sn,sub,ab,col,dd0,k0,k1,k2,k3,k5,newId,lk⟩:=eCc.ex;obtain⟨nm',q0',N',bs',hdct',sn',sub',ab',col',dd0',k0',k1',k2',k3',k5',newId',lk'⟩:=eC.ex;obtain⟨oe4,e4,c4⟩:=cls_at I hat;refine excMatchX (I.kIn _ _ lk) (I.kIn _ _ lk') e4 c4 eC.base ?_;cases hs:(Value.ref c::bm).contains (.ref C) with
 |false =>
  unfold subE at q;rw[hs,if_neg (by decide)] at q;exact hr ea pins s σ H D E ok I F ⟨oe,vs,T,e3,d3,t3⟩ q
 |true =>
 unfold subE at q;rw[hs,if_pos rfl] at q;refine codeAny_handlers_suite_as (z8d I F e3 d3 t3 fun h5 I5 F5 _=>?_);refine q4e (X:=X.hand ea) (I5.hand ea) hN hi (.inl hk) (show RelV (.ref ea) (.ref ea) from rfl) (fun s6 I6=>?_) (.inr hk);refine Bu (hh ea pins s6 _ H (gone i D) I6 q) (fun f s7 z=>?_) fun _ _ z=>z.elim;cases f with
 |next =>
  obtain⟨σ',H',I',q'⟩:=z;exact q9j (I'.unhand ok) hN hi hk fun s8 I8=>⟨_,H',I8,q'⟩
 |brk =>
  obtain⟨σ',H',I',q'⟩:=z;exact q9j (I'.unhand ok) hN hi hk fun s8 I8=>⟨_,H',I8,q'⟩
 |cont =>
  obtain⟨σ',H',I',q'⟩:=z;exact q9j (I'.unhand ok) hN hi hk fun s8 I8=>⟨_,H',I8,q'⟩
 |ret u =>
  obtain⟨v,σ',H',I',r,q'⟩:=z;exact q9j (I'.unhand ok) hN hi hk fun s8 I8=>⟨v,_,H',I8,r,q'⟩
theorem FlX.push{ea:Addr}{o:Obj}{ho:HO}(F:FlX X pins H s ea)(l:Lnd s.heap ea)(hf:H s.heap.objs.size=none):FlX X pins (upd H s.heap.objs.size ho) { s with heap:=s.heap.push o } ea/\Lnd (s.heap.push o) ea:=by
 obtain⟨oe,vs,T,e1,d1,t1,t2,oT,ts,t3,t4,t5⟩:=l;obtain⟨oe',vs',e2,d2,tk,hT⟩:=F.tb;obtain⟨C,dd,at_⟩:=F.at_;have n1:ea≠s.heap.objs.size:=fun z=>by rw[z,hf] at at_;cases at_
 rw[e1] at e2;injection e2 with e2;subst e2;rw[d1] at d2;injection d2 with d2;subst d2;have n2:T≠s.heap.objs.size:=By (Au t3);have p1:=Ae o e1;have p3:=Ae o t3;refine⟨⟨⟨C,dd,by rw[q0m n1];exact at_⟩,⟨oe,vs,p1,d1,.inr ⟨T,.inl ⟨t1,t2,oT,ts,p3,t4,t5⟩⟩,fun T' hT'=>?_⟩,F.new⟩,⟨oe,vs,T,p1,d1,t1,t2,oT,ts,p3,t4,t5⟩⟩;obtain⟨a1,a2,a3⟩:=hT T' hT';have:T'=T:=by rw[t1] at hT';injection hT' with z;injection z with z;exact z.symm
 subst this;exact⟨a1,by rw[q0m n2];exact a2,a3⟩
end
open PySem PySem.Spec
theorem q3j{X:Cx}{e:Expr}{t₁ t₂:TE}(h1:PE X e t₁)(h2:PE X e t₂):PE X e (fun σ H Q=>t₁ σ H Q\/t₂ σ H Q):=by
 intro pins s σ H Q I h;rcases h with h|h
 ·exact h1 pins s σ H Q I h
 ·exact h2 pins s σ H Q I h
theorem ELaw0.cls{K:Af}(L:ELaw0 K C D):ECls K C (.ref D::bmV):=by
 obtain⟨nm,q,N,bs,sn,sub,ab,col,dd,k0,k1,k2,k3,k5,lk,_⟩:=L.ex;exact⟨⟨nm,q,N,bs,true,sn,sub,ab,col,dd,k0,k1,k2,k3,k5,_,lk⟩,by rw[Ge,show bmV.contains (.type "BaseException")=true from by decide,Je]⟩
open PySem PySem.Spec PyProof.Rows
def InnW(J2:It)(g2:TG)(te:TE)(σ2:St)(D:Addr)(ys0:List V)(N:List V->Hp->Prop)(H3:Hp):Prop :=
 ∃W:Nat->Nat->List V->Hp->Prop,(∃m,W 0 m ys0 H3)/\∀i m ys H,W i m ys H->(J2.stop i H/\N ys H)\/(J2.go i H/\∃N2:List V->Hp->Prop,(∀zs H',N2 zs H'->∃m',m'<m/\W (i+1) m' zs H')/\∀x H',J2.yld i H x H'->g2 x σ2 H' fun σ4 H4=>Keeps0 σ2 σ4/\te σ4 H4 fun v H5=>H5 D=some (.lst ys)/\ys.length<sizeLine/\N2 (ys++[v]) (upd H5 D (.lst (ys++[v]))))
def CompW2(J:It)(g:TG)(wi2:TI)(g2:TG)(te:TE)(σ0:St)(D:Addr)(Fin:List V->Hp->Prop)(H1:Hp):Prop :=
 ∃W:Nat->Nat->List V->Hp->Prop,(∃m,W 0 m [] (upd H1 D (.lst [])))/\∀i m ys H,W i m ys H->H D=some (.lst ys) /\
  ((J.stop i H/\Fin ys H)\/(J.go i H/\∃N:List V->Hp->Prop,(∀zs H',N zs H'->∃m',m'<m/\W (i+1) m' zs H')/\∀x H',J.yld i H x H'->g x σ0 H' fun σ2 H2=>Keeps0 σ0 σ2/\wi2 σ2 H2 fun J2 H3=>InnW J2 g2 te σ2 D ys N H3))
theorem q3k{elt target2 iter2 ifs2 c0 scope pos it acc env}(h0:Fx (model prog w) A (.compLoop (.ListComp elt [c0,⟨target2,iter2,ifs2,0⟩] scope pos) 1 it acc env) R s)(h:wpAny (model prog w) A (Jr it) (fun it' s'=>Fx (model prog w) A (.compLoop (.ListComp elt [c0,⟨target2,iter2,ifs2,0⟩] scope pos) 1 it' acc env) R s')
   (notedBy (model prog w) A env fun x s'=>R (.error x) s') s):
  Fx (model prog w) A (.compStart (.ListComp elt [c0,⟨target2,iter2,ifs2,0⟩] scope pos) 1 it acc env) R s:=by
 refine Kp ?_;show wpAny _ _ ((compStart (.ListComp elt [c0,⟨target2,iter2,ifs2,0⟩] scope pos) 1 it acc env).onRaise (fun x=>do noteFrame x env;Mh theWindowsPlace)) _ _ s;refine wpAny_notedAt ?_;unfold compStart;show wpAny _ _ (ask >>= _) _ _ s;refine Ac (wpAny_askSetting (wpAny_ite ?_));split
 ·first
   |exact Ac (Ak (Ak (And.intro rfl h0)))
   |exact Ak (And.intro rfl h0)
 ·first
   |exact Ac (Jh (Ac (Bz (Ac (Bu h (fun it' s' h'=>Ak (And.intro rfl h')) fun _ _ x=>x)))))
   |(refine Ac (Jh ?_);show wpAny _ _ (Mh iter2.pos >>= _) _ _ s;exact Ac (Bz (Ac (Bu h (fun it' s' h'=>Ak (And.intro rfl h')) fun _ _ x=>x))))
theorem z8f{σ:St}{Fin:Addr->List V->Hp->Prop}{RR:Value->Addr->Result->Ah->Prop}(hc:X.calm=true)(hkind:scope.kind=.function)(hnc:∀y∈scope.names,y.2≠.cell)(hc1:∀x c,cl.lookup x=some c->X.env.cells.lookup x=some c)(hc2:∀x,(x,Be.free)∈scope.names->∃c,cl.lookup x=some c)(co:CapOk X scope caps)(hg:∀C s H,PG (cxComp X (tg++caps.map (·.1)) scope cl C fp s H) target g)(hi2:∀C s H,PI (cxComp X (tg++caps.map (·.1)) scope cl C fp s H) target2 iter2 wi2)(hg2:∀C s H,PG (cxComp X (tg++caps.map (·.1)) scope cl C fp s H) target2 g2)(hs2:∀C x,Fp iter2 (Dp scope cl C X.env) x=pure x)(he:∀C s H,PE (cxComp X (tg++caps.map (·.1)) scope cl C fp s H) elt te)(I2:Inv X pins σ H1 s₂)(T:Turn X.prog X.w X.K target J fp it tn)(st:tn 0 s₂.heap)(hf:∀b∈fp,FpOk X pins H1 b)(hw:∀D,H1 D=none->CompW2 J g wi2 g2 te (tg0 tg σ caps) D (Fin D) H1)(hRR:∀D C ys H' s',H1 D=none->Inv X pins σ H' s'->(∃m,s'.heap.Ns C m)->FpOk X pins H' C->Fin D ys H'->RR (.ref D) C (.ok .next) s'):
  wpAny (model X.prog X.w) X.A (newList []) (fun acc s₃=>wpAny (model X.prog X.w) X.A (newFunctionEnv scope X.env.globals cl [] X.env.qual none .none (some X.env)) (fun cenv s₄ =>
   Fx (model X.prog X.w) X.A (.compStart (.ListComp elt [⟨target,iter,[],0⟩,⟨target2,iter2,[],0⟩] scope pos) 0 (.ref it) acc { cenv with scope:=relabel scope X.env }) (RR acc cenv.locals) s₄) E s₃) E s₂:=by
 have I3:Inv X pins σ (upd H1 s₂.heap.objs.size (.lst [])) { s₂ with heap:=s₂.heap.push { cls:=.type "list",dict:=none,data:=.seq ([]:List Value).toArray },toks:=s₂.toks }:=I2.lnew .nil (Ax _);have hD0:=I2.fresh;refine Dq (Ow hnc (by intro y hy;simp at hy) (fun h₁ hns₁ hsb₁=>?_) hkind);dsimp only at hns₁ hsb₁ ⊢;generalize hDd:s₂.heap.objs.size=D at I3 hD0 hns₁ hsb₁ ⊢;generalize hs3:({ s₂ with heap:=s₂.heap.push { cls:=.type "list",dict:=none,data:=.seq ([]:List Value).toArray } }:Ah)=s₃ at I3 hns₁ hsb₁ ⊢;have e3:s₂.heap.push { cls:=.type "list",dict:=none,data:=.seq ([]:List Value).toArray }=s₃.heap:=by grind
 have o3:({ s₂ with heap:=h₁,toks:=s₂.toks+([]:List (Str×Value)).length }:Ah)={ s₃ with heap:=h₁,toks:=s₂.toks }:=by grind
 have size3:s₃.heap.objs.size=D+1:=by rw[<- e3,Gq,hDd]
 rw[e3] at hns₁ hsb₁ ⊢;have old3:∀b o,s₂.heap.get? b=some o->s₃.heap.get? b=some o:=fun b o e=>by rw[<- e3];exact Ae _ e
 generalize hCd:s₃.heap.objs.size=C at hns₁ hsb₁ ⊢;have hk:=fun b o e=>hsb₁.extBut b o (by rw[<- hCd];exact By (Au e)) (Ae _ e);have fpo:∀b∈fp,∃o,s₂.heap.get? b=some o:=fun b hb=>by obtain⟨o,e,_⟩:=T.obj 0 _ st b hb;exact⟨o,e⟩
 have fpne:∀b∈fp,b≠D:=fun b hb=>by obtain⟨o,e⟩:=fpo b hb;rw[<- hDd];exact By (Au e)
 have hf3:∀b∈fp,FpOk X pins (upd H1 D (.lst [])) b:=fun b hb=>⟨by rw[q0m (fpne b hb)];exact(hf b hb).1,(hf b hb).2⟩
 have IY:=Inv.ofcomp (tk:=s₂.toks) tg I3 hkind hnc hc1 hc2 hf3 (fun b hb=>let ⟨o,e⟩:=fpo b hb;⟨o,old3 b o e⟩) (Er hCd) hns₁ hk co;have FC:FpOk X pins H1 C:=by
  have z:=I3.fpOk (H':=H1) (Er hCd) (I2.hok.fresh (by rw[hDd,<- hCd,size3];exact Hm _));exact z
 generalize hY:cxComp X (tg++caps.map (·.1)) scope cl C fp s₃ (upd H1 D (.lst []))=Y at IY;have hgY:PG Y target g:=by rw[<- hY];exact hg _ _ _
 have hi2Y:PI Y target2 iter2 wi2:=by rw[<- hY];exact hi2 _ _ _
 have hg2Y:PG Y target2 g2:=by rw[<- hY];exact hg2 _ _ _
 have heY:PE Y elt te:=by rw[<- hY];exact he _ _ _
 have hYp:Y.prog=X.prog:=by rw[<- hY];rfl
 have hYw:Y.w=X.w:=by rw[<- hY];rfl
 have hYK:Y.K=X.K:=by rw[<- hY];rfl
 have hYA:Y.A=X.A:=by rw[<- hY];rfl
 have hYe:Y.env=Dp scope cl C X.env:=by rw[<- hY];rfl
 have hYx:Y.ex=fp:=by rw[<- hY];rfl
 have hYn:Y.pn=[]:=by rw[<- hY];rfl
 have hYc:Y.calm=true:=by rw[<- hY];exact hc
 have hYxe:Y.xe=fun _ _=>False:=by rw[<- hY];rfl
 have fpY:∀{H':Hp},(∀b∈fp,H' b=none)->∀b∈fp,FpOk Y [] H' b:=fun{H'} hn b hb=>by
  refine⟨hn b hb,?_,?_,.inl (by rw[hYx];exact hb),fun x c e=>?_,fun p hp=>?_⟩
  ·have:=(IY.ok.exf b (by rw[hYx];exact hb)).1;exact this
  ·exact IY.ok.exfs b (by rw[hYx];exact hb)
  ·exact(IY.ok.exf b (by rw[hYx];exact hb)).2 x c e
  ·grind
 obtain⟨W,⟨m0,w0⟩,turn⟩:=hw D hD0;have stY:=T.keep 0 _ _ st fun b hb o e=>hk b o (old3 b o e)
 have back:∀{H':Hp} {s':Ah} {σ':St},Inv Y [] σ' H' s'->Inv X pins σ H' s':=fun{H' s' σ'} IE=>by
  have hun:=IE.base;have hos:=IE.os;rw[<- hY] at hun hos;exact I3.call' hos hun (by have z:=IE.hok;rw[hYp,hYw] at z;exact z) IE.bare fun b hb=>⟨(hf b hb).2.2.2.1,(hf b hb).2.1,(hf b hb).2.2.2.2.1,(hf b hb).2.2.2.2.2⟩
 have gY:∀pins s σ H v u Q (E':Value->Ah->Prop),Inv Y pins σ H s->RelV v u->g v σ H Q->wpAny (model X.prog X.w) X.A (assign target (Dp scope cl C X.env) u) (fun _ s'=>∃σ' H',Inv Y pins σ' H' s'/\Q σ' H') E' s:=fun pins s σ H v u Q E' IE r q=>by
  have z:=hgY pins s σ H v u Q IE r q;rw[hYp,hYw,hYA,hYe,hYxe] at z;exact Bu z (fun _ _ x=>x) fun _ _ f=>f.elim
 have g2Y:∀pins s σ H v u Q (E':Value->Ah->Prop),Inv Y pins σ H s->RelV v u->g2 v σ H Q->wpAny (model X.prog X.w) X.A (assign target2 (Dp scope cl C X.env) u) (fun _ s'=>∃σ' H',Inv Y pins σ' H' s'/\Q σ' H') E' s:=fun pins s σ H v u Q E' IE r q=>by
  have z:=hg2Y pins s σ H v u Q IE r q;rw[hYp,hYw,hYA,hYe,hYxe] at z;exact Bu z (fun _ _ x=>x) fun _ _ f=>f.elim
 have i2Y:∀pins s σ H R (E':Value->Ah->Prop),Inv Y pins σ H s->wi2 σ H R->wpAny (model X.prog X.w) X.A (eval iter2 (Dp scope cl C X.env)) (fun v s1=>wpAny (model X.prog X.w) X.A (Jr v) (PIE Y pins σ target2 R) E' s1) E' s:=fun pins s σ H R E' IE q=>by
  have z:=hi2Y pins s σ H R IE q;rw[hYp,hYw,hYA,hYe,hYxe] at z;exact Bu z (fun _ _ x=>Bu x (fun _ _ y=>y) fun _ _ f=>f.elim) fun _ _ f=>f.elim
 have eY:∀pins s σ H Q (E':Value->Ah->Prop),Inv Y pins σ H s->te σ H Q->wpAny (model X.prog X.w) X.A (eval elt (Dp scope cl C X.env)) (EP Y pins σ Q) E' s:=fun pins s σ H Q E' IE q=>by
  have z:=heY pins s σ H Q IE q;rw[hYp,hYw,hYA,hYe,hYxe] at z;exact Bu z (fun _ _ x=>x) fun _ _ f=>f.elim
 have aY:∀pins s σ H ys v u Q (E':Value->Ah->Prop),Inv Y pins σ H s->RelV v u->H D=some (.lst ys)->ys.length<sizeLine->Q .non (upd H D (.lst (ys++[v])))->wpAny (model X.prog X.w) X.A (call (.builtin "list.append") [.ref D,u]) (EP Y pins σ Q) E' s:=fun pins s σ H ys v u Q E' IE r hH hz q=>by
  have z:=q1m pins s σ H (.ref D) [v] (.ref D) [u] Q IE rfl (.cons r .nil) ⟨D,ys,v,rfl,rfl,hH,hz,q⟩;rw[hYp,hYw,hYA,hYxe] at z;exact Bu z (fun _ _ x=>x) fun _ _ f=>f.elim
 have tiY:∀i pins s σ H (E':Value->Ah->Prop),Inv Y pins σ H s->(∀b∈fp,FpOk Y pins H b)->tn i s.heap->J.go i H ->
   wpAny (model X.prog X.w) X.A (Kh (.ref it)) (fun r s1=>∃u,r=some u /\
    wpAny (model X.prog X.w) X.A (Ir target (.ref it) u) (fun _ s2=>∃x H',Inv Y pins σ H' s2/\RelV x u/\J.yld i H x H'/\tn (i+1) s2.heap/\∀b∈fp,H' b=none) E' s1) E' s:=fun i pins s σ H E' IE hfy st go=>by
  have z:=T.item Y hYp hYw hYK hYc i pins s σ H E' IE hfy st go;rw[hYA] at z;exact z
 have tdY:∀i pins s σ H (E':Value->Ah->Prop),Inv Y pins σ H s->(∀b∈fp,FpOk Y pins H b)->tn i s.heap->J.stop i H ->
   wpAny (model X.prog X.w) X.A (Kh (.ref it)) (fun r s1=>r=none/\Inv Y pins σ H s1) E' s:=fun i pins s σ H E' IE hfy st go=>by
  have z:=T.done Y hYp hYw hYK hYc i pins s σ H E' IE hfy st go;rw[hYA] at z;exact z
 have loop:Fx (model X.prog X.w) X.A (.compLoop (.ListComp elt [⟨target,iter,[],0⟩,⟨target2,iter2,[],0⟩] scope pos) 0 (.ref it) (.ref D) (Dp scope cl C X.env)) (RR (.ref D) C) { s₃ with heap:=h₁,toks:=s₂.toks }:=by
  refine Qe rfl (fun n s'=>∃i ys H',Inv Y [] (tg0 tg σ caps) H' s'/\tn i s'.heap/\(∀b∈fp,H' b=none)/\W i n ys H') ?_ m0 ⟨0,[],_,IY,stY,fun b hb=>(hf3 b hb).1,w0⟩;rintro n s4 ⟨i,ys,H4,I4,st4,fr4,w4⟩;refine Rg ?_;obtain⟨hHD,alt⟩:=turn i n ys H4 w4;rcases alt with⟨stop,fin⟩|⟨go,N,hN,step⟩
  ·refine Ac (Bz (Ac (thn (tdY i [] s4 _ H4 _ I4 (fpY fr4) st4 stop) fun r s5 ⟨hr,I5⟩=>?_)));subst hr;refine Ak (hRR D C ys H4 s5 hD0 (back I5) ?_ ⟨?_,FC.2⟩ fin)
   ·obtain⟨m,hm,_⟩:=I5.loc;rw[hYe] at hm;exact⟨m,hm⟩
   ·have z:=I5.free;rw[hYe] at z;exact z
  ·refine Ac (Bz (Ac (thn (tiY i [] s4 _ H4 _ I4 (fpY fr4) st4 go) fun r s5 ⟨u,hr,h5⟩=>?_)));subst hr;refine Ac (thn h5 fun _ s6 ⟨x,H6,I6,r6,y6,st6,fr6⟩=>?_);have I6':=I6.pinned (fpY fr6) (T.obj _ _ st6);refine Ac (thn (gY _ s6 _ H6 x u _ _ I6' r6 (step x H6 y6)) fun _ s7 ⟨σ7,H7,I7,kp,q7⟩=>?_);have again:∀{H9:Hp} {s9:Ah} {zs:List V} {m':Nat},Inv Y ([]++pinsAt fp s6.heap) σ7 H9 s9->m'<n->W (i+1) m' zs H9->∃m,m<n/\∃i ys H',Inv Y [] (tg0 tg σ caps) H' s9/\tn i s9.heap/\(∀b∈fp,H' b=none)/\W i m ys H':=fun{H9 s9 zs m'} I9 hm w9=>by
    refine⟨m',hm,i+1,zs,H9,I9.unpinned.weak kp.1 kp.2,T.keep _ _ _ st6 fun b hb o e=>(I9.pin (b,o) (Ay _ (Ay _ (q1v hb e)))).1,fun b hb=>?_,w9⟩;obtain⟨o,e,d⟩:=T.obj _ _ st6 b hb;exact(I9.pin (b,o) (Ay _ (Ay _ (q1v hb e)))).2.1
   refine Ac (Nh ?_);show wpAny _ _ (eval iter2 (Dp scope cl C X.env) >>= fun x=>Mh iter2.pos >>= fun _=>Fp iter2 (Dp scope cl C X.env) x >>= fun x=>Lb [x] (Jr x) >>= fun it2=>runOwn (.compStart (.ListComp elt [⟨target,iter,[],0⟩,⟨target2,iter2,[],0⟩] scope pos) 1 it2 (.ref D) (Dp scope cl C X.env)) (Dp scope cl C X.env) >>= fun _=>PySem.again (.compLoop (.ListComp elt [⟨target,iter,[],0⟩,⟨target2,iter2,[],0⟩] scope pos) 0 (.ref it) (.ref D) (Dp scope cl C X.env))) _ _ _;refine Ac (thn (i2Y _ s7 σ7 H7 _ _ I7 q7) fun v s8 h8=>?_);refine Ac (Bz ?_);rw[hs2];refine Ac (Ak (Ac (Du (thn h8 fun itv s9 h9=>?_))));obtain⟨it2,fp2,tn2,J2,H9,e9,I9,T2,st9,f9,W2,⟨m2,w2⟩,turn2⟩:=h9;subst e9;have stat2:∀{H':Hp},(∀b∈fp2,H' b=none)->∀b∈fp2,FpOk Y ([]++pinsAt fp s6.heap) H' b:=fun hn b hb=>⟨hn b hb,(f9 b hb).2⟩
   have loop2:Fx (model X.prog X.w) X.A (.compLoop (.ListComp elt [⟨target,iter,[],0⟩,⟨target2,iter2,[],0⟩] scope pos) 1 (.ref it2) (.ref D) (Dp scope cl C X.env)) (fun r s'=>r=.ok .next/\∃zs H',Inv Y ([]++pinsAt fp s6.heap) σ7 H' s'/\N zs H') s9:=by
    refine Qe rfl (fun n s'=>∃i ys H',Inv Y ([]++pinsAt fp s6.heap) σ7 H' s'/\tn2 i s'.heap/\(∀b∈fp2,H' b=none)/\W2 i n ys H') ?_ m2 ⟨0,ys,_,I9,st9,fun b hb=>(f9 b hb).1,w2⟩;rintro n2 t4 ⟨i2,ys2,K4,J4,st4',fr4',w4'⟩;refine Rg ?_;rcases turn2 i2 n2 ys2 K4 w4' with⟨stop2,fin2⟩|⟨go2,N2,hN2,step2⟩
    ·have z:∀E':Value->Ah->Prop,wpAny (model X.prog X.w) X.A (Kh (.ref it2)) (fun r s1=>r=none/\Inv Y ([]++pinsAt fp s6.heap) σ7 K4 s1) E' t4:=fun E'=>by
      have z:=T2.done Y rfl rfl rfl hYc i2 _ t4 σ7 K4 E' J4 (stat2 fr4') st4' stop2;rw[hYp,hYw,hYA] at z;exact z
     refine Ac (Bz (Ac (thn (z _) fun r t5 hr5=>?_)));obtain⟨hr,J5⟩:=hr5;subst hr;exact Ak ⟨rfl,ys2,K4,J5,fin2⟩
    ·have z:∀E':Value->Ah->Prop,wpAny (model X.prog X.w) X.A (Kh (.ref it2)) (fun r s1=>∃u,r=some u /\
       wpAny (model X.prog X.w) X.A (Ir target2 (.ref it2) u) (fun _ s2=>∃x H',Inv Y ([]++pinsAt fp s6.heap) σ7 H' s2/\RelV x u/\J2.yld i2 K4 x H'/\tn2 (i2+1) s2.heap/\∀b∈fp2,H' b=none) E' s1) E' t4:=fun E'=>by
      have z:=T2.item Y rfl rfl rfl hYc i2 _ t4 σ7 K4 E' J4 (stat2 fr4') st4' go2;rw[hYp,hYw,hYA] at z;exact z
     refine Ac (Bz (Ac (thn (z _) fun r t5 hr5=>?_)));obtain⟨u,hr,h5⟩:=hr5;subst hr;refine Ac (thn h5 fun _ t6 h6=>?_);obtain⟨x2,K6,J6,r6',y6',st6',fr6'⟩:=h6;have J6':=J6.pinned (stat2 fr6') (T2.obj _ _ st6');refine Ac (thn (g2Y _ t6 _ K6 x2 u _ _ J6' r6' (step2 x2 K6 y6')) fun _ t7 ⟨σ8,K7,J7,kp2,q7'⟩=>?_);refine Ac (Nh ?_);show wpAny _ _ ((eval elt (Dp scope cl C X.env) >>= fun x=>call (.builtin "list.append") [.ref D,x] >>= fun _=>pure ()) >>= fun _=>PySem.again (.compLoop (.ListComp elt [⟨target,iter,[],0⟩,⟨target2,iter2,[],0⟩] scope pos) 1 (.ref it2) (.ref D) (Dp scope cl C X.env))) _ _ _;refine Ac (Ac (thn (eY _ t7 σ8 K7 _ _ J7 q7') fun v t9 ⟨vv,K9,J9,r9,hH9,hz9,n9⟩=>?_));obtain⟨m',hm',w9⟩:=hN2 _ _ n9;refine Ac (thn (aY _ t9 σ8 K9 ys2 vv v (fun _ H10=>W2 (i2+1) m' (ys2++[vv]) H10) _ J9 r9 hH9 hz9 w9) fun _ t10 ⟨_,K10,J10,_,w10⟩=>?_);refine Ak (Ak ⟨rfl,m',hm',i2+1,_,K10,J10.unpinned.weak kp2.1 kp2.2,T2.keep _ _ _ st6' fun b hb o e=>(J10.pin (b,o) (Ay _ (Ay _ (q1v hb e)))).1,fun b hb=>?_,w10⟩);obtain⟨o,e,d⟩:=T2.obj _ _ st6' b hb;exact(J10.pin (b,o) (Ay _ (Ay _ (q1v hb e)))).2.1
   refine Ac (wpAny_runOwn ?_);rw[Around.mark_none];have T2':=T2;rw[hYp,hYw,hYK] at T2';refine Gw (q3k loop2 (T2'.self _ 0 _ _ _ st9 loop2)) fun r t hr=>?_;obtain⟨rfl,zs,H10,I10,n10⟩:=hr;obtain⟨m',hm',w10⟩:=hN _ _ n10;exact Ak ⟨rfl,again I10 hm' w10⟩
 rw[o3];exact Nu loop (T.self _ 0 _ _ _ stY loop)
def tComp2(wi:TI)(g:TG)(wi2:TI)(g2:TG)(te:TE)(tg:List Str)(caps:Caps):TE:=fun σ H Q=>wi σ H fun J H1=>∀D,H1 D=none->CompW2 J g wi2 g2 te (tg0 tg σ caps) D (fun _ H'=>Q (.ref D) H') H1
section
variable{X:Cx}{iter target iter2 target2 elt:Expr}{scope:Scope}{pos:Pos}{wi wi2:TI}{g g2:TG}{te:TE}
theorem z8g(tg:List Str)(caps:Caps)(hc:X.calm=true)(hi:PI X target iter wi)(hg:∀cl C fp s H,PG (cxComp X (tg++caps.map (·.1)) scope cl C fp s H) target g)(hi2:∀cl C fp s H,PI (cxComp X (tg++caps.map (·.1)) scope cl C fp s H) target2 iter2 wi2)(hg2:∀cl C fp s H,PG (cxComp X (tg++caps.map (·.1)) scope cl C fp s H) target2 g2)(he:∀cl C fp s H,PE (cxComp X (tg++caps.map (·.1)) scope cl C fp s H) elt te)(hk:compChk X.N X.env.scope scope caps=true:=by rfl)(hs:∀x,Fp iter X.env x=pure x:=by intro _;rfl)(hs2:∀env x,Fp iter2 env x=pure x:=by intro _ _;rfl):
  PE X (.ListComp elt [⟨target,iter,[],0⟩,⟨target2,iter2,[],0⟩] scope pos) (tComp2 wi g wi2 g2 te tg caps):=by
 intro pins s σ H Q I h;obtain⟨hkind,hnc,hnames,hfree,co⟩:=q5n hk;obtain⟨cl,hclos,hc1,hc2⟩:=z2o I hfree;refine Ja rfl hs hclos hkind hnames (thn (hi pins s σ H _ I h) fun v s1 h1=>thn h1 fun itv s2 h2=>?_);obtain⟨it,fp,tn,J,H2,e,I2,T,st2,f2,hw⟩:=h2;subst e;refine z8f hc hkind hnc hc1 hc2 co (fun C s H=>hg cl C fp s H) (fun C s H=>hi2 cl C fp s H) (fun C s H=>hg2 cl C fp s H) (fun C x=>hs2 _ x) (fun C s H=>he cl C fp s H) I2 T st2 f2 hw ?_;intro D C ys H' s' hD I' hm F fin;obtain⟨m,hm⟩:=hm;refine⟨m,hm,fun h' hsb=>⟨.ref D,H',I'.turned (t':=s'.toks) (fun b o hb e=>(hsb.2 b hb).trans e) F.1 F.2.1 F.2.2.2.1 F.2.2.2.2.1 F.2.2.2.2.2,rfl,fin⟩⟩
end
theorem z5y{r:St}{a:Option V}{v:Option V}:Keeps0 (a::none::r) (a::v::r):=⟨rfl,fun i w h=>by
 cases i with
 |zero=>exact h
 |succ i=>cases i with
  |zero=>cases h
  |succ i=>exact h⟩
theorem z5z{K:Af}{a D:Addr}{xs:List V}{g:TG}{wi2:TI}{g2:TG}{te:TE}{σ0:St}{H1:Hp}{Fin:List V->Hp->Prop}(Pv:Nat->List V->Hp->Prop)(h0:Pv 0 [] (upd H1 D (.lst [])))(hl:∀i ys H,Pv i ys H->H D=some (.lst ys)/\SqL K H a xs)(hs:∀i ys H x,xs[i]?=some x->Pv i ys H->g x σ0 H fun σ2 H2=>Keeps0 σ0 σ2/\wi2 σ2 H2 fun J2 H3=>InnW J2 g2 te σ2 D ys (Pv (i+1)) H3)(hd:∀ys H,Pv xs.length ys H->Fin ys H):CompW2 (Itl K a) g wi2 g2 te σ0 D Fin H1:=by
 refine⟨fun i m ys H=>m=xs.length-i/\i<=xs.length/\Pv i ys H,⟨xs.length,by simp,Ax _,h0⟩,?_⟩;rintro i m ys H ⟨rfl,hi,p⟩;refine⟨(hl i ys H p).1,?_⟩;by_cases hlt:i<xs.length
 ·exact .inr ⟨⟨xs,xs[i],(hl i ys H p).2,by simp[hlt]⟩,Pv (i+1),fun zs H' q=>⟨xs.length-(i+1),by lia,rfl,hlt,q⟩,fun x H' y=>by
   obtain⟨e,y⟩:=y;subst e;exact hs i ys _ x (y xs (hl i ys _ p).2) p⟩
 ·have e:i=xs.length:=by lia
  subst e;exact .inl ⟨⟨xs,(hl _ ys H p).2,Aj _⟩,hd ys H p⟩
theorem x0n{K:Af}{a2 D:Addr}{xs2 ys0:List V}{g2:TG}{te:TE}{σ2:St}{H3:Hp}{N:List V->Hp->Prop}(Pw:Nat->List V->Hp->Prop)(h0:Pw 0 ys0 H3)(hl:∀i ys H,Pw i ys H->SqL K H a2 xs2)(hs:∀i ys H x,xs2[i]?=some x->Pw i ys H->g2 x σ2 H fun σ4 H4=>Keeps0 σ2 σ4/\te σ4 H4 fun v H5=>H5 D=some (.lst ys)/\ys.length<sizeLine/\Pw (i+1) (ys++[v]) (upd H5 D (.lst (ys++[v]))))(hd:∀ys H,Pw xs2.length ys H->N ys H):InnW (Itl K a2) g2 te σ2 D ys0 N H3:=by
 refine⟨fun i m ys H=>m=xs2.length-i/\i<=xs2.length/\Pw i ys H,⟨xs2.length,by simp,Ax _,h0⟩,?_⟩;rintro i m ys H ⟨rfl,hi,p⟩;by_cases hlt:i<xs2.length
 ·exact .inr ⟨⟨xs2,xs2[i],hl i ys H p,by simp[hlt]⟩,Pw (i+1),fun zs H' q=>⟨xs2.length-(i+1),by lia,rfl,hlt,q⟩,fun x H' y=>by
   obtain⟨e,y⟩:=y;subst e;exact hs i ys _ x (y xs2 (hl i ys _ p)) p⟩
 ·have e:i=xs2.length:=by lia
  subst e;exact .inl ⟨⟨xs2,hl _ ys H p,Aj _⟩,hd ys H p⟩
open PySem PySem.Spec PyProof.Rows
theorem q9m(ho:s.heap.get? a=some o)(hc:o.ExactDict)(hd:o.data=.dict es ep)(hs:(a==Ff)=false)(hz:es.size<=sizeLine)(h:∀t t',Q (.int es.size t) { s with toks:=t' }):wpAny (model prog w) A (call (.builtin "len") [.ref a]) Q E s:=by
  have hT:s.TypeIs (.ref a) "dict" := ⟨o,ho,hc.1⟩
  have hz63:¬((es.size:Nat):Int)>=2^63:=by rw[Fe] at hz;lia
  refine Fi (El (by decide +kernel) entry_len ?_);have hck:Jx "len" ⟨[.ref a],[]⟩=pure ():=by
    first
      |exact checkBuiltinCall_of_none (by decide +kernel) (by decide +kernel) _
      |rfl
      |(unfold Jx;rfl)
  refine Ju hck ?_;refine Ac ?_;refine Ak (Ac (Dl hT Oi (Ej Oi hT PySem.F.entry_dict_len ?_ (PySem.F.args_dict_len_1 _))));refine Ac (Ac (wpAny_notOrdered_dict hT ?_));refine Ak ?_;show wpAny _ _ (do
      let __do_lift<-dictSize a;let __do_lift_1<-Mg a
      retInt (↑__do_lift + ↑__do_lift_1)) _ _ _
  unfold dictSize Mg;rw[hs];refine Ac (Ac (wpAny_dictEntries ho hd (Ak ?_)));refine Ac (Ak ?_);have e0:((es.size:Nat):Int)+((0:Nat):Int)=es.size:=by lia
  rw[e0]
  wp_walk
  refine⟨_,rfl,?_⟩;have hn:¬((es.size:Nat):Int)<0:=by lia
  refine Ac (Du ?_);refine Ak (Ac (Lg ?_));rw[if_neg hn,if_neg hz63]
  wp_walk
  exact h _ _
theorem KV.len:∀{kvs:List (Key×V)} {vs:List (Key×Value)},KV kvs vs->vs.length=kvs.length:=by
 intro kvs vs h;have:=He h;lia
theorem z8h:CallR X (.builtin "len") (fun xs H Q=>∃d kvs,xs=[V.ref d]/\H d=some (.dK kvs)/\Q (.int kvs.length) H):=by
 intro pins s σ H xs us Q I r h;obtain⟨d,kvs,rfl,e,q⟩:=h;obtain⟨u,rfl,ru⟩:=vals1 r;cases ru;obtain⟨z,hd,vs,rel,dd⟩:=(show ObjOk X.prog X.w H s.heap d (.dK kvs) from I.hok d _ e)
 obtain⟨o',es,ep,ho',hc,hdd,he,his,hn⟩:=dd;have hlen:es.size=kvs.length:=by
  have:=Pairs.length his;rw[Ip,KV.len rel] at this;exact this
 refine q9m ho' hc hdd hd (by rw[hlen];exact z) fun t t'=>⟨.int kvs.length,H,I.tok _,⟨t,by rw[hlen]⟩,q⟩
open PySem PySem.Spec PyProof.Rows PySem.Builtin PySem.Builtin.Str
def PEQ(X:Cx)(e:Expr)(t:TE):Prop :=
 ∀(pins:List (Addr×Obj)) (s:Ah) (σ:St) (H:Hp) (Q:VK),0<s.toks->Inv X pins σ H s->t σ H Q->wpAny (model X.prog X.w) X.A (eval e X.env) (EP X pins σ Q) X.xe s
section
variable{X:Cx}{e:Expr}{es:List Expr}{te:TE}{t:TA}{pos apos cpos:Pos}{o:Expr}{to:TE}{y z:Str}
theorem PE.q(h:PE X e te):PEQ X e te:=fun pins s σ H Q _ I q=>h pins s σ H Q I q
end
end L2
namespace TX
open PySem PySem.Builtin PySem.Builtin.Str
def oc(L w:Nat)(b:Nat->Bool):Nat->Nat->Nat->Nat->List Nat
 |0,_,_,_=>[]
 |n+1,i,fr,k=>if ((0<k/\fr<=i)/\i+w<=L)/\b i=true then i::oc L w b n (i+1) (i+w) (k-1) else oc L w b n (i+1) fr k
end TX
namespace PM
open PySem PySem.Spec PyProof.Rows L2 TX
def jn:List (List Nat)->List Nat
 |[]=>[]
 |[a]=>a
 |a::b::r=>a++47::jn (b::r)
def sp:List Nat->List (List Nat)
 |[]=>[[]]
 |c::r=>if c=47 then[]::sp r else match sp r with | []=>[[c]]|p::q=>(c::p)::q
theorem x2a:∀{a:List Nat} (l:List Nat),47∉a->sp (a++47::l)=a::sp l
 |[],l,_=>by show(if 47=47 then _ else _)=_;rw[if_pos rfl]
 |c::a,l,h=>by
  have hc:c≠47:=fun z=>h (by rw[z];exact Ao);have ih:=x2a l fun z=>h (Am _ z);show(if c=47 then _ else _)=_;rw[if_neg hc];show(match sp (a++47::l) with | []=>[[c]]|p::q=>(c::p)::q)=_;rw[ih]
theorem x2b:∀{a:List Nat},47∉a->sp a=[a]
 |[],_=>rfl
 |c::a,h=>by
  have hc:c≠47:=fun z=>h (by rw[z];exact Ao);have ih:=x2b fun z=>h (Am _ z);show(if c=47 then _ else _)=_;rw[if_neg hc,ih]
theorem sp_jn:∀{xs:List (List Nat)},xs≠[]->(∀x∈xs,47∉x)->sp (jn xs)=xs
 |[],h,_=>absurd rfl h
 |[a],_,f=>x2b (f a Ao)
 |a::b::r,_,f=>by
  show sp (a++47::jn (b::r))=_;rw[x2a _ (f a Ao),sp_jn (by simp) fun x hx=>f x (Am _ hx)]
theorem slash:Ab "/" = ⟨#[47]⟩:=by decide +kernel
theorem tl_joinS:∀ts:List Str,tl (Mq (Ab "/") ts)=jn (ts.map tl):=by
 intro ts;rw[q7g];induction ts with
 |nil=>rfl
 |cons a r ih =>
  cases r with
  |nil=>simp[Lc,jn]
  |cons b r =>
   show tl (a++Ab "/" ++ Lc (Ab "/") (b::r))=_;rw[q2n,q2n,ih];have e:tl (Ab "/")=[47]:=by decide +kernel
   rw[e];show _=tl a++47::jn (tl b::r.map tl);simp
theorem x0o(z:Str):(Hw z (Ab "/")).map tl=sp (tl z):=by
 have h1:=Qi z (Ab "/");rw[<- q7g] at h1;have h2:=tl_joinS (Hw z (Ab "/"));rw[h1] at h2;have h3:=Qj z 47;rw[<- slash] at h3;have h4:=split_pos z (Ab "/");rw[h2,sp_jn]
 ·intro z;have:=congrArg List.length z;rw[Ag,Iv] at this;lia
 ·grind
theorem split_mk(z:Str):(Hw z (Ab "/")).map V.str=(sp (tl z)).map fun n=>V.str (mk n):=by
 rw[<- x0o,Es];refine La fun p _=>?_;show V.str p=V.str (mk (tl p));rw[z2s]
end PM
namespace PC
open PySem PySem.Spec PyProof.Rows L2 TX
def jc(s:Nat):List (List Nat)->List Nat
 |[]=>[]
 |[a]=>a
 |a::b::r=>a++s::jc s (b::r)
def sc(s:Nat):List Nat->List (List Nat)
 |[]=>[[]]
 |c::r=>if c=s then[]::sc s r else match sc s r with | []=>[[c]]|p::q=>(c::p)::q
theorem x2c:∀{a:List Nat} (l:List Nat),s∉a->sc s (a++s::l)=a::sc s l
 |[],l,_=>by show(if s=s then _ else _)=_;rw[if_pos rfl]
 |c::a,l,h=>by
  have hc:c≠s:=fun z=>h (by rw[z];exact Ao);have ih:=x2c l fun z=>h (Am _ z);show(if c=s then _ else _)=_;rw[if_neg hc];show(match sc s (a++s::l) with | []=>[[c]]|p::q=>(c::p)::q)=_;rw[ih]
theorem x2d:∀{a:List Nat},s∉a->sc s a=[a]
 |[],_=>rfl
 |c::a,h=>by
  have hc:c≠s:=fun z=>h (by rw[z];exact Ao);have ih:=x2d fun z=>h (Am _ z);show(if c=s then _ else _)=_;rw[if_neg hc,ih]
theorem sc_jc{s:Nat}:∀{xs:List (List Nat)},xs≠[]->(∀x∈xs,s∉x)->sc s (jc s xs)=xs
 |[],h,_=>absurd rfl h
 |[a],_,f=>x2d (f a Ao)
 |a::b::r,_,f=>by
  show sc s (a++s::jc s (b::r))=_;rw[x2c _ (f a Ao),sc_jc (by simp) fun x hx=>f x (Am _ hx)]
theorem tl_joinS(s:Nat):∀ts:List Str,tl (Mq ((⟨#[s]⟩:Str)) ts)=jc s (ts.map tl):=by
 intro ts;rw[q7g];induction ts with
 |nil=>rfl
 |cons a r ih =>
  cases r with
  |nil=>simp[Lc,jc]
  |cons b r =>
   show tl (a++(⟨#[s]⟩:Str)++Lc ((⟨#[s]⟩:Str)) (b::r))=_;rw[q2n,q2n,ih];have e:tl (⟨#[s]⟩:Str)=[s]:=rfl;rw[e];show _=tl a++s::jc s (tl b::r.map tl);simp
theorem split_sc(s:Nat)(z:Str):(Hw z ((⟨#[s]⟩:Str))).map tl=sc s (tl z):=by
 have h1:=Qi z ((⟨#[s]⟩:Str));rw[<- q7g] at h1;have h2:=tl_joinS s (Hw z ((⟨#[s]⟩:Str)));rw[h1] at h2;have h3:=Qj z s;have h4:=split_pos z ((⟨#[s]⟩:Str));rw[h2,sc_jc]
 ·intro z;have:=congrArg List.length z;rw[Ag,Iv] at this;lia
 ·grind
theorem split_mk(s:Nat)(z:Str):(Hw z ((⟨#[s]⟩:Str))).map V.str=(sc s (tl z)).map fun n=>V.str (mk n):=by
 rw[<- split_sc s,Es];refine La fun p _=>?_;show V.str p=V.str (mk (tl p));rw[z2s]
theorem sc_len:∀l:List Nat,(sc s l).length<=l.length+1
 |[]=>Aj _
 |c::r=>by
  have ih:=sc_len (s:=s) r;show(if c=s then[]::sc s r else match sc s r with | []=>[[c]]|p::q=>(c::p)::q).length<=_;split
  ·simp;lia
  ·cases e:sc s r with
   |nil=>simp
   |cons p q=>grind
end PC
namespace HD
open PySem PySem.W PyProof.Rows
theorem end0:(∃f,endAt 0 t=some f)/\through t=true\/endAt 0 t=none/\through t=false:=by
 unfold endAt through;obtain⟨cur,code,pos,stack⟩:=t;cases stack with
 |cons a r=>exact .inr ⟨by cases cur<;>rfl,rfl⟩
 |nil =>
  cases cur with
  |pure f =>
   cases f with
   |done f=>simp_all
   |_=>simp_all
  |_=>exact .inr ⟨rfl,rfl⟩
theorem z4k{tb:String->Option Eo}{p:Program}{w:World}{n₀:Nat}{ann:Option Value}:∀{n:Nat} {s s':Ah} {t:Thread} {f:Flow} {c:Code} {q:Pos},segRun tb p w n₀ ann 0 n s t=some (f,s',c,q)->topRun tb p w n₀ ann n s t=some s'
 |0,_,_,_,_,_,_,h=>by cases h
 |n+1,s,s',t,f,c,q,h=>by
  unfold segRun at h;unfold topRun;rcases end0 (t:=t) with⟨⟨f',e⟩,th⟩|⟨e,th⟩
  ·rw[e] at h;rw[th];cases h;rfl
  ·rw[e] at h;rw[th];dsimp only at h ⊢;cases ok:stepOk n₀ ann t with
   |false=>rw[ok] at h;cases h
   |true =>
    rw[ok] at h;dsimp only at h ⊢;cases st:step (denote tb) p w s t with
    |go s1 t1=>rw[st] at h;exact z4k h
    |halt _ _=>rw[st] at h;cases h
def mkT(l:List Obj):BT:=(l.foldl (fun(a:BT×Nat) o=>(a.1.ins a.2 o,a.2+1)) (BT.nil,0)).1
noncomputable def bootT (P:Params) (os:Kd):SharedT:=⟨mkT (boot_heap P).objs.toList,11,(boot_heap P).life,#[],boot_drawn,boot_toks,os⟩
theorem x0p(P:Params)(os:Kd):(bootT P os).abs=⟨boot_heap P,#[],boot_drawn,boot_toks,os⟩:=by kernel_rfl
theorem z8i(P:Params):((boot_heap P).isNs Cb&&(#[]:Array Mu).size==0,(boot_heap P).objs.size,(boot_heap P).nsMap Cb "__annotations__")=(true,11,some (.ref 6)):=by kernel_rfl
theorem left{Yf:Ah->α}{Ya:World->α}(e:opening p=plainProg p.main.scope.names)(hN:Nat.ble 600 N=true)(f:∀s,fenceModules? p s=some s)(h:∀(w:World) (os:Kd),(segRunT Lq p w 11 (some (.ref 6)) 0 N (bootT w.params os) (topStub p)).map (fun r=>((staticsOk (En p.main.body) (boot_heap w.params) r.2.1.abs.heap&&namesBound p r.2.1.abs.heap&&gensDone r.2.1.abs&&laidKept (boot_heap w.params) r.2.1.abs.heap),
   openSeen q loose (En p.main.body) Xt true r.2.1.abs,Yf r.2.1.abs))=some (true,openGood q loose,Ya w)):LeftO p q loose Xt Yf Ya N:=fun w=>by
 obtain⟨⟨hp,gs,d,k,os⟩,e1,e2⟩:=Br.mp (boot_open e hN f w);obtain⟨rfl,rfl,rfl,rfl⟩:hp=boot_heap w.params/\gs=#[]/\d=boot_drawn/\k=boot_toks:=by simpa using e2
 obtain⟨z1,z2,z3⟩:_/\_/\_:=by simpa only[Prod.mk.injEq] using z8i w.params
 obtain⟨⟨fl,st,c,ps⟩,r1,r2⟩:=Br.mp (h w os);obtain⟨l1,l2,l3⟩:_/\_/\_:=by simpa only[Prod.mk.injEq] using r2
 have r:=z4k (segRun_of r1);rw[x0p] at r;have t:topFrom Lq p w N ⟨boot_heap w.params,#[],boot_drawn,boot_toks,os⟩=some st.abs:=by
  unfold topFrom;rw[z1,z2,z3,r];show(match staticsOk (En p.main.body) (boot_heap w.params) st.abs.heap&&namesBound p st.abs.heap&&gensDone st.abs&&laidKept (boot_heap w.params) st.abs.heap with|true=>_|false=>_)=_;rw[l1]
 unfold openEnds;rw[e1];show(topFrom Lq p w N _).map _=_;rw[t];exact congrArg some (Prod.ext l2 l3)
theorem left2(row:String){Yf:Ah->α}{Ya:World->α}(e:opening p=plainProg p.main.scope.names)(hN:Nat.ble 600 N=true)(f:∀s,fenceModules? p s=some s)(h:∀(b:Bool) (w:World) (os:Kd),(segRunT Lq p (w.withFollow row b) 11 (some (.ref 6)) 0 N (bootT (w.withFollow row b).params os) (topStub p)).map (fun r=>((staticsOk (En p.main.body) (boot_heap (w.withFollow row b).params) r.2.1.abs.heap&&namesBound p r.2.1.abs.heap&&gensDone r.2.1.abs&&laidKept (boot_heap (w.withFollow row b).params) r.2.1.abs.heap),
   openSeen q loose (En p.main.body) Xt true r.2.1.abs,Yf r.2.1.abs))=some (true,openGood q loose,Ya (w.withFollow row b))):LeftO p q loose Xt Yf Ya N :=
 left e hN f fun w os=>by
  have:=h (w.params.followText row) w os
  rwa [World.withFollow_self w row] at this
end HD
set_option maxHeartbeats 4000000
namespace K
open PySem L2 TX
def top(i:Nat):Stmt:=PySem.Challenge.pw_renamehall_k72_not_held_against.main.body.getD i (.Pass ⟨0,0,0,0⟩)
structure Txt (mg:Str->Option Value):Prop where
 b_ValueError:mg "ValueError" = none
 b_all:mg "all" = none
 b_dict:mg "dict" = none
 b_enumerate:mg "enumerate" = none
 b_int:mg "int" = none
 b_isinstance:mg "isinstance" = none
 b_len:mg "len" = none
 b_list:mg "list" = none
 b_max:mg "max" = none
 b_min:mg "min" = none
 b_range:mg "range" = none
 b_reversed:mg "reversed" = none
 b_sorted:mg "sorted" = none
 b_str:mg "str" = none
 b_tuple:mg "tuple" = none
 b_zip:mg "zip" = none
 NAME_SIGNS:∃t,mg "NAME_SIGNS" = some (.str (Ab "abcdefghijklmnopqrstuvwxyzABCDEFGHIJKLMNOPQRSTUVWXYZ0123456789-_.") t)
 GAP_SIGNS:∃t,mg "GAP_SIGNS" = some (.str (Ab "?*#@") t)
 MOST_GAPS:∃t,mg "MOST_GAPS" = some (.int 9 t)
 FIGURES:∃t,mg "FIGURES" = some (.str (Ab "0123456789") t)
 LETTERS:∃t,mg "LETTERS" = some (.str (Ab "abcdefghijklmnopqrstuvwxyzABCDEFGHIJKLMNOPQRSTUVWXYZ") t)
 FROM_ONE:∃t,mg "FROM_ONE" = some (.str (Ab "123456789") t)
 FROM_TWO:∃t,mg "FROM_TWO" = some (.str (Ab "23456789") t)
 MOST_FIGURES:∃t,mg "MOST_FIGURES" = some (.int 9 t)
 MOST_NAMES_ASKED:∃t,mg "MOST_NAMES_ASKED" = some (.int 1000 t)
 MOST_START:∃t,mg "MOST_START" = some (.int 1000000000 t)
structure Calls (P:Program) (w:World) (K:Af) (mg:Str->Option Value) (base:Heap):Prop where
 draw:Cal P w K mg base "_law_draw" 1 ["_law_feed", "_law_many"] spDraw
section
variable{P:Program}{w:World}{K:Af}{mg:Str->Option Value}{base:Heap}
abbrev z3a:Stmt:=top 63
theorem sc_draw:FnScope ["_law_feed", "_law_many", "_law_cell", "_law_number", "_law_found"] ["_law_feed", "_law_many"] (defScope z3a):=by trivial
theorem x3q (D : Df K mg "_law_draw" z3a ["_law_feed", "_law_many"]) (T : Txt mg) : Cal P w K mg base "_law_draw" 1 ["_law_feed", "_law_many"] spDraw := by
  refine D.cal sc_draw (fun vs H Q E h => ?_) (fun f cdv A outer s H vs Q E hr h => ?_)
  · obtain ⟨a, b, m, rfl, _⟩ := h; rfl
  · obtain ⟨a, b, m, rfl, ⟨⟨i, j, ha⟩, ns, hb⟩, hm0, hm1, k⟩ := h;refine ⟨_, (q0b (q3w (q0u q0k (q1a (ix_k K rfl) (pv 0) q0f (fun _ _ => rfl)) q0f) (z6p (pv 0) q0f q6l)) (q0b (q0w (q0h (eq_k K rfl hr) (q1a (ix_k K rfl) (pv 0) q0f (fun _ _ => rfl)) q0f (nomark _)) (q0b (q0i (i := 2) sc_draw.nd rfl (by first | exact Or.inl rfl | exact Or.inr rfl) (q1a (ix_k K rfl) (pv 0) q0f (fun _ _ => rfl))) (q0b (q0w (q0h q5l (q0s (q2e K rfl) (by rfl) T.b_len Bm (q0a (q1a (ix_k K rfl) (pv 0) q0f (fun _ _ => rfl)) q0c)) q0f (nomark _)) (q0d (q0i (i := 2) sc_draw.nd rfl (by first | exact Or.inl rfl | exact Or.inr rfl) (q1a (ix_k K rfl) (q1a (ix_k K rfl) (pv 0) q0f (fun _ _ => rfl)) (q0u q8f (q1a (ix_k K rfl) (pv 0) q0f (fun _ _ => rfl)) (q0s (q2e K rfl) (by rfl) T.b_len Bm (q0a (q1a (ix_k K rfl) (pv 0) q0f (fun _ _ => rfl)) q0c))) (fun _ _ => rfl)))) q0j) (q0b (q0w (q0h z2l (pv 2) (q0u op_pow q0f q0f) (nomark _)) (q0b (q0i (i := 3) sc_draw.nd rfl (by first | exact Or.inl rfl | exact Or.inr rfl) (q0u q8f (q0u q5p (q0u q0k (q0u q0k (q0u q8f (pv 2) q0f) (q0u q5p q0f (q1a (ix_k K rfl) (pv 0) q0f (fun _ _ => rfl)))) q0f) q0f) q0f)) (q0b (q0i (i := 3) sc_draw.nd rfl (by first | exact Or.inl rfl | exact Or.inr rfl) (q0u q8f (q0u q5p (pv 3) (q0u q0k (pv 3) q0f)) q0f)) (q0d (q0o (q0u q8f (q0u z6t (pv 3) q0f) (pv 1)))))) q0j) (q0d (q3w (pv 2) (z6p (pv 0) q0f q6l)))))) q0j) (q0b (q0i (i := 4) sc_draw.nd rfl (by first | exact Or.inl rfl | exact Or.inr rfl) (q0u q8f (q1a (ix_k K rfl) (pv 0) q0f (fun _ _ => rfl)) (pv 1))) (q0b (q3w (q0u z6t (q1a (ix_k K rfl) (pv 0) q0f (fun _ _ => rfl)) (pv 1)) (z6p (pv 0) q0f q6l)) (q0d (q0o (pv 4))))))), ?_⟩;have nba : b ≠ a := FeedAt.ne ⟨⟨i, j, ha⟩, ns, hb⟩;refine ⟨_, rfl, .inl ⟨a, _, 1, _, rfl, rfl, SqL.of ha, rfl, .inl ⟨_, _, rfl, rfl, _, rfl, a, _, 1, 1, rfl, rfl, ha, rfl, ?_⟩⟩⟩;generalize hH1 : upd H a _ = H1;have ha1 : H1 a = some (.lst [.ref b, .int (i + 1), .int j]) := by rw [← hH1]; exact q0e
    have hb1 : H1 b = some (.lst (ns.map V.int)) := by rw [← hH1, q0m nba]; exact hb
    have fd : ∀ (x y : Int), Fd a b H (upd H1 a (.lst [.ref b, .int x, .int y])) := fun x y => ⟨⟨⟨x, y, q0e⟩, ns, by rw [q0m nba]; exact hb1⟩, fun c o e hc => by rw [q0m hc, ← hH1, q0m hc]; exact e⟩
    have fd1 : Fd a b H H1 := ⟨⟨⟨_, _, ha1⟩, ns, hb1⟩, fun c o e hc => by rw [← hH1, q0m hc]; exact e⟩
    refine ⟨_, rfl, .inl ⟨a, _, 2, _, rfl, rfl, SqL.of ha1, rfl, .inl ⟨rfl, _, rfl, ?_⟩⟩⟩;have last : ∀ (H2 : Hp) (σ2 : St) (y : Int), H2 a = some (.lst [.ref b, .int (i + 1), .int y]) → (∀ x y : Int, Fd a b H (upd H2 a (.lst [.ref b, .int x, .int y]))) → σ2[0]? = some (some (.ref a)) → σ2[1]? = some (some (.int m)) → σ2.length = 5 →
        tSeq (tAsg (tOp (rI (fun _ j => 0 < j) fun i j => .int (i % j)) (tOp (rIx K) (tVar 0) (tC (.int 2))) (tVar 1)) (gName 4)) (tSeq (tAsg (tOp (rI CDiv fun i j => .int (i / j)) (tOp (rIx K) (tVar 0) (tC (.int 2))) (tVar 1)) (gSub (tVar 0) (tC (.int 2)) rSetL)) (tRet (tVar 4))) { nx := fun _ H' => Q .non H', rt := Q } σ2 H2 := by
      intro H2 σ2 y h2 f2 e0 e1 el;match σ2, e0, e1, el with
      | [x0, x1, x2, x3, x4], e0, e1, _ =>
        cases e0;cases e1;refine ⟨_, rfl, .inl ⟨a, _, 2, _, rfl, rfl, SqL.of h2, rfl, _, rfl, _, _, rfl, rfl, hm0, ?_⟩⟩;refine ⟨_, rfl, .inl ⟨a, _, 2, _, rfl, rfl, SqL.of h2, rfl, _, rfl, _, _, rfl, rfl, ⟨hm0, hm1⟩, _, rfl, a, _, 2, 2, rfl, rfl, h2, rfl, _, rfl, ?_⟩⟩;exact k _ _ (Kn _ (by lia)) (Jb _ hm0) (f2 _ _)
    refine ite2 (fun _ => ?_) (fun _ => last H1 _ j ha1 fd rfl rfl rfl);refine ⟨_, rfl, .inl ⟨a, _, 1, _, rfl, rfl, SqL.of ha1, rfl, ?_⟩⟩;refine ⟨_, rfl, .inl ⟨a, _, 0, _, rfl, rfl, SqL.of ha1, rfl, ⟨_, _, rfl, .inl ⟨_, SqL.of hb1, rfl⟩, ⟨_, _, rfl, rfl, _, rfl, ?_⟩⟩⟩⟩
    have rest : ∀ cell : Int, tSeq (tIfS (tTest (tOp (rI0 fun i j => .bl (decide (i < j))) (tVar 2) (tOp (rI CPow fun i j => .int (i ^ j.toNat)) (tC (.int 10)) (tC (.int 18)))))
          (tSeq (tAsg (tOp (rI (fun _ j => 0 < j) fun i j => .int (i % j)) (tOp rMulU (tOp rAddU (tOp rAddU (tOp (rI (fun _ j => 0 < j) fun i j => .int (i % j)) (tVar 2) (tC (.int 2147483647))) (tOp rMulU (tC (.int 613)) (tOp (rIx K) (tVar 0) (tC (.int 1))))) (tC (.int 7))) (tC (.int 48271))) (tC (.int 2147483647))) (gName 3))
            (tSeq (tAsg (tOp (rI (fun _ j => 0 < j) fun i j => .int (i % j)) (tOp rMulU (tVar 3) (tOp rAddU (tVar 3) (tC (.int 69621)))) (tC (.int 2147483629))) (gName 3))
              (tRet (tOp (rI (fun _ j => 0 < j) fun i j => .int (i % j)) (tOp (rI CDiv fun i j => .int (i / j)) (tVar 3) (tC (.int 64))) (tVar 1))))) tNext)
          (tAsg (tVar 2) (gSub (tVar 0) (tC (.int 2)) rSetL))
        { nx := fun σ2 H2 => tSeq (tAsg (tOp (rI (fun _ j => 0 < j) fun i j => .int (i % j)) (tOp (rIx K) (tVar 0) (tC (.int 2))) (tVar 1)) (gName 4)) (tSeq (tAsg (tOp (rI CDiv fun i j => .int (i / j)) (tOp (rIx K) (tVar 0) (tC (.int 2))) (tVar 1)) (gSub (tVar 0) (tC (.int 2)) rSetL)) (tRet (tVar 4))) { nx := fun _ H' => Q .non H', rt := Q } σ2 H2, rt := Q }
        [some (.ref a), some (.int m), some (.int cell), none, none] H1 := by
      intro cell;refine ⟨_, rfl, _, _, rfl, rfl, ⟨by decide, by decide, by decide⟩, _, _, rfl, rfl, _, rfl, ?_⟩;refine ite2 (fun _ => ?_) (fun _ => ?_)
      · refine ⟨_, rfl, _, _, rfl, rfl, (by show (0 : Int) < 2147483647; decide), ?_⟩;refine ⟨_, rfl, .inl ⟨a, _, 1, _, rfl, rfl, SqL.of ha1, rfl, .inl ⟨_, _, rfl, rfl, .inl ⟨by decide, by decide⟩, .inl ⟨_, _, rfl, rfl, .inl ⟨_, _, rfl, rfl, .inl ⟨_, _, rfl, rfl, .inr ⟨by decide, by decide⟩, _, _, rfl, rfl, (by show (0 : Int) < 2147483647; decide), ?_⟩⟩⟩⟩⟩⟩;generalize hn : ((cell % 2147483647 + 613 * (i + 1) + 7) * 48271) % 2147483647 = n;have n0 : 0 ≤ n := by rw [← hn]; exact Kn _ (by decide)
        have n1 : n < 2147483647 := by rw [← hn]; exact Jb _ (by decide)
        refine ⟨_, rfl, _, rfl, .inl ⟨_, _, rfl, rfl, .inl ⟨_, _, rfl, rfl, .inl ⟨by lia, by lia⟩, _, _, rfl, rfl, (by show (0 : Int) < 2147483629; decide), ?_⟩⟩⟩;refine ⟨_, rfl, _, _, rfl, rfl, ⟨by decide, by decide⟩, _, rfl, _, _, rfl, rfl, hm0, ?_⟩;exact k _ _ (Kn _ (by lia)) (Jb _ hm0) fd1
      · refine ⟨_, rfl, _, rfl, a, _, 2, 2, rfl, rfl, ha1, rfl, ?_⟩;refine last _ _ cell q0e (fun x y => ?_) rfl rfl rfl;have := fd x y;rw [x2r];exact this
    refine ite2 (fun hl => ?_) (fun _ => rest _);have hne : ns.map V.int ≠ [] := by
      intro z;rw [z] at hl;simp at hl
    obtain ⟨x, hx, ex⟩ := x3d (i + 1) hne;obtain ⟨c, rfl⟩ : ∃ c, x = V.int c := by
      obtain ⟨c, _, e⟩ := Ci.mp hx;exact ⟨c, e.symm⟩
    refine ⟨_, rfl, .inl ⟨a, _, 0, _, rfl, rfl, SqL.of ha1, rfl, ⟨_, rfl, .inl ⟨a, _, 1, _, rfl, rfl, SqL.of ha1, rfl, ⟨_, rfl, .inl ⟨a, _, 0, _, rfl, rfl, SqL.of ha1, rfl, ⟨_, _, rfl, .inl ⟨_, SqL.of hb1, rfl⟩, _, _, rfl, rfl, ?_, ?_⟩⟩⟩⟩⟩⟩⟩
    · have : 0 < (ns.map V.int).length := by
        cases e : ns.map V.int with
        | nil => exact absurd e hne
        | cons _ _ => simp
      show (0 : Int) < ((ns.map V.int).length : Int);lia
    · exact .inl ⟨b, _, _, _, rfl, rfl, SqL.of hb1, ex, rest c⟩
abbrev z3b:Stmt:=top 66
theorem x3r:FnScope ["_law_feed", "_law_signs_here", "_law_size"] ["_law_feed", "_law_signs_here", "_law_size"] (defScope z3b):=by trivial
theorem x3s(D:Df K mg "_law_text" z3b ["_law_feed", "_law_signs_here", "_law_size"])(T:Txt mg)(draw:Cal P w K mg base "_law_draw" 1 ["_law_feed", "_law_many"] spDraw):Cal P w K mg base "_law_text" 2 ["_law_feed", "_law_signs_here", "_law_size"] spText:=by
 refine D.cal x3r (fun vs H Q E h=>?_) (fun f cdv A outer s H vs Q E hr h=>?_)
 ·obtain⟨a,b,g,n,rfl,_⟩:=h;rfl
 ·obtain⟨a,b,g,n,rfl,F,hg0,hg1,hn0,hn1,k⟩:=h;have C:Calls P w K mg base:=⟨draw⟩
  refine⟨_,(q0d (q0o (@bm_k _ _ _ _ _ _ _ _ _ _ _ _ K rfl Bw Oj Ol (x1r K rfl) q0g (q0a (q6m ["_law_k"] [("_law_signs_here",1),("_law_feed",0)] rfl (q1q rfl T.b_range (q0a (pv 2) q0c)) (fun _ _ _ _ _=>(q0l (i:=0) (show(["_law_k", "_law_signs_here", "_law_feed"]:List Str).Nodup by decide +kernel) rfl (by trivial))) (fun _ _ _ _ _=>z2n) (fun _ _ _ _ _=>(q1a (ix_k K rfl) (pv 1) (pe_c C.draw hr (q0a (pv 2) (q0a (q0s (q2e K rfl) (by rfl) T.b_len Bm (q0a (pv 1) q0c)) q0c))) (fun _ _=>rfl)))) q0c) (by rfl) (by rfl) (by rfl) (by rfl) (by rfl)))),?_⟩;refine⟨rfl,_,rfl,n,rfl,by lia,by lia,fun D hD=>?_⟩;refine z2r (n:=n.toNat) (fun i ys H'=>∃cs:List Nat,ys=cs.map (fun c=>V.str ⟨#[c]⟩)/\cs.length=i/\i<=n.toNat/\(∀c∈cs,c∈tl g)/\Fd a b H H'/\H' D=some (.lst ys)) ⟨[],rfl,rfl,Ax _,fun _ h=>(nomatch h),(Fd.refl F).new hD,q0e⟩ (fun i ys H' ⟨cs,_,_,_,_,_,h⟩=>h) ?_ ?_
  ·rintro i ys H' hi ⟨cs,rfl,hl,_,hc,fd,hHD⟩;refine⟨_,rfl,_,rfl,_,rfl,_,_,rfl,⟨small (by lia),rfl⟩,a,b,_,rfl,fd.feed,by lia,by lia,fun r H2 r0 r1 fd2=>?_⟩;have hl2:(tl g).length=g.length:=(len g).symm;obtain⟨c,hc1,hc2⟩:=z1d (xs:=tl g) r0 (by lia);refine .inr (.inr ⟨g,r,c,rfl,rfl,small (by lia),hc2,?_⟩);have hDa:D≠a:=fun z=>by subst z;exact F.na hD rfl
   refine⟨fd2.at hHD hDa,small' (by rw[Ag];lia),cs++[c],by rw[Bf];rfl,by rw[Ad,hl];rfl,by lia,fun d hd=>?_,(fd.trans fd2).put F hD,q0e⟩;rcases Az.mp hd with z|z
   ·exact hc d z
   ·rw[Al.mp z];exact As hc1
  ·rintro ys H' ⟨cs,rfl,hl,_,hc,fd,hHD⟩;have e:cs.map (fun c=>V.str ⟨#[c]⟩)=(cs.map fun c=>(⟨#[c]⟩:Str)).map V.str:=by rw[Es];rfl
   refine⟨_,D,cs.map fun c=>⟨#[c]⟩,rfl,rfl,.inl (SqL.of (by rw[<- e];exact hHD)),?_,?_⟩
   ·rw[x0d,Ag];have:(Ab "").length=0:=by decide +kernel
    rw[this];lia
   ·have z:=z7n cs;rw[z];exact k cs H' hl hc fd
abbrev q3l:Stmt:=top 64
theorem q9n:FnScope [] [] (defScope q3l):=by trivial
theorem q9o(D:Df K mg "_law_name_signs" q3l []):Cal P w K mg base "_law_name_signs" 1 [] (spConst NSs):=by
 refine D.cal q9n (fun vs H Q E h=>?_) (fun f cdv A outer s H vs Q E hr h=>?_)
 ·obtain⟨rfl,_⟩:=h;rfl
 ·obtain⟨rfl,k⟩:=h;refine⟨_,(q0d (q0o q0g)),?_⟩;exact k
def spAsk:Sp:=fun vs H Q _=>∃l,vs=[.str (mk l)]/\Good l/\∀H',Same H H'->Q .non H'
theorem gn_in:∀c,decide (c∈tl (Ab "?*#@" ++ Ab "abcdefghijklmnopqrstuvwxyzABCDEFGHIJKLMNOPQRSTUVWXYZ0123456789-_."))=decide (c∈GS\/c∈NS):=fun c=>by
 rw[q2n];exact decide_eq_decide.mpr Az
abbrev q2u:Stmt:=top 15
theorem sc_ask_signs:FnScope ["pattern", "gaps", "at", "sign"] ["pattern"] (defScope q2u):=by trivial
theorem z1n(D:Df K mg "ask_signs" q2u ["pattern"])(T:Txt mg):Cal P w K mg base "ask_signs" 1 ["pattern"] spAsk:=by
 refine D.cal sc_ask_signs (fun vs H Q E h=>?_) (fun f cdv A outer s H vs Q E hr h=>?_)
 ·obtain⟨l,rfl,_⟩:=h;rfl
 ·obtain⟨l,rfl,hg,k⟩:=h;obtain⟨_,g_NAME_SIGNS⟩:=T.NAME_SIGNS;obtain⟨_,g_GAP_SIGNS⟩:=T.GAP_SIGNS;obtain⟨_,g_MOST_GAPS⟩:=T.MOST_GAPS;refine⟨_,(q0b (q0i (i:=1) sc_ask_signs.nd rfl (by trivial) q0f) (q0d (q1h Bo rfl (@z3z _ _ _ _ _ _ _ _ K rfl rfl T.b_enumerate (q0a (pv 0) q0c) (by rfl)) (@q2h _ _ _ _ (2) _ K rfl rfl (q0r (q0l (i:=2) sc_ask_signs.nd rfl (by trivial)) (q0r (q0l (i:=3) sc_ask_signs.nd rfl (by trivial)) q1p)) (by rfl) (by rfl)) (q1f (q0w (q0h (in_k K rfl) (pv 3) (q0p (v:=.str (Ab "?*#@")) (by rfl) g_GAP_SIGNS ⟨_,rfl⟩) (by with_unfolding_all rfl)) (q0d (z0p (i:=1) sc_ask_signs.nd rfl (by trivial) q0f z2k)) q0j) (q0d (q0w (pt_j (@PW.pt _ _ _ (q6e (q0h q5l (pv 1) (q0p (v:=.int 9) (by rfl) g_MOST_GAPS ⟨_,rfl⟩) (nomark _)) (q3v (q0h (z1e K rfl) (pv 3) (q0u q0k (q0p (v:=.str (Ab "?*#@")) (by rfl) g_GAP_SIGNS ⟨_,rfl⟩) (q0p (v:=.str (Ab "abcdefghijklmnopqrstuvwxyzABCDEFGHIJKLMNOPQRSTUVWXYZ0123456789-_.")) (by rfl) g_NAME_SIGNS ⟨_,rfl⟩)) (by with_unfolding_all rfl)))))) (q0d q1s) q0j)))))),?_⟩;have hlen:(mk l).length=l.length:=by rw[len,q0z]
  refine⟨_,rfl,.inl ⟨_,rfl,q4x (fun i σ' H'=>∃x2 x3,σ'=[some (.str (mk l)),some (.int (((l.take i).filter fun c=>decide (c∈GS)).length:Nat)),x2,x3]/\Same H H') ⟨none,none,rfl,Same.refl H⟩ ?_ ?_⟩⟩
  ·rintro i c T' σ' H' hc ⟨x2,x3,rfl,sm⟩ hT;have hci:l[i]?=some c:=by have:=get hc;rw[q0z] at this;exact this
   have hcl:c∈l:=As hci;have hi:i<l.length:=(Ai.mp hci).1;have hcount:((l.take (i+1)).filter fun c=>decide (c∈GS)).length<=9:=by
    refine Aq (Jv ?_) hg.gp;exact(Gj _ _).filter _
   have htake:((l.take (i+1)).filter fun c=>decide (c∈GS)).length=((l.take i).filter fun c=>decide (c∈GS)).length+(if c∈GS then 1 else 0):=by
    rw[q1b hci,Ga,Ad];congr 1;by_cases h:c∈GS
    ·rw[if_pos h,z4b h];rfl
    ·rw[if_neg h,z4c h];rfl
   refine⟨T',_,rfl,SqT.of q0e,rfl,_,_,rfl,_,_,rfl,rfl,?_⟩;generalize hH2:upd H' T' _=H2;have sm2:Same H H2:=by rw[<- hH2];exact sm.new hT
   refine⟨fun σ2 H3=>σ2=[some (.str (mk l)),some (.int (((l.take (i+1)).filter fun c=>decide (c∈GS)).length:Nat)),some (.int (i:Nat)),some (.str ⟨#[c]⟩)]/\H3=H2,?_,?_⟩
   ·rintro σ2 H3 ⟨rfl,rfl⟩;refine⟨fun b H4=>b=false/\H4=H3,?_,?_⟩
    ·rintro b H4 ⟨rfl,rfl⟩;exact iteF ⟨_,_,rfl,sm2⟩
    ·refine⟨_,rfl,_,_,rfl,rfl,_,rfl,?_⟩;refine iteB (fun h=>?_) (fun h=>?_)
     ·exact absurd (of_decide_eq_true h) (by lia)
     ·refine⟨_,rfl,.inr (.inl ⟨_,_,rfl,rfl,by decide +kernel,.inl ⟨_,_,rfl,rfl,_,rfl,?_,rfl⟩⟩)⟩;rw[q2o,gn_in,decide_eq_true (hg.sg c hcl)];rfl
   ·refine⟨_,rfl,.inl ⟨_,_,rfl,rfl,_,rfl,?_⟩⟩;rw[q2o];refine ite2 (fun h=>?_) (fun h=>?_)
    ·have h':c∈GS:=of_decide_eq_true h;refine⟨_,rfl,_,_,rfl,rfl,?_,rfl⟩;rw[htake,if_pos h'];rfl
    ·have h':¬c∈GS:=fun z=>h (decide_eq_true z);refine⟨?_,rfl⟩;rw[htake,if_neg h'];rfl
  ·rintro σ' H' ⟨x2,x3,rfl,sm⟩;exact k _ sm
def spTextParts:Sp:=fun vs H Q _=>∃t,vs=[.str (mk t)]/\∀L H',H L=none->Same H H'->HL H' L (tp t)->Q (.ref L) H'
theorem z4l{t:List Nat}:decide (V.str (mk t)=V.str (Ab ""))=decide (t=[]):=by
 refine decide_eq_decide.mpr ⟨fun h=>?_,fun h=>by rw[h];rfl⟩;injection h with h;have:=congrArg tl h;rw[q0z] at this;rw[this];decide +kernel
abbrev q3m:Stmt:=top 16
theorem q9p:FnScope ["text"] ["text"] (defScope q3m):=by trivial
theorem q5e(D:Df K mg "text_parts" q3m ["text"])(T:Txt mg):Cal P w K mg base "text_parts" 1 ["text"] spTextParts:=by
 refine D.cal q9p (fun vs H Q E h=>?_) (fun f cdv A outer s H vs Q E hr h=>?_)
 ·obtain⟨t,rfl,_⟩:=h;rfl
 ·obtain⟨t,rfl,k⟩:=h;refine⟨_,(q0b (q0w (q0h (eq_k K rfl hr) (pv 0) q0g (nomark _)) (q0d (q0o (q1r q0c))) q0j) (q0d (q0o (q1r (q0a (q0q (q0a q0g (q0a (pv 0) q0c))) q0c))))),?_⟩;refine⟨_,rfl,.inl ⟨rfl,_,rfl,?_⟩⟩;rw[z4l];refine ite2 (fun h=>?_) (fun h=>?_)
  ·have h':=of_decide_eq_true h;refine⟨by show 0<=sizeLine;decide,fun L hL=>k L _ hL ((Same.refl H).new hL) ⟨[],q0e,?_⟩⟩;unfold tp;rw[if_pos h'];exact .nil
  ·have h':¬t=[]:=fun z=>h (decide_eq_true z);refine⟨_,rfl,by show 2<=sizeLine;decide,fun T1 h1=>⟨by show 1<=sizeLine;decide,fun L hL=>k L _ ?_ (((Same.refl H).new h1).new hL) ⟨[T1],q0e,?_⟩⟩⟩
   ·have s1:Same H (upd H T1 (.tup [.str (Ab "text"),.str (mk t)])):=(Same.refl H).new h1;exact s1.free hL
   ·unfold tp;rw[if_neg h'];refine .cons ?_ .nil;have:T1≠L:=q0y q0e hL;rw[q0m this];exact q0e
structure Calls1 (P:Program) (w:World) (K:Af) (mg:Str->Option Value) (base:Heap):Prop where
 ask_signs:Cal P w K mg base "ask_signs" 1 ["pattern"] spAsk
 text_parts:Cal P w K mg base "text_parts" 1 ["text"] spTextParts
def spPartsOf:Sp:=fun vs H Q _=>∃l,vs=[.str (mk l)]/\Good l/\∀L H',H L=none->Same H H'->HL H' L (parse [] l)->Q (.ref L) H'
theorem q5f{l:List Nat}{i j:Nat}(h1:i<=j)(h2:j<=l.length):Kq (mk l) (some (i:Int)) (some (j:Int))=mk ((l.drop i).take (j-i)):=by
 show Dh (mk l) (some (i:Int)) (some (j:Int))=_;rw[StrLaws.sliceText_plain ⟨by lia,by lia,by rw[show((mk l).cps.toList).length=l.length from congrArg List.length (q0z l)];lia⟩];have e1:((i:Nat):Int).toNat=i:=by lia
 have e2:(((j:Nat):Int)-((i:Nat):Int)).toNat=j-i:=by lia
 show mk (((mk l).cps.toList.drop ((i:Nat):Int).toNat).take (((j:Nat):Int)-((i:Nat):Int)).toNat)=_;rw[show(mk l).cps.toList=l from q0z l,e1,e2]
abbrev q3n:Stmt:=top 17
theorem sc_parts_of:FnScope ["pattern", "parts", "begin", "at", "sign"] ["pattern"] (defScope q3n):=by trivial
theorem z3c(D:Df K mg "parts_of" q3n ["pattern"])(T:Txt mg)(C:Calls1 P w K mg base):Cal P w K mg base "parts_of" 2 ["pattern"] spPartsOf:=by
 refine D.cal sc_parts_of (fun vs H Q E h=>?_) (fun f cdv A outer s H vs Q E hr h=>?_)
 ·obtain⟨l,rfl,_⟩:=h;rfl
 ·obtain⟨l,rfl,hg,k⟩:=h;obtain⟨_,g_NAME_SIGNS⟩:=T.NAME_SIGNS;obtain⟨_,g_GAP_SIGNS⟩:=T.GAP_SIGNS;refine⟨_,(q0b (q0w (q0h (eq_k K rfl hr) (pv 0) q0g (nomark _)) (q0d q1s) q0j) (q0b (q0v (pe_c C.ask_signs hr (q0a (pv 0) q0c))) (q0b (q0i (i:=1) sc_parts_of.nd rfl (by trivial) (q1r q0c)) (q0b (q0i (i:=2) sc_parts_of.nd rfl (by trivial) q0f) (q0b (q1h Bo rfl (@z3z _ _ _ _ _ _ _ _ K rfl rfl T.b_enumerate (q0a (pv 0) q0c) (by rfl)) (@q2h _ _ _ _ (2) _ K rfl rfl (q0r (q0l (i:=3) sc_parts_of.nd rfl (by trivial)) (q0r (q0l (i:=4) sc_parts_of.nd rfl (by trivial)) q1p)) (by rfl) (by rfl)) (q0d (q0w (q0h (in_k K rfl) (pv 4) (q0p (v:=.str (Ab "?*#@")) (by rfl) g_GAP_SIGNS ⟨_,rfl⟩) (by with_unfolding_all rfl)) (q0b (q0v (@bm_k _ _ _ _ _ _ _ _ _ _ _ _ K rfl Bs Gy Gz q4w (pv 1) (q0a (pe_c C.text_parts hr (q0a (q1l (sl_k K rfl) (pv 0) (q1d (pv 2)) (q1d (pv 3))) q0c)) q0c) (by rfl) (by rfl) (by rfl) (by rfl) (by rfl))) (q0b (q0v (@bm_k _ _ _ _ _ _ _ _ _ _ _ _ K rfl Bs Dc Dd q1m (pv 1) (q0a (q0q (q0a q0g (q0a (pv 4) q0c))) q0c) (by rfl) (by rfl) (by rfl) (by rfl) (by rfl))) (q0d (q0i (i:=2) sc_parts_of.nd rfl (by trivial) (q0u q0k (pv 3) q0f))))) q0j))) (q0b (q0v (@bm_k _ _ _ _ _ _ _ _ _ _ _ _ K rfl Bs Gy Gz q4w (pv 1) (q0a (pe_c C.text_parts hr (q0a (q1l (sl_k K rfl) (pv 0) (q1d (pv 2)) q6w) q0c)) q0c) (by rfl) (by rfl) (by rfl) (by rfl) (by rfl))) (q0d (q0o (pv 1))))))))),?_⟩;have hlen:(mk l).length=l.length:=by rw[len,q0z]
  have hl0:=hg.len;refine⟨_,rfl,.inl ⟨rfl,_,rfl,?_⟩⟩;rw[z4l,decide_eq_false hg.ne];refine iteF ?_;refine⟨_,rfl,l,rfl,hg,fun H1 sm1=>?_⟩;refine⟨by show 0<=sizeLine;decide,fun L hL=>?_⟩;have hL0:H L=none:=sm1.free hL;have ext:∀(H':Hp) (acc:List Pt) (t:List Nat) (M:Addr) (H2:Hp),HL H' L acc->acc.length<=5000->Same H H'->H' M=none->Same H' H2->HL H2 M (tp t) ->
    ∃xs zs,H2 L=some (.lst xs)/\H2 M=some (.lst zs)/\xs.length+zs.length<=sizeLine/\HL (upd H2 L (.lst (xs++zs))) L (acc++tp t)/\Same H (upd H2 L (.lst (xs++zs))):=by
   intro H' acc t M H2 hl ha sm hM sm2 hm;obtain⟨Ts,h1,h2⟩:=hl.ex;obtain⟨Us,h3,h4⟩:=hm.ex;have l1:=h2.len;have l2:=h4.len;have l3:(tp t).length<=1:=by unfold tp;split<;>simp
   have hL2:H2 L=some (.lst (Ts.map V.ref)):=sm2 _ _ h1;refine⟨_,_,hL2,h3,by rw[Ag,Ag];exact small (by lia),⟨Ts++Us,by rw[Bf];exact q0e,?_⟩,(sm.trans sm2).put hL0⟩;exact Tups.app ((h2.keep (Same.tk sm2)).keep ((TKeep.refl H2).lst hL2)) (h4.keep ((TKeep.refl H2).lst hL2))
  refine⟨_,rfl,.inl ⟨_,rfl,q4x (fun i σ' H'=>∃acc x3 x4 bg,σ'=[some (.str (mk l)),some (.ref L),some (.int (bg:Nat)),x3,x4]/\Same H H'/\HL H' L acc/\bg<=i/\i<=l.length/\acc.length<=2*i/\acc++parse ((l.drop bg).take (i-bg)) (l.drop i)=parse [] l) ⟨[],none,none,0,rfl,(sm1.new hL),⟨[],q0e,.nil⟩,Aj _,Ax _,Aj _,by simp⟩ ?_ ?_⟩⟩
  ·rintro i c T' σ' H' hc ⟨acc,x3,x4,bg,rfl,sm,hl,hbi,hil,hal,hp⟩ hT;have hci:l[i]?=some c:=by have:=get hc;rw[q0z] at this;exact this
   have hi:i<l.length:=(Ai.mp hci).1;have hdr:l.drop i=c::l.drop (i+1):=by
    have:=Iw hi;rw[this];congr 1;exact(Ai.mp hci).2
   refine⟨T',_,rfl,SqT.of q0e,rfl,_,_,rfl,_,_,rfl,rfl,?_⟩;generalize hH2:upd H' T' _=H2;have s12:Same H' H2:=by rw[<- hH2];exact(Same.refl H').new hT
   have sm2:Same H H2:=sm.trans s12;have hl2:HL H2 L acc:=hl.same s12;refine⟨_,rfl,.inl ⟨_,_,rfl,rfl,_,rfl,?_⟩⟩;rw[q2o];rw[hdr,parse] at hp;refine ite2 (fun h=>?_) (fun h=>?_)
   ·have h':c∈GS:=of_decide_eq_true h;rw[if_pos h'] at hp;refine⟨_,rfl,.inl ⟨rfl,hl2.sq⟩,_,rfl,_,rfl,_,rfl,_,rfl,_,rfl,.inl ⟨_,rfl,small (by lia),?_⟩⟩;rw[q5f hbi hil];refine⟨_,rfl,fun M H3 hM sm3 hm=>?_⟩;obtain⟨xs,zs,e1,e2,e3,e4,e5⟩:=ext H2 acc _ M H3 hl2 (by lia) sm2 hM sm3 hm;refine⟨L,M,xs,zs,rfl,rfl,e1,e2,e3,?_⟩;generalize hH4:upd H3 L _=H4;rw[hH4] at e4 e5;refine⟨_,rfl,.inl ⟨rfl,e4.sq⟩,_,rfl,by show 2<=sizeLine;decide,fun T2 hT2=>?_⟩;have e6:HL (upd H4 T2 (.tup (Pt.gp c).vs)) L _:=e4.new hT2;obtain⟨Ts,h1,h2⟩:=e6.ex;have htl:(tp ((l.drop bg).take (i-bg))).length<=1:=by unfold tp;split<;>simp
    have hTl:=h2.len;rw[Ad] at hTl;refine⟨L,_,_,rfl,rfl,h1,by rw[Ag];exact small' (by lia),?_⟩;refine⟨_,rfl,.inl ⟨_,_,rfl,rfl,?_⟩⟩;have hT2L:T2≠L:=fun z=>by subst z;rw[q0e] at h1;cases h1
    refine⟨acc++tp ((l.drop bg).take (i-bg))++[.gp c],some (.int (i:Nat)),some (.str ⟨#[c]⟩),i+1,rfl,(e5.new hT2).put hL0,⟨Ts++[T2],by rw[Bf];exact q0e,?_⟩,Aj _,hi,by rw[Ad,Ad,Bg];lia,?_⟩
    ·refine Tups.app (h2.keep ((TKeep.refl _).lst h1)) (.cons ?_ .nil);rw[q0m hT2L];exact q0e
    ·rw[<- hp];simp
   ·have h':¬c∈GS:=fun z=>h (decide_eq_true z);rw[if_neg h'] at hp;refine⟨acc,_,_,bg,rfl,sm2,hl2,by lia,hi,by lia,?_⟩;rw[<- hp];congr 2;have e1:i+1-bg=(i-bg)+1:=by lia
    rw[e1];refine q1b ?_;rw[Hl];have e2:bg+(i-bg)=i:=by lia
    rw[e2];exact hci
  ·rintro σ' H' ⟨acc,x3,x4,bg,rfl,sm,hl,hbi,hil,hal,hp⟩;refine⟨_,rfl,.inl ⟨rfl,hl.sq⟩,_,rfl,_,rfl,_,rfl,.inl ⟨_,rfl,small (by lia),?_⟩⟩;have hbl:bg<=l.length:=by lia
   rw[q8j (by lia) (by rw[q0z];lia),q0z];refine⟨_,rfl,fun M H3 hM sm3 hm=>?_⟩;obtain⟨xs,zs,e1,e2,e3,e4,e5⟩:=ext H' acc _ M H3 hl (by lia) sm hM sm3 hm;refine⟨L,M,xs,zs,rfl,rfl,e1,e2,e3,_,rfl,?_⟩;refine k L _ hL0 e5 ?_;rw[hlen] at hp;have e6:(l.drop bg).take (l.length-bg)=l.drop bg:=Ce (by rw[Cf];exact Aj _);rw[Hb,parse,e6] at hp;have e7:((bg:Nat):Int).toNat=bg:=by lia
   rw[e7] at e4;rw[<- hp];exact e4
def spAllOf:Sp:=fun vs H Q _=>∃t g,vs=[.str (mk t),.str g]/\t.length<=1000/\∀H',Same H H'->Q (.bl (allOf t (tl g))) H'
abbrev q7k:Stmt:=top 11
theorem z8j:FnScope ["text", "signs"] ["text", "signs"] (defScope q7k):=by trivial
theorem z8k(D:Df K mg "all_of" q7k ["text", "signs"])(T:Txt mg):Cal P w K mg base "all_of" 1 ["text", "signs"] spAllOf:=by
 refine D.cal z8j (fun vs H Q E h=>?_) (fun f cdv A outer s H vs Q E hr h=>?_)
 ·obtain⟨t,g,rfl,_⟩:=h;rfl
 ·obtain⟨t,g,rfl,hl,k⟩:=h;refine⟨_,(q0d (q0o (pe_j (q6u (q4k (ne_k K rfl hr) (pv 0) q0g (nomark _)) (q6a (q0s (all_k K rfl rfl) (by rfl) T.b_all (by decide +kernel) (q0a (q6m ["sign"] [("signs",1)] rfl (@q2t _ _ _ _ K rfl (pv 0)) (fun _ _ _ _ _=>(q0l (i:=0) (show(["sign", "signs"]:List Str).Nodup by decide +kernel) rfl (by trivial))) (fun _ _ _ _ _=>z2n) (fun _ _ _ _ _=>(q4k (in_k K rfl) (pv 0) (pv 1) (by with_unfolding_all rfl)))) q0c))))))),?_⟩;refine⟨fun v H'=>v=.bl (allOf t (tl g))/\Same H H',?_,?_⟩
  ·rintro v H' ⟨rfl,sm⟩;exact k H' sm
  refine⟨_,rfl,.inl ⟨rfl,_,rfl,?_⟩⟩;rw[z4l];refine iteB (fun h=>?_) (fun h=>?_)
  ·have hne:¬t=[]:=fun z=>by rw[decide_eq_true z] at h;cases h
   refine⟨_,rfl,.inr (.inr ⟨mk t,rfl,fun D hD=>?_⟩)⟩;refine z7l (fun i ys H'=>ys=(t.take i).map (fun c=>V.bl (decide (c∈tl g)))/\Same H H'/\H' D=some (.lst ys)/\ys.length<=i/\i<=t.length) ⟨rfl,(Same.refl H).new hD,q0e,Aj _,Ax _⟩ (fun i ys H' h=>h.2.2.1) ?_ ?_
   ·rintro i ys H' c hc ⟨rfl,sm,hHD,hle,_⟩;have hci:t[i]?=some c:=by have:=get hc;rw[q0z] at this;exact this
    have hi:i<t.length:=(Ai.mp hci).1;refine⟨_,rfl,_,rfl,.inl ⟨_,_,rfl,rfl,hHD,small' (by lia),?_,sm.put hD,q0e,?_,hi⟩⟩
    ·rw[q1b hci,Bf,q2o];rfl
    ·rw[Ad,Bg];lia
   ·rintro ys H' ⟨rfl,sm,hHD,_,_⟩;have e3:t.take (mk t).length=t:=by rw[q0n];exact Ce (Aj _)
    rw[e3] at hHD;refine⟨D,t.map fun c=>decide (c∈tl g),rfl,SqL.of (by rw[Es];exact hHD),?_,sm⟩;unfold allOf;rw[decide_eq_true hne,Bool.true_and,List.all_map];rfl
  ·have he:t=[]:=Cu fun z=>by rw[decide_eq_false z] at h;cases h
   refine⟨?_,Same.refl H⟩;subst he;rfl
def spGapTakes:Sp:=fun vs H Q _=>∃c t,vs=[.str (mk [c]),.str (mk t)]/\t.length<=1000/\∀H',Same H H'->Q (.bl (gapTakes c t)) H'
structure CallsA (P:Program) (w:World) (K:Af) (mg:Str->Option Value) (base:Heap):Prop where
 all_of:Cal P w K mg base "all_of" 1 ["text", "signs"] spAllOf
theorem lit1(c d:Nat)(s:String)(h:Ab s=mk [d]):decide (V.str (mk [c])=V.str (Ab s))=decide (c=d):=by
 rw[h,dec_str];exact decide_eq_decide.mpr ⟨fun z=>by injection z,fun z=>by rw[z]⟩
theorem x3t(t:List Nat):decide (V.int (((mk t).length:Nat):Int)=V.int 1)=decide (t.length=1):=by
 rw[q0n];exact decide_eq_decide.mpr ⟨fun z=>by injection z with z;lia,fun z=>by rw[z];rfl⟩
abbrev q4a:Stmt:=top 42
theorem z1o:FnScope ["gap_sign", "text"] ["gap_sign", "text"] (defScope q4a):=by trivial
theorem z1p(D:Df K mg "gap_takes" q4a ["gap_sign", "text"])(T:Txt mg)(C:CallsA P w K mg base):Cal P w K mg base "gap_takes" 2 ["gap_sign", "text"] spGapTakes:=by
 refine D.cal z1o (fun vs H Q E h=>?_) (fun f cdv A outer s H vs Q E hr h=>?_)
 ·obtain⟨c,t,rfl,_⟩:=h;rfl
 ·obtain⟨c,t,rfl,hl,k⟩:=h;obtain⟨_,g_FIGURES⟩:=T.FIGURES;obtain⟨_,g_LETTERS⟩:=T.LETTERS;refine⟨_,(q0b (q0w (q0h (eq_k K rfl hr) (pv 0) q0g (nomark _)) (q0d (q0o (q4k (eq_k K rfl hr) (q0s (q2e K rfl) (by rfl) T.b_len Bm (q0a (pv 1) q0c)) q0f (nomark _)))) q0j) (q0b (q0w (q0h (eq_k K rfl hr) (pv 0) q0g (nomark _)) (q0d (q0o (pe_c C.all_of hr (q0a (pv 1) (q0a (q0p (v:=.str (Ab "0123456789")) (by rfl) g_FIGURES ⟨_,rfl⟩) q0c))))) q0j) (q0b (q0w (q0h (eq_k K rfl hr) (pv 0) q0g (nomark _)) (q0d (q0o (pe_c C.all_of hr (q0a (pv 1) (q0a (q0p (v:=.str (Ab "abcdefghijklmnopqrstuvwxyzABCDEFGHIJKLMNOPQRSTUVWXYZ")) (by rfl) g_LETTERS ⟨_,rfl⟩) q0c))))) q0j) (q0d (q0o q5k))))),?_⟩;have hlen:=q0n t;refine⟨_,rfl,.inl ⟨rfl,_,rfl,?_⟩⟩;rw[lit1 c 63 "?" (by decide +kernel)];refine ite2 (fun h=>?_) (fun h=>?_)
  ·have h':c=63:=of_decide_eq_true h;refine⟨_,rfl,_,_,rfl,⟨small (by lia),rfl⟩,.inl ⟨rfl,?_⟩⟩;rw[x3t];have:=k H (Same.refl H);unfold gapTakes at this;rw[if_pos h'] at this;exact this
  have n1:¬c=63:=fun z=>h (decide_eq_true z);refine⟨_,rfl,.inl ⟨rfl,_,rfl,?_⟩⟩;rw[lit1 c 35 "#" (by decide +kernel)];refine ite2 (fun h=>?_) (fun h=>?_)
  ·have h':c=35:=of_decide_eq_true h;refine⟨_,rfl,t,_,rfl,hl,fun H' sm=>?_⟩;have:=k H' sm;unfold gapTakes at this;rw[if_neg n1,if_pos h'] at this;exact this
  have n2:¬c=35:=fun z=>h (decide_eq_true z);refine⟨_,rfl,.inl ⟨rfl,_,rfl,?_⟩⟩;rw[lit1 c 64 "\x40" (by decide +kernel)];refine ite2 (fun h=>?_) (fun h=>?_)
  ·have h':c=64:=of_decide_eq_true h;refine⟨_,rfl,t,_,rfl,hl,fun H' sm=>?_⟩;have:=k H' sm;unfold gapTakes at this;rw[if_neg n1,if_neg n2,if_pos h'] at this;exact this
  have n3:¬c=64:=fun z=>h (decide_eq_true z);have:=k H (Same.refl H);unfold gapTakes at this;rw[if_neg n1,if_neg n2,if_neg n3] at this;exact this
structure CallsB (P:Program) (w:World) (K:Af) (mg:Str->Option Value) (base:Heap):Prop where
 gap_takes:Cal P w K mg base "gap_takes" 2 ["gap_sign", "text"] spGapTakes
def spTakes:Sp:=fun vs H Q _=>∃(a:Addr) (p:Pt) (t:List Nat),vs=[.ref a,.str (mk t)]/\H a=some (.tup p.vs)/\p.ok/\t.length<=1000/\∀H',Same H H'->Q (.bl (p.takes t)) H'
theorem wtext:decide (V.str (Ab "text")=V.str (Ab "text"))=true:=decide_eq_true rfl
theorem wgap:decide (V.str (Ab "gap")=V.str (Ab "text"))=false:=by decide +kernel
abbrev q9q:Stmt:=top 43
theorem sc_takes:FnScope ["part", "text", "sort", "what"] ["part", "text"] (defScope q9q):=by trivial
theorem x0q(D:Df K mg "takes" q9q ["part", "text"])(T:Txt mg)(C:CallsB P w K mg base):Cal P w K mg base "takes" 3 ["part", "text"] spTakes:=by
 refine D.cal sc_takes (fun vs H Q E h=>?_) (fun f cdv A outer s H vs Q E hr h=>?_)
 ·obtain⟨a,p,t,rfl,_⟩:=h;rfl
 ·obtain⟨a,p,t,rfl,ha,hok,hl,k⟩:=h;refine⟨_,(q0b (q3w (pv 0) (@q2h _ _ _ _ (2) _ K rfl rfl (q0r (q0l (i:=2) sc_takes.nd rfl (by trivial)) (q0r (q0l (i:=3) sc_takes.nd rfl (by trivial)) q1p)) (by rfl) (by rfl))) (q0b (q0w (q0h (eq_k K rfl hr) (pv 2) q0g (nomark _)) (q0d (q0o (q4k (eq_k K rfl hr) (pv 1) (pv 3) (nomark _)))) q0j) (q0d (q0o (pe_c C.gap_takes hr (q0a (pv 3) (q0a (pv 1) q0c))))))),?_⟩;refine⟨_,rfl,a,_,rfl,SqT.of ha,rfl,_,_,rfl,_,_,rfl,rfl,?_⟩;cases p with
  |tx l =>
   refine⟨_,rfl,.inl ⟨rfl,_,rfl,?_⟩⟩;refine Eq.mpr (congrArg (fun b=>if b=true then _ else _) wtext) ?_;refine iteT ?_;refine⟨_,rfl,_,rfl,.inl ⟨rfl,?_⟩⟩;have:=k H (Same.refl H);rw[show(Pt.tx l).takes t=decide (V.str (mk t)=V.str (mk l)) from(dec_str t l).symm] at this;exact this
  |gp c =>
   refine⟨_,rfl,.inl ⟨rfl,_,rfl,?_⟩⟩;refine Eq.mpr (congrArg (fun b=>if b=true then _ else _) wgap) ?_;refine iteF ?_;exact⟨_,rfl,_,rfl,c,t,rfl,hl,fun H' sm=>k H' sm⟩
structure CallsC (P:Program) (w:World) (K:Af) (mg:Str->Option Value) (base:Heap):Prop where
 takes:Cal P w K mg base "takes" 3 ["part", "text"] spTakes
def spFurthest:Sp:=fun vs H Q _=>∃a p n d g,vs=[.ref a,.str (mk n),.ref d]/\H a=some (.tup p.vs)/\p.ok/\n.length<=60/\DF H d g/\∀e H',H e=none->Same H H'->DF H' e (far p n fun x=>(g x).isSome)->Q (.ref e) H'
abbrev q2f:Stmt:=top 44
theorem sc_furthest_ends:FnScope ["part", "name", "later", "ends", "begin", "end"] ["part", "name", "later"] (defScope q2f):=by trivial
theorem q6h(D:Df K mg "furthest_ends" q2f ["part", "name", "later"])(T:Txt mg)(C:CallsC P w K mg base):Cal P w K mg base "furthest_ends" 4 ["part", "name", "later"] spFurthest:=by
 refine D.cal sc_furthest_ends (fun vs H Q E h=>?_) (fun f cdv A outer s H vs Q E hr h=>?_)
 ·obtain⟨a,p,n,d,g,rfl,_⟩:=h;rfl
 ·obtain⟨a,p,n,d,g,rfl,ha,hok,hn,hd,k⟩:=h;refine⟨_,(q0b (q0i (i:=3) sc_furthest_ends.nd rfl (by trivial) z4g) (q0b (q1h Bo rfl (q1q rfl T.b_range (q0a (q0u q0k (q0s (q2e K rfl) (by rfl) T.b_len Bm (q0a (pv 1) q0c)) q0f) q0c)) (q0l (i:=4) sc_furthest_ends.nd rfl (by trivial)) (q0d (q1h Bo rfl (z6r rfl T.b_range (q0a (pv 4) (q0a (q0u q0k (q0s (q2e K rfl) (by rfl) T.b_len Bm (q0a (pv 1) q0c)) q0f) q0c))) (q0l (i:=5) sc_furthest_ends.nd rfl (by trivial)) (q0d (q0w (pt_j (@PW.pt _ _ _ (q4h (z6o (pc_din (z2m hr) (pv 5) (pv 2))) (q3h (@x3g _ _ _ K rfl (pe_c C.takes hr (q0a (pv 0) (q0a (q1l (sl_k K rfl) (pv 1) (q1d (pv 4)) (q1d (pv 5))) q0c))) (fun _=>rfl)))))) (q0d (q9h (z2m hr) (pv 3) (pv 4) (pv 5) rfl)) q0j))))) (q0d (q0o (pv 3))))),?_⟩;have hlen:=q0n n;intro e he;generalize hL:(fun x=>(g x).isSome)=L at k;refine⟨_,rfl,_,_,rfl,⟨small (by lia),rfl⟩,.inl ⟨_,_,rfl,rfl,?_⟩⟩;refine⟨_,rfl,by lia,by lia,q1x (fun i σ' H'=>∃x4 x5 kvs,σ'=[some (.ref a),some (.str (mk n)),some (.ref d),some (.ref e),x4,x5]/\Same H H'/\H' e=some (.dK kvs)/\kvs.length<=i*61/\∀b:Nat,valV kvs (Sum.inl (b:Int))=(if b<i then far p n L b else none).map fun e=>V.int (e:Nat))
   ⟨none,none,[],rfl,(Same.refl H).new he,q0e,Ax _,fun b=>by rw[if_neg (Nj b)];rfl⟩ ?_ ?_⟩
  ·rintro i σ' H' hi ⟨x4,x5,kvs,rfl,sm,hHe,hkl,hkv⟩;have hi':i<=n.length:=by lia
   rw[show(0:Int)+(i:Int)=((i:Nat):Int) from by lia];refine⟨_,rfl,_,rfl,_,_,rfl,⟨small (by lia),rfl⟩,.inl ⟨_,_,rfl,rfl,?_⟩⟩;have ek:((((mk n).length:Nat):Int)+1-((i:Nat):Int)).toNat=n.length+1-i:=by lia
   refine⟨_,_,rfl,⟨by lia,by lia,by lia,by lia⟩,?_⟩;rw[ek];refine q1x (fun j σ2 H2=>∃x5 kvs,σ2=[some (.ref a),some (.str (mk n)),some (.ref d),some (.ref e),some (.int (i:Nat)),x5]/\Same H H2/\H2 e=some (.dK kvs)/\kvs.length<=i*61+j/\∀b:Nat,valV kvs (Sum.inl (b:Int))=(if b<i then far p n L b else if b=i then farTo p n L i j else none).map fun e=>V.int (e:Nat))
    ⟨x5,kvs,rfl,sm,hHe,hkl,fun b=>?_⟩ ?_ ?_
   ·rw[hkv b];by_cases z:b<i
    ·rw[if_pos z,if_pos z]
    ·rw[if_neg z,if_neg z];split<;>rfl
   ·rintro j σ2 H2 hj ⟨x5,kvs,rfl,sm2,hHe2,hkl2,hkv2⟩;rw[show((i:Nat):Int)+(j:Int)=((i+j:Nat):Int) from by lia];have hfs:=q8l p n L i j;refine⟨fun bb H3=>bb=(L (i+j)&&p.takes (cut n i (i+j)))/\Same H2 H3,?_,?_⟩
    ·rintro bb H3 ⟨rfl,sm3⟩;refine ite2 (fun h=>?_) (fun h=>?_)
     ·refine⟨_,rfl,_,rfl,_,rfl,e,_,rfl,DPut.k (k:=Sum.inl ((i:Nat):Int)) (sm3 _ _ hHe2) (small' (by lia)),?_⟩;refine⟨_,_,rfl,(sm2.trans sm3).put he,q0e,Aq (q3i _ _ _) (by lia),fun b=>?_⟩;have:=x1v (b:=i) (e:=i+j) hkv2 b;refine this.trans (congrArg (Option.map _) ?_);show(if b=i then some (i+j) else _)=_;rw[hfs,if_pos h];by_cases z:b=i
      ·subst z;rw[if_pos rfl,if_neg (Gh _),if_pos rfl]
      ·rw[if_neg z,if_neg z,if_neg z]
     ·refine⟨_,_,rfl,sm2.trans sm3,sm3 _ _ hHe2,by lia,fun b=>?_⟩;rw[hkv2 b,hfs,if_neg h]
    ·refine⟨_,rfl,_,rfl,d,_,rfl,(hd.same sm2).get (i+j),_,rfl,?_⟩;have eL:((g (i+j)).map fun e=>V.int (e:Nat)).isSome=L (i+j):=by rw[<- hL];show _=(g (i+j)).isSome;cases g (i+j)<;>rfl
     rw[eL];refine iteB (fun h=>?_) (fun h=>?_)
     ·refine⟨_,rfl,_,rfl,_,rfl,_,rfl,_,rfl,_,rfl,.inl ⟨_,rfl,small (by lia),?_⟩⟩;rw[q5f (by lia) (by lia)];refine⟨a,p,cut n i (i+j),rfl,sm2 _ _ ha,hok,?_,fun H3 sm3=>⟨_,rfl,?_,sm3⟩⟩
      ·unfold cut;rw[Bt,Cf];lia
      ·rw[h,Bool.true_and]
     ·refine⟨?_,Same.refl H2⟩;rw[h,Bool.false_and]
   ·rintro σ2 H2 ⟨x5,kvs,rfl,sm2,hHe2,hkl2,hkv2⟩;refine⟨_,_,kvs,rfl,sm2,hHe2,by lia,fun b=>?_⟩;rw[hkv2 b];by_cases z:b<i
    ·rw[if_pos z,if_pos (by lia)]
    ·rw[if_neg z];by_cases z2:b=i
     ·subst z2;rw[if_pos rfl,if_pos (by lia)];unfold far;rw[if_pos hi']
     ·rw[if_neg z2,if_neg (by lia)]
  ·rintro σ' H' ⟨x4,x5,kvs,rfl,sm,hHe,hkl,hkv⟩;have et:((((mk n).length:Nat):Int)+1).toNat=n.length+1:=by lia
   rw[et] at hkl hkv;refine⟨_,rfl,k e H' he sm ⟨kvs,hHe,?_,fun b=>?_⟩⟩
   ·have:(n.length+1)*61<=61*61:=Ks _ (by lia);lia
   ·rw[hkv b];by_cases z:b<n.length+1
    ·rw[if_pos z]
    ·rw[if_neg z];unfold far;rw[if_neg (by lia)]
structure CallsD (P:Program) (w:World) (K:Af) (mg:Str->Option Value) (base:Heap):Prop where
 furthest_ends:Cal P w K mg base "furthest_ends" 4 ["part", "name", "later"] spFurthest
def spEnds:Sp:=fun vs H Q _=>∃L n ps,vs=[.ref L,.str (mk n)]/\HL H L ps/\(∀p∈ps,p.ok)/\ps.length<=3000/\n.length<=60/\∀E H' ds,H E=none->Same H H'->H' E=some (.lst (ds.map V.ref))->DS H' n ds ps->Q (.ref E) H'
theorem x3u{α:Type}{l:List α}{i:Nat}{x:α}(h:l.reverse[i]?=some x):i<l.length/\l[l.length-1-i]?=some x:=by
 have hi:i<l.length:=by
  have:=(Ai.mp h).1;simpa using this
 exact⟨hi,by rwa [List.getElem?_reverse hi] at h⟩
abbrev q2g:Stmt:=top 45
theorem sc_ends_of_parts:FnScope ["parts", "name", "later", "ends", "part"] ["parts", "name"] (defScope q2g):=by trivial
theorem q6i(D:Df K mg "ends_of_parts" q2g ["parts", "name"])(T:Txt mg)(C:CallsD P w K mg base):Cal P w K mg base "ends_of_parts" 5 ["parts", "name"] spEnds:=by
 refine D.cal sc_ends_of_parts (fun vs H Q E h=>?_) (fun f cdv A outer s H vs Q E hr h=>?_)
 ·obtain⟨L,n,ps,rfl,_⟩:=h;rfl
 ·obtain⟨L,n,ps,rfl,hL,hok,hpl,hn,k⟩:=h;refine⟨_,(q0b (q0i (i:=2) sc_ends_of_parts.nd rfl (by trivial) (x3l (x0g (q0s (q2e K rfl) (by rfl) T.b_len Bm (q0a (pv 1) q0c)) (q0s (q2e K rfl) (by rfl) T.b_len Bm (q0a (pv 1) q0c)) x3k) rfl rfl (by simp) (by decide))) (q0b (q0i (i:=3) sc_ends_of_parts.nd rfl (by trivial) (q1r q0c)) (q0b (q1h Bo rfl (@rev_k _ _ _ _ _ _ K rfl rfl T.b_reversed (q0a (pv 0) q0c) (by rfl)) (q0l (i:=4) sc_ends_of_parts.nd rfl (by trivial)) (q0b (q0i (i:=2) sc_ends_of_parts.nd rfl (by trivial) (pe_c C.furthest_ends hr (q0a (pv 4) (q0a (pv 1) (q0a (pv 2) q0c))))) (q0d (q0v (@bm_k _ _ _ _ _ _ _ _ _ _ _ _ K rfl Bs Dc Dd q1m (pv 3) (q0a (pv 2) q0c) (by rfl) (by rfl) (by rfl) (by rfl) (by rfl)))))) (q0b (q0v (@q7f _ _ _ _ _ _ _ _ _ K rfl Bs PySem.F.slot_list_reverse PySem.F.type_list_reverse z5p (pv 3) (by rfl) (by rfl))) (q0d (q0o (pv 3))))))),?_⟩;have hlen:=q0n n;obtain⟨Ts,h1,h2⟩:=hL.ex;have hTl:=h2.len;intro d0 hd0;refine⟨_,rfl,_,_,rfl,⟨small (by lia),rfl⟩,_,rfl,_,_,rfl,⟨small (by lia),rfl⟩,q0e,[(Sum.inl ((n.length:Nat):Int),.int ((n.length:Nat):Int))],?_,Om rfl,?_⟩
  ·rw[hlen];rfl
  have sm0:Same H (upd (upd H d0 (.dK [])) d0 (.dK (mergeK [] [(Sum.inl ((n.length:Nat):Int),.int ((n.length:Nat):Int))]))):=((Same.refl H).new hd0).put hd0;have df0:DF (upd (upd H d0 (.dK [])) d0 (.dK (mergeK [] [(Sum.inl ((n.length:Nat):Int),.int ((n.length:Nat):Int))]))) d0 (fun b=>if b=n.length then some n.length else none):=by
   refine⟨_,q0e,Om rfl,fun b=>?_⟩;have:=x1v (kvs:=[]) (b:=n.length) (e:=n.length) (f:=fun _=>none) (fun c=>rfl) b;exact this
  generalize hH1:upd (upd H d0 (.dK [])) d0 _=H1 at sm0 df0;refine⟨by show 0<=sizeLine;decide,fun E hE=>?_⟩;have hE0:H E=none:=sm0.free hE;have sm1:Same H (upd H1 E (.lst [])):=sm0.new hE;have hEL:E≠L:=fun z=>by subst z;rw[hE0] at h1;cases h1
  refine⟨_,rfl,L,_,rfl,sm1 _ _ h1,?_⟩;refine x3m (xs:=Ts.map V.ref) (fun i σ' H'=>∃d g x4 ds,σ'=[some (.ref L),some (.str (mk n)),some (.ref d),some (.ref E),x4]/\Same H H'/\DF H' d g/\(∀b,(g b).isSome=fits n (ps.drop (ps.length-i)) b)/\H' E=some (.lst (ds.map V.ref))/\DS H' n ds.reverse (ps.drop (ps.length-i))/\i<=ps.length)
   ⟨d0,_,none,[],rfl,sm1,df0.new hE,fun b=>?_,q0e,?_,Ax _⟩ (fun i σ' H' ⟨_,_,_,_,_,sm,_⟩=>SqL.of (sm _ _ h1)) ?_ ?_
  ·rw[show ps.length-0=ps.length from rfl,Hb];show(if b=n.length then some n.length else none).isSome=decide (b=n.length);by_cases z:b=n.length
   ·rw[if_pos z,decide_eq_true z];rfl
   ·rw[if_neg z,decide_eq_false z];rfl
  ·rw[show ps.length-0=ps.length from rfl,Hb];exact .nil
  ·rintro i x σ' H' hx ⟨d,g,x4,ds,rfl,sm,hd,hg,hHE,hds,hil⟩;obtain⟨hi,hx'⟩:=x3u hx;rw[Ag] at hi hx';obtain⟨T1,p,rfl,hp,hT1⟩:=h2.get hx';rw[hTl] at hp hi;have hpm:p∈ps:=As hp;have edr:ps.drop (ps.length-(i+1))=p::ps.drop (ps.length-i):=by
    have:=q5a hp;rw[show ps.length-1-i=ps.length-(i+1) from by lia,show ps.length-(i+1)+1=ps.length-i from by lia] at this;exact this
   refine⟨_,rfl,_,rfl,_,rfl,T1,p,n,d,g,rfl,sm _ _ hT1,hok p hpm,hn,hd,fun e H2 he sm2 hde=>?_⟩;have eg:(fun x=>(g x).isSome)=fits n (ps.drop (ps.length-i)):=funext hg;rw[eg] at hde;have hdl:=hds.len;rw[Pj,Cf] at hdl;have hE2:H2 E=some (.lst (ds.map V.ref)):=sm2 _ _ hHE;refine⟨_,rfl,.inl ⟨rfl,_,SqL.of hE2⟩,_,rfl,E,_,_,rfl,rfl,hE2,by rw[Ag];exact small' (by lia),?_⟩;have eE:E≠e:=fun z=>by subst z;rw[he] at hHE;cases hHE
   have hde2:DF (upd H2 E (.lst (ds.map V.ref++[.ref e]))) e (far p n (fits n (ps.drop (ps.length-i)))):=by
    obtain⟨kvs,a1,a2,a3⟩:=hde.ex;exact⟨kvs,by rw[q0m (Dm eE)];exact a1,a2,a3⟩
   refine⟨e,_,_,ds++[e],rfl,(sm.trans sm2).put hE0,hde2,fun b=>?_,by rw[Bf];exact q0e,?_,by lia⟩
   ·rw[edr];rfl
   ·rw[edr,List.reverse_append];refine .cons hde2 ?_;refine(hds.same sm2).keepL ?_;exact fun b kvs z=>by rw[q0m (fun y=>by subst y;rw[hE2] at z;cases z)];exact z
  ·rintro σ' H' ⟨d,g,x4,ds,rfl,sm,hd,hg,hHE,hds,hil⟩;rw[Ag,hTl,Kt,List.drop_zero] at hds;refine⟨_,rfl,.inl ⟨rfl,_,SqL.of hHE⟩,E,_,rfl,rfl,hHE,?_⟩;refine⟨_,rfl,k E _ ds.reverse hE0 (sm.put hE0) (by rw[<- List.map_reverse];exact q0e) (hds.keepL ?_)⟩;exact fun b kvs z=>by rw[q0m (fun y=>by subst y;rw[hHE] at z;cases z)];exact z
structure CallsE (P:Program) (w:World) (K:Af) (mg:Str->Option Value) (base:Heap):Prop where
 parts_of:Cal P w K mg base "parts_of" 2 ["pattern"] spPartsOf
 ends_of_parts:Cal P w K mg base "ends_of_parts" 5 ["parts", "name"] spEnds
def spReading:Sp:=fun vs H Q _=>∃l n,vs=[.str (mk l),.str (mk n)]/\Good l/\n.length<=60/\(fits n (parse [] l) 0=false->∀H',Same H H'->Q .non H') /\
 (fits n (parse [] l) 0=true->∀L H',H L=none->Same H H'->H' L=some (.lst (vN (rd n (parse [] l) 0)))->Q (.ref L) H')
theorem wgg(p:Pt):decide (V.str p.word=V.str (Ab "gap"))=p.isG:=by
 cases p with
 |tx l=>show decide (V.str (Ab "text")=V.str (Ab "gap"))=false;decide +kernel
 |gp c=>exact decide_eq_true rfl
abbrev q5t:Stmt:=top 46
theorem sc_reading:FnScope ["pattern", "name", "parts", "ends", "texts", "begin", "part", "part_ends", "end"] ["pattern", "name"] (defScope q5t):=by trivial
theorem z6a(D:Df K mg "reading" q5t ["pattern", "name"])(T:Txt mg)(C:CallsE P w K mg base):Cal P w K mg base "reading" 6 ["pattern", "name"] spReading:=by
 refine D.cal sc_reading (fun vs H Q E h=>?_) (fun f cdv A outer s H vs Q E hr h=>?_)
 ·obtain⟨l,n,rfl,_⟩:=h;rfl
 ·obtain⟨l,n,rfl,hg,hn,kN,kS⟩:=h;refine⟨_,(q0b (q0i (i:=2) sc_reading.nd rfl (by trivial) (pe_c C.parts_of hr (q0a (pv 0) q0c))) (q0b (q0i (i:=3) sc_reading.nd rfl (by trivial) (pe_c C.ends_of_parts hr (q0a (pv 2) (q0a (pv 1) q0c)))) (q0b (q0w (z6o (z7u (z2m hr) q0f (q1a (ix_k K rfl) (pv 3) q0f (fun _ _=>rfl)))) (q0d (q0o x1m)) q0j) (q0b (q0i (i:=4) sc_reading.nd rfl (by trivial) (q1r q0c)) (q0b (q0i (i:=5) sc_reading.nd rfl (by trivial) q0f) (q0b (q1h Bo rfl (@zip_k _ _ _ _ _ _ _ _ _ K rfl rfl T.b_zip (q0a (pv 2) (q0a (pv 3) q0c)) (by rfl) (by rfl)) (@q2h _ _ _ _ (2) _ K rfl rfl (q0r (q0l (i:=6) sc_reading.nd rfl (by trivial)) (q0r (q0l (i:=7) sc_reading.nd rfl (by trivial)) q1p)) (by rfl) (by rfl)) (q0b (q0i (i:=8) sc_reading.nd rfl (by trivial) (x3j (z2m hr) (pv 7) (pv 5) (fun _ _=>rfl))) (q1f (q0w (q0h (eq_k K rfl hr) (q1a (ix_k K rfl) (pv 6) q0f (fun _ _=>rfl)) q0g (nomark _)) (q0d (q0v (@bm_k _ _ _ _ _ _ _ _ _ _ _ _ K rfl Bs Dc Dd q1m (pv 4) (q0a (q1l (sl_k K rfl) (pv 1) (q1d (pv 5)) (q1d (pv 8))) q0c) (by rfl) (by rfl) (by rfl) (by rfl) (by rfl)))) q0j) (q0d (q0i (i:=5) sc_reading.nd rfl (by trivial) (pv 8)))))) (q0d (q0o (pv 4))))))))),?_⟩;have hlen:=q0n n;have hll:=hg.len;refine⟨_,rfl,l,rfl,hg,fun L H1 hL sm1 hlL=>?_⟩;have hok:=q4z l [] (fun _ h=>nomatch h) hg.sg;have hne:=x1u l [] (.inr hg.ne);have hpl:=q5q l [];generalize hps:parse [] l=ps at hlL hok hne hpl kN kS;refine⟨_,rfl,_,rfl,L,n,ps,rfl,hlL,hok,by lia,hn,fun E H2 ds hE sm2 hHE hds=>?_⟩;have sm12:=sm1.trans sm2;have hdl:=hds.len;obtain⟨p0,ps0,rfl⟩:∃p0 ps0,ps=p0::ps0:=by cases ps with|nil=>exact absurd rfl hne|cons a b=>exact⟨a,b,rfl⟩
  obtain⟨d0,ds0,rfl⟩:∃d0 ds0,ds=d0::ds0:=by cases ds with|nil=>simp at hdl|cons a b=>exact⟨a,b,rfl⟩
  have hf0:fits n (p0::ps0) 0=(far p0 n (fits n ps0) 0).isSome:=rfl;obtain⟨q0,hq0,hdf0⟩:=hds.get (i:=0) rfl;cases hq0;refine⟨_,rfl,.inl ⟨E,_,0,.ref d0,rfl,rfl,SqL.of hHE,q1g (j:=0) rfl,d0,_,rfl,hdf0.get 0,_,rfl,?_⟩⟩;have eS:((far p0 n (fits n ((p0::ps0).drop (0+1))) 0).map fun e=>V.int (e:Nat)).isSome=fits n (p0::ps0) 0:=by
   rw[hf0];show(Option.map _ (far p0 n (fits n ps0) 0)).isSome=_;cases far p0 n (fits n ps0) 0<;>rfl
  rw[eS];refine iteB (fun h=>?_) (fun h=>?_)
  ·refine kN ?_ H2 sm12;cases hz:fits n (p0::ps0) 0 with
   |false=>rfl
   |true=>rw[hz] at h;cases h
  have hfit:fits n (p0::ps0) 0=true:=by
   cases hz:fits n (p0::ps0) 0 with
   |true=>rfl
   |false=>rw[hz] at h;cases h
  replace kS:=kS hfit;generalize hps:p0::ps0=ps at hlL hok hdl hds hfit kS hpl;generalize hdd:d0::ds0=ds at hdl hds hHE;refine⟨by show 0<=sizeLine;decide,fun X hX=>?_⟩;have hX0:H X=none:=sm12.free hX;have sm3:Same H2 (upd H2 X (.lst [])):=(Same.refl H2).new hX;have hlL2:HL H2 L ps:=hlL.same sm2;obtain⟨Ts,h1,h2⟩:=hlL2.ex;have hTl:=h2.len;refine .inr ⟨_,rfl,_,rfl,L,E,_,_,rfl,SqL.of (sm3 _ _ h1),SqL.of (sm3 _ _ hHE),x0c (xs:=Ts.map V.ref) (ys:=ds.map V.ref) (fun i σ' H'=>∃b ts x6 x7 x8,σ'=[some (.str (mk l)),some (.str (mk n)),some (.ref L),some (.ref E),some (.ref X),some (.int (b:Nat)),x6,x7,x8]/\Same H2 H'/\H' X=some (.lst (vN ts))/\fits n (ps.drop i) b=true/\ts++rd n (ps.drop i) b=rd n ps 0/\ts.length<=i/\i<=ps.length) ⟨0,[],none,none,none,rfl,sm3,q0e,hfit,rfl,Aj _,Ax _⟩ (fun i σ' H' ⟨_,_,_,_,_,_,sm,_⟩=>⟨SqL.of (sm _ _ h1),SqL.of (sm _ _ hHE)⟩) ?_ ?_⟩
  ·rintro i x y T' σ' H' hx hy ⟨b,ts,x6,x7,x8,rfl,sm,hHX,hft,hrd,htl,hil⟩ hT';obtain⟨T1,p,rfl,hp,hT1⟩:=h2.get hx;obtain⟨d,hd,rfl⟩:∃d,ds[i]?=some d/\y=V.ref d:=by
    rw[Bk] at hy;cases hz:ds[i]? with
    |none=>rw[hz] at hy;cases hy
    |some d=>rw[hz] at hy;cases hy;exact⟨d,rfl,rfl⟩
   obtain⟨p',hp',hdf⟩:=hds.get hd;rw[hp] at hp';cases hp';have edr:=q5a hp;rw[edr] at hft hrd;have hf:(far p n (fits n (ps.drop (i+1))) b).isSome=true:=hft;obtain⟨e,he⟩:∃e,far p n (fits n (ps.drop (i+1))) b=some e:=by
    cases hz:far p n (fits n (ps.drop (i+1))) b with
    |none=>rw[hz] at hf;cases hf
    |some e=>exact⟨e,rfl⟩
   obtain⟨a1,a2,a3,a4,_⟩:=z4h he;have hi:i<ps.length:=(Ai.mp hp).1;refine⟨T',_,rfl,SqT.of q0e,rfl,_,_,rfl,_,_,rfl,rfl,?_⟩;generalize hH3:upd H' T' _=H3;have sm4:Same H' H3:=by rw[<- hH3];exact(Same.refl H').new hT'
   have sm5:Same H2 H3:=sm.trans sm4;have hg3:=(hdf.same sm5).get b;rw[he] at hg3;refine⟨_,rfl,_,rfl,d,_,rfl,hg3,?_⟩;have hHX3:H3 X=some (.lst (vN ts)):=sm4 _ _ hHX;have hT13:H3 T1=some (.tup p.vs):=sm5 _ _ hT1;refine⟨fun σ2 H4=>∃ts',σ2=[some (.str (mk l)),some (.str (mk n)),some (.ref L),some (.ref E),some (.ref X),some (.int (b:Nat)),some (.ref T1),some (.ref d),some (.int (e:Nat))]/\Same H2 H4/\H4 X=some (.lst (vN ts'))/\ts'=(if p.isG then ts++[cut n b e] else ts),?_,?_⟩
   ·rintro σ2 H4 ⟨ts',rfl,sm6,hHX4,ets⟩;refine⟨_,rfl,e,ts',_,_,_,rfl,sm6,hHX4,a3,?_,?_,hi⟩
    ·rw[<- hrd,ets];show _=ts++rd n (p::ps.drop (i+1)) b;cases hG:p.isG with
     |true=>simp[rd,hG,he]
     |false=>simp[rd,hG,he]
    ·rw[ets];split
     ·rw[Ad,Bg];lia
     ·lia
   ·refine⟨_,rfl,.inr (.inl ⟨T1,_,0,_,rfl,rfl,SqT.of hT13,rfl,.inl ⟨rfl,_,rfl,?_⟩⟩)⟩;rw[wgg];refine ite2 (fun h=>?_) (fun h=>?_)
    ·refine⟨_,rfl,.inl ⟨rfl,_,SqL.of hHX3⟩,_,rfl,_,rfl,_,rfl,_,rfl,_,rfl,.inl ⟨_,rfl,small (by lia),?_⟩⟩;rw[q5f a1 a2];refine⟨X,_,_,rfl,rfl,hHX3,by rw[Ag];exact small' (by lia),?_⟩;exact⟨ts++[cut n b e],rfl,sm5.put hX,by rw[show vN (ts++[cut n b e])=vN ts++[V.str (mk (cut n b e))] from Bf];exact q0e,by rw[if_pos h]⟩
    ·exact⟨ts,rfl,sm5,hHX3,by rw[if_neg h]⟩
  ·rintro σ' H' ⟨b,ts,x6,x7,x8,rfl,sm,hHX,hft,hrd,htl,hil⟩;have emin:min (Ts.map V.ref).length (ds.map V.ref).length=ps.length:=by rw[Ag,Ag,hTl,hdl,Nat.min_self]
   rw[emin,Hb] at hrd;rw[show rd n [] b=[] from rfl,Bi] at hrd;refine⟨_,rfl,kS X H' hX0 (sm12.trans sm) ?_⟩;rw[<- hrd];exact hHX
end
end K
set_option maxHeartbeats 4000000
namespace K
open PySem L2 TX
section
variable{P:Program}{w:World}{K:Af}{mg:Str->Option Value}{base:Heap}
def spAsked:Sp:=fun vs H Q _=>∃(l:List Nat) (at_ c:Nat) (g:Str),vs=[.str (mk l),.int (at_:Int),.str g]/\l[at_]?=some c/\c∈tl g/\l.length<=1000/\Q (.str (mk [c])) H
abbrev q6q:Stmt:=top 23
theorem z4m:FnScope ["template", "at", "signs"] ["template", "at", "signs"] (defScope q6q):=by trivial
theorem x0r(D:Df K mg "asked" q6q ["template", "at", "signs"])(T:Txt mg):Cal P w K mg base "asked" 1 ["template", "at", "signs"] spAsked:=by
 refine D.cal z4m (fun vs H Q E h=>?_) (fun f cdv A outer s H vs Q E hr h=>?_)
 ·obtain⟨l,at_,c,g,rfl,_⟩:=h;rfl
 ·obtain⟨l,at_,c,g,rfl,hc,hg,hl,k⟩:=h;refine⟨_,(q0b (q0w (pt_j (@PW.pt _ _ _ (q6e (q0h op_ge (pv 1) (q0s (q2e K rfl) (by rfl) T.b_len Bm (q0a (pv 0) q0c)) (nomark _)) (q3v (q0h (z1e K rfl) (q1a (ix_k K rfl) (pv 0) (pv 1) (fun _ _=>rfl)) (pv 2) (by with_unfolding_all rfl)))))) (q0d q1s) q0j) (q0d (q0o (q1a (ix_k K rfl) (pv 0) (pv 1) (fun _ _=>rfl))))),?_⟩;have hlen:=q0n l;have hlt:=(Ai.mp hc).1;have hat:atI (tl (mk l)) ((at_:Nat):Int)=some c:=q1g (by rw[q0z];exact hc);refine⟨fun b H'=>b=false/\H'=H,?_,?_⟩;rotate_left
  ·refine⟨_,rfl,_,rfl,_,_,rfl,⟨small (by lia),rfl⟩,_,_,rfl,rfl,_,rfl,?_⟩;refine iteB (fun h=>absurd (of_decide_eq_true h) (by lia)) (fun h=>?_);refine⟨_,rfl,_,rfl,.inr (.inr ⟨mk l,_,c,rfl,rfl,small (by lia),hat,_,rfl,.inl ⟨_,_,rfl,rfl,_,rfl,?_,rfl⟩⟩)⟩;rw[q2o,decide_eq_true hg];rfl
  rintro b H' ⟨rfl,rfl⟩;exact iteF ⟨_,rfl,_,rfl,.inr (.inr ⟨mk l,_,c,rfl,rfl,small (by lia),hat,k⟩)⟩
def spEndOf:Sp:=fun vs H Q _=>∃(l:List Nat) (at_ most k:Nat) (g:Str),vs=[.str (mk l),.int (at_:Int),.str g,.int (most:Int)]/\l.length<=1000/\at_+k<=l.length/\k<=most/\(∀j,j<k->∃c,l[at_+j]?=some c/\c∈tl g)/\(k=most\/at_+k=l.length\/∃c,l[at_+k]?=some c/\¬c∈tl g)/\Q (.int ((at_+k:Nat):Int)) H
def enMeas(n:Nat)(σ:St):Nat:=match σ[4]? with|some (some (V.int e))=>n-e.toNat|_=>0
abbrev q7l:Stmt:=top 24
theorem sc_end_of:FnScope ["template", "at", "signs", "most", "end"] ["template", "at", "signs", "most"] (defScope q7l):=by trivial
theorem z1q(D:Df K mg "end_of" q7l ["template", "at", "signs", "most"])(T:Txt mg):Cal P w K mg base "end_of" 1 ["template", "at", "signs", "most"] spEndOf:=by
 refine D.cal sc_end_of (fun vs H Q E h=>?_) (fun f cdv A outer s H vs Q E hr h=>?_)
 ·obtain⟨l,at_,most,n,g,rfl,_⟩:=h;rfl
 ·obtain⟨l,at_,most,n,g,rfl,hl,hle,hm,hin,hst,k⟩:=h;refine⟨_,(q0b (q0i (i:=4) sc_end_of.nd rfl (by trivial) (pv 1)) (q0b (q8y Bo (pt_j (@PW.pt _ _ _ (q4h (q0h z2l (pv 4) (q0s (z0r rfl) (by rfl) T.b_min (by decide +kernel) (q0a (q0s (q2e K rfl) (by rfl) T.b_len Bm (q0a (pv 0) q0c)) (q0a (q0u q0k (pv 1) (pv 3)) q0c))) (nomark _)) (q3h (q0h (in_k K rfl) (q1a (ix_k K rfl) (pv 0) (pv 4) (fun _ _=>rfl)) (pv 2) (by with_unfolding_all rfl)))))) (q0d (z0p (i:=4) sc_end_of.nd rfl (by trivial) q0f z2k))) (q0d (q0o (pv 4))))),?_⟩;have hlen:=q0n l;refine⟨_,rfl,?_⟩;refine q8z (fun σ3 H3=>∃j:Nat,σ3=[some (.str (mk l)),some (.int (at_:Int)),some (.str g),some (.int (most:Int)),some (.int ((at_+j:Nat):Int))]/\H3=H/\j<=n) (fun σ3 _=>enMeas (at_+n+1) σ3) ⟨0,rfl,rfl,Ax _⟩ ?_ ?_
  ·rintro σ3 H3 ⟨j,rfl,rfl,hj⟩;refine⟨fun b H4=>H4=H3/\b=decide (j<n),?_,?_⟩;rotate_left
   ·refine⟨_,rfl,_,rfl,_,_,rfl,⟨small (by lia),rfl⟩,_,rfl,_,rfl,.inl ⟨_,_,rfl,rfl,_,_,rfl,?_⟩⟩;refine⟨_,_,rfl,rfl,_,rfl,?_⟩;refine iteB (fun h=>?_) (fun h=>?_)
    ·have h1:=of_decide_eq_true h;have hlt:at_+j<l.length/\j<most:=by
      split at h1<;>lia
     have hd:l[at_+j]?=some l[at_+j]:=Aw hlt.1;refine⟨_,rfl,_,rfl,.inr (.inr ⟨mk l,_,l[at_+j],rfl,rfl,small (by lia),q1g (show(tl (mk l))[at_+j]?=_ by rw[q0z];exact hd),_,rfl,.inl ⟨_,_,rfl,rfl,_,rfl,rfl,?_⟩⟩)⟩;rw[q2o];by_cases hz:j<n
     ·obtain⟨c,hc1,hc2⟩:=hin j hz;rw[hd] at hc1;cases hc1;rw[decide_eq_true hc2,decide_eq_true hz]
     ·have ej:j=n:=by lia
      subst ej;rcases hst with z|z|⟨c,hc1,hc2⟩
      ·lia
      ·lia
      ·rw[hd] at hc1;cases hc1;rw[decide_eq_false hc2,decide_eq_false hz]
    ·have h1:=of_decide_eq_false h;refine⟨rfl,?_⟩;have:¬j<n:=by
      intro z;refine h1 ?_;split<;>lia
     rw[decide_eq_false this]
   rintro b H4 ⟨rfl,rfl⟩;refine ite2 (fun h=>?_) (fun h=>?_)
   ·have hz:=of_decide_eq_true h;refine⟨_,rfl,_,_,rfl,rfl,⟨j+1,rfl,rfl,by lia⟩,?_⟩;show at_+n+1-(((at_+j:Nat):Int)+1).toNat<at_+n+1-((at_+j:Nat):Int).toNat;lia
   ·have hz:¬j<n:=fun z=>h (decide_eq_true z);have ej:j=n:=by lia
    subst ej;exact⟨_,rfl,k⟩
  ·rintro σ H Q Q' hq ⟨J,hJ,hw⟩;exact⟨J,fun b H1 z=>hq b H1 (hJ b H1 z),hw⟩
inductive Pc where
 |tx (l:List Nat)
 |gap (k:Nat)
 |great (k:Nat)
 |small (k:Nat)
 |nou (k w:Nat)
 |more (k m:Nat)
 |cnt (v:Nat)
 |into
def Pc.vs:Pc->List V
 |.tx l=>[.str (Ab "text"),.str (mk l)]
 |.gap k=>[.str (Ab "gap"),.int (k:Int)]
 |.great k=>[.str (Ab "great"),.int (k:Int)]
 |.small k=>[.str (Ab "small"),.int (k:Int)]
 |.nou k w=>[.str (Ab "noughts"),.int (k:Int),.int (w:Int)]
 |.more k m=>[.str (Ab "more"),.int (k:Int),.int (m:Int)]
 |.cnt v=>[.str (Ab "count"),.int (v:Int)]
 |.into=>[.str (Ab "into")]
def cntW(v:Nat):List Nat:=if v=1 then[125] else[48+v,125]
def Pc.wr:Pc->List Nat
 |.tx l=>l
 |.gap k=>123::(48+k)::[125]
 |.great k=>123::(48+k)::[117,125]
 |.small k=>123::(48+k)::[108,125]
 |.nou k w=>123::(48+k)::122::[48+w,125]
 |.more k m=>123::(48+k)::43::(dg m++[125])
 |.cnt v=>123::110::cntW v
 |.into=>[47]
def Pc.ok:Pc->Prop
 |.tx l=>l≠[]/\∀c∈l,c∈NS
 |.gap k=>1<=k/\k<=9
 |.great k=>1<=k/\k<=9
 |.small k=>1<=k/\k<=9
 |.nou k w=>(1<=k/\k<=9)/\1<=w/\w<=9
 |.more k m=>(1<=k/\k<=9)/\m<10^9
 |.cnt v=>1<=v/\v<=9
 |.into=>True
def RT(H:Hp)(Q:VK)(p:Pc)(e:Nat):Prop:=∀T1 T2 H',H T1=none->H T2=none->Same H H'->H' T1=some (.tup p.vs)->H' T2=some (.tup [.ref T1,.int ((e:Nat):Int)])->Q (.ref T2) H'
theorem RT.go{H:Hp}{Q:VK}{p:Pc}{e:Nat}{i:Int}(h:RT H Q p e)(hi:i=((e:Nat):Int)){T1 T2:Addr}(h1:H T1=none)(h2:upd H T1 (.tup p.vs) T2=none):Q (.ref T2) (upd (upd H T1 (.tup p.vs)) T2 (.tup [.ref T1,.int i])):=by
 subst hi;have hne:T1≠T2:=q0y q0e h2;refine h T1 T2 _ h1 (by rw[q0m (Dm hne)] at h2;exact h2) (((Same.refl H).new h1).new h2) ?_ q0e;rw[q0m hne];exact q0e
theorem RT.same{H H1:Hp}{Q:VK}{p:Pc}{e:Nat}(h:RT H Q p e)(sm:Same H H1):RT H1 Q p e:=fun T1 T2 H' a b c d f=>h T1 T2 H' (sm.free a) (sm.free b) (sm.trans c) d f
theorem q1i{l r:List Nat}{i c:Nat}(h:l.drop i=c::r):l[i]?=some c/\l.drop (i+1)=r:=by
 have h1:=congrArg (fun x=>x[0]?) h;have h2:=congrArg (fun x=>x.drop 1) h;refine⟨by simpa[Hl] using h1,?_⟩;rw[<- List.drop_drop,h];rfl
theorem q8q{v:Nat}(h:v<10):Jj (mk [48+v])=some (v:Int):=by rw[<- q2j h];exact z2x (by lia)
structure CallsT (P:Program) (w:World) (K:Af) (mg:Str->Option Value) (base:Heap):Prop where
 asked:Cal P w K mg base "asked" 1 ["template", "at", "signs"] spAsked
 end_of:Cal P w K mg base "end_of" 1 ["template", "at", "signs", "most"] spEndOf
def spCount:Sp:=fun vs H Q _=>∃(l r:List Nat) (a v:Nat),vs=[.str (mk l),.int (a:Int)]/\l.length<=1000/\1<=v/\v<=9/\l.drop a=cntW v++r/\RT H Q (.cnt v) (a+(cntW v).length)
theorem in_two:∀v,v<10->2<=v->48+v∈tl (Ab "}" ++ Ab "23456789"):=by decide +kernel
theorem x3v:∀v,v<10->1<=v->48+v∈tl (Ab "123456789"):=by decide +kernel
theorem in_fig:∀v,v<10->48+v∈tl (Ab "0123456789"):=by decide +kernel
abbrev q2k:Stmt:=top 25
theorem sc_read_count:FnScope ["template", "at", "sign"] ["template", "at"] (defScope q2k):=by trivial
theorem q9r(D:Df K mg "read_count" q2k ["template", "at"])(T:Txt mg)(C:CallsT P w K mg base):Cal P w K mg base "read_count" 2 ["template", "at"] spCount:=by
 refine D.cal sc_read_count (fun vs H Q E h=>?_) (fun f cdv A outer s H vs Q E hr h=>?_)
 ·obtain⟨l,r,a,v,rfl,_⟩:=h;rfl
 ·obtain⟨l,r,a,v,rfl,hl,hv1,hv9,hd,k⟩:=h;obtain⟨_,g_FROM_TWO⟩:=T.FROM_TWO;refine⟨_,(q0b (q0i (i:=2) sc_read_count.nd rfl (by trivial) (pe_c C.asked hr (q0a (pv 0) (q0a (pv 1) (q0a (q0u q0k q0g (q0p (v:=.str (Ab "23456789")) (by rfl) g_FROM_TWO ⟨_,rfl⟩)) q0c))))) (q0b (q0w (q0h (eq_k K rfl hr) (pv 2) q0g (nomark _)) (q0d (q0o (q0q (q0a (q0q (q0a q0g (q0a q0f q0c))) (q0a (q0u q0k (pv 1) q0f) q0c))))) q0j) (q0b (q0v (pe_c C.asked hr (q0a (pv 0) (q0a (q0u q0k (pv 1) q0f) (q0a q0g q0c))))) (q0d (q0o (q0q (q0a (q0q (q0a q0g (q0a (q1e q2a (by rfl) T.b_int (by decide +kernel) (q0a (pv 2) q0c)) q0c))) (q0a (q0u q0k (pv 1) q0f) q0c)))))))),?_⟩;have e9:(Ab "}").length+(Ab "23456789").length<=1000:=by decide +kernel
  by_cases hv:v=1
  ·subst hv;have hd':l.drop a=125::r:=hd;obtain⟨hc,_⟩:=q1i hd';refine⟨_,rfl,_,rfl,.inr (.inl ⟨_,_,rfl,rfl,small (by lia),l,a,125,_,rfl,hc,by decide +kernel,hl,?_⟩)⟩;refine⟨_,rfl,.inl ⟨rfl,_,rfl,?_⟩⟩;rw[lit1 125 125 "}" (by decide +kernel),decide_eq_true rfl];refine iteT ⟨by show 2<=sizeLine;decide,fun T1 hT1=>⟨_,rfl,.inl ⟨_,_,rfl,rfl,by show 2<=sizeLine;decide,fun T2 hT2=>?_⟩⟩⟩;exact k.go (by show(a:Int)+1=((a+1:Nat):Int);lia) hT1 hT2
  ·have ew:cntW v=[48+v,125]:=by unfold cntW;rw[if_neg hv]
   rw[ew] at hd k;obtain⟨hc,hd2⟩:=q1i (show l.drop a=(48+v)::(125::r) from hd);obtain⟨hc2,_⟩:=q1i hd2;refine⟨_,rfl,_,rfl,.inr (.inl ⟨_,_,rfl,rfl,small (by lia),l,a,48+v,_,rfl,hc,in_two v (by lia) (by lia),hl,?_⟩)⟩;refine⟨_,rfl,.inl ⟨rfl,_,rfl,?_⟩⟩;rw[lit1 (48+v) 125 "}" (by decide +kernel),decide_eq_false (by lia)];refine iteF ⟨_,rfl,_,rfl,.inl ⟨_,_,rfl,rfl,l,a+1,125,_,by rfl,hc2,by decide +kernel,hl,?_⟩⟩;refine⟨_,rfl,.inr ⟨_,_,rfl,q8q (by lia),by rw[q0n];show 1<=640;decide,by show 2<=sizeLine;decide,fun T1 hT1=>⟨_,rfl,.inl ⟨_,_,rfl,rfl,by show 2<=sizeLine;decide,fun T2 hT2=>?_⟩⟩⟩⟩;exact k.go (by show(a:Int)+2=((a+2:Nat):Int);lia) hT1 hT2
def spNoughts:Sp:=fun vs H Q _=>∃(l r:List Nat) (a g v:Nat),vs=[.str (mk l),.int (a:Int),.int (g:Int)]/\l.length<=1000/\1<=v/\v<=9/\l.drop a=(48+v)::125::r/\RT H Q (.nou g v) (a+2)
abbrev q2c:Stmt:=top 26
theorem sc_read_noughts:FnScope ["template", "at", "gap", "width"] ["template", "at", "gap"] (defScope q2c):=by trivial
theorem q7m(D:Df K mg "read_noughts" q2c ["template", "at", "gap"])(T:Txt mg)(C:CallsT P w K mg base):Cal P w K mg base "read_noughts" 2 ["template", "at", "gap"] spNoughts:=by
 refine D.cal sc_read_noughts (fun vs H Q E h=>?_) (fun f cdv A outer s H vs Q E hr h=>?_)
 ·obtain⟨l,r,a,g,v,rfl,_⟩:=h;rfl
 ·obtain⟨l,r,a,g,v,rfl,hl,hv1,hv9,hd,k⟩:=h;obtain⟨_,g_FROM_ONE⟩:=T.FROM_ONE;refine⟨_,(q0b (q0i (i:=3) sc_read_noughts.nd rfl (by trivial) (pe_c C.asked hr (q0a (pv 0) (q0a (pv 1) (q0a (q0p (v:=.str (Ab "123456789")) (by rfl) g_FROM_ONE ⟨_,rfl⟩) q0c))))) (q0b (q0v (pe_c C.asked hr (q0a (pv 0) (q0a (q0u q0k (pv 1) q0f) (q0a q0g q0c))))) (q0d (q0o (q0q (q0a (q0q (q0a q0g (q0a (pv 2) (q0a (q1e q2a (by rfl) T.b_int (by decide +kernel) (q0a (pv 3) q0c)) q0c)))) (q0a (q0u q0k (pv 1) q0f) q0c))))))),?_⟩;obtain⟨hc,hd2⟩:=q1i hd;obtain⟨hc2,_⟩:=q1i hd2;refine⟨_,rfl,_,rfl,l,a,48+v,_,rfl,hc,x3v v (by lia) (by lia),hl,?_⟩;refine⟨_,rfl,_,rfl,.inl ⟨_,_,rfl,rfl,l,a+1,125,_,by rfl,hc2,by decide +kernel,hl,?_⟩⟩;refine⟨_,rfl,_,rfl,.inr ⟨_,_,rfl,q8q (by lia),by rw[q0n];show 1<=640;decide,by show 3<=sizeLine;decide,fun T1 hT1=>⟨_,rfl,.inl ⟨_,_,rfl,rfl,by show 2<=sizeLine;decide,fun T2 hT2=>?_⟩⟩⟩⟩;exact k.go (by show(a:Int)+2=((a+2:Nat):Int);lia) hT1 hT2
def spMore:Sp:=fun vs H Q _=>∃(l r:List Nat) (a g m:Nat),vs=[.str (mk l),.int (a:Int),.int (g:Int)]/\l.length<=1000/\m<10^9/\l.drop a=dg m++125::r/\RT H Q (.more g m) (a+(dg m).length+1)
theorem q9s{l x y:List Nat}{a j:Nat}(h:l.drop a=x++y)(hj:j<x.length):∃c,l[a+j]?=some c/\x[j]?=some c:=by
 refine⟨x[j],?_,Aw hj⟩;rw[<- Hl,h,Bj hj];exact Aw hj
theorem drop_app{l x y:List Nat}{a:Nat}(h:l.drop a=x++y):l.drop (a+x.length)=y:=by
 rw[<- List.drop_drop,h,List.drop_left]
theorem z4n{l x y:List Nat}{a:Nat}(h:l.drop a=x++y)(hx:x≠[]):a+x.length<=l.length:=by
 have h1:=congrArg List.length h;rw[Cf,Ad] at h1;have:0<x.length:=De.mpr hx;lia
abbrev q2v:Stmt:=top 27
theorem sc_read_more:FnScope ["template", "at", "gap", "first", "end"] ["template", "at", "gap"] (defScope q2v):=by trivial
theorem z1r(D:Df K mg "read_more" q2v ["template", "at", "gap"])(T:Txt mg)(C:CallsT P w K mg base):Cal P w K mg base "read_more" 2 ["template", "at", "gap"] spMore:=by
 refine D.cal sc_read_more (fun vs H Q E h=>?_) (fun f cdv A outer s H vs Q E hr h=>?_)
 ·obtain⟨l,r,a,g,m,rfl,_⟩:=h;rfl
 ·obtain⟨l,r,a,g,m,rfl,hl,hm,hd,k⟩:=h;obtain⟨_,g_FIGURES⟩:=T.FIGURES;obtain⟨_,g_MOST_FIGURES⟩:=T.MOST_FIGURES;refine⟨_,(q0b (q0i (i:=3) sc_read_more.nd rfl (by trivial) (pe_c C.asked hr (q0a (pv 0) (q0a (pv 1) (q0a (q0p (v:=.str (Ab "0123456789")) (by rfl) g_FIGURES ⟨_,rfl⟩) q0c))))) (q0b (q0i (i:=4) sc_read_more.nd rfl (by trivial) (pe_c C.end_of hr (q0a (pv 0) (q0a (pv 1) (q0a (q0p (v:=.str (Ab "0123456789")) (by rfl) g_FIGURES ⟨_,rfl⟩) (q0a (pe_j (q8x (q0h (eq_k K rfl hr) (pv 3) q0g (nomark _)) q0f (q0p (v:=.int 9) (by rfl) g_MOST_FIGURES ⟨_,rfl⟩))) q0c)))))) (q0b (q0v (pe_c C.asked hr (q0a (pv 0) (q0a (pv 4) (q0a q0g q0c))))) (q0d (q0o (q0q (q0a (q0q (q0a q0g (q0a (pv 2) (q0a (q1e q2a (by rfl) T.b_int (by decide +kernel) (q0a (q1l (sl_k K rfl) (pv 0) (q1d (pv 1)) (q1d (pv 4))) q0c)) q0c)))) (q0a (q0u q0k (pv 4) q0f) q0c)))))))),?_⟩;have hlen:=q0n l;obtain⟨d0,r0,hd0,hd10,hd00⟩:=z2w m;have hdl:=q3z 8 m (by lia);have hdp:=dg_pos m;have hne:dg m≠[]:=by rw[hd0];simp
  have hle:=z4n hd hne;have hfig:=z4j m;obtain⟨hc0,_⟩:=q1i (show l.drop a=(48+d0)::(r0++125::r) by rw[hd,hd0];rfl);obtain⟨hce,_⟩:=q1i (drop_app hd);refine⟨_,rfl,_,rfl,l,a,48+d0,_,rfl,hc0,in_fig d0 hd10,hl,?_⟩;refine⟨_,rfl,_,rfl,?_⟩;refine⟨fun v H'=>H'=H/\∃most:Nat,v=.int (most:Int)/\(dg m).length<=most,?_,?_⟩;rotate_left
  ·refine⟨_,rfl,.inl ⟨rfl,_,rfl,?_⟩⟩;rw[lit1 (48+d0) 48 "0" (by decide +kernel)];refine ite2 (fun h=>?_) (fun h=>?_)
   ·have hz:d0=0:=by have:=of_decide_eq_true h;lia
    have hr:=(hd00 hz).2;exact⟨rfl,1,rfl,by rw[hd0,hr];simp⟩
   ·exact⟨rfl,9,rfl,hdl⟩
  rintro v H' ⟨rfl,most,rfl,hmost⟩;refine⟨l,a,most,(dg m).length,_,rfl,hl,hle,hmost,fun j hj=>?_,.inr (.inr ⟨125,hce,by decide +kernel⟩),?_⟩
  ·obtain⟨c,h1,h2⟩:=q9s hd hj;exact⟨c,h1,hfig c (As h2)⟩
  refine⟨_,rfl,_,rfl,l,a+(dg m).length,125,_,rfl,hce,by decide +kernel,hl,?_⟩;refine⟨_,rfl,_,rfl,_,rfl,_,rfl,_,rfl,_,rfl,.inl ⟨_,rfl,small (by lia),?_⟩⟩;rw[q3y (by lia) (by lia),show a+(dg m).length-a=(dg m).length from by lia,hd,List.take_left];refine .inr ⟨_,_,rfl,z2x (by lia),by rw[q0n];lia,by show 3<=sizeLine;decide,fun T1 hT1=>⟨_,rfl,.inl ⟨_,_,rfl,rfl,by show 2<=sizeLine;decide,fun T2 hT2=>?_⟩⟩⟩;exact k.go (by show((a+(dg m).length:Nat):Int)+1=((a+(dg m).length+1:Nat):Int);lia) hT1 hT2
def spRText:Sp:=fun vs H Q _=>∃(l t r:List Nat) (a:Nat),vs=[.str (mk l),.int (a:Int)]/\l.length<=1000/\l.drop a=t++r/\t≠[]/\(∀c∈t,c∈NS)/\(∀c r',r=c::r'->¬c∈NS)/\RT H Q (.tx t) (a+t.length)
abbrev q2w:Stmt:=top 31
theorem sc_read_text:FnScope ["template", "at", "end"] ["template", "at"] (defScope q2w):=by trivial
theorem z1s(D:Df K mg "read_text" q2w ["template", "at"])(T:Txt mg)(C:CallsT P w K mg base):Cal P w K mg base "read_text" 2 ["template", "at"] spRText:=by
 refine D.cal sc_read_text (fun vs H Q E h=>?_) (fun f cdv A outer s H vs Q E hr h=>?_)
 ·obtain⟨l,t,r,a,rfl,_⟩:=h;rfl
 ·obtain⟨l,t,r,a,rfl,hl,hd,hne,hns,hst,k⟩:=h;obtain⟨_,g_NAME_SIGNS⟩:=T.NAME_SIGNS;refine⟨_,(q0b (q0v (pe_c C.asked hr (q0a (pv 0) (q0a (pv 1) (q0a (q0p (v:=.str (Ab "abcdefghijklmnopqrstuvwxyzABCDEFGHIJKLMNOPQRSTUVWXYZ0123456789-_.")) (by rfl) g_NAME_SIGNS ⟨_,rfl⟩) q0c))))) (q0b (q0i (i:=2) sc_read_text.nd rfl (by trivial) (pe_c C.end_of hr (q0a (pv 0) (q0a (pv 1) (q0a (q0p (v:=.str (Ab "abcdefghijklmnopqrstuvwxyzABCDEFGHIJKLMNOPQRSTUVWXYZ0123456789-_.")) (by rfl) g_NAME_SIGNS ⟨_,rfl⟩) (q0a (q0s (q2e K rfl) (by rfl) T.b_len Bm (q0a (pv 0) q0c)) q0c)))))) (q0d (q0o (q0q (q0a (q0q (q0a q0g (q0a (q1l (sl_k K rfl) (pv 0) (q1d (pv 1)) (q1d (pv 2))) q0c))) (q0a (pv 2) q0c))))))),?_⟩;have hlen:=q0n l;have hle:=z4n hd hne;have hp:0<t.length:=De.mpr hne;obtain⟨c0,h01,h02⟩:=q9s hd hp;refine⟨_,rfl,_,rfl,l,a,c0,_,rfl,h01,hns c0 (As h02),hl,?_⟩;refine⟨_,rfl,_,rfl,_,rfl,_,_,rfl,⟨small (by lia),rfl⟩,?_⟩;refine⟨l,a,l.length,t.length,_,by rw[hlen];rfl,hl,hle,by lia,fun j hj=>?_,?_,?_⟩
  ·obtain⟨c,h1,h2⟩:=q9s hd hj;exact⟨c,h1,hns c (As h2)⟩
  ·cases r with
   |nil =>
    have h1:=congrArg List.length hd;rw[Cf,Bi] at h1;exact .inr (.inl (by lia))
   |cons c r'=>exact .inr (.inr ⟨c,(q1i (drop_app hd)).1,hst c r' rfl⟩)
  refine⟨_,rfl,_,rfl,_,rfl,_,rfl,_,rfl,.inl ⟨_,rfl,small (by lia),?_⟩⟩;rw[q3y (by lia) (by lia),show a+t.length-a=t.length from by lia,hd,List.take_left];refine⟨by show 2<=sizeLine;decide,fun T1 hT1=>⟨_,rfl,by show 2<=sizeLine;decide,fun T2 hT2=>?_⟩⟩;exact k.go rfl hT1 hT2
def spInto:Sp:=fun vs H Q _=>∃(l:List Nat) (a c:Nat),vs=[.str (mk l),.int (a:Int)]/\l.length<=1000/\1<=a/\l[a-1]?=some c/\c≠47/\RT H Q .into (a+1)
abbrev q2x:Stmt:=top 30
theorem q6d:FnScope ["template", "at"] ["template", "at"] (defScope q2x):=by trivial
theorem z1t(D:Df K mg "read_into" q2x ["template", "at"])(T:Txt mg):Cal P w K mg base "read_into" 1 ["template", "at"] spInto:=by
 refine D.cal q6d (fun vs H Q E h=>?_) (fun f cdv A outer s H vs Q E hr h=>?_)
 ·obtain⟨l,a,c,rfl,_⟩:=h;rfl
 ·obtain⟨l,a,c,rfl,hl,ha,hc,hn,k⟩:=h;refine⟨_,(q0b (q0w (pt_j (@PW.pt _ _ _ (q6e (q0h (eq_k K rfl hr) (pv 1) q0f (nomark _)) (q3v (q0h (eq_k K rfl hr) (q1a (ix_k K rfl) (pv 0) (q0u z0q (pv 1) q0f) (fun _ _=>rfl)) q0g (nomark _)))))) (q0d q1s) q0j) (q0d (q0o (q0q (q0a (q0q (q0a q0g q0c)) (q0a (q0u q0k (pv 1) q0f) q0c)))))),?_⟩;have hlen:=q0n l;refine⟨fun b H'=>b=false/\H'=H,?_,?_⟩;rotate_left
  ·refine⟨_,rfl,.inl ⟨rfl,_,rfl,?_⟩⟩;refine iteB (fun h=>?_) (fun h=>?_)
   ·have:=of_decide_eq_true h;injection this with this;lia
   refine⟨_,rfl,_,rfl,_,_,rfl,rfl,.inr (.inr ⟨mk l,_,c,rfl,rfl,small (by lia),?_,.inl ⟨rfl,_,rfl,?_,rfl⟩⟩)⟩
   ·rw[show((a:Nat):Int)-1=((a-1:Nat):Int) from by lia];exact q1g (show(tl (mk l))[a-1]?=_ by rw[q0z];exact hc)
   ·show decide (V.str (mk [c])=V.str (Ab "/"))=false;rw[lit1 c 47 "/" (by decide +kernel),decide_eq_false hn]
  rintro b H' ⟨rfl,rfl⟩;refine iteF ⟨by show 1<=sizeLine;decide,fun T1 hT1=>⟨_,rfl,.inl ⟨_,_,rfl,rfl,by show 2<=sizeLine;decide,fun T2 hT2=>?_⟩⟩⟩;exact k.go (by show(a:Int)+1=((a+1:Nat):Int);lia) hT1 hT2
def casesKV:List (Key×V):=[(Sum.inr (Ab "u"),.str (Ab "great")),(Sum.inr (Ab "l"),.str (Ab "small"))]
structure CallsU (P:Program) (w:World) (K:Af) (mg:Str->Option Value) (base:Heap):Prop where
 asked:Cal P w K mg base "asked" 1 ["template", "at", "signs"] spAsked
 read_noughts:Cal P w K mg base "read_noughts" 2 ["template", "at", "gap"] spNoughts
 read_more:Cal P w K mg base "read_more" 2 ["template", "at", "gap"] spMore
 cases_:∃d,mg "CASES" = some (.ref d)/\KDict P w K d casesKV
def Pc.gt:Pc->Option (Nat×List Nat)
 |.gap k=>some (k,[125])
 |.great k=>some (k,[117,125])
 |.small k=>some (k,[108,125])
 |.nou k w=>some (k,[122,48+w,125])
 |.more k m=>some (k,43::(dg m++[125]))
 |_=>none
def spGap:Sp:=fun vs H Q _=>∃(l r t:List Nat) (a g:Nat) (p:Pc),vs=[.str (mk l),.int (a:Int),.int (g:Int)]/\l.length<=1000/\p.ok/\p.gt=some (g,t)/\l.drop a=t++r/\RT H Q p (a+t.length)
abbrev q3o:Stmt:=top 28
theorem sc_read_gap:FnScope ["template", "at", "gap", "sign"] ["template", "at", "gap"] (defScope q3o):=by trivial
theorem z3d(D:Df K mg "read_gap" q3o ["template", "at", "gap"])(T:Txt mg)(C:CallsU P w K mg base):Cal P w K mg base "read_gap" 3 ["template", "at", "gap"] spGap:=by
 refine D.cal sc_read_gap (fun vs H Q E h=>?_) (fun f cdv A outer s H vs Q E hr h=>?_)
 ·obtain⟨l,r,t,a,g,p,rfl,_⟩:=h;rfl
 ·obtain⟨l,r,t,a,g,p,rfl,hl,hok,hgt,hd,k⟩:=h;obtain⟨dC,g_CASES,k_CASES⟩:=C.cases_;refine⟨_,(q0b (q0i (i:=3) sc_read_gap.nd rfl (by trivial) (pe_c C.asked hr (q0a (pv 0) (q0a (pv 1) (q0a q0g q0c))))) (q0b (q0w (q0h (eq_k K rfl hr) (pv 3) q0g (nomark _)) (q0d (q0o (q0q (q0a (q0q (q0a q0g (q0a (pv 2) q0c))) (q0a (q0u q0k (pv 1) q0f) q0c))))) q0j) (q0b (q0w (q0h (eq_k K rfl hr) (pv 3) q0g (nomark _)) (q0d (q0o (pe_c C.read_noughts hr (q0a (pv 0) (q0a (q0u q0k (pv 1) q0f) (q0a (pv 2) q0c)))))) q0j) (q0b (q0w (q0h (eq_k K rfl hr) (pv 3) q0g (nomark _)) (q0d (q0o (pe_c C.read_more hr (q0a (pv 0) (q0a (q0u q0k (pv 1) q0f) (q0a (pv 2) q0c)))))) q0j) (q0b (q0v (pe_c C.asked hr (q0a (pv 0) (q0a (q0u q0k (pv 1) q0f) (q0a q0g q0c))))) (q0d (q0o (q0q (q0a (q0q (q0a (z7w (by rfl) g_CASES k_CASES (pv 3) (fun _ _=>rfl)) (q0a (pv 2) q0c))) (q0a (q0u q0k (pv 1) q0f) q0c)))))))))),?_⟩;have no:∀(c d:Nat) (s:String),Ab s=mk [d]->c≠d->decide (V.str (mk [c])=V.str (Ab s))=false:=fun c d s h1 h2=>by rw[lit1 c d s h1,decide_eq_false h2]
  have yes:∀(c:Nat) (s:String),Ab s=mk [c]->decide (V.str (mk [c])=V.str (Ab s))=true:=fun c s h1=>by rw[lit1 c c s h1,decide_eq_true rfl]
  cases p with
  |tx l=>cases hgt
  |cnt v=>cases hgt
  |into=>cases hgt
  |gap kk =>
   cases hgt;obtain⟨hc,_⟩:=q1i (show l.drop a=125::r from hd);refine⟨_,rfl,_,rfl,l,a,125,_,rfl,hc,by decide +kernel,hl,?_⟩;refine⟨_,rfl,.inl ⟨rfl,_,rfl,?_⟩⟩;rw[yes 125 "}" (by decide +kernel)];refine iteT ⟨_,rfl,by show 2<=sizeLine;decide,fun T1 hT1=>⟨_,rfl,.inl ⟨_,_,rfl,rfl,by show 2<=sizeLine;decide,fun T2 hT2=>?_⟩⟩⟩;exact k.go (by show(a:Int)+1=((a+1:Nat):Int);lia) hT1 hT2
  |great kk =>
   cases hgt;obtain⟨hc,hd2⟩:=q1i (show l.drop a=117::(125::r) from hd);obtain⟨hc2,_⟩:=q1i hd2;refine⟨_,rfl,_,rfl,l,a,117,_,rfl,hc,by decide +kernel,hl,?_⟩;refine⟨_,rfl,.inl ⟨rfl,_,rfl,?_⟩⟩;rw[no 117 125 "}" (by decide +kernel) (by decide)];refine iteF ⟨_,rfl,.inl ⟨rfl,_,rfl,?_⟩⟩;rw[no 117 122 "z" (by decide +kernel) (by decide)];refine iteF ⟨_,rfl,.inl ⟨rfl,_,rfl,?_⟩⟩;rw[no 117 43 "+" (by decide +kernel) (by decide)];refine iteF ⟨_,rfl,_,rfl,.inl ⟨_,_,rfl,rfl,l,a+1,125,_,by rfl,hc2,by decide +kernel,hl,?_⟩⟩;refine⟨_,rfl,Sum.inr (Ab "u"),.str (Ab "great"),?_,by decide +kernel,_,rfl,by show 2<=sizeLine;decide,fun T1 hT1=>⟨_,rfl,.inl ⟨_,_,rfl,rfl,by show 2<=sizeLine;decide,fun T2 hT2=>?_⟩⟩⟩
   ·exact congrArg V.str (by decide +kernel:mk [117]=Ab "u")
   exact k.go (by show(a:Int)+2=((a+2:Nat):Int);lia) hT1 hT2
  |small kk =>
   cases hgt;obtain⟨hc,hd2⟩:=q1i (show l.drop a=108::(125::r) from hd);obtain⟨hc2,_⟩:=q1i hd2;refine⟨_,rfl,_,rfl,l,a,108,_,rfl,hc,by decide +kernel,hl,?_⟩;refine⟨_,rfl,.inl ⟨rfl,_,rfl,?_⟩⟩;rw[no 108 125 "}" (by decide +kernel) (by decide)];refine iteF ⟨_,rfl,.inl ⟨rfl,_,rfl,?_⟩⟩;rw[no 108 122 "z" (by decide +kernel) (by decide)];refine iteF ⟨_,rfl,.inl ⟨rfl,_,rfl,?_⟩⟩;rw[no 108 43 "+" (by decide +kernel) (by decide)];refine iteF ⟨_,rfl,_,rfl,.inl ⟨_,_,rfl,rfl,l,a+1,125,_,by rfl,hc2,by decide +kernel,hl,?_⟩⟩;refine⟨_,rfl,Sum.inr (Ab "l"),.str (Ab "small"),?_,by decide +kernel,_,rfl,by show 2<=sizeLine;decide,fun T1 hT1=>⟨_,rfl,.inl ⟨_,_,rfl,rfl,by show 2<=sizeLine;decide,fun T2 hT2=>?_⟩⟩⟩
   ·exact congrArg V.str (by decide +kernel:mk [108]=Ab "l")
   exact k.go (by show(a:Int)+2=((a+2:Nat):Int);lia) hT1 hT2
  |nou kk ww =>
   cases hgt;obtain⟨hc,hd2⟩:=q1i (show l.drop a=122::((48+ww)::125::r) from hd);refine⟨_,rfl,_,rfl,l,a,122,_,rfl,hc,by decide +kernel,hl,?_⟩;refine⟨_,rfl,.inl ⟨rfl,_,rfl,?_⟩⟩;rw[no 122 125 "}" (by decide +kernel) (by decide)];refine iteF ⟨_,rfl,.inl ⟨rfl,_,rfl,?_⟩⟩;rw[yes 122 "z" (by decide +kernel)];refine iteT ⟨_,rfl,_,rfl,.inl ⟨_,_,rfl,rfl,_,rfl,l,r,a+1,g,ww,by rfl,hl,hok.2.1,hok.2.2,hd2,?_⟩⟩;rw[show a+1+2=a+[122,48+ww,125].length from rfl];exact k
  |more kk m =>
   cases hgt;obtain⟨hc,hd2⟩:=q1i (show l.drop a=43::((dg m++[125])++r) from hd);refine⟨_,rfl,_,rfl,l,a,43,_,rfl,hc,by decide +kernel,hl,?_⟩;refine⟨_,rfl,.inl ⟨rfl,_,rfl,?_⟩⟩;rw[no 43 125 "}" (by decide +kernel) (by decide)];refine iteF ⟨_,rfl,.inl ⟨rfl,_,rfl,?_⟩⟩;rw[no 43 122 "z" (by decide +kernel) (by decide)];refine iteF ⟨_,rfl,.inl ⟨rfl,_,rfl,?_⟩⟩;rw[yes 43 "+" (by decide +kernel)];refine iteT ⟨_,rfl,_,rfl,.inl ⟨_,_,rfl,rfl,_,rfl,l,r,a+1,g,m,by rfl,hl,hok.2,by rw[hd2,Cw];rfl,?_⟩⟩;rw[show a+1+(dg m).length+1=a+(43::(dg m++[125])).length from by rw[Av,Ad,Bg];lia];exact k
structure CallsV (P:Program) (w:World) (K:Af) (mg:Str->Option Value) (base:Heap):Prop where
 asked:Cal P w K mg base "asked" 1 ["template", "at", "signs"] spAsked
 read_count:Cal P w K mg base "read_count" 2 ["template", "at"] spCount
 read_gap:Cal P w K mg base "read_gap" 3 ["template", "at", "gap"] spGap
def spMark:Sp:=fun vs H Q _=>∃(l r t:List Nat) (a:Nat) (p:Pc),vs=[.str (mk l),.int (a:Int)]/\l.length<=1000/\p.ok/\p.wr=123::t/\(∀x,p≠.tx x)/\l.drop a=t++r/\RT H Q p (a+t.length)
theorem in_n:∀v,v<10->1<=v->48+v∈tl (Ab "n" ++ Ab "123456789"):=by decide +kernel
theorem gt_of{p:Pc}{t:List Nat}(hok:p.ok)(hw:p.wr=123::t)(hx:∀x,p≠.tx x):(∃v,p=.cnt v/\t=110::cntW v)\/∃g u,p.gt=some (g,u)/\t=(48+g)::u/\1<=g/\g<=9:=by
 cases p with
 |tx l=>exact absurd rfl (hx l)
 |into=>injection hw with h _;exact absurd h (by decide)
 |cnt v=>injection hw with _ hw;exact .inl ⟨v,rfl,hw.symm⟩
 |gap k=>injection hw with _ hw;exact .inr ⟨k,_,rfl,hw.symm,hok.1,hok.2⟩
 |great k=>injection hw with _ hw;exact .inr ⟨k,_,rfl,hw.symm,hok.1,hok.2⟩
 |small k=>injection hw with _ hw;exact .inr ⟨k,_,rfl,hw.symm,hok.1,hok.2⟩
 |nou k v=>injection hw with _ hw;exact .inr ⟨k,_,rfl,hw.symm,hok.1.1,hok.1.2⟩
 |more k m=>injection hw with _ hw;exact .inr ⟨k,_,rfl,hw.symm,hok.1.1,hok.1.2⟩
abbrev q2y:Stmt:=top 29
theorem sc_read_mark:FnScope ["template", "at", "sign"] ["template", "at"] (defScope q2y):=by trivial
theorem z1u(D:Df K mg "read_mark" q2y ["template", "at"])(T:Txt mg)(C:CallsV P w K mg base):Cal P w K mg base "read_mark" 4 ["template", "at"] spMark:=by
 refine D.cal sc_read_mark (fun vs H Q E h=>?_) (fun f cdv A outer s H vs Q E hr h=>?_)
 ·obtain⟨l,r,t,a,p,rfl,_⟩:=h;rfl
 ·obtain⟨l,r,t,a,p,rfl,hl,hok,hw,hx,hd,k⟩:=h;obtain⟨_,g_FROM_ONE⟩:=T.FROM_ONE;refine⟨_,(q0b (q0i (i:=2) sc_read_mark.nd rfl (by trivial) (pe_c C.asked hr (q0a (pv 0) (q0a (pv 1) (q0a (q0u q0k q0g (q0p (v:=.str (Ab "123456789")) (by rfl) g_FROM_ONE ⟨_,rfl⟩)) q0c))))) (q0b (q0w (q0h (eq_k K rfl hr) (pv 2) q0g (nomark _)) (q0d (q0o (pe_c C.read_count hr (q0a (pv 0) (q0a (q0u q0k (pv 1) q0f) q0c))))) q0j) (q0d (q0o (pe_c C.read_gap hr (q0a (pv 0) (q0a (q0u q0k (pv 1) q0f) (q0a (q1e q2a (by rfl) T.b_int (by decide +kernel) (q0a (pv 2) q0c)) q0c)))))))),?_⟩;have e9:(Ab "n").length+(Ab "123456789").length<=1000:=by decide +kernel
  rcases gt_of hok hw hx with⟨v,rfl,rfl⟩|⟨g,u,hgt,rfl,hg1,hg9⟩
  ·obtain⟨hc,hd2⟩:=q1i (show l.drop a=110::(cntW v++r) from hd);refine⟨_,rfl,_,rfl,.inr (.inl ⟨_,_,rfl,rfl,TX.small (by lia),l,a,110,_,rfl,hc,by decide +kernel,hl,?_⟩)⟩;refine⟨_,rfl,.inl ⟨rfl,_,rfl,?_⟩⟩;rw[lit1 110 110 "n" (by decide +kernel),decide_eq_true rfl];refine iteT ⟨_,rfl,_,rfl,.inl ⟨_,_,rfl,rfl,l,r,a+1,v,by rfl,hl,hok.1,hok.2,hd2,?_⟩⟩;rw[show a+1+(cntW v).length=a+(110::cntW v).length from by rw[Av];lia];exact k
  ·obtain⟨hc,hd2⟩:=q1i (show l.drop a=(48+g)::(u++r) from hd);refine⟨_,rfl,_,rfl,.inr (.inl ⟨_,_,rfl,rfl,TX.small (by lia),l,a,48+g,_,rfl,hc,in_n g (by lia) hg1,hl,?_⟩)⟩;refine⟨_,rfl,.inl ⟨rfl,_,rfl,?_⟩⟩;rw[lit1 (48+g) 110 "n" (by decide +kernel),decide_eq_false (by lia)];refine iteF ⟨_,rfl,_,rfl,.inl ⟨_,_,rfl,rfl,_,rfl,.inr ⟨_,_,rfl,q8q (by lia),by rw[q0n];show 1<=640;decide,l,r,u,a+1,g,p,by rfl,hl,hok,hgt,hd2,?_⟩⟩⟩;rw[show a+1+u.length=a+((48+g)::u).length from by rw[Av];lia];exact k
structure CallsW (P:Program) (w:World) (K:Af) (mg:Str->Option Value) (base:Heap):Prop where
 read_mark:Cal P w K mg base "read_mark" 4 ["template", "at"] spMark
 read_into:Cal P w K mg base "read_into" 1 ["template", "at"] spInto
 read_text:Cal P w K mg base "read_text" 2 ["template", "at"] spRText
def spPiece:Sp:=fun vs H Q _=>∃(l r:List Nat) (a:Nat) (p:Pc),vs=[.str (mk l),.int (a:Int)]/\l.length<=1000/\p.ok/\l.drop a=p.wr++r/\((∃x,p=.tx x)->∀c r',r=c::r'->¬c∈NS)/\(p=.into->1<=a/\∃c,l[a-1]?=some c/\c≠47)/\RT H Q p (a+p.wr.length)
theorem no123:(123:Nat)∉NS:=by decide +kernel
theorem no47:(47:Nat)∉NS:=by decide +kernel
theorem x3w{p:Pc}(h1:∀x,p≠.tx x)(h2:p≠.into):∃t,p.wr=123::t:=by
 cases p with
 |tx l=>exact absurd rfl (h1 l)
 |into=>exact absurd rfl h2
 |_=>exact⟨_,rfl⟩
abbrev q2l:Stmt:=top 32
theorem q5g:FnScope ["template", "at"] ["template", "at"] (defScope q2l):=by trivial
theorem q9t(D:Df K mg "read_piece" q2l ["template", "at"])(T:Txt mg)(C:CallsW P w K mg base):Cal P w K mg base "read_piece" 5 ["template", "at"] spPiece:=by
 refine D.cal q5g (fun vs H Q E h=>?_) (fun f cdv A outer s H vs Q E hr h=>?_)
 ·obtain⟨l,r,a,p,rfl,_⟩:=h;rfl
 ·obtain⟨l,r,a,p,rfl,hl,hok,hd,htx,hin,k⟩:=h;refine⟨_,(q0b (q0w (q0h (eq_k K rfl hr) (q1a (ix_k K rfl) (pv 0) (pv 1) (fun _ _=>rfl)) q0g (nomark _)) (q0d (q0o (pe_c C.read_mark hr (q0a (pv 0) (q0a (q0u q0k (pv 1) q0f) q0c))))) q0j) (q0b (q0w (q0h (eq_k K rfl hr) (q1a (ix_k K rfl) (pv 0) (pv 1) (fun _ _=>rfl)) q0g (nomark _)) (q0d (q0o (pe_c C.read_into hr (q0a (pv 0) (q0a (pv 1) q0c))))) q0j) (q0d (q0o (pe_c C.read_text hr (q0a (pv 0) (q0a (pv 1) q0c))))))),?_⟩;have hlen:=q0n l;have at_:∀c,l[a]?=some c->atI (tl (mk l)) ((a:Nat):Int)=some c:=fun c hc=>q1g (by rw[q0z];exact hc)
  by_cases h1:∃x,p=.tx x
  ·obtain⟨t,rfl⟩:=h1;obtain⟨c,t',rfl⟩:∃c t',t=c::t':=by cases t with|nil=>exact absurd rfl hok.1|cons c t'=>exact⟨c,t',rfl⟩
   have hcN:=hok.2 c Ao;obtain⟨hc,_⟩:=q1i (show l.drop a=c::(t'++r) from hd);refine⟨_,rfl,_,rfl,.inr (.inr ⟨mk l,_,c,rfl,rfl,TX.small (by lia),at_ c hc,.inl ⟨rfl,_,rfl,?_⟩⟩)⟩;show if decide (V.str (mk [c])=V.str (Ab "{"))=true then _ else _
   rw[lit1 c 123 "{" (by decide +kernel),decide_eq_false (fun z:c=123=>no123 (z▸hcN))];refine iteF ⟨_,rfl,_,rfl,.inr (.inr ⟨mk l,_,c,rfl,rfl,TX.small (by lia),at_ c hc,.inl ⟨rfl,_,rfl,?_⟩⟩)⟩;show if decide (V.str (mk [c])=V.str (Ab "/"))=true then _ else _
   rw[lit1 c 47 "/" (by decide +kernel),decide_eq_false (fun z:c=47=>no47 (z▸hcN))];refine iteF ⟨_,rfl,_,rfl,l,c::t',r,a,by rfl,hl,hd,hok.1,hok.2,htx ⟨_,rfl⟩,k⟩
  ·by_cases h2:p=.into
   ·subst h2;obtain⟨hc,_⟩:=q1i (show l.drop a=47::r from hd);obtain⟨ha,c,hc1,hc2⟩:=hin rfl;refine⟨_,rfl,_,rfl,.inr (.inr ⟨mk l,_,47,rfl,rfl,TX.small (by lia),at_ 47 hc,.inl ⟨rfl,_,rfl,?_⟩⟩)⟩;show if decide (V.str (mk [47])=V.str (Ab "{"))=true then _ else _
    rw[lit1 47 123 "{" (by decide +kernel),decide_eq_false (by decide)];refine iteF ⟨_,rfl,_,rfl,.inr (.inr ⟨mk l,_,47,rfl,rfl,TX.small (by lia),at_ 47 hc,.inl ⟨rfl,_,rfl,?_⟩⟩)⟩;show if decide (V.str (mk [47])=V.str (Ab "/"))=true then _ else _
    rw[lit1 47 47 "/" (by decide +kernel),decide_eq_true rfl];exact iteT ⟨_,rfl,_,rfl,l,a,c,by rfl,hl,ha,hc1,hc2,k⟩
   ·have h1':∀x,p≠.tx x:=fun x z=>h1 ⟨x,z⟩;obtain⟨t,ht⟩:=x3w h1' h2;rw[ht] at hd k;obtain⟨hc,hd2⟩:=q1i (show l.drop a=123::(t++r) from hd);refine⟨_,rfl,_,rfl,.inr (.inr ⟨mk l,_,123,rfl,rfl,TX.small (by lia),at_ 123 hc,.inl ⟨rfl,_,rfl,?_⟩⟩)⟩;show if decide (V.str (mk [123])=V.str (Ab "{"))=true then _ else _
    rw[lit1 123 123 "{" (by decide +kernel),decide_eq_true rfl];refine iteT ⟨_,rfl,_,rfl,.inl ⟨_,_,rfl,rfl,l,r,t,a+1,p,by rfl,hl,hok,ht,h1',hd2,?_⟩⟩;rw[show a+1+t.length=a+(123::t).length from by rw[Av];lia];exact k
def flatP(ps:List Pc):List Nat:=(ps.map Pc.wr).flatten
theorem q0x(p:Pc)(ps:List Pc):flatP (p::ps)=p.wr++flatP ps:=by simp[flatP]
theorem q1n(a b:List Pc):flatP (a++b)=flatP a++flatP b:=by simp[flatP]
theorem z8l{p:Pc}(h:p.ok):p.wr≠[]:=by
 cases p with
 |tx l=>exact h.1
 |_=>simp[Pc.wr]
structure WP (ps:List Pc):Prop where
 ne:ps≠[]
 ok:∀p∈ps,p.ok
 tt:∀i x y,ps[i]?=some (.tx x)->ps[i+1]?≠some (.tx y)
 ii:∀i,ps[i]?=some .into->1<=i/\ps[i-1]?≠some .into
 la:∀q,ps.getLast?=some q->q≠.into
 sz:(flatP ps).length<=100
theorem x3x{p:Pc}(h:∀x,p≠.tx x):∃c t,p.wr=c::t/\¬c∈NS:=by
 cases p with
 |tx l=>exact absurd rfl (h l)
 |into=>exact⟨47,[],rfl,no47⟩
 |_=>exact⟨123,_,rfl,no123⟩
theorem x3y{p:Pc}(hok:p.ok)(h:p≠.into):∃t c,p.wr=t++[c]/\c≠47:=by
 cases p with
 |tx l =>
  refine⟨l.dropLast,l.getLast hok.1,(Cv hok.1).symm,fun z=>?_⟩;have:=hok.2 _ (Rm hok.1);rw[z] at this;exact no47 this
 |into=>exact absurd rfl h
 |gap k=>exact⟨[123,48+k],125,rfl,by decide⟩
 |great k=>exact⟨[123,48+k,117],125,rfl,by decide⟩
 |small k=>exact⟨[123,48+k,108],125,rfl,by decide⟩
 |nou k w=>exact⟨[123,48+k,122,48+w],125,rfl,by decide⟩
 |more k m=>exact⟨123::(48+k)::43::dg m,125,rfl,by decide⟩
 |cnt v =>
  by_cases hv:v=1
  ·exact⟨[123,110],125,by show 123::110::cntW v=_;unfold cntW;rw[if_pos hv];rfl,by decide⟩
  ·exact⟨[123,110,48+v],125,by show 123::110::cntW v=_;unfold cntW;rw[if_neg hv];rfl,by decide⟩
abbrev PTu(H:Hp):List Addr->List Pc->Prop:=Gs fun T p=>H T=some (.tup p.vs)
structure HP (H:Hp) (L:Addr) (ps:List Pc):Prop where
 ex:∃Ts,H L=some (.lst (Ts.map V.ref))/\PTu H Ts ps
theorem PTu.keep{H H':Hp}(k:∀T xs,H T=some (.tup xs)->H' T=some (.tup xs)):∀{Ts:List Addr} {ps:List Pc},PTu H Ts ps->PTu H' Ts ps
 |_,_,.nil=>.nil
 |_,_,.cons h t=>.cons (k _ _ h) (PTu.keep k t)
theorem PTu.len{H:Hp}{Ts:List Addr}{ps:List Pc}(h:PTu H Ts ps):Ts.length=ps.length:=He h
theorem PTu.snoc{H:Hp}{T:Addr}{p:Pc}(hT:H T=some (.tup p.vs)):∀{Ts:List Addr} {ps:List Pc},PTu H Ts ps->PTu H (Ts++[T]) (ps++[p])
 |_,_,.nil=>.cons hT .nil
 |_,_,.cons h t=>.cons h (PTu.snoc hT t)
theorem PTu.get{H:Hp}:∀{Ts:List Addr} {ps:List Pc} {i:Nat} {T:Addr},PTu H Ts ps->Ts[i]?=some T->∃p,ps[i]?=some p/\H T=some (.tup p.vs)
 |_,_,0,_,.cons h t,e=>by simp at e;subst e;exact⟨_,rfl,h⟩
 |_,_,i+1,_,.cons h t,e=>by
  obtain⟨p,h1,h2⟩:=PTu.get t (by simpa using e);exact⟨p,by simpa using h1,h2⟩
theorem HP.same{H H':Hp}{L:Addr}{ps:List Pc}(h:HP H L ps)(s:Same H H'):HP H' L ps:=let ⟨Ts,h1,h2⟩:=h.ex;⟨Ts,s _ _ h1,h2.keep fun T xs e=>s _ _ e⟩
theorem HP.sq{K:Af}{H:Hp}{L:Addr}{ps:List Pc}(h:HP H L ps):∃xs,SqL K H L xs:=let ⟨Ts,h1,_⟩:=h.ex;⟨_,SqL.of h1⟩
def Pc.ds:Pc->List PyData
 |.tx l=>[.str (Ab "text"),.str (mk l)]
 |.gap k=>[.str (Ab "gap"),.int (k:Int)]
 |.great k=>[.str (Ab "great"),.int (k:Int)]
 |.small k=>[.str (Ab "small"),.int (k:Int)]
 |.nou k w=>[.str (Ab "noughts"),.int (k:Int),.int (w:Int)]
 |.more k m=>[.str (Ab "more"),.int (k:Int),.int (m:Int)]
 |.cnt v=>[.str (Ab "count"),.int (v:Int)]
 |.into=>[.str (Ab "into")]
theorem Pc.dts{K:Af}{H:Hp}(p:Pc):Dts K H p.vs p.ds:=by
 cases p<;>first|exact .cons (.str _) (.cons (.str _) .nil)|exact .cons (.str _) (.cons (.int _) .nil)|exact .cons (.str _) (.cons (.int _) (.cons (.int _) .nil))|exact .cons (.str _) .nil
theorem PTu.dts{K:Af}{H:Hp}:∀{Ts:List Addr} {ps:List Pc},PTu H Ts ps->Dts K H (Ts.map V.ref) (ps.map fun p=>.tuple p.ds)
 |_,_,.nil=>.nil
 |_,_,.cons h t=>.cons (.tup (SqT.of h) (Pc.dts _)) (PTu.dts t)
theorem Pc.lay {p : Pc} (h : p.ok) : (PyData.tuple p.ds).canLay0 = true := by
  show Bx p.ds = true;cases p with
  | tx l =>
    have h1 : Cq (mk l) = true := q9g fun c hc => z4a c (h.2 c hc);have h2 : Cq (Ab "text") = true := by decide +kernel
    show Bx [.str (Ab "text"), .str (mk l)] = true;simp only [Bx, Ea, h1, h2, Ew]
  | gap k => have h2 : Cq (Ab "gap") = true := by decide +kernel
             simp only [Pc.ds, Bx, Ea, h2, Ew]
  | great k => have h2 : Cq (Ab "great") = true := by decide +kernel
               simp only [Pc.ds, Bx, Ea, h2, Ew]
  | small k => have h2 : Cq (Ab "small") = true := by decide +kernel
               simp only [Pc.ds, Bx, Ea, h2, Ew]
  | nou k w => have h2 : Cq (Ab "noughts") = true := by decide +kernel
               simp only [Pc.ds, Bx, Ea, h2, Ew]
  | more k m => have h2 : Cq (Ab "more") = true := by decide +kernel
                simp only [Pc.ds, Bx, Ea, h2, Ew]
  | cnt v => have h2 : Cq (Ab "count") = true := by decide +kernel
             simp only [Pc.ds, Bx, Ea, h2, Ew]
  | into => decide +kernel
theorem lays:∀{ps:List Pc},(∀p∈ps,p.ok)->(PyData.list (ps.map fun p=>.tuple p.ds)).canLay0=true:=by
 intro ps;show _->Bx (ps.map fun p=>.tuple p.ds)=true;induction ps with
 |nil=>intro _;rfl
 |cons p r ih =>
  intro h;have h1:=Pc.lay (h p Ao);have h2:=ih fun q hq=>h q (Am _ hq);show Bx (.tuple p.ds::r.map fun p=>.tuple p.ds)=true;simp only[Bx,h1,h2,Ew]
theorem q9u{p:Pc}(h:p≠.into):Dr (.tuple p.ds) (.tuple [.str (Ab "into")])=false:=by
 cases p with
 |into=>exact absurd rfl h
 |_=>simp[Pc.ds,Dr,Fu]
theorem z4o{ps:List Pc}(h:ps≠[]):Dr (.list (ps.map fun p=>.tuple p.ds)) (.list [])=false:=by
 cases ps with
 |nil=>exact absurd rfl h
 |cons p r=>simp[Dr,Fu]
structure CallsX (P:Program) (w:World) (K:Af) (mg:Str->Option Value) (base:Heap):Prop where
 read_piece:Cal P w K mg base "read_piece" 5 ["template", "at"] spPiece
def spPieces:Sp:=fun vs H Q _=>∃ps:List Pc,vs=[.str (mk (flatP ps))]/\WP ps/\∀L H',H L=none->Same H H'->HP H' L ps->Q (.ref L) H'
def pcMeas(n:Nat)(σ:St):Nat:=match σ[2]? with|some (some (V.int e))=>n-e.toNat|_=>0
abbrev q2z:Stmt:=top 33
theorem sc_pieces_of:FnScope ["template", "pieces", "at", "piece"] ["template"] (defScope q2z):=by trivial
theorem z1v(D:Df K mg "pieces_of" q2z ["template"])(T:Txt mg)(C:CallsX P w K mg base):Cal P w K mg base "pieces_of" 6 ["template"] spPieces:=by
 refine D.cal sc_pieces_of (fun vs H Q E h=>?_) (fun f cdv A outer s H vs Q E hr h=>?_)
 ·obtain⟨ps,rfl,_⟩:=h;rfl
 ·obtain⟨ps,rfl,wp,k⟩:=h;refine⟨_,(q0b (q0i (i:=1) sc_pieces_of.nd rfl (by trivial) (q1r q0c)) (q0b (q0i (i:=2) sc_pieces_of.nd rfl (by trivial) q0f) (q0b (q8y Bo (q0h z2l (pv 2) (q0s (q2e K rfl) (by rfl) T.b_len Bm (q0a (pv 0) q0c)) (nomark _)) (q0b (q3w (pe_c C.read_piece hr (q0a (pv 0) (q0a (pv 2) q0c))) (@q2h _ _ _ _ (2) _ K rfl rfl (q0r (q0l (i:=3) sc_pieces_of.nd rfl (by trivial)) (q0r (q0l (i:=2) sc_pieces_of.nd rfl (by trivial)) q1p)) (by rfl) (by rfl))) (q0d (q0v (@bm_k _ _ _ _ _ _ _ _ _ _ _ _ K rfl Bs Dc Dd q1m (pv 1) (q0a (pv 3) q0c) (by rfl) (by rfl) (by rfl) (by rfl) (by rfl)))))) (q0b (q0w (pt_j (@PW.pt _ _ _ (q6e (q0h (eq_k K rfl hr) (pv 1) (q1r q0c) (nomark _)) (q3v (q0h (eq_k K rfl hr) (q1a (ix_k K rfl) (pv 1) (z9s z3t q0f) (fun _ _=>rfl)) (q0q (q0a q0g q0c)) (nomark _)))))) (q0d q1s) q0j) (q0d (q0o (pv 1))))))),?_⟩;generalize hl:flatP ps=l;have hlen:=q0n l;have hsz:l.length<=100:=by rw[<- hl];exact wp.sz
  refine⟨by show 0<=sizeLine;decide,fun L hL=>?_⟩;have hplen:ps.length<=100:=by
   have:∀qs:List Pc,(∀p∈qs,p.ok)->qs.length<=(flatP qs).length:=by
    intro qs;induction qs with
    |nil=>intro _;exact Aj _
    |cons q r ih =>
     intro hq;have h1:=ih fun p hp=>hq p (Am _ hp);have h2:=De.mpr (z8l (hq q Ao));rw[q0x,Ad,Av];lia
   have:=this ps wp.ok;rw[hl] at this;lia
  refine q8z (fun σ3 H3=>∃(i:Nat) (x3:Option V),σ3=[some (.str (mk l)),some (.ref L),some (.int (((flatP (ps.take i)).length:Nat):Int)),x3]/\Same H H3/\HP H3 L (ps.take i)/\i<=ps.length) (fun σ3 _=>pcMeas (l.length+1) σ3) ⟨0,none,rfl,(Same.refl H).new hL,⟨[],q0e,.nil⟩,Ax _⟩ ?_ ?_
  ·rintro σ3 H3 ⟨i,x3,rfl,sm,hp,hi⟩;have esp:flatP (ps.take i)++flatP (ps.drop i)=l:=by rw[<- q1n,Ht,hl]
   have hspl:(flatP (ps.take i)).length+(flatP (ps.drop i)).length=l.length:=by rw[<- esp,Ad]
   refine⟨_,rfl,_,rfl,_,_,rfl,⟨TX.small (by lia),rfl⟩,_,_,rfl,rfl,_,rfl,?_⟩;refine ite2 (fun h=>?_) (fun h=>?_)
   ·have h1:=of_decide_eq_true h;have hi':i<ps.length:=by
     rcases Gf i ps.length with z|z
     ·exact z
     ·rw[Nw z] at hspl;simp[flatP] at hspl;simp[flatP] at h1;lia
    have hpi:ps[i]?=some ps[i]:=Aw hi';generalize ps[i]=p at hpi;have hok:=wp.ok p (As hpi);have edr:=q5a hpi;have hdr:l.drop (flatP (ps.take i)).length=p.wr++flatP (ps.drop (i+1)):=by rw[<- esp,List.drop_left,edr,q0x]
    refine⟨_,rfl,_,rfl,l,flatP (ps.drop (i+1)),(flatP (ps.take i)).length,p,rfl,by lia,hok,hdr,?_,?_,fun T1 T2 H4 hT1 hT2 sm4 h41 h42=>?_⟩
    ·rintro⟨x,rfl⟩ c r' hr;cases hq:ps[i+1]? with
     |none =>
      rw[Nw (List.getElem?_eq_none_iff.mp hq)] at hr;cases hr
     |some q =>
      have hnx:∀y,q≠.tx y:=fun y z=>wp.tt i x y hpi (by rw[hq,z]);obtain⟨c',t',hw,hn⟩:=x3x hnx;rw[q5a hq,q0x,hw] at hr;cases hr;exact hn
    ·rintro rfl;obtain⟨h1i,hprev⟩:=wp.ii i hpi;obtain⟨q,hq⟩:∃q,ps[i-1]?=some q:=⟨_,Aw (by lia)⟩
     have hqi:q≠.into:=fun z=>hprev (by rw[hq,z]);obtain⟨t,c,hw,hc⟩:=x3y (wp.ok q (As hq)) hqi;have etk:ps.take i=ps.take (i-1)++[q]:=by
      have:=q1b hq
      rwa [show i-1+1=i from by lia] at this
     have efl:flatP (ps.take i)=(flatP (ps.take (i-1))++t)++[c]:=by rw[etk,q1n,show flatP [q]=q.wr from by simp[flatP],hw,Cw]
     refine⟨by rw[efl,Ad,Bg];lia,c,?_,hc⟩;rw[<- esp,efl,Ad,Bg,Lr,Cw,Bp (Aj _),Kt];rfl
    ·refine⟨T2,_,rfl,SqT.of h42,rfl,_,_,rfl,_,_,rfl,rfl,?_⟩;have hp4:=hp.same sm4;obtain⟨Ts,a1,a2⟩:=hp4.ex;have hTl:=a2.len;rw[Bt] at hTl;refine⟨_,rfl,.inl ⟨rfl,hp4.sq⟩,_,rfl,L,_,_,rfl,rfl,a1,by rw[Ag];exact TX.small' (by lia),?_⟩;have hTL:T1≠L:=fun z=>by subst z;rw[a1] at h41;cases h41
     have ewr:flatP (ps.take (i+1))=flatP (ps.take i)++p.wr:=by rw[q1b hpi,q1n];simp[flatP]
     refine⟨⟨i+1,some (.ref T1),?_,(sm.trans sm4).put hL,⟨Ts++[T1],by rw[Bf];exact q0e,?_⟩,hi'⟩,?_⟩
     ·rw[ewr,Ad];rfl
     ·rw[q1b hpi];refine PTu.snoc (by rw[q0m hTL];exact h41) (a2.keep fun Tx xs e=>?_);rw[q0m (fun z=>by subst z;rw[a1] at e;cases e)];exact e
     ·show l.length+1-(((flatP (ps.take i)).length+p.wr.length:Nat):Int).toNat<l.length+1-(((flatP (ps.take i)).length:Nat):Int).toNat;have:=De.mpr (z8l hok);lia
   ·have h1:¬(((flatP (ps.take i)).length:Nat):Int)<(((mk l).length:Nat):Int):=fun z=>h (decide_eq_true z);have hi':i=ps.length:=by
     rcases Gf i ps.length with z|z
     ·have hpi:ps[i]?=some ps[i]:=Aw z;have:=De.mpr (z8l (wp.ok _ (As hpi)));rw[q5a hpi,q0x,Ad] at hspl;lia
     ·lia
    subst hi';rw[Cc] at hp;obtain⟨Ts,a1,a2⟩:=hp.ex;have hTl:=a2.len;obtain⟨qs,q,hqs⟩:∃qs q,ps=qs++[q]:=⟨ps.dropLast,ps.getLast wp.ne,(Cv wp.ne).symm⟩
    have hqn:q≠.into:=wp.la q (by rw[hqs];simp);refine⟨fun b H'=>b=false/\Same H3 H',?_,?_⟩
    ·rintro b H' ⟨rfl,sm'⟩;exact iteF ⟨_,rfl,k L H' hL (sm.trans sm') (hp.same sm')⟩
    refine⟨_,rfl,by show 0<=sizeLine;decide,fun E0 hE0=>?_⟩;have smE:Same H3 (upd H3 E0 (.lst [])):=(Same.refl H3).new hE0;have hpE:=hp.same smE;obtain⟨Us,b1,b2⟩:=hpE.ex;refine .inr ⟨_,_,.lst (SqL.of b1) b2.dts,.lst (SqL.of q0e) .nil,lays wp.ok,rfl,?_,_,rfl,?_⟩
    ·refine Aq (Ih _ _) ?_;decide +kernel
    rw[z4o wp.ne];refine iteF ?_;have hUl:=b2.len;have hUne:Us≠[]:=fun z=>by rw[z] at hUl;rw[hqs] at hUl;simp at hUl
    have hUs:=(Cv hUne).symm;have hlast:Us[ps.length-1]?=some (Us.getLast hUne):=by rw[<- hUl];simp[Nb]
    obtain⟨q',hq1,hq2⟩:=b2.get hlast;have eq':q'=q:=by rw[hqs] at hq1;simp at hq1;exact hq1.symm
    subst eq';have hix:atI (Us.map V.ref) (-1)=some (.ref (Us.getLast hUne)):=by
     have:=z4d Us.dropLast (Us.getLast hUne)
     rwa [<- hUs] at this
    refine⟨_,rfl,_,rfl,.inl ⟨L,_,-1,_,rfl,rfl,SqL.of b1,hix,by show 1<=sizeLine;decide,fun T3 hT3=>?_⟩⟩;have sm3:Same (upd H3 E0 (.lst [])) (upd (upd H3 E0 (.lst [])) T3 (.tup [.str (Ab "into")])):=(Same.refl _).new hT3;refine .inr ⟨_,_,.tup (SqT.of (sm3 _ _ hq2)) (Pc.dts _),.tup (SqT.of q0e) (.cons (.str _) .nil),Pc.lay (wp.ok _ (by rw[hqs];simp)),by decide +kernel,?_,_,rfl,?_,smE.trans sm3⟩
    ·refine Aq (Ih _ _) ?_;decide +kernel
    ·exact q9u hqn
  ·intro σ H Q Q' hq hw;obtain⟨x,e1,y,e2,n',z,e3,e4,a',b',e5,e6,c',e7,hh⟩:=hw;exact⟨x,e1,y,e2,n',z,e3,e4,a',b',e5,e6,c',e7,hq _ _ hh⟩
theorem z4p{P:Program}{w:World}{K:Af}{dC:Addr}{ep:Nat}{t1 t2 t3 t4:Tok}(lC:K.lookup dC=some ⟨.type "dict",none,.dict #[⟨Lf w.params (Ab "u"),.str (Ab "u") t1,.str (Ab "great") t2⟩,⟨Lf w.params (Ab "l"),.str (Ab "l") t3,.str (Ab "small") t4⟩] ep,#[]⟩):KDict P w K dC casesKV:=by
 refine⟨_,[(Sum.inr (Ab "u"),.str (Ab "great") t2),(Sum.inr (Ab "l"),.str (Ab "small") t4)],lC,.cons ⟨rfl,t2,rfl⟩ (.cons ⟨rfl,t4,rfl⟩ .nil),fun h e=>?_⟩;have k1:(mixKind P w).is (Sum.inr (Ab "u")) (.str (Ab "u") t1)=true:=q6t (Ab "u") t1;have k2:(mixKind P w).is (Sum.inr (Ab "l")) (.str (Ab "l") t3)=true:=q6t (Ab "l") t3;refine⟨_,_,ep,e,⟨rfl,rfl,rfl⟩,rfl,fun en hen=>?_,.cons k1 rfl (.cons k2 rfl .nil),?_⟩
 ·simp only[List.mem_toArray,Ap,Bq,or_false] at hen;rcases hen with rfl|rfl
  ·exact⟨_,k1,rfl⟩
  ·exact⟨_,k2,rfl⟩
 ·exact(by decide +kernel:([Sum.inr (Ab "u"),Sum.inr (Ab "l")]:List Key).Nodup)
abbrev vG(gs:List Nat):List V:=gs.map fun c=>V.str (mk [c])
def gapNo:Pc->Option Nat
 |.gap k=>some k
 |.great k=>some k
 |.small k=>some k
 |.nou k _=>some k
 |.more k _=>some k
 |_=>none
def isMo:Pc->Bool
 |.more _ _=>true
 |_=>false
def pcWd:Pc->Str
 |.tx _=>Ab "text"
 |.gap _=>Ab "gap"
 |.great _=>Ab "great"
 |.small _=>Ab "small"
 |.nou _ _=>Ab "noughts"
 |.more _ _=>Ab "more"
 |.cnt _=>Ab "count"
 |.into=>Ab "into"
def pcI:Pc->Bool
 |.into=>true
 |_=>false
theorem pw0(p:Pc):atI p.vs 0=some (.str (pcWd p)):=by cases p<;>rfl
theorem pwM(p:Pc):decide (V.str (pcWd p)=V.str (Ab "more"))=isMo p:=by
 rw[L2.dec_str];cases p<;>(simp only[pcWd,isMo];decide +kernel)
theorem pwI(p:Pc):decide (V.str (pcWd p)=V.str (Ab "into"))=pcI p:=by
 rw[L2.dec_str];cases p<;>(simp only[pcWd,pcI];decide +kernel)
theorem z4q{p:Pc}{k:Nat}(h:gapNo p=some k):atI p.vs 1=some (.int (k:Int)):=by cases p<;>cases h<;>rfl
abbrev ofGap:List V:=[.str (Ab "gap"),.str (Ab "great"),.str (Ab "small"),.str (Ab "noughts"),.str (Ab "more")]
abbrev kinds3:List V:=[.str (Ab "slip"),.str (Ab "drawer"),.str (Ab "all")]
theorem inGap(p:Pc):inV (.str (pcWd p)) ofGap=(gapNo p).isSome:=by cases p<;>(simp only[pcWd,gapNo,Option.isSome];decide +kernel)
structure AskOk (kd:Str) (gs:List Nat) (p:Pc):Prop where
 gp:∀k,gapNo p=some k->1<=k/\k<=gs.length
 mo:∀k m,p=.more k m->gs[k-1]?=some 35
 io:p=.into->kd=Ab "slip"
def spAskGap:Sp:=fun vs H Q _=>∃T G p k gs kd,vs=[.ref T,.ref G]/\H T=some (.tup p.vs)/\gapNo p=some k/\H G=some (.lst (vG gs))/\gs.length<=3000/\AskOk kd gs p/\Q .non H
theorem vG_at{gs:List Nat}{k c:Nat}(hk:1<=k)(h:gs[k-1]?=some c):atI (vG gs) ((k:Int)-1)=some (.str (mk [c])):=by
 have e:((k:Int)-1)=((k-1:Nat):Int):=by lia
 rw[e];refine q1g ?_;rw[Bk,h];rfl
theorem lit35:decide (V.str (mk [35])=V.str (Ab "#"))=true:=by
 rw[lit1 35 35 "#" (by decide +kernel)];rfl
abbrev q4g:Stmt:=top 38
theorem sc_ask_gap:FnScope ["piece", "gap_signs", "sort", "gap"] ["piece", "gap_signs"] (defScope q4g):=by trivial
theorem z6b(D:Df K mg "ask_gap" q4g ["piece", "gap_signs"])(T:Txt mg):Cal P w K mg base "ask_gap" 1 ["piece", "gap_signs"] spAskGap:=by
 refine D.cal sc_ask_gap (fun vs H Q E h=>?_) (fun f cdv A outer s H vs Q E hr h=>?_)
 ·obtain⟨T1,G,p,k,gs,kd,rfl,_⟩:=h;rfl
 ·obtain⟨T1,G,p,n,gs,kd,rfl,hT,hg,hG,hgl,ao,k⟩:=h;refine⟨_,(q0b (q0i (i:=2) sc_ask_gap.nd rfl (by trivial) (q1a (ix_k K rfl) (pv 0) q0f (fun _ _=>rfl))) (q0b (q0i (i:=3) sc_ask_gap.nd rfl (by trivial) (q1a (ix_k K rfl) (pv 0) q0f (fun _ _=>rfl))) (q0b (q0w (q0h q5l (pv 3) (q0s (q2e K rfl) (by rfl) T.b_len Bm (q0a (pv 1) q0c)) (nomark _)) (q0d q1s) q0j) (q0d (q0w (pt_j (@PW.pt _ _ _ (q4h (q0h (eq_k K rfl hr) (pv 2) q0g (nomark _)) (q3h (q0h (ne_k K rfl hr) (q1a (ix_k K rfl) (pv 1) (q0u z0q (pv 3) q0f) (fun _ _=>rfl)) q0g (nomark _)))))) (q0d q1s) q0j))))),?_⟩;obtain⟨hn1,hn2⟩:=ao.gp n hg;refine⟨_,rfl,.inr (.inl ⟨T1,_,0,_,rfl,rfl,SqT.of hT,pw0 p,?_⟩)⟩;refine⟨_,rfl,.inr (.inl ⟨T1,_,1,_,rfl,rfl,SqT.of hT,z4q hg,?_⟩)⟩;refine⟨_,rfl,_,rfl,_,_,rfl,.inl ⟨_,SqL.of hG,rfl⟩,_,_,rfl,rfl,_,rfl,?_⟩;rw[Ag];refine ite2 (fun h=>absurd (of_decide_eq_true h) (by lia)) (fun _=>?_);refine⟨fun bb H'=>bb=false/\H'=H,?_,?_⟩
  ·rintro bb H' ⟨rfl,rfl⟩;exact iteF k
  refine⟨_,rfl,.inl ⟨rfl,_,rfl,?_⟩⟩;rw[pwM];refine iteB (fun h=>?_) (fun h=>⟨rfl,rfl⟩);obtain⟨kk,m,rfl⟩:∃kk m,p=.more kk m:=by cases p<;>first|exact⟨_,_,rfl⟩|cases h
  cases hg;refine⟨_,rfl,_,rfl,_,_,rfl,rfl,.inl ⟨G,_,_,_,rfl,rfl,SqL.of hG,vG_at hn1 (ao.mo _ _ rfl),.inl ⟨rfl,_,rfl,?_,rfl⟩⟩⟩;rw[lit35];rfl
structure CallsR (P:Program) (w:World) (K:Af) (mg:Str->Option Value) (base:Heap):Prop where
 ask_gap:Cal P w K mg base "ask_gap" 1 ["piece", "gap_signs"] spAskGap
 of_a_gap:∃d,mg "OF_A_GAP" = some (.ref d)/\∀H,SqT K H d ofGap
def spAskPiece:Sp:=fun vs H Q _=>∃T G p gs kd,vs=[.ref T,.str kd,.ref G]/\H T=some (.tup p.vs)/\H G=some (.lst (vG gs))/\gs.length<=3000/\AskOk kd gs p/\Q .non H
abbrev q3a:Stmt:=top 39
theorem sc_ask_piece:FnScope ["piece", "kind", "gap_signs", "sort"] ["piece", "kind", "gap_signs"] (defScope q3a):=by trivial
theorem z1w(D:Df K mg "ask_piece" q3a ["piece", "kind", "gap_signs"])(T:Txt mg)(C:CallsR P w K mg base):Cal P w K mg base "ask_piece" 2 ["piece", "kind", "gap_signs"] spAskPiece:=by
 refine D.cal sc_ask_piece (fun vs H Q E h=>?_) (fun f cdv A outer s H vs Q E hr h=>?_)
 ·obtain⟨T1,G,p,gs,kd,rfl,_⟩:=h;rfl
 ·obtain⟨T1,G,p,gs,kd,rfl,hT,hG,hgl,ao,k⟩:=h;obtain⟨d_OF_A_GAP,g_OF_A_GAP,hd⟩:=C.of_a_gap;refine⟨_,(q0b (q0i (i:=3) sc_ask_piece.nd rfl (by trivial) (q1a (ix_k K rfl) (pv 0) q0f (fun _ _=>rfl))) (q1f (q0w (q0h (in_k K rfl) (pv 3) (q0p (v:=.ref d_OF_A_GAP) (by rfl) g_OF_A_GAP rfl) (by with_unfolding_all rfl)) (q0d (q0v (pe_c C.ask_gap hr (q0a (pv 0) (q0a (pv 2) q0c))))) q0j) (q0d (q0w (pt_j (@PW.pt _ _ _ (q4h (q0h (eq_k K rfl hr) (pv 3) q0g (nomark _)) (q3h (q0h (ne_k K rfl hr) (pv 1) q0g (nomark _)))))) (q0d q1s) q0j)))),?_⟩;refine⟨_,rfl,.inr (.inl ⟨T1,_,0,_,rfl,rfl,SqT.of hT,pw0 p,?_⟩)⟩;refine⟨fun σ' H'=>σ'=[some (.ref T1),some (.str kd),some (.ref G),some (.str (pcWd p))]/\H'=H,?_,?_⟩;rotate_left
  ·refine⟨_,rfl,.inr ⟨d_OF_A_GAP,_,rfl,.inr (hd H),rfl,by decide +kernel,_,rfl,?_⟩⟩;show if inV (.str (pcWd p)) ofGap=true then _ else _
   rw[inGap];refine ite2 (fun h=>?_) (fun h=>⟨rfl,rfl⟩);obtain⟨n,hn⟩:=Gx.mp h;exact⟨_,rfl,_,rfl,T1,G,p,n,gs,kd,rfl,hT,hn,hG,hgl,ao,rfl,rfl⟩
  rintro σ' H' ⟨rfl,rfl⟩;refine⟨fun bb H2=>bb=false/\H2=H',?_,?_⟩
  ·rintro bb H2 ⟨rfl,rfl⟩;exact iteF k
  refine⟨_,rfl,.inl ⟨rfl,_,rfl,?_⟩⟩;rw[pwI];refine iteB (fun h=>?_) (fun h=>⟨rfl,rfl⟩);have hi:p=.into:=by cases p<;>first|rfl|cases h
  refine⟨_,rfl,.inl ⟨rfl,_,rfl,?_,rfl⟩⟩;rw[ao.io hi,decide_eq_true rfl];rfl
structure RuleAt (K:Af) (H:Hp) (R:Addr) (kd:Str) (l:List Nat) (qs:List Pc) (st:Int):Prop where
 at_:H R=some (.tup [.str kd,.str (mk l),.str (mk (flatP qs)),.int st])
 kok:inV (.str kd) kinds3=true
 good:Good l
 wp:WP qs
 st0:0<=st
 st1:st<=1000000000
 ask:∀q∈qs,AskOk kd (gsOf (parse [] l)) q
theorem RuleAt.same{K:Af}{H H':Hp}{R:Addr}{kd:Str}{l:List Nat}{qs:List Pc}{st:Int}(h:RuleAt K H R kd l qs st)(s:Same H H'):RuleAt K H' R kd l qs st:=⟨s _ _ h.at_,h.kok,h.good,h.wp,h.st0,h.st1,h.ask⟩
structure CallsS (P:Program) (w:World) (K:Af) (mg:Str->Option Value) (base:Heap):Prop where
 parts_of:Cal P w K mg base "parts_of" 2 ["pattern"] spPartsOf
 pieces_of:Cal P w K mg base "pieces_of" 6 ["template"] spPieces
 ask_piece:Cal P w K mg base "ask_piece" 2 ["piece", "kind", "gap_signs"] spAskPiece
 kinds:∃d,mg "KINDS" = some (.ref d)/\∀H,SqT K H d kinds3
def spAskRule(K:Af):Sp:=fun vs H Q _=>∃R kd l qs st,vs=[.ref R]/\RuleAt K H R kd l qs st/\∀H',Same H H'->Q (.bl true) H'
theorem q5h{ps:List Pt}{i:Nat}{p:Pt}(h:ps[i]?=some p):gsOf (ps.take (i+1))=gsOf (ps.take i)++gsOf [p]:=by
 have e:ps.take (i+1)=ps.take i++[p]:=by rw[Hr,h];rfl
 rw[e];generalize ps.take i=qs;induction qs with
 |nil=>rfl
 |cons q r ih=>cases q with
  |tx t=>exact ih
  |gp c=>show c::gsOf (r++[p])=c::(gsOf r++gsOf [p]);rw[ih]
theorem q6r(ps:List Pt):(gsOf ps).length<=ps.length:=by
 induction ps with
 |nil=>exact Aj _
 |cons q r ih=>cases q with
  |tx t=>show(gsOf r).length<=r.length+1;lia
  |gp c=>show(gsOf r).length+1<=r.length+1;lia
abbrev q3p:Stmt:=top 40
theorem sc_ask_rule:FnScope ["rule", "kind", "pattern", "template", "start", "parts", "pieces", "gap_signs", "piece"] ["rule"] (defScope q3p):=by trivial
theorem z3e(D:Df K mg "ask_rule" q3p ["rule"])(T:Txt mg)(C:CallsS P w K mg base):Cal P w K mg base "ask_rule" 7 ["rule"] (spAskRule K):=by
 refine D.cal sc_ask_rule (fun vs H Q E h=>?_) (fun f cdv A outer s H vs Q E hr h=>?_)
 ·obtain⟨R,kd,l,qs,st,rfl,_⟩:=h;rfl
 ·obtain⟨R,kd,l,qs,st,rfl,ru,k⟩:=h;obtain⟨d_KINDS,g_KINDS,hd⟩:=C.kinds;obtain⟨_,g_MOST_START⟩:=T.MOST_START;refine⟨_,(q0b (q3w (pv 0) (@q2h _ _ _ _ (4) _ K rfl rfl (q0r (q0l (i:=1) sc_ask_rule.nd rfl (by trivial)) (q0r (q0l (i:=2) sc_ask_rule.nd rfl (by trivial)) (q0r (q0l (i:=3) sc_ask_rule.nd rfl (by trivial)) (q0r (q0l (i:=4) sc_ask_rule.nd rfl (by trivial)) q1p)))) (by rfl) (by rfl))) (q0b (q0i (i:=5) sc_ask_rule.nd rfl (by trivial) (pe_c C.parts_of hr (q0a (pv 2) q0c))) (q0b (q0i (i:=6) sc_ask_rule.nd rfl (by trivial) (pe_c C.pieces_of hr (q0a (pv 3) q0c))) (q0b (q0w (q0h (z1e K rfl) (pv 1) (q0p (v:=.ref d_KINDS) (by rfl) g_KINDS rfl) (by with_unfolding_all rfl)) (q0d q1s) q0j) (q0b (q7b (i:=7) ["sort", "what"] [] sc_ask_rule.nd rfl (by trivial) rfl (@q2t _ _ _ _ K rfl (pv 5)) (fun _ _ _ _ _=>(@q2h _ _ _ _ (2) _ K rfl rfl (q0r (q0l (i:=0) (show(["sort", "what"]:List Str).Nodup by decide +kernel) rfl (by trivial)) (q0r (q0l (i:=1) (show(["sort", "what"]:List Str).Nodup by decide +kernel) rfl (by trivial)) q1p)) (by rfl) (by rfl))) (fun _ _ _ _ _=>(q5m (q0h (eq_k K rfl hr) (pv 0) q0g (nomark _)))) (fun _ _ _ _ _=>(pv 1))) (q0b (q1h Bo rfl (@q2t _ _ _ _ K rfl (pv 6)) (q0l (i:=8) sc_ask_rule.nd rfl (by trivial)) (q0d (q0v (pe_c C.ask_piece hr (q0a (pv 8) (q0a (pv 1) (q0a (pv 7) q0c))))))) (q0b (q0w (pt_j (@PW.pt _ _ _ (q6e (q0h z2l (pv 4) q0f (nomark _)) (q3v (q0h q5l (pv 4) (q0p (v:=.int 1000000000) (by rfl) g_MOST_START ⟨_,rfl⟩) (nomark _)))))) (q0d q1s) q0j) (q0d (q0o q5k))))))))),?_⟩;refine⟨_,rfl,R,_,rfl,SqT.of ru.at_,rfl,_,_,rfl,_,_,rfl,_,_,rfl,_,_,rfl,rfl,?_⟩;refine⟨_,rfl,l,rfl,ru.good,fun L H1 hL sm1 hl1=>?_⟩;refine⟨_,rfl,qs,rfl,ru.wp,fun M H2 hM sm2 hp2=>?_⟩;refine⟨_,rfl,.inr ⟨d_KINDS,_,rfl,.inr (hd H2),rfl,by decide +kernel,_,rfl,?_⟩⟩;show if (!inV (.str kd) kinds3)=true then _ else _
  rw[ru.kok];refine iteF ?_;obtain⟨Ts,t1,t2⟩:=(hl1.same sm2).ex;have hTl:=t2.len;have hpl:=q5q l [];have hgl:=ru.good.len;refine⟨_,rfl,.inl ⟨L,rfl,⟨_,SqL.of t1⟩,fun D hD=>?_⟩⟩;refine q3x (xs:=Ts.map V.ref) (fun i ys H'=>ys=vG (gsOf ((parse [] l).take i))/\Same H2 H'/\H' D=some (.lst ys)/\i<=(parse [] l).length) ⟨rfl,(Same.refl H2).new hD,q0e,Ax _⟩ (fun i ys H' ⟨_,sm,hHD,_⟩=>⟨hHD,SqL.of (sm _ _ t1)⟩) ?_ ?_
  ·rintro i ys H' x hx ⟨rfl,sm,hHD,hi⟩;obtain⟨T1,p,rfl,hp1,ht⟩:=t2.get hx;have hi':=(Ai.mp hp1).1;refine⟨T1,_,rfl,SqT.of (sm _ _ ht),rfl,_,_,rfl,_,_,rfl,rfl,q8i,?_⟩;refine⟨_,rfl,.inl ⟨rfl,_,rfl,?_⟩⟩;rw[wgg];have hg:=q6r ((parse [] l).take i);rw[Bt] at hg;cases p with
   |tx t =>
    refine iteF ⟨?_,sm,hHD,hi'⟩;rw[q5h hp1];show vG _=vG (_++[]);rw[Bi]
   |gp c =>
    refine iteT ⟨_,rfl,hHD,TX.small' (by rw[Ag];lia),?_,sm.put hD,q0e,hi'⟩;rw[q5h hp1];show _=(gsOf _++[c]).map _;rw[Bf];rfl
  rintro ys H3 ⟨rfl,sm3,hHD,_⟩;rw[Ag,hTl,Cc] at hHD;have hp3:=hp2.same sm3;obtain⟨Us,u1,u2⟩:=hp3.ex;have hgp:=q6r (parse [] l);refine⟨_,rfl,.inl ⟨M,rfl,⟨_,SqL.of u1⟩,?_⟩⟩;refine q2i (xs:=Us.map V.ref) (fun i σ' H'=>∃x8,σ'=[some (.ref R),some (.str kd),some (.str (mk l)),some (.str (mk (flatP qs))),some (.int st),some (.ref L),some (.ref M),some (.ref D),x8]/\H'=H3) ⟨none,rfl,rfl⟩ (fun i σ' H' _ ⟨_,_,e⟩=>by subst e;exact SqL.of u1) ?_ ?_
  ·rintro i x σ' H' hx ⟨x8,rfl,rfl⟩;obtain⟨T1,hT1,rfl⟩:∃T,Us[i]?=some T/\x=.ref T:=by
    rw[Bk] at hx;cases hz:Us[i]? with
    |none=>rw[hz] at hx;cases hx
    |some T=>rw[hz] at hx;cases hx;exact⟨T,rfl,rfl⟩
   obtain⟨p,hp1,ht⟩:=u2.get hT1;refine⟨_,rfl,_,rfl,_,rfl,T1,D,p,gsOf (parse [] l),kd,rfl,ht,hHD,by lia,ru.ask p (As hp1),⟨_,rfl,rfl⟩⟩
  ·rintro σ' H' ⟨x8,rfl,rfl⟩;refine⟨fun bb H4=>bb=false/\H4=H',?_,?_⟩
   ·rintro bb H4 ⟨rfl,rfl⟩;exact iteF (k _ ((sm1.trans sm2).trans sm3))
   have h0:=ru.st0;have h1:=ru.st1;refine⟨_,rfl,_,_,rfl,rfl,_,rfl,?_⟩;refine iteB (fun h=>absurd (of_decide_eq_true h) (by lia)) (fun _=>?_);refine⟨_,rfl,_,_,rfl,rfl,_,rfl,?_,rfl⟩;exact decide_eq_false (by lia)
theorem x0s(a b:List Nat):mk a++mk b=mk (a++b):=by apply ext;rw[q2n,q0z,q0z,q0z]
abbrev up1:=PyProof.Rows.up1
abbrev lo1:=PyProof.Rows.lo1
def gapG:Pc->List Nat->List Nat
 |.great _,t=>t.map up1
 |.small _,t=>t.map lo1
 |.nou _ w,t=>wn w t
 |.more _ m,t=>wn t.length (dg (Eg t+m))
 |_,t=>t
def pcText(ts:List (List Nat))(cn:Nat):Pc->List Nat
 |.tx t=>t
 |.gap k=>ts.getD (k-1) []
 |.great k=>(ts.getD (k-1) []).map up1
 |.small k=>(ts.getD (k-1) []).map lo1
 |.nou k w=>wn w (ts.getD (k-1) [])
 |.more k m=>wn (ts.getD (k-1) []).length (dg (Eg (ts.getD (k-1) [])+m))
 |.cnt w=>wn w (dg cn)
 |.into=>[]
structure GTx (ts:List (List Nat)) (p:Pc):Prop where
 gp:∀k,gapNo p=some k->1<=k/\k<=ts.length
 tx:∀t∈ts,t.length<=12/\∀c∈t,c<128
 mo:∀k m,p=.more k m->ts.getD (k-1) []≠[]/\∀c∈ts.getD (k-1) [],c∈FI
theorem x2e:∀c∈FI,48<=c/\c<=57:=by decide +kernel
theorem z8m:∀(t:List Nat) (a:Nat),(∀c∈t,c∈FI)->t.foldl (fun acc c=>acc*10+(c-48)) a<(a+1)*10^t.length
 |[],a,_=>by simp
 |c::r,a,h=>by
  have h1:=x2e c (h c Ao);have h2:=z8m r (a*10+(c-48)) fun x hx=>h x (Am _ hx);rw[Fj,Av,Jd];have h3:(a*10+(c-48)+1)*10^r.length<=((a+1)*10)*10^r.length:=Ks _ (by lia);have h4:((a+1)*10)*10^r.length=(a+1)*(10^r.length*10):=by rw[Nat.mul_assoc,Qd 10]
  lia
theorem dv_lt(t:List Nat)(h:∀c∈t,c∈FI):Eg t<10^t.length:=by
 have:=z8m t 0 h;simpa[Eg] using this
def spWN:Sp:=fun vs H Q _=>∃(t:List Nat) (w:Nat),vs=[.str (mk t),.int (w:Int)]/\w<=1000/\Q (.str (mk (wn w t))) H
abbrev q2q:Stmt:=top 48
theorem q7n:FnScope ["text", "width"] ["text", "width"] (defScope q2q):=by trivial
theorem q7o(D:Df K mg "with_noughts" q2q ["text", "width"])(T:Txt mg):Cal P w K mg base "with_noughts" 1 ["text", "width"] spWN:=by
 refine D.cal q7n (fun vs H Q E h=>?_) (fun f cdv A outer s H vs Q E hr h=>?_)
 ·obtain⟨t,n,rfl,_⟩:=h;rfl
 ·obtain⟨t,n,rfl,hn,k⟩:=h;refine⟨_,(q0d (q0o (@bm_k _ _ _ _ _ _ _ _ _ _ _ _ K rfl Bw PySem.F.slot_str_rjust PySem.F.type_str_rjust x0k (pv 0) (q0a (pv 1) (q0a q0g q0c)) (by rfl) (by rfl) (by rfl) (by rfl) (by rfl)))),?_⟩;refine⟨_,rfl,rfl,_,rfl,_,_,_,rfl,rfl,PyProof.Rows.padOk_of (by lia) (by lia),by decide +kernel,?_⟩;have e:(Ab "0").cps.getD 0 0=48:=by decide +kernel
  rw[e,rj];exact k
theorem wne{x y:String}(h:(Ab x==Ab y)=false):decide (V.str (Ab x)=V.str (Ab y))=false:=by rw[L2.dec_str];exact h
theorem upper14{n:List Nat}(h:∀c∈n,c<128):PySem.Txt.upper (mk n)=mk (n.map up1):=by
 rw[Mv (by show ∀c∈tl (mk n),c<128;rw[q0z];exact h)];apply ext;rw[q0z];show(((mk n).cps.map up1).toList)=_;rw[Rn];all_goals (show(tl (mk n)).map up1=_;rw[q0z])
theorem lower14{n:List Nat}(h:∀c∈n,c<128):PySem.Txt.lower (mk n)=mk (n.map lo1):=by
 rw[PyProof.Rows.lower_ascii (by show ∀c∈tl (mk n),c<128;rw[q0z];exact h)];apply ext;rw[q0z];show(((mk n).cps.map lo1).toList)=_;rw[Rn];all_goals (show(tl (mk n)).map lo1=_;rw[q0z])
theorem x0t{t:List Nat}(h0:t≠[])(h:∀c∈t,c∈FI)(hl:t.length<=12):Jj (mk t)=some ((Eg t:Nat):Int):=by
 have e:(mk t).cps.toList=t:=q0z t;have:=PySem.intText_digits (x:=mk t) (by rw[e];exact fun d hd=>x2e d (h d hd)) (by rw[e];exact h0) (by rw[q0n];lia);rw[e] at this;exact this
structure CallsWN (P:Program) (w:World) (K:Af) (mg:Str->Option Value) (base:Heap):Prop where
 with_noughts:Cal P w K mg base "with_noughts" 1 ["text", "width"] spWN
def spGapText:Sp:=fun vs H Q _=>∃T p t,vs=[.ref T,.str (mk t)]/\H T=some (.tup p.vs)/\p.ok/\gapNo p≠none/\t.length<=12/\(∀c∈t,c<128)/\(∀k m,p=.more k m->t≠[]/\∀c∈t,c∈FI)/\Q (.str (mk (gapG p t))) H
abbrev q4r:Stmt:=top 49
theorem sc_gap_text:FnScope ["piece", "text", "sort"] ["piece", "text"] (defScope q4r):=by trivial
theorem z3f(D:Df K mg "gap_text" q4r ["piece", "text"])(T:Txt mg)(C:CallsWN P w K mg base):Cal P w K mg base "gap_text" 2 ["piece", "text"] spGapText:=by
 refine D.cal sc_gap_text (fun vs H Q E h=>?_) (fun f cdv A outer s H vs Q E hr h=>?_)
 ·obtain⟨T1,p,t,rfl,_⟩:=h;rfl
 ·obtain⟨T1,p,t,rfl,hT,ok,hg,hl,hc,hm,k⟩:=h;refine⟨_,(q0b (q0i (i:=2) sc_gap_text.nd rfl (by trivial) (q1a (ix_k K rfl) (pv 0) q0f (fun _ _=>rfl))) (q0b (q0w (q0h (eq_k K rfl hr) (pv 2) q0g (nomark _)) (q0d (q0o (@q7f _ _ _ _ _ _ _ _ _ K rfl Bw Hn Ho q6n (pv 1) (by rfl) (by rfl)))) q0j) (q0b (q0w (q0h (eq_k K rfl hr) (pv 2) q0g (nomark _)) (q0d (q0o (@q7f _ _ _ _ _ _ _ _ _ K rfl Bw Et Eu q4f (pv 1) (by rfl) (by rfl)))) q0j) (q0b (q0w (q0h (eq_k K rfl hr) (pv 2) q0g (nomark _)) (q0d (q0o (pe_c C.with_noughts hr (q0a (pv 1) (q0a (q1a (ix_k K rfl) (pv 0) q0f (fun _ _=>rfl)) q0c))))) q0j) (q0b (q0w (q0h (eq_k K rfl hr) (pv 2) q0g (nomark _)) (q0d (q0o (pe_c C.with_noughts hr (q0a (q1e q7h (by rfl) T.b_str (by decide +kernel) (q0a (q0u q0k (q1e q2a (by rfl) T.b_int (by decide +kernel) (q0a (pv 1) q0c)) (q1a (ix_k K rfl) (pv 0) q0f (fun _ _=>rfl))) q0c)) (q0a (q0s (q2e K rfl) (by rfl) T.b_len Bm (q0a (pv 1) q0c)) q0c))))) q0j) (q0d (q0o (pv 1)))))))),?_⟩;have hs:(mk t).length<=sizeLine:=TX.small (by rw[q0n];lia);cases p with
  |tx l=>exact absurd rfl hg
  |cnt v=>exact absurd rfl hg
  |into=>exact absurd rfl hg
  |gap n =>
   refine⟨_,rfl,.inr (.inl ⟨T1,_,0,.str (Ab "gap"),rfl,rfl,SqT.of hT,rfl,?_⟩)⟩;refine⟨_,rfl,.inl ⟨rfl,_,rfl,?_⟩⟩;rw[wne (x := "gap") (y := "great") (by decide +kernel)];refine iteF ⟨_,rfl,.inl ⟨rfl,_,rfl,?_⟩⟩;rw[wne (x := "gap") (y := "small") (by decide +kernel)];refine iteF ⟨_,rfl,.inl ⟨rfl,_,rfl,?_⟩⟩;rw[wne (x := "gap") (y := "noughts") (by decide +kernel)];refine iteF ⟨_,rfl,.inl ⟨rfl,_,rfl,?_⟩⟩;rw[wne (x := "gap") (y := "more") (by decide +kernel)];exact iteF ⟨_,rfl,k⟩
  |great n =>
   refine⟨_,rfl,.inr (.inl ⟨T1,_,0,.str (Ab "great"),rfl,rfl,SqT.of hT,rfl,?_⟩)⟩;refine⟨_,rfl,.inl ⟨rfl,_,rfl,?_⟩⟩;rw[decide_eq_true rfl];refine iteT ⟨_,rfl,rfl,_,rfl,rfl,TX.small (by rw[q0n];lia),?_⟩;rw[upper14 hc];exact k
  |small n =>
   refine⟨_,rfl,.inr (.inl ⟨T1,_,0,.str (Ab "small"),rfl,rfl,SqT.of hT,rfl,?_⟩)⟩;refine⟨_,rfl,.inl ⟨rfl,_,rfl,?_⟩⟩;rw[wne (x := "small") (y := "great") (by decide +kernel)];refine iteF ⟨_,rfl,.inl ⟨rfl,_,rfl,?_⟩⟩;rw[decide_eq_true rfl];refine iteT ⟨_,rfl,rfl,_,rfl,rfl,TX.small (by rw[q0n];lia),?_⟩;rw[lower14 hc];exact k
  |nou n v =>
   have hv:v<=9:=ok.2.2;refine⟨_,rfl,.inr (.inl ⟨T1,_,0,.str (Ab "noughts"),rfl,rfl,SqT.of hT,rfl,?_⟩)⟩;refine⟨_,rfl,.inl ⟨rfl,_,rfl,?_⟩⟩;rw[wne (x := "noughts") (y := "great") (by decide +kernel)];refine iteF ⟨_,rfl,.inl ⟨rfl,_,rfl,?_⟩⟩;rw[wne (x := "noughts") (y := "small") (by decide +kernel)];refine iteF ⟨_,rfl,.inl ⟨rfl,_,rfl,?_⟩⟩;rw[decide_eq_true rfl];exact iteT ⟨_,rfl,_,rfl,.inr (.inl ⟨T1,_,2,.int (v:Int),rfl,rfl,SqT.of hT,rfl,t,v,rfl,by lia,k⟩)⟩
  |more n m =>
   have hm9:m<10^9:=ok.2;obtain⟨q1,q2⟩:=hm n m rfl;have hd:=dv_lt t q2;have hd2:10^t.length<=10^12:=Fl (by decide) hl;refine⟨_,rfl,.inr (.inl ⟨T1,_,0,.str (Ab "more"),rfl,rfl,SqT.of hT,rfl,?_⟩)⟩;refine⟨_,rfl,.inl ⟨rfl,_,rfl,?_⟩⟩;rw[wne (x := "more") (y := "great") (by decide +kernel)];refine iteF ⟨_,rfl,.inl ⟨rfl,_,rfl,?_⟩⟩;rw[wne (x := "more") (y := "small") (by decide +kernel)];refine iteF ⟨_,rfl,.inl ⟨rfl,_,rfl,?_⟩⟩;rw[wne (x := "more") (y := "noughts") (by decide +kernel)];refine iteF ⟨_,rfl,.inl ⟨rfl,_,rfl,?_⟩⟩;rw[decide_eq_true rfl];refine iteT ⟨_,rfl,.inr ⟨_,_,rfl,x0t q1 q2 hl,by rw[q0n];lia,?_⟩⟩;refine⟨_,rfl,.inr (.inl ⟨T1,_,2,.int (m:Int),rfl,rfl,SqT.of hT,rfl,.inl ⟨_,_,rfl,rfl,Eg t+m,rfl,by lia,?_⟩⟩)⟩;refine⟨_,rfl,_,_,rfl,⟨hs,rfl⟩,dg (Eg t+m),t.length,by rw[z1j,q0n];rfl,by lia,k⟩
structure CallsGT (P:Program) (w:World) (K:Af) (mg:Str->Option Value) (base:Heap):Prop where
 gap_text:Cal P w K mg base "gap_text" 2 ["piece", "text"] spGapText
 with_noughts:Cal P w K mg base "with_noughts" 1 ["text", "width"] spWN
def spPieceText:Sp:=fun vs H Q _=>∃T G p ts,∃cn:Nat,vs=[.ref T,.ref G,.int (cn:Int)]/\H T=some (.tup p.vs)/\p.ok/\pcI p=false/\H G=some (.lst (vN ts))/\GTx ts p/\cn<=10^12/\Q (.str (mk (pcText ts cn p))) H
theorem x3z{ts:List (List Nat)}{cn k:Nat}{p:Pc}(h:gapNo p=some k):pcText ts cn p=gapG p (ts.getD (k-1) []):=by
 cases p<;>first|(cases h;rfl)|cases h
theorem gap_vs{p:Pc}{k:Nat}(h:gapNo p=some k):∃(w:String) (r:List V),p.vs=.str (Ab w)::.int (k:Int)::r/\(Ab w==Ab "text")=false/\(Ab w==Ab "count")=false:=by
 cases p with
 |tx l=>cases h
 |cnt v=>cases h
 |into=>cases h
 |gap n=>cases h;exact⟨"gap",[],rfl,by decide +kernel,by decide +kernel⟩
 |great n=>cases h;exact⟨"great",[],rfl,by decide +kernel,by decide +kernel⟩
 |small n=>cases h;exact⟨"small",[],rfl,by decide +kernel,by decide +kernel⟩
 |nou n v=>cases h;exact⟨"noughts",_,rfl,by decide +kernel,by decide +kernel⟩
 |more n v=>cases h;exact⟨"more",_,rfl,by decide +kernel,by decide +kernel⟩
abbrev q3q:Stmt:=top 50
theorem sc_piece_text:FnScope ["piece", "gap_texts", "count", "sort"] ["piece", "gap_texts", "count"] (defScope q3q):=by trivial
theorem q9v(D:Df K mg "piece_text" q3q ["piece", "gap_texts", "count"])(T:Txt mg)(C:CallsGT P w K mg base):Cal P w K mg base "piece_text" 3 ["piece", "gap_texts", "count"] spPieceText:=by
 refine D.cal sc_piece_text (fun vs H Q E h=>?_) (fun f cdv A outer s H vs Q E hr h=>?_)
 ·obtain⟨T1,G,p,ts,cn,rfl,_⟩:=h;rfl
 ·obtain⟨T1,G,p,ts,cn,rfl,hT,ok,hpi,hG,gt,hcn,k⟩:=h;refine⟨_,(q0b (q0i (i:=3) sc_piece_text.nd rfl (by trivial) (q1a (ix_k K rfl) (pv 0) q0f (fun _ _=>rfl))) (q0b (q0w (q0h (eq_k K rfl hr) (pv 3) q0g (nomark _)) (q0d (q0o (q1a (ix_k K rfl) (pv 0) q0f (fun _ _=>rfl)))) q0j) (q0b (q0w (q0h (eq_k K rfl hr) (pv 3) q0g (nomark _)) (q0d (q0o (pe_c C.with_noughts hr (q0a (q1e q7h (by rfl) T.b_str (by decide +kernel) (q0a (pv 2) q0c)) (q0a (q1a (ix_k K rfl) (pv 0) q0f (fun _ _=>rfl)) q0c))))) q0j) (q0d (q0o (pe_c C.gap_text hr (q0a (pv 0) (q0a (q1a (ix_k K rfl) (pv 1) (q0u z0q (q1a (ix_k K rfl) (pv 0) q0f (fun _ _=>rfl)) q0f) (fun _ _=>rfl)) q0c)))))))),?_⟩;cases hgn:gapNo p with
  |none =>
   cases p with
   |gap n=>cases hgn
   |great n=>cases hgn
   |small n=>cases hgn
   |nou n v=>cases hgn
   |more n v=>cases hgn
   |into=>cases hpi
   |tx t =>
    refine⟨_,rfl,.inr (.inl ⟨T1,_,0,.str (Ab "text"),rfl,rfl,SqT.of hT,rfl,?_⟩)⟩;refine⟨_,rfl,.inl ⟨rfl,_,rfl,?_⟩⟩;rw[decide_eq_true rfl];exact iteT ⟨_,rfl,.inr (.inl ⟨T1,_,1,_,rfl,rfl,SqT.of hT,rfl,k⟩)⟩
   |cnt v =>
    have hv:v<=9:=ok.2;refine⟨_,rfl,.inr (.inl ⟨T1,_,0,.str (Ab "count"),rfl,rfl,SqT.of hT,rfl,?_⟩)⟩;refine⟨_,rfl,.inl ⟨rfl,_,rfl,?_⟩⟩;rw[wne (x := "count") (y := "text") (by decide +kernel)];refine iteF ⟨_,rfl,.inl ⟨rfl,_,rfl,?_⟩⟩;rw[decide_eq_true rfl];exact iteT ⟨_,rfl,cn,rfl,by lia,_,rfl,.inr (.inl ⟨T1,_,1,.int (v:Int),rfl,rfl,SqT.of hT,rfl,dg cn,v,by rw[z1j];rfl,by lia,k⟩)⟩
  |some n =>
   obtain⟨h1,h2⟩:=gt.gp n hgn;obtain⟨w0,r0,ev,n1,n2⟩:=gap_vs hgn;have hT':=hT;rw[ev] at hT';refine⟨_,rfl,.inr (.inl ⟨T1,_,0,.str (Ab w0),rfl,rfl,SqT.of hT',q1g (j:=0) rfl,?_⟩)⟩;refine⟨_,rfl,.inl ⟨rfl,_,rfl,?_⟩⟩;rw[wne n1];refine iteF ⟨_,rfl,.inl ⟨rfl,_,rfl,?_⟩⟩;rw[wne n2];have hlt:n-1<ts.length:=by lia
   have eg:ts.getD (n-1) []=ts[n-1]:=by rw[Ex,Aw hlt];rfl
   have hat:atI (vN ts) ((n:Int)-1)=some (.str (mk (ts.getD (n-1) []))):=by
    have e:((n:Int)-1)=((n-1:Nat):Int):=by lia
    rw[e];refine q1g ?_;rw[Bk,Aw (by lia)];simp[Ex,Aw (show n-1<ts.length by lia)]
   have htx:=gt.tx (ts.getD (n-1) []) (by rw[eg];exact List.getElem_mem hlt);refine iteF ⟨_,rfl,_,rfl,_,rfl,.inr (.inl ⟨T1,_,1,.int (n:Int),rfl,rfl,SqT.of hT',q1g (j:=1) rfl,_,_,rfl,rfl,.inl ⟨G,_,_,_,rfl,rfl,SqL.of hG,hat,T1,p,_,rfl,hT,ok,by rw[hgn];simp,htx.1,htx.2,fun k' m z=>?_,?_⟩⟩)⟩
   ·have e2:k'=n:=by rw[z] at hgn;exact Cg hgn
    have:=gt.mo k' m z;rw[e2] at this;exact this
   ·rw[<- x3z hgn];exact k
structure CallsTl (P:Program) (w:World) (K:Af) (mg:Str->Option Value) (base:Heap):Prop where
 ask_rule:Cal P w K mg base "ask_rule" 7 ["rule"] (spAskRule K)
 reading:Cal P w K mg base "reading" 6 ["pattern", "name"] spReading
 pieces_of:Cal P w K mg base "pieces_of" 6 ["template"] spPieces
 piece_text:Cal P w K mg base "piece_text" 3 ["piece", "gap_texts", "count"] spPieceText
def stepT(ts:List (List Nat))(cn:Nat)(acc:List (List Nat))(p:Pc):List (List Nat):=if pcI p then acc++[[]] else acc.dropLast++[acc.getLast?.getD []++pcText ts cn p]
def tellT(ts:List (List Nat))(cn:Nat)(qs:List Pc):List (List Nat):=qs.foldl (stepT ts cn) [[]]
theorem q3f(ts:List (List Nat))(cn:Nat)(qs:List Pc)(p:Pc):tellT ts cn (qs++[p])=stepT ts cn (tellT ts cn qs) p:=by simp[tellT]
theorem z6c(ts:List (List Nat))(cn:Nat)(acc:List (List Nat))(p:Pc):∃i l,stepT ts cn acc p=i++[l]:=by
 unfold stepT;split
 ·exact⟨_,_,rfl⟩
 ·exact⟨_,_,rfl⟩
theorem z6d(ts:List (List Nat))(cn:Nat)(qs:List Pc):∃i l,tellT ts cn qs=i++[l]:=by
 by_cases h:qs=[]
 ·subst h;exact⟨[],[],rfl⟩
 ·rw[<- Cv h,q3f];exact z6c _ _ _ _
theorem q8r(ts:List (List Nat))(cn:Nat)(i:List (List Nat)):stepT ts cn i .into=i++[[]]:=rfl
theorem q4s{ts:List (List Nat)}{cn:Nat}{i:List (List Nat)}{l:List Nat}{p:Pc}(h:pcI p=false):stepT ts cn (i++[l]) p=i++[l++pcText ts cn p]:=by
 unfold stepT;rw[if_neg (by rw[h];decide)];simp
theorem z8n(ts:List (List Nat))(cn:Nat)(acc:List (List Nat))(p:Pc):(stepT ts cn acc p).length<=acc.length+1:=by
 unfold stepT;split
 ·rw[Ad];exact Aj _
 ·rw[Ad,Pa];simp
theorem z1x(ts:List (List Nat))(cn:Nat):∀(qs:List Pc) (acc:List (List Nat)),(qs.foldl (stepT ts cn) acc).length<=acc.length+qs.length
 |[],acc=>Aj _
 |q::r,acc=>by
  have h1:=z1x ts cn r (stepT ts cn acc q);have h2:=z8n ts cn acc q;rw[Fj,Av];lia
theorem z8o(ts:List (List Nat))(cn:Nat)(qs:List Pc):(tellT ts cn qs).length<=qs.length+1:=by
 have:=z1x ts cn qs [[]];unfold tellT;simp only[Bg] at this;lia
def spTells(K:Af):Sp:=fun vs H Q _=>∃R kd l qs st n,∃cn:Nat,vs=[.ref R,.str (mk n),.int (cn:Int)]/\RuleAt K H R kd l qs st/\n.length<=12/\(∀t∈rd n (parse [] l) 0,∀c∈t,c<128)/\cn<=10^12/\(fits n (parse [] l) 0=false->∀H',Same H H'->Q .non H') /\
 (fits n (parse [] l) 0=true->∀T H',H T=none->Same H H'->H' T=some (.tup (vN (tellT (rd n (parse [] l) 0) cn qs)))->Q (.ref T) H')
theorem x4a{n:List Nat}{b e c:Nat}(h:c∈cut n b e):c∈n:=List.mem_of_mem_drop (Em h)
theorem z8p{n:List Nat}:∀(ps:List Pt) (b:Nat),∀t∈rd n ps b,∀c∈t,c∈n
 |[],_,_,h=>by cases h
 |p::ps,b,t,h=>by
  rcases Az.mp h with z|z
  ·split at z
   ·rw[Al.mp z];exact fun c hc=>x4a hc
   ·cases z
  ·exact z8p ps _ t z
theorem wr_le{qs:List Pc}{q:Pc}(h:q∈qs):q.wr.length<=(flatP qs).length:=by
 induction qs with
 |nil=>cases h
 |cons p r ih =>
  rw[q0x,Ad];rcases Ap.mp h with rfl|h
  ·lia
  ·have:=ih h;lia
theorem z6e{p:Pc}(h:pcI p=false):p≠.into:=fun z=>by subst z;cases h
theorem z8q(w:Nat)(t:List Nat):(wn w t).length<=w+t.length:=by unfold wn;rw[Ad,Kb];lia
theorem x4b{ts:List (List Nat)}{cn:Nat}{p:Pc}(ho:p.ok)(hc:cn<=10^12)(h1:∀t∈ts,t.length<=12)(h2:p.wr.length<=100)(hg:gapNo p≠none->GTx ts p):(pcText ts cn p).length<=100:=by
 have hd:∀k,(ts.getD (k-1) []).length<=12:=by
  intro k;rw[Ex];cases hz:ts[k-1]? with
  |none=>simp
  |some t=>exact h1 t (As hz)
 cases p with
 |tx t=>exact h2
 |gap k=>have:=hd k;show(ts.getD (k-1) []).length<=100;lia
 |great k=>have:=hd k;show((ts.getD (k-1) []).map _).length<=100;rw[Ag];lia
 |small k=>have:=hd k;show((ts.getD (k-1) []).map _).length<=100;rw[Ag];lia
 |nou k w =>
  have:=hd k;have h3:=z8q w (ts.getD (k-1) []);have:w<=9:=ho.2.2;show(wn w (ts.getD (k-1) [])).length<=100;lia
 |more k m =>
  have h0:=hd k;have h3:=z8q (ts.getD (k-1) []).length (dg (Eg (ts.getD (k-1) [])+m));have hm:m<10^9:=ho.2;obtain⟨q1,q2⟩:=(hg (by simp[gapNo])).mo k m rfl;have h4:=dv_lt (ts.getD (k-1) []) q2;have h5:10^(ts.getD (k-1) []).length<=10^12:=Fl (by decide) h0;have h6:=q3z 13 (Eg (ts.getD (k-1) [])+m) (by lia);show(wn _ _).length<=100;lia
 |cnt w =>
  have:w<=9:=ho.2;have h3:=z8q w (dg cn);have h6:=q3z 13 cn (by lia);show(wn w (dg cn)).length<=100;lia
 |into=>exact Ax _
theorem neg_at(i:List (List Nat))(l:List Nat):atI (vN (i++[l])) (-1)=some (.str (mk l)):=by
 have e:vN (i++[l])=vN i++[V.str (mk l)]:=by show(i++[l]).map _=_;rw[Bf];rfl
 rw[e];unfold atI ixN;rw[if_neg (by decide),if_pos (by rw[Ad,Bg];lia)];have h:((-1:Int)+((vN i++[V.str (mk l)]).length:Int)).toNat=(vN i).length:=by rw[Ad,Bg];lia
 show(vN i++[V.str (mk l)])[((-1:Int)+((vN i++[V.str (mk l)]).length:Int)).toNat]?=_;rw[h,Bp (Aj _),Kt];rfl
theorem neg_ix(i:List (List Nat))(l:List Nat):ixN (vN (i++[l])).length (-1)=some i.length:=by
 unfold ixN;rw[if_neg (by decide),Ag,Ad,Bg,if_pos (by lia)];congr 1;lia
theorem x0u(i:List (List Nat))(l m:List Nat):(vN (i++[l])).set i.length (.str (mk m))=vN (i++[m]):=by
 show((i++[l]).map _).set _ _=(i++[m]).map _;rw[Bf,Bf,List.set_append_right _ _ (by rw[Ag];exact Aj _),Ag,Kt];rfl
abbrev q9w:Stmt:=top 51
theorem sc_tells:FnScope ["rule", "name", "count", "gap_texts", "texts", "piece"] ["rule", "name", "count"] (defScope q9w):=by trivial
theorem x0v(D:Df K mg "tells" q9w ["rule", "name", "count"])(T:Txt mg)(C:CallsTl P w K mg base):Cal P w K mg base "tells" 8 ["rule", "name", "count"] (spTells K):=by
 refine D.cal sc_tells (fun vs H Q E h=>?_) (fun f cdv A outer s H vs Q E hr h=>?_)
 ·obtain⟨R,kd,l,qs,st,n,cn,rfl,_⟩:=h;rfl
 ·obtain⟨R,kd,l,qs,st,n,cn,rfl,ru,hnl,hnc,hcn,kN,kS⟩:=h;refine⟨_,(q0b (q0v (pe_c C.ask_rule hr (q0a (pv 0) q0c))) (q0b (q0i (i:=3) sc_tells.nd rfl (by trivial) (pe_c C.reading hr (q0a (q1a (ix_k K rfl) (pv 0) q0f (fun _ _=>rfl)) (q0a (pv 1) q0c)))) (q0b (q0w (z6o (pc_isN (pv 3))) (q0d (q0o x1m)) q0j) (q0b (q0i (i:=4) sc_tells.nd rfl (by trivial) (q1r (q0a q0g q0c))) (q0b (q1h Bo rfl (@q2t _ _ _ _ K rfl (pe_c C.pieces_of hr (q0a (q1a (ix_k K rfl) (pv 0) q0f (fun _ _=>rfl)) q0c))) (q0l (i:=5) sc_tells.nd rfl (by trivial)) (q0d (q0w (q0h (eq_k K rfl hr) (pv 5) (q0q (q0a q0g q0c)) (nomark _)) (q0d (q0v (@bm_k _ _ _ _ _ _ _ _ _ _ _ _ K rfl Bs Dc Dd q1m (pv 4) (q0a q0g q0c) (by rfl) (by rfl) (by rfl) (by rfl) (by rfl)))) (q0d (x2t (pv 4) (z9s z3t q0f) (get_k K rfl) (pe_c C.piece_text hr (q0a (pv 5) (q0a (pv 3) (q0a (pv 2) q0c)))) q4l q6l))))) (q0d (q0o (q1e (x3f K rfl) (by rfl) T.b_tuple (by decide +kernel) (q0a (pv 4) q0c))))))))),?_⟩;refine⟨_,rfl,R,kd,l,qs,st,rfl,ru,fun H1 sm1=>?_⟩;have ru1:=ru.same sm1;refine⟨_,rfl,.inr (.inl ⟨R,_,1,_,rfl,rfl,SqT.of ru1.at_,rfl,_,rfl,l,n,rfl,ru.good,by lia,fun hf H2 sm2=>?_,fun hfit G H2 hG sm2 hG2=>?_⟩)⟩
  ·exact⟨_,rfl,true,rfl,iteT (kN hf _ (sm1.trans sm2))⟩
  obtain⟨rc1,rc2,rc3,rc4⟩:=x1t n (parse [] l) 0 hfit;have k:=kS hfit;generalize hts:rd n (parse [] l) 0=ts at *;refine⟨_,rfl,false,rfl,iteF ?_⟩;refine⟨by show 1<=sizeLine;decide,fun L hL=>?_⟩;have e0:Ab "" = mk []:=by decide +kernel
  have s3:=(Same.refl H2).new (o:=.lst [.str (Ab "")]) hL;have ru3:=(ru1.same sm2).same s3;refine⟨_,rfl,.inr (.inl ⟨R,_,2,_,rfl,rfl,SqT.of ru3.at_,rfl,qs,rfl,ru.wp,fun M H4 hM sm4 hp4=>.inl ⟨M,rfl,hp4.sq,?_⟩⟩)⟩;obtain⟨Us,u1,u2⟩:=hp4.ex;have hUl:=u2.len;have hwl:=Aq (show qs.length<=(flatP qs).length from by
   have:∀qs:List Pc,(∀p∈qs,p.ok)->qs.length<=(flatP qs).length:=by
    intro qs;induction qs with
    |nil=>intro _;exact Aj _
    |cons q r ih =>
     intro hq;have h1:=ih fun p hp=>hq p (Am _ hp);have h2:=De.mpr (z8l (hq q Ao));rw[q0x,Ad,Av];lia
   exact this qs ru.wp.ok) ru.wp.sz
  have sA:=(sm1.trans sm2)
  have hLM:M≠L:=fun z=>by rw[z,q0e] at hM;cases hM
  have hLG:G≠L:=fun z=>by rw[z] at hG2;rw[hG2] at hL;cases hL
  have hG4:H4 G=some (.lst (vN ts)):=sm4 _ _ (s3 _ _ hG2);refine q2i (xs:=Us.map V.ref) (fun i σ' H'=>∃x5,σ'=[some (.ref R),some (.str (mk n)),some (.int (cn:Int)),some (.ref G),some (.ref L),x5]/\Same H2 H'/\H' L=some (.lst (vN (tellT ts cn (qs.take i))))/\(∀T xs,H4 T=some (.tup xs)->H' T=some (.tup xs))/\H' M=some (.lst (Us.map V.ref))/\H' G=some (.lst (vN ts))/\(∀t∈tellT ts cn (qs.take i),t.length<=100*i)/\i<=qs.length)
   ⟨none,rfl,s3.trans sm4,by rw[Jl];show H4 L=some (.lst [.str (mk [])]);rw[<- e0];exact sm4 _ _ q0e,fun _ _ e=>e,u1,hG4,fun t ht=>(by rw[Jl] at ht;rw[Al.mp ht];exact Ax _),Ax _⟩ (fun i σ' H' _ ⟨_,_,_,_,_,e,_⟩=>SqL.of e) ?_ ?_
  ·rintro i x σ' H' hx ⟨x5,rfl,sm5,hL5,kt,hM5,hG5,hlen,hi⟩;obtain⟨T1,hT1,rfl⟩:∃T,Us[i]?=some T/\x=.ref T:=by
    rw[Bk] at hx;cases hz:Us[i]? with
    |none=>rw[hz] at hx;cases hx
    |some T=>rw[hz] at hx;cases hx;exact⟨T,rfl,rfl⟩
   obtain⟨p,hp1,ht⟩:=u2.get hT1;have hpm:=As hp1;have hi':=(Ai.mp hp1).1;have etk:qs.take (i+1)=qs.take i++[p]:=by rw[Hr,hp1];rfl
   have htl:=z8o ts cn (qs.take i);rw[Bt] at htl;refine⟨_,rfl,by show 1<=sizeLine;decide,fun E0 hE0=>?_⟩;have sE:=(Same.refl H').new (o:=.tup [.str (Ab "into")]) hE0;have keepL:∀(ys:List V) (T2:Addr) (xs:List V),H4 T2=some (.tup xs)->upd (upd H' E0 (.tup [.str (Ab "into")])) L (.lst ys) T2=some (.tup xs):=by
    intro ys T2 xs e;have:=sE _ _ (kt _ _ e);rw[q0m (fun z=>by rw[z,sE _ _ hL5] at this;cases this)];exact this
   refine .inr ⟨_,_,.tup (SqT.of (sE _ _ (kt _ _ ht))) (Pc.dts _),.tup (SqT.of q0e) (.cons (.str _) .nil),Pc.lay (ru.wp.ok _ hpm),by decide +kernel,?_,_,rfl,?_⟩
   ·refine Aq (Ih _ _) ?_;decide +kernel
   by_cases hpi:pcI p=true
   ·have hpe:p=.into:=by cases p<;>first|rfl|cases hpi
    subst hpe;rw[show Dr (.tuple (Pc.ds .into)) (.tuple [.str (Ab "into")])=true from by decide +kernel];refine iteT ?_;refine⟨_,rfl,.inl ⟨rfl,⟨_,SqL.of (sE _ _ hL5)⟩⟩,L,_,_,rfl,rfl,sE _ _ hL5,by rw[Ag];exact TX.small' (by lia),?_⟩;have eL:vN (tellT ts cn (qs.take i))++[V.str (Ab "")]=vN (tellT ts cn (qs.take (i+1))):=by
     rw[etk,q3f,q8r,e0];show _=(_++[[]]).map _;rw[Bf];rfl
    refine⟨_,rfl,(sm5.new hE0).put hL,by rw[q0e,eL],keepL _,by rw[q0m hLM];exact sE _ _ hM5,by rw[q0m hLG];exact sE _ _ hG5,fun t htm=>?_,hi'⟩;rw[etk,q3f,q8r] at htm;rcases Az.mp htm with z|z
    ·have:=hlen t z;lia
    ·rw[Al.mp z];exact Ax _
   ·have hpi':pcI p=false:=by simpa using hpi
    rw[q9u (z6e hpi')];refine iteF ?_;have ao:=ru.ask p hpm;have gtx:GTx ts p:=⟨fun kk hkk=>⟨(ao.gp kk hkk).1,by rw[rc1];exact(ao.gp kk hkk).2⟩,fun t ht=>⟨Aq (rc4 t ht) hnl,hnc t ht⟩,fun kk m hz=>by
     have hg:=ao.mo kk m hz;obtain⟨o1,o2⟩:=ao.gp kk (by rw[hz];rfl);have hlt:kk-1<ts.length:=by rw[rc1];lia
     have e:ts.getD (kk-1) []=ts[kk-1]:=by rw[Ex,Aw hlt];rfl
     have:=rc2 (kk-1) 35 ts[kk-1] hg (Aw hlt);unfold gapTakes at this;rw[if_neg (by decide),if_pos rfl] at this;rw[e];exact allOf_iff.mp this⟩
    obtain⟨ini,la,hil⟩:=z6d ts cn (qs.take i);rw[hil] at hL5 hlen;refine⟨_,rfl,_,rfl,L,_,-1,_,rfl,rfl,SqL.of (sE _ _ hL5),neg_at ini la,?_⟩;refine⟨_,rfl,_,rfl,_,rfl,T1,G,p,ts,cn,rfl,sE _ _ (kt _ _ ht),ru.wp.ok _ hpm,hpi',sE _ _ hG5,gtx,hcn,?_⟩;have hpt:=x4b (cn:=cn) (ru.wp.ok _ hpm) hcn (fun t ht=>Aq (rc4 t ht) hnl) (Aq (wr_le hpm) ru.wp.sz) fun _=>gtx
    have hla:=hlen la (by simp);refine⟨_,_,rfl,rfl,TX.small (by rw[q0n,q0n];lia),L,_,_,_,rfl,rfl,sE _ _ hL5,neg_ix ini la,?_⟩;rw[x0s,x0u];refine⟨_,rfl,(sm5.new hE0).put hL,?_,keepL _,by rw[q0m hLM];exact sE _ _ hM5,by rw[q0m hLG];exact sE _ _ hG5,fun t htm=>?_,hi'⟩
    ·rw[q0e,etk,q3f,hil,q4s hpi']
    ·rw[etk,q3f,hil,q4s hpi'] at htm;rcases Az.mp htm with z|z
     ·have:=hlen t (Co _ z);lia
     ·rw[Al.mp z,Ad];lia
  ·rintro σ' H' ⟨x5,rfl,sm5,hL5,kt,hM5,hG5,hlen,hi⟩;rw[Ag,hUl,Cc] at hL5;refine⟨_,rfl,L,_,rfl,.inl ⟨SqL.of hL5,fun T5 hT5=>?_⟩⟩;exact k T5 _ (sA.free (sm5.free hT5)) ((sA.trans sm5).new hT5) q0e
structure RD where
 kd:Str
 l:List Nat
 qs:List Pc
 st:Nat
def pcB:Pc->Nat
 |.tx l=>l.length
 |.into=>0
 |_=>13
def wsz(qs:List Pc):Nat:=(qs.map pcB).sum
structure ROk (r:RD):Prop where
 st:r.st<=1000000000
 io:(r.qs.filter pcI).length<=10
 nm:∀q∈r.qs,isMo q=false
 pk:∀q∈r.qs,q.ok
 sz:wsz r.qs<=100
def tellO(r:RD)(n:List Nat)(cn:Nat):Option (List (List Nat)):=if fits n (parse [] r.l) 0 then some (tellT (rd n (parse [] r.l) 0) cn r.qs) else none
def TsOk(ts:List (List Nat)):Prop:=ts≠[]/\ts.length<=20/\∀t∈ts,t.length<=100/\∀c∈t,c∈NS
theorem x2f{w c:Nat}{t:List Nat}(h:c∈wn w t):c=48\/c∈t:=by
 unfold wn at h;rcases Az.mp h with z|z
 ·exact .inl (List.eq_of_mem_replicate z)
 ·exact .inr z
theorem wn_le{w n:Nat}{t:List Nat}(h1:w<=n)(h2:t.length<=n):(wn w t).length<=n:=by
 unfold wn;rw[Ad,Kb];lia
theorem fi_ns:∀c∈FI,c∈NS:=by decide +kernel
theorem up_ns:∀c∈NS,up1 c∈NS:=by decide +kernel
theorem lo_ns:∀c∈NS,lo1 c∈NS:=by decide +kernel
theorem x4c{ts:List (List Nat)}{k:Nat}{Pp:List Nat->Prop}(h:∀t∈ts,Pp t)(h0:Pp []):Pp (ts.getD k []):=by
 rw[Ex];cases hz:ts[k]? with
 |none=>exact h0
 |some t=>exact h t (As hz)
theorem pct_ok{ts:List (List Nat)}{cn:Nat}{p:Pc}(ho:p.ok)(hc:cn<=10^12)(hm:isMo p=false)(hi:pcI p=false)(h:∀t∈ts,t.length<=12/\∀c∈t,c∈NS):(pcText ts cn p).length<=pcB p/\∀c∈pcText ts cn p,c∈NS:=by
 have g:∀k,(ts.getD k []).length<=12/\∀c∈ts.getD k [],c∈NS:=fun k=>x4c (Pp:=fun t=>t.length<=12/\∀c∈t,c∈NS) h ⟨Ax _,fun _ h=>nomatch h⟩;cases p with
 |into=>cases hi
 |more k m=>cases hm
 |tx t=>exact⟨Aj _,ho.2⟩
 |gap k=>exact⟨Aq (g (k-1)).1 (by show 12<=13;decide),(g (k-1)).2⟩
 |great k =>
  refine⟨?_,fun c hc=>?_⟩
  ·show((ts.getD (k-1) []).map up1).length<=13;have:=(g (k-1)).1;rw[Ag];lia
  ·obtain⟨x,hx,rfl⟩:=Ci.mp (show c∈(ts.getD (k-1) []).map up1 from hc);exact up_ns _ ((g (k-1)).2 x hx)
 |small k =>
  refine⟨?_,fun c hc=>?_⟩
  ·show((ts.getD (k-1) []).map lo1).length<=13;have:=(g (k-1)).1;rw[Ag];lia
  ·obtain⟨x,hx,rfl⟩:=Ci.mp (show c∈(ts.getD (k-1) []).map lo1 from hc);exact lo_ns _ ((g (k-1)).2 x hx)
 |nou k v =>
  have hv:v<=9:=ho.2.2;have:=(g (k-1)).1;refine⟨wn_le (n:=13) (by lia) (by lia),fun c hc=>?_⟩;rcases x2f (show c∈wn v (ts.getD (k-1) []) from hc) with rfl|z
  ·decide +kernel
  ·exact(g (k-1)).2 c z
 |cnt v =>
  have hv:v<=9:=ho.2;have:=q3z 12 cn (by lia);refine⟨wn_le (n:=13) (by lia) (by lia),fun c hc=>?_⟩;rcases x2f (show c∈wn v (dg cn) from hc) with rfl|z
  ·decide +kernel
  ·exact fi_ns _ (z4j cn c z)
theorem z3g{ts:List (List Nat)}{cn:Nat}(hc:cn<=10^12)(h:∀t∈ts,t.length<=12/\∀c∈t,c∈NS):∀{qs:List Pc} {acc:List (List Nat)} {n:Nat},(∀q∈qs,q.ok/\isMo q=false)->acc≠[]->(∀t∈acc,t.length<=n/\∀c∈t,c∈NS) ->
  qs.foldl (stepT ts cn) acc≠[]/\(qs.foldl (stepT ts cn) acc).length<=acc.length+(qs.filter pcI).length/\∀t∈qs.foldl (stepT ts cn) acc,t.length<=n+wsz qs/\∀c∈t,c∈NS
 |[],acc,n,_,h0,ha=>⟨h0,Aj _,ha⟩
 |q::qs,acc,n,hq,h0,ha=>by
  obtain⟨o1,o2⟩:=hq q Ao;have hq':=fun p hp=>hq p (Am _ hp)
  rw[Fj];have hw:wsz (q::qs)=pcB q+wsz qs:=rfl;cases hi:pcI q with
  |true =>
   have es:stepT ts cn acc q=acc++[[]]:=by unfold stepT;rw[if_pos hi]
   obtain⟨a,b,c⟩:=z3g hc h (qs:=qs) (acc:=acc++[[]]) (n:=n) hq' (by simp) (fun t ht=>by
    rcases Az.mp ht with z|z
    ·exact ha t z
    ·rw[Al.mp z];exact⟨Ax _,fun _ h=>nomatch h⟩)
   rw[es];refine⟨a,?_,fun t ht=>⟨by have:=(c t ht).1;lia,(c t ht).2⟩⟩;rw[Ad,Bg] at b;rw[Ey,if_pos hi,Av];lia
  |false =>
   obtain⟨d,e⟩:=pct_ok (cn:=cn) o1 hc o2 hi h;obtain⟨ini,la,rfl⟩:∃i l,acc=i++[l]:=⟨acc.dropLast,acc.getLast h0,(Cv h0).symm⟩
   rw[q4s hi];obtain⟨a,b,c⟩:=z3g hc h (qs:=qs) (acc:=ini++[la++pcText ts cn q]) (n:=n+pcB q) hq' (by simp) (fun t ht=>by
    rcases Az.mp ht with z|z
    ·have:=ha t (Co _ z);exact⟨by lia,this.2⟩
    ·rw[Al.mp z];have:=ha la (by simp);exact⟨by rw[Ad];lia,fun x hx=>(Az.mp hx).elim (this.2 x) (e x)⟩)
   refine⟨a,?_,fun t ht=>⟨by have:=(c t ht).1;lia,(c t ht).2⟩⟩;rw[Ad,Bg] at b ⊢;rw[Ey,hi];simpa using b
theorem x2g{n:List Nat}:∀(ps:List Pt) (b:Nat),∀t∈rd n ps b,t.length<=n.length
 |[],_,_,h=>by cases h
 |p::ps,b,t,h=>by
  unfold rd at h;rcases Az.mp h with z|z
  ·split at z
   ·rw[Al.mp z];unfold cut;rw[Bt,Cf];lia
   ·cases z
  ·exact x2g ps _ t z
theorem x0w{r:RD}{n:List Nat}{cn:Nat}{ts:List (List Nat)}(ok:ROk r)(hn:n.length<=12/\∀c∈n,c∈NS)(hc:cn<=10^12)(h:tellO r n cn=some ts):TsOk ts:=by
 unfold tellO at h;split at h
 ·obtain⟨a,b,c⟩:=z3g hc (ts:=rd n (parse [] r.l) 0) (fun t ht=>⟨Aq (x2g _ _ t ht) hn.1,fun c hc=>hn.2 c (z8p _ _ t ht c hc)⟩) (qs:=r.qs) (acc:=[[]]) (n:=0) (fun q hq=>⟨ok.pk q hq,ok.nm q hq⟩) (by simp) (fun t ht=>by rw[Al.mp ht];exact⟨Aj _,fun _ h=>nomatch h⟩);cases h;refine⟨a,Aq b (by have:=ok.io;show 1+_<=_;lia),fun t ht=>⟨by have:=(c t ht).1;have:=ok.sz;lia,(c t ht).2⟩⟩
 ·cases h
def isCn:Pc->Bool
 |.cnt _=>true
 |_=>false
def ptx:Pt->List Nat
 |.tx t=>t
 |.gp _=>[]
def pcx:Pc->List Nat
 |.tx t=>t
 |.nou _ _=>[48]
 |_=>[]
def txO(r:RD):List Nat:=((parse [] r.l).map ptx).flatten++(r.qs.map pcx).flatten
def nmd(t:List Nat):List Nat:=NS.filter fun c=>decide (lo1 c∈t.map lo1)
structure CRule (K:Af) (H:Hp) (R:Addr) (r:RD):Prop where
 at_:RuleAt K H R r.kd r.l r.qs (r.st:Int)
 ok:ROk r
 nc:∀q∈r.qs,isCn q=false
 tx:(txO r).length<=1000
theorem CRule.same{H H':Hp}{R:Addr}{r:RD}(h:CRule K H R r)(s:Same H H'):CRule K H' R r:=⟨h.at_.same s,h.ok,h.nc,h.tx⟩
structure CallsAP (P:Program) (w:World) (K:Af) (mg:Str->Option Value) (base:Heap):Prop where
 pieces_of:Cal P w K mg base "pieces_of" 6 ["template"] spPieces
 parts_of:Cal P w K mg base "parts_of" 2 ["pattern"] spPartsOf
def spAP(K:Af):Sp:=fun vs H Q _=>∃R r,vs=[.ref R]/\CRule K H R r/\∀H',Same H H'->Q .non H'
theorem wd_pc(p:Pc):∃x r,p.vs=.str x::r/\(inV (.str x) [.str (Ab "more"),.str (Ab "count")]=(isMo p||isCn p)):=by
 cases p<;>refine⟨_,_,rfl,?_⟩<;>first|(show _=false;decide +kernel)|(show _=true;decide +kernel)
abbrev q2m:Stmt:=top 55
theorem sc_ask_pieces:FnScope ["rule", "piece"] ["rule"] (defScope q2m):=by trivial
theorem q9x(D:Df K mg "ask_pieces" q2m ["rule"])(T:Txt mg)(C:CallsAP P w K mg base):Cal P w K mg base "ask_pieces" 7 ["rule"] (spAP K):=by
 refine D.cal sc_ask_pieces (fun vs H Q E h=>?_) (fun f cdv A outer s H vs Q E hr h=>?_)
 ·obtain⟨R,r,rfl,_⟩:=h;rfl
 ·obtain⟨R,r,rfl,ru,k⟩:=h;refine⟨_,(q0d (q1h Bo rfl (@q2t _ _ _ _ K rfl (pe_c C.pieces_of hr (q0a (q1a (ix_k K rfl) (pv 0) q0f (fun _ _=>rfl)) q0c))) (q0l (i:=1) sc_ask_pieces.nd rfl (by trivial)) (q0d (q0w (q0h (in_k K rfl) (q1a (ix_k K rfl) (pv 1) q0f (fun _ _=>rfl)) (q0q (q0a q0g (q0a q0g q0c))) (by with_unfolding_all rfl)) (q0d q1s) q0j)))),?_⟩;refine⟨_,rfl,.inr (.inl ⟨R,_,2,_,rfl,rfl,SqT.of ru.at_.at_,q1g (j:=2) rfl,r.qs,rfl,ru.at_.wp,fun L H1 hL s1 hp=>?_⟩)⟩;obtain⟨Ts,t1,t2⟩:=hp.ex;refine .inl ⟨L,rfl,⟨_,SqL.of t1⟩,?_⟩;refine q2i (xs:=Ts.map V.ref) (fun i σ' H'=>∃x,σ'=[some (.ref R),x]/\Same H1 H') ⟨none,rfl,Same.refl _⟩ (fun i σ' H' _ x=>by obtain⟨_,_,s⟩:=x;exact SqL.of (s _ _ t1)) ?_ ?_
  ·rintro i x σ' H' hx ⟨y,rfl,s'⟩;rw[Bk] at hx;obtain⟨T1,hT1,rfl⟩:=Br.mp hx;obtain⟨p,hp1,hp2⟩:=t2.get hT1;obtain⟨wd,rs,e1,e2⟩:=wd_pc p;have hpm:=As hp1;refine⟨_,rfl,.inr (.inl ⟨T1,_,0,.str wd,rfl,rfl,SqT.of (s' _ _ hp2),by rw[e1];exact q1g (j:=0) rfl,?_⟩)⟩;refine⟨by show 2<=sizeLine;decide,fun U hU=>?_⟩;refine .inr ⟨U,_,rfl,.inr (SqT.of q0e),rfl,by decide +kernel,_,rfl,?_⟩;show if inV (.str wd) [.str (Ab "more"),.str (Ab "count")]=true then _ else _
   rw[e2,ru.ok.nm p hpm,ru.nc p hpm];exact iteF ⟨_,rfl,s'.new hU⟩
  ·rintro σ' H' ⟨y,rfl,s'⟩;exact k _ (s1.trans s')
structure PX (vs:List V) (t:List Nat):Prop where
 ex:∃x r,vs=.str x::r/\((decide (V.str x=V.str (Ab "text"))=true/\decide (V.str x=V.str (Ab "noughts"))=false/\r=[.str (mk t)])\/(decide (V.str x=V.str (Ab "text"))=false/\decide (V.str x=V.str (Ab "noughts"))=true/\t=[48])\/(decide (V.str x=V.str (Ab "text"))=false/\decide (V.str x=V.str (Ab "noughts"))=false/\t=[]))
theorem px_pt(p:Pt):PX p.vs (ptx p):=by
 cases p with
 |tx t=>exact⟨Ab "text",_,rfl,.inl ⟨by decide +kernel,by decide +kernel,rfl⟩⟩
 |gp c=>exact⟨Ab "gap",_,rfl,.inr (.inr ⟨by decide +kernel,by decide +kernel,rfl⟩)⟩
theorem px_pc(p:Pc):PX p.vs (pcx p):=by
 cases p with
 |tx t=>exact⟨_,_,rfl,.inl ⟨by decide +kernel,by decide +kernel,rfl⟩⟩
 |nou k w=>exact⟨_,_,rfl,.inr (.inl ⟨by decide +kernel,by decide +kernel,rfl⟩)⟩
 |_=>exact⟨_,_,rfl,.inr (.inr ⟨by decide +kernel,by decide +kernel,rfl⟩)⟩
theorem z8r{xs:List (List Nat)}{i:Nat}:((xs.take i).flatten).length<=xs.flatten.length:=by
 have e:xs.flatten=(xs.take i).flatten++(xs.drop i).flatten:=by rw[<- Fw,Ht]
 rw[e,Ad];lia
theorem q2d(x y:List Nat):mk x++mk y=mk (x++y):=by
 apply ext;rw[q2n,q0z,q0z,q0z]
def spTextOf(K:Af):Sp:=fun vs H Q _=>∃R r,vs=[.ref R]/\CRule K H R r/\∀H',Same H H'->Q (.str (mk (txO r))) H'
abbrev q5u:Stmt:=top 56
theorem sc_text_of:FnScope ["rule", "text", "part"] ["rule"] (defScope q5u):=by trivial
theorem z6f(D:Df K mg "text_of" q5u ["rule"])(T:Txt mg)(C:CallsAP P w K mg base):Cal P w K mg base "text_of" 7 ["rule"] (spTextOf K):=by
 refine D.cal sc_text_of (fun vs H Q E h=>?_) (fun f cdv A outer s H vs Q E hr h=>?_)
 ·obtain⟨R,r,rfl,_⟩:=h;rfl
 ·obtain⟨R,r,rfl,ru,k⟩:=h;refine⟨_,(q0b (q0i (i:=1) sc_text_of.nd rfl (by trivial) q0g) (q0b (q1h Bo rfl (@q2t _ _ _ _ K rfl (q0u q0k (pe_c C.parts_of hr (q0a (q1a (ix_k K rfl) (pv 0) q0f (fun _ _=>rfl)) q0c)) (pe_c C.pieces_of hr (q0a (q1a (ix_k K rfl) (pv 0) q0f (fun _ _=>rfl)) q0c)))) (q0l (i:=2) sc_text_of.nd rfl (by trivial)) (q1f (q0w (q0h (eq_k K rfl hr) (q1a (ix_k K rfl) (pv 2) q0f (fun _ _=>rfl)) q0g (nomark _)) (q0d (z0p (i:=1) sc_text_of.nd rfl (by trivial) (q1a (ix_k K rfl) (pv 2) q0f (fun _ _=>rfl)) q4l)) q0j) (q0d (q0w (q0h (eq_k K rfl hr) (q1a (ix_k K rfl) (pv 2) q0f (fun _ _=>rfl)) q0g (nomark _)) (q0d (z0p (i:=1) sc_text_of.nd rfl (by trivial) q0g q4l)) q0j)))) (q0d (q0o (pv 1))))),?_⟩;refine⟨_,rfl,.inr (.inl ⟨R,_,1,_,rfl,rfl,SqT.of ru.at_.at_,q1g (j:=1) rfl,r.l,rfl,ru.at_.good,fun L1 H1 hL1 s1 hp1=>?_⟩)⟩;have ru1:=ru.at_.same s1;refine⟨_,rfl,.inr (.inl ⟨R,_,2,_,rfl,rfl,SqT.of ru1.at_,q1g (j:=2) rfl,r.qs,rfl,ru1.wp,fun L2 H2 hL2 s2 hp2=>?_⟩)⟩;obtain⟨Ts,t1,t2⟩:=(hp1.same s2).ex;obtain⟨Us,u1,u2⟩:=hp2.ex;have hTl:=t2.len;have hUl:=u2.len;have hpl:=q5q r.l [];have hgl:=ru.at_.good.len;have hql:r.qs.length<=100:=by
   have:=ru.at_.wp.sz;have hq:∀qs:List Pc,(∀q∈qs,q.ok)->qs.length<=(flatP qs).length:=by
    intro qs;induction qs with
    |nil=>intro _;exact Ax _
    |cons q r ih =>
     intro hq;have h1:=De.mpr (z8l (hq q Ao));have h2:=ih fun x hx=>hq x (Am _ hx);rw[q0x,Ad,Av];lia
   exact Aq (hq r.qs ru.at_.wp.ok) this
  refine .inr (.inr ⟨L1,L2,_,_,rfl,rfl,t1,u1,small (by rw[Ag,Ag];lia),fun L3 hL3=>?_⟩);have s3:=(Same.refl H2).new (o:=.lst (Ts.map V.ref++Us.map V.ref)) hL3;have h3:upd H2 L3 (.lst (Ts.map V.ref++Us.map V.ref)) L3=some (.lst ((Ts++Us).map V.ref)):=by rw[q0e,Bf]
  generalize upd H2 L3 (.lst (Ts.map V.ref++Us.map V.ref))=H3 at s3 h3;have sA:=(s1.trans s2).trans s3;have hall:∀(i:Nat) (U:Addr),(Ts++Us)[i]?=some U->∃vs t,H3 U=some (.tup vs)/\PX vs t/\(((parse [] r.l).map ptx)++(r.qs.map pcx))[i]?=some t:=by
   intro i U hU;by_cases hi:i<Ts.length
   ·rw[Bj hi] at hU;obtain⟨_,p,ex,hp,hv⟩:=t2.get (show(Ts.map V.ref)[i]?=some (.ref U) by rw[Bk,hU];rfl);cases ex;exact⟨_,_,s3 _ _ hv,px_pt p,by rw[Bj (by rw[Ag,<- hTl];exact hi),Bk,hp];rfl⟩
   ·rw[Bp (by lia)] at hU;obtain⟨p,hp,hv⟩:=u2.get hU;exact⟨_,_,s3 _ _ hv,px_pc p,by rw[Bp (by rw[Ag];lia),Ag,<- hTl,Bk,hp];rfl⟩
  have etx:txO r=(((parse [] r.l).map ptx)++(r.qs.map pcx)).flatten:=by unfold txO;rw[Fw]
  have hsz:=ru.tx;rw[etx] at k hsz;have hll:(((parse [] r.l).map ptx)++(r.qs.map pcx)).length=(Ts++Us).length:=by rw[Ad,Ad,Ag,Ag];lia
  generalize ((parse [] r.l).map ptx)++(r.qs.map pcx)=xs at k hall hll hsz;refine .inl ⟨L3,rfl,⟨_,SqL.of h3⟩,?_⟩;refine q2i (xs:=(Ts++Us).map V.ref) (fun i σ' H'=>(∃x,σ'=[some (.ref R),some (.str (mk ((xs.take i).flatten))),x])/\H'=H3) ⟨⟨none,rfl⟩,rfl⟩ (fun i σ' H' _ x=>by rw[x.2];exact SqL.of h3) ?_ ?_
  ·rintro i x σ' H' hx ⟨⟨y,rfl⟩,rfl⟩;rw[Bk] at hx;obtain⟨U,hU,rfl⟩:=Br.mp hx;obtain⟨vs,t,hv,⟨wd,rs,rfl,hc⟩,ht⟩:=hall i U hU;have hfl:=z8r (xs:=xs) (i:=i);have hfl2:=z8r (xs:=xs) (i:=i+1);have e1:(xs.take (i+1)).flatten=(xs.take i).flatten++t:=by rw[Hr,ht,Fw];simp
   rw[e1,Ad] at hfl2;have hat:atI (V.str wd::rs) 0=some (.str wd):=q1g (j:=0) rfl;refine⟨fun σ2 H2=>(∃z,σ2=[some (.ref R),some (.str (mk z)),some (.ref U)]/\(decide (V.str wd=V.str (Ab "noughts"))=false->z=(xs.take i).flatten++t)/\(decide (V.str wd=V.str (Ab "noughts"))=true->z=(xs.take i).flatten/\t=[48]))/\H2=H',?_,?_⟩
   ·rintro σ2 H2 ⟨⟨z,rfl,hz1,hz2⟩,rfl⟩;refine⟨_,rfl,.inr (.inl ⟨U,_,0,.str wd,rfl,rfl,SqT.of hv,hat,.inl ⟨rfl,_,rfl,?_⟩⟩)⟩;cases hb:decide (V.str wd=V.str (Ab "noughts")) with
    |true =>
     obtain⟨rfl,rfl⟩:=hz2 hb;have e48:Ab "0" = mk [48]:=by decide +kernel
     refine iteT ⟨_,rfl,_,_,rfl,rfl,by rw[e48,q0n,q0n];exact small (by show _+1<=_;lia),⟨some (.ref U),by rw[e48,q2d,e1];rfl⟩,rfl⟩
    |false =>
     rw[hz1 hb];exact iteF ⟨⟨_,by rw[e1]⟩,rfl⟩
   ·refine⟨_,rfl,.inr (.inl ⟨U,_,0,.str wd,rfl,rfl,SqT.of hv,hat,.inl ⟨rfl,_,rfl,?_⟩⟩)⟩;rcases hc with⟨c1,c2,rfl⟩|⟨c1,c2,rfl⟩|⟨c1,c2,rfl⟩
    ·rw[c1,c2];refine iteT ⟨_,rfl,_,rfl,.inr (.inl ⟨U,_,1,.str (mk t),rfl,rfl,SqT.of hv,q1g (j:=1) rfl,?_⟩)⟩;exact⟨_,_,rfl,rfl,by rw[q0n,q0n];exact small (by lia),⟨(xs.take i).flatten++t,by rw[q2d];rfl,fun _=>rfl,fun z=>(by cases z)⟩,rfl⟩
    ·rw[c1,c2];exact iteF ⟨⟨_,rfl,fun z=>(by cases z),fun _=>⟨rfl,rfl⟩⟩,rfl⟩
    ·rw[c1,c2];exact iteF ⟨⟨_,rfl,fun _=>(Bi _).symm,fun z=>(by cases z)⟩,rfl⟩
  ·rintro σ' H' ⟨⟨y,rfl⟩,rfl⟩;refine⟨_,rfl,?_⟩;have:=k _ sA;rw[Ag,<- hll,Cc];exact this
theorem q7p:∀c∈NS,c<128:=by decide +kernel
theorem z4r{r:RD}{R:Addr}{H:Hp}(h:CRule K H R r):∀c∈txO r,c∈NS:=by
 intro c hc;rcases Az.mp hc with z|z
 ·obtain⟨t,ht,hct⟩:=Fz.mp z;obtain⟨p,hp,rfl⟩:=Ci.mp ht;cases p with
  |tx t=>exact(q4z r.l [] (fun _ h=>nomatch h) h.at_.good.sg _ hp).2 c hct
  |gp g=>cases hct
 ·obtain⟨t,ht,hct⟩:=Fz.mp z;obtain⟨p,hp,rfl⟩:=Ci.mp ht;cases p with
  |tx t=>exact(h.at_.wp.ok _ hp).2 c hct
  |nou k w=>rw[Al.mp hct];decide +kernel
  |_=>cases hct
theorem q7q{l:List Nat}(h:∀c∈l,c<128):Ln (mk l)=mk (l.map lo1):=by
 apply ext;rw[lower (by rw[q0z];exact h),q0z,q0z]
structure CallsSo (P:Program) (w:World) (K:Af) (mg:Str->Option Value) (base:Heap):Prop where
 text_of:Cal P w K mg base "text_of" 7 ["rule"] (spTextOf K)
abbrev vC(l:List Nat):List V:=l.map fun c=>V.str (mk [c])
def spSignsOf(K:Af):Sp:=fun vs H Q _=>∃R S r q,vs=[.ref R,.ref S]/\CRule K H R r/\CRule K H S q/\∀L H',H L=none->Same H H'->H' L=some (.lst (vC (nmd (txO r++txO q))))->Q (.ref L) H'
theorem q9y{l:List Nat}{f:Nat->Bool}{i c:Nat}(h:l[i]?=some c):vC ((l.take (i+1)).filter f)=if f c then vC ((l.take i).filter f)++[.str (mk [c])] else vC ((l.take i).filter f):=by
 rw[q1b h,Ga];show((_:List Nat)++_).map _=_;rw[Bf];cases e:f c<;>simp[Ey,e]
theorem ns_mk:Ab "abcdefghijklmnopqrstuvwxyzABCDEFGHIJKLMNOPQRSTUVWXYZ0123456789-_." = mk NS:=(z2s _).symm
theorem x2h:NS.length=65:=by decide +kernel
abbrev q4t:Stmt:=top 57
theorem sc_signs_of:FnScope ["one", "other", "text"] ["one", "other"] (defScope q4t):=by trivial
theorem z3h(D:Df K mg "signs_of" q4t ["one", "other"])(T:Txt mg)(C:CallsSo P w K mg base):Cal P w K mg base "signs_of" 8 ["one", "other"] (spSignsOf K):=by
 refine D.cal sc_signs_of (fun vs H Q E h=>?_) (fun f cdv A outer s H vs Q E hr h=>?_)
 ·obtain⟨R,S,r,q,rfl,_⟩:=h;rfl
 ·obtain⟨R,S,r,q,rfl,ru,sq,k⟩:=h;obtain⟨_,g_NAME_SIGNS⟩:=T.NAME_SIGNS;refine⟨_,(q0b (q0i (i:=2) sc_signs_of.nd rfl (by trivial) (@q7f _ _ _ _ _ _ _ _ _ K rfl Bw Et Eu q4f (q0u q0k (pe_c C.text_of hr (q0a (pv 0) q0c)) (pe_c C.text_of hr (q0a (pv 1) q0c))) (by rfl) (by rfl))) (q0d (q0o (q6m ["sign"] [("text",2)] rfl (@q2t _ _ _ _ K rfl (q0p (v:=.str (Ab "abcdefghijklmnopqrstuvwxyzABCDEFGHIJKLMNOPQRSTUVWXYZ0123456789-_.")) (by rfl) g_NAME_SIGNS ⟨_,rfl⟩)) (fun _ _ _ _ _=>(q0l (i:=0) (show(["sign", "text"]:List Str).Nodup by decide +kernel) rfl (by trivial))) (fun _ _ _ _ _=>(q5m (q0h (in_k K rfl) (@q7f _ _ _ _ _ _ _ _ _ K rfl Bw Et Eu q4f (pv 0) (by rfl) (by rfl)) (pv 1) (by with_unfolding_all rfl)))) (fun _ _ _ _ _=>(pv 0)))))),?_⟩;have l1:=ru.tx;have l2:=sq.tx;refine⟨_,rfl,R,r,rfl,ru,fun H1 s1=>⟨_,rfl,S,q,rfl,sq.same s1,fun H2 s2=>?_⟩⟩;refine .inr (.inl ⟨_,_,rfl,rfl,by rw[q0n,q0n];exact small (by lia),?_⟩);rw[q2d];have hlow:∀c∈txO r++txO q,c<128:=fun c hc=>q7p c ((Az.mp hc).elim (z4r ru c) (z4r sq c))
  refine⟨rfl,_,rfl,rfl,by rw[q0n,Ad];exact small (by lia),?_⟩;rw[q7q hlow];have s12:=s1.trans s2;generalize txO r++txO q=t at k hlow;refine .inr (.inr ⟨_,rfl,fun D hD=>?_⟩);refine q9e (fun i ys H3=>ys=vC ((NS.take i).filter fun c=>decide (lo1 c∈t.map lo1))/\Same H2 H3/\H3 D=some (.lst ys)/\ys.length<=i) ⟨rfl,(Same.refl H2).new hD,q0e,Ax _⟩ (fun i ys H3 h=>h.2.2.1) ?_ ?_
  ·rintro i ys H3 c hc ⟨rfl,s3,h3,hle⟩;have hci:NS[i]?=some c:=get hc;have hi:=(Ai.mp hci).1;have hcl:=q7p c (As hci);rw[x2h] at hi;refine⟨q1w,_,rfl,rfl,_,rfl,rfl,by show 3*1<=_;exact small (by lia),?_⟩;rw[show Ln ⟨#[c]⟩=⟨#[lo1 c]⟩ from q7q (l:=[c]) (fun x hx=>by rw[Al.mp hx];exact hcl)];refine⟨_,rfl,.inl ⟨_,_,rfl,rfl,_,rfl,?_⟩⟩;rw[q2o,q0z,q9y hci];cases hb:decide (lo1 c∈t.map lo1) with
   |true=>exact iteT ⟨_,rfl,h3,small' (by lia),rfl,s3.put hD,q0e,by rw[Ad];exact Jz hle⟩
   |false=>exact iteF ⟨rfl,s3,h3,Gk hle⟩
  ·rintro ys H3 ⟨rfl,s3,h3,_⟩;have e3:NS.take (Ab "abcdefghijklmnopqrstuvwxyzABCDEFGHIJKLMNOPQRSTUVWXYZ0123456789-_.").length=NS:=by rw[ns_mk,q0n];exact Ce (Aj _)
   rw[e3] at h3;exact k D _ (s12.free hD) (s12.trans s3) h3
def spBound:Sp:=fun vs H Q _=>∃m n:Nat,vs=[.int (m:Int),.int (n:Int)]/\n<=4/\m<=100/\(m+4)^n<=1000/\Q .non H
abbrev q3b:Stmt:=top 58
theorem sc_ask_bound:FnScope ["many", "most", "bound", "place"] ["many", "most"] (defScope q3b):=by trivial
theorem z1y(D:Df K mg "ask_bound" q3b ["many", "most"])(T:Txt mg):Cal P w K mg base "ask_bound" 1 ["many", "most"] spBound:=by
 refine D.cal sc_ask_bound (fun vs H Q E h=>?_) (fun f cdv A outer s H vs Q E hr h=>?_)
 ·obtain⟨m,n,rfl,_⟩:=h;rfl
 ·obtain⟨m,n,rfl,hn,hm,hb,k⟩:=h;obtain⟨_,g_MOST_NAMES_ASKED⟩:=T.MOST_NAMES_ASKED;refine⟨_,(q0b (q0i (i:=2) sc_ask_bound.nd rfl (by trivial) q0f) (q0b (q1h Bo rfl (q1q rfl T.b_range (q0a (pv 1) q0c)) (q0l (i:=3) sc_ask_bound.nd rfl (by trivial)) (q0d (q0i (i:=2) sc_ask_bound.nd rfl (by trivial) (q0u q5p (pv 2) (q0u q0k (pv 0) q0f))))) (q0d (q0w (q0h q5l (pv 2) (q0p (v:=.int 1000) (by rfl) g_MOST_NAMES_ASKED ⟨_,rfl⟩) (nomark _)) (q0d q1s) q0j)))),?_⟩;refine⟨_,rfl,(n:Int),rfl,by lia,by lia,q1x (n:=n) (fun i σ' H'=>(∃x,σ'=[some (.int (m:Int)),some (.int (n:Int)),some (.int (((m+4)^i:Nat):Int)),x])/\H'=H) ⟨⟨none,rfl⟩,rfl⟩ ?_ ?_⟩
  ·rintro i σ' H' hi ⟨⟨x,rfl⟩,rfl⟩;have hle:(m+4)^i<=1000:=Aq (Fl (by lia) (by lia)) hb;refine⟨_,rfl,_,rfl,.inl ⟨_,_,rfl,rfl,.inl ⟨_,_,rfl,rfl,.inl ⟨by lia,by lia⟩,?_⟩⟩⟩;have e:(((m+4)^i:Nat):Int)*((m:Int)+4)=(((m+4)^(i+1):Nat):Int):=by rw[Jd,Nk];rfl
   exact⟨⟨_,congrArg (fun z=>[some (V.int (m:Int)),some (V.int (n:Int)),some (V.int z),_]) e⟩,rfl⟩
  ·rintro σ' H' ⟨⟨x,rfl⟩,rfl⟩;refine⟨_,rfl,_,_,rfl,rfl,_,rfl,?_⟩;rw[decide_eq_false (by lia)];exact iteF k
def SO0:List Nat:=tl (Ab "0123456789")
def SO1:List Nat:=tl (Ab "abcdefghijklmnopqrstuvwxyz")
def SO2:List Nat:=tl (Ab "-_.")
def freeS(nm s:List Nat):List Nat:=s.filter fun c => !decide (c∈nm)
def useS(nm n s:List Nat):List Nat:=(freeS nm s).filter (fun c=>decide (c∈n.map lo1))++((freeS nm s).filter (fun c => !decide (c∈n.map lo1))).take 1
def both(c:Nat):List Nat:=if up1 c=c then[c] else[c,up1 c]
def otherS(nm n:List Nat):List Nat:=[SO0,SO1,SO2].flatMap fun s=>(useS nm n s).flatMap both
theorem so_ns:∀s∈[SO0,SO1,SO2],∀c∈s,c∈NS/\up1 c∈NS:=by decide +kernel
theorem so_len:∀s∈[SO0,SO1,SO2],s.length<=26:=by decide +kernel
theorem z4s{nm n s:List Nat}:∀c∈useS nm n s,c∈s:=fun c hc=>by
 rcases Az.mp hc with z|z
 ·exact(Dw.mp (Dw.mp z).1).1
 ·exact(Dw.mp (Dw.mp (Em z)).1).1
theorem x0x{nm n s:List Nat}(h:s.length<=26):(useS nm n s).length<=27:=by
 unfold useS;rw[Ad,Bt];have h1:=Cj (fun c=>decide (c∈n.map lo1)) (freeS nm s);have h2:(freeS nm s).length<=s.length:=Cj _ _;lia
theorem z8s{nm n:List Nat}:∀c∈otherS nm n,c∈NS:=fun c hc=>by
 obtain⟨s,hs,hc⟩:=Mw.mp hc;obtain⟨d,hd,hc⟩:=Mw.mp hc;have:=so_ns s hs d (z4s d hd);unfold both at hc;split at hc
 ·rw[Al.mp hc];exact this.1
 ·rcases Ap.mp hc with rfl|hc
  ·exact this.1
  ·rw[Al.mp hc];exact this.2
theorem z3i{c:Nat}(h:c<128):Lo (⟨#[c]⟩:Str)=⟨#[up1 c]⟩:=by
 apply ext;have:=Mv (x:=⟨#[c]⟩) (fun x hx=>(show x=c by simpa using hx)▸h);rw[this];simp[tl]
theorem x0y{tk:List (List Nat)}{n:List Nat}:inV (.str (mk n)) (tk.map fun n=>V.str (mk n))=decide (n∈tk):=by
 unfold inV;rw[List.any_map];cases h:decide (n∈tk) with
 |true=>exact Mx.mpr ⟨n,of_decide_eq_true h,by show(mk n==mk n)=true;simp⟩
 |false =>
  refine Qq.mpr fun x hx e=>of_decide_eq_false h ?_;have e2:(mk x==mk n)=true:=e;rw[<- SB.mk_inj (eq_of_beq e2)];exact hx
theorem inV_c(c:Nat)(nm:List Nat):inV (.str (mk [c])) (vC nm)=decide (c∈nm):=by
 have e:vC nm=(nm.map fun c=>[c]).map fun n=>V.str (mk n):=by rw[Es];rfl
 rw[e,x0y];refine decide_eq_decide.mpr ⟨fun h=>?_,fun h=>Ci.mpr ⟨c,h,rfl⟩⟩;obtain⟨d,hd,z⟩:=Ci.mp h;cases z;exact hd
theorem x4d(nm:List Nat):(vC nm).all flatV=true:=Mp.mpr fun v hv=>by
 obtain⟨c,_,rfl⟩:=Ci.mp hv;rfl
theorem q7r{α β:Type}{l:List α}{f:α->List β}{i:Nat}{x:α}(h:l[i]?=some x):(l.take (i+1)).flatMap f=(l.take i).flatMap f++f x:=by
 rw[Hr,h,Pl];simp
theorem z4t(a b:List Nat):vC (a++b)=vC a++vC b:=Bf
theorem cutC1(l:List Nat):cutV (vC l) none (some (1:Int))=vC (l.take 1):=by
 unfold cutV;have e0:HT.sIx (vC l).length 0 none=0:=rfl;have e1:HT.sIx (vC l).length (vC l).length (some (1:Int))=min 1 (vC l).length:=rfl;rw[e0,e1,List.drop_zero,Nat.sub_zero,<- List.take_take,Cc];exact List.map_take.symm
def spOtherS(K:Af):Sp:=fun vs H Q _=>∃L nm n,vs=[.str (mk n),.ref L]/\H L=some (.lst (vC nm))/\n.length<=12/\(∀c∈n,c<128)/\∀M H',H M=none->Same H H'->H' M=some (.lst (vC (otherS nm n)))->Q (.ref M) H'
abbrev q3c:Stmt:=top 59
theorem sc_other_signs:FnScope ["name", "named", "signs", "sort", "free", "used", "fresh", "sign"] ["name", "named"] (defScope q3c):=by trivial
set_option maxHeartbeats 40000000 in
theorem q8a{d_SORTS:Addr}(D:Df K mg "other_signs" q3c ["name", "named"])(T:Txt mg)(g_SORTS:mg "SORTS" = some (.ref d_SORTS))(hS:∀H,SqT K H d_SORTS [.str (Ab "0123456789"),.str (Ab "abcdefghijklmnopqrstuvwxyz"),.str (Ab "-_.")]):Cal P w K mg base "other_signs" 1 ["name", "named"] (spOtherS K):=by
 refine D.cal sc_other_signs (fun vs H Q E h=>?_) (fun f cdv A outer s H vs Q E hr h=>?_)
 ·obtain⟨L,nm,n,rfl,_⟩:=h;rfl
 ·obtain⟨L,nm,n,rfl,hL,hnl,hlow,k⟩:=h;refine⟨_,(q0b (q0i (i:=2) sc_other_signs.nd rfl (by trivial) (q1r q0c)) (q0b (q1h Bo rfl (@q2t _ _ _ _ K rfl (q0p (v:=.ref d_SORTS) (by rfl) g_SORTS rfl)) (q0l (i:=3) sc_other_signs.nd rfl (by trivial)) (q0b (q7b (i:=4) ["sign"] [("named",1)] sc_other_signs.nd rfl (by trivial) rfl (@q2t _ _ _ _ K rfl (pv 3)) (fun _ _ _ _ _=>(q0l (i:=0) (show(["sign", "named"]:List Str).Nodup by decide +kernel) rfl (by trivial))) (fun _ _ _ _ _=>(q5m (q0h (z1e K rfl) (pv 0) (pv 1) (by with_unfolding_all rfl)))) (fun _ _ _ _ _=>(pv 0))) (q0b (q7b (i:=5) ["sign"] [("name",0)] sc_other_signs.nd rfl (by trivial) rfl (@q2t _ _ _ _ K rfl (pv 4)) (fun _ _ _ _ _=>(q0l (i:=0) (show(["sign", "name"]:List Str).Nodup by decide +kernel) rfl (by trivial))) (fun _ _ _ _ _=>(q5m (q0h (in_k K rfl) (pv 0) (@q7f _ _ _ _ _ _ _ _ _ K rfl Bw Et Eu q4f (pv 1) (by rfl) (by rfl)) (by with_unfolding_all rfl)))) (fun _ _ _ _ _=>(pv 0))) (q0b (q7b (i:=6) ["sign"] [("name",0)] sc_other_signs.nd rfl (by trivial) rfl (@q2t _ _ _ _ K rfl (pv 4)) (fun _ _ _ _ _=>(q0l (i:=0) (show(["sign", "name"]:List Str).Nodup by decide +kernel) rfl (by trivial))) (fun _ _ _ _ _=>(q5m (q0h (z1e K rfl) (pv 0) (@q7f _ _ _ _ _ _ _ _ _ K rfl Bw Et Eu q4f (pv 1) (by rfl) (by rfl)) (by with_unfolding_all rfl)))) (fun _ _ _ _ _=>(pv 0))) (q0d (q1h Bo rfl (@q2t _ _ _ _ K rfl (q0u q0k (pv 5) (q1l (sl_k K rfl) (pv 6) q6w (q1d q0f)))) (q0l (i:=7) sc_other_signs.nd rfl (by trivial)) (q0b (q0v (@bm_k _ _ _ _ _ _ _ _ _ _ _ _ K rfl Bs Dc Dd q1m (pv 2) (q0a (pv 7) q0c) (by rfl) (by rfl) (by rfl) (by rfl) (by rfl))) (q0d (q0w (q0h (ne_k K rfl hr) (@q7f _ _ _ _ _ _ _ _ _ K rfl Bw Hn Ho q6n (pv 7) (by rfl) (by rfl)) (pv 7) (nomark _)) (q0d (q0v (@bm_k _ _ _ _ _ _ _ _ _ _ _ _ K rfl Bs Dc Dd q1m (pv 2) (q0a (@q7f _ _ _ _ _ _ _ _ _ K rfl Bw Hn Ho q6n (pv 7) (by rfl) (by rfl)) q0c) (by rfl) (by rfl) (by rfl) (by rfl) (by rfl)))) q0j))))))))) (q0d (q0o (pv 2))))),?_⟩;refine⟨by show 0<=sizeLine;decide,fun M hM=>?_⟩;have s0:=(Same.refl H).new (o:=.lst []) hM;have h0:upd H M (.lst []) M=some (.lst (vC [])):=q0e;have hML:L≠M:=fun z=>by rw[z,hM] at hL;cases hL
  generalize upd H M (.lst [])=H0 at s0 h0;refine .inr (.inl ⟨d_SORTS,rfl,⟨_,hS _⟩,?_⟩);have esort:[V.str (Ab "0123456789"),.str (Ab "abcdefghijklmnopqrstuvwxyz"),.str (Ab "-_.")]=[SO0,SO1,SO2].map fun t=>V.str (mk t):=by
   show _=[V.str (mk (tl _)),V.str (mk (tl _)),V.str (mk (tl _))]
   rw[z2s,z2s,z2s]
  refine x2u (xs:=[V.str (Ab "0123456789"),.str (Ab "abcdefghijklmnopqrstuvwxyz"),.str (Ab "-_.")]) (fun i σ' H'=>∃x3 x4 x5 x6 x7,σ'=[some (.str (mk n)),some (.ref L),some (.ref M),x3,x4,x5,x6,x7]/\Same H H'/\H' M=some (.lst (vC (([SO0,SO1,SO2].take i).flatMap fun s=>(useS nm n s).flatMap both)))/\(([SO0,SO1,SO2].take i).flatMap fun s=>(useS nm n s).flatMap both).length<=54*i) ⟨none,none,none,none,none,rfl,s0,h0,Aj _⟩ (fun i σ' H' _ x=>hS _) ?_ ?_
  ·rintro i x σ' H1 hx ⟨x3,x4,x5,x6,x7,rfl,s1,h1,hlen⟩;rw[esort,Bk] at hx;obtain⟨so,hso,rfl⟩:=Br.mp hx;have hi3:i<3:=(Ai.mp hso).1;have hsm:=As hso;have hsl:=so_len so hsm;have hsn:=so_ns so hsm;have es:=q0n so;refine⟨_,rfl,.inr (.inr ⟨mk so,rfl,fun D1 hD1=>?_⟩)⟩;have hMD:∀{Da:Addr} {Ha:Hp},Ha M=some (.lst (vC (([SO0,SO1,SO2].take i).flatMap fun s=>(useS nm n s).flatMap both)))->Ha Da=none->M≠Da:=fun e z y=>by rw[<- y,e] at z;cases z
   refine q9e (fun j ys H'=>ys=vC ((so.take j).filter fun c => !decide (c∈nm))/\Same H1 H'/\H' D1=some (.lst ys)/\ys.length<=j) ⟨rfl,(Same.refl H1).new hD1,q0e,Ax _⟩ (fun j ys H' h=>h.2.2.1) ?_ ?_
   ·rintro j ys H' c hc ⟨rfl,s',h',hle⟩;have hci:so[j]?=some c:=by have:=get hc;rw[q0z] at this;exact this
    have hj:=(Ai.mp hci).1;refine⟨q1w,_,rfl,_,rfl,.inr ⟨L,_,rfl,.inl (SqL.of (s' _ _ (s1 _ _ hL))),rfl,x4d nm,_,rfl,?_⟩⟩;show if (!inV (.str (mk [c])) (vC nm))=true then _ else _
    rw[inV_c,q9y hci];cases hb:decide (c∈nm) with
    |true=>exact iteF ⟨rfl,s',h',Gk hle⟩
    |false=>exact iteT ⟨_,rfl,h',small' (by lia),rfl,s'.put hD1,q0e,by rw[Ad];exact Jz hle⟩
   rintro ys H2 ⟨rfl,s2,h2,hle2⟩;have e2:so.take (mk so).length=so:=by rw[es];exact Ce (Aj _)
   rw[e2] at h2 hle2;have hfl:(freeS nm so).length<=26:=Aq (Cj _ _) hsl;have hfs:∀c∈freeS nm so,c∈so:=fun c hc=>(Dw.mp hc).1;replace h2:H2 D1=some (.lst (vC (freeS nm so))):=h2;have euse:useS nm n so=(freeS nm so).filter (fun c=>decide (c∈n.map lo1))++((freeS nm so).filter (fun c => !decide (c∈n.map lo1))).take 1:=rfl;have hul:=x0x (nm:=nm) (n:=n) hsl;have hus:=z4s (nm:=nm) (n:=n) (s:=so);rw[euse] at hul hus;generalize freeS nm so=fr at hfl hfs h2 euse hul hus;have h1D:M≠D1:=hMD h1 hD1;have h1':=s2 _ _ h1;refine⟨_,rfl,.inl ⟨D1,rfl,⟨_,SqL.of h2⟩,fun D2 hD2=>?_⟩⟩;refine q3x (xs:=vC fr) (fun j ys H'=>ys=vC ((fr.take j).filter fun c=>decide (c∈n.map lo1))/\Same H2 H'/\H' D2=some (.lst ys)/\ys.length<=j) ⟨rfl,(Same.refl H2).new hD2,q0e,Ax _⟩ (fun j ys H' h=>⟨h.2.2.1,SqL.of (h.2.1 _ _ h2)⟩) ?_ ?_
   ·rintro j ys H' v hv ⟨rfl,s',h',hle⟩;rw[Bk] at hv;obtain⟨c,hci,rfl⟩:=Br.mp hv;have hj:=(Ai.mp hci).1;refine⟨q1w,_,rfl,_,rfl,rfl,_,rfl,rfl,by rw[q0n];exact small (by lia),?_⟩;rw[q7q hlow];refine .inl ⟨_,_,rfl,rfl,_,rfl,?_⟩;rw[show mk [c]=(⟨#[c]⟩:Str) from rfl,q2o,q0z,q9y hci];cases hb:decide (c∈n.map lo1) with
    |true=>exact iteT ⟨_,rfl,h',small' (by lia),rfl,s'.put hD2,q0e,by rw[Ad];exact Jz hle⟩
    |false=>exact iteF ⟨rfl,s',h',Gk hle⟩
   rintro ys H3 ⟨rfl,s3,h3,hle3⟩;rw[Ag,Cc] at h3;have h2':=s3 _ _ h2;refine⟨_,rfl,.inl ⟨D1,rfl,⟨_,SqL.of h2'⟩,fun D3 hD3=>?_⟩⟩;refine q3x (xs:=vC fr) (fun j ys H'=>ys=vC ((fr.take j).filter fun c => !decide (c∈n.map lo1))/\Same H3 H'/\H' D3=some (.lst ys)/\ys.length<=j) ⟨rfl,(Same.refl H3).new hD3,q0e,Ax _⟩ (fun j ys H' h=>⟨h.2.2.1,SqL.of (h.2.1 _ _ h2')⟩) ?_ ?_
   ·rintro j ys H' v hv ⟨rfl,s',h',hle⟩;rw[Bk] at hv;obtain⟨c,hci,rfl⟩:=Br.mp hv;have hj:=(Ai.mp hci).1;refine⟨q1w,_,rfl,_,rfl,rfl,_,rfl,rfl,by rw[q0n];exact small (by lia),?_⟩;rw[q7q hlow];refine .inl ⟨_,_,rfl,rfl,_,rfl,?_⟩;rw[show mk [c]=(⟨#[c]⟩:Str) from rfl,q2o,q0z,q9y hci];cases hb:decide (c∈n.map lo1) with
    |true=>exact iteF ⟨rfl,s',h',Gk hle⟩
    |false=>exact iteT ⟨_,rfl,h',small' (by lia),rfl,s'.put hD3,q0e,by rw[Ad];exact Jz hle⟩
   rintro ys H4 ⟨rfl,s4,h4,hle4⟩;rw[Ag,Cc] at h4;refine⟨_,rfl,_,rfl,_,rfl,.inr (.inl ⟨D3,_,rfl,SqL.of h4,fun D4 hD4=>?_⟩)⟩;rw[cutC1];generalize hus1:fr.filter (fun c=>decide (c∈n.map lo1))=us at *;generalize hfr1:(fr.filter (fun c => !decide (c∈n.map lo1))).take 1=fs at *;have s5:=(Same.refl H4).new (o:=.lst (vC fs)) hD4;have hlu:(vC us).length+(vC fs).length<=100:=by
    rw[Ag,Ag];rw[Ad] at hul;lia
   refine .inr (.inr ⟨D2,D4,_,_,rfl,rfl,s5 _ _ (s4 _ _ h3),q0e,small (by lia),fun D5 hD5=>?_⟩);have s6:=s5.new (o:=.lst (vC us++vC fs)) hD5;have h6:upd (upd H4 D4 (.lst (vC fs))) D5 (.lst (vC us++vC fs)) D5=some (.lst (vC (us++fs))):=by rw[q0e,z4t]
   generalize upd (upd H4 D4 (.lst (vC fs))) D5 (.lst (vC us++vC fs))=H6 at s6 h6;have hM6:=s6 _ _ (s4 _ _ (s3 _ _ h1'));have sA:=((s1.trans s2).trans s3).trans (s4.trans s6);have hMH:H M=none:=hM;have h5M:D5≠M:=fun z=>by
    have:=(s5 _ _ (s4 _ _ (s3 _ _ h1')))
    rw[<- z,hD5] at this;cases this
   generalize hpre:(([SO0,SO1,SO2].take i).flatMap fun s=>(useS nm n s).flatMap both)=pre at *;have hall:∀c∈us++fs,c∈so:=hus;rw[<- euse] at hul;refine .inl ⟨D5,rfl,⟨_,SqL.of h6⟩,?_⟩;refine q2i (xs:=vC (us++fs)) (fun j σ' H'=>∃x7,σ'=[some (.str (mk n)),some (.ref L),some (.ref M),some (.str (mk so)),some (.ref D1),some (.ref D2),some (.ref D3),x7]/\Same H H'/\H' D5=some (.lst (vC (us++fs)))/\H' M=some (.lst (vC (pre++((us++fs).take j).flatMap both)))/\(((us++fs).take j).flatMap both).length<=2*j) ⟨_,rfl,sA,h6,by rw[Jl];show _=some (HO.lst (vC (pre++[])));rw[Bi];exact hM6,Ax _⟩ (fun j σ' H' _ x=>by obtain⟨_,_,_,x,_⟩:=x;exact SqL.of x) ?_ ?_
   ·rintro j v σ' H7 hv ⟨x7',rfl,s7,h7,hM7,hl7⟩;rw[Bk] at hv;obtain⟨c,hci,rfl⟩:=Br.mp hv;have hj:=(Ai.mp hci).1;have hcs:=hall c (As hci);have hcl:c<128:=q7p c (hsn c hcs).1;have hpl:(vC (pre++((us++fs).take j).flatMap both)).length<=500:=by
     rw[Ag,Ad];rw[Ad] at hj;rw[Ag,Ag] at hlu;lia
    refine⟨_,rfl,.inl ⟨rfl,_,SqL.of hM7⟩,_,rfl,M,_,_,rfl,rfl,hM7,small' (by lia),?_⟩;have hM8:upd H7 M (.lst (vC (pre++((us++fs).take j).flatMap both)++[.str (mk [c])])) M=some (.lst (vC (pre++((us++fs).take j).flatMap both)++[.str (mk [c])])):=q0e;have s8:=s7.put (o:=.lst (vC (pre++((us++fs).take j).flatMap both)++[.str (mk [c])])) hMH;have h8:upd H7 M (.lst (vC (pre++((us++fs).take j).flatMap both)++[.str (mk [c])])) D5=some (.lst (vC (us++fs))):=by rw[q0m h5M];exact h7
    generalize upd H7 M (.lst (vC (pre++((us++fs).take j).flatMap both)++[.str (mk [c])]))=H8 at hM8 s8 h8;have etk:=q7r (f:=both) hci;refine⟨_,rfl,rfl,_,rfl,rfl,by show 3*1<=_;exact small (by lia),?_⟩;rw[show Lo (mk [c])=⟨#[up1 c]⟩ from z3i hcl];refine⟨_,rfl,.inl ⟨rfl,_,rfl,?_⟩⟩;have ed:decide (V.str (⟨#[up1 c]⟩:Str)=V.str (mk [c]))=decide (up1 c=c):=decide_eq_decide.mpr ⟨fun z=>by injection z with z;injection z with z;injection z with z;injection z,fun z=>by rw[z]⟩;rw[ed];cases hb:decide (up1 c=c) with
    |true =>
     have eb:both c=[c]:=by unfold both;rw[if_pos (of_decide_eq_true hb)]
     refine iteF ⟨_,rfl,s8,h8,?_,by rw[etk,eb,Ad];show _+1<=_;lia⟩;rw[hM8,etk,eb,<- Cw,z4t (_++_) [c]];rfl
    |false =>
     have eb:both c=[c,up1 c]:=by unfold both;rw[if_neg (of_decide_eq_false hb)]
     refine iteT ⟨_,rfl,.inl ⟨rfl,_,SqL.of hM8⟩,_,rfl,rfl,_,rfl,rfl,by show 3*1<=_;exact small (by lia),?_⟩;rw[show Lo (mk [c])=⟨#[up1 c]⟩ from z3i hcl];refine⟨M,_,_,rfl,rfl,hM8,small' (by rw[Ad];show _+1<=_;lia),?_⟩;refine⟨_,rfl,s8.put hMH,by rw[q0m h5M];exact h8,?_,by rw[etk,eb,Ad];show _+2<=_;lia⟩;rw[q0e,etk,eb,<- Cw,z4t (_++_) [c,up1 c],Cw];rfl
   ·rintro σ' H7 ⟨x7',rfl,s7,h7,hM7,hl7⟩;rw[Ag,Cc] at hM7 hl7;have etk:=q7r (f:=fun s=>(useS nm n s).flatMap both) hso;rw[hpre] at etk;refine⟨_,_,_,_,_,rfl,s7,?_,?_⟩
    ·rw[hM7,etk,euse]
    ·rw[etk,euse,Ad];rw[<- euse] at hl7;rw[euse] at hl7 hul;lia
  ·rintro σ' H' ⟨x3,x4,x5,x6,x7,rfl,s1,h1,_⟩;exact⟨_,rfl,k M _ hM s1 h1⟩
end
end K
set_option maxHeartbeats 4000000
namespace K
open PySem L2 TX
section
variable{P:Program}{w:World}{K:Af}{mg:Str->Option Value}{base:Heap}
def longer(nm:List Nat)(ns:List (List Nat)):List (List Nat):=ns.flatMap fun n=>(nm++otherS nm n).map fun c=>n++[c]
def lev(nm:List Nat):Nat->List (List Nat)
 |0=>[[]]
 |k+1=>longer nm (lev nm k)
theorem q8s:∀{a b:List Nat},a.Nodup->(∀c∈a,c∈b)->a.length<=b.length
 |[],_,_,_=>Ax _
 |x::r,b,nd,h=>by
  obtain⟨n1,n2⟩:=Hg.mp nd;have hx:=h x Ao;have:=q8s (a:=r) (b:=b.erase x) n2 fun c hc=>(List.mem_erase_of_ne (fun z=>n1 (by rw[<- z];exact hc))).mpr (h c (Am _ hc))
  rw[List.length_erase_of_mem hx] at this;have:=List.length_pos_of_mem hx;rw[Av];lia
theorem so_nd:∀s∈[SO0,SO1,SO2],s.Nodup:=by decide +kernel
theorem x0z{nm n s:List Nat}(h:s.Nodup):(useS nm n s).length<=n.length+1:=by
 unfold useS;rw[Ad,Bt];have h1:((freeS nm s).filter fun c=>decide (c∈n.map lo1)).length<=(n.map lo1).length:=q8s ((h.filter _).filter _) fun c hc=>of_decide_eq_true (Dw.mp hc).2;rw[Ag] at h1;lia
theorem x1a(c:Nat):(both c).length<=2:=by unfold both;split<;>simp
theorem q8t{α β:Type}{l:List α}{f:α->List β}{m:Nat}(h:∀x∈l,(f x).length<=m):(l.flatMap f).length<=l.length*m:=by
 induction l with
 |nil=>exact Ax _
 |cons a r ih =>
  have h1:=h a Ao;have h2:=ih fun x hx=>h x (Am _ hx);rw[List.flatMap_cons,Ad,Av,Nat.succ_mul];lia
theorem q8u(nm n:List Nat):(otherS nm n).length<=6*(n.length+1):=by
 have h1:∀s∈[SO0,SO1,SO2],((useS nm n s).flatMap both).length<=(n.length+1)*2:=fun s hs=>by
  have h2:=q8t (l:=useS nm n s) (f:=both) (m:=2) fun c _=>x1a c;have h3:=x0z (nm:=nm) (n:=n) (so_nd s hs);have h4:(useS nm n s).length*2<=(n.length+1)*2:=Ks _ h3;lia
 have:=q8t (l:=[SO0,SO1,SO2]) h1;unfold otherS;have e:[SO0,SO1,SO2].length=3:=rfl;rw[e] at this;lia
theorem z4u{nm:List Nat}(h:∀c∈nm,c∈NS):∀(k:Nat),∀n∈lev nm k,n.length=k/\∀c∈n,c∈NS
 |0,n,hn=>by
  rw[Al.mp hn];exact⟨rfl,(fun _ h=>nomatch h)⟩
 |k+1,n,hn=>by
  obtain⟨m,hm,hn⟩:=Mw.mp hn;obtain⟨c,hc,rfl⟩:=Ci.mp hn;obtain⟨h1,h2⟩:=z4u h k m hm;refine⟨by rw[Ad,h1];rfl,fun d hd=>?_⟩;rcases Az.mp hd with hd|hd
  ·exact h2 d hd
  ·rw[Al.mp hd];exact(Az.mp hc).elim (h c) (z8s c)
theorem x4e{nm:List Nat}{ns:List (List Nat)}{k:Nat}(h:∀n∈ns,n.length=k):(longer nm ns).length<=ns.length*(nm.length+6*(k+1)):=q8t fun n hn=>by
 rw[Ag,Ad];have:=q8u nm n;rw[h n hn] at this;lia
theorem x4f{nm:List Nat}(h:∀c∈nm,c∈NS)(hl:nm.length<=65){mo:Nat}(hm:mo<=4)(hb:(nm.length+4)^mo<=1000):∀k,k<=mo->(lev nm k).length<=50000:=by
 have st:∀k,(lev nm (k+1)).length<=(lev nm k).length*(nm.length+6*(k+1)):=fun k=>x4e fun n hn=>(z4u h k n hn).1;have z0:(lev nm 0).length=1:=rfl;have s0:=st 0;have s1:=st 1;have s2:=st 2;have s3:=st 3;generalize nm.length=m at *;generalize (lev nm 0).length=a0 at *;have big:∀x,x<=m->(x+4)^mo<=1000:=fun x hx=>Aq (Pm (by lia) _) hb;have step:∀{a b x c d:Nat},b<=a*x->a<=c->x<=d->b<=c*d:=fun h1 h2 h3=>Aq h1 (Nat.mul_le_mul h2 h3);intro k hk;have hmo:mo=0\/mo=1\/mo=2\/mo=3\/mo=4:=by lia
 have hk4:k=0\/k=1\/k=2\/k=3\/k=4:=by lia
 have t1:mo=1\/m<=27\/mo=0:=by
  rcases hmo with e|e|e|e|e
  ·exact .inr (.inr e)
  ·exact .inl e
  all_goals
   refine .inr (.inl (Cu fun z=>?_));have:=big 28 (by lia);rw[e] at this;exact absurd this (by decide)
 have t2:mo<=2\/m<=6:=by
  rcases hmo with e|e|e|e|e
  ·exact .inl (by lia)
  ·exact .inl (by lia)
  ·exact .inl (by lia)
  all_goals
   refine .inr (Cu fun z=>?_);have:=big 7 (by lia);rw[e] at this;exact absurd this (by decide)
 have t3:mo<=3\/m<=1:=by
  rcases hmo with e|e|e|e|e
  ·exact .inl (by lia)
  ·exact .inl (by lia)
  ·exact .inl (by lia)
  ·exact .inl (by lia)
  ·refine .inr (Cu fun z=>?_);have:=big 2 (by lia);rw[e] at this;exact absurd this (by decide)
 rcases hk4 with rfl|rfl|rfl|rfl|rfl
 ·show(lev nm 0).length<=_;exact(by decide:(1:Nat)<=50000)
 ·have:=step s0 (Er z0) (show m+6*(0+1)<=71 by lia);exact Aq this (by decide)
 ·have hm27:m<=27:=by lia
  have a1:=step s0 (Er z0) (show m+6*(0+1)<=33 by lia);have:=step s1 a1 (show m+6*(1+1)<=39 by lia);exact Aq this (by decide)
 ·have hm6:m<=6:=by lia
  have a1:=step s0 (Er z0) (show m+6*(0+1)<=12 by lia);have a2:=step s1 a1 (show m+6*(1+1)<=18 by lia);have:=step s2 a2 (show m+6*(2+1)<=24 by lia);exact Aq this (by decide)
 ·have hm1:m<=1:=by lia
  have a1:=step s0 (Er z0) (show m+6*(0+1)<=7 by lia);have a2:=step s1 a1 (show m+6*(1+1)<=13 by lia);have a3:=step s2 a2 (show m+6*(2+1)<=19 by lia);have:=step s3 a3 (show m+6*(3+1)<=25 by lia);exact Aq this (by decide)
structure CallsLg (P:Program) (w:World) (K:Af) (mg:Str->Option Value) (base:Heap):Prop where
 other_signs:Cal P w K mg base "other_signs" 1 ["name", "named"] (spOtherS K)
def spLonger:Sp:=fun vs H Q _=>∃L M nm ns,vs=[.ref L,.ref M]/\H L=some (.lst (vN ns))/\H M=some (.lst (vC nm))/\(∀n∈ns,n.length<=11/\∀c∈n,c∈NS)/\nm.length<=65/\(longer nm ns).length<=100000/\∀N H',H N=none->Same H H'->H' N=some (.lst (vN (longer nm ns)))->Q (.ref N) H'
theorem x1b{α β:Type}{l:List α}{f:α->List β}{i:Nat}:((l.take i).flatMap f).length<=(l.flatMap f).length:=by
 have e:l.flatMap f=(l.take i).flatMap f++(l.drop i).flatMap f:=by rw[<- Pl,Ht]
 rw[e,Ad];lia
theorem x2i(a b:List (List Nat)):vN (a++b)=vN a++vN b:=Bf
abbrev q2r:Stmt:=top 60
theorem q7s:FnScope ["names", "named"] ["names", "named"] (defScope q2r):=by trivial
set_option maxHeartbeats 40000000 in
theorem z8t(D:Df K mg "longer_names" q2r ["names", "named"])(T:Txt mg)(C:CallsLg P w K mg base):Cal P w K mg base "longer_names" 2 ["names", "named"] spLonger:=by
 refine D.cal q7s (fun vs H Q E h=>?_) (fun f cdv A outer s H vs Q E hr h=>?_)
 ·obtain⟨L,M,nm,ns,rfl,_⟩:=h;rfl
 ·obtain⟨L,M,nm,ns,rfl,hL,hM,hns,hnm,hlen,k⟩:=h;refine⟨_,(q0d (q0o (z8g ["name", "sign"] [("named",1)] rfl (@q2t _ _ _ _ K rfl (pv 0)) (fun _ _ _ _ _=>(q0l (i:=0) (show(["name", "sign", "named"]:List Str).Nodup by decide +kernel) rfl (by trivial))) (fun _ _ _ _ _=>(@q2t _ _ _ _ K rfl (q0u q0k (pv 2) (pe_c C.other_signs hr (q0a (pv 0) (q0a (pv 2) q0c)))))) (fun _ _ _ _ _=>(q0l (i:=1) (show(["name", "sign", "named"]:List Str).Nodup by decide +kernel) rfl (by trivial))) (fun _ _ _ _ _=>(q0u q0k (pv 0) (pv 1)))))),?_⟩;refine⟨_,rfl,.inl ⟨L,rfl,⟨_,SqL.of hL⟩,fun D hD=>?_⟩⟩;refine z5z (xs:=vN ns) (fun i ys H'=>ys=vN (longer nm (ns.take i))/\Same H H'/\H' D=some (.lst ys)) ⟨rfl,(Same.refl H).new hD,q0e⟩ (fun i ys H' x=>⟨x.2.2,SqL.of (x.2.1 _ _ hL)⟩) ?_ ?_
  ·rintro i ys H1 v hv ⟨rfl,s1,h1⟩;rw[Bk] at hv;obtain⟨n,hn,rfl⟩:=Br.mp hv;obtain⟨n1,n2⟩:=hns n (As hn);refine⟨q1w,_,rfl,_,rfl,_,rfl,M,nm,n,rfl,s1 _ _ hM,by lia,fun c hc=>q7p c (n2 c hc),fun O H2 hO s2 h2=>?_⟩;have hM2:=s2 _ _ (s1 _ _ hM);have hol:=q8u nm n;have hD2:=s2 _ _ h1;refine .inr (.inr ⟨M,O,_,_,rfl,rfl,hM2,h2,small (by rw[Ag,Ag];lia),fun G hG=>?_⟩);have s3:=(Same.refl H2).new (o:=.lst (vC nm++vC (otherS nm n))) hG;have h3:upd H2 G (.lst (vC nm++vC (otherS nm n))) G=some (.lst (vC (nm++otherS nm n))):=by rw[q0e,z4t]
   generalize upd H2 G (.lst (vC nm++vC (otherS nm n)))=H3 at s3 h3;have hGD:G≠D:=fun z=>by rw[<- z,hG] at hD2;cases hD2
   have s13:=(s1.trans s2).trans s3;have etk:=q7r (f:=fun n=>(nm++otherS nm n).map fun c=>n++[c]) hn;have hpre:=x1b (l:=ns) (f:=fun n=>(nm++otherS nm n).map fun c=>n++[c]) (i:=i+1);rw[etk,Ad,Ag] at hpre;have hpre:(longer nm (ns.take i)).length+(nm++otherS nm n).length<=100000:=Aq hpre hlen;have etk:longer nm (ns.take (i+1))=longer nm (ns.take i)++(nm++otherS nm n).map fun c=>n++[c]:=etk;rw[etk];generalize nm++otherS nm n=cs at h3 hpre;generalize longer nm (ns.take i)=pre at h1 hD2 hpre;refine .inl ⟨G,rfl,⟨_,SqL.of h3⟩,?_⟩;refine x0n (xs2:=vC cs) (fun j ys H'=>ys=vN (pre++(cs.take j).map fun c=>n++[c])/\Same H H'/\H' D=some (.lst ys)/\H' G=some (.lst (vC cs))) ⟨by rw[Jl];show _=vN (pre++[]);rw[Bi],s13,s3 _ _ hD2,h3⟩ (fun j ys H' x=>SqL.of x.2.2.2) ?_ ?_
   ·rintro j ys H4 x hx ⟨rfl,s4,h4,h4'⟩;rw[Bk] at hx;obtain⟨c,hc,rfl⟩:=Br.mp hx;have hj:=(Ai.mp hc).1;refine⟨z5y,_,rfl,_,rfl,.inr (.inl ⟨_,_,rfl,rfl,by rw[q0n,q0n];exact small (by show _+1<=_;lia),?_⟩)⟩;rw[q2d];refine⟨h4,small' (by rw[Ag,Ad,Ag,Bt];lia),?_,s4.put hD,q0e,by rw[q0m hGD];exact h4'⟩;rw[q1b hc,Bf,<- Cw,x2i (_++_)];rfl
   ·rintro ys H4 ⟨rfl,s4,h4,h4'⟩;rw[Ag,Cc] at h4 ⊢;exact⟨rfl,s4,h4⟩
  ·rintro ys H1 ⟨rfl,s1,h1⟩;rw[Ag,Cc] at h1;exact k D _ hD s1 h1
end
end K
set_option maxHeartbeats 4000000
namespace K
open PySem L2 TX
section
variable{P:Program}{w:World}{K:Af}{mg:Str->Option Value}{base:Heap}
def dO:Option (List (List Nat))->PyData
 |none=>.none
 |some ts=>.tuple ((ts.map mk).map PyData.str)
theorem z4v:∀a b:List (List Nat),Fu ((a.map mk).map PyData.str) ((b.map mk).map PyData.str)=decide (a=b)
 |[],[]=>by simp[Fu]
 |[],b::bs=>by simp[Fu]
 |a::as,[]=>by simp[Fu]
 |a::as,b::bs=>by
  have ih:=z4v as bs;rw[Bc,Bc,Bc,Bc];simp only[Fu,Dr,ih];rw[show(mk a==mk b)=decide (a=b) from Iu.mpr (by
   rw[beq_iff_eq,decide_eq_true_iff];exact⟨fun z=>by have:=congrArg tl z;rwa [q0z,q0z] at this,fun z=>by rw[z]⟩),<- Bool.decide_and]
  exact decide_eq_decide.mpr ⟨fun⟨x,y⟩=>by rw[x,y],fun z=>by injection z with z1 z2;exact⟨z1,z2⟩⟩
theorem eqv_dO(a b:Option (List (List Nat))):Dr (dO a) (dO b)=decide (a=b):=by
 cases a with
 |none=>cases b with
  |none=>simp[dO,Dr]
  |some y=>simp[dO,Dr]
 |some x=>cases b with
  |none=>simp[dO,Dr]
  |some y =>
   simp only[dO,Dr,z4v];exact decide_eq_decide.mpr ⟨fun z=>by rw[z],fun z=>Cg z⟩
theorem z4w:∀{ls:List (List Nat)},(∀x∈ls,∀c∈x,c<128)->Ly ((ls.map mk).map PyData.str)=true
 |[],_=>rfl
 |a::r,h=>by
  rw[Bc,Bc];simp only[Ly,Oo,q9g (h a Ao),z4w (ls:=r) fun x hx=>h x (Am _ hx),Ew]
theorem x2j{o:Option (List (List Nat))}(h:∀ts,o=some ts->∀t∈ts,∀c∈t,c<128):(dO o).canLay0=true:=by
 cases o with
 |none=>rfl
 |some ts =>
  simp only[dO,Oo];exact z4w (h ts rfl)
theorem z4x:∀ls:List (List Nat),Ku ((ls.map mk).map PyData.str)<=1
 |[]=>by simp[Ku]
 |a::r=>by
  have:=z4x r;rw[Bc,Bc];simp only[Ku,My];lia
theorem dep_dO(o:Option (List (List Nat))):(dO o).depth<=100:=by
 cases o with
 |none=>simp[dO,My]
 |some ts =>
  have:=z4x ts;simp only[dO,My];lia
theorem z4y{H:Hp}:∀xs:List Str,Dts K H (xs.map V.str) (xs.map PyData.str)
 |[]=>.nil
 |x::xs=>.cons (.str x) (z4y xs)
structure VT (K:Af) (H:Hp) (v:V) (o:Option (List (List Nat))):Prop where
 dt:Dt K H v (dO o)
 lo:∀ts,o=some ts->∀t∈ts,∀c∈t,c<128
theorem z8u{H H':Hp}{v:V}{o:Option (List (List Nat))}(e:(o=none/\v=.non)\/∃ts T,o=some ts/\v=.ref T/\H T=some (.tup (vN ts)))(l:∀ts,o=some ts->∀t∈ts,∀c∈t,c<128)(s:Same H H'):VT K H' v o:=by
 refine⟨?_,l⟩;rcases e with⟨rfl,rfl⟩|⟨ts,T,rfl,rfl,h⟩
 ·exact .non
 ·refine .tup (SqT.of (s _ _ h)) ?_;have e:vN ts=(ts.map mk).map V.str:=by rw[Es];rfl
  rw[e];exact z4y _
theorem x1c{H:Hp}{Q:VK}{E:XK}{R:Addr}{r:RD}{n:List Nat}(ru:CRule K H R r)(hn:n.length<=12/\∀c∈n,c∈NS)(k:∀v H',Same H H'->((tellO r n 0=none/\v=.non)\/∃ts T,tellO r n 0=some ts/\v=.ref T/\H' T=some (.tup (vN ts)))->(∀ts,tellO r n 0=some ts->∀t∈ts,∀c∈t,c<128)->Q v H'):spTells K [.ref R,.str (mk n),.int 0] H Q E:=by
 have lo:∀ts,tellO r n 0=some ts->∀t∈ts,∀c∈t,c<128:=fun ts h t ht c hc=>q7p c (((x0w ru.ok hn (by decide) h).2.2 t ht).2 c hc);refine⟨R,r.kd,r.l,r.qs,_,n,0,rfl,ru.at_,hn.1,fun t ht c hc=>q7p c (hn.2 c (z8p _ _ t ht c hc)),by decide,fun hf H' s'=>?_,fun hf T H' hT s' h'=>?_⟩
 ·exact k _ _ s' (.inl ⟨by unfold tellO;rw[hf];rfl,rfl⟩) lo
 ·exact k _ _ s' (.inr ⟨_,T,by unfold tellO;rw[hf];rfl,rfl,h'⟩) lo
def spTl(K:Af):Sp:=fun vs H Q _=>∃R r n,vs=[.ref R,.str (mk n),.int 0]/\CRule K H R r/\(n.length<=12/\∀c∈n,c∈NS)/\∀v H',Same H H'->((tellO r n 0=none/\v=.non)\/∃ts T,tellO r n 0=some ts/\v=.ref T/\H' T=some (.tup (vN ts)))->(∀ts,tellO r n 0=some ts->∀t∈ts,∀c∈t,c<128)->Q v H'
theorem z1z(M:Cal P w K mg base "tells" 8 ["rule", "name", "count"] (spTells K)):Cal P w K mg base "tells" 8 ["rule", "name", "count"] (spTl K):=by
 obtain⟨f,fd,F,r⟩:=M.ex;exact⟨f,fd,F.imp fun vs H Q E h=>by
  obtain⟨R,r,n,rfl,ru,hn,k⟩:=h;exact x1c ru hn k,r⟩
structure CallsCp (P:Program) (w:World) (K:Af) (mg:Str->Option Value) (base:Heap):Prop where
 ask_rule:Cal P w K mg base "ask_rule" 7 ["rule"] (spAskRule K)
 ask_pieces:Cal P w K mg base "ask_pieces" 7 ["rule"] (spAP K)
 signs_of:Cal P w K mg base "signs_of" 8 ["one", "other"] (spSignsOf K)
 ask_bound:Cal P w K mg base "ask_bound" 1 ["many", "most"] spBound
 longer_names:Cal P w K mg base "longer_names" 2 ["names", "named"] spLonger
 tells:Cal P w K mg base "tells" 8 ["rule", "name", "count"] (spTl K)
def nmO(r q:RD):List Nat:=nmd (txO r++txO q)
def spCpd(K:Af):Sp:=fun vs H Q _=>∃R S r q,∃mo:Nat,vs=[.ref R,.ref S,.int (mo:Int)]/\CRule K H R r/\CRule K H S q/\mo<=4/\((nmO r q).length+4)^mo<=1000 /\
 ((∀(k:Nat) (n:List Nat),k<mo->n∈lev (nmO r q) (k+1)->tellO r n 0=tellO q n 0)->∀T H',H T=none->Same H H'->H' T=some (.tup [.str (Ab "same")])->Q (.ref T) H') /\
 ∀(k i:Nat) (n:List Nat),k<mo->(lev (nmO r q) (k+1))[i]?=some n->tellO r n 0≠tellO q n 0->(∀(j:Nat) (m:List Nat),j<k->m∈lev (nmO r q) (j+1)->tellO r m 0=tellO q m 0)->(∀(j:Nat) (m:List Nat),j<i->(lev (nmO r q) (k+1))[j]?=some m->tellO r m 0=tellO q m 0)->∀T H',H T=none->Same H H'->H' T=some (.tup [.str (Ab "parted"),.str (mk n)])->Q (.ref T) H'
theorem nmd_ns{t:List Nat}:∀c∈nmd t,c∈NS:=fun c hc=>(Dw.mp hc).1
theorem z8v{t:List Nat}:(nmd t).length<=65:=by
 have:=Cj (fun c=>decide (lo1 c∈t.map lo1)) NS;rw[x2h] at this;exact this
abbrev q3r:Stmt:=top 61
theorem sc_compared:FnScope ["one", "other", "most", "named", "names", "length", "name"] ["one", "other", "most"] (defScope q3r):=by trivial
set_option maxHeartbeats 40000000 in
theorem z3j(D:Df K mg "compared" q3r ["one", "other", "most"])(T:Txt mg)(C:CallsCp P w K mg base):Cal P w K mg base "compared" 9 ["one", "other", "most"] (spCpd K):=by
 refine D.cal sc_compared (fun vs H Q E h=>?_) (fun f cdv A outer s H vs Q E hr h=>?_)
 ·obtain⟨R,S,r,q,mo,rfl,_⟩:=h;rfl
 ·obtain⟨R,S,r,q,mo,rfl,ru,sq,hmo,hbd,kS,kP⟩:=h;refine⟨_,(q0b (q0v (pe_c C.ask_rule hr (q0a (pv 0) q0c))) (q0b (q0v (pe_c C.ask_rule hr (q0a (pv 1) q0c))) (q0b (q0v (pe_c C.ask_pieces hr (q0a (pv 0) q0c))) (q0b (q0v (pe_c C.ask_pieces hr (q0a (pv 1) q0c))) (q0b (q0i (i:=3) sc_compared.nd rfl (by trivial) (pe_c C.signs_of hr (q0a (pv 0) (q0a (pv 1) q0c)))) (q0b (q0v (pe_c C.ask_bound hr (q0a (q0s (q2e K rfl) (by rfl) T.b_len Bm (q0a (pv 3) q0c)) (q0a (pv 2) q0c)))) (q0b (q0i (i:=4) sc_compared.nd rfl (by trivial) (q1r (q0a q0g q0c))) (q0b (q1h Bo rfl (q1q rfl T.b_range (q0a (pv 2) q0c)) (q0l (i:=5) sc_compared.nd rfl (by trivial)) (q0b (q0i (i:=4) sc_compared.nd rfl (by trivial) (pe_c C.longer_names hr (q0a (pv 4) (q0a (pv 3) q0c)))) (q0d (q1h Bo rfl (@q2t _ _ _ _ K rfl (pv 4)) (q0l (i:=6) sc_compared.nd rfl (by trivial)) (q0d (q0w (q0h (ne_k K rfl hr) (pe_c C.tells hr (q0a (pv 0) (q0a (pv 6) (q0a q0f q0c)))) (pe_c C.tells hr (q0a (pv 1) (q0a (pv 6) (q0a q0f q0c)))) (nomark _)) (q0d (q0o (q0q (q0a q0g (q0a (pv 6) q0c))))) q0j)))))) (q0d (q0o (q0q (q0a q0g q0c)))))))))))),?_⟩;refine⟨_,rfl,R,_,_,_,_,rfl,ru.at_,fun H1 s1=>?_⟩;refine⟨_,rfl,S,_,_,_,_,rfl,sq.at_.same s1,fun H2 s2=>?_⟩;have s12:=s1.trans s2;refine⟨_,rfl,R,r,rfl,ru.same s12,fun H3 s3=>?_⟩;have s13:=s12.trans s3;refine⟨_,rfl,S,q,rfl,sq.same s13,fun H4 s4=>?_⟩;have s14:=s13.trans s4;refine⟨_,rfl,_,rfl,R,S,r,q,rfl,ru.same s14,sq.same s14,fun L H5 hL s5 h5=>?_⟩;have s15:=s14.trans s5;have hns:∀c∈nmO r q,c∈NS:=nmd_ns;have hnf:(nmO r q).length<=65:=z8v;have h5:H5 L=some (.lst (vC (nmO r q))):=h5;generalize nmO r q=nm at *;refine⟨_,rfl,_,_,rfl,.inl ⟨_,SqL.of h5,rfl⟩,_,rfl,nm.length,mo,by rw[Ag];rfl,hmo,by lia,hbd,?_⟩;refine⟨by show 1<=sizeLine;decide,fun N hN=>?_⟩;have s6:=(Same.refl H5).new (o:=.lst [.str (Ab "")]) hN;have h6:upd H5 N (.lst [.str (Ab "")]) N=some (.lst (vN (lev nm 0))):=q0e;have h6L:=s6 _ _ h5;generalize upd H5 N (.lst [.str (Ab "")])=H6 at s6 h6 h6L;have s16:=s15.trans s6;have few:=x4f hns hnf hmo hbd;refine⟨_,rfl,(mo:Int),rfl,by lia,by lia,q1x (n:=mo) (fun i σ' H'=>∃N x5 x6,σ'=[some (.ref R),some (.ref S),some (.int (mo:Int)),some (.ref L),some (.ref N),x5,x6]/\Same H H'/\H' L=some (.lst (vC nm))/\H' N=some (.lst (vN (lev nm i)))/\∀j m,j<i->m∈lev nm (j+1)->tellO r m 0=tellO q m 0) ⟨N,none,none,rfl,s16,h6L,h6,fun j m hj=>absurd hj (by lia)⟩ ?_ ?_⟩
  ·rintro i σ' H7 hi ⟨N,x5,x6,rfl,s7,h7L,h7N,heq⟩;have lo:=z4u hns i;refine⟨_,rfl,_,rfl,N,L,nm,lev nm i,rfl,h7N,h7L,fun n hn=>⟨by have:=(lo n hn).1;lia,(lo n hn).2⟩,hnf,Aq (few (i+1) (by lia)) (by decide),fun N2 H8 hN2 s8 h8=>?_⟩;have h8:H8 N2=some (.lst (vN (lev nm (i+1)))):=h8;have s78:=s7.trans s8;have lo1':=z4u hns (i+1);refine⟨_,rfl,.inl ⟨N2,rfl,⟨_,SqL.of h8⟩,?_⟩⟩;refine q2i (xs:=vN (lev nm (i+1))) (fun j σ' H'=>∃x5 x6,σ'=[some (.ref R),some (.ref S),some (.int (mo:Int)),some (.ref L),some (.ref N2),x5,x6]/\Same H8 H'/\∀j' m,j'<j->(lev nm (i+1))[j']?=some m->tellO r m 0=tellO q m 0) ⟨_,_,rfl,Same.refl _,fun j' m hj=>absurd hj (by lia)⟩ (fun j σ' H' _ x=>by obtain⟨_,_,_,s',_⟩:=x;exact SqL.of (s' _ _ h8)) ?_ ?_
   ·rintro j v σ' H9 hv ⟨y5,y6,rfl,s9,hej⟩;rw[Bk] at hv;obtain⟨n,hn,rfl⟩:=Br.mp hv;obtain⟨n1,n2⟩:=lo1' n (As hn);have s89:=s78.trans s9;refine⟨_,rfl,_,rfl,R,r,n,rfl,ru.same s89,⟨by lia,n2⟩,fun v1 HA sA e1 l1=>?_⟩;refine⟨_,rfl,_,rfl,S,q,n,rfl,sq.same (s89.trans sA),⟨by lia,n2⟩,fun v2 HB sB e2 l2=>?_⟩;have V1:=z8u (K:=K) e1 l1 sB;have V2:=z8u (K:=K) e2 l2 (Same.refl HB);refine .inr ⟨_,_,V1.dt,V2.dt,x2j l1,x2j l2,Aq (Nl _ _) (dep_dO _),_,rfl,?_⟩;rw[eqv_dO];have sAB:=s9.trans (sA.trans sB);refine ite2 (fun h=>?_) (fun h=>?_)
    ·have hne:tellO r n 0≠tellO q n 0:=fun z=>by rw[decide_eq_true z] at h;cases h
     refine⟨_,rfl,by show 2<=sizeLine;decide,fun T1 hT1=>?_⟩;exact kP i j n hi hn hne heq hej T1 _ ((s78.trans sAB).free hT1) ((s78.trans sAB).new hT1) q0e
    ·have heqn:tellO r n 0=tellO q n 0:=Cu fun z=>h (by rw[decide_eq_false z];rfl);refine⟨_,_,rfl,sAB,fun j' m hj' hm=>?_⟩;rcases Fm.mp hj' with hj'|rfl
     ·exact hej j' m hj' hm
     ·rw[hn] at hm;cases hm;exact heqn
   ·rintro σ' H9 ⟨y5,y6,rfl,s9,hej⟩;rw[Ag] at hej;refine⟨N2,_,_,rfl,s78.trans s9,s9 _ _ (s8 _ _ h7L),s9 _ _ h8,fun j m hj hm=>?_⟩;rcases Fm.mp hj with hj|rfl
    ·exact heq j m hj hm
    ·obtain⟨t,ht,e⟩:=Kf.mp hm |>.imp fun t e=>(⟨(Ai.mp e).1,e⟩:t<(lev nm (j+1)).length/\_)
     exact hej t m ht e
  ·rintro σ' H7 ⟨N,x5,x6,rfl,s7,h7L,h7N,heq⟩;refine⟨by show 1<=sizeLine;decide,fun T1 hT1=>?_⟩;exact kS (fun k n hk hn=>heq k n hk hn) T1 _ (s7.free hT1) (s7.new hT1) q0e
end
end K
set_option maxHeartbeats 4000000
namespace K
open PySem L2 TX
section
variable{P:Program}{w:World}{K:Af}{mg:Str->Option Value}{base:Heap}
def okAt(l:List Nat)(i:Nat):Prop:=∀c,l[i]?=some c->((l.take (i+1)).filter fun c=>decide (c∈GS)).length<=9/\(c∈GS\/c∈NS)
def spAskX(C:Addr):Sp:=fun vs H Q E=>∃l,vs=[.str (mk l)]/\l.length<=1000/\((∀i,okAt l i)->∀H',Same H H'->Q .non H') /\
 ∀i:Nat,¬okAt l i->(∀j,j<i->okAt l j)->∀ea H',Same H H'->H ea=none->Rfd H' ea C "at" (.int (i:Int))->E (.ref ea) none H'
structure CallsXX (P:Program) (w:World) (K:Af) (mg:Str->Option Value) (base:Heap) (C:Addr):Prop where
 e_NoPattern:CalE P w K mg base "NoPattern" C 1 ["self", "at"] (spIni1 C "at")
theorem q2s{H H1:Hp}{ea d:Addr}{o1 o2 o3 o4 o5:HO}(sm:Same H H1)(h1:H1 ea=none)(h2:upd H1 ea o1 d=none):Same H (upd (upd (upd (upd (upd H1 ea o1) d o2) ea o3) d o4) ea o5):=fun b o hb=>by
 have hb1:=sm b o hb;have n1:b≠ea:=fun z=>by rw[z,h1] at hb1;cases hb1
 have n2:b≠d:=fun z=>by rw[<- z,q0m n1,hb1] at h2;cases h2
 rw[q0m n1,q0m n2,q0m n1,q0m n2,q0m n1];exact hb1
theorem q9z{Cn:Addr}(D:Df K mg "ask_signs" q2u ["pattern"])(T:Txt mg)(C:CallsXX P w K mg base Cn):CalX P w K mg base "ask_signs" 3 ["pattern"] (spAskX Cn):=by
 refine D.calX sc_ask_signs (fun vs H Q E h=>?_) (fun f cdv A outer s H vs Q E hr h=>?_)
 ·obtain⟨l,rfl,_⟩:=h;rfl
 ·obtain⟨l,rfl,hlt,k,kE⟩:=h;obtain⟨_,g_NAME_SIGNS⟩:=T.NAME_SIGNS;obtain⟨_,g_GAP_SIGNS⟩:=T.GAP_SIGNS;obtain⟨_,g_MOST_GAPS⟩:=T.MOST_GAPS;refine⟨_,(q0b (q0i (i:=1) sc_ask_signs.nd rfl (by trivial) q0f) (q0d (q1h passDef rfl (@z3z _ _ _ _ _ _ _ _ K rfl rfl T.b_enumerate (q0a (pv 0) q0c) (by rfl)) (@q2h _ _ _ _ (2) _ K rfl rfl (q0r (q0l (i:=2) sc_ask_signs.nd rfl (by trivial)) (q0r (q0l (i:=3) sc_ask_signs.nd rfl (by trivial)) q1p)) (by rfl) (by rfl)) (q1f (q0w (q0h (in_k K rfl) (pv 3) (q0p (v:=.str (Ab "?*#@")) (by rfl) g_GAP_SIGNS ⟨_,rfl⟩) (by with_unfolding_all rfl)) (q0d (z0p (i:=1) sc_ask_signs.nd rfl (by trivial) q0f z2k)) q0j) (q0d (q0w (pt_j (@PW.pt _ _ _ (q6e (q0h q5l (pv 1) (q0p (v:=.int 9) (by rfl) g_MOST_GAPS ⟨_,rfl⟩) (nomark _)) (q3v (q0h (z1e K rfl) (pv 3) (q0u q0k (q0p (v:=.str (Ab "?*#@")) (by rfl) g_GAP_SIGNS ⟨_,rfl⟩) (q0p (v:=.str (Ab "abcdefghijklmnopqrstuvwxyzABCDEFGHIJKLMNOPQRSTUVWXYZ0123456789-_.")) (by rfl) g_NAME_SIGNS ⟨_,rfl⟩)) (by with_unfolding_all rfl)))))) (q0d (z8c C.e_NoPattern hr accX rfl (q0a (pv 2) q0c))) q0j)))))),?_⟩;have hlen:(mk l).length=l.length:=by rw[len,q0z]
  refine⟨_,rfl,.inl ⟨_,rfl,q4x (fun i σ' H'=>∃x2 x3,σ'=[some (.str (mk l)),some (.int (((l.take i).filter fun c=>decide (c∈GS)).length:Nat)),x2,x3]/\Same H H'/\∀j,j<i->okAt l j) ⟨none,none,rfl,Same.refl H,fun j h=>(by lia)⟩ ?_ ?_⟩⟩
  ·rintro i c T' σ' H' hc ⟨x2,x3,rfl,sm,hok⟩ hT;have hci:l[i]?=some c:=by have:=get hc;rw[q0z] at this;exact this
   have hi:i<l.length:=(Ai.mp hci).1;have hfl:((l.take (i+1)).filter fun c=>decide (c∈GS)).length<=l.length:=Aq (Cj _ _) (by rw[Bt];lia);have htake:((l.take (i+1)).filter fun c=>decide (c∈GS)).length=((l.take i).filter fun c=>decide (c∈GS)).length+(if c∈GS then 1 else 0):=by
    rw[q1b hci,Ga,Ad];congr 1;by_cases h:c∈GS
    ·rw[if_pos h,z4b h];rfl
    ·rw[if_neg h,z4c h];rfl
   refine⟨T',_,rfl,SqT.of q0e,rfl,_,_,rfl,_,_,rfl,rfl,?_⟩;generalize hH2:upd H' T' _=H2;have sm2:Same H H2:=by rw[<- hH2];exact sm.new hT
   refine⟨fun σ2 H3=>σ2=[some (.str (mk l)),some (.int (((l.take (i+1)).filter fun c=>decide (c∈GS)).length:Nat)),some (.int (i:Nat)),some (.str ⟨#[c]⟩)]/\H3=H2,?_,?_⟩
   ·rintro σ2 H3 ⟨rfl,rfl⟩;refine⟨fun b H4=>(b=true->¬okAt l i)/\(b=false->okAt l i)/\H4=H3,?_,?_⟩
    ·rintro b H4 ⟨hb1,hb0,rfl⟩;refine ite2 (fun h=>?_) (fun h=>⟨_,_,rfl,sm2,fun j hj=>?_⟩)
     ·refine⟨_,rfl,fun ea hea=>⟨ea,_,rfl,q0e,⟨i,rfl,by lia⟩,fun d hd hne=>⟨rfl,?_⟩⟩⟩;obtain⟨dd,r1,r2⟩:=raised1 (f := "at") (v:=.int ((i:Nat):Int)) hd hne;exact⟨dd,r1,kE i (hb1 h) hok ea _ (q2s sm2 hea hd) (sm2.free hea) r2⟩
     ·rcases Fm.mp hj with z|z
      ·exact hok j z
      ·rw[z];exact hb0 (by simpa using h)
    ·refine⟨_,rfl,_,_,rfl,rfl,_,rfl,?_⟩;refine iteB (fun h=>⟨fun _ z=>?_,fun z=>(by cases z),rfl⟩) (fun h=>?_)
     ·have:=(z c hci).1;have h':=of_decide_eq_true h;lia
     ·refine⟨_,rfl,.inr (.inl ⟨_,_,rfl,rfl,by decide +kernel,.inl ⟨_,_,rfl,rfl,_,rfl,?_⟩⟩)⟩;rw[q2o,gn_in];have h':=of_decide_eq_false h;refine⟨fun z y=>?_,fun z c' hc'=>?_,rfl⟩
      ·rw[decide_eq_true (y c hci).2] at z;cases z
      ·rw[hci] at hc';cases hc';refine⟨by lia,?_⟩;have:decide (c∈GS\/c∈NS)=true:=by cases q:decide (c∈GS\/c∈NS) with
        |true=>rfl
        |false=>rw[q] at z;cases z
       exact of_decide_eq_true this
   ·refine⟨_,rfl,.inl ⟨_,_,rfl,rfl,_,rfl,?_⟩⟩;rw[q2o];refine ite2 (fun h=>?_) (fun h=>?_)
    ·have h':c∈GS:=of_decide_eq_true h;refine⟨_,rfl,_,_,rfl,rfl,?_,rfl⟩;rw[htake,if_pos h'];rfl
    ·have h':¬c∈GS:=fun z=>h (decide_eq_true z);refine⟨?_,rfl⟩;rw[htake,if_neg h'];rfl
  ·rintro σ' H' ⟨x2,x3,rfl,sm,hok⟩;rw[hlen] at hok;refine k (fun i=>?_) _ sm;by_cases hi:i<l.length
   ·exact hok i hi
   ·intro c hc;rw[Oq (by lia)] at hc;cases hc
abbrev q1o:Stmt:=inClass (top 2) 0
theorem q4b:FnScope ["self", "at"] ["self", "at"] (defScope q1o):=by trivial
theorem q5v{Cn Dn:Addr}(F:Ef K mg "NoPattern" Cn Dn "NoPattern.__init__" q1o ["self", "at"])(g_HallError:mg "HallError" = some (.ref Dn))(S:ESet K Cn "at"):CalE P w K mg base "NoPattern" Cn 1 ["self", "at"] (spIni1 Cn "at"):=by
 refine F.cal q4b (fun vs H Q E h=>?_) (by decide) (fun mc f cdv A outer s H vs Q E L_low N_ini hr h=>?_)
 ·obtain⟨ea,v,rfl,_⟩:=h;rfl
 ·obtain⟨ea,v,rfl,hE,⟨n,rfl,hn⟩,k⟩:=h;refine⟨_,(q0b (q0v (x1x L_low N_ini rfl g_HallError (q0a (pv 0) (q0a (q5r q5d (q7i (pv 1)) (q6p q5d q5s)) q0c)))) (q0d (x1z K rfl (pv 0) (pv 1)))),?_⟩;have ln:=q3z 12 n (by lia);have l1:(Ab "no pattern: wrong behind ").length<=100:=by decide +kernel
  have l2:(Ab " signs").length<=100:=by decide +kernel
  have l0:Ka.length=0:=by decide +kernel
  have e1:(Ab (toString (n:Int))).length<=13:=by rw[z1j,q0n];exact ln
  refine⟨_,rfl,TX.small (by rw[q0t];lia),_,rfl,.inr ⟨n,rfl,hn,TX.small (by rw[q0t,q0t];lia),TX.small (by rw[q0t,q0t,q0t];lia),TX.small (by rw[q0t,q0t,q0t];lia),?_⟩⟩;exact⟨ea,_,none,rfl,hE,_,rfl,_,rfl,ea,Cn,rfl,S,.inl ⟨hE,fun d hd hne=>k d hd hne⟩⟩
structure Calls1X (P:Program) (w:World) (K:Af) (mg:Str->Option Value) (base:Heap) (Cn:Addr):Prop where
 e_NoPattern:CalE P w K mg base "NoPattern" Cn 1 ["self", "at"] (spIni1 Cn "at")
 ask_signs:CalX P w K mg base "ask_signs" 3 ["pattern"] (spAskX Cn)
 text_parts:Cal P w K mg base "text_parts" 1 ["text"] spTextParts
def WrongAt(l:List Nat)(i:Nat):Prop:=(l=[]/\i=0)\/(l≠[]/\¬okAt l i/\∀j,j<i->okAt l j)
theorem x4g{l:List Nat}(hne:l≠[])(hl:l.length<=1000)(h:∀i,okAt l i):Good l:=by
 refine⟨hne,fun c hc=>?_,?_,hl⟩
 ·obtain⟨i,hi,rfl⟩:=Ii.mp hc;exact(h i _ (Aw hi)).2
 ·have hp:=De.mpr hne;have:=(h (l.length-1) (l[l.length-1]'(by lia)) (Aw (by lia))).1
  rwa [show l.length-1+1=l.length by lia,Cc] at this
def spPartsX(C:Addr):Sp:=fun vs H Q E=>∃l,vs=[.str (mk l)]/\l.length<=1000/\(Good l->∀L H',H L=none->Same H H'->HL H' L (parse [] l)->Q (.ref L) H') /\
 ∀i:Nat,WrongAt l i->∀ea H',Same H H'->H ea=none->Rfd H' ea C "at" (.int (i:Int))->E (.ref ea) none H'
theorem z2a{Cn:Addr}(D:Df K mg "parts_of" q3n ["pattern"])(T:Txt mg)(C:Calls1X P w K mg base Cn):CalX P w K mg base "parts_of" 4 ["pattern"] (spPartsX Cn):=by
 refine D.calX sc_parts_of (fun vs H Q E h=>?_) (fun f cdv A outer s H vs Q E hr h=>?_)
 ·obtain⟨l,rfl,_⟩:=h;rfl
 ·obtain⟨l,rfl,hl0,k,kE⟩:=h;obtain⟨_,g_NAME_SIGNS⟩:=T.NAME_SIGNS;obtain⟨_,g_GAP_SIGNS⟩:=T.GAP_SIGNS;refine⟨_,(q0b (q0w (q0h (eq_k K rfl hr) (pv 0) q0g (nomark _)) (q0d (z8c C.e_NoPattern hr accX rfl (q0a q0f q0c))) q0j) (q0b (q0v (q2b C.ask_signs hr accX (q0a (pv 0) q0c))) (q0b (q0i (i:=1) sc_parts_of.nd rfl (by trivial) (q1r q0c)) (q0b (q0i (i:=2) sc_parts_of.nd rfl (by trivial) q0f) (q0b (q1h passDef rfl (@z3z _ _ _ _ _ _ _ _ K rfl rfl T.b_enumerate (q0a (pv 0) q0c) (by rfl)) (@q2h _ _ _ _ (2) _ K rfl rfl (q0r (q0l (i:=3) sc_parts_of.nd rfl (by trivial)) (q0r (q0l (i:=4) sc_parts_of.nd rfl (by trivial)) q1p)) (by rfl) (by rfl)) (q0d (q0w (q0h (in_k K rfl) (pv 4) (q0p (v:=.str (Ab "?*#@")) (by rfl) g_GAP_SIGNS ⟨_,rfl⟩) (by with_unfolding_all rfl)) (q0b (q0v (@bm_k _ _ _ _ _ _ _ _ _ _ _ _ K rfl Bs Gy Gz q4w (pv 1) (q0a (pe_c C.text_parts hr (q0a (q1l (sl_k K rfl) (pv 0) (q1d (pv 2)) (q1d (pv 3))) q0c)) q0c) (by rfl) (by rfl) (by rfl) (by rfl) (by rfl))) (q0b (q0v (@bm_k _ _ _ _ _ _ _ _ _ _ _ _ K rfl Bs Dc Dd q1m (pv 1) (q0a (q0q (q0a q0g (q0a (pv 4) q0c))) q0c) (by rfl) (by rfl) (by rfl) (by rfl) (by rfl))) (q0d (q0i (i:=2) sc_parts_of.nd rfl (by trivial) (q0u q0k (pv 3) q0f))))) q0j))) (q0b (q0v (@bm_k _ _ _ _ _ _ _ _ _ _ _ _ K rfl Bs Gy Gz q4w (pv 1) (q0a (pe_c C.text_parts hr (q0a (q1l (sl_k K rfl) (pv 0) (q1d (pv 2)) q6w) q0c)) q0c) (by rfl) (by rfl) (by rfl) (by rfl) (by rfl))) (q0d (q0o (pv 1))))))))),?_⟩;have hlen:(mk l).length=l.length:=by rw[len,q0z]
  refine⟨_,rfl,.inl ⟨rfl,_,rfl,?_⟩⟩;rw[z4l];by_cases hne:l=[]
  ·rw[decide_eq_true hne];refine iteT (fun ea hea=>⟨ea,_,rfl,q0e,⟨0,rfl,by decide⟩,fun d hd hne=>⟨rfl,?_⟩⟩);obtain⟨dd,r1,r2⟩:=raised1 (f := "at") (v:=.int ((0:Nat):Int)) hd hne;exact⟨dd,r1,kE 0 (.inl ⟨by assumption,rfl⟩) ea _ (q2s (Same.refl H) hea hd) hea r2⟩
  rw[decide_eq_false hne];refine iteF ?_;refine⟨_,rfl,l,rfl,hl0,fun hall H1 sm1=>?_,fun i hn hj ea H' sm hea r ea' ez=>?_⟩;rotate_left
  ·cases ez;exact kE i (.inr ⟨hne,hn,hj⟩) ea H' sm hea r
  have hg:=x4g hne hl0 hall;replace k:=k hg;refine⟨by show 0<=sizeLine;decide,fun L hL=>?_⟩;have hL0:H L=none:=sm1.free hL;have ext:∀(H':Hp) (acc:List Pt) (t:List Nat) (M:Addr) (H2:Hp),HL H' L acc->acc.length<=5000->Same H H'->H' M=none->Same H' H2->HL H2 M (tp t) ->
    ∃xs zs,H2 L=some (.lst xs)/\H2 M=some (.lst zs)/\xs.length+zs.length<=sizeLine/\HL (upd H2 L (.lst (xs++zs))) L (acc++tp t)/\Same H (upd H2 L (.lst (xs++zs))):=by
   intro H' acc t M H2 hl ha sm hM sm2 hm;obtain⟨Ts,h1,h2⟩:=hl.ex;obtain⟨Us,h3,h4⟩:=hm.ex;have l1:=h2.len;have l2:=h4.len;have l3:(tp t).length<=1:=by unfold tp;split<;>simp
   have hL2:H2 L=some (.lst (Ts.map V.ref)):=sm2 _ _ h1;refine⟨_,_,hL2,h3,by rw[Ag,Ag];exact small (by lia),⟨Ts++Us,by rw[Bf];exact q0e,?_⟩,(sm.trans sm2).put hL0⟩;exact Tups.app ((h2.keep (Same.tk sm2)).keep ((TKeep.refl H2).lst hL2)) (h4.keep ((TKeep.refl H2).lst hL2))
  refine⟨_,rfl,.inl ⟨_,rfl,q4x (fun i σ' H'=>∃acc x3 x4 bg,σ'=[some (.str (mk l)),some (.ref L),some (.int (bg:Nat)),x3,x4]/\Same H H'/\HL H' L acc/\bg<=i/\i<=l.length/\acc.length<=2*i/\acc++parse ((l.drop bg).take (i-bg)) (l.drop i)=parse [] l) ⟨[],none,none,0,rfl,(sm1.new hL),⟨[],q0e,.nil⟩,Aj _,Ax _,Aj _,by simp⟩ ?_ ?_⟩⟩
  ·rintro i c T' σ' H' hc ⟨acc,x3,x4,bg,rfl,sm,hl,hbi,hil,hal,hp⟩ hT;have hci:l[i]?=some c:=by have:=get hc;rw[q0z] at this;exact this
   have hi:i<l.length:=(Ai.mp hci).1;have hdr:l.drop i=c::l.drop (i+1):=by
    have:=Iw hi;rw[this];congr 1;exact(Ai.mp hci).2
   refine⟨T',_,rfl,SqT.of q0e,rfl,_,_,rfl,_,_,rfl,rfl,?_⟩;generalize hH2:upd H' T' _=H2;have s12:Same H' H2:=by rw[<- hH2];exact(Same.refl H').new hT
   have sm2:Same H H2:=sm.trans s12;have hl2:HL H2 L acc:=hl.same s12;refine⟨_,rfl,.inl ⟨_,_,rfl,rfl,_,rfl,?_⟩⟩;rw[q2o];rw[hdr,parse] at hp;refine ite2 (fun h=>?_) (fun h=>?_)
   ·have h':c∈GS:=of_decide_eq_true h;rw[if_pos h'] at hp;refine⟨_,rfl,.inl ⟨rfl,hl2.sq⟩,_,rfl,_,rfl,_,rfl,_,rfl,_,rfl,.inl ⟨_,rfl,small (by lia),?_⟩⟩;rw[q5f hbi hil];refine⟨_,rfl,fun M H3 hM sm3 hm=>?_⟩;obtain⟨xs,zs,e1,e2,e3,e4,e5⟩:=ext H2 acc _ M H3 hl2 (by lia) sm2 hM sm3 hm;refine⟨L,M,xs,zs,rfl,rfl,e1,e2,e3,?_⟩;generalize hH4:upd H3 L _=H4;rw[hH4] at e4 e5;refine⟨_,rfl,.inl ⟨rfl,e4.sq⟩,_,rfl,by show 2<=sizeLine;decide,fun T2 hT2=>?_⟩;have e6:HL (upd H4 T2 (.tup (Pt.gp c).vs)) L _:=e4.new hT2;obtain⟨Ts,h1,h2⟩:=e6.ex;have htl:(tp ((l.drop bg).take (i-bg))).length<=1:=by unfold tp;split<;>simp
    have hTl:=h2.len;rw[Ad] at hTl;refine⟨L,_,_,rfl,rfl,h1,by rw[Ag];exact small' (by lia),?_⟩;refine⟨_,rfl,.inl ⟨_,_,rfl,rfl,?_⟩⟩;have hT2L:T2≠L:=fun z=>by subst z;rw[q0e] at h1;cases h1
    refine⟨acc++tp ((l.drop bg).take (i-bg))++[.gp c],some (.int (i:Nat)),some (.str ⟨#[c]⟩),i+1,rfl,(e5.new hT2).put hL0,⟨Ts++[T2],by rw[Bf];exact q0e,?_⟩,Aj _,hi,by rw[Ad,Ad,Bg];lia,?_⟩
    ·refine Tups.app (h2.keep ((TKeep.refl _).lst h1)) (.cons ?_ .nil);rw[q0m hT2L];exact q0e
    ·rw[<- hp];simp
   ·have h':¬c∈GS:=fun z=>h (decide_eq_true z);rw[if_neg h'] at hp;refine⟨acc,_,_,bg,rfl,sm2,hl2,by lia,hi,by lia,?_⟩;rw[<- hp];congr 2;have e1:i+1-bg=(i-bg)+1:=by lia
    rw[e1];refine q1b ?_;rw[Hl];have e2:bg+(i-bg)=i:=by lia
    rw[e2];exact hci
  ·rintro σ' H' ⟨acc,x3,x4,bg,rfl,sm,hl,hbi,hil,hal,hp⟩;refine⟨_,rfl,.inl ⟨rfl,hl.sq⟩,_,rfl,_,rfl,_,rfl,.inl ⟨_,rfl,small (by lia),?_⟩⟩;have hbl:bg<=l.length:=by lia
   rw[q8j (by lia) (by rw[q0z];lia),q0z];refine⟨_,rfl,fun M H3 hM sm3 hm=>?_⟩;obtain⟨xs,zs,e1,e2,e3,e4,e5⟩:=ext H' acc _ M H3 hl (by lia) sm hM sm3 hm;refine⟨L,M,xs,zs,rfl,rfl,e1,e2,e3,_,rfl,?_⟩;refine k L _ hL0 e5 ?_;rw[hlen] at hp;have e6:(l.drop bg).take (l.length-bg)=l.drop bg:=Ce (by rw[Cf];exact Aj _);rw[Hb,parse,e6] at hp;have e7:((bg:Nat):Int).toNat=bg:=by lia
   rw[e7] at e4;rw[<- hp];exact e4
inductive Sx where
 |beg|beh|into|opn|cnt|gap|nou|cls
 |sum (k:Nat)
def D9:List Nat:=tl (Ab "0123456789")
def D1:List Nat:=tl (Ab "123456789")
def D2:List Nat:=tl (Ab "23456789")
def nx:Sx->Nat->Option Sx
 |.beg,c=>if c∈NS then some .beh else if c=123 then some .opn else none
 |.beh,c=>if c∈NS then some .beh else if c=123 then some .opn else if c=47 then some .into else none
 |.into,c=>if c∈NS then some .beh else if c=123 then some .opn else none
 |.opn,c=>if c=110 then some .cnt else if c∈D1 then some .gap else none
 |.cnt,c=>if c∈D2 then some .cls else if c=125 then some .beh else none
 |.gap,c=>if c=117\/c=108 then some .cls else if c=122 then some .nou else if c=43 then some (.sum 0) else if c=125 then some .beh else none
 |.nou,c=>if c∈D1 then some .cls else none
 |.cls,c=>if c=125 then some .beh else none
 |.sum 0,c=>if c=48 then some .cls else if c∈D9 then some (.sum 1) else none
 |.sum (k+1),c=>if c∈D9/\k+1≠9 then some (.sum (k+2)) else if c=125 then some .beh else none
inductive Stp (l:List Nat):Nat->Sx->Nat->Sx->Prop
 |refl {a:Nat} {s:Sx}:Stp l a s a s
 |step {a e c:Nat} {s s1 s2:Sx}:l[a]?=some c->nx s c=some s1->Stp l (a+1) s1 e s2->Stp l a s e s2
theorem Stp.trans{l:List Nat}{a e f:Nat}{s t u:Sx}(h:Stp l a s e t)(g:Stp l e t f u):Stp l a s f u:=by
 induction h with
 |refl=>exact g
 |step h1 h2 _ ih=>exact .step h1 h2 (ih g)
theorem Stp.one{l:List Nat}{a c:Nat}{s s1:Sx}(h1:l[a]?=some c)(h2:nx s c=some s1):Stp l a s (a+1) s1:=.step h1 h2 .refl
def Bad(l:List Nat)(i:Nat)(s:Sx):Prop:=(i=l.length/\s≠.beh)\/∃c,l[i]?=some c/\nx s c=none
def Refu(l:List Nat)(a:Nat)(s:Sx)(i:Nat):Prop:=∃s',Stp l a s i s'/\Bad l i s'
theorem Refu.step{l:List Nat}{a c i:Nat}{s s1:Sx}(h1:l[a]?=some c)(h2:nx s c=some s1)(h:Refu l (a+1) s1 i):Refu l a s i:=by
 obtain⟨s',g,b⟩:=h;exact⟨s',.step h1 h2 g,b⟩
theorem Refu.via{l:List Nat}{a e i:Nat}{s t:Sx}(g:Stp l a s e t)(h:Refu l e t i):Refu l a s i:=by
 obtain⟨s',g',b⟩:=h;exact⟨s',g.trans g',b⟩
theorem Stp.le{l:List Nat}{a e:Nat}{s t:Sx}(h:Stp l a s e t):a<=e:=by
 induction h with
 |refl=>exact Aj _
 |step _ _ _ ih=>lia
theorem Stp.det{l:List Nat}{a e f:Nat}{s t u:Sx}(h:Stp l a s e t)(g:Stp l a s f u)(hb:Bad l e t\/(e=l.length/\t=.beh))(gb:Bad l f u\/(f=l.length/\u=.beh)):e=f/\t=u:=by
 induction h with
 |refl =>
  cases g with
  |refl=>exact⟨rfl,rfl⟩
  |step h1 h2 g =>
   exfalso;have hlt:=(Ai.mp h1).1;rcases hb with(⟨z,_⟩|⟨c,c1,c2⟩)|⟨z,_⟩
   ·lia
   ·rw[h1] at c1;cases c1;rw[h2] at c2;cases c2
   ·lia
 |step h1 h2 h ih =>
  cases g with
  |refl =>
   exfalso;have hlt:=(Ai.mp h1).1;rcases gb with(⟨z,_⟩|⟨c,c1,c2⟩)|⟨z,_⟩
   ·lia
   ·rw[h1] at c1;cases c1;rw[h2] at c2;cases c2
   ·lia
  |step g1 g2 g =>
   rw[h1] at g1;cases g1;rw[h2] at g2;cases g2;exact ih g hb
theorem x1d{l:List Nat}{i j:Nat}(h:Refu l 0 .beg i)(g:Refu l 0 .beg j):i=j:=by
 obtain⟨s,h1,h2⟩:=h;obtain⟨t,g1,g2⟩:=g;exact(h1.det g1 (.inl h2) (.inl g2)).1
theorem x1e{l:List Nat}{i:Nat}(h:Refu l 0 .beg i)(g:Stp l 0 .beg l.length .beh):False:=by
 obtain⟨s,h1,h2⟩:=h;obtain⟨e1,e2⟩:=h1.det g (.inl h2) (.inr ⟨rfl,rfl⟩);subst e1 e2;rcases h2 with⟨_,z⟩|⟨c,c1,_⟩
 ·exact z rfl
 ·rw[Oq (Aj _)] at c1;cases c1
def Prev(l:List Nat)(a:Nat)(s:Sx):Prop:=(s=.beg/\a=0)\/(s=.into/\1<=a/\l[a-1]?=some 47)\/(s=.beh/\1<=a/\∃c,l[a-1]?=some c/\c≠47)
theorem ns47:∀c∈NS,c≠47:=by decide +kernel
theorem d_fig:∀c∈D9,48<=c/\c<=57:=by decide +kernel
theorem z8w:∀c∈D1,49<=c/\c<=57:=by decide +kernel
theorem z8x:∀c∈D2,50<=c/\c<=57:=by decide +kernel
abbrev q1k:Stmt:=inClass (top 3) 0
theorem q3u:FnScope ["self", "at"] ["self", "at"] (defScope q1k):=by trivial
theorem q5i{Cn Dn:Addr}(F:Ef K mg "NoTemplate" Cn Dn "NoTemplate.__init__" q1k ["self", "at"])(g_HallError:mg "HallError" = some (.ref Dn))(S:ESet K Cn "at"):CalE P w K mg base "NoTemplate" Cn 1 ["self", "at"] (spIni1 Cn "at"):=by
 refine F.cal q3u (fun vs H Q E h=>?_) (by decide) (fun mc f cdv A outer s H vs Q E L_low N_ini hr h=>?_)
 ·obtain⟨ea,v,rfl,_⟩:=h;rfl
 ·obtain⟨ea,v,rfl,hE,⟨n,rfl,hn⟩,k⟩:=h;refine⟨_,(q0b (q0v (x1x L_low N_ini rfl g_HallError (q0a (pv 0) (q0a (q5r q5d (q7i (pv 1)) (q6p q5d q5s)) q0c)))) (q0d (x1z K rfl (pv 0) (pv 1)))),?_⟩;have ln:=q3z 12 n (by lia);have l1:(Ab "no template: wrong behind ").length<=100:=by decide +kernel
  have l2:(Ab " signs").length<=100:=by decide +kernel
  have l0:Ka.length=0:=by decide +kernel
  have e1:(Ab (toString (n:Int))).length<=13:=by rw[z1j,q0n];exact ln
  refine⟨_,rfl,TX.small (by rw[q0t];lia),_,rfl,.inr ⟨n,rfl,hn,TX.small (by rw[q0t,q0t];lia),TX.small (by rw[q0t,q0t,q0t];lia),TX.small (by rw[q0t,q0t,q0t];lia),?_⟩⟩;exact⟨ea,_,none,rfl,hE,_,rfl,_,rfl,ea,Cn,rfl,S,.inl ⟨hE,fun d hd hne=>k d hd hne⟩⟩
def RE(H:Hp)(E:XK)(Cn:Addr)(i:Nat):Prop:=∀ea H',Same H H'->H ea=none->Rfd H' ea Cn "at" (.int ((i:Nat):Int))->E (.ref ea) none H'
def spAskedX(Cn:Addr):Sp:=fun vs H Q E=>∃(l:List Nat) (at_:Nat) (g:Str),vs=[.str (mk l),.int (at_:Int),.str g]/\l.length<=1000/\at_<=1000/\(∀c,l[at_]?=some c->c∈tl g->Q (.str (mk [c])) H)/\((∀c,l[at_]?=some c->¬c∈tl g)->RE H E Cn at_)
structure CallsN (P:Program) (w:World) (K:Af) (mg:Str->Option Value) (base:Heap) (Cn:Addr):Prop where
 e_NoTemplate:CalE P w K mg base "NoTemplate" Cn 1 ["self", "at"] (spIni1 Cn "at")
theorem z8y{Cn:Addr}(D:Df K mg "asked" q6q ["template", "at", "signs"])(T:Txt mg)(C:CallsN P w K mg base Cn):CalX P w K mg base "asked" 3 ["template", "at", "signs"] (spAskedX Cn):=by
 refine D.calX z4m (fun vs H Q E h=>?_) (fun f cdv A outer s H vs Q E hr h=>?_)
 ·obtain⟨l,at_,g,rfl,_⟩:=h;rfl
 ·obtain⟨l,at_,g,rfl,hl,ha,k,kE⟩:=h;refine⟨_,(q0b (q0w (pt_j (@PW.pt _ _ _ (q6e (q0h op_ge (pv 1) (q0s (q2e K rfl) (by rfl) T.b_len Bm (q0a (pv 0) q0c)) (nomark _)) (q3v (q0h (z1e K rfl) (q1a (ix_k K rfl) (pv 0) (pv 1) (fun _ _=>rfl)) (pv 2) (by with_unfolding_all rfl)))))) (q0d (z8c C.e_NoTemplate hr accX rfl (q0a (pv 1) q0c))) q0j) (q0d (q0o (q1a (ix_k K rfl) (pv 0) (pv 1) (fun _ _=>rfl))))),?_⟩;have hlen:=q0n l;refine⟨fun b H'=>H'=H/\(b=true->∀c,l[at_]?=some c->¬c∈tl g)/\(b=false->∃c,l[at_]?=some c/\c∈tl g),?_,?_⟩;rotate_left
  ·refine⟨_,rfl,_,rfl,_,_,rfl,⟨small (by lia),rfl⟩,_,_,rfl,rfl,_,rfl,?_⟩;refine iteB (fun h=>⟨rfl,fun _ c hc=>?_,fun z=>(by cases z)⟩) (fun h=>?_)
   ·have:=of_decide_eq_true h;have:=(Ai.mp hc).1;lia
   have hlt:at_<l.length:=by
    have:=of_decide_eq_false h;lia
   have hc:l[at_]?=some l[at_]:=Aw hlt;refine⟨_,rfl,_,rfl,.inr (.inr ⟨mk l,_,l[at_],rfl,rfl,small (by lia),q1g (show(tl (mk l))[at_]?=_ by rw[q0z];exact hc),_,rfl,.inl ⟨_,_,rfl,rfl,_,rfl,rfl,?_⟩⟩)⟩;rw[q2o];by_cases hg:l[at_]∈tl g
   ·rw[decide_eq_true hg];exact⟨(fun z=>by cases z),fun _=>⟨_,hc,hg⟩⟩
   ·rw[decide_eq_false hg];exact⟨fun _ c hc'=>by rw[hc] at hc';cases hc';exact hg,(fun z=>by cases z)⟩
  rintro b H' ⟨rfl,h1,h0⟩;refine iteB (fun h=>?_) (fun h=>?_)
  ·refine⟨_,rfl,fun ea hea=>⟨ea,_,rfl,q0e,⟨at_,rfl,by lia⟩,fun d hd hne=>⟨rfl,?_⟩⟩⟩;obtain⟨dd,r1,r2⟩:=raised1 (f := "at") (v:=.int ((at_:Nat):Int)) hd hne;exact⟨dd,r1,kE (h1 h) ea _ (q2s (Same.refl H') hea hd) hea r2⟩
  ·obtain⟨c,hc,hg⟩:=h0 h;exact⟨_,rfl,_,rfl,.inr (.inr ⟨mk l,_,c,rfl,rfl,small (by lia),q1g (show(tl (mk l))[at_]?=_ by rw[q0z];exact hc),k c hc hg⟩)⟩
theorem RE.same{H H1:Hp}{E:XK}{Cn:Addr}{i:Nat}(h:RE H E Cn i)(s:Same H H1):RE H1 E Cn i:=fun ea H' sm hea r=>h ea H' (s.trans sm) (s.free hea) r
theorem RE.up{H:Hp}{E:XK}{Cn:Addr}{i:Nat}(h:RE H E Cn i):RE H (fun e _ H'=>∀ea,e=.ref ea->E (.ref ea) none H') Cn i:=fun ea H' sm hea r ea' ez=>by
 cases ez;exact h ea H' sm hea r
structure RX (H:Hp) (Q:VK) (E:XK) (Cn:Addr) (l:List Nat) (a:Nat) (s:Sx):Prop where
 go:∀p e s',Pc.ok p->a<e->e<=l.length->Stp l a s e s'->Prev l e s'->(s'=.into↔p=.into)->RT H Q p e
 no:∀i,i<=l.length->Refu l a s i->RE H E Cn i
theorem q3s{l:List Nat}{e:Nat}(h:l[e]?=some 125):Prev l (e+1) .beh:=.inr (.inr ⟨rfl,by lia,125,by rw[Lr];exact h,by decide⟩)
theorem q6j{l:List Nat}{i c:Nat}(h:l[i]?=some c):i<l.length:=(Ai.mp h).1
theorem q7t{l:List Nat}{i:Nat}{s:Sx}(hi:i<=l.length)(hs:s≠.beh)(h:∀c,l[i]?=some c->nx s c=none):Refu l i s i:=by
 refine⟨s,.refl,?_⟩;rcases Gf i l.length with z|z
 ·exact .inr ⟨_,Aw z,h _ (Aw z)⟩
 ·exact .inl ⟨by lia,hs⟩
structure CallsA6 (P:Program) (w:World) (K:Af) (mg:Str->Option Value) (base:Heap) (Cn:Addr):Prop where
 asked:CalX P w K mg base "asked" 3 ["template", "at", "signs"] (spAskedX Cn)
 end_of:Cal P w K mg base "end_of" 1 ["template", "at", "signs", "most"] spEndOf
theorem dig{c:Nat}(h:c∈D1):∃v,c=48+v/\1<=v/\v<=9:=⟨c-48,by have:=z8w c h;lia,by have:=z8w c h;lia,by have:=z8w c h;lia⟩
theorem dig2{c:Nat}(h:c∈D2):∃v,c=48+v/\2<=v/\v<=9:=⟨c-48,by have:=z8x c h;lia,by have:=z8x c h;lia,by have:=z8x c h;lia⟩
theorem brace{c:Nat}(h:c∈tl (Ab "}")):c=125:=by
 have:∀c∈tl (Ab "}"),c=125:=by decide +kernel
 exact this c h
theorem brace':(125:Nat)∈tl (Ab "}"):=by decide +kernel
theorem z3k{l:List Nat}{H:Hp}{Q:VK}{E:XK}{Cn:Addr}{a e:Nat}{s:Sx}(x:RX H Q E Cn l a s)(g:Stp l a s e .cls)(hl:e<=l.length)(h:∀c,l[e]?=some c->¬c∈tl (Ab "}")):RE H E Cn e :=
 x.no e hl (.via g (q7t hl (by intro z;cases z) fun c hc=>by
  show(if c=125 then _ else _)=_;rw[if_neg (fun z=>h c hc (by rw[z];exact brace'))]))
theorem nx_cnt:nx .cnt 125=some .beh:=by
 show(if 125∈D2 then some Sx.cls else if 125=125 then some Sx.beh else none)=_;rw[if_neg (by decide +kernel),if_pos rfl]
def spCountX(Cn:Addr):Sp:=fun vs H Q E=>∃(l:List Nat) (a:Nat),vs=[.str (mk l),.int (a:Int)]/\l.length<=500/\a<=l.length/\RX H Q E Cn l a .cnt
theorem q8b{Cn:Addr}(D:Df K mg "read_count" q2k ["template", "at"])(T:Txt mg)(C:CallsA6 P w K mg base Cn):CalX P w K mg base "read_count" 4 ["template", "at"] (spCountX Cn):=by
 refine D.calX sc_read_count (fun vs H Q E h=>?_) (fun f cdv A outer s H vs Q E hr h=>?_)
 ·obtain⟨l,a,rfl,_⟩:=h;rfl
 ·obtain⟨l,a,rfl,hl,ha,x⟩:=h;obtain⟨_,g_FROM_TWO⟩:=T.FROM_TWO;refine⟨_,(q0b (q0i (i:=2) sc_read_count.nd rfl (by trivial) (q2b C.asked hr accX (q0a (pv 0) (q0a (pv 1) (q0a (q0u q0k q0g (q0p (v:=.str (Ab "23456789")) (by rfl) g_FROM_TWO ⟨_,rfl⟩)) q0c))))) (q0b (q0w (q0h (eq_k K rfl hr) (pv 2) q0g (nomark _)) (q0d (q0o (q0q (q0a (q0q (q0a q0g (q0a q0f q0c))) (q0a (q0u q0k (pv 1) q0f) q0c))))) q0j) (q0b (q0v (q2b C.asked hr accX (q0a (pv 0) (q0a (q0u q0k (pv 1) q0f) (q0a q0g q0c))))) (q0d (q0o (q0q (q0a (q0q (q0a q0g (q0a (q1e q2a (by rfl) T.b_int (by decide +kernel) (q0a (pv 2) q0c)) q0c))) (q0a (q0u q0k (pv 1) q0f) q0c)))))))),?_⟩;have e9:(Ab "}").length+(Ab "23456789").length<=1000:=by decide +kernel
  have hin:∀c,c∈tl (Ab "}" ++ Ab "23456789")↔c=125\/c∈D2:=fun c=>by
   rw[q2n,Az];exact⟨fun z=>z.imp brace id,fun z=>z.imp (fun y=>by rw[y];exact brace') id⟩
  refine⟨_,rfl,_,rfl,.inr (.inl ⟨_,_,rfl,rfl,small (by lia),l,a,_,rfl,by lia,by lia,fun c hc hg=>?_,fun hn=>?_⟩)⟩;rotate_left
  ·refine(x.no a ha (q7t ha (by intro z;cases z) fun c hc=>?_)).up;have:=hn c hc;rw[hin] at this;show(if c∈D2 then _ else if c=125 then _ else _)=_;rw[if_neg (fun z=>this (.inr z)),if_neg (fun z=>this (.inl z))]
  have hlt:=q6j hc;refine⟨_,rfl,.inl ⟨rfl,_,rfl,?_⟩⟩;rw[lit1 c 125 "}" (by decide +kernel)];refine ite2 (fun h=>?_) (fun h=>?_)
  ·have hc':c=125:=of_decide_eq_true h;subst hc';refine⟨by show 2<=sizeLine;decide,fun T1 hT1=>⟨_,rfl,.inl ⟨_,_,rfl,rfl,by show 2<=sizeLine;decide,fun T2 hT2=>?_⟩⟩⟩;have rt:=x.go (.cnt 1) (a+1) .beh ⟨by decide,by decide⟩ (by lia) (by lia) (.one hc nx_cnt) (q3s hc) ⟨(fun z=>by cases z),(fun z=>by cases z)⟩;exact rt.go (by show(a:Int)+1=((a+1:Nat):Int);lia) hT1 hT2
  ·have hc':c∈D2:=((hin c).mp hg).resolve_left fun z=>h (decide_eq_true z);obtain⟨v,rfl,hv2,hv9⟩:=dig2 hc';have st1:Stp l a .cnt (a+1) .cls:=.one hc (if_pos hc');refine⟨_,rfl,_,rfl,.inl ⟨_,_,rfl,rfl,l,a+1,_,rfl,by lia,by lia,fun c2 hc2 hg2=>?_,fun hn=>(z3k x st1 (by lia) hn).up⟩⟩;have e2:=brace hg2;subst e2;have hlt2:=q6j hc2;refine⟨_,rfl,.inr ⟨_,_,rfl,q8q (by lia),by rw[q0n];show 1<=640;decide,by show 2<=sizeLine;decide,fun T1 hT1=>⟨_,rfl,.inl ⟨_,_,rfl,rfl,by show 2<=sizeLine;decide,fun T2 hT2=>?_⟩⟩⟩⟩;have rt:=x.go (.cnt v) (a+2) .beh ⟨by lia,by lia⟩ (by lia) (by lia) (st1.trans (.one hc2 rfl)) (q3s hc2) ⟨(fun z=>by cases z),(fun z=>by cases z)⟩;exact rt.go (by show(a:Int)+2=((a+2:Nat):Int);lia) hT1 hT2
def spNoughtsX(Cn:Addr):Sp:=fun vs H Q E=>∃(l:List Nat) (a g:Nat),vs=[.str (mk l),.int (a:Int),.int (g:Int)]/\l.length<=500/\a<=l.length/\(1<=g/\g<=9)/\RX H Q E Cn l a .nou
theorem q6k{Cn:Addr}(D:Df K mg "read_noughts" q2c ["template", "at", "gap"])(T:Txt mg)(C:CallsA6 P w K mg base Cn):CalX P w K mg base "read_noughts" 4 ["template", "at", "gap"] (spNoughtsX Cn):=by
 refine D.calX sc_read_noughts (fun vs H Q E h=>?_) (fun f cdv A outer s H vs Q E hr h=>?_)
 ·obtain⟨l,a,g,rfl,_⟩:=h;rfl
 ·obtain⟨l,a,g,rfl,hl,ha,hg,x⟩:=h;obtain⟨_,g_FROM_ONE⟩:=T.FROM_ONE;refine⟨_,(q0b (q0i (i:=3) sc_read_noughts.nd rfl (by trivial) (q2b C.asked hr accX (q0a (pv 0) (q0a (pv 1) (q0a (q0p (v:=.str (Ab "123456789")) (by rfl) g_FROM_ONE ⟨_,rfl⟩) q0c))))) (q0b (q0v (q2b C.asked hr accX (q0a (pv 0) (q0a (q0u q0k (pv 1) q0f) (q0a q0g q0c))))) (q0d (q0o (q0q (q0a (q0q (q0a q0g (q0a (pv 2) (q0a (q1e q2a (by rfl) T.b_int (by decide +kernel) (q0a (pv 3) q0c)) q0c)))) (q0a (q0u q0k (pv 1) q0f) q0c))))))),?_⟩;refine⟨_,rfl,_,rfl,l,a,_,rfl,by lia,by lia,fun c hc hg1=>?_,fun hn=>?_⟩;rotate_left
  ·exact(x.no a ha (q7t ha (by intro z;cases z) fun c hc=>if_neg (hn c hc))).up
  have hlt:=q6j hc;have hc1:c∈D1:=hg1;obtain⟨v,rfl,hv1,hv9⟩:=dig hc1;have st1:Stp l a .nou (a+1) .cls:=.one hc (if_pos hc1);refine⟨_,rfl,_,rfl,.inl ⟨_,_,rfl,rfl,l,a+1,_,rfl,by lia,by lia,fun c2 hc2 hg2=>?_,fun hn=>(z3k x st1 (by lia) hn).up⟩⟩;have e2:=brace hg2;subst e2;have hlt2:=q6j hc2;refine⟨_,rfl,_,rfl,.inr ⟨_,_,rfl,q8q (by lia),by rw[q0n];show 1<=640;decide,by show 3<=sizeLine;decide,fun T1 hT1=>⟨_,rfl,.inl ⟨_,_,rfl,rfl,by show 2<=sizeLine;decide,fun T2 hT2=>?_⟩⟩⟩⟩;have rt:=x.go (.nou g v) (a+2) .beh ⟨hg,by lia,by lia⟩ (by lia) (by lia) (st1.trans (.one hc2 rfl)) (q3s hc2) ⟨(fun z=>by cases z),(fun z=>by cases z)⟩;exact rt.go (by show(a:Int)+2=((a+2:Nat):Int);lia) hT1 hT2
theorem z8z(g:List Nat):∀(l:List Nat) (a most:Nat),a<=l.length->∃k,k<=most/\a+k<=l.length/\(∀j,j<k->∃c,l[a+j]?=some c/\c∈g)/\(k=most\/a+k=l.length\/∃c,l[a+k]?=some c/\¬c∈g)
 |l,a,0,h=>⟨0,Aj _,h,fun j z=>(by lia),.inl rfl⟩
 |l,a,most+1,h=>by
  rcases Gf a l.length with z|z
  ·have hc:l[a]?=some l[a]:=Aw z;by_cases hg:l[a]∈g
   ·obtain⟨k,h1,h2,h3,h4⟩:=z8z g l (a+1) most z;refine⟨k+1,by lia,by lia,fun j hj=>?_,?_⟩
    ·cases j with
     |zero=>exact⟨_,hc,hg⟩
     |succ j =>
      obtain⟨c,c1,c2⟩:=h3 j (by lia);exact⟨c,by rw[show a+(j+1)=a+1+j from by lia];exact c1,c2⟩
    ·rcases h4 with h4|h4|⟨c,c1,c2⟩
     ·exact .inl (by lia)
     ·exact .inr (.inl (by lia))
     ·exact .inr (.inr ⟨c,by rw[show a+(k+1)=a+1+k from by lia];exact c1,c2⟩)
   ·exact⟨0,Ax _,h,fun j z=>(by lia),.inr (.inr ⟨_,hc,hg⟩)⟩
  ·exact⟨0,Ax _,h,fun j z=>(by lia),.inr (.inl (by lia))⟩
theorem z9a{l:List Nat}{a:Nat}:∀(k:Nat),k<=9->1<=k->(∀j,j<k->∃c,l[a+j]?=some c/\c∈D9)->(∀c,l[a]?=some c->c≠48)->Stp l a (.sum 0) (a+k) (.sum k)
 |0,_,h,_,_=>absurd h (by decide)
 |1,_,_,h,h0=>by
  obtain⟨c,c1,c2⟩:=h 0 (by decide);refine .one c1 ?_;show(if c=48 then _ else if c∈D9 then _ else _)=_;rw[if_neg (h0 c c1),if_pos c2]
 |k+2,h9,_,h,h0=>by
  refine(z9a (k+1) (by lia) (by lia) (fun j hj=>h j (by lia)) h0).trans ?_;obtain⟨c,c1,c2⟩:=h (k+1) (by lia);refine .one c1 ?_;show(if c∈D9/\k+1≠9 then _ else _)=_;rw[if_pos ⟨c2,by lia⟩]
theorem z4z{l:List Nat}{a k:Nat}(h:a+k<=l.length){g:List Nat}(hg:∀j,j<k->∃c,l[a+j]?=some c/\c∈g):∀c∈(l.drop a).take k,c∈g:=fun c hc=>by
 obtain⟨j,hj,rfl⟩:=Ii.mp hc;have hjk:j<k:=by rw[Bt] at hj;lia
 obtain⟨c,c1,c2⟩:=hg j hjk;rw[List.getElem_take,List.getElem_drop];have:l[a+j]?=some (l[a+j]'(by lia)):=Aw _;rw[c1] at this;cases this;exact c2
theorem dg_of:∀(k:Nat) (ds:List Nat),ds.length=k->1<=k->(∀c∈ds,c∈D9)->(k=1\/∀c,ds[0]?=some c->c≠48)->∃m,m<10^k/\ds=dg m/\(2<=k->1<=m)
 |0,_,_,h,_,_=>absurd h (by decide)
 |1,ds,hl,_,hd,_=>by
  match ds,hl with
  |[c],_ =>
   have:=d_fig c (hd c (by simp));refine⟨c-48,by lia,?_,fun z=>absurd z (by decide)⟩;rw[q2j (by lia)];congr 1;lia
 |k+2,ds,hl,_,hd,h0=>by
  have hne:ds≠[]:=fun z=>by rw[z] at hl;simp at hl
  have es:=(Cv hne).symm;have hdl:ds.dropLast.length=k+1:=by rw[Pa];lia
  have h00:∀c,ds.dropLast[0]?=some c->c≠48:=fun c hc=>by
   refine(h0.resolve_left (by lia)) c ?_;rw[es,Bj (by rw[hdl];lia)];exact hc
  obtain⟨m,hm,em,h1⟩:=dg_of (k+1) ds.dropLast hdl (by lia) (fun c hc=>hd c (List.dropLast_subset _ hc)) (.inr h00);have hlast:=d_fig _ (hd _ (Rm hne));have m1:1<=m:=by
   rcases Jf m with z|z
   ·exfalso;subst z;have:=h00 48 (by rw[em];rfl);exact this rfl
   ·exact z
  generalize hg:ds.getLast hne=d at es hlast;refine⟨10*m+(d-48),?_,?_,fun _=>by lia⟩
  ·have:10^(k+2)=10*10^(k+1):=by rw[Jd];lia
   rw[this];lia
  ·rw[es,em,q9i (m:=10*m+(d-48)) (by lia)];have e1:(10*m+(d-48)) / 10=m:=by lia
   have e2:48+(10*m+(d-48))%10=d:=by lia
   rw[e1,e2]
def spMoreX(Cn:Addr):Sp:=fun vs H Q E=>∃(l:List Nat) (a g:Nat),vs=[.str (mk l),.int (a:Int),.int (g:Int)]/\l.length<=500/\a<=l.length/\(1<=g/\g<=9)/\RX H Q E Cn l a (.sum 0)
theorem z0a{Cn:Addr}(D:Df K mg "read_more" q2v ["template", "at", "gap"])(T:Txt mg)(C:CallsA6 P w K mg base Cn):CalX P w K mg base "read_more" 4 ["template", "at", "gap"] (spMoreX Cn):=by
 refine D.calX sc_read_more (fun vs H Q E h=>?_) (fun f cdv A outer s H vs Q E hr h=>?_)
 ·obtain⟨l,a,g,rfl,_⟩:=h;rfl
 ·obtain⟨l,a,g,rfl,hl,ha,hg,x⟩:=h;obtain⟨_,g_FIGURES⟩:=T.FIGURES;obtain⟨_,g_MOST_FIGURES⟩:=T.MOST_FIGURES;refine⟨_,(q0b (q0i (i:=3) sc_read_more.nd rfl (by trivial) (q2b C.asked hr accX (q0a (pv 0) (q0a (pv 1) (q0a (q0p (v:=.str (Ab "0123456789")) (by rfl) g_FIGURES ⟨_,rfl⟩) q0c))))) (q0b (q0i (i:=4) sc_read_more.nd rfl (by trivial) (pe_c C.end_of hr (q0a (pv 0) (q0a (pv 1) (q0a (q0p (v:=.str (Ab "0123456789")) (by rfl) g_FIGURES ⟨_,rfl⟩) (q0a (pe_j (q8x (q0h (eq_k K rfl hr) (pv 3) q0g (nomark _)) q0f (q0p (v:=.int 9) (by rfl) g_MOST_FIGURES ⟨_,rfl⟩))) q0c)))))) (q0b (q0v (q2b C.asked hr accX (q0a (pv 0) (q0a (pv 4) (q0a q0g q0c))))) (q0d (q0o (q0q (q0a (q0q (q0a q0g (q0a (pv 2) (q0a (q1e q2a (by rfl) T.b_int (by decide +kernel) (q0a (q1l (sl_k K rfl) (pv 0) (q1d (pv 1)) (q1d (pv 4))) q0c)) q0c)))) (q0a (q0u q0k (pv 4) q0f) q0c)))))))),?_⟩;have hlen:=q0n l;refine⟨_,rfl,_,rfl,l,a,_,rfl,by lia,by lia,fun c hc hg1=>?_,fun hn=>?_⟩;rotate_left
  ·refine(x.no a ha (q7t ha (by intro z;cases z) fun c hc=>?_)).up;have hn':¬c∈D9:=hn c hc;show(if c=48 then some Sx.cls else if c∈D9 then some (Sx.sum 1) else none)=_;rw[if_neg (fun z=>hn' (by rw[z];decide +kernel)),if_neg hn']
  have hlt:=q6j hc;have hc9:c∈D9:=hg1;refine⟨_,rfl,_,rfl,?_⟩;refine⟨fun v H'=>H'=H/\((c=48/\v=.int 1)\/(c≠48/\v=.int 9)),?_,?_⟩;rotate_left
  ·refine⟨_,rfl,.inl ⟨rfl,_,rfl,?_⟩⟩;rw[lit1 c 48 "0" (by decide +kernel)];refine ite2 (fun h=>⟨rfl,.inl ⟨of_decide_eq_true h,rfl⟩⟩) (fun h=>⟨rfl,.inr ⟨fun z=>h (decide_eq_true z),rfl⟩⟩)
  rintro v H' ⟨rfl,hv⟩;obtain⟨most,rfl,hm⟩:∃most:Nat,v=.int (most:Int)/\((c=48/\most=1)\/(c≠48/\most=9)):=by
   rcases hv with⟨z,rfl⟩|⟨z,rfl⟩
   ·exact⟨1,rfl,.inl ⟨z,rfl⟩⟩
   ·exact⟨9,rfl,.inr ⟨z,rfl⟩⟩
  obtain⟨k,k1,k2,k3,k4⟩:=z8z D9 l a most ha;have kp:1<=k:=by
   rcases Jf k with z|z
   ·exfalso;subst z;rcases k4 with k4|k4|⟨c',c1,c2⟩
    ·lia
    ·lia
    ·rw[Qk,hc] at c1;cases c1;exact c2 hc9
   ·exact z
  refine⟨l,a,most,k,_,rfl,by lia,k2,k1,k3,k4,?_⟩;have st:∃s1,Stp l a (.sum 0) (a+k) s1/\s1≠.beh/\(∀c',l[a+k]?=some c'->nx s1 c'=if c'=125 then some .beh else none):=by
   rcases hm with⟨z,rfl⟩|⟨z,rfl⟩
   ·have ek:k=1:=by lia
    subst ek;refine⟨.cls,.one hc ?_,(by intro z;cases z),fun c' _=>rfl⟩;show(if c=48 then some Sx.cls else if c∈D9 then some (Sx.sum 1) else none)=_;rw[if_pos z]
   ·refine⟨.sum k,z9a k k1 kp k3 (fun c' h'=>by rw[hc] at h';cases h';exact z),(by intro z;cases z),fun c' hc'=>?_⟩;obtain⟨k',rfl⟩:∃k',k=k'+1:=⟨k-1,by lia⟩
    show(if c'∈D9/\k'+1≠9 then some (Sx.sum (k'+2)) else if c'=125 then some Sx.beh else none)=_;rw[if_neg];rintro⟨y1,y2⟩;rcases k4 with k4|k4|⟨c2,c1,c3⟩
    ·exact y2 k4
    ·have:=q6j hc';lia
    ·rw[hc'] at c1;cases c1;exact c3 y1
  obtain⟨s1,st1,ns1,nx1⟩:=st;refine⟨_,rfl,_,rfl,l,a+k,_,rfl,by lia,by lia,fun c2 hc2 hg2=>?_,fun hn=>?_⟩;rotate_left
  ·refine(x.no (a+k) (by lia) (.via st1 (q7t (by lia) ns1 fun c' hc'=>?_))).up;rw[nx1 c' hc',if_neg (fun z=>hn c' hc' (by rw[z];exact brace'))]
  have e2:=brace hg2;subst e2;have hlt2:=q6j hc2;have htl:((l.drop a).take k).length=k:=by rw[Bt,Cf];lia
  obtain⟨m,hm9,em,_⟩:=dg_of k _ htl kp (z4z k2 k3) (by
   rcases hm with⟨_,y⟩|⟨y,_⟩
   ·exact .inl (by lia)
   ·refine .inr fun c' h'=>?_;rw[Mn (by lia),Hl,Qk,hc] at h';cases h';exact y)
  have hm10:m<10^9:=Bh hm9 (Fl (by decide) (by rcases hm with⟨_,y⟩|⟨_,y⟩<;>lia));refine⟨_,rfl,_,rfl,_,rfl,_,rfl,_,rfl,_,rfl,.inl ⟨_,rfl,small (by lia),?_⟩⟩;rw[q3y (by lia) (by lia),show a+k-a=k from by lia,em];refine .inr ⟨_,_,rfl,z2x (by lia),by rw[q0n,<- em,htl];lia,by show 3<=sizeLine;decide,fun T1 hT1=>⟨_,rfl,.inl ⟨_,_,rfl,rfl,by show 2<=sizeLine;decide,fun T2 hT2=>?_⟩⟩⟩;have rt:=x.go (.more g m) (a+k+1) .beh ⟨hg,hm10⟩ (by lia) (by lia) (st1.trans (.one hc2 (by rw[nx1 125 hc2,if_pos rfl]))) (q3s hc2) ⟨(fun z=>by cases z),(fun z=>by cases z)⟩;exact rt.go (by show((a+k:Nat):Int)+1=((a+k+1:Nat):Int);lia) hT1 hT2
structure CallsG6 (P:Program) (w:World) (K:Af) (mg:Str->Option Value) (base:Heap) (Cn:Addr):Prop where
 asked:CalX P w K mg base "asked" 3 ["template", "at", "signs"] (spAskedX Cn)
 read_noughts:CalX P w K mg base "read_noughts" 4 ["template", "at", "gap"] (spNoughtsX Cn)
 read_more:CalX P w K mg base "read_more" 4 ["template", "at", "gap"] (spMoreX Cn)
 cases_:∃d,mg "CASES" = some (.ref d)/\KDict P w K d casesKV
theorem RX.step{H:Hp}{Q:VK}{E:XK}{Cn:Addr}{l:List Nat}{a c:Nat}{s s1:Sx}(x:RX H Q E Cn l a s)(h1:l[a]?=some c)(h2:nx s c=some s1):RX H Q E Cn l (a+1) s1 :=
 ⟨fun p e s' ok h3 h4 h5 h6 h7=>x.go p e s' ok (by lia) h4 (.step h1 h2 h5) h6 h7,fun i h3 h4=>x.no i h3 (.step h1 h2 h4)⟩
theorem RX.up{H:Hp}{Q:VK}{E:XK}{Cn:Addr}{l:List Nat}{a:Nat}{s:Sx}(x:RX H Q E Cn l a s):RX H Q (fun e _ H'=>∀ea,e=.ref ea->E (.ref ea) none H') Cn l a s :=
 ⟨x.go,fun i h1 h2=>(x.no i h1 h2).up⟩
theorem x2k:∀c,c∈tl (Ab "}ulz+")↔c=125\/c=117\/c=108\/c=122\/c=43:=fun c=>by
 rw[show tl (Ab "}ulz+")=[125,117,108,122,43] from by decide +kernel];simp
def spGapX(Cn:Addr):Sp:=fun vs H Q E=>∃(l:List Nat) (a g:Nat),vs=[.str (mk l),.int (a:Int),.int (g:Int)]/\l.length<=500/\a<=l.length/\(1<=g/\g<=9)/\RX H Q E Cn l a .gap
theorem z2b{Cn:Addr}(D:Df K mg "read_gap" q3o ["template", "at", "gap"])(T:Txt mg)(C:CallsG6 P w K mg base Cn):CalX P w K mg base "read_gap" 5 ["template", "at", "gap"] (spGapX Cn):=by
 refine D.calX sc_read_gap (fun vs H Q E h=>?_) (fun f cdv A outer s H vs Q E hr h=>?_)
 ·obtain⟨l,a,g,rfl,_⟩:=h;rfl
 ·obtain⟨l,a,g,rfl,hl,ha,hg,x⟩:=h;obtain⟨dC,g_CASES,k_CASES⟩:=C.cases_;refine⟨_,(q0b (q0i (i:=3) sc_read_gap.nd rfl (by trivial) (q2b C.asked hr accX (q0a (pv 0) (q0a (pv 1) (q0a q0g q0c))))) (q0b (q0w (q0h (eq_k K rfl hr) (pv 3) q0g (nomark _)) (q0d (q0o (q0q (q0a (q0q (q0a q0g (q0a (pv 2) q0c))) (q0a (q0u q0k (pv 1) q0f) q0c))))) q0j) (q0b (q0w (q0h (eq_k K rfl hr) (pv 3) q0g (nomark _)) (q0d (q0o (q2b C.read_noughts hr accX (q0a (pv 0) (q0a (q0u q0k (pv 1) q0f) (q0a (pv 2) q0c)))))) q0j) (q0b (q0w (q0h (eq_k K rfl hr) (pv 3) q0g (nomark _)) (q0d (q0o (q2b C.read_more hr accX (q0a (pv 0) (q0a (q0u q0k (pv 1) q0f) (q0a (pv 2) q0c)))))) q0j) (q0b (q0v (q2b C.asked hr accX (q0a (pv 0) (q0a (q0u q0k (pv 1) q0f) (q0a q0g q0c))))) (q0d (q0o (q0q (q0a (q0q (q0a (z7w (by rfl) g_CASES k_CASES (pv 3) (fun _ _=>rfl)) (q0a (pv 2) q0c))) (q0a (q0u q0k (pv 1) q0f) q0c)))))))))),?_⟩;have hnx:∀c,nx .gap c=if c=117\/c=108 then some Sx.cls else if c=122 then some Sx.nou else if c=43 then some (Sx.sum 0) else if c=125 then some Sx.beh else none:=fun c=>rfl
  refine⟨_,rfl,_,rfl,l,a,_,rfl,by lia,by lia,fun c hc hg1=>?_,fun hn=>?_⟩;rotate_left
  ·refine(x.no a ha (q7t ha (by intro z;cases z) fun c hc=>?_)).up;have hn':=hn c hc;rw[x2k] at hn';rw[hnx,if_neg (fun z=>hn' (.inr (z.elim .inl fun y=>.inr (.inl y)))),if_neg (fun z=>hn' (.inr (.inr (.inr (.inl z))))),if_neg (fun z=>hn' (.inr (.inr (.inr (.inr z))))),if_neg (fun z=>hn' (.inl z))]
  have hlt:=q6j hc;rw[x2k] at hg1;refine⟨_,rfl,.inl ⟨rfl,_,rfl,?_⟩⟩;rw[lit1 c 125 "}" (by decide +kernel)];refine ite2 (fun h=>?_) (fun h=>?_)
  ·have e:=of_decide_eq_true h;subst e;refine⟨_,rfl,by show 2<=sizeLine;decide,fun T1 hT1=>⟨_,rfl,.inl ⟨_,_,rfl,rfl,by show 2<=sizeLine;decide,fun T2 hT2=>?_⟩⟩⟩;have rt:=x.go (.gap g) (a+1) .beh hg (by lia) (by lia) (.one hc (by rw[hnx];rfl)) (q3s hc) ⟨(fun z=>by cases z),(fun z=>by cases z)⟩;exact rt.go (by show(a:Int)+1=((a+1:Nat):Int);lia) hT1 hT2
  have n1:c≠125:=fun z=>h (decide_eq_true z);refine⟨_,rfl,.inl ⟨rfl,_,rfl,?_⟩⟩;rw[lit1 c 122 "z" (by decide +kernel)];refine ite2 (fun h=>?_) (fun h=>?_)
  ·have e:=of_decide_eq_true h;subst e;exact⟨_,rfl,_,rfl,.inl ⟨_,_,rfl,rfl,_,rfl,l,a+1,g,rfl,hl,hlt,hg,(x.step hc (by rw[hnx];rfl)).up⟩⟩
  have n2:c≠122:=fun z=>h (decide_eq_true z);refine⟨_,rfl,.inl ⟨rfl,_,rfl,?_⟩⟩;rw[lit1 c 43 "+" (by decide +kernel)];refine ite2 (fun h=>?_) (fun h=>?_)
  ·have e:=of_decide_eq_true h;subst e;exact⟨_,rfl,_,rfl,.inl ⟨_,_,rfl,rfl,_,rfl,l,a+1,g,rfl,hl,hlt,hg,(x.step hc (by rw[hnx];rfl)).up⟩⟩
  have n3:c≠43:=fun z=>h (decide_eq_true z);have hul:c=117\/c=108:=by
   rcases hg1 with z|z|z|z|z
   ·exact absurd z n1
   ·exact .inl z
   ·exact .inr z
   ·exact absurd z n2
   ·exact absurd z n3
  have st1:Stp l a .gap (a+1) .cls:=.one hc (by rw[hnx,if_pos hul]);refine⟨_,rfl,_,rfl,.inl ⟨_,_,rfl,rfl,l,a+1,_,rfl,by lia,by lia,fun c2 hc2 hg2=>?_,fun hn=>(z3k x st1 (by lia) hn).up⟩⟩;have e2:=brace hg2;subst e2;have hlt2:=q6j hc2;rcases hul with e|e
  ·subst e;refine⟨_,rfl,Sum.inr (Ab "u"),.str (Ab "great"),congrArg V.str (by decide +kernel:mk [117]=Ab "u"),by decide +kernel,_,rfl,by show 2<=sizeLine;decide,fun T1 hT1=>⟨_,rfl,.inl ⟨_,_,rfl,rfl,by show 2<=sizeLine;decide,fun T2 hT2=>?_⟩⟩⟩;have rt:=x.go (.great g) (a+2) .beh hg (by lia) (by lia) (st1.trans (.one hc2 rfl)) (q3s hc2) ⟨(fun z=>by cases z),(fun z=>by cases z)⟩;exact rt.go (by show(a:Int)+2=((a+2:Nat):Int);lia) hT1 hT2
  ·subst e;refine⟨_,rfl,Sum.inr (Ab "l"),.str (Ab "small"),congrArg V.str (by decide +kernel:mk [108]=Ab "l"),by decide +kernel,_,rfl,by show 2<=sizeLine;decide,fun T1 hT1=>⟨_,rfl,.inl ⟨_,_,rfl,rfl,by show 2<=sizeLine;decide,fun T2 hT2=>?_⟩⟩⟩;have rt:=x.go (.small g) (a+2) .beh hg (by lia) (by lia) (st1.trans (.one hc2 rfl)) (q3s hc2) ⟨(fun z=>by cases z),(fun z=>by cases z)⟩;exact rt.go (by show(a:Int)+2=((a+2:Nat):Int);lia) hT1 hT2
structure CallsM6 (P:Program) (w:World) (K:Af) (mg:Str->Option Value) (base:Heap) (Cn:Addr):Prop where
 asked:CalX P w K mg base "asked" 3 ["template", "at", "signs"] (spAskedX Cn)
 read_count:CalX P w K mg base "read_count" 4 ["template", "at"] (spCountX Cn)
 read_gap:CalX P w K mg base "read_gap" 5 ["template", "at", "gap"] (spGapX Cn)
def spMarkX(Cn:Addr):Sp:=fun vs H Q E=>∃(l:List Nat) (a:Nat),vs=[.str (mk l),.int (a:Int)]/\l.length<=500/\a<=l.length/\RX H Q E Cn l a .opn
theorem z0b{Cn:Addr}(D:Df K mg "read_mark" q2y ["template", "at"])(T:Txt mg)(C:CallsM6 P w K mg base Cn):CalX P w K mg base "read_mark" 6 ["template", "at"] (spMarkX Cn):=by
 refine D.calX sc_read_mark (fun vs H Q E h=>?_) (fun f cdv A outer s H vs Q E hr h=>?_)
 ·obtain⟨l,a,rfl,_⟩:=h;rfl
 ·obtain⟨l,a,rfl,hl,ha,x⟩:=h;obtain⟨_,g_FROM_ONE⟩:=T.FROM_ONE;refine⟨_,(q0b (q0i (i:=2) sc_read_mark.nd rfl (by trivial) (q2b C.asked hr accX (q0a (pv 0) (q0a (pv 1) (q0a (q0u q0k q0g (q0p (v:=.str (Ab "123456789")) (by rfl) g_FROM_ONE ⟨_,rfl⟩)) q0c))))) (q0b (q0w (q0h (eq_k K rfl hr) (pv 2) q0g (nomark _)) (q0d (q0o (q2b C.read_count hr accX (q0a (pv 0) (q0a (q0u q0k (pv 1) q0f) q0c))))) q0j) (q0d (q0o (q2b C.read_gap hr accX (q0a (pv 0) (q0a (q0u q0k (pv 1) q0f) (q0a (q1e q2a (by rfl) T.b_int (by decide +kernel) (q0a (pv 2) q0c)) q0c)))))))),?_⟩;have e9:(Ab "n").length+(Ab "123456789").length<=1000:=by decide +kernel
  have hin:∀c,c∈tl (Ab "n" ++ Ab "123456789")↔c=110\/c∈D1:=fun c=>by
   rw[q2n,Az,show tl (Ab "n")=[110] from by decide +kernel,Al];exact Iff.rfl
  have hnx:∀c,nx .opn c=if c=110 then some Sx.cnt else if c∈D1 then some Sx.gap else none:=fun c=>rfl
  refine⟨_,rfl,_,rfl,.inr (.inl ⟨_,_,rfl,rfl,TX.small (by lia),l,a,_,rfl,by lia,by lia,fun c hc hg=>?_,fun hn=>?_⟩)⟩;rotate_left
  ·refine(x.no a ha (q7t ha (by intro z;cases z) fun c hc=>?_)).up;have:=hn c hc;rw[hin] at this;rw[hnx,if_neg (fun z=>this (.inl z)),if_neg (fun z=>this (.inr z))]
  have hlt:=q6j hc;refine⟨_,rfl,.inl ⟨rfl,_,rfl,?_⟩⟩;rw[lit1 c 110 "n" (by decide +kernel)];refine ite2 (fun h=>?_) (fun h=>?_)
  ·have e:=of_decide_eq_true h;subst e;exact⟨_,rfl,_,rfl,.inl ⟨_,_,rfl,rfl,l,a+1,rfl,hl,hlt,(x.step hc (by rw[hnx,if_pos rfl])).up⟩⟩
  ·have n1:c≠110:=fun z=>h (decide_eq_true z);have hc1:=((hin c).mp hg).resolve_left n1;have x1:=x.step hc (by rw[hnx,if_neg n1,if_pos hc1]);obtain⟨v,rfl,hv1,hv9⟩:=dig hc1;exact⟨_,rfl,_,rfl,.inl ⟨_,_,rfl,rfl,_,rfl,.inr ⟨_,_,rfl,q8q (by lia),by rw[q0n];show 1<=640;decide,l,a+1,v,rfl,hl,hlt,⟨hv1,hv9⟩,x1.up⟩⟩⟩
def spIntoX(Cn:Addr):Sp:=fun vs H Q E=>∃(l:List Nat) (a:Nat) (s:Sx),vs=[.str (mk l),.int (a:Int)]/\l.length<=500/\l[a]?=some 47/\Prev l a s/\RX H Q E Cn l a s
theorem nx47{s:Sx}{l:List Nat}{a:Nat}(p:Prev l a s):(s=.beh->nx s 47=some .into)/\(s≠.beh->nx s 47=none):=by
 rcases p with⟨rfl,_⟩|⟨rfl,_⟩|⟨rfl,_⟩
 ·refine⟨(fun z=>by cases z),fun _=>?_⟩;show(if 47∈NS then some Sx.beh else if 47=123 then some Sx.opn else none)=_;rw[if_neg no47,if_neg (by decide)]
 ·refine⟨(fun z=>by cases z),fun _=>?_⟩;show(if 47∈NS then some Sx.beh else if 47=123 then some Sx.opn else none)=_;rw[if_neg no47,if_neg (by decide)]
 ·refine⟨fun _=>?_,fun z=>absurd rfl z⟩;show(if 47∈NS then some Sx.beh else if 47=123 then some Sx.opn else if 47=47 then some Sx.into else none)=_;rw[if_neg no47,if_neg (by decide),if_pos rfl]
theorem z0c{Cn:Addr}(D:Df K mg "read_into" q2x ["template", "at"])(T:Txt mg)(C:CallsN P w K mg base Cn):CalX P w K mg base "read_into" 3 ["template", "at"] (spIntoX Cn):=by
 refine D.calX q6d (fun vs H Q E h=>?_) (fun f cdv A outer s H vs Q E hr h=>?_)
 ·obtain⟨l,a,s,rfl,_⟩:=h;rfl
 ·obtain⟨l,a,st,rfl,hl,hc,pvv,x⟩:=h;refine⟨_,(q0b (q0w (pt_j (@PW.pt _ _ _ (q6e (q0h (eq_k K rfl hr) (pv 1) q0f (nomark _)) (q3v (q0h (eq_k K rfl hr) (q1a (ix_k K rfl) (pv 0) (q0u z0q (pv 1) q0f) (fun _ _=>rfl)) q0g (nomark _)))))) (q0d (z8c C.e_NoTemplate hr accX rfl (q0a (pv 1) q0c))) q0j) (q0d (q0o (q0q (q0a (q0q (q0a q0g q0c)) (q0a (q0u q0k (pv 1) q0f) q0c)))))),?_⟩;have hlen:=q0n l;have hlt:=q6j hc;refine⟨fun b H'=>H'=H/\(b=true↔st≠.beh),?_,?_⟩;rotate_left
  ·refine⟨_,rfl,.inl ⟨rfl,_,rfl,?_⟩⟩;rcases pvv with⟨rfl,rfl⟩|⟨rfl,ha,hp⟩|⟨rfl,ha,c,hp,hn⟩
   ·exact iteT ⟨rfl,(fun _ z=>by cases z),fun _=>rfl⟩
   ·rw[decide_eq_false (by intro z;injection z with z;lia)];refine iteF ⟨_,rfl,_,rfl,_,_,rfl,rfl,.inr (.inr ⟨mk l,_,47,rfl,rfl,TX.small (by lia),?_,.inl ⟨rfl,_,rfl,rfl,?_⟩⟩)⟩
    ·rw[show((a:Nat):Int)-1=((a-1:Nat):Int) from by lia];exact q1g (show(tl (mk l))[a-1]?=_ by rw[q0z];exact hp)
    ·show decide (V.str (mk [47])=V.str (Ab "/"))=true↔_;rw[lit1 47 47 "/" (by decide +kernel),decide_eq_true rfl];exact⟨(fun _ z=>by cases z),fun _=>rfl⟩
   ·rw[decide_eq_false (by intro z;injection z with z;lia)];refine iteF ⟨_,rfl,_,rfl,_,_,rfl,rfl,.inr (.inr ⟨mk l,_,c,rfl,rfl,TX.small (by lia),?_,.inl ⟨rfl,_,rfl,rfl,?_⟩⟩)⟩
    ·rw[show((a:Nat):Int)-1=((a-1:Nat):Int) from by lia];exact q1g (show(tl (mk l))[a-1]?=_ by rw[q0z];exact hp)
    ·show decide (V.str (mk [c])=V.str (Ab "/"))=true↔_;rw[lit1 c 47 "/" (by decide +kernel),decide_eq_false hn];exact⟨(fun z=>by cases z),fun z=>absurd rfl z⟩
  rintro b H' ⟨rfl,hb⟩;refine iteB (fun h=>?_) (fun h=>?_)
  ·refine⟨_,rfl,fun ea hea=>⟨ea,_,rfl,q0e,⟨a,rfl,by lia⟩,fun d hd hne=>⟨rfl,?_⟩⟩⟩;obtain⟨dd,r1,r2⟩:=raised1 (f := "at") (v:=.int ((a:Nat):Int)) hd hne;refine⟨dd,r1,x.no a (by lia) ⟨st,.refl,.inr ⟨47,hc,?_⟩⟩ ea _ (q2s (Same.refl H') hea hd) hea r2⟩;exact(nx47 pvv).2 (hb.mp h)
  ·have hs:st=.beh:=Cu fun z=>by rw[hb.mpr z] at h;cases h
   refine⟨by show 1<=sizeLine;decide,fun T1 hT1=>⟨_,rfl,.inl ⟨_,_,rfl,rfl,by show 2<=sizeLine;decide,fun T2 hT2=>?_⟩⟩⟩;have rt:=x.go .into (a+1) .into trivial (by lia) (by lia) (.one hc ((nx47 pvv).1 hs)) (.inr (.inl ⟨rfl,by lia,by rw[Lr];exact hc⟩)) ⟨fun _=>rfl,fun _=>rfl⟩;exact rt.go (by show(a:Int)+1=((a+1:Nat):Int);lia) hT1 hT2
theorem Prev.three{l:List Nat}{a:Nat}{s:Sx}(p:Prev l a s):s=.beg\/s=.into\/s=.beh:=by
 rcases p with⟨z,_⟩|⟨z,_⟩|⟨z,_⟩
 ·exact .inl z
 ·exact .inr (.inl z)
 ·exact .inr (.inr z)
theorem x1f{s:Sx}{c:Nat}(h:s=.beg\/s=.into\/s=.beh)(hc:c∈NS):nx s c=some .beh:=by
 rcases h with rfl|rfl|rfl
 ·exact if_pos hc
 ·exact if_pos hc
 ·exact if_pos hc
theorem x2l{l:List Nat}{a:Nat}{s:Sx}(hs:s=.beg\/s=.into\/s=.beh):∀(k:Nat),1<=k->(∀j,j<k->∃c,l[a+j]?=some c/\c∈NS)->Stp l a s (a+k) .beh
 |0,h,_=>absurd h (by decide)
 |1,_,h=>by
  obtain⟨c,c1,c2⟩:=h 0 (by decide);exact .one c1 (x1f hs c2)
 |k+2,_,h=>by
  refine(x2l hs (k+1) (by lia) fun j hj=>h j (by lia)).trans ?_;obtain⟨c,c1,c2⟩:=h (k+1) (by lia);exact .one c1 (x1f (.inr (.inr rfl)) c2)
def spTextX(Cn:Addr):Sp:=fun vs H Q E=>∃(l:List Nat) (a c0:Nat) (s:Sx),vs=[.str (mk l),.int (a:Int)]/\l.length<=500/\l[a]?=some c0/\c0≠47/\c0≠123/\Prev l a s/\RX H Q E Cn l a s
theorem z0d{Cn:Addr}(D:Df K mg "read_text" q2w ["template", "at"])(T:Txt mg)(C:CallsA6 P w K mg base Cn):CalX P w K mg base "read_text" 4 ["template", "at"] (spTextX Cn):=by
 refine D.calX sc_read_text (fun vs H Q E h=>?_) (fun f cdv A outer s H vs Q E hr h=>?_)
 ·obtain⟨l,a,c0,s,rfl,_⟩:=h;rfl
 ·obtain⟨l,a,c0,st,rfl,hl,hc0,n47,n123,pvv,x⟩:=h;obtain⟨_,g_NAME_SIGNS⟩:=T.NAME_SIGNS;refine⟨_,(q0b (q0v (q2b C.asked hr accX (q0a (pv 0) (q0a (pv 1) (q0a (q0p (v:=.str (Ab "abcdefghijklmnopqrstuvwxyzABCDEFGHIJKLMNOPQRSTUVWXYZ0123456789-_.")) (by rfl) g_NAME_SIGNS ⟨_,rfl⟩) q0c))))) (q0b (q0i (i:=2) sc_read_text.nd rfl (by trivial) (pe_c C.end_of hr (q0a (pv 0) (q0a (pv 1) (q0a (q0p (v:=.str (Ab "abcdefghijklmnopqrstuvwxyzABCDEFGHIJKLMNOPQRSTUVWXYZ0123456789-_.")) (by rfl) g_NAME_SIGNS ⟨_,rfl⟩) (q0a (q0s (q2e K rfl) (by rfl) T.b_len Bm (q0a (pv 0) q0c)) q0c)))))) (q0d (q0o (q0q (q0a (q0q (q0a q0g (q0a (q1l (sl_k K rfl) (pv 0) (q1d (pv 1)) (q1d (pv 2))) q0c))) (q0a (pv 2) q0c))))))),?_⟩;have hlen:=q0n l;have hlt:=q6j hc0;refine⟨_,rfl,_,rfl,l,a,_,rfl,by lia,by lia,fun c hc hg=>?_,fun hn=>?_⟩;rotate_left
  ·refine(x.no a (by lia) ⟨st,.refl,.inr ⟨c0,hc0,?_⟩⟩).up;have hn':¬c0∈NS:=hn c0 hc0;rcases pvv.three with rfl|rfl|rfl
   ·show(if c0∈NS then some Sx.beh else if c0=123 then some Sx.opn else none)=_;rw[if_neg hn',if_neg n123]
   ·show(if c0∈NS then some Sx.beh else if c0=123 then some Sx.opn else none)=_;rw[if_neg hn',if_neg n123]
   ·show(if c0∈NS then some Sx.beh else if c0=123 then some Sx.opn else if c0=47 then some Sx.into else none)=_;rw[if_neg hn',if_neg n123,if_neg n47]
  have hcN:c∈NS:=hg;obtain⟨k,k1,k2,k3,k4⟩:=z8z NS l a l.length (by lia);have kp:1<=k:=by
   rcases Jf k with z|z
   ·exfalso;subst z;rcases k4 with k4|k4|⟨c',c1,c2⟩
    ·lia
    ·lia
    ·rw[Qk,hc] at c1;cases c1;exact c2 hcN
   ·exact z
  refine⟨_,rfl,_,rfl,_,rfl,_,_,rfl,⟨TX.small (by lia),rfl⟩,?_⟩;refine⟨l,a,l.length,k,_,by rw[hlen];rfl,by lia,k2,k1,k3,k4,?_⟩;refine⟨_,rfl,_,rfl,_,rfl,_,rfl,_,rfl,.inl ⟨_,rfl,TX.small (by lia),?_⟩⟩;rw[q3y (by lia) (by lia),show a+k-a=k from by lia];refine⟨by show 2<=sizeLine;decide,fun T1 hT1=>⟨_,rfl,by show 2<=sizeLine;decide,fun T2 hT2=>?_⟩⟩;have htl:((l.drop a).take k).length=k:=by rw[Bt,Cf];lia
  have rt:=x.go (.tx ((l.drop a).take k)) (a+k) .beh ⟨fun z=>by rw[z] at htl;simp at htl;lia,z4z k2 k3⟩ (by lia) (by lia) (x2l pvv.three k kp k3) (by
   obtain⟨c',c1,c2⟩:=k3 (k-1) (by lia);exact .inr (.inr ⟨rfl,by lia,c',by rw[show a+k-1=a+(k-1) from by lia];exact c1,ns47 c' c2⟩)) ⟨(fun z=>by cases z),(fun z=>by cases z)⟩
  exact rt.go rfl hT1 hT2
structure CallsP6 (P:Program) (w:World) (K:Af) (mg:Str->Option Value) (base:Heap) (Cn:Addr):Prop where
 read_mark:CalX P w K mg base "read_mark" 6 ["template", "at"] (spMarkX Cn)
 read_into:CalX P w K mg base "read_into" 3 ["template", "at"] (spIntoX Cn)
 read_text:CalX P w K mg base "read_text" 4 ["template", "at"] (spTextX Cn)
theorem nx123{s:Sx}(h:s=.beg\/s=.into\/s=.beh):nx s 123=some .opn:=by
 rcases h with rfl|rfl|rfl
 ·show(if 123∈NS then some Sx.beh else if 123=123 then some Sx.opn else none)=_;rw[if_neg no123,if_pos rfl]
 ·show(if 123∈NS then some Sx.beh else if 123=123 then some Sx.opn else none)=_;rw[if_neg no123,if_pos rfl]
 ·show(if 123∈NS then some Sx.beh else if 123=123 then some Sx.opn else if 123=47 then some Sx.into else none)=_;rw[if_neg no123,if_pos rfl]
def spPieceX(Cn:Addr):Sp:=fun vs H Q E=>∃(l:List Nat) (a:Nat) (s:Sx),vs=[.str (mk l),.int (a:Int)]/\l.length<=500/\a<l.length/\Prev l a s/\RX H Q E Cn l a s
theorem q8c{Cn:Addr}(D:Df K mg "read_piece" q2l ["template", "at"])(T:Txt mg)(C:CallsP6 P w K mg base Cn):CalX P w K mg base "read_piece" 7 ["template", "at"] (spPieceX Cn):=by
 refine D.calX q5g (fun vs H Q E h=>?_) (fun f cdv A outer s H vs Q E hr h=>?_)
 ·obtain⟨l,a,s,rfl,_⟩:=h;rfl
 ·obtain⟨l,a,st,rfl,hl,ha,pvv,x⟩:=h;refine⟨_,(q0b (q0w (q0h (eq_k K rfl hr) (q1a (ix_k K rfl) (pv 0) (pv 1) (fun _ _=>rfl)) q0g (nomark _)) (q0d (q0o (q2b C.read_mark hr accX (q0a (pv 0) (q0a (q0u q0k (pv 1) q0f) q0c))))) q0j) (q0b (q0w (q0h (eq_k K rfl hr) (q1a (ix_k K rfl) (pv 0) (pv 1) (fun _ _=>rfl)) q0g (nomark _)) (q0d (q0o (q2b C.read_into hr accX (q0a (pv 0) (q0a (pv 1) q0c))))) q0j) (q0d (q0o (q2b C.read_text hr accX (q0a (pv 0) (q0a (pv 1) q0c))))))),?_⟩;have hlen:=q0n l;obtain⟨c,hc⟩:∃c,l[a]?=some c:=⟨_,Aw ha⟩
  have hat:atI (tl (mk l)) ((a:Nat):Int)=some c:=q1g (by rw[q0z];exact hc);refine⟨_,rfl,_,rfl,.inr (.inr ⟨mk l,_,c,rfl,rfl,TX.small (by lia),hat,.inl ⟨rfl,_,rfl,?_⟩⟩)⟩;show if decide (V.str (mk [c])=V.str (Ab "{"))=true then _ else _
  rw[lit1 c 123 "{" (by decide +kernel)];refine ite2 (fun h=>?_) (fun h=>?_)
  ·have e:=of_decide_eq_true h;subst e;exact⟨_,rfl,_,rfl,.inl ⟨_,_,rfl,rfl,l,a+1,rfl,hl,ha,(x.step hc (nx123 pvv.three)).up⟩⟩
  have n1:c≠123:=fun z=>h (decide_eq_true z);refine⟨_,rfl,_,rfl,.inr (.inr ⟨mk l,_,c,rfl,rfl,TX.small (by lia),hat,.inl ⟨rfl,_,rfl,?_⟩⟩)⟩;show if decide (V.str (mk [c])=V.str (Ab "/"))=true then _ else _
  rw[lit1 c 47 "/" (by decide +kernel)];refine ite2 (fun h=>?_) (fun h=>?_)
  ·have e:=of_decide_eq_true h;subst e;exact⟨_,rfl,_,rfl,l,a,st,rfl,hl,hc,pvv,x.up⟩
  have n2:c≠47:=fun z=>h (decide_eq_true z);exact⟨_,rfl,_,rfl,l,a,c,st,rfl,hl,hc,n2,n1,pvv,x.up⟩
structure CallsQ6 (P:Program) (w:World) (K:Af) (mg:Str->Option Value) (base:Heap) (Cn:Addr):Prop where
 e_NoTemplate:CalE P w K mg base "NoTemplate" Cn 1 ["self", "at"] (spIni1 Cn "at")
 read_piece:CalX P w K mg base "read_piece" 7 ["template", "at"] (spPieceX Cn)
def spPiecesX(Cn:Addr):Sp:=fun vs H Q E=>∃(l:List Nat),vs=[.str (mk l)]/\l.length<=500/\(Stp l 0 .beg l.length .beh->∀L H',H L=none->Same H H'->Q (.ref L) H')/\(∀i,i<=l.length->Refu l 0 .beg i->RE H E Cn i)
structure PoI (H:Hp) (L:Addr) (l:List Nat) (H3:Hp) (a:Nat) (s:Sx) (ps:List Pc):Prop where
 sm:Same H H3
 hp:HP H3 L ps
 ok:∀p∈ps,Pc.ok p
 le:a<=l.length
 few:ps.length<=a
 st:Stp l 0 .beg a s
 pr:Prev l a s
 nil:a=0↔ps=[]
 la:s=.into↔ps.getLast?=some .into
theorem x4h{p:Pc}(h:p.ok):Dr (.tuple p.ds) (.tuple [.str (Ab "into")])=true↔p=.into:=by
 by_cases z:p=.into
 ·subst z;exact⟨fun _=>rfl,fun _=>SeqAt.eqv_refl _ (Pc.lay (p:=.into) trivial)⟩
 ·rw[q9u z];exact⟨(fun y=>by cases y),fun y=>absurd y z⟩
theorem z0e{Cn:Addr}(D:Df K mg "pieces_of" q2z ["template"])(T:Txt mg)(C:CallsQ6 P w K mg base Cn):CalX P w K mg base "pieces_of" 8 ["template"] (spPiecesX Cn):=by
 refine D.calX sc_pieces_of (fun vs H Q E h=>?_) (fun f cdv A outer s H vs Q E hr h=>?_)
 ·obtain⟨l,rfl,_⟩:=h;rfl
 ·obtain⟨l,rfl,hl,k,kE⟩:=h;refine⟨_,(q0b (q0i (i:=1) sc_pieces_of.nd rfl (by trivial) (q1r q0c)) (q0b (q0i (i:=2) sc_pieces_of.nd rfl (by trivial) q0f) (q0b (q8y passDef (q0h z2l (pv 2) (q0s (q2e K rfl) (by rfl) T.b_len Bm (q0a (pv 0) q0c)) (nomark _)) (q0b (q3w (q2b C.read_piece hr accX (q0a (pv 0) (q0a (pv 2) q0c))) (@q2h _ _ _ _ (2) _ K rfl rfl (q0r (q0l (i:=3) sc_pieces_of.nd rfl (by trivial)) (q0r (q0l (i:=2) sc_pieces_of.nd rfl (by trivial)) q1p)) (by rfl) (by rfl))) (q0d (q0v (@bm_k _ _ _ _ _ _ _ _ _ _ _ _ K rfl Bs Dc Dd q1m (pv 1) (q0a (pv 3) q0c) (by rfl) (by rfl) (by rfl) (by rfl) (by rfl)))))) (q0b (q0w (pt_j (@PW.pt _ _ _ (q6e (q0h (eq_k K rfl hr) (pv 1) (q1r q0c) (nomark _)) (q3v (q0h (eq_k K rfl hr) (q1a (ix_k K rfl) (pv 1) (z9s z3t q0f) (fun _ _=>rfl)) (q0q (q0a q0g q0c)) (nomark _)))))) (q0d (z8c C.e_NoTemplate hr accX rfl (q0a (q0s (q2e K rfl) (by rfl) T.b_len Bm (q0a (pv 0) q0c)) q0c))) q0j) (q0d (q0o (pv 1))))))),?_⟩;have hlen:=q0n l;refine⟨by show 0<=sizeLine;decide,fun L hL=>?_⟩;refine q8z (fun σ3 H3=>∃(a:Nat) (st:Sx) (ps:List Pc) (x3:Option V),σ3=[some (.str (mk l)),some (.ref L),some (.int ((a:Nat):Int)),x3]/\PoI H L l H3 a st ps) (fun σ3 _=>pcMeas (l.length+1) σ3)
   ⟨0,.beg,[],none,rfl,(Same.refl H).new hL,⟨[],q0e,.nil⟩,(fun _ h=>nomatch h),Ax _,Ax _,.refl,.inl ⟨rfl,rfl⟩,⟨fun _=>rfl,fun _=>rfl⟩,⟨(fun z=>by cases z),(fun z=>by cases z)⟩⟩ ?_ ?_
  ·rintro σ3 H3 ⟨a,st,ps,x3,rfl,I⟩;refine⟨_,rfl,_,rfl,_,_,rfl,⟨TX.small (by lia),rfl⟩,_,_,rfl,rfl,_,rfl,?_⟩;refine ite2 (fun h=>?_) (fun h=>?_)
   ·have h1:=of_decide_eq_true h;have ha:a<l.length:=by lia
    refine⟨_,rfl,_,rfl,l,a,st,rfl,hl,ha,I.pr,⟨fun p e s' okp hae hel stp prv hin T1 T2 H4 hT1 hT2 sm4 h41 h42=>?_,fun i hi hr=>(((kE i hi (.via I.st hr)).same I.sm).up)⟩⟩;refine⟨T2,_,rfl,SqT.of h42,rfl,_,_,rfl,_,_,rfl,rfl,?_⟩;have hp4:=I.hp.same sm4;obtain⟨Ts,a1,a2⟩:=hp4.ex;have hTl:=a2.len;have hfew:=I.few;refine⟨_,rfl,.inl ⟨rfl,hp4.sq⟩,_,rfl,L,_,_,rfl,rfl,a1,by rw[Ag];exact TX.small' (by lia),?_⟩;have hTL:T1≠L:=fun z=>by subst z;rw[a1] at h41;cases h41
    refine⟨⟨e,s',ps++[p],some (.ref T1),rfl,(I.sm.trans sm4).put hL,⟨Ts++[T1],by rw[Bf];exact q0e,?_⟩,fun q hq=>?_,hel,by rw[Ad,Bg];lia,I.st.trans stp,prv,⟨(fun z=>by lia),(fun z=>by simp at z)⟩,?_⟩,?_⟩
    ·refine PTu.snoc (by rw[q0m hTL];exact h41) (a2.keep fun Tx xs e=>?_);rw[q0m (fun z=>by subst z;rw[a1] at e;cases e)];exact e
    ·rcases Az.mp hq with hq|hq
     ·exact I.ok q hq
     ·rw[Al.mp hq];exact okp
    ·rw[hin,Pb];exact⟨(fun z=>by rw[z]),(fun z=>by injection z)⟩
    ·show l.length+1-((e:Nat):Int).toNat<l.length+1-((a:Nat):Int).toNat;lia
   ·have h1:¬((a:Nat):Int)<(((mk l).length:Nat):Int):=fun z=>h (decide_eq_true z);have hle:=I.le;have ea:a=l.length:=by lia
    subst ea;refine⟨fun b H'=>Same H3 H'/\(b=true↔st≠.beh),?_,?_⟩
    ·rintro b H' ⟨sm',hb⟩;refine iteB (fun hb1=>?_) (fun hb0=>?_)
     ·refine⟨_,rfl,_,_,rfl,⟨TX.small (by lia),rfl⟩,fun ea hea=>⟨ea,_,rfl,q0e,⟨l.length,by rw[hlen],by lia⟩,fun d hd hne=>⟨rfl,?_⟩⟩⟩;obtain⟨dd,r1,r2⟩:=raised1 (f := "at") (v:=.int (((mk l).length:Nat):Int)) hd hne;rw[hlen] at r2;refine⟨dd,by rw[hlen] at r1 ⊢;exact r1,?_⟩;have:=kE l.length (Aj _) ⟨st,I.st,.inl ⟨rfl,hb.mp hb1⟩⟩ ea _ (q2s (I.sm.trans sm') hea hd) ((I.sm.trans sm').free hea) r2;rw[hlen];exact this
     ·have hs:st=.beh:=Cu fun z=>by rw[hb.mpr z] at hb0;cases hb0
      have ist:=I.st;rw[hs] at ist;exact⟨_,rfl,k ist L H' hL (I.sm.trans sm')⟩
    ·refine⟨_,rfl,by show 0<=sizeLine;decide,fun E0 hE0=>?_⟩;have smE:Same H3 (upd H3 E0 (.lst [])):=(Same.refl H3).new hE0;have hpE:=I.hp.same smE;obtain⟨Us,b1,b2⟩:=hpE.ex;refine .inr ⟨_,_,.lst (SqL.of b1) b2.dts,.lst (SqL.of q0e) .nil,lays I.ok,rfl,?_,_,rfl,?_⟩
     ·refine Aq (Ih _ _) ?_;decide +kernel
     by_cases hne:ps=[]
     ·have h0:=I.nil.mpr hne;subst hne;have hs:st=.beg:=by
       rcases I.pr with⟨z,_⟩|⟨_,z,_⟩|⟨_,z,_⟩
       ·exact z
       ·lia
       ·lia
      have e1:Dr (.list (([]:List Pc).map fun p=>PyData.tuple p.ds)) (.list [])=true:=by simp[Dr,Fu]
      rw[e1];exact iteT ⟨smE,⟨(fun _ z=>by rw[hs] at z;cases z),fun _=>rfl⟩⟩
     rw[z4o hne];refine iteF ?_;obtain⟨qs,q,hqs⟩:∃qs q,ps=qs++[q]:=⟨ps.dropLast,ps.getLast hne,(Cv hne).symm⟩
     have hUl:=b2.len;have hUne:Us≠[]:=fun z=>by rw[z] at hUl;rw[hqs] at hUl;simp at hUl
     have hUs:=(Cv hUne).symm;have hlast:Us[ps.length-1]?=some (Us.getLast hUne):=by rw[<- hUl];simp[Nb]
     obtain⟨q',hq1,hq2⟩:=b2.get hlast;have eq':q'=q:=by rw[hqs] at hq1;simp at hq1;exact hq1.symm
     subst eq';have hix:atI (Us.map V.ref) (-1)=some (.ref (Us.getLast hUne)):=by
      have:=z4d Us.dropLast (Us.getLast hUne)
      rwa [<- hUs] at this
     refine⟨_,rfl,_,rfl,.inl ⟨L,_,-1,_,rfl,rfl,SqL.of b1,hix,by show 1<=sizeLine;decide,fun T3 hT3=>?_⟩⟩;have sm3:Same (upd H3 E0 (.lst [])) (upd (upd H3 E0 (.lst [])) T3 (.tup [.str (Ab "into")])):=(Same.refl _).new hT3;have okq:=I.ok q' (by rw[hqs];simp);refine .inr ⟨_,_,.tup (SqT.of (sm3 _ _ hq2)) (Pc.dts _),.tup (SqT.of q0e) (.cons (.str _) .nil),Pc.lay okq,by decide +kernel,?_,_,rfl,smE.trans sm3,?_⟩
     ·refine Aq (Ih _ _) ?_;decide +kernel
     rw[x4h okq];have hla:=I.la;rw[hqs,Pb] at hla;have h00:l.length≠0:=fun z=>hne (I.nil.mp z);rcases I.pr with⟨_,z⟩|⟨rfl,_⟩|⟨rfl,_⟩
     ·exact absurd z h00
     ·exact⟨(fun _ z=>by cases z),(fun _=>by have:=hla.mp rfl;injection this)⟩
     ·exact⟨(fun z=>by rw[z] at hla;have:=hla.mpr rfl;cases this),fun z=>absurd rfl z⟩
  ·intro σ H Q Q' hq hw;obtain⟨x,e1,y,e2,n',z,e3,e4,a',b',e5,e6,c',e7,hh⟩:=hw;exact⟨x,e1,y,e2,n',z,e3,e4,a',b',e5,e6,c',e7,hq _ _ hh⟩
def Rul(Cr:Addr)(H:Hp)(E:XK):Prop:=∀ea H',Same H H'->H ea=none->H' ea=some (ExO (.ref Cr) none ea)->E (.ref ea) none H'
theorem Rul.same{H H1:Hp}{E:XK}{Cr:Addr}(h:Rul Cr H E)(s:Same H H1):Rul Cr H1 E:=fun ea H' sm hea r=>h ea H' (s.trans sm) (s.free hea) r
theorem Rul.up{H:Hp}{E:XK}{Cr:Addr}(h:Rul Cr H E):Rul Cr H (fun e _ H'=>∀ea,e=.ref ea->E (.ref ea) none H'):=fun ea H' sm hea r ea' ez=>by
 cases ez;exact h ea H' sm hea r
theorem Rul.go{H:Hp}{E:XK}{Cr:Addr}(h:Rul Cr H E){ea:Addr}(hea:H ea=none):E (.ref ea) none (upd (upd H ea (ExN (.ref Cr) none ea)) ea (ExO (.ref Cr) none ea)) :=
 h ea _ (fun b o e=>by
  have n:b≠ea:=fun z=>by rw[z,hea] at e;cases e
  rw[q0m n,q0m n];exact e) hea q0e
def Bdp(kd:Str)(gs:List Nat)(p:Pc):Prop:=(∃k,gapNo p=some k/\(gs.length<k\/(k<=gs.length/\isMo p=true/\gs[k-1]?≠some 35)))\/(p=.into/\kd≠Ab "slip")
theorem x2m{p:Pc}{k:Nat}(h:p.ok)(g:gapNo p=some k):1<=k/\k<=9:=by
 cases p<;>cases g
 ·exact h
 ·exact h
 ·exact h
 ·exact h.1
 ·exact h.1
theorem ask_or(kd:Str)(gs:List Nat){p:Pc}(h:p.ok):AskOk kd gs p\/Bdp kd gs p:=by
 by_cases hb:Bdp kd gs p
 ·exact .inr hb
 refine .inl ⟨fun k hk=>⟨(x2m h hk).1,Ij fun z=>hb (.inl ⟨k,hk,.inl z⟩)⟩,fun k m e=>Cu fun z=>?_,fun e=>Cu fun z=>hb (.inr ⟨e,z⟩)⟩;have hk:gapNo p=some k:=by rw[e];rfl
 by_cases hl:k<=gs.length
 ·exact hb (.inl ⟨k,hk,.inr ⟨hl,by rw[e];rfl,z⟩⟩)
 ·exact hb (.inl ⟨k,hk,.inl (by lia)⟩)
structure CallsG7 (K:Af) (mg:Str->Option Value) (Cr Dn:Addr):Prop where
 f_NoRule:ELaw0 K Cr Dn
 g_NoRule:mg "NoRule" = some (.ref Cr)
def spAskGapX(Cr:Addr):Sp:=fun vs H _ E=>∃T G p k gs,vs=[.ref T,.ref G]/\H T=some (.tup p.vs)/\gapNo p=some k/\1<=k/\k<=9/\H G=some (.lst (vG gs))/\gs.length<=3000/\(gs.length<k\/(k<=gs.length/\isMo p=true/\gs[k-1]?≠some 35))/\Rul Cr H E
theorem z3l{Cr Dn:Addr}(D:Df K mg "ask_gap" q4g ["piece", "gap_signs"])(T:Txt mg)(C:CallsG7 K mg Cr Dn):CalX P w K mg base "ask_gap" 1 ["piece", "gap_signs"] (spAskGapX Cr):=by
 refine D.calX sc_ask_gap (fun vs H Q E h=>?_) (fun f cdv A outer s H vs Q E hr h=>?_)
 ·obtain⟨T1,G,p,k,gs,rfl,_⟩:=h;rfl
 ·obtain⟨T1,G,p,n,gs,rfl,hT,hg,hn1,hn9,hG,hgl,hb,k⟩:=h;refine⟨_,(q0b (q0i (i:=2) sc_ask_gap.nd rfl (by trivial) (q1a (ix_k K rfl) (pv 0) q0f (fun _ _=>rfl))) (q0b (q0i (i:=3) sc_ask_gap.nd rfl (by trivial) (q1a (ix_k K rfl) (pv 0) q0f (fun _ _=>rfl))) (q0b (q0w (q0h q5l (pv 3) (q0s (q2e K rfl) (by rfl) T.b_len Bm (q0a (pv 1) q0c)) (nomark _)) (q0d (q2p C.f_NoRule accX rfl C.g_NoRule (q0a (q5r q5d (q7i (pv 3)) q5s) q0c))) q0j) (q0d (q0w (pt_j (@PW.pt _ _ _ (q4h (q0h (eq_k K rfl hr) (pv 2) q0g (nomark _)) (q3h (q0h (ne_k K rfl hr) (q1a (ix_k K rfl) (pv 1) (q0u z0q (pv 3) q0f) (fun _ _=>rfl)) q0g (nomark _)))))) (q0d (q2p C.f_NoRule accX rfl C.g_NoRule (q0a (q5r q5d (q7i (pv 3)) (q6p q5d q5s)) q0c))) q0j))))),?_⟩;have ln:=q3z 12 n (by lia);have l1:(Ab "there is no gap ").length<=100:=by decide +kernel
  have l2:(Ab "gap ").length<=100:=by decide +kernel
  have l3:(Ab " is no number").length<=100:=by decide +kernel
  have l0:Ka.length=0:=by decide +kernel
  have e1:(Ab (toString (n:Int))).length<=13:=by rw[z1j,q0n];exact ln
  refine⟨_,rfl,.inr (.inl ⟨T1,_,0,_,rfl,rfl,SqT.of hT,pw0 p,?_⟩)⟩;refine⟨_,rfl,.inr (.inl ⟨T1,_,1,_,rfl,rfl,SqT.of hT,z4q hg,?_⟩)⟩;refine⟨_,rfl,_,rfl,_,_,rfl,.inl ⟨_,SqL.of hG,rfl⟩,_,_,rfl,rfl,_,rfl,?_⟩;rw[Ag];refine ite2 (fun h=>?_) (fun h=>?_)
  ·refine⟨TX.small (by rw[q0t];lia),_,rfl,.inr ⟨n,rfl,by lia,TX.small (by rw[q0t,q0t];lia),TX.small (by rw[q0t,q0t];lia),by show 1<=100;decide,fun ea hea=>k.go hea⟩⟩
  have hle:n<=gs.length:=Ij fun z=>h (decide_eq_true (by lia));obtain⟨_,hm,hne⟩:n<=gs.length/\isMo p=true/\gs[n-1]?≠some 35:=by
   rcases hb with z|z
   ·lia
   ·exact z
  refine⟨fun bb H'=>bb=true/\H'=H,?_,?_⟩
  ·rintro bb H' ⟨rfl,rfl⟩;exact iteT ⟨TX.small (by rw[q0t];lia),_,rfl,.inr ⟨n,rfl,by lia,TX.small (by rw[q0t,q0t];lia),TX.small (by rw[q0t,q0t,q0t];lia),TX.small (by rw[q0t,q0t,q0t];lia),by show 1<=100;decide,fun ea hea=>k.go hea⟩⟩
  refine⟨_,rfl,.inl ⟨rfl,_,rfl,?_⟩⟩;rw[pwM,hm];refine iteT ?_;have hd:gs[n-1]?=some gs[n-1]:=Aw (by lia);refine⟨_,rfl,_,rfl,_,_,rfl,rfl,.inl ⟨G,_,_,_,rfl,rfl,SqL.of hG,vG_at hn1 hd,.inl ⟨rfl,_,rfl,?_,rfl⟩⟩⟩;have:decide (V.str (mk [gs[n-1]])=V.str (Ab "#"))=false:=by
   refine decide_eq_false fun z=>hne ?_;injection z with z;have:=congrArg tl z;rw[q0z,show tl (Ab "#")=[35] by decide +kernel] at this;injection this with h1 _;rw[hd,h1]
  rw[this];rfl
structure CallsR7 (P:Program) (w:World) (K:Af) (mg:Str->Option Value) (base:Heap) (Cr Dn:Addr):Prop where
 ask_gap:CalX P w K mg base "ask_gap" 1 ["piece", "gap_signs"] (spAskGapX Cr)
 of_a_gap:∃d,mg "OF_A_GAP" = some (.ref d)/\∀H,SqT K H d ofGap
 f_NoRule:ELaw0 K Cr Dn
 g_NoRule:mg "NoRule" = some (.ref Cr)
def spAskPieceX(Cr:Addr):Sp:=fun vs H _ E=>∃T G p gs kd,vs=[.ref T,.str kd,.ref G]/\H T=some (.tup p.vs)/\p.ok/\H G=some (.lst (vG gs))/\gs.length<=3000/\Bdp kd gs p/\Rul Cr H E
theorem z0f{Cr Dn:Addr}(D:Df K mg "ask_piece" q3a ["piece", "kind", "gap_signs"])(T:Txt mg)(C:CallsR7 P w K mg base Cr Dn):CalX P w K mg base "ask_piece" 2 ["piece", "kind", "gap_signs"] (spAskPieceX Cr):=by
 refine D.calX sc_ask_piece (fun vs H Q E h=>?_) (fun f cdv A outer s H vs Q E hr h=>?_)
 ·obtain⟨T1,G,p,gs,kd,rfl,_⟩:=h;rfl
 ·obtain⟨T1,G,p,gs,kd,rfl,hT,pok,hG,hgl,bd,k⟩:=h;obtain⟨d_OF_A_GAP,g_OF_A_GAP,hd⟩:=C.of_a_gap;refine⟨_,(q0b (q0i (i:=3) sc_ask_piece.nd rfl (by trivial) (q1a (ix_k K rfl) (pv 0) q0f (fun _ _=>rfl))) (q1f (q0w (q0h (in_k K rfl) (pv 3) (q0p (v:=.ref d_OF_A_GAP) (by rfl) g_OF_A_GAP rfl) (by with_unfolding_all rfl)) (q0d (q0v (q2b C.ask_gap hr accX (q0a (pv 0) (q0a (pv 2) q0c))))) q0j) (q0d (q0w (pt_j (@PW.pt _ _ _ (q4h (q0h (eq_k K rfl hr) (pv 3) q0g (nomark _)) (q3h (q0h (ne_k K rfl hr) (pv 1) q0g (nomark _)))))) (q0d (q2p C.f_NoRule accX rfl C.g_NoRule (q0a q0g q0c))) q0j)))),?_⟩;refine⟨_,rfl,.inr (.inl ⟨T1,_,0,_,rfl,rfl,SqT.of hT,pw0 p,?_⟩)⟩;refine⟨fun σ' H'=>σ'=[some (.ref T1),some (.str kd),some (.ref G),some (.str (pcWd p))]/\H'=H/\gapNo p=none,?_,?_⟩;rotate_left
  ·refine⟨_,rfl,.inr ⟨d_OF_A_GAP,_,rfl,.inr (hd H),rfl,by decide +kernel,_,rfl,?_⟩⟩;show if inV (.str (pcWd p)) ofGap=true then _ else _
   rw[inGap];refine ite2 (fun h=>?_) (fun h=>⟨rfl,rfl,by simpa using h⟩);obtain⟨n,hn⟩:=Gx.mp h;obtain⟨h1,h9⟩:=x2m pok hn;rcases bd with⟨n',hn',bd⟩|⟨e,_⟩
   ·rw[hn] at hn';cases hn';exact⟨_,rfl,_,rfl,T1,G,p,n,gs,rfl,hT,hn,h1,h9,hG,hgl,bd,k.up⟩
   ·rw[e] at hn;cases hn
  rintro σ' H' ⟨rfl,rfl,hn⟩;obtain⟨hi,hk⟩:p=.into/\kd≠Ab "slip" := by
   rcases bd with⟨n',hn',_⟩|z
   ·rw[hn] at hn';cases hn'
   ·exact z
  refine⟨fun bb H2=>bb=true/\H2=H',?_,?_⟩
  ·rintro bb H2 ⟨rfl,rfl⟩;exact iteT ⟨by show 1<=100;decide,fun ea hea=>k.go hea⟩
  refine⟨_,rfl,.inl ⟨rfl,_,rfl,?_⟩⟩;rw[pwI,hi];refine iteT ⟨_,rfl,.inl ⟨rfl,_,rfl,?_,rfl⟩⟩;rw[decide_eq_false (fun z=>hk (by injection z))];rfl
def NoGo(kd:Str)(l:List Nat)(qs:List Pc)(st:Int):Prop:=inV (.str kd) kinds3=false\/(∃q∈qs,Bdp kd (gsOf (parse [] l)) q)\/st<0\/1000000000<st
structure CallsS7 (P:Program) (w:World) (K:Af) (mg:Str->Option Value) (base:Heap) (Cp Ct Cr Dn:Addr):Prop where
 parts_of:Cal P w K mg base "parts_of" 2 ["pattern"] spPartsOf
 parts_ofX:CalX P w K mg base "parts_of" 4 ["pattern"] (spPartsX Cp)
 pieces_of:Cal P w K mg base "pieces_of" 6 ["template"] spPieces
 pieces_ofX:CalX P w K mg base "pieces_of" 8 ["template"] (spPiecesX Ct)
 ask_piece:Cal P w K mg base "ask_piece" 2 ["piece", "kind", "gap_signs"] spAskPiece
 ask_pieceX:CalX P w K mg base "ask_piece" 2 ["piece", "kind", "gap_signs"] (spAskPieceX Cr)
 kinds:∃d,mg "KINDS" = some (.ref d)/\∀H,SqT K H d kinds3
 f_NoRule:ELaw0 K Cr Dn
 g_NoRule:mg "NoRule" = some (.ref Cr)
def BadR(Cp Ct Cr:Addr)(kd:Str)(l tt:List Nat)(st:Int)(H:Hp)(E:XK):Prop :=
 (∃i,WrongAt l i/\RE H E Cp i)\/(Good l/\∃i,i<=tt.length/\Refu tt 0 .beg i/\RE H E Ct i)\/(Good l/\∃qs,tt=flatP qs/\WP qs/\NoGo kd l qs st/\Rul Cr H E)
theorem BadR.up{Cp Ct Cr:Addr}{kd:Str}{l tt:List Nat}{st:Int}{H:Hp}{E:XK}(h:BadR Cp Ct Cr kd l tt st H E):BadR Cp Ct Cr kd l tt st H (fun e _ H'=>∀ea,e=.ref ea->E (.ref ea) none H'):=by
 rcases h with⟨i,a,r⟩|⟨g,i,a,b,r⟩|⟨g,qs,a,b,c,r⟩
 ·exact .inl ⟨i,a,r.up⟩
 ·exact .inr (.inl ⟨g,i,a,b,r.up⟩)
 ·exact .inr (.inr ⟨g,qs,a,b,c,r.up⟩)
def spAskRuleX(Cp Ct Cr:Addr):Sp:=fun vs H _ E=>∃R kd l tt st,vs=[.ref R]/\H R=some (.tup [.str kd,.str (mk l),.str (mk tt),.int st])/\l.length<=1000/\tt.length<=500/\BadR Cp Ct Cr kd l tt st H E
theorem z6g{l:List Nat}{i j:Nat}(h:WrongAt l i)(g:WrongAt l j):i=j:=by
 rcases h with⟨e,rfl⟩|⟨e,h1,h2⟩<;>rcases g with⟨e',rfl⟩|⟨e',g1,g2⟩
 ·rfl
 ·exact absurd e e'
 ·exact absurd e' e
 ·refine Nat.le_antisymm (Ij fun z=>g1 (h2 _ z)) (Ij fun z=>h1 (g2 _ z))
theorem z2c{Cp Ct Cr Dn:Addr}(D:Df K mg "ask_rule" q3p ["rule"])(T:Txt mg)(C:CallsS7 P w K mg base Cp Ct Cr Dn)(hgw:∀l i,Good l->WrongAt l i->False):CalX P w K mg base "ask_rule" 9 ["rule"] (spAskRuleX Cp Ct Cr):=by
 refine D.calX sc_ask_rule (fun vs H Q E h=>?_) (fun f cdv A outer s H vs Q E hr h=>?_)
 ·obtain⟨R,kd,l,tt,st,rfl,_⟩:=h;rfl
 ·obtain⟨R,kd,l,tt,st,rfl,hR,hl,ht,bad⟩:=h;obtain⟨d_KINDS,g_KINDS,hd⟩:=C.kinds;obtain⟨_,g_MOST_START⟩:=T.MOST_START;refine⟨_,(q0b (q3w (pv 0) (@q2h _ _ _ _ (4) _ K rfl rfl (q0r (q0l (i:=1) sc_ask_rule.nd rfl (by trivial)) (q0r (q0l (i:=2) sc_ask_rule.nd rfl (by trivial)) (q0r (q0l (i:=3) sc_ask_rule.nd rfl (by trivial)) (q0r (q0l (i:=4) sc_ask_rule.nd rfl (by trivial)) q1p)))) (by rfl) (by rfl))) (q0b (q0i (i:=5) sc_ask_rule.nd rfl (by trivial) (q3j (pe_c C.parts_of hr (q0a (pv 2) q0c)) (q2b C.parts_ofX hr accX (q0a (pv 2) q0c)))) (q0b (q0i (i:=6) sc_ask_rule.nd rfl (by trivial) (q3j (pe_c C.pieces_of hr (q0a (pv 3) q0c)) (q2b C.pieces_ofX hr accX (q0a (pv 3) q0c)))) (q0b (q0w (q0h (z1e K rfl) (pv 1) (q0p (v:=.ref d_KINDS) (by rfl) g_KINDS rfl) (by with_unfolding_all rfl)) (q0d (q2p C.f_NoRule accX rfl C.g_NoRule (q0a q0g q0c))) q0j) (q0b (q7b (i:=7) ["sort", "what"] [] sc_ask_rule.nd rfl (by trivial) rfl (@q2t _ _ _ _ K rfl (pv 5)) (fun _ _ _ _ _=>(@q2h _ _ _ _ (2) _ K rfl rfl (q0r (q0l (i:=0) (show(["sort", "what"]:List Str).Nodup by decide +kernel) rfl (by trivial)) (q0r (q0l (i:=1) (show(["sort", "what"]:List Str).Nodup by decide +kernel) rfl (by trivial)) q1p)) (by rfl) (by rfl))) (fun _ _ _ _ _=>(q5m (q0h (eq_k K rfl hr) (pv 0) q0g (nomark _)))) (fun _ _ _ _ _=>(pv 1))) (q0b (q1h passDef rfl (@q2t _ _ _ _ K rfl (pv 6)) (q0l (i:=8) sc_ask_rule.nd rfl (by trivial)) (q0d (q0v (q3j (pe_c C.ask_piece hr (q0a (pv 8) (q0a (pv 1) (q0a (pv 7) q0c)))) (q2b C.ask_pieceX hr accX (q0a (pv 8) (q0a (pv 1) (q0a (pv 7) q0c)))))))) (q0b (q0w (pt_j (@PW.pt _ _ _ (q6e (q0h z2l (pv 4) q0f (nomark _)) (q3v (q0h q5l (pv 4) (q0p (v:=.int 1000000000) (by rfl) g_MOST_START ⟨_,rfl⟩) (nomark _)))))) (q0d (q2p C.f_NoRule accX rfl C.g_NoRule (q0a q0g q0c))) q0j) (q0d (q0o q5k))))))))),?_⟩;refine⟨_,rfl,R,_,rfl,SqT.of hR,rfl,_,_,rfl,_,_,rfl,_,_,rfl,_,_,rfl,rfl,?_⟩;rcases bad with⟨i,hw,re⟩|bad
  ·refine .inr ⟨_,rfl,l,rfl,hl,fun g=>(hgw l i g hw).elim,fun j hj=>?_⟩;cases z6g hw hj;exact re.up
  have good:Good l:=by
   rcases bad with⟨g,_⟩|⟨g,_⟩<;>exact g
  refine .inl ⟨_,rfl,l,rfl,good,fun L H1 hL sm1 hl1=>?_⟩;rcases bad with⟨_,i,hi,hw,re⟩|⟨_,qs,rfl,wp,ng,ru⟩
  ·refine .inr ⟨_,rfl,tt,rfl,ht,fun g=>(x1e hw g).elim,fun j _ hj=>?_⟩;cases x1d hw hj;exact(re.same sm1).up
  refine .inl ⟨_,rfl,qs,rfl,wp,fun M H2 hM sm2 hp2=>?_⟩;have ru2:=(ru.same sm1).same sm2;refine⟨_,rfl,.inr ⟨d_KINDS,_,rfl,.inr (hd H2),rfl,by decide +kernel,_,rfl,?_⟩⟩;show if (!inV (.str kd) kinds3)=true then _ else _
  refine ite2 (fun _=>⟨by show 1<=100;decide,fun ea hea=>ru2.go hea⟩) (fun hk=>?_);replace ng:(∃q∈qs,Bdp kd (gsOf (parse [] l)) q)\/st<0\/1000000000<st:=by
   rcases ng with z|z
   ·rw[z] at hk;exact absurd rfl hk
   ·exact z
  obtain⟨Ts,t1,t2⟩:=(hl1.same sm2).ex;have hTl:=t2.len;have hpl:=q5q l [];have hgl:=good.len;refine⟨_,rfl,.inl ⟨L,rfl,⟨_,SqL.of t1⟩,fun D hD=>?_⟩⟩;refine q3x (xs:=Ts.map V.ref) (fun i ys H'=>ys=vG (gsOf ((parse [] l).take i))/\Same H2 H'/\H' D=some (.lst ys)/\i<=(parse [] l).length) ⟨rfl,(Same.refl H2).new hD,q0e,Ax _⟩ (fun i ys H' ⟨_,sm,hHD,_⟩=>⟨hHD,SqL.of (sm _ _ t1)⟩) ?_ ?_
  ·rintro i ys H' x hx ⟨rfl,sm,hHD,hi⟩;obtain⟨T1,p,rfl,hp1,ht⟩:=t2.get hx;have hi':=(Ai.mp hp1).1;refine⟨T1,_,rfl,SqT.of (sm _ _ ht),rfl,_,_,rfl,_,_,rfl,rfl,q8i,?_⟩;refine⟨_,rfl,.inl ⟨rfl,_,rfl,?_⟩⟩;rw[wgg];have hg:=q6r ((parse [] l).take i);rw[Bt] at hg;cases p with
   |tx t =>
    refine iteF ⟨?_,sm,hHD,hi'⟩;rw[q5h hp1];show vG _=vG (_++[]);rw[Bi]
   |gp c =>
    refine iteT ⟨_,rfl,hHD,TX.small' (by rw[Ag];lia),?_,sm.put hD,q0e,hi'⟩;rw[q5h hp1];show _=(gsOf _++[c]).map _;rw[Bf];rfl
  rintro ys H3 ⟨rfl,sm3,hHD,_⟩;rw[Ag,hTl,Cc] at hHD;have ru3:=ru2.same sm3;have hp3:=hp2.same sm3;obtain⟨Us,u1,u2⟩:=hp3.ex;have hgp:=q6r (parse [] l);refine⟨_,rfl,.inl ⟨M,rfl,⟨_,SqL.of u1⟩,?_⟩⟩;refine q2i (xs:=Us.map V.ref) (fun i σ' H'=>∃x8,σ'=[some (.ref R),some (.str kd),some (.str (mk l)),some (.str (mk (flatP qs))),some (.int st),some (.ref L),some (.ref M),some (.ref D),x8]/\H'=H3/\∀j q,j<i->qs[j]?=some q->¬Bdp kd (gsOf (parse [] l)) q) ⟨none,rfl,rfl,fun j q z=>absurd z (Nj j)⟩ (fun i σ' H' _ ⟨_,_,e,_⟩=>by subst e;exact SqL.of u1) ?_ ?_
  ·rintro i x σ' H' hx ⟨x8,rfl,rfl,hpre⟩;obtain⟨T1,hT1,rfl⟩:∃T,Us[i]?=some T/\x=.ref T:=by
    rw[Bk] at hx;cases hz:Us[i]? with
    |none=>rw[hz] at hx;cases hx
    |some T=>rw[hz] at hx;cases hx;exact⟨T,rfl,rfl⟩
   obtain⟨p,hp1,ht⟩:=u2.get hT1;have pok:=wp.ok p (As hp1);by_cases hb:Bdp kd (gsOf (parse [] l)) p
   ·exact .inr ⟨_,rfl,_,rfl,_,rfl,T1,D,p,gsOf (parse [] l),kd,rfl,ht,pok,hHD,by lia,hb,ru3.up⟩
   ·refine .inl ⟨_,rfl,_,rfl,_,rfl,T1,D,p,gsOf (parse [] l),kd,rfl,ht,hHD,by lia,(ask_or kd _ pok).resolve_right hb,⟨_,rfl,rfl,fun j q hj hq=>?_⟩⟩;rcases Ql (Ra hj) with z|z
    ·exact hpre j q z hq
    ·subst z;rw[hp1] at hq;cases hq;exact hb
  ·rintro σ' H' ⟨x8,rfl,rfl,hall⟩;have hst:st<0\/1000000000<st:=by
    rcases ng with⟨q,hq,hb⟩|z
    ·obtain⟨j,hj,e⟩:=Ii.mp hq;have hul:=u2.len;exact absurd hb (hall j q (by rw[Ag];lia) (by rw[Aw hj,e]))
    ·exact z
   refine⟨fun bb H4=>bb=true/\H4=H',?_,?_⟩
   ·rintro bb H4 ⟨rfl,rfl⟩;exact iteT ⟨by show 1<=100;decide,fun ea hea=>ru3.go hea⟩
   refine⟨_,rfl,_,_,rfl,rfl,_,rfl,?_⟩;refine iteB (fun h=>⟨rfl,rfl⟩) (fun h=>?_);refine⟨_,rfl,_,_,rfl,rfl,_,rfl,?_,rfl⟩;exact decide_eq_true (by have:=of_decide_eq_false h;lia)
def addN(ks:List Nat)(c:Nat):List Nat:=if c∈ks then ks else ks++[c]
abbrev kvN(ks:List Nat):List (Key×V):=ks.map fun c=>((Sum.inr (mk [c]):Key),V.bl true)
theorem x4i{a b:Nat}(h:(Sum.inr (mk [a]):Key)=Sum.inr (mk [b])):a=b:=by
 injection h with h;have:=congrArg tl h;rw[q0z,q0z] at this;injection this
theorem z0g(ks:List Nat)(c:Nat):putK (kvN ks) (Sum.inr (mk [c])) (.bl true)=kvN (addN ks c):=by
 unfold putK addN;by_cases h:c∈ks
 ·have hany:((kvN ks).any fun kv=>decide (kv.1=Sum.inr (mk [c])))=true:=Mx.mpr ⟨(Sum.inr (mk [c]),V.bl true),Ci.mpr ⟨c,h,rfl⟩,decide_eq_true rfl⟩;rw[if_pos h,if_pos hany,Es];refine La fun a ha=>?_;show(if (Sum.inr (mk [a]):Key)=Sum.inr (mk [c]) then((Sum.inr (mk [a]):Key),V.bl true) else _)=_;split<;>rfl
 ·rw[if_neg h,if_neg (fun z=>?_)]
  ·show _=(ks++[c]).map _;rw[Bf];rfl
  ·obtain⟨kv,h1,h2⟩:=Mx.mp z;obtain⟨a,ha,rfl⟩:=Ci.mp h1;have:=x4i (of_decide_eq_true h2);exact h (this▸ha)
theorem z0h{ks:List Nat}{c:Nat}:(addN ks c).length<=ks.length+1:=by
 unfold addN;split
 ·lia
 ·rw[Ad];exact Aj _
def insS(b:Bool)(c:Nat):Bool:=(b||decide (c=123)) && !decide (c=125)
def insB(w:List Nat):Bool:=w.foldl insS false
theorem z9b(w:List Nat)(c:Nat):insB (w++[c])=insS (insB w) c:=by unfold insB;rw[Fq];rfl
theorem q5w:∀(t:List Nat),(∀c∈t,c≠123)->t.foldl insS false=false
 |[],_=>rfl
 |c::r,h=>by
  rw[Fj];have e:insS false c=false:=by unfold insS;rw[decide_eq_false (h c Ao)];rfl
  rw[e];exact q5w r fun x hx=>h x (Am _ hx)
theorem z9c:∀(t:List Nat),(∀c∈t,c≠125)->t.foldl insS true=true
 |[],_=>rfl
 |c::r,h=>by
  rw[Fj];have e:insS true c=true:=by unfold insS;rw[decide_eq_false (h c Ao)];rfl
  rw[e];exact z9c r fun x hx=>h x (Am _ hx)
theorem no3:∀c∈NS,c≠123/\c≠125/\c≠47:=by decide +kernel
theorem gs3:∀c∈GS,c≠123/\¬c∈NS:=by decide +kernel
theorem z2d{p:Pc}(ok:p.ok):p.wr.foldl insS false=false:=by
 have mark:∀body:List Nat,(∀c∈body,c≠125)->(123::(body++[125])).foldl insS false=false:=fun body h=>by
  rw[Fj,Fq,show insS false 123=true from rfl,z9c body h];rfl
 cases p with
 |tx t=>exact q5w t fun c hc=>(no3 c (ok.2 c hc)).1
 |into=>rfl
 |gap k=>exact mark [48+k] fun c hc=>by rw[Al.mp hc];have:=ok.2;lia
 |great k =>
  exact mark [48+k,117] fun c hc=>by
   rcases Ap.mp hc with rfl|hc
   ·have:=ok.2;lia
   ·rw[Al.mp hc];decide
 |small k =>
  exact mark [48+k,108] fun c hc=>by
   rcases Ap.mp hc with rfl|hc
   ·have:=ok.2;lia
   ·rw[Al.mp hc];decide
 |nou k w =>
  exact mark [48+k,122,48+w] fun c hc=>by
   have h1:=ok.1.2;have h2:=ok.2.2;simp only[Ap,Bq,or_false] at hc;rcases hc with rfl|rfl|rfl<;>lia
 |more k m =>
  exact mark ((48+k)::43::dg m) fun c hc=>by
   have h1:=ok.1.2;rcases Ap.mp hc with rfl|hc
   ·lia
   ·rcases Ap.mp hc with rfl|hc
    ·decide
    ·exact(no3 c (fi_ns c (z4j m c hc))).2.1
 |cnt v =>
  have h1:=ok.2;by_cases hv:v=1
  ·subst hv;exact mark [110] fun c hc=>by rw[Al.mp hc];decide
  ·have e:cntW v=[48+v,125]:=by unfold cntW;rw[if_neg hv]
   show(123::110::cntW v).foldl insS false=false;rw[e];exact mark [110,48+v] fun c hc=>by
    rcases Ap.mp hc with rfl|hc
    ·decide
    ·rw[Al.mp hc];lia
theorem z5a:∀{qs:List Pc},(∀q∈qs,q.ok)->(flatP qs).foldl insS false=false
 |[],_=>rfl
 |q::r,h=>by
  rw[q0x,Fq,z2d (h q Ao)];exact z5a fun p hp=>h p (Am _ hp)
theorem seen{l:List Nat}{qs:List Pc}(gd:Good l)(ok:∀q∈qs,q.ok):(∀c∈l,c∈NS->∃j,(l++flatP qs)[j]?=some c/\insB ((l++flatP qs).take (j+1))=false)/\∀t,Pc.tx t∈qs->∀c∈t,∃j,(l++flatP qs)[j]?=some c/\insB ((l++flatP qs).take (j+1))=false:=by
 have lno:∀c∈l,c≠123:=fun c hc=>(gd.sg c hc).elim (fun z=>(gs3 c z).1) (fun z=>(no3 c z).1);refine⟨fun c hc _=>?_,fun t ht c hc=>?_⟩
 ·obtain⟨j,hj⟩:=Kf.mp hc;have hj':=(Ai.mp hj).1;refine⟨j,by rw[Bj hj'];exact hj,?_⟩;unfold insB;rw[Ei (by lia)];exact q5w _ fun x hx=>lno x (Em hx)
 ·obtain⟨a,b,rfl⟩:=Qm ht;obtain⟨j,hj⟩:=Kf.mp hc;have hj':=(Ai.mp hj).1;have e:l++flatP (a++Pc.tx t::b)=(l++flatP a)++(t++flatP b):=by rw[q1n,q0x];show l++(flatP a++(t++flatP b))=_;rw[Cw]
  have hb:(l++flatP a).foldl insS false=false:=by rw[Fq,q5w l lno];exact z5a fun q hq=>ok q (Co _ hq)
  refine⟨(l++flatP a).length+j,?_,?_⟩
  ·rw[e,Bp (by lia),show(l++flatP a).length+j-(l++flatP a).length=j by lia,Bj hj'];exact hj
  ·rw[e];have e2:((l++flatP a)++(t++flatP b)).take ((l++flatP a).length+j+1)=(l++flatP a)++t.take (j+1):=by
    rw[Nat.add_assoc,Hz,Ei (by lia)]
   unfold insB;rw[e2,Fq,hb];exact q5w _ fun x hx=>(no3 x ((ok _ ht).2 x (Em hx))).1
theorem z6h{s:Nat}:∀l:List Nat,PC.sc s l≠[]
 |[]=>by simp[PC.sc]
 |c::l=>by
  unfold PC.sc;split
  ·simp
  ·split<;>simp
theorem x2n{s:Nat}:∀(a r:List Nat),PC.sc s (a++s::r)=PC.sc s a++PC.sc s r
 |[],r=>by
  show PC.sc s (s::r)=[[]]++PC.sc s r;rw[PC.sc,if_pos rfl];rfl
 |c::a,r=>by
  have ih:=x2n (s:=s) a r;have hne:=z6h (s:=s) a;rw[Mt,PC.sc,ih];show _=PC.sc s (c::a)++_;rw[show PC.sc s (c::a)=if c=s then[]::PC.sc s a else match PC.sc s a with | []=>[[c]]|p::q=>(c::p)::q from by rw[PC.sc]<;>rfl];split
  ·rfl
  ·cases h:PC.sc s a with
   |nil=>exact absurd h hne
   |cons p q=>rfl
theorem z9d{s:Nat}:∀{l x:List Nat},x∈PC.sc s l->x.length<=l.length
 |[],x,h=>by
  have:x=[]:=by simpa[PC.sc] using h
  rw[this];exact Aj _
 |c::l,x,h=>by
  have ih:=fun{y} (hy:y∈PC.sc s l)=>z9d hy;unfold PC.sc at h;split at h
  ·rcases Ap.mp h with rfl|h
   ·exact Ax _
   ·exact Gk (ih h)
  ·split at h
   ·rename_i e;exact absurd e (z6h l)
   ·rename_i y ys e;rw[e] at ih;rcases Ap.mp h with rfl|h
    ·have:=ih (y:=y) Ao;rw[Av,Av];lia
    ·exact Gk (ih (Am _ h))
theorem x4j{s x y:Nat}{r:List Nat}(hx:x≠s)(hy:y≠s):∃t q,PC.sc s (x::y::r)=(x::y::t)::q:=by
 cases h:PC.sc s r with
 |nil=>exact absurd h (z6h r)
 |cons p q =>
  refine⟨p,q,?_⟩;rw[PC.sc,if_neg hx,PC.sc,if_neg hy,h]
theorem x1g:∀x∈NS,∀c∈NS,lo1 x=lo1 c->x=up1 c\/x=lo1 c:=by decide +kernel
theorem ns_nd:NS.Nodup:=by decide +kernel
theorem x4k{l:List Nat}(gd:Good l){c:Nat}(h:c∈((parse [] l).map ptx).flatten):c∈l/\c∈NS:=by
 obtain⟨t,ht,hct⟩:=Fz.mp h;obtain⟨p,hp,rfl⟩:=Ci.mp ht;have sub:∀(l cur:List Nat) (p:Pt),p∈parse cur l->∀c∈ptx p,c∈cur\/c∈l:=by
  intro l;induction l with
  |nil =>
   intro cur p hp c hc;unfold parse tp at hp;split at hp
   ·cases hp
   ·rw[Al.mp hp] at hc;exact .inl hc
  |cons d r ih =>
   intro cur p hp c hc;unfold parse at hp;split at hp
   ·rcases Az.mp hp with z|z
    ·unfold tp at z;split at z
     ·cases z
     ·rw[Al.mp z] at hc;exact .inl hc
    ·rcases Ap.mp z with rfl|z
     ·cases hc
     ·exact(ih [] p z c hc).elim (fun y=>nomatch y) fun y=>.inr (Am _ y)
   ·rcases ih _ p hp c hc with y|y
    ·rcases Az.mp y with y|y
     ·exact .inl y
     ·rw[Al.mp y];exact .inr Ao
    ·exact .inr (Am _ y)
 refine⟨(sub l [] p hp c hct).elim (fun y=>nomatch y) id,?_⟩;cases p with
 |tx t=>exact(q4z l [] (fun _ h=>nomatch h) gd.sg _ hp).2 c hct
 |gp g=>cases hct
theorem z0i{ks:List Nat}{c x:Nat}:x∈addN ks c↔x∈ks\/x=c:=by
 unfold addN;split
 ·rename_i h;exact⟨.inl,fun z=>z.elim id fun z=>z▸h⟩
 ·rw[Az,Al]
theorem z3m{ks:List Nat}{c:Nat}(h:ks.Nodup):(addN ks c).Nodup:=by
 unfold addN;split
 ·exact h
 ·rename_i hc;exact List.nodup_append.mpr ⟨h,Hg.mpr ⟨(fun z=>nomatch z),List.nodup_nil⟩,fun a ha b hb=>by rw[Al.mp hb];exact fun z=>hc (z▸ha)⟩
def heads(tt:List Nat):List Nat:=((PC.sc 123 tt).tail.map fun x=>(x.drop 1).take 1).flatten
def RKn(l tt:List Nat)(x:Nat):Prop:=(∃j c,(l++tt)[j]?=some c/\c∈NS/\insB ((l++tt).take (j+1))=false/\(x=up1 c\/x=lo1 c))\/(122∈heads tt/\x=48)
def Cnt(rs:List (List Nat×List Nat))(m:Nat):Prop:=∃ks:List Nat,ks.Nodup/\ks.length=m/\∀x,x∈ks↔∃r∈rs,RKn r.1 r.2 x
theorem Cnt.one{rs:List (List Nat×List Nat)}{m n:Nat}(h:Cnt rs m)(g:Cnt rs n):m=n:=by
 obtain⟨k1,a1,a2,a3⟩:=h;obtain⟨k2,b1,b2,b3⟩:=g;have h1:=q8s a1 fun x hx=>(b3 x).mpr ((a3 x).mp hx)
 have h2:=q8s b1 fun x hx=>(a3 x).mpr ((b3 x).mp hx);lia
def KnR(ks:List Nat)(r:RD):Prop:=∀c∈txO r,up1 c∈ks/\lo1 c∈ks
theorem kn_nmO{ks:List Nat}{r q:RD}{R S:Addr}{H:Hp}(cr:CRule K H R r)(cq:CRule K H S q)(h1:KnR ks r)(h2:KnR ks q):(nmO r q).length<=ks.length:=by
 refine q8s (show(nmO r q).Nodup from List.Pairwise.filter _ ns_nd) fun x hx=>?_;obtain⟨hxn,hx⟩:=Dw.mp hx;obtain⟨c,hc,e⟩:=Ci.mp (of_decide_eq_true hx);have hcn:c∈NS:=(Az.mp hc).elim (z4r cr c) (z4r cq c);have hk:up1 c∈ks/\lo1 c∈ks:=(Az.mp hc).elim (h1 c) (h2 c);rcases x1g x hxn c hcn e.symm with rfl|rfl
 ·exact hk.1
 ·exact hk.2
structure RTx where
 R:Addr
 kd:Str
 l:List Nat
 tt:List Nat
 st:Int
def RTat(r:RTx)(H:Hp):Prop:=H r.R=some (.tup [.str r.kd,.str (mk r.l),.str (mk r.tt),.int r.st])/\r.l.length<=1000/\r.tt.length<=500
structure TLs (H:Hp) (L:Addr) (rs:List RTx):Prop where
 at_:H L=some (.lst (rs.map fun x=>V.ref x.R))
 ok:∀x∈rs,RTat x H
theorem TLs.same{H H':Hp}{L:Addr}{rs:List RTx}(h:TLs H L rs)(s:Same H H'):TLs H' L rs:=⟨s _ _ h.at_,fun x hx=>⟨s _ _ (h.ok x hx).1,(h.ok x hx).2⟩⟩
structure CallsSg (P:Program) (w:World) (K:Af) (mg:Str->Option Value) (base:Heap):Prop where
 name_signs:Cal P w K mg base "_law_name_signs" 1 [] (spConst NSs)
def spSg:Sp:=fun vs H Q _=>∃L rs,vs=[.ref L]/\TLs H L rs/\rs.length<=2/\∀(m:Nat) H',m<=30000->Cnt (rs.map fun r=>(r.l,r.tt)) m->Same H H'->Q (.int (m:Int)) H'
theorem x1h(x:List Nat):Kq (mk x) (some 1) (some 2)=mk ((x.drop 1).take 1):=by
 cases x with
 |nil=>decide +kernel
 |cons a r=>exact q3y (i:=1) (j:=2) (by lia) (by rw[Av];lia)
theorem cutN1(l:List (List Nat))(h:l≠[]):cutV (vN l) (some (1:Int)) none=vN l.tail:=by
 unfold cutV;have hp:=De.mpr h;have el:(vN l).length=l.length:=Ag _;have e0:HT.sIx (vN l).length 0 (some (1:Int))=1:=by
  show min 1 (vN l).length=1;lia
 have e1:HT.sIx (vN l).length (vN l).length none=(vN l).length:=rfl;rw[e0,e1,Ce (by rw[Cf];lia),List.drop_one];exact List.map_tail.symm
theorem z_in{qs:List Pc}{k v:Nat}(ok:∀q∈qs,q.ok)(h:Pc.nou k v∈qs):122∈(((PC.sc 123 (flatP qs)).tail).map fun x=>(x.drop 1).take 1).flatten:=by
 obtain⟨a,b,rfl⟩:=Qm h;have hk:=(ok _ h).1.2;have e:flatP (a++Pc.nou k v::b)=flatP a++123::((48+k)::122::((48+v)::125::flatP b)):=by rw[q1n,q0x];rfl
 rw[e,x2n];obtain⟨t,q,e2⟩:=x4j (s:=123) (x:=48+k) (y:=122) (r:=(48+v)::125::flatP b) (by lia) (by decide);rw[e2];cases hs:PC.sc 123 (flatP a) with
 |nil=>exact absurd hs (z6h _)
 |cons p ps =>
  refine Fz.mpr ⟨[122],Ci.mpr ⟨(48+k)::122::t,?_,rfl⟩,Al.mpr rfl⟩;show _∈ps++_;exact Ay _ Ao
theorem upp1{c:Nat}(h:c<128):Lo (mk [c])=mk [up1 c]:=z3i h
theorem low1{c:Nat}(h:c<128):Ln (mk [c])=mk [lo1 c]:=q7q (l:=[c]) fun x hx=>by rw[Al.mp hx];exact h
theorem dec1(c d:Nat):decide (V.str (⟨#[c]⟩:Str)=V.str (mk [d]))=decide (c=d):=decide_eq_decide.mpr ⟨fun z=>by injection z with z;injection z with z;injection z with z;injection z,fun z=>by rw[z]⟩
abbrev z0j:Stmt:=top 67
theorem sc_signs:FnScope ["_law_rules", "_law_known", "_law_kind", "_law_pattern", "_law_template", "_law_start", "_law_inside", "_law_sign"] ["_law_rules"] (defScope z0j):=by trivial
set_option maxHeartbeats 40000000 in
theorem x1i(D:Df K mg "_law_signs" z0j ["_law_rules"])(T:Txt mg)(C:CallsSg P w K mg base):Cal P w K mg base "_law_signs" 2 ["_law_rules"] (spSg):=by
 refine D.cal sc_signs (fun vs H Q E h=>?_) (fun f cdv A outer s H vs Q E hr h=>?_)
 ·obtain⟨L,rs,rfl,_⟩:=h;rfl
 ·obtain⟨L,rs,rfl,rl,h10,k⟩:=h;refine⟨_,(q0b (q0i (i:=1) sc_signs.nd rfl (by trivial) z4g) (q0b (q1h Bo rfl (@q2t _ _ _ _ K rfl (pv 0)) (@q2h _ _ _ _ (4) _ K rfl rfl (q0r (q0l (i:=2) sc_signs.nd rfl (by trivial)) (q0r (q0l (i:=3) sc_signs.nd rfl (by trivial)) (q0r (q0l (i:=4) sc_signs.nd rfl (by trivial)) (q0r (q0l (i:=5) sc_signs.nd rfl (by trivial)) q1p)))) (by rfl) (by rfl)) (q0b (q0i (i:=6) sc_signs.nd rfl (by trivial) q5k) (q0b (q1h Bo rfl (@q2t _ _ _ _ K rfl (q0u q0k (pv 3) (pv 4))) (q0l (i:=7) sc_signs.nd rfl (by trivial)) (q0b (q0i (i:=6) sc_signs.nd rfl (by trivial) (pe_j (q6u (pe_j (pe_or (pv 6) (q6a (q4k (eq_k K rfl hr) (pv 7) q0g (nomark _))))) (q6a (q4k (ne_k K rfl hr) (pv 7) q0g (nomark _)))))) (q0d (q0w (pt_j (@PW.pt _ _ _ (q4h (pt_not (@x3g _ _ _ K rfl (pv 6) (fun _=>rfl))) (q3h (q0h (in_k K rfl) (pv 7) (x3c C.name_signs hr) (by with_unfolding_all rfl)))))) (q0b (q9h (z2m hr) (pv 1) (@q7f _ _ _ _ _ _ _ _ _ K rfl Bw Hn Ho q6n (pv 7) (by rfl) (by rfl)) q5k rfl) (q0d (q9h (z2m hr) (pv 1) (@q7f _ _ _ _ _ _ _ _ _ K rfl Bw Et Eu q4f (pv 7) (by rfl) (by rfl)) q5k rfl))) q0j)))) (q0d (q0w (q0h (in_k K rfl) q0g (@bm_k _ _ _ _ _ _ _ _ _ _ _ _ K rfl Bw Oj Ol (x1r K rfl) q0g (q0a (q6m ["_law_one"] [] rfl (@q2t _ _ _ _ K rfl (q1l (sl_k K rfl) (@bm_k _ _ _ _ _ _ _ _ _ _ _ _ K rfl Bw PySem.F.slot_str_split PySem.F.type_str_split z9y (pv 4) (q0a q0g q0c) (by rfl) (by rfl) (by rfl) (by rfl) (by rfl)) (q1d q0f) q6w)) (fun _ _ _ _ _=>(q0l (i:=0) (show(["_law_one"]:List Str).Nodup by decide +kernel) rfl (by trivial))) (fun _ _ _ _ _=>z2n) (fun _ _ _ _ _=>(q1l (sl_k K rfl) (pv 0) (q1d q0f) (q1d q0f)))) q0c) (by rfl) (by rfl) (by rfl) (by rfl) (by rfl)) (by with_unfolding_all rfl)) (q0d (q9h (z2m hr) (pv 1) q0g q5k rfl)) q0j))))) (q0d (q0o (q0s z8h (by rfl) T.b_len Bm (q0a (pv 1) q0c)))))),?_⟩;intro d hd;have s0:=(Same.refl H).new (o:=.dK []) hd;refine⟨_,rfl,.inl ⟨L,rfl,⟨_,SqL.of (s0 _ _ rl.at_)⟩,?_⟩⟩;refine q2i (xs:=rs.map fun x=>V.ref x.R) (fun i σ' H'=>∃ks x2 x3 x4 x5 x6 x7,σ'=[some (.ref L),some (.ref d),x2,x3,x4,x5,x6,x7]/\Same H H'/\H' d=some (.dK (kvN ks))/\ks.length<=3500*i/\ks.Nodup/\∀x,x∈ks↔∃r∈rs.take i,RKn r.l r.tt x) ⟨[],none,none,none,none,none,none,rfl,s0,q0e,Aj _,List.nodup_nil,fun x=>⟨(fun z=>nomatch z),fun⟨r,z,_⟩=>nomatch z⟩⟩ (fun i σ' H' _ x=>by obtain⟨_,_,_,_,_,_,_,_,s',_⟩:=x;exact SqL.of (s' _ _ rl.at_)) ?_ ?_
  ·rintro i v σ' H1 hv ⟨ks,x2,x3,x4,x5,x6,x7,rfl,s1,h1,hlen,hnd,hkn⟩;rw[Bk] at hv;obtain⟨r,hx,rfl⟩:=Br.mp hv;have hi:=(Ai.mp hx).1;obtain⟨cr,gl,wsz'⟩:=rl.ok _ (As hx);refine⟨r.R,_,rfl,SqT.of (s1 _ _ cr),rfl,_,_,rfl,_,_,rfl,_,_,rfl,_,_,rfl,rfl,?_⟩;refine⟨_,rfl,_,rfl,.inr (.inl ⟨_,_,rfl,rfl,by rw[q0n,q0n];exact small (by lia),?_⟩)⟩;rw[q2d];generalize hw:r.l++r.tt=w at *;have hwl:w.length<=1500:=by rw[<- hw,Ad];lia
   refine .inr (.inr ⟨mk w,rfl,?_⟩);refine x2z (z:=mk w) (fun j σ' H'=>∃ks' y7,σ'=[some (.ref L),some (.ref d),some (.str r.kd),some (.str (mk r.l)),some (.str (mk (r.tt))),some (.int r.st),some (.bl (insB (w.take j))),y7]/\Same H H'/\H' d=some (.dK (kvN ks'))/\ks'.length<=3500*i+2*j/\ks'.Nodup/\∀x,x∈ks'↔x∈ks\/∃j' c,j'<j/\w[j']?=some c/\c∈NS/\insB (w.take (j'+1))=false/\(x=up1 c\/x=lo1 c)) ⟨ks,_,rfl,s1,h1,by lia,hnd,fun x=>⟨.inl,fun z=>z.elim id fun⟨_,_,z,_⟩=>absurd z (by lia)⟩⟩ ?_ ?_
   ·rintro j c σ' H2 hc ⟨ks',y7,rfl,s2,h2,hl2,hnd2,hsub⟩;have hcw:w[j]?=some c:=by have:=get hc;rw[q0z] at this;exact this
    have hj:=(Ai.mp hcw).1;have etk:w.take (j+1)=w.take j++[c]:=q1b hcw;have e123:Ab "{" = mk [123]:=by decide +kernel
    have e125:Ab "}" = mk [125]:=by decide +kernel
    refine⟨fun v H'=>v=.bl (insB (w.take (j+1)))/\H'=H2,?_,?_⟩;rotate_left
    ·refine⟨fun v H'=>v=.bl (insB (w.take j)||decide (c=123))/\H'=H2,?_,?_⟩;rotate_left
     ·refine⟨_,rfl,_,rfl,?_⟩;cases hb:insB (w.take j) with
      |true=>exact iteT ⟨rfl,rfl⟩
      |false =>
       refine iteF ⟨_,rfl,.inl ⟨rfl,?_⟩⟩;rw[e123,dec1];exact⟨rfl,rfl⟩
     rintro v H' ⟨rfl,rfl⟩;refine⟨_,rfl,?_⟩;rw[etk,z9b];unfold insS;cases hb:(insB (w.take j)||decide (c=123)) with
     |false=>exact iteF ⟨rfl,rfl⟩
     |true =>
      refine iteT ⟨_,rfl,.inl ⟨rfl,?_⟩⟩;rw[e125,dec1];exact⟨rfl,rfl⟩
    rintro v H' ⟨rfl,rfl⟩;refine⟨fun bb H3=>bb=(!insB (w.take (j+1))&&decide (c∈NS))/\Same H' H3,?_,?_⟩;rotate_left
    ·refine⟨_,rfl,_,rfl,?_⟩;show if (!insB (w.take (j+1)))=true then _ else _
     cases hb:insB (w.take (j+1)) with
     |true=>exact iteF ⟨rfl,Same.refl _⟩
     |false =>
      refine iteT ⟨_,rfl,rfl,.inl ⟨_,_,rfl,rfl,_,rfl,?_,Same.refl _⟩⟩;rw[q2o];rfl
    rintro bb H3 ⟨rfl,s3⟩;have s23:=s2.trans s3;have h23:=s3 _ _ h2;cases hb:(!insB (w.take (j+1))&&decide (c∈NS)) with
    |false =>
     refine iteF ⟨ks',_,rfl,s23,h23,by lia,hnd2,fun x=>(hsub x).trans (or_congr Iff.rfl ⟨fun⟨j',c',a1,a2⟩=>⟨j',c',Rb a1,a2⟩,fun⟨j',c',a1,a2,a3,a4,a5⟩=>?_⟩)⟩;rcases Fm.mp a1 with a1|rfl
     ·exact⟨j',c',a1,a2,a3,a4,a5⟩
     ·rw[hcw] at a2;cases a2;rw[a4,decide_eq_true a3] at hb;cases hb
    |true =>
     obtain⟨hbo,hcn⟩:=Kv.mp hb;have hcl:=q7p c (of_decide_eq_true hcn);refine iteT ⟨_,rfl,_,rfl,rfl,_,rfl,rfl,by show 3*1<=_;exact small (by lia),?_⟩;rw[show Lo (⟨#[c]⟩:Str)=mk [up1 c] from upp1 hcl];have hlk:(kvN ks').length<sizeLine:=by rw[Ag];exact small' (by lia)
     refine⟨d,_,rfl,DPut.k (k:=Sum.inr (mk [up1 c])) h23 hlk,?_⟩;rw[z0g];have l3:=z0h (ks:=ks') (c:=up1 c);have hd4:upd H3 d (.dK (kvN (addN ks' (up1 c)))) d=some (.dK (kvN (addN ks' (up1 c)))):=q0e;have s4:=s23.put (o:=.dK (kvN (addN ks' (up1 c)))) hd;generalize upd H3 d (.dK (kvN (addN ks' (up1 c))))=H4 at hd4 s4;refine⟨_,rfl,_,rfl,rfl,_,rfl,rfl,by show 3*1<=_;exact small (by lia),?_⟩;rw[show Ln (⟨#[c]⟩:Str)=mk [lo1 c] from low1 hcl];have hlk2:(kvN (addN ks' (up1 c))).length<sizeLine:=by rw[Ag];exact small' (by lia)
     refine⟨d,_,rfl,DPut.k (k:=Sum.inr (mk [lo1 c])) hd4 hlk2,?_⟩;rw[z0g];have l4:=z0h (ks:=addN ks' (up1 c)) (c:=lo1 c);refine⟨addN (addN ks' (up1 c)) (lo1 c),_,rfl,s4.put hd,q0e,by lia,z3m (z3m hnd2),fun x=>?_⟩;rw[z0i,z0i,hsub x];refine⟨fun z=>?_,fun z=>?_⟩
     ·rcases z with((z|⟨j',c',a1,a2⟩)|z)|z
      ·exact .inl z
      ·exact .inr ⟨j',c',Rb a1,a2⟩
      ·exact .inr ⟨j,c,Mk _,hcw,of_decide_eq_true hcn,by simpa using hbo,.inl z⟩
      ·exact .inr ⟨j,c,Mk _,hcw,of_decide_eq_true hcn,by simpa using hbo,.inr z⟩
     ·rcases z with z|⟨j',c',a1,a2,a3,a4,a5⟩
      ·exact .inl (.inl (.inl z))
      ·rcases Fm.mp a1 with a1|rfl
       ·exact .inl (.inl (.inr ⟨j',c',a1,a2,a3,a4,a5⟩))
       ·rw[hcw] at a2;cases a2;exact a5.elim (fun z=>.inl (.inr z)) .inr
   ·rintro σ' H2 ⟨ks',y7,rfl,s2,h2,hl2,hnd2,hsub⟩;rw[q0n] at hl2 hsub;have e123:Ab "{" = ⟨#[123]⟩:=by decide +kernel
    have efl:=q0n (r.tt);have hsl:=PC.sc_len (s:=123) (r.tt);have hsp:(PySem.Txt.split (mk (r.tt)) (Ab "{")).length<=1000:=by rw[e123,<- Ag (f:=tl),PC.split_sc 123,q0z];lia
    have e1:(Ab "{").length=1:=by decide +kernel
    refine⟨rfl,_,rfl,rfl,_,_,rfl,rfl,by rw[e1];rfl,small (by lia),small (by lia),?_,fun S1 hS1=>?_⟩
    ·rw[PyProof.Rows.len_partsBetween];have:=StrLaws.occ_length_le (mk (r.tt)) (Ab "{") 0 (mk (r.tt)).length ((mk (r.tt)).length+1);exact small (by lia)
    rw[e123,PC.split_mk 123,q0z];have hscn:=z6h (s:=123) (r.tt);have hscm:∀x∈PC.sc 123 (r.tt),x.length<=500:=fun x hx=>Aq (z9d hx) wsz';have hz:heads r.tt=((PC.sc 123 r.tt).tail.map fun x=>(x.drop 1).take 1).flatten:=rfl;generalize PC.sc 123 (r.tt)=sg at hscn hscm hz hsl;have t1:=(Same.refl H2).new (o:=.lst (vN sg)) hS1;have g1:upd H2 S1 (.lst (vN sg)) S1=some (.lst (vN sg)):=q0e;generalize upd H2 S1 (.lst (vN sg))=H3 at t1 g1;refine⟨_,rfl,.inr (.inl ⟨S1,_,rfl,SqL.of g1,fun S2 hS2=>?_⟩)⟩;rw[cutN1 sg hscn];have htl:∀x∈sg.tail,x.length<=500:=fun x hx=>hscm x (List.mem_of_mem_tail hx);have htlen:sg.tail.length<=501:=by rw[List.length_tail];lia
    generalize sg.tail=tg at htl hz htlen;have t2:=t1.new (o:=.lst (vN tg)) hS2;have g2:upd H3 S2 (.lst (vN tg)) S2=some (.lst (vN tg)):=q0e;generalize upd H3 S2 (.lst (vN tg))=H4 at t2 g2;refine .inl ⟨S2,rfl,⟨_,SqL.of g2⟩,fun D1 hD1=>?_⟩;refine z5t (xs:=vN tg) (fun j ys H'=>ys=vN ((tg.take j).map fun x=>(x.drop 1).take 1)/\Same H4 H'/\H' D1=some (.lst ys)) ⟨rfl,(Same.refl H4).new hD1,q0e⟩ (fun j ys H' x=>⟨x.2.2,SqL.of (x.2.1 _ _ g2)⟩) ?_ ?_
    ·rintro j ys H' v hv ⟨rfl,s',h'⟩;rw[Bk] at hv;obtain⟨x,hx,rfl⟩:=Br.mp hv;have hj:=(Ai.mp hx).1;have hxl:=htl x (As hx);refine⟨_,rfl,_,rfl,_,rfl,.inl ⟨_,rfl,small (by rw[q0n];lia),?_⟩⟩;rw[x1h];refine⟨h',small' (by rw[Ag,Ag,Bt];lia),?_,s'.put hD1,q0e⟩;rw[q1b hx,Bf,x2i];rfl
    rintro ys H5 ⟨rfl,s5,h5⟩;rw[Ag,Cc] at h5;have hml:(((tg.map fun x=>(x.drop 1).take 1).map mk).map (·.length)).sum<=tg.length:=by
     clear h5 hz htlen htl g2 t2;induction tg with
     |nil=>exact Aj _
     |cons a r ih =>
      rw[Bc,Bc,Bc,Pe,q0n,Av,Bt];lia
    have evs:vN (tg.map fun x=>(x.drop 1).take 1)=((tg.map fun x=>(x.drop 1).take 1).map mk).map V.str:=by rw[Es (f:=mk)];rfl
    refine⟨_,D1,(tg.map fun x=>(x.drop 1).take 1).map mk,rfl,rfl,.inl (SqL.of (by rw[<- evs];exact h5)),?_,?_⟩
    ·have e0:(Ab "").length=0:=by decide +kernel
     rw[e0,Ag,Ag];lia
    have ez:Ab "z" = ⟨#[122]⟩:=by decide +kernel
    refine .inl ⟨_,_,rfl,rfl,_,rfl,?_⟩;rw[ez,q2o,z7m,Es,show(tl∘mk)=id from funext fun x=>q0z x,List.map_id];have s25:=s2.trans (t2.trans s5);have h25:=s5 _ _ (t2 _ _ h2);have hkr:∀{ks2:List Nat},(∀x,x∈ks2↔x∈ks'\/(122∈heads r.tt/\x=48))->∀x,x∈ks2↔∃r∈rs.take (i+1),RKn r.l r.tt x:=by
     intro ks2 h2' x;rw[h2' x,hsub x,hkn x,Hr,hx];refine⟨fun z=>?_,fun⟨p,hp,z⟩=>?_⟩
     ·rcases z with(⟨p,hp,z⟩|⟨j',c',a1,a2,a3,a4⟩)|z
      ·exact⟨p,Co _ hp,z⟩
      ·exact⟨r,Ay _ (Al.mpr rfl),.inl ⟨j',c',by rw[hw];exact a2,a3,by rw[hw];exact a4⟩⟩
      ·exact⟨r,Ay _ (Al.mpr rfl),.inr z⟩
     ·rcases Az.mp hp with hp|hp
      ·exact .inl (.inl ⟨p,hp,z⟩)
      ·rw[Al.mp hp] at z;rcases z with⟨j',c',a2,a3,a4⟩|z
       ·rw[hw] at a2 a4;exact .inl (.inr ⟨j',c',(Ai.mp a2).1,a2,a3,a4⟩)
       ·exact .inr z
    cases hb:decide (122∈(tg.map fun x=>(x.drop 1).take 1).flatten) with
    |false=>exact iteF ⟨ks',_,_,_,_,_,_,rfl,s25,h25,by lia,hnd2,hkr fun x=>⟨.inl,fun z=>z.elim id fun z=>absurd (by rw[hz] at z;exact z.1) (of_decide_eq_false hb)⟩⟩
    |true =>
     have e48:Ab "0" = mk [48]:=by decide +kernel
     have hlk:(kvN ks').length<sizeLine:=by rw[Ag];exact small' (by lia)
     refine iteT ⟨_,rfl,d,_,rfl,DPut.k (k:=Sum.inr (Ab "0")) h25 hlk,?_⟩;rw[e48,z0g];have l4:=z0h (ks:=ks') (c:=48);exact⟨addN ks' 48,_,_,_,_,_,_,rfl,s25.put hd,q0e,by lia,z3m hnd2,hkr fun x=>by rw[z0i];exact or_congr Iff.rfl ⟨fun z=>⟨by rw[hz];exact of_decide_eq_true hb,z⟩,And.right⟩⟩
  ·rintro σ' H1 ⟨ks,x2,x3,x4,x5,x6,x7,rfl,s1,h1,hlen,hnd,hkn⟩;rw[Ag,Cc] at hkn;rw[Ag] at hlen;refine⟨_,rfl,d,_,rfl,h1,?_⟩;rw[Ag];refine k ks.length _ (by lia) ⟨ks,hnd,rfl,fun x=>(hkn x).trans ⟨fun⟨r,a,b⟩=>⟨(r.l,r.tt),Ci.mpr ⟨r,a,rfl⟩,b⟩,fun⟨p,a,b⟩=>?_⟩⟩ s1;obtain⟨r,hr',rfl⟩:=Ci.mp a;exact⟨r,hr',b⟩
end
end K
set_option maxHeartbeats 4000000
namespace K
open PySem L2 TX
section
variable{P:Program}{w:World}{K:Af}{mg:Str->Option Value}{base:Heap}
theorem z3n{c:Nat}(hg:¬c∈GS):∀(l u:List Nat),c∈u\/c∈l->c∈((parse u l).map ptx).flatten
 |[],u,h=>by
  have hu:c∈u:=h.elim id fun z=>nomatch z;show c∈((tp u).map ptx).flatten;unfold tp;split
  ·rename_i e;rw[e] at hu;cases hu
  ·show c∈u++[];rw[Bi];exact hu
 |d::r,u,h=>by
  rw[parse];split
  ·rename_i hd;rw[Bf,Fw,Bc,Dg];rcases h with h|h
   ·refine Co _ ?_;unfold tp;split
    ·rename_i e;rw[e] at h;cases h
    ·show c∈u++[];rw[Bi];exact h
   ·rcases Ap.mp h with rfl|h
    ·exact absurd hd hg
    ·exact Ay _ (Ay _ (z3n hg r [] (.inr h)))
  ·refine z3n hg r _ ?_;rcases h with h|h
   ·exact .inl (Co _ h)
   ·rcases Ap.mp h with rfl|h
    ·exact .inl (Ay _ (Al.mpr rfl))
    ·exact .inr h
theorem mk_out{body:List Nat}(hb:∀c∈body,c≠125){j c:Nat}(h:(123::(body++[125]))[j]?=some c)(hf:((123::(body++[125])).take (j+1)).foldl insS false=false):c=125:=by
 cases j with
 |zero=>rw[Pn,Jl] at hf;cases hf
 |succ i =>
  rw[List.getElem?_cons_succ] at h;rcases Gf i body.length with z|z
  ·rw[Pn,Ei (by lia),Fj,show insS false 123=true from rfl,z9c _ fun c hc=>hb c (Em hc)] at hf;cases hf
  ·rw[Bp z] at h;have:=(Ai.mp h).1;rw[Bg] at this;rw[show i-body.length=0 by lia] at h;exact(Cg h).symm
def plP(p:Pc):Prop:=p.ok/\isMo p=false/\isCn p=false
theorem no125:¬(125:Nat)∈NS:=by decide +kernel
theorem no47n:¬(47:Nat)∈NS:=by decide +kernel
theorem z9e{p:Pc}(h:plP p){j c:Nat}(hj:p.wr[j]?=some c)(hf:(p.wr.take (j+1)).foldl insS false=false)(hn:c∈NS):∃t,p=.tx t/\c∈t:=by
 have mark:∀body:List Nat,p.wr=123::(body++[125])->(∀c∈body,c≠125)->False:=fun body e hb=>by
  rw[e] at hj hf;exact no125 (mk_out hb hj hf▸hn)
 obtain⟨ok,m1,m2⟩:=h;cases p with
 |tx t=>exact⟨t,rfl,As hj⟩
 |into =>
  have:c=47:=Al.mp (As hj);exact absurd (this▸hn) no47n
 |gap k=>exact(mark [48+k] rfl fun c hc=>by rw[Al.mp hc];have:=ok.2;lia).elim
 |great k =>
  exact(mark [48+k,117] rfl fun c hc=>by
   rcases Ap.mp hc with rfl|hc
   ·have:=ok.2;lia
   ·rw[Al.mp hc];decide).elim
 |small k =>
  exact(mark [48+k,108] rfl fun c hc=>by
   rcases Ap.mp hc with rfl|hc
   ·have:=ok.2;lia
   ·rw[Al.mp hc];decide).elim
 |nou k w =>
  exact(mark [48+k,122,48+w] rfl fun c hc=>by
   have h1:=ok.1.2;have h2:=ok.2.2;simp only[Ap,Bq,or_false] at hc;rcases hc with rfl|rfl|rfl<;>lia).elim
 |more k m=>cases m1
 |cnt v=>cases m2
theorem z5b:∀{qs:List Pc},(∀q∈qs,plP q)->∀{j c:Nat},(flatP qs)[j]?=some c->((flatP qs).take (j+1)).foldl insS false=false->c∈NS->∃t,Pc.tx t∈qs/\c∈t
 |[],_,j,c,h,_,_=>by cases h
 |q::r,hq,j,c,h,hf,hn=>by
  rw[q0x] at h hf;rcases Gf j q.wr.length with z|z
  ·rw[Bj z] at h;rw[Ei (by lia)] at hf;obtain⟨t,e,hc⟩:=z9e (hq q Ao) h hf hn;exact⟨t,by rw[e];exact Ao,hc⟩
  ·rw[Bp z] at h;have e:j+1=q.wr.length+(j-q.wr.length+1):=by lia
   rw[e,Hz,Fq,z2d (hq q Ao).1] at hf;obtain⟨t,h1,h2⟩:=z5b (fun p hp=>hq p (Am _ hp)) h hf hn;exact⟨t,Am _ h1,h2⟩
theorem z9f{s:Nat}:∀{u:List Nat} (r:List Nat),(∀c∈u,c≠s)->∃h t,PC.sc s r=h::t/\PC.sc s (u++r)=(u++h)::t
 |[],r,_=>by
  cases h:PC.sc s r with
  |nil=>exact absurd h (z6h r)
  |cons p q=>exact⟨p,q,rfl,h⟩
 |c::u,r,hu=>by
  obtain⟨h,t,e1,e2⟩:=z9f (u:=u) r fun x hx=>hu x (Am _ hx)
  refine⟨h,t,e1,?_⟩;rw[Mt,PC.sc,if_neg (hu c Ao),e2];rfl
theorem z2e{u r:List Nat}(hu:∀c∈u,c≠123):heads (u++r)=heads r:=by
 obtain⟨h,t,e1,e2⟩:=z9f (s:=123) r hu;unfold heads;rw[e1,e2];rfl
theorem z6i{a b:Nat}{u r:List Nat}(hu:∀c∈a::b::u,c≠123):heads (123::((a::b::u)++r))=b::heads r:=by
 obtain⟨h,t,e1,e2⟩:=z9f (s:=123) r hu;have e3:PC.sc 123 (123::((a::b::u)++r))=[]::PC.sc 123 ((a::b::u)++r):=by rw[PC.sc,if_pos rfl]
 unfold heads;rw[e3,e2,e1];rfl
theorem q8v:∀{qs:List Pc},(∀q∈qs,plP q)->122∈heads (flatP qs)->∃k v,Pc.nou k v∈qs
 |[],_,h=>by
  have:heads []=[]:=by simp[heads,PC.sc]
  rw[show flatP []=[] from rfl,this] at h;cases h
 |q::r,hq,h=>by
  have ih:=q8v (qs:=r) fun p hp=>hq p (Am _ hp);obtain⟨ok,m1,m2⟩:=hq q Ao;have up:(∃k v,Pc.nou k v∈r)->∃k v,Pc.nou k v∈q::r:=fun⟨k,v,z⟩=>⟨k,v,Am _ z⟩
  rw[q0x] at h;have two:∀{a b:Nat} {u:List Nat},q.wr=123::a::b::u->(∀c∈a::b::u,c≠123)->b≠122->∃k v,Pc.nou k v∈q::r:=fun{a b u} e hu hb=>by
   rw[e] at h;have h:122∈heads (123::((a::b::u)++flatP r)):=h;rw[z6i hu] at h;rcases Ap.mp h with z|z
   ·exact absurd z.symm hb
   ·exact up (ih z)
  cases q with
  |tx t =>
   have h:122∈heads (t++flatP r):=h;rw[z2e fun c hc=>(no3 c (ok.2 c hc)).1] at h;exact up (ih h)
  |into =>
   have h:122∈heads ([47]++flatP r):=h;rw[z2e fun c hc=>by rw[Al.mp hc];decide] at h;exact up (ih h)
  |gap k =>
   have h1:=ok.2;exact two rfl (fun c hc=>by simp only[Ap,Bq,or_false] at hc;rcases hc with rfl|rfl<;>lia) (by decide)
  |great k =>
   have h1:=ok.2;exact two rfl (fun c hc=>by simp only[Ap,Bq,or_false] at hc;rcases hc with rfl|rfl|rfl<;>lia) (by decide)
  |small k =>
   have h1:=ok.2;exact two rfl (fun c hc=>by simp only[Ap,Bq,or_false] at hc;rcases hc with rfl|rfl|rfl<;>lia) (by decide)
  |nou k v=>exact⟨k,v,Ao⟩
  |more k m=>cases m1
  |cnt v=>cases m2
theorem lo_up:∀c∈NS,lo1 (up1 c)=lo1 c/\lo1 (lo1 c)=lo1 c:=by decide +kernel
theorem z5c{r:RD}{R:Addr}{H:Hp}(cr:CRule K H R r){c:Nat}(hc:c∈txO r):RKn r.l (flatP r.qs) (up1 c)/\RKn r.l (flatP r.qs) (lo1 c):=by
 obtain⟨sn1,sn2⟩:=seen (qs:=r.qs) cr.at_.good cr.at_.wp.ok;have fin:(∃j,(r.l++flatP r.qs)[j]?=some c/\insB ((r.l++flatP r.qs).take (j+1))=false)->c∈NS->RKn r.l (flatP r.qs) (up1 c)/\RKn r.l (flatP r.qs) (lo1 c):=fun⟨j,h1,h2⟩ hn=>⟨.inl ⟨j,c,h1,hn,h2,.inl rfl⟩,.inl ⟨j,c,h1,hn,h2,.inr rfl⟩⟩
 rcases Az.mp hc with hc|hc
 ·obtain⟨c1,c2⟩:=x4k cr.at_.good hc;exact fin (sn1 c c1 c2) c2
 ·obtain⟨t,ht,hct⟩:=Fz.mp hc;obtain⟨p,hp,rfl⟩:=Ci.mp ht;cases p with
  |tx t=>exact fin (sn2 t hp c hct) ((cr.at_.wp.ok _ hp).2 c hct)
  |nou k v =>
   rw[Al.mp hct];have hz:=z_in cr.at_.wp.ok hp;exact⟨.inr ⟨hz,by decide +kernel⟩,.inr ⟨hz,by decide +kernel⟩⟩
  |_=>cases hct
theorem x2o{r:RD}{R:Addr}{H:Hp}(cr:CRule K H R r){x:Nat}(h:RKn r.l (flatP r.qs) x):x∈NS/\∃c∈txO r,lo1 c=lo1 x:=by
 have pl:∀q∈r.qs,plP q:=fun q hq=>⟨cr.at_.wp.ok q hq,cr.ok.nm q hq,cr.nc q hq⟩
 rcases h with⟨j,c,h1,hn,h2,hx⟩|⟨h,rfl⟩
 ·have hc:c∈txO r:=by
   rcases Gf j r.l.length with z|z
   ·rw[Bj z] at h1;exact Co _ (z3n (fun g=>(gs3 c g).2 hn) r.l [] (.inr (As h1)))
   ·rw[Bp z] at h1;have e:j+1=r.l.length+(j-r.l.length+1):=by lia
    unfold insB at h2;rw[e,Hz,Fq,q5w r.l fun c hc=>(cr.at_.good.sg c hc).elim (fun z=>(gs3 c z).1) (fun z=>(no3 c z).1)] at h2;obtain⟨t,a1,a2⟩:=z5b pl h1 h2 hn;exact Ay _ (Fz.mpr ⟨_,Ci.mpr ⟨_,a1,rfl⟩,a2⟩)
  obtain⟨u1,u2⟩:=lo_up c hn;rcases hx with rfl|rfl
  ·exact⟨up_ns c hn,c,hc,u1.symm⟩
  ·exact⟨lo_ns c hn,c,hc,u2.symm⟩
 ·obtain⟨k,v,hp⟩:=q8v pl h;exact⟨by decide +kernel,48,Ay _ (Fz.mpr ⟨_,Ci.mpr ⟨_,hp,rfl⟩,Al.mpr rfl⟩),rfl⟩
theorem cnt_nm{r q:RD}{R S:Addr}{H:Hp}(cr:CRule K H R r)(cq:CRule K H S q){m:Nat}(h:Cnt [(r.l,flatP r.qs),(q.l,flatP q.qs)] m):m=(nmO r q).length:=by
 obtain⟨ks,nd,rfl,hk⟩:=h;have h1:(nmO r q).length<=ks.length:=kn_nmO cr cq (fun c hc=>⟨(hk _).mpr ⟨_,Ao,(z5c cr hc).1⟩,(hk _).mpr ⟨_,Ao,(z5c cr hc).2⟩⟩) (fun c hc=>⟨(hk _).mpr ⟨_,Am _ Ao,(z5c cq hc).1⟩,(hk _).mpr ⟨_,Am _ Ao,(z5c cq hc).2⟩⟩);have h2:ks.length<=(nmO r q).length:=q8s nd fun x hx=>by
  obtain⟨p,hp,z⟩:=(hk x).mp hx;have fin:(x∈NS/\∃c∈txO r++txO q,lo1 c=lo1 x)->x∈nmO r q:=fun⟨a,c,b,e⟩=>Dw.mpr ⟨a,decide_eq_true (e▸Ci.mpr ⟨c,b,rfl⟩)⟩
  rcases Ap.mp hp with rfl|hp
  ·obtain⟨a,c,b,e⟩:=x2o cr z;exact fin ⟨a,c,Co _ b,e⟩
  ·rw[Al.mp hp] at z;obtain⟨a,c,b,e⟩:=x2o cq z;exact fin ⟨a,c,Ay _ b,e⟩
 lia
structure CallsSh (P:Program) (w:World) (K:Af) (mg:Str->Option Value) (base:Heap):Prop where
 signs:Cal P w K mg base "_law_signs" 2 ["_law_rules"] spSg
def spShapes:Sp:=fun vs H Q _=>∃L rs,∃n:Nat,vs=[.ref L,.int (n:Int)]/\TLs H L rs/\rs.length<=2/\n<=4/\1<=n/\∀(m:Nat) H',Cnt (rs.map fun r=>(r.l,r.tt)) m->Same H H'->Q (.int (((m+4)^n:Nat):Int)) H'
abbrev q7u:Stmt:=top 68
theorem sc_shapes:FnScope ["_law_rules", "_law_most_here", "_law_found", "_law_k"] ["_law_rules", "_law_most_here"] (defScope q7u):=by trivial
theorem z9g(D:Df K mg "_law_shapes" q7u ["_law_rules", "_law_most_here"])(T:Txt mg)(C:CallsSh P w K mg base):Cal P w K mg base "_law_shapes" 3 ["_law_rules", "_law_most_here"] spShapes:=by
 refine D.cal sc_shapes (fun vs H Q E h=>?_) (fun f cdv A outer s H vs Q E hr h=>?_)
 ·obtain⟨L,rs,n,rfl,_⟩:=h;rfl
 ·obtain⟨L,rs,n,rfl,rl,h10,hn,hn1,k⟩:=h;refine⟨_,(q0b (q0i (i:=2) sc_shapes.nd rfl (by trivial) q0f) (q0b (q1h Bo rfl (q1q rfl T.b_range (q0a (pv 1) q0c)) (q0l (i:=3) sc_shapes.nd rfl (by trivial)) (q0d (q0i (i:=2) sc_shapes.nd rfl (by trivial) (q0u q5p (pv 2) (q0u q0k (pe_c C.signs hr (q0a (pv 0) q0c)) q0f))))) (q0d (q0o (pv 2))))),?_⟩;refine⟨_,rfl,(n:Int),rfl,by lia,by lia,q1x (n:=n) (fun i σ' H'=>(∃(m:Nat) (x:Option V),σ'=[some (.ref L),some (.int (n:Int)),some (.int (((m+4)^i:Nat):Int)),x]/\(i=0\/Cnt (rs.map fun r=>(r.l,r.tt)) m))/\Same H H') ⟨⟨0,none,rfl,.inl rfl⟩,Same.refl _⟩ ?_ ?_⟩
  ·rintro i σ' H1 hi ⟨⟨m0,x,rfl,hv⟩,s1⟩;refine⟨_,rfl,_,rfl,L,rs,rfl,rl.same s1,h10,fun m H2 hm hmm s2=>.inl ⟨_,_,rfl,rfl,.inl ⟨_,_,rfl,rfl,.inr ⟨by lia,by lia⟩,?_⟩⟩⟩;have em:(m0+4)^i=(m+4)^i:=by
    rcases hv with rfl|hv
    ·rw[Nat.pow_zero,Nat.pow_zero]
    ·rw[hv.one hmm]
   have e:(((m0+4)^i:Nat):Int)*((m:Int)+4)=(((m+4)^(i+1):Nat):Int):=by rw[em,Jd,Nk];rfl
   exact⟨⟨m,_,congrArg (fun z=>[some (V.ref L),some (V.int (n:Int)),some (V.int z),_]) e,.inr hmm⟩,s1.trans s2⟩
  ·rintro σ' H1 ⟨⟨m,x,rfl,hv⟩,s1⟩;exact⟨_,rfl,k m _ (hv.resolve_left (by lia)) s1⟩
theorem CRule.tk{H H':Hp}{R:Addr}{r:RD}(h:CRule K H R r)(k:∀xs,H R=some (.tup xs)->H' R=some (.tup xs)):CRule K H' R r:=⟨⟨k _ h.at_.at_,h.at_.kok,h.at_.good,h.at_.wp,h.at_.st0,h.at_.st1,h.at_.ask⟩,h.ok,h.nc,h.tx⟩
theorem q1t{a b:Addr}{H H':Hp}(F:FeedAt H a b)(fd:Fd a b H H'):∀{R:Addr} {xs:List V},H R=some (.tup xs)->H' R=some (.tup xs):=fun{R xs} e=>fd.at e fun z=>by
 obtain⟨_,_,e2⟩:=F.fa;rw[<- z,e] at e2;cases e2
end
end K
set_option maxHeartbeats 4000000
namespace K
open PySem L2 TX SB HM
section
variable{P:Program}{w:World}{K:Af}{mg:Str->Option Value}{base:Heap}
def norm:List Pc->List Pc
 |[]=>[]
 |.tx x::r=>match norm r with
  |.tx y::s=>.tx (x++y)::s
  |s=>.tx x::s
 |q::r=>q::norm r
def isTx:Pc->Bool
 |.tx _=>true
 |_=>false
theorem q5x(x:List Nat)(r:List Pc):(∃y s,norm r=.tx y::s/\norm (.tx x::r)=.tx (x++y)::s)\/((∀y s,norm r≠.tx y::s)/\norm (.tx x::r)=.tx x::norm r):=by
 cases h:norm r with
 |nil=>exact .inr ⟨fun _ _ z=>(by cases z),by rw[norm,h]⟩
 |cons q s =>
  cases q with
  |tx y=>exact .inl ⟨y,s,rfl,by rw[norm,h]⟩
  |_=>exact .inr ⟨fun _ _ z=>(by cases z),by rw[norm,h]⟩
theorem q5y{q:Pc}(h:isTx q=false)(r:List Pc):norm (q::r)=q::norm r:=by
 cases q with
 |tx _=>cases h
 |_=>rfl
theorem q5j:∀ts:List Pc,flatP (norm ts)=flatP ts
 |[]=>rfl
 |q::r=>by
  have ih:=q5j r;cases hq:isTx q with
  |false=>rw[q5y hq,q0x,q0x,ih]
  |true =>
   cases q with
   |tx x =>
    rcases q5x x r with⟨y,s,e1,e2⟩|⟨_,e2⟩
    ·rw[e1,q0x] at ih;rw[e2,q0x,q0x,<- ih];show(x++y)++flatP s=x++(y++flatP s)
     rw[Cw]
    ·rw[e2,q0x,q0x,ih]
   |_=>cases hq
theorem z3o:∀{ts:List Pc},(∀q∈ts,q.ok)->∀q∈norm ts,q.ok/\(isTx q=true\/q∈ts)
 |[],_,q,h=>by cases h
 |p::r,h,q,hq=>by
  have ih:=z3o (ts:=r) fun x hx=>h x (Am _ hx);have up:∀z,z∈norm r->z.ok/\(isTx z=true\/z∈p::r):=fun z hz=>⟨(ih z hz).1,(ih z hz).2.imp id (Am _)⟩
  cases hp:isTx p with
  |false =>
   rw[q5y hp] at hq;rcases Ap.mp hq with z|z
   ·rw[z];exact⟨h p Ao,.inr Ao⟩
   ·exact up q z
  |true =>
   cases p with
   |tx x =>
    have hx:=h (.tx x) Ao;rcases q5x x r with⟨y,s,e1,e2⟩|⟨_,e2⟩
    ·rw[e2] at hq;rcases Ap.mp hq with z|z
     ·have hy:=(ih (.tx y) (by rw[e1];exact Ao)).1;rw[z];exact⟨⟨fun w=>hx.1 (Nx.mp w).1,fun c hc=>(Az.mp hc).elim (hx.2 c) (hy.2 c)⟩,.inl rfl⟩
     ·exact up q (by rw[e1];exact Am _ z)
    ·rw[e2] at hq;rcases Ap.mp hq with z|z
     ·rw[z];exact⟨hx,.inl rfl⟩
     ·exact up q z
   |_=>cases hp
theorem z9h:∀(ts:List Pc) (i:Nat) (x y:List Nat),(norm ts)[i]?=some (.tx x)->(norm ts)[i+1]?≠some (.tx y)
 |[],i,x,y,h=>by cases h
 |p::r,i,x,y,h=>by
  have ih:=z9h r;cases hp:isTx p with
  |false =>
   rw[q5y hp] at h ⊢;cases i with
   |zero=>cases h;cases hp
   |succ i=>exact ih i x y h
  |true =>
   cases p with
   |tx a =>
    rcases q5x a r with⟨b,s,e1,e2⟩|⟨e1,e2⟩
    ·rw[e2] at h ⊢;rw[e1] at ih;cases i with
     |zero=>exact ih 0 b y rfl
     |succ i=>exact ih (i+1) x y h
    ·rw[e2] at h ⊢;cases i with
     |zero =>
      intro z;cases hn:norm r with
      |nil=>rw[hn] at z;cases z
      |cons q s =>
       rw[hn] at z;have z:q=.tx y:=Cg z;exact e1 y s (by rw[hn,z])
     |succ i=>exact ih i x y h
   |_=>cases hp
def inOk:Bool->List Pc->Prop
 |b,[]=>b=false
 |b,q::r=>if pcI q=true then b=false/\inOk true r else inOk false r
theorem q1u{b:Bool}{q:Pc}{r:List Pc}(h:pcI q=false):inOk b (q::r)↔inOk false r:=by
 show(if pcI q=true then _ else _)↔_;rw[h,if_neg (by decide)]
theorem q3d{b:Bool}{q:Pc}{r:List Pc}(h:pcI q=true):inOk b (q::r)↔b=false/\inOk true r:=by
 show(if pcI q=true then _ else _)↔_;rw[if_pos h]
theorem z0k:∀{ts:List Pc} {b:Bool},inOk b ts->inOk b (norm ts)
 |[],_,h=>h
 |p::r,b,h=>by
  cases hp:isTx p with
  |false =>
   rw[q5y hp];cases hi:pcI p with
   |true =>
    have:=(q3d hi).mp h;exact(q3d hi).mpr ⟨this.1,z0k this.2⟩
   |false=>exact(q1u hi).mpr (z0k ((q1u hi).mp h))
  |true =>
   cases p with
   |tx x =>
    have h:=z0k ((q1u (q:=.tx x) rfl).mp h);rcases q5x x r with⟨y,s,e1,e2⟩|⟨_,e2⟩
    ·rw[e1] at h;rw[e2];exact(q1u (q:=.tx (x++y)) rfl).mpr ((q1u (q:=.tx y) rfl).mp h)
    ·rw[e2];exact(q1u (q:=.tx x) rfl).mpr h
   |_=>cases hp
theorem z3p:∀{ts:List Pc} {b:Bool},inOk b ts->∀i,ts[i]?=some .into->(b=true->1<=i)/\(1<=i->ts[i-1]?≠some .into)
 |[],_,_,i,h=>by cases h
 |p::r,b,h,i,hi=>by
  cases hp:pcI p with
  |true =>
   obtain⟨h1,h2⟩:=(q3d hp).mp h;cases i with
   |zero=>exact⟨fun z=>(by rw[h1] at z;cases z),fun z=>absurd z (by lia)⟩
   |succ i =>
    have:=z3p h2 i hi;refine⟨fun _=>by lia,fun _ z=>?_⟩;cases i with
    |zero=>have:=this.1 rfl;lia
    |succ i=>exact this.2 (by lia) z
  |false =>
   have h2:=(q1u hp).mp h;cases i with
   |zero=>cases hi;cases hp
   |succ i =>
    have:=z3p h2 i hi;refine⟨fun _=>by lia,fun _ z=>?_⟩;cases i with
    |zero=>cases z;cases hp
    |succ i=>exact this.2 (by lia) z
theorem z9i:∀{ts:List Pc} {b:Bool},inOk b ts->∀q,ts.getLast?=some q->q≠.into
 |[],_,_,q,h=>by cases h
 |[p],b,h,q,hq=>by
  rw[List.getLast?_singleton] at hq;cases hq;intro z;rw[z] at h;have:=((q3d (q:=.into) rfl).mp h).2;cases this
 |p::r::s,b,h,q,hq=>by
  have h2:∃b',inOk b' (r::s):=by
   cases hp:pcI p with
   |true=>exact⟨true,((q3d hp).mp h).2⟩
   |false=>exact⟨false,(q1u hp).mp h⟩
  obtain⟨b',h2⟩:=h2;exact z9i h2 q (by rw[List.getLast?_cons_cons] at hq;exact hq)
theorem q6s:∀{ts:List Pc} {b:Bool} {q:Pc},pcI q=false->inOk b ts->inOk b (ts++[q])
 |[],b,q,hq,h=>(q1u hq).mpr rfl
 |p::r,b,q,hq,h=>by
  show inOk b (p::(r++[q]));cases hp:pcI p with
  |true =>
   have:=(q3d hp).mp h;exact(q3d hp).mpr ⟨this.1,q6s hq this.2⟩
  |false=>exact(q1u hp).mpr (q6s hq ((q1u hp).mp h))
theorem q7v:∀{ts:List Pc} {b:Bool} {q:Pc},pcI q=false->inOk b ts->inOk b (ts++[.into,q])
 |[],b,q,hq,h=>(q3d (q:=.into) rfl).mpr ⟨h,(q1u hq).mpr rfl⟩
 |p::r,b,q,hq,h=>by
  show inOk b (p::(r++[.into,q]));cases hp:pcI p with
  |true =>
   have:=(q3d hp).mp h;exact(q3d hp).mpr ⟨this.1,q7v hq this.2⟩
  |false=>exact(q1u hp).mpr (q7v hq ((q1u hp).mp h))
theorem z5d:∀ts:List Pc,wsz (norm ts)=wsz ts/\((norm ts).filter pcI).length=(ts.filter pcI).length
 |[]=>⟨rfl,rfl⟩
 |p::r=>by
  obtain⟨i1,i2⟩:=z5d r;cases hp:isTx p with
  |false =>
   rw[q5y hp];refine⟨by show pcB p+wsz (norm r)=pcB p+wsz r;rw[i1],?_⟩;rw[Ey,Ey];split
   ·rw[Av,Av,i2]
   ·exact i2
  |true =>
   cases p with
   |tx x =>
    rcases q5x x r with⟨y,s,e1,e2⟩|⟨_,e2⟩
    ·rw[e1] at i1 i2;rw[e2];have i1:y.length+wsz s=wsz r:=i1;refine⟨?_,i2⟩;show(x++y).length+wsz s=x.length+wsz r;rw[Ad];lia
    ·rw[e2];exact⟨by show x.length+wsz (norm r)=x.length+wsz r;rw[i1],i2⟩
   |_=>cases hp
theorem x4l{ts:List Pc}(hi:inOk true ts)(ho:∀q∈ts,q.ok)(hl:(flatP ts).length<=100):WP (norm ts):=by
 have hn:=z0k hi;refine⟨fun z=>?_,fun q hq=>(z3o ho q hq).1,z9h ts,fun i h=>?_,z9i hn,by rw[q5j];exact hl⟩
 ·rw[z] at hn;cases hn
 ·have:=z3p hn i h;have h1:=this.1 rfl;exact⟨h1,this.2 h1⟩
theorem z9j(u:List Nat)(q:List Pt):gsOf (tp u++q)=gsOf q:=by unfold tp;split<;>rfl
theorem q3t:∀(l u:List Nat),gsOf (parse u l)=l.filter fun c=>decide (c∈GS)
 |[],u=>by
  have:=z9j u [];rw[Bi] at this;exact this
 |c::r,u=>by
  rw[parse];by_cases h:c∈GS
  ·rw[if_pos h,z9j,Nc (by rw[decide_eq_true h])];show c::gsOf (parse [] r)=_;rw[q3t r []]
  ·rw[if_neg h,List.filter_cons_of_neg (by rw[decide_eq_false h];decide)];exact q3t r _
def gpn(l:List Nat):Nat:=(l.filter fun c=>decide (c∈GS)).length
def tokB(G:Nat):Pc->Bool
 |.into=>true
 |.tx t=>decide (t.length=1/\∀c∈t,c∈NS)
 |.gap k=>decide (1<=k/\k<=G)
 |.great k=>decide (1<=k/\k<=G)
 |.small k=>decide (1<=k/\k<=G)
 |.nou k v=>decide (1<=k/\k<=G/\1<=v/\v<=2)
 |_=>false
structure TokF (G:Nat) (q:Pc):Prop where
 ok:q.ok
 nm:isMo q=false
 nc:isCn q=false
 gp:∀k,gapNo q=some k->1<=k/\k<=G
 wl:q.wr.length<=5
 pb:pcB q<=13
 px:(pcx q).length<=1
theorem tokF{G:Nat}{q:Pc}(hG:G<=9)(h:tokB G q=true):TokF G q:=by
 cases q with
 |into=>exact⟨trivial,rfl,rfl,fun k e=>(by cases e),by show 1<=5;decide,by show 0<=13;decide,Ax _⟩
 |tx t =>
  have h:=of_decide_eq_true h;have h1:=h.1;exact⟨⟨fun z=>(by rw[z] at h1;cases h1),h.2⟩,rfl,rfl,fun k e=>(by cases e),by show t.length<=5;lia,by show t.length<=13;lia,by show t.length<=1;lia⟩
 |gap k=>have h:=of_decide_eq_true h;exact⟨⟨h.1,by lia⟩,rfl,rfl,fun k' e=>by cases e;exact h,by show 3<=5;decide,Aj _,Ax _⟩
 |great k=>have h:=of_decide_eq_true h;exact⟨⟨h.1,by lia⟩,rfl,rfl,fun k' e=>by cases e;exact h,by show 4<=5;decide,Aj _,Ax _⟩
 |small k=>have h:=of_decide_eq_true h;exact⟨⟨h.1,by lia⟩,rfl,rfl,fun k' e=>by cases e;exact h,by show 4<=5;decide,Aj _,Ax _⟩
 |nou k v=>have h:=of_decide_eq_true h;exact⟨⟨⟨h.1,by lia⟩,by lia,by lia⟩,rfl,rfl,fun k' e=>by cases e;exact⟨h.1,h.2.1⟩,by show 5<=5;decide,Aj _,Aj _⟩
 |_=>cases h
structure Raw (l:List Nat) (ts:List Pc):Prop where
 ne:l≠[]
 ll:l.length<=5
 lo:∀c∈l,c∈GS\/c∈NS
 ti:inOk true ts
 len:ts.length<=6
 tok:∀q∈ts,tokB (gpn l) q=true
def mkN(kd:Str)(l:List Nat)(ts:List Pc)(st:Nat):RD:=⟨kd,l,norm ts,st⟩
theorem z6j{l:List (List Nat)}{k:Nat}(h:∀x∈l,x.length<=k):l.flatten.length<=k*l.length:=by
 have:=q8t (l:=l) (f:=fun x=>x) (m:=k) h;rw[List.flatMap_id',Qd] at this;exact this
theorem wsz_le{ts:List Pc}(h:∀q∈ts,pcB q<=13):wsz ts<=13*ts.length:=by
 unfold wsz;induction ts with
 |nil=>exact Aj _
 |cons a r ih =>
  have h1:=h a Ao;have h2:=ih fun x hx=>h x (Am _ hx);rw[Bc,Pe,Av];lia
theorem z9k:∀ts:List Pc,((norm ts).map pcx).flatten=(ts.map pcx).flatten
 |[]=>rfl
 |p::r=>by
  have ih:=z9k r;cases hp:isTx p with
  |false=>rw[q5y hp,Bc,Dg,Bc,Dg,ih]
  |true =>
   cases p with
   |tx x =>
    rcases q5x x r with⟨y,s,e1,e2⟩|⟨_,e2⟩
    ·rw[e1,Bc,Dg] at ih;rw[e2,Bc,Dg,Bc,Dg,<- ih];show(x++y)++_=x++(y++_)
     rw[Cw]
    ·rw[e2,Bc,Dg,Bc,Dg,ih]
   |_=>cases hp
theorem z3q:∀(l u:List Nat),((parse u l).map ptx).flatten.length<=u.length+l.length
 |[],u=>by
  show((tp u).map ptx).flatten.length<=_;unfold tp;split
  ·exact Ax _
  ·show(u++[]).length<=_;rw[Bi];exact Aj _
 |c::r,u=>by
  rw[parse];split
  ·have ih:=z3q r [];have e:((tp u++Pt.gp c::parse [] r).map ptx).flatten=((tp u).map ptx).flatten++((parse [] r).map ptx).flatten:=by
    rw[Bf,Fw,Bc,Dg];rfl
   have ht:((tp u).map ptx).flatten.length<=u.length:=by
    unfold tp;split
    ·exact Ax _
    ·show(u++[]).length<=_;rw[Bi];exact Aj _
   rw[Iv] at ih;rw[Av];refine Aq (Er (congrArg List.length e)) ?_;rw[Ad];lia
  ·have ih:=z3q r (u++[c]);rw[Ad,Bg] at ih;rw[Av];lia
theorem z2f{H:Hp}{R:Addr}{l:List Nat}{ts ex:List Pc}{st:Nat}(h:Raw l ts)(h5:ts.length<=5)(hex:ex=[]\/∃t,ex=[.tx t]/\t≠[]/\t.length<=35/\∀c∈t,c∈NS)(hst:st<=1000)(hR:H R=some (.tup [.str (Ab "slip"),.str (mk l),.str (mk (flatP (ts++ex))),.int (st:Int)])):CRule K H R (mkN (Ab "slip") l (ts++ex) st)/\(flatP (norm (ts++ex))).length<=60:=by
 have hG:gpn l<=5:=Aq (Cj _ _) h.ll;have tf:∀q∈ts,TokF (gpn l) q:=fun q hq=>tokF (by lia) (h.tok q hq);have hw:wsz ts<=13*ts.length:=wsz_le fun q hq=>(tf q hq).pb;have hfl0:(flatP ts).length<=25:=by
  have:=q8t (l:=ts) (f:=Pc.wr) (m:=5) fun q hq=>(tf q hq).wl;have e:flatP ts=ts.flatMap Pc.wr:=by unfold flatP;rw[Ro]
  rw[e];lia
 have hpx:=z6j (l:=ts.map pcx) (k:=1) fun x hx=>by
  obtain⟨q,hq,rfl⟩:=Ci.mp hx;exact(tf q hq).px
 rw[Ag] at hpx;have hfi:=Cj pcI ts;obtain⟨ti,tf2,hfl,hw2,hpx2,hfi2⟩:inOk true (ts++ex)/\(∀q∈ts++ex,q.ok/\isMo q=false/\isCn q=false/\∀k,gapNo q=some k->1<=k/\k<=gpn l)/\(flatP (ts++ex)).length<=60/\wsz (ts++ex)<=100/\((ts++ex).map pcx).flatten.length<=40/\((ts++ex).filter pcI).length<=10:=by
  have t0:∀q∈ts,q.ok/\isMo q=false/\isCn q=false/\∀k,gapNo q=some k->1<=k/\k<=gpn l:=fun q hq=>⟨(tf q hq).ok,(tf q hq).nm,(tf q hq).nc,(tf q hq).gp⟩
  rcases hex with rfl|⟨t,rfl,e1,e2,e3⟩
  ·rw[Bi];exact⟨h.ti,t0,by lia,by lia,by lia,by lia⟩
  ·refine⟨q6s rfl h.ti,fun q hq=>?_,?_,?_,?_,?_⟩
   ·rcases Az.mp hq with z|z
    ·exact t0 q z
    ·rw[Al.mp z];exact⟨⟨e1,e3⟩,rfl,rfl,fun k z=>by cases z⟩
   ·rw[q1n,q0x,Ad,Ad];show(flatP ts).length+(t.length+0)<=60;lia
   ·unfold wsz at hw ⊢;rw[Bf,List.sum_append];show(ts.map pcB).sum+(t.length+0)<=100;lia
   ·rw[Bf,Fw,Ad];show _+(t++[]).length<=40;rw[Bi];lia
   ·rw[Ga,Ad];show _+0<=10;lia
 generalize ts++ex=us at *;have nf:∀q∈norm us,q.ok/\isMo q=false/\isCn q=false/\∀k,gapNo q=some k->1<=k/\k<=gpn l:=fun q hq=>by
  obtain⟨o,z⟩:=z3o (fun q hq=>(tf2 q hq).1) q hq;rcases z with z|z
  ·cases q with
   |tx t=>exact⟨o,rfl,rfl,fun k e=>(by cases e)⟩
   |_=>cases z
  ·exact⟨o,(tf2 q z).2⟩
 obtain⟨w1,w2⟩:=z5d us;refine⟨⟨⟨by show H R=some (.tup [.str (Ab "slip"),.str (mk l),.str (mk (flatP (norm us))),.int (st:Int)]);rw[q5j];exact hR,by show inV (.str (Ab "slip")) kinds3=true;decide +kernel,⟨h.ne,h.lo,by show gpn l<=9;lia,by have:=h.ll;show l.length<=1000;lia⟩,x4l ti (fun q hq=>(tf2 q hq).1) (by lia),by show(0:Int)<=(st:Int);lia,by show(st:Int)<=1000000000;lia,fun q hq=>?_⟩,?_,fun q hq=>(nf q hq).2.2.1,?_⟩,by rw[q5j];exact hfl⟩
 ·show AskOk (Ab "slip") (gsOf (parse [] l)) q;rw[q3t];have:=nf q hq;exact⟨this.2.2.2,fun k m z=>(by rw[z] at this;have:=this.2.1;cases this),fun _=>rfl⟩
 ·refine⟨by show st<=_;lia,?_,fun q hq=>(nf q hq).2.1,fun q hq=>(nf q hq).1,?_⟩
  ·show((norm us).filter pcI).length<=10;lia
  ·show wsz (norm us)<=100;lia
 ·show(((parse [] l).map ptx).flatten++((norm us).map pcx).flatten).length<=1000;rw[Ad,z9k];have h1:=z3q l [];rw[Iv] at h1;have:=h.ll;lia
end
end K
set_option maxHeartbeats 4000000
namespace K
open PySem L2 TX
section
variable{P:Program}{w:World}{K:Af}{mg:Str->Option Value}{base:Heap}
structure CallsRu (P:Program) (w:World) (K:Af) (mg:Str->Option Value) (base:Heap):Prop where
 draw:Cal P w K mg base "_law_draw" 1 ["_law_feed", "_law_many"] spDraw
 text:Cal P w K mg base "_law_text" 2 ["_law_feed", "_law_signs_here", "_law_size"] spText
structure RawAt (H:Hp) (R:Addr) (l:List Nat) (ts:List Pc) (st:Nat):Prop where
 at_:H R=some (.tup [.str (Ab "slip"),.str (mk l),.str (mk (flatP ts)),.int (st:Int)])
 ok:Raw l ts
 st:st<=10
 ne:ts≠[]
def gapP(k:Nat):Nat->Pc
 |0=>.gap k
 |1=>.gap k
 |2=>.great k
 |3=>.small k
 |_=>.nou k 2
def gapS:Nat->Str
 |0=>Ab ""
 |1=>Ab ""
 |2=>Ab "u"
 |3=>Ab "l"
 |_=>Ab "z2"
theorem gap_wr{k j:Nat}(hk:k<10)(hj:j<5):Ab "{" ++ mk (dg k)++gapS j++Ab "}" = mk (gapP k j).wr:=by
 rw[q2j hk];apply ext;have e1:tl (Ab "{")=[123]:=by decide +kernel
 have e2:tl (Ab "}")=[125]:=by decide +kernel
 rw[q2n,q2n,q2n,e1,e2,q0z [48+k],q0z (gapP k j).wr];match j,hj with
 |0,_=>rw[show tl (gapS 0)=[] from by decide +kernel];rfl
 |1,_=>rw[show tl (gapS 1)=[] from by decide +kernel];rfl
 |2,_=>rw[show tl (gapS 2)=[117] from by decide +kernel];rfl
 |3,_=>rw[show tl (gapS 3)=[108] from by decide +kernel];rfl
 |4,_=>rw[show tl (gapS 4)=[122,50] from by decide +kernel];rfl
theorem x4m{g k j:Nat}(h1:1<=k)(h2:k<=g):tokB g (gapP k j)=true/\pcI (gapP k j)=false/\(gapP k j).wr.length<=5:=by
 unfold gapP;split
 ·exact⟨decide_eq_true ⟨h1,h2⟩,rfl,by show 3<=5;decide⟩
 ·exact⟨decide_eq_true ⟨h1,h2⟩,rfl,by show 3<=5;decide⟩
 ·exact⟨decide_eq_true ⟨h1,h2⟩,rfl,by show 4<=5;decide⟩
 ·exact⟨decide_eq_true ⟨h1,h2⟩,rfl,by show 4<=5;decide⟩
 ·exact⟨decide_eq_true ⟨h1,h2,by decide,by decide⟩,rfl,by show 5<=5;decide⟩
theorem x4n{r:Int}(h0:0<=r)(h5:r<5):atI [V.str (Ab ""),.str (Ab ""),.str (Ab "u"),.str (Ab "l"),.str (Ab "z2")] r=some (.str (gapS r.toNat)):=by
 have:r=0\/r=1\/r=2\/r=3\/r=4:=by lia
 rcases this with rfl|rfl|rfl|rfl|rfl<;>rfl
theorem x1j(j:Nat):(gapS j).length<=2:=by
 unfold gapS;split<;>decide +kernel
theorem z5e{l:List Nat}{c:Nat}:gpn (l++[c])=gpn l+(if c∈GS then 1 else 0):=by
 unfold gpn;rw[Ga,Ad,Ey];split
 ·rename_i h;rw[if_pos (of_decide_eq_true h)];rfl
 ·rename_i h;rw[if_neg (fun z=>h (decide_eq_true z))];rfl
theorem g5:∀c∈tl (Ab "?*@#?"),c∈GS:=by decide +kernel
theorem g5l:(Ab "?*@#?").length=5:=by decide +kernel
def spRule:Sp:=fun vs H Q _=>∃a b g,vs=[.ref a,.str g]/\FeedAt H a b/\0<g.length/\g.length<=1000/\(∀c∈tl g,c∈NS)/\∀R l ts st H',H R=none->Fd a b H H'->RawAt H' R l ts st->l.length<=3->ts.length<=5->st<=2->Q (.ref R) H'
abbrev z3r:Stmt:=top 70
theorem sc_rule:FnScope ["_law_feed", "_law_signs_here", "_law_pattern", "_law_gaps", "_law_k", "_law_template", "_law_mark"] ["_law_feed", "_law_signs_here"] (defScope z3r):=by trivial
set_option maxHeartbeats 40000000 in
theorem x4o(D:Df K mg "_law_rule" z3r ["_law_feed", "_law_signs_here"])(T:Txt mg)(C:CallsRu P w K mg base):Cal P w K mg base "_law_rule" 3 ["_law_feed", "_law_signs_here"] spRule:=by
 refine D.cal sc_rule (fun vs H Q E h=>?_) (fun f cdv A outer s H vs Q E hr h=>?_)
 ·obtain⟨a,b,g,rfl,_⟩:=h;rfl
 ·obtain⟨a,b,g,rfl,F,hg0,hg1,hgn,k⟩:=h;refine⟨_,(q0b (q0i (i:=2) sc_rule.nd rfl (by trivial) q0g) (q0b (q0i (i:=3) sc_rule.nd rfl (by trivial) q0f) (q0b (q1h Bo rfl (q1q rfl T.b_range (q0a (q0u q0k q0f (pe_c C.draw hr (q0a (pv 0) (q0a q0f q0c)))) q0c)) (q0l (i:=4) sc_rule.nd rfl (by trivial)) (q0d (q0w (q0h q5l (pe_c C.draw hr (q0a (pv 0) (q0a q0f q0c))) q0f (nomark _)) (q0b (q0i (i:=2) sc_rule.nd rfl (by trivial) (q0u q0k (pv 2) (q1a (ix_k K rfl) q0g (pe_c C.draw hr (q0a (pv 0) (q0a q0f q0c))) (fun _ _=>rfl)))) (q0d (q0i (i:=3) sc_rule.nd rfl (by trivial) (q0u q0k (pv 3) q0f)))) (q0d (q0i (i:=2) sc_rule.nd rfl (by trivial) (q0u q0k (pv 2) (pe_c C.text hr (q0a (pv 0) (q0a (pv 1) (q0a q0f q0c)))))))))) (q0b (q0i (i:=5) sc_rule.nd rfl (by trivial) q0g) (q0b (q1h Bo rfl (q1q rfl T.b_range (q0a (q0u q0k q0f (pe_c C.draw hr (q0a (pv 0) (q0a q0f q0c)))) q0c)) (q0l (i:=4) sc_rule.nd rfl (by trivial)) (q0b (q0i (i:=6) sc_rule.nd rfl (by trivial) (pe_c C.text hr (q0a (pv 0) (q0a (pv 1) (q0a q0f q0c))))) (q1f (q0w (pt_j (@PW.pt _ _ _ (q4h (q0h q5l (pv 3) q0f (nomark _)) (q3h (q0h q5l (pe_c C.draw hr (q0a (pv 0) (q0a q0f q0c))) q0f (nomark _)))))) (q0d (q0i (i:=6) sc_rule.nd rfl (by trivial) (q0u q0k (q0u q0k (q0u q0k q0g (q1e q7h (by rfl) T.b_str (by decide +kernel) (q0a (q0u q0k q0f (pe_c C.draw hr (q0a (pv 0) (q0a (pv 3) q0c)))) q0c))) (q1a (ix_k K rfl) (q1r (q0a q0g (q0a q0g (q0a q0g (q0a q0g (q0a q0g q0c)))))) (pe_c C.draw hr (q0a (pv 0) (q0a q0f q0c))) (fun _ _=>rfl))) q0g))) q0j) (q1f (q0w (pt_j (@PW.pt _ _ _ (q4h (q0h (ne_k K rfl hr) (pv 5) q0g (nomark _)) (q4h (q0h (ne_k K rfl hr) (q1a (ix_k K rfl) (pv 5) (z9s z3t q0f) (fun _ _=>rfl)) q0g (nomark _)) (q3h (q0h (eq_k K rfl hr) (pe_c C.draw hr (q0a (pv 0) (q0a q0f q0c))) q0f (nomark _))))))) (q0d (q0i (i:=6) sc_rule.nd rfl (by trivial) (q0u q0k q0g (pv 6)))) q0j) (q0d (q0i (i:=5) sc_rule.nd rfl (by trivial) (q0u q0k (pv 5) (pv 6)))))))) (q0d (q0o (q0q (q0a q0g (q0a (pv 2) (q0a (pv 5) (q0a (pe_c C.draw hr (q0a (pv 0) (q0a q0f q0c))) q0c)))))))))))),?_⟩;have e0:Ab "" = mk []:=by decide +kernel
  refine⟨_,rfl,a,b,3,rfl,F,by decide,by decide,fun r1 H1 r10 r11 fd1=>.inl ⟨_,_,rfl,rfl,?_⟩⟩;obtain⟨n1,rfl⟩:∃n:Nat,r1=(n:Int):=⟨r1.toNat,by lia⟩
  rw[show(1:Int)+(n1:Int)=((n1+1:Nat):Int) by lia];refine⟨((n1+1:Nat):Int),rfl,by lia,by lia,q1x (n:=n1+1) (fun i σ' H'=>∃l x4,σ'=[some (.ref a),some (.str g),some (.str (mk l)),some (.int ((gpn l:Nat):Int)),x4,none,none]/\Fd a b H H'/\l.length=i/\∀c∈l,c∈GS\/c∈NS) ⟨[],_,by rw[e0];rfl,fd1,rfl,(fun _ h=>nomatch h)⟩ ?_ ?_⟩
  ·rintro i σ' H2 hi ⟨l,x4,rfl,fd2,hl,hlo⟩;refine⟨_,rfl,a,b,4,rfl,fd2.feed,by decide,by decide,fun r H3 r0 r1 fd3=>⟨_,_,rfl,rfl,_,rfl,ite2 (fun h=>?_) (fun h=>?_)⟩⟩
   ·refine⟨_,rfl,_,rfl,a,b,5,rfl,fd3.feed,by decide,by decide,fun r4 H4 r40 r41 fd4=>?_⟩;obtain⟨c,hc1,hc2⟩:=z1d (xs:=tl (Ab "?*@#?")) r40 (by rw[<- len,g5l];exact r41);refine .inr (.inr ⟨_,r4,c,rfl,rfl,by rw[g5l];exact small (by decide),hc2,?_⟩);refine .inr (.inl ⟨_,_,rfl,rfl,by rw[q0n];exact small (by show _+1<=_;lia),?_⟩);rw[show(⟨#[c]⟩:Str)=mk [c] from rfl,q2d];refine⟨_,rfl,.inl ⟨_,_,rfl,rfl,l++[c],some (.int (0+(i:Int))),?_,(fd2.trans fd3).trans fd4,by rw[Ad,hl];rfl,fun d hd=>?_⟩⟩
    ·rw[z5e,if_pos (g5 c (As hc1))];rfl
    ·rcases Az.mp hd with z|z
     ·exact hlo d z
     ·rw[Al.mp z];exact .inl (g5 c (As hc1))
   ·refine⟨_,rfl,_,rfl,_,rfl,a,b,g,1,rfl,fd3.feed,hg0,hg1,by decide,by decide,fun t H4 ht htg fd4=>?_⟩;obtain⟨c,rfl⟩:∃c,t=[c]:=by
     match t,ht with
     |[c],_=>exact⟨c,rfl⟩
    have hcn:=hgn c (htg c (by simp));refine .inr (.inl ⟨_,_,rfl,rfl,by rw[q0n,q0n];exact small (by show _+1<=_;lia),?_⟩);rw[q2d];refine⟨l++[c],some (.int (0+(i:Int))),?_,(fd2.trans fd3).trans fd4,by rw[Ad,hl];rfl,fun d hd=>?_⟩
    ·rw[z5e,if_neg (fun z=>(gs3 c z).2 hcn)];rfl
    ·rcases Az.mp hd with z|z
     ·exact hlo d z
     ·rw[Al.mp z];exact .inr hcn
  rintro σ' H2 ⟨l,x4,rfl,fd2,hl,hlo⟩;have hG:gpn l<=3:=Aq (Cj _ _) (by lia);refine⟨_,rfl,a,b,3,rfl,fd2.feed,by decide,by decide,fun r2 H3 r20 r21 fd3'=>.inl ⟨_,_,rfl,rfl,?_⟩⟩;have fd3:=fd2.trans fd3';obtain⟨n2,rfl⟩:∃n:Nat,r2=(n:Int):=⟨r2.toNat,by lia⟩
  rw[show(1:Int)+(n2:Int)=((n2+1:Nat):Int) by lia];refine⟨((n2+1:Nat):Int),rfl,by lia,by lia,q1x (n:=n2+1) (fun i σ' H'=>∃ts x4 x6,σ'=[some (.ref a),some (.str g),some (.str (mk l)),some (.int ((gpn l:Nat):Int)),x4,some (.str (mk (flatP ts))),x6]/\Fd a b H H'/\(ts=[]\/inOk true ts)/\(0<i->ts≠[])/\ts.length<=2*i-1/\(∀q∈ts,tokB (gpn l) q=true)/\(flatP ts).length<=6*i) ⟨[],_,_,by rw[e0];rfl,fd3,.inl rfl,fun z=>absurd z (by lia),Ax _,(fun _ h=>nomatch h),Ax _⟩ ?_ ?_⟩
  ·rintro i σ' H4 hi ⟨ts,x4,x6,rfl,fd4,hin,hne,htl,htok,hfl⟩;refine⟨_,rfl,_,rfl,a,b,g,1,rfl,fd4.feed,hg0,hg1,by decide,by decide,fun t H5 ht htg fd5'=>?_⟩;have fd5:=fd4.trans fd5';have ht1:t.length=1:=ht;refine⟨fun σ' H'=>∃q,σ'=[some (.ref a),some (.str g),some (.str (mk l)),some (.int ((gpn l:Nat):Int)),some (.int (0+(i:Int))),some (.str (mk (flatP ts))),some (.str (mk q.wr))]/\Fd a b H H'/\tokB (gpn l) q=true/\pcI q=false/\q.wr.length<=5,?_,?_⟩;rotate_left
   ·refine⟨fun bb H'=>Fd a b H H'/\(bb=true->0<gpn l),?_,?_⟩;rotate_left
    ·refine⟨_,rfl,_,_,rfl,rfl,_,rfl,ite2 (fun h=>?_) (fun h=>⟨fd5,fun z=>(by cases z)⟩)⟩;have hp:0<gpn l:=by have:=of_decide_eq_true h;lia
     exact⟨_,rfl,a,b,6,rfl,fd5.feed,by decide,by decide,fun r H6 _ _ fd6=>⟨_,_,rfl,rfl,_,rfl,fd5.trans fd6,fun _=>hp⟩⟩
    rintro bb H6 ⟨fd6,hbb⟩;refine ite2 (fun h=>?_) (fun h=>⟨.tx t,rfl,fd6,decide_eq_true ⟨ht1,fun c hc=>hgn c (htg c hc)⟩,rfl,by show t.length<=5;lia⟩);have hp:=hbb h;refine⟨_,rfl,_,rfl,a,b,_,rfl,fd6.feed,by lia,by lia,fun r7 H7 r70 r71 fd7=>.inl ⟨_,_,rfl,rfl,?_⟩⟩;obtain⟨k7,rfl⟩:∃n:Nat,r7=(n:Int):=⟨r7.toNat,by lia⟩
    rw[show(1:Int)+(k7:Int)=((k7+1:Nat):Int) by lia];refine⟨k7+1,rfl,by lia,?_⟩;rw[z1j];have l123:(Ab "{").length=1:=by decide +kernel
    have l125:(Ab "}").length=1:=by decide +kernel
    have ldg:(mk (dg (k7+1))).length=1:=by rw[q0n,q2j (by lia)];rfl
    refine .inr (.inl ⟨_,_,rfl,rfl,by rw[l123,ldg];exact small (by decide),by show 5<=sizeLine;decide,fun kl hkl=>?_⟩);have fdk:=(fd6.trans fd7).new (o:=.lst [.str (Ab ""),.str (Ab ""),.str (Ab "u"),.str (Ab "l"),.str (Ab "z2")]) hkl;have kls:upd H7 kl (.lst [.str (Ab ""),.str (Ab ""),.str (Ab "u"),.str (Ab "l"),.str (Ab "z2")]) kl=some (.lst [.str (Ab ""),.str (Ab ""),.str (Ab "u"),.str (Ab "l"),.str (Ab "z2")]):=q0e;have hka:kl≠a:=((fd6.trans fd7).feed.na hkl).symm;generalize upd H7 kl (.lst [.str (Ab ""),.str (Ab ""),.str (Ab "u"),.str (Ab "l"),.str (Ab "z2")])=H8 at fdk kls;refine⟨_,rfl,a,b,5,rfl,fdk.feed,by decide,by decide,fun r9 H9 r90 r91 fd9=>.inl ⟨kl,_,r9,_,rfl,rfl,SqL.of (fd9.at kls hka),x4n r90 r91,?_⟩⟩;have lgs:=x1j r9.toNat;refine .inr (.inl ⟨_,_,rfl,rfl,by rw[q0t,l123,ldg];exact small (by lia),?_⟩);refine .inr (.inl ⟨_,_,rfl,rfl,by rw[q0t,q0t,l123,ldg,l125];exact small (by lia),?_⟩);rw[gap_wr (by lia) (by lia)];obtain⟨g1,g2,g3⟩:=x4m (g:=gpn l) (k:=k7+1) (j:=r9.toNat) (by lia) (by lia);exact⟨_,rfl,fdk.trans fd9,g1,g2,g3⟩
   clear fd5 fd5' ht htg ht1;rintro σ' H5 ⟨q,rfl,fd5,hq1,hq2,hq3⟩;refine⟨fun σ' H'=>∃us,σ'=[some (.ref a),some (.str g),some (.str (mk l)),some (.int ((gpn l:Nat):Int)),some (.int (0+(i:Int))),some (.str (mk (flatP ts))),some (.str (mk (flatP us)))]/\Fd a b H H'/\(us=[q]\/(us=[.into,q]/\ts≠[])),?_,?_⟩;rotate_left
   ·refine⟨fun bb H'=>Fd a b H H'/\(bb=true->ts≠[]),?_,?_⟩;rotate_left
    ·refine⟨_,rfl,.inl ⟨rfl,_,rfl,ite2 (fun h=>?_) (fun h=>⟨fd5,fun z=>(by cases z)⟩)⟩⟩;have hfn:flatP ts≠[]:=fun z=>by rw[z,<- e0,decide_eq_true rfl] at h;cases h
     have htn:ts≠[]:=fun z=>hfn (by rw[z];rfl);have hpos:=De.mpr hfn;obtain⟨c,hc⟩:∃c,atI (tl (mk (flatP ts))) (-1:Int)=some c:=by
      rw[q0z];unfold atI ixN;rw[if_neg (by decide),if_pos (by lia)];exact⟨_,Aw (by lia)⟩
     refine⟨_,rfl,_,rfl,.inr (.inr ⟨_,_,c,rfl,rfl,by rw[q0n];exact small (by lia),hc,.inl ⟨rfl,_,rfl,ite2 (fun h=>?_) (fun h=>⟨fd5,fun z=>(by cases z)⟩)⟩⟩)⟩;exact⟨_,rfl,a,b,4,rfl,fd5.feed,by decide,by decide,fun r H6 _ _ fd6=>.inl ⟨rfl,_,rfl,fd5.trans fd6,fun _=>htn⟩⟩
    rintro bb H6 ⟨fd6,hbb⟩;have e1:flatP [q]=q.wr:=by simp[flatP]
    refine ite2 (fun h=>?_) (fun h=>⟨[q],by rw[e1],fd6,.inl rfl⟩);refine⟨_,rfl,.inr (.inl ⟨_,_,rfl,rfl,by rw[show(Ab "/").length=1 by decide +kernel,q0n];exact small (by lia),?_⟩)⟩;refine⟨[.into,q],?_,fd6,.inr ⟨rfl,hbb h⟩⟩;rw[show Ab "/" = mk [47] by decide +kernel,q2d,show flatP [.into,q]=[47]++q.wr by simp[flatP,Pc.wr]];rfl
   clear fd5;rintro σ' H6 ⟨us,rfl,fd6,hus⟩;have lus:(flatP us).length<=6:=by
    rcases hus with rfl|⟨rfl,_⟩
    ·rw[show flatP [q]=q.wr by simp[flatP]];lia
    ·rw[show flatP [.into,q]=[47]++q.wr by simp[flatP,Pc.wr],Ad];show 1+_<=_;lia
   refine⟨_,rfl,_,rfl,.inr (.inl ⟨_,_,rfl,rfl,by rw[q0n,q0n];exact small (by lia),?_⟩)⟩;rw[q2d,<- q1n];have htok':∀p∈us,tokB (gpn l) p=true:=fun p hp=>by
    rcases hus with rfl|⟨rfl,_⟩
    ·rw[Al.mp hp];exact hq1
    ·rcases Ap.mp hp with z|z
     ·rw[z];rfl
     ·rw[Al.mp z];exact hq1
   refine⟨ts++us,_,_,rfl,fd6,.inr ?_,fun _ z=>?_,?_,fun p hp=>(Az.mp hp).elim (htok p) (htok' p),by rw[q1n,Ad];lia⟩
   ·rcases hus with rfl|⟨rfl,hn⟩
    ·rcases hin with z|z
     ·rw[z];exact(q1u hq2).mpr rfl
     ·exact q6s hq2 z
    ·exact q7v hq2 (hin.resolve_left hn)
   ·have:=(Nx.mp z).2;rcases hus with rfl|⟨rfl,_⟩<;>cases this
   ·rw[Ad];rcases hus with rfl|⟨rfl,hn⟩
    ·show ts.length+1<=_;lia
    ·show ts.length+2<=_;have hi0:0<i:=by
      rcases Jf i with z|z
      ·exfalso;rw[z] at htl;exact hn (List.length_eq_zero_iff.mp (by lia))
      ·exact z
     lia
  rintro σ' H4 ⟨ts,x4',x6,rfl,fd4,hin,hne,htl,htok,hfl⟩;have htn:=hne (by lia);refine⟨_,rfl,_,rfl,_,rfl,a,b,3,rfl,fd4.feed,by decide,by decide,fun st H5 st0 st1 fd5=>⟨by show 4<=sizeLine;decide,fun R hR=>?_⟩⟩;obtain⟨sn,rfl⟩:∃n:Nat,st=(n:Int):=⟨st.toNat,by lia⟩
  have fd5':=fd4.trans fd5;have s6:=(Same.refl H5).new (o:=.tup [.str (Ab "slip"),.str (mk l),.str (mk (flatP ts)),.int (sn:Int)]) hR;exact k R l ts sn _ (fd5'.free hR) (fd5'.same s6) ⟨q0e,⟨De.mp (by lia),by lia,hlo,hin.resolve_left htn,by lia,htok⟩,by lia,htn⟩ (by lia) (by lia) (by lia)
end
end K
set_option maxHeartbeats 4000000
namespace K
open PySem L2 TX
section
variable{P:Program}{w:World}{K:Af}{mg:Str->Option Value}{base:Heap}
structure CallsAPX (P:Program) (w:World) (K:Af) (mg:Str->Option Value) (base:Heap) (Cs Dn:Addr):Prop where
 pieces_of:Cal P w K mg base "pieces_of" 6 ["template"] spPieces
 f_NoSame:ELaw0 K Cs Dn
 g_NoSame:mg "NoSame" = some (.ref Cs)
def spAPX(K:Af)(Cs:Addr):Sp:=fun vs H _ E=>∃R kd l qs st,vs=[.ref R]/\RuleAt K H R kd l qs st/\(∃q∈qs,(isMo q||isCn q)=true)/\Rul Cs H E
theorem wd_len(p:Pc):(pcWd p).length<=100:=by cases p<;>(simp only[pcWd];decide +kernel)
theorem q8d{Cs Dn:Addr}(D:Df K mg "ask_pieces" q2m ["rule"])(T:Txt mg)(C:CallsAPX P w K mg base Cs Dn):CalX P w K mg base "ask_pieces" 7 ["rule"] (spAPX K Cs):=by
 refine D.calX sc_ask_pieces (fun vs H Q E h=>?_) (fun f cdv A outer s H vs Q E hr h=>?_)
 ·obtain⟨R,kd,l,qs,st,rfl,_⟩:=h;rfl
 ·obtain⟨R,kd,l,qs,st,rfl,ru,bad,k⟩:=h;refine⟨_,(q0d (q1h passDef rfl (@q2t _ _ _ _ K rfl (pe_c C.pieces_of hr (q0a (q1a (ix_k K rfl) (pv 0) q0f (fun _ _=>rfl)) q0c))) (q0l (i:=1) sc_ask_pieces.nd rfl (by trivial)) (q0d (q0w (q0h (in_k K rfl) (q1a (ix_k K rfl) (pv 1) q0f (fun _ _=>rfl)) (q0q (q0a q0g (q0a q0g q0c))) (by with_unfolding_all rfl)) (q0d (q2p C.f_NoSame accX rfl C.g_NoSame (q0a (q5r q5d (q7i (q1a (ix_k K rfl) (pv 1) q0f (fun _ _=>rfl))) q5s) q0c))) q0j)))),?_⟩;refine⟨_,rfl,.inr (.inl ⟨R,_,2,_,rfl,rfl,SqT.of ru.at_,q1g (j:=2) rfl,qs,rfl,ru.wp,fun L H1 hL s1 hp=>?_⟩)⟩;obtain⟨Ts,t1,t2⟩:=hp.ex;have l0:Ka.length=0:=by decide +kernel
  have l1:(Ab "a template has a ").length<=100:=by decide +kernel
  refine .inl ⟨L,rfl,⟨_,SqL.of t1⟩,?_⟩;refine q2i (xs:=Ts.map V.ref) (fun i σ' H'=>∃x,σ'=[some (.ref R),x]/\Same H1 H'/\∀j q,j<i->qs[j]?=some q->(isMo q||isCn q)=false) ⟨none,rfl,Same.refl _,fun j q z=>absurd z (Nj j)⟩ (fun i σ' H' _ x=>by obtain⟨_,_,s,_⟩:=x;exact SqL.of (s _ _ t1)) ?_ ?_
  ·rintro i x σ' H' hx ⟨y,rfl,s',hpre⟩;rw[Bk] at hx;obtain⟨T1,hT1,rfl⟩:=Br.mp hx;obtain⟨p,hp1,hp2⟩:=t2.get hT1;have inW:inV (.str (pcWd p)) [.str (Ab "more"),.str (Ab "count")]=(isMo p||isCn p):=by
    cases p<;>(simp only[pcWd,isMo,isCn,Bool.or_false,Je];decide +kernel)
   refine⟨_,rfl,.inr (.inl ⟨T1,_,0,_,rfl,rfl,SqT.of (s' _ _ hp2),pw0 p,?_⟩)⟩;refine⟨by show 2<=sizeLine;decide,fun U hU=>?_⟩;have sU:=s'.new (o:=.tup [.str (Ab "more"),.str (Ab "count")]) hU;refine .inr ⟨U,_,rfl,.inr (SqT.of q0e),rfl,by decide +kernel,_,rfl,?_⟩;show if inV (.str (pcWd p)) [.str (Ab "more"),.str (Ab "count")]=true then _ else _
   rw[inW];have wl:=wd_len p;refine ite2 (fun h=>?_) (fun h=>⟨_,rfl,sU,fun j q hj hq=>?_⟩)
   ·have k2:=(k.same s1).same sU;exact⟨TX.small (by rw[q0t];lia),_,rfl,.inr (.inl ⟨T1,_,0,_,rfl,rfl,SqT.of (sU _ _ hp2),pw0 p,.inl ⟨_,rfl,TX.small (by lia),TX.small (by rw[q0t,q0t];lia),TX.small (by rw[q0t,q0t];lia),by show 1<=100;decide,fun ea hea=>k2.go hea⟩⟩)⟩
   ·rcases Ql (Ra hj) with z|z
    ·exact hpre j q z hq
    ·subst z;rw[hp1] at hq;cases hq;exact Qz.mpr h
  ·rintro σ' H' ⟨y,rfl,s',hall⟩;obtain⟨q,hq,hb⟩:=bad;obtain⟨j,hj,e⟩:=Ii.mp hq;have hul:=t2.len;rw[hall j q (by rw[Ag];lia) (by rw[Aw hj,e])] at hb;cases hb
structure CallsBX (K:Af) (mg:Str->Option Value) (Cm Dn:Addr):Prop where
 f_TooMuch:ELaw0 K Cm Dn
 g_TooMuch:mg "TooMuch" = some (.ref Cm)
def spBoundX(Cm:Addr):Sp:=fun vs H _ E=>∃m n:Nat,vs=[.int (m:Int),.int (n:Int)]/\n<=4/\m<=100/\1000<(m+4)^n/\Rul Cm H E
theorem z0l{Cm Dn:Addr}(D:Df K mg "ask_bound" q3b ["many", "most"])(T:Txt mg)(C:CallsBX K mg Cm Dn):CalX P w K mg base "ask_bound" 1 ["many", "most"] (spBoundX Cm):=by
 refine D.calX sc_ask_bound (fun vs H Q E h=>?_) (fun f cdv A outer s H vs Q E hr h=>?_)
 ·obtain⟨m,n,rfl,_⟩:=h;rfl
 ·obtain⟨m,n,rfl,hn,hm,hb,k⟩:=h;obtain⟨_,g_MOST_NAMES_ASKED⟩:=T.MOST_NAMES_ASKED;refine⟨_,(q0b (q0i (i:=2) sc_ask_bound.nd rfl (by trivial) q0f) (q0b (q1h passDef rfl (q1q rfl T.b_range (q0a (pv 1) q0c)) (q0l (i:=3) sc_ask_bound.nd rfl (by trivial)) (q0d (q0i (i:=2) sc_ask_bound.nd rfl (by trivial) (q0u q5p (pv 2) (q0u q0k (pv 0) q0f))))) (q0d (q0w (q0h q5l (pv 2) (q0p (v:=.int 1000) (by rfl) g_MOST_NAMES_ASKED ⟨_,rfl⟩) (nomark _)) (q0d (q2p C.f_TooMuch accX rfl C.g_TooMuch (q0a (q5r (q7i (pv 0)) q5d (q6p (q7i (pv 1)) q5s)) q0c))) q0j)))),?_⟩;have l0:Ka.length=0:=by decide +kernel
  have l1:(Ab " signs are too many for names of ").length<=100:=by decide +kernel
  have ln:=q3z 12 n (by lia);have lm:=q3z 12 m (by lia);have e1:(Ab (toString (n:Int))).length<=13:=by rw[z1j,q0n];exact ln
  have e2:(Ab (toString (m:Int))).length<=13:=by rw[z1j,q0n];exact lm
  refine⟨_,rfl,(n:Int),rfl,by lia,by lia,q1x (n:=n) (fun i σ' H'=>(∃x,σ'=[some (.int (m:Int)),some (.int (n:Int)),some (.int (((m+4)^i:Nat):Int)),x])/\H'=H) ⟨⟨none,rfl⟩,rfl⟩ ?_ ?_⟩
  ·rintro i σ' H' hi ⟨⟨x,rfl⟩,rfl⟩;have hle:(m+4)^i<=116985856:=Aq (Pm (by lia) i) (Aq (Fl (n:=104) (by decide) (show i<=4 by lia)) (by decide));refine⟨_,rfl,_,rfl,.inl ⟨_,_,rfl,rfl,.inl ⟨_,_,rfl,rfl,.inl ⟨by lia,by lia⟩,?_⟩⟩⟩;have e:(((m+4)^i:Nat):Int)*((m:Int)+4)=(((m+4)^(i+1):Nat):Int):=by rw[Jd,Nk];rfl
   exact⟨⟨_,congrArg (fun z=>[some (V.int (m:Int)),some (V.int (n:Int)),some (V.int z),_]) e⟩,rfl⟩
  ·rintro σ' H' ⟨⟨x,rfl⟩,rfl⟩;have hb':((1000:Nat):Int)<(((m+4)^n:Nat):Int):=Int.ofNat_lt.mpr hb;refine⟨_,rfl,_,_,rfl,rfl,_,rfl,?_⟩;rw[decide_eq_true (by lia)];refine iteT ?_;exact⟨_,rfl,.inr ⟨m,rfl,by lia,TX.small (by rw[q0t];lia),TX.small (by rw[q0t,q0t];lia),_,rfl,.inr ⟨n,rfl,by lia,TX.small (by rw[q0t,q0t,q0t];lia),TX.small (by rw[q0t,q0t,q0t];lia),by show 1<=100;decide,fun ea hea=>k.go hea⟩⟩⟩
end
end K
set_option maxHeartbeats 4000000
namespace K
open PySem L2 TX SB HM
section
variable{P:Program}{w:World}{K:Af}{mg:Str->Option Value}{base:Heap}
theorem q8e{l:List Nat}{i:Nat}(h:WrongAt l i)(g:Good l):False:=by
 rcases h with⟨h,_⟩|⟨_,h,_⟩
 ·exact g.ne h
 ·refine h fun c hc=>⟨?_,g.sg c (As hc)⟩
  exact Aq (Jv ((Gj _ _).filter _)) g.gp
inductive Run:Sx->List Nat->Sx->Prop
 |nil {s:Sx}:Run s [] s
 |cons {s s1 s2:Sx} {c:Nat} {r:List Nat}:nx s c=some s1->Run s1 r s2->Run s (c::r) s2
theorem Run.app{s t u:Sx}{x y:List Nat}(h:Run s x t)(g:Run t y u):Run s (x++y) u:=by
 induction h with
 |nil=>exact g
 |cons a _ ih=>exact .cons a (ih g)
theorem Run.stp{s t:Sx}{x:List Nat}(h:Run s x t):∀(l:List Nat) (a:Nat),(∀j,j<x.length->l[a+j]?=x[j]?)->Stp l a s (a+x.length) t:=by
 induction h with
 |nil=>intro l a _;exact .refl
 | @cons s s1 s2 c r e _ ih =>
  intro l a hl;have h0:l[a]?=some c:=hl 0 (by simp);have h1:=ih l (a+1) fun j hj=>by
   have:=hl (j+1) (by simpa using hj);rw[show a+1+j=a+(j+1) by lia,this];rfl
  rw[Av,show a+(r.length+1)=a+1+r.length by lia];exact .step h0 e h1
theorem Run.all{t:Sx}{x r:List Nat}(h:Run .beg x t):Stp (x++r) 0 .beg x.length t:=by
 have:=h.stp (x++r) 0 fun j hj=>by rw[Nat.zero_add,Bj hj]
 rwa [Nat.zero_add] at this
theorem q7w{s:Sx}(hs:s=.beg\/s=.into\/s=.beh):nx s 123=some .opn:=by
 rcases hs with rfl|rfl|rfl<;>(simp only[nx];rw[if_neg no123];rfl)
theorem x2p:∀{l:List Nat} {s:Sx},l≠[]->(∀c∈l,c∈NS)->(s=.beg\/s=.into\/s=.beh)->Run s l .beh
 |[c],s,_,h,hs=>.cons (x1f hs (h c (by simp))) .nil
 |c::d::r,s,_,h,hs=>.cons (x1f hs (h c (by simp))) (x2p (l:=d::r) (by simp) (fun x hx=>h x (Am _ hx)) (.inr (.inr rfl)))
theorem d1_of:∀v,v<10->1<=v->48+v∈D1/\48+v≠110:=by decide +kernel
theorem d2_of:∀v,v<10->2<=v->48+v∈D2:=by decide +kernel
theorem z2g{v:Nat}(h:v<10)(h1:1<=v):nx .opn (48+v)=some .gap:=by
 obtain⟨a,b⟩:=d1_of v h h1;show(if _ then _ else _)=_;rw[if_neg b,if_pos a]
theorem dg_d9{m:Nat}:∀c∈dg m,c∈D9:=by
 intro c hc;exact(by decide +kernel:∀v∈FI,v∈D9) c (z4j m c hc)
theorem z5f:∀(l:List Nat) (k:Nat),(∀c∈l,c∈D9)->k+1+l.length<=9->Run (.sum (k+1)) l (.sum (k+1+l.length))
 |[],k,_,_=>.nil
 |c::r,k,h,hl=>by
  rw[Av] at hl;refine .cons (s1:=.sum (k+2)) ?_ ?_
  ·show(if _ then _ else _)=_;rw[if_pos ⟨h c (by simp),by lia⟩]
  ·have:=z5f r (k+1) (fun x hx=>h x (Am _ hx)) (by lia);rw[Av,show k+1+(r.length+1)=k+1+1+r.length by lia];exact this
theorem nx_end{k:Nat}:nx (.sum (k+1)) 125=some .beh:=by
 have h:(125:Nat)∉D9:=by decide +kernel
 simp[nx,h]
theorem x4p{m:Nat}(h:m<10^9):Run (.sum 0) (dg m++[125]) .beh:=by
 by_cases hm:m=0
 ·subst hm;rw[show dg 0=[48] by decide +kernel];exact .cons (s1:=.cls) rfl (.cons rfl .nil)
 ·have hl:=q3z 8 m h;have hd:=dg_d9 (m:=m);obtain⟨d,r,e,hd10,hd0⟩:=z2w m;rw[e] at hl hd ⊢;rw[Av] at hl;refine .cons (s1:=.sum 1) ?_ ((z5f r 0 (fun x hx=>hd x (Am _ hx)) (by lia)).app (.cons ?_ .nil))
  ·have h1:¬48+d=48:=fun z=>hm (hd0 (by lia)).1;have h2:=hd (48+d) (by simp);show(if 48+d=48 then _ else if 48+d∈D9 then _ else _)=_;rw[if_neg h1,if_pos h2]
  ·rw[show 0+1+r.length=r.length+1 by lia];exact nx_end
theorem run_pc{p:Pc}(h:p.ok)(hi:p≠.into){s:Sx}(hs:s=.beg\/s=.into\/s=.beh):Run s p.wr .beh:=by
 cases p with
 |tx l=>exact x2p h.1 h.2 hs
 |gap k=>exact .cons (q7w hs) (.cons (z2g (by have:=h.2;lia) h.1) (.cons rfl .nil))
 |great k=>exact .cons (q7w hs) (.cons (z2g (by have:=h.2;lia) h.1) (.cons (s1:=.cls) rfl (.cons rfl .nil)))
 |small k=>exact .cons (q7w hs) (.cons (z2g (by have:=h.2;lia) h.1) (.cons (s1:=.cls) rfl (.cons rfl .nil)))
 |nou k w =>
  refine .cons (q7w hs) (.cons (z2g (by have:=h.1.2;lia) h.1.1) (.cons (s1:=.nou) rfl (.cons (s1:=.cls) ?_ (.cons rfl .nil))));show(if _ then _ else _)=_;rw[if_pos (d1_of w (by have:=h.2.2;lia) h.2.1).1]
 |more k m=>exact .cons (q7w hs) (.cons (z2g (by have:=h.1.2;lia) h.1.1) (.cons (s1:=.sum 0) rfl (x4p h.2)))
 |cnt v =>
  refine .cons (q7w hs) (.cons (s1:=.cnt) rfl ?_);unfold cntW;by_cases hv:v=1
  ·rw[if_pos hv];exact .cons rfl .nil
  ·rw[if_neg hv];refine .cons (s1:=.cls) ?_ (.cons rfl .nil);show(if _ then _ else _)=_;rw[if_pos (d2_of v (by have:=h.2;lia) (by have:=h.1;lia))]
 |into=>exact absurd rfl hi
theorem z9l:∀(qs:List Pc) (s:Sx),(∀p∈qs,p.ok)->(∀i,qs[i]?=some .into->(i=0->s=.beh)/\(1<=i->qs[i-1]?≠some .into))->(s=.beg\/s=.into\/s=.beh) ->
  ∃t,Run s (flatP qs) t/\(qs=[]->t=s)/\(∀q,qs.getLast?=some q->q≠.into->t=.beh)
 |[],s,_,_,_=>⟨s,.nil,fun _=>rfl,fun q h=>by cases h⟩
 |p::r,s,hok,hii,hs=>by
  obtain⟨t1,r1,ht1,ht2⟩:∃t1,Run s p.wr t1/\(t1=.beg\/t1=.into\/t1=.beh)/\(p≠.into->t1=.beh):=by
   by_cases hp:p=.into
   ·subst hp;have:=(hii 0 rfl).1 rfl;subst this;exact⟨.into,.cons (s1:=.into) (by simp only[nx];rw[if_neg no47];rfl) .nil,.inr (.inl rfl),fun z=>absurd rfl z⟩
   ·exact⟨.beh,run_pc (hok p (by simp)) hp hs,.inr (.inr rfl),fun _=>rfl⟩
  obtain⟨t,r2,e1,e2⟩:=z9l r t1 (fun q hq=>hok q (Am _ hq)) (fun i hi=>⟨fun h0=>ht2 fun z=>by
    subst h0;exact(hii 1 hi).2 (by lia) (by rw[z];rfl),fun h1=>by
    have:=(hii (i+1) hi).2 (by lia)
    rwa [show i+1-1=(i-1)+1 by lia] at this⟩) ht1
  refine⟨t,(by rw[q0x];exact r1.app r2),(fun z=>by cases z),fun q hq hn=>?_⟩;cases r with
  |nil =>
   rw[e1 rfl];have:p=q:=by simpa using hq
   exact ht2 (by rw[this];exact hn)
  |cons a b=>exact e2 q (by simpa using hq) hn
theorem wp_run{qs:List Pc}(w:WP qs):Run .beg (flatP qs) .beh:=by
 obtain⟨t,r,_,h⟩:=z9l qs .beg w.ok (fun i hi=>⟨fun z=>by have:=(w.ii i hi).1;lia,fun _=>(w.ii i hi).2⟩) (.inl rfl);have hq:qs.getLast?=some (qs.getLast w.ne):=List.getLast?_eq_some_getLast w.ne;rw[h _ hq (w.la _ hq)] at r;exact r
theorem x1k{qs:List Pc}(w:WP qs){e:List Nat}{t:Sx}(r:Run .beh e t)(ht:t≠.beh):Refu (flatP qs++e) 0 .beg (flatP qs++e).length:=by
 have:=((wp_run w).app r).all (r:=[]);rw[Bi] at this;exact⟨t,this,.inl ⟨rfl,ht⟩⟩
theorem z9m{l0:List Nat}(g:Good l0){n a c:Nat}(ha:a<=(l0.take n).length)(hc:¬c∈GS/\¬c∈NS):WrongAt ((l0.take n).take a++[c]++(l0.take n).drop a) a:=by
 have hla:((l0.take n).take a).length=a:=by rw[Bt];lia
 refine .inr ⟨by simp,fun h=>?_,fun j hj d hd=>?_⟩
 ·have:=(h c (by rw[Cw,Bp (by lia),hla,Kt];rfl)).2;rcases this with z|z
  ·exact hc.1 z
  ·exact hc.2 z
 ·have e1:((l0.take n).take a++[c]++(l0.take n).drop a).take (j+1)=((l0.take n).take a).take (j+1):=by
   rw[Cw,Ei (by lia)]
  rw[Cw,Bj (by lia)] at hd;have hm:d∈l0:=Em (Em (As hd));rw[e1];refine⟨Aq (Jv (((Gj _ _).trans ((Gj _ _).trans (Gj _ _))).filter _)) g.gp,g.sg d hm⟩
inductive Rk where
 |pl (q:RD)|ns|pa (i:Nat)|te (i:Nat)|ru
def RwAt(H:Hp)(R:Addr)(kd:Str)(l tt:List Nat)(st:Int):Prop:=H R=some (.tup [.str kd,.str (mk l),.str (mk tt),.int st])/\l.length<=1000/\tt.length<=500
def RkAt(K:Af)(H:Hp)(R:Addr):Rk->Prop
 |.pl q=>CRule K H R q
 |.ns=>∃kd l qs st,RuleAt K H R kd l qs st/\∃q∈qs,(isMo q||isCn q)=true
 |.pa i=>∃kd l tt st,RwAt H R kd l tt st/\WrongAt l i
 |.te i=>∃kd l tt st,RwAt H R kd l tt st/\Good l/\i<=tt.length/\Refu tt 0 .beg i
 |.ru=>∃kd l tt st,RwAt H R kd l tt st/\Good l/\∃qs,tt=flatP qs/\WP qs/\NoGo kd l qs st
theorem RkAt.tk{H H':Hp}{R:Addr}{r:Rk}(h:RkAt K H R r)(k:∀xs,H R=some (.tup xs)->H' R=some (.tup xs)):RkAt K H' R r:=by
 cases r with
 |pl q=>exact CRule.tk h k
 |ns =>
  obtain⟨kd,l,qs,st,ru,b⟩:=h;exact⟨kd,l,qs,st,⟨k _ ru.at_,ru.kok,ru.good,ru.wp,ru.st0,ru.st1,ru.ask⟩,b⟩
 |pa i=>obtain⟨kd,l,tt,st,z,b⟩:=h;exact⟨kd,l,tt,st,⟨k _ z.1,z.2⟩,b⟩
 |te i=>obtain⟨kd,l,tt,st,z,b⟩:=h;exact⟨kd,l,tt,st,⟨k _ z.1,z.2⟩,b⟩
 |ru=>obtain⟨kd,l,tt,st,z,b⟩:=h;exact⟨kd,l,tt,st,⟨k _ z.1,z.2⟩,b⟩
theorem RkAt.same{H H':Hp}{R:Addr}{r:Rk}(h:RkAt K H R r)(s:Same H H'):RkAt K H' R r:=h.tk fun _ e=>s _ _ e
theorem z0m{H:Hp}{R:Addr}{kd:Str}{l:List Nat}{qs:List Pc}{st:Int}(h:RuleAt K H R kd l qs st):RwAt H R kd l (flatP qs) st:=⟨h.at_,h.good.len,Aq h.wp.sz (by decide)⟩
theorem RkAt.rw_{H:Hp}{R:Addr}{r:Rk}(h:RkAt K H R r):∃kd l tt st,RwAt H R kd l tt st:=by
 cases r with
 |pl q=>exact⟨_,_,_,_,z0m (show CRule K H R q from h).at_⟩
 |ns=>obtain⟨kd,l,qs,st,ru,_⟩:=h;exact⟨_,_,_,_,z0m ru⟩
 |pa i=>obtain⟨kd,l,tt,st,z,b⟩:=h;exact⟨kd,l,tt,st,z⟩
 |te i=>obtain⟨kd,l,tt,st,z,b⟩:=h;exact⟨kd,l,tt,st,z⟩
 |ru=>obtain⟨kd,l,tt,st,z,b⟩:=h;exact⟨kd,l,tt,st,z⟩
inductive Dv where
 |ok|pat (i:Nat)|tem (i:Nat)|rul|nos|big
def own:Rk->Option Dv
 |.pa i=>some (.pat i)
 |.te i=>some (.tem i)
 |.ru=>some .rul
 |_=>none
def twoR(mo:Nat):Rk->Rk->Dv
 |.pl a,.pl b=>if 1000<((nmO a b).length+4)^mo then .big else .ok
 |_,_=>.nos
def dueR(mo:Nat)(r q:Rk):Dv:=(own r).getD ((own q).getD (twoR mo r q))
def Rsd(Cp Ct Cr Cs Cm:Addr)(H:Hp)(E:XK):Dv->Prop
 |.ok=>False
 |.pat i=>RE H E Cp i
 |.tem i=>RE H E Ct i
 |.rul=>Rul Cr H E
 |.nos=>Rul Cs H E
 |.big=>Rul Cm H E
theorem Rsd.up{Cp Ct Cr Cs Cm:Addr}{H:Hp}{E:XK}{d:Dv}(h:Rsd Cp Ct Cr Cs Cm H E d):Rsd Cp Ct Cr Cs Cm H (fun e _ H'=>∀ea,e=.ref ea->E (.ref ea) none H') d:=by
 cases d with
 |ok=>exact h.elim
 |pat i=>exact RE.up h
 |tem i=>exact RE.up h
 |rul=>exact Rul.up h
 |nos=>exact Rul.up h
 |big=>exact Rul.up h
theorem Rsd.same{Cp Ct Cr Cs Cm:Addr}{H H':Hp}{E:XK}{d:Dv}(h:Rsd Cp Ct Cr Cs Cm H E d)(s:Same H H'):Rsd Cp Ct Cr Cs Cm H' E d:=by
 cases d with
 |ok=>exact h.elim
 |pat i=>exact RE.same h s
 |tem i=>exact RE.same h s
 |rul=>exact Rul.same h s
 |nos=>exact Rul.same h s
 |big=>exact Rul.same h s
theorem x2q{Cp Ct Cr Cs Cm:Addr}{H:Hp}{E:XK}{R:Addr}{r:Rk}{d:Dv}(h:RkAt K H R r)(o:own r=some d)(z:Rsd Cp Ct Cr Cs Cm H E d):∃kd l tt st,RwAt H R kd l tt st/\BadR Cp Ct Cr kd l tt st H E:=by
 cases r with
 |pl q=>cases o
 |ns=>cases o
 |pa i=>cases o;obtain⟨kd,l,tt,st,y,b⟩:=h;exact⟨kd,l,tt,st,y,.inl ⟨i,b,z⟩⟩
 |te i=>cases o;obtain⟨kd,l,tt,st,y,b1,b2,b3⟩:=h;exact⟨kd,l,tt,st,y,.inr (.inl ⟨b1,i,b2,b3,z⟩)⟩
 |ru=>cases o;obtain⟨kd,l,tt,st,y,b1,qs,b2,b3,b4⟩:=h;exact⟨kd,l,tt,st,y,.inr (.inr ⟨b1,qs,b2,b3,b4,z⟩)⟩
theorem z9n{H:Hp}{R:Addr}{r:Rk}(h:RkAt K H R r)(o:own r=none):∃kd l qs st,RuleAt K H R kd l qs st:=by
 cases r with
 |pl q=>exact⟨_,_,_,_,(show CRule K H R q from h).at_⟩
 |ns=>obtain⟨kd,l,qs,st,ru,_⟩:=h;exact⟨_,_,_,_,ru⟩
 |_=>cases o
structure CallsCX (P:Program) (w:World) (K:Af) (mg:Str->Option Value) (base:Heap) (Cp Ct Cr Cs Cm:Addr):Prop where
 ask_rule:Cal P w K mg base "ask_rule" 7 ["rule"] (spAskRule K)
 ask_ruleX:CalX P w K mg base "ask_rule" 9 ["rule"] (spAskRuleX Cp Ct Cr)
 ask_pieces:Cal P w K mg base "ask_pieces" 7 ["rule"] (spAP K)
 ask_piecesX:CalX P w K mg base "ask_pieces" 7 ["rule"] (spAPX K Cs)
 signs_of:Cal P w K mg base "signs_of" 8 ["one", "other"] (spSignsOf K)
 ask_bound:Cal P w K mg base "ask_bound" 1 ["many", "most"] spBound
 ask_boundX:CalX P w K mg base "ask_bound" 1 ["many", "most"] (spBoundX Cm)
 longer_names:Cal P w K mg base "longer_names" 2 ["names", "named"] spLonger
 tells:Cal P w K mg base "tells" 8 ["rule", "name", "count"] (spTl K)
def spCX(K:Af)(Cp Ct Cr Cs Cm:Addr):Sp:=fun vs H _ E=>∃R S r q,∃mo:Nat,vs=[.ref R,.ref S,.int (mo:Int)]/\RkAt K H R r/\RkAt K H S q/\mo<=4/\Rsd Cp Ct Cr Cs Cm H E (dueR mo r q)
set_option maxHeartbeats 40000000 in
theorem z2h{Cp Ct Cr Cs Cm:Addr}(D:Df K mg "compared" q3r ["one", "other", "most"])(T:Txt mg)(C:CallsCX P w K mg base Cp Ct Cr Cs Cm):CalX P w K mg base "compared" 10 ["one", "other", "most"] (spCX K Cp Ct Cr Cs Cm):=by
 refine D.calX sc_compared (fun vs H Q E h=>?_) (fun f cdv A outer s H vs Q E hr h=>?_)
 ·obtain⟨R,S,r,q,mo,rfl,_⟩:=h;rfl
 ·obtain⟨R,S,r,q,mo,rfl,hr1,hr2,hmo,rs⟩:=h;refine⟨_,(q0b (q0v (q3j (pe_c C.ask_rule hr (q0a (pv 0) q0c)) (q2b C.ask_ruleX hr accX (q0a (pv 0) q0c)))) (q0b (q0v (q3j (pe_c C.ask_rule hr (q0a (pv 1) q0c)) (q2b C.ask_ruleX hr accX (q0a (pv 1) q0c)))) (q0b (q0v (q3j (pe_c C.ask_pieces hr (q0a (pv 0) q0c)) (q2b C.ask_piecesX hr accX (q0a (pv 0) q0c)))) (q0b (q0v (q3j (pe_c C.ask_pieces hr (q0a (pv 1) q0c)) (q2b C.ask_piecesX hr accX (q0a (pv 1) q0c)))) (q0b (q0i (i:=3) sc_compared.nd rfl (by trivial) (pe_c C.signs_of hr (q0a (pv 0) (q0a (pv 1) q0c)))) (q0b (q0v (q3j (pe_c C.ask_bound hr (q0a (q0s (q2e K rfl) (by rfl) T.b_len Bm (q0a (pv 3) q0c)) (q0a (pv 2) q0c))) (q2b C.ask_boundX hr accX (q0a (q0s (q2e K rfl) (by rfl) T.b_len Bm (q0a (pv 3) q0c)) (q0a (pv 2) q0c))))) (q0b (q0i (i:=4) sc_compared.nd rfl (by trivial) (q1r (q0a q0g q0c))) (q0b (q1h passDef rfl (q1q rfl T.b_range (q0a (pv 2) q0c)) (q0l (i:=5) sc_compared.nd rfl (by trivial)) (q0b (q0i (i:=4) sc_compared.nd rfl (by trivial) (pe_c C.longer_names hr (q0a (pv 4) (q0a (pv 3) q0c)))) (q0d (q1h passDef rfl (@q2t _ _ _ _ K rfl (pv 4)) (q0l (i:=6) sc_compared.nd rfl (by trivial)) (q0d (q0w (q0h (ne_k K rfl hr) (pe_c C.tells hr (q0a (pv 0) (q0a (pv 6) (q0a q0f q0c)))) (pe_c C.tells hr (q0a (pv 1) (q0a (pv 6) (q0a q0f q0c)))) (nomark _)) (q0d (q0o (q0q (q0a q0g (q0a (pv 6) q0c))))) q0j)))))) (q0d (q0o (q0q (q0a q0g q0c)))))))))))),?_⟩;cases o1:own r with
  |some d =>
   have:dueR mo r q=d:=by unfold dueR;rw[o1];rfl
   rw[this] at rs;obtain⟨kd,l,tt,st,y,b⟩:=x2q hr1 o1 rs;exact .inr ⟨_,rfl,R,kd,l,tt,st,rfl,y.1,y.2.1,y.2.2,b.up⟩
  |none =>
  obtain⟨kd1,l1,qs1,st1,ru1⟩:=z9n hr1 o1;refine .inl ⟨_,rfl,R,_,_,_,_,rfl,ru1,fun H1 s1=>?_⟩;have hr2':=hr2.same s1;cases o2:own q with
  |some d =>
   have:dueR mo r q=d:=by unfold dueR;rw[o1,o2];rfl
   rw[this] at rs;obtain⟨kd,l,tt,st,y,b⟩:=x2q hr2' o2 (rs.same s1);exact .inr ⟨_,rfl,S,kd,l,tt,st,rfl,y.1,y.2.1,y.2.2,b.up⟩
  |none =>
  obtain⟨kd2,l2,qs2,st2,ru2⟩:=z9n hr2' o2;refine .inl ⟨_,rfl,S,_,_,_,_,rfl,ru2,fun H2 s2=>?_⟩;have s12:=s1.trans s2;have e:dueR mo r q=twoR mo r q:=by unfold dueR;rw[o1,o2];rfl
  rw[e] at rs;have h1:=hr1.same s12;have h2:=hr2.same s12;have rs2:=rs.same s12;cases r with
  |pa i=>cases o1
  |te i=>cases o1
  |ru=>cases o1
  |ns =>
   obtain⟨kd,l,qs,st,ru,b⟩:=h1;exact .inr ⟨_,rfl,R,kd,l,qs,st,rfl,ru,b,Rul.up rs2⟩
  |pl a =>
  refine .inl ⟨_,rfl,R,a,rfl,h1,fun H3 s3=>?_⟩;have h3:=h2.same s3;cases q with
  |pa i=>cases o2
  |te i=>cases o2
  |ru=>cases o2
  |ns =>
   obtain⟨kd,l,qs,st,ru,b⟩:=h3;exact .inr ⟨_,rfl,S,kd,l,qs,st,rfl,ru,b,Rul.up (Rul.same rs2 s3)⟩
  |pl b =>
  refine .inl ⟨_,rfl,S,b,rfl,h3,fun H4 s4=>?_⟩;have s34:=s3.trans s4;refine⟨_,rfl,_,rfl,R,S,a,b,rfl,CRule.same h1 s34,CRule.same h3 s4,fun L H5 hL s5 h5=>?_⟩;have h5:H5 L=some (.lst (vC (nmO a b))):=h5;have hnf:(nmO a b).length<=65:=z8v;have rs5:=rs2.same (s34.trans s5);by_cases hb:1000<((nmO a b).length+4)^mo
  ·have e:twoR mo (.pl a) (.pl b)=.big:=if_pos hb;rw[e] at rs5;exact .inr ⟨_,rfl,_,_,rfl,.inl ⟨_,SqL.of h5,rfl⟩,_,rfl,(nmO a b).length,mo,by rw[Ag],hmo,by lia,hb,Rul.up rs5⟩
  ·have e:twoR mo (.pl a) (.pl b)=.ok:=if_neg hb;rw[e] at rs5;exact rs5.elim
end
end K
set_option maxHeartbeats 4000000
namespace K
open PySem L2 TX SB HM
section
variable{P:Program}{w:World}{K:Af}{mg:Str->Option Value}{base:Heap}
def Dv.vs:Dv->List V
 |.ok=>[.str (Ab "told"),.bl true]
 |.pat i=>[.str (Ab "pattern"),.int (i:Int)]
 |.tem i=>[.str (Ab "template"),.int (i:Int)]
 |.rul=>[.str (Ab "rule"),.int 0]
 |.nos=>[.str (Ab "no same"),.int 0]
 |.big=>[.str (Ab "too much"),.int 0]
theorem q4c{c:Addr}{bm:List Value}:subE c bm c=true:=by unfold subE;rw[Ge];simp
theorem q3e{c d e:Addr}(hc:Dj K (.ref c) [.ref e]=some false)(hd:Fb K (.ref c) (.ref d)=some true):subE c (.ref d::bmV) e=false:=by
 have n1:c≠e:=fun z=>by subst z;simp[Dj,Fb] at hc
 have n2:d≠e:=fun z=>by subst z;simp[Dj,hd] at hc
 unfold subE;simp[bmV,Dm n1,Dm n2]
structure CallsTo (P:Program) (w:World) (K:Af) (mg:Str->Option Value) (base:Heap) (Cp Ct Cr Cs Cm Dn:Addr) (bm:List Value):Prop where
 compared:Cal P w K mg base "compared" 9 ["one", "other", "most"] (spCpd K)
 comparedX:CalX P w K mg base "compared" 10 ["one", "other", "most"] (spCX K Cp Ct Cr Cs Cm)
 g_HallError:mg "HallError" = some (.ref Dn)
 g_NoPattern:mg "NoPattern" = some (.ref Cp)
 g_NoTemplate:mg "NoTemplate" = some (.ref Ct)
 g_NoRule:mg "NoRule" = some (.ref Cr)
 g_NoSame:mg "NoSame" = some (.ref Cs)
 g_TooMuch:mg "TooMuch" = some (.ref Cm)
 e_NoPattern:ECls K Cp bm
 e_NoTemplate:ECls K Ct bm
 e_NoRule:ECls K Cr bm
 e_NoSame:ECls K Cs bm
 e_TooMuch:ECls K Cm bm
 sTP:subE Ct bm Cp=false
 sRP:subE Cr bm Cp=false
 sRT:subE Cr bm Ct=false
 sSP:subE Cs bm Cp=false
 sST:subE Cs bm Ct=false
 sSR:subE Cs bm Cr=false
 sMP:subE Cm bm Cp=false
 sMT:subE Cm bm Ct=false
 sMR:subE Cm bm Cr=false
 sMS:subE Cm bm Cs=false
 isiP:EIsi K Cp
 isiT:EIsi K Ct
 isiR:EIsi K Cr
 isiS:EIsi K Cs
 isiM:EIsi K Cm
 getP:EGet K Cp "at"
 getT:EGet K Ct "at"
 oneP:Fb K (.ref Cp) (.ref Dn)=some true
 oneT:Fb K (.ref Ct) (.ref Dn)=some true
 oneR:Fb K (.ref Cr) (.ref Dn)=some true
 valS:Fb K (.ref Cs) (.type "ValueError")=some true
 valM:Fb K (.ref Cm) (.type "ValueError")=some true
 anyP:Dj K (.ref Cp) ([Ct,Cr,Cs,Cm].map Value.ref)=some false
 anyT:Dj K (.ref Ct) ([Cp,Cr,Cs,Cm].map Value.ref)=some false
 anyR:Dj K (.ref Cr) ([Cp,Ct,Cs,Cm].map Value.ref)=some false
 anyS:Dj K (.ref Cs) ([Cp,Ct,Cr,Cm].map Value.ref)=some false
 anyM:Dj K (.ref Cm) ([Cp,Ct,Cr,Cs].map Value.ref)=some false
def spTo(K:Af):Sp:=fun vs H Q _=>∃R S r q,∃mo:Nat,vs=[.ref R,.ref S,.int (mo:Int)]/\RkAt K H R r/\RkAt K H S q/\mo<=4/\∀T H',Same H H'->H' T=some (.tup (dueR mo r q).vs)->Q (.ref T) H'
def Cau(Cp Ct Cr Cs Cm:Addr)(H':Hp)(ea:Addr):Dv->Prop
 |.ok=>False
 |.pat i=>Rfd H' ea Cp "at" (.int (i:Int))
 |.tem i=>Rfd H' ea Ct "at" (.int (i:Int))
 |.rul=>H' ea=some (ExO (.ref Cr) none ea)
 |.nos=>H' ea=some (ExO (.ref Cs) none ea)
 |.big=>H' ea=some (ExO (.ref Cm) none ea)
theorem x4q{Cp Ct Cr Cs Cm:Addr}{H:Hp}{E:XK}{d:Dv}(hd:d≠.ok)(k:∀ea H',Same H H'->Cau Cp Ct Cr Cs Cm H' ea d->E (.ref ea) none H'):Rsd Cp Ct Cr Cs Cm H E d:=by
 cases d with
 |ok=>exact absurd rfl hd
 |pat i=>exact fun ea H' s' _ r=>k ea H' s' r
 |tem i=>exact fun ea H' s' _ r=>k ea H' s' r
 |rul=>exact fun ea H' s' _ r=>k ea H' s' r
 |nos=>exact fun ea H' s' _ r=>k ea H' s' r
 |big=>exact fun ea H' s' _ r=>k ea H' s' r
abbrev q5z:Stmt:=top 73
theorem sc_told_of:FnScope ["_law_one", "_law_other", "_law_most_here", "_law_told", "_law_lone", "e"] ["_law_one", "_law_other", "_law_most_here"] (defScope q5z):=by trivial
set_option maxHeartbeats 40000000 in
theorem z6k{Cp Ct Cr Cs Cm Dn:Addr}{bm:List Value}(D:Df K mg "_law_told_of" q5z ["_law_one", "_law_other", "_law_most_here"])(T:Txt mg)(C:CallsTo P w K mg base Cp Ct Cr Cs Cm Dn bm):Cal P w K mg base "_law_told_of" 11 ["_law_one", "_law_other", "_law_most_here"] (spTo K):=by
 refine D.cal sc_told_of (fun vs H Q E h=>?_) (fun f cdv A outer s H vs Q E hr h=>?_)
 ·obtain⟨R,S,r,q,mo,rfl,_⟩:=h;rfl
 ·obtain⟨R,S,r,q,mo,rfl,hr1,hr2,hmo,k⟩:=h;have g_HallError:=C.g_HallError;have g_NoPattern:=C.g_NoPattern;have g_NoTemplate:=C.g_NoTemplate;have g_NoRule:=C.g_NoRule;have g_NoSame:=C.g_NoSame;have g_TooMuch:=C.g_TooMuch;have e_NoPattern:=C.e_NoPattern;have e_NoTemplate:=C.e_NoTemplate;have e_NoRule:=C.e_NoRule;have e_NoSame:=C.e_NoSame;have e_TooMuch:=C.e_TooMuch;revert g_HallError g_NoPattern g_NoTemplate g_NoRule g_NoSame g_TooMuch e_NoPattern e_NoTemplate e_NoRule e_NoSame e_TooMuch;generalize hDn:Dn=c_HallError;generalize hCm:Cm=c_TooMuch;generalize hCs:Cs=c_NoSame;generalize hCp:Cp=c_NoPattern;generalize hCt:Ct=c_NoTemplate;generalize hCr:Cr=c_NoRule;intro g_HallError g_NoPattern g_NoTemplate g_NoRule g_NoSame g_TooMuch e_NoPattern e_NoTemplate e_NoRule e_NoSame e_TooMuch;refine⟨_,(q0b (q0i (i:=3) sc_told_of.nd rfl (by trivial) (q0q (q0a q0g q0c))) (q0b (q0i (i:=4) sc_told_of.nd rfl (by trivial) q5k) (q0b (x3p rfl rfl (fun _ _=>(q0b (q0i (i:=3) sc_told_of.nd rfl (by trivial) (q0q (q0a q0g (q0a (q4k (in_k K rfl) (q1a (ix_k K rfl) (q3j (pe_c C.compared hr (q0a (pv 0) (q0a (pv 1) (q0a (pv 2) q0c)))) (q2b C.comparedX hr AccX.of (q0a (pv 0) (q0a (pv 1) (q0a (pv 2) q0c))))) q0f (fun _ _=>rfl)) (q0q (q0a q0g (q0a q0g q0c))) (by with_unfolding_all rfl)) q0c)))) (q0d (q0i (i:=4) sc_told_of.nd rfl (by trivial) q5k))))
    (z8e (i:=5) K rfl sc_told_of.nd rfl rfl rfl g_NoPattern e_NoPattern (fun _=>(q0b (q0i (i:=3) sc_told_of.nd rfl (by trivial) (q0q (q0a q0g (q0a (x1y K rfl (pv 5)) q0c)))) (q0d (q0i (i:=4) sc_told_of.nd rfl (by trivial) (pe_j (q6u (q0s (q4j K rfl) (by rfl) T.b_isinstance (by decide +kernel) (q0a (pv 5) (q0a (q0p (v:=.ref c_HallError) (by rfl) g_HallError rfl) q0c))) (q6a (z0o (q0s (q4j K rfl) (by rfl) T.b_isinstance (by decide +kernel) (q0a (pv 5) (q0a (q0q (q0a (q0p (v:=.ref c_NoTemplate) (by rfl) g_NoTemplate rfl) (q0a (q0p (v:=.ref c_NoRule) (by rfl) g_NoRule rfl) (q0a (q0p (v:=.ref c_NoSame) (by rfl) g_NoSame rfl) (q0a (q0p (v:=.ref c_TooMuch) (by rfl) g_TooMuch rfl) q0c))))) q0c))))))))))) (z8e (i:=5) K rfl sc_told_of.nd rfl rfl rfl g_NoTemplate e_NoTemplate (fun _=>(q0b (q0i (i:=3) sc_told_of.nd rfl (by trivial) (q0q (q0a q0g (q0a (x1y K rfl (pv 5)) q0c)))) (q0d (q0i (i:=4) sc_told_of.nd rfl (by trivial) (pe_j (q6u (q0s (q4j K rfl) (by rfl) T.b_isinstance (by decide +kernel) (q0a (pv 5) (q0a (q0p (v:=.ref c_HallError) (by rfl) g_HallError rfl) q0c))) (q6a (z0o (q0s (q4j K rfl) (by rfl) T.b_isinstance (by decide +kernel) (q0a (pv 5) (q0a (q0q (q0a (q0p (v:=.ref c_NoPattern) (by rfl) g_NoPattern rfl) (q0a (q0p (v:=.ref c_NoRule) (by rfl) g_NoRule rfl) (q0a (q0p (v:=.ref c_NoSame) (by rfl) g_NoSame rfl) (q0a (q0p (v:=.ref c_TooMuch) (by rfl) g_TooMuch rfl) q0c))))) q0c))))))))))) (z8e (i:=5) K rfl sc_told_of.nd rfl rfl rfl g_NoRule e_NoRule (fun _=>(q0b (q0i (i:=3) sc_told_of.nd rfl (by trivial) (q0q (q0a q0g (q0a q0f q0c)))) (q0d (q0i (i:=4) sc_told_of.nd rfl (by trivial) (pe_j (q6u (q0s (q4j K rfl) (by rfl) T.b_isinstance (by decide +kernel) (q0a (pv 5) (q0a (q0p (v:=.ref c_HallError) (by rfl) g_HallError rfl) q0c))) (q6a (z0o (q0s (q4j K rfl) (by rfl) T.b_isinstance (by decide +kernel) (q0a (pv 5) (q0a (q0q (q0a (q0p (v:=.ref c_NoPattern) (by rfl) g_NoPattern rfl) (q0a (q0p (v:=.ref c_NoTemplate) (by rfl) g_NoTemplate rfl) (q0a (q0p (v:=.ref c_NoSame) (by rfl) g_NoSame rfl) (q0a (q0p (v:=.ref c_TooMuch) (by rfl) g_TooMuch rfl) q0c))))) q0c))))))))))) (z8e (i:=5) K rfl sc_told_of.nd rfl rfl rfl g_NoSame e_NoSame (fun _=>(q0b (q0i (i:=3) sc_told_of.nd rfl (by trivial) (q0q (q0a q0g (q0a q0f q0c)))) (q0d (q0i (i:=4) sc_told_of.nd rfl (by trivial) (pe_j (q6u (q0s (q4j K rfl) (by rfl) T.b_isinstance (by decide +kernel) (q0a (pv 5) (q0a (z6n (by rfl) T.b_ValueError (by decide +kernel) (show RelV (.ty "ValueError") _ from rfl)) q0c))) (q6a (z0o (q0s (q4j K rfl) (by rfl) T.b_isinstance (by decide +kernel) (q0a (pv 5) (q0a (q0q (q0a (q0p (v:=.ref c_NoPattern) (by rfl) g_NoPattern rfl) (q0a (q0p (v:=.ref c_NoTemplate) (by rfl) g_NoTemplate rfl) (q0a (q0p (v:=.ref c_NoRule) (by rfl) g_NoRule rfl) (q0a (q0p (v:=.ref c_TooMuch) (by rfl) g_TooMuch rfl) q0c))))) q0c))))))))))) (z8e (i:=5) K rfl sc_told_of.nd rfl rfl rfl g_TooMuch e_TooMuch (fun _=>(q0b (q0i (i:=3) sc_told_of.nd rfl (by trivial) (q0q (q0a q0g (q0a q0f q0c)))) (q0d (q0i (i:=4) sc_told_of.nd rfl (by trivial) (pe_j (q6u (q0s (q4j K rfl) (by rfl) T.b_isinstance (by decide +kernel) (q0a (pv 5) (q0a (z6n (by rfl) T.b_ValueError (by decide +kernel) (show RelV (.ty "ValueError") _ from rfl)) q0c))) (q6a (z0o (q0s (q4j K rfl) (by rfl) T.b_isinstance (by decide +kernel) (q0a (pv 5) (q0a (q0q (q0a (q0p (v:=.ref c_NoPattern) (by rfl) g_NoPattern rfl) (q0a (q0p (v:=.ref c_NoTemplate) (by rfl) g_NoTemplate rfl) (q0a (q0p (v:=.ref c_NoRule) (by rfl) g_NoRule rfl) (q0a (q0p (v:=.ref c_NoSame) (by rfl) g_NoSame rfl) q0c))))) q0c))))))))))) ph_nil)))))) (q0d (q0o (pe_j (q8x (@x3g _ _ _ K rfl (pv 4) (fun _=>rfl)) (pv 3) (q0q (q0a q0g q0c))))))))),?_⟩
  subst hDn hCm hCs hCp hCt hCr;refine⟨by show 1<=sizeLine;decide,fun T0 hT0=>?_⟩;have s0:=(Same.refl H).new (o:=.tup [.str (Ab "other")]) hT0;generalize upd H T0 (.tup [.str (Ab "other")])=H0 at s0;have hr1':=hr1.same s0;have hr2':=hr2.same s0;generalize hd:dueR mo r q=d at k;refine⟨fun ea σ' H'=>σ'=[some (.ref R),some (.ref S),some (.int (mo:Int)),some (.ref T0),some (.bl false),none]/\Same H0 H'/\Cau Cp Ct Cr Cs Cm H' ea d,?_,?_⟩
  ·rintro ea σ' H' ⟨rfl,sm,ca⟩;have fin:∀{T1:Addr} {H2:Hp},Same H' H2->H2 T1=some (.tup d.vs)->Q (.ref T1) H2:=fun s2 e=>k _ _ (s0.trans (sm.trans s2)) e;cases d with
   |ok=>exact ca.elim
   |pat i =>
    have rf:Rfd H' ea Cp "at" (.int (i:Int)):=ca;obtain⟨de,q1,q2⟩:=rf.ex;refine⟨Cp,_,some de,q1,C.e_NoPattern,?_⟩;rw[q4c];refine iteT ⟨_,rfl,ea,Cp,de,_,_,rfl,.inl q1,q2,C.getP,rfl,by show 2<=sizeLine;decide,fun T1 hT1=>?_⟩;have s1:=(Same.refl H').new (o:=.tup [.str (Ab "pattern"),.int (i:Int)]) hT1;have t1:upd H' T1 (.tup [.str (Ab "pattern"),.int (i:Int)]) T1=some (.tup (Dv.pat i).vs):=q0e;generalize upd H' T1 (.tup [.str (Ab "pattern"),.int (i:Int)])=H1 at s1 t1;refine⟨fun v H2=>v=.bl true/\Same H1 H2,?_,⟨_,rfl,ea,Cp,true,⟨_,rfl,.inl ⟨Dn,rfl,C.oneP⟩⟩,rf.err.same s1,C.isiP,true,rfl,iteT ⟨_,rfl,by show 4<=sizeLine;decide,fun U1 hU1=>?_⟩⟩⟩;rotate_left
    ·have s2:=(Same.refl H1).new (o:=.tup [.ref Ct,.ref Cr,.ref Cs,.ref Cm]) hU1;exact⟨ea,Cp,false,⟨_,rfl,.inr (.inr ⟨U1,[Ct,Cr,Cs,Cm],rfl,SqT.of q0e,C.anyP⟩)⟩,rf.err.same (s1.trans s2),C.isiP,false,rfl,rfl,s2⟩
    rintro v H2 ⟨rfl,s2⟩;exact⟨fun v H3=>v=.ref T1/\H3=H2,(fun v H3 ⟨e1,e2⟩=>by rw[e1,e2];exact fin (s1.trans s2) (s2 _ _ t1)),⟨_,rfl,true,rfl,iteT ⟨_,rfl,rfl,rfl⟩⟩⟩
   |tem i =>
    have rf:Rfd H' ea Ct "at" (.int (i:Int)):=ca;obtain⟨de,q1,q2⟩:=rf.ex;refine⟨Ct,_,some de,q1,C.e_NoTemplate,?_⟩;rw[C.sTP];refine iteF ⟨Ct,_,some de,q1,C.e_NoTemplate,?_⟩;rw[q4c];refine iteT ⟨_,rfl,ea,Ct,de,_,_,rfl,.inl q1,q2,C.getT,rfl,by show 2<=sizeLine;decide,fun T1 hT1=>?_⟩;have s1:=(Same.refl H').new (o:=.tup [.str (Ab "template"),.int (i:Int)]) hT1;have t1:upd H' T1 (.tup [.str (Ab "template"),.int (i:Int)]) T1=some (.tup (Dv.tem i).vs):=q0e;generalize upd H' T1 (.tup [.str (Ab "template"),.int (i:Int)])=H1 at s1 t1;refine⟨fun v H2=>v=.bl true/\Same H1 H2,?_,⟨_,rfl,ea,Ct,true,⟨_,rfl,.inl ⟨Dn,rfl,C.oneT⟩⟩,rf.err.same s1,C.isiT,true,rfl,iteT ⟨_,rfl,by show 4<=sizeLine;decide,fun U1 hU1=>?_⟩⟩⟩;rotate_left
    ·have s2:=(Same.refl H1).new (o:=.tup [.ref Cp,.ref Cr,.ref Cs,.ref Cm]) hU1;exact⟨ea,Ct,false,⟨_,rfl,.inr (.inr ⟨U1,[Cp,Cr,Cs,Cm],rfl,SqT.of q0e,C.anyT⟩)⟩,rf.err.same (s1.trans s2),C.isiT,false,rfl,rfl,s2⟩
    rintro v H2 ⟨rfl,s2⟩;exact⟨fun v H3=>v=.ref T1/\H3=H2,(fun v H3 ⟨e1,e2⟩=>by rw[e1,e2];exact fin (s1.trans s2) (s2 _ _ t1)),⟨_,rfl,true,rfl,iteT ⟨_,rfl,rfl,rfl⟩⟩⟩
   |rul =>
    have rf:H' ea=some (ExO (.ref Cr) none ea):=ca;have er:∀{H2:Hp},Same H' H2->Err H2 ea Cr:=fun{H2} s=>⟨none,.inl (s _ _ rf),.inl rfl⟩
    refine⟨Cr,_,none,rf,C.e_NoRule,?_⟩;rw[C.sRP];refine iteF ⟨Cr,_,none,rf,C.e_NoRule,?_⟩;rw[C.sRT];refine iteF ⟨Cr,_,none,rf,C.e_NoRule,?_⟩;rw[q4c];refine iteT ⟨by show 2<=sizeLine;decide,fun T1 hT1=>?_⟩;have s1:=(Same.refl H').new (o:=.tup [.str (Ab "rule"),.int 0]) hT1;have t1:upd H' T1 (.tup [.str (Ab "rule"),.int 0]) T1=some (.tup Dv.rul.vs):=q0e;generalize upd H' T1 (.tup [.str (Ab "rule"),.int 0])=H1 at s1 t1;refine⟨fun v H2=>v=.bl true/\Same H1 H2,?_,⟨_,rfl,ea,Cr,true,⟨_,rfl,.inl ⟨Dn,rfl,C.oneR⟩⟩,er s1,C.isiR,true,rfl,iteT ⟨_,rfl,by show 4<=sizeLine;decide,fun U1 hU1=>?_⟩⟩⟩;rotate_left
    ·have s2:=(Same.refl H1).new (o:=.tup [.ref Cp,.ref Ct,.ref Cs,.ref Cm]) hU1;exact⟨ea,Cr,false,⟨_,rfl,.inr (.inr ⟨U1,[Cp,Ct,Cs,Cm],rfl,SqT.of q0e,C.anyR⟩)⟩,er (s1.trans s2),C.isiR,false,rfl,rfl,s2⟩
    rintro v H2 ⟨rfl,s2⟩;exact⟨fun v H3=>v=.ref T1/\H3=H2,(fun v H3 ⟨e1,e2⟩=>by rw[e1,e2];exact fin (s1.trans s2) (s2 _ _ t1)),⟨_,rfl,true,rfl,iteT ⟨_,rfl,rfl,rfl⟩⟩⟩
   |nos =>
    have rf:H' ea=some (ExO (.ref Cs) none ea):=ca;have er:∀{H2:Hp},Same H' H2->Err H2 ea Cs:=fun{H2} s=>⟨none,.inl (s _ _ rf),.inl rfl⟩
    refine⟨Cs,_,none,rf,C.e_NoSame,?_⟩;rw[C.sSP];refine iteF ⟨Cs,_,none,rf,C.e_NoSame,?_⟩;rw[C.sST];refine iteF ⟨Cs,_,none,rf,C.e_NoSame,?_⟩;rw[C.sSR];refine iteF ⟨Cs,_,none,rf,C.e_NoSame,?_⟩;rw[q4c];refine iteT ⟨by show 2<=sizeLine;decide,fun T1 hT1=>?_⟩;have s1:=(Same.refl H').new (o:=.tup [.str (Ab "no same"),.int 0]) hT1;have t1:upd H' T1 (.tup [.str (Ab "no same"),.int 0]) T1=some (.tup Dv.nos.vs):=q0e;generalize upd H' T1 (.tup [.str (Ab "no same"),.int 0])=H1 at s1 t1;refine⟨fun v H2=>v=.bl true/\Same H1 H2,?_,⟨_,rfl,ea,Cs,true,⟨_,rfl,.inr (.inl ⟨_,rfl,C.valS⟩)⟩,er s1,C.isiS,true,rfl,iteT ⟨_,rfl,by show 4<=sizeLine;decide,fun U1 hU1=>?_⟩⟩⟩;rotate_left
    ·have s2:=(Same.refl H1).new (o:=.tup [.ref Cp,.ref Ct,.ref Cr,.ref Cm]) hU1;exact⟨ea,Cs,false,⟨_,rfl,.inr (.inr ⟨U1,[Cp,Ct,Cr,Cm],rfl,SqT.of q0e,C.anyS⟩)⟩,er (s1.trans s2),C.isiS,false,rfl,rfl,s2⟩
    rintro v H2 ⟨rfl,s2⟩;exact⟨fun v H3=>v=.ref T1/\H3=H2,(fun v H3 ⟨e1,e2⟩=>by rw[e1,e2];exact fin (s1.trans s2) (s2 _ _ t1)),⟨_,rfl,true,rfl,iteT ⟨_,rfl,rfl,rfl⟩⟩⟩
   |big =>
    have rf:H' ea=some (ExO (.ref Cm) none ea):=ca;have er:∀{H2:Hp},Same H' H2->Err H2 ea Cm:=fun{H2} s=>⟨none,.inl (s _ _ rf),.inl rfl⟩
    refine⟨Cm,_,none,rf,C.e_TooMuch,?_⟩;rw[C.sMP];refine iteF ⟨Cm,_,none,rf,C.e_TooMuch,?_⟩;rw[C.sMT];refine iteF ⟨Cm,_,none,rf,C.e_TooMuch,?_⟩;rw[C.sMR];refine iteF ⟨Cm,_,none,rf,C.e_TooMuch,?_⟩;rw[C.sMS];refine iteF ⟨Cm,_,none,rf,C.e_TooMuch,?_⟩;rw[q4c];refine iteT ⟨by show 2<=sizeLine;decide,fun T1 hT1=>?_⟩;have s1:=(Same.refl H').new (o:=.tup [.str (Ab "too much"),.int 0]) hT1;have t1:upd H' T1 (.tup [.str (Ab "too much"),.int 0]) T1=some (.tup Dv.big.vs):=q0e;generalize upd H' T1 (.tup [.str (Ab "too much"),.int 0])=H1 at s1 t1;refine⟨fun v H2=>v=.bl true/\Same H1 H2,?_,⟨_,rfl,ea,Cm,true,⟨_,rfl,.inr (.inl ⟨_,rfl,C.valM⟩)⟩,er s1,C.isiM,true,rfl,iteT ⟨_,rfl,by show 4<=sizeLine;decide,fun U1 hU1=>?_⟩⟩⟩;rotate_left
    ·have s2:=(Same.refl H1).new (o:=.tup [.ref Cp,.ref Ct,.ref Cr,.ref Cs]) hU1;exact⟨ea,Cm,false,⟨_,rfl,.inr (.inr ⟨U1,[Cp,Ct,Cr,Cs],rfl,SqT.of q0e,C.anyM⟩)⟩,er (s1.trans s2),C.isiM,false,rfl,rfl,s2⟩
    rintro v H2 ⟨rfl,s2⟩;exact⟨fun v H3=>v=.ref T1/\H3=H2,(fun v H3 ⟨e1,e2⟩=>by rw[e1,e2];exact fin (s1.trans s2) (s2 _ _ t1)),⟨_,rfl,true,rfl,iteT ⟨_,rfl,rfl,rfl⟩⟩⟩
  ·by_cases hok:d=.ok
   ·subst hok;obtain⟨a,b,rfl,rfl,hb⟩:∃a b,r=.pl a/\q=.pl b/\((nmO a b).length+4)^mo<=1000:=by
     cases r with
     |pl a=>cases q with
      |pl b =>
       refine⟨a,b,rfl,rfl,Ij fun z=>?_⟩;have:dueR mo (.pl a) (.pl b)=.big:=if_pos z;rw[this] at hd;cases hd
      |_=>cases hd
     |ns=>cases q<;>cases hd
     |_=>cases hd
    refine .inl ⟨_,rfl,_,rfl,_,rfl,R,S,a,b,mo,rfl,hr1',hr2',hmo,hb,fun _ Tf H1 _ s1 h1=>?_,fun kk i n _ _ _ _ _ Tf H1 _ s1 h1=>?_⟩
    ·refine .inr (.inl ⟨Tf,_,0,_,rfl,rfl,SqT.of h1,rfl,by show 2<=sizeLine;decide,fun U hU=>?_⟩);have s2:=s1.new (o:=.tup [.str (Ab "same"),.str (Ab "parted")]) hU;refine .inr ⟨U,_,rfl,.inr (SqT.of q0e),rfl,by decide +kernel,by show 2<=sizeLine;decide,fun T1 hT1=>?_⟩;have s3:=s2.new (o:=.tup [.str (Ab "told"),.bl true]) hT1;exact⟨fun v H3=>v=.ref T1/\H3=_,(fun v H3 ⟨e1,e2⟩=>by rw[e1,e2];exact k _ _ (s0.trans s3) q0e),⟨_,rfl,true,rfl,iteT ⟨_,rfl,rfl,rfl⟩⟩⟩
    ·refine .inr (.inl ⟨Tf,_,0,_,rfl,rfl,SqT.of h1,rfl,by show 2<=sizeLine;decide,fun U hU=>?_⟩);have s2:=s1.new (o:=.tup [.str (Ab "same"),.str (Ab "parted")]) hU;refine .inr ⟨U,_,rfl,.inr (SqT.of q0e),rfl,by decide +kernel,by show 2<=sizeLine;decide,fun T1 hT1=>?_⟩;have s3:=s2.new (o:=.tup [.str (Ab "told"),.bl true]) hT1;exact⟨fun v H3=>v=.ref T1/\H3=_,(fun v H3 ⟨e1,e2⟩=>by rw[e1,e2];exact k _ _ (s0.trans s3) q0e),⟨_,rfl,true,rfl,iteT ⟨_,rfl,rfl,rfl⟩⟩⟩
   ·refine .inr ⟨_,rfl,_,rfl,_,rfl,R,S,r,q,mo,rfl,hr1',hr2',hmo,?_⟩;rw[hd];refine x4q hok fun ea H' s' ca ea' ez=>?_;cases ez;exact⟨rfl,s',ca⟩
end
end K
set_option maxHeartbeats 4000000
namespace K
open PySem L2 TX SB HM
section
variable{P:Program}{w:World}{K:Af}{mg:Str->Option Value}{base:Heap}
structure CallsSp (P:Program) (w:World) (K:Af) (mg:Str->Option Value) (base:Heap):Prop where
 draw:Cal P w K mg base "_law_draw" 1 ["_law_feed", "_law_many"] spDraw
structure Gd (K:Af) (H:Hp) (R:Addr):Prop where
 ex:∃kd l qs,∃st:Nat,RuleAt K H R kd l qs (st:Int)/\(gsOf (parse [] l)).length<=8/\l.length<=10/\(flatP qs).length<=90
theorem Gd.tk{H H':Hp}{R:Addr}(h:Gd K H R)(k:∀xs,H R=some (.tup xs)->H' R=some (.tup xs)):Gd K H' R:=by
 obtain⟨kd,l,qs,st,ru,g⟩:=h.ex;exact⟨kd,l,qs,st,⟨k _ ru.at_,ru.kok,ru.good,ru.wp,ru.st0,ru.st1,ru.ask⟩,g⟩
def spSp(K:Af):Sp:=fun vs H Q _=>∃a b R,vs=[.ref a,.ref R]/\FeedAt H a b/\Gd K H R /\
 ∀U R' T' r d H',Fd a b H H'->H' U=some (.tup [.ref R',.ref T'])->RkAt K H' R' r->own r=some d->H' T'=some (.tup d.vs)->Q (.ref U) H'
theorem x4r{qs:List Pc}(h:WP qs)(hs:(flatP qs).length<=90):WP (qs++[.gap 9]):=by
 refine⟨by simp,fun q hq=>?_,fun i x y h1 h2=>?_,fun i hi=>?_,fun q hq=>?_,?_⟩
 ·rcases Az.mp hq with z|z
  ·exact h.ok q z
  ·rw[Al.mp z];exact⟨by decide,by decide⟩
 ·rcases Gf (i+1) qs.length with z|z
  ·rw[Bj (by lia)] at h1;rw[Bj z] at h2;exact h.tt i x y h1 h2
  ·rw[Bp z] at h2;have:=(Ai.mp h2).1;rw[Bg] at this;rw[show i+1-qs.length=0 by lia] at h2;cases h2
 ·rcases Gf i qs.length with z|z
  ·rw[Bj z] at hi;rw[Bj (by lia)];exact h.ii i hi
  ·rw[Bp z] at hi;have:=(Ai.mp hi).1;rw[Bg] at this;rw[show i-qs.length=0 by lia] at hi;cases hi
 ·rw[List.getLast?_append] at hq;cases hq;exact fun z=>by cases z
 ·rw[q1n,Ad];show _+3<=100;lia
abbrev q7x:Stmt:=top 72
theorem sc_spoilt:FnScope ["_law_feed", "_law_rule_here", "_law_kind", "_law_pattern", "_law_template", "_law_start", "_law_way"] ["_law_feed", "_law_rule_here"] (defScope q7x):=by trivial
set_option maxHeartbeats 40000000 in
theorem z9o(D:Df K mg "_law_spoilt" q7x ["_law_feed", "_law_rule_here"])(T:Txt mg)(C:CallsSp P w K mg base):Cal P w K mg base "_law_spoilt" 2 ["_law_feed", "_law_rule_here"] (spSp K):=by
 refine D.cal sc_spoilt (fun vs H Q E h=>?_) (fun f cdv A outer s H vs Q E hr h=>?_)
 ·obtain⟨a,b,R,rfl,_⟩:=h;rfl
 ·obtain⟨a,b,R,rfl,F,gd,k⟩:=h;obtain⟨kd,l,qs,st,ru,hg,hl,hf⟩:=gd.ex;refine⟨_,(q0b (q3w (pv 1) (@q2h _ _ _ _ (4) _ K rfl rfl (q0r (q0l (i:=2) sc_spoilt.nd rfl (by trivial)) (q0r (q0l (i:=3) sc_spoilt.nd rfl (by trivial)) (q0r (q0l (i:=4) sc_spoilt.nd rfl (by trivial)) (q0r (q0l (i:=5) sc_spoilt.nd rfl (by trivial)) q1p)))) (by rfl) (by rfl))) (q0b (q0i (i:=6) sc_spoilt.nd rfl (by trivial) (pe_c C.draw hr (q0a (pv 0) (q0a q0f q0c)))) (q0b (q0w (q0h (eq_k K rfl hr) (pv 6) q0f (nomark _)) (q0d (q0o (q0q (q0a (q0q (q0a q0g (q0a (q0u q0k (pv 3) q0g) (q0a (pv 4) (q0a (pv 5) q0c))))) (q0a (q0q (q0a q0g (q0a (q0s (q2e K rfl) (by rfl) T.b_len Bm (q0a (pv 3) q0c)) q0c))) q0c))))) q0j) (q0b (q0w (q0h (eq_k K rfl hr) (pv 6) q0f (nomark _)) (q0d (q0o (q0q (q0a (q0q (q0a q0g (q0a (pv 3) (q0a (q0u q0k (pv 4) q0g) (q0a (pv 5) q0c))))) (q0a (q0q (q0a q0g (q0a (q0u q0k (q0s (q2e K rfl) (by rfl) T.b_len Bm (q0a (pv 4) q0c)) q0f) q0c))) q0c))))) q0j) (q0b (q0w (q0h (eq_k K rfl hr) (pv 6) q0f (nomark _)) (q0d (q0o (q0q (q0a (q0q (q0a q0g (q0a (pv 3) (q0a (q0u q0k (pv 4) q0g) (q0a (pv 5) q0c))))) (q0a (q0q (q0a q0g (q0a q0f q0c))) q0c))))) q0j) (q0d (q0o (q0q (q0a (q0q (q0a q0g (q0a (pv 3) (q0a (pv 4) (q0a (pv 5) q0c))))) (q0a (q0q (q0a q0g (q0a q0f q0c))) q0c)))))))))),?_⟩;refine⟨_,rfl,R,_,rfl,SqT.of ru.at_,rfl,_,_,rfl,_,_,rfl,_,_,rfl,_,_,rfl,rfl,?_⟩;refine⟨_,rfl,a,b,4,rfl,F,by decide,by decide,fun r H1 r0 r1 fd1=>?_⟩;have two:∀{Hx:Hp} {xs ys:List V} {U R' T':Addr},Hx R'=none->upd Hx R' (.tup xs) T'=none->upd (upd Hx R' (.tup xs)) T' (.tup ys) U=none->Same Hx (upd (upd (upd Hx R' (.tup xs)) T' (.tup ys)) U (.tup [.ref R',.ref T']))/\upd (upd (upd Hx R' (.tup xs)) T' (.tup ys)) U (.tup [.ref R',.ref T']) R'=some (.tup xs)/\upd (upd (upd Hx R' (.tup xs)) T' (.tup ys)) U (.tup [.ref R',.ref T']) T'=some (.tup ys)/\upd (upd (upd Hx R' (.tup xs)) T' (.tup ys)) U (.tup [.ref R',.ref T']) U=some (.tup [.ref R',.ref T']):=fun{Hx xs ys U R' T'} h1 h2 h3=>by
   have s1:=(Same.refl Hx).new (o:=.tup xs) h1;have s2:=(Same.refl _).new (o:=.tup ys) h2;have s3:=(Same.refl _).new (o:=.tup [.ref R',.ref T']) h3;exact⟨s1.trans (s2.trans s3),s3 _ _ (s2 _ _ q0e),s3 _ _ q0e,q0e⟩
  have el:=q0n l;have ef:=q0n (flatP qs);have gn:=ru.good;refine⟨_,rfl,.inl ⟨rfl,_,rfl,ite2 (fun _=>?_) (fun _=>?_)⟩⟩
  ·have e1:Ab "/" = mk [47]:=by decide +kernel
   refine⟨_,rfl,.inr (.inl ⟨_,_,rfl,rfl,by rw[e1,q0n,q0n];exact small (by show l.length+1<=_;lia),_,rfl,_,rfl,by show 4<=sizeLine;decide,fun R' hR'=>⟨_,rfl,_,_,rfl,⟨by rw[el];exact small (by lia),rfl⟩,by show 2<=sizeLine;decide,fun T' hT'=>⟨by show 2<=sizeLine;decide,fun U hU=>?_⟩⟩⟩)⟩;obtain⟨sU,tR,tT,tU⟩:=two hR' hT' hU;generalize upd _ U _=HU at sU tR tT tU ⊢;rw[e1,q2d] at tR;rw[el] at tT;have wr:WrongAt (l++[47]) l.length:=by
    have:=z9m gn (n:=l.length) (a:=l.length) (c:=47) (by rw[Cc];exact Aj _) (by decide +kernel);rw[Cc,Cc,Hb,Bi] at this;exact this
   exact k U R' T' (.pa l.length) (.pat l.length) _ (fd1.same sU) tU ⟨_,_,_,_,⟨tR,by rw[Ad];show l.length+1<=1000;lia,by lia⟩,wr⟩ rfl tT
  refine⟨_,rfl,.inl ⟨rfl,_,rfl,ite2 (fun _=>?_) (fun _=>?_)⟩⟩
  ·have e1:Ab "{" = mk [123]:=by decide +kernel
   refine⟨_,rfl,_,rfl,.inr (.inl ⟨_,_,rfl,rfl,by rw[e1,q0n,q0n];exact small (by show(flatP qs).length+1<=_;lia),_,rfl,by show 4<=sizeLine;decide,fun R' hR'=>⟨_,rfl,_,_,rfl,⟨by rw[ef];exact small (by lia),rfl⟩,.inl ⟨_,_,rfl,rfl,by show 2<=sizeLine;decide,fun T' hT'=>⟨by show 2<=sizeLine;decide,fun U hU=>?_⟩⟩⟩⟩)⟩;obtain⟨sU,tR,tT,tU⟩:=two hR' hT' hU;generalize upd _ U _=HU at sU tR tT tU ⊢;rw[e1,q2d] at tR;rw[ef] at tT;have wr:=x1k ru.wp (e:=[123]) (t:=.opn) (.cons (q7w (.inr (.inr rfl))) .nil) (fun z=>by cases z);rw[Ad] at wr;exact k U R' T' (.te ((flatP qs).length+1)) (.tem ((flatP qs).length+1)) _ (fd1.same sU) tU ⟨_,_,_,_,⟨tR,by lia,by rw[Ad];show(flatP qs).length+1<=500;lia⟩,gn,by rw[Ad];exact Aj _,wr⟩ rfl tT
  refine⟨_,rfl,.inl ⟨rfl,_,rfl,ite2 (fun _=>?_) (fun _=>?_)⟩⟩
  ·have e1:Ab "{9}" = mk (Pc.gap 9).wr:=by decide +kernel
   refine⟨_,rfl,_,rfl,.inr (.inl ⟨_,_,rfl,rfl,by rw[e1,q0n,q0n];exact small (by show(flatP qs).length+3<=_;lia),_,rfl,by show 4<=sizeLine;decide,fun R' hR'=>⟨by show 2<=sizeLine;decide,fun T' hT'=>⟨by show 2<=sizeLine;decide,fun U hU=>?_⟩⟩⟩)⟩;obtain⟨sU,tR,tT,tU⟩:=two hR' hT' hU;generalize upd _ U _=HU at sU tR tT tU ⊢;have e2:flatP qs++(Pc.gap 9).wr=flatP (qs++[.gap 9]):=by rw[q1n,q0x];show _=flatP qs++((Pc.gap 9).wr++[]);rw[Bi]
   rw[e1,q2d,e2] at tR;have wp:=x4r ru.wp hf;exact k U R' T' .ru .rul _ (fd1.same sU) tU ⟨_,_,_,_,⟨tR,by lia,Aq wp.sz (by decide)⟩,gn,_,rfl,wp,.inr (.inl ⟨.gap 9,by simp,.inl ⟨9,rfl,.inl (by lia)⟩⟩)⟩ rfl tT
  ·refine⟨_,rfl,_,rfl,_,rfl,by show 4<=sizeLine;decide,fun R' hR'=>⟨by show 2<=sizeLine;decide,fun T' hT'=>⟨by show 2<=sizeLine;decide,fun U hU=>?_⟩⟩⟩;obtain⟨sU,tR,tT,tU⟩:=two hR' hT' hU;generalize upd _ U _=HU at sU tR tT tU ⊢;exact k U R' T' .ru .rul _ (fd1.same sU) tU ⟨_,_,_,_,⟨tR,by lia,Aq ru.wp.sz (by decide)⟩,gn,_,rfl,ru.wp,.inl (by decide +kernel)⟩ rfl tT
end
end K
set_option maxHeartbeats 4000000
namespace K
open PySem L2 TX SB HM
section
variable{P:Program}{w:World}{K:Af}{mg:Str->Option Value}{base:Heap}
theorem z9p{l:List Nat}{j:Int}(h0:0<=j):Kq (mk l) none (some j)=mk (l.take j.toNat):=by
 by_cases h:j<=(l.length:Int)
 ·rw[z3y h0 (by rw[q0z];exact h),q0z]
 ·have e:Dh (mk l) none (some j)=Dh (mk l) none (some (((mk l).length:Nat):Int)):=by
   unfold Dh;rw[q5c none (mk l).length (j:=j) (by rw[q0n];lia)]
  show Dh (mk l) none (some j)=_;rw[e];have z:=z3y (x:=mk l) (j:=(((mk l).length:Nat):Int)) (by lia) (by rw[q0n,q0z];exact Int.le_refl _);refine z.trans ?_;rw[q0z,q0n,Ce (by lia),Ce (by lia)]
structure CallsL (P:Program) (w:World) (K:Af) (mg:Str->Option Value) (base:Heap):Prop where
 draw:Cal P w K mg base "_law_draw" 1 ["_law_feed", "_law_many"] spDraw
 text:Cal P w K mg base "_law_text" 2 ["_law_feed", "_law_signs_here", "_law_size"] spText
 name_signs:Cal P w K mg base "_law_name_signs" 1 [] (spConst NSs)
 rule:Cal P w K mg base "_law_rule" 3 ["_law_feed", "_law_signs_here"] spRule
 shapes:Cal P w K mg base "_law_shapes" 3 ["_law_rules", "_law_most_here"] spShapes
 spoilt:Cal P w K mg base "_law_spoilt" 2 ["_law_feed", "_law_rule_here"] (spSp K)
 told_of:Cal P w K mg base "_law_told_of" 11 ["_law_one", "_law_other", "_law_most_here"] (spTo K)
def spLaw(K:Af):Sp:=fun vs H Q _=>∃(a:Addr) (ns:List Int),vs=[.ref a]/\SqL K H a (ns.map V.int)/\ns.length<=63/\∀H',Q (.bl true) H'
theorem gl4{x:V}(h:x∈[V.str (Ab "a"),.str (Ab "aB1"),.str (Ab "0z"),.str NSs]):∃g:Str,x=.str g/\0<g.length/\g.length<=1000/\∀c∈tl g,c∈NS:=by
 simp only[Ap,Bq,or_false] at h;rcases h with rfl|rfl|rfl|rfl
 ·exact⟨_,rfl,by decide +kernel,by decide +kernel,by decide +kernel⟩
 ·exact⟨_,rfl,by decide +kernel,by decide +kernel,by decide +kernel⟩
 ·exact⟨_,rfl,by decide +kernel,by decide +kernel,by decide +kernel⟩
 ·exact⟨_,rfl,by decide +kernel,by decide +kernel,fun c h=>h⟩
theorem RawAt.fd{a b:Addr}{H H':Hp}{R:Addr}{l:List Nat}{ts:List Pc}{st:Nat}(h:RawAt H R l ts st)(F:FeedAt H a b)(fd:Fd a b H H'):RawAt H' R l ts st:=⟨q1t F fd h.at_,h.ok,h.st,h.ne⟩
theorem RawAt.same{H H':Hp}{R:Addr}{l:List Nat}{ts:List Pc}{st:Nat}(h:RawAt H R l ts st)(s:Same H H'):RawAt H' R l ts st:=⟨s _ _ h.at_,h.ok,h.st,h.ne⟩
def Dv.dat:Dv->PyData
 |.ok=>.tuple [.str (Ab "told"),.bool true]
 |.pat i=>.tuple [.str (Ab "pattern"),.int (i:Int)]
 |.tem i=>.tuple [.str (Ab "template"),.int (i:Int)]
 |.rul=>.tuple [.str (Ab "rule"),.int 0]
 |.nos=>.tuple [.str (Ab "no same"),.int 0]
 |.big=>.tuple [.str (Ab "too much"),.int 0]
theorem Dv.dt{H:Hp}{T:Addr}{v:Dv}(h:H T=some (.tup v.vs)):Dt K H (.ref T) v.dat:=by
 cases v with
 |ok=>exact .tup (SqT.of h) (.cons (.str _) (.cons (.bl _) .nil))
 |_=>exact .tup (SqT.of h) (.cons (.str _) (.cons (.int _) .nil))
theorem Dv.lay(v:Dv):v.dat.canLay0=true:=by
 cases v<;>(simp only[Dv.dat,Oo,Ly,Bool.and_true];decide +kernel)
theorem Dv.dep(v:Dv):v.dat.depth<=100:=by
 cases v<;>simp[Dv.dat,My,Ku]
theorem Dv.refl(v:Dv):Dr v.dat v.dat=true:=by
 cases v<;>simp[Dv.dat,Dr,Fu]
theorem x4s{H:Hp}{R:Addr}{l:List Nat}{t:V}(hl:l.length<=5)(hs:∀c∈l,c∈GS\/c∈NS)(h:t∈[V.str (Ab "{1+4}x"),.str (Ab "{n}"),.str (Ab "{1+0}{n3}")])(hR:H R=some (.tup [.str (Ab "slip"),.str (mk (35::l)),t,.int 0])):RkAt K H R .ns/\Gd K H R:=by
 have key:∀qs:List Pc,t=.str (mk (flatP qs))->WP qs->(flatP qs).length<=90->(∀q∈qs,AskOk (Ab "slip") (35::l.filter fun c=>decide (c∈GS)) q)->(∃q∈qs,(isMo q||isCn q)=true)->RkAt K H R .ns/\Gd K H R:=fun qs e wp sz ask b=>by
  have hgl:=Cj (fun c=>decide (c∈GS)) l;have g35:(35:Nat)∈GS:=by decide +kernel
  have ef:(35::l).filter (fun c=>decide (c∈GS))=35::l.filter fun c=>decide (c∈GS):=Nc (by rw[decide_eq_true g35]);have ru:RuleAt K H R (Ab "slip") (35::l) qs ((0:Nat):Int):=by
   refine⟨by rw[hR,e];rfl,by decide +kernel,⟨(fun z=>by cases z),fun c hc=>?_,?_,by rw[Av];lia⟩,wp,by decide,by decide,fun q hq=>?_⟩
   ·rcases Ap.mp hc with rfl|hc
    ·exact .inl g35
    ·exact hs c hc
   ·rw[ef,Av];lia
   ·rw[q3t,ef];exact ask q hq
  exact⟨⟨_,_,_,_,ru,b⟩,⟨_,_,_,_,ru,by rw[q3t,ef,Av];lia,by rw[Av];lia,sz⟩⟩
 have aM:∀m,AskOk (Ab "slip") (35::l.filter fun c=>decide (c∈GS)) (.more 1 m):=fun m=>⟨fun k e=>by cases e;exact⟨by decide,by rw[Av];lia⟩,fun k m' e=>by cases e;rfl,fun e=>by cases e⟩
 have aO:∀q,gapNo q=none->isMo q=false->q≠.into->AskOk (Ab "slip") (35::l.filter fun c=>decide (c∈GS)) q:=fun q h1 h2 h3=>⟨fun k e=>(by rw[h1] at e;cases e),fun k m' e=>(by rw[e] at h2;cases h2),fun e=>absurd e h3⟩
 simp only[Ap,Bq,or_false] at h;rcases h with h|h|h
 ·refine key [.more 1 4,.tx [120]] (by rw[h];exact congrArg V.str (by decide +kernel)) ⟨by simp,fun q hq=>?_,fun i x y h1 h2=>?_,fun i hi=>?_,fun q hq=>?_,by decide +kernel⟩ (by decide +kernel) (fun q hq=>?_) ⟨.more 1 4,by simp,rfl⟩
  ·simp only[Ap,Bq,or_false] at hq;rcases hq with rfl|rfl
   ·exact⟨⟨by decide,by decide⟩,by decide⟩
   ·exact⟨by simp,by decide +kernel⟩
  ·match i with
   |0=>cases h1
   |1=>cases h2
   |_+2=>cases h1
  ·match i with
   |0=>cases hi
   |1=>cases hi
   |_+2=>cases hi
  ·cases hq;exact fun z=>by cases z
  ·simp only[Ap,Bq,or_false] at hq;rcases hq with rfl|rfl
   ·exact aM 4
   ·exact aO _ rfl rfl fun z=>by cases z
 ·refine key [.cnt 1] (by rw[h];exact congrArg V.str (by decide +kernel)) ⟨by simp,fun q hq=>?_,fun i x y h1 h2=>?_,fun i hi=>?_,fun q hq=>?_,by decide +kernel⟩ (by decide +kernel) (fun q hq=>?_) ⟨.cnt 1,by simp,rfl⟩
  ·rw[Al.mp hq];exact⟨by decide,by decide⟩
  ·match i with
   |0=>cases h1
   |_+1=>cases h1
  ·match i with
   |0=>cases hi
   |_+1=>cases hi
  ·cases hq;exact fun z=>by cases z
  ·rw[Al.mp hq];exact aO _ rfl rfl fun z=>by cases z
 ·refine key [.more 1 0,.cnt 3] (by rw[h];exact congrArg V.str (by decide +kernel)) ⟨by simp,fun q hq=>?_,fun i x y h1 h2=>?_,fun i hi=>?_,fun q hq=>?_,by decide +kernel⟩ (by decide +kernel) (fun q hq=>?_) ⟨.more 1 0,by simp,rfl⟩
  ·simp only[Ap,Bq,or_false] at hq;rcases hq with rfl|rfl
   ·exact⟨⟨by decide,by decide⟩,by decide⟩
   ·exact⟨by decide,by decide⟩
  ·match i with
   |0=>cases h1
   |1=>cases h1
   |_+2=>cases h1
  ·match i with
   |0=>cases hi
   |1=>cases hi
   |_+2=>cases hi
  ·cases hq;exact fun z=>by cases z
  ·simp only[Ap,Bq,or_false] at hq;rcases hq with rfl|rfl
   ·exact aM 0
   ·exact aO _ rfl rfl fun z=>by cases z
abbrev q4d:Stmt:=top 74
theorem sc_law:FnScope ["_law_script", "_law_feed", "_law_k", "_law_signs_here", "_law_one", "_law_other", "_law_more", "_law_most_here", "_law_due", "_law_shapes_here"] ["_law_script"] (defScope q4d):=by trivial
set_option maxHeartbeats 80000000 in
theorem x1l(T:Txt mg)(C:CallsL P w K mg base)(f:Addr)(cdv:Value)(A:Around)(outer:List Env)(s:Ah)(H:Hp)(vs:List V)(Q:VK)(E:XK)(hr:Room 11 (A.deeper (PyProof.Rows.envOfC "law" (defScope q4d) s.heap.objs.size f cdv)))(h:spLaw K vs H Q E):
  ∃t,PSs (cxOf CX0 P w K mg base ["_law_script", "_law_feed", "_law_k", "_law_signs_here", "_law_one", "_law_other", "_law_more", "_law_most_here", "_law_due", "_law_shapes_here"] "law" (defScope q4d) f cdv A outer s H E).nox (defBody q4d) t/\t { nx:=fun _ H'=>Q .non H',rt:=Q } (L2.start ["_law_script", "_law_feed", "_law_k", "_law_signs_here", "_law_one", "_law_other", "_law_more", "_law_most_here", "_law_due", "_law_shapes_here"] vs) H:=by
  obtain⟨sc,ns,rfl,hS,hns,k⟩:=h;refine⟨_,(q0b (q0i (i:=1) sc_law.nd rfl (by trivial) (q1r (q0a (q1e (list_k K rfl) (by rfl) T.b_list (by decide +kernel) (q0a (pv 0) q0c)) (q0a q0f (q0a q0f q0c))))) (q0b (q1h Bo rfl (q1q rfl T.b_range (q0a (q0s (z6w rfl) (by rfl) T.b_max (by decide +kernel) (q0a q0f (q0a (q0s (z0r rfl) (by rfl) T.b_min (by decide +kernel) (q0a q0f (q0a (q0s (q2e K rfl) (by rfl) T.b_len Bm (q0a (pv 0) q0c)) q0c))) q0c))) q0c)) (q0l (i:=2) sc_law.nd rfl (by trivial)) (q0b (q0i (i:=3) sc_law.nd rfl (by trivial) (q1a (ix_k K rfl) (q1r (q0a q0g (q0a q0g (q0a q0g (q0a (x3c C.name_signs hr) q0c))))) (pe_c C.draw hr (q0a (pv 1) (q0a q0f q0c))) (fun _ _=>rfl))) (q0b (q0i (i:=4) sc_law.nd rfl (by trivial) (pe_c C.rule hr (q0a (pv 1) (q0a (pv 3) q0c)))) (q0b (q0i (i:=5) sc_law.nd rfl (by trivial) (pe_c C.rule hr (q0a (pv 1) (q0a (pv 3) q0c)))) (q0b (q0i (i:=6) sc_law.nd rfl (by trivial) (pe_c C.text hr (q0a (pv 1) (q0a (x3c C.name_signs hr) (q0a (q1a (ix_k K rfl) (q1r (q0a q0f (q0a q0f (q0a (pe_c C.draw hr (q0a (pv 1) (q0a q0f q0c))) q0c)))) (pe_c C.draw hr (q0a (pv 1) (q0a q0f q0c))) (fun _ _=>rfl)) q0c))))) (q1f (q0i (i:=4) sc_law.nd rfl (by trivial) (q0q (q0a q0g (q0a (q1a (ix_k K rfl) (pv 4) q0f (fun _ _=>rfl)) (q0a (q0u q0k (q1a (ix_k K rfl) (pv 4) q0f (fun _ _=>rfl)) (pv 6)) (q0a (q1a (ix_k K rfl) (pv 4) q0f (fun _ _=>rfl)) q0c)))))) (q0b (q0i (i:=7) sc_law.nd rfl (by trivial) (q0u q0k q0f (pe_c C.draw hr (q0a (pv 1) (q0a q0f q0c))))) (q0b (q0i (i:=8) sc_law.nd rfl (by trivial) (q0q (q0a q0g (q0a q5k q0c)))) (q1f (q0w (q0h q5l (pe_c C.shapes hr (q0a (q1r (q0a (pv 4) (q0a (pv 5) q0c))) (q0a (pv 7) q0c))) q0f (nomark _)) (q0d (q0i (i:=8) sc_law.nd rfl (by trivial) (q0q (q0a q0g (q0a q0f q0c))))) q0j) (q1f (q0w (q0h (eq_k K rfl hr) (pe_c C.draw hr (q0a (pv 1) (q0a q0f q0c))) q0f (nomark _)) (q0b (q0i (i:=8) sc_law.nd rfl (by trivial) (q0q (q0a q0g (q0a q0f q0c)))) (q0b (q0i (i:=5) sc_law.nd rfl (by trivial) (q0q (q0a q0g (q0a (q0u q0k q0g (q1l (sl_k K rfl) (q1a (ix_k K rfl) (pv 5) q0f (fun _ _=>rfl)) q6w (q1d q0f))) (q0a (q1a (ix_k K rfl) (q1r (q0a q0g (q0a q0g (q0a q0g q0c)))) (pe_c C.draw hr (q0a (pv 1) (q0a q0f q0c))) (fun _ _=>rfl)) (q0a q0f q0c)))))) (q0d (q0w (q0h (eq_k K rfl hr) (pe_c C.draw hr (q0a (pv 1) (q0a q0f q0c))) q0f (nomark _)) (q0d (ps_par (i:=4) (j:=5) rfl sc_law.nd rfl rfl (by decide) rfl rfl (q0a (pv 5) (q0a (pv 4) q0c)) rfl)) q0j)))) q0j) (q1f (q0w (q0h (eq_k K rfl hr) (pe_c C.draw hr (q0a (pv 1) (q0a q0f q0c))) q0f (nomark _)) (q0d (q3w (pe_c C.spoilt hr (q0a (pv 1) (q0a (pv 5) q0c))) (@q2h _ _ _ _ (2) _ K rfl rfl (q0r (q0l (i:=5) sc_law.nd rfl (by trivial)) (q0r (q0l (i:=8) sc_law.nd rfl (by trivial)) q1p)) (by rfl) (by rfl)))) q0j) (q1f (q0w (q0h (eq_k K rfl hr) (pe_c C.draw hr (q0a (pv 1) (q0a q0f q0c))) q0f (nomark _)) (q0d (q3w (pe_c C.spoilt hr (q0a (pv 1) (q0a (pv 4) q0c))) (@q2h _ _ _ _ (2) _ K rfl rfl (q0r (q0l (i:=4) sc_law.nd rfl (by trivial)) (q0r (q0l (i:=8) sc_law.nd rfl (by trivial)) q1p)) (by rfl) (by rfl)))) q0j) (q1f (q0i (i:=9) sc_law.nd rfl (by trivial) (pe_c C.shapes hr (q0a (q1r (q0a (pv 4) (q0a (pv 5) q0c))) (q0a (pv 7) q0c)))) (q0d (q0w (pt_j (@PW.pt _ _ _ (q6e (q0h (ne_k K rfl hr) (pv 8) (q0q (q0a q0g (q0a q5k q0c))) (nomark _)) (q6e (q0h z2l (pv 9) q0f (nomark _)) (q3v (q0h (eq_k K rfl hr) (pv 2) q0f (nomark _))))))) (q0d (q0w (q0h (ne_k K rfl hr) (pe_c C.told_of hr (q0a (pv 4) (q0a (pv 5) (q0a (pv 7) q0c)))) (pv 8) (nomark _)) (q0d (q0o q5k)) q0j)) q0j))))))))))))))) (q0d (q0o q5k)))),?_⟩;refine⟨_,rfl,sc,_,rfl,.inl hS,fun b hb=>⟨by show 3<=sizeLine;decide,fun a ha=>?_⟩⟩;have nba:b≠a:=q0y q0e ha;have F:FeedAt (upd (upd H b (.lst (ns.map V.int))) a (.lst [.ref b,.int 0,.int 0])) a b:=⟨⟨0,0,q0e⟩,ns,by rw[q0m nba];exact q0e⟩
  have sS:Same H (upd (upd H b (.lst (ns.map V.int))) a (.lst [.ref b,.int 0,.int 0])):=((Same.refl H).new hb).new ha;generalize hH1:upd (upd H b _) a _=H1;rw[hH1] at F sS;refine⟨_,rfl,_,_,rfl,.inl ⟨_,sS.seq hS,rfl⟩,?_⟩;refine⟨_,_,rfl,_,_,rfl,_,rfl,?_,?_,q1x (fun i σ' H'=>∃x2 x3 x4 x5 x6 x7 x8 x9,σ'=[some (.ref sc),some (.ref a),x2,x3,x4,x5,x6,x7,x8,x9]/\Fd a b H1 H') ⟨none,none,none,none,none,none,none,none,rfl,Fd.refl F⟩ ?_ ?_⟩
  ·rw[Ag];split<;>split<;>lia
  ·rw[Ag];split<;>split<;>lia
  rotate_left
  ·rintro σ' H' ⟨x2,x3,x4,x5,x6,x7,x8,x9,rfl,fd⟩;exact k _
  rintro i σ' H2 hi ⟨x2,x3,x4,x5,x6,x7,x8,x9,rfl,fd2⟩;refine⟨rfl,by show 4<=sizeLine;decide,fun kl hkl=>?_⟩;have fdl:=fd2.new (o:=.lst [.str (Ab "a"),.str (Ab "aB1"),.str (Ab "0z"),.str NSs]) hkl;have hla:kl≠a:=(fd2.feed.na hkl).symm;refine⟨_,rfl,a,b,4,rfl,fdl.feed,by decide,by decide,fun r3 H3 r30 r31 fd3=>?_⟩;obtain⟨x,hx1,hx2⟩:=z1d (xs:=[V.str (Ab "a"),V.str (Ab "aB1"),V.str (Ab "0z"),V.str NSs]) r30 (by simpa using r31);refine .inl ⟨kl,_,r3,x,rfl,rfl,SqL.of (fd3.at q0e hla),hx2,?_⟩;obtain⟨g,rfl,g0,g1,g2⟩:=gl4 (As hx1);have fd3':=fdl.trans fd3;refine⟨_,rfl,_,rfl,a,b,g,rfl,fd3'.feed,g0,g1,g2,fun R0 l0 ts0 st0 H4 _ fd4 hR0 hl0 ht0 hs0=>?_⟩;have fd4':=fd3'.trans fd4;refine⟨_,rfl,_,rfl,a,b,g,rfl,fd4'.feed,g0,g1,g2,fun R1 l1 ts1 st1 H5 _ fd5 hR1 hl1 ht1 hs1=>?_⟩;have fd5':=fd4'.trans fd5;have hR05:=hR0.fd fd4'.feed fd5;clear hR0;refine⟨_,rfl,rfl,_,rfl,a,b,36,rfl,fd5'.feed,by decide,by decide,fun r6 H6 r60 r61 fd6=>⟨by show 3<=sizeLine;decide,fun km hkm=>?_⟩⟩;have fd6':=fd5'.trans fd6;have fdm:=fd6'.new (o:=.lst [.int 0,.int 0,.int r6]) hkm;have sm:=(Same.refl H6).new (o:=.lst [.int 0,.int 0,.int r6]) hkm;have hma:km≠a:=(fd6'.feed.na hkm).symm;have hR06:=(hR05.fd fd5'.feed fd6).same sm;have hR16:=(hR1.fd fd5'.feed fd6).same sm;clear hR05 hR1;refine⟨_,rfl,a,b,3,rfl,fdm.feed,by decide,by decide,fun r7 H7 r70 r71 fd7=>?_⟩;obtain⟨y,hy1,hy2⟩:=z1d (xs:=[V.int 0,.int 0,.int r6]) r70 (by simpa using r71);refine .inl ⟨km,_,r7,y,rfl,rfl,SqL.of (fd7.at q0e hma),hy2,?_⟩;obtain⟨n6,rfl,n60,n61⟩:∃n6:Int,y=.int n6/\0<=n6/\n6<=35:=by
   have:=As hy1;simp only[Ap,Bq,or_false] at this;rcases this with rfl|rfl|rfl
   ·exact⟨0,rfl,by decide,by decide⟩
   ·exact⟨0,rfl,by decide,by decide⟩
   ·exact⟨r6,rfl,r60,by lia⟩
  have fd7':=fdm.trans fd7;have hR07:=hR06.fd fdm.feed fd7;have hR17:=hR16.fd fdm.feed fd7;clear hR06 hR16;refine⟨a,b,NSs,n6,rfl,fd7'.feed,by decide +kernel,by decide +kernel,n60,by lia,fun mo6 H8 hm6 hm6n fd8=>?_⟩;have fd8':=fd7'.trans fd8;have hR08:=hR07.fd fd7'.feed fd8;have hR18:=hR17.fd fd7'.feed fd8;clear hR07 hR17 fd2 fdl fd3 fd3' fd4 fd4' fd5 fd5' fd6 fd6' fdm fd7 fd7' fd8;refine⟨fun σ' H'=>∃R0 us0,σ'=[some (.ref sc),some (.ref a),some (.int (0+(i:Int))),some (.str g),some (.ref R0),some (.ref R1),some (.str (mk mo6)),x7,x8,x9]/\Fd a b H1 H'/\CRule K H' R0 (mkN (Ab "slip") l0 us0 st0)/\(flatP (norm us0)).length<=60/\RawAt H' R1 l1 ts1 st1,?_,?_⟩;rotate_left
  ·have hfl:(flatP ts0).length<=100:=by
    have tf:∀q∈ts0,TokF (gpn l0) q:=fun q hq=>tokF (by have:=Cj (fun c=>decide (c∈GS)) l0;show gpn l0<=9;unfold gpn;lia) (hR08.ok.tok q hq);have:=q8t (l:=ts0) (f:=Pc.wr) (m:=5) fun q hq=>(tf q hq).wl;have e:flatP ts0=ts0.flatMap Pc.wr:=by unfold flatP;rw[Ro]
    rw[e];lia
   have hm6':mo6.length<=35:=by lia
   refine⟨_,rfl,.inr (.inl ⟨R0,_,1,_,rfl,rfl,SqT.of hR08.at_,rfl,_,rfl,.inr (.inl ⟨R0,_,2,_,rfl,rfl,SqT.of hR08.at_,rfl,_,rfl,.inr (.inl ⟨_,_,rfl,rfl,by rw[q0n,q0n];exact small (by lia),_,rfl,.inr (.inl ⟨R0,_,3,_,rfl,rfl,SqT.of hR08.at_,rfl,by show 4<=sizeLine;decide,fun R2 hR2=>?_⟩)⟩)⟩)⟩)⟩;obtain⟨us,hex,ef⟩:∃ex:List Pc,(ex=[]\/∃t,ex=[.tx t]/\t≠[]/\t.length<=35/\∀c∈t,c∈NS)/\flatP ts0++mo6=flatP (ts0++ex):=by
    by_cases hz:mo6=[]
    ·exact⟨[],.inl rfl,by rw[hz,Bi,Bi]⟩
    ·refine⟨[.tx mo6],.inr ⟨mo6,rfl,hz,hm6',hm6n⟩,?_⟩;rw[q1n,q0x];show _=flatP ts0++(mo6++[])
     rw[Bi]
   have e2:upd H8 R2 (.tup [.str (Ab "slip"),.str (mk l0),.str (mk (flatP ts0)++mk mo6),.int (st0:Int)]) R2=some (.tup [.str (Ab "slip"),.str (mk l0),.str (mk (flatP (ts0++us))),.int (st0:Int)]):=by rw[q0e,q2d,ef]
   have s2:=(Same.refl H8).new (o:=.tup [.str (Ab "slip"),.str (mk l0),.str (mk (flatP ts0)++mk mo6),.int (st0:Int)]) hR2;obtain⟨cr,sz⟩:=z2f (K:=K) hR08.ok (by lia) hex (by lia) e2;exact⟨R2,ts0++us,rfl,fd8'.same s2,cr,sz,hR18.same s2⟩
  have hll0:=hR08.ok.ll;have hok0:=hR08.ok;clear hR08 hR18 fd8';rintro σ' H3 ⟨R0,us0,rfl,fd3,c0,sz0,hR1⟩;have gd0:Gd K H3 R0:=by
   have hgl:=Cj (fun c=>decide (c∈GS)) l0;exact⟨_,l0,norm us0,st0,c0.at_,by rw[q3t];lia,by lia,by lia⟩
  have c1:CRule K H3 R1 (mkN (Ab "slip") l1 ts1 st1)/\(flatP (norm ts1)).length<=60:=by
   have:=z2f (K:=K) (H:=H3) (R:=R1) (st:=st1) (ex:=[]) hR1.ok (by lia) (.inl rfl) (by have:=hR1.st;lia) (by rw[Bi];exact hR1.at_);rw[Bi] at this;exact this
  obtain⟨c1,sz1⟩:=c1;have gd1:Gd K H3 R1:=by
   have hgl:=Cj (fun c=>decide (c∈GS)) l1;exact⟨_,l1,norm ts1,st1,c1.at_,by rw[q3t];lia,by lia,by lia⟩
  generalize mkN (Ab "slip") l0 us0 st0=q0 at c0;have hlo1:=hR1.ok.lo;have hll1:=hR1.ok.ll;have hat1:=hR1.at_;clear hR1;generalize mkN (Ab "slip") l1 ts1 st1=q1 at c1;refine⟨_,rfl,a,b,4,rfl,fd3.feed,by decide,by decide,fun r8 H4 r80 r81 fd4=>.inl ⟨_,_,rfl,rfl,?_⟩⟩;obtain⟨mo,emo,mo1,mo4⟩:∃mo:Nat,(1+r8)=(mo:Int)/\1<=mo/\mo<=4:=⟨(1+r8).toNat,by lia,by lia,by lia⟩
  rw[emo];refine⟨by show 2<=sizeLine;decide,fun T0 hT0=>?_⟩;have s4:=(Same.refl H4).new (o:=.tup [.str (Ab "told"),.bl true]) hT0;have t0:upd H4 T0 (.tup [.str (Ab "told"),.bl true]) T0=some (.tup Dv.ok.vs):=q0e;have fd4':=(fd3.trans fd4).same s4;have k4:∀{R:Addr} {xs:List V},H3 R=some (.tup xs)->upd H4 T0 (.tup [.str (Ab "told"),.bl true]) R=some (.tup xs):=fun e=>s4 _ _ (q1t fd3.feed fd4 e);generalize upd H4 T0 (.tup [.str (Ab "told"),.bl true])=H5 at s4 t0 fd4' k4;have c05:=c0.tk fun xs e=>k4 e;have c15:=c1.tk fun xs e=>k4 e;have gd05:=gd0.tk fun xs e=>k4 e;have gd15:=gd1.tk fun xs e=>k4 e;have hat15:=k4 hat1;clear c0 c1 gd0 gd1 hat1 k4 s4 fd4;refine⟨fun σ' H'=>∃Td,σ'=[some (.ref sc),some (.ref a),some (.int (0+(i:Int))),some (.str g),some (.ref R0),some (.ref R1),some (.str (mk mo6)),some (.int (mo:Int)),some (.ref Td),x9]/\Same H5 H'/\H' Td=some (.tup (dueR mo (.pl q0) (.pl q1)).vs),?_,?_⟩;rotate_left
  ·refine⟨_,rfl,_,rfl,by show 2<=sizeLine;decide,fun L hL=>?_⟩;have sL:=(Same.refl H5).new (o:=.lst [.ref R0,.ref R1]) hL;have tL:upd H5 L (.lst [.ref R0,.ref R1]) L=some (.lst [.ref R0,.ref R1]):=q0e;generalize upd H5 L (.lst [.ref R0,.ref R1])=H6 at sL tL;have c06:=c05.same sL;have c16:=c15.same sL;refine⟨_,rfl,L,[⟨R0,q0.kd,q0.l,flatP q0.qs,(q0.st:Int)⟩,⟨R1,q1.kd,q1.l,flatP q1.qs,(q1.st:Int)⟩],mo,rfl,⟨tL,fun x hx=>?_⟩,by simp,mo4,mo1,fun m H7 hc s7=>?_⟩
   ·rcases Ap.mp hx with rfl|hx
    ·exact z0m c06.at_
    ·rw[Al.mp hx];exact z0m c16.at_
   have em:=cnt_nm c06 c16 hc;have s57:=sL.trans s7;refine⟨_,_,rfl,rfl,_,rfl,ite2 (fun h=>?_) (fun h=>?_)⟩
   ·have hb:1000<((nmO q0 q1).length+4)^mo:=by
     have h:(((m+4)^mo:Nat):Int)>1000:=of_decide_eq_true h;rw[<- em];lia
    refine⟨by show 2<=sizeLine;decide,fun T1 hT1=>⟨T1,rfl,s57.new hT1,?_⟩⟩;rw[show dueR mo (.pl q0) (.pl q1)=.big from if_pos hb];exact q0e
   ·have hb:¬1000<((nmO q0 q1).length+4)^mo:=fun z=>h (by
     have z:1000<(m+4)^mo:=by rw[em];exact z
     exact decide_eq_true (by lia))
    refine⟨T0,rfl,s57,?_⟩;rw[show dueR mo (.pl q0) (.pl q1)=.ok from if_neg hb];exact s57 _ _ t0
  rintro σ' H6 ⟨Td,rfl,s6,tTd⟩;have fd6:=fd4'.same s6;have c06:=c05.same s6;have c16:=c15.same s6;have gd06:=gd05.tk fun xs e=>s6 _ _ e;have gd16:=gd15.tk fun xs e=>s6 _ _ e;have hat16:=s6 _ _ hat15;clear c05 c15 gd05 gd15 hat15 t0 fd4' s6;refine⟨fun σ' H'=>∃R0 R1 r q Td,σ'=[some (.ref sc),some (.ref a),some (.int (0+(i:Int))),some (.str g),some (.ref R0),some (.ref R1),some (.str (mk mo6)),some (.int (mo:Int)),some (.ref Td),x9]/\Fd a b H1 H'/\RkAt K H' R0 r/\RkAt K H' R1 q/\Gd K H' R0/\Gd K H' R1/\own r=none/\own q=none/\H' Td=some (.tup (dueR mo r q).vs),?_,?_⟩;rotate_left
  ·refine⟨_,rfl,a,b,3,rfl,fd6.feed,by decide,by decide,fun r9 H7 _ _ fd7=>.inl ⟨rfl,_,rfl,?_⟩⟩;have fd7':=fd6.trans fd7;have c07:=c06.tk fun xs e=>q1t fd6.feed fd7 e;have c17:=c16.tk fun xs e=>q1t fd6.feed fd7 e;have gd07:=gd06.tk fun xs e=>q1t fd6.feed fd7 e;have gd17:=gd16.tk fun xs e=>q1t fd6.feed fd7 e;have hat17:=q1t fd6.feed fd7 hat16;have tTd7:=q1t fd6.feed fd7 tTd;refine ite2 (fun _=>?_) (fun _=>⟨R0,R1,.pl q0,.pl q1,Td,rfl,fd7',c07,c17,gd07,gd17,rfl,rfl,tTd7⟩);refine⟨by show 2<=sizeLine;decide,fun T1 hT1=>?_⟩;have s8:=(Same.refl H7).new (o:=.tup [.str (Ab "no same"),.int 0]) hT1;have t8:upd H7 T1 (.tup [.str (Ab "no same"),.int 0]) T1=some (.tup Dv.nos.vs):=q0e;generalize upd H7 T1 (.tup [.str (Ab "no same"),.int 0])=H8 at s8 t8;have fd8:=fd7'.same s8;have e35:Ab "#" = mk [35]:=by decide +kernel
   refine⟨_,rfl,.inr (.inl ⟨R1,_,1,_,rfl,rfl,SqT.of (s8 _ _ hat17),rfl,_,rfl,.inl ⟨_,rfl,small (by rw[q0n];lia),?_⟩⟩)⟩;rw[z9p (l:=l1) (j:=12) (by decide),Ce (by show l1.length<=12;lia)];refine .inr (.inl ⟨_,_,rfl,rfl,by rw[e35,q0n,q0n];exact small (by show 1+l1.length<=_;lia),by show 3<=sizeLine;decide,fun kt hkt=>?_⟩);rw[e35,q2d];have fdt:=fd8.new (o:=.lst [.str (Ab "{1+4}x"),.str (Ab "{n}"),.str (Ab "{1+0}{n3}")]) hkt;have st:=s8.new (o:=.lst [.str (Ab "{1+4}x"),.str (Ab "{n}"),.str (Ab "{1+0}{n3}")]) hkt;have hta:kt≠a:=(fd8.feed.na hkt).symm;have t8t:=((Same.refl H8).new (o:=.lst [.str (Ab "{1+4}x"),.str (Ab "{n}"),.str (Ab "{1+0}{n3}")]) hkt) _ _ t8;refine⟨_,rfl,a,b,3,rfl,fdt.feed,by decide,by decide,fun rA H9 rA0 rA1 fd9=>?_⟩;obtain⟨y,hy1,hy2⟩:=z1d (xs:=[V.str (Ab "{1+4}x"),.str (Ab "{n}"),.str (Ab "{1+0}{n3}")]) rA0 (by simpa using rA1);refine .inl ⟨kt,_,rA,y,rfl,rfl,SqL.of (fd9.at q0e hta),hy2,by show 4<=sizeLine;decide,fun R2 hR2=>?_⟩;have s9:=(Same.refl H9).new (o:=.tup [.str (Ab "slip"),.str (mk ([35]++l1)),y,.int 0]) hR2;obtain⟨kN,gN⟩:=x4s (K:=K) (H:=upd H9 R2 (.tup [.str (Ab "slip"),.str (mk ([35]++l1)),y,.int 0])) (l:=l1) (by lia) hlo1 (As hy1) q0e;have fd9':=(fdt.trans fd9).same s9;have kk:∀{R:Addr} {xs:List V},H7 R=some (.tup xs)->upd H9 R2 (.tup [.str (Ab "slip"),.str (mk ([35]++l1)),y,.int 0]) R=some (.tup xs):=fun e=>s9 _ _ (q1t fdt.feed fd9 (st _ _ e));have c09:=c07.tk fun xs e=>kk e;have gd09:=gd07.tk fun xs e=>kk e;have t9:=s9 _ _ (q1t fdt.feed fd9 t8t);generalize upd H9 R2 (.tup [.str (Ab "slip"),.str (mk ([35]++l1)),y,.int 0])=HA at kN gN fd9' c09 gd09 t9;refine⟨_,rfl,a,b,2,rfl,fd9'.feed,by decide,by decide,fun rB HB _ _ fdB=>.inl ⟨rfl,_,rfl,?_⟩⟩;have tk:=fun{R:Addr} {xs:List V} (e:HA R=some (.tup xs))=>q1t fd9'.feed fdB e;have fdB':=fd9'.trans fdB;refine ite2 (fun _=>?_) (fun _=>⟨R0,R2,.pl q0,.ns,T1,rfl,fdB',CRule.tk c09 fun xs e=>tk e,kN.tk fun xs e=>tk e,gd09.tk fun xs e=>tk e,gN.tk fun xs e=>tk e,rfl,rfl,tk t9⟩);exact⟨_,rfl,_,rfl,_,_,rfl,R2,R0,.ns,.pl q0,T1,rfl,fdB',kN.tk fun xs e=>tk e,CRule.tk c09 fun xs e=>tk e,gN.tk fun xs e=>tk e,gd09.tk fun xs e=>tk e,rfl,rfl,tk t9⟩
  clear c06 c16 gd06 gd16 hat16 tTd fd6 hlo1 hll1;rintro σ' H7 ⟨R0,R1,r,q,Td,rfl,fd7,k0,k1,gd0,gd1,o0,o1,tTd⟩;refine⟨fun σ' H'=>∃R1 q Td,σ'=[some (.ref sc),some (.ref a),some (.int (0+(i:Int))),some (.str g),some (.ref R0),some (.ref R1),some (.str (mk mo6)),some (.int (mo:Int)),some (.ref Td),x9]/\Fd a b H1 H'/\RkAt K H' R0 r/\RkAt K H' R1 q/\Gd K H' R0/\H' Td=some (.tup (dueR mo r q).vs),?_,?_⟩;rotate_left
  ·refine⟨_,rfl,a,b,4,rfl,fd7.feed,by decide,by decide,fun r9 H8 _ _ fd8=>.inl ⟨rfl,_,rfl,?_⟩⟩;have tk:=fun{R:Addr} {xs:List V} (e:H7 R=some (.tup xs))=>q1t fd7.feed fd8 e;have fd8':=fd7.trans fd8;refine ite2 (fun _=>?_) (fun _=>⟨R1,q,Td,rfl,fd8',k0.tk fun xs e=>tk e,k1.tk fun xs e=>tk e,gd0.tk fun xs e=>tk e,tk tTd⟩);refine⟨_,rfl,_,rfl,a,b,R1,rfl,fd8'.feed,gd1.tk fun xs e=>tk e,fun U R' T' r' d H9 fd9 hU hk ho ht=>?_⟩;have tk2:=fun{R:Addr} {xs:List V} (e:H8 R=some (.tup xs))=>q1t fd8'.feed fd9 e;refine⟨U,_,rfl,SqT.of hU,rfl,_,_,rfl,_,_,rfl,rfl,R',r',T',rfl,fd8'.trans fd9,k0.tk fun xs e=>tk2 (tk e),hk,gd0.tk fun xs e=>tk2 (tk e),?_⟩;have:dueR mo r r'=d:=by unfold dueR;rw[o0,ho];rfl
   rw[this];exact ht
  clear k0 k1 gd0 gd1 tTd fd7;rintro σ' H8 ⟨R1,q,Td,rfl,fd8,k0,k1,gd0,tTd⟩;refine⟨fun σ' H'=>∃R0 r Td,σ'=[some (.ref sc),some (.ref a),some (.int (0+(i:Int))),some (.str g),some (.ref R0),some (.ref R1),some (.str (mk mo6)),some (.int (mo:Int)),some (.ref Td),x9]/\Fd a b H1 H'/\RkAt K H' R0 r/\RkAt K H' R1 q/\H' Td=some (.tup (dueR mo r q).vs),?_,?_⟩;rotate_left
  ·refine⟨_,rfl,a,b,4,rfl,fd8.feed,by decide,by decide,fun r9 H9 _ _ fd9=>.inl ⟨rfl,_,rfl,?_⟩⟩;have tk:=fun{R:Addr} {xs:List V} (e:H8 R=some (.tup xs))=>q1t fd8.feed fd9 e;have fd9':=fd8.trans fd9;refine ite2 (fun _=>?_) (fun _=>⟨R0,r,Td,rfl,fd9',k0.tk fun xs e=>tk e,k1.tk fun xs e=>tk e,tk tTd⟩);refine⟨_,rfl,_,rfl,a,b,R0,rfl,fd9'.feed,gd0.tk fun xs e=>tk e,fun U R' T' r' d HA fdA hU hk ho ht=>?_⟩;have tk2:=fun{R:Addr} {xs:List V} (e:H9 R=some (.tup xs))=>q1t fd9'.feed fdA e;refine⟨U,_,rfl,SqT.of hU,rfl,_,_,rfl,_,_,rfl,rfl,R',r',T',rfl,fd9'.trans fdA,hk,k1.tk fun xs e=>tk2 (tk e),?_⟩;have:dueR mo r' q=d:=by unfold dueR;rw[ho];rfl
   rw[this];exact ht
  clear k0 k1 gd0 tTd fd8;rintro σ' H9 ⟨R0,r,Td,rfl,fd9,k0,k1,tTd⟩;refine⟨fun σ' H'=>∃v:Int,σ'=[some (.ref sc),some (.ref a),some (.int (0+(i:Int))),some (.str g),some (.ref R0),some (.ref R1),some (.str (mk mo6)),some (.int (mo:Int)),some (.ref Td),some (.int v)]/\Same H9 H',?_,?_⟩;rotate_left
  ·refine⟨_,rfl,_,rfl,by show 2<=sizeLine;decide,fun L hL=>?_⟩;have sL:=(Same.refl H9).new (o:=.lst [.ref R0,.ref R1]) hL;obtain⟨kd0,l0',tt0,st0',w0⟩:=k0.rw_;obtain⟨kd1,l1',tt1,st1',w1⟩:=k1.rw_;refine⟨_,rfl,L,[⟨R0,kd0,l0',tt0,st0'⟩,⟨R1,kd1,l1',tt1,st1'⟩],mo,rfl,⟨q0e,fun x hx=>?_⟩,by simp,mo4,mo1,fun m H7 _ s7=>⟨_,rfl,sL.trans s7⟩⟩;rcases Ap.mp hx with rfl|hx
   ·exact⟨sL _ _ w0.1,w0.2⟩
   ·rw[Al.mp hx];exact⟨sL _ _ w1.1,w1.2⟩
  rintro σ' HA ⟨v,rfl,sA⟩;refine⟨fun bb H'=>Same H9 H',?_,?_⟩;rotate_left
  ·refine⟨_,rfl,by show 2<=sizeLine;decide,fun U hU=>?_⟩;have sU:=sA.new (o:=.tup [.str (Ab "told"),.bl true]) hU;refine .inr ⟨_,_,Dv.dt (sU _ _ tTd),Dv.dt (v:=.ok) q0e,Dv.lay _,Dv.lay _,Aq (Nl _ _) (Dv.dep _),_,rfl,iteB (fun _=>sU) (fun _=>?_)⟩;refine⟨_,rfl,_,_,rfl,rfl,_,rfl,iteB (fun _=>sU) (fun _=>?_)⟩;exact⟨_,rfl,.inl ⟨rfl,_,rfl,sU⟩⟩
  rintro bb HB sB;refine ite2 (fun _=>?_) (fun _=>⟨_,_,_,_,_,_,_,_,rfl,fd9.same sB⟩);refine⟨_,rfl,_,rfl,_,rfl,R0,R1,r,q,mo,rfl,k0.same sB,k1.same sB,mo4,fun T1 HC sC hT1=>?_⟩;refine⟨_,rfl,.inr ⟨_,_,Dv.dt hT1,Dv.dt (sC _ _ (sB _ _ tTd)),Dv.lay _,Dv.lay _,Aq (Nl _ _) (Dv.dep _),_,rfl,?_⟩⟩;rw[Dv.refl];exact iteF ⟨_,_,_,_,_,_,_,_,rfl,fd9.same (sB.trans sC)⟩
end
end K
set_option maxHeartbeats 4000000
namespace K
open PySem L2 TX
theorem df_mk{K:Af}{mg:Str->Option Value}{h:Heap}{x:Str}{st:Stmt}{ps:List Str}{f:Addr}{oc:Value}{od an:Option Addr}{osl:Array (Option Value)}{kV doc pm cdv ct:Value}(X:K.In h)(G:h.Ns Cb mg)(a:Fv K Cb x=some (some (.ref f)))(l:K.lookup f=some ⟨oc,od,.func (Iy x x (defArgs st) (defBody st) (defScope st) .none kV doc pm an cdv ct),osl⟩)(c:Mo K cdv x=true)(k:Fy K (.ref f)=true)(hb:∀(kV doc pm:Value) (an:Option Addr) (cdv ct:Value) (us:List Value),us.length=ps.length->bindArgs (Iy x x (defArgs st) (defBody st) (defScope st) .none kV doc pm an cdv ct) ⟨us,[]⟩=pure (ps.zip us)):Df K mg x st ps :=
 ⟨f,_,z1b l c k,Jm X G a,(z1b (st:=st) l c k).binds hb⟩
structure Eb (K:Af) (mg:Str->Option Value) (D:Addr) (mc:Value):Prop where
 gl:mg "HallError" = some (.ref D)
 base:EBase K D
 ini:EIni K D mc
 hn:Js K (.builtin "object.__class__") "__get__" = some (some (.builtin "getset_descriptor.__get__"))
 htk:Qb K (.builtin "object.__class__")=some true
theorem eb_mk{K:Af}{mg:Str->Option Value}{h:Heap}(X:K.In h)(G:h.Ns Cb mg){D:Addr}{nm qn:Str}{N:Addr}{bs:List Value}{sn:List Str}{sub:List Value}{ab:Bool}{col:Option Bool}{dd:Option Addr}{k0 k1 k2 k3 k5:Option Value}{oc mc:Value}{od:Option Addr}{es:Array Lk}{ep:Nat}{sl:Array (Option Value)}(g:Fv K Cb "HallError" = some (some (.ref D)))(l:K.lookup D=some (Cy nm qn D N bs bmV true sn sub ab col dd k0 k1 k2 k3 k5 "ValueError.__new__"))(n:K.lookup N=some ⟨oc,od,.dict es ep,sl⟩)(s:es.toList.all strKey=true)(i:Fv K N "__init__" = some none)(sp:Js K (.ref D) "__getattribute__" = some (some (.builtin "type.__getattribute__")))(tm:W.typeIn K (.ref D)=some mc)(rd:W.readsIn K D mc=true)(fc:W.findCls K (.ref D) mc "__init__" = some (.val (.builtin "ValueError.__init__")))(hn:Js K (.builtin "object.__class__") "__get__" = some (some (.builtin "getset_descriptor.__get__")))(htk:Qb K (.builtin "object.__class__")=some true):Eb K mg D mc :=
 ⟨Jm X G g,⟨nm,qn,N,bs,sn,sub,ab,col,dd,k0,k1,k2,k3,k5,l,q9l n s,i⟩,⟨sp,rd,fc⟩,hn,htk⟩
structure Ec (K:Af) (mg:Str->Option Value) (x:Str) (C D:Addr) (qual:Str) (st:Stmt) (ps:List Str):Prop where
 gl:mg x=some (.ref C)
 ex:∃f fd,Fun K "__init__" qual st f fd/\ELaw K C D f/\Binds K fd ps []
 sa:Cd K (.ref C) "__setattr__" = some (some (.builtin "object.__setattr__"))
 ga:Cd K (.ref C) "__getattribute__" = some (some (.builtin "BaseException.__getattribute__"))
 gh:Cd K (.ref C) "__getattr__" = some none
 ha:Cd K (.ref C) "__class__" = some (some (.builtin "object.__class__"))
section
variable{K:Af}{mg:Str->Option Value}{x:Str}{C D:Addr}{qual:Str}{st:Stmt}{ps:List Str}{mc:Value}{f:Str}
theorem Ec.ef(E:Ec K mg x C D qual st ps)(B:Eb K mg D mc):Ef K mg x C D qual st ps:=by
 obtain⟨f,fd,h1,h2,h3⟩:=E.ex;exact⟨⟨f,fd,mc,h1,h2,B.base,B.ini,h3⟩,E.gl⟩
theorem Ec.set(E:Ec K mg x C D qual st ps)(tk:Cd K (.ref C) f=some none):ESet K C f:=by
 obtain⟨_,_,_,h,_⟩:=E.ex;exact h.set E.sa tk
theorem Ec.get(E:Ec K mg x C D qual st ps)(tk:Cd K (.ref C) f=some none):EGet K C f:=by
 obtain⟨_,_,_,h,_⟩:=E.ex;exact h.get E.ga E.gh tk
theorem Ec.isi(E:Ec K mg x C D qual st ps)(B:Eb K mg D mc):EIsi K C:=by
 obtain⟨_,_,_,h,_⟩:=E.ex;exact⟨h.clsIn,E.ga,E.gh,E.ha,B.hn,B.htk⟩
theorem Ec.cls(E:Ec K mg x C D qual st ps):ECls K C (.ref D::bmV):=by
 obtain⟨_,_,_,h,_⟩:=E.ex;exact h.cls
theorem Ec.sub(E:Ec K mg x C D qual st ps):SubX K (.ref C) D:=by
 obtain⟨_,_,_,h,_⟩:=E.ex;exact h.sub
theorem ec_mk{h:Heap}(X:K.In h)(G:h.Ns Cb mg){nm qn:Str}{N:Addr}{bs:List Value}{sn:List Str}{sub:List Value}{ab:Bool}{col:Option Bool}{dd:Option Addr}{k0 k1 k2 k3 k5:Option Value}{oc:Value}{od:Option Addr}{es:Array Lk}{ep:Nat}{sl:Array (Option Value)}{fi:Addr}{odi an:Option Addr}{sli:Array (Option Value)}{oci kV dc pm cd ct:Value}(g:Fv K Cb x=some (some (.ref C)))(l:K.lookup C=some (Cy nm qn C N bs (.ref D::bmV) true sn sub ab col dd k0 k1 k2 k3 k5 "ValueError.__new__"))(n:K.lookup N=some ⟨oc,od,.dict es ep,sl⟩)(s:es.toList.all strKey=true)(i:Fv K N "__init__" = some (some (.ref fi)))(li:K.lookup fi=some ⟨oci,odi,.func (Iy "__init__" qual (defArgs st) (defBody st) (defScope st) .none kV dc pm an cd ct),sli⟩)(ci:Mo K cd qual=true)(ki:Fy K (.ref fi)=true)(ti:oci=.type "function")(kp:Fy K (.ref C)=true)(sa:Cd K (.ref C) "__setattr__" = some (some (.builtin "object.__setattr__")))(ga:Cd K (.ref C) "__getattribute__" = some (some (.builtin "BaseException.__getattribute__")))(gh:Cd K (.ref C) "__getattr__" = some none)(ha:Cd K (.ref C) "__class__" = some (some (.builtin "object.__class__")))(hb:∀(kV doc pm:Value) (an:Option Addr) (cdv ct:Value) (us:List Value),us.length=ps.length->bindArgs (Iy "__init__" qual (defArgs st) (defBody st) (defScope st) .none kV doc pm an cdv ct) ⟨us,[]⟩=pure (ps.zip us)):Ec K mg x C D qual st ps :=
 ⟨Jm X G g,⟨fi,_,z1b li ci ki,⟨⟨nm,qn,N,bs,sn,sub,ab,col,dd,k0,k1,k2,k3,k5,l,q9l n s,i⟩,⟨_,li,ti⟩,kp⟩,(z1b (st:=st) li ci ki).binds hb⟩,sa,ga,gh,ha⟩
end
structure Ec0 (K:Af) (mg:Str->Option Value) (x:Str) (C D:Addr):Prop where
 gl:mg x=some (.ref C)
 lw:EBase K D->ELaw0 K C D
 ga:Cd K (.ref C) "__getattribute__" = some (some (.builtin "BaseException.__getattribute__"))
 gh:Cd K (.ref C) "__getattr__" = some none
 ha:Cd K (.ref C) "__class__" = some (some (.builtin "object.__class__"))
section
variable{K:Af}{mg:Str->Option Value}{x:Str}{C D:Addr}{mc:Value}
theorem Ec0.law(E:Ec0 K mg x C D)(B:Eb K mg D mc):ELaw0 K C D:=E.lw B.base
theorem Ec0.isi(E:Ec0 K mg x C D)(B:Eb K mg D mc):EIsi K C:=⟨(E.law B).clsIn,E.ga,E.gh,E.ha,B.hn,B.htk⟩
theorem ec0_mk{h:Heap}(X:K.In h)(G:h.Ns Cb mg){nm qn:Str}{N:Addr}{bs:List Value}{sn:List Str}{sub:List Value}{ab:Bool}{col:Option Bool}{dd:Option Addr}{k0 k1 k2 k3 k5:Option Value}{oc:Value}{od:Option Addr}{es:Array Lk}{ep:Nat}{sl:Array (Option Value)}(g:Fv K Cb x=some (some (.ref C)))(l:K.lookup C=some (Cy nm qn C N bs (.ref D::bmV) true sn sub ab col dd k0 k1 k2 k3 k5 "ValueError.__new__"))(n:K.lookup N=some ⟨oc,od,.dict es ep,sl⟩)(s:es.toList.all strKey=true)(i:Fv K N "__init__" = some none)(kp:Fy K (.ref C)=true)(ga:Cd K (.ref C) "__getattribute__" = some (some (.builtin "BaseException.__getattribute__")))(gh:Cd K (.ref C) "__getattr__" = some none)(ha:Cd K (.ref C) "__class__" = some (some (.builtin "object.__class__"))):Ec0 K mg x C D :=
 ⟨Jm X G g,fun B=>⟨⟨nm,qn,N,bs,sn,sub,ab,col,dd,k0,k1,k2,k3,k5,l,q9l n s,i⟩,kp,B⟩,ga,gh,ha⟩
end
theorem len_1{us:List Value}(h:us.length=1):∃x0,us=[x0]:=by
 match us,h with
 |[x0],_=>exact⟨x0,rfl⟩
theorem len_2{us:List Value}(h:us.length=2):∃x0 x1,us=[x0,x1]:=by
 match us,h with
 |[x0,x1],_=>exact⟨x0,x1,rfl⟩
theorem len_3{us:List Value}(h:us.length=3):∃x0 x1 x2,us=[x0,x1,x2]:=by
 match us,h with
 |[x0,x1,x2],_=>exact⟨x0,x1,x2,rfl⟩
theorem len_4{us:List Value}(h:us.length=4):∃x0 x1 x2 x3,us=[x0,x1,x2,x3]:=by
 match us,h with
 |[x0,x1,x2,x3],_=>exact⟨x0,x1,x2,x3,rfl⟩
theorem len_5{us:List Value}(h:us.length=5):∃x0 x1 x2 x3 x4,us=[x0,x1,x2,x3,x4]:=by
 match us,h with
 |[x0,x1,x2,x3,x4],_=>exact⟨x0,x1,x2,x3,x4,rfl⟩
theorem all_mk{lw:Sd}{w:World}{K:Af}{h:Heap}{mg:Str->Option Value}{fa:Addr}(X:K.In h)(G:h.Ns Cb mg)(hfa:mg "law" = some (.ref fa)){f42:Addr}{od42 an42:Option Addr}{sl42:Array (Option Value)}{oc42 kV42 dc42 pm42 cd42 ct42:Value}{eHallError:Addr}{mcH:Value}{eNoPattern:Addr}{eNoTemplate:Addr}{eNoRule:Addr}{eNoSame:Addr}{eTooMuch:Addr}{dC:Addr}{ep:Nat}{ck1 ck2 ck3 ck4:Tok}{dK:Addr}{tnK:Nat}{tdK:Option Addr}{tsK:Array (Option Value)}{tkK0 tkK1 tkK2:Tok}{dO:Addr}{tnO:Nat}{tdO:Option Addr}{tsO:Array (Option Value)}{tkO0 tkO1 tkO2 tkO3 tkO4:Tok}{dS:Addr}{tnS:Nat}{tdS:Option Addr}{tsS:Array (Option Value)}{tkS0 tkS1 tkS2:Tok}(D_all_of:Df K mg "all_of" q7k ["text", "signs"])(D_ask_signs:Df K mg "ask_signs" q2u ["pattern"])(D_text_parts:Df K mg "text_parts" q3m ["text"])(D_parts_of:Df K mg "parts_of" q3n ["pattern"])(D_asked:Df K mg "asked" q6q ["template", "at", "signs"])(D_end_of:Df K mg "end_of" q7l ["template", "at", "signs", "most"])(D_read_count:Df K mg "read_count" q2k ["template", "at"])(D_read_noughts:Df K mg "read_noughts" q2c ["template", "at", "gap"])(D_read_more:Df K mg "read_more" q2v ["template", "at", "gap"])(D_read_gap:Df K mg "read_gap" q3o ["template", "at", "gap"])(D_read_mark:Df K mg "read_mark" q2y ["template", "at"])(D_read_into:Df K mg "read_into" q2x ["template", "at"])(D_read_text:Df K mg "read_text" q2w ["template", "at"])(D_read_piece:Df K mg "read_piece" q2l ["template", "at"])(D_pieces_of:Df K mg "pieces_of" q2z ["template"])(D_ask_gap:Df K mg "ask_gap" q4g ["piece", "gap_signs"])(D_ask_piece:Df K mg "ask_piece" q3a ["piece", "kind", "gap_signs"])(D_ask_rule:Df K mg "ask_rule" q3p ["rule"])(D_gap_takes:Df K mg "gap_takes" q4a ["gap_sign", "text"])(D_takes:Df K mg "takes" q9q ["part", "text"])(D_furthest_ends:Df K mg "furthest_ends" q2f ["part", "name", "later"])(D_ends_of_parts:Df K mg "ends_of_parts" q2g ["parts", "name"])(D_reading:Df K mg "reading" q5t ["pattern", "name"])(D_with_noughts:Df K mg "with_noughts" q2q ["text", "width"])(D_gap_text:Df K mg "gap_text" q4r ["piece", "text"])(D_piece_text:Df K mg "piece_text" q3q ["piece", "gap_texts", "count"])(D_tells:Df K mg "tells" q9w ["rule", "name", "count"])(D_ask_pieces:Df K mg "ask_pieces" q2m ["rule"])(D_text_of:Df K mg "text_of" q5u ["rule"])(D_signs_of:Df K mg "signs_of" q4t ["one", "other"])(D_ask_bound:Df K mg "ask_bound" q3b ["many", "most"])(D_other_signs:Df K mg "other_signs" q3c ["name", "named"])(D_longer_names:Df K mg "longer_names" q2r ["names", "named"])(D_compared:Df K mg "compared" q3r ["one", "other", "most"])(D_draw:Df K mg "_law_draw" z3a ["_law_feed", "_law_many"])(D_name_signs:Df K mg "_law_name_signs" q3l [])(D_text:Df K mg "_law_text" z3b ["_law_feed", "_law_signs_here", "_law_size"])(D_signs:Df K mg "_law_signs" z0j ["_law_rules"])(D_shapes:Df K mg "_law_shapes" q7u ["_law_rules", "_law_most_here"])(D_rule:Df K mg "_law_rule" z3r ["_law_feed", "_law_signs_here"])(D_spoilt:Df K mg "_law_spoilt" q7x ["_law_feed", "_law_rule_here"])(D_told_of:Df K mg "_law_told_of" q5z ["_law_one", "_law_other", "_law_most_here"])(a42:Fv K Cb "law" = some (some (.ref f42)))(l42:K.lookup f42=some ⟨oc42,od42,.func (Iy "law" "law" (defArgs q4d) (defBody q4d) (defScope q4d) .none kV42 dc42 pm42 an42 cd42 ct42),sl42⟩)(c42:Mo K cd42 "law" = true)(k42:Fy K (.ref f42)=true)(T:Txt mg)(E0:Eb K mg eHallError mcH)(E_NoPattern:Ec K mg "NoPattern" eNoPattern eHallError "NoPattern.__init__" q1o ["self", "at"])(t_NoPattern_at:Cd K (.ref eNoPattern) "at" = some none)(E_NoTemplate:Ec K mg "NoTemplate" eNoTemplate eHallError "NoTemplate.__init__" q1k ["self", "at"])(t_NoTemplate_at:Cd K (.ref eNoTemplate) "at" = some none)(E_NoRule:Ec0 K mg "NoRule" eNoRule eHallError)(E_NoSame:Ec0 K mg "NoSame" eNoSame eHallError)(E_TooMuch:Ec0 K mg "TooMuch" eTooMuch eHallError)(KO_NoPattern_HallError:Fb K (.ref eNoPattern) (.ref eHallError)=some true)(KO_NoRule_HallError:Fb K (.ref eNoRule) (.ref eHallError)=some true)(KO_NoSame_HallError:Fb K (.ref eNoSame) (.ref eHallError)=some true)(KO_NoSame_ValueError:Fb K (.ref eNoSame) (.type "ValueError")=some true)(KO_NoTemplate_HallError:Fb K (.ref eNoTemplate) (.ref eHallError)=some true)(KO_TooMuch_HallError:Fb K (.ref eTooMuch) (.ref eHallError)=some true)(KO_TooMuch_ValueError:Fb K (.ref eTooMuch) (.type "ValueError")=some true)(KA_NoPattern__NoTemplate__NoRule__NoSame__TooMuch:Dj K (.ref eNoPattern) [.ref eNoTemplate,.ref eNoRule,.ref eNoSame,.ref eTooMuch]=some false)(KA_NoRule__NoPattern:Dj K (.ref eNoRule) [.ref eNoPattern]=some false)(KA_NoRule__NoPattern__NoTemplate__NoSame__TooMuch:Dj K (.ref eNoRule) [.ref eNoPattern,.ref eNoTemplate,.ref eNoSame,.ref eTooMuch]=some false)(KA_NoRule__NoTemplate:Dj K (.ref eNoRule) [.ref eNoTemplate]=some false)(KA_NoSame__NoPattern:Dj K (.ref eNoSame) [.ref eNoPattern]=some false)(KA_NoSame__NoPattern__NoTemplate__NoRule__TooMuch:Dj K (.ref eNoSame) [.ref eNoPattern,.ref eNoTemplate,.ref eNoRule,.ref eTooMuch]=some false)(KA_NoSame__NoRule:Dj K (.ref eNoSame) [.ref eNoRule]=some false)(KA_NoSame__NoTemplate:Dj K (.ref eNoSame) [.ref eNoTemplate]=some false)(KA_NoTemplate__NoPattern:Dj K (.ref eNoTemplate) [.ref eNoPattern]=some false)(KA_NoTemplate__NoPattern__NoRule__NoSame__TooMuch:Dj K (.ref eNoTemplate) [.ref eNoPattern,.ref eNoRule,.ref eNoSame,.ref eTooMuch]=some false)(KA_TooMuch__NoPattern:Dj K (.ref eTooMuch) [.ref eNoPattern]=some false)(KA_TooMuch__NoPattern__NoTemplate__NoRule__NoSame:Dj K (.ref eTooMuch) [.ref eNoPattern,.ref eNoTemplate,.ref eNoRule,.ref eNoSame]=some false)(KA_TooMuch__NoRule:Dj K (.ref eTooMuch) [.ref eNoRule]=some false)(KA_TooMuch__NoSame:Dj K (.ref eTooMuch) [.ref eNoSame]=some false)(KA_TooMuch__NoTemplate:Dj K (.ref eTooMuch) [.ref eNoTemplate]=some false)(gC:Fv K Cb "CASES" = some (some (.ref dC)))(lC:K.lookup dC=some ⟨.type "dict",none,.dict #[⟨Lf w.params (Ab "u"),.str (Ab "u") ck1,.str (Ab "great") ck2⟩,⟨Lf w.params (Ab "l"),.str (Ab "l") ck3,.str (Ab "small") ck4⟩] ep,#[]⟩)(gK:Fv K Cb "KINDS" = some (some (.ref dK)))(lK:K.lookup dK=some ⟨.type "tuple",tdK,.seq #[.str (Ab "slip") tkK0,.str (Ab "drawer") tkK1,.str (Ab "all") tkK2] tnK,tsK⟩)(gO:Fv K Cb "OF_A_GAP" = some (some (.ref dO)))(lO:K.lookup dO=some ⟨.type "tuple",tdO,.seq #[.str (Ab "gap") tkO0,.str (Ab "great") tkO1,.str (Ab "small") tkO2,.str (Ab "noughts") tkO3,.str (Ab "more") tkO4] tnO,tsO⟩)(gS:Fv K Cb "SORTS" = some (some (.ref dS)))(lS:K.lookup dS=some ⟨.type "tuple",tdS,.seq #[.str (Ab "0123456789") tkS0,.str (Ab "abcdefghijklmnopqrstuvwxyz") tkS1,.str (Ab "-_.") tkS2] tnS,tsS⟩):
  ∃fd:Jw,(∀(s:Ah) (v:Value),Oa s fd ⟨[v],[]⟩ [("_law_script",v)])/\∀base:Heap,K.In base->base.Ns Cb mg->FnOk lw.prog w K mg base CX0 12 fa fd ["_law_script"] (spLaw K):=by
 have e:=hfa.symm.trans (Jm X G a42);cases e;have EB_HallError:=E0.base;have gl_HallError:=E0.gl;have EF_NoPattern:=E_NoPattern.ef E0;have ES_NoPattern_at:=E_NoPattern.set t_NoPattern_at;have EG_NoPattern_at:=E_NoPattern.get t_NoPattern_at;have EI_NoPattern:=E_NoPattern.isi E0;have gl_NoPattern:=E_NoPattern.gl;have EF_NoTemplate:=E_NoTemplate.ef E0;have ES_NoTemplate_at:=E_NoTemplate.set t_NoTemplate_at;have EG_NoTemplate_at:=E_NoTemplate.get t_NoTemplate_at;have EI_NoTemplate:=E_NoTemplate.isi E0;have gl_NoTemplate:=E_NoTemplate.gl;have EL_NoRule:=E_NoRule.law E0;have EI_NoRule:=E_NoRule.isi E0;have gl_NoRule:=E_NoRule.gl;have EL_NoSame:=E_NoSame.law E0;have EI_NoSame:=E_NoSame.isi E0;have gl_NoSame:=E_NoSame.gl;have EL_TooMuch:=E_TooMuch.law E0;have EI_TooMuch:=E_TooMuch.isi E0;have gl_TooMuch:=E_TooMuch.gl;have FL:=z1b (st:=q4d) l42 c42 k42;refine⟨Iy "law" "law" (defArgs q4d) (defBody q4d) (defScope q4d) .none kV42 dc42 pm42 an42 cd42 ct42,fun s v=>.of_eq rfl,fun base _ _=>?_⟩;have c1:=x3q (P:=lw.prog) (w:=w) (base:=base) D_draw T;have c2:=x3s (P:=lw.prog) (w:=w) (base:=base) D_text T c1;have C1:Calls1 lw.prog w K mg base:=⟨z1n D_ask_signs T,q5e D_text_parts T⟩
 have cAO:=z8k (P:=lw.prog) (w:=w) (base:=base) D_all_of T;have CA:CallsA lw.prog w K mg base:=⟨cAO⟩
 have CB:CallsB lw.prog w K mg base:=⟨z1p D_gap_takes T CA⟩
 have CC:CallsC lw.prog w K mg base:=⟨x0q D_takes T CB⟩
 have CD:CallsD lw.prog w K mg base:=⟨q6h D_furthest_ends T CC⟩
 have cPO:=z3c (P:=lw.prog) (w:=w) (base:=base) D_parts_of T C1;have CE:CallsE lw.prog w K mg base:=⟨cPO,q6i D_ends_of_parts T CD⟩
 have cAs:=x0r (P:=lw.prog) (w:=w) (base:=base) D_asked T;have CT:CallsT lw.prog w K mg base:=⟨cAs,z1q D_end_of T⟩
 have CU:CallsU lw.prog w K mg base:=⟨cAs,q7m D_read_noughts T CT,z1r D_read_more T CT,⟨dC,Jm X G gC,z4p lC⟩⟩
 have CV:CallsV lw.prog w K mg base:=⟨cAs,q9r D_read_count T CT,z3d D_read_gap T CU⟩
 have CW:CallsW lw.prog w K mg base:=⟨z1u D_read_mark T CV,z1t D_read_into T,z1s D_read_text T CT⟩
 have CX:CallsX lw.prog w K mg base:=⟨q9t D_read_piece T CW⟩
 have cPi:=z1v (P:=lw.prog) (w:=w) (base:=base) D_pieces_of T CX;have CR:CallsR lw.prog w K mg base:=⟨z6b D_ask_gap T,⟨dO,Jm X G gO,fun H=>.inr ⟨_,_,_,lO,rfl,rfl,by show 5<=sizeLine;decide,.cons ⟨_,rfl⟩ (.cons ⟨_,rfl⟩ (.cons ⟨_,rfl⟩ (.cons ⟨_,rfl⟩ (.cons ⟨_,rfl⟩ .nil))))⟩⟩⟩
 have CS:CallsS lw.prog w K mg base:=⟨cPO,cPi,z1w D_ask_piece T CR,⟨dK,Jm X G gK,fun H=>.inr ⟨_,_,_,lK,rfl,rfl,by show 3<=sizeLine;decide,.cons ⟨_,rfl⟩ (.cons ⟨_,rfl⟩ (.cons ⟨_,rfl⟩ .nil))⟩⟩⟩
 have cWN:=q7o (P:=lw.prog) (w:=w) (base:=base) D_with_noughts T;have CG:CallsGT lw.prog w K mg base:=⟨z3f D_gap_text T ⟨cWN⟩,cWN⟩
 have cAR:=z3e (P:=lw.prog) (w:=w) (base:=base) D_ask_rule T CS;have CTl:CallsTl lw.prog w K mg base:=⟨cAR,z6a D_reading T CE,cPi,q9v D_piece_text T CG⟩
 have cTe:=x0v (P:=lw.prog) (w:=w) (base:=base) D_tells T CTl;have CAP:CallsAP lw.prog w K mg base:=⟨cPi,cPO⟩
 have cAP:=q9x (P:=lw.prog) (w:=w) (base:=base) D_ask_pieces T CAP;have cTx:=z6f (P:=lw.prog) (w:=w) (base:=base) D_text_of T CAP;have cSo:=z3h (P:=lw.prog) (w:=w) (base:=base) D_signs_of T ⟨cTx⟩;have cBd:=z1y (P:=lw.prog) (w:=w) (base:=base) D_ask_bound T;have cOS:=q8a (P:=lw.prog) (w:=w) (base:=base) D_other_signs T (Jm X G gS) (fun H=>.inr ⟨_,_,_,lS,rfl,rfl,by show 3<=sizeLine;decide,.cons ⟨_,rfl⟩ (.cons ⟨_,rfl⟩ (.cons ⟨_,rfl⟩ .nil))⟩);have cLg:=z8t (P:=lw.prog) (w:=w) (base:=base) D_longer_names T ⟨cOS⟩;have cCp:=z3j (P:=lw.prog) (w:=w) (base:=base) D_compared T ⟨cAR,cAP,cSo,cBd,cLg,z1z cTe⟩;have cNS:=q9o (P:=lw.prog) (w:=w) (base:=base) D_name_signs;have cEp:=q5v (P:=lw.prog) (w:=w) (base:=base) EF_NoPattern gl_HallError ES_NoPattern_at;have cPX:=z2a (P:=lw.prog) (w:=w) (base:=base) D_parts_of T ⟨cEp,q9z D_ask_signs T ⟨cEp⟩,q5e D_text_parts T⟩;have cEt:=q5i (P:=lw.prog) (w:=w) (base:=base) EF_NoTemplate gl_HallError ES_NoTemplate_at;have cAX:=z8y (P:=lw.prog) (w:=w) (base:=base) D_asked T ⟨cEt⟩;have CA6:CallsA6 lw.prog w K mg base eNoTemplate:=⟨cAX,z1q D_end_of T⟩
 have CG6:CallsG6 lw.prog w K mg base eNoTemplate:=⟨cAX,q6k D_read_noughts T CA6,z0a D_read_more T CA6,⟨dC,Jm X G gC,z4p lC⟩⟩
 have CM6:CallsM6 lw.prog w K mg base eNoTemplate:=⟨cAX,q8b D_read_count T CA6,z2b D_read_gap T CG6⟩
 have CP6:CallsP6 lw.prog w K mg base eNoTemplate:=⟨z0b D_read_mark T CM6,z0c D_read_into T ⟨cEt⟩,z0d D_read_text T CA6⟩
 have cPiX:=z0e (P:=lw.prog) (w:=w) (base:=base) D_pieces_of T ⟨cEt,q8c D_read_piece T CP6⟩;have CR7:CallsR7 lw.prog w K mg base eNoRule eHallError:=⟨z3l D_ask_gap T ⟨EL_NoRule,gl_NoRule⟩,CR.of_a_gap,EL_NoRule,gl_NoRule⟩
 have cRX:=z2c (P:=lw.prog) (w:=w) (base:=base) D_ask_rule T ⟨cPO,cPX,cPi,cPiX,CS.ask_piece,z0f D_ask_piece T CR7,CS.kinds,EL_NoRule,gl_NoRule⟩ (fun l i g h=>q8e h g);have cSg:=x1i (P:=lw.prog) (w:=w) (base:=base) D_signs T ⟨cNS⟩;have cSh:=z9g (P:=lw.prog) (w:=w) (base:=base) D_shapes T ⟨cSg⟩;have cRu:=x4o (P:=lw.prog) (w:=w) (base:=base) D_rule T ⟨c1,c2⟩;have cAPX:=q8d (P:=lw.prog) (w:=w) (base:=base) D_ask_pieces T ⟨cPi,EL_NoSame,gl_NoSame⟩;have cBX:=z0l (P:=lw.prog) (w:=w) (base:=base) D_ask_bound T ⟨EL_TooMuch,gl_TooMuch⟩;have cCX:=z2h (P:=lw.prog) (w:=w) (base:=base) D_compared T ⟨cAR,cRX,cAP,cAPX,cSo,cBd,cBX,cLg,z1z cTe⟩;have CTo:CallsTo lw.prog w K mg base eNoPattern eNoTemplate eNoRule eNoSame eTooMuch eHallError (.ref eHallError::bmV):=⟨cCp,cCX,gl_HallError,gl_NoPattern,gl_NoTemplate,gl_NoRule,gl_NoSame,gl_TooMuch,E_NoPattern.cls,E_NoTemplate.cls,ELaw0.cls EL_NoRule,ELaw0.cls EL_NoSame,ELaw0.cls EL_TooMuch,q3e KA_NoTemplate__NoPattern KO_NoTemplate_HallError,q3e KA_NoRule__NoPattern KO_NoRule_HallError,q3e KA_NoRule__NoTemplate KO_NoRule_HallError,q3e KA_NoSame__NoPattern KO_NoSame_HallError,q3e KA_NoSame__NoTemplate KO_NoSame_HallError,q3e KA_NoSame__NoRule KO_NoSame_HallError,q3e KA_TooMuch__NoPattern KO_TooMuch_HallError,q3e KA_TooMuch__NoTemplate KO_TooMuch_HallError,q3e KA_TooMuch__NoRule KO_TooMuch_HallError,q3e KA_TooMuch__NoSame KO_TooMuch_HallError,EI_NoPattern,EI_NoTemplate,EI_NoRule,EI_NoSame,EI_TooMuch,EG_NoPattern_at,EG_NoTemplate_at,KO_NoPattern_HallError,KO_NoTemplate_HallError,KO_NoRule_HallError,KO_NoSame_ValueError,KO_TooMuch_ValueError,KA_NoPattern__NoTemplate__NoRule__NoSame__TooMuch,KA_NoTemplate__NoPattern__NoRule__NoSame__TooMuch,KA_NoRule__NoPattern__NoTemplate__NoSame__TooMuch,KA_NoSame__NoPattern__NoTemplate__NoRule__TooMuch,KA_TooMuch__NoPattern__NoTemplate__NoRule__NoSame⟩
 have cTo:=z6k (P:=lw.prog) (w:=w) (base:=base) D_told_of T CTo;have cSp:=z9o (P:=lw.prog) (w:=w) (base:=base) D_spoilt T ⟨c1⟩;have CL:CallsL lw.prog w K mg base:=⟨c1,c2,cNS,cRu,cSh,cSp,cTo⟩
 exact FL.ok sc_law (fun vs H Q E h=>by obtain⟨a,ns,rfl,_⟩:=h;rfl) (fun cdv A outer s H vs Q E hr h=>x1l T CL _ cdv A outer s H vs Q E hr h)
theorem walk{l:Sd}{q:Program}{loose:List Str}{XP:(Str->Option Value)->Heap->Prop}{YP:World->Heap->Prop}{d:DefRec}{K:Params->Af}(hn:l.most=some 63)(hdf:d.params.defaults=[])(hY:∀(w:World) (h:Heap),YP w h->(K w.params).In h)(F:∀(w:World) (mg:Str->Option Value) (fa:Addr) (h:Heap),(K w.params).In h->h.Ns Cb mg->mg d.name=some (.ref fa) ->
   ∃fd:Jw,(∀(s:Ah) (u:Value),Oa s fd ⟨[u],[]⟩ [("_law_script",u)])/\∀base:Heap,(K w.params).In base->base.Ns Cb mg->FnOk l.prog w (K w.params) mg base CX0 12 fa fd ["_law_script"] (spLaw (K w.params))):
  W.WalkO q loose XP YP l.row.toRowW d [] (fun f vs=>Ru f vs) :=
 L2.walk_of (n:=63) (k:=12) (x := "_law_script") (CX:=fun _=>CX0) (sp:=fun w=>spLaw (K w.params)) hn (by decide) hdf ⟨rfl,by decide,by decide,rfl⟩ hY F (fun _ _ a ns hl _ hS=>⟨a,ns,rfl,hS,hl,fun _=>rfl⟩) fun _ _ _ _ _ z=>z
end K
namespace K
open PySem PySem.W PyProof.Rows
abbrev loose:List Str:=[Ab "HallError",Ab "NoPattern",Ab "NoTemplate",Ab "NoRule",Ab "NoSame",Ab "TooMuch",Ab "FIGURES",Ab "LETTERS",Ab "NAME_SIGNS",Ab "all_of",Ab "GAP_SIGNS",Ab "MOST_GAPS",Ab "ask_signs",Ab "text_parts",Ab "parts_of",Ab "FROM_ONE",Ab "FROM_TWO",Ab "MOST_FIGURES",Ab "CASES",Ab "asked",Ab "end_of",Ab "read_count",Ab "read_noughts",Ab "read_more",Ab "read_gap",Ab "read_mark",Ab "read_into",Ab "read_text",Ab "read_piece",Ab "pieces_of",Ab "KINDS",Ab "OF_A_GAP",Ab "MOST_START",Ab "ask_gap",Ab "ask_piece",Ab "ask_rule",Ab "gap_takes",Ab "takes",Ab "furthest_ends",Ab "ends_of_parts",Ab "reading",Ab "with_noughts",Ab "gap_text",Ab "piece_text",Ab "tells",Ab "SORTS",Ab "MOST_NAMES_ASKED",Ab "ask_pieces",Ab "text_of",Ab "signs_of",Ab "ask_bound",Ab "other_signs",Ab "longer_names",Ab "compared",Ab "_law_draw",Ab "_law_name_signs",Ab "_law_other_signs",Ab "_law_text",Ab "_law_signs",Ab "_law_shapes",Ab "_law_most",Ab "_law_rule",Ab "_law_varied",Ab "_law_spoilt",Ab "_law_told_of"]
abbrev vw:Program:=view PySem.Challenge.pw_renamehall_k72_not_held_against [74]
abbrev xt(s:Ah):Bool:=xlAt vw [] s&&recOk [] s
end K
open PySem PySem.W PyProof.Rows
local macro_rules | `(tactic| o_head $H) => `(tactic| (
  refine holds_open (q := K.vw) (loose := K.loose) (Xt := K.xt) (XP := XL K.vw []) (Yf := Hook.obs $H) (Ya := Hook.val $H) (YP := Hook.says $H) (N := 60000) ?hl (Hook.of $H) (Hook.keeps $H) (fun s e => xl_of s (Kv.mp e).1) XL.keeps
    (by rfl) (by rfl) (by rfl) (fun s e => recFacts_of (Kv.mp e).2) (by rfl) (by first | assumption | decide +kernel) (by decide +kernel) ⟨rfl, rfl, rfl, rfl, rfl, by decide +kernel⟩ ?hw ?hc))
set_option maxRecDepth 100000 in
set_option maxHeartbeats 0 in
theorem PySem.Challenge.cw_renamehall_k72_not_held_against_holds : PySem.Challenge.rw_renamehall_k72_not_held_against.Holds := by
  w_on; o_law; k_head; (case hw => w_witness2)
  (case hl =>
    refine HD.left2 "special-get-raises" (by kernel_rfl) (by rfl) (fun _ => by kernel_rfl) fun b => ?_
    cases b
    · intro w os
      change (segRunT Lq PySem.Challenge.pw_renamehall_k72_not_held_against (w.withFollow "special-get-raises" false) 11 (some (.ref 6)) 0 60000 (HD.bootT (w.withFollow "special-get-raises" false).params os) (topStub PySem.Challenge.pw_renamehall_k72_not_held_against)).map (fun r => ((staticsOk (En PySem.Challenge.pw_renamehall_k72_not_held_against.main.body) (boot_heap (w.withFollow "special-get-raises" false).params) r.2.1.abs.heap && namesBound PySem.Challenge.pw_renamehall_k72_not_held_against r.2.1.abs.heap && gensDone r.2.1.abs && laidKept (boot_heap (w.withFollow "special-get-raises" false).params) r.2.1.abs.heap), openSeen K.vw K.loose (En PySem.Challenge.pw_renamehall_k72_not_held_against.main.body) K.xt true r.2.1.abs, _)) = some (true, openGood K.vw K.loose, _)
      unfold K.xt K.vw
      rw [Jn, Jp, Jo, Jq, PySem.W.Fast.te18416657316554269624]
      kernel_rfl
    · intro w os
      change (segRunT Lq PySem.Challenge.pw_renamehall_k72_not_held_against (w.withFollow "special-get-raises" true) 11 (some (.ref 6)) 0 60000 (HD.bootT (w.withFollow "special-get-raises" true).params os) (topStub PySem.Challenge.pw_renamehall_k72_not_held_against)).map (fun r => ((staticsOk (En PySem.Challenge.pw_renamehall_k72_not_held_against.main.body) (boot_heap (w.withFollow "special-get-raises" true).params) r.2.1.abs.heap && namesBound PySem.Challenge.pw_renamehall_k72_not_held_against r.2.1.abs.heap && gensDone r.2.1.abs && laidKept (boot_heap (w.withFollow "special-get-raises" true).params) r.2.1.abs.heap), openSeen K.vw K.loose (En PySem.Challenge.pw_renamehall_k72_not_held_against.main.body) K.xt true r.2.1.abs, _)) = some (true, openGood K.vw K.loose, _)
      unfold K.xt K.vw
      rw [Jn, Jp, Jo, Jq, PySem.W.Fast.te18416657316554269624]
      kernel_rfl)
  k_fill
  refine K.walk (l := PySem.Challenge.rw_renamehall_k72_not_held_against) rfl rfl (fun w h Y => PySem.W.kIn_of Y) ?F
  case F =>
    intro w mg fa h KX G hmg
    refine' K.all_mk KX G hmg (K.df_mk KX G ?_ ?_ ?_ ?_ ?_) (K.df_mk KX G ?_ ?_ ?_ ?_ ?_) (K.df_mk KX G ?_ ?_ ?_ ?_ ?_) (K.df_mk KX G ?_ ?_ ?_ ?_ ?_) (K.df_mk KX G ?_ ?_ ?_ ?_ ?_) (K.df_mk KX G ?_ ?_ ?_ ?_ ?_) (K.df_mk KX G ?_ ?_ ?_ ?_ ?_) (K.df_mk KX G ?_ ?_ ?_ ?_ ?_) (K.df_mk KX G ?_ ?_ ?_ ?_ ?_) (K.df_mk KX G ?_ ?_ ?_ ?_ ?_) (K.df_mk KX G ?_ ?_ ?_ ?_ ?_) (K.df_mk KX G ?_ ?_ ?_ ?_ ?_) (K.df_mk KX G ?_ ?_ ?_ ?_ ?_) (K.df_mk KX G ?_ ?_ ?_ ?_ ?_) (K.df_mk KX G ?_ ?_ ?_ ?_ ?_) (K.df_mk KX G ?_ ?_ ?_ ?_ ?_) (K.df_mk KX G ?_ ?_ ?_ ?_ ?_) (K.df_mk KX G ?_ ?_ ?_ ?_ ?_) (K.df_mk KX G ?_ ?_ ?_ ?_ ?_) (K.df_mk KX G ?_ ?_ ?_ ?_ ?_) (K.df_mk KX G ?_ ?_ ?_ ?_ ?_) (K.df_mk KX G ?_ ?_ ?_ ?_ ?_) (K.df_mk KX G ?_ ?_ ?_ ?_ ?_) (K.df_mk KX G ?_ ?_ ?_ ?_ ?_) (K.df_mk KX G ?_ ?_ ?_ ?_ ?_) (K.df_mk KX G ?_ ?_ ?_ ?_ ?_) (K.df_mk KX G ?_ ?_ ?_ ?_ ?_) (K.df_mk KX G ?_ ?_ ?_ ?_ ?_) (K.df_mk KX G ?_ ?_ ?_ ?_ ?_) (K.df_mk KX G ?_ ?_ ?_ ?_ ?_) (K.df_mk KX G ?_ ?_ ?_ ?_ ?_) (K.df_mk KX G ?_ ?_ ?_ ?_ ?_) (K.df_mk KX G ?_ ?_ ?_ ?_ ?_) (K.df_mk KX G ?_ ?_ ?_ ?_ ?_) (K.df_mk KX G ?_ ?_ ?_ ?_ ?_) (K.df_mk KX G ?_ ?_ ?_ ?_ ?_) (K.df_mk KX G ?_ ?_ ?_ ?_ ?_) (K.df_mk KX G ?_ ?_ ?_ ?_ ?_) (K.df_mk KX G ?_ ?_ ?_ ?_ ?_) (K.df_mk KX G ?_ ?_ ?_ ?_ ?_) (K.df_mk KX G ?_ ?_ ?_ ?_ ?_) (K.df_mk KX G ?_ ?_ ?_ ?_ ?_) ?_ ?_ ?_ ?_ ⟨mg_none_of KX G ?_, mg_none_of KX G ?_, mg_none_of KX G ?_, mg_none_of KX G ?_, mg_none_of KX G ?_, mg_none_of KX G ?_, mg_none_of KX G ?_, mg_none_of KX G ?_, mg_none_of KX G ?_, mg_none_of KX G ?_, mg_none_of KX G ?_, mg_none_of KX G ?_, mg_none_of KX G ?_, mg_none_of KX G ?_, mg_none_of KX G ?_, mg_none_of KX G ?_, ⟨_, mg_of KX G ?_⟩, ⟨_, mg_of KX G ?_⟩, ⟨_, mg_of KX G ?_⟩, ⟨_, mg_of KX G ?_⟩, ⟨_, mg_of KX G ?_⟩, ⟨_, mg_of KX G ?_⟩, ⟨_, mg_of KX G ?_⟩, ⟨_, mg_of KX G ?_⟩, ⟨_, mg_of KX G ?_⟩, ⟨_, mg_of KX G ?_⟩⟩ (K.eb_mk KX G ?_ ?_ ?_ ?_ ?_ ?_ ?_ ?_ ?_ ?_ ?_) (K.ec_mk KX G ?_ ?_ ?_ ?_ ?_ ?_ ?_ ?_ ?_ ?_ ?_ ?_ ?_ ?_ ?_) ?_ (K.ec_mk KX G ?_ ?_ ?_ ?_ ?_ ?_ ?_ ?_ ?_ ?_ ?_ ?_ ?_ ?_ ?_) ?_ (K.ec0_mk KX G ?_ ?_ ?_ ?_ ?_ ?_ ?_ ?_ ?_) (K.ec0_mk KX G ?_ ?_ ?_ ?_ ?_ ?_ ?_ ?_ ?_) (K.ec0_mk KX G ?_ ?_ ?_ ?_ ?_ ?_ ?_ ?_ ?_) ?_ ?_ ?_ ?_ ?_ ?_ ?_ ?_ ?_ ?_ ?_ ?_ ?_ ?_ ?_ ?_ ?_ ?_ ?_ ?_ ?_ ?_ ?_ ?_ ?_ ?_ ?_ ?_ ?_ ?_
    all_goals try (first | k_is | kit_is | rfl | decide +kernel | (intro _ _ _ _ _ _ us hl; first | (obtain ⟨_, rfl⟩ := K.len_1 hl; rfl) | (obtain ⟨_, _, rfl⟩ := K.len_2 hl; rfl) | (obtain ⟨_, _, _, rfl⟩ := K.len_3 hl; rfl) | (obtain ⟨_, _, _, _, rfl⟩ := K.len_4 hl; rfl) | (obtain ⟨_, _, _, _, _, rfl⟩ := K.len_5 hl; rfl) | (cases us with | nil => rfl | cons _ _ => cases hl)))
